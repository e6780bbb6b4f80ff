import PyProof.Rows.All
import Wide.All
import OpenK.AllK
import Wide.FinOn
import PyProof.P3Eq
import PyProof.TupleKey
import PyProof.DictRoadsH
import PyProof.Rows.RowHeap
import Lean
import PyProof.EqAt
import PyProof.EqKinds
import PyProof.TupleCall
import KE.KDflt
import PyProof.NeData
import PyProof.ConsumeWalk
import PyProof.CompFree
import PyProof.StrWalks
import PyProof.Rows.ListMul
import PyProof.MinMaxWalk
import PyProof.WalkInts
import PyProof.SeqI3
import PyProof.WalksMore
import PyProof.Rows.Range3
import PyProof.Rows.TupTab
import KE.KRevIter
import PyProof.ListRange
import KE.KSortTup
import PyProof.Rows.StrNews2
import PyProof.Rows.StrJoin2
import KE.KNestM
import KE.KDictSum
import PyProof.Rows.EnumRows
import PyProof.ZipIter
import KE.KSortAsk
import PyProof.Rows.SetFrom
import PyProof.Rows.SortStr
import PyProof.SetRoads
import KE.KDictOf
import PyProof.AttrMissHeap
import OpenK.KRaise
import KE.KTryMore
import PyProof.Rows.Catch
import PyProof.NsDelKeeps
import KE.KIsAll
import PyProof.ExcArgsOwn
import OpenK.KOwn
import PyProof.ExcClass3
import PyProof.ExcBaseAll.ValueError
import PyProof.Rows.FStr
import KE.IntTextLaws
import PyProof.Rows.StrFirst
import PyProof.Rows.StrJoinMade
import PyProof.Rows.StrWeight2
import PyProof.Rows.CatFin
import PySem.Challenge.RW_stretchbook_k44_newest
set_option Elab.async false
set_option compiler.extract_closed false
set_option linter.all false
set_option maxRecDepth 100000
set_option maxHeartbeats 4000000
abbrev Atu:=@PySem.wpAny_bind
abbrev Atv:=@PySem.wpAny_pure
abbrev Atw:=@PySem.Heap.get?_push_of_some
abbrev Atx:=@List.getElem?_eq_getElem
abbrev Aty:=@List.mem_append_right
abbrev Atz:=@List.mem_cons_of_mem
abbrev At0:=@List.mem_cons_self
abbrev At1:=@PySem.Heap.lt_size
abbrev At2:=@List.size_toArray
abbrev At3:=@Nat.le_refl
abbrev At4:=@if_pos
abbrev At5:=@List.map_cons
abbrev At6:=@Nat.lt_of_lt_of_le
abbrev At7:=@List.getD_eq_getElem?_getD
abbrev At8:=@if_neg
abbrev At9:=@PySem.Heap.get?_push_size
abbrev Aua:=@Bool.and_eq_true
abbrev Aub:=@Nat.ne_of_lt
abbrev Auc:=@List.mem_of_getElem?
abbrev Aud:=@List.length_map
abbrev Aue:=@List.append_nil
abbrev Auf:=@List.not_mem_nil
abbrev Aug:=@Nat.le_trans
abbrev Auh:=@List.getElem?_map
abbrev Aui:=@List.length_append
abbrev Auj:=@PySem.PassesOwn.never
abbrev Auk:=@Option.bind_some
abbrev Aul:=@Array.length_toList
abbrev Aum:=@PySem.Heap.get?_update_other
abbrev Aun:=@List.getElem?_append_left
abbrev Auo:=@Bool.false_ne_true
abbrev Aup:=@List.mem_cons
abbrev Auq:=@List.mem_append_left
abbrev Aur:=@List.length_cons
abbrev Aus:=@List.getElem?_eq_none
abbrev Aut:=@Nat.lt_irrefl
abbrev Auu:=@decide_eq_false
abbrev Auv:=@PySem.mem_of_lookup
abbrev Auw:=@Nat.zero_le
abbrev Aux:=@PySem.wpAny_Call_Name_kw
abbrev Auy:=@List.getElem?_append_right
abbrev Auz:=@List.getElem_mem
abbrev Au0:=@PySem.wpAny_mono
abbrev Au1:=@of_decide_eq_true
abbrev Au2:=@Option.some.inj
abbrev Au3:=@Bool.false_eq_true
abbrev Au4:=@PySem.wpAny_holding
abbrev Au5:=@List.getElem?_set_self
abbrev Au6:=@PySem.wpAny_call_entry
abbrev Au7:=@decide_eq_true
abbrev Au8:=@PySem.wpAny_newObj_type
abbrev Au9:=@PySem.sizeLine_eq
abbrev Ava:=@List.length_take
abbrev Avb:=@List.pairwise_singleton
abbrev Avc:=@List.getElem?_cons_succ
abbrev Avd:=@List.any_cons
abbrev Ave:=@List.all_cons
abbrev Avf:=@Bool.not_true
abbrev Avg:=@List.map_append
abbrev Avh:=@List.lookup_cons
abbrev Avi:=@List.cons_append
abbrev Avj:=@List.getElem?_set_ne
abbrev Avk:=@Nat.lt_succ_of_lt
abbrev Avl:=@List.find?_cons
abbrev Avm:=@List.map_nil
abbrev Avn:=@Ne.symm
abbrev Avo:=@PySem.wpAny_callSpecial?_slot
abbrev Avp:=@Nat.ne_of_gt
abbrev Avq:=@List.length_singleton
abbrev Avr:=@Bool.eq_iff_iff
abbrev Avs:=@PySem.Heap.size_push
abbrev Avt:=@List.getElem?_of_mem
abbrev Avu:=@PySem.wpAny_passesOwn
abbrev Avv:=@List.drop_eq_getElem_cons
abbrev Avw:=@PySem.Heap.get?_update_self
abbrev Avx:=@Classical.byContradiction
abbrev Avy:=@Array.getElem?_eq_getElem
abbrev Avz:=@congrArg
abbrev Av0:=@Nat.le_succ
abbrev Av1:=@List.map_map
abbrev Av2:=@PySem.wpAny_setField
abbrev Av3:=@Option.isSome_some
abbrev Av4:=@List.getElem?_replicate
abbrev Av5:=@List.getElem?_cons_zero
abbrev Av6:=@PySem.wpAny_typeOf
abbrev Av7:=@Bool.not_false
abbrev Av8:=@PySem.wpAny_getItem_str_slice
abbrev Av9:=@Nat.le_of_lt
abbrev Awa:=@PySem.MeetsSeq3.plain_eq_loop
abbrev Awb:=@Nat.lt_succ_self
abbrev Awc:=@List.length_drop
abbrev Awd:=@PySem.wpAny_truthy_bool
abbrev Awe:=@List.nil_append
abbrev Awf:=@PyProof.Rows.KeyOrd.kle_refl
abbrev Awg:=@Option.isSome_none
abbrev Awh:=@PySem.wpAny_attempt
abbrev Awi:=@decide_eq_true_eq
abbrev Awj:=@Or.inl
abbrev Awk:=@List.reverse_cons
abbrev Awl:=@if_true
abbrev Awm:=@Bool.or_false
abbrev Awn:=@PySem.Obj.data_mapFields
abbrev Awo:=@PySem.wpAny_seqItems
abbrev Awp:=@PySem.call_meets
abbrev Awq:=@List.sizeOf_lt_of_mem
abbrev Awr:=@List.length_nil
noncomputable section
set_option tactic.hygienic false
section S_KTree
namespace L2
open PySem PySem.Spec
noncomputable instance pdDec:DecidableEq PyData:=fun _ _=>Classical.propDecidable _
mutual
def kOk:PyData->Bool
 |.int _=>true
 |.str x=>PyData.strOk x
 |.tuple ds=>U0 ds
 |_=>false
def U0:List PyData->Bool
 |[]=>true
 |d::ds=>kOk d&&U0 ds
def Rb (w:World):PyData->Int
 |.int i=>hashInt i
 |.str x=>hashStr w x
 |.tuple ds=>reduceHash (Builtin.Tuple.tupleHashOf (Bw w ds))
 |_=>0
def Bw (w:World):List PyData->List Int
 |[]=>[]
 |d::ds=>Rb w d::Bw w ds
def Ig:PyData->Nat
 |.tuple ds=>Ce ds+1
 |_=>1
def Ce:List PyData->Nat
 |[]=>0
 |d::ds=>Ig d+Ce ds
def Abn:PyData->Nat
 |.tuple ds=>Uz ds+1
 |_=>0
def Uz:List PyData->Nat
 |[]=>0
 |d::ds=>max (Abn d) (Uz ds)
end
mutual
theorem L6:∀ {d:PyData},kOk d=true->d.canLay0=true
 |.int _,_=>by simp[PyData.canLay0]
 |.str x,h=>by rw[kOk] at h;simp[PyData.canLay0,h]
 |.tuple ds,h=>by rw[kOk] at h;rw[PyData.canLay0];exact T2 h
 |.none,h=>by simp[kOk] at h
 |.bool _,h=>by simp[kOk] at h
 |.list _,h=>by simp[kOk] at h
 |.dict _,h=>by simp[kOk] at h
theorem T2:∀ {ds:List PyData},U0 ds=true->PyData.canLayAll0 ds=true
 |[],_=>by simp[PyData.canLayAll0]
 |d::ds,h=>by
  rw[U0,Aua] at h
  simp[PyData.canLayAll0,L6 h.1,T2 h.2]
end
set_option tactic.hygienic true in
mutual
theorem Alw:∀ {d e:PyData},kOk d=true->kOk e=true->PyData.eqv d e=decide (d=e)
 |.int i,e,h,h'=>by
  cases e<;>first|(simp[kOk] at h';done)|(simp[PyData.eqv];done)|(rename_i j;simp[PyData.eqv];by_cases q:i=j<;>simp[q])
 |.str x,e,h,h'=>by
  cases e<;>first|(simp[kOk] at h';done)|(simp[PyData.eqv];done)|(rename_i j;simp[PyData.eqv];by_cases q:x=j<;>simp[q])
 |.tuple ds,e,h,h'=>by
  cases e<;>first|(simp[kOk] at h';done)|(simp[PyData.eqv];done)|skip
  rename_i es
  rw[kOk] at h h'
  rw[PyData.eqv,Aey h h',decide_eq_decide]
  constructor
  ·intro e;rw[e]
  ·intro e;injection e
 |.none,_,h,_=>by simp[kOk] at h
 |.bool _,_,h,_=>by simp[kOk] at h
 |.list _,_,h,_=>by simp[kOk] at h
 |.dict _,_,h,_=>by simp[kOk] at h
theorem Aey:∀ {ds es:List PyData},U0 ds=true->U0 es=true->PyData.eqvAll ds es=decide (ds=es)
 |[],[],_,_=>by simp[PyData.eqvAll]
 |[],e::es,_,_=>by simp[PyData.eqvAll]
 |d::ds,[],_,_=>by simp[PyData.eqvAll]
 |d::ds,e::es,h,h'=>by
  rw[U0,Aua] at h h'
  rw[PyData.eqvAll,Alw h.1 h'.1,Aey h.2 h'.2]
  by_cases q1:d=e<;>by_cases q2:ds=es<;>simp[q1,q2]
end
section
variable {prog:Program}{w:World}
structure HashK (prog:Program) (w:World) (d:PyData):Prop where
 out:∀ {A:Around}{E:Value->Shared->Prop}{s:Shared}{v:Value}{as:List Addr}{Q:Int->Shared->Prop},kOk d=true->A.units+Abn d < cLine->Reads s.heap v d as->Q (Rb w d) { s with toks:=s.toks+Ig d }->wpAny (model prog w) A (pyHash v) Q E s
theorem L5 {d:PyData}:∀ {ds:List PyData},d∈ds->Abn d<=Uz ds
 |e::ds,h=>by
  rw[Uz]
  rcases List.mem_cons.mp h with rfl|h
  ·lia
  ·have:=L5 h;lia
theorem L7 {d:PyData}:∀ {ds:List PyData},U0 ds=true->d∈ds->kOk d=true
 |e::ds,h,hm=>by
  rw[U0,Aua] at h
  rcases List.mem_cons.mp hm with rfl|hm
  ·exact h.1
  ·exact L7 h.2 hm
theorem Eg:∀ (xs ys:List PyData),Bw w (xs++ys)=Bw w xs++Bw w ys
 |[],ys=>by rw[Bw];rfl
 |x::xs,ys=>by rw[Avi,Bw,Bw,Eg xs ys];rfl
theorem Ef:∀ (xs ys:List PyData),Ce (xs++ys)=Ce xs+Ce ys
 |[],ys=>by simp[Ce]
 |x::xs,ys=>by rw[Avi,Ce,Ce,Ef xs ys];lia
theorem Uv (ih:∀ d∈ds,HashK prog w d):HashK prog w (.tuple ds):=by
 constructor
 intro A E s v as Q hk hu r q
 rw[kOk] at hk
 rw[Abn] at hu
 rw[Rb,Ig] at q
 cases r with
 |@tuple a o vs n xs as ho hc hd ra =>
 have hT:s.TypeIs (.ref a) "tuple":=⟨o,ho,hc⟩
 unfold pyHash
 first|unfold pyHashByItsType|skip
 first|refine Atu (wpAny_cRoomFor_or (.inr (by lia)) ?_)|skip
 refine Atu (wpAny_specialOf hT F.slot_tuple_hash.lookup ?_)
 show wpAny _ _ (if (some (Value.builtin "tuple.__hash__") == some Value.none)=true then _ else _) Q E s
 rw[At8 (by rw[beq_builtin_none];exact Auo)]
 refine Atu (wpAny_specialOf hT F.slot_tuple_hash.lookup ?_)
 show wpAny _ _ (callSpecialIfBoundUnlessNone? (.ref a) "__hash__" _ >>= _) Q E s
 refine Atu (wpAny_callSpecialIfBoundUnlessNone?_slot hT F.slot_tuple_hash (Au6 F.slot_tuple_hash hT F.entry_tuple_hash ?_ (F.args_tuple_hash_1 _)))
 show wpAny _ _ (Builtin.Tuple.tupleItemsOf (.ref a) >>= _) _ _ s
 refine Atu (wpAny_tupleItemsOf ho hd ?_)
 refine Atu ?_
 rw[<- Array.forIn_toList]
 refine wpAny_forIn_list _
  (fun rest (b:Array Int) s'=>∃ done left bs,ds=done++left/\ReadsAll s.heap rest left bs/\b.toList=Bw w done/\s'={ s with toks:=s.toks+Ce done })
  _ ?_ ?_ _ _ ⟨[],ds,as,rfl,ra,by simp[Bw],by simp[Ce]⟩
 ·rintro x rest b s' ⟨done,left,bs,rfl,hl,hb,rfl⟩
  cases hl with
  |@cons _ _ d ds' as1 bs1 h1 hl' =>
   have hm:d∈done++d::ds':=by simp
   have hdp:=L5 hm
   refine Atu ((ih d hm).out (L7 hk hm) (by show A.units+1+_ < _;lia) h1 ?_)
   have e1:b.toList++[Rb w d]=Bw w (done++[d]):=by rw[Eg,hb,Bw,Bw]
   have e2:s.toks+Ce done+Ig d=s.toks+Ce (done++[d]):=by rw[Ef,Ce,Ce];lia
   first
    |exact Atv ⟨done++[d],ds',bs1,by simp,hl',by rw[<- e1];simp,by rw[<- e2]⟩
    |exact Atu (Atv (Atv ⟨done++[d],ds',bs1,by simp,hl',by rw[<- e1];simp,by rw[<- e2]⟩))
 ·rintro b s' ⟨done,left,bs,rfl,hl,hb,rfl⟩
  cases hl
  rw[Aue] at q
  show wpAny _ _ (retInt (Builtin.Tuple.tupleHashOf b.toList)) _ _ _
  rw[hb]
  refine wpAny_ret_mkInt ?_
  show wpAny _ _ (if (decide (-(2:Int) ^ 63<=Builtin.Tuple.tupleHashOf (Bw w done))&&decide (Builtin.Tuple.tupleHashOf (Bw w done) < 2 ^ 63))=true then _ else _) Q E _
  unfold reduceHash at q
  by_cases hr:(decide (-(2:Int) ^ 63<=Builtin.Tuple.tupleHashOf (Bw w done))&&decide (Builtin.Tuple.tupleHashOf (Bw w done) < 2 ^ 63))=true
  ·rw[At4 hr]
   rw[At4 hr] at q
   exact Atv (by simpa [Nat.add_assoc] using q)
  ·rw[At8 hr]
   rw[At8 hr] at q
   exact Atu (wpAny_rule (Atv (by simpa [Nat.add_assoc] using q)))
theorem Ae4 (d:PyData):HashK prog w d:=by
 match d with
 |.int i =>
  constructor
  intro A E s v as Q _ _ r q
  cases r with
  |int i t=>simp only[Rb,Ig] at q;exact wpAny_pyHash_int q
 |.str x =>
  constructor
  intro A E s v as Q _ _ r q
  cases r with
  |str x t=>simp only[Rb,Ig] at q;exact wpAny_pyHash_str q
 |.tuple ds=>exact Uv fun d hd=>Ae4 d
 |.none=>constructor;intro A E s v as Q h;simp[kOk] at h
 |.bool _=>constructor;intro A E s v as Q h;simp[kOk] at h
 |.list _=>constructor;intro A E s v as Q h;simp[kOk] at h
 |.dict _=>constructor;intro A E s v as Q h;simp[kOk] at h
termination_by sizeOf d
decreasing_by
 have:=Awq hd
 simp;lia
structure QuietK (prog:Program) (w:World) (d:PyData):Prop where
 out:∀ {n:Nat}{A:Around}{E:Value->Shared->Prop}{s:Shared}{v:Value}{as:List Addr}{Q:Bool->Shared->Prop},kOk d=true->Abn d<=n->Reads s.heap v d as->Q true s->wpAny (model prog w) A (eqIsQuiet n v) Q E s
theorem Ru (ih:∀ d∈ds,QuietK prog w d):QuietK prog w (.tuple ds):=by
 constructor
 intro n A E s v as Q hk hn r q
 rw[kOk] at hk
 rw[Abn] at hn
 cases r with
 |@tuple a o vs m xs as ho hc hd ra =>
 have hT:s.TypeIs (.ref a) "tuple":=⟨o,ho,hc⟩
 obtain⟨n,rfl⟩:∃ n',n=n'+1:=⟨n - 1,by lia⟩
 unfold eqIsQuiet
 refine Atu (wpAny_specialOf hT F.slot_tuple_eq.lookup ?_)
 show wpAny _ _ (isInstance (.ref a) (.type "tuple") >>= _) _ _ s
 refine Atu (wpAny_isInstance hT isSubtype_tuple_tuple ?_)
 simp only[Avf,Au3,if_false]
 refine Atu (Awo ho hd ?_)
 refine Atu ?_
 show wpAny _ _ (forIn vs _ _) _ _ s
 rw[<- Array.forIn_toList]
 refine wpAny_forIn_list _ (fun rest r s'=>r.1=none/\s'=s/\∃ left bs,ReadsAll s.heap rest left bs/\∀ d∈left,d∈ds) _ ?_ ?_ _ _ ⟨rfl,rfl,ds,as,ra,fun _ h=>h⟩
 ·rintro v rest r s' ⟨hr,rfl,left,bs,hl,hall⟩
  cases hl with
  |@cons _ _ d ds' as1 bs1 h1 hl' =>
   have hm:=hall d (At0 ..)
   refine Atu ((ih d hm).out (L7 hk hm) (by have:=L5 hm;lia) h1 ?_)
   simp only[Avf,Au3,if_false]
   exact Atv ⟨rfl,rfl,ds',bs1,hl',fun e he=>hall e (Atz _ he)⟩
 ·rintro ⟨r1,r2⟩ s' ⟨hr,rfl,_⟩
  simp only at hr
  subst hr
  exact Atv q
theorem Aay (d:PyData):QuietK prog w d:=by
 match d with
 |.int i =>
  constructor
  intro n A E s v as Q _ _ r q
  cases r with
  |int i t=>rw[eqIsQuiet_byValue _ rfl];exact Atv q
 |.str x =>
  constructor
  intro n A E s v as Q _ _ r q
  cases r with
  |str x t=>rw[eqIsQuiet_byValue _ rfl];exact Atv q
 |.tuple ds=>exact Ru fun d hd=>Aay d
 |.none=>constructor;intro n A E s v as Q h;simp[kOk] at h
 |.bool _=>constructor;intro n A E s v as Q h;simp[kOk] at h
 |.list _=>constructor;intro n A E s v as Q h;simp[kOk] at h
 |.dict _=>constructor;intro n A E s v as Q h;simp[kOk] at h
termination_by sizeOf d
decreasing_by
 have:=Awq hd
 simp;lia
mutual
theorem Ow {es ep} (ho₀:h.get? d₀=some o₀) (hd₀:o₀.data=.dict es ep) (hs:Heap.SameBut d₀ h h') {d:PyData}{v:Value}{as:List Addr} (hk:kOk d=true) (r:Reads h v d as):Reads h' v d as:=by
 cases r with
 |int i t=>exact .int i t
 |str i t=>exact .str i t
 |@tuple a o _ _ _ _ ho hc hd ra =>
  refine .tuple ((hs.2 a ?_).trans ho) hc hd (Ha ho₀ hd₀ hs (by rw[kOk] at hk;exact hk) ra)
  rintro rfl
  cases ho.symm.trans ho₀
  cases hd₀.symm.trans hd
 |_=>simp[kOk] at hk
theorem Ha {es ep} (ho₀:h.get? d₀=some o₀) (hd₀:o₀.data=.dict es ep) (hs:Heap.SameBut d₀ h h') {ds:List PyData}{vs:List Value}{as:List Addr} (hk:U0 ds=true) (r:ReadsAll h vs ds as):ReadsAll h' vs ds as:=by
 cases r with
 |nil=>exact .nil
 |cons r rs =>
  rw[U0,Aua] at hk
  exact .cons (Ow ho₀ hd₀ hs hk.1 r) (Ha ho₀ hd₀ hs hk.2 rs)
end
mutual
theorem P3:∀ {d:PyData},kOk d=true->d.depth<=Abn d+1
 |.int _,_=>by simp[PyData.depth]
 |.str _,_=>by simp[PyData.depth]
 |.tuple ds,h=>by rw[kOk] at h;rw[Abn];have:=Tj h;simp[PyData.depth];lia
 |.none,h=>by simp[kOk] at h
 |.bool _,h=>by simp[kOk] at h
 |.list _,h=>by simp[kOk] at h
 |.dict _,h=>by simp[kOk] at h
theorem Tj:∀ {ds:List PyData},U0 ds=true->PyData.depthAll ds<=Uz ds+1
 |[],_=>by simp[PyData.depthAll]
 |d::ds,h=>by
  rw[U0,Aua] at h
  have h1:=P3 h.1
  have h2:=Tj h.2
  rw[Uz];simp[PyData.depthAll];lia
end
def Apd (h:Heap) (d:PyData) (a:Addr):Prop:=kOk d=true/\Abn d<=6/\(∃ ds,d=.tuple ds)/\∃ as,Reads h (.ref a) d as
noncomputable def Ad9 (prog:Program) (w:World):HeapKind prog w PyData where
 is:=Apd
 hash:=Rb w
 draws:=Ig
 room:=fun A=>A.units+10 < cLine
 inj:=fun hx hy=>by
  obtain⟨k1,_,_,as,r⟩:=hx
  obtain⟨_,_,_,bs,r'⟩:=hy
  exact SeqAt.Reads.unique _ _ _ _ _ (L6 k1) r r'
 keeps:=fun x ho hd hs=>by
  obtain⟨h1,h2,h3,as,r⟩:=x
  exact⟨h1,h2,h3,as,Ow ho hd hs h1 r⟩
 pyHash:=fun hu hk h=>by
  obtain⟨h1,h2,_,as,r⟩:=hk
  exact (Ae4 _).out h1 (by lia) r h
 eqBool:=fun hu hx hy h=>by
  obtain⟨h1,h2,_,as,r⟩:=hx
  obtain⟨h3,h4,_,bs,r'⟩:=hy
  refine SeqAt.eqBoolOverData _ _ _ _ _ _ _ _ _ _ _ _ r r' (L6 h1) (L6 h3) ?_ ?_
  ·have d1:=P3 h1
   have d2:=P3 h3
   lia
  ·rw[Alw h1 h3];exact h
 quiet:=fun hk h=>by
  obtain⟨h1,h2,_,as,r⟩:=hk
  exact (Aay _).out h1 (by lia) r h
end
end L2
end S_KTree
section S_LayL
namespace L2
open PySem PySem.Spec PyProof.Rows
abbrev Key:=Sum Int Str
noncomputable def Acp:Key->Value->Bool
 |.inl k,v=>Value.isInt k v
 |.inr x,v=>Value.isStrOf x v
noncomputable def Ate (w:World):Key->Int
 |.inl k=>hashInt k
 |.inr x=>hashStr w x
theorem Bo:∀ {k:Key}{v:Value},Acp k v=true->(∃ i t,k=Sum.inl i/\v=Value.int i t)\/(∃ x t,k=Sum.inr x/\v=Value.str x t)
 |.inl i,v,h=>by
  obtain⟨t,e⟩:=Value.isInt_shape (k:=i) (v:=v) h
  exact .inl ⟨i,t,rfl,e⟩
 |.inr x,v,h=>by
  obtain⟨t,e⟩:=Value.isStrOf_shape (x:=x) (v:=v) h
  exact .inr ⟨x,t,rfl,e⟩
theorem Ex (x:Str) (t:Tok):Acp (.inr x) (.str x t)=true:=by simp[Acp,Value.isStrOf]
theorem Al4 (a b:Int):decide ((Sum.inl a:Key)=Sum.inl b)=(a == b):=by
 by_cases e:a=b
 ·subst e;simp
 ·have h:¬ (Sum.inl a:Key)=Sum.inl b:=fun q=>e (Sum.inl.inj q)
  rw[Auu h]
  exact (beq_eq_false_iff_ne.mpr e).symm
theorem Al7 (a b:Str):decide ((Sum.inr a:Key)=Sum.inr b)=decide (a=b):=by
 by_cases e:a=b
 ·subst e;simp
 ·have h:¬ (Sum.inr a:Key)=Sum.inr b:=fun q=>e (Sum.inr.inj q)
  rw[Auu h,Auu e]
theorem Al5 (a:Int) (b:Str):decide ((Sum.inl a:Key)=Sum.inr b)=false:=Auu (fun q=>nomatch q)
theorem Al6 (a:Str) (b:Int):decide ((Sum.inr a:Key)=Sum.inl b)=false:=Auu (fun q=>nomatch q)
def Er (prog:Program) (w:World):PySem.KeyKind prog w Key where
 is:=Acp
 hash:=Ate w
 inj:=fun v a b ha hb=>by
  rcases Bo ha with ⟨i,t,rfl,rfl⟩|⟨x,t,rfl,rfl⟩
  ·rcases Bo hb with ⟨j,u,rfl,e⟩|⟨y,u,rfl,e⟩
   ·injection e with e1 _;rw[e1]
   ·exact nomatch e
  ·rcases Bo hb with ⟨j,u,rfl,e⟩|⟨y,u,rfl,e⟩
   ·exact nomatch e
   ·injection e with e1 _;rw[e1]
 byValue:=fun k v h=>by
  rcases Bo h with ⟨i,t,rfl,rfl⟩|⟨x,t,rfl,rfl⟩<;>rfl
 pyHash:=fun hv h=>by
  rcases Bo hv with ⟨i,t,rfl,rfl⟩|⟨x,t,rfl,rfl⟩
  ·exact wpAny_pyHash_int h
  ·exact wpAny_pyHash_str h
 eqBool:=fun hu hv h=>by
  rcases Bo hu with ⟨i,t,rfl,rfl⟩|⟨x,t,rfl,rfl⟩
  ·rcases Bo hv with ⟨j,u,rfl,rfl⟩|⟨y,u,rfl,rfl⟩
   ·rw[Al4] at h;exact wpAny_eqBool_int h
   ·rw[Al5] at h;exact SeqAt.EqAt.int_str i t y u _ _ _ _ h
  ·rcases Bo hv with ⟨j,u,rfl,rfl⟩|⟨y,u,rfl,rfl⟩
   ·rw[Al6] at h;exact SeqAt.EqAt.str_int x t j u _ _ _ _ h
   ·rw[Al7] at h;exact wpAny_eqBool_str h
 «strs»:=fun k x t v h=>by
  rcases Bo h with ⟨i,u,rfl,e⟩|⟨y,u,rfl,e⟩
  ·exact nomatch e
  ·injection e with e1 _
   subst e1
   cases v<;>rfl
inductive V where
 |non|bl (b:Bool)|int (i:Int)|str (x:Str)|byt (b:Array UInt8)|flt (b:UInt64)|ref (a:Addr)|ty (n:String)
 deriving DecidableEq
noncomputable def RelV:V->Value->Prop
 |.non,u=>u=Value.none
 |.bl b,u=>u=Value.bool b
 |.int i,u=>∃ t,u=Value.int i t
 |.str x,u=>∃ t,u=Value.str x t
 |.byt b,u=>∃ t,u=Value.bytes b t
 |.flt b,u=>∃ t,u=Value.float b t
 |.ref a,u=>u=Value.ref a
 |.ty n,u=>u=Value.type n
abbrev Vals:List V->List Value->Prop:=Paired RelV
theorem Vals.length {xs:List V}{us:List Value} (r:Vals xs us):xs.length=us.length:=Paired.length r
theorem Vals.get:∀ {xs:List V}{us:List Value}{i:Nat}{x:V},Vals xs us->xs[i]?=some x->∃ u,us[i]?=some u/\RelV x u
 |_,_,_,_,.nil,e=>by simp at e
 |_,_,0,_,.cons r _,e=>by simp at e;subst e;exact⟨_,rfl,r⟩
 |_,_,i+1,x,.cons _ t,e=>by
  obtain⟨u,h1,h2⟩:=Vals.get (i:=i) (x:=x) t (by simpa using e)
  exact⟨u,by simpa using h1,h2⟩
theorem Vals.append:∀ {xs ys:List V}{us ws:List Value},Vals xs us->Vals ys ws->Vals (xs++ys) (us++ws)
 |_,_,_,_,.nil,s=>s
 |_,_,_,_,.cons r t,s=>.cons r (Vals.append t s)
theorem Vals.take:∀ {xs:List V}{us:List Value} (n:Nat),Vals xs us->Vals (xs.take n) (us.take n)
 |_,_,0,_=>.nil
 |_,_,_+1,.nil=>.nil
 |_,_,n+1,.cons r t=>.cons r (Vals.take n t)
theorem Vals.drop:∀ {xs:List V}{us:List Value} (n:Nat),Vals xs us->Vals (xs.drop n) (us.drop n)
 |_,_,0,r=>r
 |_,_,_+1,.nil=>.nil
 |_,_,n+1,.cons _ t=>Vals.drop n t
def Ak6:Option V->Option Value->Prop
 |some v,some u=>RelV v u
 |none,none=>True
 |_,_=>False
def KV {κ:Type}:List (κ×V)->List (κ×Value)->Prop:=Paired fun (p:κ×V) (q:κ×Value)=>p.1=q.1/\RelV p.2 q.2
inductive HO where
 /-- a list -/
 |lst (xs:List V)
 /-- a tuple (never changes) -/
 |tup (xs:List V)
 /-- a dict whose keys are ints and texts;one whose keys are tuples of ints and texts (the empty one is both) -/
 |dK (kvs:List (Key×V))|dT (kvs:List (PyData×V))
 /-- a set of ints: its members,its size -/
 |set (S:Int->Bool) (n:Nat)
 /-- an instance of the class at C,its dict at dx,its attributes -/
 |ins (C dx:Addr) (fs:List (Str×V))
 /-- the dict of the instance at x -/
 |own (x:Addr)
 /-- the dict of an exception -/
 |xd (fs:List (Str×V))
 /-- a bound method,f of x -/
 |met (f x:Addr)
 /-- a range object lo,lo+1,.. below hi -/
 |rng (lo hi:Int)
 /-- a thing that is known to the object (the script;a dict while a loop walks it): read,never written while it is so -/
 |frz (o:Obj) (u:HO)
 /-- a code object's table -/
 |tbl (ps:Array Value)
 /-- any other thing,by what is true of its one object (a def of one's own: Ak7 a S n:=HO.ext fun h=>..) -/
 |ext (φ:World->Heap->Prop)
abbrev Hp:=Addr->Option HO
noncomputable def upd (H:Hp) (a:Addr) (o:HO):Hp:=fun b=>if b=a then some o else H b
theorem Ba {H:Hp}{a:Addr}{o:HO}:upd H a o a=some o:=by unfold upd;rw[At4 rfl]
theorem Az {H:Hp}{a b:Addr}{o:HO} (h:b≠a):upd H a o b=H b:=by unfold upd;rw[At8 h]
theorem Av {H:Hp}{a b:Addr}{o:HO} (h:H a=some o) (h':H b=none):a≠b:=by
 intro e;subst e;rw[h] at h';cases h'
def TupD (h:Heap) (a:Addr) (items:Array Value):Prop:=∃ o,h.get? a=some o/\o.cls=.type "tuple"/\∃ n,o.data=.seq items n/\o.dict=none
theorem TupD.is {h:Heap}{a:Addr}{items:Array Value} (x:TupD h a items):IsTup h a items:=let ⟨o,h1,h2,n,h3,_⟩:=x;⟨o,h1,h2,n,h3⟩
theorem TupD.new (h:Heap) (items:Array Value):TupD (h.push { cls:=.type "tuple",data:=.seq items }) h.objs.size items:=⟨_,At9 _ rfl,rfl,_,rfl,rfl⟩
theorem TupD.lt {h:Heap}{a:Addr}{items:Array Value} (x:TupD h a items):a < h.objs.size:=let ⟨_,h1,_⟩:=x;At1 h1
def Rd (H:Hp) (a:Addr) (u:HO):Prop:=H a=some u\/∃ o,H a=some (.frz o u)
def SqT (K:W.Frag) (H:Hp) (a:Addr) (xs:List V):Prop :=
 Rd H a (.tup xs) \/
  ∃ (o:Obj) (its:Array Value) (n:Nat),K.lookup a=some o/\o.cls=.type "tuple"/\o.data=.seq its n/\its.size<=sizeLine/\Vals xs its.toList/\o.dict=none
inductive KeyH (K:W.Frag) (H:Hp):PyData->V->Prop where
 |int (i:Int):KeyH K H (.int i) (.int i)
 |str (x:Str):KeyH K H (.str x) (.str x)
 |tup {ds:List PyData}{a:Addr}{vs:List V}:SqT K H a vs->Paired (KeyH K H) ds vs->KeyH K H (.tuple ds) (.ref a)
def KeyT (K:W.Frag) (H:Hp) (d:PyData) (b:Addr):Prop:=kOk d=true/\Abn d<=6/\(∃ ds,d=.tuple ds)/\KeyH K H d (.ref b)
def Aeh (oc:Obj) (q:Str):Prop:=∃ (vs:Array Value) (t:Nat),oc.data=.fields vs/\vs[1]?=some (.str q t)
def Apg (H:Hp) (h:Heap) (a:Addr) (qs:Array Value):Prop:=∃ ps:Array Value,h.get? a=some (W.tabObj ps)/\TriplesOk ps.toList /\
 ∀ (pos:Pos) (cv:Value),codeAmong pos ps.toList=some cv->∃ (c:Addr) (oc:Obj) (u:HO) (q:Str) (t:Nat),qs[0]?=some (.str q t)/\cv=.ref c/\H c=some (.frz oc u)/\Aeh oc q
section
variable (P:Program) (w:World) (K:W.Frag)
def ObjOk (H:Hp) (h:Heap) (a:Addr):HO->Prop
 |.lst xs=>xs.length<=sizeLine/\∃ (its:List Value) (n:Nat),Vals xs its/\h.get? a=some { cls:=.type "list",data:=.seq its.toArray n }
 |.tup xs=>xs.length<=sizeLine/\∃ its:List Value,Vals xs its/\TupD h a its.toArray
 |.dK kvs=>kvs.length<=sizeLine/\(a == sysModules)=false/\∃ vs,KV kvs vs/\h.DictOf (Er P w) a vs
 |.dT kvs=>kvs.length<=sizeLine/\(a == sysModules)=false/\∃ xs:List (PyData×Addr×Value),
   Paired (fun (p:PyData×V) (q:PyData×Addr×Value)=>p.1=q.1/\KeyT K H q.1 q.2.1/\RelV p.2 q.2.2) kvs xs /\
   ∃ o es ep,h.get? a=some o/\o.ExactDict/\o.data=.dict es ep/\es.toList=xs.map (entryOfKey (Ad9 P w))/\(xs.map (·.1)).Nodup
 |.set S n=>h.SetOf (intKind P w) a S n
 |.ins C dx fs=>H dx=some (.own a)/\fs.length<=1000/\dx≠a/\h.get? a=some (W.instObj C dx) /\
   ∃ mA,h.Ns1 dx mA/\(∀ f,Ak6 (fs.lookup f) (mA f))/\PySem.Within mA (fs.map (·.1))
 |.own _=>∃ o,h.get? a=some o
 |.xd fs=>∃ mA,h.Ns1 a mA/\∀ f,Ak6 (fs.lookup f) (mA f)
 |.rng lo hi=>∃ t u v,h.get? a=some { cls:=.type "range",data:=.fields #[.int lo t,.int hi u,.int 1 v] }
 |.frz o u=>h.get? a=some o/\ObjOk H h a u
 |.tbl ps=>Apg H h a ps
 |.met f x=>h.get? a=some (W.methodObj (.ref f) (.ref x))
 |.ext φ=>φ w h/\(∃ o,h.get? a=some o)/\∀ h1 h2:Heap,φ w h1->(∀ o,h1.get? a=some o->h2.get? a=some o)->φ w h2
def HOk (H:Hp) (h:Heap):Prop:=∀ a o,H a=some o->ObjOk P w K H h a o
end
section
variable {P:Program}{w:World}{K:W.Frag}{H H':Hp}{h h':Heap}{a:Addr}{o:HO}
theorem ObjOk.lt (x:ObjOk P w K H h a o):a < h.objs.size:=by
 cases o with
 |lst xs=>obtain⟨_,_,_,_,e⟩:=x;exact At1 e
 |tup xs=>obtain⟨_,_,_,p⟩:=x;exact p.lt
 |dK kvs=>obtain⟨_,_,_,_,o,_,_,e,_⟩:=x;exact At1 e
 |dT kvs=>obtain⟨_,_,_,_,o,_,_,e,_⟩:=x;exact At1 e
 |set S n=>obtain⟨o,_,_,_,e,_⟩:=x;exact At1 e
 |ins C dx fs=>obtain⟨_,_,_,e,_⟩:=x;exact At1 e
 |own y=>obtain⟨_,e⟩:=x;exact At1 e
 |xd fs=>obtain⟨_,⟨_,_,_,e,_⟩,_⟩:=x;exact At1 e
 |rng lo hi=>obtain⟨_,_,_,e⟩:=x;exact At1 e
 |frz ob u=>obtain⟨e,_⟩:=x;exact At1 e
 |tbl ps=>obtain⟨_,e,_⟩:=x;exact At1 e
 |met f y=>exact At1 (show h.get? a=some _ from x)
 |ext φ=>obtain⟨_,⟨_,e⟩,_⟩:=x;exact At1 e
theorem Paired.mapP {α β:Type}{F G:α->β->Prop}:∀ {l₁:List α}{l₂:List β},Paired F l₁ l₂->(∀ a b,F a b->G a b)->Paired G l₁ l₂
 |_,_,.nil,_=>.nil
 |_,_,.cons r t,f=>.cons (f _ _ r) (Paired.mapP t f)
theorem SqT.upR {K:W.Frag}{H H':Hp} (ht:∀ b xs,Rd H b (.tup xs)->Rd H' b (.tup xs)) {a:Addr}{xs:List V} (h:SqT K H a xs):SqT K H' a xs:=h.elim (fun z=>.inl (ht _ _ z)) .inr
theorem KeyH.up {K:W.Frag}{H H':Hp} (ht:∀ b xs,Rd H b (.tup xs)->Rd H' b (.tup xs)) (d:PyData):∀ {v:V},KeyH K H d v->KeyH K H' d v:=by
 match d with
 |.int i=>intro v h;cases h;exact .int _
 |.str x=>intro v h;cases h;exact .str _
 |.tuple ds =>
  intro v h
  cases h with
  |@tup _ a vs hs hp =>
  refine .tup (SqT.upR ht hs) ?_
  have go:∀ (es:List PyData) (us:List V),(∀ e∈es,e∈ds)->Paired (KeyH K H) es us->Paired (KeyH K H') es us:=by
   intro es us hm q
   induction q with
   |nil=>exact .nil
   |@cons e u es us h1 h2 ih=>exact .cons (KeyH.up ht e h1) (ih fun x hx=>hm x (Atz _ hx))
  exact go ds vs (fun _ h=>h) hp
 |.none=>intro v h;cases h
 |.bool _=>intro v h;cases h
 |.list _=>intro v h;cases h
 |.dict _=>intro v h;cases h
termination_by sizeOf d
decreasing_by
 have:=Awq (hm e (At0 ..))
 simp;lia
theorem KeyT.up {K:W.Frag}{H H':Hp} (ht:∀ b xs,Rd H b (.tup xs)->Rd H' b (.tup xs)) {d:PyData}{b:Addr} (h:KeyT K H d b):KeyT K H' d b:=⟨h.1,h.2.1,h.2.2.1,h.2.2.2.up ht⟩
theorem Rd.upd_none {H:Hp}{p:Addr}{o u:HO} (hn:H p=none) {c:Addr} (q:Rd H c u):Rd (upd H p o) c u:=by
 rcases q with q|⟨x,q⟩
 ·exact .inl (by rw[Az (Av q hn)];exact q)
 ·exact .inr ⟨x,by rw[Az (Av q hn)];exact q⟩
theorem ObjOk.stay (x:ObjOk P w K H h a o) (k:∀ b u,(b=a\/H b=some (.own a))->h.get? b=some u->h'.get? b=some u)
  (ho:∀ b,H b=some (.own a)->H' b=some (.own a)) (ht:∀ b xs,Rd H b (.tup xs)->Rd H' b (.tup xs)) (hf:∀ b x u,H b=some (.frz x u)->H' b=some (.frz x u)):ObjOk P w K H' h' a o:=by
 induction o with
 |lst xs=>obtain⟨z,its,n,r,e⟩:=x;exact⟨z,its,n,r,k _ _ (.inl rfl) e⟩
 |tup xs=>obtain⟨z,its,r,ob,e,c⟩:=x;exact⟨z,its,r,ob,k _ _ (.inl rfl) e,c⟩
 |dK kvs=>obtain⟨z,y,vs,r,ob,es,ep,e,c⟩:=x;exact⟨z,y,vs,r,ob,es,ep,k _ _ (.inl rfl) e,c⟩
 |dT kvs =>
  obtain⟨z,y,xs,r,ob,es,ep,e,c⟩:=x
  exact⟨z,y,xs,Paired.mapP r fun p q z=>⟨z.1,z.2.1.up ht,z.2.2⟩,ob,es,ep,k _ _ (.inl rfl) e,c⟩
 |set S n=>obtain⟨ob,es,ep,t,e,c⟩:=x;exact⟨ob,es,ep,t,k _ _ (.inl rfl) e,c⟩
 |ins C dx fs =>
  obtain⟨d,z,ne,e,mA,⟨od,es,ep,e2,c⟩,r⟩:=x
  exact⟨ho _ d,z,ne,k _ _ (.inl rfl) e,mA,⟨od,es,ep,k _ _ (.inr d) e2,c⟩,r⟩
 |own y=>obtain⟨ob,e⟩:=x;exact⟨ob,k _ _ (.inl rfl) e⟩
 |xd fs=>obtain⟨mA,⟨od,es,ep,e,c⟩,r⟩:=x;exact⟨mA,⟨od,es,ep,k _ _ (.inl rfl) e,c⟩,r⟩
 |rng lo hi=>obtain⟨t,u,v,e⟩:=x;exact⟨t,u,v,k _ _ (.inl rfl) e⟩
 |frz ob u ih=>obtain⟨e,q⟩:=x;exact⟨k _ _ (.inl rfl) e,ih q⟩
 |tbl ps =>
  obtain⟨qs,e,t,c⟩:=x
  exact⟨qs,k _ _ (.inl rfl) e,t,fun pos cv z=>let ⟨c',oc,u,q,t',z1,z2,z3,z4⟩:=c pos cv z;⟨c',oc,u,q,t',z1,z2,hf _ _ _ z3,z4⟩⟩
 |met f y =>
  have e:h.get? a=some (W.methodObj (.ref f) (.ref y)):=x
  show h'.get? a=some (W.methodObj (.ref f) (.ref y))
  exact k a _ (.inl rfl) e
 |ext φ=>obtain⟨p,⟨o,e⟩,st⟩:=x;exact⟨st _ _ p fun o q=>k _ _ (.inl rfl) q,⟨o,k _ _ (.inl rfl) e⟩,st⟩
theorem HOk.lt (x:HOk P w K H h) (e:H a=some o):a < h.objs.size:=(x a o e).lt
theorem HOk.fresh (x:HOk P w K H h) (e:h.objs.size<=a):H a=none:=by
 cases q:H a with
 |none=>rfl
 |some u=>exact absurd (At6 (x.lt q) e) (Aut _)
theorem HOk.kept (x:HOk P w K H h) (k:∀ b u,h.get? b=some u->h'.get? b=some u):HOk P w K H h':=fun a o e =>
 (x a o e).stay (fun b u _ q=>k b u q) (fun _ q=>q) (fun _ _ q=>q) fun _ _ _ q=>q
theorem HOk.laid (x:HOk P w K H h) (k:∀ b u,h.get? b=some u->h'.get? b=some u) (hp:h.objs.size<=a) (new:ObjOk P w K (upd H a o) h' a o):HOk P w K (upd H a o) h':=fun b u e=>by
 have hn:=x.fresh hp
 by_cases hb:b=a
 ·subst hb;rw[Ba] at e;cases e;exact new
 ·rw[Az hb] at e
  exact (x b u e).stay (fun c v _ q=>k c v q) (fun c q=>by rw[Az (Av q hn)];exact q) (fun c xs q=>Rd.upd_none hn q) fun c x u q=>by rw[Az (Av q hn)];exact q
end
theorem Rd.ok {P:Program}{w:World}{K:W.Frag}{H:Hp}{h:Heap}{a:Addr}{u:HO} (r:Rd H a u) (x:HOk P w K H h):ObjOk P w K H h a u:=by
 rcases r with r|⟨o,r⟩
 ·exact x a u r
 ·obtain⟨_,q⟩:=x a _ r
  exact q
noncomputable def Mut:Option HO->Prop
 |some (.lst _)=>True
 |some (.dK _)=>True
 |some (.dT _)=>True
 |some (.set _ _)=>True
 |some (.ins _ _ _)=>True
 |some (.ext _)=>True
 |_=>False
theorem Rd.upd_mut {H:Hp}{x:Addr}{o:HO} (mu:Mut (H x)) {c:Addr}{xs:List V} (q:Rd H c (.tup xs)):Rd (upd H x o) c (.tup xs):=by
 rcases q with q|⟨y,q⟩
 ·exact .inl (by rw[Az (fun z=>by subst z;rw[q] at mu;exact mu)];exact q)
 ·exact .inr ⟨y,by rw[Az (fun z=>by subst z;rw[q] at mu;exact mu)];exact q⟩
section
variable {P:Program}{w:World}{K:W.Frag}{H:Hp}{h h':Heap}{x e:Addr}{o':HO}
theorem HOk.write (ok:HOk P w K H h) (mu:Mut (H x)) (he:e=x\/H e=some (.own x)) (k:∀ b u,b≠e->h.get? b=some u->h'.get? b=some u) (heo:∃ u,h'.get? e=some u)
  (new:ObjOk P w K (upd H x o') h' x o'):HOk P w K (upd H x o') h':=fun b u q=>by
 have nown:∀ c y,H c=some (.own y)->c≠x:=fun c y r z=>by subst z;rw[r] at mu;exact mu
 have ntup:∀ c xs,H c=some (.tup xs)->c≠x:=fun c xs r z=>by subst z;rw[r] at mu;exact mu
 by_cases hb:b=x
 ·subst hb;rw[Ba] at q;cases q;exact new
 ·rw[Az hb] at q
  by_cases hbe:b=e
  ·have q':H b=some (.own x):=by
    rcases he with z|z
    ·exact absurd (hbe.trans z) hb
    ·rw[hbe];exact z
   rw[q] at q';cases q'
   obtain⟨v,hv⟩:=heo
   exact⟨v,by rw[hbe];exact hv⟩
  ·refine (ok b u q).stay (fun c v hc r=>k c v ?_ r) (fun c r=>by rw[Az (nown c b r)];exact r) (fun c xs r=>Rd.upd_mut mu r) fun c y u r=>by rw[Az (fun z=>by subst z;rw[r] at mu;exact mu)];exact r
   rcases hc with rfl|hc
   ·exact hbe
   ·rintro rfl
    rcases he with z|z
    ·exact nown c b hc z
    ·rw[hc] at z;cases z;exact hb rfl
end
structure Un (fs ex:List Addr) (H H':Hp) (h h':Heap):Prop where
 keep:∀ b o,h.get? b=some o->H b=none->b∉fs->b∉ex->h'.get? b=some o
 slot:∀ b o,h.get? b=some o->H b=none->b∈fs->b∉ex->∃ sl,h'.get? b=some { o with slots:=sl }
 free:∀ b o,h.get? b=some o->H b=none->b∉ex->H' b=none
 there:∀ b o,h.get? b=some o->b∉ex->∃ o',h'.get? b=some o'
 tups:∀ b xs,H b=some (.tup xs)->H' b=some (.tup xs)
 frzs:∀ b o u,H b=some (.frz o u)->H' b=some (.frz o u)
 tbls:∀ b ps,H b=some (.tbl ps)->∃ more,H' b=some (.tbl (ps++more))
section
variable {fs fs' ex ex':List Addr}{H H1 H2:Hp}{h h1 h2 h':Heap}{a x e:Addr}{o:HO}
theorem Un.any (u:Un fs ex H H1 h h1) {b:Addr}{ob:Obj} (q:h.get? b=some ob) (n:H b=none) (hx:b∉ex):∃ sl,h1.get? b=some { ob with slots:=sl }:=by
 by_cases hb:b∈fs
 ·exact u.slot b ob q n hb hx
 ·exact⟨ob.slots,u.keep b ob q n hb hx⟩
theorem Un.kept (k:∀ b u,h.get? b=some u->h'.get? b=some u):Un fs ex H H h h' :=
 ⟨fun b ob q _ _ _=>k b ob q,fun b ob q _ _ _=>⟨ob.slots,k b ob q⟩,fun _ _ _ n _=>n,fun b ob q _=>⟨ob,k b ob q⟩,fun _ _ q=>q,fun _ _ _ q=>q,fun _ ps q=>⟨#[],by rw[q];simp⟩⟩
theorem Un.refl:Un fs ex H H h h:=Un.kept fun _ _ q=>q
theorem Un.laid (k:∀ b u,h.get? b=some u->h'.get? b=some u) (hp:h.objs.size<=a) (hn:H a=none):Un fs ex H (upd H a o) h h' where
 keep:=fun b u q _ _ _=>k b u q
 slot:=fun b u q _ _ _=>⟨u.slots,k b u q⟩
 free:=fun b u q n _=>by rw[Az (Aub (At6 (At1 q) hp))];exact n
 there:=fun b u q _=>⟨u,k b u q⟩
 tups:=fun b xs q=>by rw[Az (Av q hn)];exact q
 frzs:=fun b u xs q=>by rw[Az (Av q hn)];exact q
 tbls:=fun b ps q=>⟨#[],by rw[Az (Av q hn),q];simp⟩
theorem Un.write (mu:Mut (H x)) (he:e=x\/H e=some (.own x)) (k:∀ b u,b≠e->h.get? b=some u->h'.get? b=some u) (heo:∃ u,h'.get? e=some u):Un fs ex H (upd H x o) h h':=by
 have hx:∀ b,H b=none->b≠x:=fun b n z=>by subst z;rw[n] at mu;exact mu
 have hb:∀ b,H b=none->b≠e:=fun b n z=>by
  subst z
  rcases he with r|r
  ·exact hx b n r
  ·rw[n] at r;cases r
 have hm:∀ b u,H b=some u->¬ Mut (some u)->b≠x:=fun b u q nm z=>by subst z;rw[q] at mu;exact nm mu
 refine⟨fun b u q n _ _=>k b u (hb b n) q,fun b u q n _ _=>⟨u.slots,k b u (hb b n) q⟩,fun b u q n _=>by rw[Az (hx b n)];exact n,fun b u q _=>?_,
  fun b xs q=>by rw[Az (hm b _ q fun z=>z)];exact q,fun b u xs q=>by rw[Az (hm b _ q fun z=>z)];exact q,fun b ps q=>⟨#[],by rw[Az (hm b _ q fun z=>z),q];simp⟩⟩
 by_cases hbe:b=e
 ·subst hbe;exact heo
 ·exact⟨u,k b u hbe q⟩
end
noncomputable def trk (h:Heap) (H:Hp):List Addr:=(List.range h.objs.size).filter fun a=>(H a).isSome
def Acl (h:Heap) (H:Hp):Heap:=W.hideAll h (trk h H)
theorem Yy (h:Heap) (H:Hp):(Acl h H).objs.size=h.objs.size:=W.hideAll_size _ _
theorem Acm {h:Heap}{H:Hp}{b:Addr}{o:Obj} (e:h.get? b=some o) (n:H b=none):(Acl h H).get? b=some o :=
 W.hideAll_get _ e fun hm=>by
  have q:(H b).isSome=true:=(List.mem_filter.mp hm).2
  rw[n] at q;simp at q
theorem Aiw {h:Heap}{H:Hp}{b:Addr}{o:Obj} (e:(Acl h H).get? b=some o):h.get? b=some o/\H b=none:=by
 have e':h.get? b=some o:=W.of_hideAll (trk h H) e
 refine⟨e',?_⟩
 cases q:H b with
 |none=>rfl
 |some x =>
  have hm:b∈trk h H:=List.mem_filter.mpr ⟨List.mem_range.mpr (At1 e'),by simp[q]⟩
  have z:(Acl h H).get? b=none:=W.hideAll_none (trk h H) hm
  rw[z] at e;cases e
structure Mod (K:W.Frag) (mg:Str->Option Value) (base:Heap):Prop where
 kin:K.In base
 glob:base.Ns mainGlobals mg
 blt:∃ mb,base.Ns builtinsNs mb/\∀ x:Str,x≠"__name__"->mb x=bootBuiltins x
 nolimit:base.NoLimit
structure Cx where
 prog:Program
 w:World
 K:W.Frag
 mg:Str->Option Value
 base:Heap
 A:Around
 N:List Str
 s₀:Shared
 H₀:Hp
 env:Env
 outer:List Env
 stack:List Env
 ex:List Addr
 fn:Str->Bool
 calm:Bool
 pn:List (Addr×Obj)
 xe:Value->Shared->Prop
noncomputable def frs (l:List Env):List Addr:=l.filterMap (·.frame)
abbrev Cx.fs (X:Cx):List Addr:=frs X.outer
def Vis (sc:Scope) (x:Str):Prop:=sc.names.lookup x=some .local\/sc.names.lookup x=some .cell\/sc.names.lookup x=some .free
def Loc (sc:Scope) (x:Str):Prop:=sc.names.lookup x=some .local\/sc.names.lookup x=some .cell
def As6 (env:Env) (h:Heap) (m:Str->Option Value) (x:Str) (u:Value):Prop :=
 (env.kindOf x=some .local/\m x=some u)\/((env.kindOf x=some .cell\/env.kindOf x=some .free)/\∃ c,env.cells.lookup x=some c/\h.IsCell c (some u))
structure Cx.Ok (X:Cx):Prop where
 mod:Mod X.K X.mg X.base
 kind:X.env.scope.kind=.function
 glob:X.env.globals=mainGlobals
 blt:X.env.builtins=builtinsNs
 above:X.s₀.heap.objs.size<=X.env.locals
 inj:∀ x y c,X.env.cells.lookup x=some c->X.env.cells.lookup y=some c->x=y
 has:∀ x,(X.env.kindOf x=some .cell\/X.env.kindOf x=some .free)->∃ c,X.env.cells.lookup x=some c
 cab:∀ x c,X.fn x=true->X.env.cells.lookup x=some c->X.s₀.heap.objs.size<=c
 hd:X.calm=true->X.A.handled=none
 frames:X.A.frames=some X.stack
 stk:X.stack=X.outer\/(X.stack=X.env::X.outer/\X.env.frame=some X.env.locals)
 exf:∀ b∈X.ex,b≠X.env.locals/\∀ x c,X.env.cells.lookup x=some c->c≠b
 bs:∀ b o,X.base.get? b=some o->X.s₀.heap.get? b=some o/\X.H₀ b=none
 bsz:X.base.objs.size<=X.s₀.heap.objs.size
 noex:∀ b o,X.base.get? b=some o->b∉X.ex
 exfs:∀ b∈X.ex,b∉X.fs
 funs:X.s₀.heap.FunFrames X.base X.outer
 frf:∀ b∈X.fs,X.H₀ b=none
structure Inv (X:Cx) (pins:List (Addr×Obj)) (σ:List (Option V)) (H:Hp) (s:Shared):Prop where
 ok:X.Ok
 os:s.os=X.s₀.os
 bare:AllBare s.gens
 base:Un X.fs X.ex X.H₀ H X.s₀.heap s.heap
 loc:∃ m,s.heap.Ns X.env.locals m/\∀ (i:Nat) (x:Str) (v:V),X.N[i]?=some x->σ[i]?=some (some v)->Vis X.env.scope x->∃ u,RelV v u/\As6 X.env s.heap m x u
 cell:∀ x c,X.env.cells.lookup x=some c->∃ v,s.heap.IsCell c v
 free:H X.env.locals=none
 freeC:∀ x c,X.env.cells.lookup x=some c->H c=none
 pin:∀ p∈X.pn++pins,s.heap.get? p.1=some p.2/\H p.1=none/\p.1≠X.env.locals/\p.1∉X.fs/\∀ v,p.2.data≠.cell v
 hok:HOk X.prog X.w X.K H s.heap
 len:σ.length=X.N.length
section
variable {X:Cx}{pins:List (Addr×Obj)}{σ:List (Option V)}{H H':Hp}{s:Shared}{h':Heap}
theorem Cx.Ok.nofr (ok:X.Ok) {b:Addr}{o:Obj} (e:X.base.get? b=some o):b∉X.fs:=fun hb=>by
 have:=(ok.funs.mem hb).1
 rw[e] at this;cases this
theorem Inv.bs (I:Inv X pins σ H s):∀ b o,X.base.get? b=some o->s.heap.get? b=some o/\H b=none:=fun b o e =>
 ⟨I.base.keep b o (I.ok.bs b o e).1 (I.ok.bs b o e).2 (I.ok.nofr e) (I.ok.noex b o e),I.base.free b o (I.ok.bs b o e).1 (I.ok.bs b o e).2 (I.ok.noex b o e)⟩
theorem Inv.bk (I:Inv X pins σ H s):∀ b o,X.base.get? b=some o->s.heap.get? b=some o:=fun b o e=>(I.bs b o e).1
theorem Inv.mod (I:Inv X pins σ H s):Mod X.K X.mg X.base:=I.ok.mod
theorem Inv.kIn (I:Inv X pins σ H s):X.K.In s.heap:=I.ok.mod.kin.keeps I.bk
theorem Inv.lt (I:Inv X pins σ H s):X.env.locals < s.heap.objs.size:=let ⟨_,hn,_⟩:=I.loc;hn.lt
theorem Inv.sz (I:Inv X pins σ H s):X.s₀.heap.objs.size<=s.heap.objs.size:=Aug I.ok.above (Av9 I.lt)
theorem Inv.nofs (I:Inv X pins σ H s) {a:Addr} (h:s.heap.objs.size<=a):a∉X.fs:=fun hb=>by
 obtain⟨_,o,ho,_⟩:=I.ok.funs.mem hb
 exact absurd (At6 (At1 ho) (Aug I.sz h)) (Aut _)
theorem Inv.cne (I:Inv X pins σ H s):∀ x c,X.env.cells.lookup x=some c->c≠X.env.locals:=fun x c e z=>by
 obtain⟨v,o,ho,hd⟩:=I.cell x c e
 obtain⟨m,⟨o',es,ep,ho',hd',_⟩,_⟩:=I.loc
 rw[z,ho'] at ho;cases ho;rw[hd'] at hd;cases hd
theorem Inv.funs (I:Inv X pins σ H s):s.heap.FunFrames X.base X.outer:=by
 have all:∀ (l:List Env),(∀ b∈frs l,b∈X.fs)->X.s₀.heap.FunFrames X.base l->s.heap.FunFrames X.base l:=by
  intro l
  induction l with
  |nil=>intro _ _;trivial
  |cons env r ih =>
   intro hs hl
   obtain⟨hk,⟨L,o,hf,hn,ho,hd⟩,hr⟩:=hl
   have hL:L∈X.fs:=hs L (by unfold frs;rw[List.filterMap_cons,hf];exact At0)
   obtain⟨sl,e⟩:=I.base.slot L o ho (I.ok.frf L hL) hL fun z=>I.ok.exfs L z hL
   exact⟨hk,⟨L,_,hf,hn,e,hd⟩,ih (fun b hb=>hs b (by unfold frs;rw[List.filterMap_cons,hf];exact Atz _ hb)) hr⟩
 exact all X.outer (fun _ hb=>hb) I.ok.funs
theorem Inv.stack (I:Inv X pins σ H s):s.heap.FunFrames X.base X.stack:=by
 rcases I.ok.stk with e|⟨e,hf⟩
 ·rw[e];exact I.funs
 ·rw[e]
  obtain⟨m,hn,_⟩:=I.loc
  refine .cons (by rw[I.ok.kind];decide) hf hn ?_ I.funs
  exact Heap.get?_none_of_le (Aug I.ok.bsz I.ok.above)
theorem Inv.stkSub (I:Inv X pins σ H s):∀ b∈frs X.stack,b∈X.env.locals::X.fs:=fun b hb=>by
 rcases I.ok.stk with e|⟨e,hf⟩
 ·rw[e] at hb;exact Atz _ hb
 ·rw[e] at hb
  unfold frs at hb
  rw[List.filterMap_cons,hf] at hb
  exact hb
theorem Inv.stkFree (I:Inv X pins σ H s):∀ b∈frs X.stack,H b=none:=fun b hb=>by
 rcases List.mem_cons.mp (I.stkSub b hb) with e|hb
 ·rw[e];exact I.free
 ·obtain⟨_,o,ho,_⟩:=I.ok.funs.mem hb
  exact I.base.free b o ho (I.ok.frf b hb) fun z=>I.ok.exfs b z hb
theorem Inv.step {g':Array GenState}{t':Nat}{d':Drawn}{ch:List Addr} (I:Inv X pins σ H s)
  (hch:∀ b∈ch,(b∈X.ex\/X.s₀.heap.objs.size<=b)/\b≠X.env.locals/\(∀ x c,X.env.cells.lookup x=some c->c≠b)/\∀ p∈X.pn++pins,p.1≠b)
  (keep:∀ b o,b≠X.env.locals->b∉X.fs->b∉ch->s.heap.get? b=some o->H b=none->h'.get? b=some o)
  (slot:∀ b o,b≠X.env.locals->b∈X.fs->b∉ch->s.heap.get? b=some o->H b=none->∃ sl,h'.get? b=some { o with slots:=sl }) (free:∀ b o,b∉ch->s.heap.get? b=some o->H b=none->H' b=none)
  (there:∀ b o,b∉ch->s.heap.get? b=some o->∃ o',h'.get? b=some o')
  (tups:∀ b xs,H b=some (.tup xs)->H' b=some (.tup xs)) (frzs:∀ b o u,H b=some (.frz o u)->H' b=some (.frz o u)) (tbls:∀ b ps,H b=some (.tbl ps)->∃ more,H' b=some (.tbl (ps++more)))
  (ns:∀ m,s.heap.Ns X.env.locals m->h'.Ns X.env.locals m) (hok:HOk X.prog X.w X.K H' h') (hg:AllBare g') :
  Inv X pins σ H' { s with heap:=h',gens:=g',drawn:=d',toks:=t' }:=by
 have neL:∀ b o,X.s₀.heap.get? b=some o->b≠X.env.locals:=fun b o e=>Aub (At6 (At1 e) I.ok.above)
 have neC:∀ b o,X.s₀.heap.get? b=some o->b∉X.ex->b∉ch:=fun b o e hx hb=>by
  rcases (hch b hb).1 with z|z
  ·exact hx z
  ·exact absurd (At6 (At1 e) z) (Aut _)
 have cellK:∀ x c,X.env.cells.lookup x=some c->∀ v,s.heap.IsCell c v->h'.IsCell c v:=fun x c e v ⟨o,ho,hd⟩=>by
  have nch:c∉ch:=fun z=>(hch c z).2.2.1 x c e rfl
  by_cases hc:c∈X.fs
  ·obtain⟨sl,q⟩:=slot c o (I.cne x c e) hc nch ho (I.freeC x c e)
   exact⟨_,q,hd⟩
  ·exact⟨o,keep c o (I.cne x c e) hc nch ho (I.freeC x c e),hd⟩
 refine⟨I.ok,I.os,hg,⟨fun b o e n hb hx=>?_,fun b o e n hb hx=>?_,fun b o e n hx=>?_,fun b o e hx=>?_,fun b xs e=>tups b xs (I.base.tups b xs e),fun b o xs e=>frzs b o xs (I.base.frzs b o xs e),fun b ps e=>?_⟩,?_,fun x c e=>?_,?_,fun x c e=>?_,fun p hp=>?_,hok,I.len⟩
 ·exact keep b o (neL b o e) hb (neC b o e hx) (I.base.keep b o e n hb hx) (I.base.free b o e n hx)
 ·obtain⟨sl,e1⟩:=I.base.slot b o e n hb hx
  obtain⟨sl',e2⟩:=slot b _ (neL b o e) hb (neC b o e hx) e1 (I.base.free b o e n hx)
  exact⟨sl',e2⟩
 ·obtain⟨o',e1⟩:=I.base.there b o e hx
  exact free b o' (neC b o e hx) e1 (I.base.free b o e n hx)
 ·obtain⟨o',e1⟩:=I.base.there b o e hx
  exact there b o' (neC b o e hx) e1
 ·obtain⟨m1,e1⟩:=I.base.tbls b ps e
  obtain⟨m2,e2⟩:=tbls b _ e1
  exact⟨m1++m2,by rw[e2,Array.append_assoc]⟩
 ·obtain⟨m,hn,hl⟩:=I.loc
  refine⟨m,ns m hn,fun i x v e1 e2 e3=>?_⟩
  obtain⟨u,r,l⟩:=hl i x v e1 e2 e3
  refine⟨u,r,?_⟩
  rcases l with l|⟨k,c,e,z⟩
  ·exact .inl l
  ·exact .inr ⟨k,c,e,cellK x c e _ z⟩
 ·obtain⟨v,z⟩:=I.cell x c e
  exact⟨v,cellK x c e v z⟩
 ·obtain⟨m,⟨o,_,_,ho,_⟩,_⟩:=I.loc
  exact free _ o (fun z=>(hch _ z).2.1 rfl) ho I.free
 ·obtain⟨v,o,ho,hd⟩:=I.cell x c e
  exact free c o (fun z=>(hch c z).2.2.1 x c e rfl) ho (I.freeC x c e)
 ·obtain⟨e,n,ne,nf,d⟩:=I.pin p hp
  have nch:p.1∉ch:=fun z=>(hch p.1 z).2.2.2 p hp rfl
  exact⟨keep p.1 p.2 ne nf nch e n,free p.1 p.2 nch e n,ne,nf,d⟩
theorem Inv.un {t':Nat} (I:Inv X pins σ H s) (u:Un X.fs [] H H' s.heap h') (hok:HOk X.prog X.w X.K H' h'):Inv X pins σ H' { s with heap:=h',toks:=t' }:=by
 obtain⟨m,⟨o,es,ep,ho,r⟩,_⟩:=id I.loc
 obtain⟨sl,hL⟩:=u.any ho I.free (by simp)
 exact I.step (g':=s.gens) (d':=s.drawn) (ch:=[]) (fun _ z=>nomatch z) (fun b o _ hb _ e n=>u.keep b o e n hb (by simp)) (fun b o _ hb _ e n=>u.slot b o e n hb (by simp)) (fun b o _ e n=>u.free b o e n (by simp)) (fun b o _ e=>u.there b o e (by simp)) u.tups u.frzs u.tbls (fun m' hm=>by
  obtain⟨o',es',ep',ho',r'⟩:=hm
  rw[ho] at ho';cases ho'
  exact⟨_,es',ep',hL,r'⟩) hok I.bare
theorem Inv.call {g':Array GenState}{t':Nat}{d':Drawn}{ch:List Addr} (I:Inv X pins σ H s) (u:Un (frs X.stack) ch H H' s.heap h') (hok:HOk X.prog X.w X.K H' h') (hg:AllBare g')
  (hch:∀ b∈ch,(b∈X.ex\/X.s₀.heap.objs.size<=b)/\b≠X.env.locals/\(∀ x c,X.env.cells.lookup x=some c->c≠b)/\∀ p∈X.pn++pins,p.1≠b) :
  Inv X pins σ H' { s with heap:=h',gens:=g',drawn:=d',toks:=t' }:=by
 obtain⟨m,⟨o,es,ep,ho,r⟩,_⟩:=id I.loc
 obtain⟨sl,hL⟩:=u.any ho I.free fun z=>(hch _ z).2.1 rfl
 exact I.step (ch:=ch) hch (fun b o hL hb hc e n=>u.keep b o e n (fun z=>(List.mem_cons.mp (I.stkSub b z)).elim hL hb) hc) (fun b o _ _ hc e n=>u.any e n hc) (fun b o hc e n=>u.free b o e n hc) (fun b o hc e=>u.there b o e hc) u.tups u.frzs u.tbls (fun m' hm=>by
  obtain⟨o',es',ep',ho',r'⟩:=hm
  rw[ho] at ho';cases ho'
  exact⟨_,es',ep',hL,r'⟩) hok hg
theorem Inv.turned {t':Nat}{it:Addr} (I:Inv X pins σ H s) (k:∀ b o,b≠it->s.heap.get? b=some o->h'.get? b=some o) (hn:H it=none) (hL:it≠X.env.locals)
  (h1:it∈X.ex\/X.s₀.heap.objs.size<=it) (h2:∀ x c,X.env.cells.lookup x=some c->c≠it) (h3:∀ p∈X.pn++pins,p.1≠it):Inv X pins σ H { s with heap:=h',toks:=t' }:=by
 have nit:∀ b u,H b=some u->b≠it:=fun b u e z=>by rw[z,hn] at e;cases e
 refine I.step (g':=s.gens) (d':=s.drawn) (ch:=[it]) (fun b hb=>?_) (fun b o _ _ hc e _=>k b o (fun z=>hc (by simp[z])) e) (fun b o _ _ hc e _=>⟨o.slots,k b o (fun z=>hc (by simp[z])) e⟩) (fun _ _ _ _ n=>n)
  (fun b o hc e=>⟨o,k b o (fun z=>hc (by simp[z])) e⟩) (fun _ _ e=>e) (fun _ _ _ e=>e) (fun b ps e=>⟨#[],by rw[e];simp⟩) (fun m hm=>?_) (fun b u e=>?_) I.bare
 ·have e:b=it:=by simpa using hb
  subst e
  exact⟨h1,hL,h2,h3⟩
 ·obtain⟨o,es,ep,ho,r⟩:=hm
  exact⟨o,es,ep,k _ o (Avn hL) ho,r⟩
 ·refine (I.hok b u e).stay (fun c v hc q=>k c v ?_ q) (fun _ q=>q) (fun _ _ q=>q) fun _ _ _ q=>q
  rcases hc with z|z
  ·rw[z];exact nit b u e
  ·exact nit c _ z
theorem Inv.tok (I:Inv X pins σ H s) (t:Nat):Inv X pins σ H { s with toks:=t }:=I.un (h':=s.heap) (t':=t) Un.refl I.hok
theorem Inv.kept {t':Nat} (I:Inv X pins σ H s) (k:∀ b u,s.heap.get? b=some u->h'.get? b=some u):Inv X pins σ H { s with heap:=h',toks:=t' }:=I.un (Un.kept k) (I.hok.kept k)
theorem Inv.laid {a:Addr}{o:HO}{t':Nat} (I:Inv X pins σ H s) (k:∀ b u,s.heap.get? b=some u->h'.get? b=some u) (hp:s.heap.objs.size<=a) (new:ObjOk X.prog X.w X.K (upd H a o) h' a o) :
  Inv X pins σ (upd H a o) { s with heap:=h',toks:=t' }:=I.un (Un.laid k hp (I.hok.fresh hp)) (I.hok.laid k hp new)
theorem Inv.write {x e:Addr}{o:HO}{t':Nat} (I:Inv X pins σ H s) (mu:Mut (H x)) (he:e=x\/H e=some (.own x)) (k:∀ b u,b≠e->s.heap.get? b=some u->h'.get? b=some u) (heo:∃ u,h'.get? e=some u)
  (new:ObjOk X.prog X.w X.K (upd H x o) h' x o):Inv X pins σ (upd H x o) { s with heap:=h',toks:=t' }:=I.un (Un.write mu he k heo) (I.hok.write mu he k heo new)
theorem Inv.pins_of {pins':List (Addr×Obj)} (I:Inv X pins σ H s) (h:∀ p∈pins',s.heap.get? p.1=some p.2/\H p.1=none/\p.1≠X.env.locals/\p.1∉X.fs/\∀ v,p.2.data≠.cell v):Inv X pins' σ H s :=
 ⟨I.ok,I.os,I.bare,I.base,I.loc,I.cell,I.free,I.freeC,fun p hp=>(List.mem_append.mp hp).elim (fun z=>I.pin p (Auq _ z)) (h p),I.hok,I.len⟩
theorem Mo {N:List Str} (hN:N.Nodup) {i j:Nat}{x:Str} (a:N[i]?=some x) (b:N[j]?=some x):i=j:=by
 obtain⟨h1,e1⟩:=List.getElem?_eq_some_iff.mp a
 obtain⟨h2,e2⟩:=List.getElem?_eq_some_iff.mp b
 exact (List.getElem_inj hN).mp (e1.trans e2.symm)
theorem O5 {M:Model}{A:Around}{E:Value->Shared->Prop}{i:Nat}{x:Str}{v:V}{u:Value}{Q:Unit->Shared->Prop} (I:Inv X pins σ H s) (hN:X.N.Nodup) (hi:X.N[i]?=some x) (hx:Loc X.env.scope x) (r:RelV v u)
  (h:∀ s',Inv X pins (σ.set i (some v)) H s'->(∃ a,Heap.SameBut a s.heap s'.heap/\(a=X.env.locals\/X.env.cells.lookup x=some a))->Q () s') (hf:X.fn x=true\/X.env.scope.names.lookup x=some .local:=by first|exact .inl rfl|exact .inr rfl|assumption):wpAny M A (storeName X.env x u) Q E s:=by
 obtain⟨m,hn,hl⟩:=id I.loc
 have hcls:(X.env.scope.kind == .class||(X.env.scope.kind == .module&&X.env.locals != X.env.globals))=false:=by rw[I.ok.kind];rfl
 have hiσ:i < σ.length:=by rw[I.len];exact (List.getElem?_eq_some_iff.mp hi).1
 have cne:=I.cne
 have tracked:∀ {a:Addr}{h':Heap},(∃ o,s.heap.get? a=some o/\H a=none)->Heap.SameBut a s.heap h'->HOk X.prog X.w X.K H h':=fun {a h'} ha hs b ob e=>by
  obtain⟨_,_,hfree⟩:=ha
  refine (I.hok b ob e).stay (fun c w' hc q=>(hs.2 c ?_).trans q) (fun _ q=>q) (fun _ _ q=>q) fun _ _ _ q=>q
  rintro rfl
  rcases hc with rfl|hc
  ·rw[hfree] at e;cases e
  ·rw[hfree] at hc;cases hc
 rcases hx with hk|hk
 ·refine wpAny_storeName_local hk hn (fun h' hn' hs=>?_) hcls
  obtain⟨oL,_,_,hoL,_⟩:=id hn
  refine h _ ⟨I.ok,I.os,I.bare,⟨fun b o e n hb hx=>?_,fun b o e n hb hx=>?_,I.base.free,fun b o e hx=>?_,I.base.tups,I.base.frzs,I.base.tbls⟩,⟨_,hn',fun j y v' e1 e2 e3=>?_⟩,fun y c e=>?_,I.free,I.freeC,fun p hp=>?_,tracked ⟨oL,hoL,I.free⟩ hs,by simpa using I.len⟩ ⟨_,hs,.inl rfl⟩
  ·exact (hs.2 b (Aub (At6 (At1 e) I.ok.above))).trans (I.base.keep b o e n hb hx)
  ·obtain⟨sl,e1⟩:=I.base.slot b o e n hb hx
   exact⟨sl,(hs.2 b (Aub (At6 (At1 e) I.ok.above))).trans e1⟩
  ·obtain⟨o',e1⟩:=I.base.there b o e hx
   exact⟨o',(hs.2 b (Aub (At6 (At1 e) I.ok.above))).trans e1⟩
  ·by_cases hj:j=i
   ·subst hj
    rw[hi] at e1;cases e1
    rw[Au5 hiσ] at e2
    cases e2
    exact⟨u,r,.inl ⟨hk,by simp⟩⟩
   ·rw[Avj (Avn hj)] at e2
    obtain⟨u',r',q⟩:=hl j y v' e1 e2 e3
    refine⟨u',r',?_⟩
    rcases q with ⟨k,e⟩|⟨k,c,e,z⟩
    ·refine .inl ⟨k,?_⟩
     have:y≠x:=fun e=>hj (Mo hN e1 (e ▸ hi))
     simp[this,e]
    ·exact .inr ⟨k,c,e,z.sameBut hs (cne y c e)⟩
  ·obtain⟨w',z⟩:=I.cell y c e
   exact⟨w',z.sameBut hs (cne y c e)⟩
  ·obtain⟨e,n,ne,nf,d⟩:=I.pin p hp
   exact⟨(hs.2 p.1 ne).trans e,n,ne,nf,d⟩
 ·have hfn:X.fn x=true:=by
   rcases hf with z|z
   ·exact z
   ·rw[z] at hk;cases hk
  obtain⟨c,hc⟩:=I.ok.has x (.inl hk)
  obtain⟨w',z⟩:=I.cell x c hc
  refine wpAny_storeName_cell I.ok.kind hk hc z (fun h' hc' hs=>?_)
  obtain⟨oc,hoc,hocd⟩:=id z
  refine h { s with heap:=h' } ⟨I.ok,I.os,I.bare,⟨fun b o e n hb hx=>?_,fun b o e n hb hx=>?_,I.base.free,fun b o e hx=>?_,I.base.tups,I.base.frzs,I.base.tbls⟩,⟨m,hn.sameBut hs (Avn (cne x c hc)),fun j y v' e1 e2 e3=>?_⟩,fun y c' e=>?_,I.free,I.freeC,fun p hp=>?_,tracked ⟨oc,hoc,I.freeC x c hc⟩ hs,by simpa using I.len⟩ ⟨c,hs,.inr hc⟩
  ·exact (hs.2 b (Aub (At6 (At1 e) (I.ok.cab x c hfn hc)))).trans (I.base.keep b o e n hb hx)
  ·obtain⟨sl,e1⟩:=I.base.slot b o e n hb hx
   exact⟨sl,(hs.2 b (Aub (At6 (At1 e) (I.ok.cab x c hfn hc)))).trans e1⟩
  ·obtain⟨o',e1⟩:=I.base.there b o e hx
   exact⟨o',(hs.2 b (Aub (At6 (At1 e) (I.ok.cab x c hfn hc)))).trans e1⟩
  ·by_cases hj:j=i
   ·subst hj
    rw[hi] at e1;cases e1
    rw[Au5 hiσ] at e2
    cases e2
    exact⟨u,r,.inr ⟨.inl hk,c,hc,hc'⟩⟩
   ·rw[Avj (Avn hj)] at e2
    obtain⟨u',r',q⟩:=hl j y v' e1 e2 e3
    refine⟨u',r',?_⟩
    rcases q with q|⟨k,c',e,z'⟩
    ·exact .inl q
    ·refine .inr ⟨k,c',e,z'.sameBut hs ?_⟩
     rintro rfl
     exact hj (Mo hN e1 (I.ok.inj _ _ _ e hc ▸ hi))
  ·by_cases hcc:c'=c
   ·subst hcc;exact⟨_,hc'⟩
   ·obtain⟨w2,z2⟩:=I.cell y c' e
    exact⟨w2,z2.sameBut hs hcc⟩
  ·obtain⟨e,n,ne,nf,d⟩:=I.pin p hp
   refine⟨(hs.2 p.1 ?_).trans e,n,ne,nf,d⟩
   intro q
   rw[q,hoc] at e
   have q':oc=p.2:=Au2 e
   exact d w' (by rw[<- q'];exact hocd)
theorem Nf {M:Model}{A:Around}{E:Value->Shared->Prop}{i:Nat}{x:Str}{v:V}{u:Value}{Q:Unit->Shared->Prop} (I:Inv X pins σ H s) (hN:X.N.Nodup) (hi:X.N[i]?=some x) (hx:Loc X.env.scope x) (r:RelV v u)
  (h:∀ s',Inv X pins (σ.set i (some v)) H s'->Q () s') (hf:X.fn x=true\/X.env.scope.names.lookup x=some .local:=by first|exact .inl rfl|exact .inr rfl|assumption):wpAny M A (storeName X.env x u) Q E s :=
 O5 I hN hi hx r (fun s' I' _=>h s' I') hf
theorem Inv.call' {s':Shared}{ch:List Addr} (I:Inv X pins σ H s) (ho:s'.os=s.os) (u:Un (frs X.stack) ch H H' s.heap s'.heap) (hok:HOk X.prog X.w X.K H' s'.heap) (hg:AllBare s'.gens)
  (hch:∀ b∈ch,(b∈X.ex\/X.s₀.heap.objs.size<=b)/\b≠X.env.locals/\(∀ x c,X.env.cells.lookup x=some c->c≠b)/\∀ p∈X.pn++pins,p.1≠b):Inv X pins σ H' s':=by
 obtain⟨h',g',d',t',o'⟩:=s'
 have e:o'=s.os:=ho
 subst e
 exact I.call (g':=g') (t':=t') (d':=d') u hok hg hch
end
abbrev XK:=Value->Option Addr->Hp->Prop
abbrev St:=List (Option V)
abbrev VK:=V->Hp->Prop
abbrev TE:=St->Hp->VK->Prop
abbrev TT:=St->Hp->(Bool->Hp->Prop)->Prop
abbrev TA:=St->Hp->(List V->Hp->Prop)->Prop
structure Ends where
 nx:St->Hp->Prop
 rt:VK
 bk:St->Hp->Prop:=fun _ _=>False
 ct:St->Hp->Prop:=fun _ _=>False
abbrev TS:=Ends->St->Hp->Prop
def EP (X:Cx) (pins:List (Addr×Obj)) (σ:St) (Q:VK) (u:Value) (s':Shared):Prop:=∃ v H',Inv X pins σ H' s'/\RelV v u/\Q v H'
def TP (X:Cx) (pins:List (Addr×Obj)) (σ:St) (Q:Bool->Hp->Prop) (b:Bool) (s':Shared):Prop:=∃ H',Inv X pins σ H' s'/\Q b H'
def AP (X:Cx) (pins:List (Addr×Obj)) (σ:St) (Q:List V->Hp->Prop) (us:List Value) (s':Shared):Prop:=∃ vs H',Inv X pins σ H' s'/\Vals vs us/\Q vs H'
def SP (X:Cx) (pins:List (Addr×Obj)) (D:Ends) (f:Flow) (s':Shared):Prop :=
 match f with
 |.next=>∃ σ' H',Inv X pins σ' H' s'/\D.nx σ' H'
 |.brk=>∃ σ' H',Inv X pins σ' H' s'/\D.bk σ' H'
 |.cont=>∃ σ' H',Inv X pins σ' H' s'/\D.ct σ' H'
 |.ret u=>∃ v σ' H',Inv X pins σ' H' s'/\RelV v u/\D.rt v H'
def PE (X:Cx) (e:Expr) (t:TE):Prop :=
 ∀ (pins:List (Addr×Obj)) (s:Shared) (σ:St) (H:Hp) (Q:VK),Inv X pins σ H s->t σ H Q->wpAny (model X.prog X.w) X.A (eval e X.env) (EP X pins σ Q) X.xe s
def PT (X:Cx) (e:Expr) (t:TT):Prop :=
 ∀ (pins:List (Addr×Obj)) (s:Shared) (σ:St) (H:Hp) (Q:Bool->Hp->Prop),Inv X pins σ H s->t σ H Q->wpAny (model X.prog X.w) X.A (isTrue e X.env (eval e X.env)) (TP X pins σ Q) X.xe s
def PW (X:Cx) (e:Expr) (t:TT):Prop :=
 ∀ (whole:Sem Value) (pins:List (Addr×Obj)) (s:Shared) (σ:St) (H:Hp) (Q:Bool->Hp->Prop),Inv X pins σ H s->t σ H Q->wpAny (model X.prog X.w) X.A (isTrue e X.env whole) (TP X pins σ Q) X.xe s
theorem PW.pt {X:Cx}{e:Expr}{t:TT} (h:PW X e t):PT X e t:=h _
def PA (X:Cx) (es:List Expr) (t:TA):Prop :=
 ∀ (pos:Pos) (pins:List (Addr×Obj)) (s:Shared) (σ:St) (H:Hp) (Q:List V->Hp->Prop),Inv X pins σ H s->t σ H Q->wpAny (model X.prog X.w) X.A (spliced (backTo pos (starEach es X.env))) (AP X pins σ Q) X.xe s
def PS (X:Cx) (st:Stmt) (t:TS):Prop :=
 ∀ (pins:List (Addr×Obj)) (s:Shared) (σ:St) (H:Hp) (D:Ends),Inv X pins σ H s->t D σ H->wpAny (model X.prog X.w) X.A (exec st X.env) (SP X pins D) X.xe s
def PSs (X:Cx) (st:List Stmt) (t:TS):Prop :=
 ∀ (pins:List (Addr×Obj)) (s:Shared) (σ:St) (H:Hp) (D:Ends),Inv X pins σ H s->t D σ H->wpAny (model X.prog X.w) X.A (execs st X.env) (SP X pins D) X.xe s
theorem thn {α:Type}{t:Sem α}{Q Q':α->Shared->Prop}{M:Model}{A:Around}{E:Value->Shared->Prop}{s:Shared} (h:wpAny M A t Q E s) (hQ:∀ a s,Q a s->Q' a s):wpAny M A t Q' E s:=Au0 h hQ fun _ _ x=>x
section
variable {X:Cx}
noncomputable def Ats (i:Nat):TE:=fun σ H Q=>∃ v,σ[i]?=some (some v)/\Q v H
noncomputable def tC (v:V):TE:=fun _ H Q=>Q v H
theorem Anp {i:Nat}{x:Str}{pos:Pos} (hN:X.N[i]?=some x) (hv:Vis X.env.scope x) (hd:(x == ("__debug__":Str))=false:=by decide) (hcd:(x == ("__classdict__":Str))=false:=by decide):PE X (.Name x pos) (Ats i):=by
 intro pins s σ H Q I h
 obtain⟨v,e,h⟩:=h
 obtain⟨m,hn,hl⟩:=I.loc
 obtain⟨u,r,l⟩:=hl i x v hN e hv
 have fin:EP X pins σ Q u s:=⟨v,H,I,r,h⟩
 rcases l with ⟨hk,hm⟩|⟨hk,c,hc,hcell⟩
 ·exact wpAny_Name (wpAny_loadName_local I.ok.kind hk hn hm fin) hd
 ·rcases hk with hk|hk
  ·exact wpAny_Name (wpAny_loadName_cell I.ok.kind hk hc hcell fin) hd
  ·exact wpAny_Name (wpAny_loadName_free I.ok.kind hk hc hcell fin hcd) hd
theorem Afl {i j pos}:PE X (.Constant (.int i) j pos) (tC (.int i)):=fun _ _ _ H _ I h=>wpAny_Constant_int ⟨.int i,H,I.tok _,⟨_,rfl⟩,h⟩
theorem Arx {b j pos}:PE X (.Constant (.bool b) j pos) (tC (.bl b)):=fun _ _ _ H _ I h=>Constant_bool ⟨.bl b,H,I,rfl,h⟩
theorem Aag {j pos}:PE X (.Constant .none j pos) (tC .non):=fun _ _ _ H _ I h=>Constant_none ⟨.non,H,I,rfl,h⟩
theorem Ano {x j pos}:PE X (.Constant (.str x) j pos) (tC (.str x)):=fun _ _ _ H _ I h=>Calls.Constant_str ⟨.str x,H,I.tok _,⟨_,rfl⟩,h⟩
def Gl (X:Cx) (x:Str):Prop:=X.env.kindOf x=some .globalImplicit
theorem Ep {E:Value->Shared->Prop}{pins:List (Addr×Obj)}{s:Shared}{σ:St}{H:Hp}{x:Str}{u:Value}{pos:Pos}{Q:Value->Shared->Prop} (I:Inv X pins σ H s) (hg:Gl X x) (hm:X.mg x=some u) (h:Q u s)
  (hd:(x == ("__debug__":Str))=false:=by decide):wpAny (model X.prog X.w) X.A (eval (.Name x pos) X.env) Q E s :=
 Calls.Name_function_global I.ok.kind hg (Calls.loadGlobal_global (by rw[I.ok.glob];exact I.mod.glob.keeps I.bk) hm h) hd
theorem D2 {E:Value->Shared->Prop}{pins:List (Addr×Obj)}{s:Shared}{σ:St}{H:Hp}{x:Str}{u:Value}{pos:Pos}{Q:Value->Shared->Prop} (I:Inv X pins σ H s) (hg:Gl X x) (hm:X.mg x=none) (hv:bootBuiltins x=some u) (h:Q u s)
  (hn:x≠"__name__":=by decide) (hd:(x == ("__debug__":Str))=false:=by decide):wpAny (model X.prog X.w) X.A (eval (.Name x pos) X.env) Q E s:=by
 obtain⟨mb,h1,h2⟩:=I.mod.blt
 exact Calls.Name_function_global I.ok.kind hg (Calls.loadGlobal_builtin (by rw[I.ok.glob];exact I.mod.glob.keeps I.bk) hm (by rw[I.ok.blt];exact h1.keeps I.bk) ((h2 x hn).trans hv) h) hd
theorem Rq {x:Str}{v:V}{u:Value}{pos:Pos} (hg:Gl X x) (hm:X.mg x=some u) (r:RelV v u) (hd:(x == ("__debug__":Str))=false:=by decide):PE X (.Name x pos) (tC v) :=
 fun _ _ _ H _ I h=>Ep I hg hm ⟨v,H,I,r,h⟩ hd
theorem Aaf {x:Str}{v:V}{u:Value}{pos:Pos} (hg:Gl X x) (hm:X.mg x=none) (hv:bootBuiltins x=some u) (r:RelV v u) (hn:x≠"__name__":=by decide) (hd:(x == ("__debug__":Str))=false:=by decide):PE X (.Name x pos) (tC v) :=
 fun _ _ _ H _ I h=>D2 I hg hm hv ⟨v,H,I,r,h⟩ hn hd
variable {a b:Expr}{ta tb:TE}{pos:Pos}
variable {tA tB':TT}{rest:List Expr}
noncomputable def As2 (t u:TT):TT:=fun σ H Q=>t σ H fun c H1=>if c=true then u σ H1 Q else Q false H1
noncomputable def tOr (t u:TT):TT:=fun σ H Q=>t σ H fun c H1=>if c=true then Q true H1 else u σ H1 Q
noncomputable def Atp (t:TT):TT:=fun σ H Q=>t σ H fun c H1=>Q (!c) H1
theorem Ajv (ha:PT X a tA):PW X (.BoolOp .And [a] pos) tA:=by
 intro wh pins s σ H Q I h
 refine isTrue_and (thn (ha pins s σ H Q I h) fun c s1 e=>?_)
 cases c with
 |true=>exact isTrue_and_nil e
 |false=>exact e
theorem An3 (ha:PT X a tA):PW X (.BoolOp .Or [a] pos) tA:=by
 intro wh pins s σ H Q I h
 refine isTrue_or (thn (ha pins s σ H Q I h) fun c s1 e=>?_)
 cases c with
 |false=>exact isTrue_or_nil e
 |true=>exact e
theorem An1 (ha:PT X a tA) (hb:PW X (.BoolOp .And (b::rest) pos) tB'):PW X (.BoolOp .And (a::b::rest) pos) (As2 tA tB'):=by
 intro wh pins s σ H Q I h
 refine isTrue_and (thn (ha pins s σ H _ I h) fun c s1 ⟨H1,I1,q1⟩=>?_)
 cases c with
 |true=>exact hb wh pins s1 σ H1 Q I1 q1
 |false=>exact⟨H1,I1,q1⟩
theorem Ar2 (ha:PT X a tA) (hb:PW X (.BoolOp .Or (b::rest) pos) tB'):PW X (.BoolOp .Or (a::b::rest) pos) (tOr tA tB'):=by
 intro wh pins s σ H Q I h
 refine isTrue_or (thn (ha pins s σ H _ I h) fun c s1 ⟨H1,I1,q1⟩=>?_)
 cases c with
 |true=>exact⟨H1,I1,q1⟩
 |false=>exact hb wh pins s1 σ H1 Q I1 q1
theorem An0 (ha:PT X a tA):PT X (.UnaryOp .Not a pos) (Atp tA):=by
 intro pins s σ H Q I h
 exact isTrue_not (ha pins s σ H (fun c H1=>Q (!c) H1) I h)
noncomputable def Asf (ta tb:TE):TE:=fun σ H Q=>ta σ H fun x H1=>∃ c,x=.bl c/\if c=true then tb σ H1 Q else Q (.bl false) H1
noncomputable def Atq (ta tb:TE):TE:=fun σ H Q=>ta σ H fun x H1=>∃ c,x=.bl c/\if c=true then Q (.bl true) H1 else tb σ H1 Q
theorem Anl {op}{t:TE} (h:PE X a t):PE X (.BoolOp op [a] pos) t:=fun pins s σ H Q I hw=>BoolOp_one (h pins s σ H Q I hw)
theorem Ani (ha:PE X a ta) (hb:PE X (.BoolOp .And (b::rest) pos) tb):PE X (.BoolOp .And (a::b::rest) pos) (Asf ta tb):=by
 intro pins s σ H Q I h
 refine BoolOp_and (thn (ha pins s σ H _ I h) fun v s1 ⟨x,H1,I1,r1,q1⟩=>?_)
 obtain⟨c,rfl,q1⟩:=q1
 cases r1
 refine Awd ?_
 cases c with
 |true=>exact hb pins s1 σ H1 Q I1 q1
 |false=>exact⟨.bl false,H1,I1,rfl,q1⟩
theorem Ar0 (ha:PE X a ta) (hb:PE X (.BoolOp .Or (b::rest) pos) tb):PE X (.BoolOp .Or (a::b::rest) pos) (Atq ta tb):=by
 intro pins s σ H Q I h
 refine BoolOp_or (thn (ha pins s σ H _ I h) fun v s1 ⟨x,H1,I1,r1,q1⟩=>?_)
 obtain⟨c,rfl,q1⟩:=q1
 cases r1
 refine Awd ?_
 cases c with
 |false=>exact hb pins s1 σ H1 Q I1 q1
 |true=>exact⟨.bl true,H1,I1,rfl,q1⟩
noncomputable def tIf (t:TT) (ta tb:TE):TE:=fun σ H Q=>t σ H fun c H1=>if c=true then ta σ H1 Q else tb σ H1 Q
theorem Ac9 {c:Expr} (hc:PT X c tA) (ha:PE X a ta) (hb:PE X b tb):PE X (.IfExp c a b pos) (tIf tA ta tb):=by
 intro pins s σ H Q I h
 refine wpAny_IfExp (thn (hc pins s σ H _ I h) fun d s1 ⟨H1,I1,q1⟩=>?_)
 cases d with
 |true=>exact ha pins s1 σ H1 Q I1 q1
 |false=>exact hb pins s1 σ H1 Q I1 q1
end
def SqL (K:W.Frag) (H:Hp) (a:Addr) (xs:List V):Prop :=
 Rd H a (.lst xs) \/
  ∃ (o:Obj) (its:Array Value) (n:Nat),K.lookup a=some o/\o.cls=.type "list"/\o.dict=none/\o.data=.seq its n/\its.size<=sizeLine/\Vals xs its.toList
noncomputable def Ata:Value->Option V
 |.none=>some .non
 |.bool b=>some (.bl b)
 |.int i _=>some (.int i)
 |.str x _=>some (.str x)
 |.bytes b _=>some (.byt b)
 |.float b _=>some (.flt b)
 |.ref a=>some (.ref a)
 |.type n=>some (.ty n)
 |_=>none
theorem RelV.abs {x:V}{u:Value} (r:RelV x u):Ata u=some x:=by
 cases x with
 |non=>cases r;rfl
 |bl _=>cases r;rfl
 |int _=>obtain⟨t,rfl⟩:=r;rfl
 |str _=>obtain⟨t,rfl⟩:=r;rfl
 |byt _=>obtain⟨t,rfl⟩:=r;rfl
 |flt _=>obtain⟨t,rfl⟩:=r;rfl
 |ref _=>cases r;rfl
 |ty _=>cases r;rfl
theorem RelV.inj {x y:V}{u:Value} (r:RelV x u) (q:RelV y u):x=y:=Au2 (r.abs.symm.trans q.abs)
theorem Vals.inj:∀ {xs ys:List V}{us:List Value},Vals xs us->Vals ys us->xs=ys
 |_,_,_,.nil,.nil=>rfl
 |_,_,_,.cons r t,.cons r' t'=>by rw[r.inj r',Vals.inj t t']
section
variable {X:Cx}{pins:List (Addr×Obj)}{σ:St}{H:Hp}{s:Shared}{a:Addr}{xs ys:List V}
theorem SqL.of {K:W.Frag} (h:H a=some (.lst xs)):SqL K H a xs:=.inl (.inl h)
inductive LstR (h:Heap) (a:Addr) (xs:List V):Prop where
 |mk (its:List Value) (r:Vals xs its) (p:PlainL h a its.toArray) (z:xs.length<=sizeLine)
inductive TupR (h:Heap) (a:Addr) (xs:List V):Prop where
 |mk (its:List Value) (r:Vals xs its) (p:IsTup h a its.toArray) (z:xs.length<=sizeLine)
theorem Inv.list (I:Inv X pins σ H s) (h:SqL X.K H a xs):LstR s.heap a xs:=by
 rcases h with h|⟨o,its,n,hk,hc,hd,hs,hz,r⟩
 ·obtain⟨z,its,n,r,e⟩:=h.ok I.hok
  exact⟨its,r,⟨_,n,e,rfl,rfl,rfl⟩,z⟩
 ·refine⟨its.toList,r,⟨o,n,I.kIn a o hk,hc,hd,by simpa using hs⟩,?_⟩
  have e:=r.length
  simp only[Aul] at e
  lia
theorem Inv.tuple (I:Inv X pins σ H s) (h:SqT X.K H a xs):TupR s.heap a xs:=by
 rcases h with h|⟨o,its,n,hk,hc,hs,hz,r,_⟩
 ·obtain⟨z,its,r,p⟩:=h.ok I.hok
  exact⟨its,r,p.is,z⟩
 ·refine⟨its.toList,r,⟨o,I.kIn a o hk,hc,n,by simpa using hs⟩,?_⟩
  have e:=r.length
  simp only[Aul] at e
  lia
inductive TupRD (h:Heap) (a:Addr) (xs:List V):Prop where
 |mk (its:List Value) (r:Vals xs its) (p:TupD h a its.toArray) (z:xs.length<=sizeLine)
theorem Inv.tupleD (I:Inv X pins σ H s) (h:SqT X.K H a xs):TupRD s.heap a xs:=by
 rcases h with h|⟨o,its,n,hk,hc,hs,hz,r,hd⟩
 ·obtain⟨z,its,r,p⟩:=h.ok I.hok
  exact⟨its,r,p,z⟩
 ·refine⟨its.toList,r,⟨o,I.kIn a o hk,hc,n,by simpa using hs,hd⟩,?_⟩
  have e:=r.length
  simp only[Aul] at e
  lia
theorem Inv.list_inj (I:Inv X pins σ H s) (h:SqL X.K H a xs) (h':SqL X.K H a ys):xs=ys:=by
 obtain⟨its,r,⟨o,n,e,_,_,d⟩,_⟩:=I.list h
 obtain⟨its',r',⟨o',n',e',_,_,d'⟩,_⟩:=I.list h'
 rw[e] at e';cases e'
 rw[d] at d'
 injection d' with d1 _
 have:its=its':=by simpa using Avz Array.toList d1
 subst this
 exact r.inj r'
theorem Inv.tuple_inj (I:Inv X pins σ H s) (h:SqT X.K H a xs) (h':SqT X.K H a ys):xs=ys:=by
 obtain⟨its,r,⟨o,e,_,n,d⟩,_⟩:=I.tuple h
 obtain⟨its',r',⟨o',e',_,n',d'⟩,_⟩:=I.tuple h'
 rw[e] at e';cases e'
 rw[d] at d'
 injection d' with d1 _
 have:its=its':=by simpa using Avz Array.toList d1
 subst this
 exact r.inj r'
end
abbrev Cx.wish (X:Cx) (E:Value->Shared->Prop):Cx:={ X with xe:=E }
abbrev Cx.nox (X:Cx):Cx:=X.wish fun _ _=>False
theorem Cx.Ok.wish {X:Cx} (ok:X.Ok) (E:Value->Shared->Prop):(X.wish E).Ok :=
 ⟨ok.mod,ok.kind,ok.glob,ok.blt,ok.above,ok.inj,ok.has,ok.cab,ok.hd,ok.frames,ok.stk,ok.exf,ok.bs,ok.bsz,ok.noex,ok.exfs,ok.funs,ok.frf⟩
theorem Cx.Ok.unwish {X:Cx}{E:Value->Shared->Prop} (ok:(X.wish E).Ok):X.Ok :=
 ⟨ok.mod,ok.kind,ok.glob,ok.blt,ok.above,ok.inj,ok.has,ok.cab,ok.hd,ok.frames,ok.stk,ok.exf,ok.bs,ok.bsz,ok.noex,ok.exfs,ok.funs,ok.frf⟩
section
variable {X:Cx}{pins:List (Addr×Obj)}{σ:St}{H:Hp}{s:Shared}{E:Value->Shared->Prop}
theorem Inv.wish (I:Inv X pins σ H s) (E:Value->Shared->Prop):Inv (X.wish E) pins σ H s:=⟨I.ok.wish E,I.os,I.bare,I.base,I.loc,I.cell,I.free,I.freeC,I.pin,I.hok,I.len⟩
theorem Inv.unwish (I:Inv (X.wish E) pins σ H s):Inv X pins σ H s:=⟨I.ok.unwish,I.os,I.bare,I.base,I.loc,I.cell,I.free,I.freeC,I.pin,I.hok,I.len⟩
theorem SP.unwish {D:Ends}{f:Flow}{s':Shared} (h:SP (X.wish E) pins D f s'):SP X pins D f s':=by
 cases f with
 |next=>obtain⟨σ',H',I,q⟩:=h;exact⟨σ',H',I.unwish,q⟩
 |brk=>obtain⟨σ',H',I,q⟩:=h;exact⟨σ',H',I.unwish,q⟩
 |cont=>obtain⟨σ',H',I,q⟩:=h;exact⟨σ',H',I.unwish,q⟩
 |ret u=>obtain⟨v,σ',H',I,r,q⟩:=h;exact⟨v,σ',H',I.unwish,r,q⟩
theorem PE.nox {e:Expr}{t:TE} (h:PE X.nox e t):PE X e t:=fun pins s σ H Q I hw =>
 Au0 (h pins s σ H Q (I.wish _) hw) (fun _ _ ⟨v,H',I',r,q⟩=>⟨v,H',I'.unwish,r,q⟩) fun _ _ z=>False.elim z
theorem PT.nox {e:Expr}{t:TT} (h:PT X.nox e t):PT X e t:=fun pins s σ H Q I hw =>
 Au0 (h pins s σ H Q (I.wish _) hw) (fun _ _ ⟨H',I',q⟩=>⟨H',I'.unwish,q⟩) fun _ _ z=>False.elim z
theorem PSs.nox {st:List Stmt}{t:TS} (h:PSs X.nox st t):PSs X st t:=fun pins s σ H D I hw =>
 Au0 (h pins s σ H D (I.wish _) hw) (fun _ _ q=>q.unwish) fun _ _ z=>False.elim z
end
section
variable {X:Cx}{st:Stmt}{rest:List Stmt}{t u:TS}{e:Expr}{te:TE}{pos:Pos}
noncomputable def Ash:TS:=fun D σ H=>D.nx σ H
noncomputable def As3 (t u:TS):TS:=fun D σ H=>t { D with nx:=u D } σ H
theorem Aar:PSs X [] Ash:=fun _ _ σ H _ I h=>wpAny_execs_nil ⟨σ,H,I,h⟩
theorem Mx (h1:PS X st t) (h2:PSs X rest u):PSs X (st::rest) (As3 t u):=by
 intro pins s σ H D I h
 refine wpAny_execs_cons (thn (h1 pins s σ H { D with nx:=u D } I h) fun f s1 q=>?_)
 cases f with
 |next =>
  obtain⟨σ',H',I',q⟩:=q
  exact h2 pins s1 σ' H' D I' q
 |ret v=>exact q
 |brk=>exact q
 |cont=>exact q
theorem Ajq (h1:PS X st t):PSs X [st] t:=by
 intro pins s σ H D I h
 refine wpAny_execs_cons (thn (h1 pins s σ H D I h) fun f s1 q=>?_)
 cases f with
 |next=>exact wpAny_execs_nil q
 |ret v=>exact q
 |brk=>exact q
 |cont=>exact q
theorem Inv.quiet {pins:List (Addr×Obj)}{σ:St}{H:Hp}{s:Shared} (I:Inv X pins σ H s):interactive X.env=false:=by simp[interactive,I.ok.kind]
noncomputable def Asg (te:TE):TS:=fun D σ H=>te σ H fun _ H1=>D.nx σ H1
theorem Aal (he:PE X e te) (hs:swapsWith e none pos.line X.env=pure false:=by rfl):PS X (.Expr e pos) (Asg te):=by
 intro pins s σ H D I h
 exact wpAny_Expr_any (thn (he pins s σ H _ I h) fun v s1 ⟨x,H1,I1,r1,q1⟩=>⟨σ,H1,I1,q1⟩) I.quiet hs
noncomputable def Atr (te:TE):TS:=fun D σ H=>te σ H D.rt
theorem Afn (he:PE X e te):PS X (.Return (some e) pos) (Atr te):=by
 intro pins s σ H D I h
 exact wpAny_Return_some (thn (he pins s σ H _ I h) fun v s1 ⟨x,H1,I1,r1,q1⟩=>⟨x,σ,H1,I1,r1,q1⟩)
noncomputable def Atn (c:TT) (t u:TS):TS:=fun D σ H=>c σ H fun b H1=>if b=true then t D σ H1 else u D σ H1
theorem Anw {c:Expr}{a b:List Stmt}{tc:TT} (hc:PT X c tc) (ha:PSs X a t) (hb:PSs X b u):PS X (.If c a b pos) (Atn tc t u):=by
 intro pins s σ H D I h
 refine wpAny_If (thn (hc pins s σ H _ I h) fun d s1 ⟨H1,I1,q1⟩=>?_)
 cases d with
 |true=>exact ha pins s1 σ H1 D I1 q1
 |false=>exact hb pins s1 σ H1 D I1 q1
noncomputable def Aoy:TS:=fun _ _ _=>False
theorem Aaq {sts:List Stmt}:PSs X sts Aoy:=fun _ _ _ _ _ _ h=>h.elim
end
abbrev TG:=V->St->Hp->(St->Hp->Prop)->Prop
abbrev TGs:=List V->St->Hp->(St->Hp->Prop)->Prop
def PG (X:Cx) (target:Expr) (t:TG):Prop :=
 ∀ (pins:List (Addr×Obj)) (s:Shared) (σ:St) (H:Hp) (v:V) (u:Value) (Q:St->Hp->Prop),Inv X pins σ H s->RelV v u->t v σ H Q ->
  wpAny (model X.prog X.w) X.A (assign target X.env u) (fun _ s'=>∃ σ' H',Inv X pins σ' H' s'/\Q σ' H') X.xe s
def PGs (X:Cx) (ts:List Expr) (t:TGs):Prop :=
 ∀ (pins:List (Addr×Obj)) (s:Shared) (σ:St) (H:Hp) (vs:List V) (us:List Value) (Q:St->Hp->Prop),Inv X pins σ H s->Vals vs us->t vs σ H Q ->
  wpAny (model X.prog X.w) X.A (assignInOrder ((assignEach ts X.env).map (·.2)) us) (fun _ s'=>∃ σ' H',Inv X pins σ' H' s'/\Q σ' H') X.xe s
section
variable {X:Cx}{pos:Pos}
noncomputable def Uu (i:Nat):TG:=fun v σ H Q=>Q (σ.set i (some v)) H
theorem Ajb {i:Nat}{x:Str} (hN:X.N.Nodup) (hi:X.N[i]?=some x) (hx:Loc X.env.scope x) (hf:X.fn x=true\/X.env.scope.names.lookup x=some .local:=by first|exact .inl rfl|exact .inr rfl|assumption):PG X (.Name x pos) (Uu i):=by
 intro pins s σ H v u Q I r h
 exact wpAny_assign_Name (Nf I hN hi hx r (fun s' I'=>⟨_,H,I',h⟩) hf)
noncomputable def Atc:TGs:=fun vs σ H Q=>vs=[]/\Q σ H
noncomputable def Aqv (t:TG) (u:TGs):TGs:=fun vs σ H Q=>∃ v r,vs=v::r/\t v σ H fun σ' H'=>u r σ' H' Q
theorem Ajd:PGs X [] Atc:=by
 intro pins s σ H vs us Q I r h
 obtain⟨e,h⟩:=h
 subst e
 cases r
 exact assignInOrder_nil ⟨σ,H,I,h⟩
theorem Adc {e:Expr}{es:List Expr}{t:TG}{u:TGs} (h1:PG X e t) (h2:PGs X es u)
  (hs:(assignEach (e::es) X.env).map (·.2)=assign e X.env::(assignEach es X.env).map (·.2):=by rfl):PGs X (e::es) (Aqv t u):=by
 intro pins s σ H vs us Q I r h
 obtain⟨v,vr,e1,h⟩:=h
 subst e1
 cases r with
 |cons r rr =>
  rw[hs]
  refine assignInOrder_cons (thn (h1 pins s σ H _ _ _ I r h) fun _ s1 ⟨σ1,H1,I1,q1⟩=>?_)
  exact h2 pins s1 σ1 H1 _ _ Q I1 rr q1
noncomputable def Atd (K:W.Frag) (n:Nat) (t:TGs):TG:=fun v σ H Q=>∃ a xs,v=.ref a/\SqT K H a xs/\xs.length=n/\t xs σ H Q
theorem Ans {es:List Expr}{k:Nat}{t:TGs}{n:Nat} (hc:X.calm=true) (h:PGs X es t)
  (hn:(assignEach es X.env).length=n:=by rfl) (hst:(assignEach es X.env).findIdx? (·.1)=none:=by rfl):PG X (.Tuple es k pos) (Atd X.K n t):=by
 intro pins s σ H v u Q I r hw
 obtain⟨a,xs,e1,hq,hl,hw⟩:=hw
 subst e1
 cases r
 obtain⟨its,rv,ht,hz⟩:=I.tuple hq
 refine assign_Tuple_tuple (I.ok.hd hc) ht (by simp[hn,<- hl,rv.length]) hst fun h' hx=>?_
 have I1:Inv X pins σ H { s with heap:=h' }:=I.kept (t':=s.toks) fun b o e=>hx b o (Aub (At1 e)) e
 exact h pins _ σ H xs _ Q I1 (by simpa using rv) hw
noncomputable def Ak0 (te:TE) (g:TG):TS:=fun D σ H=>te σ H fun x H1=>g x σ H1 D.nx
theorem Anu {tg e:Expr}{te:TE}{g:TG} (he:PE X e te) (hg:PG X tg g) (hs:swapsWithSole [tg] e pos.line X.env=pure false:=by rfl) (hw:swappedStores [tg] e X.env=pure none:=by rfl)
  (h1:(assignEach [tg] X.env).map (·.2)=[assign tg X.env]:=by rfl):PS X (.Assign [tg] e pos) (Ak0 te g):=by
 intro pins s σ H D I h
 refine wpAny_Assign_stores (thn (he pins s σ H _ I h) fun v s1 ⟨x,H1,I1,r1,q1⟩=>?_) hs hw
 rw[h1]
 exact thn (hg pins s1 σ H1 x v _ I1 r1 q1) fun _ s2 q=>q
theorem Aam {i:Nat}{x:Str}{e:Expr}{te:TE}{pos':Pos} (hN:X.N.Nodup) (hi:X.N[i]?=some x) (hx:Loc X.env.scope x) (he:PE X e te) (hs:swapsWith e (some (.Name x pos')) pos.line X.env=pure false:=by rfl) (hf:X.fn x=true\/X.env.scope.names.lookup x=some .local:=by first|exact .inl rfl|exact .inr rfl|assumption) :
  PS X (.Assign [.Name x pos'] e pos) (Ak0 te (Uu i)):=by
 intro pins s σ H D I h
 refine wpAny_Assign_Name (thn (he pins s σ H _ I h) fun v s1 ⟨y,H1,I1,r1,q1⟩=>?_) hs
 exact Nf I1 hN hi hx r1 (fun s2 I2=>⟨_,H1,I2,q1⟩) hf
end
section
variable {X:Cx}{pos:Pos}
noncomputable def Aoz (c:TT) (tb:TS):TS:=fun D σ H=>∃ W:Nat->St->Hp->Prop,(∃ m,W m σ H)/\∀ m σ H,W m σ H ->
 c σ H fun b H1=>if b=true then ∃ N:St->Hp->Prop,(∀ σ' H',N σ' H'->∃ m',m' < m/\W m' σ' H')/\tb { D with nx:=N,ct:=N,bk:=D.nx } σ H1 else D.nx σ H1
theorem Adi {c:Expr}{body:List Stmt}{tc:TT}{tb:TS} (hp:PassesOwn (model X.prog X.w) X.A X.env X.xe) (hc:PT X c tc) (hb:PSs X body tb):PS X (.While c body [] pos) (Aoz tc tb):=by
 intro pins s σ H D I h
 obtain⟨W,⟨m0,w0⟩,turn⟩:=h
 refine wpAny_While (codeAny_whileLoop (fun n s'=>∃ σ' H',Inv X pins σ' H' s'/\W n σ' H') ?_ m0 ⟨σ,H,I,w0⟩)
 rintro n s1 ⟨σ1,H1,I1,w1⟩
 refine Avu hp (thn (hc pins s1 σ1 H1 _ I1 (turn n σ1 H1 w1)) fun b s2 ⟨H2,I2,q2⟩=>?_)
 cases b with
 |true =>
  obtain⟨N,hN,q2⟩:=q2
  rw[At4 rfl]
  refine Avu hp (thn (hb pins s2 σ1 H2 _ I2 q2) fun f s3 q3=>?_)
  cases f with
  |next =>
   obtain⟨σ3,H3,I3,n3⟩:=q3
   obtain⟨m',hm,w3⟩:=hN σ3 H3 n3
   exact⟨m',hm,σ3,H3,I3,w3⟩
  |cont =>
   obtain⟨σ3,H3,I3,n3⟩:=q3
   obtain⟨m',hm,w3⟩:=hN σ3 H3 n3
   exact⟨m',hm,σ3,H3,I3,w3⟩
  |brk=>exact q3
  |ret v=>exact q3
 |false =>
  rw[At8 Auo]
  exact wpAny_execs_nil ⟨σ1,H2,I2,q2⟩
end
structure It where
 go:Nat->Hp->Prop
 yld:Nat->Hp->V->Hp->Prop
 stop:Nat->Hp->Prop
def Aei (X:Cx) (pins:List (Addr×Obj)) (H:Hp) (b:Addr):Prop :=
 H b=none/\b≠X.env.locals/\b∉X.fs/\(b∈X.ex\/X.s₀.heap.objs.size<=b)/\(∀ x c,X.env.cells.lookup x=some c->c≠b)/\∀ p∈X.pn++pins,p.1≠b
theorem Inv.fpOk {X:Cx}{pins:List (Addr×Obj)}{σ:St}{H H':Hp}{s:Shared}{b:Addr} (I:Inv X pins σ H s) (hb:s.heap.objs.size<=b) (hn:H' b=none):Aei X pins H' b:=by
 refine⟨hn,Avp (At6 I.lt hb),I.nofs hb,.inr (Aug I.sz hb),fun x c e z=>?_,fun p hp z=>?_⟩
 ·obtain⟨v,q⟩:=I.cell x c e
  exact absurd (At6 q.lt (by rw[z];exact hb)) (Aut _)
 ·exact absurd (At6 (At1 (I.pin p hp).1) (by rw[z];exact hb)) (Aut _)
structure Turn (P:Program) (w:World) (K:W.Frag) (tg:Expr) (J:It) (fp:List Addr) (it:Addr) (tn:Nat->Heap->Prop):Prop where
 mem:it∈fp
 obj:∀ i h,tn i h->∀ b∈fp,∃ o,h.get? b=some o/\∀ v,o.data≠.cell v
 keep:∀ i h h',tn i h->(∀ b∈fp,∀ o,h.get? b=some o->h'.get? b=some o)->tn i h'
 item:∀ (X:Cx),X.prog=P->X.w=w->X.K=K->X.calm=true->∀ (i:Nat) (pins:List (Addr×Obj)) (s:Shared) (σ:St) (H:Hp) (E:Value->Shared->Prop),Inv X pins σ H s->(∀ b∈fp,Aei X pins H b)->tn i s.heap->J.go i H ->
  wpAny (model P w) X.A (pyNext (.ref it)) (fun r s1=>∃ u,r=some u /\
   wpAny (model P w) X.A (letOwnedTupleGo tg (.ref it) u) (fun _ s2=>∃ x H',Inv X pins σ H' s2/\RelV x u/\J.yld i H x H'/\tn (i+1) s2.heap/\∀ b∈fp,H' b=none) E s1) E s
 done:∀ (X:Cx),X.prog=P->X.w=w->X.K=K->X.calm=true->∀ (i:Nat) (pins:List (Addr×Obj)) (s:Shared) (σ:St) (H:Hp) (E:Value->Shared->Prop),Inv X pins σ H s->(∀ b∈fp,Aei X pins H b)->tn i s.heap->J.stop i H ->
  wpAny (model P w) X.A (pyNext (.ref it)) (fun r s1=>r=none/\Inv X pins σ H s1) E s
 self:∀ (A:Around) (i:Nat) (s:Shared) (Q:Value->Shared->Prop) (E:Value->Shared->Prop),tn i s.heap->Q (.ref it) s->wpAny (model P w) A (pyIter (.ref it)) Q E s
abbrev TI:=St->Hp->(It->Hp->Prop)->Prop
def PIE (X:Cx) (pins:List (Addr×Obj)) (σ:St) (tg:Expr) (R:It->Hp->Prop) (itv:Value) (s2:Shared):Prop :=
 ∃ (it:Addr) (fp:List Addr) (tn:Nat->Heap->Prop) (J:It) (H':Hp),itv=.ref it/\Inv X pins σ H' s2/\Turn X.prog X.w X.K tg J fp it tn/\tn 0 s2.heap/\(∀ b∈fp,Aei X pins H' b)/\R J H'
def PI (X:Cx) (tg iter:Expr) (wi:TI):Prop :=
 ∀ (pins:List (Addr×Obj)) (s:Shared) (σ:St) (H:Hp) (R:It->Hp->Prop),Inv X pins σ H s->wi σ H R ->
  wpAny (model X.prog X.w) X.A (eval iter X.env) (fun v s1=>wpAny (model X.prog X.w) X.A (pyIter v) (PIE X pins σ tg R) X.xe s1) X.xe s
theorem Acj {M:Model}{A:Around}{E:Value->Shared->Prop}{s:Shared}{tg:Expr}{it:Addr}{u:Value}{o:Obj}{n:String}{vs:Array Value}{Q:Unit->Shared->Prop} (ho:s.heap.get? it=some o) (hc:o.cls=.type n) (hd:o.data=.fields vs)
  (hn:["enumerate","zip","dict_itemiterator","dict_reverseitemiterator","odict_iterator","itertools.zip_longest","itertools.pairwise"].contains n=false) (hQ:Q () s):wpAny M A (letOwnedTupleGo tg (.ref it) u) Q E s:=by
 unfold letOwnedTupleGo
 cases tg<;>first
  |exact Atv hQ
  |(cases u<;>first
    |exact Atv hQ
    |(refine Atu (wpAny_load ho ?_)
      rw[hc,hd]
      show wpAny M A (if (["enumerate","zip","dict_itemiterator","dict_reverseitemiterator","odict_iterator","itertools.zip_longest","itertools.pairwise"].contains n&&vs[0]? == some (rawInt _))=true then _ else _) Q E s
      rw[At8 (by intro h;rw[hn,Bool.false_and] at h;cases h)]
      exact Atv hQ))
noncomputable def Itl (K:W.Frag) (a:Addr):It :=
 ⟨fun i H=>∃ xs x,SqL K H a xs/\xs[i]?=some x,fun i H x H'=>H'=H/\∀ xs,SqL K H a xs->xs[i]?=some x,fun i H=>∃ xs,SqL K H a xs/\xs.length<=i⟩
noncomputable def Itt (K:W.Frag) (a:Addr):It :=
 ⟨fun i H=>∃ xs x,SqT K H a xs/\xs[i]?=some x,fun i H x H'=>H'=H/\∀ xs,SqT K H a xs->xs[i]?=some x,fun i H=>∃ xs,SqT K H a xs/\xs.length<=i⟩
noncomputable def Itr (lo:Int) (n:Nat):It:=⟨fun i _=>i < n,fun i H x H'=>H'=H/\x=.int (lo+i),fun i _=>n<=i⟩
theorem Abd {P:Program}{w:World}{K:W.Frag}{tg:Expr} (a it:Addr):Turn P w K tg (Itl K a) [it] it (fun i h=>h.IsListIter it a i) where
 mem:=by simp
 obj:=fun i h st b hb=>by
  have e:b=it:=by simpa using hb
  subst e
  obtain⟨o,e,c,d⟩:=st
  exact⟨o,e,fun v z=>by rw[d] at z;cases z⟩
 keep:=fun i h h' st k=>st.at fun o e=>k it (by simp) o e
 item:=by
  intro X hP hw hK hc i pins s σ H E I hf st hg
  subst hP hw hK
  obtain⟨xs,x,hq,hx⟩:=hg
  obtain⟨its,rv,p,hz⟩:=I.list hq
  obtain⟨u,hu,ru⟩:=rv.get hx
  obtain⟨f0,f1,f2,f3,f4,f5⟩:=hf it (by simp)
  refine wpAny_pyNext_list_item st p.isList (x:=u) (by simpa using hu) fun h' st' sb=>?_
  have I1:Inv X pins σ H { s with heap:=h' }:=I.turned (t':=s.toks) (fun b o hb e=>(sb.2 b hb).trans e) f0 f1 f3 f4 f5
  obtain⟨o,e,c,d⟩:=id st'
  exact⟨u,rfl,Acj (s:={ s with heap:=h' }) e c d (by decide) ⟨x,H,I1,ru,⟨rfl,fun ys hy=>by rw[I.list_inj hy hq];exact hx⟩,st',fun b hb=>(hf b hb).1⟩⟩
 done:=by
  intro X hP hw hK hc i pins s σ H E I hf st hg
  subst hP hw hK
  obtain⟨xs,hq,hx⟩:=hg
  obtain⟨its,rv,p,hz⟩:=I.list hq
  obtain⟨f0,f1,f2,f3,f4,f5⟩:=hf it (by simp)
  have hl:=rv.length
  exact wpAny_pyNext_list_end (I.ok.hd hc) st p.isList (by simp;lia) fun h' eb=>⟨rfl,I.turned (t':=s.toks) (fun b o hb e=>eb b o hb e) f0 f1 f3 f4 f5⟩
 self:=fun _ _ _ _ _ st h=>wpAny_pyIter_listiter st h
theorem Vs {P:Program}{w:World}{K:W.Frag}{tg:Expr} (a it:Addr):Turn P w K tg (Itt K a) [it] it (fun i h=>h.IsTupleIter it a i) where
 mem:=by simp
 obj:=fun i h st b hb=>by
  have e:b=it:=by simpa using hb
  subst e
  obtain⟨o,e,c,d⟩:=st
  exact⟨o,e,fun v z=>by rw[d] at z;cases z⟩
 keep:=fun i h h' st k=>st.at fun o e=>k it (by simp) o e
 item:=by
  intro X hP hw hK hc i pins s σ H E I hf st hg
  subst hP hw hK
  obtain⟨xs,x,hq,hx⟩:=hg
  obtain⟨its,rv,p,hz⟩:=I.tuple hq
  obtain⟨u,hu,ru⟩:=rv.get hx
  obtain⟨f0,f1,f2,f3,f4,f5⟩:=hf it (by simp)
  refine wpAny_pyNext_tuple_item st (show s.heap.IsTuple a its.toArray from p) (x:=u) (by simpa using hu) fun h' st' sb=>?_
  have I1:Inv X pins σ H { s with heap:=h' }:=I.turned (t':=s.toks) (fun b o hb e=>(sb.2 b hb).trans e) f0 f1 f3 f4 f5
  obtain⟨o,e,c,d⟩:=id st'
  exact⟨u,rfl,Acj (s:={ s with heap:=h' }) e c d (by decide) ⟨x,H,I1,ru,⟨rfl,fun ys hy=>by rw[I.tuple_inj hy hq];exact hx⟩,st',fun b hb=>(hf b hb).1⟩⟩
 done:=by
  intro X hP hw hK hc i pins s σ H E I hf st hg
  subst hP hw hK
  obtain⟨xs,hq,hx⟩:=hg
  obtain⟨its,rv,p,hz⟩:=I.tuple hq
  obtain⟨f0,f1,f2,f3,f4,f5⟩:=hf it (by simp)
  have hl:=rv.length
  exact wpAny_pyNext_tuple_end (I.ok.hd hc) st (show s.heap.IsTuple a its.toArray from p) (by simp;lia) fun h' eb=>⟨rfl,I.turned (t':=s.toks) (fun b o hb e=>eb b o hb e) f0 f1 f3 f4 f5⟩
 self:=fun _ _ _ _ _ st h=>wpAny_pyIter_tupleiter st h
theorem Vr {P:Program}{w:World}{K:W.Frag}{tg:Expr} (it:Addr) (lo:Int) (n:Nat):Turn P w K tg (Itr lo n) [it] it (fun i h=>IsRangeIter h it (lo+(i:Nat) * 1) ((n:Int) - (i:Nat)) 1) where
 mem:=by simp
 obj:=fun i h st b hb=>by
  have e:b=it:=by simpa using hb
  subst e
  exact⟨_,st,fun v z=>by
   have z':Data.fields _=Data.cell v:=z
   cases z'⟩
 keep:=fun i h h' st k=>k it (by simp) _ st
 item:=by
  intro X hP hw hK hc i pins s σ H E I hf st hg
  subst hP hw hK
  obtain⟨f0,f1,f2,f3,f4,f5⟩:=hf it (by simp)
  have W:=Walks.range (prog:=X.prog) (w:=X.w) (I.ok.hd hc) it lo 1 n
  refine W.item i s _ _ hg st fun v h' tk hv st' kk=>?_
  obtain⟨t,rfl⟩:=hv
  have I1:Inv X pins σ H { s with heap:=h',toks:=tk }:=I.turned (fun b o hb e=>kk b o (by simpa using hb) e) f0 f1 f3 f4 f5
  refine⟨_,rfl,Acj (s:={ s with heap:=h',toks:=tk }) (n:="range_iterator") st' rfl rfl (by decide) ⟨.int (lo+i),H,I1,⟨t,?_⟩,⟨rfl,rfl⟩,st',fun b hb=>(hf b hb).1⟩⟩
  rw[Int.mul_one]
 done:=by
  intro X hP hw hK hc i pins s σ H E I hf st hg
  subst hP hw hK
  obtain⟨f0,f1,f2,f3,f4,f5⟩:=hf it (by simp)
  exact wpAny_pyNext_range_end (I.ok.hd hc) st (by have:n<=i:=hg;lia) fun h' eb=>⟨rfl,I.turned (t':=s.toks) (fun b o hb e=>eb b o hb e) f0 f1 f3 f4 f5⟩
 self:=fun _ _ _ _ _ st h=>wpAny_pyIter_rangeiter st h
section
variable {X:Cx}{tg:Expr}
theorem Adx {pins:List (Addr×Obj)}{σ:St}{H:Hp}{s:Shared}{R:It->Hp->Prop}{E:Value->Shared->Prop}{lo hi:Int}{t u v:Tok}{tk:Nat} (I:Inv X pins σ H s) (h1:-(2 ^ 62)<=lo) (h2:lo < 2 ^ 62) (h3:-(2 ^ 62)<=hi) (h4:hi < 2 ^ 62)
  (q:R (Itr lo (hi - lo).toNat) H):wpAny (model X.prog X.w) X.A (pyIter (.ref s.heap.objs.size)) (PIE X pins σ tg R) E { s with heap:=s.heap.push { cls:=.type "range",data:=.fields #[.int lo t,.int hi u,.int 1 v] },toks:=tk }:=by
 refine wpAny_pyIter_range (IsRange.new ..) (small_one h1 h2 h3 h4) ?_
 have I1:Inv X pins σ H { s with heap:=s.heap.push { cls:=.type "range",data:=.fields #[.int lo t,.int hi u,.int 1 v] },toks:=tk }:=I.kept fun b o e=>Atw _ e
 refine⟨(s.heap.push { cls:=.type "range",data:=.fields #[.int lo t,.int hi u,.int 1 v] }).objs.size,[(s.heap.push { cls:=.type "range",data:=.fields #[.int lo t,.int hi u,.int 1 v] }).objs.size],_,_,H,rfl,
  I1.kept (t':=tk) fun b o e=>Atw _ e,Vr _ lo (hi - lo).toNat,?_,fun b hb=>?_,q⟩
 ·have e1:lo+((0:Nat):Int) * 1=lo:=by simp
  have e2:(((hi - lo).toNat:Nat):Int) - ((0:Nat):Int)=Builtin.Range.rangeSize lo hi 1:=by rw[rangeSize_one];split<;>lia
  show IsRangeIter _ _ (lo+((0:Nat):Int) * 1) ((((hi - lo).toNat:Nat):Int) - ((0:Nat):Int)) 1
  rw[e1,e2]
  exact At9 _ rfl
 ·have e:b=(s.heap.push { cls:=.type "range",data:=.fields #[.int lo t,.int hi u,.int 1 v] }).objs.size:=by simpa using hb
  subst e
  exact I1.fpOk (At3 _) (I1.hok.fresh (At3 _))
def Aq6 (ta:TA):TI:=fun σ H R=>ta σ H fun vs H1=>∃ j:Int,vs=[.int j]/\-(2 ^ 62)<=j/\j < 2 ^ 62/\R (Itr 0 j.toNat) H1
theorem Aaj {a:Expr}{ta:TA}{p pos:Pos} (hg:Gl X "range") (hm:X.mg "range"=none) (ha:PA X [a] ta) (hs:starEach [a] X.env=[(false,eval a X.env)]:=by rfl):PI X tg (.Call (.Name "range" p) [a] [] pos) (Aq6 ta):=by
 intro pins s σ H R I h
 refine Call_ (D2 I hg hm boot_range (PyProof.Rows.callWith_type1 (thn (ha pos pins s σ H _ I h) fun us s1 ⟨vs,H1,I1,r1,q1⟩=>?_) hs rfl))
 obtain⟨j,e,q1,q2,q⟩:=q1
 subst e
 cases r1 with
 |cons r rr =>
  cases rr
  obtain⟨t,rfl⟩:=r
  exact call_range_1 (Adx I1 (by lia) (by lia) q1 q2 (by simpa using q))
noncomputable def Atm (wi:TI) (g:TG) (tb:TS):TS:=fun D σ H=>wi σ H fun J H1=>∃ W:Nat->Nat->St->Hp->Prop,(∃ m,W 0 m σ H1)/\∀ i m σ H,W i m σ H ->
 (J.stop i H/\D.nx σ H)\/(J.go i H/\∃ N:St->Hp->Prop,(∀ σ' H',N σ' H'->∃ m',m' < m/\W (i+1) m' σ' H')/\∀ x H',J.yld i H x H'->g x σ H' fun σ2 H2=>tb { D with nx:=N,ct:=N,bk:=D.nx } σ2 H2)
noncomputable def On (fp:List Addr) (h:Heap):List (Addr×Obj):=fp.filterMap fun b=>(h.get? b).map fun o=>(b,o)
theorem Gu {fp:List Addr}{h:Heap}{b:Addr}{o:Obj} (hb:b∈fp) (e:h.get? b=some o):(b,o)∈On fp h:=List.mem_filterMap.mpr ⟨b,hb,by rw[e];rfl⟩
theorem Z1 {fp:List Addr}{h:Heap}{p:Addr×Obj} (hp:p∈On fp h):p.1∈fp/\h.get? p.1=some p.2:=by
 obtain⟨b,hb,e⟩:=List.mem_filterMap.mp hp
 cases q:h.get? b with
 |none=>rw[q] at e;cases e
 |some o =>
  rw[q] at e
  have e':(b,o)=p:=Au2 e
  subst e'
  exact⟨hb,q⟩
theorem Inv.pinned {pins:List (Addr×Obj)}{σ:St}{H:Hp}{s:Shared}{fp:List Addr} (I:Inv X pins σ H s) (hf:∀ b∈fp,Aei X pins H b) (ho:∀ b∈fp,∃ o,s.heap.get? b=some o/\∀ v,o.data≠.cell v):Inv X (pins++On fp s.heap) σ H s :=
 I.pins_of fun p hp=>(List.mem_append.mp hp).elim (fun z=>I.pin p (Aty _ z)) fun z=>by
  obtain⟨hb,e⟩:=Z1 z
  obtain⟨f0,f1,f2,_⟩:=hf p.1 hb
  obtain⟨o,e',d⟩:=ho p.1 hb
  rw[e] at e';cases e'
  exact⟨e,f0,f1,f2,d⟩
theorem Inv.unpinned {pins pl:List (Addr×Obj)}{σ:St}{H:Hp}{s:Shared} (I:Inv X (pins++pl) σ H s):Inv X pins σ H s:=I.pins_of fun p hp=>I.pin p (Aty _ (Auq _ hp))
theorem Anv {iter:Expr}{body:List Stmt}{wi:TI}{g:TG}{tb:TS}{pos:Pos} (hp:PassesOwn (model X.prog X.w) X.A X.env X.xe) (hc:X.calm=true) (hi:PI X tg iter wi) (hg:PG X tg g) (hb:PSs X body tb)
  (hs:∀ x,foldedSetIterable iter X.env x=pure x:=by intro _;rfl):PS X (.For tg iter body [] pos) (Atm wi g tb):=by
 intro pins s σ H D I h
 refine wpAny_For (thn (hi pins s σ H _ I h) fun v s1 h1=>thn h1 fun itv s2 h2=>?_) hs
 obtain⟨it,fp,tn,J,H2,e,I2,T,st2,f2,W,⟨m0,w0⟩,turn⟩:=h2
 subst e
 -- what stays true of the iterator's objects through the loop
 have stat:∀ {H':Hp},(∀ b∈fp,H' b=none)->∀ b∈fp,Aei X pins H' b:=fun hn b hb=>⟨hn b hb,(f2 b hb).2⟩
 refine codeAny_forLoop_any (fun n s'=>∃ i σ' H',Inv X pins σ' H' s'/\tn i s'.heap/\(∀ b∈fp,H' b=none)/\W i n σ' H') ?_ m0 ⟨0,σ,H2,I2,st2,fun b hb=>(f2 b hb).1,w0⟩
 rintro n s3 ⟨i,σ3,H3,I3,st3,fr3,w3⟩
 rcases turn i n σ3 H3 w3 with ⟨stop,qn⟩|⟨go,N,hN,step⟩
 ·refine Avu hp (thn (T.done X rfl rfl rfl hc i pins s3 σ3 H3 X.xe I3 (stat fr3) st3 stop) fun r s4 ⟨hr,I4⟩=>?_)
  subst hr
  exact wpAny_execs_nil ⟨σ3,H3,I4,qn⟩
 ·refine Avu hp (thn (T.item X rfl rfl rfl hc i pins s3 σ3 H3 X.xe I3 (stat fr3) st3 go) fun r s4 ⟨u,hr,h4⟩=>?_)
  subst hr
  refine Avu hp (thn h4 fun _ s5 ⟨x,H5,I5,r5,y5,st5,fr5⟩=>?_)
  have I5':=I5.pinned (stat fr5) (T.obj _ _ st5)
  refine Avu hp (thn (hg _ s5 σ3 H5 x u _ I5' r5 (step x H5 y5)) fun _ s6 ⟨σ6,H6,I6,q6⟩=>?_)
  refine Avu hp (thn (hb _ s6 σ6 H6 _ I6 q6) fun f s7 q7=>?_)
  have again:∀ {σ7:St}{H7:Hp},Inv X (pins++On fp s5.heap) σ7 H7 s7->N σ7 H7->∃ m,m < n/\∃ i σ' H',Inv X pins σ' H' s7/\tn i s7.heap/\(∀ b∈fp,H' b=none)/\W i m σ' H':=fun {σ7 H7} I7 n7=>by
   obtain⟨m',hm,w7⟩:=hN σ7 H7 n7
   refine⟨m',hm,i+1,σ7,H7,I7.unpinned,T.keep _ _ _ st5 fun b hb o e=>(I7.pin (b,o) (Aty _ (Aty _ (Gu hb e)))).1,fun b hb=>?_,w7⟩
   obtain⟨o,e,d⟩:=T.obj _ _ st5 b hb
   exact (I7.pin (b,o) (Aty _ (Aty _ (Gu hb e)))).2.1
  cases f with
  |next=>obtain⟨σ7,H7,I7,n7⟩:=q7;exact again I7 n7
  |cont=>obtain⟨σ7,H7,I7,n7⟩:=q7;exact again I7 n7
  |brk=>obtain⟨σ7,H7,I7,q7⟩:=q7;exact⟨σ7,H7,I7.unpinned,q7⟩
  |ret v=>obtain⟨x7,σ7,H7,I7,r7,q7⟩:=q7;exact⟨x7,σ7,H7,I7.unpinned,r7,q7⟩
end
abbrev R2:=V->V->Hp->VK->Prop
def OpR (X:Cx) (f:Value->Value->Sem Value) (r:R2):Prop :=
 ∀ (pins:List (Addr×Obj)) (s:Shared) (σ:St) (H:Hp) (x y:V) (v u:Value) (Q:VK),Inv X pins σ H s->RelV x v->RelV y u->r x y H Q ->
  wpAny (model X.prog X.w) X.A (f v u) (EP X pins σ Q) X.xe s
def Vx (X:Cx) (f:Value) (r:List V->Hp->VK->Prop):Prop :=
 ∀ (pins:List (Addr×Obj)) (s:Shared) (σ:St) (H:Hp) (xs:List V) (us:List Value) (Q:VK),Inv X pins σ H s->Vals xs us->r xs H Q ->
  wpAny (model X.prog X.w) X.A (call f us) (EP X pins σ Q) X.xe s
def As7 (X:Cx) (r:V->Hp->(Bool->Hp->Prop)->Prop):Prop :=
 ∀ (pins:List (Addr×Obj)) (s:Shared) (σ:St) (H:Hp) (x:V) (v:Value) (Q:Bool->Hp->Prop),Inv X pins σ H s->RelV x v->r x H Q ->
  wpAny (model X.prog X.w) X.A (truthy v) (TP X pins σ Q) X.xe s
noncomputable def tOp (r:R2) (ta tb:TE):TE:=fun σ H Q=>ta σ H fun x H1=>tb σ H1 fun y H2=>r x y H2 Q
noncomputable def rI (C:Int->Int->Prop) (g:Int->Int->V):R2:=fun x y H Q=>∃ i j,x=.int i/\y=.int j/\C i j/\Q (g i j) H
noncomputable def rI0 (g:Int->Int->V):R2:=fun x y H Q=>∃ i j,x=.int i/\y=.int j/\Q (g i j) H
section
variable {X:Cx}{a b c:Expr}{ta tb tc:TE}{pos:Pos}
theorem Ao5 (ha:PE X a ta) (hb:PE X b tb) {pins:List (Addr×Obj)}{s:Shared}{σ:St}{H:Hp}{R:V->V->Hp->Prop} (I:Inv X pins σ H s)
  (h:ta σ H fun x H1=>tb σ H1 fun y H2=>R x y H2) {Q:Value->Shared->Prop}{f:Value->Value->Sem Value}
  (hf:∀ v u s2 x y H2,Inv X pins σ H2 s2->RelV x v->RelV y u->R x y H2->wpAny (model X.prog X.w) X.A (f v u) Q X.xe s2) :
  wpAny (model X.prog X.w) X.A (eval a X.env) (fun v s₁=>wpAny (model X.prog X.w) X.A (eval b X.env) (fun u s₂=>wpAny (model X.prog X.w) X.A (f v u) Q X.xe s₂) X.xe s₁) X.xe s:=by
 refine thn (ha pins s σ H _ I h) fun v s1 ⟨x,H1,I1,r1,q1⟩=>?_
 refine thn (hb pins s1 σ H1 _ I1 q1) fun u s2 ⟨y,H2,I2,r2,q2⟩=>?_
 exact hf v u s2 x y H2 I2 r1 r2 q2
theorem Anm {op:Operator}{r:R2} (ho:OpR X (binaryOp op) r) (ha:PE X a ta) (hb:PE X b tb):PE X (.BinOp a op b pos) (tOp r ta tb):=by
 intro pins s σ H Q I h
 exact wpAny_BinOp (Ao5 ha hb I h fun v u s2 x y H2 I2 rx ry q=>ho pins s2 σ H2 x y v u Q I2 rx ry q)
theorem opI {f:Value->Value->Sem Value}{C:Int->Int->Prop}{g:Int->Int->Int}
  (rule:∀ (i j:Int) (t u:Tok) (s:Shared) (Q:Value->Shared->Prop) (E:Value->Shared->Prop),C i j->Q (.int (g i j) s.toks) { s with toks:=s.toks+1 }->wpAny (model X.prog X.w) X.A (f (.int i t) (.int j u)) Q E s) :
  OpR X f (rI C fun i j=>.int (g i j)):=by
 intro pins s σ H x y v u Q I rx ry h
 obtain⟨i,j,rfl,rfl,hc,q⟩:=h
 obtain⟨t,rfl⟩:=rx
 obtain⟨t',rfl⟩:=ry
 exact rule i j t t' s _ _ hc ⟨.int (g i j),H,I.tok _,⟨_,rfl⟩,q⟩
theorem Asu {f:Value->Value->Sem Value}{g:Int->Int->Int}
  (rule:∀ (i j:Int) (t u:Tok) (s:Shared) (Q:Value->Shared->Prop) (E:Value->Shared->Prop),Q (.int (g i j) s.toks) { s with toks:=s.toks+1 }->wpAny (model X.prog X.w) X.A (f (.int i t) (.int j u)) Q E s) :
  OpR X f (rI0 fun i j=>.int (g i j)):=by
 intro pins s σ H x y v u Q I rx ry h
 obtain⟨i,j,rfl,rfl,q⟩:=h
 obtain⟨t,rfl⟩:=rx
 obtain⟨t',rfl⟩:=ry
 exact rule i j t t' s _ _ ⟨.int (g i j),H,I.tok _,⟨_,rfl⟩,q⟩
theorem Ast {f:Value->Value->Sem Value}{g:Int->Int->Bool}
  (rule:∀ (i j:Int) (t u:Tok) (s:Shared) (Q:Value->Shared->Prop) (E:Value->Shared->Prop),Q (.bool (g i j)) s->wpAny (model X.prog X.w) X.A (f (.int i t) (.int j u)) Q E s) :
  OpR X f (rI0 fun i j=>.bl (g i j)):=by
 intro pins s σ H x y v u Q I rx ry h
 obtain⟨i,j,rfl,rfl,q⟩:=h
 obtain⟨t,rfl⟩:=rx
 obtain⟨t',rfl⟩:=ry
 exact rule i j t t' s _ _ ⟨.bl (g i j),H,I,rfl,q⟩
def Asp (i j:Int):Prop:=0 < j/\j < 1073741824
def CMul (i j:Int):Prop:=(-(2 ^ 64) < i/\i < 2 ^ 64)\/(-(2 ^ 64) < j/\j < 2 ^ 64)
theorem CMul.ok {i j:Int} (h:CMul i j):IntMulOk i j:=by
 rcases h with ⟨h1,h2⟩|⟨h1,h2⟩
 ·exact .of_left (intBits_le_64 h1 h2)
 ·exact .of_right (intBits_le_64 h1 h2)
theorem op_add:OpR X (binaryOp .Add) (rI0 fun i j=>.int (i+j)):=Asu fun _ _ _ _ _ _ _ q=>add_int q
theorem Amz:OpR X (binaryOp .Sub) (rI0 fun i j=>.int (i - j)):=Asu fun _ _ _ _ _ _ _ q=>sub_int q
theorem Amx:OpR X (binaryOp .Mult) (rI CMul fun i j=>.int (i * j)):=opI fun _ _ _ _ _ _ _ hc q=>mul_int q hc.ok
theorem Aiz:OpR X (binaryOp .FloorDiv) (rI Asp fun i j=>.int (i / j)):=opI fun i j _ _ _ _ _ hc q=>by
 have h1:(0:Int) < j:=hc.1
 have h2:j < 1073741824:=hc.2
 exact floordiv_int (by lia) (by rw[Int.fdiv_eq_ediv_of_nonneg i (by lia)];exact q) (.inl (PyProof.noPylong_small (by lia)))
theorem Amw:OpR X (binaryOp .Mod) (rI (fun _ j=>0 < j) fun i j=>.int (i % j)):=opI fun i j _ _ _ _ _ hc q=>by
 have h1:(0:Int) < j:=hc
 exact mod_int' (by lia) (by rw[Int.fmod_eq_emod_of_nonneg i (by lia)];exact q)
end
section
variable {X:Cx}{a b c:Expr}{ta tb tc:TE}{pos:Pos}
theorem Ae2 {pins:List (Addr×Obj)}{σ:St}{H:Hp}{s:Shared}{Q:VK}{k k':Bool} (I:Inv X pins σ H s) (q:Q (.bl k) H) (e:k=k'):EP X pins σ Q (.bool k') s:=by
 subst e
 exact⟨.bl k,H,I,rfl,q⟩
theorem op_lt:OpR X (compareOp .Lt) (rI0 fun i j=>.bl (decide (i < j))):=Ast fun _ _ _ _ _ _ _ q=>lt_int q
theorem Aro:OpR X (compareOp .Gt) (rI0 fun i j=>.bl (decide (j < i))):=Ast fun _ _ _ _ _ _ _ q=>gt_int q
theorem Z9:OpR X (compareOp .Lt) (fun x y H Q=>∃ i j,x=.str i/\y=.str j/\Q (.bl (decide (i.cps.toList < j.cps.toList))) H):=by
 intro pins s σ H x y v u Q I rx ry h
 obtain⟨i,j,rfl,rfl,q⟩:=h
 obtain⟨t,rfl⟩:=rx
 obtain⟨t',rfl⟩:=ry
 exact lt_str (Ae2 I q rfl)
theorem Afj:OpR X (compareOp .Is) (fun x y H Q=>y=.non/\Q (.bl (decide (x=.non))) H):=by
 intro pins s σ H x y v u Q I rx ry h
 obtain⟨rfl,q⟩:=h
 cases ry
 refine is_none_gen (Ae2 I q ?_)
 cases x<;>first
  |(cases rx;rfl)
  |(obtain⟨t,rfl⟩:=rx;rfl)
theorem OpR.or {f:Value->Value->Sem Value}{r r':R2} (h:OpR X f r) (h':OpR X f r'):OpR X f (fun x y H Q=>r x y H Q\/r' x y H Q):=by
 intro pins s σ H x y v u Q I rx ry q
 rcases q with q|q
 ·exact h pins s σ H x y v u Q I rx ry q
 ·exact h' pins s σ H x y v u Q I rx ry q
theorem Afc (b:Expr) {op:CmpOp} (h:op≠.In:=by decide) (h2:op≠.NotIn:=by decide):behindInMarks op b=false:=by
 have e1:(op == CmpOp.In)=false:=by cases op<;>first|rfl|exact absurd rfl h
 have e2:(op == CmpOp.NotIn)=false:=by cases op<;>first|rfl|exact absurd rfl h2
 cases b<;>simp[behindInMarks,e1,e2]
theorem Ai8 {op:CmpOp}{r:R2} (ho:OpR X (compareOp op) r) (ha:PE X a ta) (hb:PE X b tb) (hm:behindInMarks op b=false):PE X (.Compare a [op] [b] pos) (tOp r ta tb):=by
 intro pins s σ H Q I h
 exact wpAny_Compare1 (Ao5 ha hb I h fun v u s2 x y H2 I2 rx ry q=>ho pins s2 σ H2 x y v u Q I2 rx ry q) hm
noncomputable def Asj (t:TE):TT:=fun σ H Q=>t σ H fun x H'=>∃ k,x=.bl k/\Q k H'
theorem Ajr {op:CmpOp}{r:R2} (ho:OpR X (compareOp op) r) (ha:PE X a ta) (hb:PE X b tb) (hm:behindInMarks op b=false):PT X (.Compare a [op] [b] pos) (Asj (tOp r ta tb)):=by
 intro pins s σ H Q I h
 refine wpAny_isTrue_Compare1 (thn (ha pins s σ H _ I h) fun v s1 ⟨x,H1,I1,r1,q1⟩=>thn (hb pins s1 σ H1 _ I1 q1) fun u s2 ⟨y,H2,I2,r2,q2⟩ =>
  thn (ho pins s2 σ H2 x y v u _ I2 r1 r2 q2) fun c s3 ⟨z,H3,I3,r3,k,e,q3⟩=>?_) hm
 subst e
 cases r3
 exact Awd ⟨H3,I3,q3⟩
def Ao4 (K:W.Frag) (x:V) (H:Hp) (k:Bool):Prop :=
 match x with
 |.non=>k=false
 |.bl b=>k=b
 |.int i=>k=(i != 0)
 |.str y=>y.length<=sizeLine/\k=((y.length:Int) != 0)
 |.byt y=>y.size<=sizeLine/\k=((y.size:Int) != 0)
 |.ref p=>(∃ xs,SqL K H p xs/\k=!xs.isEmpty)\/(∃ xs,SqT K H p xs/\k=!xs.isEmpty)\/∃ kvs,H p=some (.dK kvs)/\k=!kvs.isEmpty
 |_=>False
theorem Uw {κ:Type}{kvs:List (κ×V)}{vs:List (κ×Value)} (r:KV kvs vs):(!vs.isEmpty)=!kvs.isEmpty:=by
 cases r<;>rfl
theorem J1 {xs:List V}{its:List Value} (r:Vals xs its):(!its.toArray.isEmpty)=!xs.isEmpty:=by
 cases r<;>simp
theorem Of:(sizeLine:Nat) < 2 ^ 63:=by rw[Au9];decide
theorem Agg:As7 X (fun x H Q=>∃ k,Ao4 X.K x H k/\Q k H):=by
 intro pins s σ H x v Q I rx h
 obtain⟨k,e,q⟩:=h
 have hl:=Of
 have hs:sizeLine=16777216:=Au9
 cases x with
 |non =>
  cases rx
  have e':k=false:=e
  subst e'
  exact truthy_none ⟨H,I,q⟩
 |bl b =>
  cases rx
  have e':k=b:=e
  subst e'
  exact Awd ⟨H,I,q⟩
 |int i =>
  obtain⟨t,rfl⟩:=rx
  have e':k=(i != 0):=e
  subst e'
  exact PySem.P.truthy_int ⟨H,I,q⟩
 |str y =>
  obtain⟨t,rfl⟩:=rx
  obtain⟨hy,e'⟩:y.length<=sizeLine/\k=((y.length:Int) != 0):=e
  subst e'
  exact PySem.P.truthy_str (by lia) ⟨H,I.tok _,q⟩
 |byt y =>
  obtain⟨t,rfl⟩:=rx
  obtain⟨hy,e'⟩:y.size<=sizeLine/\k=((y.size:Int) != 0):=e
  subst e'
  exact W.truthy_bytes (by lia) ⟨H,I.tok _,q⟩
 |ref p =>
  cases rx
  have e':(∃ xs,SqL X.K H p xs/\k=!xs.isEmpty)\/(∃ xs,SqT X.K H p xs/\k=!xs.isEmpty)\/∃ kvs,H p=some (.dK kvs)/\k=!kvs.isEmpty:=e
  rcases e' with ⟨xs,hx,e'⟩|⟨xs,hx,e'⟩|⟨kvs,hx,e'⟩
  ·subst e'
   obtain⟨its,r,pl,hz⟩:=I.list hx
   have hlen:=r.length
   exact wpAny_truthy_list pl.isList (by simp only[At2];lia) ⟨H,I.tok _,by rw[J1 r];exact q⟩
  ·subst e'
   obtain⟨its,r,pl,hz⟩:=I.tuple hx
   have hlen:=r.length
   exact truthy_tuple pl (by simp only[At2];lia) ⟨H,I.tok _,by rw[J1 r];exact q⟩
  ·subst e'
   obtain⟨hz,hS,vs,r,m⟩:kvs.length<=sizeLine/\(p == sysModules)=false/\∃ vs,KV kvs vs/\s.heap.DictOf (Er X.prog X.w) p vs:=I.hok p _ hx
   have hlen:kvs.length=vs.length:=Paired.length r
   exact wpAny_truthy_dict hS m (by lia) ⟨H,I.tok _,by rw[Uw r];exact q⟩
 |_=>exact (show False from e).elim
theorem Adq (ha:PE X a ta) (he:∀ whole,isTrue a X.env whole=(do let v <- whole;standAt a.pos;holding [v] (truthy v))) :
  PT X a (fun σ H Q=>ta σ H fun x H'=>∃ k,Ao4 X.K x H' k/\Q k H'):=by
 intro pins s σ H Q I h
 exact isTrue_plain (thn (ha pins s σ H _ I h) fun v s1 ⟨x,H1,I1,r1,q1⟩=>Agg pins s1 σ H1 x v Q I1 r1 q1) (he _)
theorem op_add_str:OpR X (binaryOp .Add) (fun x y H Q=>∃ i j,x=.str i/\y=.str j/\i.length+j.length<=sizeLine/\Q (.str (i++j)) H):=by
 intro pins s σ H x y v u Q I rx ry h
 obtain⟨i,j,rfl,rfl,hz,q⟩:=h
 obtain⟨t,rfl⟩:=rx
 obtain⟨t',rfl⟩:=ry
 exact add_str (fun t' tk=>⟨.str (i++j),H,I.tok _,⟨_,rfl⟩,q⟩) hz
inductive V1 (x:V) (us:List Value):Prop where
 |mk (u:Value) (e:us=[u]) (r:RelV x u)
theorem Jh {x:V}{us:List Value} (r:Vals [x] us):V1 x us:=by
 cases r with
 |cons r1 r2=>cases r2;exact⟨_,rfl,r1⟩
theorem Abf {x y:V}{us:List Value} (r:Vals [x,y] us):∃ u w',us=[u,w']/\RelV x u/\RelV y w':=by
 cases r with
 |cons r1 r2 =>
  cases r2 with
  |cons r3 r4=>cases r4;exact⟨_,_,rfl,r1,r3⟩
theorem Yb (hc:X.calm=true):Vx X (.builtin "max") (fun xs H Q=>∃ i j,xs=[.int i,.int j]/\Q (.int (if j > i then j else i)) H):=by
 intro pins s σ H xs us Q I r h
 obtain⟨i,j,rfl,q⟩:=h
 obtain⟨u,w',rfl,⟨t,rfl⟩,⟨t',rfl⟩⟩:=Abf r
 refine max_two_ints (I.ok.hd hc) fun h' tk k=>⟨_,H,I.kept k,?_,q⟩
 by_cases hj:j > i
 ·rw[At4 hj,At4 hj];exact⟨_,rfl⟩
 ·rw[At8 hj,At8 hj];exact⟨_,rfl⟩
theorem Yc (hc:X.calm=true):Vx X (.builtin "min") (fun xs H Q=>∃ i j,xs=[.int i,.int j]/\Q (.int (if j < i then j else i)) H):=by
 intro pins s σ H xs us Q I r h
 obtain⟨i,j,rfl,q⟩:=h
 obtain⟨u,w',rfl,⟨t,rfl⟩,⟨t',rfl⟩⟩:=Abf r
 refine min_two_ints (I.ok.hd hc) fun h' tk k=>⟨_,H,I.kept k,?_,q⟩
 by_cases hj:j < i
 ·rw[At4 hj,At4 hj];exact⟨_,rfl⟩
 ·rw[At8 hj,At8 hj];exact⟨_,rfl⟩
theorem Nr:Vx X (.type "int") (fun xs H Q=>(∃ i,xs=[.int i]/\Q (.int i) H)\/∃ k,xs=[.bl k]/\Q (.int (if k then 1 else 0)) H):=by
 intro pins s σ H xs us Q I r h
 rcases h with ⟨i,rfl,q⟩|⟨k,rfl,q⟩
 ·obtain⟨u,rfl,t,rfl⟩:=Jh r
  exact call_int_int ⟨.int i,H,I,⟨_,rfl⟩,q⟩
 ·obtain⟨u,rfl,r1⟩:=Jh r
  cases r1
  exact call_int_bool ⟨.int (if k then 1 else 0),H,I.tok _,⟨_,rfl⟩,q⟩
def Ape (K:W.Frag) (x:V) (H:Hp) (n:Nat):Prop :=
 match x with
 |.str y=>y.length<=sizeLine/\n=y.length
 |.byt y=>y.size<=sizeLine/\n=y.size
 |.ref p=>(∃ xs,SqL K H p xs/\n=xs.length)\/∃ xs,SqT K H p xs/\n=xs.length
 |_=>False
theorem Ab1:Vx X (.builtin "len") (fun xs H Q=>∃ x n,xs=[x]/\Ape X.K x H n/\Q (.int n) H):=by
 intro pins s σ H xs us Q I r h
 obtain⟨x,n,rfl,e,q⟩:=h
 obtain⟨u,rfl,rx⟩:=Jh r
 have hl:=Of
 have hs:sizeLine=16777216:=Au9
 cases x with
 |str y =>
  obtain⟨t,rfl⟩:=rx
  obtain⟨hy,e'⟩:y.length<=sizeLine/\n=y.length:=e
  subst e'
  exact len_str (by lia) ⟨.int _,H,I.tok _,⟨_,rfl⟩,q⟩
 |byt y =>
  obtain⟨t,rfl⟩:=rx
  obtain⟨hy,e'⟩:y.size<=sizeLine/\n=y.size:=e
  subst e'
  exact W.len_bytes (by lia) ⟨.int _,H,I.tok _,⟨_,rfl⟩,q⟩
 |ref p =>
  cases rx
  have e':(∃ xs,SqL X.K H p xs/\n=xs.length)\/∃ xs,SqT X.K H p xs/\n=xs.length:=e
  rcases e' with ⟨xs,hx,e'⟩|⟨xs,hx,e'⟩
  ·subst e'
   obtain⟨its,r',pl,hz⟩:=I.list hx
   have hlen:=r'.length
   exact Calls.call_len_list pl.isList (by simp only[At2];lia) ⟨.int xs.length,H,I.tok _,⟨_,by simp only[At2];rw[hlen]⟩,q⟩
  ·subst e'
   obtain⟨its,r',pl,hz⟩:=I.tuple hx
   have hlen:=r'.length
   exact len_tuple pl (by simp only[At2];lia) ⟨.int xs.length,H,I.tok _,⟨_,by simp only[At2];rw[hlen]⟩,q⟩
 |_=>exact (show False from e).elim
end
structure ObjM (h:Heap) (x dx C:Addr) (mA:Str->Option Value):Prop where
 obj:h.get? x=some (W.instObj C dx)
 ns:h.Ns1 dx mA
 ne:dx≠x
set_option tactic.hygienic true in
theorem Za {h:Heap}{dx:Addr}{mA:Str->Option Value} (n:h.Ns1 dx mA):∃ od,h.get? dx=some od/\∀ name,W.lookIn name od=some (mA name):=by
 obtain⟨o,es,ep,ho,hd,hk,_,hm⟩:=n
 refine⟨o,ho,fun name=>?_⟩
 have e:=hm name
 unfold nsFind findBy at e
 rw[<- Array.find?_toList] at e
 unfold W.lookIn
 rw[hd]
 dsimp only
 split
 ·rename_i y q
  rw[q] at e
  exact Avz some e
 ·rename_i q
  rw[q] at e
  have a:es.toList.any (·.refKey)=false:=by
   rw[List.any_eq_false]
   intro y hy
   obtain⟨z,t,hkey⟩:=hk y (Array.mem_toList_iff.mp hy)
   simp[DictEntry.refKey,hkey]
  have a':¬ es.toList.any (·.refKey)=true:=by rw[a];exact Auo
  rw[At8 a']
  exact Avz some e
theorem ObjM.look {h:Heap}{x dx C:Addr}{mA:Str->Option Value} (I:ObjM h x dx C mA):∃ od,W.InstAt h x (W.instObj C dx) C (some od)/\∀ name,W.lookIn name od=some (mA name) :=
 let ⟨od,ho,hl⟩:=Za I.ns
 ⟨od,⟨I.obj,rfl,rfl,ho⟩,hl⟩
section
variable {prog:Program}{w:World}{A:Around}{E:Value->Shared->Prop}{s:Shared}{K:W.Frag}{x dx C f:Addr}{mA:Str->Option Value}{name:Str}{v:Value}
end
section
variable {P:Program}{w:World}{K:W.Frag}{H H':Hp}{h h':Heap}{a C dx:Addr}{fs fs':List (Str×V)}
theorem Aih (hok:HOk P w K H h) (e:H a=some (.ins C dx fs)):∃ mA,ObjM h a dx C mA/\(∀ f,Ak6 (fs.lookup f) (mA f))/\PySem.Within mA (fs.map (·.1))/\fs.length<=1000/\H dx=some (.own a):=by
 obtain⟨d,z,ne,ob,mA,n,r,q⟩:=(show ObjOk P w K H h a (.ins C dx fs) from hok a _ e)
 exact⟨mA,⟨ob,n,ne⟩,r,q,z,d⟩
end
structure Cls (K:W.Frag) (C:Addr):Prop where
 pg:W.plainGet K C Str.empty=true
 hd:W.hasDictIn K C=true
 po:W.plainOver K C=true
 sa:W.findIn K (.ref C) "__setattr__"=some (some (.builtin "object.__setattr__"))
theorem Cls.get {K:W.Frag}{C:Addr} (c:Cls K C) (f:Str):W.plainGet K C f=true:=c.pg
section
variable {X:Cx}{pins:List (Addr×Obj)}{σ:St}{H:Hp}{s:Shared}{a C dx:Addr}{fs:List (Str×V)}{f:Str}{v:V}{A:Around}{E:Value->Shared->Prop}
end
section
variable {X:Cx}{o e value:Expr}{f:Str}{pos pos' tpos:Pos}{ta tv:TE}
end
section
variable {X:Cx}{pins:List (Addr×Obj)}{σ:St}{H:Hp}{s:Shared}{A:Around}{E:Value->Shared->Prop}{Q:Value->Shared->Prop}{c:Value}{b:Bool}
inductive TyOf (K:W.Frag) (H:Hp):V->Value->Prop where
 |non:TyOf K H .non (.type "NoneType")
 |bl (x:Bool):TyOf K H (.bl x) (.type "bool")
 |int (i:Int):TyOf K H (.int i) (.type "int")
 |str (x:Str):TyOf K H (.str x) (.type "str")
 |flt (x:UInt64):TyOf K H (.flt x) (.type "float")
 |lst {a:Addr}{xs:List V} (e:H a=some (.lst xs)):TyOf K H (.ref a) (.type "list")
 |frz {a:Addr}{o:Obj}{xs:List V} (e:H a=some (.frz o (.lst xs))):TyOf K H (.ref a) (.type "list")
 |tup {a:Addr}{xs:List V} (e:H a=some (.tup xs)):TyOf K H (.ref a) (.type "tuple")
 |dK {a:Addr}{kvs:List (Key×V)} (e:H a=some (.dK kvs)):TyOf K H (.ref a) (.type "dict")
 |dT {a:Addr}{kvs:List (PyData×V)} (e:H a=some (.dT kvs)):TyOf K H (.ref a) (.type "dict")
 |ins {a C dx:Addr}{fs:List (Str×V)} (e:H a=some (.ins C dx fs)) (cl:Cls K C) (ha:W.findIn K (.ref C) "__class__"=some (some (.builtin "object.__class__")))
   (hn:W.specialIn K (.builtin "object.__class__") "__get__"=some (some (.builtin "getset_descriptor.__get__"))) (htk:W.takesIn K (.builtin "object.__class__")=some true)
   (hm:W.mroIn K C (.type "object")=some true):TyOf K H (.ref a) (.ref C)
theorem Cs {x:V}{u t:Value} (I:Inv X pins σ H s) (rx:RelV x u) (ty:TyOf X.K H x t) (e:W.kitOne X.K t c=some b) (h:∀ tk,Q (.bool b) { s with toks:=tk }) :
  wpAny (model X.prog X.w) A (call (.builtin "isinstance") [u,c]) Q E s:=by
 cases ty with
 |non=>cases (show u=Value.none from rx);exact W.kia_one W.kitx_none I.kIn True.intro e (fun z=>nomatch z) h
 |bl y=>cases (show u=Value.bool y from rx);exact W.kia_one W.kitx_bool I.kIn True.intro e (fun z=>nomatch z) h
 |int i=>obtain⟨t,q⟩:=(show ∃ t,u=Value.int i t from rx);cases q;exact W.kia_one W.kitx_int I.kIn True.intro e (fun z=>nomatch z) h
 |str y=>obtain⟨t,q⟩:=(show ∃ t,u=Value.str y t from rx);cases q;exact W.kia_one W.kitx_str I.kIn True.intro e (fun z=>nomatch z) h
 |flt y=>obtain⟨t,q⟩:=(show ∃ t,u=Value.float y t from rx);cases q;exact W.kia_one W.kitx_float I.kIn True.intro e (fun z=>nomatch z) h
 |@lst a xs ea =>
  cases (show u=Value.ref a from rx)
  obtain⟨_,_,n,_,h1⟩:=(show ObjOk X.prog X.w X.K H s.heap a (.lst xs) from I.hok a _ ea)
  exact W.kia_one W.kitx_list I.kIn ⟨_,h1,rfl⟩ e (fun z=>nomatch z) h
 |@frz a ob xs ea =>
  cases (show u=Value.ref a from rx)
  obtain⟨_,_,_,n,_,h1⟩:=(show ObjOk X.prog X.w X.K H s.heap a (.frz ob (.lst xs)) from I.hok a _ ea)
  exact W.kia_one W.kitx_list I.kIn ⟨_,h1,rfl⟩ e (fun z=>nomatch z) h
 |@tup a xs ea =>
  cases (show u=Value.ref a from rx)
  obtain⟨_,_,_,p⟩:=(show ObjOk X.prog X.w X.K H s.heap a (.tup xs) from I.hok a _ ea)
  obtain⟨o,h1,h2,_⟩:=p
  exact W.kia_one W.kitx_tuple I.kIn ⟨o,h1,h2⟩ e (fun z=>nomatch z) h
 |@dK a kvs ea =>
  cases (show u=Value.ref a from rx)
  obtain⟨_,_,vs,_,p⟩:=(show ObjOk X.prog X.w X.K H s.heap a (.dK kvs) from I.hok a _ ea)
  obtain⟨o,es,ep,h1,h2,_⟩:=p
  exact W.kia_one W.kitx_dict I.kIn ⟨o,h1,h2.1⟩ e (fun z=>nomatch z) h
 |@dT a kvs ea =>
  cases (show u=Value.ref a from rx)
  obtain⟨_,_,xs,_,o,es,ep,h1,h2,_⟩:=(show ObjOk X.prog X.w X.K H s.heap a (.dT kvs) from I.hok a _ ea)
  exact W.kia_one W.kitx_dict I.kIn ⟨o,h1,h2.1⟩ e (fun z=>nomatch z) h
 |@ins a C dx fs ea cl ha hn htk hm =>
  cases (show u=Value.ref a from rx)
  obtain⟨mA,O,_⟩:=Aih I.hok ea
  obtain⟨od,J,_⟩:=O.look
  exact W.kia_one (W.kitx_own (cl.get _) cl.hd ha hn htk hm) I.kIn J e (fun z=>nomatch z) h
end
structure Room (k:Nat) (A:Around):Prop where
 hd:A.handled=none
 dp:A.depth+3 * k+5 < recursionLimit
 un:A.units+16 * k+200 < cLine
theorem Room.mono {j k:Nat}{A:Around} (r:Room k A) (h:j<=k):Room j A:=⟨r.hd,by have:=r.dp;lia,by have:=r.un;lia⟩
theorem Room.deeper {k:Nat}{A:Around} (r:Room (k+1) A) (env:Env):Room k (A.deeper env) :=
 ⟨r.hd,by have:=r.dp;show A.depth+1+3 * k+5 < _;lia,by have:=r.un;show A.units+3+16 * k+200 < _;lia⟩
theorem Room.in1 {k:Nat}{A:Around} (r:Room (k+1) A):Room k A.in1 :=
 ⟨r.hd,by have:=r.dp;show A.depth+3 * k+5 < _;lia,by have:=r.un;show A.units+1+16 * k+200 < _;lia⟩
theorem Room.depth {k:Nat}{A:Around} (r:Room k A):A.depth < recursionLimit:=by have:=r.dp;lia
theorem Room.units {k:Nat}{A:Around} (r:Room k A):A.units+64 < cLine:=by have:=r.un;lia
noncomputable def Apb:TA:=fun _ H Q=>Q [] H
noncomputable def R8 (ta:TE) (tr:TA):TA:=fun σ H Q=>ta σ H fun x H1=>tr σ H1 fun xs H2=>Q (x::xs) H2
section
variable {X:Cx}{e:Expr}{es:List Expr}{te:TE}{t:TA}{pos:Pos}
theorem J5:PA X [] Apb:=fun _ _ _ _ H Q I h=>Calls.spliced_nil ⟨[],H,I,.nil,h⟩
theorem Dg (ha:PE X e te) (hr:PA X es t) (hs:starEach (e::es) X.env=(false,eval e X.env)::starEach es X.env:=by rfl):PA X (e::es) (R8 te t):=by
 intro pos pins s σ H Q I h
 rw[hs]
 show wpAny _ _ (spliced ((false,eval e X.env)::backTo pos (starEach es X.env))) _ _ s
 refine Calls.spliced_cons (thn (ha pins s σ H _ I h) fun u s1 ⟨x,H1,I1,r1,q1⟩=>?_)
 exact thn (hr pos pins s1 σ H1 _ I1 q1) fun us s2 ⟨xs,H2,I2,r2,q2⟩=>⟨x::xs,H2,I2,.cons r1 r2,q2⟩
def As4 (t:TA):TE:=fun σ H Q=>t σ H fun xs H1=>xs.length<=sizeLine/\∀ p,H1 p=none->Q (.ref p) (upd H1 p (.tup xs))
def Ato (t:TA):TE:=fun σ H Q=>t σ H fun xs H1=>xs.length<=sizeLine/\∀ p,H1 p=none->Q (.ref p) (upd H1 p (.lst xs))
theorem Afm {x1} (h:PA X es t):PE X (.Tuple es x1 pos) (As4 t):=by
 intro pins s σ H Q I hq
 refine wpAny_Tuple_spliced (thn (h pos pins s σ H _ I hq) fun us s1 ⟨xs,H1,I1,r,z,q⟩=>⟨by rw[<- r.length];exact z,?_⟩)
 have hf:H1 s1.heap.objs.size=none:=I1.hok.fresh (At3 _)
 refine⟨.ref s1.heap.objs.size,upd H1 s1.heap.objs.size (.tup xs),I1.laid (t':=s1.toks) (fun b u e=>Atw _ e) (At3 _) ?_,rfl,q _ hf⟩
 exact⟨z,us,r,TupD.new _ _⟩
theorem Ank (h:PA X es t):PE X (.List es pos) (Ato t):=by
 intro pins s σ H Q I hq
 refine wpAny_List_spliced (thn (h pos pins s σ H _ I hq) fun us s1 ⟨xs,H1,I1,r,z,q⟩=>⟨by rw[<- r.length];exact z,?_⟩)
 have hf:H1 s1.heap.objs.size=none:=I1.hok.fresh (At3 _)
 refine⟨.ref s1.heap.objs.size,upd H1 s1.heap.objs.size (.lst xs),I1.laid (t':=s1.toks) (fun b u e=>Atw _ e) (At3 _) ?_,rfl,q _ hf⟩
 exact⟨z,us,0,r,At9 _ rfl⟩
end
abbrev Sp:=List V->Hp->VK->XK->Prop
abbrev CXT:=List Env->Hp->Shared->XK->Value->Shared->Prop
structure Env0 (P:Program) (w:World) (K:W.Frag) (mg:Str->Option Value) (base:Heap) (A:Around) (outer:List Env) (s:Shared) (H:Hp):Prop where
 frames:A.frames=some outer
 mod:Mod K mg base
 bs:∀ b o,base.get? b=some o->s.heap.get? b=some o/\H b=none
 bsz:base.objs.size<=s.heap.objs.size
 funs:s.heap.FunFrames base outer
 frf:∀ b∈frs outer,H b=none
 hok:HOk P w K H s.heap
 bare:AllBare s.gens
def CE (outer:List Env) (P:Program) (w:World) (K:W.Frag) (H:Hp) (s:Shared) (Q:VK) (u:Value) (s':Shared):Prop :=
 ∃ v H',s'.os=s.os/\AllBare s'.gens/\Un (frs outer) [] H H' s.heap s'.heap/\HOk P w K H' s'.heap/\RelV v u/\Q v H'
def CR (CX:CXT) (outer:List Env) (P:Program) (w:World) (K:W.Frag) (H:Hp) (s:Shared) (Q:VK) (E:XK) (r:Result) (s':Shared):Prop :=
 match r with
 |.ok (.ret u)=>CE outer P w K H s Q u s'
 |.ok _=>False
 |.error e=>CX outer H s E e s'
structure FnOk (P:Program) (w:World) (K:W.Frag) (mg:Str->Option Value) (base:Heap) (CX:CXT) (k:Nat) (f:Addr) (fd:FuncData) (ps:List Str) (sp:Sp):Prop where
 len:∀ vs H Q E,sp vs H Q E->vs.length=ps.length
 run:∀ (A:Around) (outer:List Env) (s:Shared) (H:Hp) (args:Args) (us:List Value) (vs:List V) (Q:VK) (E:XK),Room k A->Env0 P w K mg base A outer s H->BindsTo s fd args (ps.zip us)->Vals vs us->sp vs H Q E ->
  codeAny (model P w) A (.call (.ref f) args) (CR CX outer P w K H s Q E) s
theorem Env0.in1 {P:Program}{w:World}{K:W.Frag}{mg:Str->Option Value}{base:Heap}{A:Around}{outer:List Env}{s:Shared}{H:Hp} (e:Env0 P w K mg base A outer s H) :
  Env0 P w K mg base A.in1 outer s H:=⟨e.frames,e.mod,e.bs,e.bsz,e.funs,e.frf,e.hok,e.bare⟩
section
variable {X:Cx}{pins:List (Addr×Obj)}{σ:St}{H:Hp}{s s':Shared}
theorem Inv.env0 (I:Inv X pins σ H s):Env0 X.prog X.w X.K X.mg X.base X.A X.stack s H :=
 ⟨I.ok.frames,I.ok.mod,I.bs,Aug I.ok.bsz I.sz,I.stack,I.stkFree,I.hok,I.bare⟩
theorem Inv.after {Q:VK}{u:Value} (I:Inv X pins σ H s) (h:CE X.stack X.prog X.w X.K H s Q u s'):EP X pins σ Q u s':=by
 obtain⟨v,H',os,bare,un,hok,r,q⟩:=h
 obtain⟨hh,g,d,t,os'⟩:=s'
 obtain rfl:os'=s.os:=os
 exact⟨v,H',I.call (h':=hh) (g':=g) (d':=d) (t':=t) (ch:=[]) un hok bare (fun b z=>absurd z (by simp)),r,q⟩
end
noncomputable def Aox (sp:Sp) (dvs:List V) (E:XK) (t:TA):TE:=fun σ H Q=>t σ H fun vs H1=>sp (vs++dvs) H1 Q E
def Binds (K:W.Frag) (fd:FuncData) (ps:List Str) (ds:List Value):Prop :=
 ∀ (s:Shared) (us:List Value),K.In s.heap->(us++ds).length=ps.length->BindsTo s fd ⟨us,[]⟩ (ps.zip (us++ds))
theorem Binds.all {K:W.Frag}{fd:FuncData}{ps:List Str} (h:∀ us:List Value,us.length=ps.length->bindArgs fd ⟨us,[]⟩=pure (ps.zip us)):Binds K fd ps []:=fun s us _ hl=>by
 rw[Aue] at hl ⊢
 exact .of_eq (h us hl)
def Nj (CX:CXT) (X:Cx) (E:XK):Prop:=∀ (pins:List (Addr×Obj)) (σ:St) (H:Hp) (s:Shared) (e:Value) (s':Shared),Inv X pins σ H s->CX X.stack H s E e s'->X.xe e s'
section
variable {X:Cx}{CX:CXT}{k:Nat}{f C:Addr}{fd:FuncData}{ps:List Str}{sp:Sp}{dvs:List V}{ds:List Value}{E:XK}{x m:Str}{p pos apos:Pos}{e o:Expr}{es:List Expr}{ta:TE}{t:TA}
theorem Aof {pins:List (Addr×Obj)}{σ:St}{H:Hp}{s:Shared}{Q:VK}{us:List Value}{vs:List V} (F:FnOk X.prog X.w X.K X.mg X.base CX k f fd ps sp) (hr:Room k X.A) (hb:Binds X.K fd ps ds) (hd:Vals dvs ds) (hx:Nj CX X E)
  (I:Inv X pins σ H s) (r:Vals vs us) (h:sp (vs++dvs) H Q E):wpAny (model X.prog X.w) X.A (call (.ref f) us) (EP X pins σ Q) X.xe s:=by
 have r2:Vals (vs++dvs) (us++ds):=r.append hd
 have hl:(us++ds).length=ps.length:=by rw[<- r2.length];exact F.len _ _ _ _ h
 refine wpAny_call (codeAny_mono (F.run X.A X.stack s H ⟨us,[]⟩ (us++ds) (vs++dvs) Q E hr I.env0 (hb s us I.kIn hl) r2 h) fun r s' hq=>?_)
 cases r with
 |error e=>exact hx pins σ H s e s' I hq
 |ok fl =>
  cases fl with
  |ret u=>exact I.after hq
  |next=>exact False.elim hq
  |brk=>exact False.elim hq
  |cont=>exact False.elim hq
theorem Iu (F:FnOk X.prog X.w X.K X.mg X.base CX k f fd ps sp) (hr:Room k X.A) (hg:Gl X x) (hm:X.mg x=some (.ref f)) (hk:W.keepIn X.K (.ref f)=true) (hb:Binds X.K fd ps ds) (hd:Vals dvs ds) (hx:Nj CX X E)
  (ha:PA X (e::es) t) (hdb:(x == ("__debug__":Str))=false:=by decide) (he:starEach (e::es) X.env=(false,eval e X.env)::starEach es X.env:=by rfl) (hpl:(backTo pos (starEach es X.env)).any (·.1)=false:=by rfl) :
  PE X (.Call (.Name x p) (e::es) [] pos) (Aox sp dvs E t):=by
 intro pins s σ H Q I h
 refine Aux (Ep I hg hm ?_ hdb)
 refine W.callWith_K (h₀:=X.base) I.ok.mod.kin hk (thn (ha pos pins s σ H _ I h) fun us s1 ⟨vs,H1,I1,r,q⟩=>⟨I1.kIn,?_⟩) he hpl
 exact Aof F hr hb hd hx I1 r q
end
section
variable {X:Cx}{CX:CXT}{k:Nat}{f C:Addr}{fd:FuncData}{ps ks:List Str}{sp:Sp}{E:XK}{x m:Str}{p pos apos kpos:Pos}{e o:Expr}{es:List Expr}{kws:List Keyword}{te ta:TE}{t tk:TA}{nm:Option Str}
variable {g:List Value->List Value->List Value}{gV:List V->List V->List V}
end
structure FnScope (N P:List Str) (sc:Scope):Prop where
 kind:sc.kind=.function
 co:sc.isCoroutine=false
 gen:sc.isGenerator=false
 nd:N.Nodup
 pre:N.take P.length=P
 par:∀ x∈P,sc.names.lookup x=some .local\/sc.names.lookup x=some .cell
 nofree:∀ y∈sc.names,y.2≠.free
theorem Nq {kindOf:Str->Option NameKind}{x:Str}:∀ {binds:List (Str×Value)}{m:Str->Option Value},(∀ v,(x,v)∉binds)->bindL kindOf binds m x=m x
 |[],_,_=>rfl
 |(n,v)::r,m,h=>by
  unfold bindL
  rw[Nq fun w hw=>h w (Atz _ hw)]
  split
  ·have:x≠n:=by rintro rfl;exact h v At0
   simp[this]
  ·rfl
theorem Nn {kindOf:Str->Option NameKind}{x:Str}:∀ {binds:List (Str×Value)}{m:Str->Option Value},(∀ v,(x,v)∉binds)->bindC kindOf binds m x=m x
 |[],_,_=>rfl
 |(n,v)::r,m,h=>by
  unfold bindC
  rw[Nn fun w hw=>h w (Atz _ hw)]
  split
  ·rfl
  ·have:x≠n:=by rintro rfl;exact h v At0
   simp[this]
theorem Np {kindOf:Str->Option NameKind}{x:Str}{v:Value}:∀ {P:List Str}{vs:List Value}{i:Nat}{m:Str->Option Value},P.Nodup->P[i]?=some x->vs[i]?=some v->kindOf x=some .local ->
  bindL kindOf (P.zip vs) m x=some v
 |[],_,_,_,_,h,_,_=>by simp at h
 |_::_,[],_,_,_,_,h,_=>by simp at h
 |p::P,w::vs,0,m,nd,h1,h2,hk=>by
  simp at h1 h2;subst h1;subst h2
  show bindL kindOf ((p,w)::P.zip vs) m p=_
  unfold bindL
  rw[Nq fun v hv=>(List.nodup_cons.mp nd).1 (List.of_mem_zip hv).1,At4 hk]
  simp
 |p::P,w::vs,i+1,m,nd,h1,h2,hk=>by
  show bindL kindOf ((p,w)::P.zip vs) m x=_
  unfold bindL
  exact Np (i:=i) (List.nodup_cons.mp nd).2 (by simpa using h1) (by simpa using h2) hk
theorem Nm {kindOf:Str->Option NameKind}{x:Str}{v:Value}:∀ {P:List Str}{vs:List Value}{i:Nat}{m:Str->Option Value},P.Nodup->P[i]?=some x->vs[i]?=some v->kindOf x≠some .local ->
  bindC kindOf (P.zip vs) m x=some v
 |[],_,_,_,_,h,_,_=>by simp at h
 |_::_,[],_,_,_,_,h,_=>by simp at h
 |p::P,w::vs,0,m,nd,h1,h2,hk=>by
  simp at h1 h2;subst h1;subst h2
  show bindC kindOf ((p,w)::P.zip vs) m p=_
  unfold bindC
  rw[Nn fun v hv=>(List.nodup_cons.mp nd).1 (List.of_mem_zip hv).1,At8 hk]
  simp
 |p::P,w::vs,i+1,m,nd,h1,h2,hk=>by
  show bindC kindOf ((p,w)::P.zip vs) m x=_
  unfold bindC
  exact Nm (i:=i) (List.nodup_cons.mp nd).2 (by simpa using h1) (by simpa using h2) hk
noncomputable def Jd (N:List Str) (vs:List V):St:=vs.map some++List.replicate (N.length - vs.length) none
noncomputable def Hc (CX:CXT) (P:Program) (w:World) (K:W.Frag) (mg:Str->Option Value) (base:Heap) (N:List Str) (qual:Str) (scope:Scope) (f:Addr) (cd:Value) (A:Around) (outer:List Env) (s:Shared) (H:Hp) (E:XK):Cx where
 prog:=P
 w:=w
 K:=K
 mg:=mg
 base:=base
 A:=A.deeper (envOfC qual scope s.heap.objs.size f cd)
 N:=N
 s₀:=s
 H₀:=H
 env:=envOfC qual scope s.heap.objs.size f cd
 outer:=outer
 stack:=envOfC qual scope s.heap.objs.size f cd::outer
 ex:=[]
 calm:=true
 fn:=fun _=>true
 pn:=[]
 xe:=fun e s'=>wpAny (model P w) (A.deeper (envOfC qual scope s.heap.objs.size f cd)) (leaving (envOfC qual scope s.heap.objs.size f cd) e) (fun _ s''=>CX outer H s E e s'') (fun e' s''=>CX outer H s E e' s'') s'
theorem Tg {sc:Scope}{n:Nat}{x:Str} (h:sc.names.lookup x=some .cell):∃ c,(cellsFrom n sc.names []).lookup x=some c:=by
 have q:=W.cellsFrom_some sc.names n [] (.inl h)
 exact Option.isSome_iff_exists.mp q
theorem Y1 {CX:CXT}{P:Program}{w:World}{K:W.Frag}{mg:Str->Option Value}{base:Heap}{N ps:List Str}{qual:Str}{scope:Scope}{f:Addr}{cd:Value}{A:Around}{outer:List Env}{s s1:Shared}{H:Hp}{E:XK}{us:List Value}{vs:List V}
  (S:FnScope N ps scope) (hd:A.handled=none) (e0:Env0 P w K mg base A outer s H) (hl:vs.length=ps.length) (r:Vals vs us)
  (x:InCallC s s.heap.objs.size (bindL (envOfC qual scope s.heap.objs.size f cd).kindOf (ps.zip us) fun _=>none) (cellsFrom (s.heap.objs.size+1) scope.names []) (bindC (envOfC qual scope s.heap.objs.size f cd).kindOf (ps.zip us) fun _=>none) s1) :
  Inv (Hc CX P w K mg base N qual scope f cd A outer s H E) [] (Jd N vs) H s1:=by
 have hpl:ps.length<=N.length:=by have:=Avz List.length S.pre;rw[Ava] at this;lia
 obtain⟨h1,tk,rfl,hk⟩:=x.done
 have noA:∀ b:Addr,b∉(Hc CX P w K mg base N qual scope f cd A outer s H E).ex:=fun b z=>absurd (show b∈([]:List Addr) from z) (by simp)
 refine⟨⟨e0.mod,S.kind,rfl,rfl,At3 _,fun y z c h1 h2=>?_,fun y hy=>?_,fun y c _ h=>?_,fun _=>hd,Around.frames_deeper e0.frames,.inr ⟨rfl,rfl⟩,fun b z=>absurd z (noA b),e0.bs,e0.bsz,fun b _ _=>noA b,fun b z=>absurd z (noA b),e0.funs,e0.frf⟩,
  rfl,e0.bare,Un.kept hk,⟨_,x.toInCall.ns,fun i y v h1 h2 h3=>?_⟩,fun y c h=>⟨_,x.cell y c h⟩,e0.hok.fresh (At3 _),fun y c h=>?_,fun p hp=>absurd (show p∈([]:List (Addr×Obj)) from hp) (by simp),e0.hok.kept hk,?_⟩
 ·exact name_of_addr x.apart (Auv h1) (Auv h2)
 ·have hy:scope.names.lookup y=some .cell\/scope.names.lookup y=some .free:=hy
  rcases hy with hy|hy
  ·exact Tg hy
  ·exact absurd rfl (S.nofree _ (Auv hy))
 ·exact Av9 (x.above y c (Auv h))
 ·have hi:i < vs.length:=by
   unfold Jd at h2
   by_cases hi:i < vs.length
   ·exact hi
   ·rw[Auy (by simpa using hi)] at h2
    rw[Av4] at h2
    split at h2<;>cases h2
  have ha:vs[i]?=some v:=by
   unfold Jd at h2
   rw[Aun (by simpa using hi),Auh] at h2
   cases e:vs[i]? with
   |none=>rw[e] at h2;cases h2
   |some a=>rw[e] at h2;cases h2;rfl
  obtain⟨u,hu,rv⟩:=r.get ha
  have hp:ps[i]?=some y:=by
   rw[<- S.pre,List.getElem?_take_of_lt (by lia)];exact h1
  have ndP:ps.Nodup:=by rw[<- S.pre];exact S.nd.sublist (List.take_sublist _ _)
  refine⟨u,rv,?_⟩
  rcases S.par y (Auc hp) with k|k
  ·exact .inl ⟨k,Np ndP hp hu k⟩
  ·obtain⟨c,e⟩:=Tg (n:=s.heap.objs.size+1) k
   refine .inr ⟨.inl k,c,e,?_⟩
   have q:=x.cell y c e
   rw[Nm ndP hp hu (by show scope.names.lookup y≠_;rw[k];decide)] at q
   exact q
 ·exact e0.hok.fresh (Av9 (x.above y c (Auv h)))
 ·unfold Jd
  show _=N.length
  rw[Aui,Aud,List.length_replicate]
  lia
theorem Alz {CX:CXT}{P:Program}{w:World}{K:W.Frag}{mg:Str->Option Value}{base:Heap}{k:Nat}{f:Addr}{name qual:Str}{params:Arguments}{body:List Stmt}{scope:Scope}{dV kV doc pm cdv ct oc:Value}{an od:Option Addr}
  {osl:Array (Option Value)}{N ps:List Str}{sp:Sp} (lk:K.lookup f=some ⟨oc,od,.func (W.fnOf name qual params body scope dV kV doc pm an cdv ct),osl⟩) (hcd:W.codeIn K cdv qual=true) (S:FnScope N ps scope)
  (len:∀ vs H Q E,sp vs H Q E->vs.length=ps.length)
  (hbody:∀ (A:Around) (outer:List Env) (s:Shared) (H:Hp) (vs:List V) (Q:VK) (E:XK),Room k (A.deeper (envOfC qual scope s.heap.objs.size f cdv))->sp vs H Q E ->
   ∃ t,PSs (Hc CX P w K mg base N qual scope f cdv A outer s H E) body t/\t { nx:=fun _ H'=>Q .non H',rt:=Q } (Jd N vs) H) :
  FnOk P w K mg base CX (k+1) f (W.fnOf name qual params body scope dV kV doc pm an cdv ct) ps sp:=by
 refine⟨len,fun A outer s H args us vs Q E hr e0 hb r hsp=>?_⟩
 have hl:=len _ _ _ _ hsp
 have KX:K.In s.heap:=e0.mod.kin.keeps fun b o e=>(e0.bs b o e).1
 have lim:s.heap.NoLimit:=e0.mod.nolimit.keeps fun b o e=>(e0.bs b o e).1
 have hkind:∀ y∈ps.zip us,scope.names.lookup y.1=some .local\/(scope.names.lookup y.1=some .cell/\((cellsFrom (s.heap.objs.size+1) scope.names []).lookup y.1).isSome=true):=fun⟨n,v⟩ hy=>by
  rcases S.par n (List.of_mem_zip hy).1 with q|q
  ·exact .inl q
  ·exact .inr ⟨q,W.cellsFrom_some _ _ _ (.inl q)⟩
 refine codeAny_call_function hr.depth (KX _ _ lk) rfl S.co S.gen rfl (W.codeRec_of KX hcd) (hb _ _ _ _ ?_)
 refine wpAny_newFunctionEnv_cells S.kind hkind fun env he s1 x=>?_
 subst he
 refine⟨lim.keeps x.toInCall.keep,codeAny_func ?_⟩
 obtain⟨t,ht,hq⟩:=hbody A outer s H vs Q E (hr.deeper _) hsp
 have I:Inv (Hc CX P w K mg base N qual scope f cdv A outer s H E) [] (Jd N vs) H s1:=Y1 S hr.hd e0 hl r x
 refine Au0 (ht [] s1 (Jd N vs) H _ I hq) (fun fl s' hs=>?_) fun e s' hs=>hs
 have fin:∀ {σ':St}{H':Hp}{v:V}{u:Value},Inv (Hc CX P w K mg base N qual scope f cdv A outer s H E) [] σ' H' s'->RelV v u->Q v H'->CE outer P w K H s Q u s' :=
  fun {σ' H' v u} J rv q=>⟨v,H',J.os,J.bare,J.base,J.hok,rv,q⟩
 cases fl with
 |ret u =>
  obtain⟨v,σ',H',J,rv,q⟩:=hs
  exact fin J rv q
 |next =>
  obtain⟨σ',H',J,q⟩:=hs
  exact fin (v:=V.non) (u:=Value.none) J rfl q
 |brk =>
  obtain⟨_,_,_,q⟩:=hs
  exact False.elim q
 |cont =>
  obtain⟨_,_,_,q⟩:=hs
  exact False.elim q
section
variable {X:Cx}{x:Str}{p pos:Pos}{e:Expr}{es:List Expr}{t:TA}{id T:String}{r:List V->Hp->VK->Prop}
end
end L2
namespace HT
open PySem PyProof.Rows
section
open PySem.SeqAt
open PySem.AutoSeq1 (wpAny_loadPart')
open PySem.MeetsSeq PySem.MeetsSeq2 PySem.MeetsSeq3
end
section
variable {prog:Program}{w:World}{A:Around}{E:Value->Shared->Prop}{s:Shared}
theorem cat_tup {t b:Addr}{vs ws:List Value}{Q:Value->Shared->Prop} (ht:IsTup s.heap t vs.toArray) (hb:IsTup s.heap b ws.toArray) (hv:vs≠[])
  (h1:ws=[]->Q (.ref t) s) (h2:ws≠[]->Q (.ref s.heap.objs.size) { s with heap:=s.heap.push { cls:=.type "tuple",data:=.seq (vs++ws).toArray } })
  (hsz:vs.length+ws.length<=sizeLine):wpAny (model prog w) A (binaryOp .Add (.ref t) (.ref b)) Q E s:=by
 obtain⟨⟨cls,dd,data,sl⟩,ho,hc,n,hd⟩:=id ht
 obtain⟨⟨cls2,dd2,data2,sl2⟩,ho2,hc2,n2,hd2⟩:=id hb
 simp only at hc hd hc2 hd2
 subst hc hd hc2 hd2
 have e:vs.toArray++ws.toArray=(vs++ws).toArray:=by simp
 by_cases hw:ws=[]
 ·exact concat_meets ⟨_,ho,rfl⟩ ⟨_,ho2,rfl⟩ noFill_tuple_add seq_tuple_add PySem.F.slot_tuple_add PySem.F.entry_tuple_add (PySem.F.args_tuple_add_2 _ _)
   (tuple_addW1 t b vs.toArray ws.toArray n n2 dd dd2 sl sl2 (by simpa using hv) (by simp[hw])) ⟨ho,ho2,h1 hw⟩
 ·refine concat_meets ⟨_,ho,rfl⟩ ⟨_,ho2,rfl⟩ noFill_tuple_add seq_tuple_add PySem.F.slot_tuple_add PySem.F.entry_tuple_add (PySem.F.args_tuple_add_2 _ _)
   (tuple_addW2 t b vs.toArray ws.toArray n n2 dd dd2 sl sl2 (by simpa using hv) (by simpa using hw) (by rw[At2,At2];exact hsz)) ⟨ho,ho2,?_⟩
  rw[e]
  exact h2 hw
noncomputable def sIx (n d:Nat):Option Int->Nat
 |none=>d
 |some v=>if v < 0 then (v+(n:Int)).toNat else min v.toNat n
theorem sIx_nat (n d k:Nat):sIx n d (some (k:Int))=min k n:=by
 show (if (k:Int) < 0 then ((k:Int)+(n:Int)).toNat else min (k:Int).toNat n)=min k n
 rw[At8 (by lia),Int.toNat_natCast]
theorem Aoh (n d:Nat) (hd:d<=n) (o:Option Int):sIx n d o<=n:=by
 cases o with
 |none=>exact hd
 |some v =>
  show (if v < 0 then (v+(n:Int)).toNat else min v.toNat n)<=n
  by_cases hv:v < 0
  ·rw[At4 hv];lia
  ·rw[At8 hv];exact Nat.min_le_right _ _
theorem Ye (v:Int) (n d:Nat):(if v < 0 then max (v+(n:Int)) 0 else min v (n:Int))=((sIx n d (some v):Nat):Int):=by
 show (if v < 0 then max (v+(n:Int)) 0 else min v (n:Int))=(((if v < 0 then (v+(n:Int)).toNat else min v.toNat n):Nat):Int)
 by_cases hv:v < 0
 ·simp only[At4 hv];lia
 ·simp only[At8 hv];lia
theorem Uo (lo hi:Option Int) (n:Nat):Builtin.Slice.sliceAdjust lo hi 1 (n:Int)=(((sIx n 0 lo:Nat):Int),((sIx n n hi:Nat):Int)):=by
 have h1:¬ ((1:Int) < 0):=by lia
 unfold Builtin.Slice.sliceAdjust
 simp only[h1,if_false]
 refine Prod.ext ?_ ?_
 ·cases lo with
  |none=>rfl
  |some v=>exact Ye v n 0
 ·cases hi with
  |none=>rfl
  |some v=>exact Ye v n n
theorem Ve (i j:Nat):Builtin.Slice.slicePlaces (i:Int) (j:Int) 1=j - i:=by
 unfold Builtin.Slice.slicePlaces
 have h1:(1:Int) > 0:=by lia
 simp only[h1,Awl,Int.ediv_one]
 split<;>lia
theorem La {v:Value}{o:Option Int}{Q:Option Int->Shared->Prop} (p:IsPart v o) (h:Q o s):wpAny (model prog w) A (Builtin.Slice.slicePartIndex v) Q E s:=by
 cases p with
 |none=>exact slicePart_none h
 |int i t=>exact slicePart_int h
theorem sliceApplied_gen {sl:Addr}{vl vu:Value}{lo hi:Option Int}{n:Nat}{Q:Int×Int×Nat->Shared->Prop} (hs:s.heap.IsSliceOf sl vl vu .none) (pl:IsPart vl lo) (pu:IsPart vu hi)
  (h:Q (((sIx n 0 lo:Nat):Int),1,sIx n n hi - sIx n 0 lo) s):wpAny (model prog w) A (Builtin.Slice.sliceApplied (.ref sl) (pure (n:Int))) Q E s:=by
 obtain⟨os,hos,hcs,hds⟩:=id hs
 unfold Builtin.Slice.sliceApplied Builtin.Slice.sliceFields
 refine Atu (Atu (wpAny_field hos hds (x:=vl) rfl (Atu (wpAny_field hos hds (x:=vu) rfl (Atu (wpAny_field hos hds (x:=.none) rfl (Atv ?_)))))))
 refine Atu (slicePart_none ?_)
 show wpAny _ _ (if ((1:Int) == 0)=true then _ else _) _ _ s
 rw[At8 (by decide)]
 refine Atu (La pl (Atu (La pu (Atu (Atv ?_)))))
 show wpAny _ _ (match Builtin.Slice.sliceAdjust lo hi 1 (n:Int) with|(lo,hi)=>pure (lo,(1:Int),Builtin.Slice.slicePlaces lo hi 1)) _ _ s
 rw[Uo lo hi n]
 show wpAny _ _ (pure (((sIx n 0 lo:Nat):Int),(1:Int),Builtin.Slice.slicePlaces ((sIx n 0 lo:Nat):Int) ((sIx n n hi:Nat):Int) 1)) _ _ s
 rw[Ve]
 exact Atv h
theorem Adf (xs:Array Value) (i k:Nat):((List.range k).filterMap fun (m:Nat)=>xs[((i:Int)+(m:Int) * 1).toNat]?).toArray=((xs.toList.drop i).take k).toArray:=by
 have e:(fun (m:Nat)=>xs[((i:Int)+(m:Int) * 1).toNat]?)=fun m=>xs[i+m]?:=by
  funext m
  have:((i:Int)+(m:Int) * 1).toNat=i+m:=by lia
  rw[this]
 rw[e]
 have:=pick_run xs i k
 rw[List.filterMap_map] at this
 have e2:((fun x=>xs[x]?) ∘ fun x=>i+x)=fun m=>xs[i+m]?:=rfl
 rw[e2] at this
 rw[this]
theorem getItem_tuple_cut {t sl:Addr}{items:Array Value}{vl vu:Value}{lo hi:Option Int}{Q:Value->Shared->Prop} (ht:IsTup s.heap t items) (hs:s.heap.IsSliceOf sl vl vu .none) (pl:IsPart vl lo) (pu:IsPart vu hi)
  (hw:¬ (sIx items.size 0 lo=0/\sIx items.size items.size hi=items.size))
  (h:Q (.ref s.heap.objs.size) { s with heap:=s.heap.push { cls:=.type "tuple",data:=.seq ((items.toList.drop (sIx items.size 0 lo)).take (sIx items.size items.size hi - sIx items.size 0 lo)).toArray } })
  (hsz:items.size<=sizeLine):wpAny (model prog w) A (getItem (.ref t) (.ref sl)) Q E s:=by
 have htake:sizeOk (.seq ((items.toList.drop (sIx items.size 0 lo)).take (sIx items.size items.size hi - sIx items.size 0 lo)).toArray):=by
  show ((items.toList.drop (sIx items.size 0 lo)).take (sIx items.size items.size hi - sIx items.size 0 lo)).toArray.size<=sizeLine
  rw[At2,Ava,Awc,Aul]
  lia
 have hj:sIx items.size items.size hi<=items.size:=Aoh _ _ (At3 _) hi
 obtain⟨os,hos,hcs,hds⟩:=id hs
 have hTs:s.TypeIs (.ref sl) "slice":=⟨os,hos,hcs⟩
 unfold getItem
 try with_reducible refine Au4 ?_
 first|refine Atu (Atv ?_)|skip
 refine Atu (wpAny_sequenceKey ht.typeIs (by decide) ?_)
 refine Atu (Avo (name:=Str.ofString "__getitem__") ht.typeIs PyProof.Rows.slot_tuple_getitem
  (Au6 PyProof.Rows.slot_tuple_getitem ht.typeIs entry_tuple_getitem ?_ (args_tuple_getitem _ _)))
 show wpAny _ _ (Builtin.Tuple.tupleItemsOf (.ref t) >>= _) _ _ s
 refine Atu (tupleItemsOf_ ht ?_)
 refine Atu (Av6 hTs ?_)
 rw[At4 (by decide)]
 refine Atu (sliceApplied_gen hs pl pu ?_)
 have hno:¬ ((((sIx items.size 0 lo:Nat):Int) == 0&&(1:Int) == 1&&(sIx items.size items.size hi - sIx items.size 0 lo) == items.size)=true):=by
  intro q
  rw[Aua,Aua] at q
  have q1:((sIx items.size 0 lo:Nat):Int)=0:=eq_of_beq q.1.1
  have q2:sIx items.size items.size hi - sIx items.size 0 lo=items.size:=eq_of_beq q.2
  exact hw ⟨by lia,by lia⟩
 show wpAny _ _ (if (((sIx items.size 0 lo:Nat):Int) == 0&&(1:Int) == 1&&(sIx items.size items.size hi - sIx items.size 0 lo) == items.size)=true then _ else _) _ _ s
 rw[At8 hno,Adf]
 first
  |exact Atu (m:=Builtin.Tuple.tupleExact _) (Au8 (Atv ⟨_,rfl,Atv h⟩) htake)
  |exact Atu (m:=Builtin.Tuple.tupleExact _) (Au8 (Atu (Atv (Atv ⟨_,rfl,Atv h⟩))) htake)
  |exact Atu (Atu (m:=Builtin.Tuple.tupleExact _) (Au8 (Atv (Atv ⟨_,rfl,Atv h⟩)) htake))
  |exact Atu (Atu (m:=Builtin.Tuple.tupleExact _) (Au8 (Atv ⟨_,rfl,Atv h⟩) htake))
end
end HT
namespace L2
open PySem PySem.Spec PyProof.Rows
abbrev TO:=St->Hp->(Option Int->Hp->Prop)->Prop
def PO (X:Cx) (e:Option Expr) (t:TO):Prop :=
 ∀ (pins:List (Addr×Obj)) (s:Shared) (σ:St) (H:Hp) (Q:Option Int->Hp->Prop),Inv X pins σ H s->t σ H Q ->
  wpAny (model X.prog X.w) X.A (evalPart e X.env) (fun u s'=>∃ o H',Inv X pins σ H' s'/\IsPart u o/\Q o H') X.xe s
noncomputable def Akl:TO:=fun _ H Q=>Q none H
noncomputable def Asi (t:TE):TO:=fun σ H Q=>t σ H fun x H1=>∃ i,x=.int i/\Q (some i) H1
section
variable {X:Cx}{e:Expr}{te:TE}{lo hi:Option Expr}{tl th:TO}{pos p2:Pos}
theorem Ajh:PO X none Akl:=by
 intro pins s σ H Q I h
 rw[evalPart_none]
 exact Atv ⟨none,H,I,.none,h⟩
theorem Aji (h:PE X e te):PO X (some e) (Asi te):=by
 intro pins s σ H Q I hw
 rw[evalPart_some]
 refine thn (h pins s σ H _ I hw) fun u s1 ⟨x,H1,I1,r1,q1⟩=>?_
 obtain⟨i,rfl,q⟩:=q1
 obtain⟨t,rfl⟩:=r1
 exact⟨some i,H1,I1,.int i t,q⟩
def SlR (X:Cx) (r:V->Option Int->Option Int->Hp->VK->Prop):Prop :=
 ∀ (pins:List (Addr×Obj)) (s:Shared) (σ:St) (H:Hp) (x:V) (v vl vu:Value) (lo hi:Option Int) (sl:Addr) (Q:VK),Inv X pins σ H s->RelV x v->s.heap.IsSliceOf sl vl vu .none->IsPart vl lo->IsPart vu hi->r x lo hi H Q ->
  ∃ T id,typeLookup (.type T) "__getitem__"=pure (some (.builtin id))/\s.TypeIs v T/\wpAny (model X.prog X.w) X.A (getItem v (.ref sl)) (EP X pins σ Q) X.xe s
theorem SlR.or {r r':V->Option Int->Option Int->Hp->VK->Prop} (h:SlR X r) (h':SlR X r'):SlR X (fun x lo hi H Q=>r x lo hi H Q\/r' x lo hi H Q):=by
 intro pins s σ H x v vl vu lo hi sl Q I rx hs pl pu q
 rcases q with q|q
 ·exact h pins s σ H x v vl vu lo hi sl Q I rx hs pl pu q
 ·exact h' pins s σ H x v vl vu lo hi sl Q I rx hs pl pu q
noncomputable def tSl (r:V->Option Int->Option Int->Hp->VK->Prop) (te:TE) (tl th:TO):TE:=fun σ H Q=>te σ H fun x H1=>tl σ H1 fun l H2=>th σ H2 fun u H3=>r x l u H3 Q
theorem T9 {r:V->Option Int->Option Int->Hp->VK->Prop} (hr:SlR X r) (he:PE X e te) (hl:PO X lo tl) (hu:PO X hi th):PE X (.Subscript e (.Slice lo hi none p2) pos) (tSl r te tl th):=by
 intro pins s σ H Q I h
 refine Subscript_ (thn (he pins s σ H _ I h) fun v s1 ⟨x,H1,I1,r1,q1⟩=>?_)
 refine wpAny_Slice (thn (hl pins s1 σ H1 _ I1 q1) fun vl s2 ⟨l,H2,I2,pl,q2⟩=>thn (hu pins s2 σ H2 _ I2 q2) fun vu s3 ⟨u,H3,I3,pu,q3⟩=>?_)
 rw[evalPart_none]
 refine Atv ?_
 have I4:Inv X pins σ H3 { s3 with heap:=s3.heap.push { cls:=.type "slice",data:=.fields #[vl,vu,.none] } }:=I3.kept (t':=s3.toks) fun b ob q=>Atw _ q
 obtain⟨T,id,hT,ht,hg⟩:=hr pins { s3 with heap:=s3.heap.push { cls:=.type "slice",data:=.fields #[vl,vu,.none] } } σ H3 x v vl vu l u s3.heap.objs.size Q I4 r1 (Heap.IsSliceOf.new ..) pl pu q3
 show wpAny (model X.prog X.w) X.A (subscriptTail e (.Slice lo hi none p2) v (.ref s3.heap.objs.size)) (EP X pins σ Q) X.xe { s3 with heap:=s3.heap.push { cls:=.type "slice",data:=.fields #[vl,vu,.none] } }
 exact tail_any (ops:=[.ref s3.heap.objs.size,v]) ht hT hg (by with_unfolding_all rfl)
def Aeu (xs:List V) (lo hi:Option Int):List V:=(xs.drop (HT.sIx xs.length 0 lo)).take (HT.sIx xs.length xs.length hi - HT.sIx xs.length 0 lo)
theorem Hu (xs:List V) (lo hi:Option Int):(Aeu xs lo hi).length<=xs.length:=by
 unfold Aeu
 rw[Ava,Awc]
 lia
def Atj (K:W.Frag):V->Option Int->Option Int->Hp->VK->Prop:=fun x lo hi H Q=>∃ a xs,x=.ref a/\SqT K H a xs /\
 ¬ (HT.sIx xs.length 0 lo=0/\HT.sIx xs.length xs.length hi=xs.length)/\∀ p,H p=none->Q (.ref p) (upd H p (.tup (Aeu xs lo hi)))
theorem sl_tup:SlR X (Atj X.K):=by
 intro pins s σ H x v vl vu lo hi sl Q I rx hs pl pu h
 obtain⟨a,xs,rfl,hx,hw,q⟩:=h
 cases rx
 obtain⟨its,r,ht,hz⟩:=I.tuple hx
 have hlen:its.toArray.size=xs.length:=by rw[At2];exact r.length.symm
 refine⟨"tuple",_,PyProof.Rows.slot_tuple_getitem.lookup,ht.typeIs,?_⟩
 refine HT.getItem_tuple_cut ht hs pl pu (by rw[hlen];exact hw) ?_ (by rw[hlen];exact hz)
 rw[hlen]
 refine⟨.ref s.heap.objs.size,_,I.laid (t':=s.toks) (o:=.tup (Aeu xs lo hi)) (fun b ob q=>Atw _ q) (At3 _) ?_,rfl,q _ (I.hok.fresh (At3 _))⟩
 exact⟨Aug (Hu xs lo hi) hz,_,(r.drop (HT.sIx xs.length 0 lo)).take (HT.sIx xs.length xs.length hi - HT.sIx xs.length 0 lo),TupD.new _ _⟩
def Asa (K:W.Frag):R2:=fun x y H Q=>∃ a b xs ys,x=.ref a/\y=.ref b/\SqT K H a xs/\SqT K H b ys/\xs≠[]/\xs.length+ys.length<=sizeLine /\
 (ys=[]->Q (.ref a) H)/\(ys≠[]->∀ p,H p=none->Q (.ref p) (upd H p (.tup (xs++ys))))
theorem Vals.nil_iff {xs:List V}{us:List Value} (r:Vals xs us):us=[] ↔ xs=[]:=by
 cases r with
 |nil=>simp
 |cons _ _=>simp
theorem op_catT:OpR X (binaryOp .Add) (Asa X.K):=by
 intro pins s σ H x y v u Q I rx ry h
 obtain⟨a,b,xs,ys,rfl,rfl,ha,hb,hx,hz,q1,q2⟩:=h
 cases rx
 cases ry
 obtain⟨its,r1,p1,_⟩:=I.tuple ha
 obtain⟨its2,r2,p2,_⟩:=I.tuple hb
 refine HT.cat_tup p1 p2 (fun z=>hx (r1.nil_iff.mp z)) (fun z=>⟨.ref a,H,I,rfl,q1 (r2.nil_iff.mp z)⟩) (fun z=>?_) (by rw[<- r1.length,<- r2.length];exact hz)
 refine⟨.ref s.heap.objs.size,_,I.laid (t':=s.toks) (o:=.tup (xs++ys)) (fun b ob q=>Atw _ q) (At3 _) ?_,rfl,q2 (fun w=>z (r2.nil_iff.mpr w)) _ (I.hok.fresh (At3 _))⟩
 exact⟨by rw[Aui];exact hz,_,r1.append r2,TupD.new _ _⟩
end
noncomputable def ixN (n:Nat) (i:Int):Option Nat:=if 0<=i then (if i < n then some i.toNat else none) else if -(n:Int)<=i then some (i+n).toNat else none
def atI {α:Type} (xs:List α) (i:Int):Option α:=(ixN xs.length i).bind fun j=>xs[j]?
theorem Aik {n:Nat}{i:Int}{j:Nat} (h:ixN n i=some j):seqIndex? i n=some j/\j < n/\-(n:Int)<=i/\i < n:=by
 unfold ixN at h
 by_cases h0:0<=i
 ·rw[At4 h0] at h
  by_cases h1:i < n
  ·rw[At4 h1] at h
   have e:i.toNat=j:=Au2 h
   exact⟨by rw[seqIndex_of h0 h1,e],by lia,by lia,h1⟩
  ·rw[At8 h1] at h;cases h
 ·rw[At8 h0] at h
  by_cases h1:-(n:Int)<=i
  ·rw[At4 h1] at h
   have e:(i+n).toNat=j:=Au2 h
   exact⟨by rw[seqIndex_neg (by lia) h1,e],by lia,h1,by lia⟩
  ·rw[At8 h1] at h;cases h
theorem Lr {α:Type}{xs:List α}{i:Int}{v:α} (h:atI xs i=some v):∃ j,seqIndex? i xs.length=some j/\xs[j]?=some v/\j < xs.length/\-(xs.length:Int)<=i/\i < xs.length:=by
 unfold atI at h
 cases e:ixN xs.length i with
 |none=>rw[e] at h;cases h
 |some j =>
  rw[e] at h
  obtain⟨h1,h2,h3,h4⟩:=Aik e
  exact⟨j,h1,h,h2,h3,h4⟩
def Lj (b:Expr):Prop:=∀ o i,subscripted b false o i=operate [o,i] (getItem o i)
def IxR (X:Cx) (r:R2):Prop :=
 ∀ (value slice:Expr) (pins:List (Addr×Obj)) (s:Shared) (σ:St) (H:Hp) (x y:V) (v u:Value) (Q:VK),Inv X pins σ H s->RelV x v->RelV y u->r x y H Q ->
  subscripted slice false v u=operate [v,u] (getItem v u)->wpAny (model X.prog X.w) X.A (subscriptTail value slice v u) (EP X pins σ Q) X.xe s
def MtR (X:Cx) (id:String) (r:V->List V->Hp->VK->Prop):Prop :=
 ∀ (pins:List (Addr×Obj)) (s:Shared) (σ:St) (H:Hp) (x:V) (xs:List V) (v:Value) (us:List Value) (Q:VK),Inv X pins σ H s->RelV x v->Vals xs us->r x xs H Q ->
  wpAny (model X.prog X.w) X.A (call (.builtin id) (v::us)) (EP X pins σ Q) X.xe s
section
variable {X:Cx}{a b:Expr}{ta tb:TE}{pos:Pos}
theorem IxR.or {r r':R2} (h:IxR X r) (h':IxR X r'):IxR X (fun x y H Q=>r x y H Q\/r' x y H Q):=by
 intro value slice pins s σ H x y v u Q I rx ry q hs
 rcases q with q|q
 ·exact h value slice pins s σ H x y v u Q I rx ry q hs
 ·exact h' value slice pins s σ H x y v u Q I rx ry q hs
theorem Arz {r:R2} (hr:IxR X r) (ha:PE X a ta) (hb:PE X b tb) (hs:Lj b):PE X (.Subscript a b pos) (tOp r ta tb):=by
 intro pins s σ H Q I h
 exact Subscript_ (Ao5 ha hb I h fun v u s2 x y H2 I2 rx ry q=>hr a b pins s2 σ H2 x y v u Q I2 rx ry q (hs _ _))
def Asx (K:W.Frag):R2:=fun x y H Q=>∃ p xs i v,x=.ref p/\y=.int i/\SqL K H p xs/\atI xs i=some v/\Q v H
def Asz (K:W.Frag):R2:=fun x y H Q=>∃ p xs i v,x=.ref p/\y=.int i/\SqT K H p xs/\atI xs i=some v/\Q v H
def Asy:R2:=fun x y H Q=>∃ z i c,x=.str z/\y=.int i/\z.length<=sizeLine/\atI z.cps.toList i=some c/\Q (.str ⟨#[c]⟩) H
theorem ix_list:IxR X (Asx X.K):=by
 intro value slice pins s σ H x y v u Q I rx ry h hs
 obtain⟨p,xs,i,z,rfl,rfl,hq,he,q⟩:=h
 cases rx
 obtain⟨t,rfl⟩:=ry
 obtain⟨its,r,pl,hz⟩:=I.list hq
 obtain⟨j,h1,h2,h3,h4,h5⟩:=Lr he
 obtain⟨w,ew,rw'⟩:=r.get h2
 have hl:=r.length
 have hn:=Of
 have fin:EP X pins σ Q w s:=⟨z,H,I,rw',q⟩
 by_cases h0:0<=i
 ·have hj:i.toNat=j:=by
   rw[seqIndex_of h0 h5] at h1
   exact Au2 h1
  exact item_listR pl.isList h0 (by lia) (by rw[hj];simpa using ew) fin hs
 ·have hj:(i+(its.toArray.size:Int)).toNat=j:=by
   rw[seqIndex_neg (by lia) h4] at h1
   rw[At2,<- hl]
   exact Au2 h1
  exact subscriptTail_builtinR (x:=w) pl.isList.typeIs slot_list_getitem.lookup
   (wpAny_getItem_list_neg (Q:=fun r s'=>r=w/\EP X pins σ Q r s') pl.isList (by lia) (by rw[At2]<;>lia) (by lia) (by rw[hj];simpa using ew) ⟨rfl,fin⟩) hs
theorem ix_tup:IxR X (Asz X.K):=by
 intro value slice pins s σ H x y v u Q I rx ry h hs
 obtain⟨p,xs,i,z,rfl,rfl,hq,he,q⟩:=h
 cases rx
 obtain⟨t,rfl⟩:=ry
 obtain⟨its,r,pl,hz⟩:=I.tuple hq
 obtain⟨j,h1,h2,h3,h4,h5⟩:=Lr he
 obtain⟨w,ew,rw'⟩:=r.get h2
 have hl:=r.length
 have hn:=Of
 have fin:EP X pins σ Q w s:=⟨z,H,I,rw',q⟩
 exact subscriptTail_builtinR (x:=w) pl.typeIs slot_tuple_getitem.lookup
  (getItem_tuple (j:=j) (Q:=fun r s'=>r=w/\EP X pins σ Q r s') pl (by lia) (by lia) (by rw[At2,<- hl];exact h1) (by simpa using ew) ⟨rfl,fin⟩) hs
theorem Al3:IxR X Asy:=by
 intro value slice pins s σ H x y v u Q I rx ry h hs
 obtain⟨z,i,c,rfl,rfl,hz,he,q⟩:=h
 obtain⟨t,rfl⟩:=rx
 obtain⟨t',rfl⟩:=ry
 obtain⟨j,h1,h2,h3,h4,h5⟩:=Lr he
 have hl:z.cps.toList.length=z.length:=by simp[Str.length]
 rw[hl] at h1 h4 h5
 have hn:=Of
 exact tail_any (typeIs_str s z t) slot_str_getitem.lookup (getItem_str (c:=c) (by
  have e1:decide (i < -(2 ^ 63:Int))=false:=Auu (by lia)
  have e2:decide (i ≥ 2 ^ 63)=false:=Auu (by lia)
  rw[e1,e2,Awm]) (by rw[h1];simpa using h2) ⟨.str ⟨#[c]⟩,H,I.tok _,⟨_,rfl⟩,q⟩) hs
def rIx (K:W.Frag):R2:=fun x y H Q=>Asx K x y H Q\/Asz K x y H Q\/Asy x y H Q
theorem Al2:IxR X (rIx X.K):=ix_list.or (ix_tup.or Al3)
theorem O0 (lo hi:Option Int) (n:Nat):(sliceBounds lo hi none n).1=((HT.sIx n 0 lo:Nat):Int)/\(sliceBounds lo hi none n).2.1=((HT.sIx n n hi:Nat):Int)/\(sliceBounds lo hi none n).2.2=1:=by
 refine⟨?_,?_,rfl⟩
 ·cases lo with
  |none=>simp[sliceBounds,HT.sIx]
  |some i =>
   simp only[sliceBounds,HT.sIx,Option.getD_none,show (1:Int) > 0 by decide,Awl]
   by_cases h:i < 0
   ·simp only[h,Awl]<;>lia
   ·simp only[h,if_false]<;>lia
 ·cases hi with
  |none=>simp[sliceBounds,HT.sIx]
  |some i =>
   simp only[sliceBounds,HT.sIx,Option.getD_none,show (1:Int) > 0 by decide,Awl]
   by_cases h:i < 0
   ·simp only[h,Awl]<;>lia
   ·simp only[h,if_false]<;>lia
theorem M7 (its:List Value) (lo hi:Option Int):slicePick its.toArray lo hi none=((its.drop (HT.sIx its.length 0 lo)).take (HT.sIx its.length its.length hi - HT.sIx its.length 0 lo)).toArray:=by
 obtain⟨h1,h2,h3⟩:=O0 lo hi its.toArray.size
 unfold slicePick
 rw[h1,h2,h3]
 simp only[sliceRange_one,pick_run,At2]<;>rfl
def As0 (K:W.Frag):V->Option Int->Option Int->Hp->VK->Prop:=fun x lo hi H Q=>∃ a xs,x=.ref a/\SqL K H a xs/\∀ p,H p=none->Q (.ref p) (upd H p (.lst (Aeu xs lo hi)))
theorem Akd:SlR X (As0 X.K):=by
 intro pins s σ H x v vl vu lo hi sl Q I rx hs pl pu h
 obtain⟨a,xs,rfl,hx,q⟩:=h
 cases rx
 obtain⟨its,r,ht,hz⟩:=I.list hx
 have hlen:=r.length
 refine⟨"list",_,slot_list_getitem.lookup,ht.isList.typeIs,?_⟩
 refine wpAny_getItem_list_slice ht.isList hs pl pu .none (by simp) ?_ (by rw[At2]<;>lia)
 rw[M7,<- hlen]
 refine⟨.ref s.heap.objs.size,_,I.laid (t':=s.toks) (o:=.lst (Aeu xs lo hi)) (fun b ob q=>Atw _ q) (At3 _) ?_,rfl,q _ (I.hok.fresh (At3 _))⟩
 exact⟨Aug (Hu xs lo hi) hz,_,0,(r.drop (HT.sIx xs.length 0 lo)).take (HT.sIx xs.length xs.length hi - HT.sIx xs.length 0 lo),At9 _ rfl⟩
theorem Ls:Vx X (.type "tuple") (fun xs H Q=>∃ p ys,xs=[.ref p]/\((SqL X.K H p ys/\∀ l,H l=none->Q (.ref l) (upd H l (.tup ys)))\/(SqT X.K H p ys/\Q (.ref p) H))):=by
 intro pins s σ H xs us Q I r h
 obtain⟨p,ys,rfl,h⟩:=h
 obtain⟨u,rfl,rx⟩:=Jh r
 cases rx
 rcases h with ⟨hq,q⟩|⟨hq,q⟩
 ·obtain⟨its,r',pl,hz⟩:=I.list hq
  have hlen:=r'.length
  refine call_tuple_list pl.isList (fun h' kp=>?_) (by simp only[At2]<;>lia)
  have I1:Inv X pins σ H { s with heap:=h' }:=I.kept (t':=s.toks) kp
  have I2:Inv X pins σ (upd H h'.objs.size (.tup ys)) { s with heap:=h'.push { cls:=.type "tuple",data:=.seq its.toArray } } :=
   I1.laid (t':=s.toks) (fun b o e=>Atw _ e) (At3 _) (show ObjOk X.prog X.w X.K _ _ _ (.tup ys) from ⟨hz,its,r',TupD.new _ _⟩)
  exact⟨.ref h'.objs.size,_,I2,rfl,q _ (I1.hok.fresh (At3 _))⟩
 ·obtain⟨its,r',pl,hz⟩:=I.tuple hq
  exact call_tuple_same pl ⟨.ref p,H,I,rfl,q⟩
def tyV (K:W.Frag) (T:String) (x:V) (H:Hp):Prop:=match x with
 |.str _=>T="str"
 |.int _=>T="int"
 |.ref p=>(T="list"/\∃ xs,SqL K H p xs)\/(T="tuple"/\∃ o,K.lookup p=some o/\o.cls=.type "tuple"/\o.dict=none) \/
   (T="dict"/\((∃ kvs,H p=some (.dK kvs))\/∃ kvs,H p=some (.dT kvs)))\/(T="set"/\∃ S n,H p=some (.set S n))
 |_=>False
theorem Abe {pins:List (Addr×Obj)}{σ:St}{H:Hp}{s:Shared}{T:String}{x:V}{v:Value} (I:Inv X pins σ H s) (r:RelV x v) (ty:tyV X.K T x H) :
  s.TypeIs v T/\∀ a,v=.ref a->∃ ob,s.heap.get? a=some ob/\ob.dict=none:=by
 cases x with
 |str z =>
  obtain⟨t,rfl⟩:=r
  cases (show T="str" from ty)
  exact⟨typeIs_str s z t,fun _ e=>nomatch e⟩
 |int i =>
  obtain⟨t,rfl⟩:=r
  cases (show T="int" from ty)
  exact⟨typeIs_int s i t,fun _ e=>nomatch e⟩
 |ref p =>
  cases r
  rcases ty with ⟨rfl,xs,hq⟩|⟨rfl,o,hk,hc,hd⟩|⟨rfl,hk⟩|⟨rfl,S,n,hk⟩
  ·obtain⟨its,_,pl,_⟩:=I.list hq
   refine⟨pl.isList.typeIs,fun a e=>?_⟩
   cases e
   obtain⟨o,n,e,c,hd,_⟩:=pl
   exact⟨o,e,hd⟩
  ·refine⟨⟨o,I.kIn p o hk,hc⟩,fun a e=>?_⟩
   cases e
   exact⟨o,I.kIn _ o hk,hd⟩
  ·have z:∃ o,s.heap.get? p=some o/\o.ExactDict:=by
    rcases hk with ⟨kvs,hk⟩|⟨kvs,hk⟩
    ·obtain⟨_,_,_,_,o,_,_,e,ex,_⟩:=I.hok p _ hk
     exact⟨o,e,ex⟩
    ·obtain⟨_,_,_,_,o,_,_,e,ex,_⟩:=I.hok p _ hk
     exact⟨o,e,ex⟩
   obtain⟨o,e,ex⟩:=z
   refine⟨⟨o,e,ex.1⟩,fun a e2=>?_⟩
   cases e2
   exact⟨o,e,ex.2.1⟩
  ·obtain⟨o,_,_,_,e,ex,_⟩:=I.hok p _ hk
   refine⟨⟨o,e,ex.1⟩,fun a e2=>?_⟩
   cases e2
   exact⟨o,e,ex.2.1⟩
 |_=>exact False.elim ty
noncomputable def Atl (K:W.Frag) (T:String) (r:V->List V->Hp->VK->Prop) (to:TE):TE:=fun σ H Q=>to σ H fun x H1=>tyV K T x H1/\r x [] H1 Q
noncomputable def tBM (K:W.Frag) (T:String) (r:V->List V->Hp->VK->Prop) (to:TE) (t:TA):TE:=fun σ H Q=>to σ H fun x H1=>tyV K T x H1/\t σ H1 fun xs H2=>r x xs H2 Q
variable {o e:Expr}{es:List Expr}{to:TE}{t:TA}{name:Str}{apos cpos:Pos}{T id:String}{r:V->List V->Hp->VK->Prop}
theorem Anj (pa:PlainAttrs T) (slot:Slot T name id) (hty:typeOf (.builtin id)=pure (.type "method_descriptor")) (hm:MtR X id r) (ho:PE X o to)
  (hbase:attributeBase o name X.env (eval o X.env)=eval o X.env:=by rfl) (hline:(apos.endLine == cpos.line)=true:=by rfl):PE X (.Call (.Attribute o name apos) [] [] cpos) (Atl X.K T r to):=by
 intro pins s σ H Q I h
 refine wpAny_Call_method0_late hbase hline (thn (ho pins s σ H _ I h) fun v s1 ⟨x,H1,I1,r1,ty,q1⟩=>?_)
 obtain⟨h1,h2⟩:=Abe I1 r1 ty
 exact⟨T,id,pa,slot,hty,h1,h2,Calls.callWith_builtin rfl (PySem.evalArgs_none (hm pins s1 σ H1 x [] v [] Q I1 r1 .nil q1))⟩
theorem Ary (pa:PlainAttrs T) (slot:Slot T name id) (hty:typeOf (.builtin id)=pure (.type "method_descriptor")) (hm:MtR X id r) (ho:PE X o to) (ha:PA X (e::es) t)
  (hbase:attributeBase o name X.env (eval o X.env)=eval o X.env:=by rfl)
  (hfew:((backTo cpos (starEach (e::es) X.env)).all (fun x=>!x.1)&&(backToKw cpos (keywordEach [] X.env)).all (fun x=>x.1.isSome)
   &&decide ((e::es).length+([]:List Keyword).length+(if ([]:List Keyword).isEmpty then 0 else 1) < 30))=true:=by rfl)
  (hline:(apos.endLine == cpos.line)=true:=by rfl) (hs:starEach (e::es) X.env=(false,eval e X.env)::starEach es X.env:=by rfl) (hplain:(backTo cpos (starEach es X.env)).any (·.1)=false:=by rfl) :
  PE X (.Call (.Attribute o name apos) (e::es) [] cpos) (tBM X.K T r to t):=by
 intro pins s σ H Q I h
 refine wpAny_Call_method_late hbase hfew hline rfl (thn (ho pins s σ H _ I h) fun v s1 ⟨x,H1,I1,r1,ty,q1⟩=>?_)
 obtain⟨h1,h2⟩:=Abe I1 r1 ty
 refine⟨T,id,pa,slot,hty,h1,h2,?_⟩
 have hA:=ha cpos pins s1 σ H1 _ I1 q1
 rw[hs] at hA ⊢
 refine Calls.callWith_builtin (by show (false||(backTo cpos (starEach es X.env)).any (·.1))=false;rw[hplain]<;>rfl) (Calls.evalArgs_plain ?_)
 exact thn hA fun us s2 ⟨vs,H2,I2,r2,q2⟩=>hm pins s2 σ H2 x vs v us Q I2 r1 r2 q2
end
def MtM (X:Cx) (id:String) (r:V->List V->Hp->VK->Prop):Prop :=
 ∀ (pins:List (Addr×Obj)) (s:Shared) (σ:St) (H:Hp) (x:V) (xs:List V) (v:Value) (us:List Value) (Q:VK),Inv X pins σ H s->RelV x v->Vals xs us->r x xs H Q ->
  wpAny (model X.prog X.w) X.A (call (.builtin id) (v::us)) (EP X pins σ Q) X.xe s
theorem Vals.one:∀ {x:V}{us:List Value},Vals [x] us->∃ u,us=[u]/\RelV x u
 |_,_,.cons r .nil=>⟨_,rfl,r⟩
theorem Vals.zero:∀ {us:List Value},Vals [] us->us=[]
 |_,.nil=>rfl
theorem Vals.reverse {xs:List V}{us:List Value} (h:Vals xs us):Vals xs.reverse us.reverse:=by
 induction h with
 |nil=>exact .nil
 |cons r t ih=>rw[Awk,Awk];exact Vals.append ih (.cons r .nil)
section
variable {X:Cx}{pins:List (Addr×Obj)}{σ:St}{H:Hp}{s:Shared}{l b:Addr}{xs ys zs:List V}
theorem Inv.lset {its its':List Value}{n:Nat}{f:Array Value->Array Value}{t':Nat} (I:Inv X pins σ H s) (hH:H l=some (.lst xs))
  (e:s.heap.get? l=some { cls:=.type "list",data:=.seq its.toArray n }) (hf:f its.toArray=its'.toArray) (hv:Vals ys its') (hz:ys.length<=sizeLine) :
  Inv X pins σ (upd H l (.lst ys)) { s with heap:=s.heap.update l (Obj.mapSeq f),toks:=t' }:=by
 have q:=PySem.IsL.update e f
 rw[hf] at q
 refine I.write (x:=l) (e:=l) (by rw[hH];exact trivial) (.inl rfl) (fun b' u hb hu=>(Aum s.heap (Obj.mapSeq f) (Avn hb)).trans hu) ⟨_,q⟩ ?_
 exact⟨hz,its',_,hv,q⟩
theorem Inv.lnew {its:List Value}{t':Nat} (I:Inv X pins σ H s) (hv:Vals ys its) (hz:ys.length<=sizeLine) :
  Inv X pins σ (upd H s.heap.objs.size (.lst ys)) { s with heap:=s.heap.push { cls:=.type "list",data:=.seq its.toArray },toks:=t' } :=
 I.laid (fun _ _ q=>Atw _ q) (At3 _) ⟨hz,its,0,hv,At9 _ rfl⟩
theorem Inv.fresh (I:Inv X pins σ H s):H s.heap.objs.size=none:=I.hok.fresh (At3 _)
inductive LstM (h:Heap) (l:Addr) (xs:List V):Prop where
 |mk (z:xs.length<=sizeLine) (its:List Value) (n:Nat) (r:Vals xs its) (q:xs.length=its.length) (e:h.get? l=some { cls:=.type "list",data:=.seq its.toArray n })
theorem Inv.lstM (I:Inv X pins σ H s) (hH:H l=some (.lst xs)):LstM s.heap l xs:=by
 obtain⟨z,its,n,r,e⟩:=I.hok l _ hH
 exact⟨z,its,n,r,r.length,e⟩
theorem Ac2 {n:Nat} (h:n<=sizeLine):Builtin.List.listTooLong n=false:=by
 unfold Builtin.List.listTooLong
 exact Auu (by lia)
end
section
variable {X:Cx}
def Aaz:V->List V->Hp->VK->Prop:=fun x vs H Q=>∃ l xs y,x=.ref l/\vs=[y]/\H l=some (.lst xs)/\xs.length < sizeLine/\Q .non (upd H l (.lst (xs++[y])))
theorem Zn:MtM X "list.append" Aaz:=by
 intro pins s σ H x vs v us Q I rx rv h
 obtain⟨l,xs,y,rfl,rfl,hH,hz,q⟩:=h
 cases rx
 obtain⟨u,rfl,ru⟩:=rv.one
 obtain⟨z,its,n,r,hl,e⟩:=I.lstM hH
 refine Awp F.slot_list_append ⟨_,e,rfl⟩ F.entry_list_append (F.args_list_append_2 _ _) (PySem.list_append l its.toArray n u (by rw[At2];lia)) ⟨e,?_⟩
 refine⟨.non,_,I.lset (its':=its++[u]) hH e (by simp) (r.append (.cons ru .nil)) ?_,rfl,q⟩
 rw[Aui,Avq]
 lia
def Ud:V->List V->Hp->VK->Prop:=fun x vs H Q=>∃ l xs,x=.ref l/\vs=[]/\H l=some (.lst xs)/\Q .non (upd H l (.lst xs.reverse))
theorem U7:MtM X "list.reverse" Ud:=by
 intro pins s σ H x vs v us Q I rx rv h
 obtain⟨l,xs,rfl,rfl,hH,q⟩:=h
 cases rx
 have hus:=rv.zero
 subst hus
 obtain⟨z,its,n,r,hl,e⟩:=I.lstM hH
 refine Awp F.slot_list_reverse ⟨_,e,rfl⟩ F.entry_list_reverse (F.args_list_reverse_1 _) (AutoSeq1.list_reverse_list_0 l its.toArray n (by rw[At2];lia)) ⟨e,?_⟩
 refine⟨.non,_,I.lset (its':=its.reverse) hH e (by simp) r.reverse ?_,rfl,q⟩
 rw[List.length_reverse]
 lia
end
section
variable {prog:Program}{w:World}{A:Around}{E:Value->Shared->Prop}{s:Shared}
set_option maxRecDepth 100000 in
end
section
variable {X:Cx}
end
end L2
namespace Att
open PySem PySem.W PySem.Calls PyProof.Rows
theorem H9 {P:Params}{h:Heap}:∀ (ns:List Int) (vs:List Value),WellAll P h vs (ns.map WData.int)->IntsAre vs ns:=by
 intro ns
 induction ns with
 |nil =>
  intro vs w
  rw[Avm] at w
  cases w
  exact .nil
 |cons n ns ih =>
  intro vs w
  rw[At5] at w
  cases w with
  |cons a b =>
   cases a
   exact .cons _ _ (ih _ b)
theorem Aa4 {l:OpenLaw}{n:Nat} (hn:l.most=some n) {P:Params}{h:Heap}{args:List WData}{vals:List Value}
  (hpre:l.row.toRowW.claim.pre args=true) (hwl:WellAll P h vals args) :
  ∃ a vs ns,vals=[Value.ref a]/\args=[WData.list (ns.map WData.int)]/\h.get? a=some { cls:=.type "list",data:=.seq vs.toArray }/\IntsAre vs ns/\ns.length<=n:=by
 have hsh:WShape.hasAll [] args [.list .int]=true:=(pre_splitW hpre).1
 have hc:l.pre.holds [] { args:=args }=true:=(pre_splitW hpre).2
 obtain⟨d,r,rfl,h1,h2⟩:=hasAllW_cons hsh
 obtain rfl:=hasAllW_nil h2
 obtain⟨xs,rfl,h3⟩:=hasW_list h1
 obtain⟨ns,rfl⟩:=items_int h3
 have hlen:ns.length<=n:=by
  unfold OpenLaw.pre at hc
  have h4:(WTm.not (.lt (.lit (.int (n:Int))) (.len (.arg 0)))).holds [] { args:=[.list (ns.map .int)] }=true:=by
   have h4:=(holds_andW hc).1
   rw[hn] at h4
   exact h4
  have h5:=condW_of h4 (w_not (w_lt w_lit (w_len_list (w_arg rfl))))
  rw[Aud] at h5
  refine Nat.le_of_not_lt fun q=>?_
  have q':(n:Int) < ((ns.length:Nat):Int):=by lia
  first
   |(rw[Au7 q'] at h5;exact absurd h5 (by decide))
   |(simp at h5;lia)
 cases hwl with
 |cons w1 w2 =>
  cases w2
  cases w1 with
  |list ho hall=>exact⟨_,_,ns,rfl,rfl,ho,H9 ns _ hall,hlen⟩
theorem Aak (l:OpenLaw) (args:List WData):l.row.toRowW.claim.post args (.bool true) args=true :=
 postW_of (r:=l.row.toRowW) (X:=(true == true))
  (show WShape.has [] (.bool true) .bool=true by first|rfl|decide|simp[WShape.has,WShape.arms,WShape.armsAll])
  (show (WTm.eq .res (.lit (.bool true))).value [] { args:=args,res:=some (.bool true),after:=args }=some (.bool (true == true)) from w_eq_bool (w_res rfl) w_lit) rfl
theorem attach_call {l:OpenLaw}{n:Nat}{q:Program}{loose:List Str}{XP:(Str->Option Value)->Heap->Prop}{YP:World->Heap->Prop}{d:DefRec}
  (hn:l.most=some n) (hdf:d.params.defaults=[])
  (call:∀ (w:World) (s₀ s₁:Shared) (mg mb:Str->Option Value) (fa:Addr) (o:Obj) (pm cd doc:Value) (a:Addr) (vs:List Value) (ns:List Int),
   Ground q loose [] XP w s₀ mg mb s₁.heap->YP w s₁.heap ->
   s₁.heap.get? fa=some o->o.data=.func (docDef d.name d.params d.body d.scope pm cd doc)->s₁.heap.CodeRec cd d.name->mg d.name=some (.ref fa) ->
   s₁.heap.get? a=some { cls:=.type "list",data:=.seq vs.toArray }->IntsAre vs ns->ns.length<=n->s₁.gens=#[] ->
   codeAny (model l.prog w) callerA (.call (.ref fa) ⟨[.ref a],[]⟩) (fun r s'=>r=.ok (.ret (.bool true))/\OldK s₁.heap s'.heap/\s'.os=s₁.os/\AllBare s'.gens) s₁) :
  WalkO q loose XP YP l.row.toRowW d [] (fun f vs=>PySem.call f vs):=by
 intro w s₀ s₁ mg mb G Y fa o pm cd doc dV kV ho hd hcd hD hmg hg args vals as hpre hlay hrd hwl hlo
 obtain rfl:dV=.none:=Dflts.none hD hdf
 obtain rfl:kV=.none:=Dflts.noKw hD
 obtain⟨a,vs,ns,rfl,rfl,hobj,hints,hlen⟩:=Aa4 hn hpre hwl
 refine enter_call (codeAny_mono (call w s₀ s₁ mg mb fa o pm cd doc a vs ns G Y ho (fd_plain hd) hcd hmg hobj hints hlen hg) fun r s' hq=>?_)
 obtain⟨rfl,h2,h3,h4⟩:=hq
 exact⟨.inl ⟨.bool true,.bool true,[],rfl,fun _=>rfl,.bool true,Aak l _,fun _=>⟨List.Pairwise.nil,fun _ hm=>(nomatch hm)⟩⟩,h2,h3,h4⟩
section
variable {prog:Program}{w:World}{A:Around}{E:Value->Shared->Prop}{s:Shared}{K:Frag}
end
end Att
namespace L2
open PySem PySem.Spec PyProof.Rows
theorem O8:∀ {vs:List Value}{ns:List Int},IntsAre vs ns->Vals (ns.map V.int) vs
 |_,_,.nil=>.nil
 |_,_,.cons n t h=>.cons ⟨t,rfl⟩ (O8 h)
def Apf (H:Hp):Prop:=∀ b,H b=none\/∃ o xs,H b=some (.frz o (.lst xs))
theorem Acq {P:Program}{w:World}{K:W.Frag}{mg mb:Str->Option Value}{CX:CXT}{k:Nat}{fa a:Addr}{fd:FuncData}{x:Str}{sp:Sp}{s₁:Shared}{vs:List Value}{ns:List Int}
  (KX:K.In s₁.heap) (hns:s₁.heap.Ns mainGlobals mg) (hb:s₁.heap.Ns builtinsNs mb) (hbb:∀ x:Str,x≠"__name__"->mb x=bootBuiltins x) (hlim:s₁.heap.NoLimit) (hg:s₁.gens=#[])
  (ha:s₁.heap.get? a=some { cls:=.type "list",data:=.seq vs.toArray }) (hi:IntsAre vs ns) (hl:ns.length<=sizeLine) (hr:Room k callerA)
  (F:∀ base:Heap,K.In base->base.Ns mainGlobals mg->FnOk P w K mg base CX k fa fd [x] sp) (hbind:∀ (s:Shared) (u:Value),BindsTo s fd ⟨[u],[]⟩ [(x,u)])
  (hsp:∀ H:Hp,Apf H->SqL K H a (ns.map V.int)->sp [.ref a] H (fun v _=>v=.bl true) fun _ _ _=>False)
  (hCX:∀ H e s',CX [] H s₁ (fun _ _ _=>False) e s'->False) :
  codeAny (model P w) callerA (.call (.ref fa) ⟨[.ref a],[]⟩) (fun r s'=>r=.ok (.ret (.bool true))/\OldK s₁.heap s'.heap/\s'.os=s₁.os/\AllBare s'.gens) s₁:=by
 have rv:=O8 hi
 have lenV:=hi.length
 -- from an abstract heap in which nothing but the script may be tracked
 have core:∀ H:Hp,Apf H->SqL K H a (ns.map V.int)->HOk P w K H s₁.heap->(∀ b,H b≠none->b=a)->(H a≠none->K.lookup a=none) ->
   codeAny (model P w) callerA (.call (.ref fa) ⟨[.ref a],[]⟩) (fun r s'=>r=.ok (.ret (.bool true))/\OldK s₁.heap s'.heap/\s'.os=s₁.os/\AllBare s'.gens) s₁:=by
  intro H hO hS hok hA hK
  have base_of:∀ {b:Addr}{o:Obj},s₁.heap.get? b=some o->H b=none->(Acl s₁.heap H).get? b=some o:=fun e n=>Acm e n
  have noA:∀ {b:Addr}{o:Obj}{es:Array DictEntry}{ep:Nat},s₁.heap.get? b=some o->o.data=.dict es ep->H b=none:=fun {b o es ep} e d=>by
   cases q:H b with
   |none=>rfl
   |some u =>
    have e':b=a:=hA b (by rw[q];simp)
    subst e'
    rw[ha] at e;cases e
    have d':Data.seq vs.toArray _=Data.dict es ep:=d
    cases d'
  have nsK:∀ {b:Addr}{m:Str->Option Value},s₁.heap.Ns b m->(Acl s₁.heap H).Ns b m:=fun {b m} ⟨o,es,ep,e,d,r⟩=>⟨o,es,ep,base_of e (noA e d),d,r⟩
  have hKb:K.In (Acl s₁.heap H):=fun b o e=>base_of (KX b o e) (by
   cases q:H b with
   |none=>rfl
   |some u =>
    have e':b=a:=hA b (by rw[q];simp)
    subst e'
    rw[hK (by rw[q];simp)] at e;cases e)
  have hM:Mod K mg (Acl s₁.heap H):=⟨hKb,nsK hns,⟨mb,nsK hb,hbb⟩,let ⟨mc,h1,h2⟩:=hlim;⟨mc,nsK h1,h2⟩⟩
  have e0:Env0 P w K mg (Acl s₁.heap H) callerA [] s₁ H:=⟨rfl,hM,fun b o e=>Aiw e,Nat.le_of_eq (Yy _ _),trivial,fun b hb=>absurd (show b∈([]:List Addr) from hb) (by simp),hok,.of_eq hg⟩
  refine codeAny_mono ((F _ hKb (nsK hns)).run callerA [] s₁ H ⟨[.ref a],[]⟩ [.ref a] [.ref a] _ _ hr e0 (hbind s₁ (.ref a)) (.cons rfl .nil) (hsp H hO hS)) fun r s' h=>?_
  cases r with
  |error e=>exact (hCX H e s' h).elim
  |ok fl =>
   cases fl with
   |next=>exact False.elim h
   |brk=>exact False.elim h
   |cont=>exact False.elim h
   |ret u =>
    obtain⟨v,H',os,bare,un,hok',r',q⟩:=h
    have q':v=.bl true:=q
    subst q'
    obtain rfl:u=Value.bool true:=r'
    refine⟨rfl,OldK.of_keep fun b o e=>?_,os,bare⟩
    cases q:H b with
    |none=>exact un.keep b o e q (by intro z;exact absurd (show b∈([]:List Addr) from z) (by simp)) (by simp)
    |some u =>
     rcases hO b with z|⟨ob,xs,z⟩
     ·rw[q] at z;cases z
     ·have z2:=un.frzs b ob _ z
      obtain⟨e1,_⟩:=hok b _ z
      obtain⟨e2,_⟩:=hok' b _ z2
      rw[e] at e1;cases e1
      exact e2
 cases hk:K.lookup a with
 |some o =>
  -- the script is one of the module's own objects
  have e:=KX a o hk
  rw[ha] at e
  cases e
  refine core (fun _=>none) (fun _=>.inl rfl) (.inr ⟨_,vs.toArray,_,hk,rfl,rfl,rfl,by rw[At2,lenV];exact hl,by simpa using rv⟩) (fun b u z=>by have z':(none:Option HO)=some u:=z;cases z') (fun b z=>absurd rfl z) fun z=>absurd rfl z
 |none =>
  refine core (fun b=>if b=a then some (.frz { cls:=.type "list",data:=.seq vs.toArray } (.lst (ns.map V.int))) else none) (fun b=>?_) (.inl (.inr ⟨{ cls:=.type "list",data:=.seq vs.toArray },At4 rfl⟩)) (fun b u z=>?_) (fun b z=>?_) fun _=>hk
  ·by_cases hb:b=a
   ·exact .inr ⟨_,_,At4 hb⟩
   ·exact .inl (At8 hb)
  ·by_cases hb:b=a
   ·have z':=(At4 hb).symm.trans z
    cases z'
    subst hb
    exact⟨ha,by rw[Aud];exact hl,vs,_,rv,ha⟩
   ·have z':=(At8 hb).symm.trans z
    cases z'
  ·by_cases hb:b=a
   ·exact hb
   ·exact absurd (At8 hb) z
theorem walk_of {l:W.OpenLaw}{n k:Nat}{q:Program}{loose:List Str}{XP:(Str->Option Value)->Heap->Prop}{YP:World->Heap->Prop}{d:DefRec}{K:Params->W.Frag}{CX:World->CXT}{sp:World->Sp}{x:Str}
  (hn:l.most=some n) (hn2:n<=sizeLine) (hdf:d.params.defaults=[]) (hr:Room k callerA)
  (hY:∀ (w:World) (h:Heap),YP w h->(K w.params).In h)
  (F:∀ (w:World) (mg:Str->Option Value) (fa:Addr) (h:Heap),(K w.params).In h->h.Ns mainGlobals mg->mg d.name=some (.ref fa) ->
   ∃ fd:FuncData,(∀ (s:Shared) (u:Value),BindsTo s fd ⟨[u],[]⟩ [(x,u)]) /\
    ∀ base:Heap,(K w.params).In base->base.Ns mainGlobals mg->FnOk l.prog w (K w.params) mg base (CX w) k fa fd [x] (sp w))
  (hsp:∀ (w:World) (H:Hp) (a:Addr) (ns:List Int),ns.length<=n->Apf H->SqL (K w.params) H a (ns.map V.int)->sp w [.ref a] H (fun v _=>v=.bl true) fun _ _ _=>False)
  (hCX:∀ (w:World) (H:Hp) (s:Shared) (e:Value) (s':Shared),CX w [] H s (fun _ _ _=>False) e s'->False) :
  W.WalkO q loose XP YP l.row.toRowW d [] (fun f vs=>PySem.call f vs):=by
 refine Att.attach_call hn hdf fun w s₀ s₁ mg mb fa o pm cd doc a vs ns G Y ho hd hcd hmg hobj hints hlen hg=>?_
 have KX:=hY w _ Y
 obtain⟨fd,hb,hF⟩:=F w mg fa _ KX G.T.g hmg
 exact Acq KX G.T.g G.T.b G.T.builtins G.T.nolimit hg hobj hints (Aug hlen hn2) hr hF hb (fun H hO hS=>hsp w H a ns hlen hO hS) fun H e s'=>hCX w H s₁ e s'
noncomputable def El (s:Stmt):Arguments:=match s with
 |.FunctionDef _ a _ _ _ _ _ _ _ _=>a
 |_=>{ posonlyargs:=[],args:=[],vararg:=none,kwonlyargs:=[],kw_defaults:=[],kwarg:=none,defaults:=[] }
noncomputable def Cm (s:Stmt):List Stmt:=match s with
 |.FunctionDef _ _ b _ _ _ _ _ _ _=>b
 |_=>[]
noncomputable def Ar (s:Stmt):Scope:=match s with
 |.FunctionDef _ _ _ _ _ _ sc _ _ _=>sc
 |_=>{ kind:=.function,names:=[],isGenerator:=false,isCoroutine:=false }
abbrev CX0:CXT:=fun _ _ _ _ _ _=>False
abbrev E0:XK:=fun _ _ _=>False
theorem Aaa {X:Cx}:Nj CX0 X E0:=fun _ _ _ _ _ _ _ h=>h.elim
structure Fun (K:W.Frag) (x qual:Str) (st:Stmt) (f:Addr) (fd:FuncData):Prop where
 ex:∃ (oc:Value) (od:Option Addr) (kV doc pm:Value) (an:Option Addr) (cdv ct:Value) (osl:Array (Option Value)),
  fd=W.fnOf x qual (El st) (Cm st) (Ar st) .none kV doc pm an cdv ct/\K.lookup f=some ⟨oc,od,.func fd,osl⟩/\W.codeIn K cdv qual=true
 kp:W.keepIn K (.ref f)=true
section
variable {P:Program}{w:World}{K:W.Frag}{mg:Str->Option Value}{base:Heap}
theorem Fun.ok {x qual:Str}{st:Stmt}{f:Addr}{fd:FuncData}{N ps:List Str}{k:Nat}{sp:Sp} (F:Fun K x qual st f fd) (S:FnScope N ps (Ar st)) (len:∀ vs H Q E,sp vs H Q E->vs.length=ps.length)
  (hbody:∀ (cdv:Value) (A:Around) (outer:List Env) (s:Shared) (H:Hp) (vs:List V) (Q:VK) (E:XK),Room k (A.deeper (envOfC qual (Ar st) s.heap.objs.size f cdv))->sp vs H Q E ->
   ∃ t,PSs (Hc CX0 P w K mg base N qual (Ar st) f cdv A outer s H E).nox (Cm st) t/\t { nx:=fun _ H'=>Q .non H',rt:=Q } (Jd N vs) H):FnOk P w K mg base CX0 (k+1) f fd ps sp:=by
 obtain⟨oc,od,kV,doc,pm,an,cdv,ct,osl,rfl,lk,hcd⟩:=F.ex
 refine Alz lk hcd S len fun A outer s H vs Q E hr hsp=>?_
 obtain⟨t,h,q⟩:=hbody cdv A outer s H vs Q E hr hsp
 exact⟨t,h.nox,q⟩
theorem Fun.binds {x qual:Str}{st:Stmt}{f:Addr}{fd:FuncData}{ps:List Str} (F:Fun K x qual st f fd)
  (h:∀ (kV doc pm:Value) (an:Option Addr) (cdv ct:Value) (us:List Value),us.length=ps.length->bindArgs (W.fnOf x qual (El st) (Cm st) (Ar st) .none kV doc pm an cdv ct) ⟨us,[]⟩=pure (ps.zip us)):Binds K fd ps []:=by
 obtain⟨oc,od,kV,doc,pm,an,cdv,ct,osl,rfl,lk,hcd⟩:=F.ex
 exact .all (h kV doc pm an cdv ct)
theorem Ae3 {x qual:Str}{st:Stmt}{f:Addr}{oc:Value}{od an:Option Addr}{osl:Array (Option Value)}{kV doc pm cdv ct:Value} (l:K.lookup f=some ⟨oc,od,.func (W.fnOf x qual (El st) (Cm st) (Ar st) .none kV doc pm an cdv ct),osl⟩)
  (c:W.codeIn K cdv qual=true) (k:W.keepIn K (.ref f)=true):Fun K x qual st f (W.fnOf x qual (El st) (Cm st) (Ar st) .none kV doc pm an cdv ct):=⟨⟨oc,od,kV,doc,pm,an,cdv,ct,osl,rfl,l,c⟩,k⟩
end
section
variable {X:Cx}
end
theorem Aq8 {A B:Prop} (h:B):if false=true then A else B:=by
 rw[At8 Auo]
 exact h
theorem Aq9 {A B:Prop} (h:A):if true=true then A else B:=by
 rw[At4 rfl]
 exact h
def Same (H H':Hp):Prop:=∀ b o,H b=some o->H' b=some o
theorem Same.refl (H:Hp):Same H H:=fun _ _ h=>h
theorem Same.trans {H H1 H2:Hp} (a:Same H H1) (b:Same H1 H2):Same H H2:=fun c o h=>b c o (a c o h)
theorem Same.free {H H':Hp} (e:Same H H') {l:Addr} (h:H' l=Option.none):H l=Option.none:=by
 cases q:H l with
 |none=>rfl
 |some o =>
  rw[e l o q] at h
  cases h
end L2
end S_LayL
section S_ML1
namespace L2
namespace ML
open PySem PySem.Spec PyProof.Rows
theorem Ah {z:α}{P:Prop} (e:none=some z):P:=nomatch e
theorem Ct {P:Prop} (e:false=true):P:=nomatch e
structure Lam where
 qual:Str
 args:Arguments
 body:Expr
 scope:Scope
abbrev Fz:=List Str->List PyData->List Int->W.Frag->Hp->Addr->HO->Prop
inductive D where
 |non|bl (b:Bool)|int (i:Int)|str (x:Str)|tup (ds:List D)|lst (ds:List D)|ref (n:Nat)|kl (ds:List D)|dic (ks vs:List D)|fn (i:Nat) (l:Lam)|dks (ks:List Str) (vs:List D)|fz (φ:Fz) (ss:List Str) (ps:List PyData) (is:List Int)
inductive MObj where
 |lst (ds:List D)
 |dct (ks vs:List D)
 |dcs (ks:List Str) (vs:List D)
abbrev MH:=List MObj
abbrev A0:=List (Option D)
mutual
def pyD:D->PyData
 |.non=>.none|.bl b=>.bool b|.int i=>.int i|.str x=>.str x
 |.tup ds=>.tuple (Iy ds)|.lst ds=>.list (Iy ds)|.kl ds=>.list (Iy ds)|.ref _=>.none|.dic _ _=>.none|.fn _ _=>.none|.dks _ _=>.none|.fz _ _ _ _=>.none
def Iy:List D->List PyData
 |[]=>[]
 |d::ds=>pyD d::Iy ds
end
def KL (K:W.Frag) (H:Hp) (a:Addr) (xs:List V):Prop:=(∃ o,H a=some (.frz o (.lst xs))) \/
 ∃ (o:Obj) (its:Array Value) (n:Nat),K.lookup a=some o/\o.cls=.type "list"/\o.dict=none/\o.data=.seq its n/\its.size<=sizeLine/\Vals xs its.toList
theorem KL.sq {K:W.Frag}{H:Hp}{a:Addr}{xs:List V} (h:KL K H a xs):SqL K H a xs:=h.elim (fun z=>.inl (.inr z)) .inr
noncomputable def Lk:HO->Prop
 |.lst _=>True
 |.dT _=>True
 |.dK _=>True
 |_=>False
noncomputable def Kpt:HO->Prop
 |.tup _=>True
 |.frz _ _=>True
 |_=>False
def Apc (o:Obj) (l:Lam) (c:Addr):Prop:=∃ doc pm ctv:Value,o=W.kdv_obj "<lambda>" l.qual l.args (.expr l.body) l.scope [] .none doc pm c ctv
def FnAt (H:Hp) (a:Addr) (l:Lam):Prop:=∃ o u c oc u',H a=some (.frz o u)/\Apc o l c/\H c=some (.frz oc u')/\Aeh oc l.qual
def FnK (K:W.Frag) (H:Hp) (a:Addr) (i:Nat) (l:Lam):Prop:=(i < 1000/\FnAt H a l)\/(1000<=i/\W.nsIn K mainGlobals l.qual=some (some (.ref a)))
def FzM (φ:Fz):Prop:=∀ ss ps is K H H' a o,(∀ a o,Kpt o->H a=some o->H' a=some o)->φ ss ps is K H a o->φ ss ps is K H' a o
mutual
inductive Rep (K:W.Frag) (H:Hp) (μ:List Addr) (B:Addr->Prop):D->V->Prop where
 |non:Rep K H μ B .non .non
 |bl (b:Bool):Rep K H μ B (.bl b) (.bl b)
 |int (i:Int):Rep K H μ B (.int i) (.int i)
 |str (x:Str):PyData.strOk x=true->Rep K H μ B (.str x) (.str x)
 |tup {ds:List D}{a:Addr}{xs:List V}:SqT K H a xs->Reps K H μ B ds xs->Rep K H μ B (.tup ds) (.ref a)
 |lst {ds:List D}{a:Addr}{xs:List V}:Rd H a (.lst xs)->¬ B a->Reps K H μ B ds xs->Rep K H μ B (.lst ds) (.ref a)
 |ref {n:Nat}{a:Addr}:μ[n]?=some a->Rep K H μ B (.ref n) (.ref a)
 |kl {ds:List D}{a:Addr}{xs:List V}:KL K H a xs->Reps K H μ B ds xs->Rep K H μ B (.kl ds) (.ref a)
 |dic {ks vs:List D}{a:Addr}{kvs:List (PyData×V)}:Rd H a (.dT kvs)->¬ B a->Iy ks=kvs.map (·.1)->Reps K H μ B vs (kvs.map (·.2))->Rep K H μ B (.dic ks vs) (.ref a)
 |fn {i:Nat}{l:Lam}{a:Addr}:FnK K H a i l->Rep K H μ B (.fn i l) (.ref a)
 |dks {ks:List Str}{vs:List D}{a:Addr}{kvs:List (Key×V)}:Rd H a (.dK kvs)->¬ B a->ks.map Sum.inr=kvs.map (·.1)->Reps K H μ B vs (kvs.map (·.2))->Rep K H μ B (.dks ks vs) (.ref a)
 |fz {φ:Fz}{ss:List Str}{ps:List PyData}{is:List Int}{a:Addr}{o:Obj}{u:HO}:H a=some (.frz o u)->φ ss ps is K H a (.frz o u)->FzM φ->Rep K H μ B (.fz φ ss ps is) (.ref a)
inductive Reps (K:W.Frag) (H:Hp) (μ:List Addr) (B:Addr->Prop):List D->List V->Prop where
 |nil:Reps K H μ B [] []
 |cons {d:D}{v:V}{ds:List D}{vs:List V}:Rep K H μ B d v->Reps K H μ B ds vs->Reps K H μ B (d::ds) (v::vs)
end
section
variable {K:W.Frag}{H H':Hp}{μ μ':List Addr}{B B':Addr->Prop}
theorem SqT.up (hk:∀ a o,Kpt o->H a=some o->H' a=some o) (h:SqT K H a xs):SqT K H' a xs:=by
 rcases h with (h|⟨o,h⟩)|h
 ·exact .inl (.inl (hk _ _ trivial h))
 ·exact .inl (.inr ⟨o,hk _ _ trivial h⟩)
 ·exact .inr h
theorem FnAt.up (hk:∀ a o,Kpt o->H a=some o->H' a=some o) {l:Lam} (h:FnAt H a l):FnAt H' a l :=
 let ⟨o,u,c,oc,u',h1,h2,h3,h4⟩:=h;⟨o,u,c,oc,u',hk _ _ trivial h1,h2,hk _ _ trivial h3,h4⟩
theorem FnK.up (hk:∀ a o,Kpt o->H a=some o->H' a=some o) {l:Lam} (h:FnK K H a i l):FnK K H' a i l:=h.imp (fun⟨h1,h2⟩=>⟨h1,h2.up hk⟩) id
theorem KL.up (hk:∀ a o,Kpt o->H a=some o->H' a=some o) (h:KL K H a xs):KL K H' a xs:=by
 rcases h with ⟨o,h⟩|h
 ·exact .inl ⟨o,hk _ _ trivial h⟩
 ·exact .inr h
mutual
theorem Rep.up (hk:∀ a o,Kpt o->H a=some o->H' a=some o) (hl:∀ a u,Lk u->Rd H a u->¬ B a->Rd H' a u/\¬ B' a) (hm:∀ (n:Nat) (a:Addr),μ[n]?=some a->μ'[n]?=some a)
  {d:D}{v:V} (r:Rep K H μ B d v):Rep K H' μ' B' d v:=by
 cases r with
 |non=>exact .non
 |bl b=>exact .bl b
 |int b=>exact .int b
 |str b h=>exact .str b h
 |tup h r=>exact .tup (SqT.up hk h) (Reps.up hk hl hm r)
 |lst h b r=>have z:=hl _ (.lst _) trivial h b;exact .lst z.1 z.2 (Reps.up hk hl hm r)
 |ref h=>exact .ref (hm _ _ h)
 |kl h r=>exact .kl (KL.up hk h) (Reps.up hk hl hm r)
 |dic h b e r=>have z:=hl _ (.dT _) trivial h b;exact .dic z.1 z.2 e (Reps.up hk hl hm r)
 |fn h=>exact .fn (h.up hk)
 |dks h b e r=>have z:=hl _ (.dK _) trivial h b;exact .dks z.1 z.2 e (Reps.up hk hl hm r)
 |fz h q f=>exact .fz (hk _ _ trivial h) (f _ _ _ _ _ _ _ _ hk q) f
theorem Reps.up (hk:∀ a o,Kpt o->H a=some o->H' a=some o) (hl:∀ a u,Lk u->Rd H a u->¬ B a->Rd H' a u/\¬ B' a) (hm:∀ (n:Nat) (a:Addr),μ[n]?=some a->μ'[n]?=some a)
  {ds:List D}{vs:List V} (r:Reps K H μ B ds vs):Reps K H' μ' B' ds vs:=by
 cases r with
 |nil=>exact .nil
 |cons h r=>exact .cons (Rep.up hk hl hm h) (Reps.up hk hl hm r)
end
theorem Same.rd (e:Same H H') (h:Rd H a u):Rd H' a u:=by
 rcases h with h|⟨o,h⟩
 ·exact .inl (e _ _ h)
 ·exact .inr ⟨o,e _ _ h⟩
theorem Rep.same (e:Same H H') {d:D}{v:V} (h:Rep K H μ B d v):Rep K H' μ B d v:=h.up (fun _ _ _ h=>e _ _ h) (fun _ _ _ h b=>⟨Same.rd e h,b⟩) fun _ _ h=>h
theorem Reps.same (e:Same H H') {d:List D}{v:List V} (h:Reps K H μ B d v):Reps K H' μ B d v:=h.up (fun _ _ _ h=>e _ _ h) (fun _ _ _ h b=>⟨Same.rd e h,b⟩) fun _ _ h=>h
theorem Reps.length:∀ {ds:List D}{vs:List V},Reps K H μ B ds vs->ds.length=vs.length
 |_,_,.nil=>rfl
 |_,_,.cons _ r=>by simp[Reps.length r]
theorem Reps.get:∀ {ds:List D}{vs:List V}{i:Nat}{d:D},Reps K H μ B ds vs->ds[i]?=some d->∃ v,vs[i]?=some v/\Rep K H μ B d v
 |_,_,_,_,.nil,e=>by simp at e
 |_,_,0,_,.cons h _,e=>by simp at e;subst e;exact⟨_,rfl,h⟩
 |_,_,i+1,d,.cons _ r,e=>by
  obtain⟨v,h1,h2⟩:=Reps.get (i:=i) (d:=d) r (by simpa using e)
  exact⟨v,by simpa using h1,h2⟩
theorem Reps.append:∀ {ds es:List D}{vs ws:List V},Reps K H μ B ds vs->Reps K H μ B es ws->Reps K H μ B (ds++es) (vs++ws)
 |_,_,_,_,.nil,s=>s
 |_,_,_,_,.cons h r,s=>.cons h (Reps.append r s)
theorem Reps.take:∀ {ds:List D}{vs:List V} (n:Nat),Reps K H μ B ds vs->Reps K H μ B (ds.take n) (vs.take n)
 |_,_,0,_=>.nil
 |_,_,_+1,.nil=>.nil
 |_,_,n+1,.cons h r=>.cons h (Reps.take n r)
theorem Reps.drop:∀ {ds:List D}{vs:List V} (n:Nat),Reps K H μ B ds vs->Reps K H μ B (ds.drop n) (vs.drop n)
 |_,_,0,h=>h
 |_,_,_+1,.nil=>.nil
 |_,_,n+1,.cons h r=>Reps.drop n r
theorem Reps.reverse:∀ {ds:List D}{vs:List V},Reps K H μ B ds vs->Reps K H μ B ds.reverse vs.reverse
 |_,_,.nil=>.nil
 |_,_,.cons h r=>by
  rw[Awk,Awk]
  exact (Reps.reverse r).append (.cons h .nil)
end
noncomputable def OR (K:W.Frag) (H:Hp) (μ:List Addr) (a:Addr):MObj->Prop
 |.lst ds=>∃ xs,H a=some (.lst xs)/\Reps K H μ (·∈μ) ds xs
 |.dct ks vs=>∃ kvs,H a=some (.dT kvs)/\Iy ks=kvs.map (·.1)/\Reps K H μ (·∈μ) vs (kvs.map (·.2))
 |.dcs ks vs=>∃ kvs,H a=some (.dK kvs)/\ks.map Sum.inr=kvs.map (·.1)/\Reps K H μ (·∈μ) vs (kvs.map (·.2))
structure Sim (K:W.Frag) (H:Hp) (μ:List Addr) (m:MH):Prop where
 nd:μ.Nodup
 len:μ.length=m.length
 obj:∀ (n:Nat) (a:Addr) (o:MObj),μ[n]?=some a->m[n]?=some o->OR K H μ a o
structure Step (H:Hp) (μ:List Addr) (H':Hp) (μ':List Addr):Prop where
 pre:∃ l,μ'=μ++l/\∀ b∈l,H b=none
 keep:∀ b o,H b=some o->b∉μ->H' b=some o
structure EnvRep (K:W.Frag) (H:Hp) (μ:List Addr) (σ:St) (env:A0):Prop where
 len:σ.length=env.length
 get:∀ (i:Nat) (d:D),env[i]?=some (some d)->∃ v,σ[i]?=some (some v)/\Rep K H μ (·∈μ) d v
section
variable {K:W.Frag}{H H' H'':Hp}{μ μ' μ'':List Addr}{m m':MH}
theorem Sim.at (S:Sim K H μ m) (h:a∈μ):∃ (n:Nat) (o:MObj),μ[n]?=some a/\m[n]?=some o/\OR K H μ a o:=by
 obtain⟨n,hn⟩:=Avt h
 have hl:n < m.length:=by rw[<- S.len];exact (List.getElem?_eq_some_iff.mp hn).1
 exact⟨n,m[n],hn,by simp[hl],S.obj n a _ hn (by simp[hl])⟩
theorem Sim.trk (S:Sim K H μ m) (h:a∈μ):∃ o,H a=some o/\Lk o:=by
 obtain⟨n,o,_,_,q⟩:=S.at h
 cases o with
 |lst ds=>obtain⟨xs,e,_⟩:=q;exact⟨_,e,trivial⟩
 |dct ks vs=>obtain⟨kvs,e,_⟩:=q;exact⟨_,e,trivial⟩
 |dcs ks vs=>obtain⟨kvs,e,_⟩:=q;exact⟨_,e,trivial⟩
theorem Sim.nkpt (S:Sim K H μ m) (k:Kpt o) (h:H a=some o):a∉μ:=fun q=>by
 obtain⟨xs,e,l⟩:=S.trk q
 rw[e] at h
 cases h
 cases o<;>first|exact l|exact k
theorem Sim.nnone (S:Sim K H μ m) (h:H a=none):a∉μ:=fun q=>by
 obtain⟨xs,e,l⟩:=S.trk q
 rw[e] at h;cases h
theorem Step.refl:Step H μ H μ:=⟨⟨[],by simp,by simp⟩,fun _ _ h _=>h⟩
theorem Step.trans (a:Step H μ H' μ') (b:Step H' μ' H'' μ'') (hm:∀ c,H' c=none->H c=none):Step H μ H'' μ'':=by
 obtain⟨l,rfl,h1⟩:=a.pre
 obtain⟨l',rfl,h2⟩:=b.pre
 refine⟨⟨l++l',by simp,fun c hc=>?_⟩,fun c o e n=>?_⟩
 ·rcases List.mem_append.mp hc with z|z
  ·exact h1 c z
  ·exact hm c (h2 c z)
 ·refine b.keep c o (a.keep c o e n) fun z=>?_
  rcases List.mem_append.mp z with z|z
  ·exact n z
  ·rw[h1 c z] at e;cases e
theorem Step.none (S:Sim K H μ m) (S':Sim K H' μ' m') (a:Step H μ H' μ'):∀ c,H' c=none->H c=none:=fun c h=>by
 cases e:H c with
 |none=>rfl
 |some o =>
  by_cases q:c∈μ
  ·obtain⟨l,rfl,_⟩:=a.pre
   exact absurd (Auq _ q) (S'.nnone h)
  ·rw[a.keep c o e q] at h;cases h
theorem Step.of_same (e:Same H H'):Step H μ H' μ:=⟨⟨[],by simp,by simp⟩,fun b o h _=>e b o h⟩
theorem Step.rd (s:Step H μ H' μ') (h:Rd H a u) (n:a∉μ):Rd H' a u:=by
 rcases h with h|⟨o,h⟩
 ·exact .inl (s.keep _ _ h n)
 ·exact .inr ⟨o,s.keep _ _ h n⟩
theorem Step.nin (s:Step H μ H' μ') (h:Rd H a u) (n:a∉μ):a∉μ':=by
 obtain⟨l,rfl,hn⟩:=s.pre
 intro z
 rcases List.mem_append.mp z with z|z
 ·exact n z
 ·have:=hn a z
  rcases h with h|⟨o,h⟩<;>rw[this] at h<;>cases h
theorem Step.ix (s:Step H μ H' μ') {n:Nat}{a:Addr} (h:μ[n]?=some a):μ'[n]?=some a:=by
 obtain⟨l,rfl,_⟩:=s.pre
 rw[Aun (List.getElem?_eq_some_iff.mp h).1]
 exact h
theorem Rep.step (S:Sim K H μ m) (s:Step H μ H' μ') {d:D}{v:V} (h:Rep K H μ (·∈μ) d v):Rep K H' μ' (·∈μ') d v :=
 h.up (fun a o k q=>s.keep a o q (S.nkpt k q)) (fun _ _ _ q b=>⟨s.rd q b,s.nin q b⟩) fun _ _=>s.ix
theorem Reps.step (S:Sim K H μ m) (s:Step H μ H' μ') {d:List D}{v:List V} (h:Reps K H μ (·∈μ) d v):Reps K H' μ' (·∈μ') d v :=
 h.up (fun a o k q=>s.keep a o q (S.nkpt k q)) (fun _ _ _ q b=>⟨s.rd q b,s.nin q b⟩) fun _ _=>s.ix
theorem EnvRep.step (S:Sim K H μ m) (s:Step H μ H' μ') (h:EnvRep K H μ σ env):EnvRep K H' μ' σ env :=
 ⟨h.len,fun i d e=>let ⟨v,h1,h2⟩:=h.get i d e;⟨v,h1,h2.step S s⟩⟩
theorem Sim.same (S:Sim K H μ m) (e:Same H H'):Sim K H' μ m:=⟨S.nd,S.len,fun n a o h1 h2=>by
 have q:=S.obj n a o h1 h2
 cases o with
 |lst ds=>obtain⟨xs,q1,q2⟩:=q;exact⟨xs,e _ _ q1,q2.same e⟩
 |dcs ks vs=>obtain⟨xs,q1,q2,q3⟩:=q;exact⟨xs,e _ _ q1,q2,q3.same e⟩
 |dct ks vs=>obtain⟨xs,q1,q2,q3⟩:=q;exact⟨xs,e _ _ q1,q2,q3.same e⟩⟩
theorem EnvRep.same (e:Same H H') {σ:St}{env:A0} (h:EnvRep K H μ σ env):EnvRep K H' μ σ env :=
 ⟨h.len,fun i d q=>let ⟨v,h1,h2⟩:=h.get i d q;⟨v,h1,h2.same e⟩⟩
theorem EnvRep.set (h:EnvRep K H μ σ env) (i:Nat) {d:D} (r:Rep K H μ (·∈μ) d v):EnvRep K H μ (σ.set i (some v)) (env.set i (some d)):=by
 refine⟨by simpa using h.len,fun j d' e=>?_⟩
 by_cases q:j=i
 ·subst q
  have hj:j < env.length:=by
   have:=(List.getElem?_eq_some_iff.mp e).1
   simpa using this
  rw[Au5 hj] at e
  cases e
  exact⟨v,by rw[Au5 (by rw[h.len];exact hj)],r⟩
 ·rw[Avj (Avn q)] at e ⊢
  exact h.get j d' e
end
abbrev FE:=A0->MH->Option D
abbrev FL:=A0->MH->Option (List D)
abbrev FB:=A0->MH->Option Bool
inductive tE (K:W.Frag) (f:FE) (σ:St) (H:Hp) (Q:VK):Prop
 |mk (env:A0) (μ:List Addr) (m:MH) (d:D) (S:Sim K H μ m) (E:EnvRep K H μ σ env) (h:f env m=some d) (q:∀ v H',Same H H'->Rep K H' μ (·∈μ) d v->Q v H')
def nw (μ:List Addr) (a:Addr):Addr->Prop:=fun b=>b∈μ\/b=a
inductive tF (K:W.Frag) (f:FL) (σ:St) (H:Hp) (Q:VK):Prop
 |mk (env:A0) (μ:List Addr) (m:MH) (ds:List D) (S:Sim K H μ m) (E:EnvRep K H μ σ env) (h:f env m=some ds) (q:∀ a xs H',Same H H'->H a=none->H' a=some (.lst xs)->Reps K H' μ (nw μ a) ds xs->Q (.ref a) H')
inductive tB' (K:W.Frag) (f:FB) (σ:St) (H:Hp) (Q:Bool->Hp->Prop):Prop
 |mk (env:A0) (μ:List Addr) (m:MH) (b:Bool) (S:Sim K H μ m) (E:EnvRep K H μ σ env) (h:f env m=some b) (q:∀ H',Same H H'->Q b H')
inductive tL (K:W.Frag) (f:FL) (σ:St) (H:Hp) (Q:List V->Hp->Prop):Prop
 |mk (env:A0) (μ:List Addr) (m:MH) (ds:List D) (S:Sim K H μ m) (E:EnvRep K H μ σ env) (h:f env m=some ds) (q:∀ vs H',Same H H'->Reps K H' μ (·∈μ) ds vs->Q vs H')
abbrev PD (X:Cx) (e:Expr) (f:FE):Prop:=PE X e (tE X.K f)
abbrev PF (X:Cx) (e:Expr) (f:FL):Prop:=PE X e (tF X.K f)
abbrev PB (X:Cx) (e:Expr) (f:FB):Prop:=PT X e (tB' X.K f)
abbrev PL (X:Cx) (es:List Expr) (f:FL):Prop:=PA X es (tL X.K f)
theorem Reps.fresh {K:W.Frag}{H:Hp}{μ:List Addr}{p:Addr}{o:HO}{ds:List D}{vs:List V} (r:Reps K H μ (·∈μ) ds vs) (hp:H p=none):Reps K (upd H p o) μ (nw μ p) ds vs:=by
 have s:Same H (upd H p o):=fun b u e=>by rw[Az (Av e hp)];exact e
 refine r.up (fun _ _ _ h=>s _ _ h) (fun a u _ h b=>⟨Same.rd s h,fun z=>?_⟩) fun _ _ h=>h
 rcases z with z|z
 ·exact b z
 ·subst z
  rcases h with h|⟨o,h⟩
  ·exact nomatch (hp.symm.trans h)
  ·exact nomatch (hp.symm.trans h)
theorem Reps.unw {K:W.Frag}{H:Hp}{μ:List Addr}{p:Addr}{ds:List D}{vs:List V} (r:Reps K H μ (nw μ p) ds vs):Reps K H μ (·∈μ) ds vs :=
 r.up (fun _ _ _ h=>h) (fun _ _ _ h b=>⟨h,fun z=>b (.inl z)⟩) fun _ _ h=>h
theorem PE.imp {t t':TE} (h:PE X e t) (i:∀ σ H Q,t' σ H Q->t σ H Q):PE X e t':=fun pins s σ H Q I q=>h pins s σ H Q I (i σ H Q q)
theorem PT.imp {t t':TT} (h:PT X e t) (i:∀ σ H Q,t' σ H Q->t σ H Q):PT X e t':=fun pins s σ H Q I q=>h pins s σ H Q I (i σ H Q q)
theorem PA.imp {t t':TA} (h:PA X e t) (i:∀ σ H Q,t' σ H Q->t σ H Q):PA X e t':=fun pos pins s σ H Q I q=>h pos pins s σ H Q I (i σ H Q q)
inductive BS {α β:Type} (o:Option α) (f:α->Option β) (b:β):Prop where
 |mk (a:α) (h1:o=some a) (h2:f a=some b)
theorem bind_some {α β:Type}{o:Option α}{f:α->Option β}{b:β} (h:o.bind f=some b):BS o f b:=by
 cases o with
 |none=>cases h
 |some a=>exact⟨a,rfl,h⟩
section
variable {X:Cx}{a b c e:Expr}{es:List Expr}{pos:Pos}
theorem tE.bin {K:W.Frag}{f g:FE}{o:D->D->MH->Option D}{σ:St}{H:Hp}{Q:VK} (h:tE K (fun env m=>(f env m).bind fun x=>(g env m).bind fun y=>o x y m) σ H Q)
  (r:R2) (hr:∀ μ m x y z v u H' (Q:VK),Sim K H' μ m->Rep K H' μ (·∈μ) x v->Rep K H' μ (·∈μ) y u->o x y m=some z->(∀ w H2,Same H' H2->Rep K H2 μ (·∈μ) z w->Q w H2)->r v u H' Q) :
  tOp r (tE K f) (tE K g) σ H Q:=by
 obtain⟨env,μ,m,d,S,E,h,q⟩:=h
 obtain⟨x,hx,h⟩:=bind_some h
 obtain⟨y,hy,h⟩:=bind_some h
 refine⟨env,μ,m,x,S,E,hx,fun v H1 s1 r1=>⟨env,μ,m,y,S.same s1,E.same s1,hy,fun u H2 s2 r2=>?_⟩⟩
 exact hr μ m x y d v u H2 Q (S.same (s1.trans s2)) (r1.same s2) r2 h fun w H3 s3 r3=>q w H3 ((s1.trans s2).trans s3) r3
noncomputable def Af (i:Nat):FE:=fun env _=>(env[i]?).bind id
theorem Afk (i:Nat) {pos:Pos} (hN:X.N[i]?=some x) (hv:Vis X.env.scope x) (hd:(x == ("__debug__":Str))=false) (hcd:(x == ("__classdict__":Str))=false):PD X (.Name x pos) (Af i) :=
 PE.imp (Anp hN hv hd hcd) fun σ H Q ⟨env,μ,m,d,S,E,h,q⟩=>by
  unfold Af at h
  obtain⟨o,h1,h2⟩:=bind_some h
  have h2:o=some d:=h2
  subst h2
  obtain⟨v,e,r⟩:=E.get i d h1
  exact⟨v,e,q v H (Same.refl H) r⟩
noncomputable def fC (d:D):FE:=fun _ _=>some d
theorem Am9 {i j pos}:PD X (.Constant (.int i) j pos) (fC (.int i)):=PE.imp Afl fun σ H Q ⟨env,μ,m,d,S,E,h,q⟩=>by cases h;exact q _ H (Same.refl H) (.int i)
theorem Arq {i j pos}:PD X (.Constant (.bool i) j pos) (fC (.bl i)):=PE.imp Arx fun σ H Q ⟨env,μ,m,d,S,E,h,q⟩=>by cases h;exact q _ H (Same.refl H) (.bl i)
theorem Anc {j pos}:PD X (.Constant .none j pos) (fC .non):=PE.imp Aag fun σ H Q ⟨env,μ,m,d,S,E,h,q⟩=>by cases h;exact q _ H (Same.refl H) .non
theorem Ang {i j pos} (ok:PyData.strOk i=true):PD X (.Constant (.str i) j pos) (fC (.str i)):=PE.imp Ano fun σ H Q ⟨env,μ,m,d,S,E,h,q⟩=>by cases h;exact q _ H (Same.refl H) (.str i ok)
noncomputable def oI (g:Int->Int->Option D):D->D->MH->Option D
 |.int i,.int j,_=>g i j
 |_,_,_=>none
noncomputable def Gd:D->D->MH->Option D
 |.int i,.int j,_=>some (.int (i+j))
 |.str i,.str j,_=>if i.length+j.length<=1000000 then some (.str (i++j)) else none
 |.tup i,.tup j,_=>if i.length+j.length<=1000000 then some (.tup (i++j)) else none
 |_,_,_=>none
def Ao7:D->D->MH->Option D:=oI fun i j=>some (.int (i - j))
def Mr:D->D->MH->Option D:=oI fun i j=>if (-(2 ^ 64) < i/\i < 2 ^ 64)\/(-(2 ^ 64) < j/\j < 2 ^ 64) then some (.int (i * j)) else none
def Abp:D->D->MH->Option D:=oI fun i j=>if 0 < j/\j < 1073741824 then some (.int (i / j)) else none
def Z0:D->D->MH->Option D:=oI fun i j=>if 0 < j then some (.int (i % j)) else none
noncomputable def f2 (o:D->D->MH->Option D) (f g:FE):FE:=fun env m=>(f env m).bind fun x=>(g env m).bind fun y=>o x y m
noncomputable def f1 (o:D->MH->Option D) (f:FE):FE:=fun env m=>(f env m).bind fun x=>o x m
def OpD (X:Cx) (o:D->D->MH->Option D) (r:R2):Prop :=
 ∀ (μ:List Addr) (m:MH) (x y z:D) (v u:V) (H:Hp) (Q:VK),Sim X.K H μ m->Rep X.K H μ (·∈μ) x v->Rep X.K H μ (·∈μ) y u->o x y m=some z->(∀ w H2,Same H H2->Rep X.K H2 μ (·∈μ) z w->Q w H2)->r v u H Q
set_option tactic.hygienic true in
theorem OpD.int {C:Int->Int->Prop}{g:Int->Int->V}{k:Int->Int->Option D} (h:∀ i j z,k i j=some z->C i j/\∀ H μ B,Rep X.K H μ B z (g i j)):OpD X (oI k) (rI C g):=by
 intro μ m x y z v u H Q S rx ry e q
 cases rx<;>first|exact Ah e|skip
 cases ry<;>first|exact Ah e|skip
 rename_i i j
 obtain⟨hc,hr⟩:=h i j z e
 exact⟨i,j,rfl,rfl,hc,q _ H (Same.refl H) (hr H μ _)⟩
set_option tactic.hygienic true in
theorem OpD.int0 (h:∀ i j z,k i j=some z->∀ H μ B,Rep X.K H μ B z (g i j)):OpD X (oI k) (rI0 g):=by
 intro μ m x y z v u H Q S rx ry e q
 cases rx<;>first|exact Ah e|skip
 cases ry<;>first|exact Ah e|skip
 rename_i i j
 exact⟨i,j,rfl,rfl,q _ H (Same.refl H) (h i j z e H μ _)⟩
theorem Ai3:OpD X Ao7 (rI0 fun i j=>.int (i - j)):=OpD.int0 fun i j z e H μ B=>by cases e;exact .int _
theorem Ai2:OpD X Mr (rI CMul fun i j=>.int (i * j)):=OpD.int fun i j z e=>by
 split at e
 ·cases e;exact⟨by assumption,fun _ _ _=>.int _⟩
 ·cases e
theorem Ai0:OpD X Abp (rI Asp fun i j=>.int (i / j)):=OpD.int fun i j z e=>by
 split at e
 ·cases e;exact⟨by assumption,fun _ _ _=>.int _⟩
 ·cases e
theorem Ai1:OpD X Z0 (rI (fun _ j=>0 < j) fun i j=>.int (i % j)):=OpD.int fun i j z e=>by
 split at e
 ·cases e;exact⟨by assumption,fun _ _ _=>.int _⟩
 ·cases e
end
mutual
def Bm:D->Bool
 |.ref _=>false
 |.tup ds=>Au ds
 |.lst ds=>Au ds
 |.kl ds=>Au ds
 |.dic _ _=>false
 |.dks _ _=>false
 |.fz _ _ _ _=>false
 |.fn _ _=>false
 |_=>true
def Au:List D->Bool
 |[]=>true
 |d::ds=>Bm d&&Au ds
def dep:D->Nat
 |.tup ds=>Dj ds+1
 |.lst ds=>Dj ds+1
 |.kl ds=>Dj ds+1
 |_=>0
def Dj:List D->Nat
 |[]=>0
 |d::ds=>max (dep d) (Dj ds)
end
noncomputable def Ci (m:MH):D->Option D
 |.ref n=>match m[n]? with
  |some (.lst ds)=>if Au ds=true then some (.lst ds) else none
  |_=>none
 |d=>if Bm d=true then some d else none
def Cu (m:MH):List D->Option (List D)
 |[]=>some []
 |d::ds=>(Ci m d).bind fun d'=>(Cu m ds).bind fun ds'=>some (d'::ds')
noncomputable def sq (m:MH):D->Option (List D)
 |.tup ds=>some ds
 |.lst ds=>some ds
 |.kl ds=>some ds
 |.ref n=>match m[n]? with
  |some (.lst ds)=>some ds
  |_=>none
 |_=>none
section
variable {K:W.Frag}{H H':Hp}{μ μ':List Addr}{B B':Addr->Prop}{m:MH}
mutual
theorem Rep.noref (hk:∀ a u,Rd H a (.lst u)->¬ B a->¬ B' a) {d:D}{v:V} (r:Rep K H μ B d v) (e:Bm d=true):Rep K H μ' B' d v:=by
 cases r with
 |non=>exact .non
 |bl b=>exact .bl b
 |int b=>exact .int b
 |str b h=>exact .str b h
 |tup h r=>exact .tup h (Reps.noref hk r e)
 |lst h b r=>exact .lst h (hk _ _ h b) (Reps.noref hk r e)
 |kl h r=>exact .kl h (Reps.noref hk r e)
 |_=>exact Ct e
theorem Reps.noref (hk:∀ a u,Rd H a (.lst u)->¬ B a->¬ B' a) {ds:List D}{vs:List V} (r:Reps K H μ B ds vs) (e:Au ds=true):Reps K H μ' B' ds vs:=by
 cases r with
 |nil=>exact .nil
 |cons h r =>
  have e':=(Bool.and_eq_true_iff.mp e)
  exact .cons (Rep.noref hk h e'.1) (Reps.noref hk r e'.2)
end
theorem A5 (S:Sim K H μ m) {d d':D} (r:Rep K H μ (·∈μ) d v) (h:Ci m d=some d'):Rep K H [] (fun _=>False) d' v/\Bm d'=true:=by
 cases r with
 |@ref n a e =>
  unfold Ci at h
  cases q:m[n]? with
  |none=>simp[q] at h
  |some o =>
   simp only[q] at h
   cases o with
   |dcs _ _=>cases h
   |dct _ _=>cases h
   |lst ds =>
    simp only at h
    split at h
    ·rename_i hn
     cases h
     obtain⟨xs,e1,e2⟩:=S.obj n a _ e q
     exact⟨.lst (.inl e1) (fun z=>z) (e2.noref (fun _ _ _ _ z=>z) hn),hn⟩
    ·cases h
 |non=>unfold Ci at h;simp[Bm] at h;subst h;exact⟨.non,rfl⟩
 |bl b=>unfold Ci at h;simp[Bm] at h;subst h;exact⟨.bl b,rfl⟩
 |int b=>unfold Ci at h;simp[Bm] at h;subst h;exact⟨.int b,rfl⟩
 |str b ok=>unfold Ci at h;simp[Bm] at h;subst h;exact⟨.str b ok,rfl⟩
 |@tup ds a xs h1 h2 =>
  unfold Ci at h
  simp only at h
  split at h
  ·rename_i hn
   cases h
   exact⟨(Rep.tup h1 h2).noref (fun _ _ _ _ z=>z) hn,hn⟩
  ·cases h
 |@lst ds a xs h1 h3 h2 =>
  unfold Ci at h
  simp only at h
  split at h
  ·rename_i hn
   cases h
   exact⟨(Rep.lst h1 h3 h2).noref (fun _ _ _ _ z=>z) hn,hn⟩
  ·cases h
 |@kl ds a xs h1 h2 =>
  unfold Ci at h
  simp only at h
  split at h
  ·rename_i hn
   cases h
   exact⟨(Rep.kl h1 h2).noref (fun _ _ _ _ z=>z) hn,hn⟩
  ·exact Ah h
 |dic h1 h2 h3 h4=>unfold Ci at h;simp[Bm] at h
 |dks _ _ _ _=>unfold Ci at h;simp[Bm] at h
 |fz _ _ _=>unfold Ci at h;simp[Bm] at h
 |fn _=>unfold Ci at h;simp[Bm] at h
theorem C5 (S:Sim K H μ m):∀ {ds ds':List D}{vs:List V},Reps K H μ (·∈μ) ds vs->Cu m ds=some ds'->Reps K H [] (fun _=>False) ds' vs
 |_,_,_,.nil,h=>by cases h;exact .nil
 |_,_,_,.cons r rs,h=>by
  unfold Cu at h
  obtain⟨d',h1,h⟩:=bind_some h
  obtain⟨ds',h2,h⟩:=bind_some h
  cases h
  exact .cons (A5 S r h1).1 (C5 S rs h2)
theorem Uh (S:Sim K H μ m) {d:D} (r:Rep K H μ (·∈μ) d v) (h:sq m d=some ds):∃ a xs,v=.ref a/\(SqL K H a xs\/SqT K H a xs)/\Reps K H μ (·∈μ) ds xs:=by
 cases r with
 |@ref n a e =>
  unfold sq at h
  cases q:m[n]? with
  |none=>simp[q] at h
  |some o =>
   simp only[q] at h
   cases o with
   |dcs _ _=>cases h
   |dct _ _=>cases h
   |lst ds =>
    cases h
    obtain⟨xs,e1,e2⟩:=S.obj n a _ e q
    exact⟨a,xs,rfl,.inl (SqL.of e1),e2⟩
 |@tup ds a xs h1 h2=>cases h;exact⟨a,xs,rfl,.inr h1,h2⟩
 |@lst ds a xs h1 h3 h2=>cases h;exact⟨a,xs,rfl,.inl (.inl h1),h2⟩
 |@kl ds a xs h1 h2=>cases h;exact⟨a,xs,rfl,.inl h1.sq,h2⟩
 |non=>exact Ah h
 |bl b=>exact Ah h
 |int b=>exact Ah h
 |str b ok=>exact Ah h
 |dic h1 h2 h3 h4=>exact Ah h
 |dks _ _ _ _=>exact Ah h
 |fz _ _ _=>exact Ah h
 |fn _=>exact Ah h
end
mutual
theorem Du {H:Hp}{s:Shared} (I:Inv X pins σ H s) {d:D}{v:V}{u:Value} (q:Rep X.K H μ B d v) (e:Bm d=true) (r:RelV v u):∃ as,Reads s.heap u (pyD d) as:=by
 cases q with
 |non=>cases r;exact⟨_,.none⟩
 |bl b=>cases r;exact⟨_,.bool b⟩
 |int i=>obtain⟨t,rfl⟩:=r;exact⟨_,.int i t⟩
 |str x _=>obtain⟨t,rfl⟩:=r;exact⟨_,.str x t⟩
 |tup h rs =>
  cases r
  obtain⟨its,rv,⟨o,ho,hc,n,hd⟩,hz⟩:=I.tuple h
  obtain⟨as,ra⟩:=Dt I rs e rv
  exact⟨_,.tuple ho hc hd ra⟩
 |lst h b rs =>
  cases r
  obtain⟨its,rv,⟨o,n,ho,hc,_,hd⟩,hz⟩:=I.list (.inl h)
  obtain⟨as,ra⟩:=Dt I rs e rv
  exact⟨_,.list ho hc hd ra⟩
 |kl h rs =>
  cases r
  obtain⟨its,rv,⟨o,n,ho,hc,_,hd⟩,hz⟩:=I.list h.sq
  obtain⟨as,ra⟩:=Dt I rs e rv
  exact⟨_,.list ho hc hd ra⟩
 |_=>cases e
theorem Dt {H:Hp}{s:Shared} (I:Inv X pins σ H s) {ds:List D}{vs:List V}{us:List Value} (q:Reps X.K H μ B ds vs) (e:Au ds=true) (r:Vals vs us):∃ as,ReadsAll s.heap us (Iy ds) as:=by
 cases q with
 |nil=>cases r;exact⟨_,.nil⟩
 |cons h rs =>
  cases r with
  |cons r rv =>
  have e':=(Bool.and_eq_true_iff.mp e)
  obtain⟨as,h1⟩:=Du I h e'.1 r
  obtain⟨bs,h2⟩:=Dt I rs e'.2 rv
  exact⟨_,.cons h1 h2⟩
end
mutual
theorem Eo {K:W.Frag}{H:Hp}{μ:List Addr}{B:Addr->Prop}{d:D}{v:V} (r:Rep K H μ B d v):(pyD d).canLay0=true:=by
 cases r with
 |str _ h=>exact h
 |tup _ rs=>exact Hj rs
 |lst _ _ rs=>exact Hj rs
 |kl _ rs=>exact Hj rs
 |_=>rfl
theorem Hj {K:W.Frag}{H:Hp}{μ:List Addr}{B:Addr->Prop}{ds:List D}{vs:List V} (r:Reps K H μ B ds vs):PyData.canLayAll0 (Iy ds)=true:=by
 cases r with
 |nil=>rfl
 |cons r rs=>rw[Iy,PyData.canLayAll0,Eo r,Hj rs];rfl
end
mutual
theorem Hv:∀ d:D,(pyD d).depth=dep d
 |.non=>rfl
 |.bl _=>rfl
 |.int _=>rfl
 |.str _=>rfl
 |.tup ds=>by rw[pyD,PyData.depth,dep,Hf ds]
 |.lst ds=>by rw[pyD,PyData.depth,dep,Hf ds]
 |.kl ds=>by rw[pyD,PyData.depth,dep,Hf ds]
 |.ref _=>rfl
 |.dic _ _=>rfl
 |.dks _ _=>rfl
 |.fz _ _ _ _=>rfl
 |.fn _ _=>rfl
theorem Hf:∀ ds:List D,PyData.depthAll (Iy ds)=Dj ds
 |[]=>rfl
 |d::ds=>by rw[Iy,PyData.depthAll,Hv d,Hf ds,Dj]
end
noncomputable def deq (x y:D):Bool:=PyData.eqv (pyD x) (pyD y)
def eqO (m:MH) (x y:D):Option Bool:=(Ci m x).bind fun x'=>(Ci m y).bind fun y'=>if dep x'<=60 then some (deq x' y') else none
def oEq:D->D->MH->Option D:=fun x y m=>(eqO m x y).bind fun b=>some (.bl b)
def oNe:D->D->MH->Option D:=fun x y m=>(eqO m x y).bind fun b=>some (.bl (!b))
section
variable {X:Cx}{a b c e:Expr}{es:List Expr}{pos:Pos}
def OpM (X:Cx) (f:Value->Value->Sem Value) (o:D->D->MH->Option D):Prop :=
 ∀ (pins:List (Addr×Obj)) (s:Shared) (σ:St) (H:Hp) (μ:List Addr) (m:MH) (x y z:D) (v u:V) (v' u':Value) (Q:VK),Inv X pins σ H s->Sim X.K H μ m->Rep X.K H μ (·∈μ) x v->Rep X.K H μ (·∈μ) y u->RelV v v'->RelV u u'->o x y m=some z ->
  (∀ w H2,Same H H2->Rep X.K H2 μ (·∈μ) z w->Q w H2)->wpAny (model X.prog X.w) X.A (f v' u') (EP X pins σ Q) X.xe s
theorem OpM.of (h:OpR X f r) (d:OpD X o r):OpM X f o :=
 fun pins s σ H μ m x y z v u v' u' Q I S rx ry r1 r2 e q=>h pins s σ H v u v' u' Q I r1 r2 (d μ m x y z v u H Q S rx ry e q)
theorem A9 {H:Hp} (h:H p=none):Same H (upd H p o):=fun b u e=>by
 rw[Az (Av e h)];exact e
theorem tE.two {K:W.Frag}{f g:FE}{o:D->D->MH->Option D}{σ:St}{H:Hp}{Q:VK} (h:tE K (f2 o f g) σ H Q) :
  ∃ env μ m x y z,Sim K H μ m/\EnvRep K H μ σ env/\f env m=some x/\g env m=some y/\o x y m=some z/\∀ v H',Same H H'->Rep K H' μ (·∈μ) z v->Q v H':=by
 obtain⟨env,μ,m,d,S,E,h,q⟩:=h
 obtain⟨x,hx,h⟩:=bind_some h
 obtain⟨y,hy,h⟩:=bind_some h
 exact⟨env,μ,m,x,y,d,S,E,hx,hy,h,q⟩
theorem Aqr (ho:OpM X k o) (ha:PD X a f) (hb:PD X b g) {s:Shared}{H:Hp} (I:Inv X pins σ H s) (h:tE X.K (f2 o f g) σ H Q) :
  wpAny (model X.prog X.w) X.A (eval a X.env) (fun v s₁=>wpAny (model X.prog X.w) X.A (eval b X.env) (fun u s₂=>wpAny (model X.prog X.w) X.A (k v u) (EP X pins σ Q) X.xe s₂) X.xe s₁) X.xe s:=by
 obtain⟨env,μ,m,x,y,z,S,E,hx,hy,hz,q⟩:=h.two
 refine thn (ha pins s σ H (fun v H1=>Same H H1/\Rep X.K H1 μ (·∈μ) x v) I ⟨env,μ,m,x,S,E,hx,fun v H1 s1 r1=>⟨s1,r1⟩⟩) fun v' s1 ⟨v,H1,I1,r1,s1',rx⟩=>?_
 refine thn (hb pins s1 σ H1 (fun u H2=>Same H1 H2/\Rep X.K H2 μ (·∈μ) y u) I1 ⟨env,μ,m,y,S.same s1',E.same s1',hy,fun v H1 s1 r1=>⟨s1,r1⟩⟩) fun u' s2 ⟨u,H2,I2,r2,s2',ry⟩=>?_
 exact ho pins s2 σ H2 μ m x y z v u v' u' Q I2 (S.same (s1'.trans s2')) (rx.same s2') ry r1 r2 hz fun w H3 s3 r3=>q w H3 ((s1'.trans s2').trans s3) r3
theorem Am7 (ho:OpM X (binaryOp op) o) (ha:PD X a f) (hb:PD X b g):PD X (.BinOp a op b pos) (f2 o f g) :=
 fun pins s σ H Q I h=>wpAny_BinOp (Aqr ho ha hb I h)
theorem Am8 (ho:OpM X (compareOp op) o) (ha:PD X a f) (hb:PD X b g) (hm:behindInMarks op b=false):PD X (.Compare a [op] [b] pos) (f2 o f g) :=
 fun pins s σ H Q I h=>wpAny_Compare1 (Aqr ho ha hb I h) hm
noncomputable def asB:D->Option Bool
 |.bl b=>some b
 |_=>none
def Bc (f:FE):FB:=fun env m=>(f env m).bind asB
theorem Lq {d:D}{b:Bool} (h:asB d=some b):d=.bl b:=by
 cases d<;>first|(cases h;rfl)|cases h
theorem tB'.val {K:W.Frag}{f:FE}{σ:St}{H:Hp}{Q:Bool->Hp->Prop} (h:tB' K (Bc f) σ H Q):tE K f σ H fun x H'=>∃ k,x=.bl k/\Q k H':=by
 obtain⟨env,μ,m,b,S,E,h,q⟩:=h
 obtain⟨d,h1,h2⟩:=bind_some h
 cases Lq h2
 exact⟨env,μ,m,_,S,E,h1,fun v H' s r=>by cases r;exact⟨_,rfl,q H' s⟩⟩
theorem Am2 (ho:OpM X (compareOp op) o) (ha:PD X a f) (hb:PD X b g) (hm:behindInMarks op b=false):PB X (.Compare a [op] [b] pos) (Bc (f2 o f g)):=by
 intro pins s σ H Q I h
 refine wpAny_isTrue_Compare1 (thn (Aqr ho ha hb I h.val) fun v s1 h1=>thn h1 fun u s2 h2=>thn h2 fun c s3 ⟨x,H1,I1,r1,k,e,q⟩=>?_) hm
 subst e
 cases r1
 exact Awd ⟨H1,I1,q⟩
theorem big {n:Nat} (h:n<=1000000):n<=sizeLine:=Aug h (by rw[Au9];decide)
def Agf (m:MH):D->Option Bool
 |.non=>some false
 |.bl b=>some b
 |.int i=>some (i != 0)
 |.str y=>if y.length<=1000000 then some ((y.length:Int) != 0) else none
 |d=>(sq m d).bind fun ds=>some (!ds.isEmpty)
def Jy (f:FE):FB:=fun env m=>(f env m).bind (Agf m)
theorem Reps.isEmpty {K:W.Frag}{H:Hp}{μ:List Addr}{B:Addr->Prop}{ds:List D}{vs:List V} (r:Reps K H μ B ds vs):ds.isEmpty=vs.isEmpty:=by cases r<;>rfl
theorem Abc {K:W.Frag}{H:Hp}{μ:List Addr}{m:MH} (S:Sim K H μ m) {d:D}{v:V}{k:Bool} (r:Rep K H μ (·∈μ) d v) (h:Agf m d=some k):Ao4 K v H k:=by
 have seq:∀ {a:Addr},v=.ref a->(∃ ds,sq m d=some ds/\k=!ds.isEmpty)->Ao4 K v H k:=fun {a} e ⟨ds,h1,h2⟩=>by
  obtain⟨a',xs,e',hq,rs⟩:=Uh S r h1
  subst e'
  subst h2
  rw[rs.isEmpty]
  rcases hq with hq|hq
  ·exact .inl ⟨xs,hq,rfl⟩
  ·exact .inr (.inl ⟨xs,hq,rfl⟩)
 have sq':∀ {x:D},((sq m x).bind fun ds=>some (!ds.isEmpty))=some k->∃ ds,sq m x=some ds/\k=!ds.isEmpty:=fun {x} h=>by
  obtain⟨ds,h1,h2⟩:=bind_some h
  exact⟨ds,h1,(Au2 h2).symm⟩
 cases r with
 |non=>cases h;rfl
 |bl b=>cases h;rfl
 |int b=>cases h;rfl
 |str b ok =>
  unfold Agf at h
  simp only at h
  split at h
  ·cases h;exact⟨big (by assumption),rfl⟩
  ·exact Ah h
 |@tup ds a xs h1 h2=>exact seq rfl (sq' h)
 |@lst ds a xs h1 h3 h2=>exact seq rfl (sq' h)
 |@kl ds a xs h1 h2=>exact seq rfl (sq' h)
 |@ref n a e=>exact seq rfl (sq' h)
 |dic h1 h2 h3 h4=>exact Ah h
 |dks _ _ _ _=>exact Ah h
 |fz _ _ _=>exact Ah h
 |fn _=>exact Ah h
theorem Am5 (ha:PD X a f) (he:∀ whole,isTrue a X.env whole=(do let v <- whole;standAt a.pos;holding [v] (truthy v))):PB X a (Jy f) :=
 PT.imp (Adq ha he) fun σ H Q ⟨env,μ,m,b,S,E,h,q⟩=>by
  obtain⟨d,h1,h2⟩:=bind_some h
  exact⟨env,μ,m,d,S,E,h1,fun v H' s r=>⟨b,Abc (S.same s) r h2,q H' s⟩⟩
noncomputable def Aca (f g:FB):FB:=fun env m=>(f env m).bind fun c=>if c=true then g env m else some false
noncomputable def fOr (f g:FB):FB:=fun env m=>(f env m).bind fun c=>if c=true then some true else g env m
noncomputable def P7 (f:FB):FB:=fun env m=>(f env m).bind fun c=>some (!c)
abbrev PWB (X:Cx) (e:Expr) (f:FB):Prop:=PW X e (tB' X.K f)
theorem PW.imp {t t':TT} (h:PW X e t) (i:∀ σ H Q,t' σ H Q->t σ H Q):PW X e t':=fun w pins s σ H Q I q=>h w pins s σ H Q I (i σ H Q q)
theorem tB'.and {K:W.Frag}{f g:FB}{σ:St}{H:Hp}{Q:Bool->Hp->Prop} (h:tB' K (Aca f g) σ H Q):As2 (tB' K f) (tB' K g) σ H Q:=by
 obtain⟨env,μ,m,b,S,E,h,q⟩:=h
 obtain⟨c,h1,h2⟩:=bind_some h
 refine⟨env,μ,m,c,S,E,h1,fun H1 s1=>?_⟩
 cases c with
 |true =>
  rw[At4 rfl] at h2 ⊢
  exact⟨env,μ,m,b,S.same s1,E.same s1,h2,fun H2 s2=>q H2 (s1.trans s2)⟩
 |false =>
  rw[At8 Auo] at h2 ⊢
  cases h2
  exact q H1 s1
theorem tB'.or {K:W.Frag}{f g:FB}{σ:St}{H:Hp}{Q:Bool->Hp->Prop} (h:tB' K (fOr f g) σ H Q):tOr (tB' K f) (tB' K g) σ H Q:=by
 obtain⟨env,μ,m,b,S,E,h,q⟩:=h
 obtain⟨c,h1,h2⟩:=bind_some h
 refine⟨env,μ,m,c,S,E,h1,fun H1 s1=>?_⟩
 cases c with
 |false =>
  rw[At8 Auo] at h2 ⊢
  exact⟨env,μ,m,b,S.same s1,E.same s1,h2,fun H2 s2=>q H2 (s1.trans s2)⟩
 |true =>
  rw[At4 rfl] at h2 ⊢
  cases h2
  exact q H1 s1
variable {rest:List Expr}
theorem Adr (ha:PB X a f):PWB X (.BoolOp .And [a] pos) f:=Ajv ha
theorem Ajx (ha:PB X a f):PWB X (.BoolOp .Or [a] pos) f:=An3 ha
theorem Ajw (ha:PB X a f) (hb:PWB X (.BoolOp .And (b::rest) pos) g):PWB X (.BoolOp .And (a::b::rest) pos) (Aca f g):=PW.imp (An1 ha hb) fun _ _ _ h=>h.and
theorem An4 (ha:PB X a f) (hb:PWB X (.BoolOp .Or (b::rest) pos) g):PWB X (.BoolOp .Or (a::b::rest) pos) (fOr f g):=PW.imp (Ar2 ha hb) fun _ _ _ h=>h.or
theorem Ai5 (h:PWB X (.BoolOp op es pos) f):PB X (.BoolOp op es pos) f:=h.pt
theorem Am4 (ha:PB X a f):PB X (.UnaryOp .Not a pos) (P7 f):=PT.imp (An0 ha) fun σ H Q ⟨env,μ,m,b,S,E,h,q⟩=>by
 obtain⟨c,h1,h2⟩:=bind_some h
 cases h2
 exact⟨env,μ,m,c,S,E,h1,fun H1 s1=>q H1 s1⟩
def Us (f g:FE):FE:=fun env m=>(Bc f env m).bind fun c=>if c=true then g env m else some (.bl false)
def Alx (f g:FE):FE:=fun env m=>(Bc f env m).bind fun c=>if c=true then some (.bl true) else g env m
theorem Anf {op} (h:PD X a f):PD X (.BoolOp op [a] pos) f:=Anl h
theorem Am6 {f g:FE} (ha:PD X a f) (hb:PD X (.BoolOp .And (b::rest) pos) g):PD X (.BoolOp .And (a::b::rest) pos) (Us f g):=PE.imp (Ani ha hb) fun σ H Q ⟨env,μ,m,z,S,E,h,q⟩=>by
 obtain⟨c,h1,h2⟩:=bind_some h
 obtain⟨d,h0,h1⟩:=bind_some h1
 cases Lq h1
 refine⟨env,μ,m,_,S,E,h0,fun v H1 s1 r1=>⟨c,by cases r1;rfl,?_⟩⟩
 cases c with
 |true =>
  rw[At4 rfl] at h2 ⊢
  exact⟨env,μ,m,z,S.same s1,E.same s1,h2,fun v H2 s2 r2=>q v H2 (s1.trans s2) r2⟩
 |false =>
  rw[At8 Auo] at h2 ⊢
  cases h2
  exact q _ H1 s1 (.bl false)
theorem Arv {f g:FE} (ha:PD X a f) (hb:PD X (.BoolOp .Or (b::rest) pos) g):PD X (.BoolOp .Or (a::b::rest) pos) (Alx f g):=PE.imp (Ar0 ha hb) fun σ H Q ⟨env,μ,m,z,S,E,h,q⟩=>by
 obtain⟨c,h1,h2⟩:=bind_some h
 obtain⟨d,h0,h1⟩:=bind_some h1
 cases Lq h1
 refine⟨env,μ,m,_,S,E,h0,fun v H1 s1 r1=>⟨c,by cases r1;rfl,?_⟩⟩
 cases c with
 |false =>
  rw[At8 Auo] at h2 ⊢
  exact⟨env,μ,m,z,S.same s1,E.same s1,h2,fun v H2 s2 r2=>q v H2 (s1.trans s2) r2⟩
 |true =>
  rw[At4 rfl] at h2 ⊢
  cases h2
  exact q _ H1 s1 (.bl true)
def Yn (f:FE):FE:=fun env m=>(Jy f env m).bind fun c=>some (.bl (!c))
theorem Ane (ha:PD X a f):PD X (.UnaryOp .Not a pos) (Yn f):=by
 intro pins s σ H Q I h
 obtain⟨env,μ,m,z,S,E,h,q⟩:=h
 obtain⟨c,h1,h2⟩:=bind_some h
 obtain⟨d,h0,h1⟩:=bind_some h1
 cases h2
 refine UnaryOp_ (thn (ha pins s σ H (fun v H1=>Same H H1/\Rep X.K H1 μ (·∈μ) d v) I ⟨env,μ,m,d,S,E,h0,fun v H1 s1 r1=>⟨s1,r1⟩⟩) fun v' s1 ⟨v,H1,I1,r1,s1',rx⟩=>?_)
 exact not_of (thn (Agg pins s1 σ H1 v v' (fun b H2=>b=c/\H2=H1) I1 r1 ⟨c,Abc (S.same s1') rx h1,rfl,rfl⟩) fun b s2 ⟨H2,I2,e,e2⟩=>⟨.bl (!c),H2,I2,by rw[e];rfl,q _ H2 (by rw[e2];exact s1') (.bl _)⟩)
noncomputable def fIf (t:FB) (f g:FE):FE:=fun env m=>(t env m).bind fun c=>if c=true then f env m else g env m
theorem Ars {t:FB} (hc:PB X c t) (ha:PD X a f) (hb:PD X b g):PD X (.IfExp c a b pos) (fIf t f g):=PE.imp (Ac9 hc ha hb) fun σ H Q ⟨env,μ,m,z,S,E,h,q⟩=>by
 obtain⟨c,h1,h2⟩:=bind_some h
 refine⟨env,μ,m,c,S,E,h1,fun H1 s1=>?_⟩
 cases c with
 |true =>
  rw[At4 rfl] at h2 ⊢
  exact⟨env,μ,m,z,S.same s1,E.same s1,h2,fun v H2 s2 r2=>q v H2 (s1.trans s2) r2⟩
 |false =>
  rw[At8 Auo] at h2 ⊢
  exact⟨env,μ,m,z,S.same s1,E.same s1,h2,fun v H2 s2 r2=>q v H2 (s1.trans s2) r2⟩
theorem C7 (hr:Room k X.A):OpM X (compareOp .Eq) oEq:=by
 intro pins s σ H μ m x y z v u v' u' Q I S rx ry r1 r2 e q
 obtain⟨b,h1,h2⟩:=bind_some e
 obtain⟨x',e1,h1⟩:=bind_some h1
 obtain⟨y',e2,h1⟩:=bind_some h1
 split at h1
 ·rename_i hd
  cases h1
  cases h2
  obtain⟨a1,n1⟩:=A5 S rx e1
  obtain⟨a2,n2⟩:=A5 S ry e2
  obtain⟨as,ra⟩:=Du I a1 n1 r1
  obtain⟨bs,rb⟩:=Du I a2 n2 r2
  have hu:=hr.units
  refine SeqAt.compareEq_reads ra rb (Eo a1) (Eo a2) ?_ ⟨.bl (deq x' y'),H,I,rfl,q _ H (Same.refl H) (.bl _)⟩
  rw[Hv]
  lia
 ·cases h1
theorem Ro (hr:Room k X.A):OpM X (compareOp .NotEq) oNe:=by
 intro pins s σ H μ m x y z v u v' u' Q I S rx ry r1 r2 e q
 obtain⟨b,h1,h2⟩:=bind_some e
 obtain⟨x',e1,h1⟩:=bind_some h1
 obtain⟨y',e2,h1⟩:=bind_some h1
 split at h1
 ·rename_i hd
  cases h1
  cases h2
  obtain⟨a1,n1⟩:=A5 S rx e1
  obtain⟨a2,n2⟩:=A5 S ry e2
  obtain⟨as,ra⟩:=Du I a1 n1 r1
  obtain⟨bs,rb⟩:=Du I a2 n2 r2
  have hu:=hr.units
  refine SeqAt.compareNe_reads ra rb (Eo a1) (Eo a2) ?_ ⟨.bl (!deq x' y'),H,I,rfl,q _ H (Same.refl H) (.bl _)⟩
  rw[Hv]
  lia
 ·cases h1
noncomputable def oLt:D->D->MH->Option D
 |.int i,.int j,_=>some (.bl (decide (i < j)))
 |.str i,.str j,_=>some (.bl (decide (i.cps.toList < j.cps.toList)))
 |_,_,_=>none
def oGt:D->D->MH->Option D:=oI fun i j=>some (.bl (decide (j < i)))
theorem Amu:OpM X (compareOp .Lt) oLt:=OpM.of (op_lt.or Z9) fun μ m x y z v u H Q S rx ry e q=>by
 cases rx<;>first|exact Ah e|skip
 all_goals cases ry<;>first|exact Ah e|skip
 ·cases e;exact .inl ⟨_,_,rfl,rfl,q _ H (Same.refl H) (.bl _)⟩
 ·cases e;exact .inr ⟨_,_,rfl,rfl,q _ H (Same.refl H) (.bl _)⟩
theorem Ac5:OpM X (compareOp .Gt) oGt:=OpM.of Aro (OpD.int0 fun i j z e H μ B=>by cases e;exact .bl _)
theorem Amv:OpM X (binaryOp .Sub) Ao7:=OpM.of Amz Ai3
theorem Cw:OpM X (binaryOp .Mult) Mr:=OpM.of Amx Ai2
theorem Ip:OpM X (binaryOp .FloorDiv) Abp:=OpM.of Aiz Ai0
theorem G8:OpM X (binaryOp .Mod) Z0:=OpM.of Amw Ai1
noncomputable def Afd:D->MH->Option D:=fun x _=>match x with|.non=>some (.bl true)|_=>some (.bl false)
theorem Y2 {K:W.Frag}{H:Hp}{μ:List Addr}{B:Addr->Prop}{d z:D}{v:V}{m:MH} (r:Rep K H μ B d v) (h:Afd d m=some z):z=.bl (decide (v=.non)):=by
 cases r<;>(cases h;simp)
theorem Ana {f:FE} {j pos'} (ha:PD X a f):PD X (.Compare a [.Is] [.Constant .none j pos'] pos) (f1 Afd f):=PE.imp (Ai8 Afj ha Aag (Afc _)) fun σ H Q ⟨env,μ,m,z,S,E,h,q⟩=>by
 obtain⟨d,h1,h2⟩:=bind_some h
 exact⟨env,μ,m,d,S,E,h1,fun v H1 s1 r1=>⟨rfl,q _ H1 s1 (by rw[Y2 r1 h2];exact .bl _)⟩⟩
theorem Am3 {f:FE} {j pos'} (ha:PD X a f):PB X (.Compare a [.Is] [.Constant .none j pos'] pos) (Bc (f1 Afd f)):=PT.imp (Ajr Afj ha Aag (Afc _)) fun σ H Q h=>by
 obtain⟨env,μ,m,z,S,E,h,q⟩:=h.val
 obtain⟨d,h1,h2⟩:=bind_some h
 exact⟨env,μ,m,d,S,E,h1,fun v H1 s1 r1=>⟨rfl,q _ H1 s1 (by rw[Y2 r1 h2];exact .bl _)⟩⟩
end
theorem Jf:PyData.strOk x=true ↔ ∀ c∈x.cps.toList,c < 0x110000:=by
 unfold PyData.strOk
 rw[Array.all_eq_true']
 simp
theorem O6 (hx:PyData.strOk x=true) (hy:PyData.strOk y=true):PyData.strOk (x++y)=true:=by
 rw[Jf] at *
 intro c hc
 have:(x++y).cps.toList=x.cps.toList++y.cps.toList:=by
  show (x.cps++y.cps).toList=_
  simp
 rw[this] at hc
 rcases List.mem_append.mp hc with h|h
 ·exact hx c h
 ·exact hy c h
theorem Jg (hx:PyData.strOk x=true) (h:∀ c∈y.cps.toList,c∈x.cps.toList):PyData.strOk y=true:=by
 rw[Jf] at *
 exact fun c hc=>hx c (h c hc)
theorem Aa9 (hx:PyData.strOk x=true) (h:atI x.cps.toList i=some c):PyData.strOk ⟨#[c]⟩=true:=by
 refine Jg hx fun c' hc=>?_
 have e:c'=c:=by simpa using hc
 subst e
 obtain⟨j,_,h2,_⟩:=Lr h
 exact Auc h2
theorem R6 {x:Str}{lo hi:Option Int} (hx:PyData.strOk x=true):PyData.strOk (Txt.slice x lo hi)=true:=by
 unfold Txt.slice
 split
 ·exact hx
 ·refine Jg hx fun c hc=>?_
  simp only[List.toList_toArray] at hc
  obtain⟨i,_,h⟩:=List.mem_filterMap.mp hc
  have:=Array.mem_of_getElem? h
  simpa using this
section
variable {X:Cx}{a b c e:Expr}{es:List Expr}{pos p:Pos}{x:Str}{id T:String}
noncomputable def Ae:FL:=fun _ _=>some []
noncomputable def Aa (f:FE) (g:FL):FL:=fun env m=>(f env m).bind fun x=>(g env m).bind fun xs=>some (x::xs)
theorem Ant:PL X [] Ae:=PA.imp J5 fun σ H Q ⟨env,μ,m,ds,S,E,h,q⟩=>by cases h;exact q [] H (Same.refl H) .nil
theorem Ajg (ha:PD X e f) (hr:PL X es g) (hs:starEach (e::es) X.env=(false,eval e X.env)::starEach es X.env):PL X (e::es) (Aa f g) :=
 PA.imp (Dg ha hr hs) fun σ H Q ⟨env,μ,m,ds,S,E,h,q⟩=>by
  obtain⟨d,h1,h⟩:=bind_some h
  obtain⟨ds',h2,h⟩:=bind_some h
  cases h
  exact⟨env,μ,m,d,S,E,h1,fun v H1 s1 r1=>⟨env,μ,m,ds',S.same s1,E.same s1,h2,fun vs H2 s2 r2=>q _ H2 (s1.trans s2) (.cons (r1.same s2) r2)⟩⟩
noncomputable def Cr (g:FL):FE:=fun env m=>(g env m).bind fun ds=>some (.lst ds)
theorem Ac8 (h:PF X e g):PD X e (Cr g):=PE.imp h fun σ H Q ⟨env,μ,m,d,S,E,h,q⟩=>by
 obtain⟨ds,h1,h⟩:=bind_some h
 cases h
 exact⟨env,μ,m,ds,S,E,h1,fun a xs H' s1 hn ha r=>q _ H' s1 (.lst (.inl ha) (S.nnone hn) r.unw)⟩
noncomputable def Ca (g:FL):FE:=fun env m=>(g env m).bind fun ds=>if ds.length<=1000000 then some (.tup ds) else none
noncomputable def Bq (g:FL):FL:=fun env m=>(g env m).bind fun ds=>if ds.length<=1000000 then some ds else none
theorem Anh {x1} (h:PL X es g):PD X (.Tuple es x1 pos) (Ca g):=PE.imp (Afm h) fun σ H Q ⟨env,μ,m,d,S,E,h,q⟩=>by
 obtain⟨ds,h1,h⟩:=bind_some h
 split at h
 ·rename_i hl
  cases h
  refine⟨env,μ,m,ds,S,E,h1,fun vs H1 s1 r1=>⟨by rw[<- r1.length];exact big hl,fun p hp=>q _ _ (s1.trans (A9 hp)) (.tup (.inl (.inl Ba)) (r1.same (A9 hp)))⟩⟩
 ·cases h
theorem Anr (h:PL X es g):PF X (.List es pos) (Bq g):=PE.imp (Ank h) fun σ H Q ⟨env,μ,m,d,S,E,h,q⟩=>by
 obtain⟨ds,h1,h⟩:=bind_some h
 split at h
 ·rename_i hl
  cases h
  refine⟨env,μ,m,_,S,E,h1,fun vs H1 s1 r1=>⟨by rw[<- r1.length];exact big hl,fun p hp=>q _ vs _ (s1.trans (A9 hp)) (s1.free hp) Ba (r1.fresh hp)⟩⟩
 ·cases h
def oIx:D->D->MH->Option D:=fun x y m=>match y with
 |.int i=>(match x with
  |.str z=>if z.length<=1000000 then (atI z.cps.toList i).bind fun c=>some (.str ⟨#[c]⟩) else none
  |x=>(sq m x).bind fun ds=>atI ds i)
 |_=>none
theorem Reps.atI {K:W.Frag}{H:Hp}{μ:List Addr}{B:Addr->Prop}{ds:List D}{vs:List V}{i:Int}{d:D} (r:Reps K H μ B ds vs) (h:L2.atI ds i=some d):∃ v,L2.atI vs i=some v/\Rep K H μ B d v:=by
 unfold L2.atI at *
 rw[r.length] at h
 obtain⟨j,h1,h2⟩:=bind_some h
 obtain⟨v,h3,h4⟩:=r.get h2
 exact⟨v,by rw[h1];exact h3,h4⟩
set_option tactic.hygienic true in
theorem Am0:OpD X oIx (rIx X.K):=by
 intro μ m x y z v u H Q S rx ry e q
 cases ry<;>first|exact Ah e|skip
 rename_i i
 have seq:((sq m x).bind fun ds=>atI ds i)=some z->rIx X.K v (.int i) H Q:=fun e=>by
  obtain⟨ds,h1,h2⟩:=bind_some e
  obtain⟨a,xs,rfl,hq,rs⟩:=Uh S rx h1
  obtain⟨w,h3,h4⟩:=rs.atI h2
  rcases hq with hq|hq
  ·exact .inl ⟨a,xs,i,w,rfl,rfl,hq,h3,q w H (Same.refl H) h4⟩
  ·exact .inr (.inl ⟨a,xs,i,w,rfl,rfl,hq,h3,q w H (Same.refl H) h4⟩)
 cases rx with
 |str zz ok =>
  unfold oIx at e
  simp only at e
  split at e
  ·obtain⟨c,h1,h2⟩:=bind_some e
   cases h2
   exact .inr (.inr ⟨zz,i,c,rfl,rfl,big (by assumption),h1,q _ H (Same.refl H) (.str _ (Aa9 ok h1))⟩)
  ·cases e
 |non=>exact seq e
 |bl _=>exact seq e
 |int _=>exact seq e
 |tup h1 h2=>exact seq e
 |lst h1 h2 h3=>exact seq e
 |kl h1 h2=>exact seq e
 |dic h1 h2 h3 h4=>exact seq e
 |dks _ _ _ _=>exact seq e
 |fz _ _ _=>exact seq e
 |fn _=>exact seq e
 |ref h=>exact seq e
theorem Art (ha:PD X a f) (hb:PD X b g) (hs:Lj b):PD X (.Subscript a b pos) (f2 oIx f g):=PE.imp (Arz Al2 ha hb hs) fun σ H Q h=>tE.bin h _ Am0
abbrev FO:=A0->MH->Option (Option Int)
inductive tO' (K:W.Frag) (f:FO) (σ:St) (H:Hp) (Q:Option Int->Hp->Prop):Prop
 |mk (env:A0) (μ:List Addr) (m:MH) (o:Option Int) (S:Sim K H μ m) (E:EnvRep K H μ σ env) (h:f env m=some o) (q:∀ H',Same H H'->Q o H')
abbrev PO' (X:Cx) (e:Option Expr) (f:FO):Prop:=PO X e (tO' X.K f)
theorem PO.imp {X:Cx}{e:Option Expr}{t t':TO} (h:PO X e t) (i:∀ σ H Q,t' σ H Q->t σ H Q):PO X e t':=fun pins s σ H Q I q=>h pins s σ H Q I (i σ H Q q)
noncomputable def fNo:FO:=fun _ _=>some none
noncomputable def asI:D->Option Int
 |.int i=>some i
 |_=>none
def C2 (f:FE):FO:=fun env m=>(f env m).bind fun d=>(asI d).bind fun i=>some (some i)
theorem Adg:PO' X none fNo:=PO.imp Ajh fun σ H Q ⟨env,μ,m,o,S,E,h,q⟩=>by cases h;exact q H (Same.refl H)
theorem Adh (h:PD X e f):PO' X (some e) (C2 f):=PO.imp (Aji h) fun σ H Q ⟨env,μ,m,o,S,E,h,q⟩=>by
 obtain⟨d,h1,h⟩:=bind_some h
 obtain⟨i,h2,h⟩:=bind_some h
 cases h
 refine⟨env,μ,m,d,S,E,h1,fun v H' s r=>?_⟩
 cases r<;>first|(cases h2;exact⟨_,rfl,q H' s⟩)|cases h2
def Dz {α:Type} (xs:List α) (lo hi:Option Int):List α:=(xs.drop (HT.sIx xs.length 0 lo)).take (HT.sIx xs.length xs.length hi - HT.sIx xs.length 0 lo)
theorem Reps.cut {K:W.Frag}{H:Hp}{μ:List Addr}{B:Addr->Prop}{ds:List D}{vs:List V} (r:Reps K H μ B ds vs) (lo hi:Option Int):Reps K H μ B (Dz ds lo hi) (Aeu vs lo hi):=by
 unfold Dz Aeu
 rw[r.length]
 exact (r.drop _).take _
theorem sl_str:SlR X (fun x lo hi H Q=>∃ z,x=.str z/\z.length<=sizeLine/\Q (.str (Txt.slice z lo hi)) H):=by
 intro pins s σ H x v vl vu lo hi sl Q I rx hs pl pu h
 obtain⟨z,rfl,hz,q⟩:=h
 obtain⟨t,rfl⟩:=rx
 refine⟨"str",_,F.slot_str_getitem.lookup,typeIs_str _ _ _,?_⟩
 cases pl with
 |none =>
  cases pu with
  |none=>exact Av8 (l:=none) (u:=none) (st:=none) hs rfl (post_val_or_str ⟨Aug (Txt.slice_le z _ _) hz,fun t' k=>⟨.str (Txt.slice z _ _),H,I.tok _,⟨_,rfl⟩,q⟩⟩)
  |int j t'=>exact Av8 (l:=none) (u:=some (j,t')) (st:=none) hs rfl (post_val_or_str ⟨Aug (Txt.slice_le z _ _) hz,fun t' k=>⟨.str (Txt.slice z _ _),H,I.tok _,⟨_,rfl⟩,q⟩⟩)
 |int i t1 =>
  cases pu with
  |none=>exact Av8 (l:=some (i,t1)) (u:=none) (st:=none) hs rfl (post_val_or_str ⟨Aug (Txt.slice_le z _ _) hz,fun t' k=>⟨.str (Txt.slice z _ _),H,I.tok _,⟨_,rfl⟩,q⟩⟩)
  |int j t'=>exact Av8 (l:=some (i,t1)) (u:=some (j,t')) (st:=none) hs rfl (post_val_or_str ⟨Aug (Txt.slice_le z _ _) hz,fun t' k=>⟨.str (Txt.slice z _ _),H,I.tok _,⟨_,rfl⟩,q⟩⟩)
def oSl:D->Option Int->Option Int->Option D
 |.str z,lo,hi=>if z.length<=1000000 then some (.str (Txt.slice z lo hi)) else none
 |.tup ds,lo,hi=>some (.tup (Dz ds lo hi))
 |_,_,_=>none
def fSl (f:FE) (l h:FO):FE:=fun env m=>(f env m).bind fun x=>(l env m).bind fun lo=>(h env m).bind fun hi=>oSl x lo hi
def Vv (f:FE) (l h:FO):FL:=fun env m=>(f env m).bind fun x=>(l env m).bind fun lo=>(h env m).bind fun hi=>match x with
 |.tup _=>none
 |x=>(sq m x).bind fun ds=>some (Dz ds lo hi)
end
theorem Em {prog:Program}{w:World}{A:Around}{E:Value->Shared->Prop}{s:Shared}{t sl:Addr}{items:Array Value}{vl vu:Value}{lo hi:Option Int}{Q:Value->Shared->Prop} (ht:IsTup s.heap t items) (hs:s.heap.IsSliceOf sl vl vu .none) (pl:IsPart vl lo) (pu:IsPart vu hi)
  (hw:HT.sIx items.size 0 lo=0/\HT.sIx items.size items.size hi=items.size) (h:Q (.ref t) s):wpAny (model prog w) A (getItem (.ref t) (.ref sl)) Q E s:=by
 obtain⟨os,hos,hcs,hds⟩:=id hs
 have hTs:s.TypeIs (.ref sl) "slice":=⟨os,hos,hcs⟩
 unfold getItem
 try with_reducible refine Au4 ?_
 first|refine Atu (Atv ?_)|skip
 refine Atu (wpAny_sequenceKey ht.typeIs (by decide) ?_)
 refine Atu (Avo (name:=Str.ofString "__getitem__") ht.typeIs PyProof.Rows.slot_tuple_getitem
  (Au6 PyProof.Rows.slot_tuple_getitem ht.typeIs entry_tuple_getitem ?_ (args_tuple_getitem _ _)))
 show wpAny _ _ (Builtin.Tuple.tupleItemsOf (.ref t) >>= _) _ _ s
 refine Atu (tupleItemsOf_ ht ?_)
 refine Atu (Av6 hTs ?_)
 rw[At4 (by decide)]
 refine Atu (HT.sliceApplied_gen hs pl pu ?_)
 have hyes:(((HT.sIx items.size 0 lo:Nat):Int) == 0&&(1:Int) == 1&&(HT.sIx items.size items.size hi - HT.sIx items.size 0 lo) == items.size)=true:=by
  rw[hw.1,hw.2]
  simp
 show wpAny _ _ (if (((HT.sIx items.size 0 lo:Nat):Int) == 0&&(1:Int) == 1&&(HT.sIx items.size items.size hi - HT.sIx items.size 0 lo) == items.size)=true then _ else _) _ _ s
 rw[At4 hyes]
 unfold Builtin.Tuple.tupleIsExact
 refine Atu (Atu (Av6 ht.typeIs (Atv ?_)))
 rw[At4 (by decide)]
 exact Atu (wpAny_rule (Atv ⟨_,rfl,Atv h⟩))
theorem Abi {α:Type}{xs:List α}{lo hi:Option Int} (h:HT.sIx xs.length 0 lo=0/\HT.sIx xs.length xs.length hi=xs.length):Dz xs lo hi=xs:=by
 unfold Dz
 rw[h.1,h.2]
 simp
section
variable {X:Cx}{a b c e:Expr}{es:List Expr}{pos p:Pos}{x:Str}{id T:String}
theorem Ake:SlR X (fun x lo hi H Q=>∃ a xs,x=.ref a/\SqT X.K H a xs/\(HT.sIx xs.length 0 lo=0/\HT.sIx xs.length xs.length hi=xs.length)/\Q (.ref a) H):=by
 intro pins s σ H x v vl vu lo hi sl Q I rx hs pl pu h
 obtain⟨a,xs,rfl,hx,hw,q⟩:=h
 cases rx
 obtain⟨its,r,ht,hz⟩:=I.tuple hx
 have hlen:its.toArray.size=xs.length:=by rw[At2];exact r.length.symm
 refine⟨"tuple",_,PyProof.Rows.slot_tuple_getitem.lookup,ht.typeIs,?_⟩
 exact Em ht hs pl pu (by rw[hlen];exact hw) ⟨.ref a,H,I,rfl,q⟩
theorem Arw {f:FE}{l h:FO}{lo hi:Option Expr}{p2:Pos} (ha:PD X a f) (hl:PO' X lo l) (hh:PO' X hi h):PD X (.Subscript a (.Slice lo hi none p2) pos) (fSl f l h) :=
 PE.imp (T9 (sl_str.or (sl_tup.or Ake)) ha hl hh) fun σ H Q ⟨env,μ,m,d,S,E,h,q⟩=>by
  obtain⟨x,h1,h⟩:=bind_some h
  obtain⟨lo,h2,h⟩:=bind_some h
  obtain⟨hi,h3,h⟩:=bind_some h
  refine⟨env,μ,m,x,S,E,h1,fun v H1 s1 r1=>⟨env,μ,m,lo,S.same s1,E.same s1,h2,fun H2 s2=>⟨env,μ,m,hi,S.same (s1.trans s2),E.same (s1.trans s2),h3,fun H3 s3=>?_⟩⟩⟩
  have s':=(s1.trans s2).trans s3
  have r3:=(r1.same s2).same s3
  cases r3 with
  |str z ok =>
   unfold oSl at h
   simp only at h
   split at h
   ·cases h
    exact .inl ⟨z,rfl,big (by assumption),q _ H3 s' (.str _ (R6 ok))⟩
   ·cases h
  |@tup ds a xs hq rs =>
   cases h
   by_cases hw:HT.sIx xs.length 0 lo=0/\HT.sIx xs.length xs.length hi=xs.length
   ·exact .inr (.inr ⟨a,xs,rfl,hq,hw,q _ H3 s' (by rw[Abi (by rw[rs.length];exact hw)];exact .tup hq rs)⟩)
   ·exact .inr (.inl ⟨a,xs,rfl,hq,hw,fun p hp=>q _ _ (s'.trans (A9 hp)) (.tup (.inl (.inl Ba)) ((rs.cut lo hi).same (A9 hp)))⟩)
  |non=>cases h
  |bl _=>exact Ah h
  |int _=>exact Ah h
  |lst _ _ _=>exact Ah h
  |kl _ _=>exact Ah h
  |ref _=>exact Ah h
  |dic _ _ _ _=>exact Ah h
  |dks _ _ _ _=>exact Ah h
  |fz _ _ _=>exact Ah h
  |fn _=>exact Ah h
theorem Ar1 {f:FE}{l h:FO}{lo hi:Option Expr}{p2:Pos} (ha:PD X a f) (hl:PO' X lo l) (hh:PO' X hi h):PF X (.Subscript a (.Slice lo hi none p2) pos) (Vv f l h) :=
 PE.imp (T9 Akd ha hl hh) fun σ H Q ⟨env,μ,m,d,S,E,h,q⟩=>by
  obtain⟨x,h1,h⟩:=bind_some h
  obtain⟨lo,h2,h⟩:=bind_some h
  obtain⟨hi,h3,h⟩:=bind_some h
  refine⟨env,μ,m,x,S,E,h1,fun v H1 s1 r1=>⟨env,μ,m,lo,S.same s1,E.same s1,h2,fun H2 s2=>⟨env,μ,m,hi,S.same (s1.trans s2),E.same (s1.trans s2),h3,fun H3 s3=>?_⟩⟩⟩
  have s':=(s1.trans s2).trans s3
  have r3:=(r1.same s2).same s3
  have fin:∀ {a:Addr}{xs:List V}{ds:List D},v=.ref a->SqL X.K H3 a xs->Reps X.K H3 μ (·∈μ) ds xs->d=Dz ds lo hi->As0 X.K v lo hi H3 Q:=fun {a xs ds} e hq rs e2=>by
   subst e
   subst e2
   exact⟨a,xs,rfl,hq,fun p hp=>q p _ _ (s'.trans (A9 hp)) (s'.free hp) Ba ((rs.cut lo hi).fresh hp)⟩
  cases r3 with
  |@lst ds a xs hq _ rs=>cases h;exact fin rfl (.inl hq) rs rfl
  |@kl ds a xs hq rs=>cases h;exact fin rfl hq.sq rs rfl
  |@ref n a e =>
   simp only at h
   obtain⟨ds,h4,h⟩:=bind_some h
   cases h
   unfold sq at h4
   cases q':m[n]? with
   |none=>simp[q'] at h4
   |some o =>
    simp only[q'] at h4
    cases o with
    |dcs _ _=>cases h4
    |dct _=>cases h4
    |lst ds' =>
     cases h4
     obtain⟨xs,e1,e2⟩:=(S.same s').obj n a _ e q'
     exact fin rfl (SqL.of e1) e2 rfl
  |_=>cases h
theorem Py {s:Shared}{A:Around}{prog:Program}{w:World}{E:Value->Shared->Prop}{t b:Addr}{ws:List Value}{Q:Value->Shared->Prop} (ht:IsTup s.heap t #[]) (hb:IsTup s.heap b ws.toArray) (h:Q (.ref b) s) :
  wpAny (model prog w) A (binaryOp .Add (.ref t) (.ref b)) Q E s:=by
 obtain⟨⟨cls,dd,data,sl⟩,ho,hc,n,hd⟩:=id ht
 obtain⟨⟨cls2,dd2,data2,sl2⟩,ho2,hc2,n2,hd2⟩:=id hb
 simp only at hc hd hc2 hd2
 subst hc hd hc2 hd2
 exact concat_meets ⟨_,ho,rfl⟩ ⟨_,ho2,rfl⟩ noFill_tuple_add seq_tuple_add PySem.F.slot_tuple_add PySem.F.entry_tuple_add (PySem.F.args_tuple_add_2 _ _)
   (tuple_addW0 t b #[] ws.toArray n n2 dd dd2 sl sl2 (by simp)) ⟨ho,ho2,h⟩
theorem Ac6:OpR X (binaryOp .Add) (fun x y H Q=>∃ a b ys,x=.ref a/\y=.ref b/\SqT X.K H a []/\SqT X.K H b ys/\Q (.ref b) H):=by
 intro pins s σ H x y v u Q I rx ry h
 obtain⟨a,b,ys,rfl,rfl,ha,hb,q⟩:=h
 cases rx
 cases ry
 obtain⟨its,r1,p1,_⟩:=I.tuple ha
 cases r1
 obtain⟨its2,r2,p2,_⟩:=I.tuple hb
 exact Py p1 p2 ⟨.ref b,H,I,rfl,q⟩
set_option tactic.hygienic true in
theorem Bz:OpM X (binaryOp .Add) Gd:=OpM.of (op_add.or (op_add_str.or (op_catT.or Ac6))) fun μ m x y z v u H Q S rx ry e q=>by
 cases rx<;>first|exact Ah e|skip
 all_goals cases ry<;>first|exact Ah e|skip
 ·cases e;exact .inl ⟨_,_,rfl,rfl,q _ H (Same.refl H) (.int _)⟩
 ·rename_i i ok j ok'
  unfold Gd at e
  simp only at e
  split at e
  ·cases e;exact .inr (.inl ⟨_,_,rfl,rfl,big (by assumption),q _ H (Same.refl H) (.str _ (O6 ok ok'))⟩)
  ·cases e
 ·rename_i ds a xs hq rs es b ys hq' rs'
  unfold Gd at e
  simp only at e
  split at e
  ·rename_i hl
   cases e
   by_cases hx:xs=[]
   ·subst hx
    cases rs
    exact .inr (.inr (.inr ⟨a,b,ys,rfl,rfl,hq,hq',q _ H (Same.refl H) (by rw[Awe];exact .tup hq' rs')⟩))
   ·refine .inr (.inr (.inl ⟨a,b,xs,ys,rfl,rfl,hq,hq',hx,by rw[<- rs.length,<- rs'.length];exact big hl,fun hy=>?_,fun hy p hp=>?_⟩))
    ·subst hy
     cases rs'
     exact q _ H (Same.refl H) (by rw[Aue];exact .tup hq rs)
    ·exact q _ _ (A9 hp) (.tup (.inl (.inl Ba)) ((rs.append rs').same (A9 hp)))
  ·cases e
def sqL (m:MH):D->Option (List D)
 |.tup _=>none
 |d=>sq m d
def Ae0 (f g:FE):FL:=fun env m=>(f env m).bind fun x=>(g env m).bind fun y=>(sqL m x).bind fun xs=>(sqL m y).bind fun ys=>if xs.length+ys.length<=1000000 then some (xs++ys) else none
theorem Jc {K:W.Frag}{H:Hp}{μ:List Addr}{m:MH} (S:Sim K H μ m) {d:D}{v:V}{ds:List D} (r:Rep K H μ (·∈μ) d v) (h:sqL m d=some ds):∃ a xs,v=.ref a/\SqL K H a xs/\Reps K H μ (·∈μ) ds xs:=by
 cases r with
 |@ref n a e =>
  unfold sqL sq at h
  cases q:m[n]? with
  |none=>simp[q] at h
  |some o =>
   simp only[q] at h
   cases o with
   |dcs _ _=>cases h
   |dct _=>cases h
   |lst ds =>
    cases h
    obtain⟨xs,e1,e2⟩:=S.obj n a _ e q
    exact⟨a,xs,rfl,SqL.of e1,e2⟩
 |@lst ds a xs h1 h3 h2=>cases h;exact⟨a,xs,rfl,.inl h1,h2⟩
 |@kl ds a xs h1 h2=>cases h;exact⟨a,xs,rfl,h1.sq,h2⟩
 |_=>exact Ah h
theorem Aiy:OpR X (binaryOp .Add) (fun x y H Q=>∃ l b xs zs,x=.ref l/\y=.ref b/\SqL X.K H l xs/\SqL X.K H b zs/\xs.length+zs.length<=sizeLine/\∀ p,H p=none->Q (.ref p) (upd H p (.lst (xs++zs)))):=by
 intro pins s σ H x y v u Q I rx ry h
 obtain⟨l,b,xs,zs,rfl,rfl,hl,hb,hz,q⟩:=h
 cases rx
 cases ry
 obtain⟨its,r,⟨⟨cls,dd,data,sl⟩,n,ho,hc,hdd,hd⟩,z⟩:=I.list hl
 obtain⟨its2,r2,⟨⟨cls2,dd2,data2,sl2⟩,n2,ho2,hc2,hdd2,hd2⟩,z2⟩:=I.list hb
 simp only at hc hd hc2 hd2 hdd hdd2
 subst hc hd hc2 hd2 hdd hdd2
 have hl:=r.length
 have hl2:=r2.length
 refine concat_meets ⟨_,ho,rfl⟩ ⟨_,ho2,rfl⟩ noFill_list_add seq_list_add PySem.F.slot_list_add PySem.F.entry_list_add (PySem.F.args_list_add_2 _ _)
   (list_addW l b its.toArray its2.toArray n n2 none none sl sl2 (by rw[At2,At2];lia)) ⟨ho,ho2,?_⟩
 have ea:its.toArray++its2.toArray=(its++its2).toArray:=by simp
 rw[ea]
 exact⟨.ref _,_,I.lnew (t':=s.toks) (r.append r2) (by rw[Aui];lia),rfl,q _ I.fresh⟩
theorem Anq {f g:FE} (ha:PD X a f) (hb:PD X b g):PF X (.BinOp a .Add b pos) (Ae0 f g):=PE.imp (Anm Aiy ha hb) fun σ H Q ⟨env,μ,m,d,S,E,h,q⟩=>by
 obtain⟨x,h1,h⟩:=bind_some h
 obtain⟨y,h2,h⟩:=bind_some h
 obtain⟨xs,h3,h⟩:=bind_some h
 obtain⟨ys,h4,h⟩:=bind_some h
 split at h
 ·rename_i hl
  cases h
  refine⟨env,μ,m,x,S,E,h1,fun v H1 s1 r1=>⟨env,μ,m,y,S.same s1,E.same s1,h2,fun u H2 s2 r2=>?_⟩⟩
  obtain⟨l,vs,rfl,e1,rs⟩:=Jc (S.same (s1.trans s2)) (r1.same s2) h3
  obtain⟨b,ws,rfl,e2,rs'⟩:=Jc (S.same (s1.trans s2)) r2 h4
  exact⟨l,b,vs,ws,rfl,rfl,e1,e2,by rw[<- rs.length,<- rs'.length];exact big hl,fun p hp=>q p _ _ ((s1.trans s2).trans (A9 hp)) ((s1.trans s2).free hp) Ba ((rs.append rs').fresh hp)⟩
 ·cases h
def Lg (X:Cx) (f:Value) (o:List D->MH->Option D):Prop :=
 ∀ (pins:List (Addr×Obj)) (s:Shared) (σ:St) (H:Hp) (μ:List Addr) (m:MH) (xs:List D) (z:D) (vs:List V) (us:List Value) (Q:VK),Inv X pins σ H s->Sim X.K H μ m->Reps X.K H μ (·∈μ) xs vs->Vals vs us->o xs m=some z ->
  (∀ w H2,Same H H2->Rep X.K H2 μ (·∈μ) z w->Q w H2)->wpAny (model X.prog X.w) X.A (call f us) (EP X pins σ Q) X.xe s
noncomputable def Ao (o:List D->MH->Option D) (g:FL):FE:=fun env m=>(g env m).bind fun xs=>o xs m
noncomputable def Bn (o:List D->MH->Option (List D)) (g:FL):FL:=fun env m=>(g env m).bind fun xs=>o xs m
theorem Alk (ho:Lg X k o) (ha:PL X es g) {s:Shared}{H:Hp} (I:Inv X pins σ H s) (h:tE X.K (Ao o g) σ H Q) :
  wpAny (model X.prog X.w) X.A (spliced (backTo pos (starEach es X.env))) (fun us s1=>wpAny (model X.prog X.w) X.A (call k us) (EP X pins σ Q) X.xe s1) X.xe s:=by
 obtain⟨env,μ,m,d,S,E,h,q⟩:=h
 obtain⟨xs,h1,h2⟩:=bind_some h
 refine thn (ha pos pins s σ H (fun vs H1=>Same H H1/\Reps X.K H1 μ (·∈μ) xs vs) I ⟨env,μ,m,xs,S,E,h1,fun v H1 s1 r1=>⟨s1,r1⟩⟩) fun us s1 ⟨vs,H1,I1,r1,s1',rx⟩=>?_
 exact ho pins s1 σ H1 μ m xs d vs us Q I1 (S.same s1') rx r1 h2 fun w H2 s2 r2=>q w H2 (s1'.trans s2) r2
theorem Mv (hc:Lg X (.builtin id) o) (hg:Gl X x) (hm:X.mg x=none) (hv:bootBuiltins x=some (.builtin id)) (ha:PL X (e::es) g) (hn:x≠"__name__") (hdb:(x == ("__debug__":Str))=false) (he:starEach (e::es) X.env=(false,eval e X.env)::starEach es X.env) (hpl:(backTo pos (starEach es X.env)).any (·.1)=false):PD X (.Call (.Name x p) (e::es) [] pos) (Ao o g):=by
 intro pins s σ H Q I h
 refine Aux (D2 I hg hm hv ?_ hn hdb)
 exact PyProof.Rows.callWith_builtin1 (Alk hc ha I h) he hpl
theorem Ir (hc:Lg X (.type T) o) (hg:Gl X x) (hm:X.mg x=none) (hv:bootBuiltins x=some (.type T)) (ha:PL X (e::es) g) (hn:x≠"__name__") (hdb:(x == ("__debug__":Str))=false) (he:starEach (e::es) X.env=(false,eval e X.env)::starEach es X.env) (hpl:(backTo pos (starEach es X.env)).any (·.1)=false):PD X (.Call (.Name x p) (e::es) [] pos) (Ao o g):=by
 intro pins s σ H Q I h
 refine Aux (D2 I hg hm hv ?_ hn hdb)
 exact PyProof.Rows.callWith_type1 (Alk hc ha I h) he hpl
inductive R1 (K:W.Frag) (H:Hp) (μ:List Addr) (B:Addr->Prop) (d:D) (vs:List V):Prop where
 |mk (v:V) (e:vs=[v]) (r:Rep K H μ B d v)
theorem Reps.one {K:W.Frag}{H:Hp}{μ:List Addr}{B:Addr->Prop}{d:D}{vs:List V} (r:Reps K H μ B [d] vs):R1 K H μ B d vs:=by
 cases r with
 |cons h r=>cases r;exact⟨_,rfl,h⟩
theorem Reps.two {K:W.Frag}{H:Hp}{μ:List Addr}{B:Addr->Prop}{d d':D}{vs:List V} (r:Reps K H μ B [d,d'] vs):∃ v v',vs=[v,v']/\Rep K H μ B d v/\Rep K H μ B d' v':=by
 cases r with
 |cons h r =>
  cases r with
  |cons h' r=>cases r;exact⟨_,_,rfl,h,h'⟩
def Ara (m:MH):D->Option Nat
 |.str z=>if z.length<=1000000 then some z.length else none
 |d=>(sq m d).bind fun ds=>some ds.length
def Jn:List D->MH->Option D:=fun xs m=>match xs with
 |[d]=>(Ara m d).bind fun n=>some (.int n)
 |_=>none
theorem Aim {K:W.Frag}{H:Hp}{μ:List Addr}{m:MH} (S:Sim K H μ m) {d:D}{v:V}{n:Nat} (r:Rep K H μ (·∈μ) d v) (h:Ara m d=some n):Ape K v H n:=by
 have seq:((sq m d).bind fun ds=>some ds.length)=some n->Ape K v H n:=fun h=>by
  obtain⟨ds,h1,h2⟩:=bind_some h
  cases h2
  obtain⟨a,xs,rfl,hq,rs⟩:=Uh S r h1
  rcases hq with hq|hq
  ·exact .inl ⟨xs,hq,rs.length⟩
  ·exact .inr ⟨xs,hq,rs.length⟩
 cases r with
 |str z ok =>
  unfold Ara at h
  simp only at h
  split at h
  ·cases h;exact⟨big (by assumption),rfl⟩
  ·exact Ah h
 |non=>exact seq h
 |bl _=>exact seq h
 |int _=>exact seq h
 |tup h1 h2=>exact seq h
 |lst h1 h2 h3=>exact seq h
 |kl h1 h2=>exact seq h
 |dic h1 h2 h3 h4=>exact seq h
 |dks _ _ _ _=>exact seq h
 |fz _ _ _=>exact seq h
 |fn _=>exact seq h
 |ref h'=>exact seq h
theorem Alq:Lg X (.builtin "len") Jn:=by
 intro pins s σ H μ m xs z vs us Q I S rx rv e q
 match xs,e with
 |[d],e =>
  obtain⟨n,h1,h2⟩:=bind_some e
  cases h2
  obtain⟨v,rfl,r⟩:=rx.one
  exact Ab1 pins s σ H [v] us Q I rv ⟨v,n,rfl,Aim S r h1,q _ H (Same.refl H) (.int _)⟩
noncomputable def Aiv:List D->MH->Option D:=fun xs _=>match xs with
 |[.int i]=>some (.int i)
 |[.bl b]=>some (.int (if b then 1 else 0))
 |[.str z]=>if z.length<=640 then (PySem.intText? z).bind fun i=>some (.int i) else none
 |_=>none
theorem Afi {α:Type}{o:List D->Option α}{xs:List D}{z:α} (hn:o []=none) (hc:∀ a b l,o (a::b::l)=none) (e:o xs=some z):∃ d,xs=[d]:=by
 cases xs with
 |nil=>rw[hn] at e;exact Ah e
 |cons a l =>
  cases l with
  |nil=>exact⟨a,rfl⟩
  |cons b l=>rw[hc] at e;exact Ah e
theorem Alp:Lg X (.type "int") Aiv:=by
 intro pins s σ H μ m xs z vs us Q I S rx rv e q
 obtain⟨d,rfl⟩:=Afi (o:=(Aiv · m)) rfl (fun a _ _=>by cases a<;>rfl) e
 obtain⟨v,rfl,r⟩:=rx.one
 cases r with
 |int i =>
  cases e
  exact Nr pins s σ H _ us Q I rv (.inl ⟨i,rfl,q _ H (Same.refl H) (.int _)⟩)
 |bl b =>
  cases e
  exact Nr pins s σ H _ us Q I rv (.inr ⟨b,rfl,q _ H (Same.refl H) (.int _)⟩)
 |str x _ =>
  unfold Aiv at e
  simp only at e
  split at e
  ·obtain⟨i,h1,h2⟩:=bind_some e
   cases h2
   obtain⟨u,rfl,t,rfl⟩:=Jh rv
   exact W.KIN.call_text h1 (by assumption) ⟨.int i,H,I.tok _,⟨_,rfl⟩,q _ H (Same.refl H) (.int _)⟩
  ·cases e
 |_=>exact Ah e
theorem Jq (z:String):PyData.strOk (Str.ofString z)=true:=by
 rw[Jf]
 intro c hc
 rw[Str.ofString_eq_toList] at hc
 have:c∈z.toList.map Char.toNat:=by simpa using hc
 obtain⟨k,_,rfl⟩:=List.mem_map.mp this
 have:=k.valid
 rcases this with h|h
 ·show k.val.toNat < _
  lia
 ·show k.val.toNat < _
  lia
def Dm:List D->MH->Option D:=fun xs m=>match xs with
 |[d]=>(sq m d).bind fun ds=>some (.tup ds)
 |_=>none
theorem Ab4:Lg X (.type "tuple") Dm:=by
 intro pins s σ H μ m xs z vs us Q I S rx rv e q
 match xs,e with
 |[d],e =>
  obtain⟨ds,h1,h2⟩:=bind_some e
  cases h2
  obtain⟨v,rfl,r⟩:=rx.one
  obtain⟨a,ys,rfl,hq,rs⟩:=Uh S r h1
  refine Ls pins s σ H _ us Q I rv ⟨a,ys,rfl,?_⟩
  rcases hq with hq|hq
  ·exact .inl ⟨hq,fun l hl=>q _ _ (A9 hl) (.tup (.inl (.inl Ba)) (rs.same (A9 hl)))⟩
  ·exact .inr ⟨hq,q _ H (Same.refl H) (.tup hq rs)⟩
noncomputable def tyD (m:MH):D->Option String
 |.non=>some "NoneType"|.bl _=>some "bool"|.int _=>some "int"|.str _=>some "str"|.tup _=>some "tuple"|.lst _=>some "list"|.kl _=>some "list"
 |.ref n=>match m[n]? with
  |some (.lst _)=>some "list"
  |some (.dct _ _)=>none
  |some (.dcs _ _)=>none
  |none=>none
 |.dic _ _=>none
 |.dks _ _=>none
 |.fz _ _ _ _=>none
 |.fn _ _=>none
noncomputable def Uy (T U:String):Option Bool:=if U="int"\/U="bool"\/U="str"\/U="tuple"\/U="list" then some (T == U||(T == "bool"&&U == "int")) else none
theorem Jm (K:W.Frag) {T U:String}{b:Bool} (hT:T="NoneType"\/T="bool"\/T="int"\/T="str"\/T="tuple"\/T="list") (h:Uy T U=some b):W.kitOne K (.type T) (.type U)=some b:=by
 unfold Uy at h
 split at h
 ·rename_i hU
  cases h
  rcases hT with rfl|rfl|rfl|rfl|rfl|rfl<;>rcases hU with rfl|rfl|rfl|rfl|rfl<;>kernel_rfl
 ·cases h
def Acd (U:String) (f:FE):FE:=fun env m=>(f env m).bind fun d=>(tyD m d).bind fun T=>(Uy T U).bind fun b=>some (.bl b)
end
section
variable {X:Cx}{a b c e o':Expr}{es:List Expr}{pos p p' apos cpos:Pos}{x:Str}{id T:String}
theorem Aij {pins:List (Addr×Obj)}{σ:St}{H:Hp}{s:Shared}{A:Around}{E:Value->Shared->Prop}{Q:Value->Shared->Prop}{a:Addr}{xs:List V}{c:Value}{b:Bool} (I:Inv X pins σ H s) (h:SqT X.K H a xs) (e:W.kitOne X.K (.type "tuple") c=some b) (q:∀ tk,Q (.bool b) { s with toks:=tk }) :
  wpAny (model X.prog X.w) A (call (.builtin "isinstance") [.ref a,c]) Q E s:=by
 obtain⟨its,_,⟨o,h1,h2,_⟩,_⟩:=I.tuple h
 exact W.kia_one W.kitx_tuple I.kIn ⟨o,h1,h2⟩ e (fun z=>nomatch z) q
theorem Aq7 {pins:List (Addr×Obj)}{σ:St}{H:Hp}{s:Shared}{A:Around}{E:Value->Shared->Prop}{Q:Value->Shared->Prop}{μ:List Addr}{m:MH}{d:D}{v:V}{u:Value}{T U:String}{b:Bool} (I:Inv X pins σ H s) (S:Sim X.K H μ m) (r:Rep X.K H μ (·∈μ) d v) (ru:RelV v u)
  (h:tyD m d=some T) (hb:Uy T U=some b) (q:∀ tk,Q (.bool b) { s with toks:=tk }):wpAny (model X.prog X.w) A (call (.builtin "isinstance") [u,.type U]) Q E s:=by
 cases r with
 |non=>cases h;exact Cs I ru .non (Jm X.K (by simp) hb) q
 |bl b=>cases h;exact Cs I ru (.bl b) (Jm X.K (by simp) hb) q
 |int b=>cases h;exact Cs I ru (.int b) (Jm X.K (by simp) hb) q
 |str b _=>cases h;exact Cs I ru (.str b) (Jm X.K (by simp) hb) q
 |tup h1 h2=>cases h;cases ru;exact Aij I h1 (Jm X.K (by simp) hb) q
 |lst h1 h2 h3 =>
  cases h
  rcases h1 with h1|⟨o,h1⟩
  ·exact Cs I ru (.lst h1) (Jm X.K (by simp) hb) q
  ·exact Cs I ru (.frz h1) (Jm X.K (by simp) hb) q
 |kl h1 h2 =>
  cases h
  cases ru
  rcases h1 with ⟨o,h1⟩|⟨o,its,n,hk,hc,_⟩
  ·exact Cs (x:=.ref _) (u:=.ref _) I rfl (.frz h1) (Jm X.K (by simp) hb) q
  ·exact W.kia_one W.kitx_list I.kIn ⟨o,I.kIn _ _ hk,hc⟩ (Jm X.K (by simp) hb) (fun z=>nomatch z) q
 |dic h1 h2 h3 h4=>exact Ah h
 |dks _ _ _ _=>exact Ah h
 |fz _ _ _=>exact Ah h
 |fn _=>exact Ah h
 |@ref n a e =>
  unfold tyD at h
  cases q':m[n]? with
  |none=>simp[q'] at h
  |some ob =>
   simp only[q'] at h
   cases ob with
   |dcs _ _=>cases h
   |dct _ _=>cases h
   |lst ds =>
    cases h
    obtain⟨xs,e1,e2⟩:=S.obj n a _ e q'
    exact Cs I ru (.lst e1) (Jm X.K (by simp) hb) q
theorem Anb (ha:PD X e f) (hg:Gl X "isinstance") (hm:X.mg "isinstance"=none) (hg':Gl X y) (hm':X.mg y=none) (hv':bootBuiltins y=some (.type U)) (hn:y≠"__name__") (hdb:(y == ("__debug__":Str))=false) (hv:bootBuiltins "isinstance"=some (.builtin "isinstance")) (he:starEach [e,.Name y p'] X.env=(false,eval e X.env)::starEach [.Name y p'] X.env) (he':starEach [.Name y p'] X.env=(false,eval (.Name y p') X.env)::starEach [] X.env) (hpl:(backTo pos (starEach [.Name y p'] X.env)).any (·.1)=false) :
  PD X (.Call (.Name "isinstance" p) [e,.Name y p'] [] pos) (Acd U f):=by
 intro pins s σ H Q I h
 obtain⟨env,μ,m,z,S,E,h,q⟩:=h
 obtain⟨d,h1,h⟩:=bind_some h
 obtain⟨T,h2,h⟩:=bind_some h
 obtain⟨b,h3,h⟩:=bind_some h
 cases h
 have hA:PA X [e,.Name y p'] (R8 (tE X.K f) (R8 (tC (.ty U)) Apb)):=Dg ha (Dg (Aaf hg' hm' hv' rfl hn hdb) J5 he') he
 refine Aux (D2 I hg hm hv ?_ (by decide) (by decide))
 refine PyProof.Rows.callWith_builtin1 (thn (hA pos pins s σ H (fun vs H1=>∃ v,vs=[v,.ty U]/\Same H H1/\Rep X.K H1 μ (·∈μ) d v) I ⟨env,μ,m,d,S,E,h1,fun v H1 s1 r1=>⟨v,rfl,s1,r1⟩⟩) fun us s1 ⟨vs,H1,I1,rv,v,e1,s1',rx⟩=>?_) he hpl
 subst e1
 obtain⟨u,w,rfl,r1,r2⟩:=Abf rv
 cases r2
 have S1:=S.same s1'
 have fin:∀ tk,EP X pins σ Q (.bool b) { s1 with toks:=tk }:=fun tk=>⟨.bl b,H1,I1.tok _,rfl,q _ H1 s1' (.bl b)⟩
 exact Aq7 I1 S1 rx r1 h2 h3 fin
def inO (m:MH) (x y:D):Option Bool:=match y with
 |.str z=>(match x with
  |.str w=>some (!(Builtin.Str.occurrences z w 0 z.length 1).isEmpty)
  |_=>none)
 |y=>(Ci m x).bind fun x'=>(Ci m y).bind fun y'=>(sq [] y').bind fun ds=>if dep x'<=50 then some (ds.any fun d=>deq d x') else none
def oIn:D->D->MH->Option D:=fun x y m=>(inO m x y).bind fun b=>some (.bl b)
def D3:D->D->MH->Option D:=fun x y m=>(inO m x y).bind fun b=>some (.bl (!b))
mutual
theorem Tq {pins:List (Addr×Obj)}{σ:St}{H:Hp}{s:Shared}{A:Around}{d d':D}{v v':V}{u u':Value}{μ:List Addr}{B:Addr->Prop} (I:Inv X pins σ H s) (r:Rep X.K H μ B d v) (r':Rep X.K H μ B d' v') (n:Bm d=true) (n':Bm d'=true) (ru:RelV v u) (ru':RelV v' u') (hu:A.units+dep d' < cLine) :
  SeqAt.EqAt A s u u' (deq d d'):=by
 obtain⟨as,ra⟩:=Du I r n ru
 obtain⟨bs,rb⟩:=Du I r' n' ru'
 refine SeqAt.eqAt_reads _ _ _ _ _ _ _ _ ra rb (Eo r) (Eo r') ?_
 rw[Hv,Hv]
 lia
end
theorem B1:∀ {ds:List D}{d:D},Au ds=true->d∈ds->Bm d=true
 |_::_,_,h,.head _=>(Bool.and_eq_true_iff.mp h).1
 |_::_,_,h,.tail _ q=>B1 (Bool.and_eq_true_iff.mp h).2 q
theorem Rep.tl {pins:List (Addr×Obj)}{σ:St}{H:Hp}{s:Shared}{a:Addr}{xs ys:List V} (I:Inv X pins σ H s) (h:SqT X.K H a xs) (h':SqL X.K H a ys):False:=by
 obtain⟨its,_,p,_⟩:=I.tuple h
 obtain⟨its',_,p',_⟩:=I.list h'
 exact SeqAt.ne_of_list_tuple p'.isList p rfl
mutual
theorem Rx {H:Hp}{s:Shared} (I:Inv X pins σ H s) {d d':D}{v:V} (r:Rep X.K H μ B d v) (q:Rep X.K H μ B d' v) (n:Bm d=true) (n':Bm d'=true):pyD d=pyD d':=by
 cases r with
 |non=>cases q;rfl
 |bl _=>cases q;rfl
 |int _=>cases q;rfl
 |str _ _=>cases q;rfl
 |ref _=>exact Ct n
 |dic _ _ _ _=>exact Ct n
 |dks _ _ _ _=>exact Ct n
 |fz _ _ _=>exact Ct n
 |fn _=>exact Ct n
 |tup h r =>
  cases q with
  |tup h' r' =>
   cases I.tuple_inj h h'
   exact Avz PyData.tuple (Ea I r r' n n')
  |lst h' _ r'=>exact (Rep.tl I h (.inl h')).elim
  |kl h' r'=>exact (Rep.tl I h h'.sq).elim
  |_=>exact Ct n'
 |lst h _ r =>
  cases q with
  |tup h' r'=>exact (Rep.tl I h' (.inl h)).elim
  |lst h' _ r' =>
   cases I.list_inj (.inl h) (.inl h')
   exact Avz PyData.list (Ea I r r' n n')
  |kl h' r' =>
   cases I.list_inj (.inl h) h'.sq
   exact Avz PyData.list (Ea I r r' n n')
  |_=>exact Ct n'
 |kl h r =>
  cases q with
  |tup h' r'=>exact (Rep.tl I h' h.sq).elim
  |lst h' _ r' =>
   cases I.list_inj h.sq (.inl h')
   exact Avz PyData.list (Ea I r r' n n')
  |kl h' r' =>
   cases I.list_inj h.sq h'.sq
   exact Avz PyData.list (Ea I r r' n n')
  |_=>exact Ct n'
theorem Ea {H:Hp}{s:Shared} (I:Inv X pins σ H s) {d d':List D}{v:List V} (r:Reps X.K H μ B d v) (q:Reps X.K H μ B d' v) (n:Au d=true) (n':Au d'=true):Iy d=Iy d':=by
 cases r with
 |nil=>cases q;rfl
 |cons h r =>
  cases q with
  |cons h' r' =>
  have e:=Bool.and_eq_true_iff.mp n
  have e':=Bool.and_eq_true_iff.mp n'
  rw[Iy,Iy,Rx I h h' e.1 e'.1,Ea I r r' e.2 e'.2]
end
theorem Lz {pins:List (Addr×Obj)}{σ:St}{H:Hp}{s:Shared}{A:Around}{μ:List Addr}{B:Addr->Prop}{x:D}{vx:V}{ux:Value} (I:Inv X pins σ H s) (rx:Rep X.K H μ B x vx) (nx:Bm x=true) (rux:RelV vx ux) (hu:A.units+dep x < cLine)
  {ds:List D}{vs:List V}{us:List Value} (rs:Reps X.K H μ B ds vs) (ns:Au ds=true) (rv:Vals vs us) :
  ∃ e:Value->Bool,(∀ y∈us,SeqAt.EqAt A s y ux (e y))/\us.any e=ds.any fun d=>deq d x:=by
 have key:∀ y,∃ b:Bool,∀ (i:Nat) (d:D),us[i]?=some y->ds[i]?=some d->b=deq d x:=fun y=>by
  by_cases h:∃ (i:Nat) (d:D),us[i]?=some y/\ds[i]?=some d
  ·obtain⟨i,d,h1,h2⟩:=h
   refine⟨deq d x,fun j d' h3 h4=>?_⟩
   obtain⟨v,e1,r1⟩:=rs.get h2
   obtain⟨v',e2,r2⟩:=rs.get h4
   obtain⟨u,e3,r3⟩:=rv.get e1
   obtain⟨u',e4,r4⟩:=rv.get e2
   rw[h1] at e3;cases e3
   rw[h3] at e4;cases e4
   cases r3.inj r4
   unfold deq
   rw[Rx I r1 r2 (B1 ns (Auc h2)) (B1 ns (Auc h4))]
  ·exact⟨false,fun i d h1 h2=>absurd ⟨i,d,h1,h2⟩ h⟩
 refine⟨fun y=>Classical.choose (key y),fun y hy=>?_,?_⟩
 ·obtain⟨i,hi⟩:=Avt hy
  have hil:i < ds.length:=by
   have:=(List.getElem?_eq_some_iff.mp hi).1
   rw[rs.length,rv.length];exact this
  obtain⟨v,e1,r1⟩:=rs.get (i:=i) (d:=ds[i]) (by simp[hil])
  obtain⟨u,e3,r3⟩:=rv.get e1
  rw[hi] at e3;cases e3
  have ec:=Classical.choose_spec (key y) i ds[i] hi (by simp[hil])
  show SeqAt.EqAt A s y ux (Classical.choose (key y))
  rw[ec]
  exact Tq I r1 rx (B1 ns (Auz hil)) nx r3 rux hu
 ·have aux:∀ (f:Value->Bool) (ds:List D) (us:List Value),us.length=ds.length->(∀ (i:Nat) (y:Value) (d:D),us[i]?=some y->ds[i]?=some d->f y=deq d x)->us.any f=ds.any fun d=>deq d x:=fun f=>by
   intro ds
   induction ds with
   |nil=>intro us hl _;cases us with
    |nil=>rfl
    |cons _ _=>cases hl
   |cons d ds ih =>
    intro us hl h
    cases us with
    |nil=>cases hl
    |cons y us =>
     rw[Avd,Avd,h 0 y d rfl rfl,ih us (by simpa using hl) fun i y d h1 h2=>h (i+1) y d (by simpa using h1) (by simpa using h2)]
  exact aux _ ds us (by rw[rs.length,rv.length]) fun i y d h1 h2=>Classical.choose_spec (key y) i d h1 h2
theorem Yz {k:Nat} (hr:Room k X.A) {pins:List (Addr×Obj)}{s:Shared}{σ:St}{H:Hp}{μ:List Addr}{m:MH}{x y:D}{v u:V}{v' u':Value}{b:Bool}{R:Bool->Prop} (I:Inv X pins σ H s) (S:Sim X.K H μ m) (rx:Rep X.K H μ (·∈μ) x v) (ry:Rep X.K H μ (·∈μ) y u) (r1:RelV v v') (r2:RelV u u')
  (e:inO m x y=some b):(∃ z w t t',v'=.str w t/\u'=.str z t'/\b=!(Builtin.Str.occurrences z w 0 z.length 1).isEmpty) \/
   ∃ (p:Addr) (its:List Value) (e:Value->Bool),u'=.ref p/\(s.heap.IsList p its.toArray\/s.heap.IsTuple p its.toArray)/\(∀ y∈its,SeqAt.EqAt X.A.in1 s y v' (e y))/\its.any e=b:=by
 have seq:((Ci m x).bind fun x'=>(Ci m y).bind fun y'=>(sq [] y').bind fun ds=>if dep x'<=50 then some (ds.any fun d=>deq d x') else none)=some b ->
   ∃ (p:Addr) (its:List Value) (e:Value->Bool),u'=.ref p/\(s.heap.IsList p its.toArray\/s.heap.IsTuple p its.toArray)/\(∀ y∈its,SeqAt.EqAt X.A.in1 s y v' (e y))/\its.any e=b:=fun h=>by
  obtain⟨x',h1,h⟩:=bind_some h
  obtain⟨y',h2,h⟩:=bind_some h
  obtain⟨ds,h3,h⟩:=bind_some h
  split at h
  ·rename_i hd
   cases h
   obtain⟨a1,n1⟩:=A5 S rx h1
   obtain⟨a2,n2⟩:=A5 S ry h2
   have hu:=hr.units
   have hu':X.A.in1.units+dep x' < cLine:=by show X.A.units+1+dep x' < cLine;lia
   cases a2 with
   |@tup es a xs hq rs =>
    cases h3
    cases r2
    obtain⟨its,rv,p,_⟩:=I.tuple hq
    obtain⟨f,h4,h5⟩:=Lz I a1 n1 r1 hu' rs n2 rv
    exact⟨a,its,f,rfl,.inr p,h4,h5⟩
   |@lst es a xs hq _ rs =>
    cases h3
    cases r2
    obtain⟨its,rv,p,_⟩:=I.list (.inl hq)
    obtain⟨f,h4,h5⟩:=Lz I a1 n1 r1 hu' rs n2 rv
    exact⟨a,its,f,rfl,.inl p.isList,h4,h5⟩
   |@kl es a xs hq rs =>
    cases h3
    cases r2
    obtain⟨its,rv,p,_⟩:=I.list hq.sq
    obtain⟨f,h4,h5⟩:=Lz I a1 n1 r1 hu' rs n2 rv
    exact⟨a,its,f,rfl,.inl p.isList,h4,h5⟩
   |_=>cases h3
  ·cases h
 cases ry with
 |str z ok =>
  cases rx with
  |str w ok' =>
   cases e
   obtain⟨t,rfl⟩:=r1
   obtain⟨t',rfl⟩:=r2
   exact .inl ⟨z,w,t,t',rfl,rfl,rfl⟩
  |_=>cases e
 |non=>exact .inr (seq e)
 |bl _=>exact .inr (seq e)
 |int _=>exact .inr (seq e)
 |tup h1 h2=>exact .inr (seq e)
 |lst h1 h2 h3=>exact .inr (seq e)
 |kl h1 h2=>exact .inr (seq e)
 |dic _ _ _ _=>exact .inr (seq e)
 |dks _ _ _ _=>exact .inr (seq e)
 |fz _ _ _=>exact .inr (seq e)
 |fn _=>exact .inr (seq e)
 |ref h'=>exact .inr (seq e)
theorem Arn (hr:Room k X.A):OpM X (compareOp .In) oIn:=by
 intro pins s σ H μ m x y z v u v' u' Q I S rx ry r1 r2 e q
 obtain⟨b,h1,h2⟩:=bind_some e
 cases h2
 have fin:EP X pins σ Q (.bool b) s:=⟨.bl b,H,I,rfl,q _ H (Same.refl H) (.bl b)⟩
 rcases Yz (R:=fun _=>True) hr I S rx ry r1 r2 h1 with ⟨z,w,t,t',rfl,rfl,hb⟩|⟨p,its,f,rfl,hp,hf,hb⟩
 ·subst hb;exact in_str fin
 ·subst hb
  rcases hp with hp|hp
  ·exact SeqAt.in_listAt f hp (fun y hy=>hf y (by simpa using hy)) (by simpa using fin)
  ·exact SeqAt.in_tupleAt f hp (fun y hy=>hf y (by simpa using hy)) (by simpa using fin)
theorem Ho (hr:Room k X.A):OpM X (compareOp .NotIn) D3:=by
 intro pins s σ H μ m x y z v u v' u' Q I S rx ry r1 r2 e q
 obtain⟨b,h1,h2⟩:=bind_some e
 cases h2
 have fin:EP X pins σ Q (.bool (!b)) s:=⟨.bl (!b),H,I,rfl,q _ H (Same.refl H) (.bl (!b))⟩
 rcases Yz (R:=fun _=>True) hr I S rx ry r1 r2 h1 with ⟨z,w,t,t',rfl,rfl,hb⟩|⟨p,its,f,rfl,hp,hf,hb⟩
 ·subst hb;exact notIn_str fin
 ·subst hb
  rcases hp with hp|hp
  ·exact SeqAt.notIn_listAt f hp (fun y hy=>hf y (by simpa using hy)) (by simpa using fin)
  ·exact SeqAt.notIn_tupleAt f hp (fun y hy=>hf y (by simpa using hy)) (by simpa using fin)
def MtD (X:Cx) (id:String) (o:D->List D->MH->Option D):Prop :=
 ∀ (pins:List (Addr×Obj)) (s:Shared) (σ:St) (H:Hp) (μ:List Addr) (m:MH) (x:D) (xs:List D) (z:D) (v:V) (vs:List V) (u:Value) (us:List Value) (Q:VK),Inv X pins σ H s->Sim X.K H μ m->Rep X.K H μ (·∈μ) x v->Reps X.K H μ (·∈μ) xs vs->RelV v u->Vals vs us->o x xs m=some z ->
  (∀ w H2,Same H H2->Rep X.K H2 μ (·∈μ) z w->Q w H2)->wpAny (model X.prog X.w) X.A (call (.builtin id) (u::us)) (EP X pins σ Q) X.xe s
noncomputable def Ao8 (T:String) (m:MH):D->Bool
 |.str _=>T == "str"
 |.lst _=>T == "list"
 |.kl _=>T == "list"
 |.ref n=>T == "list"&&(match m[n]? with|some (.lst _)=>true|_=>false)
 |_=>false
theorem Aj6 {K:W.Frag}{H:Hp}{μ:List Addr}{m:MH} (S:Sim K H μ m) {d:D}{v:V}{T:String} (r:Rep K H μ (·∈μ) d v) (h:Ao8 T m d=true):tyV K T v H:=by
 cases r with
 |str z ok=>exact beq_iff_eq.mp h
 |lst h1 h2 h3=>exact .inl ⟨beq_iff_eq.mp h,_,.inl h1⟩
 |kl h1 h2=>exact .inl ⟨beq_iff_eq.mp h,_,h1.sq⟩
 |@ref n a e =>
  obtain⟨h1,h2⟩:=Bool.and_eq_true_iff.mp h
  refine .inl ⟨beq_iff_eq.mp h1,?_⟩
  cases q:m[n]? with
  |none=>simp[q] at h2
  |some ob =>
   cases ob with
   |dcs _ _=>simp[q] at h2
   |dct _ _=>simp[q] at h2
   |lst ds =>
    obtain⟨xs,e1,e2⟩:=S.obj n a _ e q
    exact⟨xs,SqL.of e1⟩
 |_=>exact Ct h
def fMt (T:String) (o:D->List D->MH->Option D) (f:FE) (g:FL):FE:=fun env m=>(f env m).bind fun x=>if Ao8 T m x=true then (g env m).bind fun xs=>o x xs m else none
theorem Aru (pa:PlainAttrs T) (slot:Slot T name id) (hty:typeOf (.builtin id)=pure (.type "method_descriptor")) (hm:MtD X id o) (ho:PD X o' f) (ha:PL X (e::es) g) (hbase:attributeBase o' name X.env (eval o' X.env)=eval o' X.env) (hfew:((backTo cpos (starEach (e::es) X.env)).all (fun x=>!x.1)&&(backToKw cpos (keywordEach [] X.env)).all (fun x=>x.1.isSome)
   &&decide ((e::es).length+([]:List Keyword).length+(if ([]:List Keyword).isEmpty then 0 else 1) < 30))=true) (hline:(apos.endLine == cpos.line)=true) (hs:starEach (e::es) X.env=(false,eval e X.env)::starEach es X.env) (hplain:(backTo cpos (starEach es X.env)).any (·.1)=false) :
  PD X (.Call (.Attribute o' name apos) (e::es) [] cpos) (fMt T o f g):=by
 intro pins s σ H Q I h
 obtain⟨env,μ,m,z,S,E,h,q⟩:=h
 obtain⟨d,h1,h⟩:=bind_some h
 split at h
 ·rename_i hrec
  obtain⟨xs,h2,h3⟩:=bind_some h
  refine wpAny_Call_method_late hbase hfew hline rfl (thn (ho pins s σ H (fun v H1=>Same H H1/\Rep X.K H1 μ (·∈μ) d v) I ⟨env,μ,m,d,S,E,h1,fun v H1 s1 r1=>⟨s1,r1⟩⟩) fun v s1 ⟨x,H1,I1,r1,s1',rx⟩=>?_)
  obtain⟨t1,t2⟩:=Abe I1 r1 (Aj6 (S.same s1') rx hrec)
  refine⟨T,id,pa,slot,hty,t1,t2,?_⟩
  have hA:=ha cpos pins s1 σ H1 (fun vs H2=>Same H1 H2/\Reps X.K H2 μ (·∈μ) xs vs) I1 ⟨env,μ,m,xs,S.same s1',E.same s1',h2,fun v H1 s1 r1=>⟨s1,r1⟩⟩
  rw[hs] at hA ⊢
  refine Calls.callWith_builtin (by show (false||(backTo cpos (starEach es X.env)).any (·.1))=false;rw[hplain]<;>rfl) (Calls.evalArgs_plain ?_)
  exact thn hA fun us s2 ⟨vs,H2,I2,r2,s2',rs⟩=>hm pins s2 σ H2 μ m d xs z x vs v us Q I2 (S.same (s1'.trans s2')) (rx.same s2') rs r1 r2 h3 fun w H3 s3 r3=>q w H3 ((s1'.trans s2').trans s3) r3
 ·exact Ah h
end
open Classical in
noncomputable section
inductive Out where
 |nx (env:A0) (m:MH)|rt (d:D) (m:MH)|bk (env:A0) (m:MH)|ct (env:A0) (m:MH)
abbrev FS:=A0->MH->Option Out
def FinS (K:W.Frag) (H:Hp) (μ:List Addr) (o:Out) (Dn:Ends):Prop:=match o with
 |.nx env' m'=>∀ σ' H' μ',Step H μ H' μ'->Sim K H' μ' m'->EnvRep K H' μ' σ' env'->Dn.nx σ' H'
 |.bk env' m'=>∀ σ' H' μ',Step H μ H' μ'->Sim K H' μ' m'->EnvRep K H' μ' σ' env'->Dn.bk σ' H'
 |.ct env' m'=>∀ σ' H' μ',Step H μ H' μ'->Sim K H' μ' m'->EnvRep K H' μ' σ' env'->Dn.ct σ' H'
 |.rt d m'=>∀ v H' μ',Step H μ H' μ'->Sim K H' μ' m'->Rep K H' μ' (·∈μ') d v->Dn.rt v H'
inductive tS (K:W.Frag) (g:FS) (Dn:Ends) (σ:St) (H:Hp):Prop
 |mk (env:A0) (μ:List Addr) (m:MH) (o:Out) (S:Sim K H μ m) (E:EnvRep K H μ σ env) (h:g env m=some o) (q:FinS K H μ o Dn)
abbrev PSD (X:Cx) (st:Stmt) (g:FS):Prop:=PS X st (tS X.K g)
abbrev Vz (X:Cx) (st:List Stmt) (g:FS):Prop:=PSs X st (tS X.K g)
theorem PS.imp {t t':TS} (h:PS X e t) (i:∀ D σ H,t' D σ H->t D σ H):PS X e t':=fun pins s σ H D I q=>h pins s σ H D I (i D σ H q)
theorem PSs.imp {t t':TS} (h:PSs X e t) (i:∀ D σ H,t' D σ H->t D σ H):PSs X e t':=fun pins s σ H D I q=>h pins s σ H D I (i D σ H q)
theorem PG.imp {t t':TG} (h:PG X e t) (i:∀ v σ H Q,t' v σ H Q->t v σ H Q):PG X e t':=fun pins s σ H v u Q I r q=>h pins s σ H v u Q I r (i v σ H Q q)
theorem FinS.step {K:W.Frag}{H H1:Hp}{μ μ1:List Addr}{m m1:MH}{o:Out}{Dn:Ends} (S:Sim K H μ m) (S1:Sim K H1 μ1 m1) (s:Step H μ H1 μ1) (f:FinS K H μ o Dn):FinS K H1 μ1 o Dn:=by
 have hn:=s.none S S1
 cases o with
 |nx e m'=>exact fun σ' H' μ' s' S' E'=>f σ' H' μ' (s.trans s' hn) S' E'
 |bk e m'=>exact fun σ' H' μ' s' S' E'=>f σ' H' μ' (s.trans s' hn) S' E'
 |ct e m'=>exact fun σ' H' μ' s' S' E'=>f σ' H' μ' (s.trans s' hn) S' E'
 |rt e m'=>exact fun σ' H' μ' s' S' E'=>f σ' H' μ' (s.trans s' hn) S' E'
section
variable {X:Cx}{a b c e:Expr}{es:List Expr}{pos p p':Pos}{x:Str}{st:Stmt}{rest:List Stmt}
noncomputable def Dv:FS:=fun env m=>some (.nx env m)
noncomputable def Be (f g:FS):FS:=fun env m=>(f env m).bind fun o=>match o with
 |.nx env' m'=>g env' m'
 |o=>some o
theorem Ajm:Vz X [] Dv:=PSs.imp Aar fun D σ H ⟨env,μ,m,o,S,E,h,f⟩=>by
 cases h
 exact f σ H μ Step.refl S E
theorem tS.seq {K:W.Frag}{f g:FS}{Dn:Ends}{σ:St}{H:Hp} (h:tS K (Be f g) Dn σ H):As3 (tS K f) (tS K g) Dn σ H:=by
 obtain⟨env,μ,m,o,S,E,h,q⟩:=h
 obtain⟨o1,h1,h2⟩:=bind_some h
 refine⟨env,μ,m,o1,S,E,h1,?_⟩
 cases o1 with
 |nx env' m'=>exact fun σ' H' μ' s' S' E'=>⟨env',μ',m',o,S',E',h2,q.step S S' s'⟩
 |rt d m'=>cases h2;exact q
 |bk d m'=>cases h2;exact q
 |ct d m'=>cases h2;exact q
theorem Adj (h1:PSD X st f) (h2:Vz X rest g):Vz X (st::rest) (Be f g):=PSs.imp (Mx h1 h2) fun _ _ _ h=>h.seq
theorem Ajn (h1:PSD X st f):Vz X [st] f:=Ajq h1
noncomputable def Ck (f:FE):FS:=fun env m=>(f env m).bind fun d=>some (.rt d m)
theorem Ajo (he:PD X e f):PSD X (.Return (some e) pos) (Ck f):=PS.imp (Afn he) fun D σ H ⟨env,μ,m,o,S,E,h,q⟩=>by
 obtain⟨d,h1,h2⟩:=bind_some h
 cases h2
 exact⟨env,μ,m,d,S,E,h1,fun v H' s r=>q v H' μ (Step.of_same s) (S.same s) r⟩
theorem Sim.push {K:W.Frag}{H H':Hp}{μ:List Addr}{m:MH}{a:Addr}{ds:List D}{xs:List V} (S:Sim K H μ m) (s:Same H H') (hn:H a=none) (ha:H' a=some (.lst xs)) (r:Reps K H' μ (nw μ a) ds xs) :
  Step H μ H' (μ++[a])/\Sim K H' (μ++[a]) (m++[.lst ds]):=by
 have st:Step H μ H' (μ++[a]):=⟨⟨[a],rfl,fun b hb=>by rw[show b=a by simpa using hb];exact hn⟩,fun b o e _=>s b o e⟩
 have na:a∉μ:=S.nnone hn
 refine⟨st,?_,?_,fun n b o h1 h2=>?_⟩
 ·rw[List.nodup_append]
  exact⟨S.nd,by simp,fun b hb c hc z=>na (by rw[<- show c=a by simpa using hc,<- z];exact hb)⟩
 ·simp[S.len]
 ·by_cases hl:n < μ.length
  ·rw[Aun hl] at h1
   rw[Aun (by rw[<- S.len];exact hl)] at h2
   have q:=S.obj n b o h1 h2
   cases o with
   |lst es=>obtain⟨ys,q1,q2⟩:=q;exact⟨ys,s _ _ q1,q2.step S st⟩
   |dcs ks vs=>obtain⟨ys,q1,q2,q3⟩:=q;exact⟨ys,s _ _ q1,q2,q3.step S st⟩
   |dct ks vs=>obtain⟨ys,q1,q2,q3⟩:=q;exact⟨ys,s _ _ q1,q2,q3.step S st⟩
  ·have e:n=μ.length:=by
    have:=(List.getElem?_eq_some_iff.mp h1).1
    rw[Aui,Avq] at this
    lia
   subst e
   rw[Auy (At3 _)] at h1
   rw[S.len,Auy (At3 _)] at h2
   simp at h1 h2
   subst h1
   subst h2
   refine⟨xs,ha,r.up (fun _ _ _ h=>h) (fun c u _ h b=>⟨h,fun z=>b ?_⟩) fun _ _ h=>st.ix h⟩
   rcases List.mem_append.mp z with z|z
   ·exact .inl z
   ·exact .inr (by simpa using z)
noncomputable def Oz (f:FL):FS:=fun env m=>(f env m).bind fun ds=>some (.rt (.ref m.length) (m++[.lst ds]))
theorem M5 {K:W.Frag}{H:Hp}{μ:List Addr}{B:Addr->Prop}{m:MH}{a:Addr} (hl:μ.length=m.length):Rep K H (μ++[a]) B (.ref m.length) (.ref a):=.ref (by rw[<- hl];simp)
theorem Adn {f:FL} (he:PF X e f):PSD X (.Return (some e) pos) (Oz f):=PS.imp (Afn he) fun D σ H ⟨env,μ,m,o,S,E,h,q⟩=>by
 obtain⟨ds,h1,h2⟩:=bind_some h
 cases h2
 refine⟨env,μ,m,ds,S,E,h1,fun a xs H' s hn ha r=>?_⟩
 obtain⟨st,S'⟩:=S.push s hn ha r
 exact q _ H' _ st S' (M5 S.len)
noncomputable def sIf (t:FB) (f g:FS):FS:=fun env m=>(t env m).bind fun c=>if c=true then f env m else g env m
theorem Anx {t:FB} (hc:PB X c t) (ha:Vz X sa f) (hb:Vz X sb g):PSD X (.If c sa sb pos) (sIf t f g):=PS.imp (Anw hc ha hb) fun D σ H ⟨env,μ,m,o,S,E,h,q⟩=>by
 obtain⟨b,h1,h2⟩:=bind_some h
 refine⟨env,μ,m,b,S,E,h1,fun H1 s1=>?_⟩
 have st:=Step.of_same (μ:=μ) s1
 cases b with
 |true =>
  rw[At4 rfl] at h2
  exact Aq9 ⟨env,μ,m,o,S.same s1,E.same s1,h2,q.step S (S.same s1) st⟩
 |false =>
  rw[At8 Auo] at h2
  exact Aq8 ⟨env,μ,m,o,S.same s1,E.same s1,h2,q.step S (S.same s1) st⟩
abbrev FG:=D->A0->Option A0
inductive tG (K:W.Frag) (g:FG) (v:V) (σ:St) (H:Hp) (Q:St->Hp->Prop):Prop
 |mk (env:A0) (μ:List Addr) (m:MH) (d:D) (env':A0) (S:Sim K H μ m) (E:EnvRep K H μ σ env) (r:Rep K H μ (·∈μ) d v) (h:g d env=some env') (q:∀ σ',EnvRep K H μ σ' env'->Q σ' H)
inductive tGs (K:W.Frag) (g:List D->A0->Option A0) (vs:List V) (σ:St) (H:Hp) (Q:St->Hp->Prop):Prop
 |mk (env:A0) (μ:List Addr) (m:MH) (ds:List D) (env':A0) (S:Sim K H μ m) (E:EnvRep K H μ σ env) (r:Reps K H μ (·∈μ) ds vs) (h:g ds env=some env') (q:∀ σ',EnvRep K H μ σ' env'->Q σ' H)
abbrev PGD (X:Cx) (e:Expr) (g:FG):Prop:=PG X e (tG X.K g)
abbrev Ak5 (X:Cx) (es:List Expr) (g:List D->A0->Option A0):Prop:=PGs X es (tGs X.K g)
theorem PGs.imp {X:Cx}{e:List Expr}{t t':TGs} (h:PGs X e t) (i:∀ v σ H Q,t' v σ H Q->t v σ H Q):PGs X e t':=fun pins s σ H v u Q I r q=>h pins s σ H v u Q I r (i v σ H Q q)
noncomputable def As (i:Nat):FG:=fun d env=>some (env.set i (some d))
theorem Mw (hN:X.N.Nodup) (hi:X.N[i]?=some x) (hx:Loc X.env.scope x) (hf:X.fn x=true\/X.env.scope.names.lookup x=some .local):PGD X (.Name x pos) (As i):=PG.imp (Ajb hN hi hx hf) fun v σ H Q ⟨env,μ,m,d,env',S,E,r,h,q⟩=>by
 cases h
 exact q _ (E.set i r)
noncomputable def Pd:List D->A0->Option A0:=fun ds env=>match ds with|[]=>some env|_=>none
noncomputable def B9 (g:FG) (h:List D->A0->Option A0):List D->A0->Option A0:=fun ds env=>match ds with
 |d::ds=>(g d env).bind fun env'=>h ds env'
 |[]=>none
theorem Ade:Ak5 X [] Pd:=PGs.imp Ajd fun v σ H Q ⟨env,μ,m,ds,env',S,E,r,h,q⟩=>by
 cases r with
 |nil=>cases h;exact⟨rfl,q _ E⟩
 |cons _ _=>exact Ah h
theorem Aai {g:FG}{h:List D->A0->Option A0} (h1:PGD X e g) (h2:Ak5 X es h) (hs:(assignEach (e::es) X.env).map (·.2)=assign e X.env::(assignEach es X.env).map (·.2)):Ak5 X (e::es) (B9 g h) :=
 PGs.imp (Adc h1 h2 hs) fun v σ H Q ⟨env,μ,m,ds,env',S,E,r,h,q⟩=>by
  cases r with
  |nil=>exact Ah h
  |cons r rs =>
   obtain⟨env1,h1,h2⟩:=bind_some h
   exact⟨_,_,rfl,env,μ,m,_,env1,S,E,r,h1,fun σ' E'=>⟨env1,μ,m,_,env',S,E',rs,h2,q⟩⟩
noncomputable def He (n:Nat) (g:List D->A0->Option A0):FG:=fun d env=>match d with
 |.tup ds=>if ds.length=n then g ds env else none
 |_=>none
theorem Ajc (hc:X.calm=true) (h:Ak5 X es g) (hn:(assignEach es X.env).length=n) (hst:(assignEach es X.env).findIdx? (·.1)=none):PGD X (.Tuple es k pos) (He n g) :=
 PG.imp (Ans hc h hn hst) fun v σ H Q ⟨env,μ,m,d,env',S,E,r,h,q⟩=>by
  cases r with
  |@tup ds a xs hq rs =>
   unfold He at h
   simp only at h
   split at h
   ·rename_i hl
    exact⟨a,xs,rfl,hq,by rw[<- rs.length];exact hl,env,μ,m,ds,env',S,E,rs,h,q⟩
   ·exact Ah h
  |_=>exact Ah h
noncomputable def B3 (i:Nat) (f:FE):FS:=fun env m=>(f env m).bind fun d=>some (.nx (env.set i (some d)) m)
theorem Aao (hN:X.N.Nodup) (hi:X.N[i]?=some x) (hx:Loc X.env.scope x) (he:PD X e f) (hs:swapsWith e (some (.Name x p')) pos.line X.env=pure false) (hf:X.fn x=true\/X.env.scope.names.lookup x=some .local) :
  PSD X (.Assign [.Name x p'] e pos) (B3 i f):=PS.imp (Aam hN hi hx he hs hf) fun D σ H ⟨env,μ,m,o,S,E,h,q⟩=>by
 obtain⟨d,h1,h2⟩:=bind_some h
 cases h2
 exact⟨env,μ,m,d,S,E,h1,fun v H' s r=>q _ H' μ (Step.of_same s) (S.same s) ((E.same s).set i r)⟩
noncomputable def Gb (i:Nat) (f:FL):FS:=fun env m=>(f env m).bind fun ds=>some (.nx (env.set i (some (.ref m.length))) (m++[.lst ds]))
theorem Ajl {i:Nat}{f:FL} (hN:X.N.Nodup) (hi:X.N[i]?=some x) (hx:Loc X.env.scope x) (he:PF X e f) (hs:swapsWith e (some (.Name x p')) pos.line X.env=pure false) (hf:X.fn x=true\/X.env.scope.names.lookup x=some .local) :
  PSD X (.Assign [.Name x p'] e pos) (Gb i f):=PS.imp (Aam hN hi hx he hs hf) fun D σ H ⟨env,μ,m,o,S,E,h,q⟩=>by
 obtain⟨ds,h1,h2⟩:=bind_some h
 cases h2
 refine⟨env,μ,m,ds,S,E,h1,fun a xs H' s hn ha r=>?_⟩
 obtain⟨st,S'⟩:=S.push s hn ha r
 exact q _ H' _ st S' ((E.step S st).set i (M5 S.len))
noncomputable def Aog (f:FE) (g:FG):FS:=fun env m=>(f env m).bind fun d=>(g d env).bind fun env'=>some (.nx env' m)
theorem Ajj (he:PD X e f) (hg:PGD X tg g) (hs:swapsWithSole [tg] e pos.line X.env=pure false) (hw:swappedStores [tg] e X.env=pure none) (h1:(assignEach [tg] X.env).map (·.2)=[assign tg X.env]) :
  PSD X (.Assign [tg] e pos) (Aog f g):=PS.imp (Anu he hg hs hw h1) fun D σ H ⟨env,μ,m,o,S,E,h,q⟩=>by
 obtain⟨d,h1,h2⟩:=bind_some h
 obtain⟨env',hg',h3⟩:=bind_some h2
 cases h3
 exact⟨env,μ,m,d,S,E,h1,fun v H' s r=>⟨env,μ,m,d,env',S.same s,E.same s,r,hg',fun σ' E'=>q σ' H' μ (Step.of_same s) (S.same s) E'⟩⟩
end
end
open Classical
noncomputable section
section
variable {X:Cx}{a b c e:Expr}{es:List Expr}{pos p p':Pos}{x:Str}{st:Stmt}{rest:List Stmt}
noncomputable def Hi (chk:MH->Prop) (g:FG) (b:FS):List D->A0->MH->Option Out
 |[],env,m=>if chk m then some (.nx env m) else none
 |d::ds,env,m=>if chk m then (g d env).bind fun env1=>(b env1 m).bind fun o=>match o with
   |.nx env2 m2=>Hi chk g b ds env2 m2
   |.ct env2 m2=>Hi chk g b ds env2 m2
   |.bk env2 m2=>some (.nx env2 m2)
   |.rt d m2=>some (.rt d m2)
  else none
structure Src (K:W.Frag) (J:It) (all:List D) (chk:MH->Prop) (src:Hp->List Addr->MH->Prop):Prop where
 go:∀ H μ m (i:Nat) d,Sim K H μ m->src H μ m->chk m->all[i]?=some d->J.go i H/\∀ x H',J.yld i H x H'->Same H H'/\Rep K H' μ (·∈μ) d x
 stop:∀ H μ m,Sim K H μ m->src H μ m->chk m->J.stop all.length H
 keep:∀ H μ m H' μ' m',src H μ m->Sim K H μ m->Step H μ H' μ'->Sim K H' μ' m'->src H' μ' m'
theorem Ach {K:W.Frag}{J:It}{all:List D}{chk:MH->Prop}{src:Hp->List Addr->MH->Prop} (hs:Src K J all chk src) {g:FG}{b:FS}{Dn:Ends}{σ:St}{H:Hp}{env:A0}{μ:List Addr}{m:MH}{o:Out}
  (S:Sim K H μ m) (E:EnvRep K H μ σ env) (h0:src H μ m) (h:Hi chk g b all env m=some o) (f:FinS K H μ o Dn) :
  ∃ W:Nat->Nat->St->Hp->Prop,(∃ m,W 0 m σ H)/\∀ i m σ H,W i m σ H ->
   (J.stop i H/\Dn.nx σ H)\/(J.go i H/\∃ N:St->Hp->Prop,(∀ σ' H',N σ' H'->∃ m',m' < m/\W (i+1) m' σ' H')/\∀ x H',J.yld i H x H'->tG K g x σ H' fun σ2 H2=>tS K b { Dn with nx:=N,ct:=N,bk:=Dn.nx } σ2 H2):=by
 refine⟨fun i k σ H=>k=all.length - i/\i<=all.length/\∃ env μ m,Sim K H μ m/\EnvRep K H μ σ env/\src H μ m/\Hi chk g b (all.drop i) env m=some o/\FinS K H μ o Dn,⟨all.length,by simp,Auw _,env,μ,m,S,E,h0,by simpa using h,f⟩,?_⟩
 rintro i k σ1 H1 ⟨rfl,hi,env1,μ1,m1,S1,E1,h1,e1,f1⟩
 by_cases hlt:i < all.length
 ·have hd:all.drop i=all[i]::all.drop (i+1):=Avv hlt
  rw[hd] at e1
  unfold Hi at e1
  split at e1
  ·rename_i hc
   obtain⟨env2,e2,e1⟩:=bind_some e1
   obtain⟨o2,e3,e4⟩:=bind_some e1
   obtain⟨go,yl⟩:=hs.go H1 μ1 m1 i all[i] S1 h1 hc (by simp[hlt])
   refine .inr ⟨go,fun σ' H'=>all.length - (i+1) < all.length - i/\i+1<=all.length/\∃ env μ m,Sim K H' μ m/\EnvRep K H' μ σ' env/\src H' μ m/\Hi chk g b (all.drop (i+1)) env m=some o/\FinS K H' μ o Dn,fun σ' H' ⟨l1,l2,q⟩=>⟨_,l1,rfl,l2,q⟩,fun x H2 y=>?_⟩
   obtain⟨s2,r2⟩:=yl x H2 y
   have S2:=S1.same s2
   refine⟨env1,μ1,m1,all[i],env2,S2,E1.same s2,r2,e2,fun σ' E'=>⟨env2,μ1,m1,o2,S2,E',e3,?_⟩⟩
   have f2:=f1.step S1 S2 (Step.of_same s2)
   have h2:=hs.keep H1 μ1 m1 H2 μ1 m1 h1 S1 (Step.of_same s2) S2
   cases o2 with
   |nx env3 m3=>exact fun σ3 H3 μ3 st3 S3 E3=>⟨by lia,hlt,env3,μ3,m3,S3,E3,hs.keep _ _ _ _ _ _ h2 S2 st3 S3,e4,f2.step S2 S3 st3⟩
   |ct env3 m3=>exact fun σ3 H3 μ3 st3 S3 E3=>⟨by lia,hlt,env3,μ3,m3,S3,E3,hs.keep _ _ _ _ _ _ h2 S2 st3 S3,e4,f2.step S2 S3 st3⟩
   |bk env3 m3=>cases e4;exact f2
   |rt d m3=>cases e4;exact f2
  ·cases e1
 ·have e:i=all.length:=by lia
  subst e
  rw[List.drop_length] at e1
  unfold Hi at e1
  split at e1
  ·rename_i hc
   cases e1
   exact .inl ⟨hs.stop H1 μ1 m1 S1 h1 hc,f1 σ1 H1 μ1 Step.refl S1 E1⟩
  ·exact Ah e1
structure Wk where
 all:List D
 chk:MH->Prop
abbrev FW:=A0->MH->Option Wk
inductive tW (K:W.Frag) (f:FW) (σ:St) (H:Hp) (R:It->Hp->Prop):Prop
 |mk (env:A0) (μ:List Addr) (m:MH) (w:Wk) (S:Sim K H μ m) (E:EnvRep K H μ σ env) (h:f env m=some w) (q:∀ H' J src,Same H H'->Src K J w.all w.chk src->src H' μ m->R J H')
abbrev PW' (X:Cx) (tg e:Expr) (f:FW):Prop:=PI X tg e (tW X.K f)
def Jl (f:FW) (g:FG) (b:FS):FS:=fun env m=>(f env m).bind fun w=>Hi w.chk g b w.all env m
theorem PI.imp {t t':TI} (h:PI X tg e t) (i:∀ σ H Q,t' σ H Q->t σ H Q):PI X tg e t':=fun pins s σ H Q I q=>h pins s σ H Q I (i σ H Q q)
theorem Ajk {tg iter:Expr}{body:List Stmt}{f:FW}{g:FG}{b:FS} (hp:PassesOwn (model X.prog X.w) X.A X.env X.xe) (hc:X.calm=true) (hi:PW' X tg iter f) (hg:PGD X tg g) (hb:Vz X body b)
  (hs:∀ x,foldedSetIterable iter X.env x=pure x):PSD X (.For tg iter body [] pos) (Jl f g b):=PS.imp (Anv hp hc hi hg hb hs) fun D σ H ⟨env,μ,m,o,S,E,h,q⟩=>by
 obtain⟨w,h1,h2⟩:=bind_some h
 exact⟨env,μ,m,w,S,E,h1,fun H' J src s hsrc h0=>Ach hsrc (S.same s) (E.same s) h0 h2 (q.step S (S.same s) (Step.of_same s))⟩
def B6:MH->Prop:=fun _=>True
theorem Akj {K:W.Frag}{a:Addr}{ds:List D}:Src K (Itt K a) ds B6 (fun H μ m=>Rep K H μ (·∈μ) (.tup ds) (.ref a)) where
 go:=fun H μ m i d S h _ e=>by
  cases h with
  |tup hq rs =>
   obtain⟨v,e1,r⟩:=rs.get e
   exact⟨⟨_,v,hq,e1⟩,fun x H' ⟨h1,h2⟩=>by subst h1;rw[h2 _ hq] at e1;cases e1;exact⟨Same.refl _,r⟩⟩
 stop:=fun H μ m S h _=>by
  cases h with
  |tup hq rs=>exact⟨_,hq,by rw[rs.length];exact At3 _⟩
 keep:=fun H μ m H' μ' m' h S st S'=>h.step S st
theorem Akg {K:W.Frag}{a:Addr}{ds:List D}:Src K (Itl K a) ds B6 (fun H μ m=>Rep K H μ (·∈μ) (.lst ds) (.ref a)) where
 go:=fun H μ m i d S h _ e=>by
  cases h with
  |lst hq _ rs =>
   obtain⟨v,e1,r⟩:=rs.get e
   exact⟨⟨_,v,.inl hq,e1⟩,fun x H' ⟨h1,h2⟩=>by subst h1;rw[h2 _ (.inl hq)] at e1;cases e1;exact⟨Same.refl _,r⟩⟩
 stop:=fun H μ m S h _=>by
  cases h with
  |lst hq _ rs=>exact⟨_,.inl hq,by rw[rs.length];exact At3 _⟩
 keep:=fun H μ m H' μ' m' h S st S'=>h.step S st
theorem Aom {K:W.Frag}{a:Addr}{ds:List D}:Src K (Itl K a) ds B6 (fun H μ m=>Rep K H μ (·∈μ) (.kl ds) (.ref a)) where
 go:=fun H μ m i d S h _ e=>by
  cases h with
  |kl hq rs =>
   obtain⟨v,e1,r⟩:=rs.get e
   exact⟨⟨_,v,hq.sq,e1⟩,fun x H' ⟨h1,h2⟩=>by subst h1;rw[h2 _ hq.sq] at e1;cases e1;exact⟨Same.refl _,r⟩⟩
 stop:=fun H μ m S h _=>by
  cases h with
  |kl hq rs=>exact⟨_,hq.sq,by rw[rs.length];exact At3 _⟩
 keep:=fun H μ m H' μ' m' h S st S'=>h.step S st
theorem Akh {K:W.Frag}{a:Addr}{ds:List D}{n:Nat}:Src K (Itl K a) ds (fun m=>m[n]?=some (.lst ds)) (fun H μ m=>μ[n]?=some a) where
 go:=fun H μ m i d S h hc e=>by
  obtain⟨xs,e1,rs⟩:=S.obj n a _ h hc
  obtain⟨v,e2,r⟩:=rs.get e
  exact⟨⟨_,v,SqL.of e1,e2⟩,fun x H' ⟨h1,h2⟩=>by subst h1;rw[h2 _ (SqL.of e1)] at e2;cases e2;exact⟨Same.refl _,r⟩⟩
 stop:=fun H μ m S h hc=>by
  obtain⟨xs,e1,rs⟩:=S.obj n a _ h hc
  exact⟨_,SqL.of e1,by rw[rs.length];exact At3 _⟩
 keep:=fun H μ m H' μ' m' h S st S'=>st.ix h
noncomputable def Ga (lo:Int) (n:Nat):List D:=(List.range n).map fun (i:Nat)=>.int (lo+i)
theorem Aa8 {K:W.Frag}{lo:Int}{n:Nat}:Src K (Itr lo n) (Ga lo n) B6 (fun _ _ _=>True) where
 go:=fun H μ m i d S h _ e=>by
  unfold Ga at e
  rw[Auh] at e
  cases q:(List.range n)[i]? with
  |none=>rw[q] at e;cases e
  |some j =>
   rw[q] at e
   cases e
   have hi:=(List.getElem?_eq_some_iff.mp q).1
   rw[List.length_range] at hi
   rw[List.getElem?_range hi] at q
   cases q
   exact⟨hi,fun x H' ⟨h1,h2⟩=>by subst h1;subst h2;exact⟨Same.refl _,.int _⟩⟩
 stop:=fun H μ m S h _=>by show n<=(Ga lo n).length;unfold Ga;simp
 keep:=fun H μ m H' μ' m' h S st S'=>trivial
def Ni (g:FL):FW:=fun env m=>(g env m).bind fun ds=>match ds with
 |[.int j]=>if -(2 ^ 62)<=j/\j < 2 ^ 62 then some ⟨Ga 0 j.toNat,B6⟩ else none
 |_=>none
theorem Aau (hg:Gl X "range") (hm:X.mg "range"=none) (ha:PL X [a] g) (hs:starEach [a] X.env=[(false,eval a X.env)]):PW' X tg (.Call (.Name "range" p) [a] [] pos) (Ni g):=PI.imp (Aaj hg hm ha hs) fun σ H R ⟨env,μ,m,w,S,E,h,q⟩=>by
 obtain⟨ds,h1,h2⟩:=bind_some h
 refine⟨env,μ,m,ds,S,E,h1,fun vs H' s rs=>?_⟩
 obtain⟨j,rfl⟩:∃ j,ds=[.int j]:=by
  cases ds with
  |nil=>cases h2
  |cons d ds =>
   cases ds with
   |cons _ _=>cases d<;>cases h2
   |nil =>
    cases d with
    |int j=>exact⟨j,rfl⟩
    |_=>cases h2
 simp only at h2
 split at h2
 ·rename_i hc
  cases h2
  obtain⟨v,rfl,r⟩:=rs.one
  cases r
  exact⟨j,rfl,hc.1,hc.2,q H' _ _ s Aa8 trivial⟩
 ·exact Ah h2
noncomputable def Ek (c:FB) (b:FS):Nat->A0->MH->Option Out
 |0,_,_=>none
 |k+1,env,m=>(c env m).bind fun t=>if t=true then (b env m).bind fun o=>match o with
   |.nx env2 m2=>Ek c b k env2 m2
   |.ct env2 m2=>Ek c b k env2 m2
   |.bk env2 m2=>some (.nx env2 m2)
   |.rt d m2=>some (.rt d m2)
  else some (.nx env m)
theorem Aap {f:FB}{b:FS}{body:List Stmt} (k:Nat) (hp:PassesOwn (model X.prog X.w) X.A X.env X.xe) (hc:PB X c f) (hb:Vz X body b):PSD X (.While c body [] pos) (Ek f b k):=PS.imp (Adi hp hc hb) fun D σ H ⟨env,μ,m,o,S,E,h,q⟩=>by
 refine⟨fun k σ H=>∃ env μ m,Sim X.K H μ m/\EnvRep X.K H μ σ env/\Ek f b k env m=some o/\FinS X.K H μ o D,⟨k,env,μ,m,S,E,h,q⟩,?_⟩
 rintro k σ1 H1 ⟨env1,μ1,m1,S1,E1,e1,f1⟩
 cases k with
 |zero=>cases e1
 |succ k =>
  unfold Ek at e1
  obtain⟨t,e2,e3⟩:=bind_some e1
  refine⟨env1,μ1,m1,t,S1,E1,e2,fun H2 s2=>?_⟩
  have S2:=S1.same s2
  have f2:=f1.step S1 S2 (Step.of_same s2)
  cases t with
  |true =>
   rw[At4 rfl] at e3
   obtain⟨o2,e3,e4⟩:=bind_some e3
   refine Aq9 ⟨fun σ' H'=>∃ env μ m,Sim X.K H' μ m/\EnvRep X.K H' μ σ' env/\Ek f b k env m=some o/\FinS X.K H' μ o D,fun σ' H' q=>⟨k,Awb k,q⟩,env1,μ1,m1,o2,S2,E1.same s2,e3,?_⟩
   cases o2 with
   |nx env3 m3=>exact fun σ3 H3 μ3 st3 S3 E3=>⟨env3,μ3,m3,S3,E3,e4,f2.step S2 S3 st3⟩
   |ct env3 m3=>exact fun σ3 H3 μ3 st3 S3 E3=>⟨env3,μ3,m3,S3,E3,e4,f2.step S2 S3 st3⟩
   |bk env3 m3=>cases e4;exact f2
   |rt d m3=>cases e4;exact f2
  |false =>
   rw[At8 Auo] at e3
   cases e3
   exact Aq8 (f2 σ1 H2 μ1 Step.refl S2 (E1.same s2))
end
mutual
/-- without lists -/
def A2:D->Bool
 |.lst _=>false
 |.kl _=>false
 |.ref _=>false
 |.dic _ _=>false
 |.dks _ _=>false
 |.fz _ _ _ _=>false
 |.fn _ _=>false
 |.tup ds=>A1 ds
 |_=>true
def A1:List D->Bool
 |[]=>true
 |d::ds=>A2 d&&A1 ds
end
noncomputable def xp1 (m:MH):D->Option D
 |.ref n=>match m[n]? with
  |some (.lst ds)=>if A1 ds=true then some (.lst ds) else none
  |_=>none
 |_=>none
def xpL (m:MH):List D->Option (List D)
 |[]=>some []
 |d::ds=>(xp1 m d).bind fun e=>(xpL m ds).bind fun es=>some (e::es)
mutual
/-- what is handed back: the mirror's own lists,as they stand -/
def Bt (m:MH):D->Option D
 |.ref n=>match m[n]? with
  |some (.lst ds)=>if A1 ds=true then some (.lst ds) else (xpL m ds).bind fun es=>some (.lst es)
  |some (.dct ks vs)=>if A1 vs=true then some (.dic ks vs) else none
  |some (.dcs ks vs)=>if A1 vs=true then some (.dks ks vs) else none
  |_=>none
 |.lst _=>none
 |.kl _=>none
 |.dic _ _=>none
 |.dks _ _=>none
 |.fz _ _ _ _=>none
 |.fn _ _=>none
 |.tup ds=>(Cz m ds).bind fun es=>some (.tup es)
 |.non=>some .non
 |.bl b=>some (.bl b)
 |.int i=>some (.int i)
 |.str x=>some (.str x)
def Cz (m:MH):List D->Option (List D)
 |[]=>some []
 |d::ds=>(Bt m d).bind fun e=>(Cz m ds).bind fun es=>some (e::es)
end
section
variable {K:W.Frag}{H H':Hp}{μ μ':List Addr}{B B':Addr->Prop}{m:MH}
mutual
theorem Rep.nolst {d:D}{v:V} (r:Rep K H μ B d v) (e:A2 d=true):Rep K H μ' B' d v:=by
 cases r with
 |non=>exact .non
 |bl b=>exact .bl b
 |int b=>exact .int b
 |str b h=>exact .str b h
 |tup h r=>exact .tup h (Reps.nolst r e)
 |_=>exact Ct e
theorem Reps.nolst {ds:List D}{vs:List V} (r:Reps K H μ B ds vs) (e:A1 ds=true):Reps K H μ' B' ds vs:=by
 cases r with
 |nil=>exact .nil
 |cons h r =>
  have e':=(Bool.and_eq_true_iff.mp e)
  exact .cons (Rep.nolst h e'.1) (Reps.nolst r e'.2)
end
theorem Akt (S:Sim K H μ m) (hn:∀ a∈μ,B a->False) {d d':D}{v:V} (r:Rep K H μ (·∈μ) d v) (h:xp1 m d=some d'):Rep K H [] B d' v:=by
 cases r with
 |@ref n a e =>
  unfold xp1 at h
  cases q:m[n]? with
  |none=>simp[q] at h
  |some o =>
   simp only[q] at h
   cases o with
   |dcs _ _=>exact Ah h
   |dct _ _=>exact Ah h
   |lst ds =>
    simp only at h
    split at h
    ·rename_i hl
     cases h
     obtain⟨xs,e1,e2⟩:=S.obj n a _ e q
     exact .lst (.inl e1) (hn a (Auc e)) (e2.nolst hl)
    ·exact Ah h
 |_=>exact Ah h
theorem Aku (S:Sim K H μ m) (hn:∀ a∈μ,B a->False) {ds ds':List D}{vs:List V} (r:Reps K H μ (·∈μ) ds vs) (h:xpL m ds=some ds'):Reps K H [] B ds' vs:=by
 induction ds generalizing ds' vs with
 |nil=>cases r;cases h;exact .nil
 |cons d ds ih =>
  cases r with
  |cons r rs =>
  obtain⟨e,h1,h⟩:=bind_some h
  obtain⟨es,h2,h⟩:=bind_some h
  cases h
  exact .cons (Akt S hn r h1) (ih rs h2)
mutual
theorem Pb (S:Sim K H μ m) (hn:∀ a∈μ,B a->False):∀ {d d':D}{v:V},Rep K H μ (·∈μ) d v->Bt m d=some d'->Rep K H [] B d' v
 |_,_,_,.non,h=>by cases h;exact .non
 |_,_,_,.bl b,h=>by cases h;exact .bl b
 |_,_,_,.int b,h=>by cases h;exact .int b
 |_,_,_,.str b ok,h=>by cases h;exact .str b ok
 |_,_,_,.tup hq r,h=>by
  rw[Bt] at h
  obtain⟨es,h1,h2⟩:=bind_some h
  cases h2
  exact .tup hq (Lf S hn r h1)
 |_,_,_,.lst _ _ _,h=>nomatch h
 |_,_,_,.kl _ _,h=>Ah h
 |_,_,_,.dic _ _ _ _,h=>Ah h
 |_,_,_,.fn _,h=>nomatch h
 |_,_,_,.dks _ _ _ _,h=>nomatch h
 |_,_,_,.fz _ _ _,h=>nomatch h
 |.ref n,_,_,.ref (a:=a) e,h=>by
  rw[Bt] at h
  cases q:m[n]? with
  |none=>simp[q] at h
  |some o =>
   simp only[q] at h
   cases o with
   |dct ks vs =>
    simp only at h
    split at h
    ·rename_i hl
     cases h
     obtain⟨xs,e1,e2,e3⟩:=S.obj n a _ e q
     exact .dic (.inl e1) (hn a (Auc e)) e2 (e3.nolst hl)
    ·cases h
   |dcs ks vs =>
    simp only at h
    split at h
    ·rename_i hl
     cases h
     obtain⟨xs,e1,e2,e3⟩:=S.obj n a _ e q
     exact .dks (.inl e1) (hn a (Auc e)) e2 (e3.nolst hl)
    ·cases h
   |lst ds =>
    simp only at h
    split at h
    ·rename_i hl
     cases h
     obtain⟨xs,e1,e2⟩:=S.obj n a _ e q
     exact .lst (.inl e1) (hn a (Auc e)) (e2.nolst hl)
    ·obtain⟨es,h1,h⟩:=bind_some h
     cases h
     obtain⟨xs,e1,e2⟩:=S.obj n a _ e q
     exact .lst (.inl e1) (hn a (Auc e)) (Aku S hn e2 h1)
theorem Lf (S:Sim K H μ m) (hn:∀ a∈μ,B a->False):∀ {ds ds':List D}{vs:List V},Reps K H μ (·∈μ) ds vs->Cz m ds=some ds'->Reps K H [] B ds' vs
 |_,_,_,.nil,h=>by cases h;exact .nil
 |_,_,_,.cons r rs,h=>by
  rw[Cz] at h
  obtain⟨d',h1,h⟩:=bind_some h
  obtain⟨ds',h2,h⟩:=bind_some h
  cases h
  exact .cons (Pb S hn r h1) (Lf S hn rs h2)
end
end
def old (H H':Hp):Addr->Prop:=fun a=>H a≠none\/∃ o u,H' a=some (.frz o u)
inductive spP (K:W.Frag) (n:Nat) (fn:List D->Option D) (vs:List V) (H:Hp) (Q:VK) (E:XK):Prop
 |mk (ds:List D) (d:D) (r:Reps K H [] (fun _=>False) ds vs) (l:ds.length=n) (h:fn ds=some d) (q:∀ v H',Same H H'->Rep K H' [] (old H H') d v->Q v H')
noncomputable def Dp (n:Nat) (g:FS):List D->Option D:=fun ds=>(g (ds.map some++List.replicate (n - ds.length) none) []).bind fun o=>match o with
 |.rt d m=>Bt m d
 |.nx _ _=>some .non
 |_=>none
theorem G3 {K:W.Frag}{H:Hp}{N:List Str}{ds:List D}{vs:List V} (r:Reps K H [] (fun _=>False) ds vs):EnvRep K H [] (Jd N vs) (ds.map some++List.replicate (N.length - ds.length) none):=by
 refine⟨by unfold Jd;simp[r.length],fun i d e=>?_⟩
 by_cases hi:i < ds.length
 ·rw[Aun (by simpa using hi),Auh] at e
  cases q:ds[i]? with
  |none=>rw[q] at e;cases e
  |some d' =>
   rw[q] at e
   cases e
   obtain⟨v,h1,h2⟩:=r.get q
   refine⟨v,?_,h2.up (fun _ _ _ h=>h) (fun _ _ _ h _=>⟨h,by simp⟩) fun _ _ h=>h⟩
   unfold Jd
   rw[Aun (by simpa [r.length] using hi),Auh,h1]
   rfl
 ·rw[Auy (by simpa using hi),Av4] at e
  split at e<;>cases e
theorem Ahq {P:Program}{w:World}{K:W.Frag}{mg:Str->Option Value}{base:Heap}{x qual:Str}{st:Stmt}{f:Addr}{fd:FuncData}{N ps:List Str}{k:Nat}{g:FS} (F:Fun K x qual st f fd) (S:FnScope N ps (Ar st))
  (hbody:∀ (cdv:Value) (A:Around) (outer:List Env) (s:Shared) (H:Hp) (E:XK),Room k (A.deeper (envOfC qual (Ar st) s.heap.objs.size f cdv)) ->
   Vz (Hc CX0 P w K mg base N qual (Ar st) f cdv A outer s H E).nox (Cm st) g):FnOk P w K mg base CX0 (k+1) f fd ps (spP K ps.length (Dp N.length g)):=by
 refine F.ok S (fun vs H Q E h=>?_) (fun cdv A outer s H vs Q E hr h=>?_)
 ·obtain⟨ds,d,r,hl,_⟩:=h
  rw[<- r.length];exact hl
 ·obtain⟨ds,d,r,hl,h,q⟩:=h
  refine⟨_,hbody cdv A outer s H E hr,?_⟩
  obtain⟨o,h1,h2⟩:=bind_some h
  have S0:Sim K H [] []:=⟨List.nodup_nil,rfl,fun n a o h=>by simp at h⟩
  refine⟨_,[],[],o,S0,G3 r,h1,?_⟩
  have fin:∀ {H':Hp}{μ':List Addr}{m':MH},Step H [] H' μ'->Sim K H' μ' m'->Same H H'/\∀ a∈μ',old H H' a->False:=fun {H' μ' m'} st S'=>by
   obtain⟨l,e,hl⟩:=st.pre
   refine⟨fun b o e=>st.keep b o e (by simp),fun a ha z=>?_⟩
   rcases z with hne|⟨o,u,z⟩
   ·rw[e] at ha
    exact hne (hl a (by simpa using ha))
   ·obtain⟨xs,e',l⟩:=S'.trk ha
    rw[e'] at z
    cases z
    exact l
  cases o with
  |rt d' m'=>exact fun v H' μ' st S' r'=>q v H' (fin st S').1 (Pb S' (fin st S').2 r' h2)
  |nx env m'=>cases h2;exact fun σ' H' μ' st S' E'=>q _ H' (fin st S').1 .non
  |bk _ _=>exact Ah h2
  |ct _ _=>exact Ah h2
section
variable {X:Cx}{a b c e:Expr}{es:List Expr}{pos p p':Pos}{x:Str}
def Bb (n:Nat) (fn:List D->Option D):List D->MH->Option D:=fun ds m=>(Cu m ds).bind fun ds'=>if ds'.length=n then fn ds' else none
theorem Rep.ofCall {K:W.Frag}{H H':Hp}{μ:List Addr}{m:MH}{d:D}{v:V} (S:Sim K H μ m) (r:Rep K H' [] (old H H') d v):Rep K H' μ (·∈μ) d v :=
 r.up (fun _ _ _ h=>h) (fun a u _ h b=>⟨h,fun z=>b (.inl (by obtain⟨xs,e,_⟩:=S.trk z;rw[e];simp))⟩) fun n a h=>by simp at h
theorem Ai6 {fd:FuncData}{E:XK} (F:FnOk X.prog X.w X.K X.mg X.base CX k f fd ps (spP X.K n fn)) (hr:Room k X.A) (hg:Gl X x) (hm:X.mg x=some (.ref f)) (hk:W.keepIn X.K (.ref f)=true) (hb:Binds X.K fd ps []) (hx:Nj CX X E) (ha:PL X (e::es) g) (hdb:(x == ("__debug__":Str))=false) (he:starEach (e::es) X.env=(false,eval e X.env)::starEach es X.env) (hpl:(backTo pos (starEach es X.env)).any (·.1)=false) :
  PD X (.Call (.Name x p) (e::es) [] pos) (Ao (Bb n fn) g):=PE.imp (Iu F hr hg hm hk hb .nil hx ha hdb he hpl) fun σ H Q ⟨env,μ,m,d,S,E,h,q⟩=>by
 obtain⟨ds,h1,h⟩:=bind_some h
 obtain⟨ds',h2,h⟩:=bind_some h
 split at h
 ·rename_i hl
  refine⟨env,μ,m,ds,S,E,h1,fun vs H1 s1 rs=>⟨ds',d,by rw[Aue];exact C5 (S.same s1) rs h2,hl,h,fun v H' s' r=>q v H' (s1.trans s') (Rep.ofCall (S.same s1) r)⟩⟩
 ·exact Ah h
def Ec (n:Nat) (fn:List D->Option D):List D->MH->Option (List D):=fun ds m=>(Bb n fn ds m).bind fun d=>match d with|.lst es=>if A1 es=true then some es else none|_=>none
theorem Ai9 {fd:FuncData}{E:XK} (F:FnOk X.prog X.w X.K X.mg X.base CX k f fd ps (spP X.K n fn)) (hr:Room k X.A) (hg:Gl X x) (hm:X.mg x=some (.ref f)) (hk:W.keepIn X.K (.ref f)=true) (hb:Binds X.K fd ps []) (hx:Nj CX X E) (ha:PL X (e::es) g) (hdb:(x == ("__debug__":Str))=false) (he:starEach (e::es) X.env=(false,eval e X.env)::starEach es X.env) (hpl:(backTo pos (starEach es X.env)).any (·.1)=false) :
  PF X (.Call (.Name x p) (e::es) [] pos) (Bn (Ec n fn) g):=PE.imp (Iu F hr hg hm hk hb .nil hx ha hdb he hpl) fun σ H Q ⟨env,μ,m,d,S,E,h,q⟩=>by
 obtain⟨ds,h1,h⟩:=bind_some h
 obtain⟨z,h2,h⟩:=bind_some h
 obtain⟨ds',h2,h3⟩:=bind_some h2
 split at h3
 ·rename_i hl
  refine⟨env,μ,m,ds,S,E,h1,fun vs H1 s1 rs=>⟨ds',z,by rw[Aue];exact C5 (S.same s1) rs h2,hl,h3,fun v H' s' r=>?_⟩⟩
  cases r with
  |@lst es a xs hq hb rs' =>
   simp only at h
   split at h
   ·rename_i hl'
    cases h
    have hn:H1 a=none:=Avx fun z=>hb (.inl z)
    rcases hq with hq|⟨o,hq⟩
    ·exact q a xs H' (s1.trans s') (s1.free hn) hq (rs'.nolst hl')
    ·exact absurd (.inr ⟨o,_,hq⟩) hb
   ·cases h
  |_=>exact Ah h
 ·exact Ah h3
end
end
end ML
end L2
end S_ML1
section S_ML6
namespace L2
namespace ML
open PySem PySem.Spec PyProof.Rows
open Classical
noncomputable section
theorem Gn {scope:Scope}{env:Env}:∀ (names:List (Str×NameKind)) (cs:List (Str×Addr)),(∀ y∈names,y.2=.free->∃ c,env.cells.lookup y.1=some c)->∃ cl:List (Str×Addr),
  (forIn names cs fun (y:Str×NameKind) cs=>if (y.2 == .free)=true then (do let c <- cellOf env y.1;pure (ForInStep.yield ((y.1,c)::cs))) else (pure (ForInStep.yield cs):Sem _))=pure cl /\
   (∀ x c,cl.lookup x=some c->cs.lookup x=some c\/env.cells.lookup x=some c)/\(∀ x,((x,NameKind.free)∈names\/∃ c,cs.lookup x=some c)->∃ c,cl.lookup x=some c)
 |[],cs,_=>⟨cs,rfl,fun x c h=>.inl h,fun x h=>by
   rcases h with h|h
   ·exact absurd h (by simp)
   ·exact h⟩
 |(n,k)::names,cs,h=>by
  have h':∀ y∈names,y.2=.free->∃ c,env.cells.lookup y.1=some c:=fun y hy=>h y (Atz _ hy)
  rw[List.forIn_cons]
  by_cases hk:k=.free
  ·subst hk
   obtain⟨c,hc⟩:=h (n,.free) At0 rfl
   obtain⟨cl,e1,e2,e3⟩:=Gn (scope:=scope) (env:=env) names ((n,c)::cs) h'
   refine⟨cl,?_,fun x c' hx=>?_,fun x hx=>?_⟩
   ·have ec:cellOf env n=pure c:=by unfold cellOf;rw[hc]
    simp only[beq_self_eq_true,Awl,ec]
    exact e1
   ·rcases e2 x c' hx with q|q
    ·rw[Avh] at q
     by_cases hxn:(x == n)=true
     ·simp only[hxn] at q
      cases q
      rw[eq_of_beq hxn]
      exact .inr hc
     ·simp only[Bool.not_eq_true] at hxn
      simp only[hxn] at q
      exact .inl q
    ·exact .inr q
   ·refine e3 x ?_
    by_cases hxn:(x == n)=true
    ·exact .inr ⟨c,by rw[Avh];simp only[hxn]⟩
    ·simp only[Bool.not_eq_true] at hxn
     rcases hx with hx|⟨c',hx⟩
     ·rcases List.mem_cons.mp hx with z|z
      ·have:x=n:=by injection z
       rw[this,beq_self_eq_true] at hxn
       cases hxn
      ·exact .inl z
     ·exact .inr ⟨c',by rw[Avh];simp only[hxn];exact hx⟩
  ·obtain⟨cl,e1,e2,e3⟩:=Gn (scope:=scope) (env:=env) names cs h'
   refine⟨cl,?_,e2,fun x hx=>e3 x ?_⟩
   ·have ek:(k == NameKind.free)=false:=by simpa using hk
    simp only[ek,Au3,if_false]
    exact e1
   ·rcases hx with hx|hx
    ·rcases List.mem_cons.mp hx with z|z
     ·injection z with z1 z2
      exact absurd z2.symm hk
     ·exact .inl z
    ·exact .inr hx
theorem Lv (h:∀ y∈scope.names,y.2=.free->∃ c,env.cells.lookup y.1=some c):∃ cl:List (Str×Addr),closureFor scope env=pure cl /\
  (∀ x c,cl.lookup x=some c->env.cells.lookup x=some c)/\∀ x,(x,NameKind.free)∈scope.names->∃ c,cl.lookup x=some c:=by
 obtain⟨cl,e1,e2,e3⟩:=Gn (scope:=scope) (env:=env) scope.names [] h
 refine⟨cl,?_,fun x c hx=>(e2 x c hx).elim (fun z=>by exact Ah z) id,fun x hx=>e3 x (.inl hx)⟩
 have e:closureFor scope env=((forIn scope.names [] fun (y:Str×NameKind) cs=>if (y.2 == .free)=true then (do let c <- cellOf env y.1;pure (ForInStep.yield ((y.1,c)::cs))) else (pure (ForInStep.yield cs):Sem _)) >>= fun cs=>pure cs):=rfl
 rw[e,e1]
 rfl
theorem Yd:∀ (names:List (Str×NameKind)) (h:Heap) (acc:List (Str×Addr)),(∀ x c,acc.lookup x=some c->c < h.objs.size)->(∀ x y c,acc.lookup x=some c->acc.lookup y=some c->x=y) ->
  (∀ x c,(cellsFrom h.objs.size names acc).lookup x=some c->(acc.lookup x=some c/\(x,NameKind.cell)∉names)\/((x,NameKind.cell)∈names/\h.objs.size<=c/\(pushCells h names).IsCell c none)\/(acc.lookup x=some c/\h.IsCell c none/\False)) /\
  (∀ x y c,(cellsFrom h.objs.size names acc).lookup x=some c->(cellsFrom h.objs.size names acc).lookup y=some c->x=y)/\(∀ x,((x,NameKind.cell)∈names\/∃ c,acc.lookup x=some c)->∃ c,(cellsFrom h.objs.size names acc).lookup x=some c)
 |[],h,acc,h1,h2=>⟨fun x c e=>.inl ⟨e,by simp⟩,h2,fun x e=>e.elim (fun z=>absurd z (by simp)) id⟩
 |(n,k)::r,h,acc,h1,h2=>by
  by_cases hk:k=.cell
  ·subst hk
   have hs:(h.push { cls:=.type "cell",data:=.cell none }).objs.size=h.objs.size+1:=Avs ..
   have lk:∀ x c,((n,h.objs.size)::acc).lookup x=some c->(x=n/\c=h.objs.size)\/(x≠n/\acc.lookup x=some c):=fun x c e=>by
    rw[Avh] at e
    by_cases hx:(x == n)=true
    ·simp only[hx] at e
     cases e
     exact .inl ⟨eq_of_beq hx,rfl⟩
    ·have hx':(x == n)=false:=by simpa using hx
     simp only[hx'] at e
     exact .inr ⟨fun z=>hx (by rw[z];exact beq_self_eq_true _),e⟩
   obtain⟨i1,i2,i3⟩:=Yd r (h.push { cls:=.type "cell",data:=.cell none }) ((n,h.objs.size)::acc) (fun x c e=>by
    rw[hs]
    rcases lk x c e with ⟨_,z⟩|⟨_,z⟩
    ·rw[z];exact Awb _
    ·exact Avk (h1 x c z)) (fun x y c e1 e2=>by
    rcases lk x c e1 with ⟨z1,w1⟩|⟨_,z1⟩<;>rcases lk y c e2 with ⟨z2,w2⟩|⟨_,z2⟩
    ·rw[z1,z2]
    ·exact absurd (h1 y c z2) (by rw[w1];exact Aut _)
    ·exact absurd (h1 x c z1) (by rw[w2];exact Aut _)
    ·exact h2 x y c z1 z2)
   have ec:cellsFrom h.objs.size ((n,NameKind.cell)::r) acc=cellsFrom (h.push { cls:=.type "cell",data:=.cell none }).objs.size r ((n,h.objs.size)::acc):=by rw[hs];rfl
   have ep:pushCells h ((n,NameKind.cell)::r)=pushCells (h.push { cls:=.type "cell",data:=.cell none }) r:=rfl
   rw[ec,ep]
   refine⟨fun x c e=>?_,i2,fun x e=>i3 x ?_⟩
   ·rcases i1 x c e with ⟨z,w⟩|⟨z1,z2,z3⟩|⟨_,_,z⟩
    ·rcases lk x c z with ⟨rfl,rfl⟩|⟨hne,z⟩
     ·exact .inr (.inl ⟨At0,At3 _,⟨_,pushCells_keeps _ _ _ _ (At9 _ rfl),rfl⟩⟩)
     ·exact .inl ⟨z,fun y=>by
       rcases List.mem_cons.mp y with y|y
       ·exact hne (Prod.mk.inj y).1
       ·exact w y⟩
    ·exact .inr (.inl ⟨Atz _ z1,Nat.le_of_succ_le (by rw[hs] at z2;exact z2),z3⟩)
    ·exact z.elim
   ·by_cases hx:x=n
    ·exact .inr ⟨_,by rw[Avh,hx,beq_self_eq_true]⟩
    ·have hx':(x == n)=false:=by simpa using hx
     rcases e with e|⟨c,e⟩
     ·rcases List.mem_cons.mp e with e|e
      ·exact absurd (Prod.mk.inj e).1 hx
      ·exact .inl e
     ·exact .inr ⟨c,by rw[Avh,hx'];exact e⟩
  ·obtain⟨i1,i2,i3⟩:=Yd r h acc h1 h2
   have hk':(k == NameKind.cell)=false:=by simpa using hk
   have ec:cellsFrom h.objs.size ((n,k)::r) acc=cellsFrom h.objs.size r acc:=by rw[cellsFrom,hk'];rfl
   have ep:pushCells h ((n,k)::r)=pushCells h r:=by rw[pushCells,hk'];rfl
   have em:∀ x,(x,NameKind.cell)∈(n,k)::r ↔ (x,NameKind.cell)∈r:=fun x=>⟨fun z=>by
    rcases List.mem_cons.mp z with z|z
    ·exact absurd (Prod.mk.inj z).2.symm hk
    ·exact z,Atz _⟩
   rw[ec,ep]
   refine⟨fun x c e=>?_,i2,fun x e=>i3 x ?_⟩
   ·rcases i1 x c e with ⟨z,w⟩|⟨z1,z2,z3⟩|⟨_,_,z⟩
    ·exact .inl ⟨z,fun y=>w ((em x).mp y)⟩
    ·exact .inr (.inl ⟨(em x).mpr z1,z2,z3⟩)
    ·exact z.elim
   ·exact e.imp (em x).mp id
theorem Rk {E:Value->Shared->Prop}{s:Shared} (hQ:∀ h',h'.Ns s.heap.objs.size (fun _=>none)->(∀ b o,s.heap.get? b=some o->h'.get? b=some o)->h'=pushCells (s.heap.push { cls:=.type "dict",data:=.dict #[] }) scope.names ->
   Q { scope,locals:=s.heap.objs.size,globals,cells:=cellsFrom (s.heap.objs.size+1) scope.names cl,qual,func:=none,code:=env.code,frame:=env.frame,builtins:=env.builtins } { s with heap:=h' }) :
  wpAny M A (newFunctionEnv scope globals cl [] qual none .none (some env)) Q E s:=by
 simp only[newFunctionEnv,Av3,Awl]
 refine Atu (wpAny_alloc ?_)
 refine Atu (wpAny_layCells _ (fun name kind cells=>by cases hkc:kind == NameKind.cell<;>simp[hkc]) _ _ _ _ ?_)
 rw[show ({ s with heap:=s.heap.push { cls:=.type "dict",data:=.dict #[] } }:Shared).heap.objs.size=s.heap.objs.size+1 from Avs ..]
 rw[List.forIn_nil]
 refine Atu (Atv (Atv ?_))
 exact hQ _ ((Heap.Ns.new s.heap (.type "dict")).keeps (pushCells_keeps _ _)) (fun b o e=>pushCells_keeps _ _ b o (Atw _ e)) rfl
noncomputable def A6 (X:Cx) (N':List Str) (scope:Scope) (cl:List (Str×Addr)) (C:Addr) (s₀:Shared) (H₀:Hp) (ex:List Addr) (pn:List (Addr×Obj)):Cx where
 prog:=X.prog
 w:=X.w
 K:=X.K
 mg:=X.mg
 base:=X.base
 A:=X.A
 N:=N'
 s₀:=s₀
 H₀:=H₀
 env:=compEnvC scope cl C X.env
 outer:=X.stack
 stack:=X.stack
 ex:=ex
 fn:=fun x=>match scope.names.lookup x with
  |some .cell=>true
  |_=>false
 calm:=X.calm
 pn:=pn
 xe:=fun _ _=>False
noncomputable def capσ (cap:List Nat) (k:Nat) (σ:St):St:=cap.map (fun i=>(σ[i]?).bind id)++List.replicate k none
def Vu (cap:List Nat) (k:Nat) (env:A0):A0:=cap.map (fun i=>(env[i]?).bind id)++List.replicate k none
structure CompOk (X:Cx) (scope:Scope) (cap:List Nat) (N':List Str):Prop where
 kind:scope.kind=.function
 cell:∀ y∈scope.names,y.2=.cell->scope.names.lookup y.1=some .cell
 names:∀ y∈scope.names,y.2=.local->scope.names.lookup y.1=some .local
 free:∀ y∈scope.names,y.2=.free->X.env.scope.names.lookup y.1=some .cell\/X.env.scope.names.lookup y.1=some .free
 nd:N'.Nodup
 le:cap.length<=N'.length
 cap:∀ (j i:Nat) (x:Str),cap[j]?=some i->N'[j]?=some x->X.N[i]?=some x/\scope.names.lookup x=some .free
theorem Df {env:Env}:∀ {names:List (Str×NameKind)}{x:Str}{k:NameKind},(names.map fun (n,k)=>if (k == NameKind.free&&env.scope.kind == .function&&env.kindOf n == some .cell) then (n,NameKind.cell) else (n,k)).lookup x=some k ->
  (names.lookup x=some k/\(k=.free->env.kindOf x≠some .cell\/env.scope.kind≠.function))\/(names.lookup x=some .free/\k=.cell)
 |[],_,_,h=>by simp at h
 |(n,k)::r,x,k',h=>by
  have ih:=@Df env r x k'
  rw[At5] at h
  by_cases hc:(k == NameKind.free&&env.scope.kind == .function&&env.kindOf n == some .cell)=true
  ·simp only[hc,Awl] at h
   rw[Avh] at h ⊢
   cases hx:x == n with
   |true =>
    simp only[hx] at h ⊢
    cases h
    have:k=.free:=by simp at hc;exact hc.1.1
    exact .inr ⟨by rw[this],rfl⟩
   |false =>
    simp only[hx] at h ⊢
    exact ih h
  ·simp only[At8 hc] at h
   rw[Avh] at h ⊢
   cases hx:x == n with
   |true =>
    simp only[hx] at h ⊢
    cases h
    refine .inl ⟨rfl,fun z=>?_⟩
    subst z
    have e:=eq_of_beq hx
    subst e
    simp at hc
    by_cases q:env.scope.kind=.function
    ·exact .inl fun z=>hc q z
    ·exact .inr q
   |false =>
    simp only[hx] at h ⊢
    exact ih h
section
variable {X:Cx}{elt tg iter:Expr}{ifs:List Expr}{scope:Scope}{pos:Pos}{cap:List Nat}{N':List Str}
theorem Ab5 {pins:List (Addr×Obj)}{σ:St}{H2 H3:Hp}{s2:Shared}{h₁:Heap}{tk:Nat}{fp:List Addr}{cl:List (Str×Addr)}{C:Addr}{ys:List V} (ok:CompOk X scope cap N') (I2:Inv X pins σ H2 s2) (f2:∀ b∈fp,Aei X pins H2 b) (fo:∀ b∈fp,∃ o,s2.heap.get? b=some o)
  (hcl:∀ x c,cl.lookup x=some c->(X.env.cells.lookup x=some c/\scope.names.lookup x≠some .cell)\/(scope.names.lookup x=some .cell/\C < c/\h₁.IsCell c none/\H3 c=none)) (hinj:∀ x y c,cl.lookup x=some c->cl.lookup y=some c->x=y)
  (hcl2:∀ x,((x,NameKind.free)∈scope.names\/(x,NameKind.cell)∈scope.names)->∃ c,cl.lookup x=some c)
  (hC:s2.heap.objs.size<=C) (hns:∃ m,h₁.Ns C m) (hk:∀ b o,s2.heap.get? b=some o->h₁.get? b=some o) (hH:∀ b o,s2.heap.get? b=some o->H2 b=none->H3 b=none) (hS:Same H2 H3) (hC3:H3 C=none) (hok:HOk X.prog X.w X.K H3 h₁) :
  Inv (A6 X N' scope cl C s2 H2 fp (X.pn++pins)) [] (capσ cap (N'.length - cap.length) σ) H3 { s2 with heap:=h₁,toks:=tk }:=by
 have lt:∀ b o,s2.heap.get? b=some o->b≠C:=fun b o e=>Aub (At6 (At1 e) hC)
 have kin:∀ x,(A6 X N' scope cl C s2 H2 fp (X.pn++pins)).env.kindOf x=some .cell\/(A6 X N' scope cl C s2 H2 fp (X.pn++pins)).env.kindOf x=some .free->(x,NameKind.free)∈scope.names\/(x,NameKind.cell)∈scope.names:=fun x h=>by
  have key:∀ k,(relabel scope X.env).names.lookup x=some k->k=.cell\/k=.free->(x,NameKind.free)∈scope.names\/(x,NameKind.cell)∈scope.names:=fun k hk hkk=>by
   rcases Df hk with ⟨q,_⟩|⟨q,_⟩
   ·rcases hkk with rfl|rfl
    ·exact .inr (Auv q)
    ·exact .inl (Auv q)
   ·exact .inl (Auv q)
  rcases h with h|h
  ·exact key _ h (.inl rfl)
  ·exact key _ h (.inr rfl)
 have fpx:∀ b∈fp,∀ o,X.base.get? b=some o->False:=fun b hb o e=>by
  obtain⟨_,_,_,q,_,_⟩:=f2 b hb
  rcases q with q|q
  ·exact I2.ok.noex b o e q
  ·exact absurd (At6 (At1 e) (Aug I2.ok.bsz q)) (Aut _)
 refine⟨⟨I2.ok.mod,ok.kind,I2.ok.glob,I2.ok.blt,hC,?_,?_,?_,I2.ok.hd,I2.ok.frames,.inl rfl,?_,I2.bs,Aug I2.ok.bsz I2.sz,?_,?_,I2.stack,I2.stkFree⟩,rfl,I2.bare,⟨?_,?_,?_,?_,?_,?_,?_⟩,?_,?_,hC3,?_,?_,hok,?_⟩
 ·exact hinj
 ·exact fun x h=>hcl2 x (kin x h)
 ·intro x c h e
  have h:(match scope.names.lookup x with|some .cell=>true|_=>false)=true:=h
  rcases hcl x c e with ⟨_,z⟩|⟨_,z,_⟩
  ·split at h
   ·rename_i q;exact absurd q z
   ·exact Ct h
  ·exact Av9 (Nat.lt_of_le_of_lt hC z)
 ·intro b hb
  obtain⟨o,e⟩:=fo b hb
  refine⟨lt b o e,fun x c h=>?_⟩
  rcases hcl x c h with ⟨z,_⟩|⟨_,z,_⟩
  ·exact (f2 b hb).2.2.2.2.1 x c z
  ·exact Avp (Nat.lt_trans (At6 (At1 e) hC) z)
 ·exact fun b o e hb=>fpx b hb o e
 ·intro b hb hfs
  have z:b∈X.env.locals::X.fs:=I2.stkSub b hfs
  rcases List.mem_cons.mp z with z|z
  ·exact (f2 b hb).2.1 z
  ·exact (f2 b hb).2.2.1 z
 ·exact fun b o e n _ _=>hk b o e
 ·exact fun b o e n _ _=>⟨o.slots,hk b o e⟩
 ·exact fun b o e n _=>hH b o e n
 ·exact fun b o e _=>⟨o,hk b o e⟩
 ·exact fun b xs e=>hS b _ e
 ·exact fun b o u e=>hS b _ e
 ·exact fun b ps e=>⟨#[],by rw[hS b _ e];simp⟩
 ·obtain⟨m,hm⟩:=hns
  refine⟨m,hm,fun j x v e1 e2 e3=>?_⟩
  have hj:j < cap.length:=by
   apply Avx
   intro hj
   unfold capσ at e2
   rw[Auy (by simpa using hj),Av4] at e2
   split at e2<;>cases e2
  obtain⟨i,hi⟩:∃ i,cap[j]?=some i:=⟨cap[j],by simp[hj]⟩
  obtain⟨q1,q2⟩:=ok.cap j i x hi e1
  have e4:σ[i]?=some (some v):=by
   unfold capσ at e2
   rw[Aun (by simpa using hj),Auh,hi] at e2
   simp only[Option.map_some,Option.some.injEq] at e2
   obtain⟨o,h1,h2⟩:=bind_some e2
   have h2:o=some v:=h2
   rw[h1,h2]
  have hfr:=ok.free (x,.free) (Auv q2) rfl
  have vis:Vis X.env.scope x:=.inr hfr
  obtain⟨m0,hn0,hl⟩:=I2.loc
  obtain⟨u,r,l⟩:=hl i x v q1 e4 vis
  refine⟨u,r,.inr ?_⟩
  rcases l with ⟨l1,_⟩|⟨l1,c,l2,l3⟩
  ·have l1:X.env.scope.names.lookup x=some .local:=l1
   rcases hfr with z|z<;>rw[l1] at z<;>cases z
  ·obtain⟨c',hc'⟩:=hcl2 x (.inl (Auv q2))
   have:c'=c:=by
    rcases hcl x c' hc' with ⟨z,_⟩|⟨z,_⟩
    ·rw[l2] at z;exact (Au2 z).symm
    ·rw[q2] at z;cases z
   subst this
   refine⟨?_,c',hc',?_⟩
   ·rcases e3 with z|z|z
    ·have z':(relabel scope X.env).names.lookup x=some .local:=z
     rcases Df z' with ⟨q,_⟩|⟨q,w⟩
     ·rw[q2] at q;cases q
     ·cases w
    ·exact .inl z
    ·exact .inr z
   ·obtain⟨oc,ho,hd⟩:=l3
    exact⟨oc,hk _ _ ho,hd⟩
 ·intro x c h
  rcases hcl x c h with ⟨z,_⟩|⟨_,_,z,_⟩
  ·obtain⟨v,oc,ho,hd⟩:=I2.cell x c z
   exact⟨v,oc,hk _ _ ho,hd⟩
  ·exact⟨none,z⟩
 ·intro x c h
  rcases hcl x c h with ⟨z,_⟩|⟨_,_,_,z⟩
  ·obtain⟨v,oc,ho,hd⟩:=I2.cell x c z
   exact hH c oc ho (I2.freeC x c z)
  ·exact z
 ·intro p hp
  have hp':p∈X.pn++pins:=by
   have:p∈(X.pn++pins)++[]:=hp
   simpa using this
  obtain⟨e,n,ne,nf,d⟩:=I2.pin p hp'
  refine⟨hk _ _ e,hH _ _ e n,lt _ _ e,?_,d⟩
  intro z
  have z:p.1∈X.env.locals::X.fs:=I2.stkSub p.1 z
  rcases List.mem_cons.mp z with z|z
  ·exact ne z
  ·exact nf z
 ·unfold capσ
  show _=N'.length
  rw[Aui,Aud,List.length_replicate]
  have:=ok.le
  lia
end
end
end ML
end L2
end S_ML6
section S_ML7
namespace L2
namespace ML
open PySem PySem.Spec PyProof.Rows
open Classical
noncomputable section
noncomputable def Gp (g:FG) (t:FB) (fe:FE) (m:MH) (env:A0):List D->Option (List D)
 |[]=>some []
 |d::ds=>(g d env).bind fun env1=>(t env1 m).bind fun ok=>if ok=true then (fe env1 m).bind fun y=>(Gp g t fe m env ds).bind fun ys=>some (y::ys) else Gp g t fe m env ds
noncomputable def Ts:FB:=fun _ _=>some true
def PTs (X:Cx) (ifs:List Expr) (f:FB):Prop:=∀ (pins:List (Addr×Obj)) (s:Shared) (σ:St) (H:Hp) (Q:Bool->Hp->Prop),Inv X pins σ H s->tB' X.K f σ H Q ->
 wpAny (model X.prog X.w) X.A (forIn ifs true fun c r=>if r=true then do let ok <- isTrue c X.env (eval c X.env);pure (ForInStep.yield ok) else pure (ForInStep.yield r)) (TP X pins σ Q) X.xe s
theorem Ajs:PTs X [] Ts:=fun pins s σ H Q I ⟨env,μ,m,b,S,E,h,q⟩=>by
 cases h
 exact wpAny_tests_nil ⟨H,I,q H (Same.refl H)⟩
theorem Ajt (h:PB X c f):PTs X [c] f:=fun pins s σ H Q I q=>wpAny_tests_one (h pins s σ H Q I q)
theorem Nt {s:Shared}{pos:Pos} (I:Nat->Shared->Prop) (turn:∀ n s,I n s->wpAny (model prog w) A (pyNext it) (fun r s₁=>match r with
   |none=>R (.ok .next) s₁
   |some v=>wpAny (model prog w) A (letOwnedTupleGo target it v) (fun _ s₁'=>wpAny (model prog w) A (assign target env v) (fun _ s₂ =>
     wpAny (model prog w) A (forIn ifs true fun c r=>if r=true then do let ok <- isTrue c env (eval c env);pure (ForInStep.yield ok) else pure (ForInStep.yield r)) (fun ok s₃ =>
      if ok=true then wpAny (model prog w) A (eval elt env) (fun x s₄ =>
       wpAny (model prog w) A (call (.builtin "list.append") [acc,x]) (fun _ s₅=>∃ m,m < n/\I m s₅) (fun _ _=>False) s₄) (fun _ _=>False) s₃
      else ∃ m,m < n/\I m s₃) (fun _ _=>False) s₂) (fun _ _=>False) s₁') (fun _ _=>False) s₁) (fun _ _=>False) s) (n:Nat) (h:I n s):codeAny (model prog w) A (.compLoop (.ListComp elt [⟨target,iter,ifs,0⟩] scope pos) 0 it acc env) R s:=by
 have no:∀ {E:Value->Shared->Prop} (e:Value) (s:Shared),False->E e s:=fun _ _ h=>h.elim
 refine codeAny_loop rfl I (fun n s hI=>?_) n h
 show wpAny _ A ((compTurn (.ListComp elt [⟨target,iter,ifs,0⟩] scope pos) 0 it acc env).onRaise (fun x=>do noteFrame x env;theTreesLotGoes x)) _ _ s
 refine wpAny_noted ?_
 rw[compTurn_list]
 refine Atu (wpAny_standAt (Atu (Au0 (turn n s hI) (fun r s₁ h₁=>?_) no)))
 cases r with
 |none=>exact Atv h₁
 |some v =>
  refine Atu (Au0 h₁ (fun _ s₁' h₁'=>?_) no)
  refine Atu (Au0 h₁' (fun _ s₂ h₂=>Atu (Au0 h₂ (fun ok s₃ h₃=>?_) no)) no)
  cases ok with
  |false=>exact Atv ⟨rfl,h₃⟩
  |true =>
   exact Atu (Atu (Au0 h₃ (fun x s₄ h₄=>Atu (Au0 h₄ (fun _ s₅ h₅=>Atv (Atv ⟨rfl,h₅⟩)) no)) no))
theorem Ab2 {K:W.Frag}{H:Hp}{μ:List Addr}{σ:St}{env:A0} (h:EnvRep K H μ σ env) (cap:List Nat) (k:Nat):EnvRep K H μ (capσ cap k σ) (Vu cap k env):=by
 refine⟨by unfold capσ Vu;simp,fun j d e=>?_⟩
 have hj:j < cap.length:=by
  apply Avx
  intro hj
  unfold Vu at e
  rw[Auy (by simpa using hj),Av4] at e
  split at e<;>cases e
 unfold Vu at e
 rw[Aun (by simpa using hj),Auh] at e
 have hi:cap[j]?=some cap[j]:=by simp[hj]
 rw[hi] at e
 simp only[Option.map_some,Option.some.injEq] at e
 obtain⟨o,h1,h2⟩:=bind_some e
 have h2:o=some d:=h2
 subst h2
 obtain⟨v,q1,q2⟩:=h.get _ _ h1
 refine⟨v,?_,q2⟩
 unfold capσ
 rw[Aun (by simpa using hj),Auh,hi]
 simp[q1]
section
variable {X:Cx}{elt tg iter:Expr}{ifs:List Expr}{scope:Scope}{pos:Pos}{cap:List Nat}{N':List Str}{fw:FW}{g:FG}{t:FB}{fe:FE}
def B8 (cap:List Nat) (k:Nat) (fw:FW) (g:FG) (t:FB) (fe:FE):FL:=fun env m=>(fw env m).bind fun w=>if w.chk m/\w.all.length<=1000000 then Gp g t fe m (Vu cap k env) w.all else none
structure CompEnd (X:Cx) (pins:List (Addr×Obj)) (σ:St) (H:Hp) (μ:List Addr) (zs:List D) (D C:Addr) (s':Shared):Prop where
 out:∃ H' ys,Same H H'/\H D=none/\H' D=some (.lst ys)/\Reps X.K H' μ (nw μ D) zs ys/\Inv X pins σ H' s'/\H' C=none/\∀ σ' s'' h',Inv X pins σ' H' s''->Heap.SameBut C s''.heap h'->Inv X pins σ' H' { s'' with heap:=h' }
 ns:∃ m,s'.heap.Ns C m
 lc:C≠X.env.locals
 cc:∀ x c,X.env.cells.lookup x=some c->c≠C
inductive CI (Y:Cx) (μ:List Addr) (fp:List Addr) (tn:Nat->Heap->Prop) (Dd:Addr) (H2:Hp) (g:FG) (e0:A0) (cd:Nat->Option (List D)) (n:Nat) (zs:List D) (s:Shared):Nat->Prop where
 |mk {i:Nat}{H3:Hp}{σ3:St}{env3:A0}{ys:List V}{its:List Value}{na:Nat}{dn rs:List D}:i<=n->Inv Y [] σ3 H3 s->tn i s.heap->(∀ b∈fp,H3 b=none)->Same H2 H3->H3 Dd=none->EnvRep Y.K H3 μ σ3 env3->(∀ d,g d env3=g d e0) ->
  s.heap.get? Dd=some { cls:=.type "list",data:=.seq its.toArray na }->Vals ys its->Reps Y.K H3 μ (·∈μ) dn ys->cd i=some rs->dn++rs=zs->dn.length<=i->CI Y μ fp tn Dd H2 g e0 cd n zs s (n - i)
theorem Jw (ok:CompOk X scope cap N') (hc:X.calm=true) (hi:PW' X tg iter fw) (hg2:∀ d d' env e1,g d env=some e1->g d' e1=g d' env)
  {Φ:Hp->Prop} (hΦ:∀ {pins:List (Addr×Obj)}{σ:St}{H:Hp}{s:Shared},Inv X pins σ H s->Φ H) (hg:∀ cl C s₀ H₀ ex pn,Φ H₀->PGD (A6 X N' scope cl C s₀ H₀ ex pn) tg g) (ht:∀ cl C s₀ H₀ ex pn,Φ H₀->PTs (A6 X N' scope cl C s₀ H₀ ex pn) ifs t) (he:∀ cl C s₀ H₀ ex pn,Φ H₀->PD (A6 X N' scope cl C s₀ H₀ ex pn) elt fe)
  (hs:∀ x,foldedSetIterable iter X.env x=pure x) {use:Option (Value->Sem Unit)}{ipos:Pos}{pins:List (Addr×Obj)}{s:Shared}{σ:St}{H:Hp}{Q:Value->Shared->Prop} (I:Inv X pins σ H s) {env:A0}{μ:List Addr}{m:MH}{zs:List D}
  (S:Sim X.K H μ m) (E:EnvRep X.K H μ σ env) (h:B8 cap (N'.length - cap.length) fw g t fe env m=some zs)
  (hQ:∀ D C s',CompEnd X pins σ H μ zs D C s'->compPost (model X.prog X.w) X.A X.xe use Q (.ref D) C (.ok .next) s') :
  wpAny (model X.prog X.w) X.A (comprehension (.ListComp elt [⟨tg,iter,ifs,0⟩] scope pos) scope X.env ipos (newList []) false (eval iter X.env) use) Q X.xe s:=by
 obtain⟨w,h1,h⟩:=bind_some h
 split at h
 rotate_left
 ·cases h
 rename_i hck
 obtain⟨hck,hsz⟩:=hck
 have hfr:∀ y∈scope.names,y.2=.free->∃ c,X.env.cells.lookup y.1=some c:=fun y hy hf=>I.ok.has y.1 (ok.free y hy hf)
 obtain⟨cl0,hclos,hcl0,hcl20⟩:=Lv hfr
 refine wpAny_comprehension_free (g:=⟨tg,iter,ifs,0⟩) (gs:=[]) rfl hs hclos ok.kind ok.names (thn (hi pins s σ H (fun J H2=>∃ src,Same H H2/\Src X.K J w.all w.chk src/\src H2 μ m) I ⟨env,μ,m,w,S,E,h1,fun H' J src s1 hsrc h0=>⟨src,s1,hsrc,h0⟩⟩) fun v s1 h2=>thn h2 fun itv s2 h3=>?_)
 obtain⟨it,fp,tn,J,H2,e,I2,T,st2,f2,src,hS2,hsrc,h0⟩:=h3
 subst e
 refine Au8 (Rk fun h₁ hns₁ hsb₁ heq₁=>?_)
 dsimp only at hns₁ hsb₁ heq₁ ⊢
 generalize hHp:s2.heap.push { cls:=.type "list",dict:=none,data:=.seq ([]:List Value).toArray }=HP at hns₁ hsb₁ heq₁ ⊢
 have hCs:HP.objs.size=s2.heap.objs.size+1:=by rw[<- hHp,Avs]
 have hDC:s2.heap.objs.size≠HP.objs.size:=by rw[hCs];exact Aub (Awb _)
 have hCle:s2.heap.objs.size<=HP.objs.size:=by rw[hCs];exact Av0 _
 have below:∀ b,b < s2.heap.objs.size->b≠HP.objs.size/\b≠s2.heap.objs.size:=fun b hb=>⟨by rw[hCs];exact Aub (Avk hb),Aub hb⟩
 have hkp:∀ b o,s2.heap.get? b=some o->h₁.get? b=some o:=fun b o e=>hsb₁ b o (hHp ▸ Atw _ e)
 have hacc:h₁.get? s2.heap.objs.size=some { cls:=.type "list",data:=.seq ([]:List Value).toArray 0 }:=hsb₁ _ _ (hHp ▸ At9 _ rfl)
 have hDn:H2 s2.heap.objs.size=none:=I2.hok.fresh (At3 _)
 have hCn:H2 HP.objs.size=none:=I2.hok.fresh hCle
 have fo:∀ b∈fp,∃ o,s2.heap.get? b=some o:=fun b hb=>let ⟨o,e,_⟩:=T.obj _ _ st2 b hb;⟨o,e⟩
 have fdc:∀ b∈fp,b≠HP.objs.size/\b≠s2.heap.objs.size:=fun b hb=>let ⟨o,e⟩:=fo b hb;below b (At1 e)
 have hsz1:(HP.push { cls:=.type "dict",data:=.dict #[] }).objs.size=HP.objs.size+1:=Avs ..
 obtain⟨c1,c2,c3⟩:=Yd scope.names (HP.push { cls:=.type "dict",data:=.dict #[] }) cl0 (fun x c e=>by
  obtain⟨v,oc,ho,_⟩:=I2.cell x c (hcl0 x c e)
  rw[hsz1,hCs]
  exact Avk (Avk (At1 ho))) (fun x y c e1 e2=>I2.ok.inj x y c (hcl0 x c e1) (hcl0 y c e2))
 rw[hsz1,<- heq₁] at c1
 rw[hsz1] at c2 c3
 generalize hcle:cellsFrom (HP.objs.size+1) scope.names cl0=cl at *
 have hcl:∀ x c,cl.lookup x=some c->(X.env.cells.lookup x=some c/\scope.names.lookup x≠some .cell)\/(scope.names.lookup x=some .cell/\HP.objs.size < c/\h₁.IsCell c none/\H2 c=none):=fun x c e=>by
  rcases c1 x c e with ⟨z,w⟩|⟨z1,z2,z3⟩|⟨_,_,z⟩
  ·exact .inl ⟨hcl0 x c z,fun q=>w (Auv q)⟩
  ·exact .inr ⟨ok.cell _ z1 rfl,z2,z3,I2.hok.fresh (Aug hCle (Av9 z2))⟩
  ·exact z.elim
 have hcl2:∀ x,((x,NameKind.free)∈scope.names\/(x,NameKind.cell)∈scope.names)->∃ c,cl.lookup x=some c:=fun x e=>c3 x (e.elim (fun z=>.inr (hcl20 x z)) .inl)
 generalize hDd:s2.heap.objs.size=Dd at *
 generalize hCc:HP.objs.size=C at *
 have Y0:Inv (A6 X N' scope cl C s2 H2 fp (X.pn++pins)) [] (capσ cap (N'.length - cap.length) σ) H2 { s2 with heap:=h₁,toks:=s2.toks } :=
  Ab5 (ys:=[]) ok I2 f2 fo hcl c2 hcl2 (by rw[hDd];exact hCle) ⟨_,hns₁⟩ hkp (fun _ _ _ n=>n) (Same.refl _) hCn (I2.hok.kept hkp)
 -- what stays true of the iterator's objects in the block
 have fpY:∀ {H':Hp}{ps:List (Addr×Obj)},(∀ b∈fp,H' b=none)->(∀ p∈ps,p.1∉fp)->∀ b∈fp,Aei (A6 X N' scope cl C s2 H2 fp (X.pn++pins)) ps H' b:=fun {H' ps} hn hps b hb=>by
  obtain⟨q0,q1,q2,q3,q4,q5⟩:=f2 b hb
  refine⟨hn b hb,(fdc b hb).1,fun z=>?_,.inl hb,fun x c e=>?_,fun p hp z=>?_⟩
  rotate_left
  ·rcases hcl x c e with ⟨z,_⟩|⟨_,z,_⟩
   ·exact q4 x c z
   ·obtain⟨o,e'⟩:=fo b hb
    exact Avp (At6 (by have:=At1 e';rw[hDd] at this;exact this) (Aug hCle (Av9 z)))
  rotate_left
  ·have z:b∈X.env.locals::X.fs:=I2.stkSub b z
   rcases List.mem_cons.mp z with z|z
   ·exact q1 z
   ·exact q2 z
  ·rcases List.mem_append.mp hp with hp|hp
   ·exact q5 p hp z
   ·exact hps p hp (by rw[z];exact hb)
 have key:∀ s₃:Shared,s₃={ s2 with heap:=h₁,toks:=s2.toks } ->
   codeAny (model X.prog X.w) X.A (.compLoop (.ListComp elt [⟨tg,iter,ifs,0⟩] scope pos) 0 (.ref it) (.ref Dd) (compEnvC scope cl C X.env)) (compPost (model X.prog X.w) X.A X.xe use Q (.ref Dd) C) s₃:=by
  rintro s₃ rfl
  refine Nt (fun k s=>CI (A6 X N' scope cl C s2 H2 fp (X.pn++pins)) μ fp tn Dd H2 g (Vu cap (N'.length - cap.length) env) (fun i=>Gp g t fe m (Vu cap (N'.length - cap.length) env) (w.all.drop i)) w.all.length zs s k) ?_ w.all.length
   (.mk (ys:=[]) (dn:=[]) (Auw _) Y0 (T.keep _ _ _ st2 fun b hb o e=>hkp b o e) (fun b hb=>(f2 b hb).1) (Same.refl _) hDn (Ab2 (E.same hS2) cap _) (fun _=>rfl) hacc .nil .nil (by simpa using h) rfl (Auw _))
  intro k s3 ci
  cases ci with
  |@mk i H3 σ3 env3 ys its na dn rs hi' I3 st3 fr3 s3' hD3 E3 hg3 ha3 rv3 rr3 hc3 hz3 hl3 =>
  have S3:Sim X.K H3 μ m:=S.same (hS2.trans s3')
  have src3:src H3 μ m:=hsrc.keep _ _ _ _ _ _ h0 (S.same hS2) (Step.of_same s3') S3
  have hDfp:Dd∉fp:=fun z=>(fdc Dd z).2 rfl
  have hDne:Dd≠(A6 X N' scope cl C s2 H2 fp (X.pn++pins)).env.locals:=hDC
  have hDcell:∀ x c,(A6 X N' scope cl C s2 H2 fp (X.pn++pins)).env.cells.lookup x=some c->c≠Dd:=fun x c e z=>by
   rcases hcl x c e with ⟨w,_⟩|⟨_,w,_⟩
   ·obtain⟨v,oc,ho,_⟩:=I2.cell x c w
    exact absurd (At1 ho) (by rw[z,hDd];exact Aut _)
   ·exact absurd w (by rw[z];exact Nat.not_lt.mpr hCle)
  have hDpn:∀ p∈X.pn++pins,p.1≠Dd:=fun p hp z=>absurd (At1 (I2.pin p hp).1) (by rw[z,hDd];exact Aut _)
  have hDs:s2.heap.objs.size<=Dd:=Nat.le_of_eq hDd
  have hDfs:Dd∉(A6 X N' scope cl C s2 H2 fp (X.pn++pins)).fs:=fun z=>by
   have z:Dd∈X.env.locals::X.fs:=I2.stkSub Dd z
   rcases List.mem_cons.mp z with z|z
   ·exact absurd I2.lt (by rw[<- z,hDd];exact Aut _)
   ·exact I2.nofs hDs z
  have I3p:Inv (A6 X N' scope cl C s2 H2 fp (X.pn++pins)) [(Dd,{ cls:=.type "list",data:=.seq its.toArray na })] σ3 H3 s3:=I3.pins_of fun p hp=>by
   have e:p=(Dd,{ cls:=.type "list",data:=.seq its.toArray na }):=by simpa using hp
   subst e
   exact⟨ha3,hD3,hDne,hDfs,fun v z=>by cases z⟩
  have pfp:∀ p∈[(Dd,({ cls:=.type "list",data:=.seq its.toArray na }:Obj))],p.1∉fp:=fun p hp=>by
   have e:p=(Dd,{ cls:=.type "list",data:=.seq its.toArray na }):=by simpa using hp
   subst e
   exact hDfp
  by_cases hlt:i < w.all.length
  ·have hd:w.all.drop i=w.all[i]::w.all.drop (i+1):=Avv hlt
   rw[hd] at hc3
   unfold Gp at hc3
   obtain⟨env4,e4,hc3⟩:=bind_some hc3
   obtain⟨tb,e5,hc3⟩:=bind_some hc3
   obtain⟨go,yl⟩:=hsrc.go H3 μ m i w.all[i] S3 src3 hck (by simp[hlt])
   refine thn (T.item (A6 X N' scope cl C s2 H2 fp (X.pn++pins)) rfl rfl rfl hc i _ s3 σ3 H3 _ I3p (fpY fr3 pfp) st3 go) fun r s4 ⟨u,hr,h4⟩=>?_
   subst hr
   refine thn h4 fun _ s5 ⟨x,H5,I5,r5,y5,st5,fr5⟩=>?_
   obtain⟨s5',rx5⟩:=yl x H5 y5
   have S5:=S3.same s5'
   have E5:=E3.same s5'
   have I5':=I5.pinned (fpY fr5 pfp) (T.obj _ _ st5)
   generalize hps:[(Dd,({ cls:=.type "list",data:=.seq its.toArray na }:Obj))]++On fp s5.heap=ps at I5'
   have pacc:(Dd,({ cls:=.type "list",data:=.seq its.toArray na }:Obj))∈ps:=by rw[<- hps];exact Auq _ (by simp)
   have pits:∀ b o,b∈fp->s5.heap.get? b=some o->(b,o)∈ps:=fun b o hb e=>by rw[<- hps];exact Aty _ (Gu hb e)
   refine thn (hg cl C s2 H2 fp (X.pn++pins) (hΦ I2) ps s5 σ3 H5 x u (fun σ' H'=>H'=H5/\EnvRep X.K H5 μ σ' env4) I5' r5 ⟨env3,μ,m,_,env4,S5,E5,rx5,by rw[hg3];exact e4,fun σ' E'=>⟨rfl,E'⟩⟩) fun _ s6 ⟨σ6,H6,I6,eH6,E6⟩=>?_
   subst eH6
   refine thn (ht cl C s2 H2 fp (X.pn++pins) (hΦ I2) ps s6 σ6 H6 (fun b H'=>b=tb/\Same H6 H') I6 ⟨env4,μ,m,tb,S5,E6,e5,fun H' s=>⟨rfl,s⟩⟩) fun ok s7 ⟨H7,I7,eb,s7'⟩=>?_
   subst eb
   have S7:=S5.same s7'
   have E7:=E6.same s7'
   have hg4:∀ d,g d env4=g d (Vu cap (N'.length - cap.length) env):=fun d=>by rw[hg2 _ d _ _ e4]
   cases ok with
   |false =>
    rw[At8 Auo] at hc3
    have pin7:=fun p hp=>I7.pin p (Aty _ hp)
    refine Aq8 ⟨w.all.length - (i+1),by lia,.mk hlt (I7.pins_of (fun p hp=>by simp at hp)) (T.keep _ _ _ st5 fun b hb o e=>(pin7 (b,o) (pits b o hb e)).1) (fun b hb=>?_) ((s3'.trans s5').trans s7') (pin7 _ pacc).2.1 E7 hg4 (pin7 _ pacc).1 rv3 (rr3.same (s5'.trans s7')) hc3 hz3 (Nat.le_succ_of_le hl3)⟩
    obtain⟨o,e,_⟩:=T.obj _ _ st5 b hb
    exact (pin7 (b,o) (pits b o hb e)).2.1
   |true =>
    rw[At4 rfl] at hc3
    obtain⟨y,e6,hc3⟩:=bind_some hc3
    obtain⟨rs',e7,hc3⟩:=bind_some hc3
    cases hc3
    refine Aq9 (thn (he cl C s2 H2 fp (X.pn++pins) (hΦ I2) ps s7 σ6 H7 (fun v H'=>Same H7 H'/\Rep X.K H' μ (·∈μ) y v) I7 ⟨env4,μ,m,y,S7,E7,e6,fun v H' s r=>⟨s,r⟩⟩) fun u8 s8 ⟨x8,H8,I8,r8,s8',rx8⟩=>?_)
    have pin8:=fun p hp=>I8.pin p (Aty _ hp)
    have e8:=(pin8 _ pacc).1
    have hil:its.length<=i:=by rw[<- rv3.length,<- rr3.length];exact hl3
    have hsl:sizeLine=16777216:=Au9
    refine Awp F.slot_list_append ⟨_,e8,rfl⟩ F.entry_list_append (F.args_list_append_2 _ _) (PySem.list_append Dd its.toArray na u8 (by rw[At2];lia)) ⟨e8,?_⟩
    obtain⟨na',q9⟩:∃ na',(s8.heap.update Dd (Obj.mapSeq fun a=>a.push u8)).get? Dd=some { cls:=.type "list",data:=.seq (its++[u8]).toArray na' }:=by
     have q9:=PySem.IsL.update e8 (fun a=>a.push u8)
     have ea:(its.toArray.push u8)=(its++[u8]).toArray:=by simp
     rw[ea] at q9
     exact⟨_,q9⟩
    have I8':Inv (A6 X N' scope cl C s2 H2 fp (X.pn++pins)) [] σ6 H8 s8:=I8.pins_of (fun p hp=>by simp at hp)
    have I9:=I8'.turned (it:=Dd) (t':=s8.toks) (h':=s8.heap.update Dd (Obj.mapSeq fun a=>a.push u8)) (fun b o hb e=>(Aum s8.heap _ (Avn hb)).trans e) (pin8 _ pacc).2.1 hDne (.inr hDs) hDcell (fun p hp=>hDpn p (by
     have hp:p∈(X.pn++pins)++[]:=hp
     simpa using hp))
    refine⟨w.all.length - (i+1),by lia,.mk (na:=na') hlt I9 (T.keep _ _ _ st5 fun b hb o e=>?_) (fun b hb=>?_) (((s3'.trans s5').trans s7').trans s8') (pin8 _ pacc).2.1 (E7.same s8') hg4 ?_ (rv3.append (.cons r8 .nil)) ((rr3.same ((s5'.trans s7').trans s8')).append (.cons rx8 .nil)) e7 (by rw[<- hz3];simp) (by rw[Aui];simp;lia)⟩
    ·exact (Aum s8.heap _ (Avn (fdc b hb).2)).trans (pin8 (b,o) (pits b o hb e)).1
    ·obtain⟨o,e,_⟩:=T.obj _ _ st5 b hb
     exact (pin8 (b,o) (pits b o hb e)).2.1
    ·exact q9
  ·have e:i=w.all.length:=by lia
   subst e
   rw[List.drop_length] at hc3
   cases hc3
   rw[Aue] at hz3
   subst hz3
   refine thn (T.done (A6 X N' scope cl C s2 H2 fp (X.pn++pins)) rfl rfl rfl hc _ _ s3 σ3 H3 _ I3p (fpY fr3 pfp) st3 (hsrc.stop H3 μ m S3 src3 hck)) fun r s4 ⟨hr,I4⟩=>?_
   subst hr
   have e4:=(I4.pin (Dd,_) (Aty _ (List.mem_singleton.mpr rfl))).1
   have hyl:ys.length<=sizeLine:=by rw[<- rr3.length];exact big (Aug hl3 hsz)
   have inv:∀ h',(∀ b o,b≠C->s4.heap.get? b=some o->h'.get? b=some o)->Inv X pins σ (upd H3 Dd (.lst ys)) { s4 with heap:=h' }:=fun h' hk=>by
    have nC:∀ b o,s2.heap.get? b=some o->b≠C/\b≠Dd:=fun b o e=>below b (by rw[<- hDd];exact At1 e)
    have un:Un (frs X.stack) fp H2 H3 s2.heap s4.heap:=I4.base
    refine I2.call' (s':={ s4 with heap:=h' }) (ch:=fp) I4.os ⟨fun b o e n hb hx=>hk b o (nC b o e).1 (un.keep b o e n hb hx),fun b o e n hb hx=>?_,fun b o e n hx=>?_,fun b o e hx=>?_,fun b xs e=>?_,fun b o v e=>?_,fun b ps e=>?_⟩ (fun b v e=>?_) I4.bare fun b hb=>?_
    ·obtain⟨sl,q⟩:=un.slot b o e n hb hx
     exact⟨sl,hk b _ (nC b o e).1 q⟩
    ·rw[Az (nC b o e).2];exact un.free b o e n hx
    ·obtain⟨o',q⟩:=un.there b o e hx
     exact⟨o',hk b _ (nC b o e).1 q⟩
    ·rw[Az (Av e hDn)];exact un.tups b xs e
    ·rw[Az (Av e hDn)];exact un.frzs b o v e
    ·obtain⟨more,q⟩:=un.tbls b ps e
     exact⟨more,by rw[Az (Av e hDn)];exact q⟩
    ·have hCfree:H3 C=none:=I4.free
     by_cases hbD:b=Dd
     ·subst hbD
      rw[Ba] at e
      cases e
      exact⟨hyl,its,na,rv3,hk _ _ hDC e4⟩
     ·rw[Az hbD] at e
      refine (I4.hok b v e).stay (fun c o hc q=>hk c o ?_ q) (fun c q=>by rw[Az (Av q hD3)];exact q) (fun c xs q=>Rd.upd_none hD3 q) fun c x u q=>by rw[Az (Av q hD3)];exact q
      rcases hc with rfl|hc
      ·exact Av e hCfree
      ·exact Av hc hCfree
    ·obtain⟨q0,q1,q2,q3,q4,q5⟩:=f2 b hb
     exact⟨q3,q1,q4,q5⟩
   have hCl:C≠X.env.locals:=fun z=>absurd I2.lt (by rw[<- z,hDd];exact Nat.not_lt.mpr hCle)
   have hCc':∀ x c,X.env.cells.lookup x=some c->c≠C:=fun x c e z=>by
    obtain⟨v,oc,ho,_⟩:=I2.cell x c e
    exact absurd (At1 ho) (by rw[z,hDd];exact Nat.not_lt.mpr hCle)
   refine hQ Dd C s4 ⟨⟨upd H3 Dd (.lst ys),ys,(hS2.trans s3').trans (A9 hD3),hS2.free hDn,Ba,rr3.fresh hD3,inv s4.heap fun _ _ _ e=>e,by rw[Az hDC.symm];exact I4.free,fun σ' s'' h' J sb=>?_⟩,?_,hCl,hCc'⟩
   ·exact J.turned (it:=C) (t':=s''.toks) (fun b o hb e=>(sb.2 b hb).trans e) (by rw[Az hDC.symm];exact I4.free) hCl (.inr (Aug I2.sz (by rw[hDd];exact hCle))) hCc' fun p hp z=>absurd (At1 (I2.pin p hp).1) (by rw[z,hDd];exact Nat.not_lt.mpr hCle)
   obtain⟨m',hm,_⟩:=I4.loc
   exact⟨m',hm⟩
 exact codeAny_compStart_list (key _ rfl) (T.self _ 0 _ _ _ (T.keep _ _ _ st2 fun b hb o e=>hkp b o e) (key _ rfl))
theorem Ada (ok:CompOk X scope cap N') (hc:X.calm=true) (hi:PW' X tg iter fw) (hg2:∀ d d' env e1,g d env=some e1->g d' e1=g d' env)
  {Φ:Hp->Prop} (hΦ:∀ {pins:List (Addr×Obj)}{σ:St}{H:Hp}{s:Shared},Inv X pins σ H s->Φ H) (hg:∀ cl C s₀ H₀ ex pn,Φ H₀->PGD (A6 X N' scope cl C s₀ H₀ ex pn) tg g) (ht:∀ cl C s₀ H₀ ex pn,Φ H₀->PTs (A6 X N' scope cl C s₀ H₀ ex pn) ifs t) (he:∀ cl C s₀ H₀ ex pn,Φ H₀->PD (A6 X N' scope cl C s₀ H₀ ex pn) elt fe)
  (hs:∀ x,foldedSetIterable iter X.env x=pure x):PF X (.ListComp elt [⟨tg,iter,ifs,0⟩] scope pos) (B8 cap (N'.length - cap.length) fw g t fe):=by
 intro pins s σ H Q I ⟨env,μ,m,zs,S,E,h,q⟩
 rw[eval_ListComp]
 refine Jw ok hc hi hg2 hΦ hg ht he hs I S E h fun D C s' ⟨⟨H',ys,h1,h2,h3,h4,h5,h6,h7⟩,⟨mm,hm⟩,_,_⟩=>?_
 exact⟨mm,hm,fun h' sb=>⟨.ref D,H',h7 σ s' h' h5 sb,rfl,q D ys H' h1 h2 h3 h4⟩⟩
variable {x:Str}{p' spos:Pos}{i:Nat}
theorem Yf (ok:CompOk X scope cap N') (hc:X.calm=true) (hi:PW' X tg iter fw) (hg2:∀ d d' env e1,g d env=some e1->g d' e1=g d' env)
  {Φ:Hp->Prop} (hΦ:∀ {pins:List (Addr×Obj)}{σ:St}{H:Hp}{s:Shared},Inv X pins σ H s->Φ H) (hg:∀ cl C s₀ H₀ ex pn,Φ H₀->PGD (A6 X N' scope cl C s₀ H₀ ex pn) tg g) (ht:∀ cl C s₀ H₀ ex pn,Φ H₀->PTs (A6 X N' scope cl C s₀ H₀ ex pn) ifs t) (he:∀ cl C s₀ H₀ ex pn,Φ H₀->PD (A6 X N' scope cl C s₀ H₀ ex pn) elt fe)
  (hs:∀ x,foldedSetIterable iter X.env x=pure x) (hsw:swapsWith (.ListComp elt [⟨tg,iter,ifs,0⟩] scope pos) (some (.Name x p')) spos.line X.env=pure true) (hN:X.N.Nodup) (hn:X.N[i]?=some x) (hx:Loc X.env.scope x) (hf:X.fn x=true\/X.env.scope.names.lookup x=some .local) :
  PS X (.Assign [.Name x p'] (.ListComp elt [⟨tg,iter,ifs,0⟩] scope pos) spos) (Ak0 (tF X.K (B8 cap (N'.length - cap.length) fw g t fe)) (Uu i)):=by
 intro pins s σ H Dn I ⟨env,μ,m,zs,S,E,h,q⟩
 rw[exec_Assign_Name_used _ _ _ _ hsw]
 refine Atu (wpAny_standAt (Atu ?_))
 show wpAny _ X.A (do let _ <- comprehension (.ListComp elt [⟨tg,iter,ifs,0⟩] scope pos) scope X.env _ (newList []) false (eval iter X.env) (some (assign (.Name x p') X.env))) _ _ s
 refine Atu (Au0 (Jw ok hc hi hg2 hΦ hg ht he hs (use:=some (assign (.Name x p') X.env)) (Q:=fun _ s'=>SP X pins Dn .next s') I S E h fun D C s' ⟨⟨H',ys,h1,h2,h3,h4,h5,h6,h7⟩,⟨mm,hm⟩,lc,cc⟩=>?_) (fun _ s' hq=>Atv (Atv hq)) fun _ _ e=>e)
 show wpAny _ X.A (assign (.Name x p') X.env (.ref D)) _ _ _
 refine wpAny_assign_Name (O5 (v:=.ref D) h5 hN hn hx rfl (fun s'' I'' ⟨a,sb,ha⟩=>?_) hf)
 refine⟨mm,hm.sameBut sb ?_,fun h' sb'=>⟨_,H',h7 _ s'' h' I'' sb',q D ys H' h1 h2 h3 h4⟩⟩
 rcases ha with ha|ha
 ·rw[ha];exact lc
 ·exact (cc x a ha).symm
theorem Aja (ok:CompOk X scope cap N') (hc:X.calm=true) (hi:PW' X tg iter fw) (hg2:∀ d d' env e1,g d env=some e1->g d' e1=g d' env)
  (hg:∀ cl C s₀ H₀ ex pn,PGD (A6 X N' scope cl C s₀ H₀ ex pn) tg g) (ht:∀ cl C s₀ H₀ ex pn,PTs (A6 X N' scope cl C s₀ H₀ ex pn) ifs t) (he:∀ cl C s₀ H₀ ex pn,PD (A6 X N' scope cl C s₀ H₀ ex pn) elt fe)
  (hs:∀ x,foldedSetIterable iter X.env x=pure x):PF X (.ListComp elt [⟨tg,iter,ifs,0⟩] scope pos) (B8 cap (N'.length - cap.length) fw g t fe) :=
 Ada (Φ:=fun _=>True) ok hc hi hg2 (fun _=>trivial) (fun a b c d e f _=>hg a b c d e f) (fun a b c d e f _=>ht a b c d e f) (fun a b c d e f _=>he a b c d e f) hs
theorem Th (ok:CompOk X scope cap N') (hc:X.calm=true) (hi:PW' X tg iter fw) (hg2:∀ d d' env e1,g d env=some e1->g d' e1=g d' env)
  (hg:∀ cl C s₀ H₀ ex pn,PGD (A6 X N' scope cl C s₀ H₀ ex pn) tg g) (ht:∀ cl C s₀ H₀ ex pn,PTs (A6 X N' scope cl C s₀ H₀ ex pn) ifs t) (he:∀ cl C s₀ H₀ ex pn,PD (A6 X N' scope cl C s₀ H₀ ex pn) elt fe)
  (hs:∀ x,foldedSetIterable iter X.env x=pure x) (hsw:swapsWith (.ListComp elt [⟨tg,iter,ifs,0⟩] scope pos) (some (.Name x p')) spos.line X.env=pure true) (hN:X.N.Nodup) (hn:X.N[i]?=some x) (hx:Loc X.env.scope x) (hf:X.fn x=true\/X.env.scope.names.lookup x=some .local) :
  PS X (.Assign [.Name x p'] (.ListComp elt [⟨tg,iter,ifs,0⟩] scope pos) spos) (Ak0 (tF X.K (B8 cap (N'.length - cap.length) fw g t fe)) (Uu i)) :=
 Yf (Φ:=fun _=>True) ok hc hi hg2 (fun _=>trivial) (fun a b c d e f _=>hg a b c d e f) (fun a b c d e f _=>ht a b c d e f) (fun a b c d e f _=>he a b c d e f) hs hsw hN hn hx hf
theorem Ado (h:PS X (.Assign [.Name x p'] (.ListComp elt [⟨tg,iter,ifs,0⟩] scope pos) spos) (Ak0 (tF X.K (B8 cap (N'.length - cap.length) fw g t fe)) (Uu i))) :
  PSD X (.Assign [.Name x p'] (.ListComp elt [⟨tg,iter,ifs,0⟩] scope pos) spos) (B3 i (Cr (B8 cap (N'.length - cap.length) fw g t fe))):=PS.imp h fun D σ H ⟨env,μ,m,o,S,E,h,q⟩=>by
 obtain⟨d,h1,h2⟩:=bind_some h
 obtain⟨ds,h0,h1⟩:=bind_some h1
 cases h1
 cases h2
 exact⟨env,μ,m,ds,S,E,h0,fun a xs H' s hn ha r=>q _ H' μ (Step.of_same s) (S.same s) ((E.same s).set i (.lst (.inl ha) (S.nnone hn) r.unw))⟩
theorem Adl (h:PS X (.Assign [.Name x p'] (.ListComp elt [⟨tg,iter,ifs,0⟩] scope pos) spos) (Ak0 (tF X.K (B8 cap (N'.length - cap.length) fw g t fe)) (Uu i))) :
  PSD X (.Assign [.Name x p'] (.ListComp elt [⟨tg,iter,ifs,0⟩] scope pos) spos) (Gb i (B8 cap (N'.length - cap.length) fw g t fe)):=PS.imp h fun D σ H ⟨env,μ,m,o,S,E,h,q⟩=>by
 obtain⟨ds,h1,h2⟩:=bind_some h
 cases h2
 refine⟨env,μ,m,ds,S,E,h1,fun a xs H' s hn ha r=>?_⟩
 obtain⟨st,S'⟩:=S.push s hn ha r
 exact q _ H' _ st S' ((E.step S st).set i (M5 S.len))
end
end
end ML
end L2
end S_ML7
section S_ML8
namespace L2
namespace ML
open PySem PySem.Spec PyProof.Rows
open Classical
noncomputable section
noncomputable def Its (x:Str):It:=⟨fun i _=>i < x.cps.size,fun i H v H'=>H'=H/\∃ c,x.cps[i]?=some c/\v=.str ⟨#[c]⟩,fun i _=>x.cps.size<=i⟩
theorem Aec {P:Program}{w:World}{K:W.Frag}{tg:Expr} (it:Addr) (ty:String) (x:Str) (t:Tok) (hty:ty="str_ascii_iterator"\/ty="str_iterator"):Turn P w K tg (Its x) [it] it (fun i h=>h.IsStrIter it ty x t i) where
 mem:=by simp
 obj:=fun i h st b hb=>by
  have e:b=it:=by simpa using hb
  subst e
  obtain⟨o,e,c,d⟩:=st
  exact⟨o,e,fun v z=>by rw[d] at z;cases z⟩
 keep:=fun i h h' st k=>by
  obtain⟨o,e,c,d⟩:=st
  exact⟨o,k it (by simp) o e,c,d⟩
 item:=by
  intro X hP hw hK hc i pins s σ H E I hf st hg
  subst hP hw hK
  obtain⟨f0,f1,f2,f3,f4,f5⟩:=hf it (by simp)
  have hi:i < x.cps.size:=hg
  have hx:x.cps[i]?=some x.cps[i]:=by simp[hi]
  have fin:∀ h',h'.IsStrIter it ty x t (i+1)->Heap.SameBut it s.heap h'->∃ u,some (Value.str ⟨#[x.cps[i]]⟩ s.toks)=some u /\
    wpAny (model X.prog X.w) X.A (letOwnedTupleGo tg (.ref it) u) (fun _ s2=>∃ y H',Inv X pins σ H' s2/\RelV y u/\(Its x).yld i H y H'/\s2.heap.IsStrIter it ty x t (i+1)/\∀ b∈[it],H' b=none) E { s with heap:=h',toks:=s.toks+1 }:=fun h' st' sb=>by
   have I1:Inv X pins σ H { s with heap:=h',toks:=s.toks+1 }:=I.turned (fun b o hb e=>(sb.2 b hb).trans e) f0 f1 f3 f4 f5
   obtain⟨o,e,c,d⟩:=id st'
   refine⟨_,rfl,Acj (s:={ s with heap:=h',toks:=s.toks+1 }) e c d (by rcases hty with rfl|rfl<;>decide) ⟨.str ⟨#[x.cps[i]]⟩,H,I1,⟨_,rfl⟩,⟨rfl,_,hx,rfl⟩,st',fun b hb=>(hf b hb).1⟩⟩
  rcases hty with rfl|rfl
  ·exact wpAny_pyNext_ascii_item st hx fun h' st' sb=>fin h' st' sb
  ·exact wpAny_pyNext_wide_item st hx fun h' st' sb=>fin h' st' sb
 done:=by
  intro X hP hw hK hc i pins s σ H E I hf st hg
  subst hP hw hK
  obtain⟨f0,f1,f2,f3,f4,f5⟩:=hf it (by simp)
  have hi:x.cps.size<=i:=hg
  rcases hty with rfl|rfl
  ·exact wpAny_pyNext_ascii_end (I.ok.hd hc) st (by simp[hi]) fun h' eb=>⟨rfl,I.turned (t':=s.toks) (fun b o hb e=>eb b o hb e) f0 f1 f3 f4 f5⟩
  ·exact wpAny_pyNext_wide_end (I.ok.hd hc) st (by simp[hi]) fun h' eb=>⟨rfl,I.turned (t':=s.toks) (fun b o hb e=>eb b o hb e) f0 f1 f3 f4 f5⟩
 self:=fun _ _ _ _ _ st h=>by
  rcases hty with rfl|rfl
  ·exact wpAny_pyIter_striter_ascii st h
  ·exact wpAny_pyIter_striter_wide st h
noncomputable def J9 (z:Str):List D:=z.cps.toList.map fun c=>.str ⟨#[c]⟩
theorem Aki {K:W.Frag}{z:Str} (ok:PyData.strOk z=true):Src K (Its z) (J9 z) B6 (fun _ _ _=>True) where
 go:=fun H μ m i d S h _ e=>by
  unfold J9 at e
  rw[Auh] at e
  cases q:z.cps.toList[i]? with
  |none=>rw[q] at e;cases e
  |some c =>
   rw[q] at e
   cases e
   have hi:i < z.cps.size:=by simpa using (List.getElem?_eq_some_iff.mp q).1
   have q':z.cps[i]?=some c:=by simpa using q
   refine⟨hi,fun x H' ⟨h1,c',h2,h3⟩=>?_⟩
   subst h1
   subst h3
   rw[q'] at h2
   cases h2
   exact⟨Same.refl _,.str _ (Jg ok fun c' hc=>by rw[show c'=c by simpa using hc];exact Auc q)⟩
 stop:=fun H μ m S h _=>by show z.cps.size<=(J9 z).length;unfold J9;simp
 keep:=fun H μ m H' μ' m' h S st S'=>trivial
section
variable {X:Cx}{a b c e o':Expr}{es:List Expr}{pos p p' apos cpos spos:Pos}{x:Str}{tg:Expr}{id:String}
def Ed (f:FE):FW:=fun env m=>(f env m).bind fun d=>match d with
 |.str z=>some ⟨J9 z,B6⟩
 |.tup ds=>some ⟨ds,B6⟩
 |.lst ds=>some ⟨ds,B6⟩
 |.kl ds=>some ⟨ds,B6⟩
 |.ref n=>(match m[n]? with
  |some (.lst ds)=>some ⟨ds,fun m'=>m'[n]?=some (.lst ds)⟩
  |_=>none)
 |_=>none
theorem An2 {f:FE} (h:PD X e f):PW' X tg e (Ed f):=by
 intro pins s σ H R I hw
 obtain⟨env,μ,m,w,S,E,hw,q⟩:=hw
 obtain⟨d,h1,h2⟩:=bind_some hw
 refine thn (h pins s σ H (fun v H1=>Same H H1/\Rep X.K H1 μ (·∈μ) d v) I ⟨env,μ,m,d,S,E,h1,fun v H1 s1 r1=>⟨s1,r1⟩⟩) fun u s1 ⟨v,H1,I1,r1,s1',rx⟩=>?_
 have lst:∀ {a:Addr}{xs:List V},u=.ref a->SqL X.K H1 a xs->R (Itl X.K a) H1->wpAny (model X.prog X.w) X.A (pyIter u) (PIE X pins σ tg R) X.xe s1:=fun {a xs} e hq hR=>by
  subst e
  obtain⟨its,rv,p,hz⟩:=I1.list hq
  refine wpAny_pyIter_list p.isList ?_
  refine⟨s1.heap.objs.size,[s1.heap.objs.size],_,_,H1,rfl,I1.kept (t':=s1.toks) fun b o e=>Atw _ e,Abd a _,⟨_,At9 _ rfl,rfl,rfl⟩,fun b hb=>?_,hR⟩
  have e:b=s1.heap.objs.size:=by simpa using hb
  subst e
  exact I1.fpOk (At3 _) (I1.hok.fresh (At3 _))
 have rx0:=rx
 cases rx with
 |str z ok =>
  cases h2
  obtain⟨t,rfl⟩:=r1
  have fin:∀ ty,(ty="str_ascii_iterator"\/ty="str_iterator")->PIE X pins σ tg R (.ref s1.heap.objs.size) { s1 with heap:=s1.heap.push { cls:=.type ty,data:=.fields #[.str z t,.int 0 0] } }:=fun ty hty=>by
   refine⟨s1.heap.objs.size,[s1.heap.objs.size],_,_,H1,rfl,I1.kept (t':=s1.toks) fun b o e=>Atw _ e,Aec _ ty z t hty,⟨_,At9 _ rfl,rfl,rfl⟩,fun b hb=>?_,q H1 _ _ s1' (Aki ok) trivial⟩
   have e:b=s1.heap.objs.size:=by simpa using hb
   subst e
   exact I1.fpOk (At3 _) (I1.hok.fresh (At3 _))
  cases ha:z.cps.all (· < 128)
  ·exact wpAny_pyIter_wide ha (fin _ (.inr rfl))
  ·exact wpAny_pyIter_ascii ha (fin _ (.inl rfl))
 |@tup ds a xs hq rs =>
  cases h2
  cases r1
  obtain⟨its,rv,p,hz⟩:=I1.tuple hq
  refine wpAny_pyIter_tuple (show s1.heap.IsTuple a its.toArray from p) ?_
  refine⟨s1.heap.objs.size,[s1.heap.objs.size],_,_,H1,rfl,I1.kept (t':=s1.toks) fun b o e=>Atw _ e,Vs a _,⟨_,At9 _ rfl,rfl,rfl⟩,fun b hb=>?_,q H1 _ _ s1' Akj rx0⟩
  have e:b=s1.heap.objs.size:=by simpa using hb
  subst e
  exact I1.fpOk (At3 _) (I1.hok.fresh (At3 _))
 |@lst ds a xs hq _ rs=>cases h2;exact lst r1 (.inl hq) (q H1 _ _ s1' Akg rx0)
 |@kl ds a xs hq rs=>cases h2;exact lst r1 hq.sq (q H1 _ _ s1' Aom rx0)
 |dic _ _ _ _=>cases h2
 |dks _ _ _ _=>exact Ah h2
 |fz _ _ _=>exact Ah h2
 |fn _=>exact Ah h2
 |@ref n a e =>
  simp only at h2
  cases q':m[n]? with
  |none=>simp[q'] at h2
  |some ob =>
   simp only[q'] at h2
   cases ob with
   |dcs _ _=>cases h2
   |dct _ _=>cases h2
   |lst ds =>
    cases h2
    obtain⟨xs,e1,rs⟩:=(S.same s1').obj n a _ e q'
    exact lst r1 (SqL.of e1) (q H1 _ _ s1' Akh e)
 |non=>exact Ah h2
 |bl _=>exact Ah h2
 |int _=>exact Ah h2
theorem Sim.write {K:W.Frag}{H:Hp}{μ:List Addr}{m:MH}{n:Nat}{a:Addr}{ds es:List D}{ys:List V} (S:Sim K H μ m) (h1:μ[n]?=some a) (h2:m[n]?=some (.lst ds)) (r:Reps K H μ (·∈μ) es ys) :
  Step H μ (upd H a (.lst ys)) μ/\Sim K (upd H a (.lst ys)) μ (m.set n (.lst es))/\∀ {d:D}{v:V},Rep K H μ (·∈μ) d v->Rep K (upd H a (.lst ys)) μ (·∈μ) d v:=by
 have ha:a∈μ:=Auc h1
 have st:Step H μ (upd H a (.lst ys)) μ:=⟨⟨[],by simp,by simp⟩,fun b o e hb=>by rw[Az fun z=>hb (by rw[z];exact ha)];exact e⟩
 have nl:n < m.length:=(List.getElem?_eq_some_iff.mp h2).1
 refine⟨st,⟨S.nd,by simp[S.len],fun j b o h3 h4=>?_⟩,fun r=>r.step S st⟩
 by_cases hj:j=n
 ·subst hj
  rw[h1] at h3
  cases h3
  rw[Au5 nl] at h4
  cases h4
  exact⟨ys,Ba,r.step S st⟩
 ·rw[Avj (Avn hj)] at h4
  have q:=S.obj j b o h3 h4
  have hb:b≠a:=fun z=>hj (by
   subst z
   exact (List.getElem_inj S.nd).mp ((List.getElem?_eq_some_iff.mp h3).2.trans (List.getElem?_eq_some_iff.mp h1).2.symm))
  cases o with
  |lst fs=>obtain⟨zs,q1,q2⟩:=q;exact⟨zs,by rw[Az hb];exact q1,q2.step S st⟩
  |dcs ks vs=>obtain⟨zs,q1,q2,q3⟩:=q;exact⟨zs,by rw[Az hb];exact q1,q2,q3.step S st⟩
  |dct ks vs=>obtain⟨zs,q1,q2,q3⟩:=q;exact⟨zs,by rw[Az hb];exact q1,q2,q3.step S st⟩
def Ak4 (X:Cx) (r:V->List V->Hp->VK->Prop) (o:List D->List D->Option (List D)):Prop :=
 ∀ (μ:List Addr) (H:Hp) (a:Addr) (xs vs:List V) (ds es fs:List D) (Q:VK),H a=some (.lst xs)->a∈μ->Reps X.K H μ (·∈μ) ds xs->Reps X.K H μ (·∈μ) es vs->o ds es=some fs->(∀ ys,Reps X.K H μ (·∈μ) fs ys->Q .non (upd H a (.lst ys)))->r (.ref a) vs H Q
noncomputable def J6 (o:List D->List D->Option (List D)) (f:FE) (g:FL):FS:=fun env m=>(f env m).bind fun d=>match d with
 |.ref n=>(g env m).bind fun es=>(match m[n]? with
  |some (.lst ds)=>(o ds es).bind fun fs=>some (.nx env (m.set n (.lst fs)))
  |_=>none)
 |_=>none
theorem Aan {r:V->List V->Hp->VK->Prop}{o:List D->List D->Option (List D)}{f:FE}{g:FL}{name:Str} (pa:PlainAttrs "list") (slot:Slot "list" name id) (hty:typeOf (.builtin id)=pure (.type "method_descriptor")) (hm:MtR X id r) (ho:Ak4 X r o) (hf:PD X o' f) (ha:PL X (e::es) g)
  (hbase:attributeBase o' name X.env (eval o' X.env)=eval o' X.env)
  (hfew:((backTo cpos (starEach (e::es) X.env)).all (fun x=>!x.1)&&(backToKw cpos (keywordEach [] X.env)).all (fun x=>x.1.isSome)
   &&decide ((e::es).length+([]:List Keyword).length+(if ([]:List Keyword).isEmpty then 0 else 1) < 30))=true)
  (hline:(apos.endLine == cpos.line)=true) (hs:starEach (e::es) X.env=(false,eval e X.env)::starEach es X.env) (hplain:(backTo cpos (starEach es X.env)).any (·.1)=false) :
  PSD X (.Expr (.Call (.Attribute o' name apos) (e::es) [] cpos) spos) (J6 o f g):=PS.imp (Aal (Ary pa slot hty hm hf ha hbase hfew hline hs hplain)) fun D σ H ⟨env,μ,m,ob,S,E,h,q⟩=>by
 obtain⟨d,h1,h⟩:=bind_some h
 refine⟨env,μ,m,d,S,E,h1,fun v H1 s1 r1=>?_⟩
 cases r1 with
 |@ref n a e =>
  simp only at h
  obtain⟨es,h2,h⟩:=bind_some h
  cases q':m[n]? with
  |none=>simp[q'] at h
  |some mo =>
   simp only[q'] at h
   cases mo with
   |dcs _ _=>cases h
   |dct _ _=>cases h
   |lst ds =>
    simp only at h
    obtain⟨fs,h3,h⟩:=bind_some h
    cases h
    obtain⟨xs,e1,rs⟩:=(S.same s1).obj n a _ e q'
    refine⟨.inl ⟨rfl,xs,SqL.of e1⟩,env,μ,m,es,S.same s1,E.same s1,h2,fun vs H2 s2 r2=>?_⟩
    have S2:=S.same (s1.trans s2)
    refine ho μ H2 a xs vs ds es fs _ (s2 _ _ e1) (Auc e) (rs.same s2) r2 h3 fun ys ry=>?_
    obtain⟨st,S3,up⟩:=S2.write e q' ry
    exact q σ _ μ ((Step.of_same (s1.trans s2)).trans st fun c hc=>(s1.trans s2).free hc) S3 ((E.same (s1.trans s2)).step S2 st)
 |_=>exact Ah h
theorem Adk {r:V->List V->Hp->VK->Prop}{o:List D->List D->Option (List D)}{f:FE}{name:Str} (pa:PlainAttrs "list") (slot:Slot "list" name id) (hty:typeOf (.builtin id)=pure (.type "method_descriptor")) (hm:MtR X id r) (ho:Ak4 X r o) (hf:PD X o' f)
  (hbase:attributeBase o' name X.env (eval o' X.env)=eval o' X.env) (hline:(apos.endLine == cpos.line)=true) :
  PSD X (.Expr (.Call (.Attribute o' name apos) [] [] cpos) spos) (J6 o f Ae):=PS.imp (Aal (Anj pa slot hty hm hf hbase hline)) fun D σ H ⟨env,μ,m,ob,S,E,h,q⟩=>by
 obtain⟨d,h1,h⟩:=bind_some h
 refine⟨env,μ,m,d,S,E,h1,fun v H1 s1 r1=>?_⟩
 cases r1 with
 |@ref n a e =>
  simp only[Ae,Auk] at h
  cases q':m[n]? with
  |none=>simp[q'] at h
  |some mo =>
   simp only[q'] at h
   cases mo with
   |dcs _ _=>cases h
   |dct _ _=>cases h
   |lst ds =>
    simp only at h
    obtain⟨fs,h3,h⟩:=bind_some h
    cases h
    obtain⟨xs,e1,rs⟩:=(S.same s1).obj n a _ e q'
    refine⟨.inl ⟨rfl,xs,SqL.of e1⟩,ho μ H1 a xs [] ds [] fs _ e1 (Auc e) rs .nil h3 fun ys ry=>?_⟩
    obtain⟨st,S3,up⟩:=(S.same s1).write e q' ry
    exact q σ _ μ ((Step.of_same s1).trans st fun c hc=>s1.free hc) S3 ((E.same s1).step (S.same s1) st)
 |_=>exact Ah h
noncomputable def Rn:List D->List D->Option (List D):=fun ds es=>match es with
 |[d]=>if ds.length < 1000000 then some (ds++[d]) else none
 |_=>none
theorem Al9:Ak4 X Aaz Rn:=fun μ H a xs vs ds es fs Q h1 ha rs re h q=>by
 match es,h with
 |[d],h =>
  unfold Rn at h
  simp only at h
  split at h
  ·rename_i hl
   cases h
   obtain⟨v,rfl,r⟩:=re.one
   exact⟨a,xs,v,rfl,rfl,h1,by rw[<- rs.length];have:sizeLine=16777216:=Au9;lia,q _ (rs.append (.cons r .nil))⟩
  ·cases h
noncomputable def Hn:List D->List D->Option (List D):=fun ds es=>match es with
 |[]=>some ds.reverse
 |_=>none
theorem U8:Ak4 X Ud Hn:=fun μ H a xs vs ds es fs Q h1 ha rs re h q=>by
 match es,h with
 |[],h =>
  cases h
  cases re
  exact⟨a,xs,rfl,rfl,h1,q _ rs.reverse⟩
end
end
end ML
end L2
end S_ML8
section S_ML8a
namespace L2
namespace ML
open PySem PySem.Spec PyProof.Rows
noncomputable def Bh:Expr->Bool
 |.Starred ..=>false
 |_=>true
noncomputable def Va:Expr->Bool
 |.ListComp ..=>false|.SetComp ..=>false|.DictComp ..=>false
 |_=>true
noncomputable def Afe:Expr->Bool
 |.UnaryOp ..=>false|.BoolOp ..=>false|.IfExp ..=>false|.Compare ..=>false
 |_=>true
noncomputable def Arc:Expr->Bool
 |.Slice ..=>false
 |_=>true
noncomputable def G7:Expr->Bool
 |.Set ..=>false
 |_=>true
noncomputable def Oi:Expr->Bool
 |.Call ..=>false
 |_=>true
theorem An (h:Bh e=true):starEach (e::es) env=(false,eval e env)::starEach es env:=by
 cases e<;>first|rfl|cases h
theorem Cg {pos:Pos}{env:Env}:∀ {es:List Expr},es.all Bh=true->(backTo pos (starEach es env)).any (·.1)=false
 |[],_=>rfl
 |e::es,h=>by
  rw[Ave,Aua] at h
  rw[An h.1]
  have ih:=Cg (pos:=pos) (env:=env) h.2
  unfold backTo at ih ⊢
  rw[At5,Avd,ih]
  rfl
theorem Ui {pos:Pos}{env:Env}:∀ {es:List Expr},es.all Bh=true->(backTo pos (starEach es env)).all (fun x=>!x.1)=true
 |[],_=>rfl
 |e::es,h=>by
  rw[Ave,Aua] at h
  rw[An h.1]
  have ih:=Ui (pos:=pos) (env:=env) h.2
  unfold backTo at ih ⊢
  rw[At5,Ave,ih]
  rfl
theorem M8 {pos:Pos} (h:es.all Bh=true) (hl:decide (es.length < 30)=true):((backTo pos (starEach es env)).all (fun x=>!x.1)&&(backToKw pos (keywordEach [] env)).all (fun x=>x.1.isSome)
   &&decide (es.length+([]:List Keyword).length+(if ([]:List Keyword).isEmpty then 0 else 1) < 30))=true:=by
 rw[Ui h]
 have hl:=Au1 hl
 have e:es.length+([]:List Keyword).length+(if ([]:List Keyword).isEmpty then 0 else 1)=es.length:=rfl
 rw[e,Au7 hl]
 rfl
theorem Ng {t:Option Expr}{l:Nat} (h:Va e=true):swapsWith e t l env=pure false:=by
 cases e<;>first|rfl|cases h
theorem Ad8 {e t:Expr}{l:Nat} (h:Va e=true):swapsWithSole [t] e l env=pure false:=Ng h
theorem Vo (h:Afe e=true):∀ whole,isTrue e env whole=(do let v <- whole;standAt e.pos;holding [v] (truthy v)):=by
 intro whole
 cases e<;>first|rfl|cases h
theorem T1 (h:Arc e=true):Lj e:=by
 intro o i
 cases e<;>first|rfl|cases h
theorem D9 (h:G7 e=true):∀ x,foldedSetIterable e env x=pure x:=by
 intro x
 cases e<;>first|rfl|cases h
theorem D8 (h:Oi e=true):attributeBase e n env (eval e env)=eval e env:=by
 cases e<;>first|rfl|cases h
theorem J2 (h:G7 e=true):behindInMarks op e=false:=by
 cases e<;>first|rfl|cases h
open Classical
noncomputable section
def Ht (scope outer:Scope) (N N':List Str) (cap:List Nat):Bool :=
 scope.kind == .function&&scope.names.all (fun y=>y.2 != .cell||scope.names.lookup y.1 == some .cell)&&scope.names.all (fun y=>y.2 != .local||scope.names.lookup y.1 == some .local)
 &&scope.names.all (fun y=>y.2 != .free||(outer.names.lookup y.1 == some .cell||outer.names.lookup y.1 == some .free))&&decide N'.Nodup&&decide (cap.length<=N'.length)
 &&(List.range cap.length).all fun j=>match cap[j]?,N'[j]? with
  |some i,some x=>N[i]? == some x&&scope.names.lookup x == some .free
  |_,_=>false
theorem CompOk.of {cap:List Nat} (h:Ht scope X.env.scope X.N N' cap=true):CompOk X scope cap N':=by
 unfold Ht at h
 simp only[Aua] at h
 obtain⟨⟨⟨⟨⟨⟨h1,h2⟩,h3⟩,h4⟩,h5⟩,h6⟩,h7⟩:=h
 refine⟨by simpa using h1,fun y hy e=>?_,fun y hy e=>?_,fun y hy e=>?_,Au1 h5,Au1 h6,fun j i x e1 e2=>?_⟩
 ·have:=List.all_eq_true.mp h2 y hy
  rw[e] at this
  simpa using this
 ·have:=List.all_eq_true.mp h3 y hy
  rw[e] at this
  simpa using this
 ·have:=List.all_eq_true.mp h4 y hy
  rw[e] at this
  simpa using this
 ·have hj:j < cap.length:=(List.getElem?_eq_some_iff.mp e1).1
  have:=List.all_eq_true.mp h7 j (List.mem_range.mpr hj)
  rw[e1,e2] at this
  simpa using this
theorem C9 (i:Nat):∀ d d' env e1,As i d env=some e1->As i d' e1=As i d' env:=fun d d' env e1 h=>by
 cases h
 unfold As
 rw[List.set_set]
structure QD (X:Cx) (e:Expr) (f:FE):Prop where out:PD X e f
structure QF (X:Cx) (e:Expr) (f:FL):Prop where out:PF X e f
structure QB (X:Cx) (e:Expr) (f:FB):Prop where out:PB X e f
structure QWB (X:Cx) (e:Expr) (f:FB):Prop where out:PWB X e f
structure QL (X:Cx) (e:List Expr) (f:FL):Prop where out:PL X e f
structure QO (X:Cx) (e:Option Expr) (f:FO):Prop where out:PO' X e f
structure QS (X:Cx) (e:Stmt) (f:FS):Prop where out:PSD X e f
structure QSs (X:Cx) (e:List Stmt) (f:FS):Prop where out:Vz X e f
structure QG (X:Cx) (e:Expr) (f:FG):Prop where out:PGD X e f
structure QGs (X:Cx) (e:List Expr) (f:List D->A0->Option A0):Prop where out:Ak5 X e f
structure QW (X:Cx) (tg e:Expr) (f:FW):Prop where out:PW' X tg e f
structure QTs (X:Cx) (e:List Expr) (f:FB):Prop where out:PTs X e f
theorem Asv {P:Program}{w:World}{K:W.Frag}{mg:Str->Option Value}{base:Heap}{x qual:Str}{st:Stmt}{f:Addr}{fd:FuncData}{N ps:List Str}{k n:Nat} (F:Fun K x qual st f fd) (S:FnScope N ps (Ar st)) (g:FS) (fn:List D->Option D) (hfn:fn=Dp N.length g) (hn:ps.length=n)
  (hbody:∀ (cdv:Value) (A:Around) (outer:List Env) (s:Shared) (H:Hp) (E:XK),Room k (A.deeper (envOfC qual (Ar st) s.heap.objs.size f cdv)) ->
   QSs (Hc CX0 P w K mg base N qual (Ar st) f cdv A outer s H E).nox (Cm st) g):FnOk P w K mg base CX0 (k+1) f fd ps (spP K n fn):=by
 subst hfn hn
 exact Ahq F S fun cdv A outer s H E hr=>(hbody cdv A outer s H E hr).out
theorem Ej:QTs X [] Ts:=⟨Ajs⟩
theorem Iz (h:QB X c f):QTs X [c] f:=⟨Ajt h.out⟩
section
variable {X:Cx}{a b c e:Expr}{es:List Expr}{pos p p' apos cpos spos:Pos}{x:Str}{tg:Expr}{id:String}
theorem Ad {i j}:QD X (.Constant (.int i) j pos) (fC (.int i)):=⟨Am9⟩
theorem Vh {i j}:QD X (.Constant (.bool i) j pos) (fC (.bl i)):=⟨Arq⟩
theorem Adv {j}:QD X (.Constant .none j pos) (fC .non):=⟨Anc⟩
theorem A8 (ho:OpM X (binaryOp op) o) (ha:QD X a f) (hb:QD X b g):QD X (.BinOp a op b pos) (f2 o f g):=⟨Am7 ho ha.out hb.out⟩
theorem Ar9 (ha:QD X a f):QD X (.UnaryOp .Not a pos) (Yn f):=⟨Ane ha.out⟩
theorem Aj3 {op} (h:QD X a f):QD X (.BoolOp op [a] pos) f:=⟨Anf h.out⟩
theorem An5 (ha:QD X a f) (hb:QD X (.BoolOp .And (b::es) pos) g):QD X (.BoolOp .And (a::b::es) pos) (Us f g):=⟨Am6 ha.out hb.out⟩
theorem Ati (ha:QD X a f) (hb:QD X (.BoolOp .Or (b::es) pos) g):QD X (.BoolOp .Or (a::b::es) pos) (Alx f g):=⟨Arv ha.out hb.out⟩
theorem Asw {t:FB} (hc:QB X c t) (ha:QD X a f) (hb:QD X b g):QD X (.IfExp c a b pos) (fIf t f g):=⟨Ars hc.out ha.out hb.out⟩
theorem A4 {x1} (h:QL X es g):QD X (.Tuple es x1 pos) (Ca g):=⟨Anh h.out⟩
theorem Di (h:QL X es g):QF X (.List es pos) (Bq g):=⟨Anr h.out⟩
theorem C8 (h:QF X e g):QD X e (Cr g):=⟨Ac8 h.out⟩
theorem Ai:QL X [] Ae:=⟨Ant⟩
theorem Ds:QO X none fNo:=⟨Adg⟩
theorem Bp (h:QD X e f):QO X (some e) (C2 f):=⟨Adh h.out⟩
theorem Akz {f:FE}{l h:FO}{lo hi:Option Expr} (ha:QD X a f) (hl:QO X lo l) (hh:QO X hi h):QD X (.Subscript a (.Slice lo hi none p) pos) (fSl f l h):=⟨Arw ha.out hl.out hh.out⟩
theorem Ot {f:FE}{l h:FO}{lo hi:Option Expr} (ha:QD X a f) (hl:QO X lo l) (hh:QO X hi h):QF X (.Subscript a (.Slice lo hi none p) pos) (Vv f l h):=⟨Ar1 ha.out hl.out hh.out⟩
theorem Ads (ha:QD X a f) (hb:QD X b g):QF X (.BinOp a .Add b pos) (Ae0 f g):=⟨Anq ha.out hb.out⟩
theorem Ar7 {j} (ha:QD X a f):QD X (.Compare a [.Is] [.Constant .none j p] pos) (f1 Afd f):=⟨Ana ha.out⟩
theorem An6 {j} (ha:QD X a f):QB X (.Compare a [.Is] [.Constant .none j p] pos) (Bc (f1 Afd f)):=⟨Am3 ha.out⟩
theorem M4 (ha:QB X a f):QWB X (.BoolOp .And [a] pos) f:=⟨Adr ha.out⟩
theorem Ov (ha:QB X a f):QWB X (.BoolOp .Or [a] pos) f:=⟨Ajx ha.out⟩
theorem Uc (ha:QB X a f) (hb:QWB X (.BoolOp .And (b::es) pos) g):QWB X (.BoolOp .And (a::b::es) pos) (Aca f g):=⟨Ajw ha.out hb.out⟩
theorem Ou (ha:QB X a f) (hb:QWB X (.BoolOp .Or (b::es) pos) g):QWB X (.BoolOp .Or (a::b::es) pos) (fOr f g):=⟨An4 ha.out hb.out⟩
theorem Dr (h:QWB X (.BoolOp op es pos) f):QB X (.BoolOp op es pos) f:=⟨Ai5 h.out⟩
theorem D4 (ha:QB X a f):QB X (.UnaryOp .Not a pos) (P7 f):=⟨Am4 ha.out⟩
theorem Cb (h:QD X e f):QW X tg e (Ed f):=⟨An2 h.out⟩
theorem Eh:QGs X [] Pd:=⟨Ade⟩
variable {st:Stmt}{rest sa sb:List Stmt}
theorem Bd:QSs X [] Dv:=⟨Ajm⟩
theorem Ag (h1:QS X st f) (h2:QSs X rest g):QSs X (st::rest) (Be f g):=⟨Adj h1.out h2.out⟩
theorem Al (h1:QS X st f):QSs X [st] f:=⟨Ajn h1.out⟩
theorem Aq (he:QD X e f):QS X (.Return (some e) pos) (Ck f):=⟨Ajo he.out⟩
theorem M0 (he:QF X e f):QS X (.Return (some e) pos) (Oz f):=⟨Adn he.out⟩
theorem B0 {t:FB} (hc:QB X c t) (ha:QSs X sa f) (hb:QSs X sb g):QS X (.If c sa sb pos) (sIf t f g):=⟨Anx hc.out ha.out hb.out⟩
theorem Adw (k:Nat) (hp:PassesOwn (model X.prog X.w) X.A X.env X.xe) (hc:QB X c f) (hb:QSs X body g):QS X (.While c body [] pos) (Ek f g k):=⟨Aap k hp hc.out hb.out⟩
theorem Aj (i:Nat) (hN:X.N[i]?=some x:=by kernel_rfl) (hv:Vis X.env.scope x:=by exact Awj (by kernel_rfl)) (hd:(x == ("__debug__":Str))=false:=by decide) (hcd:(x == ("__classdict__":Str))=false:=by decide):QD X (.Name x pos) (Af i):=⟨Afk i hN hv hd hcd⟩
theorem Dh (i:Nat) (hN:X.N[i]?=some x:=by kernel_rfl) (hv:Vis X.env.scope x:=by exact Or.inr (Awj (by kernel_rfl))) (hd:(x == ("__debug__":Str))=false:=by decide) (hcd:(x == ("__classdict__":Str))=false:=by decide):QD X (.Name x pos) (Af i):=⟨Afk i hN hv hd hcd⟩
theorem Mz {j} (ok:PyData.strOk z=true:=by exact Jq _):QD X (.Constant (.str z) j pos) (fC (.str z)):=⟨Ang ok⟩
theorem Ak (ha:QD X e f) (hr:QL X es g) (hs':Bh e=true:=by rfl):QL X (e::es) (Aa f g):=⟨Ajg ha.out hr.out (An hs')⟩
theorem Oq (ho:OpM X (compareOp op) o) (ha:QD X a f) (hb:QD X b g) (hm':G7 b=true:=by rfl):QD X (.Compare a [op] [b] pos) (f2 o f g):=⟨Am8 ho ha.out hb.out (J2 hm')⟩
theorem Ax (ho:OpM X (compareOp op) o) (ha:QD X a f) (hb:QD X b g) (hm':G7 b=true:=by rfl):QB X (.Compare a [op] [b] pos) (Bc (f2 o f g)):=⟨Am2 ho ha.out hb.out (J2 hm')⟩
theorem Cy (ha:QD X a f) (he':Afe a=true:=by rfl):QB X a (Jy f):=⟨Am5 ha.out (Vo he')⟩
theorem Ap (ha:QD X a f) (hb:QD X b g) (hs':Arc b=true:=by rfl):QD X (.Subscript a b pos) (f2 oIx f g):=⟨Art ha.out hb.out (T1 hs')⟩
theorem C4 (hm:X.mg "len"=none) (ha:QL X [e] g) (hg:Gl X "len":=by unfold Gl;kernel_rfl) (he':Bh e=true:=by rfl):QD X (.Call (.Name "len" p) [e] [] pos) (Ao Jn g):=⟨Mv Alq hg hm boot_len ha.out (by decide) (by decide) (An he') rfl⟩
theorem Afo (hm:X.mg "int"=none) (ha:QL X [e] g) (hg:Gl X "int":=by unfold Gl;kernel_rfl) (he':Bh e=true:=by rfl):QD X (.Call (.Name "int" p) [e] [] pos) (Ao Aiv g):=⟨Ir Alp hg hm (by decide +kernel) ha.out (by decide) (by decide) (An he') rfl⟩
theorem Cp (hm:X.mg "tuple"=none) (ha:QL X [e] g) (hg:Gl X "tuple":=by unfold Gl;kernel_rfl) (he':Bh e=true:=by rfl):QD X (.Call (.Name "tuple" p) [e] [] pos) (Ao Dm g):=⟨Ir Ab4 hg hm (by decide +kernel) ha.out (by decide) (by decide) (An he') rfl⟩
theorem Os (ha:QD X e f) (hm:X.mg "isinstance"=none) (hm':X.mg y=none) (hv':bootBuiltins y=some (.type U)) (hn:y≠"__name__":=by decide) (hdb:(y == ("__debug__":Str))=false:=by decide) (hg:Gl X "isinstance":=by unfold Gl;kernel_rfl) (hg':Gl X y:=by unfold Gl;kernel_rfl) (he':Bh e=true:=by rfl):QD X (.Call (.Name "isinstance" p) [e,.Name y p'] [] pos) (Acd U f):=⟨Anb ha.out hg hm hg' hm' hv' hn hdb (by decide +kernel) (An he') (An rfl) (Cg rfl)⟩
theorem Ajy {fd:FuncData} (F:FnOk X.prog X.w X.K X.mg X.base CX0 k f fd ps (spP X.K n fn)) (hr:Room k X.A) (hm:X.mg x=some (.ref f)) (hk:W.keepIn X.K (.ref f)=true) (hb:Binds X.K fd ps []) (ha:QL X (e::es) g) (hg:Gl X x:=by unfold Gl;kernel_rfl) (hdb:(x == ("__debug__":Str))=false:=by decide) (he':Bh e=true:=by rfl) (hpl':es.all Bh=true:=by rfl) :
  QD X (.Call (.Name x p) (e::es) [] pos) (Ao (Bb n fn) g):=⟨Ai6 F hr hg hm hk hb (Aaa (X:=X)) ha.out hdb (An he') (Cg hpl')⟩
theorem Aj1 {fd:FuncData} (F:FnOk X.prog X.w X.K X.mg X.base CX0 k f fd ps (spP X.K n fn)) (hr:Room k X.A) (hm:X.mg x=some (.ref f)) (hk:W.keepIn X.K (.ref f)=true) (hb:Binds X.K fd ps []) (ha:QL X (e::es) g) (hg:Gl X x:=by unfold Gl;kernel_rfl) (hdb:(x == ("__debug__":Str))=false:=by decide) (he':Bh e=true:=by rfl) (hpl':es.all Bh=true:=by rfl) :
  QF X (.Call (.Name x p) (e::es) [] pos) (Bn (Ec n fn) g):=⟨Ai9 F hr hg hm hk hb (Aaa (X:=X)) ha.out hdb (An he') (Cg hpl')⟩
theorem D5 (hf:QD X a f) (ha:QL X [e] g) (hbase':Oi a=true:=by rfl) (hline:(apos.endLine == cpos.line)=true:=by kernel_rfl) (hs':Bh e=true:=by rfl) :
  QS X (.Expr (.Call (.Attribute a "append" apos) [e] [] cpos) spos) (J6 Rn f g):=⟨Aan PySem.F.plainAttrs_list PySem.F.slot_list_append PySem.F.type_list_append Zn Al9 hf.out ha.out (D8 hbase') (M8 (by rw[Ave,hs'];rfl) rfl) hline (An hs') rfl⟩
theorem Ay (hN:X.N.Nodup) (he:QD X e f) (hi:X.N[i]?=some x:=by kernel_rfl) (hx:Loc X.env.scope x:=by exact Awj (by kernel_rfl)) (hs':Va e=true:=by rfl) (hf:X.fn x=true\/X.env.scope.names.lookup x=some .local:=by exact Awj (by kernel_rfl)) :
  QS X (.Assign [.Name x p'] e pos) (B3 i f):=⟨Aao hN hi hx he.out (Ng hs') hf⟩
theorem Aax (hN:X.N.Nodup) (he:QD X e f) (hi:X.N[i]?=some x:=by kernel_rfl) (hx:Loc X.env.scope x:=by exact Or.inr (by kernel_rfl)) (hs':Va e=true:=by rfl) (hf:X.fn x=true\/X.env.scope.names.lookup x=some .local:=by exact Awj (by kernel_rfl)) :
  QS X (.Assign [.Name x p'] e pos) (B3 i f):=⟨Aao hN hi hx he.out (Ng hs') hf⟩
theorem D6 (hN:X.N.Nodup) (he:QF X e f) (hi:X.N[i]?=some x:=by kernel_rfl) (hx:Loc X.env.scope x:=by exact Awj (by kernel_rfl)) (hs':Va e=true:=by rfl) (hf:X.fn x=true\/X.env.scope.names.lookup x=some .local:=by exact Awj (by kernel_rfl)) :
  QS X (.Assign [.Name x p'] e pos) (Gb i f):=⟨Ajl hN hi hx he.out (Ng hs') hf⟩
theorem Hd (hN:X.N.Nodup) (hi:X.N[i]?=some x:=by kernel_rfl) (hx:Loc X.env.scope x:=by exact Awj (by kernel_rfl)) (hf:X.fn x=true\/X.env.scope.names.lookup x=some .local:=by exact Awj (by kernel_rfl)):QG X (.Name x pos) (As i):=⟨Mw hN hi hx hf⟩
theorem Aj2 (hN:X.N.Nodup) (hi:X.N[i]?=some x:=by kernel_rfl) (hx:Loc X.env.scope x:=by exact Or.inr (by kernel_rfl)) (hf:X.fn x=true\/X.env.scope.names.lookup x=some .local:=by exact Awj (by kernel_rfl)):QG X (.Name x pos) (As i):=⟨Mw hN hi hx hf⟩
theorem Do (hN:X.N.Nodup) (hi:X.N[i]?=some x:=by kernel_rfl) (hx:Loc X.env.scope x:=by exact Awj (by kernel_rfl)) (hf:X.fn x=true\/X.env.scope.names.lookup x=some .local:=by exact Or.inr (by kernel_rfl)):QG X (.Name x pos) (As i):=⟨Mw hN hi hx hf⟩
theorem Bi (h1:QG X e g) (h2:QGs X es h) (hs:(assignEach (e::es) X.env).map (·.2)=assign e X.env::(assignEach es X.env).map (·.2):=by kernel_rfl):QGs X (e::es) (B9 g h):=⟨Aai h1.out h2.out hs⟩
theorem Ei (hc:X.calm=true) (h:QGs X es g) (hn:(assignEach es X.env).length=n:=by kernel_rfl) (hst:(assignEach es X.env).findIdx? (·.1)=none:=by kernel_rfl):QG X (.Tuple es k pos) (He n g):=⟨Ajc hc h.out hn hst⟩
theorem An9 (he:QD X e f) (hg:QG X tg g) (hs':Va e=true:=by rfl) (hw:swappedStores [tg] e X.env=pure none:=by kernel_rfl) (h1:(assignEach [tg] X.env).map (·.2)=[assign tg X.env]:=by kernel_rfl):QS X (.Assign [tg] e pos) (Aog f g):=⟨Ajj he.out hg.out (Ad8 hs') hw h1⟩
theorem Cf {iter:Expr}{body:List Stmt}{f:FW}{g:FG}{b:FS} (hp:PassesOwn (model X.prog X.w) X.A X.env X.xe) (hc:X.calm=true) (hi:QW X tg iter f) (hg:QG X tg g) (hb:QSs X body b)
  (hs':G7 iter=true:=by rfl):QS X (.For tg iter body [] pos) (Jl f g b):=⟨Ajk hp hc hi.out hg.out hb.out (D9 hs')⟩
theorem Vj (hm:X.mg "range"=none) (ha:QL X [a] g) (hg:Gl X "range":=by unfold Gl;kernel_rfl) (hs':Bh a=true:=by rfl):QW X tg (.Call (.Name "range" p) [a] [] pos) (Ni g):=⟨Aau hg hm ha.out (An hs')⟩
variable {elt iter:Expr}{ifs:List Expr}{scope:Scope}{fw:FW}{g:FG}{t:FB}{fe:FE}
theorem Co (cap:List Nat) (N':List Str) (hc:X.calm=true) (hi:QW X tg iter fw) (hg2:∀ d d' env e1,g d env=some e1->g d' e1=g d' env)
  (hg:∀ cl C s₀ H₀ ex pn,QG (A6 X N' scope cl C s₀ H₀ ex pn) tg g) (ht:∀ cl C s₀ H₀ ex pn,QTs (A6 X N' scope cl C s₀ H₀ ex pn) ifs t) (he:∀ cl C s₀ H₀ ex pn,QD (A6 X N' scope cl C s₀ H₀ ex pn) elt fe)
  (ok:Ht scope X.env.scope X.N N' cap=true:=by kernel_rfl) (hs':G7 iter=true:=by rfl):QF X (.ListComp elt [⟨tg,iter,ifs,0⟩] scope pos) (B8 cap (N'.length - cap.length) fw g t fe):=⟨Aja (CompOk.of ok) hc hi.out hg2 (fun cl C s H ex pn=>(hg cl C s H ex pn).out) (fun cl C s H ex pn=>(ht cl C s H ex pn).out) (fun cl C s H ex pn=>(he cl C s H ex pn).out) (D9 hs')⟩
theorem Ub (cap:List Nat) (N':List Str) (hN:X.N.Nodup) (hc:X.calm=true) (hi:QW X tg iter fw) (hg2:∀ d d' env e1,g d env=some e1->g d' e1=g d' env) (hg:∀ cl C s₀ H₀ ex pn,QG (A6 X N' scope cl C s₀ H₀ ex pn) tg g) (ht:∀ cl C s₀ H₀ ex pn,QTs (A6 X N' scope cl C s₀ H₀ ex pn) ifs t) (he:∀ cl C s₀ H₀ ex pn,QD (A6 X N' scope cl C s₀ H₀ ex pn) elt fe) (ok:Ht scope X.env.scope X.N N' cap=true:=by kernel_rfl) (hs':G7 iter=true:=by rfl) (hn:X.N[i]?=some x:=by kernel_rfl) (hx:Loc X.env.scope x:=by exact Awj (by kernel_rfl)) (hf:X.fn x=true\/X.env.scope.names.lookup x=some .local:=by exact Awj (by kernel_rfl)) (hsw:swapsWith (.ListComp elt [⟨tg,iter,ifs,0⟩] scope pos) (some (.Name x p')) spos.line X.env=pure true:=by kernel_rfl):QS X (.Assign [.Name x p'] (.ListComp elt [⟨tg,iter,ifs,0⟩] scope pos) spos) (B3 i (Cr (B8 cap (N'.length - cap.length) fw g t fe))):=⟨Ado (Th (CompOk.of ok) hc hi.out hg2 (fun cl C s H ex pn=>(hg cl C s H ex pn).out) (fun cl C s H ex pn=>(ht cl C s H ex pn).out) (fun cl C s H ex pn=>(he cl C s H ex pn).out) (D9 hs') hsw hN hn hx hf)⟩
theorem Ua (cap:List Nat) (N':List Str) (hN:X.N.Nodup) (hc:X.calm=true) (hi:QW X tg iter fw) (hg2:∀ d d' env e1,g d env=some e1->g d' e1=g d' env) (hg:∀ cl C s₀ H₀ ex pn,QG (A6 X N' scope cl C s₀ H₀ ex pn) tg g) (ht:∀ cl C s₀ H₀ ex pn,QTs (A6 X N' scope cl C s₀ H₀ ex pn) ifs t) (he:∀ cl C s₀ H₀ ex pn,QD (A6 X N' scope cl C s₀ H₀ ex pn) elt fe) (ok:Ht scope X.env.scope X.N N' cap=true:=by kernel_rfl) (hs':G7 iter=true:=by rfl) (hn:X.N[i]?=some x:=by kernel_rfl) (hx:Loc X.env.scope x:=by exact Awj (by kernel_rfl)) (hf:X.fn x=true\/X.env.scope.names.lookup x=some .local:=by exact Awj (by kernel_rfl)) (hsw:swapsWith (.ListComp elt [⟨tg,iter,ifs,0⟩] scope pos) (some (.Name x p')) spos.line X.env=pure true:=by kernel_rfl):QS X (.Assign [.Name x p'] (.ListComp elt [⟨tg,iter,ifs,0⟩] scope pos) spos) (Gb i (B8 cap (N'.length - cap.length) fw g t fe)):=⟨Adl (Th (CompOk.of ok) hc hi.out hg2 (fun cl C s H ex pn=>(hg cl C s H ex pn).out) (fun cl C s H ex pn=>(ht cl C s H ex pn).out) (fun cl C s H ex pn=>(he cl C s H ex pn).out) (D9 hs') hsw hN hn hx hf)⟩
end
end
end ML
end L2
end S_ML8a
section S_ML10
namespace L2
namespace ML
open PySem PySem.Spec PyProof.Rows
section
variable {X:Cx}{a b c e e' o':Expr}{es:List Expr}{pos p p' apos cpos spos:Pos}{x:Str}
theorem Vi (hf:QD X a f) (hbase':Oi a=true:=by rfl) (hline:(apos.endLine == cpos.line)=true:=by kernel_rfl) :
  QS X (.Expr (.Call (.Attribute a "reverse" apos) [] [] cpos) spos) (J6 Hn f Ae):=⟨Adk PySem.F.plainAttrs_list PySem.F.slot_list_reverse PySem.F.type_list_reverse U7 U8 hf.out (D8 hbase') hline⟩
noncomputable def Ge {α:Type} (xs:List α) (n:Nat):List α:=(List.replicate n xs).flatten
theorem Aj7 {xs:List Value}{n:Nat}:List.foldl (fun x1 x2=>x1++x2) #[] (List.replicate (if xs.toArray.isEmpty=true then 0 else n) xs.toArray)=(Ge xs n).toArray:=by
 have gen:∀ (k:Nat) (acc:Array Value),List.foldl (fun x1 x2=>x1++x2) acc (List.replicate k xs.toArray)=acc++(Ge xs k).toArray:=by
  intro k
  induction k with
  |zero=>intro acc;simp[Ge]
  |succ k ih=>intro acc;rw[List.replicate_succ,List.foldl_cons,ih];simp[Ge,List.replicate_succ]
 cases xs with
 |nil=>simp[Ge]
 |cons y ys=>rw[At8 (by simp),gen];simp
theorem Vals.rep (r:Vals xs us) (n:Nat):Vals (Ge xs n) (Ge us n):=by
 unfold Ge
 induction n with
 |zero=>exact .nil
 |succ k ih=>rw[List.replicate_succ,List.replicate_succ,List.flatten_cons,List.flatten_cons];exact Vals.append r ih
theorem Reps.rep {K:W.Frag}{H:Hp}{μ:List Addr}{B:Addr->Prop}{ds:List D}{vs:List V} (r:Reps K H μ B ds vs) (n:Nat):Reps K H μ B (Ge ds n) (Ge vs n):=by
 unfold Ge
 induction n with
 |zero=>exact .nil
 |succ k ih=>rw[List.replicate_succ,List.replicate_succ,List.flatten_cons,List.flatten_cons];exact Reps.append r ih
theorem Ja:(Ge xs n).length=xs.length * n:=by
 unfold Ge
 induction n with
 |zero=>rfl
 |succ k ih=>rw[List.replicate_succ,List.flatten_cons,Aui,ih,Nat.mul_succ];lia
theorem Amy:OpR X (binaryOp .Mult) (fun x y H Q=>∃ l xs i,x=.ref l/\y=.int i/\H l=some (.lst xs)/\0<=i/\i < 2 ^ 62/\xs.length * i.toNat<=1000000/\∀ p,H p=none->Q (.ref p) (upd H p (.lst (Ge xs i.toNat)))):=by
 intro pins s σ H x y v u Q I rx ry h
 obtain⟨l,xs,i,rfl,rfl,hl,h0,h1,hz,q⟩:=h
 cases rx
 obtain⟨t,rfl⟩:=ry
 obtain⟨z,its,n,r,hl',e⟩:=I.lstM hl
 refine wpAny_binaryOp_repeat_ref (T:="list") (U:="int") (by decide) ⟨_,e,rfl⟩ (fun s'=>typeIs_int s' i t) noFill_list_mul F.fills_int_mul F.slot_int_rmul repeat_list F.slot_int_index.lookup
  (Awp F.slot_int_rmul (typeIs_int s i t) F.entry_int_rmul (F.args_int_rmul_2 _ _) (int___rmul___int_list i t l its.toArray n)
   ⟨e,rfl,⟨_,e,rfl⟩,Awp F.slot_list_mul ⟨_,e,rfl⟩ F.entry_list_mul (F.args_list_mul_2 _ _)
    (AutoListH.list___mul___list_int_3 l its.toArray n i t (by simp[Builtin.List.listFitsIndex];lia) (by rw[At2,<- r.length];lia) (by rw[At2,<- r.length];simp[Builtin.List.listTooLong,sizeLine];lia))
    ⟨e,?_⟩⟩)
 rw[Aj7]
 exact⟨.ref _,_,I.lnew (t':=s.toks) (Vals.rep r i.toNat) (by rw[Ja];exact big hz),rfl,q _ I.fresh⟩
def Akv (g:FL) (f:FE):FL:=fun env m=>(g env m).bind fun xs=>(f env m).bind fun y=>match y with
 |.int i=>if 0<=i/\i < 2 ^ 62/\xs.length * i.toNat<=1000000 then some (Ge xs i.toNat) else none
 |_=>none
theorem Aj4 {g:FL}{i:Int} {j} (ha:QF X a g):QF X (.BinOp a .Mult (.Constant (.int i) j p) pos) (Akv g (fC (.int i))):=⟨PE.imp (Anm Amy ha.out Afl) fun σ H Q ⟨env,μ,m,d,S,E,h,q⟩=>by
 obtain⟨xs,h1,h⟩:=bind_some h
 obtain⟨y,h2,h⟩:=bind_some h
 cases h2
 simp only at h
 split at h
 ·rename_i hl
  cases h
  refine⟨env,μ,m,xs,S,E,h1,fun a ys H1 s1 hn ha1 r1=>?_⟩
  refine⟨a,ys,i,rfl,rfl,ha1,hl.1,hl.2.1,by rw[<- r1.length];exact hl.2.2,fun p hp=>q p _ _ (s1.trans (A9 hp)) (s1.free hp) Ba ?_⟩
  exact Reps.fresh ((Reps.rep r1 _).up (fun _ _ _ h=>h) (fun a u _ h b=>⟨h,fun z=>b (.inl z)⟩) (fun _ _ h=>h)) hp
 ·cases h⟩
end
end ML
end L2
end S_ML10
section S_ML11
namespace L2
namespace ML
open PySem PySem.Spec PyProof.Rows PySem.SeqAt
def LtAt (A:Around) (s:Shared) (x y:Value) (k:Bool):Prop :=
 ∀ (prog:Program) (w:World) (E:Value->Shared->Prop) (Q:Value->Shared->Prop),Q (.bool k) s->wpAny (model prog w) A (richCompare .Lt x y) Q E s
inductive LexAt (A:Around) (s:Shared):List Value->List Value->Bool->Prop where
 |nil:LexAt A s [] [] false
 |short {y ys}:LexAt A s [] (y::ys) true
 |long {x xs}:LexAt A s (x::xs) [] false
 |same {x y xs ys k}:EqAt A s x y true->LexAt A s xs ys k->LexAt A s (x::xs) (y::ys) k
 |diff {x y xs ys k}:EqAt A s x y false->LtAt A s x y k->LexAt A s (x::xs) (y::ys) k
theorem LexAt.end1 {s:Shared} (h:LexAt A s xs ys k) (e:xs.zip ys=[]):k=decide (xs.length < ys.length):=by
 cases h with
 |nil=>rfl
 |short=>simp
 |long=>simp
 |same _ _=>simp at e
 |diff _ _=>simp at e
theorem Vq (l b:Addr) (xs ys:Array Value) (n n2:Nat) (dd dd2:Option Addr) (sl sl2:Array (Option Value)) (k:Bool) :
  Meets (Builtin.«tuple.__lt__» ⟨[.ref l,.ref b],[]⟩)
   (fun A R s=>(s.heap.get? l=some { cls:=.type "tuple",dict:=dd,data:=.seq xs n,slots:=sl }/\s.heap.get? b=some { cls:=.type "tuple",dict:=dd2,data:=.seq ys n2,slots:=sl2 }) /\
    LexAt A.in1 s xs.toList ys.toList k/\R (.ok (.ret (.bool k))) s) :=
 .of_wp fun prog w A R s h=>by
  obtain⟨hp,g,d,tk,os⟩:=s
  obtain⟨⟨hl,hb⟩,hx,hR⟩:=h
  have f2:=AutoSeq1.sub_tuple_tuple
  wp_walk using wpAny_loadPart' hl,wpAny_loadPart' hb,wpAny_forIn_list _ (fun rest b s'=>b.1=none/\s'=⟨hp,g,d,tk,os⟩/\∃ us ws,rest=us.zip ws/\us.length+ys.size=ws.length+xs.size/\LexAt A.in1 ⟨hp,g,d,tk,os⟩ us ws k) _
  case turn =>
   rintro ⟨y,x⟩ rest b s' ⟨hb1,rfl,us,ws,hz,hn,hx⟩
   cases hx with
   |nil=>cases hz
   |short=>cases hz
   |long=>cases hz
   |@same u v us ws _ he hx =>
    cases hz
    refine Atu (he prog w _ _ ?_)
    wp_walk
    exact⟨rfl,rfl,us,ws,rfl,by simp only[Aur] at hn;lia,hx⟩
   |@diff u v us ws _ he hk =>
    cases hz
    refine Atu (he prog w _ _ ?_)
    have hk2:∀ {E:Value->Shared->Prop}{Q:Value->Shared->Prop},Q (.bool k) ⟨hp,g,d,tk,os⟩->wpAny (model prog w) A.in1 (richCompare .Lt y x) Q E ⟨hp,g,d,tk,os⟩:=fun q=>hk prog w _ _ q
    wp_walk using hk2
    exact⟨_,rfl,hR⟩
  case fin =>
   rintro ⟨b1,b2⟩ s' ⟨hb1,rfl,us,ws,hz,hn,hx⟩
   simp only at hb1
   subst hb1
   have e:=hx.end1 hz.symm
   subst e
   wp_walk
   refine⟨_,rfl,?_⟩
   have e2:decide (us.length < ws.length)=decide (xs.size < ys.size):=by rw[decide_eq_decide];lia
   rw[e2] at hR
   simpa [Builtin.Tuple.tupleCompareSizes] using hR
  case h =>
   exact⟨rfl,rfl,xs.toList,ys.toList,rfl,by simp[Nat.add_comm],hx⟩
theorem LtAt.tuples {s:Shared}{l b:Addr} (hl:s.heap.IsTuple l xs) (hb:s.heap.IsTuple b ys) (hu:A.units < cLine) (hx:LexAt A.in1 s xs.toList ys.toList k):LtAt A s (.ref l) (.ref b) k:=fun prog w E Q h=>by
 obtain⟨⟨cls,dd,data,sl⟩,ho,hc,n,hd⟩:=id hl
 obtain⟨⟨cls2,dd2,data2,sl2⟩,ho2,hc2,n2,hd2⟩:=id hb
 simp only at hc hd hc2 hd2
 subst hc hd hc2 hd2
 refine richCompare_meets_room (op:=.Lt) ⟨_,ho,rfl⟩ ⟨_,ho2,rfl⟩ F.slot_tuple_lt F.entry_tuple_lt (F.args_tuple_lt_2 _ _) (Vq l b xs ys n n2 dd dd2 sl sl2 k) ⟨⟨ho,ho2⟩,hx,?_⟩ hu
 exact⟨(fun x=>nomatch x),h⟩
theorem Zf (l b:Addr) (xs ys:Array Value) (n n2:Nat) (dd dd2:Option Addr) (sl sl2:Array (Option Value)) (k:Bool):∀ (us ws:List Value) (i:Nat),xs.toList.drop i=us->ys.toList.drop i=ws->i<=xs.size->i<=ys.size ->
  Meets (Builtin.«list.__eq__.loop» ⟨[.ref l,.ref b,rawInt i,rawInt 0],[]⟩)
   (fun A R s=>(s.heap.get? l=some { cls:=.type "list",dict:=dd,data:=.seq xs n,slots:=sl }/\s.heap.get? b=some { cls:=.type "list",dict:=dd2,data:=.seq ys n2,slots:=sl2 })/\LexAt A.in1 s us ws k/\R (.ok (.ret (.bool k))) s):=by
 have none_at:∀ {zs:Array Value}{i:Nat},zs.toList.drop i=[]->zs[((i:Nat):Int).toNat]?=none:=fun {zs i} h=>by
  have:=List.drop_eq_nil_iff.mp h
  simp at this ⊢
  exact this
 have some_at:∀ {zs:Array Value}{i:Nat}{z:Value}{r:List Value},zs.toList.drop i=z::r->zs[((i:Nat):Int).toNat]?=some z/\zs.toList.drop (i+1)=r/\i+1<=zs.size:=fun {zs i z r} h=>by
  have hl:i < zs.toList.length:=by
   rcases Nat.lt_or_ge i zs.toList.length with q|q
   ·exact q
   ·rw[List.drop_eq_nil_of_le q] at h;cases h
  have e:=Avv hl
  rw[h] at e
  obtain⟨e1,e2⟩:=List.cons.inj e
  have hl':i < zs.size:=by simpa using hl
  refine⟨?_,e2.symm,hl'⟩
  rw[e1]
  simp[hl']
 intro us
 induction us with
 |nil =>
  intro ws i hx hy hi1 hi2 prog w A R s h
  obtain⟨hp,g,d,tk,os⟩:=s
  obtain⟨⟨hl,hb⟩,hL,hR⟩:=h
  have e1:=none_at hx
  have z1:xs.size=i:=by have:=List.drop_eq_nil_iff.mp hx;simp at this;lia
  have hk:k=decide (xs.size < ys.size):=by
   cases hL with
   |nil =>
    have:ys.size=i:=by have:=List.drop_eq_nil_iff.mp hy;simp at this;lia
    rw[z1,this];simp
   |short =>
    have:=(some_at hy).2.2
    rw[Au7 (by lia)]
  subst hk
  wp_walk using wpAny_loadPart' hl,wpAny_loadPart' hb
  rw[e1]
  wp_walk using wpAny_loadPart' hl,wpAny_loadPart' hb
  exact hR
 |cons u us ih =>
  intro ws i hx hy hi1 hi2 prog w A R s h
  obtain⟨hp,g,d,tk,os⟩:=s
  obtain⟨⟨hl,hb⟩,hL,hR⟩:=h
  obtain⟨e1,x2,x3⟩:=some_at hx
  cases hL with
  |long =>
   have e2:=none_at hy
   have hk:decide (xs.size < ys.size)=false:=by
    have:ys.size=i:=by have:=List.drop_eq_nil_iff.mp hy;simp at this;lia
    rw[Auu (by lia)]
   rw[<- hk] at hR
   wp_walk using wpAny_loadPart' hl,wpAny_loadPart' hb
   rw[e1,e2]
   wp_walk using wpAny_loadPart' hl,wpAny_loadPart' hb
   exact hR
  |@same _ y _ ws _ he hx' =>
   obtain⟨e2,y2,y3⟩:=some_at hy
   have hc:((i:Int)+1)=((i+1:Nat):Int):=by push_cast;rfl
   wp_walk using wpAny_loadPart' hl,wpAny_loadPart' hb
   rw[e1,e2]
   refine Atu (he prog w _ _ ?_)
   wp_walk
   rw[hc]
   exact⟨plainId_quiet Awa _,codeAny_builtin MeetsSeq3.entry_eq_loop (by
    rw[Around.under_plainId Awa _]
    exact ih ws (i+1) x2 y2 x3 y3 prog w A R _ ⟨⟨hl,hb⟩,hx',hR⟩)⟩
  |@diff _ y _ ws _ he hk =>
   obtain⟨e2,y2,y3⟩:=some_at hy
   wp_walk using wpAny_loadPart' hl,wpAny_loadPart' hb
   rw[e1,e2]
   refine Atu (he prog w _ _ ?_)
   have hk2:∀ {E:Value->Shared->Prop}{Q:Value->Shared->Prop},Q (.bool k) ⟨hp,g,d,tk,os⟩->wpAny (model prog w) A.in1 (richCompare .Lt u y) Q E ⟨hp,g,d,tk,os⟩:=fun q=>hk prog w _ _ q
   wp_walk using wpAny_loadPart' hl,wpAny_loadPart' hb
   rw[e1,e2]
   wp_walk using hk2
   exact hR
theorem Y8 (l b:Addr) (xs ys:Array Value) (n n2:Nat) (dd dd2:Option Addr) (sl sl2:Array (Option Value)) (k:Bool) :
  Meets (Builtin.«list.__lt__» ⟨[.ref l,.ref b],[]⟩)
   (fun A R s=>(s.heap.get? l=some { cls:=.type "list",dict:=dd,data:=.seq xs n,slots:=sl }/\s.heap.get? b=some { cls:=.type "list",dict:=dd2,data:=.seq ys n2,slots:=sl2 })/\LexAt A.in1 s xs.toList ys.toList k/\R (.ok (.ret (.bool k))) s):=by
 intro prog w A R s h
 obtain⟨hp,g,d,tk,os⟩:=s
 obtain⟨⟨hl,hb⟩,hL,hR⟩:=h
 have f3:=AutoSeq1.sub_list_list
 wp_walk using wpAny_loadPart' hl,wpAny_loadPart' hb
 exact⟨plainId_quiet Awa _,codeAny_builtin MeetsSeq3.entry_eq_loop (by
  rw[Around.under_plainId Awa _]
  exact Zf l b xs ys n n2 dd dd2 sl sl2 k _ _ 0 rfl rfl (Auw _) (Auw _) prog w A R _ ⟨⟨hl,hb⟩,by simpa using hL,hR⟩)⟩
theorem LtAt.lists {s:Shared}{l b:Addr} (hl:s.heap.IsList l xs) (hb:s.heap.IsList b ys) (hu:A.units < cLine) (hx:LexAt A.in1 s xs.toList ys.toList k):LtAt A s (.ref l) (.ref b) k:=fun prog w E Q h=>by
 obtain⟨⟨cls,dd,data,sl⟩,ho,hc,n,hd⟩:=id hl
 obtain⟨⟨cls2,dd2,data2,sl2⟩,ho2,hc2,n2,hd2⟩:=id hb
 simp only at hc hd hc2 hd2
 subst hc hd hc2 hd2
 refine richCompare_meets_room (op:=.Lt) ⟨_,ho,rfl⟩ ⟨_,ho2,rfl⟩ F.slot_list_lt F.entry_list_lt (F.args_list_lt_2 _ _) (Y8 l b xs ys n n2 dd dd2 sl sl2 k) ⟨⟨ho,ho2⟩,hx,?_⟩ hu
 exact⟨(fun x=>nomatch x),h⟩
mutual
def ltD:D->D->Option Bool
 |.int i,.int j=>some (decide (i < j))
 |.str i,.str j=>some (decide (i.cps.toList < j.cps.toList))
 |.tup xs,.tup ys=>Gc xs ys
 |.lst xs,.lst ys=>Gc xs ys
 |_,_=>none
def Gc:List D->List D->Option Bool
 |[],[]=>some false
 |[],_::_=>some true
 |_::_,[]=>some false
 |x::xs,y::ys=>if deq x y=true then Gc xs ys else ltD x y
end
section
variable {X:Cx}{pins:List (Addr×Obj)}{σ:St}{H:Hp}{s:Shared}{μ:List Addr}{B:Addr->Prop}
set_option tactic.hygienic true in
mutual
theorem Ae7 (I:Inv X pins σ H s):∀ (d d':D) {A:Around}{v v':V}{u u':Value}{k:Bool},Rep X.K H μ B d v->Rep X.K H μ B d' v'->Bm d=true->Bm d'=true->RelV v u->RelV v' u'->A.units+dep d+dep d' < cLine->ltD d d'=some k->LtAt A s u u' k
 |.int i,d',A,v,v',u,u',k,r,r',n,n',q,q',hu,h=>by
  cases d'<;>first|(simp[ltD] at h;done)|skip
  cases r;cases r'
  obtain⟨t,rfl⟩:=q
  obtain⟨t2,rfl⟩:=q'
  rw[ltD] at h
  cases h
  intro prog w E Q q
  exact lt_int q
 |.str i,d',A,v,v',u,u',k,r,r',n,n',q,q',hu,h=>by
  cases d'<;>first|(simp[ltD] at h;done)|skip
  cases r;cases r'
  obtain⟨t,rfl⟩:=q
  obtain⟨t2,rfl⟩:=q'
  rw[ltD] at h
  cases h
  intro prog w E Q q
  exact lt_str q
 |.tup ds,d',A,v,v',u,u',k,r,r',n,n',q,q',hu,h=>by
  cases d'<;>first|(simp[ltD] at h;done)|skip
  rename_i es
  cases r with
  |tup h1 r1 =>
  cases r' with
  |tup h2 r2 =>
  cases q
  cases q'
  obtain⟨its,rv,p,hz⟩:=I.tuple h1
  obtain⟨its',rv',p',hz'⟩:=I.tuple h2
  rw[ltD] at h
  rw[dep,dep] at hu
  refine LtAt.tuples p p' (by lia) ?_
  rw[Bm] at n n'
  exact Hk I ds es r1 r2 n n' rv rv' (by show A.units+1+_+_ < _;lia) h
 |.non,d',A,v,v',u,u',k,r,r',n,n',q,q',hu,h=>by simp[ltD] at h
 |.bl _,d',A,v,v',u,u',k,r,r',n,n',q,q',hu,h=>by simp[ltD] at h
 |.lst ds,d',A,v,v',u,u',k,r,r',n,n',q,q',hu,h=>by
  cases d'<;>first|(simp[ltD] at h;done)|skip
  rename_i es
  cases r with
  |lst h1 _ r1 =>
  cases r' with
  |lst h2 _ r2 =>
  cases q
  cases q'
  obtain⟨its,rv,p,hz⟩:=I.list (.inl h1)
  obtain⟨its',rv',p',hz'⟩:=I.list (.inl h2)
  rw[ltD] at h
  rw[dep,dep] at hu
  refine LtAt.lists p.isList p'.isList (by lia) ?_
  rw[Bm] at n n'
  exact Hk I ds es r1 r2 n n' rv rv' (by show A.units+1+_+_ < _;lia) h
 |.kl _,d',A,v,v',u,u',k,r,r',n,n',q,q',hu,h=>by simp[ltD] at h
 |.ref _,d',A,v,v',u,u',k,r,r',n,n',q,q',hu,h=>by simp[ltD] at h
 |.dic _ _,d',A,v,v',u,u',k,r,r',n,n',q,q',hu,h=>by simp[ltD] at h
 |.dks _ _,d',A,v,v',u,u',k,r,r',n,n',q,q',hu,h=>by simp[ltD] at h
 |.fz _ _ _ _,d',A,v,v',u,u',k,r,r',n,n',q,q',hu,h=>by simp[ltD] at h
 |.fn _ _,d',A,v,v',u,u',k,r,r',n,n',q,q',hu,h=>by simp[ltD] at h
theorem Hk (I:Inv X pins σ H s):∀ (ds es:List D) {A:Around}{vs vs':List V}{us us':List Value}{k:Bool},Reps X.K H μ B ds vs->Reps X.K H μ B es vs'->Au ds=true->Au es=true->Vals vs us->Vals vs' us'->A.units+Dj ds+Dj es < cLine->Gc ds es=some k->LexAt A s us us' k
 |[],es,A,vs,vs',us,us',k,r,r',n,n',q,q',hu,h=>by
  cases r
  cases q
  cases es with
  |nil=>cases r';cases q';rw[Gc] at h;cases h;exact .nil
  |cons e es =>
   cases r' with
   |cons r1 r2=>cases q' with
    |cons q1 q2=>rw[Gc] at h;cases h;exact .short
 |d::ds,es,A,vs,vs',us,us',k,r,r',n,n',q,q',hu,h=>by
  cases r with
  |cons r1 rs =>
  cases q with
  |cons q1 qs =>
  cases es with
  |nil=>cases r';cases q';rw[Gc] at h;cases h;exact .long
  |cons e es =>
   cases r' with
   |cons r2 rs2=>cases q' with
    |cons q2 qs2 =>
     rw[Gc] at h
     rw[Au,Aua] at n n'
     rw[Dj,Dj] at hu
     have he:=Tq (A:=A) I r1 r2 n.1 n'.1 q1 q2 (by lia)
     by_cases hd:deq d e=true
     ·rw[At4 hd] at h
      rw[hd] at he
      exact .same he (Hk I ds es rs rs2 n.2 n'.2 qs qs2 (by lia) h)
     ·rw[At8 hd] at h
      rw[Bool.eq_false_iff.mpr hd] at he
      exact .diff he (Ae7 I d e r1 r2 n.1 n'.1 q1 q2 (by lia) h)
end
end
section
variable {X:Cx}
def Aky:D->D->MH->Option D:=fun x y m=>(Ci m x).bind fun x'=>(Ci m y).bind fun y'=>if dep x'<=30/\dep y'<=30 then (ltD x' y').bind fun k=>some (.bl k) else none
theorem Z7 (hr:Room k X.A):OpM X (compareOp .Lt) Aky:=by
 intro pins s σ H μ m x y z v u v' u' Q I S rx ry r1 r2 e q
 obtain⟨x',e1,h1⟩:=bind_some e
 obtain⟨y',e2,h1⟩:=bind_some h1
 split at h1
 ·rename_i hd
  obtain⟨b,h2,h3⟩:=bind_some h1
  cases h3
  obtain⟨a1,n1⟩:=A5 S rx e1
  obtain⟨a2,n2⟩:=A5 S ry e2
  have hu:=hr.units
  exact Ae7 I _ _ a1 a2 n1 n2 r1 r2 (by lia) h2 _ _ _ _ ⟨.bl b,H,I,rfl,q _ H (Same.refl H) (.bl _)⟩
 ·cases h1
end
end ML
end L2
end S_ML11
section S_ML12
namespace L2
namespace ML
open PySem PySem.Spec PyProof.Rows
section
variable {X:Cx}{a b c e e' o':Expr}{es:List Expr}{pos p p' apos cpos spos:Pos}{x:Str}
noncomputable def Ac4:List D->MH->Option D:=fun xs _=>match xs with
 |[.int i,.int j]=>some (.int (if j < i then j else i))
 |_=>none
theorem Ahh (hc:X.calm=true):Lg X (.builtin "min") Ac4:=by
 intro pins s σ H μ m xs z vs us Q I S rx rv e q
 obtain⟨i,j,rfl⟩:∃ i j,xs=[.int i,.int j]:=by
  cases xs with
  |nil=>cases e
  |cons d ds =>
   cases d with
   |int i =>
    cases ds with
    |nil=>cases e
    |cons d ds =>
     cases d with
     |int j =>
      cases ds with
      |nil=>exact⟨i,j,rfl⟩
      |cons _ _=>exact Ah e
     |_=>cases e
   |_=>cases e
 cases e
 obtain⟨v,w,rfl,r1,r2⟩:=rx.two
 cases r1
 cases r2
 exact Yc hc pins s σ H _ us Q I rv ⟨i,j,rfl,q _ H (Same.refl H) (.int _)⟩
theorem Aj0 (hc:X.calm=true) (hm:X.mg "min"=none) (ha:QL X [e,e'] g) (hg:Gl X "min":=by unfold Gl;kernel_rfl) (he':Bh e=true:=by rfl) (he2:Bh e'=true:=by rfl):QD X (.Call (.Name "min" p) [e,e'] [] pos) (Ao Ac4 g):=⟨Mv (Ahh hc) hg hm (by decide +kernel) ha.out (by decide) (by decide) (An he') (by rw[An he2];rfl)⟩
end
section
variable {X:Cx}{a b c e:Expr}{tg:Expr}{p pos:Pos}
end
open Classical
noncomputable section
theorem Aa1 (r:Ak6 o u):o.isSome=u.isSome:=by
 cases o<;>cases u<;>first|rfl|exact (show False from r).elim
section
variable {X:Cx}{pins:List (Addr×Obj)}{σ:St}{H:Hp}{s:Shared}{a:Addr}
theorem Aii (I:Inv X pins σ H s):sysModules < s.heap.objs.size:=by
 have h:mainGlobals < s.heap.objs.size:=(I.mod.glob.keeps I.bk).lt
 exact Nat.lt_trans (by decide) h
end
section
variable {K:W.Frag}{H:Hp}{μ:List Addr}{B:Addr->Prop}
end
section
variable {X:Cx}{a b c e:Expr}{es:List Expr}{pos p p':Pos}{x:Str}
end
section
variable {X:Cx}{a b c e:Expr}{es:List Expr}{pos p p':Pos}{x:Str}
end
end
end ML
end L2
end S_ML12
section S_ML15
namespace L2
namespace ML
open PySem PySem.Spec PyProof.Rows
namespace RV
section
variable {prog:Program}{w:World}{A:Around}{E:Value->Shared->Prop}{s:Shared}
end
section
variable {prog:Program}{w:World}{A:Around}{s:Shared}{R:Result->Shared->Prop}
end
section
variable {prog:Program}{w:World}{A:Around}{E:Value->Shared->Prop}{s:Shared}
end
end RV
section
variable {X:Cx}{e:Expr}{pos pos' p p':Pos}
end
namespace RL
section
variable {prog:Program}{w:World}{A:Around}{E:Value->Shared->Prop}{s:Shared}
end
section
variable {prog:Program}{w:World}{A:Around}{s:Shared}{R:Result->Shared->Prop}
end
section
variable {prog:Program}{w:World}{A:Around}{E:Value->Shared->Prop}{s:Shared}
end
end RL
section
variable {X:Cx}{e:Expr}{pos pos' p p':Pos}
end
section
variable {X:Cx}{a e:Expr}{apos cpos:Pos}
end
section
variable {X:Cx}{a e:Expr}{apos cpos spos:Pos}
noncomputable def Akx:List D->List D->Option (List D):=fun ds es=>match es with
 |[.lst zs]=>if ds.length+zs.length<=1000000 then some (ds++zs) else none
 |_=>none
def Aoe (K:W.Frag):V->List V->Hp->VK->Prop:=fun x vs H Q=>∃ l b xs zs,x=.ref l/\vs=[.ref b]/\H l=some (.lst xs)/\SqL K H b zs/\xs.length+zs.length<=sizeLine/\Q .non (upd H l (.lst (xs++zs)))
theorem Aiu:MtM X "list.extend" (Aoe X.K):=by
 intro pins s σ H x vs v us Q I rx rv h
 obtain⟨l,b,xs,zs,rfl,rfl,hH,hB,hz,q⟩:=h
 cases rx
 obtain⟨u,rfl,ru⟩:=rv.one
 cases ru
 obtain⟨z,its,n,r,hl,e⟩:=I.lstM hH
 obtain⟨its2,r2,⟨o2,n2,e2,hc2⟩,z2⟩:=I.list hB
 have hl2:=r2.length
 have hsz:its.toArray.size+its2.toArray.size<=sizeLine:=by rw[At2,At2];lia
 have hlong:¬ (!its.toArray.isEmpty&&Builtin.List.listTooLong (its.toArray.size+its2.toArray.size))=true:=by
  rw[Ac2 hsz,Bool.and_false]
  exact Auo
 obtain⟨hc2,hd2,hs2⟩:=hc2
 refine Au6 F.slot_list_extend ⟨_,e,rfl⟩ F.entry_list_extend ?_ (F.args_list_extend_2 _ _)
 show wpAny _ _ (Builtin.List.listExtendWith (.ref l) (.ref b) .none) _ _ s
 unfold Builtin.List.listExtendWith
 refine Atu (Av6 ⟨o2,e2,hc2⟩ ?_)
 rw[At4 (by simp)]
 unfold Builtin.List.listItems
 refine Atu (Atu (Awo e2 hs2 (Atv ?_)))
 refine Atu (Atu (Awo e rfl (Atv ?_)))
 rw[At8 hlong]
 refine Atu (wpAny_updateSeq (hz:=by simp only[At2,Array.size_append];lia) e rfl ?_)
 refine Atv ⟨_,rfl,?_⟩
 refine⟨.non,_,I.lset (its':=its++its2) hH e (by simp) (r.append r2) ?_,rfl,q⟩
 rw[Aui]
 lia
theorem Ama:Ak4 X (Aoe X.K) Akx:=fun μ H a xs vs ds es fs Q h1 ha rs re h q=>by
 obtain⟨d,rfl⟩:=Afi (o:=fun es=>Akx ds es) rfl (fun a _ _=>by cases a<;>rfl) h
 obtain⟨v,rfl,r⟩:=re.one
 cases r with
 |@lst zs b zs' hb hn rz =>
  unfold Akx at h
  simp only at h
  split at h
  ·rename_i hl
   cases h
   exact⟨a,b,xs,zs',rfl,rfl,h1,.inl hb,by rw[<- rs.length,<- rz.length];have:sizeLine=16777216:=Au9;lia,q _ (rs.append rz)⟩
  ·cases h
 |_=>exact Ah h
theorem Aob (hf:QD X a f) (ha:QL X [e] g) (hbase':Oi a=true:=by rfl) (hline:(apos.endLine == cpos.line)=true:=by kernel_rfl) (hs':Bh e=true:=by rfl) :
  QS X (.Expr (.Call (.Attribute a "extend" apos) [e] [] cpos) spos) (J6 Akx f g):=⟨Aan PySem.F.plainAttrs_list PySem.F.slot_list_extend PySem.F.type_list_extend Aiu Ama hf.out ha.out (D8 hbase') (M8 (by rw[Ave,hs'];rfl) rfl) hline (An hs') rfl⟩
end
end ML
end L2
end S_ML15
section S_ML19
namespace L2
namespace ML
open PySem PySem.Spec PyProof.Rows PySem.SeqAt
open PySem.W (KasT kas_sort katRev KatLex)
noncomputable def evO {α:Type} (c:Nat->Nat->Option Bool):KasT α->Option α
 |.ret a=>some a
 |.ask i j k=>(c i j).bind fun b=>evO c (k b)
theorem Aez {s:Shared} (hc:∀ i j b C,c i j=some b->C b s->cmp i j C s) :
  ∀ (t:KasT α) {a:α},evO c t=some a->Q a s->t.kasWp cmp Q s
 |.ret _,_,h,q=>by cases h;exact q
 |.ask i j k,a,h,q=>by
  obtain⟨b,h1,h2⟩:=bind_some h
  exact hc i j b _ h1 (Aez hc (k b) h2 q)
theorem Ain {prog:Program}{w:World}{A:Around}{s:Shared}{fl fin:Bool}{Q:Bool->Shared->Prop}{n1 n2:Nat} (hf:fin=decide (n1 < n2)) {us ws:List Value}{k:Bool} (h:LexAt A s us ws k) :
  ∀ i:Nat,0 < i->us.length+n2=ws.length+n1->Q k s->KatLex prog w A fl fin Q (us.zip ws) i s:=by
 induction h with
 |nil =>
  intro i hi hn q
  show Q fin s
  rw[hf,Auu (by simp at hn;lia)];exact q
 |short =>
  intro i hi hn q
  show Q fin s
  rw[hf,Au7 (by simp at hn;lia)];exact q
 |long =>
  intro i hi hn q
  show Q fin s
  rw[hf,Auu (by simp at hn;lia)];exact q
 |same he _ ih =>
  intro i hi hn q
  exact W.kat_cons (he prog w _ _ (W.kat_yes (ih (i+1) (Nat.succ_pos _) (by simp at hn;lia) q)))
 |diff he hk =>
  intro i hi hn q
  refine W.kat_cons (he prog w _ _ (W.kat_no ?_))
  rw[show (fl&&i == 0)=false by cases fl<;>simp;lia]
  exact W.kat_one _ _ (hk prog w _ _ q)
noncomputable def Ae6:D->Bool
 |.tup (.int _::_)=>true
 |_=>false
theorem Rc {d:D} (h:Ae6 d=true):∃ i ds,d=.tup (.int i::ds):=by
 cases d with
 |tup es =>
  cases es with
  |nil=>exact Ct h
  |cons e ds =>
   cases e with
   |int i=>exact⟨i,ds,rfl⟩
   |_=>exact Ct h
 |_=>exact Ct h
section
variable {X:Cx}{pins:List (Addr×Obj)}{σ:St}{H:Hp}{s:Shared}{μ:List Addr}{B:Addr->Prop}
theorem Ail (I:Inv X pins σ H s) {E:Value->Shared->Prop} (r:Rep X.K H μ B (.tup (.int i::ds)) v) (r':Rep X.K H μ B (.tup (.int j::es)) v') (n:Au ds=true) (n':Au es=true) (ru:RelV v u) (ru':RelV v' u') (hu:A.units+Dj ds+Dj es+1 < cLine) (h:Gc (.int i::ds) (.int j::es)=some b) (q:Q b s):wpAny (model X.prog X.w) A (keyLt' (tuples' true) u u') Q E s:=by
 cases r with
 |tup h1 r1 =>
 cases r' with
 |tup h2 r2 =>
 cases ru
 cases ru'
 obtain⟨its,rv,⟨o,ho,hc,nn,hd⟩,hz⟩:=I.tuple h1
 obtain⟨its',rv',⟨o',ho',hc',nn',hd'⟩,hz'⟩:=I.tuple h2
 cases r1 with
 |cons x1 xs1 =>
 cases r2 with
 |cons x2 xs2 =>
 cases rv with
 |cons q1 qs1 =>
 cases rv' with
 |cons q2 qs2 =>
 have he:=Tq (A:=A) I x1 x2 rfl rfl q1 q2 (by rw[show dep (D.int j)=0 by simp[dep]];lia)
 cases x1
 cases x2
 obtain⟨t,rfl⟩:=q1
 obtain⟨t',rfl⟩:=q2
 refine W.kat_lt ho hd ho' hd' (W.kat_cons (he X.prog X.w _ _ ?_))
 rw[Gc] at h
 by_cases hdq:deq (.int i) (.int j)=true
 ·rw[At4 hdq] at h
  rw[hdq]
  exact W.kat_yes (Ain rfl (Hk (A:=A) I ds es xs1 xs2 n n' qs1 qs2 (by lia) h) 1 (by decide) (by simp;lia) q)
 ·rw[At8 hdq,ltD] at h
  cases h
  rw[Bool.eq_false_iff.mpr hdq]
  exact W.kat_no (oneLt_int q)
theorem Od (I:Inv X pins σ H s):∀ {ks:List D}{vs:List V}{us:List Value},Reps X.K H μ B ks vs->Vals vs us->ks.all Ae6=true->∃ fs,W.KatTups s.heap us fs/\fs.length=us.length/\∀ f∈fs,∃ i t,f=Value.int i t
 |_,_,_,.nil,.nil,_=>⟨[],.nil,rfl,fun _ h=>nomatch h⟩
 |_,_,_,.cons r rs,.cons q qs,h=>by
  rw[Ave,Aua] at h
  obtain⟨i,ds,rfl⟩:=Rc h.1
  obtain⟨fs,h1,h2,h3⟩:=Od I rs qs h.2
  cases r with
  |tup e1 r1 =>
  cases q
  obtain⟨its,rv,⟨o,ho,hc,nn,hd⟩,hz⟩:=I.tuple e1
  cases r1 with
  |cons x1 _ =>
  cases rv with
  |cons q1 _ =>
  cases x1
  obtain⟨t,rfl⟩:=q1
  refine⟨.int i t::fs,W.KatTups.cons ho hc hd (by simp) h1,by simp[h2],fun f hf=>?_⟩
  rcases List.mem_cons.mp hf with rfl|hf
  ·exact⟨i,t,rfl⟩
  ·exact h3 f hf
theorem Inv.setPin {pre post:List (Addr×Obj)}{a:Addr}{o o':Obj}{h':Heap} (I:Inv X (pre++(a,o)::post) σ H s) (ha:X.s₀.heap.objs.size<=a) (hx:∀ p∈X.pn++(pre++post),p.1≠a)
  (k:∀ b u,b≠a->s.heap.get? b=some u->h'.get? b=some u) (ho:h'.get? a=some o') (hc:∀ v,o'.data≠.cell v):Inv X (pre++(a,o')::post) σ H { s with heap:=h' }:=by
 obtain⟨e,n,ne,nf,d⟩:=I.pin (a,o) (Aty _ (Aty _ (At0 ..)))
 have sub:∀ p∈pre++post,p∈pre++(a,o)::post:=fun p hp=>(List.mem_append.mp hp).elim (fun z=>Auq _ z) fun z=>Aty _ (Atz _ z)
 have I0:Inv X (pre++post) σ H s:=I.pins_of fun p hp=>I.pin p (Aty _ (sub p hp))
 have I1:=I0.turned (t':=s.toks) k n ne (.inr ha) (fun x c hl z=>by
  obtain⟨v,o2,e2,d2⟩:=I.cell x c hl
  rw[z] at e2
  rw[show s.heap.get? a=some o from e] at e2
  cases e2
  exact d v d2) hx
 refine I1.pins_of fun p hp=>?_
 rcases List.mem_append.mp hp with z|z
 ·exact I1.pin p (Aty _ (Auq _ z))
 ·rcases List.mem_cons.mp z with rfl|z
  ·exact⟨ho,n,ne,nf,hc⟩
  ·exact I1.pin p (Aty _ (Aty _ z))
theorem Inv.adopt (I:Inv X ((a,seqObj "list" its.toArray n)::pins) σ H s) (ha:X.s₀.heap.objs.size<=a) (hx:∀ p∈X.pn++pins,p.1≠a) (rv:Vals ys its) (hz:ys.length<=sizeLine) :
  Inv X pins σ (upd H a (.lst ys)) s:=by
 obtain⟨e,hn,ne,nf,d⟩:=I.pin (a,seqObj "list" its.toArray n) (Aty _ (At0 ..))
 have I0:Inv X pins σ H s:=I.pins_of fun p hp=>I.pin p (Aty _ (Atz _ hp))
 have up:∀ b u,H b=some u->upd H a (.lst ys) b=some u:=fun b u q=>by rw[Az (Av q hn)];exact q
 refine I0.step (g':=s.gens) (t':=s.toks) (d':=s.drawn) (h':=s.heap) (ch:=[a]) (fun b hb=>?_) (fun b o _ _ _ q _=>q) (fun b o _ _ _ q _=>⟨o.slots,q⟩) (fun b o hc q z=>?_) (fun b o _ q=>⟨o,q⟩) (fun b xs q=>up _ _ q) (fun b o u q=>up _ _ q) (fun b ps q=>⟨#[],by rw[up _ _ q];simp⟩) (fun m q=>q) (fun b u q=>?_) I0.bare
 ·have e':b=a:=by simpa using hb
  subst e'
  refine⟨.inr ha,ne,fun x c hl z=>?_,hx⟩
  obtain⟨v,o2,e2,d2⟩:=I.cell x c hl
  rw[z] at e2
  have e3:s.heap.get? b=some (seqObj "list" its.toArray n):=e
  rw[e3] at e2
  cases e2
  exact d v d2
 ·rw[Az (fun z=>hc (by simp[z]))];exact z
 ·by_cases hb:b=a
  ·subst hb
   rw[Ba] at q
   cases q
   exact⟨hz,its,n,rv,e⟩
  ·rw[Az hb] at q
   exact (I0.hok b u q).stay (fun c v _ z=>z) (fun c z=>up _ _ z) (fun c xs z=>by
    rcases z with z|⟨o,z⟩
    ·exact .inl (up _ _ z)
    ·exact .inr ⟨o,up _ _ z⟩) fun c x w z=>up _ _ z
end
def Gs (fn:List D->Option D) (m:MH):List D->Option (List D)
 |[]=>some []
 |d::ds=>(Bb 1 fn [d] m).bind fun k=>(Gs fn m ds).bind fun ks=>some (k::ks)
theorem Oc:∀ {ds ks:List D},Gs fn m ds=some ks->ks.length=ds.length
 |[],_,h=>by cases h;rfl
 |d::ds,_,h=>by
  obtain⟨k,h1,h⟩:=bind_some h
  obtain⟨ks,h2,h⟩:=bind_some h
  cases h
  rw[Aur,Aur,Oc h2]
section
variable {X:Cx}{pins:List (Addr×Obj)}{σ:St}{H:Hp}{s:Shared}{μ:List Addr}{m:MH}{k:Nat}{f:Addr}{fd:FuncData}{ps:List Str}{fn:List D->Option D}{A':Around}
theorem Aj9 {us:List Value}{vs:List V}{Q:VK} (F:FnOk X.prog X.w X.K X.mg X.base CX0 k f fd ps (spP X.K 1 fn)) (hr:Room k A') (he:Env0 X.prog X.w X.K X.mg X.base A' X.stack s H) (hb:Binds X.K fd ps []) (I:Inv X pins σ H s) (r:Vals vs us) (h:spP X.K 1 fn vs H Q E0) :
  wpAny (model X.prog X.w) A' (call (.ref f) us) (EP X pins σ Q) (fun _ _=>False) s:=by
 have hl:us.length=ps.length:=by rw[<- r.length];exact F.len _ _ _ _ h
 have hb':=hb s us I.kIn (by simpa using hl)
 rw[Aue] at hb'
 refine wpAny_call (codeAny_mono (F.run A' X.stack s H ⟨us,[]⟩ us vs Q E0 hr he hb' r h) fun r s' hq=>?_)
 cases r with
 |error e=>exact hq.elim
 |ok fl =>
  cases fl with
  |ret u=>exact I.after hq
  |next=>exact False.elim hq
  |brk=>exact False.elim hq
  |cont=>exact False.elim hq
def SK (X:Cx) (pins:List (Addr×Obj)) (σ:St) (H:Hp) (μ:List Addr) (kS D0:Addr) (e1:Nat) (keys:List D) (s':Shared):Prop :=
 ∃ H1 e kvs us,Same H H1/\Inv X ((kS,seqObj "list" (List.toArray us) e)::(D0,seqObj "list" #[] e1)::pins) σ H1 s'/\Vals kvs us/\Reps X.K H1 μ (·∈μ) keys kvs
theorem T3 {E:Value->Shared->Prop} (F:FnOk X.prog X.w X.K X.mg X.base CX0 k f fd ps (spP X.K 1 fn)) (hr:Room k A') (hA:∀ s H,Env0 X.prog X.w X.K X.mg X.base X.A X.stack s H->Env0 X.prog X.w X.K X.mg X.base A' X.stack s H) (hb:Binds X.K fd ps []) (S:Sim X.K H μ m) (hk:X.s₀.heap.objs.size<=kS) (hx:∀ p∈X.pn++pins,p.1≠kS) (hne:D0≠kS) (hbd:∀ x (s:Shared) (R:ForInStep PUnit->Shared->Prop),wpAny (model X.prog X.w) A' (call (.ref f) [x]) (fun k s1=>∃ us e,s1.heap.get? kS=some (seqObj "list" (List.toArray us) e)/\us.length < 128/\R (.yield ⟨⟩) { s1 with heap:=s1.heap.update kS (Obj.mapSeq (·.push k)) }) (fun _ _=>False) s->wpAny (model X.prog X.w) A' (body x ⟨⟩) R E s) :
  ∀ (ds:List D) {xs:List V}{us:List Value}{ks dn:List D}{s:Shared},Reps X.K H μ (·∈μ) ds xs->Vals xs us->Gs fn m ds=some ks->dn.length+ds.length < 128->SK X pins σ H μ kS D0 e1 dn s ->
   wpAny (model X.prog X.w) A' (forIn us PUnit.unit body) (fun _ s'=>SK X pins σ H μ kS D0 e1 (dn++ks) s') E s
 |[],xs,us,ks,dn,s,rs,rv,hK,hl,st=>by
  cases rs
  cases rv
  cases hK
  rw[List.forIn_nil,Aue]
  exact Atv st
 |d::ds,xs,us,ks,dn,s,rs,rv,hK,hl,st=>by
  cases rs with
  |@cons _ v _ vs r rs =>
  cases rv with
  |@cons _ u _ us ru rus =>
  obtain⟨key,h1,h⟩:=bind_some hK
  obtain⟨ks',h2,h⟩:=bind_some h
  cases h
  obtain⟨H1,e,kvs,ws,s1,I,rk,rks⟩:=st
  have S1:=S.same s1
  obtain⟨ds',h3,h4⟩:=bind_some h1
  split at h4
  ·rename_i hl1
   rw[List.forIn_cons]
   refine Atu (hbd u s _ (Au0 (Aj9 (us:=[u]) (vs:=[v]) (Q:=fun v' H'=>Same H1 H'/\Rep X.K H' μ (·∈μ) key v') F hr (hA _ _ I.env0) hb I (.cons ru .nil) ⟨ds',key,C5 S1 (.cons (r.same s1) .nil) h3,hl1,h4,fun v' H' s' r'=>⟨s',Rep.ofCall S1 r'⟩⟩) (fun kv s2 hq=>?_) fun _ _ z=>z))
   obtain⟨v',H2,I2,rv2,s2',r2⟩:=hq
   have pk:=I2.pin (kS,_) (Aty _ (At0 ..))
   have hln:=rks.length
   have hln2:=rk.length
   refine⟨ws,e,pk.1,by rw[Aur] at hl;lia,?_⟩
   show wpAny (model X.prog X.w) A' (forIn us PUnit.unit body) _ E _
   rw[show dn++key::ks'=(dn++[key])++ks' by simp]
   refine T3 F hr hA hb S hk hx hne hbd ds rs rus h2 (by rw[Aui,Avq];rw[Aur] at hl;lia) ?_
   have ea:(List.toArray ws).push kv=List.toArray (ws++[kv]):=by simp
   obtain⟨c2,hc2⟩:∃ c2,(s2.heap.update kS (Obj.mapSeq (·.push kv))).get? kS=some (seqObj "list" (List.toArray (ws++[kv])) c2):=⟨_,by rw[<- ea];exact get?_update_seq pk.1 (·.push kv)⟩
   refine⟨H2,c2,kvs++[v'],ws++[kv],s1.trans s2',?_,Vals.append rk (.cons rv2 .nil),Reps.append (rks.same s2') (.cons r2 .nil)⟩
   refine Inv.setPin (pre:=[]) I2 hk (fun p hp=>?_) (fun b o hb q=>(Aum _ _ (Avn hb)).trans q) hc2 (fun v z=>by cases z)
   rcases List.mem_append.mp hp with z|z
   ·exact hx p (Auq _ z)
   ·rcases List.mem_cons.mp z with rfl|z
    ·exact hne
    ·exact hx p (Aty _ z)
  ·exact Ah h4
end
def Jp (b:Bool) (ds ks:List D):Option (List D):=if ds.length < 2 then some ds else
 (evO (fun i j=>ltD ((katRev b ks).getD i .non) ((katRev b ks).getD j .non)) (kas_sort ds.length)).bind fun p=>some (katRev b (p.toList.map fun i=>(katRev b ds).getD i .non))
theorem Vals.getN (r:Vals xs us) (i:Nat):RelV (xs.getD i .non) (us.getD i Value.none):=by
 have hl:=r.length
 by_cases h:i < xs.length
 ·obtain⟨u,h1,h2⟩:=r.get (i:=i) (x:=xs[i]) (by simp[h])
  rw[At7,At7,h1,Atx h];exact h2
 ·rw[At7,At7,Aus (by lia),Aus (by lia)];rfl
theorem Reps.getN {K:W.Frag}{H:Hp}{μ:List Addr}{B:Addr->Prop}{ds:List D}{xs:List V} (r:Reps K H μ B ds xs) (i:Nat):Rep K H μ B (ds.getD i .non) (xs.getD i .non):=by
 have hl:=r.length
 by_cases h:i < ds.length
 ·obtain⟨v,h1,h2⟩:=r.get (i:=i) (d:=ds[i]) (by simp[h])
  rw[At7,At7,h1,Atx h];exact h2
 ·rw[At7,At7,Aus (by lia),Aus (by lia)];exact .non
theorem Vals.mapN (r:Vals xs us):∀ l:List Nat,Vals (l.map fun i=>xs.getD i .non) (l.map fun i=>us.getD i Value.none)
 |[]=>.nil
 |i::l=>.cons (Vals.getN r i) (Vals.mapN r l)
theorem Reps.mapN {K:W.Frag}{H:Hp}{μ:List Addr}{B:Addr->Prop}{ds:List D}{xs:List V} (r:Reps K H μ B ds xs):∀ l:List Nat,Reps K H μ B (l.map fun i=>ds.getD i .non) (l.map fun i=>xs.getD i .non)
 |[]=>.nil
 |i::l=>.cons (Reps.getN r i) (Reps.mapN r l)
theorem Vals.turn (r:Vals xs us) (b:Bool):Vals (katRev b xs) (katRev b us):=by
 cases b with
 |false=>exact r
 |true=>exact r.reverse
theorem Reps.turn {K:W.Frag}{H:Hp}{μ:List Addr}{B:Addr->Prop}{ds:List D}{xs:List V} (r:Reps K H μ B ds xs) (b:Bool):Reps K H μ B (katRev b ds) (katRev b xs):=by
 cases b with
 |false=>exact r
 |true=>exact r.reverse
theorem Aeb {l:List α} (h:x∈katRev b l):x∈l:=by
 cases b with
 |false=>exact h
 |true=>exact List.mem_reverse.mp h
theorem P2:∀ {ds:List D}{d:D},d∈ds->dep d<=Dj ds
 |_::_,_,.head _=>by rw[Dj];lia
 |_::_,_,.tail _ h=>by have:=P2 h;rw[Dj];lia
section
variable {X:Cx}{pins:List (Addr×Obj)}{σ:St}{H:Hp}{s:Shared}{μ:List Addr}{m:MH}{k:Nat}{f:Addr}{fd:FuncData}{ps:List Str}{fn:List D->Option D}{A':Around}
theorem Abz (I:Inv X pins σ H s) {ks:List D}{kvs:List V}{us:List Value} (rk:Vals kvs us) (rks:Reps X.K H μ (·∈μ) ks kvs) (hI:ks.all Ae6=true) (hn:Au ks=true) (hd:Dj ks<=20) (hu:A'.units+50 < cLine) (b:Bool) (i j:Nat) (c:Bool) (C:Bool->Shared->Prop)
  (h:ltD ((katRev b ks).getD i .non) ((katRev b ks).getD j .non)=some c) (q:C c s):W.kas_ask X.prog X.w A' (tuples' true) (katRev b us) i j C s:=by
 have key:∀ i,(katRev b ks).getD i .non=.non\/(katRev b ks).getD i .non∈ks:=fun i=>by
  by_cases h:i < (katRev b ks).length
  ·right
   rw[At7,Atx h]
   exact Aeb (Auz h)
  ·left
   rw[At7,Aus (by lia)];rfl
 have r1:=Reps.getN (Reps.turn rks b) i
 have r2:=Reps.getN (Reps.turn rks b) j
 have v1:=Vals.getN (Vals.turn rk b) i
 have v2:=Vals.getN (Vals.turn rk b) j
 have k1:=key i
 have k2:=key j
 generalize (katRev b ks).getD i .non=x at h r1 k1
 generalize (katRev b ks).getD j .non=y at h r2 k2
 rcases k1 with rfl|k1
 ·simp[ltD] at h
 ·obtain⟨i1,ds,rfl⟩:=Rc (List.all_eq_true.mp hI _ k1)
  rcases k2 with rfl|k2
  ·simp[ltD] at h
  ·obtain⟨i2,es,rfl⟩:=Rc (List.all_eq_true.mp hI _ k2)
   have d1:=P2 k1
   have d2:=P2 k2
   have n1:=B1 hn k1
   have n2:=B1 hn k2
   rw[dep,Dj] at d1 d2
   rw[Bm,Au,Aua] at n1 n2
   rw[ltD] at h
   exact Ail I r1 r2 n1.2 n2.2 v1 v2 (by lia) h q
end
end ML
end L2
end S_ML19
section S_ML20
namespace L2
namespace ML
open PySem PySem.Spec PyProof.Rows PySem.SeqAt
open PySem.W (KasT kas_sort katRev KatLex)
section
variable {X:Cx}{pins:List (Addr×Obj)}{σ:St}{H H1:Hp}{s:Shared}{μ:List Addr}{m:MH}{k:Nat}{f:Addr}{fd:FuncData}{ps:List Str}{fn:List D->Option D}{A':Around}{kS D0:Addr}{b:Bool}{e e1:Nat}{P:PySem.Fin->Shared->Prop}{E:Value->Shared->Prop}
theorem Ajf (h:∀ p∈X.pn++pl,p.1≠a) (hc:c≠a):∀ p∈X.pn++((c,o)::pl),p.1≠a:=fun p hp=>by
 rcases List.mem_append.mp hp with z|z
 ·exact h p (Auq _ z)
 ·rcases List.mem_cons.mp z with rfl|z
  ·exact hc
  ·exact h p (Aty _ z)
theorem Ld {st:SortSt}{us outv:List Value} (hout:(arrOf st).map (·.2)=List.toArray outv) (hz:outv.length < 128) (hkz:us.length < 128) (hf:failedOf st=none) (I:Inv X ((kS,seqObj "list" (List.toArray us) e)::(D0,seqObj "list" #[] e1)::pins) σ H1 s)
  (hk:X.s₀.heap.objs.size<=kS) (hD:X.s₀.heap.objs.size<=D0) (hx:∀ p∈X.pn++pins,p.1≠kS) (hy:∀ p∈X.pn++pins,p.1≠D0) (hne:D0≠kS)
  (fin:∀ s' c,Inv X ((D0,seqObj "list" (List.toArray (katRev b outv)) c)::pins) σ H1 s'->P (.done (.ret .none)) s'):wpAny (model X.prog X.w) A' (ksk_tail D0 b e1 (.ref kS) st) P E s:=by
 have pk:=I.pin (kS,seqObj "list" (List.toArray us) e) (Aty _ (At0 ..))
 obtain⟨ck,hck⟩:∃ ck,(s.heap.update kS (Obj.mapSeq fun _=>(#[]:Array Value))).get? kS=some (seqObj "list" #[] ck):=⟨_,get?_update_seq pk.1 fun _=>#[]⟩
 have Ia:=Inv.setPin (pre:=[]) I hk (Ajf hx hne) (fun c o hc q=>(Aum _ _ (Avn hc)).trans q) hck (fun v z=>by cases z)
 have Ib:Inv X ((D0,seqObj "list" #[] e1)::pins) σ H1 { s with heap:=s.heap.update kS (Obj.mapSeq fun _=>(#[]:Array Value)) }:=Ia.pins_of fun p hp=>Ia.pin p (Aty _ (Atz _ hp))
 have pd:=Ib.pin (D0,seqObj "list" #[] e1) (Aty _ (At0 ..))
 obtain⟨c2,hc2⟩:∃ c2,((s.heap.update kS (Obj.mapSeq fun _=>(#[]:Array Value))).update D0 (Obj.mapSeq fun _=>List.toArray (katRev b outv))).get? D0=some (seqObj "list" (List.toArray (katRev b outv)) c2):=⟨_,get?_update_seq pd.1 fun _=>List.toArray (katRev b outv)⟩
 have Ic:=Inv.setPin (pre:=[]) Ib hD hy (fun c o hc q=>(Aum _ _ (Avn hc)).trans q) hc2 (fun v z=>by cases z)
 have hsz:(List.toArray (katRev b outv)).size=outv.length:=by rw[At2,W.kat_len]
 have hline:sizeLine=16777216:=Au9
 unfold ksk_tail
 try dsimp only
 rw[hout,W.kat_outs]
 refine Atu (listUpdate_at pk.1 rfl (Atu (wpAny_letGo (Atu (seqEpoch_at pd.1 rfl (Atu (listUpdate_at pd.1 rfl ?_ (Auw _) (by rw[hsz];lia))))))) (by rw[At2];lia) (Auw _))
 rw[hf]
 simp only[bne_self_eq_false,Au3,if_false]
 exact Atv (fin _ c2 Ic)
theorem Zb (i:Int) (t:Tok):W.Looks M h (typeOf (.int i t)) (.type "int"):=W.Looks.of_pure rfl
def Ak3 (X:Cx) (pins:List (Addr×Obj)) (σ:St) (μ:List Addr) (b:Bool) (ds ks out:List D) (A':Around):Prop :=
 ∀ ⦃kS D0:Addr⦄ ⦃e e1:Nat⦄ ⦃us its:List Value⦄ ⦃xs kvs:List V⦄ ⦃H1:Hp⦄ ⦃s:Shared⦄ ⦃P:PySem.Fin->Shared->Prop⦄ ⦃E:Value->Shared->Prop⦄,Inv X ((kS,seqObj "list" (List.toArray us) e)::(D0,seqObj "list" #[] e1)::pins) σ H1 s->X.s₀.heap.objs.size<=kS->X.s₀.heap.objs.size<=D0->(∀ p∈X.pn++pins,p.1≠kS)->(∀ p∈X.pn++pins,p.1≠D0)->D0≠kS->Vals xs its->Reps X.K H1 μ (·∈μ) ds xs->Vals kvs us->Reps X.K H1 μ (·∈μ) ks kvs ->
  (∀ s' c ys ws,Inv X ((D0,seqObj "list" (List.toArray ws) c)::pins) σ H1 s'->Vals ys ws->Reps X.K H1 μ (·∈μ) out ys->P (.done (.ret .none)) s')->wpAny (model X.prog X.w) A' (ksk_end D0 b its.toArray e1 (.ref kS) (List.toArray us)) P E s
theorem Ym {ds ks out:List D} (hl:ks.length=ds.length) (h64:ds.length < 64) (hI:ks.all Ae6=true) (hn:Au ks=true) (hd:Dj ks<=20) (hu:A'.units+50 < cLine) (ho:Jp b ds ks=some out):Ak3 X pins σ μ b ds ks out A':=by
 intro kS D0 e e1 us its xs kvs H1 s P E I hk hD hx hy hne ri rs rk rks fin
 have l1:=ri.length
 have l2:=rs.length
 have l3:=rk.length
 have l4:=rks.length
 have lu:us.length=its.length:=by lia
 have told:∀ t:Sem PySem.Fin,wpAny (model X.prog X.w) A' t P E s->wpAny (model X.prog X.w) A' (if b=true then (do let _ <- rule "list.sort.reverse";t) else t) P E s:=fun t ht=>by
  split
  ·exact Atu (wpAny_rule ht)
  ·exact ht
 unfold ksk_end
 try dsimp only
 refine told _ ?_
 unfold Jp at ho
 by_cases h2:its.toArray.size < 2
 ·rw[At4 h2,At4 h2]
  rw[At2] at h2
  rw[At4 (by lia)] at ho
  cases ho
  refine Atu (Atv ?_)
  rw[StateT.run_pure]
  refine Atu (Atv ?_)
  try dsimp only
  rw[W.kat_pairs b lu]
  refine Ld (outv:=katRev b its) (b:=b) ?_ (by rw[W.kat_len];lia) (by lia) rfl I hk hD hx hy hne fun s' c I'=>fin s' c xs its ?_ ri rs
  ·show (((List.toArray (katRev b us)).zip (List.toArray (katRev b its))).map (·.2))=_
   apply Array.toList_inj.mp
   rw[Array.toList_map,ksk_zip]
   exact List.map_snd_zip (by rw[W.kat_len,W.kat_len];lia)
  ·have e2:katRev b (katRev b its)=its:=by cases b<;>simp[katRev]
   rw[e2] at I'
   exact I'
 ·rw[At8 h2,At8 h2]
  rw[At2] at h2
  rw[At8 (by lia)] at ho
  obtain⟨p,hp,ho⟩:=bind_some ho
  cases ho
  obtain⟨fs,ht,hfl,hfi⟩:=Od I rks rk hI
  refine Atu (W.kat_kind (T:=.type "int") ht (by lia) (fun v hv=>?_) (by decide) ?_)
  ·obtain⟨i,t,rfl⟩:=hfi v hv
   exact Zb i t
  rw[W.kat_pairs b lu]
  have lr:(katRev b us).length=(katRev b its).length:=by rw[W.kat_len,W.kat_len,lu]
  have hw:(kas_sort (katRev b its).length).kasWp (W.kas_ask X.prog X.w A' (tuples' true) (katRev b us)) (fun p' s'=>p'=p/\s'=s) s:=by
   rw[W.kat_len,show its.length=ds.length by lia]
   exact Aez (fun i j c C h q=>Abz I rk rks hI hn hd hu b i j c C h q) _ hp ⟨rfl,rfl⟩
  refine Atu (Au0 (W.kat_run (Q:=fun st' s'=>s'=s/\p.size=(katRev b its).length/\arrOf st'=p.map (W.kas_item ((List.toArray (katRev b us)).zip (List.toArray (katRev b its))))/\failedOf st'=none) lr (by rw[W.kat_len];lia) (by rw[W.kat_len];lia)
   (fun p' st' s' a1 a2 a3 ⟨a4,a5⟩=>by subst a4;exact⟨a5,a1,a2,a3⟩) hw) ?_ fun _ _ z=>z)
  rintro ⟨⟨⟩,st'⟩ s' ⟨hs,hpz,har,hf⟩
  replace hs:s'=s:=hs
  subst hs
  try dsimp only
  refine Ld (b:=b) (W.kat_snds lr har) (by rw[Aud,Aul,hpz,W.kat_len];lia) (by lia) hf I hk hD hx hy hne fun s' c I'=>fin s' c (katRev b (p.toList.map fun i=>(katRev b xs).getD i .non)) _ I' ?_ ?_
  ·exact Vals.turn (Vals.mapN (Vals.turn ri b) _) b
  ·exact Reps.turn (Reps.mapN (Reps.turn rs b) _) b
theorem Vp {ds ks out:List D} (F:FnOk X.prog X.w X.K X.mg X.base CX0 k f fd ps (spP X.K 1 fn)) (hr:Room k A') (hA:∀ s H,Env0 X.prog X.w X.K X.mg X.base X.A X.stack s H->Env0 X.prog X.w X.K X.mg X.base A' X.stack s H) (hb:Binds X.K fd ps []) (I:Inv X ((D0,seqObj "list" its.toArray n)::pins) σ H s) (S:Sim X.K H μ m) (hD:X.s₀.heap.objs.size<=D0) (hy:∀ p∈X.pn++pins,p.1≠D0) (ri:Vals xs its) (rs:Reps X.K H μ (·∈μ) ds xs) (hK:Gs fn m ds=some ks) (h64:ds.length < 128) (hE:Ak3 X pins σ μ b ds ks out A') (fin:∀ s' H1 c ys ws,Same H H1->Inv X ((D0,seqObj "list" (List.toArray ws) c)::pins) σ H1 s'->Vals ys ws->Reps X.K H1 μ (·∈μ) out ys->P (.done (.ret .none)) s'):wpAny (model X.prog X.w) A' (ksk_tree D0 (.ref f) b) P E s:=by
 have l1:=ri.length
 have l2:=rs.length
 have hline:sizeLine=16777216:=Au9
 have pd:=I.pin (D0,seqObj "list" its.toArray n) (Aty _ (At0 ..))
 have hd0:s.heap.get? D0=some (seqObj "list" its.toArray n):=pd.1
 have hdl:D0 < s.heap.objs.size:=At1 hd0
 obtain⟨e1,ho1⟩:∃ e1,(s.heap.update D0 (Obj.mapSeq fun _=>(#[]:Array Value))).get? D0=some (seqObj "list" #[] e1):=⟨_,get?_update_seq hd0 fun _=>#[]⟩
 have Ia:=Inv.setPin (pre:=[]) I hD hy (fun c o hc q=>(Aum _ _ (Avn hc)).trans q) ho1 (fun v z=>by cases z)
 have hs2:s.heap.objs.size<=((s.heap.update D0 (Obj.mapSeq fun _=>(#[]:Array Value))).push (seqObj "tuple" its.toArray 0)).objs.size:=by rw[size_push',Heap.size_update];exact Av0 _
 generalize hkS:((s.heap.update D0 (Obj.mapSeq fun _=>(#[]:Array Value))).push (seqObj "tuple" its.toArray 0)).objs.size=kS at hs2
 have Ib:=Ia.kept (t':=s.toks) (h':=((s.heap.update D0 (Obj.mapSeq fun _=>(#[]:Array Value))).push (seqObj "tuple" its.toArray 0)).push (seqObj "list" #[] 0)) fun c o q=>Atw _ (Atw _ q)
 have hx:∀ p∈X.pn++pins,p.1≠kS:=fun p hp=>Aub (At6 (At1 (I.pin p ((List.mem_append.mp hp).elim (fun z=>Auq _ z) fun z=>Aty _ (Atz _ z))).1) hs2)
 have hne:D0≠kS:=Aub (At6 hdl hs2)
 have hk:X.s₀.heap.objs.size<=kS:=Aug I.sz hs2
 have hgk:(((s.heap.update D0 (Obj.mapSeq fun _=>(#[]:Array Value))).push (seqObj "tuple" its.toArray 0)).push (seqObj "list" #[] 0)).get? kS=some (seqObj "list" #[] 0):=by rw[<- hkS];exact At9 _ rfl
 have Ic:Inv X ((kS,seqObj "list" (List.toArray []) 0)::(D0,seqObj "list" #[] e1)::pins) σ H { s with heap:=((s.heap.update D0 (Obj.mapSeq fun _=>(#[]:Array Value))).push (seqObj "tuple" its.toArray 0)).push (seqObj "list" #[] 0) }:=Ib.pins_of fun p hp=>by
  rcases List.mem_cons.mp hp with rfl|hp
  ·exact⟨hgk,I.hok.fresh hs2,Avp (At6 I.lt hs2),I.nofs hs2,fun v z=>by cases z⟩
  ·exact Ib.pin p (Aty _ hp)
 unfold ksk_tree
 refine Atu (listItems_at hd0 rfl (Atu (listUpdate_at hd0 rfl (Atu (seqEpoch_at ho1 rfl (Atu (wpAny_newTuple (Atu (wpAny_newList (Au4 ?_) (Auw _))) (by show its.length<=_;lia))))) (by rw[At2];lia) (Auw _))))
 show wpAny (model X.prog X.w) A' (ksk_rest D0 (.ref f) b its.toArray e1 (.ref ((s.heap.update D0 (Obj.mapSeq fun _=>(#[]:Array Value))).push (seqObj "tuple" its.toArray 0)).objs.size)) P E { s with heap:=((s.heap.update D0 (Obj.mapSeq fun _=>(#[]:Array Value))).push (seqObj "tuple" its.toArray 0)).push (seqObj "list" #[] 0) }
 rw[hkS]
 unfold ksk_rest
 refine Atu (wpAny_rule ?_)
 first
  |rw[List.forIn_toArray]
  |rw[<- Array.forIn_toList]
 refine Atu (Au0 (T3 (dn:=[]) F hr hA hb S hk hx hne (fun x s R hq=>?_) ds rs ri hK (by simpa using h64) ⟨H,0,[],[],Same.refl H,Ic,.nil,.nil⟩) (fun _ s' hq=>?_) fun _ _ z=>z)
 ·refine Atu (Awh (Au0 hq (fun kv s1 hkv=>?_) fun _ _ hF=>hF.elim))
  obtain⟨us,e,hu,hl,hR⟩:=hkv
  try dsimp only
  exact Atu (listUpdate_at hu rfl (Atv hR) (by rw[At2];lia) (by rw[Array.size_push,At2];lia))
 ·obtain⟨H1,e,kvs,us,s1,I3,rk,rks⟩:=hq
  rw[Awe] at rks
  have pk:=I3.pin (kS,seqObj "list" (List.toArray us) e) (Aty _ (At0 ..))
  try dsimp only
  refine Atu (listItems_at pk.1 rfl ?_)
  exact hE I3 hk hD hx hy hne ri (rs.same s1) rk rks fun s' c ys ws I' r1 r2=>fin s' H1 c ys ws s1 I' r1 r2
theorem Jv {l:Addr}{ds ks out:List D} (F:FnOk X.prog X.w X.K X.mg X.base CX0 k f fd ps (spP X.K 1 fn)) (hr:Room (k+2) X.A) (hb:Binds X.K fd ps []) (I:Inv X pins σ H s) (S:Sim X.K H μ m) (hL:s.heap.IsList l its.toArray) (ri:Vals xs its) (rs:Reps X.K H μ (·∈μ) ds xs) (ha1:argsOk "sorted" ⟨[.ref l],kw⟩) (ha2:∀ x,argsOk "list.sort" ⟨[.ref x],kw⟩) (ht:∀ x,Builtin.«list.sort» ⟨[.ref x],kw⟩=ksk_tree x (.ref f) b) (hK:Gs fn m ds=some ks) (h64:ds.length < 64) (hI:ks.all Ae6=true) (hn:Au ks=true) (hd:Dj ks<=20) (ho:Jp b ds ks=some out) (hz0:out.length < 64) (q:∀ a ys H',Same H H'->H a=none->H' a=some (.lst ys)->Reps X.K H' μ (nw μ a) out ys->Q (.ref a) H'):wpAny (model X.prog X.w) X.A (call (.builtin "sorted") [.ref l] kw) (EP X pins σ Q) X.xe s:=by
 have l1:=ri.length
 have l2:=rs.length
 have hline:sizeLine=16777216:=Au9
 refine call_function_entry_kw kind_sorted plain_sorted entry_sorted ha1 ?_
 unfold Builtin.«sorted»
 refine Atu (m:=checkCount "sorted" 1 1 _) (Atv (Atu (collect_list hL (Atu (wpAny_newList ?_ (by lia))) (by lia))))
 have hz:s.heap.objs.size<=((s.heap.push (seqObj "list" #[] 0)).update s.heap.objs.size (Obj.mapSeq (·++its.toArray))).objs.size:=by rw[Heap.size_update,size_push'];exact Av0 _
 have kp:∀ c o,s.heap.get? c=some o->(((s.heap.push (seqObj "list" #[] 0)).update s.heap.objs.size (Obj.mapSeq (·++its.toArray))).push (seqObj "list" its.toArray 0)).get? c=some o:=fun c o h =>
  Atw _ ((Aum _ _ (Avp (At1 h))).trans (Atw _ h))
 generalize hD0:((s.heap.push (seqObj "list" #[] 0)).update s.heap.objs.size (Obj.mapSeq (·++its.toArray))).objs.size=D0 at hz
 have hg:(((s.heap.push (seqObj "list" #[] 0)).update s.heap.objs.size (Obj.mapSeq (·++its.toArray))).push (seqObj "list" its.toArray 0)).get? D0=some (seqObj "list" its.toArray 0):=by rw[<- hD0];exact At9 _ rfl
 have I1:=I.kept (t':=s.toks) kp
 have hfree:H D0=none:=I.hok.fresh hz
 have hy:∀ p∈X.pn++pins,p.1≠D0:=fun p hp=>Aub (At6 (At1 (I.pin p hp).1) hz)
 have hD:X.s₀.heap.objs.size<=D0:=Aug I.sz hz
 have I2:Inv X ((D0,seqObj "list" its.toArray 0)::pins) σ H { s with heap:=((s.heap.push (seqObj "list" #[] 0)).update s.heap.objs.size (Obj.mapSeq (·++its.toArray))).push (seqObj "list" its.toArray 0) }:=I1.pins_of fun p hp=>by
  rcases List.mem_cons.mp hp with rfl|hp
  ·exact⟨hg,hfree,Avp (At6 I.lt hz),I.nofs hz,fun v z=>by cases z⟩
  ·exact I1.pin p (Aty _ hp)
 show wpAny (model X.prog X.w) X.A.in1 _ _ _ { s with heap:=((s.heap.push (seqObj "list" #[] 0)).update s.heap.objs.size (Obj.mapSeq (·++its.toArray))).push (seqObj "list" its.toArray 0) }
 refine Atu (Au4 (wpAny_call_entry_kw slot_list_sort ⟨_,hg,rfl⟩ entry_list_sort ?_ (ha2 _)))
 have ht':=ht D0
 show wpAny (model X.prog X.w) X.A.in1.in1 (Builtin.«list.sort» ⟨[.ref D0],kw⟩) _ _ _
 rw[ht']
 refine Vp (s:={ s with heap:=((s.heap.push (seqObj "list" #[] 0)).update s.heap.objs.size (Obj.mapSeq (·++its.toArray))).push (seqObj "list" its.toArray 0) }) F hr.in1.in1 (fun s H e=>e.in1.in1) hb I2 S hD hy ri rs hK (by lia) (Ym (Oc hK) h64 hI hn hd (by have:=hr.in1.in1.units;lia) ho) fun s' H1 c ys ws s1 I' r1 r2=>?_
 have hf1:H1 D0=none:=(I'.pin (D0,seqObj "list" (List.toArray ws) c) (Aty _ (At0 ..))).2.1
 have lo:ys.length<=sizeLine:=by have:=r2.length;lia
 exact⟨_,rfl,Atv ⟨_,rfl,.ref D0,upd H1 D0 (.lst ys),Inv.adopt I' hD hy r1 lo,rfl,q D0 ys _ (s1.trans (A9 hf1)) hfree Ba (r2.fresh hf1)⟩⟩
end
section
variable {X:Cx}{e:Expr}{pos p p' kp kp' cp:Pos}{x:Str}{k:Nat}{f:Addr}{fd:FuncData}{ps:List Str}{fn:List D->Option D}{b:Bool}
def Da (fn:List D->Option D) (b:Bool):List D->MH->Option (List D):=fun xs m=>match xs with
 |[d]=>(sqL m d).bind fun ds=>(Gs fn m ds).bind fun ks=>(Jp b ds ks).bind fun out=>if ds.length < 64/\ks.all Ae6=true/\Au ks=true/\Dj ks<=20/\out.length < 64 then some out else none
 |_=>none
theorem Adb {j} (F:FnOk X.prog X.w X.K X.mg X.base CX0 k f fd ps (spP X.K 1 fn)) (hr:Room (k+2) X.A) (hgf:Gl X x) (hmf:X.mg x=some (.ref f)) (hb:Binds X.K fd ps []) (hdb:(x == ("__debug__":Str))=false) (hg:Gl X "sorted") (hm:X.mg "sorted"=none) (ha:PL X [e] g) (he:starEach [e] X.env=(false,eval e X.env)::starEach [] X.env) :
  PF X (.Call (.Name "sorted" p) [e] [⟨some "key",.Name x p',kp⟩,⟨some "reverse",.Constant (.bool b) j cp,kp'⟩] pos) (Bn (Da fn b) g):=by
 intro pins s σ H Q I h
 obtain⟨env,μ,m,d,S,E,h,q⟩:=h
 obtain⟨xs,h1,h2⟩:=bind_some h
 refine Aux (D2 I hg hm boot_sorted ?_ (by decide) (by decide))
 refine PyProof.Rows.callWith_kw (thn (ha pos pins s σ H (fun vs H1=>Same H H1/\Reps X.K H1 μ (·∈μ) xs vs) I ⟨env,μ,m,xs,S,E,h1,fun v H1 s1 r1=>⟨s1,r1⟩⟩) fun us s1 ⟨vs,H1,I1,r1,s1',rx⟩=>?_) (by rw[he];rfl) (by rw[he];rfl) rfl rfl
 refine kws_cons (Ep I1 hgf hmf (kws_cons (wpAny_Constant_bool (kws_nil ?_))) hdb)
 match xs,h2 with
 |[d'],h2 =>
  obtain⟨ds,h3,h2⟩:=bind_some h2
  obtain⟨ks,h4,h2⟩:=bind_some h2
  obtain⟨out,h5,h2⟩:=bind_some h2
  split at h2
  ·rename_i hc
   cases h2
   obtain⟨v,rfl,r⟩:=rx.one
   obtain⟨a,ys,rfl,hq,rs⟩:=Jc (S.same s1') r h3
   obtain⟨u,rfl,r2⟩:=Jh r1
   cases r2
   obtain⟨its,ri,pl,hz⟩:=I1.list hq
   exact Jv F hr hb I1 (S.same s1') pl.isList ri rs (ksk_s2 _ _ _) (fun y=>ksk_l2 _ _ _) (fun y=>ksk_t2 _ _ _) h4 hc.1 hc.2.1 hc.2.2.1 hc.2.2.2.1 h5 hc.2.2.2.2 fun a ys H' s2 hn hx rr=>q a ys H' (s1'.trans s2) (s1'.free hn) hx rr
  ·exact Ah h2
theorem Al0 {j} (F:FnOk X.prog X.w X.K X.mg X.base CX0 k f fd ps (spP X.K 1 fn)) (hr:Room (k+2) X.A) (hmf:X.mg x=some (.ref f)) (hb:Binds X.K fd ps []) (hm:X.mg "sorted"=none) (ha:QL X [e] g) (hg:Gl X "sorted":=by unfold Gl;kernel_rfl) (hgf:Gl X x:=by unfold Gl;kernel_rfl) (hdb:(x == ("__debug__":Str))=false:=by decide) (he':Bh e=true:=by rfl) :
  QF X (.Call (.Name "sorted" p) [e] [⟨some "key",.Name x p',kp⟩,⟨some "reverse",.Constant (.bool b) j cp,kp'⟩] pos) (Bn (Da fn b) g):=⟨Adb F hr hgf hmf hb hdb hg hm ha.out (An he')⟩
end
end ML
end L2
end S_ML20
section S_ML21
namespace L2
namespace ML
open PySem PySem.Spec PyProof.Rows
open PySem.Builtin PySem.Builtin.Str
section
variable {X:Cx}{a e:Expr}{apos cpos:Pos}
end
end ML
end L2
end S_ML21
section S_ML22
namespace L2
namespace ML
open PySem PySem.Spec PyProof.Rows
section
variable {X:Cx}{a e:Expr}{apos cpos:Pos}
end
section
variable {X:Cx}{e:Expr}{pos p p' kp p2 p3 p4:Pos}{x:Str}{k:Nat}{f:Addr}{fd:FuncData}{ps:List Str}{fn:List D->Option D}
theorem Aah (F:FnOk X.prog X.w X.K X.mg X.base CX0 k f fd ps (spP X.K 1 fn)) (hr:Room (k+2) X.A) (hgf:Gl X x) (hmf:X.mg x=some (.ref f)) (hb:Binds X.K fd ps []) (hdb:(x == ("__debug__":Str))=false) (hg:Gl X "sorted") (hm:X.mg "sorted"=none) (ha:PL X [e] g) (he:starEach [e] X.env=(false,eval e X.env)::starEach [] X.env) :
  PF X (.Call (.Name "sorted" p) [e] [⟨some "key",.Name x p',kp⟩] pos) (Bn (Da fn false) g):=by
 intro pins s σ H Q I h
 obtain⟨env,μ,m,d,S,E,h,q⟩:=h
 obtain⟨xs,h1,h2⟩:=bind_some h
 refine Aux (D2 I hg hm boot_sorted ?_ (by decide) (by decide))
 refine PyProof.Rows.callWith_kw (thn (ha pos pins s σ H (fun vs H1=>Same H H1/\Reps X.K H1 μ (·∈μ) xs vs) I ⟨env,μ,m,xs,S,E,h1,fun v H1 s1 r1=>⟨s1,r1⟩⟩) fun us s1 ⟨vs,H1,I1,r1,s1',rx⟩=>?_) (by rw[he];rfl) (by rw[he];rfl) rfl rfl
 refine kws_cons (Ep I1 hgf hmf (kws_nil ?_) hdb)
 match xs,h2 with
 |[d'],h2 =>
  obtain⟨ds,h3,h2⟩:=bind_some h2
  obtain⟨ks,h4,h2⟩:=bind_some h2
  obtain⟨out,h5,h2⟩:=bind_some h2
  split at h2
  ·rename_i hc
   cases h2
   obtain⟨v,rfl,r⟩:=rx.one
   obtain⟨a,ys,rfl,hq,rs⟩:=Jc (S.same s1') r h3
   obtain⟨u,rfl,r2⟩:=Jh r1
   cases r2
   obtain⟨its,ri,pl,hz⟩:=I1.list hq
   exact Jv F hr hb I1 (S.same s1') pl.isList ri rs (ksk_s1 _ _) (fun y=>ksk_l1 _ _) (fun y=>ksk_t1 _ _) h4 hc.1 hc.2.1 hc.2.2.1 hc.2.2.2.1 h5 hc.2.2.2.2 fun a ys H' s2 hn hx rr=>q a ys H' (s1'.trans s2) (s1'.free hn) hx rr
  ·exact Ah h2
theorem Ahr (F:FnOk X.prog X.w X.K X.mg X.base CX0 k f fd ps (spP X.K 1 fn)) (hr:Room (k+2) X.A) (hmf:X.mg x=some (.ref f)) (hb:Binds X.K fd ps []) (hm:X.mg "sorted"=none) (ha:QL X [e] g) (hg:Gl X "sorted":=by unfold Gl;kernel_rfl) (hgf:Gl X x:=by unfold Gl;kernel_rfl) (hdb:(x == ("__debug__":Str))=false:=by decide) (he':Bh e=true:=by rfl) :
  QF X (.Call (.Name "sorted" p) [e] [⟨some "key",.Name x p',kp⟩] pos) (Bn (Da fn false) g):=⟨Aah F hr hgf hmf hb hdb hg hm ha.out (An he')⟩
end
section
variable {X:Cx}{pins:List (Addr×Obj)}{σ:St}{H:Hp}{s:Shared}{pos:Pos}
end
section
variable {X:Cx}{e:Expr}{es:List Expr}{pos p:Pos}{x:Str}
open Classical in
end
section
variable {X:Cx}{e:Expr}{es:List Expr}{pos p:Pos}{x:Str}
def Jr (m:MH):D->Option D
 |.fn i l=>some (.fn i l)
 |.dks ks vs=>if Au vs=true then some (.dks ks vs) else none
 |.fz φ ss ps is=>some (.fz φ ss ps is)
 |d=>Ci m d
def Cj (m:MH):List D->Option (List D)
 |[]=>some []
 |d::ds=>(Jr m d).bind fun d'=>(Cj m ds).bind fun ds'=>some (d'::ds')
theorem Abg {K:W.Frag}{H:Hp}{μ:List Addr}{m:MH} (S:Sim K H μ m) {d d':D}{v:V} (r:Rep K H μ (·∈μ) d v) (h:Jr m d=some d'):Rep K H [] (fun _=>False) d' v:=by
 cases r with
 |fn hf=>cases h;exact .fn hf
 |fz h1 h2 h3=>cases h;exact .fz h1 h2 h3
 |dks h1 h2 h3 h4 =>
  unfold Jr at h
  simp only at h
  split at h
  ·rename_i hn
   cases h
   exact .dks h1 (fun z=>z) h3 (h4.noref (fun _ _ _ _ z=>z) hn)
  ·exact Ah h
 |non=>exact (A5 S .non h).1
 |bl b=>exact (A5 S (.bl b) h).1
 |int b=>exact (A5 S (.int b) h).1
 |str b ok=>exact (A5 S (.str b ok) h).1
 |tup h1 h2=>exact (A5 S (.tup h1 h2) h).1
 |lst h1 h2 h3=>exact (A5 S (.lst h1 h2 h3) h).1
 |kl h1 h2=>exact (A5 S (.kl h1 h2) h).1
 |dic h1 h2 h3 h4=>exact (A5 S (.dic h1 h2 h3 h4) h).1
 |ref h1=>exact (A5 S (.ref h1) h).1
theorem D7 {K:W.Frag}{H:Hp}{μ:List Addr}{m:MH} (S:Sim K H μ m):∀ {ds ds':List D}{vs:List V},Reps K H μ (·∈μ) ds vs->Cj m ds=some ds'->Reps K H [] (fun _=>False) ds' vs
 |_,_,_,.nil,h=>by cases h;exact .nil
 |_,_,_,.cons r rs,h=>by
  unfold Cj at h
  obtain⟨d',h1,h⟩:=bind_some h
  obtain⟨ds',h2,h⟩:=bind_some h
  cases h
  exact .cons (Abg S r h1) (D7 S rs h2)
def Ju (n:Nat) (fn:List D->Option D):List D->MH->Option D:=fun ds m=>(Cj m ds).bind fun ds'=>if ds'.length=n then fn ds' else none
variable {ex:Expr}{n:Nat}{fn:List D->Option D}{g:FL}{E:XK}
theorem Rp (hp:PE X ex (Aox (spP X.K n fn) [] E (tL X.K g))):PD X ex (Ao (Ju n fn) g):=PE.imp hp fun σ H Q ⟨env,μ,m,d,S,E,h,q⟩=>by
 obtain⟨ds,h1,h⟩:=bind_some h
 obtain⟨ds',h2,h⟩:=bind_some h
 split at h
 ·rename_i hl
  exact⟨env,μ,m,ds,S,E,h1,fun vs H1 s1 rs=>⟨ds',d,by rw[Aue];exact D7 (S.same s1) rs h2,hl,h,fun v H' s' r=>q v H' (s1.trans s') (Rep.ofCall (S.same s1) r)⟩⟩
 ·exact Ah h
end
section
variable {prog:Program}{w:World}{A:Around}{E:Value->Shared->Prop}{s:Shared}
end
section
variable {X:Cx}{pins:List (Addr×Obj)}{σ:St}{H:Hp}{s:Shared}{μ:List Addr}{m:MH}{k:Nat}{f:Addr}{fd:FuncData}{ps:List Str}{fn:List D->Option D}{b:Bool}
end
section
variable {X:Cx}{e:Expr}{pos p p' kp kp' cp:Pos}{x:Str}{k:Nat}{f:Addr}{fd:FuncData}{ps:List Str}{fn:List D->Option D}{b:Bool}
end
section
variable {X:Cx}{pins:List (Addr×Obj)}{σ:St}{H:Hp}{s:Shared}{h':Heap}
end
section
variable {X:Cx}{e:Expr}{es:List Expr}{pos p tp:Pos}{x1:Nat}{elts:List Expr}
end
section
variable {X:Cx}{a b c e:Expr}{es:List Expr}{pos p p':Pos}{x:Str}
theorem Adt {fd:FuncData} (F:FnOk X.prog X.w X.K X.mg X.base CX0 k f fd ps (spP X.K n fn)) (hr:Room k X.A) (hm:X.mg x=some (.ref f)) (hk:W.keepIn X.K (.ref f)=true) (hb:Binds X.K fd ps []) (ha:QL X (e::es) g) (hg:Gl X x:=by unfold Gl;kernel_rfl) (hdb:(x == ("__debug__":Str))=false:=by decide) (he':Bh e=true:=by rfl) (hpl':es.all Bh=true:=by rfl) :
  QD X (.Call (.Name x p) (e::es) [] pos) (Ao (Ju n fn) g):=⟨Rp (Iu F hr hg hm hk hb .nil Aaa ha.out hdb (An he') (Cg hpl'))⟩
end
theorem Ahk (i j:Nat) (hij:i≠j):∀ d d' env e1,He 2 (B9 (As i) (B9 (As j) Pd)) d env=some e1->He 2 (B9 (As i) (B9 (As j) Pd)) d' e1=He 2 (B9 (As i) (B9 (As j) Pd)) d' env:=fun d d' env e1 h=>by
 have he:∃ a b,e1=(env.set i (some a)).set j (some b):=by
  cases d with
  |tup ds =>
   match ds,h with
   |[a,b],h =>
    have h:some ((env.set i (some a)).set j (some b))=some e1:=h
    cases h
    exact⟨a,b,rfl⟩
   |[],h=>exact absurd h (by simp[He])
   |[_],h=>exact absurd h (by simp[He])
   |_::_::_::_,h=>exact absurd h (by simp[He])
  |_=>exact absurd h (by simp[He])
 obtain⟨a,b,rfl⟩:=he
 cases d' with
 |tup ds =>
  match ds with
  |[a',b'] =>
   show some ((((env.set i (some a)).set j (some b)).set i (some a')).set j (some b'))=some ((env.set i (some a')).set j (some b'))
   rw[List.set_comm _ _ hij.symm,List.set_set,List.set_comm _ _ hij,List.set_comm _ _ hij,List.set_set]
   exact Avz some (List.set_comm _ _ hij.symm)
  |[]=>rfl
  |[_]=>rfl
  |_::_::_::_=>simp[He]
 |_=>rfl
noncomputable def Aka:FS:=fun _ _=>none
section
variable {X:Cx}{st:Stmt}{sts:List Stmt}
theorem Adm:PSD X st Aka:=fun pins s σ H D I ⟨env,μ,m,o,S,E,h,f⟩=>by exact Ah h
theorem Aj5:QS X st Aka:=⟨Adm⟩
end
section
variable {X:Cx}{o' a:Expr}{apos cpos:Pos}{T:String}{id:String}
end
section
variable {X:Cx}{pins:List (Addr×Obj)}{σ:St}{H:Hp}{s:Shared}{h':Heap}
end
section
variable {X:Cx}{e e2:Expr}{es:List Expr}{pos p tp:Pos}{x1:Nat}{elts:List Expr}
end
section
variable {X:Cx}{e ex:Expr}{es:List Expr}{pos p:Pos}{x:Str}{n:Nat}{fn:List D->Option D}{g:FL}{E:XK}
end
section
variable {X:Cx}{tg elt iter:Expr}{ifs:List Expr}{scope:Scope}{fw:FW}{g:FG}{t:FB}{fe:FE}{x:Str}{pos p' spos:Pos}
end
section
variable {X:Cx}{e:Expr}{es:List Expr}{pos p:Pos}{x:Str}
open Classical in
end
structure FD (K:W.Frag) (mg:Str->Option Value) (x:Str) (st:Stmt) (ps:List Str):Prop where
 ex:∃ a fd,mg x=some (.ref a)/\Fun K x x st a fd/\Binds K fd ps []
structure Cl (P:Program) (w:World) (K:W.Frag) (mg:Str->Option Value) (base:Heap) (k:Nat) (x:Str) (n:Nat) (fn:List D->Option D):Prop where
 ex:∃ a fd ps,FnOk P w K mg base CX0 k a fd ps (spP K n fn)/\mg x=some (.ref a)/\W.keepIn K (.ref a)=true/\Binds K fd ps []
abbrev BH (x:Str) (st:Stmt) (ps:List Str):Prop:=∀ (kV doc pm:Value) (an:Option Addr) (cdv ct:Value) (us:List Value),us.length=ps.length->bindArgs (W.fnOf x x (El st) (Cm st) (Ar st) .none kV doc pm an cdv ct) ⟨us,[]⟩=pure (ps.zip us)
theorem of1 {P:List Value->Prop} (h:∀ a,P [a]):∀ us:List Value,us.length=1->P us:=by
 intro us e
 cases us with
 |nil=>cases e
 |cons a us =>
  cases us with
  |nil=>exact h a
  |cons _ _=>cases e
theorem of2 {P:List Value->Prop} (h:∀ a b,P [a,b]):∀ us:List Value,us.length=2->P us:=by
 intro us e
 cases us with
 |nil=>cases e
 |cons a us=>exact of1 (P:=fun us=>P (a::us)) (h a) us (Nat.succ.inj e)
theorem of3 {P:List Value->Prop} (h:∀ a b c,P [a,b,c]):∀ us:List Value,us.length=3->P us:=by
 intro us e
 cases us with
 |nil=>cases e
 |cons a us=>exact of2 (P:=fun us=>P (a::us)) (h a) us (Nat.succ.inj e)
structure FM (K:W.Frag) (x:Str) (st:Stmt):Prop where
 ex:∃ a fd,W.nsIn K mainGlobals x=some (some (.ref a))/\Fun K x x st a fd
theorem fm_mk {K:W.Frag}{x:Str}{st:Stmt}{f:Addr}{oc:Value}{od an:Option Addr}{osl:Array (Option Value)}{kV doc pm cdv ct:Value} (n:W.nsIn K mainGlobals x=some (some (.ref f))) (l:K.lookup f=some ⟨oc,od,.func (W.fnOf x x (El st) (Cm st) (Ar st) .none kV doc pm an cdv ct),osl⟩)
  (c:W.codeIn K cdv x=true) (k:W.keepIn K (.ref f)=true):FM K x st:=⟨f,_,n,Ae3 l c k⟩
theorem FM.fd {K:W.Frag}{h:Heap}{mg:Str->Option Value}{x:Str}{st:Stmt}{ps:List Str} (F:FM K x st) (X:K.In h) (G:h.Ns mainGlobals mg)
  (hb:BH x st ps):FD K mg x st ps:=by
 obtain⟨a,fd,n,F⟩:=F.ex
 exact⟨a,fd,W.mg_of X G n,F,F.binds hb⟩
theorem FM.fd1 {K:W.Frag}{h:Heap}{mg:Str->Option Value}{x a:Str}{st:Stmt} (F:FM K x st) (X:K.In h) (G:h.Ns mainGlobals mg) (hb:BH x st [a]:=by exact fun _ _ _ _ _ _=>of1 fun _=>rfl):FD K mg x st [a]:=F.fd X G hb
theorem FM.fd2 {K:W.Frag}{h:Heap}{mg:Str->Option Value}{x a b:Str}{st:Stmt} (F:FM K x st) (X:K.In h) (G:h.Ns mainGlobals mg) (hb:BH x st [a,b]:=by exact fun _ _ _ _ _ _=>of2 fun _ _=>rfl):FD K mg x st [a,b]:=F.fd X G hb
theorem FM.fd3 {K:W.Frag}{h:Heap}{mg:Str->Option Value}{x a b c:Str}{st:Stmt} (F:FM K x st) (X:K.In h) (G:h.Ns mainGlobals mg) (hb:BH x st [a,b,c]:=by exact fun _ _ _ _ _ _=>of3 fun _ _ _=>rfl):FD K mg x st [a,b,c]:=F.fd X G hb
theorem FM.fd4 {K:W.Frag}{h:Heap}{mg:Str->Option Value}{x a b c d:Str}{st:Stmt} (F:FM K x st) (X:K.In h) (G:h.Ns mainGlobals mg) (hb:BH x st [a,b,c,d]:=by exact fun _ _ _ _ _ _ us hl=>match us,hl with|[_,_,_,_],_=>rfl):FD K mg x st [a,b,c,d]:=F.fd X G hb
theorem FM.fd5 {K:W.Frag}{h:Heap}{mg:Str->Option Value}{x a b c d e:Str}{st:Stmt} (F:FM K x st) (X:K.In h) (G:h.Ns mainGlobals mg) (hb:BH x st [a,b,c,d,e]:=by exact fun _ _ _ _ _ _ us hl=>match us,hl with|[_,_,_,_,_],_=>rfl):FD K mg x st [a,b,c,d,e]:=F.fd X G hb
section
variable {P:Program}{w:World}{K:W.Frag}{mg:Str->Option Value}{base:Heap}{x:Str}{st:Stmt}{ps:List Str}{k n:Nat}{tabs:List (Addr×Str)}{p:Addr}
theorem B2 (N:List Str) (T:FD K mg x st ps) (g:FS) (fn:List D->Option D)
  (hbody:∀ (f:Addr) (cdv:Value) (A:Around) (outer:List Env) (s:Shared) (H:Hp) (E:XK),Room k (A.deeper (envOfC x (Ar st) s.heap.objs.size f cdv))->N.Nodup ->
   QSs (Hc CX0 P w K mg base N x (Ar st) f cdv A outer s H E).nox (Cm st) g) (hfn:fn=Dp N.length g:=by rfl) (hn:ps.length=n:=by rfl) (S:FnScope N ps (Ar st):=by exact⟨rfl,rfl,rfl,by decide +kernel,rfl,by decide +kernel,by decide +kernel⟩):Cl P w K mg base (k+1) x n fn:=by
 obtain⟨a,fd,m,F,b⟩:=T.ex
 exact⟨a,fd,ps,Asv F S g fn hfn hn fun cdv A outer s H E hr=>hbody a cdv A outer s H E hr S.nd,m,F.kp,b⟩
end
section
variable {X:Cx}{e:Expr}{es:List Expr}{pos p p' cp:Pos}{x:Str}{k j n:Nat}{fn:List D->Option D}{g:FL}{tabs:List (Addr×Str)}{kp kp':Pos}{b:Bool}
theorem q_c (F:Cl X.prog X.w X.K X.mg X.base k x n fn) (hr:Room j X.A) (ha:QL X (e::es) g) (hk:k<=j:=by decide) (hg:Gl X x:=by unfold Gl;kernel_rfl) (hdb:(x == ("__debug__":Str))=false:=by decide) (he':Bh e=true:=by rfl) (hpl':es.all Bh=true:=by rfl) :
  QD X (.Call (.Name x p) (e::es) [] pos) (Ao (Bb n fn) g):=by
 obtain⟨a,fd,ps,F,m,kp,b⟩:=F.ex
 exact Ajy F (hr.mono hk) m kp b ha hg hdb he' hpl'
theorem Aav (F:Cl X.prog X.w X.K X.mg X.base k x n fn) (hr:Room j X.A) (ha:QL X (e::es) g) (hk:k<=j:=by decide) (hg:Gl X x:=by unfold Gl;kernel_rfl) (hdb:(x == ("__debug__":Str))=false:=by decide) (he':Bh e=true:=by rfl) (hpl':es.all Bh=true:=by rfl) :
  QF X (.Call (.Name x p) (e::es) [] pos) (Bn (Ec n fn) g):=by
 obtain⟨a,fd,ps,F,m,kp,b⟩:=F.ex
 exact Aj1 F (hr.mono hk) m kp b ha hg hdb he' hpl'
theorem Atg (F:Cl X.prog X.w X.K X.mg X.base k x n fn) (hr:Room j X.A) (ha:QL X (e::es) g) (hk:k<=j:=by decide) (hg:Gl X x:=by unfold Gl;kernel_rfl) (hdb:(x == ("__debug__":Str))=false:=by decide) (he':Bh e=true:=by rfl) (hpl':es.all Bh=true:=by rfl) :
  QD X (.Call (.Name x p) (e::es) [] pos) (Ao (Ju n fn) g):=by
 obtain⟨a,fd,ps,F,m,kp,b⟩:=F.ex
 exact Adt F (hr.mono hk) m kp b ha hg hdb he' hpl'
theorem Ar3 (F:Cl X.prog X.w X.K X.mg X.base k x 1 fn) (hr:Room j X.A) (hm:X.mg "sorted"=none) (ha:QL X [e] g) (hk:k+2<=j:=by decide) (hg:Gl X "sorted":=by unfold Gl;kernel_rfl) (hgf:Gl X x:=by unfold Gl;kernel_rfl) (hdb:(x == ("__debug__":Str))=false:=by decide) (he':Bh e=true:=by rfl) :
  QF X (.Call (.Name "sorted" p) [e] [⟨some "key",.Name x p',kp⟩] pos) (Bn (Da fn false) g):=by
 obtain⟨a,fd,ps,F,m,kp,b⟩:=F.ex
 exact Ahr F (hr.mono hk) m b hm ha hg hgf hdb he'
theorem Ar4 {i} (F:Cl X.prog X.w X.K X.mg X.base k x 1 fn) (hr:Room j X.A) (hm:X.mg "sorted"=none) (ha:QL X [e] g) (hk:k+2<=j:=by decide) (hg:Gl X "sorted":=by unfold Gl;kernel_rfl) (hgf:Gl X x:=by unfold Gl;kernel_rfl) (hdb:(x == ("__debug__":Str))=false:=by decide) (he':Bh e=true:=by rfl) :
  QF X (.Call (.Name "sorted" p) [e] [⟨some "key",.Name x p',kp⟩,⟨some "reverse",.Constant (.bool b) i cp,kp'⟩] pos) (Bn (Da fn b) g):=by
 obtain⟨a,fd,ps,F,m,kp,b⟩:=F.ex
 exact Al0 F (hr.mono hk) m b hm ha hg hgf hdb he'
end
end ML
end L2
end S_ML22
section S_TS1
open Lean in
set_option hygiene false in
local macro_rules|`(tactic| sizeOf_list_dec)=>do
 let n (s:String):TSyntax `ident:=mkIdent (mkPrivateNameCore `PySem.Builtin.List.W1All (Name.str `PySem.Builtin s))
 `(tactic| delta $(n "gallop"))
namespace L2
namespace TS
open PySem PySem.W PySem.Calls PyProof.Rows
section
variable {σ:Type}{M:Model}{A:Around}{E:Value->Shared->Prop}
end
section
variable {prog:Program}{w:World}{A:Around}{E:Value->Shared->Prop}{κ:SortKind}{it:Array Keyed}
variable {N:Nat}{c:Nat->Nat->Bool}{J:Shared->Prop}
end
end TS
end L2
end S_TS1
section S_TS2
namespace L2
namespace TS
open PySem PySem.W PySem.Calls PyProof.Rows
section
variable {prog:Program}{w:World}{A:Around}{E:Value->Shared->Prop}{κ:SortKind}{it:Array Keyed}{N:Nat}{c:Nat->Nat->Bool}{J:Shared->Prop}
variable {X Y O:List Nat}{ia ib:Nat}
end
end TS
end L2
end S_TS2
section S_TS3
open Lean in
set_option hygiene false in
local macro_rules|`(tactic| sizeOf_list_dec)=>do
 let n (s:String):TSyntax `ident:=mkIdent (mkPrivateNameCore `PySem.Builtin.List.W1All (Name.str `PySem.Builtin s))
 `(tactic| delta $(n "mergeLo"))
namespace L2
namespace TS
open PySem PySem.W PySem.Calls PyProof.Rows
section
variable {prog:Program}{w:World}{A:Around}{E:Value->Shared->Prop}{κ:SortKind}{it:Array Keyed}{N:Nat}{c:Nat->Nat->Bool}{J:Shared->Prop}
end
end TS
end L2
end S_TS3
section S_TS4
namespace L2
namespace TS
open PySem PySem.W PySem.Calls PyProof.Rows
section
variable {c:Nat->Nat->Bool}
variable {X Y O:List Nat}{na nb:Nat}
end
end TS
end L2
end S_TS4
section S_TS5
open Lean in
set_option hygiene false in
local macro_rules|`(tactic| sizeOf_list_dec)=>do
 let n (s:String):TSyntax `ident:=mkIdent (mkPrivateNameCore `PySem.Builtin.List.W1All (Name.str `PySem.Builtin s))
 `(tactic| delta $(n "mergeHi"))
namespace L2
namespace TS
open PySem PySem.W PySem.Calls PyProof.Rows
section
variable {prog:Program}{w:World}{A:Around}{E:Value->Shared->Prop}{κ:SortKind}{it:Array Keyed}{N:Nat}{c:Nat->Nat->Bool}{J:Shared->Prop}
end
end TS
end L2
end S_TS5
section S_TS6
open Lean in
set_option hygiene false in
local macro_rules|`(tactic| sizeOf_list_dec)=>do
 let n (s:String):TSyntax `ident:=mkIdent (mkPrivateNameCore `PySem.Builtin.List.W1All (Name.str `PySem.Builtin s))
 `(tactic| delta $(n "mergeAt"))
namespace L2
namespace TS
open PySem PySem.W PySem.Calls PyProof.Rows
section
variable {prog:Program}{w:World}{A:Around}{E:Value->Shared->Prop}{κ:SortKind}{it:Array Keyed}{N:Nat}{c:Nat->Nat->Bool}{J:Shared->Prop}
end
end TS
end L2
end S_TS6
section S_TS7
namespace L2
namespace TS
open PySem PySem.W PySem.Calls PyProof.Rows
section
variable {α:Type}
end
section
variable {prog:Program}{w:World}{A:Around}{E:Value->Shared->Prop}{κ:SortKind}{it:Array Keyed}{N:Nat}{c:Nat->Nat->Bool}{J:Shared->Prop}
end
end TS
end L2
end S_TS7
section S_TS8
namespace L2
namespace TS
open PySem PySem.W PySem.Calls PyProof.Rows
section
variable {prog:Program}{w:World}{A:Around}{E:Value->Shared->Prop}{κ:SortKind}{it:Array Keyed}{n:Nat}{c:Nat->Nat->Bool}{J:Shared->Prop}
end
end TS
end L2
end S_TS8
section S_ML35
namespace L2
namespace ML
open PySem PySem.Spec PyProof.Rows PySem.SeqAt
open PySem.W (KasT kas_sort katRev KatLex)
open Classical in
section
variable {X:Cx}{pins:List (Addr×Obj)}{σ:St}{H H1:Hp}{s:Shared}{μ:List Addr}{m:MH}{k:Nat}{f:Addr}{fd:FuncData}{ps:List Str}{fn:List D->Option D}{A':Around}
end
section
variable {X:Cx}{e:Expr}{pos p p' kp kp' cp:Pos}{x:Str}{k:Nat}{f:Addr}{fd:FuncData}{ps:List Str}{fn:List D->Option D}{b:Bool}
end
section
variable {X:Cx}{e:Expr}{es:List Expr}{pos p p' cp:Pos}{x:Str}{k j n:Nat}{fn:List D->Option D}{g:FL}{tabs:List (Addr×Str)}{kp kp':Pos}{b:Bool}
end
section
variable {X:Cx}{e:Expr}{pos p':Pos}{x:Str}{i:Nat}{f:FE}
end
end ML
end L2
end S_ML35
section S_TX1
namespace L2
namespace TX
open PySem PySem.Spec PyProof.Rows
theorem U2 (t:SetTable) (es:Array (Int×Value)) (h:Int) (x:Value):(layNew t es h x).2.1.led=t.led:=by
 unfold layNew
 split
 ·dsimp only
  unfold SetTable.orStandIn
  split<;>rfl
 ·rfl
theorem Ox {t t':SetTable}{hs:Array Int}{n:Nat}{order:Array Nat} (h:t.relaid hs n=some (t',order)):t'.led=t.led/\t'.plain=t.plain:=by
 unfold SetTable.relaid SetTable.laid at h
 obtain⟨ow,h1,h2⟩:=Option.bind_eq_some_iff.mp h
 cases h2
 exact⟨rfl,rfl⟩
set_option tactic.hygienic true in
theorem Jo (t:SetTable) (es:Array (Int×Value)) (n:Nat):(relayAll t es n).2.1.led=t.led/\(t.plain=false->(relayAll t es n).2.1.plain=false):=by
 unfold relayAll
 split
 ·rename_i t' order h
  obtain⟨h1,h2⟩:=Ox h
  dsimp only
  split
  ·exact⟨h1,fun h=>h2.trans h⟩
  ·exact⟨rfl,fun _=>rfl⟩
 ·exact⟨rfl,fun _=>rfl⟩
noncomputable def txs (es:List (Int×Value)):List Str:=es.map fun e=>strOf e.2
section
variable {prog:Program}{w:World}{A:Around}{E:Value->Shared->Prop}{s:Shared}
def SetT (prog:Program) (w:World) (h:Heap) (a:Addr) (xs:List Str):Prop :=
 ∃ o es ep t,h.get? a=some o/\o.ExactSet/\o.data=.set es ep t/\ElemsOf (PySem.strKind prog w) es.toList/\(txs es.toList).Perm xs/\t.fits es.size=true/\t.led=!w.params.followText "set-order"/\(0 < es.size->t.plain=false)
theorem SetT.at' {h h':Heap}{a:Addr}{xs:List Str} (x:SetT prog w h a xs) (e:∀ o,h.get? a=some o->h'.get? a=some o):SetT prog w h' a xs:=let ⟨o,es,ep,t,ho,r⟩:=x;⟨o,es,ep,t,e _ ho,r⟩
theorem Aiq {es:List (Int×Value)} (h:ElemsOf (PySem.strKind prog w) es) (x:Str):x∈txs es ↔ ∃ e∈es,(PySem.strKind prog w).is x e.2=true:=by
 unfold txs
 rw[List.mem_map]
 constructor
 ·rintro ⟨e,he,rfl⟩
  obtain⟨⟨k,hk,_⟩,_⟩:=h e he
  obtain⟨t,ht⟩:=Value.isStrOf_shape hk
  refine⟨e,he,?_⟩
  rw[ht] at hk ⊢
  exact hk
 ·rintro ⟨e,he,hx⟩
  obtain⟨t,ht⟩:=Value.isStrOf_shape hx
  exact⟨e,he,by rw[ht];rfl⟩
theorem J7 {h:Heap}{a:Addr}{o:Obj}{es:Array (Int×Value)}{ep:Nat}{t:SetTable}{xs:List Str} (ho:h.get? a=some o) (hex:o.ExactSet) (hd:o.data=.set es ep t)
  {es':Array (Int×Value)}{t':SetTable} (hel:ElemsOf (PySem.strKind prog w) es'.toList) (hp:(txs es'.toList).Perm xs) (hf:t'.fits es'.size=true) (hl:t'.led=!w.params.followText "set-order") (hpl:0 < es'.size->t'.plain=false) :
  (h.update a (Obj.putSet es' t')).get? a=some { o with data:=.set es' (ep+1) t' }/\SetT prog w (h.update a (Obj.putSet es' t')) a xs:=by
 have hg:(h.update a (Obj.putSet es' t')).get? a=some { o with data:=.set es' (ep+1) t' }:=by
  have:=Avw (Obj.putSet es' t') ho (by rw[putSet_of es' t' hd];rfl)
  rw[putSet_of es' t' hd] at this;exact this
 exact⟨hg,_,es',ep+1,t',hg,hex,rfl,hel,hp,hf,hl,hpl⟩
theorem X7 {g:Bool->Sem Unit} (hg:∀ (b:Bool) (s₁:Shared) (Q':Unit->Shared->Prop),Q' () s₁->wpAny (model prog w) A (g b) Q' E s₁)
  {a:Addr}{o:Obj}{es:Array (Int×Value)}{ep:Nat}{t:SetTable}{xs:List Str} (ho:s.heap.get? a=some o) (hex:o.ExactSet) (hd:o.data=.set es ep t)
  {es1:Array (Int×Value)}{t2:SetTable} (hel1:ElemsOf (PySem.strKind prog w) es1.toList) (hp1:(txs es1.toList).Perm xs) (hb1:es1.size < scanBound) (hf2:t2.fits es1.size=true) (hl:t2.led=!w.params.followText "set-order") (hpl:t2.plain=false) {wasDummy:Bool}{R:Option Bool->Shared->Prop}
  (h:∀ h',Heap.SameBut a s.heap h'->SetT prog w h' a xs->R (some true) { s with heap:=h' }) :
  wpAny (model prog w) A (do
    storeSet a es1 t2
    if (!wasDummy&&t2.tooFull)=true then do
      g (relayAll t2 es1 (SetTable.grown es1.size)).2.2
      storeSet a (relayAll t2 es1 (SetTable.grown es1.size)).1 (relayAll t2 es1 (SetTable.grown es1.size)).2.1
      pure (some true)
     else pure (some true)) R E s:=by
 refine Atu (wpAny_storeSet_of ho hd ?_ (fits_of_scanBound hb1))
 obtain⟨ho1,hS1⟩:=J7 (prog:=prog) ho hex hd hel1 hp1 hf2 hl (fun _=>hpl)
 have hsb1:=Heap.SameBut.update s.heap a (Obj.putSet es1 t2)
 split
 ·have hp:=relayAll_perm t2 es1 (SetTable.grown es1.size)
  have hfr:=relayAll_fits t2 es1 (SetTable.grown es1.size)
  have hkp:=Jo t2 es1 (SetTable.grown es1.size)
  generalize hRl:relayAll t2 es1 (SetTable.grown es1.size)=Rl at hp hfr hkp ⊢
  obtain⟨es2,t3,gave2⟩:=Rl
  dsimp only at hp hfr hkp ⊢
  have hsz:es2.size=es1.size:=by rw[<- Aul,hp.length_eq,Aul]
  refine Atu (hg _ _ _ ?_)
  refine Atu (wpAny_storeSet_of ho1 rfl ?_ (fits_of_scanBound (by rw[hsz];exact hb1)))
  obtain⟨_,hS2⟩:=J7 (prog:=prog) ho1 hex rfl (hel1.perm hp) ((hp.map _).trans hp1) hfr (hkp.1.trans hl) (fun _=>hkp.2 hpl)
  exact Atv (h _ (hsb1.trans (Heap.SameBut.update _ a _)) hS2)
 ·exact Atv (h _ hsb1 hS1)
theorem Ad0 {a:Addr}{xs:List Str}{x:Str}{tk:Tok}{Q:Bool->Shared->Prop} (hS:SetT prog w s.heap a xs) (hb:xs.length+1 < scanBound)
  (h:∀ h',Heap.SameBut a s.heap h'->SetT prog w h' a (if x∈xs then xs else xs++[x])->Q (!decide (x∈xs)) { s with heap:=h' }) :
  wpAny (model prog w) A (setAddHashed a (.str x tk) (hashStr w x)) Q E s:=by
 obtain⟨o,es,ep,t,ho,hex,hd,hel,hp,hf,hl,hpl⟩:=id hS
 have hsz:es.size=xs.length:=by rw[<- hp.length_eq];simp[txs]
 have hkey:(PySem.strKind prog w).is x (.str x tk)=true:=by simp[PySem.strKind,Value.isStrOf]
 have hsc:(Value.str x tk).scannable=true:=rfl
 have hmem:x∈xs ↔ ∃ e∈es.toList,(PySem.strKind prog w).is x e.2=true:=hp.mem_iff.symm.trans (Aiq hel x)
 show wpAny _ _ (setAddHashed a (.str x tk) ((PySem.strKind prog w).hash x)) _ _ _
 unfold setAddHashed setAddHashedIn
 refine Au4 (Atu (wpAny_setState_of ho hd hf ?_))
 dsimp only
 rw[byScan_of hsc (by lia) hel]
 simp only[↓reduceIte]
 unfold setAddByScan
 refine Atu ?_
 refine Atu (wpAny_rule ?_)
 refine Atu (wpAny_setScan_of hkey ho hd hf hel ?_)
 cases hr:List.findIdx? (fun e=>(PySem.strKind prog w).is x e.2) es.toList with
 |some j =>
  dsimp only
  obtain⟨hj,hpj,_⟩:=List.findIdx?_eq_some_iff_getElem.mp hr
  have hSk:x∈xs:=hmem.mpr ⟨es.toList[j],Auz hj,hpj⟩
  refine Atv (Atv ?_)
  have:=h s.heap (Heap.SameBut.refl a s.heap) (by rw[At4 hSk];exact hS)
  rw[Au7 hSk] at this
  exact this
 |none =>
  dsimp only
  have hSk:x∉xs:=fun hx=>by
   obtain⟨e,he,hp⟩:=hmem.mp hx
   have:=List.findIdx?_eq_none_iff.mp hr e he
   rw[hp] at this
   exact Bool.noConfusion this
  rw[At8 hSk,Auu hSk] at h
  have hgw:∀ (b:Bool) {s₁:Shared}{Q':Unit->Shared->Prop},Q' () s₁->wpAny (model prog w) A (match b with|true=>rule "set.scan.the-table-gave-way"|false=>pure ()) Q' E s₁ :=
   fun b s₁ Q' hq=>by cases b<;>first|exact Atv hq|exact wpAny_rule hq
  have hperm:=layNew_perm t es ((PySem.strKind prog w).hash x) (.str x tk)
  have hfits:=layNew_fits t es ((PySem.strKind prog w).hash x) (.str x tk)
  have hled:=U2 t es ((PySem.strKind prog w).hash x) (.str x tk)
  generalize hL:layNew t es ((PySem.strKind prog w).hash x) (.str x tk)=L at hperm hfits hled ⊢
  obtain⟨es1,t1,wasDummy,gave⟩:=L
  dsimp only at hperm hfits hled ⊢
  rw[Array.toList_push] at hperm
  have hel1:ElemsOf (PySem.strKind prog w) es1.toList:=(hel.push hkey hsc).perm hperm
  have hp1:(txs es1.toList).Perm (xs++[x]):=by
   refine (hperm.map _).trans ?_
   rw[Avg]
   exact hp.append_right _
  have hb1':es1.size < scanBound:=by rw[<- Aul,hperm.length_eq,Aui,Aul];simp only[Avq];lia
  refine Atu (hgw _ ?_)
  split
  ·refine Atu ?_
   rw[hashByValue_scannable 8 hsc]
   refine Atv ?_
   refine X7 ?_ ho hex hd hel1 hp1 hb1' ?_ ?_ ?_ ?_
   ·intro b s₁ Q' hq;cases b<;>first|exact Atv hq|exact wpAny_rule hq
   ·exact SetTable.fits_plain_off hfits
   ·exact hled.trans hl
   ·rfl
   ·intro h' hsb hS';dsimp only;exact Atv (h h' hsb hS')
  ·rename_i hpf
   refine Atu (Atv ?_)
   simp only[↓reduceIte]
   refine X7 ?_ ho hex hd hel1 hp1 hb1' hfits (hled.trans hl) (by simpa using hpf) ?_
   ·intro b s₁ Q' hq;cases b<;>first|exact Atv hq|exact wpAny_rule hq
   ·intro h' hsb hS';dsimp only;exact Atv (h h' hsb hS')
end
end TX
end L2
end S_TX1
section S_TX2
namespace L2
namespace TX
open PySem PySem.Spec PyProof.Rows
noncomputable def Abo (xs:List Str) (x:Str):List Str:=if x∈xs then xs else xs++[x]
def metT (ys:List Str):List Str:=ys.foldl Abo []
theorem Air (xs:List Str) (x:Str):(Abo xs x).length<=xs.length+1:=by
 unfold Abo;split
 ·lia
 ·simp
theorem Zg (ys:List Str) (x:Str):metT (ys++[x])=Abo (metT ys) x:=by unfold metT;rw[List.foldl_append];rfl
theorem Acf (ys:List Str):∀ xs:List Str,(ys.foldl Abo xs).length<=xs.length+ys.length:=by
 induction ys with
 |nil=>intro xs;simp
 |cons y ys ih=>intro xs;have h1:=ih (Abo xs y);have h2:=Air xs y;simp only[List.foldl_cons,Aur];lia
theorem Rh (ys:List Str):(metT ys).length<=ys.length:=by have:=Acf ys [];simpa [metT] using this
theorem Yx (x:Str) (ys:List Str):∀ xs:List Str,x∈ys.foldl Abo xs ↔ x∈xs\/x∈ys:=by
 induction ys with
 |nil=>intro xs;simp
 |cons y ys ih =>
  intro xs
  rw[List.foldl_cons,ih]
  unfold Abo
  by_cases h:y∈xs
  ·rw[At4 h]
   constructor
   ·rintro (h1|h1)
    ·exact .inl h1
    ·exact .inr (Atz _ h1)
   ·rintro (h1|h1)
    ·exact .inl h1
    ·rcases List.mem_cons.mp h1 with rfl|h1
     ·exact .inl h
     ·exact .inr h1
  ·rw[At8 h];simp[or_assoc]
theorem Acz {x:Str}{ys:List Str}:x∈metT ys ↔ x∈ys:=by have:=Yx x ys [];simpa [metT] using this
theorem Acg (ys:List Str):∀ xs:List Str,xs.Nodup->(ys.foldl Abo xs).Nodup:=by
 induction ys with
 |nil=>intro xs h;exact h
 |cons y ys ih =>
  intro xs h
  rw[List.foldl_cons]
  refine ih _ ?_
  unfold Abo
  split
  ·exact h
  ·rename_i hy
   rw[List.nodup_append]
   exact⟨h,by simp,fun a ha b hb e=>hy (by rw[List.mem_singleton.mp hb] at e;rw[<- e];exact ha)⟩
theorem Ais (ys:List Str):(metT ys).Nodup:=Acg ys [] List.nodup_nil
theorem Lc:∀ {vs:List Value}{ss:List Str},StrsAre vs ss->∀ (i:Nat) (v:Value),vs[i]?=some v->∃ x t,ss[i]?=some x/\v=.str x t
 |_,_,.nil,i,v,h=>by simp at h
 |_,_,.cons n t hr,0,v,h=>by simp at h;exact⟨n,t,rfl,h.symm⟩
 |_,_,.cons n t hr,i+1,v,h=>by
  simp only[Avc] at h
  exact Lc hr i v h
section
variable {prog:Program}{w:World}{A:Around}{R:Result->Shared->Prop}{I:Addr}{fp wr:List Addr}{G:Array GenState->Array GenState->Prop}{n:Nat}{P:Nat->Value->Prop}{St:Nat->Shared->Prop}
theorem Aed (W:WalksS prog w A.in1 I fp wr G n P St) (S:Addr) (hSf:S∉fp) (ss:List Str) (hval:∀ i v,P i v->∃ x t,ss[i]?=some x/\v=.str x t) (hb:n+1 < scanBound) :
  ∀ (k i:Nat) (s:Shared),n - i=k->i<=n->St i s->SetT prog w s.heap S (metT (ss.take i)) ->
   (∀ s',Moved (S::wr) G s s'->SetT prog w s'.heap S (metT (ss.take n))->R (.ok (.ret .none)) s') ->
   codeAny (model prog w) A (.builtin "set.update.loop" ⟨[.ref S,.ref I],[]⟩) R s:=by
 have hSw:S∉wr:=fun h=>hSf (W.sub _ h)
 have hsub:∀ b∈wr,b∈S::wr:=fun b hb=>Atz _ hb
 intro k
 induction k with
 |zero =>
  intro i s hk hi hst hS hR
  have hin:i=n:=by lia
  subst hin
  refine codeAny_builtin F.entry_set_update_loop ?_
  rw[Around.under_plainId F.plain_set_update_loop _]
  show wpAny _ A.in1 (pyNext (.ref I) >>= _) _ _ s
  refine Atu (W.done s _ _ hst fun s' hm=>?_)
  show wpAny _ A.in1 (ret Value.none) _ _ s'
  exact Atv (hR s' (hm.mono hsub) (hS.at' fun o e=>hm.heap S _ hSw e))
 |succ k ih =>
  intro i s hk hi hst hS hR
  have hlt:i < n:=by lia
  refine codeAny_builtin F.entry_set_update_loop ?_
  rw[Around.under_plainId F.plain_set_update_loop _]
  show wpAny _ A.in1 (pyNext (.ref I) >>= _) _ _ s
  refine Atu (W.item i s _ _ hlt hst fun v s' hP hst' hm=>?_)
  obtain⟨x,t,hx,rfl⟩:=hval i v hP
  have hS':=hS.at' (h':=s'.heap) fun o e=>hm.heap S _ hSw e
  show wpAny _ A.in1 (holding [Value.str x t] (setAdd S (.str x t)) >>= _) _ _ s'
  refine Atu (Au4 ?_)
  unfold setAdd
  refine Au4 ?_
  refine Atu (wpAny_pyHash_str ?_)
  have hroom:(metT (ss.take i)).length+1 < scanBound:=by have:=Rh (ss.take i);have:=List.length_take_le i ss;lia
  refine Ad0 (s:={ s' with toks:=s'.toks+1 }) hS' hroom fun h' hsb hS2=>?_
  have hSi:SetT prog w h' S (metT (ss.take (i+1))):=by
   have e:ss.take (i+1)=ss.take i++[x]:=by rw[List.take_add_one,hx];rfl
   rw[e,Zg]
   exact hS2
  refine Atv ⟨plainId_quiet F.plain_set_update_loop _,ih (i+1) _ (by lia) hlt (W.frame _ s' _ _ hst' (Av0 _) fun b hb o e=>?_) hSi fun s'' hm'' hS''=>?_⟩
  ·rw[hsb.2 b (fun h:b=S=>hSf (by rw[<- h];exact hb))];exact e
  ·refine hR s'' (Moved.trans W.gtrans ((hm.mono hsub).then_heap (Av0 _) fun b o hb e=>?_) hm'') hS''
   rw[hsb.2 b (fun h:b=S=>hb (by rw[h];exact At0))];exact e
end
section
variable {prog:Program}{w:World}{A:Around}{E:Value->Shared->Prop}{s:Shared}
noncomputable def Cd (w:World):Obj:={ cls:=.type "set",dict:=none,data:=.set #[] 0 (.fresh 0 0 (!w.params.followText "set-order")) }
theorem Akb (a:Value) {Q₁:Value->Shared->Prop} (h:Q₁ (.ref s.heap.objs.size) { s with heap:=s.heap.push (Cd w) }) :
  codeAny (model prog w) A (.call (.builtin "set.__new__") ⟨[.type "set",a],[]⟩) (wants Q₁ E) s:=by
 refine codeAny_of_tree ?_
 show wpAny _ A.in1 (do checkBuiltinCall "set.__new__" ⟨[.type "set",a],[]⟩;again (.builtin "set.__new__" ⟨[.type "set",a],[]⟩)) _ _ s
 refine Atu (wpAny_of_eq (PySem.F.newCall_set_1 a) (Atv ⟨plainId_quiet PySem.F.plain_set_new _,codeAny_builtin PySem.F.entry_set_new ?_⟩))
 rw[Around.under_plainId PySem.F.plain_set_new _]
 unfold Builtin.«set.__new__» Builtin.Frozenset.newClass
 have hsub:=sub_set_self
 obtain⟨hp,g,d,tk,os⟩:=s
 dsimp only
 wp_walk
 refine wpAny_askSetting (Atv ?_)
 dsimp only
 simp only[newObj]
 refine Atu (wpAny_alloc (Atv ?_))
 exact Atv h
theorem set_list {l:Addr}{items:Array Value}{ss:List Str}{Q:Value->Shared->Prop} (hh:A.handled=none) (hl:s.heap.IsList l items) (hi:StrsAre items.toList ss) (hb:items.size+1 < scanBound)
  (h:∀ (h':Heap) (tk:Nat),SetT prog w h' s.heap.objs.size (metT ss)->(∀ b o,b < s.heap.objs.size->s.heap.get? b=some o->h'.get? b=some o)->Q (.ref s.heap.objs.size) { s with heap:=h',toks:=tk }) :
  wpAny (model prog w) A (call (.type "set") [.ref l]) Q E s:=by
 obtain⟨c,tl,hmro⟩:=PySem.F.called_set.mro
 have hmade:=PySem.F.called_set.made
 have hsub:=PySem.F.called_set.sub
 refine wpAny_call (codeAny_of_tree ?_)
 show wpAny _ _ (callAny (.type "set") _) _ _ _
 refine Atv ⟨Code.quiet_builtin _ (by decide +kernel),codeAny_builtin PySem.F.entry_type_call ?_⟩
 rw[Around.under_plain (weight_type_call_type "set" [.ref l] []) rfl]
 have h1:=PySem.F.called_set.notType
 have h2:=PySem.F.called_set.canCreate
 have hct:=PySem.F.typeCall_set_1 (.ref l)
 repeat (any_goals (first|assumption|wp_step))
 refine codeAny_mono (Akb (.ref l) (E:=E) (Q₁:=fun obj s₁=>obj=.ref s.heap.objs.size/\s₁={ s with heap:=s.heap.push (Cd w) }) ⟨rfl,rfl⟩) fun r s₁ hr=>?_
 cases r with
 |error e=>exact hr
 |ok fl =>
  cases fl with
  |ret obj =>
   obtain⟨rfl,rfl⟩:=hr
   have hS:(s.heap.push (Cd w)).get? s.heap.objs.size=some (Cd w):=At9 _ rfl
   have hT:Shared.TypeIs { s with heap:=s.heap.push (Cd w) } (.ref s.heap.objs.size) "set":=⟨_,hS,rfl⟩
   have hli:=PySem.F.called_set.init.lookup
   have hbi:=PySem.F.called_set.init.bind (.ref s.heap.objs.size)
   repeat (any_goals (first|assumption|wp_step))
   refine codeAny_mono (codeAny_call_builtin (R:=wants (fun r s₂=>r=.none/\∃ h' tk,s₂={ s with heap:=h',toks:=tk }/\SetT prog w h' s.heap.objs.size (metT ss) /\
     (∀ b o,b < s.heap.objs.size->s.heap.get? b=some o->h'.get? b=some o)) E) PySem.F.called_set.init.plain PySem.F.entry_set_init (check_set_init_1 hT ?_)) fun r₂ s₂ hr₂=>?_
   ·obtain⟨ol,hol,hcl,nl,hdl⟩:=hl
    obtain⟨ocls,odict,odata,oslots⟩:=ol
    simp only at hcl hdl
    subst hcl;subst hdl
    have hol':(s.heap.push (Cd w)).get? l=some { cls:=.type "list",dict:=odict,data:=.seq items nl,slots:=oslots }:=Atw _ hol
    have hsls:=PySem.F.sub_list_set
    have hslf:=PySem.F.sub_list_frozenset
    have hne:(Value.type "list" == Value.type "dict")=false:=by decide
    have hl1:(s.heap.push (Cd w)).IsList l items:=⟨_,hol',rfl,nl,rfl⟩
    unfold Builtin.«set.__init__» noKeywords Builtin.Frozenset.updateFrom
    generalize hPI:pyIter=PI
    wp_walk
    subst hPI
    refine wpAny_pyIter_list hl1 ?_
    refine Atu (wpAny_runValue ?_)
    have hlS:l < s.heap.objs.size:=At1 hol
    have hh3:A.in1.in1.in1.handled=none:=by simp[hh]
    have hneI:l≠(s.heap.push (Cd w)).objs.size:=by
     rw[Avs];exact Aub (Avk hlS)
    have hSf:s.heap.objs.size∉[(s.heap.push (Cd w)).objs.size,l]:=by
     rw[Avs];simp only[Aup,List.mem_singleton,Auf,or_false,not_or]
     exact⟨Aub (Awb _),Avp hlS⟩
    have hval:∀ (i:Nat) (v:Value),items[i]?=some v->∃ x t,ss[i]?=some x/\v=.str x t:=fun i v hv =>
     Lc hi i v (by rw[Array.getElem?_toList];exact hv)
    have hlen:ss.take items.size=ss:=List.take_of_length_le (by rw[<- hi.length,Aul];exact At3 _)
    refine Aed ((Walks.list hh3 _ l hneI items).toS) s.heap.objs.size
     hSf ss hval hb (items.size - 0) 0 _ (by lia) (Auw _)
     ⟨⟨_,At9 _ rfl,rfl,rfl⟩,(hl1.push _)⟩ ?hS0 ?hR
    case hS0 =>
     exact⟨Cd w,#[],0,_,Atw _ hS,⟨rfl,rfl,rfl⟩,rfl,fun e he=>by simp at he,by rw[List.take_zero];exact .rfl,by rfl,by rfl,fun h=>absurd h (by simp)⟩
    case hR =>
     intro s' hm hS'
     rw[hlen] at hS'
     obtain⟨h',g',d',tk',os'⟩:=s'
     have eg:g'=s.gens:=hm.gens
     have ed:d'=s.drawn:=hm.drawn
     have eo:os'=s.os:=hm.os
     subst eg;subst ed;subst eo
     show wpAny _ _ _ _ _ _
     refine Atv ?_
     show wpAny _ _ (ret Value.none) _ _ _
     refine Atv ⟨rfl,h',tk',rfl,hS',fun b o hb e=>?_⟩
     have hb1:b≠s.heap.objs.size:=Aub hb
     have hb2:b≠(s.heap.push (Cd w)).objs.size:=by
      rw[Avs];exact Aub (Avk hb)
     exact hm.heap b o (by simp only[Aup,List.mem_singleton,Auf,or_false,not_or];exact⟨hb1,hb2⟩) (Atw _ (Atw _ e))
   ·cases r₂ with
    |error e=>exact hr₂
    |ok fl₂ =>
     cases fl₂ with
     |ret r =>
      obtain⟨rfl,h',tk,rfl,hS',hk'⟩:=hr₂
      repeat (any_goals (first|assumption|wp_step))
      exact h _ _ hS' hk'
     |_=>exact hr₂.elim
  |_=>exact hr.elim
end
end TX
end L2
end S_TX2
section S_TX3
open Lean in
set_option hygiene false in
local macro_rules|`(tactic| sizeOf_list_dec)=>do
 let n (s:String):TSyntax `ident:=mkIdent (mkPrivateNameCore `PySem.SetOps (Name.str `PySem s))
 `(tactic| delta $(n "drawn"))
open Lean in
set_option hygiene false in
local macro_rules|`(tactic| array_get_dec)=>do
 let n (s:String):TSyntax `ident:=mkIdent (mkPrivateNameCore `PySem.SetOps (Name.str `PySem s))
 `(tactic| delta $(n "mustBeLedForItsPlaces"))
namespace L2
namespace TX
open PySem PySem.Spec PyProof.Rows
theorem slot_next:Slot "set_iterator" "__next__" "set_iterator.__next__" :=
 .of (owner:="set_iterator") (n:="__next__") (by rw[typeLookup_type,builtinLookup_eq_fast];kernel_rfl) (by decide +kernel) (by decide +kernel) (by decide +kernel)
  (by first|exact .inl (by decide +kernel)|exact .inr (by decide +kernel)) (by rw[isSubtype_type];kernel_rfl)
theorem O1:Slot "set_iterator" "__iter__" "set_iterator.__iter__" :=
 .of (owner:="set_iterator") (n:="__iter__") (by rw[typeLookup_type,builtinLookup_eq_fast];kernel_rfl) (by decide +kernel) (by decide +kernel) (by decide +kernel)
  (by first|exact .inl (by decide +kernel)|exact .inr (by decide +kernel)) (by rw[isSubtype_type];kernel_rfl)
theorem Gq:entryFor table "set_iterator.__next__"=some Builtin.«set_iterator.__next__»:=entryFor_of_tree (by kernel_rfl)
theorem Uq:entryFor table "set_iterator.__iter__"=some Builtin.«dict_keyiterator.__iter__» :=
 entryFor_alias (id':="dict_keyiterator.__iter__") (by kernel_rfl) rfl (by decide +kernel) (by kernel_rfl)
theorem P6:entryFor table "set.__iter__"=some Builtin.«frozenset.__iter__» :=
 entryFor_alias (id':="frozenset.__iter__") (by kernel_rfl) rfl (by decide +kernel) (by kernel_rfl)
theorem Hr (a:Value):argsOk "set_iterator.__next__" ⟨[a],[]⟩:=by unfold argsOk;kernel_rfl
theorem X8 (a:Value):argsOk "set_iterator.__iter__" ⟨[a],[]⟩:=by unfold argsOk;kernel_rfl
theorem Gr {α:Type}:∀ (l:List α) (i:Nat) (h:i < l.length),(l[i]::l.eraseIdx i).Perm l
 |[],_,h=>absurd h (by simp)
 |x::l,0,_=>.rfl
 |x::l,i+1,h=>by
  have h':i < l.length:=by simpa using h
  exact (List.Perm.swap x l[i] _).trans ((Gr l i h').cons x)
theorem Aje {α:Type} (f:Nat->Nat):∀ (n k:Nat) (left:List α) (out:Array α),left.length=n->(pickOrder.go f n k left out).toList.Perm (out.toList++left):=by
 intro n
 induction n with
 |zero=>intro k left out h;rw[pickOrder.go,List.length_eq_zero_iff.mp h,Aue]
 |succ n ih =>
  intro k left out h
  rw[pickOrder.go]
  have hlt:f k % left.length < left.length:=Nat.mod_lt _ (by lia)
  rw[Atx hlt]
  refine (ih _ _ _ (by rw[List.length_eraseIdx];simp[hlt];lia)).trans ?_
  rw[Array.toList_push,List.append_assoc]
  refine List.Perm.append_left _ ?_
  exact Gr _ _ hlt
theorem Iv {α:Type} (f:Nat->Nat) (xs:Array α):(pickOrder f xs).toList.Perm xs.toList:=by
 have:=Aje f xs.size 0 xs.toList #[] (by simp)
 simpa [pickOrder] using this
section
variable {prog:Program}{w:World}{A:Around}{E:Value->Shared->Prop}{s:Shared}
theorem Vt {src:Source}{n:Nat}{Q:Nat->Shared->Prop} (hn:n≠0) (h:∀ k d',k < n->Q k { s with drawn:=d' }):wpAny (model prog w) A (choose src n) Q E s:=fun Γ p hΓ=>by
 unfold choose
 rw[Sem.wp_choose]
 exact⟨hn,h _ _ (Nat.mod_lt _ (Nat.pos_of_ne_zero hn))⟩
theorem Akp {α:Type}:∀ (n:Nat) (xs:List α) {s:Shared}{Q:List α->Shared->Prop},xs.length=n->(∀ ys d',ys.Perm xs->Q ys { s with drawn:=d' })->wpAny (model prog w) A (drawOrder n xs) Q E s:=by
 intro n
 induction n with
 |zero=>intro xs s Q h hQ;rw[List.length_eq_zero_iff.mp h];unfold drawOrder;exact Atv (hQ [] s.drawn (by rw[List.length_eq_zero_iff.mp h]))
 |succ n ih =>
  intro xs s Q h hQ
  cases xs with
  |nil=>simp at h
  |cons x xs =>
   unfold drawOrder
   refine Atu (Vt (by simp) fun i d hi=>?_)
   rw[Atx hi]
   refine Atu (ih _ (by rw[List.length_eraseIdx,At4 hi];lia) fun ys d' hp=>Atv ?_)
   exact hQ _ _ ((hp.cons _).trans (Gr _ _ hi))
def SetAt (h:Heap) (a:Addr) (es:Array (Int×Value)) (ep:Nat) (t:SetTable):Prop:=∃ o,h.get? a=some o/\o.ExactSet/\o.data=.set es ep t/\t.fits es.size=true
def SetIter (h:Heap) (it a:Addr) (first:Value) (i n ep:Nat):Prop:=∃ o,h.get? it=some o/\o.cls=.type "set_iterator"/\o.data=.fields #[first,.int i 0,.ref a,.int n 0,.int ep 0]
theorem SetAt.at' {h h':Heap}{a:Addr}{es:Array (Int×Value)}{ep:Nat}{t:SetTable} (x:SetAt h a es ep t) (e:∀ o,h.get? a=some o->h'.get? a=some o):SetAt h' a es ep t:=let ⟨o,ho,r⟩:=x;⟨o,e _ ho,r⟩
theorem SetIter.at' {h h':Heap}{it a:Addr}{f:Value}{i n ep:Nat} (x:SetIter h it a f i n ep) (e:∀ o,h.get? it=some o->h'.get? it=some o):SetIter h' it a f i n ep:=let ⟨o,ho,r⟩:=x;⟨o,e _ ho,r⟩
theorem SetIter.typeIs {it a:Addr}{f:Value}{i n ep:Nat} (x:SetIter s.heap it a f i n ep):s.TypeIs (.ref it) "set_iterator":=let ⟨o,ho,hc,_⟩:=x;⟨o,ho,hc⟩
theorem SetIter.set {h:Heap}{it a:Addr}{f f':Value}{i n ep:Nat} (x:SetIter h it a f i n ep):SetIter (h.update it (Obj.mapFields (·.setIfInBounds 0 f'))) it a f' i n ep:=by
 obtain⟨o,ho,hc,hd⟩:=x
 exact⟨_,Avw _ ho (Obj.isFreed_of_fields (Awn hd _)),(Obj.cls_mapFields ..).trans hc,by rw[Awn hd];simp⟩
theorem SetIter.inc {h:Heap}{it a:Addr}{f:Value}{i n ep:Nat} (x:SetIter h it a f i n ep):SetIter (h.update it (Obj.mapFields (·.setIfInBounds 1 (rawInt ((i:Int)+1))))) it a f (i+1) n ep:=by
 obtain⟨o,ho,hc,hd⟩:=x
 exact⟨_,Avw _ ho (Obj.isFreed_of_fields (Awn hd _)),(Obj.cls_mapFields ..).trans hc,by rw[Awn hd];simp[rawInt]⟩
theorem Je {it a:Addr}{f:Value}{i n ep:Nat}{Q:Option Value->Shared->Prop} (hh:A.handled=none) (hit:SetIter s.heap it a f i n ep) (hQ:∀ h',Heap.ExtBut it s.heap h'->Q none { s with heap:=h' }) :
  wpAny (model prog w) A.in1 (do setField (.ref it) 2 .none;raiseNew (<- newExc (.type "StopIteration") []):Sem Fin) (fun fin s'=>∃ r,fin=.done (.ret r)/\wpAny (model prog w) A (pure (some r)) Q E s')
   (fun e s'=>wpAny (model prog w) A (do if <- isInstance e (.type "StopIteration") then pure none else throw e) Q E s') s:=by
 obtain⟨o,ho,hc,hd⟩:=id hit
 refine Atu (Av2 ho hd (by simp) ?_)
 refine Atu ?_
 simp only[newExc,newTuple]
 refine Atu (Au8 ?_ (by size_fits))
 refine Atu (m:=firstArgMember _ _) (wpAny_of_eq (a:=Value.none) (by first|rfl|(simp only[firstArgMember];rfl)) ?_)
 refine Au8 ?_ (by size_fits)
 simp only[raiseNew]
 refine Atu (wpAny_handled ?_)
 rw[show A.in1.handled=none from hh]
 refine Atu (Atv (wpAny_throw ?_))
 refine Atu (wpAny_isInstance (T:="StopIteration") (b:=true) ⟨_,At9 _ rfl,rfl⟩ isSubtype_stop ?_)
 exact Atv (hQ _ (((Heap.SameBut.update ..).extBut.push _).push _))
end
end TX
end L2
end S_TX3
section S_TX4
open Lean in
set_option hygiene false in
local macro_rules|`(tactic| sizeOf_list_dec)=>do
 let n (s:String):TSyntax `ident:=mkIdent (mkPrivateNameCore `PySem.SetOps (Name.str `PySem s))
 `(tactic| delta $(n "drawn"))
open Lean in
set_option hygiene false in
local macro_rules|`(tactic| array_get_dec)=>do
 let n (s:String):TSyntax `ident:=mkIdent (mkPrivateNameCore `PySem.SetOps (Name.str `PySem s))
 `(tactic| delta $(n "mustBeLedForItsPlaces"))
namespace L2
namespace TX
open PySem PySem.Spec PyProof.Rows
section
variable {prog:Program}{w:World}{A:Around}{E:Value->Shared->Prop}{s:Shared}
theorem Afb {it a:Addr}{i ep:Nat}{es:Array (Int×Value)}{t:SetTable}{Q:Option Value->Shared->Prop} (hft:w.params.followText "set-order"=true) (hh:A.handled=none) (hit:SetIter s.heap it a (.int 0 0) i es.size ep) (hS:SetAt s.heap a es ep t)
  (h1:∀ e h',(pickOrder (w.params.setOrder a ep) es)[i]?=some e->SetIter h' it a (.int 0 0) (i+1) es.size ep->Heap.ExtBut it s.heap h'->Q (some e.2) { s with heap:=h' })
  (h0:∀ h',(pickOrder (w.params.setOrder a ep) es)[i]?=none->Heap.ExtBut it s.heap h'->Q none { s with heap:=h' }):wpAny (model prog w) A (pyNext (.ref it)) Q E s:=by
 obtain⟨o,ho,hc,hd⟩:=id hit
 obtain⟨oa,hoa,hex,hda,hf⟩:=id hS
 unfold pyNext
 refine Atu (Awh (Avo (name:=Str.ofString "__next__") hit.typeIs slot_next (Au6 slot_next hit.typeIs Gq ?_ (Hr _))))
 unfold Builtin.«set_iterator.__next__»
 refine Atu (Atv ?_)
 refine Atu (wpAny_fieldsOf ho hd ?_)
 show wpAny _ _ (setEntries a >>= _) _ _ s
 refine Atu (wpAny_setEntries_of hoa hda hf ?_)
 rw[At8 (by simp)]
 show wpAny _ _ (setNext a 0 (Int.toNat i) (Int.toNat ep) >>= _) _ _ s
 rw[Int.toNat_natCast,Int.toNat_natCast]
 refine Atu ?_
 unfold setNext
 refine Atu (wpAny_setState_of hoa hda hf ?_)
 refine Atu (Atu (wpAny_askSetting (Atv ?_)))
 show wpAny _ _ (if w.params.followText "set-order"=true then _ else _) _ _ s
 rw[At4 hft]
 rw[At8 (by simp)]
 refine Atu ?_
 unfold setWalk
 refine Atu (wpAny_setState_of hoa hda hf ?_)
 refine Atu (Atu (wpAny_askSetting (Atv ?_)))
 show wpAny _ _ (if w.params.followText "set-order"=true then _ else _) _ _ s
 rw[At4 hft]
 refine Atu (wpAny_askSetting (Atv ?_))
 show wpAny _ _ (pure (Option.map _ ((pickOrder (w.params.setOrder a ep) es)[i]?))) _ _ s
 refine Atv ?_
 cases hq:(pickOrder (w.params.setOrder a ep) es)[i]? with
 |none=>exact Je hh hit fun h' hb=>h0 h' hq hb
 |some e =>
  show wpAny _ _ (setField (.ref it) 0 (rawInt 0) >>= _) _ _ s
  refine Atu (Av2 ho hd (by simp) ?_)
  have hit1:=hit.set (f':=rawInt 0)
  obtain⟨o1,ho1,hc1,hd1⟩:=id hit1
  refine Atu (Av2 ho1 hd1 (by simp) ?_)
  exact Atv ⟨_,rfl,Atv (h1 e _ hq hit1.inc ((Heap.SameBut.update ..).trans (Heap.SameBut.update ..)).extBut)⟩
theorem Ae9 {it a tp:Addr}{i ep:Nat}{es:Array (Int×Value)}{t:SetTable}{ps:List Nat}{ot:Obj}{c:Nat}{Q:Option Value->Shared->Prop} (hh:A.handled=none) (hit:SetIter s.heap it a (.ref tp) i es.size ep) (hS:SetAt s.heap a es ep t)
  (ht:s.heap.get? tp=some ot) (hdt:ot.data=.seq (ps.map fun (k:Nat)=>rawInt k).toArray c) (hps:∀ p∈ps,p < es.size)
  (h1:∀ p e h',ps[i]?=some p->es[p]?=some e->SetIter h' it a (.ref tp) (i+1) es.size ep->Heap.ExtBut it s.heap h'->Q (some e.2) { s with heap:=h' })
  (h0:∀ h',ps[i]?=none->Heap.ExtBut it s.heap h'->Q none { s with heap:=h' }):wpAny (model prog w) A (pyNext (.ref it)) Q E s:=by
 obtain⟨o,ho,hc,hd⟩:=id hit
 obtain⟨oa,hoa,hex,hda,hf⟩:=id hS
 unfold pyNext
 refine Atu (Awh (Avo (name:=Str.ofString "__next__") hit.typeIs slot_next (Au6 slot_next hit.typeIs Gq ?_ (Hr _))))
 unfold Builtin.«set_iterator.__next__»
 refine Atu (Atv ?_)
 refine Atu (wpAny_fieldsOf ho hd ?_)
 show wpAny _ _ (setEntries a >>= _) _ _ s
 refine Atu (wpAny_setEntries_of hoa hda hf ?_)
 rw[At8 (by simp)]
 show wpAny _ _ (seqItems? (.ref tp) >>= _) _ _ s
 refine Atu (Awo ht hdt ?_)
 have eg:(ps.map fun (k:Nat)=>rawInt k).toArray[Int.toNat (i:Int)]?=(ps[i]?).map fun (k:Nat)=>rawInt k:=by
  rw[Int.toNat_natCast,List.getElem?_toArray,Auh]
 dsimp only
 rw[eg]
 cases hq:ps[i]? with
 |none =>
  show wpAny _ _ (setField (.ref it) 0 (rawInt 0) >>= _) _ _ s
  refine Atu (Av2 ho hd (by simp) ?_)
  exact Je hh (hit.set (f':=rawInt 0)) fun h' hb=>h0 h' hq ((Heap.SameBut.update ..).extBut.trans hb)
 |some p =>
  have hp:p < es.size:=hps p (Auc hq)
  show wpAny _ _ (setNextDrawn a (Int.toNat p) (Int.toNat ep) >>= _) _ _ s
  rw[Int.toNat_natCast,Int.toNat_natCast]
  refine Atu ?_
  unfold setNextDrawn
  refine Atu (wpAny_setState_of hoa hda hf ?_)
  dsimp only
  rw[At8 (by simp)]
  have he:es[p]?=some es[p]:=Avy hp
  rw[he]
  refine Atv ?_
  refine Atu (Av2 ho hd (by simp) ?_)
  exact Atv ⟨_,rfl,Atv (h1 p es[p] _ hq he hit.inc (Heap.SameBut.update ..).extBut)⟩
theorem Afa {it a:Addr}{i sl ep:Nat}{es:Array (Int×Value)}{t:SetTable}{Q:Option Value->Shared->Prop} (hft:w.params.followText "set-order"=false) (hl:t.led=true) (h2:es.size<=1) (hh:A.handled=none) (hit:SetIter s.heap it a (.int sl 0) i es.size ep) (hS:SetAt s.heap a es ep t)
  (hb:SetTable.below t.place sl=i)
  (h1:∀ e j h',es[i]?=some e->t.place[i]?=some j->SetIter h' it a (.int ((j+1:Nat):Int) 0) (i+1) es.size ep->Heap.ExtBut it s.heap h'->Q (some e.2) { s with heap:=h' })
  (h0:∀ h',es[i]?=none->Heap.ExtBut it s.heap h'->Q none { s with heap:=h' }):wpAny (model prog w) A (pyNext (.ref it)) Q E s:=by
 obtain⟨o,ho,hc,hd⟩:=id hit
 obtain⟨oa,hoa,hex,hda,hf⟩:=id hS
 have hpz:t.place.size=es.size:=by simp only[SetTable.fits,Aua,beq_iff_eq] at hf;exact hf.1
 unfold pyNext
 refine Atu (Awh (Avo (name:=Str.ofString "__next__") hit.typeIs slot_next (Au6 slot_next hit.typeIs Gq ?_ (Hr _))))
 unfold Builtin.«set_iterator.__next__»
 refine Atu (Atv ?_)
 refine Atu (wpAny_fieldsOf ho hd ?_)
 show wpAny _ _ (setEntries a >>= _) _ _ s
 refine Atu (wpAny_setEntries_of hoa hda hf ?_)
 rw[At8 (by simp)]
 show wpAny _ _ (setNext a (Int.toNat sl) (Int.toNat i) (Int.toNat ep) >>= _) _ _ s
 rw[Int.toNat_natCast,Int.toNat_natCast,Int.toNat_natCast]
 refine Atu ?_
 unfold setNext
 refine Atu (wpAny_setState_of hoa hda hf ?_)
 refine Atu (Atu (wpAny_askSetting (Atv ?_)))
 show wpAny _ _ (if w.params.followText "set-order"=true then _ else _) _ _ s
 rw[At8 (by rw[hft];exact Auo)]
 sizeOf_list_dec
 array_get_dec
 dsimp only
 rw[At8 (by simp;lia),At8 (by rw[hl];simp)]
 refine Atu (Atv ?_)
 rw[hb]
 refine Atv ?_
 cases hq:es[i]? with
 |none=>exact Je hh hit fun h' hb=>h0 h' hq hb
 |some e =>
  have hi:i < t.place.size:=by rw[hpz];exact (Array.getElem?_eq_some_iff.mp hq).1
  have hj:t.place[i]?=some t.place[i]:=Avy hi
  rw[hj]
  show wpAny _ _ (setField (.ref it) 0 (rawInt ((t.place[i]+1:Nat):Int)) >>= _) _ _ s
  refine Atu (Av2 ho hd (by simp) ?_)
  have hit1:=hit.set (f':=rawInt ((t.place[i]+1:Nat):Int))
  obtain⟨o1,ho1,hc1,hd1⟩:=id hit1
  refine Atu (Av2 ho1 hd1 (by simp) ?_)
  exact Atv ⟨_,rfl,Atv (h1 e _ _ hq hj hit1.inc ((Heap.SameBut.update ..).trans (Heap.SameBut.update ..)).extBut)⟩
end
end TX
end L2
end S_TX4
section S_TX5
open Lean in
set_option hygiene false in
local macro_rules|`(tactic| sizeOf_list_dec)=>do
 let n (s:String):TSyntax `ident:=mkIdent (mkPrivateNameCore `PySem.SetOps (Name.str `PySem s))
 `(tactic| delta $(n "drawn"))
namespace L2
namespace TX
open PySem PySem.Spec PyProof.Rows
theorem Aln (xs:Array Nat) (h:xs.size<=1):SetTable.below xs 0=0:=by
 unfold SetTable.below
 rcases Nat.lt_or_ge 0 xs.size with h0|h0
 ·have e:xs.size=1:=by lia
  rw[e];simp[SetTable.below.go]
 ·have e:xs.size=0:=by lia
  rw[e];simp[SetTable.below.go]
theorem Alo (xs:Array Nat) (j:Nat) (h:xs.size=1) (hj:xs[0]?=some j):SetTable.below xs (j+1)=1:=by
 unfold SetTable.below
 rw[h]
 simp[SetTable.below.go,Array.getD_eq_getD_getElem?,hj]
section
variable {prog:Program}{w:World}{A:Around}{E:Value->Shared->Prop}{s:Shared}
theorem Jb {it a:Addr}{f:Value}{i n ep:Nat}{Q:Value->Shared->Prop} (hit:SetIter s.heap it a f i n ep) (h:Q (.ref it) s):wpAny (model prog w) A (pyIter (.ref it)) Q E s:=by
 refine wpAny_pyIter_slot hit.typeIs O1 (Au6 O1 hit.typeIs Uq ?_ (X8 _))
 show wpAny _ _ (ret (.ref it)) _ _ s
 exact Atv ⟨_,rfl,"set_iterator",_,hit.typeIs,slot_next.lookup,h⟩
theorem Ako (hft:w.params.followText "set-order"=true) (hh:A.handled=none) (I a:Addr) (hne:a≠I) (es:Array (Int×Value)) (ep:Nat) (t:SetTable) :
  Walks prog w A I [I,a] [I] es.size (fun i v=>((pickOrder (w.params.setOrder a ep) es).toList.map (·.2))[i]?=some v) (fun i h=>SetIter h I a (.int 0 0) i es.size ep/\SetAt h a es ep t) where
 sub:=fun b hb=>by simp at hb;simp[hb]
 frame:=fun _ _ _ st hk=>⟨st.1.at' fun o e=>hk I (by simp) o e,st.2.at' fun o e=>hk a (by simp) o e⟩
 item:=fun i s Q E hi st hQ=>Afb hft hh st.1 st.2 (fun e h' he hit' hb=>hQ e.2 h' s.toks (by rw[Auh,Array.getElem?_toList,he];rfl) ⟨hit',st.2.at' fun o e=>hb a o hne e⟩ fun b o hb' e=>hb b o (fun h=>hb' (by simp[h])) e)
  fun h' hn _=>by
   have hz:(pickOrder (w.params.setOrder a ep) es).size=es.size:=by rw[<- Aul,(Iv _ es).length_eq,Aul]
   rw[Avy (by lia)] at hn
   cases hn
 done:=fun s Q E st hQ=>Afb hft hh st.1 st.2 (fun e h' he _ _=>by
   have hz:(pickOrder (w.params.setOrder a ep) es).size=es.size:=by rw[<- Aul,(Iv _ es).length_eq,Aul]
   rw[Array.getElem?_eq_none (by lia)] at he
   cases he) fun h' _ hb=>hQ h' s.toks fun b o hb' e=>hb b o (fun h=>hb' (by simp[h])) e
 self:=fun _ _ _ _ st hQ=>Jb st.1 hQ
theorem Akn (hft:w.params.followText "set-order"=false) (t:SetTable) (hl:t.led=true) (es:Array (Int×Value)) (h2:es.size<=1) (hf:t.fits es.size=true) (hh:A.handled=none) (I a:Addr) (hne:a≠I) (ep:Nat) :
  Walks prog w A I [I,a] [I] es.size (fun i v=>(es.toList.map (·.2))[i]?=some v) (fun i h=>(∃ sl:Nat,SetIter h I a (.int sl 0) i es.size ep/\SetTable.below t.place sl=i)/\SetAt h a es ep t) where
 sub:=fun b hb=>by simp at hb;simp[hb]
 frame:=fun _ _ _ st hk=>⟨st.1.imp fun _ z=>⟨z.1.at' fun o e=>hk I (by simp) o e,z.2⟩,st.2.at' fun o e=>hk a (by simp) o e⟩
 item:=fun i s Q E hi st hQ=>by
  obtain⟨⟨sl,hit,hb⟩,hS⟩:=st
  refine Afa hft hl h2 hh hit hS hb (fun e j h' he hj hit' hb=>hQ e.2 h' s.toks (by rw[Auh,Array.getElem?_toList,he];rfl) ⟨⟨_,hit',?_⟩,hS.at' fun o e=>hb a o hne e⟩ fun b o hb' e=>hb b o (fun h=>hb' (by simp[h])) e) fun h' hn _=>?_
  ·have hpz:t.place.size=es.size:=by simp only[SetTable.fits,Aua,beq_iff_eq] at hf;exact hf.1
   have e0:i=0:=by lia
   subst e0
   exact Alo _ _ (by lia) hj
  ·rw[Avy hi] at hn;cases hn
 done:=fun s Q E st hQ=>by
  obtain⟨⟨sl,hit,hb⟩,hS⟩:=st
  refine Afa hft hl h2 hh hit hS hb (fun e j h' he _ _ _=>?_) fun h' _ hb=>hQ h' s.toks fun b o hb' e=>hb b o (fun h=>hb' (by simp[h])) e
  rw[Array.getElem?_eq_none (At3 _)] at he;cases he
 self:=fun _ _ _ _ st hQ=>Jb st.1.choose_spec.1 hQ
theorem Akm (hh:A.handled=none) (I a tp:Addr) (hne:a≠I) (hnt:tp≠I) (es:Array (Int×Value)) (ep:Nat) (t:SetTable) (ps:List Nat) (hps:ps.Perm (List.range es.size)) (ot:Obj) (c:Nat) (hdt:ot.data=.seq (ps.map fun (k:Nat)=>rawInt k).toArray c) :
  Walks prog w A I [I,a,tp] [I] es.size (fun i v=>(ps.map fun p=>(es.getD p (0,.none)).2)[i]?=some v) (fun i h=>SetIter h I a (.ref tp) i es.size ep/\SetAt h a es ep t/\h.get? tp=some ot) where
 sub:=fun b hb=>by simp at hb;simp[hb]
 frame:=fun _ _ _ st hk=>⟨st.1.at' fun o e=>hk I (by simp) o e,st.2.1.at' fun o e=>hk a (by simp) o e,hk tp (by simp) _ st.2.2⟩
 item:=fun i s Q E hi st hQ=>Ae9 hh st.1 st.2.1 st.2.2 hdt (fun p hp=>List.mem_range.mp (hps.mem_iff.mp hp)) (fun p e h' hp he hit' hb=>hQ e.2 h' s.toks (by rw[Auh,hp];simp[Array.getD_eq_getD_getElem?,he]) ⟨hit',st.2.1.at' fun o e=>hb a o hne e,hb tp _ hnt st.2.2⟩ fun b o hb' e=>hb b o (fun h=>hb' (by simp[h])) e)
  fun h' hn _=>by
   have hz:ps.length=es.size:=by rw[hps.length_eq,List.length_range]
   rw[Atx (by lia)] at hn
   cases hn
 done:=fun s Q E st hQ=>Ae9 hh st.1 st.2.1 st.2.2 hdt (fun p hp=>List.mem_range.mp (hps.mem_iff.mp hp)) (fun p e h' hp _ _ _=>by
   have hz:ps.length=es.size:=by rw[hps.length_eq,List.length_range]
   rw[Aus (by lia)] at hp
   cases hp) fun h' _ hb=>hQ h' s.toks fun b o hb' e=>hb b o (fun h=>hb' (by simp[h])) e
 self:=fun _ _ _ _ st hQ=>Jb st.1 hQ
theorem Gz {es:List (Int×Value)} (h:ElemsOf (PySem.strKind prog w) es):∀ {l:List Value},(∀ v∈l,v∈es.map (·.2))->StrsAre l (l.map strOf):=fun {l} hl=>strsAre_map l fun v hv=>by
 obtain⟨e,he,rfl⟩:=List.mem_map.mp (hl v hv)
 obtain⟨⟨k,hk,_⟩,_⟩:=h e he
 obtain⟨t,ht⟩:=Value.isStrOf_shape hk
 exact⟨k,t,ht⟩
theorem Acx (es:Array (Int×Value)):(List.range es.size).map (fun p=>(es.getD p (0,.none)).2)=es.toList.map (·.2):=by
 refine List.ext_getElem? fun i=>?_
 rw[Auh,Auh]
 by_cases hi:i < es.size
 ·rw[List.getElem?_range hi];simp[Array.getD_eq_getD_getElem?,hi]
 ·rw[Aus (by simpa using hi),Aus (by simpa using hi)];rfl
theorem Vg {a:Addr}{xs:List Str}{Q:Value->Shared->Prop} (hh:A.handled=none) (hS:SetT prog w s.heap a xs) (hz:xs.length<=1000)
  (hQ:∀ (I:Addr) (h0:Heap) (d':Drawn) (fp:List Addr) (St:Nat->Heap->Prop) (ord:List Value) (ss:List Str),Walks prog w A I fp [I] xs.length (fun i v=>ord[i]?=some v) St->St 0 h0->StrsAre ord ss->ss.Perm xs ->
   (∀ b o,s.heap.get? b=some o->h0.get? b=some o)->(∀ b∈fp,b=a\/s.heap.objs.size<=b)->s.heap.objs.size<=I->Q (.ref I) { s with heap:=h0,drawn:=d' }):wpAny (model prog w) A (pyIter (.ref a)) Q E s:=by
 obtain⟨o,es,ep,t,ho,hex,hd,hel,hp,hf,hl,hpl⟩:=hS
 have hsz:es.size=xs.length:=by rw[<- hp.length_eq];simp[txs]
 rw[<- hsz] at hQ
 have hT:s.TypeIs (.ref a) "set":=⟨o,ho,hex.1⟩
 have ha:a < s.heap.objs.size:=At1 ho
 have hA:SetAt s.heap a es ep t:=⟨o,ho,hex,hd,hf⟩
 have etx:txs es.toList=(es.toList.map (·.2)).map strOf:=by unfold txs;rw[Av1];rfl
 refine wpAny_pyIter_slot hT PySem.F.slot_set_iter (Au6 PySem.F.slot_set_iter hT P6 ?_ (PySem.F.args_set_iter_1 _))
 unfold Builtin.«frozenset.__iter__»
 refine Atu ?_
 unfold Builtin.Frozenset.slot0 slotArgs
 simp only[List.isEmpty_nil,Avf,Au3,↓reduceIte,bind_assoc,Awr,bne_self_eq_false]
 unfold Builtin.Frozenset.addrOf Builtin.Frozenset.sizeOf
 refine Atu (Atv ?_)
 try dsimp only
 refine Atv ?_
 refine Atu (Atu (wpAny_setEntries_of ho hd hf (Atv ?_)))
 refine Atu ?_
 unfold setDrawn setsByText
 refine Atu (wpAny_setState_of ho hd hf ?_)
 refine Atu (Atu (wpAny_askSetting (Atv ?_)))
 sizeOf_list_dec
 refine Atv ?_
 show wpAny _ _ (if (!w.params.followText "set-order"&&(!t.plain&&decide (es.size > 1)))=true then _ else _) _ _ s
 have fin:∀ {st:Shared}{first:Value}{R:Fin->Shared->Prop}{E':Value->Shared->Prop},st.heap.get? a=some o->R (.done (.ret (.ref st.heap.objs.size))) { st with heap:=st.heap.push { cls:=.type "set_iterator",data:=.fields #[first,.int 0 0,.ref a,.int es.size 0,.int ep 0] } }->wpAny (model prog w) A.in1 (do
   let __do_lift <- setEpoch a
   let __do_lift <- newFields "set_iterator" [first,rawInt 0,Value.ref a,rawInt ↑es.size,rawInt ↑__do_lift]
   ret __do_lift) R E' st:=fun {st first R E'} ho' h=>Atu (wpAny_setEpoch_of ho' hd hf (Atu (Au8 (Atv h))))
 by_cases hc:(!w.params.followText "set-order"&&(!t.plain&&decide (es.size > 1)))=true
 ·rw[At4 hc]
  refine Atu (Akp es.size _ (by simp) fun ps d' hps=>?_)
  have hpl:ps.length=es.size:=by rw[hps.length_eq,List.length_range]
  refine Atu (wpAny_newTuple ?_ (by rw[Aud];have:=Au9;lia))
  refine fin (Atw _ ho) ⟨_,rfl,"set_iterator",_,⟨_,At9 _ rfl,rfl⟩,slot_next.lookup,?_⟩
  have htp:(s.heap.push { cls:=.type "tuple",data:=.seq (ps.map fun (i:Nat)=>rawInt i).toArray }).get? s.heap.objs.size=some { cls:=.type "tuple",data:=.seq (ps.map fun (i:Nat)=>rawInt i).toArray }:=At9 _ rfl
  have hI:(s.heap.push { cls:=.type "tuple",data:=.seq (ps.map fun (i:Nat)=>rawInt i).toArray }).objs.size=s.heap.objs.size+1:=Avs ..
  have hmap:(ps.map fun p=>(es.getD p (0,.none)).2).Perm (es.toList.map (·.2)):=by rw[<- Acx];exact hps.map _
  have hgI:((s.heap.push { cls:=.type "tuple",data:=.seq (ps.map fun (i:Nat)=>rawInt i).toArray }).push { cls:=.type "set_iterator",data:=.fields #[.ref s.heap.objs.size,.int 0 0,.ref a,.int es.size 0,.int ep 0] }).get? (s.heap.objs.size+1)=some { cls:=.type "set_iterator",data:=.fields #[.ref s.heap.objs.size,.int 0 0,.ref a,.int es.size 0,.int ep 0] }:=by rw[<- hI];exact At9 _ rfl
  rw[hI]
  refine hQ _ _ d' _ _ _ _ (Akm hh (s.heap.objs.size+1) a s.heap.objs.size (Aub (Avk ha)) (Aub (Awb _)) es ep t ps hps _ _ rfl) ⟨⟨_,hgI,rfl,rfl⟩,(hA.at' fun o e=>Atw _ (Atw _ e)),Atw _ htp⟩ (Gz hel fun v hv=>hmap.mem_iff.mp hv) ((hmap.map strOf).trans (etx ▸ hp)) (fun b o e=>Atw _ (Atw _ e)) (fun b hb=>?_) (Av0 _)
  simp only[Aup,Auf,or_false] at hb
  rcases hb with rfl|rfl|rfl
  ·exact .inr (Av0 _)
  ·exact .inl rfl
  ·exact .inr (At3 _)
 ·rw[At8 hc]
  refine Atu (Atv ?_)
  refine fin ho ⟨_,rfl,"set_iterator",_,⟨_,At9 _ rfl,rfl⟩,slot_next.lookup,?_⟩
  have kp:∀ b o,s.heap.get? b=some o->(s.heap.push { cls:=.type "set_iterator",data:=.fields #[.int 0 0,.int 0 0,.ref a,.int es.size 0,.int ep 0] }).get? b=some o:=fun b o e=>Atw _ e
  have hfp:∀ b∈[s.heap.objs.size,a],b=a\/s.heap.objs.size<=b:=fun b hb=>by
   simp only[Aup,Auf,or_false] at hb
   rcases hb with rfl|rfl
   ·exact .inr (At3 _)
   ·exact .inl rfl
  cases hft:w.params.followText "set-order" with
  |true =>
   have hmap:((pickOrder (w.params.setOrder a ep) es).toList.map (·.2)).Perm (es.toList.map (·.2)):=(Iv _ es).map _
   exact hQ _ _ s.drawn _ _ _ _ (Ako hft hh _ a (Aub ha) es ep t) ⟨⟨_,At9 _ rfl,rfl,rfl⟩,hA.at' fun o e=>kp _ o e⟩ (Gz hel fun v hv=>hmap.mem_iff.mp hv) ((hmap.map strOf).trans (etx ▸ hp)) kp hfp (At3 _)
  |false =>
   have h2:es.size<=1:=by
    rcases Nat.lt_or_ge 1 es.size with h|h
    ·exact absurd (by rw[hft,hpl (by lia)];simp;lia) hc
    ·exact h
   have hpz:t.place.size=es.size:=by simp only[SetTable.fits,Aua,beq_iff_eq] at hf;exact hf.1
   exact hQ _ _ s.drawn _ _ _ _ (Akn hft t (by rw[hl,hft];rfl) es h2 hf hh _ a (Aub ha) ep) ⟨⟨0,⟨_,At9 _ rfl,rfl,rfl⟩,Aln _ (by lia)⟩,hA.at' fun o e=>kp _ o e⟩ (Gz hel fun v hv=>hv) (etx ▸ hp) kp hfp (At3 _)
end
end TX
end L2
end S_TX5
section S_TX6
namespace L2
namespace TX
open PySem PySem.Spec PyProof.Rows
section
variable {prog:Program}{w:World}{A:Around}{E:Value->Shared->Prop}{s:Shared}
theorem Acn {r:Addr}{Q:Bool->Shared->Prop} (hT:s.TypeIs (.ref r) "set") (h:Q false s):wpAny (model prog w) A (Builtin.List.listLengthHint (.ref r)) Q E s:=by
 unfold Builtin.List.listLengthHint
 refine Atu (wpAny_specialOf hT PySem.F.slot_set_len.lookup ?_)
 generalize hid:("set.__len__":String)=id0
 wp_delta
 rw[show splitId id0=some ("set","__len__") from by subst hid;decide +kernel]
 subst hid
 refine Atu (wpAny_isInstance (T:="set") (b:=true) hT (by rw[isSubtype_type];kernel_rfl) ?_)
 refine wpAny_ite_split (fun hab=>absurd hab (by decide)) (fun _=>?_)
 refine wpAny_ite_split (fun _=>?_) (fun hab=>absurd (by decide +kernel) hab)
 refine Atu (Av6 hT ?_)
 exact Atv h
theorem Ur {R:Result->Shared->Prop}{r:Addr}{xs:List Str} (hh:A.handled=none) (hX:SetT prog w s.heap r xs) (hz:xs.length<=1000) (S:Addr) (hSr:S≠r) (res:Value) (c₀:Nat) (hS:s.heap.get? S=some { cls:=.type "list",data:=.seq #[] c₀ })
  (hR:∀ h' tk d' acc' c' ss,(∀ b o,b≠S->s.heap.get? b=some o->h'.get? b=some o)->h'.get? S=some { cls:=.type "list",dict:=none,data:=.seq acc' c',slots:=#[] }->StrsAre acc'.toList ss->ss.Perm xs->R (.ok (.ret res)) { s with heap:=h',toks:=tk,drawn:=d' }) :
  wpAny (model prog w) A.in1 (Builtin.List.listExtendWith (.ref S) (.ref r) res)
   (fun fin s'=>match fin with|.done f=>R (.ok f) s'|.again c'=>c'.quiet=true/\codeAny (model prog w) A c' R s') (fun e s'=>R (.error e) s') s:=by
 have hlS:S < s.heap.objs.size:=At1 hS
 have hT:∀ {s':Shared},SetT prog w s'.heap r xs->s'.TypeIs (.ref r) "set":=fun {s'} x=>let ⟨o,_,_,_,ho,hc,_⟩:=x;⟨o,ho,hc.1⟩
 unfold Builtin.List.listExtendWith
 refine Atu (Av6 (T:="set") (hT hX) ?_)
 have h1:Builtin.List.listSameRef (.ref S) (.ref r)=false:=by simp[Builtin.List.listSameRef,hSr]
 have n1:(Value.type "set" == Value.type "list")=false:=by decide
 have n2:(Value.type "set" == Value.type "tuple")=false:=by decide
 simp only[h1,n1,n2,Awm,Au3,if_false]
 refine Atu (Vg (A:=A.in1) hh hX hz fun I h0 d' fp St ord ss W st hord hp hk hfp hI=>?_)
 have hSf:S∉fp:=fun h=>by
  rcases hfp S h with e|e
  ·exact hSr e
  ·exact absurd (At6 hlS e) (Aut _)
 have hSI:S≠I:=fun e=>by rw[e] at hlS;exact absurd (At6 hlS hI) (Aut _)
 have hlo:ord.length=xs.length:=by rw[hord.length,hp.length_eq]
 have key:∀ (h:Heap) (c₁ tk:Nat),St 0 h->(∀ b o,b≠S->s.heap.get? b=some o->h.get? b=some o) ->
   h.get? S=some { cls:=.type "list",data:=.seq #[] c₁ }->codeAny (model prog w) A (.builtin "list.extend.loop" ⟨[.ref S,.ref I,res],[]⟩) R { s with heap:=h,toks:=tk,drawn:=d' }:=by
  intro h c₁ tk hst hk hS₁
  refine codeAny_extend_loopS W.toS (by have:=Au9;lia) S hSf res xs.length 0 _ #[] c₁ rfl (Auw _) hst hS₁ (ItemsOf.nil _) fun s' acc' c' hm hS' hacc=>?_
  rw[Moved.eq_with hm]
  refine hR s'.heap s'.toks d' acc' c' ss (fun b o hb e=>hm.heap b o (fun hmem=>?_) (hk b o hb e)) hS' ?_ hp
  ·rcases List.mem_cons.mp hmem with e'|hmem
   ·exact hb e'
   ·exact absurd (At1 e) (by rw[List.mem_singleton.mp hmem];exact Nat.not_lt.mpr hI)
  ·have ea:acc'.toList=ord:=by
    refine List.ext_getElem? fun i=>?_
    by_cases hi:i < acc'.size
    ·have q:ord[i]?=some acc'[i]:=hacc.2 i acc'[i] (by simp[hi])
     rw[q,Array.getElem?_toList];simp[hi]
    ·have h1:=hacc.1
     rw[Aus (by simpa using hi),Aus (by lia)]
   rw[ea];exact hord
 have hS₁:=hk S _ hS
 refine Atu (Au4 (Acn (s:={ s with heap:=h0,drawn:=d' }) (hT (hX.at' fun o e=>hk r o e)) ?_))
 refine wpAny_ite_split (fun _=>?_) (fun _=>Atv ⟨plainId_quiet PySem.F.plain_extend_loop _,key _ c₀ s.toks st (fun b o _ e=>hk b o e) hS₁⟩)
 refine Atu (wpAny_rule ?_)
 refine Atu ?_
 show wpAny _ _ (updateSeq S (·.push .none) >>= fun _=>updateSeq S (·.pop)) _ _ _
 refine Atu (wpAny_updateSeq hS₁ rfl ?_)
 have hS₂:=Avw (Obj.mapSeq (·.push Value.none)) hS₁ rfl
 refine wpAny_updateSeq (hz:=by seq_fits) hS₂ rfl ?_
 have hS₃:=Avw (Obj.mapSeq (·.pop)) hS₂ rfl
 refine Atv ⟨plainId_quiet PySem.F.plain_extend_loop _,key _ _ s.toks ?_ (fun b o hb e=>?_) hS₃⟩
 ·refine W.frame 0 _ _ st fun b hb o e=>?_
  have hbS:b≠S:=fun h=>hSf (h ▸ hb)
  exact (Aum _ _ (Avn hbS)).trans ((Aum _ _ (Avn hbS)).trans e)
 ·exact (Aum _ _ (Avn hb)).trans ((Aum _ _ (Avn hb)).trans (hk _ _ e))
theorem P1 {R:List Value->Shared->Prop}{r:Addr}{xs:List Str} (hh:A.handled=none) (hX:SetT prog w s.heap r xs) (hz:xs.length<=1000)
  (h:∀ (h':Heap) (tk:Nat) (d':Drawn) (acc:List Value) (ss:List Str),(∀ b o,s.heap.get? b=some o->h'.get? b=some o)->StrsAre acc ss->ss.Perm xs->R acc { s with heap:=h',toks:=tk,drawn:=d' }) :
  wpAny (model prog w) A (collect (.ref r)) R E s:=by
 have hlt:r < s.heap.objs.size:=let ⟨_,_,_,_,ho,_⟩:=hX;At1 ho
 unfold collect
 refine Atu (wpAny_runValue (codeAny_builtin entry_proto_collect' ?_))
 rw[Around.under_plainId PySem.F.plain_proto_collect _]
 show wpAny _ A.in1 (newList [] >>= fun l=>again (.builtin "list.__iadd__" ⟨[l,.ref r],[]⟩)) _ _ s
 refine Atu (Au8 ?_)
 refine Atv ⟨plainId_quiet PySem.F.plain_list_iadd _,codeAny_builtin entry_list_iadd' ?_⟩
 rw[Around.under_plainId PySem.F.plain_list_iadd _]
 have hS₁:(s.heap.push { cls:=.type "list",data:=.seq ([]:List Value).toArray }).get? s.heap.objs.size=some { cls:=.type "list",data:=.seq #[] }:=At9 _ rfl
 show wpAny _ A.in1 (Builtin.List.listExtendWith (.ref s.heap.objs.size) (.ref r) (.ref s.heap.objs.size)) _ _ _
 have key:=Ur (A:=A) (s:={ s with heap:=s.heap.push { cls:=.type "list",data:=.seq ([]:List Value).toArray } })
  (R:=fun (q:Result) (s':Shared)=>∃ (h':Heap) (tk:Nat) (d':Drawn) (acc':Array Value) (c':Nat) (ss:List Str),q=.ok (.ret (.ref s.heap.objs.size))/\s'={ s with heap:=h',toks:=tk,drawn:=d' } /\
   (∀ b o,s.heap.get? b=some o->h'.get? b=some o)/\h'.get? s.heap.objs.size=some { cls:=.type "list",dict:=none,data:=.seq acc' c',slots:=#[] }/\StrsAre acc'.toList ss/\ss.Perm xs)
  hh (hX.at' fun o e=>Atw _ e) hz s.heap.objs.size (Avp hlt) (.ref s.heap.objs.size) 0 hS₁
  (fun h' tk d' acc' c' ss hk hS' hacc hp=>⟨h',tk,d',acc',c',ss,rfl,rfl,fun b o e=>hk b o (Aub (At1 e)) (Atw _ e),hS',hacc,hp⟩)
 refine Au0 key (fun fin s' x=>?_) fun e s' x=>?_
 ·cases fin with
  |done f =>
   obtain⟨h',tk,d',acc',c',ss,e,rfl,hk,hS',hacc,hp⟩:=x
   cases e
   show wpAny _ A (load s.heap.objs.size >>= _) _ _ _
   refine Atu (wpAny_load hS' ?_)
   exact Atv (h h' tk d' acc'.toList ss hk hacc hp)
  |again c₁ =>
   refine⟨x.1,codeAny_mono x.2 fun q s₂ y=>?_⟩
   obtain⟨h',tk,d',acc',c',ss,rfl,rfl,hk,hS',hacc,hp⟩:=y
   show wpAny _ A (load s.heap.objs.size >>= _) _ _ _
   refine Atu (wpAny_load hS' ?_)
   exact Atv (h h' tk d' acc'.toList ss hk hacc hp)
 ·obtain⟨_,_,_,_,_,_,e',_⟩:=x
  cases e'
end
end TX
end L2
end S_TX6
section S_TX7
namespace L2
namespace TX
open PySem PySem.Spec PyProof.Rows
noncomputable def leT (a b:Str):Bool:=!decide (b.cps.toList < a.cps.toList)
theorem R7 {a b:Str} (h:a.cps.toList=b.cps.toList):a=b:=by
 cases a;cases b;simp only at h;rw[Array.toList_inj.mp h]
theorem Acr {a b:Str} (h:leT a b=true) (h':leT b a=true):a=b:=by
 unfold leT at h h'
 simp only[Bool.not_eq_true',decide_eq_false_iff_not,List.not_lt] at h h'
 exact R7 (List.le_antisymm h h')
theorem Oe (a b c:Str) (h:leT a b=true) (h':leT b c=true):leT a c=true:=by
 unfold leT at h h' ⊢
 simp only[Bool.not_eq_true',decide_eq_false_iff_not,List.not_lt] at h h' ⊢
 exact List.le_trans h h'
theorem Y7 (a b:Str):(leT a b||leT b a)=true:=by
 unfold leT
 rcases List.le_total a.cps.toList b.cps.toList with h|h
 ·have:¬ b.cps.toList < a.cps.toList:=List.not_lt.mpr h
  simp[this]
 ·have:¬ a.cps.toList < b.cps.toList:=List.not_lt.mpr h
  simp[this]
def sortT (ys:List Str):List Str:=(metT ys).mergeSort leT
theorem Eb (ys:List Str):(sortT ys).Perm (metT ys):=List.mergeSort_perm _ _
theorem Ad5 (ys:List Str):(sortT ys).Pairwise fun a b=>leT a b=true:=List.pairwise_mergeSort Oe Y7 _
theorem sortT_nd (ys:List Str):(sortT ys).Nodup:=(Eb ys).nodup_iff.mpr (Ais ys)
theorem sortT_mem {x:Str}{ys:List Str}:x∈sortT ys ↔ x∈ys:=(Eb ys).mem_iff.trans Acz
theorem sortT_len (ys:List Str):(sortT ys).length<=ys.length:=by rw[(Eb ys).length_eq];exact Rh ys
theorem Ad4 {ys ss:List Str} (hp:ss.Perm (metT ys)) (hs:ss.Pairwise fun a b=>leT a b=true):ss=sortT ys :=
 List.Perm.eq_of_pairwise (le:=fun a b=>leT a b=true) (fun _ _ _ _ h1 h2=>Acr h1 h2) hs (Ad5 ys) (hp.trans (Eb ys).symm)
theorem Oo:∀ (p:Str) (l:List Str),risingS p l=true->(p::l).Pairwise (fun a b=>leT a b=true)
 |p,[],_=>by simp
 |p,x::r,h=>by
  have h:(!ltCps x.cps.toList p.cps.toList&&risingS x r)=true:=h
  rw[Aua] at h
  have ih:=Oo x r h.2
  have h1:leT p x=true:=by have:=h.1;rw[ltCps_eq] at this;exact this
  refine List.pairwise_cons.mpr ⟨fun y hy=>?_,ih⟩
  rcases List.mem_cons.mp hy with rfl|hy
  ·exact h1
  ·exact Oe _ _ _ h1 ((List.pairwise_cons.mp ih).1 y hy)
theorem Vf {l:List Str} (h:sortedS l=true):l.Pairwise (fun a b=>leT a b=true):=by
 cases l with
 |nil=>exact .nil
 |cons x r=>exact Oo x r h
section
variable {prog:Program}{w:World}{A:Around}{E:Value->Shared->Prop}{s:Shared}
theorem Akf {a:Addr}{vs:List Value}{ss ys:List Str}{n:Nat}{P:Fin->Shared->Prop} (ho:s.heap.get? a=some (seqObj "list" vs.toArray n)) (hS:StrsAre vs ss) (hp:ss.Perm (metT ys)) (h64:vs.length < 64)
  (h:∀ (out:List Value) (h':Heap) (e:Nat),StrsAre out (sortT ys)->(∀ b o,b≠a->s.heap.get? b=some o->h'.get? b=some o)->h'.get? a=some (seqObj "list" out.toArray e)->P (.done (.ret .none)) { s with heap:=h' }) :
  wpAny (model prog w) A (Builtin.«list.sort» ⟨[.ref a],[]⟩) P E s :=
 list_sort_treeK strKind_oneLt ho hS.keysOf (fun v₁ v₂ rest e=>keyKind_strs (by rw[<- e];exact hS)) h64 fun st' hq hs=>by
  obtain⟨ss',h1,h2,h3⟩:=sorted_out_str hS hq hs
  rw[Ad4 (h2.trans hp) (Vf h3)] at h1
  obtain⟨e,he⟩:=sortedHeap_at (out:=(arrOf st').map (·.2)) ho
  exact h _ _ e h1 (fun b o hb q=>(sortedHeap_old hb (At1 q)).trans q) (by rw[Array.toArray_toList];exact he)
theorem sorted_set {r:Addr}{ys:List Str}{Q:Value->Shared->Prop} (hh:A.handled=none) (hX:SetT prog w s.heap r (metT ys)) (hz:ys.length < 64)
  (h:∀ (h1 h':Heap) (tk:Nat) (d':Drawn) (out:List Value) (e:Nat),(∀ b o,s.heap.get? b=some o->h1.get? b=some o)->(∀ b o,h1.get? b=some o->h'.get? b=some o)->h'.get? h1.objs.size=some (seqObj "list" out.toArray e)->StrsAre out (sortT ys)->Q (.ref h1.objs.size) { s with heap:=h',toks:=tk,drawn:=d' }) :
  wpAny (model prog w) A (call (.builtin "sorted") [.ref r]) Q E s:=by
 have hlen:=Rh ys
 refine Calls.call_function_entry kind_sorted plain_sorted entry_sorted (args_sorted1 _) ?_
 unfold Builtin.«sorted»
 refine Atu (m:=checkCount "sorted" 1 1 _) (Atv ?_)
 refine Atu (P1 (A:=A.in1) hh hX (by lia) fun h' tk d' acc ss hk hacc hp=>?_)
 have hl:acc.length < 64:=by rw[hacc.length,hp.length_eq];lia
 refine Atu (wpAny_newList ?_ (by have:=Au9;lia))
 have hoL:(h'.push (seqObj "list" acc.toArray 0)).get? h'.objs.size=some (seqObj "list" acc.toArray 0):=At9 _ rfl
 show wpAny _ _ _ _ _ { s with heap:=h'.push (seqObj "list" acc.toArray 0),toks:=tk,drawn:=d' }
 refine Atu (Au4 (Au6 slot_list_sort ⟨_,hoL,rfl⟩ entry_list_sort (Akf (s:={ s with heap:=h'.push (seqObj "list" acc.toArray 0),toks:=tk,drawn:=d' }) hoL hacc hp hl fun out h2 e h1 hk2 hg=>⟨_,rfl,?_⟩) (args_list_sort _)))
 exact Atv ⟨_,rfl,h h' _ tk d' out e hk (fun b o q=>hk2 b o (fun z=>absurd (At1 q) (by rw[z];exact Aut _)) (Atw _ q)) hg h1⟩
end
end TX
end L2
end S_TX7
section S_DX1
namespace L2
namespace TX
open PySem PySem.Spec PyProof.Rows
section
variable {prog:Program}{w:World}{A:Around}{E:Value->Shared->Prop}{s:Shared}
theorem Aea:typeLookup (.type "tuple") "keys"=pure none:=by rw[typeLookup_type,builtinLookup_eq_fast];kernel_rfl
theorem U1 {a:Addr}{o:Obj}{xs:Array Value}{k:Nat}{Q:Option Value->Shared->Prop} (hx:s.heap.get? a=some o) (hc:o.cls=.type "tuple") (hdat:o.data=.seq xs k) (hd:o.dict=none) (hA:A.handled=none)
  (h:∀ h' tk,(∀ b ob,s.heap.get? b=some ob->h'.get? b=some ob)->Q none { s with heap:=h',toks:=tk }):wpAny (model prog w) A (getAttr? (.ref a) "keys") Q E s:=by
 obtain⟨c,dct,dat,sl⟩:=o
 simp only at hc hdat hd
 subst hc hdat hd
 obtain⟨hp,g,d,tk,os⟩:=s
 have hT:∀ tk',(⟨hp,g,d,tk',os⟩:Shared).TypeIs (.ref a) "tuple":=fun _=>⟨_,hx,rfl⟩
 have f1:=sub_AttributeError
 have f3:=PySem.F.slot_tuple_getattribute.lookup
 have f4:=PySem.F.slot_tuple_getattribute.bind (.ref a)
 have f5:=am_tuple_getattr_none
 unfold getAttr? getAttrBy? getAttrBy
 repeat (any_goals (first|assumption|exact hT _|((with_reducible show wpAny _ _ (call (Value.builtin "tuple.__getattribute__") _ _) _ _ _);refine Awp PySem.F.slot_tuple_getattribute (hT _) am_entry_tuple_getattribute (PySem.F.args_tuple_getattribute_2 _ _) (meets_getattribute_miss_tuple a xs k sl "keys" _ Aea (by decide +kernel) (by decide +kernel)) ⟨hx,hA,fun h' tk' e hx'=>?_⟩)|wp_step))
 obtain⟨t',u',he⟩:=hx'.there
 show wpAny _ _ (getattributeRaised _ _ _ _ _ _ _) _ _ _
 unfold getattributeRaised
 repeat (any_goals (first|assumption|wp_step))
 exact h _ _ hx'.keeps
end
end TX
end L2
end S_DX1
section S_DX2
namespace L2
namespace TX
open PySem PySem.Spec PyProof.Rows
theorem Nw:entryFor table "dict.update.loop"=some Builtin.«dict.update.loop»:=entryFor_of_tree (by kernel_rfl)
theorem E9:plainId "dict.update.loop"=true:=by decide +kernel
structure Fills (prog:Program) (w:World) (A:Around) (d:Addr) (wr:List Addr) (n:Nat) (P:Nat->Value->Prop) (C:Heap->Prop) (Dn:Nat->Heap->Prop):Prop where
 pair:∀ i v h,i < n->P i v->C h->∃ (a:Addr) (o:Obj) (c:Nat) (k x:Value),v=.ref a/\h.get? a=some o/\o.cls=.type "tuple"/\o.data=.seq #[k,x] c /\
  ∀ (s:Shared) (Q:Unit->Shared->Prop) (E:Value->Shared->Prop),s.heap=h->Dn i h->(∀ h' tk,s.toks<=tk->Heap.SameBut d s.heap h'->Dn (i+1) h'->Q () { s with heap:=h',toks:=tk })->wpAny (model prog w) A (dictSet d k x) Q E s
 cKeep:∀ h h',C h->(∀ b o,b≠d->b∉wr->h.get? b=some o->h'.get? b=some o)->C h'
 dKeep:∀ i h h',Dn i h->(∀ b o,b∉wr->h.get? b=some o->h'.get? b=some o)->Dn i h'
section
variable {prog:Program}{w:World}{A:Around}{E:Value->Shared->Prop}{R:Result->Shared->Prop}{I:Addr}{fp wr:List Addr}{G:Array GenState->Array GenState->Prop}{n:Nat}{P:Nat->Value->Prop}{St:Nat->Shared->Prop}{C:Heap->Prop}{Dn:Nat->Heap->Prop}
theorem Mu {s:Shared}{a:Addr}{o:Obj}{c:Nat}{k x:Value}{Q:List Value->Shared->Prop} (ho:s.heap.get? a=some o) (hc:o.cls=.type "tuple") (hd:o.data=.seq #[k,x] c) (h:Q [k,x] s):wpAny (model prog w) A (Builtin.Dict.pairItems (.ref a)) Q E s:=by
 unfold Builtin.Dict.pairItems
 refine Atu (Av6 (T:="tuple") ⟨o,ho,hc⟩ ?_)
 rw[At4 (by decide)]
 refine Atu (Awo ho hd ?_)
 exact Atv h
theorem Yj (W:WalksS prog w A.in1 I fp wr G n P St) (d:Addr) (hdf:d∉fp) (F:Fills prog w A.in1 d wr n P C Dn) (res:Value) :
  ∀ (k i:Nat) (s:Shared),n - i=k->i<=n->St i s->C s.heap->Dn i s.heap->(∀ s',Moved (d::wr) G s s'->Dn n s'.heap->R (.ok (.ret res)) s') ->
   codeAny (model prog w) A (.builtin "dict.update.loop" ⟨[.ref d,.ref I,rawInt i,res],[]⟩) R s:=by
 have hdw:d∉wr:=fun h=>hdf (W.sub _ h)
 have hsub:∀ b∈wr,b∈d::wr:=fun b hb=>Atz _ hb
 intro k
 induction k with
 |zero =>
  intro i s hk hi hst hC hD hR
  have hin:i=n:=by lia
  subst hin
  refine codeAny_builtin Nw ?_
  rw[Around.under_plainId E9 _]
  show wpAny _ A.in1 (pyNext (.ref I) >>= _) _ _ s
  refine Atu (W.done s _ _ hst fun s' hm=>?_)
  show wpAny _ A.in1 (Builtin.Dict.addKeywords d [] >>= fun _=>ret res) _ _ s'
  refine Atu (Atv ?_)
  exact Atv (hR s' (hm.mono hsub) (F.dKeep _ _ _ hD fun b o hb e=>hm.heap b o hb e))
 |succ k ih =>
  intro i s hk hi hst hC hD hR
  have hlt:i < n:=by lia
  refine codeAny_builtin Nw ?_
  rw[Around.under_plainId E9 _]
  show wpAny _ A.in1 (pyNext (.ref I) >>= _) _ _ s
  refine Atu (W.item i s _ _ hlt hst fun v s' hP hst' hm=>?_)
  have hC':C s'.heap:=F.cKeep _ _ hC fun b o _ hb e=>hm.heap b o hb e
  have hD':Dn i s'.heap:=F.dKeep _ _ _ hD fun b o hb e=>hm.heap b o hb e
  obtain⟨a,o,c,kv,xv,rfl,ho,hc,hd,hset⟩:=F.pair i v s'.heap hlt hP hC'
  refine Atu (Au4 (Atu (wpAny_tryCatch (Mu ho hc hd ?_))))
  refine Au4 (hset s' _ _ rfl hD' fun h' tk htk hsb hD2=>?_)
  refine Atv ⟨plainId_quiet E9 _,?_⟩
  refine ih (i+1) _ (by lia) hlt (W.frame _ s' _ _ hst' htk fun b hb o e=>?_) (F.cKeep _ _ hC' fun b o hb _ e=>(hsb.2 b hb).trans e) hD2 fun s'' hm'' hD''=>?_
  ·exact (hsb.2 b (fun h:b=d=>hdf (by rw[<- h];exact hb))).trans e
  ·refine hR s'' (Moved.trans W.gtrans ((hm.mono hsub).then_heap htk fun b o hb e=>?_) hm'') hD''
   exact (hsb.2 b (fun h:b=d=>hb (by rw[h];exact At0))).trans e
end
end TX
end L2
end S_DX2
section S_DX3
namespace L2
namespace TX
open PySem PySem.Spec PyProof.Rows
section
variable {prog:Program}{w:World}{A:Around}{E:Value->Shared->Prop}{s:Shared}{C:Heap->Prop}{Dn:Nat->Heap->Prop}
noncomputable def Jx:Obj:={ cls:=.type "dict",data:=.dict #[] }
theorem dict_tuple {t:Addr}{o:Obj}{items:Array Value}{c:Nat}{Q:Value->Shared->Prop} (hh:A.handled=none) (ho:s.heap.get? t=some o) (hc:o.cls=.type "tuple") (hdat:o.data=.seq items c) (hd:o.dict=none)
  (F:∀ I,s.heap.objs.size < I->Fills prog w A.in1.in1 s.heap.objs.size [I] items.size (fun i v=>items[i]?=some v) C Dn)
  (hC:∀ h,(∀ b ob,s.heap.get? b=some ob->h.get? b=some ob)->C h) (hD:∀ h,h.get? s.heap.objs.size=some Jx->Dn 0 h)
  (h:∀ h' tk,(∀ b ob,s.heap.get? b=some ob->h'.get? b=some ob)->Dn items.size h'->Q (.ref s.heap.objs.size) { s with heap:=h',toks:=tk }) :
  wpAny (model prog w) A (call (.type "dict") [.ref t]) Q E s:=by
 refine callType_codes (Q₁:=fun obj s₁=>obj=.ref s.heap.objs.size/\s₁={ s with heap:=s.heap.push Jx }) PySem.F.kt_called_dict (PySem.F.kt_typeCall_dict_1 _) PySem.F.entry_dict_init (kt_code_dict_new _ ⟨rfl,rfl⟩) ?_
 rintro obj s₁ ⟨rfl,rfl⟩
 have hlt:t < s.heap.objs.size:=At1 ho
 have hg:(s.heap.push Jx).get? s.heap.objs.size=some Jx:=At9 _ rfl
 have hT:Shared.TypeIs { s with heap:=s.heap.push Jx } (.ref s.heap.objs.size) "dict":=⟨_,hg,rfl⟩
 have ho1:(s.heap.push Jx).get? t=some o:=Atw _ ho
 refine⟨hT,PySem.F.args_dict_init_2 _ _,?_⟩
 unfold Builtin.«dict.__init__»
 refine Atu ?_
 unfold Builtin.Dict.selfAndRest
 refine Atu (wpAny_notOrdered_dict hT ?_)
 show wpAny _ _ (pure (s.heap.objs.size,[Value.ref t])) _ _ _
 refine Atv ?_
 show wpAny _ _ (Builtin.Dict.updateFrom "dict.__init__" s.heap.objs.size (.ref t) [] .none) _ _ _
 unfold Builtin.Dict.updateFrom
 refine Atu (Av6 (T:="tuple") ⟨o,ho1,hc⟩ ?_)
 rw[At4 (by decide)]
 refine Atu (U1 ho1 hc hdat hd hh fun h1 tk1 hk1=>?_)
 rw[At4 (show (none:Option Value).isNone=true from rfl)]
 refine Atu (wpAny_rule ?_)
 have ht1:h1.IsTuple t items:=⟨o,hk1 _ _ ho1,hc,c,hdat⟩
 refine Atu (wpAny_pyIter_tuple ht1 ?_)
 have hI:s.heap.objs.size < h1.objs.size:=At1 (hk1 _ _ hg)
 have htI:t≠h1.objs.size:=Aub (Nat.lt_trans hlt hI)
 have kp:∀ b ob,s.heap.get? b=some ob->(h1.push { cls:=.type "tuple_iterator",data:=.fields #[.ref t,.int 0 0] }).get? b=some ob:=fun b ob e=>Atw _ (hk1 _ _ (Atw _ e))
 refine Atv ⟨plainId_quiet E9 _,?_⟩
 refine Yj ((Walks.tuple (A:=A.in1.in1) hh h1.objs.size t htI items).toS) s.heap.objs.size (by
  simp only[Aup,Auf,or_false,not_or]
  exact⟨Aub hI,Avp hlt⟩) (F h1.objs.size hI) .none items.size 0 _ (by lia) (Auw _) ⟨⟨_,At9 _ rfl,rfl,rfl⟩,ht1.push _⟩ (hC _ kp) (hD _ (Atw _ (hk1 _ _ hg))) fun s' hm hD'=>?_
 obtain⟨h',g',d',tk',os'⟩:=s'
 have eg:g'=s.gens:=hm.gens
 have ed:d'=s.drawn:=hm.drawn
 have eo:os'=s.os:=hm.os
 subst eg;subst ed;subst eo
 refine⟨rfl,h h' tk' (fun b ob e=>?_) hD'⟩
 refine hm.heap b ob (fun hb=>?_) (kp b ob e)
 have hb':=At1 e
 rcases List.mem_cons.mp hb with rfl|hb
 ·exact absurd hb' (Aut _)
 ·rw[List.mem_singleton.mp hb] at hb'
  exact absurd (Nat.lt_trans hI hb') (Aut _)
end
end TX
end L2
end S_DX3
section S_ML36
namespace L2
namespace ML
open PySem PySem.Spec PyProof.Rows
abbrev Aju (kvs:List (Key×V)) (k:Key) (v:V):List (Key×V):=if kvs.any (fun kv=>kv.1=k) then kvs.map (fun kv=>if kv.1=k then (kv.1,v) else kv) else kvs++[(k,v)]
theorem KV.any {kvs:List (Key×V)}{us:List (Key×Value)} (r:KV kvs us) (k:Key):kvs.any (fun kv=>kv.1=k)=us.any (fun kv=>kv.1=k):=by
 induction r with
 |nil=>rfl
 |cons h t ih=>rw[Avd,Avd,ih,h.1]
theorem KV.put {kvs:List (Key×V)}{us:List (Key×Value)} (r:KV kvs us) (k:Key) {y:V}{u:Value} (ry:RelV y u):KV (Aju kvs k y) (stored us k u):=by
 have e0:=KV.any r k
 have c1:KV (kvs.map fun kv=>if kv.1=k then (kv.1,y) else kv) (us.map fun kv=>if kv.1=k then (kv.1,u) else kv):=by
  clear e0
  induction r with
  |nil=>exact .nil
  |@cons p q ps qs h t ih =>
   refine .cons ?_ ih
   dsimp only
   by_cases e:p.1=k
   ·rw[At4 e,At4 (h.1.symm.trans e)];exact⟨h.1,ry⟩
   ·rw[At8 e,At8 (fun z=>e (h.1.trans z))];exact h
 have c2:KV (kvs++[(k,y)]) (us++[(k,u)]):=by
  clear e0 c1
  induction r with
  |nil=>exact .cons ⟨rfl,ry⟩ .nil
  |cons h t ih=>exact .cons h ih
 unfold Aju stored
 rw[e0]
 split
 ·exact c1
 ·exact c2
noncomputable def Agh (kvs:List (Key×V)) (k:Key):Option V:=(kvs.find? fun kv=>kv.1=k).map (·.2)
theorem KV.val {kvs:List (Key×V)}{us:List (Key×Value)} (r:KV kvs us) (k:Key):Ak6 (Agh kvs k) (valueAt us k):=by
 induction r with
 |nil=>exact True.intro
 |@cons p q ps qs h t ih =>
  unfold Agh valueAt at ih ⊢
  rw[Avl,Avl]
  by_cases e:p.1=k
  ·have e':q.1=k:=h.1.symm.trans e
   simp only[e,e',decide_true]
   exact h.2
  ·have e':¬ q.1=k:=fun z=>e (h.1.trans z)
   simp only[e,e',decide_false]
   exact ih
noncomputable def Aci:List Str->List D->Str->Option D
 |k::ks,v::vs,x=>if k=x then some v else Aci ks vs x
 |_,_,_=>none
noncomputable def Apa:List Str->List D->Str->D->List D
 |k::ks,v::vs,x,y=>(if k=x then y else v)::Apa ks vs x y
 |_,vs,_,_=>vs
def Aat (ks:List Str) (vs:List D) (x:Str) (y:D):List Str×List D:=if x∈ks then (ks,Apa ks vs x y) else (ks++[x],vs++[y])
section
variable {K:W.Frag}{H:Hp}{μ:List Addr}{B:Addr->Prop}
inductive RS (K:W.Frag) (H:Hp) (μ:List Addr) (B:Addr->Prop) (ks:List Str) (vs:List D) (kvs:List (Key×V)):Prop
 |mk (h1:ks.map Sum.inr=kvs.map (·.1)) (h2:Reps K H μ B vs (kvs.map (·.2)))
theorem RS.cons_inv {k:Str}{ks:List Str}{vs:List D}{kvs:List (Key×V)} (r:RS K H μ B (k::ks) vs kvs):∃ v vs' p kvs',vs=v::vs'/\kvs=p::kvs'/\p.1=.inr k/\Rep K H μ B v p.2/\RS K H μ B ks vs' kvs':=by
 obtain⟨h1,h2⟩:=r
 cases kvs with
 |nil=>simp at h1
 |cons p kvs =>
  rw[At5,At5] at h1
  obtain⟨e1,e2⟩:=List.cons.inj h1
  rw[At5] at h2
  cases h2 with
  |cons r rs=>exact⟨_,_,p,kvs,rfl,rfl,e1.symm,r,e2,rs⟩
theorem RS.nil_inv {vs:List D}{kvs:List (Key×V)} (r:RS K H μ B [] vs kvs):vs=[]/\kvs=[]:=by
 obtain⟨h1,h2⟩:=r
 cases kvs with
 |nil=>cases h2;exact⟨rfl,rfl⟩
 |cons p kvs=>simp at h1
theorem RS.any {ks:List Str}{vs:List D}{kvs:List (Key×V)} (r:RS K H μ B ks vs kvs) (x:Str):kvs.any (fun kv=>kv.1=.inr x)=decide (x∈ks):=by
 induction ks generalizing vs kvs with
 |nil=>obtain⟨rfl,rfl⟩:=r.nil_inv;rfl
 |cons k ks ih =>
  obtain⟨v,vs,p,kvs,rfl,rfl,e,_,r⟩:=r.cons_inv
  rw[Avd,ih r,e]
  by_cases q:x=k
  ·subst q;simp
  ·have:¬ (Sum.inr k:Key)=Sum.inr x:=fun z=>q (Sum.inr.inj z).symm
   simp[q,Avn q]
theorem RS.get {ks:List Str}{vs:List D}{kvs:List (Key×V)} (r:RS K H μ B ks vs kvs) {x:Str}{z:D} (h:Aci ks vs x=some z):∃ v,Agh kvs (.inr x)=some v/\Rep K H μ B z v:=by
 induction ks generalizing vs kvs with
 |nil=>cases h
 |cons k ks ih =>
  obtain⟨v,vs,p,kvs,rfl,rfl,e,rv,r⟩:=r.cons_inv
  rw[Aci] at h
  unfold Agh
  rw[Avl]
  by_cases q:k=x
  ·rw[At4 q] at h
   cases h
   subst q
   simp only[e,decide_true]
   exact⟨_,rfl,rv⟩
  ·rw[At8 q] at h
   have:¬ (Sum.inr k:Key)=Sum.inr x:=fun z=>q (Sum.inr.inj z)
   simp only[e,this,decide_false]
   exact ih r h
theorem RS.put {ks:List Str}{vs:List D}{kvs:List (Key×V)} (r:RS K H μ B ks vs kvs) (x:Str) {y:D}{v:V} (ry:Rep K H μ B y v):RS K H μ B (Aat ks vs x y).1 (Aat ks vs x y).2 (Aju kvs (.inr x) v):=by
 unfold Aat Aju
 rw[r.any x]
 by_cases q:x∈ks
 ·rw[At4 q,At4 (by simpa using q)]
  clear q
  induction ks generalizing vs kvs with
  |nil=>obtain⟨rfl,rfl⟩:=r.nil_inv;exact r
  |cons k ks ih =>
   obtain⟨w,vs,p,kvs,rfl,rfl,e,rv,r⟩:=r.cons_inv
   obtain⟨i1,i2⟩:=ih r
   refine⟨?_,?_⟩
   ·rw[At5,At5,At5,i1]
    congr 1
    split<;>exact e.symm
   ·show Reps K H μ B (Apa (k::ks) (w::vs) x y) _
    rw[Apa,At5,At5]
    refine .cons ?_ i2
    by_cases q:k=x
    ·subst q;rw[At4 rfl,At4 e];exact ry
    ·rw[At8 q,At8 (fun z=>q (Sum.inr.inj (e.symm.trans z)))];exact rv
 ·rw[At8 q,At8 (by simpa using q)]
  obtain⟨h1,h2⟩:=r
  refine⟨?_,?_⟩
  ·rw[Avg,Avg,h1];rfl
  ·rw[Avg];exact h2.append (.cons ry .nil)
end
noncomputable def Yk (m:MH):D->Option (List Str×List D)
 |.dks ks vs=>some (ks,vs)
 |.ref n=>match m[n]? with
  |some (.dcs ks vs)=>some (ks,vs)
  |_=>none
 |_=>none
def U9:D->D->MH->Option D:=fun x y m=>(Yk m x).bind fun kv=>match y with
 |.str k=>Aci kv.1 kv.2 k
 |_=>none
def Arb:D->D->MH->Option D:=fun x y m=>(Yk m y).bind fun kv=>match x with
 |.str k=>some (.bl (decide (k∈kv.1)))
 |_=>none
def Ms:D->D->MH->Option D:=fun x y m=>(Yk m y).bind fun kv=>match x with
 |.str k=>some (.bl (!decide (k∈kv.1)))
 |_=>none
section
variable {K:W.Frag}{H:Hp}{μ:List Addr}{B:Addr->Prop}
theorem P5 (S:Sim K H μ m) {d:D} (r:Rep K H μ (·∈μ) d v) (h:Yk m d=some (ks,vs)):∃ a kvs,v=.ref a/\Rd H a (.dK kvs)/\RS K H μ (·∈μ) ks vs kvs:=by
 cases r with
 |dks h1 h2 h3 h4=>cases h;exact⟨_,_,rfl,h1,h3,h4⟩
 |@ref n a e =>
  unfold Yk at h
  cases q:m[n]? with
  |none=>simp[q] at h
  |some o =>
   simp only[q] at h
   cases o with
   |lst _=>exact Ah h
   |dct _ _=>exact Ah h
   |dcs ks vs =>
    cases h
    obtain⟨kvs,q1,q2,q3⟩:=S.obj n a _ e q
    exact⟨a,kvs,rfl,.inl q1,q2,q3⟩
 |_=>exact Ah h
end
section
variable {X:Cx}{pins:List (Addr×Obj)}{σ:St}{H:Hp}{s:Shared}{a:Addr}
theorem Ahn (I:Inv X pins σ H s) (e:Rd H a (.dK kvs)):kvs.length<=sizeLine/\(a == sysModules)=false/\∃ us,KV kvs us/\s.heap.DictOf (Er X.prog X.w) a us :=
 (show ObjOk X.prog X.w X.K H s.heap a (.dK kvs) from e.ok I.hok)
end
section
variable {X:Cx}{a b c e:Expr}{es:List Expr}{pos p p':Pos}{x:Str}
theorem Ai7 {f g:FE} (ha:PD X a f) (hb:PD X b g) (hs:Lj b):PD X (.Subscript a b pos) (f2 U9 f g):=by
 intro pins s σ H Q I ⟨env,μ,m,z,S,E,h,q⟩
 obtain⟨d1,h1,h⟩:=bind_some h
 obtain⟨d2,h2,h⟩:=bind_some h
 obtain⟨kv,h3,h⟩:=bind_some h
 refine Subscript_ (Ao5 ha hb I (show tE X.K f σ H fun x H1=>tE X.K g σ H1 fun y H2=>Same H H2/\Rep X.K H2 μ (·∈μ) d1 x/\Rep X.K H2 μ (·∈μ) d2 y from ⟨env,μ,m,d1,S,E,h1,fun v H1 s1 r1=>⟨env,μ,m,d2,S.same s1,E.same s1,h2,fun u H2 s2 r2=>⟨s1.trans s2,r1.same s2,r2⟩⟩⟩) fun v u s2 x y H2 I2 rx ry q2=>?_)
 obtain⟨sm,r1,r2⟩:=q2
 cases r2 with
 |str k ok =>
  obtain⟨ad,kvs,rfl,hd,rs⟩:=P5 (S.same sm) r1 (by rw[h3])
  obtain⟨w,hw,rw'⟩:=rs.get h
  cases rx
  obtain⟨t,rfl⟩:=ry
  obtain⟨z1,hm,us,rel,dd⟩:=Ahn I2 hd
  have q3:=KV.val rel (.inr k)
  rw[hw] at q3
  cases q4:valueAt us (.inr k) with
  |none=>rw[q4] at q3;exact (show False from q3).elim
  |some w' =>
   rw[q4] at q3
   refine subscriptTail_builtinR (x:=w') dd.typeIs slot_dict_getitem.lookup (wpAny_getItem_of (Ex k t) dd.mapOf q4 ?_) (hs _ _)
   exact⟨rfl,w,H2,I2.tok _,q3,q w H2 sm rw'⟩
 |_=>exact Ah h
theorem Amt:OpM X (compareOp .In) Arb:=by
 intro pins s σ H μ m x y z v u v' u' Q I S rx ry r1 r2 e q
 obtain⟨kv,h3,h⟩:=bind_some e
 cases rx with
 |str k ok =>
  cases h
  obtain⟨ad,kvs,rfl,hd,rs⟩:=P5 S ry (by rw[h3])
  obtain⟨t,rfl⟩:=r1
  cases r2
  obtain⟨z1,hm,us,rel,dd⟩:=Ahn I hd
  refine wpAny_in_of (knd:=Er X.prog X.w) (k:=.inr k) (Ex k t) hm dd.mapOf ?_
  have q3:=Aa1 (KV.val rel (.inr k))
  have q5:(Agh kvs (.inr k)).isSome=decide (k∈kv.1):=by
   rw[<- rs.any k]
   unfold Agh
   rw[Option.isSome_map,Avr,List.find?_isSome,List.any_eq_true]
  rw[<- q3,q5]
  exact⟨.bl _,H,I.tok _,rfl,q _ H (Same.refl H) (.bl _)⟩
 |_=>exact Ah h
end
noncomputable def G9:List D->Option (List (Str×D))
 |[]=>some []
 |.tup [.str k,v]::ds=>(G9 ds).bind fun r=>some ((k,v)::r)
 |_=>none
def Nv (ps:List (Str×D)):List Str×List D:=ps.foldl (fun a p=>Aat a.1 a.2 p.1 p.2) ([],[])
def Ik:List D->MH->Option D:=fun xs _=>match xs with
 |[.tup ds]=>(G9 ds).bind fun ps=>some (.dks (Nv ps).1 (Nv ps).2)
 |_=>none
abbrev Q4:=Str×D×V×Value
def fD (T:List Q4):List Str×List D:=T.foldl (fun a q=>Aat a.1 a.2 q.1 q.2.1) ([],[])
noncomputable def fV (T:List Q4):List (Key×V):=T.foldl (fun l q=>Aju l (.inr q.1) q.2.2.1) []
noncomputable def fU (T:List Q4):List (Key×Value):=T.foldl (fun l q=>stored l (.inr q.1) q.2.2.2) []
theorem Ahp (T:List Q4) (q:Q4):fU (T++[q])=stored (fU T) (.inr q.1) q.2.2.2:=by unfold fU;rw[List.foldl_append];rfl
theorem Vn (l:List (Key×Value)) (k:Key) (v:Value):(stored l k v).length<=l.length+1:=by
 unfold stored
 split
 ·rw[Aud];lia
 ·simp
theorem Ae1 (T:List Q4):(fU T).length<=T.length:=by
 have go:∀ (T:List Q4) (l:List (Key×Value)),(T.foldl (fun l q=>stored l (.inr q.1) q.2.2.2) l).length<=l.length+T.length:=by
  intro T
  induction T with
  |nil=>intro l;simp
  |cons q T ih=>intro l;have h1:=ih (stored l (.inr q.1) q.2.2.2);have h2:=Vn l (.inr q.1) q.2.2.2;simp only[List.foldl_cons,Aur];lia
 have:=go T []
 simpa [fU] using this
theorem Aqu {K:W.Frag}{H:Hp}{μ:List Addr}{B:Addr->Prop} (T:List Q4) (hT:∀ q∈T,Rep K H μ B q.2.1 q.2.2.1/\RelV q.2.2.1 q.2.2.2):RS K H μ B (fD T).1 (fD T).2 (fV T)/\KV (fV T) (fU T):=by
 have go:∀ (T:List Q4) (a:List Str×List D) (l:List (Key×V)) (u:List (Key×Value)),(∀ q∈T,Rep K H μ B q.2.1 q.2.2.1/\RelV q.2.2.1 q.2.2.2)->RS K H μ B a.1 a.2 l->KV l u ->
   RS K H μ B (T.foldl (fun a q=>Aat a.1 a.2 q.1 q.2.1) a).1 (T.foldl (fun a q=>Aat a.1 a.2 q.1 q.2.1) a).2 (T.foldl (fun l q=>Aju l (.inr q.1) q.2.2.1) l)/\KV (T.foldl (fun l q=>Aju l (.inr q.1) q.2.2.1) l) (T.foldl (fun l q=>stored l (.inr q.1) q.2.2.2) u):=by
  intro T
  induction T with
  |nil=>intro a l u _ h1 h2;exact⟨h1,h2⟩
  |cons q T ih =>
   intro a l u hT h1 h2
   have hq:=hT q (At0 ..)
   exact ih _ _ _ (fun q hq=>hT q (Atz _ hq)) (h1.put q.1 hq.1) (KV.put h2 (.inr q.1) hq.2)
 exact go T ([],[]) [] [] hT ⟨rfl,.nil⟩ .nil
section
variable {X:Cx}{pins:List (Addr×Obj)}{σ:St}{H:Hp}{s:Shared}{μ:List Addr}{B:Addr->Prop}
theorem Vb (I:Inv X pins σ H s):∀ {ds:List D}{xs:List V}{its:List Value}{ps:List (Str×D)},Reps X.K H μ B ds xs->Vals xs its->G9 ds=some ps ->
  ∃ T:List Q4,ps=T.map (fun q=>(q.1,q.2.1))/\T.length=its.length/\(∀ q∈T,Rep X.K H μ B q.2.1 q.2.2.1/\RelV q.2.2.1 q.2.2.2) /\
   ∀ (i:Nat) (v:Value),its[i]?=some v->∃ (q:Q4) (a:Addr) (o:Obj) (c t:Nat),T[i]?=some q/\v=.ref a/\s.heap.get? a=some o/\o.cls=.type "tuple"/\o.data=.seq #[.str q.1 t,q.2.2.2] c:=by
 intro ds
 induction ds with
 |nil=>intro xs its ps r rv h;cases r;cases rv;cases h;exact⟨[],rfl,rfl,(fun _ h=>absurd h (by simp)),fun i v h=>absurd h (by simp)⟩
 |cons d ds ih =>
  intro xs its ps r rv h
  cases r with
  |cons r rs =>
  cases rv with
  |cons rv1 rvs =>
  match d,r,h with
  |.tup [.str k,w],r,h =>
   obtain⟨ps',h1,h2⟩:=bind_some h
   cases h2
   obtain⟨T,e1,e2,e3,e4⟩:=ih rs rvs h1
   cases r with
   |@tup _ a zs hq rs' =>
    obtain⟨its',rz,⟨o,ho,hc,n,hd⟩,_⟩:=I.tuple hq
    cases rs' with
    |cons ra rs' =>
    cases rs' with
    |@cons _ vb _ _ rb rs' =>
    cases rs'
    cases ra
    cases rz with
    |cons ra1 rz =>
    cases rz with
    |@cons _ ub _ _ rb1 rz =>
    cases rz
    obtain⟨t,rfl⟩:=ra1
    cases rv1
    refine⟨(k,w,vb,ub)::T,by rw[At5,<- e1],by rw[Aur,Aur,e2],fun q hq=>?_,fun i v hv=>?_⟩
    ·rcases List.mem_cons.mp hq with rfl|hq
     ·exact⟨rb,rb1⟩
     ·exact e3 q hq
    ·cases i with
     |zero=>simp at hv;subst hv;exact⟨_,a,o,n,t,rfl,rfl,ho,hc,hd⟩
     |succ i =>
      rw[Avc] at hv
      obtain⟨q,a',o',c',t',h1,h2⟩:=e4 i v hv
      exact⟨q,a',o',c',t',by rw[Avc];exact h1,h2⟩
theorem Ab3 (hr:Room k X.A):Lg X (.type "dict") Ik:=by
 intro pins s σ H μ m xs z vs us Q I S rx rv e q
 match xs,e with
 |[.tup ds],e =>
  obtain⟨ps,h1,h2⟩:=bind_some e
  cases h2
  obtain⟨v,rfl,r⟩:=rx.one
  obtain⟨u,rfl,ru⟩:=Jh rv
  cases r with
  |@tup _ t zs hq rs =>
  cases ru
  obtain⟨its,rz,⟨o,ho,hc,n,hd,hdn⟩,hz⟩:=I.tupleD hq
  obtain⟨T,e1,e2,e3,e4⟩:=Vb I rs rz h1
  have ep:Nv ps=fD T:=by rw[e1];unfold Nv fD;rw[List.foldl_map]
  obtain⟨f1,f2⟩:=Aqu T e3
  have hline:sizeLine=16777216:=Au9
  have lz:=rz.length
  have hb:∀ b ob,s.heap.get? b=some ob->b < s.heap.objs.size:=fun b ob e=>At1 e
  refine TX.dict_tuple (C:=fun h=>∀ b ob,s.heap.get? b=some ob->h.get? b=some ob) (Dn:=fun i h=>h.DictOf (Er X.prog X.w) s.heap.objs.size (fU (T.take i))) hr.hd ho hc hd hdn (fun Ia hI=>⟨fun i v h hi hv hC=>?_,fun h h' hC hk b ob e=>?_,fun i h h' hD hk=>?_⟩) (fun h hk=>hk) (fun h hg=>?_) (fun h' tk hk hD=>?_)
  ·obtain⟨q,a,o',c,t',q1,q2,q3,q4,q5⟩:=e4 i v (by simpa using hv)
   refine⟨a,o',c,_,_,q2,hC _ _ q3,q4,q5,fun s' Q' E' hs hD hQ=>?_⟩
   have et:T.take (i+1)=T.take i++[q]:=by rw[List.take_add_one,q1];rfl
   have hl:=Ae1 (T.take i)
   have hl2:=List.length_take_le i T
   have hl3:its.toArray.size=its.length:=by simp
   rw[<- hs] at hD
   refine wpAny_dictSet_pairs (knd:=Er X.prog X.w) (k:=.inr q.1) (hsz:=by lia) (Ex q.1 t') hD fun h' hd' hs'=>?_
   refine hQ h' _ (Av0 _) hs' ?_
   rw[et,Ahp]
   exact hd'
  ·refine hk b ob (Aub (hb b ob e)) ?_ (hC b ob e)
   intro hm
   rw[List.mem_singleton.mp hm] at e
   exact absurd (Nat.lt_trans hI (hb _ _ e)) (Aut _)
  ·obtain⟨od,es,ep,h0,r⟩:=hD
   exact⟨od,es,ep,hk _ _ (by simp;exact Aub hI) h0,r⟩
  ·refine⟨_,_,_,hg,⟨rfl,rfl,rfl⟩,rfl,?_,?_,?_⟩
   ·intro e he;simp at he
   ·exact .nil
   ·exact List.nodup_nil
  ·have I1:Inv X pins σ H { s with heap:=h',toks:=tk }:=I.kept hk
   have eT:T.take its.toArray.size=T:=List.take_of_length_le (by simp[e2])
   rw[eT] at hD
   have hn:H s.heap.objs.size=none:=I.fresh
   have lf:(fV T).length=(fU T).length:=Paired.length f2
   have hl:=Ae1 T
   have I2:Inv X pins σ (upd H s.heap.objs.size (.dK (fV T))) { s with heap:=h',toks:=tk }:=I.laid (a:=s.heap.objs.size) (o:=.dK (fV T)) (t':=tk) hk (At3 _) ⟨by lia,beq_eq_false_iff_ne.mpr (Avn (Aub (Aii I))),fU T,f2,hD⟩
   refine⟨.ref s.heap.objs.size,_,I2,rfl,q _ _ (A9 hn) ?_⟩
   obtain⟨g1,g2⟩:=f1
   rw[ep]
   exact .dks (.inl Ba) (S.nnone hn) g1 (g2.same (A9 hn))
theorem Om:OpM X (compareOp .NotIn) Ms:=by
 intro pins s σ H μ m x y z v u v' u' Q I S rx ry r1 r2 e q
 obtain⟨kv,h3,h⟩:=bind_some e
 cases rx with
 |str k ok =>
  cases h
  obtain⟨ad,kvs,rfl,hd,rs⟩:=P5 S ry (by rw[h3])
  obtain⟨t,rfl⟩:=r1
  cases r2
  obtain⟨z1,hm,us,rel,dd⟩:=Ahn I hd
  refine wpAny_notIn_of (knd:=Er X.prog X.w) (k:=.inr k) (Ex k t) hm dd.mapOf ?_
  have q3:=Aa1 (KV.val rel (.inr k))
  have q5:(Agh kvs (.inr k)).isSome=decide (k∈kv.1):=by
   rw[<- rs.any k]
   unfold Agh
   rw[Option.isSome_map,Avr,List.find?_isSome,List.any_eq_true]
  rw[<- q3,q5]
  exact⟨.bl _,H,I.tok _,rfl,q _ H (Same.refl H) (.bl _)⟩
 |_=>exact Ah h
end
noncomputable def Le:List D->Option (List Str)
 |[]=>some []
 |.str x::ds=>(Le ds).bind fun r=>some (x::r)
 |_=>none
def J3:List D->MH->Option (List D):=fun xs m=>match xs with
 |[d]=>(sqL m d).bind fun ds=>(Le ds).bind fun ts=>if ts.length < 64 then some ((TX.sortT ts).map .str) else none
 |_=>none
theorem Al1 {X:Cx}{pins:List (Addr×Obj)}{σ:St}{H:Hp}{s:Shared} (I:Inv X pins σ H s) (d':Drawn):Inv X pins σ H { s with drawn:=d' }:=⟨I.ok,I.os,I.bare,I.base,I.loc,I.cell,I.free,I.freeC,I.pin,I.hok,I.len⟩
theorem Uk {K:W.Frag}{H:Hp}{μ:List Addr}{B:Addr->Prop}:∀ {ds:List D}{vs:List V}{us:List Value}{ts:List Str},Reps K H μ B ds vs->Vals vs us->Le ds=some ts->StrsAre us ts/\(∀ x∈ts,PyData.strOk x=true)
 |_,_,_,_,.nil,.nil,h=>by cases h;exact⟨.nil,fun _ h=>absurd h (by simp)⟩
 |_,_,_,_,.cons r rs,.cons ru rv,h=>by
  cases r with
  |str x ok =>
   obtain⟨r',h1,h2⟩:=bind_some h
   cases h2
   obtain⟨t,rfl⟩:=ru
   obtain⟨i1,i2⟩:=Uk rs rv h1
   refine⟨.cons x t i1,fun y hy=>?_⟩
   rcases List.mem_cons.mp hy with rfl|hy
   ·exact ok
   ·exact i2 y hy
  |_=>exact Ah h
theorem O7 {K:W.Frag}{H:Hp}{μ:List Addr}{B:Addr->Prop}:∀ {us:List Value}{ts:List Str},StrsAre us ts->(∀ x∈ts,PyData.strOk x=true)->∃ vs,Vals vs us/\Reps K H μ B (ts.map .str) vs
 |_,_,.nil,_=>⟨[],.nil,.nil⟩
 |_,_,.cons x t r,ok=>by
  obtain⟨vs,h1,h2⟩:=O7 (K:=K) (H:=H) (μ:=μ) (B:=B) r fun y hy=>ok y (Atz _ hy)
  exact⟨.str x::vs,.cons ⟨t,rfl⟩ h1,.cons (.str x (ok x (At0 ..))) h2⟩
def Ak7 (P:Program) (w:World) (a:Addr) (ts:List Str):HO:=.ext fun _ h=>TX.SetT P w h a (TX.metT ts)
section
variable {X:Cx}{e:Expr}{pos p p2 pos2:Pos}{k:Nat}{g:FL}
inductive tSet (X:Cx) (g:FL) (σ:St) (H:Hp) (Q:VK):Prop
 |mk (env:A0) (μ:List Addr) (m:MH) (d:D) (ds:List D) (ts:List Str) (S:Sim X.K H μ m) (E:EnvRep X.K H μ σ env) (h:g env m=some [d]) (h1:sqL m d=some ds) (h2:Le ds=some ts) (hz:ts.length < 64) (q:∀ a H',(∀ x∈ts,PyData.strOk x=true)->Same H H'->H a=none->H' a=some (Ak7 X.prog X.w a ts)->Q (.ref a) H')
theorem Ann (hr:Room k X.A) (hg:Gl X "set") (hm:X.mg "set"=none) (hv:bootBuiltins "set"=some (.type "set")) (ha:PL X [e] g) (he:starEach [e] X.env=(false,eval e X.env)::starEach [] X.env):PE X (.Call (.Name "set" p) [e] [] pos) (tSet X g):=by
 intro pins s σ H Q I ⟨env,μ,m,d,ds,ts,S,E,h,h1,h2,hz,q⟩
 refine Aux (D2 I hg hm hv ?_ (by decide) (by decide))
 refine PyProof.Rows.callWith_type1 (thn (ha pos pins s σ H (fun vs H1=>Same H H1/\Reps X.K H1 μ (·∈μ) [d] vs) I ⟨env,μ,m,[d],S,E,h,fun v H1 s1 r1=>⟨s1,r1⟩⟩) fun us s1 ⟨vs,H1,I1,r1,s1',rx⟩=>?_) he rfl
 obtain⟨v,rfl,r⟩:=rx.one
 obtain⟨u,rfl,ru⟩:=Jh r1
 obtain⟨a,xs,rfl,hq,rs⟩:=Jc (S.same s1') r h1
 cases ru
 obtain⟨its,rv,pl,hz'⟩:=I1.list hq
 obtain⟨st,okt⟩:=Uk rs rv h2
 have hl:its.length=ts.length:=st.length
 refine TX.set_list (items:=its.toArray) hr.hd pl.isList (by simpa using st) (by rw[At2];unfold scanBound;lia) fun h' tk hS hk=>?_
 have kp:∀ b o,s1.heap.get? b=some o->h'.get? b=some o:=fun b o e=>hk b o (At1 e) e
 refine⟨.ref s1.heap.objs.size,upd H1 s1.heap.objs.size (Ak7 X.prog X.w s1.heap.objs.size ts),I1.laid (t':=tk) kp (At3 _) ⟨hS,let ⟨o,_,_,_,ho,_⟩:=hS;⟨o,ho⟩,fun h1 h2 x e=>x.at' e⟩,rfl,q _ _ okt (s1'.trans (A9 I1.fresh)) (s1'.free I1.fresh) Ba⟩
theorem Vd (hr:Room k X.A) (hg:Gl X "sorted") (hm:X.mg "sorted"=none) (hg2:Gl X "set") (hm2:X.mg "set"=none) (ha:PL X [e] g) (he:starEach [e] X.env=(false,eval e X.env)::starEach [] X.env)
  (he2:starEach [.Call (.Name "set" p2) [e] [] pos2] X.env=(false,eval (.Call (.Name "set" p2) [e] [] pos2) X.env)::starEach [] X.env):PF X (.Call (.Name "sorted" p) [.Call (.Name "set" p2) [e] [] pos2] [] pos) (Bn J3 g):=by
 intro pins s σ H Q I ⟨env,μ,m,out,S,E,h,q⟩
 obtain⟨xs,h1,h⟩:=bind_some h
 match xs,h1,h with
 |[d],h1,h =>
  obtain⟨ds,h2,h⟩:=bind_some h
  obtain⟨ts,h3,h⟩:=bind_some h
  split at h
  ·rename_i hz
   cases h
   refine Aux (D2 I hg hm boot_sorted ?_ (by decide) (by decide))
   refine PyProof.Rows.callWith_builtin1 (thn ((Dg (Ann (p:=p2) (pos:=pos2) hr hg2 hm2 (by decide +kernel) ha he) J5 he2) pos pins s σ H (fun vs H1=>∃ a,vs=[.ref a]/\(∀ x∈ts,PyData.strOk x=true)/\Same H H1/\H a=none/\H1 a=some (Ak7 X.prog X.w a ts)) I ⟨env,μ,m,d,ds,ts,S,E,h1,h2,h3,hz,fun a H' ok s1 hn hx=>⟨a,rfl,ok,s1,hn,hx⟩⟩) fun us s1 ⟨vs,H1,I1,r1,a,hvs,okt,s1',hn,hx⟩=>?_) he2 rfl
   subst hvs
   obtain⟨u,rfl,ru⟩:=Jh r1
   cases ru
   obtain⟨hS,_⟩:=(show ObjOk X.prog X.w X.K H1 s1.heap a (Ak7 X.prog X.w a ts) from I1.hok a _ hx)
   refine TX.sorted_set hr.hd hS hz fun ha' h' tk d' out e k1 k2 hg' ho=>?_
   have I2:Inv X pins σ H1 { s1 with heap:=ha',drawn:=d' }:=Al1 (I1.kept (t':=s1.toks) k1) d'
   obtain⟨ys,rv,rr⟩:=O7 (K:=X.K) (H:=H1) (μ:=μ) (B:=(·∈μ)) ho fun x hx=>okt x (TX.sortT_mem.mp hx)
   have hl:ys.length=out.length:=rv.length
   have hl2:out.length=(TX.sortT ts).length:=ho.length
   have hl3:=TX.sortT_len ts
   have hline:sizeLine=16777216:=Au9
   have hn1:H1 ha'.objs.size=none:=I2.fresh
   refine⟨.ref ha'.objs.size,upd H1 ha'.objs.size (.lst ys),I2.laid (a:=ha'.objs.size) (o:=.lst ys) (t':=tk) k2 (At3 _) ⟨by lia,out,e,rv,hg'⟩,rfl,q _ _ _ (s1'.trans (A9 hn1)) (s1'.free hn1) Ba (rr.fresh hn1)⟩
  ·exact Ah h
 |[],_,h=>exact Ah h
 |_::_::_,_,h=>exact Ah h
end
section
variable {X:Cx}{a b e:Expr}{pos p p2 pos2:Pos}{k:Nat}{g:FL}{f h:FE}
theorem Adu (hr:Room k X.A) (hm:X.mg "sorted"=none) (hm2:X.mg "set"=none) (ha:QL X [e] g) (hg:Gl X "sorted":=by unfold Gl;kernel_rfl) (hg2:Gl X "set":=by unfold Gl;kernel_rfl) (he':Bh e=true:=by rfl):QF X (.Call (.Name "sorted" p) [.Call (.Name "set" p2) [e] [] pos2] [] pos) (Bn J3 g) :=
 ⟨Vd hr hg hm hg2 hm2 ha.out (An he') (An rfl)⟩
theorem My (hr:Room k X.A) (hm:X.mg "dict"=none) (ha:QL X [e] g) (hg:Gl X "dict":=by unfold Gl;kernel_rfl) (he':Bh e=true:=by rfl):QD X (.Call (.Name "dict" p) [e] [] pos) (Ao Ik g):=⟨Ir (Ab3 hr) hg hm (by decide +kernel) ha.out (by decide) (by decide) (An he') rfl⟩
theorem Rt (ha:QD X a f) (hb:QD X b h) (hs':Arc b=true:=by rfl):QD X (.Subscript a b pos) (f2 U9 f h):=⟨Ai7 ha.out hb.out (T1 hs')⟩
end
section
variable {X:Cx}{e e':Expr}{pos p:Pos}{g:FL}
noncomputable def Ac3:List D->MH->Option D:=fun xs _=>match xs with
 |[.int i,.int j]=>some (.int (if j > i then j else i))
 |_=>none
theorem Ahg (hc:X.calm=true):Lg X (.builtin "max") Ac3:=by
 intro pins s σ H μ m xs z vs us Q I S rx rv e q
 match xs,e with
 |[.int i,.int j],e =>
  cases e
  obtain⟨v,w,rfl,r1,r2⟩:=rx.two
  cases r1
  cases r2
  exact Yb hc pins s σ H _ us Q I rv ⟨i,j,rfl,q _ H (Same.refl H) (.int _)⟩
theorem Ajz (hc:X.calm=true) (hm:X.mg "max"=none) (ha:QL X [e,e'] g) (hg:Gl X "max":=by unfold Gl;kernel_rfl) (he':Bh e=true:=by rfl) (he2:Bh e'=true:=by rfl):QD X (.Call (.Name "max" p) [e,e'] [] pos) (Ao Ac3 g):=⟨Mv (Ahg hc) hg hm (by decide +kernel) ha.out (by decide) (by decide) (An he') (by rw[An he2];rfl)⟩
end
section
variable {X:Cx}{a e:Expr}{apos cpos:Pos}
theorem Y3 {H:Hp}{s:Shared} (I:Inv X pins σ H s) (rx:Rep X.K H μ B x vx) (nx:Bm x=true) (rux:RelV vx ux) (hu:A.units+dep x < cLine) (rs:Reps X.K H μ B ds vs) (ns:Au ds=true) (rv:Vals vs us) :
  ∃ e:Value->Bool,(∀ y∈us,SeqAt.EqAt A s y ux (e y))/\∀ (i:Nat) (y:Value) (d:D),us[i]?=some y->ds[i]?=some d->e y=deq d x:=by
 have key:∀ y,∃ b:Bool,∀ (i:Nat) (d:D),us[i]?=some y->ds[i]?=some d->b=deq d x:=fun y=>by
  by_cases h:∃ (i:Nat) (d:D),us[i]?=some y/\ds[i]?=some d
  ·obtain⟨i,d,h1,h2⟩:=h
   refine⟨deq d x,fun j d' h3 h4=>?_⟩
   obtain⟨v,e1,r1⟩:=rs.get h2
   obtain⟨v',e2,r2⟩:=rs.get h4
   obtain⟨u,e3,r3⟩:=rv.get e1
   obtain⟨u',e4,r4⟩:=rv.get e2
   rw[h1] at e3;cases e3
   rw[h3] at e4;cases e4
   cases r3.inj r4
   unfold deq
   rw[Rx I r1 r2 (B1 ns (Auc h2)) (B1 ns (Auc h4))]
  ·exact⟨false,fun i d h1 h2=>absurd ⟨i,d,h1,h2⟩ h⟩
 refine⟨fun y=>Classical.choose (key y),fun y hy=>?_,fun i y d h1 h2=>Classical.choose_spec (key y) i d h1 h2⟩
 obtain⟨i,hi⟩:=Avt hy
 have hil:i < ds.length:=by
  have:=(List.getElem?_eq_some_iff.mp hi).1
  rw[rs.length,rv.length];exact this
 obtain⟨v,e1,r1⟩:=rs.get (i:=i) (d:=ds[i]) (by simp[hil])
 obtain⟨u,e3,r3⟩:=rv.get e1
 rw[hi] at e3;cases e3
 have ec:=Classical.choose_spec (key y) i ds[i] hi (by simp[hil])
 show SeqAt.EqAt A s y ux (Classical.choose (key y))
 rw[ec]
 exact Tq I r1 rx (B1 ns (Auz hil)) nx r3 rux hu
def Gx:D->List D->MH->Option D:=fun y xs m=>match xs with
 |[x]=>(Ci m x).bind fun x'=>(Ci m y).bind fun y'=>(sqL [] y').bind fun ds=>if dep x'<=50/\ds.length<=1000000 then (ds.findIdx? fun d=>deq d x').bind fun j=>some (.int (j:Nat)) else none
 |_=>none
theorem Zo (hr:Room k X.A):MtD X "list.index" Gx:=by
 intro pins s σ H μ m y xs z v vs u us Q I S ry rx ru rv e q
 match xs,e with
 |[x],e =>
  obtain⟨x',h1,h⟩:=bind_some e
  obtain⟨y',h2,h⟩:=bind_some h
  obtain⟨ds,h3,h⟩:=bind_some h
  split at h
  ·rename_i hd
   obtain⟨j,hj,h⟩:=bind_some h
   cases h
   obtain⟨vx,rfl,rx1⟩:=rx.one
   obtain⟨ux,rfl,r1⟩:=Jh rv
   obtain⟨a1,n1⟩:=A5 S rx1 h1
   obtain⟨a2,n2⟩:=A5 S ry h2
   have hu:=hr.units
   have hu':X.A.in1.units+dep x' < cLine:=by show X.A.units+1+dep x' < cLine;lia
   have fin:∀ {a:Addr}{its:List Value}{xs:List V}{es:List D},u=.ref a->s.heap.IsList a its.toArray->Reps X.K H [] (fun _=>False) es xs->Au es=true->Vals xs its->ds=es->wpAny (model X.prog X.w) X.A (call (.builtin "list.index") [u,ux]) (EP X pins σ Q) X.xe s:=fun {a its xs es} eu hl rs ns rv ed=>by
    subst eu ed
    obtain⟨f,h4,h5⟩:=Y3 I a1 n1 r1 hu' rs ns rv
    obtain⟨⟨c,dct,dt,sl⟩,ho,hc,n,hdt⟩:=hl
    replace hc:c=.type "list":=hc
    replace hdt:dt=.seq its.toArray n:=hdt
    subst hc hdt
    have l1:=rs.length
    have l2:=rv.length
    obtain⟨hjl,hjt,hjf⟩:=List.findIdx?_eq_some_iff_getElem.mp hj
    have hji:j < its.length:=by lia
    refine Awp F.slot_list_index ⟨_,ho,rfl⟩ F.entry_list_index (F.args_list_index_2 _ _) (SeqAt.list_indexAt a its.toArray n dct sl ux f j (by simpa using hji) (by lia) ?_ ?_) ⟨ho,fun y hy=>h4 y (by simpa using hy),?_⟩
    ·rw[List.getElem_toArray,h5 j its[j] ds[j] (Atx hji) (Atx hjl)]
     exact hjt
    ·intro i hi hij
     have hi':i < its.length:=by simpa using hi
     rw[List.getElem_toArray,h5 i its[i] ds[i] (Atx hi') (Atx (by lia))]
     simpa using hjf i hij
    ·exact⟨.int _,H,I.kept (t':=s.toks+1) (fun b o e=>e),⟨_,rfl⟩,q _ H (Same.refl H) (.int _)⟩
   cases a2 with
   |@lst es a xs hq _ rs =>
    cases h3
    cases ru
    obtain⟨its,rv,p,_⟩:=I.list (.inl hq)
    exact fin rfl p.isList rs n2 rv rfl
   |@kl es a xs hq rs =>
    cases h3
    cases ru
    obtain⟨its,rv,p,_⟩:=I.list hq.sq
    exact fin rfl p.isList rs n2 rv rfl
   |_=>cases h3
  ·exact Ah h
theorem Aaw (hr:Room k X.A) (ho:QD X a f) (ha:QL X [e] g) (hbase':Oi a=true:=by rfl) (hline:(apos.endLine == cpos.line)=true:=by kernel_rfl) (hs':Bh e=true:=by rfl) :
  QD X (.Call (.Attribute a "index" apos) [e] [] cpos) (fMt "list" Gx f g):=⟨Aru F.plainAttrs_list F.slot_list_index F.type_list_index (Zo hr) ho.out ha.out (D8 hbase') (M8 (by rw[Ave,hs'];rfl) rfl) hline (An hs') rfl⟩
end
section
variable {X:Cx}{a b c e:Expr}{es:List Expr}{pos p p' apos cpos dp:Pos}{x:Str}{i:Nat}
end
section
variable {X:Cx}{a b c e:Expr}{es:List Expr}{pos p p' dp:Pos}{x:Str}{i:Nat}{g:FL}
end
end ML
end L2
end S_ML36
section S_TY1
namespace L2
namespace TY
open PySem PySem.SetTable
end TY
end L2
end S_TY1
section S_TY2
namespace L2
namespace TY
open PySem PySem.SetTable
end TY
end L2
end S_TY2
section S_TY3
namespace L2
namespace TY
open PySem PySem.SetTable
end TY
end L2
end S_TY3
section S_TY4
namespace L2
namespace TY
open PySem PySem.Spec PyProof.Rows
section
variable {prog:Program}{w:World}{ds:List PyData}
end
end TY
end L2
end S_TY4
section S_TY5
namespace L2
namespace TY
open PySem PySem.Spec PyProof.Rows
section
variable {prog:Program}{w:World}{A:Around}{E:Value->Shared->Prop}{s:Shared}
end
end TY
end L2
end S_TY5
section S_TY6
namespace L2
namespace TY
open PySem PySem.Spec PyProof.Rows L2.TX
section
variable {prog:Program}{w:World}{A:Around}{R:Result->Shared->Prop}{I:Addr}{fp wr:List Addr}{G:Array GenState->Array GenState->Prop}{n:Nat}{P:Nat->Value->Prop}{St:Nat->Shared->Prop}
end
section
variable {prog:Program}{w:World}{A:Around}{E:Value->Shared->Prop}{s:Shared}
end
end TY
end L2
end S_TY6
section S_ML41
namespace L2
namespace ML
open PySem PySem.Spec PyProof.Rows
section
variable {X:Cx}{e:Expr}{pos p p2 pos2:Pos}{k:Nat}{g:FL}
end
section
variable {X:Cx}{e:Expr}{pos p p2 p3 p4:Pos}
end
section
variable {P:Program}{w:World}{K:W.Frag}{mg:Str->Option Value}{base:Heap}{x:Str}{st:Stmt}{ps:List Str}{k n:Nat}
end
section
variable {X:Cx}{e:Expr}{es:List Expr}{pos p:Pos}{x:Str}{k j n:Nat}{fn:List D->Option D}{g:FL}
end
end ML
end L2
end S_ML41
section S_EX1
namespace L2
open PySem PySem.Spec PyProof.Rows
theorem ObjOk.get {P:Program}{w:World}{K:W.Frag}{H:Hp}{h:Heap}{a:Addr}{o:HO} (x:ObjOk P w K H h a o):∃ ob,h.get? a=some ob:=by
 cases o with
 |lst xs=>obtain⟨_,_,_,_,e⟩:=x;exact⟨_,e⟩
 |tup xs=>obtain⟨_,_,_,_,e,_⟩:=x;exact⟨_,e⟩
 |dK kvs=>obtain⟨_,_,_,_,o,_,_,e,_⟩:=x;exact⟨_,e⟩
 |dT kvs=>obtain⟨_,_,_,_,o,_,_,e,_⟩:=x;exact⟨_,e⟩
 |set S n=>obtain⟨o,_,_,_,e,_⟩:=x;exact⟨_,e⟩
 |ins C dx fs=>obtain⟨_,_,_,e,_⟩:=x;exact⟨_,e⟩
 |own y=>obtain⟨_,e⟩:=x;exact⟨_,e⟩
 |xd fs=>obtain⟨_,⟨_,_,_,e,_⟩,_⟩:=x;exact⟨_,e⟩
 |rng lo hi=>obtain⟨_,_,_,e⟩:=x;exact⟨_,e⟩
 |frz ob u=>obtain⟨e,_⟩:=x;exact⟨_,e⟩
 |tbl ps=>obtain⟨_,e,_⟩:=x;exact⟨_,e⟩
 |met f y=>exact⟨_,show h.get? a=some _ from x⟩
 |ext φ=>obtain⟨_,⟨_,e⟩,_⟩:=x;exact⟨_,e⟩
inductive Raised (P:Program) (w:World) (K:W.Frag) (cls:Value) (outer:List Env) (H:Hp) (s:Shared) (e:Value) (s':Shared):Prop
 |mk (ea:Addr) (a0:Value) (B:Heap) (H':Hp) (he:e=.ref ea) (fl:Heap.FlyingW B outer ea cls a0 s'.heap) (hok:HOk P w K H' B)
  (keep:∀ b o,s.heap.get? b=some o->H b=none->b∉frs outer->B.get? b=some o)
  (slot:∀ b o,s.heap.get? b=some o->H b=none->b∈frs outer->∃ sl,s'.heap.get? b=some { o with slots:=sl })
  (free:∀ b o,s.heap.get? b=some o->H b=none->H' b=none)
  (there:∀ b o,s.heap.get? b=some o->b∉frs outer->∃ o',B.get? b=some o')
  (same:Same H H') (os:s'.os=s.os) (bare:AllBare s'.gens)
abbrev CXr (P:Program) (w:World) (K:W.Frag) (cls:Value):CXT:=fun outer H s _ e s'=>Raised P w K cls outer H s e s'
theorem HOk.hide {P:Program}{w:World}{K:W.Frag}{H:Hp}{h:Heap}{as:List Addr} (hok:HOk P w K H h) (n:∀ b∈as,H b=none):HOk P w K H (W.hideAll h as):=fun a o e =>
 (hok a o e).stay (fun c v hc q=>W.hideAll_get as q fun z=>by
  have:=n c z
  rcases hc with rfl|hc
  ·rw[this] at e;cases e
  ·rw[this] at hc;cases hc) (fun _ q=>q) (fun _ _ q=>q) fun _ _ _ q=>q
theorem U4 {P:Program}{w:World}{K:W.Frag}{mg:Str->Option Value}{base:Heap}{N:List Str}{qual:Str}{scope:Scope}{f:Addr}{cd cls:Value}{A:Around}{outer:List Env}{s s1:Shared}{H H1:Hp}{E:XK}{pins:List (Addr×Obj)}{σ:St}{e:Addr}{vs:List Value}{h':Heap}
  (I:Inv (Hc (CXr P w K cls) P w K mg base N qual scope f cd A outer s H E) pins σ H1 s1) (sm:Same H H1) (hx:Heap.MadeExcOf s1.heap h' e cls vs):(Hc (CXr P w K cls) P w K mg base N qual scope f cd A outer s H E).xe (.ref e) { s1 with heap:=h' }:=by
 have hst:=I.stack
 have hin:∀ env∈(envOfC qual scope s.heap.objs.size f cd::outer),∀ b,env.frame=some b->b∈frs (envOfC qual scope s.heap.objs.size f cd::outer):=fun env he b hb=>List.mem_filterMap.mpr ⟨env,he,hb⟩
 have fr:∀ b∈frs (envOfC qual scope s.heap.objs.size f cd::outer),H1 b=none:=I.stkFree
 show wpAny _ _ (leaving (envOfC qual scope s.heap.objs.size f cd) (.ref e)) _ _ _
 refine wpAny_leaves_madeW (base:=W.hideAll s1.heap (frs (envOfC qual scope s.heap.objs.size f cd::outer))) I.ok.frames rfl (fun b o q=>W.of_hideAll _ q) (W.funFrames_hide hst hin) hx fun h2 t x1 x2 x3 x4=>?_
 have nin:∀ b o,s.heap.get? b=some o->b∉frs outer->b∉frs (envOfC qual scope s.heap.objs.size f cd::outer):=fun b o q n z=>by
  obtain⟨env,he,hf⟩:=List.mem_filterMap.mp z
  rcases List.mem_cons.mp he with rfl|he
  ·have:b=s.heap.objs.size:=(Au2 hf).symm
   rw[this] at q
   exact absurd (At1 q) (Aut _)
  ·exact n (List.mem_filterMap.mpr ⟨env,he,hf⟩)
 refine⟨e,.ref t,_,H1,rfl,x1,I.hok.hide fr,fun b o q n hb=>?_,fun b o q n hb=>?_,fun b o q n=>I.base.free b o q n (by simp[Hc]),fun b o q hb=>?_,sm,I.os,I.bare⟩
 ·exact W.hideAll_get _ (I.base.keep b o q n hb (by simp[Hc])) (nin b o q hb)
 ·obtain⟨sl,e1⟩:=I.base.slot b o q n hb (by simp[Hc])
  obtain⟨_,o2,e2,nf⟩:=I.stack.mem (show b∈frs (envOfC qual scope s.heap.objs.size f cd::outer) by
   obtain⟨env,he,hf⟩:=List.mem_filterMap.mp hb
   exact List.mem_filterMap.mpr ⟨env,Atz _ he,hf⟩)
  rw[e1] at e2
  cases e2
  obtain⟨sl2,e3⟩:=x4 b _ (hx.keeps _ _ e1) nf
  exact⟨sl2,e3⟩
 ·obtain⟨o',e1⟩:=I.base.there b o q (by simp[Hc])
  exact⟨o',W.hideAll_get _ e1 (nin b o q hb)⟩
end L2
end S_EX1
section S_EX2
namespace L2
open PySem PySem.Spec PyProof.Rows
abbrev Cx.within (X:Cx) (e:Value) (E:Value->Shared->Prop):Cx:={ X with A:=X.A.mark (some e),calm:=false,xe:=E }
section
variable {X:Cx}{pins:List (Addr×Obj)}{σ:St}{H:Hp}{s s':Shared}
theorem Inv.within (I:Inv X pins σ H s) (e:Value) (E:Value->Shared->Prop):Inv (X.within e E) pins σ H s :=
 ⟨⟨I.ok.mod,I.ok.kind,I.ok.glob,I.ok.blt,I.ok.above,I.ok.inj,I.ok.has,I.ok.cab,(fun h=>nomatch h),I.ok.frames,I.ok.stk,I.ok.exf,I.ok.bs,I.ok.bsz,I.ok.noex,I.ok.exfs,I.ok.funs,I.ok.frf⟩,I.os,I.bare,I.base,I.loc,I.cell,I.free,I.freeC,I.pin,I.hok,I.len⟩
theorem Inv.out {e:Value}{E:Value->Shared->Prop} (ok:X.Ok) (I:Inv (X.within e E) pins σ H s):Inv X pins σ H s :=
 ⟨ok,I.os,I.bare,I.base,I.loc,I.cell,I.free,I.freeC,I.pin,I.hok,I.len⟩
theorem Inv.caught {cls:Value}{ea:Addr}{a0:Value}{B h6:Heap}{H':Hp} (I:Inv X pins σ H s) (fl:Heap.FlyingW B X.stack ea cls a0 h6) (hok:HOk X.prog X.w X.K H' B)
  (keep:∀ b o,s.heap.get? b=some o->H b=none->b∉frs X.stack->B.get? b=some o)
  (slot:∀ b o,s.heap.get? b=some o->H b=none->b∈frs X.stack->∃ sl,h6.get? b=some { o with slots:=sl })
  (free:∀ b o,s.heap.get? b=some o->H b=none->H' b=none) (there:∀ b o,s.heap.get? b=some o->b∉frs X.stack->∃ o',B.get? b=some o') (same:Same H H') (os:s'.os=s.os) (bare:AllBare s'.gens) :
  ∃ oe,oe.cls=cls/\H' ea=none/\Inv X pins σ (upd H' ea (.frz oe (.ext fun _ _=>True))) { s' with heap:=h6 }:=by
 obtain⟨f1,f2,f3,f4⟩:=id fl
 obtain⟨oe,he,hc⟩:=fl.there
 have hn:H' ea=none:=by
  cases q:H' ea with
  |none=>rfl
  |some u=>obtain⟨ob,z⟩:=ObjOk.get (hok ea u q);rw[f2] at z;cases z
 have hok6:HOk X.prog X.w X.K H' h6:=hok.kept f1
 have new:ObjOk X.prog X.w X.K (upd H' ea (.frz oe (.ext fun _ _=>True))) h6 ea (.frz oe (.ext fun _ _=>True)):=⟨he,trivial,⟨oe,he⟩,fun _ _ _ _=>trivial⟩
 have hok7:HOk X.prog X.w X.K (upd H' ea (.frz oe (.ext fun _ _=>True))) h6:=fun b u e=>by
  by_cases hb:b=ea
  ·subst hb
   rw[Ba] at e
   cases e
   exact new
  ·rw[Az hb] at e
   exact (hok6 b u e).stay (fun _ _ _ q=>q) (fun c q=>by rw[Az (Av q hn)];exact q) (fun c xs q=>Rd.upd_none hn q) fun c x u q=>by rw[Az (Av q hn)];exact q
 have sm:∀ b u,H b=some u->upd H' ea (.frz oe (.ext fun _ _=>True)) b=some u:=fun b u q=>by rw[Az (Av (same b u q) hn)];exact same b u q
 have nea:∀ o,s.heap.get? ea=some o->False:=fun o q=>by
  by_cases hf:ea∈frs X.stack
  ·obtain⟨_,o2,e2,nf⟩:=I.stack.mem hf
   have hH:=I.stkFree ea hf
   obtain⟨sl,e3⟩:=slot ea o2 e2 hH hf
   rw[he] at e3
   cases e3
   obtain⟨oe',vs,_,_,_,g1,_,g3,_⟩:=f4
   rw[he] at g1
   cases g1
   exact nf vs g3
  ·obtain⟨o',z⟩:=there ea o q hf
   rw[f2] at z
   cases z
 refine⟨oe,hc,hn,?_⟩
 refine I.call' (s':={ s' with heap:=h6 }) (ch:=[]) os ⟨fun b o q n hb _=>f1 b o (keep b o q n hb),fun b o q n hb _=>slot b o q n hb,fun b o q n _=>?_,fun b o q _=>?_,fun b xs q=>sm b _ q,fun b o u q=>sm b _ q,fun b ps q=>⟨#[],by rw[sm b _ q];simp⟩⟩ hok7 bare (fun b z=>absurd z (by simp))
 ·rw[Az (fun z=>by subst z;exact nea o q)]
  exact free b o q n
 ·by_cases hf:b∈frs X.stack
  ·obtain⟨sl,e⟩:=slot b o q (I.stkFree b hf) hf
   exact⟨_,e⟩
  ·obtain⟨o',e⟩:=there b o q hf
   exact⟨o',f1 b o' e⟩
theorem Inv.goes {M:Model}{A:Around}{E:Value->Shared->Prop}{j:Nat}{n:Str}{pos:Pos}{Q:Unit->Shared->Prop} (I:Inv X pins σ H s) (hN:X.N.Nodup) (hj:X.N[j]?=some n) (hl:X.env.kindOf n=some .local)
  (h:∀ s',Inv X pins (σ.set j none) H s'->Q () s'):wpAny M A (do bindName X.env n .none;unbindBehindTheSuite X.env n pos) Q E s:=by
 obtain⟨m,hn,hm⟩:=id I.loc
 have hcls:(X.env.scope.kind == .class||(X.env.scope.kind == .module&&X.env.locals != X.env.globals))=false:=by rw[I.ok.kind];rfl
 refine wpAny_nameGoes_keeps hl hn hcls fun h' v hn' hs=>h _ ?_
 obtain⟨oL,_,_,hoL,_⟩:=id hn
 have cne:=I.cne
 refine⟨I.ok,I.os,I.bare,⟨fun b o e n hb hx=>?_,fun b o e n hb hx=>?_,I.base.free,fun b o e hx=>?_,I.base.tups,I.base.frzs,I.base.tbls⟩,⟨_,hn',fun i y v' e1 e2 e3=>?_⟩,fun y c e=>?_,I.free,I.freeC,fun p hp=>?_,fun b ob e=>?_,by simpa using I.len⟩
 ·exact (hs.2 b (Aub (At6 (At1 e) I.ok.above))).trans (I.base.keep b o e n hb hx)
 ·obtain⟨sl,e1⟩:=I.base.slot b o e n hb hx
  exact⟨sl,(hs.2 b (Aub (At6 (At1 e) I.ok.above))).trans e1⟩
 ·obtain⟨o',e1⟩:=I.base.there b o e hx
  exact⟨o',(hs.2 b (Aub (At6 (At1 e) I.ok.above))).trans e1⟩
 ·by_cases hij:i=j
  ·subst hij
   have hi:i < σ.length:=by rw[I.len];exact (List.getElem?_eq_some_iff.mp hj).1
   rw[Au5 hi] at e2
   cases e2
  ·rw[Avj (Avn hij)] at e2
   obtain⟨u',r',q⟩:=hm i y v' e1 e2 e3
   refine⟨u',r',?_⟩
   rcases q with ⟨k,e⟩|⟨k,c,e,z⟩
   ·refine .inl ⟨k,?_⟩
    have:y≠n:=fun e=>hij (Mo hN e1 (e ▸ hj))
    simp[this,e]
   ·exact .inr ⟨k,c,e,z.sameBut hs (cne y c e)⟩
 ·obtain⟨w',z⟩:=I.cell y c e
  exact⟨w',z.sameBut hs (cne y c e)⟩
 ·obtain⟨e,n,ne,nf,d⟩:=I.pin p hp
  exact⟨(hs.2 p.1 ne).trans e,n,ne,nf,d⟩
 ·refine (I.hok b ob e).stay (fun c w' hc q=>(hs.2 c ?_).trans q) (fun _ q=>q) (fun _ _ q=>q) fun _ _ _ q=>q
  rintro rfl
  rcases hc with z|hc
  ·have:=I.free;rw[z] at this;rw[this] at e;cases e
  ·rw[I.free] at hc;cases hc
end
end L2
end S_EX2
section S_EX3
namespace L2
namespace ML
open PySem PySem.Spec PyProof.Rows
noncomputable def xcF:Fz:=fun ss _ _ K H a u=>∃ nm C o,ss=[nm]/\u=.frz o (.ext fun _ _=>True)/\o.cls=.ref C/\W.nsIn K mainGlobals nm=some (some (.ref C))
theorem Ao2:FzM xcF:=fun ss ps is K H H' a u hk h=>h
abbrev xcD (nm:Str):D:=.fz xcF [nm] [] []
inductive spX (K:W.Frag) (n:Nat) (fx:List D->Bool) (vs:List V) (H:Hp) (Q:VK) (E:XK):Prop
 |mk (ds:List D) (r:Reps K H [] (fun _=>False) ds vs) (l:ds.length=n) (h:fx ds=true)
def Aoi (j np:Nat) (nm:Str) (fx:List D->Bool) (g:FL) (gb:FS):FS:=fun env m=>(g env m).bind fun ds=>(Cj m ds).bind fun ds'=>if ds'.length=np/\fx ds'=true then (gb (env.set j (some (xcD nm))) m).bind fun o=>match o with
 |.nx e' m'=>some (.nx (e'.set j none) m')
 |_=>none else none
theorem EnvRep.unset {K:W.Frag}{H:Hp}{μ:List Addr}{σ:St}{env:A0} (h:EnvRep K H μ σ env) (j:Nat):EnvRep K H μ (σ.set j none) (env.set j none):=by
 refine⟨by simpa using h.len,fun i d e=>?_⟩
 by_cases q:i=j
 ·subst q
  have hi:i < env.length:=by have:=(List.getElem?_eq_some_iff.mp e).1;simpa using this
  rw[Au5 hi] at e
  cases e
 ·rw[Avj (Avn q)] at e ⊢
  exact h.get i d e
section
variable {X:Cx}{e:Expr}{es:List Expr}{b₀:Stmt}{suite:List Stmt}{pos xpos cpos p tp hpos:Pos}{fx' t n nm:Str}{g:FL}{gb:FS}
theorem Ajp {f C T:Addr}{fd:FuncData}{ps:List Str}{k np j:Nat}{fx:List D->Bool} (F:FnOk X.prog X.w X.K X.mg X.base (CXr X.prog X.w X.K (.ref C)) k f fd ps (spX X.K np fx)) (hr:Room k X.A) (hg:Gl X fx') (hm:X.mg fx'=some (.ref f)) (hk:W.keepIn X.K (.ref f)=true) (hb:Binds X.K fd ps [])
  (ha:∀ E,PL (X.wish E) (e::es) g) (hdb:(fx' == ("__debug__":Str))=false) (he:starEach (e::es) X.env=(false,eval e X.env)::starEach es X.env) (hpl:(backTo cpos (starEach es X.env)).any (·.1)=false) (hsw:swapsWith (.Call (.Name fx' p) (e::es) [] cpos) none xpos.line X.env=pure false)
  (ht:X.mg t=some (.ref T)) (hgt:Gl X t) (hdt:(t == ("__debug__":Str))=false) (hx:W.exmOne X.K (.ref C) (.ref T)=some true) (hnm:W.nsIn X.K mainGlobals nm=some (some (.ref C)))
  (hN:X.N.Nodup) (hj:X.N[j]?=some n) (hl:X.env.kindOf n=some .local) (hlo:Loc X.env.scope n) (hfn:X.fn n=true\/X.env.scope.names.lookup n=some .local) (hst:X.stack=X.env::X.outer) (hfr:X.env.frame=some X.env.locals)
  (hbody:∀ v E,Vz (X.within v E) (b₀::suite) gb) :
  PSD X (.Try [.Expr (.Call (.Name fx' p) (e::es) [] cpos) xpos] [.ExceptHandler (some (.Name t tp)) (some n) (b₀::suite) hpos] [] [] pos) (Aoi j np nm fx g gb):=by
 intro pins s σ H D I ⟨env,μ,m,o,S,En,h,q⟩
 obtain⟨ds,h1,h⟩:=bind_some h
 obtain⟨ds',h2,h⟩:=bind_some h
 split at h
 ·rename_i hc
  obtain⟨o1,h3,h⟩:=bind_some h
  refine wpAny_Try_except (wpAny_execs_cons (wpAny_Expr_any ?_ I.quiet hsw))
  generalize hE:(fun (ev:Value) (s1:Shared)=>wpAny (model X.prog X.w) X.A (noteFrame ev X.env) (fun _ s₂=>wpAny (model X.prog X.w) X.A (setFlight ev none) (fun _ s₃=>wpAny (model X.prog X.w) X.A (handleBy ev X.env [.ExceptHandler (some (.Name t tp)) (some n) (b₀::suite) hpos]) (SP X pins D) X.xe s₃) X.xe s₂) X.xe s1)=E'
  refine Aux (Ep I hg hm ?_ hdb)
  refine W.callWith_K (h₀:=X.base) I.ok.mod.kin hk (thn (ha E' cpos pins s σ H (fun vs H1=>Same H H1/\Reps X.K H1 μ (·∈μ) ds vs) (I.wish E') ⟨env,μ,m,ds,S,En,h1,fun vs H1 s1 rs=>⟨s1,rs⟩⟩) fun us s1 ⟨vs,H1,I1,r,sm1,rs⟩=>⟨I1.kIn,?_⟩) he hpl
  have I1:Inv X pins σ H1 s1:=⟨I.ok,I1.os,I1.bare,I1.base,I1.loc,I1.cell,I1.free,I1.freeC,I1.pin,I1.hok,I1.len⟩
  have sp:spX X.K np fx vs H1 (fun _ _=>False) E0:=⟨ds',D7 (S.same sm1) rs h2,hc.1,hc.2⟩
  have hl2:(us++[]).length=ps.length:=by rw[Aue,<- r.length];exact F.len _ _ _ _ sp
  refine wpAny_call (codeAny_mono (F.run X.A X.stack s1 H1 ⟨us,[]⟩ (us++[]) vs (fun _ _=>False) E0 hr I1.env0 (hb s1 us I1.kIn hl2) (by rw[Aue];exact r) sp) fun res s' hq=>?_)
  cases res with
  |ok fl =>
   cases fl with
   |ret u=>obtain⟨_,_,_,_,_,_,_,z⟩:=hq;exact z.elim
   |next=>exact False.elim hq
   |brk=>exact False.elim hq
   |cont=>exact False.elim hq
  |error ev =>
   obtain⟨ea,a0,B,H',rfl,fl,hok,keep,slot,free,there,same,os,bare⟩:=(show Raised X.prog X.w X.K (.ref C) X.stack H1 s1 ev s' from hq)
   show E' (.ref ea) s'
   rw[<- hE]
   clear hE
   have nf:∀ b∈frs X.stack,∃ o,s1.heap.get? b=some o/\∀ vs,o.data≠.fields vs:=fun b hb=>(I1.stack.mem hb).2
   have hs2:∀ h6,Heap.UpToSlots s'.heap h6->∀ b o,s1.heap.get? b=some o->H1 b=none->b∈frs X.stack->∃ sl,h6.get? b=some { o with slots:=sl }:=fun h6 u b o q1 q2 q3=>by
    obtain⟨sl,e1⟩:=slot b o q1 q2 q3
    obtain⟨o2,e2,n2⟩:=nf b q3
    rw[q1] at e2
    cases e2
    obtain⟨sl2,e3⟩:=u b _ e1 n2
    exact⟨sl2,e3⟩
   have fl0:Heap.FlyingW B (X.env::X.outer) ea (.ref C) a0 s'.heap:=by rw[<- hst];exact fl
   refine wpAny_looks_onW (by rw[<- hst];exact I.ok.frames) hfr fl0 fun h4 held4 sm4=>?_
   refine wpAny_landsW held4 fun h5 fl5 sm5=>?_
   obtain⟨oe5,hc5,hn5,I5⟩:=I1.caught (s':=s') (h6:=h5) (by rw[hst];exact fl5) hok keep (hs2 h5 (sm4.trans sm5)) free there same os bare
   refine wpAny_handleBy_cons (codeAny_handlers_test (Ep (I5.within (.ref ea) fun _ _=>True) hgt ht ?_ hdt)) (by intro z;cases z)
   obtain⟨ob,hob,hobc⟩:=fl5.there
   have LT:W.Looks (model X.prog X.w) h5 (typeOf (.ref ea)) (.ref C):=by
    rw[<- hobc]
    exact (W.Looks.ld hob).andThen .now
   refine (W.exm_one (M:=model X.prog X.w) I5.kIn LT hx) _ _ _ _ (fun b o z=>z) ?_
   rw[At4 rfl]
   refine codeAny_handlers_suite_as ?_
   refine lands_againW fl5 fun h6 fl6 sm6=>?_
   obtain⟨oe,hc6,hn6,I6⟩:=I1.caught (s':=s') (h6:=h6) (by rw[hst];exact fl6) hok keep (hs2 h6 ((sm4.trans sm5).trans sm6)) free there same os bare
   have sm7:Same H1 (upd H' ea (.frz oe (.ext fun _ _=>True))):=same.trans (A9 hn6)
   refine Nf (X:=X) I6 hN hj hlo (v:=.ref ea) rfl (fun s7 I7=>?_) hfn
   cases o1 with
   |nx e' m' =>
    cases h
    have S7:=(S.same sm1).same sm7
    have E7:EnvRep X.K (upd H' ea (.frz oe (.ext fun _ _=>True))) μ (σ.set j (some (.ref ea))) (env.set j (some (xcD nm))):=((En.same sm1).same sm7).set j (.fz Ba ⟨nm,C,oe,rfl,rfl,hc6,hnm⟩ Ao2)
    have sH:Same H (upd H' ea (.frz oe (.ext fun _ _=>True))):=sm1.trans sm7
    have none7:∀ c,upd H' ea (.frz oe (.ext fun _ _=>True)) c=none->H c=none:=fun c z=>by
     cases w:H c with
     |none=>rfl
     |some u=>rw[sH c u w] at z;cases z
    refine Au0 (hbody (.ref ea) _ pins s7 _ _ { nx:=fun σ8 H8=>D.nx (σ8.set j none) H8,rt:=fun _ _=>False } (I7.within _ _) ⟨_,μ,m,_,S7,E7,h3,fun σ8 H8 μ8 st8 S8 E8=>q (σ8.set j none) H8 μ8 ((Step.of_same sH).trans st8 none7) S8 (E8.unset j)⟩) (fun f8 s8 hf=>?_) fun _ _ z=>z
    ·cases f8 with
     |next =>
      obtain⟨σ8,H8,I8,d8⟩:=hf
      exact Inv.goes (I8.out I.ok) hN hj hl fun s9 I9=>⟨_,_,I9,d8⟩
     |brk=>obtain⟨_,_,_,z⟩:=hf;exact z.elim
     |cont=>obtain⟨_,_,_,z⟩:=hf;exact z.elim
     |ret u=>obtain⟨_,_,_,_,_,z⟩:=hf;exact z.elim
   |rt _ _=>cases h
   |bk _ _=>cases h
   |ct _ _=>cases h
 ·exact Ah h
end
end ML
end L2
end S_EX3
section S_EX4
namespace L2
namespace ML
open PySem PySem.Spec PySem.Calls PyProof.Rows PySem.W Builtin Builtin.ObjectAttr Builtin.Getset_descriptor
structure XcCls (K:W.Frag) (C:Addr):Prop where
 c:(clsIn K C).isSome=true
 ga:findIn K (.ref C) "__getattribute__"=some (some (.builtin "BaseException.__getattribute__"))
 gt:findIn K (.ref C) "__getattr__"=some none
 at_:findIn K (.ref C) "__class__"=some (some (.builtin "object.__class__"))
 gs:specialIn K (.builtin "object.__class__") "__get__"=some (some (.builtin "getset_descriptor.__get__"))
 tk:takesIn K (.builtin "object.__class__")=some true
 ob:mroIn K C (.type "object")=some true
 be:mroIn K C (.type "BaseException")=some true
section
variable {prog:Program}{w:World}{A:Around}{E:Value->Shared->Prop}{s:Shared}{K:W.Frag}{x C:Addr}{o:Obj}
theorem Ta {M:Model}{h:Heap} (hx:h.get? x=some o) (hc:o.cls=.ref C):W.Looks M h (typeOf (.ref x)) (.ref C):=hc ▸ (W.Looks.ld hx).andThen .now
theorem Ao3 {R:Result->Shared->Prop}{tp:Value} (X:K.In s.heap) (hx:s.heap.get? x=some o) (hc:o.cls=.ref C) (hm:mroIn K C (.type "object")=some true)
  (h:R (.ok (.ret (.ref C))) s):codeAny (model prog w) A (.call (.builtin "getset_descriptor.__get__") ⟨[.builtin "object.__class__",.ref x,tp],[]⟩) R s:=by
 obtain⟨hh,g,dr,t,os⟩:=s
 have L0:=Ta (M:=model prog w) hx hc
 have L1:=looks_mroIn (M:=model prog w) X hm
 refine codeAny_call_builtin KF.slot_gs.plain KF.entry_gs (KF.slot_gs.check _ _ _ _ _ _ _ _ KF.type_class (KF.args_gs _ _ _) ?_)
 unfold Builtin.«getset_descriptor.__get__» descrGet
 rw[dga_obj]
 refine Atu (Atv ?_)
 unfold descrGetter descrCheckInstance descrNameAndClass isInstance
 simp only[KF.owner_class]
 repeat lk
 refine⟨Code.quiet_builtin _ (by decide +kernel),codeAny_builtin KF.entry_class ?_⟩
 unfold Builtin.«object.__class__» shownTypeOf
 repeat lk
 exact h
theorem Aks {M:Model} (Z:XcCls K C) (X:K.In s.heap):W.Looks M s.heap (find (.ref x) (.ref C) "__class__") (.bind (.builtin "getset_descriptor.__get__") (.builtin "object.__class__")):=by
 have L1:=looks_findIn (M:=M) X Z.at_
 have L2:W.Looks M s.heap (getOf (some (.builtin "object.__class__"))) (some (.builtin "getset_descriptor.__get__")):=looks_specialIn X Z.gs
 have L3:=looks_takesIn (M:=M) X Z.tk
 refine L1.andThen (L2.andThen ?_)
 exact (show W.Looks M s.heap (dataDescriptor? (some (.builtin "object.__class__")) (some (.builtin "getset_descriptor.__get__"))) (some (.builtin "getset_descriptor.__get__",.builtin "object.__class__")) from L3.andThen .now).andThen (Looks.tag .now)
theorem Aeg {Q:Option Value->Shared->Prop} (Z:XcCls K C) (X:K.In s.heap) (hx:s.heap.get? x=some o) (hc:o.cls=.ref C) (h:Q (some (.ref C)) { s with toks:=s.toks+1 }) :
  wpAny (model prog w) A (getAttr? (.ref x) "__class__") Q E s:=by
 obtain⟨hh,g,d,t,os⟩:=s
 have L0:=Ta (M:=model prog w) hx hc
 have L1:=looks_findIn (M:=model prog w) X Z.ga
 have L2:=looks_findIn (M:=model prog w) X Z.gt
 have LB:=looks_mroIn (M:=model prog w) X Z.be
 unfold getAttr? getAttrBy? getAttrBy
 refine Atu (wpAny_mkText (Atu (Awh (Au4 (Atu (L0.at (Atu (L1.at ?_))))))))
 show wpAny _ _ (getAttrByItsOwn _ _ _ _ _ _) _ _ _
 unfold getAttrByItsOwn
 refine Atu (L2.at ?_)
 refine Atu (Awh (Au4 ?_))
 show wpAny _ _ (boundAndCalled _ _ _) _ _ _
 unfold boundAndCalled
 have hga:=F.excAttr_ValueError.ga
 rw[hga.bind (.ref x)]
 refine Atu (Atv ?_)
 have hk:builtinKind "BaseException.__getattribute__"=some .slot:=by decide +kernel
 have hsplit:splitId "BaseException.__getattribute__"=some ("BaseException","__getattribute__"):=by decide +kernel
 have ha:=F.args_bexc_ga (.ref x) (.str "__class__" t)
 have LC:W.Looks (model prog w) hh (isInstance (.ref x) (.type "BaseException")) true:=L0.andThen LB
 have LF:=Aks (s:=⟨hh,g,d,t+1,os⟩) (M:=model prog w) (x:=x) Z X
 refine wpAny_call (codeAny_call_builtin hga.plain F.entry_bexc_ga ?_)
 simp only[checkBuiltinCall,hk,hsplit]
 refine Atu (LC.at ?_)
 repeat (first|exact ha|wp_step)
 rw[hc]
 have M1:=looks_findIn (M:=model prog w) X Z.at_
 have M2:W.Looks (model prog w) hh (getOf (some (.builtin "object.__class__"))) (some (.builtin "getset_descriptor.__get__")):=looks_specialIn X Z.gs
 have M3:W.Looks (model prog w) hh (dataDescriptor? (some (.builtin "object.__class__")) (some (.builtin "getset_descriptor.__get__"))) (some (.builtin "getset_descriptor.__get__",.builtin "object.__class__")):=(looks_takesIn (M:=model prog w) X Z.tk).andThen .now
 refine M1.at (Atu (M2.at (Atu (M3.at (Atu (wpAny_rule (Atv ?_)))))))
 dsimp only
 repeat wp_step
 refine Ao3 (s:=⟨hh,g,d,t+1,os⟩) X hx hc Z.ob ?_
 exact Atv (handed_on rfl (Atv h))
def Asq (x C:Addr) (h:Heap):Prop:=∃ o,h.get? x=some o/\o.cls=.ref C
set_option tactic.hygienic true in
theorem Y6 (Z:XcCls K C):KitX K (.ref x) (.ref C) (Asq x C) where
 ty:=fun M h X ⟨o,hx,hc⟩=>Ta hx hc
 it:=fun M h X ⟨o,hx,hc⟩=>by
  obtain⟨cdD,hcD⟩:=Option.isSome_iff_exists.mp Z.c
  unfold clsIn at hcD
  split at hcD
  ·rename_i c' d' cd' sl' ho
   intro A' Q' E' s' k q
   unfold isType loadHead
   exact Atu (wpAny_loadPart (k _ _ (X _ _ ho)) (Atv q))
  ·cases hcD
 ne:=fun h tp dd its n sl X htp=>by
  obtain⟨cdD,hcD⟩:=Option.isSome_iff_exists.mp Z.c
  refine Bool.eq_false_iff.mpr fun q=>?_
  have e:C=tp:=Value.ref.inj (beq_iff_eq.mp q)
  subst e
  unfold clsIn at hcD
  split at hcD
  ·rename_i c' d' cd' sl' ho
   have z:=(X _ _ ho).symm.trans htp
   cases z
  ·cases hcD
 ca:=fun X ⟨o,hx,hc⟩ k=>Aeg Z X hx hc k
end
end ML
end L2
end S_EX4
section S_EX5
namespace L2
open PySem
theorem PA.nox {X:Cx}{es:List Expr}{t:TA} (h:PA X.nox es t):PA X es t:=fun pos pins s σ H Q I hw =>
 Au0 (h pos pins s σ H Q (I.wish fun _ _=>False) hw) (fun us s1 ⟨vs,H1,I1,r,q⟩=>⟨vs,H1,I1.unwish,r,q⟩) fun _ _ z=>z.elim
theorem PS.nox {X:Cx}{st:Stmt}{t:TS} (h:PS X.nox st t):PS X st t:=fun pins s σ H D I hw =>
 Au0 (h pins s σ H D (I.wish _) hw) (fun _ _ q=>q.unwish) fun _ _ z=>False.elim z
namespace ML
open PySem PySem.Spec PySem.Calls PyProof.Rows
structure XcMk (K:W.Frag) (mg:Str->Option Value) (x:Str) (C:Addr):Prop where
 m:mg x=some (.ref C)
 e:W.excIn K C [.type "ValueError",.type "Exception",.type "BaseException",.type "object"] "ValueError.__new__"=true
set_option tactic.hygienic true in
theorem Aho {K:W.Frag}{h:Heap}{C:Addr}{bmB:List Value}{newId:String} (X:K.In h) (q:W.excIn K C bmB newId=true) :
  ∃ bm N nm q bs hdct sn sub ab col dd k0 k1 k2 k3 k5 mN,h.get? C=some (excClassObj nm q C N bs bm hdct sn sub ab col dd k0 k1 k2 k3 k5 newId)/\h.Ns N mN/\mN "__init__"=none/\OwnTail h bmB bm:=by
 unfold W.excIn at q
 split at q
 ·rename_i dd cd sl ho
  split at q
  ·rename_i C' bm k0 k1 k2 k3 n k5 hm hs
   simp only[Aua,beq_iff_eq,Bool.not_eq_true'] at q
   obtain⟨⟨⟨⟨⟨rfl,rfl⟩,hdel⟩,ht⟩,hok⟩,hni⟩:=q
   obtain⟨nm,bs,mro,ns,qn,hd,sn,sub,ab,col,del⟩:=cd
   dsimp only at hm hdel hok hni
   subst hm hdel
   have hsl:sl=#[k0,k1,k2,k3,some (.builtin n),k5]:=by
    obtain⟨l⟩:=sl
    simp only at hs
    rw[hs]
   subst hsl
   exact⟨bm,ns,nm,qn,bs,hd,sn,sub,ab,col,dd,k0,k1,k2,k3,k5,h.nsMap ns,X _ _ ho,.of_isNs (W.isNs_of_in X hok),W.nsMap_none_of_in X hok hni,W.tail_of_in X ht⟩
  ·cases q
 ·cases q
inductive tX (X:Cx) (gx:A0->MH->Bool) (Dn:Ends) (σ:St) (H:Hp):Prop
 |mk (env:A0) (μ:List Addr) (m:MH) (S:Sim X.K H μ m) (E:EnvRep X.K H μ σ env) (st:Step X.H₀ [] H μ) (no:∀ c,H c=none->X.H₀ c=none) (h:gx env m=true)
noncomputable def Ak2 (ga:FS) (gb:A0->MH->Bool):A0->MH->Bool:=fun env m=>match ga env m with
 |some (.nx e' m')=>gb e' m'
 |_=>false
noncomputable def xIf (fc:FB) (gb:A0->MH->Bool):A0->MH->Bool:=fun env m=>match fc env m with
 |some true=>gb env m
 |_=>false
noncomputable def Ak1 (f:FE):A0->MH->Bool:=fun env m=>match f env m with
 |some (.str y)=>decide (y.length<=1000)
 |_=>false
section
variable {X:Cx}{a:Stmt}{rest body:List Stmt}{ga:FS}{gb:A0->MH->Bool}{fc:FB}{c:Expr}{pos:Pos}
set_option tactic.hygienic true in
theorem Adp (ha:PSD X a ga) (hb:PSs X rest (tX X gb)):PSs X (a::rest) (tX X (Ak2 ga gb)):=by
 refine PSs.imp (Mx ha hb) fun D σ H ⟨env,μ,m,S,E,st,no,h⟩=>?_
 unfold Ak2 at h
 split at h
 ·rename_i e' m' q
  exact⟨env,μ,m,_,S,E,q,fun σ' H' μ' st' S' E'=>⟨e',μ',m',S',E',st.trans st' no,fun c z=>no c (st'.none S S' c z),h⟩⟩
 ·cases h
theorem Anz (hc:PB X c fc) (hb:PSs X body (tX X gb)):PSs X (.If c body [] pos::rest) (tX X (xIf fc gb)):=by
 refine PSs.imp (Mx (Anw hc hb Aar) Aaq) fun D σ H ⟨env,μ,m,S,E,st,no,h⟩=>?_
 unfold xIf at h
 split at h
 ·rename_i q
  refine⟨env,μ,m,true,S,E,q,fun H' sm=>?_⟩
  rw[At4 rfl]
  have no':∀ c,H' c=none->H c=none:=fun c z=>by
   cases w:H c with
   |none=>rfl
   |some u=>rw[sm c u w] at z;cases z
  exact⟨env,μ,m,S.same sm,E.same sm,st.trans (.of_same sm) no,fun c z=>no c (no' c z),h⟩
 ·cases h
end
section
variable {P:Program}{w:World}{K:W.Frag}{mg:Str->Option Value}{base:Heap}{N:List Str}{qual:Str}{scope:Scope}{f C:Addr}{cd:Value}{A:Around}{outer:List Env}{s0:Shared}{H0:Hp}{E0:XK}
set_option tactic.hygienic true in
theorem Aas {nm s:Str}{e:Expr}{fe:FE}{rest:List Stmt}{np cpos pos p1 p2 p3:Pos}{j:Nat} (hx:XcMk K mg nm C) (he:PD (Hc (CXr P w K (.ref C)) P w K mg base N qual scope f cd A outer s0 H0 E0) e fe)
  (hg:Gl (Hc (CXr P w K (.ref C)) P w K mg base N qual scope f cd A outer s0 H0 E0) nm) (hd:(nm == ("__debug__":Str))=false) (hs:s.length<=1000) :
  PSs (Hc (CXr P w K (.ref C)) P w K mg base N qual scope f cd A outer s0 H0 E0) (.Raise (some (.Call (.Name nm np) [.JoinedStr [.Constant (.str s) j p1,.FormattedValue e (-1) none p2] p3] [] cpos)) none pos::rest) (tX (Hc (CXr P w K (.ref C)) P w K mg base N qual scope f cd A outer s0 H0 E0) (Ak1 fe)):=by
 intro pins s1 σ H D I ⟨env,μ,m,S,E,st,no,h⟩
 unfold Ak1 at h
 split at h
 ·rename_i y hy
  obtain⟨bm,N',nm',q,bs,hdct,sn,sub,ab,col,dd,k0,k1,k2,k3,k5,mN,hC,hN,hni,T⟩:=Aho I.ok.mod.kin hx.e
  refine wpAny_execs_cons ?_
  refine wpAny_Raise_call_subU (C:=C) (nm:=nm') (q:=q) (N:=N') (bs:=bs) (bm:=bm) (hdct:=hdct) (sn:=sn) (sub:=sub) (ab:=ab) (col:=col) (dd:=dd) (k0:=k0) (k1:=k1) (k2:=k2) (k3:=k3) (k5:=k5)
   F.excBase_ValueError (by decide) F.excBase_ValueError (mN:=mN) (T.hasType F.excBase_ValueError.hasBase) (I.ok.hd rfl) rfl hni (Ep I hg hx.m ⟨rfl,?_⟩ hd)
  refine Calls.evalArgs_plain (Calls.spliced_cons ?_)
  refine wpAny_JoinedStr (pos:=p3) (Calls.Constant_str ⟨s,_,rfl,?_,?_⟩)
  ·exact Aug (Nat.le_of_eq (strLen_append ..)) (Aug (Nat.add_le_add (Nat.le_of_eq (show Str.empty.length=0 from rfl)) hs) (by decide))
  refine wpAny_FormattedValue_plain (thn (he pins _ σ H (fun v H'=>Same H H'/\v=.str y) (I.tok _) ⟨env,μ,m,_,S,E,hy,fun v H' sm r=>⟨sm,by cases r;rfl⟩⟩) fun u s2 ⟨v,H2,I2,r2,sm2,e2⟩=>?_)
  subst e2
  obtain⟨t,rfl⟩:=(show ∃ t,u=Value.str y t from r2)
  have hy':y.length<=1000:=Au1 h
  have hl:((Str.empty++s)++y).length<=sizeLine:=by
   rw[strLen_append,strLen_append]
   exact Aug (Nat.add_le_add (Nat.add_le_add (Nat.le_of_eq (show Str.empty.length=0 from rfl)) hs) hy') (by decide)
  refine formatField_str (fun t' tk=>⟨y,t',rfl,hl,hl,?_⟩) (Aug hy' (by decide))
  have I3:=(I2.tok tk).tok (tk+1)
  have sm3:Same H0 H2:=fun b o z=>sm2 b o (st.keep b o z (by simp))
  refine Calls.spliced_nil ⟨rfl,(by decide:1<=sizeLine),I3.bk _ _ hC,hN.keeps I3.bk,T.keeps I3.bk,fun h' e hm=>U4 I3 sm3 hm⟩
 ·cases h
theorem Ace {x:Str}{st:Stmt}{fd:FuncData}{ps:List Str}{k:Nat}{gx:A0->MH->Bool}{fx:List D->Bool} (F:Fun K x qual st f fd) (S:FnScope N ps (Ar st)) (hfx:∀ ds,fx ds=gx (ds.map some++List.replicate (N.length - ds.length) none) [])
  (hbody:∀ (cdv:Value) (A:Around) (outer:List Env) (s:Shared) (H:Hp) (E:XK),Room k (A.deeper (envOfC qual (Ar st) s.heap.objs.size f cdv))->PSs (Hc (CXr P w K (.ref C)) P w K mg base N qual (Ar st) f cdv A outer s H E) (Cm st) (tX (Hc (CXr P w K (.ref C)) P w K mg base N qual (Ar st) f cdv A outer s H E) gx)) :
  FnOk P w K mg base (CXr P w K (.ref C)) (k+1) f fd ps (spX K ps.length fx):=by
 obtain⟨oc,od,kV,doc,pm,an,cdv,ct,osl,rfl,lk,hcd⟩:=F.ex
 refine Alz lk hcd S (fun vs H Q E h=>?_) fun A outer s H vs Q E hr h=>?_
 ·obtain⟨ds,r,hl,_⟩:=h
  rw[<- r.length];exact hl
 ·obtain⟨ds,r,hl,h⟩:=h
  refine⟨_,hbody cdv A outer s H E hr,?_⟩
  have S0:Sim K H [] []:=⟨List.nodup_nil,rfl,fun n a o h=>by simp at h⟩
  rw[hfx] at h
  exact⟨_,[],[],S0,G3 r,.refl,fun _ z=>z,h⟩
end
structure XM (K:W.Frag) (mg:Str->Option Value) (x:Str):Prop where
 ex:∃ C,XcMk K mg x C/\W.nsIn K mainGlobals x=some (some (.ref C))
structure ClX (P:Program) (w:World) (K:W.Frag) (mg:Str->Option Value) (base:Heap) (k:Nat) (x nm:Str) (n:Nat) (fx:List D->Bool):Prop where
 ex:∃ a fd ps C,FnOk P w K mg base (CXr P w K (.ref C)) k a fd ps (spX K n fx)/\mg x=some (.ref a)/\W.keepIn K (.ref a)=true/\Binds K fd ps []/\W.nsIn K mainGlobals nm=some (some (.ref C))
noncomputable def Asc (N:Nat) (gx:A0->MH->Bool) (ds:List D):Bool:=gx (ds.map some++List.replicate (N - ds.length) none) []
theorem Ar6 {P:Program}{w:World}{K:W.Frag}{mg:Str->Option Value}{base:Heap}{x nm:Str}{st a:Stmt}{ps:List Str}{c e:Expr}{ga:FS}{fc:FB}{fe:FE}{rest:List Stmt}{np cpos pos ipos p1 p2 p3:Pos}{j:Nat}{s0:Str}{C:Addr}{k:Nat}
  (N:List Str) (T:FD K mg x st ps) (hx:XcMk K mg nm C) (hn:W.nsIn K mainGlobals nm=some (some (.ref C)))
  (hb:Cm st=a::.If c [.Raise (some (.Call (.Name nm np) [.JoinedStr [.Constant (.str s0) j p1,.FormattedValue e (-1) none p2] p3] [] cpos)) none pos] [] ipos::rest)
  (h:∀ (f:Addr) (cdv:Value) (A:Around) (outer:List Env) (s:Shared) (H:Hp) (E:XK),Room k (A.deeper (envOfC x (Ar st) s.heap.objs.size f cdv))->N.Nodup ->
   QS (Hc (CXr P w K (.ref C)) P w K mg base N x (Ar st) f cdv A outer s H E).nox a ga/\QB (Hc (CXr P w K (.ref C)) P w K mg base N x (Ar st) f cdv A outer s H E).nox c fc /\
   QD (Hc (CXr P w K (.ref C)) P w K mg base N x (Ar st) f cdv A outer s H E).nox e fe)
  (hg:∀ (f:Addr) (cdv:Value) (A:Around) (outer:List Env) (s:Shared) (H:Hp) (E:XK),Gl (Hc (CXr P w K (.ref C)) P w K mg base N x (Ar st) f cdv A outer s H E) nm:=by intros;unfold Gl;kernel_rfl)
  (hd:(nm == ("__debug__":Str))=false:=by decide) (hs:s0.length<=1000:=by decide +kernel) (S:FnScope N ps (Ar st):=by exact⟨rfl,rfl,rfl,by decide +kernel,rfl,by decide +kernel,by decide +kernel⟩) :
  ClX P w K mg base (k+1) x nm ps.length (Asc N.length (Ak2 ga (xIf fc (Ak1 fe)))):=by
 obtain⟨f,fd,m,F,b⟩:=T.ex
 refine⟨f,fd,ps,C,Ace F S (fun ds=>rfl) fun cdv A outer s H E hr=>?_,m,F.kp,b,hn⟩
 obtain⟨q1,q2,q3⟩:=h f cdv A outer s H E hr S.nd
 rw[hb]
 exact Adp (PS.nox q1.out) (Anz (PT.nox q2.out) (Aas hx (PE.nox q3.out) (hg f cdv A outer s H E) hd hs))
structure XcIn (K:W.Frag) (mg:Str->Option Value) (nm t:Str):Prop where
 ex:∃ C T,W.nsIn K mainGlobals nm=some (some (.ref C))/\mg t=some (.ref T)/\W.exmOne K (.ref C) (.ref T)=some true
section
variable {Y:Cx}{e:Expr}{es:List Expr}{b₀:Stmt}{suite:List Stmt}{pos xpos cpos p tp hpos:Pos}{x t n nm:Str}{g:FL}{gb:FS}{k i np j:Nat}{fx:List D->Bool}
theorem Aoc (F:ClX Y.prog Y.w Y.K Y.mg Y.base k x nm np fx) (hr:Room i Y.A) (ht:XcIn Y.K Y.mg nm t) (ha:QL Y.nox (e::es) g) (hN:Y.N.Nodup) (hj:Y.N[j]?=some n)
  (hbody:∀ v,QSs (Y.nox.within v fun _ _=>False) (b₀::suite) gb) (hst:Y.stack=Y.env::Y.outer:=by rfl) (hfr:Y.env.frame=some Y.env.locals:=by rfl)
  (hk:k<=i:=by decide) (hg:Gl Y x:=by unfold Gl;kernel_rfl) (hgt:Gl Y t:=by unfold Gl;kernel_rfl) (hdb:(x == ("__debug__":Str))=false:=by decide) (hdt:(t == ("__debug__":Str))=false:=by decide) (he':Bh e=true:=by rfl) (hpl':es.all Bh=true:=by rfl)
  (hsw:swapsWith (.Call (.Name x p) (e::es) [] cpos) none xpos.line Y.env=pure false:=by rfl) (hl:Y.env.kindOf n=some .local:=by kernel_rfl) (hlo:Loc Y.env.scope n:=by first|exact .inl (by kernel_rfl)|exact .inr (by kernel_rfl)) (hfn:Y.fn n=true\/Y.env.scope.names.lookup n=some .local:=by exact .inl rfl) :
  QS Y.nox (.Try [.Expr (.Call (.Name x p) (e::es) [] cpos) xpos] [.ExceptHandler (some (.Name t tp)) (some n) (b₀::suite) hpos] [] [] pos) (Aoi j np nm fx g gb):=by
 obtain⟨f,fd,ps,C,F,m,kp,b,nn⟩:=F.ex
 obtain⟨C',T,n2,mt,hx⟩:=ht.ex
 rw[nn] at n2
 cases n2
 exact⟨Ajp (X:=Y.nox) F (hr.mono hk) hg m kp b (fun E=>PA.nox (X:=Y.nox.wish E) ha.out) hdb (An he') (Cg hpl') hsw mt hgt hdt hx nn hN hj hl hlo hfn hst hfr fun v E=>PSs.nox (X:=Y.nox.within v E) (hbody v).out⟩
end
end ML
end L2
end S_EX5
section S_EX6
namespace L2
namespace ML
open PySem PySem.Spec PySem.Calls PyProof.Rows
structure IsX (K:W.Frag) (mg:Str->Option Value) (nm y:Str) (b:Bool):Prop where
 ex:∃ C,W.nsIn K mainGlobals nm=some (some (.ref C))/\XcCls K C/\∃ T,mg y=some (.ref T)/\W.kitOne K (.ref C) (.ref T)=some b
structure IsXB (K:W.Frag) (mg:Str->Option Value) (nm y:Str) (b:Bool):Prop where
 ex:∃ C,W.nsIn K mainGlobals nm=some (some (.ref C))/\XcCls K C/\∃ U,mg y=none/\bootBuiltins y=some (.type U)/\W.kitOne K (.ref C) (.type U)=some b
open Classical in
noncomputable def Acb (nm:Str) (b:Bool) (f:FE):FE:=fun env m=>(f env m).bind fun d=>if d=xcD nm then some (.bl b) else none
section
variable {X:Cx}{e:Expr}{es:List Expr}{pos p p':Pos}{f:FE}{nm y:Str}{b:Bool}
theorem Agk {K:W.Frag}{P:Program}{w:World}{H:Hp}{h:Heap}{μ:List Addr}{B:Addr->Prop}{v:V}{C:Addr} (hok:HOk P w K H h) (r:Rep K H μ B (xcD nm) v) (hn:W.nsIn K mainGlobals nm=some (some (.ref C))):∃ a,v=.ref a/\Asq a C h:=by
 cases r with
 |@fz a o u _ _ _ _ h1 h2 h3 =>
  obtain⟨nm',C',o',e1,e2,e3,e4⟩:=h2
  cases e1
  rw[hn] at e4
  cases e4
  cases e2
  exact⟨_,rfl,_,(hok _ _ h1).1,e3⟩
theorem Aco {pins:List (Addr×Obj)}{σ:St}{H:Hp}{s:Shared}{A:Around}{E:Value->Shared->Prop}{Q:Value->Shared->Prop}{μ:List Addr}{v:V}{u c:Value}{C:Addr} (I:Inv X pins σ H s) (r:Rep X.K H μ (·∈μ) (xcD nm) v) (ru:RelV v u)
  (hn:W.nsIn X.K mainGlobals nm=some (some (.ref C))) (Z:XcCls X.K C) (hk:W.kitOne X.K (.ref C) c=some b) (q:∀ tk,Q (.bool b) { s with toks:=tk }):wpAny (model X.prog X.w) A (call (.builtin "isinstance") [u,c]) Q E s:=by
 obtain⟨a,rfl,z⟩:=Agk I.hok r hn
 cases ru
 exact W.kia_one (Y6 Z) I.kIn z hk (fun z=>nomatch z) q
theorem Aae {c:Value}{vc:V}{C:Addr} (ha:PD X e f) (hc:PE X (.Name y p') (tC vc)) (rc:∀ u,RelV vc u->u=c) (hn:W.nsIn X.K mainGlobals nm=some (some (.ref C))) (Z:XcCls X.K C) (hk:W.kitOne X.K (.ref C) c=some b)
  (hg:Gl X "isinstance") (hm:X.mg "isinstance"=none) (he:starEach [e,.Name y p'] X.env=(false,eval e X.env)::starEach [.Name y p'] X.env) (he':starEach [.Name y p'] X.env=(false,eval (.Name y p') X.env)::starEach [] X.env) (hpl:(backTo pos (starEach [.Name y p'] X.env)).any (·.1)=false) :
  PD X (.Call (.Name "isinstance" p) [e,.Name y p'] [] pos) (Acb nm b f):=by
 intro pins s σ H Q I h
 obtain⟨env,μ,m,z,S,E,h,q⟩:=h
 obtain⟨d,h1,h⟩:=bind_some h
 split at h
 ·rename_i hd
  subst hd
  cases h
  have hA:PA X [e,.Name y p'] (R8 (tE X.K f) (R8 (tC vc) Apb)):=Dg ha (Dg hc J5 he') he
  refine Aux (D2 I hg hm (show bootBuiltins "isinstance"=some (.builtin "isinstance") by decide +kernel) ?_ (by decide) (by decide))
  refine PyProof.Rows.callWith_builtin1 (thn (hA pos pins s σ H (fun vs H1=>∃ v,vs=[v,vc]/\Same H H1/\Rep X.K H1 μ (·∈μ) (xcD nm) v) I ⟨env,μ,m,_,S,E,h1,fun v H1 s1 r1=>⟨v,rfl,s1,r1⟩⟩) fun us s1 ⟨vs,H1,I1,rv,v,e1,s1',rx⟩=>?_) he hpl
  subst e1
  obtain⟨u,w,rfl,r1,r2⟩:=Abf rv
  cases rc _ r2
  exact Aco I1 rx r1 hn Z hk fun tk=>⟨.bl b,H1,I1.tok _,rfl,q _ H1 s1' (.bl b)⟩
 ·cases h
theorem Ar8 (h:IsX X.K X.mg nm y b) (ha:QD X e f) (hm:X.mg "isinstance"=none) (hdb:(y == ("__debug__":Str))=false:=by decide) (hg:Gl X "isinstance":=by unfold Gl;kernel_rfl) (hg':Gl X y:=by unfold Gl;kernel_rfl) (he':Bh e=true:=by rfl) :
  QD X (.Call (.Name "isinstance" p) [e,.Name y p'] [] pos) (Acb nm b f):=by
 obtain⟨C,n,Z,T,m,k⟩:=h.ex
 exact⟨Aae ha.out (Rq (v:=.ref T) hg' m rfl hdb) (fun u r=>r) n Z k hg hm (An he') (An rfl) (Cg rfl)⟩
theorem An7 (h:IsXB X.K X.mg nm y b) (ha:QD X e f) (hm:X.mg "isinstance"=none) (hn:y≠"__name__":=by decide) (hdb:(y == ("__debug__":Str))=false:=by decide) (hg:Gl X "isinstance":=by unfold Gl;kernel_rfl) (hg':Gl X y:=by unfold Gl;kernel_rfl) (he':Bh e=true:=by rfl) :
  QD X (.Call (.Name "isinstance" p) [e,.Name y p'] [] pos) (Acb nm b f):=by
 obtain⟨C,n,Z,U,m,v,k⟩:=h.ex
 exact⟨Aae ha.out (Aaf (v:=.ty U) hg' m v rfl hn hdb) (fun u r=>r) n Z k hg hm (An he') (An rfl) (Cg rfl)⟩
structure QCs (X:Cx) (nm:Str) (es:List Expr):Prop where
 out:∃ C,W.nsIn X.K mainGlobals nm=some (some (.ref C))/\XcCls X.K C/\∃ as:List Addr,as.length=es.length/\W.kitAny X.K (.ref C) (as.map Value.ref)=some false/\PA X es (fun _ H Q=>Q (as.map V.ref) H)
theorem Atf {y:Str}{p':Pos} (h:IsX X.K X.mg nm y false) (hdb:(y == ("__debug__":Str))=false:=by decide) (hg':Gl X y:=by unfold Gl;kernel_rfl):QCs X nm [.Name y p']:=by
 obtain⟨C,n,Z,T,m,k⟩:=h.ex
 refine⟨C,n,Z,[T],rfl,?_,Dg (Rq (v:=.ref T) hg' m rfl hdb) J5 (An rfl)⟩
 show W.kitAny X.K (.ref C) [.ref T]=some false
 unfold W.kitAny
 rw[k]
 rfl
theorem Ar5 {y:Str}{p':Pos} (h:IsX X.K X.mg nm y false) (hr:QCs X nm es) (hdb:(y == ("__debug__":Str))=false:=by decide) (hg':Gl X y:=by unfold Gl;kernel_rfl):QCs X nm (.Name y p'::es):=by
 obtain⟨C,n,Z,T,m,k⟩:=h.ex
 obtain⟨C',n',_,as,la,ka,pa⟩:=hr.out
 rw[n] at n'
 cases n'
 refine⟨C,n,Z,T::as,by simp[la],?_,Dg (Rq (v:=.ref T) hg' m rfl hdb) pa (An rfl)⟩
 show W.kitAny X.K (.ref C) (.ref T::as.map Value.ref)=some false
 unfold W.kitAny
 rw[k]
 exact ka
theorem O9:∀ {as:List Addr}{us:List Value},Vals (as.map V.ref) us->us=as.map Value.ref
 |[],_,.nil=>rfl
 |a::as,_,.cons r rs=>by rw[O9 rs];cases r;rfl
theorem An8 {x1}{tp:Pos} (h:QCs X nm es) (ha:QD X e f) (hm:X.mg "isinstance"=none) (hl:es.length<=100:=by decide) (hg:Gl X "isinstance":=by unfold Gl;kernel_rfl) (he':Bh e=true:=by rfl) :
  QD X (.Call (.Name "isinstance" p) [e,.Tuple es x1 tp] [] pos) (Acb nm false f):=by
 constructor
 obtain⟨C,n,Z,as,la,ka,pa⟩:=h.out
 intro pins s σ H Q I h
 obtain⟨env,μ,m,z,S,E,h,q⟩:=h
 obtain⟨d,h1,h⟩:=bind_some h
 split at h
 ·rename_i hd
  subst hd
  cases h
  have hA:PA X [e,.Tuple es x1 tp] (R8 (tE X.K f) (R8 (As4 fun _ H Q=>Q (as.map V.ref) H) Apb)):=Dg ha.out (Dg (Afm pa) J5 (An rfl)) (An he')
  refine Aux (D2 I hg hm (show bootBuiltins "isinstance"=some (.builtin "isinstance") by decide +kernel) ?_ (by decide) (by decide))
  refine PyProof.Rows.callWith_builtin1 (thn (hA pos pins s σ H (fun vs H1=>∃ v a,vs=[v,.ref a]/\Same H H1/\Rep X.K H1 μ (·∈μ) (xcD nm) v/\H1 a=some (.tup (as.map V.ref))) I ⟨env,μ,m,_,S,E,h1,fun v H1 s1 r1=>⟨by simp[la];exact Aug hl (by decide),fun a ha=>⟨v,a,rfl,s1.trans (A9 ha),r1.same (A9 ha),Ba⟩⟩⟩) fun us s1 ⟨vs,H1,I1,rv,v,a,e1,s1',rx,ra⟩=>?_) (An he') (Cg rfl)
  subst e1
  obtain⟨u,w,rfl,r1,r2⟩:=Abf rv
  cases r2
  obtain⟨its,r3,⟨o,ho,hc,k,hd⟩,_⟩:=I1.tuple (a:=a) (xs:=as.map V.ref) (.inl (.inl ra))
  rw[O9 r3] at hd
  obtain⟨oc,odd,oda,osl⟩:=o
  dsimp only at hc hd
  subst hc hd
  obtain⟨b,rfl,z⟩:=Agk I1.hok rx n
  cases r1
  exact W.kia_tup (Y6 Z) I1.kIn z ho ka (fun z=>nomatch z) fun tk=>⟨.bl false,H1,I1.tok _,rfl,q _ H1 s1' (.bl false)⟩
 ·cases h
end
end ML
end L2
end S_EX6
section S_EX7
namespace L2
namespace ML
open PySem PySem.Spec PyProof.Rows
noncomputable def Ac7 (i:Nat) (env:A0) (m:MH):D->Option Out
 |.tup [d,.lst es]=>if A2 d=true/\A1 es=true then some (.nx (env.set i (some (.tup [d,.ref m.length]))) (m++[.lst es])) else none
 |_=>none
def Adz (i n:Nat) (fn:List D->Option D) (g:FL):FS:=fun env m=>(g env m).bind fun ds=>(Bb n fn ds m).bind fun z=>Ac7 i env m z
def Js (m:MH):D->Option D
 |.tup [d,.ref n]=>match m[n]? with
  |some (.lst ds)=>if Bm d=true/\Au ds=true then some (.tup [d,.lst ds]) else none
  |_=>none
 |d=>Ci m d
def Dc (m:MH):List D->Option (List D)
 |[]=>some []
 |d::ds=>(Js m d).bind fun d'=>(Dc m ds).bind fun ds'=>some (d'::ds')
def Tf (n:Nat) (fn:List D->Option D):List D->MH->Option D:=fun ds m=>(Dc m ds).bind fun ds'=>if ds'.length=n then fn ds' else none
set_option tactic.hygienic true in
theorem Abh {K:W.Frag}{H:Hp}{μ:List Addr}{m:MH} (S:Sim K H μ m) {d d':D}{v:V} (r:Rep K H μ (·∈μ) d v) (h:Js m d=some d'):Rep K H [] (fun _=>False) d' v:=by
 unfold Js at h
 split at h
 ·rename_i d0 n
  split at h
  ·rename_i ds q
   split at h
   ·rename_i hn
    cases h
    cases r with
    |tup h1 rs =>
     cases rs with
     |cons r0 rs =>
      cases rs with
      |cons r1 rs =>
       cases rs
       refine .tup h1 (.cons (r0.noref (fun _ _ _ _ z=>z) hn.1) (.cons ?_ .nil))
       have:Ci m (.ref n)=some (.lst ds):=by unfold Ci;simp only[q,hn.2,Awl]
       exact (A5 S r1 this).1
   ·cases h
  ·cases h
 ·exact (A5 S r h).1
theorem Hb {K:W.Frag}{H:Hp}{μ:List Addr}{m:MH} (S:Sim K H μ m):∀ {ds ds':List D}{vs:List V},Reps K H μ (·∈μ) ds vs->Dc m ds=some ds'->Reps K H [] (fun _=>False) ds' vs
 |[],_,_,.nil,h=>by cases h;exact .nil
 |d::ds,_,_,.cons r rs,h=>by
  obtain⟨d',h1,h⟩:=bind_some h
  obtain⟨ds',h2,h⟩:=bind_some h
  cases h
  exact .cons (Abh S r h1) (Hb S rs h2)
section
variable {X:Cx}{e:Expr}{es:List Expr}{pos p p' cpos:Pos}{x y:Str}{k j n i:Nat}{fn:List D->Option D}{g:FL}
theorem Ath (F:Cl X.prog X.w X.K X.mg X.base k x n fn) (hr:Room j X.A) (ha:QL X (e::es) g) (hk:k<=j:=by decide) (hg:Gl X x:=by unfold Gl;kernel_rfl) (hdb:(x == ("__debug__":Str))=false:=by decide) (he':Bh e=true:=by rfl) (hpl':es.all Bh=true:=by rfl) :
  QD X (.Call (.Name x p) (e::es) [] pos) (Ao (Tf n fn) g):=by
 obtain⟨a,fd,ps,F,m,kp,b⟩:=F.ex
 refine⟨PE.imp (Iu F (hr.mono hk) hg m kp b .nil (Aaa (X:=X)) ha.out hdb (An he') (Cg hpl')) fun σ H Q ⟨env,μ,m,d,S,E,h,q⟩=>?_⟩
 obtain⟨ds,h1,h⟩:=bind_some h
 obtain⟨ds',h2,h⟩:=bind_some h
 split at h
 ·rename_i hl
  exact⟨env,μ,m,ds,S,E,h1,fun vs H1 s1 rs=>⟨ds',d,by rw[Aue];exact Hb (S.same s1) rs h2,hl,h,fun v H' s' r=>q v H' (s1.trans s') (Rep.ofCall (S.same s1) r)⟩⟩
 ·exact Ah h
theorem Aoa (F:Cl X.prog X.w X.K X.mg X.base k x n fn) (hr:Room j X.A) (hN:X.N.Nodup) (hi:X.N[i]?=some y) (ha:QL X (e::es) g) (hk:k<=j:=by decide) (hg:Gl X x:=by unfold Gl;kernel_rfl) (hdb:(x == ("__debug__":Str))=false:=by decide) (he':Bh e=true:=by rfl) (hpl':es.all Bh=true:=by rfl)
  (hx:Loc X.env.scope y:=by first|exact .inl (by kernel_rfl)|exact .inr (by kernel_rfl)) (hs:swapsWith (.Call (.Name x p) (e::es) [] cpos) (some (.Name y p')) pos.line X.env=pure false:=by rfl) (hf:X.fn y=true\/X.env.scope.names.lookup y=some .local:=by exact .inl rfl) :
  QS X (.Assign [.Name y p'] (.Call (.Name x p) (e::es) [] cpos) pos) (Adz i n fn g):=by
 obtain⟨a,fd,ps,F,m,kp,b⟩:=F.ex
 refine⟨PS.imp (Aam hN hi hx (Iu F (hr.mono hk) hg m kp b .nil (Aaa (X:=X)) ha.out hdb (An he') (Cg hpl')) hs hf) fun D σ H ⟨env,μ,m,o,S,E,h,q⟩=>?_⟩
 obtain⟨ds,h1,h⟩:=bind_some h
 obtain⟨z,h2,h⟩:=bind_some h
 obtain⟨ds',h2,h3⟩:=bind_some h2
 split at h3
 ·rename_i hl
  refine⟨env,μ,m,ds,S,E,h1,fun vs H1 s1 rs=>⟨ds',z,by rw[Aue];exact C5 (S.same s1) rs h2,hl,h3,fun v H' s' r=>?_⟩⟩
  unfold Ac7 at h
  split at h
  ·rename_i d0 es0
   split at h
   ·rename_i hn
    cases h
    cases r with
    |tup t1 rs' =>
     cases rs' with
     |cons r0 rs' =>
      cases rs' with
      |cons r1 rs' =>
       cases rs'
       cases r1 with
       |@lst _ c xs hq hb rl =>
        have hnone:H1 c=none:=Avx fun z=>hb (.inl z)
        rcases hq with hq|⟨o,hq⟩
        ·obtain⟨st,S'⟩:=S.push (s1.trans s') (s1.free hnone) hq (rl.nolst hn.2)
         exact q _ H' _ st S' ((E.step S st).set i (.tup t1 (.cons (r0.nolst hn.1) (.cons (M5 S.len) .nil))))
        ·exact absurd (.inr ⟨o,_,hq⟩) hb
   ·exact Ah h
  ·exact Ah h
 ·exact Ah h3
end
noncomputable section
open Classical
def W {α:Type} (x:Option α) (Q:α->Prop):Prop:=∃ a,x=some a/\Q a
theorem W.out {d:α} (h:W x (fun a=>a=d)):x=some d:=by obtain⟨a,h1,h2⟩:=h;rw[h1,h2]
theorem W.imp {α:Type}{x:Option α}{P Q:α->Prop} (h:W x P) (i:∀ a,P a->Q a):W x Q:=by obtain⟨a,h1,h2⟩:=h;exact⟨a,h1,i a h2⟩
theorem Ac:W (some a) Q=Q a:=by
 apply propext;constructor
 ·rintro ⟨b,h,q⟩;cases h;exact q
 ·exact fun q=>⟨a,rfl,q⟩
theorem Bj:W none Q=False:=by
 apply propext;constructor
 ·rintro ⟨b,h,q⟩;exact Ah h
 ·exact False.elim
theorem W_bind:W (x.bind f) Q=W x (fun a=>W (f a) Q):=by
 cases x with
 |none=>rw[Bj];exact Bj
 |some a=>rw[Ac];rfl
theorem Jk [Decidable c]:W (if c then some x else none) Q=(c/\Q x):=by
 by_cases h:c
 ·rw[At4 h,Ac];simp[h]
 ·rw[At8 h,Bj];simp[h]
noncomputable def Aly (Q:D->Prop):Out->Prop
 |.rt d m=>W (Bt m d) Q
 |.nx _ _=>Q .non
 |_=>False
theorem Ra {d:D}:Aly Q (.rt d m)=W (Bt m d) Q:=rfl
theorem P9:Aly Q (.nx e m)=Q .non:=rfl
theorem A3:W (Dp n g ds) Q=W (g (ds.map some++List.replicate (n - ds.length) none) []) (Aly Q):=by
 unfold Dp
 rw[W_bind]
 congr 1
 funext o
 cases o<;>first|rfl|exact Ac|exact Bj
noncomputable def Aoj (g:FS) (Q:Out->Prop):Out->Prop
 |.nx e m=>W (g e m) Q
 |o=>Q o
theorem R4:Aoj g Q (.nx e m)=W (g e m) Q:=rfl
theorem R5:Aoj g Q (.rt e m)=Q (.rt e m):=rfl
theorem R0:Aoj g Q (.bk e m)=Q (.bk e m):=rfl
theorem R3:Aoj g Q (.ct e m)=Q (.ct e m):=rfl
theorem Xw:W (Be f g env m) Q=W (f env m) (Aoj g Q):=by
 unfold Be
 rw[W_bind]
 congr 1
 funext o
 cases o<;>first|rfl|exact Ac
theorem Xu:W (Dv env m) Q=Q (.nx env m):=Ac
theorem Xv:W (Ck f env m) Q=W (f env m) fun d=>Q (.rt d m):=by
 unfold Ck;rw[W_bind];congr 1;funext d;exact Ac
theorem Pq:W (Oz f env m) Q=W (f env m) fun ds=>Q (.rt (.ref m.length) (m++[.lst ds])):=by
 unfold Oz;rw[W_bind];congr 1;funext d;exact Ac
def cK (p q:Prop) (b:Bool):Prop:=(b=true->p)/\(b=false->q)
theorem Abm:cK p q true=p:=by unfold cK;simp
theorem Ab0:cK p q false=q:=by unfold cK;simp
theorem cK.mk {p q:Prop}{b:Bool} (h1:b=true->p) (h2:b=false->q):cK p q b:=⟨h1,h2⟩
theorem cK.dec [Decidable c] (h1:c->p) (h2:¬ c->q):cK p q (decide c):=⟨fun h=>h1 (Au1 h),fun h=>h2 (of_decide_eq_false h)⟩
theorem G2:W (if b=true then x else y) Q=cK (W x Q) (W y Q) b:=by
 cases b
 ·rw[Ab0];rfl
 ·rw[Abm];rfl
theorem Ag1 {t:FB}:W (sIf t f g env m) Q=W (t env m) (cK (W (f env m) Q) (W (g env m) Q)):=by
 unfold sIf;rw[W_bind];congr 1;funext c;exact G2
theorem Apu {d:D}:W (fC d env m) Q=Q d:=Ac
theorem Apt:W (f2 o f g env m) Q=W (f env m) fun x=>W (g env m) fun y=>W (o x y m) Q:=by
 unfold f2;rw[W_bind];congr 1;funext d;exact W_bind
theorem Aps:W (f1 o f env m) Q=W (f env m) fun x=>W (o x m) Q:=W_bind
theorem Xh:W (Ae env m) Q=Q []:=Ac
theorem Pp:W (Aa f g env m) Q=W (f env m) fun x=>W (g env m) fun xs=>Q (x::xs):=by
 unfold Aa;rw[W_bind];congr 1;funext d;rw[W_bind];congr 1;funext e;exact Ac
theorem Pl:W (Ao o g env m) Q=W (g env m) fun xs=>W (o xs m) Q:=W_bind
theorem Lm:W (Bn o g env m) Q=W (g env m) fun xs=>W (o xs m) Q:=W_bind
theorem Agp {T:String}:W (fMt T o f g env m) Q=W (f env m) fun x=>Ao8 T m x=true/\W (g env m) fun xs=>W (o x xs m) Q:=by
 unfold fMt;rw[W_bind];congr 1;funext d
 by_cases h:Ao8 T m d=true
 ·rw[At4 h,W_bind];simp[h]
 ·rw[At8 h,Bj];simp[h]
theorem Xa:W (Cr g env m) Q=W (g env m) fun ds=>Q (.lst ds):=by
 unfold Cr;rw[W_bind];congr 1;funext d;exact Ac
theorem Xf:W (Ca g env m) Q=W (g env m) fun ds=>ds.length<=1000000/\Q (.tup ds):=by
 unfold Ca;rw[W_bind];congr 1;funext d;exact Jk
theorem Ln:W (Bq g env m) Q=W (g env m) fun ds=>ds.length<=1000000/\Q ds:=by
 unfold Bq;rw[W_bind];congr 1;funext d;exact Jk
theorem Hq:W (Bc f env m) Q=W (f env m) fun d=>W (asB d) Q:=W_bind
theorem Agl:W (asB (.bl b)) Q=Q b:=Ac
theorem Tc:W (Jy f env m) Q=W (f env m) fun d=>W (Agf m d) Q:=W_bind
theorem X1:W (Agf m (.bl b)) Q=Q b:=Ac
theorem X3:W (Agf m (.tup ds)) Q=Q (!ds.isEmpty):=Ac
theorem X2:W (Agf m (.lst ds)) Q=Q (!ds.isEmpty):=Ac
theorem V7:W (Aca f g env m) Q=W (f env m) (cK (W (g env m) Q) (Q false)):=by
 unfold Aca;rw[W_bind];congr 1;funext c;rw[G2,Ac]
theorem Agr:W (fOr f g env m) Q=W (f env m) (cK (Q true) (W (g env m) Q)):=by
 unfold fOr;rw[W_bind];congr 1;funext c;rw[G2,Ac]
theorem Xb:W (P7 f env m) Q=W (f env m) fun b=>Q (!b):=by
 unfold P7;rw[W_bind];congr 1;funext c;exact Ac
theorem Pk:W (Us f g env m) Q=W (f env m) fun d=>W (asB d) (cK (W (g env m) Q) (Q (.bl false))):=by
 unfold Us;rw[W_bind,Hq];congr 1;funext c;congr 1;funext c;rw[G2,Ac]
theorem Xc:W (Alx f g env m) Q=W (f env m) fun d=>W (asB d) (cK (Q (.bl true)) (W (g env m) Q)):=by
 unfold Alx;rw[W_bind,Hq];congr 1;funext c;congr 1;funext c;rw[G2,Ac]
theorem Pn:W (Yn f env m) Q=W (f env m) fun d=>W (Agf m d) fun b=>Q (.bl (!b)):=by
 unfold Yn;rw[W_bind,Tc];congr 1;funext c;congr 1;funext c;exact Ac
theorem Ago {t:FB}:W (fIf t f g env m) Q=W (t env m) (cK (W (f env m) Q) (W (g env m) Q)):=by
 unfold fIf;rw[W_bind];congr 1;funext c;exact G2
theorem Ags {l h:FO}:W (fSl f l h env m) Q=W (f env m) fun x=>W (l env m) fun lo=>W (h env m) fun hi=>W (oSl x lo hi) Q:=by
 unfold fSl
 rw[W_bind];congr 1;funext x
 rw[W_bind];congr 1;funext y
 rw[W_bind]
theorem Agq:W (fNo env m) Q=Q none:=Ac
theorem Po:W (C2 f env m) Q=W (f env m) fun d=>W (asI d) fun i=>Q (some i):=by
 unfold C2
 rw[W_bind];congr 1;funext x
 rw[W_bind];congr 1;funext y
 exact Ac
theorem Agm:W (asI (.int i)) Q=Q i:=Ac
theorem Nk {z:List D}{lo hi:Option Int}{Q:D->Prop}:W (oSl (.tup z) lo hi) Q=Q (.tup (Dz z lo hi)):=Ac
def slK (lo hi:Option Int) (m:MH) (x:D) (Q:List D->Prop):Prop:=W (match x with
 |.tup _=>none
 |x=>(sq m x).bind fun ds=>some (Dz ds lo hi)) Q
theorem Xe {l h:FO}:W (Vv f l h env m) Q=W (f env m) fun x=>W (l env m) fun lo=>W (h env m) fun hi=>slK lo hi m x Q:=by
 unfold Vv slK
 rw[W_bind];congr 1;funext x
 rw[W_bind];congr 1;funext y
 rw[W_bind]<;>congr 1
theorem Akc {lo hi:Option Int}{m:MH}{ds:List D}{Q:List D->Prop}:slK lo hi m (.lst ds) Q=Q (Dz ds lo hi):=Ac
theorem Aa5 {lo hi:Option Int}{m:MH}{ds:List D}{Q:List D->Prop}:slK lo hi m (.kl ds) Q=Q (Dz ds lo hi):=Ac
theorem V8:W (Ae0 f g env m) Q=W (f env m) fun x=>W (g env m) fun y=>W (sqL m x) fun xs=>W (sqL m y) fun ys=>xs.length+ys.length<=1000000/\Q (xs++ys):=by
 unfold Ae0
 rw[W_bind];congr 1;funext x
 rw[W_bind];congr 1;funext y
 rw[W_bind];congr 1;funext z
 rw[W_bind];congr 1;funext k
 exact Jk
theorem V9:W (Acd U f env m) Q=W (f env m) fun d=>W (tyD m d) fun T=>W (Uy T U) fun b=>Q (.bl b):=by
 unfold Acd
 rw[W_bind];congr 1;funext x
 rw[W_bind];congr 1;funext y
 rw[W_bind];congr 1;funext z
 exact Ac
theorem Td:W (Ts env m) Q=Q true:=Ac
theorem Pm {cap:List Nat}{t:FB}:W (B8 cap k fw g t fe env m) Q=W (fw env m) fun w=>(w.chk m/\w.all.length<=1000000)/\W (Gp g t fe m (Vu cap k env) w.all) Q:=by
 unfold B8
 rw[W_bind];congr 1;funext w
 by_cases h:w.chk m/\w.all.length<=1000000
 ·rw[At4 h];apply propext;exact⟨fun q=>⟨h,q⟩,fun q=>q.2⟩
 ·rw[At8 h,Bj];apply propext;exact⟨False.elim,fun q=>h q.1⟩
theorem Dx {t:FB}:W (Gp g t fe m env []) Q=Q []:=Ac
theorem Dk {t:FB}{d:D}:W (Gp g t fe m env (d::ds)) Q=W (g d env) fun env1=>W (t env1 m) (cK (W (fe env1 m) fun y=>W (Gp g t fe m env ds) fun ys=>Q (y::ys)) (W (Gp g t fe m env ds) Q)):=by
 rw[Gp,W_bind];congr 1;funext e
 rw[W_bind];congr 1;funext ok
 rw[G2,W_bind]
 congr 1
 congr 1;funext y
 rw[W_bind];congr 1;funext z
 exact Ac
theorem V2:W (Gd (.int i) (.int j) m) Q=Q (.int (i+j)):=Ac
theorem V3:W (Gd (.tup i) (.tup j) m) Q=(i.length+j.length<=1000000/\Q (.tup (i++j))):=Jk
theorem X0:W (Ao7 (.int i) (.int j) m) Q=Q (.int (i - j)):=Ac
theorem Xp:W (Mr (.int i) (.int j) m) Q=(((-(2 ^ 64) < i/\i < 2 ^ 64)\/(-(2 ^ 64) < j/\j < 2 ^ 64))/\Q (.int (i * j))):=Jk
theorem V6:W (Abp (.int i) (.int j) m) Q=((0 < j/\j < 1073741824)/\Q (.int (i / j))):=Jk
theorem Xo:W (Z0 (.int i) (.int j) m) Q=(0 < j/\Q (.int (i % j))):=Jk
theorem Agz:W (oLt (.int i) (.int j) m) Q=Q (.bl (decide (i < j))):=by
 rw[show oLt (.int i) (.int j) m=some (.bl (decide (i < j))) by rfl,Ac]
theorem Agt:W (oGt (.int i) (.int j) m) Q=Q (.bl (decide (j < i))):=Ac
theorem Apr:W (oEq x y m) Q=W (Ci m x) fun x'=>W (Ci m y) fun y'=>dep x'<=60/\Q (.bl (deq x' y')):=by
 unfold oEq eqO
 rw[W_bind,W_bind];congr 1;funext x'
 rw[W_bind];congr 1;funext y'
 rw[Jk,Ac]
theorem Ap2:W (oNe x y m) Q=W (Ci m x) fun x'=>W (Ci m y) fun y'=>dep x'<=60/\Q (.bl (!deq x' y')):=by
 unfold oNe eqO
 rw[W_bind,W_bind];congr 1;funext x'
 rw[W_bind];congr 1;funext y'
 rw[Jk,Ac]
theorem Eu:W (oIx (.tup z) (.int i) m) Q=W (atI z i) Q:=rfl
theorem Agw:W (oIx (.lst z) (.int i) m) Q=W (atI z i) Q:=rfl
theorem Agv:W (oIx (.kl z) (.int i) m) Q=W (atI z i) Q:=rfl
theorem Agx:W (oIx (.ref n) (.int i) m) Q=W (sq m (.ref n)) fun z=>W (atI z i) Q:=W_bind
theorem Xm:W (Jn [.tup z] m) Q=Q (.int z.length):=Ac
theorem Xk:W (Jn [.lst z] m) Q=Q (.int z.length):=Ac
theorem Xj:W (Jn [.kl z] m) Q=Q (.int z.length):=Ac
theorem Xl:W (Jn [.ref n] m) Q=W (sq m (.ref n)) fun z=>Q (.int z.length):=by
 show W (((sq m (.ref n)).bind fun ds=>some ds.length).bind fun n=>some (.int n)) Q=_
 rw[W_bind,W_bind];congr 1;funext z;rw[Ac,Ac]
theorem Xy:W (sqL m (.lst z)) Q=Q z:=Ac
theorem Agu:W (oIn x (.tup z) m) Q=W (Ci m x) fun x'=>W (Ci m (.tup z)) fun y'=>W (sq [] y') fun ds=>dep x'<=50/\Q (.bl (ds.any fun d=>deq d x')):=by
 unfold oIn inO;rw[W_bind];simp only
 rw[W_bind];congr 1;funext x';rw[W_bind];congr 1;funext z;rw[W_bind];congr 1;funext z;rw[Jk,Ac]
theorem Ll:W (Bb n fn ds m) Q=W (Cu m ds) fun ds'=>ds'.length=n/\W (fn ds') Q:=by
 unfold Bb
 rw[W_bind];congr 1;funext z
 by_cases h:z.length=n
 ·rw[At4 h];simp[h]
 ·rw[At8 h,Bj];simp[h]
theorem Gj:W (Cu m []) Q=Q []:=Ac
theorem Gi {d:D}:W (Cu m (d::ds)) Q=W (Ci m d) fun d'=>W (Cu m ds) fun ds'=>Q (d'::ds'):=by
 rw[Cu,W_bind];congr 1;funext z;rw[W_bind];congr 1;funext z;exact Ac
theorem Pt:W (Ci m (.int b)) Q=Q (.int b):=Ac
theorem Lp:W (Ci m (.str b)) Q=Q (.str b):=Ac
theorem Pv:W (Ci m (.lst b)) Q=(Au b=true/\Q (.lst b)):=Jk
theorem Pu:W (Ci m (.kl b)) Q=(Au b=true/\Q (.kl b)):=Jk
theorem Ag4:W (tyD m (.int b)) Q=Q "int":=Ac
theorem Ag6:W (tyD m (.str b)) Q=Q "str":=Ac
theorem Ag7:W (tyD m (.tup b)) Q=Q "tuple":=Ac
theorem Ag5:W (tyD m (.lst b)) Q=Q "list":=Ac
theorem Gf:W (Uy "int" "str") Q=Q false:=by rw[show Uy "int" "str"=some false by decide,Ac]
theorem Gg:W (Uy "str" "str") Q=Q true:=by rw[show Uy "str" "str"=some true by decide,Ac]
theorem De:W (Uy "tuple" "tuple") Q=Q true:=by rw[show Uy "tuple" "tuple"=some true by decide,Ac]
theorem Dy:W (Uy "list" "list") Q=Q true:=by rw[show Uy "list" "list"=some true by decide,Ac]
theorem Ag9:W (Bt m (.bl b)) Q=Q (.bl b):=by rw[Bt,Ac]
theorem Aha:W (Bt m (.int b)) Q=Q (.int b):=by rw[Bt,Ac]
theorem Ahb:W (Bt m (.str b)) Q=Q (.str b):=by rw[Bt,Ac]
theorem X6:W (Cz m []) Q=Q []:=by rw[Cz,Ac]
theorem X5 {d:D}:W (Cz m (d::ds)) Q=W (Bt m d) fun e=>W (Cz m ds) fun es=>Q (e::es):=by
 rw[Cz,W_bind];congr 1;funext z;rw[W_bind];congr 1;funext z;exact Ac
def Ao0 (m:MH) (d:D) (Q:Wk->Prop):Prop:=W (match d with
 |.str z=>some ⟨J9 z,B6⟩
 |.tup ds=>some ⟨ds,B6⟩
 |.lst ds=>some ⟨ds,B6⟩
 |.kl ds=>some ⟨ds,B6⟩
 |.ref n=>(match m[n]? with
  |some (.lst ds)=>some ⟨ds,fun m'=>m'[n]?=some (.lst ds)⟩
  |_=>none)
 |_=>none) Q
theorem X4:W (Ed f env m) Q=W (f env m) fun d=>Ao0 m d Q:=W_bind
theorem Aso:Ao0 m (.tup z) Q=Q ⟨z,B6⟩:=Ac
theorem Asm:Ao0 m (.lst z) Q=Q ⟨z,B6⟩:=Ac
theorem Asn:Ao0 m (.ref n) Q=W (sq m (.ref n)) fun ds=>Q ⟨ds,fun m'=>m'[n]?=some (.lst ds)⟩:=by
 unfold Ao0 sq
 simp only
 cases m[n]? with
 |none=>rw[Bj,Bj]
 |some o=>cases o with
  |lst ds=>rw[Ac,Ac]
  |dct ds=>rw[Bj,Bj]
  |dcs ks ds=>rw[Bj,Bj]
def As1 (ds:List D) (Q:Wk->Prop):Prop:=W (match ds with
 |[.int j]=>if -(2 ^ 62)<=j/\j < 2 ^ 62 then some ⟨Ga 0 j.toNat,B6⟩ else none
 |_=>none) Q
theorem Pw:W (Ni g env m) Q=W (g env m) fun ds=>As1 ds Q:=W_bind
theorem Aj8:As1 [.int j] Q=((-(2 ^ 62)<=j/\j < 2 ^ 62)/\Q ⟨Ga 0 j.toNat,B6⟩):=Jk
theorem Xs:W (Jl f g b env m) Q=W (f env m) fun w=>W (Hi w.chk g b w.all env m) Q:=W_bind
theorem Abs:W (Hi chk g b [] e m) Q=(chk m/\Q (.nx e m)):=by rw[Hi];exact Jk
def Vm (chk:MH->Prop) (g:FG) (b:FS) (ds:List D) (Q:Out->Prop):Out->Prop
 |.nx e m=>W (Hi chk g b ds e m) Q
 |.ct e m=>W (Hi chk g b ds e m) Q
 |.bk e m=>Q (.nx e m)
 |.rt d m=>Q (.rt d m)
theorem Nb:Vm chk g b ds Q (.nx e m)=W (Hi chk g b ds e m) Q:=rfl
theorem Na:Vm chk g b ds Q (.ct e m)=W (Hi chk g b ds e m) Q:=rfl
theorem M9:Vm chk g b ds Q (.bk e m)=Q (.nx e m):=rfl
theorem Nc:Vm chk g b ds Q (.rt e m)=Q (.rt e m):=rfl
theorem Xg {d:D}:W (Hi chk g b (d::ds) e m) Q=(chk m/\W (g d e) fun e1=>W (b e1 m) (Vm chk g b ds Q)):=by
 rw[Hi]
 by_cases h:chk m
 ·rw[At4 h,W_bind]
  apply propext
  have k:∀ e1,W ((b e1 m).bind fun o=>match o with
   |.nx env2 m2=>Hi chk g b ds env2 m2
   |.ct env2 m2=>Hi chk g b ds env2 m2
   |.bk env2 m2=>some (.nx env2 m2)
   |.rt d m2=>some (.rt d m2)) Q=W (b e1 m) (Vm chk g b ds Q):=by
   intro e1
   rw[W_bind]
   congr 1
   funext o
   cases o<;>first|rfl|exact Ac
  exact⟨fun q=>⟨h,q.imp fun e1 q=>(k e1) ▸ q⟩,fun q=>q.2.imp fun e1 q=>(k e1) ▸ q⟩
 ·rw[At8 h,Bj];simp[h]
theorem Gm:B6 m=True:=rfl
theorem Aqc {d:D}{l:A0}:W (Af 0 (some d::l) m) Q=Q d:=Ac
theorem Aph {d:D}{l:A0}:W (As 0 d (y::l)) Q=Q (some d::l):=Ac
theorem Aqd {d:D}{l:A0}:W (Af 1 (x0::some d::l) m) Q=Q d:=Ac
theorem Ap3 {l:A0}:W (B3 1 f (x0::y::l) m) Q=W (f (x0::y::l) m) fun d=>Q (.nx (x0::some d::l) m):=by unfold B3;rw[W_bind];congr 1;funext d;exact Ac
theorem Apw {l:A0}:W (Gb 1 f (x0::y::l) m) Q=W (f (x0::y::l) m) fun ds=>Q (.nx (x0::some (.ref m.length)::l) (m++[.lst ds])):=by unfold Gb;rw[W_bind];congr 1;funext d;exact Ac
theorem Api {d:D}{l:A0}:W (As 1 d (x0::y::l)) Q=Q (x0::some d::l):=Ac
theorem Aqe {d:D}{l:A0}:W (Af 2 (x0::x1::some d::l) m) Q=Q d:=Ac
theorem Ap4 {l:A0}:W (B3 2 f (x0::x1::y::l) m) Q=W (f (x0::x1::y::l) m) fun d=>Q (.nx (x0::x1::some d::l) m):=by unfold B3;rw[W_bind];congr 1;funext d;exact Ac
theorem Apx {l:A0}:W (Gb 2 f (x0::x1::y::l) m) Q=W (f (x0::x1::y::l) m) fun ds=>Q (.nx (x0::x1::some (.ref m.length)::l) (m++[.lst ds])):=by unfold Gb;rw[W_bind];congr 1;funext d;exact Ac
theorem Apj {d:D}{l:A0}:W (As 2 d (x0::x1::y::l)) Q=Q (x0::x1::some d::l):=Ac
theorem Aqf {d:D}{l:A0}:W (Af 3 (x0::x1::x2::some d::l) m) Q=Q d:=Ac
theorem Ap5 {l:A0}:W (B3 3 f (x0::x1::x2::y::l) m) Q=W (f (x0::x1::x2::y::l) m) fun d=>Q (.nx (x0::x1::x2::some d::l) m):=by unfold B3;rw[W_bind];congr 1;funext d;exact Ac
theorem Apy {l:A0}:W (Gb 3 f (x0::x1::x2::y::l) m) Q=W (f (x0::x1::x2::y::l) m) fun ds=>Q (.nx (x0::x1::x2::some (.ref m.length)::l) (m++[.lst ds])):=by unfold Gb;rw[W_bind];congr 1;funext d;exact Ac
theorem Apk {d:D}{l:A0}:W (As 3 d (x0::x1::x2::y::l)) Q=Q (x0::x1::x2::some d::l):=Ac
theorem Aqg {d:D}{l:A0}:W (Af 4 (x0::x1::x2::x3::some d::l) m) Q=Q d:=Ac
theorem Ap6 {l:A0}:W (B3 4 f (x0::x1::x2::x3::y::l) m) Q=W (f (x0::x1::x2::x3::y::l) m) fun d=>Q (.nx (x0::x1::x2::x3::some d::l) m):=by unfold B3;rw[W_bind];congr 1;funext d;exact Ac
theorem Apz {l:A0}:W (Gb 4 f (x0::x1::x2::x3::y::l) m) Q=W (f (x0::x1::x2::x3::y::l) m) fun ds=>Q (.nx (x0::x1::x2::x3::some (.ref m.length)::l) (m++[.lst ds])):=by unfold Gb;rw[W_bind];congr 1;funext d;exact Ac
theorem Apl {d:D}{l:A0}:W (As 4 d (x0::x1::x2::x3::y::l)) Q=Q (x0::x1::x2::x3::some d::l):=Ac
theorem Aqh {d:D}{l:A0}:W (Af 5 (x0::x1::x2::x3::x4::some d::l) m) Q=Q d:=Ac
theorem Ap7 {l:A0}:W (B3 5 f (x0::x1::x2::x3::x4::y::l) m) Q=W (f (x0::x1::x2::x3::x4::y::l) m) fun d=>Q (.nx (x0::x1::x2::x3::x4::some d::l) m):=by unfold B3;rw[W_bind];congr 1;funext d;exact Ac
theorem Ap0 {l:A0}:W (Gb 5 f (x0::x1::x2::x3::x4::y::l) m) Q=W (f (x0::x1::x2::x3::x4::y::l) m) fun ds=>Q (.nx (x0::x1::x2::x3::x4::some (.ref m.length)::l) (m++[.lst ds])):=by unfold Gb;rw[W_bind];congr 1;funext d;exact Ac
theorem Apm {d:D}{l:A0}:W (As 5 d (x0::x1::x2::x3::x4::y::l)) Q=Q (x0::x1::x2::x3::x4::some d::l):=Ac
theorem Aqi {d:D}{l:A0}:W (Af 6 (x0::x1::x2::x3::x4::x5::some d::l) m) Q=Q d:=Ac
theorem Ap8 {l:A0}:W (B3 6 f (x0::x1::x2::x3::x4::x5::y::l) m) Q=W (f (x0::x1::x2::x3::x4::x5::y::l) m) fun d=>Q (.nx (x0::x1::x2::x3::x4::x5::some d::l) m):=by unfold B3;rw[W_bind];congr 1;funext d;exact Ac
theorem Ap1 {l:A0}:W (Gb 6 f (x0::x1::x2::x3::x4::x5::y::l) m) Q=W (f (x0::x1::x2::x3::x4::x5::y::l) m) fun ds=>Q (.nx (x0::x1::x2::x3::x4::x5::some (.ref m.length)::l) (m++[.lst ds])):=by unfold Gb;rw[W_bind];congr 1;funext d;exact Ac
theorem Apn {d:D}{l:A0}:W (As 6 d (x0::x1::x2::x3::x4::x5::y::l)) Q=Q (x0::x1::x2::x3::x4::x5::some d::l):=Ac
theorem Aqj {d:D}{l:A0}:W (Af 7 (x0::x1::x2::x3::x4::x5::x6::some d::l) m) Q=Q d:=Ac
theorem Ap9 {l:A0}:W (B3 7 f (x0::x1::x2::x3::x4::x5::x6::y::l) m) Q=W (f (x0::x1::x2::x3::x4::x5::x6::y::l) m) fun d=>Q (.nx (x0::x1::x2::x3::x4::x5::x6::some d::l) m):=by unfold B3;rw[W_bind];congr 1;funext d;exact Ac
theorem Apo {d:D}{l:A0}:W (As 7 d (x0::x1::x2::x3::x4::x5::x6::y::l)) Q=Q (x0::x1::x2::x3::x4::x5::x6::some d::l):=Ac
theorem Aqk {d:D}{l:A0}:W (Af 8 (x0::x1::x2::x3::x4::x5::x6::x7::some d::l) m) Q=Q d:=Ac
theorem Aqa {l:A0}:W (B3 8 f (x0::x1::x2::x3::x4::x5::x6::x7::y::l) m) Q=W (f (x0::x1::x2::x3::x4::x5::x6::x7::y::l) m) fun d=>Q (.nx (x0::x1::x2::x3::x4::x5::x6::x7::some d::l) m):=by unfold B3;rw[W_bind];congr 1;funext d;exact Ac
theorem App {d:D}{l:A0}:W (As 8 d (x0::x1::x2::x3::x4::x5::x6::x7::y::l)) Q=Q (x0::x1::x2::x3::x4::x5::x6::x7::some d::l):=Ac
theorem Aql {d:D}{l:A0}:W (Af 9 (x0::x1::x2::x3::x4::x5::x6::x7::x8::some d::l) m) Q=Q d:=Ac
theorem Aqb {l:A0}:W (B3 9 f (x0::x1::x2::x3::x4::x5::x6::x7::x8::y::l) m) Q=W (f (x0::x1::x2::x3::x4::x5::x6::x7::x8::y::l) m) fun d=>Q (.nx (x0::x1::x2::x3::x4::x5::x6::x7::x8::some d::l) m):=by unfold B3;rw[W_bind];congr 1;funext d;exact Ac
theorem Apq {d:D}{l:A0}:W (As 9 d (x0::x1::x2::x3::x4::x5::x6::x7::x8::y::l)) Q=Q (x0::x1::x2::x3::x4::x5::x6::x7::x8::some d::l):=Ac
theorem Ag8 {d:D}{l:A0}:W (Af 10 (x0::x1::x2::x3::x4::x5::x6::x7::x8::x9::some d::l) m) Q=Q d:=Ac
end
theorem Bv:deq (.int i) (.int j)=decide (i=j):=by
 unfold deq pyD
 rw[show PyData.eqv (.int i) (.int j)=(i == j) by simp[PyData.eqv]]
 by_cases h:i=j<;>simp[h]
theorem C1:deq (.str i) (.str j)=decide (i=j):=by
 unfold deq pyD
 rw[show PyData.eqv (.str i) (.str j)=(i == j) by simp[PyData.eqv]]
 by_cases h:i=j<;>simp[h]
theorem Tn:deq (.bl i) (.bl j)=decide (i=j):=by
 cases i<;>cases j<;>decide
theorem Bl:dep (.int i)=0:=by simp[dep]
theorem C0:dep (.str i)=0:=by simp[dep]
theorem Lx:dep .non=0:=by simp[dep]
theorem Gw (ns:List Int):Au (ns.map D.int)=true:=by
 induction ns with
 |nil=>rw[Avm,Au]
 |cons n ns ih=>rw[At5,Au,ih,show Bm (D.int n)=true by simp[Bm]];rfl
theorem Ul (h0:0<=i) (h1:i < xs.length) (q:∀ d,xs[i.toNat]?=some d->d∈xs->Q d):W (atI xs i) Q:=by
 unfold atI ixN
 rw[At4 h0,At4 h1]
 have hi:i.toNat < xs.length:=by lia
 refine⟨xs[i.toNat],?_,q _ (Atx hi) (Auz hi)⟩
 exact Atx hi
theorem Akw:(⟨#[c]⟩:Str).length=1:=rfl
theorem Lu:Vu [] k env=List.replicate k none:=rfl
theorem Hs {cap:List Nat}:Vu (i::cap) k env=(env[i]?).bind id::Vu cap k env:=rfl
theorem Bu {α:Type}{g:FG}{fe:FE}{m:MH}{env:A0}{h:α->D} (F:α->D) {xs:List α}{Q:List D->Prop} (k:∀ x∈xs,W (g (h x) env) fun e1=>W (fe e1 m) fun y=>y=F x) (q:Q (xs.map F)):W (Gp g Ts fe m env (xs.map h)) Q:=by
 induction xs generalizing Q with
 |nil=>rw[Avm,Dx];exact q
 |cons d ds ih =>
  rw[At5,Dk]
  refine (k d (At0 ..)).imp fun e1 h1=>?_
  rw[Td,Abm]
  refine h1.imp fun y hy=>?_
  subst hy
  exact ih (fun e he=>k e (Atz _ he)) q
noncomputable section
open Classical
theorem Abv:W (sq m (.tup ds)) Q=Q ds:=Ac
theorem Xx:W (sq m (.lst ds)) Q=Q ds:=Ac
theorem Xz:W (sqL m (.ref n)) Q=W (sq m (.ref n)) Q:=rfl
def Ao6 (o:List D->List D->Option (List D)) (d:D) (g:FL) (env:A0) (m:MH) (Q:Out->Prop):Prop:=W (match d with
 |.ref n=>(g env m).bind fun es=>(match m[n]? with
  |some (.lst ds)=>(o ds es).bind fun fs=>some (.nx env (m.set n (.lst fs)))
  |_=>none)
 |_=>none) Q
theorem Xt:W (J6 o f g env m) Q=W (f env m) fun d=>Ao6 o d g env m Q:=by
 unfold J6 Ao6
 rw[W_bind]<;>congr 1
theorem Zp:Ao6 o (.ref n) g env m Q=W (g env m) fun es=>W (sq m (.ref n)) fun ds=>W (o ds es) fun fs=>Q (.nx env (m.set n (.lst fs))):=by
 unfold Ao6 sq
 simp only
 rw[W_bind];congr 1;funext es
 cases m[n]? with
 |none=>rw[Bj,Bj]
 |some o=>cases o with
  |lst ds=>simp only;rw[Ac,W_bind];congr 1;funext j;exact Ac
  |dct ds=>rw[Bj,Bj]
  |dcs ks ds=>rw[Bj,Bj]
theorem Xq {d:D}:W (Rn ds [d]) Q=(ds.length < 1000000/\Q (ds++[d])):=Jk
theorem Gh:W (Hn ds []) Q=Q ds.reverse:=Ac
theorem Lo {d:D}:W (Dm [d] m) Q=W (sq m d) fun ds=>Q (.tup ds):=W_bind.trans (by congr 1;funext ds;exact Ac)
theorem Xr:W (Aog f g env m) Q=W (f env m) fun d=>W (g d env) fun e=>Q (.nx e m):=by
 unfold Aog
 rw[W_bind];congr 1;funext x
 rw[W_bind];congr 1;funext y
 exact Ac
theorem Tb:W (He n g (.tup ds) env) Q=(ds.length=n/\W (g ds env) Q):=by
 unfold He
 simp only
 by_cases h:ds.length=n
 ·rw[At4 h];simp[h]
 ·rw[At8 h,Bj];simp[h]
theorem Ph {d:D}:W (B9 g h (d::ds) env) Q=W (g d env) fun e=>W (h ds e) Q:=W_bind
theorem V5:W (Pd [] env) Q=Q env:=Ac
def Asb (xs:List D) (y:D) (Q:List D->Prop):Prop:=W (match y with
 |.int i=>if 0<=i/\i < 2 ^ 62/\xs.length * i.toNat<=1000000 then some (Ge xs i.toNat) else none
 |_=>none) Q
theorem Xd:W (Akv g f env m) Q=W (g env m) fun xs=>W (f env m) fun y=>Asb xs y Q:=by
 unfold Akv Asb
 rw[W_bind];congr 1;funext x
 rw[W_bind]<;>congr 1
theorem Aa2:Asb xs (.int i) Q=((0<=i/\i < 2 ^ 62/\xs.length * i.toNat<=1000000)/\Q (Ge xs i.toNat)):=Jk
theorem Xn:W (Ac4 [.int i,.int j] m) Q=Q (.int (if j < i then j else i)):=Ac
theorem Agy:W (Aky x y m) Q=W (Ci m x) fun x'=>W (Ci m y) fun y'=>(dep x'<=30/\dep y'<=30)/\W (ltD x' y') fun k=>Q (.bl k):=by
 unfold Aky
 rw[W_bind];congr 1;funext x'
 rw[W_bind];congr 1;funext y'
 by_cases h:dep x'<=30/\dep y'<=30
 ·rw[At4 h,W_bind]
  apply propext
  have e:(fun k=>W (some (D.bl k)) Q)=fun k=>Q (.bl k):=by funext k;exact Ac
  rw[e]
  exact⟨fun q=>⟨h,q⟩,fun q=>q.2⟩
 ·rw[At8 h,Bj];apply propext;exact⟨False.elim,fun q=>h q.1⟩
theorem Um:W (sq (.lst ds::m) (.ref 0)) Q=Q ds:=Ac
theorem As9 {n:Nat}{ds:List D}{m:MH}{Q:D->Prop} (h:m[n]?=some (.lst ds)):W (Bt m (.ref n)) Q=cK (Q (.lst ds)) (W (xpL m ds) fun es=>Q (.lst es)) (A1 ds):=by
 rw[Bt,h]
 show W (if _ then _ else _) Q=_
 rw[G2,Ac,W_bind]
 congr 2;funext es;exact Ac
theorem Ahc:W (Bt (.lst ds::m) (.ref 0)) Q=cK (Q (.lst ds)) (W (xpL (.lst ds::m) ds) fun es=>Q (.lst es)) (A1 ds):=As9 rfl
end
theorem W.eq (h:W x fun d=>d=a):W x Q=Q a:=by rw[h.out,Ac]
mutual
theorem G1:∀ {d:D},A2 d=true->Bt m d=some d
 |.non,_=>by rw[Bt]
 |.bl _,_=>by rw[Bt]
 |.int _,_=>by rw[Bt]
 |.str _,_=>by rw[Bt]
 |.tup ds,h=>by rw[A2] at h;rw[Bt,Jj h];rfl
 |.lst _,h=>by simp[A2] at h
 |.kl _,h=>by simp[A2] at h
 |.ref _,h=>by simp[A2] at h
theorem Jj:∀ {ds:List D},A1 ds=true->Cz m ds=some ds
 |[],_=>by rw[Cz]
 |d::ds,h=>by
  rw[A1,Aua] at h
  rw[Cz,G1 h.1,Jj h.2];rfl
end
mutual
theorem Gv:∀ {d:D},A2 d=true->Bm d=true
 |.non,_=>by simp[Bm]
 |.bl _,_=>by simp[Bm]
 |.int _,_=>by simp[Bm]
 |.str _,_=>by simp[Bm]
 |.tup ds,h=>by rw[A2] at h;rw[Bm];exact A7 h
 |.lst _,h=>by simp[A2] at h
 |.kl _,h=>by simp[A2] at h
 |.ref _,h=>by simp[A2] at h
theorem A7:∀ {ds:List D},A1 ds=true->Au ds=true
 |[],_=>by rw[Au]
 |d::ds,h=>by
  rw[A1,Aua] at h
  rw[Au,Gv h.1,A7 h.2];rfl
end
theorem C6 {d:D} (h:A2 d=true):Ci m d=some d:=by
 have h2:=Gv h
 cases d<;>first|(simp[A2] at h;done)|(unfold Ci;simp only;rw[At4 h2])
theorem Abx {d:D} (h:A2 d=true):W (Bt m d) Q=Q d:=by rw[G1 h,Ac]
theorem Pr {d:D} (h:A2 d=true):W (Ci m d) Q=Q d:=by rw[C6 h,Ac]
theorem Ey:A2 .non=true:=by simp[A2]
theorem Bf:A2 (.int b)=true:=by simp[A2]
theorem Bx:A2 (.str b)=true:=by simp[A2]
theorem Aw:A2 (.tup ds)=A1 ds:=by rw[A2]
theorem Bg:A1 []=true:=by rw[A1]
theorem Am {d:D}:A1 (d::ds)=(A2 d&&A1 ds):=by rw[A1]
theorem Dl:∀ {ds:List D},A1 ds=true ↔ ∀ d∈ds,A2 d=true
 |[]=>by simp[A1]
 |d::ds=>by rw[A1,Aua,Dl];simp
theorem Dq:A1 (ds++es)=(A1 ds&&A1 es):=by
 rw[Avr,Aua,Dl,Dl,Dl]
 constructor
 ·exact fun h=>⟨fun d hd=>h d (Auq _ hd),fun d hd=>h d (Aty _ hd)⟩
 ·rintro ⟨h1,h2⟩ d hd
  rcases List.mem_append.mp hd with hd|hd
  ·exact h1 d hd
  ·exact h2 d hd
theorem Ab {α:Type}{f:α->D}{xs:List α} (h:∀ x,A2 (f x)=true):A1 (xs.map f)=true:=by
 rw[Dl];intro d hd;obtain⟨x,_,rfl⟩:=List.mem_map.mp hd;exact h x
theorem D1:deq (.tup []) (.tup [])=true:=by simp[deq,pyD,Iy,PyData.eqv,PyData.eqvAll]
theorem Cc:deq (.tup (x::xs)) (.tup (y::ys))=(deq x y&&deq (.tup xs) (.tup ys)):=by
 simp[deq,pyD,Iy,PyData.eqv,PyData.eqvAll]
theorem Als:deq (.tup []) (.tup (x::xs))=false:=by simp[deq,pyD,Iy,PyData.eqv,PyData.eqvAll]
theorem Aev:deq (.tup (x::xs)) (.tup [])=false:=by simp[deq,pyD,Iy,PyData.eqv,PyData.eqvAll]
theorem Ab6:deq (.lst []) (.lst [])=true:=by simp[deq,pyD,Iy,PyData.eqv,PyData.eqvAll]
theorem Yi:deq (.lst (x::xs)) (.lst (y::ys))=(deq x y&&deq (.lst xs) (.lst ys)):=by
 simp[deq,pyD,Iy,PyData.eqv,PyData.eqvAll]
theorem Ahm:deq (.lst []) (.lst (x::xs))=false:=by simp[deq,pyD,Iy,PyData.eqv,PyData.eqvAll]
theorem Ahl:deq (.lst (x::xs)) (.lst [])=false:=by simp[deq,pyD,Iy,PyData.eqv,PyData.eqvAll]
theorem Alu:deq .non .non=true:=by simp[deq,pyD,PyData.eqv]
theorem Alr {t:Str}:deq (.int i) (.str t)=false:=by simp[deq,pyD,PyData.eqv]
theorem Alv {t:Str}:deq (.str t) (.int i)=false:=by simp[deq,pyD,PyData.eqv]
theorem Ly [DecidableEq α] (h:∀ x y,deq (f x) (f y)=decide (x=y)):∀ xs ys:List α,deq (.tup (xs.map f)) (.tup (ys.map f))=decide (xs=ys)
 |[],[]=>by simp[D1]
 |[],y::ys=>by simp[Als]
 |x::xs,[]=>by simp[Aev]
 |x::xs,y::ys=>by
  rw[At5,At5,Cc,h,Ly h xs ys]
  by_cases e1:x=y<;>by_cases e2:xs=ys<;>simp[e1,e2]
theorem To [DecidableEq α] (h:∀ x y,deq (f x) (f y)=decide (x=y)):∀ xs ys:List α,deq (.lst (xs.map f)) (.lst (ys.map f))=decide (xs=ys)
 |[],[]=>by simp[Ab6]
 |[],y::ys=>by simp[Ahm]
 |x::xs,[]=>by simp[Ahl]
 |x::xs,y::ys=>by
  rw[At5,At5,Yi,h,To h xs ys]
  by_cases e1:x=y<;>by_cases e2:xs=ys<;>simp[e1,e2]
theorem Cn:dep (.tup ds)=Dj ds+1:=by rw[dep]
theorem Br {n:Nat}:∀ {ds:List D},(∀ d∈ds,dep d<=n)->Dj ds<=n
 |[],_=>by rw[Dj];exact Auw _
 |d::ds,h=>by
  rw[Dj]
  have h1:=h d (At0 ..)
  have h2:=Br (n:=n) (ds:=ds) fun e he=>h e (Atz _ he)
  lia
noncomputable def Zc {α:Type} (I:List α->A0->MH->Prop) (xs:List α) (Q:Out->Prop):Out->Prop
 |.nx e m=>I xs e m
 |.ct e m=>I xs e m
 |.bk e m=>Q (.nx e m)
 |.rt d m=>Q (.rt d m)
theorem Me:Zc I xs Q (.nx e m)=I xs e m:=rfl
theorem Md:Zc I xs Q (.ct e m)=I xs e m:=rfl
theorem Mc:Zc I xs Q (.bk e m)=Q (.nx e m):=rfl
theorem Mf {d:D}:Zc I xs Q (.rt d m)=Q (.rt d m):=rfl
theorem Cv {α:Type}{h:α->D}{chk:MH->Prop}{g:FG}{b:FS}{Q:Out->Prop} (I:List α->A0->MH->Prop) (hs:∀ x xs e m,I (x::xs) e m->chk m/\W (g (h x) e) fun e1=>W (b e1 m) (Zc I xs Q)) (he:∀ e m,I [] e m->chk m/\Q (.nx e m)) :
  ∀ {xs:List α}{e:A0}{m:MH},I xs e m->W (Hi chk g b (xs.map h) e m) Q
 |[],e,m,hi=>by
  rw[Avm,Abs];exact he e m hi
 |x::xs,e,m,hi=>by
  rw[At5,Xg]
  obtain⟨h1,h2⟩:=hs x xs e m hi
  refine⟨h1,h2.imp fun e1 h3=>h3.imp fun o ho=>?_⟩
  cases o with
  |nx e m=>exact Cv I hs he ho
  |ct e m=>exact Cv I hs he ho
  |bk e m=>exact ho
  |rt d m=>exact ho
noncomputable def U6 (I:Nat->A0->MH->Prop) (k:Nat) (Q:Out->Prop):Out->Prop
 |.nx e m=>I k e m
 |.ct e m=>I k e m
 |.bk e m=>Q (.nx e m)
 |.rt d m=>Q (.rt d m)
theorem Ma:U6 I k Q (.nx e m)=I k e m:=rfl
theorem L9:U6 I k Q (.ct e m)=I k e m:=rfl
theorem L8:U6 I k Q (.bk e m)=Q (.nx e m):=rfl
theorem Mb {d:D}:U6 I k Q (.rt d m)=Q (.rt d m):=rfl
theorem Alb (I:Nat->A0->MH->Prop) (hs:∀ (k:Nat) e m,k < n->I k e m->chk m/\W (g (h k) e) fun e1=>W (b e1 m) (U6 I (k+1) Q)) (he:∀ e m,I n e m->chk m/\Q (.nx e m)) (h0:I 0 e m):W (Hi chk g b ((List.range n).map h) e m) Q:=by
 refine Cv (h:=h) (fun xs e m=>∃ k,k<=n/\xs=(List.range n).drop k/\I k e m) ?_ ?_ ⟨0,Auw _,rfl,h0⟩
 ·rintro x xs e m ⟨k,hk,hx,hi⟩
  have hk2:k < n:=by
   rcases Nat.lt_or_ge k n with h|h
   ·exact h
   ·rw[List.drop_eq_nil_of_le (by simpa using h)] at hx;cases hx
  rw[Avv (by simpa using hk2),List.getElem_range] at hx
  obtain⟨e1,e2⟩:=List.cons.inj hx
  rw[e1,e2]
  obtain⟨h1,h2⟩:=hs k e m hk2 hi
  refine⟨h1,h2.imp fun e1 h3=>h3.imp fun o ho=>?_⟩
  cases o with
  |nx e m=>exact⟨k+1,hk2,rfl,ho⟩
  |ct e m=>exact⟨k+1,hk2,rfl,ho⟩
  |bk e m=>exact ho
  |rt d m=>exact ho
 ·rintro e m ⟨k,hk,hx,hi⟩
  have:k=n:=by
   have:=Avz List.length hx
   simp at this;lia
  subst this
  exact he e m hi
theorem Jt {lo:Int}{n:Nat}{chk:MH->Prop}{g:FG}{b:FS}{Q:Out->Prop}{e:A0}{m:MH} (I:Nat->A0->MH->Prop) (hs:∀ (k:Nat) e m,k < n->I k e m->chk m/\W (g (.int (lo+k)) e) fun e1=>W (b e1 m) (U6 I (k+1) Q)) (he:∀ e m,I n e m->chk m/\Q (.nx e m)) (h0:I 0 e m):W (Hi chk g b (Ga lo n) e m) Q:=Alb I hs he h0
theorem Rv:Ga 0 3=[.int 0,.int 1,.int 2]:=rfl
theorem Pe {l:List α}:W (atI (x::l) 0) Q=Q x:=by
 rw[show atI (x::l) 0=some x by unfold atI ixN;rw[At4 (by decide),At4 (by simp<;>lia)];rfl,Ac]
theorem Pf {l:List α}:W (atI (x::y::l) 1) Q=Q y:=by
 rw[show atI (x::y::l) 1=some y by unfold atI ixN;rw[At4 (by decide),At4 (by simp<;>lia)];rfl,Ac]
theorem V4 {l:List α}:W (atI (x::y::z::l) 2) Q=Q z:=by
 rw[show atI (x::y::z::l) 2=some z by unfold atI ixN;rw[At4 (by decide),At4 (by simp<;>lia)];rfl,Ac]
theorem Abq {l:List α}:W (atI (x::y::z::w::l) 3) Q=Q w:=by
 rw[show atI (x::y::z::w::l) 3=some w by unfold atI ixN;rw[At4 (by decide),At4 (by simp<;>lia)];rfl,Ac]
theorem Dw {α β:Type}{f:α->β}{xs:List α}{k:Nat} (h:k < xs.length) {Q:β->Prop}:W (atI (xs.map f) (k:Int)) Q=Q (f xs[k]):=by
 rw[show atI (xs.map f) (k:Int)=some (f xs[k]) by unfold atI ixN;rw[At4 (by lia),At4 (by simp;lia)];simp[h],Ac]
theorem Ao9 {n d:Nat}:HT.sIx n d none=d:=rfl
theorem Aqs:Dz [x,y,z,w] none (some 3)=[x,y,z]:=rfl
inductive Mark where
 |n (i:Int)
 |s (t:Str)
 deriving DecidableEq
structure Mk where
 a:Int
 b:Int
 c:Int
 ms:List Mark
 deriving DecidableEq
noncomputable def Mark.d:Mark->D
 |.n i=>.int i
 |.s t=>.str t
def Mk.d (x:Mk):D:=.tup [.int x.a,.int x.b,.int x.c,.tup (x.ms.map Mark.d)]
noncomputable def Mark.lt:Mark->Mark->Bool
 |.n i,.n j=>decide (i < j)
 |.n _,.s _=>true
 |.s _,.n _=>false
 |.s t,.s u=>decide (t.cps.toList < u.cps.toList)
def mlt:List Mark->List Mark->Bool
 |[],[]=>false
 |[],_::_=>true
 |_::_,[]=>false
 |x::xs,y::ys=>if x=y then mlt xs ys else x.lt y
def Mk.older (x y:Mk):Bool :=
 if x.a≠y.a then decide (x.a < y.a) else if x.b≠y.b then decide (x.b < y.b) else if x.c≠y.c then decide (x.c < y.c) else
 if x.ms=[]\/y.ms=[] then decide (x.ms≠[]/\y.ms=[]) else mlt x.ms y.ms
theorem Mark.deq (x y:Mark):deq x.d y.d=decide (x=y):=by
 cases x<;>cases y<;>simp[Mark.d,Bv,C1,Alr,Alv]
theorem Mk.deq (x y:Mk):L2.ML.deq x.d y.d=decide (x=y):=by
 unfold Mk.d
 rw[Cc,Cc,Cc,Cc,D1,Bv,Bv,Bv,Ly Mark.deq]
 obtain⟨a,b,c,ms⟩:=x
 obtain⟨a',b',c',ms'⟩:=y
 by_cases h1:a=a'<;>by_cases h2:b=b'<;>by_cases h3:c=c'<;>by_cases h4:ms=ms'<;>simp[h1,h2,h3,h4]
theorem Mark.pure (x:Mark):A2 x.d=true:=by cases x<;>simp[Mark.d,A2]
theorem Mk.pure (x:Mk):A2 x.d=true:=by
 unfold Mk.d
 rw[Aw,Am,Am,Am,Am,Bf,Bf,Bf,Aw,Ab Mark.pure,Bg];rfl
theorem Mark.dep (x:Mark):dep x.d=0:=by cases x<;>simp[Mark.d,Bl,C0]
theorem Mk.dep (x:Mk):L2.ML.dep x.d<=2:=by
 unfold Mk.d
 rw[Cn]
 have h:Dj (x.ms.map Mark.d)<=0:=Br fun d hd=>by
  obtain⟨m,_,rfl⟩:=List.mem_map.mp hd
  rw[Mark.dep];exact At3 _
 have:Dj [D.int x.a,D.int x.b,D.int x.c,D.tup (x.ms.map Mark.d)]<=1:=Br fun d hd=>by
  simp only[Aup,Auf,or_false] at hd
  rcases hd with rfl|rfl|rfl|rfl
  ·rw[Bl];lia
  ·rw[Bl];lia
  ·rw[Bl];lia
  ·rw[Cn];lia
 lia
theorem Es (xs:List Mark):A1 (xs.map Mark.d)=true:=Ab Mark.pure
theorem C3 (xs:List Mk):A1 (xs.map Mk.d)=true:=Ab Mk.pure
theorem Ij (l:List Mark):(L2.ML.dep (.tup (l.map Mark.d))<=60)=True:=by
 have h:Dj (l.map Mark.d)<=0:=Br fun d hd=>by
  obtain⟨m,_,rfl⟩:=List.mem_map.mp hd
  rw[Mark.dep];exact At3 _
 rw[Cn];simp;lia
theorem Zh (x:Mk):(L2.ML.dep x.d<=60)=True:=by have:=Mk.dep x;simp;lia
theorem P4 (l:List Mark):L2.ML.deq (.tup (l.map Mark.d)) (.tup [])=decide (l=[]):=by cases l<;>simp[D1,Aev]
theorem Zi {x:Mk}{m:MH}{Q:D->Prop}:W (oIx x.d (.int 0) m) Q=Q (.int x.a):=by unfold Mk.d;rw[Eu,Pe]
theorem Zj {x:Mk}{m:MH}{Q:D->Prop}:W (oIx x.d (.int 1) m) Q=Q (.int x.b):=by unfold Mk.d;rw[Eu,Pf]
theorem Zk {x:Mk}{m:MH}{Q:D->Prop}:W (oIx x.d (.int 2) m) Q=Q (.int x.c):=by unfold Mk.d;rw[Eu,V4]
theorem Zl {x:Mk}{m:MH}{Q:D->Prop}:W (oIx x.d (.int 3) m) Q=Q (.tup (x.ms.map Mark.d)):=by unfold Mk.d;rw[Eu,Abq]
noncomputable def Mark.rk:Mark->D
 |.n i=>.tup [.int 0,.int i,.str (Str.ofString "")]
 |.s t=>.tup [.int 1,.int 0,.str t]
def Mk.rk (x:Mk):D:=.tup [.int x.a,.int x.b,.int x.c,.int (if x.ms=[] then 1 else 0),.tup (x.ms.map Mark.rk)]
theorem Mark.rk_deq (x y:Mark):L2.ML.deq x.rk y.rk=decide (x=y):=by
 cases x<;>cases y<;>simp[Mark.rk,Cc,D1,Bv,C1,decide_eq_decide]
theorem Ii:ltD (.int i) (.int j)=some (decide (i < j)):=by rw[ltD]
theorem Ml:ltD (.tup xs) (.tup ys)=Gc xs ys:=by rw[ltD]
theorem Mark.rk_lt (x y:Mark) (h:x≠y):ltD x.rk y.rk=some (x.lt y):=by
 cases x with
 |n i=>cases y with
  |n j =>
   have hij:i≠j:=fun e=>h (by rw[e])
   simp[Mark.rk,Mark.lt,ltD,Gc,Bv,hij]
  |s t=>simp[Mark.rk,Mark.lt,ltD,Gc,Bv]
 |s t=>cases y with
  |n j=>simp[Mark.rk,Mark.lt,ltD,Gc,Bv]
  |s u =>
   have hij:t≠u:=fun e=>h (by rw[e])
   simp[Mark.rk,Mark.lt,ltD,Gc,Bv,C1,hij]
theorem Afp:∀ xs ys:List Mark,Gc (xs.map Mark.rk) (ys.map Mark.rk)=some (mlt xs ys)
 |[],[]=>by simp[Gc,mlt]
 |[],y::ys=>by simp[Gc,mlt]
 |x::xs,[]=>by simp[Gc,mlt]
 |x::xs,y::ys=>by
  rw[At5,At5,Gc,Mark.rk_deq,mlt]
  by_cases e:x=y
  ·rw[At4 (by simpa using e),At4 e];exact Afp xs ys
  ·rw[At8 (by simpa using e),At8 e];exact Mark.rk_lt x y e
theorem Mm:∀ xs:List Mark,mlt xs xs=false
 |[]=>rfl
 |x::xs=>by rw[mlt,At4 rfl];exact Mm xs
theorem Mk.rk_lt (x y:Mk):ltD x.rk y.rk=some (x.older y):=by
 obtain⟨a,b,c,ms⟩:=x
 obtain⟨a',b',c',ms'⟩:=y
 unfold Mk.rk Mk.older
 simp only
 rw[Ml,Gc,Bv]
 by_cases h1:a=a'
 ·subst h1
  rw[At4 (by simp),Gc,Bv,At8 (show ¬ (a≠a) by simp)]
  by_cases h2:b=b'
  ·subst h2
   rw[At4 (by simp),Gc,Bv,At8 (show ¬ (b≠b) by simp)]
   by_cases h3:c=c'
   ·subst h3
    rw[At4 (by simp),Gc,Bv,At8 (show ¬ (c≠c) by simp)]
    by_cases h4:ms=[]
    ·subst h4
     by_cases h5:ms'=[]
     ·subst h5
      simp[Gc,D1]
     ·simp[h5,Ii]
    ·by_cases h5:ms'=[]
     ·subst h5
      simp[h4,Ii]
     ·rw[At8 (show ¬ (ms=[]\/ms'=[]) by rw[not_or];exact⟨h4,h5⟩),At4 (by simp[h4,h5]),Gc,Ly Mark.rk_deq]
      by_cases h6:ms=ms'
      ·subst h6;rw[At4 (by simp),Gc,Mm]
      ·rw[At8 (by simpa using h6),Ml];exact Afp _ _
   ·rw[At8 (by simpa using h3),At4 (show c≠c' from h3),Ii]
  ·rw[At8 (by simpa using h2),At4 (show b≠b' from h2),Ii]
 ·rw[At8 (by simpa using h1),At4 (show a≠a' from h1),Ii]
theorem Mark.rk_pure (x:Mark):A2 x.rk=true:=by cases x<;>simp[Mark.rk,A2,A1]
theorem Mk.rk_pure (x:Mk):A2 x.rk=true:=by
 unfold Mk.rk
 rw[Aw,Am,Am,Am,Am,Am,Bf,Bf,Bf,Bf,Aw,Ab Mark.rk_pure,Bg];rfl
theorem Mark.rk_dep (x:Mark):L2.ML.dep x.rk<=1:=by
 cases x<;>(unfold Mark.rk;rw[Cn];simp[Dj,Bl,C0])
theorem Mk.rk_dep (x:Mk):L2.ML.dep x.rk<=3:=by
 unfold Mk.rk
 rw[Cn]
 have h:Dj (x.ms.map Mark.rk)<=1:=Br fun d hd=>by
  obtain⟨m,_,rfl⟩:=List.mem_map.mp hd
  exact Mark.rk_dep m
 have:Dj [D.int x.a,D.int x.b,D.int x.c,D.int (if x.ms=[] then 1 else 0),D.tup (x.ms.map Mark.rk)]<=2:=Br fun d hd=>by
  simp only[Aup,Auf,or_false] at hd
  rcases hd with rfl|rfl|rfl|rfl|rfl
  ·rw[Bl];lia
  ·rw[Bl];lia
  ·rw[Bl];lia
  ·rw[Bl];lia
  ·rw[Cn];lia
 lia
theorem U5 (l r:List Nat) (h:l≠r):decide (l < r)=!decide (r < l):=by
 by_cases h1:l < r
 ·have h2:¬ r < l:=List.lt_asymm h1
  simp[h1,h2]
 ·have h2:r < l:=by
   rcases Classical.em (r < l) with h3|h3
   ·exact h3
   ·exact absurd (List.le_antisymm (List.not_lt.mp h3) (List.not_lt.mp h1)) h
  simp[h1,h2]
theorem R7 {t u:Str} (h:t.cps.toList=u.cps.toList):t=u:=by
 obtain⟨⟨a⟩⟩:=t
 obtain⟨⟨b⟩⟩:=u
 simp at h
 rw[h]
theorem Mark.self (x:Mark):x.lt x=false:=by
 cases x with
 |n i=>simp[Mark.lt]
 |s t=>simp[Mark.lt,List.lt_irrefl]
theorem Mark.tri {x y:Mark} (h:x≠y):x.lt y=!y.lt x:=by
 cases x with
 |n i=>cases y with
  |n j =>
   have:i≠j:=fun e=>h (by rw[e])
   simp only[Mark.lt]
   by_cases h1:i < j
   ·simp[h1,show ¬ j < i by lia]
   ·simp[h1,show j < i by lia]
  |s t=>rfl
 |s t=>cases y with
  |n j=>rfl
  |s u=>exact U5 _ _ fun e=>h (by rw[R7 e])
theorem Mark.trans {x y z:Mark} (h1:x.lt y=true) (h2:y.lt z=true):x.lt z=true:=by
 cases x with
 |n i=>cases y with
  |n j=>cases z with
   |n k=>simp[Mark.lt] at *;lia
   |s t=>rfl
  |s t=>cases z with
   |n k=>exact Ct h2
   |s u=>rfl
 |s t=>cases y with
  |n j=>exact Ct h1
  |s u=>cases z with
   |n k=>exact Ct h2
   |s v=>simp[Mark.lt] at *;exact List.lt_trans h1 h2
theorem Zm:∀ {xs ys:List Mark},xs≠ys->mlt xs ys=!mlt ys xs
 |[],[],h=>absurd rfl h
 |[],_::_,_=>rfl
 |_::_,[],_=>rfl
 |x::xs,y::ys,h=>by
  rw[mlt,mlt]
  by_cases e:x=y
  ·subst e
   rw[At4 rfl,At4 rfl]
   exact Zm fun z=>h (by rw[z])
  ·rw[At8 e,At8 fun z=>e z.symm]
   exact Mark.tri e
theorem Og:∀ {xs ys zs:List Mark},mlt xs ys=true->mlt ys zs=true->mlt xs zs=true
 |[],[],_,h,_=>by exact Ct h
 |[],_::_,[],_,h=>by exact Ct h
 |[],_::_,_::_,_,_=>rfl
 |_::_,[],_,h,_=>by exact Ct h
 |_::_,_::_,[],_,h=>by exact Ct h
 |x::xs,y::ys,z::zs,h1,h2=>by
  rw[mlt] at h1 h2 ⊢
  by_cases e1:x=y
  ·subst e1
   rw[At4 rfl] at h1
   by_cases e2:x=z
   ·rw[At4 e2] at h2 ⊢
    exact Og h1 h2
   ·rw[At8 e2] at h2 ⊢
    exact h2
  ·rw[At8 e1] at h1
   by_cases e2:y=z
   ·subst e2
    rw[At8 e1]
    exact h1
   ·rw[At8 e2] at h2
    have h3:=Mark.trans h1 h2
    by_cases e3:x=z
    ·subst e3
     rw[Mark.self] at h3
     exact Ct h3
    ·rw[At8 e3];exact h3
theorem Ait:mlt xs []=false:=by cases xs<;>rfl
theorem Gy (x:Mk):x.older x=false:=by
 unfold Mk.older
 rw[At8 (by simp),At8 (by simp),At8 (by simp)]
 split
 ·simp
 ·exact Mm _
theorem E2 {x y:Mk}:x.older y=true ↔ x.a < y.a\/x.a=y.a/\(x.b < y.b\/x.b=y.b/\(x.c < y.c\/x.c=y.c/\(x.ms≠[]/\(y.ms=[]\/mlt x.ms y.ms=true)))):=by
 obtain⟨a,b,c,ms⟩:=x
 obtain⟨a',b',c',ms'⟩:=y
 unfold Mk.older
 simp only
 by_cases h1:a=a'
 ·subst h1
  rw[At8 (by simp)]
  by_cases h2:b=b'
  ·subst h2
   rw[At8 (by simp)]
   by_cases h3:c=c'
   ·subst h3
    rw[At8 (by simp)]
    simp only[Int.lt_irrefl,false_or,true_and]
    by_cases h4:ms=[]\/ms'=[]
    ·rw[At4 h4,Awi]
     constructor
     ·exact fun h=>⟨h.1,.inl h.2⟩
     ·rintro ⟨h5,h6⟩
      exact⟨h5,h4.resolve_left h5⟩
    ·rw[At8 h4]
     rw[not_or] at h4
     exact⟨fun h=>⟨h4.1,.inr h⟩,fun h=>h.2.resolve_left h4.2⟩
   ·rw[At4 (by simpa using h3)]
    simp[h3]
  ·rw[At4 (by simpa using h2)]
   simp[h2]
 ·rw[At4 (by simpa using h1)]
  simp[h1]
theorem By {x y z:Mk} (h1:x.older y=true) (h2:y.older z=true):x.older z=true:=by
 rw[E2] at *
 rcases h1 with h1|⟨ha,h1|⟨hb,h1|⟨hc,hm,h1⟩⟩⟩
 ·rcases h2 with h2|⟨ha',_⟩
  ·exact .inl (by lia)
  ·exact .inl (by lia)
 ·rcases h2 with h2|⟨ha',h2|⟨hb',_⟩⟩
  ·exact .inl (by lia)
  ·exact .inr ⟨by lia,.inl (by lia)⟩
  ·exact .inr ⟨by lia,.inl (by lia)⟩
 ·rcases h2 with h2|⟨ha',h2|⟨hb',h2|⟨hc',_⟩⟩⟩
  ·exact .inl (by lia)
  ·exact .inr ⟨by lia,.inl (by lia)⟩
  ·exact .inr ⟨by lia,.inr ⟨by lia,.inl (by lia)⟩⟩
  ·exact .inr ⟨by lia,.inr ⟨by lia,.inl (by lia)⟩⟩
 ·rcases h2 with h2|⟨ha',h2|⟨hb',h2|⟨hc',hm',h2⟩⟩⟩
  ·exact .inl (by lia)
  ·exact .inr ⟨by lia,.inl (by lia)⟩
  ·exact .inr ⟨by lia,.inr ⟨by lia,.inl (by lia)⟩⟩
  ·refine .inr ⟨by lia,.inr ⟨by lia,.inr ⟨by lia,hm,?_⟩⟩⟩
   rcases h1 with h1|h1
   ·exact absurd h1 hm'
   ·rcases h2 with h2|h2
    ·exact .inl h2
    ·exact .inr (Og h1 h2)
theorem Il {x y:Mk} (h:x.older y=true):y.older x=false:=by
 cases e:y.older x with
 |false=>rfl
 |true =>
  have h2:=By h e
  rw[Gy] at h2
  exact Ct h2
theorem Io {x y:Mk} (h:x≠y):x.older y=!y.older x:=by
 cases e:y.older x with
 |true=>exact Il e
 |false =>
  show x.older y=true
  have e':¬ y.older x=true:=by rw[e];decide
  rw[E2] at e' ⊢
  by_cases ha:x.a=y.a
  ·by_cases hb:x.b=y.b
   ·by_cases hc:x.c=y.c
    ·have hm:x.ms≠y.ms:=fun z=>h (by cases x;cases y;simp at *;exact⟨ha,hb,hc,z⟩)
     refine .inr ⟨ha,.inr ⟨hb,.inr ⟨hc,?_⟩⟩⟩
     have e2:¬ (y.ms≠[]/\(x.ms=[]\/mlt y.ms x.ms=true)):=fun z=>e' (.inr ⟨ha.symm,.inr ⟨hb.symm,.inr ⟨hc.symm,z⟩⟩⟩)
     by_cases h4:y.ms=[]
     ·exact⟨fun z=>hm (by rw[z,h4]),.inl h4⟩
     ·have e3:¬ (x.ms=[]\/mlt y.ms x.ms=true):=fun z=>e2 ⟨h4,z⟩
      rw[not_or] at e3
      refine⟨e3.1,.inr ?_⟩
      rw[Zm hm]
      cases q:mlt y.ms x.ms with
      |true=>exact absurd q e3.2
      |false=>rfl
    ·rcases Int.lt_or_gt_of_ne hc with h5|h5
     ·exact .inr ⟨ha,.inr ⟨hb,.inl h5⟩⟩
     ·exact absurd (.inr ⟨ha.symm,.inr ⟨hb.symm,.inl h5⟩⟩) e'
   ·rcases Int.lt_or_gt_of_ne hb with h5|h5
    ·exact .inr ⟨ha,.inl h5⟩
    ·exact absurd (.inr ⟨ha.symm,.inl h5⟩) e'
  ·rcases Int.lt_or_gt_of_ne ha with h5|h5
   ·exact .inl h5
   ·exact absurd (.inl h5) e'
noncomputable def Mk.next (x:Mk):Mk:=if x.ms=[] then ⟨x.a,x.b,x.c+1,[.n 0]⟩ else ⟨x.a,x.b,x.c,x.ms++[.n 0]⟩
noncomputable def Mark.pos:Mark->Prop
 |.n i=>0<=i
 |.s _=>True
theorem Aip {m:Mark} (h:m.pos):m.lt (.n 0)=false:=by
 cases m with
 |n i=>simp only[Mark.pos] at h;simp[Mark.lt];exact h
 |s t=>rfl
theorem T5:∀ xs:List Mark,mlt xs (xs++[.n 0])=true
 |[]=>rfl
 |x::xs=>by rw[Avi,mlt,At4 rfl];exact T5 xs
theorem Ac0 (hp:∀ m∈xs,m.pos) (h:mlt xs [.n 0]=true):xs=[]:=by
 cases xs with
 |nil=>rfl
 |cons x xs =>
  rw[mlt] at h
  by_cases e:x=.n 0
  ·rw[At4 e,Ait] at h;exact Ct h
  ·rw[At8 e,Aip (hp x (At0 ..))] at h;exact Ct h
theorem J4 (x:Mk):x.older x.next=true:=by
 rw[E2]
 unfold Mk.next
 by_cases h:x.ms=[]
 ·rw[At4 h];exact .inr ⟨rfl,.inr ⟨rfl,.inl (by show x.c < x.c+1;lia)⟩⟩
 ·rw[At8 h];exact .inr ⟨rfl,.inr ⟨rfl,.inr ⟨rfl,h,.inr (T5 _)⟩⟩⟩
def Ass (Q:List D->Prop) (d:D):Prop:=∃ es,d=.lst es/\A1 es=true/\Q es
theorem Ze (h:A1 es=true):Ass Q (.lst es)=Q es:=by
 apply propext
 constructor
 ·rintro ⟨fs,e,_,q⟩;cases e;exact q
 ·exact fun q=>⟨es,rfl,h,q⟩
theorem Pg:W (Ec n fn ds m) Q=W (Cu m ds) fun ds'=>ds'.length=n/\W (fn ds') (Ass Q):=by
 unfold Ec
 rw[W_bind,Ll]
 congr 1;funext ds'
 apply propext
 refine⟨fun⟨h1,h2⟩=>⟨h1,h2.imp fun d h=>?_⟩,fun⟨h1,h2⟩=>⟨h1,h2.imp fun d h=>?_⟩⟩
 ·cases d with
  |lst es =>
   simp only at h
   rw[Jk] at h
   exact⟨es,rfl,h.1,h.2⟩
  |_=>rw[Bj] at h;exact h.elim
 ·obtain⟨es,rfl,h1,h2⟩:=h
  simp only
  rw[Jk]
  exact⟨h1,h2⟩
def Zd (I:Nat->A0->MH->Prop) (k:Nat) (Q:Out->Prop):Out->Prop
 |.nx e m=>∃ j,j < k/\I j e m
 |.ct e m=>∃ j,j < k/\I j e m
 |.bk e m=>Q (.nx e m)
 |.rt d m=>Q (.rt d m)
theorem Mi:Zd I k Q (.nx e m)=∃ j,j < k/\I j e m:=rfl
theorem Mh:Zd I k Q (.ct e m)=∃ j,j < k/\I j e m:=rfl
theorem Mg:Zd I k Q (.bk e m)=Q (.nx e m):=rfl
theorem Mj {d:D}:Zd I k Q (.rt d m)=Q (.rt d m):=rfl
theorem Px (I:Nat->A0->MH->Prop) (hs:∀ k e m,I k e m->W (c e m) (cK (W (b e m) (Zd I k Q)) (Q (.nx e m)))):∀ {n k:Nat}{e:A0}{m:MH},k < n->I k e m->W (Ek c b n e m) Q
 |0,_,_,_,h,_=>absurd h (Nat.not_lt_zero _)
 |n+1,k,e,m,h,hi=>by
  rw[Ek,W_bind]
  refine (hs k e m hi).imp fun t ht=>?_
  cases t with
  |false=>rw[Ab0] at ht;rw[At8 (by decide),Ac];exact ht
  |true =>
   rw[Abm] at ht
   rw[At4 rfl,W_bind]
   refine ht.imp fun o ho=>?_
   cases o with
   |nx e m=>obtain⟨j,hj,hi⟩:=ho;exact Px I hs (by lia) hi
   |ct e m=>obtain⟨j,hj,hi⟩:=ho;exact Px I hs (by lia) hi
   |bk e m=>simp only;rw[Ac];exact ho
   |rt d m=>simp only;rw[Ac];exact ho
theorem Ez (xs:List Mk):Au (xs.map Mk.d)=true:=A7 (C3 xs)
theorem Lw {α β:Type}{f:α->β}{xs:List α}{lo hi:Option Int}:Dz (xs.map f) lo hi=(Dz xs lo hi).map f:=by
 unfold Dz;rw[Aud,List.map_take,List.map_drop]
theorem Ahi {α:Type}{xs:List α}{lo hi:Option Int}{x:α} (h:x∈Dz xs lo hi):x∈xs:=by
 unfold Dz at h;exact List.mem_of_mem_drop (List.mem_of_mem_take h)
theorem Yh {α:Type}{xs:List α}{lo hi:Option Int}:(Dz xs lo hi).length<=xs.length:=by
 unfold Dz;rw[Ava,Awc];lia
theorem Ol {z:Mk} (ha:0<=z.a) (hb:0<=z.b) (hc:0<=z.c) (hm:∀ m∈z.ms,m.pos):z.older ⟨0,0,0,[.n 0]⟩=false:=by
 cases h:z.older ⟨0,0,0,[.n 0]⟩ with
 |false=>rfl
 |true =>
  rw[E2] at h
  simp only at h
  rcases h with h|⟨_,h|⟨_,h|⟨_,h,h2|h2⟩⟩⟩
  ·lia
  ·lia
  ·lia
  ·cases h2
  ·exact absurd (Ac0 hm h2) h
def oD:Option Mk->D
 |none=>.non
 |some h=>h.d
abbrev Pc:=Mk×Option Mk
def pD (p:Pc):D:=.tup [p.1.d,oD p.2]
theorem Mq (o:Option Mk):A2 (oD o)=true:=by
 cases o with
 |none=>exact Ey
 |some x=>exact x.pure
theorem Iq (p:Pc):A2 (pD p)=true:=by unfold pD;rw[Aw,Am,Am,Bg,p.1.pure,Mq];rfl
theorem E4 (ps:List Pc):A1 (ps.map pD)=true:=Ab Iq
theorem Amb (o:Option Mk):dep (oD o)<=2:=by
 cases o with
 |none=>show dep .non<=2;rw[Lx];lia
 |some x=>exact x.dep
theorem Am1 (p:Pc):dep (pD p)<=3:=by
 unfold pD
 rw[Cn]
 have:Dj [p.1.d,oD p.2]<=2:=Br fun d hd=>by
  simp only[Aup,Auf,or_false] at hd
  rcases hd with rfl|rfl
  ·exact p.1.dep
  ·exact Amb p.2
 lia
theorem Ai4 (ps:List Pc):dep (.tup (ps.map pD))<=4:=by
 rw[Cn]
 have:Dj (ps.map pD)<=3:=Br fun d hd=>by
  obtain⟨p,_,rfl⟩:=List.mem_map.mp hd
  exact Am1 p
 lia
theorem Aab:W (oIx (pD p) (.int 0) m) Q=Q p.1.d:=by unfold pD;rw[Eu,Pe]
theorem Aac:W (oIx (pD p) (.int 1) m) Q=Q (oD p.2):=by unfold pD;rw[Eu,Pf]
theorem Aad:W (He 2 g (pD p) env) Q=W (g [p.1.d,oD p.2] env) Q:=by
 unfold pD;rw[Tb];simp
theorem Zz:W (Afd (oD o) m) Q=Q (.bl o.isNone):=by cases o<;>exact Ac
def inP (m:Mk) (p:Pc):Bool:=!m.older p.1&&match p.2 with|none=>true|some h=>m.older h
open Classical
noncomputable section
theorem Xi:W (Aiv [.bl b] m) Q=Q (.int (if b then 1 else 0)):=Ac
end
end ML
end L2
end S_EX7
section S_MM7
namespace L2
namespace ML
open PySem
theorem mp1 {a:D}{l:A0}:List.map some [a]++l=some a::l:=rfl
theorem mp2 {a b:D}{l:A0}:List.map some [a,b]++l=some a::some b::l:=rfl
theorem mp3 {a b c:D}{l:A0}:List.map some [a,b,c]++l=some a::some b::some c::l:=rfl
theorem ln1 {a:D}:[a].length=1:=rfl
theorem ln2 {a b:D}:[a,b].length=2:=rfl
theorem ln3 {a b c:D}:[a,b,c].length=3:=rfl
theorem Ahf {p q:Prop}{b:Bool} (h:b=true):cK p q b=p:=by rw[h,Abm]
theorem Ahe {p q:Prop}{b:Bool} (h:b=false):cK p q b=q:=by rw[h,Ab0]
end ML
end L2
end S_MM7
section S_MM8
namespace L2
namespace ML
open PySem
variable {m:MH}
theorem Ala {n:Nat}{fn:List D->Option D}{ds:List D}{Q:D->Prop}:W (Ju n fn ds m) Q=W (Cj m ds) fun ds'=>ds'.length=n/\W (fn ds') Q:=by
 unfold Ju
 rw[W_bind];congr 1;funext z
 by_cases h:z.length=n
 ·rw[At4 h];simp[h]
 ·rw[At8 h,Bj];simp[h]
theorem Aer {Q:List D->Prop}:W (Cj m []) Q=Q []:=Ac
theorem Aeq {d:D}{ds:List D}{Q:List D->Prop}:W (Cj m (d::ds)) Q=W (Jr m d) fun d'=>W (Cj m ds) fun ds'=>Q (d'::ds'):=by
 rw[Cj,W_bind];congr 1;funext x;rw[W_bind];congr 1;funext y;exact Ac
theorem Alh {ds:List D}{Q:D->Prop}:W (Jr m (.tup ds)) Q=W (Ci m (.tup ds)) Q:=rfl
theorem Alf {x:Str}{Q:D->Prop}:W (Jr m (.str x)) Q=Q (.str x):=by show W (Ci m (.str x)) Q=_;exact Lp
theorem Ale {ks:List Str}{vs:List D}{Q:D->Prop}:W (Jr m (.dks ks vs)) Q=(Au vs=true/\Q (.dks ks vs)):=Jk
theorem As8 {n:Nat}{Q:D->Prop}:W (Jr m (.ref n)) Q=W (Ci m (.ref n)) Q:=rfl
theorem Alc {x:Str}{ks:List Str}{vs:List D}{Q:D->Prop}:W (Arb (.str x) (.dks ks vs) m) Q=Q (.bl (decide (x∈ks))):=Ac
theorem Aen {x:Str}{ks:List Str}{vs:List D}{Q:D->Prop}:W (Ms (.str x) (.dks ks vs) m) Q=Q (.bl (!decide (x∈ks))):=Ac
theorem Ael {x:Str}{ks:List Str}{vs:List D}{Q:D->Prop}:W (U9 (.dks ks vs) (.str x) m) Q=W (Aci ks vs x) Q:=rfl
theorem Agn {ds:List D}{Q:D->Prop}:W (Ik [.tup ds] m) Q=W (G9 ds) fun ps=>Q (.dks (Nv ps).1 (Nv ps).2):=by
 show W ((G9 ds).bind _) Q=_
 rw[W_bind];congr 1;funext ps;exact Ac
theorem Aem {i j:Int}{Q:D->Prop}:W (Ac3 [.int i,.int j] m) Q=Q (.int (if j > i then j else i)):=Ac
theorem Ag3 {α:Type} (f:α->Str) {xs:List α}{Q:List D->Prop} (hl:xs.length < 64) (q:Q ((TX.sortT (xs.map f)).map .str)):W (J3 [.lst (xs.map fun x=>.str (f x))] m) Q:=by
 have e:Le (xs.map fun x=>D.str (f x))=some (xs.map f):=by
  clear hl q
  induction xs with
  |nil=>rfl
  |cons x xs ih=>rw[At5,Le,ih];rfl
 have e2:J3 [.lst (xs.map fun x=>D.str (f x))] m=some ((TX.sortT (xs.map f)).map .str):=by
  unfold J3
  simp only
  rw[show sqL m (D.lst (xs.map fun x=>D.str (f x)))=some (xs.map fun x=>D.str (f x)) from rfl,Auk,e,Auk,At4 (by simpa using hl)]
 rw[e2,Ac]
 exact q
theorem Ab7 {α:Type} (k:α->Str) (v:α->D) {xs:List α} (h:(xs.map k).Nodup):Nv (xs.map fun x=>(k x,v x))=(xs.map k,xs.map v):=by
 have go:∀ (ys xs:List α),((xs++ys).map k).Nodup->(ys.map fun x=>(k x,v x)).foldl (fun a p=>Aat a.1 a.2 p.1 p.2) (xs.map k,xs.map v)=((xs++ys).map k,(xs++ys).map v):=by
  intro ys
  induction ys with
  |nil=>intro xs _;simp
  |cons y ys ih =>
   intro xs h
   have hy:k y∉xs.map k:=fun hm=>by
    rw[Avg,List.nodup_append] at h
    exact h.2.2 _ hm _ (by simp) rfl
   have e:Aat (xs.map k) (xs.map v) (k y) (v y)=((xs++[y]).map k,(xs++[y]).map v):=by
    unfold Aat;rw[At8 hy];simp
   rw[At5,List.foldl_cons]
   show (ys.map fun x=>(k x,v x)).foldl _ (Aat (xs.map k) (xs.map v) (k y) (v y))=_
   rw[e,ih (xs++[y]) (by simpa using h)]
   simp
 have:=go xs [] (by simpa using h)
 simpa [Nv] using this
theorem Vc {α:Type} (k:α->Str) (v:α->D) (xs:List α):G9 (xs.map fun x=>.tup [.str (k x),v x])=some (xs.map fun x=>(k x,v x)):=by
 induction xs with
 |nil=>rfl
 |cons x xs ih=>rw[At5,G9,ih];rfl
theorem Tw {α:Type} (k:α->Str) (v:α->D) (xs:List α) (t:Str):Aci (xs.map k) (xs.map v) t=(xs.find? fun x=>k x=t).map v:=by
 induction xs with
 |nil=>rfl
 |cons x xs ih =>
  rw[At5,At5,Aci,Avl]
  by_cases h:k x=t
  ·simp[h]
  ·simp[h,ih]
theorem Acy {α:Type} (k:α->Str) (xs:List α) (t:Str):decide (t∈xs.map k)=(xs.find? fun x=>k x=t).isSome:=by
 rw[Avr,Awi,List.find?_isSome,List.mem_map]
 simp
end ML
end L2
end S_MM8
section S_MS1
namespace L2
namespace ML
open PyProof.Rows PySem.W
def Sat {α:Type} (c:Nat->Nat->Option Bool) (t:KasT α) (Q:α->Prop):Prop:=∃ a,evO c t=some a/\Q a
theorem Sat.ret (h:Q a):Sat c (.ret a) Q:=⟨a,rfl,h⟩
theorem Sat.ask (h1:c i j=some b) (h2:Sat c (k b) Q):Sat c (.ask i j k) Q:=by
 obtain⟨a,e,q⟩:=h2
 exact⟨a,by rw[evO,h1];exact e,q⟩
theorem Tr:∀ t:KasT α,evO c (t.bind f)=(evO c t).bind fun a=>evO c (f a)
 |.ret a=>rfl
 |.ask i j k=>by
  show (c i j).bind (fun b=>evO c ((k b).bind f))=((c i j).bind fun b=>evO c (k b)).bind _
  cases c i j with
  |none=>rfl
  |some b=>exact Tr (k b)
theorem Sat.bind {t:KasT α} (h:Sat c t fun a=>Sat c (f a) Q):Sat c (t.bind f) Q:=by
 obtain⟨a,e,b,e2,q⟩:=h
 exact⟨b,by rw[Tr,e];exact e2,q⟩
def PermN (n:Nat) (p:Array Nat):Prop:=p.Perm (List.range n).toArray
theorem PermN.size (h:PermN n p):p.size=n:=by have:=Array.Perm.size_eq h;simpa using this
theorem PermN.lt (h:PermN n p) (hn:0 < n) (i:Nat):p.getD i 0 < n:=by
 by_cases hi:i < p.size
 ·have h1:p[i]∈p.toList:=by simp
  have h2:=(Array.perm_iff_toList_perm.mp h).mem_iff.mp h1
  have h3:p[i] < n:=by simpa using h2
  simpa [Array.getD,hi] using h3
 ·simpa [Array.getD,hi] using hn
section
variable {O:KeyOrd} (key:Nat->O.α)
noncomputable def KA (p:Array Nat) (i:Nat):O.α:=key (p.getD i 0)
def Srt (p:Array Nat) (k:Nat):Prop:=∀ i j,i<=j->j < k->O.kle (KA key p i) (KA key p j)
def Nin (p:Array Nat) (k:Nat):Prop:=∀ i j,i<=j->j < k->O.kle (KA key p j) (KA key p i)
end
section
variable {O:KeyOrd}{key:Nat->O.α}{n:Nat}{c:Nat->Nat->Option Bool}{p:Array Nat}
theorem Et (h:p[i]?=r[j]?):KA key p i=KA key r j:=by
 unfold KA
 rw[Array.getD_eq_getD_getElem?,Array.getD_eq_getD_getElem?,h]
theorem Vy (hj:j<=p.size) (k:Nat):KA key (kas_rev p i j) k=if i<=k/\k < j then KA key p (i+j - 1 - k) else KA key p k:=by
 have e:=getElem?_mirror_all (i:=i) hj k
 unfold kas_rev
 by_cases q:i<=k/\k < j
 ·rw[At4 q] at e;rw[At4 q];exact Et e
 ·rw[At8 q] at e;rw[At8 q];exact Et e
theorem Li (hj:j<=p.size) (he:∀ k,i<=k->k < j->KA key p k=KA key p (j - 1)) (k:Nat):KA key (kas_rev p i j) k=KA key p k:=by
 rw[Vy hj]
 by_cases q:i<=k/\k < j
 ·rw[At4 q,he _ (by lia) (by lia),he k q.1 q.2]
 ·rw[At8 q]
theorem Aej {src d:Nat} (hs:src < p.size) (hd:d<=src) (k:Nat):KA key (bubble p src d) k=if k=src - d then KA key p src else if src - d < k/\k<=src then KA key p (k - 1) else KA key p k:=by
 have e:=getElem?_bubble hs d hd k
 by_cases q:k=src - d
 ·rw[At4 q] at e;rw[At4 q];exact Et e
 ·rw[At8 q] at e;rw[At8 q]
  by_cases q2:src - d < k/\k<=src
  ·rw[At4 q2] at e;rw[At4 q2];exact Et e
  ·rw[At8 q2] at e;rw[At8 q2];exact Et e
theorem PermN.rev (h:PermN n p) (i j:Nat):PermN n (kas_rev p i j):=(mirror_perm _ _ _ _).trans h
theorem PermN.bub (h:PermN n p) (i j:Nat):PermN n (bubble p i j):=(bubble_perm _ _ _).trans h
theorem Nl (hc:∀ i j,i < n->j < n->c i j=some (O.blt (key i) (key j))) (hn:0 < n) (hp:PermN n p) (i j:Nat) (h:Sat c (k (O.blt (KA key p i) (KA key p j))) Q):Sat c (.ask (p.getD i 0) (p.getD j 0) k) Q :=
 Sat.ask (hc _ _ (hp.lt hn i) (hp.lt hn j)) h
theorem Akk:Srt key p 1:=fun i j hij hj=>by
 have:i=j:=by lia
 subst this;exact Awf _
theorem Ad7 (hs:Srt key p a) (h1:1<=a) (h:O.kle (KA key p (a - 1)) (KA key p a)):Srt key p (a+1):=fun i j hij hj=>by
 by_cases q:j < a
 ·exact hs i j hij q
 ·have:j=a:=by lia
  subst this
  by_cases q2:i=j
  ·subst q2;exact Awf _
  ·exact KeyOrd.kle_trans (hs i (j - 1) (by lia) (by lia)) h
theorem Hm (hs:Nin key p a) (h1:1<=a) (h:O.kle (KA key p a) (KA key p (a - 1))):Nin key p (a+1):=fun i j hij hj=>by
 by_cases q:j < a
 ·exact hs i j hij q
 ·have:j=a:=by lia
  subst this
  by_cases q2:i=j
  ·subst q2;exact Awf _
  ·exact KeyOrd.kle_trans h (hs i (j - 1) (by lia) (by lia))
theorem Zx (h:Nin key p a) (e:∀ k,KA key r k=KA key p k):Nin key r a:=fun i j hij hj=>by rw[e,e];exact h i j hij hj
theorem Pz (hc:∀ i j,i < n->j < n->c i j=some (O.blt (key i) (key j))) (hn:0 < n) (hp:PermN n p):∀ (f a:Nat),1<=a->Srt key p a ->
  (∀ m,a<=m->m<=a+f->Srt key p m->(m=a+f\/O.klt (KA key p m) (KA key p (m - 1)))->Q m)->Sat c (kas_asc p f a) Q
 |0,a,h1,hs,h=>Sat.ret (h a (At3 _) (At3 _) hs (.inl rfl))
 |f+1,a,h1,hs,h=>by
  rw[kas_asc]
  refine Nl hc hn hp a (a - 1) ?_
  cases e:O.blt (KA key p a) (KA key p (a - 1)) with
  |true=>exact Sat.ret (h a (At3 _) (by lia) hs (.inr e))
  |false =>
   rw[At8 (by decide)]
   refine Pz hc hn hp f (a+1) (by lia) (Ad7 hs h1 e) fun m m1 m2 m3 m4=>h m (by lia) (by lia) m3 ?_
   rcases m4 with m4|m4
   ·exact .inl (by lia)
   ·exact .inr m4
theorem Hg (hc:∀ i j,i < n->j < n->c i j=some (O.blt (key i) (key j))) (hn:0 < n) (hz:z<=n) (h:∀ p m q,PermN n p->1<=m->m<=z->Nin key p m->q+1<=m->(∀ i,m - (q+1)<=i->i < m->KA key p i=KA key p (m - 1))->Q (p,m,q)):∀ (f:Nat) {p:Array Nat}{x q:Nat},PermN n p->x+f=z->Nin key p x->q+1<=x ->
  (∀ i,x - (q+1)<=i->i < x->KA key p i=KA key p (x - 1))->Sat c (kas_desc f p x q) Q
 |0,p,x,q,hp,hx,hs,hq,he=>Sat.ret (h p x q hp (by lia) (by lia) hs hq he)
 |f+1,p,x,q,hp,hx,hs,hq,he=>by
  rw[kas_desc]
  refine Nl hc hn hp x (x - 1) ?_
  have hsz:x<=p.size:=by rw[hp.size];lia
  cases e:O.blt (KA key p x) (KA key p (x - 1)) with
  |true =>
   rw[At4 rfl]
   have s1:=Hm hs (by lia) (KeyOrd.kle_of_klt e)
   by_cases q0:q > 0
   ·rw[At4 q0]
    refine Hg hc hn hz h f (hp.rev _ _) (by lia) (Zx s1 (Li hsz he)) (by lia) fun i h1 h2=>?_
    have:i=x+1 - 1:=by lia
    rw[this]
   ·rw[At8 q0]
    refine Hg hc hn hz h f hp (by lia) s1 (by lia) fun i h1 h2=>?_
    have:i=x+1 - 1:=by lia
    rw[this]
  |false =>
   rw[At8 (by decide)]
   refine Nl hc hn hp (x - 1) x ?_
   cases e2:O.blt (KA key p (x - 1)) (KA key p x) with
   |true=>exact Sat.ret (h p x q hp (by lia) (by lia) hs hq he)
   |false =>
    rw[At8 (by decide)]
    have eq:KA key p x=KA key p (x - 1):=KeyOrd.kle_antisymm e2 e
    refine Hg hc hn hz h f hp (by lia) (Hm hs (by lia) e2) (by lia) fun i h1 h2=>?_
    rw[show x+1 - 1=x by lia]
    by_cases hix:i=x
    ·rw[hix]
    ·rw[eq];exact he i (by lia) (by lia)
theorem Uj (hc:∀ i j,i < n->j < n->c i j=some (O.blt (key i) (key j))) (hn:0 < n) (hz:z<=n) (h1:1<=a) (ha:a<=z) (hp:PermN n p) (hs:Nin key p a) (h:∀ m r,PermN n r->1<=m->m<=z->Srt key r m->Q (m,r)):Sat c (kas_tail3 a z p) Q:=by
 unfold kas_tail3
 have hsz:a<=p.size:=by rw[hp.size];lia
 refine Sat.bind (Pz hc hn (hp.rev 0 a) (z - a) a h1 (fun i j hij hj=>?_) fun m m1 m2 m3 _=>Sat.ret (h m _ (hp.rev 0 a) (by lia) (by lia) m3))
 rw[Vy hsz,Vy hsz,At4 (by lia),At4 (by lia)]
 exact hs _ _ (by lia) (by lia)
theorem T8 (hc:∀ i j,i < n->j < n->c i j=some (O.blt (key i) (key j))) (hn:0 < n) (hz:z<=n) (ha:a+1<=z) (hp:PermN n p) (hs:Nin key p (a+1)) (h:∀ m r,PermN n r->1<=m->m<=z->Srt key r m->Q (m,r)):Sat c (kas_descPart a z p) Q:=by
 unfold kas_descPart
 refine Sat.bind (Hg (p:=p) (x:=a+1) (q:=0) hc hn hz (fun r m q hr m1 m2 m3 m4 m5=>?_) (z - (a+1)) hp (by lia) hs (by lia) fun i h1 h2=>?_)
 ·have hsz:m<=r.size:=by rw[hr.size];lia
  show Sat c (if q > 0 then _ else _) Q
  by_cases q0:q > 0
  ·rw[At4 q0]
   exact Uj hc hn hz m1 m2 (hr.rev _ _) (Zx m3 (Li hsz m5)) h
  ·rw[At8 q0]
   exact Uj hc hn hz m1 m2 hr m3 h
 ·have:i=a+1 - 1:=by lia
  rw[this]
theorem Yg (hc:∀ i j,i < n->j < n->c i j=some (O.blt (key i) (key j))) (hz:z<=n) (h1:1<=z) (hp:PermN n p) (h:∀ m r,PermN n r->1<=m->m<=z->Srt key r m->Q (m,r)):Sat c (kas_count z p) Q:=by
 have hn:0 < n:=by lia
 unfold kas_count
 refine Sat.bind (Pz hc hn hp (z - 1) 1 (At3 _) Akk fun m m1 m2 m3 m4=>?_)
 have hsz:m<=p.size:=by rw[hp.size];lia
 by_cases q:(m == z)=true
 ·rw[At4 q];exact Sat.ret (h m p hp m1 (by lia) m3)
 ·rw[At8 q]
  have hmz:m≠z:=fun e=>q (by simp[e])
  have hlt:O.klt (KA key p m) (KA key p (m - 1)):=m4.resolve_left (by lia)
  by_cases q1:m > 1
  ·rw[At4 q1]
   refine Nl hc hn hp 0 (m - 1) ?_
   cases e:O.blt (KA key p 0) (KA key p (m - 1)) with
   |true=>rw[At4 rfl];exact Sat.ret (h m p hp m1 (by lia) m3)
   |false =>
    rw[At8 (by decide)]
    have all:∀ k,0<=k->k < m->KA key p k=KA key p (m - 1):=fun k _ hk=>KeyOrd.kle_antisymm (m3 k (m - 1) (by lia) (by lia)) (KeyOrd.kle_trans e (m3 0 k (by lia) hk))
    have flat:Nin key p m:=fun i j hij hj=>by rw[all i (by lia) (by lia),all j (by lia) hj];exact Awf _
    exact T8 hc hn hz (by lia) (hp.rev 0 m) (Zx (Hm flat m1 (KeyOrd.kle_of_klt hlt)) (Li hsz all)) h
  ·rw[At8 q1]
   have e1:m=1:=by lia
   subst e1
   refine T8 hc hn hz (by lia) hp (Hm (fun i j hij hj=>?_) (At3 _) (KeyOrd.kle_of_klt hlt)) h
   have:i=j:=by lia
   subst this;exact Awf _
theorem Iw (hc:∀ i j,i < n->j < n->c i j=some (O.blt (key i) (key j))) (hn:0 < n) (hp:PermN n p) (hs:Srt key p k) (h:∀ l,l<=k->(∀ i,i < l->O.kle (KA key p i) (KA key p k))->(∀ i,l<=i->i < k->O.klt (KA key p k) (KA key p i))->Q l) :
  ∀ (f l r:Nat),l<=r->r<=k->r - l<=f->(∀ i,i < l->O.kle (KA key p i) (KA key p k))->(∀ i,r<=i->i < k->O.klt (KA key p k) (KA key p i))->Sat c (kas_place p k f l r) Q
 |0,l,r,h1,h2,h3,lo,hi=>by
  have e:l=r:=by lia
  subst e
  exact Sat.ret (h l h2 lo hi)
 |f+1,l,r,h1,h2,h3,lo,hi=>by
  rw[kas_place]
  by_cases q:l ≥ r
  ·rw[At4 q]
   have e:l=r:=by lia
   subst e
   exact Sat.ret (h l h2 lo hi)
  ·rw[At8 q]
   refine Nl hc hn hp k ((l+r) / 2) ?_
   cases e:O.blt (KA key p k) (KA key p ((l+r) / 2)) with
   |true =>
    rw[At4 rfl]
    exact Iw hc hn hp hs h f l ((l+r) / 2) (by lia) (by lia) (by lia) lo fun i a1 a2=>KeyOrd.klt_of_klt_of_kle e (hs _ _ a1 a2)
   |false =>
    rw[At8 (by decide)]
    exact Iw hc hn hp hs h f ((l+r) / 2+1) r (by lia) h2 (by lia) (fun i a1=>KeyOrd.kle_trans (hs i ((l+r) / 2) (by lia) (by lia)) e) hi
theorem X9 (hc:∀ i j,i < n->j < n->c i j=some (O.blt (key i) (key j))) (hn:0 < n) (h:∀ p,PermN n p->Srt key p n->Q p):∀ (f:Nat) {p:Array Nat}{k:Nat},PermN n p->k+f=n->Srt key p k->Sat c (kas_bin f p k) Q
 |0,p,k,hp,hk,hs=>by
  have e:k=n:=by lia
  subst e
  exact Sat.ret (h p hp hs)
 |f+1,p,k,hp,hk,hs=>by
  rw[kas_bin]
  refine Sat.bind (Iw hc hn hp hs (fun l hl lo hi=>?_) k 0 k (Auw _) (At3 _) (by lia) (fun i hi=>absurd hi (Nat.not_lt_zero _)) fun i a1 a2=>absurd a2 (by lia))
  refine X9 hc hn h f (hp.bub _ _) (by lia) fun i j hij hj=>?_
  have hks:k < p.size:=by rw[hp.size];lia
  rw[Aej hks (by lia),Aej hks (by lia),show k - (k - l)=l by lia]
  by_cases i1:i=l<;>by_cases j1:j=l
  ·rw[At4 i1,At4 j1];exact Awf _
  ·rw[At4 i1,At8 j1,At4 (by lia)];exact KeyOrd.kle_of_klt (hi _ (by lia) (by lia))
  ·rw[At8 i1,At4 j1,At8 (by lia)];exact lo _ (by lia)
  ·rw[At8 i1,At8 j1]
   by_cases i2:l < i/\i<=k<;>by_cases j2:l < j/\j<=k
   ·rw[At4 i2,At4 j2];exact hs _ _ (by lia) (by lia)
   ·exact absurd j2 (by lia)
   ·rw[At8 i2,At4 j2];exact hs _ _ (by lia) (by lia)
   ·rw[At8 i2,At8 j2];exact hs _ _ (by lia) (by lia)
theorem Ad6 (hc:∀ i j,i < n->j < n->c i j=some (O.blt (key i) (key j))) (hn:0 < n):Sat c (kas_sort n) fun p=>PermN n p/\Srt key p n:=by
 unfold kas_sort
 refine Sat.bind (Yg hc (At3 _) hn (Array.Perm.refl _) fun m r hr m1 m2 m3=>?_)
 show Sat c (if m < n then kas_bin (n - max m 1) r (max m 1) else .ret r) _
 by_cases q:m < n
 ·rw[At4 q]
  exact X9 hc hn (fun p h1 h2=>⟨h1,h2⟩) _ hr (by lia) (by rw[show max m 1=m by lia];exact m3)
 ·rw[At8 q]
  have e:m=n:=by lia
  subst e
  exact Sat.ret ⟨hr,m3⟩
end
theorem O3 {α:Type} [Inhabited α] {blt:α->α->Bool} (irr:∀ a,blt a a=false) (tr:∀ a b c,blt a b=true->blt b c=true->blt a c=true) (ng:∀ a b c,blt a c=true->blt a b=true\/blt b c=true) (tt:∀ a b,blt a b=false->blt b a=false->a=b)
  {c:Nat->Nat->Option Bool}{zs:List α} (hc:∀ i j (hi:i < zs.length) (hj:j < zs.length),c i j=some (blt zs[i] zs[j])) (hn:0 < zs.length) :
  ∃ p:Array Nat,evO c (kas_sort zs.length)=some p/\(p.toList.map fun i=>zs.getD i default).Perm zs/\(p.toList.map fun i=>zs.getD i default).Pairwise (fun x y=>blt y x=false)/\∀ i∈p.toList,i < zs.length:=by
 obtain⟨p,e,hp,hs⟩:=Ad6 (O:=⟨α,blt,irr,tr,ng,tt⟩) (key:=fun i=>zs.getD i default) (n:=zs.length) (c:=c) (fun i j hi hj=>by
  rw[hc i j hi hj]
  show some (blt zs[i] zs[j])=some (blt (zs.getD i default) (zs.getD j default))
  rw[At7,At7,Atx hi,Atx hj];rfl) hn
 have hl:p.toList.Perm (List.range zs.length):=Array.perm_iff_toList_perm.mp hp
 refine⟨p,e,?_,?_,fun i hi=>by simpa using hl.mem_iff.mp hi⟩
 ·have h2:=hl.map fun i=>zs.getD i default
  have e2:(List.range zs.length).map (fun i=>zs.getD i default)=zs:=by
   apply List.ext_getElem?
   intro i
   by_cases hi:i < zs.length
   ·simp[hi]
   ·simp[hi]
  rwa [e2] at h2
 ·rw[List.pairwise_iff_getElem]
  intro i j hi hj hij
  have hi':i < p.size:=by simpa using hi
  have hj':j < p.size:=by simpa using hj
  have h3:=hs i j (Av9 hij) (by rw[<- hp.size];exact hj')
  have h4:blt (zs.getD (p.getD j 0) default) (zs.getD (p.getD i 0) default)=false:=h3
  simpa [Array.getD,hi',hj'] using h4
end ML
end L2
end S_MS1
section S_MP1
namespace L2
namespace ML
open PySem PySem.Spec PyProof.Rows
structure Pos (z:Mk):Prop where
 a:0<=z.a
 b:0<=z.b
 c:0<=z.c
 ms:∀ m∈z.ms,m.pos
abbrev old0:Mk:=⟨0,0,0,[.n 0]⟩
end ML
end L2
end S_MP1
section S_MM12
namespace L2
namespace ML
open PySem
noncomputable def As5 (j:Nat) (Q:Out->Prop):Out->Prop
 |.nx e m=>Q (.nx (e.set j none) m)
 |_=>False
theorem Ald {j np:Nat}{nm:Str}{fx:List D->Bool}{g:FL}{gb:FS}{env:A0}{m:MH}{Q:Out->Prop} :
  W (Aoi j np nm fx g gb env m) Q=W (g env m) fun ds=>W (Cj m ds) fun ds'=>(ds'.length=np/\fx ds'=true)/\W (gb (env.set j (some (xcD nm))) m) (As5 j Q):=by
 unfold Aoi
 rw[W_bind];congr 1;funext ds
 rw[W_bind];congr 1;funext ds'
 by_cases hc:ds'.length=np/\fx ds'=true
 ·rw[At4 hc,W_bind]
  simp only[hc,and_self,true_and]
  congr 1;funext o
  cases o<;>first|exact Ac|exact Bj
 ·rw[At8 hc,Bj]
  simp only[hc,false_and]
theorem Apv {nm:Str}{b:Bool}{f:FE}{env:A0}{m:MH}{Q:D->Prop}:W (Acb nm b f env m) Q=W (f env m) fun d=>d=xcD nm/\Q (.bl b):=by
 unfold Acb
 rw[W_bind];congr 1;funext d
 by_cases hc:d=xcD nm
 ·rw[At4 hc,Ac];simp[hc]
 ·rw[At8 hc,Bj];simp[hc]
theorem Ag2 {i n:Nat}{fn:List D->Option D}{g:FL}{env:A0}{m:MH}{Q:Out->Prop}:W (Adz i n fn g env m) Q=W (g env m) fun ds=>W (Bb n fn ds m) fun z=>W (Ac7 i env m z) Q:=by
 unfold Adz
 rw[W_bind];congr 1;funext ds
 rw[W_bind]
theorem Aep {i:Nat}{env:A0}{m:MH}{d:D}{es:List D}{Q:Out->Prop}:W (Ac7 i env m (.tup [d,.lst es])) Q=((A2 d=true/\A1 es=true)/\Q (.nx (env.set i (some (.tup [d,.ref m.length]))) (m++[.lst es]))):=Jk
theorem Abr {n:Nat}{fn:List D->Option D}{ds:List D}{m:MH}{Q:D->Prop}:W (Tf n fn ds m) Q=W (Dc m ds) fun ds'=>ds'.length=n/\W (fn ds') Q:=by
 unfold Tf
 rw[W_bind];congr 1;funext ds'
 by_cases hc:ds'.length=n
 ·rw[At4 hc];simp[hc]
 ·rw[At8 hc,Bj];simp[hc]
theorem Aqo {m:MH}{Q:List D->Prop}:W (Dc m []) Q=Q []:=Ac
theorem Aqn {m:MH}{d:D}{ds:List D}{Q:List D->Prop}:W (Dc m (d::ds)) Q=W (Js m d) fun d'=>W (Dc m ds) fun ds'=>Q (d'::ds'):=by
 rw[Dc,W_bind];congr 1;funext d';rw[W_bind];congr 1;funext ds';exact Ac
theorem Abw {m:MH}{d:D} (h:A2 d=true) {Q:D->Prop}:W (Js m d) Q=Q d:=by
 have e:Js m d=some d:=by
  unfold Js
  split
  ·rw[Aw,Am,Am] at h;simp[A2] at h
  ·exact C6 h
 rw[e,Ac]
theorem Aqp {m:MH}{d:D}{ds:List D} (h:A2 d=true) (hs:A1 ds=true) {Q:D->Prop}:W (Js (m++[.lst ds]) (.tup [d,.ref m.length])) Q=Q (.tup [d,.lst ds]):=by
 have e0:(m++[MObj.lst ds])[m.length]?=some (.lst ds):=by simp
 have e:Js (m++[.lst ds]) (.tup [d,.ref m.length])=some (.tup [d,.lst ds]):=by
  unfold Js
  simp only[e0]
  rw[At4 ⟨Gv h,A7 hs⟩]
 rw[e,Ac]
theorem Akr {ga:FS}{gb:A0->MH->Bool}{env:A0}{m:MH} (h:W (ga env m) fun o=>∃ e m',o=.nx e m'/\gb e m'=true):Ak2 ga gb env m=true:=by
 obtain⟨o,h1,e,m',rfl,h2⟩:=h
 unfold Ak2
 rw[h1]
 exact h2
theorem Ao1 {fc:FB}{gb:A0->MH->Bool}{env:A0}{m:MH} (h:W (fc env m) fun b=>b=true/\gb env m=true):xIf fc gb env m=true:=by
 obtain⟨b,h1,rfl,h2⟩:=h
 unfold xIf
 rw[h1]
 exact h2
theorem Akq {f:FE}{env:A0}{m:MH} (h:W (f env m) fun d=>∃ y:Str,d=.str y/\y.length<=1000):Ak1 f env m=true:=by
 obtain⟨d,h1,y,rfl,h2⟩:=h
 unfold Ak1
 rw[h1]
 exact Au7 h2
end ML
end L2
end S_MM12
section S_K44a
namespace K44a
open PySem L2 L2.ML
noncomputable section
noncomputable def top (i:Nat):Stmt:=PySem.Challenge.pw_stretchbook_k44_newest.main.body.getD i (.Pass ⟨0,0,0,0⟩)
abbrev Aoq:Stmt:=top 8
abbrev Agd:Stmt:=top 9
abbrev Aos:Stmt:=top 10
abbrev Aoo:Stmt:=top 11
abbrev Afs:Stmt:=top 13
abbrev Aot:Stmt:=top 15
abbrev Aou:Stmt:=top 16
abbrev Aon:Stmt:=top 18
abbrev Aft:Stmt:=top 19
abbrev Afw:Stmt:=top 20
abbrev Aor:Stmt:=top 21
abbrev Afx:Stmt:=top 22
abbrev Af7:Stmt:=top 24
abbrev Afy:Stmt:=top 25
abbrev Af8:Stmt:=top 26
abbrev Af9:Stmt:=top 27
abbrev Age:Stmt:=top 28
abbrev Afz:Stmt:=top 29
abbrev Aop:Stmt:=top 30
abbrev Af0:Stmt:=top 31
abbrev Af1:Stmt:=top 32
abbrev Af2:Stmt:=top 33
abbrev Af3:Stmt:=top 34
abbrev Aga:Stmt:=top 35
abbrev Af4:Stmt:=top 36
abbrev Agb:Stmt:=top 37
abbrev Afu:Stmt:=top 38
abbrev Aov:Stmt:=top 39
abbrev Afv:Stmt:=top 40
abbrev Aow:Stmt:=top 41
abbrev Agc:Stmt:=top 42
abbrev Af5:Stmt:=top 43
abbrev Af6:Stmt:=top 44
abbrev Afr:Stmt:=top 45
abbrev O4:Stmt:=top 46
def Aqz:FS:=(Be (sIf (Jy (Acd "str" (Af 0))) (Ck (Ca (Aa (fC (.int 1)) (Aa (fC (.int 0)) (Aa (Af 0) Ae))))) Dv) (Ck (Ca (Aa (fC (.int 0)) (Aa (Af 0) (Aa (fC (.str (Str.ofString ""))) Ae))))))
def Yr:List D->Option D:=Dp 1 Aqz
def Aif:FS:=(Be (B3 1 (f2 oIx (Af 0) (fC (.int 3)))) (Be (B3 2 (fIf (Jy (Af 1)) (fC (.int 0)) (fC (.int 1)))) (Ck (Ca (Aa (f2 oIx (Af 0) (fC (.int 0))) (Aa (f2 oIx (Af 0) (fC (.int 1))) (Aa (f2 oIx (Af 0) (fC (.int 2))) (Aa (Af 2) (Aa (Ao Dm (Aa (Cr (B8 [] 1 (Ed (Af 1)) (As 0) Ts (Ao (Bb 1 Yr) (Aa (Af 0) Ae)))) Ae)) Ae)))))))))
def G5:List D->Option D:=Dp 3 Aif
def Aq1:FS:=(Ck (f2 Aky (Ao (Bb 1 G5) (Aa (Af 0) Ae)) (Ao (Bb 1 G5) (Aa (Af 1) Ae))))
def Ut:List D->Option D:=Dp 2 Aq1
def Aqx:FS:=(Oz (Bn (Da G5 true) (Aa (Af 0) Ae)))
def Yp:List D->Option D:=Dp 1 Aqx
def Ahu:FS:=(Be (B3 2 (fC (.int 0))) (Be (B3 3 (Ao Jn (Aa (Af 1) Ae))) (Be (Ek (Bc (f2 oLt (Af 2) (Af 3))) (Be (B3 4 (f2 Abp (f2 Gd (Af 2) (Af 3)) (fC (.int 2)))) (sIf (Jy (Ao (Bb 2 Ut) (Aa (Af 0) (Aa (f2 oIx (f2 oIx (Af 1) (Af 4)) (fC (.int 0))) Ae)))) (B3 3 (Af 4)) (B3 2 (f2 Gd (Af 4) (fC (.int 1)))))) 1000) (Be (sIf (Bc (f2 oEq (Af 2) (fC (.int 0)))) (Ck (fC (.bl false))) Dv) (Be (B3 5 (f2 oIx (f2 oIx (Af 1) (f2 Ao7 (Af 2) (fC (.int 1)))) (fC (.int 1)))) (Ck (Alx (f1 Afd (Af 5)) (Ao (Bb 2 Ut) (Aa (Af 0) (Aa (Af 5) Ae))))))))))
def Ny:List D->Option D:=Dp 6 Ahu
def Aq2:FS:=(Oz (Bn (Ec 1 Yp) (Aa (Cr (B8 [1] 1 (Ed (Af 0)) (As 1) (Bc (f2 oEq (f2 oIx (Af 1) (fC (.int 0))) (Af 0))) (f2 oIx (Af 1) (fC (.int 1))))) Ae)))
def Yt:List D->Option D:=Dp 2 Aq2
def Aq3:FS:=(Be (Jl (Ed (Af 0)) (As 3) (sIf (Bc (f2 oEq (fSl (Af 3) fNo (C2 (fC (.int 2)))) (Ca (Aa (Af 1) (Aa (Af 2) Ae))))) (Ck (f2 oIx (Af 3) (fC (.int 2)))) Dv)) (Ck (Ca Ae)))
def Yu:List D->Option D:=Dp 4 Aq3
def Aqw:FS:=(Be (Gb 3 (B8 [] 2 (Ed (Af 1)) (He 2 (B9 (As 0) (B9 (As 1) Pd))) Ts (Ca (Aa (fC (.str (Str.ofString ""))) (Aa (Af 0) (Aa (Af 1) Ae)))))) (Be (Jl (Ed (Af 2)) (He 2 (B9 (As 4) (B9 (As 5) Pd))) (J6 Akx (Af 3) (Aa (Cr (B8 [4] 2 (Ed (Ao (Bb 3 Yu) (Aa (Af 0) (Aa (Af 4) (Aa (Af 5) Ae))))) (He 2 (B9 (As 1) (B9 (As 2) Pd))) Ts (Ca (Aa (Af 0) (Aa (Af 1) (Aa (Af 2) Ae)))))) Ae))) (Ck (Af 3))))
def Yo:List D->Option D:=Dp 6 Aqw
def Ahv:FS:=(Ck (Us (f2 Arb (f2 oIx (Af 0) (fC (.int 1))) (Af 1)) (Ao (Bb 2 Ny) (Aa (f2 U9 (Af 1) (f2 oIx (Af 0) (fC (.int 1)))) (Aa (f2 oIx (Af 0) (fC (.int 2))) Ae)))))
def Nz:List D->Option D:=Dp 2 Ahv
def Ahy:FS:=(Be (B3 3 (Ao Ik (Aa (Af 2) Ae))) (Oz (B8 [3] 1 (Ed (Cr (Bn (Ec 3 Yo) (Aa (Af 0) (Aa (Af 1) (Aa (Af 2) Ae)))))) (As 1) (P7 (Jy (Ao (Ju 2 Nz) (Aa (Af 1) (Aa (Af 0) Ae))))) (Af 1))))
def N1:List D->Option D:=Dp 4 Ahy
def Aq0:FS:=(Ck (Ao Dm (Aa (Cr (B8 [2,1] 2 (Ed (Af 0)) (He 2 (B9 (As 2) (B9 (As 3) Pd))) Ts (Ca (Aa (Af 2) (Aa (fIf (Bc (f2 oEq (Af 2) (Af 1))) (Af 0) (Af 3)) Ae))))) Ae)))
def Ys:List D->Option D:=Dp 3 Aq0
def Ahz:FS:=(Be (B3 4 (Ao Ik (Aa (Af 2) Ae))) (Be (sIf (Bc (f2 Ms (Af 3) (Af 4))) Aka Dv) (Be (B3 5 (Cr (Bn (Ec 2 Yt) (Aa (Af 0) (Aa (Af 3) Ae))))) (Be (Gb 6 (Bq Ae)) (Be (Jl (Ed (Cr (Vv (Af 5) fNo (C2 (fMt "list" Gx (Af 5) (Aa (f2 U9 (Af 4) (Af 3)) Ae)))))) (As 7) (Be (B3 8 (Cr (Bn (Ec 3 N1) (Aa (Af 0) (Aa (Af 1) (Aa (Ao (Bb 3 Ys) (Aa (Af 2) (Aa (Af 3) (Aa (Af 7) Ae)))) Ae)))))) (Be (sIf (P7 (Jy (Af 8))) (Ck (Ca (Aa (Af 7) (Aa (Af 6) Ae)))) Dv) (J6 Rn (Af 6) (Aa (Ca (Aa (Af 7) (Aa (f2 oIx (Af 8) (fC (.int 0))) Ae))) Ae))))) (Ck (Ca (Aa (f2 U9 (Af 4) (Af 3)) (Aa (Af 6) Ae)))))))))
def N2:List D->Option D:=Dp 9 Ahz
def Tv:List D->Bool:=Asc 9 (Ak2 (B3 4 (Ao Ik (Aa (Af 2) Ae))) (xIf (Bc (f2 Ms (Af 3) (Af 4))) (Ak1 (Af 3))))
def Ah9:FS:=(Be (sIf (Bc (f2 oEq (Ao Jn (Aa (Af 0) Ae)) (fC (.int 0)))) (Ck (f2 Mr (fC (.int 7919)) (Af 1))) Dv) (Ck (f2 Gd (f2 oIx (Af 0) (f2 Z0 (Af 1) (Ao Jn (Aa (Af 0) Ae)))) (f2 Mr (fC (.int 7919)) (f2 Abp (Af 1) (Ao Jn (Aa (Af 0) Ae)))))))
def Hz:List D->Option D:=Dp 2 Ah9
def Ah0:FS:=(Be (Gb 2 (Bq Ae)) (Be (B3 3 (f2 Abp (Af 0) (fC (.int 2)))) (Be (Jl (Ni (Aa (Ao Jn (Aa (Af 1) Ae)) Ae)) (As 4) (Be (B3 5 (f2 Z0 (f2 Mr (f2 Gd (f2 Z0 (Af 0) (fC (.int 1000003))) (fC (.int 1))) (f2 Gd (fC (.int 48271)) (f2 Mr (fC (.int 31)) (Af 4)))) (fC (.int 2147483629)))) (Be (B3 5 (f2 Z0 (f2 Mr (f2 Gd (f2 Gd (Af 5) (f2 Mr (f2 Mr (fC (.int 7919)) (Af 4)) (Af 4))) (fC (.int 11))) (fC (.int 69621))) (fC (.int 999983)))) (Be (sIf (Bc (f2 oEq (f2 Z0 (Af 0) (fC (.int 2))) (fC (.int 0)))) (B3 5 (Af 3)) Dv) (Be (J6 Rn (Af 2) (Aa (f2 Z0 (Af 5) (f2 oIx (Af 1) (Af 4))) Ae)) (B3 3 (f2 Abp (Af 3) (f2 oIx (Af 1) (Af 4))))))))) (Ck (Af 2)))))
def G4:List D->Option D:=Dp 6 Ah0
def Aia:FS:=(Be (B3 1 (Cr (Bq (Aa (fC (.int 0)) (Aa (fC (.int 1)) (Aa (fC (.int 10)) (Aa (fC (.str (Str.ofString "a"))) (Aa (fC (.str (Str.ofString "ab"))) (Aa (fC (.str (Str.ofString "b"))) (Aa (fC (.str (Str.ofString "zz"))) Ae)))))))))) (Be (B3 2 (f2 oIx (Cr (Bq (Aa (fC (.int 0)) (Aa (fC (.int 0)) (Aa (fC (.int 1)) (Aa (fC (.int 2)) Ae)))))) (f2 oIx (Af 0) (fC (.int 3))))) (Be (B3 3 (f2 Gd (f2 oIx (Af 0) (fC (.int 0))) (f2 Mr (fC (.int 8)) (Ao Aiv (Aa (Us (f2 oEq (f2 oIx (Af 0) (fC (.int 3))) (fC (.int 0))) (f2 oGt (f2 oIx (Af 0) (fC (.int 4))) (fC (.int 3)))) Ae))))) (Ck (Ca (Aa (Af 3) (Aa (f2 oIx (Af 0) (fC (.int 1))) (Aa (f2 oIx (Af 0) (fC (.int 2))) (Aa (Ao Dm (Aa (Cr (Vv (Cr (Bq (Aa (f2 oIx (Af 1) (f2 oIx (Af 0) (fC (.int 4)))) (Aa (f2 oIx (Af 1) (f2 oIx (Af 0) (fC (.int 5)))) Ae)))) fNo (C2 (Af 2)))) Ae)) Ae)))))))))
def J0:List D->Option D:=Dp 4 Aia
def Aib:FS:=(Be (sIf (Bc (f2 oEq (f2 oIx (Af 0) (fC (.int 3))) (Ca Ae))) (Ck (Ca (Aa (f2 oIx (Af 0) (fC (.int 0))) (Aa (f2 oIx (Af 0) (fC (.int 1))) (Aa (f2 Gd (f2 oIx (Af 0) (fC (.int 2))) (fC (.int 1))) (Aa (Ca (Aa (fC (.int 0)) Ae)) Ae)))))) Dv) (Ck (f2 Gd (fSl (Af 0) fNo (C2 (fC (.int 3)))) (Ca (Aa (f2 Gd (f2 oIx (Af 0) (fC (.int 3))) (Ca (Aa (fC (.int 0)) Ae))) Ae)))))
def H4:List D->Option D:=Dp 1 Aib
def Aig:FS:=(Be (Gb 1 (Bq Ae)) (Be (Jl (Ed (f2 oIx (Af 0) (fC (.int 3)))) (As 2) (sIf (Jy (Acd "str" (Af 2))) (J6 Rn (Af 1) (Aa (Ca (Aa (fC (.int 1)) (Aa (fC (.int 0)) (Aa (Af 2) Ae)))) Ae)) (J6 Rn (Af 1) (Aa (Ca (Aa (fC (.int 0)) (Aa (Af 2) (Aa (fC (.str (Str.ofString ""))) Ae)))) Ae)))) (Ck (Ca (Aa (f2 oIx (Af 0) (fC (.int 0))) (Aa (f2 oIx (Af 0) (fC (.int 1))) (Aa (f2 oIx (Af 0) (fC (.int 2))) (Aa (Ao Aiv (Aa (f2 oEq (f2 oIx (Af 0) (fC (.int 3))) (Ca Ae)) Ae)) (Aa (Af 1) Ae)))))))))
def Ee:List D->Option D:=Dp 3 Aig
def Ah1:FS:=(Be (sIf (Bc (f2 oGt (f2 oIx (Af 0) (fC (.int 0))) (fC (.int 0)))) (Ck (Ca (Aa (f2 Gd (f2 oIx (Af 0) (fC (.int 0))) (fC (.int 1))) (Aa (fC (.int 0)) (Aa (fC (.int 0)) (Aa (Ca (Aa (fC (.int 0)) Ae)) Ae)))))) Dv) (Be (sIf (Bc (f2 oGt (f2 oIx (Af 0) (fC (.int 1))) (fC (.int 0)))) (Ck (Ca (Aa (fC (.int 0)) (Aa (f2 Gd (f2 oIx (Af 0) (fC (.int 1))) (fC (.int 1))) (Aa (fC (.int 0)) (Aa (Ca (Aa (fC (.int 0)) Ae)) Ae)))))) Dv) (Ck (Ca (Aa (fC (.int 0)) (Aa (fC (.int 0)) (Aa (f2 Gd (f2 oIx (Af 0) (fC (.int 2))) (fC (.int 1))) (Aa (Ca (Aa (fC (.int 0)) Ae)) Ae))))))))
def N3:List D->Option D:=Dp 1 Ah1
def Aqy:FS:=(Be (B3 2 (Ca (Aa (fC (.int 0)) (Aa (fC (.int 0)) (Aa (fC (.int 0)) (Aa (Ca (Aa (fC (.int 0)) Ae)) Ae)))))) (Be (sIf (Bc (f2 oEq (Af 0) (fC (.int 0)))) (Ck (Ca (Aa (Ca (Aa (Af 1) (Aa (fC .non) Ae))) Ae))) Dv) (Be (sIf (Bc (f2 oEq (Af 0) (fC (.int 1)))) (Ck (Ca (Aa (Ca (Aa (Af 1) (Aa (Ao (Bb 1 N3) (Aa (Af 1) Ae)) Ae))) Ae))) Dv) (Be (sIf (Bc (f2 oEq (Af 0) (fC (.int 2)))) (Ck (Ca (Aa (Ca (Aa (Af 1) (Aa (Ca (Aa (f2 oIx (Af 1) (fC (.int 0))) (Aa (f2 Gd (f2 oIx (Af 1) (fC (.int 1))) (fC (.int 1))) (Aa (fC (.int 0)) (Aa (Ca (Aa (fC (.int 0)) Ae)) Ae))))) Ae))) Ae))) Dv) (Be (sIf (Bc (f2 oEq (Af 0) (fC (.int 3)))) (Ck (Ca (Aa (Ca (Aa (Af 1) (Aa (Ao (Bb 1 H4) (Aa (Af 1) Ae)) Ae))) Ae))) Dv) (Be (sIf (Bc (f2 oEq (Af 0) (fC (.int 4)))) (Ck (Ca (Aa (Ca (Aa (Af 2) (Aa (fC .non) Ae))) Ae))) Dv) (Be (sIf (Aca (Bc (f2 oEq (Af 0) (fC (.int 5)))) (Bc (f2 oNe (Af 1) (Af 2)))) (Ck (Ca (Aa (Ca (Aa (Af 2) (Aa (Af 1) Ae))) (Aa (Ca (Aa (Ao (Bb 1 H4) (Aa (Af 1) Ae)) (Aa (fC .non) Ae))) Ae)))) Dv) (Ck (Ca (Aa (Ca (Aa (Af 2) (Aa (Ao (Bb 1 H4) (Aa (Af 1) Ae)) Ae))) Ae))))))))))
def Yq:List D->Option D:=Dp 3 Aqy
def Ah2:FS:=(Ck (f2 oIx (Cr (Bq (Aa (fC (.str (Str.ofString "a"))) (Aa (fC (.str (Str.ofString "ab"))) (Aa (fC (.str (Str.ofString "abc"))) (Aa (fC (.str (Str.ofString "b"))) (Aa (fC (.str (Str.ofString "part"))) (Aa (fC (.str (Str.ofString "need"))) (Aa (fC (.str (Str.ofString "zz"))) (Aa (fC (.str (Str.ofString "abcdefgh"))) Ae)))))))))) (Af 0)))
def Hy:List D->Option D:=Dp 1 Ah2
def Ah3:FS:=(Be (Gb 2 (Bq Ae)) (Be (Jl (Ni (Aa (f2 Abp (Ao Jn (Aa (Af 1) Ae)) (fC (.int 8))) Ae)) (As 3) (Be (B3 4 (Ao (Bb 1 Hy) (Aa (f2 oIx (Af 1) (f2 Mr (fC (.int 8)) (Af 3))) Ae))) (sIf (Aca (Bc (f2 oNe (Af 4) (Af 0))) (Bc (f2 D3 (Af 4) (Cr (B8 [] 1 (Ed (Af 2)) (As 0) Ts (f2 oIx (Af 0) (fC (.int 0)))))))) (J6 Rn (Af 2) (Aa (Ca (Aa (Af 4) (Aa (Ao (Bb 2 Yq) (Aa (f2 oIx (Af 1) (f2 Gd (f2 Mr (fC (.int 8)) (Af 3)) (fC (.int 1)))) (Aa (Ao (Bb 1 J0) (Aa (Cr (Vv (Af 1) (C2 (f2 Gd (f2 Mr (fC (.int 8)) (Af 3)) (fC (.int 2)))) (C2 (f2 Gd (f2 Mr (fC (.int 8)) (Af 3)) (fC (.int 8)))))) Ae)) Ae))) Ae))) Ae)) Dv))) (Ck (Ao Dm (Aa (Af 2) Ae)))))
def Jz:List D->Option D:=Dp 5 Ah3
def Ah4:FS:=(Be (B3 1 (Cr (Bn (Ec 2 G4) (Aa (Af 0) (Aa (Cr (Ae0 (Cr (Bq (Aa (fC (.int 8)) (Aa (fC (.int 3)) (Aa (fC (.int 3)) (Aa (fC (.int 4)) (Aa (fC (.int 4)) (Aa (fC (.int 7)) (Aa (fC (.int 7)) (Aa (fC (.int 4)) Ae)))))))))) (Cr (Akv (Bq (Aa (fC (.int 8)) (Aa (fC (.int 7)) (Aa (fC (.int 3)) (Aa (fC (.int 3)) (Aa (fC (.int 4)) (Aa (fC (.int 4)) (Aa (fC (.int 7)) (Aa (fC (.int 7)) Ae))))))))) (fC (.int 3)))))) Ae))))) (Be (B3 2 (Ao (Bb 1 Hy) (Aa (f2 oIx (Af 1) (fC (.int 0))) Ae))) (Ck (Ca (Aa (Af 2) (Aa (Ao (Bb 1 J0) (Aa (Cr (Vv (Af 1) (C2 (fC (.int 1))) (C2 (fC (.int 7))))) Ae)) (Aa (Ao (Bb 2 Jz) (Aa (Af 2) (Aa (Cr (Vv (Af 1) (C2 (fC (.int 8))) (C2 (f2 Gd (fC (.int 8)) (f2 Mr (fC (.int 8)) (f2 oIx (Af 1) (fC (.int 7)))))))) Ae))) Ae)))))))
def N4:List D->Option D:=Dp 3 Ah4
def G0:FS:=(Be (Gb 4 (Bq Ae)) (Be (Jl (Ni (Aa (Af 3) Ae)) (As 5) (Be (B3 6 (Ao (Bb 1 N4) (Aa (Ao (Bb 2 Hz) (Aa (Af 0) (Aa (f2 Gd (Af 1) (Af 5)) Ae))) Ae))) (sIf (Bc (f2 D3 (fSl (Af 6) fNo (C2 (fC (.int 2)))) (Cr (B8 [] 1 (Ed (Af 4)) (As 0) Ts (fSl (Af 0) fNo (C2 (fC (.int 2)))))))) (J6 Rn (Af 4) (Aa (Af 6) Ae)) Dv))) (Ck (Ao Dm (Aa (Af 4) Ae)))))
def Ah5:FS:=(Be (B3 2 (Cr (Bn (Ec 2 G4) (Aa (Ao (Bb 2 Hz) (Aa (Af 0) (Aa (fC (.int 0)) Ae))) (Aa (Cr (Bq (Aa (fC (.int 16)) (Aa (fC (.int 10)) Ae)))) Ae))))) (Be (B3 3 (f2 oIx (Af 2) (fC (.int 1)))) (Be (sIf (Bc (f2 oEq (f2 oIx (Af 2) (fC (.int 0))) (fC (.int 3)))) (B3 3 (fC (.int 40))) Dv) G0)))
def N5:List D->Option D:=Dp 7 Ah5
def Aic:FS:=(Be (Jl (Ed (Af 1)) (He 2 (B9 (As 2) (B9 (As 3) Pd))) (sIf (Aca (P7 (Bc (f2 Aky (Ao (Bb 1 Ee) (Aa (Af 0) Ae)) (Ao (Bb 1 Ee) (Aa (Af 2) Ae))))) (fOr (Bc (f1 Afd (Af 3))) (Bc (f2 Aky (Ao (Bb 1 Ee) (Aa (Af 0) Ae)) (Ao (Bb 1 Ee) (Aa (Af 3) Ae)))))) (Ck (fC (.bl true))) Dv)) (Ck (fC (.bl false))))
def N9:List D->Option D:=Dp 4 Aic
def Ah6:FS:=(Be (B3 1 (Cr (Bn (Ec 2 G4) (Aa (Af 0) (Aa (Cr (Ae0 (Cr (Bq (Aa (fC (.int 5)) Ae))) (Cr (Akv (Bq (Aa (fC (.int 8)) (Aa (fC (.int 7)) (Aa (fC (.int 3)) (Aa (fC (.int 3)) (Aa (fC (.int 4)) (Aa (fC (.int 4)) (Aa (fC (.int 7)) (Aa (fC (.int 7)) Ae))))))))) (fC (.int 4)))))) Ae))))) (Ck (Ao (Bb 2 Jz) (Aa (fC (.str (Str.ofString ""))) (Aa (Cr (Vv (Af 1) (C2 (fC (.int 1))) (C2 (f2 Gd (fC (.int 1)) (f2 Mr (fC (.int 8)) (f2 oIx (Af 1) (fC (.int 0)))))))) Ae)))))
def N6:List D->Option D:=Dp 2 Ah6
def Aid:FS:=(Be (B3 2 (Cr (Bn (Ec 2 G4) (Aa (Af 0) (Aa (Cr (Akv (Bq (Aa (fC (.int 4)) (Aa (fC (.int 12)) Ae))) (fC (.int 8)))) Ae))))) (Be (B3 3 (Cr (Bn J3 (Aa (Cr (B8 [] 1 (Ed (Af 1)) (As 0) Ts (f2 oIx (Af 0) (fC (.int 0))))) Ae)))) (Be (Gb 4 (Bq Ae)) (Be (Jl (Ni (Aa (Ao Jn (Aa (Af 3) Ae)) Ae)) (As 5) (Be (B3 6 (Cr (B8 [3,5] 1 (Ed (Af 1)) (As 2) (Bc (f2 oEq (f2 oIx (Af 2) (fC (.int 0))) (f2 oIx (Af 0) (Af 1)))) (f2 oIx (Af 2) (fC (.int 1)))))) (sIf (Bc (f2 oLt (f2 oIx (Af 2) (f2 Mr (fC (.int 2)) (Af 5))) (fC (.int 3)))) (J6 Rn (Af 4) (Aa (Ca (Aa (f2 oIx (Af 3) (Af 5)) (Aa (f2 oIx (Af 6) (f2 Z0 (f2 oIx (Af 2) (f2 Gd (f2 Mr (fC (.int 2)) (Af 5)) (fC (.int 1)))) (Ao Jn (Aa (Af 6) Ae)))) Ae))) Ae)) Dv))) (Ck (Ao Dm (Aa (Af 4) Ae)))))))
def Oa:List D->Option D:=Dp 7 Aid
def Ahw:FS:=(Be (Jl (Ed (Af 1)) (He 2 (B9 (As 2) (B9 (As 3) Pd))) (sIf (Bc (f2 oEq (Af 2) (f2 oIx (Af 0) (fC (.int 0))))) (Ck (Ao (Bb 2 N9) (Aa (Af 3) (Aa (f2 oIx (Af 0) (fC (.int 1))) Ae)))) Dv)) (Ck (fC (.bl false))))
def Hx:List D->Option D:=Dp 4 Ahw
def Aq4:FS:=(Be (Gb 3 (B8 [] 1 (Ed (Af 1)) (As 0) Ts (Ca (Aa (fC (.str (Str.ofString ""))) (Aa (f2 oIx (Af 0) (fC (.int 0))) (Aa (f2 oIx (Af 0) (fC (.int 1))) Ae)))))) (Be (Jl (Ed (Af 2)) (He 2 (B9 (As 4) (B9 (As 5) Pd))) (Jl (Ed (Af 0)) (As 6) (sIf (Bc (f2 oEq (fSl (Af 6) fNo (C2 (fC (.int 2)))) (Ca (Aa (Af 4) (Aa (Af 5) Ae))))) (Gb 3 (Ae0 (Af 3) (Cr (B8 [4] 1 (Ed (f2 oIx (Af 6) (fC (.int 2)))) (As 1) Ts (Ca (Aa (Af 0) (Aa (f2 oIx (Af 1) (fC (.int 0))) (Aa (f2 oIx (Af 1) (fC (.int 1))) Ae)))))))) Dv))) (Ck (Af 3))))
def Yv:List D->Option D:=Dp 7 Aq4
def Ahx:FS:=(Oz (B8 [2] 1 (Ed (Cr (Bn (Ec 3 Yv) (Aa (Af 0) (Aa (Af 1) (Aa (Af 2) Ae)))))) (As 1) (P7 (Jy (Ao (Bb 2 Hx) (Aa (fSl (Af 1) (C2 (fC (.int 1))) fNo) (Aa (Af 0) Ae))))) (Af 1)))
def N0:List D->Option D:=Dp 3 Ahx
def Aq5:FS:=(Be (Gb 3 (Bq Ae)) (Be (Jl (Ed (Af 0)) (He 3 (B9 (As 4) (B9 (As 5) (B9 (As 6) Pd)))) (Be (sIf (Bc (f2 oIn (Ca (Aa (Af 4) (Aa (Af 5) Ae))) (Af 2))) (B3 6 (Ao Dm (Aa (Cr (B8 [2] 1 (Ed (Af 6)) (As 1) (Jy (Ao (Bb 2 Hx) (Aa (Af 1) (Aa (Af 0) Ae)))) (Af 1))) Ae))) Dv) (J6 Rn (Af 3) (Aa (Ca (Aa (Af 4) (Aa (Af 5) (Aa (Af 6) Ae)))) Ae)))) (Ck (Ca (Aa (Ao Dm (Aa (Af 3) Ae)) (Aa (Ao Dm (Aa (Cr (B8 [2] 1 (Ed (Af 1)) (As 1) (Jy (Ao (Bb 2 Hx) (Aa (Af 1) (Aa (Af 0) Ae)))) (Af 1))) Ae)) Ae))))))
def Yw:List D->Option D:=Dp 7 Aq5
def Aie:FS:=(Be (Gb 3 (Bq Ae)) (Be (Jl (Ed (Af 0)) (He 2 (B9 (As 4) (B9 (As 5) Pd))) (Be (sIf (Bc (f2 oEq (Af 4) (Af 1))) (B3 5 (Af 2)) Dv) (J6 Rn (Af 3) (Aa (Ca (Aa (Af 4) (Aa (Af 5) Ae))) Ae)))) (Ck (Ao Dm (Aa (Af 3) Ae)))))
def Ob:List D->Option D:=Dp 6 Aie
def Ah7:FS:=(Be (Gb 2 (Bn (Da Ee false) (Aa (Cr (B8 [1] 1 (Ed (Af 0)) (As 1) (Bc (f2 oEq (f2 oIx (Af 1) (fC (.int 0))) (Af 0))) (f2 oIx (Af 1) (fC (.int 1))))) Ae))) (Be (J6 Hn (Af 2) Ae) (Ck (Af 2))))
def N7:List D->Option D:=Dp 3 Ah7
def Ah8:FS:=(Be (sIf (fOr (P7 (Jy (Acd "tuple" (Af 4)))) (fOr (Bc (f2 oNe (Ao Jn (Aa (Af 4) Ae)) (fC (.int 2)))) (P7 (Jy (Acd "list" (f2 oIx (Af 4) (fC (.int 1)))))))) (Ck (fC (.bl false))) Dv) (Be (Gb 5 (Bq Ae)) (Be (Jl (Ed (Cr (Bn (Ec 2 N7) (Aa (Af 0) (Aa (Af 3) Ae))))) (As 6) (Be (B3 7 (Cr (Bn (Ec 3 N0) (Aa (Af 0) (Aa (Af 1) (Aa (Ao (Bb 3 Ob) (Aa (Af 2) (Aa (Af 3) (Aa (Af 6) Ae)))) Ae)))))) (Be (sIf (Bc (f2 oEq (Af 7) (Cr (Bq Ae)))) (Be (sIf (fOr (Bc (f2 oNe (f2 oIx (Af 4) (fC (.int 0))) (Af 6))) (Bc (f2 oNe (Ao Jn (Aa (f2 oIx (Af 4) (fC (.int 1))) Ae)) (Ao Jn (Aa (Af 5) Ae))))) (Ck (fC (.bl false))) Dv) (Be (Jl (Ni (Aa (Ao Jn (Aa (Af 5) Ae)) Ae)) (As 8) (Be (B3 9 (f2 oIx (f2 oIx (Af 4) (fC (.int 1))) (Af 8))) (sIf (fOr (P7 (Jy (Acd "tuple" (Af 9)))) (fOr (Bc (f2 oNe (f2 oIx (Af 9) (fC (.int 0))) (f2 oIx (f2 oIx (Af 5) (Af 8)) (fC (.int 0))))) (fOr (Bc (f2 D3 (f2 oIx (Af 9) (fC (.int 1))) (f2 oIx (f2 oIx (Af 5) (Af 8)) (fC (.int 1))))) (Bc (f2 oNe (Ao Jn (Aa (Af 9) Ae)) (fC (.int 2))))))) (Ck (fC (.bl false))) Dv))) (Ck (fC (.bl true))))) Dv) (J6 Rn (Af 5) (Aa (Ca (Aa (Af 6) (Aa (Af 7) Ae))) Ae))))) (Ck (fC (.bl false))))))
def N8:List D->Option D:=Dp 10 Ah8
def Aht:FS:=(Be (B3 4 (fC .non)) (Be (Aoi 5 4 "NoName" Tv (Aa (Af 0) (Aa (Af 1) (Aa (Af 2) (Aa (Af 3) Ae)))) (B3 4 (Af 5))) (Be (sIf (fOr (P7 (Jy (Acb "NoName" true (Af 4)))) (P7 (Jy (Acb "NoName" true (Af 4))))) (Ck (fC (.bl false))) Dv) (Ck (Yn (Acb "NoName" false (Af 4)))))))
def Nx:List D->Option D:=Dp 6 Aht
def R9:FS:=(Be (Jl (Ni (Aa (Af 2) Ae)) (As 3) (Be (B3 4 (Ao (Bb 2 Hz) (Aa (Af 0) (Aa (f2 Gd (fC (.int 41)) (Af 3)) Ae)))) (Be (B3 5 (Ao (Bb 2 Oa) (Aa (f2 Abp (Af 4) (fC (.int 5))) (Aa (Af 1) Ae)))) (Be (Aog (Ao (Bb 3 Yw) (Aa (Af 1) (Aa (Ao (Bb 1 N6) (Aa (f2 Abp (Af 4) (fC (.int 3))) Ae)) (Aa (Af 5) Ae)))) (He 2 (B9 (As 6) (B9 (As 7) Pd)))) (Be (B3 8 (Cr (B8 [] 1 (Ed (Af 5)) (As 0) Ts (f2 oIx (Af 0) (fC (.int 0)))))) (Be (Jl (Ed (Cr (Ae0 (Af 8) (Cr (Vv (Af 8) fNo (C2 (fC (.int 1)))))))) (As 9) (Be (Adz 10 4 N2 (Aa (Af 6) (Aa (Af 7) (Aa (Af 5) (Aa (Af 9) Ae))))) (Be (sIf (P7 (Jy (Ao (Tf 5 N8) (Aa (Af 6) (Aa (Af 7) (Aa (Af 5) (Aa (Af 9) (Aa (Af 10) Ae)))))))) (Ck (fC (.bl false))) Dv) (J6 Rn (f2 oIx (Af 10) (fC (.int 1))) (Aa (fC (.int 1)) Ae))))) (Jl (Ed (Cr (Bq (Aa (Ao (Bb 1 Hy) (Aa (f2 Z0 (Af 4) (fC (.int 8))) Ae)) (Aa (fC (.str (Str.ofString "q"))) (Aa (fC (.str (Str.ofString "abcdefg"))) Ae)))))) (As 9) (sIf (Aca (Bc (f2 D3 (Af 9) (Af 8))) (P7 (Jy (Ao (Bb 4 Nx) (Aa (Af 6) (Aa (Af 7) (Aa (Af 5) (Aa (Af 9) Ae)))))))) (Ck (fC (.bl false))) Dv)))))))) (Ck (fC (.bl true))))
def Ahs:FS:=(Be (B3 1 (Ao (Bb 2 N5) (Aa (Af 0) (Aa (fC (.int 1)) Ae)))) (Be (B3 2 (Ao Ac3 (Aa (fC (.int 2)) (Aa (Ao Jn (Aa (Cr (Vv (Af 0) (C2 (fC (.int 41))) (C2 (fC (.int 61))))) Ae)) Ae)))) (Be (sIf (Bc (f2 oGt (Ao Jn (Aa (Af 1) Ae)) (fC (.int 9)))) (B3 2 (Ao Ac4 (Aa (Af 2) (Aa (fC (.int 4)) Ae)))) Dv) R9)))
def Hw:List D->Option D:=Dp 11 Ahs
theorem sc_law:FnScope ["_law_script","_law_shelf_here","_law_many","_law_k","_law_cell_here","_law_book_here","_law_entries","_law_wants_here","_law_names","_law_name","_law_told"] ["_law_script"] (Ar O4):=⟨rfl,rfl,rfl,by decide +kernel,rfl,by decide +kernel,by decide +kernel⟩
structure Blt (mg:Str->Option Value):Prop where
 b_dict:mg "dict"=none
 b_int:mg "int"=none
 b_isinstance:mg "isinstance"=none
 b_len:mg "len"=none
 b_list:mg "list"=none
 b_max:mg "max"=none
 b_min:mg "min"=none
 b_range:mg "range"=none
 b_set:mg "set"=none
 b_sorted:mg "sorted"=none
 b_str:mg "str"=none
 b_tuple:mg "tuple"=none
structure Txt (K:W.Frag) (mg:Str->Option Value):Prop where
 h_z3:FD K mg "mark_rank" Aoq ["mark"]
 h_z32:FD K mg "rank" Agd ["make"]
 h_z5:FD K mg "is_older" Aos ["one","other"]
 h_z1:FD K mg "newest_first" Aoo ["makes"]
 h_z11:FD K mg "lies_in" Afs ["make","span"]
 h_z6:FD K mg "makes_of" Aot ["shelf","name"]
 h_z7:FD K mg "needs_of" Aou ["shelf","name","make"]
 h_z0:FD K mg "needs_at_work" Aon ["shelf","wants","book"]
 h_z12:FD K mg "is_kept" Aft ["need","taken"]
 h_z15:FD K mg "broken" Afw ["shelf","wants","book"]
 h_z4:FD K mg "with_make" Aor ["book","name","make"]
 h_z16:FD K mg "newest" Afx ["shelf","wants","book","name"]
 h_z26:FD K mg "_law_cell" Af7 ["_law_script","_law_k"]
 h_z17:FD K mg "_law_draws" Afy ["_law_cell_here","_law_sizes"]
 h_z27:FD K mg "_law_make" Af8 ["_law_ds"]
 h_z28:FD K mg "_law_next" Af9 ["_law_make_here"]
 h_z33:FD K mg "_law_key" Age ["_law_make_here"]
 h_z18:FD K mg "_law_great" Afz ["_law_make_here"]
 h_z2:FD K mg "_law_need_span" Aop ["_law_way","_law_make_here"]
 h_z19:FD K mg "_law_title" Af0 ["_law_k"]
 h_z20:FD K mg "_law_needs" Af1 ["_law_owner","_law_ds"]
 h_z21:FD K mg "_law_entry" Af2 ["_law_cell_here"]
 h_z22:FD K mg "_law_shelf" Af3 ["_law_script","_law_first"]
 h_z29:FD K mg "_law_lies" Aga ["_law_make_here","_law_span"]
 h_z23:FD K mg "_law_wants" Af4 ["_law_cell_here"]
 h_z30:FD K mg "_law_book" Agb ["_law_cell_here","_law_shelf_here"]
 h_z13:FD K mg "_law_is_met" Afu ["_law_need","_law_book_here"]
 h_z8:FD K mg "_law_at_work" Aov ["_law_shelf_here","_law_wants_here","_law_book_here"]
 h_z14:FD K mg "_law_broken" Afv ["_law_shelf_here","_law_wants_here","_law_book_here"]
 h_z9:FD K mg "_law_sounded" Aow ["_law_shelf_here","_law_wants_here","_law_book_here"]
 h_z31:FD K mg "_law_with" Agc ["_law_book_here","_law_name","_law_make_here"]
 h_z24:FD K mg "_law_makes" Af5 ["_law_shelf_here","_law_name"]
 h_z25:FD K mg "_law_right" Af6 ["_law_shelf_here","_law_wants_here","_law_book_here","_law_name","_law_told"]
 h_z10:FD K mg "_law_refused" Afr ["_law_shelf_here","_law_wants_here","_law_book_here","_law_name"]
 x_NoName:XM K mg "NoName"
 xi_SpanError:XcIn K mg "NoName" "SpanError"
 is_NoName:IsX K mg "NoName" "NoName" true
 is_ValueError:IsXB K mg "NoName" "ValueError" true
 is_NoLine:IsX K mg "NoName" "NoLine" false
 is_NoShelf:IsX K mg "NoName" "NoShelf" false
 is_NoSpan:IsX K mg "NoName" "NoSpan" false
 is_Stuck:IsX K mg "NoName" "Stuck" false
section
variable {P:Program}{w:World}{K:W.Frag}{mg:Str->Option Value}{base:Heap} (T:Txt K mg ) (B:Blt mg)
include T B
theorem Arh:Cl P w K mg base 1 "mark_rank" 1 Yr :=
 B2 ["mark"] T.h_z3 Aqz Yr fun _ _ _ _ _ _ _ hr nd=>(Ag (B0 (Cy (Os (Aj 0) B.b_isinstance B.b_str (by decide +kernel))) (Al (Aq (A4 (Ak Ad (Ak Ad (Ak (Aj 0) Ai)))))) Bd) (Al (Aq (A4 (Ak Ad (Ak (Aj 0) (Ak Mz Ai)))))))
theorem Z6:Cl P w K mg base 2 "rank" 1 G5 :=
 B2 ["make","marks","without_marks"] T.h_z32 Aif G5 fun _ _ _ _ _ _ _ hr nd=>(Ag (Ay nd (Ap (Aj 0) Ad)) (Ag (Ay nd (Asw (Cy (Aj 1)) Ad Ad)) (Al (Aq (A4 (Ak (Ap (Aj 0) Ad) (Ak (Ap (Aj 0) Ad) (Ak (Ap (Aj 0) Ad) (Ak (Aj 2) (Ak (Cp B.b_tuple (Ak (C8 (Co [] ["mark"] rfl (Cb (Aj 1)) (C9 0) (fun _ _ _ _ _ _=>(Do (show (["mark"]:List Str).Nodup by decide))) (fun _ _ _ _ _ _=>Ej) (fun _ _ _ _ _ _=>(q_c (Arh T B) hr (Ak (Aj 0) Ai))))) Ai)) Ai))))))))))
theorem Ams:Cl P w K mg base 3 "is_older" 2 Ut :=
 B2 ["one","other"] T.h_z5 Aq1 Ut fun _ _ _ _ _ _ _ hr nd=>(Al (Aq (Oq (Z7 hr) (q_c (Z6 T B) hr (Ak (Aj 0) Ai)) (q_c (Z6 T B) hr (Ak (Aj 1) Ai)))))
theorem Are:Cl P w K mg base 5 "newest_first" 1 Yp :=
 B2 ["makes"] T.h_z1 Aqx Yp fun _ _ _ _ _ _ _ hr nd=>(Al (M0 (Ar4 (Z6 T B) hr B.b_sorted (Ak (Aj 0) Ai))))
theorem Ame:Cl P w K mg base 4 "lies_in" 2 Ny :=
 B2 ["make","span","first","behind","middle","high"] T.h_z11 Ahu Ny fun _ _ _ _ _ _ _ hr nd=>(Ag (Ay nd Ad) (Ag (Ay nd (C4 B.b_len (Ak (Aj 1) Ai))) (Ag (Adw _ Auj (Ax (Amu) (Aj 2) (Aj 3)) (Ag (Ay nd (A8 Ip (A8 Bz (Aj 2) (Aj 3)) Ad)) (Al (B0 (Cy (q_c (Ams T B) hr (Ak (Aj 0) (Ak (Ap (Ap (Aj 1) (Aj 4)) Ad) Ai)))) (Al (Ay nd (Aj 4))) (Al (Ay nd (A8 Bz (Aj 4) Ad))))))) (Ag (B0 (Ax (C7 hr) (Aj 2) Ad) (Al (Aq Vh)) Bd) (Ag (Ay nd (Ap (Ap (Aj 1) (A8 Amv (Aj 2) Ad)) Ad)) (Al (Aq (Ati (Ar7 (Aj 5)) (Aj3 (q_c (Ams T B) hr (Ak (Aj 0) (Ak (Aj 5) Ai))))))))))))
theorem Arj:Cl P w K mg base 6 "makes_of" 2 Yt :=
 B2 ["shelf","name"] T.h_z6 Aq2 Yt fun _ _ _ _ _ _ _ hr nd=>(Al (M0 (Aav (Are T B) hr (Ak (C8 (Co [1] ["name","entry"] rfl (Cb (Aj 0)) (C9 1) (fun _ _ _ _ _ _=>(Do (show (["name","entry"]:List Str).Nodup by decide))) (fun _ _ _ _ _ _=>(Iz (Ax (C7 hr) (Ap (Aj 1) Ad) (Dh 0)))) (fun _ _ _ _ _ _=>(Ap (Aj 1) Ad)))) Ai))))
theorem Ark:Cl P w K mg base 1 "needs_of" 3 Yu :=
 B2 ["shelf","name","make","entry"] T.h_z7 Aq3 Yu fun _ _ _ _ _ _ _ hr nd=>(Ag (Cf Auj rfl (Cb (Aj 0)) (Hd nd) (Al (B0 (Ax (C7 hr) (Akz (Aj 3) Ds (Bp Ad)) (A4 (Ak (Aj 1) (Ak (Aj 2) Ai)))) (Al (Aq (Ap (Aj 3) Ad))) Bd))) (Al (Aq (A4 Ai))))
theorem Ard:Cl P w K mg base 2 "needs_at_work" 3 Yo :=
 B2 ["shelf","wants","book","needs","by","make"] T.h_z0 Aqw Yo fun _ _ _ _ _ _ _ hr nd=>(Ag (Ua [] ["name","span"] nd rfl (Cb (Aj 1)) (Ahk 0 1 (by decide)) (fun _ _ _ _ _ _=>(Ei rfl (Bi (Do (show (["name","span"]:List Str).Nodup by decide)) (Bi (Do (show (["name","span"]:List Str).Nodup by decide)) Eh)))) (fun _ _ _ _ _ _=>Ej) (fun _ _ _ _ _ _=>(A4 (Ak Mz (Ak (Aj 0) (Ak (Aj 1) Ai)))))) (Ag (Cf Auj rfl (Cb (Aj 2)) (Ei rfl (Bi (Aj2 nd) (Bi (Hd nd) Eh))) (Al (Aob (Aj 3) (Ak (C8 (Co [4] ["by","name","span"] rfl (Cb (q_c (Ark T B) hr (Ak (Aj 0) (Ak (Dh 4) (Ak (Aj 5) Ai))))) (Ahk 1 2 (by decide)) (fun _ _ _ _ _ _=>(Ei rfl (Bi (Do (show (["by","name","span"]:List Str).Nodup by decide)) (Bi (Do (show (["by","name","span"]:List Str).Nodup by decide)) Eh)))) (fun _ _ _ _ _ _=>Ej) (fun _ _ _ _ _ _=>(A4 (Ak (Dh 0) (Ak (Aj 1) (Ak (Aj 2) Ai))))))) Ai)))) (Al (Aq (Aj 3)))))
theorem Amf:Cl P w K mg base 5 "is_kept" 2 Nz :=
 B2 ["need","taken"] T.h_z12 Ahv Nz fun _ _ _ _ _ _ _ hr nd=>(Al (Aq (An5 (Oq Amt (Ap (Aj 0) Ad) (Aj 1)) (Aj3 (q_c (Ame T B) hr (Ak (Rt (Aj 1) (Ap (Aj 0) Ad)) (Ak (Ap (Aj 0) Ad) Ai)))))))
theorem Amh:Cl P w K mg base 6 "broken" 3 N1 :=
 B2 ["shelf","wants","book","taken"] T.h_z15 Ahy N1 fun _ _ _ _ _ _ _ hr nd=>(Ag (Aax nd (My hr B.b_dict (Ak (Aj 2) Ai))) (Al (M0 (Co [3] ["taken","need"] rfl (Cb (C8 (Aav (Ard T B) hr (Ak (Aj 0) (Ak (Aj 1) (Ak (Aj 2) Ai)))))) (C9 1) (fun _ _ _ _ _ _=>(Do (show (["taken","need"]:List Str).Nodup by decide))) (fun _ _ _ _ _ _=>(Iz (D4 (Cy (Atg (Amf T B) hr (Ak (Aj 1) (Ak (Dh 0) Ai))))))) (fun _ _ _ _ _ _=>(Aj 1))))))
theorem Ari:Cl P w K mg base 1 "with_make" 3 Ys :=
 B2 ["book","name","make"] T.h_z4 Aq0 Ys fun _ _ _ _ _ _ _ hr nd=>(Al (Aq (Cp B.b_tuple (Ak (C8 (Co [2,1] ["make","name","other","taken"] rfl (Cb (Aj 0)) (Ahk 2 3 (by decide)) (fun _ _ _ _ _ _=>(Ei rfl (Bi (Do (show (["make","name","other","taken"]:List Str).Nodup by decide)) (Bi (Do (show (["make","name","other","taken"]:List Str).Nodup by decide)) Eh)))) (fun _ _ _ _ _ _=>Ej) (fun _ _ _ _ _ _=>(A4 (Ak (Aj 2) (Ak (Asw (Ax (C7 hr) (Aj 2) (Dh 1)) (Dh 0) (Aj 3)) Ai)))))) Ai))))
theorem Aix:ClX P w K mg base 7 "newest" "NoName" 4 Tv:=by
 obtain⟨C,hx,hn⟩:=T.x_NoName.ex
 exact Ar6 ["shelf","wants","book","name","taken","makes","whys","make","against"] T.h_z16 hx hn rfl fun f cdv A outer s H E hr nd=>⟨(Ay nd (My hr B.b_dict (Ak (Aj 2) Ai))),(Ax Om (Aj 3) (Aj 4)),(Aj 3)⟩
theorem Ami:Cl P w K mg base 7 "newest" 4 N2 :=
 B2 ["shelf","wants","book","name","taken","makes","whys","make","against"] T.h_z16 Ahz N2 fun _ _ _ _ _ _ _ hr nd=>(Ag (Ay nd (My hr B.b_dict (Ak (Aj 2) Ai))) (Ag (B0 (Ax Om (Aj 3) (Aj 4)) (Al Aj5) Bd) (Ag (Ay nd (C8 (Aav (Arj T B) hr (Ak (Aj 0) (Ak (Aj 3) Ai))))) (Ag (D6 nd (Di Ai)) (Ag (Cf Auj rfl (Cb (C8 (Ot (Aj 5) Ds (Bp (Aaw hr (Aj 5) (Ak (Rt (Aj 4) (Aj 3)) Ai)))))) (Hd nd) (Ag (Ay nd (C8 (Aav (Amh T B) hr (Ak (Aj 0) (Ak (Aj 1) (Ak (q_c (Ari T B) hr (Ak (Aj 2) (Ak (Aj 3) (Ak (Aj 7) Ai)))) Ai)))))) (Ag (B0 (D4 (Cy (Aj 8))) (Al (Aq (A4 (Ak (Aj 7) (Ak (Aj 6) Ai))))) Bd) (Al (D5 (Aj 6) (Ak (A4 (Ak (Aj 7) (Ak (Ap (Aj 8) Ad) Ai))) Ai)))))) (Al (Aq (A4 (Ak (Rt (Aj 4) (Aj 3)) (Ak (Aj 6) Ai))))))))))
theorem Z4:Cl P w K mg base 1 "_law_cell" 2 Hz :=
 B2 ["_law_script","_law_k"] T.h_z26 Ah9 Hz fun _ _ _ _ _ _ _ hr nd=>(Ag (B0 (Ax (C7 hr) (C4 B.b_len (Ak (Aj 0) Ai)) Ad) (Al (Aq (A8 Cw Ad (Aj 1)))) Bd) (Al (Aq (A8 Bz (Ap (Aj 0) (A8 G8 (Aj 1) (C4 B.b_len (Ak (Aj 0) Ai)))) (A8 Cw Ad (A8 Ip (Aj 1) (C4 B.b_len (Ak (Aj 0) Ai))))))))
theorem T7:Cl P w K mg base 1 "_law_draws" 2 G4 :=
 B2 ["_law_cell_here","_law_sizes","_law_found","_law_digits","_law_k","_law_mixed"] T.h_z17 Ah0 G4 fun _ _ _ _ _ _ _ hr nd=>(Ag (D6 nd (Di Ai)) (Ag (Ay nd (A8 Ip (Aj 0) Ad)) (Ag (Cf Auj rfl (Vj B.b_range (Ak (C4 B.b_len (Ak (Aj 1) Ai)) Ai)) (Hd nd) (Ag (Ay nd (A8 G8 (A8 Cw (A8 Bz (A8 G8 (Aj 0) Ad) Ad) (A8 Bz Ad (A8 Cw Ad (Aj 4)))) Ad)) (Ag (Ay nd (A8 G8 (A8 Cw (A8 Bz (A8 Bz (Aj 5) (A8 Cw (A8 Cw Ad (Aj 4)) (Aj 4))) Ad) Ad) Ad)) (Ag (B0 (Ax (C7 hr) (A8 G8 (Aj 0) Ad) Ad) (Al (Ay nd (Aj 3))) Bd) (Ag (D5 (Aj 2) (Ak (A8 G8 (Aj 5) (Ap (Aj 1) (Aj 4))) Ai)) (Al (Ay nd (A8 Ip (Aj 3) (Ap (Aj 1) (Aj 4)))))))))) (Al (Aq (Aj 2))))))
theorem Afh:Cl P w K mg base 1 "_law_make" 1 J0 :=
 B2 ["_law_ds","_law_marks","_law_many","_law_great_here"] T.h_z27 Aia J0 fun _ _ _ _ _ _ _ hr nd=>(Ag (Ay nd (C8 (Di (Ak Ad (Ak Ad (Ak Ad (Ak Mz (Ak Mz (Ak Mz (Ak Mz Ai)))))))))) (Ag (Ay nd (Ap (C8 (Di (Ak Ad (Ak Ad (Ak Ad (Ak Ad Ai)))))) (Ap (Aj 0) Ad))) (Ag (Ay nd (A8 Bz (Ap (Aj 0) Ad) (A8 Cw Ad (Afo B.b_int (Ak (An5 (Oq (C7 hr) (Ap (Aj 0) Ad) Ad) (Aj3 (Oq Ac5 (Ap (Aj 0) Ad) Ad))) Ai))))) (Al (Aq (A4 (Ak (Aj 3) (Ak (Ap (Aj 0) Ad) (Ak (Ap (Aj 0) Ad) (Ak (Cp B.b_tuple (Ak (C8 (Ot (C8 (Di (Ak (Ap (Aj 1) (Ap (Aj 0) Ad)) (Ak (Ap (Aj 1) (Ap (Aj 0) Ad)) Ai)))) Ds (Bp (Aj 2)))) Ai)) Ai))))))))))
theorem Z5:Cl P w K mg base 1 "_law_next" 1 H4 :=
 B2 ["_law_make_here"] T.h_z28 Aib H4 fun _ _ _ _ _ _ _ hr nd=>(Ag (B0 (Ax (C7 hr) (Ap (Aj 0) Ad) (A4 Ai)) (Al (Aq (A4 (Ak (Ap (Aj 0) Ad) (Ak (Ap (Aj 0) Ad) (Ak (A8 Bz (Ap (Aj 0) Ad) Ad) (Ak (A4 (Ak Ad Ai)) Ai))))))) Bd) (Al (Aq (A8 Bz (Akz (Aj 0) Ds (Bp Ad)) (A4 (Ak (A8 Bz (Ap (Aj 0) Ad) (A4 (Ak Ad Ai))) Ai))))))
theorem Oj:Cl P w K mg base 1 "_law_key" 1 Ee :=
 B2 ["_law_make_here","_law_marks","_law_mark"] T.h_z33 Aig Ee fun _ _ _ _ _ _ _ hr nd=>(Ag (D6 nd (Di Ai)) (Ag (Cf Auj rfl (Cb (Ap (Aj 0) Ad)) (Hd nd) (Al (B0 (Cy (Os (Aj 2) B.b_isinstance B.b_str (by decide +kernel))) (Al (D5 (Aj 1) (Ak (A4 (Ak Ad (Ak Ad (Ak (Aj 2) Ai)))) Ai))) (Al (D5 (Aj 1) (Ak (A4 (Ak Ad (Ak (Aj 2) (Ak Mz Ai)))) Ai)))))) (Al (Aq (A4 (Ak (Ap (Aj 0) Ad) (Ak (Ap (Aj 0) Ad) (Ak (Ap (Aj 0) Ad) (Ak (Afo B.b_int (Ak (Oq (C7 hr) (Ap (Aj 0) Ad) (A4 Ai)) Ai)) (Ak (Aj 1) Ai))))))))))
theorem Amj:Cl P w K mg base 1 "_law_great" 1 N3 :=
 B2 ["_law_make_here"] T.h_z18 Ah1 N3 fun _ _ _ _ _ _ _ hr nd=>(Ag (B0 (Ax Ac5 (Ap (Aj 0) Ad) Ad) (Al (Aq (A4 (Ak (A8 Bz (Ap (Aj 0) Ad) Ad) (Ak Ad (Ak Ad (Ak (A4 (Ak Ad Ai)) Ai))))))) Bd) (Ag (B0 (Ax Ac5 (Ap (Aj 0) Ad) Ad) (Al (Aq (A4 (Ak Ad (Ak (A8 Bz (Ap (Aj 0) Ad) Ad) (Ak Ad (Ak (A4 (Ak Ad Ai)) Ai))))))) Bd) (Al (Aq (A4 (Ak Ad (Ak Ad (Ak (A8 Bz (Ap (Aj 0) Ad) Ad) (Ak (A4 (Ak Ad Ai)) Ai)))))))))
theorem Arf:Cl P w K mg base 2 "_law_need_span" 2 Yq :=
 B2 ["_law_way","_law_make_here","_law_oldest"] T.h_z2 Aqy Yq fun _ _ _ _ _ _ _ hr nd=>(Ag (Ay nd (A4 (Ak Ad (Ak Ad (Ak Ad (Ak (A4 (Ak Ad Ai)) Ai)))))) (Ag (B0 (Ax (C7 hr) (Aj 0) Ad) (Al (Aq (A4 (Ak (A4 (Ak (Aj 1) (Ak Adv Ai))) Ai)))) Bd) (Ag (B0 (Ax (C7 hr) (Aj 0) Ad) (Al (Aq (A4 (Ak (A4 (Ak (Aj 1) (Ak (q_c (Amj T B) hr (Ak (Aj 1) Ai)) Ai))) Ai)))) Bd) (Ag (B0 (Ax (C7 hr) (Aj 0) Ad) (Al (Aq (A4 (Ak (A4 (Ak (Aj 1) (Ak (A4 (Ak (Ap (Aj 1) Ad) (Ak (A8 Bz (Ap (Aj 1) Ad) Ad) (Ak Ad (Ak (A4 (Ak Ad Ai)) Ai))))) Ai))) Ai)))) Bd) (Ag (B0 (Ax (C7 hr) (Aj 0) Ad) (Al (Aq (A4 (Ak (A4 (Ak (Aj 1) (Ak (q_c (Z5 T B) hr (Ak (Aj 1) Ai)) Ai))) Ai)))) Bd) (Ag (B0 (Ax (C7 hr) (Aj 0) Ad) (Al (Aq (A4 (Ak (A4 (Ak (Aj 2) (Ak Adv Ai))) Ai)))) Bd) (Ag (B0 (Dr (Uc (Ax (C7 hr) (Aj 0) Ad) (M4 (Ax (Ro hr) (Aj 1) (Aj 2))))) (Al (Aq (A4 (Ak (A4 (Ak (Aj 2) (Ak (Aj 1) Ai))) (Ak (A4 (Ak (q_c (Z5 T B) hr (Ak (Aj 1) Ai)) (Ak Adv Ai))) Ai))))) Bd) (Al (Aq (A4 (Ak (A4 (Ak (Aj 2) (Ak (q_c (Z5 T B) hr (Ak (Aj 1) Ai)) Ai))) Ai)))))))))))
theorem Z3:Cl P w K mg base 1 "_law_title" 1 Hy :=
 B2 ["_law_k"] T.h_z19 Ah2 Hy fun _ _ _ _ _ _ _ hr nd=>(Al (Aq (Ap (C8 (Di (Ak Mz (Ak Mz (Ak Mz (Ak Mz (Ak Mz (Ak Mz (Ak Mz (Ak Mz Ai)))))))))) (Aj 0))))
theorem Afg:Cl P w K mg base 3 "_law_needs" 2 Jz :=
 B2 ["_law_owner","_law_ds","_law_needs_here","_law_j","_law_other"] T.h_z20 Ah3 Jz fun _ _ _ _ _ _ _ hr nd=>(Ag (D6 nd (Di Ai)) (Ag (Cf Auj rfl (Vj B.b_range (Ak (A8 Ip (C4 B.b_len (Ak (Aj 1) Ai)) Ad) Ai)) (Hd nd) (Ag (Ay nd (q_c (Z3 T B) hr (Ak (Ap (Aj 1) (A8 Cw Ad (Aj 3))) Ai))) (Al (B0 (Dr (Uc (Ax (Ro hr) (Aj 4) (Aj 0)) (M4 (Ax (Ho hr) (Aj 4) (C8 (Co [] ["_law_need"] rfl (Cb (Aj 2)) (C9 0) (fun _ _ _ _ _ _=>(Do (show (["_law_need"]:List Str).Nodup by decide))) (fun _ _ _ _ _ _=>Ej) (fun _ _ _ _ _ _=>(Ap (Aj 0) Ad)))))))) (Al (D5 (Aj 2) (Ak (A4 (Ak (Aj 4) (Ak (q_c (Arf T B) hr (Ak (Ap (Aj 1) (A8 Bz (A8 Cw Ad (Aj 3)) Ad)) (Ak (q_c (Afh T B) hr (Ak (C8 (Ot (Aj 1) (Bp (A8 Bz (A8 Cw Ad (Aj 3)) Ad)) (Bp (A8 Bz (A8 Cw Ad (Aj 3)) Ad)))) Ai)) Ai))) Ai))) Ai))) Bd)))) (Al (Aq (Cp B.b_tuple (Ak (Aj 2) Ai))))))
theorem Amk:Cl P w K mg base 4 "_law_entry" 1 N4 :=
 B2 ["_law_cell_here","_law_ds","_law_name"] T.h_z21 Ah4 N4 fun _ _ _ _ _ _ _ hr nd=>(Ag (Ay nd (C8 (Aav (T7 T B) hr (Ak (Aj 0) (Ak (C8 (Ads (C8 (Di (Ak Ad (Ak Ad (Ak Ad (Ak Ad (Ak Ad (Ak Ad (Ak Ad (Ak Ad Ai)))))))))) (C8 (Aj4 (Di (Ak Ad (Ak Ad (Ak Ad (Ak Ad (Ak Ad (Ak Ad (Ak Ad (Ak Ad Ai))))))))))))) Ai))))) (Ag (Ay nd (q_c (Z3 T B) hr (Ak (Ap (Aj 1) Ad) Ai))) (Al (Aq (A4 (Ak (Aj 2) (Ak (q_c (Afh T B) hr (Ak (C8 (Ot (Aj 1) (Bp Ad) (Bp Ad))) Ai)) (Ak (q_c (Afg T B) hr (Ak (Aj 2) (Ak (C8 (Ot (Aj 1) (Bp Ad) (Bp (A8 Bz Ad (A8 Cw Ad (Ap (Aj 1) Ad)))))) Ai))) Ai))))))))
theorem Aml:Cl P w K mg base 5 "_law_shelf" 2 N5 :=
 B2 ["_law_script","_law_first","_law_ds","_law_many","_law_shelf_here","_law_k","_law_entry_here"] T.h_z22 Ah5 N5 fun _ _ _ _ _ _ _ hr nd=>(Ag (Ay nd (C8 (Aav (T7 T B) hr (Ak (q_c (Z4 T B) hr (Ak (Aj 0) (Ak Ad Ai))) (Ak (C8 (Di (Ak Ad (Ak Ad Ai)))) Ai))))) (Ag (Ay nd (Ap (Aj 2) Ad)) (Ag (B0 (Ax (C7 hr) (Ap (Aj 2) Ad) Ad) (Al (Ay nd Ad)) Bd) (Ag (D6 nd (Di Ai)) (Ag (Cf Auj rfl (Vj B.b_range (Ak (Aj 3) Ai)) (Hd nd) (Ag (Ay nd (q_c (Amk T B) hr (Ak (q_c (Z4 T B) hr (Ak (Aj 0) (Ak (A8 Bz (Aj 1) (Aj 5)) Ai))) Ai))) (Al (B0 (Ax (Ho hr) (Akz (Aj 6) Ds (Bp Ad)) (C8 (Co [] ["_law_one"] rfl (Cb (Aj 4)) (C9 0) (fun _ _ _ _ _ _=>(Do (show (["_law_one"]:List Str).Nodup by decide))) (fun _ _ _ _ _ _=>Ej) (fun _ _ _ _ _ _=>(Akz (Aj 0) Ds (Bp Ad)))))) (Al (D5 (Aj 4) (Ak (Aj 6) Ai))) Bd)))) (Al (Aq (Cp B.b_tuple (Ak (Aj 4) Ai)))))))))
theorem Amp:Cl P w K mg base 2 "_law_lies" 2 N9 :=
 B2 ["_law_make_here","_law_span","_law_low","_law_high"] T.h_z29 Aic N9 fun _ _ _ _ _ _ _ hr nd=>(Ag (Cf Auj rfl (Cb (Aj 1)) (Ei rfl (Bi (Hd nd) (Bi (Hd nd) Eh))) (Al (B0 (Dr (Uc (D4 (Ax (Z7 hr) (q_c (Oj T B) hr (Ak (Aj 0) Ai)) (q_c (Oj T B) hr (Ak (Aj 2) Ai)))) (M4 (Dr (Ou (An6 (Aj 3)) (Ov (Ax (Z7 hr) (q_c (Oj T B) hr (Ak (Aj 0) Ai)) (q_c (Oj T B) hr (Ak (Aj 3) Ai))))))))) (Al (Aq Vh)) Bd))) (Al (Aq Vh)))
theorem Amm:Cl P w K mg base 4 "_law_wants" 1 N6 :=
 B2 ["_law_cell_here","_law_ds"] T.h_z23 Ah6 N6 fun _ _ _ _ _ _ _ hr nd=>(Ag (Ay nd (C8 (Aav (T7 T B) hr (Ak (Aj 0) (Ak (C8 (Ads (C8 (Di (Ak Ad Ai))) (C8 (Aj4 (Di (Ak Ad (Ak Ad (Ak Ad (Ak Ad (Ak Ad (Ak Ad (Ak Ad (Ak Ad Ai))))))))))))) Ai))))) (Al (Aq (q_c (Afg T B) hr (Ak Mz (Ak (C8 (Ot (Aj 1) (Bp Ad) (Bp (A8 Bz Ad (A8 Cw Ad (Ap (Aj 1) Ad)))))) Ai))))))
theorem Amq:Cl P w K mg base 2 "_law_book" 2 Oa :=
 B2 ["_law_cell_here","_law_shelf_here","_law_ds","_law_names","_law_book_here","_law_k","_law_makes_here"] T.h_z30 Aid Oa fun _ _ _ _ _ _ _ hr nd=>(Ag (Ay nd (C8 (Aav (T7 T B) hr (Ak (Aj 0) (Ak (C8 (Aj4 (Di (Ak Ad (Ak Ad Ai))))) Ai))))) (Ag (Aax nd (C8 (Adu hr B.b_sorted B.b_set (Ak (C8 (Co [] ["_law_entry_here"] rfl (Cb (Aj 1)) (C9 0) (fun _ _ _ _ _ _=>(Do (show (["_law_entry_here"]:List Str).Nodup by decide))) (fun _ _ _ _ _ _=>Ej) (fun _ _ _ _ _ _=>(Ap (Aj 0) Ad)))) Ai)))) (Ag (D6 nd (Di Ai)) (Ag (Cf Auj rfl (Vj B.b_range (Ak (C4 B.b_len (Ak (Dh 3) Ai)) Ai)) (Aj2 nd) (Ag (Ub [3,5] ["_law_names","_law_k","_law_entry_here"] nd rfl (Cb (Aj 1)) (C9 2) (fun _ _ _ _ _ _=>(Do (show (["_law_names","_law_k","_law_entry_here"]:List Str).Nodup by decide))) (fun _ _ _ _ _ _=>(Iz (Ax (C7 hr) (Ap (Aj 2) Ad) (Ap (Dh 0) (Dh 1))))) (fun _ _ _ _ _ _=>(Ap (Aj 2) Ad))) (Al (B0 (Ax (Amu) (Ap (Aj 2) (A8 Cw Ad (Dh 5))) Ad) (Al (D5 (Aj 4) (Ak (A4 (Ak (Ap (Dh 3) (Dh 5)) (Ak (Ap (Aj 6) (A8 G8 (Ap (Aj 2) (A8 Bz (A8 Cw Ad (Dh 5)) Ad)) (C4 B.b_len (Ak (Aj 6) Ai)))) Ai))) Ai))) Bd)))) (Al (Aq (Cp B.b_tuple (Ak (Aj 4) Ai))))))))
theorem Z2:Cl P w K mg base 3 "_law_is_met" 2 Hx :=
 B2 ["_law_need","_law_book_here","_law_name","_law_make_here"] T.h_z13 Ahw Hx fun _ _ _ _ _ _ _ hr nd=>(Ag (Cf Auj rfl (Cb (Aj 1)) (Ei rfl (Bi (Hd nd) (Bi (Hd nd) Eh))) (Al (B0 (Ax (C7 hr) (Aj 2) (Ap (Aj 0) Ad)) (Al (Aq (q_c (Amp T B) hr (Ak (Aj 3) (Ak (Ap (Aj 0) Ad) Ai))))) Bd))) (Al (Aq Vh)))
theorem Arl:Cl P w K mg base 1 "_law_at_work" 3 Yv :=
 B2 ["_law_shelf_here","_law_wants_here","_law_book_here","_law_found","_law_by","_law_make_here","_law_entry_here"] T.h_z8 Aq4 Yv fun _ _ _ _ _ _ _ hr nd=>(Ag (Ua [] ["_law_need"] nd rfl (Cb (Aj 1)) (C9 0) (fun _ _ _ _ _ _=>(Do (show (["_law_need"]:List Str).Nodup by decide))) (fun _ _ _ _ _ _=>Ej) (fun _ _ _ _ _ _=>(A4 (Ak Mz (Ak (Ap (Aj 0) Ad) (Ak (Ap (Aj 0) Ad) Ai)))))) (Ag (Cf Auj rfl (Cb (Aj 2)) (Ei rfl (Bi (Aj2 nd) (Bi (Hd nd) Eh))) (Al (Cf Auj rfl (Cb (Aj 0)) (Hd nd) (Al (B0 (Ax (C7 hr) (Akz (Aj 6) Ds (Bp Ad)) (A4 (Ak (Dh 4) (Ak (Aj 5) Ai)))) (Al (D6 nd (Ads (Aj 3) (C8 (Co [4] ["_law_by","_law_need"] rfl (Cb (Ap (Aj 6) Ad)) (C9 1) (fun _ _ _ _ _ _=>(Do (show (["_law_by","_law_need"]:List Str).Nodup by decide))) (fun _ _ _ _ _ _=>Ej) (fun _ _ _ _ _ _=>(A4 (Ak (Dh 0) (Ak (Ap (Aj 1) Ad) (Ak (Ap (Aj 1) Ad) Ai)))))))))) Bd))))) (Al (Aq (Aj 3)))))
theorem Amg:Cl P w K mg base 4 "_law_broken" 3 N0 :=
 B2 ["_law_shelf_here","_law_wants_here","_law_book_here"] T.h_z14 Ahx N0 fun _ _ _ _ _ _ _ hr nd=>(Al (M0 (Co [2] ["_law_book_here","_law_one"] rfl (Cb (C8 (Aav (Arl T B) hr (Ak (Aj 0) (Ak (Aj 1) (Ak (Dh 2) Ai)))))) (C9 1) (fun _ _ _ _ _ _=>(Do (show (["_law_book_here","_law_one"]:List Str).Nodup by decide))) (fun _ _ _ _ _ _=>(Iz (D4 (Cy (q_c (Z2 T B) hr (Ak (Akz (Aj 1) (Bp Ad) Ds) (Ak (Dh 0) Ai))))))) (fun _ _ _ _ _ _=>(Aj 1)))))
theorem Arm:Cl P w K mg base 4 "_law_sounded" 3 Yw :=
 B2 ["_law_shelf_here","_law_wants_here","_law_book_here","_law_entries","_law_name","_law_make_here","_law_needs_here"] T.h_z9 Aq5 Yw fun _ _ _ _ _ _ _ hr nd=>(Ag (D6 nd (Di Ai)) (Ag (Cf Auj rfl (Cb (Aj 0)) (Ei rfl (Bi (Hd nd) (Bi (Hd nd) (Bi (Hd nd) Eh)))) (Ag (B0 (Ax (Arn hr) (A4 (Ak (Aj 4) (Ak (Aj 5) Ai))) (Dh 2)) (Al (Ay nd (Cp B.b_tuple (Ak (C8 (Co [2] ["_law_book_here","_law_need"] rfl (Cb (Aj 6)) (C9 1) (fun _ _ _ _ _ _=>(Do (show (["_law_book_here","_law_need"]:List Str).Nodup by decide))) (fun _ _ _ _ _ _=>(Iz (Cy (q_c (Z2 T B) hr (Ak (Aj 1) (Ak (Dh 0) Ai)))))) (fun _ _ _ _ _ _=>(Aj 1)))) Ai)))) Bd) (Al (D5 (Aj 3) (Ak (A4 (Ak (Aj 4) (Ak (Aj 5) (Ak (Aj 6) Ai)))) Ai))))) (Al (Aq (A4 (Ak (Cp B.b_tuple (Ak (Aj 3) Ai)) (Ak (Cp B.b_tuple (Ak (C8 (Co [2] ["_law_book_here","_law_need"] rfl (Cb (Aj 1)) (C9 1) (fun _ _ _ _ _ _=>(Do (show (["_law_book_here","_law_need"]:List Str).Nodup by decide))) (fun _ _ _ _ _ _=>(Iz (Cy (q_c (Z2 T B) hr (Ak (Aj 1) (Ak (Dh 0) Ai)))))) (fun _ _ _ _ _ _=>(Aj 1)))) Ai)) Ai)))))))
theorem Amr:Cl P w K mg base 1 "_law_with" 3 Ob :=
 B2 ["_law_book_here","_law_name","_law_make_here","_law_found","_law_one","_law_other"] T.h_z31 Aie Ob fun _ _ _ _ _ _ _ hr nd=>(Ag (D6 nd (Di Ai)) (Ag (Cf Auj rfl (Cb (Aj 0)) (Ei rfl (Bi (Hd nd) (Bi (Hd nd) Eh))) (Ag (B0 (Ax (C7 hr) (Aj 4) (Aj 1)) (Al (Ay nd (Aj 2))) Bd) (Al (D5 (Aj 3) (Ak (A4 (Ak (Aj 4) (Ak (Aj 5) Ai))) Ai))))) (Al (Aq (Cp B.b_tuple (Ak (Aj 3) Ai))))))
theorem Amn:Cl P w K mg base 4 "_law_makes" 2 N7 :=
 B2 ["_law_shelf_here","_law_name","_law_makes_here"] T.h_z24 Ah7 N7 fun _ _ _ _ _ _ _ hr nd=>(Ag (D6 nd (Ar3 (Oj T B) hr B.b_sorted (Ak (C8 (Co [1] ["_law_name","_law_entry_here"] rfl (Cb (Aj 0)) (C9 1) (fun _ _ _ _ _ _=>(Do (show (["_law_name","_law_entry_here"]:List Str).Nodup by decide))) (fun _ _ _ _ _ _=>(Iz (Ax (C7 hr) (Ap (Aj 1) Ad) (Dh 0)))) (fun _ _ _ _ _ _=>(Ap (Aj 1) Ad)))) Ai))) (Ag (Vi (Aj 2)) (Al (Aq (Aj 2)))))
theorem Amo:Cl P w K mg base 5 "_law_right" 5 N8 :=
 B2 ["_law_shelf_here","_law_wants_here","_law_book_here","_law_name","_law_told","_law_lines","_law_make_here","_law_lacking","_law_k","_law_why"] T.h_z25 Ah8 N8 fun _ _ _ _ _ _ _ hr nd=>(Ag (B0 (Dr (Ou (D4 (Cy (Os (Aj 4) B.b_isinstance B.b_tuple (by decide +kernel)))) (Ou (Ax (Ro hr) (C4 B.b_len (Ak (Aj 4) Ai)) Ad) (Ov (D4 (Cy (Os (Ap (Aj 4) Ad) B.b_isinstance B.b_list (by decide +kernel)))))))) (Al (Aq Vh)) Bd) (Ag (D6 nd (Di Ai)) (Ag (Cf Auj rfl (Cb (C8 (Aav (Amn T B) hr (Ak (Aj 0) (Ak (Aj 3) Ai))))) (Hd nd) (Ag (Ay nd (C8 (Aav (Amg T B) hr (Ak (Aj 0) (Ak (Aj 1) (Ak (q_c (Amr T B) hr (Ak (Aj 2) (Ak (Aj 3) (Ak (Aj 6) Ai)))) Ai)))))) (Ag (B0 (Ax (C7 hr) (Aj 7) (C8 (Di Ai))) (Ag (B0 (Dr (Ou (Ax (Ro hr) (Ap (Aj 4) Ad) (Aj 6)) (Ov (Ax (Ro hr) (C4 B.b_len (Ak (Ap (Aj 4) Ad) Ai)) (C4 B.b_len (Ak (Aj 5) Ai)))))) (Al (Aq Vh)) Bd) (Ag (Cf Auj rfl (Vj B.b_range (Ak (C4 B.b_len (Ak (Aj 5) Ai)) Ai)) (Hd nd) (Ag (Ay nd (Ap (Ap (Aj 4) Ad) (Aj 8))) (Al (B0 (Dr (Ou (D4 (Cy (Os (Aj 9) B.b_isinstance B.b_tuple (by decide +kernel)))) (Ou (Ax (Ro hr) (Ap (Aj 9) Ad) (Ap (Ap (Aj 5) (Aj 8)) Ad)) (Ou (Ax (Ho hr) (Ap (Aj 9) Ad) (Ap (Ap (Aj 5) (Aj 8)) Ad)) (Ov (Ax (Ro hr) (C4 B.b_len (Ak (Aj 9) Ai)) Ad)))))) (Al (Aq Vh)) Bd)))) (Al (Aq Vh)))) Bd) (Al (D5 (Aj 5) (Ak (A4 (Ak (Aj 6) (Ak (Aj 7) Ai))) Ai)))))) (Al (Aq Vh)))))
theorem Amd:Cl P w K mg base 8 "_law_refused" 4 Nx :=
 B2 ["_law_shelf_here","_law_wants_here","_law_book_here","_law_name","_law_error","e"] T.h_z10 Aht Nx fun _ _ _ _ _ _ _ hr nd=>(Ag (Ay nd Adv) (Ag (Aoc (Aix T B) hr T.xi_SpanError (Ak (Aj 0) (Ak (Aj 1) (Ak (Aj 2) (Ak (Aj 3) Ai)))) nd rfl (fun _=>(Al (Ay nd (Aj 5))))) (Ag (B0 (Dr (Ou (D4 (Cy (Ar8 T.is_NoName (Aj 4) B.b_isinstance))) (Ov (D4 (Cy (An7 T.is_ValueError (Aj 4) B.b_isinstance)))))) (Al (Aq Vh)) Bd) (Al (Aq (Ar9 (An8 (Ar5 T.is_NoLine (Ar5 T.is_NoShelf (Ar5 T.is_NoSpan (Atf T.is_Stuck)))) (Aj 4) B.b_isinstance)))))))
theorem Amc {a:Addr}{fd:FuncData} (F:Fun K "law" "law" O4 a fd):FnOk P w K mg base CX0 9 a fd ["_law_script"] (spP K 1 Hw) :=
 Asv F sc_law Ahs Hw rfl rfl fun cdv A outer s H E hr=>(Ag (Ay sc_law.nd (q_c (Aml T B) hr (Ak (Aj 0) (Ak Ad Ai)))) (Ag (Ay sc_law.nd (Ajz rfl B.b_max (Ak Ad (Ak (C4 B.b_len (Ak (C8 (Ot (Aj 0) (Bp Ad) (Bp Ad))) Ai)) Ai)))) (Ag (B0 (Ax Ac5 (C4 B.b_len (Ak (Aj 1) Ai)) Ad) (Al (Ay sc_law.nd (Aj0 rfl B.b_min (Ak (Aj 2) (Ak Ad Ai))))) Bd) (Ag (Cf Auj rfl (Vj B.b_range (Ak (Aj 2) Ai)) (Hd sc_law.nd) (Ag (Ay sc_law.nd (q_c (Z4 T B) hr (Ak (Aj 0) (Ak (A8 Bz Ad (Aj 3)) Ai)))) (Ag (Ay sc_law.nd (q_c (Amq T B) hr (Ak (A8 Ip (Aj 4) Ad) (Ak (Aj 1) Ai)))) (Ag (An9 (q_c (Arm T B) hr (Ak (Aj 1) (Ak (q_c (Amm T B) hr (Ak (A8 Ip (Aj 4) Ad) Ai)) (Ak (Aj 5) Ai)))) (Ei rfl (Bi (Hd sc_law.nd) (Bi (Hd sc_law.nd) Eh)))) (Ag (Ub [] ["_law_one"] sc_law.nd rfl (Cb (Aj 5)) (C9 0) (fun _ _ _ _ _ _=>(Do (show (["_law_one"]:List Str).Nodup by decide))) (fun _ _ _ _ _ _=>Ej) (fun _ _ _ _ _ _=>(Ap (Aj 0) Ad))) (Ag (Cf Auj rfl (Cb (C8 (Ads (Aj 8) (C8 (Ot (Aj 8) Ds (Bp Ad)))))) (Hd sc_law.nd) (Ag (Aoa (Ami T B) hr sc_law.nd rfl (Ak (Aj 6) (Ak (Aj 7) (Ak (Aj 5) (Ak (Aj 9) Ai))))) (Ag (B0 (D4 (Cy (Ath (Amo T B) hr (Ak (Aj 6) (Ak (Aj 7) (Ak (Aj 5) (Ak (Aj 9) (Ak (Aj 10) Ai)))))))) (Al (Aq Vh)) Bd) (Al (D5 (Ap (Aj 10) Ad) (Ak Ad Ai)))))) (Al (Cf Auj rfl (Cb (C8 (Di (Ak (q_c (Z3 T B) hr (Ak (A8 G8 (Aj 4) Ad) Ai)) (Ak Mz (Ak Mz Ai)))))) (Hd sc_law.nd) (Al (B0 (Dr (Uc (Ax (Ho hr) (Aj 9) (Aj 8)) (M4 (D4 (Cy (q_c (Amd T B) hr (Ak (Aj 6) (Ak (Aj 7) (Ak (Aj 5) (Ak (Aj 9) Ai)))))))))) (Al (Aq Vh)) Bd)))))))))) (Al (Aq Vh))))))
end
end
end K44a
end S_K44a
section S_YA
namespace K44a
open PySem L2 L2.ML
set_option hygiene false in
local macro_rules|`(tactic| simp_arith[$a,*])=>`(tactic| ((try dsimp only[mp1,mp2,mp3,ln1,ln2,ln3,List.replicate,Nat.reduceAdd,Nat.reduceSub]);simp only[↓Ahf,↓Ahe,↓Ra,↓P9,↓A3,↓R4,↓R5,↓R0,↓R3,↓Xw,↓Xu,↓Xv,↓Pq,↓Abm,↓Ab0,↓Ag1,↓Apu,↓Apt,↓Aps,↓Xh,↓Pp,↓Pl,↓Lm,↓Agp,↓Xa,↓Xf,↓Ln,↓Hq,↓Agl,↓Tc,↓X1,↓X3,↓X2,↓V7,↓Agr,↓Xb,↓Pk,↓Xc,↓Pn,↓Ago,↓Ags,↓Agq,↓Po,↓Agm,↓Nk,↓Xe,↓Akc,↓Aa5,↓V8,↓V9,↓Td,↓Pm,↓Dx,↓Dk,↓V2,↓V3,↓X0,↓Xp,↓V6,↓Xo,↓Agz,↓Agt,↓Apr,↓Ap2,↓Eu,↓Agw,↓Agv,↓Agx,↓Xm,↓Xk,↓Xj,↓Xl,↓Xy,↓Agu,↓Ll,↓Gj,↓Gi,↓Pt,↓Lp,↓Pv,↓Pu,↓Ag4,↓Ag6,↓Ag7,↓Ag5,↓Gf,↓Gg,↓De,↓Dy,↓Ag9,↓Aha,↓Ahb,↓X6,↓X5,↓X4,↓Aso,↓Asm,↓Asn,↓Pw,↓Aj8,↓Xs,↓Nb,↓Na,↓M9,↓Nc,↓Gm,↓Aqc,↓Aph,↓Aqd,↓Ap3,↓Apw,↓Api,↓Aqe,↓Ap4,↓Apx,↓Apj,↓Aqf,↓Ap5,↓Apy,↓Apk,↓Aqg,↓Ap6,↓Apz,↓Apl,↓Aqh,↓Ap7,↓Ap0,↓Apm,↓Aqi,↓Ap8,↓Ap1,↓Apn,↓Aqj,↓Ap9,↓Apo,↓Aqk,↓Aqa,↓App,↓Aql,↓Aqb,↓Apq,↓Ag8,Avf,Av7,Abm,Ab0,↓Abv,↓Xx,↓Xz,↓Xt,↓Zp,↓Xq,↓Gh,↓Lo,↓Xr,↓Tb,↓Ph,↓V5,↓Xd,↓Aa2,↓Xn,↓Agy,↓Um,Aur,Awr,Aud,Awe,Avi,At5,Avm,List.replicate,List.set_cons_zero,List.set_cons_succ,Nat.reduceAdd,Nat.reduceSub,Nat.zero_add,true_and,Bv,C1,Tn,Bl,C0,Lx,Gw,decide_true,decide_false,Lu,Hs,Av5,Avc,Auk,_root_.id,Um,Abx,Pr,Ey,Bf,Bx,Aw,Bg,Am,Dq,Bool.and_self,Bool.and_true,Bool.true_and,Mk.pure,Mark.pure,Es,C3,↓Pe,↓Pf,↓V4,↓Abq,Aqs,↓Me,↓Md,↓Mc,↓Mf,Int.reduceEq,Int.reduceLT,Int.reduceLE,Int.reduceAdd,Int.reduceSub,Int.reduceMul,Int.reduceToNat,Int.reducePow,Int.reduceNeg,Int.reduceMod,Int.reduceDiv,Nat.reduceLeDiff,Nat.reduceMul,Nat.reduceEqDiff,Nat.reducePow,Nat.reduceLT,and_true,and_self,true_or,or_true,At3,Int.le_refl,Auw,↓Ma,↓L9,↓L8,↓Mb,Rv,Au3,Bool.true_eq_false,Ij,Zh,P4,Mark.deq,Mk.deq,Int.zero_add,↓Zi,↓Zj,↓Zk,↓Zl,Avd,List.any_nil,Ave,List.all_nil,Bool.false_or,Bool.true_or,Awm,Bool.false_and,↓Pg,↓Mi,↓Mh,↓Mg,↓Mj,Ze,Mq,Iq,E4,↓Aab,↓Aac,↓Aad,↓Zz,Option.isNone_none,Option.isNone_some,Awg,Av3,Ez,Lw,bne_self_eq_false,↓Ahc,↓Xi,$a,*]))
set_option hygiene false in
local macro_rules|`(tactic| array_get_dec)=>`(tactic| try simp_arith[true_and])
theorem P0 (ns:List Int) (hl:ns.length<=63) (k:Int) (hk:0<=k) (hk2:k < 100000):W (Hz [.kl (ns.map .int),.int k]) fun d=>∃ c,d=.int c:=by
 unfold Hz Ah9
 rw[A3]
 array_get_dec
 refine cK.dec (fun h=>⟨_,rfl⟩) fun h=>?_
 have hm:=Int.emod_nonneg k (b:=(ns.length:Int)) (by lia)
 have hm2:=Int.emod_lt_of_pos k (b:=(ns.length:Int)) (by lia)
 refine⟨by lia,Ul hm (by simpa using hm2) fun d _ hd=>?_⟩
 obtain⟨c,_,rfl⟩:=List.mem_map.mp hd
 array_get_dec
 exact⟨⟨by lia,by lia⟩,_,rfl⟩
def InR (vs sz:List Int):Prop:=vs.length=sz.length/\∀ (i:Nat) (v z:Int),vs[i]?=some v->sz[i]?=some z->0<=v/\v < z
theorem Hh (c:Int) (sz:List Int) (hn:sz.length<=60) (hp:∀ z∈sz,0 < z/\z < 1000):W (G4 [.int c,.lst (sz.map .int)]) fun d=>∃ vs:List Int,d=.lst (vs.map .int)/\InR vs sz:=by
 unfold G4 Ah0
 rw[A3]
 array_get_dec
 refine⟨⟨by lia,by lia⟩,Jt (fun k e m=>∃ (vs:List Int) (g:Int) (u v:Option D),m=[.lst (vs.map .int)]/\e=[some (.int c),some (.lst (sz.map .int)),some (.ref 0),some (.int g),u,v]/\vs.length=k/\∀ (i:Nat) (v z:Int),vs[i]?=some v->sz[i]?=some z->0<=v/\v < z) ?_ ?_ ⟨[],_,_,_,rfl,rfl,rfl,fun i v z h=>by cases h⟩⟩
 ·rintro k e m hk ⟨vs,g,u,v,rfl,rfl,hv,hr⟩
  refine⟨trivial,?_⟩
  have hk':k < sz.length:=by simpa using hk
  have hz:=hp _ (Auz hk')
  have b1:=Int.emod_nonneg c (b:=1000003) (by decide)
  have b2:=Int.emod_lt_of_pos c (b:=1000003) (by decide)
  have app:∀ (w g':Int) {u v:Option D},0<=w->w < sz[k]->vs.length < 1000000/\∃ (vs_1:List Int) (g:Int) (u_1 v_1:Option D),[MObj.lst (vs.map D.int++[D.int w])]=[MObj.lst (vs_1.map D.int)]/\[some (D.int c),some (D.lst (sz.map D.int)),some (D.ref 0),some (D.int g'),u,v]=[some (D.int c),some (D.lst (sz.map D.int)),some (D.ref 0),some (D.int g),u_1,v_1]/\vs_1.length=k+1/\∀ (i:Nat) (v z:Int),vs_1[i]?=some v->sz[i]?=some z->0<=v/\v < z:=fun w g' u v h1 h2=>by
   refine⟨by lia,vs++[w],g',u,v,by simp,rfl,by simp[hv],fun i x z hx hz=>?_⟩
   by_cases hi:i < vs.length
   ·rw[Aun hi] at hx
    exact hr i x z hx hz
   ·have hi2:=(List.getElem?_eq_some_iff.mp hx).1
    rw[Aui,Avq] at hi2
    have e:i=vs.length:=by lia
    subst e
    rw[Auy (At3 _)] at hx
    simp at hx
    subst hx
    rw[hv,Atx hk'] at hz
    cases hz
    exact⟨h1,h2⟩
  simp_arith[Dw hk']
  refine⟨.inl ⟨by lia,by lia⟩,.inr ⟨by lia,by lia⟩,cK.dec (fun _=>⟨hz.1,?_⟩) fun _=>⟨hz.1,?_⟩⟩
  ·obtain⟨a1,a2⟩:=app (g % sz[k]) (g / sz[k]) (Int.emod_nonneg _ (by lia)) (Int.emod_lt_of_pos _ hz.1)
   exact⟨a1,⟨hz.1,by lia⟩,a2⟩
  ·obtain⟨a1,a2⟩:=app _ (g / sz[k]) (Int.emod_nonneg _ (by lia)) (Int.emod_lt_of_pos _ hz.1)
   exact⟨a1,⟨hz.1,by lia⟩,a2⟩
 ·rintro e m ⟨vs,g,u,v,rfl,rfl,hv,hr⟩
  refine⟨trivial,?_⟩
  simp_arith[Ab fun _=>Bf]
  exact⟨vs,rfl,by lia,hr⟩
theorem Ak8 {α:Type}{x y z w v:α}{l:List α}{Q:α->Prop}:W (atI (x::y::z::w::v::l) 4) Q=Q v:=by
 rw[show atI (x::y::z::w::v::l) 4=some v by unfold atI ixN;rw[At4 (by decide),At4 (by simp<;>lia)];rfl,Ac]
theorem Ak9 {α:Type}{x y z w v u:α}{l:List α}{Q:α->Prop}:W (atI (x::y::z::w::v::u::l) 5) Q=Q u:=by
 rw[show atI (x::y::z::w::v::u::l) 5=some u by unfold atI ixN;rw[At4 (by decide),At4 (by simp<;>lia)];rfl,Ac]
theorem six {vs:List Int} (h:InR vs [3,3,4,4,7,7]):∃ a b c d e f:Int,vs=[a,b,c,d,e,f]/\(0<=d/\d < 4)/\(0<=e/\e < 7)/\(0<=f/\f < 7)/\0<=a/\0<=b/\0<=c:=by
 obtain⟨hl,h⟩:=h
 match vs,hl with
 |[a,b,c,d,e,f],_=>exact⟨a,b,c,d,e,f,rfl,h 3 d 4 rfl rfl,h 4 e 7 rfl rfl,h 5 f 7 rfl rfl,(h 0 a 3 rfl rfl).1,(h 1 b 3 rfl rfl).1,(h 2 c 4 rfl rfl).1⟩
theorem Al8 {d:D} (h:d∈[D.int 0,D.int 1,D.int 10,D.str (Str.ofString "a"),D.str (Str.ofString "ab"),D.str (Str.ofString "b"),D.str (Str.ofString "zz")]):∃ m:Mark,d=m.d/\m.pos:=by
 simp only[Aup,Auf,or_false] at h
 rcases h with rfl|rfl|rfl|rfl|rfl|rfl|rfl
 ·exact⟨.n 0,rfl,by simp[Mark.pos]⟩
 ·exact⟨.n 1,rfl,by simp[Mark.pos]⟩
 ·exact⟨.n 10,rfl,by simp[Mark.pos]⟩
 ·exact⟨.s _,rfl,trivial⟩
 ·exact⟨.s _,rfl,trivial⟩
 ·exact⟨.s _,rfl,trivial⟩
 ·exact⟨.s _,rfl,trivial⟩
theorem T4 (vs:List Int) (h:InR vs [3,3,4,4,7,7]):W (J0 [.lst (vs.map .int)]) fun d=>∃ y:Mk,d=y.d/\y.ms.length<=2/\Pos y:=by
 obtain⟨a,b,c,g,e,f,rfl,hg,he,hf,pa,pb,pc⟩:=six h
 unfold J0 Aia
 rw[A3]
 simp_arith[Ak8,Ak9]
 refine Ul hg.1 (by simpa using hg.2) fun d _ hd=>?_
 obtain⟨n,rfl⟩:∃ n:Int,d=.int n:=by
  simp only[Aup,Auf,or_false] at hd
  rcases hd with rfl|rfl|rfl|rfl<;>exact⟨_,rfl⟩
 have fin:∀ t:Int,0<=t->W (atI [D.int 0,D.int 1,D.int 10,D.str (Str.ofString "a"),D.str (Str.ofString "ab"),D.str (Str.ofString "b"),D.str (Str.ofString "zz")] e) fun x=>W (atI [D.int 0,D.int 1,D.int 10,D.str (Str.ofString "a"),D.str (Str.ofString "ab"),D.str (Str.ofString "b"),D.str (Str.ofString "zz")] f) fun x_1=>W (Bt [] (D.tup [D.int t,D.int b,D.int c,D.tup (Dz [x,x_1] none (some n))])) fun d=>∃ y:Mk,d=y.d/\y.ms.length<=2/\Pos y:=fun t ht=>by
  refine Ul he.1 (by simpa using he.2) fun d1 _ hd1=>Ul hf.1 (by simpa using hf.2) fun d2 _ hd2=>?_
  obtain⟨m1,rfl,q1⟩:=Al8 hd1
  obtain⟨m2,rfl,q2⟩:=Al8 hd2
  have ec:Dz [m1.d,m2.d] none (some n)=(Dz [m1,m2] none (some n)).map Mark.d:=Lw (xs:=[m1,m2]) (f:=Mark.d)
  rw[ec]
  array_get_dec
  exact⟨⟨t,b,c,Dz [m1,m2] none (some n)⟩,rfl,Yh (xs:=[m1,m2]),ht,pb,pc,fun m hm=>by
   have:=Ahi hm
   simp only[Aup,Auf,or_false] at this
   rcases this with rfl|rfl
   ·exact q1
   ·exact q2⟩
 simp_arith[Ak8,Ak9]
 exact cK.dec (fun _=>fin _ (by split<;>lia)) fun _=>fin _ (by lia)
theorem Acv (x:Mk) (hx:x.ms.length<=1000) {Q:D->Prop}:W (H4 [x.d]) Q=Q x.next.d:=W.eq <| by
 unfold H4 Aib
 rw[A3]
 unfold Mk.d
 array_get_dec
 refine cK.dec (fun h=>?_) fun h=>⟨by lia,?_⟩
 ·unfold Mk.next;rw[At4 h];rfl
 ·unfold Mk.next;rw[At8 h];simp;rfl
def Aa6 (p:Pc):Prop:=p.1.ms.length<=1000/\∀ h,p.2=some h->h.ms.length<=1000
def V0 (ps:List Pc):Prop:=ps.Pairwise fun p q=>p.1.older q.1=true/\∃ h,p.2=some h/\h.older q.1=true
structure Sp (ps:List Pc):Prop where
 ok:V0 ps
 sm:∀ p∈ps,Aa6 p
 len:ps.length<=2
theorem Ac1 (x:Mk):x.next.ms.length<=x.ms.length+1:=by
 unfold Mk.next;split<;>simp
theorem sp1 {x:Mk} (hx:x.ms.length<=100):Sp [(x,none)]:=⟨Avb ..,fun p hp=>by rw[List.mem_singleton.mp hp];exact⟨by show x.ms.length<=_;lia,fun h e=>nomatch e⟩,by simp⟩
theorem sp2 {x y:Mk} (hx:x.ms.length<=100) (hy:y.ms.length<=200):Sp [(x,some y)]:=⟨Avb ..,fun p hp=>by rw[List.mem_singleton.mp hp];exact⟨by show x.ms.length<=_;lia,fun h e=>by cases e;lia⟩,by simp⟩
theorem Ack (x:Mk):W (N3 [x.d]) fun d=>∃ y:Mk,d=y.d/\y.ms.length<=1:=by
 unfold N3 Ah1
 rw[A3]
 array_get_dec
 exact cK.dec (fun _=>⟨⟨x.a+1,0,0,[.n 0]⟩,rfl,by simp⟩) fun _=>cK.dec (fun _=>⟨⟨0,x.b+1,0,[.n 0]⟩,rfl,by simp⟩) fun _=>⟨⟨0,0,x.c+1,[.n 0]⟩,rfl,by simp⟩
theorem Oh (w:Int) (x:Mk) (hx:x.ms.length<=100) (px:Pos x):W (Yq [.int w,x.d]) fun d=>∃ ps:List Pc,d=.tup (ps.map pD)/\Sp ps:=by
 unfold Yq Aqy
 rw[A3]
 have nl:=Ac1 x
 simp_arith[Acv x (by lia)]
 refine cK.dec (fun _=>⟨[(x,none)],rfl,sp1 hx⟩) fun _=>cK.dec (fun _=>(Ack x).imp fun d ⟨y,e,hy⟩=>?_) fun _=>cK.dec (fun _=>⟨[(x,some ⟨x.a,x.b+1,0,[.n 0]⟩)],rfl,sp2 hx (by simp)⟩) fun _=>cK.dec (fun _=>⟨[(x,some x.next)],rfl,sp2 hx (by lia)⟩) fun _=>cK.dec (fun _=>⟨[(⟨0,0,0,[.n 0]⟩,none)],rfl,sp1 (by simp)⟩) fun _=>cK.dec (fun _=>?_) fun _=>⟨[(⟨0,0,0,[.n 0]⟩,some x.next)],rfl,sp2 (by simp) (by lia)⟩
 ·subst e
  array_get_dec
  exact⟨[(x,some y)],rfl,sp2 hx (by lia)⟩
 ·have eo:deq x.d (.tup [.int 0,.int 0,.int 0,.tup [.int 0]])=decide (x=old0):=Mk.deq x old0
  refine cK.mk (fun h=>⟨[(⟨0,0,0,[.n 0]⟩,some x),(x.next,none)],rfl,?_⟩) fun _=>⟨[(⟨0,0,0,[.n 0]⟩,some x.next)],rfl,sp2 (by simp) (by lia)⟩
  have hne:x≠old0:=fun z=>by subst z;rw[eo] at h;simp at h
  have ho:old0.older x=true:=by rw[Io (fun z=>hne z.symm),Ol px.a px.b px.c px.ms];rfl
  refine⟨List.pairwise_cons.mpr ⟨fun q hq=>?_,Avb ..⟩,fun p hp=>?_,by simp⟩
  ·rw[List.mem_singleton.mp hq]
   exact⟨By ho (J4 x),x,rfl,J4 x⟩
  ·simp only[Aup,Auf,or_false] at hp
   rcases hp with rfl|rfl
   ·exact⟨by simp,fun h e=>by cases e;lia⟩
   ·exact⟨by show x.next.ms.length<=_;lia,fun h e=>nomatch e⟩
noncomputable def titles:List Str:=[Str.ofString "a",Str.ofString "ab",Str.ofString "abc",Str.ofString "b",Str.ofString "part",Str.ofString "need",Str.ofString "zz",Str.ofString "abcdefgh"]
theorem Nh (k:Int) (h0:0<=k) (h1:k < 8):W (Hy [.int k]) fun d=>∃ t:Str,d=.str t/\t∈titles:=by
 unfold Hy Ah2
 rw[A3]
 array_get_dec
 refine Ul h0 (by simpa using h1) fun d _ hd=>?_
 simp only[Aup,Auf,or_false] at hd
 rcases hd with rfl|rfl|rfl|rfl|rfl|rfl|rfl|rfl<;>array_get_dec<;>exact⟨_,rfl,by simp[titles]⟩
abbrev Nd:=Str×List Pc
def nD (n:Nd):D:=.tup [.str n.1,.tup (n.2.map pD)]
theorem Bs (n:Nd):A2 (nD n)=true:=by
 unfold nD
 rw[Aw,Am,Am,Bg,Bx,Aw,E4];rfl
theorem Lh {vs sz:List Int} (h:InR vs sz) (lo hi:Option Int):InR (Dz vs lo hi) (Dz sz lo hi):=by
 obtain⟨hl,h⟩:=h
 unfold Dz
 rw[hl]
 refine⟨by rw[Ava,Ava,Awc,Awc,hl],fun i v z hv hz=>?_⟩
 have h1:=(List.getElem?_eq_some_iff.mp hv).1
 rw[Ava] at h1
 rw[List.getElem?_take_of_lt (by lia),List.getElem?_drop] at hv hz
 exact h _ v z hv hz
theorem Te {x:D} (hx:A2 x=true) (hd:dep x<=50) {z:List D} (hz:Au z=true) {m:MH}{Q:D->Prop}:W (D3 x (.lst z) m) Q=Q (.bl !(z.any fun d=>deq d x)):=by
 have e1:Ci m x=some x:=C6 hx
 have e2:Ci m (.lst z)=some (.lst z):=by
  unfold Ci
  simp only
  rw[At4 (by rw[Bm];exact hz)]
 have e:D3 x (.lst z) m=some (.bl !(z.any fun d=>deq d x)):=by
  unfold D3 inO
  simp only[e1,e2,Auk]
  rw[show sq [] (D.lst z)=some z from rfl]
  simp only[Auk]
  rw[At4 hd]
  rfl
 rw[e,Ac]
theorem Abu {t:Str}{z:List D} (hz:Au z=true) {m:MH}{Q:D->Prop}:W (D3 (.str t) (.lst z) m) Q=Q (.bl !(z.any fun d=>deq d (.str t))):=Te Bx (by rw[C0];lia) hz
abbrev P8:List Int:=[8,7,3,3,4,4,7,7]
theorem Arp {n k:Nat} (hn:n<=4) (hk:k < n):(Ge P8 n)[8 * k]?=some 8/\(Ge P8 n)[8 * k+1]?=some 7/\Dz (Ge P8 n) (some ((8 * k+2:Nat):Int)) (some ((8 * k+8:Nat):Int))=[3,3,4,4,7,7]:=by
 have:(n=1/\k=0)\/(n=2/\k=0)\/(n=2/\k=1)\/(n=3/\k=0)\/(n=3/\k=1)\/(n=3/\k=2)\/(n=4/\k=0)\/(n=4/\k=1)\/(n=4/\k=2)\/(n=4/\k=3):=by lia
 rcases this with ⟨rfl,rfl⟩|⟨rfl,rfl⟩|⟨rfl,rfl⟩|⟨rfl,rfl⟩|⟨rfl,rfl⟩|⟨rfl,rfl⟩|⟨rfl,rfl⟩|⟨rfl,rfl⟩|⟨rfl,rfl⟩|⟨rfl,rfl⟩<;>decide
theorem T6 (ow:Str) (vs:List Int) (n:Nat) (hn:n<=4) (h:InR vs (Ge P8 n)):W (Jz [.str ow,.lst (vs.map .int)]) fun d=>∃ ns:List Nd,d=.tup (ns.map nD)/\(∀ n∈ns,Sp n.2)/\ns.length<=4:=by
 have hlen:vs.length=8 * n:=by rw[h.1,Ja];rfl
 unfold Jz Ah3
 rw[A3]
 array_get_dec
 refine⟨⟨by lia,by lia⟩,Jt (fun k e m=>∃ (ns:List Nd) (u v:Option D),m=[.lst (ns.map nD)]/\e=[some (.str ow),some (.lst (vs.map .int)),some (.ref 0),u,v]/\ns.length<=k/\∀ n∈ns,Sp n.2) ?_ ?_ ⟨[],_,_,rfl,rfl,At3 _,fun _ h=>absurd h (by simp)⟩⟩
 ·rintro k e m hk ⟨ns,u,v,rfl,rfl,hns,hsp⟩
  refine⟨trivial,?_⟩
  have hk':k < n:=by lia
  obtain⟨p0,p1,p2⟩:=Arp hn hk'
  have i0:8 * k < vs.length:=by lia
  have i1:8 * k+1 < vs.length:=by lia
  have b0:=h.2 (8 * k) vs[8 * k] 8 (Atx i0) p0
  have e0:(8:Int) * (k:Int)=((8 * k:Nat):Int):=by lia
  have e1:((8 * k:Nat):Int)+1=((8 * k+1:Nat):Int):=by lia
  have e2:((8 * k:Nat):Int)+2=((8 * k+2:Nat):Int):=by lia
  have e8:((8 * k:Nat):Int)+8=((8 * k+8:Nat):Int):=by lia
  simp_arith[e0,e1,e2,e8,Dw i0,Dw i1]
  refine (Nh _ b0.1 b0.2).imp fun d ⟨t,e,ht⟩=>?_
  subst e
  simp_arith[e0,e1,e2,e8,Dw i0,Dw i1]
  have stay:∃ (ns_1:List Nd) (u v:Option D),[MObj.lst (ns.map nD)]=[MObj.lst (ns_1.map nD)]/\[some (D.str ow),some (D.lst (vs.map D.int)),some (D.ref 0),some (D.int k),some (D.str t)]=[some (D.str ow),some (D.lst (vs.map D.int)),some (D.ref 0),u,v]/\ns_1.length<=k+1/\∀ n∈ns_1,Sp n.2:=⟨ns,_,_,rfl,rfl,by lia,hsp⟩
  refine cK.mk (fun _=>⟨by lia,Bu (fun n=>.str n.1) (fun n hn=>?_) ?_⟩) fun _=>stay
  ·unfold nD
   array_get_dec
  rw[Abu (A7 (Ab fun _=>Bx))]
  array_get_dec
  refine cK.mk (fun _=>(T4 _ (by rw[<- p2];exact Lh h _ _)).imp fun d ⟨y,e,hy,py⟩=>?_) fun _=>stay
  subst e
  array_get_dec
  refine (Oh _ y (by lia) py).imp fun d ⟨ps,e,hps⟩=>?_
  subst e
  refine⟨by lia,ns++[(t,ps)],_,_,by simp[nD],rfl,by simp;lia,fun n hn=>?_⟩
  rcases List.mem_append.mp hn with h|h
  ·exact hsp n h
  ·rw[List.mem_singleton.mp h];exact hps
 ·rintro e m ⟨ns,u,v,rfl,rfl,hns,hsp⟩
  refine⟨trivial,?_⟩
  simp_arith[Ab Bs]
  exact⟨ns,rfl,hsp,by lia⟩
structure En where
 nm:Str
 mv:Mk
 nd:List Nd
structure EnOk (e:En):Prop where
 nm:e.nm∈titles
 ms:e.mv.ms.length<=2
 pos:Pos e.mv
 sp:∀ n∈e.nd,Sp n.2
 len:e.nd.length<=4
def kD (e:En):D:=.tup [.str e.nm,e.mv.d]
def eD (e:En):D:=.tup [.str e.nm,e.mv.d,.tup (e.nd.map nD)]
theorem L4 (e:En):A2 (kD e)=true:=by
 unfold kD
 rw[Aw,Am,Am,Bg,Bx,e.mv.pure];rfl
theorem B7 (e:En):A2 (eD e)=true:=by
 unfold eD
 rw[Aw,Am,Am,Am,Bg,Bx,e.mv.pure,Aw,Ab Bs];rfl
theorem Y4 (e:En):dep (kD e)<=3:=by
 unfold kD
 rw[Cn]
 have:Dj [D.str e.nm,e.mv.d]<=2:=Br fun d hd=>by
  simp only[Aup,Auf,or_false] at hd
  rcases hd with rfl|rfl
  ·rw[C0];lia
  ·exact e.mv.dep
 lia
theorem Ae5 (a b:En):deq (kD a) (kD b)=decide (a.nm=b.nm/\a.mv=b.mv):=by
 unfold kD
 rw[Cc,Cc,D1,C1,Mk.deq]
 by_cases h1:a.nm=b.nm<;>by_cases h2:a.mv=b.mv<;>simp[h1,h2]
theorem Atb {α:Type}{x y z:α}:Dz [x,y,z] none (some 2)=[x,y]:=rfl
abbrev Z32:List Int:=[8,3,3,4,4,7,7,4]++Ge P8 3
theorem Abk {m:Int} (h0:0<=m) (h1:m < 4):Dz Z32 (some 8) (some (8+8 * m))=Ge P8 m.toNat:=by
 have:m=0\/m=1\/m=2\/m=3:=by lia
 rcases this with rfl|rfl|rfl|rfl<;>decide
theorem Ab9 (c:Int):W (N4 [.int c]) fun d=>∃ e:En,d=eD e/\EnOk e:=by
 unfold N4 Ah4
 rw[A3]
 array_get_dec
 refine⟨by decide,by decide,?_⟩
 refine (Hh c Z32 (by decide) (by decide)).imp fun d ⟨vs,e,hv⟩=>?_
 subst e
 have hlen:vs.length=32:=hv.1
 have i0:0 < vs.length:=by lia
 have i7:7 < vs.length:=by lia
 have b0:=hv.2 0 vs[0] 8 (Atx i0) rfl
 have b7:=hv.2 7 vs[7] 4 (Atx i7) rfl
 have c0:(0:Int)=((0:Nat):Int):=rfl
 have w0:∀ {Q:D->Prop},W (atI (vs.map D.int) 0) Q=Q (.int vs[0]):=Dw (k:=0) i0
 have w7:∀ {Q:D->Prop},W (atI (vs.map D.int) 7) Q=Q (.int vs[7]):=Dw (k:=7) i7
 simp_arith[w0,w7,Ab fun _=>Bf]
 refine (Nh _ b0.1 b0.2).imp fun d ⟨t,e,ht⟩=>?_
 subst e
 refine (T4 _ (by have:=Lh hv (some 1) (some 7);rwa [show Dz Z32 (some 1) (some 7)=[3,3,4,4,7,7] by decide] at this)).imp fun d ⟨y,e,hy,py⟩=>?_
 subst e
 array_get_dec
 refine (T6 t _ vs[7].toNat (by lia) (by rw[<- Abk b7.1 b7.2];exact Lh hv _ _)).imp fun d ⟨ns,e,hsp,hln⟩=>?_
 subst e
 simp_arith[Ab Bs]
 exact⟨⟨t,y,ns⟩,rfl,ht,hy,py,hsp,hln⟩
def Dst (a b:En):Prop:=¬ (a.nm=b.nm/\a.mv=b.mv)
structure Sh (es:List En):Prop where
 ok:∀ e∈es,EnOk e
 len:es.length<=40
 dst:es.Pairwise Dst
theorem Ab8 {e:En}{Q:D->Prop}:W (oSl (eD e) none (some 2)) Q=Q (kD e):=by
 unfold eD kD
 rw[Nk,Atb]
theorem J8 (ns:List Int) (hl:ns.length<=63) (f:Int) (hf:0<=f) (hf2:f < 1000) (n:Int) (h0:0<=n) (h1:n<=40) (vd:Option D):W (G0 [some (.kl (ns.map .int)),some (.int f),vd,some (.int n),none,none,none] []) (Aly fun d=>∃ es:List En,d=.tup (es.map eD)/\Sh es):=by
 unfold G0
 array_get_dec
 refine⟨⟨by lia,by lia⟩,Jt (fun k e m=>∃ (es:List En) (u v:Option D),m=[.lst (es.map eD)]/\e=[some (.kl (ns.map .int)),some (.int f),vd,some (.int n),some (.ref 0),u,v]/\(∀ e∈es,EnOk e)/\es.length<=k/\es.Pairwise Dst) ?_ ?_ ⟨[],_,_,rfl,rfl,(fun _ h=>nomatch h),At3 _,.nil⟩⟩
 ·rintro k e m hk ⟨es,u,v,rfl,rfl,h1,h2,h3⟩
  refine⟨trivial,?_⟩
  array_get_dec
  refine (P0 ns hl _ (by lia) (by lia)).imp fun d ⟨c2,e⟩=>?_
  subst e
  array_get_dec
  refine (Ab9 c2).imp fun d ⟨en,e,hen⟩=>?_
  subst e
  simp_arith[Ab8]
  refine⟨by lia,Bu kD (fun e he=>?_) ?_⟩
  ·simp_arith[Ab8]
  rw[Te (L4 en) (by have:=Y4 en;lia) (A7 (Ab L4))]
  array_get_dec
  refine cK.mk (fun h=>⟨by lia,es++[en],_,_,by simp,rfl,fun e he=>?_,by simp;lia,?_⟩) fun _=>⟨es,_,_,rfl,rfl,h1,by lia,h3⟩
  ·rcases List.mem_append.mp he with h'|h'
   ·exact h1 e h'
   ·rw[List.mem_singleton.mp h'];exact hen
  ·refine List.pairwise_append.mpr ⟨h3,Avb ..,fun a ha b hb=>?_⟩
   rw[List.mem_singleton.mp hb]
   intro hab
   have h':((es.map kD).any fun d=>deq d (kD en))=false:=by simpa using h
   have:=List.any_eq_false.mp h' (kD a) (List.mem_map.mpr ⟨a,ha,rfl⟩)
   rw[Ae5,Au7 hab] at this
   exact this rfl
 ·rintro e m ⟨es,u,v,rfl,rfl,h1,h2,h3⟩
  refine⟨trivial,?_⟩
  simp_arith[Ab B7]
  exact⟨es,rfl,h1,by lia,h3⟩
theorem Ad1 (ns:List Int) (hl:ns.length<=63) (f:Int) (hf:0<=f) (hf2:f < 1000):W (N5 [.kl (ns.map .int),.int f]) fun d=>∃ es:List En,d=.tup (es.map eD)/\Sh es:=by
 unfold N5 Ah5
 rw[A3]
 array_get_dec
 refine (P0 ns hl 0 (by decide) (by decide)).imp fun d ⟨c,e⟩=>?_
 subst e
 array_get_dec
 refine⟨by simp[Au,Bm],(Hh c [16,10] (by decide) (by decide)).imp fun d ⟨vs,e,hv⟩=>?_⟩
 subst e
 have hlen:vs.length=2:=hv.1
 have i0:0 < vs.length:=by lia
 have i1:1 < vs.length:=by lia
 have b1:=hv.2 1 vs[1] 10 (Atx i1) rfl
 have w0:∀ {Q:D->Prop},W (atI (vs.map D.int) 0) Q=Q (.int vs[0]):=Dw (k:=0) i0
 have w1:∀ {Q:D->Prop},W (atI (vs.map D.int) 1) Q=Q (.int vs[1]):=Dw (k:=1) i1
 simp_arith[w0,w1,Ab fun _=>Bf]
 exact cK.dec (fun _=>J8 ns hl f hf hf2 40 (by decide) (by decide) _) fun _=>J8 ns hl f hf hf2 vs[1] (by lia) (by lia) _
theorem G6 (m:Mark) {Q:D->Prop}:W (Yr [m.d]) Q=Q m.rk:=W.eq <| by
 unfold Yr Aqz
 rw[A3]
 cases m<;>simp only[Mark.d]<;>array_get_dec<;>rfl
theorem Rw (x:Mk) (h:x.ms.length<=1000) {Q:D->Prop}:W (G5 [x.d]) Q=Q x.rk:=W.eq <| by
 unfold G5 Aif
 rw[A3]
 unfold Mk.d
 array_get_dec
 refine cK.mk (fun h1=>⟨by lia,Bu Mark.rk (fun m hm=>?_) ?_⟩) fun h1=>⟨by lia,Bu Mark.rk (fun m hm=>?_) ?_⟩
 ·simp_arith[G6]
 ·simp_arith[Ab Mark.rk_pure]
  unfold Mk.rk
  rw[At8]
  intro h;rw[h] at h1;simp at h1
 ·simp_arith[G6]
 ·simp_arith[Ab Mark.rk_pure]
  unfold Mk.rk
  rw[At4]
  simpa using h1
theorem Ie (x y:Mk) (hx:x.ms.length<=1000) (hy:y.ms.length<=1000) {Q:D->Prop}:W (Ut [x.d,y.d]) Q=Q (.bl (x.older y)):=W.eq <| by
 unfold Ut Aq1
 rw[A3]
 have d1:=Mk.rk_dep x
 have d2:=Mk.rk_dep y
 simp_arith[Rw x hx,Rw y hy,Mk.rk_pure,Mk.rk_lt,Ac]
 lia
theorem Tx {m l:Mk}:inP m (l,none)=!m.older l:=by simp[inP]
theorem Tz {m l h:Mk}:inP m (l,some h)=(!m.older l&&m.older h):=by simp[inP]
theorem Aby {m:Mk}{ps:List Pc} (h:∀ (i:Nat) (p:Pc),ps[i]?=some p->m.older p.1=true):ps.any (inP m)=false:=by
 rw[List.any_eq_false]
 intro p hp
 obtain⟨i,hi⟩:=Avt hp
 unfold inP
 rw[h i p hi];simp
theorem Alj {m:Mk}{ps:List Pc}{n:Nat} (hn:n < ps.length) (ho:V0 ps) (h1:m.older ps[n].1=false) (h2:∀ (i:Nat) (p:Pc),n < i->ps[i]?=some p->m.older p.1=true):ps.any (inP m)=inP m ps[n]:=by
 rw[Avr,List.any_eq_true]
 constructor
 ·rintro ⟨p,hp,h⟩
  obtain⟨i,hi⟩:=Avt hp
  obtain⟨hl,he⟩:=List.getElem?_eq_some_iff.mp hi
  rcases Nat.lt_trichotomy i n with h3|h3|h3
  ·obtain⟨_,z,hz,h4⟩:=List.pairwise_iff_getElem.mp ho i n hl hn h3
   rw[he] at hz
   unfold inP at h
   rw[hz,Aua] at h
   have h5:=By h.2 h4
   rw[h1] at h5;cases h5
  ·subst h3;rw[he];exact h
  ·unfold inP at h
   rw[h2 i p h3 hi] at h;simp at h
 ·exact fun h=>⟨_,Auz hn,h⟩
theorem Aio (m:Mk) (ps:List Pc) (hm:m.ms.length<=1000) (hp:∀ p∈ps,Aa6 p) (hl:ps.length<=900) (ho:V0 ps) {Q:D->Prop}:W (Ny [m.d,.tup (ps.map pD)]) Q=Q (.bl (ps.any (inP m))):=W.eq <| by
 unfold Ny Ahu
 rw[A3]
 array_get_dec
 refine Px (fun k e w=>∃ (f b:Nat) (u v:Option D),k=b - f/\f<=b/\b<=ps.length/\w=[]/\e=[some m.d,some (.tup (ps.map pD)),some (.int f),some (.int b),u,v]/\(∀ (i:Nat) (p:Pc),i < f->ps[i]?=some p->m.older p.1=false)/\∀ (i:Nat) (p:Pc),b<=i->ps[i]?=some p->m.older p.1=true) ?_ (k:=ps.length) (by lia) ⟨0,ps.length,_,_,rfl,Auw _,At3 _,rfl,rfl,fun i p h=>absurd h (Nat.not_lt_zero _),fun i p h e=>by rw[Aus h] at e;cases e⟩
 rintro k e w ⟨f,b,u,v,rfl,hfb,hbl,rfl,rfl,h1,h2⟩
 array_get_dec
 refine cK.dec (fun h3=>?_) fun h3=>?_
 ·have h3:f < b:=by lia
  have hmid:(f+b) / 2 < ps.length:=by lia
  have e2:((f:Int)+b) / 2=(((f+b) / 2:Nat):Int):=by lia
  have hs:=hp _ (Auz hmid)
  simp_arith[e2,Dw hmid,Ie m ps[(f+b) / 2].1 hm hs.1]
  refine cK.mk (fun h4=>⟨_,?_,f,(f+b) / 2,_,_,rfl,by lia,by lia,rfl,h1,fun i p hi hq=>?_⟩) fun h4=>⟨_,?_,(f+b) / 2+1,b,_,_,rfl,by lia,hbl,rfl,fun i p hi hq=>?_,h2⟩
  ·lia
  ·obtain⟨hl',he⟩:=List.getElem?_eq_some_iff.mp hq
   rcases Nat.eq_or_lt_of_le hi with h5|h5
   ·subst h5;rw[<- he];exact h4
   ·have h6:=(List.pairwise_iff_getElem.mp ho _ i hmid hl' h5).1
    rw[he] at h6
    exact By h4 h6
  ·lia
  ·obtain⟨hl',he⟩:=List.getElem?_eq_some_iff.mp hq
   rcases Nat.lt_succ_iff_lt_or_eq.mp hi with h5|h5
   ·have h6:=(List.pairwise_iff_getElem.mp ho i _ hl' hmid h5).1
    rw[he] at h6
    cases h7:m.older p.1 with
    |false=>rfl
    |true=>have h8:=By h7 h6;rw[h4] at h8;cases h8
   ·subst h5;rw[<- he];exact h4
 ·have hfe:f=b:=by lia
  subst hfe
  array_get_dec
  refine cK.dec (fun h5=>?_) fun h5=>?_
  ·have h5:f=0:=by lia
   subst h5
   rw[Aby fun i p hq=>h2 i p (Auw _) hq]
  ·have hf:f - 1 < ps.length:=by lia
   have e3:(f:Int) - 1=((f - 1:Nat):Int):=by lia
   have h6:m.older ps[f - 1].1=false:=h1 (f - 1) _ (by lia) (Atx hf)
   have h7:=Alj hf ho h6 fun i p hi hq=>h2 i p (by lia) hq
   have hs:=hp _ (Auz hf)
   simp_arith[e3,Dw hf]
   rw[h7]
   generalize ps[f - 1]=q at h6 hs
   obtain⟨l,h⟩:=q
   cases h with
   |none =>
    simp_arith[Tx,h6]
   |some h =>
    have e2:=@Ie m h hm (hs.2 h rfl)
    simp_arith[Tz,h6]
    simp only[oD]
    simp_arith[e2]
def rk2 (x:Mk):D:=.tup [.int x.a,.int x.b,.int x.c,.int (if x.ms=[] then 1 else 0),.lst (x.ms.map Mark.rk)]
theorem Ue (x y:Mk):ltD (rk2 x) (rk2 y)=some (x.older y):=by
 have h1:deq (.lst (x.ms.map Mark.rk)) (.lst (y.ms.map Mark.rk))=deq (.tup (x.ms.map Mark.rk)) (.tup (y.ms.map Mark.rk)):=by rw[To Mark.rk_deq,Ly Mark.rk_deq]
 have h2:ltD (.lst (x.ms.map Mark.rk)) (.lst (y.ms.map Mark.rk))=ltD (.tup (x.ms.map Mark.rk)) (.tup (y.ms.map Mark.rk)):=by rw[ltD,ltD]
 rw[<- Mk.rk_lt]
 unfold rk2 Mk.rk
 rw[Ml,Ml]
 simp only[Gc,h1,h2]
theorem Aqq {ds:List D}{m:MH}{Q:D->Prop}:W (Bt m (.tup ds)) Q=W (Cz m ds) fun es=>Q (.tup es):=by
 rw[Bt,W_bind];congr 1;funext es;exact Ac
theorem Ih (x:Mk) (hx:x.ms.length<=1000) {Q:D->Prop}:W (Ee [x.d]) Q=Q (rk2 x):=W.eq <| by
 unfold Ee Aig
 rw[A3]
 array_get_dec
 refine Cv (fun rest e m=>∃ dn v,dn++rest=x.ms/\m=[.lst (dn.map Mark.rk)]/\e=[some x.d,some (.ref 0),v]) ?_ ?_ ⟨[],_,rfl,rfl,rfl⟩
 ·rintro w rest e m ⟨dn,v,hd,rfl,rfl⟩
  refine⟨trivial,?_⟩
  have ld:dn.length < x.ms.length:=by rw[<- hd];simp
  cases w with
  |n i =>
   simp only[Mark.d]
   array_get_dec
   exact⟨by lia,dn++[.n i],_,by rw[<- hd];simp,by simp[Mark.rk],rfl⟩
  |s t =>
   simp only[Mark.d]
   array_get_dec
   exact⟨by lia,dn++[.s t],_,by rw[<- hd];simp,by simp[Mark.rk],rfl⟩
 ·rintro e m ⟨dn,v,hd,rfl,rfl⟩
  refine⟨trivial,?_⟩
  rw[Aue] at hd
  subst hd
  array_get_dec
  rw[Aqq]
  simp_arith[Ab Mark.rk_pure]
  unfold rk2
  by_cases h:x.ms=[]<;>simp[h]
theorem Aa3 (x:Mk):Bm (rk2 x)=true:=by
 unfold rk2
 have:Au (x.ms.map Mark.rk)=true:=A7 (Ab Mark.rk_pure)
 simp[Bm,Au,this]
theorem Ry (x:Mk):dep (rk2 x)<=3:=by
 unfold rk2
 rw[Cn]
 have h1:Dj (x.ms.map Mark.rk)<=1:=Br fun d hd=>by
  obtain⟨m,_,rfl⟩:=List.mem_map.mp hd
  exact Mark.rk_dep m
 have:Dj [D.int x.a,D.int x.b,D.int x.c,D.int (if x.ms=[] then 1 else 0),D.lst (x.ms.map Mark.rk)]<=2:=Br fun d hd=>by
  simp only[Aup,Auf,or_false] at hd
  rcases hd with rfl|rfl|rfl|rfl|rfl
  ·rw[Bl];lia
  ·rw[Bl];lia
  ·rw[Bl];lia
  ·rw[Bl];lia
  ·rw[dep];lia
 lia
theorem Ag0 {x:Mk}{m:MH}{Q:D->Prop}:W (Ci m (rk2 x)) Q=Q (rk2 x):=by
 have e:Ci m (rk2 x)=some (rk2 x):=by
  have h:=Aa3 x
  unfold rk2 at h ⊢
  unfold Ci
  simp only
  rw[At4 h]
 rw[e,Ac]
theorem Acu (m:Mk) (ps:List Pc) (hm:m.ms.length<=1000) (hp:∀ p∈ps,Aa6 p) {Q:D->Prop}:W (N9 [m.d,.tup (ps.map pD)]) Q=Q (.bl (ps.any (inP m))):=W.eq <| by
 unfold N9 Aic
 rw[A3]
 array_get_dec
 refine Cv (fun rest e w=>w=[]/\(∀ p∈rest,Aa6 p)/\rest.any (inP m)=ps.any (inP m)/\∃ v w,e=[some m.d,some (.tup (ps.map pD)),v,w]) ?_ ?_ ⟨rfl,hp,rfl,_,_,rfl⟩
 ·rintro ⟨l,h⟩ rest e w ⟨rfl,hs,ha,v,w,rfl⟩
  refine⟨trivial,?_⟩
  have s1:=hs _ (At0 ..)
  have s2:∀ p∈rest,Aa6 p:=fun p hp=>hs p (Atz _ hp)
  rw[Avd] at ha
  have d1:=Ry m
  have d2:=Ry l
  have yes:inP m (l,h)=true->D.bl true=D.bl (ps.any (inP m)):=fun z=>by rw[<- ha,z];rfl
  have no:inP m (l,h)=false->rest.any (inP m)=ps.any (inP m):=fun z=>by rw[<- ha,z];rfl
  cases h with
  |none =>
   simp_arith[Ih m hm,Ih l s1.1,Ag0,Ue,Ac]
   rw[Tx] at yes no
   refine⟨by lia,?_⟩
   exact cK.mk (fun z=>yes z) fun z=>⟨s2,no z,_,_,rfl⟩
  |some h =>
   have d3:=Ry h
   simp_arith[Ih m hm,Ih l s1.1,Ag0,Ue,Ac]
   simp only[oD]
   simp_arith[Ih m hm,Ih h (s1.2 h rfl),Ag0,Ue,Ac]
   rw[Tz] at yes no
   refine⟨by lia,cK.mk (fun z=>⟨by lia,cK.mk (fun z'=>yes (by rw[z,z'];rfl)) fun z'=>⟨s2,no (by rw[z,z'];rfl),_,_,rfl⟩⟩) fun z=>⟨s2,no (by rw[z];rfl),_,_,rfl⟩⟩
 ·rintro e w ⟨rfl,hs,ha,v,w,rfl⟩
  refine⟨trivial,?_⟩
  array_get_dec
  rw[<- ha];rfl
end K44a
end S_YA
section S_YC
namespace K44a
open PySem L2 L2.ML
set_option hygiene false in
local macro_rules|`(tactic| simp_arith[$a,*])=>`(tactic| ((try dsimp only[mp1,mp2,mp3,ln1,ln2,ln3,List.replicate,Nat.reduceAdd,Nat.reduceSub]);simp only[↓Ahf,↓Ahe,↓Ra,↓P9,↓A3,↓R4,↓R5,↓R0,↓R3,↓Xw,↓Xu,↓Xv,↓Pq,↓Abm,↓Ab0,↓Ag1,↓Apu,↓Apt,↓Aps,↓Xh,↓Pp,↓Pl,↓Lm,↓Agp,↓Xa,↓Xf,↓Ln,↓Hq,↓Agl,↓Tc,↓X1,↓X3,↓X2,↓V7,↓Agr,↓Xb,↓Pk,↓Xc,↓Pn,↓Ago,↓Ags,↓Agq,↓Po,↓Agm,↓Nk,↓Xe,↓Akc,↓Aa5,↓V8,↓V9,↓Td,↓Pm,↓Dx,↓Dk,↓V2,↓V3,↓X0,↓Xp,↓V6,↓Xo,↓Agz,↓Agt,↓Apr,↓Ap2,↓Eu,↓Agw,↓Agv,↓Agx,↓Xm,↓Xk,↓Xj,↓Xl,↓Xy,↓Agu,↓Ll,↓Gj,↓Gi,↓Pt,↓Lp,↓Pv,↓Pu,↓Ag4,↓Ag6,↓Ag7,↓Ag5,↓Gf,↓Gg,↓De,↓Dy,↓Ag9,↓Aha,↓Ahb,↓X6,↓X5,↓X4,↓Aso,↓Asm,↓Asn,↓Pw,↓Aj8,↓Xs,↓Nb,↓Na,↓M9,↓Nc,↓Gm,↓Aqc,↓Aph,↓Aqd,↓Ap3,↓Apw,↓Api,↓Aqe,↓Ap4,↓Apx,↓Apj,↓Aqf,↓Ap5,↓Apy,↓Apk,↓Aqg,↓Ap6,↓Apz,↓Apl,↓Aqh,↓Ap7,↓Ap0,↓Apm,↓Aqi,↓Ap8,↓Ap1,↓Apn,↓Aqj,↓Ap9,↓Apo,↓Aqk,↓Aqa,↓App,↓Aql,↓Aqb,↓Apq,↓Ag8,Avf,Av7,Abm,Ab0,↓Abv,↓Xx,↓Xz,↓Xt,↓Zp,↓Xq,↓Gh,↓Lo,↓Xr,↓Tb,↓Ph,↓V5,↓Xd,↓Aa2,↓Xn,↓Agy,↓Um,Aur,Awr,Aud,Awe,Avi,At5,Avm,List.replicate,List.set_cons_zero,List.set_cons_succ,Nat.reduceAdd,Nat.reduceSub,Nat.zero_add,true_and,Bv,C1,Tn,Bl,C0,Lx,Gw,decide_true,decide_false,Lu,Hs,Av5,Avc,Auk,_root_.id,Um,Abx,Pr,Ey,Bf,Bx,Aw,Bg,Am,Dq,Bool.and_self,Bool.and_true,Bool.true_and,Mk.pure,Mark.pure,Es,C3,↓Pe,↓Pf,↓V4,↓Abq,Aqs,↓Me,↓Md,↓Mc,↓Mf,Int.reduceEq,Int.reduceLT,Int.reduceLE,Int.reduceAdd,Int.reduceSub,Int.reduceMul,Int.reduceToNat,Int.reducePow,Int.reduceNeg,Int.reduceMod,Int.reduceDiv,Nat.reduceLeDiff,Nat.reduceMul,Nat.reduceEqDiff,Nat.reducePow,Nat.reduceLT,and_true,and_self,true_or,or_true,At3,Int.le_refl,Auw,↓Ma,↓L9,↓L8,↓Mb,Rv,Au3,Bool.true_eq_false,Ij,Zh,P4,Mark.deq,Mk.deq,Int.zero_add,↓Zi,↓Zj,↓Zk,↓Zl,Avd,List.any_nil,Ave,List.all_nil,Bool.false_or,Bool.true_or,Awm,Bool.false_and,↓Pg,↓Mi,↓Mh,↓Mg,↓Mj,Ze,Mq,Iq,E4,↓Aab,↓Aac,↓Aad,↓Zz,Option.isNone_none,Option.isNone_some,Awg,Av3,Ez,Lw,bne_self_eq_false,↓Ahc,↓Xi,↓Ala,↓Aer,↓Aeq,↓Alh,↓Alf,↓Ale,↓Alc,↓Aen,↓Ael,↓Aem,$a,*]))
set_option hygiene false in
local macro_rules|`(tactic| array_get_dec)=>`(tactic| try simp_arith[true_and])
theorem Cq {α:Type}{g:FG}{t:FB}{fe:FE}{m:MH}{env:A0}{h:α->D} (p:α->Bool) (F:α->D):∀ {xs:List α}{Q:List D->Prop},(∀ x∈xs,W (g (h x) env) fun e1=>W (t e1 m) fun ok=>ok=p x/\(ok=true->W (fe e1 m) fun y=>y=F x))->Q ((xs.filter p).map F)->W (Gp g t fe m env (xs.map h)) Q
 |[],Q,_,q=>by rw[Avm,Dx];exact q
 |x::xs,Q,k,q=>by
  rw[At5,Dk]
  refine (k x (At0 ..)).imp fun e1 h1=>h1.imp fun ok h2=>?_
  obtain⟨h2,h3⟩:=h2
  have ih:=fun {Q:List D->Prop}=>Cq (g:=g) (t:=t) (fe:=fe) (m:=m) (env:=env) (h:=h) p F (xs:=xs) (Q:=Q) fun e he=>k e (Atz _ he)
  constructor
  ·intro hk
   refine (h3 hk).imp fun y hy=>?_
   subst hy
   refine ih ?_
   rw[List.filter_cons,At4 (h2 ▸ hk),At5] at q
   exact q
  ·intro hk
   refine ih ?_
   rw[List.filter_cons,At8 (by rw[<- h2,hk];decide)] at q
   exact q
theorem Tp {e:En}{m:MH}{Q:D->Prop}:W (oIx (eD e) (.int 0) m) Q=Q (.str e.nm):=by unfold eD;rw[Eu,Pe]
theorem Yl {e:En}{m:MH}{Q:D->Prop}:W (oIx (eD e) (.int 1) m) Q=Q e.mv.d:=by unfold eD;rw[Eu,Pf]
theorem Aex {e:En}{m:MH}{Q:D->Prop}:W (oIx (eD e) (.int 2) m) Q=Q (.tup (e.nd.map nD)):=by unfold eD;rw[Eu,V4]
theorem Aew (e:En) (t:Str) (x:Mk):deq (kD e) (.tup [.str t,x.d])=decide (e.nm=t/\e.mv=x):=Ae5 e ⟨t,x,[]⟩
noncomputable def isE (t:Str) (x:Mk) (e:En):Bool:=decide (e.nm=t/\e.mv=x)
def Zt (es:List En) (t:Str) (x:Mk):List Nd:=((es.find? (isE t x)).map En.nd).getD []
theorem Rj (es:List En) (t:Str) (x:Mk) {Q:D->Prop}:W (Yu [.tup (es.map eD),.str t,x.d]) Q=Q (.tup ((Zt es t x).map nD)):=W.eq <| by
 unfold Yu Aq3
 rw[A3]
 array_get_dec
 refine Cv (fun rest e m=>m=[]/\rest.find? (isE t x)=es.find? (isE t x)/\∃ v,e=[some (.tup (es.map eD)),some (.str t),some x.d,v]) ?_ ?_ ⟨rfl,rfl,_,rfl⟩
 ·rintro r rest e m ⟨rfl,h1,v,rfl⟩
  refine⟨trivial,?_⟩
  simp_arith[Ab8,Aex,L4,Aew]
  rw[Avl] at h1
  refine⟨by have:=Y4 r;lia,cK.dec (fun h=>?_) fun h=>?_⟩
  ·have hb:isE t x r=true:=Au7 h
   rw[hb] at h1
   simp_arith[Ab Bs]
   unfold Zt
   rw[<- h1];rfl
  ·have hb:isE t x r=false:=Auu h
   rw[hb] at h1
   exact⟨h1,_,rfl⟩
 ·rintro e m ⟨rfl,h1,v,rfl⟩
  refine⟨trivial,?_⟩
  array_get_dec
  unfold Zt
  rw[<- h1];rfl
abbrev Bk:=Str×Mk
def bD (b:Bk):D:=.tup [.str b.1,b.2.d]
theorem B4 (b:Bk):A2 (bD b)=true:=by unfold bD;rw[Aw,Am,Am,Bg,Bx,b.2.pure];rfl
abbrev Wn:=Str×Nd
def wD (n:Wn):D:=.tup [.str n.1,.str n.2.1,.tup (n.2.2.map pD)]
theorem B5 (n:Wn):A2 (wD n)=true:=by
 unfold wD
 rw[Aw,Am,Am,Am,Bg,Bx,Bx,Aw,E4];rfl
def atw (es:List En) (ws:List Nd) (bk:List Bk):List Wn:=ws.map (fun n=>(Str.ofString "",n))++bk.flatMap fun b=>(Zt es b.1 b.2).map fun n=>(b.1,n)
theorem Mn (es:List En) (h:Sh es) (t:Str) (x:Mk):(Zt es t x).length<=4:=by
 unfold Zt
 cases e:es.find? (isE t x) with
 |none=>simp
 |some r=>exact (h.ok r (List.mem_of_find?_eq_some e)).len
theorem Gk (es:List En) (h:Sh es) (ws:List Nd) (hw:ws.length<=4) (bk:List Bk):(atw es ws bk).length<=4+4 * bk.length:=by
 unfold atw
 rw[Aui,Aud]
 have:(bk.flatMap fun b=>(Zt es b.1 b.2).map fun n=>(b.1,n)).length<=4 * bk.length:=by
  induction bk with
  |nil=>simp
  |cons b bk ih=>rw[List.flatMap_cons,Aui,Aud,Aur];have:=Mn es h b.1 b.2;lia
 lia
theorem Aek {ds zs:List D}{Q:List D->Prop}:W (Akx ds [.lst zs]) Q=(ds.length+zs.length<=1000000/\Q (ds++zs)):=Jk
theorem Up (es:List En) (h:Sh es) (ws:List Nd) (hw:ws.length<=4) (bk:List Bk) (hb:bk.length<=40) {Q:D->Prop}:W (Yo [.tup (es.map eD),.tup (ws.map nD),.tup (bk.map bD)]) Q=Q (.lst ((atw es ws bk).map wD)):=W.eq <| by
 unfold Yo Aqw
 rw[A3]
 array_get_dec
 refine⟨by lia,Bu (fun n=>wD (Str.ofString "",n)) (fun n hn=>?_) ?_⟩
 ·unfold nD
  array_get_dec
  rfl
 array_get_dec
 have hat:=Gk es h ws hw bk
 refine Cv (fun rest e m=>∃ (dn:List Bk) (u v:Option D),dn++rest=bk/\m=[.lst ((atw es ws dn).map wD)]/\e=[some (.tup (es.map eD)),some (.tup (ws.map nD)),some (.tup (bk.map bD)),some (.ref 0),u,v]) ?_ ?_ ⟨[],none,none,rfl,by simp[atw],rfl⟩
 ·rintro ⟨t,x⟩ rest e m ⟨dn,u,v,hd,rfl,rfl⟩
  refine⟨trivial,?_⟩
  unfold bD
  have hl:=Mn es h t x
  have hd2:=Gk es h ws hw dn
  have ld:dn.length<=bk.length:=by rw[<- hd];simp
  simp_arith[Ab B7,Rj,Aek]
  refine⟨by lia,Bu (fun n=>wD (t,n)) (fun n hn=>?_) ?_⟩
  ·unfold nD
   array_get_dec
   rfl
  simp_arith[Aek]
  refine⟨by lia,dn++[(t,x)],_,_,by rw[<- hd];simp,?_,rfl⟩
  simp[atw,List.flatMap_append]
 ·rintro e m ⟨dn,u,v,hd,rfl,rfl⟩
  rw[Aue] at hd
  subst hd
  refine⟨trivial,?_⟩
  simp_arith[Ab B5]
noncomputable def tkn (bk:List Bk) (t:Str):Option Mk:=(bk.find? fun b=>b.1=t).map (·.2)
def kept (bk:List Bk) (n:Nd):Bool:=match tkn bk n.1 with
 |some x=>n.2.any (inP x)
 |none=>false
structure BkOk (bk:List Bk):Prop where
 nd:(bk.map (·.1)).Nodup
 sm:∀ b∈bk,b.2.ms.length<=1000
 len:bk.length<=40
theorem Zy (bk:List Bk):Au (bk.map fun b=>b.2.d)=true:=A7 (Ab fun b=>b.2.pure)
theorem Ux (bk:List Bk) (hb:BkOk bk) (n:Wn) (hn:Sp n.2.2) {Q:D->Prop}:W (Nz [wD n,.dks (bk.map (·.1)) (bk.map fun b=>b.2.d)]) Q=Q (.bl (kept bk n.2)):=W.eq <| by
 unfold Nz Ahv wD
 rw[A3]
 have e1:decide (n.2.1∈bk.map (·.1))=(bk.find? fun b=>b.1=n.2.1).isSome:=Acy (fun b:Bk=>b.1) bk n.2.1
 have e2:Aci (bk.map (·.1)) (bk.map fun b=>b.2.d) n.2.1=(bk.find? fun b=>b.1=n.2.1).map fun b=>b.2.d:=Tw (fun b:Bk=>b.1) (fun b=>b.2.d) bk n.2.1
 simp_arith[e1,e2]
 cases q:bk.find? fun b=>b.1=n.2.1 with
 |none =>
  have k:kept bk n.2=false:=by unfold kept tkn;rw[q];rfl
  simp only[Awg,Option.map_none]
  simp_arith[k]
 |some b =>
  have hm:b∈bk:=List.mem_of_find?_eq_some q
  have k:kept bk n.2=n.2.2.any (inP b.2):=by unfold kept tkn;rw[q];rfl
  simp only[Av3,Option.map_some]
  have hl:=hn.len
  simp_arith[Ac,Aio b.2 n.2.2 (hb.sm b hm) hn.sm (by lia) hn.ok,k]
def brk (es:List En) (ws:List Nd) (bk:List Bk):List Wn:=(atw es ws bk).filter fun n=>!kept bk n.2
theorem Aes {es:List En} (h:Sh es) {ws:List Nd} (hw:∀ n∈ws,Sp n.2) {bk:List Bk}{n:Wn} (hn:n∈atw es ws bk):Sp n.2.2:=by
 unfold atw at hn
 rcases List.mem_append.mp hn with hn|hn
 ·obtain⟨z,hz,rfl⟩:=List.mem_map.mp hn
  exact hw z hz
 ·obtain⟨b,_,hn⟩:=List.mem_flatMap.mp hn
  obtain⟨z,hz,rfl⟩:=List.mem_map.mp hn
  unfold Zt at hz
  cases e:es.find? (isE b.1 b.2) with
  |none=>rw[e] at hz;simp at hz
  |some r =>
   rw[e] at hz
   exact (h.ok r (List.mem_of_find?_eq_some e)).sp z hz
structure WtOk (ws:List Nd):Prop where
 sp:∀ n∈ws,Sp n.2
 len:ws.length<=4
theorem Pj {bk:List Bk} (hb:(bk.map (·.1)).Nodup) {m:MH}{Q:D->Prop}:W (Ik [.tup (bk.map bD)] m) Q=Q (.dks (bk.map (·.1)) (bk.map fun b=>b.2.d)):=by
 have e:G9 (bk.map bD)=some (bk.map fun b=>(b.1,b.2.d)):=Vc (fun b:Bk=>b.1) (fun b:Bk=>b.2.d) bk
 rw[Agn,e,Ac,Ab7 (fun b:Bk=>b.1) (fun b:Bk=>b.2.d) hb]
theorem Aqm {n:Wn}{m:MH}{Q:D->Prop}:W (Jr m (wD n)) Q=Q (wD n):=by
 have e:Jr m (wD n)=some (wD n):=by show Ci m (wD n)=_;exact C6 (B5 n)
 rw[e,Ac]
theorem Ya (es:List En) (h:Sh es) (ws:List Nd) (hw:WtOk ws) (bk:List Bk) (hb:BkOk bk) {Q:D->Prop}:W (N1 [.tup (es.map eD),.tup (ws.map nD),.tup (bk.map bD)]) Q=Q (.lst ((brk es ws bk).map wD)):=W.eq <| by
 unfold N1 Ahy
 rw[A3]
 have hl:=Gk es h ws hw.len bk
 have hbl:=hb.len
 simp_arith[Pj hb.nd,Ab B7,Ab Bs,Ab B4,Up es h ws hw.len bk hbl,Ab B5]
 refine⟨by lia,Cq (fun n=>!kept bk n.2) wD (fun n hn=>?_) ?_⟩
 ·simp_arith[Aqm,Zy,Ux bk hb n (Aes h hw.sp hn)]
  exact fun _=>trivial
 ·simp_arith[Ab B5]
  rfl
theorem Mp {α:Type} [DecidableEq α]:∀ {l m:List α},l.Nodup->(∀ x∈l,x∈m)->l.length<=m.length
 |[],_,_,_=>Auw _
 |x::l,m,h,hs=>by
  obtain⟨h1,h2⟩:=List.nodup_cons.mp h
  have hx:=hs x (At0 ..)
  have ih:=Mp (l:=l) (m:=m.erase x) h2 fun y hy=>(List.mem_erase_of_ne (fun e=>h1 (by rw[<- e];exact hy))).mpr (hs y (Atz _ hy))
  rw[List.length_erase_of_mem hx] at ih
  have:=List.length_pos_of_mem hx
  rw[Aur]
  lia
abbrev Z33:List Int:=[5]++Ge P8 4
theorem Abl {m:Int} (h0:0<=m) (h1:m < 5):Dz Z33 (some 1) (some (1+8 * m))=Ge P8 m.toNat:=by
 have:m=0\/m=1\/m=2\/m=3\/m=4:=by lia
 rcases this with rfl|rfl|rfl|rfl|rfl<;>decide
theorem Aee (c:Int):W (N6 [.int c]) fun d=>∃ ws:List Nd,d=.tup (ws.map nD)/\WtOk ws:=by
 unfold N6 Ah6
 rw[A3]
 array_get_dec
 refine⟨by decide,by decide,?_⟩
 refine (Hh c Z33 (by decide) (by decide)).imp fun d ⟨vs,e,hv⟩=>?_
 subst e
 have hlen:vs.length=33:=hv.1
 have i0:0 < vs.length:=by lia
 have b0:=hv.2 0 vs[0] 5 (Atx i0) rfl
 have w0:∀ {Q:D->Prop},W (atI (vs.map D.int) 0) Q=Q (.int vs[0]):=Dw (k:=0) i0
 have hz:=Abl b0.1 b0.2
 simp_arith[w0,Ab fun _=>Bf]
 refine (T6 (Str.ofString "") _ vs[0].toNat (by lia) (by rw[<- hz];exact Lh hv _ _)).imp fun d ⟨ns,e,hsp,hln⟩=>?_
 subst e
 simp_arith[Ab Bs]
 exact⟨ns,rfl,hsp,hln⟩
noncomputable def sel (es:List En) (t:Str):List Mk:=(es.filter fun e=>decide (e.nm=t)).map En.mv
theorem Rz {es:List En}{t:Str}{x:Mk} (h:x∈sel es t):∃ e∈es,e.nm=t/\e.mv=x:=by
 unfold sel at h
 obtain⟨e,he,rfl⟩:=List.mem_map.mp h
 have:=List.mem_filter.mp he
 exact⟨e,this.1,by simpa using this.2,rfl⟩
theorem M6 (es:List En) (t:Str):(sel es t).length<=es.length:=by
 unfold sel
 rw[Aud]
 exact List.length_filter_le ..
structure BkOf (es:List En) (bk:List Bk):Prop where
 nd:(bk.map (·.1)).Nodup
 of:∀ b∈bk,∃ e∈es,e.nm=b.1/\e.mv=b.2
theorem BkOf.ok {es:List En} (h:Sh es) {bk:List Bk} (b:BkOf es bk):BkOk bk where
 nd:=b.nd
 sm:=fun x hx=>by obtain⟨e,he,_,h2⟩:=b.of x hx;have:=(h.ok e he).ms;rw[<- h2];lia
 len:=by
  have:(bk.map (·.1)).length<=titles.length:=Mp b.nd fun t ht=>by
   obtain⟨x,hx,rfl⟩:=List.mem_map.mp ht
   obtain⟨e,he,h1,_⟩:=b.of x hx
   rw[<- h1];exact (h.ok e he).nm
  rw[Aud] at this
  have e8:titles.length=8:=rfl
  lia
theorem Aod {k:Nat} (hk:k < 8):(Ge [(4:Int),12] 8)[2 * k]?=some 4/\(Ge [(4:Int),12] 8)[2 * k+1]?=some 12:=by
 have:k=0\/k=1\/k=2\/k=3\/k=4\/k=5\/k=6\/k=7:=by lia
 rcases this with rfl|rfl|rfl|rfl|rfl|rfl|rfl|rfl<;>decide
theorem Ahd (c:Int) (es:List En) (h:Sh es):W (Oa [.int c,.tup (es.map eD)]) fun d=>∃ bk:List Bk,d=.tup (bk.map bD)/\BkOf es bk:=by
 unfold Oa Aid
 rw[A3]
 array_get_dec
 refine⟨by decide,?_⟩
 refine (Hh c (Ge [4,12] 8) (by decide) (by decide)).imp fun d ⟨vs,e,hv⟩=>?_
 subst e
 have hlen:vs.length=16:=hv.1
 have h40:=h.len
 simp_arith[Ab fun _=>Bf]
 refine⟨by lia,Bu (fun e=>.str e.nm) (fun e he=>?_) ?_⟩
 ·simp_arith[Tp]
 refine Ag3 En.nm (by lia) ?_
 generalize hT:TX.sortT (es.map En.nm)=ts
 have hnd:ts.Nodup:=by rw[<- hT];exact TX.sortT_nd _
 have hmm:∀ t∈ts,∃ e∈es,e.nm=t:=fun t ht=>by
  rw[<- hT] at ht
  exact List.mem_map.mp (TX.sortT_mem.mp ht)
 have hl8:ts.length<=8:=Mp (m:=titles) hnd fun t ht=>by
  obtain⟨e,he,rfl⟩:=hmm t ht
  exact (h.ok e he).nm
 array_get_dec
 refine⟨⟨by lia,by lia⟩,Jt (fun k e m=>∃ (bk:List Bk) (u v:Option D),m=[.lst (bk.map bD)]/\e=[some (.int c),some (.tup (es.map eD)),some (.lst (vs.map .int)),some (.lst (ts.map .str)),some (.ref 0),u,v]/\(bk.map (·.1)).Sublist (ts.take k)/\bk.length<=k/\∀ b∈bk,∃ e∈es,e.nm=b.1/\e.mv=b.2) ?_ ?_ ⟨[],_,_,rfl,rfl,List.nil_sublist _,At3 _,fun _ h=>absurd h (by simp)⟩⟩
 ·rintro k e m hk ⟨bk,u,v,rfl,rfl,h1,h2,h3⟩
  refine⟨trivial,?_⟩
  have hk':k < ts.length:=by simpa using hk
  have hk8:k < 8:=by lia
  obtain⟨p0,p1⟩:=Aod hk8
  have i0:2 * k < vs.length:=by lia
  have i1:2 * k+1 < vs.length:=by lia
  have e0:(2:Int) * (k:Int)=((2 * k:Nat):Int):=by lia
  have e1:((2 * k:Nat):Int)+1=((2 * k+1:Nat):Int):=by lia
  have b1:=hv.2 (2 * k+1) vs[2 * k+1] 12 (Atx i1) p1
  have hs:=M6 es ts[k]
  obtain⟨e9,he9,hn9⟩:=hmm ts[k] (Auz hk')
  have hpos:0 < (sel es ts[k]).length:=by
   refine List.length_pos_of_mem (a:=e9.mv) ?_
   unfold sel
   exact List.mem_map.mpr ⟨e9,List.mem_filter.mpr ⟨he9,by simpa using hn9⟩,rfl⟩
  array_get_dec
  refine⟨by lia,Cq (fun e=>decide (e.nm=ts[k])) (fun e=>e.mv.d) (fun e he=>?_) ?_⟩
  ·simp_arith[Tp,Yl,Dw hk']
   exact fun _=>trivial
  rw[show ((es.filter fun e=>decide (e.nm=ts[k])).map fun e=>e.mv.d)=(sel es ts[k]).map Mk.d by unfold sel;rw[Av1];rfl]
  simp_arith[e0,e1,Dw i0,Dw i1,Dw hk']
  have stay:∀ u v:Option D,∃ (bk_1:List Bk) (u_1 v_1:Option D),[MObj.lst (bk.map bD)]=[MObj.lst (bk_1.map bD)]/\[some (D.int c),some (D.tup (es.map eD)),some (D.lst (vs.map D.int)),some (D.lst (ts.map D.str)),some (D.ref 0),u,v]=[some (D.int c),some (D.tup (es.map eD)),some (D.lst (vs.map D.int)),some (D.lst (ts.map D.str)),some (D.ref 0),u_1,v_1]/\(bk_1.map (·.1)).Sublist (ts.take (k+1))/\bk_1.length<=k+1/\∀ b∈bk_1,∃ e∈es,e.nm=b.1/\e.mv=b.2:=fun u v=>⟨bk,u,v,rfl,rfl,h1.trans (List.take_sublist_take_left (Av0 k)),by lia,h3⟩
  refine cK.dec (fun _=>?_) fun _=>stay _ _
  have m0:=Int.emod_nonneg vs[2 * k+1] (b:=((sel es ts[k]).length:Int)) (by lia)
  have m1:=Int.emod_lt_of_pos vs[2 * k+1] (b:=((sel es ts[k]).length:Int)) (by lia)
  refine⟨by lia,Ul m0 (by simpa using m1) fun d _ hd=>?_⟩
  obtain⟨x,hx,rfl⟩:=List.mem_map.mp hd
  obtain⟨e',he',n1,n2⟩:=Rz hx
  array_get_dec
  refine⟨by lia,bk++[(ts[k],x)],_,_,by simp[bD],rfl,?_,by simp;lia,fun b hb=>?_⟩
  ·rw[Avg,List.take_add_one,Atx hk']
   exact h1.append (List.Sublist.refl _)
  ·rcases List.mem_append.mp hb with hb|hb
   ·exact h3 b hb
   ·rw[List.mem_singleton.mp hb];exact⟨e',he',n1,n2⟩
 ·rintro e m ⟨bk,u,v,rfl,rfl,h1,h2,h3⟩
  refine⟨trivial,?_⟩
  simp_arith[Ab B4]
  exact⟨bk,rfl,(h1.trans (List.take_sublist _ _)).nodup hnd,h3⟩
theorem sqA {M r:MH}{a:List D}{Q:List D->Prop}:W (sq (M++.lst a::r) (.ref M.length)) Q=Q a:=by
 have e:(M++MObj.lst a::r)[M.length]?=some (.lst a):=by simp
 have e2:sq (M++MObj.lst a::r) (.ref M.length)=some a:=by unfold sq;simp only[e]
 rw[e2,Ac]
theorem xpA {M:MH}{a:List D} (h:A1 a=true) {Q:D->Prop}:W (Bt (M++[.lst a]) (.ref M.length)) Q=Q (.lst a):=by
 have e:(M++[MObj.lst a])[M.length]?=some (.lst a):=by simp
 have e2:Bt (M++[MObj.lst a]) (.ref M.length)=some (.lst a):=by rw[Bt];simp only[e,h,Awl]
 rw[e2,Ac]
theorem Zq {n:Nd}{m:MH}{Q:D->Prop}:W (oIx (nD n) (.int 0) m) Q=Q (.str n.1):=by unfold nD;rw[Eu,Pe]
theorem Zr {n:Nd}{m:MH}{Q:D->Prop}:W (oIx (nD n) (.int 1) m) Q=Q (.tup (n.2.map pD)):=by unfold nD;rw[Eu,Pf]
theorem Asl {n:Wn}{Q:D->Prop}:W (oSl (wD n) (some 1) none) Q=Q (nD n.2):=by
 unfold wD nD
 rw[Nk]
 rfl
theorem Rf (bk:List Bk) (hb:BkOk bk) (n:Nd) (hn:Sp n.2) {Q:D->Prop}:W (Hx [nD n,.tup (bk.map bD)]) Q=Q (.bl (kept bk n)):=W.eq <| by
 unfold Hx Ahw
 rw[A3]
 array_get_dec
 refine Cv (fun rest e m=>m=[]/\(∀ b∈rest,b∈bk)/\(rest.find? fun b=>b.1=n.1)=(bk.find? fun b=>b.1=n.1)/\∃ u v,e=[some (nD n),some (.tup (bk.map bD)),u,v]) ?_ ?_ ⟨rfl,fun _ h=>h,rfl,_,_,rfl⟩
 ·rintro ⟨t,x⟩ rest e m ⟨rfl,h0,h1,u,v,rfl⟩
  refine⟨trivial,?_⟩
  have hx:=hb.sm (t,x) (h0 _ (At0 ..))
  rw[Avl] at h1
  unfold bD
  simp_arith[Zq,Zr,Ab Iq,Acu x n.2 hx hn.sm]
  refine cK.dec (fun h=>?_) fun h=>?_
  ·simp only[h,decide_true] at h1
   unfold kept tkn
   rw[<- h1];rfl
  ·simp only[h,decide_false] at h1
   exact⟨fun b hb=>h0 b (Atz _ hb),h1,_,_,rfl⟩
 ·rintro e m ⟨rfl,h0,h1,u,v,rfl⟩
  refine⟨trivial,?_⟩
  array_get_dec
  unfold kept tkn
  rw[<- h1];rfl
theorem Z8 {es:List En} (hd:es.Pairwise Dst) (t:Str) (x:Mk):(es.filter (isE t x)).flatMap (fun e=>e.nd.map fun n=>(t,n))=(Zt es t x).map fun n=>(t,n):=by
 induction es with
 |nil=>rfl
 |cons e es ih =>
  obtain⟨h1,h2⟩:=List.pairwise_cons.mp hd
  rw[List.filter_cons]
  unfold Zt
  rw[Avl]
  cases q:isE t x e with
  |false=>exact ih h2
  |true =>
   have he:e.nm=t/\e.mv=x:=Au1 q
   have:es.filter (isE t x)=[]:=List.filter_eq_nil_iff.mpr fun r hr hq=>by
    have hr':r.nm=t/\r.mv=x:=Au1 hq
    exact h1 r hr ⟨he.1.trans hr'.1.symm,he.2.trans hr'.2.symm⟩
   simp[this]
theorem Tu {t:Str}{x:Mk}:∀ {pre:List En},(∀ e∈pre,e.nd.length<=4)->((pre.filter (isE t x)).flatMap fun e=>e.nd.map fun n=>(t,n)).length<=4 * pre.length
 |[],_=>by simp
 |e::pre,h=>by
  have ih:=Tu (t:=t) (x:=x) (pre:=pre) fun r hr=>h r (Atz _ hr)
  have he:=h e (At0 ..)
  rw[List.filter_cons,Aur]
  split
  ·rw[List.flatMap_cons,Aui,Aud];lia
  ·lia
theorem Re (es:List En) (h:Sh es) (ws:List Nd) (hw:ws.length<=4) (bk:List Bk) (hb:bk.length<=40) {Q:D->Prop}:W (Yv [.tup (es.map eD),.tup (ws.map nD),.tup (bk.map bD)]) Q=Q (.lst ((atw es ws bk).map wD)):=W.eq <| by
 unfold Yv Aq4
 rw[A3]
 have h40:=h.len
 array_get_dec
 refine⟨by lia,Bu (fun n=>wD (Str.ofString "",n)) (fun n hn=>?_) ?_⟩
 ·simp_arith[Zq,Zr]
  rfl
 array_get_dec
 refine Cv (fun rest e m=>∃ (M:MH) (dn:List Bk) (u v w:Option D),dn++rest=bk/\m=M++[.lst ((atw es ws dn).map wD)]/\e=[some (.tup (es.map eD)),some (.tup (ws.map nD)),some (.tup (bk.map bD)),some (.ref M.length),u,v,w]) ?_ ?_ ⟨[],[],none,none,none,rfl,by simp[atw],rfl⟩
 ·rintro ⟨t,x⟩ rest e m ⟨M,dn,u,v,w,hd,rfl,rfl⟩
  refine⟨trivial,?_⟩
  unfold bD
  have hl:=Mn es h t x
  have hd2:=Gk es h ws hw dn
  have ld:dn.length<=bk.length:=by rw[<- hd];simp
  array_get_dec
  refine Cv (fun rest' e m=>∃ (M:MH) (pre:List En) (w:Option D),pre++rest'=es/\m=M++[.lst ((atw es ws dn++(pre.filter (isE t x)).flatMap fun e=>e.nd.map fun n=>(t,n)).map wD)]/\e=[some (.tup (es.map eD)),some (.tup (ws.map nD)),some (.tup (bk.map bD)),some (.ref M.length),some (.str t),some x.d,w]) ?_ ?_ ⟨M,[],_,rfl,by simp,rfl⟩
  ·rintro r rest' e m ⟨M,pre,w,hp,rfl,rfl⟩
   refine⟨trivial,?_⟩
   have hr:r∈es:=by rw[<- hp];simp
   have hrl:=(h.ok r hr).len
   simp_arith[Ab8,Aex,L4,Aew,sqA]
   refine⟨by have:=Y4 r;lia,cK.dec (fun hq=>?_) fun hq=>?_⟩
   ·refine⟨by lia,Bu (fun n=>wD (t,n)) (fun n hn=>?_) ?_⟩
    ·simp_arith[Zq,Zr]
     rfl
    simp_arith[sqA]
    have hpl:((pre.filter (isE t x)).flatMap fun e=>e.nd.map fun n=>(t,n)).length<=4 * pre.length:=Tu fun e he=>(h.ok e (by rw[<- hp];exact Auq _ he)).len
    have hpe:pre.length<=es.length:=by rw[<- hp];simp
    refine⟨by rw[Aui];lia,M++[_],pre++[r],_,by rw[<- hp];simp,?_,rfl⟩
    have hf:isE t x r=true:=Au7 hq
    simp[List.filter_append,hf]
   ·refine⟨M,pre++[r],_,by rw[<- hp];simp,?_,rfl⟩
    have hf:isE t x r=false:=Auu hq
    simp[List.filter_append,hf]
  ·rintro e m ⟨M,pre,w,hp,rfl,rfl⟩
   rw[Aue] at hp
   subst hp
   refine⟨trivial,?_⟩
   array_get_dec
   refine⟨M,dn++[(t,x)],_,_,_,by rw[<- hd];simp,?_,rfl⟩
   rw[Z8 h.dst]
   simp[atw,List.flatMap_append]
 ·rintro e m ⟨M,dn,u,v,w,hd,rfl,rfl⟩
  rw[Aue] at hd
  subst hd
  refine⟨trivial,?_⟩
  simp_arith[xpA (Ab B5)]
theorem U3 (es:List En) (h:Sh es) (ws:List Nd) (hw:WtOk ws) (bk:List Bk) (hb:BkOk bk) {Q:D->Prop}:W (N0 [.tup (es.map eD),.tup (ws.map nD),.tup (bk.map bD)]) Q=Q (.lst ((brk es ws bk).map wD)):=W.eq <| by
 unfold N0 Ahx
 rw[A3]
 have hl:=Gk es h ws hw.len bk
 have hbl:=hb.len
 simp_arith[Ab B7,Ab Bs,Ab B4,Re es h ws hw.len bk hbl,Ab B5]
 refine⟨by lia,Cq (fun n=>!kept bk n.2) wD (fun n hn=>?_) ?_⟩
 ·simp_arith[Asl,Bs,Ab B4,Rf bk hb n.2 (Aes h hw.sp hn)]
  exact fun _=>trivial
 ·simp_arith[Ab B5]
  rfl
instance:Inhabited Mk:=⟨⟨0,0,0,[]⟩⟩
theorem Im (a b c:Mk) (h:a.older c=true):a.older b=true\/b.older c=true:=by
 by_cases e:a=b
 ·subst e;exact .inr h
 ·cases q:a.older b with
  |true=>exact .inl rfl
  |false =>
   have:=Io e
   rw[q] at this
   have h2:b.older a=true:=by cases z:b.older a with
    |true=>rfl
    |false=>rw[z] at this;cases this
   exact .inr (By h2 h)
theorem Mt (a b:Mk) (h1:a.older b=false) (h2:b.older a=false):a=b:=by
 by_cases e:a=b
 ·exact e
 ·have:=Io e
  rw[h1,h2] at this
  cases this
theorem Rr:∀ {xs ys:List Mk},xs.Perm ys->xs.Pairwise (fun x y=>x.older y=false)->ys.Pairwise (fun x y=>x.older y=false)->xs=ys
 |[],ys,h,_,_=>h.nil_eq
 |x::xs,[],h,_,_=>by have:=h.length_eq;simp at this
 |x::xs,y::ys,h,hx,hy=>by
  obtain⟨hx1,hx2⟩:=List.pairwise_cons.mp hx
  obtain⟨hy1,hy2⟩:=List.pairwise_cons.mp hy
  have e:x=y:=by
   by_cases e:x=y
   ·exact e
   ·have m1:x∈ys:=by
     rcases List.mem_cons.mp (h.mem_iff.mp (At0 ..)) with z|z
     ·exact absurd z e
     ·exact z
    have m2:y∈xs:=by
     rcases List.mem_cons.mp (h.mem_iff.mpr (At0 ..)) with z|z
     ·exact absurd z.symm e
     ·exact z
    exact Mt x y (hx1 y m2) (hy1 x m1)
  subst e
  rw[Rr ((List.perm_cons x).mp h) hx2 hy2]
theorem Y5 {fn:List D->Option D}{m:MH}:∀ {xs:List Mk},(∀ x∈xs,fn [x.d]=some x.rk)->Gs fn m (xs.map Mk.d)=some (xs.map Mk.rk)
 |[],_=>rfl
 |x::xs,h=>by
  have e:Bb 1 fn [x.d] m=some x.rk:=by
   unfold Bb
   rw[Cu,C6 x.pure]
   exact h x (At0 ..)
  rw[At5,Gs,e,At5]
  show (Gs fn m (xs.map Mk.d)).bind _=_
  rw[Y5 fun y hy=>h y (Atz _ hy)]
  rfl
theorem Ad2 {fn:List D->Option D}{m:MH}{xs:List Mk} (h:∀ x∈xs,fn [x.d]=some x.rk) (hl:xs.length < 64):∃ ys:List Mk,ys.Perm xs/\ys.Pairwise (fun x y=>x.older y=false)/\Da fn true [.lst (xs.map Mk.d)] m=some (ys.map Mk.d):=by
 have hk:=Y5 (m:=m) h
 have c1:(xs.map Mk.rk).all Ae6=true:=by
  rw[List.all_eq_true]
  intro d hd
  obtain⟨x,_,rfl⟩:=List.mem_map.mp hd
  rfl
 have c2:Au (xs.map Mk.rk)=true:=A7 (Ab Mk.rk_pure)
 have c3:Dj (xs.map Mk.rk)<=20:=Br fun d hd=>by
  obtain⟨x,_,rfl⟩:=List.mem_map.mp hd
  have:=Mk.rk_dep x
  lia
 have go:∀ ys:List Mk,ys.Perm xs->ys.Pairwise (fun x y=>x.older y=false)->Jp true (xs.map Mk.d) (xs.map Mk.rk)=some (ys.map Mk.d)->∃ ys:List Mk,ys.Perm xs/\ys.Pairwise (fun x y=>x.older y=false)/\Da fn true [.lst (xs.map Mk.d)] m=some (ys.map Mk.d):=fun ys h1 h2 h3=>by
  refine⟨ys,h1,h2,?_⟩
  unfold Da
  simp only
  rw[show sqL m (D.lst (xs.map Mk.d))=some (xs.map Mk.d) from rfl,Auk,hk,Auk,h3,Auk]
  rw[At4 ⟨by simpa using hl,c1,c2,c3,by rw[Aud,h1.length_eq];exact hl⟩]
 by_cases h2:xs.length < 2
 ·refine go xs (List.Perm.refl _) ?_ ?_
  ·match xs,h2 with
   |[],_=>exact .nil
   |[x],_=>exact Avb ..
  ·unfold Jp
   rw[At4 (by simpa using h2)]
 ·obtain⟨p,e,hp,hs,hi⟩:=O3 (blt:=Mk.older) (zs:=xs.reverse) Gy (fun a b c=>By) Im Mt (c:=fun i j=>ltD ((W.katRev true (xs.map Mk.rk)).getD i .non) ((W.katRev true (xs.map Mk.rk)).getD j .non)) (fun i j hi hj=>by
   have g:∀ i (hi:i < xs.reverse.length),(W.katRev true (xs.map Mk.rk)).getD i .non=(xs.reverse[i]).rk:=fun i hi=>by
    show (xs.map Mk.rk).reverse.getD i .non=_
    rw[<- List.map_reverse,At7,Auh,Atx hi]
    rfl
   show ltD _ _=_
   rw[g i hi,g j hj,Mk.rk_lt]) (by simp;lia)
  refine go (p.toList.map fun i=>xs.reverse.getD i default).reverse ((List.reverse_perm _).trans (hp.trans (List.reverse_perm _))) (List.pairwise_reverse.mpr hs) ?_
  unfold Jp
  rw[At8 (by simpa using h2),Aud,<- List.length_reverse,e]
  show some (W.katRev true _)=_
  congr 1
  show (p.toList.map fun i=>(xs.map Mk.d).reverse.getD i .non).reverse=_
  rw[List.map_reverse,Av1]
  congr 1
  refine List.map_congr_left fun i hi'=>?_
  have hlt:=hi i hi'
  rw[<- List.map_reverse,At7,Auh,Atx hlt]
  show xs.reverse[i].d=(xs.reverse.getD i default).d
  rw[At7,Atx hlt]
  rfl
theorem Zw (xs:List Mk) (hx:∀ x∈xs,x.ms.length<=1000) (hl:xs.length < 64):W (Yp [.lst (xs.map Mk.d)]) fun d=>∃ ys:List Mk,d=.lst (ys.map Mk.d)/\ys.Perm xs/\ys.Pairwise (fun x y=>x.older y=false):=by
 unfold Yp Aqx
 rw[A3]
 obtain⟨ys,h1,h2,e⟩:=Ad2 (fn:=G5) (m:=[]) (fun x h=>W.out (by rw[Rw x (hx x h)])) hl
 array_get_dec
 rw[e,Ac]
 array_get_dec
 exact⟨ys,rfl,h1,h2⟩
theorem Ad3 {fn:List D->Option D}{m:MH}{xs:List Mk} (h:∀ x∈xs,fn [x.d]=some (rk2 x)) (hl:xs.length < 64):∃ ys:List Mk,ys.Perm xs/\ys.Pairwise (fun x y=>y.older x=false)/\Da fn false [.lst (xs.map Mk.d)] m=some (ys.map Mk.d):=by
 have hk:Gs fn m (xs.map Mk.d)=some (xs.map rk2):=by
  clear hl
  induction xs with
  |nil=>rfl
  |cons x xs ih =>
   have e:Bb 1 fn [x.d] m=some (rk2 x):=by
    unfold Bb
    rw[Cu,C6 x.pure]
    exact h x (At0 ..)
   rw[At5,Gs,e,At5]
   show (Gs fn m (xs.map Mk.d)).bind _=_
   rw[ih fun y hy=>h y (Atz _ hy)]
   rfl
 have c1:(xs.map rk2).all Ae6=true:=by
  rw[List.all_eq_true]
  intro d hd
  obtain⟨x,_,rfl⟩:=List.mem_map.mp hd
  rfl
 have r1:∀ x:Mk,Bm (rk2 x)=true:=fun x=>by
  unfold rk2
  have:Au (x.ms.map Mark.rk)=true:=A7 (Ab Mark.rk_pure)
  simp[Bm,Au,this]
 have c2:Au (xs.map rk2)=true:=by
  induction xs with
  |nil=>rfl
  |cons x xs ih=>rw[At5,Au,r1,ih (fun y hy=>h y (Atz _ hy)) (by simp at hl;lia) (by
    rw[At5,Gs] at hk
    obtain⟨k1,e1,e2⟩:=bind_some hk
    obtain⟨k2,e3,e4⟩:=bind_some e2
    rw[e3]
    rw[At5] at e4
    injection e4 with e4
    injection e4 with e5 e6
    rw[e6]) (by rw[At5,Ave,Aua] at c1;exact c1.2)];rfl
 have c3:Dj (xs.map rk2)<=20:=Br fun d hd=>by
  obtain⟨x,_,rfl⟩:=List.mem_map.mp hd
  unfold rk2
  rw[Cn]
  have h1:Dj (x.ms.map Mark.rk)<=1:=Br fun d hd=>by
   obtain⟨m,_,rfl⟩:=List.mem_map.mp hd
   exact Mark.rk_dep m
  have:Dj [D.int x.a,D.int x.b,D.int x.c,D.int (if x.ms=[] then 1 else 0),D.lst (x.ms.map Mark.rk)]<=2:=Br fun d hd=>by
   simp only[Aup,Auf,or_false] at hd
   rcases hd with rfl|rfl|rfl|rfl|rfl
   ·rw[Bl];lia
   ·rw[Bl];lia
   ·rw[Bl];lia
   ·rw[Bl];lia
   ·rw[dep];lia
  lia
 have go:∀ ys:List Mk,ys.Perm xs->ys.Pairwise (fun x y=>y.older x=false)->Jp false (xs.map Mk.d) (xs.map rk2)=some (ys.map Mk.d)->∃ ys:List Mk,ys.Perm xs/\ys.Pairwise (fun x y=>y.older x=false)/\Da fn false [.lst (xs.map Mk.d)] m=some (ys.map Mk.d):=fun ys h1 h2 h3=>by
  refine⟨ys,h1,h2,?_⟩
  unfold Da
  simp only
  rw[show sqL m (D.lst (xs.map Mk.d))=some (xs.map Mk.d) from rfl,Auk,hk,Auk,h3,Auk]
  rw[At4 ⟨by simpa using hl,c1,c2,c3,by rw[Aud,h1.length_eq];exact hl⟩]
 by_cases h2:xs.length < 2
 ·refine go xs (List.Perm.refl _) ?_ ?_
  ·match xs,h2 with
   |[],_=>exact .nil
   |[x],_=>exact Avb ..
  ·unfold Jp
   rw[At4 (by simpa using h2)]
 ·obtain⟨p,e,hp,hs,hi⟩:=O3 (blt:=Mk.older) (zs:=xs) Gy (fun a b c=>By) Im Mt (c:=fun i j=>ltD ((W.katRev false (xs.map rk2)).getD i .non) ((W.katRev false (xs.map rk2)).getD j .non)) (fun i j hi hj=>by
   have g:∀ i (hi:i < xs.length),(W.katRev false (xs.map rk2)).getD i .non=rk2 xs[i]:=fun i hi=>by
    show (xs.map rk2).getD i .non=_
    rw[At7,Auh,Atx hi]
    rfl
   show ltD _ _=_
   rw[g i hi,g j hj,Ue]) (by lia)
  refine go (p.toList.map fun i=>xs.getD i default) hp hs ?_
  unfold Jp
  rw[At8 (by simpa using h2),Aud,e]
  show some (W.katRev false _)=_
  congr 1
  show (p.toList.map fun i=>(xs.map Mk.d).getD i .non)=_
  rw[Av1]
  refine List.map_congr_left fun i hi'=>?_
  have hlt:=hi i hi'
  rw[At7,Auh,Atx hlt]
  show xs[i].d=(xs.getD i default).d
  rw[At7,Atx hlt]
  rfl
def mks (es:List En) (t:Str):List Mk:=(sel es t).mergeSort fun x y=>!x.older y
theorem Hl (es:List En) (t:Str):(mks es t).Perm (sel es t):=List.mergeSort_perm _ _
theorem Ae8 (es:List En) (t:Str):(mks es t).Pairwise fun x y=>x.older y=false:=by
 have:=List.pairwise_mergeSort (le:=fun x y:Mk=>!x.older y) (fun a b c h1 h2=>by
  have h1:=Bool.not_eq_true' _ |>.mp h1
  have h2:=Bool.not_eq_true' _ |>.mp h2
  rw[Bool.not_eq_true']
  cases e:a.older c with
  |false=>rfl
  |true =>
   rcases Im a b c e with z|z
   ·rw[h1] at z;cases z
   ·rw[h2] at z;cases z) (fun a b=>by
  cases e:a.older b with
  |false=>rfl
  |true=>rw[Il e];rfl) (sel es t)
 exact this.imp fun h=>Bool.not_eq_true' _ |>.mp h
theorem Afq {es:List En} (h:Sh es) {t:Str}{x:Mk} (hx:x∈sel es t):x.ms.length<=2:=by
 obtain⟨e,he,_,rfl⟩:=Rz hx
 exact (h.ok e he).ms
theorem mks_mem {es:List En}{t:Str}{x:Mk}:x∈mks es t ↔ ∃ e∈es,e.nm=t/\e.mv=x:=by
 rw[(Hl es t).mem_iff]
 refine⟨Rz,fun⟨e,he,h1,h2⟩=>?_⟩
 unfold sel
 exact List.mem_map.mpr ⟨e,List.mem_filter.mpr ⟨he,by simpa using h1⟩,h2⟩
theorem Ri (es:List En) (t:Str):(mks es t).length<=es.length:=by rw[(Hl es t).length_eq];exact M6 es t
theorem Rg (es:List En) (h:Sh es) (t:Str) {Q:D->Prop}:W (Yt [.tup (es.map eD),.str t]) Q=Q (.lst ((mks es t).map Mk.d)):=W.eq <| by
 unfold Yt Aq2
 rw[A3]
 have hs:=M6 es t
 have h40:=h.len
 array_get_dec
 refine⟨by lia,Cq (fun e=>decide (e.nm=t)) (fun e=>e.mv.d) (fun e he=>?_) ?_⟩
 ·simp_arith[Tp,Yl]
  exact fun _=>trivial
 rw[show ((es.filter fun e=>decide (e.nm=t)).map fun e=>e.mv.d)=(sel es t).map Mk.d by unfold sel;rw[Av1];rfl]
 array_get_dec
 refine (Zw (sel es t) (fun x hx=>by have:=Afq h hx;lia) (by lia)).imp fun d ⟨ys,e,h3,h4⟩=>?_
 subst e
 array_get_dec
 rw[Rr (h3.trans (Hl es t).symm) h4 (Ae8 es t)]
theorem Y9 (es:List En) (h:Sh es) (t:Str) {Q:D->Prop}:W (N7 [.tup (es.map eD),.str t]) Q=Q (.lst ((mks es t).map Mk.d)):=W.eq <| by
 unfold N7 Ah7
 rw[A3]
 have hs:=M6 es t
 have h40:=h.len
 array_get_dec
 refine⟨by lia,Cq (fun e=>decide (e.nm=t)) (fun e=>e.mv.d) (fun e he=>?_) ?_⟩
 ·simp_arith[Tp,Yl]
  exact fun _=>trivial
 rw[show ((es.filter fun e=>decide (e.nm=t)).map fun e=>e.mv.d)=(sel es t).map Mk.d by unfold sel;rw[Av1];rfl]
 obtain⟨ys,hp,hpw,eo⟩:=Ad3 (fn:=Ee) (m:=[]) (xs:=sel es t) (fun x hx=>W.out (by rw[Ih x (by have:=Afq h hx;lia)])) (by lia)
 array_get_dec
 rw[eo,Ac]
 simp_arith[<- List.map_reverse,C3]
 rw[Rr ((List.reverse_perm ys).trans (hp.trans (Hl es t).symm)) (List.pairwise_reverse.mpr hpw) (Ae8 es t)]
noncomputable def wth (bk:List Bk) (t:Str) (x:Mk):List Bk:=bk.map fun b=>(b.1,if b.1=t then x else b.2)
theorem Pa (bk:List Bk) (hb:bk.length<=40) (t:Str) (x:Mk) {Q:D->Prop}:W (Ys [.tup (bk.map bD),.str t,x.d]) Q=Q (.tup ((wth bk t x).map bD)):=W.eq <| by
 unfold Ys Aq0
 rw[A3]
 array_get_dec
 refine⟨by lia,Bu (fun b=>bD (b.1,if b.1=t then x else b.2)) (fun b hb=>?_) ?_⟩
 ·unfold bD
  array_get_dec
  refine cK.dec (fun h=>?_) fun h=>?_
  ·array_get_dec
   rw[At4 h]
  ·array_get_dec
   rw[At8 h]
 ·array_get_dec
  rw[Abx (by rw[Aw];exact Ab fun b=>B4 _)]
  unfold wth
  rw[Av1];rfl
theorem Acw (bk:List Bk) (hb:bk.length<=40) (t:Str) (x:Mk) {Q:D->Prop}:W (Ob [.tup (bk.map bD),.str t,x.d]) Q=Q (.tup ((wth bk t x).map bD)):=W.eq <| by
 unfold Ob Aie
 rw[A3]
 array_get_dec
 refine Cv (fun rest e m=>∃ (dn:List Bk) (u v:Option D),dn++rest=bk/\m=[.lst ((wth dn t x).map bD)]/\e=[some (.tup (bk.map bD)),some (.str t),some x.d,some (.ref 0),u,v]) ?_ ?_ ⟨[],none,none,rfl,rfl,rfl⟩
 ·rintro ⟨n,y⟩ rest e m ⟨dn,u,v,hd,rfl,rfl⟩
  refine⟨trivial,?_⟩
  have ld:dn.length < bk.length:=by rw[<- hd];simp
  have lw:(wth dn t x).length=dn.length:=by unfold wth;simp
  unfold bD
  array_get_dec
  refine cK.dec (fun h=>?_) fun h=>?_
  ·array_get_dec
   exact⟨by lia,dn++[(n,y)],_,_,by rw[<- hd];simp,by simp[wth,h,bD],rfl⟩
  ·array_get_dec
   exact⟨by lia,dn++[(n,y)],_,_,by rw[<- hd];simp,by simp[wth,h,bD],rfl⟩
 ·rintro e m ⟨dn,u,v,hd,rfl,rfl⟩
  rw[Aue] at hd
  subst hd
  refine⟨trivial,?_⟩
  simp_arith[Ab B4]
theorem Asr {x:Mk}:∀ {l:List Mk},x∈l->(l.map Mk.d).findIdx? (fun d=>deq d x.d)=some (l.findIdx fun y=>decide (y=x))
 |[],h=>nomatch h
 |y::l,h=>by
  rw[At5,List.findIdx?_cons,List.findIdx_cons,Mk.deq]
  by_cases e:y=x
  ·simp[e]
  ·have:=Asr (l:=l) ((List.mem_cons.mp h).resolve_left (fun z=>e z.symm))
   simp[e,this]
theorem Abt {l:List Mk}{x:Mk} (h:x∈l) (hl:l.length<=1000) {m:MH}{Q:D->Prop}:W (Gx (.lst (l.map Mk.d)) [x.d] m) Q=Q (.int (l.findIdx fun y=>decide (y=x):Nat)):=by
 have e1:Ci m x.d=some x.d:=C6 x.pure
 have e2:Ci m (.lst (l.map Mk.d))=some (.lst (l.map Mk.d)):=by
  unfold Ci
  simp only
  rw[At4 (by rw[Bm];exact Ez l)]
 have e:Gx (.lst (l.map Mk.d)) [x.d] m=some (.int (l.findIdx fun y=>decide (y=x):Nat)):=by
  unfold Gx
  simp only[e1,e2,Auk]
  rw[show sqL [] (D.lst (l.map Mk.d))=some (l.map Mk.d) from rfl]
  simp only[Auk]
  have:=x.dep
  rw[At4 ⟨by lia,by simp;lia⟩,Asr h]
  rfl
 rw[e,Ac]
theorem Ti {α:Type}{xs:List α}{j:Nat} (h:j<=xs.length):Dz xs none (some ((j:Nat):Int))=xs.take j:=by
 unfold Dz
 have e1:HT.sIx xs.length 0 none=0:=rfl
 have e2:HT.sIx xs.length xs.length (some (j:Int))=j:=by
  rw[HT.sIx_nat];exact Nat.min_eq_left h
 rw[e1,e2,List.drop_zero,Nat.sub_zero]
def Rm (es:List En) (t:Str) (x:Mk):List Mk:=(mks es t).take ((mks es t).findIdx fun y=>decide (y=x))
def fits (es:List En) (ws:List Nd) (bk:List Bk) (t:Str) (x:Mk):Bool:=(brk es ws (wth bk t x)).isEmpty
theorem Zu {es:List En}{t:Str}{x y:Mk} (h:y∈Rm es t x):y∈mks es t:=List.mem_of_mem_take h
theorem Agj {es:List En}{bk:List Bk} (hb:BkOf es bk) {t:Str}{x:Mk} (hx:x∈mks es t):BkOf es (wth bk t x) where
 nd:=by
  have:(wth bk t x).map (·.1)=bk.map (·.1):=by unfold wth;rw[Av1];rfl
  rw[this];exact hb.nd
 of:=fun b h=>by
  unfold wth at h
  obtain⟨c,hc,rfl⟩:=List.mem_map.mp h
  by_cases e:c.1=t
  ·obtain⟨en,he,h1,h2⟩:=mks_mem.mp hx
   exact⟨en,he,h1.trans e.symm,by simp[e,h2]⟩
  ·obtain⟨en,he,h1,h2⟩:=hb.of c hc
   exact⟨en,he,h1,by simp[e,h2]⟩
theorem Abb {bk:List Bk} (hn:(bk.map (·.1)).Nodup) {t:Str}{x:Mk} (h:(t,x)∈bk):bk.find? (fun b=>b.1=t)=some (t,x):=by
 induction bk with
 |nil=>exact nomatch h
 |cons b bk ih =>
  rw[At5,List.nodup_cons] at hn
  rw[Avl]
  rcases List.mem_cons.mp h with e|h
  ·rw[<- e];simp
  ·have:b.1≠t:=fun z=>hn.1 (List.mem_map.mpr ⟨(t,x),h,z.symm⟩)
   simp[this,ih hn.2 h]
theorem Ali {x:Mk}{l:List D} (h:A1 l=true) {Q:D->Prop}:W (Bt [.lst l] (.tup [x.d,.ref 0])) Q=Q (.tup [x.d,.lst l]):=by
 have e1:Bt [.lst l] x.d=some x.d:=G1 x.pure
 have e2:Bt [.lst l] (.ref 0)=some (.lst l):=by rw[Bt];simp only[Av5,h,Awl]
 have e:Bt [.lst l] (.tup [x.d,.ref 0])=some (.tup [x.d,.lst l]):=by
  rw[Bt,Cz,e1,Auk,Cz,e2,Auk,Cz]
  rfl
 rw[e,Ac]
structure Snd (es:List En) (ws:List Nd) (bk:List Bk):Prop where
 of:BkOf es bk
 ok:brk es ws bk=[]
theorem Aef {bk:List Bk} (hn:(bk.map (·.1)).Nodup) {t:Str}{x:Mk} (h:(t,x)∈bk):wth bk t x=bk:=by
 unfold wth
 have:∀ b∈bk,(b.1,if b.1=t then x else b.2)=b:=fun b hb=>by
  by_cases e:b.1=t
  ·have h1:=Abb hn h
   have h2:=Abb hn (t:=b.1) (x:=b.2) hb
   rw[e] at h2
   rw[h1] at h2
   have h3:(t,x)=(t,b.2):=Au2 h2
   have h4:x=b.2:=Avz Prod.snd h3
   rw[At4 e,h4]
  ·rw[At8 e]
 exact (List.map_congr_left (g:=id) this).trans (List.map_id bk)
theorem Ug {x:Mk}:∀ {l:List Mk},x∈l->∃ r,l=l.take (l.findIdx fun y=>decide (y=x))++x::r
 |[],h=>nomatch h
 |y::l,h=>by
  rw[List.findIdx_cons]
  by_cases e:y=x
  ·exact⟨l,by simp[e]⟩
  ·obtain⟨r,hr⟩:=Ug (l:=l) ((List.mem_cons.mp h).resolve_left (fun z=>e z.symm))
   refine⟨r,?_⟩
   simp only[e,decide_false,cond_false,List.take_succ_cons,Avi,List.cons.injEq,true_and]
   exact hr
def Vw (es:List En) (ws:List Nd) (bk:List Bk) (t:Str) (y:Mk):D:=match brk es ws (wth bk t y) with
 |[]=>.non
 |n::_=>.tup [y.d,wD n]
theorem Ji (es:List En) (ws:List Nd) (bk:List Bk) (t:Str) (y:Mk):A2 (Vw es ws bk t y)=true:=by
 unfold Vw
 split
 ·rfl
 ·rw[Aw,Am,Am,Bg,y.pure,B5];rfl
theorem Zv (es:List En) (h:Sh es) (ws:List Nd) (hw:WtOk ws) (bk:List Bk) (s:Snd es ws bk) (t:Str) (x:Mk) (hx:(t,x)∈bk):W (N2 [.tup (es.map eD),.tup (ws.map nD),.tup (bk.map bD),.str t]) fun d=>∃ (dn:List Mk) (z:Mk) (r:List Mk),mks es t=dn++z::r/\(∀ y∈dn,fits es ws bk t y=false)/\fits es ws bk t z=true/\d=.tup [z.d,.lst (dn.map (Vw es ws bk t))]:=by
 have hb:=s.of
 unfold N2 Ahz
 rw[A3]
 have hbo:=hb.ok h
 have hbl:=hbo.len
 have hm:t∈bk.map (·.1):=List.mem_map.mpr ⟨_,hx,rfl⟩
 have hxm:x∈mks es t:=by obtain⟨e,he,h1,h2⟩:=hb.of _ hx;exact mks_mem.mpr ⟨e,he,h1,h2⟩
 have hml:=Ri es t
 have h40:=h.len
 obtain⟨r0,hr0⟩:=Ug hxm
 have hr0:mks es t=Rm es t x++x::r0:=hr0
 have hfx:fits es ws bk t x=true:=by unfold fits;rw[Aef s.of.nd hx,s.ok];rfl
 have e2:Aci (bk.map (·.1)) (bk.map fun b=>b.2.d) t=some x.d:=by rw[Tw (fun b:Bk=>b.1) (fun b=>b.2.d) bk t,Abb hb.nd hx];rfl
 simp_arith[Pj hb.nd,Au7 hm,Avf,Ab B7,Rg es h t,C3,e2,Ac,Abt hxm (by lia)]
 refine⟨rfl,?_⟩
 rw[Ti List.findIdx_le_length]
 show W (Hi B6 (As 7) _ ((Rm es t x).map Mk.d) _ _) _
 refine Cv (fun rest e m=>∃ (dn:List Mk) (u v:Option D),dn++rest=Rm es t x/\(∀ y∈dn,fits es ws bk t y=false)/\m=[.lst (dn.map (Vw es ws bk t))]/\e=[some (.tup (es.map eD)),some (.tup (ws.map nD)),some (.tup (bk.map bD)),some (.str t),some (.dks (bk.map (·.1)) (bk.map fun b=>b.2.d)),some (.lst ((mks es t).map Mk.d)),some (.ref 0),u,v]) ?_ ?_ ⟨[],none,none,rfl,fun _ h=>absurd h (by simp),rfl,rfl⟩
 ·rintro y rest e m ⟨dn,u,v,hd,hf,rfl,rfl⟩
  refine⟨trivial,?_⟩
  have hy:y∈mks es t:=Zu (by rw[<- hd];simp)
  have hwb:=(Agj hb hy).ok h
  have ldn:dn.length<=(Rm es t x).length:=by rw[<- hd];simp
  have lnw:(Rm es t x).length<=(mks es t).length:=by unfold Rm;rw[Ava];lia
  simp_arith[Ab B7,Ab Bs,Ab B4,Pa bk hbl t y,Ya es h ws hw (wth bk t y) hwb,Ab B5]
  cases hq:brk es ws (wth bk t y) with
  |nil =>
   simp_arith[Avm,List.isEmpty_nil,Avf,Av7]
   rw[Ali (Ab (Ji es ws bk t))]
   refine⟨dn,y,rest++x::r0,by rw[hr0,<- hd];simp,hf,by unfold fits;rw[hq];rfl,rfl⟩
  |cons n r =>
   simp_arith[At5,List.isEmpty_cons,Avf,Av7]
   refine⟨by lia,dn++[y],_,_,by rw[<- hd];simp,fun z hz=>?_,?_,rfl⟩
   ·rcases List.mem_append.mp hz with hz|hz
    ·exact hf z hz
    ·rw[List.mem_singleton.mp hz];unfold fits;rw[hq];rfl
   ·rw[Avg,At5,Avm]
    have:Vw es ws bk t y=.tup [y.d,wD n]:=by unfold Vw;rw[hq]
    rw[this]
 ·rintro e m ⟨dn,u,v,hd,hf,rfl,rfl⟩
  rw[Aue] at hd
  subst hd
  refine⟨trivial,?_⟩
  simp_arith[e2,Ac]
  rw[Ali (Ab (Ji es ws bk t))]
  exact⟨_,x,r0,hr0,hf,hfx,rfl⟩
mutual
theorem Ew:∀ {d:D},A2 d=true->deq d d=true
 |.non,_=>Alu
 |.bl b,_=>by rw[Tn];simp
 |.int b,_=>by rw[Bv];simp
 |.str b,_=>by rw[C1];simp
 |.tup ds,h=>by rw[Aw] at h;exact Nu h
 |.lst _,h=>by simp[A2] at h
 |.kl _,h=>by simp[A2] at h
 |.ref _,h=>by simp[A2] at h
 |.dic _ _,h=>by simp[A2] at h
 |.fn _ _,h=>by simp[A2] at h
 |.dks _ _,h=>by simp[A2] at h
 |.fz _ _ _ _,h=>by simp[A2] at h
theorem Nu:∀ {ds:List D},A1 ds=true->deq (.tup ds) (.tup ds)=true
 |[],_=>D1
 |d::ds,h=>by
  rw[Am,Aua] at h
  rw[Cc,Ew h.1,Nu h.2];rfl
end
theorem Atk {M:MH}{x y:MObj}:(M++[x]).set M.length y=M++[y]:=by simp
theorem Agi (n:Wn):dep (wD n)<=5:=by
 unfold wD
 rw[Cn]
 have:Dj [D.str n.1,.str n.2.1,.tup (n.2.2.map pD)]<=4:=Br fun d hd=>by
  simp only[Aup,Auf,or_false] at hd
  rcases hd with rfl|rfl|rfl
  ·rw[C0];lia
  ·rw[C0];lia
  ·exact Ai4 n.2.2
 lia
theorem Aqt (xs:List Wn):(dep (.lst (xs.map wD))<=60)=True:=by
 have h:Dj (xs.map wD)<=5:=Br fun d hd=>by
  obtain⟨x,_,rfl⟩:=List.mem_map.mp hd
  exact Agi x
 rw[dep]
 simp
 lia
theorem Aeo {x:D}{z:List D}{m:MH}{Q:D->Prop}:W (D3 x (.lst z) m) Q=W (Ci m x) fun x'=>W (Ci m (.lst z)) fun y'=>W (sq [] y') fun ds=>dep x'<=50/\Q (.bl (!ds.any fun d=>deq d x')):=by
 unfold D3 inO;rw[W_bind];simp only
 rw[W_bind];congr 1;funext x';rw[W_bind];congr 1;funext z;rw[W_bind];congr 1;funext z;rw[Jk,Ac]
def Acs (es:List En) (ws:List Nd) (bk:List Bk) (t:Str) (y:Mk):D:=.tup [y.d,.lst ((brk es ws (wth bk t y)).map wD)]
theorem Tt {p:Mk->Bool}:∀ {a c:List Mk}{x z:Mk}{b d:List Mk},a++x::b=c++z::d->(∀ y∈a,p y=false)->(∀ y∈c,p y=false)->p x=true->p z=true->a=c/\x=z
 |[],[],x,z,b,d,e,_,_,_,_=>by cases e;exact⟨rfl,rfl⟩
 |[],c::cs,x,z,b,d,e,_,hc,hx,_=>by cases e;rw[hc _ (At0 ..)] at hx;cases hx
 |a::as,[],x,z,b,d,e,ha,_,_,hz=>by cases e;rw[ha _ (At0 ..)] at hz;cases hz
 |a::as,c::cs,x,z,b,d,e,ha,hc,hx,hz=>by
  simp only[Avi,List.cons.injEq] at e
  obtain⟨h1,h2⟩:=Tt e.2 (fun y hy=>ha y (Atz _ hy)) (fun y hy=>hc y (Atz _ hy)) hx hz
  exact⟨by rw[e.1,h1],h2⟩
theorem Ady (es:List En) (h:Sh es) (ws:List Nd) (hw:WtOk ws) (bk:List Bk) (s:Snd es ws bk) (t:Str) {dn r:List Mk}{z:Mk} (hm:mks es t=dn++z::r) (hf:∀ y∈dn,fits es ws bk t y=false) (hz:fits es ws bk t z=true) :
  W (N8 [.tup (es.map eD),.tup (ws.map nD),.tup (bk.map bD),.str t,.tup [z.d,.lst (dn.map (Vw es ws bk t))]]) fun d=>d=.bl true:=by
 unfold N8 Ah8
 rw[A3]
 have hb:=s.of
 have hbl:=(hb.ok h).len
 have hml:=Ri es t
 have h40:=h.len
 have hlm:dn.length<=40:=by rw[hm] at hml;simp at hml;lia
 simp_arith[Ab B7,Y9 es h t,C3]
 refine cK.mk (fun q=>absurd q (by decide)) fun _=>?_
 refine Cv (fun rest e m=>∃ (pre:List Mk) (u v w x:Option D),pre++rest=mks es t/\(∀ y∈pre,fits es ws bk t y=false)/\m=[.lst (pre.map (Acs es ws bk t))]/\e=[some (.tup (es.map eD)),some (.tup (ws.map nD)),some (.tup (bk.map bD)),some (.str t),some (.tup [z.d,.lst (dn.map (Vw es ws bk t))]),some (.ref 0),u,v,w,x]) ?_ ?_ ⟨[],none,none,none,none,rfl,fun _ h=>absurd h (by simp),rfl,rfl⟩
 ·rintro y rest e m ⟨pre,u,v,w,x,hd,hp,rfl,rfl⟩
  refine⟨trivial,?_⟩
  have hy:y∈mks es t:=by rw[<- hd];simp
  have hwb:=(Agj hb hy).ok h
  have hat:=Gk es h ws hw.len (wth bk t y)
  have hnil:deq (.lst ((brk es ws (wth bk t y)).map wD)) (.lst [])=fits es ws bk t y:=by unfold fits;cases brk es ws (wth bk t y)<;>rfl
  have hr:Au ((brk es ws (wth bk t y)).map wD)=true:=A7 (Ab B5)
  have hpl:pre.length<=40:=by have:=Avz List.length hd;simp at this;lia
  simp_arith[Ab B7,Ab Bs,Ab B4,Acw bk hbl t y,U3 es h ws hw (wth bk t y) hwb,Ab B5,Aqt,hnil]
  refine⟨hr,rfl,cK.mk (fun hfy=>?_) fun hfy=>?_⟩
  ·obtain⟨rfl,rfl⟩:=Tt (hd.trans hm) hp hf hfy hz
   simp_arith[y.pure,Ew y.pure]
   refine⟨⟨by lia,by lia⟩,?_⟩
   rw[Int.toNat_natCast]
   refine Jt (fun k e m=>m=[.lst (pre.map (Acs es ws bk t))]/\∃ a b,e=[some (.tup (es.map eD)),some (.tup (ws.map nD)),some (.tup (bk.map bD)),some (.str t),some (.tup [y.d,.lst (pre.map (Vw es ws bk t))]),some (.ref 0),some y.d,some (.lst ((brk es ws (wth bk t y)).map wD)),a,b]) ?_ ?_ ⟨rfl,_,_,rfl⟩
   ·rintro k e m hk ⟨rfl,a,b,rfl⟩
    refine⟨trivial,?_⟩
    have hq:pre[k]∈pre:=Auz hk
    have hfq:=hp _ hq
    have hqm:pre[k]∈mks es t:=by rw[hm];exact Auq _ hq
    simp_arith[Int.zero_add,Dw hk]
    cases hb2:brk es ws (wth bk t pre[k]) with
    |nil=>unfold fits at hfq;rw[hb2] at hfq;cases hfq
    |cons n l =>
     have e1:Vw es ws bk t pre[k]=.tup [pre[k].d,wD n]:=by unfold Vw;rw[hb2]
     have e2:Acs es ws bk t pre[k]=.tup [pre[k].d,.lst (wD n::l.map wD)]:=by unfold Acs;rw[hb2];rfl
     have hrl:Au (wD n::l.map wD)=true:=A7 (by rw[Am,B5,Ab B5];rfl)
     have hdw:dep (wD n)<=50:=Aug (Agi n) (by decide)
     have hany:((wD n::l.map wD).any fun d=>deq d (wD n))=true:=by rw[Avd,Ew (B5 n)];rfl
     simp_arith[e1,e2,pre[k].pure,Ew pre[k].pure,Aeo,B5]
     refine⟨hrl,hdw,?_⟩
     rw[Ew (B5 n)]
     exact cK.mk (fun q=>absurd q (by simp)) fun _=>cK.mk (fun q=>absurd q (by decide)) fun _=>⟨_,_,rfl⟩
   ·rintro e m ⟨rfl,a,b,rfl⟩
    refine⟨trivial,?_⟩
    array_get_dec
  ·refine⟨by lia,pre++[y],_,_,_,_,by rw[<- hd];simp,fun q hq=>?_,?_,rfl⟩
   ·rcases List.mem_append.mp hq with hq|hq
    ·exact hp q hq
    ·rw[List.mem_singleton.mp hq];exact hfy
   ·rw[Avg];rfl
 ·rintro e m ⟨pre,u,v,w,x,hd,hp,rfl,rfl⟩
  rw[Aue] at hd
  subst hd
  rw[hp z (by rw[hm];simp)] at hz
  cases hz
end K44a
end S_YC
section S_YI
namespace K44a
open PySem L2 L2.ML
set_option hygiene false in
local macro_rules|`(tactic| simp_arith[$a,*])=>`(tactic| ((try dsimp only[mp1,mp2,mp3,ln1,ln2,ln3,List.replicate,Nat.reduceAdd,Nat.reduceSub]);simp only[↓Ahf,↓Ahe,↓Ra,↓P9,↓A3,↓R4,↓R5,↓R0,↓R3,↓Xw,↓Xu,↓Xv,↓Pq,↓Abm,↓Ab0,↓Ag1,↓Apu,↓Apt,↓Aps,↓Xh,↓Pp,↓Pl,↓Lm,↓Agp,↓Xa,↓Xf,↓Ln,↓Hq,↓Agl,↓Tc,↓X1,↓X3,↓X2,↓V7,↓Agr,↓Xb,↓Pk,↓Xc,↓Pn,↓Ago,↓Ags,↓Agq,↓Po,↓Agm,↓Nk,↓Xe,↓Akc,↓Aa5,↓V8,↓V9,↓Td,↓Pm,↓Dx,↓Dk,↓V2,↓V3,↓X0,↓Xp,↓V6,↓Xo,↓Agz,↓Agt,↓Apr,↓Ap2,↓Eu,↓Agw,↓Agv,↓Agx,↓Xm,↓Xk,↓Xj,↓Xl,↓Xy,↓Agu,↓Ll,↓Gj,↓Gi,↓Pt,↓Lp,↓Pv,↓Pu,↓Ag4,↓Ag6,↓Ag7,↓Ag5,↓Gf,↓Gg,↓De,↓Dy,↓Ag9,↓Aha,↓Ahb,↓X6,↓X5,↓X4,↓Aso,↓Asm,↓Asn,↓Pw,↓Aj8,↓Xs,↓Nb,↓Na,↓M9,↓Nc,↓Gm,↓Aqc,↓Aph,↓Aqd,↓Ap3,↓Apw,↓Api,↓Aqe,↓Ap4,↓Apx,↓Apj,↓Aqf,↓Ap5,↓Apy,↓Apk,↓Aqg,↓Ap6,↓Apz,↓Apl,↓Aqh,↓Ap7,↓Ap0,↓Apm,↓Aqi,↓Ap8,↓Ap1,↓Apn,↓Aqj,↓Ap9,↓Apo,↓Aqk,↓Aqa,↓App,↓Aql,↓Aqb,↓Apq,↓Ag8,Avf,Av7,Abm,Ab0,↓Abv,↓Xx,↓Xz,↓Xt,↓Zp,↓Xq,↓Gh,↓Lo,↓Xr,↓Tb,↓Ph,↓V5,↓Xd,↓Aa2,↓Xn,↓Agy,↓Um,Aur,Awr,Aud,Awe,Avi,At5,Avm,List.replicate,List.set_cons_zero,List.set_cons_succ,Nat.reduceAdd,Nat.reduceSub,Nat.zero_add,true_and,Bv,C1,Tn,Bl,C0,Lx,Gw,decide_true,decide_false,Lu,Hs,Av5,Avc,Auk,_root_.id,Um,Abx,Pr,Ey,Bf,Bx,Aw,Bg,Am,Dq,Bool.and_self,Bool.and_true,Bool.true_and,Mk.pure,Mark.pure,Es,C3,↓Pe,↓Pf,↓V4,↓Abq,Aqs,↓Me,↓Md,↓Mc,↓Mf,Int.reduceEq,Int.reduceLT,Int.reduceLE,Int.reduceAdd,Int.reduceSub,Int.reduceMul,Int.reduceToNat,Int.reducePow,Int.reduceNeg,Int.reduceMod,Int.reduceDiv,Nat.reduceLeDiff,Nat.reduceMul,Nat.reduceEqDiff,Nat.reducePow,Nat.reduceLT,and_true,and_self,true_or,or_true,At3,Int.le_refl,Auw,↓Ma,↓L9,↓L8,↓Mb,Rv,Au3,Bool.true_eq_false,Ij,Zh,P4,Mark.deq,Mk.deq,Int.zero_add,↓Zi,↓Zj,↓Zk,↓Zl,Avd,List.any_nil,Ave,List.all_nil,Bool.false_or,Bool.true_or,Awm,Bool.false_and,↓Pg,↓Mi,↓Mh,↓Mg,↓Mj,Ze,Mq,Iq,E4,↓Aab,↓Aac,↓Aad,↓Zz,Option.isNone_none,Option.isNone_some,Awg,Av3,Ez,Lw,bne_self_eq_false,↓Ahc,↓Xi,↓Ala,↓Aer,↓Aeq,↓Alh,↓Alf,↓Ale,↓Alc,↓Aen,↓Ael,↓Aem,↓Ald,↓Apv,↓Ag2,↓Aep,↓Abr,↓Aqo,↓Aqn,$a,*]))
set_option hygiene false in
local macro_rules|`(tactic| array_get_dec)=>`(tactic| try simp_arith[true_and])
theorem Aa0 {bk:List Bk} (hn:(bk.map (·.1)).Nodup) {a b:List D}{t:Str} (ht:t∉bk.map (·.1)) (hl:t.length<=1000):Tv [.tup a,.tup b,.tup (bk.map bD),.str t]=true:=by
 unfold Tv Asc
 refine Akr ?_
 simp_arith[Pj hn]
 refine⟨_,_,rfl,Ao1 ?_⟩
 simp_arith[Auu ht,Av7]
 exact Akq (by array_get_dec;exact⟨t,rfl,hl⟩)
theorem Vk (es:List En) (ws:List Nd) (bk:List Bk) (hn:(bk.map (·.1)).Nodup) (t:Str) (ht:t∉bk.map (·.1)) (hl:t.length<=1000) {Q:D->Prop}:W (Nx [.tup (es.map eD),.tup (ws.map nD),.tup (bk.map bD),.str t]) Q=Q (.bl true):=W.eq <| by
 unfold Nx Aht
 rw[A3]
 simp_arith[Ab B7,Ab Bs,Ab B4,Aa0 hn ht hl]
 unfold As5
 simp only[List.set]
 array_get_dec
theorem Aet (x y:Bk):deq (bD x) (bD y)=decide (x=y):=by
 unfold bD
 rw[Cc,Cc,D1,C1,Mk.deq]
 by_cases h1:x.1=y.1<;>by_cases h2:x.2=y.2<;>simp[h1,h2,Prod.ext_iff]
theorem Alm (b:Bk):dep (bD b)<=3:=by
 unfold bD
 rw[Cn]
 have:Dj [D.str b.1,b.2.d]<=2:=Br fun d hd=>by
  simp only[Aup,Auf,or_false] at hd
  rcases hd with rfl|rfl
  ·rw[C0];lia
  ·exact b.2.dep
 lia
def snE (bk:List Bk) (e:En):En:=if (e.nm,e.mv)∈bk then ⟨e.nm,e.mv,e.nd.filter (kept bk)⟩ else e
theorem O2 (bk:List Bk) (e:En):(snE bk e).nm=e.nm:=by unfold snE;split<;>rfl
theorem Lb (bk:List Bk) (e:En):(snE bk e).mv=e.mv:=by unfold snE;split<;>rfl
theorem Aa7 (bk:List Bk) (e:En):(snE bk e).nd.Sublist e.nd:=by
 unfold snE
 split
 ·exact List.filter_sublist
 ·exact List.Sublist.refl _
theorem Aok {bk:List Bk}{e:En} (h:EnOk e):EnOk (snE bk e) where
 nm:=by rw[O2];exact h.nm
 ms:=by rw[Lb];exact h.ms
 pos:=by rw[Lb];exact h.pos
 sp:=fun n hn=>h.sp n ((Aa7 bk e).subset hn)
 len:=by have:=(Aa7 bk e).length_le;have:=h.len;lia
theorem Ase {es:List En} (h:Sh es) (bk:List Bk):Sh (es.map (snE bk)) where
 ok:=fun e he=>by obtain⟨r,hr,rfl⟩:=List.mem_map.mp he;exact Aok (h.ok r hr)
 len:=by rw[Aud];exact h.len
 dst:=by
  rw[List.pairwise_map]
  exact h.dst.imp fun {a b} hab=>by unfold Dst at hab ⊢;rw[O2,O2,Lb,Lb];exact hab
theorem Asd {es:List En}{bk:List Bk} (b:BkOf es bk):BkOf (es.map (snE bk)) bk where
 nd:=b.nd
 of:=fun x hx=>by
  obtain⟨e,he,h1,h2⟩:=b.of x hx
  exact⟨_,List.mem_map.mpr ⟨e,he,rfl⟩,by rw[O2];exact h1,by rw[Lb];exact h2⟩
theorem Aol {es:List En}{ws:List Nd}{bk:List Bk}:brk (es.map (snE bk)) (ws.filter (kept bk)) bk=[]:=by
 unfold brk
 rw[List.filter_eq_nil_iff]
 intro n hn
 have:kept bk n.2=true:=by
  unfold atw at hn
  rcases List.mem_append.mp hn with hn|hn
  ·obtain⟨z,hz,rfl⟩:=List.mem_map.mp hn
   exact (List.mem_filter.mp hz).2
  ·obtain⟨b,hb,hn⟩:=List.mem_flatMap.mp hn
   obtain⟨z,hz,rfl⟩:=List.mem_map.mp hn
   unfold Zt at hz
   cases e:(es.map (snE bk)).find? (isE b.1 b.2) with
   |none=>rw[e] at hz;simp at hz
   |some r =>
    rw[e] at hz
    obtain⟨r',hr',rfl⟩:=List.mem_map.mp (List.mem_of_find?_eq_some e)
    have h2:isE b.1 b.2 (snE bk r')=true:=List.find?_some e
    have h2:(snE bk r').nm=b.1/\(snE bk r').mv=b.2:=Au1 h2
    rw[O2,Lb] at h2
    have hz:z∈(snE bk r').nd:=hz
    unfold snE at hz
    rw[At4 (by rw[h2.1,h2.2];exact hb)] at hz
    exact (List.mem_filter.mp hz).2
 rw[this];simp
theorem inB {bk:List Bk}{t:Str}{x:Mk}:((bk.map bD).any fun d=>deq d (.tup [.str t,x.d]))=decide ((t,x)∈bk):=by
 rw[Avr,List.any_eq_true,Awi]
 constructor
 ·rintro ⟨d,hd,h⟩
  obtain⟨b,hb,rfl⟩:=List.mem_map.mp hd
  have h:deq (bD b) (bD (t,x))=true:=h
  rw[Aet] at h
  rw[<- Au1 h];exact hb
 ·exact fun h=>⟨bD (t,x),List.mem_map.mpr ⟨_,h,rfl⟩,by show deq (bD (t,x)) (bD (t,x))=true;rw[Aet];simp⟩
theorem Vl (es:List En) (h:Sh es) (ws:List Nd) (hw:WtOk ws) (bk:List Bk) (hb:BkOf es bk) {Q:D->Prop}:W (Yw [.tup (es.map eD),.tup (ws.map nD),.tup (bk.map bD)]) Q=Q (.tup [.tup ((es.map (snE bk)).map eD),.tup ((ws.filter (kept bk)).map nD)]):=W.eq <| by
 unfold Yw Aq5
 rw[A3]
 have hbo:=hb.ok h
 have h40:=h.len
 have hw4:=hw.len
 array_get_dec
 refine Cv (fun rest e m=>∃ (dn:List En) (u v w:Option D),dn++rest=es/\m=[.lst ((dn.map (snE bk)).map eD)]/\e=[some (.tup (es.map eD)),some (.tup (ws.map nD)),some (.tup (bk.map bD)),some (.ref 0),u,v,w]) ?_ ?_ ⟨[],none,none,none,rfl,rfl,rfl⟩
 ·rintro r rest e m ⟨dn,u,v,w,hd,rfl,rfl⟩
  refine⟨trivial,?_⟩
  have hr:r∈es:=by rw[<- hd];simp
  have ld:dn.length < es.length:=by rw[<- hd];simp
  have hro:=h.ok r hr
  have hrl:=hro.len
  have er:eD r=D.tup [D.str r.nm,r.mv.d,.tup (r.nd.map nD)]:=rfl
  simp_arith[er,Ab B4,Abv,inB]
  refine⟨by have:=Alm (r.nm,r.mv);exact Aug this (by decide),cK.dec (fun hq=>?_) fun hq=>?_⟩
  ·refine⟨by lia,Cq (kept bk) nD (fun n hn=>?_) ?_⟩
   ·simp_arith[Bs,Ab B4,Rf bk hbo n (hro.sp n hn)]
    exact fun _=>trivial
   refine⟨by lia,dn++[r],_,_,_,by rw[<- hd];simp,?_,rfl⟩
   simp[snE,hq,eD]
  ·refine⟨by lia,dn++[r],_,_,_,by rw[<- hd];simp,?_,rfl⟩
   simp[snE,hq,eD]
 ·rintro e m ⟨dn,u,v,w,hd,rfl,rfl⟩
  rw[Aue] at hd
  subst hd
  refine⟨trivial,?_⟩
  array_get_dec
  refine⟨by lia,Cq (kept bk) nD (fun n hn=>?_) ?_⟩
  ·simp_arith[Bs,Ab B4,Rf bk hbo n (hw.sp n hn)]
   exact fun _=>trivial
  simp_arith[Ab B7,Ab Bs]
theorem Abj {ws:List Nd} (h:WtOk ws) (p:Nd->Bool):WtOk (ws.filter p):=⟨fun n hn=>h.sp n (List.mem_filter.mp hn).1,by have:=List.length_filter_le p ws;have:=h.len;lia⟩
theorem Zs {bk:List Bk}{t:Str}:((bk.map fun b=>D.str b.1).any fun d=>deq d (.str t))=decide (t∈bk.map (·.1)):=by
 rw[Avr,List.any_eq_true,Awi]
 constructor
 ·rintro ⟨d,hd,h⟩
  obtain⟨b,hb,rfl⟩:=List.mem_map.mp hd
  rw[C1] at h
  exact List.mem_map.mpr ⟨b,hb,Au1 h⟩
 ·intro h
  obtain⟨b,hb,e⟩:=List.mem_map.mp h
  exact⟨.str b.1,List.mem_map.mpr ⟨b,hb,rfl⟩,by rw[C1];simp[e]⟩
theorem Ahj {α:Type} (xs:List α):Dz xs none (some 1)=xs.take 1:=by
 cases xs with
 |nil=>unfold Dz;simp
 |cons x l=>exact Ti (xs:=x::l) (j:=1) (by simp)
theorem Aba (ns:List Int) (hl:ns.length<=63) (es:List En) (h:Sh es) (n:Int) (h0:0<=n) (h1:n<=63):W (R9 [some (.kl (ns.map .int)),some (.tup (es.map eD)),some (.int n),none,none,none,none,none,none,none,none] []) (Aly fun d=>d=.bl true):=by
 unfold R9
 array_get_dec
 refine⟨⟨by lia,by lia⟩,Jt (fun k e m=>∃ a1 a2 a3 a4 a5 a6 a7 a8,e=[some (.kl (ns.map .int)),some (.tup (es.map eD)),some (.int n),a1,a2,a3,a4,a5,a6,a7,a8]) ?_ ?_ ⟨_,_,_,_,_,_,_,_,rfl⟩⟩
 ·rintro k e m hk ⟨a1,a2,a3,a4,a5,a6,a7,a8,rfl⟩
  refine⟨trivial,?_⟩
  array_get_dec
  refine (P0 ns hl _ (by lia) (by lia)).imp fun d ⟨c,e⟩=>?_
  subst e
  simp_arith[Ab B7]
  refine (Ahd (c / 5) es h).imp fun d ⟨bk,e,hb⟩=>?_
  subst e
  refine (Aee (c / 3)).imp fun d ⟨ws,e,hw⟩=>?_
  subst e
  simp_arith[Ab B7,Ab Bs,Ab B4,Vl es h ws hw bk hb]
  have hs:Snd (es.map (snE bk)) (ws.filter (kept bk)) bk:=⟨Asd hb,Aol⟩
  have hE:=Ase h bk
  have hW:=Abj hw (kept bk)
  have hbl:=(hb.ok h).len
  generalize es.map (snE bk)=fs at hs hE
  generalize ws.filter (kept bk)=vs at hs hW
  refine⟨by lia,Bu (fun b:Bk=>.str b.1) (fun b _=>?_) ?_⟩
  ·unfold bD;array_get_dec
  rw[Ahj,<- List.map_take,<- Avg]
  have ht1:(bk.take 1).length<=bk.length:=by rw[Ava];lia
  refine⟨by simp only[Aud];lia,?_⟩
  refine Cv (fun rest e m=>(∀ b∈rest,b∈bk)/\∃ u v,e=[some (.kl (ns.map .int)),some (.tup (es.map eD)),some (.int n),some (.int k),some (.int c),some (.tup (bk.map bD)),some (.tup (fs.map eD)),some (.tup (vs.map nD)),some (.lst (bk.map fun b=>.str b.1)),u,v]) ?_ ?_ ⟨fun b hb'=>?_,_,_,rfl⟩
  ·rintro ⟨t,x⟩ rest e m ⟨hi,u,v,rfl⟩
   refine⟨trivial,?_⟩
   have hx:(t,x)∈bk:=hi _ (At0 ..)
   simp_arith[Ab B7,Ab Bs,Ab B4]
   refine (Zv fs hE vs hW bk hs t x hx).imp fun d ⟨dn,z,r,g1,g2,g3,e⟩=>?_
   subst e
   have gl:dn.length<=40:=by have q1:=Ri fs t;have q2:=hE.len;rw[g1] at q1;simp at q1;lia
   have pw:A1 (dn.map (Vw fs vs bk t))=true:=Ab (Ji fs vs bk t)
   rw[Aep]
   refine⟨⟨z.pure,pw⟩,?_⟩
   simp only[List.set]
   simp_arith[Abw (show A2 (.tup (fs.map eD))=true by rw[Aw];exact Ab B7),Abw (show A2 (.tup (vs.map nD))=true by rw[Aw];exact Ab Bs),Abw (show A2 (.tup (bk.map bD))=true by rw[Aw];exact Ab B4),Abw (show A2 (.str t)=true from rfl),Aqp z.pure pw]
   refine (Ady fs hE vs hW bk hs t g1 g2 g3).imp fun d e=>?_
   subst e
   simp_arith[Avf,sqA,Atk]
   exact⟨by lia,fun b hb'=>hi b (Atz _ hb'),_,_,rfl⟩
  ·rintro e m ⟨_,u,v,rfl⟩
   refine⟨trivial,?_⟩
   array_get_dec
   refine (Nh (c % 8) (by lia) (by lia)).imp fun d ⟨t0,e,ht0⟩=>?_
   subst e
   array_get_dec
   have hlen:∀ t∈[t0,Str.ofString "q",Str.ofString "abcdefg"],t.length<=1000:=fun t ht=>by
    simp only[Aup,Auf,or_false] at ht
    rcases ht with rfl|rfl|rfl
    ·unfold titles at ht0
     simp only[Aup,Auf,or_false] at ht0
     rcases ht0 with rfl|rfl|rfl|rfl|rfl|rfl|rfl|rfl<;>decide
    ·decide
    ·decide
   show W (Hi B6 (As 9) _ ([t0,Str.ofString "q",Str.ofString "abcdefg"].map D.str) _ m) _
   refine Cv (fun rest e m=>(∀ t∈rest,t.length<=1000)/\∃ u v,e=[some (.kl (ns.map .int)),some (.tup (es.map eD)),some (.int n),some (.int k),some (.int c),some (.tup (bk.map bD)),some (.tup (fs.map eD)),some (.tup (vs.map nD)),some (.lst (bk.map fun b=>.str b.1)),u,v]) ?_ ?_ ⟨hlen,_,_,rfl⟩
   ·rintro t rest e m ⟨hi,u,v,rfl⟩
    refine⟨trivial,?_⟩
    have hnr:Au (bk.map fun b=>D.str b.1)=true:=A7 (Ab fun _=>rfl)
    simp_arith[Aeo,hnr,C0,Zs]
    have hi':∀ q∈rest,q.length<=1000:=fun q hq=>hi q (Atz _ hq)
    refine cK.mk (fun hq=>?_) fun _=>⟨hi',_,_,rfl⟩
    have hnot:t∉bk.map (·.1):=fun z=>by rw[Au7 z] at hq;cases hq
    simp_arith[Ab B7,Ab Bs,Ab B4,Vk fs vs bk hb.nd t hnot (hi t (At0 ..)),Avf]
    exact⟨hi',_,_,rfl⟩
   ·rintro e m ⟨_,u,v,rfl⟩
    refine⟨trivial,?_⟩
    array_get_dec
    exact⟨_,_,_,_,_,_,_,_,rfl⟩
  ·rcases List.mem_append.mp hb' with hb'|hb'
   ·exact hb'
   ·exact List.mem_of_mem_take hb'
 ·rintro e m ⟨a1,a2,a3,a4,a5,a6,a7,a8,rfl⟩
  refine⟨trivial,?_⟩
  array_get_dec
theorem law_true (ns:List Int) (hl:ns.length<=63):Hw [.kl (ns.map .int)]=some (.bl true):=W.out <| by
 unfold Hw Ahs
 rw[A3]
 array_get_dec
 refine (Ad1 ns hl 1 (by decide) (by decide)).imp fun d ⟨es,e,h⟩=>?_
 subst e
 have hc:=Yh (xs:=ns) (lo:=some 41) (hi:=some 61)
 array_get_dec
 exact cK.dec (fun _=>Aba ns hl es h _ (by split<;>split<;>lia) (by split<;>split<;>lia)) fun _=>Aba ns hl es h _ (by split<;>lia) (by split<;>lia)
end K44a
end S_YI
section S_K44h
namespace K44a
open PySem L2 L2.ML
noncomputable section
theorem all_mk {l:W.OpenLaw}{w:World}{K:W.Frag}{h:Heap}{mg:Str->Option Value}{fa:Addr} (X:K.In h) (G:h.Ns mainGlobals mg) (hfa:mg "law"=some (.ref fa))
  (f0:FM K "mark_rank" Aoq)
  (f1:FM K "rank" Agd)
  (f2:FM K "is_older" Aos)
  (f3:FM K "newest_first" Aoo)
  (f4:FM K "lies_in" Afs)
  (f5:FM K "makes_of" Aot)
  (f6:FM K "needs_of" Aou)
  (f7:FM K "needs_at_work" Aon)
  (f8:FM K "is_kept" Aft)
  (f9:FM K "broken" Afw)
  (f10:FM K "with_make" Aor)
  (f11:FM K "newest" Afx)
  (f12:FM K "_law_cell" Af7)
  (f13:FM K "_law_draws" Afy)
  (f14:FM K "_law_make" Af8)
  (f15:FM K "_law_next" Af9)
  (f16:FM K "_law_key" Age)
  (f17:FM K "_law_great" Afz)
  (f18:FM K "_law_need_span" Aop)
  (f19:FM K "_law_title" Af0)
  (f20:FM K "_law_needs" Af1)
  (f21:FM K "_law_entry" Af2)
  (f22:FM K "_law_shelf" Af3)
  (f23:FM K "_law_lies" Aga)
  (f24:FM K "_law_wants" Af4)
  (f25:FM K "_law_book" Agb)
  (f26:FM K "_law_is_met" Afu)
  (f27:FM K "_law_at_work" Aov)
  (f28:FM K "_law_broken" Afv)
  (f29:FM K "_law_sounded" Aow)
  (f30:FM K "_law_with" Agc)
  (f31:FM K "_law_makes" Af5)
  (f32:FM K "_law_right" Af6)
  (f33:FM K "_law_refused" Afr)
  {a_law:Addr}{oc_law kV_law dc_law pm_law cd_law ct_law:Value}{od_law an_law:Option Addr}{sl_law:Array (Option Value)} (n_law:W.nsIn K mainGlobals "law"=some (some (.ref a_law))) (l_law:K.lookup a_law=some ⟨oc_law,od_law,.func (W.fnOf "law" "law" (El O4) (Cm O4) (Ar O4) .none kV_law dc_law pm_law an_law cd_law ct_law),sl_law⟩) (c_law:W.codeIn K cd_law "law"=true) (k_law:W.keepIn K (.ref a_law)=true)
  (z_dict:W.nsIn K mainGlobals "dict"=some none)
  (z_int:W.nsIn K mainGlobals "int"=some none)
  (z_isinstance:W.nsIn K mainGlobals "isinstance"=some none)
  (z_len:W.nsIn K mainGlobals "len"=some none)
  (z_list:W.nsIn K mainGlobals "list"=some none)
  (z_max:W.nsIn K mainGlobals "max"=some none)
  (z_min:W.nsIn K mainGlobals "min"=some none)
  (z_range:W.nsIn K mainGlobals "range"=some none)
  (z_set:W.nsIn K mainGlobals "set"=some none)
  (z_sorted:W.nsIn K mainGlobals "sorted"=some none)
  (z_str:W.nsIn K mainGlobals "str"=some none)
  (z_tuple:W.nsIn K mainGlobals "tuple"=some none)
  {a_NoName:Addr} (n_NoName:W.nsIn K mainGlobals "NoName"=some (some (.ref a_NoName)))
  {a_SpanError:Addr} (n_SpanError:W.nsIn K mainGlobals "SpanError"=some (some (.ref a_SpanError)))
  {a_NoLine:Addr} (n_NoLine:W.nsIn K mainGlobals "NoLine"=some (some (.ref a_NoLine)))
  {a_NoShelf:Addr} (n_NoShelf:W.nsIn K mainGlobals "NoShelf"=some (some (.ref a_NoShelf)))
  {a_NoSpan:Addr} (n_NoSpan:W.nsIn K mainGlobals "NoSpan"=some (some (.ref a_NoSpan)))
  {a_Stuck:Addr} (n_Stuck:W.nsIn K mainGlobals "Stuck"=some (some (.ref a_Stuck)))
  (xm:W.excIn K a_NoName [.type "ValueError",.type "Exception",.type "BaseException",.type "object"] "ValueError.__new__"=true)
  (x1:(W.clsIn K a_NoName).isSome=true)
  (x2:W.findIn K (.ref a_NoName) "__getattribute__"=some (some (.builtin "BaseException.__getattribute__")))
  (x3:W.findIn K (.ref a_NoName) "__getattr__"=some none)
  (x4:W.findIn K (.ref a_NoName) "__class__"=some (some (.builtin "object.__class__")))
  (x5:W.specialIn K (.builtin "object.__class__") "__get__"=some (some (.builtin "getset_descriptor.__get__")))
  (x6:W.takesIn K (.builtin "object.__class__")=some true)
  (x7:W.mroIn K a_NoName (.type "object")=some true)
  (x8:W.mroIn K a_NoName (.type "BaseException")=some true)
  (xt_SpanError:W.exmOne K (.ref a_NoName) (.ref a_SpanError)=some true)
  (xk_NoName:W.kitOne K (.ref a_NoName) (.ref a_NoName)=some true)
  (xz_ValueError:W.nsIn K mainGlobals "ValueError"=some none)
  (xk_ValueError:W.kitOne K (.ref a_NoName) (.type "ValueError")=some true)
  (xk_NoLine:W.kitOne K (.ref a_NoName) (.ref a_NoLine)=some false)
  (xk_NoShelf:W.kitOne K (.ref a_NoName) (.ref a_NoShelf)=some false)
  (xk_NoSpan:W.kitOne K (.ref a_NoName) (.ref a_NoSpan)=some false)
  (xk_Stuck:W.kitOne K (.ref a_NoName) (.ref a_Stuck)=some false) :
  ∃ fd:FuncData,(∀ (s:Shared) (v:Value),BindsTo s fd ⟨[v],[]⟩ [("_law_script",v)])/\∀ base:Heap,K.In base->base.Ns mainGlobals mg->FnOk l.prog w K mg base CX0 9 fa fd ["_law_script"] (spP K 1 Hw):=by
 have e:=hfa.symm.trans (W.mg_of X G n_law)
 cases e
 have T:Txt K mg :=⟨f0.fd1 X G,f1.fd1 X G,f2.fd2 X G,f3.fd1 X G,f4.fd2 X G,f5.fd2 X G,f6.fd3 X G,f7.fd3 X G,f8.fd2 X G,f9.fd3 X G,f10.fd3 X G,f11.fd4 X G,f12.fd2 X G,f13.fd2 X G,f14.fd1 X G,f15.fd1 X G,f16.fd1 X G,f17.fd1 X G,f18.fd2 X G,f19.fd1 X G,f20.fd2 X G,f21.fd1 X G,f22.fd2 X G,f23.fd2 X G,f24.fd1 X G,f25.fd2 X G,f26.fd2 X G,f27.fd3 X G,f28.fd3 X G,f29.fd3 X G,f30.fd3 X G,f31.fd2 X G,f32.fd5 X G,f33.fd4 X G,⟨_,⟨W.mg_of X G n_NoName,xm⟩,n_NoName⟩,⟨_,_,n_NoName,W.mg_of X G n_SpanError,xt_SpanError⟩,⟨_,n_NoName,⟨x1,x2,x3,x4,x5,x6,x7,x8⟩,_,W.mg_of X G n_NoName,xk_NoName⟩,⟨_,n_NoName,⟨x1,x2,x3,x4,x5,x6,x7,x8⟩,_,W.mg_none_of X G xz_ValueError,(by decide +kernel:bootBuiltins "ValueError"=some (.type "ValueError")),xk_ValueError⟩,⟨_,n_NoName,⟨x1,x2,x3,x4,x5,x6,x7,x8⟩,_,W.mg_of X G n_NoLine,xk_NoLine⟩,⟨_,n_NoName,⟨x1,x2,x3,x4,x5,x6,x7,x8⟩,_,W.mg_of X G n_NoShelf,xk_NoShelf⟩,⟨_,n_NoName,⟨x1,x2,x3,x4,x5,x6,x7,x8⟩,_,W.mg_of X G n_NoSpan,xk_NoSpan⟩,⟨_,n_NoName,⟨x1,x2,x3,x4,x5,x6,x7,x8⟩,_,W.mg_of X G n_Stuck,xk_Stuck⟩⟩
 have B:Blt mg:=⟨W.mg_none_of X G z_dict,W.mg_none_of X G z_int,W.mg_none_of X G z_isinstance,W.mg_none_of X G z_len,W.mg_none_of X G z_list,W.mg_none_of X G z_max,W.mg_none_of X G z_min,W.mg_none_of X G z_range,W.mg_none_of X G z_set,W.mg_none_of X G z_sorted,W.mg_none_of X G z_str,W.mg_none_of X G z_tuple⟩
 exact⟨_,fun s v=>.of_eq rfl,fun base _ _=>Amc T B (Ae3 l_law c_law k_law)⟩
theorem Oy {K:W.Frag}{H:Hp}{μ:List Addr}{B:Addr->Prop}:∀ ns:List Int,Reps K H μ B (ns.map D.int) (ns.map V.int)
 |[]=>.nil
 |n::ns=>.cons (.int n) (Oy ns)
theorem walk {l:W.OpenLaw}{q:Program}{loose:List Str}{XP:(Str->Option Value)->Heap->Prop}{YP:World->Heap->Prop}{d:DefRec}{K:Params->W.Frag} (hn:l.most=some 63) (hdf:d.params.defaults=[])
  (hY:∀ (w:World) (h:Heap),YP w h->(K w.params).In h)
  (F:∀ (w:World) (mg:Str->Option Value) (fa:Addr) (h:Heap),(K w.params).In h->h.Ns mainGlobals mg->mg d.name=some (.ref fa) ->
   ∃ fd:FuncData,(∀ (s:Shared) (u:Value),BindsTo s fd ⟨[u],[]⟩ [("_law_script",u)])/\∀ base:Heap,(K w.params).In base->base.Ns mainGlobals mg->FnOk l.prog w (K w.params) mg base CX0 9 fa fd ["_law_script"] (spP (K w.params) 1 Hw)) :
  W.WalkO q loose XP YP l.row.toRowW d [] (fun f vs=>PySem.call f vs) :=
 L2.walk_of (n:=63) (k:=9) (x:="_law_script") (CX:=fun _=>CX0) (sp:=fun w=>spP (K w.params) 1 Hw) hn (by decide) hdf ⟨rfl,by decide,by decide⟩ hY F
  (fun w H a ns hl hO hS=>⟨[.kl (ns.map D.int)],.bl true,.cons (.kl (by
    rcases hS with (h|h)|h
    ·rcases hO a with z|⟨o,xs,z⟩<;>rw[z] at h<;>cases h
    ·exact .inl h
    ·exact .inr h) (Oy ns)) .nil,rfl,law_true ns hl,fun v H' _ r=>by cases r;rfl⟩) fun _ _ _ _ _ z=>z
end
end K44a
namespace PySem.W.Fast
def tw10155463575955213975:=()
def tw10163792907105789832:=()
def tw10224546124442906168:=()
def tw10288585787163009340:=()
def tw10467670708157316473:=()
def tw10496375051461904927:=()
def tw10525583971138714778:=()
def tw10572206210862579432:=()
def tw10596394471069493124:=()
def tw10816831113954128539:=()
def tw10834076507251701299:=()
def tw10883836791017660235:=()
def tw10917717135011886572:=()
def tw11067870698125313139:=()
def tw11182382319000398616:=()
def tw11196531649934405365:=()
def tw11302779558877531003:=()
def tw1145088360865969358:=()
def tw11586072694738989189:=()
def tw11595379390207178413:=()
def tw11643326470862713043:=()
def tw11767968475358966195:=()
def tw11924562465202732904:=()
def tw11936531907968866245:=()
def tw11961861446461739352:=()
def tw12004306338068304462:=()
def tw12053477947125314212:=()
def tw12067115970965307743:=()
def tw12076231600981231642:=()
def tw12168282148039928227:=()
def tw12181623583946720664:=()
def tw1224645570273525157:=()
def tw12368047216346315176:=()
def tw12432120892776124798:=()
def tw12481506535884457505:=()
def tw12502960606985440517:=()
def tw12587979988604864815:=()
def tw1267383165148093605:=()
def tw12868923155608684376:=()
def tw13004392434803835361:=()
def tw13023513285835005914:=()
def tw13031195940774466583:=()
def tw13054136043433004018:=()
def tw13200487903976274952:=()
def tw13243428064113341393:=()
def tw13371747276650126698:=()
def tw13468504805043572467:=()
def tw13484291244184783083:=()
def tw13803361171975469898:=()
def tw1381683019721821306:=()
def tw13827252052307885845:=()
def tw13887541541927392644:=()
def tw13980224110165910208:=()
def tw14070556021813134454:=()
def tw14123920343480883902:=()
def tw14441230885340413920:=()
def tw14452397877741058216:=()
def tw14906756119662070035:=()
def tw14929795667846940318:=()
def tw15016653897691617093:=()
def tw15052585397082954406:=()
def tw1518532946747774442:=()
def tw15228960590473601226:=()
def tw15263024664890297475:=()
def tw15307332660850417411:=()
def tw1539220829501034164:=()
def tw15407198639657289394:=()
def tw15430165616749953883:=()
def tw15579421646355265923:=()
def tw15728343616698013226:=()
def tw15730712046953305119:=()
def tw15951644953411578484:=()
def tw16037043867690037284:=()
def tw16153120494382729498:=()
def tw16170361475137913436:=()
def tw16172063959943836348:=()
def tw16298642223790158900:=()
def tw16389366806103819059:=()
def tw1641846149863367006:=()
def tw16521090817839518278:=()
def tw16553619153945860129:=()
def tw16570646181550231429:=()
def tw16792249189480370851:=()
def tw16827415834395456242:=()
def tw16868840310781134739:=()
def tw16968350230442507824:=()
def tw1703527275799860365:=()
def tw17093810043769246996:=()
def tw17136316478602091039:=()
def tw17227631983935960098:=()
def tw17277606694360649912:=()
def tw17297201058686847959:=()
def tw17314303623772616194:=()
def tw1743503570927315976:=()
def tw17459301085613407507:=()
def tw17463493132752332125:=()
def tw17473625773402203131:=()
def tw17475491292845799382:=()
def tw17694485495125424806:=()
def tw17710741598058838286:=()
def tw17775116317599459069:=()
def tw17782423802073336291:=()
def tw17850992199665999397:=()
def tw17922201814256595796:=()
def tw18006106132505780545:=()
def tw18049810019914611033:=()
def tw18068881855943251242:=()
def tw18109364456527233927:=()
def tw18140686258461168011:=()
def tw18145139307654109618:=()
def tw18192194702154776581:=()
def tw18220162152948786323:=()
def tw18315005432617429899:=()
def tw18334666834176119321:=()
def tw18441257183096641800:=()
def tw199211162205807844:=()
def tw2118880300198425179:=()
def tw2133029300007665338:=()
def tw2221340708103408730:=()
def tw2243115384058517900:=()
def tw2250790033765786033:=()
def tw2266409981313786181:=()
def tw2382532138633465474:=()
def tw2388489143434073630:=()
def tw2406842699454894944:=()
def tw244137441172072098:=()
def tw2514743037117671089:=()
def tw2517261700880760208:=()
def tw2595949589663483549:=()
def tw2614558859295949869:=()
def tw2619381990321554850:=()
def tw2644338527819719390:=()
def tw2897447819377427227:=()
def tw2927069737381976062:=()
def tw3045227244291843426:=()
def tw3106383745340766997:=()
def tw310706488550537822:=()
def tw3117431987516218052:=()
def tw3204420388044898529:=()
def tw3407074367525911474:=()
def tw3431098568903194374:=()
def tw355170478645551661:=()
def tw3625556829825758958:=()
def tw3635033405233373721:=()
def tw3715093006693664303:=()
def tw3975465644908014796:=()
def tw4020583703935366741:=()
def tw4137232517858199080:=()
def tw4243021147051540372:=()
def tw4427501789196945433:=()
def tw443692518385825988:=()
def tw4513381567802052638:=()
def tw4612488202540995669:=()
def tw490067414739436162:=()
def tw4918555939991209546:=()
def tw4951846467308290347:=()
def tw4957166105947126547:=()
def tw4963692171621581993:=()
def tw5057930704462932141:=()
def tw5188362784399483168:=()
def tw5334033236548348278:=()
def tw5416683243918294496:=()
def tw5448244769077051474:=()
def tw5672271557531814662:=()
def tw5674221570335064063:=()
def tw5675473521290965900:=()
def tw5700163378707477696:=()
def tw584731568806170399:=()
def tw5883341385210653005:=()
def tw5917996511253110687:=()
def tw594452391758886817:=()
def tw6006500730740328142:=()
def tw6133120495384724961:=()
def tw6178450664854889250:=()
def tw6194877098809251081:=()
def tw6210471181614086246:=()
def tw6231209497786554339:=()
def tw6243801599200876827:=()
def tw626999658245296279:=()
def tw6321801484241258588:=()
def tw6381462322305528848:=()
def tw6647953523820099215:=()
def tw665533297687151259:=()
def tw6773174663654413132:=()
def tw6775111531280971591:=()
def tw6886027040497641525:=()
def tw6939063559006997672:=()
def tw6945469199602227029:=()
def tw6955937497929529289:=()
def tw696745694084674856:=()
def tw6982917604153096922:=()
def tw7136127915776921890:=()
def tw7185276797049427585:=()
def tw7191297486007082827:=()
def tw7191713961357254922:=()
def tw7276762601810933819:=()
def tw7361575234892520159:=()
def tw749886373935439825:=()
def tw7523358701552981485:=()
def tw7613729996676450117:=()
def tw7672332282392542668:=()
def tw7819264565923316985:=()
def tw7829262961088772306:=()
def tw7847461149357286052:=()
def tw7917678314427572673:=()
def tw8139143338190751510:=()
def tw8306178489066781132:=()
def tw8327832360984382129:=()
def tw8339764415102100877:=()
def tw8407059657970324032:=()
def tw8567550501283918931:=()
def tw8610695948958451909:=()
def tw8745723125550453043:=()
def tw8841763219568489727:=()
def tw8853775341270318362:=()
def tw8978346482704642957:=()
def tw9010756617522375748:=()
def tw9384028958052383170:=()
def tw9447639682147987410:=()
def tw9498052171478011038:=()
def tw9513141921253856204:=()
def tw9628340967538151279:=()
def tw9691723945741560630:=()
def tw9828225636772371023:=()
def tw999175037120241894:=()
end PySem.W.Fast
open PySem PySem.W PyProof.Rows
set_option maxRecDepth 100000 in
set_option maxHeartbeats 0 in
theorem PySem.Challenge.cw_stretchbook_k44_newest_holds : PySem.Challenge.rw_stretchbook_k44_newest.Holds := by
 w_on;o_law;k_head;(case hw=>w_witness2)
 k_fill
 refine K44a.walk (l:=PySem.Challenge.rw_stretchbook_k44_newest) rfl rfl (fun w h Y=>W.kIn_of Y) ?F
 case F =>
  intro w mg fa h KX G hmg
  refine' K44a.all_mk KX G hmg (L2.ML.fm_mk ?n0 ?l0 ?c0 ?k0) (L2.ML.fm_mk ?n1 ?l1 ?c1 ?k1) (L2.ML.fm_mk ?n2 ?l2 ?c2 ?k2) (L2.ML.fm_mk ?n3 ?l3 ?c3 ?k3) (L2.ML.fm_mk ?n4 ?l4 ?c4 ?k4) (L2.ML.fm_mk ?n5 ?l5 ?c5 ?k5) (L2.ML.fm_mk ?n6 ?l6 ?c6 ?k6) (L2.ML.fm_mk ?n7 ?l7 ?c7 ?k7) (L2.ML.fm_mk ?n8 ?l8 ?c8 ?k8) (L2.ML.fm_mk ?n9 ?l9 ?c9 ?k9) (L2.ML.fm_mk ?n10 ?l10 ?c10 ?k10) (L2.ML.fm_mk ?n11 ?l11 ?c11 ?k11) (L2.ML.fm_mk ?n12 ?l12 ?c12 ?k12) (L2.ML.fm_mk ?n13 ?l13 ?c13 ?k13) (L2.ML.fm_mk ?n14 ?l14 ?c14 ?k14) (L2.ML.fm_mk ?n15 ?l15 ?c15 ?k15) (L2.ML.fm_mk ?n16 ?l16 ?c16 ?k16) (L2.ML.fm_mk ?n17 ?l17 ?c17 ?k17) (L2.ML.fm_mk ?n18 ?l18 ?c18 ?k18) (L2.ML.fm_mk ?n19 ?l19 ?c19 ?k19) (L2.ML.fm_mk ?n20 ?l20 ?c20 ?k20) (L2.ML.fm_mk ?n21 ?l21 ?c21 ?k21) (L2.ML.fm_mk ?n22 ?l22 ?c22 ?k22) (L2.ML.fm_mk ?n23 ?l23 ?c23 ?k23) (L2.ML.fm_mk ?n24 ?l24 ?c24 ?k24) (L2.ML.fm_mk ?n25 ?l25 ?c25 ?k25) (L2.ML.fm_mk ?n26 ?l26 ?c26 ?k26) (L2.ML.fm_mk ?n27 ?l27 ?c27 ?k27) (L2.ML.fm_mk ?n28 ?l28 ?c28 ?k28) (L2.ML.fm_mk ?n29 ?l29 ?c29 ?k29) (L2.ML.fm_mk ?n30 ?l30 ?c30 ?k30) (L2.ML.fm_mk ?n31 ?l31 ?c31 ?k31) (L2.ML.fm_mk ?n32 ?l32 ?c32 ?k32) (L2.ML.fm_mk ?n33 ?l33 ?c33 ?k33) ?n34 ?l34 ?c34 ?k34 ?z_dict ?z_int ?z_isinstance ?z_len ?z_list ?z_max ?z_min ?z_range ?z_set ?z_sorted ?z_str ?z_tuple ?n_NoName ?n_SpanError ?n_NoLine ?n_NoShelf ?n_NoSpan ?n_Stuck ?xm ?x1 ?x2 ?x3 ?x4 ?x5 ?x6 ?x7 ?x8 ?xt_SpanError ?xk_NoName ?xz_ValueError ?xk_ValueError ?xk_NoLine ?xk_NoShelf ?xk_NoSpan ?xk_Stuck
  case n0|l0|c0|k0|n1|l1|c1|k1|n2|l2|c2|k2|n3|l3|c3|k3|n4|l4|c4|k4|n5|l5|c5|k5|n6|l6|c6|k6|n7|l7|c7|k7|n8|l8|c8|k8|n9|l9|c9|k9|n10|l10|c10|k10|n11|l11|c11|k11|n12|l12|c12|k12|n13|l13|c13|k13|n14|l14|c14|k14|n15|l15|c15|k15|n16|l16|c16|k16|n17|l17|c17|k17|n18|l18|c18|k18|n19|l19|c19|k19|n20|l20|c20|k20|n21|l21|c21|k21|n22|l22|c22|k22|n23|l23|c23|k23|n24|l24|c24|k24|n25|l25|c25|k25|n26|l26|c26|k26|n27|l27|c27|k27|n28|l28|c28|k28|n29|l29|c29|k29|n30|l30|c30|k30|n31|l31|c31|k31|n32|l32|c32|k32|n33|l33|c33|k33|n34|l34|c34|k34|z_dict|z_int|z_isinstance|z_len|z_list|z_max|z_min|z_range|z_set|z_sorted|z_str|z_tuple|n_NoName|n_SpanError|n_NoLine|n_NoShelf|n_NoSpan|n_Stuck=>k_is
  case xm|x1|x2|x3|x4|x5|x6|x7|x8|xt_SpanError|xk_NoName|xz_ValueError|xk_ValueError|xk_NoLine|xk_NoShelf|xk_NoSpan|xk_Stuck=>first|k_is|kernel_rfl
end S_K44h
