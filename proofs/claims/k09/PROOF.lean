import PyProof.Rows.All
import Wide.All
import OpenK.AllK
import Wide.FinOn
import PyProof.P3Eq
import PyProof.TupleKey
import PyProof.DictRoadsH
import PyProof.Rows.RowHeap
import Lean
import PyProof.EqAt
import PyProof.EqKinds
import PyProof.TupleCall
import KE.KDflt
import PyProof.NeData
import PyProof.ConsumeWalk
import PyProof.CompFree
import PyProof.StrWalks
import PyProof.Rows.ListMul
import PyProof.MinMaxWalk
import PyProof.WalkInts
import PyProof.SeqI3
import PyProof.WalksMore
import PyProof.Rows.Range3
import PyProof.Rows.TupTab
import KE.KRevIter
import PyProof.ListRange
import KE.KSortTup
import PyProof.Rows.StrNews2
import PyProof.Rows.StrJoin2
import KE.KNestM
import KE.KDictSum
import PyProof.Rows.EnumRows
import PyProof.ZipIter
import KE.KSortAsk
import KE.IntTextLaws
import PyProof.Rows.StrFirst
import PyProof.Rows.StrJoinMade
import PyProof.Rows.StrWeight2
import PyProof.Rows.CatFin
import PyProof.StrLawsChain
import PyProof.StrLawsTight
import PyProof.StrLawsFirst
import KE.IntTextText
import PyProof.Rows.ReprOcc
import PyProof.StrLawsIdx
import PySem.Challenge.RW_stretchbook_k09_spans_met_joined_taken
set_option Elab.async false
set_option compiler.extract_closed false
set_option linter.all false
set_option maxRecDepth 100000
set_option maxHeartbeats 4000000
abbrev Atj:=@PySem.wpAny_bind
abbrev Atk:=@List.mem_cons_self
abbrev Atl:=@if_neg
abbrev Atm:=@List.mem_append_right
abbrev Atn:=@List.mem_cons_of_mem
abbrev Ato:=@PySem.Heap.get?_push_of_some
abbrev Atp:=@Nat.le_refl
abbrev Atq:=@if_pos
abbrev Atr:=@List.getElem_mem
abbrev Ats:=@List.size_toArray
abbrev Atu:=@PySem.wpAny_pure
abbrev Atv:=@List.getElem?_eq_getElem
abbrev Atw:=@List.length_cons
abbrev Atx:=@List.getD_eq_getElem?_getD
abbrev Aty:=@PySem.Heap.lt_size
abbrev Atz:=@List.map_cons
abbrev At0:=@Bool.and_eq_true
abbrev At1:=@List.length_map
abbrev At2:=@Nat.lt_of_lt_of_le
abbrev At3:=@PySem.Heap.get?_push_size
abbrev At4:=@List.getElem?_append_left
abbrev At5:=@Bool.false_ne_true
abbrev At6:=@List.append_nil
abbrev At7:=@Nat.ne_of_lt
abbrev At8:=@List.length_append
abbrev At9:=@List.drop_eq_getElem_cons
abbrev Aua:=@List.take_append_drop
abbrev Aub:=@List.getElem?_map
abbrev Auc:=@List.not_mem_nil
abbrev Aud:=@List.getElem?_append_right
abbrev Aue:=@List.mem_append_left
abbrev Auf:=@Nat.le_trans
abbrev Aug:=@List.mem_cons
abbrev Auh:=@List.map_append
abbrev Aui:=@List.mem_of_getElem?
abbrev Auj:=@PySem.PassesOwn.never
abbrev Auk:=@List.getElem?_eq_none
abbrev Aul:=@PySem.mem_of_lookup
abbrev Aum:=@Bool.false_eq_true
abbrev Aun:=@List.take_of_length_le
abbrev Auo:=@Option.some.inj
abbrev Aup:=@Nat.zero_le
abbrev Auq:=@PySem.wpAny_mono
abbrev Aur:=@PySem.Heap.get?_update_other
abbrev Aus:=@decide_eq_false
abbrev Aut:=@Nat.lt_irrefl
abbrev Auu:=@PySem.wpAny_Call_Name_kw
abbrev Auv:=@List.drop_eq_nil_of_le
abbrev Auw:=@of_decide_eq_true
abbrev Aux:=@decide_eq_true_eq
abbrev Auy:=@Nat.zero_add
abbrev Auz:=@Option.bind_some
abbrev Au0:=@List.mem_map_of_mem
abbrev Au1:=@List.getElem?_set_self
abbrev Au2:=@PySem.wpAny_newObj_type
abbrev Au3:=@List.lookup_cons
abbrev Au4:=@List.length_take
abbrev Au5:=@congrArg
abbrev Au6:=@List.sizeOf_lt_of_mem
abbrev Au7:=@List.all_cons
abbrev Au8:=@List.mem_of_mem_take
abbrev Au9:=@List.nil_append
abbrev Ava:=@PySem.sizeLine_eq
abbrev Avb:=@List.getElem?_cons_succ
abbrev Avc:=@Array.length_toList
abbrev Avd:=@PySem.wpAny_typeNameOfWhole_keyiter
abbrev Ave:=@Nat.le_of_lt
abbrev Avf:=@List.map_map
abbrev Avg:=@List.length_singleton
abbrev Avh:=@PySem.F.slot_dict_keyiterator_next
abbrev Avi:=@List.getElem?_set_ne
abbrev Avj:=@List.getElem?_of_mem
abbrev Avk:=@PySem.wpAny_passesOwn
abbrev Avl:=@decide_eq_true
abbrev Avm:=@Classical.byContradiction
abbrev Avn:=@if_false
abbrev Avo:=@List.cons_append
abbrev Avp:=@PySem.wpAny_truthy_bool
abbrev Avq:=@PySem.wpAny_holding
abbrev Avr:=@Ne.symm
abbrev Avs:=@List.map_congr_left
abbrev Avt:=@List.pairwise_singleton
abbrev Avu:=@List.length_nil
abbrev Avv:=@List.getElem?_replicate
abbrev Avw:=@PySem.wpAny_call_entry
abbrev Avx:=@PySem.wpAny_typeNameOf_keyiter
abbrev Avy:=@Option.some.injEq
abbrev Avz:=@Nat.lt_succ_of_lt
abbrev Av0:=@List.ext_getElem?
abbrev Av1:=@PySem.wpAny_getItem_str_slice
abbrev Av2:=@PySem.wpAny_callSpecial?_slot
abbrev Av3:=@Or.inl
abbrev Av4:=@Nat.ne_of_gt
abbrev Av5:=@PySem.MeetsSeq3.plain_eq_loop
abbrev Av6:=@List.dropLast_eq_take
abbrev Av7:=@True.intro
abbrev Av8:=@if_true
abbrev Av9:=@Function.comp_apply
abbrev Awa:=@PyProof.Rows.KeyOrd.kle_refl
abbrev Awb:=@List.map_nil
abbrev Awc:=@List.reverse_cons
abbrev Awd:=@List.any_cons
abbrev Awe:=@Int.eq_ofNat_of_zero_le
abbrev Awf:=@decide_eq_decide
abbrev Awg:=@Nat.lt_succ_self
abbrev Awh:=@Nat.le_add_right
abbrev Awi:=@Nat.not_lt_zero
abbrev Awj:=@List.of_mem_zip
abbrev Awk:=@List.find?_cons
noncomputable section
set_option tactic.hygienic false
section S_KTree
namespace L2
open PySem PySem.Spec
noncomputable instance pdDec:DecidableEq PyData:=fun _ _=>Classical.propDecidable _
mutual
def kOk:PyData->Bool
 |.int _=>true
 |.str x=>PyData.strOk x
 |.tuple ds=>Jl ds
 |_=>false
def Jl:List PyData->Bool
 |[]=>true
 |d::ds=>kOk d&&Jl ds
def Oi (w:World):PyData->Int
 |.int i=>hashInt i
 |.str x=>hashStr w x
 |.tuple ds=>reduceHash (Builtin.Tuple.tupleHashOf (Bn w ds))
 |_=>0
def Bn (w:World):List PyData->List Int
 |[]=>[]
 |d::ds=>Oi w d::Bn w ds
def Hl:PyData->Nat
 |.tuple ds=>Bx ds+1
 |_=>1
def Bx:List PyData->Nat
 |[]=>0
 |d::ds=>Hl d+Bx ds
def Tf:PyData->Nat
 |.tuple ds=>Iv ds+1
 |_=>0
def Iv:List PyData->Nat
 |[]=>0
 |d::ds=>max (Tf d) (Iv ds)
end
mutual
theorem Lh:∀ {d:PyData},kOk d=true->d.canLay0=true
 |.int _,_=>by simp[PyData.canLay0]
 |.str x,h=>by rw[kOk] at h;simp[PyData.canLay0,h]
 |.tuple ds,h=>by rw[kOk] at h;rw[PyData.canLay0];exact Px h
 |.none,h=>by simp[kOk] at h
 |.bool _,h=>by simp[kOk] at h
 |.list _,h=>by simp[kOk] at h
 |.dict _,h=>by simp[kOk] at h
theorem Px:∀ {ds:List PyData},Jl ds=true->PyData.canLayAll0 ds=true
 |[],_=>by simp[PyData.canLayAll0]
 |d::ds,h=>by
  rw[Jl,At0] at h
  simp[PyData.canLayAll0,Lh h.1,Px h.2]
end
set_option tactic.hygienic true in
mutual
theorem Ajy:∀ {d e:PyData},kOk d=true->kOk e=true->PyData.eqv d e=decide (d=e)
 |.int i,e,h,h'=>by
  cases e<;>first|(simp[kOk] at h';done)|(simp[PyData.eqv];done)|(rename_i j;simp[PyData.eqv];by_cases q:i=j<;>simp[q])
 |.str x,e,h,h'=>by
  cases e<;>first|(simp[kOk] at h';done)|(simp[PyData.eqv];done)|(rename_i j;simp[PyData.eqv];by_cases q:x=j<;>simp[q])
 |.tuple ds,e,h,h'=>by
  cases e<;>first|(simp[kOk] at h';done)|(simp[PyData.eqv];done)|skip
  rename_i es
  rw[kOk] at h h'
  rw[PyData.eqv,Aca h h',Awf]
  constructor
  ·intro e;rw[e]
  ·intro e;injection e
 |.none,_,h,_=>by simp[kOk] at h
 |.bool _,_,h,_=>by simp[kOk] at h
 |.list _,_,h,_=>by simp[kOk] at h
 |.dict _,_,h,_=>by simp[kOk] at h
theorem Aca:∀ {ds es:List PyData},Jl ds=true->Jl es=true->PyData.eqvAll ds es=decide (ds=es)
 |[],[],_,_=>by simp[PyData.eqvAll]
 |[],e::es,_,_=>by simp[PyData.eqvAll]
 |d::ds,[],_,_=>by simp[PyData.eqvAll]
 |d::ds,e::es,h,h'=>by
  rw[Jl,At0] at h h'
  rw[PyData.eqvAll,Ajy h.1 h'.1,Aca h.2 h'.2]
  by_cases q1:d=e<;>by_cases q2:ds=es<;>simp[q1,q2]
end
section
variable {prog:Program}{w:World}
structure HashK (prog:Program) (w:World) (d:PyData):Prop where
 out:∀ {A:Around}{E:Value->Shared->Prop}{s:Shared}{v:Value}{as:List Addr}{Q:Int->Shared->Prop},kOk d=true->A.units+Tf d < cLine->Reads s.heap v d as->Q (Oi w d) { s with toks:=s.toks+Hl d }->wpAny (model prog w) A (pyHash v) Q E s
theorem Lg {d:PyData}:∀ {ds:List PyData},d∈ds->Tf d<=Iv ds
 |e::ds,h=>by
  rw[Iv]
  rcases List.mem_cons.mp h with rfl|h
  ·lia
  ·have:=Lg h;lia
theorem Li {d:PyData}:∀ {ds:List PyData},Jl ds=true->d∈ds->kOk d=true
 |e::ds,h,hm=>by
  rw[Jl,At0] at h
  rcases List.mem_cons.mp hm with rfl|hm
  ·exact h.1
  ·exact Li h.2 hm
theorem Ee:∀ (xs ys:List PyData),Bn w (xs++ys)=Bn w xs++Bn w ys
 |[],ys=>by rw[Bn];rfl
 |x::xs,ys=>by rw[Avo,Bn,Bn,Ee xs ys];rfl
theorem Ed:∀ (xs ys:List PyData),Bx (xs++ys)=Bx xs+Bx ys
 |[],ys=>by simp[Bx]
 |x::xs,ys=>by rw[Avo,Bx,Bx,Ed xs ys];lia
theorem Tc (ih:∀ d∈ds,HashK prog w d):HashK prog w (.tuple ds):=by
 constructor
 intro A E s v as Q hk hu r q
 rw[kOk] at hk
 rw[Tf] at hu
 rw[Oi,Hl] at q
 cases r with
 |@tuple a o vs n xs as ho hc hd ra =>
 have hT:s.TypeIs (.ref a) "tuple":=⟨o,ho,hc⟩
 unfold pyHash
 first|unfold pyHashByItsType|skip
 first|refine Atj (wpAny_cRoomFor_or (.inr (by lia)) ?_)|skip
 refine Atj (wpAny_specialOf hT F.slot_tuple_hash.lookup ?_)
 show wpAny _ _ (if (some (Value.builtin "tuple.__hash__") == some Value.none)=true then _ else _) Q E s
 rw[Atl (by rw[beq_builtin_none];exact At5)]
 refine Atj (wpAny_specialOf hT F.slot_tuple_hash.lookup ?_)
 show wpAny _ _ (callSpecialIfBoundUnlessNone? (.ref a) "__hash__" _ >>= _) Q E s
 refine Atj (wpAny_callSpecialIfBoundUnlessNone?_slot hT F.slot_tuple_hash (Avw F.slot_tuple_hash hT F.entry_tuple_hash ?_ (F.args_tuple_hash_1 _)))
 show wpAny _ _ (Builtin.Tuple.tupleItemsOf (.ref a) >>= _) _ _ s
 refine Atj (wpAny_tupleItemsOf ho hd ?_)
 refine Atj ?_
 rw[<- Array.forIn_toList]
 refine wpAny_forIn_list _
  (fun rest (b:Array Int) s'=>∃ done left bs,ds=done++left/\ReadsAll s.heap rest left bs/\b.toList=Bn w done/\s'={ s with toks:=s.toks+Bx done })
  _ ?_ ?_ _ _ ⟨[],ds,as,rfl,ra,by simp[Bn],by simp[Bx]⟩
 ·rintro x rest b s' ⟨done,left,bs,rfl,hl,hb,rfl⟩
  cases hl with
  |@cons _ _ d ds' as1 bs1 h1 hl' =>
   have hm:d∈done++d::ds':=by simp
   have hdp:=Lg hm
   refine Atj ((ih d hm).out (Li hk hm) (by show A.units+1+_ < _;lia) h1 ?_)
   have e1:b.toList++[Oi w d]=Bn w (done++[d]):=by rw[Ee,hb,Bn,Bn]
   have e2:s.toks+Bx done+Hl d=s.toks+Bx (done++[d]):=by rw[Ed,Bx,Bx];lia
   first
    |exact Atu ⟨done++[d],ds',bs1,by simp,hl',by rw[<- e1];simp,by rw[<- e2]⟩
    |exact Atj (Atu (Atu ⟨done++[d],ds',bs1,by simp,hl',by rw[<- e1];simp,by rw[<- e2]⟩))
 ·rintro b s' ⟨done,left,bs,rfl,hl,hb,rfl⟩
  cases hl
  rw[At6] at q
  show wpAny _ _ (retInt (Builtin.Tuple.tupleHashOf b.toList)) _ _ _
  rw[hb]
  refine wpAny_ret_mkInt ?_
  show wpAny _ _ (if (decide (-(2:Int) ^ 63<=Builtin.Tuple.tupleHashOf (Bn w done))&&decide (Builtin.Tuple.tupleHashOf (Bn w done) < 2 ^ 63))=true then _ else _) Q E _
  unfold reduceHash at q
  by_cases hr:(decide (-(2:Int) ^ 63<=Builtin.Tuple.tupleHashOf (Bn w done))&&decide (Builtin.Tuple.tupleHashOf (Bn w done) < 2 ^ 63))=true
  ·rw[Atq hr]
   rw[Atq hr] at q
   exact Atu (by simpa [Nat.add_assoc] using q)
  ·rw[Atl hr]
   rw[Atl hr] at q
   exact Atj (wpAny_rule (Atu (by simpa [Nat.add_assoc] using q)))
theorem Acf (d:PyData):HashK prog w d:=by
 match d with
 |.int i =>
  constructor
  intro A E s v as Q _ _ r q
  cases r with
  |int i t=>simp only[Oi,Hl] at q;exact wpAny_pyHash_int q
 |.str x =>
  constructor
  intro A E s v as Q _ _ r q
  cases r with
  |str x t=>simp only[Oi,Hl] at q;exact wpAny_pyHash_str q
 |.tuple ds=>exact Tc fun d hd=>Acf d
 |.none=>constructor;intro A E s v as Q h;simp[kOk] at h
 |.bool _=>constructor;intro A E s v as Q h;simp[kOk] at h
 |.list _=>constructor;intro A E s v as Q h;simp[kOk] at h
 |.dict _=>constructor;intro A E s v as Q h;simp[kOk] at h
termination_by sizeOf d
decreasing_by
 have:=Au6 hd
 simp;lia
structure QuietK (prog:Program) (w:World) (d:PyData):Prop where
 out:∀ {n:Nat}{A:Around}{E:Value->Shared->Prop}{s:Shared}{v:Value}{as:List Addr}{Q:Bool->Shared->Prop},kOk d=true->Tf d<=n->Reads s.heap v d as->Q true s->wpAny (model prog w) A (eqIsQuiet n v) Q E s
theorem O5 (ih:∀ d∈ds,QuietK prog w d):QuietK prog w (.tuple ds):=by
 constructor
 intro n A E s v as Q hk hn r q
 rw[kOk] at hk
 rw[Tf] at hn
 cases r with
 |@tuple a o vs m xs as ho hc hd ra =>
 have hT:s.TypeIs (.ref a) "tuple":=⟨o,ho,hc⟩
 obtain⟨n,rfl⟩:∃ n',n=n'+1:=⟨n - 1,by lia⟩
 unfold eqIsQuiet
 refine Atj (wpAny_specialOf hT F.slot_tuple_eq.lookup ?_)
 show wpAny _ _ (isInstance (.ref a) (.type "tuple") >>= _) _ _ s
 refine Atj (wpAny_isInstance hT isSubtype_tuple_tuple ?_)
 simp only[Bool.not_true,Aum,Avn]
 refine Atj (wpAny_seqItems ho hd ?_)
 refine Atj ?_
 show wpAny _ _ (forIn vs _ _) _ _ s
 rw[<- Array.forIn_toList]
 refine wpAny_forIn_list _ (fun rest r s'=>r.1=none/\s'=s/\∃ left bs,ReadsAll s.heap rest left bs/\∀ d∈left,d∈ds) _ ?_ ?_ _ _ ⟨rfl,rfl,ds,as,ra,fun _ h=>h⟩
 ·rintro v rest r s' ⟨hr,rfl,left,bs,hl,hall⟩
  cases hl with
  |@cons _ _ d ds' as1 bs1 h1 hl' =>
   have hm:=hall d (Atk ..)
   refine Atj ((ih d hm).out (Li hk hm) (by have:=Lg hm;lia) h1 ?_)
   simp only[Bool.not_true,Aum,Avn]
   exact Atu ⟨rfl,rfl,ds',bs1,hl',fun e he=>hall e (Atn _ he)⟩
 ·rintro ⟨r1,r2⟩ s' ⟨hr,rfl,_⟩
  simp only at hr
  subst hr
  exact Atu q
theorem X4 (d:PyData):QuietK prog w d:=by
 match d with
 |.int i =>
  constructor
  intro n A E s v as Q _ _ r q
  cases r with
  |int i t=>rw[eqIsQuiet_byValue _ rfl];exact Atu q
 |.str x =>
  constructor
  intro n A E s v as Q _ _ r q
  cases r with
  |str x t=>rw[eqIsQuiet_byValue _ rfl];exact Atu q
 |.tuple ds=>exact O5 fun d hd=>X4 d
 |.none=>constructor;intro n A E s v as Q h;simp[kOk] at h
 |.bool _=>constructor;intro n A E s v as Q h;simp[kOk] at h
 |.list _=>constructor;intro n A E s v as Q h;simp[kOk] at h
 |.dict _=>constructor;intro n A E s v as Q h;simp[kOk] at h
termination_by sizeOf d
decreasing_by
 have:=Au6 hd
 simp;lia
mutual
theorem M9 {es ep} (ho₀:h.get? d₀=some o₀) (hd₀:o₀.data=.dict es ep) (hs:Heap.SameBut d₀ h h') {d:PyData}{v:Value}{as:List Addr} (hk:kOk d=true) (r:Reads h v d as):Reads h' v d as:=by
 cases r with
 |int i t=>exact .int i t
 |str i t=>exact .str i t
 |@tuple a o _ _ _ _ ho hc hd ra =>
  refine .tuple ((hs.2 a ?_).trans ho) hc hd (Gr ho₀ hd₀ hs (by rw[kOk] at hk;exact hk) ra)
  rintro rfl
  cases ho.symm.trans ho₀
  cases hd₀.symm.trans hd
 |_=>simp[kOk] at hk
theorem Gr {es ep} (ho₀:h.get? d₀=some o₀) (hd₀:o₀.data=.dict es ep) (hs:Heap.SameBut d₀ h h') {ds:List PyData}{vs:List Value}{as:List Addr} (hk:Jl ds=true) (r:ReadsAll h vs ds as):ReadsAll h' vs ds as:=by
 cases r with
 |nil=>exact .nil
 |cons r rs =>
  rw[Jl,At0] at hk
  exact .cons (M9 ho₀ hd₀ hs hk.1 r) (Gr ho₀ hd₀ hs hk.2 rs)
end
mutual
theorem Ob:∀ {d:PyData},kOk d=true->d.depth<=Tf d+1
 |.int _,_=>by simp[PyData.depth]
 |.str _,_=>by simp[PyData.depth]
 |.tuple ds,h=>by rw[kOk] at h;rw[Tf];have:=Pq h;simp[PyData.depth];lia
 |.none,h=>by simp[kOk] at h
 |.bool _,h=>by simp[kOk] at h
 |.list _,h=>by simp[kOk] at h
 |.dict _,h=>by simp[kOk] at h
theorem Pq:∀ {ds:List PyData},Jl ds=true->PyData.depthAll ds<=Iv ds+1
 |[],_=>by simp[PyData.depthAll]
 |d::ds,h=>by
  rw[Jl,At0] at h
  have h1:=Ob h.1
  have h2:=Pq h.2
  rw[Iv];simp[PyData.depthAll];lia
end
def An4 (h:Heap) (d:PyData) (a:Addr):Prop:=kOk d=true/\Tf d<=6/\(∃ ds,d=.tuple ds)/\∃ as,Reads h (.ref a) d as
noncomputable def D6 (prog:Program) (w:World):HeapKind prog w PyData where
 is:=An4
 hash:=Oi w
 draws:=Hl
 room:=fun A=>A.units+10 < cLine
 inj:=fun hx hy=>by
  obtain⟨k1,_,_,as,r⟩:=hx
  obtain⟨_,_,_,bs,r'⟩:=hy
  exact SeqAt.Reads.unique _ _ _ _ _ (Lh k1) r r'
 keeps:=fun x ho hd hs=>by
  obtain⟨h1,h2,h3,as,r⟩:=x
  exact⟨h1,h2,h3,as,M9 ho hd hs h1 r⟩
 pyHash:=fun hu hk h=>by
  obtain⟨h1,h2,_,as,r⟩:=hk
  exact (Acf _).out h1 (by lia) r h
 eqBool:=fun hu hx hy h=>by
  obtain⟨h1,h2,_,as,r⟩:=hx
  obtain⟨h3,h4,_,bs,r'⟩:=hy
  refine SeqAt.eqBoolOverData _ _ _ _ _ _ _ _ _ _ _ _ r r' (Lh h1) (Lh h3) ?_ ?_
  ·have d1:=Ob h1
   have d2:=Ob h3
   lia
  ·rw[Ajy h1 h3];exact h
 quiet:=fun hk h=>by
  obtain⟨h1,h2,_,as,r⟩:=hk
  exact (X4 _).out h1 (by lia) r h
end
end L2
end S_KTree
section S_LayL
namespace L2
open PySem PySem.Spec PyProof.Rows
abbrev Key:=Sum Int Str
noncomputable def Aj9:Key->Value->Bool
 |.inl k,v=>Value.isInt k v
 |.inr x,v=>Value.isStrOf x v
noncomputable def As3 (w:World):Key->Int
 |.inl k=>hashInt k
 |.inr x=>hashStr w x
theorem Bf:∀ {k:Key}{v:Value},Aj9 k v=true->(∃ i t,k=Sum.inl i/\v=Value.int i t)\/(∃ x t,k=Sum.inr x/\v=Value.str x t)
 |.inl i,v,h=>by
  obtain⟨t,e⟩:=Value.isInt_shape (k:=i) (v:=v) h
  exact .inl ⟨i,t,rfl,e⟩
 |.inr x,v,h=>by
  obtain⟨t,e⟩:=Value.isStrOf_shape (x:=x) (v:=v) h
  exact .inr ⟨x,t,rfl,e⟩
theorem Aka (a b:Int):decide ((Sum.inl a:Key)=Sum.inl b)=(a == b):=by
 by_cases e:a=b
 ·subst e;simp
 ·have h:¬ (Sum.inl a:Key)=Sum.inl b:=fun q=>e (Sum.inl.inj q)
  rw[Aus h]
  exact (beq_eq_false_iff_ne.mpr e).symm
theorem Akd (a b:Str):decide ((Sum.inr a:Key)=Sum.inr b)=decide (a=b):=by
 by_cases e:a=b
 ·subst e;simp
 ·have h:¬ (Sum.inr a:Key)=Sum.inr b:=fun q=>e (Sum.inr.inj q)
  rw[Aus h,Aus e]
theorem Akb (a:Int) (b:Str):decide ((Sum.inl a:Key)=Sum.inr b)=false:=Aus (fun q=>nomatch q)
theorem Akc (a:Str) (b:Int):decide ((Sum.inr a:Key)=Sum.inl b)=false:=Aus (fun q=>nomatch q)
def Vx (prog:Program) (w:World):PySem.KeyKind prog w Key where
 is:=Aj9
 hash:=As3 w
 inj:=fun v a b ha hb=>by
  rcases Bf ha with ⟨i,t,rfl,rfl⟩|⟨x,t,rfl,rfl⟩
  ·rcases Bf hb with ⟨j,u,rfl,e⟩|⟨y,u,rfl,e⟩
   ·injection e with e1 _;rw[e1]
   ·exact nomatch e
  ·rcases Bf hb with ⟨j,u,rfl,e⟩|⟨y,u,rfl,e⟩
   ·exact nomatch e
   ·injection e with e1 _;rw[e1]
 byValue:=fun k v h=>by
  rcases Bf h with ⟨i,t,rfl,rfl⟩|⟨x,t,rfl,rfl⟩<;>rfl
 pyHash:=fun hv h=>by
  rcases Bf hv with ⟨i,t,rfl,rfl⟩|⟨x,t,rfl,rfl⟩
  ·exact wpAny_pyHash_int h
  ·exact wpAny_pyHash_str h
 eqBool:=fun hu hv h=>by
  rcases Bf hu with ⟨i,t,rfl,rfl⟩|⟨x,t,rfl,rfl⟩
  ·rcases Bf hv with ⟨j,u,rfl,rfl⟩|⟨y,u,rfl,rfl⟩
   ·rw[Aka] at h;exact wpAny_eqBool_int h
   ·rw[Akb] at h;exact SeqAt.EqAt.int_str i t y u _ _ _ _ h
  ·rcases Bf hv with ⟨j,u,rfl,rfl⟩|⟨y,u,rfl,rfl⟩
   ·rw[Akc] at h;exact SeqAt.EqAt.str_int x t j u _ _ _ _ h
   ·rw[Akd] at h;exact wpAny_eqBool_str h
 «strs»:=fun k x t v h=>by
  rcases Bf h with ⟨i,u,rfl,e⟩|⟨y,u,rfl,e⟩
  ·exact nomatch e
  ·injection e with e1 _
   subst e1
   cases v<;>rfl
inductive V where
 |non|bl (b:Bool)|int (i:Int)|str (x:Str)|byt (b:Array UInt8)|flt (b:UInt64)|ref (a:Addr)|ty (n:String)
 deriving DecidableEq
noncomputable def RelV:V->Value->Prop
 |.non,u=>u=Value.none
 |.bl b,u=>u=Value.bool b
 |.int i,u=>∃ t,u=Value.int i t
 |.str x,u=>∃ t,u=Value.str x t
 |.byt b,u=>∃ t,u=Value.bytes b t
 |.flt b,u=>∃ t,u=Value.float b t
 |.ref a,u=>u=Value.ref a
 |.ty n,u=>u=Value.type n
abbrev Vals:List V->List Value->Prop:=Paired RelV
theorem Vals.length {xs:List V}{us:List Value} (r:Vals xs us):xs.length=us.length:=Paired.length r
theorem Vals.get:∀ {xs:List V}{us:List Value}{i:Nat}{x:V},Vals xs us->xs[i]?=some x->∃ u,us[i]?=some u/\RelV x u
 |_,_,_,_,.nil,e=>by simp at e
 |_,_,0,_,.cons r _,e=>by simp at e;subst e;exact⟨_,rfl,r⟩
 |_,_,i+1,x,.cons _ t,e=>by
  obtain⟨u,h1,h2⟩:=Vals.get (i:=i) (x:=x) t (by simpa using e)
  exact⟨u,by simpa using h1,h2⟩
theorem Vals.set {x:V}{u:Value} (r:RelV x u):∀ {xs:List V}{us:List Value} (i:Nat),Vals xs us->Vals (xs.set i x) (us.set i u)
 |_,_,_,.nil=>.nil
 |_,_,0,.cons _ t=>.cons r t
 |_,_,i+1,.cons q t=>.cons q (Vals.set r i t)
theorem Vals.append:∀ {xs ys:List V}{us ws:List Value},Vals xs us->Vals ys ws->Vals (xs++ys) (us++ws)
 |_,_,_,_,.nil,s=>s
 |_,_,_,_,.cons r t,s=>.cons r (Vals.append t s)
theorem Vals.take:∀ {xs:List V}{us:List Value} (n:Nat),Vals xs us->Vals (xs.take n) (us.take n)
 |_,_,0,_=>.nil
 |_,_,_+1,.nil=>.nil
 |_,_,n+1,.cons r t=>.cons r (Vals.take n t)
theorem Vals.drop:∀ {xs:List V}{us:List Value} (n:Nat),Vals xs us->Vals (xs.drop n) (us.drop n)
 |_,_,0,r=>r
 |_,_,_+1,.nil=>.nil
 |_,_,n+1,.cons _ t=>Vals.drop n t
def Aib:Option V->Option Value->Prop
 |some v,some u=>RelV v u
 |none,none=>True
 |_,_=>False
def KV {κ:Type}:List (κ×V)->List (κ×Value)->Prop:=Paired fun (p:κ×V) (q:κ×Value)=>p.1=q.1/\RelV p.2 q.2
inductive HO where
 /-- a list -/
 |lst (xs:List V)
 /-- a tuple (never changes) -/
 |tup (xs:List V)
 /-- a dict whose keys are ints and texts;one whose keys are tuples of ints and texts (the empty one is both) -/
 |dK (kvs:List (Key×V))|dT (kvs:List (PyData×V))
 /-- a set of ints: its members,its size -/
 |set (S:Int->Bool) (n:Nat)
 /-- an instance of the class at C,its dict at dx,its attributes -/
 |ins (C dx:Addr) (fs:List (Str×V))
 /-- the dict of the instance at x -/
 |own (x:Addr)
 /-- the dict of an exception -/
 |xd (fs:List (Str×V))
 /-- a bound method,f of x -/
 |met (f x:Addr)
 /-- a range object lo,lo+1,.. below hi -/
 |rng (lo hi:Int)
 /-- a thing that is known to the object (the script;a dict while a loop walks it): read,never written while it is so -/
 |frz (o:Obj) (u:HO)
 /-- a code object's table -/
 |tbl (ps:Array Value)
 /-- any other thing,by what is true of its one object (a def of one's own: SetO a S n:=HO.ext fun h=>..) -/
 |ext (φ:Heap->Prop)
abbrev Hp:=Addr->Option HO
noncomputable def upd (H:Hp) (a:Addr) (o:HO):Hp:=fun b=>if b=a then some o else H b
theorem As {H:Hp}{a:Addr}{o:HO}:upd H a o a=some o:=by unfold upd;rw[Atq rfl]
theorem An {H:Hp}{a b:Addr}{o:HO} (h:b≠a):upd H a o b=H b:=by unfold upd;rw[Atl h]
theorem Ao {H:Hp}{a b:Addr}{o:HO} (h:H a=some o) (h':H b=none):a≠b:=by
 intro e;subst e;rw[h] at h';cases h'
def Rd (H:Hp) (a:Addr) (u:HO):Prop:=H a=some u\/∃ o,H a=some (.frz o u)
def SqT (K:W.Frag) (H:Hp) (a:Addr) (xs:List V):Prop :=
 Rd H a (.tup xs) \/
  ∃ (o:Obj) (its:Array Value) (n:Nat),K.lookup a=some o/\o.cls=.type "tuple"/\o.data=.seq its n/\its.size<=sizeLine/\Vals xs its.toList
inductive KeyH (K:W.Frag) (H:Hp):PyData->V->Prop where
 |int (i:Int):KeyH K H (.int i) (.int i)
 |str (x:Str):KeyH K H (.str x) (.str x)
 |tup {ds:List PyData}{a:Addr}{vs:List V}:SqT K H a vs->Paired (KeyH K H) ds vs->KeyH K H (.tuple ds) (.ref a)
def KeyT (K:W.Frag) (H:Hp) (d:PyData) (b:Addr):Prop:=kOk d=true/\Tf d<=6/\(∃ ds,d=.tuple ds)/\KeyH K H d (.ref b)
def Ub (oc:Obj) (q:Str):Prop:=∃ (vs:Array Value) (t:Nat),oc.data=.fields vs/\vs[1]?=some (.str q t)
def An9 (H:Hp) (h:Heap) (a:Addr) (qs:Array Value):Prop:=∃ ps:Array Value,h.get? a=some (W.tabObj ps)/\TriplesOk ps.toList /\
 ∀ (pos:Pos) (cv:Value),codeAmong pos ps.toList=some cv->∃ (c:Addr) (oc:Obj) (u:HO) (q:Str) (t:Nat),qs[0]?=some (.str q t)/\cv=.ref c/\H c=some (.frz oc u)/\Ub oc q
section
variable (P:Program) (w:World) (K:W.Frag)
def ObjOk (H:Hp) (h:Heap) (a:Addr):HO->Prop
 |.lst xs=>xs.length<=sizeLine/\∃ (its:List Value) (n:Nat),Vals xs its/\h.get? a=some { cls:=.type "list",data:=.seq its.toArray n }
 |.tup xs=>xs.length<=sizeLine/\∃ its:List Value,Vals xs its/\IsTup h a its.toArray
 |.dK kvs=>kvs.length<=sizeLine/\(a == sysModules)=false/\∃ vs,KV kvs vs/\h.DictOf (Vx P w) a vs
 |.dT kvs=>kvs.length<=sizeLine/\(a == sysModules)=false/\∃ xs:List (PyData×Addr×Value),
   Paired (fun (p:PyData×V) (q:PyData×Addr×Value)=>p.1=q.1/\KeyT K H q.1 q.2.1/\RelV p.2 q.2.2) kvs xs /\
   ∃ o es ep,h.get? a=some o/\o.ExactDict/\o.data=.dict es ep/\es.toList=xs.map (entryOfKey (D6 P w))/\(xs.map (·.1)).Nodup
 |.set S n=>h.SetOf (intKind P w) a S n
 |.ins C dx fs=>H dx=some (.own a)/\fs.length<=1000/\dx≠a/\h.get? a=some (W.instObj C dx) /\
   ∃ mA,h.Ns1 dx mA/\(∀ f,Aib (fs.lookup f) (mA f))/\PySem.Within mA (fs.map (·.1))
 |.own _=>∃ o,h.get? a=some o
 |.xd fs=>∃ mA,h.Ns1 a mA/\∀ f,Aib (fs.lookup f) (mA f)
 |.rng lo hi=>∃ t u v,h.get? a=some { cls:=.type "range",data:=.fields #[.int lo t,.int hi u,.int 1 v] }
 |.frz o u=>h.get? a=some o/\ObjOk H h a u
 |.tbl ps=>An9 H h a ps
 |.met f x=>h.get? a=some (W.methodObj (.ref f) (.ref x))
 |.ext φ=>φ h/\(∃ o,h.get? a=some o)/\∀ h1 h2:Heap,φ h1->(∀ o,h1.get? a=some o->h2.get? a=some o)->φ h2
def HOk (H:Hp) (h:Heap):Prop:=∀ a o,H a=some o->ObjOk P w K H h a o
end
section
variable {P:Program}{w:World}{K:W.Frag}{H H':Hp}{h h':Heap}{a:Addr}{o:HO}
theorem ObjOk.lt (x:ObjOk P w K H h a o):a < h.objs.size:=by
 cases o with
 |lst xs=>obtain⟨_,_,_,_,e⟩:=x;exact Aty e
 |tup xs=>obtain⟨_,_,_,p⟩:=x;exact p.lt
 |dK kvs=>obtain⟨_,_,_,_,o,_,_,e,_⟩:=x;exact Aty e
 |dT kvs=>obtain⟨_,_,_,_,o,_,_,e,_⟩:=x;exact Aty e
 |set S n=>obtain⟨o,_,_,_,e,_⟩:=x;exact Aty e
 |ins C dx fs=>obtain⟨_,_,_,e,_⟩:=x;exact Aty e
 |own y=>obtain⟨_,e⟩:=x;exact Aty e
 |xd fs=>obtain⟨_,⟨_,_,_,e,_⟩,_⟩:=x;exact Aty e
 |rng lo hi=>obtain⟨_,_,_,e⟩:=x;exact Aty e
 |frz ob u=>obtain⟨e,_⟩:=x;exact Aty e
 |tbl ps=>obtain⟨_,e,_⟩:=x;exact Aty e
 |met f y=>exact Aty (show h.get? a=some _ from x)
 |ext φ=>obtain⟨_,⟨_,e⟩,_⟩:=x;exact Aty e
theorem Paired.mapP {α β:Type}{F G:α->β->Prop}:∀ {l₁:List α}{l₂:List β},Paired F l₁ l₂->(∀ a b,F a b->G a b)->Paired G l₁ l₂
 |_,_,.nil,_=>.nil
 |_,_,.cons r t,f=>.cons (f _ _ r) (Paired.mapP t f)
theorem SqT.upR {K:W.Frag}{H H':Hp} (ht:∀ b xs,Rd H b (.tup xs)->Rd H' b (.tup xs)) {a:Addr}{xs:List V} (h:SqT K H a xs):SqT K H' a xs:=h.elim (fun z=>.inl (ht _ _ z)) .inr
theorem KeyH.up {K:W.Frag}{H H':Hp} (ht:∀ b xs,Rd H b (.tup xs)->Rd H' b (.tup xs)) (d:PyData):∀ {v:V},KeyH K H d v->KeyH K H' d v:=by
 match d with
 |.int i=>intro v h;cases h;exact .int _
 |.str x=>intro v h;cases h;exact .str _
 |.tuple ds =>
  intro v h
  cases h with
  |@tup _ a vs hs hp =>
  refine .tup (SqT.upR ht hs) ?_
  have go:∀ (es:List PyData) (us:List V),(∀ e∈es,e∈ds)->Paired (KeyH K H) es us->Paired (KeyH K H') es us:=by
   intro es us hm q
   induction q with
   |nil=>exact .nil
   |@cons e u es us h1 h2 ih=>exact .cons (KeyH.up ht e h1) (ih fun x hx=>hm x (Atn _ hx))
  exact go ds vs (fun _ h=>h) hp
 |.none=>intro v h;cases h
 |.bool _=>intro v h;cases h
 |.list _=>intro v h;cases h
 |.dict _=>intro v h;cases h
termination_by sizeOf d
decreasing_by
 have:=Au6 (hm e (Atk ..))
 simp;lia
theorem KeyT.up {K:W.Frag}{H H':Hp} (ht:∀ b xs,Rd H b (.tup xs)->Rd H' b (.tup xs)) {d:PyData}{b:Addr} (h:KeyT K H d b):KeyT K H' d b:=⟨h.1,h.2.1,h.2.2.1,h.2.2.2.up ht⟩
theorem Rd.upd_none {H:Hp}{p:Addr}{o u:HO} (hn:H p=none) {c:Addr} (q:Rd H c u):Rd (upd H p o) c u:=by
 rcases q with q|⟨x,q⟩
 ·exact .inl (by rw[An (Ao q hn)];exact q)
 ·exact .inr ⟨x,by rw[An (Ao q hn)];exact q⟩
theorem ObjOk.stay (x:ObjOk P w K H h a o) (k:∀ b u,(b=a\/H b=some (.own a))->h.get? b=some u->h'.get? b=some u)
  (ho:∀ b,H b=some (.own a)->H' b=some (.own a)) (ht:∀ b xs,Rd H b (.tup xs)->Rd H' b (.tup xs)) (hf:∀ b x u,H b=some (.frz x u)->H' b=some (.frz x u)):ObjOk P w K H' h' a o:=by
 induction o with
 |lst xs=>obtain⟨z,its,n,r,e⟩:=x;exact⟨z,its,n,r,k _ _ (.inl rfl) e⟩
 |tup xs=>obtain⟨z,its,r,ob,e,c⟩:=x;exact⟨z,its,r,ob,k _ _ (.inl rfl) e,c⟩
 |dK kvs=>obtain⟨z,y,vs,r,ob,es,ep,e,c⟩:=x;exact⟨z,y,vs,r,ob,es,ep,k _ _ (.inl rfl) e,c⟩
 |dT kvs =>
  obtain⟨z,y,xs,r,ob,es,ep,e,c⟩:=x
  exact⟨z,y,xs,Paired.mapP r fun p q z=>⟨z.1,z.2.1.up ht,z.2.2⟩,ob,es,ep,k _ _ (.inl rfl) e,c⟩
 |set S n=>obtain⟨ob,es,ep,t,e,c⟩:=x;exact⟨ob,es,ep,t,k _ _ (.inl rfl) e,c⟩
 |ins C dx fs =>
  obtain⟨d,z,ne,e,mA,⟨od,es,ep,e2,c⟩,r⟩:=x
  exact⟨ho _ d,z,ne,k _ _ (.inl rfl) e,mA,⟨od,es,ep,k _ _ (.inr d) e2,c⟩,r⟩
 |own y=>obtain⟨ob,e⟩:=x;exact⟨ob,k _ _ (.inl rfl) e⟩
 |xd fs=>obtain⟨mA,⟨od,es,ep,e,c⟩,r⟩:=x;exact⟨mA,⟨od,es,ep,k _ _ (.inl rfl) e,c⟩,r⟩
 |rng lo hi=>obtain⟨t,u,v,e⟩:=x;exact⟨t,u,v,k _ _ (.inl rfl) e⟩
 |frz ob u ih=>obtain⟨e,q⟩:=x;exact⟨k _ _ (.inl rfl) e,ih q⟩
 |tbl ps =>
  obtain⟨qs,e,t,c⟩:=x
  exact⟨qs,k _ _ (.inl rfl) e,t,fun pos cv z=>let ⟨c',oc,u,q,t',z1,z2,z3,z4⟩:=c pos cv z;⟨c',oc,u,q,t',z1,z2,hf _ _ _ z3,z4⟩⟩
 |met f y =>
  have e:h.get? a=some (W.methodObj (.ref f) (.ref y)):=x
  show h'.get? a=some (W.methodObj (.ref f) (.ref y))
  exact k a _ (.inl rfl) e
 |ext φ=>obtain⟨p,⟨o,e⟩,st⟩:=x;exact⟨st _ _ p fun o q=>k _ _ (.inl rfl) q,⟨o,k _ _ (.inl rfl) e⟩,st⟩
theorem HOk.lt (x:HOk P w K H h) (e:H a=some o):a < h.objs.size:=(x a o e).lt
theorem HOk.fresh (x:HOk P w K H h) (e:h.objs.size<=a):H a=none:=by
 cases q:H a with
 |none=>rfl
 |some u=>exact absurd (At2 (x.lt q) e) (Aut _)
theorem HOk.kept (x:HOk P w K H h) (k:∀ b u,h.get? b=some u->h'.get? b=some u):HOk P w K H h':=fun a o e =>
 (x a o e).stay (fun b u _ q=>k b u q) (fun _ q=>q) (fun _ _ q=>q) fun _ _ _ q=>q
theorem HOk.laid (x:HOk P w K H h) (k:∀ b u,h.get? b=some u->h'.get? b=some u) (hp:h.objs.size<=a) (new:ObjOk P w K (upd H a o) h' a o):HOk P w K (upd H a o) h':=fun b u e=>by
 have hn:=x.fresh hp
 by_cases hb:b=a
 ·subst hb;rw[As] at e;cases e;exact new
 ·rw[An hb] at e
  exact (x b u e).stay (fun c v _ q=>k c v q) (fun c q=>by rw[An (Ao q hn)];exact q) (fun c xs q=>Rd.upd_none hn q) fun c x u q=>by rw[An (Ao q hn)];exact q
end
theorem Rd.ok {P:Program}{w:World}{K:W.Frag}{H:Hp}{h:Heap}{a:Addr}{u:HO} (r:Rd H a u) (x:HOk P w K H h):ObjOk P w K H h a u:=by
 rcases r with r|⟨o,r⟩
 ·exact x a u r
 ·obtain⟨_,q⟩:=x a _ r
  exact q
noncomputable def Mut:Option HO->Prop
 |some (.lst _)=>True
 |some (.dK _)=>True
 |some (.dT _)=>True
 |some (.set _ _)=>True
 |some (.ins _ _ _)=>True
 |some (.ext _)=>True
 |_=>False
theorem Rd.upd_mut {H:Hp}{x:Addr}{o:HO} (mu:Mut (H x)) {c:Addr}{xs:List V} (q:Rd H c (.tup xs)):Rd (upd H x o) c (.tup xs):=by
 rcases q with q|⟨y,q⟩
 ·exact .inl (by rw[An (fun z=>by subst z;rw[q] at mu;exact mu)];exact q)
 ·exact .inr ⟨y,by rw[An (fun z=>by subst z;rw[q] at mu;exact mu)];exact q⟩
section
variable {P:Program}{w:World}{K:W.Frag}{H:Hp}{h h':Heap}{x e:Addr}{o':HO}
theorem HOk.write (ok:HOk P w K H h) (mu:Mut (H x)) (he:e=x\/H e=some (.own x)) (k:∀ b u,b≠e->h.get? b=some u->h'.get? b=some u) (heo:∃ u,h'.get? e=some u)
  (new:ObjOk P w K (upd H x o') h' x o'):HOk P w K (upd H x o') h':=fun b u q=>by
 have nown:∀ c y,H c=some (.own y)->c≠x:=fun c y r z=>by subst z;rw[r] at mu;exact mu
 have ntup:∀ c xs,H c=some (.tup xs)->c≠x:=fun c xs r z=>by subst z;rw[r] at mu;exact mu
 by_cases hb:b=x
 ·subst hb;rw[As] at q;cases q;exact new
 ·rw[An hb] at q
  by_cases hbe:b=e
  ·have q':H b=some (.own x):=by
    rcases he with z|z
    ·exact absurd (hbe.trans z) hb
    ·rw[hbe];exact z
   rw[q] at q';cases q'
   obtain⟨v,hv⟩:=heo
   exact⟨v,by rw[hbe];exact hv⟩
  ·refine (ok b u q).stay (fun c v hc r=>k c v ?_ r) (fun c r=>by rw[An (nown c b r)];exact r) (fun c xs r=>Rd.upd_mut mu r) fun c y u r=>by rw[An (fun z=>by subst z;rw[r] at mu;exact mu)];exact r
   rcases hc with rfl|hc
   ·exact hbe
   ·rintro rfl
    rcases he with z|z
    ·exact nown c b hc z
    ·rw[hc] at z;cases z;exact hb rfl
end
structure Un (fs ex:List Addr) (H H':Hp) (h h':Heap):Prop where
 keep:∀ b o,h.get? b=some o->H b=none->b∉fs->b∉ex->h'.get? b=some o
 slot:∀ b o,h.get? b=some o->H b=none->b∈fs->b∉ex->∃ sl,h'.get? b=some { o with slots:=sl }
 free:∀ b o,h.get? b=some o->H b=none->b∉ex->H' b=none
 there:∀ b o,h.get? b=some o->b∉ex->∃ o',h'.get? b=some o'
 tups:∀ b xs,H b=some (.tup xs)->H' b=some (.tup xs)
 frzs:∀ b o u,H b=some (.frz o u)->H' b=some (.frz o u)
 tbls:∀ b ps,H b=some (.tbl ps)->∃ more,H' b=some (.tbl (ps++more))
section
variable {fs fs' ex ex':List Addr}{H H1 H2:Hp}{h h1 h2 h':Heap}{a x e:Addr}{o:HO}
theorem Un.any (u:Un fs ex H H1 h h1) {b:Addr}{ob:Obj} (q:h.get? b=some ob) (n:H b=none) (hx:b∉ex):∃ sl,h1.get? b=some { ob with slots:=sl }:=by
 by_cases hb:b∈fs
 ·exact u.slot b ob q n hb hx
 ·exact⟨ob.slots,u.keep b ob q n hb hx⟩
theorem Un.kept (k:∀ b u,h.get? b=some u->h'.get? b=some u):Un fs ex H H h h' :=
 ⟨fun b ob q _ _ _=>k b ob q,fun b ob q _ _ _=>⟨ob.slots,k b ob q⟩,fun _ _ _ n _=>n,fun b ob q _=>⟨ob,k b ob q⟩,fun _ _ q=>q,fun _ _ _ q=>q,fun _ ps q=>⟨#[],by rw[q];simp⟩⟩
theorem Un.refl:Un fs ex H H h h:=Un.kept fun _ _ q=>q
theorem Un.laid (k:∀ b u,h.get? b=some u->h'.get? b=some u) (hp:h.objs.size<=a) (hn:H a=none):Un fs ex H (upd H a o) h h' where
 keep:=fun b u q _ _ _=>k b u q
 slot:=fun b u q _ _ _=>⟨u.slots,k b u q⟩
 free:=fun b u q n _=>by rw[An (At7 (At2 (Aty q) hp))];exact n
 there:=fun b u q _=>⟨u,k b u q⟩
 tups:=fun b xs q=>by rw[An (Ao q hn)];exact q
 frzs:=fun b u xs q=>by rw[An (Ao q hn)];exact q
 tbls:=fun b ps q=>⟨#[],by rw[An (Ao q hn),q];simp⟩
theorem Un.write (mu:Mut (H x)) (he:e=x\/H e=some (.own x)) (k:∀ b u,b≠e->h.get? b=some u->h'.get? b=some u) (heo:∃ u,h'.get? e=some u):Un fs ex H (upd H x o) h h':=by
 have hx:∀ b,H b=none->b≠x:=fun b n z=>by subst z;rw[n] at mu;exact mu
 have hb:∀ b,H b=none->b≠e:=fun b n z=>by
  subst z
  rcases he with r|r
  ·exact hx b n r
  ·rw[n] at r;cases r
 have hm:∀ b u,H b=some u->¬ Mut (some u)->b≠x:=fun b u q nm z=>by subst z;rw[q] at mu;exact nm mu
 refine⟨fun b u q n _ _=>k b u (hb b n) q,fun b u q n _ _=>⟨u.slots,k b u (hb b n) q⟩,fun b u q n _=>by rw[An (hx b n)];exact n,fun b u q _=>?_,
  fun b xs q=>by rw[An (hm b _ q fun z=>z)];exact q,fun b u xs q=>by rw[An (hm b _ q fun z=>z)];exact q,fun b ps q=>⟨#[],by rw[An (hm b _ q fun z=>z),q];simp⟩⟩
 by_cases hbe:b=e
 ·subst hbe;exact heo
 ·exact⟨u,k b u hbe q⟩
end
noncomputable def trk (h:Heap) (H:Hp):List Addr:=(List.range h.objs.size).filter fun a=>(H a).isSome
def Zq (h:Heap) (H:Hp):Heap:=W.hideAll h (trk h H)
theorem Vd (h:Heap) (H:Hp):(Zq h H).objs.size=h.objs.size:=W.hideAll_size _ _
theorem Le {h:Heap}{H:Hp}{b:Addr}{o:Obj} (e:h.get? b=some o) (n:H b=none):(Zq h H).get? b=some o :=
 W.hideAll_get _ e fun hm=>by
  have q:(H b).isSome=true:=(List.mem_filter.mp hm).2
  rw[n] at q;simp at q
theorem Afi {h:Heap}{H:Hp}{b:Addr}{o:Obj} (e:(Zq h H).get? b=some o):h.get? b=some o/\H b=none:=by
 have e':h.get? b=some o:=W.of_hideAll (trk h H) e
 refine⟨e',?_⟩
 cases q:H b with
 |none=>rfl
 |some x =>
  have hm:b∈trk h H:=List.mem_filter.mpr ⟨List.mem_range.mpr (Aty e'),by simp[q]⟩
  have z:(Zq h H).get? b=none:=W.hideAll_none (trk h H) hm
  rw[z] at e;cases e
structure Mod (K:W.Frag) (mg:Str->Option Value) (base:Heap):Prop where
 kin:K.In base
 glob:base.Ns mainGlobals mg
 blt:∃ mb,base.Ns builtinsNs mb/\∀ x:Str,x≠"__name__"->mb x=bootBuiltins x
 nolimit:base.NoLimit
structure Cx where
 prog:Program
 w:World
 K:W.Frag
 mg:Str->Option Value
 base:Heap
 A:Around
 N:List Str
 s₀:Shared
 H₀:Hp
 env:Env
 outer:List Env
 stack:List Env
 ex:List Addr
 fn:Str->Bool
 calm:Bool
 pn:List (Addr×Obj)
 xe:Value->Shared->Prop
noncomputable def frs (l:List Env):List Addr:=l.filterMap (·.frame)
abbrev Cx.fs (X:Cx):List Addr:=frs X.outer
def Vis (sc:Scope) (x:Str):Prop:=sc.names.lookup x=some .local\/sc.names.lookup x=some .cell\/sc.names.lookup x=some .free
def Loc (sc:Scope) (x:Str):Prop:=sc.names.lookup x=some .local\/sc.names.lookup x=some .cell
def Arx (env:Env) (h:Heap) (m:Str->Option Value) (x:Str) (u:Value):Prop :=
 (env.kindOf x=some .local/\m x=some u)\/((env.kindOf x=some .cell\/env.kindOf x=some .free)/\∃ c,env.cells.lookup x=some c/\h.IsCell c (some u))
structure Cx.Ok (X:Cx):Prop where
 mod:Mod X.K X.mg X.base
 kind:X.env.scope.kind=.function
 glob:X.env.globals=mainGlobals
 blt:X.env.builtins=builtinsNs
 above:X.s₀.heap.objs.size<=X.env.locals
 inj:∀ x y c,X.env.cells.lookup x=some c->X.env.cells.lookup y=some c->x=y
 has:∀ x,(X.env.kindOf x=some .cell\/X.env.kindOf x=some .free)->∃ c,X.env.cells.lookup x=some c
 cab:∀ x c,X.fn x=true->X.env.cells.lookup x=some c->X.s₀.heap.objs.size<=c
 hd:X.calm=true->X.A.handled=none
 frames:X.A.frames=some X.stack
 stk:X.stack=X.outer\/(X.stack=X.env::X.outer/\X.env.frame=some X.env.locals)
 exf:∀ b∈X.ex,b≠X.env.locals/\∀ x c,X.env.cells.lookup x=some c->c≠b
 bs:∀ b o,X.base.get? b=some o->X.s₀.heap.get? b=some o/\X.H₀ b=none
 bsz:X.base.objs.size<=X.s₀.heap.objs.size
 noex:∀ b o,X.base.get? b=some o->b∉X.ex
 exfs:∀ b∈X.ex,b∉X.fs
 funs:X.s₀.heap.FunFrames X.base X.outer
 frf:∀ b∈X.fs,X.H₀ b=none
structure Inv (X:Cx) (pins:List (Addr×Obj)) (σ:List (Option V)) (H:Hp) (s:Shared):Prop where
 ok:X.Ok
 os:s.os=X.s₀.os
 bare:AllBare s.gens
 base:Un X.fs X.ex X.H₀ H X.s₀.heap s.heap
 loc:∃ m,s.heap.Ns X.env.locals m/\∀ (i:Nat) (x:Str) (v:V),X.N[i]?=some x->σ[i]?=some (some v)->Vis X.env.scope x->∃ u,RelV v u/\Arx X.env s.heap m x u
 cell:∀ x c,X.env.cells.lookup x=some c->∃ v,s.heap.IsCell c v
 free:H X.env.locals=none
 freeC:∀ x c,X.env.cells.lookup x=some c->H c=none
 pin:∀ p∈X.pn++pins,s.heap.get? p.1=some p.2/\H p.1=none/\p.1≠X.env.locals/\p.1∉X.fs/\∀ v,p.2.data≠.cell v
 hok:HOk X.prog X.w X.K H s.heap
 len:σ.length=X.N.length
section
variable {X:Cx}{pins:List (Addr×Obj)}{σ:List (Option V)}{H H':Hp}{s:Shared}{h':Heap}
theorem Cx.Ok.nofr (ok:X.Ok) {b:Addr}{o:Obj} (e:X.base.get? b=some o):b∉X.fs:=fun hb=>by
 have:=(ok.funs.mem hb).1
 rw[e] at this;cases this
theorem Inv.bs (I:Inv X pins σ H s):∀ b o,X.base.get? b=some o->s.heap.get? b=some o/\H b=none:=fun b o e =>
 ⟨I.base.keep b o (I.ok.bs b o e).1 (I.ok.bs b o e).2 (I.ok.nofr e) (I.ok.noex b o e),I.base.free b o (I.ok.bs b o e).1 (I.ok.bs b o e).2 (I.ok.noex b o e)⟩
theorem Inv.bk (I:Inv X pins σ H s):∀ b o,X.base.get? b=some o->s.heap.get? b=some o:=fun b o e=>(I.bs b o e).1
theorem Inv.mod (I:Inv X pins σ H s):Mod X.K X.mg X.base:=I.ok.mod
theorem Inv.kIn (I:Inv X pins σ H s):X.K.In s.heap:=I.ok.mod.kin.keeps I.bk
theorem Inv.lt (I:Inv X pins σ H s):X.env.locals < s.heap.objs.size:=let ⟨_,hn,_⟩:=I.loc;hn.lt
theorem Inv.sz (I:Inv X pins σ H s):X.s₀.heap.objs.size<=s.heap.objs.size:=Auf I.ok.above (Ave I.lt)
theorem Inv.nofs (I:Inv X pins σ H s) {a:Addr} (h:s.heap.objs.size<=a):a∉X.fs:=fun hb=>by
 obtain⟨_,o,ho,_⟩:=I.ok.funs.mem hb
 exact absurd (At2 (Aty ho) (Auf I.sz h)) (Aut _)
theorem Inv.cne (I:Inv X pins σ H s):∀ x c,X.env.cells.lookup x=some c->c≠X.env.locals:=fun x c e z=>by
 obtain⟨v,o,ho,hd⟩:=I.cell x c e
 obtain⟨m,⟨o',es,ep,ho',hd',_⟩,_⟩:=I.loc
 rw[z,ho'] at ho;cases ho;rw[hd'] at hd;cases hd
theorem Inv.funs (I:Inv X pins σ H s):s.heap.FunFrames X.base X.outer:=by
 have all:∀ (l:List Env),(∀ b∈frs l,b∈X.fs)->X.s₀.heap.FunFrames X.base l->s.heap.FunFrames X.base l:=by
  intro l
  induction l with
  |nil=>intro _ _;trivial
  |cons env r ih =>
   intro hs hl
   obtain⟨hk,⟨L,o,hf,hn,ho,hd⟩,hr⟩:=hl
   have hL:L∈X.fs:=hs L (by unfold frs;rw[List.filterMap_cons,hf];exact Atk)
   obtain⟨sl,e⟩:=I.base.slot L o ho (I.ok.frf L hL) hL fun z=>I.ok.exfs L z hL
   exact⟨hk,⟨L,_,hf,hn,e,hd⟩,ih (fun b hb=>hs b (by unfold frs;rw[List.filterMap_cons,hf];exact Atn _ hb)) hr⟩
 exact all X.outer (fun _ hb=>hb) I.ok.funs
theorem Inv.stack (I:Inv X pins σ H s):s.heap.FunFrames X.base X.stack:=by
 rcases I.ok.stk with e|⟨e,hf⟩
 ·rw[e];exact I.funs
 ·rw[e]
  obtain⟨m,hn,_⟩:=I.loc
  refine .cons (by rw[I.ok.kind];decide) hf hn ?_ I.funs
  exact Heap.get?_none_of_le (Auf I.ok.bsz I.ok.above)
theorem Inv.stkSub (I:Inv X pins σ H s):∀ b∈frs X.stack,b∈X.env.locals::X.fs:=fun b hb=>by
 rcases I.ok.stk with e|⟨e,hf⟩
 ·rw[e] at hb;exact Atn _ hb
 ·rw[e] at hb
  unfold frs at hb
  rw[List.filterMap_cons,hf] at hb
  exact hb
theorem Inv.stkFree (I:Inv X pins σ H s):∀ b∈frs X.stack,H b=none:=fun b hb=>by
 rcases List.mem_cons.mp (I.stkSub b hb) with e|hb
 ·rw[e];exact I.free
 ·obtain⟨_,o,ho,_⟩:=I.ok.funs.mem hb
  exact I.base.free b o ho (I.ok.frf b hb) fun z=>I.ok.exfs b z hb
theorem Inv.step {g':Array GenState}{t':Nat}{d':Drawn}{ch:List Addr} (I:Inv X pins σ H s)
  (hch:∀ b∈ch,(b∈X.ex\/X.s₀.heap.objs.size<=b)/\b≠X.env.locals/\(∀ x c,X.env.cells.lookup x=some c->c≠b)/\∀ p∈X.pn++pins,p.1≠b)
  (keep:∀ b o,b≠X.env.locals->b∉X.fs->b∉ch->s.heap.get? b=some o->H b=none->h'.get? b=some o)
  (slot:∀ b o,b≠X.env.locals->b∈X.fs->b∉ch->s.heap.get? b=some o->H b=none->∃ sl,h'.get? b=some { o with slots:=sl }) (free:∀ b o,b∉ch->s.heap.get? b=some o->H b=none->H' b=none)
  (there:∀ b o,b∉ch->s.heap.get? b=some o->∃ o',h'.get? b=some o')
  (tups:∀ b xs,H b=some (.tup xs)->H' b=some (.tup xs)) (frzs:∀ b o u,H b=some (.frz o u)->H' b=some (.frz o u)) (tbls:∀ b ps,H b=some (.tbl ps)->∃ more,H' b=some (.tbl (ps++more)))
  (ns:∀ m,s.heap.Ns X.env.locals m->h'.Ns X.env.locals m) (hok:HOk X.prog X.w X.K H' h') (hg:AllBare g') :
  Inv X pins σ H' { s with heap:=h',gens:=g',drawn:=d',toks:=t' }:=by
 have neL:∀ b o,X.s₀.heap.get? b=some o->b≠X.env.locals:=fun b o e=>At7 (At2 (Aty e) I.ok.above)
 have neC:∀ b o,X.s₀.heap.get? b=some o->b∉X.ex->b∉ch:=fun b o e hx hb=>by
  rcases (hch b hb).1 with z|z
  ·exact hx z
  ·exact absurd (At2 (Aty e) z) (Aut _)
 have cellK:∀ x c,X.env.cells.lookup x=some c->∀ v,s.heap.IsCell c v->h'.IsCell c v:=fun x c e v ⟨o,ho,hd⟩=>by
  have nch:c∉ch:=fun z=>(hch c z).2.2.1 x c e rfl
  by_cases hc:c∈X.fs
  ·obtain⟨sl,q⟩:=slot c o (I.cne x c e) hc nch ho (I.freeC x c e)
   exact⟨_,q,hd⟩
  ·exact⟨o,keep c o (I.cne x c e) hc nch ho (I.freeC x c e),hd⟩
 refine⟨I.ok,I.os,hg,⟨fun b o e n hb hx=>?_,fun b o e n hb hx=>?_,fun b o e n hx=>?_,fun b o e hx=>?_,fun b xs e=>tups b xs (I.base.tups b xs e),fun b o xs e=>frzs b o xs (I.base.frzs b o xs e),fun b ps e=>?_⟩,?_,fun x c e=>?_,?_,fun x c e=>?_,fun p hp=>?_,hok,I.len⟩
 ·exact keep b o (neL b o e) hb (neC b o e hx) (I.base.keep b o e n hb hx) (I.base.free b o e n hx)
 ·obtain⟨sl,e1⟩:=I.base.slot b o e n hb hx
  obtain⟨sl',e2⟩:=slot b _ (neL b o e) hb (neC b o e hx) e1 (I.base.free b o e n hx)
  exact⟨sl',e2⟩
 ·obtain⟨o',e1⟩:=I.base.there b o e hx
  exact free b o' (neC b o e hx) e1 (I.base.free b o e n hx)
 ·obtain⟨o',e1⟩:=I.base.there b o e hx
  exact there b o' (neC b o e hx) e1
 ·obtain⟨m1,e1⟩:=I.base.tbls b ps e
  obtain⟨m2,e2⟩:=tbls b _ e1
  exact⟨m1++m2,by rw[e2,Array.append_assoc]⟩
 ·obtain⟨m,hn,hl⟩:=I.loc
  refine⟨m,ns m hn,fun i x v e1 e2 e3=>?_⟩
  obtain⟨u,r,l⟩:=hl i x v e1 e2 e3
  refine⟨u,r,?_⟩
  rcases l with l|⟨k,c,e,z⟩
  ·exact .inl l
  ·exact .inr ⟨k,c,e,cellK x c e _ z⟩
 ·obtain⟨v,z⟩:=I.cell x c e
  exact⟨v,cellK x c e v z⟩
 ·obtain⟨m,⟨o,_,_,ho,_⟩,_⟩:=I.loc
  exact free _ o (fun z=>(hch _ z).2.1 rfl) ho I.free
 ·obtain⟨v,o,ho,hd⟩:=I.cell x c e
  exact free c o (fun z=>(hch c z).2.2.1 x c e rfl) ho (I.freeC x c e)
 ·obtain⟨e,n,ne,nf,d⟩:=I.pin p hp
  have nch:p.1∉ch:=fun z=>(hch p.1 z).2.2.2 p hp rfl
  exact⟨keep p.1 p.2 ne nf nch e n,free p.1 p.2 nch e n,ne,nf,d⟩
theorem Inv.un {t':Nat} (I:Inv X pins σ H s) (u:Un X.fs [] H H' s.heap h') (hok:HOk X.prog X.w X.K H' h'):Inv X pins σ H' { s with heap:=h',toks:=t' }:=by
 obtain⟨m,⟨o,es,ep,ho,r⟩,_⟩:=id I.loc
 obtain⟨sl,hL⟩:=u.any ho I.free (by simp)
 exact I.step (g':=s.gens) (d':=s.drawn) (ch:=[]) (fun _ z=>nomatch z) (fun b o _ hb _ e n=>u.keep b o e n hb (by simp)) (fun b o _ hb _ e n=>u.slot b o e n hb (by simp)) (fun b o _ e n=>u.free b o e n (by simp)) (fun b o _ e=>u.there b o e (by simp)) u.tups u.frzs u.tbls (fun m' hm=>by
  obtain⟨o',es',ep',ho',r'⟩:=hm
  rw[ho] at ho';cases ho'
  exact⟨_,es',ep',hL,r'⟩) hok I.bare
theorem Inv.call {g':Array GenState}{t':Nat}{d':Drawn}{ch:List Addr} (I:Inv X pins σ H s) (u:Un (frs X.stack) ch H H' s.heap h') (hok:HOk X.prog X.w X.K H' h') (hg:AllBare g')
  (hch:∀ b∈ch,(b∈X.ex\/X.s₀.heap.objs.size<=b)/\b≠X.env.locals/\(∀ x c,X.env.cells.lookup x=some c->c≠b)/\∀ p∈X.pn++pins,p.1≠b) :
  Inv X pins σ H' { s with heap:=h',gens:=g',drawn:=d',toks:=t' }:=by
 obtain⟨m,⟨o,es,ep,ho,r⟩,_⟩:=id I.loc
 obtain⟨sl,hL⟩:=u.any ho I.free fun z=>(hch _ z).2.1 rfl
 exact I.step (ch:=ch) hch (fun b o hL hb hc e n=>u.keep b o e n (fun z=>(List.mem_cons.mp (I.stkSub b z)).elim hL hb) hc) (fun b o _ _ hc e n=>u.any e n hc) (fun b o hc e n=>u.free b o e n hc) (fun b o hc e=>u.there b o e hc) u.tups u.frzs u.tbls (fun m' hm=>by
  obtain⟨o',es',ep',ho',r'⟩:=hm
  rw[ho] at ho';cases ho'
  exact⟨_,es',ep',hL,r'⟩) hok hg
theorem Inv.turned {t':Nat}{it:Addr} (I:Inv X pins σ H s) (k:∀ b o,b≠it->s.heap.get? b=some o->h'.get? b=some o) (hn:H it=none) (hL:it≠X.env.locals)
  (h1:it∈X.ex\/X.s₀.heap.objs.size<=it) (h2:∀ x c,X.env.cells.lookup x=some c->c≠it) (h3:∀ p∈X.pn++pins,p.1≠it):Inv X pins σ H { s with heap:=h',toks:=t' }:=by
 have nit:∀ b u,H b=some u->b≠it:=fun b u e z=>by rw[z,hn] at e;cases e
 refine I.step (g':=s.gens) (d':=s.drawn) (ch:=[it]) (fun b hb=>?_) (fun b o _ _ hc e _=>k b o (fun z=>hc (by simp[z])) e) (fun b o _ _ hc e _=>⟨o.slots,k b o (fun z=>hc (by simp[z])) e⟩) (fun _ _ _ _ n=>n)
  (fun b o hc e=>⟨o,k b o (fun z=>hc (by simp[z])) e⟩) (fun _ _ e=>e) (fun _ _ _ e=>e) (fun b ps e=>⟨#[],by rw[e];simp⟩) (fun m hm=>?_) (fun b u e=>?_) I.bare
 ·have e:b=it:=by simpa using hb
  subst e
  exact⟨h1,hL,h2,h3⟩
 ·obtain⟨o,es,ep,ho,r⟩:=hm
  exact⟨o,es,ep,k _ o (Avr hL) ho,r⟩
 ·refine (I.hok b u e).stay (fun c v hc q=>k c v ?_ q) (fun _ q=>q) (fun _ _ q=>q) fun _ _ _ q=>q
  rcases hc with z|z
  ·rw[z];exact nit b u e
  ·exact nit c _ z
theorem Inv.tok (I:Inv X pins σ H s) (t:Nat):Inv X pins σ H { s with toks:=t }:=I.un (h':=s.heap) (t':=t) Un.refl I.hok
theorem Inv.kept {t':Nat} (I:Inv X pins σ H s) (k:∀ b u,s.heap.get? b=some u->h'.get? b=some u):Inv X pins σ H { s with heap:=h',toks:=t' }:=I.un (Un.kept k) (I.hok.kept k)
theorem Inv.laid {a:Addr}{o:HO}{t':Nat} (I:Inv X pins σ H s) (k:∀ b u,s.heap.get? b=some u->h'.get? b=some u) (hp:s.heap.objs.size<=a) (new:ObjOk X.prog X.w X.K (upd H a o) h' a o) :
  Inv X pins σ (upd H a o) { s with heap:=h',toks:=t' }:=I.un (Un.laid k hp (I.hok.fresh hp)) (I.hok.laid k hp new)
theorem Inv.write {x e:Addr}{o:HO}{t':Nat} (I:Inv X pins σ H s) (mu:Mut (H x)) (he:e=x\/H e=some (.own x)) (k:∀ b u,b≠e->s.heap.get? b=some u->h'.get? b=some u) (heo:∃ u,h'.get? e=some u)
  (new:ObjOk X.prog X.w X.K (upd H x o) h' x o):Inv X pins σ (upd H x o) { s with heap:=h',toks:=t' }:=I.un (Un.write mu he k heo) (I.hok.write mu he k heo new)
theorem Inv.pins_of {pins':List (Addr×Obj)} (I:Inv X pins σ H s) (h:∀ p∈pins',s.heap.get? p.1=some p.2/\H p.1=none/\p.1≠X.env.locals/\p.1∉X.fs/\∀ v,p.2.data≠.cell v):Inv X pins' σ H s :=
 ⟨I.ok,I.os,I.bare,I.base,I.loc,I.cell,I.free,I.freeC,fun p hp=>(List.mem_append.mp hp).elim (fun z=>I.pin p (Aue _ z)) (h p),I.hok,I.len⟩
theorem P9 {N:List Str} (hN:N.Nodup) {i j:Nat}{x:Str} (a:N[i]?=some x) (b:N[j]?=some x):i=j:=by
 obtain⟨h1,e1⟩:=List.getElem?_eq_some_iff.mp a
 obtain⟨h2,e2⟩:=List.getElem?_eq_some_iff.mp b
 exact (List.getElem_inj hN).mp (e1.trans e2.symm)
theorem Nk {M:Model}{A:Around}{E:Value->Shared->Prop}{i:Nat}{x:Str}{v:V}{u:Value}{Q:Unit->Shared->Prop} (I:Inv X pins σ H s) (hN:X.N.Nodup) (hi:X.N[i]?=some x) (hx:Loc X.env.scope x) (r:RelV v u)
  (h:∀ s',Inv X pins (σ.set i (some v)) H s'->(∃ a,Heap.SameBut a s.heap s'.heap/\(a=X.env.locals\/X.env.cells.lookup x=some a))->Q () s') (hf:X.fn x=true\/X.env.scope.names.lookup x=some .local:=by first|exact .inl rfl|exact .inr rfl|assumption):wpAny M A (storeName X.env x u) Q E s:=by
 obtain⟨m,hn,hl⟩:=id I.loc
 have hcls:(X.env.scope.kind == .class||(X.env.scope.kind == .module&&X.env.locals != X.env.globals))=false:=by rw[I.ok.kind];rfl
 have hiσ:i < σ.length:=by rw[I.len];exact (List.getElem?_eq_some_iff.mp hi).1
 have cne:=I.cne
 have tracked:∀ {a:Addr}{h':Heap},(∃ o,s.heap.get? a=some o/\H a=none)->Heap.SameBut a s.heap h'->HOk X.prog X.w X.K H h':=fun {a h'} ha hs b ob e=>by
  obtain⟨_,_,hfree⟩:=ha
  refine (I.hok b ob e).stay (fun c w' hc q=>(hs.2 c ?_).trans q) (fun _ q=>q) (fun _ _ q=>q) fun _ _ _ q=>q
  rintro rfl
  rcases hc with rfl|hc
  ·rw[hfree] at e;cases e
  ·rw[hfree] at hc;cases hc
 rcases hx with hk|hk
 ·refine wpAny_storeName_local hk hn (fun h' hn' hs=>?_) hcls
  obtain⟨oL,_,_,hoL,_⟩:=id hn
  refine h _ ⟨I.ok,I.os,I.bare,⟨fun b o e n hb hx=>?_,fun b o e n hb hx=>?_,I.base.free,fun b o e hx=>?_,I.base.tups,I.base.frzs,I.base.tbls⟩,⟨_,hn',fun j y v' e1 e2 e3=>?_⟩,fun y c e=>?_,I.free,I.freeC,fun p hp=>?_,tracked ⟨oL,hoL,I.free⟩ hs,by simpa using I.len⟩ ⟨_,hs,.inl rfl⟩
  ·exact (hs.2 b (At7 (At2 (Aty e) I.ok.above))).trans (I.base.keep b o e n hb hx)
  ·obtain⟨sl,e1⟩:=I.base.slot b o e n hb hx
   exact⟨sl,(hs.2 b (At7 (At2 (Aty e) I.ok.above))).trans e1⟩
  ·obtain⟨o',e1⟩:=I.base.there b o e hx
   exact⟨o',(hs.2 b (At7 (At2 (Aty e) I.ok.above))).trans e1⟩
  ·by_cases hj:j=i
   ·subst hj
    rw[hi] at e1;cases e1
    rw[Au1 hiσ] at e2
    cases e2
    exact⟨u,r,.inl ⟨hk,by simp⟩⟩
   ·rw[Avi (Avr hj)] at e2
    obtain⟨u',r',q⟩:=hl j y v' e1 e2 e3
    refine⟨u',r',?_⟩
    rcases q with ⟨k,e⟩|⟨k,c,e,z⟩
    ·refine .inl ⟨k,?_⟩
     have:y≠x:=fun e=>hj (P9 hN e1 (e ▸ hi))
     simp[this,e]
    ·exact .inr ⟨k,c,e,z.sameBut hs (cne y c e)⟩
  ·obtain⟨w',z⟩:=I.cell y c e
   exact⟨w',z.sameBut hs (cne y c e)⟩
  ·obtain⟨e,n,ne,nf,d⟩:=I.pin p hp
   exact⟨(hs.2 p.1 ne).trans e,n,ne,nf,d⟩
 ·have hfn:X.fn x=true:=by
   rcases hf with z|z
   ·exact z
   ·rw[z] at hk;cases hk
  obtain⟨c,hc⟩:=I.ok.has x (.inl hk)
  obtain⟨w',z⟩:=I.cell x c hc
  refine wpAny_storeName_cell I.ok.kind hk hc z (fun h' hc' hs=>?_)
  obtain⟨oc,hoc,hocd⟩:=id z
  refine h { s with heap:=h' } ⟨I.ok,I.os,I.bare,⟨fun b o e n hb hx=>?_,fun b o e n hb hx=>?_,I.base.free,fun b o e hx=>?_,I.base.tups,I.base.frzs,I.base.tbls⟩,⟨m,hn.sameBut hs (Avr (cne x c hc)),fun j y v' e1 e2 e3=>?_⟩,fun y c' e=>?_,I.free,I.freeC,fun p hp=>?_,tracked ⟨oc,hoc,I.freeC x c hc⟩ hs,by simpa using I.len⟩ ⟨c,hs,.inr hc⟩
  ·exact (hs.2 b (At7 (At2 (Aty e) (I.ok.cab x c hfn hc)))).trans (I.base.keep b o e n hb hx)
  ·obtain⟨sl,e1⟩:=I.base.slot b o e n hb hx
   exact⟨sl,(hs.2 b (At7 (At2 (Aty e) (I.ok.cab x c hfn hc)))).trans e1⟩
  ·obtain⟨o',e1⟩:=I.base.there b o e hx
   exact⟨o',(hs.2 b (At7 (At2 (Aty e) (I.ok.cab x c hfn hc)))).trans e1⟩
  ·by_cases hj:j=i
   ·subst hj
    rw[hi] at e1;cases e1
    rw[Au1 hiσ] at e2
    cases e2
    exact⟨u,r,.inr ⟨.inl hk,c,hc,hc'⟩⟩
   ·rw[Avi (Avr hj)] at e2
    obtain⟨u',r',q⟩:=hl j y v' e1 e2 e3
    refine⟨u',r',?_⟩
    rcases q with q|⟨k,c',e,z'⟩
    ·exact .inl q
    ·refine .inr ⟨k,c',e,z'.sameBut hs ?_⟩
     rintro rfl
     exact hj (P9 hN e1 (I.ok.inj _ _ _ e hc ▸ hi))
  ·by_cases hcc:c'=c
   ·subst hcc;exact⟨_,hc'⟩
   ·obtain⟨w2,z2⟩:=I.cell y c' e
    exact⟨w2,z2.sameBut hs hcc⟩
  ·obtain⟨e,n,ne,nf,d⟩:=I.pin p hp
   refine⟨(hs.2 p.1 ?_).trans e,n,ne,nf,d⟩
   intro q
   rw[q,hoc] at e
   have q':oc=p.2:=Auo e
   exact d w' (by rw[<- q'];exact hocd)
theorem Rn {M:Model}{A:Around}{E:Value->Shared->Prop}{i:Nat}{x:Str}{v:V}{u:Value}{Q:Unit->Shared->Prop} (I:Inv X pins σ H s) (hN:X.N.Nodup) (hi:X.N[i]?=some x) (hx:Loc X.env.scope x) (r:RelV v u)
  (h:∀ s',Inv X pins (σ.set i (some v)) H s'->Q () s') (hf:X.fn x=true\/X.env.scope.names.lookup x=some .local:=by first|exact .inl rfl|exact .inr rfl|assumption):wpAny M A (storeName X.env x u) Q E s :=
 Nk I hN hi hx r (fun s' I' _=>h s' I') hf
theorem Inv.call' {s':Shared}{ch:List Addr} (I:Inv X pins σ H s) (ho:s'.os=s.os) (u:Un (frs X.stack) ch H H' s.heap s'.heap) (hok:HOk X.prog X.w X.K H' s'.heap) (hg:AllBare s'.gens)
  (hch:∀ b∈ch,(b∈X.ex\/X.s₀.heap.objs.size<=b)/\b≠X.env.locals/\(∀ x c,X.env.cells.lookup x=some c->c≠b)/\∀ p∈X.pn++pins,p.1≠b):Inv X pins σ H' s':=by
 obtain⟨h',g',d',t',o'⟩:=s'
 have e:o'=s.os:=ho
 subst e
 exact I.call (g':=g') (t':=t') (d':=d') u hok hg hch
end
abbrev XK:=Value->Option Addr->Hp->Prop
abbrev St:=List (Option V)
abbrev VK:=V->Hp->Prop
abbrev TE:=St->Hp->VK->Prop
abbrev TT:=St->Hp->(Bool->Hp->Prop)->Prop
abbrev TA:=St->Hp->(List V->Hp->Prop)->Prop
structure Ends where
 nx:St->Hp->Prop
 rt:VK
 bk:St->Hp->Prop:=fun _ _=>False
 ct:St->Hp->Prop:=fun _ _=>False
abbrev TS:=Ends->St->Hp->Prop
def EP (X:Cx) (pins:List (Addr×Obj)) (σ:St) (Q:VK) (u:Value) (s':Shared):Prop:=∃ v H',Inv X pins σ H' s'/\RelV v u/\Q v H'
def TP (X:Cx) (pins:List (Addr×Obj)) (σ:St) (Q:Bool->Hp->Prop) (b:Bool) (s':Shared):Prop:=∃ H',Inv X pins σ H' s'/\Q b H'
def AP (X:Cx) (pins:List (Addr×Obj)) (σ:St) (Q:List V->Hp->Prop) (us:List Value) (s':Shared):Prop:=∃ vs H',Inv X pins σ H' s'/\Vals vs us/\Q vs H'
def SP (X:Cx) (pins:List (Addr×Obj)) (D:Ends) (f:Flow) (s':Shared):Prop :=
 match f with
 |.next=>∃ σ' H',Inv X pins σ' H' s'/\D.nx σ' H'
 |.brk=>∃ σ' H',Inv X pins σ' H' s'/\D.bk σ' H'
 |.cont=>∃ σ' H',Inv X pins σ' H' s'/\D.ct σ' H'
 |.ret u=>∃ v σ' H',Inv X pins σ' H' s'/\RelV v u/\D.rt v H'
def PE (X:Cx) (e:Expr) (t:TE):Prop :=
 ∀ (pins:List (Addr×Obj)) (s:Shared) (σ:St) (H:Hp) (Q:VK),Inv X pins σ H s->t σ H Q->wpAny (model X.prog X.w) X.A (eval e X.env) (EP X pins σ Q) X.xe s
def PT (X:Cx) (e:Expr) (t:TT):Prop :=
 ∀ (pins:List (Addr×Obj)) (s:Shared) (σ:St) (H:Hp) (Q:Bool->Hp->Prop),Inv X pins σ H s->t σ H Q->wpAny (model X.prog X.w) X.A (isTrue e X.env (eval e X.env)) (TP X pins σ Q) X.xe s
def PW (X:Cx) (e:Expr) (t:TT):Prop :=
 ∀ (whole:Sem Value) (pins:List (Addr×Obj)) (s:Shared) (σ:St) (H:Hp) (Q:Bool->Hp->Prop),Inv X pins σ H s->t σ H Q->wpAny (model X.prog X.w) X.A (isTrue e X.env whole) (TP X pins σ Q) X.xe s
theorem PW.pt {X:Cx}{e:Expr}{t:TT} (h:PW X e t):PT X e t:=h _
def PA (X:Cx) (es:List Expr) (t:TA):Prop :=
 ∀ (pos:Pos) (pins:List (Addr×Obj)) (s:Shared) (σ:St) (H:Hp) (Q:List V->Hp->Prop),Inv X pins σ H s->t σ H Q->wpAny (model X.prog X.w) X.A (spliced (backTo pos (starEach es X.env))) (AP X pins σ Q) X.xe s
def PS (X:Cx) (st:Stmt) (t:TS):Prop :=
 ∀ (pins:List (Addr×Obj)) (s:Shared) (σ:St) (H:Hp) (D:Ends),Inv X pins σ H s->t D σ H->wpAny (model X.prog X.w) X.A (exec st X.env) (SP X pins D) X.xe s
def PSs (X:Cx) (st:List Stmt) (t:TS):Prop :=
 ∀ (pins:List (Addr×Obj)) (s:Shared) (σ:St) (H:Hp) (D:Ends),Inv X pins σ H s->t D σ H->wpAny (model X.prog X.w) X.A (execs st X.env) (SP X pins D) X.xe s
theorem thn {α:Type}{t:Sem α}{Q Q':α->Shared->Prop}{M:Model}{A:Around}{E:Value->Shared->Prop}{s:Shared} (h:wpAny M A t Q E s) (hQ:∀ a s,Q a s->Q' a s):wpAny M A t Q' E s:=Auq h hQ fun _ _ x=>x
section
variable {X:Cx}
noncomputable def Atg (i:Nat):TE:=fun σ H Q=>∃ v,σ[i]?=some (some v)/\Q v H
noncomputable def tC (v:V):TE:=fun _ H Q=>Q v H
theorem Acz {i:Nat}{x:Str}{pos:Pos} (hN:X.N[i]?=some x) (hv:Vis X.env.scope x) (hd:(x == ("__debug__":Str))=false:=by decide) (hcd:(x == ("__classdict__":Str))=false:=by decide):PE X (.Name x pos) (Atg i):=by
 intro pins s σ H Q I h
 obtain⟨v,e,h⟩:=h
 obtain⟨m,hn,hl⟩:=I.loc
 obtain⟨u,r,l⟩:=hl i x v hN e hv
 have fin:EP X pins σ Q u s:=⟨v,H,I,r,h⟩
 rcases l with ⟨hk,hm⟩|⟨hk,c,hc,hcell⟩
 ·exact wpAny_Name (wpAny_loadName_local I.ok.kind hk hn hm fin) hd
 ·rcases hk with hk|hk
  ·exact wpAny_Name (wpAny_loadName_cell I.ok.kind hk hc hcell fin) hd
  ·exact wpAny_Name (wpAny_loadName_free I.ok.kind hk hc hcell fin hcd) hd
theorem Al4 {i j pos}:PE X (.Constant (.int i) j pos) (tC (.int i)):=fun _ _ _ H _ I h=>wpAny_Constant_int ⟨.int i,H,I.tok _,⟨_,rfl⟩,h⟩
theorem Aqh {b j pos}:PE X (.Constant (.bool b) j pos) (tC (.bl b)):=fun _ _ _ H _ I h=>Constant_bool ⟨.bl b,H,I,rfl,h⟩
theorem Xl {j pos}:PE X (.Constant .none j pos) (tC .non):=fun _ _ _ H _ I h=>Constant_none ⟨.non,H,I,rfl,h⟩
theorem Al8 {x j pos}:PE X (.Constant (.str x) j pos) (tC (.str x)):=fun _ _ _ H _ I h=>Calls.Constant_str ⟨.str x,H,I.tok _,⟨_,rfl⟩,h⟩
def Gl (X:Cx) (x:Str):Prop:=X.env.kindOf x=some .globalImplicit
theorem Om {E:Value->Shared->Prop}{pins:List (Addr×Obj)}{s:Shared}{σ:St}{H:Hp}{x:Str}{u:Value}{pos:Pos}{Q:Value->Shared->Prop} (I:Inv X pins σ H s) (hg:Gl X x) (hm:X.mg x=some u) (h:Q u s)
  (hd:(x == ("__debug__":Str))=false:=by decide):wpAny (model X.prog X.w) X.A (eval (.Name x pos) X.env) Q E s :=
 Calls.Name_function_global I.ok.kind hg (Calls.loadGlobal_global (by rw[I.ok.glob];exact I.mod.glob.keeps I.bk) hm h) hd
theorem Eu {E:Value->Shared->Prop}{pins:List (Addr×Obj)}{s:Shared}{σ:St}{H:Hp}{x:Str}{u:Value}{pos:Pos}{Q:Value->Shared->Prop} (I:Inv X pins σ H s) (hg:Gl X x) (hm:X.mg x=none) (hv:bootBuiltins x=some u) (h:Q u s)
  (hn:x≠"__name__":=by decide) (hd:(x == ("__debug__":Str))=false:=by decide):wpAny (model X.prog X.w) X.A (eval (.Name x pos) X.env) Q E s:=by
 obtain⟨mb,h1,h2⟩:=I.mod.blt
 exact Calls.Name_function_global I.ok.kind hg (Calls.loadGlobal_builtin (by rw[I.ok.glob];exact I.mod.glob.keeps I.bk) hm (by rw[I.ok.blt];exact h1.keeps I.bk) ((h2 x hn).trans hv) h) hd
theorem Afz {x:Str}{v:V}{u:Value}{pos:Pos} (hg:Gl X x) (hm:X.mg x=none) (hv:bootBuiltins x=some u) (r:RelV v u) (hn:x≠"__name__":=by decide) (hd:(x == ("__debug__":Str))=false:=by decide):PE X (.Name x pos) (tC v) :=
 fun _ _ _ H _ I h=>Eu I hg hm hv ⟨v,H,I,r,h⟩ hn hd
variable {a b:Expr}{ta tb:TE}{pos:Pos}
variable {tA tB':TT}{rest:List Expr}
noncomputable def Art (t u:TT):TT:=fun σ H Q=>t σ H fun c H1=>if c=true then u σ H1 Q else Q false H1
noncomputable def tOr (t u:TT):TT:=fun σ H Q=>t σ H fun c H1=>if c=true then Q true H1 else u σ H1 Q
noncomputable def Atc (t:TT):TT:=fun σ H Q=>t σ H fun c H1=>Q (!c) H1
theorem Agn (ha:PT X a tA):PW X (.BoolOp .And [a] pos) tA:=by
 intro wh pins s σ H Q I h
 refine isTrue_and (thn (ha pins s σ H Q I h) fun c s1 e=>?_)
 cases c with
 |true=>exact isTrue_and_nil e
 |false=>exact e
theorem Amj (ha:PT X a tA):PW X (.BoolOp .Or [a] pos) tA:=by
 intro wh pins s σ H Q I h
 refine isTrue_or (thn (ha pins s σ H Q I h) fun c s1 e=>?_)
 cases c with
 |false=>exact isTrue_or_nil e
 |true=>exact e
theorem Amh (ha:PT X a tA) (hb:PW X (.BoolOp .And (b::rest) pos) tB'):PW X (.BoolOp .And (a::b::rest) pos) (Art tA tB'):=by
 intro wh pins s σ H Q I h
 refine isTrue_and (thn (ha pins s σ H _ I h) fun c s1 ⟨H1,I1,q1⟩=>?_)
 cases c with
 |true=>exact hb wh pins s1 σ H1 Q I1 q1
 |false=>exact⟨H1,I1,q1⟩
theorem Aqo (ha:PT X a tA) (hb:PW X (.BoolOp .Or (b::rest) pos) tB'):PW X (.BoolOp .Or (a::b::rest) pos) (tOr tA tB'):=by
 intro wh pins s σ H Q I h
 refine isTrue_or (thn (ha pins s σ H _ I h) fun c s1 ⟨H1,I1,q1⟩=>?_)
 cases c with
 |true=>exact⟨H1,I1,q1⟩
 |false=>exact hb wh pins s1 σ H1 Q I1 q1
theorem Amg (ha:PT X a tA):PT X (.UnaryOp .Not a pos) (Atc tA):=by
 intro pins s σ H Q I h
 exact isTrue_not (ha pins s σ H (fun c H1=>Q (!c) H1) I h)
noncomputable def Aqy (ta tb:TE):TE:=fun σ H Q=>ta σ H fun x H1=>∃ c,x=.bl c/\if c=true then tb σ H1 Q else Q (.bl false) H1
noncomputable def Atd (ta tb:TE):TE:=fun σ H Q=>ta σ H fun x H1=>∃ c,x=.bl c/\if c=true then Q (.bl true) H1 else tb σ H1 Q
theorem Al7 {op}{t:TE} (h:PE X a t):PE X (.BoolOp op [a] pos) t:=fun pins s σ H Q I hw=>BoolOp_one (h pins s σ H Q I hw)
theorem Al3 (ha:PE X a ta) (hb:PE X (.BoolOp .And (b::rest) pos) tb):PE X (.BoolOp .And (a::b::rest) pos) (Aqy ta tb):=by
 intro pins s σ H Q I h
 refine BoolOp_and (thn (ha pins s σ H _ I h) fun v s1 ⟨x,H1,I1,r1,q1⟩=>?_)
 obtain⟨c,rfl,q1⟩:=q1
 cases r1
 refine Avp ?_
 cases c with
 |true=>exact hb pins s1 σ H1 Q I1 q1
 |false=>exact⟨.bl false,H1,I1,rfl,q1⟩
theorem Aql (ha:PE X a ta) (hb:PE X (.BoolOp .Or (b::rest) pos) tb):PE X (.BoolOp .Or (a::b::rest) pos) (Atd ta tb):=by
 intro pins s σ H Q I h
 refine BoolOp_or (thn (ha pins s σ H _ I h) fun v s1 ⟨x,H1,I1,r1,q1⟩=>?_)
 obtain⟨c,rfl,q1⟩:=q1
 cases r1
 refine Avp ?_
 cases c with
 |false=>exact hb pins s1 σ H1 Q I1 q1
 |true=>exact⟨.bl true,H1,I1,rfl,q1⟩
noncomputable def tIf (t:TT) (ta tb:TE):TE:=fun σ H Q=>t σ H fun c H1=>if c=true then ta σ H1 Q else tb σ H1 Q
theorem Aao {c:Expr} (hc:PT X c tA) (ha:PE X a ta) (hb:PE X b tb):PE X (.IfExp c a b pos) (tIf tA ta tb):=by
 intro pins s σ H Q I h
 refine wpAny_IfExp (thn (hc pins s σ H _ I h) fun d s1 ⟨H1,I1,q1⟩=>?_)
 cases d with
 |true=>exact ha pins s1 σ H1 Q I1 q1
 |false=>exact hb pins s1 σ H1 Q I1 q1
end
def SqL (K:W.Frag) (H:Hp) (a:Addr) (xs:List V):Prop :=
 Rd H a (.lst xs) \/
  ∃ (o:Obj) (its:Array Value) (n:Nat),K.lookup a=some o/\o.cls=.type "list"/\o.dict=none/\o.data=.seq its n/\its.size<=sizeLine/\Vals xs its.toList
noncomputable def Asy:Value->Option V
 |.none=>some .non
 |.bool b=>some (.bl b)
 |.int i _=>some (.int i)
 |.str x _=>some (.str x)
 |.bytes b _=>some (.byt b)
 |.float b _=>some (.flt b)
 |.ref a=>some (.ref a)
 |.type n=>some (.ty n)
 |_=>none
theorem RelV.abs {x:V}{u:Value} (r:RelV x u):Asy u=some x:=by
 cases x with
 |non=>cases r;rfl
 |bl _=>cases r;rfl
 |int _=>obtain⟨t,rfl⟩:=r;rfl
 |str _=>obtain⟨t,rfl⟩:=r;rfl
 |byt _=>obtain⟨t,rfl⟩:=r;rfl
 |flt _=>obtain⟨t,rfl⟩:=r;rfl
 |ref _=>cases r;rfl
 |ty _=>cases r;rfl
theorem RelV.inj {x y:V}{u:Value} (r:RelV x u) (q:RelV y u):x=y:=Auo (r.abs.symm.trans q.abs)
theorem Vals.inj:∀ {xs ys:List V}{us:List Value},Vals xs us->Vals ys us->xs=ys
 |_,_,_,.nil,.nil=>rfl
 |_,_,_,.cons r t,.cons r' t'=>by rw[r.inj r',Vals.inj t t']
section
variable {X:Cx}{pins:List (Addr×Obj)}{σ:St}{H:Hp}{s:Shared}{a:Addr}{xs ys:List V}
theorem SqL.of {K:W.Frag} (h:H a=some (.lst xs)):SqL K H a xs:=.inl (.inl h)
inductive LstR (h:Heap) (a:Addr) (xs:List V):Prop where
 |mk (its:List Value) (r:Vals xs its) (p:PlainL h a its.toArray) (z:xs.length<=sizeLine)
inductive TupR (h:Heap) (a:Addr) (xs:List V):Prop where
 |mk (its:List Value) (r:Vals xs its) (p:IsTup h a its.toArray) (z:xs.length<=sizeLine)
theorem Inv.list (I:Inv X pins σ H s) (h:SqL X.K H a xs):LstR s.heap a xs:=by
 rcases h with h|⟨o,its,n,hk,hc,hd,hs,hz,r⟩
 ·obtain⟨z,its,n,r,e⟩:=h.ok I.hok
  exact⟨its,r,⟨_,n,e,rfl,rfl,rfl⟩,z⟩
 ·refine⟨its.toList,r,⟨o,n,I.kIn a o hk,hc,hd,by simpa using hs⟩,?_⟩
  have e:=r.length
  simp only[Avc] at e
  lia
theorem Inv.tuple (I:Inv X pins σ H s) (h:SqT X.K H a xs):TupR s.heap a xs:=by
 rcases h with h|⟨o,its,n,hk,hc,hs,hz,r⟩
 ·obtain⟨z,its,r,p⟩:=h.ok I.hok
  exact⟨its,r,p,z⟩
 ·refine⟨its.toList,r,⟨o,I.kIn a o hk,hc,n,by simpa using hs⟩,?_⟩
  have e:=r.length
  simp only[Avc] at e
  lia
theorem Inv.list_inj (I:Inv X pins σ H s) (h:SqL X.K H a xs) (h':SqL X.K H a ys):xs=ys:=by
 obtain⟨its,r,⟨o,n,e,_,_,d⟩,_⟩:=I.list h
 obtain⟨its',r',⟨o',n',e',_,_,d'⟩,_⟩:=I.list h'
 rw[e] at e';cases e'
 rw[d] at d'
 injection d' with d1 _
 have:its=its':=by simpa using Au5 Array.toList d1
 subst this
 exact r.inj r'
theorem Inv.tuple_inj (I:Inv X pins σ H s) (h:SqT X.K H a xs) (h':SqT X.K H a ys):xs=ys:=by
 obtain⟨its,r,⟨o,e,_,n,d⟩,_⟩:=I.tuple h
 obtain⟨its',r',⟨o',e',_,n',d'⟩,_⟩:=I.tuple h'
 rw[e] at e';cases e'
 rw[d] at d'
 injection d' with d1 _
 have:its=its':=by simpa using Au5 Array.toList d1
 subst this
 exact r.inj r'
end
abbrev Cx.wish (X:Cx) (E:Value->Shared->Prop):Cx:={ X with xe:=E }
abbrev Cx.nox (X:Cx):Cx:=X.wish fun _ _=>False
theorem Cx.Ok.wish {X:Cx} (ok:X.Ok) (E:Value->Shared->Prop):(X.wish E).Ok :=
 ⟨ok.mod,ok.kind,ok.glob,ok.blt,ok.above,ok.inj,ok.has,ok.cab,ok.hd,ok.frames,ok.stk,ok.exf,ok.bs,ok.bsz,ok.noex,ok.exfs,ok.funs,ok.frf⟩
theorem Cx.Ok.unwish {X:Cx}{E:Value->Shared->Prop} (ok:(X.wish E).Ok):X.Ok :=
 ⟨ok.mod,ok.kind,ok.glob,ok.blt,ok.above,ok.inj,ok.has,ok.cab,ok.hd,ok.frames,ok.stk,ok.exf,ok.bs,ok.bsz,ok.noex,ok.exfs,ok.funs,ok.frf⟩
section
variable {X:Cx}{pins:List (Addr×Obj)}{σ:St}{H:Hp}{s:Shared}{E:Value->Shared->Prop}
theorem Inv.wish (I:Inv X pins σ H s) (E:Value->Shared->Prop):Inv (X.wish E) pins σ H s:=⟨I.ok.wish E,I.os,I.bare,I.base,I.loc,I.cell,I.free,I.freeC,I.pin,I.hok,I.len⟩
theorem Inv.unwish (I:Inv (X.wish E) pins σ H s):Inv X pins σ H s:=⟨I.ok.unwish,I.os,I.bare,I.base,I.loc,I.cell,I.free,I.freeC,I.pin,I.hok,I.len⟩
theorem SP.unwish {D:Ends}{f:Flow}{s':Shared} (h:SP (X.wish E) pins D f s'):SP X pins D f s':=by
 cases f with
 |next=>obtain⟨σ',H',I,q⟩:=h;exact⟨σ',H',I.unwish,q⟩
 |brk=>obtain⟨σ',H',I,q⟩:=h;exact⟨σ',H',I.unwish,q⟩
 |cont=>obtain⟨σ',H',I,q⟩:=h;exact⟨σ',H',I.unwish,q⟩
 |ret u=>obtain⟨v,σ',H',I,r,q⟩:=h;exact⟨v,σ',H',I.unwish,r,q⟩
theorem PE.nox {e:Expr}{t:TE} (h:PE X.nox e t):PE X e t:=fun pins s σ H Q I hw =>
 Auq (h pins s σ H Q (I.wish _) hw) (fun _ _ ⟨v,H',I',r,q⟩=>⟨v,H',I'.unwish,r,q⟩) fun _ _ z=>False.elim z
theorem PSs.nox {st:List Stmt}{t:TS} (h:PSs X.nox st t):PSs X st t:=fun pins s σ H D I hw =>
 Auq (h pins s σ H D (I.wish _) hw) (fun _ _ q=>q.unwish) fun _ _ z=>False.elim z
end
section
variable {X:Cx}{st:Stmt}{rest:List Stmt}{t u:TS}{e:Expr}{te:TE}{pos:Pos}
noncomputable def Aq0:TS:=fun D σ H=>D.nx σ H
noncomputable def Arv (t u:TS):TS:=fun D σ H=>t { D with nx:=u D } σ H
theorem Agi:PSs X [] Aq0:=fun _ _ σ H _ I h=>wpAny_execs_nil ⟨σ,H,I,h⟩
theorem Aa4 (h1:PS X st t) (h2:PSs X rest u):PSs X (st::rest) (Arv t u):=by
 intro pins s σ H D I h
 refine wpAny_execs_cons (thn (h1 pins s σ H { D with nx:=u D } I h) fun f s1 q=>?_)
 cases f with
 |next =>
  obtain⟨σ',H',I',q⟩:=q
  exact h2 pins s1 σ' H' D I' q
 |ret v=>exact q
 |brk=>exact q
 |cont=>exact q
theorem Agj (h1:PS X st t):PSs X [st] t:=by
 intro pins s σ H D I h
 refine wpAny_execs_cons (thn (h1 pins s σ H D I h) fun f s1 q=>?_)
 cases f with
 |next=>exact wpAny_execs_nil q
 |ret v=>exact q
 |brk=>exact q
 |cont=>exact q
theorem Inv.quiet {pins:List (Addr×Obj)}{σ:St}{H:Hp}{s:Shared} (I:Inv X pins σ H s):interactive X.env=false:=by simp[interactive,I.ok.kind]
noncomputable def Aqz (te:TE):TS:=fun D σ H=>te σ H fun _ H1=>D.nx σ H1
theorem Agb (he:PE X e te) (hs:swapsWith e none pos.line X.env=pure false:=by rfl):PS X (.Expr e pos) (Aqz te):=by
 intro pins s σ H D I h
 exact wpAny_Expr_any (thn (he pins s σ H _ I h) fun v s1 ⟨x,H1,I1,r1,q1⟩=>⟨σ,H1,I1,q1⟩) I.quiet hs
noncomputable def Ate (te:TE):TS:=fun D σ H=>te σ H D.rt
theorem Ac1 (he:PE X e te):PS X (.Return (some e) pos) (Ate te):=by
 intro pins s σ H D I h
 exact wpAny_Return_some (thn (he pins s σ H _ I h) fun v s1 ⟨x,H1,I1,r1,q1⟩=>⟨x,σ,H1,I1,r1,q1⟩)
noncomputable def As9 (c:TT) (t u:TS):TS:=fun D σ H=>c σ H fun b H1=>if b=true then t D σ H1 else u D σ H1
theorem Aqn {c:Expr}{a b:List Stmt}{tc:TT} (hc:PT X c tc) (ha:PSs X a t) (hb:PSs X b u):PS X (.If c a b pos) (As9 tc t u):=by
 intro pins s σ H D I h
 refine wpAny_If (thn (hc pins s σ H _ I h) fun d s1 ⟨H1,I1,q1⟩=>?_)
 cases d with
 |true=>exact ha pins s1 σ H1 D I1 q1
 |false=>exact hb pins s1 σ H1 D I1 q1
end
abbrev TG:=V->St->Hp->(St->Hp->Prop)->Prop
abbrev TGs:=List V->St->Hp->(St->Hp->Prop)->Prop
def PG (X:Cx) (target:Expr) (t:TG):Prop :=
 ∀ (pins:List (Addr×Obj)) (s:Shared) (σ:St) (H:Hp) (v:V) (u:Value) (Q:St->Hp->Prop),Inv X pins σ H s->RelV v u->t v σ H Q ->
  wpAny (model X.prog X.w) X.A (assign target X.env u) (fun _ s'=>∃ σ' H',Inv X pins σ' H' s'/\Q σ' H') X.xe s
def PGs (X:Cx) (ts:List Expr) (t:TGs):Prop :=
 ∀ (pins:List (Addr×Obj)) (s:Shared) (σ:St) (H:Hp) (vs:List V) (us:List Value) (Q:St->Hp->Prop),Inv X pins σ H s->Vals vs us->t vs σ H Q ->
  wpAny (model X.prog X.w) X.A (assignInOrder ((assignEach ts X.env).map (·.2)) us) (fun _ s'=>∃ σ' H',Inv X pins σ' H' s'/\Q σ' H') X.xe s
abbrev Ann:=V->V->V->Hp->(Hp->Prop)->Prop
def An8 (X:Cx) (t:Ann):Prop :=
 ∀ (pins:List (Addr×Obj)) (s:Shared) (σ:St) (H:Hp) (o i v:V) (ov iv u:Value) (Q:Hp->Prop),Inv X pins σ H s->RelV o ov->RelV i iv->RelV v u->t o i v H Q ->
  wpAny (model X.prog X.w) X.A (setItem ov iv u) (fun _ s'=>∃ H',Inv X pins σ H' s'/\Q H') X.xe s
section
variable {X:Cx}{pos:Pos}
noncomputable def R8 (i:Nat):TG:=fun v σ H Q=>Q (σ.set i (some v)) H
theorem Af2 {i:Nat}{x:Str} (hN:X.N.Nodup) (hi:X.N[i]?=some x) (hx:Loc X.env.scope x) (hf:X.fn x=true\/X.env.scope.names.lookup x=some .local:=by first|exact .inl rfl|exact .inr rfl|assumption):PG X (.Name x pos) (R8 i):=by
 intro pins s σ H v u Q I r h
 exact wpAny_assign_Name (Rn I hN hi hx r (fun s' I'=>⟨_,H,I',h⟩) hf)
noncomputable def As0:TGs:=fun vs σ H Q=>vs=[]/\Q σ H
noncomputable def Apo (t:TG) (u:TGs):TGs:=fun vs σ H Q=>∃ v r,vs=v::r/\t v σ H fun σ' H'=>u r σ' H' Q
theorem Af4:PGs X [] As0:=by
 intro pins s σ H vs us Q I r h
 obtain⟨e,h⟩:=h
 subst e
 cases r
 exact assignInOrder_nil ⟨σ,H,I,h⟩
theorem Aas {e:Expr}{es:List Expr}{t:TG}{u:TGs} (h1:PG X e t) (h2:PGs X es u)
  (hs:(assignEach (e::es) X.env).map (·.2)=assign e X.env::(assignEach es X.env).map (·.2):=by rfl):PGs X (e::es) (Apo t u):=by
 intro pins s σ H vs us Q I r h
 obtain⟨v,vr,e1,h⟩:=h
 subst e1
 cases r with
 |cons r rr =>
  rw[hs]
  refine assignInOrder_cons (thn (h1 pins s σ H _ _ _ I r h) fun _ s1 ⟨σ1,H1,I1,q1⟩=>?_)
  exact h2 pins s1 σ1 H1 _ _ Q I1 rr q1
noncomputable def As2 (K:W.Frag) (n:Nat) (t:TGs):TG:=fun v σ H Q=>∃ a xs,v=.ref a/\SqT K H a xs/\xs.length=n/\t xs σ H Q
theorem Amc {es:List Expr}{k:Nat}{t:TGs}{n:Nat} (hc:X.calm=true) (h:PGs X es t)
  (hn:(assignEach es X.env).length=n:=by rfl) (hst:(assignEach es X.env).findIdx? (·.1)=none:=by rfl):PG X (.Tuple es k pos) (As2 X.K n t):=by
 intro pins s σ H v u Q I r hw
 obtain⟨a,xs,e1,hq,hl,hw⟩:=hw
 subst e1
 cases r
 obtain⟨its,rv,ht,hz⟩:=I.tuple hq
 refine assign_Tuple_tuple (I.ok.hd hc) ht (by simp[hn,<- hl,rv.length]) hst fun h' hx=>?_
 have I1:Inv X pins σ H { s with heap:=h' }:=I.kept (t':=s.toks) fun b o e=>hx b o (At7 (Aty e)) e
 exact h pins _ σ H xs _ Q I1 (by simpa using rv) hw
noncomputable def As1 (to ti:TE) (t:Ann):TG:=fun v σ H Q=>to σ H fun o H1=>ti σ H1 fun i H2=>t o i v H2 fun H3=>Q σ H3
theorem Ac0 {o i:Expr}{to ti:TE}{t:Ann} (ho:PE X o to) (hi:PE X i ti) (hs:An8 X t)
  (ha:∀ v,assign (.Subscript o i pos) X.env v=(do
   let ov <- holding [v] (eval o X.env)
   let iv <- holding [v,ov] (eval i X.env)
   standAt pos
   holding [v,ov,iv] (setItem ov iv v)
   release [v,ov,iv] []):=by intro _;rfl):PG X (.Subscript o i pos) (As1 to ti t):=by
 intro pins s σ H v u Q I r h
 rw[ha]
 refine Atj (Avq (thn (ho pins s σ H _ I h) fun ov s1 ⟨x,H1,I1,r1,q1⟩=>?_))
 refine Atj (Avq (thn (hi pins s1 σ H1 _ I1 q1) fun iv s2 ⟨y,H2,I2,r2,q2⟩=>?_))
 refine Atj (wpAny_standAt (Atj (Avq (thn (hs pins s2 σ H2 x y v ov iv u _ I2 r1 r2 r q2) fun _ s3 ⟨H3,I3,q3⟩=>?_))))
 exact wpAny_release ⟨σ,H3,I3,q3⟩
noncomputable def Ah7 (te:TE) (g:TG):TS:=fun D σ H=>te σ H fun x H1=>g x σ H1 D.nx
theorem Xq {tg e:Expr}{te:TE}{g:TG} (he:PE X e te) (hg:PG X tg g) (hs:swapsWithSole [tg] e pos.line X.env=pure false:=by rfl) (hw:swappedStores [tg] e X.env=pure none:=by rfl)
  (h1:(assignEach [tg] X.env).map (·.2)=[assign tg X.env]:=by rfl):PS X (.Assign [tg] e pos) (Ah7 te g):=by
 intro pins s σ H D I h
 refine wpAny_Assign_stores (thn (he pins s σ H _ I h) fun v s1 ⟨x,H1,I1,r1,q1⟩=>?_) hs hw
 rw[h1]
 exact thn (hg pins s1 σ H1 x v _ I1 r1 q1) fun _ s2 q=>q
theorem Xr {i:Nat}{x:Str}{e:Expr}{te:TE}{pos':Pos} (hN:X.N.Nodup) (hi:X.N[i]?=some x) (hx:Loc X.env.scope x) (he:PE X e te) (hs:swapsWith e (some (.Name x pos')) pos.line X.env=pure false:=by rfl) (hf:X.fn x=true\/X.env.scope.names.lookup x=some .local:=by first|exact .inl rfl|exact .inr rfl|assumption) :
  PS X (.Assign [.Name x pos'] e pos) (Ah7 te (R8 i)):=by
 intro pins s σ H D I h
 refine wpAny_Assign_Name (thn (he pins s σ H _ I h) fun v s1 ⟨y,H1,I1,r1,q1⟩=>?_) hs
 exact Rn I1 hN hi hx r1 (fun s2 I2=>⟨_,H1,I2,q1⟩) hf
end
section
variable {X:Cx}{pos:Pos}
noncomputable def Anh (c:TT) (tb:TS):TS:=fun D σ H=>∃ W:Nat->St->Hp->Prop,(∃ m,W m σ H)/\∀ m σ H,W m σ H ->
 c σ H fun b H1=>if b=true then ∃ N:St->Hp->Prop,(∀ σ' H',N σ' H'->∃ m',m' < m/\W m' σ' H')/\tb { D with nx:=N,ct:=N,bk:=D.nx } σ H1 else D.nx σ H1
theorem Aax {c:Expr}{body:List Stmt}{tc:TT}{tb:TS} (hp:PassesOwn (model X.prog X.w) X.A X.env X.xe) (hc:PT X c tc) (hb:PSs X body tb):PS X (.While c body [] pos) (Anh tc tb):=by
 intro pins s σ H D I h
 obtain⟨W,⟨m0,w0⟩,turn⟩:=h
 refine wpAny_While (codeAny_whileLoop (fun n s'=>∃ σ' H',Inv X pins σ' H' s'/\W n σ' H') ?_ m0 ⟨σ,H,I,w0⟩)
 rintro n s1 ⟨σ1,H1,I1,w1⟩
 refine Avk hp (thn (hc pins s1 σ1 H1 _ I1 (turn n σ1 H1 w1)) fun b s2 ⟨H2,I2,q2⟩=>?_)
 cases b with
 |true =>
  obtain⟨N,hN,q2⟩:=q2
  rw[Atq rfl]
  refine Avk hp (thn (hb pins s2 σ1 H2 _ I2 q2) fun f s3 q3=>?_)
  cases f with
  |next =>
   obtain⟨σ3,H3,I3,n3⟩:=q3
   obtain⟨m',hm,w3⟩:=hN σ3 H3 n3
   exact⟨m',hm,σ3,H3,I3,w3⟩
  |cont =>
   obtain⟨σ3,H3,I3,n3⟩:=q3
   obtain⟨m',hm,w3⟩:=hN σ3 H3 n3
   exact⟨m',hm,σ3,H3,I3,w3⟩
  |brk=>exact q3
  |ret v=>exact q3
 |false =>
  rw[Atl At5]
  exact wpAny_execs_nil ⟨σ1,H2,I2,q2⟩
end
structure It where
 go:Nat->Hp->Prop
 yld:Nat->Hp->V->Hp->Prop
 stop:Nat->Hp->Prop
def Y4 (X:Cx) (pins:List (Addr×Obj)) (H:Hp) (b:Addr):Prop :=
 H b=none/\b≠X.env.locals/\b∉X.fs/\(b∈X.ex\/X.s₀.heap.objs.size<=b)/\(∀ x c,X.env.cells.lookup x=some c->c≠b)/\∀ p∈X.pn++pins,p.1≠b
theorem Inv.fpOk {X:Cx}{pins:List (Addr×Obj)}{σ:St}{H H':Hp}{s:Shared}{b:Addr} (I:Inv X pins σ H s) (hb:s.heap.objs.size<=b) (hn:H' b=none):Y4 X pins H' b:=by
 refine⟨hn,Av4 (At2 I.lt hb),I.nofs hb,.inr (Auf I.sz hb),fun x c e z=>?_,fun p hp z=>?_⟩
 ·obtain⟨v,q⟩:=I.cell x c e
  exact absurd (At2 q.lt (by rw[z];exact hb)) (Aut _)
 ·exact absurd (At2 (Aty (I.pin p hp).1) (by rw[z];exact hb)) (Aut _)
structure Turn (P:Program) (w:World) (K:W.Frag) (tg:Expr) (J:It) (fp:List Addr) (it:Addr) (tn:Nat->Heap->Prop):Prop where
 mem:it∈fp
 obj:∀ i h,tn i h->∀ b∈fp,∃ o,h.get? b=some o/\∀ v,o.data≠.cell v
 keep:∀ i h h',tn i h->(∀ b∈fp,∀ o,h.get? b=some o->h'.get? b=some o)->tn i h'
 item:∀ (X:Cx),X.prog=P->X.w=w->X.K=K->X.calm=true->∀ (i:Nat) (pins:List (Addr×Obj)) (s:Shared) (σ:St) (H:Hp) (E:Value->Shared->Prop),Inv X pins σ H s->(∀ b∈fp,Y4 X pins H b)->tn i s.heap->J.go i H ->
  wpAny (model P w) X.A (pyNext (.ref it)) (fun r s1=>∃ u,r=some u /\
   wpAny (model P w) X.A (letOwnedTupleGo tg (.ref it) u) (fun _ s2=>∃ x H',Inv X pins σ H' s2/\RelV x u/\J.yld i H x H'/\tn (i+1) s2.heap/\∀ b∈fp,H' b=none) E s1) E s
 done:∀ (X:Cx),X.prog=P->X.w=w->X.K=K->X.calm=true->∀ (i:Nat) (pins:List (Addr×Obj)) (s:Shared) (σ:St) (H:Hp) (E:Value->Shared->Prop),Inv X pins σ H s->(∀ b∈fp,Y4 X pins H b)->tn i s.heap->J.stop i H ->
  wpAny (model P w) X.A (pyNext (.ref it)) (fun r s1=>r=none/\Inv X pins σ H s1) E s
 self:∀ (A:Around) (i:Nat) (s:Shared) (Q:Value->Shared->Prop) (E:Value->Shared->Prop),tn i s.heap->Q (.ref it) s->wpAny (model P w) A (pyIter (.ref it)) Q E s
abbrev TI:=St->Hp->(It->Hp->Prop)->Prop
def PIE (X:Cx) (pins:List (Addr×Obj)) (σ:St) (tg:Expr) (R:It->Hp->Prop) (itv:Value) (s2:Shared):Prop :=
 ∃ (it:Addr) (fp:List Addr) (tn:Nat->Heap->Prop) (J:It) (H':Hp),itv=.ref it/\Inv X pins σ H' s2/\Turn X.prog X.w X.K tg J fp it tn/\tn 0 s2.heap/\(∀ b∈fp,Y4 X pins H' b)/\R J H'
def PI (X:Cx) (tg iter:Expr) (wi:TI):Prop :=
 ∀ (pins:List (Addr×Obj)) (s:Shared) (σ:St) (H:Hp) (R:It->Hp->Prop),Inv X pins σ H s->wi σ H R ->
  wpAny (model X.prog X.w) X.A (eval iter X.env) (fun v s1=>wpAny (model X.prog X.w) X.A (pyIter v) (PIE X pins σ tg R) X.xe s1) X.xe s
theorem Vb {M:Model}{A:Around}{E:Value->Shared->Prop}{s:Shared}{tg:Expr}{it:Addr}{u:Value}{o:Obj}{n:String}{vs:Array Value}{Q:Unit->Shared->Prop} (ho:s.heap.get? it=some o) (hc:o.cls=.type n) (hd:o.data=.fields vs)
  (hn:["enumerate","zip","dict_itemiterator","dict_reverseitemiterator","odict_iterator","itertools.zip_longest","itertools.pairwise"].contains n=false) (hQ:Q () s):wpAny M A (letOwnedTupleGo tg (.ref it) u) Q E s:=by
 unfold letOwnedTupleGo
 cases tg<;>first
  |exact Atu hQ
  |(cases u<;>first
    |exact Atu hQ
    |(refine Atj (wpAny_load ho ?_)
      rw[hc,hd]
      show wpAny M A (if (["enumerate","zip","dict_itemiterator","dict_reverseitemiterator","odict_iterator","itertools.zip_longest","itertools.pairwise"].contains n&&vs[0]? == some (rawInt _))=true then _ else _) Q E s
      rw[Atl (by intro h;rw[hn,Bool.false_and] at h;cases h)]
      exact Atu hQ))
noncomputable def Itl (K:W.Frag) (a:Addr):It :=
 ⟨fun i H=>∃ xs x,SqL K H a xs/\xs[i]?=some x,fun i H x H'=>H'=H/\∀ xs,SqL K H a xs->xs[i]?=some x,fun i H=>∃ xs,SqL K H a xs/\xs.length<=i⟩
noncomputable def Itt (K:W.Frag) (a:Addr):It :=
 ⟨fun i H=>∃ xs x,SqT K H a xs/\xs[i]?=some x,fun i H x H'=>H'=H/\∀ xs,SqT K H a xs->xs[i]?=some x,fun i H=>∃ xs,SqT K H a xs/\xs.length<=i⟩
noncomputable def Itr (lo:Int) (n:Nat):It:=⟨fun i _=>i < n,fun i H x H'=>H'=H/\x=.int (lo+i),fun i _=>n<=i⟩
theorem Yv {P:Program}{w:World}{K:W.Frag}{tg:Expr} (a it:Addr):Turn P w K tg (Itl K a) [it] it (fun i h=>h.IsListIter it a i) where
 mem:=by simp
 obj:=fun i h st b hb=>by
  have e:b=it:=by simpa using hb
  subst e
  obtain⟨o,e,c,d⟩:=st
  exact⟨o,e,fun v z=>by rw[d] at z;cases z⟩
 keep:=fun i h h' st k=>st.at fun o e=>k it (by simp) o e
 item:=by
  intro X hP hw hK hc i pins s σ H E I hf st hg
  subst hP hw hK
  obtain⟨xs,x,hq,hx⟩:=hg
  obtain⟨its,rv,p,hz⟩:=I.list hq
  obtain⟨u,hu,ru⟩:=rv.get hx
  obtain⟨f0,f1,f2,f3,f4,f5⟩:=hf it (by simp)
  refine wpAny_pyNext_list_item st p.isList (x:=u) (by simpa using hu) fun h' st' sb=>?_
  have I1:Inv X pins σ H { s with heap:=h' }:=I.turned (t':=s.toks) (fun b o hb e=>(sb.2 b hb).trans e) f0 f1 f3 f4 f5
  obtain⟨o,e,c,d⟩:=id st'
  exact⟨u,rfl,Vb (s:={ s with heap:=h' }) e c d (by decide) ⟨x,H,I1,ru,⟨rfl,fun ys hy=>by rw[I.list_inj hy hq];exact hx⟩,st',fun b hb=>(hf b hb).1⟩⟩
 done:=by
  intro X hP hw hK hc i pins s σ H E I hf st hg
  subst hP hw hK
  obtain⟨xs,hq,hx⟩:=hg
  obtain⟨its,rv,p,hz⟩:=I.list hq
  obtain⟨f0,f1,f2,f3,f4,f5⟩:=hf it (by simp)
  have hl:=rv.length
  exact wpAny_pyNext_list_end (I.ok.hd hc) st p.isList (by simp;lia) fun h' eb=>⟨rfl,I.turned (t':=s.toks) (fun b o hb e=>eb b o hb e) f0 f1 f3 f4 f5⟩
 self:=fun _ _ _ _ _ st h=>wpAny_pyIter_listiter st h
theorem T6 {P:Program}{w:World}{K:W.Frag}{tg:Expr} (a it:Addr):Turn P w K tg (Itt K a) [it] it (fun i h=>h.IsTupleIter it a i) where
 mem:=by simp
 obj:=fun i h st b hb=>by
  have e:b=it:=by simpa using hb
  subst e
  obtain⟨o,e,c,d⟩:=st
  exact⟨o,e,fun v z=>by rw[d] at z;cases z⟩
 keep:=fun i h h' st k=>st.at fun o e=>k it (by simp) o e
 item:=by
  intro X hP hw hK hc i pins s σ H E I hf st hg
  subst hP hw hK
  obtain⟨xs,x,hq,hx⟩:=hg
  obtain⟨its,rv,p,hz⟩:=I.tuple hq
  obtain⟨u,hu,ru⟩:=rv.get hx
  obtain⟨f0,f1,f2,f3,f4,f5⟩:=hf it (by simp)
  refine wpAny_pyNext_tuple_item st (show s.heap.IsTuple a its.toArray from p) (x:=u) (by simpa using hu) fun h' st' sb=>?_
  have I1:Inv X pins σ H { s with heap:=h' }:=I.turned (t':=s.toks) (fun b o hb e=>(sb.2 b hb).trans e) f0 f1 f3 f4 f5
  obtain⟨o,e,c,d⟩:=id st'
  exact⟨u,rfl,Vb (s:={ s with heap:=h' }) e c d (by decide) ⟨x,H,I1,ru,⟨rfl,fun ys hy=>by rw[I.tuple_inj hy hq];exact hx⟩,st',fun b hb=>(hf b hb).1⟩⟩
 done:=by
  intro X hP hw hK hc i pins s σ H E I hf st hg
  subst hP hw hK
  obtain⟨xs,hq,hx⟩:=hg
  obtain⟨its,rv,p,hz⟩:=I.tuple hq
  obtain⟨f0,f1,f2,f3,f4,f5⟩:=hf it (by simp)
  have hl:=rv.length
  exact wpAny_pyNext_tuple_end (I.ok.hd hc) st (show s.heap.IsTuple a its.toArray from p) (by simp;lia) fun h' eb=>⟨rfl,I.turned (t':=s.toks) (fun b o hb e=>eb b o hb e) f0 f1 f3 f4 f5⟩
 self:=fun _ _ _ _ _ st h=>wpAny_pyIter_tupleiter st h
theorem T5 {P:Program}{w:World}{K:W.Frag}{tg:Expr} (it:Addr) (lo:Int) (n:Nat):Turn P w K tg (Itr lo n) [it] it (fun i h=>IsRangeIter h it (lo+(i:Nat) * 1) ((n:Int) - (i:Nat)) 1) where
 mem:=by simp
 obj:=fun i h st b hb=>by
  have e:b=it:=by simpa using hb
  subst e
  exact⟨_,st,fun v z=>by
   have z':Data.fields _=Data.cell v:=z
   cases z'⟩
 keep:=fun i h h' st k=>k it (by simp) _ st
 item:=by
  intro X hP hw hK hc i pins s σ H E I hf st hg
  subst hP hw hK
  obtain⟨f0,f1,f2,f3,f4,f5⟩:=hf it (by simp)
  have W:=Walks.range (prog:=X.prog) (w:=X.w) (I.ok.hd hc) it lo 1 n
  refine W.item i s _ _ hg st fun v h' tk hv st' kk=>?_
  obtain⟨t,rfl⟩:=hv
  have I1:Inv X pins σ H { s with heap:=h',toks:=tk }:=I.turned (fun b o hb e=>kk b o (by simpa using hb) e) f0 f1 f3 f4 f5
  refine⟨_,rfl,Vb (s:={ s with heap:=h',toks:=tk }) (n:="range_iterator") st' rfl rfl (by decide) ⟨.int (lo+i),H,I1,⟨t,?_⟩,⟨rfl,rfl⟩,st',fun b hb=>(hf b hb).1⟩⟩
  rw[Int.mul_one]
 done:=by
  intro X hP hw hK hc i pins s σ H E I hf st hg
  subst hP hw hK
  obtain⟨f0,f1,f2,f3,f4,f5⟩:=hf it (by simp)
  exact wpAny_pyNext_range_end (I.ok.hd hc) st (by have:n<=i:=hg;lia) fun h' eb=>⟨rfl,I.turned (t':=s.toks) (fun b o hb e=>eb b o hb e) f0 f1 f3 f4 f5⟩
 self:=fun _ _ _ _ _ st h=>wpAny_pyIter_rangeiter st h
section
variable {X:Cx}{tg:Expr}
theorem Abg {pins:List (Addr×Obj)}{σ:St}{H:Hp}{s:Shared}{R:It->Hp->Prop}{E:Value->Shared->Prop}{lo hi:Int}{t u v:Tok}{tk:Nat} (I:Inv X pins σ H s) (h1:-(2 ^ 62)<=lo) (h2:lo < 2 ^ 62) (h3:-(2 ^ 62)<=hi) (h4:hi < 2 ^ 62)
  (q:R (Itr lo (hi - lo).toNat) H):wpAny (model X.prog X.w) X.A (pyIter (.ref s.heap.objs.size)) (PIE X pins σ tg R) E { s with heap:=s.heap.push { cls:=.type "range",data:=.fields #[.int lo t,.int hi u,.int 1 v] },toks:=tk }:=by
 refine wpAny_pyIter_range (IsRange.new ..) (small_one h1 h2 h3 h4) ?_
 have I1:Inv X pins σ H { s with heap:=s.heap.push { cls:=.type "range",data:=.fields #[.int lo t,.int hi u,.int 1 v] },toks:=tk }:=I.kept fun b o e=>Ato _ e
 refine⟨(s.heap.push { cls:=.type "range",data:=.fields #[.int lo t,.int hi u,.int 1 v] }).objs.size,[(s.heap.push { cls:=.type "range",data:=.fields #[.int lo t,.int hi u,.int 1 v] }).objs.size],_,_,H,rfl,
  I1.kept (t':=tk) fun b o e=>Ato _ e,T5 _ lo (hi - lo).toNat,?_,fun b hb=>?_,q⟩
 ·have e1:lo+((0:Nat):Int) * 1=lo:=by simp
  have e2:(((hi - lo).toNat:Nat):Int) - ((0:Nat):Int)=Builtin.Range.rangeSize lo hi 1:=by rw[rangeSize_one];split<;>lia
  show IsRangeIter _ _ (lo+((0:Nat):Int) * 1) ((((hi - lo).toNat:Nat):Int) - ((0:Nat):Int)) 1
  rw[e1,e2]
  exact At3 _ rfl
 ·have e:b=(s.heap.push { cls:=.type "range",data:=.fields #[.int lo t,.int hi u,.int 1 v] }).objs.size:=by simpa using hb
  subst e
  exact I1.fpOk (Atp _) (I1.hok.fresh (Atp _))
def Apy (ta:TA):TI:=fun σ H R=>ta σ H fun vs H1=>∃ j:Int,vs=[.int j]/\-(2 ^ 62)<=j/\j < 2 ^ 62/\R (Itr 0 j.toNat) H1
theorem Xn {a:Expr}{ta:TA}{p pos:Pos} (hg:Gl X "range") (hm:X.mg "range"=none) (ha:PA X [a] ta) (hs:starEach [a] X.env=[(false,eval a X.env)]:=by rfl):PI X tg (.Call (.Name "range" p) [a] [] pos) (Apy ta):=by
 intro pins s σ H R I h
 refine Call_ (Eu I hg hm boot_range (PyProof.Rows.callWith_type1 (thn (ha pos pins s σ H _ I h) fun us s1 ⟨vs,H1,I1,r1,q1⟩=>?_) hs rfl))
 obtain⟨j,e,q1,q2,q⟩:=q1
 subst e
 cases r1 with
 |cons r rr =>
  cases rr
  obtain⟨t,rfl⟩:=r
  exact call_range_1 (Abg I1 (by lia) (by lia) q1 q2 (by simpa using q))
noncomputable def As8 (wi:TI) (g:TG) (tb:TS):TS:=fun D σ H=>wi σ H fun J H1=>∃ W:Nat->Nat->St->Hp->Prop,(∃ m,W 0 m σ H1)/\∀ i m σ H,W i m σ H ->
 (J.stop i H/\D.nx σ H)\/(J.go i H/\∃ N:St->Hp->Prop,(∀ σ' H',N σ' H'->∃ m',m' < m/\W (i+1) m' σ' H')/\∀ x H',J.yld i H x H'->g x σ H' fun σ2 H2=>tb { D with nx:=N,ct:=N,bk:=D.nx } σ2 H2)
noncomputable def M6 (fp:List Addr) (h:Heap):List (Addr×Obj):=fp.filterMap fun b=>(h.get? b).map fun o=>(b,o)
theorem Gd {fp:List Addr}{h:Heap}{b:Addr}{o:Obj} (hb:b∈fp) (e:h.get? b=some o):(b,o)∈M6 fp h:=List.mem_filterMap.mpr ⟨b,hb,by rw[e];rfl⟩
theorem V8 {fp:List Addr}{h:Heap}{p:Addr×Obj} (hp:p∈M6 fp h):p.1∈fp/\h.get? p.1=some p.2:=by
 obtain⟨b,hb,e⟩:=List.mem_filterMap.mp hp
 cases q:h.get? b with
 |none=>rw[q] at e;cases e
 |some o =>
  rw[q] at e
  have e':(b,o)=p:=Auo e
  subst e'
  exact⟨hb,q⟩
theorem Inv.pinned {pins:List (Addr×Obj)}{σ:St}{H:Hp}{s:Shared}{fp:List Addr} (I:Inv X pins σ H s) (hf:∀ b∈fp,Y4 X pins H b) (ho:∀ b∈fp,∃ o,s.heap.get? b=some o/\∀ v,o.data≠.cell v):Inv X (pins++M6 fp s.heap) σ H s :=
 I.pins_of fun p hp=>(List.mem_append.mp hp).elim (fun z=>I.pin p (Atm _ z)) fun z=>by
  obtain⟨hb,e⟩:=V8 z
  obtain⟨f0,f1,f2,_⟩:=hf p.1 hb
  obtain⟨o,e',d⟩:=ho p.1 hb
  rw[e] at e';cases e'
  exact⟨e,f0,f1,f2,d⟩
theorem Inv.unpinned {pins pl:List (Addr×Obj)}{σ:St}{H:Hp}{s:Shared} (I:Inv X (pins++pl) σ H s):Inv X pins σ H s:=I.pins_of fun p hp=>I.pin p (Atm _ (Aue _ hp))
theorem Ame {iter:Expr}{body:List Stmt}{wi:TI}{g:TG}{tb:TS}{pos:Pos} (hp:PassesOwn (model X.prog X.w) X.A X.env X.xe) (hc:X.calm=true) (hi:PI X tg iter wi) (hg:PG X tg g) (hb:PSs X body tb)
  (hs:∀ x,foldedSetIterable iter X.env x=pure x:=by intro _;rfl):PS X (.For tg iter body [] pos) (As8 wi g tb):=by
 intro pins s σ H D I h
 refine wpAny_For (thn (hi pins s σ H _ I h) fun v s1 h1=>thn h1 fun itv s2 h2=>?_) hs
 obtain⟨it,fp,tn,J,H2,e,I2,T,st2,f2,W,⟨m0,w0⟩,turn⟩:=h2
 subst e
 -- what stays true of the iterator's objects through the loop
 have stat:∀ {H':Hp},(∀ b∈fp,H' b=none)->∀ b∈fp,Y4 X pins H' b:=fun hn b hb=>⟨hn b hb,(f2 b hb).2⟩
 refine codeAny_forLoop_any (fun n s'=>∃ i σ' H',Inv X pins σ' H' s'/\tn i s'.heap/\(∀ b∈fp,H' b=none)/\W i n σ' H') ?_ m0 ⟨0,σ,H2,I2,st2,fun b hb=>(f2 b hb).1,w0⟩
 rintro n s3 ⟨i,σ3,H3,I3,st3,fr3,w3⟩
 rcases turn i n σ3 H3 w3 with ⟨stop,qn⟩|⟨go,N,hN,step⟩
 ·refine Avk hp (thn (T.done X rfl rfl rfl hc i pins s3 σ3 H3 X.xe I3 (stat fr3) st3 stop) fun r s4 ⟨hr,I4⟩=>?_)
  subst hr
  exact wpAny_execs_nil ⟨σ3,H3,I4,qn⟩
 ·refine Avk hp (thn (T.item X rfl rfl rfl hc i pins s3 σ3 H3 X.xe I3 (stat fr3) st3 go) fun r s4 ⟨u,hr,h4⟩=>?_)
  subst hr
  refine Avk hp (thn h4 fun _ s5 ⟨x,H5,I5,r5,y5,st5,fr5⟩=>?_)
  have I5':=I5.pinned (stat fr5) (T.obj _ _ st5)
  refine Avk hp (thn (hg _ s5 σ3 H5 x u _ I5' r5 (step x H5 y5)) fun _ s6 ⟨σ6,H6,I6,q6⟩=>?_)
  refine Avk hp (thn (hb _ s6 σ6 H6 _ I6 q6) fun f s7 q7=>?_)
  have again:∀ {σ7:St}{H7:Hp},Inv X (pins++M6 fp s5.heap) σ7 H7 s7->N σ7 H7->∃ m,m < n/\∃ i σ' H',Inv X pins σ' H' s7/\tn i s7.heap/\(∀ b∈fp,H' b=none)/\W i m σ' H':=fun {σ7 H7} I7 n7=>by
   obtain⟨m',hm,w7⟩:=hN σ7 H7 n7
   refine⟨m',hm,i+1,σ7,H7,I7.unpinned,T.keep _ _ _ st5 fun b hb o e=>(I7.pin (b,o) (Atm _ (Atm _ (Gd hb e)))).1,fun b hb=>?_,w7⟩
   obtain⟨o,e,d⟩:=T.obj _ _ st5 b hb
   exact (I7.pin (b,o) (Atm _ (Atm _ (Gd hb e)))).2.1
  cases f with
  |next=>obtain⟨σ7,H7,I7,n7⟩:=q7;exact again I7 n7
  |cont=>obtain⟨σ7,H7,I7,n7⟩:=q7;exact again I7 n7
  |brk=>obtain⟨σ7,H7,I7,q7⟩:=q7;exact⟨σ7,H7,I7.unpinned,q7⟩
  |ret v=>obtain⟨x7,σ7,H7,I7,r7,q7⟩:=q7;exact⟨x7,σ7,H7,I7.unpinned,r7,q7⟩
end
abbrev R2:=V->V->Hp->VK->Prop
def OpR (X:Cx) (f:Value->Value->Sem Value) (r:R2):Prop :=
 ∀ (pins:List (Addr×Obj)) (s:Shared) (σ:St) (H:Hp) (x y:V) (v u:Value) (Q:VK),Inv X pins σ H s->RelV x v->RelV y u->r x y H Q ->
  wpAny (model X.prog X.w) X.A (f v u) (EP X pins σ Q) X.xe s
def UnR (X:Cx) (f:Value->Sem Value) (r:V->Hp->VK->Prop):Prop :=
 ∀ (pins:List (Addr×Obj)) (s:Shared) (σ:St) (H:Hp) (x:V) (v:Value) (Q:VK),Inv X pins σ H s->RelV x v->r x H Q ->
  wpAny (model X.prog X.w) X.A (f v) (EP X pins σ Q) X.xe s
def Ado (X:Cx) (f:Value) (r:List V->Hp->VK->Prop):Prop :=
 ∀ (pins:List (Addr×Obj)) (s:Shared) (σ:St) (H:Hp) (xs:List V) (us:List Value) (Q:VK),Inv X pins σ H s->Vals xs us->r xs H Q ->
  wpAny (model X.prog X.w) X.A (call f us) (EP X pins σ Q) X.xe s
def Ar0 (X:Cx) (r:V->Hp->(Bool->Hp->Prop)->Prop):Prop :=
 ∀ (pins:List (Addr×Obj)) (s:Shared) (σ:St) (H:Hp) (x:V) (v:Value) (Q:Bool->Hp->Prop),Inv X pins σ H s->RelV x v->r x H Q ->
  wpAny (model X.prog X.w) X.A (truthy v) (TP X pins σ Q) X.xe s
noncomputable def tOp (r:R2) (ta tb:TE):TE:=fun σ H Q=>ta σ H fun x H1=>tb σ H1 fun y H2=>r x y H2 Q
noncomputable def tUn (r:V->Hp->VK->Prop) (ta:TE):TE:=fun σ H Q=>ta σ H fun x H1=>r x H1 Q
noncomputable def rI (C:Int->Int->Prop) (g:Int->Int->V):R2:=fun x y H Q=>∃ i j,x=.int i/\y=.int j/\C i j/\Q (g i j) H
noncomputable def rI0 (g:Int->Int->V):R2:=fun x y H Q=>∃ i j,x=.int i/\y=.int j/\Q (g i j) H
def rU (g:Int->V):V->Hp->VK->Prop:=fun x H Q=>∃ i,x=.int i/\Q (g i) H
section
variable {X:Cx}{a b c:Expr}{ta tb tc:TE}{pos:Pos}
theorem Aph (ha:PE X a ta) (hb:PE X b tb) {pins:List (Addr×Obj)}{s:Shared}{σ:St}{H:Hp}{R:V->V->Hp->Prop} (I:Inv X pins σ H s)
  (h:ta σ H fun x H1=>tb σ H1 fun y H2=>R x y H2) {Q:Value->Shared->Prop}{f:Value->Value->Sem Value}
  (hf:∀ v u s2 x y H2,Inv X pins σ H2 s2->RelV x v->RelV y u->R x y H2->wpAny (model X.prog X.w) X.A (f v u) Q X.xe s2) :
  wpAny (model X.prog X.w) X.A (eval a X.env) (fun v s₁=>wpAny (model X.prog X.w) X.A (eval b X.env) (fun u s₂=>wpAny (model X.prog X.w) X.A (f v u) Q X.xe s₂) X.xe s₁) X.xe s:=by
 refine thn (ha pins s σ H _ I h) fun v s1 ⟨x,H1,I1,r1,q1⟩=>?_
 refine thn (hb pins s1 σ H1 _ I1 q1) fun u s2 ⟨y,H2,I2,r2,q2⟩=>?_
 exact hf v u s2 x y H2 I2 r1 r2 q2
theorem Aqk {op:Operator}{r:R2} (ho:OpR X (binaryOp op) r) (ha:PE X a ta) (hb:PE X b tb):PE X (.BinOp a op b pos) (tOp r ta tb):=by
 intro pins s σ H Q I h
 exact wpAny_BinOp (Aph ha hb I h fun v u s2 x y H2 I2 rx ry q=>ho pins s2 σ H2 x y v u Q I2 rx ry q)
theorem Aqm {op:UnaryOp}{r:V->Hp->VK->Prop} (ho:UnR X (unaryOp op) r) (ha:PE X a ta):PE X (.UnaryOp op a pos) (tUn r ta):=by
 intro pins s σ H Q I h
 exact UnaryOp_ (thn (ha pins s σ H _ I h) fun v s1 ⟨x,H1,I1,r1,q1⟩=>ho pins s1 σ H1 x v Q I1 r1 q1)
theorem opI {f:Value->Value->Sem Value}{C:Int->Int->Prop}{g:Int->Int->Int}
  (rule:∀ (i j:Int) (t u:Tok) (s:Shared) (Q:Value->Shared->Prop) (E:Value->Shared->Prop),C i j->Q (.int (g i j) s.toks) { s with toks:=s.toks+1 }->wpAny (model X.prog X.w) X.A (f (.int i t) (.int j u)) Q E s) :
  OpR X f (rI C fun i j=>.int (g i j)):=by
 intro pins s σ H x y v u Q I rx ry h
 obtain⟨i,j,rfl,rfl,hc,q⟩:=h
 obtain⟨t,rfl⟩:=rx
 obtain⟨t',rfl⟩:=ry
 exact rule i j t t' s _ _ hc ⟨.int (g i j),H,I.tok _,⟨_,rfl⟩,q⟩
theorem Arj {f:Value->Value->Sem Value}{g:Int->Int->Int}
  (rule:∀ (i j:Int) (t u:Tok) (s:Shared) (Q:Value->Shared->Prop) (E:Value->Shared->Prop),Q (.int (g i j) s.toks) { s with toks:=s.toks+1 }->wpAny (model X.prog X.w) X.A (f (.int i t) (.int j u)) Q E s) :
  OpR X f (rI0 fun i j=>.int (g i j)):=by
 intro pins s σ H x y v u Q I rx ry h
 obtain⟨i,j,rfl,rfl,q⟩:=h
 obtain⟨t,rfl⟩:=rx
 obtain⟨t',rfl⟩:=ry
 exact rule i j t t' s _ _ ⟨.int (g i j),H,I.tok _,⟨_,rfl⟩,q⟩
theorem Ari {f:Value->Value->Sem Value}{g:Int->Int->Bool}
  (rule:∀ (i j:Int) (t u:Tok) (s:Shared) (Q:Value->Shared->Prop) (E:Value->Shared->Prop),Q (.bool (g i j)) s->wpAny (model X.prog X.w) X.A (f (.int i t) (.int j u)) Q E s) :
  OpR X f (rI0 fun i j=>.bl (g i j)):=by
 intro pins s σ H x y v u Q I rx ry h
 obtain⟨i,j,rfl,rfl,q⟩:=h
 obtain⟨t,rfl⟩:=rx
 obtain⟨t',rfl⟩:=ry
 exact rule i j t t' s _ _ ⟨.bl (g i j),H,I,rfl,q⟩
def Aq8 (i j:Int):Prop:=0 < j/\j < 1073741824
def Aq9 (i j:Int):Prop:=0<=j/\j<=1000000/\i.natAbs < 2 ^ 64
def CMul (i j:Int):Prop:=(-(2 ^ 64) < i/\i < 2 ^ 64)\/(-(2 ^ 64) < j/\j < 2 ^ 64)
theorem CMul.ok {i j:Int} (h:CMul i j):IntMulOk i j:=by
 rcases h with ⟨h1,h2⟩|⟨h1,h2⟩
 ·exact .of_left (intBits_le_64 h1 h2)
 ·exact .of_right (intBits_le_64 h1 h2)
theorem T7 (k:Nat):(0:Int)<=2 ^ k:=by
 rw[two_pow_cast]
 exact Int.natCast_nonneg _
theorem op_add:OpR X (binaryOp .Add) (rI0 fun i j=>.int (i+j)):=Arj fun _ _ _ _ _ _ _ q=>add_int q
theorem Alf:OpR X (binaryOp .Sub) (rI0 fun i j=>.int (i - j)):=Arj fun _ _ _ _ _ _ _ q=>sub_int q
theorem Alc:OpR X (binaryOp .Mult) (rI CMul fun i j=>.int (i * j)):=opI fun _ _ _ _ _ _ _ hc q=>mul_int q hc.ok
theorem Afn:OpR X (binaryOp .FloorDiv) (rI Aq8 fun i j=>.int (i / j)):=opI fun i j _ _ _ _ _ hc q=>by
 have h1:(0:Int) < j:=hc.1
 have h2:j < 1073741824:=hc.2
 exact floordiv_int (by lia) (by rw[Int.fdiv_eq_ediv_of_nonneg i (by lia)];exact q) (.inl (PyProof.noPylong_small (by lia)))
theorem Alb:OpR X (binaryOp .Mod) (rI (fun _ j=>0 < j) fun i j=>.int (i % j)):=opI fun i j _ _ _ _ _ hc q=>by
 have h1:(0:Int) < j:=hc
 exact mod_int' (by lia) (by rw[Int.fmod_eq_emod_of_nonneg i (by lia)];exact q)
theorem Ald:OpR X (binaryOp .Pow) (rI Aq9 fun i j=>.int (i ^ j.toNat)):=opI fun _ _ _ _ _ _ _ hc q=>pow_int_small hc.1 hc.2.1 hc.2.2 q
theorem Ale:OpR X (binaryOp .RShift) (rI (fun _ j=>0<=j) fun i j=>.int (i / 2 ^ j.toNat)):=opI fun i j _ _ _ _ _ hc q =>
 rshift_int hc (by rw[Int.fdiv_eq_ediv_of_nonneg i (T7 _)];exact q)
theorem unI {f:Value->Sem Value}{g:Int->Int}
  (rule:∀ (i:Int) (t:Tok) (s:Shared) (Q:Value->Shared->Prop) (E:Value->Shared->Prop),Q (.int (g i) s.toks) { s with toks:=s.toks+1 }->wpAny (model X.prog X.w) X.A (f (.int i t)) Q E s) :
  UnR X f (rU fun i=>.int (g i)):=by
 intro pins s σ H x v Q I rx h
 obtain⟨i,rfl,q⟩:=h
 obtain⟨t,rfl⟩:=rx
 exact rule i t s _ _ ⟨.int (g i),H,I.tok _,⟨_,rfl⟩,q⟩
theorem Ank:UnR X (unaryOp .USub) (rU fun i=>.int (-i)):=unI fun _ _ _ _ _ q=>neg_int q
end
section
variable {X:Cx}{a b c:Expr}{ta tb tc:TE}{pos:Pos}
theorem U2 {pins:List (Addr×Obj)}{σ:St}{H:Hp}{s:Shared}{Q:VK}{k k':Bool} (I:Inv X pins σ H s) (q:Q (.bl k) H) (e:k=k'):EP X pins σ Q (.bool k') s:=by
 subst e
 exact⟨.bl k,H,I,rfl,q⟩
theorem op_lt:OpR X (compareOp .Lt) (rI0 fun i j=>.bl (decide (i < j))):=Ari fun _ _ _ _ _ _ _ q=>lt_int q
theorem Aqb:OpR X (compareOp .Gt) (rI0 fun i j=>.bl (decide (j < i))):=Ari fun _ _ _ _ _ _ _ q=>gt_int q
theorem Xg:OpR X (compareOp .Lt) (fun x y H Q=>∃ i j,x=.str i/\y=.str j/\Q (.bl (decide (i.cps.toList < j.cps.toList))) H):=by
 intro pins s σ H x y v u Q I rx ry h
 obtain⟨i,j,rfl,rfl,q⟩:=h
 obtain⟨t,rfl⟩:=rx
 obtain⟨t',rfl⟩:=ry
 exact lt_str (U2 I q rfl)
theorem Ala:OpR X (compareOp .Is) (fun x y H Q=>y=.non/\Q (.bl (decide (x=.non))) H):=by
 intro pins s σ H x y v u Q I rx ry h
 obtain⟨rfl,q⟩:=h
 cases ry
 refine is_none_gen (U2 I q ?_)
 cases x<;>first
  |(cases rx;rfl)
  |(obtain⟨t,rfl⟩:=rx;rfl)
theorem Afo:OpR X (compareOp .IsNot) (fun x y H Q=>y=.non/\Q (.bl (!decide (x=.non))) H):=by
 intro pins s σ H x y v u Q I rx ry h
 obtain⟨rfl,q⟩:=h
 cases ry
 refine isnot_none_gen (U2 I q ?_)
 cases x<;>first
  |(cases rx;rfl)
  |(obtain⟨t,rfl⟩:=rx;rfl)
theorem OpR.or {f:Value->Value->Sem Value}{r r':R2} (h:OpR X f r) (h':OpR X f r'):OpR X f (fun x y H Q=>r x y H Q\/r' x y H Q):=by
 intro pins s σ H x y v u Q I rx ry q
 rcases q with q|q
 ·exact h pins s σ H x y v u Q I rx ry q
 ·exact h' pins s σ H x y v u Q I rx ry q
theorem Acl (b:Expr) {op:CmpOp} (h:op≠.In:=by decide) (h2:op≠.NotIn:=by decide):behindInMarks op b=false:=by
 have e1:(op == CmpOp.In)=false:=by cases op<;>first|rfl|exact absurd rfl h
 have e2:(op == CmpOp.NotIn)=false:=by cases op<;>first|rfl|exact absurd rfl h2
 cases b<;>simp[behindInMarks,e1,e2]
noncomputable def Aq2 (t:TE):TT:=fun σ H Q=>t σ H fun x H'=>∃ k,x=.bl k/\Q k H'
theorem Xv {op:CmpOp}{r:R2} (ho:OpR X (compareOp op) r) (ha:PE X a ta) (hb:PE X b tb) (hm:behindInMarks op b=false):PT X (.Compare a [op] [b] pos) (Aq2 (tOp r ta tb)):=by
 intro pins s σ H Q I h
 refine wpAny_isTrue_Compare1 (thn (ha pins s σ H _ I h) fun v s1 ⟨x,H1,I1,r1,q1⟩=>thn (hb pins s1 σ H1 _ I1 q1) fun u s2 ⟨y,H2,I2,r2,q2⟩ =>
  thn (ho pins s2 σ H2 x y v u _ I2 r1 r2 q2) fun c s3 ⟨z,H3,I3,r3,k,e,q3⟩=>?_) hm
 subst e
 cases r3
 exact Avp ⟨H3,I3,q3⟩
def Ano (K:W.Frag) (x:V) (H:Hp) (k:Bool):Prop :=
 match x with
 |.non=>k=false
 |.bl b=>k=b
 |.int i=>k=(i != 0)
 |.str y=>y.length<=sizeLine/\k=((y.length:Int) != 0)
 |.byt y=>y.size<=sizeLine/\k=((y.size:Int) != 0)
 |.ref p=>(∃ xs,SqL K H p xs/\k=!xs.isEmpty)\/(∃ xs,SqT K H p xs/\k=!xs.isEmpty)\/∃ kvs,H p=some (.dK kvs)/\k=!kvs.isEmpty
 |_=>False
theorem Te {κ:Type}{kvs:List (κ×V)}{vs:List (κ×Value)} (r:KV kvs vs):(!vs.isEmpty)=!kvs.isEmpty:=by
 cases r<;>rfl
theorem Jk {xs:List V}{its:List Value} (r:Vals xs its):(!its.toArray.isEmpty)=!xs.isEmpty:=by
 cases r<;>simp
theorem Jm:(sizeLine:Nat) < 2 ^ 63:=by rw[Ava];decide
theorem Adm:Ar0 X (fun x H Q=>∃ k,Ano X.K x H k/\Q k H):=by
 intro pins s σ H x v Q I rx h
 obtain⟨k,e,q⟩:=h
 have hl:=Jm
 have hs:sizeLine=16777216:=Ava
 cases x with
 |non =>
  cases rx
  have e':k=false:=e
  subst e'
  exact truthy_none ⟨H,I,q⟩
 |bl b =>
  cases rx
  have e':k=b:=e
  subst e'
  exact Avp ⟨H,I,q⟩
 |int i =>
  obtain⟨t,rfl⟩:=rx
  have e':k=(i != 0):=e
  subst e'
  exact PySem.P.truthy_int ⟨H,I,q⟩
 |str y =>
  obtain⟨t,rfl⟩:=rx
  obtain⟨hy,e'⟩:y.length<=sizeLine/\k=((y.length:Int) != 0):=e
  subst e'
  exact PySem.P.truthy_str (by lia) ⟨H,I.tok _,q⟩
 |byt y =>
  obtain⟨t,rfl⟩:=rx
  obtain⟨hy,e'⟩:y.size<=sizeLine/\k=((y.size:Int) != 0):=e
  subst e'
  exact W.truthy_bytes (by lia) ⟨H,I.tok _,q⟩
 |ref p =>
  cases rx
  have e':(∃ xs,SqL X.K H p xs/\k=!xs.isEmpty)\/(∃ xs,SqT X.K H p xs/\k=!xs.isEmpty)\/∃ kvs,H p=some (.dK kvs)/\k=!kvs.isEmpty:=e
  rcases e' with ⟨xs,hx,e'⟩|⟨xs,hx,e'⟩|⟨kvs,hx,e'⟩
  ·subst e'
   obtain⟨its,r,pl,hz⟩:=I.list hx
   have hlen:=r.length
   exact wpAny_truthy_list pl.isList (by simp only[Ats];lia) ⟨H,I.tok _,by rw[Jk r];exact q⟩
  ·subst e'
   obtain⟨its,r,pl,hz⟩:=I.tuple hx
   have hlen:=r.length
   exact truthy_tuple pl (by simp only[Ats];lia) ⟨H,I.tok _,by rw[Jk r];exact q⟩
  ·subst e'
   obtain⟨hz,hS,vs,r,m⟩:kvs.length<=sizeLine/\(p == sysModules)=false/\∃ vs,KV kvs vs/\s.heap.DictOf (Vx X.prog X.w) p vs:=I.hok p _ hx
   have hlen:kvs.length=vs.length:=Paired.length r
   exact wpAny_truthy_dict hS m (by lia) ⟨H,I.tok _,by rw[Te r];exact q⟩
 |_=>exact (show False from e).elim
theorem Aa5 (ha:PE X a ta) (he:∀ whole,isTrue a X.env whole=(do let v <- whole;standAt a.pos;holding [v] (truthy v))) :
  PT X a (fun σ H Q=>ta σ H fun x H'=>∃ k,Ano X.K x H' k/\Q k H'):=by
 intro pins s σ H Q I h
 exact isTrue_plain (thn (ha pins s σ H _ I h) fun v s1 ⟨x,H1,I1,r1,q1⟩=>Adm pins s1 σ H1 x v Q I1 r1 q1) (he _)
theorem op_add_str:OpR X (binaryOp .Add) (fun x y H Q=>∃ i j,x=.str i/\y=.str j/\i.length+j.length<=sizeLine/\Q (.str (i++j)) H):=by
 intro pins s σ H x y v u Q I rx ry h
 obtain⟨i,j,rfl,rfl,hz,q⟩:=h
 obtain⟨t,rfl⟩:=rx
 obtain⟨t',rfl⟩:=ry
 exact add_str (fun t' tk=>⟨.str (i++j),H,I.tok _,⟨_,rfl⟩,q⟩) hz
inductive V1 (x:V) (us:List Value):Prop where
 |mk (u:Value) (e:us=[u]) (r:RelV x u)
theorem Pg {x:V}{us:List Value} (r:Vals [x] us):V1 x us:=by
 cases r with
 |cons r1 r2=>cases r2;exact⟨_,rfl,r1⟩
theorem Ahu {x y:V}{us:List Value} (r:Vals [x,y] us):∃ u w',us=[u,w']/\RelV x u/\RelV y w':=by
 cases r with
 |cons r1 r2 =>
  cases r2 with
  |cons r3 r4=>cases r4;exact⟨_,_,rfl,r1,r3⟩
theorem Um (hc:X.calm=true):Ado X (.builtin "min") (fun xs H Q=>∃ i j,xs=[.int i,.int j]/\Q (.int (if j < i then j else i)) H):=by
 intro pins s σ H xs us Q I r h
 obtain⟨i,j,rfl,q⟩:=h
 obtain⟨u,w',rfl,⟨t,rfl⟩,⟨t',rfl⟩⟩:=Ahu r
 refine min_two_ints (I.ok.hd hc) fun h' tk k=>⟨_,H,I.kept k,?_,q⟩
 by_cases hj:j < i
 ·rw[Atq hj,Atq hj];exact⟨_,rfl⟩
 ·rw[Atl hj,Atl hj];exact⟨_,rfl⟩
def An6 (K:W.Frag) (x:V) (H:Hp) (n:Nat):Prop :=
 match x with
 |.str y=>y.length<=sizeLine/\n=y.length
 |.byt y=>y.size<=sizeLine/\n=y.size
 |.ref p=>(∃ xs,SqL K H p xs/\n=xs.length)\/∃ xs,SqT K H p xs/\n=xs.length
 |_=>False
theorem Zd:Ado X (.builtin "len") (fun xs H Q=>∃ x n,xs=[x]/\An6 X.K x H n/\Q (.int n) H):=by
 intro pins s σ H xs us Q I r h
 obtain⟨x,n,rfl,e,q⟩:=h
 obtain⟨u,rfl,rx⟩:=Pg r
 have hl:=Jm
 have hs:sizeLine=16777216:=Ava
 cases x with
 |str y =>
  obtain⟨t,rfl⟩:=rx
  obtain⟨hy,e'⟩:y.length<=sizeLine/\n=y.length:=e
  subst e'
  exact len_str (by lia) ⟨.int _,H,I.tok _,⟨_,rfl⟩,q⟩
 |byt y =>
  obtain⟨t,rfl⟩:=rx
  obtain⟨hy,e'⟩:y.size<=sizeLine/\n=y.size:=e
  subst e'
  exact W.len_bytes (by lia) ⟨.int _,H,I.tok _,⟨_,rfl⟩,q⟩
 |ref p =>
  cases rx
  have e':(∃ xs,SqL X.K H p xs/\n=xs.length)\/∃ xs,SqT X.K H p xs/\n=xs.length:=e
  rcases e' with ⟨xs,hx,e'⟩|⟨xs,hx,e'⟩
  ·subst e'
   obtain⟨its,r',pl,hz⟩:=I.list hx
   have hlen:=r'.length
   exact Calls.call_len_list pl.isList (by simp only[Ats];lia) ⟨.int xs.length,H,I.tok _,⟨_,by simp only[Ats];rw[hlen]⟩,q⟩
  ·subst e'
   obtain⟨its,r',pl,hz⟩:=I.tuple hx
   have hlen:=r'.length
   exact len_tuple pl (by simp only[Ats];lia) ⟨.int xs.length,H,I.tok _,⟨_,by simp only[Ats];rw[hlen]⟩,q⟩
 |_=>exact (show False from e).elim
end
structure ObjM (h:Heap) (x dx C:Addr) (mA:Str->Option Value):Prop where
 obj:h.get? x=some (W.instObj C dx)
 ns:h.Ns1 dx mA
 ne:dx≠x
set_option tactic.hygienic true in
theorem Vo {h:Heap}{dx:Addr}{mA:Str->Option Value} (n:h.Ns1 dx mA):∃ od,h.get? dx=some od/\∀ name,W.lookIn name od=some (mA name):=by
 obtain⟨o,es,ep,ho,hd,hk,_,hm⟩:=n
 refine⟨o,ho,fun name=>?_⟩
 have e:=hm name
 unfold nsFind findBy at e
 rw[<- Array.find?_toList] at e
 unfold W.lookIn
 rw[hd]
 dsimp only
 split
 ·rename_i y q
  rw[q] at e
  exact Au5 some e
 ·rename_i q
  rw[q] at e
  have a:es.toList.any (·.refKey)=false:=by
   rw[List.any_eq_false]
   intro y hy
   obtain⟨z,t,hkey⟩:=hk y (Array.mem_toList_iff.mp hy)
   simp[DictEntry.refKey,hkey]
  have a':¬ es.toList.any (·.refKey)=true:=by rw[a];exact At5
  rw[Atl a']
  exact Au5 some e
theorem ObjM.look {h:Heap}{x dx C:Addr}{mA:Str->Option Value} (I:ObjM h x dx C mA):∃ od,W.InstAt h x (W.instObj C dx) C (some od)/\∀ name,W.lookIn name od=some (mA name) :=
 let ⟨od,ho,hl⟩:=Vo I.ns
 ⟨od,⟨I.obj,rfl,rfl,ho⟩,hl⟩
section
variable {prog:Program}{w:World}{A:Around}{E:Value->Shared->Prop}{s:Shared}{K:W.Frag}{x dx C f:Addr}{mA:Str->Option Value}{name:Str}{v:Value}
end
section
variable {P:Program}{w:World}{K:W.Frag}{H H':Hp}{h h':Heap}{a C dx:Addr}{fs fs':List (Str×V)}
theorem Aew (hok:HOk P w K H h) (e:H a=some (.ins C dx fs)):∃ mA,ObjM h a dx C mA/\(∀ f,Aib (fs.lookup f) (mA f))/\PySem.Within mA (fs.map (·.1))/\fs.length<=1000/\H dx=some (.own a):=by
 obtain⟨d,z,ne,ob,mA,n,r,q⟩:=(show ObjOk P w K H h a (.ins C dx fs) from hok a _ e)
 exact⟨mA,⟨ob,n,ne⟩,r,q,z,d⟩
end
structure Cls (K:W.Frag) (C:Addr):Prop where
 pg:W.plainGet K C Str.empty=true
 hd:W.hasDictIn K C=true
 po:W.plainOver K C=true
 sa:W.findIn K (.ref C) "__setattr__"=some (some (.builtin "object.__setattr__"))
theorem Cls.get {K:W.Frag}{C:Addr} (c:Cls K C) (f:Str):W.plainGet K C f=true:=c.pg
section
variable {X:Cx}{pins:List (Addr×Obj)}{σ:St}{H:Hp}{s:Shared}{a C dx:Addr}{fs:List (Str×V)}{f:Str}{v:V}{A:Around}{E:Value->Shared->Prop}
end
section
variable {X:Cx}{o e value:Expr}{f:Str}{pos pos' tpos:Pos}{ta tv:TE}
end
section
variable {X:Cx}{pins:List (Addr×Obj)}{σ:St}{H:Hp}{s:Shared}{A:Around}{E:Value->Shared->Prop}{Q:Value->Shared->Prop}{c:Value}{b:Bool}
inductive TyOf (K:W.Frag) (H:Hp):V->Value->Prop where
 |non:TyOf K H .non (.type "NoneType")
 |bl (x:Bool):TyOf K H (.bl x) (.type "bool")
 |int (i:Int):TyOf K H (.int i) (.type "int")
 |str (x:Str):TyOf K H (.str x) (.type "str")
 |flt (x:UInt64):TyOf K H (.flt x) (.type "float")
 |lst {a:Addr}{xs:List V} (e:H a=some (.lst xs)):TyOf K H (.ref a) (.type "list")
 |frz {a:Addr}{o:Obj}{xs:List V} (e:H a=some (.frz o (.lst xs))):TyOf K H (.ref a) (.type "list")
 |tup {a:Addr}{xs:List V} (e:H a=some (.tup xs)):TyOf K H (.ref a) (.type "tuple")
 |dK {a:Addr}{kvs:List (Key×V)} (e:H a=some (.dK kvs)):TyOf K H (.ref a) (.type "dict")
 |dT {a:Addr}{kvs:List (PyData×V)} (e:H a=some (.dT kvs)):TyOf K H (.ref a) (.type "dict")
 |ins {a C dx:Addr}{fs:List (Str×V)} (e:H a=some (.ins C dx fs)) (cl:Cls K C) (ha:W.findIn K (.ref C) "__class__"=some (some (.builtin "object.__class__")))
   (hn:W.specialIn K (.builtin "object.__class__") "__get__"=some (some (.builtin "getset_descriptor.__get__"))) (htk:W.takesIn K (.builtin "object.__class__")=some true)
   (hm:W.mroIn K C (.type "object")=some true):TyOf K H (.ref a) (.ref C)
theorem Ca {x:V}{u t:Value} (I:Inv X pins σ H s) (rx:RelV x u) (ty:TyOf X.K H x t) (e:W.kitOne X.K t c=some b) (h:∀ tk,Q (.bool b) { s with toks:=tk }) :
  wpAny (model X.prog X.w) A (call (.builtin "isinstance") [u,c]) Q E s:=by
 cases ty with
 |non=>cases (show u=Value.none from rx);exact W.kia_one W.kitx_none I.kIn Av7 e (fun z=>nomatch z) h
 |bl y=>cases (show u=Value.bool y from rx);exact W.kia_one W.kitx_bool I.kIn Av7 e (fun z=>nomatch z) h
 |int i=>obtain⟨t,q⟩:=(show ∃ t,u=Value.int i t from rx);cases q;exact W.kia_one W.kitx_int I.kIn Av7 e (fun z=>nomatch z) h
 |str y=>obtain⟨t,q⟩:=(show ∃ t,u=Value.str y t from rx);cases q;exact W.kia_one W.kitx_str I.kIn Av7 e (fun z=>nomatch z) h
 |flt y=>obtain⟨t,q⟩:=(show ∃ t,u=Value.float y t from rx);cases q;exact W.kia_one W.kitx_float I.kIn Av7 e (fun z=>nomatch z) h
 |@lst a xs ea =>
  cases (show u=Value.ref a from rx)
  obtain⟨_,_,n,_,h1⟩:=(show ObjOk X.prog X.w X.K H s.heap a (.lst xs) from I.hok a _ ea)
  exact W.kia_one W.kitx_list I.kIn ⟨_,h1,rfl⟩ e (fun z=>nomatch z) h
 |@frz a ob xs ea =>
  cases (show u=Value.ref a from rx)
  obtain⟨_,_,_,n,_,h1⟩:=(show ObjOk X.prog X.w X.K H s.heap a (.frz ob (.lst xs)) from I.hok a _ ea)
  exact W.kia_one W.kitx_list I.kIn ⟨_,h1,rfl⟩ e (fun z=>nomatch z) h
 |@tup a xs ea =>
  cases (show u=Value.ref a from rx)
  obtain⟨_,_,_,p⟩:=(show ObjOk X.prog X.w X.K H s.heap a (.tup xs) from I.hok a _ ea)
  obtain⟨o,h1,h2,_⟩:=p
  exact W.kia_one W.kitx_tuple I.kIn ⟨o,h1,h2⟩ e (fun z=>nomatch z) h
 |@dK a kvs ea =>
  cases (show u=Value.ref a from rx)
  obtain⟨_,_,vs,_,p⟩:=(show ObjOk X.prog X.w X.K H s.heap a (.dK kvs) from I.hok a _ ea)
  obtain⟨o,es,ep,h1,h2,_⟩:=p
  exact W.kia_one W.kitx_dict I.kIn ⟨o,h1,h2.1⟩ e (fun z=>nomatch z) h
 |@dT a kvs ea =>
  cases (show u=Value.ref a from rx)
  obtain⟨_,_,xs,_,o,es,ep,h1,h2,_⟩:=(show ObjOk X.prog X.w X.K H s.heap a (.dT kvs) from I.hok a _ ea)
  exact W.kia_one W.kitx_dict I.kIn ⟨o,h1,h2.1⟩ e (fun z=>nomatch z) h
 |@ins a C dx fs ea cl ha hn htk hm =>
  cases (show u=Value.ref a from rx)
  obtain⟨mA,O,_⟩:=Aew I.hok ea
  obtain⟨od,J,_⟩:=O.look
  exact W.kia_one (W.kitx_own (cl.get _) cl.hd ha hn htk hm) I.kIn J e (fun z=>nomatch z) h
end
structure Room (k:Nat) (A:Around):Prop where
 hd:A.handled=none
 dp:A.depth+3 * k+5 < recursionLimit
 un:A.units+16 * k+200 < cLine
theorem Room.mono {j k:Nat}{A:Around} (r:Room k A) (h:j<=k):Room j A:=⟨r.hd,by have:=r.dp;lia,by have:=r.un;lia⟩
theorem Room.deeper {k:Nat}{A:Around} (r:Room (k+1) A) (env:Env):Room k (A.deeper env) :=
 ⟨r.hd,by have:=r.dp;show A.depth+1+3 * k+5 < _;lia,by have:=r.un;show A.units+3+16 * k+200 < _;lia⟩
theorem Room.in1 {k:Nat}{A:Around} (r:Room (k+1) A):Room k A.in1 :=
 ⟨r.hd,by have:=r.dp;show A.depth+3 * k+5 < _;lia,by have:=r.un;show A.units+1+16 * k+200 < _;lia⟩
theorem Room.depth {k:Nat}{A:Around} (r:Room k A):A.depth < recursionLimit:=by have:=r.dp;lia
theorem Room.units {k:Nat}{A:Around} (r:Room k A):A.units+64 < cLine:=by have:=r.un;lia
noncomputable def Aru:TA:=fun _ H Q=>Q [] H
noncomputable def Ahn (ta:TE) (tr:TA):TA:=fun σ H Q=>ta σ H fun x H1=>tr σ H1 fun xs H2=>Q (x::xs) H2
section
variable {X:Cx}{e:Expr}{es:List Expr}{te:TE}{t:TA}{pos:Pos}
theorem Acw:PA X [] Aru:=fun _ _ _ _ H Q I h=>Calls.spliced_nil ⟨[],H,I,.nil,h⟩
theorem Ot (ha:PE X e te) (hr:PA X es t) (hs:starEach (e::es) X.env=(false,eval e X.env)::starEach es X.env:=by rfl):PA X (e::es) (Ahn te t):=by
 intro pos pins s σ H Q I h
 rw[hs]
 show wpAny _ _ (spliced ((false,eval e X.env)::backTo pos (starEach es X.env))) _ _ s
 refine Calls.spliced_cons (thn (ha pins s σ H _ I h) fun u s1 ⟨x,H1,I1,r1,q1⟩=>?_)
 exact thn (hr pos pins s1 σ H1 _ I1 q1) fun us s2 ⟨xs,H2,I2,r2,q2⟩=>⟨x::xs,H2,I2,.cons r1 r2,q2⟩
def Atf (t:TA):TE:=fun σ H Q=>t σ H fun xs H1=>xs.length<=sizeLine/\∀ p,H1 p=none->Q (.ref p) (upd H1 p (.tup xs))
def Atb (t:TA):TE:=fun σ H Q=>t σ H fun xs H1=>xs.length<=sizeLine/\∀ p,H1 p=none->Q (.ref p) (upd H1 p (.lst xs))
theorem Al9 {x1} (h:PA X es t):PE X (.Tuple es x1 pos) (Atf t):=by
 intro pins s σ H Q I hq
 refine wpAny_Tuple_spliced (thn (h pos pins s σ H _ I hq) fun us s1 ⟨xs,H1,I1,r,z,q⟩=>⟨by rw[<- r.length];exact z,?_⟩)
 have hf:H1 s1.heap.objs.size=none:=I1.hok.fresh (Atp _)
 refine⟨.ref s1.heap.objs.size,upd H1 s1.heap.objs.size (.tup xs),I1.laid (t':=s1.toks) (fun b u e=>Ato _ e) (Atp _) ?_,rfl,q _ hf⟩
 exact⟨z,us,r,⟨_,At3 _ rfl,rfl,_,rfl⟩⟩
theorem Al6 (h:PA X es t):PE X (.List es pos) (Atb t):=by
 intro pins s σ H Q I hq
 refine wpAny_List_spliced (thn (h pos pins s σ H _ I hq) fun us s1 ⟨xs,H1,I1,r,z,q⟩=>⟨by rw[<- r.length];exact z,?_⟩)
 have hf:H1 s1.heap.objs.size=none:=I1.hok.fresh (Atp _)
 refine⟨.ref s1.heap.objs.size,upd H1 s1.heap.objs.size (.lst xs),I1.laid (t':=s1.toks) (fun b u e=>Ato _ e) (Atp _) ?_,rfl,q _ hf⟩
 exact⟨z,us,0,r,At3 _ rfl⟩
end
abbrev Sp:=List V->Hp->VK->XK->Prop
abbrev CXT:=List Env->Hp->Shared->XK->Value->Shared->Prop
structure Env0 (P:Program) (w:World) (K:W.Frag) (mg:Str->Option Value) (base:Heap) (A:Around) (outer:List Env) (s:Shared) (H:Hp):Prop where
 frames:A.frames=some outer
 mod:Mod K mg base
 bs:∀ b o,base.get? b=some o->s.heap.get? b=some o/\H b=none
 bsz:base.objs.size<=s.heap.objs.size
 funs:s.heap.FunFrames base outer
 frf:∀ b∈frs outer,H b=none
 hok:HOk P w K H s.heap
 bare:AllBare s.gens
def CE (outer:List Env) (P:Program) (w:World) (K:W.Frag) (H:Hp) (s:Shared) (Q:VK) (u:Value) (s':Shared):Prop :=
 ∃ v H',s'.os=s.os/\AllBare s'.gens/\Un (frs outer) [] H H' s.heap s'.heap/\HOk P w K H' s'.heap/\RelV v u/\Q v H'
def CR (CX:CXT) (outer:List Env) (P:Program) (w:World) (K:W.Frag) (H:Hp) (s:Shared) (Q:VK) (E:XK) (r:Result) (s':Shared):Prop :=
 match r with
 |.ok (.ret u)=>CE outer P w K H s Q u s'
 |.ok _=>False
 |.error e=>CX outer H s E e s'
structure FnOk (P:Program) (w:World) (K:W.Frag) (mg:Str->Option Value) (base:Heap) (CX:CXT) (k:Nat) (f:Addr) (fd:FuncData) (ps:List Str) (sp:Sp):Prop where
 len:∀ vs H Q E,sp vs H Q E->vs.length=ps.length
 run:∀ (A:Around) (outer:List Env) (s:Shared) (H:Hp) (args:Args) (us:List Value) (vs:List V) (Q:VK) (E:XK),Room k A->Env0 P w K mg base A outer s H->BindsTo s fd args (ps.zip us)->Vals vs us->sp vs H Q E ->
  codeAny (model P w) A (.call (.ref f) args) (CR CX outer P w K H s Q E) s
theorem Env0.in1 {P:Program}{w:World}{K:W.Frag}{mg:Str->Option Value}{base:Heap}{A:Around}{outer:List Env}{s:Shared}{H:Hp} (e:Env0 P w K mg base A outer s H) :
  Env0 P w K mg base A.in1 outer s H:=⟨e.frames,e.mod,e.bs,e.bsz,e.funs,e.frf,e.hok,e.bare⟩
section
variable {X:Cx}{pins:List (Addr×Obj)}{σ:St}{H:Hp}{s s':Shared}
theorem Inv.env0 (I:Inv X pins σ H s):Env0 X.prog X.w X.K X.mg X.base X.A X.stack s H :=
 ⟨I.ok.frames,I.ok.mod,I.bs,Auf I.ok.bsz I.sz,I.stack,I.stkFree,I.hok,I.bare⟩
theorem Inv.after {Q:VK}{u:Value} (I:Inv X pins σ H s) (h:CE X.stack X.prog X.w X.K H s Q u s'):EP X pins σ Q u s':=by
 obtain⟨v,H',os,bare,un,hok,r,q⟩:=h
 obtain⟨hh,g,d,t,os'⟩:=s'
 obtain rfl:os'=s.os:=os
 exact⟨v,H',I.call (h':=hh) (g':=g) (d':=d) (t':=t) (ch:=[]) un hok bare (fun b z=>absurd z (by simp)),r,q⟩
end
noncomputable def Abw (sp:Sp) (dvs:List V) (E:XK) (t:TA):TE:=fun σ H Q=>t σ H fun vs H1=>sp (vs++dvs) H1 Q E
def Binds (K:W.Frag) (fd:FuncData) (ps:List Str) (ds:List Value):Prop :=
 ∀ (s:Shared) (us:List Value),K.In s.heap->(us++ds).length=ps.length->BindsTo s fd ⟨us,[]⟩ (ps.zip (us++ds))
theorem Binds.all {K:W.Frag}{fd:FuncData}{ps:List Str} (h:∀ us:List Value,us.length=ps.length->bindArgs fd ⟨us,[]⟩=pure (ps.zip us)):Binds K fd ps []:=fun s us _ hl=>by
 rw[At6] at hl ⊢
 exact .of_eq (h us hl)
def Ma (CX:CXT) (X:Cx) (E:XK):Prop:=∀ (pins:List (Addr×Obj)) (σ:St) (H:Hp) (s:Shared) (e:Value) (s':Shared),Inv X pins σ H s->CX X.stack H s E e s'->X.xe e s'
section
variable {X:Cx}{CX:CXT}{k:Nat}{f C:Addr}{fd:FuncData}{ps:List Str}{sp:Sp}{dvs:List V}{ds:List Value}{E:XK}{x m:Str}{p pos apos:Pos}{e o:Expr}{es:List Expr}{ta:TE}{t:TA}
theorem Ac8 {pins:List (Addr×Obj)}{σ:St}{H:Hp}{s:Shared}{Q:VK}{us:List Value}{vs:List V} (F:FnOk X.prog X.w X.K X.mg X.base CX k f fd ps sp) (hr:Room k X.A) (hb:Binds X.K fd ps ds) (hd:Vals dvs ds) (hx:Ma CX X E)
  (I:Inv X pins σ H s) (r:Vals vs us) (h:sp (vs++dvs) H Q E):wpAny (model X.prog X.w) X.A (call (.ref f) us) (EP X pins σ Q) X.xe s:=by
 have r2:Vals (vs++dvs) (us++ds):=r.append hd
 have hl:(us++ds).length=ps.length:=by rw[<- r2.length];exact F.len _ _ _ _ h
 refine wpAny_call (codeAny_mono (F.run X.A X.stack s H ⟨us,[]⟩ (us++ds) (vs++dvs) Q E hr I.env0 (hb s us I.kIn hl) r2 h) fun r s' hq=>?_)
 cases r with
 |error e=>exact hx pins σ H s e s' I hq
 |ok fl =>
  cases fl with
  |ret u=>exact I.after hq
  |next=>exact False.elim hq
  |brk=>exact False.elim hq
  |cont=>exact False.elim hq
theorem Ov (F:FnOk X.prog X.w X.K X.mg X.base CX k f fd ps sp) (hr:Room k X.A) (hg:Gl X x) (hm:X.mg x=some (.ref f)) (hk:W.keepIn X.K (.ref f)=true) (hb:Binds X.K fd ps ds) (hd:Vals dvs ds) (hx:Ma CX X E)
  (ha:PA X (e::es) t) (hdb:(x == ("__debug__":Str))=false:=by decide) (he:starEach (e::es) X.env=(false,eval e X.env)::starEach es X.env:=by rfl) (hpl:(backTo pos (starEach es X.env)).any (·.1)=false:=by rfl) :
  PE X (.Call (.Name x p) (e::es) [] pos) (Abw sp dvs E t):=by
 intro pins s σ H Q I h
 refine Auu (Om I hg hm ?_ hdb)
 refine W.callWith_K (h₀:=X.base) I.ok.mod.kin hk (thn (ha pos pins s σ H _ I h) fun us s1 ⟨vs,H1,I1,r,q⟩=>⟨I1.kIn,?_⟩) he hpl
 exact Ac8 F hr hb hd hx I1 r q
end
section
variable {X:Cx}{CX:CXT}{k:Nat}{f C:Addr}{fd:FuncData}{ps ks:List Str}{sp:Sp}{E:XK}{x m:Str}{p pos apos kpos:Pos}{e o:Expr}{es:List Expr}{kws:List Keyword}{te ta:TE}{t tk:TA}{nm:Option Str}
variable {g:List Value->List Value->List Value}{gV:List V->List V->List V}
end
structure FnScope (N P:List Str) (sc:Scope):Prop where
 kind:sc.kind=.function
 co:sc.isCoroutine=false
 gen:sc.isGenerator=false
 nd:N.Nodup
 pre:N.take P.length=P
 par:∀ x∈P,sc.names.lookup x=some .local\/sc.names.lookup x=some .cell
 nofree:∀ y∈sc.names,y.2≠.free
theorem Mg {kindOf:Str->Option NameKind}{x:Str}:∀ {binds:List (Str×Value)}{m:Str->Option Value},(∀ v,(x,v)∉binds)->bindL kindOf binds m x=m x
 |[],_,_=>rfl
 |(n,v)::r,m,h=>by
  unfold bindL
  rw[Mg fun w hw=>h w (Atn _ hw)]
  split
  ·have:x≠n:=by rintro rfl;exact h v Atk
   simp[this]
  ·rfl
theorem Me {kindOf:Str->Option NameKind}{x:Str}:∀ {binds:List (Str×Value)}{m:Str->Option Value},(∀ v,(x,v)∉binds)->bindC kindOf binds m x=m x
 |[],_,_=>rfl
 |(n,v)::r,m,h=>by
  unfold bindC
  rw[Me fun w hw=>h w (Atn _ hw)]
  split
  ·rfl
  ·have:x≠n:=by rintro rfl;exact h v Atk
   simp[this]
theorem Mf {kindOf:Str->Option NameKind}{x:Str}{v:Value}:∀ {P:List Str}{vs:List Value}{i:Nat}{m:Str->Option Value},P.Nodup->P[i]?=some x->vs[i]?=some v->kindOf x=some .local ->
  bindL kindOf (P.zip vs) m x=some v
 |[],_,_,_,_,h,_,_=>by simp at h
 |_::_,[],_,_,_,_,h,_=>by simp at h
 |p::P,w::vs,0,m,nd,h1,h2,hk=>by
  simp at h1 h2;subst h1;subst h2
  show bindL kindOf ((p,w)::P.zip vs) m p=_
  unfold bindL
  rw[Mg fun v hv=>(List.nodup_cons.mp nd).1 (Awj hv).1,Atq hk]
  simp
 |p::P,w::vs,i+1,m,nd,h1,h2,hk=>by
  show bindL kindOf ((p,w)::P.zip vs) m x=_
  unfold bindL
  exact Mf (i:=i) (List.nodup_cons.mp nd).2 (by simpa using h1) (by simpa using h2) hk
theorem Md {kindOf:Str->Option NameKind}{x:Str}{v:Value}:∀ {P:List Str}{vs:List Value}{i:Nat}{m:Str->Option Value},P.Nodup->P[i]?=some x->vs[i]?=some v->kindOf x≠some .local ->
  bindC kindOf (P.zip vs) m x=some v
 |[],_,_,_,_,h,_,_=>by simp at h
 |_::_,[],_,_,_,_,h,_=>by simp at h
 |p::P,w::vs,0,m,nd,h1,h2,hk=>by
  simp at h1 h2;subst h1;subst h2
  show bindC kindOf ((p,w)::P.zip vs) m p=_
  unfold bindC
  rw[Me fun v hv=>(List.nodup_cons.mp nd).1 (Awj hv).1,Atl hk]
  simp
 |p::P,w::vs,i+1,m,nd,h1,h2,hk=>by
  show bindC kindOf ((p,w)::P.zip vs) m x=_
  unfold bindC
  exact Md (i:=i) (List.nodup_cons.mp nd).2 (by simpa using h1) (by simpa using h2) hk
noncomputable def E2 (N:List Str) (vs:List V):St:=vs.map some++List.replicate (N.length - vs.length) none
noncomputable def N7 (CX:CXT) (P:Program) (w:World) (K:W.Frag) (mg:Str->Option Value) (base:Heap) (N:List Str) (qual:Str) (scope:Scope) (f:Addr) (cd:Value) (A:Around) (outer:List Env) (s:Shared) (H:Hp) (E:XK):Cx where
 prog:=P
 w:=w
 K:=K
 mg:=mg
 base:=base
 A:=A.deeper (envOfC qual scope s.heap.objs.size f cd)
 N:=N
 s₀:=s
 H₀:=H
 env:=envOfC qual scope s.heap.objs.size f cd
 outer:=outer
 stack:=envOfC qual scope s.heap.objs.size f cd::outer
 ex:=[]
 calm:=true
 fn:=fun _=>true
 pn:=[]
 xe:=fun e s'=>wpAny (model P w) (A.deeper (envOfC qual scope s.heap.objs.size f cd)) (leaving (envOfC qual scope s.heap.objs.size f cd) e) (fun _ s''=>CX outer H s E e s'') (fun e' s''=>CX outer H s E e' s'') s'
theorem Pk {sc:Scope}{n:Nat}{x:Str} (h:sc.names.lookup x=some .cell):∃ c,(cellsFrom n sc.names []).lookup x=some c:=by
 have q:=W.cellsFrom_some sc.names n [] (.inl h)
 exact Option.isSome_iff_exists.mp q
theorem Mw {CX:CXT}{P:Program}{w:World}{K:W.Frag}{mg:Str->Option Value}{base:Heap}{N ps:List Str}{qual:Str}{scope:Scope}{f:Addr}{cd:Value}{A:Around}{outer:List Env}{s s1:Shared}{H:Hp}{E:XK}{us:List Value}{vs:List V}
  (S:FnScope N ps scope) (hd:A.handled=none) (e0:Env0 P w K mg base A outer s H) (hl:vs.length=ps.length) (r:Vals vs us)
  (x:InCallC s s.heap.objs.size (bindL (envOfC qual scope s.heap.objs.size f cd).kindOf (ps.zip us) fun _=>none) (cellsFrom (s.heap.objs.size+1) scope.names []) (bindC (envOfC qual scope s.heap.objs.size f cd).kindOf (ps.zip us) fun _=>none) s1) :
  Inv (N7 CX P w K mg base N qual scope f cd A outer s H E) [] (E2 N vs) H s1:=by
 have hpl:ps.length<=N.length:=by have:=Au5 List.length S.pre;rw[Au4] at this;lia
 obtain⟨h1,tk,rfl,hk⟩:=x.done
 have noA:∀ b:Addr,b∉(N7 CX P w K mg base N qual scope f cd A outer s H E).ex:=fun b z=>absurd (show b∈([]:List Addr) from z) (by simp)
 refine⟨⟨e0.mod,S.kind,rfl,rfl,Atp _,fun y z c h1 h2=>?_,fun y hy=>?_,fun y c _ h=>?_,fun _=>hd,Around.frames_deeper e0.frames,.inr ⟨rfl,rfl⟩,fun b z=>absurd z (noA b),e0.bs,e0.bsz,fun b _ _=>noA b,fun b z=>absurd z (noA b),e0.funs,e0.frf⟩,
  rfl,e0.bare,Un.kept hk,⟨_,x.toInCall.ns,fun i y v h1 h2 h3=>?_⟩,fun y c h=>⟨_,x.cell y c h⟩,e0.hok.fresh (Atp _),fun y c h=>?_,fun p hp=>absurd (show p∈([]:List (Addr×Obj)) from hp) (by simp),e0.hok.kept hk,?_⟩
 ·exact name_of_addr x.apart (Aul h1) (Aul h2)
 ·have hy:scope.names.lookup y=some .cell\/scope.names.lookup y=some .free:=hy
  rcases hy with hy|hy
  ·exact Pk hy
  ·exact absurd rfl (S.nofree _ (Aul hy))
 ·exact Ave (x.above y c (Aul h))
 ·have hi:i < vs.length:=by
   unfold E2 at h2
   by_cases hi:i < vs.length
   ·exact hi
   ·rw[Aud (by simpa using hi)] at h2
    rw[Avv] at h2
    split at h2<;>cases h2
  have ha:vs[i]?=some v:=by
   unfold E2 at h2
   rw[At4 (by simpa using hi),Aub] at h2
   cases e:vs[i]? with
   |none=>rw[e] at h2;cases h2
   |some a=>rw[e] at h2;cases h2;rfl
  obtain⟨u,hu,rv⟩:=r.get ha
  have hp:ps[i]?=some y:=by
   rw[<- S.pre,List.getElem?_take_of_lt (by lia)];exact h1
  have ndP:ps.Nodup:=by rw[<- S.pre];exact S.nd.sublist (List.take_sublist _ _)
  refine⟨u,rv,?_⟩
  rcases S.par y (Aui hp) with k|k
  ·exact .inl ⟨k,Mf ndP hp hu k⟩
  ·obtain⟨c,e⟩:=Pk (n:=s.heap.objs.size+1) k
   refine .inr ⟨.inl k,c,e,?_⟩
   have q:=x.cell y c e
   rw[Md ndP hp hu (by show scope.names.lookup y≠_;rw[k];decide)] at q
   exact q
 ·exact e0.hok.fresh (Ave (x.above y c (Aul h)))
 ·unfold E2
  show _=N.length
  rw[At8,At1,List.length_replicate]
  lia
theorem Aj2 {CX:CXT}{P:Program}{w:World}{K:W.Frag}{mg:Str->Option Value}{base:Heap}{k:Nat}{f:Addr}{name qual:Str}{params:Arguments}{body:List Stmt}{scope:Scope}{dV kV doc pm cdv ct oc:Value}{an od:Option Addr}
  {osl:Array (Option Value)}{N ps:List Str}{sp:Sp} (lk:K.lookup f=some ⟨oc,od,.func (W.fnOf name qual params body scope dV kV doc pm an cdv ct),osl⟩) (hcd:W.codeIn K cdv qual=true) (S:FnScope N ps scope)
  (len:∀ vs H Q E,sp vs H Q E->vs.length=ps.length)
  (hbody:∀ (A:Around) (outer:List Env) (s:Shared) (H:Hp) (vs:List V) (Q:VK) (E:XK),Room k (A.deeper (envOfC qual scope s.heap.objs.size f cdv))->sp vs H Q E ->
   ∃ t,PSs (N7 CX P w K mg base N qual scope f cdv A outer s H E) body t/\t { nx:=fun _ H'=>Q .non H',rt:=Q } (E2 N vs) H) :
  FnOk P w K mg base CX (k+1) f (W.fnOf name qual params body scope dV kV doc pm an cdv ct) ps sp:=by
 refine⟨len,fun A outer s H args us vs Q E hr e0 hb r hsp=>?_⟩
 have hl:=len _ _ _ _ hsp
 have KX:K.In s.heap:=e0.mod.kin.keeps fun b o e=>(e0.bs b o e).1
 have lim:s.heap.NoLimit:=e0.mod.nolimit.keeps fun b o e=>(e0.bs b o e).1
 have hkind:∀ y∈ps.zip us,scope.names.lookup y.1=some .local\/(scope.names.lookup y.1=some .cell/\((cellsFrom (s.heap.objs.size+1) scope.names []).lookup y.1).isSome=true):=fun⟨n,v⟩ hy=>by
  rcases S.par n (Awj hy).1 with q|q
  ·exact .inl q
  ·exact .inr ⟨q,W.cellsFrom_some _ _ _ (.inl q)⟩
 refine codeAny_call_function hr.depth (KX _ _ lk) rfl S.co S.gen rfl (W.codeRec_of KX hcd) (hb _ _ _ _ ?_)
 refine wpAny_newFunctionEnv_cells S.kind hkind fun env he s1 x=>?_
 subst he
 refine⟨lim.keeps x.toInCall.keep,codeAny_func ?_⟩
 obtain⟨t,ht,hq⟩:=hbody A outer s H vs Q E (hr.deeper _) hsp
 have I:Inv (N7 CX P w K mg base N qual scope f cdv A outer s H E) [] (E2 N vs) H s1:=Mw S hr.hd e0 hl r x
 refine Auq (ht [] s1 (E2 N vs) H _ I hq) (fun fl s' hs=>?_) fun e s' hs=>hs
 have fin:∀ {σ':St}{H':Hp}{v:V}{u:Value},Inv (N7 CX P w K mg base N qual scope f cdv A outer s H E) [] σ' H' s'->RelV v u->Q v H'->CE outer P w K H s Q u s' :=
  fun {σ' H' v u} J rv q=>⟨v,H',J.os,J.bare,J.base,J.hok,rv,q⟩
 cases fl with
 |ret u =>
  obtain⟨v,σ',H',J,rv,q⟩:=hs
  exact fin J rv q
 |next =>
  obtain⟨σ',H',J,q⟩:=hs
  exact fin (v:=V.non) (u:=Value.none) J rfl q
 |brk =>
  obtain⟨_,_,_,q⟩:=hs
  exact False.elim q
 |cont =>
  obtain⟨_,_,_,q⟩:=hs
  exact False.elim q
section
variable {X:Cx}{x:Str}{p pos:Pos}{e:Expr}{es:List Expr}{t:TA}{id T:String}{r:List V->Hp->VK->Prop}
end
end L2
namespace HT
open PySem PyProof.Rows
section
open PySem.SeqAt
open PySem.AutoSeq1 (wpAny_loadPart')
open PySem.MeetsSeq PySem.MeetsSeq2 PySem.MeetsSeq3
end
section
variable {prog:Program}{w:World}{A:Around}{E:Value->Shared->Prop}{s:Shared}
theorem cat_tup {t b:Addr}{vs ws:List Value}{Q:Value->Shared->Prop} (ht:IsTup s.heap t vs.toArray) (hb:IsTup s.heap b ws.toArray) (hv:vs≠[])
  (h1:ws=[]->Q (.ref t) s) (h2:ws≠[]->Q (.ref s.heap.objs.size) { s with heap:=s.heap.push { cls:=.type "tuple",data:=.seq (vs++ws).toArray } })
  (hsz:vs.length+ws.length<=sizeLine):wpAny (model prog w) A (binaryOp .Add (.ref t) (.ref b)) Q E s:=by
 obtain⟨⟨cls,dd,data,sl⟩,ho,hc,n,hd⟩:=id ht
 obtain⟨⟨cls2,dd2,data2,sl2⟩,ho2,hc2,n2,hd2⟩:=id hb
 simp only at hc hd hc2 hd2
 subst hc hd hc2 hd2
 have e:vs.toArray++ws.toArray=(vs++ws).toArray:=by simp
 by_cases hw:ws=[]
 ·exact concat_meets ⟨_,ho,rfl⟩ ⟨_,ho2,rfl⟩ noFill_tuple_add seq_tuple_add PySem.F.slot_tuple_add PySem.F.entry_tuple_add (PySem.F.args_tuple_add_2 _ _)
   (tuple_addW1 t b vs.toArray ws.toArray n n2 dd dd2 sl sl2 (by simpa using hv) (by simp[hw])) ⟨ho,ho2,h1 hw⟩
 ·refine concat_meets ⟨_,ho,rfl⟩ ⟨_,ho2,rfl⟩ noFill_tuple_add seq_tuple_add PySem.F.slot_tuple_add PySem.F.entry_tuple_add (PySem.F.args_tuple_add_2 _ _)
   (tuple_addW2 t b vs.toArray ws.toArray n n2 dd dd2 sl sl2 (by simpa using hv) (by simpa using hw) (by rw[Ats,Ats];exact hsz)) ⟨ho,ho2,?_⟩
  rw[e]
  exact h2 hw
noncomputable def sIx (n d:Nat):Option Int->Nat
 |none=>d
 |some v=>if v < 0 then (v+(n:Int)).toNat else min v.toNat n
theorem Amy (n d:Nat) (hd:d<=n) (o:Option Int):sIx n d o<=n:=by
 cases o with
 |none=>exact hd
 |some v =>
  show (if v < 0 then (v+(n:Int)).toNat else min v.toNat n)<=n
  by_cases hv:v < 0
  ·rw[Atq hv];lia
  ·rw[Atl hv];exact Nat.min_le_right _ _
theorem Uq (v:Int) (n d:Nat):(if v < 0 then max (v+(n:Int)) 0 else min v (n:Int))=((sIx n d (some v):Nat):Int):=by
 show (if v < 0 then max (v+(n:Int)) 0 else min v (n:Int))=(((if v < 0 then (v+(n:Int)).toNat else min v.toNat n):Nat):Int)
 by_cases hv:v < 0
 ·simp only[Atq hv];lia
 ·simp only[Atl hv];lia
theorem Ry (lo hi:Option Int) (n:Nat):Builtin.Slice.sliceAdjust lo hi 1 (n:Int)=(((sIx n 0 lo:Nat):Int),((sIx n n hi:Nat):Int)):=by
 have h1:¬ ((1:Int) < 0):=by lia
 unfold Builtin.Slice.sliceAdjust
 simp only[h1,Avn]
 refine Prod.ext ?_ ?_
 ·cases lo with
  |none=>rfl
  |some v=>exact Uq v n 0
 ·cases hi with
  |none=>rfl
  |some v=>exact Uq v n n
theorem Tp (i j:Nat):Builtin.Slice.slicePlaces (i:Int) (j:Int) 1=j - i:=by
 unfold Builtin.Slice.slicePlaces
 have h1:(1:Int) > 0:=by lia
 simp only[h1,Av8,Int.ediv_one]
 split<;>lia
theorem Jv {v:Value}{o:Option Int}{Q:Option Int->Shared->Prop} (p:IsPart v o) (h:Q o s):wpAny (model prog w) A (Builtin.Slice.slicePartIndex v) Q E s:=by
 cases p with
 |none=>exact slicePart_none h
 |int i t=>exact slicePart_int h
theorem sliceApplied_gen {sl:Addr}{vl vu:Value}{lo hi:Option Int}{n:Nat}{Q:Int×Int×Nat->Shared->Prop} (hs:s.heap.IsSliceOf sl vl vu .none) (pl:IsPart vl lo) (pu:IsPart vu hi)
  (h:Q (((sIx n 0 lo:Nat):Int),1,sIx n n hi - sIx n 0 lo) s):wpAny (model prog w) A (Builtin.Slice.sliceApplied (.ref sl) (pure (n:Int))) Q E s:=by
 obtain⟨os,hos,hcs,hds⟩:=id hs
 unfold Builtin.Slice.sliceApplied Builtin.Slice.sliceFields
 refine Atj (Atj (wpAny_field hos hds (x:=vl) rfl (Atj (wpAny_field hos hds (x:=vu) rfl (Atj (wpAny_field hos hds (x:=.none) rfl (Atu ?_)))))))
 refine Atj (slicePart_none ?_)
 show wpAny _ _ (if ((1:Int) == 0)=true then _ else _) _ _ s
 rw[Atl (by decide)]
 refine Atj (Jv pl (Atj (Jv pu (Atj (Atu ?_)))))
 show wpAny _ _ (match Builtin.Slice.sliceAdjust lo hi 1 (n:Int) with|(lo,hi)=>pure (lo,(1:Int),Builtin.Slice.slicePlaces lo hi 1)) _ _ s
 rw[Ry lo hi n]
 show wpAny _ _ (pure (((sIx n 0 lo:Nat):Int),(1:Int),Builtin.Slice.slicePlaces ((sIx n 0 lo:Nat):Int) ((sIx n n hi:Nat):Int) 1)) _ _ s
 rw[Tp]
 exact Atu h
theorem Aau (xs:Array Value) (i k:Nat):((List.range k).filterMap fun (m:Nat)=>xs[((i:Int)+(m:Int) * 1).toNat]?).toArray=((xs.toList.drop i).take k).toArray:=by
 have e:(fun (m:Nat)=>xs[((i:Int)+(m:Int) * 1).toNat]?)=fun m=>xs[i+m]?:=by
  funext m
  have:((i:Int)+(m:Int) * 1).toNat=i+m:=by lia
  rw[this]
 rw[e]
 have:=pick_run xs i k
 rw[List.filterMap_map] at this
 have e2:((fun x=>xs[x]?) ∘ fun x=>i+x)=fun m=>xs[i+m]?:=rfl
 rw[e2] at this
 rw[this]
theorem getItem_tuple_cut {t sl:Addr}{items:Array Value}{vl vu:Value}{lo hi:Option Int}{Q:Value->Shared->Prop} (ht:IsTup s.heap t items) (hs:s.heap.IsSliceOf sl vl vu .none) (pl:IsPart vl lo) (pu:IsPart vu hi)
  (hw:¬ (sIx items.size 0 lo=0/\sIx items.size items.size hi=items.size))
  (h:Q (.ref s.heap.objs.size) { s with heap:=s.heap.push { cls:=.type "tuple",data:=.seq ((items.toList.drop (sIx items.size 0 lo)).take (sIx items.size items.size hi - sIx items.size 0 lo)).toArray } })
  (hsz:items.size<=sizeLine):wpAny (model prog w) A (getItem (.ref t) (.ref sl)) Q E s:=by
 have htake:sizeOk (.seq ((items.toList.drop (sIx items.size 0 lo)).take (sIx items.size items.size hi - sIx items.size 0 lo)).toArray):=by
  show ((items.toList.drop (sIx items.size 0 lo)).take (sIx items.size items.size hi - sIx items.size 0 lo)).toArray.size<=sizeLine
  rw[Ats,Au4,List.length_drop,Avc]
  lia
 have hj:sIx items.size items.size hi<=items.size:=Amy _ _ (Atp _) hi
 obtain⟨os,hos,hcs,hds⟩:=id hs
 have hTs:s.TypeIs (.ref sl) "slice":=⟨os,hos,hcs⟩
 unfold getItem
 try with_reducible refine Avq ?_
 first|refine Atj (Atu ?_)|skip
 refine Atj (wpAny_sequenceKey ht.typeIs (by decide) ?_)
 refine Atj (Av2 (name:=Str.ofString "__getitem__") ht.typeIs PyProof.Rows.slot_tuple_getitem
  (Avw PyProof.Rows.slot_tuple_getitem ht.typeIs entry_tuple_getitem ?_ (args_tuple_getitem _ _)))
 show wpAny _ _ (Builtin.Tuple.tupleItemsOf (.ref t) >>= _) _ _ s
 refine Atj (tupleItemsOf_ ht ?_)
 refine Atj (wpAny_typeOf hTs ?_)
 rw[Atq (by decide)]
 refine Atj (sliceApplied_gen hs pl pu ?_)
 have hno:¬ ((((sIx items.size 0 lo:Nat):Int) == 0&&(1:Int) == 1&&(sIx items.size items.size hi - sIx items.size 0 lo) == items.size)=true):=by
  intro q
  rw[At0,At0] at q
  have q1:((sIx items.size 0 lo:Nat):Int)=0:=eq_of_beq q.1.1
  have q2:sIx items.size items.size hi - sIx items.size 0 lo=items.size:=eq_of_beq q.2
  exact hw ⟨by lia,by lia⟩
 show wpAny _ _ (if (((sIx items.size 0 lo:Nat):Int) == 0&&(1:Int) == 1&&(sIx items.size items.size hi - sIx items.size 0 lo) == items.size)=true then _ else _) _ _ s
 rw[Atl hno,Aau]
 first
  |exact Atj (m:=Builtin.Tuple.tupleExact _) (Au2 (Atu ⟨_,rfl,Atu h⟩) htake)
  |exact Atj (m:=Builtin.Tuple.tupleExact _) (Au2 (Atj (Atu (Atu ⟨_,rfl,Atu h⟩))) htake)
  |exact Atj (Atj (m:=Builtin.Tuple.tupleExact _) (Au2 (Atu (Atu ⟨_,rfl,Atu h⟩)) htake))
  |exact Atj (Atj (m:=Builtin.Tuple.tupleExact _) (Au2 (Atu ⟨_,rfl,Atu h⟩) htake))
end
end HT
namespace L2
open PySem PySem.Spec PyProof.Rows
abbrev TO:=St->Hp->(Option Int->Hp->Prop)->Prop
def PO (X:Cx) (e:Option Expr) (t:TO):Prop :=
 ∀ (pins:List (Addr×Obj)) (s:Shared) (σ:St) (H:Hp) (Q:Option Int->Hp->Prop),Inv X pins σ H s->t σ H Q ->
  wpAny (model X.prog X.w) X.A (evalPart e X.env) (fun u s'=>∃ o H',Inv X pins σ H' s'/\IsPart u o/\Q o H') X.xe s
noncomputable def Aho:TO:=fun _ H Q=>Q none H
noncomputable def Aq1 (t:TE):TO:=fun σ H Q=>t σ H fun x H1=>∃ i,x=.int i/\Q (some i) H1
section
variable {X:Cx}{e:Expr}{te:TE}{lo hi:Option Expr}{tl th:TO}{pos p2:Pos}
theorem Af7:PO X none Aho:=by
 intro pins s σ H Q I h
 rw[evalPart_none]
 exact Atu ⟨none,H,I,.none,h⟩
theorem Af8 (h:PE X e te):PO X (some e) (Aq1 te):=by
 intro pins s σ H Q I hw
 rw[evalPart_some]
 refine thn (h pins s σ H _ I hw) fun u s1 ⟨x,H1,I1,r1,q1⟩=>?_
 obtain⟨i,rfl,q⟩:=q1
 obtain⟨t,rfl⟩:=r1
 exact⟨some i,H1,I1,.int i t,q⟩
def SlR (X:Cx) (r:V->Option Int->Option Int->Hp->VK->Prop):Prop :=
 ∀ (pins:List (Addr×Obj)) (s:Shared) (σ:St) (H:Hp) (x:V) (v vl vu:Value) (lo hi:Option Int) (sl:Addr) (Q:VK),Inv X pins σ H s->RelV x v->s.heap.IsSliceOf sl vl vu .none->IsPart vl lo->IsPart vu hi->r x lo hi H Q ->
  ∃ T id,typeLookup (.type T) "__getitem__"=pure (some (.builtin id))/\s.TypeIs v T/\wpAny (model X.prog X.w) X.A (getItem v (.ref sl)) (EP X pins σ Q) X.xe s
theorem SlR.or {r r':V->Option Int->Option Int->Hp->VK->Prop} (h:SlR X r) (h':SlR X r'):SlR X (fun x lo hi H Q=>r x lo hi H Q\/r' x lo hi H Q):=by
 intro pins s σ H x v vl vu lo hi sl Q I rx hs pl pu q
 rcases q with q|q
 ·exact h pins s σ H x v vl vu lo hi sl Q I rx hs pl pu q
 ·exact h' pins s σ H x v vl vu lo hi sl Q I rx hs pl pu q
noncomputable def tSl (r:V->Option Int->Option Int->Hp->VK->Prop) (te:TE) (tl th:TO):TE:=fun σ H Q=>te σ H fun x H1=>tl σ H1 fun l H2=>th σ H2 fun u H3=>r x l u H3 Q
theorem Aap {r:V->Option Int->Option Int->Hp->VK->Prop} (hr:SlR X r) (he:PE X e te) (hl:PO X lo tl) (hu:PO X hi th):PE X (.Subscript e (.Slice lo hi none p2) pos) (tSl r te tl th):=by
 intro pins s σ H Q I h
 refine Subscript_ (thn (he pins s σ H _ I h) fun v s1 ⟨x,H1,I1,r1,q1⟩=>?_)
 refine wpAny_Slice (thn (hl pins s1 σ H1 _ I1 q1) fun vl s2 ⟨l,H2,I2,pl,q2⟩=>thn (hu pins s2 σ H2 _ I2 q2) fun vu s3 ⟨u,H3,I3,pu,q3⟩=>?_)
 rw[evalPart_none]
 refine Atu ?_
 have I4:Inv X pins σ H3 { s3 with heap:=s3.heap.push { cls:=.type "slice",data:=.fields #[vl,vu,.none] } }:=I3.kept (t':=s3.toks) fun b ob q=>Ato _ q
 obtain⟨T,id,hT,ht,hg⟩:=hr pins { s3 with heap:=s3.heap.push { cls:=.type "slice",data:=.fields #[vl,vu,.none] } } σ H3 x v vl vu l u s3.heap.objs.size Q I4 r1 (Heap.IsSliceOf.new ..) pl pu q3
 show wpAny (model X.prog X.w) X.A (subscriptTail e (.Slice lo hi none p2) v (.ref s3.heap.objs.size)) (EP X pins σ Q) X.xe { s3 with heap:=s3.heap.push { cls:=.type "slice",data:=.fields #[vl,vu,.none] } }
 exact tail_any (ops:=[.ref s3.heap.objs.size,v]) ht hT hg (by with_unfolding_all rfl)
def Ahy (xs:List V) (lo hi:Option Int):List V:=(xs.drop (HT.sIx xs.length 0 lo)).take (HT.sIx xs.length xs.length hi - HT.sIx xs.length 0 lo)
theorem N6 (xs:List V) (lo hi:Option Int):(Ahy xs lo hi).length<=xs.length:=by
 unfold Ahy
 rw[Au4,List.length_drop]
 lia
def As7 (K:W.Frag):V->Option Int->Option Int->Hp->VK->Prop:=fun x lo hi H Q=>∃ a xs,x=.ref a/\SqT K H a xs /\
 ¬ (HT.sIx xs.length 0 lo=0/\HT.sIx xs.length xs.length hi=xs.length)/\∀ p,H p=none->Q (.ref p) (upd H p (.tup (Ahy xs lo hi)))
theorem sl_tup:SlR X (As7 X.K):=by
 intro pins s σ H x v vl vu lo hi sl Q I rx hs pl pu h
 obtain⟨a,xs,rfl,hx,hw,q⟩:=h
 cases rx
 obtain⟨its,r,ht,hz⟩:=I.tuple hx
 have hlen:its.toArray.size=xs.length:=by rw[Ats];exact r.length.symm
 refine⟨"tuple",_,PyProof.Rows.slot_tuple_getitem.lookup,ht.typeIs,?_⟩
 refine HT.getItem_tuple_cut ht hs pl pu (by rw[hlen];exact hw) ?_ (by rw[hlen];exact hz)
 rw[hlen]
 refine⟨.ref s.heap.objs.size,_,I.laid (t':=s.toks) (o:=.tup (Ahy xs lo hi)) (fun b ob q=>Ato _ q) (Atp _) ?_,rfl,q _ (I.hok.fresh (Atp _))⟩
 exact⟨Auf (N6 xs lo hi) hz,_,(r.drop (HT.sIx xs.length 0 lo)).take (HT.sIx xs.length xs.length hi - HT.sIx xs.length 0 lo),IsTup.new _ _⟩
def Aqs (K:W.Frag):R2:=fun x y H Q=>∃ a b xs ys,x=.ref a/\y=.ref b/\SqT K H a xs/\SqT K H b ys/\xs≠[]/\xs.length+ys.length<=sizeLine /\
 (ys=[]->Q (.ref a) H)/\(ys≠[]->∀ p,H p=none->Q (.ref p) (upd H p (.tup (xs++ys))))
theorem Vals.nil_iff {xs:List V}{us:List Value} (r:Vals xs us):us=[] ↔ xs=[]:=by
 cases r with
 |nil=>simp
 |cons _ _=>simp
theorem op_catT:OpR X (binaryOp .Add) (Aqs X.K):=by
 intro pins s σ H x y v u Q I rx ry h
 obtain⟨a,b,xs,ys,rfl,rfl,ha,hb,hx,hz,q1,q2⟩:=h
 cases rx
 cases ry
 obtain⟨its,r1,p1,_⟩:=I.tuple ha
 obtain⟨its2,r2,p2,_⟩:=I.tuple hb
 refine HT.cat_tup p1 p2 (fun z=>hx (r1.nil_iff.mp z)) (fun z=>⟨.ref a,H,I,rfl,q1 (r2.nil_iff.mp z)⟩) (fun z=>?_) (by rw[<- r1.length,<- r2.length];exact hz)
 refine⟨.ref s.heap.objs.size,_,I.laid (t':=s.toks) (o:=.tup (xs++ys)) (fun b ob q=>Ato _ q) (Atp _) ?_,rfl,q2 (fun w=>z (r2.nil_iff.mpr w)) _ (I.hok.fresh (Atp _))⟩
 exact⟨by rw[At8];exact hz,_,r1.append r2,IsTup.new _ _⟩
end
noncomputable def ixN (n:Nat) (i:Int):Option Nat:=if 0<=i then (if i < n then some i.toNat else none) else if -(n:Int)<=i then some (i+n).toNat else none
def atI {α:Type} (xs:List α) (i:Int):Option α:=(ixN xs.length i).bind fun j=>xs[j]?
theorem Vf {n:Nat}{i:Int}{j:Nat} (h:ixN n i=some j):seqIndex? i n=some j/\j < n/\-(n:Int)<=i/\i < n:=by
 unfold ixN at h
 by_cases h0:0<=i
 ·rw[Atq h0] at h
  by_cases h1:i < n
  ·rw[Atq h1] at h
   have e:i.toNat=j:=Auo h
   exact⟨by rw[seqIndex_of h0 h1,e],by lia,by lia,h1⟩
  ·rw[Atl h1] at h;cases h
 ·rw[Atl h0] at h
  by_cases h1:-(n:Int)<=i
  ·rw[Atq h1] at h
   have e:(i+n).toNat=j:=Auo h
   exact⟨by rw[seqIndex_neg (by lia) h1,e],by lia,h1,by lia⟩
  ·rw[Atl h1] at h;cases h
theorem J6 {α:Type}{xs:List α}{i:Int}{v:α} (h:atI xs i=some v):∃ j,seqIndex? i xs.length=some j/\xs[j]?=some v/\j < xs.length/\-(xs.length:Int)<=i/\i < xs.length:=by
 unfold atI at h
 cases e:ixN xs.length i with
 |none=>rw[e] at h;cases h
 |some j =>
  rw[e] at h
  obtain⟨h1,h2,h3,h4⟩:=Vf e
  exact⟨j,h1,h,h2,h3,h4⟩
def J1 (b:Expr):Prop:=∀ o i,subscripted b false o i=operate [o,i] (getItem o i)
def IxR (X:Cx) (r:R2):Prop :=
 ∀ (value slice:Expr) (pins:List (Addr×Obj)) (s:Shared) (σ:St) (H:Hp) (x y:V) (v u:Value) (Q:VK),Inv X pins σ H s->RelV x v->RelV y u->r x y H Q ->
  subscripted slice false v u=operate [v,u] (getItem v u)->wpAny (model X.prog X.w) X.A (subscriptTail value slice v u) (EP X pins σ Q) X.xe s
def MtR (X:Cx) (id:String) (r:V->List V->Hp->VK->Prop):Prop :=
 ∀ (pins:List (Addr×Obj)) (s:Shared) (σ:St) (H:Hp) (x:V) (xs:List V) (v:Value) (us:List Value) (Q:VK),Inv X pins σ H s->RelV x v->Vals xs us->r x xs H Q ->
  wpAny (model X.prog X.w) X.A (call (.builtin id) (v::us)) (EP X pins σ Q) X.xe s
section
variable {X:Cx}{a b:Expr}{ta tb:TE}{pos:Pos}
theorem IxR.or {r r':R2} (h:IxR X r) (h':IxR X r'):IxR X (fun x y H Q=>r x y H Q\/r' x y H Q):=by
 intro value slice pins s σ H x y v u Q I rx ry q hs
 rcases q with q|q
 ·exact h value slice pins s σ H x y v u Q I rx ry q hs
 ·exact h' value slice pins s σ H x y v u Q I rx ry q hs
theorem Aqj {r:R2} (hr:IxR X r) (ha:PE X a ta) (hb:PE X b tb) (hs:J1 b):PE X (.Subscript a b pos) (tOp r ta tb):=by
 intro pins s σ H Q I h
 exact Subscript_ (Aph ha hb I h fun v u s2 x y H2 I2 rx ry q=>hr a b pins s2 σ H2 x y v u Q I2 rx ry q (hs _ _))
def Arl (K:W.Frag):R2:=fun x y H Q=>∃ p xs i v,x=.ref p/\y=.int i/\SqL K H p xs/\atI xs i=some v/\Q v H
def Arn (K:W.Frag):R2:=fun x y H Q=>∃ p xs i v,x=.ref p/\y=.int i/\SqT K H p xs/\atI xs i=some v/\Q v H
def Arm:R2:=fun x y H Q=>∃ z i c,x=.str z/\y=.int i/\z.length<=sizeLine/\atI z.cps.toList i=some c/\Q (.str ⟨#[c]⟩) H
theorem ix_list:IxR X (Arl X.K):=by
 intro value slice pins s σ H x y v u Q I rx ry h hs
 obtain⟨p,xs,i,z,rfl,rfl,hq,he,q⟩:=h
 cases rx
 obtain⟨t,rfl⟩:=ry
 obtain⟨its,r,pl,hz⟩:=I.list hq
 obtain⟨j,h1,h2,h3,h4,h5⟩:=J6 he
 obtain⟨w,ew,rw'⟩:=r.get h2
 have hl:=r.length
 have hn:=Jm
 have fin:EP X pins σ Q w s:=⟨z,H,I,rw',q⟩
 by_cases h0:0<=i
 ·have hj:i.toNat=j:=by
   rw[seqIndex_of h0 h5] at h1
   exact Auo h1
  exact item_listR pl.isList h0 (by lia) (by rw[hj];simpa using ew) fin hs
 ·have hj:(i+(its.toArray.size:Int)).toNat=j:=by
   rw[seqIndex_neg (by lia) h4] at h1
   rw[Ats,<- hl]
   exact Auo h1
  exact subscriptTail_builtinR (x:=w) pl.isList.typeIs slot_list_getitem.lookup
   (wpAny_getItem_list_neg (Q:=fun r s'=>r=w/\EP X pins σ Q r s') pl.isList (by lia) (by rw[Ats]<;>lia) (by lia) (by rw[hj];simpa using ew) ⟨rfl,fin⟩) hs
theorem ix_tup:IxR X (Arn X.K):=by
 intro value slice pins s σ H x y v u Q I rx ry h hs
 obtain⟨p,xs,i,z,rfl,rfl,hq,he,q⟩:=h
 cases rx
 obtain⟨t,rfl⟩:=ry
 obtain⟨its,r,pl,hz⟩:=I.tuple hq
 obtain⟨j,h1,h2,h3,h4,h5⟩:=J6 he
 obtain⟨w,ew,rw'⟩:=r.get h2
 have hl:=r.length
 have hn:=Jm
 have fin:EP X pins σ Q w s:=⟨z,H,I,rw',q⟩
 exact subscriptTail_builtinR (x:=w) pl.typeIs slot_tuple_getitem.lookup
  (getItem_tuple (j:=j) (Q:=fun r s'=>r=w/\EP X pins σ Q r s') pl (by lia) (by lia) (by rw[Ats,<- hl];exact h1) (by simpa using ew) ⟨rfl,fin⟩) hs
theorem Aj7:IxR X Arm:=by
 intro value slice pins s σ H x y v u Q I rx ry h hs
 obtain⟨z,i,c,rfl,rfl,hz,he,q⟩:=h
 obtain⟨t,rfl⟩:=rx
 obtain⟨t',rfl⟩:=ry
 obtain⟨j,h1,h2,h3,h4,h5⟩:=J6 he
 have hl:z.cps.toList.length=z.length:=by simp[Str.length]
 rw[hl] at h1 h4 h5
 have hn:=Jm
 exact tail_any (typeIs_str s z t) slot_str_getitem.lookup (getItem_str (c:=c) (by
  have e1:decide (i < -(2 ^ 63:Int))=false:=Aus (by lia)
  have e2:decide (i ≥ 2 ^ 63)=false:=Aus (by lia)
  rw[e1,e2,Bool.or_false]) (by rw[h1];simpa using h2) ⟨.str ⟨#[c]⟩,H,I.tok _,⟨_,rfl⟩,q⟩) hs
def rIx (K:W.Frag):R2:=fun x y H Q=>Arl K x y H Q\/Arn K x y H Q\/Arm x y H Q
theorem Aj6:IxR X (rIx X.K):=ix_list.or (ix_tup.or Aj7)
theorem Ti (its:List Value) (n j:Nat) (u:Value):Obj.mapSeq (·.setIfInBounds j u) { cls:=.type "list",data:=.seq its.toArray n }={ cls:=.type "list",data:=.seq (its.set j u).toArray n }:=by
 simp[Obj.mapSeq]
theorem Inv.lst {pins:List (Addr×Obj)}{σ:St}{H:Hp}{s:Shared}{p:Addr}{xs:List V} (I:Inv X pins σ H s) (h:H p=some (.lst xs)) :
  ∃ (its:List Value) (n:Nat),Vals xs its/\s.heap.get? p=some { cls:=.type "list",data:=.seq its.toArray n }/\xs.length<=sizeLine:=by
 obtain⟨z,its,n,r,e⟩:=I.hok p _ h
 exact⟨its,n,r,e,z⟩
theorem Inv.lstUpd {pins:List (Addr×Obj)}{σ:St}{H:Hp}{s:Shared}{p:Addr}{xs ys:List V}{its its':List Value}{n n':Nat}{f:Obj->Obj} (I:Inv X pins σ H s) (h:H p=some (.lst xs))
  (ho:s.heap.get? p=some { cls:=.type "list",data:=.seq its.toArray n }) (hf:f { cls:=.type "list",data:=.seq its.toArray n }={ cls:=.type "list",data:=.seq its'.toArray n' }) (r:Vals ys its') (hz:ys.length<=sizeLine) (t:Nat) :
  Inv X pins σ (upd H p (.lst ys)) { s with heap:=s.heap.update p f,toks:=t }:=by
 have e:(s.heap.update p f).get? p=some { cls:=.type "list",data:=.seq its'.toArray n' }:=by
  rw[Heap.get?_update_self f ho (by rw[hf]<;>rfl),hf]
 refine I.write (x:=p) (e:=p) (by rw[h];trivial) (.inl rfl) (fun b u hb q=>(Aur _ _ (Avr hb)).trans q) ⟨_,e⟩ ?_
 exact⟨hz,its',n',r,e⟩
def Aqt:V->V->V->Hp->(Hp->Prop)->Prop:=fun o i v H Q=>∃ p xs k j,o=.ref p/\i=.int k/\H p=some (.lst xs)/\ixN xs.length k=some j/\Q (upd H p (.lst (xs.set j v)))
theorem Abj:An8 X Aqt:=by
 intro pins s σ H o i v ov iv u Q I ro ri rv h
 obtain⟨p,xs,k,j,rfl,rfl,hp,hj,q⟩:=h
 cases ro
 obtain⟨t,rfl⟩:=ri
 obtain⟨its,n,r,ho,hz⟩:=I.lst hp
 obtain⟨h1,h2,h3,h4⟩:=Vf hj
 have hl:=r.length
 have hn:=Jm
 have I':Inv X pins σ (upd H p (.lst (xs.set j v))) { s with heap:=s.heap.update p (Obj.mapSeq (·.setIfInBounds j u)) } :=
  I.lstUpd hp ho (Ti its n j u) (r.set rv j) (by rw[List.length_set];exact hz) s.toks
 by_cases h0:0<=k
 ·have hk:k.toNat=j:=by
   rw[seqIndex_of h0 h4] at h1
   exact Auo h1
  exact W.ki_setAt ho h0 (by lia) (by rw[Ats,<- hl];exact h4) (by rw[hk];exact⟨_,I',q⟩)
 ·have hk:(k+(its.toArray.size:Int)).toNat=j:=by
   rw[seqIndex_neg (by lia) h3] at h1
   rw[Ats,<- hl]
   exact Auo h1
  exact W.ki_setBack ho (by lia) (by rw[Ats,<- hl];exact h3) (by lia) (by rw[hk];exact⟨_,I',q⟩)
theorem J7:Ado X (.type "tuple") (fun xs H Q=>∃ p ys,xs=[.ref p]/\((SqL X.K H p ys/\∀ l,H l=none->Q (.ref l) (upd H l (.tup ys)))\/(SqT X.K H p ys/\Q (.ref p) H))):=by
 intro pins s σ H xs us Q I r h
 obtain⟨p,ys,rfl,h⟩:=h
 obtain⟨u,rfl,rx⟩:=Pg r
 cases rx
 rcases h with ⟨hq,q⟩|⟨hq,q⟩
 ·obtain⟨its,r',pl,hz⟩:=I.list hq
  have hlen:=r'.length
  refine call_tuple_list pl.isList (fun h' kp=>?_) (by simp only[Ats]<;>lia)
  have I1:Inv X pins σ H { s with heap:=h' }:=I.kept (t':=s.toks) kp
  have I2:Inv X pins σ (upd H h'.objs.size (.tup ys)) { s with heap:=h'.push { cls:=.type "tuple",data:=.seq its.toArray } } :=
   I1.laid (t':=s.toks) (fun b o e=>Ato _ e) (Atp _) (show ObjOk X.prog X.w X.K _ _ _ (.tup ys) from ⟨hz,its,r',IsTup.new _ _⟩)
  exact⟨.ref h'.objs.size,_,I2,rfl,q _ (I1.hok.fresh (Atp _))⟩
 ·obtain⟨its,r',pl,hz⟩:=I.tuple hq
  exact call_tuple_same pl ⟨.ref p,H,I,rfl,q⟩
def tyV (K:W.Frag) (T:String) (x:V) (H:Hp):Prop:=match x with
 |.str _=>T="str"
 |.int _=>T="int"
 |.ref p=>(T="list"/\∃ xs,SqL K H p xs)\/(T="tuple"/\∃ o,K.lookup p=some o/\o.cls=.type "tuple"/\o.dict=none) \/
   (T="dict"/\((∃ kvs,H p=some (.dK kvs))\/∃ kvs,H p=some (.dT kvs)))\/(T="set"/\∃ S n,H p=some (.set S n))
 |_=>False
theorem Anj {pins:List (Addr×Obj)}{σ:St}{H:Hp}{s:Shared}{T:String}{x:V}{v:Value} (I:Inv X pins σ H s) (r:RelV x v) (ty:tyV X.K T x H) :
  s.TypeIs v T/\∀ a,v=.ref a->∃ ob,s.heap.get? a=some ob/\ob.dict=none:=by
 cases x with
 |str z =>
  obtain⟨t,rfl⟩:=r
  cases (show T="str" from ty)
  exact⟨typeIs_str s z t,fun _ e=>nomatch e⟩
 |int i =>
  obtain⟨t,rfl⟩:=r
  cases (show T="int" from ty)
  exact⟨typeIs_int s i t,fun _ e=>nomatch e⟩
 |ref p =>
  cases r
  rcases ty with ⟨rfl,xs,hq⟩|⟨rfl,o,hk,hc,hd⟩|⟨rfl,hk⟩|⟨rfl,S,n,hk⟩
  ·obtain⟨its,_,pl,_⟩:=I.list hq
   refine⟨pl.isList.typeIs,fun a e=>?_⟩
   cases e
   obtain⟨o,n,e,c,hd,_⟩:=pl
   exact⟨o,e,hd⟩
  ·refine⟨⟨o,I.kIn p o hk,hc⟩,fun a e=>?_⟩
   cases e
   exact⟨o,I.kIn _ o hk,hd⟩
  ·have z:∃ o,s.heap.get? p=some o/\o.ExactDict:=by
    rcases hk with ⟨kvs,hk⟩|⟨kvs,hk⟩
    ·obtain⟨_,_,_,_,o,_,_,e,ex,_⟩:=I.hok p _ hk
     exact⟨o,e,ex⟩
    ·obtain⟨_,_,_,_,o,_,_,e,ex,_⟩:=I.hok p _ hk
     exact⟨o,e,ex⟩
   obtain⟨o,e,ex⟩:=z
   refine⟨⟨o,e,ex.1⟩,fun a e2=>?_⟩
   cases e2
   exact⟨o,e,ex.2.1⟩
  ·obtain⟨o,_,_,_,e,ex,_⟩:=I.hok p _ hk
   refine⟨⟨o,e,ex.1⟩,fun a e2=>?_⟩
   cases e2
   exact⟨o,e,ex.2.1⟩
 |_=>exact False.elim ty
noncomputable def tBM (K:W.Frag) (T:String) (r:V->List V->Hp->VK->Prop) (to:TE) (t:TA):TE:=fun σ H Q=>to σ H fun x H1=>tyV K T x H1/\t σ H1 fun xs H2=>r x xs H2 Q
variable {o e:Expr}{es:List Expr}{to:TE}{t:TA}{name:Str}{apos cpos:Pos}{T id:String}{r:V->List V->Hp->VK->Prop}
theorem Aqi (pa:PlainAttrs T) (slot:Slot T name id) (hty:typeOf (.builtin id)=pure (.type "method_descriptor")) (hm:MtR X id r) (ho:PE X o to) (ha:PA X (e::es) t)
  (hbase:attributeBase o name X.env (eval o X.env)=eval o X.env:=by rfl)
  (hfew:((backTo cpos (starEach (e::es) X.env)).all (fun x=>!x.1)&&(backToKw cpos (keywordEach [] X.env)).all (fun x=>x.1.isSome)
   &&decide ((e::es).length+([]:List Keyword).length+(if ([]:List Keyword).isEmpty then 0 else 1) < 30))=true:=by rfl)
  (hline:(apos.endLine == cpos.line)=true:=by rfl) (hs:starEach (e::es) X.env=(false,eval e X.env)::starEach es X.env:=by rfl) (hplain:(backTo cpos (starEach es X.env)).any (·.1)=false:=by rfl) :
  PE X (.Call (.Attribute o name apos) (e::es) [] cpos) (tBM X.K T r to t):=by
 intro pins s σ H Q I h
 refine wpAny_Call_method_late hbase hfew hline rfl (thn (ho pins s σ H _ I h) fun v s1 ⟨x,H1,I1,r1,ty,q1⟩=>?_)
 obtain⟨h1,h2⟩:=Anj I1 r1 ty
 refine⟨T,id,pa,slot,hty,h1,h2,?_⟩
 have hA:=ha cpos pins s1 σ H1 _ I1 q1
 rw[hs] at hA ⊢
 refine Calls.callWith_builtin (by show (false||(backTo cpos (starEach es X.env)).any (·.1))=false;rw[hplain]<;>rfl) (Calls.evalArgs_plain ?_)
 exact thn hA fun us s2 ⟨vs,H2,I2,r2,q2⟩=>hm pins s2 σ H2 x vs v us Q I2 r1 r2 q2
end
def MtM (X:Cx) (id:String) (r:V->List V->Hp->VK->Prop):Prop :=
 ∀ (pins:List (Addr×Obj)) (s:Shared) (σ:St) (H:Hp) (x:V) (xs:List V) (v:Value) (us:List Value) (Q:VK),Inv X pins σ H s->RelV x v->Vals xs us->r x xs H Q ->
  wpAny (model X.prog X.w) X.A (call (.builtin id) (v::us)) (EP X pins σ Q) X.xe s
theorem Vals.one:∀ {x:V}{us:List Value},Vals [x] us->∃ u,us=[u]/\RelV x u
 |_,_,.cons r .nil=>⟨_,rfl,r⟩
theorem Vals.reverse {xs:List V}{us:List Value} (h:Vals xs us):Vals xs.reverse us.reverse:=by
 induction h with
 |nil=>exact .nil
 |cons r t ih=>rw[Awc,Awc];exact Vals.append ih (.cons r .nil)
section
variable {X:Cx}{pins:List (Addr×Obj)}{σ:St}{H:Hp}{s:Shared}{l b:Addr}{xs ys zs:List V}
theorem Inv.lset {its its':List Value}{n:Nat}{f:Array Value->Array Value}{t':Nat} (I:Inv X pins σ H s) (hH:H l=some (.lst xs))
  (e:s.heap.get? l=some { cls:=.type "list",data:=.seq its.toArray n }) (hf:f its.toArray=its'.toArray) (hv:Vals ys its') (hz:ys.length<=sizeLine) :
  Inv X pins σ (upd H l (.lst ys)) { s with heap:=s.heap.update l (Obj.mapSeq f),toks:=t' }:=by
 have q:=PySem.IsL.update e f
 rw[hf] at q
 refine I.write (x:=l) (e:=l) (by rw[hH];exact trivial) (.inl rfl) (fun b' u hb hu=>(Aur s.heap (Obj.mapSeq f) (Avr hb)).trans hu) ⟨_,q⟩ ?_
 exact⟨hz,its',_,hv,q⟩
theorem Inv.lnew {its:List Value}{t':Nat} (I:Inv X pins σ H s) (hv:Vals ys its) (hz:ys.length<=sizeLine) :
  Inv X pins σ (upd H s.heap.objs.size (.lst ys)) { s with heap:=s.heap.push { cls:=.type "list",data:=.seq its.toArray },toks:=t' } :=
 I.laid (fun _ _ q=>Ato _ q) (Atp _) ⟨hz,its,0,hv,At3 _ rfl⟩
theorem Inv.fresh (I:Inv X pins σ H s):H s.heap.objs.size=none:=I.hok.fresh (Atp _)
inductive LstM (h:Heap) (l:Addr) (xs:List V):Prop where
 |mk (z:xs.length<=sizeLine) (its:List Value) (n:Nat) (r:Vals xs its) (q:xs.length=its.length) (e:h.get? l=some { cls:=.type "list",data:=.seq its.toArray n })
theorem Inv.lstM (I:Inv X pins σ H s) (hH:H l=some (.lst xs)):LstM s.heap l xs:=by
 obtain⟨z,its,n,r,e⟩:=I.hok l _ hH
 exact⟨z,its,n,r,r.length,e⟩
end
section
variable {X:Cx}
def X5:V->List V->Hp->VK->Prop:=fun x vs H Q=>∃ l xs y,x=.ref l/\vs=[y]/\H l=some (.lst xs)/\xs.length < sizeLine/\Q .non (upd H l (.lst (xs++[y])))
theorem V0:MtM X "list.append" X5:=by
 intro pins s σ H x vs v us Q I rx rv h
 obtain⟨l,xs,y,rfl,rfl,hH,hz,q⟩:=h
 cases rx
 obtain⟨u,rfl,ru⟩:=rv.one
 obtain⟨z,its,n,r,hl,e⟩:=I.lstM hH
 refine call_meets F.slot_list_append ⟨_,e,rfl⟩ F.entry_list_append (F.args_list_append_2 _ _) (PySem.list_append l its.toArray n u (by rw[Ats];lia)) ⟨e,?_⟩
 refine⟨.non,_,I.lset (its':=its++[u]) hH e (by simp) (r.append (.cons ru .nil)) ?_,rfl,q⟩
 rw[At8,Avg]
 lia
end
section
variable {prog:Program}{w:World}{A:Around}{E:Value->Shared->Prop}{s:Shared}
set_option maxRecDepth 100000 in
end
section
variable {X:Cx}
end
end L2
namespace Att
open PySem PySem.W PySem.Calls PyProof.Rows
theorem Hk {P:Params}{h:Heap}:∀ (ns:List Int) (vs:List Value),WellAll P h vs (ns.map WData.int)->IntsAre vs ns:=by
 intro ns
 induction ns with
 |nil =>
  intro vs w
  rw[Awb] at w
  cases w
  exact .nil
 |cons n ns ih =>
  intro vs w
  rw[Atz] at w
  cases w with
  |cons a b =>
   cases a
   exact .cons _ _ (ih _ b)
theorem Yc {l:OpenLaw}{n:Nat} (hn:l.most=some n) {P:Params}{h:Heap}{args:List WData}{vals:List Value}
  (hpre:l.row.toRowW.claim.pre args=true) (hwl:WellAll P h vals args) :
  ∃ a vs ns,vals=[Value.ref a]/\args=[WData.list (ns.map WData.int)]/\h.get? a=some { cls:=.type "list",data:=.seq vs.toArray }/\IntsAre vs ns/\ns.length<=n:=by
 have hsh:WShape.hasAll [] args [.list .int]=true:=(pre_splitW hpre).1
 have hc:l.pre.holds [] { args:=args }=true:=(pre_splitW hpre).2
 obtain⟨d,r,rfl,h1,h2⟩:=hasAllW_cons hsh
 obtain rfl:=hasAllW_nil h2
 obtain⟨xs,rfl,h3⟩:=hasW_list h1
 obtain⟨ns,rfl⟩:=items_int h3
 have hlen:ns.length<=n:=by
  unfold OpenLaw.pre at hc
  have h4:(WTm.not (.lt (.lit (.int (n:Int))) (.len (.arg 0)))).holds [] { args:=[.list (ns.map .int)] }=true:=by
   have h4:=(holds_andW hc).1
   rw[hn] at h4
   exact h4
  have h5:=condW_of h4 (w_not (w_lt w_lit (w_len_list (w_arg rfl))))
  rw[At1] at h5
  refine Nat.le_of_not_lt fun q=>?_
  have q':(n:Int) < ((ns.length:Nat):Int):=by lia
  first
   |(rw[Avl q'] at h5;exact absurd h5 (by decide))
   |(simp at h5;lia)
 cases hwl with
 |cons w1 w2 =>
  cases w2
  cases w1 with
  |list ho hall=>exact⟨_,_,ns,rfl,rfl,ho,Hk ns _ hall,hlen⟩
theorem Xp (l:OpenLaw) (args:List WData):l.row.toRowW.claim.post args (.bool true) args=true :=
 postW_of (r:=l.row.toRowW) (X:=(true == true))
  (show WShape.has [] (.bool true) .bool=true by first|rfl|decide|simp[WShape.has,WShape.arms,WShape.armsAll])
  (show (WTm.eq .res (.lit (.bool true))).value [] { args:=args,res:=some (.bool true),after:=args }=some (.bool (true == true)) from w_eq_bool (w_res rfl) w_lit) rfl
theorem attach_call {l:OpenLaw}{n:Nat}{q:Program}{loose:List Str}{XP:(Str->Option Value)->Heap->Prop}{YP:World->Heap->Prop}{d:DefRec}
  (hn:l.most=some n) (hdf:d.params.defaults=[])
  (call:∀ (w:World) (s₀ s₁:Shared) (mg mb:Str->Option Value) (fa:Addr) (o:Obj) (pm cd doc:Value) (a:Addr) (vs:List Value) (ns:List Int),
   Ground q loose [] XP w s₀ mg mb s₁.heap->YP w s₁.heap ->
   s₁.heap.get? fa=some o->o.data=.func (docDef d.name d.params d.body d.scope pm cd doc)->s₁.heap.CodeRec cd d.name->mg d.name=some (.ref fa) ->
   s₁.heap.get? a=some { cls:=.type "list",data:=.seq vs.toArray }->IntsAre vs ns->ns.length<=n->s₁.gens=#[] ->
   codeAny (model l.prog w) callerA (.call (.ref fa) ⟨[.ref a],[]⟩) (fun r s'=>r=.ok (.ret (.bool true))/\OldK s₁.heap s'.heap/\s'.os=s₁.os/\AllBare s'.gens) s₁) :
  WalkO q loose XP YP l.row.toRowW d [] (fun f vs=>PySem.call f vs):=by
 intro w s₀ s₁ mg mb G Y fa o pm cd doc dV kV ho hd hcd hD hmg hg args vals as hpre hlay hrd hwl hlo
 obtain rfl:dV=.none:=Dflts.none hD hdf
 obtain rfl:kV=.none:=Dflts.noKw hD
 obtain⟨a,vs,ns,rfl,rfl,hobj,hints,hlen⟩:=Yc hn hpre hwl
 refine enter_call (codeAny_mono (call w s₀ s₁ mg mb fa o pm cd doc a vs ns G Y ho (fd_plain hd) hcd hmg hobj hints hlen hg) fun r s' hq=>?_)
 obtain⟨rfl,h2,h3,h4⟩:=hq
 exact⟨.inl ⟨.bool true,.bool true,[],rfl,fun _=>rfl,.bool true,Xp l _,fun _=>⟨List.Pairwise.nil,fun _ hm=>(nomatch hm)⟩⟩,h2,h3,h4⟩
section
variable {prog:Program}{w:World}{A:Around}{E:Value->Shared->Prop}{s:Shared}{K:Frag}
end
end Att
namespace L2
open PySem PySem.Spec PyProof.Rows
theorem Nm:∀ {vs:List Value}{ns:List Int},IntsAre vs ns->Vals (ns.map V.int) vs
 |_,_,.nil=>.nil
 |_,_,.cons n t h=>.cons ⟨t,rfl⟩ (Nm h)
def Ary (H:Hp):Prop:=∀ b,H b=none\/∃ o xs,H b=some (.frz o (.lst xs))
noncomputable def Ck (s:Stmt):Arguments:=match s with
 |.FunctionDef _ a _ _ _ _ _ _ _ _=>a
 |_=>{ posonlyargs:=[],args:=[],vararg:=none,kwonlyargs:=[],kw_defaults:=[],kwarg:=none,defaults:=[] }
noncomputable def Bi (s:Stmt):List Stmt:=match s with
 |.FunctionDef _ _ b _ _ _ _ _ _ _=>b
 |_=>[]
noncomputable def Am (s:Stmt):Scope:=match s with
 |.FunctionDef _ _ _ _ _ _ sc _ _ _=>sc
 |_=>{ kind:=.function,names:=[],isGenerator:=false,isCoroutine:=false }
abbrev CX0:CXT:=fun _ _ _ _ _ _=>False
abbrev E0:XK:=fun _ _ _=>False
theorem Aaj {X:Cx}:Ma CX0 X E0:=fun _ _ _ _ _ _ _ h=>h.elim
structure Fun (K:W.Frag) (x qual:Str) (st:Stmt) (f:Addr) (fd:FuncData):Prop where
 ex:∃ (oc:Value) (od:Option Addr) (kV doc pm:Value) (an:Option Addr) (cdv ct:Value) (osl:Array (Option Value)),
  fd=W.fnOf x qual (Ck st) (Bi st) (Am st) .none kV doc pm an cdv ct/\K.lookup f=some ⟨oc,od,.func fd,osl⟩/\W.codeIn K cdv qual=true
 kp:W.keepIn K (.ref f)=true
section
variable {P:Program}{w:World}{K:W.Frag}{mg:Str->Option Value}{base:Heap}
theorem Fun.ok {x qual:Str}{st:Stmt}{f:Addr}{fd:FuncData}{N ps:List Str}{k:Nat}{sp:Sp} (F:Fun K x qual st f fd) (S:FnScope N ps (Am st)) (len:∀ vs H Q E,sp vs H Q E->vs.length=ps.length)
  (hbody:∀ (cdv:Value) (A:Around) (outer:List Env) (s:Shared) (H:Hp) (vs:List V) (Q:VK) (E:XK),Room k (A.deeper (envOfC qual (Am st) s.heap.objs.size f cdv))->sp vs H Q E ->
   ∃ t,PSs (N7 CX0 P w K mg base N qual (Am st) f cdv A outer s H E).nox (Bi st) t/\t { nx:=fun _ H'=>Q .non H',rt:=Q } (E2 N vs) H):FnOk P w K mg base CX0 (k+1) f fd ps sp:=by
 obtain⟨oc,od,kV,doc,pm,an,cdv,ct,osl,rfl,lk,hcd⟩:=F.ex
 refine Aj2 lk hcd S len fun A outer s H vs Q E hr hsp=>?_
 obtain⟨t,h,q⟩:=hbody cdv A outer s H vs Q E hr hsp
 exact⟨t,h.nox,q⟩
theorem Fun.binds {x qual:Str}{st:Stmt}{f:Addr}{fd:FuncData}{ps:List Str} (F:Fun K x qual st f fd)
  (h:∀ (kV doc pm:Value) (an:Option Addr) (cdv ct:Value) (us:List Value),us.length=ps.length->bindArgs (W.fnOf x qual (Ck st) (Bi st) (Am st) .none kV doc pm an cdv ct) ⟨us,[]⟩=pure (ps.zip us)):Binds K fd ps []:=by
 obtain⟨oc,od,kV,doc,pm,an,cdv,ct,osl,rfl,lk,hcd⟩:=F.ex
 exact .all (h kV doc pm an cdv ct)
theorem Gm {x qual:Str}{st:Stmt}{f:Addr}{oc:Value}{od an:Option Addr}{osl:Array (Option Value)}{kV doc pm cdv ct:Value} (l:K.lookup f=some ⟨oc,od,.func (W.fnOf x qual (Ck st) (Bi st) (Am st) .none kV doc pm an cdv ct),osl⟩)
  (c:W.codeIn K cdv qual=true) (k:W.keepIn K (.ref f)=true):Fun K x qual st f (W.fnOf x qual (Ck st) (Bi st) (Am st) .none kV doc pm an cdv ct):=⟨⟨oc,od,kV,doc,pm,an,cdv,ct,osl,rfl,l,c⟩,k⟩
end
section
variable {X:Cx}
end
theorem Ap0 {A B:Prop} (h:B):if false=true then A else B:=by
 rw[Atl At5]
 exact h
theorem Ap1 {A B:Prop} (h:A):if true=true then A else B:=by
 rw[Atq rfl]
 exact h
def Same (H H':Hp):Prop:=∀ b o,H b=some o->H' b=some o
theorem Same.refl (H:Hp):Same H H:=fun _ _ h=>h
theorem Same.trans {H H1 H2:Hp} (a:Same H H1) (b:Same H1 H2):Same H H2:=fun c o h=>b c o (a c o h)
theorem Same.free {H H':Hp} (e:Same H H') {l:Addr} (h:H' l=Option.none):H l=Option.none:=by
 cases q:H l with
 |none=>rfl
 |some o =>
  rw[e l o q] at h
  cases h
end L2
end S_LayL
section S_ML1
namespace L2
namespace ML
open PySem PySem.Spec PyProof.Rows
theorem Ac {z:α}{P:Prop} (e:none=some z):P:=nomatch e
theorem C4 {P:Prop} (e:false=true):P:=nomatch e
structure Lam where
 qual:Str
 args:Arguments
 body:Expr
 scope:Scope
inductive D where
 |non|bl (b:Bool)|int (i:Int)|str (x:Str)|tup (ds:List D)|lst (ds:List D)|ref (n:Nat)|kl (ds:List D)|dic (ks vs:List D)|fn (i:Nat) (l:Lam)
inductive MObj where
 |lst (ds:List D)
 |dct (ks vs:List D)
abbrev MH:=List MObj
abbrev Ax:=List (Option D)
mutual
def pyD:D->PyData
 |.non=>.none|.bl b=>.bool b|.int i=>.int i|.str x=>.str x
 |.tup ds=>.tuple (Bu ds)|.lst ds=>.list (Bu ds)|.kl ds=>.list (Bu ds)|.ref _=>.none|.dic _ _=>.none|.fn _ _=>.none
def Bu:List D->List PyData
 |[]=>[]
 |d::ds=>pyD d::Bu ds
end
def KL (K:W.Frag) (H:Hp) (a:Addr) (xs:List V):Prop:=(∃ o,H a=some (.frz o (.lst xs))) \/
 ∃ (o:Obj) (its:Array Value) (n:Nat),K.lookup a=some o/\o.cls=.type "list"/\o.dict=none/\o.data=.seq its n/\its.size<=sizeLine/\Vals xs its.toList
theorem KL.sq {K:W.Frag}{H:Hp}{a:Addr}{xs:List V} (h:KL K H a xs):SqL K H a xs:=h.elim (fun z=>.inl (.inr z)) .inr
noncomputable def Lk:HO->Prop
 |.lst _=>True
 |.dT _=>True
 |_=>False
noncomputable def Kpt:HO->Prop
 |.tup _=>True
 |.frz _ _=>True
 |_=>False
def An2 (o:Obj) (l:Lam) (c:Addr):Prop:=∃ doc pm ctv:Value,o=W.kdv_obj "<lambda>" l.qual l.args (.expr l.body) l.scope [] .none doc pm c ctv
def FnAt (H:Hp) (a:Addr) (l:Lam):Prop:=∃ o u c oc u',H a=some (.frz o u)/\An2 o l c/\H c=some (.frz oc u')/\Ub oc l.qual
def FnK (K:W.Frag) (H:Hp) (a:Addr) (i:Nat) (l:Lam):Prop:=(i < 1000/\FnAt H a l)\/(1000<=i/\W.nsIn K mainGlobals l.qual=some (some (.ref a)))
mutual
inductive Rep (K:W.Frag) (H:Hp) (μ:List Addr) (B:Addr->Prop):D->V->Prop where
 |non:Rep K H μ B .non .non
 |bl (b:Bool):Rep K H μ B (.bl b) (.bl b)
 |int (i:Int):Rep K H μ B (.int i) (.int i)
 |str (x:Str):PyData.strOk x=true->Rep K H μ B (.str x) (.str x)
 |tup {ds:List D}{a:Addr}{xs:List V}:SqT K H a xs->Reps K H μ B ds xs->Rep K H μ B (.tup ds) (.ref a)
 |lst {ds:List D}{a:Addr}{xs:List V}:Rd H a (.lst xs)->¬ B a->Reps K H μ B ds xs->Rep K H μ B (.lst ds) (.ref a)
 |ref {n:Nat}{a:Addr}:μ[n]?=some a->Rep K H μ B (.ref n) (.ref a)
 |kl {ds:List D}{a:Addr}{xs:List V}:KL K H a xs->Reps K H μ B ds xs->Rep K H μ B (.kl ds) (.ref a)
 |dic {ks vs:List D}{a:Addr}{kvs:List (PyData×V)}:Rd H a (.dT kvs)->¬ B a->Bu ks=kvs.map (·.1)->Reps K H μ B vs (kvs.map (·.2))->Rep K H μ B (.dic ks vs) (.ref a)
 |fn {i:Nat}{l:Lam}{a:Addr}:FnK K H a i l->Rep K H μ B (.fn i l) (.ref a)
inductive Reps (K:W.Frag) (H:Hp) (μ:List Addr) (B:Addr->Prop):List D->List V->Prop where
 |nil:Reps K H μ B [] []
 |cons {d:D}{v:V}{ds:List D}{vs:List V}:Rep K H μ B d v->Reps K H μ B ds vs->Reps K H μ B (d::ds) (v::vs)
end
section
variable {K:W.Frag}{H H':Hp}{μ μ':List Addr}{B B':Addr->Prop}
theorem SqT.up (hk:∀ a o,Kpt o->H a=some o->H' a=some o) (h:SqT K H a xs):SqT K H' a xs:=by
 rcases h with (h|⟨o,h⟩)|h
 ·exact .inl (.inl (hk _ _ trivial h))
 ·exact .inl (.inr ⟨o,hk _ _ trivial h⟩)
 ·exact .inr h
theorem FnAt.up (hk:∀ a o,Kpt o->H a=some o->H' a=some o) {l:Lam} (h:FnAt H a l):FnAt H' a l :=
 let ⟨o,u,c,oc,u',h1,h2,h3,h4⟩:=h;⟨o,u,c,oc,u',hk _ _ trivial h1,h2,hk _ _ trivial h3,h4⟩
theorem FnK.up (hk:∀ a o,Kpt o->H a=some o->H' a=some o) {l:Lam} (h:FnK K H a i l):FnK K H' a i l:=h.imp (fun⟨h1,h2⟩=>⟨h1,h2.up hk⟩) id
theorem KL.up (hk:∀ a o,Kpt o->H a=some o->H' a=some o) (h:KL K H a xs):KL K H' a xs:=by
 rcases h with ⟨o,h⟩|h
 ·exact .inl ⟨o,hk _ _ trivial h⟩
 ·exact .inr h
mutual
theorem Rep.up (hk:∀ a o,Kpt o->H a=some o->H' a=some o) (hl:∀ a u,Lk u->Rd H a u->¬ B a->Rd H' a u/\¬ B' a) (hm:∀ (n:Nat) (a:Addr),μ[n]?=some a->μ'[n]?=some a)
  {d:D}{v:V} (r:Rep K H μ B d v):Rep K H' μ' B' d v:=by
 cases r with
 |non=>exact .non
 |bl b=>exact .bl b
 |int b=>exact .int b
 |str b h=>exact .str b h
 |tup h r=>exact .tup (SqT.up hk h) (Reps.up hk hl hm r)
 |lst h b r=>have z:=hl _ (.lst _) trivial h b;exact .lst z.1 z.2 (Reps.up hk hl hm r)
 |ref h=>exact .ref (hm _ _ h)
 |kl h r=>exact .kl (KL.up hk h) (Reps.up hk hl hm r)
 |dic h b e r=>have z:=hl _ (.dT _) trivial h b;exact .dic z.1 z.2 e (Reps.up hk hl hm r)
 |fn h=>exact .fn (h.up hk)
theorem Reps.up (hk:∀ a o,Kpt o->H a=some o->H' a=some o) (hl:∀ a u,Lk u->Rd H a u->¬ B a->Rd H' a u/\¬ B' a) (hm:∀ (n:Nat) (a:Addr),μ[n]?=some a->μ'[n]?=some a)
  {ds:List D}{vs:List V} (r:Reps K H μ B ds vs):Reps K H' μ' B' ds vs:=by
 cases r with
 |nil=>exact .nil
 |cons h r=>exact .cons (Rep.up hk hl hm h) (Reps.up hk hl hm r)
end
theorem Same.rd (e:Same H H') (h:Rd H a u):Rd H' a u:=by
 rcases h with h|⟨o,h⟩
 ·exact .inl (e _ _ h)
 ·exact .inr ⟨o,e _ _ h⟩
theorem Rep.same (e:Same H H') {d:D}{v:V} (h:Rep K H μ B d v):Rep K H' μ B d v:=h.up (fun _ _ _ h=>e _ _ h) (fun _ _ _ h b=>⟨Same.rd e h,b⟩) fun _ _ h=>h
theorem Reps.same (e:Same H H') {d:List D}{v:List V} (h:Reps K H μ B d v):Reps K H' μ B d v:=h.up (fun _ _ _ h=>e _ _ h) (fun _ _ _ h b=>⟨Same.rd e h,b⟩) fun _ _ h=>h
theorem Reps.length:∀ {ds:List D}{vs:List V},Reps K H μ B ds vs->ds.length=vs.length
 |_,_,.nil=>rfl
 |_,_,.cons _ r=>by simp[Reps.length r]
theorem Reps.get:∀ {ds:List D}{vs:List V}{i:Nat}{d:D},Reps K H μ B ds vs->ds[i]?=some d->∃ v,vs[i]?=some v/\Rep K H μ B d v
 |_,_,_,_,.nil,e=>by simp at e
 |_,_,0,_,.cons h _,e=>by simp at e;subst e;exact⟨_,rfl,h⟩
 |_,_,i+1,d,.cons _ r,e=>by
  obtain⟨v,h1,h2⟩:=Reps.get (i:=i) (d:=d) r (by simpa using e)
  exact⟨v,by simpa using h1,h2⟩
theorem Reps.append:∀ {ds es:List D}{vs ws:List V},Reps K H μ B ds vs->Reps K H μ B es ws->Reps K H μ B (ds++es) (vs++ws)
 |_,_,_,_,.nil,s=>s
 |_,_,_,_,.cons h r,s=>.cons h (Reps.append r s)
theorem Reps.take:∀ {ds:List D}{vs:List V} (n:Nat),Reps K H μ B ds vs->Reps K H μ B (ds.take n) (vs.take n)
 |_,_,0,_=>.nil
 |_,_,_+1,.nil=>.nil
 |_,_,n+1,.cons h r=>.cons h (Reps.take n r)
theorem Reps.drop:∀ {ds:List D}{vs:List V} (n:Nat),Reps K H μ B ds vs->Reps K H μ B (ds.drop n) (vs.drop n)
 |_,_,0,h=>h
 |_,_,_+1,.nil=>.nil
 |_,_,n+1,.cons h r=>Reps.drop n r
theorem Reps.set {d:D} (h:Rep K H μ B d v):∀ {ds:List D}{vs:List V} (i:Nat),Reps K H μ B ds vs->Reps K H μ B (ds.set i d) (vs.set i v)
 |_,_,_,.nil=>.nil
 |_,_,0,.cons _ r=>.cons h r
 |_,_,i+1,.cons q r=>.cons q (Reps.set h i r)
theorem Reps.reverse:∀ {ds:List D}{vs:List V},Reps K H μ B ds vs->Reps K H μ B ds.reverse vs.reverse
 |_,_,.nil=>.nil
 |_,_,.cons h r=>by
  rw[Awc,Awc]
  exact (Reps.reverse r).append (.cons h .nil)
end
noncomputable def OR (K:W.Frag) (H:Hp) (μ:List Addr) (a:Addr):MObj->Prop
 |.lst ds=>∃ xs,H a=some (.lst xs)/\Reps K H μ (·∈μ) ds xs
 |.dct ks vs=>∃ kvs,H a=some (.dT kvs)/\Bu ks=kvs.map (·.1)/\Reps K H μ (·∈μ) vs (kvs.map (·.2))
structure Sim (K:W.Frag) (H:Hp) (μ:List Addr) (m:MH):Prop where
 nd:μ.Nodup
 len:μ.length=m.length
 obj:∀ (n:Nat) (a:Addr) (o:MObj),μ[n]?=some a->m[n]?=some o->OR K H μ a o
structure Step (H:Hp) (μ:List Addr) (H':Hp) (μ':List Addr):Prop where
 pre:∃ l,μ'=μ++l/\∀ b∈l,H b=none
 keep:∀ b o,H b=some o->b∉μ->H' b=some o
structure EnvRep (K:W.Frag) (H:Hp) (μ:List Addr) (σ:St) (env:Ax):Prop where
 len:σ.length=env.length
 get:∀ (i:Nat) (d:D),env[i]?=some (some d)->∃ v,σ[i]?=some (some v)/\Rep K H μ (·∈μ) d v
section
variable {K:W.Frag}{H H' H'':Hp}{μ μ' μ'':List Addr}{m m':MH}
theorem Sim.at (S:Sim K H μ m) (h:a∈μ):∃ (n:Nat) (o:MObj),μ[n]?=some a/\m[n]?=some o/\OR K H μ a o:=by
 obtain⟨n,hn⟩:=Avj h
 have hl:n < m.length:=by rw[<- S.len];exact (List.getElem?_eq_some_iff.mp hn).1
 exact⟨n,m[n],hn,by simp[hl],S.obj n a _ hn (by simp[hl])⟩
theorem Sim.trk (S:Sim K H μ m) (h:a∈μ):∃ o,H a=some o/\Lk o:=by
 obtain⟨n,o,_,_,q⟩:=S.at h
 cases o with
 |lst ds=>obtain⟨xs,e,_⟩:=q;exact⟨_,e,trivial⟩
 |dct ks vs=>obtain⟨kvs,e,_⟩:=q;exact⟨_,e,trivial⟩
theorem Sim.nkpt (S:Sim K H μ m) (k:Kpt o) (h:H a=some o):a∉μ:=fun q=>by
 obtain⟨xs,e,l⟩:=S.trk q
 rw[e] at h
 cases h
 cases o<;>first|exact l|exact k
theorem Sim.nnone (S:Sim K H μ m) (h:H a=none):a∉μ:=fun q=>by
 obtain⟨xs,e,l⟩:=S.trk q
 rw[e] at h;cases h
theorem Step.refl:Step H μ H μ:=⟨⟨[],by simp,by simp⟩,fun _ _ h _=>h⟩
theorem Step.trans (a:Step H μ H' μ') (b:Step H' μ' H'' μ'') (hm:∀ c,H' c=none->H c=none):Step H μ H'' μ'':=by
 obtain⟨l,rfl,h1⟩:=a.pre
 obtain⟨l',rfl,h2⟩:=b.pre
 refine⟨⟨l++l',by simp,fun c hc=>?_⟩,fun c o e n=>?_⟩
 ·rcases List.mem_append.mp hc with z|z
  ·exact h1 c z
  ·exact hm c (h2 c z)
 ·refine b.keep c o (a.keep c o e n) fun z=>?_
  rcases List.mem_append.mp z with z|z
  ·exact n z
  ·rw[h1 c z] at e;cases e
theorem Step.none (S:Sim K H μ m) (S':Sim K H' μ' m') (a:Step H μ H' μ'):∀ c,H' c=none->H c=none:=fun c h=>by
 cases e:H c with
 |none=>rfl
 |some o =>
  by_cases q:c∈μ
  ·obtain⟨l,rfl,_⟩:=a.pre
   exact absurd (Aue _ q) (S'.nnone h)
  ·rw[a.keep c o e q] at h;cases h
theorem Step.of_same (e:Same H H'):Step H μ H' μ:=⟨⟨[],by simp,by simp⟩,fun b o h _=>e b o h⟩
theorem Step.rd (s:Step H μ H' μ') (h:Rd H a u) (n:a∉μ):Rd H' a u:=by
 rcases h with h|⟨o,h⟩
 ·exact .inl (s.keep _ _ h n)
 ·exact .inr ⟨o,s.keep _ _ h n⟩
theorem Step.nin (s:Step H μ H' μ') (h:Rd H a u) (n:a∉μ):a∉μ':=by
 obtain⟨l,rfl,hn⟩:=s.pre
 intro z
 rcases List.mem_append.mp z with z|z
 ·exact n z
 ·have:=hn a z
  rcases h with h|⟨o,h⟩<;>rw[this] at h<;>cases h
theorem Step.ix (s:Step H μ H' μ') {n:Nat}{a:Addr} (h:μ[n]?=some a):μ'[n]?=some a:=by
 obtain⟨l,rfl,_⟩:=s.pre
 rw[At4 (List.getElem?_eq_some_iff.mp h).1]
 exact h
theorem Rep.step (S:Sim K H μ m) (s:Step H μ H' μ') {d:D}{v:V} (h:Rep K H μ (·∈μ) d v):Rep K H' μ' (·∈μ') d v :=
 h.up (fun a o k q=>s.keep a o q (S.nkpt k q)) (fun _ _ _ q b=>⟨s.rd q b,s.nin q b⟩) fun _ _=>s.ix
theorem Reps.step (S:Sim K H μ m) (s:Step H μ H' μ') {d:List D}{v:List V} (h:Reps K H μ (·∈μ) d v):Reps K H' μ' (·∈μ') d v :=
 h.up (fun a o k q=>s.keep a o q (S.nkpt k q)) (fun _ _ _ q b=>⟨s.rd q b,s.nin q b⟩) fun _ _=>s.ix
theorem EnvRep.step (S:Sim K H μ m) (s:Step H μ H' μ') (h:EnvRep K H μ σ env):EnvRep K H' μ' σ env :=
 ⟨h.len,fun i d e=>let ⟨v,h1,h2⟩:=h.get i d e;⟨v,h1,h2.step S s⟩⟩
theorem Sim.same (S:Sim K H μ m) (e:Same H H'):Sim K H' μ m:=⟨S.nd,S.len,fun n a o h1 h2=>by
 have q:=S.obj n a o h1 h2
 cases o with
 |lst ds=>obtain⟨xs,q1,q2⟩:=q;exact⟨xs,e _ _ q1,q2.same e⟩
 |dct ks vs=>obtain⟨xs,q1,q2,q3⟩:=q;exact⟨xs,e _ _ q1,q2,q3.same e⟩⟩
theorem EnvRep.same (e:Same H H') {σ:St}{env:Ax} (h:EnvRep K H μ σ env):EnvRep K H' μ σ env :=
 ⟨h.len,fun i d q=>let ⟨v,h1,h2⟩:=h.get i d q;⟨v,h1,h2.same e⟩⟩
theorem EnvRep.set (h:EnvRep K H μ σ env) (i:Nat) {d:D} (r:Rep K H μ (·∈μ) d v):EnvRep K H μ (σ.set i (some v)) (env.set i (some d)):=by
 refine⟨by simpa using h.len,fun j d' e=>?_⟩
 by_cases q:j=i
 ·subst q
  have hj:j < env.length:=by
   have:=(List.getElem?_eq_some_iff.mp e).1
   simpa using this
  rw[Au1 hj] at e
  cases e
  exact⟨v,by rw[Au1 (by rw[h.len];exact hj)],r⟩
 ·rw[Avi (Avr q)] at e ⊢
  exact h.get j d' e
end
abbrev FE:=Ax->MH->Option D
abbrev FL:=Ax->MH->Option (List D)
abbrev FB:=Ax->MH->Option Bool
inductive tE (K:W.Frag) (f:FE) (σ:St) (H:Hp) (Q:VK):Prop
 |mk (env:Ax) (μ:List Addr) (m:MH) (d:D) (S:Sim K H μ m) (E:EnvRep K H μ σ env) (h:f env m=some d) (q:∀ v H',Same H H'->Rep K H' μ (·∈μ) d v->Q v H')
def nw (μ:List Addr) (a:Addr):Addr->Prop:=fun b=>b∈μ\/b=a
inductive tF (K:W.Frag) (f:FL) (σ:St) (H:Hp) (Q:VK):Prop
 |mk (env:Ax) (μ:List Addr) (m:MH) (ds:List D) (S:Sim K H μ m) (E:EnvRep K H μ σ env) (h:f env m=some ds) (q:∀ a xs H',Same H H'->H a=none->H' a=some (.lst xs)->Reps K H' μ (nw μ a) ds xs->Q (.ref a) H')
inductive tB' (K:W.Frag) (f:FB) (σ:St) (H:Hp) (Q:Bool->Hp->Prop):Prop
 |mk (env:Ax) (μ:List Addr) (m:MH) (b:Bool) (S:Sim K H μ m) (E:EnvRep K H μ σ env) (h:f env m=some b) (q:∀ H',Same H H'->Q b H')
inductive tL (K:W.Frag) (f:FL) (σ:St) (H:Hp) (Q:List V->Hp->Prop):Prop
 |mk (env:Ax) (μ:List Addr) (m:MH) (ds:List D) (S:Sim K H μ m) (E:EnvRep K H μ σ env) (h:f env m=some ds) (q:∀ vs H',Same H H'->Reps K H' μ (·∈μ) ds vs->Q vs H')
abbrev PD (X:Cx) (e:Expr) (f:FE):Prop:=PE X e (tE X.K f)
abbrev PF (X:Cx) (e:Expr) (f:FL):Prop:=PE X e (tF X.K f)
abbrev PB (X:Cx) (e:Expr) (f:FB):Prop:=PT X e (tB' X.K f)
abbrev PL (X:Cx) (es:List Expr) (f:FL):Prop:=PA X es (tL X.K f)
theorem Reps.fresh {K:W.Frag}{H:Hp}{μ:List Addr}{p:Addr}{o:HO}{ds:List D}{vs:List V} (r:Reps K H μ (·∈μ) ds vs) (hp:H p=none):Reps K (upd H p o) μ (nw μ p) ds vs:=by
 have s:Same H (upd H p o):=fun b u e=>by rw[An (Ao e hp)];exact e
 refine r.up (fun _ _ _ h=>s _ _ h) (fun a u _ h b=>⟨Same.rd s h,fun z=>?_⟩) fun _ _ h=>h
 rcases z with z|z
 ·exact b z
 ·subst z
  rcases h with h|⟨o,h⟩
  ·exact nomatch (hp.symm.trans h)
  ·exact nomatch (hp.symm.trans h)
theorem Reps.unw {K:W.Frag}{H:Hp}{μ:List Addr}{p:Addr}{ds:List D}{vs:List V} (r:Reps K H μ (nw μ p) ds vs):Reps K H μ (·∈μ) ds vs :=
 r.up (fun _ _ _ h=>h) (fun _ _ _ h b=>⟨h,fun z=>b (.inl z)⟩) fun _ _ h=>h
theorem PE.imp {t t':TE} (h:PE X e t) (i:∀ σ H Q,t' σ H Q->t σ H Q):PE X e t':=fun pins s σ H Q I q=>h pins s σ H Q I (i σ H Q q)
theorem PT.imp {t t':TT} (h:PT X e t) (i:∀ σ H Q,t' σ H Q->t σ H Q):PT X e t':=fun pins s σ H Q I q=>h pins s σ H Q I (i σ H Q q)
theorem PA.imp {t t':TA} (h:PA X e t) (i:∀ σ H Q,t' σ H Q->t σ H Q):PA X e t':=fun pos pins s σ H Q I q=>h pos pins s σ H Q I (i σ H Q q)
inductive BS {α β:Type} (o:Option α) (f:α->Option β) (b:β):Prop where
 |mk (a:α) (h1:o=some a) (h2:f a=some b)
theorem bind_some {α β:Type}{o:Option α}{f:α->Option β}{b:β} (h:o.bind f=some b):BS o f b:=by
 cases o with
 |none=>cases h
 |some a=>exact⟨a,rfl,h⟩
section
variable {X:Cx}{a b c e:Expr}{es:List Expr}{pos:Pos}
theorem tE.bin {K:W.Frag}{f g:FE}{o:D->D->MH->Option D}{σ:St}{H:Hp}{Q:VK} (h:tE K (fun env m=>(f env m).bind fun x=>(g env m).bind fun y=>o x y m) σ H Q)
  (r:R2) (hr:∀ μ m x y z v u H' (Q:VK),Sim K H' μ m->Rep K H' μ (·∈μ) x v->Rep K H' μ (·∈μ) y u->o x y m=some z->(∀ w H2,Same H' H2->Rep K H2 μ (·∈μ) z w->Q w H2)->r v u H' Q) :
  tOp r (tE K f) (tE K g) σ H Q:=by
 obtain⟨env,μ,m,d,S,E,h,q⟩:=h
 obtain⟨x,hx,h⟩:=bind_some h
 obtain⟨y,hy,h⟩:=bind_some h
 refine⟨env,μ,m,x,S,E,hx,fun v H1 s1 r1=>⟨env,μ,m,y,S.same s1,E.same s1,hy,fun u H2 s2 r2=>?_⟩⟩
 exact hr μ m x y d v u H2 Q (S.same (s1.trans s2)) (r1.same s2) r2 h fun w H3 s3 r3=>q w H3 ((s1.trans s2).trans s3) r3
noncomputable def Ad (i:Nat):FE:=fun env _=>(env[i]?).bind id
theorem Acy (i:Nat) {pos:Pos} (hN:X.N[i]?=some x) (hv:Vis X.env.scope x) (hd:(x == ("__debug__":Str))=false) (hcd:(x == ("__classdict__":Str))=false):PD X (.Name x pos) (Ad i) :=
 PE.imp (Acz hN hv hd hcd) fun σ H Q ⟨env,μ,m,d,S,E,h,q⟩=>by
  unfold Ad at h
  obtain⟨o,h1,h2⟩:=bind_some h
  have h2:o=some d:=h2
  subst h2
  obtain⟨v,e,r⟩:=E.get i d h1
  exact⟨v,e,q v H (Same.refl H) r⟩
noncomputable def fC (d:D):FE:=fun _ _=>some d
theorem Alv {i j pos}:PD X (.Constant (.int i) j pos) (fC (.int i)):=PE.imp Al4 fun σ H Q ⟨env,μ,m,d,S,E,h,q⟩=>by cases h;exact q _ H (Same.refl H) (.int i)
theorem Aqc {i j pos}:PD X (.Constant (.bool i) j pos) (fC (.bl i)):=PE.imp Aqh fun σ H Q ⟨env,μ,m,d,S,E,h,q⟩=>by cases h;exact q _ H (Same.refl H) (.bl i)
theorem Aly {j pos}:PD X (.Constant .none j pos) (fC .non):=PE.imp Xl fun σ H Q ⟨env,μ,m,d,S,E,h,q⟩=>by cases h;exact q _ H (Same.refl H) .non
theorem Al1 {i j pos} (ok:PyData.strOk i=true):PD X (.Constant (.str i) j pos) (fC (.str i)):=PE.imp Al8 fun σ H Q ⟨env,μ,m,d,S,E,h,q⟩=>by cases h;exact q _ H (Same.refl H) (.str i ok)
noncomputable def oI (g:Int->Int->Option D):D->D->MH->Option D
 |.int i,.int j,_=>g i j
 |_,_,_=>none
noncomputable def C5:D->D->MH->Option D
 |.int i,.int j,_=>some (.int (i+j))
 |.str i,.str j,_=>if i.length+j.length<=1000000 then some (.str (i++j)) else none
 |.tup i,.tup j,_=>if i.length+j.length<=1000000 then some (.tup (i++j)) else none
 |_,_,_=>none
def Akw:D->D->MH->Option D:=oI fun i j=>some (.int (i - j))
def Y6:D->D->MH->Option D:=oI fun i j=>if (-(2 ^ 64) < i/\i < 2 ^ 64)\/(-(2 ^ 64) < j/\j < 2 ^ 64) then some (.int (i * j)) else none
def Afg:D->D->MH->Option D:=oI fun i j=>if 0 < j/\j < 1073741824 then some (.int (i / j)) else none
def M4:D->D->MH->Option D:=oI fun i j=>if 0 < j then some (.int (i % j)) else none
def Ah2:D->D->MH->Option D:=oI fun i j=>if 0<=j/\j<=1000000/\i.natAbs < 2 ^ 64 then some (.int (i ^ j.toNat)) else none
def Anz:D->D->MH->Option D:=oI fun i j=>if 0<=j then some (.int (i / 2 ^ j.toNat)) else none
noncomputable def f2 (o:D->D->MH->Option D) (f g:FE):FE:=fun env m=>(f env m).bind fun x=>(g env m).bind fun y=>o x y m
noncomputable def f1 (o:D->MH->Option D) (f:FE):FE:=fun env m=>(f env m).bind fun x=>o x m
def OpD (X:Cx) (o:D->D->MH->Option D) (r:R2):Prop :=
 ∀ (μ:List Addr) (m:MH) (x y z:D) (v u:V) (H:Hp) (Q:VK),Sim X.K H μ m->Rep X.K H μ (·∈μ) x v->Rep X.K H μ (·∈μ) y u->o x y m=some z->(∀ w H2,Same H H2->Rep X.K H2 μ (·∈μ) z w->Q w H2)->r v u H Q
set_option tactic.hygienic true in
theorem OpD.int {C:Int->Int->Prop}{g:Int->Int->V}{k:Int->Int->Option D} (h:∀ i j z,k i j=some z->C i j/\∀ H μ B,Rep X.K H μ B z (g i j)):OpD X (oI k) (rI C g):=by
 intro μ m x y z v u H Q S rx ry e q
 cases rx<;>first|exact Ac e|skip
 cases ry<;>first|exact Ac e|skip
 rename_i i j
 obtain⟨hc,hr⟩:=h i j z e
 exact⟨i,j,rfl,rfl,hc,q _ H (Same.refl H) (hr H μ _)⟩
set_option tactic.hygienic true in
theorem OpD.int0 (h:∀ i j z,k i j=some z->∀ H μ B,Rep X.K H μ B z (g i j)):OpD X (oI k) (rI0 g):=by
 intro μ m x y z v u H Q S rx ry e q
 cases rx<;>first|exact Ac e|skip
 cases ry<;>first|exact Ac e|skip
 rename_i i j
 exact⟨i,j,rfl,rfl,q _ H (Same.refl H) (h i j z e H μ _)⟩
theorem Afu:OpD X Akw (rI0 fun i j=>.int (i - j)):=OpD.int0 fun i j z e H μ B=>by cases e;exact .int _
theorem Afr:OpD X Y6 (rI CMul fun i j=>.int (i * j)):=OpD.int fun i j z e=>by
 split at e
 ·cases e;exact⟨by assumption,fun _ _ _=>.int _⟩
 ·cases e
theorem Afp:OpD X Afg (rI Aq8 fun i j=>.int (i / j)):=OpD.int fun i j z e=>by
 split at e
 ·cases e;exact⟨by assumption,fun _ _ _=>.int _⟩
 ·cases e
theorem Afq:OpD X M4 (rI (fun _ j=>0 < j) fun i j=>.int (i % j)):=OpD.int fun i j z e=>by
 split at e
 ·cases e;exact⟨by assumption,fun _ _ _=>.int _⟩
 ·cases e
theorem Afs:OpD X Ah2 (rI Aq9 fun i j=>.int (i ^ j.toNat)):=OpD.int fun i j z e=>by
 split at e
 ·cases e;exact⟨by assumption,fun _ _ _=>.int _⟩
 ·cases e
theorem Aft:OpD X Anz (rI (fun _ j=>0<=j) fun i j=>.int (i / 2 ^ j.toNat)):=OpD.int fun i j z e=>by
 split at e
 ·cases e;exact⟨by assumption,fun _ _ _=>.int _⟩
 ·cases e
end
mutual
def B3:D->Bool
 |.ref _=>false
 |.tup ds=>A7 ds
 |.lst ds=>A7 ds
 |.kl ds=>A7 ds
 |.dic _ _=>false
 |.fn _ _=>false
 |_=>true
def A7:List D->Bool
 |[]=>true
 |d::ds=>B3 d&&A7 ds
def dep:D->Nat
 |.tup ds=>D8 ds+1
 |.lst ds=>D8 ds+1
 |.kl ds=>D8 ds+1
 |_=>0
def D8:List D->Nat
 |[]=>0
 |d::ds=>max (dep d) (D8 ds)
end
noncomputable def C8 (m:MH):D->Option D
 |.ref n=>match m[n]? with
  |some (.lst ds)=>if A7 ds=true then some (.lst ds) else none
  |_=>none
 |d=>if B3 d=true then some d else none
def B6 (m:MH):List D->Option (List D)
 |[]=>some []
 |d::ds=>(C8 m d).bind fun d'=>(B6 m ds).bind fun ds'=>some (d'::ds')
noncomputable def sq (m:MH):D->Option (List D)
 |.tup ds=>some ds
 |.lst ds=>some ds
 |.kl ds=>some ds
 |.ref n=>match m[n]? with
  |some (.lst ds)=>some ds
  |_=>none
 |_=>none
section
variable {K:W.Frag}{H H':Hp}{μ μ':List Addr}{B B':Addr->Prop}{m:MH}
mutual
theorem Rep.noref (hk:∀ a u,Rd H a (.lst u)->¬ B a->¬ B' a) {d:D}{v:V} (r:Rep K H μ B d v) (e:B3 d=true):Rep K H μ' B' d v:=by
 cases r with
 |non=>exact .non
 |bl b=>exact .bl b
 |int b=>exact .int b
 |str b h=>exact .str b h
 |tup h r=>exact .tup h (Reps.noref hk r e)
 |lst h b r=>exact .lst h (hk _ _ h b) (Reps.noref hk r e)
 |kl h r=>exact .kl h (Reps.noref hk r e)
 |_=>exact C4 e
theorem Reps.noref (hk:∀ a u,Rd H a (.lst u)->¬ B a->¬ B' a) {ds:List D}{vs:List V} (r:Reps K H μ B ds vs) (e:A7 ds=true):Reps K H μ' B' ds vs:=by
 cases r with
 |nil=>exact .nil
 |cons h r =>
  have e':=(Bool.and_eq_true_iff.mp e)
  exact .cons (Rep.noref hk h e'.1) (Reps.noref hk r e'.2)
end
theorem Bk (S:Sim K H μ m) {d d':D} (r:Rep K H μ (·∈μ) d v) (h:C8 m d=some d'):Rep K H [] (fun _=>False) d' v/\B3 d'=true:=by
 cases r with
 |@ref n a e =>
  unfold C8 at h
  cases q:m[n]? with
  |none=>simp[q] at h
  |some o =>
   simp only[q] at h
   cases o with
   |dct _ _=>cases h
   |lst ds =>
    simp only at h
    split at h
    ·rename_i hn
     cases h
     obtain⟨xs,e1,e2⟩:=S.obj n a _ e q
     exact⟨.lst (.inl e1) (fun z=>z) (e2.noref (fun _ _ _ _ z=>z) hn),hn⟩
    ·cases h
 |non=>unfold C8 at h;simp[B3] at h;subst h;exact⟨.non,rfl⟩
 |bl b=>unfold C8 at h;simp[B3] at h;subst h;exact⟨.bl b,rfl⟩
 |int b=>unfold C8 at h;simp[B3] at h;subst h;exact⟨.int b,rfl⟩
 |str b ok=>unfold C8 at h;simp[B3] at h;subst h;exact⟨.str b ok,rfl⟩
 |@tup ds a xs h1 h2 =>
  unfold C8 at h
  simp only at h
  split at h
  ·rename_i hn
   cases h
   exact⟨(Rep.tup h1 h2).noref (fun _ _ _ _ z=>z) hn,hn⟩
  ·cases h
 |@lst ds a xs h1 h3 h2 =>
  unfold C8 at h
  simp only at h
  split at h
  ·rename_i hn
   cases h
   exact⟨(Rep.lst h1 h3 h2).noref (fun _ _ _ _ z=>z) hn,hn⟩
  ·cases h
 |@kl ds a xs h1 h2 =>
  unfold C8 at h
  simp only at h
  split at h
  ·rename_i hn
   cases h
   exact⟨(Rep.kl h1 h2).noref (fun _ _ _ _ z=>z) hn,hn⟩
  ·exact Ac h
 |dic h1 h2 h3 h4=>unfold C8 at h;simp[B3] at h
 |fn _=>unfold C8 at h;simp[B3] at h
theorem B7 (S:Sim K H μ m):∀ {ds ds':List D}{vs:List V},Reps K H μ (·∈μ) ds vs->B6 m ds=some ds'->Reps K H [] (fun _=>False) ds' vs
 |_,_,_,.nil,h=>by cases h;exact .nil
 |_,_,_,.cons r rs,h=>by
  unfold B6 at h
  obtain⟨d',h1,h⟩:=bind_some h
  obtain⟨ds',h2,h⟩:=bind_some h
  cases h
  exact .cons (Bk S r h1).1 (B7 S rs h2)
theorem Rk (S:Sim K H μ m) {d:D} (r:Rep K H μ (·∈μ) d v) (h:sq m d=some ds):∃ a xs,v=.ref a/\(SqL K H a xs\/SqT K H a xs)/\Reps K H μ (·∈μ) ds xs:=by
 cases r with
 |@ref n a e =>
  unfold sq at h
  cases q:m[n]? with
  |none=>simp[q] at h
  |some o =>
   simp only[q] at h
   cases o with
   |dct _ _=>cases h
   |lst ds =>
    cases h
    obtain⟨xs,e1,e2⟩:=S.obj n a _ e q
    exact⟨a,xs,rfl,.inl (SqL.of e1),e2⟩
 |@tup ds a xs h1 h2=>cases h;exact⟨a,xs,rfl,.inr h1,h2⟩
 |@lst ds a xs h1 h3 h2=>cases h;exact⟨a,xs,rfl,.inl (.inl h1),h2⟩
 |@kl ds a xs h1 h2=>cases h;exact⟨a,xs,rfl,.inl h1.sq,h2⟩
 |non=>exact Ac h
 |bl b=>exact Ac h
 |int b=>exact Ac h
 |str b ok=>exact Ac h
 |dic h1 h2 h3 h4=>exact Ac h
 |fn _=>exact Ac h
end
mutual
theorem Dk {H:Hp}{s:Shared} (I:Inv X pins σ H s) {d:D}{v:V}{u:Value} (q:Rep X.K H μ B d v) (e:B3 d=true) (r:RelV v u):∃ as,Reads s.heap u (pyD d) as:=by
 cases q with
 |non=>cases r;exact⟨_,.none⟩
 |bl b=>cases r;exact⟨_,.bool b⟩
 |int i=>obtain⟨t,rfl⟩:=r;exact⟨_,.int i t⟩
 |str x _=>obtain⟨t,rfl⟩:=r;exact⟨_,.str x t⟩
 |tup h rs =>
  cases r
  obtain⟨its,rv,⟨o,ho,hc,n,hd⟩,hz⟩:=I.tuple h
  obtain⟨as,ra⟩:=Dj I rs e rv
  exact⟨_,.tuple ho hc hd ra⟩
 |lst h b rs =>
  cases r
  obtain⟨its,rv,⟨o,n,ho,hc,_,hd⟩,hz⟩:=I.list (.inl h)
  obtain⟨as,ra⟩:=Dj I rs e rv
  exact⟨_,.list ho hc hd ra⟩
 |kl h rs =>
  cases r
  obtain⟨its,rv,⟨o,n,ho,hc,_,hd⟩,hz⟩:=I.list h.sq
  obtain⟨as,ra⟩:=Dj I rs e rv
  exact⟨_,.list ho hc hd ra⟩
 |_=>cases e
theorem Dj {H:Hp}{s:Shared} (I:Inv X pins σ H s) {ds:List D}{vs:List V}{us:List Value} (q:Reps X.K H μ B ds vs) (e:A7 ds=true) (r:Vals vs us):∃ as,ReadsAll s.heap us (Bu ds) as:=by
 cases q with
 |nil=>cases r;exact⟨_,.nil⟩
 |cons h rs =>
  cases r with
  |cons r rv =>
  have e':=(Bool.and_eq_true_iff.mp e)
  obtain⟨as,h1⟩:=Dk I h e'.1 r
  obtain⟨bs,h2⟩:=Dj I rs e'.2 rv
  exact⟨_,.cons h1 h2⟩
end
mutual
theorem El {K:W.Frag}{H:Hp}{μ:List Addr}{B:Addr->Prop}{d:D}{v:V} (r:Rep K H μ B d v):(pyD d).canLay0=true:=by
 cases r with
 |str _ h=>exact h
 |tup _ rs=>exact G2 rs
 |lst _ _ rs=>exact G2 rs
 |kl _ rs=>exact G2 rs
 |_=>rfl
theorem G2 {K:W.Frag}{H:Hp}{μ:List Addr}{B:Addr->Prop}{ds:List D}{vs:List V} (r:Reps K H μ B ds vs):PyData.canLayAll0 (Bu ds)=true:=by
 cases r with
 |nil=>rfl
 |cons r rs=>rw[Bu,PyData.canLayAll0,El r,G2 rs];rfl
end
mutual
theorem Hb:∀ d:D,(pyD d).depth=dep d
 |.non=>rfl
 |.bl _=>rfl
 |.int _=>rfl
 |.str _=>rfl
 |.tup ds=>by rw[pyD,PyData.depth,dep,G0 ds]
 |.lst ds=>by rw[pyD,PyData.depth,dep,G0 ds]
 |.kl ds=>by rw[pyD,PyData.depth,dep,G0 ds]
 |.ref _=>rfl
 |.dic _ _=>rfl
 |.fn _ _=>rfl
theorem G0:∀ ds:List D,PyData.depthAll (Bu ds)=D8 ds
 |[]=>rfl
 |d::ds=>by rw[Bu,PyData.depthAll,Hb d,G0 ds,D8]
end
noncomputable def deq (x y:D):Bool:=PyData.eqv (pyD x) (pyD y)
def eqO (m:MH) (x y:D):Option Bool:=(C8 m x).bind fun x'=>(C8 m y).bind fun y'=>if dep x'<=60 then some (deq x' y') else none
def oEq:D->D->MH->Option D:=fun x y m=>(eqO m x y).bind fun b=>some (.bl b)
def oNe:D->D->MH->Option D:=fun x y m=>(eqO m x y).bind fun b=>some (.bl (!b))
section
variable {X:Cx}{a b c e:Expr}{es:List Expr}{pos:Pos}
def OpM (X:Cx) (f:Value->Value->Sem Value) (o:D->D->MH->Option D):Prop :=
 ∀ (pins:List (Addr×Obj)) (s:Shared) (σ:St) (H:Hp) (μ:List Addr) (m:MH) (x y z:D) (v u:V) (v' u':Value) (Q:VK),Inv X pins σ H s->Sim X.K H μ m->Rep X.K H μ (·∈μ) x v->Rep X.K H μ (·∈μ) y u->RelV v v'->RelV u u'->o x y m=some z ->
  (∀ w H2,Same H H2->Rep X.K H2 μ (·∈μ) z w->Q w H2)->wpAny (model X.prog X.w) X.A (f v' u') (EP X pins σ Q) X.xe s
theorem OpM.of (h:OpR X f r) (d:OpD X o r):OpM X f o :=
 fun pins s σ H μ m x y z v u v' u' Q I S rx ry r1 r2 e q=>h pins s σ H v u v' u' Q I r1 r2 (d μ m x y z v u H Q S rx ry e q)
theorem A4 {H:Hp} (h:H p=none):Same H (upd H p o):=fun b u e=>by
 rw[An (Ao e h)];exact e
theorem tE.two {K:W.Frag}{f g:FE}{o:D->D->MH->Option D}{σ:St}{H:Hp}{Q:VK} (h:tE K (f2 o f g) σ H Q) :
  ∃ env μ m x y z,Sim K H μ m/\EnvRep K H μ σ env/\f env m=some x/\g env m=some y/\o x y m=some z/\∀ v H',Same H H'->Rep K H' μ (·∈μ) z v->Q v H':=by
 obtain⟨env,μ,m,d,S,E,h,q⟩:=h
 obtain⟨x,hx,h⟩:=bind_some h
 obtain⟨y,hy,h⟩:=bind_some h
 exact⟨env,μ,m,x,y,d,S,E,hx,hy,h,q⟩
theorem Apg (ho:OpM X k o) (ha:PD X a f) (hb:PD X b g) {s:Shared}{H:Hp} (I:Inv X pins σ H s) (h:tE X.K (f2 o f g) σ H Q) :
  wpAny (model X.prog X.w) X.A (eval a X.env) (fun v s₁=>wpAny (model X.prog X.w) X.A (eval b X.env) (fun u s₂=>wpAny (model X.prog X.w) X.A (k v u) (EP X pins σ Q) X.xe s₂) X.xe s₁) X.xe s:=by
 obtain⟨env,μ,m,x,y,z,S,E,hx,hy,hz,q⟩:=h.two
 refine thn (ha pins s σ H (fun v H1=>Same H H1/\Rep X.K H1 μ (·∈μ) x v) I ⟨env,μ,m,x,S,E,hx,fun v H1 s1 r1=>⟨s1,r1⟩⟩) fun v' s1 ⟨v,H1,I1,r1,s1',rx⟩=>?_
 refine thn (hb pins s1 σ H1 (fun u H2=>Same H1 H2/\Rep X.K H2 μ (·∈μ) y u) I1 ⟨env,μ,m,y,S.same s1',E.same s1',hy,fun v H1 s1 r1=>⟨s1,r1⟩⟩) fun u' s2 ⟨u,H2,I2,r2,s2',ry⟩=>?_
 exact ho pins s2 σ H2 μ m x y z v u v' u' Q I2 (S.same (s1'.trans s2')) (rx.same s2') ry r1 r2 hz fun w H3 s3 r3=>q w H3 ((s1'.trans s2').trans s3) r3
theorem Alr (ho:OpM X (binaryOp op) o) (ha:PD X a f) (hb:PD X b g):PD X (.BinOp a op b pos) (f2 o f g) :=
 fun pins s σ H Q I h=>wpAny_BinOp (Apg ho ha hb I h)
theorem Als (ho:OpM X (compareOp op) o) (ha:PD X a f) (hb:PD X b g) (hm:behindInMarks op b=false):PD X (.Compare a [op] [b] pos) (f2 o f g) :=
 fun pins s σ H Q I h=>wpAny_Compare1 (Apg ho ha hb I h) hm
noncomputable def asB:D->Option Bool
 |.bl b=>some b
 |_=>none
def Be (f:FE):FB:=fun env m=>(f env m).bind asB
theorem J5 {d:D}{b:Bool} (h:asB d=some b):d=.bl b:=by
 cases d<;>first|(cases h;rfl)|cases h
theorem tB'.val {K:W.Frag}{f:FE}{σ:St}{H:Hp}{Q:Bool->Hp->Prop} (h:tB' K (Be f) σ H Q):tE K f σ H fun x H'=>∃ k,x=.bl k/\Q k H':=by
 obtain⟨env,μ,m,b,S,E,h,q⟩:=h
 obtain⟨d,h1,h2⟩:=bind_some h
 cases J5 h2
 exact⟨env,μ,m,_,S,E,h1,fun v H' s r=>by cases r;exact⟨_,rfl,q H' s⟩⟩
theorem Alk (ho:OpM X (compareOp op) o) (ha:PD X a f) (hb:PD X b g) (hm:behindInMarks op b=false):PB X (.Compare a [op] [b] pos) (Be (f2 o f g)):=by
 intro pins s σ H Q I h
 refine wpAny_isTrue_Compare1 (thn (Apg ho ha hb I h.val) fun v s1 h1=>thn h1 fun u s2 h2=>thn h2 fun c s3 ⟨x,H1,I1,r1,k,e,q⟩=>?_) hm
 subst e
 cases r1
 exact Avp ⟨H1,I1,q⟩
theorem big {n:Nat} (h:n<=1000000):n<=sizeLine:=Auf h (by rw[Ava];decide)
def Ahq (m:MH):D->Option Bool
 |.non=>some false
 |.bl b=>some b
 |.int i=>some (i != 0)
 |.str y=>if y.length<=1000000 then some ((y.length:Int) != 0) else none
 |d=>(sq m d).bind fun ds=>some (!ds.isEmpty)
def T9 (f:FE):FB:=fun env m=>(f env m).bind (Ahq m)
theorem Reps.isEmpty {K:W.Frag}{H:Hp}{μ:List Addr}{B:Addr->Prop}{ds:List D}{vs:List V} (r:Reps K H μ B ds vs):ds.isEmpty=vs.isEmpty:=by cases r<;>rfl
theorem Yp {K:W.Frag}{H:Hp}{μ:List Addr}{m:MH} (S:Sim K H μ m) {d:D}{v:V}{k:Bool} (r:Rep K H μ (·∈μ) d v) (h:Ahq m d=some k):Ano K v H k:=by
 have seq:∀ {a:Addr},v=.ref a->(∃ ds,sq m d=some ds/\k=!ds.isEmpty)->Ano K v H k:=fun {a} e ⟨ds,h1,h2⟩=>by
  obtain⟨a',xs,e',hq,rs⟩:=Rk S r h1
  subst e'
  subst h2
  rw[rs.isEmpty]
  rcases hq with hq|hq
  ·exact .inl ⟨xs,hq,rfl⟩
  ·exact .inr (.inl ⟨xs,hq,rfl⟩)
 have sq':∀ {x:D},((sq m x).bind fun ds=>some (!ds.isEmpty))=some k->∃ ds,sq m x=some ds/\k=!ds.isEmpty:=fun {x} h=>by
  obtain⟨ds,h1,h2⟩:=bind_some h
  exact⟨ds,h1,(Auo h2).symm⟩
 cases r with
 |non=>cases h;rfl
 |bl b=>cases h;rfl
 |int b=>cases h;rfl
 |str b ok =>
  unfold Ahq at h
  simp only at h
  split at h
  ·cases h;exact⟨big (by assumption),rfl⟩
  ·exact Ac h
 |@tup ds a xs h1 h2=>exact seq rfl (sq' h)
 |@lst ds a xs h1 h3 h2=>exact seq rfl (sq' h)
 |@kl ds a xs h1 h2=>exact seq rfl (sq' h)
 |@ref n a e=>exact seq rfl (sq' h)
 |dic h1 h2 h3 h4=>exact Ac h
 |fn _=>exact Ac h
theorem Alo (ha:PD X a f) (he:∀ whole,isTrue a X.env whole=(do let v <- whole;standAt a.pos;holding [v] (truthy v))):PB X a (T9 f) :=
 PT.imp (Aa5 ha he) fun σ H Q ⟨env,μ,m,b,S,E,h,q⟩=>by
  obtain⟨d,h1,h2⟩:=bind_some h
  exact⟨env,μ,m,d,S,E,h1,fun v H' s r=>⟨b,Yp (S.same s) r h2,q H' s⟩⟩
noncomputable def U1 (f g:FB):FB:=fun env m=>(f env m).bind fun c=>if c=true then g env m else some false
noncomputable def fOr (f g:FB):FB:=fun env m=>(f env m).bind fun c=>if c=true then some true else g env m
noncomputable def Aee (f:FB):FB:=fun env m=>(f env m).bind fun c=>some (!c)
abbrev PWB (X:Cx) (e:Expr) (f:FB):Prop:=PW X e (tB' X.K f)
theorem PW.imp {t t':TT} (h:PW X e t) (i:∀ σ H Q,t' σ H Q->t σ H Q):PW X e t':=fun w pins s σ H Q I q=>h w pins s σ H Q I (i σ H Q q)
theorem tB'.and {K:W.Frag}{f g:FB}{σ:St}{H:Hp}{Q:Bool->Hp->Prop} (h:tB' K (U1 f g) σ H Q):Art (tB' K f) (tB' K g) σ H Q:=by
 obtain⟨env,μ,m,b,S,E,h,q⟩:=h
 obtain⟨c,h1,h2⟩:=bind_some h
 refine⟨env,μ,m,c,S,E,h1,fun H1 s1=>?_⟩
 cases c with
 |true =>
  rw[Atq rfl] at h2 ⊢
  exact⟨env,μ,m,b,S.same s1,E.same s1,h2,fun H2 s2=>q H2 (s1.trans s2)⟩
 |false =>
  rw[Atl At5] at h2 ⊢
  cases h2
  exact q H1 s1
theorem tB'.or {K:W.Frag}{f g:FB}{σ:St}{H:Hp}{Q:Bool->Hp->Prop} (h:tB' K (fOr f g) σ H Q):tOr (tB' K f) (tB' K g) σ H Q:=by
 obtain⟨env,μ,m,b,S,E,h,q⟩:=h
 obtain⟨c,h1,h2⟩:=bind_some h
 refine⟨env,μ,m,c,S,E,h1,fun H1 s1=>?_⟩
 cases c with
 |false =>
  rw[Atl At5] at h2 ⊢
  exact⟨env,μ,m,b,S.same s1,E.same s1,h2,fun H2 s2=>q H2 (s1.trans s2)⟩
 |true =>
  rw[Atq rfl] at h2 ⊢
  cases h2
  exact q H1 s1
variable {rest:List Expr}
theorem Aa7 (ha:PB X a f):PWB X (.BoolOp .And [a] pos) f:=Agn ha
theorem Agq (ha:PB X a f):PWB X (.BoolOp .Or [a] pos) f:=Amj ha
theorem Agp (ha:PB X a f) (hb:PWB X (.BoolOp .And (b::rest) pos) g):PWB X (.BoolOp .And (a::b::rest) pos) (U1 f g):=PW.imp (Amh ha hb) fun _ _ _ h=>h.and
theorem Aml (ha:PB X a f) (hb:PWB X (.BoolOp .Or (b::rest) pos) g):PWB X (.BoolOp .Or (a::b::rest) pos) (fOr f g):=PW.imp (Aqo ha hb) fun _ _ _ h=>h.or
theorem Afw (h:PWB X (.BoolOp op es pos) f):PB X (.BoolOp op es pos) f:=h.pt
theorem Aln (ha:PB X a f):PB X (.UnaryOp .Not a pos) (Aee f):=PT.imp (Amg ha) fun σ H Q ⟨env,μ,m,b,S,E,h,q⟩=>by
 obtain⟨c,h1,h2⟩:=bind_some h
 cases h2
 exact⟨env,μ,m,c,S,E,h1,fun H1 s1=>q H1 s1⟩
def Es (f g:FE):FE:=fun env m=>(Be f env m).bind fun c=>if c=true then g env m else some (.bl false)
def Aef (f g:FE):FE:=fun env m=>(Be f env m).bind fun c=>if c=true then some (.bl true) else g env m
theorem Al0 {op} (h:PD X a f):PD X (.BoolOp op [a] pos) f:=Al7 h
theorem Alq {f g:FE} (ha:PD X a f) (hb:PD X (.BoolOp .And (b::rest) pos) g):PD X (.BoolOp .And (a::b::rest) pos) (Es f g):=PE.imp (Al3 ha hb) fun σ H Q ⟨env,μ,m,z,S,E,h,q⟩=>by
 obtain⟨c,h1,h2⟩:=bind_some h
 obtain⟨d,h0,h1⟩:=bind_some h1
 cases J5 h1
 refine⟨env,μ,m,_,S,E,h0,fun v H1 s1 r1=>⟨c,by cases r1;rfl,?_⟩⟩
 cases c with
 |true =>
  rw[Atq rfl] at h2 ⊢
  exact⟨env,μ,m,z,S.same s1,E.same s1,h2,fun v H2 s2 r2=>q v H2 (s1.trans s2) r2⟩
 |false =>
  rw[Atl At5] at h2 ⊢
  cases h2
  exact q _ H1 s1 (.bl false)
theorem Aqf {f g:FE} (ha:PD X a f) (hb:PD X (.BoolOp .Or (b::rest) pos) g):PD X (.BoolOp .Or (a::b::rest) pos) (Aef f g):=PE.imp (Aql ha hb) fun σ H Q ⟨env,μ,m,z,S,E,h,q⟩=>by
 obtain⟨c,h1,h2⟩:=bind_some h
 obtain⟨d,h0,h1⟩:=bind_some h1
 cases J5 h1
 refine⟨env,μ,m,_,S,E,h0,fun v H1 s1 r1=>⟨c,by cases r1;rfl,?_⟩⟩
 cases c with
 |false =>
  rw[Atl At5] at h2 ⊢
  exact⟨env,μ,m,z,S.same s1,E.same s1,h2,fun v H2 s2 r2=>q v H2 (s1.trans s2) r2⟩
 |true =>
  rw[Atq rfl] at h2 ⊢
  cases h2
  exact q _ H1 s1 (.bl true)
def Mn (f:FE):FE:=fun env m=>(T9 f env m).bind fun c=>some (.bl (!c))
theorem Alz (ha:PD X a f):PD X (.UnaryOp .Not a pos) (Mn f):=by
 intro pins s σ H Q I h
 obtain⟨env,μ,m,z,S,E,h,q⟩:=h
 obtain⟨c,h1,h2⟩:=bind_some h
 obtain⟨d,h0,h1⟩:=bind_some h1
 cases h2
 refine UnaryOp_ (thn (ha pins s σ H (fun v H1=>Same H H1/\Rep X.K H1 μ (·∈μ) d v) I ⟨env,μ,m,d,S,E,h0,fun v H1 s1 r1=>⟨s1,r1⟩⟩) fun v' s1 ⟨v,H1,I1,r1,s1',rx⟩=>?_)
 exact not_of (thn (Adm pins s1 σ H1 v v' (fun b H2=>b=c/\H2=H1) I1 r1 ⟨c,Yp (S.same s1') rx h1,rfl,rfl⟩) fun b s2 ⟨H2,I2,e,e2⟩=>⟨.bl (!c),H2,I2,by rw[e];rfl,q _ H2 (by rw[e2];exact s1') (.bl _)⟩)
noncomputable def fIf (t:FB) (f g:FE):FE:=fun env m=>(t env m).bind fun c=>if c=true then f env m else g env m
theorem Aqd {t:FB} (hc:PB X c t) (ha:PD X a f) (hb:PD X b g):PD X (.IfExp c a b pos) (fIf t f g):=PE.imp (Aao hc ha hb) fun σ H Q ⟨env,μ,m,z,S,E,h,q⟩=>by
 obtain⟨c,h1,h2⟩:=bind_some h
 refine⟨env,μ,m,c,S,E,h1,fun H1 s1=>?_⟩
 cases c with
 |true =>
  rw[Atq rfl] at h2 ⊢
  exact⟨env,μ,m,z,S.same s1,E.same s1,h2,fun v H2 s2 r2=>q v H2 (s1.trans s2) r2⟩
 |false =>
  rw[Atl At5] at h2 ⊢
  exact⟨env,μ,m,z,S.same s1,E.same s1,h2,fun v H2 s2 r2=>q v H2 (s1.trans s2) r2⟩
theorem Hs (hr:Room k X.A):OpM X (compareOp .Eq) oEq:=by
 intro pins s σ H μ m x y z v u v' u' Q I S rx ry r1 r2 e q
 obtain⟨b,h1,h2⟩:=bind_some e
 obtain⟨x',e1,h1⟩:=bind_some h1
 obtain⟨y',e2,h1⟩:=bind_some h1
 split at h1
 ·rename_i hd
  cases h1
  cases h2
  obtain⟨a1,n1⟩:=Bk S rx e1
  obtain⟨a2,n2⟩:=Bk S ry e2
  obtain⟨as,ra⟩:=Dk I a1 n1 r1
  obtain⟨bs,rb⟩:=Dk I a2 n2 r2
  have hu:=hr.units
  refine SeqAt.compareEq_reads ra rb (El a1) (El a2) ?_ ⟨.bl (deq x' y'),H,I,rfl,q _ H (Same.refl H) (.bl _)⟩
  rw[Hb]
  lia
 ·cases h1
theorem Lp (hr:Room k X.A):OpM X (compareOp .NotEq) oNe:=by
 intro pins s σ H μ m x y z v u v' u' Q I S rx ry r1 r2 e q
 obtain⟨b,h1,h2⟩:=bind_some e
 obtain⟨x',e1,h1⟩:=bind_some h1
 obtain⟨y',e2,h1⟩:=bind_some h1
 split at h1
 ·rename_i hd
  cases h1
  cases h2
  obtain⟨a1,n1⟩:=Bk S rx e1
  obtain⟨a2,n2⟩:=Bk S ry e2
  obtain⟨as,ra⟩:=Dk I a1 n1 r1
  obtain⟨bs,rb⟩:=Dk I a2 n2 r2
  have hu:=hr.units
  refine SeqAt.compareNe_reads ra rb (El a1) (El a2) ?_ ⟨.bl (!deq x' y'),H,I,rfl,q _ H (Same.refl H) (.bl _)⟩
  rw[Hb]
  lia
 ·cases h1
noncomputable def oLt:D->D->MH->Option D
 |.int i,.int j,_=>some (.bl (decide (i < j)))
 |.str i,.str j,_=>some (.bl (decide (i.cps.toList < j.cps.toList)))
 |_,_,_=>none
def oGt:D->D->MH->Option D:=oI fun i j=>some (.bl (decide (j < i)))
theorem Os:OpM X (compareOp .Lt) oLt:=OpM.of (op_lt.or Xg) fun μ m x y z v u H Q S rx ry e q=>by
 cases rx<;>first|exact Ac e|skip
 all_goals cases ry<;>first|exact Ac e|skip
 ·cases e;exact .inl ⟨_,_,rfl,rfl,q _ H (Same.refl H) (.bl _)⟩
 ·cases e;exact .inr ⟨_,_,rfl,rfl,q _ H (Same.refl H) (.bl _)⟩
theorem Xe:OpM X (compareOp .Gt) oGt:=OpM.of Aqb (OpD.int0 fun i j z e H μ B=>by cases e;exact .bl _)
theorem Acu:OpM X (binaryOp .Sub) Akw:=OpM.of Alf Afu
theorem Ht:OpM X (binaryOp .Mult) Y6:=OpM.of Alc Afr
theorem Rb:OpM X (binaryOp .FloorDiv) Afg:=OpM.of Afn Afp
theorem Cu:OpM X (binaryOp .Mod) M4:=OpM.of Alb Afq
theorem Xf:OpM X (binaryOp .Pow) Ah2:=OpM.of Ald Afs
theorem Ak8:OpM X (binaryOp .RShift) Anz:=OpM.of Ale Aft
noncomputable def Acn:D->MH->Option D:=fun x _=>match x with|.non=>some (.bl true)|_=>some (.bl false)
noncomputable def Iz:D->MH->Option D:=fun x _=>match x with|.non=>some (.bl false)|_=>some (.bl true)
theorem Aey {K:W.Frag}{H:Hp}{μ:List Addr}{B:Addr->Prop}{d z:D}{v:V}{m:MH} (r:Rep K H μ B d v) (h:Acn d m=some z):z=.bl (decide (v=.non)):=by
 cases r<;>(cases h;simp)
theorem Aaf {K:W.Frag}{H:Hp}{μ:List Addr}{B:Addr->Prop}{d z:D}{v:V}{m:MH} (r:Rep K H μ B d v) (h:Iz d m=some z):z=.bl (!decide (v=.non)):=by
 cases r<;>(cases h;simp)
theorem Alm {f:FE} {j pos'} (ha:PD X a f):PB X (.Compare a [.Is] [.Constant .none j pos'] pos) (Be (f1 Acn f)):=PT.imp (Xv Ala ha Xl (Acl _)) fun σ H Q h=>by
 obtain⟨env,μ,m,z,S,E,h,q⟩:=h.val
 obtain⟨d,h1,h2⟩:=bind_some h
 exact⟨env,μ,m,d,S,E,h1,fun v H1 s1 r1=>⟨rfl,q _ H1 s1 (by rw[Aey r1 h2];exact .bl _)⟩⟩
theorem Afx {f:FE} {j pos'} (ha:PD X a f):PB X (.Compare a [.IsNot] [.Constant .none j pos'] pos) (Be (f1 Iz f)):=PT.imp (Xv Afo ha Xl (Acl _)) fun σ H Q h=>by
 obtain⟨env,μ,m,z,S,E,h,q⟩:=h.val
 obtain⟨d,h1,h2⟩:=bind_some h
 exact⟨env,μ,m,d,S,E,h1,fun v H1 s1 r1=>⟨rfl,q _ H1 s1 (by rw[Aaf r1 h2];exact .bl _)⟩⟩
end
theorem Hz:PyData.strOk x=true ↔ ∀ c∈x.cps.toList,c < 0x110000:=by
 unfold PyData.strOk
 rw[Array.all_eq_true']
 simp
theorem Nl (hx:PyData.strOk x=true) (hy:PyData.strOk y=true):PyData.strOk (x++y)=true:=by
 rw[Hz] at *
 intro c hc
 have:(x++y).cps.toList=x.cps.toList++y.cps.toList:=by
  show (x.cps++y.cps).toList=_
  simp
 rw[this] at hc
 rcases List.mem_append.mp hc with h|h
 ·exact hx c h
 ·exact hy c h
theorem H0 (hx:PyData.strOk x=true) (h:∀ c∈y.cps.toList,c∈x.cps.toList):PyData.strOk y=true:=by
 rw[Hz] at *
 exact fun c hc=>hx c (h c hc)
theorem Yl (hx:PyData.strOk x=true) (h:atI x.cps.toList i=some c):PyData.strOk ⟨#[c]⟩=true:=by
 refine H0 hx fun c' hc=>?_
 have e:c'=c:=by simpa using hc
 subst e
 obtain⟨j,_,h2,_⟩:=J6 h
 exact Aui h2
theorem Pb {x:Str}{lo hi:Option Int} (hx:PyData.strOk x=true):PyData.strOk (Txt.slice x lo hi)=true:=by
 unfold Txt.slice
 split
 ·exact hx
 ·refine H0 hx fun c hc=>?_
  simp only[List.toList_toArray] at hc
  obtain⟨i,_,h⟩:=List.mem_filterMap.mp hc
  have:=Array.mem_of_getElem? h
  simpa using this
section
variable {X:Cx}{a b c e:Expr}{es:List Expr}{pos p:Pos}{x:Str}{id T:String}
noncomputable def Aj:FL:=fun _ _=>some []
noncomputable def Aa (f:FE) (g:FL):FL:=fun env m=>(f env m).bind fun x=>(g env m).bind fun xs=>some (x::xs)
theorem Amd:PL X [] Aj:=PA.imp Acw fun σ H Q ⟨env,μ,m,ds,S,E,h,q⟩=>by cases h;exact q [] H (Same.refl H) .nil
theorem Af6 (ha:PD X e f) (hr:PL X es g) (hs:starEach (e::es) X.env=(false,eval e X.env)::starEach es X.env):PL X (e::es) (Aa f g) :=
 PA.imp (Ot ha hr hs) fun σ H Q ⟨env,μ,m,ds,S,E,h,q⟩=>by
  obtain⟨d,h1,h⟩:=bind_some h
  obtain⟨ds',h2,h⟩:=bind_some h
  cases h
  exact⟨env,μ,m,d,S,E,h1,fun v H1 s1 r1=>⟨env,μ,m,ds',S.same s1,E.same s1,h2,fun vs H2 s2 r2=>q _ H2 (s1.trans s2) (.cons (r1.same s2) r2)⟩⟩
noncomputable def Ec (g:FL):FE:=fun env m=>(g env m).bind fun ds=>some (.lst ds)
theorem Aal (h:PF X e g):PD X e (Ec g):=PE.imp h fun σ H Q ⟨env,μ,m,d,S,E,h,q⟩=>by
 obtain⟨ds,h1,h⟩:=bind_some h
 cases h
 exact⟨env,μ,m,ds,S,E,h1,fun a xs H' s1 hn ha r=>q _ H' s1 (.lst (.inl ha) (S.nnone hn) r.unw)⟩
noncomputable def Cq (g:FL):FE:=fun env m=>(g env m).bind fun ds=>if ds.length<=1000000 then some (.tup ds) else none
noncomputable def Bt (g:FL):FL:=fun env m=>(g env m).bind fun ds=>if ds.length<=1000000 then some ds else none
theorem Al2 {x1} (h:PL X es g):PD X (.Tuple es x1 pos) (Cq g):=PE.imp (Al9 h) fun σ H Q ⟨env,μ,m,d,S,E,h,q⟩=>by
 obtain⟨ds,h1,h⟩:=bind_some h
 split at h
 ·rename_i hl
  cases h
  refine⟨env,μ,m,ds,S,E,h1,fun vs H1 s1 r1=>⟨by rw[<- r1.length];exact big hl,fun p hp=>q _ _ (s1.trans (A4 hp)) (.tup (.inl (.inl As)) (r1.same (A4 hp)))⟩⟩
 ·cases h
theorem Amb (h:PL X es g):PF X (.List es pos) (Bt g):=PE.imp (Al6 h) fun σ H Q ⟨env,μ,m,d,S,E,h,q⟩=>by
 obtain⟨ds,h1,h⟩:=bind_some h
 split at h
 ·rename_i hl
  cases h
  refine⟨env,μ,m,_,S,E,h1,fun vs H1 s1 r1=>⟨by rw[<- r1.length];exact big hl,fun p hp=>q _ vs _ (s1.trans (A4 hp)) (s1.free hp) As (r1.fresh hp)⟩⟩
 ·cases h
def oIx:D->D->MH->Option D:=fun x y m=>match y with
 |.int i=>(match x with
  |.str z=>if z.length<=1000000 then (atI z.cps.toList i).bind fun c=>some (.str ⟨#[c]⟩) else none
  |x=>(sq m x).bind fun ds=>atI ds i)
 |_=>none
theorem Reps.atI {K:W.Frag}{H:Hp}{μ:List Addr}{B:Addr->Prop}{ds:List D}{vs:List V}{i:Int}{d:D} (r:Reps K H μ B ds vs) (h:L2.atI ds i=some d):∃ v,L2.atI vs i=some v/\Rep K H μ B d v:=by
 unfold L2.atI at *
 rw[r.length] at h
 obtain⟨j,h1,h2⟩:=bind_some h
 obtain⟨v,h3,h4⟩:=r.get h2
 exact⟨v,by rw[h1];exact h3,h4⟩
set_option tactic.hygienic true in
theorem Alh:OpD X oIx (rIx X.K):=by
 intro μ m x y z v u H Q S rx ry e q
 cases ry<;>first|exact Ac e|skip
 rename_i i
 have seq:((sq m x).bind fun ds=>atI ds i)=some z->rIx X.K v (.int i) H Q:=fun e=>by
  obtain⟨ds,h1,h2⟩:=bind_some e
  obtain⟨a,xs,rfl,hq,rs⟩:=Rk S rx h1
  obtain⟨w,h3,h4⟩:=rs.atI h2
  rcases hq with hq|hq
  ·exact .inl ⟨a,xs,i,w,rfl,rfl,hq,h3,q w H (Same.refl H) h4⟩
  ·exact .inr (.inl ⟨a,xs,i,w,rfl,rfl,hq,h3,q w H (Same.refl H) h4⟩)
 cases rx with
 |str zz ok =>
  unfold oIx at e
  simp only at e
  split at e
  ·obtain⟨c,h1,h2⟩:=bind_some e
   cases h2
   exact .inr (.inr ⟨zz,i,c,rfl,rfl,big (by assumption),h1,q _ H (Same.refl H) (.str _ (Yl ok h1))⟩)
  ·cases e
 |non=>exact seq e
 |bl _=>exact seq e
 |int _=>exact seq e
 |tup h1 h2=>exact seq e
 |lst h1 h2 h3=>exact seq e
 |kl h1 h2=>exact seq e
 |dic h1 h2 h3 h4=>exact seq e
 |fn _=>exact seq e
 |ref h=>exact seq e
theorem Aqe (ha:PD X a f) (hb:PD X b g) (hs:J1 b):PD X (.Subscript a b pos) (f2 oIx f g):=PE.imp (Aqj Aj6 ha hb hs) fun σ H Q h=>tE.bin h _ Alh
abbrev FO:=Ax->MH->Option (Option Int)
inductive tO' (K:W.Frag) (f:FO) (σ:St) (H:Hp) (Q:Option Int->Hp->Prop):Prop
 |mk (env:Ax) (μ:List Addr) (m:MH) (o:Option Int) (S:Sim K H μ m) (E:EnvRep K H μ σ env) (h:f env m=some o) (q:∀ H',Same H H'->Q o H')
abbrev PO' (X:Cx) (e:Option Expr) (f:FO):Prop:=PO X e (tO' X.K f)
theorem PO.imp {X:Cx}{e:Option Expr}{t t':TO} (h:PO X e t) (i:∀ σ H Q,t' σ H Q->t σ H Q):PO X e t':=fun pins s σ H Q I q=>h pins s σ H Q I (i σ H Q q)
noncomputable def fNo:FO:=fun _ _=>some none
noncomputable def asI:D->Option Int
 |.int i=>some i
 |_=>none
def Od (f:FE):FO:=fun env m=>(f env m).bind fun d=>(asI d).bind fun i=>some (some i)
theorem Aav:PO' X none fNo:=PO.imp Af7 fun σ H Q ⟨env,μ,m,o,S,E,h,q⟩=>by cases h;exact q H (Same.refl H)
theorem Aaw (h:PD X e f):PO' X (some e) (Od f):=PO.imp (Af8 h) fun σ H Q ⟨env,μ,m,o,S,E,h,q⟩=>by
 obtain⟨d,h1,h⟩:=bind_some h
 obtain⟨i,h2,h⟩:=bind_some h
 cases h
 refine⟨env,μ,m,d,S,E,h1,fun v H' s r=>?_⟩
 cases r<;>first|(cases h2;exact⟨_,rfl,q H' s⟩)|cases h2
def Zi {α:Type} (xs:List α) (lo hi:Option Int):List α:=(xs.drop (HT.sIx xs.length 0 lo)).take (HT.sIx xs.length xs.length hi - HT.sIx xs.length 0 lo)
theorem Reps.cut {K:W.Frag}{H:Hp}{μ:List Addr}{B:Addr->Prop}{ds:List D}{vs:List V} (r:Reps K H μ B ds vs) (lo hi:Option Int):Reps K H μ B (Zi ds lo hi) (Ahy vs lo hi):=by
 unfold Zi Ahy
 rw[r.length]
 exact (r.drop _).take _
theorem sl_str:SlR X (fun x lo hi H Q=>∃ z,x=.str z/\z.length<=sizeLine/\Q (.str (Txt.slice z lo hi)) H):=by
 intro pins s σ H x v vl vu lo hi sl Q I rx hs pl pu h
 obtain⟨z,rfl,hz,q⟩:=h
 obtain⟨t,rfl⟩:=rx
 refine⟨"str",_,F.slot_str_getitem.lookup,typeIs_str _ _ _,?_⟩
 cases pl with
 |none =>
  cases pu with
  |none=>exact Av1 (l:=none) (u:=none) (st:=none) hs rfl (post_val_or_str ⟨Auf (Txt.slice_le z _ _) hz,fun t' k=>⟨.str (Txt.slice z _ _),H,I.tok _,⟨_,rfl⟩,q⟩⟩)
  |int j t'=>exact Av1 (l:=none) (u:=some (j,t')) (st:=none) hs rfl (post_val_or_str ⟨Auf (Txt.slice_le z _ _) hz,fun t' k=>⟨.str (Txt.slice z _ _),H,I.tok _,⟨_,rfl⟩,q⟩⟩)
 |int i t1 =>
  cases pu with
  |none=>exact Av1 (l:=some (i,t1)) (u:=none) (st:=none) hs rfl (post_val_or_str ⟨Auf (Txt.slice_le z _ _) hz,fun t' k=>⟨.str (Txt.slice z _ _),H,I.tok _,⟨_,rfl⟩,q⟩⟩)
  |int j t'=>exact Av1 (l:=some (i,t1)) (u:=some (j,t')) (st:=none) hs rfl (post_val_or_str ⟨Auf (Txt.slice_le z _ _) hz,fun t' k=>⟨.str (Txt.slice z _ _),H,I.tok _,⟨_,rfl⟩,q⟩⟩)
def oSl:D->Option Int->Option Int->Option D
 |.str z,lo,hi=>if z.length<=1000000 then some (.str (Txt.slice z lo hi)) else none
 |.tup ds,lo,hi=>some (.tup (Zi ds lo hi))
 |_,_,_=>none
def fSl (f:FE) (l h:FO):FE:=fun env m=>(f env m).bind fun x=>(l env m).bind fun lo=>(h env m).bind fun hi=>oSl x lo hi
end
theorem Ek {prog:Program}{w:World}{A:Around}{E:Value->Shared->Prop}{s:Shared}{t sl:Addr}{items:Array Value}{vl vu:Value}{lo hi:Option Int}{Q:Value->Shared->Prop} (ht:IsTup s.heap t items) (hs:s.heap.IsSliceOf sl vl vu .none) (pl:IsPart vl lo) (pu:IsPart vu hi)
  (hw:HT.sIx items.size 0 lo=0/\HT.sIx items.size items.size hi=items.size) (h:Q (.ref t) s):wpAny (model prog w) A (getItem (.ref t) (.ref sl)) Q E s:=by
 obtain⟨os,hos,hcs,hds⟩:=id hs
 have hTs:s.TypeIs (.ref sl) "slice":=⟨os,hos,hcs⟩
 unfold getItem
 try with_reducible refine Avq ?_
 first|refine Atj (Atu ?_)|skip
 refine Atj (wpAny_sequenceKey ht.typeIs (by decide) ?_)
 refine Atj (Av2 (name:=Str.ofString "__getitem__") ht.typeIs PyProof.Rows.slot_tuple_getitem
  (Avw PyProof.Rows.slot_tuple_getitem ht.typeIs entry_tuple_getitem ?_ (args_tuple_getitem _ _)))
 show wpAny _ _ (Builtin.Tuple.tupleItemsOf (.ref t) >>= _) _ _ s
 refine Atj (tupleItemsOf_ ht ?_)
 refine Atj (wpAny_typeOf hTs ?_)
 rw[Atq (by decide)]
 refine Atj (HT.sliceApplied_gen hs pl pu ?_)
 have hyes:(((HT.sIx items.size 0 lo:Nat):Int) == 0&&(1:Int) == 1&&(HT.sIx items.size items.size hi - HT.sIx items.size 0 lo) == items.size)=true:=by
  rw[hw.1,hw.2]
  simp
 show wpAny _ _ (if (((HT.sIx items.size 0 lo:Nat):Int) == 0&&(1:Int) == 1&&(HT.sIx items.size items.size hi - HT.sIx items.size 0 lo) == items.size)=true then _ else _) _ _ s
 rw[Atq hyes]
 unfold Builtin.Tuple.tupleIsExact
 refine Atj (Atj (wpAny_typeOf ht.typeIs (Atu ?_)))
 rw[Atq (by decide)]
 exact Atj (wpAny_rule (Atu ⟨_,rfl,Atu h⟩))
theorem Y1 {α:Type}{xs:List α}{lo hi:Option Int} (h:HT.sIx xs.length 0 lo=0/\HT.sIx xs.length xs.length hi=xs.length):Zi xs lo hi=xs:=by
 unfold Zi
 rw[h.1,h.2]
 simp
section
variable {X:Cx}{a b c e:Expr}{es:List Expr}{pos p:Pos}{x:Str}{id T:String}
theorem Ahc:SlR X (fun x lo hi H Q=>∃ a xs,x=.ref a/\SqT X.K H a xs/\(HT.sIx xs.length 0 lo=0/\HT.sIx xs.length xs.length hi=xs.length)/\Q (.ref a) H):=by
 intro pins s σ H x v vl vu lo hi sl Q I rx hs pl pu h
 obtain⟨a,xs,rfl,hx,hw,q⟩:=h
 cases rx
 obtain⟨its,r,ht,hz⟩:=I.tuple hx
 have hlen:its.toArray.size=xs.length:=by rw[Ats];exact r.length.symm
 refine⟨"tuple",_,PyProof.Rows.slot_tuple_getitem.lookup,ht.typeIs,?_⟩
 exact Ek ht hs pl pu (by rw[hlen];exact hw) ⟨.ref a,H,I,rfl,q⟩
theorem Aqg {f:FE}{l h:FO}{lo hi:Option Expr}{p2:Pos} (ha:PD X a f) (hl:PO' X lo l) (hh:PO' X hi h):PD X (.Subscript a (.Slice lo hi none p2) pos) (fSl f l h) :=
 PE.imp (Aap (sl_str.or (sl_tup.or Ahc)) ha hl hh) fun σ H Q ⟨env,μ,m,d,S,E,h,q⟩=>by
  obtain⟨x,h1,h⟩:=bind_some h
  obtain⟨lo,h2,h⟩:=bind_some h
  obtain⟨hi,h3,h⟩:=bind_some h
  refine⟨env,μ,m,x,S,E,h1,fun v H1 s1 r1=>⟨env,μ,m,lo,S.same s1,E.same s1,h2,fun H2 s2=>⟨env,μ,m,hi,S.same (s1.trans s2),E.same (s1.trans s2),h3,fun H3 s3=>?_⟩⟩⟩
  have s':=(s1.trans s2).trans s3
  have r3:=(r1.same s2).same s3
  cases r3 with
  |str z ok =>
   unfold oSl at h
   simp only at h
   split at h
   ·cases h
    exact .inl ⟨z,rfl,big (by assumption),q _ H3 s' (.str _ (Pb ok))⟩
   ·cases h
  |@tup ds a xs hq rs =>
   cases h
   by_cases hw:HT.sIx xs.length 0 lo=0/\HT.sIx xs.length xs.length hi=xs.length
   ·exact .inr (.inr ⟨a,xs,rfl,hq,hw,q _ H3 s' (by rw[Y1 (by rw[rs.length];exact hw)];exact .tup hq rs)⟩)
   ·exact .inr (.inl ⟨a,xs,rfl,hq,hw,fun p hp=>q _ _ (s'.trans (A4 hp)) (.tup (.inl (.inl As)) ((rs.cut lo hi).same (A4 hp)))⟩)
  |non=>cases h
  |bl _=>exact Ac h
  |int _=>exact Ac h
  |lst _ _ _=>exact Ac h
  |kl _ _=>exact Ac h
  |ref _=>exact Ac h
  |dic _ _ _ _=>exact Ac h
  |fn _=>exact Ac h
theorem N0 {s:Shared}{A:Around}{prog:Program}{w:World}{E:Value->Shared->Prop}{t b:Addr}{ws:List Value}{Q:Value->Shared->Prop} (ht:IsTup s.heap t #[]) (hb:IsTup s.heap b ws.toArray) (h:Q (.ref b) s) :
  wpAny (model prog w) A (binaryOp .Add (.ref t) (.ref b)) Q E s:=by
 obtain⟨⟨cls,dd,data,sl⟩,ho,hc,n,hd⟩:=id ht
 obtain⟨⟨cls2,dd2,data2,sl2⟩,ho2,hc2,n2,hd2⟩:=id hb
 simp only at hc hd hc2 hd2
 subst hc hd hc2 hd2
 exact concat_meets ⟨_,ho,rfl⟩ ⟨_,ho2,rfl⟩ noFill_tuple_add seq_tuple_add PySem.F.slot_tuple_add PySem.F.entry_tuple_add (PySem.F.args_tuple_add_2 _ _)
   (tuple_addW0 t b #[] ws.toArray n n2 dd dd2 sl sl2 (by simp)) ⟨ho,ho2,h⟩
theorem Aah:OpR X (binaryOp .Add) (fun x y H Q=>∃ a b ys,x=.ref a/\y=.ref b/\SqT X.K H a []/\SqT X.K H b ys/\Q (.ref b) H):=by
 intro pins s σ H x y v u Q I rx ry h
 obtain⟨a,b,ys,rfl,rfl,ha,hb,q⟩:=h
 cases rx
 cases ry
 obtain⟨its,r1,p1,_⟩:=I.tuple ha
 cases r1
 obtain⟨its2,r2,p2,_⟩:=I.tuple hb
 exact N0 p1 p2 ⟨.ref b,H,I,rfl,q⟩
set_option tactic.hygienic true in
theorem Aw:OpM X (binaryOp .Add) C5:=OpM.of (op_add.or (op_add_str.or (op_catT.or Aah))) fun μ m x y z v u H Q S rx ry e q=>by
 cases rx<;>first|exact Ac e|skip
 all_goals cases ry<;>first|exact Ac e|skip
 ·cases e;exact .inl ⟨_,_,rfl,rfl,q _ H (Same.refl H) (.int _)⟩
 ·rename_i i ok j ok'
  unfold C5 at e
  simp only at e
  split at e
  ·cases e;exact .inr (.inl ⟨_,_,rfl,rfl,big (by assumption),q _ H (Same.refl H) (.str _ (Nl ok ok'))⟩)
  ·cases e
 ·rename_i ds a xs hq rs es b ys hq' rs'
  unfold C5 at e
  simp only at e
  split at e
  ·rename_i hl
   cases e
   by_cases hx:xs=[]
   ·subst hx
    cases rs
    exact .inr (.inr (.inr ⟨a,b,ys,rfl,rfl,hq,hq',q _ H (Same.refl H) (by rw[Au9];exact .tup hq' rs')⟩))
   ·refine .inr (.inr (.inl ⟨a,b,xs,ys,rfl,rfl,hq,hq',hx,by rw[<- rs.length,<- rs'.length];exact big hl,fun hy=>?_,fun hy p hp=>?_⟩))
    ·subst hy
     cases rs'
     exact q _ H (Same.refl H) (by rw[At6];exact .tup hq rs)
    ·exact q _ _ (A4 hp) (.tup (.inl (.inl As)) ((rs.append rs').same (A4 hp)))
  ·cases e
def sqL (m:MH):D->Option (List D)
 |.tup _=>none
 |d=>sq m d
def Ahz (f g:FE):FL:=fun env m=>(f env m).bind fun x=>(g env m).bind fun y=>(sqL m x).bind fun xs=>(sqL m y).bind fun ys=>if xs.length+ys.length<=1000000 then some (xs++ys) else none
theorem Pa {K:W.Frag}{H:Hp}{μ:List Addr}{m:MH} (S:Sim K H μ m) {d:D}{v:V}{ds:List D} (r:Rep K H μ (·∈μ) d v) (h:sqL m d=some ds):∃ a xs,v=.ref a/\SqL K H a xs/\Reps K H μ (·∈μ) ds xs:=by
 cases r with
 |@ref n a e =>
  unfold sqL sq at h
  cases q:m[n]? with
  |none=>simp[q] at h
  |some o =>
   simp only[q] at h
   cases o with
   |dct _=>cases h
   |lst ds =>
    cases h
    obtain⟨xs,e1,e2⟩:=S.obj n a _ e q
    exact⟨a,xs,rfl,SqL.of e1,e2⟩
 |@lst ds a xs h1 h3 h2=>cases h;exact⟨a,xs,rfl,.inl h1,h2⟩
 |@kl ds a xs h1 h2=>cases h;exact⟨a,xs,rfl,h1.sq,h2⟩
 |_=>exact Ac h
theorem Afm:OpR X (binaryOp .Add) (fun x y H Q=>∃ l b xs zs,x=.ref l/\y=.ref b/\SqL X.K H l xs/\SqL X.K H b zs/\xs.length+zs.length<=sizeLine/\∀ p,H p=none->Q (.ref p) (upd H p (.lst (xs++zs)))):=by
 intro pins s σ H x y v u Q I rx ry h
 obtain⟨l,b,xs,zs,rfl,rfl,hl,hb,hz,q⟩:=h
 cases rx
 cases ry
 obtain⟨its,r,⟨⟨cls,dd,data,sl⟩,n,ho,hc,hdd,hd⟩,z⟩:=I.list hl
 obtain⟨its2,r2,⟨⟨cls2,dd2,data2,sl2⟩,n2,ho2,hc2,hdd2,hd2⟩,z2⟩:=I.list hb
 simp only at hc hd hc2 hd2 hdd hdd2
 subst hc hd hc2 hd2 hdd hdd2
 have hl:=r.length
 have hl2:=r2.length
 refine concat_meets ⟨_,ho,rfl⟩ ⟨_,ho2,rfl⟩ noFill_list_add seq_list_add PySem.F.slot_list_add PySem.F.entry_list_add (PySem.F.args_list_add_2 _ _)
   (list_addW l b its.toArray its2.toArray n n2 none none sl sl2 (by rw[Ats,Ats];lia)) ⟨ho,ho2,?_⟩
 have ea:its.toArray++its2.toArray=(its++its2).toArray:=by simp
 rw[ea]
 exact⟨.ref _,_,I.lnew (t':=s.toks) (r.append r2) (by rw[At8];lia),rfl,q _ I.fresh⟩
theorem Ama {f g:FE} (ha:PD X a f) (hb:PD X b g):PF X (.BinOp a .Add b pos) (Ahz f g):=PE.imp (Aqk Afm ha hb) fun σ H Q ⟨env,μ,m,d,S,E,h,q⟩=>by
 obtain⟨x,h1,h⟩:=bind_some h
 obtain⟨y,h2,h⟩:=bind_some h
 obtain⟨xs,h3,h⟩:=bind_some h
 obtain⟨ys,h4,h⟩:=bind_some h
 split at h
 ·rename_i hl
  cases h
  refine⟨env,μ,m,x,S,E,h1,fun v H1 s1 r1=>⟨env,μ,m,y,S.same s1,E.same s1,h2,fun u H2 s2 r2=>?_⟩⟩
  obtain⟨l,vs,rfl,e1,rs⟩:=Pa (S.same (s1.trans s2)) (r1.same s2) h3
  obtain⟨b,ws,rfl,e2,rs'⟩:=Pa (S.same (s1.trans s2)) r2 h4
  exact⟨l,b,vs,ws,rfl,rfl,e1,e2,by rw[<- rs.length,<- rs'.length];exact big hl,fun p hp=>q p _ _ ((s1.trans s2).trans (A4 hp)) ((s1.trans s2).free hp) As ((rs.append rs').fresh hp)⟩
 ·cases h
def L8 (X:Cx) (f:Value) (o:List D->MH->Option D):Prop :=
 ∀ (pins:List (Addr×Obj)) (s:Shared) (σ:St) (H:Hp) (μ:List Addr) (m:MH) (xs:List D) (z:D) (vs:List V) (us:List Value) (Q:VK),Inv X pins σ H s->Sim X.K H μ m->Reps X.K H μ (·∈μ) xs vs->Vals vs us->o xs m=some z ->
  (∀ w H2,Same H H2->Rep X.K H2 μ (·∈μ) z w->Q w H2)->wpAny (model X.prog X.w) X.A (call f us) (EP X pins σ Q) X.xe s
noncomputable def Ay (o:List D->MH->Option D) (g:FL):FE:=fun env m=>(g env m).bind fun xs=>o xs m
noncomputable def Eb (o:List D->MH->Option (List D)) (g:FL):FL:=fun env m=>(g env m).bind fun xs=>o xs m
theorem Ajj (ho:L8 X k o) (ha:PL X es g) {s:Shared}{H:Hp} (I:Inv X pins σ H s) (h:tE X.K (Ay o g) σ H Q) :
  wpAny (model X.prog X.w) X.A (spliced (backTo pos (starEach es X.env))) (fun us s1=>wpAny (model X.prog X.w) X.A (call k us) (EP X pins σ Q) X.xe s1) X.xe s:=by
 obtain⟨env,μ,m,d,S,E,h,q⟩:=h
 obtain⟨xs,h1,h2⟩:=bind_some h
 refine thn (ha pos pins s σ H (fun vs H1=>Same H H1/\Reps X.K H1 μ (·∈μ) xs vs) I ⟨env,μ,m,xs,S,E,h1,fun v H1 s1 r1=>⟨s1,r1⟩⟩) fun us s1 ⟨vs,H1,I1,r1,s1',rx⟩=>?_
 exact ho pins s1 σ H1 μ m xs d vs us Q I1 (S.same s1') rx r1 h2 fun w H2 s2 r2=>q w H2 (s1'.trans s2) r2
theorem G8 (hc:L8 X (.builtin id) o) (hg:Gl X x) (hm:X.mg x=none) (hv:bootBuiltins x=some (.builtin id)) (ha:PL X (e::es) g) (hn:x≠"__name__") (hdb:(x == ("__debug__":Str))=false) (he:starEach (e::es) X.env=(false,eval e X.env)::starEach es X.env) (hpl:(backTo pos (starEach es X.env)).any (·.1)=false):PD X (.Call (.Name x p) (e::es) [] pos) (Ay o g):=by
 intro pins s σ H Q I h
 refine Auu (Eu I hg hm hv ?_ hn hdb)
 exact PyProof.Rows.callWith_builtin1 (Ajj hc ha I h) he hpl
theorem Xk (hc:L8 X (.type T) o) (hg:Gl X x) (hm:X.mg x=none) (hv:bootBuiltins x=some (.type T)) (ha:PL X (e::es) g) (hn:x≠"__name__") (hdb:(x == ("__debug__":Str))=false) (he:starEach (e::es) X.env=(false,eval e X.env)::starEach es X.env) (hpl:(backTo pos (starEach es X.env)).any (·.1)=false):PD X (.Call (.Name x p) (e::es) [] pos) (Ay o g):=by
 intro pins s σ H Q I h
 refine Auu (Eu I hg hm hv ?_ hn hdb)
 exact PyProof.Rows.callWith_type1 (Ajj hc ha I h) he hpl
inductive R1 (K:W.Frag) (H:Hp) (μ:List Addr) (B:Addr->Prop) (d:D) (vs:List V):Prop where
 |mk (v:V) (e:vs=[v]) (r:Rep K H μ B d v)
theorem Reps.one {K:W.Frag}{H:Hp}{μ:List Addr}{B:Addr->Prop}{d:D}{vs:List V} (r:Reps K H μ B [d] vs):R1 K H μ B d vs:=by
 cases r with
 |cons h r=>cases r;exact⟨_,rfl,h⟩
theorem Reps.two {K:W.Frag}{H:Hp}{μ:List Addr}{B:Addr->Prop}{d d':D}{vs:List V} (r:Reps K H μ B [d,d'] vs):∃ v v',vs=[v,v']/\Rep K H μ B d v/\Rep K H μ B d' v':=by
 cases r with
 |cons h r =>
  cases r with
  |cons h' r=>cases r;exact⟨_,_,rfl,h,h'⟩
def Ap2 (m:MH):D->Option Nat
 |.str z=>if z.length<=1000000 then some z.length else none
 |d=>(sq m d).bind fun ds=>some ds.length
def Gv:List D->MH->Option D:=fun xs m=>match xs with
 |[d]=>(Ap2 m d).bind fun n=>some (.int n)
 |_=>none
theorem Ae4 {K:W.Frag}{H:Hp}{μ:List Addr}{m:MH} (S:Sim K H μ m) {d:D}{v:V}{n:Nat} (r:Rep K H μ (·∈μ) d v) (h:Ap2 m d=some n):An6 K v H n:=by
 have seq:((sq m d).bind fun ds=>some ds.length)=some n->An6 K v H n:=fun h=>by
  obtain⟨ds,h1,h2⟩:=bind_some h
  cases h2
  obtain⟨a,xs,rfl,hq,rs⟩:=Rk S r h1
  rcases hq with hq|hq
  ·exact .inl ⟨xs,hq,rs.length⟩
  ·exact .inr ⟨xs,hq,rs.length⟩
 cases r with
 |str z ok =>
  unfold Ap2 at h
  simp only at h
  split at h
  ·cases h;exact⟨big (by assumption),rfl⟩
  ·exact Ac h
 |non=>exact seq h
 |bl _=>exact seq h
 |int _=>exact seq h
 |tup h1 h2=>exact seq h
 |lst h1 h2 h3=>exact seq h
 |kl h1 h2=>exact seq h
 |dic h1 h2 h3 h4=>exact seq h
 |fn _=>exact seq h
 |ref h'=>exact seq h
theorem Ajn:L8 X (.builtin "len") Gv:=by
 intro pins s σ H μ m xs z vs us Q I S rx rv e q
 match xs,e with
 |[d],e =>
  obtain⟨n,h1,h2⟩:=bind_some e
  cases h2
  obtain⟨v,rfl,r⟩:=rx.one
  exact Zd pins s σ H [v] us Q I rv ⟨v,n,rfl,Ae4 S r h1,q _ H (Same.refl H) (.int _)⟩
theorem Ak9 {α:Type}{o:List D->Option α}{xs:List D}{z:α} (hn:o []=none) (hc:∀ a b l,o (a::b::l)=none) (e:o xs=some z):∃ d,xs=[d]:=by
 cases xs with
 |nil=>rw[hn] at e;exact Ac e
 |cons a l =>
  cases l with
  |nil=>exact⟨a,rfl⟩
  |cons b l=>rw[hc] at e;exact Ac e
theorem Eg (z:String):PyData.strOk (Str.ofString z)=true:=by
 rw[Hz]
 intro c hc
 rw[Str.ofString_eq_toList] at hc
 have:c∈z.toList.map Char.toNat:=by simpa using hc
 obtain⟨k,_,rfl⟩:=List.mem_map.mp this
 have:=k.valid
 rcases this with h|h
 ·show k.val.toNat < _
  lia
 ·show k.val.toNat < _
  lia
def Ex:List D->MH->Option D:=fun xs m=>match xs with
 |[d]=>(sq m d).bind fun ds=>some (.tup ds)
 |_=>none
theorem Zg:L8 X (.type "tuple") Ex:=by
 intro pins s σ H μ m xs z vs us Q I S rx rv e q
 match xs,e with
 |[d],e =>
  obtain⟨ds,h1,h2⟩:=bind_some e
  cases h2
  obtain⟨v,rfl,r⟩:=rx.one
  obtain⟨a,ys,rfl,hq,rs⟩:=Rk S r h1
  refine J7 pins s σ H _ us Q I rv ⟨a,ys,rfl,?_⟩
  rcases hq with hq|hq
  ·exact .inl ⟨hq,fun l hl=>q _ _ (A4 hl) (.tup (.inl (.inl As)) (rs.same (A4 hl)))⟩
  ·exact .inr ⟨hq,q _ H (Same.refl H) (.tup hq rs)⟩
noncomputable def tyD (m:MH):D->Option String
 |.non=>some "NoneType"|.bl _=>some "bool"|.int _=>some "int"|.str _=>some "str"|.tup _=>some "tuple"|.lst _=>some "list"|.kl _=>some "list"
 |.ref n=>match m[n]? with
  |some (.lst _)=>some "list"
  |some (.dct _ _)=>none
  |none=>none
 |.dic _ _=>none
 |.fn _ _=>none
noncomputable def Ve (T U:String):Option Bool:=if U="int"\/U="bool"\/U="str"\/U="tuple"\/U="list" then some (T == U||(T == "bool"&&U == "int")) else none
theorem Iw (K:W.Frag) {T U:String}{b:Bool} (hT:T="NoneType"\/T="bool"\/T="int"\/T="str"\/T="tuple"\/T="list") (h:Ve T U=some b):W.kitOne K (.type T) (.type U)=some b:=by
 unfold Ve at h
 split at h
 ·rename_i hU
  cases h
  rcases hT with rfl|rfl|rfl|rfl|rfl|rfl<;>rcases hU with rfl|rfl|rfl|rfl|rfl<;>kernel_rfl
 ·cases h
def Y5 (U:String) (f:FE):FE:=fun env m=>(f env m).bind fun d=>(tyD m d).bind fun T=>(Ve T U).bind fun b=>some (.bl b)
end
section
variable {X:Cx}{a b c e o':Expr}{es:List Expr}{pos p p' apos cpos:Pos}{x:Str}{id T:String}
theorem Aez {pins:List (Addr×Obj)}{σ:St}{H:Hp}{s:Shared}{A:Around}{E:Value->Shared->Prop}{Q:Value->Shared->Prop}{a:Addr}{xs:List V}{c:Value}{b:Bool} (I:Inv X pins σ H s) (h:SqT X.K H a xs) (e:W.kitOne X.K (.type "tuple") c=some b) (q:∀ tk,Q (.bool b) { s with toks:=tk }) :
  wpAny (model X.prog X.w) A (call (.builtin "isinstance") [.ref a,c]) Q E s:=by
 obtain⟨its,_,⟨o,h1,h2,_⟩,_⟩:=I.tuple h
 exact W.kia_one W.kitx_tuple I.kIn ⟨o,h1,h2⟩ e (fun z=>nomatch z) q
theorem Apz {pins:List (Addr×Obj)}{σ:St}{H:Hp}{s:Shared}{A:Around}{E:Value->Shared->Prop}{Q:Value->Shared->Prop}{μ:List Addr}{m:MH}{d:D}{v:V}{u:Value}{T U:String}{b:Bool} (I:Inv X pins σ H s) (S:Sim X.K H μ m) (r:Rep X.K H μ (·∈μ) d v) (ru:RelV v u)
  (h:tyD m d=some T) (hb:Ve T U=some b) (q:∀ tk,Q (.bool b) { s with toks:=tk }):wpAny (model X.prog X.w) A (call (.builtin "isinstance") [u,.type U]) Q E s:=by
 cases r with
 |non=>cases h;exact Ca I ru .non (Iw X.K (by simp) hb) q
 |bl b=>cases h;exact Ca I ru (.bl b) (Iw X.K (by simp) hb) q
 |int b=>cases h;exact Ca I ru (.int b) (Iw X.K (by simp) hb) q
 |str b _=>cases h;exact Ca I ru (.str b) (Iw X.K (by simp) hb) q
 |tup h1 h2=>cases h;cases ru;exact Aez I h1 (Iw X.K (by simp) hb) q
 |lst h1 h2 h3 =>
  cases h
  rcases h1 with h1|⟨o,h1⟩
  ·exact Ca I ru (.lst h1) (Iw X.K (by simp) hb) q
  ·exact Ca I ru (.frz h1) (Iw X.K (by simp) hb) q
 |kl h1 h2 =>
  cases h
  cases ru
  rcases h1 with ⟨o,h1⟩|⟨o,its,n,hk,hc,_⟩
  ·exact Ca (x:=.ref _) (u:=.ref _) I rfl (.frz h1) (Iw X.K (by simp) hb) q
  ·exact W.kia_one W.kitx_list I.kIn ⟨o,I.kIn _ _ hk,hc⟩ (Iw X.K (by simp) hb) (fun z=>nomatch z) q
 |dic h1 h2 h3 h4=>exact Ac h
 |fn _=>exact Ac h
 |@ref n a e =>
  unfold tyD at h
  cases q':m[n]? with
  |none=>simp[q'] at h
  |some ob =>
   simp only[q'] at h
   cases ob with
   |dct _ _=>cases h
   |lst ds =>
    cases h
    obtain⟨xs,e1,e2⟩:=S.obj n a _ e q'
    exact Ca I ru (.lst e1) (Iw X.K (by simp) hb) q
theorem Alw (ha:PD X e f) (hg:Gl X "isinstance") (hm:X.mg "isinstance"=none) (hg':Gl X y) (hm':X.mg y=none) (hv':bootBuiltins y=some (.type U)) (hn:y≠"__name__") (hdb:(y == ("__debug__":Str))=false) (hv:bootBuiltins "isinstance"=some (.builtin "isinstance")) (he:starEach [e,.Name y p'] X.env=(false,eval e X.env)::starEach [.Name y p'] X.env) (he':starEach [.Name y p'] X.env=(false,eval (.Name y p') X.env)::starEach [] X.env) (hpl:(backTo pos (starEach [.Name y p'] X.env)).any (·.1)=false) :
  PD X (.Call (.Name "isinstance" p) [e,.Name y p'] [] pos) (Y5 U f):=by
 intro pins s σ H Q I h
 obtain⟨env,μ,m,z,S,E,h,q⟩:=h
 obtain⟨d,h1,h⟩:=bind_some h
 obtain⟨T,h2,h⟩:=bind_some h
 obtain⟨b,h3,h⟩:=bind_some h
 cases h
 have hA:PA X [e,.Name y p'] (Ahn (tE X.K f) (Ahn (tC (.ty U)) Aru)):=Ot ha (Ot (Afz hg' hm' hv' rfl hn hdb) Acw he') he
 refine Auu (Eu I hg hm hv ?_ (by decide) (by decide))
 refine PyProof.Rows.callWith_builtin1 (thn (hA pos pins s σ H (fun vs H1=>∃ v,vs=[v,.ty U]/\Same H H1/\Rep X.K H1 μ (·∈μ) d v) I ⟨env,μ,m,d,S,E,h1,fun v H1 s1 r1=>⟨v,rfl,s1,r1⟩⟩) fun us s1 ⟨vs,H1,I1,rv,v,e1,s1',rx⟩=>?_) he hpl
 subst e1
 obtain⟨u,w,rfl,r1,r2⟩:=Ahu rv
 cases r2
 have S1:=S.same s1'
 have fin:∀ tk,EP X pins σ Q (.bool b) { s1 with toks:=tk }:=fun tk=>⟨.bl b,H1,I1.tok _,rfl,q _ H1 s1' (.bl b)⟩
 exact Apz I1 S1 rx r1 h2 h3 fin
noncomputable def N2:List D->Option (List Bool)
 |[]=>some []
 |.bl b::ds=>(N2 ds).bind fun bs=>some (b::bs)
 |_=>none
def Aks:List D->MH->Option D:=fun xs m=>match xs with
 |[d]=>(sqL m d).bind fun ds=>(N2 ds).bind fun bs=>some (.bl (bs.all (fun b=>b)))
 |_=>none
theorem Je {K:W.Frag}{H:Hp}{μ:List Addr}{B:Addr->Prop}:∀ {ds:List D}{bs:List Bool}{vs:List V}{us:List Value},Reps K H μ B ds vs->N2 ds=some bs->Vals vs us->us=bs.map Value.bool
 |_,_,_,_,.nil,h,.nil=>by cases h;rfl
 |_,_,_,_,.cons r rs,h,.cons q qs=>by
  cases r<;>first|(cases h;done)|skip
  obtain⟨bs',h1,h2⟩:=bind_some h
  cases h2
  cases q
  rw[Je rs h1 qs]
  rfl
theorem Uk {bs:List Bool}:(List.range bs.length).all (fun i=>bs.getD i false)=bs.all (fun b=>b):=by
 induction bs with
 |nil=>rfl
 |cons b bs ih =>
  rw[Atw,List.range_succ_eq_map,Au7,List.all_map,Au7,<- ih]
  rfl
theorem L0 {bs:List Bool}:TruthOf prog w A (fun i v=>(bs.map Value.bool).toArray[i]?=some v) fun i=>bs.getD i false:=by
 intro i v s Q E h q
 have h':(bs.map Value.bool)[i]?=some v:=by simpa using h
 rw[Aub] at h'
 cases e:bs[i]? with
 |none=>rw[e] at h';cases h'
 |some b =>
  rw[e] at h'
  cases h'
  have q':Q (bs.getD i false) s:=q
  rw[Atx,e] at q'
  exact Avp q'
theorem Ajm (hc:X.calm=true):L8 X (.builtin "all") Aks:=by
 intro pins s σ H μ m xs z vs us Q I S rx rv e q
 match xs,e with
 |[d],e =>
  obtain⟨ds,h1,h2⟩:=bind_some e
  obtain⟨bs,hbs,h3⟩:=bind_some h2
  cases h3
  obtain⟨v,rfl,r⟩:=rx.one
  obtain⟨a,ys,rfl,hq,rs⟩:=Pa S r h1
  obtain⟨u,rfl,r1⟩:=Pg rv
  cases r1
  obtain⟨its,ri,pl,hz⟩:=I.list hq
  have e:=Je rs hbs ri
  subst e
  refine call_all_walk (wpAny_pyIter_list pl.isList ?_)
  have hne:a≠s.heap.objs.size:=At7 (by obtain⟨o,n,e,_⟩:=pl;exact Aty e)
  refine⟨_,_,_,_,_,_,fun i=>bs.getD i false,rfl,Walks.list (A:=X.A.in1) (I.ok.hd hc) _ a hne (bs.map Value.bool).toArray,⟨⟨_,At3 _ rfl,rfl,rfl⟩,?_⟩,L0,fun h' tk hk=>?_⟩
  ·exact pl.isList.at fun o e=>Ato _ e
  ·refine⟨.bl _,H,I.kept (h':=h') (t':=tk) fun b o e=>hk b o (fun z=>?_) (Ato _ e),?_,q _ H (Same.refl H) (.bl _)⟩
   ·have z':b=s.heap.objs.size:=by simpa using z
    exact absurd (Aty e) (by rw[z'];exact Aut _)
   ·show Value.bool _=Value.bool _
    rw[<- Uk]
    simp
mutual
theorem Ab9 {pins:List (Addr×Obj)}{σ:St}{H:Hp}{s:Shared}{A:Around}{d d':D}{v v':V}{u u':Value}{μ:List Addr}{B:Addr->Prop} (I:Inv X pins σ H s) (r:Rep X.K H μ B d v) (r':Rep X.K H μ B d' v') (n:B3 d=true) (n':B3 d'=true) (ru:RelV v u) (ru':RelV v' u') (hu:A.units+dep d' < cLine) :
  SeqAt.EqAt A s u u' (deq d d'):=by
 obtain⟨as,ra⟩:=Dk I r n ru
 obtain⟨bs,rb⟩:=Dk I r' n' ru'
 refine SeqAt.eqAt_reads _ _ _ _ _ _ _ _ ra rb (El r) (El r') ?_
 rw[Hb,Hb]
 lia
end
theorem Ge:∀ {ds:List D}{d:D},A7 ds=true->d∈ds->B3 d=true
 |_::_,_,h,.head _=>(Bool.and_eq_true_iff.mp h).1
 |_::_,_,h,.tail _ q=>Ge (Bool.and_eq_true_iff.mp h).2 q
end
open Classical in
noncomputable section
inductive Out where
 |nx (env:Ax) (m:MH)|rt (d:D) (m:MH)|bk (env:Ax) (m:MH)|ct (env:Ax) (m:MH)
abbrev FS:=Ax->MH->Option Out
def FinS (K:W.Frag) (H:Hp) (μ:List Addr) (o:Out) (Dn:Ends):Prop:=match o with
 |.nx env' m'=>∀ σ' H' μ',Step H μ H' μ'->Sim K H' μ' m'->EnvRep K H' μ' σ' env'->Dn.nx σ' H'
 |.bk env' m'=>∀ σ' H' μ',Step H μ H' μ'->Sim K H' μ' m'->EnvRep K H' μ' σ' env'->Dn.bk σ' H'
 |.ct env' m'=>∀ σ' H' μ',Step H μ H' μ'->Sim K H' μ' m'->EnvRep K H' μ' σ' env'->Dn.ct σ' H'
 |.rt d m'=>∀ v H' μ',Step H μ H' μ'->Sim K H' μ' m'->Rep K H' μ' (·∈μ') d v->Dn.rt v H'
inductive tS (K:W.Frag) (g:FS) (Dn:Ends) (σ:St) (H:Hp):Prop
 |mk (env:Ax) (μ:List Addr) (m:MH) (o:Out) (S:Sim K H μ m) (E:EnvRep K H μ σ env) (h:g env m=some o) (q:FinS K H μ o Dn)
abbrev PSD (X:Cx) (st:Stmt) (g:FS):Prop:=PS X st (tS X.K g)
abbrev Ue (X:Cx) (st:List Stmt) (g:FS):Prop:=PSs X st (tS X.K g)
theorem PS.imp {t t':TS} (h:PS X e t) (i:∀ D σ H,t' D σ H->t D σ H):PS X e t':=fun pins s σ H D I q=>h pins s σ H D I (i D σ H q)
theorem PSs.imp {t t':TS} (h:PSs X e t) (i:∀ D σ H,t' D σ H->t D σ H):PSs X e t':=fun pins s σ H D I q=>h pins s σ H D I (i D σ H q)
theorem PG.imp {t t':TG} (h:PG X e t) (i:∀ v σ H Q,t' v σ H Q->t v σ H Q):PG X e t':=fun pins s σ H v u Q I r q=>h pins s σ H v u Q I r (i v σ H Q q)
theorem FinS.step {K:W.Frag}{H H1:Hp}{μ μ1:List Addr}{m m1:MH}{o:Out}{Dn:Ends} (S:Sim K H μ m) (S1:Sim K H1 μ1 m1) (s:Step H μ H1 μ1) (f:FinS K H μ o Dn):FinS K H1 μ1 o Dn:=by
 have hn:=s.none S S1
 cases o with
 |nx e m'=>exact fun σ' H' μ' s' S' E'=>f σ' H' μ' (s.trans s' hn) S' E'
 |bk e m'=>exact fun σ' H' μ' s' S' E'=>f σ' H' μ' (s.trans s' hn) S' E'
 |ct e m'=>exact fun σ' H' μ' s' S' E'=>f σ' H' μ' (s.trans s' hn) S' E'
 |rt e m'=>exact fun σ' H' μ' s' S' E'=>f σ' H' μ' (s.trans s' hn) S' E'
section
variable {X:Cx}{a b c e:Expr}{es:List Expr}{pos p p':Pos}{x:Str}{st:Stmt}{rest:List Stmt}
noncomputable def Gs:FS:=fun env m=>some (.nx env m)
noncomputable def Bd (f g:FS):FS:=fun env m=>(f env m).bind fun o=>match o with
 |.nx env' m'=>g env' m'
 |o=>some o
theorem Agf:Ue X [] Gs:=PSs.imp Agi fun D σ H ⟨env,μ,m,o,S,E,h,f⟩=>by
 cases h
 exact f σ H μ Step.refl S E
theorem tS.seq {K:W.Frag}{f g:FS}{Dn:Ends}{σ:St}{H:Hp} (h:tS K (Bd f g) Dn σ H):Arv (tS K f) (tS K g) Dn σ H:=by
 obtain⟨env,μ,m,o,S,E,h,q⟩:=h
 obtain⟨o1,h1,h2⟩:=bind_some h
 refine⟨env,μ,m,o1,S,E,h1,?_⟩
 cases o1 with
 |nx env' m'=>exact fun σ' H' μ' s' S' E'=>⟨env',μ',m',o,S',E',h2,q.step S S' s'⟩
 |rt d m'=>cases h2;exact q
 |bk d m'=>cases h2;exact q
 |ct d m'=>cases h2;exact q
theorem Aay (h1:PSD X st f) (h2:Ue X rest g):Ue X (st::rest) (Bd f g):=PSs.imp (Aa4 h1 h2) fun _ _ _ h=>h.seq
theorem Agg (h1:PSD X st f):Ue X [st] f:=Agj h1
noncomputable def Dm (f:FE):FS:=fun env m=>(f env m).bind fun d=>some (.rt d m)
theorem Agh (he:PD X e f):PSD X (.Return (some e) pos) (Dm f):=PS.imp (Ac1 he) fun D σ H ⟨env,μ,m,o,S,E,h,q⟩=>by
 obtain⟨d,h1,h2⟩:=bind_some h
 cases h2
 exact⟨env,μ,m,d,S,E,h1,fun v H' s r=>q v H' μ (Step.of_same s) (S.same s) r⟩
theorem Sim.push {K:W.Frag}{H H':Hp}{μ:List Addr}{m:MH}{a:Addr}{ds:List D}{xs:List V} (S:Sim K H μ m) (s:Same H H') (hn:H a=none) (ha:H' a=some (.lst xs)) (r:Reps K H' μ (nw μ a) ds xs) :
  Step H μ H' (μ++[a])/\Sim K H' (μ++[a]) (m++[.lst ds]):=by
 have st:Step H μ H' (μ++[a]):=⟨⟨[a],rfl,fun b hb=>by rw[show b=a by simpa using hb];exact hn⟩,fun b o e _=>s b o e⟩
 have na:a∉μ:=S.nnone hn
 refine⟨st,?_,?_,fun n b o h1 h2=>?_⟩
 ·rw[List.nodup_append]
  exact⟨S.nd,by simp,fun b hb c hc z=>na (by rw[<- show c=a by simpa using hc,<- z];exact hb)⟩
 ·simp[S.len]
 ·by_cases hl:n < μ.length
  ·rw[At4 hl] at h1
   rw[At4 (by rw[<- S.len];exact hl)] at h2
   have q:=S.obj n b o h1 h2
   cases o with
   |lst es=>obtain⟨ys,q1,q2⟩:=q;exact⟨ys,s _ _ q1,q2.step S st⟩
   |dct ks vs=>obtain⟨ys,q1,q2,q3⟩:=q;exact⟨ys,s _ _ q1,q2,q3.step S st⟩
  ·have e:n=μ.length:=by
    have:=(List.getElem?_eq_some_iff.mp h1).1
    rw[At8,Avg] at this
    lia
   subst e
   rw[Aud (Atp _)] at h1
   rw[S.len,Aud (Atp _)] at h2
   simp at h1 h2
   subst h1
   subst h2
   refine⟨xs,ha,r.up (fun _ _ _ h=>h) (fun c u _ h b=>⟨h,fun z=>b ?_⟩) fun _ _ h=>st.ix h⟩
   rcases List.mem_append.mp z with z|z
   ·exact .inl z
   ·exact .inr (by simpa using z)
noncomputable def Yb (f:FL):FS:=fun env m=>(f env m).bind fun ds=>some (.rt (.ref m.length) (m++[.lst ds]))
theorem Ls {K:W.Frag}{H:Hp}{μ:List Addr}{B:Addr->Prop}{m:MH}{a:Addr} (hl:μ.length=m.length):Rep K H (μ++[a]) B (.ref m.length) (.ref a):=.ref (by rw[<- hl];simp)
theorem Aa2 {f:FL} (he:PF X e f):PSD X (.Return (some e) pos) (Yb f):=PS.imp (Ac1 he) fun D σ H ⟨env,μ,m,o,S,E,h,q⟩=>by
 obtain⟨ds,h1,h2⟩:=bind_some h
 cases h2
 refine⟨env,μ,m,ds,S,E,h1,fun a xs H' s hn ha r=>?_⟩
 obtain⟨st,S'⟩:=S.push s hn ha r
 exact q _ H' _ st S' (Ls S.len)
noncomputable def sIf (t:FB) (f g:FS):FS:=fun env m=>(t env m).bind fun c=>if c=true then f env m else g env m
theorem Amf {t:FB} (hc:PB X c t) (ha:Ue X sa f) (hb:Ue X sb g):PSD X (.If c sa sb pos) (sIf t f g):=PS.imp (Aqn hc ha hb) fun D σ H ⟨env,μ,m,o,S,E,h,q⟩=>by
 obtain⟨b,h1,h2⟩:=bind_some h
 refine⟨env,μ,m,b,S,E,h1,fun H1 s1=>?_⟩
 have st:=Step.of_same (μ:=μ) s1
 cases b with
 |true =>
  rw[Atq rfl] at h2
  exact Ap1 ⟨env,μ,m,o,S.same s1,E.same s1,h2,q.step S (S.same s1) st⟩
 |false =>
  rw[Atl At5] at h2
  exact Ap0 ⟨env,μ,m,o,S.same s1,E.same s1,h2,q.step S (S.same s1) st⟩
abbrev FG:=D->Ax->Option Ax
inductive tG (K:W.Frag) (g:FG) (v:V) (σ:St) (H:Hp) (Q:St->Hp->Prop):Prop
 |mk (env:Ax) (μ:List Addr) (m:MH) (d:D) (env':Ax) (S:Sim K H μ m) (E:EnvRep K H μ σ env) (r:Rep K H μ (·∈μ) d v) (h:g d env=some env') (q:∀ σ',EnvRep K H μ σ' env'->Q σ' H)
inductive tGs (K:W.Frag) (g:List D->Ax->Option Ax) (vs:List V) (σ:St) (H:Hp) (Q:St->Hp->Prop):Prop
 |mk (env:Ax) (μ:List Addr) (m:MH) (ds:List D) (env':Ax) (S:Sim K H μ m) (E:EnvRep K H μ σ env) (r:Reps K H μ (·∈μ) ds vs) (h:g ds env=some env') (q:∀ σ',EnvRep K H μ σ' env'->Q σ' H)
abbrev PGD (X:Cx) (e:Expr) (g:FG):Prop:=PG X e (tG X.K g)
abbrev Aia (X:Cx) (es:List Expr) (g:List D->Ax->Option Ax):Prop:=PGs X es (tGs X.K g)
theorem PGs.imp {X:Cx}{e:List Expr}{t t':TGs} (h:PGs X e t) (i:∀ v σ H Q,t' v σ H Q->t v σ H Q):PGs X e t':=fun pins s σ H v u Q I r q=>h pins s σ H v u Q I r (i v σ H Q q)
noncomputable def Ar (i:Nat):FG:=fun d env=>some (env.set i (some d))
theorem Rf (hN:X.N.Nodup) (hi:X.N[i]?=some x) (hx:Loc X.env.scope x) (hf:X.fn x=true\/X.env.scope.names.lookup x=some .local):PGD X (.Name x pos) (Ar i):=PG.imp (Af2 hN hi hx hf) fun v σ H Q ⟨env,μ,m,d,env',S,E,r,h,q⟩=>by
 cases h
 exact q _ (E.set i r)
noncomputable def Po:List D->Ax->Option Ax:=fun ds env=>match ds with|[]=>some env|_=>none
noncomputable def B2 (g:FG) (h:List D->Ax->Option Ax):List D->Ax->Option Ax:=fun ds env=>match ds with
 |d::ds=>(g d env).bind fun env'=>h ds env'
 |[]=>none
theorem Aat:Aia X [] Po:=PGs.imp Af4 fun v σ H Q ⟨env,μ,m,ds,env',S,E,r,h,q⟩=>by
 cases r with
 |nil=>cases h;exact⟨rfl,q _ E⟩
 |cons _ _=>exact Ac h
theorem Xm {g:FG}{h:List D->Ax->Option Ax} (h1:PGD X e g) (h2:Aia X es h) (hs:(assignEach (e::es) X.env).map (·.2)=assign e X.env::(assignEach es X.env).map (·.2)):Aia X (e::es) (B2 g h) :=
 PGs.imp (Aas h1 h2 hs) fun v σ H Q ⟨env,μ,m,ds,env',S,E,r,h,q⟩=>by
  cases r with
  |nil=>exact Ac h
  |cons r rs =>
   obtain⟨env1,h1,h2⟩:=bind_some h
   exact⟨_,_,rfl,env,μ,m,_,env1,S,E,r,h1,fun σ' E'=>⟨env1,μ,m,_,env',S,E',rs,h2,q⟩⟩
noncomputable def Im (n:Nat) (g:List D->Ax->Option Ax):FG:=fun d env=>match d with
 |.tup ds=>if ds.length=n then g ds env else none
 |_=>none
theorem Af3 (hc:X.calm=true) (h:Aia X es g) (hn:(assignEach es X.env).length=n) (hst:(assignEach es X.env).findIdx? (·.1)=none):PGD X (.Tuple es k pos) (Im n g) :=
 PG.imp (Amc hc h hn hst) fun v σ H Q ⟨env,μ,m,d,env',S,E,r,h,q⟩=>by
  cases r with
  |@tup ds a xs hq rs =>
   unfold Im at h
   simp only at h
   split at h
   ·rename_i hl
    exact⟨a,xs,rfl,hq,by rw[<- rs.length];exact hl,env,μ,m,ds,env',S,E,rs,h,q⟩
   ·exact Ac h
  |_=>exact Ac h
noncomputable def Bs (i:Nat) (f:FE):FS:=fun env m=>(f env m).bind fun d=>some (.nx (env.set i (some d)) m)
theorem Ow (hN:X.N.Nodup) (hi:X.N[i]?=some x) (hx:Loc X.env.scope x) (he:PD X e f) (hs:swapsWith e (some (.Name x p')) pos.line X.env=pure false) (hf:X.fn x=true\/X.env.scope.names.lookup x=some .local) :
  PSD X (.Assign [.Name x p'] e pos) (Bs i f):=PS.imp (Xr hN hi hx he hs hf) fun D σ H ⟨env,μ,m,o,S,E,h,q⟩=>by
 obtain⟨d,h1,h2⟩:=bind_some h
 cases h2
 exact⟨env,μ,m,d,S,E,h1,fun v H' s r=>q _ H' μ (Step.of_same s) (S.same s) ((E.same s).set i r)⟩
noncomputable def Ip (i:Nat) (f:FL):FS:=fun env m=>(f env m).bind fun ds=>some (.nx (env.set i (some (.ref m.length))) (m++[.lst ds]))
theorem Age {i:Nat}{f:FL} (hN:X.N.Nodup) (hi:X.N[i]?=some x) (hx:Loc X.env.scope x) (he:PF X e f) (hs:swapsWith e (some (.Name x p')) pos.line X.env=pure false) (hf:X.fn x=true\/X.env.scope.names.lookup x=some .local) :
  PSD X (.Assign [.Name x p'] e pos) (Ip i f):=PS.imp (Xr hN hi hx he hs hf) fun D σ H ⟨env,μ,m,o,S,E,h,q⟩=>by
 obtain⟨ds,h1,h2⟩:=bind_some h
 cases h2
 refine⟨env,μ,m,ds,S,E,h1,fun a xs H' s hn ha r=>?_⟩
 obtain⟨st,S'⟩:=S.push s hn ha r
 exact q _ H' _ st S' ((E.step S st).set i (Ls S.len))
noncomputable def Amx (f:FE) (g:FG):FS:=fun env m=>(f env m).bind fun d=>(g d env).bind fun env'=>some (.nx env' m)
theorem Agc (he:PD X e f) (hg:PGD X tg g) (hs:swapsWithSole [tg] e pos.line X.env=pure false) (hw:swappedStores [tg] e X.env=pure none) (h1:(assignEach [tg] X.env).map (·.2)=[assign tg X.env]) :
  PSD X (.Assign [tg] e pos) (Amx f g):=PS.imp (Xq he hg hs hw h1) fun D σ H ⟨env,μ,m,o,S,E,h,q⟩=>by
 obtain⟨d,h1,h2⟩:=bind_some h
 obtain⟨env',hg',h3⟩:=bind_some h2
 cases h3
 exact⟨env,μ,m,d,S,E,h1,fun v H' s r=>⟨env,μ,m,d,env',S.same s,E.same s,r,hg',fun σ' E'=>q σ' H' μ (Step.of_same s) (S.same s) E'⟩⟩
end
end
open Classical
noncomputable section
section
variable {X:Cx}{a b c e:Expr}{es:List Expr}{pos p p':Pos}{x:Str}{st:Stmt}{rest:List Stmt}
noncomputable def Io (chk:MH->Prop) (g:FG) (b:FS):List D->Ax->MH->Option Out
 |[],env,m=>if chk m then some (.nx env m) else none
 |d::ds,env,m=>if chk m then (g d env).bind fun env1=>(b env1 m).bind fun o=>match o with
   |.nx env2 m2=>Io chk g b ds env2 m2
   |.ct env2 m2=>Io chk g b ds env2 m2
   |.bk env2 m2=>some (.nx env2 m2)
   |.rt d m2=>some (.rt d m2)
  else none
structure Src (K:W.Frag) (J:It) (all:List D) (chk:MH->Prop) (src:Hp->List Addr->MH->Prop):Prop where
 go:∀ H μ m (i:Nat) d,Sim K H μ m->src H μ m->chk m->all[i]?=some d->J.go i H/\∀ x H',J.yld i H x H'->Same H H'/\Rep K H' μ (·∈μ) d x
 stop:∀ H μ m,Sim K H μ m->src H μ m->chk m->J.stop all.length H
 keep:∀ H μ m H' μ' m',src H μ m->Sim K H μ m->Step H μ H' μ'->Sim K H' μ' m'->src H' μ' m'
theorem Zp {K:W.Frag}{J:It}{all:List D}{chk:MH->Prop}{src:Hp->List Addr->MH->Prop} (hs:Src K J all chk src) {g:FG}{b:FS}{Dn:Ends}{σ:St}{H:Hp}{env:Ax}{μ:List Addr}{m:MH}{o:Out}
  (S:Sim K H μ m) (E:EnvRep K H μ σ env) (h0:src H μ m) (h:Io chk g b all env m=some o) (f:FinS K H μ o Dn) :
  ∃ W:Nat->Nat->St->Hp->Prop,(∃ m,W 0 m σ H)/\∀ i m σ H,W i m σ H ->
   (J.stop i H/\Dn.nx σ H)\/(J.go i H/\∃ N:St->Hp->Prop,(∀ σ' H',N σ' H'->∃ m',m' < m/\W (i+1) m' σ' H')/\∀ x H',J.yld i H x H'->tG K g x σ H' fun σ2 H2=>tS K b { Dn with nx:=N,ct:=N,bk:=Dn.nx } σ2 H2):=by
 refine⟨fun i k σ H=>k=all.length - i/\i<=all.length/\∃ env μ m,Sim K H μ m/\EnvRep K H μ σ env/\src H μ m/\Io chk g b (all.drop i) env m=some o/\FinS K H μ o Dn,⟨all.length,by simp,Aup _,env,μ,m,S,E,h0,by simpa using h,f⟩,?_⟩
 rintro i k σ1 H1 ⟨rfl,hi,env1,μ1,m1,S1,E1,h1,e1,f1⟩
 by_cases hlt:i < all.length
 ·have hd:all.drop i=all[i]::all.drop (i+1):=At9 hlt
  rw[hd] at e1
  unfold Io at e1
  split at e1
  ·rename_i hc
   obtain⟨env2,e2,e1⟩:=bind_some e1
   obtain⟨o2,e3,e4⟩:=bind_some e1
   obtain⟨go,yl⟩:=hs.go H1 μ1 m1 i all[i] S1 h1 hc (by simp[hlt])
   refine .inr ⟨go,fun σ' H'=>all.length - (i+1) < all.length - i/\i+1<=all.length/\∃ env μ m,Sim K H' μ m/\EnvRep K H' μ σ' env/\src H' μ m/\Io chk g b (all.drop (i+1)) env m=some o/\FinS K H' μ o Dn,fun σ' H' ⟨l1,l2,q⟩=>⟨_,l1,rfl,l2,q⟩,fun x H2 y=>?_⟩
   obtain⟨s2,r2⟩:=yl x H2 y
   have S2:=S1.same s2
   refine⟨env1,μ1,m1,all[i],env2,S2,E1.same s2,r2,e2,fun σ' E'=>⟨env2,μ1,m1,o2,S2,E',e3,?_⟩⟩
   have f2:=f1.step S1 S2 (Step.of_same s2)
   have h2:=hs.keep H1 μ1 m1 H2 μ1 m1 h1 S1 (Step.of_same s2) S2
   cases o2 with
   |nx env3 m3=>exact fun σ3 H3 μ3 st3 S3 E3=>⟨by lia,hlt,env3,μ3,m3,S3,E3,hs.keep _ _ _ _ _ _ h2 S2 st3 S3,e4,f2.step S2 S3 st3⟩
   |ct env3 m3=>exact fun σ3 H3 μ3 st3 S3 E3=>⟨by lia,hlt,env3,μ3,m3,S3,E3,hs.keep _ _ _ _ _ _ h2 S2 st3 S3,e4,f2.step S2 S3 st3⟩
   |bk env3 m3=>cases e4;exact f2
   |rt d m3=>cases e4;exact f2
  ·cases e1
 ·have e:i=all.length:=by lia
  subst e
  rw[List.drop_length] at e1
  unfold Io at e1
  split at e1
  ·rename_i hc
   cases e1
   exact .inl ⟨hs.stop H1 μ1 m1 S1 h1 hc,f1 σ1 H1 μ1 Step.refl S1 E1⟩
  ·exact Ac e1
structure Wk where
 all:List D
 chk:MH->Prop
abbrev FW:=Ax->MH->Option Wk
inductive tW (K:W.Frag) (f:FW) (σ:St) (H:Hp) (R:It->Hp->Prop):Prop
 |mk (env:Ax) (μ:List Addr) (m:MH) (w:Wk) (S:Sim K H μ m) (E:EnvRep K H μ σ env) (h:f env m=some w) (q:∀ H' J src,Same H H'->Src K J w.all w.chk src->src H' μ m->R J H')
abbrev PW' (X:Cx) (tg e:Expr) (f:FW):Prop:=PI X tg e (tW X.K f)
def Nf (f:FW) (g:FG) (b:FS):FS:=fun env m=>(f env m).bind fun w=>Io w.chk g b w.all env m
theorem PI.imp {t t':TI} (h:PI X tg e t) (i:∀ σ H Q,t' σ H Q->t σ H Q):PI X tg e t':=fun pins s σ H Q I q=>h pins s σ H Q I (i σ H Q q)
theorem Agd {tg iter:Expr}{body:List Stmt}{f:FW}{g:FG}{b:FS} (hp:PassesOwn (model X.prog X.w) X.A X.env X.xe) (hc:X.calm=true) (hi:PW' X tg iter f) (hg:PGD X tg g) (hb:Ue X body b)
  (hs:∀ x,foldedSetIterable iter X.env x=pure x):PSD X (.For tg iter body [] pos) (Nf f g b):=PS.imp (Ame hp hc hi hg hb hs) fun D σ H ⟨env,μ,m,o,S,E,h,q⟩=>by
 obtain⟨w,h1,h2⟩:=bind_some h
 exact⟨env,μ,m,w,S,E,h1,fun H' J src s hsrc h0=>Zp hsrc (S.same s) (E.same s) h0 h2 (q.step S (S.same s) (Step.of_same s))⟩
def Az:MH->Prop:=fun _=>True
theorem Ahi {K:W.Frag}{a:Addr}{ds:List D}:Src K (Itt K a) ds Az (fun H μ m=>Rep K H μ (·∈μ) (.tup ds) (.ref a)) where
 go:=fun H μ m i d S h _ e=>by
  cases h with
  |tup hq rs =>
   obtain⟨v,e1,r⟩:=rs.get e
   exact⟨⟨_,v,hq,e1⟩,fun x H' ⟨h1,h2⟩=>by subst h1;rw[h2 _ hq] at e1;cases e1;exact⟨Same.refl _,r⟩⟩
 stop:=fun H μ m S h _=>by
  cases h with
  |tup hq rs=>exact⟨_,hq,by rw[rs.length];exact Atp _⟩
 keep:=fun H μ m H' μ' m' h S st S'=>h.step S st
theorem Ahe {K:W.Frag}{a:Addr}{ds:List D}:Src K (Itl K a) ds Az (fun H μ m=>Rep K H μ (·∈μ) (.lst ds) (.ref a)) where
 go:=fun H μ m i d S h _ e=>by
  cases h with
  |lst hq _ rs =>
   obtain⟨v,e1,r⟩:=rs.get e
   exact⟨⟨_,v,.inl hq,e1⟩,fun x H' ⟨h1,h2⟩=>by subst h1;rw[h2 _ (.inl hq)] at e1;cases e1;exact⟨Same.refl _,r⟩⟩
 stop:=fun H μ m S h _=>by
  cases h with
  |lst hq _ rs=>exact⟨_,.inl hq,by rw[rs.length];exact Atp _⟩
 keep:=fun H μ m H' μ' m' h S st S'=>h.step S st
theorem Am5 {K:W.Frag}{a:Addr}{ds:List D}:Src K (Itl K a) ds Az (fun H μ m=>Rep K H μ (·∈μ) (.kl ds) (.ref a)) where
 go:=fun H μ m i d S h _ e=>by
  cases h with
  |kl hq rs =>
   obtain⟨v,e1,r⟩:=rs.get e
   exact⟨⟨_,v,hq.sq,e1⟩,fun x H' ⟨h1,h2⟩=>by subst h1;rw[h2 _ hq.sq] at e1;cases e1;exact⟨Same.refl _,r⟩⟩
 stop:=fun H μ m S h _=>by
  cases h with
  |kl hq rs=>exact⟨_,hq.sq,by rw[rs.length];exact Atp _⟩
 keep:=fun H μ m H' μ' m' h S st S'=>h.step S st
theorem Ahg {K:W.Frag}{a:Addr}{ds:List D}{n:Nat}:Src K (Itl K a) ds (fun m=>m[n]?=some (.lst ds)) (fun H μ m=>μ[n]?=some a) where
 go:=fun H μ m i d S h hc e=>by
  obtain⟨xs,e1,rs⟩:=S.obj n a _ h hc
  obtain⟨v,e2,r⟩:=rs.get e
  exact⟨⟨_,v,SqL.of e1,e2⟩,fun x H' ⟨h1,h2⟩=>by subst h1;rw[h2 _ (SqL.of e1)] at e2;cases e2;exact⟨Same.refl _,r⟩⟩
 stop:=fun H μ m S h hc=>by
  obtain⟨xs,e1,rs⟩:=S.obj n a _ h hc
  exact⟨_,SqL.of e1,by rw[rs.length];exact Atp _⟩
 keep:=fun H μ m H' μ' m' h S st S'=>st.ix h
noncomputable def B1 (lo:Int) (n:Nat):List D:=(List.range n).map fun (i:Nat)=>.int (lo+i)
theorem Yk {K:W.Frag}{lo:Int}{n:Nat}:Src K (Itr lo n) (B1 lo n) Az (fun _ _ _=>True) where
 go:=fun H μ m i d S h _ e=>by
  unfold B1 at e
  rw[Aub] at e
  cases q:(List.range n)[i]? with
  |none=>rw[q] at e;cases e
  |some j =>
   rw[q] at e
   cases e
   have hi:=(List.getElem?_eq_some_iff.mp q).1
   rw[List.length_range] at hi
   rw[List.getElem?_range hi] at q
   cases q
   exact⟨hi,fun x H' ⟨h1,h2⟩=>by subst h1;subst h2;exact⟨Same.refl _,.int _⟩⟩
 stop:=fun H μ m S h _=>by show n<=(B1 lo n).length;unfold B1;simp
 keep:=fun H μ m H' μ' m' h S st S'=>trivial
def Gx (g:FL):FW:=fun env m=>(g env m).bind fun ds=>match ds with
 |[.int j]=>if -(2 ^ 62)<=j/\j < 2 ^ 62 then some ⟨B1 0 j.toNat,Az⟩ else none
 |_=>none
theorem Xx (hg:Gl X "range") (hm:X.mg "range"=none) (ha:PL X [a] g) (hs:starEach [a] X.env=[(false,eval a X.env)]):PW' X tg (.Call (.Name "range" p) [a] [] pos) (Gx g):=PI.imp (Xn hg hm ha hs) fun σ H R ⟨env,μ,m,w,S,E,h,q⟩=>by
 obtain⟨ds,h1,h2⟩:=bind_some h
 refine⟨env,μ,m,ds,S,E,h1,fun vs H' s rs=>?_⟩
 obtain⟨j,rfl⟩:∃ j,ds=[.int j]:=by
  cases ds with
  |nil=>cases h2
  |cons d ds =>
   cases ds with
   |cons _ _=>cases d<;>cases h2
   |nil =>
    cases d with
    |int j=>exact⟨j,rfl⟩
    |_=>cases h2
 simp only at h2
 split at h2
 ·rename_i hc
  cases h2
  obtain⟨v,rfl,r⟩:=rs.one
  cases r
  exact⟨j,rfl,hc.1,hc.2,q H' _ _ s Yk trivial⟩
 ·exact Ac h2
noncomputable def Eh (c:FB) (b:FS):Nat->Ax->MH->Option Out
 |0,_,_=>none
 |k+1,env,m=>(c env m).bind fun t=>if t=true then (b env m).bind fun o=>match o with
   |.nx env2 m2=>Eh c b k env2 m2
   |.ct env2 m2=>Eh c b k env2 m2
   |.bk env2 m2=>some (.nx env2 m2)
   |.rt d m2=>some (.rt d m2)
  else some (.nx env m)
theorem Xu {f:FB}{b:FS}{body:List Stmt} (k:Nat) (hp:PassesOwn (model X.prog X.w) X.A X.env X.xe) (hc:PB X c f) (hb:Ue X body b):PSD X (.While c body [] pos) (Eh f b k):=PS.imp (Aax hp hc hb) fun D σ H ⟨env,μ,m,o,S,E,h,q⟩=>by
 refine⟨fun k σ H=>∃ env μ m,Sim X.K H μ m/\EnvRep X.K H μ σ env/\Eh f b k env m=some o/\FinS X.K H μ o D,⟨k,env,μ,m,S,E,h,q⟩,?_⟩
 rintro k σ1 H1 ⟨env1,μ1,m1,S1,E1,e1,f1⟩
 cases k with
 |zero=>cases e1
 |succ k =>
  unfold Eh at e1
  obtain⟨t,e2,e3⟩:=bind_some e1
  refine⟨env1,μ1,m1,t,S1,E1,e2,fun H2 s2=>?_⟩
  have S2:=S1.same s2
  have f2:=f1.step S1 S2 (Step.of_same s2)
  cases t with
  |true =>
   rw[Atq rfl] at e3
   obtain⟨o2,e3,e4⟩:=bind_some e3
   refine Ap1 ⟨fun σ' H'=>∃ env μ m,Sim X.K H' μ m/\EnvRep X.K H' μ σ' env/\Eh f b k env m=some o/\FinS X.K H' μ o D,fun σ' H' q=>⟨k,Awg k,q⟩,env1,μ1,m1,o2,S2,E1.same s2,e3,?_⟩
   cases o2 with
   |nx env3 m3=>exact fun σ3 H3 μ3 st3 S3 E3=>⟨env3,μ3,m3,S3,E3,e4,f2.step S2 S3 st3⟩
   |ct env3 m3=>exact fun σ3 H3 μ3 st3 S3 E3=>⟨env3,μ3,m3,S3,E3,e4,f2.step S2 S3 st3⟩
   |bk env3 m3=>cases e4;exact f2
   |rt d m3=>cases e4;exact f2
  |false =>
   rw[Atl At5] at e3
   cases e3
   exact Ap0 (f2 σ1 H2 μ1 Step.refl S2 (E1.same s2))
end
mutual
/-- without lists -/
def A8:D->Bool
 |.lst _=>false
 |.kl _=>false
 |.ref _=>false
 |.dic _ _=>false
 |.fn _ _=>false
 |.tup ds=>Au ds
 |_=>true
def Au:List D->Bool
 |[]=>true
 |d::ds=>A8 d&&Au ds
end
noncomputable def xp1 (m:MH):D->Option D
 |.ref n=>match m[n]? with
  |some (.lst ds)=>if Au ds=true then some (.lst ds) else none
  |_=>none
 |_=>none
def xpL (m:MH):List D->Option (List D)
 |[]=>some []
 |d::ds=>(xp1 m d).bind fun e=>(xpL m ds).bind fun es=>some (e::es)
mutual
/-- what is handed back: the mirror's own lists,as they stand -/
def B0 (m:MH):D->Option D
 |.ref n=>match m[n]? with
  |some (.lst ds)=>if Au ds=true then some (.lst ds) else (xpL m ds).bind fun es=>some (.lst es)
  |some (.dct ks vs)=>if Au vs=true then some (.dic ks vs) else none
  |_=>none
 |.lst _=>none
 |.kl _=>none
 |.dic _ _=>none
 |.fn _ _=>none
 |.tup ds=>(Ij m ds).bind fun es=>some (.tup es)
 |.non=>some .non
 |.bl b=>some (.bl b)
 |.int i=>some (.int i)
 |.str x=>some (.str x)
def Ij (m:MH):List D->Option (List D)
 |[]=>some []
 |d::ds=>(B0 m d).bind fun e=>(Ij m ds).bind fun es=>some (e::es)
end
section
variable {K:W.Frag}{H H':Hp}{μ μ':List Addr}{B B':Addr->Prop}{m:MH}
mutual
theorem Rep.nolst {d:D}{v:V} (r:Rep K H μ B d v) (e:A8 d=true):Rep K H μ' B' d v:=by
 cases r with
 |non=>exact .non
 |bl b=>exact .bl b
 |int b=>exact .int b
 |str b h=>exact .str b h
 |tup h r=>exact .tup h (Reps.nolst r e)
 |_=>exact C4 e
theorem Reps.nolst {ds:List D}{vs:List V} (r:Reps K H μ B ds vs) (e:Au ds=true):Reps K H μ' B' ds vs:=by
 cases r with
 |nil=>exact .nil
 |cons h r =>
  have e':=(Bool.and_eq_true_iff.mp e)
  exact .cons (Rep.nolst h e'.1) (Reps.nolst r e'.2)
end
theorem Ahw (S:Sim K H μ m) (hn:∀ a∈μ,B a->False) {d d':D}{v:V} (r:Rep K H μ (·∈μ) d v) (h:xp1 m d=some d'):Rep K H [] B d' v:=by
 cases r with
 |@ref n a e =>
  unfold xp1 at h
  cases q:m[n]? with
  |none=>simp[q] at h
  |some o =>
   simp only[q] at h
   cases o with
   |dct _ _=>exact Ac h
   |lst ds =>
    simp only at h
    split at h
    ·rename_i hl
     cases h
     obtain⟨xs,e1,e2⟩:=S.obj n a _ e q
     exact .lst (.inl e1) (hn a (Aui e)) (e2.nolst hl)
    ·exact Ac h
 |_=>exact Ac h
theorem Ahx (S:Sim K H μ m) (hn:∀ a∈μ,B a->False) {ds ds':List D}{vs:List V} (r:Reps K H μ (·∈μ) ds vs) (h:xpL m ds=some ds'):Reps K H [] B ds' vs:=by
 induction ds generalizing ds' vs with
 |nil=>cases r;cases h;exact .nil
 |cons d ds ih =>
  cases r with
  |cons r rs =>
  obtain⟨e,h1,h⟩:=bind_some h
  obtain⟨es,h2,h⟩:=bind_some h
  cases h
  exact .cons (Ahw S hn r h1) (ih rs h2)
mutual
theorem Ii (S:Sim K H μ m) (hn:∀ a∈μ,B a->False):∀ {d d':D}{v:V},Rep K H μ (·∈μ) d v->B0 m d=some d'->Rep K H [] B d' v
 |_,_,_,.non,h=>by cases h;exact .non
 |_,_,_,.bl b,h=>by cases h;exact .bl b
 |_,_,_,.int b,h=>by cases h;exact .int b
 |_,_,_,.str b ok,h=>by cases h;exact .str b ok
 |_,_,_,.tup hq r,h=>by
  rw[B0] at h
  obtain⟨es,h1,h2⟩:=bind_some h
  cases h2
  exact .tup hq (Jz S hn r h1)
 |_,_,_,.lst _ _ _,h=>nomatch h
 |_,_,_,.kl _ _,h=>Ac h
 |_,_,_,.dic _ _ _ _,h=>Ac h
 |_,_,_,.fn _,h=>nomatch h
 |.ref n,_,_,.ref (a:=a) e,h=>by
  rw[B0] at h
  cases q:m[n]? with
  |none=>simp[q] at h
  |some o =>
   simp only[q] at h
   cases o with
   |dct ks vs =>
    simp only at h
    split at h
    ·rename_i hl
     cases h
     obtain⟨xs,e1,e2,e3⟩:=S.obj n a _ e q
     exact .dic (.inl e1) (hn a (Aui e)) e2 (e3.nolst hl)
    ·cases h
   |lst ds =>
    simp only at h
    split at h
    ·rename_i hl
     cases h
     obtain⟨xs,e1,e2⟩:=S.obj n a _ e q
     exact .lst (.inl e1) (hn a (Aui e)) (e2.nolst hl)
    ·obtain⟨es,h1,h⟩:=bind_some h
     cases h
     obtain⟨xs,e1,e2⟩:=S.obj n a _ e q
     exact .lst (.inl e1) (hn a (Aui e)) (Ahx S hn e2 h1)
theorem Jz (S:Sim K H μ m) (hn:∀ a∈μ,B a->False):∀ {ds ds':List D}{vs:List V},Reps K H μ (·∈μ) ds vs->Ij m ds=some ds'->Reps K H [] B ds' vs
 |_,_,_,.nil,h=>by cases h;exact .nil
 |_,_,_,.cons r rs,h=>by
  rw[Ij] at h
  obtain⟨d',h1,h⟩:=bind_some h
  obtain⟨ds',h2,h⟩:=bind_some h
  cases h
  exact .cons (Ii S hn r h1) (Jz S hn rs h2)
end
end
def old (H H':Hp):Addr->Prop:=fun a=>H a≠none\/∃ o u,H' a=some (.frz o u)
inductive spP (K:W.Frag) (n:Nat) (fn:List D->Option D) (vs:List V) (H:Hp) (Q:VK) (E:XK):Prop
 |mk (ds:List D) (d:D) (r:Reps K H [] (fun _=>False) ds vs) (l:ds.length=n) (h:fn ds=some d) (q:∀ v H',Same H H'->Rep K H' [] (old H H') d v->Q v H')
noncomputable def Ef (n:Nat) (g:FS):List D->Option D:=fun ds=>(g (ds.map some++List.replicate (n - ds.length) none) []).bind fun o=>match o with
 |.rt d m=>B0 m d
 |.nx _ _=>some .non
 |_=>none
theorem Dr {K:W.Frag}{H:Hp}{N:List Str}{ds:List D}{vs:List V} (r:Reps K H [] (fun _=>False) ds vs):EnvRep K H [] (E2 N vs) (ds.map some++List.replicate (N.length - ds.length) none):=by
 refine⟨by unfold E2;simp[r.length],fun i d e=>?_⟩
 by_cases hi:i < ds.length
 ·rw[At4 (by simpa using hi),Aub] at e
  cases q:ds[i]? with
  |none=>rw[q] at e;cases e
  |some d' =>
   rw[q] at e
   cases e
   obtain⟨v,h1,h2⟩:=r.get q
   refine⟨v,?_,h2.up (fun _ _ _ h=>h) (fun _ _ _ h _=>⟨h,by simp⟩) fun _ _ h=>h⟩
   unfold E2
   rw[At4 (by simpa [r.length] using hi),Aub,h1]
   rfl
 ·rw[Aud (by simpa using hi),Avv] at e
  split at e<;>cases e
theorem Aei {P:Program}{w:World}{K:W.Frag}{mg:Str->Option Value}{base:Heap}{x qual:Str}{st:Stmt}{f:Addr}{fd:FuncData}{N ps:List Str}{k:Nat}{g:FS} (F:Fun K x qual st f fd) (S:FnScope N ps (Am st))
  (hbody:∀ (cdv:Value) (A:Around) (outer:List Env) (s:Shared) (H:Hp) (E:XK),Room k (A.deeper (envOfC qual (Am st) s.heap.objs.size f cdv)) ->
   Ue (N7 CX0 P w K mg base N qual (Am st) f cdv A outer s H E).nox (Bi st) g):FnOk P w K mg base CX0 (k+1) f fd ps (spP K ps.length (Ef N.length g)):=by
 refine F.ok S (fun vs H Q E h=>?_) (fun cdv A outer s H vs Q E hr h=>?_)
 ·obtain⟨ds,d,r,hl,_⟩:=h
  rw[<- r.length];exact hl
 ·obtain⟨ds,d,r,hl,h,q⟩:=h
  refine⟨_,hbody cdv A outer s H E hr,?_⟩
  obtain⟨o,h1,h2⟩:=bind_some h
  have S0:Sim K H [] []:=⟨List.nodup_nil,rfl,fun n a o h=>by simp at h⟩
  refine⟨_,[],[],o,S0,Dr r,h1,?_⟩
  have fin:∀ {H':Hp}{μ':List Addr}{m':MH},Step H [] H' μ'->Sim K H' μ' m'->Same H H'/\∀ a∈μ',old H H' a->False:=fun {H' μ' m'} st S'=>by
   obtain⟨l,e,hl⟩:=st.pre
   refine⟨fun b o e=>st.keep b o e (by simp),fun a ha z=>?_⟩
   rcases z with hne|⟨o,u,z⟩
   ·rw[e] at ha
    exact hne (hl a (by simpa using ha))
   ·obtain⟨xs,e',l⟩:=S'.trk ha
    rw[e'] at z
    cases z
    exact l
  cases o with
  |rt d' m'=>exact fun v H' μ' st S' r'=>q v H' (fin st S').1 (Ii S' (fin st S').2 r' h2)
  |nx env m'=>cases h2;exact fun σ' H' μ' st S' E'=>q _ H' (fin st S').1 .non
  |bk _ _=>exact Ac h2
  |ct _ _=>exact Ac h2
section
variable {X:Cx}{a b c e:Expr}{es:List Expr}{pos p p':Pos}{x:Str}
def Ei (n:Nat) (fn:List D->Option D):List D->MH->Option D:=fun ds m=>(B6 m ds).bind fun ds'=>if ds'.length=n then fn ds' else none
theorem Rep.ofCall {K:W.Frag}{H H':Hp}{μ:List Addr}{m:MH}{d:D}{v:V} (S:Sim K H μ m) (r:Rep K H' [] (old H H') d v):Rep K H' μ (·∈μ) d v :=
 r.up (fun _ _ _ h=>h) (fun a u _ h b=>⟨h,fun z=>b (.inl (by obtain⟨xs,e,_⟩:=S.trk z;rw[e];simp))⟩) fun n a h=>by simp at h
theorem Afy {fd:FuncData}{E:XK} (F:FnOk X.prog X.w X.K X.mg X.base CX k f fd ps (spP X.K n fn)) (hr:Room k X.A) (hg:Gl X x) (hm:X.mg x=some (.ref f)) (hk:W.keepIn X.K (.ref f)=true) (hb:Binds X.K fd ps []) (hx:Ma CX X E) (ha:PL X (e::es) g) (hdb:(x == ("__debug__":Str))=false) (he:starEach (e::es) X.env=(false,eval e X.env)::starEach es X.env) (hpl:(backTo pos (starEach es X.env)).any (·.1)=false) :
  PD X (.Call (.Name x p) (e::es) [] pos) (Ay (Ei n fn) g):=PE.imp (Ov F hr hg hm hk hb .nil hx ha hdb he hpl) fun σ H Q ⟨env,μ,m,d,S,E,h,q⟩=>by
 obtain⟨ds,h1,h⟩:=bind_some h
 obtain⟨ds',h2,h⟩:=bind_some h
 split at h
 ·rename_i hl
  refine⟨env,μ,m,ds,S,E,h1,fun vs H1 s1 rs=>⟨ds',d,by rw[At6];exact B7 (S.same s1) rs h2,hl,h,fun v H' s' r=>q v H' (s1.trans s') (Rep.ofCall (S.same s1) r)⟩⟩
 ·exact Ac h
def N3 (n:Nat) (fn:List D->Option D):List D->MH->Option (List D):=fun ds m=>(Ei n fn ds m).bind fun d=>match d with|.lst es=>if Au es=true then some es else none|_=>none
theorem Af0 {fd:FuncData}{E:XK} (F:FnOk X.prog X.w X.K X.mg X.base CX k f fd ps (spP X.K n fn)) (hr:Room k X.A) (hg:Gl X x) (hm:X.mg x=some (.ref f)) (hk:W.keepIn X.K (.ref f)=true) (hb:Binds X.K fd ps []) (hx:Ma CX X E) (ha:PL X (e::es) g) (hdb:(x == ("__debug__":Str))=false) (he:starEach (e::es) X.env=(false,eval e X.env)::starEach es X.env) (hpl:(backTo pos (starEach es X.env)).any (·.1)=false) :
  PF X (.Call (.Name x p) (e::es) [] pos) (Eb (N3 n fn) g):=PE.imp (Ov F hr hg hm hk hb .nil hx ha hdb he hpl) fun σ H Q ⟨env,μ,m,d,S,E,h,q⟩=>by
 obtain⟨ds,h1,h⟩:=bind_some h
 obtain⟨z,h2,h⟩:=bind_some h
 obtain⟨ds',h2,h3⟩:=bind_some h2
 split at h3
 ·rename_i hl
  refine⟨env,μ,m,ds,S,E,h1,fun vs H1 s1 rs=>⟨ds',z,by rw[At6];exact B7 (S.same s1) rs h2,hl,h3,fun v H' s' r=>?_⟩⟩
  cases r with
  |@lst es a xs hq hb rs' =>
   simp only at h
   split at h
   ·rename_i hl'
    cases h
    have hn:H1 a=none:=Avm fun z=>hb (.inl z)
    rcases hq with hq|⟨o,hq⟩
    ·exact q a xs H' (s1.trans s') (s1.free hn) hq (rs'.nolst hl')
    ·exact absurd (.inr ⟨o,_,hq⟩) hb
   ·cases h
  |_=>exact Ac h
 ·exact Ac h3
end
end
end ML
end L2
end S_ML1
section S_ML6
namespace L2
namespace ML
open PySem PySem.Spec PyProof.Rows
open Classical
noncomputable section
theorem E9 {scope:Scope}{env:Env}:∀ (names:List (Str×NameKind)) (cs:List (Str×Addr)),(∀ y∈names,y.2=.free->∃ c,env.cells.lookup y.1=some c)->∃ cl:List (Str×Addr),
  (forIn names cs fun (y:Str×NameKind) cs=>if (y.2 == .free)=true then (do let c <- cellOf env y.1;pure (ForInStep.yield ((y.1,c)::cs))) else (pure (ForInStep.yield cs):Sem _))=pure cl /\
   (∀ x c,cl.lookup x=some c->cs.lookup x=some c\/env.cells.lookup x=some c)/\(∀ x,((x,NameKind.free)∈names\/∃ c,cs.lookup x=some c)->∃ c,cl.lookup x=some c)
 |[],cs,_=>⟨cs,rfl,fun x c h=>.inl h,fun x h=>by
   rcases h with h|h
   ·exact absurd h (by simp)
   ·exact h⟩
 |(n,k)::names,cs,h=>by
  have h':∀ y∈names,y.2=.free->∃ c,env.cells.lookup y.1=some c:=fun y hy=>h y (Atn _ hy)
  rw[List.forIn_cons]
  by_cases hk:k=.free
  ·subst hk
   obtain⟨c,hc⟩:=h (n,.free) Atk rfl
   obtain⟨cl,e1,e2,e3⟩:=E9 (scope:=scope) (env:=env) names ((n,c)::cs) h'
   refine⟨cl,?_,fun x c' hx=>?_,fun x hx=>?_⟩
   ·have ec:cellOf env n=pure c:=by unfold cellOf;rw[hc]
    simp only[beq_self_eq_true,Av8,ec]
    exact e1
   ·rcases e2 x c' hx with q|q
    ·rw[Au3] at q
     by_cases hxn:(x == n)=true
     ·simp only[hxn] at q
      cases q
      rw[eq_of_beq hxn]
      exact .inr hc
     ·simp only[Bool.not_eq_true] at hxn
      simp only[hxn] at q
      exact .inl q
    ·exact .inr q
   ·refine e3 x ?_
    by_cases hxn:(x == n)=true
    ·exact .inr ⟨c,by rw[Au3];simp only[hxn]⟩
    ·simp only[Bool.not_eq_true] at hxn
     rcases hx with hx|⟨c',hx⟩
     ·rcases List.mem_cons.mp hx with z|z
      ·have:x=n:=by injection z
       rw[this,beq_self_eq_true] at hxn
       cases hxn
      ·exact .inl z
     ·exact .inr ⟨c',by rw[Au3];simp only[hxn];exact hx⟩
  ·obtain⟨cl,e1,e2,e3⟩:=E9 (scope:=scope) (env:=env) names cs h'
   refine⟨cl,?_,e2,fun x hx=>e3 x ?_⟩
   ·have ek:(k == NameKind.free)=false:=by simpa using hk
    simp only[ek,Aum,Avn]
    exact e1
   ·rcases hx with hx|hx
    ·rcases List.mem_cons.mp hx with z|z
     ·injection z with z1 z2
      exact absurd z2.symm hk
     ·exact .inl z
    ·exact .inr hx
theorem J9 (h:∀ y∈scope.names,y.2=.free->∃ c,env.cells.lookup y.1=some c):∃ cl:List (Str×Addr),closureFor scope env=pure cl /\
  (∀ x c,cl.lookup x=some c->env.cells.lookup x=some c)/\∀ x,(x,NameKind.free)∈scope.names->∃ c,cl.lookup x=some c:=by
 obtain⟨cl,e1,e2,e3⟩:=E9 (scope:=scope) (env:=env) scope.names [] h
 refine⟨cl,?_,fun x c hx=>(e2 x c hx).elim (fun z=>by exact Ac z) id,fun x hx=>e3 x (.inl hx)⟩
 have e:closureFor scope env=((forIn scope.names [] fun (y:Str×NameKind) cs=>if (y.2 == .free)=true then (do let c <- cellOf env y.1;pure (ForInStep.yield ((y.1,c)::cs))) else (pure (ForInStep.yield cs):Sem _)) >>= fun cs=>pure cs):=rfl
 rw[e,e1]
 rfl
theorem Up:∀ (names:List (Str×NameKind)) (h:Heap) (acc:List (Str×Addr)),(∀ x c,acc.lookup x=some c->c < h.objs.size)->(∀ x y c,acc.lookup x=some c->acc.lookup y=some c->x=y) ->
  (∀ x c,(cellsFrom h.objs.size names acc).lookup x=some c->(acc.lookup x=some c/\(x,NameKind.cell)∉names)\/((x,NameKind.cell)∈names/\h.objs.size<=c/\(pushCells h names).IsCell c none)\/(acc.lookup x=some c/\h.IsCell c none/\False)) /\
  (∀ x y c,(cellsFrom h.objs.size names acc).lookup x=some c->(cellsFrom h.objs.size names acc).lookup y=some c->x=y)/\(∀ x,((x,NameKind.cell)∈names\/∃ c,acc.lookup x=some c)->∃ c,(cellsFrom h.objs.size names acc).lookup x=some c)
 |[],h,acc,h1,h2=>⟨fun x c e=>.inl ⟨e,by simp⟩,h2,fun x e=>e.elim (fun z=>absurd z (by simp)) id⟩
 |(n,k)::r,h,acc,h1,h2=>by
  by_cases hk:k=.cell
  ·subst hk
   have hs:(h.push { cls:=.type "cell",data:=.cell none }).objs.size=h.objs.size+1:=Heap.size_push ..
   have lk:∀ x c,((n,h.objs.size)::acc).lookup x=some c->(x=n/\c=h.objs.size)\/(x≠n/\acc.lookup x=some c):=fun x c e=>by
    rw[Au3] at e
    by_cases hx:(x == n)=true
    ·simp only[hx] at e
     cases e
     exact .inl ⟨eq_of_beq hx,rfl⟩
    ·have hx':(x == n)=false:=by simpa using hx
     simp only[hx'] at e
     exact .inr ⟨fun z=>hx (by rw[z];exact beq_self_eq_true _),e⟩
   obtain⟨i1,i2,i3⟩:=Up r (h.push { cls:=.type "cell",data:=.cell none }) ((n,h.objs.size)::acc) (fun x c e=>by
    rw[hs]
    rcases lk x c e with ⟨_,z⟩|⟨_,z⟩
    ·rw[z];exact Awg _
    ·exact Avz (h1 x c z)) (fun x y c e1 e2=>by
    rcases lk x c e1 with ⟨z1,w1⟩|⟨_,z1⟩<;>rcases lk y c e2 with ⟨z2,w2⟩|⟨_,z2⟩
    ·rw[z1,z2]
    ·exact absurd (h1 y c z2) (by rw[w1];exact Aut _)
    ·exact absurd (h1 x c z1) (by rw[w2];exact Aut _)
    ·exact h2 x y c z1 z2)
   have ec:cellsFrom h.objs.size ((n,NameKind.cell)::r) acc=cellsFrom (h.push { cls:=.type "cell",data:=.cell none }).objs.size r ((n,h.objs.size)::acc):=by rw[hs];rfl
   have ep:pushCells h ((n,NameKind.cell)::r)=pushCells (h.push { cls:=.type "cell",data:=.cell none }) r:=rfl
   rw[ec,ep]
   refine⟨fun x c e=>?_,i2,fun x e=>i3 x ?_⟩
   ·rcases i1 x c e with ⟨z,w⟩|⟨z1,z2,z3⟩|⟨_,_,z⟩
    ·rcases lk x c z with ⟨rfl,rfl⟩|⟨hne,z⟩
     ·exact .inr (.inl ⟨Atk,Atp _,⟨_,pushCells_keeps _ _ _ _ (At3 _ rfl),rfl⟩⟩)
     ·exact .inl ⟨z,fun y=>by
       rcases List.mem_cons.mp y with y|y
       ·exact hne (Prod.mk.inj y).1
       ·exact w y⟩
    ·exact .inr (.inl ⟨Atn _ z1,Nat.le_of_succ_le (by rw[hs] at z2;exact z2),z3⟩)
    ·exact z.elim
   ·by_cases hx:x=n
    ·exact .inr ⟨_,by rw[Au3,hx,beq_self_eq_true]⟩
    ·have hx':(x == n)=false:=by simpa using hx
     rcases e with e|⟨c,e⟩
     ·rcases List.mem_cons.mp e with e|e
      ·exact absurd (Prod.mk.inj e).1 hx
      ·exact .inl e
     ·exact .inr ⟨c,by rw[Au3,hx'];exact e⟩
  ·obtain⟨i1,i2,i3⟩:=Up r h acc h1 h2
   have hk':(k == NameKind.cell)=false:=by simpa using hk
   have ec:cellsFrom h.objs.size ((n,k)::r) acc=cellsFrom h.objs.size r acc:=by rw[cellsFrom,hk'];rfl
   have ep:pushCells h ((n,k)::r)=pushCells h r:=by rw[pushCells,hk'];rfl
   have em:∀ x,(x,NameKind.cell)∈(n,k)::r ↔ (x,NameKind.cell)∈r:=fun x=>⟨fun z=>by
    rcases List.mem_cons.mp z with z|z
    ·exact absurd (Prod.mk.inj z).2.symm hk
    ·exact z,Atn _⟩
   rw[ec,ep]
   refine⟨fun x c e=>?_,i2,fun x e=>i3 x ?_⟩
   ·rcases i1 x c e with ⟨z,w⟩|⟨z1,z2,z3⟩|⟨_,_,z⟩
    ·exact .inl ⟨z,fun y=>w ((em x).mp y)⟩
    ·exact .inr (.inl ⟨(em x).mpr z1,z2,z3⟩)
    ·exact z.elim
   ·exact e.imp (em x).mp id
theorem On {E:Value->Shared->Prop}{s:Shared} (hQ:∀ h',h'.Ns s.heap.objs.size (fun _=>none)->(∀ b o,s.heap.get? b=some o->h'.get? b=some o)->h'=pushCells (s.heap.push { cls:=.type "dict",data:=.dict #[] }) scope.names ->
   Q { scope,locals:=s.heap.objs.size,globals,cells:=cellsFrom (s.heap.objs.size+1) scope.names cl,qual,func:=none,code:=env.code,frame:=env.frame,builtins:=env.builtins } { s with heap:=h' }) :
  wpAny M A (newFunctionEnv scope globals cl [] qual none .none (some env)) Q E s:=by
 simp only[newFunctionEnv,Option.isSome_some,Av8]
 refine Atj (wpAny_alloc ?_)
 refine Atj (wpAny_layCells _ (fun name kind cells=>by cases hkc:kind == NameKind.cell<;>simp[hkc]) _ _ _ _ ?_)
 rw[show ({ s with heap:=s.heap.push { cls:=.type "dict",data:=.dict #[] } }:Shared).heap.objs.size=s.heap.objs.size+1 from Heap.size_push ..]
 rw[List.forIn_nil]
 refine Atj (Atu (Atu ?_))
 exact hQ _ ((Heap.Ns.new s.heap (.type "dict")).keeps (pushCells_keeps _ _)) (fun b o e=>pushCells_keeps _ _ b o (Ato _ e)) rfl
noncomputable def Av (X:Cx) (N':List Str) (scope:Scope) (cl:List (Str×Addr)) (C:Addr) (s₀:Shared) (H₀:Hp) (ex:List Addr) (pn:List (Addr×Obj)):Cx where
 prog:=X.prog
 w:=X.w
 K:=X.K
 mg:=X.mg
 base:=X.base
 A:=X.A
 N:=N'
 s₀:=s₀
 H₀:=H₀
 env:=compEnvC scope cl C X.env
 outer:=X.stack
 stack:=X.stack
 ex:=ex
 fn:=fun x=>match scope.names.lookup x with
  |some .cell=>true
  |_=>false
 calm:=X.calm
 pn:=pn
 xe:=fun _ _=>False
noncomputable def capσ (cap:List Nat) (k:Nat) (σ:St):St:=cap.map (fun i=>(σ[i]?).bind id)++List.replicate k none
def T8 (cap:List Nat) (k:Nat) (env:Ax):Ax:=cap.map (fun i=>(env[i]?).bind id)++List.replicate k none
structure CompOk (X:Cx) (scope:Scope) (cap:List Nat) (N':List Str):Prop where
 kind:scope.kind=.function
 cell:∀ y∈scope.names,y.2=.cell->scope.names.lookup y.1=some .cell
 names:∀ y∈scope.names,y.2=.local->scope.names.lookup y.1=some .local
 free:∀ y∈scope.names,y.2=.free->X.env.scope.names.lookup y.1=some .cell\/X.env.scope.names.lookup y.1=some .free
 nd:N'.Nodup
 le:cap.length<=N'.length
 cap:∀ (j i:Nat) (x:Str),cap[j]?=some i->N'[j]?=some x->X.N[i]?=some x/\scope.names.lookup x=some .free
theorem C0 {env:Env}:∀ {names:List (Str×NameKind)}{x:Str}{k:NameKind},(names.map fun (n,k)=>if (k == NameKind.free&&env.scope.kind == .function&&env.kindOf n == some .cell) then (n,NameKind.cell) else (n,k)).lookup x=some k ->
  (names.lookup x=some k/\(k=.free->env.kindOf x≠some .cell\/env.scope.kind≠.function))\/(names.lookup x=some .free/\k=.cell)
 |[],_,_,h=>by simp at h
 |(n,k)::r,x,k',h=>by
  have ih:=@C0 env r x k'
  rw[Atz] at h
  by_cases hc:(k == NameKind.free&&env.scope.kind == .function&&env.kindOf n == some .cell)=true
  ·simp only[hc,Av8] at h
   rw[Au3] at h ⊢
   cases hx:x == n with
   |true =>
    simp only[hx] at h ⊢
    cases h
    have:k=.free:=by simp at hc;exact hc.1.1
    exact .inr ⟨by rw[this],rfl⟩
   |false =>
    simp only[hx] at h ⊢
    exact ih h
  ·simp only[Atl hc] at h
   rw[Au3] at h ⊢
   cases hx:x == n with
   |true =>
    simp only[hx] at h ⊢
    cases h
    refine .inl ⟨rfl,fun z=>?_⟩
    subst z
    have e:=eq_of_beq hx
    subst e
    simp at hc
    by_cases q:env.scope.kind=.function
    ·exact .inl fun z=>hc q z
    ·exact .inr q
   |false =>
    simp only[hx] at h ⊢
    exact ih h
section
variable {X:Cx}{elt tg iter:Expr}{ifs:List Expr}{scope:Scope}{pos:Pos}{cap:List Nat}{N':List Str}
theorem Zh {pins:List (Addr×Obj)}{σ:St}{H2 H3:Hp}{s2:Shared}{h₁:Heap}{tk:Nat}{fp:List Addr}{cl:List (Str×Addr)}{C:Addr}{ys:List V} (ok:CompOk X scope cap N') (I2:Inv X pins σ H2 s2) (f2:∀ b∈fp,Y4 X pins H2 b) (fo:∀ b∈fp,∃ o,s2.heap.get? b=some o)
  (hcl:∀ x c,cl.lookup x=some c->(X.env.cells.lookup x=some c/\scope.names.lookup x≠some .cell)\/(scope.names.lookup x=some .cell/\C < c/\h₁.IsCell c none/\H3 c=none)) (hinj:∀ x y c,cl.lookup x=some c->cl.lookup y=some c->x=y)
  (hcl2:∀ x,((x,NameKind.free)∈scope.names\/(x,NameKind.cell)∈scope.names)->∃ c,cl.lookup x=some c)
  (hC:s2.heap.objs.size<=C) (hns:∃ m,h₁.Ns C m) (hk:∀ b o,s2.heap.get? b=some o->h₁.get? b=some o) (hH:∀ b o,s2.heap.get? b=some o->H2 b=none->H3 b=none) (hS:Same H2 H3) (hC3:H3 C=none) (hok:HOk X.prog X.w X.K H3 h₁) :
  Inv (Av X N' scope cl C s2 H2 fp (X.pn++pins)) [] (capσ cap (N'.length - cap.length) σ) H3 { s2 with heap:=h₁,toks:=tk }:=by
 have lt:∀ b o,s2.heap.get? b=some o->b≠C:=fun b o e=>At7 (At2 (Aty e) hC)
 have kin:∀ x,(Av X N' scope cl C s2 H2 fp (X.pn++pins)).env.kindOf x=some .cell\/(Av X N' scope cl C s2 H2 fp (X.pn++pins)).env.kindOf x=some .free->(x,NameKind.free)∈scope.names\/(x,NameKind.cell)∈scope.names:=fun x h=>by
  have key:∀ k,(relabel scope X.env).names.lookup x=some k->k=.cell\/k=.free->(x,NameKind.free)∈scope.names\/(x,NameKind.cell)∈scope.names:=fun k hk hkk=>by
   rcases C0 hk with ⟨q,_⟩|⟨q,_⟩
   ·rcases hkk with rfl|rfl
    ·exact .inr (Aul q)
    ·exact .inl (Aul q)
   ·exact .inl (Aul q)
  rcases h with h|h
  ·exact key _ h (.inl rfl)
  ·exact key _ h (.inr rfl)
 have fpx:∀ b∈fp,∀ o,X.base.get? b=some o->False:=fun b hb o e=>by
  obtain⟨_,_,_,q,_,_⟩:=f2 b hb
  rcases q with q|q
  ·exact I2.ok.noex b o e q
  ·exact absurd (At2 (Aty e) (Auf I2.ok.bsz q)) (Aut _)
 refine⟨⟨I2.ok.mod,ok.kind,I2.ok.glob,I2.ok.blt,hC,?_,?_,?_,I2.ok.hd,I2.ok.frames,.inl rfl,?_,I2.bs,Auf I2.ok.bsz I2.sz,?_,?_,I2.stack,I2.stkFree⟩,rfl,I2.bare,⟨?_,?_,?_,?_,?_,?_,?_⟩,?_,?_,hC3,?_,?_,hok,?_⟩
 ·exact hinj
 ·exact fun x h=>hcl2 x (kin x h)
 ·intro x c h e
  have h:(match scope.names.lookup x with|some .cell=>true|_=>false)=true:=h
  rcases hcl x c e with ⟨_,z⟩|⟨_,z,_⟩
  ·split at h
   ·rename_i q;exact absurd q z
   ·exact C4 h
  ·exact Ave (Nat.lt_of_le_of_lt hC z)
 ·intro b hb
  obtain⟨o,e⟩:=fo b hb
  refine⟨lt b o e,fun x c h=>?_⟩
  rcases hcl x c h with ⟨z,_⟩|⟨_,z,_⟩
  ·exact (f2 b hb).2.2.2.2.1 x c z
  ·exact Av4 (Nat.lt_trans (At2 (Aty e) hC) z)
 ·exact fun b o e hb=>fpx b hb o e
 ·intro b hb hfs
  have z:b∈X.env.locals::X.fs:=I2.stkSub b hfs
  rcases List.mem_cons.mp z with z|z
  ·exact (f2 b hb).2.1 z
  ·exact (f2 b hb).2.2.1 z
 ·exact fun b o e n _ _=>hk b o e
 ·exact fun b o e n _ _=>⟨o.slots,hk b o e⟩
 ·exact fun b o e n _=>hH b o e n
 ·exact fun b o e _=>⟨o,hk b o e⟩
 ·exact fun b xs e=>hS b _ e
 ·exact fun b o u e=>hS b _ e
 ·exact fun b ps e=>⟨#[],by rw[hS b _ e];simp⟩
 ·obtain⟨m,hm⟩:=hns
  refine⟨m,hm,fun j x v e1 e2 e3=>?_⟩
  have hj:j < cap.length:=by
   apply Avm
   intro hj
   unfold capσ at e2
   rw[Aud (by simpa using hj),Avv] at e2
   split at e2<;>cases e2
  obtain⟨i,hi⟩:∃ i,cap[j]?=some i:=⟨cap[j],by simp[hj]⟩
  obtain⟨q1,q2⟩:=ok.cap j i x hi e1
  have e4:σ[i]?=some (some v):=by
   unfold capσ at e2
   rw[At4 (by simpa using hj),Aub,hi] at e2
   simp only[Option.map_some,Avy] at e2
   obtain⟨o,h1,h2⟩:=bind_some e2
   have h2:o=some v:=h2
   rw[h1,h2]
  have hfr:=ok.free (x,.free) (Aul q2) rfl
  have vis:Vis X.env.scope x:=.inr hfr
  obtain⟨m0,hn0,hl⟩:=I2.loc
  obtain⟨u,r,l⟩:=hl i x v q1 e4 vis
  refine⟨u,r,.inr ?_⟩
  rcases l with ⟨l1,_⟩|⟨l1,c,l2,l3⟩
  ·have l1:X.env.scope.names.lookup x=some .local:=l1
   rcases hfr with z|z<;>rw[l1] at z<;>cases z
  ·obtain⟨c',hc'⟩:=hcl2 x (.inl (Aul q2))
   have:c'=c:=by
    rcases hcl x c' hc' with ⟨z,_⟩|⟨z,_⟩
    ·rw[l2] at z;exact (Auo z).symm
    ·rw[q2] at z;cases z
   subst this
   refine⟨?_,c',hc',?_⟩
   ·rcases e3 with z|z|z
    ·have z':(relabel scope X.env).names.lookup x=some .local:=z
     rcases C0 z' with ⟨q,_⟩|⟨q,w⟩
     ·rw[q2] at q;cases q
     ·cases w
    ·exact .inl z
    ·exact .inr z
   ·obtain⟨oc,ho,hd⟩:=l3
    exact⟨oc,hk _ _ ho,hd⟩
 ·intro x c h
  rcases hcl x c h with ⟨z,_⟩|⟨_,_,z,_⟩
  ·obtain⟨v,oc,ho,hd⟩:=I2.cell x c z
   exact⟨v,oc,hk _ _ ho,hd⟩
  ·exact⟨none,z⟩
 ·intro x c h
  rcases hcl x c h with ⟨z,_⟩|⟨_,_,_,z⟩
  ·obtain⟨v,oc,ho,hd⟩:=I2.cell x c z
   exact hH c oc ho (I2.freeC x c z)
  ·exact z
 ·intro p hp
  have hp':p∈X.pn++pins:=by
   have:p∈(X.pn++pins)++[]:=hp
   simpa using this
  obtain⟨e,n,ne,nf,d⟩:=I2.pin p hp'
  refine⟨hk _ _ e,hH _ _ e n,lt _ _ e,?_,d⟩
  intro z
  have z:p.1∈X.env.locals::X.fs:=I2.stkSub p.1 z
  rcases List.mem_cons.mp z with z|z
  ·exact ne z
  ·exact nf z
 ·unfold capσ
  show _=N'.length
  rw[At8,At1,List.length_replicate]
  have:=ok.le
  lia
end
end
end ML
end L2
end S_ML6
section S_ML7
namespace L2
namespace ML
open PySem PySem.Spec PyProof.Rows
open Classical
noncomputable section
noncomputable def D7 (g:FG) (t:FB) (fe:FE) (m:MH) (env:Ax):List D->Option (List D)
 |[]=>some []
 |d::ds=>(g d env).bind fun env1=>(t env1 m).bind fun ok=>if ok=true then (fe env1 m).bind fun y=>(D7 g t fe m env ds).bind fun ys=>some (y::ys) else D7 g t fe m env ds
noncomputable def L6:FB:=fun _ _=>some true
def PTs (X:Cx) (ifs:List Expr) (f:FB):Prop:=∀ (pins:List (Addr×Obj)) (s:Shared) (σ:St) (H:Hp) (Q:Bool->Hp->Prop),Inv X pins σ H s->tB' X.K f σ H Q ->
 wpAny (model X.prog X.w) X.A (forIn ifs true fun c r=>if r=true then do let ok <- isTrue c X.env (eval c X.env);pure (ForInStep.yield ok) else pure (ForInStep.yield r)) (TP X pins σ Q) X.xe s
theorem Agk:PTs X [] L6:=fun pins s σ H Q I ⟨env,μ,m,b,S,E,h,q⟩=>by
 cases h
 exact wpAny_tests_nil ⟨H,I,q H (Same.refl H)⟩
theorem Agl (h:PB X c f):PTs X [c] f:=fun pins s σ H Q I q=>wpAny_tests_one (h pins s σ H Q I q)
theorem Mh {s:Shared}{pos:Pos} (I:Nat->Shared->Prop) (turn:∀ n s,I n s->wpAny (model prog w) A (pyNext it) (fun r s₁=>match r with
   |none=>R (.ok .next) s₁
   |some v=>wpAny (model prog w) A (letOwnedTupleGo target it v) (fun _ s₁'=>wpAny (model prog w) A (assign target env v) (fun _ s₂ =>
     wpAny (model prog w) A (forIn ifs true fun c r=>if r=true then do let ok <- isTrue c env (eval c env);pure (ForInStep.yield ok) else pure (ForInStep.yield r)) (fun ok s₃ =>
      if ok=true then wpAny (model prog w) A (eval elt env) (fun x s₄ =>
       wpAny (model prog w) A (call (.builtin "list.append") [acc,x]) (fun _ s₅=>∃ m,m < n/\I m s₅) (fun _ _=>False) s₄) (fun _ _=>False) s₃
      else ∃ m,m < n/\I m s₃) (fun _ _=>False) s₂) (fun _ _=>False) s₁') (fun _ _=>False) s₁) (fun _ _=>False) s) (n:Nat) (h:I n s):codeAny (model prog w) A (.compLoop (.ListComp elt [⟨target,iter,ifs,0⟩] scope pos) 0 it acc env) R s:=by
 have no:∀ {E:Value->Shared->Prop} (e:Value) (s:Shared),False->E e s:=fun _ _ h=>h.elim
 refine codeAny_loop rfl I (fun n s hI=>?_) n h
 show wpAny _ A ((compTurn (.ListComp elt [⟨target,iter,ifs,0⟩] scope pos) 0 it acc env).onRaise (fun x=>do noteFrame x env;theTreesLotGoes x)) _ _ s
 refine wpAny_noted ?_
 rw[compTurn_list]
 refine Atj (wpAny_standAt (Atj (Auq (turn n s hI) (fun r s₁ h₁=>?_) no)))
 cases r with
 |none=>exact Atu h₁
 |some v =>
  refine Atj (Auq h₁ (fun _ s₁' h₁'=>?_) no)
  refine Atj (Auq h₁' (fun _ s₂ h₂=>Atj (Auq h₂ (fun ok s₃ h₃=>?_) no)) no)
  cases ok with
  |false=>exact Atu ⟨rfl,h₃⟩
  |true =>
   exact Atj (Atj (Auq h₃ (fun x s₄ h₄=>Atj (Auq h₄ (fun _ s₅ h₅=>Atu (Atu ⟨rfl,h₅⟩)) no)) no))
theorem Zf {K:W.Frag}{H:Hp}{μ:List Addr}{σ:St}{env:Ax} (h:EnvRep K H μ σ env) (cap:List Nat) (k:Nat):EnvRep K H μ (capσ cap k σ) (T8 cap k env):=by
 refine⟨by unfold capσ T8;simp,fun j d e=>?_⟩
 have hj:j < cap.length:=by
  apply Avm
  intro hj
  unfold T8 at e
  rw[Aud (by simpa using hj),Avv] at e
  split at e<;>cases e
 unfold T8 at e
 rw[At4 (by simpa using hj),Aub] at e
 have hi:cap[j]?=some cap[j]:=by simp[hj]
 rw[hi] at e
 simp only[Option.map_some,Avy] at e
 obtain⟨o,h1,h2⟩:=bind_some e
 have h2:o=some d:=h2
 subst h2
 obtain⟨v,q1,q2⟩:=h.get _ _ h1
 refine⟨v,?_,q2⟩
 unfold capσ
 rw[At4 (by simpa using hj),Aub,hi]
 simp[q1]
section
variable {X:Cx}{elt tg iter:Expr}{ifs:List Expr}{scope:Scope}{pos:Pos}{cap:List Nat}{N':List Str}{fw:FW}{g:FG}{t:FB}{fe:FE}
def B9 (cap:List Nat) (k:Nat) (fw:FW) (g:FG) (t:FB) (fe:FE):FL:=fun env m=>(fw env m).bind fun w=>if w.chk m/\w.all.length<=1000000 then D7 g t fe m (T8 cap k env) w.all else none
structure CompEnd (X:Cx) (pins:List (Addr×Obj)) (σ:St) (H:Hp) (μ:List Addr) (zs:List D) (D C:Addr) (s':Shared):Prop where
 out:∃ H' ys,Same H H'/\H D=none/\H' D=some (.lst ys)/\Reps X.K H' μ (nw μ D) zs ys/\Inv X pins σ H' s'/\H' C=none/\∀ σ' s'' h',Inv X pins σ' H' s''->Heap.SameBut C s''.heap h'->Inv X pins σ' H' { s'' with heap:=h' }
 ns:∃ m,s'.heap.Ns C m
 lc:C≠X.env.locals
 cc:∀ x c,X.env.cells.lookup x=some c->c≠C
inductive CI (Y:Cx) (μ:List Addr) (fp:List Addr) (tn:Nat->Heap->Prop) (Dd:Addr) (H2:Hp) (g:FG) (e0:Ax) (cd:Nat->Option (List D)) (n:Nat) (zs:List D) (s:Shared):Nat->Prop where
 |mk {i:Nat}{H3:Hp}{σ3:St}{env3:Ax}{ys:List V}{its:List Value}{na:Nat}{dn rs:List D}:i<=n->Inv Y [] σ3 H3 s->tn i s.heap->(∀ b∈fp,H3 b=none)->Same H2 H3->H3 Dd=none->EnvRep Y.K H3 μ σ3 env3->(∀ d,g d env3=g d e0) ->
  s.heap.get? Dd=some { cls:=.type "list",data:=.seq its.toArray na }->Vals ys its->Reps Y.K H3 μ (·∈μ) dn ys->cd i=some rs->dn++rs=zs->dn.length<=i->CI Y μ fp tn Dd H2 g e0 cd n zs s (n - i)
theorem Jf (ok:CompOk X scope cap N') (hc:X.calm=true) (hi:PW' X tg iter fw) (hg2:∀ d d' env e1,g d env=some e1->g d' e1=g d' env)
  {Φ:Hp->Prop} (hΦ:∀ {pins:List (Addr×Obj)}{σ:St}{H:Hp}{s:Shared},Inv X pins σ H s->Φ H) (hg:∀ cl C s₀ H₀ ex pn,Φ H₀->PGD (Av X N' scope cl C s₀ H₀ ex pn) tg g) (ht:∀ cl C s₀ H₀ ex pn,Φ H₀->PTs (Av X N' scope cl C s₀ H₀ ex pn) ifs t) (he:∀ cl C s₀ H₀ ex pn,Φ H₀->PD (Av X N' scope cl C s₀ H₀ ex pn) elt fe)
  (hs:∀ x,foldedSetIterable iter X.env x=pure x) {use:Option (Value->Sem Unit)}{ipos:Pos}{pins:List (Addr×Obj)}{s:Shared}{σ:St}{H:Hp}{Q:Value->Shared->Prop} (I:Inv X pins σ H s) {env:Ax}{μ:List Addr}{m:MH}{zs:List D}
  (S:Sim X.K H μ m) (E:EnvRep X.K H μ σ env) (h:B9 cap (N'.length - cap.length) fw g t fe env m=some zs)
  (hQ:∀ D C s',CompEnd X pins σ H μ zs D C s'->compPost (model X.prog X.w) X.A X.xe use Q (.ref D) C (.ok .next) s') :
  wpAny (model X.prog X.w) X.A (comprehension (.ListComp elt [⟨tg,iter,ifs,0⟩] scope pos) scope X.env ipos (newList []) false (eval iter X.env) use) Q X.xe s:=by
 obtain⟨w,h1,h⟩:=bind_some h
 split at h
 rotate_left
 ·cases h
 rename_i hck
 obtain⟨hck,hsz⟩:=hck
 have hfr:∀ y∈scope.names,y.2=.free->∃ c,X.env.cells.lookup y.1=some c:=fun y hy hf=>I.ok.has y.1 (ok.free y hy hf)
 obtain⟨cl0,hclos,hcl0,hcl20⟩:=J9 hfr
 refine wpAny_comprehension_free (g:=⟨tg,iter,ifs,0⟩) (gs:=[]) rfl hs hclos ok.kind ok.names (thn (hi pins s σ H (fun J H2=>∃ src,Same H H2/\Src X.K J w.all w.chk src/\src H2 μ m) I ⟨env,μ,m,w,S,E,h1,fun H' J src s1 hsrc h0=>⟨src,s1,hsrc,h0⟩⟩) fun v s1 h2=>thn h2 fun itv s2 h3=>?_)
 obtain⟨it,fp,tn,J,H2,e,I2,T,st2,f2,src,hS2,hsrc,h0⟩:=h3
 subst e
 refine Au2 (On fun h₁ hns₁ hsb₁ heq₁=>?_)
 dsimp only at hns₁ hsb₁ heq₁ ⊢
 generalize hHp:s2.heap.push { cls:=.type "list",dict:=none,data:=.seq ([]:List Value).toArray }=HP at hns₁ hsb₁ heq₁ ⊢
 have hCs:HP.objs.size=s2.heap.objs.size+1:=by rw[<- hHp,Heap.size_push]
 have hDC:s2.heap.objs.size≠HP.objs.size:=by rw[hCs];exact At7 (Awg _)
 have hCle:s2.heap.objs.size<=HP.objs.size:=by rw[hCs];exact Nat.le_succ _
 have below:∀ b,b < s2.heap.objs.size->b≠HP.objs.size/\b≠s2.heap.objs.size:=fun b hb=>⟨by rw[hCs];exact At7 (Avz hb),At7 hb⟩
 have hkp:∀ b o,s2.heap.get? b=some o->h₁.get? b=some o:=fun b o e=>hsb₁ b o (hHp ▸ Ato _ e)
 have hacc:h₁.get? s2.heap.objs.size=some { cls:=.type "list",data:=.seq ([]:List Value).toArray 0 }:=hsb₁ _ _ (hHp ▸ At3 _ rfl)
 have hDn:H2 s2.heap.objs.size=none:=I2.hok.fresh (Atp _)
 have hCn:H2 HP.objs.size=none:=I2.hok.fresh hCle
 have fo:∀ b∈fp,∃ o,s2.heap.get? b=some o:=fun b hb=>let ⟨o,e,_⟩:=T.obj _ _ st2 b hb;⟨o,e⟩
 have fdc:∀ b∈fp,b≠HP.objs.size/\b≠s2.heap.objs.size:=fun b hb=>let ⟨o,e⟩:=fo b hb;below b (Aty e)
 have hsz1:(HP.push { cls:=.type "dict",data:=.dict #[] }).objs.size=HP.objs.size+1:=Heap.size_push ..
 obtain⟨c1,c2,c3⟩:=Up scope.names (HP.push { cls:=.type "dict",data:=.dict #[] }) cl0 (fun x c e=>by
  obtain⟨v,oc,ho,_⟩:=I2.cell x c (hcl0 x c e)
  rw[hsz1,hCs]
  exact Avz (Avz (Aty ho))) (fun x y c e1 e2=>I2.ok.inj x y c (hcl0 x c e1) (hcl0 y c e2))
 rw[hsz1,<- heq₁] at c1
 rw[hsz1] at c2 c3
 generalize hcle:cellsFrom (HP.objs.size+1) scope.names cl0=cl at *
 have hcl:∀ x c,cl.lookup x=some c->(X.env.cells.lookup x=some c/\scope.names.lookup x≠some .cell)\/(scope.names.lookup x=some .cell/\HP.objs.size < c/\h₁.IsCell c none/\H2 c=none):=fun x c e=>by
  rcases c1 x c e with ⟨z,w⟩|⟨z1,z2,z3⟩|⟨_,_,z⟩
  ·exact .inl ⟨hcl0 x c z,fun q=>w (Aul q)⟩
  ·exact .inr ⟨ok.cell _ z1 rfl,z2,z3,I2.hok.fresh (Auf hCle (Ave z2))⟩
  ·exact z.elim
 have hcl2:∀ x,((x,NameKind.free)∈scope.names\/(x,NameKind.cell)∈scope.names)->∃ c,cl.lookup x=some c:=fun x e=>c3 x (e.elim (fun z=>.inr (hcl20 x z)) .inl)
 generalize hDd:s2.heap.objs.size=Dd at *
 generalize hCc:HP.objs.size=C at *
 have Y0:Inv (Av X N' scope cl C s2 H2 fp (X.pn++pins)) [] (capσ cap (N'.length - cap.length) σ) H2 { s2 with heap:=h₁,toks:=s2.toks } :=
  Zh (ys:=[]) ok I2 f2 fo hcl c2 hcl2 (by rw[hDd];exact hCle) ⟨_,hns₁⟩ hkp (fun _ _ _ n=>n) (Same.refl _) hCn (I2.hok.kept hkp)
 -- what stays true of the iterator's objects in the block
 have fpY:∀ {H':Hp}{ps:List (Addr×Obj)},(∀ b∈fp,H' b=none)->(∀ p∈ps,p.1∉fp)->∀ b∈fp,Y4 (Av X N' scope cl C s2 H2 fp (X.pn++pins)) ps H' b:=fun {H' ps} hn hps b hb=>by
  obtain⟨q0,q1,q2,q3,q4,q5⟩:=f2 b hb
  refine⟨hn b hb,(fdc b hb).1,fun z=>?_,.inl hb,fun x c e=>?_,fun p hp z=>?_⟩
  rotate_left
  ·rcases hcl x c e with ⟨z,_⟩|⟨_,z,_⟩
   ·exact q4 x c z
   ·obtain⟨o,e'⟩:=fo b hb
    exact Av4 (At2 (by have:=Aty e';rw[hDd] at this;exact this) (Auf hCle (Ave z)))
  rotate_left
  ·have z:b∈X.env.locals::X.fs:=I2.stkSub b z
   rcases List.mem_cons.mp z with z|z
   ·exact q1 z
   ·exact q2 z
  ·rcases List.mem_append.mp hp with hp|hp
   ·exact q5 p hp z
   ·exact hps p hp (by rw[z];exact hb)
 have key:∀ s₃:Shared,s₃={ s2 with heap:=h₁,toks:=s2.toks } ->
   codeAny (model X.prog X.w) X.A (.compLoop (.ListComp elt [⟨tg,iter,ifs,0⟩] scope pos) 0 (.ref it) (.ref Dd) (compEnvC scope cl C X.env)) (compPost (model X.prog X.w) X.A X.xe use Q (.ref Dd) C) s₃:=by
  rintro s₃ rfl
  refine Mh (fun k s=>CI (Av X N' scope cl C s2 H2 fp (X.pn++pins)) μ fp tn Dd H2 g (T8 cap (N'.length - cap.length) env) (fun i=>D7 g t fe m (T8 cap (N'.length - cap.length) env) (w.all.drop i)) w.all.length zs s k) ?_ w.all.length
   (.mk (ys:=[]) (dn:=[]) (Aup _) Y0 (T.keep _ _ _ st2 fun b hb o e=>hkp b o e) (fun b hb=>(f2 b hb).1) (Same.refl _) hDn (Zf (E.same hS2) cap _) (fun _=>rfl) hacc .nil .nil (by simpa using h) rfl (Aup _))
  intro k s3 ci
  cases ci with
  |@mk i H3 σ3 env3 ys its na dn rs hi' I3 st3 fr3 s3' hD3 E3 hg3 ha3 rv3 rr3 hc3 hz3 hl3 =>
  have S3:Sim X.K H3 μ m:=S.same (hS2.trans s3')
  have src3:src H3 μ m:=hsrc.keep _ _ _ _ _ _ h0 (S.same hS2) (Step.of_same s3') S3
  have hDfp:Dd∉fp:=fun z=>(fdc Dd z).2 rfl
  have hDne:Dd≠(Av X N' scope cl C s2 H2 fp (X.pn++pins)).env.locals:=hDC
  have hDcell:∀ x c,(Av X N' scope cl C s2 H2 fp (X.pn++pins)).env.cells.lookup x=some c->c≠Dd:=fun x c e z=>by
   rcases hcl x c e with ⟨w,_⟩|⟨_,w,_⟩
   ·obtain⟨v,oc,ho,_⟩:=I2.cell x c w
    exact absurd (Aty ho) (by rw[z,hDd];exact Aut _)
   ·exact absurd w (by rw[z];exact Nat.not_lt.mpr hCle)
  have hDpn:∀ p∈X.pn++pins,p.1≠Dd:=fun p hp z=>absurd (Aty (I2.pin p hp).1) (by rw[z,hDd];exact Aut _)
  have hDs:s2.heap.objs.size<=Dd:=Nat.le_of_eq hDd
  have hDfs:Dd∉(Av X N' scope cl C s2 H2 fp (X.pn++pins)).fs:=fun z=>by
   have z:Dd∈X.env.locals::X.fs:=I2.stkSub Dd z
   rcases List.mem_cons.mp z with z|z
   ·exact absurd I2.lt (by rw[<- z,hDd];exact Aut _)
   ·exact I2.nofs hDs z
  have I3p:Inv (Av X N' scope cl C s2 H2 fp (X.pn++pins)) [(Dd,{ cls:=.type "list",data:=.seq its.toArray na })] σ3 H3 s3:=I3.pins_of fun p hp=>by
   have e:p=(Dd,{ cls:=.type "list",data:=.seq its.toArray na }):=by simpa using hp
   subst e
   exact⟨ha3,hD3,hDne,hDfs,fun v z=>by cases z⟩
  have pfp:∀ p∈[(Dd,({ cls:=.type "list",data:=.seq its.toArray na }:Obj))],p.1∉fp:=fun p hp=>by
   have e:p=(Dd,{ cls:=.type "list",data:=.seq its.toArray na }):=by simpa using hp
   subst e
   exact hDfp
  by_cases hlt:i < w.all.length
  ·have hd:w.all.drop i=w.all[i]::w.all.drop (i+1):=At9 hlt
   rw[hd] at hc3
   unfold D7 at hc3
   obtain⟨env4,e4,hc3⟩:=bind_some hc3
   obtain⟨tb,e5,hc3⟩:=bind_some hc3
   obtain⟨go,yl⟩:=hsrc.go H3 μ m i w.all[i] S3 src3 hck (by simp[hlt])
   refine thn (T.item (Av X N' scope cl C s2 H2 fp (X.pn++pins)) rfl rfl rfl hc i _ s3 σ3 H3 _ I3p (fpY fr3 pfp) st3 go) fun r s4 ⟨u,hr,h4⟩=>?_
   subst hr
   refine thn h4 fun _ s5 ⟨x,H5,I5,r5,y5,st5,fr5⟩=>?_
   obtain⟨s5',rx5⟩:=yl x H5 y5
   have S5:=S3.same s5'
   have E5:=E3.same s5'
   have I5':=I5.pinned (fpY fr5 pfp) (T.obj _ _ st5)
   generalize hps:[(Dd,({ cls:=.type "list",data:=.seq its.toArray na }:Obj))]++M6 fp s5.heap=ps at I5'
   have pacc:(Dd,({ cls:=.type "list",data:=.seq its.toArray na }:Obj))∈ps:=by rw[<- hps];exact Aue _ (by simp)
   have pits:∀ b o,b∈fp->s5.heap.get? b=some o->(b,o)∈ps:=fun b o hb e=>by rw[<- hps];exact Atm _ (Gd hb e)
   refine thn (hg cl C s2 H2 fp (X.pn++pins) (hΦ I2) ps s5 σ3 H5 x u (fun σ' H'=>H'=H5/\EnvRep X.K H5 μ σ' env4) I5' r5 ⟨env3,μ,m,_,env4,S5,E5,rx5,by rw[hg3];exact e4,fun σ' E'=>⟨rfl,E'⟩⟩) fun _ s6 ⟨σ6,H6,I6,eH6,E6⟩=>?_
   subst eH6
   refine thn (ht cl C s2 H2 fp (X.pn++pins) (hΦ I2) ps s6 σ6 H6 (fun b H'=>b=tb/\Same H6 H') I6 ⟨env4,μ,m,tb,S5,E6,e5,fun H' s=>⟨rfl,s⟩⟩) fun ok s7 ⟨H7,I7,eb,s7'⟩=>?_
   subst eb
   have S7:=S5.same s7'
   have E7:=E6.same s7'
   have hg4:∀ d,g d env4=g d (T8 cap (N'.length - cap.length) env):=fun d=>by rw[hg2 _ d _ _ e4]
   cases ok with
   |false =>
    rw[Atl At5] at hc3
    have pin7:=fun p hp=>I7.pin p (Atm _ hp)
    refine Ap0 ⟨w.all.length - (i+1),by lia,.mk hlt (I7.pins_of (fun p hp=>by simp at hp)) (T.keep _ _ _ st5 fun b hb o e=>(pin7 (b,o) (pits b o hb e)).1) (fun b hb=>?_) ((s3'.trans s5').trans s7') (pin7 _ pacc).2.1 E7 hg4 (pin7 _ pacc).1 rv3 (rr3.same (s5'.trans s7')) hc3 hz3 (Nat.le_succ_of_le hl3)⟩
    obtain⟨o,e,_⟩:=T.obj _ _ st5 b hb
    exact (pin7 (b,o) (pits b o hb e)).2.1
   |true =>
    rw[Atq rfl] at hc3
    obtain⟨y,e6,hc3⟩:=bind_some hc3
    obtain⟨rs',e7,hc3⟩:=bind_some hc3
    cases hc3
    refine Ap1 (thn (he cl C s2 H2 fp (X.pn++pins) (hΦ I2) ps s7 σ6 H7 (fun v H'=>Same H7 H'/\Rep X.K H' μ (·∈μ) y v) I7 ⟨env4,μ,m,y,S7,E7,e6,fun v H' s r=>⟨s,r⟩⟩) fun u8 s8 ⟨x8,H8,I8,r8,s8',rx8⟩=>?_)
    have pin8:=fun p hp=>I8.pin p (Atm _ hp)
    have e8:=(pin8 _ pacc).1
    have hil:its.length<=i:=by rw[<- rv3.length,<- rr3.length];exact hl3
    have hsl:sizeLine=16777216:=Ava
    refine call_meets F.slot_list_append ⟨_,e8,rfl⟩ F.entry_list_append (F.args_list_append_2 _ _) (PySem.list_append Dd its.toArray na u8 (by rw[Ats];lia)) ⟨e8,?_⟩
    obtain⟨na',q9⟩:∃ na',(s8.heap.update Dd (Obj.mapSeq fun a=>a.push u8)).get? Dd=some { cls:=.type "list",data:=.seq (its++[u8]).toArray na' }:=by
     have q9:=PySem.IsL.update e8 (fun a=>a.push u8)
     have ea:(its.toArray.push u8)=(its++[u8]).toArray:=by simp
     rw[ea] at q9
     exact⟨_,q9⟩
    have I8':Inv (Av X N' scope cl C s2 H2 fp (X.pn++pins)) [] σ6 H8 s8:=I8.pins_of (fun p hp=>by simp at hp)
    have I9:=I8'.turned (it:=Dd) (t':=s8.toks) (h':=s8.heap.update Dd (Obj.mapSeq fun a=>a.push u8)) (fun b o hb e=>(Aur s8.heap _ (Avr hb)).trans e) (pin8 _ pacc).2.1 hDne (.inr hDs) hDcell (fun p hp=>hDpn p (by
     have hp:p∈(X.pn++pins)++[]:=hp
     simpa using hp))
    refine⟨w.all.length - (i+1),by lia,.mk (na:=na') hlt I9 (T.keep _ _ _ st5 fun b hb o e=>?_) (fun b hb=>?_) (((s3'.trans s5').trans s7').trans s8') (pin8 _ pacc).2.1 (E7.same s8') hg4 ?_ (rv3.append (.cons r8 .nil)) ((rr3.same ((s5'.trans s7').trans s8')).append (.cons rx8 .nil)) e7 (by rw[<- hz3];simp) (by rw[At8];simp;lia)⟩
    ·exact (Aur s8.heap _ (Avr (fdc b hb).2)).trans (pin8 (b,o) (pits b o hb e)).1
    ·obtain⟨o,e,_⟩:=T.obj _ _ st5 b hb
     exact (pin8 (b,o) (pits b o hb e)).2.1
    ·exact q9
  ·have e:i=w.all.length:=by lia
   subst e
   rw[List.drop_length] at hc3
   cases hc3
   rw[At6] at hz3
   subst hz3
   refine thn (T.done (Av X N' scope cl C s2 H2 fp (X.pn++pins)) rfl rfl rfl hc _ _ s3 σ3 H3 _ I3p (fpY fr3 pfp) st3 (hsrc.stop H3 μ m S3 src3 hck)) fun r s4 ⟨hr,I4⟩=>?_
   subst hr
   have e4:=(I4.pin (Dd,_) (Atm _ (List.mem_singleton.mpr rfl))).1
   have hyl:ys.length<=sizeLine:=by rw[<- rr3.length];exact big (Auf hl3 hsz)
   have inv:∀ h',(∀ b o,b≠C->s4.heap.get? b=some o->h'.get? b=some o)->Inv X pins σ (upd H3 Dd (.lst ys)) { s4 with heap:=h' }:=fun h' hk=>by
    have nC:∀ b o,s2.heap.get? b=some o->b≠C/\b≠Dd:=fun b o e=>below b (by rw[<- hDd];exact Aty e)
    have un:Un (frs X.stack) fp H2 H3 s2.heap s4.heap:=I4.base
    refine I2.call' (s':={ s4 with heap:=h' }) (ch:=fp) I4.os ⟨fun b o e n hb hx=>hk b o (nC b o e).1 (un.keep b o e n hb hx),fun b o e n hb hx=>?_,fun b o e n hx=>?_,fun b o e hx=>?_,fun b xs e=>?_,fun b o v e=>?_,fun b ps e=>?_⟩ (fun b v e=>?_) I4.bare fun b hb=>?_
    ·obtain⟨sl,q⟩:=un.slot b o e n hb hx
     exact⟨sl,hk b _ (nC b o e).1 q⟩
    ·rw[An (nC b o e).2];exact un.free b o e n hx
    ·obtain⟨o',q⟩:=un.there b o e hx
     exact⟨o',hk b _ (nC b o e).1 q⟩
    ·rw[An (Ao e hDn)];exact un.tups b xs e
    ·rw[An (Ao e hDn)];exact un.frzs b o v e
    ·obtain⟨more,q⟩:=un.tbls b ps e
     exact⟨more,by rw[An (Ao e hDn)];exact q⟩
    ·have hCfree:H3 C=none:=I4.free
     by_cases hbD:b=Dd
     ·subst hbD
      rw[As] at e
      cases e
      exact⟨hyl,its,na,rv3,hk _ _ hDC e4⟩
     ·rw[An hbD] at e
      refine (I4.hok b v e).stay (fun c o hc q=>hk c o ?_ q) (fun c q=>by rw[An (Ao q hD3)];exact q) (fun c xs q=>Rd.upd_none hD3 q) fun c x u q=>by rw[An (Ao q hD3)];exact q
      rcases hc with rfl|hc
      ·exact Ao e hCfree
      ·exact Ao hc hCfree
    ·obtain⟨q0,q1,q2,q3,q4,q5⟩:=f2 b hb
     exact⟨q3,q1,q4,q5⟩
   have hCl:C≠X.env.locals:=fun z=>absurd I2.lt (by rw[<- z,hDd];exact Nat.not_lt.mpr hCle)
   have hCc':∀ x c,X.env.cells.lookup x=some c->c≠C:=fun x c e z=>by
    obtain⟨v,oc,ho,_⟩:=I2.cell x c e
    exact absurd (Aty ho) (by rw[z,hDd];exact Nat.not_lt.mpr hCle)
   refine hQ Dd C s4 ⟨⟨upd H3 Dd (.lst ys),ys,(hS2.trans s3').trans (A4 hD3),hS2.free hDn,As,rr3.fresh hD3,inv s4.heap fun _ _ _ e=>e,by rw[An hDC.symm];exact I4.free,fun σ' s'' h' J sb=>?_⟩,?_,hCl,hCc'⟩
   ·exact J.turned (it:=C) (t':=s''.toks) (fun b o hb e=>(sb.2 b hb).trans e) (by rw[An hDC.symm];exact I4.free) hCl (.inr (Auf I2.sz (by rw[hDd];exact hCle))) hCc' fun p hp z=>absurd (Aty (I2.pin p hp).1) (by rw[z,hDd];exact Nat.not_lt.mpr hCle)
   obtain⟨m',hm,_⟩:=I4.loc
   exact⟨m',hm⟩
 exact codeAny_compStart_list (key _ rfl) (T.self _ 0 _ _ _ (T.keep _ _ _ st2 fun b hb o e=>hkp b o e) (key _ rfl))
theorem Aaq (ok:CompOk X scope cap N') (hc:X.calm=true) (hi:PW' X tg iter fw) (hg2:∀ d d' env e1,g d env=some e1->g d' e1=g d' env)
  {Φ:Hp->Prop} (hΦ:∀ {pins:List (Addr×Obj)}{σ:St}{H:Hp}{s:Shared},Inv X pins σ H s->Φ H) (hg:∀ cl C s₀ H₀ ex pn,Φ H₀->PGD (Av X N' scope cl C s₀ H₀ ex pn) tg g) (ht:∀ cl C s₀ H₀ ex pn,Φ H₀->PTs (Av X N' scope cl C s₀ H₀ ex pn) ifs t) (he:∀ cl C s₀ H₀ ex pn,Φ H₀->PD (Av X N' scope cl C s₀ H₀ ex pn) elt fe)
  (hs:∀ x,foldedSetIterable iter X.env x=pure x):PF X (.ListComp elt [⟨tg,iter,ifs,0⟩] scope pos) (B9 cap (N'.length - cap.length) fw g t fe):=by
 intro pins s σ H Q I ⟨env,μ,m,zs,S,E,h,q⟩
 rw[eval_ListComp]
 refine Jf ok hc hi hg2 hΦ hg ht he hs I S E h fun D C s' ⟨⟨H',ys,h1,h2,h3,h4,h5,h6,h7⟩,⟨mm,hm⟩,_,_⟩=>?_
 exact⟨mm,hm,fun h' sb=>⟨.ref D,H',h7 σ s' h' h5 sb,rfl,q D ys H' h1 h2 h3 h4⟩⟩
variable {x:Str}{p' spos:Pos}{i:Nat}
theorem Ur (ok:CompOk X scope cap N') (hc:X.calm=true) (hi:PW' X tg iter fw) (hg2:∀ d d' env e1,g d env=some e1->g d' e1=g d' env)
  {Φ:Hp->Prop} (hΦ:∀ {pins:List (Addr×Obj)}{σ:St}{H:Hp}{s:Shared},Inv X pins σ H s->Φ H) (hg:∀ cl C s₀ H₀ ex pn,Φ H₀->PGD (Av X N' scope cl C s₀ H₀ ex pn) tg g) (ht:∀ cl C s₀ H₀ ex pn,Φ H₀->PTs (Av X N' scope cl C s₀ H₀ ex pn) ifs t) (he:∀ cl C s₀ H₀ ex pn,Φ H₀->PD (Av X N' scope cl C s₀ H₀ ex pn) elt fe)
  (hs:∀ x,foldedSetIterable iter X.env x=pure x) (hsw:swapsWith (.ListComp elt [⟨tg,iter,ifs,0⟩] scope pos) (some (.Name x p')) spos.line X.env=pure true) (hN:X.N.Nodup) (hn:X.N[i]?=some x) (hx:Loc X.env.scope x) (hf:X.fn x=true\/X.env.scope.names.lookup x=some .local) :
  PS X (.Assign [.Name x p'] (.ListComp elt [⟨tg,iter,ifs,0⟩] scope pos) spos) (Ah7 (tF X.K (B9 cap (N'.length - cap.length) fw g t fe)) (R8 i)):=by
 intro pins s σ H Dn I ⟨env,μ,m,zs,S,E,h,q⟩
 rw[exec_Assign_Name_used _ _ _ _ hsw]
 refine Atj (wpAny_standAt (Atj ?_))
 show wpAny _ X.A (do let _ <- comprehension (.ListComp elt [⟨tg,iter,ifs,0⟩] scope pos) scope X.env _ (newList []) false (eval iter X.env) (some (assign (.Name x p') X.env))) _ _ s
 refine Atj (Auq (Jf ok hc hi hg2 hΦ hg ht he hs (use:=some (assign (.Name x p') X.env)) (Q:=fun _ s'=>SP X pins Dn .next s') I S E h fun D C s' ⟨⟨H',ys,h1,h2,h3,h4,h5,h6,h7⟩,⟨mm,hm⟩,lc,cc⟩=>?_) (fun _ s' hq=>Atu (Atu hq)) fun _ _ e=>e)
 show wpAny _ X.A (assign (.Name x p') X.env (.ref D)) _ _ _
 refine wpAny_assign_Name (Nk (v:=.ref D) h5 hN hn hx rfl (fun s'' I'' ⟨a,sb,ha⟩=>?_) hf)
 refine⟨mm,hm.sameBut sb ?_,fun h' sb'=>⟨_,H',h7 _ s'' h' I'' sb',q D ys H' h1 h2 h3 h4⟩⟩
 rcases ha with ha|ha
 ·rw[ha];exact lc
 ·exact (cc x a ha).symm
theorem Af1 (ok:CompOk X scope cap N') (hc:X.calm=true) (hi:PW' X tg iter fw) (hg2:∀ d d' env e1,g d env=some e1->g d' e1=g d' env)
  (hg:∀ cl C s₀ H₀ ex pn,PGD (Av X N' scope cl C s₀ H₀ ex pn) tg g) (ht:∀ cl C s₀ H₀ ex pn,PTs (Av X N' scope cl C s₀ H₀ ex pn) ifs t) (he:∀ cl C s₀ H₀ ex pn,PD (Av X N' scope cl C s₀ H₀ ex pn) elt fe)
  (hs:∀ x,foldedSetIterable iter X.env x=pure x):PF X (.ListComp elt [⟨tg,iter,ifs,0⟩] scope pos) (B9 cap (N'.length - cap.length) fw g t fe) :=
 Aaq (Φ:=fun _=>True) ok hc hi hg2 (fun _=>trivial) (fun a b c d e f _=>hg a b c d e f) (fun a b c d e f _=>ht a b c d e f) (fun a b c d e f _=>he a b c d e f) hs
theorem Pl (ok:CompOk X scope cap N') (hc:X.calm=true) (hi:PW' X tg iter fw) (hg2:∀ d d' env e1,g d env=some e1->g d' e1=g d' env)
  (hg:∀ cl C s₀ H₀ ex pn,PGD (Av X N' scope cl C s₀ H₀ ex pn) tg g) (ht:∀ cl C s₀ H₀ ex pn,PTs (Av X N' scope cl C s₀ H₀ ex pn) ifs t) (he:∀ cl C s₀ H₀ ex pn,PD (Av X N' scope cl C s₀ H₀ ex pn) elt fe)
  (hs:∀ x,foldedSetIterable iter X.env x=pure x) (hsw:swapsWith (.ListComp elt [⟨tg,iter,ifs,0⟩] scope pos) (some (.Name x p')) spos.line X.env=pure true) (hN:X.N.Nodup) (hn:X.N[i]?=some x) (hx:Loc X.env.scope x) (hf:X.fn x=true\/X.env.scope.names.lookup x=some .local) :
  PS X (.Assign [.Name x p'] (.ListComp elt [⟨tg,iter,ifs,0⟩] scope pos) spos) (Ah7 (tF X.K (B9 cap (N'.length - cap.length) fw g t fe)) (R8 i)) :=
 Ur (Φ:=fun _=>True) ok hc hi hg2 (fun _=>trivial) (fun a b c d e f _=>hg a b c d e f) (fun a b c d e f _=>ht a b c d e f) (fun a b c d e f _=>he a b c d e f) hs hsw hN hn hx hf
theorem Aa3 (h:PS X (.Assign [.Name x p'] (.ListComp elt [⟨tg,iter,ifs,0⟩] scope pos) spos) (Ah7 (tF X.K (B9 cap (N'.length - cap.length) fw g t fe)) (R8 i))) :
  PSD X (.Assign [.Name x p'] (.ListComp elt [⟨tg,iter,ifs,0⟩] scope pos) spos) (Bs i (Ec (B9 cap (N'.length - cap.length) fw g t fe))):=PS.imp h fun D σ H ⟨env,μ,m,o,S,E,h,q⟩=>by
 obtain⟨d,h1,h2⟩:=bind_some h
 obtain⟨ds,h0,h1⟩:=bind_some h1
 cases h1
 cases h2
 exact⟨env,μ,m,ds,S,E,h0,fun a xs H' s hn ha r=>q _ H' μ (Step.of_same s) (S.same s) ((E.same s).set i (.lst (.inl ha) (S.nnone hn) r.unw))⟩
theorem Aa1 (h:PS X (.Assign [.Name x p'] (.ListComp elt [⟨tg,iter,ifs,0⟩] scope pos) spos) (Ah7 (tF X.K (B9 cap (N'.length - cap.length) fw g t fe)) (R8 i))) :
  PSD X (.Assign [.Name x p'] (.ListComp elt [⟨tg,iter,ifs,0⟩] scope pos) spos) (Ip i (B9 cap (N'.length - cap.length) fw g t fe)):=PS.imp h fun D σ H ⟨env,μ,m,o,S,E,h,q⟩=>by
 obtain⟨ds,h1,h2⟩:=bind_some h
 cases h2
 refine⟨env,μ,m,ds,S,E,h1,fun a xs H' s hn ha r=>?_⟩
 obtain⟨st,S'⟩:=S.push s hn ha r
 exact q _ H' _ st S' ((E.step S st).set i (Ls S.len))
end
end
end ML
end L2
end S_ML7
section S_ML8
namespace L2
namespace ML
open PySem PySem.Spec PyProof.Rows
open Classical
noncomputable section
noncomputable def Its (x:Str):It:=⟨fun i _=>i < x.cps.size,fun i H v H'=>H'=H/\∃ c,x.cps[i]?=some c/\v=.str ⟨#[c]⟩,fun i _=>x.cps.size<=i⟩
theorem Abz {P:Program}{w:World}{K:W.Frag}{tg:Expr} (it:Addr) (ty:String) (x:Str) (t:Tok) (hty:ty="str_ascii_iterator"\/ty="str_iterator"):Turn P w K tg (Its x) [it] it (fun i h=>h.IsStrIter it ty x t i) where
 mem:=by simp
 obj:=fun i h st b hb=>by
  have e:b=it:=by simpa using hb
  subst e
  obtain⟨o,e,c,d⟩:=st
  exact⟨o,e,fun v z=>by rw[d] at z;cases z⟩
 keep:=fun i h h' st k=>by
  obtain⟨o,e,c,d⟩:=st
  exact⟨o,k it (by simp) o e,c,d⟩
 item:=by
  intro X hP hw hK hc i pins s σ H E I hf st hg
  subst hP hw hK
  obtain⟨f0,f1,f2,f3,f4,f5⟩:=hf it (by simp)
  have hi:i < x.cps.size:=hg
  have hx:x.cps[i]?=some x.cps[i]:=by simp[hi]
  have fin:∀ h',h'.IsStrIter it ty x t (i+1)->Heap.SameBut it s.heap h'->∃ u,some (Value.str ⟨#[x.cps[i]]⟩ s.toks)=some u /\
    wpAny (model X.prog X.w) X.A (letOwnedTupleGo tg (.ref it) u) (fun _ s2=>∃ y H',Inv X pins σ H' s2/\RelV y u/\(Its x).yld i H y H'/\s2.heap.IsStrIter it ty x t (i+1)/\∀ b∈[it],H' b=none) E { s with heap:=h',toks:=s.toks+1 }:=fun h' st' sb=>by
   have I1:Inv X pins σ H { s with heap:=h',toks:=s.toks+1 }:=I.turned (fun b o hb e=>(sb.2 b hb).trans e) f0 f1 f3 f4 f5
   obtain⟨o,e,c,d⟩:=id st'
   refine⟨_,rfl,Vb (s:={ s with heap:=h',toks:=s.toks+1 }) e c d (by rcases hty with rfl|rfl<;>decide) ⟨.str ⟨#[x.cps[i]]⟩,H,I1,⟨_,rfl⟩,⟨rfl,_,hx,rfl⟩,st',fun b hb=>(hf b hb).1⟩⟩
  rcases hty with rfl|rfl
  ·exact wpAny_pyNext_ascii_item st hx fun h' st' sb=>fin h' st' sb
  ·exact wpAny_pyNext_wide_item st hx fun h' st' sb=>fin h' st' sb
 done:=by
  intro X hP hw hK hc i pins s σ H E I hf st hg
  subst hP hw hK
  obtain⟨f0,f1,f2,f3,f4,f5⟩:=hf it (by simp)
  have hi:x.cps.size<=i:=hg
  rcases hty with rfl|rfl
  ·exact wpAny_pyNext_ascii_end (I.ok.hd hc) st (by simp[hi]) fun h' eb=>⟨rfl,I.turned (t':=s.toks) (fun b o hb e=>eb b o hb e) f0 f1 f3 f4 f5⟩
  ·exact wpAny_pyNext_wide_end (I.ok.hd hc) st (by simp[hi]) fun h' eb=>⟨rfl,I.turned (t':=s.toks) (fun b o hb e=>eb b o hb e) f0 f1 f3 f4 f5⟩
 self:=fun _ _ _ _ _ st h=>by
  rcases hty with rfl|rfl
  ·exact wpAny_pyIter_striter_ascii st h
  ·exact wpAny_pyIter_striter_wide st h
noncomputable def Ju (z:Str):List D:=z.cps.toList.map fun c=>.str ⟨#[c]⟩
theorem Ahh {K:W.Frag}{z:Str} (ok:PyData.strOk z=true):Src K (Its z) (Ju z) Az (fun _ _ _=>True) where
 go:=fun H μ m i d S h _ e=>by
  unfold Ju at e
  rw[Aub] at e
  cases q:z.cps.toList[i]? with
  |none=>rw[q] at e;cases e
  |some c =>
   rw[q] at e
   cases e
   have hi:i < z.cps.size:=by simpa using (List.getElem?_eq_some_iff.mp q).1
   have q':z.cps[i]?=some c:=by simpa using q
   refine⟨hi,fun x H' ⟨h1,c',h2,h3⟩=>?_⟩
   subst h1
   subst h3
   rw[q'] at h2
   cases h2
   exact⟨Same.refl _,.str _ (H0 ok fun c' hc=>by rw[show c'=c by simpa using hc];exact Aui q)⟩
 stop:=fun H μ m S h _=>by show z.cps.size<=(Ju z).length;unfold Ju;simp
 keep:=fun H μ m H' μ' m' h S st S'=>trivial
section
variable {X:Cx}{a b c e o':Expr}{es:List Expr}{pos p p' apos cpos spos:Pos}{x:Str}{tg:Expr}{id:String}
def Nt (f:FE):FW:=fun env m=>(f env m).bind fun d=>match d with
 |.str z=>some ⟨Ju z,Az⟩
 |.tup ds=>some ⟨ds,Az⟩
 |.lst ds=>some ⟨ds,Az⟩
 |.kl ds=>some ⟨ds,Az⟩
 |.ref n=>(match m[n]? with
  |some (.lst ds)=>some ⟨ds,fun m'=>m'[n]?=some (.lst ds)⟩
  |_=>none)
 |_=>none
theorem Ami {f:FE} (h:PD X e f):PW' X tg e (Nt f):=by
 intro pins s σ H R I hw
 obtain⟨env,μ,m,w,S,E,hw,q⟩:=hw
 obtain⟨d,h1,h2⟩:=bind_some hw
 refine thn (h pins s σ H (fun v H1=>Same H H1/\Rep X.K H1 μ (·∈μ) d v) I ⟨env,μ,m,d,S,E,h1,fun v H1 s1 r1=>⟨s1,r1⟩⟩) fun u s1 ⟨v,H1,I1,r1,s1',rx⟩=>?_
 have lst:∀ {a:Addr}{xs:List V},u=.ref a->SqL X.K H1 a xs->R (Itl X.K a) H1->wpAny (model X.prog X.w) X.A (pyIter u) (PIE X pins σ tg R) X.xe s1:=fun {a xs} e hq hR=>by
  subst e
  obtain⟨its,rv,p,hz⟩:=I1.list hq
  refine wpAny_pyIter_list p.isList ?_
  refine⟨s1.heap.objs.size,[s1.heap.objs.size],_,_,H1,rfl,I1.kept (t':=s1.toks) fun b o e=>Ato _ e,Yv a _,⟨_,At3 _ rfl,rfl,rfl⟩,fun b hb=>?_,hR⟩
  have e:b=s1.heap.objs.size:=by simpa using hb
  subst e
  exact I1.fpOk (Atp _) (I1.hok.fresh (Atp _))
 have rx0:=rx
 cases rx with
 |str z ok =>
  cases h2
  obtain⟨t,rfl⟩:=r1
  have fin:∀ ty,(ty="str_ascii_iterator"\/ty="str_iterator")->PIE X pins σ tg R (.ref s1.heap.objs.size) { s1 with heap:=s1.heap.push { cls:=.type ty,data:=.fields #[.str z t,.int 0 0] } }:=fun ty hty=>by
   refine⟨s1.heap.objs.size,[s1.heap.objs.size],_,_,H1,rfl,I1.kept (t':=s1.toks) fun b o e=>Ato _ e,Abz _ ty z t hty,⟨_,At3 _ rfl,rfl,rfl⟩,fun b hb=>?_,q H1 _ _ s1' (Ahh ok) trivial⟩
   have e:b=s1.heap.objs.size:=by simpa using hb
   subst e
   exact I1.fpOk (Atp _) (I1.hok.fresh (Atp _))
  cases ha:z.cps.all (· < 128)
  ·exact wpAny_pyIter_wide ha (fin _ (.inr rfl))
  ·exact wpAny_pyIter_ascii ha (fin _ (.inl rfl))
 |@tup ds a xs hq rs =>
  cases h2
  cases r1
  obtain⟨its,rv,p,hz⟩:=I1.tuple hq
  refine wpAny_pyIter_tuple (show s1.heap.IsTuple a its.toArray from p) ?_
  refine⟨s1.heap.objs.size,[s1.heap.objs.size],_,_,H1,rfl,I1.kept (t':=s1.toks) fun b o e=>Ato _ e,T6 a _,⟨_,At3 _ rfl,rfl,rfl⟩,fun b hb=>?_,q H1 _ _ s1' Ahi rx0⟩
  have e:b=s1.heap.objs.size:=by simpa using hb
  subst e
  exact I1.fpOk (Atp _) (I1.hok.fresh (Atp _))
 |@lst ds a xs hq _ rs=>cases h2;exact lst r1 (.inl hq) (q H1 _ _ s1' Ahe rx0)
 |@kl ds a xs hq rs=>cases h2;exact lst r1 hq.sq (q H1 _ _ s1' Am5 rx0)
 |dic _ _ _ _=>cases h2
 |fn _=>exact Ac h2
 |@ref n a e =>
  simp only at h2
  cases q':m[n]? with
  |none=>simp[q'] at h2
  |some ob =>
   simp only[q'] at h2
   cases ob with
   |dct _ _=>cases h2
   |lst ds =>
    cases h2
    obtain⟨xs,e1,rs⟩:=(S.same s1').obj n a _ e q'
    exact lst r1 (SqL.of e1) (q H1 _ _ s1' Ahg e)
 |non=>exact Ac h2
 |bl _=>exact Ac h2
 |int _=>exact Ac h2
theorem Sim.write {K:W.Frag}{H:Hp}{μ:List Addr}{m:MH}{n:Nat}{a:Addr}{ds es:List D}{ys:List V} (S:Sim K H μ m) (h1:μ[n]?=some a) (h2:m[n]?=some (.lst ds)) (r:Reps K H μ (·∈μ) es ys) :
  Step H μ (upd H a (.lst ys)) μ/\Sim K (upd H a (.lst ys)) μ (m.set n (.lst es))/\∀ {d:D}{v:V},Rep K H μ (·∈μ) d v->Rep K (upd H a (.lst ys)) μ (·∈μ) d v:=by
 have ha:a∈μ:=Aui h1
 have st:Step H μ (upd H a (.lst ys)) μ:=⟨⟨[],by simp,by simp⟩,fun b o e hb=>by rw[An fun z=>hb (by rw[z];exact ha)];exact e⟩
 have nl:n < m.length:=(List.getElem?_eq_some_iff.mp h2).1
 refine⟨st,⟨S.nd,by simp[S.len],fun j b o h3 h4=>?_⟩,fun r=>r.step S st⟩
 by_cases hj:j=n
 ·subst hj
  rw[h1] at h3
  cases h3
  rw[Au1 nl] at h4
  cases h4
  exact⟨ys,As,r.step S st⟩
 ·rw[Avi (Avr hj)] at h4
  have q:=S.obj j b o h3 h4
  have hb:b≠a:=fun z=>hj (by
   subst z
   exact (List.getElem_inj S.nd).mp ((List.getElem?_eq_some_iff.mp h3).2.trans (List.getElem?_eq_some_iff.mp h1).2.symm))
  cases o with
  |lst fs=>obtain⟨zs,q1,q2⟩:=q;exact⟨zs,by rw[An hb];exact q1,q2.step S st⟩
  |dct ks vs=>obtain⟨zs,q1,q2,q3⟩:=q;exact⟨zs,by rw[An hb];exact q1,q2,q3.step S st⟩
def An7 (X:Cx) (r:V->List V->Hp->VK->Prop) (o:List D->List D->Option (List D)):Prop :=
 ∀ (μ:List Addr) (H:Hp) (a:Addr) (xs vs:List V) (ds es fs:List D) (Q:VK),H a=some (.lst xs)->a∈μ->Reps X.K H μ (·∈μ) ds xs->Reps X.K H μ (·∈μ) es vs->o ds es=some fs->(∀ ys,Reps X.K H μ (·∈μ) fs ys->Q .non (upd H a (.lst ys)))->r (.ref a) vs H Q
noncomputable def L7 (o:List D->List D->Option (List D)) (f:FE) (g:FL):FS:=fun env m=>(f env m).bind fun d=>match d with
 |.ref n=>(g env m).bind fun es=>(match m[n]? with
  |some (.lst ds)=>(o ds es).bind fun fs=>some (.nx env (m.set n (.lst fs)))
  |_=>none)
 |_=>none
theorem Xs {r:V->List V->Hp->VK->Prop}{o:List D->List D->Option (List D)}{f:FE}{g:FL}{name:Str} (pa:PlainAttrs "list") (slot:Slot "list" name id) (hty:typeOf (.builtin id)=pure (.type "method_descriptor")) (hm:MtR X id r) (ho:An7 X r o) (hf:PD X o' f) (ha:PL X (e::es) g)
  (hbase:attributeBase o' name X.env (eval o' X.env)=eval o' X.env)
  (hfew:((backTo cpos (starEach (e::es) X.env)).all (fun x=>!x.1)&&(backToKw cpos (keywordEach [] X.env)).all (fun x=>x.1.isSome)
   &&decide ((e::es).length+([]:List Keyword).length+(if ([]:List Keyword).isEmpty then 0 else 1) < 30))=true)
  (hline:(apos.endLine == cpos.line)=true) (hs:starEach (e::es) X.env=(false,eval e X.env)::starEach es X.env) (hplain:(backTo cpos (starEach es X.env)).any (·.1)=false) :
  PSD X (.Expr (.Call (.Attribute o' name apos) (e::es) [] cpos) spos) (L7 o f g):=PS.imp (Agb (Aqi pa slot hty hm hf ha hbase hfew hline hs hplain)) fun D σ H ⟨env,μ,m,ob,S,E,h,q⟩=>by
 obtain⟨d,h1,h⟩:=bind_some h
 refine⟨env,μ,m,d,S,E,h1,fun v H1 s1 r1=>?_⟩
 cases r1 with
 |@ref n a e =>
  simp only at h
  obtain⟨es,h2,h⟩:=bind_some h
  cases q':m[n]? with
  |none=>simp[q'] at h
  |some mo =>
   simp only[q'] at h
   cases mo with
   |dct _ _=>cases h
   |lst ds =>
    simp only at h
    obtain⟨fs,h3,h⟩:=bind_some h
    cases h
    obtain⟨xs,e1,rs⟩:=(S.same s1).obj n a _ e q'
    refine⟨.inl ⟨rfl,xs,SqL.of e1⟩,env,μ,m,es,S.same s1,E.same s1,h2,fun vs H2 s2 r2=>?_⟩
    have S2:=S.same (s1.trans s2)
    refine ho μ H2 a xs vs ds es fs _ (s2 _ _ e1) (Aui e) (rs.same s2) r2 h3 fun ys ry=>?_
    obtain⟨st,S3,up⟩:=S2.write e q' ry
    exact q σ _ μ ((Step.of_same (s1.trans s2)).trans st fun c hc=>(s1.trans s2).free hc) S3 ((E.same (s1.trans s2)).step S2 st)
 |_=>exact Ac h
noncomputable def Nr:List D->List D->Option (List D):=fun ds es=>match es with
 |[d]=>if ds.length < 1000000 then some (ds++[d]) else none
 |_=>none
theorem Akn:An7 X X5 Nr:=fun μ H a xs vs ds es fs Q h1 ha rs re h q=>by
 match es,h with
 |[d],h =>
  unfold Nr at h
  simp only at h
  split at h
  ·rename_i hl
   cases h
   obtain⟨v,rfl,r⟩:=re.one
   exact⟨a,xs,v,rfl,rfl,h1,by rw[<- rs.length];have:sizeLine=16777216:=Ava;lia,q _ (rs.append (.cons r .nil))⟩
  ·cases h
def Ng (f fo fi:FE):FS:=fun env m=>(f env m).bind fun d=>(fo env m).bind fun o=>(fi env m).bind fun i=>match o,i with
 |.ref n,.int k=>(match m[n]? with
  |some (.lst ds)=>(ixN ds.length k).bind fun j=>some (.nx env (m.set n (.lst (ds.set j d))))
  |_=>none)
 |_,_=>none
theorem Xt {f fo fi:FE} (he:PD X e f) (ho:PD X a fo) (hi:PD X b fi)
  (ha:∀ v,assign (.Subscript a b p) X.env v=(do
   let ov <- holding [v] (eval a X.env)
   let iv <- holding [v,ov] (eval b X.env)
   standAt p
   holding [v,ov,iv] (setItem ov iv v)
   release [v,ov,iv] [])) (hs:swapsWithSole [.Subscript a b p] e pos.line X.env=pure false) (hw:swappedStores [.Subscript a b p] e X.env=pure none) (h1:(assignEach [.Subscript a b p] X.env).map (·.2)=[assign (.Subscript a b p) X.env]) :
  PSD X (.Assign [.Subscript a b p] e pos) (Ng f fo fi):=PS.imp (Xq he (Ac0 ho hi Abj ha) hs hw h1) fun D σ H ⟨env,μ,m,ob,S,E,h,q⟩=>by
 obtain⟨d,h1,h⟩:=bind_some h
 obtain⟨o,h2,h⟩:=bind_some h
 obtain⟨i,h3,h⟩:=bind_some h
 refine⟨env,μ,m,d,S,E,h1,fun v H1 s1 r1=>⟨env,μ,m,o,S.same s1,E.same s1,h2,fun u H2 s2 r2=>⟨env,μ,m,i,S.same (s1.trans s2),E.same (s1.trans s2),h3,fun w H3 s3 r3=>?_⟩⟩⟩
 have s':=(s1.trans s2).trans s3
 have r2':=r2.same s3
 obtain⟨n,rfl⟩:∃ n,o=.ref n:=by
  cases o with
  |ref n=>exact⟨n,rfl⟩
  |_=>cases h
 obtain⟨k,rfl⟩:∃ k,i=.int k:=by
  cases i with
  |int k=>exact⟨k,rfl⟩
  |_=>cases h
 cases r3
 cases r2' with
 |@ref _ a e =>
  simp only at h
  cases q':m[n]? with
  |none=>simp[q'] at h
  |some mo =>
   simp only[q'] at h
   cases mo with
   |dct _ _=>cases h
   |lst ds =>
    simp only at h
    obtain⟨j,h4,h⟩:=bind_some h
    cases h
    obtain⟨xs,e1,rs⟩:=(S.same s').obj n a _ e q'
    refine⟨a,xs,k,j,rfl,rfl,e1,by rw[<- rs.length];exact h4,?_⟩
    obtain⟨st,S3,up⟩:=(S.same s').write e q' (rs.set ((r1.same s2).same s3) j)
    exact q σ _ μ ((Step.of_same s').trans st fun c hc=>s'.free hc) S3 ((E.same s').step (S.same s') st)
end
end
end ML
end L2
end S_ML8
section S_ML8a
namespace L2
namespace ML
open PySem PySem.Spec PyProof.Rows
noncomputable def Bc:Expr->Bool
 |.Starred ..=>false
 |_=>true
noncomputable def Ln:Expr->Bool
 |.ListComp ..=>false|.SetComp ..=>false|.DictComp ..=>false
 |_=>true
noncomputable def Aco:Expr->Bool
 |.UnaryOp ..=>false|.BoolOp ..=>false|.IfExp ..=>false|.Compare ..=>false
 |_=>true
noncomputable def Ap4:Expr->Bool
 |.Slice ..=>false
 |_=>true
noncomputable def Gp:Expr->Bool
 |.Set ..=>false
 |_=>true
noncomputable def V9:Expr->Bool
 |.Call ..=>false
 |_=>true
theorem Ap (h:Bc e=true):starEach (e::es) env=(false,eval e env)::starEach es env:=by
 cases e<;>first|rfl|cases h
theorem Cc {pos:Pos}{env:Env}:∀ {es:List Expr},es.all Bc=true->(backTo pos (starEach es env)).any (·.1)=false
 |[],_=>rfl
 |e::es,h=>by
  rw[Au7,At0] at h
  rw[Ap h.1]
  have ih:=Cc (pos:=pos) (env:=env) h.2
  unfold backTo at ih ⊢
  rw[Atz,Awd,ih]
  rfl
theorem Rl {pos:Pos}{env:Env}:∀ {es:List Expr},es.all Bc=true->(backTo pos (starEach es env)).all (fun x=>!x.1)=true
 |[],_=>rfl
 |e::es,h=>by
  rw[Au7,At0] at h
  rw[Ap h.1]
  have ih:=Rl (pos:=pos) (env:=env) h.2
  unfold backTo at ih ⊢
  rw[Atz,Au7,ih]
  rfl
theorem Rm {pos:Pos} (h:es.all Bc=true) (hl:decide (es.length < 30)=true):((backTo pos (starEach es env)).all (fun x=>!x.1)&&(backToKw pos (keywordEach [] env)).all (fun x=>x.1.isSome)
   &&decide (es.length+([]:List Keyword).length+(if ([]:List Keyword).isEmpty then 0 else 1) < 30))=true:=by
 rw[Rl h]
 have hl:=Auw hl
 have e:es.length+([]:List Keyword).length+(if ([]:List Keyword).isEmpty then 0 else 1)=es.length:=rfl
 rw[e,Avl hl]
 rfl
theorem H4 {t:Option Expr}{l:Nat} (h:Ln e=true):swapsWith e t l env=pure false:=by
 cases e<;>first|rfl|cases h
theorem Lx {e t:Expr}{l:Nat} (h:Ln e=true):swapsWithSole [t] e l env=pure false:=H4 h
theorem Tx (h:Aco e=true):∀ whole,isTrue e env whole=(do let v <- whole;standAt e.pos;holding [v] (truthy v)):=by
 intro whole
 cases e<;>first|rfl|cases h
theorem Pw (h:Ap4 e=true):J1 e:=by
 intro o i
 cases e<;>first|rfl|cases h
theorem D2 (h:Gp e=true):∀ x,foldedSetIterable e env x=pure x:=by
 intro x
 cases e<;>first|rfl|cases h
theorem Jd (h:V9 e=true):attributeBase e n env (eval e env)=eval e env:=by
 cases e<;>first|rfl|cases h
theorem Jn (h:Gp e=true):behindInMarks op e=false:=by
 cases e<;>first|rfl|cases h
open Classical
noncomputable section
def Ha (scope outer:Scope) (N N':List Str) (cap:List Nat):Bool :=
 scope.kind == .function&&scope.names.all (fun y=>y.2 != .cell||scope.names.lookup y.1 == some .cell)&&scope.names.all (fun y=>y.2 != .local||scope.names.lookup y.1 == some .local)
 &&scope.names.all (fun y=>y.2 != .free||(outer.names.lookup y.1 == some .cell||outer.names.lookup y.1 == some .free))&&decide N'.Nodup&&decide (cap.length<=N'.length)
 &&(List.range cap.length).all fun j=>match cap[j]?,N'[j]? with
  |some i,some x=>N[i]? == some x&&scope.names.lookup x == some .free
  |_,_=>false
theorem CompOk.of {cap:List Nat} (h:Ha scope X.env.scope X.N N' cap=true):CompOk X scope cap N':=by
 unfold Ha at h
 simp only[At0] at h
 obtain⟨⟨⟨⟨⟨⟨h1,h2⟩,h3⟩,h4⟩,h5⟩,h6⟩,h7⟩:=h
 refine⟨by simpa using h1,fun y hy e=>?_,fun y hy e=>?_,fun y hy e=>?_,Auw h5,Auw h6,fun j i x e1 e2=>?_⟩
 ·have:=List.all_eq_true.mp h2 y hy
  rw[e] at this
  simpa using this
 ·have:=List.all_eq_true.mp h3 y hy
  rw[e] at this
  simpa using this
 ·have:=List.all_eq_true.mp h4 y hy
  rw[e] at this
  simpa using this
 ·have hj:j < cap.length:=(List.getElem?_eq_some_iff.mp e1).1
  have:=List.all_eq_true.mp h7 j (List.mem_range.mpr hj)
  rw[e1,e2] at this
  simpa using this
theorem Do (i:Nat):∀ d d' env e1,Ar i d env=some e1->Ar i d' e1=Ar i d' env:=fun d d' env e1 h=>by
 cases h
 unfold Ar
 rw[List.set_set]
structure QD (X:Cx) (e:Expr) (f:FE):Prop where out:PD X e f
structure QF (X:Cx) (e:Expr) (f:FL):Prop where out:PF X e f
structure QB (X:Cx) (e:Expr) (f:FB):Prop where out:PB X e f
structure QWB (X:Cx) (e:Expr) (f:FB):Prop where out:PWB X e f
structure QL (X:Cx) (e:List Expr) (f:FL):Prop where out:PL X e f
structure QO (X:Cx) (e:Option Expr) (f:FO):Prop where out:PO' X e f
structure QS (X:Cx) (e:Stmt) (f:FS):Prop where out:PSD X e f
structure QSs (X:Cx) (e:List Stmt) (f:FS):Prop where out:Ue X e f
structure QG (X:Cx) (e:Expr) (f:FG):Prop where out:PGD X e f
structure QGs (X:Cx) (e:List Expr) (f:List D->Ax->Option Ax):Prop where out:Aia X e f
structure QW (X:Cx) (tg e:Expr) (f:FW):Prop where out:PW' X tg e f
structure QTs (X:Cx) (e:List Expr) (f:FB):Prop where out:PTs X e f
theorem As5 {P:Program}{w:World}{K:W.Frag}{mg:Str->Option Value}{base:Heap}{x qual:Str}{st:Stmt}{f:Addr}{fd:FuncData}{N ps:List Str}{k n:Nat} (F:Fun K x qual st f fd) (S:FnScope N ps (Am st)) (g:FS) (fn:List D->Option D) (hfn:fn=Ef N.length g) (hn:ps.length=n)
  (hbody:∀ (cdv:Value) (A:Around) (outer:List Env) (s:Shared) (H:Hp) (E:XK),Room k (A.deeper (envOfC qual (Am st) s.heap.objs.size f cdv)) ->
   QSs (N7 CX0 P w K mg base N qual (Am st) f cdv A outer s H E).nox (Bi st) g):FnOk P w K mg base CX0 (k+1) f fd ps (spP K n fn):=by
 subst hfn hn
 exact Aei F S fun cdv A outer s H E hr=>(hbody cdv A outer s H E hr).out
theorem Dx:QTs X [] L6:=⟨Agk⟩
theorem Ams (h:QB X c f):QTs X [c] f:=⟨Agl h.out⟩
section
variable {X:Cx}{a b c e:Expr}{es:List Expr}{pos p p' apos cpos spos:Pos}{x:Str}{tg:Expr}{id:String}
theorem Ah {i j}:QD X (.Constant (.int i) j pos) (fC (.int i)):=⟨Alv⟩
theorem Aba {i j}:QD X (.Constant (.bool i) j pos) (fC (.bl i)):=⟨Aqc⟩
theorem X1 {j}:QD X (.Constant .none j pos) (fC .non):=⟨Aly⟩
theorem Aq (ho:OpM X (binaryOp op) o) (ha:QD X a f) (hb:QD X b g):QD X (.BinOp a op b pos) (f2 o f g):=⟨Alr ho ha.out hb.out⟩
theorem Agx (ha:QD X a f):QD X (.UnaryOp .Not a pos) (Mn f):=⟨Alz ha.out⟩
theorem Ja {op} (h:QD X a f):QD X (.BoolOp op [a] pos) f:=⟨Al0 h.out⟩
theorem M8 (ha:QD X a f) (hb:QD X (.BoolOp .And (b::es) pos) g):QD X (.BoolOp .And (a::b::es) pos) (Es f g):=⟨Alq ha.out hb.out⟩
theorem Ark (ha:QD X a f) (hb:QD X (.BoolOp .Or (b::es) pos) g):QD X (.BoolOp .Or (a::b::es) pos) (Aef f g):=⟨Aqf ha.out hb.out⟩
theorem As6 {t:FB} (hc:QB X c t) (ha:QD X a f) (hb:QD X b g):QD X (.IfExp c a b pos) (fIf t f g):=⟨Aqd hc.out ha.out hb.out⟩
theorem Ba {x1} (h:QL X es g):QD X (.Tuple es x1 pos) (Cq g):=⟨Al2 h.out⟩
theorem D9 (h:QL X es g):QF X (.List es pos) (Bt g):=⟨Amb h.out⟩
theorem Gw (h:QF X e g):QD X e (Ec g):=⟨Aal h.out⟩
theorem Ae:QL X [] Aj:=⟨Amd⟩
theorem Oy:QO X none fNo:=⟨Aav⟩
theorem Oz (h:QD X e f):QO X (some e) (Od f):=⟨Aaw h.out⟩
theorem Aqr {f:FE}{l h:FO}{lo hi:Option Expr} (ha:QD X a f) (hl:QO X lo l) (hh:QO X hi h):QD X (.Subscript a (.Slice lo hi none p) pos) (fSl f l h):=⟨Aqg ha.out hl.out hh.out⟩
theorem Amn (ha:QD X a f) (hb:QD X b g):QF X (.BinOp a .Add b pos) (Ahz f g):=⟨Ama ha.out hb.out⟩
theorem Ac4 {j} (ha:QD X a f):QB X (.Compare a [.Is] [.Constant .none j p] pos) (Be (f1 Acn f)):=⟨Alm ha.out⟩
theorem Lq {j} (ha:QD X a f):QB X (.Compare a [.IsNot] [.Constant .none j p] pos) (Be (f1 Iz f)):=⟨Afx ha.out⟩
theorem Gi (ha:QB X a f):QWB X (.BoolOp .And [a] pos) f:=⟨Aa7 ha.out⟩
theorem Ri (ha:QB X a f):QWB X (.BoolOp .Or [a] pos) f:=⟨Agq ha.out⟩
theorem Jt (ha:QB X a f) (hb:QWB X (.BoolOp .And (b::es) pos) g):QWB X (.BoolOp .And (a::b::es) pos) (U1 f g):=⟨Agp ha.out hb.out⟩
theorem Abf (ha:QB X a f) (hb:QWB X (.BoolOp .Or (b::es) pos) g):QWB X (.BoolOp .Or (a::b::es) pos) (fOr f g):=⟨Aml ha.out hb.out⟩
theorem C6 (h:QWB X (.BoolOp op es pos) f):QB X (.BoolOp op es pos) f:=⟨Afw h.out⟩
theorem Xz (ha:QB X a f):QB X (.UnaryOp .Not a pos) (Aee f):=⟨Aln ha.out⟩
theorem Gg (h:QD X e f):QW X tg e (Nt f):=⟨Ami h.out⟩
theorem Hw:QGs X [] Po:=⟨Aat⟩
variable {st:Stmt}{rest sa sb:List Stmt}
theorem Bo:QSs X [] Gs:=⟨Agf⟩
theorem Ag (h1:QS X st f) (h2:QSs X rest g):QSs X (st::rest) (Bd f g):=⟨Aay h1.out h2.out⟩
theorem Al (h1:QS X st f):QSs X [st] f:=⟨Agg h1.out⟩
theorem A5 (he:QD X e f):QS X (.Return (some e) pos) (Dm f):=⟨Agh he.out⟩
theorem Agz (he:QF X e f):QS X (.Return (some e) pos) (Yb f):=⟨Aa2 he.out⟩
theorem Co {t:FB} (hc:QB X c t) (ha:QSs X sa f) (hb:QSs X sb g):QS X (.If c sa sb pos) (sIf t f g):=⟨Amf hc.out ha.out hb.out⟩
theorem Abe (k:Nat) (hp:PassesOwn (model X.prog X.w) X.A X.env X.xe) (hc:QB X c f) (hb:QSs X body g):QS X (.While c body [] pos) (Eh f g k):=⟨Xu k hp hc.out hb.out⟩
theorem Ai (i:Nat) (hN:X.N[i]?=some x:=by kernel_rfl) (hv:Vis X.env.scope x:=by exact Av3 (by kernel_rfl)) (hd:(x == ("__debug__":Str))=false:=by decide) (hcd:(x == ("__classdict__":Str))=false:=by decide):QD X (.Name x pos) (Ad i):=⟨Acy i hN hv hd hcd⟩
theorem Bh (i:Nat) (hN:X.N[i]?=some x:=by kernel_rfl) (hv:Vis X.env.scope x:=by exact Or.inr (Av3 (by kernel_rfl))) (hd:(x == ("__debug__":Str))=false:=by decide) (hcd:(x == ("__classdict__":Str))=false:=by decide):QD X (.Name x pos) (Ad i):=⟨Acy i hN hv hd hcd⟩
theorem Ac6 {j} (ok:PyData.strOk z=true:=by exact Eg _):QD X (.Constant (.str z) j pos) (fC (.str z)):=⟨Al1 ok⟩
theorem Af (ha:QD X e f) (hr:QL X es g) (hs':Bc e=true:=by rfl):QL X (e::es) (Aa f g):=⟨Af6 ha.out hr.out (Ap hs')⟩
theorem Dw (ho:OpM X (compareOp op) o) (ha:QD X a f) (hb:QD X b g) (hm':Gp b=true:=by rfl):QD X (.Compare a [op] [b] pos) (f2 o f g):=⟨Als ho ha.out hb.out (Jn hm')⟩
theorem Bq (ho:OpM X (compareOp op) o) (ha:QD X a f) (hb:QD X b g) (hm':Gp b=true:=by rfl):QB X (.Compare a [op] [b] pos) (Be (f2 o f g)):=⟨Alk ho ha.out hb.out (Jn hm')⟩
theorem Gq (ha:QD X a f) (he':Aco a=true:=by rfl):QB X a (T9 f):=⟨Alo ha.out (Tx he')⟩
theorem A9 (ha:QD X a f) (hb:QD X b g) (hs':Ap4 b=true:=by rfl):QD X (.Subscript a b pos) (f2 oIx f g):=⟨Aqe ha.out hb.out (Pw hs')⟩
theorem By (hm:X.mg "len"=none) (ha:QL X [e] g) (hg:Gl X "len":=by unfold Gl;kernel_rfl) (he':Bc e=true:=by rfl):QD X (.Call (.Name "len" p) [e] [] pos) (Ay Gv g):=⟨G8 Ajn hg hm boot_len ha.out (by decide) (by decide) (Ap he') rfl⟩
theorem Amo (hc:X.calm=true) (hm:X.mg "all"=none) (ha:QL X [e] g) (hg:Gl X "all":=by unfold Gl;kernel_rfl) (he':Bc e=true:=by rfl):QD X (.Call (.Name "all" p) [e] [] pos) (Ay Aks g):=⟨G8 (Ajm hc) hg hm (by decide +kernel) ha.out (by decide) (by decide) (Ap he') rfl⟩
theorem D5 (hm:X.mg "tuple"=none) (ha:QL X [e] g) (hg:Gl X "tuple":=by unfold Gl;kernel_rfl) (he':Bc e=true:=by rfl):QD X (.Call (.Name "tuple" p) [e] [] pos) (Ay Ex g):=⟨Xk Zg hg hm (by decide +kernel) ha.out (by decide) (by decide) (Ap he') rfl⟩
theorem Js (ha:QD X e f) (hm:X.mg "isinstance"=none) (hm':X.mg y=none) (hv':bootBuiltins y=some (.type U)) (hn:y≠"__name__":=by decide) (hdb:(y == ("__debug__":Str))=false:=by decide) (hg:Gl X "isinstance":=by unfold Gl;kernel_rfl) (hg':Gl X y:=by unfold Gl;kernel_rfl) (he':Bc e=true:=by rfl):QD X (.Call (.Name "isinstance" p) [e,.Name y p'] [] pos) (Y5 U f):=⟨Alw ha.out hg hm hg' hm' hv' hn hdb (by decide +kernel) (Ap he') (Ap rfl) (Cc rfl)⟩
theorem Ags {fd:FuncData} (F:FnOk X.prog X.w X.K X.mg X.base CX0 k f fd ps (spP X.K n fn)) (hr:Room k X.A) (hm:X.mg x=some (.ref f)) (hk:W.keepIn X.K (.ref f)=true) (hb:Binds X.K fd ps []) (ha:QL X (e::es) g) (hg:Gl X x:=by unfold Gl;kernel_rfl) (hdb:(x == ("__debug__":Str))=false:=by decide) (he':Bc e=true:=by rfl) (hpl':es.all Bc=true:=by rfl) :
  QD X (.Call (.Name x p) (e::es) [] pos) (Ay (Ei n fn) g):=⟨Afy F hr hg hm hk hb (Aaj (X:=X)) ha.out hdb (Ap he') (Cc hpl')⟩
theorem Agv {fd:FuncData} (F:FnOk X.prog X.w X.K X.mg X.base CX0 k f fd ps (spP X.K n fn)) (hr:Room k X.A) (hm:X.mg x=some (.ref f)) (hk:W.keepIn X.K (.ref f)=true) (hb:Binds X.K fd ps []) (ha:QL X (e::es) g) (hg:Gl X x:=by unfold Gl;kernel_rfl) (hdb:(x == ("__debug__":Str))=false:=by decide) (he':Bc e=true:=by rfl) (hpl':es.all Bc=true:=by rfl) :
  QF X (.Call (.Name x p) (e::es) [] pos) (Eb (N3 n fn) g):=⟨Af0 F hr hg hm hk hb (Aaj (X:=X)) ha.out hdb (Ap he') (Cc hpl')⟩
theorem Dl (hf:QD X a f) (ha:QL X [e] g) (hbase':V9 a=true:=by rfl) (hline:(apos.endLine == cpos.line)=true:=by kernel_rfl) (hs':Bc e=true:=by rfl) :
  QS X (.Expr (.Call (.Attribute a "append" apos) [e] [] cpos) spos) (L7 Nr f g):=⟨Xs PySem.F.plainAttrs_list PySem.F.slot_list_append PySem.F.type_list_append V0 Akn hf.out ha.out (Jd hbase') (Rm (by rw[Au7,hs'];rfl) rfl) hline (Ap hs') rfl⟩
theorem A6 (hN:X.N.Nodup) (he:QD X e f) (hi:X.N[i]?=some x:=by kernel_rfl) (hx:Loc X.env.scope x:=by exact Av3 (by kernel_rfl)) (hs':Ln e=true:=by rfl) (hf:X.fn x=true\/X.env.scope.names.lookup x=some .local:=by exact Av3 (by kernel_rfl)) :
  QS X (.Assign [.Name x p'] e pos) (Bs i f):=⟨Ow hN hi hx he.out (H4 hs') hf⟩
theorem O0 (hN:X.N.Nodup) (he:QD X e f) (hi:X.N[i]?=some x:=by kernel_rfl) (hx:Loc X.env.scope x:=by exact Or.inr (by kernel_rfl)) (hs':Ln e=true:=by rfl) (hf:X.fn x=true\/X.env.scope.names.lookup x=some .local:=by exact Av3 (by kernel_rfl)) :
  QS X (.Assign [.Name x p'] e pos) (Bs i f):=⟨Ow hN hi hx he.out (H4 hs') hf⟩
theorem Ez (hN:X.N.Nodup) (he:QF X e f) (hi:X.N[i]?=some x:=by kernel_rfl) (hx:Loc X.env.scope x:=by exact Av3 (by kernel_rfl)) (hs':Ln e=true:=by rfl) (hf:X.fn x=true\/X.env.scope.names.lookup x=some .local:=by exact Av3 (by kernel_rfl)) :
  QS X (.Assign [.Name x p'] e pos) (Ip i f):=⟨Age hN hi hx he.out (H4 hs') hf⟩
theorem Hv (hN:X.N.Nodup) (hi:X.N[i]?=some x:=by kernel_rfl) (hx:Loc X.env.scope x:=by exact Av3 (by kernel_rfl)) (hf:X.fn x=true\/X.env.scope.names.lookup x=some .local:=by exact Av3 (by kernel_rfl)):QG X (.Name x pos) (Ar i):=⟨Rf hN hi hx hf⟩
theorem Gh (hN:X.N.Nodup) (hi:X.N[i]?=some x:=by kernel_rfl) (hx:Loc X.env.scope x:=by exact Av3 (by kernel_rfl)) (hf:X.fn x=true\/X.env.scope.names.lookup x=some .local:=by exact Or.inr (by kernel_rfl)):QG X (.Name x pos) (Ar i):=⟨Rf hN hi hx hf⟩
theorem Br (h1:QG X e g) (h2:QGs X es h) (hs:(assignEach (e::es) X.env).map (·.2)=assign e X.env::(assignEach es X.env).map (·.2):=by kernel_rfl):QGs X (e::es) (B2 g h):=⟨Xm h1.out h2.out hs⟩
theorem Hx (hc:X.calm=true) (h:QGs X es g) (hn:(assignEach es X.env).length=n:=by kernel_rfl) (hst:(assignEach es X.env).findIdx? (·.1)=none:=by kernel_rfl):QG X (.Tuple es k pos) (Im n g):=⟨Af3 hc h.out hn hst⟩
theorem Amr (he:QD X e f) (hg:QG X tg g) (hs':Ln e=true:=by rfl) (hw:swappedStores [tg] e X.env=pure none:=by kernel_rfl) (h1:(assignEach [tg] X.env).map (·.2)=[assign tg X.env]:=by kernel_rfl):QS X (.Assign [tg] e pos) (Amx f g):=⟨Agc he.out hg.out (Lx hs') hw h1⟩
theorem Abd (he:QD X e f) (ho:QD X a fo) (hi:QD X b fi) (ha:∀ v,assign (.Subscript a b p) X.env v=(do
   let ov <- holding [v] (eval a X.env)
   let iv <- holding [v,ov] (eval b X.env)
   standAt p
   holding [v,ov,iv] (setItem ov iv v)
   release [v,ov,iv] []):=by intro _;rfl) (hs':Ln e=true:=by rfl) (hw:swappedStores [.Subscript a b p] e X.env=pure none:=by kernel_rfl) (h1:(assignEach [.Subscript a b p] X.env).map (·.2)=[assign (.Subscript a b p) X.env]:=by kernel_rfl) :
  QS X (.Assign [.Subscript a b p] e pos) (Ng f fo fi):=⟨Xt he.out ho.out hi.out ha (Lx hs') hw h1⟩
theorem Cy {iter:Expr}{body:List Stmt}{f:FW}{g:FG}{b:FS} (hp:PassesOwn (model X.prog X.w) X.A X.env X.xe) (hc:X.calm=true) (hi:QW X tg iter f) (hg:QG X tg g) (hb:QSs X body b)
  (hs':Gp iter=true:=by rfl):QS X (.For tg iter body [] pos) (Nf f g b):=⟨Agd hp hc hi.out hg.out hb.out (D2 hs')⟩
theorem Lr (hm:X.mg "range"=none) (ha:QL X [a] g) (hg:Gl X "range":=by unfold Gl;kernel_rfl) (hs':Bc a=true:=by rfl):QW X tg (.Call (.Name "range" p) [a] [] pos) (Gx g):=⟨Xx hg hm ha.out (Ap hs')⟩
variable {elt iter:Expr}{ifs:List Expr}{scope:Scope}{fw:FW}{g:FG}{t:FB}{fe:FE}
theorem C7 (cap:List Nat) (N':List Str) (hc:X.calm=true) (hi:QW X tg iter fw) (hg2:∀ d d' env e1,g d env=some e1->g d' e1=g d' env)
  (hg:∀ cl C s₀ H₀ ex pn,QG (Av X N' scope cl C s₀ H₀ ex pn) tg g) (ht:∀ cl C s₀ H₀ ex pn,QTs (Av X N' scope cl C s₀ H₀ ex pn) ifs t) (he:∀ cl C s₀ H₀ ex pn,QD (Av X N' scope cl C s₀ H₀ ex pn) elt fe)
  (ok:Ha scope X.env.scope X.N N' cap=true:=by kernel_rfl) (hs':Gp iter=true:=by rfl):QF X (.ListComp elt [⟨tg,iter,ifs,0⟩] scope pos) (B9 cap (N'.length - cap.length) fw g t fe):=⟨Af1 (CompOk.of ok) hc hi.out hg2 (fun cl C s H ex pn=>(hg cl C s H ex pn).out) (fun cl C s H ex pn=>(ht cl C s H ex pn).out) (fun cl C s H ex pn=>(he cl C s H ex pn).out) (D2 hs')⟩
theorem Aa9 (cap:List Nat) (N':List Str) (hN:X.N.Nodup) (hc:X.calm=true) (hi:QW X tg iter fw) (hg2:∀ d d' env e1,g d env=some e1->g d' e1=g d' env) (hg:∀ cl C s₀ H₀ ex pn,QG (Av X N' scope cl C s₀ H₀ ex pn) tg g) (ht:∀ cl C s₀ H₀ ex pn,QTs (Av X N' scope cl C s₀ H₀ ex pn) ifs t) (he:∀ cl C s₀ H₀ ex pn,QD (Av X N' scope cl C s₀ H₀ ex pn) elt fe) (ok:Ha scope X.env.scope X.N N' cap=true:=by kernel_rfl) (hs':Gp iter=true:=by rfl) (hn:X.N[i]?=some x:=by kernel_rfl) (hx:Loc X.env.scope x:=by exact Av3 (by kernel_rfl)) (hf:X.fn x=true\/X.env.scope.names.lookup x=some .local:=by exact Av3 (by kernel_rfl)) (hsw:swapsWith (.ListComp elt [⟨tg,iter,ifs,0⟩] scope pos) (some (.Name x p')) spos.line X.env=pure true:=by kernel_rfl):QS X (.Assign [.Name x p'] (.ListComp elt [⟨tg,iter,ifs,0⟩] scope pos) spos) (Bs i (Ec (B9 cap (N'.length - cap.length) fw g t fe))):=⟨Aa3 (Pl (CompOk.of ok) hc hi.out hg2 (fun cl C s H ex pn=>(hg cl C s H ex pn).out) (fun cl C s H ex pn=>(ht cl C s H ex pn).out) (fun cl C s H ex pn=>(he cl C s H ex pn).out) (D2 hs') hsw hN hn hx hf)⟩
theorem Aa8 (cap:List Nat) (N':List Str) (hN:X.N.Nodup) (hc:X.calm=true) (hi:QW X tg iter fw) (hg2:∀ d d' env e1,g d env=some e1->g d' e1=g d' env) (hg:∀ cl C s₀ H₀ ex pn,QG (Av X N' scope cl C s₀ H₀ ex pn) tg g) (ht:∀ cl C s₀ H₀ ex pn,QTs (Av X N' scope cl C s₀ H₀ ex pn) ifs t) (he:∀ cl C s₀ H₀ ex pn,QD (Av X N' scope cl C s₀ H₀ ex pn) elt fe) (ok:Ha scope X.env.scope X.N N' cap=true:=by kernel_rfl) (hs':Gp iter=true:=by rfl) (hn:X.N[i]?=some x:=by kernel_rfl) (hx:Loc X.env.scope x:=by exact Av3 (by kernel_rfl)) (hf:X.fn x=true\/X.env.scope.names.lookup x=some .local:=by exact Av3 (by kernel_rfl)) (hsw:swapsWith (.ListComp elt [⟨tg,iter,ifs,0⟩] scope pos) (some (.Name x p')) spos.line X.env=pure true:=by kernel_rfl):QS X (.Assign [.Name x p'] (.ListComp elt [⟨tg,iter,ifs,0⟩] scope pos) spos) (Ip i (B9 cap (N'.length - cap.length) fw g t fe)):=⟨Aa1 (Pl (CompOk.of ok) hc hi.out hg2 (fun cl C s H ex pn=>(hg cl C s H ex pn).out) (fun cl C s H ex pn=>(ht cl C s H ex pn).out) (fun cl C s H ex pn=>(he cl C s H ex pn).out) (D2 hs') hsw hN hn hx hf)⟩
end
end
end ML
end L2
end S_ML8a
section S_ML10
namespace L2
namespace ML
open PySem PySem.Spec PyProof.Rows
section
variable {X:Cx}{a b c e e' o':Expr}{es:List Expr}{pos p p' apos cpos spos:Pos}{x:Str}
noncomputable def Anx:D->MH->Option D:=fun x _=>match x with
 |.int i=>some (.int (-i))
 |_=>none
theorem Amq (ha:QD X a f):QD X (.UnaryOp .USub a pos) (f1 Anx f):=⟨PE.imp (Aqm Ank ha.out) fun σ H Q ⟨env,μ,m,d,S,E,h,q⟩=>by
 obtain⟨x,h1,h2⟩:=bind_some h
 refine⟨env,μ,m,x,S,E,h1,fun v H' s r=>?_⟩
 cases r<;>first|(cases h2;done)|skip
 cases h2
 exact⟨_,rfl,q _ H' s (.int _)⟩⟩
noncomputable def insD {α:Type} (xs:List α) (i:Nat) (y:α):List α:=xs.take i++y::xs.drop i
theorem Zt (h0:0<=i):((xs.toArray.extract 0 (if i < 0 then (i+((xs.toArray.size:Nat):Int)).toNat else min i.toNat xs.toArray.size)).push y++xs.toArray.extract (if i < 0 then (i+((xs.toArray.size:Nat):Int)).toNat else min i.toNat xs.toArray.size))=(insD xs i.toNat y).toArray:=by
 rw[Atl (by lia)]
 unfold insD
 by_cases h:i.toNat<=xs.length
 ·rw[Ats,Nat.min_eq_left h]
  apply Array.ext'
  simp
  exact Aun (by simp)
 ·rw[Ats,Nat.min_eq_right (by lia)]
  apply Array.ext'
  simp
  rw[Aun (by lia),Auv (by lia)]
theorem Vals.insD (r:Vals xs us) (rv:RelV v u) (i:Nat):Vals (ML.insD xs i v) (ML.insD us i u):=by
 unfold ML.insD
 exact Vals.append (r.take i) (.cons rv (r.drop i))
theorem Of:(insD xs i y).length=xs.length+1:=by
 unfold insD
 simp
 lia
def X6:V->List V->Hp->VK->Prop:=fun x vs H Q=>∃ l xs i y,x=.ref l/\vs=[.int i,y]/\H l=some (.lst xs)/\xs.length < sizeLine/\0<=i/\i < 2 ^ 62/\Q .non (upd H l (.lst (insD xs i.toNat y)))
theorem V2:MtM X "list.insert" X6:=by
 intro pins s σ H x vs v us Q I rx rv h
 obtain⟨l,xs,i,y,rfl,rfl,hH,hz,h0,h1,q⟩:=h
 cases rx
 obtain⟨u,w,rfl,ru,rw'⟩:=Ahu rv
 obtain⟨t,rfl⟩:=ru
 obtain⟨z,its,n,r,hl,e⟩:=I.lstM hH
 refine call_meets F.slot_list_insert ⟨_,e,rfl⟩ F.entry_list_insert (F.args_list_insert_3 _ _ _) (AutoListH.list_insert_list_int_val_1 l its.toArray n i t w (by simp[Builtin.List.listFitsIndex];lia) (by rw[Ats];lia)) ⟨e,?_⟩
 refine⟨.non,_,I.lset (its':=insD its i.toNat w) hH e (Zt h0) (Vals.insD r rw' _) ?_,rfl,q⟩
 rw[Of]
 lia
def Hr:List D->List D->Option (List D):=fun ds es=>match es with
 |[.int i,d]=>if ds.length < 1000000/\0<=i/\i < 2 ^ 62 then some (insD ds i.toNat d) else none
 |_=>none
theorem V3:An7 X X6 Hr:=fun μ H a xs vs ds es fs Q h1 ha rs re h q=>by
 obtain⟨i,d,rfl⟩:∃ i d,es=[.int i,d]:=by
  cases es with
  |nil=>exact Ac h
  |cons e es =>
   cases e with
   |int i =>
    cases es with
    |nil=>exact Ac h
    |cons d es =>
     cases es with
     |nil=>exact⟨i,d,rfl⟩
     |cons _ _=>cases h
   |_=>cases h
 unfold Hr at h
 simp only at h
 split at h
 ·rename_i hl
  cases h
  obtain⟨v,w,rfl,r1,r2⟩:=re.two
  cases r1
  exact⟨a,xs,i,w,rfl,rfl,h1,by rw[<- rs.length];have:sizeLine=16777216:=Ava;lia,hl.2.1,hl.2.2,q _ ((rs.take _).append (.cons r2 (rs.drop _)))⟩
 ·exact Ac h
theorem X3 (hf:QD X a f) (ha:QL X [e,e'] g) (hbase':V9 a=true:=by rfl) (hline:(apos.endLine == cpos.line)=true:=by kernel_rfl) (hs':Bc e=true:=by rfl) (hs2:Bc e'=true:=by rfl) :
  QS X (.Expr (.Call (.Attribute a "insert" apos) [e,e'] [] cpos) spos) (L7 Hr f g):=⟨Xs PySem.F.plainAttrs_list PySem.F.slot_list_insert PySem.F.type_list_insert V2 V3 hf.out ha.out (Jd hbase') (Rm (by rw[Au7,Au7,hs',hs2];rfl) rfl) hline (Ap hs') (by rw[Ap hs2];rfl)⟩
end
end ML
end L2
end S_ML10
section S_ML11
namespace L2
namespace ML
open PySem PySem.Spec PyProof.Rows PySem.SeqAt
def LtAt (A:Around) (s:Shared) (x y:Value) (k:Bool):Prop :=
 ∀ (prog:Program) (w:World) (E:Value->Shared->Prop) (Q:Value->Shared->Prop),Q (.bool k) s->wpAny (model prog w) A (richCompare .Lt x y) Q E s
inductive LexAt (A:Around) (s:Shared):List Value->List Value->Bool->Prop where
 |nil:LexAt A s [] [] false
 |short {y ys}:LexAt A s [] (y::ys) true
 |long {x xs}:LexAt A s (x::xs) [] false
 |same {x y xs ys k}:EqAt A s x y true->LexAt A s xs ys k->LexAt A s (x::xs) (y::ys) k
 |diff {x y xs ys k}:EqAt A s x y false->LtAt A s x y k->LexAt A s (x::xs) (y::ys) k
theorem LexAt.end1 {s:Shared} (h:LexAt A s xs ys k) (e:xs.zip ys=[]):k=decide (xs.length < ys.length):=by
 cases h with
 |nil=>rfl
 |short=>simp
 |long=>simp
 |same _ _=>simp at e
 |diff _ _=>simp at e
theorem T4 (l b:Addr) (xs ys:Array Value) (n n2:Nat) (dd dd2:Option Addr) (sl sl2:Array (Option Value)) (k:Bool) :
  Meets (Builtin.«tuple.__lt__» ⟨[.ref l,.ref b],[]⟩)
   (fun A R s=>(s.heap.get? l=some { cls:=.type "tuple",dict:=dd,data:=.seq xs n,slots:=sl }/\s.heap.get? b=some { cls:=.type "tuple",dict:=dd2,data:=.seq ys n2,slots:=sl2 }) /\
    LexAt A.in1 s xs.toList ys.toList k/\R (.ok (.ret (.bool k))) s) :=
 .of_wp fun prog w A R s h=>by
  obtain⟨hp,g,d,tk,os⟩:=s
  obtain⟨⟨hl,hb⟩,hx,hR⟩:=h
  have f2:=AutoSeq1.sub_tuple_tuple
  wp_walk using wpAny_loadPart' hl,wpAny_loadPart' hb,wpAny_forIn_list _ (fun rest b s'=>b.1=none/\s'=⟨hp,g,d,tk,os⟩/\∃ us ws,rest=us.zip ws/\us.length+ys.size=ws.length+xs.size/\LexAt A.in1 ⟨hp,g,d,tk,os⟩ us ws k) _
  case turn =>
   rintro ⟨y,x⟩ rest b s' ⟨hb1,rfl,us,ws,hz,hn,hx⟩
   cases hx with
   |nil=>cases hz
   |short=>cases hz
   |long=>cases hz
   |@same u v us ws _ he hx =>
    cases hz
    refine Atj (he prog w _ _ ?_)
    wp_walk
    exact⟨rfl,rfl,us,ws,rfl,by simp only[Atw] at hn;lia,hx⟩
   |@diff u v us ws _ he hk =>
    cases hz
    refine Atj (he prog w _ _ ?_)
    have hk2:∀ {E:Value->Shared->Prop}{Q:Value->Shared->Prop},Q (.bool k) ⟨hp,g,d,tk,os⟩->wpAny (model prog w) A.in1 (richCompare .Lt y x) Q E ⟨hp,g,d,tk,os⟩:=fun q=>hk prog w _ _ q
    wp_walk using hk2
    exact⟨_,rfl,hR⟩
  case fin =>
   rintro ⟨b1,b2⟩ s' ⟨hb1,rfl,us,ws,hz,hn,hx⟩
   simp only at hb1
   subst hb1
   have e:=hx.end1 hz.symm
   subst e
   wp_walk
   refine⟨_,rfl,?_⟩
   have e2:decide (us.length < ws.length)=decide (xs.size < ys.size):=by rw[Awf];lia
   rw[e2] at hR
   simpa [Builtin.Tuple.tupleCompareSizes] using hR
  case h =>
   exact⟨rfl,rfl,xs.toList,ys.toList,rfl,by simp[Nat.add_comm],hx⟩
theorem LtAt.tuples {s:Shared}{l b:Addr} (hl:s.heap.IsTuple l xs) (hb:s.heap.IsTuple b ys) (hu:A.units < cLine) (hx:LexAt A.in1 s xs.toList ys.toList k):LtAt A s (.ref l) (.ref b) k:=fun prog w E Q h=>by
 obtain⟨⟨cls,dd,data,sl⟩,ho,hc,n,hd⟩:=id hl
 obtain⟨⟨cls2,dd2,data2,sl2⟩,ho2,hc2,n2,hd2⟩:=id hb
 simp only at hc hd hc2 hd2
 subst hc hd hc2 hd2
 refine richCompare_meets_room (op:=.Lt) ⟨_,ho,rfl⟩ ⟨_,ho2,rfl⟩ F.slot_tuple_lt F.entry_tuple_lt (F.args_tuple_lt_2 _ _) (T4 l b xs ys n n2 dd dd2 sl sl2 k) ⟨⟨ho,ho2⟩,hx,?_⟩ hu
 exact⟨(fun x=>nomatch x),h⟩
theorem Vt (l b:Addr) (xs ys:Array Value) (n n2:Nat) (dd dd2:Option Addr) (sl sl2:Array (Option Value)) (k:Bool):∀ (us ws:List Value) (i:Nat),xs.toList.drop i=us->ys.toList.drop i=ws->i<=xs.size->i<=ys.size ->
  Meets (Builtin.«list.__eq__.loop» ⟨[.ref l,.ref b,rawInt i,rawInt 0],[]⟩)
   (fun A R s=>(s.heap.get? l=some { cls:=.type "list",dict:=dd,data:=.seq xs n,slots:=sl }/\s.heap.get? b=some { cls:=.type "list",dict:=dd2,data:=.seq ys n2,slots:=sl2 })/\LexAt A.in1 s us ws k/\R (.ok (.ret (.bool k))) s):=by
 have none_at:∀ {zs:Array Value}{i:Nat},zs.toList.drop i=[]->zs[((i:Nat):Int).toNat]?=none:=fun {zs i} h=>by
  have:=List.drop_eq_nil_iff.mp h
  simp at this ⊢
  exact this
 have some_at:∀ {zs:Array Value}{i:Nat}{z:Value}{r:List Value},zs.toList.drop i=z::r->zs[((i:Nat):Int).toNat]?=some z/\zs.toList.drop (i+1)=r/\i+1<=zs.size:=fun {zs i z r} h=>by
  have hl:i < zs.toList.length:=by
   rcases Nat.lt_or_ge i zs.toList.length with q|q
   ·exact q
   ·rw[Auv q] at h;cases h
  have e:=At9 hl
  rw[h] at e
  obtain⟨e1,e2⟩:=List.cons.inj e
  have hl':i < zs.size:=by simpa using hl
  refine⟨?_,e2.symm,hl'⟩
  rw[e1]
  simp[hl']
 intro us
 induction us with
 |nil =>
  intro ws i hx hy hi1 hi2 prog w A R s h
  obtain⟨hp,g,d,tk,os⟩:=s
  obtain⟨⟨hl,hb⟩,hL,hR⟩:=h
  have e1:=none_at hx
  have z1:xs.size=i:=by have:=List.drop_eq_nil_iff.mp hx;simp at this;lia
  have hk:k=decide (xs.size < ys.size):=by
   cases hL with
   |nil =>
    have:ys.size=i:=by have:=List.drop_eq_nil_iff.mp hy;simp at this;lia
    rw[z1,this];simp
   |short =>
    have:=(some_at hy).2.2
    rw[Avl (by lia)]
  subst hk
  wp_walk using wpAny_loadPart' hl,wpAny_loadPart' hb
  rw[e1]
  wp_walk using wpAny_loadPart' hl,wpAny_loadPart' hb
  exact hR
 |cons u us ih =>
  intro ws i hx hy hi1 hi2 prog w A R s h
  obtain⟨hp,g,d,tk,os⟩:=s
  obtain⟨⟨hl,hb⟩,hL,hR⟩:=h
  obtain⟨e1,x2,x3⟩:=some_at hx
  cases hL with
  |long =>
   have e2:=none_at hy
   have hk:decide (xs.size < ys.size)=false:=by
    have:ys.size=i:=by have:=List.drop_eq_nil_iff.mp hy;simp at this;lia
    rw[Aus (by lia)]
   rw[<- hk] at hR
   wp_walk using wpAny_loadPart' hl,wpAny_loadPart' hb
   rw[e1,e2]
   wp_walk using wpAny_loadPart' hl,wpAny_loadPart' hb
   exact hR
  |@same _ y _ ws _ he hx' =>
   obtain⟨e2,y2,y3⟩:=some_at hy
   have hc:((i:Int)+1)=((i+1:Nat):Int):=by push_cast;rfl
   wp_walk using wpAny_loadPart' hl,wpAny_loadPart' hb
   rw[e1,e2]
   refine Atj (he prog w _ _ ?_)
   wp_walk
   rw[hc]
   exact⟨plainId_quiet Av5 _,codeAny_builtin MeetsSeq3.entry_eq_loop (by
    rw[Around.under_plainId Av5 _]
    exact ih ws (i+1) x2 y2 x3 y3 prog w A R _ ⟨⟨hl,hb⟩,hx',hR⟩)⟩
  |@diff _ y _ ws _ he hk =>
   obtain⟨e2,y2,y3⟩:=some_at hy
   wp_walk using wpAny_loadPart' hl,wpAny_loadPart' hb
   rw[e1,e2]
   refine Atj (he prog w _ _ ?_)
   have hk2:∀ {E:Value->Shared->Prop}{Q:Value->Shared->Prop},Q (.bool k) ⟨hp,g,d,tk,os⟩->wpAny (model prog w) A.in1 (richCompare .Lt u y) Q E ⟨hp,g,d,tk,os⟩:=fun q=>hk prog w _ _ q
   wp_walk using wpAny_loadPart' hl,wpAny_loadPart' hb
   rw[e1,e2]
   wp_walk using hk2
   exact hR
theorem Vn (l b:Addr) (xs ys:Array Value) (n n2:Nat) (dd dd2:Option Addr) (sl sl2:Array (Option Value)) (k:Bool) :
  Meets (Builtin.«list.__lt__» ⟨[.ref l,.ref b],[]⟩)
   (fun A R s=>(s.heap.get? l=some { cls:=.type "list",dict:=dd,data:=.seq xs n,slots:=sl }/\s.heap.get? b=some { cls:=.type "list",dict:=dd2,data:=.seq ys n2,slots:=sl2 })/\LexAt A.in1 s xs.toList ys.toList k/\R (.ok (.ret (.bool k))) s):=by
 intro prog w A R s h
 obtain⟨hp,g,d,tk,os⟩:=s
 obtain⟨⟨hl,hb⟩,hL,hR⟩:=h
 have f3:=AutoSeq1.sub_list_list
 wp_walk using wpAny_loadPart' hl,wpAny_loadPart' hb
 exact⟨plainId_quiet Av5 _,codeAny_builtin MeetsSeq3.entry_eq_loop (by
  rw[Around.under_plainId Av5 _]
  exact Vt l b xs ys n n2 dd dd2 sl sl2 k _ _ 0 rfl rfl (Aup _) (Aup _) prog w A R _ ⟨⟨hl,hb⟩,by simpa using hL,hR⟩)⟩
theorem LtAt.lists {s:Shared}{l b:Addr} (hl:s.heap.IsList l xs) (hb:s.heap.IsList b ys) (hu:A.units < cLine) (hx:LexAt A.in1 s xs.toList ys.toList k):LtAt A s (.ref l) (.ref b) k:=fun prog w E Q h=>by
 obtain⟨⟨cls,dd,data,sl⟩,ho,hc,n,hd⟩:=id hl
 obtain⟨⟨cls2,dd2,data2,sl2⟩,ho2,hc2,n2,hd2⟩:=id hb
 simp only at hc hd hc2 hd2
 subst hc hd hc2 hd2
 refine richCompare_meets_room (op:=.Lt) ⟨_,ho,rfl⟩ ⟨_,ho2,rfl⟩ F.slot_list_lt F.entry_list_lt (F.args_list_lt_2 _ _) (Vn l b xs ys n n2 dd dd2 sl sl2 k) ⟨⟨ho,ho2⟩,hx,?_⟩ hu
 exact⟨(fun x=>nomatch x),h⟩
mutual
def ltD:D->D->Option Bool
 |.int i,.int j=>some (decide (i < j))
 |.str i,.str j=>some (decide (i.cps.toList < j.cps.toList))
 |.tup xs,.tup ys=>Gc xs ys
 |.lst xs,.lst ys=>Gc xs ys
 |_,_=>none
def Gc:List D->List D->Option Bool
 |[],[]=>some false
 |[],_::_=>some true
 |_::_,[]=>some false
 |x::xs,y::ys=>if deq x y=true then Gc xs ys else ltD x y
end
section
variable {X:Cx}{pins:List (Addr×Obj)}{σ:St}{H:Hp}{s:Shared}{μ:List Addr}{B:Addr->Prop}
set_option tactic.hygienic true in
mutual
theorem Akh (I:Inv X pins σ H s):∀ (d d':D) {A:Around}{v v':V}{u u':Value}{k:Bool},Rep X.K H μ B d v->Rep X.K H μ B d' v'->B3 d=true->B3 d'=true->RelV v u->RelV v' u'->A.units+dep d+dep d' < cLine->ltD d d'=some k->LtAt A s u u' k
 |.int i,d',A,v,v',u,u',k,r,r',n,n',q,q',hu,h=>by
  cases d'<;>first|(simp[ltD] at h;done)|skip
  cases r;cases r'
  obtain⟨t,rfl⟩:=q
  obtain⟨t2,rfl⟩:=q'
  rw[ltD] at h
  cases h
  intro prog w E Q q
  exact lt_int q
 |.str i,d',A,v,v',u,u',k,r,r',n,n',q,q',hu,h=>by
  cases d'<;>first|(simp[ltD] at h;done)|skip
  cases r;cases r'
  obtain⟨t,rfl⟩:=q
  obtain⟨t2,rfl⟩:=q'
  rw[ltD] at h
  cases h
  intro prog w E Q q
  exact lt_str q
 |.tup ds,d',A,v,v',u,u',k,r,r',n,n',q,q',hu,h=>by
  cases d'<;>first|(simp[ltD] at h;done)|skip
  rename_i es
  cases r with
  |tup h1 r1 =>
  cases r' with
  |tup h2 r2 =>
  cases q
  cases q'
  obtain⟨its,rv,p,hz⟩:=I.tuple h1
  obtain⟨its',rv',p',hz'⟩:=I.tuple h2
  rw[ltD] at h
  rw[dep,dep] at hu
  refine LtAt.tuples p p' (by lia) ?_
  rw[B3] at n n'
  exact G3 I ds es r1 r2 n n' rv rv' (by show A.units+1+_+_ < _;lia) h
 |.non,d',A,v,v',u,u',k,r,r',n,n',q,q',hu,h=>by simp[ltD] at h
 |.bl _,d',A,v,v',u,u',k,r,r',n,n',q,q',hu,h=>by simp[ltD] at h
 |.lst ds,d',A,v,v',u,u',k,r,r',n,n',q,q',hu,h=>by
  cases d'<;>first|(simp[ltD] at h;done)|skip
  rename_i es
  cases r with
  |lst h1 _ r1 =>
  cases r' with
  |lst h2 _ r2 =>
  cases q
  cases q'
  obtain⟨its,rv,p,hz⟩:=I.list (.inl h1)
  obtain⟨its',rv',p',hz'⟩:=I.list (.inl h2)
  rw[ltD] at h
  rw[dep,dep] at hu
  refine LtAt.lists p.isList p'.isList (by lia) ?_
  rw[B3] at n n'
  exact G3 I ds es r1 r2 n n' rv rv' (by show A.units+1+_+_ < _;lia) h
 |.kl _,d',A,v,v',u,u',k,r,r',n,n',q,q',hu,h=>by simp[ltD] at h
 |.ref _,d',A,v,v',u,u',k,r,r',n,n',q,q',hu,h=>by simp[ltD] at h
 |.dic _ _,d',A,v,v',u,u',k,r,r',n,n',q,q',hu,h=>by simp[ltD] at h
 |.fn _ _,d',A,v,v',u,u',k,r,r',n,n',q,q',hu,h=>by simp[ltD] at h
theorem G3 (I:Inv X pins σ H s):∀ (ds es:List D) {A:Around}{vs vs':List V}{us us':List Value}{k:Bool},Reps X.K H μ B ds vs->Reps X.K H μ B es vs'->A7 ds=true->A7 es=true->Vals vs us->Vals vs' us'->A.units+D8 ds+D8 es < cLine->Gc ds es=some k->LexAt A s us us' k
 |[],es,A,vs,vs',us,us',k,r,r',n,n',q,q',hu,h=>by
  cases r
  cases q
  cases es with
  |nil=>cases r';cases q';rw[Gc] at h;cases h;exact .nil
  |cons e es =>
   cases r' with
   |cons r1 r2=>cases q' with
    |cons q1 q2=>rw[Gc] at h;cases h;exact .short
 |d::ds,es,A,vs,vs',us,us',k,r,r',n,n',q,q',hu,h=>by
  cases r with
  |cons r1 rs =>
  cases q with
  |cons q1 qs =>
  cases es with
  |nil=>cases r';cases q';rw[Gc] at h;cases h;exact .long
  |cons e es =>
   cases r' with
   |cons r2 rs2=>cases q' with
    |cons q2 qs2 =>
     rw[Gc] at h
     rw[A7,At0] at n n'
     rw[D8,D8] at hu
     have he:=Ab9 (A:=A) I r1 r2 n.1 n'.1 q1 q2 (by lia)
     by_cases hd:deq d e=true
     ·rw[Atq hd] at h
      rw[hd] at he
      exact .same he (G3 I ds es rs rs2 n.2 n'.2 qs qs2 (by lia) h)
     ·rw[Atl hd] at h
      rw[Bool.eq_false_iff.mpr hd] at he
      exact .diff he (Akh I d e r1 r2 n.1 n'.1 q1 q2 (by lia) h)
end
end
section
variable {X:Cx}
end
end ML
end L2
end S_ML11
section S_ML12
namespace L2
namespace ML
open PySem PySem.Spec PyProof.Rows
section
variable {X:Cx}{a b c e e' o':Expr}{es:List Expr}{pos p p' apos cpos spos:Pos}{x:Str}
noncomputable def Aag:List D->MH->Option D:=fun xs _=>match xs with
 |[.int i,.int j]=>some (.int (if j < i then j else i))
 |_=>none
theorem Aeb (hc:X.calm=true):L8 X (.builtin "min") Aag:=by
 intro pins s σ H μ m xs z vs us Q I S rx rv e q
 obtain⟨i,j,rfl⟩:∃ i j,xs=[.int i,.int j]:=by
  cases xs with
  |nil=>cases e
  |cons d ds =>
   cases d with
   |int i =>
    cases ds with
    |nil=>cases e
    |cons d ds =>
     cases d with
     |int j =>
      cases ds with
      |nil=>exact⟨i,j,rfl⟩
      |cons _ _=>exact Ac e
     |_=>cases e
   |_=>cases e
 cases e
 obtain⟨v,w,rfl,r1,r2⟩:=rx.two
 cases r1
 cases r2
 exact Um hc pins s σ H _ us Q I rv ⟨i,j,rfl,q _ H (Same.refl H) (.int _)⟩
theorem Agu (hc:X.calm=true) (hm:X.mg "min"=none) (ha:QL X [e,e'] g) (hg:Gl X "min":=by unfold Gl;kernel_rfl) (he':Bc e=true:=by rfl) (he2:Bc e'=true:=by rfl):QD X (.Call (.Name "min" p) [e,e'] [] pos) (Ay Aag g):=⟨G8 (Aeb hc) hg hm (by decide +kernel) ha.out (by decide) (by decide) (Ap he') (by rw[Ap he2];rfl)⟩
noncomputable def Og:List D->Option (List Int)
 |[]=>some []
 |.int i::ds=>(Og ds).bind fun is=>some (i::is)
 |_=>none
noncomputable def Akj:List Int->Int
 |[]=>0
 |i::is=>is.foldl max i
theorem Mu:∀ (is:List Int) (i:Int),i<=is.foldl max i/\(∀ j∈is,j<=is.foldl max i)/\is.foldl max i∈i::is
 |[],i=>⟨Int.le_refl _,(fun _ h=>nomatch h),Atk ..⟩
 |k::is,i=>by
  obtain⟨h1,h2,h3⟩:=Mu is (max i k)
  rw[List.foldl_cons]
  refine⟨by lia,fun j hj=>?_,?_⟩
  ·rcases List.mem_cons.mp hj with rfl|hj
   ·lia
   ·exact h2 j hj
  ·rcases List.mem_cons.mp h3 with h|h
   ·rw[h]
    by_cases hk:i<=k
    ·rw[Int.max_eq_right hk];simp
    ·rw[Int.max_eq_left (by lia)];simp
   ·exact Atn _ (Atn _ h)
theorem Vw (h:k∈is) (hb:∀ j∈is,j<=k):Akj is=k:=by
 cases is with
 |nil=>cases h
 |cons i is =>
  obtain⟨h1,h2,h3⟩:=Mu is i
  show is.foldl max i=k
  have h4:=hb _ h3
  rcases List.mem_cons.mp h with rfl|h
  ·lia
  ·have:=h2 k h;lia
def Tn:List D->MH->Option D:=fun xs _=>match xs with
 |[.tup ds]=>(Og ds).bind fun is=>if is=[] then none else some (.int (Akj is))
 |_=>none
theorem Mv {K:W.Frag}{H:Hp}{μ:List Addr}{B:Addr->Prop}:∀ {ds:List D}{is:List Int}{vs:List V}{us:List Value},Reps K H μ B ds vs->Og ds=some is->Vals vs us->us.length=is.length/\∀ (j:Nat) (u:Value),us[j]?=some u->∃ t,u=.int (is.getD j 0) t
 |_,_,_,_,.nil,h,.nil=>by cases h;exact⟨rfl,fun j u e=>by simp at e⟩
 |_,_,_,_,.cons r rs,h,.cons q qs=>by
  cases r<;>first|(cases h;done)|skip
  obtain⟨is',h1,h2⟩:=bind_some h
  cases h2
  obtain⟨h3,h4⟩:=Mv rs h1 qs
  obtain⟨t,rfl⟩:=q
  refine⟨by simp[h3],fun j u e=>?_⟩
  cases j with
  |zero=>simp at e;exact⟨t,by rw[<- e];rfl⟩
  |succ j=>simp at e;obtain⟨t',h5⟩:=h4 j u e;exact⟨t',by simpa using h5⟩
set_option tactic.hygienic true in
theorem Aea (hc:X.calm=true):L8 X (.builtin "max") Tn:=by
 intro pins s σ H μ m xs z vs us Q I S rx rv e q
 obtain⟨d,rfl⟩:=Ak9 (o:=(Tn · m)) rfl (fun a _ _=>by cases a<;>rfl) e
 obtain⟨v,rfl,r⟩:=rx.one
 cases r with
 |@tup ds a ys hq rs =>
  obtain⟨is,h1,h2⟩:=bind_some e
  split at h2
  ·cases h2
  ·rename_i hne
   cases h2
   obtain⟨u,rfl,r1⟩:=Pg rv
   cases r1
   obtain⟨its,ri,pt,hz⟩:=I.tuple hq
   obtain⟨hl,hv⟩:=Mv rs h1 ri
   refine call_max_walk (wpAny_pyIter_tuple pt ?_)
   have hne2:a≠s.heap.objs.size:=At7 (by obtain⟨o,e,_⟩:=pt;exact Aty e)
   have hpos:0 < its.toArray.size:=by rw[Ats,hl];exact List.length_pos_iff.mpr hne
   refine⟨_,_,_,_,_,_,_,rfl,Walks.tuple (A:=X.A.in1) (I.ok.hd hc) _ a hne2 its.toArray,⟨⟨_,At3 _ rfl,rfl,rfl⟩,?_⟩,?_,hpos,CmpOf.ints_gt (fun j=>is.getD j 0) (fun j v hj=>hv j v (by simpa using hj)),fun v h' tk hP hk=>?_⟩
   ·exact (show s.heap.IsTuple a its.toArray from pt).at fun o e=>Ato _ e
   ·intro b hb
    show b < (s.heap.push _).objs.size
    have hlt:a < s.heap.objs.size:=by obtain⟨o,e,_⟩:=pt;exact Aty e
    have hps:∀ o:Obj,(s.heap.push o).objs.size=s.heap.objs.size+1:=fun o=>by simp[Heap.push]
    rw[hps]
    simp at hb
    rcases hb with h|h
    ·rw[h];exact Awg _
    ·rw[h];exact Avz hlt
   ·have hb:=argBest_gt (fun j=>is.getD j 0) (its.toArray.size - 1)
    have hP2:its.toArray[argBest (fun i j=>decide ((fun j=>is.getD j 0) i > (fun j=>is.getD j 0) j)) (its.toArray.size - 1)]?=some v:=hP
    have hps:its.toArray.size=is.length:=by rw[Ats,hl]
    rw[hps] at hb hP2 hpos
    simp only at hb hP2
    generalize argBest (fun i j=>decide (is.getD i 0 > is.getD j 0)) (is.length - 1)=k at hb hP2
    obtain⟨t,rfl⟩:=hv k v (by simpa using hP2)
    have hk':k < is.length:=by lia
    have hgd:∀ j,j < is.length->is.getD j 0∈is:=fun j hj=>by rw[Atx,Atv hj];exact Atr hj
    have hmx:Akj is=is.getD k 0:=by
     refine Vw (hgd k hk') fun y hy=>?_
     obtain⟨i,hi,rfl⟩:=List.getElem_of_mem hy
     have h5:=hb.2 i (by lia)
     simpa [Atx,Atv hi] using h5
    rw[hmx] at q
    refine⟨.int (is.getD k 0),H,I.kept (h':=h') (t':=tk) fun b o e=>hk b o (fun z=>?_) (Ato _ e),⟨t,rfl⟩,q _ H (Same.refl H) (.int _)⟩
    have z':b=s.heap.objs.size:=by simpa using z
    exact absurd (Aty e) (by rw[z'];exact Aut _)
 |_=>exact Ac e
theorem Agt (hc:X.calm=true) (hm:X.mg "max"=none) (ha:QL X [e] g) (hg:Gl X "max":=by unfold Gl;kernel_rfl) (he':Bc e=true:=by rfl):QD X (.Call (.Name "max" p) [e] [] pos) (Ay Tn g):=⟨G8 (Aea hc) hg hm (by decide +kernel) ha.out (by decide) (by decide) (Ap he') rfl⟩
end
noncomputable def An3 (lo st:Int) (n:Nat):It:=⟨fun i _=>i < n,fun i H x H'=>H'=H/\x=.int (lo+i * st),fun i _=>n<=i⟩
theorem Pf {P:Program}{w:World}{K:W.Frag}{tg:Expr} (it:Addr) (lo st:Int) (n:Nat):Turn P w K tg (An3 lo st n) [it] it (fun i h=>IsRangeIter h it (lo+(i:Nat) * st) ((n:Int) - (i:Nat)) st) where
 mem:=by simp
 obj:=fun i h st b hb=>by
  have e:b=it:=by simpa using hb
  subst e
  exact⟨_,st,fun v z=>by
   have z':Data.fields _=Data.cell v:=z
   cases z'⟩
 keep:=fun i h h' st k=>k it (by simp) _ st
 item:=by
  intro X hP hw hK hc i pins s σ H E I hf hst hg
  subst hP hw hK
  obtain⟨f0,f1,f2,f3,f4,f5⟩:=hf it (by simp)
  have W:=Walks.range (prog:=X.prog) (w:=X.w) (I.ok.hd hc) it lo st n
  refine W.item i s _ _ hg hst fun v h' tk hv st' kk=>?_
  obtain⟨t,rfl⟩:=hv
  have I1:Inv X pins σ H { s with heap:=h',toks:=tk }:=I.turned (fun b o hb e=>kk b o (by simpa using hb) e) f0 f1 f3 f4 f5
  exact⟨_,rfl,Vb (s:={ s with heap:=h',toks:=tk }) (n:="range_iterator") st' rfl rfl (by decide) ⟨.int (lo+i * st),H,I1,⟨t,rfl⟩,⟨rfl,rfl⟩,st',fun b hb=>(hf b hb).1⟩⟩
 done:=by
  intro X hP hw hK hc i pins s σ H E I hf st hg
  subst hP hw hK
  obtain⟨f0,f1,f2,f3,f4,f5⟩:=hf it (by simp)
  exact wpAny_pyNext_range_end (I.ok.hd hc) st (by have:n<=i:=hg;lia) fun h' eb=>⟨rfl,I.turned (t':=s.toks) (fun b o hb e=>eb b o hb e) f0 f1 f3 f4 f5⟩
 self:=fun _ _ _ _ _ st h=>wpAny_pyIter_rangeiter st h
noncomputable def Tq (lo hi st:Int):Nat:=if lo < hi then ((hi - lo - 1) / st+1).toNat else 0
theorem Nd {lo hi st:Int} (h:0 < st):((Tq lo hi st:Nat):Int)=Builtin.Range.rangeSize lo hi st:=by
 unfold Builtin.Range.rangeSize Tq
 simp only[show st > 0 from h,Av8]
 by_cases hl:lo < hi
 ·have h1:0<=(hi - lo - 1) / st:=Int.ediv_nonneg (by lia) (by lia)
  simp only[hl,Av8]
  first|lia|(rw[Atq hl];lia)|(rw[Atl (by lia)];lia)
 ·simp only[hl,Avn]
  first|rfl|lia|(rw[Atl hl];rfl)|(rw[Atq (by lia)];rfl)
theorem Ag3 {lo hi st:Int} (h:0 < st):((Tq lo hi st:Nat):Int)<=max 0 (hi - lo):=by
 unfold Tq
 by_cases hl:lo < hi
 ·rw[Atq hl]
  have h1:0<=(hi - lo - 1) / st:=Int.ediv_nonneg (by lia) (by lia)
  have h2:(hi - lo - 1) / st<=hi - lo - 1:=Int.ediv_le_self _ (by lia)
  lia
 ·rw[Atl hl];lia
theorem Abk (ha:-(2 ^ 61)<=a) (ha':a < 2 ^ 61) (hb:-(2 ^ 61)<=b) (hb':b < 2 ^ 61) (hc:0 < c) (hc':c < 2 ^ 61):Builtin.Range.small a b c=true:=by
 have h1:=Ag3 (lo:=a) (hi:=b) hc
 have h2:=Nd (lo:=a) (hi:=b) hc
 unfold Builtin.Range.small
 rw[<- h2]
 simp only[Builtin.Range.rangeFitsLong,At0,Bool.or_eq_true,Aux,beq_iff_eq,show c > 0 from hc,Av8]
 lia
theorem Reps.three {K:W.Frag}{H:Hp}{μ:List Addr}{B:Addr->Prop}{x y z:D}{vs:List V} (r:Reps K H μ B [x,y,z] vs):∃ v1 v2 v3,vs=[v1,v2,v3]/\Rep K H μ B x v1/\Rep K H μ B y v2/\Rep K H μ B z v3:=by
 cases r with
 |cons a r=>cases r with
  |cons b r=>cases r with
   |cons c r=>cases r;exact⟨_,_,_,rfl,a,b,c⟩
theorem Aq5 (r:Vals [v1,v2,v3] us):∃ u1 u2 u3,us=[u1,u2,u3]/\RelV v1 u1/\RelV v2 u2/\RelV v3 u3:=by
 cases r with
 |cons a r=>cases r with
  |cons b r=>cases r with
   |cons c r=>cases r;exact⟨_,_,_,rfl,a,b,c⟩
section
variable {X:Cx}{a b c e:Expr}{tg:Expr}{p pos:Pos}
def Yy (g:FL):FW:=fun env m=>(g env m).bind fun ds=>match ds with
 |[.int i,.int j,.int k]=>if 0<=i/\i < 1000000000/\0<=j/\j < 1000000000/\0 < k/\k < 1000000 then some ⟨(List.range (Tq i j k)).map fun (q:Nat)=>.int (i+q * k),Az⟩ else none
 |_=>none
theorem Tu {K:W.Frag}{lo st:Int}{n:Nat}:Src K (An3 lo st n) ((List.range n).map fun (q:Nat)=>.int (lo+q * st)) Az (fun _ _ _=>True) where
 go:=fun H μ m i d S h _ e=>by
  rw[Aub] at e
  cases q:(List.range n)[i]? with
  |none=>rw[q] at e;cases e
  |some j =>
   rw[q] at e
   cases e
   have hi:=(List.getElem?_eq_some_iff.mp q).1
   rw[List.length_range] at hi
   rw[List.getElem?_range hi] at q
   cases q
   exact⟨hi,fun x H' ⟨h1,h2⟩=>by subst h1;subst h2;exact⟨Same.refl _,.int _⟩⟩
 stop:=fun H μ m S h _=>by show n<=_;simp
 keep:=fun H μ m H' μ' m' h S st S'=>trivial
theorem X7 {pins:List (Addr×Obj)}{σ:St}{H:Hp}{s:Shared}{R:It->Hp->Prop}{E:Value->Shared->Prop}{lo hi st:Int}{t u v:Tok}{tk:Nat} (I:Inv X pins σ H s) (h:0<=lo/\lo < 1000000000/\0<=hi/\hi < 1000000000/\0 < st/\st < 1000000)
  (q:R (An3 lo st (Tq lo hi st)) H):wpAny (model X.prog X.w) X.A (pyIter (.ref s.heap.objs.size)) (PIE X pins σ tg R) E { s with heap:=s.heap.push { cls:=.type "range",data:=.fields #[.int lo t,.int hi u,.int st v] },toks:=tk }:=by
 obtain⟨h1,h2,h3,h4,h5,h6⟩:=h
 refine wpAny_pyIter_range (IsRange.new ..) (Abk (by lia) (by lia) (by lia) (by lia) (by lia) (by lia)) ?_
 have I1:Inv X pins σ H { s with heap:=s.heap.push { cls:=.type "range",data:=.fields #[.int lo t,.int hi u,.int st v] },toks:=tk }:=I.kept fun b o e=>Ato _ e
 refine⟨(s.heap.push { cls:=.type "range",data:=.fields #[.int lo t,.int hi u,.int st v] }).objs.size,[(s.heap.push { cls:=.type "range",data:=.fields #[.int lo t,.int hi u,.int st v] }).objs.size],_,_,H,rfl,
  I1.kept (t':=tk) fun b o e=>Ato _ e,Pf _ lo st (Tq lo hi st),?_,fun b hb=>?_,q⟩
 ·have e1:lo+((0:Nat):Int) * st=lo:=by simp
  have e2:((Tq lo hi st:Nat):Int) - ((0:Nat):Int)=Builtin.Range.rangeSize lo hi st:=by rw[<- Nd h5];simp
  show IsRangeIter _ _ (lo+((0:Nat):Int) * st) (((Tq lo hi st:Nat):Int) - ((0:Nat):Int)) st
  rw[e1,e2]
  exact At3 _ rfl
 ·have e:b=(s.heap.push { cls:=.type "range",data:=.fields #[.int lo t,.int hi u,.int st v] }).objs.size:=by simpa using hb
  subst e
  exact I1.fpOk (Atp _) (I1.hok.fresh (Atp _))
theorem Xy {g:FL} (hg:Gl X "range") (hm:X.mg "range"=none) (ha:PL X [a,b,c] g) (hs:starEach [a,b,c] X.env=(false,eval a X.env)::starEach [b,c] X.env) (hs2:(backTo pos (starEach [b,c] X.env)).any (·.1)=false):PW' X tg (.Call (.Name "range" p) [a,b,c] [] pos) (Yy g):=by
 intro pins s σ H R I h
 obtain⟨env,μ,m,w,S,E,h,q⟩:=h
 obtain⟨ds,h1,h2⟩:=bind_some h
 refine Call_ (Eu I hg hm boot_range (PyProof.Rows.callWith_type1 (thn (ha pos pins s σ H (fun vs H1=>Same H H1/\Reps X.K H1 μ (·∈μ) ds vs) I ⟨env,μ,m,ds,S,E,h1,fun vs H' s rs=>⟨s,rs⟩⟩) fun us s1 ⟨vs,H1,I1,r1,sm,rs⟩=>?_) hs hs2))
 obtain⟨i,j,k,rfl⟩:∃ i j k,ds=[.int i,.int j,.int k]:=by
  cases ds with
  |nil=>exact Ac h2
  |cons d ds =>
   cases d with
   |int i =>
    cases ds with
    |nil=>exact Ac h2
    |cons d ds =>
     cases d with
     |int j =>
      cases ds with
      |nil=>exact Ac h2
      |cons d ds =>
       cases d with
       |int k =>
        cases ds with
        |nil=>exact⟨i,j,k,rfl⟩
        |cons _ _=>exact Ac h2
       |_=>exact Ac h2
     |_=>cases h2
   |_=>cases h2
 simp only at h2
 split at h2
 ·rename_i hc
  cases h2
  obtain⟨v1,v2,v3,rfl,x1,x2,x3⟩:=rs.three
  cases x1
  cases x2
  cases x3
  obtain⟨u1,u2,u3,rfl,⟨t1,rfl⟩,⟨t2,rfl⟩,⟨t3,rfl⟩⟩:=Aq5 r1
  exact call_range_3 (by lia) (X7 I1 hc (q H1 _ _ sm Tu trivial)) (Av3 (PyProof.noPylong_small (by lia)))
 ·exact Ac h2
theorem Amt (hm:X.mg "range"=none) (ha:QL X [a,b,c] g) (hg:Gl X "range":=by unfold Gl;kernel_rfl) (hs':Bc a=true:=by rfl) (hs2':[b,c].all Bc=true:=by rfl):QW X tg (.Call (.Name "range" p) [a,b,c] [] pos) (Yy g):=⟨Xy hg hm ha.out (Ap hs') (Cc hs2')⟩
end
open Classical
noncomputable section
abbrev KT (K:W.Frag) (H:Hp):List (PyData×V)->List (PyData×Addr×Value)->Prop:=Paired fun p q=>p.1=q.1/\KeyT K H q.1 q.2.1/\RelV p.2 q.2.2
noncomputable def Y8 (kvs:List (PyData×V)) (k:PyData):Option V:=(kvs.find? fun p=>decide (p.1=k)).map (·.2)
def Ua (kvs:List (PyData×V)) (k:PyData) (v:V):List (PyData×V):=if (Y8 kvs k).isSome=true then kvs.map fun p=>if p.1=k then (p.1,v) else p else kvs++[(k,v)]
theorem L5 (e:p.1=k):Y8 (p::r) k=some p.2:=by simp[Y8,Awk,e]
theorem L4 (e:¬ p.1=k):Y8 (p::r) k=Y8 r k:=by simp[Y8,Awk,e]
theorem KT.val {K:W.Frag}{H:Hp}{kvs:List (PyData×V)}{xs:List (PyData×Addr×Value)} (r:KT K H kvs xs) (k:PyData):Aib (Y8 kvs k) ((atKey xs k).map (·.2)):=by
 induction r with
 |nil=>exact Av7
 |@cons p q ps qs h t ih =>
  obtain⟨h1,_,h2⟩:=h
  by_cases e:p.1=k
  ·have e':q.1=k:=h1.symm.trans e
   have b:atKey (q::qs) k=some q.2:=by simp[atKey,Awk,e']
   rw[L5 e,b];exact h2
  ·have e':¬ q.1=k:=fun z=>e (h1.trans z)
   have b:atKey (q::qs) k=atKey qs k:=by simp[atKey,Awk,e']
   rw[L4 e,b];exact ih
theorem X8 (r:Aib o u):o.isSome=u.isSome:=by
 cases o<;>cases u<;>first|rfl|exact (show False from r).elim
theorem KT.put {K:W.Frag}{H:Hp}{kvs:List (PyData×V)}{xs:List (PyData×Addr×Value)} (r:KT K H kvs xs) (k:PyData) {b:Addr}{y:V}{u:Value} (hb:KeyT K H k b) (ry:RelV y u):KT K H (Ua kvs k y) (storedH xs k b u):=by
 have e:=X8 (r.val k)
 rw[Option.isSome_map] at e
 unfold Ua storedH
 rw[e]
 by_cases q:(atKey xs k).isSome=true
 ·rw[Atq q,Atq q]
  clear e q
  induction r with
  |nil=>exact .nil
  |@cons p q ps qs h t ih =>
   rw[Atz,Atz]
   refine .cons ?_ ih
   obtain⟨h1,h2,h3⟩:=h
   unfold putAt
   by_cases e:p.1=k
   ·rw[Atq e,Atq (h1.symm.trans e)];exact⟨h1,h2,ry⟩
   ·rw[Atl e,Atl (fun z=>e (h1.trans z))];exact⟨h1,h2,h3⟩
 ·rw[Atl q,Atl q]
  clear e q
  induction r with
  |nil=>exact .cons ⟨rfl,hb,ry⟩ .nil
  |cons h t ih=>exact .cons h ih
theorem KT.keeps {K:W.Frag}{H H':Hp}{kvs:List (PyData×V)}{xs:List (PyData×Addr×Value)} (r:KT K H kvs xs) (ht:∀ b ys,Rd H b (.tup ys)->Rd H' b (.tup ys)):KT K H' kvs xs :=
 Paired.mapP r fun _ _ z=>⟨z.1,z.2.1.up ht,z.2.2⟩
theorem KT.length {K:W.Frag}{H:Hp}{kvs:List (PyData×V)}{xs:List (PyData×Addr×Value)} (r:KT K H kvs xs):kvs.length=xs.length:=Paired.length r
theorem Aa6 (kvs:List (PyData×V)) (k:PyData) (v:V):(Ua kvs k v).length<=kvs.length+1:=by
 unfold Ua
 split
 ·rw[At1];lia
 ·simp
section
variable {X:Cx}{pins:List (Addr×Obj)}{σ:St}{H:Hp}{s:Shared}{a:Addr}
theorem My (I:Inv X pins σ H s) (d:PyData):∀ {v:V}{u:Value},KeyH X.K H d v->RelV v u->∃ as,Reads s.heap u d as:=by
 match d with
 |.int i=>intro v u h r;cases h;obtain⟨t,rfl⟩:=r;exact⟨_,.int i t⟩
 |.str x=>intro v u h r;cases h;obtain⟨t,rfl⟩:=r;exact⟨_,.str x t⟩
 |.tuple ds =>
  intro v u h r
  cases h with
  |@tup _ b vs hs hp =>
  cases r
  obtain⟨its,rv,⟨o,ho,hc,n,hd⟩,hz⟩:=I.tuple hs
  have go:∀ (es:List PyData) (us:List V) (ws:List Value),(∀ e∈es,e∈ds)->Paired (KeyH X.K H) es us->Vals us ws->∃ as,ReadsAll s.heap ws es as:=by
   intro es
   induction es with
   |nil=>intro us ws _ q rv;cases q;cases rv;exact⟨_,.nil⟩
   |cons e es ih =>
    intro us ws hm q rv
    cases q with
    |cons h1 h2=>cases rv with
     |cons r1 r2 =>
      obtain⟨as,q1⟩:=My I e h1 r1
      obtain⟨bs,q2⟩:=ih _ _ (fun x hx=>hm x (Atn _ hx)) h2 r2
      exact⟨_,.cons q1 q2⟩
  obtain⟨as,ra⟩:=go ds vs its (fun _ h=>h) hp rv
  exact⟨as,.tuple ho hc hd (by simpa using ra)⟩
 |.none=>intro v u h;cases h
 |.bool _=>intro v u h;cases h
 |.list _=>intro v u h;cases h
 |.dict _=>intro v u h;cases h
termination_by sizeOf d
decreasing_by
 have:=Au6 (hm e (Atk ..))
 simp;lia
theorem Pz (I:Inv X pins σ H s) {d:PyData} (h:KeyT X.K H d b):(D6 X.prog X.w).is s.heap d b:=by
 obtain⟨h1,h2,h3,h4⟩:=h
 obtain⟨as,r⟩:=My I d (u:=.ref b) h4 rfl
 exact⟨h1,h2,h3,as,r⟩
theorem Zn (I:Inv X pins σ H s) (e:Rd H a (.dT kvs)):kvs.length<=sizeLine/\(a == sysModules)=false/\∃ xs,KT X.K H kvs xs/\s.heap.DictOfH (D6 X.prog X.w) a xs:=by
 obtain⟨z,y,xs,r,o,es,ep,h1,h2,h3,h4,h5⟩:=(show ObjOk X.prog X.w X.K H s.heap a (.dT kvs) from e.ok I.hok)
 refine⟨z,y,xs,r,o,es,ep,h1,h2,h3,h4,fun x hx=>?_,h5⟩
 have all:∀ {l:List (PyData×V)}{m:List (PyData×Addr×Value)},KT X.K H l m->∀ x∈m,(D6 X.prog X.w).is s.heap x.1 x.2.1:=by
  intro l m q
  induction q with
  |nil=>intro x hx;exact nomatch hx
  |@cons p q ps qs hq t ih =>
   intro x hx
   rcases List.mem_cons.mp hx with e|hx
   ·subst e
    exact Pz I hq.2.1
   ·exact ih x hx
 exact all r x hx
theorem Ie {A:Around} (hu:A.units+11 < cLine):(D6 X.prog X.w).room A.in1:=by
 show A.units+1+10 < cLine;lia
theorem Aex (I:Inv X pins σ H s):sysModules < s.heap.objs.size:=by
 have h:mainGlobals < s.heap.objs.size:=(I.mod.glob.keeps I.bk).lt
 exact Nat.lt_trans (by decide) h
end
noncomputable def Bz:D->Bool
 |.tup ds=>kOk (pyD (.tup ds))&&decide (Tf (pyD (.tup ds))<=6)
 |_=>false
noncomputable def Mi (m:MH):D->Option (List D×List D)
 |.dic ks vs=>some (ks,vs)
 |.ref n=>match m[n]? with
  |some (.dct ks vs)=>some (ks,vs)
  |_=>none
 |_=>none
noncomputable def Aev:List D->List D->D->Option D
 |k::ks,v::vs,x=>if pyD k=pyD x then some v else Aev ks vs x
 |_,_,_=>none
noncomputable def Tb (ks:List D) (x:D):Bool:=ks.any fun k=>decide (pyD k=pyD x)
noncomputable def Jb:List D->List D->D->D->List D
 |k::ks,v::vs,x,y=>(if pyD k=pyD x then y else v)::Jb ks vs x y
 |_,vs,_,_=>vs
def Afh:D->D->MH->Option D:=fun x y m=>(Mi m x).bind fun kv=>if Bz y=true then Aev kv.1 kv.2 y else none
def Akv:D->D->MH->Option D:=fun x y m=>(Mi m y).bind fun kv=>if Bz x=true then some (.bl (Tb kv.1 x)) else none
noncomputable def Abh (i:Nat):FS:=fun env m=>some (.nx (env.set i (some (.ref m.length))) (m++[.dct [] []]))
def Tr (f fo fk:FE):FS:=fun env m=>(f env m).bind fun d=>(fo env m).bind fun o=>(fk env m).bind fun k=>match o with
 |.ref n=>(match m[n]? with
  |some (.dct ks vs)=>if Bz k=true/\ks.length < 1000000 then some (.nx env (m.set n (if Tb ks k=true then .dct ks (Jb ks vs k d) else .dct (ks++[k]) (vs++[d])))) else none
  |_=>none)
 |_=>none
section
variable {K:W.Frag}{H:Hp}{μ:List Addr}{B:Addr->Prop}
theorem Vi:∀ {d:D}{v:V},Rep K H μ B d v->kOk (pyD d)=true->KeyH K H (pyD d) v:=by
 intro d
 match d with
 |.int i=>intro v r _;cases r;rw[pyD];exact .int i
 |.str x=>intro v r _;cases r;rw[pyD];exact .str x
 |.tup ds =>
  intro v r hk
  cases r with
  |@tup _ a xs hq rs =>
  rw[pyD] at hk ⊢
  rw[kOk] at hk
  refine .tup hq ?_
  have go:∀ (es:List D) (us:List V),(∀ e∈es,e∈ds)->Reps K H μ B es us->Jl (Bu es)=true->Paired (KeyH K H) (Bu es) us:=by
   intro es
   induction es with
   |nil=>intro us _ q _;cases q;rw[Bu];exact .nil
   |cons e es ih =>
    intro us hm q hk
    cases q with
    |cons h1 h2 =>
     rw[Bu,Jl,At0] at hk
     rw[Bu]
     exact .cons (Vi h1 hk.1) (ih _ (fun x hx=>hm x (Atn _ hx)) h2 hk.2)
  exact go ds xs (fun _ h=>h) rs hk
 |.non=>intro v r h;simp[pyD,kOk] at h
 |.bl _=>intro v r h;simp[pyD,kOk] at h
 |.lst _=>intro v r h;simp[pyD,kOk] at h
 |.kl _=>intro v r h;simp[pyD,kOk] at h
 |.ref _=>intro v r h;simp[pyD,kOk] at h
 |.dic _ _=>intro v r h;simp[pyD,kOk] at h
 |.fn _ _=>intro v r h;simp[pyD,kOk] at h
termination_by d=>sizeOf d
decreasing_by
 have:=Au6 (hm e (Atk ..))
 simp;lia
theorem Ol {d:D} (r:Rep K H μ B d v) (h:Bz d=true):∃ b,v=.ref b/\KeyT K H (pyD d) b:=by
 cases d with
 |tup ds =>
  unfold Bz at h
  rw[At0] at h
  have q:=Vi r h.1
  cases r with
  |tup hq rs=>exact⟨_,rfl,h.1,Auw h.2,⟨_,by rw[pyD]⟩,q⟩
 |_=>exact C4 h
theorem Pv:∀ {ks vs:List D}{kvs:List (PyData×V)}{x z:D},Bu ks=kvs.map (·.1)->Reps K H μ B vs (kvs.map (·.2))->Aev ks vs x=some z->∃ v,Y8 kvs (pyD x)=some v/\Rep K H μ B z v
 |[],_,_,_,_,_,_,h=>by exact Ac h
 |k::ks,[],_,_,_,_,_,h=>by cases h
 |k::ks,v::vs,[],x,z,e,_,h=>by simp[Bu] at e
 |k::ks,v::vs,p::kvs,x,z,e,r,h=>by
  rw[Bu,Atz] at e
  obtain⟨e1,e2⟩:=List.cons.inj e
  rw[Atz] at r
  cases r with
  |cons r1 r2 =>
   rw[Aev] at h
   by_cases q:pyD k=pyD x
   ·rw[Atq q] at h
    cases h
    exact⟨p.2,L5 (e1.symm.trans q),r1⟩
   ·rw[Atl q] at h
    rw[L4 (fun z=>q (e1.trans z))]
    exact Pv e2 r2 h
theorem Ld:∀ {ks:List D}{kvs:List (PyData×V)}{x:D},Bu ks=kvs.map (·.1)->Tb ks x=(Y8 kvs (pyD x)).isSome
 |[],[],_,_=>rfl
 |[],_::_,_,e=>by simp[Bu] at e
 |_::_,[],_,e=>by simp[Bu] at e
 |k::ks,p::kvs,x,e=>by
  rw[Bu,Atz] at e
  obtain⟨e1,e2⟩:=List.cons.inj e
  have ih:=Ld (x:=x) e2
  unfold Tb at ih ⊢
  rw[Awd]
  by_cases q:pyD k=pyD x
  ·rw[L5 (e1.symm.trans q)];simp[q]
  ·rw[L4 (fun z=>q (e1.trans z)),<- ih];simp[q]
theorem Agm {ks vs:List D}{kvs:List (PyData×V)}{x y:D}{v:V} (e:Bu ks=kvs.map (·.1)) (r:Reps K H μ B vs (kvs.map (·.2))) (ry:Rep K H μ B y v) :
  Bu (if Tb ks x=true then ks else ks++[x])=(Ua kvs (pyD x) v).map (·.1)/\Reps K H μ B (if Tb ks x=true then Jb ks vs x y else vs++[y]) ((Ua kvs (pyD x) v).map (·.2)):=by
 have app:∀ (ds es:List D),Bu (ds++es)=Bu ds++Bu es:=fun ds es=>by
  induction ds with
  |nil=>rw[Bu];rfl
  |cons d ds ih=>rw[Avo,Bu,Bu,ih];rfl
 unfold Ua
 rw[Ld e]
 by_cases q:(Y8 kvs (pyD x)).isSome=true
 ·rw[Atq q,Atq q,Atq q]
  clear q
  refine⟨?_,?_⟩
  ·rw[e,Avf]
   refine Avs fun p _=>?_
   show p.1=_
   simp only[Function.comp]
   split<;>rfl
  ·induction kvs generalizing ks vs with
   |nil =>
    cases ks with
    |nil=>cases r;exact .nil
    |cons k ks=>simp[Bu] at e
   |cons p kvs ih =>
    cases ks with
    |nil=>simp[Bu] at e
    |cons k ks =>
     rw[Bu,Atz] at e
     obtain⟨e1,e2⟩:=List.cons.inj e
     rw[Atz] at r
     cases r with
     |cons r1 r2 =>
      rw[Jb,Atz,Atz]
      refine .cons ?_ (ih e2 r2)
      by_cases z:pyD k=pyD x
      ·rw[Atq z,Atq (e1.symm.trans z)];exact ry
      ·rw[Atl z,Atl (fun w=>z (e1.trans w))];exact r1
 ·rw[Atl q,Atl q,Atl q,Auh,Auh,app,e]
  exact⟨by rw[Bu,Bu];rfl,r.append (.cons ry .nil)⟩
theorem Oc (S:Sim K H μ m) {d:D} (r:Rep K H μ (·∈μ) d v) (h:Mi m d=some (ks,vs)):∃ a kvs,v=.ref a/\Rd H a (.dT kvs)/\Bu ks=kvs.map (·.1)/\Reps K H μ (·∈μ) vs (kvs.map (·.2)):=by
 cases r with
 |dic h1 h2 h3 h4=>cases h;exact⟨_,_,rfl,h1,h3,h4⟩
 |fn _=>exact Ac h
 |@ref n a e =>
  unfold Mi at h
  cases q:m[n]? with
  |none=>simp[q] at h
  |some o =>
   simp only[q] at h
   cases o with
   |lst _=>cases h
   |dct ks vs =>
    cases h
    obtain⟨kvs,q1,q2,q3⟩:=S.obj n a _ e q
    exact⟨a,kvs,rfl,.inl q1,q2,q3⟩
 |_=>exact Ac h
end
section
variable {X:Cx}{a b c e:Expr}{es:List Expr}{pos p p':Pos}{x:Str}
theorem Alu {k:Nat}{f g:FE} (hr:Room k X.A) (ha:PD X a f) (hb:PD X b g) (hs:J1 b):PD X (.Subscript a b pos) (f2 Afh f g):=by
 intro pins s σ H Q I ⟨env,μ,m,z,S,E,h,q⟩
 obtain⟨d1,h1,h⟩:=bind_some h
 obtain⟨d2,h2,h⟩:=bind_some h
 obtain⟨kv,h3,h⟩:=bind_some h
 split at h
 ·rename_i hk
  refine Subscript_ (Aph ha hb I (show tE X.K f σ H fun x H1=>tE X.K g σ H1 fun y H2=>Same H H2/\Rep X.K H2 μ (·∈μ) d1 x/\Rep X.K H2 μ (·∈μ) d2 y from ⟨env,μ,m,d1,S,E,h1,fun v H1 s1 r1=>⟨env,μ,m,d2,S.same s1,E.same s1,h2,fun u H2 s2 r2=>⟨s1.trans s2,r1.same s2,r2⟩⟩⟩) fun v u s2 x y H2 I2 rx ry q2=>?_)
  obtain⟨sm,r1,r2⟩:=q2
  obtain⟨ad,kvs,rfl,hd,e1,e2⟩:=Oc (S.same sm) r1 (by rw[h3])
  obtain⟨bd,rfl,hkt⟩:=Ol r2 hk
  obtain⟨w,hw,rw'⟩:=Pv e1 e2 h
  cases rx
  cases ry
  obtain⟨z1,hm,xs,rel,dd⟩:=Zn I2 hd
  have q3:=rel.val (pyD d2)
  rw[hw] at q3
  cases q4:(atKey xs (pyD d2)).map (·.2) with
  |none=>rw[q4] at q3;exact (show False from q3).elim
  |some w' =>
   rw[q4] at q3
   obtain⟨pr,hp,hp2⟩:=Option.map_eq_some_iff.mp q4
   have hu:=hr.units
   refine subscriptTail_builtinR (x:=w') dd.typeIs slot_dict_getitem.lookup (wpAny_getItem_heap (Ie (by lia)) (Pz I2 hkt) dd hp ?_) (hs _ _)
   rw[hp2]
   exact⟨rfl,w,H2,I2.tok _,q3,q w H2 sm rw'⟩
 ·cases h
theorem Ak7 (hr:Room k X.A):OpM X (compareOp .In) Akv:=by
 intro pins s σ H μ m x y z v u v' u' Q I S rx ry r1 r2 e q
 obtain⟨kv,h3,h⟩:=bind_some e
 split at h
 ·rename_i hk
  cases h
  obtain⟨ad,kvs,rfl,hd,e1,e2⟩:=Oc S ry (by rw[h3])
  obtain⟨bd,rfl,hkt⟩:=Ol rx hk
  cases r1
  cases r2
  obtain⟨z1,hm,xs,rel,dd⟩:=Zn I hd
  have hu:=hr.units
  refine wpAny_in_heap (Ie (by lia)) (Pz I hkt) hm dd ?_
  have q3:=X8 (rel.val (pyD x))
  rw[Option.isSome_map] at q3
  rw[<- q3,<- Ld e1]
  exact⟨.bl _,H,I.tok _,rfl,q _ H (Same.refl H) (.bl _)⟩
 ·cases h
def Aqu (K:W.Frag):Ann:=fun o i v H Q=>∃ ad kvs d b,o=.ref ad/\i=.ref b/\KeyT K H d b/\H ad=some (.dT kvs)/\kvs.length < sizeLine/\Q (upd H ad (.dT (Ua kvs d v)))
theorem Ye (hr:Room k X.A):An8 X (Aqu X.K):=by
 intro pins s σ H o i v ov iv u Q I r1 r2 r3 h
 obtain⟨ad,kvs,d,bd,rfl,rfl,hk,hH,hl,q⟩:=h
 cases r1
 cases r2
 obtain⟨z,hd,xs,rel,dd⟩:=Zn I (.inl hH)
 have hz:xs.length<=sizeLine:=by rw[<- rel.length];exact z
 have hl':(Ua kvs d v).length<=sizeLine:=by have:=Aa6 kvs d v;lia
 have hu:=hr.units
 refine wpAny_setItem_heap (hsz:=hz) (Ie (by lia)) (Pz I hk) dd fun h' dd' hs=>?_
 obtain⟨o',es,ep,hq,h2,h3,h4,_,h5⟩:=dd'
 refine⟨_,I.write (x:=ad) (e:=ad) (o:=.dT (Ua kvs d v)) (by rw[hH];exact Av7) (.inl rfl) (fun b u hb e=>(hs.2 b hb).trans e) ⟨o',hq⟩ (show ObjOk X.prog X.w X.K (upd H ad (.dT (Ua kvs d v))) h' ad (.dT (Ua kvs d v)) from ⟨hl',hd,_,(rel.put d hk r3).keeps fun c ys ec=>Rd.upd_mut (by rw[hH];exact Av7) ec,o',es,ep,hq,h2,h3,h4,h5⟩),q⟩
end
theorem Sim.writeD {K:W.Frag}{H:Hp}{μ:List Addr}{m:MH}{n:Nat}{a:Addr}{o0:MObj}{ks vs:List D}{kvs:List (PyData×V)} (S:Sim K H μ m) (h1:μ[n]?=some a) (h2:m[n]?=some o0) (e:Bu ks=kvs.map (·.1)) (r:Reps K H μ (·∈μ) vs (kvs.map (·.2))) :
  Step H μ (upd H a (.dT kvs)) μ/\Sim K (upd H a (.dT kvs)) μ (m.set n (.dct ks vs)):=by
 have ha:a∈μ:=Aui h1
 have st:Step H μ (upd H a (.dT kvs)) μ:=⟨⟨[],by simp,by simp⟩,fun b o e hb=>by rw[An fun z=>hb (by rw[z];exact ha)];exact e⟩
 have nl:n < m.length:=(List.getElem?_eq_some_iff.mp h2).1
 refine⟨st,⟨S.nd,by simp[S.len],fun j b o h3 h4=>?_⟩⟩
 by_cases hj:j=n
 ·subst hj
  rw[h1] at h3
  cases h3
  rw[Au1 nl] at h4
  cases h4
  exact⟨kvs,As,e,r.step S st⟩
 ·rw[Avi (Avr hj)] at h4
  have q:=S.obj j b o h3 h4
  have hb:b≠a:=fun z=>hj (by
   subst z
   exact (List.getElem_inj S.nd).mp ((List.getElem?_eq_some_iff.mp h3).2.trans (List.getElem?_eq_some_iff.mp h1).2.symm))
  cases o with
  |lst fs=>obtain⟨zs,q1,q2⟩:=q;exact⟨zs,by rw[An hb];exact q1,q2.step S st⟩
  |dct ks vs=>obtain⟨zs,q1,q2,q3⟩:=q;exact⟨zs,by rw[An hb];exact q1,q2,q3.step S st⟩
theorem Sim.pushD {K:W.Frag}{H:Hp}{μ:List Addr}{m:MH}{a:Addr} (S:Sim K H μ m) (hn:H a=none) :
  Step H μ (upd H a (.dT [])) (μ++[a])/\Sim K (upd H a (.dT [])) (μ++[a]) (m++[.dct [] []]):=by
 have s:Same H (upd H a (.dT [])):=A4 hn
 have st:Step H μ (upd H a (.dT [])) (μ++[a]):=⟨⟨[a],rfl,fun b hb=>by rw[show b=a by simpa using hb];exact hn⟩,fun b o e _=>s b o e⟩
 have na:a∉μ:=S.nnone hn
 refine⟨st,?_,?_,fun n b o h1 h2=>?_⟩
 ·rw[List.nodup_append]
  exact⟨S.nd,by simp,fun b hb c hc z=>na (by rw[<- show c=a by simpa using hc,<- z];exact hb)⟩
 ·simp[S.len]
 ·by_cases hl:n < μ.length
  ·rw[At4 hl] at h1
   rw[At4 (by rw[<- S.len];exact hl)] at h2
   have q:=S.obj n b o h1 h2
   cases o with
   |lst es=>obtain⟨ys,q1,q2⟩:=q;exact⟨ys,s _ _ q1,q2.step S st⟩
   |dct ks vs=>obtain⟨ys,q1,q2,q3⟩:=q;exact⟨ys,s _ _ q1,q2,q3.step S st⟩
  ·have e:n=μ.length:=by
    have:=(List.getElem?_eq_some_iff.mp h1).1
    rw[At8,Avg] at this
    lia
   subst e
   rw[Aud (Atp _)] at h1
   rw[S.len,Aud (Atp _)] at h2
   simp at h1 h2
   subst h1
   subst h2
   exact⟨[],As,rfl,.nil⟩
section
variable {X:Cx}{a b c e:Expr}{es:List Expr}{pos p p':Pos}{x:Str}
theorem Aa0 {k:Nat}{f fo fi:FE} (hr:Room k X.A) (he:PD X e f) (ho:PD X a fo) (hi:PD X b fi)
  (ha:∀ v,assign (.Subscript a b p) X.env v=(do
   let ov <- holding [v] (eval a X.env)
   let iv <- holding [v,ov] (eval b X.env)
   standAt p
   holding [v,ov,iv] (setItem ov iv v)
   release [v,ov,iv] [])) (hs:swapsWithSole [.Subscript a b p] e pos.line X.env=pure false) (hw:swappedStores [.Subscript a b p] e X.env=pure none) (h1:(assignEach [.Subscript a b p] X.env).map (·.2)=[assign (.Subscript a b p) X.env]) :
  PSD X (.Assign [.Subscript a b p] e pos) (Tr f fo fi):=PS.imp (Xq he (Ac0 ho hi (Ye hr) ha) hs hw h1) fun D σ H ⟨env,μ,m,ob,S,E,h,q⟩=>by
 obtain⟨d,h1,h⟩:=bind_some h
 obtain⟨o,h2,h⟩:=bind_some h
 obtain⟨i,h3,h⟩:=bind_some h
 refine⟨env,μ,m,d,S,E,h1,fun v H1 s1 r1=>⟨env,μ,m,o,S.same s1,E.same s1,h2,fun u H2 s2 r2=>⟨env,μ,m,i,S.same (s1.trans s2),E.same (s1.trans s2),h3,fun w H3 s3 r3=>?_⟩⟩⟩
 have s':=(s1.trans s2).trans s3
 have r2':=r2.same s3
 cases r2' with
 |@ref n a e =>
  simp only at h
  cases q':m[n]? with
  |none=>simp[q'] at h
  |some mo =>
   simp only[q'] at h
   cases mo with
   |lst _=>cases h
   |dct ks vs =>
    simp only at h
    split at h
    ·rename_i hk
     cases h
     obtain⟨kvs,e1,e2,e3⟩:=(S.same s').obj n a _ e q'
     obtain⟨bd,rfl,hkt⟩:=Ol r3 hk.1
     have rv:=(r1.same s2).same s3
     have hl:kvs.length < sizeLine:=by
      have l1:=Au5 List.length e2
      have l2:∀ ds:List L2.ML.D,(Bu ds).length=ds.length:=fun ds=>by induction ds with|nil=>rw[Bu];rfl|cons d ds ih=>rw[Bu,Atw,Atw,ih]
      rw[l2,At1] at l1
      have:=hk.2
      have hz:=big (n:=1000000) (Atp _)
      lia
     refine⟨a,kvs,_,bd,rfl,rfl,hkt,e1,hl,?_⟩
     obtain⟨p1,p2⟩:=Agm (x:=i) e2 e3 rv
     obtain⟨st,S3⟩:=(S.same s').writeD e q' p1 p2
     have em:(if Tb ks i=true then MObj.dct ks (Jb ks vs i d) else MObj.dct (ks++[i]) (vs++[d]))=MObj.dct (if Tb ks i=true then ks else ks++[i]) (if Tb ks i=true then Jb ks vs i d else vs++[d]):=by split<;>rfl
     rw[em] at q
     exact q σ _ μ ((Step.of_same s').trans st fun c hc=>s'.free hc) S3 ((E.same s').step (S.same s') st)
    ·exact Ac h
 |_=>exact Ac h
theorem Zm {P:Program}{w:World}{K:W.Frag}{H:Hp} (h:Heap) (hb:sysModules < h.objs.size):ObjOk P w K H (h.push { cls:=.type "dict",data:=.dict #[] }) h.objs.size (.dT []) :=
 ⟨Aup _,beq_eq_false_iff_ne.mpr (Avr (At7 hb)),[],.nil,_,#[],0,At3 _ rfl,⟨rfl,rfl,rfl⟩,rfl,rfl,List.nodup_nil⟩
theorem Aan:PE X (.Dict [] [] pos) (fun _ H Q=>∀ p,H p=none->Q (.ref p) (upd H p (.dT []))):=fun pins s σ H Q I h =>
 wpAny_Dict_empty ⟨.ref s.heap.objs.size,_,I.laid (a:=s.heap.objs.size) (o:=.dT []) (t':=s.toks) (fun _ _ q=>Ato _ q) (Atp _) (Zm s.heap (Aex I)),rfl,h _ (I.hok.fresh (Atp _))⟩
theorem Aaz (hN:X.N.Nodup) (hi:X.N[i]?=some x) (hx:Loc X.env.scope x) (hs:swapsWith (.Dict [] [] dp) (some (.Name x p')) pos.line X.env=pure false) (hf:X.fn x=true\/X.env.scope.names.lookup x=some .local) :
  PSD X (.Assign [.Name x p'] (.Dict [] [] dp) pos) (Abh i):=PS.imp (Xr hN hi hx Aan hs hf) fun D σ H ⟨env,μ,m,o,S,E,h,q⟩=>by
 cases h
 intro a hn
 obtain⟨st,S'⟩:=S.pushD hn
 exact q _ _ _ st S' ((E.step S st).set i (Ls S.len))
theorem Agy (hN:X.N.Nodup) (hi:X.N[i]?=some x:=by kernel_rfl) (hx:Loc X.env.scope x:=by exact Av3 (by kernel_rfl)) (hs':Ln (.Dict [] [] dp)=true:=by rfl) (hf:X.fn x=true\/X.env.scope.names.lookup x=some .local:=by exact Av3 (by kernel_rfl)) :
  QS X (.Assign [.Name x p'] (.Dict [] [] dp) pos) (Abh i):=⟨Aaz hN hi hx (H4 hs') hf⟩
theorem Ac5 (hr:Room k X.A) (ha:QD X a f) (hb:QD X b g) (hs':Ap4 b=true:=by rfl):QD X (.Subscript a b pos) (f2 Afh f g):=⟨Alu hr ha.out hb.out (Pw hs')⟩
theorem X2 (hr:Room k X.A) (he:QD X e f) (ho:QD X a fo) (hi:QD X b fi) (ha:∀ v,assign (.Subscript a b p) X.env v=(do
   let ov <- holding [v] (eval a X.env)
   let iv <- holding [v,ov] (eval b X.env)
   standAt p
   holding [v,ov,iv] (setItem ov iv v)
   release [v,ov,iv] []):=by intro _;rfl) (hs':Ln e=true:=by rfl) (hw:swappedStores [.Subscript a b p] e X.env=pure none:=by kernel_rfl) (h1:(assignEach [.Subscript a b p] X.env).map (·.2)=[assign (.Subscript a b p) X.env]:=by kernel_rfl) :
  QS X (.Assign [.Subscript a b p] e pos) (Tr f fo fi):=⟨Aa0 hr he.out ho.out hi.out ha (Lx hs') hw h1⟩
end
end
end ML
end L2
end S_ML12
section S_ML15
namespace L2
namespace ML
open PySem PySem.Spec PyProof.Rows
namespace RV
section
variable {prog:Program}{w:World}{A:Around}{E:Value->Shared->Prop}{s:Shared}
end
section
variable {prog:Program}{w:World}{A:Around}{s:Shared}{R:Result->Shared->Prop}
end
section
variable {prog:Program}{w:World}{A:Around}{E:Value->Shared->Prop}{s:Shared}
end
end RV
section
variable {X:Cx}{e:Expr}{pos pos' p p':Pos}
end
namespace RL
section
variable {prog:Program}{w:World}{A:Around}{E:Value->Shared->Prop}{s:Shared}
end
section
variable {prog:Program}{w:World}{A:Around}{s:Shared}{R:Result->Shared->Prop}
end
section
variable {prog:Program}{w:World}{A:Around}{E:Value->Shared->Prop}{s:Shared}
end
end RL
section
variable {X:Cx}{e:Expr}{pos pos' p p':Pos}
end
section
variable {X:Cx}{a e:Expr}{apos cpos:Pos}
end
section
variable {X:Cx}{a e:Expr}{apos cpos spos:Pos}
end
end ML
end L2
end S_ML15
section S_ML19
namespace L2
namespace ML
open PySem PySem.Spec PyProof.Rows PySem.SeqAt
open PySem.W (KasT kas_sort katRev KatLex)
noncomputable def evO {α:Type} (c:Nat->Nat->Option Bool):KasT α->Option α
 |.ret a=>some a
 |.ask i j k=>(c i j).bind fun b=>evO c (k b)
theorem Acb {s:Shared} (hc:∀ i j b C,c i j=some b->C b s->cmp i j C s) :
  ∀ (t:KasT α) {a:α},evO c t=some a->Q a s->t.kasWp cmp Q s
 |.ret _,_,h,q=>by cases h;exact q
 |.ask i j k,a,h,q=>by
  obtain⟨b,h1,h2⟩:=bind_some h
  exact hc i j b _ h1 (Acb hc (k b) h2 q)
theorem Ae8 {prog:Program}{w:World}{A:Around}{s:Shared}{fl fin:Bool}{Q:Bool->Shared->Prop}{n1 n2:Nat} (hf:fin=decide (n1 < n2)) {us ws:List Value}{k:Bool} (h:LexAt A s us ws k) :
  ∀ i:Nat,0 < i->us.length+n2=ws.length+n1->Q k s->KatLex prog w A fl fin Q (us.zip ws) i s:=by
 induction h with
 |nil =>
  intro i hi hn q
  show Q fin s
  rw[hf,Aus (by simp at hn;lia)];exact q
 |short =>
  intro i hi hn q
  show Q fin s
  rw[hf,Avl (by simp at hn;lia)];exact q
 |long =>
  intro i hi hn q
  show Q fin s
  rw[hf,Aus (by simp at hn;lia)];exact q
 |same he _ ih =>
  intro i hi hn q
  exact W.kat_cons (he prog w _ _ (W.kat_yes (ih (i+1) (Nat.succ_pos _) (by simp at hn;lia) q)))
 |diff he hk =>
  intro i hi hn q
  refine W.kat_cons (he prog w _ _ (W.kat_no ?_))
  rw[show (fl&&i == 0)=false by cases fl<;>simp;lia]
  exact W.kat_one _ _ (hk prog w _ _ q)
noncomputable def Ae0:D->Bool
 |.tup (.int _::_)=>true
 |_=>false
theorem Oj {d:D} (h:Ae0 d=true):∃ i ds,d=.tup (.int i::ds):=by
 cases d with
 |tup es =>
  cases es with
  |nil=>exact C4 h
  |cons e ds =>
   cases e with
   |int i=>exact⟨i,ds,rfl⟩
   |_=>exact C4 h
 |_=>exact C4 h
section
variable {X:Cx}{pins:List (Addr×Obj)}{σ:St}{H:Hp}{s:Shared}{μ:List Addr}{B:Addr->Prop}
theorem Ae1 (I:Inv X pins σ H s) {E:Value->Shared->Prop} (r:Rep X.K H μ B (.tup (.int i::ds)) v) (r':Rep X.K H μ B (.tup (.int j::es)) v') (n:A7 ds=true) (n':A7 es=true) (ru:RelV v u) (ru':RelV v' u') (hu:A.units+D8 ds+D8 es+1 < cLine) (h:Gc (.int i::ds) (.int j::es)=some b) (q:Q b s):wpAny (model X.prog X.w) A (keyLt' (tuples' true) u u') Q E s:=by
 cases r with
 |tup h1 r1 =>
 cases r' with
 |tup h2 r2 =>
 cases ru
 cases ru'
 obtain⟨its,rv,⟨o,ho,hc,nn,hd⟩,hz⟩:=I.tuple h1
 obtain⟨its',rv',⟨o',ho',hc',nn',hd'⟩,hz'⟩:=I.tuple h2
 cases r1 with
 |cons x1 xs1 =>
 cases r2 with
 |cons x2 xs2 =>
 cases rv with
 |cons q1 qs1 =>
 cases rv' with
 |cons q2 qs2 =>
 have he:=Ab9 (A:=A) I x1 x2 rfl rfl q1 q2 (by rw[show dep (D.int j)=0 by simp[dep]];lia)
 cases x1
 cases x2
 obtain⟨t,rfl⟩:=q1
 obtain⟨t',rfl⟩:=q2
 refine W.kat_lt ho hd ho' hd' (W.kat_cons (he X.prog X.w _ _ ?_))
 rw[Gc] at h
 by_cases hdq:deq (.int i) (.int j)=true
 ·rw[Atq hdq] at h
  rw[hdq]
  exact W.kat_yes (Ae8 rfl (G3 (A:=A) I ds es xs1 xs2 n n' qs1 qs2 (by lia) h) 1 (by decide) (by simp;lia) q)
 ·rw[Atl hdq,ltD] at h
  cases h
  rw[Bool.eq_false_iff.mpr hdq]
  exact W.kat_no (oneLt_int q)
theorem Hn (I:Inv X pins σ H s):∀ {ks:List D}{vs:List V}{us:List Value},Reps X.K H μ B ks vs->Vals vs us->ks.all Ae0=true->∃ fs,W.KatTups s.heap us fs/\fs.length=us.length/\∀ f∈fs,∃ i t,f=Value.int i t
 |_,_,_,.nil,.nil,_=>⟨[],.nil,rfl,fun _ h=>nomatch h⟩
 |_,_,_,.cons r rs,.cons q qs,h=>by
  rw[Au7,At0] at h
  obtain⟨i,ds,rfl⟩:=Oj h.1
  obtain⟨fs,h1,h2,h3⟩:=Hn I rs qs h.2
  cases r with
  |tup e1 r1 =>
  cases q
  obtain⟨its,rv,⟨o,ho,hc,nn,hd⟩,hz⟩:=I.tuple e1
  cases r1 with
  |cons x1 _ =>
  cases rv with
  |cons q1 _ =>
  cases x1
  obtain⟨t,rfl⟩:=q1
  refine⟨.int i t::fs,W.KatTups.cons ho hc hd (by simp) h1,by simp[h2],fun f hf=>?_⟩
  rcases List.mem_cons.mp hf with rfl|hf
  ·exact⟨i,t,rfl⟩
  ·exact h3 f hf
theorem Inv.setPin {pre post:List (Addr×Obj)}{a:Addr}{o o':Obj}{h':Heap} (I:Inv X (pre++(a,o)::post) σ H s) (ha:X.s₀.heap.objs.size<=a) (hx:∀ p∈X.pn++(pre++post),p.1≠a)
  (k:∀ b u,b≠a->s.heap.get? b=some u->h'.get? b=some u) (ho:h'.get? a=some o') (hc:∀ v,o'.data≠.cell v):Inv X (pre++(a,o')::post) σ H { s with heap:=h' }:=by
 obtain⟨e,n,ne,nf,d⟩:=I.pin (a,o) (Atm _ (Atm _ (Atk ..)))
 have sub:∀ p∈pre++post,p∈pre++(a,o)::post:=fun p hp=>(List.mem_append.mp hp).elim (fun z=>Aue _ z) fun z=>Atm _ (Atn _ z)
 have I0:Inv X (pre++post) σ H s:=I.pins_of fun p hp=>I.pin p (Atm _ (sub p hp))
 have I1:=I0.turned (t':=s.toks) k n ne (.inr ha) (fun x c hl z=>by
  obtain⟨v,o2,e2,d2⟩:=I.cell x c hl
  rw[z] at e2
  rw[show s.heap.get? a=some o from e] at e2
  cases e2
  exact d v d2) hx
 refine I1.pins_of fun p hp=>?_
 rcases List.mem_append.mp hp with z|z
 ·exact I1.pin p (Atm _ (Aue _ z))
 ·rcases List.mem_cons.mp z with rfl|z
  ·exact⟨ho,n,ne,nf,hc⟩
  ·exact I1.pin p (Atm _ (Atm _ z))
theorem Inv.adopt (I:Inv X ((a,seqObj "list" its.toArray n)::pins) σ H s) (ha:X.s₀.heap.objs.size<=a) (hx:∀ p∈X.pn++pins,p.1≠a) (rv:Vals ys its) (hz:ys.length<=sizeLine) :
  Inv X pins σ (upd H a (.lst ys)) s:=by
 obtain⟨e,hn,ne,nf,d⟩:=I.pin (a,seqObj "list" its.toArray n) (Atm _ (Atk ..))
 have I0:Inv X pins σ H s:=I.pins_of fun p hp=>I.pin p (Atm _ (Atn _ hp))
 have up:∀ b u,H b=some u->upd H a (.lst ys) b=some u:=fun b u q=>by rw[An (Ao q hn)];exact q
 refine I0.step (g':=s.gens) (t':=s.toks) (d':=s.drawn) (h':=s.heap) (ch:=[a]) (fun b hb=>?_) (fun b o _ _ _ q _=>q) (fun b o _ _ _ q _=>⟨o.slots,q⟩) (fun b o hc q z=>?_) (fun b o _ q=>⟨o,q⟩) (fun b xs q=>up _ _ q) (fun b o u q=>up _ _ q) (fun b ps q=>⟨#[],by rw[up _ _ q];simp⟩) (fun m q=>q) (fun b u q=>?_) I0.bare
 ·have e':b=a:=by simpa using hb
  subst e'
  refine⟨.inr ha,ne,fun x c hl z=>?_,hx⟩
  obtain⟨v,o2,e2,d2⟩:=I.cell x c hl
  rw[z] at e2
  have e3:s.heap.get? b=some (seqObj "list" its.toArray n):=e
  rw[e3] at e2
  cases e2
  exact d v d2
 ·rw[An (fun z=>hc (by simp[z]))];exact z
 ·by_cases hb:b=a
  ·subst hb
   rw[As] at q
   cases q
   exact⟨hz,its,n,rv,e⟩
  ·rw[An hb] at q
   exact (I0.hok b u q).stay (fun c v _ z=>z) (fun c z=>up _ _ z) (fun c xs z=>by
    rcases z with z|⟨o,z⟩
    ·exact .inl (up _ _ z)
    ·exact .inr ⟨o,up _ _ z⟩) fun c x w z=>up _ _ z
end
def Lj (fn:List D->Option D) (m:MH):List D->Option (List D)
 |[]=>some []
 |d::ds=>(Ei 1 fn [d] m).bind fun k=>(Lj fn m ds).bind fun ks=>some (k::ks)
theorem Hm:∀ {ds ks:List D},Lj fn m ds=some ks->ks.length=ds.length
 |[],_,h=>by cases h;rfl
 |d::ds,_,h=>by
  obtain⟨k,h1,h⟩:=bind_some h
  obtain⟨ks,h2,h⟩:=bind_some h
  cases h
  rw[Atw,Atw,Hm h2]
section
variable {X:Cx}{pins:List (Addr×Obj)}{σ:St}{H:Hp}{s:Shared}{μ:List Addr}{m:MH}{k:Nat}{f:Addr}{fd:FuncData}{ps:List Str}{fn:List D->Option D}{A':Around}
theorem Ag4 {us:List Value}{vs:List V}{Q:VK} (F:FnOk X.prog X.w X.K X.mg X.base CX0 k f fd ps (spP X.K 1 fn)) (hr:Room k A') (he:Env0 X.prog X.w X.K X.mg X.base A' X.stack s H) (hb:Binds X.K fd ps []) (I:Inv X pins σ H s) (r:Vals vs us) (h:spP X.K 1 fn vs H Q E0) :
  wpAny (model X.prog X.w) A' (call (.ref f) us) (EP X pins σ Q) (fun _ _=>False) s:=by
 have hl:us.length=ps.length:=by rw[<- r.length];exact F.len _ _ _ _ h
 have hb':=hb s us I.kIn (by simpa using hl)
 rw[At6] at hb'
 refine wpAny_call (codeAny_mono (F.run A' X.stack s H ⟨us,[]⟩ us vs Q E0 hr he hb' r h) fun r s' hq=>?_)
 cases r with
 |error e=>exact hq.elim
 |ok fl =>
  cases fl with
  |ret u=>exact I.after hq
  |next=>exact False.elim hq
  |brk=>exact False.elim hq
  |cont=>exact False.elim hq
def SK (X:Cx) (pins:List (Addr×Obj)) (σ:St) (H:Hp) (μ:List Addr) (kS D0:Addr) (e1:Nat) (keys:List D) (s':Shared):Prop :=
 ∃ H1 e kvs us,Same H H1/\Inv X ((kS,seqObj "list" (List.toArray us) e)::(D0,seqObj "list" #[] e1)::pins) σ H1 s'/\Vals kvs us/\Reps X.K H1 μ (·∈μ) keys kvs
theorem P0 {E:Value->Shared->Prop} (F:FnOk X.prog X.w X.K X.mg X.base CX0 k f fd ps (spP X.K 1 fn)) (hr:Room k A') (hA:∀ s H,Env0 X.prog X.w X.K X.mg X.base X.A X.stack s H->Env0 X.prog X.w X.K X.mg X.base A' X.stack s H) (hb:Binds X.K fd ps []) (S:Sim X.K H μ m) (hk:X.s₀.heap.objs.size<=kS) (hx:∀ p∈X.pn++pins,p.1≠kS) (hne:D0≠kS) (hbd:∀ x (s:Shared) (R:ForInStep PUnit->Shared->Prop),wpAny (model X.prog X.w) A' (call (.ref f) [x]) (fun k s1=>∃ us e,s1.heap.get? kS=some (seqObj "list" (List.toArray us) e)/\us.length < 128/\R (.yield ⟨⟩) { s1 with heap:=s1.heap.update kS (Obj.mapSeq (·.push k)) }) (fun _ _=>False) s->wpAny (model X.prog X.w) A' (body x ⟨⟩) R E s) :
  ∀ (ds:List D) {xs:List V}{us:List Value}{ks dn:List D}{s:Shared},Reps X.K H μ (·∈μ) ds xs->Vals xs us->Lj fn m ds=some ks->dn.length+ds.length < 128->SK X pins σ H μ kS D0 e1 dn s ->
   wpAny (model X.prog X.w) A' (forIn us PUnit.unit body) (fun _ s'=>SK X pins σ H μ kS D0 e1 (dn++ks) s') E s
 |[],xs,us,ks,dn,s,rs,rv,hK,hl,st=>by
  cases rs
  cases rv
  cases hK
  rw[List.forIn_nil,At6]
  exact Atu st
 |d::ds,xs,us,ks,dn,s,rs,rv,hK,hl,st=>by
  cases rs with
  |@cons _ v _ vs r rs =>
  cases rv with
  |@cons _ u _ us ru rus =>
  obtain⟨key,h1,h⟩:=bind_some hK
  obtain⟨ks',h2,h⟩:=bind_some h
  cases h
  obtain⟨H1,e,kvs,ws,s1,I,rk,rks⟩:=st
  have S1:=S.same s1
  obtain⟨ds',h3,h4⟩:=bind_some h1
  split at h4
  ·rename_i hl1
   rw[List.forIn_cons]
   refine Atj (hbd u s _ (Auq (Ag4 (us:=[u]) (vs:=[v]) (Q:=fun v' H'=>Same H1 H'/\Rep X.K H' μ (·∈μ) key v') F hr (hA _ _ I.env0) hb I (.cons ru .nil) ⟨ds',key,B7 S1 (.cons (r.same s1) .nil) h3,hl1,h4,fun v' H' s' r'=>⟨s',Rep.ofCall S1 r'⟩⟩) (fun kv s2 hq=>?_) fun _ _ z=>z))
   obtain⟨v',H2,I2,rv2,s2',r2⟩:=hq
   have pk:=I2.pin (kS,_) (Atm _ (Atk ..))
   have hln:=rks.length
   have hln2:=rk.length
   refine⟨ws,e,pk.1,by rw[Atw] at hl;lia,?_⟩
   show wpAny (model X.prog X.w) A' (forIn us PUnit.unit body) _ E _
   rw[show dn++key::ks'=(dn++[key])++ks' by simp]
   refine P0 F hr hA hb S hk hx hne hbd ds rs rus h2 (by rw[At8,Avg];rw[Atw] at hl;lia) ?_
   have ea:(List.toArray ws).push kv=List.toArray (ws++[kv]):=by simp
   obtain⟨c2,hc2⟩:∃ c2,(s2.heap.update kS (Obj.mapSeq (·.push kv))).get? kS=some (seqObj "list" (List.toArray (ws++[kv])) c2):=⟨_,by rw[<- ea];exact get?_update_seq pk.1 (·.push kv)⟩
   refine⟨H2,c2,kvs++[v'],ws++[kv],s1.trans s2',?_,Vals.append rk (.cons rv2 .nil),Reps.append (rks.same s2') (.cons r2 .nil)⟩
   refine Inv.setPin (pre:=[]) I2 hk (fun p hp=>?_) (fun b o hb q=>(Aur _ _ (Avr hb)).trans q) hc2 (fun v z=>by cases z)
   rcases List.mem_append.mp hp with z|z
   ·exact hx p (Aue _ z)
   ·rcases List.mem_cons.mp z with rfl|z
    ·exact hne
    ·exact hx p (Atm _ z)
  ·exact Ac h4
end
def O7 (b:Bool) (ds ks:List D):Option (List D):=if ds.length < 2 then some ds else
 (evO (fun i j=>ltD ((katRev b ks).getD i .non) ((katRev b ks).getD j .non)) (kas_sort ds.length)).bind fun p=>some (katRev b (p.toList.map fun i=>(katRev b ds).getD i .non))
theorem Vals.getN (r:Vals xs us) (i:Nat):RelV (xs.getD i .non) (us.getD i Value.none):=by
 have hl:=r.length
 by_cases h:i < xs.length
 ·obtain⟨u,h1,h2⟩:=r.get (i:=i) (x:=xs[i]) (by simp[h])
  rw[Atx,Atx,h1,Atv h];exact h2
 ·rw[Atx,Atx,Auk (by lia),Auk (by lia)];rfl
theorem Reps.getN {K:W.Frag}{H:Hp}{μ:List Addr}{B:Addr->Prop}{ds:List D}{xs:List V} (r:Reps K H μ B ds xs) (i:Nat):Rep K H μ B (ds.getD i .non) (xs.getD i .non):=by
 have hl:=r.length
 by_cases h:i < ds.length
 ·obtain⟨v,h1,h2⟩:=r.get (i:=i) (d:=ds[i]) (by simp[h])
  rw[Atx,Atx,h1,Atv h];exact h2
 ·rw[Atx,Atx,Auk (by lia),Auk (by lia)];exact .non
theorem Vals.mapN (r:Vals xs us):∀ l:List Nat,Vals (l.map fun i=>xs.getD i .non) (l.map fun i=>us.getD i Value.none)
 |[]=>.nil
 |i::l=>.cons (Vals.getN r i) (Vals.mapN r l)
theorem Reps.mapN {K:W.Frag}{H:Hp}{μ:List Addr}{B:Addr->Prop}{ds:List D}{xs:List V} (r:Reps K H μ B ds xs):∀ l:List Nat,Reps K H μ B (l.map fun i=>ds.getD i .non) (l.map fun i=>xs.getD i .non)
 |[]=>.nil
 |i::l=>.cons (Reps.getN r i) (Reps.mapN r l)
theorem Vals.turn (r:Vals xs us) (b:Bool):Vals (katRev b xs) (katRev b us):=by
 cases b with
 |false=>exact r
 |true=>exact r.reverse
theorem Reps.turn {K:W.Frag}{H:Hp}{μ:List Addr}{B:Addr->Prop}{ds:List D}{xs:List V} (r:Reps K H μ B ds xs) (b:Bool):Reps K H μ B (katRev b ds) (katRev b xs):=by
 cases b with
 |false=>exact r
 |true=>exact r.reverse
theorem Aby {l:List α} (h:x∈katRev b l):x∈l:=by
 cases b with
 |false=>exact h
 |true=>exact List.mem_reverse.mp h
theorem N9:∀ {ds:List D}{d:D},d∈ds->dep d<=D8 ds
 |_::_,_,.head _=>by rw[D8];lia
 |_::_,_,.tail _ h=>by have:=N9 h;rw[D8];lia
section
variable {X:Cx}{pins:List (Addr×Obj)}{σ:St}{H:Hp}{s:Shared}{μ:List Addr}{m:MH}{k:Nat}{f:Addr}{fd:FuncData}{ps:List Str}{fn:List D->Option D}{A':Around}
theorem Pj (I:Inv X pins σ H s) {ks:List D}{kvs:List V}{us:List Value} (rk:Vals kvs us) (rks:Reps X.K H μ (·∈μ) ks kvs) (hI:ks.all Ae0=true) (hn:A7 ks=true) (hd:D8 ks<=20) (hu:A'.units+50 < cLine) (b:Bool) (i j:Nat) (c:Bool) (C:Bool->Shared->Prop)
  (h:ltD ((katRev b ks).getD i .non) ((katRev b ks).getD j .non)=some c) (q:C c s):W.kas_ask X.prog X.w A' (tuples' true) (katRev b us) i j C s:=by
 have key:∀ i,(katRev b ks).getD i .non=.non\/(katRev b ks).getD i .non∈ks:=fun i=>by
  by_cases h:i < (katRev b ks).length
  ·right
   rw[Atx,Atv h]
   exact Aby (Atr h)
  ·left
   rw[Atx,Auk (by lia)];rfl
 have r1:=Reps.getN (Reps.turn rks b) i
 have r2:=Reps.getN (Reps.turn rks b) j
 have v1:=Vals.getN (Vals.turn rk b) i
 have v2:=Vals.getN (Vals.turn rk b) j
 have k1:=key i
 have k2:=key j
 generalize (katRev b ks).getD i .non=x at h r1 k1
 generalize (katRev b ks).getD j .non=y at h r2 k2
 rcases k1 with rfl|k1
 ·simp[ltD] at h
 ·obtain⟨i1,ds,rfl⟩:=Oj (List.all_eq_true.mp hI _ k1)
  rcases k2 with rfl|k2
  ·simp[ltD] at h
  ·obtain⟨i2,es,rfl⟩:=Oj (List.all_eq_true.mp hI _ k2)
   have d1:=N9 k1
   have d2:=N9 k2
   have n1:=Ge hn k1
   have n2:=Ge hn k2
   rw[dep,D8] at d1 d2
   rw[B3,A7,At0] at n1 n2
   rw[ltD] at h
   exact Ae1 I r1 r2 n1.2 n2.2 v1 v2 (by lia) h q
end
end ML
end L2
end S_ML19
section S_ML20
namespace L2
namespace ML
open PySem PySem.Spec PyProof.Rows PySem.SeqAt
open PySem.W (KasT kas_sort katRev KatLex)
section
variable {X:Cx}{pins:List (Addr×Obj)}{σ:St}{H H1:Hp}{s:Shared}{μ:List Addr}{m:MH}{k:Nat}{f:Addr}{fd:FuncData}{ps:List Str}{fn:List D->Option D}{A':Around}{kS D0:Addr}{b:Bool}{e e1:Nat}{P:PySem.Fin->Shared->Prop}{E:Value->Shared->Prop}
theorem Af5 (h:∀ p∈X.pn++pl,p.1≠a) (hc:c≠a):∀ p∈X.pn++((c,o)::pl),p.1≠a:=fun p hp=>by
 rcases List.mem_append.mp hp with z|z
 ·exact h p (Aue _ z)
 ·rcases List.mem_cons.mp z with rfl|z
  ·exact hc
  ·exact h p (Atm _ z)
theorem Gj {st:SortSt}{us outv:List Value} (hout:(arrOf st).map (·.2)=List.toArray outv) (hz:outv.length < 128) (hkz:us.length < 128) (hf:failedOf st=none) (I:Inv X ((kS,seqObj "list" (List.toArray us) e)::(D0,seqObj "list" #[] e1)::pins) σ H1 s)
  (hk:X.s₀.heap.objs.size<=kS) (hD:X.s₀.heap.objs.size<=D0) (hx:∀ p∈X.pn++pins,p.1≠kS) (hy:∀ p∈X.pn++pins,p.1≠D0) (hne:D0≠kS)
  (fin:∀ s' c,Inv X ((D0,seqObj "list" (List.toArray (katRev b outv)) c)::pins) σ H1 s'->P (.done (.ret .none)) s'):wpAny (model X.prog X.w) A' (ksk_tail D0 b e1 (.ref kS) st) P E s:=by
 have pk:=I.pin (kS,seqObj "list" (List.toArray us) e) (Atm _ (Atk ..))
 obtain⟨ck,hck⟩:∃ ck,(s.heap.update kS (Obj.mapSeq fun _=>(#[]:Array Value))).get? kS=some (seqObj "list" #[] ck):=⟨_,get?_update_seq pk.1 fun _=>#[]⟩
 have Ia:=Inv.setPin (pre:=[]) I hk (Af5 hx hne) (fun c o hc q=>(Aur _ _ (Avr hc)).trans q) hck (fun v z=>by cases z)
 have Ib:Inv X ((D0,seqObj "list" #[] e1)::pins) σ H1 { s with heap:=s.heap.update kS (Obj.mapSeq fun _=>(#[]:Array Value)) }:=Ia.pins_of fun p hp=>Ia.pin p (Atm _ (Atn _ hp))
 have pd:=Ib.pin (D0,seqObj "list" #[] e1) (Atm _ (Atk ..))
 obtain⟨c2,hc2⟩:∃ c2,((s.heap.update kS (Obj.mapSeq fun _=>(#[]:Array Value))).update D0 (Obj.mapSeq fun _=>List.toArray (katRev b outv))).get? D0=some (seqObj "list" (List.toArray (katRev b outv)) c2):=⟨_,get?_update_seq pd.1 fun _=>List.toArray (katRev b outv)⟩
 have Ic:=Inv.setPin (pre:=[]) Ib hD hy (fun c o hc q=>(Aur _ _ (Avr hc)).trans q) hc2 (fun v z=>by cases z)
 have hsz:(List.toArray (katRev b outv)).size=outv.length:=by rw[Ats,W.kat_len]
 have hline:sizeLine=16777216:=Ava
 unfold ksk_tail
 try dsimp only
 rw[hout,W.kat_outs]
 refine Atj (listUpdate_at pk.1 rfl (Atj (wpAny_letGo (Atj (seqEpoch_at pd.1 rfl (Atj (listUpdate_at pd.1 rfl ?_ (Aup _) (by rw[hsz];lia))))))) (by rw[Ats];lia) (Aup _))
 rw[hf]
 simp only[bne_self_eq_false,Aum,Avn]
 exact Atu (fin _ c2 Ic)
theorem M0 (i:Int) (t:Tok):W.Looks M h (typeOf (.int i t)) (.type "int"):=W.Looks.of_pure rfl
def Uc (X:Cx) (pins:List (Addr×Obj)) (σ:St) (μ:List Addr) (b:Bool) (ds ks out:List D) (A':Around):Prop :=
 ∀ ⦃kS D0:Addr⦄ ⦃e e1:Nat⦄ ⦃us its:List Value⦄ ⦃xs kvs:List V⦄ ⦃H1:Hp⦄ ⦃s:Shared⦄ ⦃P:PySem.Fin->Shared->Prop⦄ ⦃E:Value->Shared->Prop⦄,Inv X ((kS,seqObj "list" (List.toArray us) e)::(D0,seqObj "list" #[] e1)::pins) σ H1 s->X.s₀.heap.objs.size<=kS->X.s₀.heap.objs.size<=D0->(∀ p∈X.pn++pins,p.1≠kS)->(∀ p∈X.pn++pins,p.1≠D0)->D0≠kS->Vals xs its->Reps X.K H1 μ (·∈μ) ds xs->Vals kvs us->Reps X.K H1 μ (·∈μ) ks kvs ->
  (∀ s' c ys ws,Inv X ((D0,seqObj "list" (List.toArray ws) c)::pins) σ H1 s'->Vals ys ws->Reps X.K H1 μ (·∈μ) out ys->P (.done (.ret .none)) s')->wpAny (model X.prog X.w) A' (ksk_end D0 b its.toArray e1 (.ref kS) (List.toArray us)) P E s
theorem Uy {ds ks out:List D} (hl:ks.length=ds.length) (h64:ds.length < 64) (hI:ks.all Ae0=true) (hn:A7 ks=true) (hd:D8 ks<=20) (hu:A'.units+50 < cLine) (ho:O7 b ds ks=some out):Uc X pins σ μ b ds ks out A':=by
 intro kS D0 e e1 us its xs kvs H1 s P E I hk hD hx hy hne ri rs rk rks fin
 have l1:=ri.length
 have l2:=rs.length
 have l3:=rk.length
 have l4:=rks.length
 have lu:us.length=its.length:=by lia
 have told:∀ t:Sem PySem.Fin,wpAny (model X.prog X.w) A' t P E s->wpAny (model X.prog X.w) A' (if b=true then (do let _ <- rule "list.sort.reverse";t) else t) P E s:=fun t ht=>by
  split
  ·exact Atj (wpAny_rule ht)
  ·exact ht
 unfold ksk_end
 try dsimp only
 refine told _ ?_
 unfold O7 at ho
 by_cases h2:its.toArray.size < 2
 ·rw[Atq h2,Atq h2]
  rw[Ats] at h2
  rw[Atq (by lia)] at ho
  cases ho
  refine Atj (Atu ?_)
  rw[StateT.run_pure]
  refine Atj (Atu ?_)
  try dsimp only
  rw[W.kat_pairs b lu]
  refine Gj (outv:=katRev b its) (b:=b) ?_ (by rw[W.kat_len];lia) (by lia) rfl I hk hD hx hy hne fun s' c I'=>fin s' c xs its ?_ ri rs
  ·show (((List.toArray (katRev b us)).zip (List.toArray (katRev b its))).map (·.2))=_
   apply Array.toList_inj.mp
   rw[Array.toList_map,ksk_zip]
   exact List.map_snd_zip (by rw[W.kat_len,W.kat_len];lia)
  ·have e2:katRev b (katRev b its)=its:=by cases b<;>simp[katRev]
   rw[e2] at I'
   exact I'
 ·rw[Atl h2,Atl h2]
  rw[Ats] at h2
  rw[Atl (by lia)] at ho
  obtain⟨p,hp,ho⟩:=bind_some ho
  cases ho
  obtain⟨fs,ht,hfl,hfi⟩:=Hn I rks rk hI
  refine Atj (W.kat_kind (T:=.type "int") ht (by lia) (fun v hv=>?_) (by decide) ?_)
  ·obtain⟨i,t,rfl⟩:=hfi v hv
   exact M0 i t
  rw[W.kat_pairs b lu]
  have lr:(katRev b us).length=(katRev b its).length:=by rw[W.kat_len,W.kat_len,lu]
  have hw:(kas_sort (katRev b its).length).kasWp (W.kas_ask X.prog X.w A' (tuples' true) (katRev b us)) (fun p' s'=>p'=p/\s'=s) s:=by
   rw[W.kat_len,show its.length=ds.length by lia]
   exact Acb (fun i j c C h q=>Pj I rk rks hI hn hd hu b i j c C h q) _ hp ⟨rfl,rfl⟩
  refine Atj (Auq (W.kat_run (Q:=fun st' s'=>s'=s/\p.size=(katRev b its).length/\arrOf st'=p.map (W.kas_item ((List.toArray (katRev b us)).zip (List.toArray (katRev b its))))/\failedOf st'=none) lr (by rw[W.kat_len];lia) (by rw[W.kat_len];lia)
   (fun p' st' s' a1 a2 a3 ⟨a4,a5⟩=>by subst a4;exact⟨a5,a1,a2,a3⟩) hw) ?_ fun _ _ z=>z)
  rintro ⟨⟨⟩,st'⟩ s' ⟨hs,hpz,har,hf⟩
  replace hs:s'=s:=hs
  subst hs
  try dsimp only
  refine Gj (b:=b) (W.kat_snds lr har) (by rw[At1,Avc,hpz,W.kat_len];lia) (by lia) hf I hk hD hx hy hne fun s' c I'=>fin s' c (katRev b (p.toList.map fun i=>(katRev b xs).getD i .non)) _ I' ?_ ?_
  ·exact Vals.turn (Vals.mapN (Vals.turn ri b) _) b
  ·exact Reps.turn (Reps.mapN (Reps.turn rs b) _) b
theorem Tz {ds ks out:List D} (F:FnOk X.prog X.w X.K X.mg X.base CX0 k f fd ps (spP X.K 1 fn)) (hr:Room k A') (hA:∀ s H,Env0 X.prog X.w X.K X.mg X.base X.A X.stack s H->Env0 X.prog X.w X.K X.mg X.base A' X.stack s H) (hb:Binds X.K fd ps []) (I:Inv X ((D0,seqObj "list" its.toArray n)::pins) σ H s) (S:Sim X.K H μ m) (hD:X.s₀.heap.objs.size<=D0) (hy:∀ p∈X.pn++pins,p.1≠D0) (ri:Vals xs its) (rs:Reps X.K H μ (·∈μ) ds xs) (hK:Lj fn m ds=some ks) (h64:ds.length < 128) (hE:Uc X pins σ μ b ds ks out A') (fin:∀ s' H1 c ys ws,Same H H1->Inv X ((D0,seqObj "list" (List.toArray ws) c)::pins) σ H1 s'->Vals ys ws->Reps X.K H1 μ (·∈μ) out ys->P (.done (.ret .none)) s'):wpAny (model X.prog X.w) A' (ksk_tree D0 (.ref f) b) P E s:=by
 have l1:=ri.length
 have l2:=rs.length
 have hline:sizeLine=16777216:=Ava
 have pd:=I.pin (D0,seqObj "list" its.toArray n) (Atm _ (Atk ..))
 have hd0:s.heap.get? D0=some (seqObj "list" its.toArray n):=pd.1
 have hdl:D0 < s.heap.objs.size:=Aty hd0
 obtain⟨e1,ho1⟩:∃ e1,(s.heap.update D0 (Obj.mapSeq fun _=>(#[]:Array Value))).get? D0=some (seqObj "list" #[] e1):=⟨_,get?_update_seq hd0 fun _=>#[]⟩
 have Ia:=Inv.setPin (pre:=[]) I hD hy (fun c o hc q=>(Aur _ _ (Avr hc)).trans q) ho1 (fun v z=>by cases z)
 have hs2:s.heap.objs.size<=((s.heap.update D0 (Obj.mapSeq fun _=>(#[]:Array Value))).push (seqObj "tuple" its.toArray 0)).objs.size:=by rw[size_push',Heap.size_update];exact Nat.le_succ _
 generalize hkS:((s.heap.update D0 (Obj.mapSeq fun _=>(#[]:Array Value))).push (seqObj "tuple" its.toArray 0)).objs.size=kS at hs2
 have Ib:=Ia.kept (t':=s.toks) (h':=((s.heap.update D0 (Obj.mapSeq fun _=>(#[]:Array Value))).push (seqObj "tuple" its.toArray 0)).push (seqObj "list" #[] 0)) fun c o q=>Ato _ (Ato _ q)
 have hx:∀ p∈X.pn++pins,p.1≠kS:=fun p hp=>At7 (At2 (Aty (I.pin p ((List.mem_append.mp hp).elim (fun z=>Aue _ z) fun z=>Atm _ (Atn _ z))).1) hs2)
 have hne:D0≠kS:=At7 (At2 hdl hs2)
 have hk:X.s₀.heap.objs.size<=kS:=Auf I.sz hs2
 have hgk:(((s.heap.update D0 (Obj.mapSeq fun _=>(#[]:Array Value))).push (seqObj "tuple" its.toArray 0)).push (seqObj "list" #[] 0)).get? kS=some (seqObj "list" #[] 0):=by rw[<- hkS];exact At3 _ rfl
 have Ic:Inv X ((kS,seqObj "list" (List.toArray []) 0)::(D0,seqObj "list" #[] e1)::pins) σ H { s with heap:=((s.heap.update D0 (Obj.mapSeq fun _=>(#[]:Array Value))).push (seqObj "tuple" its.toArray 0)).push (seqObj "list" #[] 0) }:=Ib.pins_of fun p hp=>by
  rcases List.mem_cons.mp hp with rfl|hp
  ·exact⟨hgk,I.hok.fresh hs2,Av4 (At2 I.lt hs2),I.nofs hs2,fun v z=>by cases z⟩
  ·exact Ib.pin p (Atm _ hp)
 unfold ksk_tree
 refine Atj (listItems_at hd0 rfl (Atj (listUpdate_at hd0 rfl (Atj (seqEpoch_at ho1 rfl (Atj (wpAny_newTuple (Atj (wpAny_newList (Avq ?_) (Aup _))) (by show its.length<=_;lia))))) (by rw[Ats];lia) (Aup _))))
 show wpAny (model X.prog X.w) A' (ksk_rest D0 (.ref f) b its.toArray e1 (.ref ((s.heap.update D0 (Obj.mapSeq fun _=>(#[]:Array Value))).push (seqObj "tuple" its.toArray 0)).objs.size)) P E { s with heap:=((s.heap.update D0 (Obj.mapSeq fun _=>(#[]:Array Value))).push (seqObj "tuple" its.toArray 0)).push (seqObj "list" #[] 0) }
 rw[hkS]
 unfold ksk_rest
 refine Atj (wpAny_rule ?_)
 first
  |rw[List.forIn_toArray]
  |rw[<- Array.forIn_toList]
 refine Atj (Auq (P0 (dn:=[]) F hr hA hb S hk hx hne (fun x s R hq=>?_) ds rs ri hK (by simpa using h64) ⟨H,0,[],[],Same.refl H,Ic,.nil,.nil⟩) (fun _ s' hq=>?_) fun _ _ z=>z)
 ·refine Atj (wpAny_attempt (Auq hq (fun kv s1 hkv=>?_) fun _ _ hF=>hF.elim))
  obtain⟨us,e,hu,hl,hR⟩:=hkv
  try dsimp only
  exact Atj (listUpdate_at hu rfl (Atu hR) (by rw[Ats];lia) (by rw[Array.size_push,Ats];lia))
 ·obtain⟨H1,e,kvs,us,s1,I3,rk,rks⟩:=hq
  rw[Au9] at rks
  have pk:=I3.pin (kS,seqObj "list" (List.toArray us) e) (Atm _ (Atk ..))
  try dsimp only
  refine Atj (listItems_at pk.1 rfl ?_)
  exact hE I3 hk hD hx hy hne ri (rs.same s1) rk rks fun s' c ys ws I' r1 r2=>fin s' H1 c ys ws s1 I' r1 r2
end
section
variable {X:Cx}{e:Expr}{pos p p' kp kp' cp:Pos}{x:Str}{k:Nat}{f:Addr}{fd:FuncData}{ps:List Str}{fn:List D->Option D}{b:Bool}
end
end ML
end L2
end S_ML20
section S_ML21
namespace L2
namespace ML
open PySem PySem.Spec PyProof.Rows
open PySem.Builtin PySem.Builtin.Str
section
variable {X:Cx}{a e:Expr}{apos cpos:Pos}
end
end ML
end L2
end S_ML21
section S_ML22
namespace L2
namespace ML
open PySem PySem.Spec PyProof.Rows
section
variable {X:Cx}{a e:Expr}{apos cpos:Pos}
end
section
variable {X:Cx}{e:Expr}{pos p p' kp p2 p3 p4:Pos}{x:Str}{k:Nat}{f:Addr}{fd:FuncData}{ps:List Str}{fn:List D->Option D}
end
def Iq (mg:Str->Option Value) (h:Heap):Prop:=∃ bm ob,mg "__builtins__"=some (.ref bm)/\bm≠builtinsNs/\h.get? bm=some ob/\ob.cls=.type "module"/\ob.dict=some builtinsNs/\ob.data=.plain
def TabQ (H:Hp) (P:Addr) (q:Str):Prop:=∃ more:Array Value,H P=some (.tbl (#[Value.str q 0]++more))
theorem TabQ.on {H:Hp}{s:Shared} (I:Inv X pins σ H s) (h:TabQ X.H₀ P q):TabQ H P q:=by
 obtain⟨more,e⟩:=h
 obtain⟨m2,e2⟩:=I.base.tbls P _ e
 exact⟨more++m2,by rw[e2,Array.append_assoc]⟩
theorem TabQ.tag:(#[Value.str q 0]++more)[0]?=some (Value.str q 0):=by rw[Array.getElem?_append_left (by simp)];rfl
abbrev Yo:HO:=.ext fun _=>True
theorem Rz {p pos:Pos} (l:List Value) (h:TriplesOk l) (e:codeAmong p (l++[rawInt pos.line,rawInt pos.col,c])=some cv):codeAmong p l=some cv\/cv=c:=by
 fun_induction TriplesOk l with
 |case1 =>
  simp only[Au9,codeAmong,rawInt] at e
  split at e
  ·cases e;exact .inr rfl
  ·exact Ac e
 |case2 a t b u x rest ih =>
  simp only[Avo,codeAmong] at e ⊢
  split at e
  ·rename_i hc;rw[Atq hc];exact .inl e
  ·rename_i hc;rw[Atl hc];exact ih h e
 |case3 l h1 h2=>exact h.elim
section
variable {X:Cx}{pins:List (Addr×Obj)}{σ:St}{H:Hp}{s:Shared}{pos:Pos}
theorem Oq {P:Program}{w:World}{K:W.Frag}{H:Hp}{h:Heap}{a:Addr}{o:Obj} (e:h.get? a=some o):ObjOk P w K H h a (.frz o Yo):=⟨e,trivial,⟨o,e⟩,fun _ _ _ _=>trivial⟩
noncomputable def Ata (l:Lam):TE:=fun _ H Q=>∀ a H',Same H H'->FnAt H' a l->Q (.ref a) H'
theorem Al5 {args:Arguments}{body:Expr}{scope:Scope}{c P:Addr}{l:Lam} (hB:Iq X.mg X.base) (hT:TabQ X.H₀ P l.qual) (hcode:X.env.code=.ref c) (hC:W.codeHdIn X.K c P=true)
  (hcl:closureFor scope X.env=pure []) (hdef:defaultsOf args X.env=([],[])) (hl:l=⟨X.env.qual++"<lambda>",args,body,scope⟩):PE X (.Lambda args body scope pos) (Ata l):=by
 intro pins s σ H Q I h
 obtain⟨more,eP⟩:=TabQ.on I hT
 obtain⟨ps,hP,ht,hc⟩:=I.hok P _ eP
 have C:W.CodeHd s.heap c P:=(W.codeHd_of_K I.ok.mod.kin hC).keeps I.bk
 have hg:s.heap.Ns mainGlobals X.mg:=I.mod.glob.keeps I.bk
 obtain⟨bm,ob,b1,b2,b3,b4,b5,b6⟩:=hB
 have hgP:mainGlobals≠P:=fun q=>by
  obtain⟨o,es,ep,e,hd,_⟩:=hg
  rw[q,hP] at e;cases e;cases hd
 have hbP:bm≠P:=fun q=>by
  have e:=I.bk _ _ b3
  rw[q,hP] at e;cases e;cases b4
 have hbG:bm≠mainGlobals:=fun q=>by
  obtain⟨o,es,ep,e,hd,_⟩:=I.mod.glob
  rw[q,e] at b3;cases b3;rw[hd] at b6;cases b6
 have hbA:s.heap.BuiltinsAt X.mg P:=⟨bm,ob,b1,b2,hbG,hbP,I.bk _ _ b3,b4,b5,b6⟩
 have hnP:∀ b,H b=none->b≠P:=fun b n z=>by rw[z,eP] at n;cases n
 refine W.kla_eval hdef ?_
 cases q:codeAmong pos ps.toList with
 |some cv =>
  obtain⟨c0,oc,u,q0,t0,h1,rfl,h3,h4⟩:=hc pos cv q
  rw[TabQ.tag] at h1
  cases h1
  refine W.kla_makeFunctionHit hcl I.ok.glob hg hcode C hP ht q hbA fun ctv h' tk hk hsz=>?_
  have hf:H h'.objs.size=none:=I.hok.fresh hsz
  refine⟨.ref h'.objs.size,upd H h'.objs.size (.frz (W.kla_obj "<lambda>" (X.env.qual++"<lambda>") args body scope [] ((X.mg "__name__").getD .none) c0 ctv) Yo),I.laid (fun b u e=>Ato _ (hk b u e)) hsz (Oq (At3 _ rfl)),rfl,h _ _ (A4 hf) ?_⟩
  refine⟨_,_,c0,oc,u,As,⟨.none,(X.mg "__name__").getD .none,ctv,by rw[hl]⟩,by rw[An (Ao h3 hf)];exact h3,h4⟩
 |none =>
  refine W.kla_makeFunction hcl I.ok.glob hg hcode C hP ht q hgP hbA fun c' ctv h' tk hx hge hlt hrec htb=>?_
  obtain⟨c2,oc,vs,t,e2,hoc,hd,hv⟩:=hrec
  cases e2
  have hfc:H c'=none:=I.hok.fresh hge
  have hff:H h'.objs.size=none:=I.hok.fresh (Auf hge (Ave hlt))
  have hne:c'≠h'.objs.size:=At7 hlt
  have hPc:P≠c':=fun z=>by rw[<- z,eP] at hfc;cases hfc
  have hPf:P≠h'.objs.size:=fun z=>by rw[<- z,eP] at hff;cases hff
  have same:∀ b o,H b=some o->upd (upd H c' (.frz oc Yo)) h'.objs.size (.frz (W.kla_obj "<lambda>" (X.env.qual++"<lambda>") args body scope [] ((X.mg "__name__").getD .none) c' ctv) Yo) b=some o:=fun b o e=>by
   rw[An (Ao e hff),An (Ao e hfc)];exact e
  have hnm:Ub oc l.qual:=⟨vs,t,hd,by rw[hl];exact hv⟩
  have hcc:upd (upd H c' (.frz oc Yo)) h'.objs.size (.frz (W.kla_obj "<lambda>" (X.env.qual++"<lambda>") args body scope [] ((X.mg "__name__").getD .none) c' ctv) Yo) c'=some (.frz oc Yo):=by rw[An hne,As]
  refine⟨.ref h'.objs.size,upd (upd H c' (.frz oc Yo)) h'.objs.size (.frz (W.kla_obj "<lambda>" (X.env.qual++"<lambda>") args body scope [] ((X.mg "__name__").getD .none) c' ctv) Yo),I.un ⟨?_,?_,?_,?_,?_,?_,?_⟩ ?_,rfl,h _ _ same ?_⟩
  ·exact fun b o e n _ _=>Ato _ (hx b o (hnP b n) e)
  ·exact fun b o e n _ _=>⟨o.slots,Ato _ (hx b o (hnP b n) e)⟩
  ·intro b o e n _
   have hb:=Aty e
   rw[An (At7 (At2 hb (Auf hge (Ave hlt)))),An (At7 (At2 hb hge))]
   exact n
  ·intro b o e _
   by_cases z:b=P
   ·subst z;exact⟨_,Ato _ htb⟩
   ·exact⟨o,Ato _ (hx b o z e)⟩
  ·exact fun b xs e=>same b _ e
  ·exact fun b o u e=>same b _ e
  ·exact fun b qs e=>⟨#[],by rw[same b _ e];simp⟩
  ·intro b u e
   by_cases z1:b=h'.objs.size
   ·subst z1
    rw[As] at e
    cases e
    exact Oq (At3 _ rfl)
   ·rw[An z1] at e
    by_cases z2:b=c'
    ·subst z2
     rw[As] at e
     cases e
     exact Oq (Ato _ hoc)
    ·rw[An z2] at e
     by_cases z3:b=P
     ·subst z3
      rw[eP] at e
      cases e
      refine⟨_,Ato _ htb,by rw[Array.toList_append];exact TriplesOk_snoc _ _ _ _ ht,fun pos' cv z=>?_⟩
      rw[Array.toList_append] at z
      rcases Rz _ ht z with z|rfl
      ·obtain⟨c0,oc0,u0,q0,t0,h1,h2,h3,h4⟩:=hc pos' cv z
       exact⟨c0,oc0,u0,q0,t0,h1,h2,same _ _ h3,h4⟩
      ·exact⟨c',oc,Yo,l.qual,0,TabQ.tag,rfl,hcc,hnm⟩
     ·refine (I.hok b u e).stay (fun d v hd q=>?_) (fun d q=>same _ _ q) (fun d xs q=>?_) fun d x w q=>same _ _ q
      ·refine Ato _ (hx d v (fun w=>?_) q)
       rcases hd with hd|hd
       ·exact z3 (hd.symm.trans w)
       ·rw[w,eP] at hd;cases hd
      ·rcases q with q|⟨o,q⟩
       ·exact .inl (same _ _ q)
       ·exact .inr ⟨o,same _ _ q⟩
  ·exact⟨_,_,c',oc,Yo,As,⟨.none,(X.mg "__name__").getD .none,ctv,by rw[hl]⟩,hcc,hnm⟩
theorem Alx {l:Lam} (i:Nat) (hB:Iq X.mg X.base) (hT:TabQ X.H₀ P l.qual) (hcode:X.env.code=.ref c) (hC:W.codeHdIn X.K c P=true) (hcl:closureFor scope X.env=pure []) (hdef:defaultsOf args X.env=([],[])) (hl:l=⟨X.env.qual++"<lambda>",args,body,scope⟩) (hi:i < 1000):PD X (.Lambda args body scope pos) (fC (.fn i l)) :=
 PE.imp (Al5 hB hT hcode hC hcl hdef hl) fun σ H Q ⟨env,μ,m,d,S,E,h,q⟩=>by
  cases h
  exact fun a H' s f=>q _ _ s (.fn (.inl ⟨hi,f⟩))
end
noncomputable def fnE (f:FE):List D->Option D:=fun ds=>(f (ds.map some) []).bind fun d=>if A8 d=true then some d else none
def L9 (P:Program) (w:World) (K:W.Frag) (mg:Str->Option Value) (base:Heap) (k n:Nat) (l:Lam) (fn:List D->Option D):Prop :=
 ∀ (a:Addr) (A:Around) (outer:List Env) (s:Shared) (H:Hp) (us:List Value) (vs:List V) (Q:VK),Room k A->Env0 P w K mg base A outer s H->FnAt H a l->Vals vs us->spP K n fn vs H Q E0 ->
  codeAny (model P w) A (.call (.ref a) ⟨us,[]⟩) (CR CX0 outer P w K H s Q E0) s
theorem Ae3 {P:Program}{w:World}{K:W.Frag}{mg:Str->Option Value}{base:Heap}{l:Lam}{N:List Str}{k n:Nat}{f:FE} (S:FnScope N N l.scope) (hn:N.length=n)
  (hb:∀ (doc pm ctv:Value) (c:Addr) (us:List Value),us.length=N.length->bindArgs (W.kdv_fn "<lambda>" l.qual l.args (.expr l.body) l.scope [] .none doc pm (.ref c) ctv) ⟨us,[]⟩=pure (N.zip us))
  (hbody:∀ (c a:Addr) (A:Around) (outer:List Env) (s:Shared) (H:Hp),Room k (A.deeper (envOfC l.qual l.scope s.heap.objs.size a (.ref c)))->PD (N7 CX0 P w K mg base N l.qual l.scope a (.ref c) A outer s H E0).nox l.body f) :
  L9 P w K mg base (k+1) n l (fnE f):=by
 intro a A outer s H us vs Q hr e0 hf r h
 obtain⟨o,u,c,oc,u',h1,⟨doc,pm,ctv,rfl⟩,h3,⟨vs',t,hd,hv⟩⟩:=hf
 obtain⟨ho,_⟩:=e0.hok a _ h1
 obtain⟨hoc,_⟩:=e0.hok c _ h3
 obtain⟨ds,d,rs,hl,hfn,q⟩:=h
 have hlv:vs.length=N.length:=by rw[<- rs.length,hl,hn]
 have lim:s.heap.NoLimit:=e0.mod.nolimit.keeps fun b o e=>(e0.bs b o e).1
 have hkind:∀ y∈N.zip us,l.scope.names.lookup y.1=some .local\/(l.scope.names.lookup y.1=some .cell/\((cellsFrom (s.heap.objs.size+1) l.scope.names []).lookup y.1).isSome=true):=fun⟨n,v⟩ hy=>by
  rcases S.par n (Awj hy).1 with q|q
  ·exact .inl q
  ·exact .inr ⟨q,W.cellsFrom_some _ _ _ (.inl q)⟩
 refine W.kla_callFunE hr.depth ho rfl S.co S.gen rfl ⟨c,oc,vs',t,rfl,hoc,hd,hv⟩ ?_
 refine wpAny_of_eq (hb doc pm ctv c us (by rw[<- r.length];exact hlv)) ?_
 refine wpAny_newFunctionEnv_cells S.kind hkind fun env he s1 x=>?_
 subst he
 refine⟨lim.keeps x.toInCall.keep,W.kla_codeExpr ?_⟩
 have I:Inv (N7 CX0 P w K mg base N l.qual l.scope a (.ref c) A outer s H E0) [] (E2 N vs) H s1:=Mw S hr.hd e0 hlv r x
 obtain⟨d',hd',hfn⟩:=bind_some hfn
 split at hfn
 ·rename_i hno
  cases hfn
  have S0:Sim K H [] []:=⟨List.nodup_nil,rfl,fun n a o h=>by simp at h⟩
  have hE:EnvRep K H [] (E2 N vs) (ds.map some):=by
   have:=Dr (N:=N) rs
   rw[show N.length - ds.length=0 by rw[hl,hn];lia,List.replicate_zero,At6] at this
   exact this
  refine Auq (PE.nox (hbody c a A outer s H (hr.deeper _)) [] s1 (E2 N vs) H Q I ⟨ds.map some,[],[],d,S0,hE,hd',fun v H' s' r=>q v H' s' (r.nolst hno)⟩) (fun u s' hs=>?_) fun e s' hs=>hs
  obtain⟨v,H',J,rv,q⟩:=hs
  exact⟨v,H',J.os,J.bare,J.base,J.hok,rv,q⟩
 ·cases hfn
section
variable {X:Cx}{e:Expr}{es:List Expr}{pos p:Pos}{x:Str}
open Classical in
noncomputable def Mm (T:List (Lam×(List D->Option D))) (n:Nat) (f:FE) (g:FL):FE:=fun env m=>(f env m).bind fun d=>(g env m).bind fun ds=>(B6 m ds).bind fun ds'=>match d with
 |.fn j l=>(T[j]?).bind fun p=>if l=p.1/\ds'.length=n then p.2 ds' else none
 |_=>none
theorem Aak {T:List (Lam×(List D->Option D))} (hT:∀ p∈T,L9 X.prog X.w X.K X.mg X.base k n p.1 p.2) (hr:Room k X.A) (hN:X.N[i]?=some x) (hv:Vis X.env.scope x) (ha:PL X (e::es) g) (hd:(x == ("__debug__":Str))=false) (hcd:(x == ("__classdict__":Str))=false) (he:starEach (e::es) X.env=(false,eval e X.env)::starEach es X.env) (hpl:(backTo pos (starEach es X.env)).any (·.1)=false) (hTl:T.length<=1000) :
  PD X (.Call (.Name x p) (e::es) [] pos) (Mm T n (Ad i) g):=by
 intro pins s σ H Q I ⟨env,μ,m,d,S,E,h,q⟩
 obtain⟨d0,h1,h⟩:=bind_some h
 obtain⟨ds,h2,h⟩:=bind_some h
 obtain⟨ds',h3,h⟩:=bind_some h
 cases d0 with
 |fn j l =>
  obtain⟨pr,h4,h7⟩:=bind_some h
  clear h
  split at h7
  ·rename_i hc
   obtain⟨rfl,hn⟩:=hc
   unfold Ad at h1
   obtain⟨o,h5,h6⟩:=bind_some h1
   have h6:o=some (.fn j pr.1):=h6
   subst h6
   obtain⟨v,ev,rv⟩:=E.get i _ h5
   cases rv with
   |@fn _ _ a hf =>
    have hj:j < T.length:=by
     rcases Nat.lt_or_ge j T.length with z|z
     ·exact z
     ·rw[Auk z] at h4;exact Ac h4
    replace hf:FnAt H a pr.1:=hf.elim (fun z=>z.2) fun z=>absurd z.1 (by lia)
    refine Auu (thn ((Acz hN hv hd hcd) pins s σ H (fun v' H'=>v'=.ref a/\H'=H) I ⟨_,ev,rfl,rfl⟩) fun u s1 ⟨v1,H1,I1,r1,e1,e2⟩=>?_)
    subst e1;subst e2
    obtain rfl:u=Value.ref a:=r1
    have fat:∀ {H:Hp}{s:Shared},HOk X.prog X.w X.K H s.heap->FnAt H a pr.1->W.FnAt a s.heap:=fun hk hf=>by
     obtain⟨o,u,c,oc,u',h1,⟨doc,pm,ctv,rfl⟩,_⟩:=hf
     exact⟨_,_,_,_,(hk a _ h1).1⟩
    refine W.callWith_F (fat I1.hok hf) (thn (ha pos pins s1 σ H1 _ I1 ⟨env,μ,m,ds,S,E,h2,fun vs H2 s2 rs=>(⟨s2,rs⟩:Same H1 H2/\Reps X.K H2 μ (·∈μ) ds vs)⟩) fun us s2 ⟨vs,H2,I2,r,s12,rs⟩=>⟨fat I2.hok (hf.up fun b o _ z=>s12 b o z),?_⟩) he hpl
    refine wpAny_call (codeAny_mono (hT pr (Aui h4) a X.A X.stack s2 H2 us vs Q hr I2.env0 (hf.up fun b o _ z=>s12 b o z) r
     ⟨ds',d,B7 (S.same s12) rs h3,hn,h7,fun v H' s' r=>q v H' (s12.trans s') (Rep.ofCall (S.same s12) r)⟩) fun r s' hq=>?_)
    cases r with
    |error e=>exact hq.elim
    |ok fl =>
     cases fl with
     |ret u=>exact I2.after hq
     |next=>exact False.elim hq
     |brk=>exact False.elim hq
     |cont=>exact False.elim hq
  ·exact Ac h7
 |_=>exact Ac h
end
def TabsH (tabs:List (Addr×Str)) (H:Hp):Prop:=∀ q∈tabs,TabQ H q.1 q.2
theorem TabsH.on {H:Hp}{s:Shared} (I:Inv X pins σ H s) {tabs:List (Addr×Str)} (h:TabsH tabs X.H₀):TabsH tabs H:=fun q hq=>TabQ.on I (h q hq)
noncomputable def spT (tabs:List (Addr×Str)) (K:W.Frag) (n:Nat) (fn:List D->Option D):Sp:=fun vs H Q E=>TabsH tabs H/\spP K n fn vs H Q E
theorem Zo {P:Program}{w:World}{K:W.Frag}{mg:Str->Option Value}{base:Heap}{x qual:Str}{st:Stmt}{f:Addr}{fd:FuncData}{N ps:List Str}{k:Nat}{tabs:List (Addr×Str)}{g:FS} (F:Fun K x qual st f fd) (S:FnScope N ps (Am st))
  (hbody:∀ (A:Around) (outer:List Env) (s:Shared) (H:Hp) (E:XK),TabsH tabs H->Room k (A.deeper (envOfC qual (Am st) s.heap.objs.size f fd.code)) ->
   Ue (N7 CX0 P w K mg base N qual (Am st) f fd.code A outer s H E).nox (Bi st) g):FnOk P w K mg base CX0 (k+1) f fd ps (spT tabs K ps.length (Ef N.length g)):=by
 obtain⟨oc,od,kV,doc,pm,an,cdv,ct,osl,rfl,lk,hcd⟩:=F.ex
 refine Aj2 lk hcd S (fun vs H Q E h=>?_) fun A outer s H vs Q E hr h=>?_
 ·obtain⟨_,ds,d,r,hl,_⟩:=h
  rw[<- r.length];exact hl
 ·obtain⟨hT,ds,d,r,hl,h,q⟩:=h
  refine⟨_,(hbody A outer s H E hT hr).nox,?_⟩
  obtain⟨o,h1,h2⟩:=bind_some h
  have S0:Sim K H [] []:=⟨List.nodup_nil,rfl,fun n a o h=>by simp at h⟩
  refine⟨_,[],[],o,S0,Dr r,h1,?_⟩
  have fin:∀ {H':Hp}{μ':List Addr}{m':MH},Step H [] H' μ'->Sim K H' μ' m'->Same H H'/\∀ a∈μ',old H H' a->False:=fun {H' μ' m'} st S'=>by
   obtain⟨l,e,hl⟩:=st.pre
   refine⟨fun b o e=>st.keep b o e (by simp),fun a ha z=>?_⟩
   rcases z with hne|⟨o,u,z⟩
   ·rw[e] at ha
    exact hne (hl a (by simpa using ha))
   ·obtain⟨xs,e',l⟩:=S'.trk ha
    rw[e'] at z
    cases z
    exact l
  cases o with
  |rt d' m'=>exact fun v H' μ' st S' r'=>q v H' (fin st S').1 (Ii S' (fin st S').2 r' h2)
  |nx env m'=>cases h2;exact fun σ' H' μ' st S' E'=>q _ H' (fin st S').1 .non
  |bk _ _=>exact Ac h2
  |ct _ _=>exact Ac h2
section
variable {X:Cx}{e:Expr}{es:List Expr}{pos p:Pos}{x:Str}
theorem Aam {fd:FuncData}{tabs:List (Addr×Str)}{t:TA} (F:FnOk X.prog X.w X.K X.mg X.base CX0 k f fd ps (spT tabs X.K n fn)) (hT:TabsH tabs X.H₀) (hr:Room k X.A) (hg:Gl X x) (hm:X.mg x=some (.ref f)) (hk:W.keepIn X.K (.ref f)=true) (hb:Binds X.K fd ps []) (ha:PA X (e::es) t) (hdb:(x == ("__debug__":Str))=false) (he:starEach (e::es) X.env=(false,eval e X.env)::starEach es X.env) (hpl:(backTo pos (starEach es X.env)).any (·.1)=false) :
  PE X (.Call (.Name x p) (e::es) [] pos) (Abw (spP X.K n fn) [] E0 t):=by
 intro pins s σ H Q I h
 refine Auu (Om I hg hm ?_ hdb)
 refine W.callWith_K (h₀:=X.base) I.ok.mod.kin hk (thn (ha pos pins s σ H _ I h) fun us s1 ⟨vs,H1,I1,r,q⟩=>⟨I1.kIn,?_⟩) he hpl
 exact Ac8 F hr hb .nil Aaj I1 r ⟨TabsH.on I1 hT,q⟩
def Ahv (m:MH):D->Option D
 |.fn i l=>some (.fn i l)
 |d=>C8 m d
def Cd (m:MH):List D->Option (List D)
 |[]=>some []
 |d::ds=>(Ahv m d).bind fun d'=>(Cd m ds).bind fun ds'=>some (d'::ds')
theorem Yx {K:W.Frag}{H:Hp}{μ:List Addr}{m:MH} (S:Sim K H μ m) {d d':D}{v:V} (r:Rep K H μ (·∈μ) d v) (h:Ahv m d=some d'):Rep K H [] (fun _=>False) d' v:=by
 cases r with
 |fn hf=>cases h;exact .fn hf
 |non=>exact (Bk S .non h).1
 |bl b=>exact (Bk S (.bl b) h).1
 |int b=>exact (Bk S (.int b) h).1
 |str b ok=>exact (Bk S (.str b ok) h).1
 |tup h1 h2=>exact (Bk S (.tup h1 h2) h).1
 |lst h1 h2 h3=>exact (Bk S (.lst h1 h2 h3) h).1
 |kl h1 h2=>exact (Bk S (.kl h1 h2) h).1
 |dic h1 h2 h3 h4=>exact (Bk S (.dic h1 h2 h3 h4) h).1
 |ref h1=>exact (Bk S (.ref h1) h).1
theorem Gu {K:W.Frag}{H:Hp}{μ:List Addr}{m:MH} (S:Sim K H μ m):∀ {ds ds':List D}{vs:List V},Reps K H μ (·∈μ) ds vs->Cd m ds=some ds'->Reps K H [] (fun _=>False) ds' vs
 |_,_,_,.nil,h=>by cases h;exact .nil
 |_,_,_,.cons r rs,h=>by
  unfold Cd at h
  obtain⟨d',h1,h⟩:=bind_some h
  obtain⟨ds',h2,h⟩:=bind_some h
  cases h
  exact .cons (Yx S r h1) (Gu S rs h2)
def Ep (n:Nat) (fn:List D->Option D):List D->MH->Option D:=fun ds m=>(Cd m ds).bind fun ds'=>if ds'.length=n then fn ds' else none
variable {ex:Expr}{n:Nat}{fn:List D->Option D}{g:FL}{E:XK}
theorem To (hp:PE X ex (Abw (spP X.K n fn) [] E (tL X.K g))):PD X ex (Ay (Ei n fn) g):=PE.imp hp fun σ H Q ⟨env,μ,m,d,S,E,h,q⟩=>by
 obtain⟨ds,h1,h⟩:=bind_some h
 obtain⟨ds',h2,h⟩:=bind_some h
 split at h
 ·rename_i hl
  exact⟨env,μ,m,ds,S,E,h1,fun vs H1 s1 rs=>⟨ds',d,by rw[At6];exact B7 (S.same s1) rs h2,hl,h,fun v H' s' r=>q v H' (s1.trans s') (Rep.ofCall (S.same s1) r)⟩⟩
 ·exact Ac h
theorem Ou (hp:PE X ex (Abw (spP X.K n fn) [] E (tL X.K g))):PD X ex (Ay (Ep n fn) g):=PE.imp hp fun σ H Q ⟨env,μ,m,d,S,E,h,q⟩=>by
 obtain⟨ds,h1,h⟩:=bind_some h
 obtain⟨ds',h2,h⟩:=bind_some h
 split at h
 ·rename_i hl
  exact⟨env,μ,m,ds,S,E,h1,fun vs H1 s1 rs=>⟨ds',d,by rw[At6];exact Gu (S.same s1) rs h2,hl,h,fun v H' s' r=>q v H' (s1.trans s') (Rep.ofCall (S.same s1) r)⟩⟩
 ·exact Ac h
end
noncomputable def Nq (tabs:List (Addr×Str)) (H:Hp):Hp:=fun b=>match tabs.find? fun q=>q.1 == b with
 |some q=>some (.tbl #[Value.str q.2 0])
 |none=>H b
theorem Et {tabs:List (Addr×Str)}{H:Hp} (h:b∉tabs.map (·.1)):Nq tabs H b=H b:=by
 unfold Nq
 have:(tabs.find? fun q=>q.1 == b)=none:=List.find?_eq_none.mpr fun q hq z=>h (by rw[<- beq_iff_eq.mp z];exact Au0 hq)
 rw[this]
theorem Oe {tabs:List (Addr×Str)}{H:Hp} (h:b∈tabs.map (·.1)):∃ q∈tabs,q.1=b/\Nq tabs H b=some (.tbl #[Value.str q.2 0]):=by
 unfold Nq
 cases e:tabs.find? fun q=>q.1 == b with
 |none =>
  obtain⟨q,hq,z⟩:=List.mem_map.mp h
  exact absurd (beq_iff_eq.mpr z) (List.find?_eq_none.mp e q hq)
 |some q=>exact⟨q,List.mem_of_find?_eq_some e,beq_iff_eq.mp (List.find?_some (p:=fun q:Addr×Str=>q.1 == b) e),rfl⟩
theorem V6 {tabs:List (Addr×Str)} (hnd:(tabs.map (·.1)).Nodup) (hq:q∈tabs) (hr:r∈tabs) (e:q.1=r.1):q=r:=by
 induction tabs with
 |nil=>cases hq
 |cons t ts ih =>
  rw[Atz,List.nodup_cons] at hnd
  rcases List.mem_cons.mp hq with h1|h1<;>rcases List.mem_cons.mp hr with h2|h2
  ·rw[h1,h2]
  ·exact absurd (by rw[<- h1,e];exact Au0 h2) hnd.1
  ·exact absurd (by rw[<- h2,<- e];exact Au0 h1) hnd.1
  ·exact ih hnd.2 h1 h2
theorem Akq {K:W.Frag}{h:Heap} (KX:K.In h) (hK:W.noTabs K=true) {P:Addr} (hP:h.get? P=some (W.tabObj #[])):K.lookup P=none:=by
 cases e:K.lookup P with
 |none=>rfl
 |some o =>
  have e1:=KX P o e
  rw[hP] at e1
  cases e1
  have h2:=List.all_eq_true.mp hK (P,_) (W.mem_of_lookupK e)
  exact absurd (show false=true from h2) At5
theorem Vl {P:Program}{w:World}{K:W.Frag}{mg mb:Str->Option Value}{k:Nat}{fa a:Addr}{fd:FuncData}{x:Str}{fn:List D->Option D}{s₁:Shared}{vs:List Value}{ns:List Int}{tabs:List (Addr×Str)}
  (KX:K.In s₁.heap) (hns:s₁.heap.Ns mainGlobals mg) (hb:s₁.heap.Ns builtinsNs mb) (hbb:∀ x:Str,x≠"__name__"->mb x=bootBuiltins x) (hlim:s₁.heap.NoLimit) (hbm:Iq mg s₁.heap) (hg:s₁.gens=#[])
  (hT:∀ q∈tabs,s₁.heap.get? q.1=some (W.tabObj #[])/\isCodeTable s₁.heap q.1) (hnd:(tabs.map (·.1)).Nodup) (hNT:W.noTabs K=true)
  (ha:s₁.heap.get? a=some { cls:=.type "list",data:=.seq vs.toArray }) (hi:IntsAre vs ns) (hl:ns.length<=sizeLine) (hr:Room k callerA)
  (F:∀ base:Heap,K.In base->base.Ns mainGlobals mg->Iq mg base->FnOk P w K mg base CX0 k fa fd [x] (spT tabs K 1 fn)) (hbind:∀ (s:Shared) (u:Value),BindsTo s fd ⟨[u],[]⟩ [(x,u)])
  (hfn:fn [.kl (ns.map D.int)]=some (.bl true)) (hrep:∀ H:Hp,Reps K H [] (fun _=>False) (ns.map D.int) (ns.map V.int)) :
  codeAny (model P w) callerA (.call (.ref fa) ⟨[.ref a],[]⟩) (fun r s'=>r=.ok (.ret (.bool true))/\OldK s₁.heap s'.heap/\s'.os=s₁.os/\AllBare s'.gens) s₁:=by
 have rv:=Nm hi
 have lenV:=hi.length
 have tabN:∀ {b:Addr}{o:Obj},s₁.heap.get? b=some o->o.cls≠.none->b∉tabs.map (·.1):=fun {b o} e hc z=>by
  obtain⟨q,hq,rfl⟩:=List.mem_map.mp z
  rw[(hT q hq).1] at e
  cases e
  exact hc rfl
 have tabD:∀ {b:Addr}{o:Obj}{es:Array DictEntry}{ep:Nat},s₁.heap.get? b=some o->o.data=.dict es ep->b∉tabs.map (·.1):=fun {b o es ep} e hd z=>by
  obtain⟨q,hq,rfl⟩:=List.mem_map.mp z
  rw[(hT q hq).1] at e
  cases e
  cases hd
 have aT:a∉tabs.map (·.1):=tabN ha (by simp)
 have core:∀ H:Hp,Ary H->KL K H a (ns.map V.int)->HOk P w K H s₁.heap->(∀ b,H b≠none->b=a)->(H a≠none->K.lookup a=none) ->
   codeAny (model P w) callerA (.call (.ref fa) ⟨[.ref a],[]⟩) (fun r s'=>r=.ok (.ret (.bool true))/\OldK s₁.heap s'.heap/\s'.os=s₁.os/\AllBare s'.gens) s₁:=by
  intro H hO hS hok hA hK
  have free:∀ {b:Addr},b∉tabs.map (·.1)->b≠a->Nq tabs H b=none:=fun {b} h1 h2=>by
   rw[Et h1]
   cases q:H b with
   |none=>rfl
   |some u=>exact absurd (hA b (by rw[q];simp)) h2
  have noA:∀ {b:Addr}{o:Obj}{es:Array DictEntry}{ep:Nat},s₁.heap.get? b=some o->o.data=.dict es ep->b≠a:=fun {b o es ep} e d z=>by
   rw[z,ha] at e
   cases e
   cases d
  have nsK:∀ {b:Addr}{m:Str->Option Value},s₁.heap.Ns b m->(Zq s₁.heap (Nq tabs H)).Ns b m:=fun {b m} ⟨o,es,ep,e,d,r⟩=>⟨o,es,ep,Le e (free (tabD e d) (noA e d)),d,r⟩
  have hKb:K.In (Zq s₁.heap (Nq tabs H)):=fun b o e=>by
   have h1:b∉tabs.map (·.1):=fun z=>by
    obtain⟨q,hq,rfl⟩:=List.mem_map.mp z
    rw[Akq KX hNT (hT q hq).1] at e
    cases e
   refine Le (KX b o e) ?_
   rw[Et h1]
   cases q:H b with
   |none=>rfl
   |some u =>
    have e':b=a:=hA b (by rw[q];simp)
    subst e'
    rw[hK (by rw[q];simp)] at e;cases e
  have hM:Mod K mg (Zq s₁.heap (Nq tabs H)):=⟨hKb,nsK hns,⟨mb,nsK hb,hbb⟩,let ⟨mc,h1,h2⟩:=hlim;⟨mc,nsK h1,h2⟩⟩
  have hbm':Iq mg (Zq s₁.heap (Nq tabs H)):=by
   obtain⟨bm,ob,b1,b2,b3,b4,b5,b6⟩:=hbm
   exact⟨bm,ob,b1,b2,Le b3 (free (tabN b3 (by rw[b4];simp)) fun z=>by rw[z,ha] at b3;cases b3;exact absurd b4 (by simp)),b4,b5,b6⟩
  have hok2:HOk P w K (Nq tabs H) s₁.heap:=fun b u e=>by
   by_cases z:b∈tabs.map (·.1)
   ·obtain⟨q,hq,rfl,e2⟩:=Oe (H:=H) z
    rw[e2] at e
    cases e
    exact⟨#[],(hT q hq).1,trivial,fun pos cv z=>by simp[codeAmong] at z⟩
   ·rw[Et z] at e
    rcases hO b with n|⟨o,xs,n⟩
    ·rw[n] at e;cases e
    ·rw[n] at e
     cases e
     exact hok b _ n
  have e0:Env0 P w K mg (Zq s₁.heap (Nq tabs H)) callerA [] s₁ (Nq tabs H):=⟨rfl,hM,fun b o e=>Afi e,Nat.le_of_eq (Vd _ _),trivial,fun b hb=>absurd (show b∈([]:List Addr) from hb) (by simp),hok2,.of_eq hg⟩
  have hS2:KL K (Nq tabs H) a (ns.map V.int):=hS.elim (fun⟨o,z⟩=>.inl ⟨o,by rw[Et aT];exact z⟩) .inr
  have sp0:spT tabs K 1 fn [.ref a] (Nq tabs H) (fun v _=>v=.bl true) E0:=⟨fun q hq=>by
    obtain⟨q',hq',e1,e2⟩:=Oe (H:=H) (Au0 (f:=(·.1)) hq)
    have hqq:q'=q:=V6 hnd hq' hq e1
    subst hqq
    exact⟨#[],by rw[e2];simp⟩,[.kl (ns.map D.int)],.bl true,.cons (.kl hS2 (hrep _)) .nil,rfl,hfn,fun v H' _ r=>by cases r;rfl⟩
  refine codeAny_mono ((F _ hKb (nsK hns) hbm').run callerA [] s₁ (Nq tabs H) ⟨[.ref a],[]⟩ [.ref a] [.ref a] _ _ hr e0 (hbind s₁ (.ref a)) (.cons rfl .nil) sp0) fun r s' h=>?_
  cases r with
  |error e=>exact h.elim
  |ok fl =>
   cases fl with
   |next=>exact False.elim h
   |brk=>exact False.elim h
   |cont=>exact False.elim h
   |ret u =>
    obtain⟨v,H',os,bare,un,hok',r',q⟩:=h
    have q':v=.bl true:=q
    subst q'
    obtain rfl:u=Value.bool true:=r'
    refine⟨rfl,⟨fun b o e=>?_,fun b o e=>un.there b o e (by simp)⟩,os,bare⟩
    by_cases z:b∈tabs.map (·.1)
    ·obtain⟨q,hq,rfl,e2⟩:=Oe (H:=H) z
     obtain⟨more,e3⟩:=un.tbls _ _ e2
     obtain⟨ps,e4,_⟩:=hok' _ _ e3
     rw[(hT q hq).1] at e
     cases e
     exact .inr (.inl ⟨(hT q hq).2,rfl,#[],ps,rfl,by rw[e4];simp⟩)
    ·refine .inl ?_
     cases q:Nq tabs H b with
     |none=>exact un.keep b o e q (by intro z;exact absurd (show b∈([]:List Addr) from z) (by simp)) (by simp)
     |some u =>
      have q0:=q
      rw[Et z] at q0
      rcases hO b with n|⟨ob,xs,n⟩
      ·rw[n] at q0;cases q0
      ·rw[n] at q0
       cases q0
       have z2:=un.frzs b ob _ q
       obtain⟨e1,_⟩:=hok b _ n
       obtain⟨e2,_⟩:=hok' b _ z2
       rw[e] at e1;cases e1
       exact e2
 cases hk:K.lookup a with
 |some o =>
  have e:=KX a o hk
  rw[ha] at e
  cases e
  refine core (fun _=>none) (fun _=>.inl rfl) (.inr ⟨_,vs.toArray,_,hk,rfl,rfl,rfl,by rw[Ats,lenV];exact hl,by simpa using rv⟩) (fun b u z=>by have z':(none:Option HO)=some u:=z;cases z') (fun b z=>absurd rfl z) fun z=>absurd rfl z
 |none =>
  refine core (fun b=>if b=a then some (.frz { cls:=.type "list",data:=.seq vs.toArray } (.lst (ns.map V.int))) else none) (fun b=>?_) (.inl ⟨{ cls:=.type "list",data:=.seq vs.toArray },Atq rfl⟩) (fun b u z=>?_) (fun b z=>?_) fun _=>hk
  ·by_cases hb:b=a
   ·exact .inr ⟨_,_,Atq hb⟩
   ·exact .inl (Atl hb)
  ·by_cases hb:b=a
   ·have z':=(Atq hb).symm.trans z
    cases z'
    subst hb
    exact⟨ha,by rw[At1];exact hl,vs,_,rv,ha⟩
   ·have z':=(Atl hb).symm.trans z
    cases z'
  ·by_cases hb:b=a
   ·exact hb
   ·exact absurd (Atl hb) z
theorem Ab2 {l:W.OpenLaw}{n k:Nat}{q:Program}{loose:List Str}{XP:(Str->Option Value)->Heap->Prop}{YP:World->Heap->Prop}{d:DefRec}{K:Params->W.Frag}{ts:List Addr}{fn:List D->Option D}{x:Str}
  (hn:l.most=some n) (hn2:n<=sizeLine) (hdf:d.params.defaults=[]) (hr:Room k callerA)
  (hY:∀ (w:World) (h:Heap),YP w h->(K w.params).In h/\∀ P∈ts,h.get? P=some (W.tabObj #[])) (hNT:∀ w:World,W.noTabs (K w.params)=true)
  (F:∀ (w:World) (mg:Str->Option Value) (fa:Addr) (h:Heap),(K w.params).In h->h.Ns mainGlobals mg->mg d.name=some (.ref fa) ->
   ∃ (fd:FuncData) (tabs:List (Addr×Str)),(∀ (s:Shared) (u:Value),BindsTo s fd ⟨[u],[]⟩ [(x,u)])/\(∀ q∈tabs,q.1∈ts/\isCodeTable h q.1)/\(tabs.map (·.1)).Nodup /\
    ∀ base:Heap,(K w.params).In base->base.Ns mainGlobals mg->Iq mg base->FnOk l.prog w (K w.params) mg base CX0 k fa fd [x] (spT tabs (K w.params) 1 fn))
  (hfn:∀ ns:List Int,ns.length<=n->fn [.kl (ns.map D.int)]=some (.bl true)) (hrep:∀ (w:World) (H:Hp) (ns:List Int),Reps (K w.params) H [] (fun _=>False) (ns.map D.int) (ns.map V.int)) :
  W.WalkO q loose XP YP l.row.toRowW d [] (fun f vs=>PySem.call f vs):=by
 refine Att.attach_call hn hdf fun w s₀ s₁ mg mb fa o pm cd doc a vs ns G Y ho hd hcd hmg hobj hints hlen hg=>?_
 obtain⟨KX,hT⟩:=hY w _ Y
 obtain⟨fd,tabs,hb,h1,h2,hF⟩:=F w mg fa _ KX G.T.g hmg
 exact Vl KX G.T.g G.T.b G.T.builtins G.T.nolimit G.T.bmain hg (fun q hq=>⟨hT _ (h1 q hq).1,(h1 q hq).2⟩) h2 (hNT w) hobj hints (Auf hlen hn2) hr hF hb (hfn ns hlen) fun H=>hrep w H ns
theorem Ly {K:W.Frag}{h:Heap}{c P:Addr} (X:K.In h) (e:W.codeHdIn K c P=true):isCodeTable h P:=by
 obtain⟨o,vs,file,tf,flags,tg,inF,text,tt,e1,r1,r2,r3,_⟩:=W.codeHd_of_K X e
 exact⟨c,o,vs,e1,r1,r2,r3⟩
def RawAt (h:Heap) (d:Addr) (es:Array DictEntry) (ep:Nat):Prop:=∃ o,h.get? d=some o/\o.ExactDict/\o.data=.dict es ep
section
variable {prog:Program}{w:World}{A:Around}{E:Value->Shared->Prop}{s:Shared}
theorem Gz {d:Addr}{es:Array DictEntry}{ep:Nat}{Q:Value->Shared->Prop} (hd:(d == sysModules)=false) (hm:RawAt s.heap d es ep)
  (hQ:Q (.ref s.heap.objs.size) { s with heap:=s.heap.push { cls:=.type "dict_keyiterator",data:=.fields #[.ref d,.int 0 0,.int es.size 0,.int ep 0] } }) :
  wpAny (model prog w) A (pyIter (.ref d)) Q E s:=by
 obtain⟨o,ho,hc,hdat⟩:=id hm
 have hT:s.TypeIs (.ref d) "dict":=⟨o,ho,hc.1⟩
 refine wpAny_pyIter_slot hT F.slot_dict_iter (Avw F.slot_dict_iter hT F.entry_dict_iter ?_ (F.args_dict_iter_1 _))
 unfold Builtin.«dict.__iter__»
 refine Atj ?_
 unfold Builtin.Dict.dictSlotNone
 refine Atj (wpAny_notOrdered_dict hT ?_)
 show wpAny _ _ (pure (Value.ref d)) _ _ s
 refine Atu ?_
 show wpAny _ _ (Builtin.Dict.showsAll d >>= _) _ _ s
 unfold Builtin.Dict.showsAll
 rw[Atl (by rw[hd];exact At5)]
 refine Atj (Atu ?_)
 refine Atj (wpAny_dictEntries ho hdat ?_)
 refine Atj (wpAny_dictEpoch ho hdat ?_)
 have hsz:es.size=es.size:=rfl
 refine Atj (Au2 (Atu ⟨_,rfl,"dict_keyiterator",_,⟨_,At3 _ rfl,rfl⟩,F.slot_dict_keyiterator_next.lookup,?_⟩))
 simpa [rawInt,hsz] using hQ
theorem Dy {it d:Addr}{i ep:Nat}{es:Array DictEntry}{Q:Option Value->Shared->Prop} (hit:s.heap.IsKeyIter it d i es.size ep)
  (hm:RawAt s.heap d es ep) (hlt:i < es.size)
  (hQ:∀ key h',es[i]?.map (·.key)=some key->h'.IsKeyIter it d (i+1) es.size ep->Heap.SameBut it s.heap h'->Q (some key) { s with heap:=h' }) :
  wpAny (model prog w) A (pyNext (.ref it)) Q E s:=by
 obtain⟨o,ho,hc,hd⟩:=id hit
 obtain⟨od,hod,hcd,hdd⟩:=id hm
 unfold pyNext
 refine Atj (wpAny_attempt (Av2 (name:=Str.ofString "__next__") hit.typeIs Avh
  (Avw Avh hit.typeIs F.entry_dict_keyiterator_next ?_ (F.args_dict_keyiterator_next_1 _))))
 refine Atj (Atu ?_)
 refine Atj ?_
 refine Atj ?_
 first|refine Atj (Avd hit.typeIs (Atu ?_))|refine Atj (Avx hit.typeIs (Atu ?_))
 refine Atj (wpAny_fieldsOf ho hd ?_)
 have hown:Builtin.Dict_items.ownsTuple "dict_keyiterator"=false:=by decide
 simp only[hown,Aum,Avn]
 show wpAny _ _ (if (Value.ref d == Value.none)=true then _ else _) _ _ s
 rw[Atl (show ¬ ((Value.ref d == Value.none)=true) from At5)]
 refine Atj (Atu ?_)
 refine Atj (wpAny_dictEntries hod hdd ?_)
 have hsz:es.size=es.size:=rfl
 rw[Atl (by simp)]
 refine Atj (Atu ?_)
 refine Atj (wpAny_dictEpoch hod hdd ?_)
 rw[Atl (by simp)]
 refine Atu ?_
 have hlt':i < es.size:=hlt
 have hkey:es[i]?.map (·.key)=some es[i].key:=by simp[hlt']
 simp only[show ¬ ((i:Int) < 0) from by lia,Avn,Int.toNat_natCast,Array.getElem?_eq_getElem hlt']
 refine Atj ?_
 first|refine Atj (Avd hit.typeIs (Atu ?_))|refine Atj (Avx hit.typeIs (Atu ?_))
 refine Atj (wpAny_isOneOf_keyiter hit.typeIs ?_)
 show wpAny _ _ (setField (.ref it) 1 (rawInt ((i:Int)+1)) >>= _) _ _ s
 refine Atj (wpAny_setField ho hd (by simp) ?_)
 have hit':(s.heap.update it (Obj.mapFields (·.setIfInBounds 1 (rawInt ((i:Int)+1))))).IsKeyIter it d (i+1) es.size ep :=
  ⟨_,Heap.get?_update_self _ ho (Obj.isFreed_of_fields (Obj.data_mapFields hd _)),(Obj.cls_mapFields ..).trans hc,by rw[Obj.data_mapFields hd];simp[rawInt]⟩
 refine Atj (Avq ?_)
 refine Atj (wpAny_isOneOf_keyiter (s:={ s with heap:=s.heap.update it (Obj.mapFields (·.setIfInBounds 1 (rawInt ((i:Int)+1)))) }) hit'.typeIs ?_)
 show wpAny _ _ (pure es[i].key) _ _ _
 exact Atu (Atu ⟨_,rfl,Atu (hQ _ _ hkey hit' (Heap.SameBut.update ..))⟩)
theorem Ea {it d:Addr}{i ep:Nat}{es:Array DictEntry}{Q:Option Value->Shared->Prop} (hh:A.handled=none) (hit:s.heap.IsKeyIter it d i es.size ep)
  (hm:RawAt s.heap d es ep) (hge:es.size<=i)
  (hQ:∀ h',Heap.ExtBut it s.heap h'->Q none { s with heap:=h' }):wpAny (model prog w) A (pyNext (.ref it)) Q E s:=by
 obtain⟨o,ho,hc,hd⟩:=id hit
 obtain⟨od,hod,hcd,hdd⟩:=id hm
 unfold pyNext
 refine Atj (wpAny_attempt (Av2 (name:=Str.ofString "__next__") hit.typeIs Avh
  (Avw Avh hit.typeIs F.entry_dict_keyiterator_next ?_ (F.args_dict_keyiterator_next_1 _))))
 refine Atj (Atu ?_)
 refine Atj ?_
 refine Atj ?_
 first|refine Atj (Avd hit.typeIs (Atu ?_))|refine Atj (Avx hit.typeIs (Atu ?_))
 refine Atj (wpAny_fieldsOf ho hd ?_)
 have hown:Builtin.Dict_items.ownsTuple "dict_keyiterator"=false:=by decide
 simp only[hown,Aum,Avn]
 show wpAny _ _ (if (Value.ref d == Value.none)=true then _ else _) _ _ s
 rw[Atl (show ¬ ((Value.ref d == Value.none)=true) from At5)]
 refine Atj (Atu ?_)
 refine Atj (wpAny_dictEntries hod hdd ?_)
 have hsz:es.size=es.size:=rfl
 rw[Atl (by simp)]
 refine Atj (Atu ?_)
 refine Atj (wpAny_dictEpoch hod hdd ?_)
 rw[Atl (by simp)]
 refine Atu ?_
 simp only[show ¬ ((i:Int) < 0) from by lia,Avn,Int.toNat_natCast,Array.getElem?_eq_none hge]
 refine Atj ?_
 first|refine Atj (Avd hit.typeIs (Atu ?_))|refine Atj (Avx hit.typeIs (Atu ?_))
 show wpAny _ _ (setField (.ref it) 0 .none >>= _) _ _ s
 refine Atj (wpAny_setField ho hd (by simp) ?_)
 show wpAny _ _ (newExc (.type "StopIteration") [] >>= _) _ _ _
 refine Atj ?_
 simp only[newExc,newTuple]
 refine Atj (Au2 ?_ (by size_fits))
 refine Atj (m:=firstArgMember _ _) (wpAny_of_eq (a:=Value.none) (by first|rfl|(simp only[firstArgMember];rfl)) ?_)
 refine Au2 ?_ (by size_fits)
 simp only[raiseNew]
 refine Atj (wpAny_handled ?_)
 rw[show A.in1.handled=none from hh]
 refine Atj (Atu (wpAny_throw ?_))
 refine Atj (wpAny_isInstance (T:="StopIteration") (b:=true) ⟨_,At3 _ rfl,rfl⟩ isSubtype_stop ?_)
 exact Atu (hQ _ (((Heap.SameBut.update ..).extBut.push _).push _))
theorem RawAt.at' {h h':Heap}{d:Addr}{es:Array DictEntry}{ep:Nat} (x:RawAt h d es ep) (e:∀ o,h.get? d=some o->h'.get? d=some o):RawAt h' d es ep:=let ⟨o,ho,r⟩:=x;⟨o,e _ ho,r⟩
theorem RawAt.lt {h:Heap}{d:Addr}{es:Array DictEntry}{ep:Nat} (x:RawAt h d es ep):d < h.objs.size:=let ⟨_,ho,_⟩:=x;Aty ho
theorem Yz (hh:A.handled=none) (I d:Addr) (hne:d≠I) (es:Array DictEntry) (ep:Nat) :
  Walks prog w A I [I,d] [I] es.size (fun i v=>es[i]?.map (·.key)=some v) (fun i h=>h.IsKeyIter I d i es.size ep/\RawAt h d es ep) where
 sub:=fun b hb=>by simp at hb;simp[hb]
 frame:=fun _ _ _ st hk=>⟨st.1.at fun o e=>hk I (by simp) o e,st.2.at' fun o e=>hk d (by simp) o e⟩
 item:=fun i s Q E hi st hQ=>Dy st.1 st.2 hi fun key h' hkey hit' hs'=>hQ key h' s.toks hkey ⟨hit',st.2.at' fun o e=>hs'.extBut d o hne e⟩ fun b o hb e=>hs'.extBut b o (fun h=>hb (by simp[h])) e
 done:=fun s Q E st hQ=>Ea hh st.1 st.2 (Atp _) fun h' he'=>hQ h' s.toks fun b o hb e=>he' b o (fun h=>hb (by simp[h])) e
 self:=fun _ _ _ _ st hQ=>wpAny_pyIter_keyiter st.1 hQ
theorem Ahf {d:Addr}{es:Array DictEntry}{ep:Nat} (lo:(d == sysModules)=false):W.KdlSrc prog w "dict" d d es.size (fun i v=>es[i]?.map (·.key)=some v) (fun h=>RawAt h d es ep) where
 type:=fun _ hm=>let ⟨o,ho,hc,_⟩:=hm;⟨o,ho,hc.1⟩
 there:=fun _ hm=>⟨hm.lt,hm.lt⟩
 keep:=fun _ _ hm hk=>hm.at' fun o e=>hk d (.inl rfl) o e
 notList:=by decide
 notTuple:=by decide
 hint:=fun _ _ _ _ hm hq=>W.kdl_hint_dict (let ⟨o,ho,hc,_⟩:=hm;⟨o,ho,hc.1⟩) hq
 iter:=fun _ _ hh hm=>⟨_,_,(fun _ _ hq=>Gz lo hm hq),Yz hh _ d (At7 hm.lt) es ep,⟨⟨_,At3 _ rfl,rfl,rfl⟩,hm.at' fun o e=>Ato _ e⟩⟩
end
mutual
def dOf:PyData->D
 |.none=>.non|.bool b=>.bl b|.int i=>.int i|.str x=>.str x|.tuple ds=>.tup (Np ds)|.list ds=>.lst (Np ds)|.dict _=>.non
def Np:List PyData->List D
 |[]=>[]
 |d::ds=>dOf d::Np ds
end
mutual
theorem Uu:∀ {d:D},A8 d=true->dOf (pyD d)=d
 |.non,_=>rfl
 |.bl _,_=>rfl
 |.int _,_=>rfl
 |.str _,_=>rfl
 |.tup ds,h=>by rw[pyD,dOf,N8 h]
 |.lst _,h=>C4 h
 |.kl _,h=>C4 h
 |.ref _,h=>C4 h
 |.dic _ _,h=>C4 h
 |.fn _ _,h=>C4 h
theorem N8:∀ {ds:List D},Au ds=true->Np (Bu ds)=ds
 |[],_=>rfl
 |d::ds,h=>by
  have h:=Bool.and_eq_true_iff.mp h
  rw[Bu,Np,Uu h.1,N8 h.2]
end
theorem Py {K:W.Frag}{H:Hp}{μ:List Addr}{B:Addr->Prop} (d:PyData):∀ {v:V},kOk d=true->KeyH K H d v->Rep K H μ B (dOf d) v:=by
 match d with
 |.int i=>intro v _ h;cases h;exact .int _
 |.str x=>intro v k h;cases h;exact .str _ k
 |.tuple ds =>
  intro v k h
  cases h with
  |@tup _ a vs hs hp =>
  refine .tup hs ?_
  have go:∀ (es:List PyData) (us:List V),(∀ e∈es,e∈ds)->Jl es=true->Paired (KeyH K H) es us->Reps K H μ B (Np es) us:=by
   intro es us hm hk q
   induction q with
   |nil=>exact .nil
   |@cons e u es us h1 h2 ih =>
    have hk:=Bool.and_eq_true_iff.mp hk
    exact .cons (Py e hk.1 h1) (ih (fun x hx=>hm x (Atn _ hx)) hk.2)
  exact go ds vs (fun _ h=>h) k hp
 |.none=>intro v k h;cases h
 |.bool _=>intro v k h;cases h
 |.list _=>intro v k h;cases h
 |.dict _=>intro v k h;cases h
termination_by sizeOf d
decreasing_by
 have:=Au6 (hm e (Atk ..))
 simp;lia
theorem Acg {K:W.Frag}{H:Hp}{μ:List Addr}{B:Addr->Prop}:∀ {kvs:List (PyData×V)}{xs:List (PyData×Addr×Value)},KT K H kvs xs->Reps K H μ B (Np (kvs.map (·.1))) (xs.map fun q=>V.ref q.2.1)/\Vals (xs.map fun q=>V.ref q.2.1) (xs.map fun q=>Value.ref q.2.1)
 |_,_,.nil=>⟨.nil,.nil⟩
 |_,_,.cons h r=>by
  obtain⟨h1,h2⟩:=Acg r
  refine⟨?_,.cons rfl h2⟩
  rw[Atz,Atz,Np,h.1]
  exact .cons (Py _ h.2.1.1 h.2.1.2.2.2) h1
section
variable {X:Cx}{pins:List (Addr×Obj)}{σ:St}{H:Hp}{s:Shared}{μ:List Addr}{m:MH}{k:Nat}{f:Addr}{fd:FuncData}{ps:List Str}{fn:List D->Option D}{b:Bool}
theorem N4 {l:Addr}{ds ks out:List D} (F:FnOk X.prog X.w X.K X.mg X.base CX0 k f fd ps (spP X.K 1 fn)) (hr:Room (k+2) X.A) (hb:Binds X.K fd ps []) (I:Inv X pins σ H s) (S:Sim X.K H μ m) (hL:Rd H l (.dT kvs)) (ed:ds=Np (kvs.map (·.1))) (ha1:argsOk "sorted" ⟨[.ref l],kw⟩) (ha2:∀ x,argsOk "list.sort" ⟨[.ref x],kw⟩) (ht:∀ x,Builtin.«list.sort» ⟨[.ref x],kw⟩=ksk_tree x (.ref f) b) (hK:Lj fn m ds=some ks) (h64:ds.length < 128) (hE:Uc X pins σ μ b ds ks out X.A.in1.in1) (hz0:out.length < 128) (q:∀ a ys H',Same H H'->H a=none->H' a=some (.lst ys)->Reps X.K H' μ (nw μ a) out ys->Q (.ref a) H'):wpAny (model X.prog X.w) X.A (call (.builtin "sorted") [.ref l] kw) (EP X pins σ Q) X.xe s:=by
 have hline:sizeLine=16777216:=Ava
 obtain⟨_,hsm,xs,rkt,o,es,ep,e1,e2,e3,e4,_⟩:=Zn I hL
 obtain⟨rs,ri⟩:=Acg (μ:=μ) (B:=(·∈μ)) rkt
 rw[<- ed] at rs
 have l2:=rs.length
 have les:es.size=xs.length:=by rw[<- Avc,e4,At1]
 rw[At1] at l2
 refine call_function_entry_kw kind_sorted plain_sorted entry_sorted ha1 ?_
 unfold Builtin.«sorted»
 refine Atj (m:=checkCount "sorted" 1 1 _) (Atu (Atj (W.kdu_collect (Ahf (es:=es) (ep:=ep) hsm) hr.in1.hd ⟨o,e1,e2,e3⟩ (by lia) fun h' tk acc hk hacc=>?_)))
 have eacc:acc.toList=xs.map fun q=>Value.ref q.2.1:=by
  refine Av0 fun i=>?_
  by_cases hi:i < acc.size
  ·have h1:es[i]?.map (·.key)=some acc[i]:=hacc.2 i acc[i] (by simp[hi])
   have hi2:i < xs.length:=by rw[<- les,<- hacc.1];exact hi
   have h3:es[i]?=some (entryOfKey (D6 X.prog X.w) xs[i]):=by rw[<- Array.getElem?_toList,e4,Aub];simp[hi2]
   rw[h3] at h1
   simp only[Option.map_some,Avy,entryOfKey] at h1
   rw[Aub,Array.getElem?_toList]
   simp[hi,hi2,<- h1]
  ·have hi2:xs.length<=i:=by rw[<- les,<- hacc.1];lia
   rw[Auk (by simpa using hi),Auk (by simpa using hi2)]
 rw[eacc]
 refine Atj (wpAny_newList ?_ (by rw[At1];lia))
 have I0:=I.kept (h':=h') (t':=tk) hk
 have hD0z:=I0.sz
 have kp:∀ c o,s.heap.get? c=some o->(h'.push (seqObj "list" (xs.map fun q=>Value.ref q.2.1).toArray 0)).get? c=some o:=fun c o h=>Ato _ (hk c o h)
 have hg:(h'.push (seqObj "list" (xs.map fun q=>Value.ref q.2.1).toArray 0)).get? h'.objs.size=some (seqObj "list" (xs.map fun q=>Value.ref q.2.1).toArray 0):=At3 _ rfl
 have I1:=I.kept (t':=tk) kp
 have hfree:H h'.objs.size=none:=I0.hok.fresh (Atp _)
 have hy:∀ p∈X.pn++pins,p.1≠h'.objs.size:=fun p hp=>At7 (Aty (I0.pin p hp).1)
 have I2:Inv X ((h'.objs.size,seqObj "list" (xs.map fun q=>Value.ref q.2.1).toArray 0)::pins) σ H { s with heap:=h'.push (seqObj "list" (xs.map fun q=>Value.ref q.2.1).toArray 0),toks:=tk }:=I1.pins_of fun p hp=>by
  rcases List.mem_cons.mp hp with rfl|hp
  ·exact⟨hg,hfree,Av4 I0.lt,I0.nofs (Atp _),fun v z=>by cases z⟩
  ·exact I1.pin p (Atm _ hp)
 show wpAny (model X.prog X.w) X.A.in1 _ _ _ { s with heap:=h'.push (seqObj "list" (xs.map fun q=>Value.ref q.2.1).toArray 0),toks:=tk }
 refine Atj (Avq (wpAny_call_entry_kw slot_list_sort ⟨_,hg,rfl⟩ entry_list_sort ?_ (ha2 _)))
 have ht':=ht h'.objs.size
 show wpAny (model X.prog X.w) X.A.in1.in1 (Builtin.«list.sort» ⟨[.ref h'.objs.size],kw⟩) _ _ _
 rw[ht']
 refine Tz (s:={ s with heap:=h'.push (seqObj "list" (xs.map fun q=>Value.ref q.2.1).toArray 0),toks:=tk }) F hr.in1.in1 (fun s H e=>e.in1.in1) hb I2 S hD0z hy ri rs hK h64 hE fun s' H1 c ys ws s1 I' r1 r2=>?_
 have hf1:H1 h'.objs.size=none:=(I'.pin (h'.objs.size,seqObj "list" (List.toArray ws) c) (Atm _ (Atk ..))).2.1
 have lo:ys.length<=sizeLine:=by have:=r2.length;lia
 exact⟨_,rfl,Atu ⟨_,rfl,.ref h'.objs.size,upd H1 h'.objs.size (.lst ys),Inv.adopt I' hD0z hy r1 lo,rfl,q h'.objs.size ys _ (s1.trans (A4 hf1)) hfree As (r2.fresh hf1)⟩⟩
end
section
variable {X:Cx}{e:Expr}{pos p p' kp kp' cp:Pos}{x:Str}{k:Nat}{f:Addr}{fd:FuncData}{ps:List Str}{fn:List D->Option D}{b:Bool}
end
section
variable {X:Cx}{pins:List (Addr×Obj)}{σ:St}{H:Hp}{s:Shared}{h':Heap}
theorem Inv.turnLay {t':Nat}{fp:List Addr}{p:Addr}{o:HO} (I:Inv X pins σ H s) (hf:∀ b∈fp,Y4 X pins H b) (k:∀ b o,b∉fp->s.heap.get? b=some o->h'.get? b=some o) (hp:s.heap.objs.size<=p)
  (new:ObjOk X.prog X.w X.K (upd H p o) h' p o):Inv X pins σ (upd H p o) { s with heap:=h',toks:=t' }:=by
 have hn:H p=none:=I.hok.fresh hp
 have nit:∀ b u,H b=some u->b∉fp:=fun b u e z=>by rw[(hf b z).1] at e;cases e
 have same:∀ b u,H b=some u->upd H p o b=some u:=fun b u e=>by rw[An (Ao e hn)];exact e
 refine I.step (g':=s.gens) (d':=s.drawn) (ch:=fp) (fun b hb=>?_) (fun b o _ _ hc e _=>k b o hc e) (fun b o _ _ hc e _=>⟨o.slots,k b o hc e⟩) (fun b o _ e n=>?_)
  (fun b o hc e=>⟨o,k b o hc e⟩) (fun b xs e=>same b _ e) (fun b x u e=>same b _ e) (fun b ps e=>⟨#[],by rw[same b _ e];simp⟩) (fun m hm=>?_) (fun b u e=>?_) I.bare
 ·obtain⟨_,q1,q2,q3,q4,q5⟩:=hf b hb
  exact⟨q3,q1,q4,q5⟩
 ·rw[An (At7 (At2 (Aty e) hp))];exact n
 ·obtain⟨o,es,ep,ho,r⟩:=hm
  exact⟨o,es,ep,k _ o (fun z=>(hf _ z).2.1 rfl) ho,r⟩
 ·by_cases hb:b=p
  ·subst hb
   rw[As] at e
   cases e
   exact new
  ·rw[An hb] at e
   refine (I.hok b u e).stay (fun c v hc q=>k c v ?_ q) (fun c q=>same _ _ q) (fun c xs q=>Rd.upd_none hn q) fun c x w q=>same _ _ q
   rcases hc with z|z
   ·rw[z];exact nit b u e
   ·exact nit c _ z
def Ite (K:W.Frag) (a:Addr):It :=
 ⟨fun i H=>∃ xs x,SqL K H a xs/\xs[i]?=some x,fun i H x H'=>∃ p y,H p=none/\x=.ref p/\H'=upd H p (.tup [.int i,y])/\∀ xs,SqL K H a xs->xs[i]?=some y,fun i H=>∃ xs,SqL K H a xs/\xs.length<=i⟩
theorem Yu {P:Program}{w:World}{K:W.Frag}{elts:List Expr}{x1:Nat}{pos:Pos} (a e it:Addr) (hne:e≠it):Turn P w K (.Tuple elts x1 pos) (Ite K a) [e,it] e (fun i h=>∃ old,IsEnum h e it i old/\h.IsListIter it a i) where
 mem:=by simp
 obj:=fun i h st b hb=>by
  obtain⟨old,he,o,e1,c,d⟩:=st
  rcases List.mem_cons.mp hb with z|hb
  ·subst z
   exact⟨_,he,fun v z=>by cases z⟩
  ·have z:b=it:=by simpa using hb
   subst z
   exact⟨o,e1,fun v z=>by rw[d] at z;cases z⟩
 keep:=fun i h h' st k=>by
  obtain⟨old,he,hi⟩:=st
  exact⟨old,k e (by simp) _ he,hi.at fun o e=>k it (by simp) o e⟩
 item:=by
  intro X hP hw hK hc i pins s σ H E I hf st hg
  subst hP hw hK
  obtain⟨old,he,hi⟩:=st
  obtain⟨xs,x,hq,hx⟩:=hg
  obtain⟨its,rv,p,hz⟩:=I.list hq
  obtain⟨u,hu,ru⟩:=rv.get hx
  refine wpAny_pyNext_enum_item he hi p.isList (x:=u) (by simpa using hu) hne fun h1 ho1 hi1 ht1 hz1 hk1=>⟨_,rfl,?_⟩
  refine wpAny_letOwnedTupleGo_enum ho1 fun h2 he2 hs2=>?_
  have hs2:Heap.SameBut e h1 h2:=hs2
  have hlt:e < s.heap.objs.size:=Aty he
  have ht2:h2.get? s.heap.objs.size=some { cls:=.type "tuple",data:=.seq #[.int i s.toks,u] }:=(hs2.2 _ (Av4 hlt)).trans ht1
  have I1:Inv X pins σ (upd H s.heap.objs.size (.tup [.int i,x])) { s with heap:=h2,toks:=s.toks+1 } :=
   Inv.turnLay (t':=s.toks+1) I hf (fun b o hb z=>(hs2.2 b (fun q=>hb (by simp[q]))).trans (hk1 b o (fun q=>hb (by simp[q])) (fun q=>hb (by simp[q])) z)) (Atp _)
    ⟨by simp[Ava],[.int i s.toks,u],.cons ⟨_,rfl⟩ (.cons ru .nil),⟨_,ht2,rfl,_,rfl⟩⟩
  obtain⟨oi,hoi,ci,di⟩:=id hi1
  refine⟨.ref s.heap.objs.size,_,I1,rfl,⟨_,x,I.hok.fresh (Atp _),rfl,rfl,fun ys hy=>by rw[I.list_inj hy hq];exact hx⟩,⟨u,he2,oi,(hs2.2 it (Avr hne)).trans hoi,ci,di⟩,fun b hb=>?_⟩
  have hbl:b < s.heap.objs.size:=by
   rcases List.mem_cons.mp hb with z|hb
   ·rw[z];exact hlt
   ·have z:b=it:=by simpa using hb
    rw[z]
    obtain⟨o,e1,_⟩:=hi
    exact Aty e1
  rw[An (At7 hbl)]
  exact (hf b hb).1
 done:=by
  intro X hP hw hK hc i pins s σ H E I hf st hg
  subst hP hw hK
  obtain⟨old,he,hi⟩:=st
  obtain⟨xs,hq,hx⟩:=hg
  obtain⟨its,rv,p,hz⟩:=I.list hq
  obtain⟨f0,f1,f2,f3,f4,f5⟩:=hf it (by simp)
  have hl:=rv.length
  exact wpAny_pyNext_enum_end (I.ok.hd hc) he hi p.isList (by simp;lia) fun h' eb=>⟨rfl,I.turned (t':=s.toks) (fun b o hb e=>eb b o hb e) f0 f1 f3 f4 f5⟩
 self:=fun _ _ _ _ _ st h=>let ⟨_,he,_⟩:=st;wpAny_pyIter_enum he h
end
noncomputable def Dq:Nat->List D->List D
 |_,[]=>[]
 |i,d::ds=>.tup [.int i,d]::Dq (i+1) ds
theorem Hc:∀ (i:Nat) (ds:List D),(Dq i ds).length=ds.length
 |_,[]=>rfl
 |i,_::ds=>by rw[Dq,Atw,Atw,Hc (i+1) ds]
theorem Ml:∀ {i j:Nat}{ds:List D}{d:D},(Dq i ds)[j]?=some d->∃ x,ds[j]?=some x/\d=.tup [.int ((i+j:Nat):Int),x]
 |_,_,[],_,h=>by simp[Dq] at h
 |i,0,x::ds,d,h=>by simp[Dq] at h;exact⟨x,rfl,by rw[<- h];simp⟩
 |i,j+1,x::ds,d,h=>by
  rw[Dq,Avb] at h
  obtain⟨y,h1,h2⟩:=Ml h
  exact⟨y,by simpa using h1,by rw[h2];congr 4;lia⟩
theorem Lw {K:W.Frag}{a:Addr}{ds:List D}{chk:MH->Prop}{src:Hp->List Addr->MH->Prop} (hsq:∀ H μ m,Sim K H μ m->src H μ m->chk m->∃ xs,SqL K H a xs/\Reps K H μ (·∈μ) ds xs)
  (hk:∀ H μ m H' μ' m',src H μ m->Sim K H μ m->Step H μ H' μ'->Sim K H' μ' m'->src H' μ' m') (hinj:∀ H xs ys,SqL K H a xs->SqL K H a ys->True):Src K (Ite K a) (Dq 0 ds) chk src where
 go:=fun H μ m i d S h hc e=>by
  obtain⟨xs,hq,rs⟩:=hsq H μ m S h hc
  obtain⟨y,hy,rfl⟩:=Ml e
  obtain⟨v,hv,rv⟩:=rs.get hy
  refine⟨⟨xs,v,hq,hv⟩,fun x H' hy'=>?_⟩
  obtain⟨p,z,hp,rfl,rfl,hz⟩:=hy'
  have hz':=hz xs hq
  rw[hv] at hz'
  cases hz'
  exact⟨A4 hp,.tup (.inl (.inl As)) (.cons (by rw[Auy];exact .int _) (.cons (rv.same (A4 hp)) .nil))⟩
 stop:=fun H μ m S h hc=>by
  obtain⟨xs,hq,rs⟩:=hsq H μ m S h hc
  exact⟨xs,hq,by rw[Hc,rs.length];exact Atp _⟩
 keep:=hk
section
variable {X:Cx}{e:Expr}{es:List Expr}{pos p tp:Pos}{x1:Nat}{elts:List Expr}
def wEn (m:MH):D->Option Wk
 |.lst ds=>some ⟨Dq 0 ds,Az⟩
 |.kl ds=>some ⟨Dq 0 ds,Az⟩
 |.ref n=>(match m[n]? with
  |some (.lst ds)=>some ⟨Dq 0 ds,fun m'=>m'[n]?=some (.lst ds)⟩
  |_=>none)
 |_=>none
def Ci (g:FL):FW:=fun env m=>(g env m).bind fun xs=>match xs with
 |[d]=>wEn m d
 |_=>none
theorem M7 {g:FL} (hg:Gl X "enumerate") (hm:X.mg "enumerate"=none) (ha:PL X [e] g) (he:starEach [e] X.env=(false,eval e X.env)::starEach [] X.env):PW' X (.Tuple elts x1 tp) (.Call (.Name "enumerate" p) [e] [] pos) (Ci g):=by
 intro pins s σ H R I hw
 obtain⟨env,μ,m,w,S,E,hw,q⟩:=hw
 obtain⟨xs,h1,h2⟩:=bind_some hw
 refine Auu (Eu I hg hm boot_enumerate ?_ (by decide) (by decide))
 refine PyProof.Rows.callWith_type1 (thn (ha pos pins s σ H (fun vs H1=>Same H H1/\Reps X.K H1 μ (·∈μ) xs vs) I ⟨env,μ,m,xs,S,E,h1,fun v H1 s1 r1=>⟨s1,r1⟩⟩) fun us s1 ⟨vs,H1,I1,r1,s1',rx⟩=>?_) he (by rfl)
 have lst:∀ {a:Addr}{ys:List V},us=[.ref a]->SqL X.K H1 a ys->R (Ite X.K a) H1->wpAny (model X.prog X.w) X.A (call (.type "enumerate") us) (fun v s1=>wpAny (model X.prog X.w) X.A (pyIter v) (PIE X pins σ (.Tuple elts x1 tp) R) X.xe s1) X.xe s1:=fun {a ys} e hq hR=>by
  subst e
  obtain⟨its,rv,p,hz⟩:=I1.list hq
  refine call_enumerate_list p.isList fun h' he' hi' hz' hk'=>?_
  refine wpAny_pyIter_enum he' ?_
  refine⟨s1.heap.objs.size+1,[s1.heap.objs.size+1,s1.heap.objs.size],_,_,H1,rfl,I1.kept (t':=s1.toks) hk',Yu a _ _ (Nat.succ_ne_self _),⟨_,he',hi'⟩,fun b hb=>?_,hR⟩
  have hb':s1.heap.objs.size<=b:=by
   rcases List.mem_cons.mp hb with z|hb
   ·rw[z];exact Nat.le_succ _
   ·have z:b=s1.heap.objs.size:=by simpa using hb
    rw[z];exact Atp _
  exact I1.fpOk hb' (I1.hok.fresh hb')
 match xs,h2 with
 |[d],h2 =>
  obtain⟨v,rfl,r⟩:=rx.one
  obtain⟨u,rfl,r2⟩:=Pg r1
  cases r with
  |@lst ds a ys hq hb rs =>
   cases r2
   cases h2
   exact lst rfl (.inl hq) (q H1 _ (fun H μ m=>Rep X.K H μ (·∈μ) (.lst ds) (.ref a)) s1' (Lw (fun H μ m S h _=>by cases h with|@lst _ _ zs hq _ rs=>exact⟨zs,.inl hq,rs⟩) (fun H μ m H' μ' m' h S st S'=>h.step S st) fun _ _ _ _ _=>trivial) (.lst hq hb rs))
  |@kl ds a ys hq rs =>
   cases r2
   cases h2
   exact lst rfl hq.sq (q H1 _ (fun H μ m=>Rep X.K H μ (·∈μ) (.kl ds) (.ref a)) s1' (Lw (fun H μ m S h _=>by cases h with|@kl _ _ zs hq rs=>exact⟨zs,hq.sq,rs⟩) (fun H μ m H' μ' m' h S st S'=>h.step S st) fun _ _ _ _ _=>trivial) (.kl hq rs))
  |@ref n a en =>
   cases r2
   unfold wEn at h2
   cases qn:m[n]? with
   |none=>simp[qn] at h2
   |some o =>
    cases o with
    |dct ks vs=>simp[qn] at h2
    |lst ds =>
     simp only[qn,Avy] at h2
     subst h2
     obtain⟨ys,e1,e2⟩:=(S.same s1').obj n a _ en qn
     exact lst rfl (.inl (.inl e1)) (q H1 _ (fun H μ m=>μ[n]?=some a) s1' (Lw (fun H μ m S h hc=>by
      obtain⟨ys,e1,e2⟩:=S.obj n a _ h hc
      exact⟨ys,.inl (.inl e1),e2⟩) (fun H μ m H' μ' m' h S st S'=>st.ix h) fun _ _ _ _ _=>trivial) en)
  |non=>cases h2
  |bl _=>exact Ac h2
  |int _=>exact Ac h2
  |str _ _=>exact Ac h2
  |tup _ _=>exact Ac h2
  |dic _ _ _ _=>exact Ac h2
  |fn _=>exact Ac h2
theorem Nn (hm:X.mg "enumerate"=none) (ha:QL X [e] g) (hg:Gl X "enumerate":=by unfold Gl;kernel_rfl) (hs':Bc e=true:=by rfl):QW X (.Tuple elts x1 tp) (.Call (.Name "enumerate" p) [e] [] pos) (Ci g):=⟨M7 hg hm ha.out (Ap hs')⟩
end
noncomputable def Ake:List Expr->Option (Arguments×Expr×Scope)
 |[]=>none
 |.Lambda a b s _::_=>some (a,b,s)
 |_::es=>Ake es
def Ach:Expr->Option (Arguments×Expr×Scope)
 |.Call _ es _ _=>Ake es
 |_=>none
def P5:List Stmt->Option (Arguments×Expr×Scope)
 |[]=>none
 |.Assign _ e _::r=>(Ach e).orElse fun _=>P5 r
 |.Return (some e) _::r=>(Ach e).orElse fun _=>P5 r
 |_::r=>P5 r
def Ae2 (q:Str) (st:Stmt):Lam:=match P5 (Bi st) with
 |some (a,b,s)=>⟨q,a,b,s⟩
 |none=>⟨q,Ck st,.Constant .none 0 ⟨0,0,0,0⟩,Am st⟩
theorem Amp {P:Program}{w:World}{K:W.Frag}{mg:Str->Option Value}{base:Heap}{x qual:Str}{st:Stmt}{f:Addr}{fd:FuncData}{N ps:List Str}{k n:Nat}{tabs:List (Addr×Str)} (F:Fun K x qual st f fd) (S:FnScope N ps (Am st)) (g:FS) (fn:List D->Option D) (hfn:fn=Ef N.length g) (hn:ps.length=n)
  (hbody:∀ (A:Around) (outer:List Env) (s:Shared) (H:Hp) (E:XK),TabsH tabs H->Room k (A.deeper (envOfC qual (Am st) s.heap.objs.size f fd.code)) ->
   QSs (N7 CX0 P w K mg base N qual (Am st) f fd.code A outer s H E).nox (Bi st) g):FnOk P w K mg base CX0 (k+1) f fd ps (spT tabs K n fn):=by
 subst hfn hn
 exact Zo F S fun A outer s H E hT hr=>(hbody A outer s H E hT hr).out
section
variable {X:Cx}{a b c e:Expr}{es:List Expr}{pos p p':Pos}{x:Str}
theorem Agw {args:Arguments}{body:Expr}{scope:Scope}{c P:Addr}{l:Lam}{fd:FuncData} (i:Nat) (hB:Iq X.mg X.base) (hT:TabQ X.H₀ P l.qual) (hcode:fd.code=.ref c) (hC:W.codeHdIn X.K c P=true) (he:X.env.code=fd.code:=by rfl)
  (hcl:closureFor scope X.env=pure []:=by rfl) (hdef:defaultsOf args X.env=([],[]):=by rfl) (hl:l=⟨X.env.qual++"<lambda>",args,body,scope⟩:=by rfl) (hi:i < 1000:=by decide):QD X (.Lambda args body scope pos) (fC (.fn i l)):=⟨Alx i hB hT (he.trans hcode) hC hcl hdef hl hi⟩
theorem Agr {T:List (Lam×(List D->Option D))} (hT:∀ p∈T,L9 X.prog X.w X.K X.mg X.base k n p.1 p.2) (hr:Room k X.A) (ha:QL X (e::es) g) (hN:X.N[i]?=some x:=by kernel_rfl) (hv:Vis X.env.scope x:=by exact Av3 (by kernel_rfl)) (hd:(x == ("__debug__":Str))=false:=by decide) (hcd:(x == ("__classdict__":Str))=false:=by decide) (he':Bc e=true:=by rfl) (hpl':es.all Bc=true:=by rfl) (hTl:Nat.ble T.length 1000=true:=by kernel_rfl) :
  QD X (.Call (.Name x p) (e::es) [] pos) (Mm T n (Ad i) g):=⟨Aak hT hr hN hv ha.out hd hcd (Ap he') (Cc hpl') (Nat.le_of_ble_eq_true hTl)⟩
theorem Abb {fd:FuncData} (F:FnOk X.prog X.w X.K X.mg X.base CX0 k f fd ps (spP X.K n fn)) (hr:Room k X.A) (hm:X.mg x=some (.ref f)) (hk:W.keepIn X.K (.ref f)=true) (hb:Binds X.K fd ps []) (ha:QL X (e::es) g) (hg:Gl X x:=by unfold Gl;kernel_rfl) (hdb:(x == ("__debug__":Str))=false:=by decide) (he':Bc e=true:=by rfl) (hpl':es.all Bc=true:=by rfl) :
  QD X (.Call (.Name x p) (e::es) [] pos) (Ay (Ep n fn) g):=⟨Ou (Ov F hr hg hm hk hb .nil Aaj ha.out hdb (Ap he') (Cc hpl'))⟩
theorem Abc {fd:FuncData}{tabs:List (Addr×Str)} (hT:TabsH tabs X.H₀) (F:FnOk X.prog X.w X.K X.mg X.base CX0 k f fd ps (spT tabs X.K n fn)) (hr:Room k X.A) (hm:X.mg x=some (.ref f)) (hk:W.keepIn X.K (.ref f)=true) (hb:Binds X.K fd ps []) (ha:QL X (e::es) g) (hg:Gl X x:=by unfold Gl;kernel_rfl) (hdb:(x == ("__debug__":Str))=false:=by decide) (he':Bc e=true:=by rfl) (hpl':es.all Bc=true:=by rfl) :
  QD X (.Call (.Name x p) (e::es) [] pos) (Ay (Ei n fn) g):=⟨To (Aam F hT hr hg hm hk hb ha.out hdb (Ap he') (Cc hpl'))⟩
end
theorem Ox {P:Program}{w:World}{K:W.Frag}{mg:Str->Option Value}{base:Heap}{l:Lam}{N:List Str}{k n:Nat}{f:FE}{fn:List D->Option D} (S:FnScope N N l.scope) (hn:N.length=n) (hfn:fn=fnE f)
  (hb:∀ (doc pm ctv:Value) (c:Addr) (us:List Value),us.length=N.length->bindArgs (W.kdv_fn "<lambda>" l.qual l.args (.expr l.body) l.scope [] .none doc pm (.ref c) ctv) ⟨us,[]⟩=pure (N.zip us))
  (hbody:∀ (c a:Addr) (A:Around) (outer:List Env) (s:Shared) (H:Hp),Room k (A.deeper (envOfC l.qual l.scope s.heap.objs.size a (.ref c)))->QD (N7 CX0 P w K mg base N l.qual l.scope a (.ref c) A outer s H E0).nox l.body f) :
  L9 P w K mg base (k+1) n l fn:=by
 subst hfn
 exact Ae3 S hn hb fun c a A outer s H hr=>(hbody c a A outer s H hr).out
theorem Apk (i j:Nat) (hij:i≠j):∀ d d' env e1,Im 2 (B2 (Ar i) (B2 (Ar j) Po)) d env=some e1->Im 2 (B2 (Ar i) (B2 (Ar j) Po)) d' e1=Im 2 (B2 (Ar i) (B2 (Ar j) Po)) d' env:=fun d d' env e1 h=>by
 have he:∃ a b,e1=(env.set i (some a)).set j (some b):=by
  cases d with
  |tup ds =>
   match ds,h with
   |[a,b],h =>
    have h:some ((env.set i (some a)).set j (some b))=some e1:=h
    cases h
    exact⟨a,b,rfl⟩
   |[],h=>exact absurd h (by simp[Im])
   |[_],h=>exact absurd h (by simp[Im])
   |_::_::_::_,h=>exact absurd h (by simp[Im])
  |_=>exact absurd h (by simp[Im])
 obtain⟨a,b,rfl⟩:=he
 cases d' with
 |tup ds =>
  match ds with
  |[a',b'] =>
   show some ((((env.set i (some a)).set j (some b)).set i (some a')).set j (some b'))=some ((env.set i (some a')).set j (some b'))
   rw[List.set_comm _ _ hij.symm,List.set_set,List.set_comm _ _ hij,List.set_comm _ _ hij,List.set_set]
   exact Au5 some (List.set_comm _ _ hij.symm)
  |[]=>rfl
  |[_]=>rfl
  |_::_::_::_=>simp[Im]
 |_=>rfl
section
variable {X:Cx}{st:Stmt}{sts:List Stmt}
end
section
variable {X:Cx}{o' a:Expr}{apos cpos:Pos}{T:String}{id:String}
end
section
variable {X:Cx}{pins:List (Addr×Obj)}{σ:St}{H:Hp}{s:Shared}{h':Heap}
theorem Inv.turnFp {t':Nat}{fp:List Addr} (I:Inv X pins σ H s) (hf:∀ b∈fp,Y4 X pins H b) (k:∀ b o,b∉fp->s.heap.get? b=some o->h'.get? b=some o):Inv X pins σ H { s with heap:=h',toks:=t' }:=by
 have nit:∀ b u,H b=some u->b∉fp:=fun b u e z=>by rw[(hf b z).1] at e;exact Ac e
 refine I.step (g':=s.gens) (d':=s.drawn) (ch:=fp) (fun b hb=>?_) (fun b o _ _ hc e _=>k b o hc e) (fun b o _ _ hc e _=>⟨o.slots,k b o hc e⟩) (fun b o _ e n=>n)
  (fun b o hc e=>⟨o,k b o hc e⟩) (fun b xs e=>e) (fun b x u e=>e) (fun b ps e=>⟨#[],by rw[e];simp⟩) (fun m hm=>?_) (fun b u e=>?_) I.bare
 ·obtain⟨_,q1,q2,q3,q4,q5⟩:=hf b hb
  exact⟨q3,q1,q4,q5⟩
 ·obtain⟨o,es,ep,ho,r⟩:=hm
  exact⟨o,es,ep,k _ o (fun z=>(hf _ z).2.1 rfl) ho,r⟩
 ·refine (I.hok b u e).stay (fun c v hc q=>k c v ?_ q) (fun c q=>q) (fun c xs q=>q) fun c x w q=>q
  rcases hc with z|z
  ·rw[z];exact nit b u e
  ·exact nit c _ z
def Itz (K:W.Frag) (a1 a2:Addr):It :=
 ⟨fun i H=>∃ xs x ys y,SqL K H a1 xs/\xs[i]?=some x/\SqL K H a2 ys/\ys[i]?=some y,
  fun i H x H'=>∃ p y z,H p=none/\x=.ref p/\H'=upd H p (.tup [y,z])/\(∀ xs,SqL K H a1 xs->xs[i]?=some y)/\∀ ys,SqL K H a2 ys->ys[i]?=some z,
  fun i H=>∃ xs ys,SqL K H a1 xs/\SqL K H a2 ys/\(xs.length<=i\/ys.length<=i)⟩
def Anm (a1 a2 n:Addr) (i:Nat) (h:Heap):Prop:=IsZip h (n+4) (n+2) (n+3) .none/\IsPair h (n+2) (.ref n) (.ref (n+1))/\(∃ a b,IsPair h (n+3) a b)/\h.IsListIter n a1 i/\h.IsListIter (n+1) a2 i
theorem Rq (st:Anm a1 a2 n i h) (l1:h.IsList a1 xs) (l2:h.IsList a2 ys):ZipApart (n+4) (n+2) (n+3) n (n+1) a1 a2:=by
 obtain⟨hz,hTI,⟨a,b,hTO⟩,⟨o1,e1,c1,d1⟩,⟨o2,e2,c2,d2⟩⟩:=st
 have ne:∀ {l:Addr}{zs:Array Value},h.IsList l zs->l≠n+4/\l≠n+3/\l≠n/\l≠n+1:=fun {l zs} hl=>by
  obtain⟨o,e,c,d⟩:=hl
  refine⟨fun z=>?_,fun z=>?_,fun z=>?_,fun z=>?_⟩
  ·rw[z,hz] at e;cases e;simp at c
  ·rw[z,hTO] at e;cases e;simp at c
  ·rw[z,e1] at e;cases e;rw[c1] at c;simp at c
  ·rw[z,e2] at e;cases e;rw[c2] at c;simp at c
 obtain⟨p1,p2,p3,p4⟩:=ne l1
 obtain⟨q1,q2,q3,q4⟩:=ne l2
 have k:∀ m:Nat,m+2≠m+4/\m+3≠m+4/\m≠m+4/\m+1≠m+4/\m+2≠m+3/\m+2≠m/\m+2≠m+1/\m+3≠m/\m+3≠m+1/\m≠m+1:=fun m=>by lia
 obtain⟨k1,k2,k3,k4,k5,k6,k7,k8,k9,k10⟩:=k n
 exact⟨k1,k2,k3,k4,k5,k6,k7,k8,k9,k10,p1,p2,p3,p4,q1,q2,q3,q4⟩
theorem fp5 (h:b∉[n+4,n+2,n+3,n,n+1]):b≠n+4/\b≠n+2/\b≠n+3/\b≠n/\b≠n+1:=by
 simp only[Aug,Auc,or_false,not_or] at h
 exact h
theorem Ab0 {P:Program}{w:World}{K:W.Frag}{elts:List Expr}{x1:Nat}{pos:Pos} (a1 a2 n:Addr):Turn P w K (.Tuple elts x1 pos) (Itz K a1 a2) [n+4,n+2,n+3,n,n+1] (n+4) (Anm a1 a2 n) where
 mem:=by simp
 obj:=fun i h st b hb=>by
  obtain⟨hz,hTI,⟨a,b',hTO⟩,⟨o1,e1,c1,d1⟩,⟨o2,e2,c2,d2⟩⟩:=st
  simp only[Aug,Auc,or_false] at hb
  rcases hb with rfl|rfl|rfl|rfl|rfl
  ·exact⟨_,hz,fun v z=>by cases z⟩
  ·exact⟨_,hTI,fun v z=>by cases z⟩
  ·exact⟨_,hTO,fun v z=>by cases z⟩
  ·exact⟨o1,e1,fun v z=>by rw[d1] at z;cases z⟩
  ·exact⟨o2,e2,fun v z=>by rw[d2] at z;cases z⟩
 keep:=fun i h h' st k=>by
  obtain⟨hz,hTI,⟨a,b',hTO⟩,h1,h2⟩:=st
  exact⟨k _ (by simp) _ hz,k _ (by simp) _ hTI,⟨a,b',k _ (by simp) _ hTO⟩,h1.at fun o e=>k _ (by simp) o e,h2.at fun o e=>k _ (by simp) o e⟩
 item:=by
  intro X hP hw hK hc i pins s σ H E I hf st hg
  subst hP hw hK
  obtain⟨xs,x,ys,y,hq1,hx,hq2,hy⟩:=hg
  obtain⟨its1,rv1,p1,hz1⟩:=I.list hq1
  obtain⟨its2,rv2,p2,hz2⟩:=I.list hq2
  obtain⟨u1,hu1,ru1⟩:=rv1.get hx
  obtain⟨u2,hu2,ru2⟩:=rv2.get hy
  have D:=Rq st p1.isList p2.isList
  obtain⟨hz,hTI,⟨a,b',hTO⟩,h1,h2⟩:=st
  refine wpAny_pyNext_zip_item D hz hTI hTO h1 h2 p1.isList p2.isList (x:=u1) (y:=u2) (by simpa using hu1) (by simpa using hu2) fun g1 k1 k2 k3 k4 k5 k6 k7=>⟨_,rfl,?_⟩
  refine wpAny_letOwnedTupleGo_zip k1 fun g2 he2 hs2=>?_
  have hs2:Heap.SameBut (n+4) g1 g2:=hs2
  have hlt:n+4 < s.heap.objs.size:=Aty hz
  have ht2:g2.get? s.heap.objs.size=some { cls:=.type "tuple",data:=.seq #[u1,u2] }:=(hs2.2 _ (Av4 hlt)).trans k5
  have I1:Inv X pins σ (upd H s.heap.objs.size (.tup [x,y])) { s with heap:=g2,toks:=s.toks } :=
   Inv.turnLay (t':=s.toks) I hf (fun b o hb z=>by
     obtain⟨n1,n2,n3,n4,n5⟩:=fp5 hb
     exact (hs2.2 b n1).trans (k7 b o n1 n3 n4 n5 z)) (Atp _)
    ⟨by simp[Ava],[u1,u2],.cons ru1 (.cons ru2 .nil),⟨_,ht2,rfl,_,rfl⟩⟩
  have up:∀ {b:Addr}{o:Obj},b≠n+4->g1.get? b=some o->g2.get? b=some o:=fun {b o} hb e=>(hs2.2 b hb).trans e
  refine⟨.ref s.heap.objs.size,_,I1,rfl,⟨_,x,y,I.hok.fresh (Atp _),rfl,rfl,fun zs hy'=>by rw[I.list_inj hy' hq1];exact hx,fun zs hy'=>by rw[I.list_inj hy' hq2];exact hy⟩,
   ⟨he2,up D.TIz (k7 _ _ D.TIz D.TITO D.TIi1 D.TIi2 hTI),⟨_,_,up D.TOz k2⟩,k3.at fun o e=>up D.i1z e,k4.at fun o e=>up D.i2z e⟩,fun b hb=>?_⟩
  have kk:∀ m z:Nat,m+4 < z->m+2 < z/\m+3 < z/\m < z/\m+1 < z:=fun m z h=>by lia
  obtain⟨j1,j2,j3,j4⟩:=kk n _ hlt
  have hbl:b < s.heap.objs.size:=by
   simp only[Aug,Auc,or_false] at hb
   rcases hb with rfl|rfl|rfl|rfl|rfl
   ·exact hlt
   ·exact j1
   ·exact j2
   ·exact j3
   ·exact j4
  rw[An (At7 hbl)]
  exact (hf b hb).1
 done:=by
  intro X hP hw hK hc i pins s σ H E I hf st hg
  subst hP hw hK
  obtain⟨xs,ys,hq1,hq2,hl⟩:=hg
  obtain⟨its1,rv1,p1,hz1⟩:=I.list hq1
  obtain⟨its2,rv2,p2,hz2⟩:=I.list hq2
  have D:=Rq st p1.isList p2.isList
  obtain⟨hz,hTI,⟨a,b',hTO⟩,h1,h2⟩:=st
  have l1:=rv1.length
  have l2:=rv2.length
  exact wpAny_pyNext_zip_end (I.ok.hd hc) D hz hTI hTO h1 h2 p1.isList p2.isList (by
   rcases hl with hl|hl
   ·left;simp;lia
   ·right;simp;lia) fun h' k=>⟨rfl,Inv.turnFp (t':=s.toks) I hf fun b o hb e=>by
    obtain⟨n1,n2,n3,n4,n5⟩:=fp5 hb
    exact k b o n1 n3 n4 n5 e⟩
 self:=fun _ _ _ _ _ st h=>wpAny_pyIter_zip st.1 h
end
noncomputable def Nu:List D->List D->List D
 |x::xs,y::ys=>.tup [x,y]::Nu xs ys
 |_,_=>[]
theorem Rt:∀ (xs ys:List D),(Nu xs ys).length=min xs.length ys.length
 |[],_=>by simp[Nu]
 |_::_,[]=>by simp[Nu]
 |_::xs,_::ys=>by simp only[Nu,Atw,Rt xs ys];lia
theorem Rr:∀ {j:Nat}{xs ys:List D}{d:D},(Nu xs ys)[j]?=some d->∃ x y,xs[j]?=some x/\ys[j]?=some y/\d=.tup [x,y]
 |_,[],_,_,h=>by simp[Nu] at h
 |_,_::_,[],_,h=>by simp[Nu] at h
 |0,x::xs,y::ys,d,h=>by simp[Nu] at h;exact⟨x,y,rfl,rfl,h.symm⟩
 |j+1,x::xs,y::ys,d,h=>by
  rw[Nu,Avb] at h
  obtain⟨x',y',h1,h2,h3⟩:=Rr h
  exact⟨x',y',by simpa using h1,by simpa using h2,h3⟩
def LAt (K:W.Frag) (a:Addr) (ds:List D) (chk:MH->Prop) (src:Hp->List Addr->MH->Prop):Prop :=
 (∀ H μ m,Sim K H μ m->src H μ m->chk m->∃ xs,SqL K H a xs/\Reps K H μ (·∈μ) ds xs)/\∀ H μ m H' μ' m',src H μ m->Sim K H μ m->Step H μ H' μ'->Sim K H' μ' m'->src H' μ' m'
theorem Ahj {K:W.Frag}{a1 a2:Addr}{ds es:List D}{c1 c2:MH->Prop}{s1 s2:Hp->List Addr->MH->Prop} (h1:LAt K a1 ds c1 s1) (h2:LAt K a2 es c2 s2) :
  Src K (Itz K a1 a2) (Nu ds es) (fun m=>c1 m/\c2 m) (fun H μ m=>s1 H μ m/\s2 H μ m) where
 go:=fun H μ m i d S h hc e=>by
  obtain⟨xs,hq1,rs1⟩:=h1.1 H μ m S h.1 hc.1
  obtain⟨ys,hq2,rs2⟩:=h2.1 H μ m S h.2 hc.2
  obtain⟨x,y,hx,hy,rfl⟩:=Rr e
  obtain⟨v1,hv1,rv1⟩:=rs1.get hx
  obtain⟨v2,hv2,rv2⟩:=rs2.get hy
  refine⟨⟨xs,v1,ys,v2,hq1,hv1,hq2,hv2⟩,fun x H' hy'=>?_⟩
  obtain⟨p,z1,z2,hp,rfl,rfl,k1,k2⟩:=hy'
  have k1':=k1 xs hq1
  have k2':=k2 ys hq2
  rw[hv1] at k1'
  rw[hv2] at k2'
  cases k1'
  cases k2'
  exact⟨A4 hp,.tup (.inl (.inl As)) (.cons (rv1.same (A4 hp)) (.cons (rv2.same (A4 hp)) .nil))⟩
 stop:=fun H μ m S h hc=>by
  obtain⟨xs,hq1,rs1⟩:=h1.1 H μ m S h.1 hc.1
  obtain⟨ys,hq2,rs2⟩:=h2.1 H μ m S h.2 hc.2
  refine⟨xs,ys,hq1,hq2,?_⟩
  rw[Rt,rs1.length,rs2.length]
  lia
 keep:=fun H μ m H' μ' m' h S st S'=>⟨h1.2 H μ m H' μ' m' h.1 S st S',h2.2 H μ m H' μ' m' h.2 S st S'⟩
section
variable {X:Cx}{e e2:Expr}{es:List Expr}{pos p tp:Pos}{x1:Nat}{elts:List Expr}
noncomputable def Ans (m:MH):D->Option (List D×(MH->Prop))
 |.lst ds=>some (ds,Az)
 |.kl ds=>some (ds,Az)
 |.ref n=>(match m[n]? with
  |some (.lst ds)=>some (ds,fun m'=>m'[n]?=some (.lst ds))
  |_=>none)
 |_=>none
def Ah8 (g:FL):FW:=fun env m=>(g env m).bind fun xs=>match xs with
 |[d,d']=>(Ans m d).bind fun p=>(Ans m d').bind fun q=>some ⟨Nu p.1 q.1,fun m=>p.2 m/\q.2 m⟩
 |_=>none
theorem Vr {H:Hp}{μ:List Addr}{m:MH}{d:D}{v:V}{p:List D×(MH->Prop)} (S:Sim X.K H μ m) (r:Rep X.K H μ (·∈μ) d v) (h:Ans m d=some p) :
  ∃ a xs src,v=.ref a/\SqL X.K H a xs/\LAt X.K a p.1 p.2 src/\src H μ m:=by
 cases r with
 |@lst ds a ys hq hb rs =>
  cases h
  exact⟨a,ys,fun H μ m=>Rep X.K H μ (·∈μ) (.lst ds) (.ref a),rfl,.inl hq,⟨fun H μ m S h _=>by cases h with|@lst _ _ zs hq _ rs=>exact⟨zs,.inl hq,rs⟩,fun H μ m H' μ' m' h S st S'=>h.step S st⟩,.lst hq hb rs⟩
 |@kl ds a ys hq rs =>
  cases h
  exact⟨a,ys,fun H μ m=>Rep X.K H μ (·∈μ) (.kl ds) (.ref a),rfl,hq.sq,⟨fun H μ m S h _=>by cases h with|@kl _ _ zs hq rs=>exact⟨zs,hq.sq,rs⟩,fun H μ m H' μ' m' h S st S'=>h.step S st⟩,.kl hq rs⟩
 |@ref n a en =>
  unfold Ans at h
  cases qn:m[n]? with
  |none=>simp[qn] at h
  |some o =>
   cases o with
   |dct ks vs=>simp[qn] at h
   |lst ds =>
    simp only[qn,Avy] at h
    subst h
    obtain⟨ys,e1,e2⟩:=S.obj n a _ en qn
    exact⟨a,ys,fun H μ m=>μ[n]?=some a,rfl,.inl (.inl e1),⟨fun H μ m S h hc=>by
      obtain⟨ys,e1,e2⟩:=S.obj n a _ h hc
      exact⟨ys,.inl (.inl e1),e2⟩,fun H μ m H' μ' m' h S st S'=>st.ix h⟩,en⟩
 |non=>cases h
 |bl _=>exact Ac h
 |int _=>exact Ac h
 |str _ _=>exact Ac h
 |tup _ _=>exact Ac h
 |dic _ _ _ _=>exact Ac h
 |fn _=>exact Ac h
theorem Amk {g:FL} (hg:Gl X "zip") (hm:X.mg "zip"=none) (ha:PL X [e,e2] g) (he:starEach [e,e2] X.env=(false,eval e X.env)::starEach [e2] X.env) (hpl:(backTo pos (starEach [e2] X.env)).any (·.1)=false) :
  PW' X (.Tuple elts x1 tp) (.Call (.Name "zip" p) [e,e2] [] pos) (Ah8 g):=by
 intro pins s σ H R I hw
 obtain⟨env,μ,m,w,S,E,hw,q⟩:=hw
 obtain⟨xs,h1,h2⟩:=bind_some hw
 refine Auu (Eu I hg hm boot_zip ?_ (by decide) (by decide))
 refine PyProof.Rows.callWith_type1 (thn (ha pos pins s σ H (fun vs H1=>Same H H1/\Reps X.K H1 μ (·∈μ) xs vs) I ⟨env,μ,m,xs,S,E,h1,fun v H1 s1 r1=>⟨s1,r1⟩⟩) fun us s1 ⟨vs,H1,I1,r1,s1',rx⟩=>?_) he hpl
 match xs,h2 with
 |[d,d'],h2 =>
  obtain⟨pa,h3,h2⟩:=bind_some h2
  obtain⟨pb,h4,h2⟩:=bind_some h2
  cases h2
  cases rx with
  |cons ra rx =>
   obtain⟨vb,rfl,rb⟩:=rx.one
   obtain⟨a1,xs1,src1,rfl,q1,L1,y1⟩:=Vr (S.same s1') ra h3
   obtain⟨a2,xs2,src2,rfl,q2,L2,y2⟩:=Vr (S.same s1') rb h4
   cases r1 with
   |cons r2 r1 =>
    obtain⟨u',rfl,r3⟩:=Pg r1
    cases r2
    cases r3
    obtain⟨its1,rv1,p1,hz1⟩:=I1.list q1
    obtain⟨its2,rv2,p2,hz2⟩:=I1.list q2
    refine call_zip_2 p1.isList p2.isList fun h' b1 b2 b3 b4 b5 b6 b7=>?_
    refine wpAny_pyIter_zip b1 ?_
    refine⟨s1.heap.objs.size+4,[s1.heap.objs.size+4,s1.heap.objs.size+2,s1.heap.objs.size+3,s1.heap.objs.size,s1.heap.objs.size+1],_,_,H1,rfl,I1.kept (t':=s1.toks) b7,Ab0 a1 a2 s1.heap.objs.size,⟨b1,b2,⟨_,_,b3⟩,b4,b5⟩,fun b hb=>?_,
     q H1 _ _ s1' (Ahj L1 L2) ⟨y1,y2⟩⟩
    have hb':s1.heap.objs.size<=b:=by
     simp only[Aug,Auc,or_false] at hb
     rcases hb with rfl|rfl|rfl|rfl|rfl
     ·exact Awh _ _
     ·exact Awh _ _
     ·exact Awh _ _
     ·exact Atp _
     ·exact Awh _ _
    exact I1.fpOk hb' (I1.hok.fresh hb')
theorem Anl (hm:X.mg "zip"=none) (ha:QL X [e,e2] g) (hg:Gl X "zip":=by unfold Gl;kernel_rfl) (hs':Bc e=true:=by rfl) (hpl':[e2].all Bc=true:=by rfl):QW X (.Tuple elts x1 tp) (.Call (.Name "zip" p) [e,e2] [] pos) (Ah8 g):=⟨Amk hg hm ha.out (Ap hs') (Cc hpl')⟩
end
section
variable {X:Cx}{e ex:Expr}{es:List Expr}{pos p:Pos}{x:Str}{n:Nat}{fn:List D->Option D}{g:FL}{E:XK}
end
section
variable {X:Cx}{tg elt iter:Expr}{ifs:List Expr}{scope:Scope}{fw:FW}{g:FG}{t:FB}{fe:FE}{x:Str}{pos p' spos:Pos}
end
section
variable {X:Cx}{e:Expr}{es:List Expr}{pos p:Pos}{x:Str}
open Classical in
end
structure FD (K:W.Frag) (mg:Str->Option Value) (x:Str) (st:Stmt) (ps:List Str):Prop where
 ex:∃ a fd,mg x=some (.ref a)/\Fun K x x st a fd/\Binds K fd ps []
structure FDL (K:W.Frag) (mg:Str->Option Value) (x:Str) (st:Stmt) (ps:List Str) (p:Addr):Prop where
 ex:∃ a fd c,mg x=some (.ref a)/\Fun K x x st a fd/\Binds K fd ps []/\fd.code=.ref c/\W.codeHdIn K c p=true
structure Cl (P:Program) (w:World) (K:W.Frag) (mg:Str->Option Value) (base:Heap) (k:Nat) (x:Str) (n:Nat) (fn:List D->Option D):Prop where
 ex:∃ a fd ps,FnOk P w K mg base CX0 k a fd ps (spP K n fn)/\mg x=some (.ref a)/\W.keepIn K (.ref a)=true/\Binds K fd ps []
structure ClT (P:Program) (w:World) (K:W.Frag) (mg:Str->Option Value) (base:Heap) (tabs:List (Addr×Str)) (k:Nat) (x:Str) (n:Nat) (fn:List D->Option D):Prop where
 ex:∃ a fd ps,FnOk P w K mg base CX0 k a fd ps (spT tabs K n fn)/\mg x=some (.ref a)/\W.keepIn K (.ref a)=true/\Binds K fd ps []
abbrev BH (x:Str) (st:Stmt) (ps:List Str):Prop:=∀ (kV doc pm:Value) (an:Option Addr) (cdv ct:Value) (us:List Value),us.length=ps.length->bindArgs (W.fnOf x x (Ck st) (Bi st) (Am st) .none kV doc pm an cdv ct) ⟨us,[]⟩=pure (ps.zip us)
theorem of1 {P:List Value->Prop} (h:∀ a,P [a]):∀ us:List Value,us.length=1->P us:=by
 intro us e
 cases us with
 |nil=>cases e
 |cons a us =>
  cases us with
  |nil=>exact h a
  |cons _ _=>cases e
theorem of2 {P:List Value->Prop} (h:∀ a b,P [a,b]):∀ us:List Value,us.length=2->P us:=by
 intro us e
 cases us with
 |nil=>cases e
 |cons a us=>exact of1 (P:=fun us=>P (a::us)) (h a) us (Nat.succ.inj e)
theorem of3 {P:List Value->Prop} (h:∀ a b c,P [a,b,c]):∀ us:List Value,us.length=3->P us:=by
 intro us e
 cases us with
 |nil=>cases e
 |cons a us=>exact of2 (P:=fun us=>P (a::us)) (h a) us (Nat.succ.inj e)
structure FM (K:W.Frag) (x:Str) (st:Stmt):Prop where
 ex:∃ a fd,W.nsIn K mainGlobals x=some (some (.ref a))/\Fun K x x st a fd
theorem fm_mk {K:W.Frag}{x:Str}{st:Stmt}{f:Addr}{oc:Value}{od an:Option Addr}{osl:Array (Option Value)}{kV doc pm cdv ct:Value} (n:W.nsIn K mainGlobals x=some (some (.ref f))) (l:K.lookup f=some ⟨oc,od,.func (W.fnOf x x (Ck st) (Bi st) (Am st) .none kV doc pm an cdv ct),osl⟩)
  (c:W.codeIn K cdv x=true) (k:W.keepIn K (.ref f)=true):FM K x st:=⟨f,_,n,Gm l c k⟩
theorem FM.fd {K:W.Frag}{h:Heap}{mg:Str->Option Value}{x:Str}{st:Stmt}{ps:List Str} (F:FM K x st) (X:K.In h) (G:h.Ns mainGlobals mg)
  (hb:BH x st ps):FD K mg x st ps:=by
 obtain⟨a,fd,n,F⟩:=F.ex
 exact⟨a,fd,W.mg_of X G n,F,F.binds hb⟩
theorem FM.fd1 {K:W.Frag}{h:Heap}{mg:Str->Option Value}{x a:Str}{st:Stmt} (F:FM K x st) (X:K.In h) (G:h.Ns mainGlobals mg) (hb:BH x st [a]:=by exact fun _ _ _ _ _ _=>of1 fun _=>rfl):FD K mg x st [a]:=F.fd X G hb
theorem FM.fd2 {K:W.Frag}{h:Heap}{mg:Str->Option Value}{x a b:Str}{st:Stmt} (F:FM K x st) (X:K.In h) (G:h.Ns mainGlobals mg) (hb:BH x st [a,b]:=by exact fun _ _ _ _ _ _=>of2 fun _ _=>rfl):FD K mg x st [a,b]:=F.fd X G hb
theorem _root_.L2.Fun.binds2 {K:W.Frag}{x a b:Str}{st:Stmt}{f:Addr}{fd:FuncData} (F:Fun K x x st f fd) (hb:BH x st [a,b]:=by exact fun _ _ _ _ _ _=>of2 fun _ _=>rfl):Binds K fd [a,b] []:=F.binds hb
theorem FM.fd3 {K:W.Frag}{h:Heap}{mg:Str->Option Value}{x a b c:Str}{st:Stmt} (F:FM K x st) (X:K.In h) (G:h.Ns mainGlobals mg) (hb:BH x st [a,b,c]:=by exact fun _ _ _ _ _ _=>of3 fun _ _ _=>rfl):FD K mg x st [a,b,c]:=F.fd X G hb
section
variable {P:Program}{w:World}{K:W.Frag}{mg:Str->Option Value}{base:Heap}{x:Str}{st:Stmt}{ps:List Str}{k n:Nat}{tabs:List (Addr×Str)}{p:Addr}
theorem Dc (N:List Str) (T:FD K mg x st ps) (g:FS) (fn:List D->Option D)
  (hbody:∀ (f:Addr) (cdv:Value) (A:Around) (outer:List Env) (s:Shared) (H:Hp) (E:XK),Room k (A.deeper (envOfC x (Am st) s.heap.objs.size f cdv))->N.Nodup ->
   QSs (N7 CX0 P w K mg base N x (Am st) f cdv A outer s H E).nox (Bi st) g) (hfn:fn=Ef N.length g:=by rfl) (hn:ps.length=n:=by rfl) (S:FnScope N ps (Am st):=by exact⟨rfl,rfl,rfl,by decide +kernel,rfl,by decide +kernel,by decide +kernel⟩):Cl P w K mg base (k+1) x n fn:=by
 obtain⟨a,fd,m,F,b⟩:=T.ex
 exact⟨a,fd,ps,As5 F S g fn hfn hn fun cdv A outer s H E hr=>hbody a cdv A outer s H E hr S.nd,m,F.kp,b⟩
theorem X0 (N:List Str) (T:FDL K mg x st ps p) (g:FS) (fn:List D->Option D)
  (hbody:∀ (f:Addr) (fd:FuncData) (c:Addr) (A:Around) (outer:List Env) (s:Shared) (H:Hp) (E:XK),TabsH tabs H->Room k (A.deeper (envOfC x (Am st) s.heap.objs.size f fd.code))->N.Nodup->fd.code=.ref c->W.codeHdIn K c p=true ->
   QSs (N7 CX0 P w K mg base N x (Am st) f fd.code A outer s H E).nox (Bi st) g) (hfn:fn=Ef N.length g:=by rfl) (hn:ps.length=n:=by rfl) (S:FnScope N ps (Am st):=by exact⟨rfl,rfl,rfl,by decide +kernel,rfl,by decide +kernel,by decide +kernel⟩):ClT P w K mg base tabs (k+1) x n fn:=by
 obtain⟨a,fd,c,m,F,b,e1,e2⟩:=T.ex
 exact⟨a,fd,ps,Amp F S g fn hfn hn fun A outer s H E hT hr=>hbody a fd c A outer s H E hT hr S.nd e1 e2,m,F.kp,b⟩
end
section
variable {X:Cx}{e:Expr}{es:List Expr}{pos p p' cp:Pos}{x:Str}{k j n:Nat}{fn:List D->Option D}{g:FL}{tabs:List (Addr×Str)}{kp kp':Pos}{b:Bool}
theorem q_c (F:Cl X.prog X.w X.K X.mg X.base k x n fn) (hr:Room j X.A) (ha:QL X (e::es) g) (hk:k<=j:=by decide) (hg:Gl X x:=by unfold Gl;kernel_rfl) (hdb:(x == ("__debug__":Str))=false:=by decide) (he':Bc e=true:=by rfl) (hpl':es.all Bc=true:=by rfl) :
  QD X (.Call (.Name x p) (e::es) [] pos) (Ay (Ei n fn) g):=by
 obtain⟨a,fd,ps,F,m,kp,b⟩:=F.ex
 exact Ags F (hr.mono hk) m kp b ha hg hdb he' hpl'
theorem Ah4 (F:Cl X.prog X.w X.K X.mg X.base k x n fn) (hr:Room j X.A) (ha:QL X (e::es) g) (hk:k<=j:=by decide) (hg:Gl X x:=by unfold Gl;kernel_rfl) (hdb:(x == ("__debug__":Str))=false:=by decide) (he':Bc e=true:=by rfl) (hpl':es.all Bc=true:=by rfl) :
  QF X (.Call (.Name x p) (e::es) [] pos) (Eb (N3 n fn) g):=by
 obtain⟨a,fd,ps,F,m,kp,b⟩:=F.ex
 exact Agv F (hr.mono hk) m kp b ha hg hdb he' hpl'
theorem Aqp (F:Cl X.prog X.w X.K X.mg X.base k x n fn) (hr:Room j X.A) (ha:QL X (e::es) g) (hk:k<=j:=by decide) (hg:Gl X x:=by unfold Gl;kernel_rfl) (hdb:(x == ("__debug__":Str))=false:=by decide) (he':Bc e=true:=by rfl) (hpl':es.all Bc=true:=by rfl) :
  QD X (.Call (.Name x p) (e::es) [] pos) (Ay (Ep n fn) g):=by
 obtain⟨a,fd,ps,F,m,kp,b⟩:=F.ex
 exact Abb F (hr.mono hk) m kp b ha hg hdb he' hpl'
theorem Amm (hT:TabsH tabs X.H₀) (F:ClT X.prog X.w X.K X.mg X.base tabs k x n fn) (hr:Room j X.A) (ha:QL X (e::es) g) (hk:k<=j:=by decide) (hg:Gl X x:=by unfold Gl;kernel_rfl) (hdb:(x == ("__debug__":Str))=false:=by decide) (he':Bc e=true:=by rfl) (hpl':es.all Bc=true:=by rfl) :
  QD X (.Call (.Name x p) (e::es) [] pos) (Ay (Ei n fn) g):=by
 obtain⟨a,fd,ps,F,m,kp,b⟩:=F.ex
 exact Abc hT F (hr.mono hk) m kp b ha hg hdb he' hpl'
end
def fVI (i:Nat) (k:Int):FE:=f2 oIx (Ad i) (fC (.int k))
def fC1 (fn:List D->Option D) (a:FE):FE:=Ay (Ei 1 fn) (Aa a Aj)
def fC2 (fn:List D->Option D) (a b:FE):FE:=Ay (Ei 2 fn) (Aa a (Aa b Aj))
def fC3 (fn:List D->Option D) (a b c:FE):FE:=Ay (Ei 3 fn) (Aa a (Aa b (Aa c Aj)))
def fF1 (fn:List D->Option D) (a:FE):FL:=Eb (N3 1 fn) (Aa a Aj)
def fF3 (fn:List D->Option D) (a b c:FE):FL:=Eb (N3 3 fn) (Aa a (Aa b (Aa c Aj)))
end ML
end L2
end S_ML22
section S_TS1
open Lean in
set_option hygiene false in
local macro_rules|`(tactic| sizeOf_list_dec)=>do
 let n (s:String):TSyntax `ident:=mkIdent (mkPrivateNameCore `PySem.Builtin.List.W1All (Name.str `PySem.Builtin s))
 `(tactic| delta $(n "gallop"))
namespace L2
namespace TS
open PySem PySem.W PySem.Calls PyProof.Rows
noncomputable def Dh:Bool->Keyed->Array Keyed->Nat->Nat->Nat->StateT SortSt Sem (Option Nat):=sortPriv% PySem.Builtin.gallop
section
variable {σ:Type}{M:Model}{A:Around}{E:Value->Shared->Prop}
theorem A0 {β:Type}{a b:Nat}{c:β}{f:Nat->β->StateT σ Sem (ForInStep β)}{Q:β->σ->Shared->Prop}{st:σ}{s:Shared} (I:Nat->β->σ->Shared->Prop) (h0:I a c st s)
  (step:∀ x d st s,a<=x->x < b->I x d st s->kasC M A E (f x d) (fun r st' s'=>match r with|.done d'=>Q d' st' s'|.yield d'=>I (x+1) d' st' s') st s)
  (fin:∀ x d st s,b<=x->I x d st s->Q d st s):kasC M A E (forIn [a:b] c f) Q st s:=by
 refine kasC_range ?_
 generalize hn:b - a=n
 induction n generalizing a c st s with
 |zero=>exact kasC_nil (fin a c st s (by lia) h0)
 |succ n ih =>
  refine kasC_cons (Auq (step a c st s (Atp _) (by lia) h0) (fun r s' h=>?_) fun _ _ e=>e)
  obtain⟨r,st'⟩:=r
  cases r with
  |done d=>exact h
  |yield d=>exact ih h (fun x d st s h1 h2=>step x d st s (by lia) h2) (by lia)
end
section
variable {prog:Program}{w:World}{A:Around}{E:Value->Shared->Prop}{κ:SortKind}{it:Array Keyed}
structure Cm (prog:Program) (w:World) (A:Around) (κ:SortKind) (it:Array Keyed) (N:Nat) (c:Nat->Nat->Bool) (J:Shared->Prop):Prop where
 ask:∀ i j s,i < N->j < N->J s->kas_cmp prog w A κ it i j (fun b s'=>b=c i j/\J s') s
 irr:∀ i,c i i=false
 trans:∀ i j k,c i j=true->c j k=true->c i k=true
 tot:∀ i j,i < N->j < N->c i j=false->i≠j->c j i=true
variable {N:Nat}{c:Nat->Nat->Bool}{J:Shared->Prop}
theorem Ys (C:Cm prog w A κ it N c J) {i j:Nat}{st:SortSt}{s:Shared}{Q:Option Bool->SortSt->Shared->Prop} (hk:kindOf st=κ) (hi:i < N) (hj:j < N) (hJ:J s) (h:∀ s',J s'->Q (some (c i j)) st s') :
  kasC (model prog w) A E (lt' (kas_item it i) (kas_item it j)) Q st s:=by
 rw[lt'_eq]
 refine kasC_bind (kasC_get ?_)
 rw[hk]
 refine kasC_bind (kasC_lift (wpAny_attempt (Auq (C.ask i j s hi hj hJ) (fun b s' hc=>?_) fun _ _ hF=>hF.elim)))
 obtain⟨rfl,hJ'⟩:=hc
 exact kasC_pure (h s' hJ')
theorem Aht {p:Array Nat}{i:Nat} (hi:i < p.size):elem' (p.map (kas_item it)) i=pure (kas_item it p[i]):=by
 rw[elem'_eq]
 have:(p.map (kas_item it))[i]?=some (kas_item it p[i]):=by simp[hi]
 rw[this]
theorem Yr (C:Cm prog w A κ it N c J) {left:Bool}{k:Nat}{p:Array Nat}{base n hint:Nat}{st:SortSt}{s:Shared}{Q:Option Nat->SortSt->Shared->Prop} (hk:kindOf st=κ) (hJ:J s)
  (hkN:k < N) (hp:∀ i (h:i < p.size),p[i] < N) (hb:base+n<=p.size) (hh:hint < n)
  (B:Nat->Bool) (hB:∀ i (h:i < n),B i=if left=true then c (p[base+i]'(by lia)) k else !c k (p[base+i]'(by lia))) (mono:∀ i j,i<=j->j < n->B j=true->B i=true)
  (h:∀ K s',K<=n->(∀ i,i < K->B i=true)->(∀ i,K<=i->i < n->B i=false)->J s'->Q (some K) st s') :
  kasC (model prog w) A E (Dh left (kas_item it k) (p.map (kas_item it)) base n hint) Q st s:=by
 unfold Dh
 sizeOf_list_dec
 rw[show (sortPriv% PySem.Builtin.elem)=elem' from rfl,show (sortPriv% PySem.Builtin.lt)=lt' from rfl]
 have bey:∀ {i:Nat}{s:Shared}{R:Option Bool->SortSt->Shared->Prop},i < n->J s->(∀ s',J s'->R (some (B i)) st s') ->
   kasC (model prog w) A E (do
    let x <- elem' (p.map (kas_item it)) (base+i)
    if left then lt' x (kas_item it k) else return (<- lt' (kas_item it k) x).map (!·)) R st s:=fun {i s R} hi hJ hR=>by
  rw[Aht (by lia)]
  refine kasC_bind (kasC_pure ?_)
  have hpN:=hp (base+i) (by lia)
  have e:=hB i hi
  cases left with
  |true =>
   simp only[Av8] at e ⊢
   rw[e] at hR
   exact Ys C hk hpN hkN hJ hR
  |false =>
   simp only[Aum,Avn] at e ⊢
   rw[e] at hR
   exact kasC_bind (Ys C hk hkN hpN hJ fun s' hJ'=>kasC_pure (hR s' hJ'))
 have fin:∀ (lo hi:Nat) (s:Shared),J s->lo<=hi->hi<=n->(∀ i,i < lo->B i=true)->(∀ i,hi<=i->i < n->B i=false)->kasC (model prog w) A E (do
   let mut lo:=lo
   let mut hi:=hi
   for _ in [0:n] do
    if lo ≥ hi then break
    let m:=lo+(hi - lo) / 2
    let some more <- (do
     let x <- elem' (p.map (kas_item it)) (base+m)
     if left then lt' x (kas_item it k) else return (<- lt' (kas_item it k) x).map (!·))|return none
    if more then lo:=m+1 else hi:=m
   return some hi) Q st s:=fun lo hi s hJ hlh hhn h1 h2=>by
  have up:∀ j,j < n->B j=true->∀ i,i < j+1->B i=true:=fun j hj e i hi=>mono i j (by lia) hj e
  have dn:∀ j,B j=false->∀ i,j<=i->i < n->B i=false:=fun j e i h1 h2=>by
   cases q:B i with
   |false=>rfl
   |true=>rw[mono j i h1 h2 q] at e;cases e
  dsimp only
  have out:∀ (lo hi:Nat) (s:Shared),J s->lo<=hi->hi<=n->hi<=lo->(∀ i,i < lo->B i=true)->(∀ i,hi<=i->i < n->B i=false)->Q (some hi) st s:=fun lo hi s hJ _ hn hle h1 h2 =>
   h hi s hn (fun i hi'=>h1 i (by lia)) h2 hJ
  refine kasC_bind (A0 (fun x d st' s'=>st'=st/\J s'/\∃ lo hi,d=(none,lo,hi)/\lo<=hi/\hi<=n/\(∀ i,i < lo->B i=true)/\(∀ i,hi<=i->i < n->B i=false)/\hi - lo<=n - x) ⟨rfl,hJ,lo,hi,rfl,hlh,hhn,h1,h2,by lia⟩ ?_ ?_)
  ·rintro x d st' s' _ hx ⟨rfl,hJ',lo,hi,rfl,a1,a2,a3,a4,a5⟩
   dsimp only
   by_cases hlt:lo ≥ hi
   ·rw[Atq hlt]
    exact kasC_pure (kasC_pure (out lo hi s' hJ' a1 a2 hlt a3 a4))
   ·rw[Atl hlt]
    refine kasC_bind (bey (by lia) hJ' fun s2 hJ2=>?_)
    dsimp only
    cases q:B (lo+(hi - lo) / 2) with
    |true =>
     rw[Atq rfl]
     exact kasC_pure ⟨rfl,hJ2,_,_,rfl,by lia,a2,up _ (by lia) q,a4,by lia⟩
    |false =>
     rw[Atl (by simp)]
     exact kasC_pure ⟨rfl,hJ2,_,_,rfl,by lia,by lia,a3,dn _ q,by lia⟩
  ·rintro x d st' s' hx ⟨rfl,hJ',lo,hi,rfl,a1,a2,a3,a4,a5⟩
   exact kasC_pure (out lo hi s' hJ' a1 a2 (by lia) a3 a4)
 have up:∀ j,j < n->B j=true->∀ i,i < j+1->B i=true:=fun j hj e i hi=>mono i j (by lia) hj e
 have dn:∀ j,B j=false->∀ i,j<=i->i < n->B i=false:=fun j e i h1 h2=>by
  cases q:B i with
  |false=>rfl
  |true=>rw[mono j i h1 h2 q] at e;cases e
 dsimp only
 refine kasC_bind (bey hh hJ fun s1 hJ1=>?_)
 dsimp only
 cases q0:B hint with
 |true =>
  rw[Atq rfl]
  have out:∀ (la ofs:Nat) (s:Shared),J s->hint+la < n->B (hint+la)=true->la < ofs->(n - hint<=ofs\/(ofs < n - hint/\B (hint+ofs)=false))->kasC (model prog w) A E _ Q st s:=fun la ofs s hJ a1 a2 a3 a4 =>
   fin (hint+la+1) (hint+min ofs (n - hint)) s hJ (by lia) (by lia) (up _ a1 a2) fun i h1 h2=>by
    rcases a4 with a4|⟨a4,a5⟩
    ·lia
    ·exact dn _ a5 i (by lia) h2
  refine kasC_bind (A0 (fun x d st' s'=>st'=st/\J s'/\∃ la ofs,d=(none,la,ofs)/\hint+la < n/\B (hint+la)=true/\la < ofs/\x < ofs) ⟨rfl,hJ1,0,1,rfl,by lia,q0,by lia,by lia⟩ ?_ ?_)
  ·rintro x d st' s' _ hx ⟨rfl,hJ',la,ofs,rfl,a1,a2,a3,a4⟩
   dsimp only
   by_cases hlt:ofs ≥ n - hint
   ·rw[Atq hlt]
    exact kasC_pure (out la ofs s' hJ' a1 a2 a3 (.inl hlt))
   ·rw[Atl hlt]
    refine kasC_bind (bey (by lia) hJ' fun s2 hJ2=>?_)
    dsimp only
    cases q:B (hint+ofs) with
    |true =>
     rw[Atl (by simp)]
     exact kasC_pure ⟨rfl,hJ2,_,_,rfl,by lia,q,by lia,by lia⟩
    |false =>
     rw[Atq (by simp)]
     exact kasC_pure (out la ofs s2 hJ2 a1 a2 a3 (.inr ⟨by lia,q⟩))
  ·rintro x d st' s' hx ⟨rfl,hJ',la,ofs,rfl,a1,a2,a3,a4⟩
   exact out la ofs s' hJ' a1 a2 a3 (.inl (by lia))
 |false =>
  rw[Atl (by simp)]
  have out:∀ (la ofs:Nat) (s:Shared),J s->la<=hint->B (hint - la)=false->la < ofs->(hint+1<=ofs\/(ofs < hint+1/\B (hint - ofs)=true))->kasC (model prog w) A E _ Q st s:=fun la ofs s hJ a1 a2 a3 a4 =>
   fin (hint+1 - min ofs (hint+1)) (hint - la) s hJ (by lia) (by lia) (fun i hi=>by
    rcases a4 with a4|⟨a4,a5⟩
    ·lia
    ·exact up _ (by lia) a5 i (by lia)) (dn _ a2)
  refine kasC_bind (A0 (fun x d st' s'=>st'=st/\J s'/\∃ la ofs,d=(none,la,ofs)/\la<=hint/\B (hint - la)=false/\la < ofs/\x < ofs) ⟨rfl,hJ1,0,1,rfl,by lia,q0,by lia,by lia⟩ ?_ ?_)
  ·rintro x d st' s' _ hx ⟨rfl,hJ',la,ofs,rfl,a1,a2,a3,a4⟩
   dsimp only
   by_cases hlt:ofs ≥ hint+1
   ·rw[Atq hlt]
    exact kasC_pure (out la ofs s' hJ' a1 a2 a3 (.inl hlt))
   ·rw[Atl hlt]
    refine kasC_bind (bey (by lia) hJ' fun s2 hJ2=>?_)
    dsimp only
    cases q:B (hint - ofs) with
    |true =>
     rw[Atq rfl]
     exact kasC_pure (out la ofs s2 hJ2 a1 a2 a3 (.inr ⟨by lia,q⟩))
    |false =>
     rw[Atl (by simp)]
     exact kasC_pure ⟨rfl,hJ2,_,_,rfl,by lia,q,by lia,by lia⟩
  ·rintro x d st' s' hx ⟨rfl,hJ',la,ofs,rfl,a1,a2,a3,a4⟩
   exact out la ofs s' hJ' a1 a2 a3 (.inl (by lia))
end
end TS
end L2
end S_TS1
section S_TS2
namespace L2
namespace TS
open PySem PySem.W PySem.Calls PyProof.Rows
noncomputable def G5:Array Keyed->Array Keyed->StateT SortSt Sem (Array Keyed):=sortPriv% PySem.Builtin.mergeLo
section
variable {prog:Program}{w:World}{A:Around}{E:Value->Shared->Prop}{κ:SortKind}{it:Array Keyed}{N:Nat}{c:Nat->Nat->Bool}{J:Shared->Prop}
structure MI (c:Nat->Nat->Bool) (X Y O:List Nat) (ia ib:Nat):Prop where
 perm:(O++(X.drop ia++Y.drop ib)).Perm (X++Y)
 srt:O.Pairwise fun x y=>c x y=true
 oa:∀ x∈O,∀ y∈X.drop ia,c x y=true
 ob:∀ x∈O,∀ y∈Y.drop ib,c x y=true
variable {X Y O:List Nat}{ia ib:Nat}
theorem Nb (h:X.Pairwise fun x y=>c x y=true) (hi:ia < X.length):∀ y∈X.drop (ia+1),c X[ia] y=true:=by
 have e:X.drop ia=X[ia]::X.drop (ia+1):=At9 hi
 have:=h.sublist (List.drop_sublist ia X)
 rw[e] at this
 exact (List.pairwise_cons.mp this).1
theorem MI.pushA (h:MI c X Y O ia ib) (tr:∀ i j k,c i j=true->c j k=true->c i k=true) (hX:X.Pairwise fun x y=>c x y=true) (hY:Y.Pairwise fun x y=>c x y=true) (hi:ia < X.length) (hc:∀ hb:ib < Y.length,c X[ia] Y[ib]=true):MI c X Y (O++[X[ia]]) (ia+1) ib:=by
 have e:X.drop ia=X[ia]::X.drop (ia+1):=At9 hi
 have hp:=h.perm
 have oa:=h.oa
 rw[e] at hp oa
 refine⟨by rw[List.append_assoc];exact hp,List.pairwise_append.mpr ⟨h.srt,Avt ..,fun x hx y hy=>?_⟩,fun x hx y hy=>?_,fun x hx y hy=>?_⟩
 ·simp at hy;subst hy;exact oa x hx _ (Atk ..)
 ·rcases List.mem_append.mp hx with hx|hx
  ·exact oa x hx y (Atn _ hy)
  ·simp at hx;subst hx;exact Nb hX hi y hy
 ·rcases List.mem_append.mp hx with hx|hx
  ·exact h.ob x hx y hy
  ·simp at hx;subst hx
   by_cases hb:ib < Y.length
   ·have e2:Y.drop ib=Y[ib]::Y.drop (ib+1):=At9 hb
    rw[e2] at hy
    rcases List.mem_cons.mp hy with rfl|hy
    ·exact hc hb
    ·exact tr _ _ _ (hc hb) (Nb hY hb y hy)
   ·rw[Auv (by lia)] at hy;cases hy
theorem MI.swap (h:MI c X Y O ia ib):MI c Y X O ib ia:=⟨(List.Perm.append_left O List.perm_append_comm).trans (h.perm.trans List.perm_append_comm),h.srt,h.ob,h.oa⟩
theorem MI.pushB (h:MI c X Y O ia ib) (tr:∀ i j k,c i j=true->c j k=true->c i k=true) (hX:X.Pairwise fun x y=>c x y=true) (hY:Y.Pairwise fun x y=>c x y=true) (hi:ib < Y.length) (hc:∀ hb:ia < X.length,c Y[ib] X[ia]=true):MI c X Y (O++[Y[ib]]) ia (ib+1) :=
 (h.swap.pushA tr hY hX hi hc).swap
theorem MI.pushAs (tr:∀ i j k,c i j=true->c j k=true->c i k=true) (hX:X.Pairwise fun x y=>c x y=true) (hY:Y.Pairwise fun x y=>c x y=true):∀ {k ia:Nat}{O:List Nat},MI c X Y O ia ib->ia+k<=X.length->(∀ i (h:ia+i < X.length) (hb:ib < Y.length),i < k->c X[ia+i] Y[ib]=true)->MI c X Y (O++(X.drop ia).take k) (ia+k) ib
 |0,ia,O,h,_,_=>by simpa using h
 |k+1,ia,O,h,hl,hc=>by
  have h1:=h.pushA tr hX hY (by lia) fun hb=>hc 0 (by lia) hb (by lia)
  have h2:=MI.pushAs tr hX hY (k:=k) h1 (by lia) fun i hi hb hk=>by
   have:=hc (i+1) (by lia) hb (by lia)
   simp only[show ia+1+i=ia+(i+1) by lia];exact this
  rw[show ia+1+k=ia+(k+1) by lia,List.append_assoc] at h2
  have e:X.drop ia=X[ia]::X.drop (ia+1):=At9 (by lia)
  rw[e,List.take_succ_cons]
  exact h2
theorem MI.pushBs (tr:∀ i j k,c i j=true->c j k=true->c i k=true) (hX:X.Pairwise fun x y=>c x y=true) (hY:Y.Pairwise fun x y=>c x y=true) {k:Nat} (h:MI c X Y O ia ib) (hl:ib+k<=Y.length) (hc:∀ i (h:ib+i < Y.length) (hb:ia < X.length),i < k->c Y[ib+i] X[ia]=true):MI c X Y (O++(Y.drop ib).take k) ia (ib+k) :=
 (MI.pushAs tr hY hX h.swap hl hc).swap
def Mrg (c:Nat->Nat->Bool) (X Y R:List Nat):Prop:=R.Perm (X++Y)/\R.Pairwise fun x y=>c x y=true
theorem MI.doneA (h:MI c X Y O ia ib) (hX:X.Pairwise fun x y=>c x y=true) (hb:Y.length<=ib):Mrg c X Y (O++(X.drop ia++Y.drop ib)):=by
 refine⟨h.perm,?_⟩
 rw[Auv hb,At6]
 exact List.pairwise_append.mpr ⟨h.srt,hX.sublist (List.drop_sublist ia X),h.oa⟩
theorem MI.doneB (h:MI c X Y O ia ib) (hY:Y.Pairwise fun x y=>c x y=true) (ha:X.length<=ia):Mrg c X Y (O++(X.drop ia++Y.drop ib)):=by
 refine⟨h.perm,?_⟩
 rw[Auv ha,Au9]
 exact List.pairwise_append.mpr ⟨h.srt,hY.sublist (List.drop_sublist ib Y),h.ob⟩
theorem MI.last (h:MI c X Y O ia ib) (hY:Y.Pairwise fun x y=>c x y=true) (ha:ia+1=X.length) (hl:∀ y∈Y,c y (X[ia]'(by lia))=true):Mrg c X Y (O++(Y.drop ib++X.drop ia)):=by
 refine⟨h.swap.perm.trans List.perm_append_comm,?_⟩
 have e:X.drop ia=[X[ia]'(by lia)]:=by rw[At9 (by lia),Auv (by lia)]
 refine List.pairwise_append.mpr ⟨h.srt,List.pairwise_append.mpr ⟨hY.sublist (List.drop_sublist ib Y),by rw[e];exact Avt ..,fun y hy x hx=>?_⟩,fun x hx y hy=>?_⟩
 ·rw[e] at hx;simp at hx;subst hx;exact hl y (List.mem_of_mem_drop hy)
 ·rcases List.mem_append.mp hy with q|q
  ·exact h.ob x hx y q
  ·exact h.oa x hx y q
end
end TS
end L2
end S_TS2
section S_TS3
open Lean in
set_option hygiene false in
local macro_rules|`(tactic| sizeOf_list_dec)=>do
 let n (s:String):TSyntax `ident:=mkIdent (mkPrivateNameCore `PySem.Builtin.List.W1All (Name.str `PySem.Builtin s))
 `(tactic| delta $(n "mergeLo"))
namespace L2
namespace TS
open PySem PySem.W PySem.Calls PyProof.Rows
section
variable {prog:Program}{w:World}{A:Around}{E:Value->Shared->Prop}{κ:SortKind}{it:Array Keyed}{N:Nat}{c:Nat->Nat->Bool}{J:Shared->Prop}
abbrev ks (it:Array Keyed) (X:List Nat):Array Keyed:=(X.map (kas_item it)).toArray
theorem Bj {X:List Nat}{i:Nat} (h:i < X.length):elem' (ks it X) i=pure (kas_item it X[i]):=by
 rw[elem'_eq]
 have:(ks it X)[i]?=some (kas_item it X[i]):=by simp[h]
 rw[this]
theorem Vk (X:List Nat):(ks it X).size=X.length:=by simp
theorem Dt (X:List Nat) (x:Nat):(ks it X).push (kas_item it x)=ks it (X++[x]):=by simp
theorem Cs (X Y:List Nat):ks it X++ks it Y=ks it (X++Y):=by simp
theorem Mz (X:List Nat) (i k:Nat):(ks it X).extract i (i+k)=ks it ((X.drop i).take k):=by
 simp[ks,List.extract_eq_take_drop,List.map_take,List.map_drop]
theorem Gb (X:List Nat) (i:Nat) (h:i<=X.length):(ks it X).extract i X.length=ks it (X.drop i):=by
 have:=Mz (it:=it) X i (X.length - i)
 rw[show i+(X.length - i)=X.length by lia] at this
 rw[this,Aun (by simp)]
theorem A3 {σ α:Type}{M:Model}{A:Around}{E:Value->Shared->Prop}{m:StateT σ Sem α}{P Q:α->σ->Shared->Prop}{st:σ}{s:Shared} (h:kasC M A E m P st s) (i:∀ a st s,P a st s->Q a st s):kasC M A E m Q st s :=
 Auq h (fun r s' h'=>i r.1 r.2 s' h') fun _ _ e=>e
def GS (st st':SortSt):Prop:=∃ g,st'=SortSt.mk' (kindOf st) (arrOf st) (pendingOf st) g (failedOf st)
theorem Pe (C:Cm prog w A κ it N c J) {left:Bool}{k:Nat}{X:List Nat}{base n hint:Nat}{st:SortSt}{s:Shared}{Q:Option Nat->SortSt->Shared->Prop} (hk:kindOf st=κ) (hJ:J s)
  (hkN:k < N) (hp:∀ x∈X,x < N) (hb:base+n<=X.length) (hh:hint < n) (hX:∀ i j (qi:i < X.length) (qj:j < X.length),base<=i->i < j->j < base+n->c X[i] X[j]=true)
  (h:∀ K s',K<=n->(∀ i (q:base+i < X.length),i < K->(if left=true then c X[base+i] k else !c k X[base+i])=true)->(∀ i (q:base+i < X.length),K<=i->i < n->(if left=true then c X[base+i] k else !c k X[base+i])=false)->J s'->Q (some K) st s') :
  kasC (model prog w) A E (Dh left (kas_item it k) (ks it X) base n hint) Q st s:=by
 have e:ks it X=X.toArray.map (kas_item it):=by simp
 rw[e]
 let B:Nat->Bool:=fun i=>if left=true then c (X.getD (base+i) 0) k else !c k (X.getD (base+i) 0)
 have hd:∀ i (q:base+i < X.length),X.getD (base+i) 0=X[base+i]:=fun i q=>by simp[q]
 refine Yr C hk hJ hkN (fun i h=>hp _ (Atr _)) (by simpa using hb) hh B (fun i hi=>?_) (fun i j hij hj hB=>?_) fun K s' hK h1 h2 hJ'=>h K s' hK (fun i q hi=>?_) (fun i q hi hn=>?_) hJ'
 ·show (if left=true then c (X.getD (base+i) 0) k else !c k (X.getD (base+i) 0))=_
  rw[hd i (by lia)];rfl
 ·rcases Nat.lt_or_eq_of_le hij with lt|rfl
  ·have qi:base+i < X.length:=by lia
   have qj:base+j < X.length:=by lia
   have hc:c X[base+i] X[base+j]=true:=hX _ _ qi qj (by lia) (by lia) (by lia)
   have hB:(if left=true then c (X.getD (base+j) 0) k else !c k (X.getD (base+j) 0))=true:=hB
   show (if left=true then c (X.getD (base+i) 0) k else !c k (X.getD (base+i) 0))=true
   rw[hd i qi]
   rw[hd j qj] at hB
   cases left with
   |true =>
    simp only[Av8] at hB ⊢
    exact C.trans _ _ _ hc hB
   |false =>
    simp only[Aum,Avn,Bool.not_eq_true'] at hB ⊢
    cases q:c k X[base+i] with
    |false=>rfl
    |true=>rw[C.trans _ _ _ q hc] at hB;cases hB
  ·exact hB
 ·have:=h1 i hi
  have this:(if left=true then c (X.getD (base+i) 0) k else !c k (X.getD (base+i) 0))=true:=this
  rw[hd i q] at this;exact this
 ·have:=h2 i hi hn
  have this:(if left=true then c (X.getD (base+i) 0) k else !c k (X.getD (base+i) 0))=false:=this
  rw[hd i q] at this;exact this
theorem Rp (C:Cm prog w A κ it N c J) {left:Bool}{k:Nat}{X:List Nat}{base n hint:Nat}{st:SortSt}{s:Shared}{Q:Option Nat->SortSt->Shared->Prop} (hk:kindOf st=κ) (hJ:J s)
  (hkN:k < N) (hp:∀ x∈X,x < N) (hb:base+n<=X.length) (hh:hint < n) (hX:X.Pairwise fun x y=>c x y=true)
  (h:∀ K s',K<=n->(∀ i (q:base+i < X.length),i < K->(if left=true then c X[base+i] k else !c k X[base+i])=true)->(∀ i (q:base+i < X.length),K<=i->i < n->(if left=true then c X[base+i] k else !c k X[base+i])=false)->J s'->Q (some K) st s') :
  kasC (model prog w) A E (Dh left (kas_item it k) (ks it X) base n hint) Q st s :=
 Pe C hk hJ hkN hp hb hh (fun i j qi qj _ hij _=>List.pairwise_iff_getElem.mp hX i j qi qj hij) h
theorem T3 (C:Cm prog w A κ it N c J) {X Y:List Nat}{st:SortSt}{s:Shared}{Q:Array Keyed->SortSt->Shared->Prop} (hk:kindOf st=κ) (hJ:J s)
  (hXN:∀ x∈X,x < N) (hYN:∀ y∈Y,y < N) (hX:X.Pairwise fun x y=>c x y=true) (hY:Y.Pairwise fun x y=>c x y=true) (dis:∀ x∈X,∀ y∈Y,x≠y) (hx:0 < X.length) (hy:0 < Y.length)
  (h1:c Y[0] X[0]=true) (h2:∀ y∈Y,c y (X[X.length - 1]'(by lia))=true)
  (h:∀ R st' s',Mrg c X Y R->GS st st'->J s'->Q (ks it R) st' s') :
  kasC (model prog w) A E (G5 (ks it X) (ks it Y)) Q st s:=by
 unfold G5
 sizeOf_list_dec
 rw[show (sortPriv% PySem.Builtin.elem)=elem' from rfl,show (sortPriv% PySem.Builtin.lt)=lt' from rfl,show (sortPriv% PySem.Builtin.gallop)=Dh from rfl]
 refine kasC_bind (kasC_lift (wpAny_rule ?_))
 have m0:MI c X Y [] 0 0:=⟨by simp,.nil,(fun x h=>nomatch h),fun x h=>nomatch h⟩
 have m1:=m0.pushB C.trans hX hY hy fun _=>h1
 rw[Bj hy]
 refine kasC_bind (kasC_pure ?_)
 simp only[Vk]
 rw[show (#[kas_item it Y[0]]:Array Keyed)=ks it [Y[0]] from rfl]
 have m1:MI c X Y [Y[0]] 0 1:=m1
 -- the three ways out
 have dA:∀ {O:List Nat}{ia ib:Nat}{st':SortSt}{s':Shared},MI c X Y O ia ib->ia<=X.length->ib=Y.length->GS st st'->J s'->Q (ks it O++(ks it X).extract ia X.length++(ks it Y).extract ib Y.length) st' s':=fun {O ia ib st' s'} m ha hb g hJ=>by
  rw[Gb X ia ha,Gb Y ib (by lia),Cs,Cs,List.append_assoc]
  exact h _ _ _ (m.doneA hX (by lia)) g hJ
 have dB:∀ {O:List Nat}{ia ib:Nat}{st':SortSt}{s':Shared},MI c X Y O ia ib->ia=X.length->ib<=Y.length->GS st st'->J s'->Q (ks it O++(ks it X).extract ia X.length++(ks it Y).extract ib Y.length) st' s':=fun {O ia ib st' s'} m ha hb g hJ=>by
  rw[Gb X ia (by lia),Gb Y ib hb,Cs,Cs,List.append_assoc]
  exact h _ _ _ (m.doneB hY (by lia)) g hJ
 have dL:∀ {O:List Nat}{ia ib:Nat}{st':SortSt}{s':Shared},MI c X Y O ia ib->ia+1=X.length->ib<=Y.length->GS st st'->J s'->Q (ks it O++(ks it Y).extract ib Y.length++(ks it X).extract ia X.length) st' s':=fun {O ia ib st' s'} m ha hb g hJ=>by
  rw[Gb X ia (by lia),Gb Y ib hb,Cs,Cs,List.append_assoc]
  refine h _ _ _ (m.last hY ha fun y hy=>?_) g hJ
  have:=h2 y hy
  simp only[show X.length - 1=ia by lia] at this
  exact this
 by_cases e1:(1 == Y.length)=true
 ·rw[Atq e1]
  exact kasC_pure (dA m1 (by lia) (by simpa using e1) ⟨_,rfl⟩ hJ)
 rw[Atl e1]
 by_cases e2:(0+1 == X.length)=true
 ·rw[Atq e2]
  exact kasC_pure (dL m1 (by simpa using e2) (by lia) ⟨_,rfl⟩ hJ)
 rw[Atl e2]
 refine kasC_bind (kasC_get ?_)
 have n1:1 < Y.length:=by simp at e1;lia
 have n2:1 < X.length:=by simp at e2;lia
 refine kasC_bind (A3 (P:=fun d st' s'=>∃ r,d.1=some r/\Q r st' s') (A0 (fun x d st' s'=>GS st st'/\J s'/\∃ O ia ib g,d=(none,ks it O,ia,ib,g)/\MI c X Y O ia ib/\ia+1 < X.length/\ib < Y.length/\(X.length - ia)+(Y.length - ib)+x+1<=X.length+Y.length) ⟨⟨_,rfl⟩,hJ,_,0,1,_,rfl,m1,by lia,by lia,by lia⟩ ?_ ?_) ?_)
 rotate_left
 ·rintro x d st' s' hx ⟨_,_,O,ia,ib,g,rfl,m,b1,b2,b3⟩
  exact absurd b3 (by lia)
 ·rintro ⟨d1,d2⟩ st' s' ⟨r,e,hq⟩
  cases e
  exact kasC_pure hq
 rintro x d st' s' _ hx ⟨g0,hJ',O,ia,ib,g,rfl,m,b1,b2,b3⟩
 dsimp only
 refine kasC_bind (A3 (P:=fun d st' s'=>GS st st'/\J s'/\((∃ r,d.1=some r/\Q r st' s')\/∃ O' ia' ib' ac bc,d=(none,ks it O',ia',ib',ac,bc)/\MI c X Y O' ia' ib'/\ia'+1 < X.length/\ib' < Y.length/\(X.length - ia')+(Y.length - ib')+1<=(X.length - ia)+(Y.length - ib))) (A0 (fun y d st' s'=>GS st st'/\J s'/\∃ O' ia' ib' ac bc,d=(none,ks it O',ia',ib',ac,bc)/\MI c X Y O' ia' ib'/\ia'+1 < X.length/\ib' < Y.length/\(X.length - ia')+(Y.length - ib')+y<=(X.length - ia)+(Y.length - ib)) ⟨g0,hJ',O,ia,ib,0,0,rfl,m,b1,b2,by lia⟩ ?_ ?_) ?_)
 rotate_left
 ·rintro y d st2 s2 hy2 ⟨_,_,O',ia',ib',ac,bc,rfl,m',c1,c2,c3⟩
  exact absurd c3 (by lia)
 rotate_left
 ·rintro y d st2 s2 _ hy2 ⟨g2,hJ2,O',ia',ib',ac,bc,rfl,m',c1,c2,c3⟩
  obtain⟨gg,rfl⟩:=g2
  dsimp only
  rw[Bj c2,Bj (show ia' < X.length by lia)]
  refine kasC_bind (kasC_pure (kasC_bind (kasC_pure (kasC_bind (Ys C hk (hYN _ (Atr _)) (hXN _ (Atr _)) hJ2 fun s3 hJ3=>?_)))))
  dsimp only
  cases q:c Y[ib'] X[ia'] with
  |true =>
   rw[Atq rfl]
   refine kasC_bind (kasC_pure ?_)
   have m2:=m'.pushB C.trans hX hY c2 fun _=>q
   rw[Dt]
   by_cases e3:(ib'+1 == Y.length)=true
   ·rw[Atq e3]
    exact kasC_pure ⟨⟨_,rfl⟩,hJ3,.inl ⟨_,rfl,dA m2 (by lia) (by simpa using e3) ⟨_,rfl⟩ hJ3⟩⟩
   ·rw[Atl e3]
    have e3:ib'+1 < Y.length:=by simp at e3;lia
    by_cases e4:bc+1 ≥ g
    ·rw[Atq e4]
     exact kasC_pure ⟨⟨_,rfl⟩,hJ3,.inr ⟨_,_,_,_,_,rfl,m2,c1,e3,by lia⟩⟩
    ·rw[Atl e4]
     exact kasC_pure ⟨⟨_,rfl⟩,hJ3,_,_,_,_,_,rfl,m2,c1,e3,by lia⟩
  |false =>
   rw[Atl (by simp)]
   refine kasC_bind (kasC_pure ?_)
   have m2:=m'.pushA C.trans hX hY (by lia) fun hb=>C.tot _ _ (hYN _ (Atr _)) (hXN _ (Atr _)) q (fun e=>dis _ (Atr _) _ (Atr _) e.symm)
   rw[Dt]
   by_cases e3:(ia'+1+1 == X.length)=true
   ·rw[Atq e3]
    exact kasC_pure ⟨⟨_,rfl⟩,hJ3,.inl ⟨_,rfl,dL m2 (by simpa using e3) (by lia) ⟨_,rfl⟩ hJ3⟩⟩
   ·rw[Atl e3]
    have e3:ia'+1+1 < X.length:=by simp at e3;lia
    by_cases e4:ac+1 ≥ g
    ·rw[Atq e4]
     exact kasC_pure ⟨⟨_,rfl⟩,hJ3,.inr ⟨_,_,_,_,_,rfl,m2,e3,c2,by lia⟩⟩
    ·rw[Atl e4]
     exact kasC_pure ⟨⟨_,rfl⟩,hJ3,_,_,_,_,_,rfl,m2,e3,c2,by lia⟩
 rintro ⟨d1,d2⟩ st2 s2 ⟨g2,hJ2,⟨r,e,hq⟩|⟨O1,ia1,ib1,ac1,bc1,e,m1,k1,k2,k3⟩⟩
 ·cases e
  exact kasC_pure ⟨r,rfl,hq⟩
 cases e
 dsimp only
 refine kasC_bind (kasC_lift (wpAny_rule ?_))
 refine kasC_bind (A3 (P:=fun d st' s'=>GS st st'/\J s'/\((∃ r,d.1=some r/\Q r st' s')\/∃ O' ia' ib' g ac bc,d=(none,ks it O',ia',ib',g,ac,bc)/\MI c X Y O' ia' ib'/\ia'+1 < X.length/\ib' < Y.length/\(X.length - ia')+(Y.length - ib')<=(X.length - ia1)+(Y.length - ib1))) (A0 (fun y d st' s'=>GS st st'/\J s'/\∃ O' ia' ib' g ac bc,d=(none,ks it O',ia',ib',g,ac,bc)/\MI c X Y O' ia' ib'/\ia'+1 < X.length/\ib' < Y.length/\(X.length - ia')+(Y.length - ib')<=(X.length - ia1)+(Y.length - ib1)) ⟨g2,hJ2,O1,ia1,ib1,_,_,_,rfl,m1,k1,k2,by lia⟩ ?_ ?_) ?_)
 rotate_left
 ·rintro y d st3 s3 hy2 ⟨g3,hJ3,O',ia',ib',gm,ac,bc,rfl,m',c1,c2,c3⟩
  exact⟨g3,hJ3,.inr ⟨_,_,_,_,_,_,rfl,m',c1,c2,c3⟩⟩
 ·rintro ⟨d1,d2⟩ st3 s3 ⟨g3,hJ3,⟨r,e,hq⟩|⟨O',ia',ib',gm,ac,bc,e,m',c1,c2,c3⟩⟩
  ·cases e
   exact kasC_pure ⟨r,rfl,hq⟩
  ·cases e
   obtain⟨gg,rfl⟩:=g3
   exact kasC_bind (kasC_modify (kasC_pure ⟨⟨_,rfl⟩,hJ3,O',ia',ib',_,rfl,m',c1,c2,by lia⟩))
 rintro y d st3 s3 _ hy2 ⟨g3,hJ3,O',ia',ib',gm,ac,bc,rfl,m',c1,c2,c3⟩
 obtain⟨gg,rfl⟩:=g3
 have ne:∀ {i j:Nat} (hi:i < X.length) (hj:j < Y.length),Y[j]≠X[i]:=fun hi hj e=>dis _ (Atr hi) _ (Atr hj) e.symm
 have lt':∀ {i j:Nat} (hi:i < X.length) (hj:j < Y.length),c Y[j] X[i]=false->c X[i] Y[j]=true:=fun hi hj q=>C.tot _ _ (hYN _ (Atr hj)) (hXN _ (Atr hi)) q (ne hi hj)
 dsimp only
 rcases Nat.lt_or_ge 1 gm with hg|hg
 rw[Atq hg]
 rotate_left
 rw[Atl (Nat.not_lt.mpr hg)]
 all_goals
  refine kasC_bind (kasC_modify ?_)
  rw[Bj c2]
  refine kasC_bind (kasC_pure (kasC_bind (Rp C hk hJ3 (hYN _ (Atr _)) hXN (by lia) (by lia) hX fun K s4 hK p1 p2 hJ4=>?_)))
  dsimp only
  have fst:∀ hq:ia'+K < X.length,c Y[ib'] X[ia'+K]=true:=fun hq=>by
   have:=p2 K hq (Atp _) (by lia)
   simpa using this
  have m2:=MI.pushAs C.trans hX hY (k:=K) m' (by lia) fun i hi hb hik=>lt' hi hb (by have:=p1 i hi hik;simpa using this)
  rcases Nat.lt_or_ge 0 K with hK0|hK0
  rw[Atq hK0,Mz,Cs]
  generalize hO2:O'++(X.drop ia').take K=O2 at m2 ⊢
  generalize hi2:ia'+K=i2 at m2 fst ⊢
  by_cases e5:(i2+1 == X.length)=true
  ·rw[Atq e5]
   exact kasC_pure ⟨⟨_,rfl⟩,hJ4,.inl ⟨_,rfl,dL m2 (by simpa using e5) (by lia) ⟨_,rfl⟩ hJ4⟩⟩
  rw[Atl e5]
  by_cases e6:(i2 == X.length)=true
  ·rw[Atq e6]
   exact kasC_pure ⟨⟨_,rfl⟩,hJ4,.inl ⟨_,rfl,dB m2 (by simpa using e6) (by lia) ⟨_,rfl⟩ hJ4⟩⟩
  rw[Atl e6]
  have l2:i2+1 < X.length:=by simp at e5 e6;lia
  rotate_left
  rw[Atl (Nat.not_lt.mpr hK0)]
  have hK1:K=0:=by lia
  have l2:ia'+1 < X.length:=c1
  have m2:=m'
  have hi2:ia'+K=ia':=by lia
  have fst:∀ hq:ia' < X.length,c Y[ib'] X[ia']=true:=fun hq=>by
   have:=fst (by lia)
   simpa [hK1] using this
  generalize hO2:O'=O2 at m2 ⊢
  generalize hq2:ia'=i2 at m2 fst l2 hi2 ⊢
  all_goals
   try rw[Bj c2]
   refine kasC_bind (kasC_pure ?_)
   rw[Dt]
   have m3:=m2.pushB C.trans hX hY c2 fun hb=>fst hb
   generalize hO3:O2++[Y[ib']]=O3 at m3 ⊢
   by_cases e7:(ib'+1 == Y.length)=true
   ·rw[Atq e7]
    exact kasC_pure ⟨⟨_,rfl⟩,hJ4,.inl ⟨_,rfl,dA m3 (by lia) (by simpa using e7) ⟨_,rfl⟩ hJ4⟩⟩
   rw[Atl e7]
   have e7:ib'+1 < Y.length:=by simp at e7;lia
   rw[Bj (show i2 < X.length by lia)]
   refine kasC_bind (kasC_pure (kasC_bind (Rp C hk hJ4 (hXN _ (Atr _)) hYN (by lia) (by lia) hY fun K2 s5 hK2 p3 p4 hJ5=>?_)))
   dsimp only
   have snd:∀ hq:ib'+1+K2 < Y.length,c X[i2] Y[ib'+1+K2]=true:=fun hq=>by
    have:=p4 K2 hq (Atp _) (by lia)
    exact lt' (by lia) hq (by simpa using this)
   have m4:=MI.pushBs C.trans hX hY (k:=K2) m3 (by lia) fun i hi hb hik=>by have:=p3 i hi hik;simpa using this
   rcases Nat.lt_or_ge 0 K2 with hL0|hL0
   rw[Atq hL0,Mz,Cs]
   generalize hO4:O3++(Y.drop (ib'+1)).take K2=O4 at m4 ⊢
   generalize hj2:ib'+1+K2=j2 at m4 snd ⊢
   by_cases e8:(j2 == Y.length)=true
   ·rw[Atq e8]
    exact kasC_pure ⟨⟨_,rfl⟩,hJ5,.inl ⟨_,rfl,dA m4 (by lia) (by simpa using e8) ⟨_,rfl⟩ hJ5⟩⟩
   rw[Atl e8]
   have l3:j2 < Y.length:=by simp at e8;lia
   rotate_left
   rw[Atl (Nat.not_lt.mpr hL0)]
   have hL1:K2=0:=by lia
   have l3:ib'+1 < Y.length:=e7
   have m4:=m3
   have hj2:ib'+1+K2=ib'+1:=by lia
   have snd:∀ hq:ib'+1 < Y.length,c X[i2] Y[ib'+1]=true:=fun hq=>by
    have:=snd (by lia)
    simpa [hL1] using this
   generalize hO4:O3=O4 at m4 ⊢
   generalize hq3:ib'+1=j2 at m4 snd l3 hj2 ⊢
   all_goals
    try rw[Bj (show i2 < X.length by lia)]
    refine kasC_bind (kasC_pure ?_)
    rw[Dt]
    have m5:=m4.pushA C.trans hX hY (show i2 < X.length by lia) fun hb=>snd hb
    by_cases e9:(i2+1+1 == X.length)=true
    ·rw[Atq e9]
     exact kasC_pure ⟨⟨_,rfl⟩,hJ5,.inl ⟨_,rfl,dL m5 (by simpa using e9) (by lia) ⟨_,rfl⟩ hJ5⟩⟩
    rw[Atl e9]
    have e9:i2+1+1 < X.length:=by simp at e9;lia
    by_cases e10:(decide (K < 7)&&decide (K2 < 7))=true
    ·rw[Atq e10]
     exact kasC_pure ⟨⟨_,rfl⟩,hJ5,.inr ⟨_,_,_,_,_,_,rfl,m5,e9,l3,by lia⟩⟩
    ·rw[Atl e10]
     exact kasC_pure ⟨⟨_,rfl⟩,hJ5,_,_,_,_,_,_,rfl,m5,e9,l3,by lia⟩
end
end TS
end L2
end S_TS3
section S_TS4
namespace L2
namespace TS
open PySem PySem.W PySem.Calls PyProof.Rows
noncomputable def G4:Array Keyed->Array Keyed->StateT SortSt Sem (Array Keyed):=sortPriv% PySem.Builtin.mergeHi
section
variable {c:Nat->Nat->Bool}
structure MH (c:Nat->Nat->Bool) (X Y O:List Nat) (na nb:Nat):Prop where
 perm:(X.take na++(Y.take nb++O.reverse)).Perm (X++Y)
 srt:O.reverse.Pairwise fun x y=>c x y=true
 oa:∀ x∈X.take na,∀ o∈O,c x o=true
 ob:∀ y∈Y.take nb,∀ o∈O,c y o=true
variable {X Y O:List Nat}{na nb:Nat}
theorem E4 {n:Nat} (h0:0 < n) (hn:n<=X.length):X.take n=X.take (n - 1)++[X[n - 1]'(by lia)]:=by
 obtain⟨k,rfl⟩:∃ k,n=k+1:=⟨n - 1,by lia⟩
 rw[List.take_succ_eq_append_getElem (by lia)];rfl
theorem Nc {n:Nat} (h:X.Pairwise fun x y=>c x y=true) (h0:0 < n) (hn:n<=X.length):∀ y∈X.take (n - 1),c y (X[n - 1]'(by lia))=true:=by
 have:=h.sublist (List.take_sublist n X)
 rw[E4 h0 hn] at this
 exact fun y hy=>(List.pairwise_append.mp this).2.2 y hy _ (List.mem_singleton.mpr rfl)
theorem MH.swap (h:MH c X Y O na nb):MH c Y X O nb na:=⟨by
 rw[<- List.append_assoc]
 exact ((List.perm_append_comm).append_right _).trans ((by rw[List.append_assoc];exact h.perm:(X.take na++Y.take nb++O.reverse).Perm (X++Y)).trans List.perm_append_comm),h.srt,h.ob,h.oa⟩
theorem MH.pushA (h:MH c X Y O na nb) (tr:∀ i j k,c i j=true->c j k=true->c i k=true) (hX:X.Pairwise fun x y=>c x y=true) (hY:Y.Pairwise fun x y=>c x y=true) (h0:0 < na) (hn:na<=X.length) (hb:nb<=Y.length) (hc:∀ q:0 < nb,c (Y[nb - 1]'(by lia)) (X[na - 1]'(by lia))=true):MH c X Y (O++[X[na - 1]'(by lia)]) (na - 1) nb:=by
 have e:=E4 h0 hn
 have hp:=h.perm
 have oa:=h.oa
 rw[e] at hp oa
 have er:(O++[X[na - 1]'(by lia)]).reverse=(X[na - 1]'(by lia))::O.reverse:=by simp
 refine⟨?_,?_,fun x hx o ho=>?_,fun y hy o ho=>?_⟩
 ·rw[er]
  refine (List.Perm.append_left _ (List.perm_middle)).trans ?_
  rw[List.append_assoc] at hp
  exact hp
 ·rw[er]
  exact List.pairwise_cons.mpr ⟨fun o ho=>oa _ (Atm _ (List.mem_singleton.mpr rfl)) o (List.mem_reverse.mp ho),h.srt⟩
 ·rcases List.mem_append.mp ho with ho|ho
  ·exact oa x (Aue _ hx) o ho
  ·simp at ho;subst ho;exact Nc hX h0 hn x hx
 ·rcases List.mem_append.mp ho with ho|ho
  ·exact h.ob y hy o ho
  ·simp at ho;subst ho
   have q:0 < nb:=by
    cases nb with
    |zero=>simp at hy
    |succ n=>lia
   rw[E4 q hb] at hy
   rcases List.mem_append.mp hy with hy|hy
   ·exact tr _ _ _ (Nc hY q hb y hy) (hc q)
   ·simp at hy;subst hy;exact hc q
theorem MH.pushB (h:MH c X Y O na nb) (tr:∀ i j k,c i j=true->c j k=true->c i k=true) (hX:X.Pairwise fun x y=>c x y=true) (hY:Y.Pairwise fun x y=>c x y=true) (h0:0 < nb) (hn:nb<=Y.length) (ha:na<=X.length) (hc:∀ q:0 < na,c (X[na - 1]'(by lia)) (Y[nb - 1]'(by lia))=true):MH c X Y (O++[Y[nb - 1]'(by lia)]) na (nb - 1) :=
 (h.swap.pushA tr hY hX h0 hn ha hc).swap
theorem MH.pushAs (tr:∀ i j k,c i j=true->c j k=true->c i k=true) (hX:X.Pairwise fun x y=>c x y=true) (hY:Y.Pairwise fun x y=>c x y=true) (hb:nb<=Y.length):∀ {k na:Nat}{O:List Nat},MH c X Y O (na+k) nb->na+k<=X.length->(∀ i (h:na+i < X.length) (q:0 < nb),i < k->c (Y[nb - 1]'(by lia)) X[na+i]=true)->MH c X Y (O++((X.drop na).take k).reverse) na nb
 |0,na,O,h,_,_=>by simpa using h
 |k+1,na,O,h,hl,hc=>by
  have h1:=MH.pushA h tr hX hY (by lia) hl hb fun q=>by
   have:=hc k (by lia) q (by lia)
   simpa using this
  have h2:=MH.pushAs tr hX hY hb (k:=k) (na:=na) h1 (by lia) fun i hi q hk=>hc i hi q (by lia)
  have e:(X.drop na).take (k+1)=(X.drop na).take k++[X[na+(k+1) - 1]'(by lia)]:=by
   rw[List.take_succ_eq_append_getElem (by simp;lia)]
   simp
  rw[e,List.reverse_append,List.reverse_singleton]
  rw[List.append_assoc] at h2
  exact h2
theorem MH.pushBs (tr:∀ i j k,c i j=true->c j k=true->c i k=true) (hX:X.Pairwise fun x y=>c x y=true) (hY:Y.Pairwise fun x y=>c x y=true) (ha:na<=X.length) {k:Nat} (h:MH c X Y O na (nb+k)) (hl:nb+k<=Y.length) (hc:∀ i (h:nb+i < Y.length) (q:0 < na),i < k->c (X[na - 1]'(by lia)) Y[nb+i]=true):MH c X Y (O++((Y.drop nb).take k).reverse) na nb :=
 (MH.pushAs tr hY hX ha h.swap hl hc).swap
theorem MH.doneA (h:MH c X Y O na nb) (hX:X.Pairwise fun x y=>c x y=true) (hb:nb=0):Mrg c X Y (X.take na++(Y.take nb++O.reverse)):=by
 refine⟨h.perm,?_⟩
 subst hb
 rw[List.take_zero,Au9]
 exact List.pairwise_append.mpr ⟨hX.sublist (List.take_sublist na X),h.srt,fun x hx o ho=>h.oa x hx o (List.mem_reverse.mp ho)⟩
theorem MH.doneB (h:MH c X Y O na nb) (hY:Y.Pairwise fun x y=>c x y=true) (ha:na=0):Mrg c X Y (X.take na++(Y.take nb++O.reverse)):=by
 refine⟨h.perm,?_⟩
 subst ha
 rw[List.take_zero,Au9]
 exact List.pairwise_append.mpr ⟨hY.sublist (List.take_sublist nb Y),h.srt,fun x hx o ho=>h.ob x hx o (List.mem_reverse.mp ho)⟩
theorem MH.first (h:MH c X Y O na nb) (hX:X.Pairwise fun x y=>c x y=true) (hb:nb=1) (hy:0 < Y.length) (hl:∀ x∈X,c Y[0] x=true):Mrg c X Y (Y.take nb++(X.take na++O.reverse)):=by
 refine⟨h.swap.perm.trans List.perm_append_comm,?_⟩
 have e:Y.take nb=[Y[0]]:=by rw[hb,E4 (by lia) (by lia)];rfl
 refine List.pairwise_append.mpr ⟨by rw[e];exact Avt ..,List.pairwise_append.mpr ⟨hX.sublist (List.take_sublist na X),h.srt,fun x hx o ho=>h.oa x hx o (List.mem_reverse.mp ho)⟩,fun y hyy x hx=>?_⟩
 rcases List.mem_append.mp hx with q|q
 ·rw[e] at hyy;simp at hyy;subst hyy;exact hl x (Au8 q)
 ·exact h.ob y hyy x (List.mem_reverse.mp q)
end
end TS
end L2
end S_TS4
section S_TS5
open Lean in
set_option hygiene false in
local macro_rules|`(tactic| sizeOf_list_dec)=>do
 let n (s:String):TSyntax `ident:=mkIdent (mkPrivateNameCore `PySem.Builtin.List.W1All (Name.str `PySem.Builtin s))
 `(tactic| delta $(n "mergeHi"))
namespace L2
namespace TS
open PySem PySem.W PySem.Calls PyProof.Rows
section
variable {prog:Program}{w:World}{A:Around}{E:Value->Shared->Prop}{κ:SortKind}{it:Array Keyed}{N:Nat}{c:Nat->Nat->Bool}{J:Shared->Prop}
theorem P3 (X:List Nat) (i j:Nat) (h:i<=j):(ks it X).extract i j=ks it ((X.drop i).take (j - i)):=by
 have:=Mz (it:=it) X i (j - i)
 rwa [show i+(j - i)=j by lia] at this
theorem Zx (X:List Nat) (n:Nat):(ks it X).extract 0 n=ks it (X.take n):=by
 rw[P3 X 0 n (Aup _)];simp
theorem P4 (X:List Nat):(ks it X).reverse=ks it X.reverse:=by simp
theorem T2 (C:Cm prog w A κ it N c J) {X Y:List Nat}{st:SortSt}{s:Shared}{Q:Array Keyed->SortSt->Shared->Prop} (hk:kindOf st=κ) (hJ:J s)
  (hXN:∀ x∈X,x < N) (hYN:∀ y∈Y,y < N) (hX:X.Pairwise fun x y=>c x y=true) (hY:Y.Pairwise fun x y=>c x y=true) (dis:∀ x∈X,∀ y∈Y,x≠y) (hx:0 < X.length) (hy:0 < Y.length)
  (h1:∀ x∈X,c Y[0] x=true) (h2:∀ y∈Y,c y (X[X.length - 1]'(by lia))=true)
  (h:∀ R st' s',Mrg c X Y R->GS st st'->J s'->Q (ks it R) st' s') :
  kasC (model prog w) A E (G4 (ks it X) (ks it Y)) Q st s:=by
 unfold G4
 sizeOf_list_dec
 rw[show (sortPriv% PySem.Builtin.elem)=elem' from rfl,show (sortPriv% PySem.Builtin.lt)=lt' from rfl,show (sortPriv% PySem.Builtin.gallop)=Dh from rfl]
 refine kasC_bind (kasC_lift (wpAny_rule ?_))
 have m0:MH c X Y [] X.length Y.length:=⟨by simp,.nil,(fun x _ o h=>nomatch h),fun x _ o h=>nomatch h⟩
 have m1:=m0.pushA C.trans hX hY hx (Atp _) (Atp _) fun q=>h2 _ (Atr _)
 simp only[Vk]
 rw[Bj (show X.length - 1 < X.length by lia)]
 refine kasC_bind (kasC_pure ?_)
 rw[show (#[kas_item it (X[X.length - 1]'(by lia))]:Array Keyed)=ks it [X[X.length - 1]'(by lia)] from rfl]
 have m1:MH c X Y [X[X.length - 1]'(by lia)] (X.length - 1) Y.length:=m1
 have dA:∀ {O:List Nat}{na nb:Nat}{st':SortSt}{s':Shared},MH c X Y O na nb->(na=0\/nb=0)->GS st st'->J s'->Q ((ks it X).extract 0 na++(ks it Y).extract 0 nb++(ks it O).reverse) st' s':=fun {O na nb st' s'} m ha g hJ=>by
  rw[Zx,Zx,P4,Cs,Cs,List.append_assoc]
  exact h _ _ _ (ha.elim (fun e=>m.doneB hY e) fun e=>m.doneA hX e) g hJ
 have dF:∀ {O:List Nat}{na nb:Nat}{st':SortSt}{s':Shared},MH c X Y O na nb->nb=1->GS st st'->J s'->Q ((ks it Y).extract 0 nb++(ks it X).extract 0 na++(ks it O).reverse) st' s':=fun {O na nb st' s'} m hb g hJ=>by
  rw[Zx,Zx,P4,Cs,Cs,List.append_assoc]
  exact h _ _ _ (m.first hX hb hy h1) g hJ
 by_cases e1:(X.length - 1 == 0)=true
 ·rw[Atq e1]
  exact kasC_pure (dA m1 (.inl (by simpa using e1)) ⟨_,rfl⟩ hJ)
 rw[Atl e1]
 by_cases e2:(Y.length == 1)=true
 ·rw[Atq e2]
  exact kasC_pure (dF m1 (by simpa using e2) ⟨_,rfl⟩ hJ)
 rw[Atl e2]
 refine kasC_bind (kasC_get ?_)
 have n1:1 < Y.length:=by simp at e2;lia
 have n2:1 < X.length:=by simp at e1;lia
 have ne:∀ {i j:Nat} (hi:i < X.length) (hj:j < Y.length),Y[j]≠X[i]:=fun hi hj e=>dis _ (Atr hi) _ (Atr hj) e.symm
 have lt':∀ {i j:Nat} (hi:i < X.length) (hj:j < Y.length),c Y[j] X[i]=false->c X[i] Y[j]=true:=fun hi hj q=>C.tot _ _ (hYN _ (Atr hj)) (hXN _ (Atr hi)) q (ne hi hj)
 refine kasC_bind (A3 (P:=fun d st' s'=>∃ r,d.1=some r/\Q r st' s') (A0 (fun x d st' s'=>GS st st'/\J s'/\∃ O na nb g,d=(none,na,nb,ks it O,g)/\MH c X Y O na nb/\0 < na/\na<=X.length/\1 < nb/\nb<=Y.length/\na+nb+x+1<=X.length+Y.length) ⟨⟨_,rfl⟩,hJ,_,_,_,_,rfl,m1,by lia,by lia,by lia,by lia,by lia⟩ ?_ ?_) ?_)
 rotate_left
 ·rintro x d st' s' hx ⟨_,_,O,na,nb,g,rfl,m,b1,b2,b3,b4,b5⟩
  exact absurd b5 (by lia)
 ·rintro ⟨d1,d2⟩ st' s' ⟨r,e,hq⟩
  cases e
  exact kasC_pure hq
 rintro x d st' s' _ hx ⟨g0,hJ',O,na,nb,g,rfl,m,b1,b2,b3,b4,b5⟩
 dsimp only
 refine kasC_bind (A3 (P:=fun d st' s'=>GS st st'/\J s'/\((∃ r,d.1=some r/\Q r st' s')\/∃ O' na' nb' ac bc,d=(none,na',nb',ks it O',ac,bc)/\MH c X Y O' na' nb'/\0 < na'/\na'<=X.length/\1 < nb'/\nb'<=Y.length/\na'+nb'+1<=na+nb)) (A0 (fun y d st' s'=>GS st st'/\J s'/\∃ O' na' nb' ac bc,d=(none,na',nb',ks it O',ac,bc)/\MH c X Y O' na' nb'/\0 < na'/\na'<=X.length/\1 < nb'/\nb'<=Y.length/\na'+nb'+y<=na+nb) ⟨g0,hJ',O,na,nb,0,0,rfl,m,b1,b2,b3,b4,by lia⟩ ?_ ?_) ?_)
 rotate_left
 ·rintro y d st2 s2 hy2 ⟨_,_,O',na',nb',ac,bc,rfl,m',c1,c2,c3,c4,c5⟩
  exact absurd c5 (by lia)
 rotate_left
 ·rintro y d st2 s2 _ hy2 ⟨g2,hJ2,O',na',nb',ac,bc,rfl,m',c1,c2,c3,c4,c5⟩
  obtain⟨gg,rfl⟩:=g2
  dsimp only
  have qa:na' - 1 < X.length:=by lia
  have qb:nb' - 1 < Y.length:=by lia
  rw[Bj qb,Bj qa]
  refine kasC_bind (kasC_pure (kasC_bind (kasC_pure (kasC_bind (Ys C hk (hYN _ (Atr _)) (hXN _ (Atr _)) hJ2 fun s3 hJ3=>?_)))))
  dsimp only
  cases q:c Y[nb' - 1] X[na' - 1] with
  |true =>
   rw[Atq rfl]
   refine kasC_bind (kasC_pure ?_)
   have m2:=m'.pushA C.trans hX hY c1 c2 c4 fun _=>q
   rw[Dt]
   by_cases e3:(na' - 1 == 0)=true
   ·rw[Atq e3]
    exact kasC_pure ⟨⟨_,rfl⟩,hJ3,.inl ⟨_,rfl,dA m2 (.inl (by simpa using e3)) ⟨_,rfl⟩ hJ3⟩⟩
   ·rw[Atl e3]
    have e3:0 < na' - 1:=by simp at e3;lia
    by_cases e4:ac+1 ≥ g
    ·rw[Atq e4]
     exact kasC_pure ⟨⟨_,rfl⟩,hJ3,.inr ⟨_,_,_,_,_,rfl,m2,e3,by lia,c3,c4,by lia⟩⟩
    ·rw[Atl e4]
     exact kasC_pure ⟨⟨_,rfl⟩,hJ3,_,_,_,_,_,rfl,m2,e3,by lia,c3,c4,by lia⟩
  |false =>
   rw[Atl (by simp)]
   refine kasC_bind (kasC_pure ?_)
   have m2:=m'.pushB C.trans hX hY (by lia) c4 c2 fun _=>lt' qa qb q
   rw[Dt]
   by_cases e3:(nb' - 1 == 1)=true
   ·rw[Atq e3]
    exact kasC_pure ⟨⟨_,rfl⟩,hJ3,.inl ⟨_,rfl,dF m2 (by simpa using e3) ⟨_,rfl⟩ hJ3⟩⟩
   ·rw[Atl e3]
    have e3:1 < nb' - 1:=by simp at e3;lia
    by_cases e4:bc+1 ≥ g
    ·rw[Atq e4]
     exact kasC_pure ⟨⟨_,rfl⟩,hJ3,.inr ⟨_,_,_,_,_,rfl,m2,c1,c2,e3,by lia,by lia⟩⟩
    ·rw[Atl e4]
     exact kasC_pure ⟨⟨_,rfl⟩,hJ3,_,_,_,_,_,rfl,m2,c1,c2,e3,by lia,by lia⟩
 rintro ⟨d1,d2⟩ st2 s2 ⟨g2,hJ2,⟨r,e,hq⟩|⟨O1,na1,nb1,ac1,bc1,e,m1,k1,k2,k3,k4,k5⟩⟩
 ·cases e
  exact kasC_pure ⟨r,rfl,hq⟩
 cases e
 dsimp only
 refine kasC_bind (kasC_lift (wpAny_rule ?_))
 refine kasC_bind (A3 (P:=fun d st' s'=>GS st st'/\J s'/\((∃ r,d.1=some r/\Q r st' s')\/∃ O' na' nb' g ac bc,d=(none,na',nb',ks it O',g,ac,bc)/\MH c X Y O' na' nb'/\0 < na'/\na'<=X.length/\1 < nb'/\nb'<=Y.length/\na'+nb'<=na1+nb1)) (A0 (fun y d st' s'=>GS st st'/\J s'/\∃ O' na' nb' g ac bc,d=(none,na',nb',ks it O',g,ac,bc)/\MH c X Y O' na' nb'/\0 < na'/\na'<=X.length/\1 < nb'/\nb'<=Y.length/\na'+nb'<=na1+nb1) ⟨g2,hJ2,O1,na1,nb1,_,_,_,rfl,m1,k1,k2,k3,k4,by lia⟩ ?_ ?_) ?_)
 rotate_left
 ·rintro y d st3 s3 hy2 ⟨g3,hJ3,O',na',nb',gm,ac,bc,rfl,m',c1,c2,c3,c4,c5⟩
  exact⟨g3,hJ3,.inr ⟨_,_,_,_,_,_,rfl,m',c1,c2,c3,c4,c5⟩⟩
 ·rintro ⟨d1,d2⟩ st3 s3 ⟨g3,hJ3,⟨r,e,hq⟩|⟨O',na',nb',gm,ac,bc,e,m',c1,c2,c3,c4,c5⟩⟩
  ·cases e
   exact kasC_pure ⟨r,rfl,hq⟩
  ·cases e
   obtain⟨gg,rfl⟩:=g3
   exact kasC_bind (kasC_modify (kasC_pure ⟨⟨_,rfl⟩,hJ3,O',na',nb',_,rfl,m',c1,c2,c3,c4,by lia⟩))
 rintro y d st3 s3 _ hy2 ⟨g3,hJ3,O',na',nb',gm,ac,bc,rfl,m',c1,c2,c3,c4,c5⟩
 obtain⟨gg,rfl⟩:=g3
 dsimp only
 rcases Nat.lt_or_ge 1 gm with hg|hg
 rw[Atq hg]
 rotate_left
 rw[Atl (Nat.not_lt.mpr hg)]
 all_goals
  have qb:nb' - 1 < Y.length:=by lia
  refine kasC_bind (kasC_modify ?_)
  rw[Bj qb]
  refine kasC_bind (kasC_pure (kasC_bind (Rp C hk hJ3 (hYN _ (Atr _)) hXN (by lia) (by lia) hX fun K s4 hK p1 p2 hJ4=>?_)))
  dsimp only
  have lK:K<=X.length:=by lia
  have fst:∀ hq:K - 1 < X.length,0 < K->c X[K - 1] Y[nb' - 1]=true:=fun hq q=>by
   have:=p1 (K - 1) (by lia) (by lia)
   refine lt' hq qb ?_
   simpa using this
  have m2:=MH.pushAs C.trans hX hY (nb:=nb') c4 (k:=na' - K) (na:=K) (O:=O') (by rw[show K+(na' - K)=na' by lia];exact m') (by lia) fun i hi hb hik=>by
   have:=p2 (K+i) (by lia) (by lia) (by lia)
   simpa using this
  rcases Nat.lt_or_ge 0 (na' - K) with hK0|hK0
  rw[Atq hK0,P3 X K na' (by lia),P4,Cs]
  generalize hO2:O'++((X.drop K).take (na' - K)).reverse=O2 at m2 ⊢
  by_cases e6:(K == 0)=true
  ·rw[Atq e6]
   exact kasC_pure ⟨⟨_,rfl⟩,hJ4,.inl ⟨_,rfl,dA m2 (.inl (by simpa using e6)) ⟨_,rfl⟩ hJ4⟩⟩
  rw[Atl e6]
  have l2:0 < K:=by simp at e6;lia
  generalize hn2:K=n2 at m2 fst l2 lK hK ⊢
  rotate_left
  rw[Atl (Nat.not_lt.mpr hK0)]
  have hK1:K=na':=by lia
  have l2:0 < na':=c1
  have m2:=m'
  have fst:∀ hq:na' - 1 < X.length,0 < na'->c X[na' - 1] Y[nb' - 1]=true:=fun hq q=>by
   have:=fst (by lia) (by lia)
   simpa [hK1] using this
  have lK:na'<=X.length:=c2
  have hK:na'<=na':=Atp _
  generalize hO2:O'=O2 at m2 ⊢
  generalize hz:na'=n2 at m2 fst l2 lK c5 ⊢
  all_goals
   try rw[Bj qb]
   refine kasC_bind (kasC_pure ?_)
   rw[Dt]
   have m3:=m2.pushB C.trans hX hY (by lia) c4 lK fun q=>fst (by lia) q
   generalize hO3:O2++[Y[nb' - 1]]=O3 at m3 ⊢
   by_cases e7:(nb' - 1 == 1)=true
   ·rw[Atq e7]
    exact kasC_pure ⟨⟨_,rfl⟩,hJ4,.inl ⟨_,rfl,dF m3 (by simpa using e7) ⟨_,rfl⟩ hJ4⟩⟩
   rw[Atl e7]
   have e7:1 < nb' - 1:=by simp at e7;lia
   have qa:n2 - 1 < X.length:=by lia
   rw[Bj qa]
   refine kasC_bind (kasC_pure (kasC_bind (Rp C hk hJ4 (hXN _ (Atr _)) hYN (by lia) (by lia) hY fun K2 s5 hK2 p3 p4 hJ5=>?_)))
   dsimp only
   have snd:∀ hq:K2 - 1 < Y.length,0 < K2->c Y[K2 - 1] X[n2 - 1]=true:=fun hq q=>by
    have:=p3 (K2 - 1) (by lia) (by lia)
    simpa using this
   have m4:=MH.pushBs C.trans hX hY (na:=n2) lK (k:=nb' - 1 - K2) (nb:=K2) (O:=O3) (by rw[show K2+(nb' - 1 - K2)=nb' - 1 by lia];exact m3) (by lia) fun i hi hb hik=>by
    have:=p4 (K2+i) (by lia) (by lia) (by lia)
    exact lt' qa hi (by simpa using this)
   have lY:K2<=Y.length:=by lia
   have lY2:K2<=nb' - 1:=by lia
   rcases Nat.lt_or_ge 0 (nb' - 1 - K2) with hL0|hL0
   rw[Atq hL0,P3 Y K2 (nb' - 1) (by lia),P4,Cs]
   generalize hO4:O3++((Y.drop K2).take (nb' - 1 - K2)).reverse=O4 at m4 ⊢
   by_cases e8:(K2 == 1)=true
   ·rw[Atq e8]
    exact kasC_pure ⟨⟨_,rfl⟩,hJ5,.inl ⟨_,rfl,dF m4 (by simpa using e8) ⟨_,rfl⟩ hJ5⟩⟩
   rw[Atl e8]
   by_cases e9:(K2 == 0)=true
   ·rw[Atq e9]
    exact kasC_pure ⟨⟨_,rfl⟩,hJ5,.inl ⟨_,rfl,dA m4 (.inr (by simpa using e9)) ⟨_,rfl⟩ hJ5⟩⟩
   rw[Atl e9]
   have l3:1 < K2:=by simp at e8 e9;lia
   generalize hj2:nb' - 1 - K2=kk
   generalize hj3:K2=j2 at m4 snd l3 lY lY2 ⊢
   rotate_left
   rw[Atl (Nat.not_lt.mpr hL0)]
   have hL1:K2=nb' - 1:=by lia
   have l3:1 < nb' - 1:=e7
   have m4:=m3
   have snd:∀ hq:nb' - 1 - 1 < Y.length,0 < nb' - 1->c Y[nb' - 1 - 1] X[n2 - 1]=true:=fun hq q=>by
    have:=snd (by lia) (by lia)
    simpa [hL1] using this
   have lY:nb' - 1<=Y.length:=by lia
   have lY2:nb' - 1<=nb' - 1:=Atp _
   generalize hO4:O3=O4 at m4 ⊢
   generalize hj2:nb' - 1 - K2=kk
   generalize hq3:nb' - 1=j2 at m4 snd l3 lY lY2 ⊢
   all_goals
    try rw[Bj qa]
    refine kasC_bind (kasC_pure ?_)
    rw[Dt]
    have m5:=m4.pushA C.trans hX hY l2 lK lY fun q=>snd (by lia) q
    by_cases e10:(n2 - 1 == 0)=true
    ·rw[Atq e10]
     exact kasC_pure ⟨⟨_,rfl⟩,hJ5,.inl ⟨_,rfl,dA m5 (.inl (by simpa using e10)) ⟨_,rfl⟩ hJ5⟩⟩
    rw[Atl e10]
    have e10:0 < n2 - 1:=by simp at e10;lia
    split
    ·exact kasC_pure ⟨⟨_,rfl⟩,hJ5,.inr ⟨_,_,_,_,_,_,rfl,m5,e10,by lia,l3,lY,by lia⟩⟩
    ·exact kasC_pure ⟨⟨_,rfl⟩,hJ5,_,_,_,_,_,_,rfl,m5,e10,by lia,l3,lY,by lia⟩
end
end TS
end L2
end S_TS5
section S_TS6
open Lean in
set_option hygiene false in
local macro_rules|`(tactic| sizeOf_list_dec)=>do
 let n (s:String):TSyntax `ident:=mkIdent (mkPrivateNameCore `PySem.Builtin.List.W1All (Name.str `PySem.Builtin s))
 `(tactic| delta $(n "mergeAt"))
namespace L2
namespace TS
open PySem PySem.W PySem.Calls PyProof.Rows
section
variable {prog:Program}{w:World}{A:Around}{E:Value->Shared->Prop}{κ:SortKind}{it:Array Keyed}{N:Nat}{c:Nat->Nat->Bool}{J:Shared->Prop}
theorem Ac2 {α:Type} (k:Nat):∀ (L M P1 P2:List α) (o:Nat),M.length=L.length->P1.length=k+o->(L.zipIdx o).foldl (fun a (q:α×Nat)=>a.setIfInBounds (k+q.2) q.1) (P1++(M++P2)).toArray=(P1++(L++P2)).toArray
 |[],[],P1,P2,o,_,_=>rfl
 |p::L,m::M,P1,P2,o,h,hp=>by
  have e:(P1++(m::M++P2)).toArray.setIfInBounds (k+o) p=(P1++[p]++(M++P2)).toArray:=by
   rw[List.setIfInBounds_toArray,<- hp]
   simp
  rw[List.zipIdx_cons,List.foldl_cons]
  show (L.zipIdx (o+1)).foldl _ ((P1++(m::M++P2)).toArray.setIfInBounds (k+o) p)=_
  rw[e,Ac2 k L M (P1++[p]) P2 (o+1) (by simpa using h) (by simp;lia)]
  simp
 |[],m::M,_,_,_,h,_=>by simp at h
 |p::L,[],_,_,_,h,_=>by simp at h
theorem T1 (C:Cm prog w A κ it N c J) {X Y:List Nat}{g pw:Nat}{s:Shared}{Q:Bool->SortSt->Shared->Prop} (hJ:J s)
  (hXN:∀ x∈X,x < N) (hYN:∀ y∈Y,y < N) (hX:X.Pairwise fun x y=>c x y=true) (hY:Y.Pairwise fun x y=>c x y=true) (dis:∀ x∈X,∀ y∈Y,x≠y) (hx:0 < X.length) (hy:0 < Y.length)
  (h:∀ R g' s',R.Perm (X++Y)->(R.Pairwise fun x y=>c x y=true)->J s'->Q true (SortSt.mk' κ (ks it R) #[(0,X.length+Y.length,pw)] g' none) s') :
  kasC (model prog w) A E (mergeAt' 0) Q (SortSt.mk' κ (ks it (X++Y)) #[(0,X.length,pw),(X.length,Y.length,0)] g none) s:=by
 unfold mergeAt'
 sizeOf_list_dec
 rw[show (sortPriv% PySem.Builtin.elem)=elem' from rfl,show (sortPriv% PySem.Builtin.gallop)=Dh from rfl,show (sortPriv% PySem.Builtin.mergeLo)=G5 from rfl,show (sortPriv% PySem.Builtin.mergeHi)=G4 from rfl]
 refine kasC_bind (kasC_get ?_)
 have ep:((#[(0,X.length,pw),(X.length,Y.length,0)]:Array (Nat×Nat×Nat)).setIfInBounds 0 (0,X.length+Y.length,pw)).eraseIdxIfInBounds 1=#[(0,X.length+Y.length,pw)]:=by
  simp[Array.eraseIdxIfInBounds]
 show kasC _ _ _ (do
  set (setPending (SortSt.mk' κ (ks it (X++Y)) #[(0,X.length,pw),(X.length,Y.length,0)] g none) (((#[(0,X.length,pw),(X.length,Y.length,0)]:Array (Nat×Nat×Nat)).setIfInBounds 0 (0,X.length+Y.length,pw)).eraseIdxIfInBounds 1))
  let some k <- Dh false (<- elem' (ks it (X++Y)) X.length) (ks it (X++Y)) 0 X.length 0|return false
  if X.length - k == 0 then return true
  let some nb <- Dh true (<- elem' (ks it (X++Y)) (0+k+(X.length - k) - 1)) (ks it (X++Y)) X.length Y.length (Y.length - 1)|return false
  if nb == 0 then return true
  let x:=(ks it (X++Y)).extract (0+k) X.length
  let y:=(ks it (X++Y)).extract X.length (X.length+nb)
  let merged <- if X.length - k<=nb then G5 x y else G4 x y
  modify fun s=>setArr s (merged.toList.zipIdx.foldl (fun a (p,j)=>a.setIfInBounds (0+k+j) p) (arrOf s))
  return (failedOf (<- get)).isNone) _ _ _
 rw[ep]
 have hP:∀ x∈X++Y,x < N:=fun x hx=>(List.mem_append.mp hx).elim (hXN x) (hYN x)
 have gx:∀ {i:Nat} (hi:i < X.length),(X++Y)[i]'(by simp;lia)=X[i]:=fun hi=>List.getElem_append_left hi
 have gy:∀ {i:Nat} (hi:i < Y.length),(X++Y)[X.length+i]'(by simp;lia)=Y[i]:=fun {i} hi=>by rw[List.getElem_append_right (by lia)];simp
 have ne:∀ {i j:Nat} (hi:i < X.length) (hj:j < Y.length),Y[j]≠X[i]:=fun hi hj e=>dis _ (Atr hi) _ (Atr hj) e.symm
 have tl:∀ {i j:Nat} (hi:i < X.length) (hj:j < Y.length),c Y[j] X[i]=false->c X[i] Y[j]=true:=fun hi hj q=>C.tot _ _ (hYN _ (Atr hj)) (hXN _ (Atr hi)) q (ne hi hj)
 have px:=List.pairwise_iff_getElem.mp hX
 have py:=List.pairwise_iff_getElem.mp hY
 refine kasC_bind (show kasC _ _ _ (set _) _ _ _ from kasC_modify (f:=fun _=>SortSt.mk' κ (ks it (X++Y)) #[(0,X.length+Y.length,pw)] g none) ?_)
 rw[Bj (show X.length < (X++Y).length by simp;lia)]
 have e0:(X++Y)[X.length]'(by simp;lia)=Y[0]:=gy hy
 rw[e0]
 refine kasC_bind (kasC_pure (kasC_bind (Pe C rfl hJ (hYN _ (Atr _)) hP (by simp) hx (fun i j qi qj _ hij hj=>?_) fun k s1 hk p1 p2 hJ1=>?_)))
 ·have hj:j < X.length:=by lia
  rw[gx hj,gx (show i < X.length by lia)]
  exact px i j _ hj hij
 dsimp only
 have q1:∀ i (hi:i < X.length),i < k->c X[i] Y[0]=true:=fun i hi hik=>by
  have:=p1 i (by simp;lia) hik
  simp only[Auy,gx hi] at this
  exact tl hi hy (by simpa using this)
 have q2:∀ i (hi:i < X.length),k<=i->c Y[0] X[i]=true:=fun i hi hik=>by
  have:=p2 i (by simp;lia) hik hi
  simp only[Auy,gx hi] at this
  simpa using this
 by_cases e1:(X.length - k == 0)=true
 ·rw[Atq e1]
  have e1:k=X.length:=by simp at e1;lia
  refine kasC_pure (h (X++Y) g s1 (List.Perm.refl _) (List.pairwise_append.mpr ⟨hX,hY,fun x hx y hy'=>?_⟩) hJ1)
  obtain⟨i,hi,rfl⟩:=List.getElem_of_mem hx
  obtain⟨j,hj,rfl⟩:=List.getElem_of_mem hy'
  have:=q1 i hi (by lia)
  rcases Nat.eq_zero_or_pos j with rfl|hj0
  ·exact this
  ·exact C.trans _ _ _ this (py 0 j hy hj hj0)
 rw[Atl e1]
 have hkx:k < X.length:=by simp at e1;lia
 simp only[Auy]
 have el:k+(X.length - k) - 1=X.length - 1:=by lia
 rw[el,Bj (show X.length - 1 < (X++Y).length by simp;lia),gx (show X.length - 1 < X.length by lia)]
 refine kasC_bind (kasC_pure (kasC_bind (Pe C rfl hJ1 (hXN _ (Atr _)) hP (by simp) (by lia) (fun i j qi qj hi hij hj=>?_) fun nb s2 hnb p3 p4 hJ2=>?_)))
 ·obtain⟨i,rfl⟩:∃ i',i=X.length+i':=⟨i - X.length,by lia⟩
  obtain⟨j,rfl⟩:∃ j',j=X.length+j':=⟨j - X.length,by lia⟩
  rw[gy (show i < Y.length by lia),gy (show j < Y.length by lia)]
  exact py i j _ _ (by lia)
 dsimp only
 have q3:∀ j (hj:j < Y.length),j < nb->c Y[j] (X[X.length - 1]'(by lia))=true:=fun j hj hjn=>by
  have:=p3 j (by simp;lia) hjn
  simpa only[gy hj,Av8] using this
 have q4:∀ j (hj:j < Y.length),nb<=j->c (X[X.length - 1]'(by lia)) Y[j]=true:=fun j hj hjn=>by
  have:=p4 j (by simp;lia) hjn hj
  simp only[gy hj,Av8] at this
  exact tl (by lia) hj this
 have n0:0 < nb:=by
  apply Avm
  intro z
  have a1:=q4 0 hy (by lia)
  have a2:=q2 (X.length - 1) (by lia) (by lia)
  have:=C.trans _ _ _ a1 a2
  rw[C.irr] at this;cases this
 rw[Atl (by simp;lia)]
 -- the two rows that are merged
 have ex:(ks it (X++Y)).extract k X.length=ks it (X.drop k):=by
  rw[P3 _ k X.length (by lia),List.drop_append_of_le_length (by lia),List.take_append_of_le_length (by simp),Aun (by simp)]
 have ey:(ks it (X++Y)).extract X.length (X.length+nb)=ks it (Y.take nb):=by
  rw[Mz,List.drop_left]
 rw[ex,ey]
 have hX':(X.take k++X.drop k).Pairwise fun x y=>c x y=true:=by rw[Aua];exact hX
 have hY':(Y.take nb++Y.drop nb).Pairwise fun x y=>c x y=true:=by rw[Aua];exact hY
 obtain⟨x1,x2,x3⟩:=List.pairwise_append.mp hX'
 obtain⟨y1,y2,y3⟩:=List.pairwise_append.mp hY'
 have a2:∀ x∈X.take k,∀ y∈Y,c x y=true:=fun x hx y hy'=>by
  obtain⟨i,hi,rfl⟩:=List.getElem_of_mem hx
  obtain⟨j,hj,rfl⟩:=List.getElem_of_mem hy'
  simp at hi
  have:=q1 i (by lia) (by lia)
  rw[List.getElem_take]
  rcases Nat.eq_zero_or_pos j with rfl|hj0
  ·exact this
  ·exact C.trans _ _ _ this (py 0 j hy hj hj0)
 have a3:∀ x∈X,∀ y∈Y.drop nb,c x y=true:=fun x hx y hy'=>by
  obtain⟨i,hi,rfl⟩:=List.getElem_of_mem hx
  obtain⟨j,hj,rfl⟩:=List.getElem_of_mem hy'
  simp at hj
  rw[List.getElem_drop]
  have:=q4 (nb+j) (by lia) (by lia)
  rcases Nat.lt_or_ge i (X.length - 1) with h1|h1
  ·exact C.trans _ _ _ (px i (X.length - 1) hi (by lia) h1) this
  ·simpa only[show X.length - 1=i by lia] using this
 have b0:(Y.take nb)[0]'(by simp;lia)=Y[0]:=by rw[List.getElem_take]
 have b1:∀ x∈X.drop k,c Y[0] x=true:=fun x hx=>by
  obtain⟨i,hi,rfl⟩:=List.getElem_of_mem hx
  simp at hi
  rw[List.getElem_drop]
  exact q2 (k+i) (by lia) (by lia)
 have b2:∀ y∈Y.take nb,c y ((X.drop k)[(X.drop k).length - 1]'(by simp;lia))=true:=fun y hy'=>by
  obtain⟨j,hj,rfl⟩:=List.getElem_of_mem hy'
  simp at hj
  rw[List.getElem_take,List.getElem_drop]
  have:=q3 j (by lia) (by lia)
  simpa only[List.length_drop,show k+(X.length - k - 1)=X.length - 1 by lia] using this
 have fin:∀ (R:List Nat) (st':SortSt) (s':Shared),Mrg c (X.drop k) (Y.take nb) R->GS (SortSt.mk' κ (ks it (X++Y)) #[(0,X.length+Y.length,pw)] g none) st'->J s'->kasC (model prog w) A E (do
   modify fun s=>setArr s (List.foldl (fun a (x:Keyed×Nat)=>a.setIfInBounds (k+x.snd) x.fst) (arrOf s) (ks it R).toList.zipIdx)
   return (failedOf (<- get)).isNone) Q st' s':=fun R st' s' hM hG hJ'=>by
  obtain⟨g',rfl⟩:=hG
  refine kasC_bind (kasC_modify (kasC_bind (kasC_get (kasC_pure ?_))))
  have e:=Ac2 k (R.map (kas_item it)) ((X.drop k++Y.take nb).map (kas_item it)) ((X.take k).map (kas_item it)) ((Y.drop nb).map (kas_item it)) 0 (by rw[At1,At1,hM.1.length_eq]) (by simp;lia)
  have e1:ks it (X++Y)=((X.take k).map (kas_item it)++((X.drop k++Y.take nb).map (kas_item it)++(Y.drop nb).map (kas_item it))).toArray:=by
   have:X++Y=X.take k++(X.drop k++Y.take nb++Y.drop nb):=by
    rw[List.append_assoc,Aua,<- List.append_assoc,Aua]
   show ((X++Y).map (kas_item it)).toArray=_
   rw[<- Auh,<- Auh,<- this]
  have e2:List.foldl (fun a (x:Keyed×Nat)=>a.setIfInBounds (k+x.snd) x.fst) (ks it (X++Y)) (ks it R).toList.zipIdx=ks it (X.take k++(R++Y.drop nb)):=by
   rw[e1]
   refine Eq.trans e ?_
   rw[<- Auh,<- Auh]
  have:=h (X.take k++(R++Y.drop nb)) g' s' ?_ ?_ hJ'
  ·show Q true (SortSt.mk' κ (List.foldl (fun a (x:Keyed×Nat)=>a.setIfInBounds (k+x.snd) x.fst) (ks it (X++Y)) (ks it R).toList.zipIdx) #[(0,X.length+Y.length,pw)] g' none) s'
   rw[e2]
   exact this
  ·have p:=(hM.1.append_right (Y.drop nb)).append_left (X.take k)
   have e3:X.take k++(X.drop k++Y.take nb++Y.drop nb)=X++Y:=by
    rw[List.append_assoc,Aua,<- List.append_assoc,Aua]
   rw[e3] at p
   exact p
  ·refine List.pairwise_append.mpr ⟨x1,List.pairwise_append.mpr ⟨hM.2,y2,fun r hr y hy'=>?_⟩,fun x hx r hr=>?_⟩
   ·rcases List.mem_append.mp (hM.1.mem_iff.mp hr) with q|q
    ·exact a3 r (List.mem_of_mem_drop q) y hy'
    ·exact y3 r q y hy'
   ·rcases List.mem_append.mp hr with q|q
    ·rcases List.mem_append.mp (hM.1.mem_iff.mp q) with q|q
     ·exact x3 x hx r q
     ·exact a2 x hx r (Au8 q)
    ·exact a2 x hx r (List.mem_of_mem_drop q)
 have nX:∀ x∈X.drop k,x < N:=fun x hx=>hXN x (List.mem_of_mem_drop hx)
 have nY:∀ y∈Y.take nb,y < N:=fun y hy'=>hYN y (Au8 hy')
 have dd:∀ x∈X.drop k,∀ y∈Y.take nb,x≠y:=fun x hx y hy'=>dis x (List.mem_of_mem_drop hx) y (Au8 hy')
 by_cases e3:X.length - k<=nb
 ·rw[Atq e3]
  refine kasC_bind (T3 C rfl hJ2 nX nY x2 y1 dd (by simp;lia) (by simp;lia) ?_ b2 fin)
  rw[b0]
  exact b1 _ (Atr _)
 ·rw[Atl e3]
  refine kasC_bind (T2 C rfl hJ2 nX nY x2 y1 dd (by simp;lia) (by simp;lia) (fun x hx=>?_) b2 fin)
  rw[b0]
  exact b1 x hx
end
end TS
end L2
end S_TS6
section S_TS7
namespace L2
namespace TS
open PySem PySem.W PySem.Calls PyProof.Rows
section
variable {α:Type}
theorem Ahm (X:List α) (b x:α) (R:List α):((X++b::x::R).toArray).swapIfInBounds (X.length+1) X.length=(X++x::b::R).toArray:=by
 apply Array.ext_getElem?
 intro k
 rw[getElem?_swapIB (by simp) (by simp)]
 simp only[List.getElem?_toArray]
 by_cases h1:X.length=k
 ·subst h1;simp
 ·rw[Atl h1]
  by_cases h2:X.length+1=k
  ·subst h2;simp
  ·rw[Atl h2]
   rcases Nat.lt_or_ge k X.length with h|h
   ·rw[At4 h,At4 h]
   ·rw[Aud h,Aud h]
    obtain⟨j,hj⟩:∃ j,k - X.length=j+2:=⟨k - X.length - 2,by lia⟩
    rw[hj];rfl
theorem bub:∀ (B X:List α) (x:α) (D:List α),bubble ((X++(B++x::D)).toArray) (X.length+B.length) B.length=(X++x::(B++D)).toArray
 |[],X,x,D=>rfl
 |b::B,X,x,D=>by
  have ih:=bub B (X++[b]) x D
  rw[At8,Avg] at ih
  rw[Atw,bubble_succ]
  have e:X++(b::B++x::D)=X++[b]++(B++x::D):=by simp
  rw[e,show X.length+(B.length+1)=X.length+1+B.length by lia,ih,show X.length+1+B.length - B.length=X.length+1 by lia,show X.length+1 - 1=X.length by lia]
  have:=Ahm X b x (B++D)
  simpa using this
end
section
variable {prog:Program}{w:World}{A:Around}{E:Value->Shared->Prop}{κ:SortKind}{it:Array Keyed}{N:Nat}{c:Nat->Nat->Bool}{J:Shared->Prop}
theorem Em (C:Cm prog w A κ it N c J) {P:List Nat}{i j:Nat}{pd:Array (Nat×Nat×Nat)}{g:Nat}{fl:Option Value}{s:Shared}{Q:Option Bool->SortSt->Shared->Prop} (hP:∀ x∈P,x < N) (hi:i < P.length) (hj:j < P.length) (hJ:J s)
  (h:∀ s',J s'->Q (some (c P[i] P[j])) (SortSt.mk' κ (ks it P) pd g fl) s'):kasC (model prog w) A E (ltAt' i j) Q (SortSt.mk' κ (ks it P) pd g fl) s:=by
 rw[ltAt'_eq]
 refine kasC_bind (kasC_get ?_)
 show kasC _ _ _ (do let x <- elem' (ks it P) i;let y <- elem' (ks it P) j;lt' x y) Q _ _
 rw[Bj hi,Bj hj]
 exact kasC_bind (kasC_pure (kasC_bind (kasC_pure (Ys C rfl (hP _ (Atr _)) (hP _ (Atr _)) hJ h))))
theorem Uj (C:Cm prog w A κ it N c J) {P:List Nat}:∀ {m lo:Nat},lo+m<=P.length->(∀ i (h:lo+i+1 < P.length),i+1 < m->c P[lo+i] P[lo+i+1]=true)->∀ i j (hi:lo+i < P.length) (hj:lo+j < P.length),i < j->j < m->c P[lo+i] P[lo+j]=true:=by
 intro m lo hm h i j hi hj hij hjm
 induction j with
 |zero=>lia
 |succ j ih =>
  have s1:=h j (by lia) (by lia)
  rcases Nat.lt_or_eq_of_le (Nat.le_of_lt_succ hij) with q|q
  ·exact C.trans _ _ _ (ih (by lia) q (by lia)) s1
  ·subst q;exact s1
theorem L3 (C:Cm prog w A κ it N c J) {P:List Nat}{lo nrem m:Nat}{pd:Array (Nat×Nat×Nat)}{g:Nat}{fl:Option Value}{s:Shared}{Q:Option Nat->SortSt->Shared->Prop} (hP:∀ x∈P,x < N) (hJ:J s) (hl:lo+nrem<=P.length) (h1:1<=m) (hm:m<=nrem)
  (ha:∀ i (h:lo+i+1 < P.length),i+1 < m->c P[lo+i] P[lo+i+1]=true) (he:m=nrem\/(1 < m/\∀ h:lo+m < P.length,c P[lo+m] P[lo+m - 1]=true))
  (h:∀ s',J s'->Q (some m) (SortSt.mk' κ (ks it P) pd g fl) s'):kasC (model prog w) A E (countRun' lo nrem) Q (SortSt.mk' κ (ks it P) pd g fl) s:=by
 rw[countRun'_eq]
 dsimp only
 refine kasC_bind (A3 (P:=fun d st' s'=>d=(none,m)/\st'=SortSt.mk' κ (ks it P) pd g fl/\J s') (A0 (fun x d st' s'=>st'=SortSt.mk' κ (ks it P) pd g fl/\J s'/\d=(none,x)/\x<=m) ⟨rfl,hJ,rfl,h1⟩ ?_ ?_) ?_)
 ·rintro x d st' s' hx hxn ⟨rfl,hJ',rfl,hxm⟩
  dsimp only
  refine kasC_bind (Em C hP (by lia) (by lia) hJ' fun s2 hJ2=>?_)
  dsimp only
  rcases Nat.lt_or_eq_of_le hxm with q|q
  ·have s1:=ha (x - 1) (by lia) (by lia)
   simp only[show lo+(x - 1)+1=lo+x by lia] at s1
   simp only[show lo+(x - 1)=lo+x - 1 by lia] at s1
   have:c P[lo+x] P[lo+x - 1]=false:=by
    cases z:c P[lo+x] P[lo+x - 1] with
    |false=>rfl
    |true=>have:=C.trans _ _ _ s1 z;rw[C.irr] at this;cases this
   rw[this,Atl (by simp)]
   exact kasC_pure ⟨rfl,hJ2,rfl,by lia⟩
  ·subst q
   have e:=he.resolve_left (by lia)
   rw[e.2 (by lia),Atq rfl]
   exact kasC_pure ⟨rfl,rfl,hJ2⟩
 ·rintro x d st' s' hx ⟨rfl,hJ',rfl,hxm⟩
  exact⟨by rw[show x=m by lia],rfl,hJ'⟩
 ·rintro d st' s' ⟨rfl,rfl,hJ'⟩
  dsimp only
  by_cases e1:(m == nrem)=true
  ·rw[Atq e1]
   exact kasC_pure (h s' hJ')
  ·rw[Atl e1]
   have e:=he.resolve_left (by simpa using e1)
   rw[Atq e.1]
   refine kasC_bind (Em C hP (by lia) (by lia) hJ' fun s2 hJ2=>?_)
   dsimp only
   have:=Uj C (show lo+m<=P.length by lia) ha 0 (m - 1) (by lia) (by lia) (by lia) (by lia)
   simp only[Nat.add_zero,show lo+(m - 1)=lo+m - 1 by lia] at this
   rw[this,Atq rfl]
   exact kasC_pure (h s2 hJ2)
theorem Ahr (C:Cm prog w A κ it N c J) {L:List Nat}{z:Nat}{pd:Array (Nat×Nat×Nat)}{g:Nat}{fl:Option Value}{s:Shared}{Q:Option Nat->SortSt->Shared->Prop} (hP2:∀ x∈L,x < N) (nd:L.Nodup) (hlen:L.length=z) (hz:2<=z) (hJ2:J s) (hc0:∀ i (h:i+1 < L.length),i+1 < 2->c L[i] L[i+1]=true)
  (out:∀ m s',2<=m->m<=z->(∀ i (h:i+1 < L.length),i+1 < m->c L[i] L[i+1]=true)->J s'->Q (some m) (SortSt.mk' κ (ks it L) pd g fl) s'):kasC (model prog w) A E (do
   let mut n:=2
   for _ in [n:z] do
    let some smaller <- ltAt' (0+n) (0+n - 1)|return none
    if smaller then break
    n:=n+1
   return some n) Q (SortSt.mk' κ (ks it L) pd g fl) s:=by
 dsimp only
 refine kasC_bind (A3 (P:=fun e st' s'=>∃ m,e=(none,m)/\st'=SortSt.mk' κ (ks it L) pd g fl/\J s'/\2<=m/\m<=z/\∀ i (h:i+1 < L.length),i+1 < m->c L[i] L[i+1]=true) (A0 (fun x e st' s'=>e=(none,x)/\st'=SortSt.mk' κ (ks it L) pd g fl/\J s'/\2<=x/\x<=z/\∀ i (h:i+1 < L.length),i+1 < x->c L[i] L[i+1]=true) ⟨rfl,rfl,hJ2,by lia,by lia,hc0⟩ ?_ ?_) ?_)
 ·rintro x e st' s' _ hx ⟨rfl,rfl,hJ3,a1,a2,a3⟩
  dsimp only
  obtain⟨y,rfl⟩:∃ y,x=y+1:=⟨x - 1,by lia⟩
  refine kasC_bind (Em C hP2 (i:=0+(y+1)) (j:=0+(y+1) - 1) (by lia) (by lia) hJ3 fun s4 hJ4=>?_)
  simp only[Auy,Nat.add_sub_cancel]
  cases z:c L[y+1] L[y] with
  |true =>
   simp only[Av8]
   exact kasC_pure ⟨_,rfl,rfl,hJ4,a1,a2,a3⟩
  |false =>
   simp only[Aum,Avn]
   refine kasC_pure ⟨rfl,rfl,hJ4,by lia,by lia,fun i hi hix=>?_⟩
   rcases Nat.lt_or_ge (i+1) (y+1) with q|q
   ·exact a3 i hi q
   ·obtain rfl:i=y:=by lia
    exact C.tot _ _ (hP2 _ (Atr _)) (hP2 _ (Atr _)) z fun e=>absurd ((List.getElem_inj nd).mp e) (by lia)
 ·rintro x e st' s' hx ⟨rfl,rfl,hJ3,a1,a2,a3⟩
  exact⟨x,rfl,rfl,hJ3,a1,a2,a3⟩
 ·rintro e st' s' ⟨m,rfl,rfl,hJ3,a1,a2,a3⟩
  exact kasC_pure (out m s' a1 a2 a3 hJ3)
theorem Yq (C:Cm prog w A κ it N c J) {a b d:Nat}{D:List Nat}{pd:Array (Nat×Nat×Nat)}{g:Nat}{fl:Option Value}{s:Shared}{Q:Option Nat->SortSt->Shared->Prop} (hP:∀ x∈a::b::d::D,x < N) (nd:(b::a::d::D).Nodup) (hJ:J s) (h1:c b a=true) (h2:c b d=true)
  (h:∀ m s',2<=m->m<=D.length+3->(∀ i (h:i+1 < (b::a::d::D).length),i+1 < m->c (b::a::d::D)[i] (b::a::d::D)[i+1]=true)->J s'->Q (some m) (SortSt.mk' κ (ks it (b::a::d::D)) pd g fl) s'):kasC (model prog w) A E (countRun' 0 (D.length+3)) Q (SortSt.mk' κ (ks it (a::b::d::D)) pd g fl) s:=by
 rw[countRun'_eq]
 have hP2:∀ x∈b::a::d::D,x < N:=fun x hx=>hP x (by simp at hx ⊢;rcases hx with q|q|q<;>simp[q])
 have f1:c d b=false:=by
  cases z:c d b with
  |false=>rfl
  |true=>have:=C.trans _ _ _ h2 z;rw[C.irr] at this;cases this
 dsimp only
 refine kasC_bind (A3 (P:=fun e st' s'=>e=(none,1)/\st'=SortSt.mk' κ (ks it (a::b::d::D)) pd g fl/\J s') (A0 (fun x e st' s'=>x=1/\st'=SortSt.mk' κ (ks it (a::b::d::D)) pd g fl/\J s'/\e=(none,1)) ⟨rfl,rfl,hJ,rfl⟩ ?_ ?_) ?_)
 ·rintro x e st' s' _ _ ⟨rfl,rfl,hJ',rfl⟩
  dsimp only
  refine kasC_bind (Em C hP (i:=0+1) (j:=0+1 - 1) (by simp) (by simp) hJ' fun s2 hJ2=>?_)
  show kasC _ _ _ (if c b a=true then _ else _) _ _ _
  rw[h1,Atq rfl]
  exact kasC_pure ⟨rfl,rfl,hJ2⟩
 ·rintro x e st' s' hx ⟨rfl,_,_,_⟩
  lia
 rintro e st' s' ⟨rfl,rfl,hJ'⟩
 dsimp only
 rw[Atl (by simp),Atl (by simp)]
 refine kasC_bind (kasC_lift (wpAny_rule ?_))
 refine kasC_bind (A3 (P:=fun e st' s'=>e=(none,2,0)/\st'=SortSt.mk' κ (ks it (a::b::d::D)) pd g fl/\J s') (A0 (fun x e st' s'=>x=2/\st'=SortSt.mk' κ (ks it (a::b::d::D)) pd g fl/\J s'/\e=(none,2,0)) ⟨rfl,rfl,hJ',rfl⟩ ?_ ?_) ?_)
 ·rintro x e st' s' _ _ ⟨rfl,rfl,hJ',rfl⟩
  dsimp only
  refine kasC_bind (Em C hP (i:=0+2) (j:=0+2 - 1) (by simp) (by simp) hJ' fun s2 hJ2=>?_)
  show kasC _ _ _ (if c d b=true then _ else _) _ _ _
  rw[f1,Atl (by simp)]
  refine kasC_bind (Em C hP (i:=0+2 - 1) (j:=0+2) (by simp) (by simp) hJ2 fun s3 hJ3=>?_)
  show kasC _ _ _ (if c b d=true then _ else _) _ _ _
  rw[h2,Atq rfl]
  exact kasC_pure ⟨rfl,rfl,hJ3⟩
 ·rintro x e st' s' hx ⟨rfl,_,_,_⟩
  lia
 rintro e st2 s2 ⟨rfl,rfl,hJ2⟩
 dsimp only
 rw[Atl (by simp),reverseSlice'_eq]
 refine kasC_bind (kasC_modify ?_)
 have em:mirror (ks it (a::b::d::D)) 0 (0+2) ((0+2 - 0) / 2)=ks it (b::a::d::D):=by
  show (ks it (a::b::d::D)).swapIfInBounds 0 1=_
  apply Array.ext_getElem?
  intro k
  rw[getElem?_swapIB (by simp) (by simp)]
  match k with
  |0=>rfl
  |1=>rfl
  |k+2=>rfl
 show kasC _ _ _ _ _ (SortSt.mk' κ (mirror (ks it (a::b::d::D)) 0 (0+2) ((0+2 - 0) / 2)) pd g fl) _
 rw[em]
 have out:∀ m s',2<=m->m<=D.length+3->(∀ i (h:i+1 < (b::a::d::D).length),i+1 < m->c (b::a::d::D)[i] (b::a::d::D)[i+1]=true)->J s'->Q (some m) (SortSt.mk' κ (ks it (b::a::d::D)) pd g fl) s':=h
 exact Ahr C (z:=D.length+3) hP2 nd (by simp) (by lia) hJ2 (fun i h hi=>by
  obtain rfl:i=0:=by lia
  exact h1) out
theorem Ani (C:Cm prog w A κ it N c J) {P:List Nat}{r m:Nat}{pd:Array (Nat×Nat×Nat)}{g:Nat}{fl:Option Value}{s:Shared}{Q:Bool->SortSt->Shared->Prop} (hP:∀ x∈P,x < N) (nd:P.Nodup) (hJ:J s) (h1:1<=m) (hm:m<=r) (hr:r<=P.length) (hs:(P.take m).Pairwise fun x y=>c x y=true)
  (h:∀ P' s',P'.Perm P->P'.drop r=P.drop r->((P'.take r).Pairwise fun x y=>c x y=true)->J s'->Q true (SortSt.mk' κ (ks it P') pd g fl) s'):kasC (model prog w) A E (binarySort' 0 r m) Q (SortSt.mk' κ (ks it P) pd g fl) s:=by
 rw[binarySort'_eq]
 rw[show max m 1=m by lia]
 refine kasC_bind (A3 (P:=fun e st' s'=>e=(none,())/\∃ P',st'=SortSt.mk' κ (ks it P') pd g fl/\P'.Perm P/\P'.drop r=P.drop r/\((P'.take r).Pairwise fun x y=>c x y=true)/\J s') (A0 (fun k e st' s'=>e=(none,())/\k<=r/\∃ P',st'=SortSt.mk' κ (ks it P') pd g fl/\P'.Perm P/\P'.drop k=P.drop k/\((P'.take k).Pairwise fun x y=>c x y=true)/\J s') ⟨rfl,hm,P,rfl,List.Perm.refl _,rfl,hs,hJ⟩ ?_ ?_) ?_)
 ·rintro k e st' s' hk hkr ⟨rfl,_,P',rfl,pp,dp,sp,hJ'⟩
  dsimp only
  have ln:=pp.length_eq
  have hP':∀ x∈P',x < N:=fun x hx=>hP x (pp.mem_iff.mp hx)
  have nd':=pp.nodup_iff.mpr nd
  have hkl:k < P'.length:=by lia
  have srt:∀ i j (hi:i < P'.length) (hj:j < P'.length),i < j->j < k->c P'[i] P'[j]=true:=fun i j hi hj hij hjk=>by
   have:=List.pairwise_iff_getElem.mp sp i j (by simp;lia) (by simp;lia) hij
   simpa using this
  have tl:∀ i (hi:i < P'.length),i < k->c P'[k] P'[i]=false->c P'[i] P'[k]=true:=fun i hi hik q=>C.tot _ _ (hP' _ (Atr _)) (hP' _ (Atr _)) q fun e=>absurd ((List.getElem_inj nd').mp e) (by lia)
  refine kasC_bind (A3 (P:=fun e st' s'=>∃ l,e=(none,l,l)/\st'=SortSt.mk' κ (ks it P') pd g fl/\J s'/\l<=k/\(∀ i (hi:i < P'.length),i < l->c P'[i] P'[k]=true)/\∀ i (hi:i < P'.length),l<=i->i < k->c P'[k] P'[i]=true) (A0 (fun x e st' s'=>st'=SortSt.mk' κ (ks it P') pd g fl/\J s'/\∃ l q,e=(none,l,q)/\l<=q/\q<=k/\q - l<=k - x/\(∀ i (hi:i < P'.length),i < l->c P'[i] P'[k]=true)/\∀ i (hi:i < P'.length),q<=i->i < k->c P'[k] P'[i]=true) ⟨rfl,hJ',0,k,rfl,by lia,by lia,by lia,(fun i hi h=>by lia),fun i hi h1 h2=>by lia⟩ ?_ ?_) ?_)
  ·rintro x e st' s' _ hx ⟨rfl,hJ2,l,q,rfl,a1,a2,a3,a4,a5⟩
   dsimp only
   by_cases e1:l ≥ q
   ·rw[Atq e1]
    obtain rfl:l=q:=by lia
    exact kasC_pure ⟨l,rfl,rfl,hJ2,a2,a4,a5⟩
   ·rw[Atl e1]
    refine kasC_bind (Em C hP' (i:=0+k) (j:=0+(l+q) / 2) (by lia) (by lia) hJ2 fun s3 hJ3=>?_)
    simp only[Auy]
    have hmk:(l+q) / 2 < k:=by lia
    cases z:c P'[k] (P'[(l+q) / 2]'(by lia)) with
    |true =>
     simp only[Av8]
     refine kasC_pure ⟨rfl,hJ3,l,(l+q) / 2,rfl,by lia,by lia,by lia,a4,fun i hi h1 h2=>?_⟩
     rcases Nat.lt_or_eq_of_le h1 with h|h
     ·exact C.trans _ _ _ z (srt _ i (by lia) hi h h2)
     ·subst h;exact z
    |false =>
     simp only[Aum,Avn]
     refine kasC_pure ⟨rfl,hJ3,(l+q) / 2+1,q,rfl,by lia,a2,by lia,fun i hi h1=>?_,a5⟩
     have z':=tl _ (by lia) hmk z
     rcases Nat.lt_or_ge i ((l+q) / 2) with h|h
     ·exact C.trans _ _ _ (srt i _ hi (by lia) h hmk) z'
     ·simpa only[show (l+q) / 2=i by lia] using z'
  ·rintro x e st' s' hx ⟨rfl,hJ2,l,q,rfl,a1,a2,a3,a4,a5⟩
   obtain rfl:l=q:=by lia
   exact⟨l,rfl,rfl,hJ2,a2,a4,a5⟩
  ·rintro e st' s' ⟨l,rfl,rfl,hJ2,a2,a4,a5⟩
   dsimp only
   rw[moveDown'_eq]
   refine kasC_bind (kasC_modify (kasC_pure ?_))
   have eP:P'=P'.take l++((P'.drop l).take (k - l)++P'[k]::P'.drop (k+1)):=by
    have e1:P'.drop k=P'[k]::P'.drop (k+1):=At9 hkl
    have e2:(P'.drop l).drop (k - l)=P'.drop k:=by rw[List.drop_drop];congr 1;lia
    rw[<- e1,<- e2,Aua,Aua]
   have hl:(P'.take l).length=l:=by simp;lia
   have hb:((P'.drop l).take (k - l)).length=k - l:=by simp;lia
   have eb:=bub (((P'.drop l).take (k - l)).map (kas_item it)) ((P'.take l).map (kas_item it)) (kas_item it P'[k]) ((P'.drop (k+1)).map (kas_item it))
   simp only[At1,hl,hb] at eb
   have ek:ks it P'=((P'.take l).map (kas_item it)++(((P'.drop l).take (k - l)).map (kas_item it)++kas_item it P'[k]::(P'.drop (k+1)).map (kas_item it))).toArray:=by
    conv=>lhs;rw[eP]
    show ((_:List Nat).map (kas_item it)).toArray=_
    rw[Auh,Auh,Atz]
   have e3:bubble (ks it P') (0+k) (0+k - (0+l))=ks it (P'.take l++P'[k]::((P'.drop l).take (k - l)++P'.drop (k+1))):=by
    rw[ek,show 0+k=l+(k - l) by lia,show l+(k - l) - (0+l)=k - l by lia,eb]
    rw[<- Auh,<- Atz,<- Auh]
   have px:(P'.take l++P'[k]::((P'.drop l).take (k - l)++P'.drop (k+1))).Perm P':=by
    conv=>rhs;rw[eP]
    exact List.Perm.append_left _ List.perm_middle.symm
   refine⟨rfl,by lia,P'.take l++P'[k]::((P'.drop l).take (k - l)++P'.drop (k+1)),?_,px.trans pp,?_,?_,hJ2⟩
   ·show SortSt.mk' κ (bubble (ks it P') (0+k) (0+k - (0+l))) pd g fl=_
    rw[e3]
   ·have:(P'.take l++P'[k]::((P'.drop l).take (k - l)++P'.drop (k+1))).drop (k+1)=P'.drop (k+1):=by
     rw[show P'.take l++P'[k]::((P'.drop l).take (k - l)++P'.drop (k+1))=(P'.take l++P'[k]::(P'.drop l).take (k - l))++P'.drop (k+1) by rw[List.append_assoc];rfl]
     exact List.drop_left' (by rw[At8,Atw,hl,hb];lia)
    rw[this]
    have:=Au5 (List.drop 1) dp
    simpa [List.drop_drop] using this
   ·have:(P'.take l++P'[k]::((P'.drop l).take (k - l)++P'.drop (k+1))).take (k+1)=P'.take l++P'[k]::(P'.drop l).take (k - l):=by
     rw[show P'.take l++P'[k]::((P'.drop l).take (k - l)++P'.drop (k+1))=(P'.take l++P'[k]::(P'.drop l).take (k - l))++P'.drop (k+1) by rw[List.append_assoc];rfl]
     exact List.take_left' (by rw[At8,Atw,hl,hb];lia)
    rw[this]
    have fx:∀ x∈P'.take l,∃ i,∃ hi:i < P'.length,i < l/\x=P'[i]:=fun x hx=>by
     obtain⟨i,hi,rfl⟩:=List.getElem_of_mem hx
     simp at hi
     exact⟨i,by lia,by lia,by rw[List.getElem_take]⟩
    have fb:∀ x∈(P'.drop l).take (k - l),∃ i,∃ hi:i < P'.length,l<=i/\i < k/\x=P'[i]:=fun x hx=>by
     obtain⟨i,hi,rfl⟩:=List.getElem_of_mem hx
     simp at hi
     exact⟨l+i,by lia,by lia,by lia,by rw[List.getElem_take,List.getElem_drop]⟩
    refine List.pairwise_append.mpr ⟨?_,List.pairwise_cons.mpr ⟨fun x hx=>?_,?_⟩,fun x hx y hy=>?_⟩
    ·have:=sp.sublist (List.take_sublist l (P'.take k))
     rw[List.take_take,show min l k=l by lia] at this
     exact this
    ·obtain⟨i,hi,h1,h2,rfl⟩:=fb x hx
     exact a5 i hi h1 h2
    ·have:(P'.drop l).take (k - l)=(P'.take k).drop l:=by rw[List.drop_take]
     rw[this]
     exact sp.sublist (List.drop_sublist l _)
    ·obtain⟨i,hi,h1,rfl⟩:=fx x hx
     rcases List.mem_cons.mp hy with rfl|hy
     ·exact a4 i hi h1
     ·obtain⟨j,hj,h2,h3,rfl⟩:=fb y hy
      exact srt i j hi hj (by lia) h3
 ·rintro k e st' s' hk ⟨rfl,hkr,P',rfl,pp,dp,sp,hJ'⟩
  obtain rfl:k=r:=by lia
  exact⟨rfl,P',rfl,pp,dp,sp,hJ'⟩
 ·rintro e st' s' ⟨rfl,P',rfl,pp,dp,sp,hJ'⟩
  exact kasC_pure (h P' s' pp dp sp hJ')
end
end TS
end L2
end S_TS7
section S_TS8
namespace L2
namespace TS
open PySem PySem.W PySem.Calls PyProof.Rows
section
variable {prog:Program}{w:World}{A:Around}{E:Value->Shared->Prop}{κ:SortKind}{it:Array Keyed}{n:Nat}{c:Nat->Nat->Bool}{J:Shared->Prop}
theorem Ago (C:Cm prog w A κ it n c J) {P:List Nat}{m:Nat} (hm:m<=P.length) (ha:∀ i (h:i+1 < P.length),i+1 < m->c P[i] P[i+1]=true):(P.take m).Pairwise fun x y=>c x y=true:=by
 refine List.pairwise_iff_getElem.mpr fun i j hi hj hij=>?_
 simp at hi hj
 have:=Uj C (P:=P) (lo:=0) (m:=m) (by lia) (fun i h hi=>by simp only[Auy];exact ha i (by lia) hi) i j (by lia) (by lia) hij (by lia)
 simpa using this
theorem Abx (C:Cm prog w A κ it n c J) {p:Nat}{pd:Array (Nat×Nat×Nat)}{g:Nat}{fl:Option Value}{s:Shared}{Q:Option Nat->SortSt->Shared->Prop} (hn:3<=n) (hp:p<=n) (hb1:∀ i,i+1 < p->c i (i+1)=true) (hb2:∀ i,p<=i->i+1 < n->c i (i+1)=true) (hJ:J s)
  (h:∀ m P' s',1<=m->p<=m->m<=n->P'.Perm (List.range n)->P'.drop m=(List.range n).drop m->((P'.take m).Pairwise fun x y=>c x y=true)->J s'->Q (some m) (SortSt.mk' κ (ks it P') pd g fl) s'):kasC (model prog w) A E (countRun' 0 n) Q (SortSt.mk' κ (ks it (List.range n)) pd g fl) s:=by
 have hP:∀ x∈List.range n,x < n:=fun x hx=>List.mem_range.mp hx
 by_cases all:p=0\/p=n\/c (p - 1) p=true
 ·have ha:∀ i (h:i+1 < (List.range n).length),i+1 < n->c (List.range n)[i] (List.range n)[i+1]=true:=fun i h hi=>by
   simp only[List.getElem_range]
   rcases Nat.lt_or_ge (i+1) p with q|q
   ·exact hb1 i q
   ·rcases Nat.lt_or_ge i p with q2|q2
    ·have e:i=p - 1:=by lia
     have:c (p - 1) p=true:=(all.resolve_left (by lia)).resolve_left (by lia)
     rw[e,show p - 1+1=p by lia];exact this
    ·exact hb2 i q2 hi
  refine L3 C hP hJ (m:=n) (by simp) (by lia) (Atp _) (fun i h hi=>by simp only[Auy];exact ha i (by lia) hi) (.inl rfl) fun s' hJ'=>?_
  exact h n _ s' (by lia) hp (Atp _) (List.Perm.refl _) rfl (Ago C (by simp) ha) hJ'
 ·have p0:0 < p:=by lia
  have pn:p < n:=by lia
  have q:c p (p - 1)=true:=C.tot _ _ (by lia) pn (by
   cases z:c (p - 1) p with
   |false=>rfl
   |true=>exact absurd (.inr (.inr z)) all) (by lia)
  rcases Nat.lt_or_ge 1 p with p1|p1
  ·have ha:∀ i (h:i+1 < (List.range n).length),i+1 < p->c (List.range n)[i] (List.range n)[i+1]=true:=fun i h hi=>by
    simp only[List.getElem_range];exact hb1 i hi
   refine L3 C hP hJ (m:=p) (by simp) p0 hp (fun i h hi=>by simp only[Auy];exact ha i (by lia) hi) (.inr ⟨p1,fun h=>by simp only[Auy,List.getElem_range];exact q⟩) fun s' hJ'=>?_
   exact h p _ s' p0 (Atp _) hp (List.Perm.refl _) rfl (Ago C (by simp;lia) ha) hJ'
  ·obtain rfl:p=1:=by lia
   obtain⟨k,rfl⟩:∃ k,n=k+3:=⟨n - 3,by lia⟩
   have e:List.range (k+3)=0::1::2::List.range' 3 k:=by
    rw[List.range_eq_range',show k+3=1+(1+(1+k)) by lia]
    simp[List.range'_succ,Nat.add_comm 1]
   have nd:(0::1::2::List.range' 3 k).Nodup:=by rw[<- e];exact List.nodup_range
   rw[e] at hP ⊢
   have px:(1::0::2::List.range' 3 k).Perm (0::1::2::List.range' 3 k):=List.Perm.swap ..
   have lk:(List.range' 3 k).length=k:=by simp
   have:=Yq (E:=E) (Q:=Q) C (a:=0) (b:=1) (d:=2) (D:=List.range' 3 k) (pd:=pd) (g:=g) (fl:=fl) hP (px.nodup_iff.mpr nd) hJ q (hb2 1 (by lia) (by lia)) fun m s' h1 h2 h3 hJ'=>?_
   ·rwa [lk] at this
   ·rw[lk] at h2
    refine h m _ s' (by lia) (by lia) h2 (by rw[e];exact px) ?_ (Ago C (by simp;lia) h3) hJ'
    rw[e]
    obtain⟨j,rfl⟩:∃ j,m=j+2:=⟨m - 2,by lia⟩
    rfl
theorem Ahs {lo k:Nat}{st:SortSt}{s:Shared}{Q:Bool->SortSt->Shared->Prop} (h1:1<=k) (h:Q true st s):kasC (model prog w) A E (binarySort' lo k k) Q st s:=by
 rw[binarySort'_eq,show max k 1=k by lia]
 refine kasC_bind (A3 (P:=fun e st' s'=>e=(none,())/\st'=st/\s'=s) (A0 (fun x e st' s'=>x=k/\e=(none,())/\st'=st/\s'=s) ⟨rfl,rfl,rfl,rfl⟩ ?_ ?_) ?_)
 ·rintro x e st' s' _ hx ⟨rfl,_⟩
  lia
 ·rintro x e st' s' _ ⟨_,h1,h2,h3⟩
  exact⟨h1,h2,h3⟩
 ·rintro e st' s' ⟨rfl,rfl,rfl⟩
  exact kasC_pure h
theorem ts_sortRuns (C:Cm prog w A κ it n c J) {p:Nat}{s:Shared}{Q:Unit->SortSt->Shared->Prop} (hn:64<=n) (hn2:n < 128) (hp:p<=n) (hb1:∀ i,i+1 < p->c i (i+1)=true) (hb2:∀ i,p<=i->i+1 < n->c i (i+1)=true) (hJ:J s)
  (h:∀ R pd g s',R.Perm (List.range n)->(R.Pairwise fun x y=>c x y=true)->J s'->Q () (SortSt.mk' κ (ks it R) pd g none) s'):kasC (model prog w) A E sortRuns' Q (SortSt.mk' κ (ks it (List.range n)) #[] 7 none) s:=by
 rw[sortRuns'_eq]
 refine kasC_bind (kasC_get ?_)
 have hsz:(arrOf (SortSt.mk' κ (ks it (List.range n)) #[] 7 none)).size=n:=by show (ks it (List.range n)).size=n;simp
 have hmr:minRun' n n 0=(n+1) / 2:=by
  obtain⟨k,rfl⟩:∃ k,n=k+2:=⟨n - 2,by lia⟩
  rw[minRun'_succ,Atl (by lia),minRun'_succ,Atq (by lia)];lia
 dsimp only
 rw[hsz,hmr]
 have rest:∀ {P':List Nat}{m:Nat},p<=m->P'.drop m=(List.range n).drop m->∀ i (h:m+i+1 < P'.length),m+i+1 < n->c P'[m+i] P'[m+i+1]=true:=fun {P' m} hpm e i h hi=>by
  have g:∀ j (hj:m+j < P'.length),m+j < n->P'[m+j]=m+j:=fun j hj hjn=>by
   have:(P'.drop m)[j]?=((List.range n).drop m)[j]?:=by rw[e]
   rw[List.getElem?_drop,List.getElem?_drop,Atv hj,Atv (by simpa using hjn)] at this
   simpa using this
  have e1:=g i (by lia) (by lia)
  have e2:=g (i+1) (by lia) (by lia)
  rw[e1]
  simp only[show m+(i+1)=m+i+1 by lia] at e2
  rw[e2]
  exact hb2 _ (by lia) hi
 refine kasC_bind (A3 (P:=fun d st' s'=>d=(none,n)/\J s'/\((∃ P',st'=SortSt.mk' κ (ks it P') #[(0,n,0)] 7 none/\P'.Perm (List.range n)/\P'.Pairwise fun x y=>c x y=true)\/∃ X Y pw,st'=SortSt.mk' κ (ks it (X++Y)) #[(0,X.length,pw),(X.length,Y.length,0)] 7 none/\(X++Y).Perm (List.range n)/\0 < X.length/\0 < Y.length/\(X.Pairwise fun x y=>c x y=true)/\Y.Pairwise fun x y=>c x y=true))
  (A0 (fun x d st' s'=>J s'/\((x=0/\d=(none,0)/\st'=SortSt.mk' κ (ks it (List.range n)) #[] 7 none)\/(x=1/\∃ P' m,d=(none,m)/\st'=SortSt.mk' κ (ks it P') #[(0,m,0)] 7 none/\1<=m/\p<=m/\m<=n/\P'.Perm (List.range n)/\P'.drop m=(List.range n).drop m/\(P'.take m).Pairwise fun x y=>c x y=true) \/
   (x=2/\d=(none,n)/\∃ X Y pw,st'=SortSt.mk' κ (ks it (X++Y)) #[(0,X.length,pw),(X.length,Y.length,0)] 7 none/\(X++Y).Perm (List.range n)/\0 < X.length/\0 < Y.length/\(X.Pairwise fun x y=>c x y=true)/\Y.Pairwise fun x y=>c x y=true))) ⟨hJ,.inl ⟨rfl,rfl,rfl⟩⟩ ?_ ?_) ?_)
 ·rintro x d st' s' _ hx ⟨hJ',⟨rfl,rfl,rfl⟩|⟨rfl,P',m,rfl,rfl,a1,a2,a3,a4,a5,a6⟩|⟨rfl,rfl,X,Y,pw,rfl,b1,b2,b3,b4,b5⟩⟩
  ·dsimp only
   rw[Atl (by lia)]
   refine kasC_bind (Abx C (by lia) hp hb1 hb2 hJ' fun m P' s2 a1 a2 a3 a4 a5 a6 hJ2=>?_)
   dsimp only
   have ndr:P'.Nodup:=a4.nodup_iff.mpr List.nodup_range
   have hPr:∀ x∈P',x < n:=fun x hx=>List.mem_range.mp (a4.mem_iff.mp hx)
   have ln:P'.length=n:=by rw[a4.length_eq];simp
   by_cases e1:m < (n+1) / 2
   ·rw[Atq e1]
    refine kasC_bind (kasC_lift (wpAny_rule ?_))
    rw[show min (n - 0) ((n+1) / 2)=(n+1) / 2 by lia]
    refine kasC_bind (Ani C hPr ndr hJ2 a1 (by lia) (by lia) a6 fun P2 s3 c1 c2 c3 hJ3=>?_)
    rw[Atl (by simp)]
    refine kasC_bind (kasC_get ?_)
    refine kasC_bind (kasC_modify (kasC_pure ⟨hJ3,.inr (.inl ⟨rfl,P2,(n+1) / 2,by rw[Auy],rfl,by lia,by lia,by lia,c1.trans a4,?_,c3⟩)⟩))
    rw[c2]
    have:=Au5 (List.drop ((n+1) / 2 - m)) a5
    rw[List.drop_drop,List.drop_drop,show m+((n+1) / 2 - m)=(n+1) / 2 by lia] at this
    exact this
   ·rw[Atl e1]
    refine kasC_bind (kasC_get ?_)
    exact kasC_bind (kasC_modify (kasC_pure ⟨hJ2,.inr (.inl ⟨rfl,P',m,by rw[Auy],rfl,a1,a2,a3,a4,a5,a6⟩)⟩))
  ·dsimp only
   have ln:P'.length=n:=by rw[a4.length_eq];simp
   by_cases e1:m ≥ n
   ·rw[Atq e1]
    obtain rfl:m=n:=by lia
    refine kasC_pure ⟨rfl,hJ',.inl ⟨P',rfl,a4,?_⟩⟩
    rwa [Aun (by lia)] at a6
   ·rw[Atl e1]
    have hPr:∀ x∈P',x < n:=fun x hx=>List.mem_range.mp (a4.mem_iff.mp hx)
    have ra:=rest a2 a5
    have en:m+(n - m)=n:=by lia
    refine kasC_bind (L3 C hPr hJ' (m:=n - m) (by lia) (by lia) (Atp _) (fun i h hi=>ra i h (by lia)) (.inl rfl) fun s2 hJ2=>?_)
    dsimp only
    have fX:(P'.take m).length=m:=by simp;lia
    have fY:(P'.drop m).length=n - m:=by simp;lia
    have sY:(P'.drop m).Pairwise fun x y=>c x y=true:=List.pairwise_iff_getElem.mpr fun i j hi hj hij=>by
     rw[List.getElem_drop,List.getElem_drop]
     exact Uj C (P:=P') (lo:=m) (m:=n - m) (by lia) (fun i h hi=>ra i h (by lia)) i j (by lia) (by lia) hij (by lia)
    have key:∀ pw s3,J s3->(fun (d:Option Unit×Nat) (st':SortSt) (s':Shared)=>J s'/\((2=0/\d=(none,0)/\st'=SortSt.mk' κ (ks it (List.range n)) #[] 7 none)\/(2=1/\∃ P' m,d=(none,m)/\st'=SortSt.mk' κ (ks it P') #[(0,m,0)] 7 none/\1<=m/\p<=m/\m<=n/\P'.Perm (List.range n)/\P'.drop m=(List.range n).drop m/\(P'.take m).Pairwise fun x y=>c x y=true) \/
      (2=2/\d=(none,n)/\∃ X Y pw,st'=SortSt.mk' κ (ks it (X++Y)) #[(0,X.length,pw),(X.length,Y.length,0)] 7 none/\(X++Y).Perm (List.range n)/\0 < X.length/\0 < Y.length/\(X.Pairwise fun x y=>c x y=true)/\Y.Pairwise fun x y=>c x y=true))) (none,n) (SortSt.mk' κ (ks it P') #[(0,m,pw),(m,n - m,0)] 7 none) s3:=fun pw s3 hJ3 =>
     ⟨hJ3,.inr (.inr ⟨rfl,rfl,P'.take m,P'.drop m,pw,by rw[Aua,fX,fY],by rw[Aua];exact a4,by lia,by lia,a6,sY⟩)⟩
    have inner:∀ {pw:Nat}{s3:Shared}{Q':Option Unit×Unit->SortSt->Shared->Prop},Q' (none,()) (SortSt.mk' κ (ks it P') #[(0,m,0)] 7 none) s3->kasC (model prog w) A E (forIn [:n] (none,()) fun x __s=>do
      let __do_lift <- get
      match if (pendingOf __do_lift).size > 1 then (pendingOf __do_lift)[(pendingOf __do_lift).size - 2]? else none with
       |some (fst,fst_1,older) =>
        if older<=pw then pure (ForInStep.done (none,()))
        else do
         let __do_lift <- mergeAt' ((pendingOf __do_lift).size - 2)
         if (!__do_lift)=true then pure (ForInStep.done (some (),())) else pure (ForInStep.yield (none,()))
       |x=>pure (ForInStep.done (none,()))) Q' (SortSt.mk' κ (ks it P') #[(0,m,0)] 7 none) s3:=fun {pw s3 Q'} hQ=>by
     refine A0 (fun x d st' s'=>x=0/\d=(none,())/\st'=SortSt.mk' κ (ks it P') #[(0,m,0)] 7 none/\s'=s3) ⟨rfl,rfl,rfl,rfl⟩ ?_ ?_
     ·rintro x d st' s' _ _ ⟨rfl,rfl,rfl,rfl⟩
      exact kasC_bind (kasC_get (kasC_pure hQ))
     ·rintro x d st' s' hx ⟨rfl,_⟩
      lia
    by_cases e2:n - m < (n+1) / 2
    ·rw[Atq e2]
     refine kasC_bind (kasC_lift (wpAny_rule ?_))
     rw[show min (n - m) ((n+1) / 2)=n - m by lia]
     refine kasC_bind (Ahs (by lia) ?_)
     rw[Atl (by simp)]
     refine kasC_bind (kasC_get (kasC_bind (inner ?_)))
     refine kasC_bind (kasC_modify (kasC_bind (kasC_modify (kasC_pure ?_))))
     have:=key (power' n (2 * 0+m) (2 * 0+m+m+(n - m)) n) s2 hJ2
     rw[en]
     exact this
    ·rw[Atl e2]
     refine kasC_bind (kasC_get (kasC_bind (inner ?_)))
     refine kasC_bind (kasC_modify (kasC_bind (kasC_modify (kasC_pure ?_))))
     have:=key (power' n (2 * 0+m) (2 * 0+m+m+(n - m)) n) s2 hJ2
     rw[en]
     exact this
  ·dsimp only
   rw[Atq (Atp _)]
   exact kasC_pure ⟨rfl,hJ',.inr ⟨X,Y,pw,rfl,b1,b2,b3,b4,b5⟩⟩
 ·rintro x d st' s' hx ⟨hJ',⟨rfl,_⟩|⟨rfl,_⟩|⟨rfl,_⟩⟩<;>lia
 ·rintro d st' s' ⟨rfl,hJ',⟨P',rfl,b1,b2⟩|⟨X,Y,pw,rfl,b1,b2,b3,b4,b5⟩⟩
  ·dsimp only
   refine kasC_bind (A3 (P:=fun d st'' s''=>d=(none,())/\st''=SortSt.mk' κ (ks it P') #[(0,n,0)] 7 none/\s''=s') (A0 (fun x d st'' s''=>x=0/\d=(none,())/\st''=SortSt.mk' κ (ks it P') #[(0,n,0)] 7 none/\s''=s') ⟨rfl,rfl,rfl,rfl⟩ ?_ ?_) ?_)
   ·rintro x d st'' s'' _ _ ⟨rfl,rfl,rfl,rfl⟩
    exact kasC_bind (kasC_get (kasC_pure ⟨rfl,rfl,rfl⟩))
   ·rintro x d st'' s'' hx ⟨rfl,_⟩
    lia
   ·rintro d st'' s'' ⟨rfl,rfl,rfl⟩
    exact kasC_pure (h P' _ _ _ b1 b2 hJ')
  ·dsimp only
   have nd:(X++Y).Nodup:=b1.nodup_iff.mpr List.nodup_range
   have hN:∀ x∈X++Y,x < n:=fun x hx=>List.mem_range.mp (b1.mem_iff.mp hx)
   have ln:X.length+Y.length=n:=by have:=b1.length_eq;simpa using this
   refine kasC_bind (A3 (P:=fun d st'' s''=>d=(none,())/\J s''/\∃ R g,st''=SortSt.mk' κ (ks it R) #[(0,X.length+Y.length,pw)] g none/\R.Perm (List.range n)/\R.Pairwise fun x y=>c x y=true) (A0 (fun x d st'' s''=>J s''/\d=(none,())/\((x=0/\st''=SortSt.mk' κ (ks it (X++Y)) #[(0,X.length,pw),(X.length,Y.length,0)] 7 none)\/(x=1/\∃ R g,st''=SortSt.mk' κ (ks it R) #[(0,X.length+Y.length,pw)] g none/\R.Perm (List.range n)/\R.Pairwise fun x y=>c x y=true))) ⟨hJ',rfl,.inl ⟨rfl,rfl⟩⟩ ?_ ?_) ?_)
   ·rintro x d st'' s'' _ _ ⟨hJ2,rfl,⟨rfl,rfl⟩|⟨rfl,R,g,rfl,r1,r2⟩⟩
    ·refine kasC_bind (kasC_get ?_)
     show kasC _ _ _ (do
      let b <- mergeAt' 0
      if !b then pure (ForInStep.done (some (),())) else pure (ForInStep.yield (none,()))) _ _ _
     refine kasC_bind (T1 C hJ2 (fun x hx=>hN x (Aue _ hx)) (fun x hx=>hN x (Atm _ hx)) b4 b5 (fun x hx y hy e=>(List.nodup_append.mp nd).2.2 x hx y hy e) b2 b3 fun R g s3 r1 r2 hJ3=>?_)
     rw[Atl (by simp)]
     exact kasC_pure ⟨hJ3,rfl,.inr ⟨rfl,R,g,rfl,r1.trans b1,r2⟩⟩
    ·exact kasC_bind (kasC_get (kasC_pure ⟨rfl,hJ2,R,g,rfl,r1,r2⟩))
   ·rintro x d st'' s'' hx ⟨_,_,⟨rfl,_⟩|⟨rfl,_⟩⟩<;>lia
   ·rintro d st'' s'' ⟨rfl,hJ2,R,g,rfl,r1,r2⟩
    exact kasC_pure (h R _ _ _ r1 r2 hJ2)
end
end TS
end L2
end S_TS8
section S_ML35
namespace L2
namespace ML
open PySem PySem.Spec PyProof.Rows PySem.SeqAt
open PySem.W (KasT kas_sort katRev KatLex)
structure Wide (ks:List D) (n:Nat) (c:Nat->Nat->Bool) (p:Nat):Prop where
 ask:∀ i j,i < n->j < n->ltD (ks.getD i .non) (ks.getD j .non)=some (c i j)
 irr:∀ i,c i i=false
 trans:∀ i j k,c i j=true->c j k=true->c i k=true
 tot:∀ i j,i < n->j < n->c i j=false->i≠j->c j i=true
 hp:p<=n
 b1:∀ i,i+1 < p->c i (i+1)=true
 b2:∀ i,p<=i->i+1 < n->c i (i+1)=true
def WideR (ks:List D) (n:Nat) (R:List Nat):Prop:=∃ c p,Wide ks n c p/\R.Perm (List.range n)/\R.Pairwise fun x y=>c x y=true
theorem WideR.eq (h:WideR ks n R) (h':WideR ks n R'):R=R':=by
 obtain⟨c,p,w,r1,r2⟩:=h
 obtain⟨c',p',w',r1',r2'⟩:=h'
 have lt:∀ x∈R,x < n:=fun x hx=>List.mem_range.mp (r1.mem_iff.mp hx)
 have lt':∀ x∈R',x < n:=fun x hx=>List.mem_range.mp (r1'.mem_iff.mp hx)
 have r3:R'.Pairwise fun x y=>c x y=true:=r2'.imp_of_mem fun {x y} hx hy h=>by
  have e:=(w.ask x y (lt' x hx) (lt' y hy)).symm.trans (w'.ask x y (lt' x hx) (lt' y hy))
  rw[Auo e]
  exact h
 exact List.Perm.eq_of_pairwise (le:=fun x y=>c x y=true) (fun a b _ _ h1 h2=>by have:=w.trans a b a h1 h2;rw[w.irr] at this;cases this) r2 r3 (r1.trans r1'.symm)
open Classical in
noncomputable def Lu (ds ks:List D):Option (List D):=if h:∃ R,WideR ks ds.length R then some (h.choose.map fun i=>ds.getD i .non) else none
theorem Abn {ds:List D} (h:WideR ks ds.length R):Lu ds ks=some (R.map fun i=>ds.getD i .non):=by
 have h':∃ R,WideR ks ds.length R:=⟨R,h⟩
 rw[Lu,dif_pos h',h'.choose_spec.eq h]
theorem Yg {ds:List D} (h:Lu ds ks=some out):∃ R,WideR ks ds.length R/\out=R.map fun i=>ds.getD i .non:=by
 unfold Lu at h
 split at h
 ·rename_i h'
  cases h
  exact⟨_,h'.choose_spec,rfl⟩
 ·exact Ac h
section
variable {X:Cx}{pins:List (Addr×Obj)}{σ:St}{H H1:Hp}{s:Shared}{μ:List Addr}{m:MH}{k:Nat}{f:Addr}{fd:FuncData}{ps:List Str}{fn:List D->Option D}{A':Around}
theorem Uz {ds ks out:List D} (hl:ks.length=ds.length) (h64:64<=ds.length) (h128:ds.length < 128) (hI:ks.all Ae0=true) (hn:A7 ks=true) (hd:D8 ks<=20) (hu:A'.units+50 < cLine) (ho:Lu ds ks=some out):Uc X pins σ μ false ds ks out A':=by
 intro kS D0 e e1 us its xs kvs H1 s P E I hk hD hx hy hne ri rs rk rks fin
 have l1:=ri.length
 have l2:=rs.length
 have l3:=rk.length
 have l4:=rks.length
 have lu:us.length=its.length:=by lia
 obtain⟨R,hR,rfl⟩:=Yg ho
 obtain⟨c,p,w,r1,r2⟩:=id hR
 unfold ksk_end
 try dsimp only
 rw[Atl (by simp)]
 have h2:¬ its.toArray.size < 2:=by rw[Ats];lia
 rw[Atl h2,Atl h2]
 obtain⟨fs,ht,hfl,hfi⟩:=Hn I rks rk hI
 refine Atj (W.kat_kind (T:=.type "int") ht (by lia) (fun v hv=>?_) (by decide) ?_)
 ·obtain⟨i,t,rfl⟩:=hfi v hv
  exact M0 i t
 rw[W.kat_pairs false lu]
 show wpAny (model X.prog X.w) A' _ _ _ _
 have C:TS.Cm X.prog X.w A' (tuples' true) ((List.toArray us).zip its.toArray) ds.length c (fun s'=>s'=s):=⟨fun i j s' hi hj hs=>by
  subst hs
  rw[<- W.kat_ask_eq lu]
  exact Pj I rk rks hI hn hd hu false i j (c i j) _ (w.ask i j hi hj) ⟨rfl,rfl⟩,w.irr,w.trans,w.tot⟩
 have run:=TS.ts_sortRuns (E:=E) (Q:=fun _ st' s'=>s'=s/\arrOf st'=(List.toArray R).map (W.kas_item ((List.toArray us).zip its.toArray))/\failedOf st'=none) C h64 h128 w.hp w.b1 w.b2 rfl fun R' pd g s' q1 q2 q3=>by
  have e:=WideR.eq hR ⟨c,p,w,q1,q2⟩
  subst e
  exact⟨q3,by show (R.map (W.kas_item _)).toArray=_;rw[List.map_toArray],rfl⟩
 have est:TS.ks ((List.toArray us).zip its.toArray) (List.range ds.length)=(List.toArray us).zip its.toArray:=by
  have e:=W.kas_range ((List.toArray us).zip its.toArray)
  rw[show ((List.toArray us).zip its.toArray).size=ds.length by simp;lia,List.map_toArray] at e
  exact e
 rw[est] at run
 refine Atj (Auq run ?_ fun _ _ z=>z)
 rintro ⟨⟨⟩,st'⟩ s' ⟨hs,har,hf⟩
 replace hs:s'=s:=hs
 subst hs
 try dsimp only
 have lR:R.length=ds.length:=by rw[r1.length_eq,List.length_range]
 refine Gj (b:=false) (W.kat_snds lu har) (by rw[At1];show R.length < 128;lia) (by lia) hf I hk hD hx hy hne fun s' c I'=>fin s' c (R.map fun i=>xs.getD i .non) _ I' ?_ ?_
 ·exact Vals.mapN ri _
 ·exact Reps.mapN rs _
end
section
variable {X:Cx}{e:Expr}{pos p p' kp kp' cp:Pos}{x:Str}{k:Nat}{f:Addr}{fd:FuncData}{ps:List Str}{fn:List D->Option D}{b:Bool}
noncomputable def Jp (fn:List D->Option D):List D->MH->Option (List D):=fun xs m=>match xs with
 |[d]=>(Mi m d).bind fun kv=>(Lj fn m (Np (Bu kv.1))).bind fun ks=>(if (Np (Bu kv.1)).length < 64 then O7 false (Np (Bu kv.1)) ks else Lu (Np (Bu kv.1)) ks).bind fun out=>if (Np (Bu kv.1)).length < 128/\ks.all Ae0=true/\A7 ks=true/\D8 ks<=20/\out.length < 128 then some out else none
 |_=>none
theorem Aar (F:FnOk X.prog X.w X.K X.mg X.base CX0 k f fd ps (spP X.K 1 fn)) (hr:Room (k+2) X.A) (hgf:Gl X x) (hmf:X.mg x=some (.ref f)) (hb:Binds X.K fd ps []) (hdb:(x == ("__debug__":Str))=false) (hg:Gl X "sorted") (hm:X.mg "sorted"=none) (ha:PL X [e] g) (he:starEach [e] X.env=(false,eval e X.env)::starEach [] X.env) :
  PF X (.Call (.Name "sorted" p) [e] [⟨some "key",.Name x p',kp⟩] pos) (Eb (Jp fn) g):=by
 intro pins s σ H Q I h
 obtain⟨env,μ,m,d,S,E,h,q⟩:=h
 obtain⟨xs,h1,h2⟩:=bind_some h
 refine Auu (Eu I hg hm boot_sorted ?_ (by decide) (by decide))
 refine PyProof.Rows.callWith_kw (thn (ha pos pins s σ H (fun vs H1=>Same H H1/\Reps X.K H1 μ (·∈μ) xs vs) I ⟨env,μ,m,xs,S,E,h1,fun v H1 s1 r1=>⟨s1,r1⟩⟩) fun us s1 ⟨vs,H1,I1,r1,s1',rx⟩=>?_) (by rw[he];rfl) (by rw[he];rfl) rfl rfl
 refine kws_cons (Om I1 hgf hmf (kws_nil ?_) hdb)
 match xs,h2 with
 |[d'],h2 =>
  obtain⟨⟨ks0,vs0⟩,h3,h2⟩:=bind_some h2
  obtain⟨ks,h4,h2⟩:=bind_some h2
  obtain⟨out,h5,h2⟩:=bind_some h2
  split at h2
  ·rename_i hc
   cases h2
   obtain⟨v,rfl,r⟩:=rx.one
   obtain⟨a,kvs,rfl,hq,hk,_⟩:=Oc (S.same s1') r h3
   obtain⟨u,rfl,r2⟩:=Pg r1
   cases r2
   have hE:Uc X pins σ μ false (Np (Bu ks0)) ks d X.A.in1.in1:=by
    have hun:=hr.in1.in1.units
    split at h5
    ·rename_i h64
     exact Uy (A':=X.A.in1.in1) (Hm h4) h64 hc.2.1 hc.2.2.1 hc.2.2.2.1 (by lia) h5
    ·rename_i h64
     exact Uz (A':=X.A.in1.in1) (Hm h4) (Nat.le_of_not_lt h64) hc.1 hc.2.1 hc.2.2.1 hc.2.2.2.1 (by lia) h5
   exact N4 F hr hb I1 (S.same s1') hq (by rw[hk]) (ksk_s1 _ _) (fun y=>ksk_l1 _ _) (fun y=>ksk_t1 _ _) h4 hc.1 hE hc.2.2.2.2 fun a ys H' s2 hn hx rr=>q a ys H' (s1'.trans s2) (s1'.free hn) hx rr
  ·exact Ac h2
theorem Aj3 (F:FnOk X.prog X.w X.K X.mg X.base CX0 k f fd ps (spP X.K 1 fn)) (hr:Room (k+2) X.A) (hmf:X.mg x=some (.ref f)) (hb:Binds X.K fd ps []) (hm:X.mg "sorted"=none) (ha:QL X [e] g) (hg:Gl X "sorted":=by unfold Gl;kernel_rfl) (hgf:Gl X x:=by unfold Gl;kernel_rfl) (hdb:(x == ("__debug__":Str))=false:=by decide) (he':Bc e=true:=by rfl) :
  QF X (.Call (.Name "sorted" p) [e] [⟨some "key",.Name x p',kp⟩] pos) (Eb (Jp fn) g):=⟨Aar F hr hgf hmf hb hdb hg hm ha.out (Ap he')⟩
end
section
variable {X:Cx}{e:Expr}{es:List Expr}{pos p p' cp:Pos}{x:Str}{k j n:Nat}{fn:List D->Option D}{g:FL}{tabs:List (Addr×Str)}{kp kp':Pos}{b:Bool}
theorem Aqq (F:Cl X.prog X.w X.K X.mg X.base k x 1 fn) (hr:Room j X.A) (hm:X.mg "sorted"=none) (ha:QL X [e] g) (hk:k+2<=j:=by decide) (hg:Gl X "sorted":=by unfold Gl;kernel_rfl) (hgf:Gl X x:=by unfold Gl;kernel_rfl) (hdb:(x == ("__debug__":Str))=false:=by decide) (he':Bc e=true:=by rfl) :
  QF X (.Call (.Name "sorted" p) [e] [⟨some "key",.Name x p',kp⟩] pos) (Eb (Jp fn) g):=by
 obtain⟨a,fd,ps,F,m,kp,b⟩:=F.ex
 exact Aj3 F (hr.mono hk) m b hm ha hg hgf hdb he'
end
section
variable {X:Cx}{e:Expr}{pos p':Pos}{x:Str}{i:Nat}{f:FE}
theorem Rh (hN:X.N.Nodup) (he:QD X e f) (hi:X.N[i]?=some x:=by kernel_rfl) (hx:Loc X.env.scope x:=by exact Or.inr (by kernel_rfl)) (hsw:swapsWith e (some (.Name x p')) pos.line X.env=pure false:=by kernel_rfl) (hf:X.fn x=true\/X.env.scope.names.lookup x=some .local:=by exact Av3 (by kernel_rfl)) :
  QS X (.Assign [.Name x p'] e pos) (Bs i f):=⟨Ow hN hi hx he.out hsw hf⟩
end
theorem Y2 {α:Type}{blt:α->α->Bool} [Inhabited α] (irr:∀ a,blt a a=false) (tr:∀ a b c,blt a b=true->blt b c=true->blt a c=true) (tt:∀ a b,blt a b=false->blt b a=false->a=b)
  {zs ys:List α}{ks:List D} (hc:∀ i j (hi:i < (zs++ys).length) (hj:j < (zs++ys).length),ltD (ks.getD i .non) (ks.getD j .non)=some (blt (zs++ys)[i] (zs++ys)[j])) (h1:zs.Pairwise fun x y=>blt x y=true) (h2:ys.Pairwise fun x y=>blt x y=true) (nd:(zs++ys).Nodup) :
  ∃ R,WideR ks (zs++ys).length R/\(R.map fun i=>(zs++ys).getD i default).Perm (zs++ys)/\(R.map fun i=>(zs++ys).getD i default).Pairwise (fun x y=>blt x y=true)/\∀ i∈R,i < (zs++ys).length:=by
 have lz:(zs++ys).length=zs.length+ys.length:=At8
 have gz:∀ i (h:i < (zs++ys).length),(zs++ys).getD i default=(zs++ys)[i]:=fun i h=>by rw[Atx,Atv h];rfl
 have r1:∀ i,i+1 < zs.length->blt ((zs++ys).getD i default) ((zs++ys).getD (i+1) default)=true:=fun i h=>by
  rw[gz i (by lia),gz (i+1) (by lia),List.getElem_append_left (by lia),List.getElem_append_left (by lia)]
  exact List.pairwise_iff_getElem.mp h1 i (i+1) _ _ (by lia)
 have r2:∀ i,zs.length<=i->i+1 < (zs++ys).length->blt ((zs++ys).getD i default) ((zs++ys).getD (i+1) default)=true:=fun i h h'=>by
  rw[gz i (by lia),gz (i+1) (by lia),List.getElem_append_right (by lia),List.getElem_append_right (by lia)]
  exact List.pairwise_iff_getElem.mp h2 _ _ _ _ (by lia)
 generalize zs++ys=l at hc nd lz gz r1 r2 ⊢
 have as:∀ {a b},blt a b=true->blt b a=false:=fun {a b} h=>by
  cases e:blt b a with
  |false=>rfl
  |true=>have:=tr _ _ _ h e;rw[irr] at this;cases this
 have ne:∀ i j,i < l.length->j < l.length->i≠j->l.getD i default≠l.getD j default:=fun i j hi hj h e=>h (by
  rw[gz i hi,gz j hj] at e
  rcases Nat.lt_trichotomy i j with q|q|q
  ·exact absurd e (List.pairwise_iff_getElem.mp nd i j hi hj q)
  ·exact q
  ·exact absurd e.symm (List.pairwise_iff_getElem.mp nd j i hj hi q))
 have hR:=List.mergeSort_perm (List.range l.length) fun i j=>!blt (l.getD j default) (l.getD i default)
 have hS:=List.pairwise_mergeSort (le:=fun i j=>!blt (l.getD j default) (l.getD i default)) (fun a b c h1 h2=>by
  have h1:=Bool.not_eq_true' _ |>.mp h1
  have h2:=Bool.not_eq_true' _ |>.mp h2
  rw[Bool.not_eq_true']
  cases e:blt (l.getD c default) (l.getD a default) with
  |false=>rfl
  |true =>
   cases e2:blt (l.getD a default) (l.getD b default) with
   |true=>rw[tr _ _ _ e e2] at h2;cases h2
   |false=>rw[tt _ _ e2 h1,h2] at e;cases e) (fun a b=>by
  cases e:blt (l.getD b default) (l.getD a default) with
  |false=>rfl
  |true=>rw[as e];rfl) (List.range l.length)
 generalize (List.range l.length).mergeSort _=R at hR hS
 have lt:∀ x∈R,x < l.length:=fun x hx=>List.mem_range.mp (hR.mem_iff.mp hx)
 have hS2:R.Pairwise fun x y=>blt (l.getD x default) (l.getD y default)=true:=by
  refine (hS.and (hR.nodup_iff.mpr List.nodup_range)).imp_of_mem fun {x y} hx hy h=>?_
  have h1:=Bool.not_eq_true' _ |>.mp h.1
  cases e:blt (l.getD x default) (l.getD y default) with
  |true=>rfl
  |false=>exact absurd (tt _ _ e h1) (ne x y (lt x hx) (lt y hy) h.2)
 refine⟨R,⟨fun i j=>decide (i < l.length)&&decide (j < l.length)&&blt (l.getD i default) (l.getD j default),zs.length,⟨fun i j hi hj=>?_,fun i=>by simp[irr],fun i j k h1 h2=>?_,fun i j hi hj h hne=>?_,by lia,fun i h=>?_,fun i h h'=>?_⟩,hR,?_⟩,?_,?_,lt⟩
 ·rw[hc i j hi hj,gz i hi,gz j hj];simp[hi,hj]
 ·simp only[At0,Aux] at h1 h2 ⊢
  exact⟨⟨h1.1.1,h2.1.2⟩,tr _ _ _ h1.2 h2.2⟩
 ·simp only[hi,hj,decide_true,Bool.true_and] at h ⊢
  cases e:blt (l.getD j default) (l.getD i default) with
  |true=>rfl
  |false=>exact absurd (tt _ _ h e) (ne i j hi hj hne)
 ·simp only[At0,Aux]
  exact⟨⟨by lia,by lia⟩,r1 i h⟩
 ·simp only[At0,Aux]
  exact⟨⟨by lia,by lia⟩,r2 i h h'⟩
 ·exact hS2.imp_of_mem fun {x y} hx hy h=>by
   simp only[At0,Aux]
   exact⟨⟨lt x hx,lt y hy⟩,h⟩
 ·have h2:=hR.map fun i=>l.getD i default
  have e2:(List.range l.length).map (fun i=>l.getD i default)=l:=by
   apply Av0
   intro i
   by_cases hi:i < l.length
   ·simp[hi]
   ·simp[hi]
  rwa [e2] at h2
 ·rw[List.pairwise_map];exact hS2
end ML
end L2
end S_ML35
section S_MM1
namespace L2
namespace ML
open PySem PySem.Spec PyProof.Rows
noncomputable section
open Classical
def W {α:Type} (x:Option α) (Q:α->Prop):Prop:=∃ a,x=some a/\Q a
theorem W.out {d:α} (h:W x (fun a=>a=d)):x=some d:=by obtain⟨a,h1,h2⟩:=h;rw[h1,h2]
theorem W.imp {α:Type}{x:Option α}{P Q:α->Prop} (h:W x P) (i:∀ a,P a->Q a):W x Q:=by obtain⟨a,h1,h2⟩:=h;exact⟨a,h1,i a h2⟩
theorem Ab:W (some a) Q=Q a:=by
 apply propext;constructor
 ·rintro ⟨b,h,q⟩;cases h;exact q
 ·exact fun q=>⟨a,rfl,q⟩
theorem Bl:W none Q=False:=by
 apply propext;constructor
 ·rintro ⟨b,h,q⟩;exact Ac h
 ·exact False.elim
theorem W_bind:W (x.bind f) Q=W x (fun a=>W (f a) Q):=by
 cases x with
 |none=>rw[Bl];exact Bl
 |some a=>rw[Ab];rfl
theorem Il [Decidable c]:W (if c then some x else none) Q=(c/\Q x):=by
 by_cases h:c
 ·rw[Atq h,Ab];simp[h]
 ·rw[Atl h,Bl];simp[h]
noncomputable def Aj1 (Q:D->Prop):Out->Prop
 |.rt d m=>W (B0 m d) Q
 |.nx _ _=>Q .non
 |_=>False
theorem Aeh {d:D}:Aj1 Q (.rt d m)=W (B0 m d) Q:=rfl
theorem Aeg:Aj1 Q (.nx e m)=Q .non:=rfl
theorem Bg:W (Ef n g ds) Q=W (g (ds.map some++List.replicate (n - ds.length) none) []) (Aj1 Q):=by
 unfold Ef
 rw[W_bind]
 congr 1
 funext o
 cases o<;>first|rfl|exact Ab|exact Bl
noncomputable def Am0 (g:FS) (Q:Out->Prop):Out->Prop
 |.nx e m=>W (g e m) Q
 |o=>Q o
theorem Aha:Am0 g Q (.nx e m)=W (g e m) Q:=rfl
theorem Ahb:Am0 g Q (.rt e m)=Q (.rt e m):=rfl
theorem Ag8:Am0 g Q (.bk e m)=Q (.bk e m):=rfl
theorem Ag9:Am0 g Q (.ct e m)=Q (.ct e m):=rfl
theorem Ai6:W (Bd f g env m) Q=W (f env m) (Am0 g Q):=by
 unfold Bd
 rw[W_bind]
 congr 1
 funext o
 cases o<;>first|rfl|exact Ab
theorem Ai4:W (Gs env m) Q=Q (.nx env m):=Ab
theorem Ai5:W (Dm f env m) Q=W (f env m) fun d=>Q (.rt d m):=by
 unfold Dm;rw[W_bind];congr 1;funext d;exact Ab
theorem Ad1:W (Yb f env m) Q=W (f env m) fun ds=>Q (.rt (.ref m.length) (m++[.lst ds])):=by
 unfold Yb;rw[W_bind];congr 1;funext d;exact Ab
def cK (p q:Prop) (b:Bool):Prop:=(b=true->p)/\(b=false->q)
theorem Ad9:cK p q true=p:=by unfold cK;simp
theorem Ajl:cK p q false=q:=by unfold cK;simp
theorem cK.mk {p q:Prop}{b:Bool} (h1:b=true->p) (h2:b=false->q):cK p q b:=⟨h1,h2⟩
theorem cK.dec [Decidable c] (h1:c->p) (h2:¬ c->q):cK p q (decide c):=⟨fun h=>h1 (Auw h),fun h=>h2 (of_decide_eq_false h)⟩
theorem cK.ndec [Decidable c] (h1:¬ c->p) (h2:c->q):cK p q (!decide c):=⟨fun h=>h1 (by simpa using h),fun h=>h2 (by simpa using h)⟩
theorem Gk:W (if b=true then x else y) Q=cK (W x Q) (W y Q) b:=by
 cases b
 ·rw[Ajl];rfl
 ·rw[Ad9];rfl
theorem Ao1 {t:FB}:W (sIf t f g env m) Q=W (t env m) (cK (W (f env m) Q) (W (g env m) Q)):=by
 unfold sIf;rw[W_bind];congr 1;funext c;exact Gk
theorem Arb {d:D}:W (fC d env m) Q=Q d:=Ab
theorem Ara:W (f2 o f g env m) Q=W (f env m) fun x=>W (g env m) fun y=>W (o x y m) Q:=by
 unfold f2;rw[W_bind];congr 1;funext d;exact W_bind
theorem Asa:W (f1 o f env m) Q=W (f env m) fun x=>W (o x m) Q:=W_bind
theorem Jc:W (Aj env m) Q=Q []:=Ab
theorem E8:W (Aa f g env m) Q=W (f env m) fun x=>W (g env m) fun xs=>Q (x::xs):=by
 unfold Aa;rw[W_bind];congr 1;funext d;rw[W_bind];congr 1;funext e;exact Ab
theorem J3:W (Ay o g env m) Q=W (g env m) fun xs=>W (o xs m) Q:=W_bind
theorem J4:W (Eb o g env m) Q=W (g env m) fun xs=>W (o xs m) Q:=W_bind
theorem Aij:W (Ec g env m) Q=W (g env m) fun ds=>Q (.lst ds):=by
 unfold Ec;rw[W_bind];congr 1;funext d;exact Ab
theorem Aim:W (Cq g env m) Q=W (g env m) fun ds=>ds.length<=1000000/\Q (.tup ds):=by
 unfold Cq;rw[W_bind];congr 1;funext d;exact Il
theorem Za:W (Bt g env m) Q=W (g env m) fun ds=>ds.length<=1000000/\Q ds:=by
 unfold Bt;rw[W_bind];congr 1;funext d;exact Il
theorem Ny:W (Be f env m) Q=W (f env m) fun d=>W (asB d) Q:=W_bind
theorem Aob:W (asB (.bl b)) Q=Q b:=Ab
theorem Ab5:W (T9 f env m) Q=W (f env m) fun d=>W (Ahq m d) Q:=W_bind
theorem Aje:W (Ahq m (.bl b)) Q=Q b:=Ab
theorem Ajf:W (Ahq m (.tup ds)) Q=Q (!ds.isEmpty):=Ab
theorem Aig:W (U1 f g env m) Q=W (f env m) (cK (W (g env m) Q) (Q false)):=by
 unfold U1;rw[W_bind];congr 1;funext c;rw[Gk,Ab]
theorem Aoq:W (fOr f g env m) Q=W (f env m) (cK (Q true) (W (g env m) Q)):=by
 unfold fOr;rw[W_bind];congr 1;funext c;rw[Gk,Ab]
theorem Aik:W (Aee f env m) Q=W (f env m) fun b=>Q (!b):=by
 unfold Aee;rw[W_bind];congr 1;funext c;exact Ab
theorem Ads:W (Es f g env m) Q=W (f env m) fun d=>W (asB d) (cK (W (g env m) Q) (Q (.bl false))):=by
 unfold Es;rw[W_bind,Ny];congr 1;funext c;congr 1;funext c;rw[Gk,Ab]
theorem Ail:W (Aef f g env m) Q=W (f env m) fun d=>W (asB d) (cK (Q (.bl true)) (W (g env m) Q)):=by
 unfold Aef;rw[W_bind,Ny];congr 1;funext c;congr 1;funext c;rw[Gk,Ab]
theorem Adu:W (Mn f env m) Q=W (f env m) fun d=>W (Ahq m d) fun b=>Q (.bl (!b)):=by
 unfold Mn;rw[W_bind,Ab5];congr 1;funext c;congr 1;funext c;exact Ab
theorem Aoo {t:FB}:W (fIf t f g env m) Q=W (t env m) (cK (W (f env m) Q) (W (g env m) Q)):=by
 unfold fIf;rw[W_bind];congr 1;funext c;exact Gk
theorem Aor {l h:FO}:W (fSl f l h env m) Q=W (f env m) fun x=>W (l env m) fun lo=>W (h env m) fun hi=>W (oSl x lo hi) Q:=by
 unfold fSl
 rw[W_bind];congr 1;funext x
 rw[W_bind];congr 1;funext y
 rw[W_bind]
theorem Aop:W (fNo env m) Q=Q none:=Ab
theorem Adv:W (Od f env m) Q=W (f env m) fun d=>W (asI d) fun i=>Q (some i):=by
 unfold Od
 rw[W_bind];congr 1;funext x
 rw[W_bind];congr 1;funext y
 exact Ab
theorem Aoc:W (asI (.int i)) Q=Q i:=Ab
theorem Aiz {z:List D}{lo hi:Option Int}{Q:D->Prop}:W (oSl (.tup z) lo hi) Q=Q (.tup (Zi z lo hi)):=Ab
theorem Aih:W (Ahz f g env m) Q=W (f env m) fun x=>W (g env m) fun y=>W (sqL m x) fun xs=>W (sqL m y) fun ys=>xs.length+ys.length<=1000000/\Q (xs++ys):=by
 unfold Ahz
 rw[W_bind];congr 1;funext x
 rw[W_bind];congr 1;funext y
 rw[W_bind];congr 1;funext z
 rw[W_bind];congr 1;funext k
 exact Il
theorem Aii:W (Y5 U f env m) Q=W (f env m) fun d=>W (tyD m d) fun T=>W (Ve T U) fun b=>Q (.bl b):=by
 unfold Y5
 rw[W_bind];congr 1;funext x
 rw[W_bind];congr 1;funext y
 rw[W_bind];congr 1;funext z
 exact Ab
theorem Uh:W (L6 env m) Q=Q true:=Ab
theorem Adt {cap:List Nat}{t:FB}:W (B9 cap k fw g t fe env m) Q=W (fw env m) fun w=>(w.chk m/\w.all.length<=1000000)/\W (D7 g t fe m (T8 cap k env) w.all) Q:=by
 unfold B9
 rw[W_bind];congr 1;funext w
 by_cases h:w.chk m/\w.all.length<=1000000
 ·rw[Atq h];apply propext;exact⟨fun q=>⟨h,q⟩,fun q=>q.2⟩
 ·rw[Atl h,Bl];apply propext;exact⟨False.elim,fun q=>h q.1⟩
theorem Eo {t:FB}:W (D7 g t fe m env []) Q=Q []:=Ab
theorem Dz {t:FB}{d:D}:W (D7 g t fe m env (d::ds)) Q=W (g d env) fun env1=>W (t env1 m) (cK (W (fe env1 m) fun y=>W (D7 g t fe m env ds) fun ys=>Q (y::ys)) (W (D7 g t fe m env ds) Q)):=by
 rw[D7,W_bind];congr 1;funext e
 rw[W_bind];congr 1;funext ok
 rw[Gk,W_bind]
 congr 1
 congr 1;funext y
 rw[W_bind];congr 1;funext z
 exact Ab
theorem Aic:W (C5 (.int i) (.int j) m) Q=Q (.int (i+j)):=Ab
theorem Aid:W (C5 (.tup i) (.tup j) m) Q=(i.length+j.length<=1000000/\Q (.tup (i++j))):=Il
theorem Ajd:W (Akw (.int i) (.int j) m) Q=Q (.int (i - j)):=Ab
theorem Aiw:W (Y6 (.int i) (.int j) m) Q=(((-(2 ^ 64) < i/\i < 2 ^ 64)\/(-(2 ^ 64) < j/\j < 2 ^ 64))/\Q (.int (i * j))):=Il
theorem Aif:W (Afg (.int i) (.int j) m) Q=((0 < j/\j < 1073741824)/\Q (.int (i / j))):=Il
theorem Aiv:W (M4 (.int i) (.int j) m) Q=(0 < j/\Q (.int (i % j))):=Il
theorem Ai0:W (Ah2 (.int i) (.int j) m) Q=((0<=j/\j<=1000000/\i.natAbs < 2 ^ 64)/\Q (.int (i ^ j.toNat))):=Il
theorem Ai7:W (Anz (.int i) (.int j) m) Q=(0<=j/\Q (.int (i / 2 ^ j.toNat))):=Il
theorem Aoy:W (oLt (.int i) (.int j) m) Q=Q (.bl (decide (i < j))):=by
 rw[show oLt (.int i) (.int j) m=some (.bl (decide (i < j))) by rfl,Ab]
theorem Aos:W (oGt (.int i) (.int j) m) Q=Q (.bl (decide (j < i))):=Ab
theorem Ar9:W (oEq x y m) Q=W (C8 m x) fun x'=>W (C8 m y) fun y'=>dep x'<=60/\Q (.bl (deq x' y')):=by
 unfold oEq eqO
 rw[W_bind,W_bind];congr 1;funext x'
 rw[W_bind];congr 1;funext y'
 rw[Il,Ab]
theorem Asf:W (oNe x y m) Q=W (C8 m x) fun x'=>W (C8 m y) fun y'=>dep x'<=60/\Q (.bl (!deq x' y')):=by
 unfold oNe eqO
 rw[W_bind,W_bind];congr 1;funext x'
 rw[W_bind];congr 1;funext y'
 rw[Il,Ab]
theorem Aio:W (Acn .non m) Q=Q (.bl true):=Ab
theorem Ady:W (Iz .non m) Q=Q (.bl false):=Ab
theorem Aox:W (oIx (.tup z) (.int i) m) Q=W (atI z i) Q:=rfl
theorem Aou:W (oIx (.lst z) (.int i) m) Q=W (atI z i) Q:=rfl
theorem Aot:W (oIx (.kl z) (.int i) m) Q=W (atI z i) Q:=rfl
theorem Aow:W (oIx (.ref n) (.int i) m) Q=W (sq m (.ref n)) fun z=>W (atI z i) Q:=W_bind
theorem Ais:W (Gv [.tup z] m) Q=Q (.int z.length):=Ab
theorem Aiq:W (Gv [.lst z] m) Q=Q (.int z.length):=Ab
theorem Aip:W (Gv [.kl z] m) Q=Q (.int z.length):=Ab
theorem Air:W (Gv [.ref n] m) Q=W (sq m (.ref n)) fun z=>Q (.int z.length):=by
 show W (((sq m (.ref n)).bind fun ds=>some ds.length).bind fun n=>some (.int n)) Q=_
 rw[W_bind,W_bind];congr 1;funext z;rw[Ab,Ab]
theorem Aoa {d:D}:W (Aks [d] m) Q=W (sqL m d) fun ds=>W (N2 ds) fun bs=>Q (.bl (bs.all (fun b=>b))):=by
 unfold Aks
 simp only
 rw[W_bind];congr 1;funext z;rw[W_bind];congr 1;funext z;exact Ab
theorem Ajb:W (sqL m (.lst z)) Q=Q z:=Ab
theorem G9:W (Ei n fn ds m) Q=W (B6 m ds) fun ds'=>ds'.length=n/\W (fn ds') Q:=by
 unfold Ei
 rw[W_bind];congr 1;funext z
 by_cases h:z.length=n
 ·rw[Atq h];simp[h]
 ·rw[Atl h,Bl];simp[h]
theorem Cf:W (B6 m []) Q=Q []:=Ab
theorem Ce {d:D}:W (B6 m (d::ds)) Q=W (C8 m d) fun d'=>W (B6 m ds) fun ds'=>Q (d'::ds'):=by
 rw[B6,W_bind];congr 1;funext z;rw[W_bind];congr 1;funext z;exact Ab
theorem Ad2:W (C8 m (.bl b)) Q=Q (.bl b):=Ab
theorem Ad3:W (C8 m (.int b)) Q=Q (.int b):=Ab
theorem Ad5:W (C8 m (.lst b)) Q=(A7 b=true/\Q (.lst b)):=Il
theorem Ad4:W (C8 m (.kl b)) Q=(A7 b=true/\Q (.kl b)):=Il
theorem Ao2:W (tyD m (.int b)) Q=Q "int":=Ab
theorem Ao3:W (tyD m (.str b)) Q=Q "str":=Ab
theorem Ao4:W (tyD m (.tup b)) Q=Q "tuple":=Ab
theorem Rv:W (Ve "int" "str") Q=Q false:=by rw[show Ve "int" "str"=some false by decide,Ab]
theorem Rw:W (Ve "str" "str") Q=Q true:=by rw[show Ve "str" "str"=some true by decide,Ab]
theorem Ir:W (Ve "tuple" "tuple") Q=Q true:=by rw[show Ve "tuple" "tuple"=some true by decide,Ab]
theorem Apa:W (B0 m (.bl b)) Q=Q (.bl b):=by rw[B0,Ab]
theorem Apb:W (B0 m (.int b)) Q=Q (.int b):=by rw[B0,Ab]
theorem Apc:W (B0 m (.str b)) Q=Q (.str b):=by rw[B0,Ab]
def Aq6 (m:MH) (d:D) (Q:Wk->Prop):Prop:=W (match d with
 |.str z=>some ⟨Ju z,Az⟩
 |.tup ds=>some ⟨ds,Az⟩
 |.lst ds=>some ⟨ds,Az⟩
 |.kl ds=>some ⟨ds,Az⟩
 |.ref n=>(match m[n]? with
  |some (.lst ds)=>some ⟨ds,fun m'=>m'[n]?=some (.lst ds)⟩
  |_=>none)
 |_=>none) Q
theorem Ajg:W (Nt f env m) Q=W (f env m) fun d=>Aq6 m d Q:=W_bind
theorem Ati:Aq6 m (.tup z) Q=Q ⟨z,Az⟩:=Ab
theorem Ath:Aq6 m (.lst z) Q=Q ⟨z,Az⟩:=Ab
def Aro (ds:List D) (Q:Wk->Prop):Prop:=W (match ds with
 |[.int j]=>if -(2 ^ 62)<=j/\j < 2 ^ 62 then some ⟨B1 0 j.toNat,Az⟩ else none
 |_=>none) Q
theorem Ad7:W (Gx g env m) Q=W (g env m) fun ds=>Aro ds Q:=W_bind
theorem Aqw:Aro [.int j] Q=((-(2 ^ 62)<=j/\j < 2 ^ 62)/\Q ⟨B1 0 j.toNat,Az⟩):=Il
theorem Ai2:W (Nf f g b env m) Q=W (f env m) fun w=>W (Io w.chk g b w.all env m) Q:=W_bind
theorem Ph:W (Io chk g b [] e m) Q=(chk m/\Q (.nx e m)):=by rw[Io];exact Il
def Tw (chk:MH->Prop) (g:FG) (b:FS) (ds:List D) (Q:Out->Prop):Out->Prop
 |.nx e m=>W (Io chk g b ds e m) Q
 |.ct e m=>W (Io chk g b ds e m) Q
 |.bk e m=>Q (.nx e m)
 |.rt d m=>Q (.rt d m)
theorem Abu:Tw chk g b ds Q (.nx e m)=W (Io chk g b ds e m) Q:=rfl
theorem Abt:Tw chk g b ds Q (.ct e m)=W (Io chk g b ds e m) Q:=rfl
theorem Abs:Tw chk g b ds Q (.bk e m)=Q (.nx e m):=rfl
theorem Abv:Tw chk g b ds Q (.rt e m)=Q (.rt e m):=rfl
theorem Mb {d:D}:W (Io chk g b (d::ds) e m) Q=(chk m/\W (g d e) fun e1=>W (b e1 m) (Tw chk g b ds Q)):=by
 rw[Io]
 by_cases h:chk m
 ·rw[Atq h,W_bind]
  apply propext
  have k:∀ e1,W ((b e1 m).bind fun o=>match o with
   |.nx env2 m2=>Io chk g b ds env2 m2
   |.ct env2 m2=>Io chk g b ds env2 m2
   |.bk env2 m2=>some (.nx env2 m2)
   |.rt d m2=>some (.rt d m2)) Q=W (b e1 m) (Tw chk g b ds Q):=by
   intro e1
   rw[W_bind]
   congr 1
   funext o
   cases o<;>first|rfl|exact Ab
  exact⟨fun q=>⟨h,q.imp fun e1 q=>(k e1) ▸ q⟩,fun q=>q.2.imp fun e1 q=>(k e1) ▸ q⟩
 ·rw[Atl h,Bl];simp[h]
theorem R4:Az m=True:=rfl
theorem Ug (P:D->Prop) (h:∀ d∈ds,W (g d env) fun e1=>W (fe e1 m) P) (q:∀ es,es.length=ds.length->(∀ e∈es,P e)->Q es):W (D7 g L6 fe m env ds) Q:=by
 induction ds generalizing Q with
 |nil=>rw[Eo];exact q [] rfl fun _ h=>nomatch h
 |cons d ds ih =>
  rw[Dz]
  refine (h d (Atk ..)).imp fun e1 h1=>?_
  rw[Uh,Ad9]
  refine h1.imp fun y hy=>ih (fun e he=>h e (Atn _ he)) fun es hl hp=>q (y::es) (by simp[hl]) fun e he=>?_
  rcases List.mem_cons.mp he with rfl|he
  ·exact hy
  ·exact hp e he
theorem Arc {d:D}{l:Ax}:W (Ad 0 (some d::l) m) Q=Q d:=Ab
theorem Ar1 {d:D}{l:Ax}:W (Ar 0 d (y::l)) Q=Q (some d::l):=Ab
theorem Ard {d:D}{l:Ax}:W (Ad 1 (x0::some d::l) m) Q=Q d:=Ab
theorem Asg {l:Ax}:W (Bs 1 f (x0::y::l) m) Q=W (f (x0::y::l) m) fun d=>Q (.nx (x0::some d::l) m):=by unfold Bs;rw[W_bind];congr 1;funext d;exact Ab
theorem Asb {l:Ax}:W (Ip 1 f (x0::y::l) m) Q=W (f (x0::y::l) m) fun ds=>Q (.nx (x0::some (.ref m.length)::l) (m++[.lst ds])):=by unfold Ip;rw[W_bind];congr 1;funext d;exact Ab
theorem Ar2 {d:D}{l:Ax}:W (Ar 1 d (x0::y::l)) Q=Q (x0::some d::l):=Ab
theorem Asq {d:D}{l:Ax}:W (Ad 2 (x0::x1::some d::l) m) Q=Q d:=Ab
theorem Ash {l:Ax}:W (Bs 2 f (x0::x1::y::l) m) Q=W (f (x0::x1::y::l) m) fun d=>Q (.nx (x0::x1::some d::l) m):=by unfold Bs;rw[W_bind];congr 1;funext d;exact Ab
theorem Asc {l:Ax}:W (Ip 2 f (x0::x1::y::l) m) Q=W (f (x0::x1::y::l) m) fun ds=>Q (.nx (x0::x1::some (.ref m.length)::l) (m++[.lst ds])):=by unfold Ip;rw[W_bind];congr 1;funext d;exact Ab
theorem Ar3 {d:D}{l:Ax}:W (Ar 2 d (x0::x1::y::l)) Q=Q (x0::x1::some d::l):=Ab
theorem Asr {d:D}{l:Ax}:W (Ad 3 (x0::x1::x2::some d::l) m) Q=Q d:=Ab
theorem Asi {l:Ax}:W (Bs 3 f (x0::x1::x2::y::l) m) Q=W (f (x0::x1::x2::y::l) m) fun d=>Q (.nx (x0::x1::x2::some d::l) m):=by unfold Bs;rw[W_bind];congr 1;funext d;exact Ab
theorem Asd {l:Ax}:W (Ip 3 f (x0::x1::x2::y::l) m) Q=W (f (x0::x1::x2::y::l) m) fun ds=>Q (.nx (x0::x1::x2::some (.ref m.length)::l) (m++[.lst ds])):=by unfold Ip;rw[W_bind];congr 1;funext d;exact Ab
theorem Ar4 {d:D}{l:Ax}:W (Ar 3 d (x0::x1::x2::y::l)) Q=Q (x0::x1::x2::some d::l):=Ab
theorem Ass {d:D}{l:Ax}:W (Ad 4 (x0::x1::x2::x3::some d::l) m) Q=Q d:=Ab
theorem Asj {l:Ax}:W (Bs 4 f (x0::x1::x2::x3::y::l) m) Q=W (f (x0::x1::x2::x3::y::l) m) fun d=>Q (.nx (x0::x1::x2::x3::some d::l) m):=by unfold Bs;rw[W_bind];congr 1;funext d;exact Ab
theorem Ar5 {d:D}{l:Ax}:W (Ar 4 d (x0::x1::x2::x3::y::l)) Q=Q (x0::x1::x2::x3::some d::l):=Ab
theorem Ast {d:D}{l:Ax}:W (Ad 5 (x0::x1::x2::x3::x4::some d::l) m) Q=Q d:=Ab
theorem Asl {l:Ax}:W (Bs 5 f (x0::x1::x2::x3::x4::y::l) m) Q=W (f (x0::x1::x2::x3::x4::y::l) m) fun d=>Q (.nx (x0::x1::x2::x3::x4::some d::l) m):=by unfold Bs;rw[W_bind];congr 1;funext d;exact Ab
theorem Ar6 {d:D}{l:Ax}:W (Ar 5 d (x0::x1::x2::x3::x4::y::l)) Q=Q (x0::x1::x2::x3::x4::some d::l):=Ab
theorem Asu {d:D}{l:Ax}:W (Ad 6 (x0::x1::x2::x3::x4::x5::some d::l) m) Q=Q d:=Ab
theorem Asm {l:Ax}:W (Bs 6 f (x0::x1::x2::x3::x4::x5::y::l) m) Q=W (f (x0::x1::x2::x3::x4::x5::y::l) m) fun d=>Q (.nx (x0::x1::x2::x3::x4::x5::some d::l) m):=by unfold Bs;rw[W_bind];congr 1;funext d;exact Ab
theorem Ar7 {d:D}{l:Ax}:W (Ar 6 d (x0::x1::x2::x3::x4::x5::y::l)) Q=Q (x0::x1::x2::x3::x4::x5::some d::l):=Ab
theorem Asv {d:D}{l:Ax}:W (Ad 7 (x0::x1::x2::x3::x4::x5::x6::some d::l) m) Q=Q d:=Ab
theorem Asn {l:Ax}:W (Bs 7 f (x0::x1::x2::x3::x4::x5::x6::y::l) m) Q=W (f (x0::x1::x2::x3::x4::x5::x6::y::l) m) fun d=>Q (.nx (x0::x1::x2::x3::x4::x5::x6::some d::l) m):=by unfold Bs;rw[W_bind];congr 1;funext d;exact Ab
theorem Ase {l:Ax}:W (Ip 7 f (x0::x1::x2::x3::x4::x5::x6::y::l) m) Q=W (f (x0::x1::x2::x3::x4::x5::x6::y::l) m) fun ds=>Q (.nx (x0::x1::x2::x3::x4::x5::x6::some (.ref m.length)::l) (m++[.lst ds])):=by unfold Ip;rw[W_bind];congr 1;funext d;exact Ab
theorem Asw {d:D}{l:Ax}:W (Ad 8 (x0::x1::x2::x3::x4::x5::x6::x7::some d::l) m) Q=Q d:=Ab
theorem Aso {l:Ax}:W (Bs 8 f (x0::x1::x2::x3::x4::x5::x6::x7::y::l) m) Q=W (f (x0::x1::x2::x3::x4::x5::x6::x7::y::l) m) fun d=>Q (.nx (x0::x1::x2::x3::x4::x5::x6::x7::some d::l) m):=by unfold Bs;rw[W_bind];congr 1;funext d;exact Ab
theorem Ar8 {d:D}{l:Ax}:W (Ar 8 d (x0::x1::x2::x3::x4::x5::x6::x7::y::l)) Q=Q (x0::x1::x2::x3::x4::x5::x6::x7::some d::l):=Ab
theorem Asx {d:D}{l:Ax}:W (Ad 9 (x0::x1::x2::x3::x4::x5::x6::x7::x8::some d::l) m) Q=Q d:=Ab
theorem Asp {l:Ax}:W (Bs 9 f (x0::x1::x2::x3::x4::x5::x6::x7::x8::y::l) m) Q=W (f (x0::x1::x2::x3::x4::x5::x6::x7::x8::y::l) m) fun d=>Q (.nx (x0::x1::x2::x3::x4::x5::x6::x7::x8::some d::l) m):=by unfold Bs;rw[W_bind];congr 1;funext d;exact Ab
theorem Ao5 {d:D}{l:Ax}:W (Ad 10 (x0::x1::x2::x3::x4::x5::x6::x7::x8::x9::some d::l) m) Q=Q d:=Ab
theorem Ao0 {l:Ax}:W (Bs 10 f (x0::x1::x2::x3::x4::x5::x6::x7::x8::x9::y::l) m) Q=W (f (x0::x1::x2::x3::x4::x5::x6::x7::x8::x9::y::l) m) fun d=>Q (.nx (x0::x1::x2::x3::x4::x5::x6::x7::x8::x9::some d::l) m):=by unfold Bs;rw[W_bind];congr 1;funext d;exact Ab
theorem Ao6 {d:D}{l:Ax}:W (Ad 11 (x0::x1::x2::x3::x4::x5::x6::x7::x8::x9::x10::some d::l) m) Q=Q d:=Ab
theorem Aoh {d:D}{l:Ax}:W (Ar 11 d (x0::x1::x2::x3::x4::x5::x6::x7::x8::x9::x10::y::l)) Q=Q (x0::x1::x2::x3::x4::x5::x6::x7::x8::x9::x10::some d::l):=Ab
theorem Ao7 {d:D}{l:Ax}:W (Ad 12 (x0::x1::x2::x3::x4::x5::x6::x7::x8::x9::x10::x11::some d::l) m) Q=Q d:=Ab
theorem Aoi {d:D}{l:Ax}:W (Ar 12 d (x0::x1::x2::x3::x4::x5::x6::x7::x8::x9::x10::x11::y::l)) Q=Q (x0::x1::x2::x3::x4::x5::x6::x7::x8::x9::x10::x11::some d::l):=Ab
end
theorem Bv:deq (.int i) (.int j)=decide (i=j):=by
 unfold deq pyD
 rw[show PyData.eqv (.int i) (.int j)=(i == j) by simp[PyData.eqv]]
 by_cases h:i=j<;>simp[h]
theorem Lc:deq (.str i) (.str j)=decide (i=j):=by
 unfold deq pyD
 rw[show PyData.eqv (.str i) (.str j)=(i == j) by simp[PyData.eqv]]
 by_cases h:i=j<;>simp[h]
theorem Ajp:deq (.bl i) (.bl j)=decide (i=j):=by
 cases i<;>cases j<;>decide
theorem Cz:dep (.int i)=0:=by simp[dep]
theorem Oa:dep (.str i)=0:=by simp[dep]
theorem Ajo:dep (.bl i)=0:=by simp[dep]
theorem Uv:dep .non=0:=by simp[dep]
theorem Tj (ns:List Int):A7 (ns.map D.int)=true:=by
 induction ns with
 |nil=>rw[Awb,A7]
 |cons n ns ih=>rw[Atz,A7,ih,show B3 (D.int n)=true by simp[B3]];rfl
theorem Nw (h0:0<=i) (h1:i < xs.length) (q:∀ d,xs[i.toNat]?=some d->d∈xs->Q d):W (atI xs i) Q:=by
 unfold atI ixN
 rw[Atq h0,Atq h1]
 have hi:i.toNat < xs.length:=by lia
 refine⟨xs[i.toNat],?_,q _ (Atv hi) (Atr hi)⟩
 exact Atv hi
theorem B8 {x:Option D}{n:Int}{Q:D->Prop} (h:W x fun d=>∃ v,d=.int v/\0<=v/\v < n) (q:∀ v,0<=v->v < n->Q (.int v)):W x Q:=h.imp fun d ⟨v,e,h0,h1⟩=>e ▸ q v h0 h1
theorem Ah1:(⟨#[c]⟩:Str).length=1:=rfl
theorem Ze:T8 [] k env=List.replicate k none:=rfl
theorem Uo {cap:List Nat}:T8 (i::cap) k env=(env[i]?).bind id::T8 cap k env:=rfl
theorem Cj {α:Type}{g:FG}{fe:FE}{m:MH}{env:Ax}{h:α->D} (F:α->D) {xs:List α}{Q:List D->Prop} (k:∀ x∈xs,W (g (h x) env) fun e1=>W (fe e1 m) fun y=>y=F x) (q:Q (xs.map F)):W (D7 g L6 fe m env (xs.map h)) Q:=by
 induction xs generalizing Q with
 |nil=>rw[Awb,Eo];exact q
 |cons d ds ih =>
  rw[Atz,Dz]
  refine (k d (Atk ..)).imp fun e1 h1=>?_
  rw[Uh,Ad9]
  refine h1.imp fun y hy=>?_
  subst hy
  exact ih (fun e he=>k e (Atn _ he)) q
noncomputable section
open Classical
theorem Aja:W (sq m (.lst ds)) Q=Q ds:=Ab
theorem Ajc:W (sqL m (.ref n)) Q=W (sq m (.ref n)) Q:=rfl
def An0 (o i d:D) (env:Ax) (m:MH) (Q:Out->Prop):Prop:=W (match o,i with
 |.ref n,.int k=>(match m[n]? with
  |some (.lst ds)=>(ixN ds.length k).bind fun j=>some (.nx env (m.set n (.lst (ds.set j d))))
  |_=>none)
 |_,_=>none) Q
theorem Am1 {d:D}:An0 (.ref n) (.int k) d env m Q=W (sq m (.ref n)) fun ds=>W (ixN ds.length k) fun j=>Q (.nx env (m.set n (.lst (ds.set j d)))):=by
 unfold An0 sq
 simp only
 cases m[n]? with
 |none=>rw[Bl,Bl]
 |some o=>cases o with
  |lst ds=>simp only;rw[Ab,W_bind];congr 1;funext j;exact Ab
  |dct ds=>rw[Bl,Bl]
theorem Zc:W (Ng f fo fi env m) Q=W (f env m) fun d=>W (fo env m) fun o=>W (fi env m) fun i=>An0 o i d env m Q:=by
 unfold Ng An0
 rw[W_bind];congr 1;funext x
 rw[W_bind];congr 1;funext y
 rw[W_bind]<;>congr 1
def Ant (o:List D->List D->Option (List D)) (d:D) (g:FL) (env:Ax) (m:MH) (Q:Out->Prop):Prop:=W (match d with
 |.ref n=>(g env m).bind fun es=>(match m[n]? with
  |some (.lst ds)=>(o ds es).bind fun fs=>some (.nx env (m.set n (.lst fs)))
  |_=>none)
 |_=>none) Q
theorem Ai3:W (L7 o f g env m) Q=W (f env m) fun d=>Ant o d g env m Q:=by
 unfold L7 Ant
 rw[W_bind]<;>congr 1
theorem Ako:Ant o (.ref n) g env m Q=W (g env m) fun es=>W (sq m (.ref n)) fun ds=>W (o ds es) fun fs=>Q (.nx env (m.set n (.lst fs))):=by
 unfold Ant sq
 simp only
 rw[W_bind];congr 1;funext es
 cases m[n]? with
 |none=>rw[Bl,Bl]
 |some o=>cases o with
  |lst ds=>simp only;rw[Ab,W_bind];congr 1;funext j;exact Ab
  |dct ds=>rw[Bl,Bl]
theorem Aix {d:D}:W (Nr ds [d]) Q=(ds.length < 1000000/\Q (ds++[d])):=Il
theorem Ui {d:D}:W (Hr ds [.int i,d]) Q=((ds.length < 1000000/\0<=i/\i < 2 ^ 62)/\Q (insD ds i.toNat d)):=Il
theorem Zb {d:D}:W (Ex [d] m) Q=W (sq m d) fun ds=>Q (.tup ds):=W_bind.trans (by congr 1;funext ds;exact Ab)
theorem Ai1:W (Amx f g env m) Q=W (f env m) fun d=>W (g d env) fun e=>Q (.nx e m):=by
 unfold Amx
 rw[W_bind];congr 1;funext x
 rw[W_bind];congr 1;funext y
 exact Ab
theorem Ab4:W (Im n g (.tup ds) env) Q=(ds.length=n/\W (g ds env) Q):=by
 unfold Im
 simp only
 by_cases h:ds.length=n
 ·rw[Atq h];simp[h]
 ·rw[Atl h,Bl];simp[h]
theorem Adq {d:D}:W (B2 g h (d::ds) env) Q=W (g d env) fun e=>W (h ds e) Q:=W_bind
theorem Aie:W (Po [] env) Q=Q env:=Ab
theorem Aiy:W (Anx (.int i) m) Q=Q (.int (-i)):=Ab
theorem Aiu:W (Aag [.int i,.int j] m) Q=Q (.int (if j < i then j else i)):=Ab
theorem Ait:W (Tn [.tup ds] m) Q=W (Og ds) fun is=>is≠[]/\Q (.int (Akj is)):=by
 unfold Tn
 simp only
 rw[W_bind];congr 1;funext is
 by_cases h:is=[]
 ·rw[Atq h,Bl];simp[h]
 ·rw[Atl h,Ab];simp[h]
theorem Adx:W (Og []) Q=Q []:=Ab
theorem Adw:W (Og (.int i::ds)) Q=W (Og ds) fun is=>Q (i::is):=W_bind.trans (by congr 1;funext ds;exact Ab)
theorem Ad6:W (C8 m (.ref n)) Q=W (sq m (.ref n)) fun ds=>A7 ds=true/\Q (.lst ds):=by
 unfold C8 sq
 simp only
 cases m[n]? with
 |none=>rw[Bl,Bl]
 |some o=>cases o with
  |lst ds=>simp only;rw[Ab];exact Il
  |dct ds=>rw[Bl,Bl]
theorem Aoz:W (oLt (.str i) (.str j) m) Q=Q (.bl (decide (i.cps.toList < j.cps.toList))):=by
 rw[show oLt (.str i) (.str j) m=some (.bl (decide (i.cps.toList < j.cps.toList))) by rfl,Ab]
theorem Aov {n:Nat}{k:Int}{Q:Nat->Prop} (h0:0<=k) (h1:k < n) (q:Q k.toNat):W (ixN n k) Q:=by
 unfold ixN
 rw[Atq h0,Atq h1,Ab]
 exact q
theorem Ai8:W (sq (.lst ds::m) (.ref 0)) Q=Q ds:=Ab
theorem Are {n:Nat}{ds:List D}{m:MH}{Q:D->Prop} (h:m[n]?=some (.lst ds)):W (B0 m (.ref n)) Q=cK (Q (.lst ds)) (W (xpL m ds) fun es=>Q (.lst es)) (Au ds):=by
 rw[B0,h]
 show W (if _ then _ else _) Q=_
 rw[Gk,Ab,W_bind]
 congr 2;funext es;exact Ab
theorem Apd:W (B0 (.lst ds::m) (.ref 0)) Q=cK (Q (.lst ds)) (W (xpL (.lst ds::m) ds) fun es=>Q (.lst es)) (Au ds):=Are rfl
theorem Ajh:W (B0 (.dct ks vs::m) (.ref 0)) Q=(Au vs=true/\Q (.dic ks vs)):=by rw[B0];exact Il
theorem Ai9:W (sq (o0::.lst ds::m) (.ref 1)) Q=Q ds:=Ab
theorem Ape:W (B0 (o0::.lst ds::m) (.ref 1)) Q=cK (Q (.lst ds)) (W (xpL (o0::.lst ds::m) ds) fun es=>Q (.lst es)) (Au ds):=Are rfl
end
theorem W.eq (h:W x fun d=>d=a):W x Q=Q a:=by rw[h.out,Ab]
mutual
theorem Jy:∀ {d:D},A8 d=true->B0 m d=some d
 |.non,_=>by rw[B0]
 |.bl _,_=>by rw[B0]
 |.int _,_=>by rw[B0]
 |.str _,_=>by rw[B0]
 |.tup ds,h=>by rw[A8] at h;rw[B0,Ik h];rfl
 |.lst _,h=>by simp[A8] at h
 |.kl _,h=>by simp[A8] at h
 |.ref _,h=>by simp[A8] at h
theorem Ik:∀ {ds:List D},Au ds=true->Ij m ds=some ds
 |[],_=>by rw[Ij]
 |d::ds,h=>by
  rw[Au,At0] at h
  rw[Ij,Jy h.1,Ik h.2];rfl
end
mutual
theorem Jo:∀ {d:D},A8 d=true->B3 d=true
 |.non,_=>by simp[B3]
 |.bl _,_=>by simp[B3]
 |.int _,_=>by simp[B3]
 |.str _,_=>by simp[B3]
 |.tup ds,h=>by rw[A8] at h;rw[B3];exact B4 h
 |.lst _,h=>by simp[A8] at h
 |.kl _,h=>by simp[A8] at h
 |.ref _,h=>by simp[A8] at h
theorem B4:∀ {ds:List D},Au ds=true->A7 ds=true
 |[],_=>by rw[A7]
 |d::ds,h=>by
  rw[Au,At0] at h
  rw[A7,Jo h.1,B4 h.2];rfl
end
theorem Ig {d:D} (h:A8 d=true):C8 m d=some d:=by
 have h2:=Jo h
 cases d<;>first|(simp[A8] at h;done)|(unfold C8;simp only;rw[Atq h2])
theorem Rx {d:D} (h:A8 d=true):W (B0 m d) Q=Q d:=by rw[Jy h,Ab]
theorem Df {d:D} (h:A8 d=true):W (C8 m d) Q=Q d:=by rw[Ig h,Ab]
theorem M3:A8 .non=true:=by simp[A8]
theorem Aae:A8 (.bl b)=true:=by simp[A8]
theorem Cb:A8 (.int b)=true:=by simp[A8]
theorem V5:A8 (.str b)=true:=by simp[A8]
theorem Bb:A8 (.tup ds)=Au ds:=by rw[A8]
theorem D3:Au []=true:=by rw[Au]
theorem A1 {d:D}:Au (d::ds)=(A8 d&&Au ds):=by rw[Au]
theorem Cg:∀ {ds:List D},Au ds=true ↔ ∀ d∈ds,A8 d=true
 |[]=>by simp[Au]
 |d::ds=>by rw[Au,At0,Cg];simp
theorem Lm:Au (ds++es)=(Au ds&&Au es):=by
 rw[Bool.eq_iff_iff,At0,Cg,Cg,Cg]
 constructor
 ·exact fun h=>⟨fun d hd=>h d (Aue _ hd),fun d hd=>h d (Atm _ hd)⟩
 ·rintro ⟨h1,h2⟩ d hd
  rcases List.mem_append.mp hd with hd|hd
  ·exact h1 d hd
  ·exact h2 d hd
theorem Bp {α:Type}{f:α->D}{xs:List α} (h:∀ x,A8 (f x)=true):Au (xs.map f)=true:=by
 rw[Cg];intro d hd;obtain⟨x,_,rfl⟩:=List.mem_map.mp hd;exact h x
theorem Ga:deq (.tup []) (.tup [])=true:=by simp[deq,pyD,Bu,PyData.eqv,PyData.eqvAll]
theorem Cr:deq (.tup (x::xs)) (.tup (y::ys))=(deq x y&&deq (.tup xs) (.tup ys)):=by
 simp[deq,pyD,Bu,PyData.eqv,PyData.eqvAll]
theorem Ajs:deq (.tup []) (.tup (x::xs))=false:=by simp[deq,pyD,Bu,PyData.eqv,PyData.eqvAll]
theorem Ab8:deq (.tup (x::xs)) (.tup [])=false:=by simp[deq,pyD,Bu,PyData.eqv,PyData.eqvAll]
theorem Aju:deq .non .non=true:=by simp[deq,pyD,PyData.eqv]
theorem Ajq {t:Str}:deq (.int i) (.str t)=false:=by simp[deq,pyD,PyData.eqv]
theorem Ajw {t:Str}:deq (.str t) (.int i)=false:=by simp[deq,pyD,PyData.eqv]
theorem Ajv:deq .non (.tup ds)=false:=by simp[deq,pyD,PyData.eqv]
theorem Ajx:deq (.tup ds) .non=false:=by simp[deq,pyD,PyData.eqv]
theorem Lb [DecidableEq α] (h:∀ x y,deq (f x) (f y)=decide (x=y)):∀ xs ys:List α,deq (.tup (xs.map f)) (.tup (ys.map f))=decide (xs=ys)
 |[],[]=>by simp[Ga]
 |[],y::ys=>by simp[Ajs]
 |x::xs,[]=>by simp[Ab8]
 |x::xs,y::ys=>by
  rw[Atz,Atz,Cr,h,Lb h xs ys]
  by_cases e1:x=y<;>by_cases e2:xs=ys<;>simp[e1,e2]
theorem Dp:dep (.tup ds)=D8 ds+1:=by rw[dep]
theorem Dg {n:Nat}:∀ {ds:List D},(∀ d∈ds,dep d<=n)->D8 ds<=n
 |[],_=>by rw[D8];exact Aup _
 |d::ds,h=>by
  rw[D8]
  have h1:=h d (Atk ..)
  have h2:=Dg (n:=n) (ds:=ds) fun e he=>h e (Atn _ he)
  lia
noncomputable def Vp {α:Type} (I:List α->Ax->MH->Prop) (xs:List α) (Q:Out->Prop):Out->Prop
 |.nx e m=>I xs e m
 |.ct e m=>I xs e m
 |.bk e m=>Q (.nx e m)
 |.rt d m=>Q (.rt d m)
theorem Z4:Vp I xs Q (.nx e m)=I xs e m:=rfl
theorem Z3:Vp I xs Q (.ct e m)=I xs e m:=rfl
theorem Z2:Vp I xs Q (.bk e m)=Q (.nx e m):=rfl
theorem Z5 {d:D}:Vp I xs Q (.rt d m)=Q (.rt d m):=rfl
theorem C9 {α:Type}{h:α->D}{chk:MH->Prop}{g:FG}{b:FS}{Q:Out->Prop} (I:List α->Ax->MH->Prop) (hs:∀ x xs e m,I (x::xs) e m->chk m/\W (g (h x) e) fun e1=>W (b e1 m) (Vp I xs Q)) (he:∀ e m,I [] e m->chk m/\Q (.nx e m)) :
  ∀ {xs:List α}{e:Ax}{m:MH},I xs e m->W (Io chk g b (xs.map h) e m) Q
 |[],e,m,hi=>by
  rw[Awb,Ph];exact he e m hi
 |x::xs,e,m,hi=>by
  rw[Atz,Mb]
  obtain⟨h1,h2⟩:=hs x xs e m hi
  refine⟨h1,h2.imp fun e1 h3=>h3.imp fun o ho=>?_⟩
  cases o with
  |nx e m=>exact C9 I hs he ho
  |ct e m=>exact C9 I hs he ho
  |bk e m=>exact ho
  |rt d m=>exact ho
noncomputable def Th (I:Nat->Ax->MH->Prop) (k:Nat) (Q:Out->Prop):Out->Prop
 |.nx e m=>I k e m
 |.ct e m=>I k e m
 |.bk e m=>Q (.nx e m)
 |.rt d m=>Q (.rt d m)
theorem Z0:Th I k Q (.nx e m)=I k e m:=rfl
theorem Zz:Th I k Q (.ct e m)=I k e m:=rfl
theorem Zy:Th I k Q (.bk e m)=Q (.nx e m):=rfl
theorem Z1 {d:D}:Th I k Q (.rt d m)=Q (.rt d m):=rfl
theorem Ab7 (I:Nat->Ax->MH->Prop) (hs:∀ (k:Nat) e m,k < n->I k e m->chk m/\W (g (h k) e) fun e1=>W (b e1 m) (Th I (k+1) Q)) (he:∀ e m,I n e m->chk m/\Q (.nx e m)) (h0:I 0 e m):W (Io chk g b ((List.range n).map h) e m) Q:=by
 refine C9 (h:=h) (fun xs e m=>∃ k,k<=n/\xs=(List.range n).drop k/\I k e m) ?_ ?_ ⟨0,Aup _,rfl,h0⟩
 ·rintro x xs e m ⟨k,hk,hx,hi⟩
  have hk2:k < n:=by
   rcases Nat.lt_or_ge k n with h|h
   ·exact h
   ·rw[Auv (by simpa using h)] at hx;cases hx
  rw[At9 (by simpa using hk2),List.getElem_range] at hx
  obtain⟨e1,e2⟩:=List.cons.inj hx
  rw[e1,e2]
  obtain⟨h1,h2⟩:=hs k e m hk2 hi
  refine⟨h1,h2.imp fun e1 h3=>h3.imp fun o ho=>?_⟩
  cases o with
  |nx e m=>exact⟨k+1,hk2,rfl,ho⟩
  |ct e m=>exact⟨k+1,hk2,rfl,ho⟩
  |bk e m=>exact ho
  |rt d m=>exact ho
 ·rintro e m ⟨k,hk,hx,hi⟩
  have:k=n:=by
   have:=Au5 List.length hx
   simp at this;lia
  subst this
  exact he e m hi
theorem Ab6 {lo:Int}{n:Nat}{chk:MH->Prop}{g:FG}{b:FS}{Q:Out->Prop}{e:Ax}{m:MH} (I:Nat->Ax->MH->Prop) (hs:∀ (k:Nat) e m,k < n->I k e m->chk m/\W (g (.int (lo+k)) e) fun e1=>W (b e1 m) (Th I (k+1) Q)) (he:∀ e m,I n e m->chk m/\Q (.nx e m)) (h0:I 0 e m):W (Io chk g b (B1 lo n) e m) Q:=Ab7 I hs he h0
theorem Ag0:B1 0 3=[.int 0,.int 1,.int 2]:=rfl
theorem Aod {l:List α}:W (atI (x::l) 0) Q=Q x:=by
 rw[show atI (x::l) 0=some x by unfold atI ixN;rw[Atq (by decide),Atq (by simp<;>lia)];rfl,Ab]
theorem Aoe {l:List α}:W (atI (x::y::l) 1) Q=Q y:=by
 rw[show atI (x::y::l) 1=some y by unfold atI ixN;rw[Atq (by decide),Atq (by simp<;>lia)];rfl,Ab]
theorem Aof {l:List α}:W (atI (x::y::z::l) 2) Q=Q z:=by
 rw[show atI (x::y::z::l) 2=some z by unfold atI ixN;rw[Atq (by decide),Atq (by simp<;>lia)];rfl,Ab]
theorem Aog {l:List α}:W (atI (x::y::z::w::l) 3) Q=Q w:=by
 rw[show atI (x::y::z::w::l) 3=some w by unfold atI ixN;rw[Atq (by decide),Atq (by simp<;>lia)];rfl,Ab]
theorem J2 {α β:Type}{f:α->β}{xs:List α}{k:Nat} (h:k < xs.length) {Q:β->Prop}:W (atI (xs.map f) (k:Int)) Q=Q (f xs[k]):=by
 rw[show atI (xs.map f) (k:Int)=some (f xs[k]) by unfold atI ixN;rw[Atq (by lia),Atq (by simp;lia)];simp[h],Ab]
theorem Abi {n d:Nat}:HT.sIx n d none=d:=rfl
theorem Ag5 {n d:Nat}:HT.sIx n d (some (-1))=n - 1:=by
 unfold HT.sIx
 simp only
 rw[Atq (by decide)];lia
theorem Zj:Zi xs none (some (-1))=xs.dropLast:=by
 unfold Zi
 rw[Abi,Ag5,List.drop_zero,Nat.sub_zero,Av6]
theorem Zv:insD (xs.map f) i (f y)=(insD xs i y).map f:=by
 unfold insD;simp
theorem Zu:(insD xs i y).length=xs.length+1:=by
 unfold insD;simp;lia
theorem Zw (h:x∈insD xs i y):x=y\/x∈xs:=by
 unfold insD at h
 rcases List.mem_append.mp h with h|h
 ·exact .inr (Au8 h)
 ·rcases List.mem_cons.mp h with h|h
  ·exact .inl h
  ·exact .inr (List.mem_of_mem_drop h)
theorem Asz:Zi [x,y,z,w] none (some 3)=[x,y,z]:=rfl
theorem Apf:(Int.natAbs 10 < 18446744073709551616)=True:=by simp
inductive Mark where
 |n (i:Int)
 |s (t:Str)
 deriving DecidableEq
structure Mk where
 a:Int
 b:Int
 c:Int
 ms:List Mark
 deriving DecidableEq
noncomputable def Mark.d:Mark->D
 |.n i=>.int i
 |.s t=>.str t
def Mk.d (x:Mk):D:=.tup [.int x.a,.int x.b,.int x.c,.tup (x.ms.map Mark.d)]
noncomputable def Mark.lt:Mark->Mark->Bool
 |.n i,.n j=>decide (i < j)
 |.n _,.s _=>true
 |.s _,.n _=>false
 |.s t,.s u=>decide (t.cps.toList < u.cps.toList)
def mlt:List Mark->List Mark->Bool
 |[],[]=>false
 |[],_::_=>true
 |_::_,[]=>false
 |x::xs,y::ys=>if x=y then mlt xs ys else x.lt y
def Mk.older (x y:Mk):Bool :=
 if x.a≠y.a then decide (x.a < y.a) else if x.b≠y.b then decide (x.b < y.b) else if x.c≠y.c then decide (x.c < y.c) else
 if x.ms=[]\/y.ms=[] then decide (x.ms≠[]/\y.ms=[]) else mlt x.ms y.ms
theorem Mark.deq (x y:Mark):deq x.d y.d=decide (x=y):=by
 cases x<;>cases y<;>simp[Mark.d,Bv,Lc,Ajq,Ajw]
theorem Mk.deq (x y:Mk):L2.ML.deq x.d y.d=decide (x=y):=by
 unfold Mk.d
 rw[Cr,Cr,Cr,Cr,Ga,Bv,Bv,Bv,Lb Mark.deq]
 obtain⟨a,b,c,ms⟩:=x
 obtain⟨a',b',c',ms'⟩:=y
 by_cases h1:a=a'<;>by_cases h2:b=b'<;>by_cases h3:c=c'<;>by_cases h4:ms=ms'<;>simp[h1,h2,h3,h4]
theorem Mark.pure (x:Mark):A8 x.d=true:=by cases x<;>simp[Mark.d,A8]
theorem Mk.pure (x:Mk):A8 x.d=true:=by
 unfold Mk.d
 rw[Bb,A1,A1,A1,A1,Cb,Cb,Cb,Bb,Bp Mark.pure,D3];rfl
theorem Mark.dep (x:Mark):dep x.d=0:=by cases x<;>simp[Mark.d,Cz,Oa]
theorem Mk.dep (x:Mk):L2.ML.dep x.d<=2:=by
 unfold Mk.d
 rw[Dp]
 have h:D8 (x.ms.map Mark.d)<=0:=Dg fun d hd=>by
  obtain⟨m,_,rfl⟩:=List.mem_map.mp hd
  rw[Mark.dep];exact Atp _
 have:D8 [D.int x.a,D.int x.b,D.int x.c,D.tup (x.ms.map Mark.d)]<=1:=Dg fun d hd=>by
  simp only[Aug,Auc,or_false] at hd
  rcases hd with rfl|rfl|rfl|rfl
  ·rw[Cz];lia
  ·rw[Cz];lia
  ·rw[Cz];lia
  ·rw[Dp];lia
 lia
theorem Oo (xs:List Mark):Au (xs.map Mark.d)=true:=Bp Mark.pure
theorem Cn (xs:List Mk):Au (xs.map Mk.d)=true:=Bp Mk.pure
theorem Vv (l:List Mark):(L2.ML.dep (.tup (l.map Mark.d))<=60)=True:=by
 have h:D8 (l.map Mark.d)<=0:=Dg fun d hd=>by
  obtain⟨m,_,rfl⟩:=List.mem_map.mp hd
  rw[Mark.dep];exact Atp _
 rw[Dp];simp;lia
theorem Aab (x:Mark):(L2.ML.dep x.d<=60)=True:=by rw[Mark.dep];simp
theorem Akl (x:Mk):(L2.ML.dep x.d<=60)=True:=by have:=Mk.dep x;simp;lia
theorem Aec (l:List Mark):L2.ML.deq (.tup (l.map Mark.d)) (.tup [])=decide (l=[]):=by cases l<;>simp[Ga,Ab8]
theorem Akm {x:Mk}{m:MH}{Q:D->Prop}:W (Acn x.d m) Q=Q (.bl false):=Ab
theorem Afb {x:Mk}{m:MH}{Q:D->Prop}:W (Iz x.d m) Q=Q (.bl true):=Ab
theorem Ajk:N2 []=some []:=rfl
noncomputable def Mark.rk:Mark->D
 |.n i=>.tup [.int 0,.int i,.str (Str.ofString "")]
 |.s t=>.tup [.int 1,.int 0,.str t]
def Mk.rk (x:Mk):D:=.tup [.int x.a,.int x.b,.int x.c,.int (if x.ms=[] then 1 else 0),.tup (x.ms.map Mark.rk)]
theorem Mark.rk_deq (x y:Mark):L2.ML.deq x.rk y.rk=decide (x=y):=by
 cases x<;>cases y<;>simp[Mark.rk,Cr,Ga,Bv,Lc,Awf]
theorem Ho:ltD (.int i) (.int j)=some (decide (i < j)):=by rw[ltD]
theorem Vs:ltD (.tup xs) (.tup ys)=Gc xs ys:=by rw[ltD]
theorem Mark.rk_lt (x y:Mark) (h:x≠y):ltD x.rk y.rk=some (x.lt y):=by
 cases x with
 |n i=>cases y with
  |n j =>
   have hij:i≠j:=fun e=>h (by rw[e])
   simp[Mark.rk,Mark.lt,ltD,Gc,Bv,hij]
  |s t=>simp[Mark.rk,Mark.lt,ltD,Gc,Bv]
 |s t=>cases y with
  |n j=>simp[Mark.rk,Mark.lt,ltD,Gc,Bv]
  |s u =>
   have hij:t≠u:=fun e=>h (by rw[e])
   simp[Mark.rk,Mark.lt,ltD,Gc,Bv,Lc,hij]
theorem Ac7:∀ xs ys:List Mark,Gc (xs.map Mark.rk) (ys.map Mark.rk)=some (mlt xs ys)
 |[],[]=>by simp[Gc,mlt]
 |[],y::ys=>by simp[Gc,mlt]
 |x::xs,[]=>by simp[Gc,mlt]
 |x::xs,y::ys=>by
  rw[Atz,Atz,Gc,Mark.rk_deq,mlt]
  by_cases e:x=y
  ·rw[Atq (by simpa using e),Atq e];exact Ac7 xs ys
  ·rw[Atl (by simpa using e),Atl e];exact Mark.rk_lt x y e
theorem Ll:∀ xs:List Mark,mlt xs xs=false
 |[]=>rfl
 |x::xs=>by rw[mlt,Atq rfl];exact Ll xs
theorem Mk.rk_lt (x y:Mk):ltD x.rk y.rk=some (x.older y):=by
 obtain⟨a,b,c,ms⟩:=x
 obtain⟨a',b',c',ms'⟩:=y
 unfold Mk.rk Mk.older
 simp only
 rw[Vs,Gc,Bv]
 by_cases h1:a=a'
 ·subst h1
  rw[Atq (by simp),Gc,Bv,Atl (show ¬ (a≠a) by simp)]
  by_cases h2:b=b'
  ·subst h2
   rw[Atq (by simp),Gc,Bv,Atl (show ¬ (b≠b) by simp)]
   by_cases h3:c=c'
   ·subst h3
    rw[Atq (by simp),Gc,Bv,Atl (show ¬ (c≠c) by simp)]
    by_cases h4:ms=[]
    ·subst h4
     by_cases h5:ms'=[]
     ·subst h5
      simp[Gc,Ga]
     ·simp[h5,Ho]
    ·by_cases h5:ms'=[]
     ·subst h5
      simp[h4,Ho]
     ·rw[Atl (show ¬ (ms=[]\/ms'=[]) by rw[not_or];exact⟨h4,h5⟩),Atq (by simp[h4,h5]),Gc,Lb Mark.rk_deq]
      by_cases h6:ms=ms'
      ·subst h6;rw[Atq (by simp),Gc,Ll]
      ·rw[Atl (by simpa using h6),Vs];exact Ac7 _ _
   ·rw[Atl (by simpa using h3),Atq (show c≠c' from h3),Ho]
  ·rw[Atl (by simpa using h2),Atq (show b≠b' from h2),Ho]
 ·rw[Atl (by simpa using h1),Atq (show a≠a' from h1),Ho]
theorem Mark.rk_pure (x:Mark):A8 x.rk=true:=by cases x<;>simp[Mark.rk,A8,Au]
theorem Mk.rk_pure (x:Mk):A8 x.rk=true:=by
 unfold Mk.rk
 rw[Bb,A1,A1,A1,A1,A1,Cb,Cb,Cb,Cb,Bb,Bp Mark.rk_pure,D3];rfl
theorem Mark.rk_dep (x:Mark):L2.ML.dep x.rk<=1:=by
 cases x<;>(unfold Mark.rk;rw[Dp];simp[D8,Cz,Oa])
theorem Mk.rk_dep (x:Mk):L2.ML.dep x.rk<=3:=by
 unfold Mk.rk
 rw[Dp]
 have h:D8 (x.ms.map Mark.rk)<=1:=Dg fun d hd=>by
  obtain⟨m,_,rfl⟩:=List.mem_map.mp hd
  exact Mark.rk_dep m
 have:D8 [D.int x.a,D.int x.b,D.int x.c,D.int (if x.ms=[] then 1 else 0),D.tup (x.ms.map Mark.rk)]<=2:=Dg fun d hd=>by
  simp only[Aug,Auc,or_false] at hd
  rcases hd with rfl|rfl|rfl|rfl|rfl
  ·rw[Cz];lia
  ·rw[Cz];lia
  ·rw[Cz];lia
  ·rw[Cz];lia
  ·rw[Dp];lia
 lia
theorem Tg (l r:List Nat) (h:l≠r):decide (l < r)=!decide (r < l):=by
 by_cases h1:l < r
 ·have h2:¬ r < l:=List.lt_asymm h1
  simp[h1,h2]
 ·have h2:r < l:=by
   rcases Classical.em (r < l) with h3|h3
   ·exact h3
   ·exact absurd (List.le_antisymm (List.not_lt.mp h3) (List.not_lt.mp h1)) h
  simp[h1,h2]
theorem Ahl {t u:Str} (h:t.cps.toList=u.cps.toList):t=u:=by
 obtain⟨⟨a⟩⟩:=t
 obtain⟨⟨b⟩⟩:=u
 simp at h
 rw[h]
theorem Mark.self (x:Mark):x.lt x=false:=by
 cases x with
 |n i=>simp[Mark.lt]
 |s t=>simp[Mark.lt,List.lt_irrefl]
theorem Mark.tri {x y:Mark} (h:x≠y):x.lt y=!y.lt x:=by
 cases x with
 |n i=>cases y with
  |n j =>
   have:i≠j:=fun e=>h (by rw[e])
   simp only[Mark.lt]
   by_cases h1:i < j
   ·simp[h1,show ¬ j < i by lia]
   ·simp[h1,show j < i by lia]
  |s t=>rfl
 |s t=>cases y with
  |n j=>rfl
  |s u=>exact Tg _ _ fun e=>h (by rw[Ahl e])
theorem Mark.trans {x y z:Mark} (h1:x.lt y=true) (h2:y.lt z=true):x.lt z=true:=by
 cases x with
 |n i=>cases y with
  |n j=>cases z with
   |n k=>simp[Mark.lt] at *;lia
   |s t=>rfl
  |s t=>cases z with
   |n k=>exact C4 h2
   |s u=>rfl
 |s t=>cases y with
  |n j=>exact C4 h1
  |s u=>cases z with
   |n k=>exact C4 h2
   |s v=>simp[Mark.lt] at *;exact List.lt_trans h1 h2
theorem Vz:∀ {xs ys:List Mark},xs≠ys->mlt xs ys=!mlt ys xs
 |[],[],h=>absurd rfl h
 |[],_::_,_=>rfl
 |_::_,[],_=>rfl
 |x::xs,y::ys,h=>by
  rw[mlt,mlt]
  by_cases e:x=y
  ·subst e
   rw[Atq rfl,Atq rfl]
   exact Vz fun z=>h (by rw[z])
  ·rw[Atl e,Atl fun z=>e z.symm]
   exact Mark.tri e
theorem M1:∀ {xs ys zs:List Mark},mlt xs ys=true->mlt ys zs=true->mlt xs zs=true
 |[],[],_,h,_=>by exact C4 h
 |[],_::_,[],_,h=>by exact C4 h
 |[],_::_,_::_,_,_=>rfl
 |_::_,[],_,h,_=>by exact C4 h
 |_::_,_::_,[],_,h=>by exact C4 h
 |x::xs,y::ys,z::zs,h1,h2=>by
  rw[mlt] at h1 h2 ⊢
  by_cases e1:x=y
  ·subst e1
   rw[Atq rfl] at h1
   by_cases e2:x=z
   ·rw[Atq e2] at h2 ⊢
    exact M1 h1 h2
   ·rw[Atl e2] at h2 ⊢
    exact h2
  ·rw[Atl e1] at h1
   by_cases e2:y=z
   ·subst e2
    rw[Atl e1]
    exact h1
   ·rw[Atl e2] at h2
    have h3:=Mark.trans h1 h2
    by_cases e3:x=z
    ·subst e3
     rw[Mark.self] at h3
     exact C4 h3
    ·rw[Atl e3];exact h3
theorem D4 (x:Mk):x.older x=false:=by
 unfold Mk.older
 rw[Atl (by simp),Atl (by simp),Atl (by simp)]
 split
 ·simp
 ·exact Ll _
theorem M5 {x y:Mk}:x.older y=true ↔ x.a < y.a\/x.a=y.a/\(x.b < y.b\/x.b=y.b/\(x.c < y.c\/x.c=y.c/\(x.ms≠[]/\(y.ms=[]\/mlt x.ms y.ms=true)))):=by
 obtain⟨a,b,c,ms⟩:=x
 obtain⟨a',b',c',ms'⟩:=y
 unfold Mk.older
 simp only
 by_cases h1:a=a'
 ·subst h1
  rw[Atl (by simp)]
  by_cases h2:b=b'
  ·subst h2
   rw[Atl (by simp)]
   by_cases h3:c=c'
   ·subst h3
    rw[Atl (by simp)]
    simp only[Int.lt_irrefl,false_or,true_and]
    by_cases h4:ms=[]\/ms'=[]
    ·rw[Atq h4,Aux]
     constructor
     ·exact fun h=>⟨h.1,.inl h.2⟩
     ·rintro ⟨h5,h6⟩
      exact⟨h5,h4.resolve_left h5⟩
    ·rw[Atl h4]
     rw[not_or] at h4
     exact⟨fun h=>⟨h4.1,.inr h⟩,fun h=>h.2.resolve_left h4.2⟩
   ·rw[Atq (by simpa using h3)]
    simp[h3]
  ·rw[Atq (by simpa using h2)]
   simp[h2]
 ·rw[Atq (by simpa using h1)]
  simp[h1]
theorem A2 {x y z:Mk} (h1:x.older y=true) (h2:y.older z=true):x.older z=true:=by
 rw[M5] at *
 rcases h1 with h1|⟨ha,h1|⟨hb,h1|⟨hc,hm,h1⟩⟩⟩
 ·rcases h2 with h2|⟨ha',_⟩
  ·exact .inl (by lia)
  ·exact .inl (by lia)
 ·rcases h2 with h2|⟨ha',h2|⟨hb',_⟩⟩
  ·exact .inl (by lia)
  ·exact .inr ⟨by lia,.inl (by lia)⟩
  ·exact .inr ⟨by lia,.inl (by lia)⟩
 ·rcases h2 with h2|⟨ha',h2|⟨hb',h2|⟨hc',_⟩⟩⟩
  ·exact .inl (by lia)
  ·exact .inr ⟨by lia,.inl (by lia)⟩
  ·exact .inr ⟨by lia,.inr ⟨by lia,.inl (by lia)⟩⟩
  ·exact .inr ⟨by lia,.inr ⟨by lia,.inl (by lia)⟩⟩
 ·rcases h2 with h2|⟨ha',h2|⟨hb',h2|⟨hc',hm',h2⟩⟩⟩
  ·exact .inl (by lia)
  ·exact .inr ⟨by lia,.inl (by lia)⟩
  ·exact .inr ⟨by lia,.inr ⟨by lia,.inl (by lia)⟩⟩
  ·refine .inr ⟨by lia,.inr ⟨by lia,.inr ⟨by lia,hm,?_⟩⟩⟩
   rcases h1 with h1|h1
   ·exact absurd h1 hm'
   ·rcases h2 with h2|h2
    ·exact .inl h2
    ·exact .inr (M1 h1 h2)
theorem Di {x y:Mk} (h:x.older y=true):y.older x=false:=by
 cases e:y.older x with
 |false=>rfl
 |true =>
  have h2:=A2 h e
  rw[D4] at h2
  exact C4 h2
theorem Dv {x y:Mk} (h:x≠y):x.older y=!y.older x:=by
 cases e:y.older x with
 |true=>exact Di e
 |false =>
  show x.older y=true
  have e':¬ y.older x=true:=by rw[e];decide
  rw[M5] at e' ⊢
  by_cases ha:x.a=y.a
  ·by_cases hb:x.b=y.b
   ·by_cases hc:x.c=y.c
    ·have hm:x.ms≠y.ms:=fun z=>h (by cases x;cases y;simp at *;exact⟨ha,hb,hc,z⟩)
     refine .inr ⟨ha,.inr ⟨hb,.inr ⟨hc,?_⟩⟩⟩
     have e2:¬ (y.ms≠[]/\(x.ms=[]\/mlt y.ms x.ms=true)):=fun z=>e' (.inr ⟨ha.symm,.inr ⟨hb.symm,.inr ⟨hc.symm,z⟩⟩⟩)
     by_cases h4:y.ms=[]
     ·exact⟨fun z=>hm (by rw[z,h4]),.inl h4⟩
     ·have e3:¬ (x.ms=[]\/mlt y.ms x.ms=true):=fun z=>e2 ⟨h4,z⟩
      rw[not_or] at e3
      refine⟨e3.1,.inr ?_⟩
      rw[Vz hm]
      cases q:mlt y.ms x.ms with
      |true=>exact absurd q e3.2
      |false=>rfl
    ·rcases Int.lt_or_gt_of_ne hc with h5|h5
     ·exact .inr ⟨ha,.inr ⟨hb,.inl h5⟩⟩
     ·exact absurd (.inr ⟨ha.symm,.inr ⟨hb.symm,.inl h5⟩⟩) e'
   ·rcases Int.lt_or_gt_of_ne hb with h5|h5
    ·exact .inr ⟨ha,.inl h5⟩
    ·exact absurd (.inr ⟨ha.symm,.inl h5⟩) e'
  ·rcases Int.lt_or_gt_of_ne ha with h5|h5
   ·exact .inl h5
   ·exact absurd (.inl h5) e'
theorem Ack:∀ {xs ys:List Mark}{k:Nat},xs.take k=ys.take k->xs[k]?=some x->ys[k]?=some y->x≠y->mlt xs ys=x.lt y
 |x'::xs,y'::ys,0,_,h1,h2,h=>by
  simp at h1 h2
  subst h1 h2
  rw[mlt,Atl h]
 |x'::xs,y'::ys,k+1,ht,h1,h2,h=>by
  simp at ht h1 h2
  rw[mlt,Atq ht.1]
  exact Ack ht.2 h1 h2 h
 |[],_,_,_,h1,_,_=>by simp at h1
 |_::_,[],_,_,_,h2,_=>by simp at h2
theorem Vy:∀ {xs ys:List Mark}{k:Nat},xs.take k=ys.take k->k=min xs.length ys.length->mlt xs ys=decide (xs.length < ys.length)
 |[],[],_,_,_=>rfl
 |[],y::ys,_,_,_=>by simp[mlt]
 |x::xs,[],_,_,_=>by simp[mlt]
 |x::xs,y::ys,0,_,h=>by simp at h<;>lia
 |x::xs,y::ys,k+1,ht,h=>by
  simp at ht
  rw[mlt,Atq ht.1,Vy (k:=k) ht.2 (by simp at h;lia)]
  simp
def Anr (Q:List D->Prop) (d:D):Prop:=∃ es,d=.lst es/\Au es=true/\Q es
theorem P7 (h:Au es=true):Anr Q (.lst es)=Q es:=by
 apply propext
 constructor
 ·rintro ⟨fs,e,_,q⟩;cases e;exact q
 ·exact fun q=>⟨es,rfl,h,q⟩
theorem Nx:W (N3 n fn ds m) Q=W (B6 m ds) fun ds'=>ds'.length=n/\W (fn ds') (Anr Q):=by
 unfold N3
 rw[W_bind,G9]
 congr 1;funext ds'
 apply propext
 refine⟨fun⟨h1,h2⟩=>⟨h1,h2.imp fun d h=>?_⟩,fun⟨h1,h2⟩=>⟨h1,h2.imp fun d h=>?_⟩⟩
 ·cases d with
  |lst es =>
   simp only at h
   rw[Il] at h
   exact⟨es,rfl,h.1,h.2⟩
  |_=>rw[Bl] at h;exact h.elim
 ·obtain⟨es,rfl,h1,h2⟩:=h
  simp only
  rw[Il]
  exact⟨h1,h2⟩
def Vq (I:Nat->Ax->MH->Prop) (k:Nat) (Q:Out->Prop):Out->Prop
 |.nx e m=>∃ j,j < k/\I j e m
 |.ct e m=>∃ j,j < k/\I j e m
 |.bk e m=>Q (.nx e m)
 |.rt d m=>Q (.rt d m)
theorem Z8:Vq I k Q (.nx e m)=∃ j,j < k/\I j e m:=rfl
theorem Z7:Vq I k Q (.ct e m)=∃ j,j < k/\I j e m:=rfl
theorem Z6:Vq I k Q (.bk e m)=Q (.nx e m):=rfl
theorem Z9 {d:D}:Vq I k Q (.rt d m)=Q (.rt d m):=rfl
theorem Nz (I:Nat->Ax->MH->Prop) (hs:∀ k e m,I k e m->W (c e m) (cK (W (b e m) (Vq I k Q)) (Q (.nx e m)))):∀ {n k:Nat}{e:Ax}{m:MH},k < n->I k e m->W (Eh c b n e m) Q
 |0,_,_,_,h,_=>absurd h (Awi _)
 |n+1,k,e,m,h,hi=>by
  rw[Eh,W_bind]
  refine (hs k e m hi).imp fun t ht=>?_
  cases t with
  |false=>rw[Ajl] at ht;rw[Atl (by decide),Ab];exact ht
  |true =>
   rw[Ad9] at ht
   rw[Atq rfl,W_bind]
   refine ht.imp fun o ho=>?_
   cases o with
   |nx e m=>obtain⟨j,hj,hi⟩:=ho;exact Nz I hs (by lia) hi
   |ct e m=>obtain⟨j,hj,hi⟩:=ho;exact Nz I hs (by lia) hi
   |bk e m=>simp only;rw[Ab];exact ho
   |rt d m=>simp only;rw[Ab];exact ho
def Amv (ds:List D) (Q:Wk->Prop):Prop:=W (match ds with
 |[.int i,.int j,.int k]=>if 0<=i/\i < 1000000000/\0<=j/\j < 1000000000/\0 < k/\k < 1000000 then some ⟨(List.range (Tq i j k)).map fun (q:Nat)=>.int (i+q * k),Az⟩ else none
 |_=>none) Q
theorem Ad8:W (Yy g env m) Q=W (g env m) fun ds=>Amv ds Q:=W_bind
theorem Amw:Amv [.int i,.int j,.int k] Q=((0<=i/\i < 1000000000/\0<=j/\j < 1000000000/\0 < k/\k < 1000000)/\Q ⟨(List.range (Tq i j k)).map fun (q:Nat)=>.int (i+q * k),Az⟩):=Il
abbrev Cp (ys:List Mk):Prop:=ys.Pairwise fun x y=>x.older y=true
theorem Td (h:Cp ys) (hk:k<=ys.length) (h1:∀ (i:Nat) y,i < k->ys[i]?=some y->y.older x=true) (h2:∀ y,ys[k]?=some y->x.older y=true):Cp (insD ys k x):=by
 unfold insD
 have hd:∀ y∈ys.drop k,x.older y=true:=fun y hy=>by
  obtain⟨i,hi⟩:=Avj hy
  rw[List.getElem?_drop] at hi
  cases i with
  |zero=>exact h2 y (by simpa using hi)
  |succ i =>
   have hlt:k < ys.length:=by
    have:=(List.getElem?_eq_some_iff.mp hi).1;lia
   have h3:=h2 ys[k] (Atv hlt)
   have hj:=(List.getElem?_eq_some_iff.mp hi).1
   have h4:=List.pairwise_iff_getElem.mp h k (k+(i+1)) hlt hj (by lia)
   rw[(List.getElem?_eq_some_iff.mp hi).2] at h4
   exact A2 h3 h4
 have ht:∀ y∈ys.take k,y.older x=true:=fun y hy=>by
  obtain⟨i,hi⟩:=Avj hy
  have hlt:=(List.getElem?_eq_some_iff.mp hi).1
  rw[Au4] at hlt
  rw[List.getElem?_take_of_lt (by lia)] at hi
  exact h1 i y (by lia) hi
 have hs:Cp (ys.take k++ys.drop k):=by rw[Aua];exact h
 obtain⟨p1,p2,p3⟩:=List.pairwise_append.mp hs
 refine List.pairwise_append.mpr ⟨p1,List.pairwise_cons.mpr ⟨hd,p2⟩,fun a ha b hb=>?_⟩
 rcases List.mem_cons.mp hb with rfl|hb
 ·exact ht a ha
 ·exact p3 a ha b hb
theorem Aac:y∈insD xs k x ↔ y=x\/y∈xs:=by
 unfold insD
 constructor
 ·exact Zw
 ·rintro (rfl|h)
  ·exact Atm _ (Atk ..)
  ·rw[<- Aua k xs] at h
   rcases List.mem_append.mp h with h|h
   ·exact Aue _ h
   ·exact Atm _ (Atn _ h)
theorem Du (xs:List Mk):A7 (xs.map Mk.d)=true:=B4 (Cn xs)
def oD:Option Mk->D
 |none=>.non
 |some h=>h.d
abbrev Pc:=Mk×Option Mk
def pD (p:Pc):D:=.tup [p.1.d,oD p.2]
theorem V7 (o:Option Mk):A8 (oD o)=true:=by
 cases o with
 |none=>exact M3
 |some x=>exact x.pure
theorem Xh (p:Pc):A8 (pD p)=true:=by unfold pD;rw[Bb,A1,A1,D3,p.1.pure,V7];rfl
theorem Cv (ps:List Pc):Au (ps.map pD)=true:=Bp Xh
theorem Akt (o:Option Mk):dep (oD o)<=2:=by
 cases o with
 |none=>show dep .non<=2;rw[Uv];lia
 |some x=>exact x.dep
theorem Ali (p:Pc):dep (pD p)<=3:=by
 unfold pD
 rw[Dp]
 have:D8 [p.1.d,oD p.2]<=2:=Dg fun d hd=>by
  simp only[Aug,Auc,or_false] at hd
  rcases hd with rfl|rfl
  ·exact p.1.dep
  ·exact Akt p.2
 lia
theorem Afv (ps:List Pc):dep (.tup (ps.map pD))<=4:=by
 rw[Dp]
 have:D8 (ps.map pD)<=3:=Dg fun d hd=>by
  obtain⟨p,_,rfl⟩:=List.mem_map.mp hd
  exact Ali p
 lia
theorem Re (ps:List Pc):(dep (.tup (ps.map pD))<=60)=True:=by have:=Afv ps;simp;lia
theorem Ajr {x:Mk}:deq x.d .non=false:=Ajx
theorem Ajt {x:Mk}:deq .non x.d=false:=Ajv
theorem Acm (x y:Option Mk):deq (oD x) (oD y)=decide (x=y):=by
 cases x with
 |none=>cases y with
  |none=>simp[oD,Aju]
  |some y=>simp[oD,Ajt]
 |some x=>cases y with
  |none=>simp[oD,Ajr]
  |some y=>simp[oD,Mk.deq]
theorem Acv (x y:Pc):deq (pD x) (pD y)=decide (x=y):=by
 unfold pD
 rw[Cr,Cr,Ga,Mk.deq,Acm]
 obtain⟨a,b⟩:=x
 obtain⟨c,d⟩:=y
 by_cases h1:a=c<;>by_cases h2:b=d<;>simp[h1,h2]
theorem Xi (x y:List Pc):deq (.tup (x.map pD)) (.tup (y.map pD))=decide (x=y):=Lb Acv x y
theorem Alp:W (Im 2 g (pD p) env) Q=W (g [p.1.d,oD p.2] env) Q:=by
 unfold pD;rw[Ab4];simp
theorem Aku:W (Acn (oD o) m) Q=Q (.bl o.isNone):=by cases o<;>exact Ab
theorem Afe:W (Iz (oD o) m) Q=Q (.bl o.isSome):=by cases o<;>exact Ab
noncomputable def Ak:List Mk->List Pc
 |[]=>[]
 |[x]=>[(x,none)]
 |x::y::r=>(x,some y)::Ak r
theorem B5:∀ ys:List Mk,(Ak ys).length=(ys.length+1) / 2
 |[]=>rfl
 |[x]=>by simp[Ak]
 |x::y::r=>by rw[Ak,Atw,B5 r,Atw,Atw];lia
theorem Gf:∀ (ys:List Mk) (k:Nat) (h:2 * k < ys.length),(Ak ys)[k]?=some (ys[2 * k],ys[2 * k+1]?)
 |[],_,h=>absurd h (Awi _)
 |[x],0,_=>rfl
 |[x],k+1,h=>by simp at h<;>lia
 |x::y::r,0,_=>rfl
 |x::y::r,k+1,h=>by
  have h':2 * k < r.length:=by simp at h;lia
  rw[Ak,Avb,Gf r k h']
  rfl
theorem Aqv (n:Nat):Tq 0 (n:Int) 2=(n+1) / 2:=by
 unfold Tq
 split<;>lia
theorem Jq:∀ {ys:List Mk}{p:Pc},p∈Ak ys->p.1∈ys/\∀ h,p.2=some h->h∈ys
 |[x],p,h=>by simp[Ak] at h;subst h;exact⟨Atk ..,fun h e=>by cases e⟩
 |x::y::r,p,h=>by
  rw[Ak] at h
  rcases List.mem_cons.mp h with rfl|h
  ·exact⟨by simp,fun h e=>by cases e;simp⟩
  ·obtain⟨h1,h2⟩:=Jq h
   exact⟨by simp[h1],fun z e=>by have:=h2 z e;simp[this]⟩
def inP (m:Mk) (p:Pc):Bool:=!m.older p.1&&match p.2 with|none=>true|some h=>m.older h
open Classical
noncomputable section
theorem Adz:W (Abh i env m) Q=Q (.nx (env.set i (some (.ref m.length))) (m++[.dct [] []])):=Ab
structure DOk (o:MObj) (n:Nat):Prop where
 out:∃ ks vs,o=.dct ks vs/\ks.length=vs.length/\ks.length<=n
def Apm (o:MObj) (k v:D):MObj:=match o with
 |.dct ks vs=>if Tb ks k=true then .dct ks (Jb ks vs k v) else .dct (ks++[k]) (vs++[v])
 |o=>o
def Zl (o k d:D) (env:Ax) (m:MH) (Q:Out->Prop):Prop:=W (match o with
 |.ref n=>(match m[n]? with
  |some (.dct ks vs)=>if Bz k=true/\ks.length < 1000000 then some (.nx env (m.set n (if Tb ks k=true then .dct ks (Jb ks vs k d) else .dct (ks++[k]) (vs++[d])))) else none
  |_=>none)
 |_=>none) Q
theorem Ad0:W (Tr f fo fk env m) Q=W (f env m) fun d=>W (fo env m) fun o=>W (fk env m) fun k=>Zl o k d env m Q:=by
 unfold Tr Zl
 rw[W_bind];congr 1;funext x
 rw[W_bind];congr 1;funext y
 rw[W_bind]<;>congr 1
theorem Pr {k d:D} (hm:m[n]?=some o) (ho:DOk o c) (hc:c < 1000000) (hk:Bz k=true) (q:Q (.nx env (m.set n (Apm o k d)))):Zl (.ref n) k d env m Q:=by
 obtain⟨ks,vs,rfl,hl,hn⟩:=ho
 unfold Zl
 simp only[hm]
 rw[Atq ⟨hk,by lia⟩,Ab]
 exact q
end
end ML
end L2
end S_MM1
section S_MM7
namespace L2
namespace ML
open PySem
theorem mp1 {a:D}{l:Ax}:List.map some [a]++l=some a::l:=rfl
theorem mp2 {a b:D}{l:Ax}:List.map some [a,b]++l=some a::some b::l:=rfl
theorem mp3 {a b c:D}{l:Ax}:List.map some [a,b,c]++l=some a::some b::some c::l:=rfl
theorem ln1 {a:D}:[a].length=1:=rfl
theorem ln2 {a b:D}:[a,b].length=2:=rfl
theorem ln3 {a b c:D}:[a,b,c].length=3:=rfl
theorem Apj {p q:Prop}{b:Bool} (h:b=true):cK p q b=p:=by rw[h,Ad9]
theorem Api {p q:Prop}{b:Bool} (h:b=false):cK p q b=q:=by rw[h,Ajl]
theorem Ain:W (fVI i k env m) Q=W (Ad i env m) fun d=>W (oIx d (.int k) m) Q:=by unfold fVI;simp only[Ara,Arb]
theorem Ao8 {d:D}:W (fVI 0 k (some d::e) m) Q=W (oIx d (.int k) m) Q:=by rw[Ain,Arc]
theorem Ao9 {d:D}:W (fVI 1 k (x::some d::e) m) Q=W (oIx d (.int k) m) Q:=by rw[Ain,Ard]
theorem Aoj:W (fC1 fn a env m) Q=W (a env m) fun x=>W (C8 m x) fun x'=>W (fn [x']) Q:=by unfold fC1;simp only[J3,E8,Jc,G9,Ce,Cf,Atw,Avu,Nat.reduceAdd,true_and]
theorem Aok:W (fC2 fn a b env m) Q=W (a env m) fun x=>W (b env m) fun y=>W (C8 m x) fun x'=>W (C8 m y) fun y'=>W (fn [x',y']) Q:=by unfold fC2;simp only[J3,E8,Jc,G9,Ce,Cf,Atw,Avu,Nat.reduceAdd,true_and]
theorem Aol:W (fC3 fn a b c env m) Q=W (a env m) fun x=>W (b env m) fun y=>W (c env m) fun z=>W (C8 m x) fun x'=>W (C8 m y) fun y'=>W (C8 m z) fun z'=>W (fn [x',y',z']) Q:=by unfold fC3;simp only[J3,E8,Jc,G9,Ce,Cf,Atw,Avu,Nat.reduceAdd,true_and]
theorem Aom:W (fF1 fn a env m) Q=W (a env m) fun x=>W (C8 m x) fun x'=>W (fn [x']) (Anr Q):=by unfold fF1;simp only[J4,E8,Jc,Nx,Ce,Cf,Atw,Avu,Nat.reduceAdd,true_and]
theorem Aon:W (fF3 fn a b c env m) Q=W (a env m) fun x=>W (b env m) fun y=>W (c env m) fun z=>W (C8 m x) fun x'=>W (C8 m y) fun y'=>W (C8 m z) fun z'=>W (fn [x',y',z']) (Anr Q):=by unfold fF3;simp only[J4,E8,Jc,Nx,Ce,Cf,Atw,Avu,Nat.reduceAdd,true_and]
end ML
end L2
end S_MM7
section S_MS1
namespace L2
namespace ML
open PyProof.Rows PySem.W
def Sat {α:Type} (c:Nat->Nat->Option Bool) (t:KasT α) (Q:α->Prop):Prop:=∃ a,evO c t=some a/\Q a
theorem Sat.ret (h:Q a):Sat c (.ret a) Q:=⟨a,rfl,h⟩
theorem Sat.ask (h1:c i j=some b) (h2:Sat c (k b) Q):Sat c (.ask i j k) Q:=by
 obtain⟨a,e,q⟩:=h2
 exact⟨a,by rw[evO,h1];exact e,q⟩
theorem Pu:∀ t:KasT α,evO c (t.bind f)=(evO c t).bind fun a=>evO c (f a)
 |.ret a=>rfl
 |.ask i j k=>by
  show (c i j).bind (fun b=>evO c ((k b).bind f))=((c i j).bind fun b=>evO c (k b)).bind _
  cases c i j with
  |none=>rfl
  |some b=>exact Pu (k b)
theorem Sat.bind {t:KasT α} (h:Sat c t fun a=>Sat c (f a) Q):Sat c (t.bind f) Q:=by
 obtain⟨a,e,b,e2,q⟩:=h
 exact⟨b,by rw[Pu,e];exact e2,q⟩
def PermN (n:Nat) (p:Array Nat):Prop:=p.Perm (List.range n).toArray
theorem PermN.size (h:PermN n p):p.size=n:=by have:=Array.Perm.size_eq h;simpa using this
theorem PermN.lt (h:PermN n p) (hn:0 < n) (i:Nat):p.getD i 0 < n:=by
 by_cases hi:i < p.size
 ·have h1:p[i]∈p.toList:=by simp
  have h2:=(Array.perm_iff_toList_perm.mp h).mem_iff.mp h1
  have h3:p[i] < n:=by simpa using h2
  simpa [Array.getD,hi] using h3
 ·simpa [Array.getD,hi] using hn
section
variable {O:KeyOrd} (key:Nat->O.α)
noncomputable def KA (p:Array Nat) (i:Nat):O.α:=key (p.getD i 0)
def Srt (p:Array Nat) (k:Nat):Prop:=∀ i j,i<=j->j < k->O.kle (KA key p i) (KA key p j)
def Nin (p:Array Nat) (k:Nat):Prop:=∀ i j,i<=j->j < k->O.kle (KA key p j) (KA key p i)
end
section
variable {O:KeyOrd}{key:Nat->O.α}{n:Nat}{c:Nat->Nat->Option Bool}{p:Array Nat}
theorem En (h:p[i]?=r[j]?):KA key p i=KA key r j:=by
 unfold KA
 rw[Array.getD_eq_getD_getElem?,Array.getD_eq_getD_getElem?,h]
theorem Ud (hj:j<=p.size) (k:Nat):KA key (kas_rev p i j) k=if i<=k/\k < j then KA key p (i+j - 1 - k) else KA key p k:=by
 have e:=getElem?_mirror_all (i:=i) hj k
 unfold kas_rev
 by_cases q:i<=k/\k < j
 ·rw[Atq q] at e;rw[Atq q];exact En e
 ·rw[Atl q] at e;rw[Atl q];exact En e
theorem J0 (hj:j<=p.size) (he:∀ k,i<=k->k < j->KA key p k=KA key p (j - 1)) (k:Nat):KA key (kas_rev p i j) k=KA key p k:=by
 rw[Ud hj]
 by_cases q:i<=k/\k < j
 ·rw[Atq q,he _ (by lia) (by lia),he k q.1 q.2]
 ·rw[Atl q]
theorem Ab3 {src d:Nat} (hs:src < p.size) (hd:d<=src) (k:Nat):KA key (bubble p src d) k=if k=src - d then KA key p src else if src - d < k/\k<=src then KA key p (k - 1) else KA key p k:=by
 have e:=getElem?_bubble hs d hd k
 by_cases q:k=src - d
 ·rw[Atq q] at e;rw[Atq q];exact En e
 ·rw[Atl q] at e;rw[Atl q]
  by_cases q2:src - d < k/\k<=src
  ·rw[Atq q2] at e;rw[Atq q2];exact En e
  ·rw[Atl q2] at e;rw[Atl q2];exact En e
theorem PermN.rev (h:PermN n p) (i j:Nat):PermN n (kas_rev p i j):=(mirror_perm _ _ _ _).trans h
theorem PermN.bub (h:PermN n p) (i j:Nat):PermN n (bubble p i j):=(bubble_perm _ _ _).trans h
theorem Mc (hc:∀ i j,i < n->j < n->c i j=some (O.blt (key i) (key j))) (hn:0 < n) (hp:PermN n p) (i j:Nat) (h:Sat c (k (O.blt (KA key p i) (KA key p j))) Q):Sat c (.ask (p.getD i 0) (p.getD j 0) k) Q :=
 Sat.ask (hc _ _ (hp.lt hn i) (hp.lt hn j)) h
theorem Ahk:Srt key p 1:=fun i j hij hj=>by
 have:i=j:=by lia
 subst this;exact Awa _
theorem Abr (hs:Srt key p a) (h1:1<=a) (h:O.kle (KA key p (a - 1)) (KA key p a)):Srt key p (a+1):=fun i j hij hj=>by
 by_cases q:j < a
 ·exact hs i j hij q
 ·have:j=a:=by lia
  subst this
  by_cases q2:i=j
  ·subst q2;exact Awa _
  ·exact KeyOrd.kle_trans (hs i (j - 1) (by lia) (by lia)) h
theorem G6 (hs:Nin key p a) (h1:1<=a) (h:O.kle (KA key p a) (KA key p (a - 1))):Nin key p (a+1):=fun i j hij hj=>by
 by_cases q:j < a
 ·exact hs i j hij q
 ·have:j=a:=by lia
  subst this
  by_cases q2:i=j
  ·subst q2;exact Awa _
  ·exact KeyOrd.kle_trans h (hs i (j - 1) (by lia) (by lia))
theorem V4 (h:Nin key p a) (e:∀ k,KA key r k=KA key p k):Nin key r a:=fun i j hij hj=>by rw[e,e];exact h i j hij hj
theorem N1 (hc:∀ i j,i < n->j < n->c i j=some (O.blt (key i) (key j))) (hn:0 < n) (hp:PermN n p):∀ (f a:Nat),1<=a->Srt key p a ->
  (∀ m,a<=m->m<=a+f->Srt key p m->(m=a+f\/O.klt (KA key p m) (KA key p (m - 1)))->Q m)->Sat c (kas_asc p f a) Q
 |0,a,h1,hs,h=>Sat.ret (h a (Atp _) (Atp _) hs (.inl rfl))
 |f+1,a,h1,hs,h=>by
  rw[kas_asc]
  refine Mc hc hn hp a (a - 1) ?_
  cases e:O.blt (KA key p a) (KA key p (a - 1)) with
  |true=>exact Sat.ret (h a (Atp _) (by lia) hs (.inr e))
  |false =>
   rw[Atl (by decide)]
   refine N1 hc hn hp f (a+1) (by lia) (Abr hs h1 e) fun m m1 m2 m3 m4=>h m (by lia) (by lia) m3 ?_
   rcases m4 with m4|m4
   ·exact .inl (by lia)
   ·exact .inr m4
theorem G1 (hc:∀ i j,i < n->j < n->c i j=some (O.blt (key i) (key j))) (hn:0 < n) (hz:z<=n) (h:∀ p m q,PermN n p->1<=m->m<=z->Nin key p m->q+1<=m->(∀ i,m - (q+1)<=i->i < m->KA key p i=KA key p (m - 1))->Q (p,m,q)):∀ (f:Nat) {p:Array Nat}{x q:Nat},PermN n p->x+f=z->Nin key p x->q+1<=x ->
  (∀ i,x - (q+1)<=i->i < x->KA key p i=KA key p (x - 1))->Sat c (kas_desc f p x q) Q
 |0,p,x,q,hp,hx,hs,hq,he=>Sat.ret (h p x q hp (by lia) (by lia) hs hq he)
 |f+1,p,x,q,hp,hx,hs,hq,he=>by
  rw[kas_desc]
  refine Mc hc hn hp x (x - 1) ?_
  have hsz:x<=p.size:=by rw[hp.size];lia
  cases e:O.blt (KA key p x) (KA key p (x - 1)) with
  |true =>
   rw[Atq rfl]
   have s1:=G6 hs (by lia) (KeyOrd.kle_of_klt e)
   by_cases q0:q > 0
   ·rw[Atq q0]
    refine G1 hc hn hz h f (hp.rev _ _) (by lia) (V4 s1 (J0 hsz he)) (by lia) fun i h1 h2=>?_
    have:i=x+1 - 1:=by lia
    rw[this]
   ·rw[Atl q0]
    refine G1 hc hn hz h f hp (by lia) s1 (by lia) fun i h1 h2=>?_
    have:i=x+1 - 1:=by lia
    rw[this]
  |false =>
   rw[Atl (by decide)]
   refine Mc hc hn hp (x - 1) x ?_
   cases e2:O.blt (KA key p (x - 1)) (KA key p x) with
   |true=>exact Sat.ret (h p x q hp (by lia) (by lia) hs hq he)
   |false =>
    rw[Atl (by decide)]
    have eq:KA key p x=KA key p (x - 1):=KeyOrd.kle_antisymm e2 e
    refine G1 hc hn hz h f hp (by lia) (G6 hs (by lia) e2) (by lia) fun i h1 h2=>?_
    rw[show x+1 - 1=x by lia]
    by_cases hix:i=x
    ·rw[hix]
    ·rw[eq];exact he i (by lia) (by lia)
theorem Ro (hc:∀ i j,i < n->j < n->c i j=some (O.blt (key i) (key j))) (hn:0 < n) (hz:z<=n) (h1:1<=a) (ha:a<=z) (hp:PermN n p) (hs:Nin key p a) (h:∀ m r,PermN n r->1<=m->m<=z->Srt key r m->Q (m,r)):Sat c (kas_tail3 a z p) Q:=by
 unfold kas_tail3
 have hsz:a<=p.size:=by rw[hp.size];lia
 refine Sat.bind (N1 hc hn (hp.rev 0 a) (z - a) a h1 (fun i j hij hj=>?_) fun m m1 m2 m3 _=>Sat.ret (h m _ (hp.rev 0 a) (by lia) (by lia) m3))
 rw[Ud hsz,Ud hsz,Atq (by lia),Atq (by lia)]
 exact hs _ _ (by lia) (by lia)
theorem Rc (hc:∀ i j,i < n->j < n->c i j=some (O.blt (key i) (key j))) (hn:0 < n) (hz:z<=n) (ha:a+1<=z) (hp:PermN n p) (hs:Nin key p (a+1)) (h:∀ m r,PermN n r->1<=m->m<=z->Srt key r m->Q (m,r)):Sat c (kas_descPart a z p) Q:=by
 unfold kas_descPart
 refine Sat.bind (G1 (p:=p) (x:=a+1) (q:=0) hc hn hz (fun r m q hr m1 m2 m3 m4 m5=>?_) (z - (a+1)) hp (by lia) hs (by lia) fun i h1 h2=>?_)
 ·have hsz:m<=r.size:=by rw[hr.size];lia
  show Sat c (if q > 0 then _ else _) Q
  by_cases q0:q > 0
  ·rw[Atq q0]
   exact Ro hc hn hz m1 m2 (hr.rev _ _) (V4 m3 (J0 hsz m5)) h
  ·rw[Atl q0]
   exact Ro hc hn hz m1 m2 hr m3 h
 ·have:i=a+1 - 1:=by lia
  rw[this]
theorem Us (hc:∀ i j,i < n->j < n->c i j=some (O.blt (key i) (key j))) (hz:z<=n) (h1:1<=z) (hp:PermN n p) (h:∀ m r,PermN n r->1<=m->m<=z->Srt key r m->Q (m,r)):Sat c (kas_count z p) Q:=by
 have hn:0 < n:=by lia
 unfold kas_count
 refine Sat.bind (N1 hc hn hp (z - 1) 1 (Atp _) Ahk fun m m1 m2 m3 m4=>?_)
 have hsz:m<=p.size:=by rw[hp.size];lia
 by_cases q:(m == z)=true
 ·rw[Atq q];exact Sat.ret (h m p hp m1 (by lia) m3)
 ·rw[Atl q]
  have hmz:m≠z:=fun e=>q (by simp[e])
  have hlt:O.klt (KA key p m) (KA key p (m - 1)):=m4.resolve_left (by lia)
  by_cases q1:m > 1
  ·rw[Atq q1]
   refine Mc hc hn hp 0 (m - 1) ?_
   cases e:O.blt (KA key p 0) (KA key p (m - 1)) with
   |true=>rw[Atq rfl];exact Sat.ret (h m p hp m1 (by lia) m3)
   |false =>
    rw[Atl (by decide)]
    have all:∀ k,0<=k->k < m->KA key p k=KA key p (m - 1):=fun k _ hk=>KeyOrd.kle_antisymm (m3 k (m - 1) (by lia) (by lia)) (KeyOrd.kle_trans e (m3 0 k (by lia) hk))
    have flat:Nin key p m:=fun i j hij hj=>by rw[all i (by lia) (by lia),all j (by lia) hj];exact Awa _
    exact Rc hc hn hz (by lia) (hp.rev 0 m) (V4 (G6 flat m1 (KeyOrd.kle_of_klt hlt)) (J0 hsz all)) h
  ·rw[Atl q1]
   have e1:m=1:=by lia
   subst e1
   refine Rc hc hn hz (by lia) hp (G6 (fun i j hij hj=>?_) (Atp _) (KeyOrd.kle_of_klt hlt)) h
   have:i=j:=by lia
   subst this;exact Awa _
theorem Hu (hc:∀ i j,i < n->j < n->c i j=some (O.blt (key i) (key j))) (hn:0 < n) (hp:PermN n p) (hs:Srt key p k) (h:∀ l,l<=k->(∀ i,i < l->O.kle (KA key p i) (KA key p k))->(∀ i,l<=i->i < k->O.klt (KA key p k) (KA key p i))->Q l) :
  ∀ (f l r:Nat),l<=r->r<=k->r - l<=f->(∀ i,i < l->O.kle (KA key p i) (KA key p k))->(∀ i,r<=i->i < k->O.klt (KA key p k) (KA key p i))->Sat c (kas_place p k f l r) Q
 |0,l,r,h1,h2,h3,lo,hi=>by
  have e:l=r:=by lia
  subst e
  exact Sat.ret (h l h2 lo hi)
 |f+1,l,r,h1,h2,h3,lo,hi=>by
  rw[kas_place]
  by_cases q:l ≥ r
  ·rw[Atq q]
   have e:l=r:=by lia
   subst e
   exact Sat.ret (h l h2 lo hi)
  ·rw[Atl q]
   refine Mc hc hn hp k ((l+r) / 2) ?_
   cases e:O.blt (KA key p k) (KA key p ((l+r) / 2)) with
   |true =>
    rw[Atq rfl]
    exact Hu hc hn hp hs h f l ((l+r) / 2) (by lia) (by lia) (by lia) lo fun i a1 a2=>KeyOrd.klt_of_klt_of_kle e (hs _ _ a1 a2)
   |false =>
    rw[Atl (by decide)]
    exact Hu hc hn hp hs h f ((l+r) / 2+1) r (by lia) h2 (by lia) (fun i a1=>KeyOrd.kle_trans (hs i ((l+r) / 2) (by lia) (by lia)) e) hi
theorem Ul (hc:∀ i j,i < n->j < n->c i j=some (O.blt (key i) (key j))) (hn:0 < n) (h:∀ p,PermN n p->Srt key p n->Q p):∀ (f:Nat) {p:Array Nat}{k:Nat},PermN n p->k+f=n->Srt key p k->Sat c (kas_bin f p k) Q
 |0,p,k,hp,hk,hs=>by
  have e:k=n:=by lia
  subst e
  exact Sat.ret (h p hp hs)
 |f+1,p,k,hp,hk,hs=>by
  rw[kas_bin]
  refine Sat.bind (Hu hc hn hp hs (fun l hl lo hi=>?_) k 0 k (Aup _) (Atp _) (by lia) (fun i hi=>absurd hi (Awi _)) fun i a1 a2=>absurd a2 (by lia))
  refine Ul hc hn h f (hp.bub _ _) (by lia) fun i j hij hj=>?_
  have hks:k < p.size:=by rw[hp.size];lia
  rw[Ab3 hks (by lia),Ab3 hks (by lia),show k - (k - l)=l by lia]
  by_cases i1:i=l<;>by_cases j1:j=l
  ·rw[Atq i1,Atq j1];exact Awa _
  ·rw[Atq i1,Atl j1,Atq (by lia)];exact KeyOrd.kle_of_klt (hi _ (by lia) (by lia))
  ·rw[Atl i1,Atq j1,Atl (by lia)];exact lo _ (by lia)
  ·rw[Atl i1,Atl j1]
   by_cases i2:l < i/\i<=k<;>by_cases j2:l < j/\j<=k
   ·rw[Atq i2,Atq j2];exact hs _ _ (by lia) (by lia)
   ·exact absurd j2 (by lia)
   ·rw[Atl i2,Atq j2];exact hs _ _ (by lia) (by lia)
   ·rw[Atl i2,Atl j2];exact hs _ _ (by lia) (by lia)
theorem Abp (hc:∀ i j,i < n->j < n->c i j=some (O.blt (key i) (key j))) (hn:0 < n):Sat c (kas_sort n) fun p=>PermN n p/\Srt key p n:=by
 unfold kas_sort
 refine Sat.bind (Us hc (Atp _) hn (Array.Perm.refl _) fun m r hr m1 m2 m3=>?_)
 show Sat c (if m < n then kas_bin (n - max m 1) r (max m 1) else .ret r) _
 by_cases q:m < n
 ·rw[Atq q]
  exact Ul hc hn (fun p h1 h2=>⟨h1,h2⟩) _ hr (by lia) (by rw[show max m 1=m by lia];exact m3)
 ·rw[Atl q]
  have e:m=n:=by lia
  subst e
  exact Sat.ret ⟨hr,m3⟩
end
theorem Yh {α:Type} [Inhabited α] {blt:α->α->Bool} (irr:∀ a,blt a a=false) (tr:∀ a b c,blt a b=true->blt b c=true->blt a c=true) (ng:∀ a b c,blt a c=true->blt a b=true\/blt b c=true) (tt:∀ a b,blt a b=false->blt b a=false->a=b)
  {c:Nat->Nat->Option Bool}{zs:List α} (hc:∀ i j (hi:i < zs.length) (hj:j < zs.length),c i j=some (blt zs[i] zs[j])) (hn:0 < zs.length) :
  ∃ p:Array Nat,evO c (kas_sort zs.length)=some p/\(p.toList.map fun i=>zs.getD i default).Perm zs/\(p.toList.map fun i=>zs.getD i default).Pairwise (fun x y=>blt y x=false)/\∀ i∈p.toList,i < zs.length:=by
 obtain⟨p,e,hp,hs⟩:=Abp (O:=⟨α,blt,irr,tr,ng,tt⟩) (key:=fun i=>zs.getD i default) (n:=zs.length) (c:=c) (fun i j hi hj=>by
  rw[hc i j hi hj]
  show some (blt zs[i] zs[j])=some (blt (zs.getD i default) (zs.getD j default))
  rw[Atx,Atx,Atv hi,Atv hj];rfl) hn
 have hl:p.toList.Perm (List.range zs.length):=Array.perm_iff_toList_perm.mp hp
 refine⟨p,e,?_,?_,fun i hi=>by simpa using hl.mem_iff.mp hi⟩
 ·have h2:=hl.map fun i=>zs.getD i default
  have e2:(List.range zs.length).map (fun i=>zs.getD i default)=zs:=by
   apply Av0
   intro i
   by_cases hi:i < zs.length
   ·simp[hi]
   ·simp[hi]
  rwa [e2] at h2
 ·rw[List.pairwise_iff_getElem]
  intro i j hi hj hij
  have hi':i < p.size:=by simpa using hi
  have hj':j < p.size:=by simpa using hj
  have h3:=hs i j (Ave hij) (by rw[<- hp.size];exact hj')
  have h4:blt (zs.getD (p.getD j 0) default) (zs.getD (p.getD i 0) default)=false:=h3
  simpa [Array.getD,hi',hj'] using h4
end ML
end L2
end S_MS1
section S_MT1
namespace L2
namespace ML
open PySem PySem.Builtin PySem.Builtin.Str
abbrev L (t:Str):List Nat:=t.cps.toList
theorem Nv (h:L x=L y):x=y:=by
 obtain⟨x⟩:=x
 obtain⟨y⟩:=y
 exact Au5 Str.mk (Array.toList_inj.mp h)
theorem Ah9:L (x++y)=L x++L y:=by
 show (x.cps++y.cps).toList=_
 simp
theorem An5:L ⟨#[c]⟩=[c]:=rfl
theorem Ru {x:Str}:x.length=(L x).length:=(Avc).symm
noncomputable def jn (c:Nat):List (List Nat)->List Nat
 |[]=>[]
 |[p]=>p
 |p::q::r=>p++c::jn c (q::r)
theorem Lf {c:Nat}:∀ ts:List Str,L (Str.join ⟨#[c]⟩ ts)=jn c (ts.map L)
 |[]=>rfl
 |[x]=>rfl
 |x::y::r=>by
  show L (x++⟨#[c]⟩++Str.join ⟨#[c]⟩ (y::r))=L x++c::jn c (L y::r.map L)
  rw[Ah9,Ah9,An5,Lf (y::r)]
  simp
noncomputable def spl (c:Nat):List Nat->List (List Nat)
 |[]=>[[]]
 |x::xs=>if x=c then []::spl c xs else match spl c xs with
  |[]=>[[x]]
  |p::ps=>(x::p)::ps
theorem Ars (c:Nat):∀ xs,spl c xs≠[]
 |[]=>by simp[spl]
 |x::xs=>by
  unfold spl
  split
  ·simp
  ·split<;>simp
theorem Rj:∀ {p:List Nat},c∉p->spl c p=[p]
 |[],_=>rfl
 |x::p,h=>by
  rw[spl,Atl (fun e=>h (by simp[e])),Rj (p:=p) fun e=>h (by simp[e])]
theorem Lv {c:Nat}{r:List Nat}:∀ {p:List Nat},c∉p->spl c (p++c::r)=p::spl c r
 |[],_=>by rw[Au9,spl,Atq rfl]
 |x::p,h=>by
  rw[Avo,spl,Atl (fun e=>h (by simp[e])),Lv (p:=p) fun e=>h (by simp[e])]
theorem Yi:∀ {ps:List (List Nat)},ps≠[]->(∀ p∈ps,c∉p)->spl c (jn c ps)=ps
 |[],h,_=>absurd rfl h
 |[p],_,h=>Rj (h p (by simp))
 |p::q::r,_,h=>by
  rw[jn,Lv (h p (by simp)),Yi (ps:=q::r) (by simp) fun x hx=>h x (Atn _ hx)]
theorem Abq (x y:Str):Txt.split x y≠[]:=by
 unfold Txt.split
 split
 ·simp
 ·split
  ·simp
  ·rw[StrLaws.partsBetween_eq]
   obtain⟨p,r,e⟩:=StrLaws.partsFrom_ne x y.length 0 (occurrences x y 0 x.length (x.length+1))
   rw[e]
   simp
theorem Ni (x:Str) (c:Nat):(Txt.split x ⟨#[c]⟩).map L=spl c (L x):=by
 have h:=StrLaws.join_split x ⟨#[c]⟩
 have h2:=Lf (c:=c) (Txt.split x ⟨#[c]⟩)
 rw[h] at h2
 rw[h2]
 refine (Yi (fun e=>Abq x ⟨#[c]⟩ (List.map_eq_nil_iff.mp e)) fun p hp=>?_).symm
 obtain⟨q,hq,rfl⟩:=List.mem_map.mp hp
 exact StrLaws.split_free x c q hq
set_option tactic.hygienic true in
theorem Yj {c:Nat}:∀ xs:List Nat,(spl c xs).length<=xs.length+1
 |[]=>by simp[spl]
 |x::xs=>by
  have:=Yj (c:=c) xs
  unfold spl
  split
  ·simp;lia
  ·split
   ·simp
   ·rename_i p ps e
    rw[e] at this
    simp at this ⊢;lia
theorem Am4 (x:Str) (c:Nat):(Txt.split x ⟨#[c]⟩).length<=x.length+1:=by
 have h:=Au5 List.length (Ni x c)
 rw[At1] at h
 rw[h,Ru]
 exact Yj _
theorem Tt (h:ts≠[]) (hf:∀ t∈ts,c∉L t):Txt.split (Str.join ⟨#[c]⟩ ts) ⟨#[c]⟩=ts:=by
 have h2:=Ni (Str.join ⟨#[c]⟩ ts) c
 rw[Lf,Yi (fun e=>h (List.map_eq_nil_iff.mp e)) fun p hp=>by obtain⟨q,hq,rfl⟩:=List.mem_map.mp hp;exact hf q hq] at h2
 have inj:∀ xs ys:List Str,xs.map L=ys.map L->xs=ys:=by
  intro xs
  induction xs with
  |nil=>intro ys e;cases ys with
   |nil=>rfl
   |cons _ _=>simp at e
  |cons x xs ih =>
   intro ys e
   cases ys with
   |nil=>simp at e
   |cons y ys =>
    rw[Atz,Atz,List.cons.injEq] at e
    rw[Nv e.1,ih ys e.2]
 exact inj _ _ h2
theorem U3 {t:Str}{c:Nat}:(c∉L t/\occurrences t ⟨#[c]⟩ 0 t.length 1=[])\/∃ a b r,L t=a++c::b/\c∉a/\occurrences t ⟨#[c]⟩ 0 t.length 1=a.length::r:=by
 rcases StrLaws.occ_head t ⟨#[c]⟩ 1 (Atp 1) with ⟨h1,h2⟩|⟨i,r,h1,h2,h3⟩
 ·refine .inl ⟨fun h=>?_,h1⟩
  obtain⟨i,hi⟩:=Avj h
  exact h2 i ((StrLaws.subAt_one t c i).mpr hi)
 ·have hi:=(StrLaws.subAt_one t c i).mp h2
  have hl:i < (L t).length:=(List.getElem?_eq_some_iff.mp hi).1
  refine .inr ⟨(L t).take i,(L t).drop (i+1),r,?_,fun h=>?_,by rw[h1,Au4];congr 1;lia⟩
  ·have e:=At9 hl
   rw[(List.getElem?_eq_some_iff.mp hi).2] at e
   rw[<- e,Aua]
  ·obtain⟨k,hk⟩:=Avj h
   have hk2:k < ((L t).take i).length:=(List.getElem?_eq_some_iff.mp hk).1
   rw[Au4] at hk2
   rw[List.getElem?_take_of_lt (by lia)] at hk
   exact h3 k (by lia) ((StrLaws.subAt_one t c k).mpr hk)
theorem Ang:L (strSub x i j)=((L x).take j).drop i:=by
 unfold strSub L
 simp[Array.toList_extract,List.drop_take]
theorem Aai {t:Str} (h:L t=a++c::b) (hc:c∉a):Txt.partition t ⟨#[c]⟩=(⟨a.toArray⟩,⟨#[c]⟩,⟨b.toArray⟩)/\Txt.find t ⟨#[c]⟩=a.length:=by
 rcases U3 (t:=t) (c:=c) with ⟨h1,_⟩|⟨a',b',r,h1,h2,h3⟩
 ·exact absurd (by rw[h];simp) h1
 ·have e:a=a'/\b=b':=by
   have s1:=Lv (r:=b) hc
   have s2:=Lv (r:=b') h2
   rw[<- h,h1,s2,List.cons.injEq] at s1
   refine⟨s1.1.symm,?_⟩
   rw[h,<- s1.1] at h1
   simpa using h1
  obtain⟨rfl,rfl⟩:=e
  unfold Txt.partition Txt.find
  rw[h3]
  have hl:t.length=a.length+(b.length+1):=by rw[Ru,h];simp
  refine⟨?_,rfl⟩
  show (strSub t 0 a.length,_,strSub t (a.length+1) t.length)=_
  refine congr (Au5 Prod.mk (Nv ?_)) (Au5 (Prod.mk _) (Nv ?_))
  ·rw[Ang,h];simp
  ·rw[Ang,h,Aun (by simp;lia),List.drop_append];simp
theorem Alj {t:Str} (h:c∉L t):Txt.partition t ⟨#[c]⟩=(t,Str.empty,Str.empty):=by
 rcases U3 (t:=t) (c:=c) with ⟨_,h1⟩|⟨a',b',r,h1,h2,h3⟩
 ·unfold Txt.partition;rw[h1]
 ·exact absurd (by rw[h1];simp) h
theorem Arf {l:List Nat} (h:c∈l):∃ a b,l=a++c::b/\c∉a:=by
 induction l with
 |nil=>cases h
 |cons x l ih =>
  by_cases e:x=c
  ·subst e;exact⟨[],l,rfl,by simp⟩
  ·obtain⟨a,b,h1,h2⟩:=ih ((List.mem_cons.mp h).resolve_left fun z=>e z.symm)
   exact⟨x::a,b,by rw[h1];rfl,by simp[h2];exact fun z=>e z.symm⟩
end ML
end L2
end S_MT1
section S_MT2
namespace L2
namespace ML
open PySem PySem.Builtin PySem.Builtin.Str
abbrev Anq:List Nat:=(Str.ofString "0123456789").cps.toList
noncomputable def Akr (t:Str):Option Nat :=
 if t.length=0\/16<=t.length then none else if (t.cps.toList.all fun c=>decide (c∈Anq))=false then none else
 if t.cps.toList[0]?=some 48/\t≠Str.ofString "0" then none else some (NumText.digitsVal t.cps.toList)
theorem Apl:Anq=[48,49,50,51,52,53,54,55,56,57]:=by decide +kernel
theorem mem_digs:c∈Anq ↔ 48<=c/\c<=57:=by
 rw[show Anq=List.range' 48 10 by decide +kernel,List.mem_range'_1]
 lia
theorem Aq7:Str.ofString "0"=⟨#[48]⟩:=by decide +kernel
abbrev sn (i:Int):Str:=Str.ofString (toString i)
theorem Arw (x:String):L (Str.ofString x)=x.toList.map Char.toNat:=PyProof.Rows.signs_ofString x
theorem Ah6 (m:Nat):L (sn (m:Int))=(Nat.toDigits 10 m).map Char.toNat:=by
 rw[Arw]
 show (Nat.repr m).toList.map Char.toNat=_
 rw[Nat.toList_repr]
theorem Zk {ch:Char} (h:ch.isDigit=true):48<=ch.toNat/\ch.toNat<=57:=by
 unfold Char.isDigit at h
 simp only[At0,Aux] at h
 exact⟨h.1,h.2⟩
theorem O6 (h:0<=i):NumText.AllDigits (L (sn i)):=by
 obtain⟨m,rfl⟩:=Awe h
 intro c hc
 rw[Ah6] at hc
 obtain⟨ch,hch,rfl⟩:=List.mem_map.mp hc
 exact Zk (Nat.isDigit_of_mem_toDigits (by decide) (by decide) hch)
theorem Uw:∀ d:Nat,d < 10->(Nat.digitChar d).toNat - 48=d:=by decide
theorem Adn (m:Nat):NumText.digitsVal ((Nat.toDigits 10 m).map Char.toNat)=m:=by
 induction m using Nat.strongRecOn with
 |_ m ih =>
  by_cases h:m < 10
  ·rw[Nat.toDigits_of_lt_base h]
   have e:=Uw m h
   show 0 * 10+((Nat.digitChar m).toNat - 48)=m
   lia
  ·have hm:m % 10 < 10:=Nat.mod_lt m (by decide)
   have t:Nat.toDigits 10 (m / 10)++Nat.toDigits 10 (m % 10)=Nat.toDigits 10 m:=by
    have:=Nat.toDigits_append_toDigits (b:=10) (n:=m / 10) (d:=m % 10) (by decide) (by lia) hm
    rwa [Nat.div_add_mod] at this
   rw[<- t,Auh,Nat.toDigits_of_lt_base hm]
   show NumText.digitsVal ((Nat.toDigits 10 (m / 10)).map Char.toNat++[(Nat.digitChar (m % 10)).toNat])=m
   rw[NumText.digitsVal_snoc,ih (m / 10) (by lia),Uw (m % 10) hm]
   lia
theorem Anw (h0:0<=i) (h1:i < 1000000000000000):Akr (sn i)=some i.toNat:=by
 have hlen:(sn i).length<=15:=PyProof.Rows.toString_length_le h0 (k:=15) (by decide) (by simpa using h1)
 have hd:=O6 h0
 obtain⟨m,rfl⟩:=Awe h0
 have hl:(sn (m:Int)).length=(L (sn (m:Int))).length:=Ru
 have hp:0 < (L (sn (m:Int))).length:=by rw[Ah6,At1];exact Nat.length_toDigits_pos
 unfold Akr
 rw[Atl (by lia),Atl (by
  rw[Bool.not_eq_false,List.all_eq_true]
  intro c hc
  exact Avl (mem_digs.mpr (hd c hc)))]
 rw[Atl]
 ·show some (NumText.digitsVal (L (sn (m:Int))))=_
  rw[Ah6,Adn]
  rfl
 ·rintro ⟨e1,e2⟩
  have e1:(L (sn (m:Int)))[0]?=some 48:=e1
  obtain⟨r,hr⟩:∃ r,L (sn (m:Int))=48::r:=by
   cases q:L (sn (m:Int)) with
   |nil=>rw[q] at e1;cases e1
   |cons x r=>rw[q] at e1;simp at e1;exact⟨r,by rw[e1]⟩
  have hrn:r≠[]:=fun z=>e2 (Nv (by rw[hr,z];decide +kernel))
  have ha:=NumText.toDigits_all (L (sn (m:Int))) hd
  rw[show NumText.digitsVal (L (sn (m:Int)))=m by rw[Ah6,Adn]] at ha
  have hlen2:=Au5 List.length ha
  have h3:(Nat.toDigits 10 m).length=r.length+1:=by
   have:=Au5 List.length (Ah6 m)
   rw[hr,At1] at this
   simpa using this.symm
  rw[h3,hr] at hlen2
  have h4:((48::r).dropWhile (· == 48)).length<=r.length:=by
   rw[List.dropWhile_cons_of_pos (by decide)]
   exact (List.dropWhile_suffix _).length_le
  have h5:0 < r.length:=List.length_pos_iff.mpr hrn
  cases w:(48::r).dropWhile (· == 48) with
  |nil=>rw[w] at hlen2;simp at hlen2;exact hrn hlen2
  |cons x v=>rw[w] at hlen2 h4;simp at hlen2 h4;lia
end ML
end L2
end S_MT2
section S_MT3
namespace L2
namespace ML
open PySem PySem.Builtin PySem.Builtin.Str
abbrev Ae6:List Nat:=(Str.ofString "abcdefghijklmnopqrstuvwxyz").cps.toList
noncomputable def Ds (t:Str):Bool:=decide (1<=t.length)&&decide (t.length<=8)&&t.cps.toList.all fun c=>decide (c∈Ae6)
theorem Ae7:Ae6=(List.range 26).map (·+97):=by decide +kernel
theorem mem_lets:c∈Ae6 ↔ 97<=c/\c<=122:=by
 rw[Ae7,List.mem_map]
 constructor
 ·rintro ⟨i,hi,rfl⟩
  have:=List.mem_range.mp hi
  lia
 ·intro h
  exact⟨c - 97,List.mem_range.mpr (by lia),by lia⟩
noncomputable def S (l:List Nat):Str:=⟨l.toArray⟩
theorem L_S {l:List Nat}:L (S l)=l:=rfl
theorem S_L {t:Str}:S (L t)=t:=Nv rfl
theorem Arz {l:List Nat}:(S l).length=l.length:=by rw[Ru,L_S]
def okc (c:Nat):Prop:=(48<=c/\c<=57)\/(97<=c/\c<=122)
theorem Anv {t:Str} (h:Ds t=true):∀ c∈L t,okc c:=fun c hc=>by
 unfold Ds at h
 rw[At0] at h
 exact .inr (mem_lets.mp (Auw (List.all_eq_true.mp h.2 c hc)))
theorem Anu {t:Str} (h:Ds t=true):1<=t.length/\t.length<=8:=by
 unfold Ds at h
 rw[At0,At0] at h
 exact⟨Auw h.1.1,Auw h.1.2⟩
theorem Arq (h:0<=i):∀ c∈L (sn i),okc c:=fun c hc=>.inl (O6 h c hc)
theorem Arp (h0:0<=i) (h1:i < 1000000000000000):(sn i).length<=15:=PyProof.Rows.toString_length_le h0 (k:=15) (by decide) (by simpa using h1)
theorem Am3 (h0:0<=i):0 < (sn i).length:=by
 obtain⟨m,rfl⟩:=Awe h0
 rw[Ru,Ah6,At1]
 exact Nat.length_toDigits_pos
theorem Am2 (h0:0<=i):Ds (sn i)=false:=by
 cases h:Ds (sn i) with
 |false=>rfl
 |true =>
  have hp:=Am3 h0
  rw[Ru] at hp
  obtain⟨c,hc⟩:=List.exists_mem_of_length_pos hp
  have h1:=O6 h0 c hc
  unfold Ds at h
  rw[At0] at h
  have h2:=mem_lets.mp (Auw (List.all_eq_true.mp h.2 c hc))
  lia
noncomputable def cut (c:Nat) (t:Str):Str×Option Str:=if c∈L t then ((Txt.partition t ⟨#[c]⟩).1,some (Txt.partition t ⟨#[c]⟩).2.2) else (t,none)
theorem Ut {t:Str} (h:L t=a++c::b) (hc:c∉a):cut c t=(S a,some (S b)):=by
 unfold cut
 rw[Atq (by rw[h];simp),(Aai h hc).1]
 rfl
theorem Pn {c:Nat}{t:Str} (h:c∉L t):cut c t=(t,none):=by
 unfold cut
 rw[Atl h]
def tl (c:Nat) (ps:List (List Nat)):List Nat:=if ps=[] then [] else c::jn 46 ps
theorem Adl:tl c []=[]:=rfl
theorem Vh:∀ {ps:List (List Nat)},ps≠[]->jn c (ps++[q])=jn c ps++c::q
 |[],h=>absurd rfl h
 |[p],_=>rfl
 |p::r::ps,_=>by
  show p++c::jn c ((r::ps)++[q])=(p++c::jn c (r::ps))++c::q
  rw[Vh (ps:=r::ps) (by simp)]
  simp
theorem Aq3:tl c (ps++[q])=tl c ps++(if ps=[] then c else 46)::q:=by
 unfold tl
 by_cases h:ps=[]
 ·subst h;simp[jn]
 ·rw[Atl (by simp),Atl h,Atl h,Vh h];rfl
theorem Vg {c d:Nat}:∀ {ps:List (List Nat)},d∈jn c ps->d=c\/∃ p∈ps,d∈p
 |[],h=>by cases h
 |[p],h=>.inr ⟨p,by simp,h⟩
 |p::q::r,h=>by
  rw[jn] at h
  rcases List.mem_append.mp h with h|h
  ·exact .inr ⟨p,by simp,h⟩
  ·rcases List.mem_cons.mp h with h|h
   ·exact .inl h
   ·rcases Vg h with h|⟨z,hz,h⟩
    ·exact .inl h
    ·exact .inr ⟨z,by simp[List.mem_cons.mp hz],h⟩
theorem Aj8 {c b:Nat}:∀ {ps:List (List Nat)},(∀ p∈ps,p.length<=b)->(jn c ps).length<=ps.length * (b+1)
 |[],_=>by simp[jn]
 |[p],h=>by have:=h p (by simp);simp[jn];lia
 |p::q::r,h=>by
  have h1:=h p (by simp)
  have h2:=Aj8 (c:=c) (ps:=q::r) fun x hx=>h x (Atn _ hx)
  rw[jn,At8,Atw,Atw (a:=p),Nat.succ_mul]
  lia
theorem Aqx {ps:List (List Nat)} (h:ps≠[]) (hf:∀ p∈ps,∀ c∈p,okc c):Txt.split (S (jn 46 ps)) ⟨#[46]⟩=ps.map S:=by
 have e:S (jn 46 ps)=Str.join ⟨#[46]⟩ (ps.map S):=Nv (by
  rw[Lf,L_S,Avf]
  congr 1
  exact (List.map_id' ps).symm)
 rw[e]
 refine Tt (by simpa using h) fun t ht=>?_
 obtain⟨p,hp,rfl⟩:=List.mem_map.mp ht
 intro hc
 have:=hf p hp 46 hc
 unfold okc at this
 lia
def txt (a m n:List (List Nat)):List Nat:=jn 46 a++tl 45 m++tl 43 n
theorem Aq4 {a m n:List (List Nat)} (ha:∀ p∈a,∀ c∈p,okc c) (hm:∀ p∈m,∀ c∈p,okc c) :
  (cut 45 (cut 43 (S (txt a m n))).1).1=S (jn 46 a)/\(cut 45 (cut 43 (S (txt a m n))).1).2=(if m=[] then none else some (S (jn 46 m)))/\(cut 43 (S (txt a m n))).2=(if n=[] then none else some (S (jn 46 n))):=by
 have na:∀ d,(d=43\/d=45)->d∉jn 46 a:=fun d hd h=>by
  rcases Vg h with h|⟨p,hp,h⟩
  ·lia
  ·have:=ha p hp d h
   unfold okc at this
   lia
 have nm:43∉jn 46 m:=fun h=>by
  rcases Vg h with h|⟨p,hp,h⟩
  ·lia
  ·have:=hm p hp 43 h
   unfold okc at this
   lia
 have n1:43∉jn 46 a++tl 45 m:=fun h=>by
  rcases List.mem_append.mp h with h|h
  ·exact na 43 (.inl rfl) h
  ·unfold tl at h
   split at h
   ·cases h
   ·rcases List.mem_cons.mp h with h|h
    ·lia
    ·exact nm h
 have c1:cut 43 (S (txt a m n))=(S (jn 46 a++tl 45 m),if n=[] then none else some (S (jn 46 n))):=by
  by_cases h:n=[]
  ·subst h
   rw[Atq rfl]
   have e:txt a m []=jn 46 a++tl 45 m:=by unfold txt;rw[Adl,At6]
   rw[e]
   exact Pn n1
  ·rw[Atl h]
   exact Ut (by rw[L_S];unfold txt;rw[show tl 43 n=43::jn 46 n by rw[tl,Atl h]]) n1
 have c2:cut 45 (S (jn 46 a++tl 45 m))=(S (jn 46 a),if m=[] then none else some (S (jn 46 m))):=by
  by_cases h:m=[]
  ·subst h
   rw[Atq rfl,Adl,At6]
   exact Pn (na 45 (.inr rfl))
  ·rw[Atl h]
   exact Ut (by rw[L_S,tl,Atl h]) (na 45 (.inr rfl))
 rw[c1]
 simp only
 rw[c2]
 exact⟨rfl,rfl,trivial⟩
theorem An1 {x:Str}{n:Nat} (h:n<=(L x).length):Txt.slice x none (some (n:Int))=S ((L x).take n):=by
 have e:=StrLaws.sliceText_to (x:=x) (j:=(n:Int)) ⟨by lia,by show (n:Int)<=((L x).length:Int);lia⟩
 have e2:Txt.slice x none (some (n:Int))=StrLaws.sliceText x none (some (n:Int)):=rfl
 rw[e2,e]
 simp[S,L]
theorem Ah5 {x:Str}{n:Nat} (h:n<=(L x).length):Txt.slice x (some (n:Int)) none=S ((L x).drop n):=by
 have e:=StrLaws.sliceText_from (x:=x) (i:=(n:Int)) ⟨by lia,by show (n:Int)<=((L x).length:Int);lia⟩
 have e2:Txt.slice x (some (n:Int)) none=StrLaws.sliceText x (some (n:Int)) none:=rfl
 rw[e2,e]
 apply Nv
 show List.take _ _=List.drop _ _
 rw[Aun]
 ·simp[L]
 ·simp[L]
end ML
end L2
end S_MT3
section S_MP1
namespace L2
namespace ML
open PySem PySem.Spec PyProof.Rows
theorem Da (x:Mk):x.older x=false:=by
 cases h:x.older x with
 |false=>rfl
 |true=>exact (Di h).symm.trans h ▸ rfl
theorem X9:∀ {xs ys:List Mk},Cp xs->Cp ys->(∀ z,z∈xs ↔ z∈ys)->xs=ys
 |[],[],_,_,_=>rfl
 |[],y::ys,_,_,h=>absurd ((h y).mpr (Atk ..)) (by simp)
 |x::xs,[],_,_,h=>absurd ((h x).mp (Atk ..)) (by simp)
 |x::xs,y::ys,hx,hy,h=>by
  obtain⟨x1,x2⟩:=List.pairwise_cons.mp hx
  obtain⟨y1,y2⟩:=List.pairwise_cons.mp hy
  have e:x=y:=by
   rcases List.mem_cons.mp ((h x).mp (Atk ..)) with z|z
   ·exact z
   ·rcases List.mem_cons.mp ((h y).mpr (Atk ..)) with w|w
    ·exact w.symm
    ·have a:=y1 x z
     have b:=Di (x1 y w)
     rw[a] at b;cases b
  subst e
  have t:∀ z,z∈xs ↔ z∈ys:=fun z=>by
   have hz:=h z
   constructor
   ·intro m
    rcases List.mem_cons.mp (hz.mp (Atn _ m)) with w|w
    ·subst w
     have:=x1 z m
     rw[Da] at this;cases this
    ·exact w
   ·intro m
    rcases List.mem_cons.mp (hz.mpr (Atn _ m)) with w|w
    ·subst w
     have:=y1 z m
     rw[Da] at this;cases this
    ·exact w
  rw[X9 x2 y2 t]
def par (z:Mk):List Mk->Bool
 |[]=>false
 |e::r=>(!z.older e)^^par z r
noncomputable def tog (p:Mk->Bool):List Mk->Bool
 |[]=>false
 |e::r=>p e^^tog p r
theorem Yn:∀ {l:List Mk},(∀ x∈l,p x=false)->tog p l=false
 |[],_=>rfl
 |x::l,h=>by rw[tog,h x (Atk ..),Yn fun y hy=>h y (Atn _ hy)];rfl
theorem Cw:∀ {E:List Mk},(∀ e∈E,z.older e=true)->par z E=false
 |[],_=>rfl
 |e::r,h=>by rw[par,h e (Atk ..),Cw fun y hy=>h y (Atn _ hy)];rfl
theorem Acx:∀ {E:List Mk},Cp E->(Ak E).any (inP z)=par z E
 |[],_=>rfl
 |[x],_=>by simp[Ak,par,inP]
 |x::y::r,h=>by
  obtain⟨h1,h2⟩:=List.pairwise_cons.mp h
  obtain⟨h3,h4⟩:=List.pairwise_cons.mp h2
  rw[Ak,Awd,Acx h4,par,par]
  have hxy:=h1 y (Atk ..)
  show ((!z.older x&&z.older y)||par z r)=_
  cases a:z.older x with
  |true =>
   have hy:z.older y=true:=A2 a hxy
   rw[hy,Cw fun e he=>A2 hy (h3 e he)]
   rfl
  |false =>
   cases b:z.older y with
   |true=>rw[Cw fun e he=>A2 b (h3 e he)];rfl
   |false=>cases par z r<;>rfl
theorem Jr {z:Mk}{p:Mk->Bool}:∀ S:List Mk,par z (S.filter p)=tog (fun s=>p s&&!z.older s) S
 |[]=>rfl
 |s::S=>by
  rw[tog,<- Jr S,List.filter_cons]
  cases h:p s with
  |true=>simp[par]
  |false=>simp
noncomputable def Ej:List Pc->List Mk
 |[]=>[]
 |p::r=>p.1::(p.2.toList++Ej r)
theorem D1:∀ E:List Mk,Ej (Ak E)=E
 |[]=>rfl
 |[x]=>rfl
 |x::y::r=>by rw[Ak,Ej,D1 r];rfl
theorem Mk.d_inj {x y:Mk} (h:x.d=y.d):x=y:=by
 have h1:=Mk.deq x y
 rw[h,Mk.deq y y] at h1
 simpa using h1.symm
theorem Mk.py_inj {x y:Mk}:pyD x.d=pyD y.d ↔ x=y:=by
 constructor
 ·intro h
  have h2:=Au5 dOf h
  rw[Uu x.pure,Uu y.pure] at h2
  exact Mk.d_inj h2
 ·rintro rfl;rfl
abbrev TL:=List (Mk×D)
def Iu (L:TL):MObj:=.dct (L.map fun p=>p.1.d) (L.map fun p=>p.2)
noncomputable def Y7 (L:TL) (e:Mk) (v:D):TL:=if e∈L.map (·.1) then L.map fun p=>if p.1=e then (e,v) else p else L++[(e,v)]
theorem Vc (L:TL) (e:Mk):Tb (L.map fun p=>p.1.d) e.d=decide (e∈L.map (·.1)):=by
 unfold Tb
 rw[List.any_map,Bool.eq_iff_iff,List.any_eq_true]
 simp only[Av9,Aux,Mk.py_inj,List.mem_map]
theorem Yd (e:Mk) (v:D):∀ L:TL,Jb (L.map fun p=>p.1.d) (L.map fun p=>p.2) e.d v=L.map fun p=>if p.1=e then v else p.2
 |[]=>rfl
 |p::L=>by
  rw[Atz,Atz,Jb,Yd e v L,Atz]
  simp only[Mk.py_inj]
theorem Ux (L:TL) (e:Mk) (v:D):Apm (Iu L) e.d v=Iu (Y7 L e v):=by
 unfold Apm Iu Y7
 simp only
 rw[Vc]
 by_cases h:e∈L.map (·.1)
 ·rw[Avl h,Atq rfl,Atq h,Yd,Avf,Avf]
  congr 1
  ·refine Avs fun p _=>?_
   simp only[Av9]
   split
   ·rename_i z;rw[z]
   ·rfl
  ·refine Avs fun p _=>?_
   simp only[Av9]
   split<;>rfl
 ·rw[Aus h,Atl At5,Atl h,Auh,Auh]
  rfl
theorem Ey (L:TL) (e:Mk) (v:D):(Y7 L e v).map (·.1)=if e∈L.map (·.1) then L.map (·.1) else L.map (·.1)++[e]:=by
 unfold Y7
 by_cases h:e∈L.map (·.1)
 ·rw[Atq h,Atq h,Avf]
  refine Avs fun p _=>?_
  simp only[Av9]
  split
  ·rename_i z;rw[z]
  ·rfl
 ·rw[Atl h,Atl h,Auh];rfl
theorem P8 {L:TL} (h:(x,w)∈Y7 L e v):(x=e/\w=v)\/(x,w)∈L/\(x=e->e∉L.map (·.1)):=by
 unfold Y7 at h
 by_cases he:e∈L.map (·.1)
 ·rw[Atq he] at h
  obtain⟨p,hp,e2⟩:=List.mem_map.mp h
  by_cases z:p.1=e
  ·rw[Atq z] at e2;cases e2;exact .inl ⟨rfl,rfl⟩
  ·rw[Atl z] at e2;subst e2;exact .inr ⟨hp,fun q=>absurd q z⟩
 ·rw[Atl he] at h
  rcases List.mem_append.mp h with h|h
  ·exact .inr ⟨h,fun _=>he⟩
  ·simp at h;exact .inl h
structure TOk (L:TL) (p q:Mk->Bool) (S:Mk->Prop):Prop where
 nd:(L.map (·.1)).Nodup
 mem:∀ x,x∈L.map (·.1) ↔ S x
 val:∀ x w,(x,w)∈L->w=.tup [.bl (p x),.bl (q x)]
theorem Xw {L:TL}{e:Mk}{v:D} (h:(L.map (·.1)).Nodup):((Y7 L e v).map (·.1)).Nodup:=by
 rw[Ey]
 split
 ·exact h
 ·rename_i z
  rw[List.nodup_append]
  exact⟨h,by simp,fun a ha b hb=>by simp at hb;subst hb;intro q;subst q;exact z ha⟩
theorem Rg {L:TL}{e x:Mk}{v:D}:x∈(Y7 L e v).map (·.1) ↔ x∈L.map (·.1)\/x=e:=by
 rw[Ey]
 split
 ·rename_i z
  exact⟨.inl,fun h=>h.elim id fun q=>q ▸ z⟩
 ·rw[List.mem_append,List.mem_singleton]
theorem Va {e:Mk}{w:D}:∀ {L:TL},(L.map (·.1)).Nodup->(e,w)∈L->Aev (L.map fun p=>p.1.d) (L.map fun p=>p.2) e.d=some w
 |[],_,h=>nomatch h
 |p::L,nd,h=>by
  rw[Atz,List.nodup_cons] at nd
  rw[Atz,Atz,Aev]
  rcases List.mem_cons.mp h with z|z
  ·subst z;rw[Atq rfl]
  ·rw[Atl (fun q=>nd.1 (by rw[Mk.py_inj.mp q];exact Au0 (f:=(·.1)) z)),Va nd.2 z]
theorem TOk.get {L:TL}{S:Mk->Prop} (h:TOk L p q S) (he:S e):Aev (L.map fun p=>p.1.d) (L.map fun p=>p.2) e.d=some (.tup [.bl (p e),.bl (q e)]):=by
 obtain⟨⟨x,w⟩,hp,rfl⟩:=List.mem_map.mp ((h.mem e).mpr he)
 rw[Va h.nd hp,h.val x w hp]
theorem TOk.pure {L:TL}{S:Mk->Prop} (h:TOk L p q S):Au (L.map fun p=>p.2)=true:=by
 rw[Cg]
 intro d hd
 obtain⟨⟨x,w⟩,hp,rfl⟩:=List.mem_map.mp hd
 rw[h.val x w hp]
 simp[A8,Au]
theorem Pp (L:TL):DOk (Iu L) L.length:=⟨_,_,rfl,by simp,by simp⟩
theorem Mark.strs {m:Mark}:(∀ t,m=.s t->PyData.strOk t=true)->kOk (pyD m.d)=true:=fun h=>by
 cases m with
 |n i=>simp[Mark.d,pyD,kOk]
 |s t=>simp[Mark.d,pyD,kOk,h t rfl]
theorem Acj {x:Mk} (h:∀ m∈x.ms,kOk (pyD m.d)=true):Bz x.d=true:=by
 have h1:∀ ms:List Mark,(∀ m∈ms,kOk (pyD m.d)=true)->Jl (Bu (ms.map Mark.d))=true:=fun ms=>by
  induction ms with
  |nil=>intro _;simp[Bu,Jl]
  |cons m ms ih=>intro h;rw[Atz,Bu,Jl,h m (Atk ..),ih fun n hn=>h n (Atn _ hn)];rfl
 have h2:∀ ms:List Mark,Iv (Bu (ms.map Mark.d))=0:=fun ms=>by
  induction ms with
  |nil=>simp[Bu,Iv]
  |cons m ms ih =>
   rw[Atz,Bu,Iv,ih]
   cases m<;>simp[Mark.d,pyD,Tf]
 unfold Mk.d
 unfold Bz
 simp[pyD,Bu,kOk,Jl,h1 x.ms h,Tf,Iv,h2]
theorem G7 (h:Cp (z::r)):par z (z::r)=true:=by
 rw[par,Da,Cw (List.pairwise_cons.mp h).1];rfl
theorem Hy:∀ {R S:List Mk},Cp R->Cp S->(∀ z,z∈R\/z∈S->par z R=par z S)->R=S
 |[],[],_,_,_=>rfl
 |[],s::S,_,hS,h=>by
  have:=h s (.inr (Atk ..))
  rw[G7 hS] at this;cases this
 |r::R,[],hR,_,h=>by
  have:=h r (.inl (Atk ..))
  rw[G7 hR] at this;cases this
 |r::R,s::S,hR,hS,h=>by
  obtain⟨r1,r2⟩:=List.pairwise_cons.mp hR
  obtain⟨s1,s2⟩:=List.pairwise_cons.mp hS
  by_cases e:r=s
  ·subst e
   rw[Hy r2 s2 fun z hz=>by
    have:=h z (hz.imp (Atn _) (Atn _))
    rw[par,par] at this
    cases q:z.older r<;>rw[q] at this<;>simpa using this]
  ·cases q:r.older s with
   |true =>
    have:=h r (.inl (Atk ..))
    rw[G7 hR,Cw fun x hx=>by
     rcases List.mem_cons.mp hx with z|z
     ·rw[z];exact q
     ·exact A2 q (s1 x z)] at this
    cases this
   |false =>
    have q:s.older r=true:=by rw[Dv (fun z=>e z.symm),q];rfl
    have:=h s (.inr (Atk ..))
    rw[G7 hS,Cw fun x hx=>by
     rcases List.mem_cons.mp hx with z|z
     ·rw[z];exact q
     ·exact A2 q (r1 x z)] at this
    cases this
noncomputable def cw (f:Mk->Bool):Bool->List Mk->List Mk
 |_,[]=>[]
 |k,e::r=>if f e != k then e::cw f (!k) r else cw f k r
theorem cw_sub (f:Mk->Bool):∀ (S:List Mk) (k:Bool),(cw f k S).Sublist S
 |[],_=>.slnil
 |e::r,k=>by
  rw[cw]
  split
  ·exact (cw_sub f r _).cons₂ _
  ·exact (cw_sub f r _).cons _
theorem cw_par {f:Mk->Bool}{z:Mk}:∀ {S:List Mk}{k:Bool},Cp S->z∈S->par z (cw f k S)=(k^^f z)
 |[],_,_,h=>nomatch h
 |e::r,k,hS,h=>by
  obtain⟨h1,h2⟩:=List.pairwise_cons.mp hS
  rw[cw]
  by_cases he:z=e
  ·subst he
   have hn:∀ k',par z (cw f k' r)=false:=fun k'=>Cw fun x hx=>h1 x ((cw_sub f r k').subset hx)
   cases q:f z<;>cases k<;>simp[par,hn,Da]
  ·have hz:z∈r:=(List.mem_cons.mp h).resolve_left he
   have ho:=Di (h1 z hz)
   have ih:=fun k'=>cw_par (f:=f) (k:=k') h2 hz
   cases q:f e<;>cases k<;>simp[par,ih,ho]
noncomputable def Gy (keep:Bool->Bool->Bool) (p q:Mk->Bool):Bool->Bool->Bool->List Mk->List Mk
 |_,_,_,[]=>[]
 |a,b,k,e::r=>if keep (a != p e) (b != q e) != k then e::Gy keep p q (a != p e) (b != q e) (!k) r else Gy keep p q (a != p e) (b != q e) k r
theorem De (keep:Bool->Bool->Bool) (p q:Mk->Bool):∀ (S:List Mk) (a b k:Bool),(Gy keep p q a b k S).Sublist S
 |[],_,_,_=>.slnil
 |e::r,a,b,k=>by
  rw[Gy]
  split
  ·exact (De keep p q r _ _ _).cons₂ _
  ·exact (De keep p q r _ _ _).cons _
theorem Ih:∀ {S:List Mk}{a b k:Bool},Cp S->keep a b=k ->
  par z (Gy keep p q a b k S)=(keep (a^^tog (fun s=>p s&&!z.older s) S) (b^^tog (fun s=>q s&&!z.older s) S)^^k)
 |[],a,b,k,_,h=>by rw[Gy,par,tog,tog,Bool.xor_false,Bool.xor_false,h];simp
 |e::r,a,b,k,hS,h=>by
  obtain⟨h1,h2⟩:=List.pairwise_cons.mp hS
  cases ho:z.older e with
  |true =>
   have hall:∀ x∈e::r,z.older x=true:=fun x hx=>by
    rcases List.mem_cons.mp hx with w|w
    ·rw[w];exact ho
    ·exact A2 ho (h1 x w)
   rw[Cw fun x hx=>hall x ((De keep p q (e::r) a b k).subset hx),Yn fun x hx=>by rw[hall x hx];simp,Yn fun x hx=>by rw[hall x hx];simp,Bool.xor_false,Bool.xor_false,h]
   simp
  |false =>
   rw[Gy,tog,tog,ho]
   simp only[Bool.not_false,Bool.and_true]
   have ea:∀ x y t:Bool,(x^^(y^^t))=((x != y)^^t):=by decide
   rw[ea,ea]
   by_cases hk:keep (a != p e) (b != q e)=k
   ·rw[Atl (by simp[hk]),Ih h2 hk]
   ·have hk':keep (a != p e) (b != q e)=!k:=by cases h3:keep (a != p e) (b != q e)<;>cases k<;>simp_all
    rw[Atq (by simpa using hk),par,ho,Ih h2 hk']
    cases k<;>simp
theorem Xj {E S:List Mk} (hE:Cp E) (hS:Cp S) (sub:∀ x∈E,x∈S):par z E=tog (fun s=>decide (s∈E)&&!z.older s) S:=by
 have h1:E=S.filter fun s=>decide (s∈E):=X9 hE (hS.sublist List.filter_sublist) fun z=>by
  rw[List.mem_filter]
  simp only[Aux]
  exact⟨fun h=>⟨sub z h,h⟩,fun h=>h.2⟩
 have h2:=Jr (z:=z) (p:=fun s=>decide (s∈E)) S
 rw[<- h1] at h2
 exact h2
abbrev Ah3:Mk:=⟨0,0,0,[.n 0]⟩
inductive All2 {α β:Type} (P:α->β->Prop):List α->List β->Prop
 |nil:All2 P [] []
 |cons {a:α}{b:β}{as:List α}{bs:List β}:P a b->All2 P as bs->All2 P (a::as) (b::bs)
theorem All2.map_left:∀ {as:List α}{cs:List γ},All2 (fun a c=>P (f a) c) as cs->All2 P (as.map f) cs
 |_,_,.nil=>.nil
 |_,_,.cons h t=>.cons h t.map_left
theorem All2.out {α β γ:Type}{P:α->γ->Prop}{f:γ->β}:∀ {as:List α}{bs:List β},All2 (fun a b=>∃ c,b=f c/\P a c) as bs->∃ cs:List γ,bs=cs.map f/\All2 P as cs
 |_,_,.nil=>⟨[],rfl,.nil⟩
 |_,_,.cons ⟨c,e,h⟩ t=>by
  obtain⟨cs,e2,h2⟩:=t.out
  exact⟨c::cs,by rw[e,e2];rfl,.cons h h2⟩
theorem All2.length:∀ {as:List α}{bs:List β},All2 P as bs->as.length=bs.length
 |_,_,.nil=>rfl
 |_,_,.cons _ t=>by rw[Atw,Atw,t.length]
noncomputable def prs {α:Type}:List α->List (α×α)
 |a::b::r=>(a,b)::prs r
 |_=>[]
noncomputable def lft {α:Type}:List α->List α
 |_::_::r=>lft r
 |r=>r
theorem Aga:∀ l:List α,(prs l).length=l.length / 2
 |[]=>by simp[prs]
 |[_]=>by simp[prs]
 |_::_::r=>by rw[prs,Atw,Aga r,Atw,Atw];lia
theorem Akf:∀ l:List α,lft l=l.drop (2 * (l.length / 2))
 |[]=>by simp[lft]
 |[_]=>by simp[lft]
 |a::b::r=>by
  rw[lft,Akf r,Atw,Atw,show 2 * ((r.length+1+1) / 2)=2 * (r.length / 2)+2 by lia]
  rfl
theorem Af9:∀ (l:List α) (q:Nat) (h:2 * q+1 < l.length),(prs l)[q]?=some (l[2 * q]'(by lia),l[2 * q+1])
 |[],q,h=>absurd h (by simp)
 |[_],q,h=>absurd h (by simp)
 |a::b::r,0,h=>rfl
 |a::b::r,q+1,h=>by
  have h':2 * q+1 < r.length:=by simp at h;lia
  rw[prs,Avb,Af9 r q h']
  simp[show 2 * (q+1)=2 * q+1+1 by lia]
structure Spn (R:List Mk):Prop where
 rise:Cp R
 key:∀ x∈R,Bz x.d=true/\x.ms.length<=1000
structure Two (keep:Bool->Bool->Bool) (E F R:List Mk):Prop where
 ok:Spn R
 mem:∀ x∈R,x∈E\/x∈F
 len:R.length<=E.length+F.length
 par:∀ z,ML.par z R=keep (ML.par z E) (ML.par z F)
noncomputable def tot (Rs:List (List Mk)):Nat:=(Rs.map List.length).sum
theorem Lz (R:List Mk) (Rs:List (List Mk)):tot (R::Rs)=R.length+tot Rs:=by simp[tot]
noncomputable def Anp (keep:Bool->Bool->Bool) (e:Bool) (l:List Bool):Bool:=l.foldr keep e
structure Rnd (keep:Bool->Bool->Bool) (e:Bool) (Rs Ts:List (List Mk)):Prop where
 ok:∀ T∈Ts,Spn T
 mem:∀ T∈Ts,∀ x∈T,∃ R∈Rs,x∈R
 len:tot Ts<=tot Rs
 par:∀ z,Anp keep e (Ts.map (ML.par z))=Anp keep e (Rs.map (ML.par z))
 ne:Rs≠[]->Ts≠[]
theorem Amu {keep:Bool->Bool->Bool}{e:Bool} (as:∀ a b c,keep (keep a b) c=keep a (keep b c)):∀ {Rs Ss:List (List Mk)},(∀ R∈Rs,Spn R)->All2 (fun p S=>Two keep p.1 p.2 S) (prs Rs) Ss->Rnd keep e Rs (Ss++lft Rs)
 |[],Ss,h,a=>by
  cases a
  exact⟨(fun T hT=>nomatch hT),(fun T hT=>nomatch hT),Atp _,fun z=>rfl,fun z=>absurd rfl z⟩
 |[R],Ss,h,a=>by
  cases a
  exact⟨h,fun T hT x hx=>⟨T,hT,hx⟩,Atp _,fun z=>rfl,fun z=>z⟩
 |A::B::Rs,Ss,h,a=>by
  cases a with
  |@cons _ S _ Ss p q =>
   obtain⟨i1,i2,i3,i4,i5⟩:=Amu as (fun R hR=>h R (by simp[hR])) q
   refine⟨fun T hT=>?_,fun T hT x hx=>?_,?_,fun z=>?_,fun _ z=>by cases z⟩
   ·rcases List.mem_cons.mp hT with rfl|hT
    ·exact p.ok
    ·exact i1 T hT
   ·rcases List.mem_cons.mp hT with rfl|hT
    ·rcases p.mem x hx with w|w
     ·exact⟨A,by simp,w⟩
     ·exact⟨B,by simp,w⟩
    ·obtain⟨R,hR,hx⟩:=i2 T hT x hx
     exact⟨R,by simp[hR],hx⟩
   ·have:S.length<=A.length+B.length:=p.len
    show tot (S::(Ss++lft Rs))<=tot (A::B::Rs)
    rw[Lz,Lz,Lz]
    lia
   ·have:=i4 z
    show keep (ML.par z S) (Anp keep e ((Ss++lft Rs).map (ML.par z)))=keep (ML.par z A) (keep (ML.par z B) (Anp keep e (Rs.map (ML.par z))))
    rw[this,p.par z,as]
theorem Rnd.refl (h:∀ R∈Rs,Spn R):Rnd keep e Rs Rs:=⟨h,fun T hT x hx=>⟨T,hT,hx⟩,Atp _,fun _=>rfl,fun z=>z⟩
theorem Rnd.trans (h1:Rnd keep e A B) (h2:Rnd keep e B C):Rnd keep e A C :=
 ⟨h2.ok,fun T hT x hx=>by
  obtain⟨R,hR,hx⟩:=h2.mem T hT x hx
  exact h1.mem R hR x hx,Auf h2.len h1.len,fun z=>(h2.par z).trans (h1.par z),fun z=>h2.ne (h1.ne z)⟩
end ML
end L2
end S_MP1
section S_K09a
namespace K09a
open PySem L2 L2.ML
noncomputable section
noncomputable def top (i:Nat):Stmt:=PySem.Challenge.pw_stretchbook_k09_spans_met_joined_taken.main.body.getD i (.Pass ⟨0,0,0,0⟩)
abbrev Am8:Stmt:=top 1
abbrev Adk:Stmt:=top 2
abbrev Am9:Stmt:=top 4
abbrev Anc:Stmt:=top 5
abbrev Ana:Stmt:=top 6
abbrev Anb:Stmt:=top 7
abbrev Jw:Stmt:=top 8
abbrev Tv:Stmt:=top 9
abbrev Jx:Stmt:=top 10
abbrev Ade:Stmt:=top 12
abbrev Adf:Stmt:=top 13
abbrev Adg:Stmt:=top 14
abbrev Adh:Stmt:=top 15
abbrev Am6:Stmt:=top 16
abbrev Ada:Stmt:=top 17
abbrev Ane:Stmt:=top 18
abbrev Adb:Stmt:=top 19
abbrev Anf:Stmt:=top 20
abbrev Ac9:Stmt:=top 21
abbrev Adc:Stmt:=top 22
abbrev Adi:Stmt:=top 23
abbrev Adj:Stmt:=top 24
abbrev Am7:Stmt:=top 25
abbrev Nj:Stmt:=top 26
def lam_met:Lam:=Ae2 "met.<locals>.<lambda>" Jw
def Acd:FE:=(Es (Ad 0) (Ad 1))
def Hd:List D->Option D:=fnE Acd
def lam_z9:Lam:=Ae2 "joined.<locals>.<lambda>" Tv
def Aj4:FE:=(Aef (Ad 0) (Ad 1))
def Mo:List D->Option D:=fnE Aj4
def lam_z20:Lam:=Ae2 "less.<locals>.<lambda>" Jx
def Ace:FE:=(Es (Ad 0) (Mn (Ad 1)))
def He:List D->Option D:=fnE Ace
def P6:List (Lam×(List D->Option D)):=[(lam_met,Hd),(lam_z9,Mo),(lam_z20,He)]
def Apr:FS:=(Bd (sIf (T9 (Y5 "str" (Ad 0))) (Dm (Cq (Aa (fC (.int 1)) (Aa (fC (.int 0)) (Aa (Ad 0) Aj))))) Gs) (Dm (Cq (Aa (fC (.int 0)) (Aa (Ad 0) (Aa (fC (.str (Str.ofString ""))) Aj))))))
def U6:List D->Option D:=Ef 1 Apr
def Aeu:FS:=(Bd (Bs 1 (fVI 0 3)) (Bd (Bs 2 (fIf (T9 (Ad 1)) (fC (.int 0)) (fC (.int 1)))) (Dm (Cq (Aa (fVI 0 0) (Aa (fVI 0 1) (Aa (fVI 0 2) (Aa (Ad 2) (Aa (Ay Ex (Aa (Ec (B9 [] 1 (Nt (Ad 1)) (Ar 0) L6 (fC1 U6 (Ad 0)))) Aj)) Aj)))))))))
def Jj:List D->Option D:=Ef 3 Aeu
def Aps:FS:=(Bd (Ip 1 (Bt Aj)) (Bd (Nf (Nt (Ad 0)) (Im 2 (B2 (Ar 2) (B2 (Ar 3) Po))) (Bd (L7 Nr (Ad 1) (Aa (Ad 2) Aj)) (sIf (Be (f1 Iz (Ad 3))) (L7 Nr (Ad 1) (Aa (Ad 3) Aj)) Gs))) (Dm (Ad 1))))
def R5:List D->Option D:=Ef 4 Aps
def Apv:FS:=(Bd (Bs 1 (Ec (Ahz (Ad 0) (Ec (Bt (Aa (fC .non) Aj)))))) (Dm (Ay Ex (Aa (Ec (B9 [0,1] 1 (Yy (Aa (fC (.int 0)) (Aa (Ay Gv (Aa (Ad 0) Aj)) (Aa (fC (.int 2)) Aj)))) (Ar 2) L6 (Cq (Aa (f2 oIx (Ad 0) (Ad 2)) (Aa (f2 oIx (Ad 1) (f2 C5 (Ad 2) (fC (.int 1)))) Aj))))) Aj))))
def U8:List D->Option D:=Ef 2 Apv
def Apt:FS:=(Bd (Abh 2) (Bd (Nf (Nt (Ec (fF1 R5 (Ad 0)))) (Ar 3) (Tr (Cq (Aa (fC (.bl true)) (Aa (fC (.bl false)) Aj))) (Ad 2) (Ad 3))) (Bd (Nf (Nt (Ec (fF1 R5 (Ad 1)))) (Ar 3) (Tr (Cq (Aa (f2 Akv (Ad 3) (Ad 2)) (Aa (fC (.bl true)) Aj))) (Ad 2) (Ad 3))) (Dm (Ad 2)))))
def U7:List D->Option D:=Ef 4 Apt
def Apu:FS:=(Bd (Bs 3 (fC2 U7 (Ad 0) (Ad 1))) (Bd (Bs 4 (fC (.bl false))) (Bd (Bs 5 (fC (.bl false))) (Bd (Bs 6 (fC (.bl false))) (Bd (Ip 7 (Bt Aj)) (Bd (Nf (Nt (Ec (Eb (Jp Jj) (Aa (Ad 3) Aj)))) (Ar 8) (Bd (Bs 4 (f2 oNe (Ad 4) (f2 oIx (f2 Afh (Ad 3) (Ad 8)) (fC (.int 0))))) (Bd (Bs 5 (f2 oNe (Ad 5) (f2 oIx (f2 Afh (Ad 3) (Ad 8)) (fC (.int 1))))) (sIf (Be (f2 oNe (Mm P6 2 (Ad 2) (Aa (Ad 4) (Aa (Ad 5) Aj))) (Ad 6))) (Bd (Bs 6 (Mn (Ad 6))) (L7 Nr (Ad 7) (Aa (Ad 8) Aj))) Gs)))) (Dm (fC1 U8 (Ad 7)))))))))
def Mt:List D->Option D:=Ef 9 Apu
def R9:FS:=(Dm (Ay (Ep 3 Mt) (Aa (Ad 0) (Aa (Ad 1) (Aa (fC (.fn 0 lam_met)) Aj)))))
def Jh:List D->Option D:=Ef 2 R9
def Ah0:FS:=(Dm (Ay (Ep 3 Mt) (Aa (Ad 0) (Aa (Ad 1) (Aa (fC (.fn 1 lam_z9)) Aj)))))
def R7:List D->Option D:=Ef 2 Ah0
def Ta:FS:=(Dm (Ay (Ep 3 Mt) (Aa (Ad 0) (Aa (Ad 1) (Aa (fC (.fn 2 lam_z20)) Aj)))))
def Ms:List D->Option D:=Ef 2 Ta
def Aeo:FS:=(Bd (Bs 3 (fC (.int 0))) (Bd (Bs 4 (fC (.int 0))) (Bd (sIf (Be (f2 oGt (Ay Gv (Aa (Ad 0) Aj)) (fC (.int 0)))) (Bd (Bs 3 (f2 oIx (Ad 0) (f2 M4 (Ad 1) (Ay Gv (Aa (Ad 0) Aj))))) (Bs 4 (f2 M4 (f2 Afg (Ad 1) (Ay Gv (Aa (Ad 0) Aj))) (fC (.int 40))))) Gs) (Bd (sIf (Be (f2 oEq (f2 M4 (Ad 3) (fC (.int 2))) (fC (.int 1)))) (Dm (f2 M4 (f2 Anz (Ad 3) (f2 C5 (fC (.int 1)) (f2 Y6 (fC (.int 6)) (Ad 4)))) (Ad 2))) Gs) (Bd (Bs 5 (f2 M4 (f2 Y6 (f2 C5 (f2 M4 (Ad 3) (fC (.int 2147483629))) (fC (.int 1))) (f2 C5 (f2 Y6 (f2 Y6 (fC (.int 31)) (Ad 1)) (Ad 1)) (fC (.int 7919)))) (fC (.int 2147483647)))) (Dm (f2 M4 (f2 Afg (f2 M4 (f2 C5 (f2 Y6 (Ad 5) (f2 C5 (f2 M4 (Ad 5) (fC (.int 65521))) (fC (.int 48271)))) (Ad 1)) (fC (.int 2147483629))) (fC (.int 7))) (Ad 2))))))))
def Bw:List D->Option D:=Ef 6 Aeo
def Aep:FS:=(Bd (Bs 2 (Ec (Bt (Aa (fC (.int 0)) (Aa (fC (.int 1)) (Aa (fC (.str (Str.ofString "a"))) (Aa (fC (.str (Str.ofString "ab"))) (Aa (fC (.str (Str.ofString "b"))) (Aa (fC (.int 2)) (Aa (fC (.int 10)) (Aa (fC (.str (Str.ofString "zzzzzzzz"))) (Aa (fC (.str (Str.ofString "abc"))) (Aa (f2 Akw (f2 Ah2 (fC (.int 10)) (fC (.int 12))) (fC (.int 1))) (Aa (fC (.str (Str.ofString "ba"))) Aj)))))))))))))) (Dm (f2 oIx (Ad 2) (fC3 Bw (Ad 0) (Ad 1) (fC (.int 11))))))
def Hi:List D->Option D:=Ef 3 Aep
def Aeq:FS:=(Bd (Ip 2 (B9 [0,1] 1 (Gx (Aa (fC (.int 3)) Aj)) (Ar 2) L6 (fC3 Bw (Ad 0) (f2 C5 (Ad 1) (Ad 2)) (fC (.int 3))))) (Bd (sIf (Be (f2 oEq (fC3 Bw (Ad 0) (f2 C5 (Ad 1) (fC (.int 3))) (fC (.int 9))) (fC (.int 8)))) (Ng (f2 oIx (Ec (Bt (Aa (fC (.int 9)) (Aa (fC (.int 10)) (Aa (f2 Akw (f2 Ah2 (fC (.int 10)) (fC (.int 12))) (fC (.int 1))) Aj))))) (fC3 Bw (Ad 0) (f2 C5 (Ad 1) (fC (.int 5))) (fC (.int 3)))) (Ad 2) (fC3 Bw (Ad 0) (f2 C5 (Ad 1) (fC (.int 4))) (fC (.int 3)))) Gs) (Bd (Bs 3 (f2 oIx (Ec (Bt (Aa (fC (.int 0)) (Aa (fC (.int 0)) (Aa (fC (.int 1)) (Aa (fC (.int 1)) (Aa (fC (.int 2)) (Aa (fC (.int 3)) (Aa (fC (.int 8)) Aj))))))))) (fC3 Bw (Ad 0) (f2 C5 (Ad 1) (fC (.int 4))) (fC (.int 7))))) (Dm (f2 C5 (Ay Ex (Aa (Ad 2) Aj)) (Cq (Aa (Ay Ex (Aa (Ec (B9 [0,1] 1 (Gx (Aa (Ad 3) Aj)) (Ar 2) L6 (fC2 Hi (Ad 0) (f2 C5 (f2 C5 (Ad 1) (fC (.int 6))) (Ad 2))))) Aj)) Aj)))))))
def Hj:List D->Option D:=Ef 4 Aeq
def H9:FS:=(Bd (Bs 8 (f2 oIx (Ad 7) (fC3 Bw (Ad 0) (Ad 1) (Ay Gv (Aa (Ad 7) Aj))))) (Bd (sIf (U1 (Be (f2 oLt (Ay Tn (Aa (fSl (Ad 8) fNo (Od (fC (.int 3)))) Aj)) (f2 Ah2 (fC (.int 10)) (fC (.int 12))))) (Be (f2 oGt (fC3 Bw (Ad 0) (f2 C5 (Ad 1) (fC (.int 2))) (fC (.int 4))) (fC (.int 0))))) (Dm (Ad 8)) Gs) (Dm (fC2 Hj (Ad 0) (f2 C5 (Ad 1) (fC (.int 2)))))))
def Aer:FS:=(Bd (Amx (Ad 2) (Im 4 (B2 (Ar 3) (B2 (Ar 4) (B2 (Ar 5) (B2 (Ar 6) Po)))))) (Bd (Ip 7 (Bt (Aa (Ad 2) (Aa (Cq (Aa (Ad 3) (Aa (Ad 4) (Aa (Ad 5) (Aa (Cq Aj) Aj))))) (Aa (Cq (Aa (Ad 3) (Aa (Ad 4) (Aa (Ad 5) (Aa (fSl (Ad 6) fNo (Od (f1 Anx (fC (.int 1))))) Aj))))) (Aa (Cq (Aa (Ad 3) (Aa (Ad 4) (Aa (f2 C5 (Ad 5) (fC (.int 1))) (Aa (Cq (Aa (fC (.int 0)) Aj)) Aj))))) Aj)))))) (Bd (Ip 7 (Ahz (Ad 7) (Ec (Bt (Aa (Cq (Aa (Ad 3) (Aa (f2 C5 (Ad 4) (fC (.int 1))) (Aa (fC (.int 0)) (Aa (Cq (Aa (fC (.int 0)) Aj)) Aj))))) (Aa (Cq (Aa (f2 C5 (Ad 3) (fC (.int 1))) (Aa (fC (.int 0)) (Aa (fC (.int 0)) (Aa (Cq (Aa (fC (.int 0)) Aj)) Aj))))) (Aa (Cq (Aa (Ad 3) (Aa (Ad 4) (Aa (fC (.int 0)) (Aa (Cq Aj) Aj))))) (Aa (Cq (Aa (fC (.int 0)) (Aa (fC (.int 0)) (Aa (fC (.int 0)) (Aa (Cq (Aa (fC (.int 0)) Aj)) Aj))))) Aj)))))))) (Bd (sIf (Be (f2 oLt (Ay Gv (Aa (Ad 6) Aj)) (fC (.int 8)))) (Bd (L7 Nr (Ad 7) (Aa (Cq (Aa (Ad 3) (Aa (Ad 4) (Aa (Ad 5) (Aa (f2 C5 (Ad 6) (Cq (Aa (fC2 Hi (Ad 0) (f2 C5 (Ad 1) (fC (.int 1)))) Aj))) Aj))))) Aj)) (L7 Nr (Ad 7) (Aa (Cq (Aa (Ad 3) (Aa (Ad 4) (Aa (Ad 5) (Aa (f2 C5 (Ad 6) (Cq (Aa (fC (.int 0)) Aj))) Aj))))) Aj))) Gs) (Bd (sIf (Be (f2 oGt (Ay Gv (Aa (Ad 6) Aj)) (fC (.int 0)))) (L7 Nr (Ad 7) (Aa (Cq (Aa (Ad 3) (Aa (Ad 4) (Aa (Ad 5) (Aa (f2 C5 (fSl (Ad 6) fNo (Od (f1 Anx (fC (.int 1))))) (Cq (Aa (fC2 Hi (Ad 0) (f2 C5 (Ad 1) (fC (.int 1)))) Aj))) Aj))))) Aj)) Gs) H9)))))
def Mq:List D->Option D:=Ef 9 Aer
def App:FS:=(Bd (sIf (Be (f2 oNe (Y5 "str" (Ad 0)) (Y5 "str" (Ad 1)))) (Dm (Y5 "str" (Ad 1))) Gs) (Dm (f2 oLt (Ad 0) (Ad 1))))
def U4:List D->Option D:=Ef 2 App
def Ael:FS:=(Bd (Nf (Gx (Aa (fC (.int 3)) Aj)) (Ar 2) (sIf (Be (f2 oNe (f2 oIx (Ad 0) (Ad 2)) (f2 oIx (Ad 1) (Ad 2)))) (Dm (f2 oLt (f2 oIx (Ad 0) (Ad 2)) (f2 oIx (Ad 1) (Ad 2)))) Gs)) (Bd (sIf (fOr (Be (f2 oEq (fVI 0 3) (Cq Aj))) (Be (f2 oEq (fVI 1 3) (Cq Aj)))) (Dm (Es (f2 oNe (fVI 0 3) (Cq Aj)) (f2 oEq (fVI 1 3) (Cq Aj)))) Gs) (Bd (Nf (Gx (Aa (Ay Aag (Aa (Ay Gv (Aa (fVI 0 3) Aj)) (Aa (Ay Gv (Aa (fVI 1 3) Aj)) Aj))) Aj)) (Ar 2) (sIf (Be (f2 oNe (f2 oIx (fVI 0 3) (Ad 2)) (f2 oIx (fVI 1 3) (Ad 2)))) (Dm (fC2 U4 (f2 oIx (fVI 0 3) (Ad 2)) (f2 oIx (fVI 1 3) (Ad 2)))) Gs)) (Dm (f2 oLt (Ay Gv (Aa (fVI 0 3) Aj)) (Ay Gv (Aa (fVI 1 3) Aj)))))))
def Hg:List D->Option D:=Ef 3 Ael
def Apw:FS:=(Bd (Ip 1 (Bt Aj)) (Bd (Nf (Nt (Ad 0)) (Ar 2) (Bd (Bs 3 (fC (.int 0))) (Bd (Eh (U1 (Be (f2 oLt (Ad 3) (Ay Gv (Aa (Ad 1) Aj)))) (T9 (fC2 Hg (f2 oIx (Ad 1) (Ad 3)) (Ad 2)))) (Bs 3 (f2 C5 (Ad 3) (fC (.int 1)))) 1000) (sIf (fOr (Be (f2 oEq (Ad 3) (Ay Gv (Aa (Ad 1) Aj)))) (Be (f2 oNe (f2 oIx (Ad 1) (Ad 3)) (Ad 2)))) (L7 Hr (Ad 1) (Aa (Ad 3) (Aa (Ad 2) Aj))) Gs)))) (Dm (Ad 1))))
def R6:List D->Option D:=Ef 4 Apw
def Aem:FS:=(Bd (Ip 3 (Bt Aj)) (Bd (Nf (Gx (Aa (Ad 2) Aj)) (Ar 4) (Bd (Bs 5 (fC2 Hj (Ad 0) (f2 C5 (f2 C5 (Ad 1) (fC (.int 12))) (f2 Y6 (fC (.int 20)) (Ad 4))))) (Bd (sIf (U1 (Be (f2 oGt (Ad 4) (fC (.int 0)))) (Be (f2 oGt (fC3 Bw (Ad 0) (f2 C5 (Ad 1) (f2 M4 (Ad 4) (fC (.int 6)))) (fC (.int 4))) (fC (.int 0))))) (Bs 5 (fC3 Mq (Ad 0) (f2 C5 (f2 C5 (Ad 1) (fC (.int 12))) (f2 Y6 (fC (.int 20)) (Ad 4))) (f2 oIx (Ad 3) (fC3 Bw (Ad 0) (f2 C5 (f2 C5 (Ad 1) (fC (.int 6))) (f2 M4 (Ad 4) (fC (.int 6)))) (Ad 4))))) Gs) (L7 Nr (Ad 3) (Aa (Ad 5) Aj))))) (Dm (Ad 3))))
def Mp:List D->Option D:=Ef 6 Aem
def Apx:FS:=(Bd (Ip 1 (Bt Aj)) (Bd (Nf (Yy (Aa (fC (.int 0)) (Aa (Ay Gv (Aa (Ad 0) Aj)) (Aa (fC (.int 2)) Aj)))) (Ar 2) (Bd (Bs 3 (fC .non)) (Bd (sIf (Be (f2 oLt (f2 C5 (Ad 2) (fC (.int 1))) (Ay Gv (Aa (Ad 0) Aj)))) (Bs 3 (f2 oIx (Ad 0) (f2 C5 (Ad 2) (fC (.int 1))))) Gs) (L7 Nr (Ad 1) (Aa (Cq (Aa (f2 oIx (Ad 0) (Ad 2)) (Aa (Ad 3) Aj))) Aj))))) (Dm (Ay Ex (Aa (Ad 1) Aj)))))
def U9:List D->Option D:=Ef 4 Apx
def Aej:FS:=(Bd (Nf (Nt (Ad 1)) (Im 2 (B2 (Ar 2) (B2 (Ar 3) Po))) (sIf (U1 (Aee (T9 (fC2 Hg (Ad 0) (Ad 2)))) (fOr (Be (f1 Acn (Ad 3))) (T9 (fC2 Hg (Ad 0) (Ad 3))))) (Dm (fC (.bl true))) Gs)) (Dm (fC (.bl false))))
def Hf:List D->Option D:=Ef 4 Aej
def Aen:FS:=(Bd (Ip 2 (Bt Aj)) (Bd (Bs 3 (fC .non)) (Bd (Nf (Ah8 (Aa (Ad 0) (Aa (Ad 1) Aj))) (Im 2 (B2 (Ar 4) (B2 (Ar 5) Po))) (Bd (sIf (U1 (T9 (Ad 5)) (Be (f1 Acn (Ad 3)))) (Bs 3 (Ad 4)) Gs) (sIf (U1 (Aee (T9 (Ad 5))) (Be (f1 Iz (Ad 3)))) (Bd (L7 Nr (Ad 2) (Aa (Cq (Aa (Ad 3) (Aa (Ad 4) Aj))) Aj)) (Bs 3 (fC .non))) Gs))) (Bd (sIf (Be (f1 Iz (Ad 3))) (L7 Nr (Ad 2) (Aa (Cq (Aa (Ad 3) (Aa (fC .non) Aj))) Aj)) Gs) (Dm (Ay Ex (Aa (Ad 2) Aj)))))))
def Hh:List D->Option D:=Ef 6 Aen
def Aes:FS:=(Bd (Ip 1 (Bt (Aa (Cq (Aa (fC (.int 0)) (Aa (fC (.int 0)) (Aa (fC (.int 0)) (Aa (Cq (Aa (fC (.int 0)) Aj)) Aj))))) Aj))) (Bd (Nf (Nt (Ad 0)) (Ar 2) (Nf (Nt (Ad 2)) (Im 2 (B2 (Ar 3) (B2 (Ar 4) Po))) (Bd (L7 Nr (Ad 1) (Aa (Ad 3) Aj)) (sIf (Be (f1 Iz (Ad 4))) (L7 Nr (Ad 1) (Aa (Ad 4) Aj)) Gs)))) (Yb (fF1 R6 (Ad 1)))))
def Mr:List D->Option D:=Ef 5 Aes
def Aet:FS:=(Dm (fC1 U9 (Ec (fF1 R6 (Ec (B9 [0,1] 2 (Ci (Aa (Ad 2) Aj)) (Im 2 (B2 (Ar 2) (B2 (Ar 3) Po))) (Be (f2 oEq (fC3 Bw (Ad 0) (f2 C5 (Ad 1) (Ad 2)) (fC (.int 2))) (fC (.int 0)))) (Ad 3)))))))
def Ji:List D->Option D:=Ef 3 Aet
def Apq:FS:=(Dm (Es (Y5 "tuple" (Ad 0)) (Ay Aks (Aa (Ec (B9 [] 1 (Nt (Ad 0)) (Ar 0) L6 (Es (Y5 "tuple" (Ad 0)) (f2 oEq (Ay Gv (Aa (Ad 0) Aj)) (fC (.int 2)))))) Aj))))
def U5:List D->Option D:=Ef 1 Apq
def Pd:FS:=(Bd (Bs 3 (fC3 Ji (Ad 0) (fC (.int 300)) (Ad 1))) (Bd (Bs 4 (fC3 Ji (Ad 0) (fC (.int 400)) (Ad 1))) (Bd (Bs 5 (Ec (fF1 Mr (Ec (Bt (Aa (Ad 3) (Aa (Ad 4) Aj))))))) (Bd (Bs 6 (Ec (B9 [3] 1 (Nt (Ad 5)) (Ar 1) L6 (fC2 Hf (Ad 1) (Ad 0))))) (Bd (Bs 7 (Ec (B9 [4] 1 (Nt (Ad 5)) (Ar 1) L6 (fC2 Hf (Ad 1) (Ad 0))))) (Bd (Bs 8 (fC2 Hh (Ad 5) (Ec (B9 [6,7] 1 (Gx (Aa (Ay Gv (Aa (Ad 5) Aj)) Aj)) (Ar 2) L6 (Es (f2 oIx (Ad 0) (Ad 2)) (f2 oIx (Ad 1) (Ad 2))))))) (Bd (Bs 9 (fC2 Hh (Ad 5) (Ec (B9 [6,7] 1 (Gx (Aa (Ay Gv (Aa (Ad 5) Aj)) Aj)) (Ar 2) L6 (Aef (f2 oIx (Ad 0) (Ad 2)) (f2 oIx (Ad 1) (Ad 2))))))) (Bd (Bs 10 (fC2 Hh (Ad 5) (Ec (B9 [6,7] 1 (Gx (Aa (Ay Gv (Aa (Ad 5) Aj)) Aj)) (Ar 2) L6 (Es (f2 oIx (Ad 0) (Ad 2)) (Mn (f2 oIx (Ad 1) (Ad 2)))))))) (Bd (Nf (Nt (Ec (Bt (Aa (Cq (Aa (fC2 Jh (Ad 3) (Ad 4)) (Aa (Ad 8) Aj))) (Aa (Cq (Aa (fC2 R7 (Ad 3) (Ad 4)) (Aa (Ad 9) Aj))) (Aa (Cq (Aa (fC2 Ms (Ad 3) (Ad 4)) (Aa (Ad 10) Aj))) Aj)))))) (Im 2 (B2 (Ar 11) (B2 (Ar 12) Po))) (sIf (fOr (Aee (T9 (fC1 U5 (Ad 11)))) (Be (f2 oNe (Ad 11) (Ad 12)))) (Dm (fC (.bl false))) Gs)) (Dm (Es (f2 oEq (fC2 Jh (Ad 4) (Ad 3)) (Ad 8)) (f2 oEq (fC2 R7 (Ad 4) (Ad 3)) (Ad 9)))))))))))))
def Aek:FS:=(Bd (Bs 1 (Ec (fF3 Mp (Ad 0) (fC (.int 10)) (f2 C5 (fC (.int 1)) (fC3 Bw (Ad 0) (fC (.int 0)) (fC (.int 10))))))) (Bd (sIf (Be (f2 oEq (fC3 Bw (Ad 0) (fC (.int 2)) (fC (.int 8))) (fC (.int 5)))) (Bd (Bs 2 (f2 C5 (fC (.int 30)) (fC3 Bw (Ad 0) (fC (.int 3)) (fC (.int 51))))) (Bs 1 (Ec (B9 [] 1 (Gx (Aa (Ad 2) Aj)) (Ar 0) L6 (Cq (Aa (f2 Afg (Ad 0) (fC (.int 7))) (Aa (f2 Afg (f2 M4 (Ad 0) (fC (.int 7))) (fC (.int 2))) (Aa (f2 M4 (Ad 0) (fC (.int 2))) (Aa (f2 oIx (Ec (Bt (Aa (Cq Aj) (Aa (Cq (Aa (fC (.int 0)) Aj)) (Aa (Cq (Aa (fC (.str (Str.ofString "a"))) (Aa (fC (.int 1)) Aj))) Aj))))) (f2 M4 (Ad 0) (fC (.int 3)))) Aj))))))))) Gs) Pd))
def Jg:List D->Option D:=Ef 13 Aek
theorem sc_law:FnScope ["_law_script","_law_makes_here","_law_many","_law_one","_law_other","_law_ends_here","_law_left","_law_right","_law_both","_law_either","_law_alone","_law_found","_law_due"] ["_law_script"] (Am Nj):=⟨rfl,rfl,rfl,by decide +kernel,rfl,by decide +kernel,by decide +kernel⟩
theorem Ag6:FnScope ["first","second"] ["first","second"] lam_met.scope:=⟨rfl,rfl,rfl,by decide +kernel,rfl,by decide +kernel,by decide +kernel⟩
theorem Amz:FnScope ["first","second"] ["first","second"] lam_z9.scope:=⟨rfl,rfl,rfl,by decide +kernel,rfl,by decide +kernel,by decide +kernel⟩
theorem Ag7:FnScope ["first","second"] ["first","second"] lam_z20.scope:=⟨rfl,rfl,rfl,by decide +kernel,rfl,by decide +kernel,by decide +kernel⟩
abbrev tabs (p_met p_z9 p_z20:Addr):List (Addr×Str):=[(p_met,lam_met.qual),(p_z9,lam_z9.qual),(p_z20,lam_z20.qual)]
theorem Ae9 {p_met p_z9 p_z20:Addr}:(p_met,lam_met.qual)∈tabs p_met p_z9 p_z20:=by simp
theorem Akk {p_met p_z9 p_z20:Addr}:(p_z9,lam_z9.qual)∈tabs p_met p_z9 p_z20:=by simp
theorem Afa {p_met p_z9 p_z20:Addr}:(p_z20,lam_z20.qual)∈tabs p_met p_z9 p_z20:=by simp
structure Blt (mg:Str->Option Value):Prop where
 b_all:mg "all"=none
 b_enumerate:mg "enumerate"=none
 b_isinstance:mg "isinstance"=none
 b_len:mg "len"=none
 b_max:mg "max"=none
 b_min:mg "min"=none
 b_range:mg "range"=none
 b_sorted:mg "sorted"=none
 b_str:mg "str"=none
 b_tuple:mg "tuple"=none
 b_zip:mg "zip"=none
structure Txt (K:W.Frag) (mg:Str->Option Value) (p_met p_z9 p_z20:Addr):Prop where
 h_z2:FD K mg "mark_rank" Am8 ["mark"]
 h_z19:FD K mg "rank" Adk ["make"]
 h_z3:FD K mg "edges_of" Am9 ["span"]
 h_z6:FD K mg "span_of" Anc ["edges"]
 h_z4:FD K mg "turns_of" Ana ["one","other"]
 h_z5:FD K mg "combined" Anb ["one","other","keep"]
 h_met:FDL K mg "met" Jw ["one","other"] p_met
 h_z9:FDL K mg "joined" Tv ["one","other"] p_z9
 h_z20:FDL K mg "less" Jx ["one","other"] p_z20
 h_z13:FD K mg "_law_draw" Ade ["_law_script","_law_k","_law_many"]
 h_z14:FD K mg "_law_mark" Adf ["_law_script","_law_k"]
 h_z15:FD K mg "_law_make" Adg ["_law_script","_law_k"]
 h_z16:FD K mg "_law_near" Adh ["_law_script","_law_k","_law_make_here"]
 h_z0:FD K mg "_law_mark_older" Am6 ["_law_one","_law_other"]
 h_z10:FD K mg "_law_older" Ada ["_law_one","_law_other"]
 h_z7:FD K mg "_law_sorted" Ane ["_law_makes_here"]
 h_z11:FD K mg "_law_makes" Adb ["_law_script","_law_base","_law_many"]
 h_z8:FD K mg "_law_pieces" Anf ["_law_rows"]
 h_Lin:FD K mg "_law_in" Ac9 ["_law_make_here","_law_span"]
 h_z12:FD K mg "_law_canon" Adc ["_law_makes_here","_law_told"]
 h_z17:FD K mg "_law_ends" Adi ["_law_spans"]
 h_z18:FD K mg "_law_some" Adj ["_law_script","_law_k","_law_makes_here"]
 h_z1:FD K mg "_law_is_tuples" Am7 ["_law_found"]
theorem Afj {P:Program}{w:World}{K:W.Frag}{mg:Str->Option Value}{base:Heap}:L9 P w K mg base 1 2 lam_met Hd :=
 Ox Ag6 rfl rfl (fun doc pm ctv c us hl=>match us,hl with|[_,_],_=>rfl) fun c a A outer s H hr=>(M8 (Ai 0) (Ja (Ai 1)))
theorem Akx {P:Program}{w:World}{K:W.Frag}{mg:Str->Option Value}{base:Heap}:L9 P w K mg base 1 2 lam_z9 Mo :=
 Ox Amz rfl rfl (fun doc pm ctv c us hl=>match us,hl with|[_,_],_=>rfl) fun c a A outer s H hr=>(Ark (Ai 0) (Ja (Ai 1)))
theorem Afk {P:Program}{w:World}{K:W.Frag}{mg:Str->Option Value}{base:Heap}:L9 P w K mg base 1 2 lam_z20 He :=
 Ox Ag7 rfl rfl (fun doc pm ctv c us hl=>match us,hl with|[_,_],_=>rfl) fun c a A outer s H hr=>(M8 (Ai 0) (Ja (Agx (Ai 1))))
theorem As4 {P:Program}{w:World}{K:W.Frag}{mg:Str->Option Value}{base:Heap}:∀ p∈P6,L9 P w K mg base 1 2 p.1 p.2:=by
 intro p hp
 unfold P6 at hp
 simp only[Aug,Auc,or_false] at hp
 rcases hp with rfl|rfl|rfl
 ·exact Afj
 ·exact Akx
 ·exact Afk
section
variable {P:Program}{w:World}{K:W.Frag}{mg:Str->Option Value}{base:Heap}{p_met p_z9 p_z20:Addr} (T:Txt K mg p_met p_z9 p_z20) (B:Blt mg) (hB:Iq mg base)
include T B
theorem Ap7:Cl P w K mg base 1 "mark_rank" 1 U6 :=
 Dc ["mark"] T.h_z2 Apr U6 fun _ _ _ _ _ _ _ hr nd=>(Ag (Co (Gq (Js (Ai 0) B.b_isinstance B.b_str (by decide +kernel))) (Al (A5 (Ba (Af Ah (Af Ah (Af (Ai 0) Ae)))))) Bo) (Al (A5 (Ba (Af Ah (Af (Ai 0) (Af Ac6 Ae)))))))
theorem Ak2:Cl P w K mg base 2 "rank" 1 Jj :=
 Dc ["make","marks","without_marks"] T.h_z19 Aeu Jj fun _ _ _ _ _ _ _ hr nd=>(Ag (A6 nd (A9 (Ai 0) Ah)) (Ag (A6 nd (As6 (Gq (Ai 1)) Ah Ah)) (Al (A5 (Ba (Af (A9 (Ai 0) Ah) (Af (A9 (Ai 0) Ah) (Af (A9 (Ai 0) Ah) (Af (Ai 2) (Af (D5 B.b_tuple (Af (Gw (C7 [] ["mark"] rfl (Gg (Ai 1)) (Do 0) (fun _ _ _ _ _ _=>(Gh (show (["mark"]:List Str).Nodup by decide))) (fun _ _ _ _ _ _=>Dx) (fun _ _ _ _ _ _=>(q_c (Ap7 T B) hr (Af (Ai 0) Ae))))) Ae)) Ae))))))))))
theorem Ak4:Cl P w K mg base 1 "edges_of" 1 R5 :=
 Dc ["span","edges","low","high"] T.h_z3 Aps R5 fun _ _ _ _ _ _ _ hr nd=>(Ag (Ez nd (D9 Ae)) (Ag (Cy Auj rfl (Gg (Ai 0)) (Hx rfl (Br (Hv nd) (Br (Hv nd) Hw))) (Ag (Dl (Ai 1) (Af (Ai 2) Ae)) (Al (Co (Lq (Ai 3)) (Al (Dl (Ai 1) (Af (Ai 3) Ae))) Bo)))) (Al (A5 (Ai 1)))))
theorem Ap9:Cl P w K mg base 1 "span_of" 1 U8 :=
 Dc ["edges","ends"] T.h_z6 Apv U8 fun _ _ _ _ _ _ _ hr nd=>(Ag (O0 nd (Gw (Amn (Bh 0) (Gw (D9 (Af X1 Ae)))))) (Al (A5 (D5 B.b_tuple (Af (Gw (C7 [0,1] ["edges","ends","k"] rfl (Amt B.b_range (Af Ah (Af (By B.b_len (Af (Bh 0) Ae)) (Af Ah Ae)))) (Do 2) (fun _ _ _ _ _ _=>(Gh (show (["edges","ends","k"]:List Str).Nodup by decide))) (fun _ _ _ _ _ _=>Dx) (fun _ _ _ _ _ _=>(Ba (Af (A9 (Bh 0) (Ai 2)) (Af (A9 (Bh 1) (Aq Aw (Ai 2) Ah)) Ae)))))) Ae)))))
theorem Ap8:Cl P w K mg base 2 "turns_of" 2 U7 :=
 Dc ["one","other","turns","edge"] T.h_z4 Apt U7 fun _ _ _ _ _ _ _ hr nd=>(Ag (Agy nd) (Ag (Cy Auj rfl (Gg (Gw (Ah4 (Ak4 T B) hr (Af (Ai 0) Ae)))) (Hv nd) (Al (X2 hr (Ba (Af Aba (Af Aba Ae))) (Ai 2) (Ai 3)))) (Ag (Cy Auj rfl (Gg (Gw (Ah4 (Ak4 T B) hr (Af (Ai 1) Ae)))) (Hv nd) (Al (X2 hr (Ba (Af (Dw (Ak7 hr) (Ai 3) (Ai 2)) (Af Aba Ae))) (Ai 2) (Ai 3)))) (Al (A5 (Ai 2))))))
theorem Afl:Cl P w K mg base 5 "combined" 3 Mt :=
 Dc ["one","other","keep","turns","in_one","in_other","kept","edges","edge"] T.h_z5 Apu Mt fun _ _ _ _ _ _ _ hr nd=>(Ag (A6 nd (q_c (Ap8 T B) hr (Af (Ai 0) (Af (Ai 1) Ae)))) (Ag (A6 nd Aba) (Ag (A6 nd Aba) (Ag (A6 nd Aba) (Ag (Ez nd (D9 Ae)) (Ag (Cy Auj rfl (Gg (Gw (Aqq (Ak2 T B) hr B.b_sorted (Af (Ai 3) Ae)))) (Hv nd) (Ag (A6 nd (Dw (Lp hr) (Ai 4) (A9 (Ac5 hr (Ai 3) (Ai 8)) Ah))) (Ag (A6 nd (Dw (Lp hr) (Ai 5) (A9 (Ac5 hr (Ai 3) (Ai 8)) Ah))) (Al (Co (Bq (Lp hr) (Agr As4 (hr.mono (by decide)) (Af (Ai 4) (Af (Ai 5) Ae))) (Ai 6)) (Ag (A6 nd (Agx (Ai 6))) (Al (Dl (Ai 7) (Af (Ai 8) Ae)))) Bo))))) (Al (A5 (q_c (Ap9 T B) hr (Af (Ai 7) Ae))))))))))
include hB in
theorem Acq:ClT P w K mg base (tabs p_met p_z9 p_z20) 6 "met" 2 Jh :=
 X0 ["one","other"] T.h_met R9 Jh fun _ _ _ _ _ _ _ _ hT hr nd tc th=>(Al (A5 (Aqp (Afl T B) hr (Af (Ai 0) (Af (Ai 1) (Af (Agw 0 hB (hT _ Ae9) tc th) Ae))))))
include hB in
theorem Ak6:ClT P w K mg base (tabs p_met p_z9 p_z20) 6 "joined" 2 R7 :=
 X0 ["one","other"] T.h_z9 Ah0 R7 fun _ _ _ _ _ _ _ _ hT hr nd tc th=>(Al (A5 (Aqp (Afl T B) hr (Af (Ai 0) (Af (Ai 1) (Af (Agw 1 hB (hT _ Akk) tc th) Ae))))))
include hB in
theorem Ak3:ClT P w K mg base (tabs p_met p_z9 p_z20) 6 "less" 2 Ms :=
 X0 ["one","other"] T.h_z20 Ta Ms fun _ _ _ _ _ _ _ _ hT hr nd tc th=>(Al (A5 (Aqp (Afl T B) hr (Af (Ai 0) (Af (Ai 1) (Af (Agw 2 hB (hT _ Afa) tc th) Ae))))))
theorem Ct:Cl P w K mg base 1 "_law_draw" 3 Bw :=
 Dc ["_law_script","_law_k","_law_many","_law_cell","_law_at","_law_mixed"] T.h_z13 Aeo Bw fun _ _ _ _ _ _ _ hr nd=>(Ag (A6 nd Ah) (Ag (A6 nd Ah) (Ag (Co (Bq Xe (By B.b_len (Af (Ai 0) Ae)) Ah) (Ag (A6 nd (A9 (Ai 0) (Aq Cu (Ai 1) (By B.b_len (Af (Ai 0) Ae))))) (Al (A6 nd (Aq Cu (Aq Rb (Ai 1) (By B.b_len (Af (Ai 0) Ae))) Ah)))) Bo) (Ag (Co (Bq (Hs hr) (Aq Cu (Ai 3) Ah) Ah) (Al (A5 (Aq Cu (Aq Ak8 (Ai 3) (Aq Aw Ah (Aq Ht Ah (Ai 4)))) (Ai 2)))) Bo) (Ag (A6 nd (Aq Cu (Aq Ht (Aq Aw (Aq Cu (Ai 3) Ah) Ah) (Aq Aw (Aq Ht (Aq Ht Ah (Ai 1)) (Ai 1)) Ah)) Ah)) (Al (A5 (Aq Cu (Aq Rb (Aq Cu (Aq Aw (Aq Ht (Ai 5) (Aq Aw (Aq Cu (Ai 5) Ah) Ah)) (Ai 1)) Ah) Ah) (Ai 2)))))))))
theorem Xc:Cl P w K mg base 2 "_law_mark" 2 Hi :=
 Dc ["_law_script","_law_k","_law_menu"] T.h_z14 Aep Hi fun _ _ _ _ _ _ _ hr nd=>(Ag (A6 nd (Gw (D9 (Af Ah (Af Ah (Af Ac6 (Af Ac6 (Af Ac6 (Af Ah (Af Ah (Af Ac6 (Af Ac6 (Af (Aq Acu (Aq Xf Ah Ah) Ah) (Af Ac6 Ae)))))))))))))) (Al (A5 (A9 (Ai 2) (q_c (Ct T B) hr (Af (Ai 0) (Af (Ai 1) (Af Ah Ae))))))))
theorem Acr:Cl P w K mg base 3 "_law_make" 2 Hj :=
 Dc ["_law_script","_law_k","_law_numbers","_law_many"] T.h_z15 Aeq Hj fun _ _ _ _ _ _ _ hr nd=>(Ag (Aa8 [0,1] ["_law_script","_law_k","_law_j"] nd rfl (Lr B.b_range (Af Ah Ae)) (Do 2) (fun _ _ _ _ _ _=>(Gh (show (["_law_script","_law_k","_law_j"]:List Str).Nodup by decide))) (fun _ _ _ _ _ _=>Dx) (fun _ _ _ _ _ _=>(q_c (Ct T B) hr (Af (Bh 0) (Af (Aq Aw (Bh 1) (Ai 2)) (Af Ah Ae)))))) (Ag (Co (Bq (Hs hr) (q_c (Ct T B) hr (Af (Bh 0) (Af (Aq Aw (Bh 1) Ah) (Af Ah Ae)))) Ah) (Al (Abd (A9 (Gw (D9 (Af Ah (Af Ah (Af (Aq Acu (Aq Xf Ah Ah) Ah) Ae))))) (q_c (Ct T B) hr (Af (Bh 0) (Af (Aq Aw (Bh 1) Ah) (Af Ah Ae))))) (Ai 2) (q_c (Ct T B) hr (Af (Bh 0) (Af (Aq Aw (Bh 1) Ah) (Af Ah Ae)))))) Bo) (Ag (A6 nd (A9 (Gw (D9 (Af Ah (Af Ah (Af Ah (Af Ah (Af Ah (Af Ah (Af Ah Ae))))))))) (q_c (Ct T B) hr (Af (Bh 0) (Af (Aq Aw (Bh 1) Ah) (Af Ah Ae)))))) (Al (A5 (Aq Aw (D5 B.b_tuple (Af (Ai 2) Ae)) (Ba (Af (D5 B.b_tuple (Af (Gw (C7 [0,1] ["_law_script","_law_k","_law_j"] rfl (Lr B.b_range (Af (Ai 3) Ae)) (Do 2) (fun _ _ _ _ _ _=>(Gh (show (["_law_script","_law_k","_law_j"]:List Str).Nodup by decide))) (fun _ _ _ _ _ _=>Dx) (fun _ _ _ _ _ _=>(q_c (Xc T B) hr (Af (Bh 0) (Af (Aq Aw (Aq Aw (Bh 1) Ah) (Ai 2)) Ae)))))) Ae)) Ae))))))))
theorem Ak0:Cl P w K mg base 4 "_law_near" 3 Mq :=
 Dc ["_law_script","_law_k","_law_make_here","_law_great","_law_middle","_law_small","_law_marks","_law_some_here","_law_found"] T.h_z16 Aer Mq fun _ _ _ _ _ _ _ hr nd=>(Ag (Amr (Ai 2) (Hx rfl (Br (Hv nd) (Br (Hv nd) (Br (Hv nd) (Br (Hv nd) Hw)))))) (Ag (Ez nd (D9 (Af (Ai 2) (Af (Ba (Af (Ai 3) (Af (Ai 4) (Af (Ai 5) (Af (Ba Ae) Ae))))) (Af (Ba (Af (Ai 3) (Af (Ai 4) (Af (Ai 5) (Af (Aqr (Ai 6) Oy (Oz (Amq Ah))) Ae))))) (Af (Ba (Af (Ai 3) (Af (Ai 4) (Af (Aq Aw (Ai 5) Ah) (Af (Ba (Af Ah Ae)) Ae))))) Ae)))))) (Ag (Ez nd (Amn (Ai 7) (Gw (D9 (Af (Ba (Af (Ai 3) (Af (Aq Aw (Ai 4) Ah) (Af Ah (Af (Ba (Af Ah Ae)) Ae))))) (Af (Ba (Af (Aq Aw (Ai 3) Ah) (Af Ah (Af Ah (Af (Ba (Af Ah Ae)) Ae))))) (Af (Ba (Af (Ai 3) (Af (Ai 4) (Af Ah (Af (Ba Ae) Ae))))) (Af (Ba (Af Ah (Af Ah (Af Ah (Af (Ba (Af Ah Ae)) Ae))))) Ae)))))))) (Ag (Co (Bq (Os) (By B.b_len (Af (Ai 6) Ae)) Ah) (Ag (Dl (Ai 7) (Af (Ba (Af (Ai 3) (Af (Ai 4) (Af (Ai 5) (Af (Aq Aw (Ai 6) (Ba (Af (q_c (Xc T B) hr (Af (Ai 0) (Af (Aq Aw (Ai 1) Ah) Ae))) Ae))) Ae))))) Ae)) (Al (Dl (Ai 7) (Af (Ba (Af (Ai 3) (Af (Ai 4) (Af (Ai 5) (Af (Aq Aw (Ai 6) (Ba (Af Ah Ae))) Ae))))) Ae)))) Bo) (Ag (Co (Bq Xe (By B.b_len (Af (Ai 6) Ae)) Ah) (Al (Dl (Ai 7) (Af (Ba (Af (Ai 3) (Af (Ai 4) (Af (Ai 5) (Af (Aq Aw (Aqr (Ai 6) Oy (Oz (Amq Ah))) (Ba (Af (q_c (Xc T B) hr (Af (Ai 0) (Af (Aq Aw (Ai 1) Ah) Ae))) Ae))) Ae))))) Ae))) Bo) (Ag (A6 nd (A9 (Ai 7) (q_c (Ct T B) hr (Af (Ai 0) (Af (Ai 1) (Af (By B.b_len (Af (Ai 7) Ae)) Ae)))))) (Ag (Co (C6 (Jt (Bq (Os) (Agt rfl B.b_max (Af (Aqr (Ai 8) Oy (Oz Ah)) Ae)) (Aq Xf Ah Ah)) (Gi (Bq Xe (q_c (Ct T B) hr (Af (Ai 0) (Af (Aq Aw (Ai 1) Ah) (Af Ah Ae)))) Ah)))) (Al (A5 (Ai 8))) Bo) (Al (A5 (q_c (Acr T B) hr (Af (Ai 0) (Af (Aq Aw (Ai 1) Ah) Ae))))))))))))
theorem Ap5:Cl P w K mg base 1 "_law_mark_older" 2 U4 :=
 Dc ["_law_one","_law_other"] T.h_z0 App U4 fun _ _ _ _ _ _ _ hr nd=>(Ag (Co (Bq (Lp hr) (Js (Ai 0) B.b_isinstance B.b_str (by decide +kernel)) (Js (Ai 1) B.b_isinstance B.b_str (by decide +kernel))) (Al (A5 (Js (Ai 1) B.b_isinstance B.b_str (by decide +kernel)))) Bo) (Al (A5 (Dw (Os) (Ai 0) (Ai 1)))))
theorem Xa:Cl P w K mg base 2 "_law_older" 2 Hg :=
 Dc ["_law_one","_law_other","_law_k"] T.h_z10 Ael Hg fun _ _ _ _ _ _ _ hr nd=>(Ag (Cy Auj rfl (Lr B.b_range (Af Ah Ae)) (Hv nd) (Al (Co (Bq (Lp hr) (A9 (Ai 0) (Ai 2)) (A9 (Ai 1) (Ai 2))) (Al (A5 (Dw (Os) (A9 (Ai 0) (Ai 2)) (A9 (Ai 1) (Ai 2))))) Bo))) (Ag (Co (C6 (Abf (Bq (Hs hr) (A9 (Ai 0) Ah) (Ba Ae)) (Ri (Bq (Hs hr) (A9 (Ai 1) Ah) (Ba Ae))))) (Al (A5 (M8 (Dw (Lp hr) (A9 (Ai 0) Ah) (Ba Ae)) (Ja (Dw (Hs hr) (A9 (Ai 1) Ah) (Ba Ae)))))) Bo) (Ag (Cy Auj rfl (Lr B.b_range (Af (Agu rfl B.b_min (Af (By B.b_len (Af (A9 (Ai 0) Ah) Ae)) (Af (By B.b_len (Af (A9 (Ai 1) Ah) Ae)) Ae))) Ae)) (Hv nd) (Al (Co (Bq (Lp hr) (A9 (A9 (Ai 0) Ah) (Ai 2)) (A9 (A9 (Ai 1) Ah) (Ai 2))) (Al (A5 (q_c (Ap5 T B) hr (Af (A9 (A9 (Ai 0) Ah) (Ai 2)) (Af (A9 (A9 (Ai 1) Ah) (Ai 2)) Ae))))) Bo))) (Al (A5 (Dw (Os) (By B.b_len (Af (A9 (Ai 0) Ah) Ae)) (By B.b_len (Af (A9 (Ai 1) Ah) Ae))))))))
theorem Ak5:Cl P w K mg base 3 "_law_sorted" 1 R6 :=
 Dc ["_law_makes_here","_law_found","_law_make_here","_law_at"] T.h_z7 Apw R6 fun _ _ _ _ _ _ _ hr nd=>(Ag (Ez nd (D9 Ae)) (Ag (Cy Auj rfl (Gg (Ai 0)) (Hv nd) (Ag (A6 nd Ah) (Ag (Abe _ Auj (C6 (Jt (Bq (Os) (Ai 3) (By B.b_len (Af (Ai 1) Ae))) (Gi (Gq (q_c (Xa T B) hr (Af (A9 (Ai 1) (Ai 3)) (Af (Ai 2) Ae))))))) (Al (A6 nd (Aq Aw (Ai 3) Ah)))) (Al (Co (C6 (Abf (Bq (Hs hr) (Ai 3) (By B.b_len (Af (Ai 1) Ae))) (Ri (Bq (Lp hr) (A9 (Ai 1) (Ai 3)) (Ai 2))))) (Al (X3 (Ai 1) (Af (Ai 3) (Af (Ai 2) Ae)))) Bo))))) (Al (A5 (Ai 1)))))
theorem Akz:Cl P w K mg base 5 "_law_makes" 3 Mp :=
 Dc ["_law_script","_law_base","_law_many","_law_makes_here","_law_j","_law_make_here"] T.h_z11 Aem Mp fun _ _ _ _ _ _ _ hr nd=>(Ag (Ez nd (D9 Ae)) (Ag (Cy Auj rfl (Lr B.b_range (Af (Ai 2) Ae)) (Hv nd) (Ag (A6 nd (q_c (Acr T B) hr (Af (Ai 0) (Af (Aq Aw (Aq Aw (Ai 1) Ah) (Aq Ht Ah (Ai 4))) Ae)))) (Ag (Co (C6 (Jt (Bq Xe (Ai 4) Ah) (Gi (Bq Xe (q_c (Ct T B) hr (Af (Ai 0) (Af (Aq Aw (Ai 1) (Aq Cu (Ai 4) Ah)) (Af Ah Ae)))) Ah)))) (Al (A6 nd (q_c (Ak0 T B) hr (Af (Ai 0) (Af (Aq Aw (Aq Aw (Ai 1) Ah) (Aq Ht Ah (Ai 4))) (Af (A9 (Ai 3) (q_c (Ct T B) hr (Af (Ai 0) (Af (Aq Aw (Aq Aw (Ai 1) Ah) (Aq Cu (Ai 4) Ah)) (Af (Ai 4) Ae))))) Ae)))))) Bo) (Al (Dl (Ai 3) (Af (Ai 5) Ae)))))) (Al (A5 (Ai 3)))))
theorem Aqa:Cl P w K mg base 1 "_law_pieces" 1 U9 :=
 Dc ["_law_rows","_law_pieces_here","_law_k","_law_high"] T.h_z8 Apx U9 fun _ _ _ _ _ _ _ hr nd=>(Ag (Ez nd (D9 Ae)) (Ag (Cy Auj rfl (Amt B.b_range (Af Ah (Af (By B.b_len (Af (Ai 0) Ae)) (Af Ah Ae)))) (Hv nd) (Ag (A6 nd X1) (Ag (Co (Bq (Os) (Aq Aw (Ai 2) Ah) (By B.b_len (Af (Ai 0) Ae))) (Al (A6 nd (A9 (Ai 0) (Aq Aw (Ai 2) Ah)))) Bo) (Al (Dl (Ai 1) (Af (Ba (Af (A9 (Ai 0) (Ai 2)) (Af (Ai 3) Ae))) Ae)))))) (Al (A5 (D5 B.b_tuple (Af (Ai 1) Ae))))))
theorem Acp:Cl P w K mg base 3 "_law_in" 2 Hf :=
 Dc ["_law_make_here","_law_span","_law_low","_law_high"] T.h_Lin Aej Hf fun _ _ _ _ _ _ _ hr nd=>(Ag (Cy Auj rfl (Gg (Ai 1)) (Hx rfl (Br (Hv nd) (Br (Hv nd) Hw))) (Al (Co (C6 (Jt (Xz (Gq (q_c (Xa T B) hr (Af (Ai 0) (Af (Ai 2) Ae))))) (Gi (C6 (Abf (Ac4 (Ai 3)) (Ri (Gq (q_c (Xa T B) hr (Af (Ai 0) (Af (Ai 3) Ae)))))))))) (Al (A5 Aba)) Bo))) (Al (A5 Aba)))
theorem Xb:Cl P w K mg base 1 "_law_canon" 2 Hh :=
 Dc ["_law_makes_here","_law_told","_law_found","_law_low","_law_make_here","_law_truth"] T.h_z12 Aen Hh fun _ _ _ _ _ _ _ hr nd=>(Ag (Ez nd (D9 Ae)) (Ag (A6 nd X1) (Ag (Cy Auj rfl (Anl B.b_zip (Af (Ai 0) (Af (Ai 1) Ae))) (Hx rfl (Br (Hv nd) (Br (Hv nd) Hw))) (Ag (Co (C6 (Jt (Gq (Ai 5)) (Gi (Ac4 (Ai 3))))) (Al (A6 nd (Ai 4))) Bo) (Al (Co (C6 (Jt (Xz (Gq (Ai 5))) (Gi (Lq (Ai 3))))) (Ag (Dl (Ai 2) (Af (Ba (Af (Ai 3) (Af (Ai 4) Ae))) Ae)) (Al (A6 nd X1))) Bo)))) (Ag (Co (Lq (Ai 3)) (Al (Dl (Ai 2) (Af (Ba (Af (Ai 3) (Af X1 Ae))) Ae))) Bo) (Al (A5 (D5 B.b_tuple (Af (Ai 2) Ae))))))))
theorem Ak1:Cl P w K mg base 4 "_law_ends" 1 Mr :=
 Dc ["_law_spans","_law_ends_here","_law_span","_law_low","_law_high"] T.h_z17 Aes Mr fun _ _ _ _ _ _ _ hr nd=>(Ag (Ez nd (D9 (Af (Ba (Af Ah (Af Ah (Af Ah (Af (Ba (Af Ah Ae)) Ae))))) Ae))) (Ag (Cy Auj rfl (Gg (Ai 0)) (Hv nd) (Al (Cy Auj rfl (Gg (Ai 2)) (Hx rfl (Br (Hv nd) (Br (Hv nd) Hw))) (Ag (Dl (Ai 1) (Af (Ai 3) Ae)) (Al (Co (Lq (Ai 4)) (Al (Dl (Ai 1) (Af (Ai 4) Ae))) Bo)))))) (Al (Agz (Ah4 (Ak5 T B) hr (Af (Ai 1) Ae))))))
theorem Acs:Cl P w K mg base 4 "_law_some" 3 Ji :=
 Dc ["_law_script","_law_k","_law_makes_here"] T.h_z18 Aet Ji fun _ _ _ _ _ _ _ hr nd=>(Al (A5 (q_c (Aqa T B) hr (Af (Gw (Ah4 (Ak5 T B) hr (Af (Gw (C7 [0,1] ["_law_script","_law_k","_law_j","_law_make_here"] rfl (Nn B.b_enumerate (Af (Ai 2) Ae)) (Apk 2 3 (by decide)) (fun _ _ _ _ _ _=>(Hx rfl (Br (Gh (show (["_law_script","_law_k","_law_j","_law_make_here"]:List Str).Nodup by decide)) (Br (Gh (show (["_law_script","_law_k","_law_j","_law_make_here"]:List Str).Nodup by decide)) Hw)))) (fun _ _ _ _ _ _=>(Ams (Bq (Hs hr) (q_c (Ct T B) hr (Af (Bh 0) (Af (Aq Aw (Bh 1) (Ai 2)) (Af Ah Ae)))) Ah))) (fun _ _ _ _ _ _=>(Ai 3)))) Ae))) Ae))))
theorem Ap6:Cl P w K mg base 1 "_law_is_tuples" 1 U5 :=
 Dc ["_law_found"] T.h_z1 Apq U5 fun _ _ _ _ _ _ _ hr nd=>(Al (A5 (M8 (Js (Ai 0) B.b_isinstance B.b_tuple (by decide +kernel)) (Ja (Amo rfl B.b_all (Af (Gw (C7 [] ["_law_piece"] rfl (Gg (Ai 0)) (Do 0) (fun _ _ _ _ _ _=>(Gh (show (["_law_piece"]:List Str).Nodup by decide))) (fun _ _ _ _ _ _=>Dx) (fun _ _ _ _ _ _=>(M8 (Js (Ai 0) B.b_isinstance B.b_tuple (by decide +kernel)) (Ja (Dw (Hs hr) (By B.b_len (Af (Ai 0) Ae)) Ah)))))) Ae))))))
include hB in
theorem Aky {a:Addr}{fd:FuncData} (F:Fun K "law" "law" Nj a fd):FnOk P w K mg base CX0 7 a fd ["_law_script"] (spT (tabs p_met p_z9 p_z20) K 1 Jg) :=
 Amp F sc_law Aek Jg rfl rfl fun A outer s H E hT hr=>(Ag (A6 sc_law.nd (Gw (Ah4 (Akz T B) hr (Af (Ai 0) (Af Ah (Af (Aq Aw Ah (q_c (Ct T B) hr (Af (Ai 0) (Af Ah (Af Ah Ae))))) Ae)))))) (Ag (Co (Bq (Hs hr) (q_c (Ct T B) hr (Af (Ai 0) (Af Ah (Af Ah Ae)))) Ah) (Ag (A6 sc_law.nd (Aq Aw Ah (q_c (Ct T B) hr (Af (Ai 0) (Af Ah (Af Ah Ae)))))) (Al (Aa9 [] ["_law_k"] sc_law.nd rfl (Lr B.b_range (Af (Ai 2) Ae)) (Do 0) (fun _ _ _ _ _ _=>(Gh (show (["_law_k"]:List Str).Nodup by decide))) (fun _ _ _ _ _ _=>Dx) (fun _ _ _ _ _ _=>(Ba (Af (Aq Rb (Ai 0) Ah) (Af (Aq Rb (Aq Cu (Ai 0) Ah) Ah) (Af (Aq Cu (Ai 0) Ah) (Af (A9 (Gw (D9 (Af (Ba Ae) (Af (Ba (Af Ah Ae)) (Af (Ba (Af Ac6 (Af Ah Ae))) Ae))))) (Aq Cu (Ai 0) Ah)) Ae))))))))) Bo) (Ag (O0 sc_law.nd (q_c (Acs T B) hr (Af (Ai 0) (Af Ah (Af (Ai 1) Ae))))) (Ag (O0 sc_law.nd (q_c (Acs T B) hr (Af (Ai 0) (Af Ah (Af (Ai 1) Ae))))) (Ag (A6 sc_law.nd (Gw (Ah4 (Ak1 T B) hr (Af (Gw (D9 (Af (Bh 3) (Af (Bh 4) Ae)))) Ae)))) (Ag (Rh sc_law.nd (Gw (C7 [3] ["_law_one","_law_make_here"] rfl (Gg (Ai 5)) (Do 1) (fun _ _ _ _ _ _=>(Gh (show (["_law_one","_law_make_here"]:List Str).Nodup by decide))) (fun _ _ _ _ _ _=>Dx) (fun _ _ _ _ _ _=>(q_c (Acp T B) hr (Af (Ai 1) (Af (Bh 0) Ae))))))) (Ag (Rh sc_law.nd (Gw (C7 [4] ["_law_other","_law_make_here"] rfl (Gg (Ai 5)) (Do 1) (fun _ _ _ _ _ _=>(Gh (show (["_law_other","_law_make_here"]:List Str).Nodup by decide))) (fun _ _ _ _ _ _=>Dx) (fun _ _ _ _ _ _=>(q_c (Acp T B) hr (Af (Ai 1) (Af (Bh 0) Ae))))))) (Ag (A6 sc_law.nd (q_c (Xb T B) hr (Af (Ai 5) (Af (Gw (C7 [6,7] ["_law_left","_law_right","_law_k"] rfl (Lr B.b_range (Af (By B.b_len (Af (Ai 5) Ae)) Ae)) (Do 2) (fun _ _ _ _ _ _=>(Gh (show (["_law_left","_law_right","_law_k"]:List Str).Nodup by decide))) (fun _ _ _ _ _ _=>Dx) (fun _ _ _ _ _ _=>(M8 (A9 (Bh 0) (Ai 2)) (Ja (A9 (Bh 1) (Ai 2))))))) Ae)))) (Ag (A6 sc_law.nd (q_c (Xb T B) hr (Af (Ai 5) (Af (Gw (C7 [6,7] ["_law_left","_law_right","_law_k"] rfl (Lr B.b_range (Af (By B.b_len (Af (Ai 5) Ae)) Ae)) (Do 2) (fun _ _ _ _ _ _=>(Gh (show (["_law_left","_law_right","_law_k"]:List Str).Nodup by decide))) (fun _ _ _ _ _ _=>Dx) (fun _ _ _ _ _ _=>(Ark (A9 (Bh 0) (Ai 2)) (Ja (A9 (Bh 1) (Ai 2))))))) Ae)))) (Ag (A6 sc_law.nd (q_c (Xb T B) hr (Af (Ai 5) (Af (Gw (C7 [6,7] ["_law_left","_law_right","_law_k"] rfl (Lr B.b_range (Af (By B.b_len (Af (Ai 5) Ae)) Ae)) (Do 2) (fun _ _ _ _ _ _=>(Gh (show (["_law_left","_law_right","_law_k"]:List Str).Nodup by decide))) (fun _ _ _ _ _ _=>Dx) (fun _ _ _ _ _ _=>(M8 (A9 (Bh 0) (Ai 2)) (Ja (Agx (A9 (Bh 1) (Ai 2)))))))) Ae)))) (Ag (Cy Auj rfl (Gg (Gw (D9 (Af (Ba (Af (Amm hT (Acq T B hB) hr (Af (Bh 3) (Af (Bh 4) Ae))) (Af (Ai 8) Ae))) (Af (Ba (Af (Amm hT (Ak6 T B hB) hr (Af (Bh 3) (Af (Bh 4) Ae))) (Af (Ai 9) Ae))) (Af (Ba (Af (Amm hT (Ak3 T B hB) hr (Af (Bh 3) (Af (Bh 4) Ae))) (Af (Ai 10) Ae))) Ae)))))) (Hx rfl (Br (Hv sc_law.nd) (Br (Hv sc_law.nd) Hw))) (Al (Co (C6 (Abf (Xz (Gq (q_c (Ap6 T B) hr (Af (Ai 11) Ae)))) (Ri (Bq (Lp hr) (Ai 11) (Ai 12))))) (Al (A5 Aba)) Bo))) (Al (A5 (M8 (Dw (Hs hr) (Amm hT (Acq T B hB) hr (Af (Bh 4) (Af (Bh 3) Ae))) (Ai 8)) (Ja (Dw (Hs hr) (Amm hT (Ak6 T B hB) hr (Af (Bh 4) (Af (Bh 3) Ae))) (Ai 9)))))))))))))))))
end
end
end K09a
end S_K09a
section S_R1
namespace K09a
open PySem L2 L2.ML
set_option hygiene false in
local macro_rules|`(tactic| simp_arith[$a,*])=>`(tactic| ((try dsimp only[mp1,mp2,mp3,ln1,ln2,ln3,List.replicate,Nat.reduceAdd,Nat.reduceSub]);simp only[↓Apj,↓Api,↓Ao8,↓Ao9,↓Aoj,↓Aok,↓Aol,↓Aom,↓Aon,↓Aeh,↓Aeg,↓Bg,↓Aha,↓Ahb,↓Ag8,↓Ag9,↓Ai6,↓Ai4,↓Ai5,↓Ad1,↓Ad9,↓Ajl,↓Ao1,↓Arb,↓Ara,↓Asa,↓Jc,↓E8,↓J3,↓J4,↓Aij,↓Aim,↓Za,↓Ny,↓Aob,↓Ab5,↓Aje,↓Ajf,↓Aig,↓Aoq,↓Aik,↓Ads,↓Ail,↓Adu,↓Aoo,↓Aor,↓Aop,↓Adv,↓Aoc,↓Aiz,↓Aih,↓Aii,↓Uh,↓Adt,↓Eo,↓Dz,↓Aic,↓Aid,↓Ajd,↓Aiw,↓Aif,↓Aiv,↓Ai0,↓Ai7,↓Aoy,↓Aos,↓Ar9,↓Asf,↓Aio,↓Ady,↓Aox,↓Aou,↓Aot,↓Aow,↓Ais,↓Aiq,↓Aip,↓Air,↓Aoa,↓Ajb,↓G9,↓Cf,↓Ce,↓Ad2,↓Ad3,↓Ad5,↓Ad4,↓Ao2,↓Ao3,↓Ao4,↓Rv,↓Rw,↓Ir,↓Apa,↓Apb,↓Apc,↓Ajg,↓Ati,↓Ath,↓Ad7,↓Aqw,↓Ai2,↓Abu,↓Abt,↓Abs,↓Abv,↓R4,↓Arc,↓Ar1,↓Ard,↓Asg,↓Asb,↓Ar2,↓Asq,↓Ash,↓Asc,↓Ar3,↓Asr,↓Asi,↓Asd,↓Ar4,↓Ass,↓Asj,↓Ar5,↓Ast,↓Asl,↓Ar6,↓Asu,↓Asm,↓Ar7,↓Asv,↓Asn,↓Ase,↓Asw,↓Aso,↓Ar8,↓Asx,↓Asp,↓Ao5,↓Ao0,↓Ao6,↓Aoh,↓Ao7,↓Aoi,Bool.not_true,Bool.not_false,Ad9,Ajl,↓Aja,↓Ajc,↓Am1,↓Zc,↓Ai3,↓Ako,↓Aix,↓Ui,↓Zb,↓Ai1,↓Ab4,↓Adq,↓Aie,↓Aiy,↓Aiu,↓Ait,↓Adx,↓Adw,↓Ad6,↓Aoz,↓Ai8,↓Ai9,Atw,Avu,At1,Au9,Avo,Atz,Awb,List.replicate,List.set_cons_zero,List.set_cons_succ,Nat.reduceAdd,Nat.reduceSub,Auy,true_and,Bv,Lc,Ajp,Cz,Oa,Ajo,Uv,Tj,decide_true,decide_false,Ze,Uo,List.getElem?_cons_zero,Avb,Auz,_root_.id,Ai8,Ai9,Rx,Df,M3,Aae,Cb,V5,Bb,D3,A1,Lm,Bool.and_self,Bool.and_true,Bool.true_and,Mk.pure,Mark.pure,Oo,Cn,↓Aod,↓Aoe,↓Aof,↓Aog,Asz,Zj,↓Z4,↓Z3,↓Z2,↓Z5,Int.reduceEq,Int.reduceLT,Int.reduceLE,Int.reduceAdd,Int.reduceSub,Int.reduceMul,Int.reduceToNat,Int.reducePow,Int.reduceNeg,Int.reduceMod,Int.reduceDiv,Nat.reduceLeDiff,Nat.reduceMul,Nat.reduceEqDiff,Nat.reducePow,Nat.reduceLT,and_true,and_self,true_or,or_true,Atp,Int.le_refl,Aup,Apf,↓Z0,↓Zz,↓Zy,↓Z1,Ag0,Aum,Bool.true_eq_false,Vv,Aab,Akl,Aec,Mark.deq,Mk.deq,Int.zero_add,↓Akm,↓Afb,Awd,List.any_nil,Au7,List.all_nil,Bool.false_or,Bool.true_or,Bool.or_false,Bool.false_and,↓Nx,↓Z8,↓Z7,↓Z6,↓Z9,↓Ad8,↓Amw,P7,V7,Xh,Cv,Re,Acm,Acv,Xi,↓Alp,↓Aku,↓Afe,Option.isNone_none,Option.isNone_some,Option.isSome_none,Option.isSome_some,Aqv,Du,↓Adz,↓Ad0,bne_self_eq_false,↓Apd,↓Ajh,↓Ape,$a,*]))
set_option hygiene false in
local macro_rules|`(tactic| array_get_dec)=>`(tactic| try simp_arith[true_and])
theorem Bm (ns:List Int) (hl:ns.length<=63) (k n:Int) (hk:0<=k) (hk2:k < 100000) (hn:0 < n) :
  W (Bw [.kl (ns.map .int),.int k,.int n]) fun d=>∃ v,d=.int v/\0<=v/\v < n:=by
 have fin:∀ z:Int,∃ v,D.int (z % n)=.int v/\0<=v/\v < n:=fun z=>⟨_,rfl,Int.emod_nonneg _ (by lia),Int.emod_lt_of_pos _ hn⟩
 unfold Bw Aeo
 rw[Bg]
 array_get_dec
 refine cK.dec (fun h=>⟨h,?_⟩) (fun h=>⟨.inr (by lia),.inl (by lia),hn,fin _⟩)
 have hm:=Int.emod_nonneg k (b:=(ns.length:Int)) (by lia)
 have hm2:=Int.emod_lt_of_pos k (b:=(ns.length:Int)) (by lia)
 refine Nw hm (by simpa using hm2) fun d _ hd=>?_
 obtain⟨c,_,rfl⟩:=List.mem_map.mp hd
 have hq:=Int.emod_nonneg (k / ns.length) (b:=40) (by lia)
 array_get_dec
 exact⟨⟨h,by lia⟩,cK.dec (fun h1=>⟨by lia,hn,fin _⟩) fun h1=>⟨.inr (by lia),.inl (by lia),.inl (by lia),hn,fin _⟩⟩
abbrev Ae6:List Nat:=(Str.ofString "abcdefghijklmnopqrstuvwxyz").cps.toList
noncomputable def Ds (t:Str):Bool:=decide (1<=t.length)&&decide (t.length<=8)&&t.cps.toList.all fun c=>decide (c∈Ae6)
def mok:Mark->Prop
 |.n i=>0<=i/\i < 1000000000000
 |.s t=>Ds t=true
structure Mok (x:Mk):Prop where
 a:0<=x.a/\x.a < 1000000000000
 b:0<=x.b/\x.b < 1000000000000
 c:0<=x.c/\x.c < 1000000000000
 ms:∀ m∈x.ms,mok m
theorem Hq (ns:List Int) (hl:ns.length<=63) (k:Int) (hk:0<=k) (hk2:k < 100000):W (Hi [.kl (ns.map .int),.int k]) fun d=>∃ m:Mark,d=m.d/\mok m:=by
 unfold Hi Aep
 rw[Bg]
 array_get_dec
 refine B8 (Bm ns hl k 11 hk hk2 (by decide)) fun v h0 h1=>?_
 array_get_dec
 refine Nw h0 (by simpa using h1) fun d _ hd=>?_
 simp only[Aug,Auc,or_false] at hd
 rcases hd with rfl|rfl|rfl|rfl|rfl|rfl|rfl|rfl|rfl|rfl|rfl<;>array_get_dec
 ·exact⟨.n _,rfl,by decide,by decide⟩
 ·exact⟨.n _,rfl,by decide,by decide⟩
 ·exact⟨.s _,rfl,by unfold mok;decide +kernel⟩
 ·exact⟨.s _,rfl,by unfold mok;decide +kernel⟩
 ·exact⟨.s _,rfl,by unfold mok;decide +kernel⟩
 ·exact⟨.n _,rfl,by decide,by decide⟩
 ·exact⟨.n _,rfl,by decide,by decide⟩
 ·exact⟨.s _,rfl,by unfold mok;decide +kernel⟩
 ·exact⟨.s _,rfl,by unfold mok;decide +kernel⟩
 ·exact⟨.n _,rfl,by decide,by decide⟩
 ·exact⟨.s _,rfl,by unfold mok;decide +kernel⟩
theorem Aki {ds:List D} (h:∀ d∈ds,∃ x:Mark,d=x.d/\mok x):∃ xs:List Mark,ds=xs.map Mark.d/\∀ x∈xs,mok x:=by
 induction ds with
 |nil=>exact⟨[],rfl,fun _ h=>nomatch h⟩
 |cons d ds ih =>
  obtain⟨x,rfl,hx⟩:=h d (Atk ..)
  obtain⟨xs,rfl,hxs⟩:=ih fun e he=>h e (Atn _ he)
  refine⟨x::xs,rfl,fun y hy=>?_⟩
  rcases List.mem_cons.mp hy with rfl|hy
  ·exact hx
  ·exact hxs y hy
theorem Vu (ns:List Int) (hl:ns.length<=63) (k:Int) (hk:0<=k) (hk2:k < 90000):W (Hj [.kl (ns.map .int),.int k]) fun d=>∃ x:Mk,d=x.d/\Mok x/\x.ms.length<=8:=by
 unfold Hj Aeq
 rw[Bg]
 array_get_dec
 refine B8 (Bm ns hl _ 3 (by lia) (by lia) (by decide)) fun a ha0 ha1=>B8 (Bm ns hl _ 3 (by lia) (by lia) (by decide)) fun b hb0 hb1=>B8 (Bm ns hl _ 3 (by lia) (by lia) (by decide)) fun c hc0 hc1=>B8 (Bm ns hl _ 9 (by lia) (by lia) (by decide)) fun v1 h10 h11=>?_
 array_get_dec
 refine cK.dec (fun _=>B8 (Bm ns hl _ 3 (by lia) (by lia) (by decide)) fun v2 h20 h21=>?_) fun _=>?_
 ·array_get_dec
  refine Nw h20 (by simpa using h21) fun d _ hd=>?_
  obtain⟨g,rfl,hg⟩:∃ g:Int,d=.int g/\(0<=g/\g < 1000000000000):=by
   simp only[Aug,Auc,or_false] at hd
   rcases hd with rfl|rfl|rfl<;>exact⟨_,rfl,by decide,by decide⟩
  refine B8 (Bm ns hl _ 3 (by lia) (by lia) (by decide)) fun v3 h30 h31=>?_
  array_get_dec
  refine Aov h30 h31 ?_
  have:v3=0\/v3=1\/v3=2:=by lia
  rcases this with rfl|rfl|rfl<;>array_get_dec
  all_goals
   refine B8 (Bm ns hl _ 7 (by lia) (by lia) (by decide)) fun v4 h40 h41=>?_
   array_get_dec
   refine Nw h40 (by simpa using h41) fun d _ hd=>?_
   obtain⟨n,rfl,hn⟩:∃ n:Nat,d=.int n/\n<=8:=by
    simp only[Aug,Auc,or_false] at hd
    rcases hd with rfl|rfl|rfl|rfl|rfl|rfl|rfl<;>first|exact⟨0,rfl,by decide⟩|exact⟨1,rfl,by decide⟩|exact⟨2,rfl,by decide⟩|exact⟨3,rfl,by decide⟩|exact⟨8,rfl,by decide⟩
   array_get_dec
   refine⟨⟨by lia,by lia⟩,by unfold B1;simp;lia,Ug (fun e=>∃ x:Mark,e=x.d/\mok x) (fun d hd=>?_) fun es hes hP=>?_⟩
   ·obtain⟨j,hj,rfl⟩:=List.mem_map.mp hd
    rw[List.mem_range] at hj
    array_get_dec
    exact Hq ns hl _ (by lia) (by lia)
   ·obtain⟨xs,rfl,hxs⟩:=Aki hP
    have hx8:xs.length<=8:=by
     have:(xs.map Mark.d).length=(B1 0 (Int.toNat (n:Int))).length:=hes
     unfold B1 at this;simp at this;lia
    array_get_dec
    refine⟨⟨_,_,_,xs⟩,rfl,⟨?_,?_,?_,hxs⟩,hx8⟩<;>first|assumption|(dsimp only;lia)
 ·refine B8 (Bm ns hl _ 7 (by lia) (by lia) (by decide)) fun v4 h40 h41=>?_
  array_get_dec
  refine Nw h40 (by simpa using h41) fun d _ hd=>?_
  obtain⟨n,rfl,hn⟩:∃ n:Nat,d=.int n/\n<=8:=by
   simp only[Aug,Auc,or_false] at hd
   rcases hd with rfl|rfl|rfl|rfl|rfl|rfl|rfl<;>first|exact⟨0,rfl,by decide⟩|exact⟨1,rfl,by decide⟩|exact⟨2,rfl,by decide⟩|exact⟨3,rfl,by decide⟩|exact⟨8,rfl,by decide⟩
  array_get_dec
  refine⟨⟨by lia,by lia⟩,by unfold B1;simp;lia,Ug (fun e=>∃ x:Mark,e=x.d/\mok x) (fun d hd=>?_) fun es hes hP=>?_⟩
  ·obtain⟨j,hj,rfl⟩:=List.mem_map.mp hd
   rw[List.mem_range] at hj
   array_get_dec
   exact Hq ns hl _ (by lia) (by lia)
  ·obtain⟨xs,rfl,hxs⟩:=Aki hP
   have hx8:xs.length<=8:=by
    have:(xs.map Mark.d).length=(B1 0 (Int.toNat (n:Int))).length:=hes
    unfold B1 at this;simp at this;lia
   array_get_dec
   refine⟨⟨_,_,_,xs⟩,rfl,⟨?_,?_,?_,hxs⟩,hx8⟩<;>first|assumption|(dsimp only;lia)
theorem Gn (m:Mark) {Q:D->Prop}:W (U6 [m.d]) Q=Q m.rk:=W.eq <| by
 unfold U6 Apr
 rw[Bg]
 cases m<;>simp only[Mark.d]<;>array_get_dec<;>rfl
theorem Ag1 (x:Mk) (h:x.ms.length<=1000) {Q:D->Prop}:W (Jj [x.d]) Q=Q x.rk:=W.eq <| by
 unfold Jj Aeu
 rw[Bg]
 unfold Mk.d
 array_get_dec
 refine cK.mk (fun h1=>⟨by lia,Cj Mark.rk (fun m hm=>?_) ?_⟩) fun h1=>⟨by lia,Cj Mark.rk (fun m hm=>?_) ?_⟩
 ·simp_arith[Gn]
 ·simp_arith[Bp Mark.rk_pure]
  unfold Mk.rk
  rw[Atl]
  intro h;rw[h] at h1;simp at h1
 ·simp_arith[Gn]
 ·simp_arith[Bp Mark.rk_pure]
  unfold Mk.rk
  rw[Atq]
  simpa using h1
theorem Iy (x y:Mark) {Q:D->Prop}:W (U4 [x.d,y.d]) Q=Q (.bl (x.lt y)):=W.eq <| by
 unfold U4 App
 rw[Bg]
 cases x<;>cases y<;>simp only[Mark.d]<;>array_get_dec<;>rfl
theorem Lo (x y:Mk) (hx:x.ms.length<=1000) (hy:y.ms.length<=1000) {Q:D->Prop}:W (Hg [x.d,y.d]) Q=Q (.bl (x.older y)):=W.eq <| by
 unfold Hg Ael
 rw[Bg]
 unfold Mk.d
 simp_arith[Mb,Ph,Az]
 have q:∀ {b c:Bool},b=c->D.bl b=D.bl c:=fun h=>by rw[h]
 have e4:∀ {p},x.a=y.a->x.b=y.b->x.c=y.c->(if x.ms=[]\/y.ms=[] then decide (x.ms≠[]/\y.ms=[]) else mlt x.ms y.ms)=p->p=x.older y:=fun h1 h2 h3 h4=>by
  unfold Mk.older;rw[Atl (by simpa using h1),Atl (by simpa using h2),Atl (by simpa using h3),h4]
 refine cK.ndec (fun h1=>q (by unfold Mk.older;rw[Atq h1])) fun h1=>cK.ndec (fun h2=>q (by unfold Mk.older;rw[Atl (by simpa using h1),Atq h2])) fun h2=>cK.ndec (fun h3=>q (by unfold Mk.older;rw[Atl (by simpa using h1),Atl (by simpa using h2),Atq h3])) fun h3 =>
  cK.dec (fun h4=>cK.ndec (fun h5=>absurd h4 h5) fun h5=>q (e4 h1 h2 h3 (by simp[h4]))) fun h4=>cK.dec (fun h5=>cK.ndec (fun _=>q (e4 h1 h2 h3 (by simp[h4,h5]))) fun h6=>absurd h6 h4) fun h5=>⟨⟨by split<;>lia,by split<;>lia⟩,?_⟩
 have e5:mlt x.ms y.ms=x.older y:=e4 h1 h2 h3 (by rw[Atl (by rw[not_or];exact⟨h4,h5⟩)])
 generalize hn:(if ((y.ms.length:Nat):Int) < x.ms.length then ((y.ms.length:Nat):Int) else x.ms.length).toNat=n
 have hn:n=min x.ms.length y.ms.length:=by rw[<- hn];split<;>lia
 refine Ab6 (fun k e m=>m=[]/\x.ms.take k=y.ms.take k/\∃ w,e=[some (D.tup [D.int x.a,D.int x.b,D.int x.c,D.tup (List.map Mark.d x.ms)]),some (D.tup [D.int y.a,D.int y.b,D.int y.c,D.tup (List.map Mark.d y.ms)]),w]) ?_ ?_ ⟨rfl,by simp,_,rfl⟩
 ·rintro k e m hk ⟨rfl,ht,w,rfl⟩
  have k1:k < x.ms.length:=by lia
  have k2:k < y.ms.length:=by lia
  refine⟨trivial,?_⟩
  simp_arith[J2 k1,J2 k2,Iy]
  refine cK.ndec (fun h6=>q ?_) fun h6=>⟨?_,_,rfl⟩
  ·rw[<- e5];exact (Ack ht (Atv k1) (Atv k2) h6).symm
  ·rw[List.take_add_one,List.take_add_one,ht,Atv k1,Atv k2,h6]
 ·rintro e m ⟨rfl,ht,w,rfl⟩
  refine⟨trivial,?_⟩
  array_get_dec
  refine q ?_
  rw[<- e5,Vy ht hn,Awf];lia
structure Good (n:Nat) (y:Mk):Prop where
 a:0<=y.a
 b:0<=y.b
 c:0<=y.c
 ms:∀ m∈y.ms,mok m
 l:y.ms.length<=n
theorem Mok.good {x:Mk} (h:Mok x) {n:Nat} (hl:x.ms.length<=n):Good n x:=⟨h.a.1,h.b.1,h.c.1,h.ms,hl⟩
theorem Ew (ns:List Int) (hl:ns.length<=63) (k:Int) (hk:0<=k) (hk2:k < 80000) (n:Nat) (hn8:8<=n) {L:List D} (h0:0 < L.length) (hL:L.length<=20) (good:∀ d∈L,∃ y:Mk,d=y.d/\Good n y) {e2 e3 e4 e5 e6:Option D}{m0:MObj} :
  W (H9 [some (.kl (ns.map .int)),some (.int k),e2,e3,e4,e5,e6,some (.ref 1),none] [m0,.lst L]) (Aj1 fun d=>∃ y:Mk,d=y.d/\Mok y/\y.ms.length<=n):=by
 have fresh:W (Hj [.kl (ns.map .int),.int (k+2)]) fun d=>W (B0 [m0,.lst L] d) fun d=>∃ y:Mk,d=y.d/\Mok y/\y.ms.length<=n:=by
  refine (Vu ns hl (k+2) (by lia) (by lia)).imp fun d ⟨y,e,h1,h2⟩=>?_
  subst e
  rw[Rx (Mk.pure y)]
  exact⟨y,rfl,h1,by lia⟩
 unfold H9
 array_get_dec
 refine B8 (Bm ns hl _ _ (by lia) (by lia) (by lia)) fun v hv0 hv1=>?_
 array_get_dec
 refine Nw hv0 hv1 fun d _ hd=>?_
 obtain⟨y,rfl,g⟩:=good d hd
 have gp:=Mk.pure y
 unfold Mk.d at gp
 unfold Mk.d
 simp_arith[gp]
 refine⟨by simp,cK.dec (fun h1=>B8 (Bm ns hl _ 4 (by lia) (by lia) (by decide)) fun w hw0 hw1=>?_) fun h1=>fresh⟩
 simp_arith[gp]
 refine cK.dec (fun h2=>?_) fun h2=>fresh
 have q:y.a < 1000000000000/\y.b < 1000000000000/\y.c < 1000000000000:=by
  simp only[Akj,List.foldl_cons,List.foldl_nil] at h1
  lia
 exact⟨y,rfl,⟨⟨g.a,q.1⟩,⟨g.b,q.2.1⟩,⟨g.c,q.2.2⟩,g.ms⟩,g.l⟩
theorem Mj {α β:Type}{f:α->β}{xs:List α}:(xs.map f).dropLast=xs.dropLast.map f:=by
 rw[Av6,Av6,At1,List.map_take]
theorem Afd (ns:List Int) (hl:ns.length<=63) (k:Int) (hk:0<=k) (hk2:k < 80000) (x:Mk) (n:Nat) (hn:n<=100) (hn8:8<=n) (hx:Good n x):W (Mq [.kl (ns.map .int),.int k,x.d]) fun d=>∃ y:Mk,d=y.d/\Mok y/\y.ms.length<=n:=by
 obtain⟨xa,xb,xc,xm,hxl⟩:=hx
 have z0:mok (.n 0):=⟨by decide,by decide⟩
 have l0:∀ m∈[Mark.n 0],mok m:=fun m hm=>by simp at hm;subst hm;exact z0
 have nn:∀ m∈([]:List Mark),mok m:=fun _ h=>nomatch h
 have xd:∀ m∈x.ms.dropLast,mok m:=fun m hm=>xm m (by rw[Av6] at hm;exact Au8 hm)
 have ld:x.ms.dropLast.length<=n:=by rw[List.length_dropLast];lia
 unfold Mq Aer
 rw[Bg]
 unfold Mk.d
 simp_arith[Mj]
 have snoc:∀ (l:List Mark) (m:Mark),l.map Mark.d++[m.d]=(l++[m]).map Mark.d:=fun l m=>by simp
 have more:∀ (l:List Mark) (m:Mark),(∀ m∈l,mok m)->mok m->l.length+1<=n->Good n ⟨x.a,x.b,x.c,l++[m]⟩:=fun l m h1 h2 h3=>⟨xa,xb,xc,fun q hq=>by
  rcases List.mem_append.mp hq with h|h
  ·exact h1 q h
  ·simp at h;subst h;exact h2,by simp;lia⟩
 have b1:∃ y:Mk,D.tup [D.int x.a,D.int x.b,D.int x.c,D.tup (List.map Mark.d x.ms)]=y.d/\Good n y:=⟨x,rfl,⟨xa,xb,xc,xm,hxl⟩⟩
 have b2:∃ y:Mk,D.tup [D.int x.a,D.int x.b,D.int x.c,D.tup []]=y.d/\Good n y:=⟨⟨x.a,x.b,x.c,[]⟩,rfl,⟨xa,xb,xc,nn,by simp⟩⟩
 have b3:∃ y:Mk,D.tup [D.int x.a,D.int x.b,D.int x.c,D.tup (List.map Mark.d x.ms.dropLast)]=y.d/\Good n y:=⟨⟨x.a,x.b,x.c,x.ms.dropLast⟩,rfl,⟨xa,xb,xc,xd,ld⟩⟩
 have b4:∃ y:Mk,D.tup [D.int x.a,D.int x.b,D.int (x.c+1),D.tup [D.int 0]]=y.d/\Good n y:=⟨⟨x.a,x.b,x.c+1,[.n 0]⟩,rfl,⟨xa,xb,by dsimp only;lia,l0,by simp;lia⟩⟩
 have b5:∃ y:Mk,D.tup [D.int x.a,D.int (x.b+1),D.int 0,D.tup [D.int 0]]=y.d/\Good n y:=⟨⟨x.a,x.b+1,0,[.n 0]⟩,rfl,⟨xa,by dsimp only;lia,by dsimp only;lia,l0,by simp;lia⟩⟩
 have b6:∃ y:Mk,D.tup [D.int (x.a+1),D.int 0,D.int 0,D.tup [D.int 0]]=y.d/\Good n y:=⟨⟨x.a+1,0,0,[.n 0]⟩,rfl,⟨by dsimp only;lia,by dsimp only;lia,by dsimp only;lia,l0,by simp;lia⟩⟩
 have b7:∃ y:Mk,D.tup [D.int x.a,D.int x.b,D.int 0,D.tup []]=y.d/\Good n y:=⟨⟨x.a,x.b,0,[]⟩,rfl,⟨xa,xb,by dsimp only;lia,nn,by simp⟩⟩
 have b8:∃ y:Mk,D.tup [D.int 0,D.int 0,D.int 0,D.tup [D.int 0]]=y.d/\Good n y:=⟨⟨0,0,0,[.n 0]⟩,rfl,⟨by dsimp only;lia,by dsimp only;lia,by dsimp only;lia,l0,by simp;lia⟩⟩
 have bm:∀ (l:List Mark) (m:Mark),(∀ m∈l,mok m)->mok m->l.length+1<=n->∃ y:Mk,D.tup [D.int x.a,D.int x.b,D.int x.c,D.tup (l.map Mark.d++[m.d])]=y.d/\Good n y:=fun l m h1 h2 h3=>⟨⟨x.a,x.b,x.c,l++[m]⟩,by unfold Mk.d;rw[snoc],more l m h1 h2 h3⟩
 refine cK.dec (fun h1=>(Hq ns hl (k+1) (by lia) (by lia)).imp fun d ⟨m1,e,hm1⟩=>?_) fun h1=>?_
 ·subst e
  refine⟨by lia,by lia,cK.dec (fun h2=>(Hq ns hl (k+1) (by lia) (by lia)).imp fun d ⟨m2,e,hm2⟩=>?_) fun h2=>?_⟩
  ·subst e
   refine⟨by lia,Ew ns hl k hk hk2 n hn8 (by simp) (by simp) fun d hd=>?_⟩
   simp only[Aug,Auc,or_false] at hd
   rcases hd with h|h|h|h|h|h|h|h|h|h|h<;>rw[h]<;>first|assumption|skip
   ·exact bm _ _ xm hm1 (by lia)
   ·exact bm _ (.n 0) xm z0 (by lia)
   ·exact bm _ _ xd hm2 (by rw[List.length_dropLast];lia)
  ·refine Ew ns hl k hk hk2 n hn8 (by simp) (by simp) fun d hd=>?_
   simp only[Aug,Auc,or_false] at hd
   rcases hd with h|h|h|h|h|h|h|h|h|h<;>rw[h]<;>first|assumption|skip
   ·exact bm _ _ xm hm1 (by lia)
   ·exact bm _ (.n 0) xm z0 (by lia)
 ·refine cK.dec (fun h2=>(Hq ns hl (k+1) (by lia) (by lia)).imp fun d ⟨m2,e,hm2⟩=>?_) fun h2=>?_
  ·subst e
   refine⟨by lia,Ew ns hl k hk hk2 n hn8 (by simp) (by simp) fun d hd=>?_⟩
   simp only[Aug,Auc,or_false] at hd
   rcases hd with h|h|h|h|h|h|h|h|h<;>rw[h]<;>first|assumption|skip
   exact bm _ _ xd hm2 (by rw[List.length_dropLast];lia)
  ·refine Ew ns hl k hk hk2 n hn8 (by simp) (by simp) fun d hd=>?_
   simp only[Aug,Auc,or_false] at hd
   rcases hd with h|h|h|h|h|h|h|h<;>rw[h]<;>assumption
theorem Ac3 {xs ys rest:List Mk}{x:Mk}{p:Nat} (hr:Cp ys) (hp:p<=ys.length) (hm:∀ y,(y∈ys\/y∈x::rest) ↔ y∈xs) (hn:ys.length+(rest.length+1)<=xs.length) (hl:xs.length<=900) (hb:∀ (i:Nat) y,i < p->ys[i]?=some y->y.older x=true) (h2:∀ y,ys[p]?=some y->x.older y=true) :
  (ys.length < 1000000/\(0:Int)<=p/\(p:Int) < 4611686018427387904)/\∃ (ys_1:List Mk) (v w:Option D),[MObj.lst (insD (List.map Mk.d ys) (p:Int).toNat x.d)]=[MObj.lst (List.map Mk.d ys_1)]/\[some (D.lst (List.map Mk.d xs)),some (D.ref 0),some x.d,some (D.int p)]=[some (D.lst (List.map Mk.d xs)),some (D.ref 0),v,w]/\Cp ys_1/\(∀ y,y∈ys_1\/y∈rest ↔ y∈xs)/\ys_1.length+rest.length<=xs.length:=by
 refine⟨⟨by lia,by lia,by lia⟩,insD ys p x,_,_,by rw[<- Zv];rfl,rfl,Td hr hp hb h2,fun y=>?_,by rw[Zu];lia⟩
 rw[Aac,<- hm y,Aug]
 constructor
 ·rintro ((h|h)|h)
  ·exact .inr (.inl h)
  ·exact .inl h
  ·exact .inr (.inr h)
 ·rintro (h|h|h)
  ·exact .inl (.inr h)
  ·exact .inl (.inl h)
  ·exact .inr h
theorem Nh (xs:List Mk) (hx:∀ x∈xs,x.ms.length<=1000) (hl:xs.length<=900):W (R6 [.lst (xs.map Mk.d)]) fun d=>∃ ys:List Mk,d=.lst (ys.map Mk.d)/\Cp ys/\(∀ y,y∈ys ↔ y∈xs)/\ys.length<=xs.length:=by
 unfold R6 Apw
 rw[Bg]
 array_get_dec
 refine C9 (fun rest e m=>∃ (ys:List Mk) (v w:Option D),m=[.lst (ys.map Mk.d)]/\e=[some (D.lst (xs.map Mk.d)),some (.ref 0),v,w]/\Cp ys/\(∀ y,(y∈ys\/y∈rest) ↔ y∈xs)/\ys.length+rest.length<=xs.length) ?_ ?_ ⟨[],_,_,rfl,rfl,.nil,fun y=>by simp,by simp⟩
 ·rintro x rest e m ⟨ys,v,w,rfl,rfl,hr,hm,hn⟩
  refine⟨trivial,?_⟩
  have xx:=hx x ((hm x).mp (.inr (Atk ..)))
  have yy:∀ y∈ys,y.ms.length<=1000:=fun y hy=>hx y ((hm y).mp (.inl hy))
  rw[Atw] at hn
  array_get_dec
  refine Nz (fun k e m=>∃ at':Nat,k=ys.length - at'/\at'<=ys.length/\m=[.lst (ys.map Mk.d)]/\e=[some (D.lst (xs.map Mk.d)),some (.ref 0),some x.d,some (.int at')]/\∀ (i:Nat) y,i < at'->ys[i]?=some y->y.older x=true) ?_ (k:=ys.length) (by lia) ⟨0,rfl,Aup _,rfl,rfl,fun i y h=>absurd h (Awi _)⟩
  rintro k e m ⟨p,rfl,hp,rfl,rfl,hb⟩
  array_get_dec
  refine cK.dec (fun h1=>?_) fun h1=>?_
  ·have hp':p < ys.length:=by lia
   simp_arith[J2 hp',Lo ys[p] x (yy _ (Atr hp')) xx]
   refine cK.mk (fun h2=>⟨_,by lia,p+1,rfl,hp',rfl,fun i y hi hy=>?_⟩) fun h2=>?_
   ·rcases Nat.lt_succ_iff_lt_or_eq.mp hi with hi|rfl
    ·exact hb i y hi hy
    ·rw[Atv hp'] at hy
     cases hy
     exact h2
   ·refine cK.dec (fun h3=>absurd h3 (by lia)) fun _=>cK.ndec (fun h4=>?_) fun h4=>?_
    ·have h5:x.older ys[p]=true:=by rw[Dv fun z=>h4 z.symm,h2];rfl
     exact Ac3 hr hp hm hn hl hb fun y hy=>by rw[Atv hp'] at hy;cases hy;exact h5
    ·refine⟨ys,_,_,rfl,rfl,hr,fun y=>?_,by lia⟩
     rw[<- hm y,Aug]
     constructor
     ·rintro (h|h)
      ·exact .inl h
      ·exact .inr (.inr h)
     ·rintro (h|rfl|h)
      ·exact .inl h
      ·exact .inl (h4 ▸ Atr hp')
      ·exact .inr h
  ·have hp':p=ys.length:=by lia
   refine cK.dec (fun _=>?_) fun h3=>absurd hp' (by lia)
   exact Ac3 hr hp hm hn hl hb fun y hy=>by rw[hp'] at hy;simp at hy
 ·rintro e m ⟨ys,v,w,rfl,rfl,hr,hm,hn⟩
  refine⟨trivial,?_⟩
  array_get_dec
  exact⟨ys,rfl,hr,fun y=>by rw[<- hm y];simp,by simpa using hn⟩
theorem Xo (ys:List Mk) (hl:ys.length<=900) {Q:D->Prop}:W (U9 [.lst (ys.map Mk.d)]) Q=Q (.tup ((Ak ys).map pD)):=W.eq <| by
 unfold U9 Apx
 rw[Bg]
 array_get_dec
 refine⟨⟨by lia,by lia⟩,Ab7 (fun k e m=>∃ v w:Option D,m=[.lst (((Ak ys).take k).map pD)]/\e=[some (D.lst (ys.map Mk.d)),some (.ref 0),v,w]) ?_ ?_ ⟨_,_,rfl,rfl⟩⟩
 ·rintro k e m hk ⟨v,w,rfl,rfl⟩
  refine⟨trivial,?_⟩
  have h2:2 * k < ys.length:=by lia
  have h3:=B5 ys
  have e2:(k:Int) * 2=((2 * k:Nat):Int):=by lia
  have e3:((2 * k:Nat):Int)+1=((2 * k+1:Nat):Int):=by lia
  simp_arith[e2,e3,J2 h2]
  have tk:∀ o,ys[2 * k+1]?=o->((Ak ys).take (k+1)).map pD=((Ak ys).take k).map pD++[D.tup [ys[2 * k].d,oD o]]:=fun o ho=>by
   rw[List.take_add_one,Gf ys k h2,ho,Auh];rfl
  refine cK.dec (fun h4=>?_) fun h4=>⟨by rw[Au4];lia,_,_,by rw[tk none (by simp;lia)];rfl,rfl⟩
  have h4:2 * k+1 < ys.length:=by lia
  simp_arith[J2 h4,J2 h2]
  exact⟨by rw[Au4];lia,_,_,by rw[tk _ (Atv h4)];rfl,rfl⟩
 ·rintro e m ⟨v,w,rfl,rfl⟩
  refine⟨trivial,?_⟩
  array_get_dec
  rw[Aun (by rw[B5];lia)]
theorem Aaa (ns:List Int) (hl:ns.length<=63) (base many:Int) (hb:0<=base) (hb2:base < 10000) (hm:0<=many) (hm2:many < 100):W (Mp [.kl (ns.map .int),.int base,.int many]) fun d=>∃ xs:List Mk,d=.lst (xs.map Mk.d)/\(∀ x∈xs,Mok x/\x.ms.length<=8)/\(xs.length:Int)=many:=by
 unfold Mp Aem
 rw[Bg]
 array_get_dec
 refine⟨⟨by lia,by lia⟩,Ab6 (fun k e m=>∃ (xs:List Mk) (v w:Option D),m=[.lst (xs.map Mk.d)]/\e=[some (.kl (ns.map .int)),some (.int base),some (.int many),some (.ref 0),v,w]/\xs.length=k/\∀ x∈xs,Mok x/\x.ms.length<=8) ?_ ?_ ⟨[],_,_,rfl,rfl,rfl,fun _ h=>nomatch h⟩⟩
 ·rintro k e m hk ⟨xs,v,w,rfl,rfl,hx,hok⟩
  refine⟨trivial,?_⟩
  have app:∀ x:Mk,Mok x/\x.ms.length<=8->∀ {u1 u2:Option D},xs.length < 1000000/\∃ (xs_1:List Mk) (v w:Option D),[MObj.lst (List.map Mk.d xs++[x.d])]=[MObj.lst (List.map Mk.d xs_1)]/\[some (D.kl (List.map D.int ns)),some (.int base),some (.int many),some (.ref 0),u1,u2]=[some (D.kl (List.map D.int ns)),some (.int base),some (.int many),some (.ref 0),v,w]/\xs_1.length=k+1/\∀ x∈xs_1,Mok x/\x.ms.length<=8:=fun x h u1 u2 =>
   ⟨by lia,xs++[x],_,_,by simp,rfl,by simp[hx],fun y hy=>by
    rcases List.mem_append.mp hy with h'|h'
    ·exact hok y h'
    ·simp at h';subst h';exact h⟩
  array_get_dec
  refine (Vu ns hl _ (by lia) (by lia)).imp fun d ⟨x,e,h1,h2⟩=>?_
  subst e
  array_get_dec
  refine cK.dec (fun h3=>B8 (Bm ns hl _ 4 (by lia) (by lia) (by decide)) fun v hv0 hv1=>?_) fun _=>app x ⟨h1,h2⟩
  array_get_dec
  refine cK.dec (fun _=>B8 (Bm ns hl _ _ (by lia) (by lia) (by lia)) fun v2 hv20 hv21=>?_) fun _=>app x ⟨h1,h2⟩
  array_get_dec
  refine Nw hv20 (by simp;lia) fun d _ hd=>?_
  obtain⟨y,hy,rfl⟩:=List.mem_map.mp hd
  array_get_dec
  refine (Afd ns hl _ (by lia) (by lia) y 8 (by decide) (by decide) ((hok y hy).1.good (hok y hy).2)).imp fun d ⟨z,e,h4,h5⟩=>?_
  subst e
  exact app z ⟨h4,h5⟩
 ·rintro e m ⟨xs,v,w,rfl,rfl,hx,hok⟩
  refine⟨trivial,?_⟩
  array_get_dec
  exact⟨xs,rfl,hok,by lia⟩
instance:Inhabited Mk:=⟨⟨0,0,0,[]⟩⟩
theorem Xd (a b c:Mk) (h:a.older c=true):a.older b=true\/b.older c=true:=by
 by_cases e:a=b
 ·subst e;exact .inr h
 ·cases q:a.older b with
  |true=>exact .inl rfl
  |false =>
   have:=Dv e
   rw[q] at this
   have h2:b.older a=true:=by cases z:b.older a with
    |true=>rfl
    |false=>rw[z] at this;cases this
   exact .inr (A2 h2 h)
theorem Ra (a b:Mk) (h1:a.older b=false) (h2:b.older a=false):a=b:=by
 by_cases e:a=b
 ·exact e
 ·have:=Dv e
  rw[h1,h2] at this
  cases this
theorem Vj {fn:List D->Option D}{m:MH}:∀ {xs:List Mk},(∀ x∈xs,fn [x.d]=some x.rk)->Lj fn m (xs.map Mk.d)=some (xs.map Mk.rk)
 |[],_=>rfl
 |x::xs,h=>by
  have e:Ei 1 fn [x.d] m=some x.rk:=by
   unfold Ei
   rw[B6,Ig x.pure]
   exact h x (Atk ..)
  rw[Atz,Lj,e,Atz]
  show (Lj fn m (xs.map Mk.d)).bind _=_
  rw[Vj fun y hy=>h y (Atn _ hy)]
  rfl
theorem Ag2 {xs:List Mk} (i:Nat) (hi:i < xs.length):(xs.map Mk.rk).getD i .non=(xs[i]).rk:=by
 rw[Atx,Aub,Atv hi]
 rfl
theorem Arh {xs:List Mk}{l:List Nat} (hi:∀ i∈l,i < xs.length):(l.map fun i=>(xs.map Mk.d).getD i .non)=(l.map fun i=>xs.getD i default).map Mk.d:=by
 rw[Avf]
 refine Avs fun i hi'=>?_
 have hlt:=hi i hi'
 rw[Atx,Aub,Atv hlt]
 show xs[i].d=(xs.getD i default).d
 rw[Atx,Atv hlt]
 rfl
theorem Abl {xs:List Mk}:∃ ys:List Mk,ys.Perm xs/\ys.Pairwise (fun x y=>y.older x=false)/\O7 false (xs.map Mk.d) (xs.map Mk.rk)=some (ys.map Mk.d):=by
 by_cases h2:xs.length < 2
 ·refine⟨xs,List.Perm.refl _,?_,?_⟩
  ·match xs,h2 with
   |[],_=>exact .nil
   |[x],_=>exact Avt ..
  ·unfold O7
   rw[Atq (by simpa using h2)]
 ·obtain⟨p,e,hp,hs,hi⟩:=Yh (blt:=Mk.older) (zs:=xs) D4 (fun a b c=>A2) Xd Ra (c:=fun i j=>ltD ((W.katRev false (xs.map Mk.rk)).getD i .non) ((W.katRev false (xs.map Mk.rk)).getD j .non)) (fun i j hi hj=>by
   have g:∀ i (hi:i < xs.length),(W.katRev false (xs.map Mk.rk)).getD i .non=(xs[i]).rk:=Ag2
   show ltD _ _=_
   rw[g i hi,g j hj,Mk.rk_lt]) (by lia)
  refine⟨p.toList.map fun i=>xs.getD i default,hp,hs,?_⟩
  unfold O7
  rw[Atl (by simpa using h2),At1,e]
  show some (W.katRev false _)=_
  congr 1
  exact Arh hi
theorem Abo {A B:List Mk} (hA:Cp A) (hB:Cp B) (nd:(A++B).Nodup):∃ ys:List Mk,ys.Perm (A++B)/\ys.Pairwise (fun x y=>y.older x=false)/\Lu ((A++B).map Mk.d) ((A++B).map Mk.rk)=some (ys.map Mk.d):=by
 obtain⟨R,h1,h2,h3,h4⟩:=Y2 (blt:=Mk.older) D4 (fun a b c=>A2) Ra (zs:=A) (ys:=B) (ks:=(A++B).map Mk.rk) (fun i j hi hj=>by rw[Ag2 i hi,Ag2 j hj,Mk.rk_lt]) hA hB nd
 refine⟨_,h2,h3.imp fun {x y} h=>?_,by rw[Abn (R:=R) (by rw[At1];exact h1),Arh h4]⟩
 cases e:y.older x with
 |false=>rfl
 |true=>have:=A2 h e;rw[D4] at this;cases this
theorem Abm {fn:List D->Option D}{m:MH}{A B:List Mk}{vs:List D} (h:∀ x∈A++B,fn [x.d]=some x.rk) (hA:Cp A) (hB:Cp B) (nd:(A++B).Nodup) (hl:(A++B).length < 128):∃ ys:List Mk,ys.Perm (A++B)/\ys.Pairwise (fun x y=>y.older x=false)/\Jp fn [.dic ((A++B).map Mk.d) vs] m=some (ys.map Mk.d):=by
 have hk:=Vj (m:=m) h
 have hw:64<=(A++B).length->∃ ys:List Mk,ys.Perm (A++B)/\ys.Pairwise (fun x y=>y.older x=false)/\Lu ((A++B).map Mk.d) ((A++B).map Mk.rk)=some (ys.map Mk.d):=fun _=>Abo hA hB nd
 generalize A++B=xs at h hl hk hw ⊢
 have hd:Np (Bu (xs.map Mk.d))=xs.map Mk.d:=N8 (Cn xs)
 have c1:(xs.map Mk.rk).all Ae0=true:=by
  rw[List.all_eq_true]
  intro d hd
  obtain⟨x,_,rfl⟩:=List.mem_map.mp hd
  rfl
 have c2:A7 (xs.map Mk.rk)=true:=B4 (Bp Mk.rk_pure)
 have c3:D8 (xs.map Mk.rk)<=20:=Dg fun d hd=>by
  obtain⟨x,_,rfl⟩:=List.mem_map.mp hd
  have:=Mk.rk_dep x
  lia
 obtain⟨ys,h1,h2,h3⟩:∃ ys:List Mk,ys.Perm xs/\ys.Pairwise (fun x y=>y.older x=false)/\(if (xs.map Mk.d).length < 64 then O7 false (xs.map Mk.d) (xs.map Mk.rk) else Lu (xs.map Mk.d) (xs.map Mk.rk))=some (ys.map Mk.d):=by
  by_cases q:(xs.map Mk.d).length < 64
  ·rw[Atq q];exact Abl
  ·rw[Atl q];exact hw (by rw[At1] at q;lia)
 refine⟨ys,h1,h2,?_⟩
 unfold Jp
 simp only
 rw[show Mi m (D.dic (xs.map Mk.d) vs)=some (xs.map Mk.d,vs) from rfl,Auz,hd,hk,Auz,h3,Auz]
 rw[Atq ⟨by simpa using hl,c1,c2,c3,by rw[At1,h1.length_eq];exact hl⟩]
theorem Pt (ps:List Pc) (hl:ps.length<=900) {Q:D->Prop}:W (R5 [.tup (ps.map pD)]) Q=Q (.lst ((Ej ps).map Mk.d)):=W.eq <| by
 unfold R5 Aps
 rw[Bg]
 array_get_dec
 refine C9 (fun rest e m=>∃ (ys:List Mk) (v w:Option D),m=[.lst (ys.map Mk.d)]/\e=[some (.tup (ps.map pD)),some (.ref 0),v,w]/\ys++Ej rest=Ej ps/\ys.length+2 * rest.length<=1800) ?_ ?_ ⟨[],_,_,rfl,rfl,rfl,by simp;lia⟩
 ·rintro ⟨l,h⟩ rest e m ⟨ys,v,w,rfl,rfl,he,hn⟩
  refine⟨trivial,?_⟩
  rw[Atw] at hn
  cases h with
  |none =>
   array_get_dec
   exact⟨by lia,ys++[l],_,_,by simp,rfl,by rw[<- he];simp[Ej],by simp;lia⟩
  |some h =>
   array_get_dec
   simp only[oD]
   array_get_dec
   exact⟨by lia,by simp;lia,ys++[l,h],_,_,by simp,rfl,by rw[<- he];simp[Ej],by simp;lia⟩
 ·rintro e m ⟨ys,v,w,rfl,rfl,he,hn⟩
  refine⟨trivial,?_⟩
  rw[Ej,At6] at he
  subst he
  array_get_dec
def small (p:Pc):Prop:=p.1.ms.length<=1000/\∀ h,p.2=some h->h.ms.length<=1000
theorem Zr {m l:Mk}:inP m (l,none)=!m.older l:=by simp[inP]
theorem Zs {m l h:Mk}:inP m (l,some h)=(!m.older l&&m.older h):=by simp[inP]
theorem Akg (m:Mk) (ps:List Pc) (hm:m.ms.length<=1000) (hp:∀ p∈ps,small p) (hl:ps.length<=1000) {Q:D->Prop}:W (Hf [m.d,.tup (ps.map pD)]) Q=Q (.bl (ps.any (inP m))):=W.eq <| by
 unfold Hf Aej
 rw[Bg]
 array_get_dec
 refine C9 (fun rest e w=>w=[]/\(∀ p∈rest,small p)/\rest.any (inP m)=ps.any (inP m)/\∃ v w,e=[some m.d,some (.tup (ps.map pD)),v,w]) ?_ ?_ ⟨rfl,hp,rfl,_,_,rfl⟩
 ·rintro ⟨l,h⟩ rest e w ⟨rfl,hs,ha,v,w,rfl⟩
  refine⟨trivial,?_⟩
  have s1:=hs _ (Atk ..)
  have s2:∀ p∈rest,small p:=fun p hp=>hs p (Atn _ hp)
  rw[Awd] at ha
  have e1:=@Lo m l hm s1.1
  have yes:inP m (l,h)=true->D.bl true=D.bl (ps.any (inP m)):=fun z=>by rw[<- ha,z];rfl
  have no:inP m (l,h)=false->rest.any (inP m)=ps.any (inP m):=fun z=>by rw[<- ha,z];rfl
  cases h with
  |none =>
   simp_arith[e1]
   rw[Zr] at yes no
   exact cK.mk (fun z=>yes z) fun z=>⟨s2,no z,_,_,rfl⟩
  |some h =>
   have e2:=@Lo m h hm (s1.2 h rfl)
   simp_arith[e1]
   simp only[oD]
   simp_arith[e2]
   rw[Zs] at yes no
   refine cK.mk (fun z=>cK.mk (fun z'=>yes (by rw[z,z'];rfl)) fun z'=>⟨s2,no (by rw[z,z'];rfl),_,_,rfl⟩) fun z=>⟨s2,no (by rw[z];rfl),_,_,rfl⟩
 ·rintro e w ⟨rfl,hs,ha,v,w,rfl⟩
  refine⟨trivial,?_⟩
  array_get_dec
  rw[<- ha];rfl
theorem Aj5 (L:TL) {x:Mk} (hk:Bz x.d=true) {Q:D->Prop}:W (Akv x.d (.ref 0) [Iu L]) Q=Q (.bl (decide (x∈L.map (·.1)))):=by
 have e:Akv x.d (.ref 0) [Iu L]=some (.bl (decide (x∈L.map (·.1)))):=by
  unfold Akv Mi Iu
  simp only[List.getElem?_cons_zero,Auz]
  rw[Atq hk,Vc]
 rw[e,Ab]
theorem Ab1 (E F:List Mk) (hE:Cp E) (hF:Cp F) (kE:∀ x∈E,Bz x.d=true) (kF:∀ x∈F,Bz x.d=true) (lE:E.length<=100) (lF:F.length<=100) :
  W (U7 [.tup ((Ak E).map pD),.tup ((Ak F).map pD)]) fun d=>∃ L:TL,d=.dic (L.map fun p=>p.1.d) (L.map fun p=>p.2)/\TOk L (fun x=>decide (x∈E)) (fun x=>decide (x∈F)) (fun x=>x∈E\/x∈F)/\L.map (·.1)=E++F.filter (fun x=>!decide (x∈E)):=by
 unfold U7 Apt
 rw[Bg]
 have pl:∀ G:List Mk,G.length<=100->(Ak G).length<=900:=fun G h=>by rw[B5];lia
 simp_arith[Pt (Ak E) (pl E lE),D1]
 refine C9 (fun rest e m=>∃ (L:TL) (pre:List Mk) (u:Option D),m=[Iu L]/\e=[some (.tup ((Ak E).map pD)),some (.tup ((Ak F).map pD)),some (.ref 0),u]/\E=pre++rest/\TOk L (fun _=>true) (fun _=>false) (fun x=>x∈pre)/\L.map (·.1)=pre) ?_ ?_ ⟨[],[],_,rfl,rfl,rfl,⟨.nil,fun x=>by simp,fun x w h=>nomatch h⟩,rfl⟩
 ·rintro x rest e m ⟨L,pre,u,rfl,rfl,he,hT,hl⟩
  refine⟨trivial,?_⟩
  have hpl:pre.length<=100:=by rw[he] at lE;simp at lE;lia
  have hl2:L.length=pre.length:=by rw[<- hl,At1]
  have hx:x∉pre:=fun z=>by
   rw[he] at hE
   have:=(List.pairwise_append.mp hE).2.2 x z x (Atk ..)
   rw[Da] at this;cases this
  array_get_dec
  refine Pr rfl (Pp L) (by lia) (kE x (by rw[he];simp)) ?_
  rw[Ux]
  array_get_dec
  refine⟨Y7 L x _,pre++[x],_,rfl,rfl,by rw[he];simp,⟨Xw hT.nd,fun y=>by rw[Rg,hT.mem];simp,fun y w hw=>?_⟩,by rw[Ey,hl,Atl hx]⟩
  rcases P8 hw with ⟨_,h⟩|⟨h,_⟩
  ·exact h
  ·exact hT.val y w h
 ·rintro e m ⟨L,pre,u,rfl,rfl,he,hT,hl⟩
  rw[At6] at he
  subst he
  refine⟨trivial,?_⟩
  simp_arith[Pt (Ak F) (pl F lF),D1]
  refine C9 (fun rest e m=>∃ (L:TL) (pre:List Mk) (u:Option D),m=[Iu L]/\e=[some (.tup ((Ak E).map pD)),some (.tup ((Ak F).map pD)),some (.ref 0),u]/\F=pre++rest/\TOk L (fun x=>decide (x∈E)) (fun x=>decide (x∈pre)) (fun x=>x∈E\/x∈pre)/\L.map (·.1)=E++pre.filter (fun x=>!decide (x∈E))) ?_ ?_ ⟨L,[],_,rfl,rfl,rfl,⟨hT.nd,fun x=>by rw[hT.mem];simp,fun x w h=>?_⟩,by rw[hl];simp⟩
  ·rintro x rest e m ⟨L,pre,u,rfl,rfl,he,hT,hl⟩
   refine⟨trivial,?_⟩
   have hpl:pre.length<=100:=by rw[he] at lF;simp at lF;lia
   have hl2:L.length<=E.length+pre.length:=by
    have:=List.length_filter_le (fun x=>!decide (x∈E)) pre
    rw[<- At1 (f:=(·.1)),hl,At8];lia
   have hx:x∉pre:=fun z=>by
    rw[he] at hF
    have:=(List.pairwise_append.mp hF).2.2 x z x (Atk ..)
    rw[Da] at this;cases this
   have kx:=kF x (by rw[he];simp)
   array_get_dec
   rw[Aj5 L kx,decide_eq_decide.mpr (show x∈L.map (·.1) ↔ x∈E by rw[hT.mem];exact⟨fun h=>h.elim id fun z=>absurd z hx,.inl⟩)]
   refine Pr rfl (Pp L) (by lia) kx ?_
   rw[Ux]
   array_get_dec
   refine⟨Y7 L x (.tup [.bl (decide (x∈E)),.bl true]),pre++[x],_,rfl,rfl,by rw[he];simp,⟨Xw hT.nd,fun y=>by rw[Rg,hT.mem];simp[or_assoc],fun y w hw=>?_⟩,?_⟩
   rotate_left
   ·rw[Ey,List.filter_append]
    by_cases q:x∈E
    ·rw[Atq ((hT.mem x).mpr (.inl q)),hl];simp[q]
    ·rw[Atl (fun z=>((hT.mem x).mp z).elim q hx),hl];simp[q]
   rcases P8 hw with ⟨rfl,h⟩|⟨h,hne⟩
   ·rw[h];simp
   ·rw[hT.val y w h]
    have:y≠x:=fun z=>hne z (by rw[<- z];exact Au0 (f:=(·.1)) h)
    simp[this]
  ·rintro e m ⟨L,pre,u,rfl,rfl,he,hT,hl⟩
   rw[At6] at he
   subst he
   refine⟨trivial,?_⟩
   array_get_dec
   unfold Iu
   rw[Ajh]
   exact⟨hT.pure,L,rfl,hT,hl⟩
  ·rw[hT.val x w h,Avl ((hT.mem x).mp (Au0 (f:=(·.1)) h))]
   simp
open Classical in
noncomputable def Er (T:List (Lam×(List D->Option D))) (n:Nat) (d:D) (ds':List D):Option D:=match d with
 |.fn j l=>(T[j]?).bind fun p=>if l=p.1/\ds'.length=n then p.2 ds' else none
 |_=>none
theorem Adp {T:List (Lam×(List D->Option D))}{n:Nat}{f:FE}{g:FL}{env:Ax}{m:MH}{Q:D->Prop}:W (Mm T n f g env m) Q=W (f env m) fun d=>W (g env m) fun ds=>W (B6 m ds) fun ds'=>W (Er T n d ds') Q:=by
 unfold Mm
 rw[W_bind];congr 1;funext d
 rw[W_bind];congr 1;funext ds
 rw[W_bind]<;>rfl
theorem Ap3 (a b:Bool):(!decide (a=b))=(a != b):=by cases a<;>cases b<;>rfl
theorem Y9 {n:Nat}{fn:List D->Option D}{ds:List D}{m:MH}{Q:D->Prop}:W (Ep n fn ds m) Q=W (Cd m ds) fun ds'=>ds'.length=n/\W (fn ds') Q:=by
 unfold Ep
 rw[W_bind];congr 1;funext z
 by_cases h:z.length=n
 ·rw[Atq h];simp[h]
 ·rw[Atl h,Bl];simp[h]
theorem Ahd (R:List Mk) (hl:R.length<=900) {Q:D->Prop}:W (U8 [.lst (R.map Mk.d)]) Q=Q (.tup ((Ak R).map pD)):=W.eq <| by
 unfold U8 Apv
 rw[Bg]
 array_get_dec
 refine⟨by lia,⟨by lia,by lia⟩,by simp;lia,Cj (fun q:Nat=>D.tup [(R.getD (2 * q) default).d,oD R[2 * q+1]?]) (fun q hq=>?_) ?_⟩
 ·have hq:2 * q < R.length:=by have:=List.mem_range.mp hq;lia
  have e1:∀ {Q:D->Prop},W (atI (R.map Mk.d) ((q:Int) * 2)) Q=Q (R.getD (2 * q) default).d:=fun {Q}=>by
   rw[show ((q:Int) * 2)=((2 * q:Nat):Int) by lia,J2 hq]
   simp[hq]
  have e2:∀ {Q:D->Prop},W (atI (R.map Mk.d++[D.non]) ((q:Int) * 2+1)) Q=Q (oD R[2 * q+1]?):=fun {Q}=>by
   have e:R.map Mk.d++[D.non]=(R.map some++[none]).map oD:=by
    rw[Auh,Avf];rfl
   have hl:2 * q+1 < (R.map some++[none]).length:=by simp;lia
   rw[e,show ((q:Int) * 2+1)=((2 * q+1:Nat):Int) by lia,J2 hl]
   congr 2
   by_cases h:2 * q+1 < R.length
   ·rw[List.getElem_append_left (by simpa using h)];simp[h]
   ·rw[List.getElem_append_right (by simpa using h)];simp;lia
  simp_arith[e1,e2]
 ·have e:(List.range ((R.length+1) / 2)).map (fun q:Nat=>D.tup [(R.getD (2 * q) default).d,oD R[2 * q+1]?])=(Ak R).map pD:=by
   refine Av0 fun i=>?_
   by_cases hi:i < (R.length+1) / 2
   ·have h2:2 * i < R.length:=by lia
    rw[Aub,Aub,Gf R i h2,List.getElem?_range hi]
    simp[pD,h2]
   ·rw[Auk (by simpa using hi),Auk (by rw[At1,B5];lia)]
  rw[e,Rx (by rw[Bb];exact Cv _)]
theorem N5 {j:Nat}{l:Lam}{keep:Bool->Bool->Bool} (hkp:∀ (a b:Bool) {Q:D->Prop},W (Er P6 2 (.fn j l) [.bl a,.bl b]) Q=Q (.bl (keep a b))) (E F:List Mk) (hE:Cp E) (hF:Cp F) (kE:∀ x∈E,Bz x.d=true/\x.ms.length<=1000) (kF:∀ x∈F,Bz x.d=true/\x.ms.length<=1000) (lE:E.length<=100) (lF:F.length<=100) (lEF:∀ L:List Mk,L.Nodup->(∀ x∈L,x∈E\/x∈F)->L.length<=100) :
  W (Mt [.tup ((Ak E).map pD),.tup ((Ak F).map pD),.fn j l]) fun d=>∃ S:List Mk,Cp S/\(∀ x,x∈S ↔ x∈E\/x∈F)/\S.length<=100/\d=.tup ((Ak (Gy keep (fun x=>decide (x∈E)) (fun x=>decide (x∈F)) false false false S)).map pD):=by
 unfold Mt Apu
 rw[Bg]
 array_get_dec
 refine (Ab1 E F hE hF (fun x h=>(kE x h).1) (fun x h=>(kF x h).1) lE lF).imp fun d ⟨L,e,hT,hL⟩=>?_
 subst e
 have hS:∀ x∈L.map (·.1),x∈E\/x∈F:=fun x h=>(hT.mem x).mp h
 have hL2:(L.map (·.1)).length<=100:=lEF _ hT.nd hS
 obtain⟨S,h1,h2,e⟩:=Abm (fn:=Jj) (m:=[.lst []]) (A:=E) (B:=F.filter (fun x=>!decide (x∈E))) (vs:=L.map fun p=>p.2) (fun x h=>W.out (by rw[Ag1 x ((hS x (by rw[hL];exact h)).elim (fun z=>(kE x z).2) fun z=>(kF x z).2)])) hE (hF.filter _) (by rw[<- hL];exact hT.nd) (by rw[<- hL];lia)
 rw[<- hL] at h1 e
 rw[Avf] at e
 rw[show (fun p:ML.Mk×D=>p.1.d)=Mk.d ∘ (·.1) from rfl,e,Ab]
 have hSl:S.length<=100:=by rw[h1.length_eq];exact hL2
 have hSm:∀ x,x∈S ↔ x∈E\/x∈F:=fun x=>by rw[h1.mem_iff,hT.mem]
 have hR:Cp S:=(h2.and (h1.nodup_iff.mpr hT.nd)).imp fun {x y} ⟨a,b⟩=>by rw[Dv b,a];rfl
 refine C9 (fun rest e m=>∃ (pre ys:List ML.Mk) (a b k:Bool) (u:Option D),S=pre++rest/\m=[.lst (ys.map Mk.d)]/\e=[some (D.tup (List.map pD (Ak E))),some (D.tup (List.map pD (Ak F))),some (D.fn j l),some (.dic (L.map (Mk.d ∘ (·.1))) (L.map fun p=>p.2)),some (.bl a),some (.bl b),some (.bl k),some (.ref 0),u]/\ys++Gy keep (fun x=>decide (x∈E)) (fun x=>decide (x∈F)) a b k rest=Gy keep (fun x=>decide (x∈E)) (fun x=>decide (x∈F)) false false false S/\ys.length<=pre.length) ?_ ?_ ⟨[],[],false,false,false,_,rfl,rfl,rfl,rfl,Atp _⟩
 ·rintro x rest e m ⟨pre,ys,a,b,k,u,he,rfl,rfl,hw,hl⟩
  refine⟨trivial,?_⟩
  have hx:x∈E\/x∈F:=(hSm x).mp (by rw[he];simp)
  have kx:Bz x.d=true:=hx.elim (fun z=>(kE x z).1) fun z=>(kF x z).1
  have hg:∀ {m:MH}{Q:D->Prop},W (Afh (.dic (L.map (Mk.d ∘ (·.1))) (L.map fun p=>p.2)) x.d m) Q=Q (.tup [.bl (decide (x∈E)),.bl (decide (x∈F))]):=fun {m Q}=>by
   have e:Afh (.dic (L.map (Mk.d ∘ (·.1))) (L.map fun p=>p.2)) x.d m=some (.tup [.bl (decide (x∈E)),.bl (decide (x∈F))]):=by
    unfold Afh Mi
    simp only[Auz]
    rw[Atq kx]
    exact hT.get hx
   rw[e,Ab]
  rw[Gy] at hw
  simp_arith[hg,Adp,hkp,Ap3]
  have hp:pre.length<=100:=by rw[he] at hSl;simp at hSl;lia
  refine cK.mk (fun z=>?_) fun z=>?_
  ·rw[Atq z] at hw
   exact⟨by lia,pre++[x],ys++[x],_,_,_,_,by rw[he];simp,by simp,rfl,by rw[<- hw];simp,by simp;lia⟩
  ·rw[Atl (by rw[z];simp)] at hw
   exact⟨pre++[x],ys,_,_,_,_,by rw[he];simp,rfl,rfl,hw,by simp;lia⟩
 ·rintro e m ⟨pre,ys,a,b,k,u,he,rfl,rfl,hw,hl⟩
  refine⟨trivial,?_⟩
  rw[At6] at he
  rw[Gy,At6] at hw
  array_get_dec
  rw[Ahd ys (by rw[he] at hSl;lia),Rx (by rw[Bb];exact Cv _)]
  exact⟨S,hR,hSm,hSl,by rw[hw]⟩
theorem Yw {fn:List D->Option D}{j:Nat}{l:Lam}{keep:Bool->Bool->Bool} (hf:keep false false=false) (hk:∀ (a b:Bool) {Q:D->Prop},W (Er P6 2 (.fn j l) [.bl a,.bl b]) Q=Q (.bl (keep a b)))
  (hfn:∀ {x y:D}{Q:D->Prop},W (fn [x,y]) Q=W (Ay (Ep 3 Mt) (Aa (Ad 0) (Aa (Ad 1) (Aa (fC (.fn j l)) Aj))) [some x,some y] []) fun d=>W (B0 [] d) Q)
  (E F:List Mk) (hE:Cp E) (hF:Cp F) (kE:∀ x∈E,Bz x.d=true/\x.ms.length<=1000) (kF:∀ x∈F,Bz x.d=true/\x.ms.length<=1000) (lE:E.length<=100) (lF:F.length<=100) (lEF:∀ L:List Mk,L.Nodup->(∀ x∈L,x∈E\/x∈F)->L.length<=100) :
  W (fn [.tup ((Ak E).map pD),.tup ((Ak F).map pD)]) fun d=>∃ R:List Mk,d=.tup ((Ak R).map pD)/\Cp R/\(∀ x∈R,x∈E\/x∈F)/\R.length<=100/\∀ z,par z R=keep (par z E) (par z F):=by
 rw[hfn]
 array_get_dec
 have ha:Cd [] [D.tup ((Ak E).map pD),D.tup ((Ak F).map pD),D.fn j l]=some [D.tup ((Ak E).map pD),D.tup ((Ak F).map pD),D.fn j l]:=by
  have h1:∀ G:List Mk,Ahv [] (D.tup ((Ak G).map pD))=some (D.tup ((Ak G).map pD)):=fun G=>by
   show C8 [] (D.tup ((Ak G).map pD))=_
   exact Ig (by rw[Bb];exact Cv (Ak G))
  rw[Cd,Cd,Cd,h1,h1];rfl
 rw[Y9,ha,Ab]
 refine⟨rfl,?_⟩
 refine (N5 hk E F hE hF kE kF lE lF lEF).imp fun d ⟨S,hS,hm,hl,e⟩=>?_
 subst e
 rw[Rx (by rw[Bb];exact Cv _)]
 refine⟨_,rfl,hS.sublist (De ..),fun x hx=>(hm x).mp ((De ..).subset hx),Auf (De ..).length_le hl,fun z=>?_⟩
 rw[Ih (k:=false) hS hf,Xj hE hS fun x hx=>(hm x).mpr (.inl hx),Xj hF hS fun x hx=>(hm x).mpr (.inr hx)]
 simp
theorem Aad (a b:Bool) {Q:D->Prop}:W (Er P6 2 (.fn 0 lam_met) [.bl a,.bl b]) Q=Q (.bl (a&&b)):=by
 have h:∀ {Q:D->Prop},W (Hd [.bl a,.bl b]) Q=Q (.bl (a&&b)):=fun {Q}=>W.eq <| by
  unfold Hd fnE Acd
  rw[W_bind]
  array_get_dec
  cases a<;>cases b<;>array_get_dec<;>rw[Atq trivial,Ab]<;>rfl
 unfold Er
 show W ((P6[0]?).bind _) Q=_
 rw[show P6[0]?=some (lam_met,Hd) from rfl,Auz,Atq ⟨rfl,rfl⟩,h]
theorem Aci (E F:List Mk) (hE:Cp E) (hF:Cp F) (kE:∀ x∈E,Bz x.d=true/\x.ms.length<=1000) (kF:∀ x∈F,Bz x.d=true/\x.ms.length<=1000) (lE:E.length<=100) (lF:F.length<=100) (lEF:∀ L:List Mk,L.Nodup->(∀ x∈L,x∈E\/x∈F)->L.length<=100) :
  W (Jh [.tup ((Ak E).map pD),.tup ((Ak F).map pD)]) fun d=>∃ R:List Mk,d=.tup ((Ak R).map pD)/\Cp R/\(∀ x∈R,x∈E\/x∈F)/\R.length<=100/\∀ z,par z R=(fun a b=>a&&b) (par z E) (par z F) :=
 Yw (keep:=fun a b=>a&&b) rfl Aad (fun {x y Q}=>by
  unfold Jh R9
  rw[Bg]
  array_get_dec) E F hE hF kE kF lE lF lEF
theorem Oh (a b:Bool) {Q:D->Prop}:W (Er P6 2 (.fn 1 lam_z9) [.bl a,.bl b]) Q=Q (.bl (a||b)):=by
 have h:∀ {Q:D->Prop},W (Mo [.bl a,.bl b]) Q=Q (.bl (a||b)):=fun {Q}=>W.eq <| by
  unfold Mo fnE Aj4
  rw[W_bind]
  array_get_dec
  cases a<;>cases b<;>array_get_dec<;>rw[Atq trivial,Ab]<;>rfl
 unfold Er
 show W ((P6[1]?).bind _) Q=_
 rw[show P6[1]?=some (lam_z9,Mo) from rfl,Auz,Atq ⟨rfl,rfl⟩,h]
theorem Mx (E F:List Mk) (hE:Cp E) (hF:Cp F) (kE:∀ x∈E,Bz x.d=true/\x.ms.length<=1000) (kF:∀ x∈F,Bz x.d=true/\x.ms.length<=1000) (lE:E.length<=100) (lF:F.length<=100) (lEF:∀ L:List Mk,L.Nodup->(∀ x∈L,x∈E\/x∈F)->L.length<=100) :
  W (R7 [.tup ((Ak E).map pD),.tup ((Ak F).map pD)]) fun d=>∃ R:List Mk,d=.tup ((Ak R).map pD)/\Cp R/\(∀ x∈R,x∈E\/x∈F)/\R.length<=100/\∀ z,par z R=(fun a b=>a||b) (par z E) (par z F) :=
 Yw (keep:=fun a b=>a||b) rfl Oh (fun {x y Q}=>by
  unfold R7 Ah0
  rw[Bg]
  array_get_dec) E F hE hF kE kF lE lF lEF
theorem Vm (a b:Bool) {Q:D->Prop}:W (Er P6 2 (.fn 2 lam_z20) [.bl a,.bl b]) Q=Q (.bl (a&&!b)):=by
 have h:∀ {Q:D->Prop},W (He [.bl a,.bl b]) Q=Q (.bl (a&&!b)):=fun {Q}=>W.eq <| by
  unfold He fnE Ace
  rw[W_bind]
  array_get_dec
  cases a<;>cases b<;>array_get_dec<;>rw[Atq trivial,Ab]<;>rfl
 unfold Er
 show W ((P6[2]?).bind _) Q=_
 rw[show P6[2]?=some (lam_z20,He) from rfl,Auz,Atq ⟨rfl,rfl⟩,h]
theorem Ae5 (E F:List Mk) (hE:Cp E) (hF:Cp F) (kE:∀ x∈E,Bz x.d=true/\x.ms.length<=1000) (kF:∀ x∈F,Bz x.d=true/\x.ms.length<=1000) (lE:E.length<=100) (lF:F.length<=100) (lEF:∀ L:List Mk,L.Nodup->(∀ x∈L,x∈E\/x∈F)->L.length<=100) :
  W (Ms [.tup ((Ak E).map pD),.tup ((Ak F).map pD)]) fun d=>∃ R:List Mk,d=.tup ((Ak R).map pD)/\Cp R/\(∀ x∈R,x∈E\/x∈F)/\R.length<=100/\∀ z,par z R=(fun a b=>a&&!b) (par z E) (par z F) :=
 Yw (keep:=fun a b=>a&&!b) rfl Vm (fun {x y Q}=>by
  unfold Ms Ta
  rw[Bg]
  array_get_dec) E F hE hF kE kF lE lF lEF
def spn (E:List Mk):D:=.tup ((Ak E).map pD)
theorem U0 (ns:List Int) (hl:ns.length<=63) (k:Int) (hk:0<=k) (hk2:k < 1000):∀ (xs:List Mk) (i:Nat),i+xs.length<=100->W (D7 (Im 2 (B2 (Ar 2) (B2 (Ar 3) Po))) (Be (f2 oEq (fC3 Bw (Ad 0) (f2 C5 (Ad 1) (Ad 2)) (fC (D.int 2))) (fC (D.int 0)))) (Ad 3) [] [some (D.kl (List.map D.int ns)),some (D.int k),none,none] (Dq i (xs.map Mk.d))) fun ds=>∃ ys:List Mk,ds=ys.map Mk.d/\(∀ y∈ys,y∈xs)/\ys.length<=xs.length
 |[],i,_=>by
  rw[Awb,Dq,Eo]
  exact⟨[],rfl,(fun _ h=>nomatch h),Atp _⟩
 |x::xs,i,hi=>by
  rw[Atz,Dq,Dz]
  rw[Atw] at hi
  have ih:=U0 ns hl k hk hk2 xs (i+1) (by lia)
  array_get_dec
  refine B8 (Bm ns hl _ 2 (by lia) (by lia) (by decide)) fun v h0 h1=>?_
  array_get_dec
  refine cK.mk (fun z=>ih.imp fun ds ⟨ys,e,h2,h3⟩=>?_) fun z=>ih.imp fun ds ⟨ys,e,h2,h3⟩=>?_
  ·exact⟨x::ys,by rw[e];rfl,fun y hy=>by
    rcases List.mem_cons.mp hy with q|q
    ·rw[q];exact Atk ..
    ·exact Atn _ (h2 y q),Nat.succ_le_succ h3⟩
  ·exact⟨ys,e,fun y hy=>Atn _ (h2 y hy),Nat.le_succ_of_le h3⟩
theorem Adr {g:FL}{env:Ax}{m:MH}{Q:Wk->Prop}{ds:List D} (h:g env m=some [.lst ds]):W (Ci g env m) Q=Q ⟨Dq 0 ds,Az⟩:=by
 have e:Ci g env m=some ⟨Dq 0 ds,Az⟩:=by
  unfold Ci
  rw[h];rfl
 rw[e,Ab]
theorem Yf (ns:List Int) (hl:ns.length<=63) (k:Int) (hk:0<=k) (hk2:k < 1000) (xs:List Mk) (hx:∀ x∈xs,x.ms.length<=1000) (hn:xs.length<=90):W (Ji [.kl (ns.map .int),.int k,.lst (xs.map Mk.d)]) fun d=>∃ ys:List Mk,d=.tup ((Ak ys).map pD)/\Cp ys/\(∀ y∈ys,y∈xs)/\ys.length<=xs.length:=by
 unfold Ji Aet
 rw[Bg]
 array_get_dec
 rw[Adr rfl]
 refine⟨⟨trivial,by show (Dq 0 _).length<=_;rw[Hc,At1];lia⟩,?_⟩
 refine (U0 ns hl k hk hk2 xs 0 (by lia)).imp fun ds ⟨ys,e,h1,h2⟩=>?_
 subst e
 refine⟨Du ys,(Nh ys (fun y hy=>hx y (h1 y hy)) (by lia)).imp fun d ⟨zs,e,hr,hm,hz⟩=>?_⟩
 subst e
 rw[P7 (Cn zs)]
 refine⟨Du zs,?_⟩
 rw[Xo zs (by lia),Rx (by rw[Bb];exact Cv _)]
 exact⟨zs,rfl,hr,fun y hy=>h1 y ((hm y).mp hy),by lia⟩
theorem Aji {g:FL}{env:Ax}{m:MH}{Q:Wk->Prop}{xs ys:List D} (h:g env m=some [.lst xs,.lst ys]):W (Ah8 g env m) Q=Q ⟨Nu xs ys,fun m=>Az m/\Az m⟩:=by
 have e:Ah8 g env m=some ⟨Nu xs ys,fun m=>Az m/\Az m⟩:=by
  unfold Ah8
  rw[h];rfl
 rw[e,Ab]
theorem Y3 (f:Mk->Bool):∀ E:List Mk,Nu (E.map Mk.d) (E.map fun e=>D.bl (f e))=E.map fun e=>D.tup [e.d,.bl (f e)]
 |[]=>rfl
 |e::r=>by rw[Atz,Atz,Atz,Nu,Y3 f r]
def cst (f:Mk->Bool) (lo:Option Mk) (r:List Mk):List Pc:=match lo with
 |none=>Ak (cw f false r)
 |some l=>Ak (l::cw f true r)
theorem J8 (f:Mk->Bool) (E:List Mk) (hl:E.length<=900) {Q:D->Prop}:W (Hh [.lst (E.map Mk.d),.lst (E.map fun e=>.bl (f e))]) Q=Q (spn (cw f false E)):=W.eq <| by
 unfold Hh Aen
 rw[Bg]
 array_get_dec
 rw[Aji rfl,Y3]
 refine C9 (h:=fun e=>D.tup [e.d,.bl (f e)]) (fun rest e m=>∃ (ps:List Pc) (lo:Option Mk) (u v:Option D),m=[.lst (ps.map pD)]/\e=[some (D.lst (E.map Mk.d)),some (.lst (E.map fun e=>.bl (f e))),some (.ref 0),some (oD lo),u,v]/\ps++cst f lo rest=Ak (cw f false E)/\ps.length+rest.length<=900) ?_ ?_ ⟨[],none,_,_,rfl,rfl,rfl,by simpa using hl⟩
 ·rintro x rest e m ⟨ps,lo,u,v,rfl,rfl,he,hn⟩
  refine⟨⟨trivial,trivial⟩,?_⟩
  rw[Atw] at hn
  cases lo with
  |none =>
   simp only[oD]
   array_get_dec
   cases hf:f x with
   |true =>
    array_get_dec
    refine⟨ps,some x,_,_,rfl,rfl,?_,by lia⟩
    rw[<- he]
    simp[cst,cw,hf]
   |false =>
    array_get_dec
    refine⟨ps,none,_,_,rfl,rfl,?_,by lia⟩
    rw[<- he]
    simp[cst,cw,hf]
  |some l =>
   simp only[oD]
   array_get_dec
   cases hf:f x with
   |true =>
    array_get_dec
    refine⟨ps,some l,_,_,rfl,rfl,?_,by lia⟩
    rw[<- he]
    simp[cst,cw,hf]
   |false =>
    array_get_dec
    refine⟨by lia,ps++[(l,some x)],none,_,_,by simp[pD,oD],rfl,?_,by simp;lia⟩
    rw[<- he]
    simp[cst,cw,hf,Ak]
 ·rintro e m ⟨ps,lo,u,v,rfl,rfl,he,hn⟩
  refine⟨⟨trivial,trivial⟩,?_⟩
  cases lo with
  |none =>
   simp only[oD]
   array_get_dec
   rw[spn,<- he]
   simp[cst,cw,Ak]
  |some l =>
   simp only[oD]
   array_get_dec
   rw[spn,<- he]
   exact⟨by simp at hn;lia,by simp[cst,cw,Ak,pD,oD]⟩
theorem Aed (E F:List Mk) (lE:E.length<=100) (lF:F.length<=100) (kE:∀ x∈E,x.ms.length<=1000) (kF:∀ x∈F,x.ms.length<=1000):W (Mr [.lst [spn E,spn F]]) fun d=>∃ zs:List Mk,d=.lst (zs.map Mk.d)/\Cp zs/\(∀ y,y∈zs ↔ y∈Ah3::(E++F))/\zs.length<=201:=by
 unfold Mr Aes
 rw[Bg]
 array_get_dec
 refine C9 (h:=spn) (xs:=[E,F]) (fun rest e m=>∃ (xs:List Mk) (u v w:Option D),m=[.lst (xs.map Mk.d)]/\e=[some (D.lst [spn E,spn F]),some (.ref 0),u,v,w]/\xs++rest.flatten=Ah3::(E++F)) ?_ ?_ ⟨[Ah3],_,_,_,rfl,rfl,by simp⟩
 ·rintro G rest e m ⟨xs,u,v,w,rfl,rfl,he⟩
  refine⟨trivial,?_⟩
  unfold spn
  array_get_dec
  have hn:xs.length+G.length<=201:=by
   have:=Au5 List.length he
   simp at this
   lia
  refine C9 (h:=pD) (fun ps e m=>∃ (ys:List Mk) (v w:Option D),m=[.lst (ys.map Mk.d)]/\e=[some (D.lst [spn E,spn F]),some (.ref 0),some (spn G),v,w]/\ys++Ej ps=xs++G) ?_ ?_ ⟨xs,_,_,rfl,rfl,by rw[D1]⟩
  ·rintro ⟨l,h⟩ ps e m ⟨ys,v,w,rfl,rfl,hy⟩
   refine⟨trivial,?_⟩
   have hm:ys.length+(Ej ((l,h)::ps)).length<=201:=by
    have:=Au5 List.length hy
    simp only[At8] at this
    lia
   cases h with
   |none =>
    array_get_dec
    exact⟨by lia,ys++[l],_,_,by simp,rfl,by rw[<- hy];simp[Ej]⟩
   |some h =>
    array_get_dec
    simp only[oD]
    array_get_dec
    exact⟨by lia,by simp[Ej] at hm ⊢;lia,ys++[l,h],_,_,by simp,rfl,by rw[<- hy];simp[Ej]⟩
  ·rintro e m ⟨ys,v,w,rfl,rfl,hy⟩
   rw[Ej,At6] at hy
   exact⟨trivial,ys,_,_,_,rfl,rfl,by rw[hy,<- he];simp⟩
 ·rintro e m ⟨xs,u,v,w,rfl,rfl,he⟩
  refine⟨trivial,?_⟩
  have he:xs=Ah3::(E++F):=by rw[<- he];simp
  subst he
  array_get_dec
  refine⟨Du (Ah3::(E++F)),W.imp (Nh (Ah3::(E++F)) (fun y hy=>?_) (by simp;lia)) fun d ⟨zs,e,hr,hm,hz⟩=>?_⟩
  ·rcases List.mem_cons.mp hy with rfl|hy
   ·exact by decide
   ·exact (List.mem_append.mp hy).elim (kE y) (kF y)
  ·subst e
   rw[P7 (Cn zs)]
   exact cK.mk (fun _=>⟨zs,rfl,hr,hm,by simp at hz;lia⟩) fun z=>by rw[Cn] at z;cases z
theorem Yt (R:List Mk) (hl:R.length<=900) {Q:D->Prop}:W (U5 [spn R]) Q=Q (.bl true):=W.eq <| by
 unfold U5 Apq spn
 rw[Bg]
 array_get_dec
 refine⟨by rw[B5];lia,Cj (fun _=>D.bl true) (fun p hp=>?_) ?_⟩
 ·unfold pD
  array_get_dec
  rfl
 ·have e:∀ l:List Pc,N2 (l.map fun _=>D.bl true)=some (l.map fun _=>true):=fun l=>by
   induction l with
   |nil=>rfl
   |cons a l ih=>rw[Atz,N2,ih];rfl
  rw[e,Ab]
  simp
theorem Ya (n:Nat):B1 0 n=(List.range n).map fun q:Nat=>D.int (0+q):=rfl
theorem Pm {G zs:List Mk} (hG:Cp G) (kG:∀ x∈G,x.ms.length<=1000) (lG:G.length<=900) (kz:∀ z∈zs,z.ms.length<=1000) {Q:List D->Prop} (hQ:Q (zs.map fun z=>.bl (par z G))) :
  W (D7 (Ar 1) L6 (fC2 Hf (Ad 1) (Ad 0)) [] [some (spn G),none] (zs.map Mk.d)) Q:=by
 refine Cj (fun z=>D.bl (par z G)) (fun z hz=>?_) hQ
 have h:=@Akg z (Ak G) (kz z hz) (fun p hp=>by
   obtain⟨q1,q2⟩:=Jq hp
   exact⟨kG _ q1,fun h e=>kG _ (q2 h e)⟩) (by rw[B5];lia)
 rw[Acx hG] at h
 have sp:A8 (spn G)=true:=by unfold spn;rw[Bb];exact Cv _
 simp_arith[Df sp]
 unfold spn
 rw[h]
theorem La {fe:FE}{g:Bool->Bool->Bool}{p q:Mk->Bool}{zs:List Mk} (hfe:∀ (k:Nat) (h:k < zs.length),W (fe [some (.lst (zs.map fun z=>.bl (p z))),some (.lst (zs.map fun z=>.bl (q z))),some (.int k)] []) fun y=>y=.bl (g (p zs[k]) (q zs[k]))) {Q:List D->Prop} (hQ:Q (zs.map fun z=>.bl (g (p z) (q z)))) :
  W (D7 (Ar 2) L6 fe [] [some (.lst (zs.map fun z=>.bl (p z))),some (.lst (zs.map fun z=>.bl (q z))),none] (B1 0 zs.length)) Q:=by
 rw[Ya]
 refine Cj (fun k:Nat=>D.bl (g (p (zs.getD k default)) (q (zs.getD k default)))) (fun k hk=>?_) ?_
 ·have hk:=List.mem_range.mp hk
  have:=hfe k hk
  array_get_dec
  rw[Atx,Atv hk]
  exact this
 ·have e:(List.range zs.length).map (fun k:Nat=>D.bl (g (p (zs.getD k default)) (q (zs.getD k default))))=zs.map fun z=>.bl (g (p z) (q z)):=by
   refine Av0 fun i=>?_
   by_cases hi:i < zs.length
   ·simp[hi]
   ·simp[hi]
  rw[e];exact hQ
section
variable {p q:Mk->Bool}{zs:List Mk}{k:Nat} (h:k < zs.length)
include h
theorem R0 (p:Mk->Bool) {Q:D->Prop}:W (atI (zs.map fun z=>D.bl (p z)) (k:Int)) Q=Q (.bl (p zs[k])):=J2 (f:=fun z=>D.bl (p z)) h
theorem Ajz:W (Es (f2 oIx (Ad 0) (Ad 2)) (f2 oIx (Ad 1) (Ad 2)) [some (.lst (zs.map fun z=>.bl (p z))),some (.lst (zs.map fun z=>.bl (q z))),some (.int k)] []) fun y=>y=.bl (p zs[k]&&q zs[k]):=by
 have a:=@R0 zs k h p
 have b:=@R0 zs k h q
 simp_arith[a,b]
 cases p zs[k]<;>array_get_dec
theorem Apn:W (Aef (f2 oIx (Ad 0) (Ad 2)) (f2 oIx (Ad 1) (Ad 2)) [some (.lst (zs.map fun z=>.bl (p z))),some (.lst (zs.map fun z=>.bl (q z))),some (.int k)] []) fun y=>y=.bl (p zs[k]||q zs[k]):=by
 have a:=@R0 zs k h p
 have b:=@R0 zs k h q
 simp_arith[a,b]
 cases p zs[k]<;>array_get_dec
theorem Aj0:W (Es (f2 oIx (Ad 0) (Ad 2)) (Mn (f2 oIx (Ad 1) (Ad 2))) [some (.lst (zs.map fun z=>.bl (p z))),some (.lst (zs.map fun z=>.bl (q z))),some (.int k)] []) fun y=>y=.bl (p zs[k]&&!q zs[k]):=by
 have a:=@R0 zs k h p
 have b:=@R0 zs k h q
 simp_arith[a,b]
 cases p zs[k]<;>array_get_dec
end
theorem Akp:∀ {L xs:List Mk},L.Nodup->(∀ x∈L,x∈xs)->L.length<=xs.length
 |[],_,_,_=>Aup _
 |x::L,xs,h,s=>by
  obtain⟨h1,h2⟩:=List.nodup_cons.mp h
  have hx:=s x (by simp)
  have:=Akp (xs:=xs.erase x) h2 fun y hy=>by
   have hne:y≠x:=fun e=>h1 (e ▸ hy)
   exact (List.mem_erase_of_ne hne).mpr (s y (by simp[hy]))
  rw[List.length_erase_of_mem hx] at this
  have:=List.length_pos_of_mem hx
  simp;lia
theorem O9 (R C:List Mk):deq (spn R) (spn C)=decide (Ak R=Ak C):=Xi _ _
theorem O8 (R:List Mk):(dep (spn R)<=60)=True:=Re _
theorem Ym (ns:List Int) (hl:ns.length<=63) (xs:List Mk) (hk:∀ x∈xs,Bz x.d=true/\x.ms.length<=1000) (hn:xs.length<=90) (u:Option D) :
  W (Pd [some (.kl (ns.map .int)),some (.lst (xs.map Mk.d)),u,none,none,none,none,none,none,none,none,none,none] []) (Aj1 fun d=>d=.bl true):=by
 unfold Pd
 array_get_dec
 refine (Yf ns hl 300 (by decide) (by decide) xs (fun x h=>(hk x h).2) hn).imp fun d ⟨A,e,hA,mA,nA⟩=>?_
 subst e
 refine (Yf ns hl 400 (by decide) (by decide) xs (fun x h=>(hk x h).2) hn).imp fun d ⟨B,e,hB,mB,nB⟩=>?_
 subst e
 have sp:∀ E:List Mk,A8 (spn E)=true:=fun E=>by unfold spn;rw[Bb];exact Cv _
 have kA:∀ x∈A,x.ms.length<=1000:=fun x h=>(hk x (mA x h)).2
 have kB:∀ x∈B,x.ms.length<=1000:=fun x h=>(hk x (mB x h)).2
 have lA:A.length<=100:=by lia
 have lB:B.length<=100:=by lia
 have nr:A7 [spn A,spn B]=true:=B4 (by simp[Au,sp])
 refine⟨nr,(Aed A B lA lB kA kB).imp fun d ⟨zs,e,hr,hm,hz⟩=>?_⟩
 subst e
 rw[P7 (Cn zs)]
 have kz:∀ z∈zs,z.ms.length<=1000:=fun z h=>by
  rcases List.mem_cons.mp ((hm z).mp h) with rfl|h
  ·exact by decide
  ·exact (List.mem_append.mp h).elim (kA z) (kB z)
 simp only[At1,Int.toNat_natCast]
 refine⟨by lia,Pm hA kA (by lia) kz ⟨by lia,Pm hB kB (by lia) kz ?_⟩⟩
 have rl:(B1 0 zs.length).length<=1000000:=by rw[Ya,At1,List.length_range];lia
 have rb:(-4611686018427387904:Int)<=zs.length/\(zs.length:Int) < 4611686018427387904:=by lia
 have nb:∀ f:Mk->Bool,A7 (zs.map fun z=>D.bl (f z))=true:=fun f=>B4 (Bp fun z=>by simp[A8])
 have nz:=Du zs
 refine⟨rb,rl,La (g:=fun a b=>a&&b) (p:=fun z=>par z A) (q:=fun z=>par z B) (fun k h=>Ajz h) ⟨nz,nb _,?_⟩⟩
 rw[J8 _ zs (by lia)]
 refine⟨rb,rl,La (g:=fun a b=>a||b) (p:=fun z=>par z A) (q:=fun z=>par z B) (fun k h=>Apn h) ⟨nz,nb _,?_⟩⟩
 rw[J8 _ zs (by lia)]
 refine⟨rb,rl,La (g:=fun a b=>a&&!b) (p:=fun z=>par z A) (q:=fun z=>par z B) (fun k h=>Aj0 h) ⟨nz,nb _,?_⟩⟩
 rw[J8 _ zs (by lia)]
 have sA:A8 (D.tup ((Ak A).map pD))=true:=sp A
 have sB:A8 (D.tup ((Ak B).map pD))=true:=sp B
 have un:∀ L:List Mk,L.Nodup->(∀ x∈L,x∈A\/x∈B)->L.length<=100:=fun L nd hL=>by
  have:=Akp nd fun x hx=>(hL x hx).elim (mA x) (mB x)
  lia
 have qA:∀ x∈A,Bz x.d=true/\x.ms.length<=1000:=fun x h=>hk x (mA x h)
 have qB:∀ x∈B,Bz x.d=true/\x.ms.length<=1000:=fun x h=>hk x (mB x h)
 have key:∀ {f:Mk->Bool}{R:List Mk},Cp R->(∀ x∈R,x∈A\/x∈B)->(∀ z,par z R=f z)->R=cw f false zs:=fun {f R} h1 h2 h3=>by
  refine Hy h1 (hr.sublist (cw_sub f zs false)) fun z hz=>?_
  have hz':z∈zs:=hz.elim (fun h=>(hm z).mpr (Atn _ (List.mem_append.mpr (h2 z h)))) fun h=>(cw_sub f zs false).subset h
  rw[h3,cw_par hr hz']
  simp
 have cl:∀ f:Mk->Bool,(cw f false zs).length<=900:=fun f=>by have:=(cw_sub f zs false).length_le;lia
 simp_arith[Df sA,Df sB]
 refine (Aci A B hA hB qA qB lA lB un).imp fun d ⟨R1,e,a1,a2,_,a3⟩=>?_
 have e1:=key a1 a2 a3
 subst e
 refine (Mx A B hA hB qA qB lA lB un).imp fun d ⟨R2,e,b1,b2,_,b3⟩=>?_
 have e2:=key b1 b2 b3
 subst e
 refine (Ae5 A B hA hB qA qB lA lB un).imp fun d ⟨R3,e,c1,c2,_,c3⟩=>?_
 have e3:=key c1 c2 c3
 subst e
 subst e1
 subst e2
 subst e3
 have cm:=cl (fun z=>par z A&&par z B)
 have cj:=cl (fun z=>par z A||par z B)
 have cn:=cl (fun z=>par z A&&!par z B)
 have um:∀ {R:List Mk},Cp R->(∀ x∈R,x∈B\/x∈A)->(∀ z,par z R=(par z B&&par z A))->R=cw (fun z=>par z A&&par z B) false zs:=fun h1 h2 h3=>key h1 (fun x hx=>(h2 x hx).symm) fun z=>by rw[h3,Bool.and_comm]
 have uj:∀ {R:List Mk},Cp R->(∀ x∈R,x∈B\/x∈A)->(∀ z,par z R=(par z B||par z A))->R=cw (fun z=>par z A||par z B) false zs:=fun h1 h2 h3=>key h1 (fun x hx=>(h2 x hx).symm) fun z=>by rw[h3,Bool.or_comm]
 generalize hC1:cw (fun z=>par z A&&par z B) false zs=C1 at cm um ⊢
 generalize hC2:cw (fun z=>par z A||par z B) false zs=C2 at cj uj ⊢
 generalize hC3:cw (fun z=>par z A&&!par z B) false zs=C3 at cn ⊢
 clear hC1 hC2 hC3
 refine C9 (h:=fun R=>D.tup [spn R,spn R]) (xs:=[C1,C2,C3]) (fun rest e m=>m=[]/\(∀ R∈rest,R.length<=900)/\∃ v w,e=[some (D.kl (List.map D.int ns)),some (D.lst (List.map Mk.d xs)),u,some (spn A),some (spn B),some (D.lst (List.map Mk.d zs)),some (D.lst (List.map (fun z=>D.bl (par z A)) zs)),some (D.lst (List.map (fun z=>D.bl (par z B)) zs)),some (spn C1),some (spn C2),some (spn C3),v,w]) ?_ ?_ ⟨rfl,fun R hR=>?_,_,_,rfl⟩
 ·rintro R rest e m ⟨rfl,hR,v,w,rfl⟩
  refine⟨trivial,?_⟩
  have t:=@Yt R (hR R (by simp))
  simp_arith[Df (sp R),t,O9,O8]
  exact⟨fun S hS=>hR S (by simp[hS]),_,_,rfl⟩
 ·rintro e m ⟨rfl,hR,v,w,rfl⟩
  refine⟨trivial,?_⟩
  simp_arith[Df (sp A),Df (sp B)]
  refine (Aci B A hB hA qB qA lB lA fun L h1 h2=>un L h1 fun x hx=>(h2 x hx).symm).imp fun d ⟨R1,e,a1,a2,_,a3⟩=>?_
  have e1:=um a1 a2 a3
  subst e
  subst e1
  change W (C8 [] (spn R1)) _
  simp_arith[Df (sp R1),O9,O8]
  refine (Mx B A hB hA qB qA lB lA fun L h1 h2=>un L h1 fun x hx=>(h2 x hx).symm).imp fun d ⟨R2,e,b1,b2,_,b3⟩=>?_
  have e2:=uj b1 b2 b3
  subst e
  subst e2
  change W (C8 [] (spn R2)) _
  simp_arith[Df (sp R2),O9,O8]
 ·simp at hR
  rcases hR with rfl|rfl|rfl
  ·exact cm
  ·exact cj
  ·exact cn
theorem Afc {t:Str} (h:Ds t=true):PyData.strOk t=true:=by
 unfold Ds at h
 simp only[At0] at h
 unfold PyData.strOk
 rw[<- Array.all_toList,List.all_eq_true]
 intro c hc
 have h2:=List.all_eq_true.mp h.2 c hc
 have h3:c∈Ae6:=by simpa using h2
 have h4:∀ c∈Ae6,c < 1114112:=by decide
 simpa using h4 c h3
noncomputable def mk0 (k:Nat):Mk:=⟨(k:Int) / 7,(k:Int) % 7 / 2,(k:Int) % 2,if k % 3=0 then [] else if k % 3=1 then [.n 0] else [.s (Str.ofString "a"),.n 1]⟩
theorem law_true (ns:List Int) (hl:ns.length<=63):Jg [.kl (ns.map .int)]=some (.bl true):=W.out <| by
 unfold Jg Aek
 rw[Bg]
 array_get_dec
 refine B8 (Bm ns hl 0 10 (by decide) (by decide) (by decide)) fun v0 h00 h01=>?_
 array_get_dec
 refine (Aaa ns hl 10 (1+v0) (by decide) (by decide) (by lia) (by lia)).imp fun d ⟨xs,e,hx,hn⟩=>?_
 subst e
 array_get_dec
 have hk:∀ x∈xs,Bz x.d=true/\x.ms.length<=1000:=fun x h=>⟨Acj fun m hm=>Mark.strs fun t e=>by
  have:=(hx x h).1.ms m hm
  rw[e] at this
  exact Afc this,by have:=(hx x h).2;lia⟩
 refine B8 (Bm ns hl 2 8 (by decide) (by decide) (by decide)) fun v1 h10 h11=>?_
 array_get_dec
 refine cK.mk (fun _=>?_) fun _=>Ym ns hl xs hk (by lia) none
 refine B8 (Bm ns hl 3 51 (by decide) (by decide) (by decide)) fun v2 h20 h21=>?_
 obtain⟨n,rfl⟩:∃ n:Nat,v2=n:=⟨v2.toNat,by lia⟩
 array_get_dec
 rw[show (30+(n:Int)).toNat=30+n by lia,Ya]
 refine⟨by lia,by rw[At1,List.length_range];lia,Cj (fun q:Nat=>(mk0 q).d) (fun q hq=>?_) ?_⟩
 ·array_get_dec
  have md:∀ ms:List Mark,(mk0 q).ms=ms->D.tup [D.int (↑q / 7),D.int (↑q % 7 / 2),D.int (↑q % 2),.tup (ms.map Mark.d)]=(mk0 q).d:=fun ms e=>by rw[<- e];rfl
  obtain h|h|h:q % 3=0\/q % 3=1\/q % 3=2:=by lia
  ·rw[show (q:Int) % 3=0 by lia,show ∀ x y z:D,atI [x,y,z] 0=some x from fun _ _ _=>rfl,Ab]
   exact md [] (by simp[mk0,h])
  ·rw[show (q:Int) % 3=1 by lia,show ∀ x y z:D,atI [x,y,z] 1=some y from fun _ _ _=>rfl,Ab]
   exact md [.n 0] (by simp[mk0,h])
  ·rw[show (q:Int) % 3=2 by lia,show ∀ x y z:D,atI [x,y,z] 2=some z from fun _ _ _=>rfl,Ab]
   exact md [.s (Str.ofString "a"),.n 1] (by simp[mk0,h])
 ·rw[show (List.range (30+n)).map (fun q:Nat=>(mk0 q).d)=((List.range (30+n)).map mk0).map Mk.d by rw[Avf];rfl]
  refine Ym ns hl _ (fun x h=>?_) (by simp;lia) _
  obtain⟨q,_,rfl⟩:=List.mem_map.mp h
  unfold mk0
  refine⟨Acj fun m hm=>?_,?_⟩
  ·dsimp only at hm
   split at hm
   ·cases hm
   ·split at hm
    ·simp at hm;subst hm;rfl
    ·simp at hm
     rcases hm with rfl|rfl
     ·exact Mark.strs fun t e=>by cases e;exact Eg _
     ·rfl
  ·dsimp only
   split
   ·simp
   ·split<;>simp
end K09a
end S_R1
section S_K09h
namespace K09a
open PySem L2 L2.ML
noncomputable section
noncomputable def Ahp (o:Obj):Option Addr:=match o.data with
 |.fields vs=>(match (vs[11]?:Option Value) with|some (.ref P)=>some P|_=>none)
 |_=>none
theorem all_mk {ts:List Addr}{l:W.OpenLaw}{w:World}{K:W.Frag}{h:Heap}{mg:Str->Option Value}{fa:Addr} (X:K.In h) (G:h.Ns mainGlobals mg) (hfa:mg "law"=some (.ref fa))
  (f0:FM K "mark_rank" Am8)
  (f1:FM K "rank" Adk)
  (f2:FM K "edges_of" Am9)
  (f3:FM K "span_of" Anc)
  (f4:FM K "turns_of" Ana)
  (f5:FM K "combined" Anb)
  {a_met:Addr}{oc_met kV_met dc_met pm_met cd_met ct_met:Value}{od_met an_met:Option Addr}{sl_met:Array (Option Value)} (n_met:W.nsIn K mainGlobals "met"=some (some (.ref a_met))) (l_met:K.lookup a_met=some ⟨oc_met,od_met,.func (W.fnOf "met" "met" (Ck Jw) (Bi Jw) (Am Jw) .none kV_met dc_met pm_met an_met cd_met ct_met),sl_met⟩) (c_met:W.codeIn K cd_met "met"=true) (k_met:W.keepIn K (.ref a_met)=true)
  {a_z9:Addr}{oc_z9 kV_z9 dc_z9 pm_z9 cd_z9 ct_z9:Value}{od_z9 an_z9:Option Addr}{sl_z9:Array (Option Value)} (n_z9:W.nsIn K mainGlobals "joined"=some (some (.ref a_z9))) (l_z9:K.lookup a_z9=some ⟨oc_z9,od_z9,.func (W.fnOf "joined" "joined" (Ck Tv) (Bi Tv) (Am Tv) .none kV_z9 dc_z9 pm_z9 an_z9 cd_z9 ct_z9),sl_z9⟩) (c_z9:W.codeIn K cd_z9 "joined"=true) (k_z9:W.keepIn K (.ref a_z9)=true)
  {a_z20:Addr}{oc_z20 kV_z20 dc_z20 pm_z20 cd_z20 ct_z20:Value}{od_z20 an_z20:Option Addr}{sl_z20:Array (Option Value)} (n_z20:W.nsIn K mainGlobals "less"=some (some (.ref a_z20))) (l_z20:K.lookup a_z20=some ⟨oc_z20,od_z20,.func (W.fnOf "less" "less" (Ck Jx) (Bi Jx) (Am Jx) .none kV_z20 dc_z20 pm_z20 an_z20 cd_z20 ct_z20),sl_z20⟩) (c_z20:W.codeIn K cd_z20 "less"=true) (k_z20:W.keepIn K (.ref a_z20)=true)
  (f9:FM K "_law_draw" Ade)
  (f10:FM K "_law_mark" Adf)
  (f11:FM K "_law_make" Adg)
  (f12:FM K "_law_near" Adh)
  (f13:FM K "_law_mark_older" Am6)
  (f14:FM K "_law_older" Ada)
  (f15:FM K "_law_sorted" Ane)
  (f16:FM K "_law_makes" Adb)
  (f17:FM K "_law_pieces" Anf)
  (f18:FM K "_law_in" Ac9)
  (f19:FM K "_law_canon" Adc)
  (f20:FM K "_law_ends" Adi)
  (f21:FM K "_law_some" Adj)
  (f22:FM K "_law_is_tuples" Am7)
  {a_law:Addr}{oc_law kV_law dc_law pm_law cd_law ct_law:Value}{od_law an_law:Option Addr}{sl_law:Array (Option Value)} (n_law:W.nsIn K mainGlobals "law"=some (some (.ref a_law))) (l_law:K.lookup a_law=some ⟨oc_law,od_law,.func (W.fnOf "law" "law" (Ck Nj) (Bi Nj) (Am Nj) .none kV_law dc_law pm_law an_law cd_law ct_law),sl_law⟩) (c_law:W.codeIn K cd_law "law"=true) (k_law:W.keepIn K (.ref a_law)=true)
  (z_all:W.nsIn K mainGlobals "all"=some none)
  (z_enumerate:W.nsIn K mainGlobals "enumerate"=some none)
  (z_isinstance:W.nsIn K mainGlobals "isinstance"=some none)
  (z_len:W.nsIn K mainGlobals "len"=some none)
  (z_max:W.nsIn K mainGlobals "max"=some none)
  (z_min:W.nsIn K mainGlobals "min"=some none)
  (z_range:W.nsIn K mainGlobals "range"=some none)
  (z_sorted:W.nsIn K mainGlobals "sorted"=some none)
  (z_str:W.nsIn K mainGlobals "str"=some none)
  (z_tuple:W.nsIn K mainGlobals "tuple"=some none)
  (z_zip:W.nsIn K mainGlobals "zip"=some none)
  {cc_met pp_met:Addr}{ob_met:Obj} (e_met:cd_met=.ref cc_met) (R9:K.lookup cc_met=some ob_met) (p_met:Ahp ob_met=some pp_met) (h_met:W.codeHdIn K cc_met pp_met=true) (m_met:pp_met∈ts)
  {cc_z9 pp_z9:Addr}{ob_z9:Obj} (e_z9:cd_z9=.ref cc_z9) (Ah0:K.lookup cc_z9=some ob_z9) (p_z9:Ahp ob_z9=some pp_z9) (h_z9:W.codeHdIn K cc_z9 pp_z9=true) (m_z9:pp_z9∈ts)
  {cc_z20 pp_z20:Addr}{ob_z20:Obj} (e_z20:cd_z20=.ref cc_z20) (Ta:K.lookup cc_z20=some ob_z20) (p_z20:Ahp ob_z20=some pp_z20) (h_z20:W.codeHdIn K cc_z20 pp_z20=true) (m_z20:pp_z20∈ts) (hnd:[pp_met,pp_z9,pp_z20].Nodup) :
  ∃ (fd:FuncData) (tabs:List (Addr×Str)),(∀ (s:Shared) (v:Value),BindsTo s fd ⟨[v],[]⟩ [("_law_script",v)])/\(∀ q∈tabs,q.1∈ts/\isCodeTable h q.1)/\(tabs.map (·.1)).Nodup/\∀ base:Heap,K.In base->base.Ns mainGlobals mg->Iq mg base->FnOk l.prog w K mg base CX0 7 fa fd ["_law_script"] (spT tabs K 1 Jg):=by
 have e:=hfa.symm.trans (W.mg_of X G n_law)
 cases e
 have T:Txt K mg _ _ _:=⟨f0.fd1 X G,f1.fd1 X G,f2.fd1 X G,f3.fd1 X G,f4.fd2 X G,f5.fd3 X G,⟨_,_,_,W.mg_of X G n_met,Gm l_met c_met k_met,(Gm (st:=Jw) l_met c_met k_met).binds2,e_met,h_met⟩,⟨_,_,_,W.mg_of X G n_z9,Gm l_z9 c_z9 k_z9,(Gm (st:=Tv) l_z9 c_z9 k_z9).binds2,e_z9,h_z9⟩,⟨_,_,_,W.mg_of X G n_z20,Gm l_z20 c_z20 k_z20,(Gm (st:=Jx) l_z20 c_z20 k_z20).binds2,e_z20,h_z20⟩,f9.fd3 X G,f10.fd2 X G,f11.fd2 X G,f12.fd3 X G,f13.fd2 X G,f14.fd2 X G,f15.fd1 X G,f16.fd3 X G,f17.fd1 X G,f18.fd2 X G,f19.fd2 X G,f20.fd1 X G,f21.fd3 X G,f22.fd1 X G⟩
 have B:Blt mg:=⟨W.mg_none_of X G z_all,W.mg_none_of X G z_enumerate,W.mg_none_of X G z_isinstance,W.mg_none_of X G z_len,W.mg_none_of X G z_max,W.mg_none_of X G z_min,W.mg_none_of X G z_range,W.mg_none_of X G z_sorted,W.mg_none_of X G z_str,W.mg_none_of X G z_tuple,W.mg_none_of X G z_zip⟩
 refine⟨_,tabs pp_met pp_z9 pp_z20,fun s v=>.of_eq rfl,fun q hq=>?_,hnd,fun base _ _ hB=>Aky T B hB (Gm l_law c_law k_law)⟩
 simp only[Aug,Auc,or_false] at hq
 rcases hq with rfl|rfl|rfl
 ·exact⟨m_met,Ly X h_met⟩
 ·exact⟨m_z9,Ly X h_z9⟩
 ·exact⟨m_z20,Ly X h_z20⟩
theorem Na {K:W.Frag}{H:Hp}{μ:List Addr}{B:Addr->Prop}:∀ ns:List Int,Reps K H μ B (ns.map D.int) (ns.map V.int)
 |[]=>.nil
 |n::ns=>.cons (.int n) (Na ns)
theorem walk {l:W.OpenLaw}{q:Program}{loose:List Str}{XP:(Str->Option Value)->Heap->Prop}{YP:World->Heap->Prop}{d:DefRec}{K:Params->W.Frag}{ts:List Addr} (hn:l.most=some 63) (hdf:d.params.defaults=[])
  (hY:∀ (w:World) (h:Heap),YP w h->(K w.params).In h/\∀ P∈ts,h.get? P=some (W.tabObj #[])) (hNT:∀ w:World,W.noTabs (K w.params)=true)
  (F:∀ (w:World) (mg:Str->Option Value) (fa:Addr) (h:Heap),(K w.params).In h->h.Ns mainGlobals mg->mg d.name=some (.ref fa) ->
   ∃ (fd:FuncData) (tabs:List (Addr×Str)),(∀ (s:Shared) (u:Value),BindsTo s fd ⟨[u],[]⟩ [("_law_script",u)])/\(∀ q∈tabs,q.1∈ts/\isCodeTable h q.1)/\(tabs.map (·.1)).Nodup/\∀ base:Heap,(K w.params).In base->base.Ns mainGlobals mg->Iq mg base->FnOk l.prog w (K w.params) mg base CX0 7 fa fd ["_law_script"] (spT tabs (K w.params) 1 Jg)) :
  W.WalkO q loose XP YP l.row.toRowW d [] (fun f vs=>PySem.call f vs) :=
 Ab2 (n:=63) (k:=7) (x:="_law_script") hn (by decide) hdf ⟨rfl,by decide,by decide⟩ hY hNT F (fun ns hl=>law_true ns hl) fun w H ns=>Na ns
end
end K09a
namespace PySem.W.Fast
def tw9477911969329825131:=()
def tw12918383965739509555:=()
def tw1717540717054069912:=()
def tw4794076277413818086:=()
def tw16351009634519707777:=()
def tw7199009545757922621:=()
def tw13243498774958311042:=()
def tw5219437862873605585:=()
def tw15122482715656216144:=()
def tw6761905056549236357:=()
def tw3304309216326300717:=()
def tw7979595172368724653:=()
def tw13394502806042353275:=()
def tw10370812383222485398:=()
def tw550824198211404119:=()
def tw14407509223768528569:=()
def tw1383957465099211847:=()
def tw6245002535749996488:=()
def tw3311359099764795473:=()
def tw1204839265356158429:=()
def tw16859375549260105824:=()
def tw6171279398098129336:=()
def tw4122661963307748070:=()
def tw1019538027519629570:=()
def tw12977451629359773569:=()
def tw16073149079413634227:=()
def tw18303370303228675924:=()
def tw10997666352423277341:=()
def tw1592711396988858437:=()
def tw11306151620020171212:=()
def tw6889556770388907303:=()
def tw11344789542765645241:=()
def tw10378826583902550782:=()
def tw7175988404467338046:=()
def tw16708633231089503145:=()
def tw8824667432323785182:=()
def tw6295577310705630232:=()
def tw10320085044935660452:=()
def tw16399183912965717814:=()
def tw17591405812623784560:=()
def tw8457337689613066616:=()
def tw5506724826477316013:=()
def tw13876222877518397876:=()
def tw13400755300576400714:=()
def tw955409687132890082:=()
def tw8412912818339838389:=()
def tw12550367074580114683:=()
def tw3091818908685017544:=()
def tw12066951459160963284:=()
def tw5245142514004959671:=()
def tw17122572759856911695:=()
def tw7872085364567030024:=()
def tw2717393642369500471:=()
end PySem.W.Fast
open PySem PySem.W PyProof.Rows
set_option maxRecDepth 100000 in
set_option maxHeartbeats 0 in
theorem PySem.Challenge.cw_stretchbook_k09_spans_met_joined_taken_holds : PySem.Challenge.rw_stretchbook_k09_spans_met_joined_taken.Holds := by
 w_on;o_law;k_head;(case hw=>w_witness2)
 k_fill
 refine K09a.walk (l:=PySem.Challenge.rw_stretchbook_k09_spans_met_joined_taken) rfl rfl (fun w h Y=>⟨W.km_in_of Y,W.km_tabs_of Y⟩) (fun w=>by kernel_rfl) ?F
 case F =>
  intro w mg fa h KX G hmg
  refine' K09a.all_mk KX G hmg (L2.ML.fm_mk ?n0 ?l0 ?c0 ?k0) (L2.ML.fm_mk ?n1 ?l1 ?c1 ?k1) (L2.ML.fm_mk ?n2 ?l2 ?c2 ?k2) (L2.ML.fm_mk ?n3 ?l3 ?c3 ?k3) (L2.ML.fm_mk ?n4 ?l4 ?c4 ?k4) (L2.ML.fm_mk ?n5 ?l5 ?c5 ?k5) ?n6 ?l6 ?c6 ?k6 ?n7 ?l7 ?c7 ?k7 ?n8 ?l8 ?c8 ?k8 (L2.ML.fm_mk ?n9 ?l9 ?c9 ?k9) (L2.ML.fm_mk ?n10 ?l10 ?c10 ?k10) (L2.ML.fm_mk ?n11 ?l11 ?c11 ?k11) (L2.ML.fm_mk ?n12 ?l12 ?c12 ?k12) (L2.ML.fm_mk ?n13 ?l13 ?c13 ?k13) (L2.ML.fm_mk ?n14 ?l14 ?c14 ?k14) (L2.ML.fm_mk ?n15 ?l15 ?c15 ?k15) (L2.ML.fm_mk ?n16 ?l16 ?c16 ?k16) (L2.ML.fm_mk ?n17 ?l17 ?c17 ?k17) (L2.ML.fm_mk ?n18 ?l18 ?c18 ?k18) (L2.ML.fm_mk ?n19 ?l19 ?c19 ?k19) (L2.ML.fm_mk ?n20 ?l20 ?c20 ?k20) (L2.ML.fm_mk ?n21 ?l21 ?c21 ?k21) (L2.ML.fm_mk ?n22 ?l22 ?c22 ?k22) ?n23 ?l23 ?c23 ?k23 ?z_all ?z_enumerate ?z_isinstance ?z_len ?z_max ?z_min ?z_range ?z_sorted ?z_str ?z_tuple ?z_zip ?e_met ?R9 ?p_met ?h_met ?m_met ?e_z9 ?Ah0 ?p_z9 ?h_z9 ?m_z9 ?e_z20 ?Ta ?p_z20 ?h_z20 ?m_z20 ?hnd
  case n0|l0|c0|k0|n1|l1|c1|k1|n2|l2|c2|k2|n3|l3|c3|k3|n4|l4|c4|k4|n5|l5|c5|k5|n6|l6|c6|k6|n7|l7|c7|k7|n8|l8|c8|k8|n9|l9|c9|k9|n10|l10|c10|k10|n11|l11|c11|k11|n12|l12|c12|k12|n13|l13|c13|k13|n14|l14|c14|k14|n15|l15|c15|k15|n16|l16|c16|k16|n17|l17|c17|k17|n18|l18|c18|k18|n19|l19|c19|k19|n20|l20|c20|k20|n21|l21|c21|k21|n22|l22|c22|k22|n23|l23|c23|k23|z_all|z_enumerate|z_isinstance|z_len|z_max|z_min|z_range|z_sorted|z_str|z_tuple|z_zip=>k_is
  (case e_met=>exact rfl)
  (case R9=>k_is)
  (case p_met=>exact rfl)
  (case h_met=>first|k_is|kernel_rfl)
  (case m_met=>decide)
  (case e_z9=>exact rfl)
  (case Ah0=>k_is)
  (case p_z9=>exact rfl)
  (case h_z9=>first|k_is|kernel_rfl)
  (case m_z9=>decide)
  (case e_z20=>exact rfl)
  (case Ta=>k_is)
  (case p_z20=>exact rfl)
  (case h_z20=>first|k_is|kernel_rfl)
  (case m_z20=>decide)
  (case hnd=>decide)
end S_K09h
