import PyProof.Rows.All
import Wide.All
import OpenK.AllK
import Wide.FinOn
import PyProof.P3Eq
import PyProof.TupleKey
import PyProof.DictRoadsH
import PyProof.Rows.RowHeap
import Lean
import PyProof.EqAt
import PyProof.EqKinds
import PyProof.TupleCall
import KE.KDflt
import PyProof.NeData
import PyProof.ConsumeWalk
import PyProof.CompFree
import PyProof.StrWalks
import PyProof.Rows.ListMul
import PyProof.MinMaxWalk
import PyProof.WalkInts
import PyProof.SeqI3
import PyProof.WalksMore
import PyProof.Rows.Range3
import PyProof.Rows.TupTab
import KE.KRevIter
import PyProof.ListRange
import KE.KSortTup
import PyProof.Rows.StrNews2
import PyProof.Rows.StrJoin2
import KE.KNestM
import KE.KDictSum
import PyProof.Rows.EnumRows
import PyProof.ZipIter
import KE.IntTextLaws
import PyProof.Rows.StrFirst
import PyProof.Rows.StrJoinMade
import PyProof.Rows.StrWeight2
import PyProof.Rows.CatFin
import PyProof.StrLawsChain
import PyProof.StrLawsTight
import PyProof.StrLawsFirst
import KE.IntTextText
import PyProof.Rows.ReprOcc
import PyProof.StrLawsIdx
import PySem.Challenge.RW_stretchbook_k14_whole_plain_reading
set_option Elab.async false
set_option compiler.extract_closed false
set_option linter.all false
set_option maxRecDepth 100000
set_option maxHeartbeats 4000000
abbrev Bea:=@PySem.wpAny_bind
abbrev Beb:=@List.mem_cons_self
abbrev Bec:=@PySem.Heap.get?_push_of_some
abbrev Bed:=@List.mem_cons_of_mem
abbrev Bee:=@List.map_cons
abbrev Bef:=@if_pos
abbrev Beg:=@if_neg
abbrev Beh:=@List.length_cons
abbrev Bei:=@List.mem_append_right
abbrev Bej:=@Nat.le_refl
abbrev Bek:=@PySem.wpAny_pure
abbrev Bel:=@List.length_map
abbrev Bem:=@List.size_toArray
abbrev Ben:=@PySem.Heap.lt_size
abbrev Beo:=@List.getD_eq_getElem?_getD
abbrev Bep:=@List.length_append
abbrev Beq:=@PySem.Heap.get?_push_size
abbrev Ber:=@Nat.lt_of_lt_of_le
abbrev Bes:=@List.not_mem_nil
abbrev Bet:=@Bool.and_eq_true
abbrev Beu:=@List.getElem?_eq_getElem
abbrev Bev:=@List.append_nil
abbrev Bew:=@Bool.false_ne_true
abbrev Bex:=@List.mem_cons
abbrev Bey:=@List.getElem?_map
abbrev Bez:=@Nat.le_trans
abbrev Be0:=@Nat.ne_of_lt
abbrev Be1:=@List.mem_of_getElem?
abbrev Be2:=@List.getElem?_append_left
abbrev Be3:=@List.getElem?_eq_none
abbrev Be4:=@decide_eq_false
abbrev Be5:=@List.cons_append
abbrev Be6:=@List.map_append
abbrev Be7:=@PySem.PassesOwn.never
abbrev Be8:=@List.map_map
abbrev Be9:=@List.getElem?_append_right
abbrev Bfa:=@congrArg
abbrev Bfb:=@PySem.mem_of_lookup
abbrev Bfc:=@Option.bind_some
abbrev Bfd:=@List.mem_append_left
abbrev Bfe:=@Nat.zero_le
abbrev Bff:=@Int.le_refl
abbrev Bfg:=@Option.some.inj
abbrev Bfh:=@Nat.lt_irrefl
abbrev Bfi:=@List.all_cons
abbrev Bfj:=@PySem.Heap.get?_update_other
abbrev Bfk:=@of_decide_eq_true
abbrev Bfl:=@PySem.wpAny_Call_Name_kw
abbrev Bfm:=@List.map_congr_left
abbrev Bfn:=@List.nil_append
abbrev Bfo:=@PySem.wpAny_truthy_bool
abbrev Bfp:=@List.getElem_mem
abbrev Bfq:=@List.pairwise_singleton
abbrev Bfr:=@PySem.wpAny_mono
abbrev Bfs:=@List.mem_map_of_mem
abbrev Bft:=@Bool.eq_iff_iff
abbrev Bfu:=@Array.length_toList
abbrev Bfv:=@List.getElem?_set_self
abbrev Bfw:=@PySem.wpAny_newObj_type
abbrev Bfx:=@List.lookup_cons
abbrev Bfy:=@List.sizeOf_lt_of_mem
abbrev Bfz:=@Bool.false_eq_true
abbrev Bf0:=@decide_eq_true
abbrev Bf1:=@List.drop_eq_getElem_cons
abbrev Bf2:=@List.getElem?_of_mem
abbrev Bf3:=@List.length_nil
abbrev Bf4:=@PySem.sizeLine_eq
abbrev Bf5:=@List.getElem?_cons_succ
abbrev Bf6:=@List.any_cons
abbrev Bf7:=@PySem.wpAny_typeNameOfWhole_keyiter
abbrev Bf8:=@Nat.le_of_lt
abbrev Bf9:=@List.map_nil
abbrev Bga:=@List.length_singleton
abbrev Bgb:=@decide_eq_true_eq
abbrev Bgc:=@PySem.F.slot_dict_keyiterator_next
abbrev Bgd:=@List.getElem?_set_ne
abbrev Bge:=@PySem.wpAny_passesOwn
abbrev Bgf:=@Classical.byContradiction
abbrev Bgg:=@decide_eq_decide
abbrev Bgh:=@List.length_take
abbrev Bgi:=@PySem.wpAny_holding
abbrev Bgj:=@Ne.symm
abbrev Bgk:=@List.getElem?_range
abbrev Bgl:=@propext
abbrev Bgm:=@if_false
abbrev Bgn:=@Or.inl
abbrev Bgo:=@List.sum_cons
abbrev Bgp:=@List.getElem?_replicate
abbrev Bgq:=@PySem.wpAny_call_entry
abbrev Bgr:=@PySem.wpAny_typeNameOf_keyiter
abbrev Bgs:=@List.drop_eq_nil_of_le
abbrev Bgt:=@Option.some.injEq
abbrev Bgu:=@Nat.lt_succ_of_lt
abbrev Bgv:=@List.ext_getElem?
abbrev Bgw:=@PySem.wpAny_getItem_str_slice
abbrev Bgx:=@PySem.wpAny_callSpecial?_slot
abbrev Bgy:=@PySem.MeetsSeq3.plain_eq_loop
abbrev Bgz:=@List.dropLast_eq_take
abbrev Bg0:=@List.length_drop
abbrev Bg1:=@List.flatMap_map
abbrev Bg2:=@PySem.wpAny_Call_method_late
abbrev Bg3:=@PySem.Calls.callWith_builtin
abbrev Bg4:=@True.intro
abbrev Bg5:=@List.cons.injEq
abbrev Bg6:=@Function.comp_apply
abbrev Bg7:=@PyProof.Rows.KeyOrd.kle_refl
abbrev Bg8:=@PySem.F.plainAttrs_str
abbrev Bg9:=@Nat.ne_of_gt
abbrev Bha:=@if_true
abbrev Bhb:=@PySem.typeIs_str
abbrev Bhc:=@List.reverse_cons
abbrev Bhd:=@List.flatMap_cons
abbrev Bhe:=@Int.eq_ofNat_of_zero_le
abbrev Bhf:=@Nat.lt_succ_self
abbrev Bhg:=@List.take_of_length_le
abbrev Bhh:=@PySem.call_meets
abbrev Bhi:=@Nat.not_lt_zero
abbrev Bhj:=@List.of_mem_zip
abbrev Bhk:=@List.find?_cons
noncomputable section
set_option tactic.hygienic false
section S_KTree
namespace L2
open PySem PySem.Spec
noncomputable instance pdDec:DecidableEq PyData:=fun _ _=>Classical.propDecidable _
mutual
def kOk:PyData->Bool
 |.int _=>true
 |.str x=>PyData.strOk x
 |.tuple ds=>Nr ds
 |_=>false
def Nr:List PyData->Bool
 |[]=>true
 |d::ds=>kOk d&&Nr ds
def U8 (w:World):PyData->Int
 |.int i=>hashInt i
 |.str x=>hashStr w x
 |.tuple ds=>reduceHash (Builtin.Tuple.tupleHashOf (B9 w ds))
 |_=>0
def B9 (w:World):List PyData->List Int
 |[]=>[]
 |d::ds=>U8 w d::B9 w ds
def Lz:PyData->Nat
 |.tuple ds=>Ct ds+1
 |_=>1
def Ct:List PyData->Nat
 |[]=>0
 |d::ds=>Lz d+Ct ds
def Zc:PyData->Nat
 |.tuple ds=>M4 ds+1
 |_=>0
def M4:List PyData->Nat
 |[]=>0
 |d::ds=>max (Zc d) (M4 ds)
end
mutual
theorem Ox:∀ {d:PyData},kOk d=true->d.canLay0=true
 |.int _,_=>by simp[PyData.canLay0]
 |.str x,h=>by rw[kOk] at h;simp[PyData.canLay0,h]
 |.tuple ds,h=>by rw[kOk] at h;rw[PyData.canLay0];exact Xg h
 |.none,h=>by simp[kOk] at h
 |.bool _,h=>by simp[kOk] at h
 |.list _,h=>by simp[kOk] at h
 |.dict _,h=>by simp[kOk] at h
theorem Xg:∀ {ds:List PyData},Nr ds=true->PyData.canLayAll0 ds=true
 |[],_=>by simp[PyData.canLayAll0]
 |d::ds,h=>by
  rw[Nr,Bet] at h
  simp[PyData.canLayAll0,Ox h.1,Xg h.2]
end
set_option tactic.hygienic true in
mutual
theorem Atl:∀ {d e:PyData},kOk d=true->kOk e=true->PyData.eqv d e=decide (d=e)
 |.int i,e,h,h'=>by
  cases e<;>first|(simp[kOk] at h';done)|(simp[PyData.eqv];done)|(rename_i j;simp[PyData.eqv];by_cases q:i=j<;>simp[q])
 |.str x,e,h,h'=>by
  cases e<;>first|(simp[kOk] at h';done)|(simp[PyData.eqv];done)|(rename_i j;simp[PyData.eqv];by_cases q:x=j<;>simp[q])
 |.tuple ds,e,h,h'=>by
  cases e<;>first|(simp[kOk] at h';done)|(simp[PyData.eqv];done)|skip
  rename_i es
  rw[kOk] at h h'
  rw[PyData.eqv,Ai5 h h',Bgg]
  constructor
  ·intro e;rw[e]
  ·intro e;injection e
 |.none,_,h,_=>by simp[kOk] at h
 |.bool _,_,h,_=>by simp[kOk] at h
 |.list _,_,h,_=>by simp[kOk] at h
 |.dict _,_,h,_=>by simp[kOk] at h
theorem Ai5:∀ {ds es:List PyData},Nr ds=true->Nr es=true->PyData.eqvAll ds es=decide (ds=es)
 |[],[],_,_=>by simp[PyData.eqvAll]
 |[],e::es,_,_=>by simp[PyData.eqvAll]
 |d::ds,[],_,_=>by simp[PyData.eqvAll]
 |d::ds,e::es,h,h'=>by
  rw[Nr,Bet] at h h'
  rw[PyData.eqvAll,Atl h.1 h'.1,Ai5 h.2 h'.2]
  by_cases q1:d=e<;>by_cases q2:ds=es<;>simp[q1,q2]
end
section
variable {prog:Program}{w:World}
structure HashK (prog:Program) (w:World) (d:PyData):Prop where
 out:∀ {A:Around}{E:Value->Shared->Prop}{s:Shared}{v:Value}{as:List Addr}{Q:Int->Shared->Prop},kOk d=true->A.units+Zc d < cLine->Reads s.heap v d as->Q (U8 w d) { s with toks:=s.toks+Lz d }->wpAny (model prog w) A (pyHash v) Q E s
theorem Ow {d:PyData}:∀ {ds:List PyData},d∈ds->Zc d<=M4 ds
 |e::ds,h=>by
  rw[M4]
  rcases List.mem_cons.mp h with rfl|h
  ·lia
  ·have:=Ow h;lia
theorem Oy {d:PyData}:∀ {ds:List PyData},Nr ds=true->d∈ds->kOk d=true
 |e::ds,h,hm=>by
  rw[Nr,Bet] at h
  rcases List.mem_cons.mp hm with rfl|hm
  ·exact h.1
  ·exact Oy h.2 hm
theorem G6:∀ (xs ys:List PyData),B9 w (xs++ys)=B9 w xs++B9 w ys
 |[],ys=>by rw[B9];rfl
 |x::xs,ys=>by rw[Be5,B9,B9,G6 xs ys];rfl
theorem G5:∀ (xs ys:List PyData),Ct (xs++ys)=Ct xs+Ct ys
 |[],ys=>by simp[Ct]
 |x::xs,ys=>by rw[Be5,Ct,Ct,G5 xs ys];lia
theorem Y8 (ih:∀ d∈ds,HashK prog w d):HashK prog w (.tuple ds):=by
 constructor
 intro A E s v as Q hk hu r q
 rw[kOk] at hk
 rw[Zc] at hu
 rw[U8,Lz] at q
 cases r with
 |@tuple a o vs n xs as ho hc hd ra =>
 have hT:s.TypeIs (.ref a) "tuple":=⟨o,ho,hc⟩
 unfold pyHash
 first|unfold pyHashByItsType|skip
 first|refine Bea (wpAny_cRoomFor_or (.inr (by lia)) ?_)|skip
 refine Bea (wpAny_specialOf hT F.slot_tuple_hash.lookup ?_)
 show wpAny _ _ (if (some (Value.builtin "tuple.__hash__") == some Value.none)=true then _ else _) Q E s
 rw[Beg (by rw[beq_builtin_none];exact Bew)]
 refine Bea (wpAny_specialOf hT F.slot_tuple_hash.lookup ?_)
 show wpAny _ _ (callSpecialIfBoundUnlessNone? (.ref a) "__hash__" _ >>= _) Q E s
 refine Bea (wpAny_callSpecialIfBoundUnlessNone?_slot hT F.slot_tuple_hash (Bgq F.slot_tuple_hash hT F.entry_tuple_hash ?_ (F.args_tuple_hash_1 _)))
 show wpAny _ _ (Builtin.Tuple.tupleItemsOf (.ref a) >>= _) _ _ s
 refine Bea (wpAny_tupleItemsOf ho hd ?_)
 refine Bea ?_
 rw[<- Array.forIn_toList]
 refine wpAny_forIn_list _
  (fun rest (b:Array Int) s'=>∃ done left bs,ds=done++left/\ReadsAll s.heap rest left bs/\b.toList=B9 w done/\s'={ s with toks:=s.toks+Ct done })
  _ ?_ ?_ _ _ ⟨[],ds,as,rfl,ra,by simp[B9],by simp[Ct]⟩
 ·rintro x rest b s' ⟨done,left,bs,rfl,hl,hb,rfl⟩
  cases hl with
  |@cons _ _ d ds' as1 bs1 h1 hl' =>
   have hm:d∈done++d::ds':=by simp
   have hdp:=Ow hm
   refine Bea ((ih d hm).out (Oy hk hm) (by show A.units+1+_ < _;lia) h1 ?_)
   have e1:b.toList++[U8 w d]=B9 w (done++[d]):=by rw[G6,hb,B9,B9]
   have e2:s.toks+Ct done+Lz d=s.toks+Ct (done++[d]):=by rw[G5,Ct,Ct];lia
   first
    |exact Bek ⟨done++[d],ds',bs1,by simp,hl',by rw[<- e1];simp,by rw[<- e2]⟩
    |exact Bea (Bek (Bek ⟨done++[d],ds',bs1,by simp,hl',by rw[<- e1];simp,by rw[<- e2]⟩))
 ·rintro b s' ⟨done,left,bs,rfl,hl,hb,rfl⟩
  cases hl
  rw[Bev] at q
  show wpAny _ _ (retInt (Builtin.Tuple.tupleHashOf b.toList)) _ _ _
  rw[hb]
  refine wpAny_ret_mkInt ?_
  show wpAny _ _ (if (decide (-(2:Int) ^ 63<=Builtin.Tuple.tupleHashOf (B9 w done))&&decide (Builtin.Tuple.tupleHashOf (B9 w done) < 2 ^ 63))=true then _ else _) Q E _
  unfold reduceHash at q
  by_cases hr:(decide (-(2:Int) ^ 63<=Builtin.Tuple.tupleHashOf (B9 w done))&&decide (Builtin.Tuple.tupleHashOf (B9 w done) < 2 ^ 63))=true
  ·rw[Bef hr]
   rw[Bef hr] at q
   exact Bek (by simpa [Nat.add_assoc] using q)
  ·rw[Beg hr]
   rw[Beg hr] at q
   exact Bea (wpAny_rule (Bek (by simpa [Nat.add_assoc] using q)))
theorem Ajc (d:PyData):HashK prog w d:=by
 match d with
 |.int i =>
  constructor
  intro A E s v as Q _ _ r q
  cases r with
  |int i t=>simp only[U8,Lz] at q;exact wpAny_pyHash_int q
 |.str x =>
  constructor
  intro A E s v as Q _ _ r q
  cases r with
  |str x t=>simp only[U8,Lz] at q;exact wpAny_pyHash_str q
 |.tuple ds=>exact Y8 fun d hd=>Ajc d
 |.none=>constructor;intro A E s v as Q h;simp[kOk] at h
 |.bool _=>constructor;intro A E s v as Q h;simp[kOk] at h
 |.list _=>constructor;intro A E s v as Q h;simp[kOk] at h
 |.dict _=>constructor;intro A E s v as Q h;simp[kOk] at h
termination_by sizeOf d
decreasing_by
 have:=Bfy hd
 simp;lia
structure QuietK (prog:Program) (w:World) (d:PyData):Prop where
 out:∀ {n:Nat}{A:Around}{E:Value->Shared->Prop}{s:Shared}{v:Value}{as:List Addr}{Q:Bool->Shared->Prop},kOk d=true->Zc d<=n->Reads s.heap v d as->Q true s->wpAny (model prog w) A (eqIsQuiet n v) Q E s
theorem Vm (ih:∀ d∈ds,QuietK prog w d):QuietK prog w (.tuple ds):=by
 constructor
 intro n A E s v as Q hk hn r q
 rw[kOk] at hk
 rw[Zc] at hn
 cases r with
 |@tuple a o vs m xs as ho hc hd ra =>
 have hT:s.TypeIs (.ref a) "tuple":=⟨o,ho,hc⟩
 obtain⟨n,rfl⟩:∃ n',n=n'+1:=⟨n - 1,by lia⟩
 unfold eqIsQuiet
 refine Bea (wpAny_specialOf hT F.slot_tuple_eq.lookup ?_)
 show wpAny _ _ (isInstance (.ref a) (.type "tuple") >>= _) _ _ s
 refine Bea (wpAny_isInstance hT isSubtype_tuple_tuple ?_)
 simp only[Bool.not_true,Bfz,Bgm]
 refine Bea (wpAny_seqItems ho hd ?_)
 refine Bea ?_
 show wpAny _ _ (forIn vs _ _) _ _ s
 rw[<- Array.forIn_toList]
 refine wpAny_forIn_list _ (fun rest r s'=>r.1=none/\s'=s/\∃ left bs,ReadsAll s.heap rest left bs/\∀ d∈left,d∈ds) _ ?_ ?_ _ _ ⟨rfl,rfl,ds,as,ra,fun _ h=>h⟩
 ·rintro v rest r s' ⟨hr,rfl,left,bs,hl,hall⟩
  cases hl with
  |@cons _ _ d ds' as1 bs1 h1 hl' =>
   have hm:=hall d (Beb ..)
   refine Bea ((ih d hm).out (Oy hk hm) (by have:=Ow hm;lia) h1 ?_)
   simp only[Bool.not_true,Bfz,Bgm]
   exact Bek ⟨rfl,rfl,ds',bs1,hl',fun e he=>hall e (Bed _ he)⟩
 ·rintro ⟨r1,r2⟩ s' ⟨hr,rfl,_⟩
  simp only at hr
  subst hr
  exact Bek q
theorem Ado (d:PyData):QuietK prog w d:=by
 match d with
 |.int i =>
  constructor
  intro n A E s v as Q _ _ r q
  cases r with
  |int i t=>rw[eqIsQuiet_byValue _ rfl];exact Bek q
 |.str x =>
  constructor
  intro n A E s v as Q _ _ r q
  cases r with
  |str x t=>rw[eqIsQuiet_byValue _ rfl];exact Bek q
 |.tuple ds=>exact Vm fun d hd=>Ado d
 |.none=>constructor;intro n A E s v as Q h;simp[kOk] at h
 |.bool _=>constructor;intro n A E s v as Q h;simp[kOk] at h
 |.list _=>constructor;intro n A E s v as Q h;simp[kOk] at h
 |.dict _=>constructor;intro n A E s v as Q h;simp[kOk] at h
termination_by sizeOf d
decreasing_by
 have:=Bfy hd
 simp;lia
mutual
theorem T2 {es ep} (ho₀:h.get? d₀=some o₀) (hd₀:o₀.data=.dict es ep) (hs:Heap.SameBut d₀ h h') {d:PyData}{v:Value}{as:List Addr} (hk:kOk d=true) (r:Reads h v d as):Reads h' v d as:=by
 cases r with
 |int i t=>exact .int i t
 |str i t=>exact .str i t
 |@tuple a o _ _ _ _ ho hc hd ra =>
  refine .tuple ((hs.2 a ?_).trans ho) hc hd (Jt ho₀ hd₀ hs (by rw[kOk] at hk;exact hk) ra)
  rintro rfl
  cases ho.symm.trans ho₀
  cases hd₀.symm.trans hd
 |_=>simp[kOk] at hk
theorem Jt {es ep} (ho₀:h.get? d₀=some o₀) (hd₀:o₀.data=.dict es ep) (hs:Heap.SameBut d₀ h h') {ds:List PyData}{vs:List Value}{as:List Addr} (hk:Nr ds=true) (r:ReadsAll h vs ds as):ReadsAll h' vs ds as:=by
 cases r with
 |nil=>exact .nil
 |cons r rs =>
  rw[Nr,Bet] at hk
  exact .cons (T2 ho₀ hd₀ hs hk.1 r) (Jt ho₀ hd₀ hs hk.2 rs)
end
mutual
theorem U0:∀ {d:PyData},kOk d=true->d.depth<=Zc d+1
 |.int _,_=>by simp[PyData.depth]
 |.str _,_=>by simp[PyData.depth]
 |.tuple ds,h=>by rw[kOk] at h;rw[Zc];have:=V7 h;simp[PyData.depth];lia
 |.none,h=>by simp[kOk] at h
 |.bool _,h=>by simp[kOk] at h
 |.list _,h=>by simp[kOk] at h
 |.dict _,h=>by simp[kOk] at h
theorem V7:∀ {ds:List PyData},Nr ds=true->PyData.depthAll ds<=M4 ds+1
 |[],_=>by simp[PyData.depthAll]
 |d::ds,h=>by
  rw[Nr,Bet] at h
  have h1:=U0 h.1
  have h2:=V7 h.2
  rw[M4];simp[PyData.depthAll];lia
end
def Axw (h:Heap) (d:PyData) (a:Addr):Prop:=kOk d=true/\Zc d<=6/\(∃ ds,d=.tuple ds)/\∃ as,Reads h (.ref a) d as
noncomputable def Gx (prog:Program) (w:World):HeapKind prog w PyData where
 is:=Axw
 hash:=U8 w
 draws:=Lz
 room:=fun A=>A.units+10 < cLine
 inj:=fun hx hy=>by
  obtain⟨k1,_,_,as,r⟩:=hx
  obtain⟨_,_,_,bs,r'⟩:=hy
  exact SeqAt.Reads.unique _ _ _ _ _ (Ox k1) r r'
 keeps:=fun x ho hd hs=>by
  obtain⟨h1,h2,h3,as,r⟩:=x
  exact⟨h1,h2,h3,as,T2 ho hd hs h1 r⟩
 pyHash:=fun hu hk h=>by
  obtain⟨h1,h2,_,as,r⟩:=hk
  exact (Ajc _).out h1 (by lia) r h
 eqBool:=fun hu hx hy h=>by
  obtain⟨h1,h2,_,as,r⟩:=hx
  obtain⟨h3,h4,_,bs,r'⟩:=hy
  refine SeqAt.eqBoolOverData _ _ _ _ _ _ _ _ _ _ _ _ r r' (Ox h1) (Ox h3) ?_ ?_
  ·have d1:=U0 h1
   have d2:=U0 h3
   lia
  ·rw[Atl h1 h3];exact h
 quiet:=fun hk h=>by
  obtain⟨h1,h2,_,as,r⟩:=hk
  exact (Ado _).out h1 (by lia) r h
end
end L2
end S_KTree
section S_LayL
namespace L2
open PySem PySem.Spec PyProof.Rows
abbrev Key:=Sum Int Str
noncomputable def Atr:Key->Value->Bool
 |.inl k,v=>Value.isInt k v
 |.inr x,v=>Value.isStrOf x v
noncomputable def Bda (w:World):Key->Int
 |.inl k=>hashInt k
 |.inr x=>hashStr w x
theorem Bz:∀ {k:Key}{v:Value},Atr k v=true->(∃ i t,k=Sum.inl i/\v=Value.int i t)\/(∃ x t,k=Sum.inr x/\v=Value.str x t)
 |.inl i,v,h=>by
  obtain⟨t,e⟩:=Value.isInt_shape (k:=i) (v:=v) h
  exact .inl ⟨i,t,rfl,e⟩
 |.inr x,v,h=>by
  obtain⟨t,e⟩:=Value.isStrOf_shape (x:=x) (v:=v) h
  exact .inr ⟨x,t,rfl,e⟩
theorem Ats (a b:Int):decide ((Sum.inl a:Key)=Sum.inl b)=(a == b):=by
 by_cases e:a=b
 ·subst e;simp
 ·have h:¬ (Sum.inl a:Key)=Sum.inl b:=fun q=>e (Sum.inl.inj q)
  rw[Be4 h]
  exact (beq_eq_false_iff_ne.mpr e).symm
theorem Atw (a b:Str):decide ((Sum.inr a:Key)=Sum.inr b)=decide (a=b):=by
 by_cases e:a=b
 ·subst e;simp
 ·have h:¬ (Sum.inr a:Key)=Sum.inr b:=fun q=>e (Sum.inr.inj q)
  rw[Be4 h,Be4 e]
theorem Atu (a:Int) (b:Str):decide ((Sum.inl a:Key)=Sum.inr b)=false:=Be4 (fun q=>nomatch q)
theorem Atv (a:Str) (b:Int):decide ((Sum.inr a:Key)=Sum.inl b)=false:=Be4 (fun q=>nomatch q)
def Abz (prog:Program) (w:World):PySem.KeyKind prog w Key where
 is:=Atr
 hash:=Bda w
 inj:=fun v a b ha hb=>by
  rcases Bz ha with ⟨i,t,rfl,rfl⟩|⟨x,t,rfl,rfl⟩
  ·rcases Bz hb with ⟨j,u,rfl,e⟩|⟨y,u,rfl,e⟩
   ·injection e with e1 _;rw[e1]
   ·exact nomatch e
  ·rcases Bz hb with ⟨j,u,rfl,e⟩|⟨y,u,rfl,e⟩
   ·exact nomatch e
   ·injection e with e1 _;rw[e1]
 byValue:=fun k v h=>by
  rcases Bz h with ⟨i,t,rfl,rfl⟩|⟨x,t,rfl,rfl⟩<;>rfl
 pyHash:=fun hv h=>by
  rcases Bz hv with ⟨i,t,rfl,rfl⟩|⟨x,t,rfl,rfl⟩
  ·exact wpAny_pyHash_int h
  ·exact wpAny_pyHash_str h
 eqBool:=fun hu hv h=>by
  rcases Bz hu with ⟨i,t,rfl,rfl⟩|⟨x,t,rfl,rfl⟩
  ·rcases Bz hv with ⟨j,u,rfl,rfl⟩|⟨y,u,rfl,rfl⟩
   ·rw[Ats] at h;exact wpAny_eqBool_int h
   ·rw[Atu] at h;exact SeqAt.EqAt.int_str i t y u _ _ _ _ h
  ·rcases Bz hv with ⟨j,u,rfl,rfl⟩|⟨y,u,rfl,rfl⟩
   ·rw[Atv] at h;exact SeqAt.EqAt.str_int x t j u _ _ _ _ h
   ·rw[Atw] at h;exact wpAny_eqBool_str h
 «strs»:=fun k x t v h=>by
  rcases Bz h with ⟨i,u,rfl,e⟩|⟨y,u,rfl,e⟩
  ·exact nomatch e
  ·injection e with e1 _
   subst e1
   cases v<;>rfl
inductive V where
 |non|bl (b:Bool)|int (i:Int)|str (x:Str)|byt (b:Array UInt8)|flt (b:UInt64)|ref (a:Addr)|ty (n:String)
 deriving DecidableEq
noncomputable def RelV:V->Value->Prop
 |.non,u=>u=Value.none
 |.bl b,u=>u=Value.bool b
 |.int i,u=>∃ t,u=Value.int i t
 |.str x,u=>∃ t,u=Value.str x t
 |.byt b,u=>∃ t,u=Value.bytes b t
 |.flt b,u=>∃ t,u=Value.float b t
 |.ref a,u=>u=Value.ref a
 |.ty n,u=>u=Value.type n
abbrev Vals:List V->List Value->Prop:=Paired RelV
theorem Vals.length {xs:List V}{us:List Value} (r:Vals xs us):xs.length=us.length:=Paired.length r
theorem Vals.get:∀ {xs:List V}{us:List Value}{i:Nat}{x:V},Vals xs us->xs[i]?=some x->∃ u,us[i]?=some u/\RelV x u
 |_,_,_,_,.nil,e=>by simp at e
 |_,_,0,_,.cons r _,e=>by simp at e;subst e;exact⟨_,rfl,r⟩
 |_,_,i+1,x,.cons _ t,e=>by
  obtain⟨u,h1,h2⟩:=Vals.get (i:=i) (x:=x) t (by simpa using e)
  exact⟨u,by simpa using h1,h2⟩
theorem Vals.set {x:V}{u:Value} (r:RelV x u):∀ {xs:List V}{us:List Value} (i:Nat),Vals xs us->Vals (xs.set i x) (us.set i u)
 |_,_,_,.nil=>.nil
 |_,_,0,.cons _ t=>.cons r t
 |_,_,i+1,.cons q t=>.cons q (Vals.set r i t)
theorem Vals.append:∀ {xs ys:List V}{us ws:List Value},Vals xs us->Vals ys ws->Vals (xs++ys) (us++ws)
 |_,_,_,_,.nil,s=>s
 |_,_,_,_,.cons r t,s=>.cons r (Vals.append t s)
theorem Vals.take:∀ {xs:List V}{us:List Value} (n:Nat),Vals xs us->Vals (xs.take n) (us.take n)
 |_,_,0,_=>.nil
 |_,_,_+1,.nil=>.nil
 |_,_,n+1,.cons r t=>.cons r (Vals.take n t)
theorem Vals.drop:∀ {xs:List V}{us:List Value} (n:Nat),Vals xs us->Vals (xs.drop n) (us.drop n)
 |_,_,0,r=>r
 |_,_,_+1,.nil=>.nil
 |_,_,n+1,.cons _ t=>Vals.drop n t
def Ara:Option V->Option Value->Prop
 |some v,some u=>RelV v u
 |none,none=>True
 |_,_=>False
def KV {κ:Type}:List (κ×V)->List (κ×Value)->Prop:=Paired fun (p:κ×V) (q:κ×Value)=>p.1=q.1/\RelV p.2 q.2
inductive HO where
 /-- a list -/
 |lst (xs:List V)
 /-- a tuple (never changes) -/
 |tup (xs:List V)
 /-- a dict whose keys are ints and Jz;one whose keys are tuples of ints and Jz (the empty one is both) -/
 |dK (kvs:List (Key×V))|dT (kvs:List (PyData×V))
 /-- a set of ints: its members,its size -/
 |set (S:Int->Bool) (n:Nat)
 /-- an instance of the class at C,its dict at dx,its attributes -/
 |ins (C dx:Addr) (fs:List (Str×V))
 /-- the dict of the instance at x -/
 |own (x:Addr)
 /-- the dict of an exception -/
 |xd (fs:List (Str×V))
 /-- a bound method,f of x -/
 |met (f x:Addr)
 /-- a range object lo,lo+1,.. P0 hi -/
 |rng (lo hi:Int)
 /-- a thing that is known to the object (the script;a dict while a loop walks it): read,never written while it is so -/
 |frz (o:Obj) (u:HO)
 /-- a code object's table -/
 |tbl (ps:Array Value)
 /-- any other thing,by what is true of its one object (a def of one's own: SetO a S n:=HO.ext fun h=>..) -/
 |ext (φ:Heap->Prop)
abbrev Hp:=Addr->Option HO
noncomputable def upd (H:Hp) (a:Addr) (o:HO):Hp:=fun b=>if b=a then some o else H b
theorem A8 {H:Hp}{a:Addr}{o:HO}:upd H a o a=some o:=by unfold upd;rw[Bef rfl]
theorem A0 {H:Hp}{a b:Addr}{o:HO} (h:b≠a):upd H a o b=H b:=by unfold upd;rw[Beg h]
theorem Az {H:Hp}{a b:Addr}{o:HO} (h:H a=some o) (h':H b=none):a≠b:=by
 intro e;subst e;rw[h] at h';cases h'
def Rd (H:Hp) (a:Addr) (u:HO):Prop:=H a=some u\/∃ o,H a=some (.frz o u)
def SqT (K:W.Frag) (H:Hp) (a:Addr) (xs:List V):Prop :=
 Rd H a (.tup xs) \/
  ∃ (o:Obj) (its:Array Value) (n:Nat),K.lookup a=some o/\o.cls=.type "tuple"/\o.data=.seq its n/\its.size<=sizeLine/\Vals xs its.toList
inductive KeyH (K:W.Frag) (H:Hp):PyData->V->Prop where
 |int (i:Int):KeyH K H (.int i) (.int i)
 |str (x:Str):KeyH K H (.str x) (.str x)
 |tup {ds:List PyData}{a:Addr}{vs:List V}:SqT K H a vs->Paired (KeyH K H) ds vs->KeyH K H (.tuple ds) (.ref a)
def KeyT (K:W.Frag) (H:Hp) (d:PyData) (b:Addr):Prop:=kOk d=true/\Zc d<=6/\(∃ ds,d=.tuple ds)/\KeyH K H d (.ref b)
def Z4 (oc:Obj) (q:Str):Prop:=∃ (vs:Array Value) (t:Nat),oc.data=.fields vs/\vs[1]?=some (.str q t)
def Ax2 (H:Hp) (h:Heap) (a:Addr) (qs:Array Value):Prop:=∃ ps:Array Value,h.get? a=some (W.tabObj ps)/\TriplesOk ps.toList /\
 ∀ (pos:Pos) (cv:Value),codeAmong pos ps.toList=some cv->∃ (c:Addr) (oc:Obj) (u:HO) (q:Str) (t:Nat),qs[0]?=some (.str q t)/\cv=.ref c/\H c=some (.frz oc u)/\Z4 oc q
section
variable (P:Program) (w:World) (K:W.Frag)
def ObjOk (H:Hp) (h:Heap) (a:Addr):HO->Prop
 |.lst xs=>xs.length<=sizeLine/\∃ (its:List Value) (n:Nat),Vals xs its/\h.get? a=some { cls:=.type "list",data:=.seq its.toArray n }
 |.tup xs=>xs.length<=sizeLine/\∃ its:List Value,Vals xs its/\IsTup h a its.toArray
 |.dK kvs=>kvs.length<=sizeLine/\(a == sysModules)=false/\∃ vs,KV kvs vs/\h.DictOf (Abz P w) a vs
 |.dT kvs=>kvs.length<=sizeLine/\(a == sysModules)=false/\∃ xs:List (PyData×Addr×Value),
   Paired (fun (p:PyData×V) (q:PyData×Addr×Value)=>p.1=q.1/\KeyT K H q.1 q.2.1/\RelV p.2 q.2.2) kvs xs /\
   ∃ o es ep,h.get? a=some o/\o.ExactDict/\o.data=.dict es ep/\es.toList=xs.map (entryOfKey (Gx P w))/\(xs.map (·.1)).Nodup
 |.set S n=>h.SetOf (intKind P w) a S n
 |.ins C dx fs=>H dx=some (.own a)/\fs.length<=1000/\dx≠a/\h.get? a=some (W.instObj C dx) /\
   ∃ mA,h.Ns1 dx mA/\(∀ f,Ara (fs.lookup f) (mA f))/\PySem.Within mA (fs.map (·.1))
 |.own _=>∃ o,h.get? a=some o
 |.xd fs=>∃ mA,h.Ns1 a mA/\∀ f,Ara (fs.lookup f) (mA f)
 |.rng lo hi=>∃ t u v,h.get? a=some { cls:=.type "range",data:=.fields #[.int lo t,.int hi u,.int 1 v] }
 |.frz o u=>h.get? a=some o/\ObjOk H h a u
 |.tbl ps=>Ax2 H h a ps
 |.met f x=>h.get? a=some (W.methodObj (.ref f) (.ref x))
 |.ext φ=>φ h/\(∃ o,h.get? a=some o)/\∀ h1 h2:Heap,φ h1->(∀ o,h1.get? a=some o->h2.get? a=some o)->φ h2
def HOk (H:Hp) (h:Heap):Prop:=∀ a o,H a=some o->ObjOk P w K H h a o
end
section
variable {P:Program}{w:World}{K:W.Frag}{H H':Hp}{h h':Heap}{a:Addr}{o:HO}
theorem ObjOk.lt (x:ObjOk P w K H h a o):a < h.objs.size:=by
 cases o with
 |lst xs=>obtain⟨_,_,_,_,e⟩:=x;exact Ben e
 |tup xs=>obtain⟨_,_,_,p⟩:=x;exact p.lt
 |dK kvs=>obtain⟨_,_,_,_,o,_,_,e,_⟩:=x;exact Ben e
 |dT kvs=>obtain⟨_,_,_,_,o,_,_,e,_⟩:=x;exact Ben e
 |set S n=>obtain⟨o,_,_,_,e,_⟩:=x;exact Ben e
 |ins C dx fs=>obtain⟨_,_,_,e,_⟩:=x;exact Ben e
 |own y=>obtain⟨_,e⟩:=x;exact Ben e
 |xd fs=>obtain⟨_,⟨_,_,_,e,_⟩,_⟩:=x;exact Ben e
 |rng lo hi=>obtain⟨_,_,_,e⟩:=x;exact Ben e
 |frz ob u=>obtain⟨e,_⟩:=x;exact Ben e
 |tbl ps=>obtain⟨_,e,_⟩:=x;exact Ben e
 |met f y=>exact Ben (show h.get? a=some _ from x)
 |ext φ=>obtain⟨_,⟨_,e⟩,_⟩:=x;exact Ben e
theorem Paired.mapP {α β:Type}{F G:α->β->Prop}:∀ {l₁:List α}{l₂:List β},Paired F l₁ l₂->(∀ a b,F a b->G a b)->Paired G l₁ l₂
 |_,_,.nil,_=>.nil
 |_,_,.cons r t,f=>.cons (f _ _ r) (Paired.mapP t f)
theorem SqT.upR {K:W.Frag}{H H':Hp} (ht:∀ b xs,Rd H b (.tup xs)->Rd H' b (.tup xs)) {a:Addr}{xs:List V} (h:SqT K H a xs):SqT K H' a xs:=h.elim (fun z=>.inl (ht _ _ z)) .inr
theorem KeyH.up {K:W.Frag}{H H':Hp} (ht:∀ b xs,Rd H b (.tup xs)->Rd H' b (.tup xs)) (d:PyData):∀ {v:V},KeyH K H d v->KeyH K H' d v:=by
 match d with
 |.int i=>intro v h;cases h;exact .int _
 |.str x=>intro v h;cases h;exact .str _
 |.tuple ds =>
  intro v h
  cases h with
  |@tup _ a vs hs hp =>
  refine .tup (SqT.upR ht hs) ?_
  have go:∀ (es:List PyData) (us:List V),(∀ e∈es,e∈ds)->Paired (KeyH K H) es us->Paired (KeyH K H') es us:=by
   intro es us hm q
   induction q with
   |nil=>exact .nil
   |@cons e u es us h1 h2 ih=>exact .cons (KeyH.up ht e h1) (ih fun x hx=>hm x (Bed _ hx))
  exact go ds vs (fun _ h=>h) hp
 |.none=>intro v h;cases h
 |.bool _=>intro v h;cases h
 |.list _=>intro v h;cases h
 |.dict _=>intro v h;cases h
termination_by sizeOf d
decreasing_by
 have:=Bfy (hm e (Beb ..))
 simp;lia
theorem KeyT.up {K:W.Frag}{H H':Hp} (ht:∀ b xs,Rd H b (.tup xs)->Rd H' b (.tup xs)) {d:PyData}{b:Addr} (h:KeyT K H d b):KeyT K H' d b:=⟨h.1,h.2.1,h.2.2.1,h.2.2.2.up ht⟩
theorem Rd.upd_none {H:Hp}{p:Addr}{o u:HO} (hn:H p=none) {c:Addr} (q:Rd H c u):Rd (upd H p o) c u:=by
 rcases q with q|⟨x,q⟩
 ·exact .inl (by rw[A0 (Az q hn)];exact q)
 ·exact .inr ⟨x,by rw[A0 (Az q hn)];exact q⟩
theorem ObjOk.stay (x:ObjOk P w K H h a o) (k:∀ b u,(b=a\/H b=some (.own a))->h.get? b=some u->h'.get? b=some u)
  (ho:∀ b,H b=some (.own a)->H' b=some (.own a)) (ht:∀ b xs,Rd H b (.tup xs)->Rd H' b (.tup xs)) (hf:∀ b x u,H b=some (.frz x u)->H' b=some (.frz x u)):ObjOk P w K H' h' a o:=by
 induction o with
 |lst xs=>obtain⟨z,its,n,r,e⟩:=x;exact⟨z,its,n,r,k _ _ (.inl rfl) e⟩
 |tup xs=>obtain⟨z,its,r,ob,e,c⟩:=x;exact⟨z,its,r,ob,k _ _ (.inl rfl) e,c⟩
 |dK kvs=>obtain⟨z,y,vs,r,ob,es,ep,e,c⟩:=x;exact⟨z,y,vs,r,ob,es,ep,k _ _ (.inl rfl) e,c⟩
 |dT kvs =>
  obtain⟨z,y,xs,r,ob,es,ep,e,c⟩:=x
  exact⟨z,y,xs,Paired.mapP r fun p q z=>⟨z.1,z.2.1.up ht,z.2.2⟩,ob,es,ep,k _ _ (.inl rfl) e,c⟩
 |set S n=>obtain⟨ob,es,ep,t,e,c⟩:=x;exact⟨ob,es,ep,t,k _ _ (.inl rfl) e,c⟩
 |ins C dx fs =>
  obtain⟨d,z,ne,e,mA,⟨od,es,ep,e2,c⟩,r⟩:=x
  exact⟨ho _ d,z,ne,k _ _ (.inl rfl) e,mA,⟨od,es,ep,k _ _ (.inr d) e2,c⟩,r⟩
 |own y=>obtain⟨ob,e⟩:=x;exact⟨ob,k _ _ (.inl rfl) e⟩
 |xd fs=>obtain⟨mA,⟨od,es,ep,e,c⟩,r⟩:=x;exact⟨mA,⟨od,es,ep,k _ _ (.inl rfl) e,c⟩,r⟩
 |rng lo hi=>obtain⟨t,u,v,e⟩:=x;exact⟨t,u,v,k _ _ (.inl rfl) e⟩
 |frz ob u ih=>obtain⟨e,q⟩:=x;exact⟨k _ _ (.inl rfl) e,ih q⟩
 |tbl ps =>
  obtain⟨qs,e,t,c⟩:=x
  exact⟨qs,k _ _ (.inl rfl) e,t,fun pos cv z=>let ⟨c',oc,u,q,t',z1,z2,z3,z4⟩:=c pos cv z;⟨c',oc,u,q,t',z1,z2,hf _ _ _ z3,z4⟩⟩
 |met f y =>
  have e:h.get? a=some (W.methodObj (.ref f) (.ref y)):=x
  show h'.get? a=some (W.methodObj (.ref f) (.ref y))
  exact k a _ (.inl rfl) e
 |ext φ=>obtain⟨p,⟨o,e⟩,st⟩:=x;exact⟨st _ _ p fun o q=>k _ _ (.inl rfl) q,⟨o,k _ _ (.inl rfl) e⟩,st⟩
theorem HOk.lt (x:HOk P w K H h) (e:H a=some o):a < h.objs.size:=(x a o e).lt
theorem HOk.fresh (x:HOk P w K H h) (e:h.objs.size<=a):H a=none:=by
 cases q:H a with
 |none=>rfl
 |some u=>exact absurd (Ber (x.lt q) e) (Bfh _)
theorem HOk.kept (x:HOk P w K H h) (k:∀ b u,h.get? b=some u->h'.get? b=some u):HOk P w K H h':=fun a o e =>
 (x a o e).stay (fun b u _ q=>k b u q) (fun _ q=>q) (fun _ _ q=>q) fun _ _ _ q=>q
theorem HOk.laid (x:HOk P w K H h) (k:∀ b u,h.get? b=some u->h'.get? b=some u) (hp:h.objs.size<=a) (new:ObjOk P w K (upd H a o) h' a o):HOk P w K (upd H a o) h':=fun b u e=>by
 have hn:=x.fresh hp
 by_cases hb:b=a
 ·subst hb;rw[A8] at e;cases e;exact new
 ·rw[A0 hb] at e
  exact (x b u e).stay (fun c v _ q=>k c v q) (fun c q=>by rw[A0 (Az q hn)];exact q) (fun c xs q=>Rd.upd_none hn q) fun c x u q=>by rw[A0 (Az q hn)];exact q
end
theorem Rd.ok {P:Program}{w:World}{K:W.Frag}{H:Hp}{h:Heap}{a:Addr}{u:HO} (r:Rd H a u) (x:HOk P w K H h):ObjOk P w K H h a u:=by
 rcases r with r|⟨o,r⟩
 ·exact x a u r
 ·obtain⟨_,q⟩:=x a _ r
  exact q
noncomputable def Mut:Option HO->Prop
 |some (.lst _)=>True
 |some (.dK _)=>True
 |some (.dT _)=>True
 |some (.set _ _)=>True
 |some (.ins _ _ _)=>True
 |some (.ext _)=>True
 |_=>False
theorem Rd.upd_mut {H:Hp}{x:Addr}{o:HO} (mu:Mut (H x)) {c:Addr}{xs:List V} (q:Rd H c (.tup xs)):Rd (upd H x o) c (.tup xs):=by
 rcases q with q|⟨y,q⟩
 ·exact .inl (by rw[A0 (fun z=>by subst z;rw[q] at mu;exact mu)];exact q)
 ·exact .inr ⟨y,by rw[A0 (fun z=>by subst z;rw[q] at mu;exact mu)];exact q⟩
section
variable {P:Program}{w:World}{K:W.Frag}{H:Hp}{h h':Heap}{x e:Addr}{o':HO}
theorem HOk.write (ok:HOk P w K H h) (mu:Mut (H x)) (he:e=x\/H e=some (.own x)) (k:∀ b u,b≠e->h.get? b=some u->h'.get? b=some u) (heo:∃ u,h'.get? e=some u)
  (new:ObjOk P w K (upd H x o') h' x o'):HOk P w K (upd H x o') h':=fun b u q=>by
 have nown:∀ c y,H c=some (.own y)->c≠x:=fun c y r z=>by subst z;rw[r] at mu;exact mu
 have ntup:∀ c xs,H c=some (.tup xs)->c≠x:=fun c xs r z=>by subst z;rw[r] at mu;exact mu
 by_cases hb:b=x
 ·subst hb;rw[A8] at q;cases q;exact new
 ·rw[A0 hb] at q
  by_cases hbe:b=e
  ·have q':H b=some (.own x):=by
    rcases he with z|z
    ·exact absurd (hbe.trans z) hb
    ·rw[hbe];exact z
   rw[q] at q';cases q'
   obtain⟨v,hv⟩:=heo
   exact⟨v,by rw[hbe];exact hv⟩
  ·refine (ok b u q).stay (fun c v hc r=>k c v ?_ r) (fun c r=>by rw[A0 (nown c b r)];exact r) (fun c xs r=>Rd.upd_mut mu r) fun c y u r=>by rw[A0 (fun z=>by subst z;rw[r] at mu;exact mu)];exact r
   rcases hc with rfl|hc
   ·exact hbe
   ·rintro rfl
    rcases he with z|z
    ·exact nown c b hc z
    ·rw[hc] at z;cases z;exact hb rfl
end
structure Un (fs ex:List Addr) (H H':Hp) (h h':Heap):Prop where
 keep:∀ b o,h.get? b=some o->H b=none->b∉fs->b∉ex->h'.get? b=some o
 slot:∀ b o,h.get? b=some o->H b=none->b∈fs->b∉ex->∃ sl,h'.get? b=some { o with slots:=sl }
 free:∀ b o,h.get? b=some o->H b=none->b∉ex->H' b=none
 there:∀ b o,h.get? b=some o->b∉ex->∃ o',h'.get? b=some o'
 tups:∀ b xs,H b=some (.tup xs)->H' b=some (.tup xs)
 frzs:∀ b o u,H b=some (.frz o u)->H' b=some (.frz o u)
 tbls:∀ b ps,H b=some (.tbl ps)->∃ more,H' b=some (.tbl (ps++more))
section
variable {fs fs' ex ex':List Addr}{H H1 H2:Hp}{h h1 h2 h':Heap}{a x e:Addr}{o:HO}
theorem Un.any (u:Un fs ex H H1 h h1) {b:Addr}{ob:Obj} (q:h.get? b=some ob) (n:H b=none) (hx:b∉ex):∃ sl,h1.get? b=some { ob with slots:=sl }:=by
 by_cases hb:b∈fs
 ·exact u.slot b ob q n hb hx
 ·exact⟨ob.slots,u.keep b ob q n hb hx⟩
theorem Un.kept (k:∀ b u,h.get? b=some u->h'.get? b=some u):Un fs ex H H h h' :=
 ⟨fun b ob q _ _ _=>k b ob q,fun b ob q _ _ _=>⟨ob.slots,k b ob q⟩,fun _ _ _ n _=>n,fun b ob q _=>⟨ob,k b ob q⟩,fun _ _ q=>q,fun _ _ _ q=>q,fun _ ps q=>⟨#[],by rw[q];simp⟩⟩
theorem Un.refl:Un fs ex H H h h:=Un.kept fun _ _ q=>q
theorem Un.laid (k:∀ b u,h.get? b=some u->h'.get? b=some u) (hp:h.objs.size<=a) (hn:H a=none):Un fs ex H (upd H a o) h h' where
 keep:=fun b u q _ _ _=>k b u q
 slot:=fun b u q _ _ _=>⟨u.slots,k b u q⟩
 free:=fun b u q n _=>by rw[A0 (Be0 (Ber (Ben q) hp))];exact n
 there:=fun b u q _=>⟨u,k b u q⟩
 tups:=fun b xs q=>by rw[A0 (Az q hn)];exact q
 frzs:=fun b u xs q=>by rw[A0 (Az q hn)];exact q
 tbls:=fun b ps q=>⟨#[],by rw[A0 (Az q hn),q];simp⟩
theorem Un.write (mu:Mut (H x)) (he:e=x\/H e=some (.own x)) (k:∀ b u,b≠e->h.get? b=some u->h'.get? b=some u) (heo:∃ u,h'.get? e=some u):Un fs ex H (upd H x o) h h':=by
 have hx:∀ b,H b=none->b≠x:=fun b n z=>by subst z;rw[n] at mu;exact mu
 have hb:∀ b,H b=none->b≠e:=fun b n z=>by
  subst z
  rcases he with r|r
  ·exact hx b n r
  ·rw[n] at r;cases r
 have hm:∀ b u,H b=some u->¬ Mut (some u)->b≠x:=fun b u q nm z=>by subst z;rw[q] at mu;exact nm mu
 refine⟨fun b u q n _ _=>k b u (hb b n) q,fun b u q n _ _=>⟨u.slots,k b u (hb b n) q⟩,fun b u q n _=>by rw[A0 (hx b n)];exact n,fun b u q _=>?_,
  fun b xs q=>by rw[A0 (hm b _ q fun z=>z)];exact q,fun b u xs q=>by rw[A0 (hm b _ q fun z=>z)];exact q,fun b ps q=>⟨#[],by rw[A0 (hm b _ q fun z=>z),q];simp⟩⟩
 by_cases hbe:b=e
 ·subst hbe;exact heo
 ·exact⟨u,k b u hbe q⟩
end
noncomputable def trk (h:Heap) (H:Hp):List Addr:=(List.range h.objs.size).filter fun a=>(H a).isSome
def Afy (h:Heap) (H:Hp):Heap:=W.hideAll h (trk h H)
theorem Aa5 (h:Heap) (H:Hp):(Afy h H).objs.size=h.objs.size:=W.hideAll_size _ _
theorem Ou {h:Heap}{H:Hp}{b:Addr}{o:Obj} (e:h.get? b=some o) (n:H b=none):(Afy h H).get? b=some o :=
 W.hideAll_get _ e fun hm=>by
  have q:(H b).isSome=true:=(List.mem_filter.mp hm).2
  rw[n] at q;simp at q
theorem An6 {h:Heap}{H:Hp}{b:Addr}{o:Obj} (e:(Afy h H).get? b=some o):h.get? b=some o/\H b=none:=by
 have e':h.get? b=some o:=W.of_hideAll (trk h H) e
 refine⟨e',?_⟩
 cases q:H b with
 |none=>rfl
 |some x =>
  have hm:b∈trk h H:=List.mem_filter.mpr ⟨List.mem_range.mpr (Ben e'),by simp[q]⟩
  have z:(Afy h H).get? b=none:=W.hideAll_none (trk h H) hm
  rw[z] at e;cases e
structure Mod (K:W.Frag) (mg:Str->Option Value) (base:Heap):Prop where
 kin:K.In base
 glob:base.Ns mainGlobals mg
 blt:∃ mb,base.Ns builtinsNs mb/\∀ x:Str,x≠"__name__"->mb x=bootBuiltins x
 nolimit:base.NoLimit
structure Cx where
 prog:Program
 w:World
 K:W.Frag
 mg:Str->Option Value
 base:Heap
 A:Around
 N:List Str
 s₀:Shared
 H₀:Hp
 env:Env
 outer:List Env
 stack:List Env
 ex:List Addr
 fn:Str->Bool
 calm:Bool
 pn:List (Addr×Obj)
 xe:Value->Shared->Prop
noncomputable def frs (l:List Env):List Addr:=l.filterMap (·.frame)
abbrev Cx.fs (X:Cx):List Addr:=frs X.outer
def Vis (sc:Scope) (x:Str):Prop:=sc.names.lookup x=some .local\/sc.names.lookup x=some .cell\/sc.names.lookup x=some .free
def Loc (sc:Scope) (x:Str):Prop:=sc.names.lookup x=some .local\/sc.names.lookup x=some .cell
def Bb1 (env:Env) (h:Heap) (m:Str->Option Value) (x:Str) (u:Value):Prop :=
 (env.kindOf x=some .local/\m x=some u)\/((env.kindOf x=some .cell\/env.kindOf x=some .free)/\∃ c,env.cells.lookup x=some c/\h.IsCell c (some u))
structure Cx.Ok (X:Cx):Prop where
 mod:Mod X.K X.mg X.base
 kind:X.env.scope.kind=.function
 glob:X.env.globals=mainGlobals
 blt:X.env.builtins=builtinsNs
 above:X.s₀.heap.objs.size<=X.env.locals
 inj:∀ x y c,X.env.cells.lookup x=some c->X.env.cells.lookup y=some c->x=y
 has:∀ x,(X.env.kindOf x=some .cell\/X.env.kindOf x=some .free)->∃ c,X.env.cells.lookup x=some c
 cab:∀ x c,X.fn x=true->X.env.cells.lookup x=some c->X.s₀.heap.objs.size<=c
 hd:X.calm=true->X.A.handled=none
 frames:X.A.frames=some X.stack
 stk:X.stack=X.outer\/(X.stack=X.env::X.outer/\X.env.frame=some X.env.locals)
 exf:∀ b∈X.ex,b≠X.env.locals/\∀ x c,X.env.cells.lookup x=some c->c≠b
 bs:∀ b o,X.base.get? b=some o->X.s₀.heap.get? b=some o/\X.H₀ b=none
 bsz:X.base.objs.size<=X.s₀.heap.objs.size
 noex:∀ b o,X.base.get? b=some o->b∉X.ex
 exfs:∀ b∈X.ex,b∉X.fs
 funs:X.s₀.heap.FunFrames X.base X.outer
 frf:∀ b∈X.fs,X.H₀ b=none
structure Inv (X:Cx) (pins:List (Addr×Obj)) (σ:List (Option V)) (H:Hp) (s:Shared):Prop where
 ok:X.Ok
 os:s.os=X.s₀.os
 bare:AllBare s.gens
 base:Un X.fs X.ex X.H₀ H X.s₀.heap s.heap
 loc:∃ m,s.heap.Ns X.env.locals m/\∀ (i:Nat) (x:Str) (v:V),X.N[i]?=some x->σ[i]?=some (some v)->Vis X.env.scope x->∃ u,RelV v u/\Bb1 X.env s.heap m x u
 cell:∀ x c,X.env.cells.lookup x=some c->∃ v,s.heap.IsCell c v
 free:H X.env.locals=none
 freeC:∀ x c,X.env.cells.lookup x=some c->H c=none
 pin:∀ p∈X.pn++pins,s.heap.get? p.1=some p.2/\H p.1=none/\p.1≠X.env.locals/\p.1∉X.fs/\∀ v,p.2.data≠.cell v
 hok:HOk X.prog X.w X.K H s.heap
 len:σ.length=X.N.length
section
variable {X:Cx}{pins:List (Addr×Obj)}{σ:List (Option V)}{H H':Hp}{s:Shared}{h':Heap}
theorem Cx.Ok.nofr (ok:X.Ok) {b:Addr}{o:Obj} (e:X.base.get? b=some o):b∉X.fs:=fun hb=>by
 have:=(ok.funs.mem hb).1
 rw[e] at this;cases this
theorem Inv.bs (I:Inv X pins σ H s):∀ b o,X.base.get? b=some o->s.heap.get? b=some o/\H b=none:=fun b o e =>
 ⟨I.base.keep b o (I.ok.bs b o e).1 (I.ok.bs b o e).2 (I.ok.nofr e) (I.ok.noex b o e),I.base.free b o (I.ok.bs b o e).1 (I.ok.bs b o e).2 (I.ok.noex b o e)⟩
theorem Inv.bk (I:Inv X pins σ H s):∀ b o,X.base.get? b=some o->s.heap.get? b=some o:=fun b o e=>(I.bs b o e).1
theorem Inv.mod (I:Inv X pins σ H s):Mod X.K X.mg X.base:=I.ok.mod
theorem Inv.kIn (I:Inv X pins σ H s):X.K.In s.heap:=I.ok.mod.kin.keeps I.bk
theorem Inv.lt (I:Inv X pins σ H s):X.env.locals < s.heap.objs.size:=let ⟨_,hn,_⟩:=I.loc;hn.lt
theorem Inv.sz (I:Inv X pins σ H s):X.s₀.heap.objs.size<=s.heap.objs.size:=Bez I.ok.above (Bf8 I.lt)
theorem Inv.nofs (I:Inv X pins σ H s) {a:Addr} (h:s.heap.objs.size<=a):a∉X.fs:=fun hb=>by
 obtain⟨_,o,ho,_⟩:=I.ok.funs.mem hb
 exact absurd (Ber (Ben ho) (Bez I.sz h)) (Bfh _)
theorem Inv.cne (I:Inv X pins σ H s):∀ x c,X.env.cells.lookup x=some c->c≠X.env.locals:=fun x c e z=>by
 obtain⟨v,o,ho,hd⟩:=I.cell x c e
 obtain⟨m,⟨o',es,ep,ho',hd',_⟩,_⟩:=I.loc
 rw[z,ho'] at ho;cases ho;rw[hd'] at hd;cases hd
theorem Inv.funs (I:Inv X pins σ H s):s.heap.FunFrames X.base X.outer:=by
 have all:∀ (l:List Env),(∀ b∈frs l,b∈X.fs)->X.s₀.heap.FunFrames X.base l->s.heap.FunFrames X.base l:=by
  intro l
  induction l with
  |nil=>intro _ _;trivial
  |cons env r ih =>
   intro hs hl
   obtain⟨hk,⟨L,o,hf,hn,ho,hd⟩,hr⟩:=hl
   have hL:L∈X.fs:=hs L (by unfold frs;rw[List.filterMap_cons,hf];exact Beb)
   obtain⟨sl,e⟩:=I.base.slot L o ho (I.ok.frf L hL) hL fun z=>I.ok.exfs L z hL
   exact⟨hk,⟨L,_,hf,hn,e,hd⟩,ih (fun b hb=>hs b (by unfold frs;rw[List.filterMap_cons,hf];exact Bed _ hb)) hr⟩
 exact all X.outer (fun _ hb=>hb) I.ok.funs
theorem Inv.stack (I:Inv X pins σ H s):s.heap.FunFrames X.base X.stack:=by
 rcases I.ok.stk with e|⟨e,hf⟩
 ·rw[e];exact I.funs
 ·rw[e]
  obtain⟨m,hn,_⟩:=I.loc
  refine .cons (by rw[I.ok.kind];decide) hf hn ?_ I.funs
  exact Heap.get?_none_of_le (Bez I.ok.bsz I.ok.above)
theorem Inv.stkSub (I:Inv X pins σ H s):∀ b∈frs X.stack,b∈X.env.locals::X.fs:=fun b hb=>by
 rcases I.ok.stk with e|⟨e,hf⟩
 ·rw[e] at hb;exact Bed _ hb
 ·rw[e] at hb
  unfold frs at hb
  rw[List.filterMap_cons,hf] at hb
  exact hb
theorem Inv.stkFree (I:Inv X pins σ H s):∀ b∈frs X.stack,H b=none:=fun b hb=>by
 rcases List.mem_cons.mp (I.stkSub b hb) with e|hb
 ·rw[e];exact I.free
 ·obtain⟨_,o,ho,_⟩:=I.ok.funs.mem hb
  exact I.base.free b o ho (I.ok.frf b hb) fun z=>I.ok.exfs b z hb
theorem Inv.step {g':Array GenState}{t':Nat}{d':Drawn}{ch:List Addr} (I:Inv X pins σ H s)
  (hch:∀ b∈ch,(b∈X.ex\/X.s₀.heap.objs.size<=b)/\b≠X.env.locals/\(∀ x c,X.env.cells.lookup x=some c->c≠b)/\∀ p∈X.pn++pins,p.1≠b)
  (keep:∀ b o,b≠X.env.locals->b∉X.fs->b∉ch->s.heap.get? b=some o->H b=none->h'.get? b=some o)
  (slot:∀ b o,b≠X.env.locals->b∈X.fs->b∉ch->s.heap.get? b=some o->H b=none->∃ sl,h'.get? b=some { o with slots:=sl }) (free:∀ b o,b∉ch->s.heap.get? b=some o->H b=none->H' b=none)
  (there:∀ b o,b∉ch->s.heap.get? b=some o->∃ o',h'.get? b=some o')
  (tups:∀ b xs,H b=some (.tup xs)->H' b=some (.tup xs)) (frzs:∀ b o u,H b=some (.frz o u)->H' b=some (.frz o u)) (tbls:∀ b ps,H b=some (.tbl ps)->∃ more,H' b=some (.tbl (ps++more)))
  (ns:∀ m,s.heap.Ns X.env.locals m->h'.Ns X.env.locals m) (hok:HOk X.prog X.w X.K H' h') (hg:AllBare g') :
  Inv X pins σ H' { s with heap:=h',gens:=g',drawn:=d',toks:=t' }:=by
 have neL:∀ b o,X.s₀.heap.get? b=some o->b≠X.env.locals:=fun b o e=>Be0 (Ber (Ben e) I.ok.above)
 have neC:∀ b o,X.s₀.heap.get? b=some o->b∉X.ex->b∉ch:=fun b o e hx hb=>by
  rcases (hch b hb).1 with z|z
  ·exact hx z
  ·exact absurd (Ber (Ben e) z) (Bfh _)
 have cellK:∀ x c,X.env.cells.lookup x=some c->∀ v,s.heap.IsCell c v->h'.IsCell c v:=fun x c e v ⟨o,ho,hd⟩=>by
  have nch:c∉ch:=fun z=>(hch c z).2.2.1 x c e rfl
  by_cases hc:c∈X.fs
  ·obtain⟨sl,q⟩:=slot c o (I.cne x c e) hc nch ho (I.freeC x c e)
   exact⟨_,q,hd⟩
  ·exact⟨o,keep c o (I.cne x c e) hc nch ho (I.freeC x c e),hd⟩
 refine⟨I.ok,I.os,hg,⟨fun b o e n hb hx=>?_,fun b o e n hb hx=>?_,fun b o e n hx=>?_,fun b o e hx=>?_,fun b xs e=>tups b xs (I.base.tups b xs e),fun b o xs e=>frzs b o xs (I.base.frzs b o xs e),fun b ps e=>?_⟩,?_,fun x c e=>?_,?_,fun x c e=>?_,fun p hp=>?_,hok,I.len⟩
 ·exact keep b o (neL b o e) hb (neC b o e hx) (I.base.keep b o e n hb hx) (I.base.free b o e n hx)
 ·obtain⟨sl,e1⟩:=I.base.slot b o e n hb hx
  obtain⟨sl',e2⟩:=slot b _ (neL b o e) hb (neC b o e hx) e1 (I.base.free b o e n hx)
  exact⟨sl',e2⟩
 ·obtain⟨o',e1⟩:=I.base.there b o e hx
  exact free b o' (neC b o e hx) e1 (I.base.free b o e n hx)
 ·obtain⟨o',e1⟩:=I.base.there b o e hx
  exact there b o' (neC b o e hx) e1
 ·obtain⟨m1,e1⟩:=I.base.tbls b ps e
  obtain⟨m2,e2⟩:=tbls b _ e1
  exact⟨m1++m2,by rw[e2,Array.append_assoc]⟩
 ·obtain⟨m,hn,hl⟩:=I.loc
  refine⟨m,ns m hn,fun i x v e1 e2 e3=>?_⟩
  obtain⟨u,r,l⟩:=hl i x v e1 e2 e3
  refine⟨u,r,?_⟩
  rcases l with l|⟨k,c,e,z⟩
  ·exact .inl l
  ·exact .inr ⟨k,c,e,cellK x c e _ z⟩
 ·obtain⟨v,z⟩:=I.cell x c e
  exact⟨v,cellK x c e v z⟩
 ·obtain⟨m,⟨o,_,_,ho,_⟩,_⟩:=I.loc
  exact free _ o (fun z=>(hch _ z).2.1 rfl) ho I.free
 ·obtain⟨v,o,ho,hd⟩:=I.cell x c e
  exact free c o (fun z=>(hch c z).2.2.1 x c e rfl) ho (I.freeC x c e)
 ·obtain⟨e,n,ne,nf,d⟩:=I.pin p hp
  have nch:p.1∉ch:=fun z=>(hch p.1 z).2.2.2 p hp rfl
  exact⟨keep p.1 p.2 ne nf nch e n,free p.1 p.2 nch e n,ne,nf,d⟩
theorem Inv.un {t':Nat} (I:Inv X pins σ H s) (u:Un X.fs [] H H' s.heap h') (hok:HOk X.prog X.w X.K H' h'):Inv X pins σ H' { s with heap:=h',toks:=t' }:=by
 obtain⟨m,⟨o,es,ep,ho,r⟩,_⟩:=id I.loc
 obtain⟨sl,hL⟩:=u.any ho I.free (by simp)
 exact I.step (g':=s.gens) (d':=s.drawn) (ch:=[]) (fun _ z=>nomatch z) (fun b o _ hb _ e n=>u.keep b o e n hb (by simp)) (fun b o _ hb _ e n=>u.slot b o e n hb (by simp)) (fun b o _ e n=>u.free b o e n (by simp)) (fun b o _ e=>u.there b o e (by simp)) u.tups u.frzs u.tbls (fun m' hm=>by
  obtain⟨o',es',ep',ho',r'⟩:=hm
  rw[ho] at ho';cases ho'
  exact⟨_,es',ep',hL,r'⟩) hok I.bare
theorem Inv.call {g':Array GenState}{t':Nat}{d':Drawn}{ch:List Addr} (I:Inv X pins σ H s) (u:Un (frs X.stack) ch H H' s.heap h') (hok:HOk X.prog X.w X.K H' h') (hg:AllBare g')
  (hch:∀ b∈ch,(b∈X.ex\/X.s₀.heap.objs.size<=b)/\b≠X.env.locals/\(∀ x c,X.env.cells.lookup x=some c->c≠b)/\∀ p∈X.pn++pins,p.1≠b) :
  Inv X pins σ H' { s with heap:=h',gens:=g',drawn:=d',toks:=t' }:=by
 obtain⟨m,⟨o,es,ep,ho,r⟩,_⟩:=id I.loc
 obtain⟨sl,hL⟩:=u.any ho I.free fun z=>(hch _ z).2.1 rfl
 exact I.step (ch:=ch) hch (fun b o hL hb hc e n=>u.keep b o e n (fun z=>(List.mem_cons.mp (I.stkSub b z)).elim hL hb) hc) (fun b o _ _ hc e n=>u.any e n hc) (fun b o hc e n=>u.free b o e n hc) (fun b o hc e=>u.there b o e hc) u.tups u.frzs u.tbls (fun m' hm=>by
  obtain⟨o',es',ep',ho',r'⟩:=hm
  rw[ho] at ho';cases ho'
  exact⟨_,es',ep',hL,r'⟩) hok hg
theorem Inv.turned {t':Nat}{it:Addr} (I:Inv X pins σ H s) (k:∀ b o,b≠it->s.heap.get? b=some o->h'.get? b=some o) (hn:H it=none) (hL:it≠X.env.locals)
  (h1:it∈X.ex\/X.s₀.heap.objs.size<=it) (h2:∀ x c,X.env.cells.lookup x=some c->c≠it) (h3:∀ p∈X.pn++pins,p.1≠it):Inv X pins σ H { s with heap:=h',toks:=t' }:=by
 have nit:∀ b u,H b=some u->b≠it:=fun b u e z=>by rw[z,hn] at e;cases e
 refine I.step (g':=s.gens) (d':=s.drawn) (ch:=[it]) (fun b hb=>?_) (fun b o _ _ hc e _=>k b o (fun z=>hc (by simp[z])) e) (fun b o _ _ hc e _=>⟨o.slots,k b o (fun z=>hc (by simp[z])) e⟩) (fun _ _ _ _ n=>n)
  (fun b o hc e=>⟨o,k b o (fun z=>hc (by simp[z])) e⟩) (fun _ _ e=>e) (fun _ _ _ e=>e) (fun b ps e=>⟨#[],by rw[e];simp⟩) (fun m hm=>?_) (fun b u e=>?_) I.bare
 ·have e:b=it:=by simpa using hb
  subst e
  exact⟨h1,hL,h2,h3⟩
 ·obtain⟨o,es,ep,ho,r⟩:=hm
  exact⟨o,es,ep,k _ o (Bgj hL) ho,r⟩
 ·refine (I.hok b u e).stay (fun c v hc q=>k c v ?_ q) (fun _ q=>q) (fun _ _ q=>q) fun _ _ _ q=>q
  rcases hc with z|z
  ·rw[z];exact nit b u e
  ·exact nit c _ z
theorem Inv.tok (I:Inv X pins σ H s) (t:Nat):Inv X pins σ H { s with toks:=t }:=I.un (h':=s.heap) (t':=t) Un.refl I.hok
theorem Inv.kept {t':Nat} (I:Inv X pins σ H s) (k:∀ b u,s.heap.get? b=some u->h'.get? b=some u):Inv X pins σ H { s with heap:=h',toks:=t' }:=I.un (Un.kept k) (I.hok.kept k)
theorem Inv.laid {a:Addr}{o:HO}{t':Nat} (I:Inv X pins σ H s) (k:∀ b u,s.heap.get? b=some u->h'.get? b=some u) (hp:s.heap.objs.size<=a) (new:ObjOk X.prog X.w X.K (upd H a o) h' a o) :
  Inv X pins σ (upd H a o) { s with heap:=h',toks:=t' }:=I.un (Un.laid k hp (I.hok.fresh hp)) (I.hok.laid k hp new)
theorem Inv.write {x e:Addr}{o:HO}{t':Nat} (I:Inv X pins σ H s) (mu:Mut (H x)) (he:e=x\/H e=some (.own x)) (k:∀ b u,b≠e->s.heap.get? b=some u->h'.get? b=some u) (heo:∃ u,h'.get? e=some u)
  (new:ObjOk X.prog X.w X.K (upd H x o) h' x o):Inv X pins σ (upd H x o) { s with heap:=h',toks:=t' }:=I.un (Un.write mu he k heo) (I.hok.write mu he k heo new)
theorem Inv.pins_of {pins':List (Addr×Obj)} (I:Inv X pins σ H s) (h:∀ p∈pins',s.heap.get? p.1=some p.2/\H p.1=none/\p.1≠X.env.locals/\p.1∉X.fs/\∀ v,p.2.data≠.cell v):Inv X pins' σ H s :=
 ⟨I.ok,I.os,I.bare,I.base,I.loc,I.cell,I.free,I.freeC,fun p hp=>(List.mem_append.mp hp).elim (fun z=>I.pin p (Bfd _ z)) (h p),I.hok,I.len⟩
theorem Xt {N:List Str} (hN:N.Nodup) {i j:Nat}{x:Str} (a:N[i]?=some x) (b:N[j]?=some x):i=j:=by
 obtain⟨h1,e1⟩:=List.getElem?_eq_some_iff.mp a
 obtain⟨h2,e2⟩:=List.getElem?_eq_some_iff.mp b
 exact (List.getElem_inj hN).mp (e1.trans e2.symm)
theorem Ue {M:Model}{A:Around}{E:Value->Shared->Prop}{i:Nat}{x:Str}{v:V}{u:Value}{Q:Unit->Shared->Prop} (I:Inv X pins σ H s) (hN:X.N.Nodup) (hi:X.N[i]?=some x) (hx:Loc X.env.scope x) (r:RelV v u)
  (h:∀ s',Inv X pins (σ.set i (some v)) H s'->(∃ a,Heap.SameBut a s.heap s'.heap/\(a=X.env.locals\/X.env.cells.lookup x=some a))->Q () s') (hf:X.fn x=true\/X.env.scope.names.lookup x=some .local:=by first|exact .inl rfl|exact .inr rfl|assumption):wpAny M A (storeName X.env x u) Q E s:=by
 obtain⟨m,hn,hl⟩:=id I.loc
 have hcls:(X.env.scope.kind == .class||(X.env.scope.kind == .module&&X.env.locals != X.env.globals))=false:=by rw[I.ok.kind];rfl
 have hiσ:i < σ.length:=by rw[I.len];exact (List.getElem?_eq_some_iff.mp hi).1
 have cne:=I.cne
 have tracked:∀ {a:Addr}{h':Heap},(∃ o,s.heap.get? a=some o/\H a=none)->Heap.SameBut a s.heap h'->HOk X.prog X.w X.K H h':=fun {a h'} ha hs b ob e=>by
  obtain⟨_,_,hfree⟩:=ha
  refine (I.hok b ob e).stay (fun c w' hc q=>(hs.2 c ?_).trans q) (fun _ q=>q) (fun _ _ q=>q) fun _ _ _ q=>q
  rintro rfl
  rcases hc with rfl|hc
  ·rw[hfree] at e;cases e
  ·rw[hfree] at hc;cases hc
 rcases hx with hk|hk
 ·refine wpAny_storeName_local hk hn (fun h' hn' hs=>?_) hcls
  obtain⟨oL,_,_,hoL,_⟩:=id hn
  refine h _ ⟨I.ok,I.os,I.bare,⟨fun b o e n hb hx=>?_,fun b o e n hb hx=>?_,I.base.free,fun b o e hx=>?_,I.base.tups,I.base.frzs,I.base.tbls⟩,⟨_,hn',fun j y v' e1 e2 e3=>?_⟩,fun y c e=>?_,I.free,I.freeC,fun p hp=>?_,tracked ⟨oL,hoL,I.free⟩ hs,by simpa using I.len⟩ ⟨_,hs,.inl rfl⟩
  ·exact (hs.2 b (Be0 (Ber (Ben e) I.ok.above))).trans (I.base.keep b o e n hb hx)
  ·obtain⟨sl,e1⟩:=I.base.slot b o e n hb hx
   exact⟨sl,(hs.2 b (Be0 (Ber (Ben e) I.ok.above))).trans e1⟩
  ·obtain⟨o',e1⟩:=I.base.there b o e hx
   exact⟨o',(hs.2 b (Be0 (Ber (Ben e) I.ok.above))).trans e1⟩
  ·by_cases hj:j=i
   ·subst hj
    rw[hi] at e1;cases e1
    rw[Bfv hiσ] at e2
    cases e2
    exact⟨u,r,.inl ⟨hk,by simp⟩⟩
   ·rw[Bgd (Bgj hj)] at e2
    obtain⟨u',r',q⟩:=hl j y v' e1 e2 e3
    refine⟨u',r',?_⟩
    rcases q with ⟨k,e⟩|⟨k,c,e,z⟩
    ·refine .inl ⟨k,?_⟩
     have:y≠x:=fun e=>hj (Xt hN e1 (e ▸ hi))
     simp[this,e]
    ·exact .inr ⟨k,c,e,z.sameBut hs (cne y c e)⟩
  ·obtain⟨w',z⟩:=I.cell y c e
   exact⟨w',z.sameBut hs (cne y c e)⟩
  ·obtain⟨e,n,ne,nf,d⟩:=I.pin p hp
   exact⟨(hs.2 p.1 ne).trans e,n,ne,nf,d⟩
 ·have hfn:X.fn x=true:=by
   rcases hf with z|z
   ·exact z
   ·rw[z] at hk;cases hk
  obtain⟨c,hc⟩:=I.ok.has x (.inl hk)
  obtain⟨w',z⟩:=I.cell x c hc
  refine wpAny_storeName_cell I.ok.kind hk hc z (fun h' hc' hs=>?_)
  obtain⟨oc,hoc,hocd⟩:=id z
  refine h { s with heap:=h' } ⟨I.ok,I.os,I.bare,⟨fun b o e n hb hx=>?_,fun b o e n hb hx=>?_,I.base.free,fun b o e hx=>?_,I.base.tups,I.base.frzs,I.base.tbls⟩,⟨m,hn.sameBut hs (Bgj (cne x c hc)),fun j y v' e1 e2 e3=>?_⟩,fun y c' e=>?_,I.free,I.freeC,fun p hp=>?_,tracked ⟨oc,hoc,I.freeC x c hc⟩ hs,by simpa using I.len⟩ ⟨c,hs,.inr hc⟩
  ·exact (hs.2 b (Be0 (Ber (Ben e) (I.ok.cab x c hfn hc)))).trans (I.base.keep b o e n hb hx)
  ·obtain⟨sl,e1⟩:=I.base.slot b o e n hb hx
   exact⟨sl,(hs.2 b (Be0 (Ber (Ben e) (I.ok.cab x c hfn hc)))).trans e1⟩
  ·obtain⟨o',e1⟩:=I.base.there b o e hx
   exact⟨o',(hs.2 b (Be0 (Ber (Ben e) (I.ok.cab x c hfn hc)))).trans e1⟩
  ·by_cases hj:j=i
   ·subst hj
    rw[hi] at e1;cases e1
    rw[Bfv hiσ] at e2
    cases e2
    exact⟨u,r,.inr ⟨.inl hk,c,hc,hc'⟩⟩
   ·rw[Bgd (Bgj hj)] at e2
    obtain⟨u',r',q⟩:=hl j y v' e1 e2 e3
    refine⟨u',r',?_⟩
    rcases q with q|⟨k,c',e,z'⟩
    ·exact .inl q
    ·refine .inr ⟨k,c',e,z'.sameBut hs ?_⟩
     rintro rfl
     exact hj (Xt hN e1 (I.ok.inj _ _ _ e hc ▸ hi))
  ·by_cases hcc:c'=c
   ·subst hcc;exact⟨_,hc'⟩
   ·obtain⟨w2,z2⟩:=I.cell y c' e
    exact⟨w2,z2.sameBut hs hcc⟩
  ·obtain⟨e,n,ne,nf,d⟩:=I.pin p hp
   refine⟨(hs.2 p.1 ?_).trans e,n,ne,nf,d⟩
   intro q
   rw[q,hoc] at e
   have q':oc=p.2:=Bfg e
   exact d w' (by rw[<- q'];exact hocd)
theorem Yf {M:Model}{A:Around}{E:Value->Shared->Prop}{i:Nat}{x:Str}{v:V}{u:Value}{Q:Unit->Shared->Prop} (I:Inv X pins σ H s) (hN:X.N.Nodup) (hi:X.N[i]?=some x) (hx:Loc X.env.scope x) (r:RelV v u)
  (h:∀ s',Inv X pins (σ.set i (some v)) H s'->Q () s') (hf:X.fn x=true\/X.env.scope.names.lookup x=some .local:=by first|exact .inl rfl|exact .inr rfl|assumption):wpAny M A (storeName X.env x u) Q E s :=
 Ue I hN hi hx r (fun s' I' _=>h s' I') hf
theorem Inv.call' {s':Shared}{ch:List Addr} (I:Inv X pins σ H s) (ho:s'.os=s.os) (u:Un (frs X.stack) ch H H' s.heap s'.heap) (hok:HOk X.prog X.w X.K H' s'.heap) (hg:AllBare s'.gens)
  (hch:∀ b∈ch,(b∈X.ex\/X.s₀.heap.objs.size<=b)/\b≠X.env.locals/\(∀ x c,X.env.cells.lookup x=some c->c≠b)/\∀ p∈X.pn++pins,p.1≠b):Inv X pins σ H' s':=by
 obtain⟨h',g',d',t',o'⟩:=s'
 have e:o'=s.os:=ho
 subst e
 exact I.call (g':=g') (t':=t') (d':=d') u hok hg hch
end
abbrev XK:=Value->Option Addr->Hp->Prop
abbrev St:=List (Option V)
abbrev VK:=V->Hp->Prop
abbrev TE:=St->Hp->VK->Prop
abbrev TT:=St->Hp->(Bool->Hp->Prop)->Prop
abbrev TA:=St->Hp->(List V->Hp->Prop)->Prop
structure Ends where
 nx:St->Hp->Prop
 rt:VK
 bk:St->Hp->Prop:=fun _ _=>False
 ct:St->Hp->Prop:=fun _ _=>False
abbrev TS:=Ends->St->Hp->Prop
def EP (X:Cx) (pins:List (Addr×Obj)) (σ:St) (Q:VK) (u:Value) (s':Shared):Prop:=∃ v H',Inv X pins σ H' s'/\RelV v u/\Q v H'
def TP (X:Cx) (pins:List (Addr×Obj)) (σ:St) (Q:Bool->Hp->Prop) (b:Bool) (s':Shared):Prop:=∃ H',Inv X pins σ H' s'/\Q b H'
def AP (X:Cx) (pins:List (Addr×Obj)) (σ:St) (Q:List V->Hp->Prop) (us:List Value) (s':Shared):Prop:=∃ vs H',Inv X pins σ H' s'/\Vals vs us/\Q vs H'
def SP (X:Cx) (pins:List (Addr×Obj)) (D:Ends) (f:Flow) (s':Shared):Prop :=
 match f with
 |.next=>∃ σ' H',Inv X pins σ' H' s'/\D.nx σ' H'
 |.brk=>∃ σ' H',Inv X pins σ' H' s'/\D.bk σ' H'
 |.cont=>∃ σ' H',Inv X pins σ' H' s'/\D.ct σ' H'
 |.ret u=>∃ v σ' H',Inv X pins σ' H' s'/\RelV v u/\D.rt v H'
def PE (X:Cx) (e:Expr) (t:TE):Prop :=
 ∀ (pins:List (Addr×Obj)) (s:Shared) (σ:St) (H:Hp) (Q:VK),Inv X pins σ H s->t σ H Q->wpAny (model X.prog X.w) X.A (eval e X.env) (EP X pins σ Q) X.xe s
def PT (X:Cx) (e:Expr) (t:TT):Prop :=
 ∀ (pins:List (Addr×Obj)) (s:Shared) (σ:St) (H:Hp) (Q:Bool->Hp->Prop),Inv X pins σ H s->t σ H Q->wpAny (model X.prog X.w) X.A (isTrue e X.env (eval e X.env)) (TP X pins σ Q) X.xe s
def PW (X:Cx) (e:Expr) (t:TT):Prop :=
 ∀ (whole:Sem Value) (pins:List (Addr×Obj)) (s:Shared) (σ:St) (H:Hp) (Q:Bool->Hp->Prop),Inv X pins σ H s->t σ H Q->wpAny (model X.prog X.w) X.A (isTrue e X.env whole) (TP X pins σ Q) X.xe s
theorem PW.pt {X:Cx}{e:Expr}{t:TT} (h:PW X e t):PT X e t:=h _
def PA (X:Cx) (es:List Expr) (t:TA):Prop :=
 ∀ (pos:Pos) (pins:List (Addr×Obj)) (s:Shared) (σ:St) (H:Hp) (Q:List V->Hp->Prop),Inv X pins σ H s->t σ H Q->wpAny (model X.prog X.w) X.A (spliced (backTo pos (starEach es X.env))) (AP X pins σ Q) X.xe s
def PS (X:Cx) (st:Stmt) (t:TS):Prop :=
 ∀ (pins:List (Addr×Obj)) (s:Shared) (σ:St) (H:Hp) (D:Ends),Inv X pins σ H s->t D σ H->wpAny (model X.prog X.w) X.A (exec st X.env) (SP X pins D) X.xe s
def PSs (X:Cx) (st:List Stmt) (t:TS):Prop :=
 ∀ (pins:List (Addr×Obj)) (s:Shared) (σ:St) (H:Hp) (D:Ends),Inv X pins σ H s->t D σ H->wpAny (model X.prog X.w) X.A (execs st X.env) (SP X pins D) X.xe s
theorem thn {α:Type}{t:Sem α}{Q Q':α->Shared->Prop}{M:Model}{A:Around}{E:Value->Shared->Prop}{s:Shared} (h:wpAny M A t Q E s) (hQ:∀ a s,Q a s->Q' a s):wpAny M A t Q' E s:=Bfr h hQ fun _ _ x=>x
section
variable {X:Cx}
noncomputable def Bdr (i:Nat):TE:=fun σ H Q=>∃ v,σ[i]?=some (some v)/\Q v H
noncomputable def tC (v:V):TE:=fun _ H Q=>Q v H
theorem Acz {i:Nat}{x:Str}{pos:Pos} (hN:X.N[i]?=some x) (hv:Vis X.env.scope x) (hd:(x == ("__debug__":Str))=false:=by decide) (hcd:(x == ("__classdict__":Str))=false:=by decide):PE X (.Name x pos) (Bdr i):=by
 intro pins s σ H Q I h
 obtain⟨v,e,h⟩:=h
 obtain⟨m,hn,hl⟩:=I.loc
 obtain⟨u,r,l⟩:=hl i x v hN e hv
 have fin:EP X pins σ Q u s:=⟨v,H,I,r,h⟩
 rcases l with ⟨hk,hm⟩|⟨hk,c,hc,hcell⟩
 ·exact wpAny_Name (wpAny_loadName_local I.ok.kind hk hn hm fin) hd
 ·rcases hk with hk|hk
  ·exact wpAny_Name (wpAny_loadName_cell I.ok.kind hk hc hcell fin) hd
  ·exact wpAny_Name (wpAny_loadName_free I.ok.kind hk hc hcell fin hcd) hd
theorem Avv {i j pos}:PE X (.Constant (.int i) j pos) (tC (.int i)):=fun _ _ _ H _ I h=>wpAny_Constant_int ⟨.int i,H,I.tok _,⟨_,rfl⟩,h⟩
theorem Bag {b j pos}:PE X (.Constant (.bool b) j pos) (tC (.bl b)):=fun _ _ _ H _ I h=>Constant_bool ⟨.bl b,H,I,rfl,h⟩
theorem X0 {j pos}:PE X (.Constant .none j pos) (tC .non):=fun _ _ _ H _ I h=>Constant_none ⟨.non,H,I,rfl,h⟩
theorem Avz {x j pos}:PE X (.Constant (.str x) j pos) (tC (.str x)):=fun _ _ _ H _ I h=>Calls.Constant_str ⟨.str x,H,I.tok _,⟨_,rfl⟩,h⟩
def Gl (X:Cx) (x:Str):Prop:=X.env.kindOf x=some .globalImplicit
theorem O0 {E:Value->Shared->Prop}{pins:List (Addr×Obj)}{s:Shared}{σ:St}{H:Hp}{x:Str}{u:Value}{pos:Pos}{Q:Value->Shared->Prop} (I:Inv X pins σ H s) (hg:Gl X x) (hm:X.mg x=some u) (h:Q u s)
  (hd:(x == ("__debug__":Str))=false:=by decide):wpAny (model X.prog X.w) X.A (eval (.Name x pos) X.env) Q E s :=
 Calls.Name_function_global I.ok.kind hg (Calls.loadGlobal_global (by rw[I.ok.glob];exact I.mod.glob.keeps I.bk) hm h) hd
theorem Jq {E:Value->Shared->Prop}{pins:List (Addr×Obj)}{s:Shared}{σ:St}{H:Hp}{x:Str}{u:Value}{pos:Pos}{Q:Value->Shared->Prop} (I:Inv X pins σ H s) (hg:Gl X x) (hm:X.mg x=none) (hv:bootBuiltins x=some u) (h:Q u s)
  (hn:x≠"__name__":=by decide) (hd:(x == ("__debug__":Str))=false:=by decide):wpAny (model X.prog X.w) X.A (eval (.Name x pos) X.env) Q E s:=by
 obtain⟨mb,h1,h2⟩:=I.mod.blt
 exact Calls.Name_function_global I.ok.kind hg (Calls.loadGlobal_builtin (by rw[I.ok.glob];exact I.mod.glob.keeps I.bk) hm (by rw[I.ok.blt];exact h1.keeps I.bk) ((h2 x hn).trans hv) h) hd
theorem Aot {x:Str}{v:V}{u:Value}{pos:Pos} (hg:Gl X x) (hm:X.mg x=some u) (r:RelV v u) (hd:(x == ("__debug__":Str))=false:=by decide):PE X (.Name x pos) (tC v) :=
 fun _ _ _ H _ I h=>O0 I hg hm ⟨v,H,I,r,h⟩ hd
theorem Aor {x:Str}{v:V}{u:Value}{pos:Pos} (hg:Gl X x) (hm:X.mg x=none) (hv:bootBuiltins x=some u) (r:RelV v u) (hn:x≠"__name__":=by decide) (hd:(x == ("__debug__":Str))=false:=by decide):PE X (.Name x pos) (tC v) :=
 fun _ _ _ H _ I h=>Jq I hg hm hv ⟨v,H,I,r,h⟩ hn hd
variable {a b:Expr}{ta tb:TE}{pos:Pos}
variable {tA tB':TT}{rest:List Expr}
noncomputable def Bbw (t u:TT):TT:=fun σ H Q=>t σ H fun c H1=>if c=true then u σ H1 Q else Q false H1
noncomputable def tOr (t u:TT):TT:=fun σ H Q=>t σ H fun c H1=>if c=true then Q true H1 else u σ H1 Q
noncomputable def Bdn (t:TT):TT:=fun σ H Q=>t σ H fun c H1=>Q (!c) H1
theorem Api (ha:PT X a tA):PW X (.BoolOp .And [a] pos) tA:=by
 intro wh pins s σ H Q I h
 refine isTrue_and (thn (ha pins s σ H Q I h) fun c s1 e=>?_)
 cases c with
 |true=>exact isTrue_and_nil e
 |false=>exact e
theorem Awb (ha:PT X a tA):PW X (.BoolOp .Or [a] pos) tA:=by
 intro wh pins s σ H Q I h
 refine isTrue_or (thn (ha pins s σ H Q I h) fun c s1 e=>?_)
 cases c with
 |false=>exact isTrue_or_nil e
 |true=>exact e
theorem Av9 (ha:PT X a tA) (hb:PW X (.BoolOp .And (b::rest) pos) tB'):PW X (.BoolOp .And (a::b::rest) pos) (Bbw tA tB'):=by
 intro wh pins s σ H Q I h
 refine isTrue_and (thn (ha pins s σ H _ I h) fun c s1 ⟨H1,I1,q1⟩=>?_)
 cases c with
 |true=>exact hb wh pins s1 σ H1 Q I1 q1
 |false=>exact⟨H1,I1,q1⟩
theorem Baq (ha:PT X a tA) (hb:PW X (.BoolOp .Or (b::rest) pos) tB'):PW X (.BoolOp .Or (a::b::rest) pos) (tOr tA tB'):=by
 intro wh pins s σ H Q I h
 refine isTrue_or (thn (ha pins s σ H _ I h) fun c s1 ⟨H1,I1,q1⟩=>?_)
 cases c with
 |true=>exact⟨H1,I1,q1⟩
 |false=>exact hb wh pins s1 σ H1 Q I1 q1
theorem Av8 (ha:PT X a tA):PT X (.UnaryOp .Not a pos) (Bdn tA):=by
 intro pins s σ H Q I h
 exact isTrue_not (ha pins s σ H (fun c H1=>Q (!c) H1) I h)
noncomputable def Ba2 (ta tb:TE):TE:=fun σ H Q=>ta σ H fun x H1=>∃ c,x=.bl c/\if c=true then tb σ H1 Q else Q (.bl false) H1
noncomputable def Bdo (ta tb:TE):TE:=fun σ H Q=>ta σ H fun x H1=>∃ c,x=.bl c/\if c=true then Q (.bl true) H1 else tb σ H1 Q
theorem Avy {op}{t:TE} (h:PE X a t):PE X (.BoolOp op [a] pos) t:=fun pins s σ H Q I hw=>BoolOp_one (h pins s σ H Q I hw)
theorem Avu (ha:PE X a ta) (hb:PE X (.BoolOp .And (b::rest) pos) tb):PE X (.BoolOp .And (a::b::rest) pos) (Ba2 ta tb):=by
 intro pins s σ H Q I h
 refine BoolOp_and (thn (ha pins s σ H _ I h) fun v s1 ⟨x,H1,I1,r1,q1⟩=>?_)
 obtain⟨c,rfl,q1⟩:=q1
 cases r1
 refine Bfo ?_
 cases c with
 |true=>exact hb pins s1 σ H1 Q I1 q1
 |false=>exact⟨.bl false,H1,I1,rfl,q1⟩
theorem Bak (ha:PE X a ta) (hb:PE X (.BoolOp .Or (b::rest) pos) tb):PE X (.BoolOp .Or (a::b::rest) pos) (Bdo ta tb):=by
 intro pins s σ H Q I h
 refine BoolOp_or (thn (ha pins s σ H _ I h) fun v s1 ⟨x,H1,I1,r1,q1⟩=>?_)
 obtain⟨c,rfl,q1⟩:=q1
 cases r1
 refine Bfo ?_
 cases c with
 |false=>exact hb pins s1 σ H1 Q I1 q1
 |true=>exact⟨.bl true,H1,I1,rfl,q1⟩
noncomputable def tIf (t:TT) (ta tb:TE):TE:=fun σ H Q=>t σ H fun c H1=>if c=true then ta σ H1 Q else tb σ H1 Q
theorem Ag6 {c:Expr} (hc:PT X c tA) (ha:PE X a ta) (hb:PE X b tb):PE X (.IfExp c a b pos) (tIf tA ta tb):=by
 intro pins s σ H Q I h
 refine wpAny_IfExp (thn (hc pins s σ H _ I h) fun d s1 ⟨H1,I1,q1⟩=>?_)
 cases d with
 |true=>exact ha pins s1 σ H1 Q I1 q1
 |false=>exact hb pins s1 σ H1 Q I1 q1
end
def SqL (K:W.Frag) (H:Hp) (a:Addr) (xs:List V):Prop :=
 Rd H a (.lst xs) \/
  ∃ (o:Obj) (its:Array Value) (n:Nat),K.lookup a=some o/\o.cls=.type "list"/\o.dict=none/\o.data=.seq its n/\its.size<=sizeLine/\Vals xs its.toList
noncomputable def Bc2:Value->Option V
 |.none=>some .non
 |.bool b=>some (.bl b)
 |.int i _=>some (.int i)
 |.str x _=>some (.str x)
 |.bytes b _=>some (.byt b)
 |.float b _=>some (.flt b)
 |.ref a=>some (.ref a)
 |.type n=>some (.ty n)
 |_=>none
theorem RelV.abs {x:V}{u:Value} (r:RelV x u):Bc2 u=some x:=by
 cases x with
 |non=>cases r;rfl
 |bl _=>cases r;rfl
 |int _=>obtain⟨t,rfl⟩:=r;rfl
 |str _=>obtain⟨t,rfl⟩:=r;rfl
 |byt _=>obtain⟨t,rfl⟩:=r;rfl
 |flt _=>obtain⟨t,rfl⟩:=r;rfl
 |ref _=>cases r;rfl
 |ty _=>cases r;rfl
theorem RelV.inj {x y:V}{u:Value} (r:RelV x u) (q:RelV y u):x=y:=Bfg (r.abs.symm.trans q.abs)
theorem Vals.inj:∀ {xs ys:List V}{us:List Value},Vals xs us->Vals ys us->xs=ys
 |_,_,_,.nil,.nil=>rfl
 |_,_,_,.cons r t,.cons r' t'=>by rw[r.inj r',Vals.inj t t']
section
variable {X:Cx}{pins:List (Addr×Obj)}{σ:St}{H:Hp}{s:Shared}{a:Addr}{xs ys:List V}
theorem SqL.of {K:W.Frag} (h:H a=some (.lst xs)):SqL K H a xs:=.inl (.inl h)
inductive LstR (h:Heap) (a:Addr) (xs:List V):Prop where
 |mk (its:List Value) (r:Vals xs its) (p:PlainL h a its.toArray) (z:xs.length<=sizeLine)
inductive TupR (h:Heap) (a:Addr) (xs:List V):Prop where
 |mk (its:List Value) (r:Vals xs its) (p:IsTup h a its.toArray) (z:xs.length<=sizeLine)
theorem Inv.list (I:Inv X pins σ H s) (h:SqL X.K H a xs):LstR s.heap a xs:=by
 rcases h with h|⟨o,its,n,hk,hc,hd,hs,hz,r⟩
 ·obtain⟨z,its,n,r,e⟩:=h.ok I.hok
  exact⟨its,r,⟨_,n,e,rfl,rfl,rfl⟩,z⟩
 ·refine⟨its.toList,r,⟨o,n,I.kIn a o hk,hc,hd,by simpa using hs⟩,?_⟩
  have e:=r.length
  simp only[Bfu] at e
  lia
theorem Inv.tuple (I:Inv X pins σ H s) (h:SqT X.K H a xs):TupR s.heap a xs:=by
 rcases h with h|⟨o,its,n,hk,hc,hs,hz,r⟩
 ·obtain⟨z,its,r,p⟩:=h.ok I.hok
  exact⟨its,r,p,z⟩
 ·refine⟨its.toList,r,⟨o,I.kIn a o hk,hc,n,by simpa using hs⟩,?_⟩
  have e:=r.length
  simp only[Bfu] at e
  lia
theorem Inv.list_inj (I:Inv X pins σ H s) (h:SqL X.K H a xs) (h':SqL X.K H a ys):xs=ys:=by
 obtain⟨its,r,⟨o,n,e,_,_,d⟩,_⟩:=I.list h
 obtain⟨its',r',⟨o',n',e',_,_,d'⟩,_⟩:=I.list h'
 rw[e] at e';cases e'
 rw[d] at d'
 injection d' with d1 _
 have:its=its':=by simpa using Bfa Array.toList d1
 subst this
 exact r.inj r'
theorem Inv.tuple_inj (I:Inv X pins σ H s) (h:SqT X.K H a xs) (h':SqT X.K H a ys):xs=ys:=by
 obtain⟨its,r,⟨o,e,_,n,d⟩,_⟩:=I.tuple h
 obtain⟨its',r',⟨o',e',_,n',d'⟩,_⟩:=I.tuple h'
 rw[e] at e';cases e'
 rw[d] at d'
 injection d' with d1 _
 have:its=its':=by simpa using Bfa Array.toList d1
 subst this
 exact r.inj r'
end
abbrev Cx.wish (X:Cx) (E:Value->Shared->Prop):Cx:={ X with xe:=E }
abbrev Cx.nox (X:Cx):Cx:=X.wish fun _ _=>False
theorem Cx.Ok.wish {X:Cx} (ok:X.Ok) (E:Value->Shared->Prop):(X.wish E).Ok :=
 ⟨ok.mod,ok.kind,ok.glob,ok.blt,ok.above,ok.inj,ok.has,ok.cab,ok.hd,ok.frames,ok.stk,ok.exf,ok.bs,ok.bsz,ok.noex,ok.exfs,ok.funs,ok.frf⟩
theorem Cx.Ok.unwish {X:Cx}{E:Value->Shared->Prop} (ok:(X.wish E).Ok):X.Ok :=
 ⟨ok.mod,ok.kind,ok.glob,ok.blt,ok.above,ok.inj,ok.has,ok.cab,ok.hd,ok.frames,ok.stk,ok.exf,ok.bs,ok.bsz,ok.noex,ok.exfs,ok.funs,ok.frf⟩
section
variable {X:Cx}{pins:List (Addr×Obj)}{σ:St}{H:Hp}{s:Shared}{E:Value->Shared->Prop}
theorem Inv.wish (I:Inv X pins σ H s) (E:Value->Shared->Prop):Inv (X.wish E) pins σ H s:=⟨I.ok.wish E,I.os,I.bare,I.base,I.loc,I.cell,I.free,I.freeC,I.pin,I.hok,I.len⟩
theorem Inv.unwish (I:Inv (X.wish E) pins σ H s):Inv X pins σ H s:=⟨I.ok.unwish,I.os,I.bare,I.base,I.loc,I.cell,I.free,I.freeC,I.pin,I.hok,I.len⟩
theorem SP.unwish {D:Ends}{f:Flow}{s':Shared} (h:SP (X.wish E) pins D f s'):SP X pins D f s':=by
 cases f with
 |next=>obtain⟨σ',H',I,q⟩:=h;exact⟨σ',H',I.unwish,q⟩
 |brk=>obtain⟨σ',H',I,q⟩:=h;exact⟨σ',H',I.unwish,q⟩
 |cont=>obtain⟨σ',H',I,q⟩:=h;exact⟨σ',H',I.unwish,q⟩
 |ret u=>obtain⟨v,σ',H',I,r,q⟩:=h;exact⟨v,σ',H',I.unwish,r,q⟩
theorem PE.nox {e:Expr}{t:TE} (h:PE X.nox e t):PE X e t:=fun pins s σ H Q I hw =>
 Bfr (h pins s σ H Q (I.wish _) hw) (fun _ _ ⟨v,H',I',r,q⟩=>⟨v,H',I'.unwish,r,q⟩) fun _ _ z=>False.elim z
theorem PSs.nox {st:List Stmt}{t:TS} (h:PSs X.nox st t):PSs X st t:=fun pins s σ H D I hw =>
 Bfr (h pins s σ H D (I.wish _) hw) (fun _ _ q=>q.unwish) fun _ _ z=>False.elim z
end
section
variable {X:Cx}{st:Stmt}{rest:List Stmt}{t u:TS}{e:Expr}{te:TE}{pos:Pos}
noncomputable def Ba4:TS:=fun D σ H=>D.nx σ H
noncomputable def Bby (t u:TS):TS:=fun D σ H=>t { D with nx:=u D } σ H
theorem Apd:PSs X [] Ba4:=fun _ _ σ H _ I h=>wpAny_execs_nil ⟨σ,H,I,h⟩
theorem Ahl (h1:PS X st t) (h2:PSs X rest u):PSs X (st::rest) (Bby t u):=by
 intro pins s σ H D I h
 refine wpAny_execs_cons (thn (h1 pins s σ H { D with nx:=u D } I h) fun f s1 q=>?_)
 cases f with
 |next =>
  obtain⟨σ',H',I',q⟩:=q
  exact h2 pins s1 σ' H' D I' q
 |ret v=>exact q
 |brk=>exact q
 |cont=>exact q
theorem Ape (h1:PS X st t):PSs X [st] t:=by
 intro pins s σ H D I h
 refine wpAny_execs_cons (thn (h1 pins s σ H D I h) fun f s1 q=>?_)
 cases f with
 |next=>exact wpAny_execs_nil q
 |ret v=>exact q
 |brk=>exact q
 |cont=>exact q
theorem Inv.quiet {pins:List (Addr×Obj)}{σ:St}{H:Hp}{s:Shared} (I:Inv X pins σ H s):interactive X.env=false:=by simp[interactive,I.ok.kind]
noncomputable def Ba3 (te:TE):TS:=fun D σ H=>te σ H fun _ H1=>D.nx σ H1
theorem Ao5 (he:PE X e te) (hs:swapsWith e none pos.line X.env=pure false:=by rfl):PS X (.Expr e pos) (Ba3 te):=by
 intro pins s σ H D I h
 exact wpAny_Expr_any (thn (he pins s σ H _ I h) fun v s1 ⟨x,H1,I1,r1,q1⟩=>⟨σ,H1,I1,q1⟩) I.quiet hs
noncomputable def Bdp (te:TE):TS:=fun D σ H=>te σ H D.rt
theorem Av6 (he:PE X e te):PS X (.Return (some e) pos) (Bdp te):=by
 intro pins s σ H D I h
 exact wpAny_Return_some (thn (he pins s σ H _ I h) fun v s1 ⟨x,H1,I1,r1,q1⟩=>⟨x,σ,H1,I1,r1,q1⟩)
noncomputable def Bdk (c:TT) (t u:TS):TS:=fun D σ H=>c σ H fun b H1=>if b=true then t D σ H1 else u D σ H1
theorem Bap {c:Expr}{a b:List Stmt}{tc:TT} (hc:PT X c tc) (ha:PSs X a t) (hb:PSs X b u):PS X (.If c a b pos) (Bdk tc t u):=by
 intro pins s σ H D I h
 refine wpAny_If (thn (hc pins s σ H _ I h) fun d s1 ⟨H1,I1,q1⟩=>?_)
 cases d with
 |true=>exact ha pins s1 σ H1 D I1 q1
 |false=>exact hb pins s1 σ H1 D I1 q1
end
abbrev TG:=V->St->Hp->(St->Hp->Prop)->Prop
abbrev TGs:=List V->St->Hp->(St->Hp->Prop)->Prop
def PG (X:Cx) (target:Expr) (t:TG):Prop :=
 ∀ (pins:List (Addr×Obj)) (s:Shared) (σ:St) (H:Hp) (v:V) (u:Value) (Q:St->Hp->Prop),Inv X pins σ H s->RelV v u->t v σ H Q ->
  wpAny (model X.prog X.w) X.A (assign target X.env u) (fun _ s'=>∃ σ' H',Inv X pins σ' H' s'/\Q σ' H') X.xe s
def PGs (X:Cx) (ts:List Expr) (t:TGs):Prop :=
 ∀ (pins:List (Addr×Obj)) (s:Shared) (σ:St) (H:Hp) (vs:List V) (us:List Value) (Q:St->Hp->Prop),Inv X pins σ H s->Vals vs us->t vs σ H Q ->
  wpAny (model X.prog X.w) X.A (assignInOrder ((assignEach ts X.env).map (·.2)) us) (fun _ s'=>∃ σ' H',Inv X pins σ' H' s'/\Q σ' H') X.xe s
abbrev Axh:=V->V->V->Hp->(Hp->Prop)->Prop
def Axz (X:Cx) (t:Axh):Prop :=
 ∀ (pins:List (Addr×Obj)) (s:Shared) (σ:St) (H:Hp) (o i v:V) (ov iv u:Value) (Q:Hp->Prop),Inv X pins σ H s->RelV o ov->RelV i iv->RelV v u->t o i v H Q ->
  wpAny (model X.prog X.w) X.A (setItem ov iv u) (fun _ s'=>∃ H',Inv X pins σ H' s'/\Q H') X.xe s
section
variable {X:Cx}{pos:Pos}
noncomputable def Y2 (i:Nat):TG:=fun v σ H Q=>Q (σ.set i (some v)) H
theorem Aow {i:Nat}{x:Str} (hN:X.N.Nodup) (hi:X.N[i]?=some x) (hx:Loc X.env.scope x) (hf:X.fn x=true\/X.env.scope.names.lookup x=some .local:=by first|exact .inl rfl|exact .inr rfl|assumption):PG X (.Name x pos) (Y2 i):=by
 intro pins s σ H v u Q I r h
 exact wpAny_assign_Name (Yf I hN hi hx r (fun s' I'=>⟨_,H,I',h⟩) hf)
noncomputable def Bc7:TGs:=fun vs σ H Q=>vs=[]/\Q σ H
noncomputable def Azi (t:TG) (u:TGs):TGs:=fun vs σ H Q=>∃ v r,vs=v::r/\t v σ H fun σ' H'=>u r σ' H' Q
theorem Aoy:PGs X [] Bc7:=by
 intro pins s σ H vs us Q I r h
 obtain⟨e,h⟩:=h
 subst e
 cases r
 exact assignInOrder_nil ⟨σ,H,I,h⟩
theorem Ag9 {e:Expr}{es:List Expr}{t:TG}{u:TGs} (h1:PG X e t) (h2:PGs X es u)
  (hs:(assignEach (e::es) X.env).map (·.2)=assign e X.env::(assignEach es X.env).map (·.2):=by rfl):PGs X (e::es) (Azi t u):=by
 intro pins s σ H vs us Q I r h
 obtain⟨v,vr,e1,h⟩:=h
 subst e1
 cases r with
 |cons r rr =>
  rw[hs]
  refine assignInOrder_cons (thn (h1 pins s σ H _ _ _ I r h) fun _ s1 ⟨σ1,H1,I1,q1⟩=>?_)
  exact h2 pins s1 σ1 H1 _ _ Q I1 rr q1
noncomputable def Bc9 (K:W.Frag) (n:Nat) (t:TGs):TG:=fun v σ H Q=>∃ a xs,v=.ref a/\SqT K H a xs/\xs.length=n/\t xs σ H Q
theorem Av3 {es:List Expr}{k:Nat}{t:TGs}{n:Nat} (hc:X.calm=true) (h:PGs X es t)
  (hn:(assignEach es X.env).length=n:=by rfl) (hst:(assignEach es X.env).findIdx? (·.1)=none:=by rfl):PG X (.Tuple es k pos) (Bc9 X.K n t):=by
 intro pins s σ H v u Q I r hw
 obtain⟨a,xs,e1,hq,hl,hw⟩:=hw
 subst e1
 cases r
 obtain⟨its,rv,ht,hz⟩:=I.tuple hq
 refine assign_Tuple_tuple (I.ok.hd hc) ht (by simp[hn,<- hl,rv.length]) hst fun h' hx=>?_
 have I1:Inv X pins σ H { s with heap:=h' }:=I.kept (t':=s.toks) fun b o e=>hx b o (Be0 (Ben e)) e
 exact h pins _ σ H xs _ Q I1 (by simpa using rv) hw
noncomputable def Bc8 (to ti:TE) (t:Axh):TG:=fun v σ H Q=>to σ H fun o H1=>ti σ H1 fun i H2=>t o i v H2 fun H3=>Q σ H3
theorem Aj0 {o i:Expr}{to ti:TE}{t:Axh} (ho:PE X o to) (hi:PE X i ti) (hs:Axz X t)
  (ha:∀ v,assign (.Subscript o i pos) X.env v=(do
   let ov <- holding [v] (eval o X.env)
   let iv <- holding [v,ov] (eval i X.env)
   standAt pos
   holding [v,ov,iv] (setItem ov iv v)
   release [v,ov,iv] []):=by intro _;rfl):PG X (.Subscript o i pos) (Bc8 to ti t):=by
 intro pins s σ H v u Q I r h
 rw[ha]
 refine Bea (Bgi (thn (ho pins s σ H _ I h) fun ov s1 ⟨x,H1,I1,r1,q1⟩=>?_))
 refine Bea (Bgi (thn (hi pins s1 σ H1 _ I1 q1) fun iv s2 ⟨y,H2,I2,r2,q2⟩=>?_))
 refine Bea (wpAny_standAt (Bea (Bgi (thn (hs pins s2 σ H2 x y v ov iv u _ I2 r1 r2 r q2) fun _ s3 ⟨H3,I3,q3⟩=>?_))))
 exact wpAny_release ⟨σ,H3,I3,q3⟩
noncomputable def Aq7 (te:TE) (g:TG):TS:=fun D σ H=>te σ H fun x H1=>g x σ H1 D.nx
theorem Ac8 {tg e:Expr}{te:TE}{g:TG} (he:PE X e te) (hg:PG X tg g) (hs:swapsWithSole [tg] e pos.line X.env=pure false:=by rfl) (hw:swappedStores [tg] e X.env=pure none:=by rfl)
  (h1:(assignEach [tg] X.env).map (·.2)=[assign tg X.env]:=by rfl):PS X (.Assign [tg] e pos) (Aq7 te g):=by
 intro pins s σ H D I h
 refine wpAny_Assign_stores (thn (he pins s σ H _ I h) fun v s1 ⟨x,H1,I1,r1,q1⟩=>?_) hs hw
 rw[h1]
 exact thn (hg pins s1 σ H1 x v _ I1 r1 q1) fun _ s2 q=>q
theorem Ac9 {i:Nat}{x:Str}{e:Expr}{te:TE}{pos':Pos} (hN:X.N.Nodup) (hi:X.N[i]?=some x) (hx:Loc X.env.scope x) (he:PE X e te) (hs:swapsWith e (some (.Name x pos')) pos.line X.env=pure false:=by rfl) (hf:X.fn x=true\/X.env.scope.names.lookup x=some .local:=by first|exact .inl rfl|exact .inr rfl|assumption) :
  PS X (.Assign [.Name x pos'] e pos) (Aq7 te (Y2 i)):=by
 intro pins s σ H D I h
 refine wpAny_Assign_Name (thn (he pins s σ H _ I h) fun v s1 ⟨y,H1,I1,r1,q1⟩=>?_) hs
 exact Yf I1 hN hi hx r1 (fun s2 I2=>⟨_,H1,I2,q1⟩) hf
end
section
variable {X:Cx}{pos:Pos}
noncomputable def Aw8 (c:TT) (tb:TS):TS:=fun D σ H=>∃ W:Nat->St->Hp->Prop,(∃ m,W m σ H)/\∀ m σ H,W m σ H ->
 c σ H fun b H1=>if b=true then ∃ N:St->Hp->Prop,(∀ σ' H',N σ' H'->∃ m',m' < m/\W m' σ' H')/\tb { D with nx:=N,ct:=N,bk:=D.nx } σ H1 else D.nx σ H1
theorem Ahf {c:Expr}{body:List Stmt}{tc:TT}{tb:TS} (hp:PassesOwn (model X.prog X.w) X.A X.env X.xe) (hc:PT X c tc) (hb:PSs X body tb):PS X (.While c body [] pos) (Aw8 tc tb):=by
 intro pins s σ H D I h
 obtain⟨W,⟨m0,w0⟩,turn⟩:=h
 refine wpAny_While (codeAny_whileLoop (fun n s'=>∃ σ' H',Inv X pins σ' H' s'/\W n σ' H') ?_ m0 ⟨σ,H,I,w0⟩)
 rintro n s1 ⟨σ1,H1,I1,w1⟩
 refine Bge hp (thn (hc pins s1 σ1 H1 _ I1 (turn n σ1 H1 w1)) fun b s2 ⟨H2,I2,q2⟩=>?_)
 cases b with
 |true =>
  obtain⟨N,hN,q2⟩:=q2
  rw[Bef rfl]
  refine Bge hp (thn (hb pins s2 σ1 H2 _ I2 q2) fun f s3 q3=>?_)
  cases f with
  |next =>
   obtain⟨σ3,H3,I3,n3⟩:=q3
   obtain⟨m',hm,w3⟩:=hN σ3 H3 n3
   exact⟨m',hm,σ3,H3,I3,w3⟩
  |cont =>
   obtain⟨σ3,H3,I3,n3⟩:=q3
   obtain⟨m',hm,w3⟩:=hN σ3 H3 n3
   exact⟨m',hm,σ3,H3,I3,w3⟩
  |brk=>exact q3
  |ret v=>exact q3
 |false =>
  rw[Beg Bew]
  exact wpAny_execs_nil ⟨σ1,H2,I2,q2⟩
end
structure It where
 go:Nat->Hp->Prop
 yld:Nat->Hp->V->Hp->Prop
 stop:Nat->Hp->Prop
def Ae6 (X:Cx) (pins:List (Addr×Obj)) (H:Hp) (b:Addr):Prop :=
 H b=none/\b≠X.env.locals/\b∉X.fs/\(b∈X.ex\/X.s₀.heap.objs.size<=b)/\(∀ x c,X.env.cells.lookup x=some c->c≠b)/\∀ p∈X.pn++pins,p.1≠b
theorem Inv.fpOk {X:Cx}{pins:List (Addr×Obj)}{σ:St}{H H':Hp}{s:Shared}{b:Addr} (I:Inv X pins σ H s) (hb:s.heap.objs.size<=b) (hn:H' b=none):Ae6 X pins H' b:=by
 refine⟨hn,Bg9 (Ber I.lt hb),I.nofs hb,.inr (Bez I.sz hb),fun x c e z=>?_,fun p hp z=>?_⟩
 ·obtain⟨v,q⟩:=I.cell x c e
  exact absurd (Ber q.lt (by rw[z];exact hb)) (Bfh _)
 ·exact absurd (Ber (Ben (I.pin p hp).1) (by rw[z];exact hb)) (Bfh _)
structure Turn (P:Program) (w:World) (K:W.Frag) (tg:Expr) (J:It) (fp:List Addr) (it:Addr) (tn:Nat->Heap->Prop):Prop where
 mem:it∈fp
 obj:∀ i h,tn i h->∀ b∈fp,∃ o,h.get? b=some o/\∀ v,o.data≠.cell v
 keep:∀ i h h',tn i h->(∀ b∈fp,∀ o,h.get? b=some o->h'.get? b=some o)->tn i h'
 item:∀ (X:Cx),X.prog=P->X.w=w->X.K=K->X.calm=true->∀ (i:Nat) (pins:List (Addr×Obj)) (s:Shared) (σ:St) (H:Hp) (E:Value->Shared->Prop),Inv X pins σ H s->(∀ b∈fp,Ae6 X pins H b)->tn i s.heap->J.go i H ->
  wpAny (model P w) X.A (pyNext (.ref it)) (fun r s1=>∃ u,r=some u /\
   wpAny (model P w) X.A (letOwnedTupleGo tg (.ref it) u) (fun _ s2=>∃ x H',Inv X pins σ H' s2/\RelV x u/\J.yld i H x H'/\tn (i+1) s2.heap/\∀ b∈fp,H' b=none) E s1) E s
 done:∀ (X:Cx),X.prog=P->X.w=w->X.K=K->X.calm=true->∀ (i:Nat) (pins:List (Addr×Obj)) (s:Shared) (σ:St) (H:Hp) (E:Value->Shared->Prop),Inv X pins σ H s->(∀ b∈fp,Ae6 X pins H b)->tn i s.heap->J.stop i H ->
  wpAny (model P w) X.A (pyNext (.ref it)) (fun r s1=>r=none/\Inv X pins σ H s1) E s
 self:∀ (A:Around) (i:Nat) (s:Shared) (Q:Value->Shared->Prop) (E:Value->Shared->Prop),tn i s.heap->Q (.ref it) s->wpAny (model P w) A (pyIter (.ref it)) Q E s
abbrev TI:=St->Hp->(It->Hp->Prop)->Prop
def PIE (X:Cx) (pins:List (Addr×Obj)) (σ:St) (tg:Expr) (R:It->Hp->Prop) (itv:Value) (s2:Shared):Prop :=
 ∃ (it:Addr) (fp:List Addr) (tn:Nat->Heap->Prop) (J:It) (H':Hp),itv=.ref it/\Inv X pins σ H' s2/\Turn X.prog X.w X.K tg J fp it tn/\tn 0 s2.heap/\(∀ b∈fp,Ae6 X pins H' b)/\R J H'
def PI (X:Cx) (tg iter:Expr) (wi:TI):Prop :=
 ∀ (pins:List (Addr×Obj)) (s:Shared) (σ:St) (H:Hp) (R:It->Hp->Prop),Inv X pins σ H s->wi σ H R ->
  wpAny (model X.prog X.w) X.A (eval iter X.env) (fun v s1=>wpAny (model X.prog X.w) X.A (pyIter v) (PIE X pins σ tg R) X.xe s1) X.xe s
theorem Aa3 {M:Model}{A:Around}{E:Value->Shared->Prop}{s:Shared}{tg:Expr}{it:Addr}{u:Value}{o:Obj}{n:String}{vs:Array Value}{Q:Unit->Shared->Prop} (ho:s.heap.get? it=some o) (hc:o.cls=.type n) (hd:o.data=.fields vs)
  (hn:["enumerate","zip","dict_itemiterator","dict_reverseitemiterator","odict_iterator","itertools.zip_longest","itertools.pairwise"].contains n=false) (hQ:Q () s):wpAny M A (letOwnedTupleGo tg (.ref it) u) Q E s:=by
 unfold letOwnedTupleGo
 cases tg<;>first
  |exact Bek hQ
  |(cases u<;>first
    |exact Bek hQ
    |(refine Bea (wpAny_load ho ?_)
      rw[hc,hd]
      show wpAny M A (if (["enumerate","zip","dict_itemiterator","dict_reverseitemiterator","odict_iterator","itertools.zip_longest","itertools.pairwise"].contains n&&vs[0]? == some (rawInt _))=true then _ else _) Q E s
      rw[Beg (by intro h;rw[hn,Bool.false_and] at h;cases h)]
      exact Bek hQ))
noncomputable def Itl (K:W.Frag) (a:Addr):It :=
 ⟨fun i H=>∃ xs x,SqL K H a xs/\xs[i]?=some x,fun i H x H'=>H'=H/\∀ xs,SqL K H a xs->xs[i]?=some x,fun i H=>∃ xs,SqL K H a xs/\xs.length<=i⟩
noncomputable def Itt (K:W.Frag) (a:Addr):It :=
 ⟨fun i H=>∃ xs x,SqT K H a xs/\xs[i]?=some x,fun i H x H'=>H'=H/\∀ xs,SqT K H a xs->xs[i]?=some x,fun i H=>∃ xs,SqT K H a xs/\xs.length<=i⟩
noncomputable def Itr (lo:Int) (n:Nat):It:=⟨fun i _=>i < n,fun i H x H'=>H'=H/\x=.int (lo+i),fun i _=>n<=i⟩
theorem Aem {P:Program}{w:World}{K:W.Frag}{tg:Expr} (a it:Addr):Turn P w K tg (Itl K a) [it] it (fun i h=>h.IsListIter it a i) where
 mem:=by simp
 obj:=fun i h st b hb=>by
  have e:b=it:=by simpa using hb
  subst e
  obtain⟨o,e,c,d⟩:=st
  exact⟨o,e,fun v z=>by rw[d] at z;cases z⟩
 keep:=fun i h h' st k=>st.at fun o e=>k it (by simp) o e
 item:=by
  intro X hP hw hK hc i pins s σ H E I hf st hg
  subst hP hw hK
  obtain⟨xs,x,hq,hx⟩:=hg
  obtain⟨its,rv,p,hz⟩:=I.list hq
  obtain⟨u,hu,ru⟩:=rv.get hx
  obtain⟨f0,f1,f2,f3,f4,f5⟩:=hf it (by simp)
  refine wpAny_pyNext_list_item st p.isList (x:=u) (by simpa using hu) fun h' st' sb=>?_
  have I1:Inv X pins σ H { s with heap:=h' }:=I.turned (t':=s.toks) (fun b o hb e=>(sb.2 b hb).trans e) f0 f1 f3 f4 f5
  obtain⟨o,e,c,d⟩:=id st'
  exact⟨u,rfl,Aa3 (s:={ s with heap:=h' }) e c d (by decide) ⟨x,H,I1,ru,⟨rfl,fun ys hy=>by rw[I.list_inj hy hq];exact hx⟩,st',fun b hb=>(hf b hb).1⟩⟩
 done:=by
  intro X hP hw hK hc i pins s σ H E I hf st hg
  subst hP hw hK
  obtain⟨xs,hq,hx⟩:=hg
  obtain⟨its,rv,p,hz⟩:=I.list hq
  obtain⟨f0,f1,f2,f3,f4,f5⟩:=hf it (by simp)
  have hl:=rv.length
  exact wpAny_pyNext_list_end (I.ok.hd hc) st p.isList (by simp;lia) fun h' eb=>⟨rfl,I.turned (t':=s.toks) (fun b o hb e=>eb b o hb e) f0 f1 f3 f4 f5⟩
 self:=fun _ _ _ _ _ st h=>wpAny_pyIter_listiter st h
theorem Zy {P:Program}{w:World}{K:W.Frag}{tg:Expr} (a it:Addr):Turn P w K tg (Itt K a) [it] it (fun i h=>h.IsTupleIter it a i) where
 mem:=by simp
 obj:=fun i h st b hb=>by
  have e:b=it:=by simpa using hb
  subst e
  obtain⟨o,e,c,d⟩:=st
  exact⟨o,e,fun v z=>by rw[d] at z;cases z⟩
 keep:=fun i h h' st k=>st.at fun o e=>k it (by simp) o e
 item:=by
  intro X hP hw hK hc i pins s σ H E I hf st hg
  subst hP hw hK
  obtain⟨xs,x,hq,hx⟩:=hg
  obtain⟨its,rv,p,hz⟩:=I.tuple hq
  obtain⟨u,hu,ru⟩:=rv.get hx
  obtain⟨f0,f1,f2,f3,f4,f5⟩:=hf it (by simp)
  refine wpAny_pyNext_tuple_item st (show s.heap.IsTuple a its.toArray from p) (x:=u) (by simpa using hu) fun h' st' sb=>?_
  have I1:Inv X pins σ H { s with heap:=h' }:=I.turned (t':=s.toks) (fun b o hb e=>(sb.2 b hb).trans e) f0 f1 f3 f4 f5
  obtain⟨o,e,c,d⟩:=id st'
  exact⟨u,rfl,Aa3 (s:={ s with heap:=h' }) e c d (by decide) ⟨x,H,I1,ru,⟨rfl,fun ys hy=>by rw[I.tuple_inj hy hq];exact hx⟩,st',fun b hb=>(hf b hb).1⟩⟩
 done:=by
  intro X hP hw hK hc i pins s σ H E I hf st hg
  subst hP hw hK
  obtain⟨xs,hq,hx⟩:=hg
  obtain⟨its,rv,p,hz⟩:=I.tuple hq
  obtain⟨f0,f1,f2,f3,f4,f5⟩:=hf it (by simp)
  have hl:=rv.length
  exact wpAny_pyNext_tuple_end (I.ok.hd hc) st (show s.heap.IsTuple a its.toArray from p) (by simp;lia) fun h' eb=>⟨rfl,I.turned (t':=s.toks) (fun b o hb e=>eb b o hb e) f0 f1 f3 f4 f5⟩
 self:=fun _ _ _ _ _ st h=>wpAny_pyIter_tupleiter st h
theorem Zx {P:Program}{w:World}{K:W.Frag}{tg:Expr} (it:Addr) (lo:Int) (n:Nat):Turn P w K tg (Itr lo n) [it] it (fun i h=>IsRangeIter h it (lo+(i:Nat) * 1) ((n:Int) - (i:Nat)) 1) where
 mem:=by simp
 obj:=fun i h st b hb=>by
  have e:b=it:=by simpa using hb
  subst e
  exact⟨_,st,fun v z=>by
   have z':Data.fields _=Data.cell v:=z
   cases z'⟩
 keep:=fun i h h' st k=>k it (by simp) _ st
 item:=by
  intro X hP hw hK hc i pins s σ H E I hf st hg
  subst hP hw hK
  obtain⟨f0,f1,f2,f3,f4,f5⟩:=hf it (by simp)
  have W:=Walks.range (prog:=X.prog) (w:=X.w) (I.ok.hd hc) it lo 1 n
  refine W.item i s _ _ hg st fun v h' tk hv st' kk=>?_
  obtain⟨t,rfl⟩:=hv
  have I1:Inv X pins σ H { s with heap:=h',toks:=tk }:=I.turned (fun b o hb e=>kk b o (by simpa using hb) e) f0 f1 f3 f4 f5
  refine⟨_,rfl,Aa3 (s:={ s with heap:=h',toks:=tk }) (n:="range_iterator") st' rfl rfl (by decide) ⟨.int (lo+i),H,I1,⟨t,?_⟩,⟨rfl,rfl⟩,st',fun b hb=>(hf b hb).1⟩⟩
  rw[Int.mul_one]
 done:=by
  intro X hP hw hK hc i pins s σ H E I hf st hg
  subst hP hw hK
  obtain⟨f0,f1,f2,f3,f4,f5⟩:=hf it (by simp)
  exact wpAny_pyNext_range_end (I.ok.hd hc) st (by have:n<=i:=hg;lia) fun h' eb=>⟨rfl,I.turned (t':=s.toks) (fun b o hb e=>eb b o hb e) f0 f1 f3 f4 f5⟩
 self:=fun _ _ _ _ _ st h=>wpAny_pyIter_rangeiter st h
section
variable {X:Cx}{tg:Expr}
theorem Ahv {pins:List (Addr×Obj)}{σ:St}{H:Hp}{s:Shared}{R:It->Hp->Prop}{E:Value->Shared->Prop}{lo hi:Int}{t u v:Tok}{tk:Nat} (I:Inv X pins σ H s) (h1:-(2 ^ 62)<=lo) (h2:lo < 2 ^ 62) (h3:-(2 ^ 62)<=hi) (h4:hi < 2 ^ 62)
  (q:R (Itr lo (hi - lo).toNat) H):wpAny (model X.prog X.w) X.A (pyIter (.ref s.heap.objs.size)) (PIE X pins σ tg R) E { s with heap:=s.heap.push { cls:=.type "range",data:=.fields #[.int lo t,.int hi u,.int 1 v] },toks:=tk }:=by
 refine wpAny_pyIter_range (IsRange.new ..) (small_one h1 h2 h3 h4) ?_
 have I1:Inv X pins σ H { s with heap:=s.heap.push { cls:=.type "range",data:=.fields #[.int lo t,.int hi u,.int 1 v] },toks:=tk }:=I.kept fun b o e=>Bec _ e
 refine⟨(s.heap.push { cls:=.type "range",data:=.fields #[.int lo t,.int hi u,.int 1 v] }).objs.size,[(s.heap.push { cls:=.type "range",data:=.fields #[.int lo t,.int hi u,.int 1 v] }).objs.size],_,_,H,rfl,
  I1.kept (t':=tk) fun b o e=>Bec _ e,Zx _ lo (hi - lo).toNat,?_,fun b hb=>?_,q⟩
 ·have e1:lo+((0:Nat):Int) * 1=lo:=by simp
  have e2:(((hi - lo).toNat:Nat):Int) - ((0:Nat):Int)=Builtin.Range.rangeSize lo hi 1:=by rw[rangeSize_one];split<;>lia
  show IsRangeIter _ _ (lo+((0:Nat):Int) * 1) ((((hi - lo).toNat:Nat):Int) - ((0:Nat):Int)) 1
  rw[e1,e2]
  exact Beq _ rfl
 ·have e:b=(s.heap.push { cls:=.type "range",data:=.fields #[.int lo t,.int hi u,.int 1 v] }).objs.size:=by simpa using hb
  subst e
  exact I1.fpOk (Bej _) (I1.hok.fresh (Bej _))
def Azs (ta:TA):TI:=fun σ H R=>ta σ H fun vs H1=>∃ j:Int,vs=[.int j]/\-(2 ^ 62)<=j/\j < 2 ^ 62/\R (Itr 0 j.toNat) H1
theorem Ac1 {a:Expr}{ta:TA}{p pos:Pos} (hg:Gl X "range") (hm:X.mg "range"=none) (ha:PA X [a] ta) (hs:starEach [a] X.env=[(false,eval a X.env)]:=by rfl):PI X tg (.Call (.Name "range" p) [a] [] pos) (Azs ta):=by
 intro pins s σ H R I h
 refine Call_ (Jq I hg hm boot_range (PyProof.Rows.callWith_type1 (thn (ha pos pins s σ H _ I h) fun us s1 ⟨vs,H1,I1,r1,q1⟩=>?_) hs rfl))
 obtain⟨j,e,q1,q2,q⟩:=q1
 subst e
 cases r1 with
 |cons r rr =>
  cases rr
  obtain⟨t,rfl⟩:=r
  exact call_range_1 (Ahv I1 (by lia) (by lia) q1 q2 (by simpa using q))
noncomputable def Bdj (wi:TI) (g:TG) (tb:TS):TS:=fun D σ H=>wi σ H fun J H1=>∃ W:Nat->Nat->St->Hp->Prop,(∃ m,W 0 m σ H1)/\∀ i m σ H,W i m σ H ->
 (J.stop i H/\D.nx σ H)\/(J.go i H/\∃ N:St->Hp->Prop,(∀ σ' H',N σ' H'->∃ m',m' < m/\W (i+1) m' σ' H')/\∀ x H',J.yld i H x H'->g x σ H' fun σ2 H2=>tb { D with nx:=N,ct:=N,bk:=D.nx } σ2 H2)
noncomputable def Tq (fp:List Addr) (h:Heap):List (Addr×Obj):=fp.filterMap fun b=>(h.get? b).map fun o=>(b,o)
theorem Jc {fp:List Addr}{h:Heap}{b:Addr}{o:Obj} (hb:b∈fp) (e:h.get? b=some o):(b,o)∈Tq fp h:=List.mem_filterMap.mpr ⟨b,hb,by rw[e];rfl⟩
theorem Ace {fp:List Addr}{h:Heap}{p:Addr×Obj} (hp:p∈Tq fp h):p.1∈fp/\h.get? p.1=some p.2:=by
 obtain⟨b,hb,e⟩:=List.mem_filterMap.mp hp
 cases q:h.get? b with
 |none=>rw[q] at e;cases e
 |some o =>
  rw[q] at e
  have e':(b,o)=p:=Bfg e
  subst e'
  exact⟨hb,q⟩
theorem Inv.pinned {pins:List (Addr×Obj)}{σ:St}{H:Hp}{s:Shared}{fp:List Addr} (I:Inv X pins σ H s) (hf:∀ b∈fp,Ae6 X pins H b) (ho:∀ b∈fp,∃ o,s.heap.get? b=some o/\∀ v,o.data≠.cell v):Inv X (pins++Tq fp s.heap) σ H s :=
 I.pins_of fun p hp=>(List.mem_append.mp hp).elim (fun z=>I.pin p (Bei _ z)) fun z=>by
  obtain⟨hb,e⟩:=Ace z
  obtain⟨f0,f1,f2,_⟩:=hf p.1 hb
  obtain⟨o,e',d⟩:=ho p.1 hb
  rw[e] at e';cases e'
  exact⟨e,f0,f1,f2,d⟩
theorem Inv.unpinned {pins pl:List (Addr×Obj)}{σ:St}{H:Hp}{s:Shared} (I:Inv X (pins++pl) σ H s):Inv X pins σ H s:=I.pins_of fun p hp=>I.pin p (Bei _ (Bfd _ hp))
theorem Av5 {iter:Expr}{body:List Stmt}{wi:TI}{g:TG}{tb:TS}{pos:Pos} (hp:PassesOwn (model X.prog X.w) X.A X.env X.xe) (hc:X.calm=true) (hi:PI X tg iter wi) (hg:PG X tg g) (hb:PSs X body tb)
  (hs:∀ x,foldedSetIterable iter X.env x=pure x:=by intro _;rfl):PS X (.For tg iter body [] pos) (Bdj wi g tb):=by
 intro pins s σ H D I h
 refine wpAny_For (thn (hi pins s σ H _ I h) fun v s1 h1=>thn h1 fun itv s2 h2=>?_) hs
 obtain⟨it,fp,tn,J,H2,e,I2,T,st2,f2,W,⟨m0,w0⟩,turn⟩:=h2
 subst e
 -- what stays true of the iterator's objects through the loop
 have stat:∀ {H':Hp},(∀ b∈fp,H' b=none)->∀ b∈fp,Ae6 X pins H' b:=fun hn b hb=>⟨hn b hb,(f2 b hb).2⟩
 refine codeAny_forLoop_any (fun n s'=>∃ i σ' H',Inv X pins σ' H' s'/\tn i s'.heap/\(∀ b∈fp,H' b=none)/\W i n σ' H') ?_ m0 ⟨0,σ,H2,I2,st2,fun b hb=>(f2 b hb).1,w0⟩
 rintro n s3 ⟨i,σ3,H3,I3,st3,fr3,w3⟩
 rcases turn i n σ3 H3 w3 with ⟨stop,qn⟩|⟨go,N,hN,step⟩
 ·refine Bge hp (thn (T.done X rfl rfl rfl hc i pins s3 σ3 H3 X.xe I3 (stat fr3) st3 stop) fun r s4 ⟨hr,I4⟩=>?_)
  subst hr
  exact wpAny_execs_nil ⟨σ3,H3,I4,qn⟩
 ·refine Bge hp (thn (T.item X rfl rfl rfl hc i pins s3 σ3 H3 X.xe I3 (stat fr3) st3 go) fun r s4 ⟨u,hr,h4⟩=>?_)
  subst hr
  refine Bge hp (thn h4 fun _ s5 ⟨x,H5,I5,r5,y5,st5,fr5⟩=>?_)
  have I5':=I5.pinned (stat fr5) (T.obj _ _ st5)
  refine Bge hp (thn (hg _ s5 σ3 H5 x u _ I5' r5 (step x H5 y5)) fun _ s6 ⟨σ6,H6,I6,q6⟩=>?_)
  refine Bge hp (thn (hb _ s6 σ6 H6 _ I6 q6) fun f s7 q7=>?_)
  have again:∀ {σ7:St}{H7:Hp},Inv X (pins++Tq fp s5.heap) σ7 H7 s7->N σ7 H7->∃ m,m < n/\∃ i σ' H',Inv X pins σ' H' s7/\tn i s7.heap/\(∀ b∈fp,H' b=none)/\W i m σ' H':=fun {σ7 H7} I7 n7=>by
   obtain⟨m',hm,w7⟩:=hN σ7 H7 n7
   refine⟨m',hm,i+1,σ7,H7,I7.unpinned,T.keep _ _ _ st5 fun b hb o e=>(I7.pin (b,o) (Bei _ (Bei _ (Jc hb e)))).1,fun b hb=>?_,w7⟩
   obtain⟨o,e,d⟩:=T.obj _ _ st5 b hb
   exact (I7.pin (b,o) (Bei _ (Bei _ (Jc hb e)))).2.1
  cases f with
  |next=>obtain⟨σ7,H7,I7,n7⟩:=q7;exact again I7 n7
  |cont=>obtain⟨σ7,H7,I7,n7⟩:=q7;exact again I7 n7
  |brk=>obtain⟨σ7,H7,I7,q7⟩:=q7;exact⟨σ7,H7,I7.unpinned,q7⟩
  |ret v=>obtain⟨x7,σ7,H7,I7,r7,q7⟩:=q7;exact⟨x7,σ7,H7,I7.unpinned,r7,q7⟩
end
abbrev R2:=V->V->Hp->VK->Prop
def OpR (X:Cx) (f:Value->Value->Sem Value) (r:R2):Prop :=
 ∀ (pins:List (Addr×Obj)) (s:Shared) (σ:St) (H:Hp) (x y:V) (v u:Value) (Q:VK),Inv X pins σ H s->RelV x v->RelV y u->r x y H Q ->
  wpAny (model X.prog X.w) X.A (f v u) (EP X pins σ Q) X.xe s
def UnR (X:Cx) (f:Value->Sem Value) (r:V->Hp->VK->Prop):Prop :=
 ∀ (pins:List (Addr×Obj)) (s:Shared) (σ:St) (H:Hp) (x:V) (v:Value) (Q:VK),Inv X pins σ H s->RelV x v->r x H Q ->
  wpAny (model X.prog X.w) X.A (f v) (EP X pins σ Q) X.xe s
def Z3 (X:Cx) (f:Value) (r:List V->Hp->VK->Prop):Prop :=
 ∀ (pins:List (Addr×Obj)) (s:Shared) (σ:St) (H:Hp) (xs:List V) (us:List Value) (Q:VK),Inv X pins σ H s->Vals xs us->r xs H Q ->
  wpAny (model X.prog X.w) X.A (call f us) (EP X pins σ Q) X.xe s
def Bb5 (X:Cx) (r:V->Hp->(Bool->Hp->Prop)->Prop):Prop :=
 ∀ (pins:List (Addr×Obj)) (s:Shared) (σ:St) (H:Hp) (x:V) (v:Value) (Q:Bool->Hp->Prop),Inv X pins σ H s->RelV x v->r x H Q ->
  wpAny (model X.prog X.w) X.A (truthy v) (TP X pins σ Q) X.xe s
noncomputable def tOp (r:R2) (ta tb:TE):TE:=fun σ H Q=>ta σ H fun x H1=>tb σ H1 fun y H2=>r x y H2 Q
noncomputable def tUn (r:V->Hp->VK->Prop) (ta:TE):TE:=fun σ H Q=>ta σ H fun x H1=>r x H1 Q
noncomputable def rI (C:Int->Int->Prop) (g:Int->Int->V):R2:=fun x y H Q=>∃ i j,x=.int i/\y=.int j/\C i j/\Q (g i j) H
noncomputable def rI0 (g:Int->Int->V):R2:=fun x y H Q=>∃ i j,x=.int i/\y=.int j/\Q (g i j) H
def rU (g:Int->V):V->Hp->VK->Prop:=fun x H Q=>∃ i,x=.int i/\Q (g i) H
section
variable {X:Cx}{a b c:Expr}{ta tb tc:TE}{pos:Pos}
theorem Axj (ha:PE X a ta) (hb:PE X b tb) {pins:List (Addr×Obj)}{s:Shared}{σ:St}{H:Hp}{R:V->V->Hp->Prop} (I:Inv X pins σ H s)
  (h:ta σ H fun x H1=>tb σ H1 fun y H2=>R x y H2) {Q:Value->Shared->Prop}{f:Value->Value->Sem Value}
  (hf:∀ v u s2 x y H2,Inv X pins σ H2 s2->RelV x v->RelV y u->R x y H2->wpAny (model X.prog X.w) X.A (f v u) Q X.xe s2) :
  wpAny (model X.prog X.w) X.A (eval a X.env) (fun v s₁=>wpAny (model X.prog X.w) X.A (eval b X.env) (fun u s₂=>wpAny (model X.prog X.w) X.A (f v u) Q X.xe s₂) X.xe s₁) X.xe s:=by
 refine thn (ha pins s σ H _ I h) fun v s1 ⟨x,H1,I1,r1,q1⟩=>?_
 refine thn (hb pins s1 σ H1 _ I1 q1) fun u s2 ⟨y,H2,I2,r2,q2⟩=>?_
 exact hf v u s2 x y H2 I2 r1 r2 q2
theorem Baj {op:Operator}{r:R2} (ho:OpR X (binaryOp op) r) (ha:PE X a ta) (hb:PE X b tb):PE X (.BinOp a op b pos) (tOp r ta tb):=by
 intro pins s σ H Q I h
 exact wpAny_BinOp (Axj ha hb I h fun v u s2 x y H2 I2 rx ry q=>ho pins s2 σ H2 x y v u Q I2 rx ry q)
theorem Bal {op:UnaryOp}{r:V->Hp->VK->Prop} (ho:UnR X (unaryOp op) r) (ha:PE X a ta):PE X (.UnaryOp op a pos) (tUn r ta):=by
 intro pins s σ H Q I h
 exact UnaryOp_ (thn (ha pins s σ H _ I h) fun v s1 ⟨x,H1,I1,r1,q1⟩=>ho pins s1 σ H1 x v Q I1 r1 q1)
theorem opI {f:Value->Value->Sem Value}{C:Int->Int->Prop}{g:Int->Int->Int}
  (rule:∀ (i j:Int) (t u:Tok) (s:Shared) (Q:Value->Shared->Prop) (E:Value->Shared->Prop),C i j->Q (.int (g i j) s.toks) { s with toks:=s.toks+1 }->wpAny (model X.prog X.w) X.A (f (.int i t) (.int j u)) Q E s) :
  OpR X f (rI C fun i j=>.int (g i j)):=by
 intro pins s σ H x y v u Q I rx ry h
 obtain⟨i,j,rfl,rfl,hc,q⟩:=h
 obtain⟨t,rfl⟩:=rx
 obtain⟨t',rfl⟩:=ry
 exact rule i j t t' s _ _ hc ⟨.int (g i j),H,I.tok _,⟨_,rfl⟩,q⟩
theorem Bbq {f:Value->Value->Sem Value}{g:Int->Int->Int}
  (rule:∀ (i j:Int) (t u:Tok) (s:Shared) (Q:Value->Shared->Prop) (E:Value->Shared->Prop),Q (.int (g i j) s.toks) { s with toks:=s.toks+1 }->wpAny (model X.prog X.w) X.A (f (.int i t) (.int j u)) Q E s) :
  OpR X f (rI0 fun i j=>.int (g i j)):=by
 intro pins s σ H x y v u Q I rx ry h
 obtain⟨i,j,rfl,rfl,q⟩:=h
 obtain⟨t,rfl⟩:=rx
 obtain⟨t',rfl⟩:=ry
 exact rule i j t t' s _ _ ⟨.int (g i j),H,I.tok _,⟨_,rfl⟩,q⟩
theorem Az8 {f:Value->Value->Sem Value}{g:Int->Int->Bool}
  (rule:∀ (i j:Int) (t u:Tok) (s:Shared) (Q:Value->Shared->Prop) (E:Value->Shared->Prop),Q (.bool (g i j)) s->wpAny (model X.prog X.w) X.A (f (.int i t) (.int j u)) Q E s) :
  OpR X f (rI0 fun i j=>.bl (g i j)):=by
 intro pins s σ H x y v u Q I rx ry h
 obtain⟨i,j,rfl,rfl,q⟩:=h
 obtain⟨t,rfl⟩:=rx
 obtain⟨t',rfl⟩:=ry
 exact rule i j t t' s _ _ ⟨.bl (g i j),H,I,rfl,q⟩
def Bbd (i j:Int):Prop:=0 < j/\j < 1073741824
def Bbe (i j:Int):Prop:=0<=j/\j<=1000000/\i.natAbs < 2 ^ 64
def CMul (i j:Int):Prop:=(-(2 ^ 64) < i/\i < 2 ^ 64)\/(-(2 ^ 64) < j/\j < 2 ^ 64)
theorem CMul.ok {i j:Int} (h:CMul i j):IntMulOk i j:=by
 rcases h with ⟨h1,h2⟩|⟨h1,h2⟩
 ·exact .of_left (intBits_le_64 h1 h2)
 ·exact .of_right (intBits_le_64 h1 h2)
theorem Zz (k:Nat):(0:Int)<=2 ^ k:=by
 rw[two_pow_cast]
 exact Int.natCast_nonneg _
theorem op_add:OpR X (binaryOp .Add) (rI0 fun i j=>.int (i+j)):=Bbq fun _ _ _ _ _ _ _ q=>add_int q
theorem Au6:OpR X (binaryOp .Sub) (rI0 fun i j=>.int (i - j)):=Bbq fun _ _ _ _ _ _ _ q=>sub_int q
theorem Au3:OpR X (binaryOp .Mult) (rI CMul fun i j=>.int (i * j)):=opI fun _ _ _ _ _ _ _ hc q=>mul_int q hc.ok
theorem Aod:OpR X (binaryOp .FloorDiv) (rI Bbd fun i j=>.int (i / j)):=opI fun i j _ _ _ _ _ hc q=>by
 have h1:(0:Int) < j:=hc.1
 have h2:j < 1073741824:=hc.2
 exact floordiv_int (by lia) (by rw[Int.fdiv_eq_ediv_of_nonneg i (by lia)];exact q) (.inl (PyProof.noPylong_small (by lia)))
theorem Au2:OpR X (binaryOp .Mod) (rI (fun _ j=>0 < j) fun i j=>.int (i % j)):=opI fun i j _ _ _ _ _ hc q=>by
 have h1:(0:Int) < j:=hc
 exact mod_int' (by lia) (by rw[Int.fmod_eq_emod_of_nonneg i (by lia)];exact q)
theorem Au4:OpR X (binaryOp .Pow) (rI Bbe fun i j=>.int (i ^ j.toNat)):=opI fun _ _ _ _ _ _ _ hc q=>pow_int_small hc.1 hc.2.1 hc.2.2 q
theorem Au5:OpR X (binaryOp .RShift) (rI (fun _ j=>0<=j) fun i j=>.int (i / 2 ^ j.toNat)):=opI fun i j _ _ _ _ _ hc q =>
 rshift_int hc (by rw[Int.fdiv_eq_ediv_of_nonneg i (Zz _)];exact q)
theorem unI {f:Value->Sem Value}{g:Int->Int}
  (rule:∀ (i:Int) (t:Tok) (s:Shared) (Q:Value->Shared->Prop) (E:Value->Shared->Prop),Q (.int (g i) s.toks) { s with toks:=s.toks+1 }->wpAny (model X.prog X.w) X.A (f (.int i t)) Q E s) :
  UnR X f (rU fun i=>.int (g i)):=by
 intro pins s σ H x v Q I rx h
 obtain⟨i,rfl,q⟩:=h
 obtain⟨t,rfl⟩:=rx
 exact rule i t s _ _ ⟨.int (g i),H,I.tok _,⟨_,rfl⟩,q⟩
theorem Axe:UnR X (unaryOp .USub) (rU fun i=>.int (-i)):=unI fun _ _ _ _ _ q=>neg_int q
end
section
variable {X:Cx}{a b c:Expr}{ta tb tc:TE}{pos:Pos}
theorem Aaw {pins:List (Addr×Obj)}{σ:St}{H:Hp}{s:Shared}{Q:VK}{k k':Bool} (I:Inv X pins σ H s) (q:Q (.bl k) H) (e:k=k'):EP X pins σ Q (.bool k') s:=by
 subst e
 exact⟨.bl k,H,I,rfl,q⟩
theorem op_lt:OpR X (compareOp .Lt) (rI0 fun i j=>.bl (decide (i < j))):=Az8 fun _ _ _ _ _ _ _ q=>lt_int q
theorem Baa:OpR X (compareOp .LtE) (rI0 fun i j=>.bl (decide (i<=j))):=Az8 fun _ _ _ _ _ _ _ q=>le_int q
theorem Az9:OpR X (compareOp .Gt) (rI0 fun i j=>.bl (decide (j < i))):=Az8 fun _ _ _ _ _ _ _ q=>gt_int q
theorem Acq:OpR X (compareOp .Lt) (fun x y H Q=>∃ i j,x=.str i/\y=.str j/\Q (.bl (decide (i.cps.toList < j.cps.toList))) H):=by
 intro pins s σ H x y v u Q I rx ry h
 obtain⟨i,j,rfl,rfl,q⟩:=h
 obtain⟨t,rfl⟩:=rx
 obtain⟨t',rfl⟩:=ry
 exact lt_str (Aaw I q rfl)
theorem Ajv:OpR X (compareOp .Is) (fun x y H Q=>y=.non/\Q (.bl (decide (x=.non))) H):=by
 intro pins s σ H x y v u Q I rx ry h
 obtain⟨rfl,q⟩:=h
 cases ry
 refine is_none_gen (Aaw I q ?_)
 cases x<;>first
  |(cases rx;rfl)
  |(obtain⟨t,rfl⟩:=rx;rfl)
theorem Aoe:OpR X (compareOp .IsNot) (fun x y H Q=>y=.non/\Q (.bl (!decide (x=.non))) H):=by
 intro pins s σ H x y v u Q I rx ry h
 obtain⟨rfl,q⟩:=h
 cases ry
 refine isnot_none_gen (Aaw I q ?_)
 cases x<;>first
  |(cases rx;rfl)
  |(obtain⟨t,rfl⟩:=rx;rfl)
theorem OpR.or {f:Value->Value->Sem Value}{r r':R2} (h:OpR X f r) (h':OpR X f r'):OpR X f (fun x y H Q=>r x y H Q\/r' x y H Q):=by
 intro pins s σ H x y v u Q I rx ry q
 rcases q with q|q
 ·exact h pins s σ H x y v u Q I rx ry q
 ·exact h' pins s σ H x y v u Q I rx ry q
theorem Acb (b:Expr) {op:CmpOp} (h:op≠.In:=by decide) (h2:op≠.NotIn:=by decide):behindInMarks op b=false:=by
 have e1:(op == CmpOp.In)=false:=by cases op<;>first|rfl|exact absurd rfl h
 have e2:(op == CmpOp.NotIn)=false:=by cases op<;>first|rfl|exact absurd rfl h2
 cases b<;>simp[behindInMarks,e1,e2]
theorem Aos {op:CmpOp}{r:R2} (ho:OpR X (compareOp op) r) (ha:PE X a ta) (hb:PE X b tb) (hm:behindInMarks op b=false):PE X (.Compare a [op] [b] pos) (tOp r ta tb):=by
 intro pins s σ H Q I h
 exact wpAny_Compare1 (Axj ha hb I h fun v u s2 x y H2 I2 rx ry q=>ho pins s2 σ H2 x y v u Q I2 rx ry q) hm
noncomputable def Ba6 (t:TE):TT:=fun σ H Q=>t σ H fun x H'=>∃ k,x=.bl k/\Q k H'
theorem Ade {op:CmpOp}{r:R2} (ho:OpR X (compareOp op) r) (ha:PE X a ta) (hb:PE X b tb) (hm:behindInMarks op b=false):PT X (.Compare a [op] [b] pos) (Ba6 (tOp r ta tb)):=by
 intro pins s σ H Q I h
 refine wpAny_isTrue_Compare1 (thn (ha pins s σ H _ I h) fun v s1 ⟨x,H1,I1,r1,q1⟩=>thn (hb pins s1 σ H1 _ I1 q1) fun u s2 ⟨y,H2,I2,r2,q2⟩ =>
  thn (ho pins s2 σ H2 x y v u _ I2 r1 r2 q2) fun c s3 ⟨z,H3,I3,r3,k,e,q3⟩=>?_) hm
 subst e
 cases r3
 exact Bfo ⟨H3,I3,q3⟩
def Axi (K:W.Frag) (x:V) (H:Hp) (k:Bool):Prop :=
 match x with
 |.non=>k=false
 |.bl b=>k=b
 |.int i=>k=(i != 0)
 |.str y=>y.length<=sizeLine/\k=((y.length:Int) != 0)
 |.byt y=>y.size<=sizeLine/\k=((y.size:Int) != 0)
 |.ref p=>(∃ xs,SqL K H p xs/\k=!xs.isEmpty)\/(∃ xs,SqT K H p xs/\k=!xs.isEmpty)\/∃ kvs,H p=some (.dK kvs)/\k=!kvs.isEmpty
 |_=>False
theorem Y9 {κ:Type}{kvs:List (κ×V)}{vs:List (κ×Value)} (r:KV kvs vs):(!vs.isEmpty)=!kvs.isEmpty:=by
 cases r<;>rfl
theorem Nq {xs:List V}{its:List Value} (r:Vals xs its):(!its.toArray.isEmpty)=!xs.isEmpty:=by
 cases r<;>simp
theorem Nt:(sizeLine:Nat) < 2 ^ 63:=by rw[Bf4];decide
theorem Ak6:Bb5 X (fun x H Q=>∃ k,Axi X.K x H k/\Q k H):=by
 intro pins s σ H x v Q I rx h
 obtain⟨k,e,q⟩:=h
 have hl:=Nt
 have hs:sizeLine=16777216:=Bf4
 cases x with
 |non =>
  cases rx
  have e':k=false:=e
  subst e'
  exact truthy_none ⟨H,I,q⟩
 |bl b =>
  cases rx
  have e':k=b:=e
  subst e'
  exact Bfo ⟨H,I,q⟩
 |int i =>
  obtain⟨t,rfl⟩:=rx
  have e':k=(i != 0):=e
  subst e'
  exact PySem.P.truthy_int ⟨H,I,q⟩
 |str y =>
  obtain⟨t,rfl⟩:=rx
  obtain⟨hy,e'⟩:y.length<=sizeLine/\k=((y.length:Int) != 0):=e
  subst e'
  exact PySem.P.truthy_str (by lia) ⟨H,I.tok _,q⟩
 |byt y =>
  obtain⟨t,rfl⟩:=rx
  obtain⟨hy,e'⟩:y.size<=sizeLine/\k=((y.size:Int) != 0):=e
  subst e'
  exact W.truthy_bytes (by lia) ⟨H,I.tok _,q⟩
 |ref p =>
  cases rx
  have e':(∃ xs,SqL X.K H p xs/\k=!xs.isEmpty)\/(∃ xs,SqT X.K H p xs/\k=!xs.isEmpty)\/∃ kvs,H p=some (.dK kvs)/\k=!kvs.isEmpty:=e
  rcases e' with ⟨xs,hx,e'⟩|⟨xs,hx,e'⟩|⟨kvs,hx,e'⟩
  ·subst e'
   obtain⟨its,r,pl,hz⟩:=I.list hx
   have hlen:=r.length
   exact wpAny_truthy_list pl.isList (by simp only[Bem];lia) ⟨H,I.tok _,by rw[Nq r];exact q⟩
  ·subst e'
   obtain⟨its,r,pl,hz⟩:=I.tuple hx
   have hlen:=r.length
   exact truthy_tuple pl (by simp only[Bem];lia) ⟨H,I.tok _,by rw[Nq r];exact q⟩
  ·subst e'
   obtain⟨hz,hS,vs,r,m⟩:kvs.length<=sizeLine/\(p == sysModules)=false/\∃ vs,KV kvs vs/\s.heap.DictOf (Abz X.prog X.w) p vs:=I.hok p _ hx
   have hlen:kvs.length=vs.length:=Paired.length r
   exact wpAny_truthy_dict hS m (by lia) ⟨H,I.tok _,by rw[Y9 r];exact q⟩
 |_=>exact (show False from e).elim
theorem Ahm (ha:PE X a ta) (he:∀ whole,isTrue a X.env whole=(do let v <- whole;standAt a.pos;holding [v] (truthy v))) :
  PT X a (fun σ H Q=>ta σ H fun x H'=>∃ k,Axi X.K x H' k/\Q k H'):=by
 intro pins s σ H Q I h
 exact isTrue_plain (thn (ha pins s σ H _ I h) fun v s1 ⟨x,H1,I1,r1,q1⟩=>Ak6 pins s1 σ H1 x v Q I1 r1 q1) (he _)
theorem op_add_str:OpR X (binaryOp .Add) (fun x y H Q=>∃ i j,x=.str i/\y=.str j/\i.length+j.length<=sizeLine/\Q (.str (i++j)) H):=by
 intro pins s σ H x y v u Q I rx ry h
 obtain⟨i,j,rfl,rfl,hz,q⟩:=h
 obtain⟨t,rfl⟩:=rx
 obtain⟨t',rfl⟩:=ry
 exact add_str (fun t' tk=>⟨.str (i++j),H,I.tok _,⟨_,rfl⟩,q⟩) hz
inductive V1 (x:V) (us:List Value):Prop where
 |mk (u:Value) (e:us=[u]) (r:RelV x u)
theorem Gz {x:V}{us:List Value} (r:Vals [x] us):V1 x us:=by
 cases r with
 |cons r1 r2=>cases r2;exact⟨_,rfl,r1⟩
theorem Axf {x y:V}{us:List Value} (r:Vals [x,y] us):∃ u w',us=[u,w']/\RelV x u/\RelV y w':=by
 cases r with
 |cons r1 r2 =>
  cases r2 with
  |cons r3 r4=>cases r4;exact⟨_,_,rfl,r1,r3⟩
theorem Aaf (hc:X.calm=true):Z3 X (.builtin "min") (fun xs H Q=>∃ i j,xs=[.int i,.int j]/\Q (.int (if j < i then j else i)) H):=by
 intro pins s σ H xs us Q I r h
 obtain⟨i,j,rfl,q⟩:=h
 obtain⟨u,w',rfl,⟨t,rfl⟩,⟨t',rfl⟩⟩:=Axf r
 refine min_two_ints (I.ok.hd hc) fun h' tk k=>⟨_,H,I.kept k,?_,q⟩
 by_cases hj:j < i
 ·rw[Bef hj,Bef hj];exact⟨_,rfl⟩
 ·rw[Beg hj,Beg hj];exact⟨_,rfl⟩
theorem P6:Z3 X (.type "int") (fun xs H Q=>(∃ i,xs=[.int i]/\Q (.int i) H)\/∃ k,xs=[.bl k]/\Q (.int (if k then 1 else 0)) H):=by
 intro pins s σ H xs us Q I r h
 rcases h with ⟨i,rfl,q⟩|⟨k,rfl,q⟩
 ·obtain⟨u,rfl,t,rfl⟩:=Gz r
  exact call_int_int ⟨.int i,H,I,⟨_,rfl⟩,q⟩
 ·obtain⟨u,rfl,r1⟩:=Gz r
  cases r1
  exact call_int_bool ⟨.int (if k then 1 else 0),H,I.tok _,⟨_,rfl⟩,q⟩
theorem P7:Z3 X (.type "str") (fun xs H Q=>∃ i,xs=[.int i]/\i.natAbs.log2 < 1920/\Q (.str (toString i)) H):=by
 intro pins s σ H xs us Q I r h
 obtain⟨i,rfl,hz,q⟩:=h
 obtain⟨u,rfl,t,rfl⟩:=Gz r
 exact PySem.P.str_of_int hz ⟨.str _,H,I.tok _,⟨_,rfl⟩,q⟩
def Axy (K:W.Frag) (x:V) (H:Hp) (n:Nat):Prop :=
 match x with
 |.str y=>y.length<=sizeLine/\n=y.length
 |.byt y=>y.size<=sizeLine/\n=y.size
 |.ref p=>(∃ xs,SqL K H p xs/\n=xs.length)\/∃ xs,SqT K H p xs/\n=xs.length
 |_=>False
theorem Afk:Z3 X (.builtin "len") (fun xs H Q=>∃ x n,xs=[x]/\Axy X.K x H n/\Q (.int n) H):=by
 intro pins s σ H xs us Q I r h
 obtain⟨x,n,rfl,e,q⟩:=h
 obtain⟨u,rfl,rx⟩:=Gz r
 have hl:=Nt
 have hs:sizeLine=16777216:=Bf4
 cases x with
 |str y =>
  obtain⟨t,rfl⟩:=rx
  obtain⟨hy,e'⟩:y.length<=sizeLine/\n=y.length:=e
  subst e'
  exact len_str (by lia) ⟨.int _,H,I.tok _,⟨_,rfl⟩,q⟩
 |byt y =>
  obtain⟨t,rfl⟩:=rx
  obtain⟨hy,e'⟩:y.size<=sizeLine/\n=y.size:=e
  subst e'
  exact W.len_bytes (by lia) ⟨.int _,H,I.tok _,⟨_,rfl⟩,q⟩
 |ref p =>
  cases rx
  have e':(∃ xs,SqL X.K H p xs/\n=xs.length)\/∃ xs,SqT X.K H p xs/\n=xs.length:=e
  rcases e' with ⟨xs,hx,e'⟩|⟨xs,hx,e'⟩
  ·subst e'
   obtain⟨its,r',pl,hz⟩:=I.list hx
   have hlen:=r'.length
   exact Calls.call_len_list pl.isList (by simp only[Bem];lia) ⟨.int xs.length,H,I.tok _,⟨_,by simp only[Bem];rw[hlen]⟩,q⟩
  ·subst e'
   obtain⟨its,r',pl,hz⟩:=I.tuple hx
   have hlen:=r'.length
   exact len_tuple pl (by simp only[Bem];lia) ⟨.int xs.length,H,I.tok _,⟨_,by simp only[Bem];rw[hlen]⟩,q⟩
 |_=>exact (show False from e).elim
end
structure ObjM (h:Heap) (x dx C:Addr) (mA:Str->Option Value):Prop where
 obj:h.get? x=some (W.instObj C dx)
 ns:h.Ns1 dx mA
 ne:dx≠x
set_option tactic.hygienic true in
theorem Abn {h:Heap}{dx:Addr}{mA:Str->Option Value} (n:h.Ns1 dx mA):∃ od,h.get? dx=some od/\∀ name,W.lookIn name od=some (mA name):=by
 obtain⟨o,es,ep,ho,hd,hk,_,hm⟩:=n
 refine⟨o,ho,fun name=>?_⟩
 have e:=hm name
 unfold nsFind findBy at e
 rw[<- Array.find?_toList] at e
 unfold W.lookIn
 rw[hd]
 dsimp only
 split
 ·rename_i y q
  rw[q] at e
  exact Bfa some e
 ·rename_i q
  rw[q] at e
  have a:es.toList.any (·.refKey)=false:=by
   rw[List.any_eq_false]
   intro y hy
   obtain⟨z,t,hkey⟩:=hk y (Array.mem_toList_iff.mp hy)
   simp[DictEntry.refKey,hkey]
  have a':¬ es.toList.any (·.refKey)=true:=by rw[a];exact Bew
  rw[Beg a']
  exact Bfa some e
theorem ObjM.look {h:Heap}{x dx C:Addr}{mA:Str->Option Value} (I:ObjM h x dx C mA):∃ od,W.InstAt h x (W.instObj C dx) C (some od)/\∀ name,W.lookIn name od=some (mA name) :=
 let ⟨od,ho,hl⟩:=Abn I.ns
 ⟨od,⟨I.obj,rfl,rfl,ho⟩,hl⟩
section
variable {prog:Program}{w:World}{A:Around}{E:Value->Shared->Prop}{s:Shared}{K:W.Frag}{x dx C f:Addr}{mA:Str->Option Value}{name:Str}{v:Value}
end
section
variable {P:Program}{w:World}{K:W.Frag}{H H':Hp}{h h':Heap}{a C dx:Addr}{fs fs':List (Str×V)}
theorem Ang (hok:HOk P w K H h) (e:H a=some (.ins C dx fs)):∃ mA,ObjM h a dx C mA/\(∀ f,Ara (fs.lookup f) (mA f))/\PySem.Within mA (fs.map (·.1))/\fs.length<=1000/\H dx=some (.own a):=by
 obtain⟨d,z,ne,ob,mA,n,r,q⟩:=(show ObjOk P w K H h a (.ins C dx fs) from hok a _ e)
 exact⟨mA,⟨ob,n,ne⟩,r,q,z,d⟩
end
structure Cls (K:W.Frag) (C:Addr):Prop where
 pg:W.plainGet K C Str.empty=true
 hd:W.hasDictIn K C=true
 po:W.plainOver K C=true
 sa:W.findIn K (.ref C) "__setattr__"=some (some (.builtin "object.__setattr__"))
theorem Cls.get {K:W.Frag}{C:Addr} (c:Cls K C) (f:Str):W.plainGet K C f=true:=c.pg
section
variable {X:Cx}{pins:List (Addr×Obj)}{σ:St}{H:Hp}{s:Shared}{a C dx:Addr}{fs:List (Str×V)}{f:Str}{v:V}{A:Around}{E:Value->Shared->Prop}
end
section
variable {X:Cx}{o e value:Expr}{f:Str}{pos pos' tpos:Pos}{ta tv:TE}
end
section
variable {X:Cx}{pins:List (Addr×Obj)}{σ:St}{H:Hp}{s:Shared}{A:Around}{E:Value->Shared->Prop}{Q:Value->Shared->Prop}{c:Value}{b:Bool}
inductive TyOf (K:W.Frag) (H:Hp):V->Value->Prop where
 |non:TyOf K H .non (.type "NoneType")
 |bl (x:Bool):TyOf K H (.bl x) (.type "bool")
 |int (i:Int):TyOf K H (.int i) (.type "int")
 |str (x:Str):TyOf K H (.str x) (.type "str")
 |flt (x:UInt64):TyOf K H (.flt x) (.type "float")
 |lst {a:Addr}{xs:List V} (e:H a=some (.lst xs)):TyOf K H (.ref a) (.type "list")
 |frz {a:Addr}{o:Obj}{xs:List V} (e:H a=some (.frz o (.lst xs))):TyOf K H (.ref a) (.type "list")
 |tup {a:Addr}{xs:List V} (e:H a=some (.tup xs)):TyOf K H (.ref a) (.type "tuple")
 |dK {a:Addr}{kvs:List (Key×V)} (e:H a=some (.dK kvs)):TyOf K H (.ref a) (.type "dict")
 |dT {a:Addr}{kvs:List (PyData×V)} (e:H a=some (.dT kvs)):TyOf K H (.ref a) (.type "dict")
 |ins {a C dx:Addr}{fs:List (Str×V)} (e:H a=some (.ins C dx fs)) (cl:Cls K C) (ha:W.findIn K (.ref C) "__class__"=some (some (.builtin "object.__class__")))
   (hn:W.specialIn K (.builtin "object.__class__") "__get__"=some (some (.builtin "getset_descriptor.__get__"))) (htk:W.takesIn K (.builtin "object.__class__")=some true)
   (hm:W.mroIn K C (.type "object")=some true):TyOf K H (.ref a) (.ref C)
theorem C8 {x:V}{u t:Value} (I:Inv X pins σ H s) (rx:RelV x u) (ty:TyOf X.K H x t) (e:W.kitOne X.K t c=some b) (h:∀ tk,Q (.bool b) { s with toks:=tk }) :
  wpAny (model X.prog X.w) A (call (.builtin "isinstance") [u,c]) Q E s:=by
 cases ty with
 |non=>cases (show u=Value.none from rx);exact W.kia_one W.kitx_none I.kIn Bg4 e (fun z=>nomatch z) h
 |bl y=>cases (show u=Value.bool y from rx);exact W.kia_one W.kitx_bool I.kIn Bg4 e (fun z=>nomatch z) h
 |int i=>obtain⟨t,q⟩:=(show ∃ t,u=Value.int i t from rx);cases q;exact W.kia_one W.kitx_int I.kIn Bg4 e (fun z=>nomatch z) h
 |str y=>obtain⟨t,q⟩:=(show ∃ t,u=Value.str y t from rx);cases q;exact W.kia_one W.kitx_str I.kIn Bg4 e (fun z=>nomatch z) h
 |flt y=>obtain⟨t,q⟩:=(show ∃ t,u=Value.float y t from rx);cases q;exact W.kia_one W.kitx_float I.kIn Bg4 e (fun z=>nomatch z) h
 |@lst a xs ea =>
  cases (show u=Value.ref a from rx)
  obtain⟨_,_,n,_,h1⟩:=(show ObjOk X.prog X.w X.K H s.heap a (.lst xs) from I.hok a _ ea)
  exact W.kia_one W.kitx_list I.kIn ⟨_,h1,rfl⟩ e (fun z=>nomatch z) h
 |@frz a ob xs ea =>
  cases (show u=Value.ref a from rx)
  obtain⟨_,_,_,n,_,h1⟩:=(show ObjOk X.prog X.w X.K H s.heap a (.frz ob (.lst xs)) from I.hok a _ ea)
  exact W.kia_one W.kitx_list I.kIn ⟨_,h1,rfl⟩ e (fun z=>nomatch z) h
 |@tup a xs ea =>
  cases (show u=Value.ref a from rx)
  obtain⟨_,_,_,p⟩:=(show ObjOk X.prog X.w X.K H s.heap a (.tup xs) from I.hok a _ ea)
  obtain⟨o,h1,h2,_⟩:=p
  exact W.kia_one W.kitx_tuple I.kIn ⟨o,h1,h2⟩ e (fun z=>nomatch z) h
 |@dK a kvs ea =>
  cases (show u=Value.ref a from rx)
  obtain⟨_,_,vs,_,p⟩:=(show ObjOk X.prog X.w X.K H s.heap a (.dK kvs) from I.hok a _ ea)
  obtain⟨o,es,ep,h1,h2,_⟩:=p
  exact W.kia_one W.kitx_dict I.kIn ⟨o,h1,h2.1⟩ e (fun z=>nomatch z) h
 |@dT a kvs ea =>
  cases (show u=Value.ref a from rx)
  obtain⟨_,_,xs,_,o,es,ep,h1,h2,_⟩:=(show ObjOk X.prog X.w X.K H s.heap a (.dT kvs) from I.hok a _ ea)
  exact W.kia_one W.kitx_dict I.kIn ⟨o,h1,h2.1⟩ e (fun z=>nomatch z) h
 |@ins a C dx fs ea cl ha hn htk hm =>
  cases (show u=Value.ref a from rx)
  obtain⟨mA,O,_⟩:=Ang I.hok ea
  obtain⟨od,J,_⟩:=O.look
  exact W.kia_one (W.kitx_own (cl.get _) cl.hd ha hn htk hm) I.kIn J e (fun z=>nomatch z) h
end
structure Room (k:Nat) (A:Around):Prop where
 hd:A.handled=none
 dp:A.depth+3 * k+5 < recursionLimit
 un:A.units+16 * k+200 < cLine
theorem Room.mono {j k:Nat}{A:Around} (r:Room k A) (h:j<=k):Room j A:=⟨r.hd,by have:=r.dp;lia,by have:=r.un;lia⟩
theorem Room.deeper {k:Nat}{A:Around} (r:Room (k+1) A) (env:Env):Room k (A.deeper env) :=
 ⟨r.hd,by have:=r.dp;show A.depth+1+3 * k+5 < _;lia,by have:=r.un;show A.units+3+16 * k+200 < _;lia⟩
theorem Room.in1 {k:Nat}{A:Around} (r:Room (k+1) A):Room k A.in1 :=
 ⟨r.hd,by have:=r.dp;show A.depth+3 * k+5 < _;lia,by have:=r.un;show A.units+1+16 * k+200 < _;lia⟩
theorem Room.depth {k:Nat}{A:Around} (r:Room k A):A.depth < recursionLimit:=by have:=r.dp;lia
theorem Room.units {k:Nat}{A:Around} (r:Room k A):A.units+64 < cLine:=by have:=r.un;lia
noncomputable def Bbx:TA:=fun _ H Q=>Q [] H
noncomputable def Aqo (ta:TE) (tr:TA):TA:=fun σ H Q=>ta σ H fun x H1=>tr σ H1 fun xs H2=>Q (x::xs) H2
section
variable {X:Cx}{e:Expr}{es:List Expr}{te:TE}{t:TA}{pos:Pos}
theorem Ajx:PA X [] Bbx:=fun _ _ _ _ H Q I h=>Calls.spliced_nil ⟨[],H,I,.nil,h⟩
theorem Vh (ha:PE X e te) (hr:PA X es t) (hs:starEach (e::es) X.env=(false,eval e X.env)::starEach es X.env:=by rfl):PA X (e::es) (Aqo te t):=by
 intro pos pins s σ H Q I h
 rw[hs]
 show wpAny _ _ (spliced ((false,eval e X.env)::backTo pos (starEach es X.env))) _ _ s
 refine Calls.spliced_cons (thn (ha pins s σ H _ I h) fun u s1 ⟨x,H1,I1,r1,q1⟩=>?_)
 exact thn (hr pos pins s1 σ H1 _ I1 q1) fun us s2 ⟨xs,H2,I2,r2,q2⟩=>⟨x::xs,H2,I2,.cons r1 r2,q2⟩
def Bdq (t:TA):TE:=fun σ H Q=>t σ H fun xs H1=>xs.length<=sizeLine/\∀ p,H1 p=none->Q (.ref p) (upd H1 p (.tup xs))
def Bdm (t:TA):TE:=fun σ H Q=>t σ H fun xs H1=>xs.length<=sizeLine/\∀ p,H1 p=none->Q (.ref p) (upd H1 p (.lst xs))
theorem Av0 {x1} (h:PA X es t):PE X (.Tuple es x1 pos) (Bdq t):=by
 intro pins s σ H Q I hq
 refine wpAny_Tuple_spliced (thn (h pos pins s σ H _ I hq) fun us s1 ⟨xs,H1,I1,r,z,q⟩=>⟨by rw[<- r.length];exact z,?_⟩)
 have hf:H1 s1.heap.objs.size=none:=I1.hok.fresh (Bej _)
 refine⟨.ref s1.heap.objs.size,upd H1 s1.heap.objs.size (.tup xs),I1.laid (t':=s1.toks) (fun b u e=>Bec _ e) (Bej _) ?_,rfl,q _ hf⟩
 exact⟨z,us,r,⟨_,Beq _ rfl,rfl,_,rfl⟩⟩
theorem Avx (h:PA X es t):PE X (.List es pos) (Bdm t):=by
 intro pins s σ H Q I hq
 refine wpAny_List_spliced (thn (h pos pins s σ H _ I hq) fun us s1 ⟨xs,H1,I1,r,z,q⟩=>⟨by rw[<- r.length];exact z,?_⟩)
 have hf:H1 s1.heap.objs.size=none:=I1.hok.fresh (Bej _)
 refine⟨.ref s1.heap.objs.size,upd H1 s1.heap.objs.size (.lst xs),I1.laid (t':=s1.toks) (fun b u e=>Bec _ e) (Bej _) ?_,rfl,q _ hf⟩
 exact⟨z,us,0,r,Beq _ rfl⟩
end
abbrev Sp:=List V->Hp->VK->XK->Prop
abbrev CXT:=List Env->Hp->Shared->XK->Value->Shared->Prop
structure Env0 (P:Program) (w:World) (K:W.Frag) (mg:Str->Option Value) (base:Heap) (A:Around) (outer:List Env) (s:Shared) (H:Hp):Prop where
 frames:A.frames=some outer
 mod:Mod K mg base
 bs:∀ b o,base.get? b=some o->s.heap.get? b=some o/\H b=none
 bsz:base.objs.size<=s.heap.objs.size
 funs:s.heap.FunFrames base outer
 frf:∀ b∈frs outer,H b=none
 hok:HOk P w K H s.heap
 bare:AllBare s.gens
def CE (outer:List Env) (P:Program) (w:World) (K:W.Frag) (H:Hp) (s:Shared) (Q:VK) (u:Value) (s':Shared):Prop :=
 ∃ v H',s'.os=s.os/\AllBare s'.gens/\Un (frs outer) [] H H' s.heap s'.heap/\HOk P w K H' s'.heap/\RelV v u/\Q v H'
def CR (CX:CXT) (outer:List Env) (P:Program) (w:World) (K:W.Frag) (H:Hp) (s:Shared) (Q:VK) (E:XK) (r:Result) (s':Shared):Prop :=
 match r with
 |.ok (.ret u)=>CE outer P w K H s Q u s'
 |.ok _=>False
 |.error e=>CX outer H s E e s'
structure FnOk (P:Program) (w:World) (K:W.Frag) (mg:Str->Option Value) (base:Heap) (CX:CXT) (k:Nat) (f:Addr) (fd:FuncData) (ps:List Str) (sp:Sp):Prop where
 len:∀ vs H Q E,sp vs H Q E->vs.length=ps.length
 run:∀ (A:Around) (outer:List Env) (s:Shared) (H:Hp) (args:Args) (us:List Value) (vs:List V) (Q:VK) (E:XK),Room k A->Env0 P w K mg base A outer s H->BindsTo s fd args (ps.zip us)->Vals vs us->sp vs H Q E ->
  codeAny (model P w) A (.call (.ref f) args) (CR CX outer P w K H s Q E) s
theorem Env0.in1 {P:Program}{w:World}{K:W.Frag}{mg:Str->Option Value}{base:Heap}{A:Around}{outer:List Env}{s:Shared}{H:Hp} (e:Env0 P w K mg base A outer s H) :
  Env0 P w K mg base A.in1 outer s H:=⟨e.frames,e.mod,e.bs,e.bsz,e.funs,e.frf,e.hok,e.bare⟩
section
variable {X:Cx}{pins:List (Addr×Obj)}{σ:St}{H:Hp}{s s':Shared}
theorem Inv.env0 (I:Inv X pins σ H s):Env0 X.prog X.w X.K X.mg X.base X.A X.stack s H :=
 ⟨I.ok.frames,I.ok.mod,I.bs,Bez I.ok.bsz I.sz,I.stack,I.stkFree,I.hok,I.bare⟩
theorem Inv.after {Q:VK}{u:Value} (I:Inv X pins σ H s) (h:CE X.stack X.prog X.w X.K H s Q u s'):EP X pins σ Q u s':=by
 obtain⟨v,H',os,bare,un,hok,r,q⟩:=h
 obtain⟨hh,g,d,t,os'⟩:=s'
 obtain rfl:os'=s.os:=os
 exact⟨v,H',I.call (h':=hh) (g':=g) (d':=d) (t':=t) (ch:=[]) un hok bare (fun b z=>absurd z (by simp)),r,q⟩
end
noncomputable def Aik (sp:Sp) (dvs:List V) (E:XK) (t:TA):TE:=fun σ H Q=>t σ H fun vs H1=>sp (vs++dvs) H1 Q E
def Binds (K:W.Frag) (fd:FuncData) (ps:List Str) (ds:List Value):Prop :=
 ∀ (s:Shared) (us:List Value),K.In s.heap->(us++ds).length=ps.length->BindsTo s fd ⟨us,[]⟩ (ps.zip (us++ds))
theorem Binds.all {K:W.Frag}{fd:FuncData}{ps:List Str} (h:∀ us:List Value,us.length=ps.length->bindArgs fd ⟨us,[]⟩=pure (ps.zip us)):Binds K fd ps []:=fun s us _ hl=>by
 rw[Bev] at hl ⊢
 exact .of_eq (h us hl)
def Pw (CX:CXT) (X:Cx) (E:XK):Prop:=∀ (pins:List (Addr×Obj)) (σ:St) (H:Hp) (s:Shared) (e:Value) (s':Shared),Inv X pins σ H s->CX X.stack H s E e s'->X.xe e s'
section
variable {X:Cx}{CX:CXT}{k:Nat}{f C:Addr}{fd:FuncData}{ps:List Str}{sp:Sp}{dvs:List V}{ds:List Value}{E:XK}{x m:Str}{p pos apos:Pos}{e o:Expr}{es:List Expr}{ta:TE}{t:TA}
theorem Ad0 {pins:List (Addr×Obj)}{σ:St}{H:Hp}{s:Shared}{Q:VK}{us:List Value}{vs:List V} (F:FnOk X.prog X.w X.K X.mg X.base CX k f fd ps sp) (hr:Room k X.A) (hb:Binds X.K fd ps ds) (hd:Vals dvs ds) (hx:Pw CX X E)
  (I:Inv X pins σ H s) (r:Vals vs us) (h:sp (vs++dvs) H Q E):wpAny (model X.prog X.w) X.A (call (.ref f) us) (EP X pins σ Q) X.xe s:=by
 have r2:Vals (vs++dvs) (us++ds):=r.append hd
 have hl:(us++ds).length=ps.length:=by rw[<- r2.length];exact F.len _ _ _ _ h
 refine wpAny_call (codeAny_mono (F.run X.A X.stack s H ⟨us,[]⟩ (us++ds) (vs++dvs) Q E hr I.env0 (hb s us I.kIn hl) r2 h) fun r s' hq=>?_)
 cases r with
 |error e=>exact hx pins σ H s e s' I hq
 |ok fl =>
  cases fl with
  |ret u=>exact I.after hq
  |next=>exact False.elim hq
  |brk=>exact False.elim hq
  |cont=>exact False.elim hq
theorem Vi (F:FnOk X.prog X.w X.K X.mg X.base CX k f fd ps sp) (hr:Room k X.A) (hg:Gl X x) (hm:X.mg x=some (.ref f)) (hk:W.keepIn X.K (.ref f)=true) (hb:Binds X.K fd ps ds) (hd:Vals dvs ds) (hx:Pw CX X E)
  (ha:PA X (e::es) t) (hdb:(x == ("__debug__":Str))=false:=by decide) (he:starEach (e::es) X.env=(false,eval e X.env)::starEach es X.env:=by rfl) (hpl:(backTo pos (starEach es X.env)).any (·.1)=false:=by rfl) :
  PE X (.Call (.Name x p) (e::es) [] pos) (Aik sp dvs E t):=by
 intro pins s σ H Q I h
 refine Bfl (O0 I hg hm ?_ hdb)
 refine W.callWith_K (h₀:=X.base) I.ok.mod.kin hk (thn (ha pos pins s σ H _ I h) fun us s1 ⟨vs,H1,I1,r,q⟩=>⟨I1.kIn,?_⟩) he hpl
 exact Ad0 F hr hb hd hx I1 r q
end
section
variable {X:Cx}{CX:CXT}{k:Nat}{f C:Addr}{fd:FuncData}{ps ks:List Str}{sp:Sp}{E:XK}{x m:Str}{p pos apos kpos:Pos}{e o:Expr}{es:List Expr}{kws:List Keyword}{te ta:TE}{t tk:TA}{nm:Option Str}
variable {g:List Value->List Value->List Value}{gV:List V->List V->List V}
end
structure FnScope (N P:List Str) (sc:Scope):Prop where
 kind:sc.kind=.function
 co:sc.isCoroutine=false
 gen:sc.isGenerator=false
 nd:N.Nodup
 pre:N.take P.length=P
 par:∀ x∈P,sc.names.lookup x=some .local\/sc.names.lookup x=some .cell
 nofree:∀ y∈sc.names,y.2≠.free
theorem P4 {kindOf:Str->Option NameKind}{x:Str}:∀ {binds:List (Str×Value)}{m:Str->Option Value},(∀ v,(x,v)∉binds)->bindL kindOf binds m x=m x
 |[],_,_=>rfl
 |(n,v)::r,m,h=>by
  unfold bindL
  rw[P4 fun w hw=>h w (Bed _ hw)]
  split
  ·have:x≠n:=by rintro rfl;exact h v Beb
   simp[this]
  ·rfl
theorem P2 {kindOf:Str->Option NameKind}{x:Str}:∀ {binds:List (Str×Value)}{m:Str->Option Value},(∀ v,(x,v)∉binds)->bindC kindOf binds m x=m x
 |[],_,_=>rfl
 |(n,v)::r,m,h=>by
  unfold bindC
  rw[P2 fun w hw=>h w (Bed _ hw)]
  split
  ·rfl
  ·have:x≠n:=by rintro rfl;exact h v Beb
   simp[this]
theorem P3 {kindOf:Str->Option NameKind}{x:Str}{v:Value}:∀ {P:List Str}{vs:List Value}{i:Nat}{m:Str->Option Value},P.Nodup->P[i]?=some x->vs[i]?=some v->kindOf x=some .local ->
  bindL kindOf (P.zip vs) m x=some v
 |[],_,_,_,_,h,_,_=>by simp at h
 |_::_,[],_,_,_,_,h,_=>by simp at h
 |p::P,w::vs,0,m,nd,h1,h2,hk=>by
  simp at h1 h2;subst h1;subst h2
  show bindL kindOf ((p,w)::P.zip vs) m p=_
  unfold bindL
  rw[P4 fun v hv=>(List.nodup_cons.mp nd).1 (Bhj hv).1,Bef hk]
  simp
 |p::P,w::vs,i+1,m,nd,h1,h2,hk=>by
  show bindL kindOf ((p,w)::P.zip vs) m x=_
  unfold bindL
  exact P3 (i:=i) (List.nodup_cons.mp nd).2 (by simpa using h1) (by simpa using h2) hk
theorem P1 {kindOf:Str->Option NameKind}{x:Str}{v:Value}:∀ {P:List Str}{vs:List Value}{i:Nat}{m:Str->Option Value},P.Nodup->P[i]?=some x->vs[i]?=some v->kindOf x≠some .local ->
  bindC kindOf (P.zip vs) m x=some v
 |[],_,_,_,_,h,_,_=>by simp at h
 |_::_,[],_,_,_,_,h,_=>by simp at h
 |p::P,w::vs,0,m,nd,h1,h2,hk=>by
  simp at h1 h2;subst h1;subst h2
  show bindC kindOf ((p,w)::P.zip vs) m p=_
  unfold bindC
  rw[P2 fun v hv=>(List.nodup_cons.mp nd).1 (Bhj hv).1,Beg hk]
  simp
 |p::P,w::vs,i+1,m,nd,h1,h2,hk=>by
  show bindC kindOf ((p,w)::P.zip vs) m x=_
  unfold bindC
  exact P1 (i:=i) (List.nodup_cons.mp nd).2 (by simpa using h1) (by simpa using h2) hk
noncomputable def Im (N:List Str) (vs:List V):St:=vs.map some++List.replicate (N.length - vs.length) none
noncomputable def Uo (CX:CXT) (P:Program) (w:World) (K:W.Frag) (mg:Str->Option Value) (base:Heap) (N:List Str) (qual:Str) (scope:Scope) (f:Addr) (cd:Value) (A:Around) (outer:List Env) (s:Shared) (H:Hp) (E:XK):Cx where
 prog:=P
 w:=w
 K:=K
 mg:=mg
 base:=base
 A:=A.deeper (envOfC qual scope s.heap.objs.size f cd)
 N:=N
 s₀:=s
 H₀:=H
 env:=envOfC qual scope s.heap.objs.size f cd
 outer:=outer
 stack:=envOfC qual scope s.heap.objs.size f cd::outer
 ex:=[]
 calm:=true
 fn:=fun _=>true
 pn:=[]
 xe:=fun e s'=>wpAny (model P w) (A.deeper (envOfC qual scope s.heap.objs.size f cd)) (leaving (envOfC qual scope s.heap.objs.size f cd) e) (fun _ s''=>CX outer H s E e s'') (fun e' s''=>CX outer H s E e' s'') s'
theorem V2 {sc:Scope}{n:Nat}{x:Str} (h:sc.names.lookup x=some .cell):∃ c,(cellsFrom n sc.names []).lookup x=some c:=by
 have q:=W.cellsFrom_some sc.names n [] (.inl h)
 exact Option.isSome_iff_exists.mp q
theorem R6 {CX:CXT}{P:Program}{w:World}{K:W.Frag}{mg:Str->Option Value}{base:Heap}{N ps:List Str}{qual:Str}{scope:Scope}{f:Addr}{cd:Value}{A:Around}{outer:List Env}{s s1:Shared}{H:Hp}{E:XK}{us:List Value}{vs:List V}
  (S:FnScope N ps scope) (hd:A.handled=none) (e0:Env0 P w K mg base A outer s H) (hl:vs.length=ps.length) (r:Vals vs us)
  (x:InCallC s s.heap.objs.size (bindL (envOfC qual scope s.heap.objs.size f cd).kindOf (ps.zip us) fun _=>none) (cellsFrom (s.heap.objs.size+1) scope.names []) (bindC (envOfC qual scope s.heap.objs.size f cd).kindOf (ps.zip us) fun _=>none) s1) :
  Inv (Uo CX P w K mg base N qual scope f cd A outer s H E) [] (Im N vs) H s1:=by
 have hpl:ps.length<=N.length:=by have:=Bfa List.length S.pre;rw[Bgh] at this;lia
 obtain⟨h1,tk,rfl,hk⟩:=x.done
 have noA:∀ b:Addr,b∉(Uo CX P w K mg base N qual scope f cd A outer s H E).ex:=fun b z=>absurd (show b∈([]:List Addr) from z) (by simp)
 refine⟨⟨e0.mod,S.kind,rfl,rfl,Bej _,fun y z c h1 h2=>?_,fun y hy=>?_,fun y c _ h=>?_,fun _=>hd,Around.frames_deeper e0.frames,.inr ⟨rfl,rfl⟩,fun b z=>absurd z (noA b),e0.bs,e0.bsz,fun b _ _=>noA b,fun b z=>absurd z (noA b),e0.funs,e0.frf⟩,
  rfl,e0.bare,Un.kept hk,⟨_,x.toInCall.ns,fun i y v h1 h2 h3=>?_⟩,fun y c h=>⟨_,x.cell y c h⟩,e0.hok.fresh (Bej _),fun y c h=>?_,fun p hp=>absurd (show p∈([]:List (Addr×Obj)) from hp) (by simp),e0.hok.kept hk,?_⟩
 ·exact name_of_addr x.apart (Bfb h1) (Bfb h2)
 ·have hy:scope.names.lookup y=some .cell\/scope.names.lookup y=some .free:=hy
  rcases hy with hy|hy
  ·exact V2 hy
  ·exact absurd rfl (S.nofree _ (Bfb hy))
 ·exact Bf8 (x.above y c (Bfb h))
 ·have hi:i < vs.length:=by
   unfold Im at h2
   by_cases hi:i < vs.length
   ·exact hi
   ·rw[Be9 (by simpa using hi)] at h2
    rw[Bgp] at h2
    split at h2<;>cases h2
  have ha:vs[i]?=some v:=by
   unfold Im at h2
   rw[Be2 (by simpa using hi),Bey] at h2
   cases e:vs[i]? with
   |none=>rw[e] at h2;cases h2
   |some a=>rw[e] at h2;cases h2;rfl
  obtain⟨u,hu,rv⟩:=r.get ha
  have hp:ps[i]?=some y:=by
   rw[<- S.pre,List.getElem?_take_of_lt (by lia)];exact h1
  have ndP:ps.Nodup:=by rw[<- S.pre];exact S.nd.sublist (List.take_sublist _ _)
  refine⟨u,rv,?_⟩
  rcases S.par y (Be1 hp) with k|k
  ·exact .inl ⟨k,P3 ndP hp hu k⟩
  ·obtain⟨c,e⟩:=V2 (n:=s.heap.objs.size+1) k
   refine .inr ⟨.inl k,c,e,?_⟩
   have q:=x.cell y c e
   rw[P1 ndP hp hu (by show scope.names.lookup y≠_;rw[k];decide)] at q
   exact q
 ·exact e0.hok.fresh (Bf8 (x.above y c (Bfb h)))
 ·unfold Im
  show _=N.length
  rw[Bep,Bel,List.length_replicate]
  lia
theorem Atm {CX:CXT}{P:Program}{w:World}{K:W.Frag}{mg:Str->Option Value}{base:Heap}{k:Nat}{f:Addr}{name qual:Str}{params:Arguments}{body:List Stmt}{scope:Scope}{dV kV doc pm cdv ct oc:Value}{an od:Option Addr}
  {osl:Array (Option Value)}{N ps:List Str}{sp:Sp} (lk:K.lookup f=some ⟨oc,od,.func (W.fnOf name qual params body scope dV kV doc pm an cdv ct),osl⟩) (hcd:W.codeIn K cdv qual=true) (S:FnScope N ps scope)
  (len:∀ vs H Q E,sp vs H Q E->vs.length=ps.length)
  (hbody:∀ (A:Around) (outer:List Env) (s:Shared) (H:Hp) (vs:List V) (Q:VK) (E:XK),Room k (A.deeper (envOfC qual scope s.heap.objs.size f cdv))->sp vs H Q E ->
   ∃ t,PSs (Uo CX P w K mg base N qual scope f cdv A outer s H E) body t/\t { nx:=fun _ H'=>Q .non H',rt:=Q } (Im N vs) H) :
  FnOk P w K mg base CX (k+1) f (W.fnOf name qual params body scope dV kV doc pm an cdv ct) ps sp:=by
 refine⟨len,fun A outer s H args us vs Q E hr e0 hb r hsp=>?_⟩
 have hl:=len _ _ _ _ hsp
 have KX:K.In s.heap:=e0.mod.kin.keeps fun b o e=>(e0.bs b o e).1
 have lim:s.heap.NoLimit:=e0.mod.nolimit.keeps fun b o e=>(e0.bs b o e).1
 have hkind:∀ y∈ps.zip us,scope.names.lookup y.1=some .local\/(scope.names.lookup y.1=some .cell/\((cellsFrom (s.heap.objs.size+1) scope.names []).lookup y.1).isSome=true):=fun⟨n,v⟩ hy=>by
  rcases S.par n (Bhj hy).1 with q|q
  ·exact .inl q
  ·exact .inr ⟨q,W.cellsFrom_some _ _ _ (.inl q)⟩
 refine codeAny_call_function hr.depth (KX _ _ lk) rfl S.co S.gen rfl (W.codeRec_of KX hcd) (hb _ _ _ _ ?_)
 refine wpAny_newFunctionEnv_cells S.kind hkind fun env he s1 x=>?_
 subst he
 refine⟨lim.keeps x.toInCall.keep,codeAny_func ?_⟩
 obtain⟨t,ht,hq⟩:=hbody A outer s H vs Q E (hr.deeper _) hsp
 have I:Inv (Uo CX P w K mg base N qual scope f cdv A outer s H E) [] (Im N vs) H s1:=R6 S hr.hd e0 hl r x
 refine Bfr (ht [] s1 (Im N vs) H _ I hq) (fun fl s' hs=>?_) fun e s' hs=>hs
 have fin:∀ {σ':St}{H':Hp}{v:V}{u:Value},Inv (Uo CX P w K mg base N qual scope f cdv A outer s H E) [] σ' H' s'->RelV v u->Q v H'->CE outer P w K H s Q u s' :=
  fun {σ' H' v u} J rv q=>⟨v,H',J.os,J.bare,J.base,J.hok,rv,q⟩
 cases fl with
 |ret u =>
  obtain⟨v,σ',H',J,rv,q⟩:=hs
  exact fin J rv q
 |next =>
  obtain⟨σ',H',J,q⟩:=hs
  exact fin (v:=V.non) (u:=Value.none) J rfl q
 |brk =>
  obtain⟨_,_,_,q⟩:=hs
  exact False.elim q
 |cont =>
  obtain⟨_,_,_,q⟩:=hs
  exact False.elim q
section
variable {X:Cx}{x:Str}{p pos:Pos}{e:Expr}{es:List Expr}{t:TA}{id T:String}{r:List V->Hp->VK->Prop}
end
end L2
namespace HT
open PySem PyProof.Rows
section
open PySem.SeqAt
open PySem.AutoSeq1 (wpAny_loadPart')
open PySem.MeetsSeq PySem.MeetsSeq2 PySem.MeetsSeq3
end
section
variable {prog:Program}{w:World}{A:Around}{E:Value->Shared->Prop}{s:Shared}
theorem cat_tup {t b:Addr}{vs ws:List Value}{Q:Value->Shared->Prop} (ht:IsTup s.heap t vs.toArray) (hb:IsTup s.heap b ws.toArray) (hv:vs≠[])
  (h1:ws=[]->Q (.ref t) s) (h2:ws≠[]->Q (.ref s.heap.objs.size) { s with heap:=s.heap.push { cls:=.type "tuple",data:=.seq (vs++ws).toArray } })
  (hsz:vs.length+ws.length<=sizeLine):wpAny (model prog w) A (binaryOp .Add (.ref t) (.ref b)) Q E s:=by
 obtain⟨⟨cls,dd,data,sl⟩,ho,hc,n,hd⟩:=id ht
 obtain⟨⟨cls2,dd2,data2,sl2⟩,ho2,hc2,n2,hd2⟩:=id hb
 simp only at hc hd hc2 hd2
 subst hc hd hc2 hd2
 have e:vs.toArray++ws.toArray=(vs++ws).toArray:=by simp
 by_cases hw:ws=[]
 ·exact concat_meets ⟨_,ho,rfl⟩ ⟨_,ho2,rfl⟩ noFill_tuple_add seq_tuple_add PySem.F.slot_tuple_add PySem.F.entry_tuple_add (PySem.F.args_tuple_add_2 _ _)
   (tuple_addW1 t b vs.toArray ws.toArray n n2 dd dd2 sl sl2 (by simpa using hv) (by simp[hw])) ⟨ho,ho2,h1 hw⟩
 ·refine concat_meets ⟨_,ho,rfl⟩ ⟨_,ho2,rfl⟩ noFill_tuple_add seq_tuple_add PySem.F.slot_tuple_add PySem.F.entry_tuple_add (PySem.F.args_tuple_add_2 _ _)
   (tuple_addW2 t b vs.toArray ws.toArray n n2 dd dd2 sl sl2 (by simpa using hv) (by simpa using hw) (by rw[Bem,Bem];exact hsz)) ⟨ho,ho2,?_⟩
  rw[e]
  exact h2 hw
noncomputable def sIx (n d:Nat):Option Int->Nat
 |none=>d
 |some v=>if v < 0 then (v+(n:Int)).toNat else min v.toNat n
theorem Awq (n d:Nat) (hd:d<=n) (o:Option Int):sIx n d o<=n:=by
 cases o with
 |none=>exact hd
 |some v =>
  show (if v < 0 then (v+(n:Int)).toNat else min v.toNat n)<=n
  by_cases hv:v < 0
  ·rw[Bef hv];lia
  ·rw[Beg hv];exact Nat.min_le_right _ _
theorem Aai (v:Int) (n d:Nat):(if v < 0 then max (v+(n:Int)) 0 else min v (n:Int))=((sIx n d (some v):Nat):Int):=by
 show (if v < 0 then max (v+(n:Int)) 0 else min v (n:Int))=(((if v < 0 then (v+(n:Int)).toNat else min v.toNat n):Nat):Int)
 by_cases hv:v < 0
 ·simp only[Bef hv];lia
 ·simp only[Beg hv];lia
theorem Yr (lo hi:Option Int) (n:Nat):Builtin.Slice.sliceAdjust lo hi 1 (n:Int)=(((sIx n 0 lo:Nat):Int),((sIx n n hi:Nat):Int)):=by
 have h1:¬ ((1:Int) < 0):=by lia
 unfold Builtin.Slice.sliceAdjust
 simp only[h1,Bgm]
 refine Prod.ext ?_ ?_
 ·cases lo with
  |none=>rfl
  |some v=>exact Aai v n 0
 ·cases hi with
  |none=>rfl
  |some v=>exact Aai v n n
theorem Zm (i j:Nat):Builtin.Slice.slicePlaces (i:Int) (j:Int) 1=j - i:=by
 unfold Builtin.Slice.slicePlaces
 have h1:(1:Int) > 0:=by lia
 simp only[h1,Bha,Int.ediv_one]
 split<;>lia
theorem N4 {v:Value}{o:Option Int}{Q:Option Int->Shared->Prop} (p:IsPart v o) (h:Q o s):wpAny (model prog w) A (Builtin.Slice.slicePartIndex v) Q E s:=by
 cases p with
 |none=>exact slicePart_none h
 |int i t=>exact slicePart_int h
theorem sliceApplied_gen {sl:Addr}{vl vu:Value}{lo hi:Option Int}{n:Nat}{Q:Int×Int×Nat->Shared->Prop} (hs:s.heap.IsSliceOf sl vl vu .none) (pl:IsPart vl lo) (pu:IsPart vu hi)
  (h:Q (((sIx n 0 lo:Nat):Int),1,sIx n n hi - sIx n 0 lo) s):wpAny (model prog w) A (Builtin.Slice.sliceApplied (.ref sl) (pure (n:Int))) Q E s:=by
 obtain⟨os,hos,hcs,hds⟩:=id hs
 unfold Builtin.Slice.sliceApplied Builtin.Slice.sliceFields
 refine Bea (Bea (wpAny_field hos hds (x:=vl) rfl (Bea (wpAny_field hos hds (x:=vu) rfl (Bea (wpAny_field hos hds (x:=.none) rfl (Bek ?_)))))))
 refine Bea (slicePart_none ?_)
 show wpAny _ _ (if ((1:Int) == 0)=true then _ else _) _ _ s
 rw[Beg (by decide)]
 refine Bea (N4 pl (Bea (N4 pu (Bea (Bek ?_)))))
 show wpAny _ _ (match Builtin.Slice.sliceAdjust lo hi 1 (n:Int) with|(lo,hi)=>pure (lo,(1:Int),Builtin.Slice.slicePlaces lo hi 1)) _ _ s
 rw[Yr lo hi n]
 show wpAny _ _ (pure (((sIx n 0 lo:Nat):Int),(1:Int),Builtin.Slice.slicePlaces ((sIx n 0 lo:Nat):Int) ((sIx n n hi:Nat):Int) 1)) _ _ s
 rw[Zm]
 exact Bek h
theorem Ahb (xs:Array Value) (i k:Nat):((List.range k).filterMap fun (m:Nat)=>xs[((i:Int)+(m:Int) * 1).toNat]?).toArray=((xs.toList.drop i).take k).toArray:=by
 have e:(fun (m:Nat)=>xs[((i:Int)+(m:Int) * 1).toNat]?)=fun m=>xs[i+m]?:=by
  funext m
  have:((i:Int)+(m:Int) * 1).toNat=i+m:=by lia
  rw[this]
 rw[e]
 have:=pick_run xs i k
 rw[List.filterMap_map] at this
 have e2:((fun x=>xs[x]?) ∘ fun x=>i+x)=fun m=>xs[i+m]?:=rfl
 rw[e2] at this
 rw[this]
theorem getItem_tuple_cut {t sl:Addr}{items:Array Value}{vl vu:Value}{lo hi:Option Int}{Q:Value->Shared->Prop} (ht:IsTup s.heap t items) (hs:s.heap.IsSliceOf sl vl vu .none) (pl:IsPart vl lo) (pu:IsPart vu hi)
  (hw:¬ (sIx items.size 0 lo=0/\sIx items.size items.size hi=items.size))
  (h:Q (.ref s.heap.objs.size) { s with heap:=s.heap.push { cls:=.type "tuple",data:=.seq ((items.toList.drop (sIx items.size 0 lo)).take (sIx items.size items.size hi - sIx items.size 0 lo)).toArray } })
  (hsz:items.size<=sizeLine):wpAny (model prog w) A (getItem (.ref t) (.ref sl)) Q E s:=by
 have htake:sizeOk (.seq ((items.toList.drop (sIx items.size 0 lo)).take (sIx items.size items.size hi - sIx items.size 0 lo)).toArray):=by
  show ((items.toList.drop (sIx items.size 0 lo)).take (sIx items.size items.size hi - sIx items.size 0 lo)).toArray.size<=sizeLine
  rw[Bem,Bgh,Bg0,Bfu]
  lia
 have hj:sIx items.size items.size hi<=items.size:=Awq _ _ (Bej _) hi
 obtain⟨os,hos,hcs,hds⟩:=id hs
 have hTs:s.TypeIs (.ref sl) "slice":=⟨os,hos,hcs⟩
 unfold getItem
 try with_reducible refine Bgi ?_
 first|refine Bea (Bek ?_)|skip
 refine Bea (wpAny_sequenceKey ht.typeIs (by decide) ?_)
 refine Bea (Bgx (name:=Str.ofString "__getitem__") ht.typeIs PyProof.Rows.slot_tuple_getitem
  (Bgq PyProof.Rows.slot_tuple_getitem ht.typeIs entry_tuple_getitem ?_ (args_tuple_getitem _ _)))
 show wpAny _ _ (Builtin.Tuple.tupleItemsOf (.ref t) >>= _) _ _ s
 refine Bea (tupleItemsOf_ ht ?_)
 refine Bea (wpAny_typeOf hTs ?_)
 rw[Bef (by decide)]
 refine Bea (sliceApplied_gen hs pl pu ?_)
 have hno:¬ ((((sIx items.size 0 lo:Nat):Int) == 0&&(1:Int) == 1&&(sIx items.size items.size hi - sIx items.size 0 lo) == items.size)=true):=by
  intro q
  rw[Bet,Bet] at q
  have q1:((sIx items.size 0 lo:Nat):Int)=0:=eq_of_beq q.1.1
  have q2:sIx items.size items.size hi - sIx items.size 0 lo=items.size:=eq_of_beq q.2
  exact hw ⟨by lia,by lia⟩
 show wpAny _ _ (if (((sIx items.size 0 lo:Nat):Int) == 0&&(1:Int) == 1&&(sIx items.size items.size hi - sIx items.size 0 lo) == items.size)=true then _ else _) _ _ s
 rw[Beg hno,Ahb]
 first
  |exact Bea (m:=Builtin.Tuple.tupleExact _) (Bfw (Bek ⟨_,rfl,Bek h⟩) htake)
  |exact Bea (m:=Builtin.Tuple.tupleExact _) (Bfw (Bea (Bek (Bek ⟨_,rfl,Bek h⟩))) htake)
  |exact Bea (Bea (m:=Builtin.Tuple.tupleExact _) (Bfw (Bek (Bek ⟨_,rfl,Bek h⟩)) htake))
  |exact Bea (Bea (m:=Builtin.Tuple.tupleExact _) (Bfw (Bek ⟨_,rfl,Bek h⟩) htake))
end
end HT
namespace L2
open PySem PySem.Spec PyProof.Rows
abbrev TO:=St->Hp->(Option Int->Hp->Prop)->Prop
def PO (X:Cx) (e:Option Expr) (t:TO):Prop :=
 ∀ (pins:List (Addr×Obj)) (s:Shared) (σ:St) (H:Hp) (Q:Option Int->Hp->Prop),Inv X pins σ H s->t σ H Q ->
  wpAny (model X.prog X.w) X.A (evalPart e X.env) (fun u s'=>∃ o H',Inv X pins σ H' s'/\IsPart u o/\Q o H') X.xe s
noncomputable def Aqp:TO:=fun _ H Q=>Q none H
noncomputable def Ba5 (t:TE):TO:=fun σ H Q=>t σ H fun x H1=>∃ i,x=.int i/\Q (some i) H1
section
variable {X:Cx}{e:Expr}{te:TE}{lo hi:Option Expr}{tl th:TO}{pos p2:Pos}
theorem Ao3:PO X none Aqp:=by
 intro pins s σ H Q I h
 rw[evalPart_none]
 exact Bek ⟨none,H,I,.none,h⟩
theorem Ao4 (h:PE X e te):PO X (some e) (Ba5 te):=by
 intro pins s σ H Q I hw
 rw[evalPart_some]
 refine thn (h pins s σ H _ I hw) fun u s1 ⟨x,H1,I1,r1,q1⟩=>?_
 obtain⟨i,rfl,q⟩:=q1
 obtain⟨t,rfl⟩:=r1
 exact⟨some i,H1,I1,.int i t,q⟩
def SlR (X:Cx) (r:V->Option Int->Option Int->Hp->VK->Prop):Prop :=
 ∀ (pins:List (Addr×Obj)) (s:Shared) (σ:St) (H:Hp) (x:V) (v vl vu:Value) (lo hi:Option Int) (sl:Addr) (Q:VK),Inv X pins σ H s->RelV x v->s.heap.IsSliceOf sl vl vu .none->IsPart vl lo->IsPart vu hi->r x lo hi H Q ->
  ∃ T id,typeLookup (.type T) "__getitem__"=pure (some (.builtin id))/\s.TypeIs v T/\wpAny (model X.prog X.w) X.A (getItem v (.ref sl)) (EP X pins σ Q) X.xe s
theorem SlR.or {r r':V->Option Int->Option Int->Hp->VK->Prop} (h:SlR X r) (h':SlR X r'):SlR X (fun x lo hi H Q=>r x lo hi H Q\/r' x lo hi H Q):=by
 intro pins s σ H x v vl vu lo hi sl Q I rx hs pl pu q
 rcases q with q|q
 ·exact h pins s σ H x v vl vu lo hi sl Q I rx hs pl pu q
 ·exact h' pins s σ H x v vl vu lo hi sl Q I rx hs pl pu q
noncomputable def tSl (r:V->Option Int->Option Int->Hp->VK->Prop) (te:TE) (tl th:TO):TE:=fun σ H Q=>te σ H fun x H1=>tl σ H1 fun l H2=>th σ H2 fun u H3=>r x l u H3 Q
theorem X1 {r:V->Option Int->Option Int->Hp->VK->Prop} (hr:SlR X r) (he:PE X e te) (hl:PO X lo tl) (hu:PO X hi th):PE X (.Subscript e (.Slice lo hi none p2) pos) (tSl r te tl th):=by
 intro pins s σ H Q I h
 refine Subscript_ (thn (he pins s σ H _ I h) fun v s1 ⟨x,H1,I1,r1,q1⟩=>?_)
 refine wpAny_Slice (thn (hl pins s1 σ H1 _ I1 q1) fun vl s2 ⟨l,H2,I2,pl,q2⟩=>thn (hu pins s2 σ H2 _ I2 q2) fun vu s3 ⟨u,H3,I3,pu,q3⟩=>?_)
 rw[evalPart_none]
 refine Bek ?_
 have I4:Inv X pins σ H3 { s3 with heap:=s3.heap.push { cls:=.type "slice",data:=.fields #[vl,vu,.none] } }:=I3.kept (t':=s3.toks) fun b ob q=>Bec _ q
 obtain⟨T,id,hT,ht,hg⟩:=hr pins { s3 with heap:=s3.heap.push { cls:=.type "slice",data:=.fields #[vl,vu,.none] } } σ H3 x v vl vu l u s3.heap.objs.size Q I4 r1 (Heap.IsSliceOf.new ..) pl pu q3
 show wpAny (model X.prog X.w) X.A (subscriptTail e (.Slice lo hi none p2) v (.ref s3.heap.objs.size)) (EP X pins σ Q) X.xe { s3 with heap:=s3.heap.push { cls:=.type "slice",data:=.fields #[vl,vu,.none] } }
 exact tail_any (ops:=[.ref s3.heap.objs.size,v]) ht hT hg (by with_unfolding_all rfl)
def Ai3 (xs:List V) (lo hi:Option Int):List V:=(xs.drop (HT.sIx xs.length 0 lo)).take (HT.sIx xs.length xs.length hi - HT.sIx xs.length 0 lo)
theorem Lg (xs:List V) (lo hi:Option Int):(Ai3 xs lo hi).length<=xs.length:=by
 unfold Ai3
 rw[Bgh,Bg0]
 lia
def Bdd (K:W.Frag):V->Option Int->Option Int->Hp->VK->Prop:=fun x lo hi H Q=>∃ a xs,x=.ref a/\SqT K H a xs /\
 ¬ (HT.sIx xs.length 0 lo=0/\HT.sIx xs.length xs.length hi=xs.length)/\∀ p,H p=none->Q (.ref p) (upd H p (.tup (Ai3 xs lo hi)))
theorem sl_tup:SlR X (Bdd X.K):=by
 intro pins s σ H x v vl vu lo hi sl Q I rx hs pl pu h
 obtain⟨a,xs,rfl,hx,hw,q⟩:=h
 cases rx
 obtain⟨its,r,ht,hz⟩:=I.tuple hx
 have hlen:its.toArray.size=xs.length:=by rw[Bem];exact r.length.symm
 refine⟨"tuple",_,PyProof.Rows.slot_tuple_getitem.lookup,ht.typeIs,?_⟩
 refine HT.getItem_tuple_cut ht hs pl pu (by rw[hlen];exact hw) ?_ (by rw[hlen];exact hz)
 rw[hlen]
 refine⟨.ref s.heap.objs.size,_,I.laid (t':=s.toks) (o:=.tup (Ai3 xs lo hi)) (fun b ob q=>Bec _ q) (Bej _) ?_,rfl,q _ (I.hok.fresh (Bej _))⟩
 exact⟨Bez (Lg xs lo hi) hz,_,(r.drop (HT.sIx xs.length 0 lo)).take (HT.sIx xs.length xs.length hi - HT.sIx xs.length 0 lo),IsTup.new _ _⟩
def Bat (K:W.Frag):R2:=fun x y H Q=>∃ a b xs ys,x=.ref a/\y=.ref b/\SqT K H a xs/\SqT K H b ys/\xs≠[]/\xs.length+ys.length<=sizeLine /\
 (ys=[]->Q (.ref a) H)/\(ys≠[]->∀ p,H p=none->Q (.ref p) (upd H p (.tup (xs++ys))))
theorem Vals.nil_iff {xs:List V}{us:List Value} (r:Vals xs us):us=[] ↔ xs=[]:=by
 cases r with
 |nil=>simp
 |cons _ _=>simp
theorem op_catT:OpR X (binaryOp .Add) (Bat X.K):=by
 intro pins s σ H x y v u Q I rx ry h
 obtain⟨a,b,xs,ys,rfl,rfl,ha,hb,hx,hz,q1,q2⟩:=h
 cases rx
 cases ry
 obtain⟨its,r1,p1,_⟩:=I.tuple ha
 obtain⟨its2,r2,p2,_⟩:=I.tuple hb
 refine HT.cat_tup p1 p2 (fun z=>hx (r1.nil_iff.mp z)) (fun z=>⟨.ref a,H,I,rfl,q1 (r2.nil_iff.mp z)⟩) (fun z=>?_) (by rw[<- r1.length,<- r2.length];exact hz)
 refine⟨.ref s.heap.objs.size,_,I.laid (t':=s.toks) (o:=.tup (xs++ys)) (fun b ob q=>Bec _ q) (Bej _) ?_,rfl,q2 (fun w=>z (r2.nil_iff.mpr w)) _ (I.hok.fresh (Bej _))⟩
 exact⟨by rw[Bep];exact hz,_,r1.append r2,IsTup.new _ _⟩
end
noncomputable def ixN (n:Nat) (i:Int):Option Nat:=if 0<=i then (if i < n then some i.toNat else none) else if -(n:Int)<=i then some (i+n).toNat else none
def atI {α:Type} (xs:List α) (i:Int):Option α:=(ixN xs.length i).bind fun j=>xs[j]?
theorem Aba {n:Nat}{i:Int}{j:Nat} (h:ixN n i=some j):seqIndex? i n=some j/\j < n/\-(n:Int)<=i/\i < n:=by
 unfold ixN at h
 by_cases h0:0<=i
 ·rw[Bef h0] at h
  by_cases h1:i < n
  ·rw[Bef h1] at h
   have e:i.toNat=j:=Bfg h
   exact⟨by rw[seqIndex_of h0 h1,e],by lia,by lia,h1⟩
  ·rw[Beg h1] at h;cases h
 ·rw[Beg h0] at h
  by_cases h1:-(n:Int)<=i
  ·rw[Bef h1] at h
   have e:(i+n).toNat=j:=Bfg h
   exact⟨by rw[seqIndex_neg (by lia) h1,e],by lia,h1,by lia⟩
  ·rw[Beg h1] at h;cases h
theorem Oi {α:Type}{xs:List α}{i:Int}{v:α} (h:atI xs i=some v):∃ j,seqIndex? i xs.length=some j/\xs[j]?=some v/\j < xs.length/\-(xs.length:Int)<=i/\i < xs.length:=by
 unfold atI at h
 cases e:ixN xs.length i with
 |none=>rw[e] at h;cases h
 |some j =>
  rw[e] at h
  obtain⟨h1,h2,h3,h4⟩:=Aba e
  exact⟨j,h1,h,h2,h3,h4⟩
def Oc (b:Expr):Prop:=∀ o i,subscripted b false o i=operate [o,i] (getItem o i)
def IxR (X:Cx) (r:R2):Prop :=
 ∀ (value slice:Expr) (pins:List (Addr×Obj)) (s:Shared) (σ:St) (H:Hp) (x y:V) (v u:Value) (Q:VK),Inv X pins σ H s->RelV x v->RelV y u->r x y H Q ->
  subscripted slice false v u=operate [v,u] (getItem v u)->wpAny (model X.prog X.w) X.A (subscriptTail value slice v u) (EP X pins σ Q) X.xe s
def MtR (X:Cx) (id:String) (r:V->List V->Hp->VK->Prop):Prop :=
 ∀ (pins:List (Addr×Obj)) (s:Shared) (σ:St) (H:Hp) (x:V) (xs:List V) (v:Value) (us:List Value) (Q:VK),Inv X pins σ H s->RelV x v->Vals xs us->r x xs H Q ->
  wpAny (model X.prog X.w) X.A (call (.builtin id) (v::us)) (EP X pins σ Q) X.xe s
section
variable {X:Cx}{a b:Expr}{ta tb:TE}{pos:Pos}
theorem IxR.or {r r':R2} (h:IxR X r) (h':IxR X r'):IxR X (fun x y H Q=>r x y H Q\/r' x y H Q):=by
 intro value slice pins s σ H x y v u Q I rx ry q hs
 rcases q with q|q
 ·exact h value slice pins s σ H x y v u Q I rx ry q hs
 ·exact h' value slice pins s σ H x y v u Q I rx ry q hs
theorem Bai {r:R2} (hr:IxR X r) (ha:PE X a ta) (hb:PE X b tb) (hs:Oc b):PE X (.Subscript a b pos) (tOp r ta tb):=by
 intro pins s σ H Q I h
 exact Subscript_ (Axj ha hb I h fun v u s2 x y H2 I2 rx ry q=>hr a b pins s2 σ H2 x y v u Q I2 rx ry q (hs _ _))
def Bbr (K:W.Frag):R2:=fun x y H Q=>∃ p xs i v,x=.ref p/\y=.int i/\SqL K H p xs/\atI xs i=some v/\Q v H
def Bbt (K:W.Frag):R2:=fun x y H Q=>∃ p xs i v,x=.ref p/\y=.int i/\SqT K H p xs/\atI xs i=some v/\Q v H
def Bbs:R2:=fun x y H Q=>∃ z i c,x=.str z/\y=.int i/\z.length<=sizeLine/\atI z.cps.toList i=some c/\Q (.str ⟨#[c]⟩) H
theorem ix_list:IxR X (Bbr X.K):=by
 intro value slice pins s σ H x y v u Q I rx ry h hs
 obtain⟨p,xs,i,z,rfl,rfl,hq,he,q⟩:=h
 cases rx
 obtain⟨t,rfl⟩:=ry
 obtain⟨its,r,pl,hz⟩:=I.list hq
 obtain⟨j,h1,h2,h3,h4,h5⟩:=Oi he
 obtain⟨w,ew,rw'⟩:=r.get h2
 have hl:=r.length
 have hn:=Nt
 have fin:EP X pins σ Q w s:=⟨z,H,I,rw',q⟩
 by_cases h0:0<=i
 ·have hj:i.toNat=j:=by
   rw[seqIndex_of h0 h5] at h1
   exact Bfg h1
  exact item_listR pl.isList h0 (by lia) (by rw[hj];simpa using ew) fin hs
 ·have hj:(i+(its.toArray.size:Int)).toNat=j:=by
   rw[seqIndex_neg (by lia) h4] at h1
   rw[Bem,<- hl]
   exact Bfg h1
  exact subscriptTail_builtinR (x:=w) pl.isList.typeIs slot_list_getitem.lookup
   (wpAny_getItem_list_neg (Q:=fun r s'=>r=w/\EP X pins σ Q r s') pl.isList (by lia) (by rw[Bem]<;>lia) (by lia) (by rw[hj];simpa using ew) ⟨rfl,fin⟩) hs
theorem ix_tup:IxR X (Bbt X.K):=by
 intro value slice pins s σ H x y v u Q I rx ry h hs
 obtain⟨p,xs,i,z,rfl,rfl,hq,he,q⟩:=h
 cases rx
 obtain⟨t,rfl⟩:=ry
 obtain⟨its,r,pl,hz⟩:=I.tuple hq
 obtain⟨j,h1,h2,h3,h4,h5⟩:=Oi he
 obtain⟨w,ew,rw'⟩:=r.get h2
 have hl:=r.length
 have hn:=Nt
 have fin:EP X pins σ Q w s:=⟨z,H,I,rw',q⟩
 exact subscriptTail_builtinR (x:=w) pl.typeIs slot_tuple_getitem.lookup
  (getItem_tuple (j:=j) (Q:=fun r s'=>r=w/\EP X pins σ Q r s') pl (by lia) (by lia) (by rw[Bem,<- hl];exact h1) (by simpa using ew) ⟨rfl,fin⟩) hs
theorem Atq:IxR X Bbs:=by
 intro value slice pins s σ H x y v u Q I rx ry h hs
 obtain⟨z,i,c,rfl,rfl,hz,he,q⟩:=h
 obtain⟨t,rfl⟩:=rx
 obtain⟨t',rfl⟩:=ry
 obtain⟨j,h1,h2,h3,h4,h5⟩:=Oi he
 have hl:z.cps.toList.length=z.length:=by simp[Str.length]
 rw[hl] at h1 h4 h5
 have hn:=Nt
 exact tail_any (Bhb s z t) slot_str_getitem.lookup (getItem_str (c:=c) (by
  have e1:decide (i < -(2 ^ 63:Int))=false:=Be4 (by lia)
  have e2:decide (i ≥ 2 ^ 63)=false:=Be4 (by lia)
  rw[e1,e2,Bool.or_false]) (by rw[h1];simpa using h2) ⟨.str ⟨#[c]⟩,H,I.tok _,⟨_,rfl⟩,q⟩) hs
def rIx (K:W.Frag):R2:=fun x y H Q=>Bbr K x y H Q\/Bbt K x y H Q\/Bbs x y H Q
theorem Atp:IxR X (rIx X.K):=ix_list.or (ix_tup.or Atq)
theorem Zf (its:List Value) (n j:Nat) (u:Value):Obj.mapSeq (·.setIfInBounds j u) { cls:=.type "list",data:=.seq its.toArray n }={ cls:=.type "list",data:=.seq (its.set j u).toArray n }:=by
 simp[Obj.mapSeq]
theorem Inv.lst {pins:List (Addr×Obj)}{σ:St}{H:Hp}{s:Shared}{p:Addr}{xs:List V} (I:Inv X pins σ H s) (h:H p=some (.lst xs)) :
  ∃ (its:List Value) (n:Nat),Vals xs its/\s.heap.get? p=some { cls:=.type "list",data:=.seq its.toArray n }/\xs.length<=sizeLine:=by
 obtain⟨z,its,n,r,e⟩:=I.hok p _ h
 exact⟨its,n,r,e,z⟩
theorem Inv.lstUpd {pins:List (Addr×Obj)}{σ:St}{H:Hp}{s:Shared}{p:Addr}{xs ys:List V}{its its':List Value}{n n':Nat}{f:Obj->Obj} (I:Inv X pins σ H s) (h:H p=some (.lst xs))
  (ho:s.heap.get? p=some { cls:=.type "list",data:=.seq its.toArray n }) (hf:f { cls:=.type "list",data:=.seq its.toArray n }={ cls:=.type "list",data:=.seq its'.toArray n' }) (r:Vals ys its') (hz:ys.length<=sizeLine) (t:Nat) :
  Inv X pins σ (upd H p (.lst ys)) { s with heap:=s.heap.update p f,toks:=t }:=by
 have e:(s.heap.update p f).get? p=some { cls:=.type "list",data:=.seq its'.toArray n' }:=by
  rw[Heap.get?_update_self f ho (by rw[hf]<;>rfl),hf]
 refine I.write (x:=p) (e:=p) (by rw[h];trivial) (.inl rfl) (fun b u hb q=>(Bfj _ _ (Bgj hb)).trans q) ⟨_,e⟩ ?_
 exact⟨hz,its',n',r,e⟩
def Bau:V->V->V->Hp->(Hp->Prop)->Prop:=fun o i v H Q=>∃ p xs k j,o=.ref p/\i=.int k/\H p=some (.lst xs)/\ixN xs.length k=some j/\Q (upd H p (.lst (xs.set j v)))
theorem Ah4:Axz X Bau:=by
 intro pins s σ H o i v ov iv u Q I ro ri rv h
 obtain⟨p,xs,k,j,rfl,rfl,hp,hj,q⟩:=h
 cases ro
 obtain⟨t,rfl⟩:=ri
 obtain⟨its,n,r,ho,hz⟩:=I.lst hp
 obtain⟨h1,h2,h3,h4⟩:=Aba hj
 have hl:=r.length
 have hn:=Nt
 have I':Inv X pins σ (upd H p (.lst (xs.set j v))) { s with heap:=s.heap.update p (Obj.mapSeq (·.setIfInBounds j u)) } :=
  I.lstUpd hp ho (Zf its n j u) (r.set rv j) (by rw[List.length_set];exact hz) s.toks
 by_cases h0:0<=k
 ·have hk:k.toNat=j:=by
   rw[seqIndex_of h0 h4] at h1
   exact Bfg h1
  exact W.ki_setAt ho h0 (by lia) (by rw[Bem,<- hl];exact h4) (by rw[hk];exact⟨_,I',q⟩)
 ·have hk:(k+(its.toArray.size:Int)).toNat=j:=by
   rw[seqIndex_neg (by lia) h3] at h1
   rw[Bem,<- hl]
   exact Bfg h1
  exact W.ki_setBack ho (by lia) (by rw[Bem,<- hl];exact h3) (by lia) (by rw[hk];exact⟨_,I',q⟩)
theorem T8 (lo hi:Option Int) (n:Nat):(sliceBounds lo hi none n).1=((HT.sIx n 0 lo:Nat):Int)/\(sliceBounds lo hi none n).2.1=((HT.sIx n n hi:Nat):Int)/\(sliceBounds lo hi none n).2.2=1:=by
 refine⟨?_,?_,rfl⟩
 ·cases lo with
  |none=>simp[sliceBounds,HT.sIx]
  |some i =>
   simp only[sliceBounds,HT.sIx,Option.getD_none,show (1:Int) > 0 by decide,Bha]
   by_cases h:i < 0
   ·simp only[h,Bha]<;>lia
   ·simp only[h,Bgm]<;>lia
 ·cases hi with
  |none=>simp[sliceBounds,HT.sIx]
  |some i =>
   simp only[sliceBounds,HT.sIx,Option.getD_none,show (1:Int) > 0 by decide,Bha]
   by_cases h:i < 0
   ·simp only[h,Bha]<;>lia
   ·simp only[h,Bgm]<;>lia
theorem Pj (its:List Value) (lo hi:Option Int):slicePick its.toArray lo hi none=((its.drop (HT.sIx its.length 0 lo)).take (HT.sIx its.length its.length hi - HT.sIx its.length 0 lo)).toArray:=by
 obtain⟨h1,h2,h3⟩:=T8 lo hi its.toArray.size
 unfold slicePick
 rw[h1,h2,h3]
 simp only[sliceRange_one,pick_run,Bem]<;>rfl
def Bbu (K:W.Frag):V->Option Int->Option Int->Hp->VK->Prop:=fun x lo hi H Q=>∃ a xs,x=.ref a/\SqL K H a xs/\∀ p,H p=none->Q (.ref p) (upd H p (.lst (Ai3 xs lo hi)))
theorem Aqd:SlR X (Bbu X.K):=by
 intro pins s σ H x v vl vu lo hi sl Q I rx hs pl pu h
 obtain⟨a,xs,rfl,hx,q⟩:=h
 cases rx
 obtain⟨its,r,ht,hz⟩:=I.list hx
 have hlen:=r.length
 refine⟨"list",_,slot_list_getitem.lookup,ht.isList.typeIs,?_⟩
 refine wpAny_getItem_list_slice ht.isList hs pl pu .none (by simp) ?_ (by rw[Bem]<;>lia)
 rw[Pj,<- hlen]
 refine⟨.ref s.heap.objs.size,_,I.laid (t':=s.toks) (o:=.lst (Ai3 xs lo hi)) (fun b ob q=>Bec _ q) (Bej _) ?_,rfl,q _ (I.hok.fresh (Bej _))⟩
 exact⟨Bez (Lg xs lo hi) hz,_,0,(r.drop (HT.sIx xs.length 0 lo)).take (HT.sIx xs.length xs.length hi - HT.sIx xs.length 0 lo),Beq _ rfl⟩
theorem Oj:Z3 X (.type "tuple") (fun xs H Q=>∃ p ys,xs=[.ref p]/\((SqL X.K H p ys/\∀ l,H l=none->Q (.ref l) (upd H l (.tup ys)))\/(SqT X.K H p ys/\Q (.ref p) H))):=by
 intro pins s σ H xs us Q I r h
 obtain⟨p,ys,rfl,h⟩:=h
 obtain⟨u,rfl,rx⟩:=Gz r
 cases rx
 rcases h with ⟨hq,q⟩|⟨hq,q⟩
 ·obtain⟨its,r',pl,hz⟩:=I.list hq
  have hlen:=r'.length
  refine call_tuple_list pl.isList (fun h' kp=>?_) (by simp only[Bem]<;>lia)
  have I1:Inv X pins σ H { s with heap:=h' }:=I.kept (t':=s.toks) kp
  have I2:Inv X pins σ (upd H h'.objs.size (.tup ys)) { s with heap:=h'.push { cls:=.type "tuple",data:=.seq its.toArray } } :=
   I1.laid (t':=s.toks) (fun b o e=>Bec _ e) (Bej _) (show ObjOk X.prog X.w X.K _ _ _ (.tup ys) from ⟨hz,its,r',IsTup.new _ _⟩)
  exact⟨.ref h'.objs.size,_,I2,rfl,q _ (I1.hok.fresh (Bej _))⟩
 ·obtain⟨its,r',pl,hz⟩:=I.tuple hq
  exact call_tuple_same pl ⟨.ref p,H,I,rfl,q⟩
def tyV (K:W.Frag) (T:String) (x:V) (H:Hp):Prop:=match x with
 |.str _=>T="str"
 |.int _=>T="int"
 |.ref p=>(T="list"/\∃ xs,SqL K H p xs)\/(T="tuple"/\∃ o,K.lookup p=some o/\o.cls=.type "tuple"/\o.dict=none) \/
   (T="dict"/\((∃ kvs,H p=some (.dK kvs))\/∃ kvs,H p=some (.dT kvs)))\/(T="set"/\∃ S n,H p=some (.set S n))
 |_=>False
theorem Ym {pins:List (Addr×Obj)}{σ:St}{H:Hp}{s:Shared}{T:String}{x:V}{v:Value} (I:Inv X pins σ H s) (r:RelV x v) (ty:tyV X.K T x H) :
  s.TypeIs v T/\∀ a,v=.ref a->∃ ob,s.heap.get? a=some ob/\ob.dict=none:=by
 cases x with
 |str z =>
  obtain⟨t,rfl⟩:=r
  cases (show T="str" from ty)
  exact⟨Bhb s z t,fun _ e=>nomatch e⟩
 |int i =>
  obtain⟨t,rfl⟩:=r
  cases (show T="int" from ty)
  exact⟨typeIs_int s i t,fun _ e=>nomatch e⟩
 |ref p =>
  cases r
  rcases ty with ⟨rfl,xs,hq⟩|⟨rfl,o,hk,hc,hd⟩|⟨rfl,hk⟩|⟨rfl,S,n,hk⟩
  ·obtain⟨its,_,pl,_⟩:=I.list hq
   refine⟨pl.isList.typeIs,fun a e=>?_⟩
   cases e
   obtain⟨o,n,e,c,hd,_⟩:=pl
   exact⟨o,e,hd⟩
  ·refine⟨⟨o,I.kIn p o hk,hc⟩,fun a e=>?_⟩
   cases e
   exact⟨o,I.kIn _ o hk,hd⟩
  ·have z:∃ o,s.heap.get? p=some o/\o.ExactDict:=by
    rcases hk with ⟨kvs,hk⟩|⟨kvs,hk⟩
    ·obtain⟨_,_,_,_,o,_,_,e,ex,_⟩:=I.hok p _ hk
     exact⟨o,e,ex⟩
    ·obtain⟨_,_,_,_,o,_,_,e,ex,_⟩:=I.hok p _ hk
     exact⟨o,e,ex⟩
   obtain⟨o,e,ex⟩:=z
   refine⟨⟨o,e,ex.1⟩,fun a e2=>?_⟩
   cases e2
   exact⟨o,e,ex.2.1⟩
  ·obtain⟨o,_,_,_,e,ex,_⟩:=I.hok p _ hk
   refine⟨⟨o,e,ex.1⟩,fun a e2=>?_⟩
   cases e2
   exact⟨o,e,ex.2.1⟩
 |_=>exact False.elim ty
noncomputable def tBM (K:W.Frag) (T:String) (r:V->List V->Hp->VK->Prop) (to:TE) (t:TA):TE:=fun σ H Q=>to σ H fun x H1=>tyV K T x H1/\t σ H1 fun xs H2=>r x xs H2 Q
variable {o e:Expr}{es:List Expr}{to:TE}{t:TA}{name:Str}{apos cpos:Pos}{T id:String}{r:V->List V->Hp->VK->Prop}
theorem Bah (pa:PlainAttrs T) (slot:Slot T name id) (hty:typeOf (.builtin id)=pure (.type "method_descriptor")) (hm:MtR X id r) (ho:PE X o to) (ha:PA X (e::es) t)
  (hbase:attributeBase o name X.env (eval o X.env)=eval o X.env:=by rfl)
  (hfew:((backTo cpos (starEach (e::es) X.env)).all (fun x=>!x.1)&&(backToKw cpos (keywordEach [] X.env)).all (fun x=>x.1.isSome)
   &&decide ((e::es).length+([]:List Keyword).length+(if ([]:List Keyword).isEmpty then 0 else 1) < 30))=true:=by rfl)
  (hline:(apos.endLine == cpos.line)=true:=by rfl) (hs:starEach (e::es) X.env=(false,eval e X.env)::starEach es X.env:=by rfl) (hplain:(backTo cpos (starEach es X.env)).any (·.1)=false:=by rfl) :
  PE X (.Call (.Attribute o name apos) (e::es) [] cpos) (tBM X.K T r to t):=by
 intro pins s σ H Q I h
 refine Bg2 hbase hfew hline rfl (thn (ho pins s σ H _ I h) fun v s1 ⟨x,H1,I1,r1,ty,q1⟩=>?_)
 obtain⟨h1,h2⟩:=Ym I1 r1 ty
 refine⟨T,id,pa,slot,hty,h1,h2,?_⟩
 have hA:=ha cpos pins s1 σ H1 _ I1 q1
 rw[hs] at hA ⊢
 refine Bg3 (by show (false||(backTo cpos (starEach es X.env)).any (·.1))=false;rw[hplain]<;>rfl) (Calls.evalArgs_plain ?_)
 exact thn hA fun us s2 ⟨vs,H2,I2,r2,q2⟩=>hm pins s2 σ H2 x vs v us Q I2 r1 r2 q2
end
def MtM (X:Cx) (id:String) (r:V->List V->Hp->VK->Prop):Prop :=
 ∀ (pins:List (Addr×Obj)) (s:Shared) (σ:St) (H:Hp) (x:V) (xs:List V) (v:Value) (us:List Value) (Q:VK),Inv X pins σ H s->RelV x v->Vals xs us->r x xs H Q ->
  wpAny (model X.prog X.w) X.A (call (.builtin id) (v::us)) (EP X pins σ Q) X.xe s
theorem Vals.one:∀ {x:V}{us:List Value},Vals [x] us->∃ u,us=[u]/\RelV x u
 |_,_,.cons r .nil=>⟨_,rfl,r⟩
theorem Vals.reverse {xs:List V}{us:List Value} (h:Vals xs us):Vals xs.reverse us.reverse:=by
 induction h with
 |nil=>exact .nil
 |cons r t ih=>rw[Bhc,Bhc];exact Vals.append ih (.cons r .nil)
section
variable {X:Cx}{pins:List (Addr×Obj)}{σ:St}{H:Hp}{s:Shared}{l b:Addr}{xs ys zs:List V}
theorem Inv.lset {its its':List Value}{n:Nat}{f:Array Value->Array Value}{t':Nat} (I:Inv X pins σ H s) (hH:H l=some (.lst xs))
  (e:s.heap.get? l=some { cls:=.type "list",data:=.seq its.toArray n }) (hf:f its.toArray=its'.toArray) (hv:Vals ys its') (hz:ys.length<=sizeLine) :
  Inv X pins σ (upd H l (.lst ys)) { s with heap:=s.heap.update l (Obj.mapSeq f),toks:=t' }:=by
 have q:=PySem.IsL.update e f
 rw[hf] at q
 refine I.write (x:=l) (e:=l) (by rw[hH];exact trivial) (.inl rfl) (fun b' u hb hu=>(Bfj s.heap (Obj.mapSeq f) (Bgj hb)).trans hu) ⟨_,q⟩ ?_
 exact⟨hz,its',_,hv,q⟩
theorem Inv.lnew {its:List Value}{t':Nat} (I:Inv X pins σ H s) (hv:Vals ys its) (hz:ys.length<=sizeLine) :
  Inv X pins σ (upd H s.heap.objs.size (.lst ys)) { s with heap:=s.heap.push { cls:=.type "list",data:=.seq its.toArray },toks:=t' } :=
 I.laid (fun _ _ q=>Bec _ q) (Bej _) ⟨hz,its,0,hv,Beq _ rfl⟩
theorem Inv.fresh (I:Inv X pins σ H s):H s.heap.objs.size=none:=I.hok.fresh (Bej _)
inductive LstM (h:Heap) (l:Addr) (xs:List V):Prop where
 |mk (z:xs.length<=sizeLine) (its:List Value) (n:Nat) (r:Vals xs its) (q:xs.length=its.length) (e:h.get? l=some { cls:=.type "list",data:=.seq its.toArray n })
theorem Inv.lstM (I:Inv X pins σ H s) (hH:H l=some (.lst xs)):LstM s.heap l xs:=by
 obtain⟨z,its,n,r,e⟩:=I.hok l _ hH
 exact⟨z,its,n,r,r.length,e⟩
end
section
variable {X:Cx}
def Adp:V->List V->Hp->VK->Prop:=fun x vs H Q=>∃ l xs y,x=.ref l/\vs=[y]/\H l=some (.lst xs)/\xs.length < sizeLine/\Q .non (upd H l (.lst (xs++[y])))
theorem Ab5:MtM X "list.append" Adp:=by
 intro pins s σ H x vs v us Q I rx rv h
 obtain⟨l,xs,y,rfl,rfl,hH,hz,q⟩:=h
 cases rx
 obtain⟨u,rfl,ru⟩:=rv.one
 obtain⟨z,its,n,r,hl,e⟩:=I.lstM hH
 refine Bhh F.slot_list_append ⟨_,e,rfl⟩ F.entry_list_append (F.args_list_append_2 _ _) (PySem.list_append l its.toArray n u (by rw[Bem];lia)) ⟨e,?_⟩
 refine⟨.non,_,I.lset (its':=its++[u]) hH e (by simp) (r.append (.cons ru .nil)) ?_,rfl,q⟩
 rw[Bep,Bga]
 lia
end
section
variable {prog:Program}{w:World}{A:Around}{E:Value->Shared->Prop}{s:Shared}
set_option maxRecDepth 100000 in
end
section
variable {X:Cx}
end
end L2
namespace Att
open PySem PySem.W PySem.Calls PyProof.Rows
theorem Ly {P:Params}{h:Heap}:∀ (ns:List Int) (vs:List Value),WellAll P h vs (ns.map WData.int)->IntsAre vs ns:=by
 intro ns
 induction ns with
 |nil =>
  intro vs w
  rw[Bf9] at w
  cases w
  exact .nil
 |cons n ns ih =>
  intro vs w
  rw[Bee] at w
  cases w with
  |cons a b =>
   cases a
   exact .cons _ _ (ih _ b)
theorem Ad1 {l:OpenLaw}{n:Nat} (hn:l.most=some n) {P:Params}{h:Heap}{args:List WData}{vals:List Value}
  (hpre:l.row.toRowW.claim.pre args=true) (hwl:WellAll P h vals args) :
  ∃ a vs ns,vals=[Value.ref a]/\args=[WData.list (ns.map WData.int)]/\h.get? a=some { cls:=.type "list",data:=.seq vs.toArray }/\IntsAre vs ns/\ns.length<=n:=by
 have hsh:WShape.hasAll [] args [.list .int]=true:=(pre_splitW hpre).1
 have hc:l.pre.holds [] { args:=args }=true:=(pre_splitW hpre).2
 obtain⟨d,r,rfl,h1,h2⟩:=hasAllW_cons hsh
 obtain rfl:=hasAllW_nil h2
 obtain⟨xs,rfl,h3⟩:=hasW_list h1
 obtain⟨ns,rfl⟩:=items_int h3
 have hlen:ns.length<=n:=by
  unfold OpenLaw.pre at hc
  have h4:(WTm.not (.lt (.lit (.int (n:Int))) (.len (.arg 0)))).holds [] { args:=[.list (ns.map .int)] }=true:=by
   have h4:=(holds_andW hc).1
   rw[hn] at h4
   exact h4
  have h5:=condW_of h4 (w_not (w_lt w_lit (w_len_list (w_arg rfl))))
  rw[Bel] at h5
  refine Nat.le_of_not_lt fun q=>?_
  have q':(n:Int) < ((ns.length:Nat):Int):=by lia
  first
   |(rw[Bf0 q'] at h5;exact absurd h5 (by decide))
   |(simp at h5;lia)
 cases hwl with
 |cons w1 w2 =>
  cases w2
  cases w1 with
  |list ho hall=>exact⟨_,_,ns,rfl,rfl,ho,Ly ns _ hall,hlen⟩
theorem Ac5 (l:OpenLaw) (args:List WData):l.row.toRowW.claim.post args (.bool true) args=true :=
 postW_of (r:=l.row.toRowW) (X:=(true == true))
  (show WShape.has [] (.bool true) .bool=true by first|rfl|decide|simp[WShape.has,WShape.arms,WShape.armsAll])
  (show (WTm.eq .res (.lit (.bool true))).value [] { args:=args,res:=some (.bool true),after:=args }=some (.bool (true == true)) from w_eq_bool (w_res rfl) w_lit) rfl
theorem attach_call {l:OpenLaw}{n:Nat}{q:Program}{loose:List Str}{XP:(Str->Option Value)->Heap->Prop}{YP:World->Heap->Prop}{d:DefRec}
  (hn:l.most=some n) (hdf:d.params.defaults=[])
  (call:∀ (w:World) (s₀ s₁:Shared) (mg mb:Str->Option Value) (fa:Addr) (o:Obj) (pm cd doc:Value) (a:Addr) (vs:List Value) (ns:List Int),
   Ground q loose [] XP w s₀ mg mb s₁.heap->YP w s₁.heap ->
   s₁.heap.get? fa=some o->o.data=.func (docDef d.name d.params d.body d.scope pm cd doc)->s₁.heap.CodeRec cd d.name->mg d.name=some (.ref fa) ->
   s₁.heap.get? a=some { cls:=.type "list",data:=.seq vs.toArray }->IntsAre vs ns->ns.length<=n->s₁.gens=#[] ->
   codeAny (model l.prog w) callerA (.call (.ref fa) ⟨[.ref a],[]⟩) (fun r s'=>r=.ok (.ret (.bool true))/\OldK s₁.heap s'.heap/\s'.os=s₁.os/\AllBare s'.gens) s₁) :
  WalkO q loose XP YP l.row.toRowW d [] (fun f vs=>PySem.call f vs):=by
 intro w s₀ s₁ mg mb G Y fa o pm cd doc dV kV ho hd hcd hD hmg hg args vals as hpre hlay hrd hwl hlo
 obtain rfl:dV=.none:=Dflts.none hD hdf
 obtain rfl:kV=.none:=Dflts.noKw hD
 obtain⟨a,vs,ns,rfl,rfl,hobj,hints,hlen⟩:=Ad1 hn hpre hwl
 refine enter_call (codeAny_mono (call w s₀ s₁ mg mb fa o pm cd doc a vs ns G Y ho (fd_plain hd) hcd hmg hobj hints hlen hg) fun r s' hq=>?_)
 obtain⟨rfl,h2,h3,h4⟩:=hq
 exact⟨.inl ⟨.bool true,.bool true,[],rfl,fun _=>rfl,.bool true,Ac5 l _,fun _=>⟨List.Pairwise.nil,fun _ hm=>(nomatch hm)⟩⟩,h2,h3,h4⟩
section
variable {prog:Program}{w:World}{A:Around}{E:Value->Shared->Prop}{s:Shared}{K:Frag}
end
end Att
namespace L2
open PySem PySem.Spec PyProof.Rows
theorem Ul:∀ {vs:List Value}{ns:List Int},IntsAre vs ns->Vals (ns.map V.int) vs
 |_,_,.nil=>.nil
 |_,_,.cons n t h=>.cons ⟨t,rfl⟩ (Ul h)
def Bb2 (H:Hp):Prop:=∀ b,H b=none\/∃ o xs,H b=some (.frz o (.lst xs))
noncomputable def Df (s:Stmt):Arguments:=match s with
 |.FunctionDef _ a _ _ _ _ _ _ _ _=>a
 |_=>{ posonlyargs:=[],args:=[],vararg:=none,kwonlyargs:=[],kw_defaults:=[],kwarg:=none,defaults:=[] }
noncomputable def By (s:Stmt):List Stmt:=match s with
 |.FunctionDef _ _ b _ _ _ _ _ _ _=>b
 |_=>[]
noncomputable def As (s:Stmt):Scope:=match s with
 |.FunctionDef _ _ _ _ _ _ sc _ _ _=>sc
 |_=>{ kind:=.function,names:=[],isGenerator:=false,isCoroutine:=false }
abbrev CX0:CXT:=fun _ _ _ _ _ _=>False
abbrev E0:XK:=fun _ _ _=>False
theorem Acy {X:Cx}:Pw CX0 X E0:=fun _ _ _ _ _ _ _ h=>h.elim
structure Fun (K:W.Frag) (x qual:Str) (st:Stmt) (f:Addr) (fd:FuncData):Prop where
 ex:∃ (oc:Value) (od:Option Addr) (kV doc pm:Value) (an:Option Addr) (cdv ct:Value) (osl:Array (Option Value)),
  fd=W.fnOf x qual (Df st) (By st) (As st) .none kV doc pm an cdv ct/\K.lookup f=some ⟨oc,od,.func fd,osl⟩/\W.codeIn K cdv qual=true
 kp:W.keepIn K (.ref f)=true
section
variable {P:Program}{w:World}{K:W.Frag}{mg:Str->Option Value}{base:Heap}
theorem Fun.ok {x qual:Str}{st:Stmt}{f:Addr}{fd:FuncData}{N ps:List Str}{k:Nat}{sp:Sp} (F:Fun K x qual st f fd) (S:FnScope N ps (As st)) (len:∀ vs H Q E,sp vs H Q E->vs.length=ps.length)
  (hbody:∀ (cdv:Value) (A:Around) (outer:List Env) (s:Shared) (H:Hp) (vs:List V) (Q:VK) (E:XK),Room k (A.deeper (envOfC qual (As st) s.heap.objs.size f cdv))->sp vs H Q E ->
   ∃ t,PSs (Uo CX0 P w K mg base N qual (As st) f cdv A outer s H E).nox (By st) t/\t { nx:=fun _ H'=>Q .non H',rt:=Q } (Im N vs) H):FnOk P w K mg base CX0 (k+1) f fd ps sp:=by
 obtain⟨oc,od,kV,doc,pm,an,cdv,ct,osl,rfl,lk,hcd⟩:=F.ex
 refine Atm lk hcd S len fun A outer s H vs Q E hr hsp=>?_
 obtain⟨t,h,q⟩:=hbody cdv A outer s H vs Q E hr hsp
 exact⟨t,h.nox,q⟩
theorem Fun.binds {x qual:Str}{st:Stmt}{f:Addr}{fd:FuncData}{ps:List Str} (F:Fun K x qual st f fd)
  (h:∀ (kV doc pm:Value) (an:Option Addr) (cdv ct:Value) (us:List Value),us.length=ps.length->bindArgs (W.fnOf x qual (Df st) (By st) (As st) .none kV doc pm an cdv ct) ⟨us,[]⟩=pure (ps.zip us)):Binds K fd ps []:=by
 obtain⟨oc,od,kV,doc,pm,an,cdv,ct,osl,rfl,lk,hcd⟩:=F.ex
 exact .all (h kV doc pm an cdv ct)
theorem Jp {x qual:Str}{st:Stmt}{f:Addr}{oc:Value}{od an:Option Addr}{osl:Array (Option Value)}{kV doc pm cdv ct:Value} (l:K.lookup f=some ⟨oc,od,.func (W.fnOf x qual (Df st) (By st) (As st) .none kV doc pm an cdv ct),osl⟩)
  (c:W.codeIn K cdv qual=true) (k:W.keepIn K (.ref f)=true):Fun K x qual st f (W.fnOf x qual (Df st) (By st) (As st) .none kV doc pm an cdv ct):=⟨⟨oc,od,kV,doc,pm,an,cdv,ct,osl,rfl,l,c⟩,k⟩
end
section
variable {X:Cx}
end
theorem Azu {A B:Prop} (h:B):if false=true then A else B:=by
 rw[Beg Bew]
 exact h
theorem Azv {A B:Prop} (h:A):if true=true then A else B:=by
 rw[Bef rfl]
 exact h
def Same (H H':Hp):Prop:=∀ b o,H b=some o->H' b=some o
theorem Same.refl (H:Hp):Same H H:=fun _ _ h=>h
theorem Same.trans {H H1 H2:Hp} (a:Same H H1) (b:Same H1 H2):Same H H2:=fun c o h=>b c o (a c o h)
theorem Same.free {H H':Hp} (e:Same H H') {l:Addr} (h:H' l=Option.none):H l=Option.none:=by
 cases q:H l with
 |none=>rfl
 |some o =>
  rw[e l o q] at h
  cases h
end L2
end S_LayL
section S_ML1
namespace L2
namespace ML
open PySem PySem.Spec PyProof.Rows
theorem Ak {z:α}{P:Prop} (e:none=some z):P:=nomatch e
theorem Ce {P:Prop} (e:false=true):P:=nomatch e
structure Lam where
 qual:Str
 args:Arguments
 body:Expr
 scope:Scope
inductive D where
 |non|bl (b:Bool)|int (i:Int)|str (x:Str)|tup (ds:List D)|lst (ds:List D)|ref (n:Nat)|kl (ds:List D)|dic (ks vs:List D)|fn (i:Nat) (l:Lam)
inductive MObj where
 |lst (ds:List D)
 |dct (ks vs:List D)
abbrev MH:=List MObj
abbrev Bg:=List (Option D)
mutual
def pyD:D->PyData
 |.non=>.none|.bl b=>.bool b|.int i=>.int i|.str x=>.str x
 |.tup ds=>.tuple (Cf ds)|.lst ds=>.list (Cf ds)|.kl ds=>.list (Cf ds)|.ref _=>.none|.dic _ _=>.none|.fn _ _=>.none
def Cf:List D->List PyData
 |[]=>[]
 |d::ds=>pyD d::Cf ds
end
def KL (K:W.Frag) (H:Hp) (a:Addr) (xs:List V):Prop:=(∃ o,H a=some (.frz o (.lst xs))) \/
 ∃ (o:Obj) (its:Array Value) (n:Nat),K.lookup a=some o/\o.cls=.type "list"/\o.dict=none/\o.data=.seq its n/\its.size<=sizeLine/\Vals xs its.toList
theorem KL.sq {K:W.Frag}{H:Hp}{a:Addr}{xs:List V} (h:KL K H a xs):SqL K H a xs:=h.elim (fun z=>.inl (.inr z)) .inr
noncomputable def Lk:HO->Prop
 |.lst _=>True
 |.dT _=>True
 |_=>False
noncomputable def Kpt:HO->Prop
 |.tup _=>True
 |.frz _ _=>True
 |_=>False
def Axu (o:Obj) (l:Lam) (c:Addr):Prop:=∃ doc pm ctv:Value,o=W.kdv_obj "<lambda>" l.qual l.args (.expr l.body) l.scope [] .none doc pm c ctv
def FnAt (H:Hp) (a:Addr) (l:Lam):Prop:=∃ o u c oc u',H a=some (.frz o u)/\Axu o l c/\H c=some (.frz oc u')/\Z4 oc l.qual
def FnK (K:W.Frag) (H:Hp) (a:Addr) (i:Nat) (l:Lam):Prop:=(i < 1000/\FnAt H a l)\/(1000<=i/\W.nsIn K mainGlobals l.qual=some (some (.ref a)))
mutual
inductive Rep (K:W.Frag) (H:Hp) (μ:List Addr) (B:Addr->Prop):D->V->Prop where
 |non:Rep K H μ B .non .non
 |bl (b:Bool):Rep K H μ B (.bl b) (.bl b)
 |int (i:Int):Rep K H μ B (.int i) (.int i)
 |str (x:Str):PyData.strOk x=true->Rep K H μ B (.str x) (.str x)
 |tup {ds:List D}{a:Addr}{xs:List V}:SqT K H a xs->Reps K H μ B ds xs->Rep K H μ B (.tup ds) (.ref a)
 |lst {ds:List D}{a:Addr}{xs:List V}:Rd H a (.lst xs)->¬ B a->Reps K H μ B ds xs->Rep K H μ B (.lst ds) (.ref a)
 |ref {n:Nat}{a:Addr}:μ[n]?=some a->Rep K H μ B (.ref n) (.ref a)
 |kl {ds:List D}{a:Addr}{xs:List V}:KL K H a xs->Reps K H μ B ds xs->Rep K H μ B (.kl ds) (.ref a)
 |dic {ks vs:List D}{a:Addr}{kvs:List (PyData×V)}:Rd H a (.dT kvs)->¬ B a->Cf ks=kvs.map (·.1)->Reps K H μ B vs (kvs.map (·.2))->Rep K H μ B (.dic ks vs) (.ref a)
 |fn {i:Nat}{l:Lam}{a:Addr}:FnK K H a i l->Rep K H μ B (.fn i l) (.ref a)
inductive Reps (K:W.Frag) (H:Hp) (μ:List Addr) (B:Addr->Prop):List D->List V->Prop where
 |nil:Reps K H μ B [] []
 |cons {d:D}{v:V}{ds:List D}{vs:List V}:Rep K H μ B d v->Reps K H μ B ds vs->Reps K H μ B (d::ds) (v::vs)
end
section
variable {K:W.Frag}{H H':Hp}{μ μ':List Addr}{B B':Addr->Prop}
theorem SqT.up (hk:∀ a o,Kpt o->H a=some o->H' a=some o) (h:SqT K H a xs):SqT K H' a xs:=by
 rcases h with (h|⟨o,h⟩)|h
 ·exact .inl (.inl (hk _ _ trivial h))
 ·exact .inl (.inr ⟨o,hk _ _ trivial h⟩)
 ·exact .inr h
theorem FnAt.up (hk:∀ a o,Kpt o->H a=some o->H' a=some o) {l:Lam} (h:FnAt H a l):FnAt H' a l :=
 let ⟨o,u,c,oc,u',h1,h2,h3,h4⟩:=h;⟨o,u,c,oc,u',hk _ _ trivial h1,h2,hk _ _ trivial h3,h4⟩
theorem FnK.up (hk:∀ a o,Kpt o->H a=some o->H' a=some o) {l:Lam} (h:FnK K H a i l):FnK K H' a i l:=h.imp (fun⟨h1,h2⟩=>⟨h1,h2.up hk⟩) id
theorem KL.up (hk:∀ a o,Kpt o->H a=some o->H' a=some o) (h:KL K H a xs):KL K H' a xs:=by
 rcases h with ⟨o,h⟩|h
 ·exact .inl ⟨o,hk _ _ trivial h⟩
 ·exact .inr h
mutual
theorem Rep.up (hk:∀ a o,Kpt o->H a=some o->H' a=some o) (hl:∀ a u,Lk u->Rd H a u->¬ B a->Rd H' a u/\¬ B' a) (hm:∀ (n:Nat) (a:Addr),μ[n]?=some a->μ'[n]?=some a)
  {d:D}{v:V} (r:Rep K H μ B d v):Rep K H' μ' B' d v:=by
 cases r with
 |non=>exact .non
 |bl b=>exact .bl b
 |int b=>exact .int b
 |str b h=>exact .str b h
 |tup h r=>exact .tup (SqT.up hk h) (Reps.up hk hl hm r)
 |lst h b r=>have z:=hl _ (.lst _) trivial h b;exact .lst z.1 z.2 (Reps.up hk hl hm r)
 |ref h=>exact .ref (hm _ _ h)
 |kl h r=>exact .kl (KL.up hk h) (Reps.up hk hl hm r)
 |dic h b e r=>have z:=hl _ (.dT _) trivial h b;exact .dic z.1 z.2 e (Reps.up hk hl hm r)
 |fn h=>exact .fn (h.up hk)
theorem Reps.up (hk:∀ a o,Kpt o->H a=some o->H' a=some o) (hl:∀ a u,Lk u->Rd H a u->¬ B a->Rd H' a u/\¬ B' a) (hm:∀ (n:Nat) (a:Addr),μ[n]?=some a->μ'[n]?=some a)
  {ds:List D}{vs:List V} (r:Reps K H μ B ds vs):Reps K H' μ' B' ds vs:=by
 cases r with
 |nil=>exact .nil
 |cons h r=>exact .cons (Rep.up hk hl hm h) (Reps.up hk hl hm r)
end
theorem Same.rd (e:Same H H') (h:Rd H a u):Rd H' a u:=by
 rcases h with h|⟨o,h⟩
 ·exact .inl (e _ _ h)
 ·exact .inr ⟨o,e _ _ h⟩
theorem Rep.same (e:Same H H') {d:D}{v:V} (h:Rep K H μ B d v):Rep K H' μ B d v:=h.up (fun _ _ _ h=>e _ _ h) (fun _ _ _ h b=>⟨Same.rd e h,b⟩) fun _ _ h=>h
theorem Reps.same (e:Same H H') {d:List D}{v:List V} (h:Reps K H μ B d v):Reps K H' μ B d v:=h.up (fun _ _ _ h=>e _ _ h) (fun _ _ _ h b=>⟨Same.rd e h,b⟩) fun _ _ h=>h
theorem Reps.length:∀ {ds:List D}{vs:List V},Reps K H μ B ds vs->ds.length=vs.length
 |_,_,.nil=>rfl
 |_,_,.cons _ r=>by simp[Reps.length r]
theorem Reps.get:∀ {ds:List D}{vs:List V}{i:Nat}{d:D},Reps K H μ B ds vs->ds[i]?=some d->∃ v,vs[i]?=some v/\Rep K H μ B d v
 |_,_,_,_,.nil,e=>by simp at e
 |_,_,0,_,.cons h _,e=>by simp at e;subst e;exact⟨_,rfl,h⟩
 |_,_,i+1,d,.cons _ r,e=>by
  obtain⟨v,h1,h2⟩:=Reps.get (i:=i) (d:=d) r (by simpa using e)
  exact⟨v,by simpa using h1,h2⟩
theorem Reps.append:∀ {ds es:List D}{vs ws:List V},Reps K H μ B ds vs->Reps K H μ B es ws->Reps K H μ B (ds++es) (vs++ws)
 |_,_,_,_,.nil,s=>s
 |_,_,_,_,.cons h r,s=>.cons h (Reps.append r s)
theorem Reps.take:∀ {ds:List D}{vs:List V} (n:Nat),Reps K H μ B ds vs->Reps K H μ B (ds.take n) (vs.take n)
 |_,_,0,_=>.nil
 |_,_,_+1,.nil=>.nil
 |_,_,n+1,.cons h r=>.cons h (Reps.take n r)
theorem Reps.drop:∀ {ds:List D}{vs:List V} (n:Nat),Reps K H μ B ds vs->Reps K H μ B (ds.drop n) (vs.drop n)
 |_,_,0,h=>h
 |_,_,_+1,.nil=>.nil
 |_,_,n+1,.cons h r=>Reps.drop n r
theorem Reps.set {d:D} (h:Rep K H μ B d v):∀ {ds:List D}{vs:List V} (i:Nat),Reps K H μ B ds vs->Reps K H μ B (ds.set i d) (vs.set i v)
 |_,_,_,.nil=>.nil
 |_,_,0,.cons _ r=>.cons h r
 |_,_,i+1,.cons q r=>.cons q (Reps.set h i r)
theorem Reps.reverse:∀ {ds:List D}{vs:List V},Reps K H μ B ds vs->Reps K H μ B ds.reverse vs.reverse
 |_,_,.nil=>.nil
 |_,_,.cons h r=>by
  rw[Bhc,Bhc]
  exact (Reps.reverse r).append (.cons h .nil)
end
noncomputable def OR (K:W.Frag) (H:Hp) (μ:List Addr) (a:Addr):MObj->Prop
 |.lst ds=>∃ xs,H a=some (.lst xs)/\Reps K H μ (·∈μ) ds xs
 |.dct ks vs=>∃ kvs,H a=some (.dT kvs)/\Cf ks=kvs.map (·.1)/\Reps K H μ (·∈μ) vs (kvs.map (·.2))
structure Sim (K:W.Frag) (H:Hp) (μ:List Addr) (m:MH):Prop where
 nd:μ.Nodup
 len:μ.length=m.length
 obj:∀ (n:Nat) (a:Addr) (o:MObj),μ[n]?=some a->m[n]?=some o->OR K H μ a o
structure Step (H:Hp) (μ:List Addr) (H':Hp) (μ':List Addr):Prop where
 pre:∃ l,μ'=μ++l/\∀ b∈l,H b=none
 keep:∀ b o,H b=some o->b∉μ->H' b=some o
structure EnvRep (K:W.Frag) (H:Hp) (μ:List Addr) (σ:St) (env:Bg):Prop where
 len:σ.length=env.length
 get:∀ (i:Nat) (d:D),env[i]?=some (some d)->∃ v,σ[i]?=some (some v)/\Rep K H μ (·∈μ) d v
section
variable {K:W.Frag}{H H' H'':Hp}{μ μ' μ'':List Addr}{m m':MH}
theorem Sim.at (S:Sim K H μ m) (h:a∈μ):∃ (n:Nat) (o:MObj),μ[n]?=some a/\m[n]?=some o/\OR K H μ a o:=by
 obtain⟨n,hn⟩:=Bf2 h
 have hl:n < m.length:=by rw[<- S.len];exact (List.getElem?_eq_some_iff.mp hn).1
 exact⟨n,m[n],hn,by simp[hl],S.obj n a _ hn (by simp[hl])⟩
theorem Sim.trk (S:Sim K H μ m) (h:a∈μ):∃ o,H a=some o/\Lk o:=by
 obtain⟨n,o,_,_,q⟩:=S.at h
 cases o with
 |lst ds=>obtain⟨xs,e,_⟩:=q;exact⟨_,e,trivial⟩
 |dct ks vs=>obtain⟨kvs,e,_⟩:=q;exact⟨_,e,trivial⟩
theorem Sim.nkpt (S:Sim K H μ m) (k:Kpt o) (h:H a=some o):a∉μ:=fun q=>by
 obtain⟨xs,e,l⟩:=S.trk q
 rw[e] at h
 cases h
 cases o<;>first|exact l|exact k
theorem Sim.nnone (S:Sim K H μ m) (h:H a=none):a∉μ:=fun q=>by
 obtain⟨xs,e,l⟩:=S.trk q
 rw[e] at h;cases h
theorem Step.refl:Step H μ H μ:=⟨⟨[],by simp,by simp⟩,fun _ _ h _=>h⟩
theorem Step.trans (a:Step H μ H' μ') (b:Step H' μ' H'' μ'') (hm:∀ c,H' c=none->H c=none):Step H μ H'' μ'':=by
 obtain⟨l,rfl,h1⟩:=a.pre
 obtain⟨l',rfl,h2⟩:=b.pre
 refine⟨⟨l++l',by simp,fun c hc=>?_⟩,fun c o e n=>?_⟩
 ·rcases List.mem_append.mp hc with z|z
  ·exact h1 c z
  ·exact hm c (h2 c z)
 ·refine b.keep c o (a.keep c o e n) fun z=>?_
  rcases List.mem_append.mp z with z|z
  ·exact n z
  ·rw[h1 c z] at e;cases e
theorem Step.none (S:Sim K H μ m) (S':Sim K H' μ' m') (a:Step H μ H' μ'):∀ c,H' c=none->H c=none:=fun c h=>by
 cases e:H c with
 |none=>rfl
 |some o =>
  by_cases q:c∈μ
  ·obtain⟨l,rfl,_⟩:=a.pre
   exact absurd (Bfd _ q) (S'.nnone h)
  ·rw[a.keep c o e q] at h;cases h
theorem Step.of_same (e:Same H H'):Step H μ H' μ:=⟨⟨[],by simp,by simp⟩,fun b o h _=>e b o h⟩
theorem Step.rd (s:Step H μ H' μ') (h:Rd H a u) (n:a∉μ):Rd H' a u:=by
 rcases h with h|⟨o,h⟩
 ·exact .inl (s.keep _ _ h n)
 ·exact .inr ⟨o,s.keep _ _ h n⟩
theorem Step.nin (s:Step H μ H' μ') (h:Rd H a u) (n:a∉μ):a∉μ':=by
 obtain⟨l,rfl,hn⟩:=s.pre
 intro z
 rcases List.mem_append.mp z with z|z
 ·exact n z
 ·have:=hn a z
  rcases h with h|⟨o,h⟩<;>rw[this] at h<;>cases h
theorem Step.ix (s:Step H μ H' μ') {n:Nat}{a:Addr} (h:μ[n]?=some a):μ'[n]?=some a:=by
 obtain⟨l,rfl,_⟩:=s.pre
 rw[Be2 (List.getElem?_eq_some_iff.mp h).1]
 exact h
theorem Rep.step (S:Sim K H μ m) (s:Step H μ H' μ') {d:D}{v:V} (h:Rep K H μ (·∈μ) d v):Rep K H' μ' (·∈μ') d v :=
 h.up (fun a o k q=>s.keep a o q (S.nkpt k q)) (fun _ _ _ q b=>⟨s.rd q b,s.nin q b⟩) fun _ _=>s.ix
theorem Reps.step (S:Sim K H μ m) (s:Step H μ H' μ') {d:List D}{v:List V} (h:Reps K H μ (·∈μ) d v):Reps K H' μ' (·∈μ') d v :=
 h.up (fun a o k q=>s.keep a o q (S.nkpt k q)) (fun _ _ _ q b=>⟨s.rd q b,s.nin q b⟩) fun _ _=>s.ix
theorem EnvRep.step (S:Sim K H μ m) (s:Step H μ H' μ') (h:EnvRep K H μ σ env):EnvRep K H' μ' σ env :=
 ⟨h.len,fun i d e=>let ⟨v,h1,h2⟩:=h.get i d e;⟨v,h1,h2.step S s⟩⟩
theorem Sim.same (S:Sim K H μ m) (e:Same H H'):Sim K H' μ m:=⟨S.nd,S.len,fun n a o h1 h2=>by
 have q:=S.obj n a o h1 h2
 cases o with
 |lst ds=>obtain⟨xs,q1,q2⟩:=q;exact⟨xs,e _ _ q1,q2.same e⟩
 |dct ks vs=>obtain⟨xs,q1,q2,q3⟩:=q;exact⟨xs,e _ _ q1,q2,q3.same e⟩⟩
theorem EnvRep.same (e:Same H H') {σ:St}{env:Bg} (h:EnvRep K H μ σ env):EnvRep K H' μ σ env :=
 ⟨h.len,fun i d q=>let ⟨v,h1,h2⟩:=h.get i d q;⟨v,h1,h2.same e⟩⟩
theorem EnvRep.set (h:EnvRep K H μ σ env) (i:Nat) {d:D} (r:Rep K H μ (·∈μ) d v):EnvRep K H μ (σ.set i (some v)) (env.set i (some d)):=by
 refine⟨by simpa using h.len,fun j d' e=>?_⟩
 by_cases q:j=i
 ·subst q
  have hj:j < env.length:=by
   have:=(List.getElem?_eq_some_iff.mp e).1
   simpa using this
  rw[Bfv hj] at e
  cases e
  exact⟨v,by rw[Bfv (by rw[h.len];exact hj)],r⟩
 ·rw[Bgd (Bgj q)] at e ⊢
  exact h.get j d' e
end
abbrev FE:=Bg->MH->Option D
abbrev FL:=Bg->MH->Option (List D)
abbrev FB:=Bg->MH->Option Bool
inductive tE (K:W.Frag) (f:FE) (σ:St) (H:Hp) (Q:VK):Prop
 |mk (env:Bg) (μ:List Addr) (m:MH) (d:D) (S:Sim K H μ m) (E:EnvRep K H μ σ env) (h:f env m=some d) (q:∀ v H',Same H H'->Rep K H' μ (·∈μ) d v->Q v H')
def nw (μ:List Addr) (a:Addr):Addr->Prop:=fun b=>b∈μ\/b=a
inductive tF (K:W.Frag) (f:FL) (σ:St) (H:Hp) (Q:VK):Prop
 |mk (env:Bg) (μ:List Addr) (m:MH) (ds:List D) (S:Sim K H μ m) (E:EnvRep K H μ σ env) (h:f env m=some ds) (q:∀ a xs H',Same H H'->H a=none->H' a=some (.lst xs)->Reps K H' μ (nw μ a) ds xs->Q (.ref a) H')
inductive tB' (K:W.Frag) (f:FB) (σ:St) (H:Hp) (Q:Bool->Hp->Prop):Prop
 |mk (env:Bg) (μ:List Addr) (m:MH) (b:Bool) (S:Sim K H μ m) (E:EnvRep K H μ σ env) (h:f env m=some b) (q:∀ H',Same H H'->Q b H')
inductive tL (K:W.Frag) (f:FL) (σ:St) (H:Hp) (Q:List V->Hp->Prop):Prop
 |mk (env:Bg) (μ:List Addr) (m:MH) (ds:List D) (S:Sim K H μ m) (E:EnvRep K H μ σ env) (h:f env m=some ds) (q:∀ vs H',Same H H'->Reps K H' μ (·∈μ) ds vs->Q vs H')
abbrev PD (X:Cx) (e:Expr) (f:FE):Prop:=PE X e (tE X.K f)
abbrev PF (X:Cx) (e:Expr) (f:FL):Prop:=PE X e (tF X.K f)
abbrev PB (X:Cx) (e:Expr) (f:FB):Prop:=PT X e (tB' X.K f)
abbrev PL (X:Cx) (es:List Expr) (f:FL):Prop:=PA X es (tL X.K f)
theorem Reps.fresh {K:W.Frag}{H:Hp}{μ:List Addr}{p:Addr}{o:HO}{ds:List D}{vs:List V} (r:Reps K H μ (·∈μ) ds vs) (hp:H p=none):Reps K (upd H p o) μ (nw μ p) ds vs:=by
 have s:Same H (upd H p o):=fun b u e=>by rw[A0 (Az e hp)];exact e
 refine r.up (fun _ _ _ h=>s _ _ h) (fun a u _ h b=>⟨Same.rd s h,fun z=>?_⟩) fun _ _ h=>h
 rcases z with z|z
 ·exact b z
 ·subst z
  rcases h with h|⟨o,h⟩
  ·exact nomatch (hp.symm.trans h)
  ·exact nomatch (hp.symm.trans h)
theorem Reps.unw {K:W.Frag}{H:Hp}{μ:List Addr}{p:Addr}{ds:List D}{vs:List V} (r:Reps K H μ (nw μ p) ds vs):Reps K H μ (·∈μ) ds vs :=
 r.up (fun _ _ _ h=>h) (fun _ _ _ h b=>⟨h,fun z=>b (.inl z)⟩) fun _ _ h=>h
theorem PE.imp {t t':TE} (h:PE X e t) (i:∀ σ H Q,t' σ H Q->t σ H Q):PE X e t':=fun pins s σ H Q I q=>h pins s σ H Q I (i σ H Q q)
theorem PT.imp {t t':TT} (h:PT X e t) (i:∀ σ H Q,t' σ H Q->t σ H Q):PT X e t':=fun pins s σ H Q I q=>h pins s σ H Q I (i σ H Q q)
theorem PA.imp {t t':TA} (h:PA X e t) (i:∀ σ H Q,t' σ H Q->t σ H Q):PA X e t':=fun pos pins s σ H Q I q=>h pos pins s σ H Q I (i σ H Q q)
inductive BS {α β:Type} (o:Option α) (f:α->Option β) (b:β):Prop where
 |mk (a:α) (h1:o=some a) (h2:f a=some b)
theorem bind_some {α β:Type}{o:Option α}{f:α->Option β}{b:β} (h:o.bind f=some b):BS o f b:=by
 cases o with
 |none=>cases h
 |some a=>exact⟨a,rfl,h⟩
section
variable {X:Cx}{a b c e:Expr}{es:List Expr}{pos:Pos}
theorem tE.bin {K:W.Frag}{f g:FE}{o:D->D->MH->Option D}{σ:St}{H:Hp}{Q:VK} (h:tE K (fun env m=>(f env m).bind fun x=>(g env m).bind fun y=>o x y m) σ H Q)
  (r:R2) (hr:∀ μ m x y z v u H' (Q:VK),Sim K H' μ m->Rep K H' μ (·∈μ) x v->Rep K H' μ (·∈μ) y u->o x y m=some z->(∀ w H2,Same H' H2->Rep K H2 μ (·∈μ) z w->Q w H2)->r v u H' Q) :
  tOp r (tE K f) (tE K g) σ H Q:=by
 obtain⟨env,μ,m,d,S,E,h,q⟩:=h
 obtain⟨x,hx,h⟩:=bind_some h
 obtain⟨y,hy,h⟩:=bind_some h
 refine⟨env,μ,m,x,S,E,hx,fun v H1 s1 r1=>⟨env,μ,m,y,S.same s1,E.same s1,hy,fun u H2 s2 r2=>?_⟩⟩
 exact hr μ m x y d v u H2 Q (S.same (s1.trans s2)) (r1.same s2) r2 h fun w H3 s3 r3=>q w H3 ((s1.trans s2).trans s3) r3
noncomputable def Ah (i:Nat):FE:=fun env _=>(env[i]?).bind id
theorem Ajz (i:Nat) {pos:Pos} (hN:X.N[i]?=some x) (hv:Vis X.env.scope x) (hd:(x == ("__debug__":Str))=false) (hcd:(x == ("__classdict__":Str))=false):PD X (.Name x pos) (Ah i) :=
 PE.imp (Acz hN hv hd hcd) fun σ H Q ⟨env,μ,m,d,S,E,h,q⟩=>by
  unfold Ah at h
  obtain⟨o,h1,h2⟩:=bind_some h
  have h2:o=some d:=h2
  subst h2
  obtain⟨v,e,r⟩:=E.get i d h1
  exact⟨v,e,q v H (Same.refl H) r⟩
noncomputable def fC (d:D):FE:=fun _ _=>some d
theorem Avk {i j pos}:PD X (.Constant (.int i) j pos) (fC (.int i)):=PE.imp Avv fun σ H Q ⟨env,μ,m,d,S,E,h,q⟩=>by cases h;exact q _ H (Same.refl H) (.int i)
theorem Bab {i j pos}:PD X (.Constant (.bool i) j pos) (fC (.bl i)):=PE.imp Bag fun σ H Q ⟨env,μ,m,d,S,E,h,q⟩=>by cases h;exact q _ H (Same.refl H) (.bl i)
theorem Avp {j pos}:PD X (.Constant .none j pos) (fC .non):=PE.imp X0 fun σ H Q ⟨env,μ,m,d,S,E,h,q⟩=>by cases h;exact q _ H (Same.refl H) .non
theorem Avs {i j pos} (ok:PyData.strOk i=true):PD X (.Constant (.str i) j pos) (fC (.str i)):=PE.imp Avz fun σ H Q ⟨env,μ,m,d,S,E,h,q⟩=>by cases h;exact q _ H (Same.refl H) (.str i ok)
theorem Aop {d:D}{pos:Pos} (hg:Gl X x) (hm:X.mg x=some u) (r:RelV v u) (hr:∀ H,Rep X.K H [] (fun _=>True) d v) (hd:(x == ("__debug__":Str))=false:=by decide):PD X (.Name x pos) (fC d) :=
 PE.imp (Aot hg hm r hd) fun σ H Q ⟨env,μ,m,d',S,E,h,q⟩=>by
  cases h
  exact q _ H (Same.refl H) ((hr H).up (fun _ _ _ h=>h) (fun _ _ _ _ b=>absurd trivial b) fun n a h=>by simp at h)
noncomputable def oI (g:Int->Int->Option D):D->D->MH->Option D
 |.int i,.int j,_=>g i j
 |_,_,_=>none
noncomputable def Bx:D->D->MH->Option D
 |.int i,.int j,_=>some (.int (i+j))
 |.str i,.str j,_=>if i.length+j.length<=1000000 then some (.str (i++j)) else none
 |.tup i,.tup j,_=>if i.length+j.length<=1000000 then some (.tup (i++j)) else none
 |_,_,_=>none
def Ae3:D->D->MH->Option D:=oI fun i j=>some (.int (i - j))
def Xv:D->D->MH->Option D:=oI fun i j=>if (-(2 ^ 64) < i/\i < 2 ^ 64)\/(-(2 ^ 64) < j/\j < 2 ^ 64) then some (.int (i * j)) else none
def Aq2:D->D->MH->Option D:=oI fun i j=>if 0 < j/\j < 1073741824 then some (.int (i / j)) else none
def Xu:D->D->MH->Option D:=oI fun i j=>if 0 < j then some (.int (i % j)) else none
def Aq3:D->D->MH->Option D:=oI fun i j=>if 0<=j/\j<=1000000/\i.natAbs < 2 ^ 64 then some (.int (i ^ j.toNat)) else none
def Axp:D->D->MH->Option D:=oI fun i j=>if 0<=j then some (.int (i / 2 ^ j.toNat)) else none
noncomputable def f2 (o:D->D->MH->Option D) (f g:FE):FE:=fun env m=>(f env m).bind fun x=>(g env m).bind fun y=>o x y m
noncomputable def f1 (o:D->MH->Option D) (f:FE):FE:=fun env m=>(f env m).bind fun x=>o x m
def OpD (X:Cx) (o:D->D->MH->Option D) (r:R2):Prop :=
 ∀ (μ:List Addr) (m:MH) (x y z:D) (v u:V) (H:Hp) (Q:VK),Sim X.K H μ m->Rep X.K H μ (·∈μ) x v->Rep X.K H μ (·∈μ) y u->o x y m=some z->(∀ w H2,Same H H2->Rep X.K H2 μ (·∈μ) z w->Q w H2)->r v u H Q
set_option tactic.hygienic true in
theorem OpD.int {C:Int->Int->Prop}{g:Int->Int->V}{k:Int->Int->Option D} (h:∀ i j z,k i j=some z->C i j/\∀ H μ B,Rep X.K H μ B z (g i j)):OpD X (oI k) (rI C g):=by
 intro μ m x y z v u H Q S rx ry e q
 cases rx<;>first|exact Ak e|skip
 cases ry<;>first|exact Ak e|skip
 rename_i i j
 obtain⟨hc,hr⟩:=h i j z e
 exact⟨i,j,rfl,rfl,hc,q _ H (Same.refl H) (hr H μ _)⟩
set_option tactic.hygienic true in
theorem OpD.int0 (h:∀ i j z,k i j=some z->∀ H μ B,Rep X.K H μ B z (g i j)):OpD X (oI k) (rI0 g):=by
 intro μ m x y z v u H Q S rx ry e q
 cases rx<;>first|exact Ak e|skip
 cases ry<;>first|exact Ak e|skip
 rename_i i j
 exact⟨i,j,rfl,rfl,q _ H (Same.refl H) (h i j z e H μ _)⟩
theorem Aok:OpD X Ae3 (rI0 fun i j=>.int (i - j)):=OpD.int0 fun i j z e H μ B=>by cases e;exact .int _
theorem Aoh:OpD X Xv (rI CMul fun i j=>.int (i * j)):=OpD.int fun i j z e=>by
 split at e
 ·cases e;exact⟨by assumption,fun _ _ _=>.int _⟩
 ·cases e
theorem Aof:OpD X Aq2 (rI Bbd fun i j=>.int (i / j)):=OpD.int fun i j z e=>by
 split at e
 ·cases e;exact⟨by assumption,fun _ _ _=>.int _⟩
 ·cases e
theorem Aog:OpD X Xu (rI (fun _ j=>0 < j) fun i j=>.int (i % j)):=OpD.int fun i j z e=>by
 split at e
 ·cases e;exact⟨by assumption,fun _ _ _=>.int _⟩
 ·cases e
theorem Aoi:OpD X Aq3 (rI Bbe fun i j=>.int (i ^ j.toNat)):=OpD.int fun i j z e=>by
 split at e
 ·cases e;exact⟨by assumption,fun _ _ _=>.int _⟩
 ·cases e
theorem Aoj:OpD X Axp (rI (fun _ j=>0<=j) fun i j=>.int (i / 2 ^ j.toNat)):=OpD.int fun i j z e=>by
 split at e
 ·cases e;exact⟨by assumption,fun _ _ _=>.int _⟩
 ·cases e
end
mutual
def Cm:D->Bool
 |.ref _=>false
 |.tup ds=>Ba ds
 |.lst ds=>Ba ds
 |.kl ds=>Ba ds
 |.dic _ _=>false
 |.fn _ _=>false
 |_=>true
def Ba:List D->Bool
 |[]=>true
 |d::ds=>Cm d&&Ba ds
def dep:D->Nat
 |.tup ds=>Ei ds+1
 |.lst ds=>Ei ds+1
 |.kl ds=>Ei ds+1
 |_=>0
def Ei:List D->Nat
 |[]=>0
 |d::ds=>max (dep d) (Ei ds)
end
noncomputable def C0 (m:MH):D->Option D
 |.ref n=>match m[n]? with
  |some (.lst ds)=>if Ba ds=true then some (.lst ds) else none
  |_=>none
 |d=>if Cm d=true then some d else none
def Co (m:MH):List D->Option (List D)
 |[]=>some []
 |d::ds=>(C0 m d).bind fun d'=>(Co m ds).bind fun ds'=>some (d'::ds')
noncomputable def sq (m:MH):D->Option (List D)
 |.tup ds=>some ds
 |.lst ds=>some ds
 |.kl ds=>some ds
 |.ref n=>match m[n]? with
  |some (.lst ds)=>some ds
  |_=>none
 |_=>none
section
variable {K:W.Frag}{H H':Hp}{μ μ':List Addr}{B B':Addr->Prop}{m:MH}
mutual
theorem Rep.noref (hk:∀ a u,Rd H a (.lst u)->¬ B a->¬ B' a) {d:D}{v:V} (r:Rep K H μ B d v) (e:Cm d=true):Rep K H μ' B' d v:=by
 cases r with
 |non=>exact .non
 |bl b=>exact .bl b
 |int b=>exact .int b
 |str b h=>exact .str b h
 |tup h r=>exact .tup h (Reps.noref hk r e)
 |lst h b r=>exact .lst h (hk _ _ h b) (Reps.noref hk r e)
 |kl h r=>exact .kl h (Reps.noref hk r e)
 |_=>exact Ce e
theorem Reps.noref (hk:∀ a u,Rd H a (.lst u)->¬ B a->¬ B' a) {ds:List D}{vs:List V} (r:Reps K H μ B ds vs) (e:Ba ds=true):Reps K H μ' B' ds vs:=by
 cases r with
 |nil=>exact .nil
 |cons h r =>
  have e':=(Bool.and_eq_true_iff.mp e)
  exact .cons (Rep.noref hk h e'.1) (Reps.noref hk r e'.2)
end
theorem Bo (S:Sim K H μ m) {d d':D} (r:Rep K H μ (·∈μ) d v) (h:C0 m d=some d'):Rep K H [] (fun _=>False) d' v/\Cm d'=true:=by
 cases r with
 |@ref n a e =>
  unfold C0 at h
  cases q:m[n]? with
  |none=>simp[q] at h
  |some o =>
   simp only[q] at h
   cases o with
   |dct _ _=>cases h
   |lst ds =>
    simp only at h
    split at h
    ·rename_i hn
     cases h
     obtain⟨xs,e1,e2⟩:=S.obj n a _ e q
     exact⟨.lst (.inl e1) (fun z=>z) (e2.noref (fun _ _ _ _ z=>z) hn),hn⟩
    ·cases h
 |non=>unfold C0 at h;simp[Cm] at h;subst h;exact⟨.non,rfl⟩
 |bl b=>unfold C0 at h;simp[Cm] at h;subst h;exact⟨.bl b,rfl⟩
 |int b=>unfold C0 at h;simp[Cm] at h;subst h;exact⟨.int b,rfl⟩
 |str b ok=>unfold C0 at h;simp[Cm] at h;subst h;exact⟨.str b ok,rfl⟩
 |@tup ds a xs h1 h2 =>
  unfold C0 at h
  simp only at h
  split at h
  ·rename_i hn
   cases h
   exact⟨(Rep.tup h1 h2).noref (fun _ _ _ _ z=>z) hn,hn⟩
  ·cases h
 |@lst ds a xs h1 h3 h2 =>
  unfold C0 at h
  simp only at h
  split at h
  ·rename_i hn
   cases h
   exact⟨(Rep.lst h1 h3 h2).noref (fun _ _ _ _ z=>z) hn,hn⟩
  ·cases h
 |@kl ds a xs h1 h2 =>
  unfold C0 at h
  simp only at h
  split at h
  ·rename_i hn
   cases h
   exact⟨(Rep.kl h1 h2).noref (fun _ _ _ _ z=>z) hn,hn⟩
  ·exact Ak h
 |dic h1 h2 h3 h4=>unfold C0 at h;simp[Cm] at h
 |fn _=>unfold C0 at h;simp[Cm] at h
theorem Cp (S:Sim K H μ m):∀ {ds ds':List D}{vs:List V},Reps K H μ (·∈μ) ds vs->Co m ds=some ds'->Reps K H [] (fun _=>False) ds' vs
 |_,_,_,.nil,h=>by cases h;exact .nil
 |_,_,_,.cons r rs,h=>by
  unfold Co at h
  obtain⟨d',h1,h⟩:=bind_some h
  obtain⟨ds',h2,h⟩:=bind_some h
  cases h
  exact .cons (Bo S r h1).1 (Cp S rs h2)
theorem Uc (S:Sim K H μ m) {d:D} (r:Rep K H μ (·∈μ) d v) (h:sq m d=some ds):∃ a xs,v=.ref a/\(SqL K H a xs\/SqT K H a xs)/\Reps K H μ (·∈μ) ds xs:=by
 cases r with
 |@ref n a e =>
  unfold sq at h
  cases q:m[n]? with
  |none=>simp[q] at h
  |some o =>
   simp only[q] at h
   cases o with
   |dct _ _=>cases h
   |lst ds =>
    cases h
    obtain⟨xs,e1,e2⟩:=S.obj n a _ e q
    exact⟨a,xs,rfl,.inl (SqL.of e1),e2⟩
 |@tup ds a xs h1 h2=>cases h;exact⟨a,xs,rfl,.inr h1,h2⟩
 |@lst ds a xs h1 h3 h2=>cases h;exact⟨a,xs,rfl,.inl (.inl h1),h2⟩
 |@kl ds a xs h1 h2=>cases h;exact⟨a,xs,rfl,.inl h1.sq,h2⟩
 |non=>exact Ak h
 |bl b=>exact Ak h
 |int b=>exact Ak h
 |str b ok=>exact Ak h
 |dic h1 h2 h3 h4=>exact Ak h
 |fn _=>exact Ak h
end
mutual
theorem Eo {H:Hp}{s:Shared} (I:Inv X pins σ H s) {d:D}{v:V}{u:Value} (q:Rep X.K H μ B d v) (e:Cm d=true) (r:RelV v u):∃ as,Reads s.heap u (pyD d) as:=by
 cases q with
 |non=>cases r;exact⟨_,.none⟩
 |bl b=>cases r;exact⟨_,.bool b⟩
 |int i=>obtain⟨t,rfl⟩:=r;exact⟨_,.int i t⟩
 |str x _=>obtain⟨t,rfl⟩:=r;exact⟨_,.str x t⟩
 |tup h rs =>
  cases r
  obtain⟨its,rv,⟨o,ho,hc,n,hd⟩,hz⟩:=I.tuple h
  obtain⟨as,ra⟩:=En I rs e rv
  exact⟨_,.tuple ho hc hd ra⟩
 |lst h b rs =>
  cases r
  obtain⟨its,rv,⟨o,n,ho,hc,_,hd⟩,hz⟩:=I.list (.inl h)
  obtain⟨as,ra⟩:=En I rs e rv
  exact⟨_,.list ho hc hd ra⟩
 |kl h rs =>
  cases r
  obtain⟨its,rv,⟨o,n,ho,hc,_,hd⟩,hz⟩:=I.list h.sq
  obtain⟨as,ra⟩:=En I rs e rv
  exact⟨_,.list ho hc hd ra⟩
 |_=>cases e
theorem En {H:Hp}{s:Shared} (I:Inv X pins σ H s) {ds:List D}{vs:List V}{us:List Value} (q:Reps X.K H μ B ds vs) (e:Ba ds=true) (r:Vals vs us):∃ as,ReadsAll s.heap us (Cf ds) as:=by
 cases q with
 |nil=>cases r;exact⟨_,.nil⟩
 |cons h rs =>
  cases r with
  |cons r rv =>
  have e':=(Bool.and_eq_true_iff.mp e)
  obtain⟨as,h1⟩:=Eo I h e'.1 r
  obtain⟨bs,h2⟩:=En I rs e'.2 rv
  exact⟨_,.cons h1 h2⟩
end
mutual
theorem He {K:W.Frag}{H:Hp}{μ:List Addr}{B:Addr->Prop}{d:D}{v:V} (r:Rep K H μ B d v):(pyD d).canLay0=true:=by
 cases r with
 |str _ h=>exact h
 |tup _ rs=>exact J5 rs
 |lst _ _ rs=>exact J5 rs
 |kl _ rs=>exact J5 rs
 |_=>rfl
theorem J5 {K:W.Frag}{H:Hp}{μ:List Addr}{B:Addr->Prop}{ds:List D}{vs:List V} (r:Reps K H μ B ds vs):PyData.canLayAll0 (Cf ds)=true:=by
 cases r with
 |nil=>rfl
 |cons r rs=>rw[Cf,PyData.canLayAll0,He r,J5 rs];rfl
end
mutual
theorem Lh:∀ d:D,(pyD d).depth=dep d
 |.non=>rfl
 |.bl _=>rfl
 |.int _=>rfl
 |.str _=>rfl
 |.tup ds=>by rw[pyD,PyData.depth,dep,J2 ds]
 |.lst ds=>by rw[pyD,PyData.depth,dep,J2 ds]
 |.kl ds=>by rw[pyD,PyData.depth,dep,J2 ds]
 |.ref _=>rfl
 |.dic _ _=>rfl
 |.fn _ _=>rfl
theorem J2:∀ ds:List D,PyData.depthAll (Cf ds)=Ei ds
 |[]=>rfl
 |d::ds=>by rw[Cf,PyData.depthAll,Lh d,J2 ds,Ei]
end
noncomputable def deq (x y:D):Bool:=PyData.eqv (pyD x) (pyD y)
def eqO (m:MH) (x y:D):Option Bool:=(C0 m x).bind fun x'=>(C0 m y).bind fun y'=>if dep x'<=60 then some (deq x' y') else none
def oEq:D->D->MH->Option D:=fun x y m=>(eqO m x y).bind fun b=>some (.bl b)
def oNe:D->D->MH->Option D:=fun x y m=>(eqO m x y).bind fun b=>some (.bl (!b))
section
variable {X:Cx}{a b c e:Expr}{es:List Expr}{pos:Pos}
def OpM (X:Cx) (f:Value->Value->Sem Value) (o:D->D->MH->Option D):Prop :=
 ∀ (pins:List (Addr×Obj)) (s:Shared) (σ:St) (H:Hp) (μ:List Addr) (m:MH) (x y z:D) (v u:V) (v' u':Value) (Q:VK),Inv X pins σ H s->Sim X.K H μ m->Rep X.K H μ (·∈μ) x v->Rep X.K H μ (·∈μ) y u->RelV v v'->RelV u u'->o x y m=some z ->
  (∀ w H2,Same H H2->Rep X.K H2 μ (·∈μ) z w->Q w H2)->wpAny (model X.prog X.w) X.A (f v' u') (EP X pins σ Q) X.xe s
theorem OpM.of (h:OpR X f r) (d:OpD X o r):OpM X f o :=
 fun pins s σ H μ m x y z v u v' u' Q I S rx ry r1 r2 e q=>h pins s σ H v u v' u' Q I r1 r2 (d μ m x y z v u H Q S rx ry e q)
theorem Bk {H:Hp} (h:H p=none):Same H (upd H p o):=fun b u e=>by
 rw[A0 (Az e h)];exact e
theorem tE.two {K:W.Frag}{f g:FE}{o:D->D->MH->Option D}{σ:St}{H:Hp}{Q:VK} (h:tE K (f2 o f g) σ H Q) :
  ∃ env μ m x y z,Sim K H μ m/\EnvRep K H μ σ env/\f env m=some x/\g env m=some y/\o x y m=some z/\∀ v H',Same H H'->Rep K H' μ (·∈μ) z v->Q v H':=by
 obtain⟨env,μ,m,d,S,E,h,q⟩:=h
 obtain⟨x,hx,h⟩:=bind_some h
 obtain⟨y,hy,h⟩:=bind_some h
 exact⟨env,μ,m,x,y,d,S,E,hx,hy,h,q⟩
theorem Azd (ho:OpM X k o) (ha:PD X a f) (hb:PD X b g) {s:Shared}{H:Hp} (I:Inv X pins σ H s) (h:tE X.K (f2 o f g) σ H Q) :
  wpAny (model X.prog X.w) X.A (eval a X.env) (fun v s₁=>wpAny (model X.prog X.w) X.A (eval b X.env) (fun u s₂=>wpAny (model X.prog X.w) X.A (k v u) (EP X pins σ Q) X.xe s₂) X.xe s₁) X.xe s:=by
 obtain⟨env,μ,m,x,y,z,S,E,hx,hy,hz,q⟩:=h.two
 refine thn (ha pins s σ H (fun v H1=>Same H H1/\Rep X.K H1 μ (·∈μ) x v) I ⟨env,μ,m,x,S,E,hx,fun v H1 s1 r1=>⟨s1,r1⟩⟩) fun v' s1 ⟨v,H1,I1,r1,s1',rx⟩=>?_
 refine thn (hb pins s1 σ H1 (fun u H2=>Same H1 H2/\Rep X.K H2 μ (·∈μ) y u) I1 ⟨env,μ,m,y,S.same s1',E.same s1',hy,fun v H1 s1 r1=>⟨s1,r1⟩⟩) fun u' s2 ⟨u,H2,I2,r2,s2',ry⟩=>?_
 exact ho pins s2 σ H2 μ m x y z v u v' u' Q I2 (S.same (s1'.trans s2')) (rx.same s2') ry r1 r2 hz fun w H3 s3 r3=>q w H3 ((s1'.trans s2').trans s3) r3
theorem Avh (ho:OpM X (binaryOp op) o) (ha:PD X a f) (hb:PD X b g):PD X (.BinOp a op b pos) (f2 o f g) :=
 fun pins s σ H Q I h=>wpAny_BinOp (Azd ho ha hb I h)
theorem Avi (ho:OpM X (compareOp op) o) (ha:PD X a f) (hb:PD X b g) (hm:behindInMarks op b=false):PD X (.Compare a [op] [b] pos) (f2 o f g) :=
 fun pins s σ H Q I h=>wpAny_Compare1 (Azd ho ha hb I h) hm
noncomputable def asB:D->Option Bool
 |.bl b=>some b
 |_=>none
def A4 (f:FE):FB:=fun env m=>(f env m).bind asB
theorem Ho {d:D}{b:Bool} (h:asB d=some b):d=.bl b:=by
 cases d<;>first|(cases h;rfl)|cases h
theorem tB'.val {K:W.Frag}{f:FE}{σ:St}{H:Hp}{Q:Bool->Hp->Prop} (h:tB' K (A4 f) σ H Q):tE K f σ H fun x H'=>∃ k,x=.bl k/\Q k H':=by
 obtain⟨env,μ,m,b,S,E,h,q⟩:=h
 obtain⟨d,h1,h2⟩:=bind_some h
 cases Ho h2
 exact⟨env,μ,m,_,S,E,h1,fun v H' s r=>by cases r;exact⟨_,rfl,q H' s⟩⟩
theorem Au9 (ho:OpM X (compareOp op) o) (ha:PD X a f) (hb:PD X b g) (hm:behindInMarks op b=false):PB X (.Compare a [op] [b] pos) (A4 (f2 o f g)):=by
 intro pins s σ H Q I h
 refine wpAny_isTrue_Compare1 (thn (Azd ho ha hb I h.val) fun v s1 h1=>thn h1 fun u s2 h2=>thn h2 fun c s3 ⟨x,H1,I1,r1,k,e,q⟩=>?_) hm
 subst e
 cases r1
 exact Bfo ⟨H1,I1,q⟩
theorem big {n:Nat} (h:n<=1000000):n<=sizeLine:=Bez h (by rw[Bf4];decide)
def Ain (m:MH):D->Option Bool
 |.non=>some false
 |.bl b=>some b
 |.int i=>some (i != 0)
 |.str y=>if y.length<=1000000 then some ((y.length:Int) != 0) else none
 |d=>(sq m d).bind fun ds=>some (!ds.isEmpty)
def Jx (f:FE):FB:=fun env m=>(f env m).bind (Ain m)
theorem Reps.isEmpty {K:W.Frag}{H:Hp}{μ:List Addr}{B:Addr->Prop}{ds:List D}{vs:List V} (r:Reps K H μ B ds vs):ds.isEmpty=vs.isEmpty:=by cases r<;>rfl
theorem Aek {K:W.Frag}{H:Hp}{μ:List Addr}{m:MH} (S:Sim K H μ m) {d:D}{v:V}{k:Bool} (r:Rep K H μ (·∈μ) d v) (h:Ain m d=some k):Axi K v H k:=by
 have seq:∀ {a:Addr},v=.ref a->(∃ ds,sq m d=some ds/\k=!ds.isEmpty)->Axi K v H k:=fun {a} e ⟨ds,h1,h2⟩=>by
  obtain⟨a',xs,e',hq,rs⟩:=Uc S r h1
  subst e'
  subst h2
  rw[rs.isEmpty]
  rcases hq with hq|hq
  ·exact .inl ⟨xs,hq,rfl⟩
  ·exact .inr (.inl ⟨xs,hq,rfl⟩)
 have sq':∀ {x:D},((sq m x).bind fun ds=>some (!ds.isEmpty))=some k->∃ ds,sq m x=some ds/\k=!ds.isEmpty:=fun {x} h=>by
  obtain⟨ds,h1,h2⟩:=bind_some h
  exact⟨ds,h1,(Bfg h2).symm⟩
 cases r with
 |non=>cases h;rfl
 |bl b=>cases h;rfl
 |int b=>cases h;rfl
 |str b ok =>
  unfold Ain at h
  simp only at h
  split at h
  ·cases h;exact⟨big (by assumption),rfl⟩
  ·exact Ak h
 |@tup ds a xs h1 h2=>exact seq rfl (sq' h)
 |@lst ds a xs h1 h3 h2=>exact seq rfl (sq' h)
 |@kl ds a xs h1 h2=>exact seq rfl (sq' h)
 |@ref n a e=>exact seq rfl (sq' h)
 |dic h1 h2 h3 h4=>exact Ak h
 |fn _=>exact Ak h
theorem Avc (ha:PD X a f) (he:∀ whole,isTrue a X.env whole=(do let v <- whole;standAt a.pos;holding [v] (truthy v))):PB X a (Jx f) :=
 PT.imp (Ahm ha he) fun σ H Q ⟨env,μ,m,b,S,E,h,q⟩=>by
  obtain⟨d,h1,h2⟩:=bind_some h
  exact⟨env,μ,m,d,S,E,h1,fun v H' s r=>⟨b,Aek (S.same s) r h2,q H' s⟩⟩
noncomputable def Aex (f g:FB):FB:=fun env m=>(f env m).bind fun c=>if c=true then g env m else some false
noncomputable def fOr (f g:FB):FB:=fun env m=>(f env m).bind fun c=>if c=true then some true else g env m
noncomputable def Ae0 (f:FB):FB:=fun env m=>(f env m).bind fun c=>some (!c)
abbrev PWB (X:Cx) (e:Expr) (f:FB):Prop:=PW X e (tB' X.K f)
theorem PW.imp {t t':TT} (h:PW X e t) (i:∀ σ H Q,t' σ H Q->t σ H Q):PW X e t':=fun w pins s σ H Q I q=>h w pins s σ H Q I (i σ H Q q)
theorem tB'.and {K:W.Frag}{f g:FB}{σ:St}{H:Hp}{Q:Bool->Hp->Prop} (h:tB' K (Aex f g) σ H Q):Bbw (tB' K f) (tB' K g) σ H Q:=by
 obtain⟨env,μ,m,b,S,E,h,q⟩:=h
 obtain⟨c,h1,h2⟩:=bind_some h
 refine⟨env,μ,m,c,S,E,h1,fun H1 s1=>?_⟩
 cases c with
 |true =>
  rw[Bef rfl] at h2 ⊢
  exact⟨env,μ,m,b,S.same s1,E.same s1,h2,fun H2 s2=>q H2 (s1.trans s2)⟩
 |false =>
  rw[Beg Bew] at h2 ⊢
  cases h2
  exact q H1 s1
theorem tB'.or {K:W.Frag}{f g:FB}{σ:St}{H:Hp}{Q:Bool->Hp->Prop} (h:tB' K (fOr f g) σ H Q):tOr (tB' K f) (tB' K g) σ H Q:=by
 obtain⟨env,μ,m,b,S,E,h,q⟩:=h
 obtain⟨c,h1,h2⟩:=bind_some h
 refine⟨env,μ,m,c,S,E,h1,fun H1 s1=>?_⟩
 cases c with
 |false =>
  rw[Beg Bew] at h2 ⊢
  exact⟨env,μ,m,b,S.same s1,E.same s1,h2,fun H2 s2=>q H2 (s1.trans s2)⟩
 |true =>
  rw[Bef rfl] at h2 ⊢
  cases h2
  exact q H1 s1
variable {rest:List Expr}
theorem Aho (ha:PB X a f):PWB X (.BoolOp .And [a] pos) f:=Api ha
theorem Apk (ha:PB X a f):PWB X (.BoolOp .Or [a] pos) f:=Awb ha
theorem Apj (ha:PB X a f) (hb:PWB X (.BoolOp .And (b::rest) pos) g):PWB X (.BoolOp .And (a::b::rest) pos) (Aex f g):=PW.imp (Av9 ha hb) fun _ _ _ h=>h.and
theorem Awc (ha:PB X a f) (hb:PWB X (.BoolOp .Or (b::rest) pos) g):PWB X (.BoolOp .Or (a::b::rest) pos) (fOr f g):=PW.imp (Baq ha hb) fun _ _ _ h=>h.or
theorem Aom (h:PWB X (.BoolOp op es pos) f):PB X (.BoolOp op es pos) f:=h.pt
theorem Avb (ha:PB X a f):PB X (.UnaryOp .Not a pos) (Ae0 f):=PT.imp (Av8 ha) fun σ H Q ⟨env,μ,m,b,S,E,h,q⟩=>by
 obtain⟨c,h1,h2⟩:=bind_some h
 cases h2
 exact⟨env,μ,m,c,S,E,h1,fun H1 s1=>q H1 s1⟩
def Jw (f g:FE):FE:=fun env m=>(A4 f env m).bind fun c=>if c=true then g env m else some (.bl false)
def Ae1 (f g:FE):FE:=fun env m=>(A4 f env m).bind fun c=>if c=true then some (.bl true) else g env m
theorem Avr {op} (h:PD X a f):PD X (.BoolOp op [a] pos) f:=Avy h
theorem Avg {f g:FE} (ha:PD X a f) (hb:PD X (.BoolOp .And (b::rest) pos) g):PD X (.BoolOp .And (a::b::rest) pos) (Jw f g):=PE.imp (Avu ha hb) fun σ H Q ⟨env,μ,m,z,S,E,h,q⟩=>by
 obtain⟨c,h1,h2⟩:=bind_some h
 obtain⟨d,h0,h1⟩:=bind_some h1
 cases Ho h1
 refine⟨env,μ,m,_,S,E,h0,fun v H1 s1 r1=>⟨c,by cases r1;rfl,?_⟩⟩
 cases c with
 |true =>
  rw[Bef rfl] at h2 ⊢
  exact⟨env,μ,m,z,S.same s1,E.same s1,h2,fun v H2 s2 r2=>q v H2 (s1.trans s2) r2⟩
 |false =>
  rw[Beg Bew] at h2 ⊢
  cases h2
  exact q _ H1 s1 (.bl false)
theorem Bae {f g:FE} (ha:PD X a f) (hb:PD X (.BoolOp .Or (b::rest) pos) g):PD X (.BoolOp .Or (a::b::rest) pos) (Ae1 f g):=PE.imp (Bak ha hb) fun σ H Q ⟨env,μ,m,z,S,E,h,q⟩=>by
 obtain⟨c,h1,h2⟩:=bind_some h
 obtain⟨d,h0,h1⟩:=bind_some h1
 cases Ho h1
 refine⟨env,μ,m,_,S,E,h0,fun v H1 s1 r1=>⟨c,by cases r1;rfl,?_⟩⟩
 cases c with
 |false =>
  rw[Beg Bew] at h2 ⊢
  exact⟨env,μ,m,z,S.same s1,E.same s1,h2,fun v H2 s2 r2=>q v H2 (s1.trans s2) r2⟩
 |true =>
  rw[Bef rfl] at h2 ⊢
  cases h2
  exact q _ H1 s1 (.bl true)
def U2 (f:FE):FE:=fun env m=>(Jx f env m).bind fun c=>some (.bl (!c))
theorem Avq (ha:PD X a f):PD X (.UnaryOp .Not a pos) (U2 f):=by
 intro pins s σ H Q I h
 obtain⟨env,μ,m,z,S,E,h,q⟩:=h
 obtain⟨c,h1,h2⟩:=bind_some h
 obtain⟨d,h0,h1⟩:=bind_some h1
 cases h2
 refine UnaryOp_ (thn (ha pins s σ H (fun v H1=>Same H H1/\Rep X.K H1 μ (·∈μ) d v) I ⟨env,μ,m,d,S,E,h0,fun v H1 s1 r1=>⟨s1,r1⟩⟩) fun v' s1 ⟨v,H1,I1,r1,s1',rx⟩=>?_)
 exact not_of (thn (Ak6 pins s1 σ H1 v v' (fun b H2=>b=c/\H2=H1) I1 r1 ⟨c,Aek (S.same s1') rx h1,rfl,rfl⟩) fun b s2 ⟨H2,I2,e,e2⟩=>⟨.bl (!c),H2,I2,by rw[e];rfl,q _ H2 (by rw[e2];exact s1') (.bl _)⟩)
noncomputable def fIf (t:FB) (f g:FE):FE:=fun env m=>(t env m).bind fun c=>if c=true then f env m else g env m
theorem Bac {t:FB} (hc:PB X c t) (ha:PD X a f) (hb:PD X b g):PD X (.IfExp c a b pos) (fIf t f g):=PE.imp (Ag6 hc ha hb) fun σ H Q ⟨env,μ,m,z,S,E,h,q⟩=>by
 obtain⟨c,h1,h2⟩:=bind_some h
 refine⟨env,μ,m,c,S,E,h1,fun H1 s1=>?_⟩
 cases c with
 |true =>
  rw[Bef rfl] at h2 ⊢
  exact⟨env,μ,m,z,S.same s1,E.same s1,h2,fun v H2 s2 r2=>q v H2 (s1.trans s2) r2⟩
 |false =>
  rw[Beg Bew] at h2 ⊢
  exact⟨env,μ,m,z,S.same s1,E.same s1,h2,fun v H2 s2 r2=>q v H2 (s1.trans s2) r2⟩
theorem Br (hr:Room k X.A):OpM X (compareOp .Eq) oEq:=by
 intro pins s σ H μ m x y z v u v' u' Q I S rx ry r1 r2 e q
 obtain⟨b,h1,h2⟩:=bind_some e
 obtain⟨x',e1,h1⟩:=bind_some h1
 obtain⟨y',e2,h1⟩:=bind_some h1
 split at h1
 ·rename_i hd
  cases h1
  cases h2
  obtain⟨a1,n1⟩:=Bo S rx e1
  obtain⟨a2,n2⟩:=Bo S ry e2
  obtain⟨as,ra⟩:=Eo I a1 n1 r1
  obtain⟨bs,rb⟩:=Eo I a2 n2 r2
  have hu:=hr.units
  refine SeqAt.compareEq_reads ra rb (He a1) (He a2) ?_ ⟨.bl (deq x' y'),H,I,rfl,q _ H (Same.refl H) (.bl _)⟩
  rw[Lh]
  lia
 ·cases h1
theorem Je (hr:Room k X.A):OpM X (compareOp .NotEq) oNe:=by
 intro pins s σ H μ m x y z v u v' u' Q I S rx ry r1 r2 e q
 obtain⟨b,h1,h2⟩:=bind_some e
 obtain⟨x',e1,h1⟩:=bind_some h1
 obtain⟨y',e2,h1⟩:=bind_some h1
 split at h1
 ·rename_i hd
  cases h1
  cases h2
  obtain⟨a1,n1⟩:=Bo S rx e1
  obtain⟨a2,n2⟩:=Bo S ry e2
  obtain⟨as,ra⟩:=Eo I a1 n1 r1
  obtain⟨bs,rb⟩:=Eo I a2 n2 r2
  have hu:=hr.units
  refine SeqAt.compareNe_reads ra rb (He a1) (He a2) ?_ ⟨.bl (!deq x' y'),H,I,rfl,q _ H (Same.refl H) (.bl _)⟩
  rw[Lh]
  lia
 ·cases h1
noncomputable def oLt:D->D->MH->Option D
 |.int i,.int j,_=>some (.bl (decide (i < j)))
 |.str i,.str j,_=>some (.bl (decide (i.cps.toList < j.cps.toList)))
 |_,_,_=>none
def oLe:D->D->MH->Option D:=oI fun i j=>some (.bl (decide (i<=j)))
def oGt:D->D->MH->Option D:=oI fun i j=>some (.bl (decide (j < i)))
theorem Tp:OpM X (compareOp .Lt) oLt:=OpM.of (op_lt.or Acq) fun μ m x y z v u H Q S rx ry e q=>by
 cases rx<;>first|exact Ak e|skip
 all_goals cases ry<;>first|exact Ak e|skip
 ·cases e;exact .inl ⟨_,_,rfl,rfl,q _ H (Same.refl H) (.bl _)⟩
 ·cases e;exact .inr ⟨_,_,rfl,rfl,q _ H (Same.refl H) (.bl _)⟩
theorem Agx:OpM X (compareOp .LtE) oLe:=OpM.of Baa (OpD.int0 fun i j z e H μ B=>by cases e;exact .bl _)
theorem Jd:OpM X (compareOp .Gt) oGt:=OpM.of Az9 (OpD.int0 fun i j z e H μ B=>by cases e;exact .bl _)
theorem Ma:OpM X (binaryOp .Sub) Ae3:=OpM.of Au6 Aok
theorem Gj:OpM X (binaryOp .Mult) Xv:=OpM.of Au3 Aoh
theorem Aco:OpM X (binaryOp .FloorDiv) Aq2:=OpM.of Aod Aof
theorem Gi:OpM X (binaryOp .Mod) Xu:=OpM.of Au2 Aog
theorem Acp:OpM X (binaryOp .Pow) Aq3:=OpM.of Au4 Aoi
theorem Au1:OpM X (binaryOp .RShift) Axp:=OpM.of Au5 Aoj
noncomputable def M7:D->MH->Option D:=fun x _=>match x with|.non=>some (.bl true)|_=>some (.bl false)
noncomputable def L6:D->MH->Option D:=fun x _=>match x with|.non=>some (.bl false)|_=>some (.bl true)
theorem Aa8 {K:W.Frag}{H:Hp}{μ:List Addr}{B:Addr->Prop}{d z:D}{v:V}{m:MH} (r:Rep K H μ B d v) (h:M7 d m=some z):z=.bl (decide (v=.non)):=by
 cases r<;>(cases h;simp)
theorem Ags {K:W.Frag}{H:Hp}{μ:List Addr}{B:Addr->Prop}{d z:D}{v:V}{m:MH} (r:Rep K H μ B d v) (h:L6 d m=some z):z=.bl (!decide (v=.non)):=by
 cases r<;>(cases h;simp)
theorem Avl {f:FE} {j pos'} (ha:PD X a f):PD X (.Compare a [.Is] [.Constant .none j pos'] pos) (f1 M7 f):=PE.imp (Aos Ajv ha X0 (Acb _)) fun σ H Q ⟨env,μ,m,z,S,E,h,q⟩=>by
 obtain⟨d,h1,h2⟩:=bind_some h
 exact⟨env,μ,m,d,S,E,h1,fun v H1 s1 r1=>⟨rfl,q _ H1 s1 (by rw[Aa8 r1 h2];exact .bl _)⟩⟩
theorem Ava {f:FE} {j pos'} (ha:PD X a f):PB X (.Compare a [.Is] [.Constant .none j pos'] pos) (A4 (f1 M7 f)):=PT.imp (Ade Ajv ha X0 (Acb _)) fun σ H Q h=>by
 obtain⟨env,μ,m,z,S,E,h,q⟩:=h.val
 obtain⟨d,h1,h2⟩:=bind_some h
 exact⟨env,μ,m,d,S,E,h1,fun v H1 s1 r1=>⟨rfl,q _ H1 s1 (by rw[Aa8 r1 h2];exact .bl _)⟩⟩
theorem Aon {f:FE} {j pos'} (ha:PD X a f):PB X (.Compare a [.IsNot] [.Constant .none j pos'] pos) (A4 (f1 L6 f)):=PT.imp (Ade Aoe ha X0 (Acb _)) fun σ H Q h=>by
 obtain⟨env,μ,m,z,S,E,h,q⟩:=h.val
 obtain⟨d,h1,h2⟩:=bind_some h
 exact⟨env,μ,m,d,S,E,h1,fun v H1 s1 r1=>⟨rfl,q _ H1 s1 (by rw[Ags r1 h2];exact .bl _)⟩⟩
end
theorem strOk_iff:PyData.strOk x=true ↔ ∀ c∈x.cps.toList,c < 0x110000:=by
 unfold PyData.strOk
 rw[Array.all_eq_true']
 simp
theorem Uh (hx:PyData.strOk x=true) (hy:PyData.strOk y=true):PyData.strOk (x++y)=true:=by
 rw[strOk_iff] at *
 intro c hc
 have:(x++y).cps.toList=x.cps.toList++y.cps.toList:=by
  show (x.cps++y.cps).toList=_
  simp
 rw[this] at hc
 rcases List.mem_append.mp hc with h|h
 ·exact hx c h
 ·exact hy c h
theorem Gn (hx:PyData.strOk x=true) (h:∀ c∈y.cps.toList,c∈x.cps.toList):PyData.strOk y=true:=by
 rw[strOk_iff] at *
 exact fun c hc=>hx c (h c hc)
theorem Aee (hx:PyData.strOk x=true) (h:atI x.cps.toList i=some c):PyData.strOk ⟨#[c]⟩=true:=by
 refine Gn hx fun c' hc=>?_
 have e:c'=c:=by simpa using hc
 subst e
 obtain⟨j,_,h2,_⟩:=Oi h
 exact Be1 h2
theorem Vt {x:Str}{lo hi:Option Int} (hx:PyData.strOk x=true):PyData.strOk (Txt.slice x lo hi)=true:=by
 unfold Txt.slice
 split
 ·exact hx
 ·refine Gn hx fun c hc=>?_
  simp only[List.toList_toArray] at hc
  obtain⟨i,_,h⟩:=List.mem_filterMap.mp hc
  have:=Array.mem_of_getElem? h
  simpa using this
section
variable {X:Cx}{a b c e:Expr}{es:List Expr}{pos p:Pos}{x:Str}{id T:String}
noncomputable def Ai:FL:=fun _ _=>some []
noncomputable def Aa (f:FE) (g:FL):FL:=fun env m=>(f env m).bind fun x=>(g env m).bind fun xs=>some (x::xs)
theorem Av4:PL X [] Ai:=PA.imp Ajx fun σ H Q ⟨env,μ,m,ds,S,E,h,q⟩=>by cases h;exact q [] H (Same.refl H) .nil
theorem Ao1 (ha:PD X e f) (hr:PL X es g) (hs:starEach (e::es) X.env=(false,eval e X.env)::starEach es X.env):PL X (e::es) (Aa f g) :=
 PA.imp (Vh ha hr hs) fun σ H Q ⟨env,μ,m,ds,S,E,h,q⟩=>by
  obtain⟨d,h1,h⟩:=bind_some h
  obtain⟨ds',h2,h⟩:=bind_some h
  cases h
  exact⟨env,μ,m,d,S,E,h1,fun v H1 s1 r1=>⟨env,μ,m,ds',S.same s1,E.same s1,h2,fun vs H2 s2 r2=>q _ H2 (s1.trans s2) (.cons (r1.same s2) r2)⟩⟩
noncomputable def Ck (g:FL):FE:=fun env m=>(g env m).bind fun ds=>some (.lst ds)
theorem Ag4 (h:PF X e g):PD X e (Ck g):=PE.imp h fun σ H Q ⟨env,μ,m,d,S,E,h,q⟩=>by
 obtain⟨ds,h1,h⟩:=bind_some h
 cases h
 exact⟨env,μ,m,ds,S,E,h1,fun a xs H' s1 hn ha r=>q _ H' s1 (.lst (.inl ha) (S.nnone hn) r.unw)⟩
noncomputable def B7 (g:FL):FE:=fun env m=>(g env m).bind fun ds=>if ds.length<=1000000 then some (.tup ds) else none
noncomputable def Bp (g:FL):FL:=fun env m=>(g env m).bind fun ds=>if ds.length<=1000000 then some ds else none
theorem Avt {x1} (h:PL X es g):PD X (.Tuple es x1 pos) (B7 g):=PE.imp (Av0 h) fun σ H Q ⟨env,μ,m,d,S,E,h,q⟩=>by
 obtain⟨ds,h1,h⟩:=bind_some h
 split at h
 ·rename_i hl
  cases h
  refine⟨env,μ,m,ds,S,E,h1,fun vs H1 s1 r1=>⟨by rw[<- r1.length];exact big hl,fun p hp=>q _ _ (s1.trans (Bk hp)) (.tup (.inl (.inl A8)) (r1.same (Bk hp)))⟩⟩
 ·cases h
theorem Av2 (h:PL X es g):PF X (.List es pos) (Bp g):=PE.imp (Avx h) fun σ H Q ⟨env,μ,m,d,S,E,h,q⟩=>by
 obtain⟨ds,h1,h⟩:=bind_some h
 split at h
 ·rename_i hl
  cases h
  refine⟨env,μ,m,_,S,E,h1,fun vs H1 s1 r1=>⟨by rw[<- r1.length];exact big hl,fun p hp=>q _ vs _ (s1.trans (Bk hp)) (s1.free hp) A8 (r1.fresh hp)⟩⟩
 ·cases h
def oIx:D->D->MH->Option D:=fun x y m=>match y with
 |.int i=>(match x with
  |.str z=>if z.length<=1000000 then (atI z.cps.toList i).bind fun c=>some (.str ⟨#[c]⟩) else none
  |x=>(sq m x).bind fun ds=>atI ds i)
 |_=>none
theorem Reps.atI {K:W.Frag}{H:Hp}{μ:List Addr}{B:Addr->Prop}{ds:List D}{vs:List V}{i:Int}{d:D} (r:Reps K H μ B ds vs) (h:L2.atI ds i=some d):∃ v,L2.atI vs i=some v/\Rep K H μ B d v:=by
 unfold L2.atI at *
 rw[r.length] at h
 obtain⟨j,h1,h2⟩:=bind_some h
 obtain⟨v,h3,h4⟩:=r.get h2
 exact⟨v,by rw[h1];exact h3,h4⟩
set_option tactic.hygienic true in
theorem Au7:OpD X oIx (rIx X.K):=by
 intro μ m x y z v u H Q S rx ry e q
 cases ry<;>first|exact Ak e|skip
 rename_i i
 have seq:((sq m x).bind fun ds=>atI ds i)=some z->rIx X.K v (.int i) H Q:=fun e=>by
  obtain⟨ds,h1,h2⟩:=bind_some e
  obtain⟨a,xs,rfl,hq,rs⟩:=Uc S rx h1
  obtain⟨w,h3,h4⟩:=rs.atI h2
  rcases hq with hq|hq
  ·exact .inl ⟨a,xs,i,w,rfl,rfl,hq,h3,q w H (Same.refl H) h4⟩
  ·exact .inr (.inl ⟨a,xs,i,w,rfl,rfl,hq,h3,q w H (Same.refl H) h4⟩)
 cases rx with
 |str zz ok =>
  unfold oIx at e
  simp only at e
  split at e
  ·obtain⟨c,h1,h2⟩:=bind_some e
   cases h2
   exact .inr (.inr ⟨zz,i,c,rfl,rfl,big (by assumption),h1,q _ H (Same.refl H) (.str _ (Aee ok h1))⟩)
  ·cases e
 |non=>exact seq e
 |bl _=>exact seq e
 |int _=>exact seq e
 |tup h1 h2=>exact seq e
 |lst h1 h2 h3=>exact seq e
 |kl h1 h2=>exact seq e
 |dic h1 h2 h3 h4=>exact seq e
 |fn _=>exact seq e
 |ref h=>exact seq e
theorem Bad (ha:PD X a f) (hb:PD X b g) (hs:Oc b):PD X (.Subscript a b pos) (f2 oIx f g):=PE.imp (Bai Atp ha hb hs) fun σ H Q h=>tE.bin h _ Au7
abbrev FO:=Bg->MH->Option (Option Int)
inductive tO' (K:W.Frag) (f:FO) (σ:St) (H:Hp) (Q:Option Int->Hp->Prop):Prop
 |mk (env:Bg) (μ:List Addr) (m:MH) (o:Option Int) (S:Sim K H μ m) (E:EnvRep K H μ σ env) (h:f env m=some o) (q:∀ H',Same H H'->Q o H')
abbrev PO' (X:Cx) (e:Option Expr) (f:FO):Prop:=PO X e (tO' X.K f)
theorem PO.imp {X:Cx}{e:Option Expr}{t t':TO} (h:PO X e t) (i:∀ σ H Q,t' σ H Q->t σ H Q):PO X e t':=fun pins s σ H Q I q=>h pins s σ H Q I (i σ H Q q)
noncomputable def fNo:FO:=fun _ _=>some none
noncomputable def asI:D->Option Int
 |.int i=>some i
 |_=>none
def Dy (f:FE):FO:=fun env m=>(f env m).bind fun d=>(asI d).bind fun i=>some (some i)
theorem Ahc:PO' X none fNo:=PO.imp Ao3 fun σ H Q ⟨env,μ,m,o,S,E,h,q⟩=>by cases h;exact q H (Same.refl H)
theorem Ahd (h:PD X e f):PO' X (some e) (Dy f):=PO.imp (Ao4 h) fun σ H Q ⟨env,μ,m,o,S,E,h,q⟩=>by
 obtain⟨d,h1,h⟩:=bind_some h
 obtain⟨i,h2,h⟩:=bind_some h
 cases h
 refine⟨env,μ,m,d,S,E,h1,fun v H' s r=>?_⟩
 cases r<;>first|(cases h2;exact⟨_,rfl,q H' s⟩)|cases h2
def Hs {α:Type} (xs:List α) (lo hi:Option Int):List α:=(xs.drop (HT.sIx xs.length 0 lo)).take (HT.sIx xs.length xs.length hi - HT.sIx xs.length 0 lo)
theorem Reps.cut {K:W.Frag}{H:Hp}{μ:List Addr}{B:Addr->Prop}{ds:List D}{vs:List V} (r:Reps K H μ B ds vs) (lo hi:Option Int):Reps K H μ B (Hs ds lo hi) (Ai3 vs lo hi):=by
 unfold Hs Ai3
 rw[r.length]
 exact (r.drop _).take _
theorem sl_str:SlR X (fun x lo hi H Q=>∃ z,x=.str z/\z.length<=sizeLine/\Q (.str (Txt.slice z lo hi)) H):=by
 intro pins s σ H x v vl vu lo hi sl Q I rx hs pl pu h
 obtain⟨z,rfl,hz,q⟩:=h
 obtain⟨t,rfl⟩:=rx
 refine⟨"str",_,F.slot_str_getitem.lookup,Bhb _ _ _,?_⟩
 cases pl with
 |none =>
  cases pu with
  |none=>exact Bgw (l:=none) (u:=none) (st:=none) hs rfl (post_val_or_str ⟨Bez (Txt.slice_le z _ _) hz,fun t' k=>⟨.str (Txt.slice z _ _),H,I.tok _,⟨_,rfl⟩,q⟩⟩)
  |int j t'=>exact Bgw (l:=none) (u:=some (j,t')) (st:=none) hs rfl (post_val_or_str ⟨Bez (Txt.slice_le z _ _) hz,fun t' k=>⟨.str (Txt.slice z _ _),H,I.tok _,⟨_,rfl⟩,q⟩⟩)
 |int i t1 =>
  cases pu with
  |none=>exact Bgw (l:=some (i,t1)) (u:=none) (st:=none) hs rfl (post_val_or_str ⟨Bez (Txt.slice_le z _ _) hz,fun t' k=>⟨.str (Txt.slice z _ _),H,I.tok _,⟨_,rfl⟩,q⟩⟩)
  |int j t'=>exact Bgw (l:=some (i,t1)) (u:=some (j,t')) (st:=none) hs rfl (post_val_or_str ⟨Bez (Txt.slice_le z _ _) hz,fun t' k=>⟨.str (Txt.slice z _ _),H,I.tok _,⟨_,rfl⟩,q⟩⟩)
def oSl:D->Option Int->Option Int->Option D
 |.str z,lo,hi=>if z.length<=1000000 then some (.str (Txt.slice z lo hi)) else none
 |.tup ds,lo,hi=>some (.tup (Hs ds lo hi))
 |_,_,_=>none
def fSl (f:FE) (l h:FO):FE:=fun env m=>(f env m).bind fun x=>(l env m).bind fun lo=>(h env m).bind fun hi=>oSl x lo hi
def Aqz (f:FE) (l h:FO):FL:=fun env m=>(f env m).bind fun x=>(l env m).bind fun lo=>(h env m).bind fun hi=>match x with
 |.tup _=>none
 |x=>(sq m x).bind fun ds=>some (Hs ds lo hi)
end
theorem Hd {prog:Program}{w:World}{A:Around}{E:Value->Shared->Prop}{s:Shared}{t sl:Addr}{items:Array Value}{vl vu:Value}{lo hi:Option Int}{Q:Value->Shared->Prop} (ht:IsTup s.heap t items) (hs:s.heap.IsSliceOf sl vl vu .none) (pl:IsPart vl lo) (pu:IsPart vu hi)
  (hw:HT.sIx items.size 0 lo=0/\HT.sIx items.size items.size hi=items.size) (h:Q (.ref t) s):wpAny (model prog w) A (getItem (.ref t) (.ref sl)) Q E s:=by
 obtain⟨os,hos,hcs,hds⟩:=id hs
 have hTs:s.TypeIs (.ref sl) "slice":=⟨os,hos,hcs⟩
 unfold getItem
 try with_reducible refine Bgi ?_
 first|refine Bea (Bek ?_)|skip
 refine Bea (wpAny_sequenceKey ht.typeIs (by decide) ?_)
 refine Bea (Bgx (name:=Str.ofString "__getitem__") ht.typeIs PyProof.Rows.slot_tuple_getitem
  (Bgq PyProof.Rows.slot_tuple_getitem ht.typeIs entry_tuple_getitem ?_ (args_tuple_getitem _ _)))
 show wpAny _ _ (Builtin.Tuple.tupleItemsOf (.ref t) >>= _) _ _ s
 refine Bea (tupleItemsOf_ ht ?_)
 refine Bea (wpAny_typeOf hTs ?_)
 rw[Bef (by decide)]
 refine Bea (HT.sliceApplied_gen hs pl pu ?_)
 have hyes:(((HT.sIx items.size 0 lo:Nat):Int) == 0&&(1:Int) == 1&&(HT.sIx items.size items.size hi - HT.sIx items.size 0 lo) == items.size)=true:=by
  rw[hw.1,hw.2]
  simp
 show wpAny _ _ (if (((HT.sIx items.size 0 lo:Nat):Int) == 0&&(1:Int) == 1&&(HT.sIx items.size items.size hi - HT.sIx items.size 0 lo) == items.size)=true then _ else _) _ _ s
 rw[Bef hyes]
 unfold Builtin.Tuple.tupleIsExact
 refine Bea (Bea (wpAny_typeOf ht.typeIs (Bek ?_)))
 rw[Bef (by decide)]
 exact Bea (wpAny_rule (Bek ⟨_,rfl,Bek h⟩))
theorem Aet {α:Type}{xs:List α}{lo hi:Option Int} (h:HT.sIx xs.length 0 lo=0/\HT.sIx xs.length xs.length hi=xs.length):Hs xs lo hi=xs:=by
 unfold Hs
 rw[h.1,h.2]
 simp
section
variable {X:Cx}{a b c e:Expr}{es:List Expr}{pos p:Pos}{x:Str}{id T:String}
theorem Aqe:SlR X (fun x lo hi H Q=>∃ a xs,x=.ref a/\SqT X.K H a xs/\(HT.sIx xs.length 0 lo=0/\HT.sIx xs.length xs.length hi=xs.length)/\Q (.ref a) H):=by
 intro pins s σ H x v vl vu lo hi sl Q I rx hs pl pu h
 obtain⟨a,xs,rfl,hx,hw,q⟩:=h
 cases rx
 obtain⟨its,r,ht,hz⟩:=I.tuple hx
 have hlen:its.toArray.size=xs.length:=by rw[Bem];exact r.length.symm
 refine⟨"tuple",_,PyProof.Rows.slot_tuple_getitem.lookup,ht.typeIs,?_⟩
 exact Hd ht hs pl pu (by rw[hlen];exact hw) ⟨.ref a,H,I,rfl,q⟩
theorem Baf {f:FE}{l h:FO}{lo hi:Option Expr}{p2:Pos} (ha:PD X a f) (hl:PO' X lo l) (hh:PO' X hi h):PD X (.Subscript a (.Slice lo hi none p2) pos) (fSl f l h) :=
 PE.imp (X1 (sl_str.or (sl_tup.or Aqe)) ha hl hh) fun σ H Q ⟨env,μ,m,d,S,E,h,q⟩=>by
  obtain⟨x,h1,h⟩:=bind_some h
  obtain⟨lo,h2,h⟩:=bind_some h
  obtain⟨hi,h3,h⟩:=bind_some h
  refine⟨env,μ,m,x,S,E,h1,fun v H1 s1 r1=>⟨env,μ,m,lo,S.same s1,E.same s1,h2,fun H2 s2=>⟨env,μ,m,hi,S.same (s1.trans s2),E.same (s1.trans s2),h3,fun H3 s3=>?_⟩⟩⟩
  have s':=(s1.trans s2).trans s3
  have r3:=(r1.same s2).same s3
  cases r3 with
  |str z ok =>
   unfold oSl at h
   simp only at h
   split at h
   ·cases h
    exact .inl ⟨z,rfl,big (by assumption),q _ H3 s' (.str _ (Vt ok))⟩
   ·cases h
  |@tup ds a xs hq rs =>
   cases h
   by_cases hw:HT.sIx xs.length 0 lo=0/\HT.sIx xs.length xs.length hi=xs.length
   ·exact .inr (.inr ⟨a,xs,rfl,hq,hw,q _ H3 s' (by rw[Aet (by rw[rs.length];exact hw)];exact .tup hq rs)⟩)
   ·exact .inr (.inl ⟨a,xs,rfl,hq,hw,fun p hp=>q _ _ (s'.trans (Bk hp)) (.tup (.inl (.inl A8)) ((rs.cut lo hi).same (Bk hp)))⟩)
  |non=>cases h
  |bl _=>exact Ak h
  |int _=>exact Ak h
  |lst _ _ _=>exact Ak h
  |kl _ _=>exact Ak h
  |ref _=>exact Ak h
  |dic _ _ _ _=>exact Ak h
  |fn _=>exact Ak h
theorem Ban {f:FE}{l h:FO}{lo hi:Option Expr}{p2:Pos} (ha:PD X a f) (hl:PO' X lo l) (hh:PO' X hi h):PF X (.Subscript a (.Slice lo hi none p2) pos) (Aqz f l h) :=
 PE.imp (X1 Aqd ha hl hh) fun σ H Q ⟨env,μ,m,d,S,E,h,q⟩=>by
  obtain⟨x,h1,h⟩:=bind_some h
  obtain⟨lo,h2,h⟩:=bind_some h
  obtain⟨hi,h3,h⟩:=bind_some h
  refine⟨env,μ,m,x,S,E,h1,fun v H1 s1 r1=>⟨env,μ,m,lo,S.same s1,E.same s1,h2,fun H2 s2=>⟨env,μ,m,hi,S.same (s1.trans s2),E.same (s1.trans s2),h3,fun H3 s3=>?_⟩⟩⟩
  have s':=(s1.trans s2).trans s3
  have r3:=(r1.same s2).same s3
  have fin:∀ {a:Addr}{xs:List V}{ds:List D},v=.ref a->SqL X.K H3 a xs->Reps X.K H3 μ (·∈μ) ds xs->d=Hs ds lo hi->Bbu X.K v lo hi H3 Q:=fun {a xs ds} e hq rs e2=>by
   subst e
   subst e2
   exact⟨a,xs,rfl,hq,fun p hp=>q p _ _ (s'.trans (Bk hp)) (s'.free hp) A8 ((rs.cut lo hi).fresh hp)⟩
  cases r3 with
  |@lst ds a xs hq _ rs=>cases h;exact fin rfl (.inl hq) rs rfl
  |@kl ds a xs hq rs=>cases h;exact fin rfl hq.sq rs rfl
  |@ref n a e =>
   simp only at h
   obtain⟨ds,h4,h⟩:=bind_some h
   cases h
   unfold sq at h4
   cases q':m[n]? with
   |none=>simp[q'] at h4
   |some o =>
    simp only[q'] at h4
    cases o with
    |dct _=>cases h4
    |lst ds' =>
     cases h4
     obtain⟨xs,e1,e2⟩:=(S.same s').obj n a _ e q'
     exact fin rfl (SqL.of e1) e2 rfl
  |_=>cases h
theorem Us {s:Shared}{A:Around}{prog:Program}{w:World}{E:Value->Shared->Prop}{t b:Addr}{ws:List Value}{Q:Value->Shared->Prop} (ht:IsTup s.heap t #[]) (hb:IsTup s.heap b ws.toArray) (h:Q (.ref b) s) :
  wpAny (model prog w) A (binaryOp .Add (.ref t) (.ref b)) Q E s:=by
 obtain⟨⟨cls,dd,data,sl⟩,ho,hc,n,hd⟩:=id ht
 obtain⟨⟨cls2,dd2,data2,sl2⟩,ho2,hc2,n2,hd2⟩:=id hb
 simp only at hc hd hc2 hd2
 subst hc hd hc2 hd2
 exact concat_meets ⟨_,ho,rfl⟩ ⟨_,ho2,rfl⟩ noFill_tuple_add seq_tuple_add PySem.F.slot_tuple_add PySem.F.entry_tuple_add (PySem.F.args_tuple_add_2 _ _)
   (tuple_addW0 t b #[] ws.toArray n n2 dd dd2 sl sl2 (by simp)) ⟨ho,ho2,h⟩
theorem Agz:OpR X (binaryOp .Add) (fun x y H Q=>∃ a b ys,x=.ref a/\y=.ref b/\SqT X.K H a []/\SqT X.K H b ys/\Q (.ref b) H):=by
 intro pins s σ H x y v u Q I rx ry h
 obtain⟨a,b,ys,rfl,rfl,ha,hb,q⟩:=h
 cases rx
 cases ry
 obtain⟨its,r1,p1,_⟩:=I.tuple ha
 cases r1
 obtain⟨its2,r2,p2,_⟩:=I.tuple hb
 exact Us p1 p2 ⟨.ref b,H,I,rfl,q⟩
set_option tactic.hygienic true in
theorem An:OpM X (binaryOp .Add) Bx:=OpM.of (op_add.or (op_add_str.or (op_catT.or Agz))) fun μ m x y z v u H Q S rx ry e q=>by
 cases rx<;>first|exact Ak e|skip
 all_goals cases ry<;>first|exact Ak e|skip
 ·cases e;exact .inl ⟨_,_,rfl,rfl,q _ H (Same.refl H) (.int _)⟩
 ·rename_i i ok j ok'
  unfold Bx at e
  simp only at e
  split at e
  ·cases e;exact .inr (.inl ⟨_,_,rfl,rfl,big (by assumption),q _ H (Same.refl H) (.str _ (Uh ok ok'))⟩)
  ·cases e
 ·rename_i ds a xs hq rs es b ys hq' rs'
  unfold Bx at e
  simp only at e
  split at e
  ·rename_i hl
   cases e
   by_cases hx:xs=[]
   ·subst hx
    cases rs
    exact .inr (.inr (.inr ⟨a,b,ys,rfl,rfl,hq,hq',q _ H (Same.refl H) (by rw[Bfn];exact .tup hq' rs')⟩))
   ·refine .inr (.inr (.inl ⟨a,b,xs,ys,rfl,rfl,hq,hq',hx,by rw[<- rs.length,<- rs'.length];exact big hl,fun hy=>?_,fun hy p hp=>?_⟩))
    ·subst hy
     cases rs'
     exact q _ H (Same.refl H) (by rw[Bev];exact .tup hq rs)
    ·exact q _ _ (Bk hp) (.tup (.inl (.inl A8)) ((rs.append rs').same (Bk hp)))
  ·cases e
def sqL (m:MH):D->Option (List D)
 |.tup _=>none
 |d=>sq m d
def Aey (f g:FE):FL:=fun env m=>(f env m).bind fun x=>(g env m).bind fun y=>(sqL m x).bind fun xs=>(sqL m y).bind fun ys=>if xs.length+ys.length<=1000000 then some (xs++ys) else none
theorem Pl {K:W.Frag}{H:Hp}{μ:List Addr}{m:MH} (S:Sim K H μ m) {d:D}{v:V}{ds:List D} (r:Rep K H μ (·∈μ) d v) (h:sqL m d=some ds):∃ a xs,v=.ref a/\SqL K H a xs/\Reps K H μ (·∈μ) ds xs:=by
 cases r with
 |@ref n a e =>
  unfold sqL sq at h
  cases q:m[n]? with
  |none=>simp[q] at h
  |some o =>
   simp only[q] at h
   cases o with
   |dct _=>cases h
   |lst ds =>
    cases h
    obtain⟨xs,e1,e2⟩:=S.obj n a _ e q
    exact⟨a,xs,rfl,SqL.of e1,e2⟩
 |@lst ds a xs h1 h3 h2=>cases h;exact⟨a,xs,rfl,.inl h1,h2⟩
 |@kl ds a xs h1 h2=>cases h;exact⟨a,xs,rfl,h1.sq,h2⟩
 |_=>exact Ak h
theorem Aoc:OpR X (binaryOp .Add) (fun x y H Q=>∃ l b xs zs,x=.ref l/\y=.ref b/\SqL X.K H l xs/\SqL X.K H b zs/\xs.length+zs.length<=sizeLine/\∀ p,H p=none->Q (.ref p) (upd H p (.lst (xs++zs)))):=by
 intro pins s σ H x y v u Q I rx ry h
 obtain⟨l,b,xs,zs,rfl,rfl,hl,hb,hz,q⟩:=h
 cases rx
 cases ry
 obtain⟨its,r,⟨⟨cls,dd,data,sl⟩,n,ho,hc,hdd,hd⟩,z⟩:=I.list hl
 obtain⟨its2,r2,⟨⟨cls2,dd2,data2,sl2⟩,n2,ho2,hc2,hdd2,hd2⟩,z2⟩:=I.list hb
 simp only at hc hd hc2 hd2 hdd hdd2
 subst hc hd hc2 hd2 hdd hdd2
 have hl:=r.length
 have hl2:=r2.length
 refine concat_meets ⟨_,ho,rfl⟩ ⟨_,ho2,rfl⟩ noFill_list_add seq_list_add PySem.F.slot_list_add PySem.F.entry_list_add (PySem.F.args_list_add_2 _ _)
   (list_addW l b its.toArray its2.toArray n n2 none none sl sl2 (by rw[Bem,Bem];lia)) ⟨ho,ho2,?_⟩
 have ea:its.toArray++its2.toArray=(its++its2).toArray:=by simp
 rw[ea]
 exact⟨.ref _,_,I.lnew (t':=s.toks) (r.append r2) (by rw[Bep];lia),rfl,q _ I.fresh⟩
theorem Av1 {f g:FE} (ha:PD X a f) (hb:PD X b g):PF X (.BinOp a .Add b pos) (Aey f g):=PE.imp (Baj Aoc ha hb) fun σ H Q ⟨env,μ,m,d,S,E,h,q⟩=>by
 obtain⟨x,h1,h⟩:=bind_some h
 obtain⟨y,h2,h⟩:=bind_some h
 obtain⟨xs,h3,h⟩:=bind_some h
 obtain⟨ys,h4,h⟩:=bind_some h
 split at h
 ·rename_i hl
  cases h
  refine⟨env,μ,m,x,S,E,h1,fun v H1 s1 r1=>⟨env,μ,m,y,S.same s1,E.same s1,h2,fun u H2 s2 r2=>?_⟩⟩
  obtain⟨l,vs,rfl,e1,rs⟩:=Pl (S.same (s1.trans s2)) (r1.same s2) h3
  obtain⟨b,ws,rfl,e2,rs'⟩:=Pl (S.same (s1.trans s2)) r2 h4
  exact⟨l,b,vs,ws,rfl,rfl,e1,e2,by rw[<- rs.length,<- rs'.length];exact big hl,fun p hp=>q p _ _ ((s1.trans s2).trans (Bk hp)) ((s1.trans s2).free hp) A8 ((rs.append rs').fresh hp)⟩
 ·cases h
def Le (X:Cx) (f:Value) (o:List D->MH->Option D):Prop :=
 ∀ (pins:List (Addr×Obj)) (s:Shared) (σ:St) (H:Hp) (μ:List Addr) (m:MH) (xs:List D) (z:D) (vs:List V) (us:List Value) (Q:VK),Inv X pins σ H s->Sim X.K H μ m->Reps X.K H μ (·∈μ) xs vs->Vals vs us->o xs m=some z ->
  (∀ w H2,Same H H2->Rep X.K H2 μ (·∈μ) z w->Q w H2)->wpAny (model X.prog X.w) X.A (call f us) (EP X pins σ Q) X.xe s
noncomputable def Av (o:List D->MH->Option D) (g:FL):FE:=fun env m=>(g env m).bind fun xs=>o xs m
noncomputable def G4 (o:List D->MH->Option (List D)) (g:FL):FL:=fun env m=>(g env m).bind fun xs=>o xs m
theorem Asz (ho:Le X k o) (ha:PL X es g) {s:Shared}{H:Hp} (I:Inv X pins σ H s) (h:tE X.K (Av o g) σ H Q) :
  wpAny (model X.prog X.w) X.A (spliced (backTo pos (starEach es X.env))) (fun us s1=>wpAny (model X.prog X.w) X.A (call k us) (EP X pins σ Q) X.xe s1) X.xe s:=by
 obtain⟨env,μ,m,d,S,E,h,q⟩:=h
 obtain⟨xs,h1,h2⟩:=bind_some h
 refine thn (ha pos pins s σ H (fun vs H1=>Same H H1/\Reps X.K H1 μ (·∈μ) xs vs) I ⟨env,μ,m,xs,S,E,h1,fun v H1 s1 r1=>⟨s1,r1⟩⟩) fun us s1 ⟨vs,H1,I1,r1,s1',rx⟩=>?_
 exact ho pins s1 σ H1 μ m xs d vs us Q I1 (S.same s1') rx r1 h2 fun w H2 s2 r2=>q w H2 (s1'.trans s2) r2
theorem Ig (hc:Le X (.builtin id) o) (hg:Gl X x) (hm:X.mg x=none) (hv:bootBuiltins x=some (.builtin id)) (ha:PL X (e::es) g) (hn:x≠"__name__") (hdb:(x == ("__debug__":Str))=false) (he:starEach (e::es) X.env=(false,eval e X.env)::starEach es X.env) (hpl:(backTo pos (starEach es X.env)).any (·.1)=false):PD X (.Call (.Name x p) (e::es) [] pos) (Av o g):=by
 intro pins s σ H Q I h
 refine Bfl (Jq I hg hm hv ?_ hn hdb)
 exact PyProof.Rows.callWith_builtin1 (Asz hc ha I h) he hpl
theorem Md (hc:Le X (.type T) o) (hg:Gl X x) (hm:X.mg x=none) (hv:bootBuiltins x=some (.type T)) (ha:PL X (e::es) g) (hn:x≠"__name__") (hdb:(x == ("__debug__":Str))=false) (he:starEach (e::es) X.env=(false,eval e X.env)::starEach es X.env) (hpl:(backTo pos (starEach es X.env)).any (·.1)=false):PD X (.Call (.Name x p) (e::es) [] pos) (Av o g):=by
 intro pins s σ H Q I h
 refine Bfl (Jq I hg hm hv ?_ hn hdb)
 exact PyProof.Rows.callWith_type1 (Asz hc ha I h) he hpl
inductive R1 (K:W.Frag) (H:Hp) (μ:List Addr) (B:Addr->Prop) (d:D) (vs:List V):Prop where
 |mk (v:V) (e:vs=[v]) (r:Rep K H μ B d v)
theorem Reps.one {K:W.Frag}{H:Hp}{μ:List Addr}{B:Addr->Prop}{d:D}{vs:List V} (r:Reps K H μ B [d] vs):R1 K H μ B d vs:=by
 cases r with
 |cons h r=>cases r;exact⟨_,rfl,h⟩
theorem Reps.two {K:W.Frag}{H:Hp}{μ:List Addr}{B:Addr->Prop}{d d':D}{vs:List V} (r:Reps K H μ B [d,d'] vs):∃ v v',vs=[v,v']/\Rep K H μ B d v/\Rep K H μ B d' v':=by
 cases r with
 |cons h r =>
  cases r with
  |cons h' r=>cases r;exact⟨_,_,rfl,h,h'⟩
def Azw (m:MH):D->Option Nat
 |.str z=>if z.length<=1000000 then some z.length else none
 |d=>(sq m d).bind fun ds=>some ds.length
def Ek:List D->MH->Option D:=fun xs m=>match xs with
 |[d]=>(Azw m d).bind fun n=>some (.int n)
 |_=>none
theorem Anm {K:W.Frag}{H:Hp}{μ:List Addr}{m:MH} (S:Sim K H μ m) {d:D}{v:V}{n:Nat} (r:Rep K H μ (·∈μ) d v) (h:Azw m d=some n):Axy K v H n:=by
 have seq:((sq m d).bind fun ds=>some ds.length)=some n->Axy K v H n:=fun h=>by
  obtain⟨ds,h1,h2⟩:=bind_some h
  cases h2
  obtain⟨a,xs,rfl,hq,rs⟩:=Uc S r h1
  rcases hq with hq|hq
  ·exact .inl ⟨xs,hq,rs.length⟩
  ·exact .inr ⟨xs,hq,rs.length⟩
 cases r with
 |str z ok =>
  unfold Azw at h
  simp only at h
  split at h
  ·cases h;exact⟨big (by assumption),rfl⟩
  ·exact Ak h
 |non=>exact seq h
 |bl _=>exact seq h
 |int _=>exact seq h
 |tup h1 h2=>exact seq h
 |lst h1 h2 h3=>exact seq h
 |kl h1 h2=>exact seq h
 |dic h1 h2 h3 h4=>exact seq h
 |fn _=>exact seq h
 |ref h'=>exact seq h
theorem As7:Le X (.builtin "len") Ek:=by
 intro pins s σ H μ m xs z vs us Q I S rx rv e q
 match xs,e with
 |[d],e =>
  obtain⟨n,h1,h2⟩:=bind_some e
  cases h2
  obtain⟨v,rfl,r⟩:=rx.one
  exact Afk pins s σ H [v] us Q I rv ⟨v,n,rfl,Anm S r h1,q _ H (Same.refl H) (.int _)⟩
noncomputable def Agu:List D->MH->Option D:=fun xs _=>match xs with
 |[.int i]=>some (.int i)
 |[.bl b]=>some (.int (if b then 1 else 0))
 |[.str z]=>if z.length<=640 then (PySem.intText? z).bind fun i=>some (.int i) else none
 |_=>none
theorem Xx {α:Type}{o:List D->Option α}{xs:List D}{z:α} (hn:o []=none) (hc:∀ a b l,o (a::b::l)=none) (e:o xs=some z):∃ d,xs=[d]:=by
 cases xs with
 |nil=>rw[hn] at e;exact Ak e
 |cons a l =>
  cases l with
  |nil=>exact⟨a,rfl⟩
  |cons b l=>rw[hc] at e;exact Ak e
theorem As6:Le X (.type "int") Agu:=by
 intro pins s σ H μ m xs z vs us Q I S rx rv e q
 obtain⟨d,rfl⟩:=Xx (o:=(Agu · m)) rfl (fun a _ _=>by cases a<;>rfl) e
 obtain⟨v,rfl,r⟩:=rx.one
 cases r with
 |int i =>
  cases e
  exact P6 pins s σ H _ us Q I rv (.inl ⟨i,rfl,q _ H (Same.refl H) (.int _)⟩)
 |bl b =>
  cases e
  exact P6 pins s σ H _ us Q I rv (.inr ⟨b,rfl,q _ H (Same.refl H) (.int _)⟩)
 |str x _ =>
  unfold Agu at e
  simp only at e
  split at e
  ·obtain⟨i,h1,h2⟩:=bind_some e
   cases h2
   obtain⟨u,rfl,t,rfl⟩:=Gz rv
   exact W.KIN.call_text h1 (by assumption) ⟨.int i,H,I.tok _,⟨_,rfl⟩,q _ H (Same.refl H) (.int _)⟩
  ·cases e
 |_=>exact Ak e
theorem A6 (z:String):PyData.strOk (Str.ofString z)=true:=by
 rw[strOk_iff]
 intro c hc
 rw[Str.ofString_eq_toList] at hc
 have:c∈z.toList.map Char.toNat:=by simpa using hc
 obtain⟨k,_,rfl⟩:=List.mem_map.mp this
 have:=k.valid
 rcases this with h|h
 ·show k.val.toNat < _
  lia
 ·show k.val.toNat < _
  lia
noncomputable def Zk:List D->MH->Option D:=fun xs _=>match xs with
 |[.int i]=>if i.natAbs.log2 < 1920 then some (.str (Str.ofString (toString i))) else none
 |[.str z]=>if z.length<=1000000 then some (.str z) else none
 |_=>none
theorem As8:Le X (.type "str") Zk:=by
 intro pins s σ H μ m xs z vs us Q I S rx rv e q
 obtain⟨d,rfl⟩:=Xx (o:=(Zk · m)) rfl (fun a _ _=>by cases a<;>rfl) e
 obtain⟨v,rfl,r⟩:=rx.one
 have r0:=r
 cases r with
 |int i =>
  unfold Zk at e
  simp only at e
  split at e
  ·cases e
   exact P7 pins s σ H _ us Q I rv ⟨i,rfl,by assumption,q _ H (Same.refl H) (.str _ (A6 _))⟩
  ·cases e
 |str y _ =>
  unfold Zk at e
  simp only at e
  split at e
  ·cases e
   obtain⟨u,rfl,t,rfl⟩:=Gz rv
   exact PySem.P.str_of_str ⟨.str y,H,I,⟨_,rfl⟩,q _ H (Same.refl H) r0⟩
  ·cases e
 |_=>exact Ak e
def G8:List D->MH->Option D:=fun xs m=>match xs with
 |[d]=>(sq m d).bind fun ds=>some (.tup ds)
 |_=>none
theorem Afn:Le X (.type "tuple") G8:=by
 intro pins s σ H μ m xs z vs us Q I S rx rv e q
 match xs,e with
 |[d],e =>
  obtain⟨ds,h1,h2⟩:=bind_some e
  cases h2
  obtain⟨v,rfl,r⟩:=rx.one
  obtain⟨a,ys,rfl,hq,rs⟩:=Uc S r h1
  refine Oj pins s σ H _ us Q I rv ⟨a,ys,rfl,?_⟩
  rcases hq with hq|hq
  ·exact .inl ⟨hq,fun l hl=>q _ _ (Bk hl) (.tup (.inl (.inl A8)) (rs.same (Bk hl)))⟩
  ·exact .inr ⟨hq,q _ H (Same.refl H) (.tup hq rs)⟩
noncomputable def tyD (m:MH):D->Option String
 |.non=>some "NoneType"|.bl _=>some "bool"|.int _=>some "int"|.str _=>some "str"|.tup _=>some "tuple"|.lst _=>some "list"|.kl _=>some "list"
 |.ref n=>match m[n]? with
  |some (.lst _)=>some "list"
  |some (.dct _ _)=>none
  |none=>none
 |.dic _ _=>none
 |.fn _ _=>none
noncomputable def Af4 (T U:String):Option Bool:=if U="int"\/U="bool"\/U="str"\/U="tuple"\/U="list" then some (T == U||(T == "bool"&&U == "int")) else none
theorem M5 (K:W.Frag) {T U:String}{b:Bool} (hT:T="NoneType"\/T="bool"\/T="int"\/T="str"\/T="tuple"\/T="list") (h:Af4 T U=some b):W.kitOne K (.type T) (.type U)=some b:=by
 unfold Af4 at h
 split at h
 ·rename_i hU
  cases h
  rcases hT with rfl|rfl|rfl|rfl|rfl|rfl<;>rcases hU with rfl|rfl|rfl|rfl|rfl<;>kernel_rfl
 ·cases h
def Ai7 (U:String) (f:FE):FE:=fun env m=>(f env m).bind fun d=>(tyD m d).bind fun T=>(Af4 T U).bind fun b=>some (.bl b)
end
section
variable {X:Cx}{a b c e o':Expr}{es:List Expr}{pos p p' apos cpos:Pos}{x:Str}{id T:String}
theorem Ani {pins:List (Addr×Obj)}{σ:St}{H:Hp}{s:Shared}{A:Around}{E:Value->Shared->Prop}{Q:Value->Shared->Prop}{a:Addr}{xs:List V}{c:Value}{b:Bool} (I:Inv X pins σ H s) (h:SqT X.K H a xs) (e:W.kitOne X.K (.type "tuple") c=some b) (q:∀ tk,Q (.bool b) { s with toks:=tk }) :
  wpAny (model X.prog X.w) A (call (.builtin "isinstance") [.ref a,c]) Q E s:=by
 obtain⟨its,_,⟨o,h1,h2,_⟩,_⟩:=I.tuple h
 exact W.kia_one W.kitx_tuple I.kIn ⟨o,h1,h2⟩ e (fun z=>nomatch z) q
theorem Azt {pins:List (Addr×Obj)}{σ:St}{H:Hp}{s:Shared}{A:Around}{E:Value->Shared->Prop}{Q:Value->Shared->Prop}{μ:List Addr}{m:MH}{d:D}{v:V}{u:Value}{T U:String}{b:Bool} (I:Inv X pins σ H s) (S:Sim X.K H μ m) (r:Rep X.K H μ (·∈μ) d v) (ru:RelV v u)
  (h:tyD m d=some T) (hb:Af4 T U=some b) (q:∀ tk,Q (.bool b) { s with toks:=tk }):wpAny (model X.prog X.w) A (call (.builtin "isinstance") [u,.type U]) Q E s:=by
 cases r with
 |non=>cases h;exact C8 I ru .non (M5 X.K (by simp) hb) q
 |bl b=>cases h;exact C8 I ru (.bl b) (M5 X.K (by simp) hb) q
 |int b=>cases h;exact C8 I ru (.int b) (M5 X.K (by simp) hb) q
 |str b _=>cases h;exact C8 I ru (.str b) (M5 X.K (by simp) hb) q
 |tup h1 h2=>cases h;cases ru;exact Ani I h1 (M5 X.K (by simp) hb) q
 |lst h1 h2 h3 =>
  cases h
  rcases h1 with h1|⟨o,h1⟩
  ·exact C8 I ru (.lst h1) (M5 X.K (by simp) hb) q
  ·exact C8 I ru (.frz h1) (M5 X.K (by simp) hb) q
 |kl h1 h2 =>
  cases h
  cases ru
  rcases h1 with ⟨o,h1⟩|⟨o,its,n,hk,hc,_⟩
  ·exact C8 (x:=.ref _) (u:=.ref _) I rfl (.frz h1) (M5 X.K (by simp) hb) q
  ·exact W.kia_one W.kitx_list I.kIn ⟨o,I.kIn _ _ hk,hc⟩ (M5 X.K (by simp) hb) (fun z=>nomatch z) q
 |dic h1 h2 h3 h4=>exact Ak h
 |fn _=>exact Ak h
 |@ref n a e =>
  unfold tyD at h
  cases q':m[n]? with
  |none=>simp[q'] at h
  |some ob =>
   simp only[q'] at h
   cases ob with
   |dct _ _=>cases h
   |lst ds =>
    cases h
    obtain⟨xs,e1,e2⟩:=S.obj n a _ e q'
    exact C8 I ru (.lst e1) (M5 X.K (by simp) hb) q
theorem Avm (ha:PD X e f) (hg:Gl X "isinstance") (hm:X.mg "isinstance"=none) (hg':Gl X y) (hm':X.mg y=none) (hv':bootBuiltins y=some (.type U)) (hn:y≠"__name__") (hdb:(y == ("__debug__":Str))=false) (hv:bootBuiltins "isinstance"=some (.builtin "isinstance")) (he:starEach [e,.Name y p'] X.env=(false,eval e X.env)::starEach [.Name y p'] X.env) (he':starEach [.Name y p'] X.env=(false,eval (.Name y p') X.env)::starEach [] X.env) (hpl:(backTo pos (starEach [.Name y p'] X.env)).any (·.1)=false) :
  PD X (.Call (.Name "isinstance" p) [e,.Name y p'] [] pos) (Ai7 U f):=by
 intro pins s σ H Q I h
 obtain⟨env,μ,m,z,S,E,h,q⟩:=h
 obtain⟨d,h1,h⟩:=bind_some h
 obtain⟨T,h2,h⟩:=bind_some h
 obtain⟨b,h3,h⟩:=bind_some h
 cases h
 have hA:PA X [e,.Name y p'] (Aqo (tE X.K f) (Aqo (tC (.ty U)) Bbx)):=Vh ha (Vh (Aor hg' hm' hv' rfl hn hdb) Ajx he') he
 refine Bfl (Jq I hg hm hv ?_ (by decide) (by decide))
 refine PyProof.Rows.callWith_builtin1 (thn (hA pos pins s σ H (fun vs H1=>∃ v,vs=[v,.ty U]/\Same H H1/\Rep X.K H1 μ (·∈μ) d v) I ⟨env,μ,m,d,S,E,h1,fun v H1 s1 r1=>⟨v,rfl,s1,r1⟩⟩) fun us s1 ⟨vs,H1,I1,rv,v,e1,s1',rx⟩=>?_) he hpl
 subst e1
 obtain⟨u,w,rfl,r1,r2⟩:=Axf rv
 cases r2
 have S1:=S.same s1'
 have fin:∀ tk,EP X pins σ Q (.bool b) { s1 with toks:=tk }:=fun tk=>⟨.bl b,H1,I1.tok _,rfl,q _ H1 s1' (.bl b)⟩
 exact Azt I1 S1 rx r1 h2 h3 fin
noncomputable def M1:List D->Option (List Bool)
 |[]=>some []
 |.bl b::ds=>(M1 ds).bind fun bs=>some (b::bs)
 |_=>none
def Ae2:List D->MH->Option D:=fun xs m=>match xs with
 |[d]=>(sqL m d).bind fun ds=>(M1 ds).bind fun bs=>some (.bl (bs.all (fun b=>b)))
 |_=>none
def Auc:List D->MH->Option D:=fun xs m=>match xs with
 |[d]=>(sqL m d).bind fun ds=>(M1 ds).bind fun bs=>some (.bl (bs.any (fun b=>b)))
 |_=>none
theorem Ir {K:W.Frag}{H:Hp}{μ:List Addr}{B:Addr->Prop}:∀ {ds:List D}{bs:List Bool}{vs:List V}{us:List Value},Reps K H μ B ds vs->M1 ds=some bs->Vals vs us->us=bs.map Value.bool
 |_,_,_,_,.nil,h,.nil=>by cases h;rfl
 |_,_,_,_,.cons r rs,h,.cons q qs=>by
  cases r<;>first|(cases h;done)|skip
  obtain⟨bs',h1,h2⟩:=bind_some h
  cases h2
  cases q
  rw[Ir rs h1 qs]
  rfl
theorem Aac {bs:List Bool}:(List.range bs.length).all (fun i=>bs.getD i false)=bs.all (fun b=>b):=by
 induction bs with
 |nil=>rfl
 |cons b bs ih =>
  rw[Beh,List.range_succ_eq_map,Bfi,List.all_map,Bfi,<- ih]
  rfl
theorem Aad {bs:List Bool}:(List.range bs.length).any (fun i=>bs.getD i false)=bs.any (fun b=>b):=by
 induction bs with
 |nil=>rfl
 |cons b bs ih =>
  rw[Beh,List.range_succ_eq_map,Bf6,List.any_map,Bf6,<- ih]
  rfl
theorem Io {bs:List Bool}:TruthOf prog w A (fun i v=>(bs.map Value.bool).toArray[i]?=some v) fun i=>bs.getD i false:=by
 intro i v s Q E h q
 have h':(bs.map Value.bool)[i]?=some v:=by simpa using h
 rw[Bey] at h'
 cases e:bs[i]? with
 |none=>rw[e] at h';cases h'
 |some b =>
  rw[e] at h'
  cases h'
  have q':Q (bs.getD i false) s:=q
  rw[Beo,e] at q'
  exact Bfo q'
theorem As4 (hc:X.calm=true):Le X (.builtin "all") Ae2:=by
 intro pins s σ H μ m xs z vs us Q I S rx rv e q
 match xs,e with
 |[d],e =>
  obtain⟨ds,h1,h2⟩:=bind_some e
  obtain⟨bs,hbs,h3⟩:=bind_some h2
  cases h3
  obtain⟨v,rfl,r⟩:=rx.one
  obtain⟨a,ys,rfl,hq,rs⟩:=Pl S r h1
  obtain⟨u,rfl,r1⟩:=Gz rv
  cases r1
  obtain⟨its,ri,pl,hz⟩:=I.list hq
  have e:=Ir rs hbs ri
  subst e
  refine call_all_walk (wpAny_pyIter_list pl.isList ?_)
  have hne:a≠s.heap.objs.size:=Be0 (by obtain⟨o,n,e,_⟩:=pl;exact Ben e)
  refine⟨_,_,_,_,_,_,fun i=>bs.getD i false,rfl,Walks.list (A:=X.A.in1) (I.ok.hd hc) _ a hne (bs.map Value.bool).toArray,⟨⟨_,Beq _ rfl,rfl,rfl⟩,?_⟩,Io,fun h' tk hk=>?_⟩
  ·exact pl.isList.at fun o e=>Bec _ e
  ·refine⟨.bl _,H,I.kept (h':=h') (t':=tk) fun b o e=>hk b o (fun z=>?_) (Bec _ e),?_,q _ H (Same.refl H) (.bl _)⟩
   ·have z':b=s.heap.objs.size:=by simpa using z
    exact absurd (Ben e) (by rw[z'];exact Bfh _)
   ·show Value.bool _=Value.bool _
    rw[<- Aac]
    simp
theorem As5 (hc:X.calm=true):Le X (.builtin "any") Auc:=by
 intro pins s σ H μ m xs z vs us Q I S rx rv e q
 match xs,e with
 |[d],e =>
  obtain⟨ds,h1,h2⟩:=bind_some e
  obtain⟨bs,hbs,h3⟩:=bind_some h2
  cases h3
  obtain⟨v,rfl,r⟩:=rx.one
  obtain⟨a,ys,rfl,hq,rs⟩:=Pl S r h1
  obtain⟨u,rfl,r1⟩:=Gz rv
  cases r1
  obtain⟨its,ri,pl,hz⟩:=I.list hq
  have e:=Ir rs hbs ri
  subst e
  refine call_any_walk (wpAny_pyIter_list pl.isList ?_)
  have hne:a≠s.heap.objs.size:=Be0 (by obtain⟨o,n,e,_⟩:=pl;exact Ben e)
  refine⟨_,_,_,_,_,_,fun i=>bs.getD i false,rfl,Walks.list (A:=X.A.in1) (I.ok.hd hc) _ a hne (bs.map Value.bool).toArray,⟨⟨_,Beq _ rfl,rfl,rfl⟩,?_⟩,Io,fun h' tk hk=>?_⟩
  ·exact pl.isList.at fun o e=>Bec _ e
  ·refine⟨.bl _,H,I.kept (h':=h') (t':=tk) fun b o e=>hk b o (fun z=>?_) (Bec _ e),?_,q _ H (Same.refl H) (.bl _)⟩
   ·have z':b=s.heap.objs.size:=by simpa using z
    exact absurd (Ben e) (by rw[z'];exact Bfh _)
   ·show Value.bool _=Value.bool _
    rw[<- Aad]
    simp
def inO (m:MH) (x y:D):Option Bool:=match y with
 |.str z=>(match x with
  |.str w=>some (!(Builtin.Str.occurrences z w 0 z.length 1).isEmpty)
  |_=>none)
 |y=>(C0 m x).bind fun x'=>(C0 m y).bind fun y'=>(sq [] y').bind fun ds=>if dep x'<=50 then some (ds.any fun d=>deq d x') else none
def oIn:D->D->MH->Option D:=fun x y m=>(inO m x y).bind fun b=>some (.bl b)
def Th:D->D->MH->Option D:=fun x y m=>(inO m x y).bind fun b=>some (.bl (!b))
mutual
theorem Aav {pins:List (Addr×Obj)}{σ:St}{H:Hp}{s:Shared}{A:Around}{d d':D}{v v':V}{u u':Value}{μ:List Addr}{B:Addr->Prop} (I:Inv X pins σ H s) (r:Rep X.K H μ B d v) (r':Rep X.K H μ B d' v') (n:Cm d=true) (n':Cm d'=true) (ru:RelV v u) (ru':RelV v' u') (hu:A.units+dep d' < cLine) :
  SeqAt.EqAt A s u u' (deq d d'):=by
 obtain⟨as,ra⟩:=Eo I r n ru
 obtain⟨bs,rb⟩:=Eo I r' n' ru'
 refine SeqAt.eqAt_reads _ _ _ _ _ _ _ _ ra rb (He r) (He r') ?_
 rw[Lh,Lh]
 lia
end
theorem Dq:∀ {ds:List D}{d:D},Ba ds=true->d∈ds->Cm d=true
 |_::_,_,h,.head _=>(Bool.and_eq_true_iff.mp h).1
 |_::_,_,h,.tail _ q=>Dq (Bool.and_eq_true_iff.mp h).2 q
theorem Rep.tl {pins:List (Addr×Obj)}{σ:St}{H:Hp}{s:Shared}{a:Addr}{xs ys:List V} (I:Inv X pins σ H s) (h:SqT X.K H a xs) (h':SqL X.K H a ys):False:=by
 obtain⟨its,_,p,_⟩:=I.tuple h
 obtain⟨its',_,p',_⟩:=I.list h'
 exact SeqAt.ne_of_list_tuple p'.isList p rfl
mutual
theorem Adu {H:Hp}{s:Shared} (I:Inv X pins σ H s) {d d':D}{v:V} (r:Rep X.K H μ B d v) (q:Rep X.K H μ B d' v) (n:Cm d=true) (n':Cm d'=true):pyD d=pyD d':=by
 cases r with
 |non=>cases q;rfl
 |bl _=>cases q;rfl
 |int _=>cases q;rfl
 |str _ _=>cases q;rfl
 |ref _=>exact Ce n
 |dic _ _ _ _=>exact Ce n
 |fn _=>exact Ce n
 |tup h r =>
  cases q with
  |tup h' r' =>
   cases I.tuple_inj h h'
   exact Bfa PyData.tuple (Gw I r r' n n')
  |lst h' _ r'=>exact (Rep.tl I h (.inl h')).elim
  |kl h' r'=>exact (Rep.tl I h h'.sq).elim
  |_=>exact Ce n'
 |lst h _ r =>
  cases q with
  |tup h' r'=>exact (Rep.tl I h' (.inl h)).elim
  |lst h' _ r' =>
   cases I.list_inj (.inl h) (.inl h')
   exact Bfa PyData.list (Gw I r r' n n')
  |kl h' r' =>
   cases I.list_inj (.inl h) h'.sq
   exact Bfa PyData.list (Gw I r r' n n')
  |_=>exact Ce n'
 |kl h r =>
  cases q with
  |tup h' r'=>exact (Rep.tl I h' h.sq).elim
  |lst h' _ r' =>
   cases I.list_inj h.sq (.inl h')
   exact Bfa PyData.list (Gw I r r' n n')
  |kl h' r' =>
   cases I.list_inj h.sq h'.sq
   exact Bfa PyData.list (Gw I r r' n n')
  |_=>exact Ce n'
theorem Gw {H:Hp}{s:Shared} (I:Inv X pins σ H s) {d d':List D}{v:List V} (r:Reps X.K H μ B d v) (q:Reps X.K H μ B d' v) (n:Ba d=true) (n':Ba d'=true):Cf d=Cf d':=by
 cases r with
 |nil=>cases q;rfl
 |cons h r =>
  cases q with
  |cons h' r' =>
  have e:=Bool.and_eq_true_iff.mp n
  have e':=Bool.and_eq_true_iff.mp n'
  rw[Cf,Cf,Adu I h h' e.1 e'.1,Gw I r r' e.2 e'.2]
end
theorem Ov {pins:List (Addr×Obj)}{σ:St}{H:Hp}{s:Shared}{A:Around}{μ:List Addr}{B:Addr->Prop}{x:D}{vx:V}{ux:Value} (I:Inv X pins σ H s) (rx:Rep X.K H μ B x vx) (nx:Cm x=true) (rux:RelV vx ux) (hu:A.units+dep x < cLine)
  {ds:List D}{vs:List V}{us:List Value} (rs:Reps X.K H μ B ds vs) (ns:Ba ds=true) (rv:Vals vs us) :
  ∃ e:Value->Bool,(∀ y∈us,SeqAt.EqAt A s y ux (e y))/\us.any e=ds.any fun d=>deq d x:=by
 have key:∀ y,∃ b:Bool,∀ (i:Nat) (d:D),us[i]?=some y->ds[i]?=some d->b=deq d x:=fun y=>by
  by_cases h:∃ (i:Nat) (d:D),us[i]?=some y/\ds[i]?=some d
  ·obtain⟨i,d,h1,h2⟩:=h
   refine⟨deq d x,fun j d' h3 h4=>?_⟩
   obtain⟨v,e1,r1⟩:=rs.get h2
   obtain⟨v',e2,r2⟩:=rs.get h4
   obtain⟨u,e3,r3⟩:=rv.get e1
   obtain⟨u',e4,r4⟩:=rv.get e2
   rw[h1] at e3;cases e3
   rw[h3] at e4;cases e4
   cases r3.inj r4
   unfold deq
   rw[Adu I r1 r2 (Dq ns (Be1 h2)) (Dq ns (Be1 h4))]
  ·exact⟨false,fun i d h1 h2=>absurd ⟨i,d,h1,h2⟩ h⟩
 refine⟨fun y=>Classical.choose (key y),fun y hy=>?_,?_⟩
 ·obtain⟨i,hi⟩:=Bf2 hy
  have hil:i < ds.length:=by
   have:=(List.getElem?_eq_some_iff.mp hi).1
   rw[rs.length,rv.length];exact this
  obtain⟨v,e1,r1⟩:=rs.get (i:=i) (d:=ds[i]) (by simp[hil])
  obtain⟨u,e3,r3⟩:=rv.get e1
  rw[hi] at e3;cases e3
  have ec:=Classical.choose_spec (key y) i ds[i] hi (by simp[hil])
  show SeqAt.EqAt A s y ux (Classical.choose (key y))
  rw[ec]
  exact Aav I r1 rx (Dq ns (Bfp hil)) nx r3 rux hu
 ·have aux:∀ (f:Value->Bool) (ds:List D) (us:List Value),us.length=ds.length->(∀ (i:Nat) (y:Value) (d:D),us[i]?=some y->ds[i]?=some d->f y=deq d x)->us.any f=ds.any fun d=>deq d x:=fun f=>by
   intro ds
   induction ds with
   |nil=>intro us hl _;cases us with
    |nil=>rfl
    |cons _ _=>cases hl
   |cons d ds ih =>
    intro us hl h
    cases us with
    |nil=>cases hl
    |cons y us =>
     rw[Bf6,Bf6,h 0 y d rfl rfl,ih us (by simpa using hl) fun i y d h1 h2=>h (i+1) y d (by simpa using h1) (by simpa using h2)]
  exact aux _ ds us (by rw[rs.length,rv.length]) fun i y d h1 h2=>Classical.choose_spec (key y) i d h1 h2
theorem Aa7 {k:Nat} (hr:Room k X.A) {pins:List (Addr×Obj)}{s:Shared}{σ:St}{H:Hp}{μ:List Addr}{m:MH}{x y:D}{v u:V}{v' u':Value}{b:Bool}{R:Bool->Prop} (I:Inv X pins σ H s) (S:Sim X.K H μ m) (rx:Rep X.K H μ (·∈μ) x v) (ry:Rep X.K H μ (·∈μ) y u) (r1:RelV v v') (r2:RelV u u')
  (e:inO m x y=some b):(∃ z w t t',v'=.str w t/\u'=.str z t'/\b=!(Builtin.Str.occurrences z w 0 z.length 1).isEmpty) \/
   ∃ (p:Addr) (its:List Value) (e:Value->Bool),u'=.ref p/\(s.heap.IsList p its.toArray\/s.heap.IsTuple p its.toArray)/\(∀ y∈its,SeqAt.EqAt X.A.in1 s y v' (e y))/\its.any e=b:=by
 have seq:((C0 m x).bind fun x'=>(C0 m y).bind fun y'=>(sq [] y').bind fun ds=>if dep x'<=50 then some (ds.any fun d=>deq d x') else none)=some b ->
   ∃ (p:Addr) (its:List Value) (e:Value->Bool),u'=.ref p/\(s.heap.IsList p its.toArray\/s.heap.IsTuple p its.toArray)/\(∀ y∈its,SeqAt.EqAt X.A.in1 s y v' (e y))/\its.any e=b:=fun h=>by
  obtain⟨x',h1,h⟩:=bind_some h
  obtain⟨y',h2,h⟩:=bind_some h
  obtain⟨ds,h3,h⟩:=bind_some h
  split at h
  ·rename_i hd
   cases h
   obtain⟨a1,n1⟩:=Bo S rx h1
   obtain⟨a2,n2⟩:=Bo S ry h2
   have hu:=hr.units
   have hu':X.A.in1.units+dep x' < cLine:=by show X.A.units+1+dep x' < cLine;lia
   cases a2 with
   |@tup es a xs hq rs =>
    cases h3
    cases r2
    obtain⟨its,rv,p,_⟩:=I.tuple hq
    obtain⟨f,h4,h5⟩:=Ov I a1 n1 r1 hu' rs n2 rv
    exact⟨a,its,f,rfl,.inr p,h4,h5⟩
   |@lst es a xs hq _ rs =>
    cases h3
    cases r2
    obtain⟨its,rv,p,_⟩:=I.list (.inl hq)
    obtain⟨f,h4,h5⟩:=Ov I a1 n1 r1 hu' rs n2 rv
    exact⟨a,its,f,rfl,.inl p.isList,h4,h5⟩
   |@kl es a xs hq rs =>
    cases h3
    cases r2
    obtain⟨its,rv,p,_⟩:=I.list hq.sq
    obtain⟨f,h4,h5⟩:=Ov I a1 n1 r1 hu' rs n2 rv
    exact⟨a,its,f,rfl,.inl p.isList,h4,h5⟩
   |_=>cases h3
  ·cases h
 cases ry with
 |str z ok =>
  cases rx with
  |str w ok' =>
   cases e
   obtain⟨t,rfl⟩:=r1
   obtain⟨t',rfl⟩:=r2
   exact .inl ⟨z,w,t,t',rfl,rfl,rfl⟩
  |_=>cases e
 |non=>exact .inr (seq e)
 |bl _=>exact .inr (seq e)
 |int _=>exact .inr (seq e)
 |tup h1 h2=>exact .inr (seq e)
 |lst h1 h2 h3=>exact .inr (seq e)
 |kl h1 h2=>exact .inr (seq e)
 |dic _ _ _ _=>exact .inr (seq e)
 |fn _=>exact .inr (seq e)
 |ref h'=>exact .inr (seq e)
theorem To (hr:Room k X.A):OpM X (compareOp .In) oIn:=by
 intro pins s σ H μ m x y z v u v' u' Q I S rx ry r1 r2 e q
 obtain⟨b,h1,h2⟩:=bind_some e
 cases h2
 have fin:EP X pins σ Q (.bool b) s:=⟨.bl b,H,I,rfl,q _ H (Same.refl H) (.bl b)⟩
 rcases Aa7 (R:=fun _=>True) hr I S rx ry r1 r2 h1 with ⟨z,w,t,t',rfl,rfl,hb⟩|⟨p,its,f,rfl,hp,hf,hb⟩
 ·subst hb;exact in_str fin
 ·subst hb
  rcases hp with hp|hp
  ·exact SeqAt.in_listAt f hp (fun y hy=>hf y (by simpa using hy)) (by simpa using fin)
  ·exact SeqAt.in_tupleAt f hp (fun y hy=>hf y (by simpa using hy)) (by simpa using fin)
theorem Agy (hr:Room k X.A):OpM X (compareOp .NotIn) Th:=by
 intro pins s σ H μ m x y z v u v' u' Q I S rx ry r1 r2 e q
 obtain⟨b,h1,h2⟩:=bind_some e
 cases h2
 have fin:EP X pins σ Q (.bool (!b)) s:=⟨.bl (!b),H,I,rfl,q _ H (Same.refl H) (.bl (!b))⟩
 rcases Aa7 (R:=fun _=>True) hr I S rx ry r1 r2 h1 with ⟨z,w,t,t',rfl,rfl,hb⟩|⟨p,its,f,rfl,hp,hf,hb⟩
 ·subst hb;exact notIn_str fin
 ·subst hb
  rcases hp with hp|hp
  ·exact SeqAt.notIn_listAt f hp (fun y hy=>hf y (by simpa using hy)) (by simpa using fin)
  ·exact SeqAt.notIn_tupleAt f hp (fun y hy=>hf y (by simpa using hy)) (by simpa using fin)
def MtD (X:Cx) (id:String) (o:D->List D->MH->Option D):Prop :=
 ∀ (pins:List (Addr×Obj)) (s:Shared) (σ:St) (H:Hp) (μ:List Addr) (m:MH) (x:D) (xs:List D) (z:D) (v:V) (vs:List V) (u:Value) (us:List Value) (Q:VK),Inv X pins σ H s->Sim X.K H μ m->Rep X.K H μ (·∈μ) x v->Reps X.K H μ (·∈μ) xs vs->RelV v u->Vals vs us->o x xs m=some z ->
  (∀ w H2,Same H H2->Rep X.K H2 μ (·∈μ) z w->Q w H2)->wpAny (model X.prog X.w) X.A (call (.builtin id) (u::us)) (EP X pins σ Q) X.xe s
def MtF (X:Cx) (id:String) (o:D->List D->MH->Option (List D)):Prop :=
 ∀ (pins:List (Addr×Obj)) (s:Shared) (σ:St) (H:Hp) (μ:List Addr) (m:MH) (x:D) (xs:List D) (z:List D) (v:V) (vs:List V) (u:Value) (us:List Value) (Q:VK),Inv X pins σ H s->Sim X.K H μ m->Rep X.K H μ (·∈μ) x v->Reps X.K H μ (·∈μ) xs vs->RelV v u->Vals vs us->o x xs m=some z ->
  (∀ a ys H2,Same H H2->H a=none->H2 a=some (.lst ys)->Reps X.K H2 μ (nw μ a) z ys->Q (.ref a) H2)->wpAny (model X.prog X.w) X.A (call (.builtin id) (u::us)) (EP X pins σ Q) X.xe s
noncomputable def Ahw (T:String) (m:MH):D->Bool
 |.str _=>T == "str"
 |.lst _=>T == "list"
 |.kl _=>T == "list"
 |.ref n=>T == "list"&&(match m[n]? with|some (.lst _)=>true|_=>false)
 |_=>false
theorem Vo {K:W.Frag}{H:Hp}{μ:List Addr}{m:MH} (S:Sim K H μ m) {d:D}{v:V}{T:String} (r:Rep K H μ (·∈μ) d v) (h:Ahw T m d=true):tyV K T v H:=by
 cases r with
 |str z ok=>exact beq_iff_eq.mp h
 |lst h1 h2 h3=>exact .inl ⟨beq_iff_eq.mp h,_,.inl h1⟩
 |kl h1 h2=>exact .inl ⟨beq_iff_eq.mp h,_,h1.sq⟩
 |@ref n a e =>
  obtain⟨h1,h2⟩:=Bool.and_eq_true_iff.mp h
  refine .inl ⟨beq_iff_eq.mp h1,?_⟩
  cases q:m[n]? with
  |none=>simp[q] at h2
  |some ob =>
   cases ob with
   |dct _ _=>simp[q] at h2
   |lst ds =>
    obtain⟨xs,e1,e2⟩:=S.obj n a _ e q
    exact⟨xs,SqL.of e1⟩
 |_=>exact Ce h
def fMt (T:String) (o:D->List D->MH->Option D) (f:FE) (g:FL):FE:=fun env m=>(f env m).bind fun x=>if Ahw T m x=true then (g env m).bind fun xs=>o x xs m else none
def Aez (T:String) (o:D->List D->MH->Option (List D)) (f:FE) (g:FL):FL:=fun env m=>(f env m).bind fun x=>if Ahw T m x=true then (g env m).bind fun xs=>o x xs m else none
theorem Aoq (pa:PlainAttrs T) (slot:Slot T name id) (hty:typeOf (.builtin id)=pure (.type "method_descriptor")) (hm:MtD X id o) (ho:PD X o' f) (ha:PL X (e::es) g) (hbase:attributeBase o' name X.env (eval o' X.env)=eval o' X.env) (hfew:((backTo cpos (starEach (e::es) X.env)).all (fun x=>!x.1)&&(backToKw cpos (keywordEach [] X.env)).all (fun x=>x.1.isSome)
   &&decide ((e::es).length+([]:List Keyword).length+(if ([]:List Keyword).isEmpty then 0 else 1) < 30))=true) (hline:(apos.endLine == cpos.line)=true) (hs:starEach (e::es) X.env=(false,eval e X.env)::starEach es X.env) (hplain:(backTo cpos (starEach es X.env)).any (·.1)=false) :
  PD X (.Call (.Attribute o' name apos) (e::es) [] cpos) (fMt T o f g):=by
 intro pins s σ H Q I h
 obtain⟨env,μ,m,z,S,E,h,q⟩:=h
 obtain⟨d,h1,h⟩:=bind_some h
 split at h
 ·rename_i hrec
  obtain⟨xs,h2,h3⟩:=bind_some h
  refine Bg2 hbase hfew hline rfl (thn (ho pins s σ H (fun v H1=>Same H H1/\Rep X.K H1 μ (·∈μ) d v) I ⟨env,μ,m,d,S,E,h1,fun v H1 s1 r1=>⟨s1,r1⟩⟩) fun v s1 ⟨x,H1,I1,r1,s1',rx⟩=>?_)
  obtain⟨t1,t2⟩:=Ym I1 r1 (Vo (S.same s1') rx hrec)
  refine⟨T,id,pa,slot,hty,t1,t2,?_⟩
  have hA:=ha cpos pins s1 σ H1 (fun vs H2=>Same H1 H2/\Reps X.K H2 μ (·∈μ) xs vs) I1 ⟨env,μ,m,xs,S.same s1',E.same s1',h2,fun v H1 s1 r1=>⟨s1,r1⟩⟩
  rw[hs] at hA ⊢
  refine Bg3 (by show (false||(backTo cpos (starEach es X.env)).any (·.1))=false;rw[hplain]<;>rfl) (Calls.evalArgs_plain ?_)
  exact thn hA fun us s2 ⟨vs,H2,I2,r2,s2',rs⟩=>hm pins s2 σ H2 μ m d xs z x vs v us Q I2 (S.same (s1'.trans s2')) (rx.same s2') rs r1 r2 h3 fun w H3 s3 r3=>q w H3 ((s1'.trans s2').trans s3) r3
 ·exact Ak h
theorem Bam (pa:PlainAttrs T) (slot:Slot T name id) (hty:typeOf (.builtin id)=pure (.type "method_descriptor")) (hm:MtF X id o) (ho:PD X o' f) (ha:PL X (e::es) g) (hbase:attributeBase o' name X.env (eval o' X.env)=eval o' X.env) (hfew:((backTo cpos (starEach (e::es) X.env)).all (fun x=>!x.1)&&(backToKw cpos (keywordEach [] X.env)).all (fun x=>x.1.isSome)
   &&decide ((e::es).length+([]:List Keyword).length+(if ([]:List Keyword).isEmpty then 0 else 1) < 30))=true) (hline:(apos.endLine == cpos.line)=true) (hs:starEach (e::es) X.env=(false,eval e X.env)::starEach es X.env) (hplain:(backTo cpos (starEach es X.env)).any (·.1)=false) :
  PF X (.Call (.Attribute o' name apos) (e::es) [] cpos) (Aez T o f g):=by
 intro pins s σ H Q I h
 obtain⟨env,μ,m,z,S,E,h,q⟩:=h
 obtain⟨d,h1,h⟩:=bind_some h
 split at h
 ·rename_i hrec
  obtain⟨xs,h2,h3⟩:=bind_some h
  refine Bg2 hbase hfew hline rfl (thn (ho pins s σ H (fun v H1=>Same H H1/\Rep X.K H1 μ (·∈μ) d v) I ⟨env,μ,m,d,S,E,h1,fun v H1 s1 r1=>⟨s1,r1⟩⟩) fun v s1 ⟨x,H1,I1,r1,s1',rx⟩=>?_)
  obtain⟨t1,t2⟩:=Ym I1 r1 (Vo (S.same s1') rx hrec)
  refine⟨T,id,pa,slot,hty,t1,t2,?_⟩
  have hA:=ha cpos pins s1 σ H1 (fun vs H2=>Same H1 H2/\Reps X.K H2 μ (·∈μ) xs vs) I1 ⟨env,μ,m,xs,S.same s1',E.same s1',h2,fun v H1 s1 r1=>⟨s1,r1⟩⟩
  rw[hs] at hA ⊢
  refine Bg3 (by show (false||(backTo cpos (starEach es X.env)).any (·.1))=false;rw[hplain]<;>rfl) (Calls.evalArgs_plain ?_)
  exact thn hA fun us s2 ⟨vs,H2,I2,r2,s2',rs⟩=>hm pins s2 σ H2 μ m d xs z x vs v us Q I2 (S.same (s1'.trans s2')) (rx.same s2') rs r1 r2 h3 fun a ys H3 s3 hn ha' r3=>q a ys H3 ((s1'.trans s2').trans s3) ((s1'.trans s2').free hn) ha' r3
 ·exact Ak h
theorem Aed {α:Type}{f:Str->Str->Option α}{x:D}{xs:List D}{a:α} (e:(match x,xs with
  |.str z,[.str w]=>f z w
  |_,_=>none)=some a):∃ z w,x=.str z/\xs=[.str w]/\f z w=some a:=by
 cases x with
 |str z =>
  cases xs with
  |nil=>exact Ak e
  |cons d ds =>
   cases ds with
   |cons _ _=>cases d<;>cases e
   |nil =>
    cases d with
    |str w=>exact⟨z,w,rfl,rfl,e⟩
    |_=>exact Ak e
 |_=>exact Ak e
noncomputable def Jz:List D->Option (List Str)
 |[]=>some []
 |.str z::ds=>(Jz ds).bind fun zs=>some (z::zs)
 |_=>none
set_option tactic.hygienic true in
theorem Jh {K:W.Frag}{H:Hp}{μ:List Addr}{B:Addr->Prop}:∀ {ds:List D}{ts:List Str}{vs:List V}{us:List Value},Reps K H μ B ds vs->Jz ds=some ts->Vals vs us->∃ l:List (Str×Tok),us=strValues l/\l.map (·.1)=ts/\∀ t∈ts,PyData.strOk t=true
 |_,_,_,_,.nil,h,.nil=>by cases h;exact⟨[],rfl,rfl,fun _ h=>nomatch h⟩
 |_,_,_,_,.cons r rs,h,.cons q qs=>by
  cases r<;>first|(cases h;done)|skip
  rename_i z ok
  obtain⟨ts',h1,h2⟩:=bind_some h
  cases h2
  obtain⟨t,rfl⟩:=q
  obtain⟨l,e1,e2,e3⟩:=Jh rs h1 qs
  refine⟨(z,t)::l,by rw[e1];rfl,by rw[Bee,e2],fun y hy=>?_⟩
  rcases List.mem_cons.mp hy with rfl|hy
  ·exact ok
  ·exact e3 y hy
theorem Nn (g:Array Nat):∀ (l:List Str) (a:Array Nat),(l.foldl (fun acc p=>acc++g++p.cps) a).toList=a.toList++l.flatMap fun p=>g.toList++p.cps.toList
 |[],a=>by simp
 |p::l,a=>by
  rw[List.foldl_cons,Nn g l]
  simp
theorem Za (z:Str) (ts:List Str):(Txt.join z ts).cps.toList=(ts.headD Str.empty).cps.toList++(ts.drop 1).flatMap fun p=>z.cps.toList++p.cps.toList:=Nn z.cps (ts.drop 1) _
theorem N7 (hz:PyData.strOk z=true) (h:∀ t∈ts,PyData.strOk t=true):PyData.strOk (Txt.join z ts)=true:=by
 rw[strOk_iff,Za]
 intro c hc
 rcases List.mem_append.mp hc with hc|hc
 ·cases ts with
  |nil=>exact absurd (show c∈([]:List Nat) from hc) (by simp)
  |cons t ts=>exact strOk_iff.mp (h t Beb) c hc
 ·obtain⟨t,ht,hc⟩:=List.mem_flatMap.mp hc
  rcases List.mem_append.mp hc with hc|hc
  ·exact strOk_iff.mp hz c hc
  ·exact strOk_iff.mp (h t (List.mem_of_mem_drop ht)) c hc
end
open Classical in
noncomputable section
inductive Out where
 |nx (env:Bg) (m:MH)|rt (d:D) (m:MH)|bk (env:Bg) (m:MH)|ct (env:Bg) (m:MH)
abbrev FS:=Bg->MH->Option Out
def FinS (K:W.Frag) (H:Hp) (μ:List Addr) (o:Out) (Dn:Ends):Prop:=match o with
 |.nx env' m'=>∀ σ' H' μ',Step H μ H' μ'->Sim K H' μ' m'->EnvRep K H' μ' σ' env'->Dn.nx σ' H'
 |.bk env' m'=>∀ σ' H' μ',Step H μ H' μ'->Sim K H' μ' m'->EnvRep K H' μ' σ' env'->Dn.bk σ' H'
 |.ct env' m'=>∀ σ' H' μ',Step H μ H' μ'->Sim K H' μ' m'->EnvRep K H' μ' σ' env'->Dn.ct σ' H'
 |.rt d m'=>∀ v H' μ',Step H μ H' μ'->Sim K H' μ' m'->Rep K H' μ' (·∈μ') d v->Dn.rt v H'
inductive tS (K:W.Frag) (g:FS) (Dn:Ends) (σ:St) (H:Hp):Prop
 |mk (env:Bg) (μ:List Addr) (m:MH) (o:Out) (S:Sim K H μ m) (E:EnvRep K H μ σ env) (h:g env m=some o) (q:FinS K H μ o Dn)
abbrev PSD (X:Cx) (st:Stmt) (g:FS):Prop:=PS X st (tS X.K g)
abbrev Z6 (X:Cx) (st:List Stmt) (g:FS):Prop:=PSs X st (tS X.K g)
theorem PS.imp {t t':TS} (h:PS X e t) (i:∀ D σ H,t' D σ H->t D σ H):PS X e t':=fun pins s σ H D I q=>h pins s σ H D I (i D σ H q)
theorem PSs.imp {t t':TS} (h:PSs X e t) (i:∀ D σ H,t' D σ H->t D σ H):PSs X e t':=fun pins s σ H D I q=>h pins s σ H D I (i D σ H q)
theorem PG.imp {t t':TG} (h:PG X e t) (i:∀ v σ H Q,t' v σ H Q->t v σ H Q):PG X e t':=fun pins s σ H v u Q I r q=>h pins s σ H v u Q I r (i v σ H Q q)
theorem FinS.step {K:W.Frag}{H H1:Hp}{μ μ1:List Addr}{m m1:MH}{o:Out}{Dn:Ends} (S:Sim K H μ m) (S1:Sim K H1 μ1 m1) (s:Step H μ H1 μ1) (f:FinS K H μ o Dn):FinS K H1 μ1 o Dn:=by
 have hn:=s.none S S1
 cases o with
 |nx e m'=>exact fun σ' H' μ' s' S' E'=>f σ' H' μ' (s.trans s' hn) S' E'
 |bk e m'=>exact fun σ' H' μ' s' S' E'=>f σ' H' μ' (s.trans s' hn) S' E'
 |ct e m'=>exact fun σ' H' μ' s' S' E'=>f σ' H' μ' (s.trans s' hn) S' E'
 |rt e m'=>exact fun σ' H' μ' s' S' E'=>f σ' H' μ' (s.trans s' hn) S' E'
section
variable {X:Cx}{a b c e:Expr}{es:List Expr}{pos p p':Pos}{x:Str}{st:Stmt}{rest:List Stmt}
noncomputable def B6:FS:=fun env m=>some (.nx env m)
noncomputable def Ax (f g:FS):FS:=fun env m=>(f env m).bind fun o=>match o with
 |.nx env' m'=>g env' m'
 |o=>some o
theorem Apa:Z6 X [] B6:=PSs.imp Apd fun D σ H ⟨env,μ,m,o,S,E,h,f⟩=>by
 cases h
 exact f σ H μ Step.refl S E
theorem tS.seq {K:W.Frag}{f g:FS}{Dn:Ends}{σ:St}{H:Hp} (h:tS K (Ax f g) Dn σ H):Bby (tS K f) (tS K g) Dn σ H:=by
 obtain⟨env,μ,m,o,S,E,h,q⟩:=h
 obtain⟨o1,h1,h2⟩:=bind_some h
 refine⟨env,μ,m,o1,S,E,h1,?_⟩
 cases o1 with
 |nx env' m'=>exact fun σ' H' μ' s' S' E'=>⟨env',μ',m',o,S',E',h2,q.step S S' s'⟩
 |rt d m'=>cases h2;exact q
 |bk d m'=>cases h2;exact q
 |ct d m'=>cases h2;exact q
theorem Ahg (h1:PSD X st f) (h2:Z6 X rest g):Z6 X (st::rest) (Ax f g):=PSs.imp (Ahl h1 h2) fun _ _ _ h=>h.seq
theorem Apb (h1:PSD X st f):Z6 X [st] f:=Ape h1
noncomputable def Bf (f:FE):FS:=fun env m=>(f env m).bind fun d=>some (.rt d m)
theorem Apc (he:PD X e f):PSD X (.Return (some e) pos) (Bf f):=PS.imp (Av6 he) fun D σ H ⟨env,μ,m,o,S,E,h,q⟩=>by
 obtain⟨d,h1,h2⟩:=bind_some h
 cases h2
 exact⟨env,μ,m,d,S,E,h1,fun v H' s r=>q v H' μ (Step.of_same s) (S.same s) r⟩
theorem Sim.push {K:W.Frag}{H H':Hp}{μ:List Addr}{m:MH}{a:Addr}{ds:List D}{xs:List V} (S:Sim K H μ m) (s:Same H H') (hn:H a=none) (ha:H' a=some (.lst xs)) (r:Reps K H' μ (nw μ a) ds xs) :
  Step H μ H' (μ++[a])/\Sim K H' (μ++[a]) (m++[.lst ds]):=by
 have st:Step H μ H' (μ++[a]):=⟨⟨[a],rfl,fun b hb=>by rw[show b=a by simpa using hb];exact hn⟩,fun b o e _=>s b o e⟩
 have na:a∉μ:=S.nnone hn
 refine⟨st,?_,?_,fun n b o h1 h2=>?_⟩
 ·rw[List.nodup_append]
  exact⟨S.nd,by simp,fun b hb c hc z=>na (by rw[<- show c=a by simpa using hc,<- z];exact hb)⟩
 ·simp[S.len]
 ·by_cases hl:n < μ.length
  ·rw[Be2 hl] at h1
   rw[Be2 (by rw[<- S.len];exact hl)] at h2
   have q:=S.obj n b o h1 h2
   cases o with
   |lst es=>obtain⟨ys,q1,q2⟩:=q;exact⟨ys,s _ _ q1,q2.step S st⟩
   |dct ks vs=>obtain⟨ys,q1,q2,q3⟩:=q;exact⟨ys,s _ _ q1,q2,q3.step S st⟩
  ·have e:n=μ.length:=by
    have:=(List.getElem?_eq_some_iff.mp h1).1
    rw[Bep,Bga] at this
    lia
   subst e
   rw[Be9 (Bej _)] at h1
   rw[S.len,Be9 (Bej _)] at h2
   simp at h1 h2
   subst h1
   subst h2
   refine⟨xs,ha,r.up (fun _ _ _ h=>h) (fun c u _ h b=>⟨h,fun z=>b ?_⟩) fun _ _ h=>st.ix h⟩
   rcases List.mem_append.mp z with z|z
   ·exact .inl z
   ·exact .inr (by simpa using z)
theorem Vp {K:W.Frag}{H:Hp}{μ:List Addr}{B:Addr->Prop}{m:MH}{a:Addr} (hl:μ.length=m.length):Rep K H (μ++[a]) B (.ref m.length) (.ref a):=.ref (by rw[<- hl];simp)
noncomputable def sIf (t:FB) (f g:FS):FS:=fun env m=>(t env m).bind fun c=>if c=true then f env m else g env m
theorem Av7 {t:FB} (hc:PB X c t) (ha:Z6 X sa f) (hb:Z6 X sb g):PSD X (.If c sa sb pos) (sIf t f g):=PS.imp (Bap hc ha hb) fun D σ H ⟨env,μ,m,o,S,E,h,q⟩=>by
 obtain⟨b,h1,h2⟩:=bind_some h
 refine⟨env,μ,m,b,S,E,h1,fun H1 s1=>?_⟩
 have st:=Step.of_same (μ:=μ) s1
 cases b with
 |true =>
  rw[Bef rfl] at h2
  exact Azv ⟨env,μ,m,o,S.same s1,E.same s1,h2,q.step S (S.same s1) st⟩
 |false =>
  rw[Beg Bew] at h2
  exact Azu ⟨env,μ,m,o,S.same s1,E.same s1,h2,q.step S (S.same s1) st⟩
abbrev FG:=D->Bg->Option Bg
inductive tG (K:W.Frag) (g:FG) (v:V) (σ:St) (H:Hp) (Q:St->Hp->Prop):Prop
 |mk (env:Bg) (μ:List Addr) (m:MH) (d:D) (env':Bg) (S:Sim K H μ m) (E:EnvRep K H μ σ env) (r:Rep K H μ (·∈μ) d v) (h:g d env=some env') (q:∀ σ',EnvRep K H μ σ' env'->Q σ' H)
inductive tGs (K:W.Frag) (g:List D->Bg->Option Bg) (vs:List V) (σ:St) (H:Hp) (Q:St->Hp->Prop):Prop
 |mk (env:Bg) (μ:List Addr) (m:MH) (ds:List D) (env':Bg) (S:Sim K H μ m) (E:EnvRep K H μ σ env) (r:Reps K H μ (·∈μ) ds vs) (h:g ds env=some env') (q:∀ σ',EnvRep K H μ σ' env'->Q σ' H)
abbrev PGD (X:Cx) (e:Expr) (g:FG):Prop:=PG X e (tG X.K g)
abbrev Aq9 (X:Cx) (es:List Expr) (g:List D->Bg->Option Bg):Prop:=PGs X es (tGs X.K g)
theorem PGs.imp {X:Cx}{e:List Expr}{t t':TGs} (h:PGs X e t) (i:∀ v σ H Q,t' v σ H Q->t v σ H Q):PGs X e t':=fun pins s σ H v u Q I r q=>h pins s σ H v u Q I r (i v σ H Q q)
noncomputable def A7 (i:Nat):FG:=fun d env=>some (env.set i (some d))
theorem X2 (hN:X.N.Nodup) (hi:X.N[i]?=some x) (hx:Loc X.env.scope x) (hf:X.fn x=true\/X.env.scope.names.lookup x=some .local):PGD X (.Name x pos) (A7 i):=PG.imp (Aow hN hi hx hf) fun v σ H Q ⟨env,μ,m,d,env',S,E,r,h,q⟩=>by
 cases h
 exact q _ (E.set i r)
noncomputable def Al6:List D->Bg->Option Bg:=fun ds env=>match ds with|[]=>some env|_=>none
noncomputable def Iw (g:FG) (h:List D->Bg->Option Bg):List D->Bg->Option Bg:=fun ds env=>match ds with
 |d::ds=>(g d env).bind fun env'=>h ds env'
 |[]=>none
theorem Aha:Aq9 X [] Al6:=PGs.imp Aoy fun v σ H Q ⟨env,μ,m,ds,env',S,E,r,h,q⟩=>by
 cases r with
 |nil=>cases h;exact⟨rfl,q _ E⟩
 |cons _ _=>exact Ak h
theorem Ac0 {g:FG}{h:List D->Bg->Option Bg} (h1:PGD X e g) (h2:Aq9 X es h) (hs:(assignEach (e::es) X.env).map (·.2)=assign e X.env::(assignEach es X.env).map (·.2)):Aq9 X (e::es) (Iw g h) :=
 PGs.imp (Ag9 h1 h2 hs) fun v σ H Q ⟨env,μ,m,ds,env',S,E,r,h,q⟩=>by
  cases r with
  |nil=>exact Ak h
  |cons r rs =>
   obtain⟨env1,h1,h2⟩:=bind_some h
   exact⟨_,_,rfl,env,μ,m,_,env1,S,E,r,h1,fun σ' E'=>⟨env1,μ,m,_,env',S,E',rs,h2,q⟩⟩
noncomputable def Aew (n:Nat) (g:List D->Bg->Option Bg):FG:=fun d env=>match d with
 |.tup ds=>if ds.length=n then g ds env else none
 |_=>none
theorem Aox (hc:X.calm=true) (h:Aq9 X es g) (hn:(assignEach es X.env).length=n) (hst:(assignEach es X.env).findIdx? (·.1)=none):PGD X (.Tuple es k pos) (Aew n g) :=
 PG.imp (Av3 hc h hn hst) fun v σ H Q ⟨env,μ,m,d,env',S,E,r,h,q⟩=>by
  cases r with
  |@tup ds a xs hq rs =>
   unfold Aew at h
   simp only at h
   split at h
   ·rename_i hl
    exact⟨a,xs,rfl,hq,by rw[<- rs.length];exact hl,env,μ,m,ds,env',S,E,rs,h,q⟩
   ·exact Ak h
  |_=>exact Ak h
noncomputable def Bn (i:Nat) (f:FE):FS:=fun env m=>(f env m).bind fun d=>some (.nx (env.set i (some d)) m)
theorem Ada (hN:X.N.Nodup) (hi:X.N[i]?=some x) (hx:Loc X.env.scope x) (he:PD X e f) (hs:swapsWith e (some (.Name x p')) pos.line X.env=pure false) (hf:X.fn x=true\/X.env.scope.names.lookup x=some .local) :
  PSD X (.Assign [.Name x p'] e pos) (Bn i f):=PS.imp (Ac9 hN hi hx he hs hf) fun D σ H ⟨env,μ,m,o,S,E,h,q⟩=>by
 obtain⟨d,h1,h2⟩:=bind_some h
 cases h2
 exact⟨env,μ,m,d,S,E,h1,fun v H' s r=>q _ H' μ (Step.of_same s) (S.same s) ((E.same s).set i r)⟩
noncomputable def Ip (i:Nat) (f:FL):FS:=fun env m=>(f env m).bind fun ds=>some (.nx (env.set i (some (.ref m.length))) (m++[.lst ds]))
theorem Ao9 {i:Nat}{f:FL} (hN:X.N.Nodup) (hi:X.N[i]?=some x) (hx:Loc X.env.scope x) (he:PF X e f) (hs:swapsWith e (some (.Name x p')) pos.line X.env=pure false) (hf:X.fn x=true\/X.env.scope.names.lookup x=some .local) :
  PSD X (.Assign [.Name x p'] e pos) (Ip i f):=PS.imp (Ac9 hN hi hx he hs hf) fun D σ H ⟨env,μ,m,o,S,E,h,q⟩=>by
 obtain⟨ds,h1,h2⟩:=bind_some h
 cases h2
 refine⟨env,μ,m,ds,S,E,h1,fun a xs H' s hn ha r=>?_⟩
 obtain⟨st,S'⟩:=S.push s hn ha r
 exact q _ H' _ st S' ((E.step S st).set i (Vp S.len))
noncomputable def Awp (f:FE) (g:FG):FS:=fun env m=>(f env m).bind fun d=>(g d env).bind fun env'=>some (.nx env' m)
theorem Ao6 (he:PD X e f) (hg:PGD X tg g) (hs:swapsWithSole [tg] e pos.line X.env=pure false) (hw:swappedStores [tg] e X.env=pure none) (h1:(assignEach [tg] X.env).map (·.2)=[assign tg X.env]) :
  PSD X (.Assign [tg] e pos) (Awp f g):=PS.imp (Ac8 he hg hs hw h1) fun D σ H ⟨env,μ,m,o,S,E,h,q⟩=>by
 obtain⟨d,h1,h2⟩:=bind_some h
 obtain⟨env',hg',h3⟩:=bind_some h2
 cases h3
 exact⟨env,μ,m,d,S,E,h1,fun v H' s r=>⟨env,μ,m,d,env',S.same s,E.same s,r,hg',fun σ' E'=>q σ' H' μ (Step.of_same s) (S.same s) E'⟩⟩
end
end
open Classical
noncomputable section
section
variable {X:Cx}{a b c e:Expr}{es:List Expr}{pos p p':Pos}{x:Str}{st:Stmt}{rest:List Stmt}
noncomputable def Lw (chk:MH->Prop) (g:FG) (b:FS):List D->Bg->MH->Option Out
 |[],env,m=>if chk m then some (.nx env m) else none
 |d::ds,env,m=>if chk m then (g d env).bind fun env1=>(b env1 m).bind fun o=>match o with
   |.nx env2 m2=>Lw chk g b ds env2 m2
   |.ct env2 m2=>Lw chk g b ds env2 m2
   |.bk env2 m2=>some (.nx env2 m2)
   |.rt d m2=>some (.rt d m2)
  else none
structure Src (K:W.Frag) (J:It) (all:List D) (chk:MH->Prop) (src:Hp->List Addr->MH->Prop):Prop where
 go:∀ H μ m (i:Nat) d,Sim K H μ m->src H μ m->chk m->all[i]?=some d->J.go i H/\∀ x H',J.yld i H x H'->Same H H'/\Rep K H' μ (·∈μ) d x
 stop:∀ H μ m,Sim K H μ m->src H μ m->chk m->J.stop all.length H
 keep:∀ H μ m H' μ' m',src H μ m->Sim K H μ m->Step H μ H' μ'->Sim K H' μ' m'->src H' μ' m'
theorem Afw {K:W.Frag}{J:It}{all:List D}{chk:MH->Prop}{src:Hp->List Addr->MH->Prop} (hs:Src K J all chk src) {g:FG}{b:FS}{Dn:Ends}{σ:St}{H:Hp}{env:Bg}{μ:List Addr}{m:MH}{o:Out}
  (S:Sim K H μ m) (E:EnvRep K H μ σ env) (h0:src H μ m) (h:Lw chk g b all env m=some o) (f:FinS K H μ o Dn) :
  ∃ W:Nat->Nat->St->Hp->Prop,(∃ m,W 0 m σ H)/\∀ i m σ H,W i m σ H ->
   (J.stop i H/\Dn.nx σ H)\/(J.go i H/\∃ N:St->Hp->Prop,(∀ σ' H',N σ' H'->∃ m',m' < m/\W (i+1) m' σ' H')/\∀ x H',J.yld i H x H'->tG K g x σ H' fun σ2 H2=>tS K b { Dn with nx:=N,ct:=N,bk:=Dn.nx } σ2 H2):=by
 refine⟨fun i k σ H=>k=all.length - i/\i<=all.length/\∃ env μ m,Sim K H μ m/\EnvRep K H μ σ env/\src H μ m/\Lw chk g b (all.drop i) env m=some o/\FinS K H μ o Dn,⟨all.length,by simp,Bfe _,env,μ,m,S,E,h0,by simpa using h,f⟩,?_⟩
 rintro i k σ1 H1 ⟨rfl,hi,env1,μ1,m1,S1,E1,h1,e1,f1⟩
 by_cases hlt:i < all.length
 ·have hd:all.drop i=all[i]::all.drop (i+1):=Bf1 hlt
  rw[hd] at e1
  unfold Lw at e1
  split at e1
  ·rename_i hc
   obtain⟨env2,e2,e1⟩:=bind_some e1
   obtain⟨o2,e3,e4⟩:=bind_some e1
   obtain⟨go,yl⟩:=hs.go H1 μ1 m1 i all[i] S1 h1 hc (by simp[hlt])
   refine .inr ⟨go,fun σ' H'=>all.length - (i+1) < all.length - i/\i+1<=all.length/\∃ env μ m,Sim K H' μ m/\EnvRep K H' μ σ' env/\src H' μ m/\Lw chk g b (all.drop (i+1)) env m=some o/\FinS K H' μ o Dn,fun σ' H' ⟨l1,l2,q⟩=>⟨_,l1,rfl,l2,q⟩,fun x H2 y=>?_⟩
   obtain⟨s2,r2⟩:=yl x H2 y
   have S2:=S1.same s2
   refine⟨env1,μ1,m1,all[i],env2,S2,E1.same s2,r2,e2,fun σ' E'=>⟨env2,μ1,m1,o2,S2,E',e3,?_⟩⟩
   have f2:=f1.step S1 S2 (Step.of_same s2)
   have h2:=hs.keep H1 μ1 m1 H2 μ1 m1 h1 S1 (Step.of_same s2) S2
   cases o2 with
   |nx env3 m3=>exact fun σ3 H3 μ3 st3 S3 E3=>⟨by lia,hlt,env3,μ3,m3,S3,E3,hs.keep _ _ _ _ _ _ h2 S2 st3 S3,e4,f2.step S2 S3 st3⟩
   |ct env3 m3=>exact fun σ3 H3 μ3 st3 S3 E3=>⟨by lia,hlt,env3,μ3,m3,S3,E3,hs.keep _ _ _ _ _ _ h2 S2 st3 S3,e4,f2.step S2 S3 st3⟩
   |bk env3 m3=>cases e4;exact f2
   |rt d m3=>cases e4;exact f2
  ·cases e1
 ·have e:i=all.length:=by lia
  subst e
  rw[List.drop_length] at e1
  unfold Lw at e1
  split at e1
  ·rename_i hc
   cases e1
   exact .inl ⟨hs.stop H1 μ1 m1 S1 h1 hc,f1 σ1 H1 μ1 Step.refl S1 E1⟩
  ·exact Ak e1
structure Wk where
 all:List D
 chk:MH->Prop
abbrev FW:=Bg->MH->Option Wk
inductive tW (K:W.Frag) (f:FW) (σ:St) (H:Hp) (R:It->Hp->Prop):Prop
 |mk (env:Bg) (μ:List Addr) (m:MH) (w:Wk) (S:Sim K H μ m) (E:EnvRep K H μ σ env) (h:f env m=some w) (q:∀ H' J src,Same H H'->Src K J w.all w.chk src->src H' μ m->R J H')
abbrev PW' (X:Cx) (tg e:Expr) (f:FW):Prop:=PI X tg e (tW X.K f)
def T6 (f:FW) (g:FG) (b:FS):FS:=fun env m=>(f env m).bind fun w=>Lw w.chk g b w.all env m
theorem PI.imp {t t':TI} (h:PI X tg e t) (i:∀ σ H Q,t' σ H Q->t σ H Q):PI X tg e t':=fun pins s σ H Q I q=>h pins s σ H Q I (i σ H Q q)
theorem Ao7 {tg iter:Expr}{body:List Stmt}{f:FW}{g:FG}{b:FS} (hp:PassesOwn (model X.prog X.w) X.A X.env X.xe) (hc:X.calm=true) (hi:PW' X tg iter f) (hg:PGD X tg g) (hb:Z6 X body b)
  (hs:∀ x,foldedSetIterable iter X.env x=pure x):PSD X (.For tg iter body [] pos) (T6 f g b):=PS.imp (Av5 hp hc hi hg hb hs) fun D σ H ⟨env,μ,m,o,S,E,h,q⟩=>by
 obtain⟨w,h1,h2⟩:=bind_some h
 exact⟨env,μ,m,w,S,E,h1,fun H' J src s hsrc h0=>Afw hsrc (S.same s) (E.same s) h0 h2 (q.step S (S.same s) (Step.of_same s))⟩
def Bm:MH->Prop:=fun _=>True
theorem Aql {K:W.Frag}{a:Addr}{ds:List D}:Src K (Itt K a) ds Bm (fun H μ m=>Rep K H μ (·∈μ) (.tup ds) (.ref a)) where
 go:=fun H μ m i d S h _ e=>by
  cases h with
  |tup hq rs =>
   obtain⟨v,e1,r⟩:=rs.get e
   exact⟨⟨_,v,hq,e1⟩,fun x H' ⟨h1,h2⟩=>by subst h1;rw[h2 _ hq] at e1;cases e1;exact⟨Same.refl _,r⟩⟩
 stop:=fun H μ m S h _=>by
  cases h with
  |tup hq rs=>exact⟨_,hq,by rw[rs.length];exact Bej _⟩
 keep:=fun H μ m H' μ' m' h S st S'=>h.step S st
theorem Aqh {K:W.Frag}{a:Addr}{ds:List D}:Src K (Itl K a) ds Bm (fun H μ m=>Rep K H μ (·∈μ) (.lst ds) (.ref a)) where
 go:=fun H μ m i d S h _ e=>by
  cases h with
  |lst hq _ rs =>
   obtain⟨v,e1,r⟩:=rs.get e
   exact⟨⟨_,v,.inl hq,e1⟩,fun x H' ⟨h1,h2⟩=>by subst h1;rw[h2 _ (.inl hq)] at e1;cases e1;exact⟨Same.refl _,r⟩⟩
 stop:=fun H μ m S h _=>by
  cases h with
  |lst hq _ rs=>exact⟨_,.inl hq,by rw[rs.length];exact Bej _⟩
 keep:=fun H μ m H' μ' m' h S st S'=>h.step S st
theorem Awv {K:W.Frag}{a:Addr}{ds:List D}:Src K (Itl K a) ds Bm (fun H μ m=>Rep K H μ (·∈μ) (.kl ds) (.ref a)) where
 go:=fun H μ m i d S h _ e=>by
  cases h with
  |kl hq rs =>
   obtain⟨v,e1,r⟩:=rs.get e
   exact⟨⟨_,v,hq.sq,e1⟩,fun x H' ⟨h1,h2⟩=>by subst h1;rw[h2 _ hq.sq] at e1;cases e1;exact⟨Same.refl _,r⟩⟩
 stop:=fun H μ m S h _=>by
  cases h with
  |kl hq rs=>exact⟨_,hq.sq,by rw[rs.length];exact Bej _⟩
 keep:=fun H μ m H' μ' m' h S st S'=>h.step S st
theorem Aqj {K:W.Frag}{a:Addr}{ds:List D}{n:Nat}:Src K (Itl K a) ds (fun m=>m[n]?=some (.lst ds)) (fun H μ m=>μ[n]?=some a) where
 go:=fun H μ m i d S h hc e=>by
  obtain⟨xs,e1,rs⟩:=S.obj n a _ h hc
  obtain⟨v,e2,r⟩:=rs.get e
  exact⟨⟨_,v,SqL.of e1,e2⟩,fun x H' ⟨h1,h2⟩=>by subst h1;rw[h2 _ (SqL.of e1)] at e2;cases e2;exact⟨Same.refl _,r⟩⟩
 stop:=fun H μ m S h hc=>by
  obtain⟨xs,e1,rs⟩:=S.obj n a _ h hc
  exact⟨_,SqL.of e1,by rw[rs.length];exact Bej _⟩
 keep:=fun H μ m H' μ' m' h S st S'=>st.ix h
noncomputable def Dc (lo:Int) (n:Nat):List D:=(List.range n).map fun (i:Nat)=>.int (lo+i)
theorem Aec {K:W.Frag}{lo:Int}{n:Nat}:Src K (Itr lo n) (Dc lo n) Bm (fun _ _ _=>True) where
 go:=fun H μ m i d S h _ e=>by
  unfold Dc at e
  rw[Bey] at e
  cases q:(List.range n)[i]? with
  |none=>rw[q] at e;cases e
  |some j =>
   rw[q] at e
   cases e
   have hi:=(List.getElem?_eq_some_iff.mp q).1
   rw[List.length_range] at hi
   rw[Bgk hi] at q
   cases q
   exact⟨hi,fun x H' ⟨h1,h2⟩=>by subst h1;subst h2;exact⟨Same.refl _,.int _⟩⟩
 stop:=fun H μ m S h _=>by show n<=(Dc lo n).length;unfold Dc;simp
 keep:=fun H μ m H' μ' m' h S st S'=>trivial
def Ji (g:FL):FW:=fun env m=>(g env m).bind fun ds=>match ds with
 |[.int j]=>if -(2 ^ 62)<=j/\j < 2 ^ 62 then some ⟨Dc 0 j.toNat,Bm⟩ else none
 |_=>none
theorem Adg (hg:Gl X "range") (hm:X.mg "range"=none) (ha:PL X [a] g) (hs:starEach [a] X.env=[(false,eval a X.env)]):PW' X tg (.Call (.Name "range" p) [a] [] pos) (Ji g):=PI.imp (Ac1 hg hm ha hs) fun σ H R ⟨env,μ,m,w,S,E,h,q⟩=>by
 obtain⟨ds,h1,h2⟩:=bind_some h
 refine⟨env,μ,m,ds,S,E,h1,fun vs H' s rs=>?_⟩
 obtain⟨j,rfl⟩:∃ j,ds=[.int j]:=by
  cases ds with
  |nil=>cases h2
  |cons d ds =>
   cases ds with
   |cons _ _=>cases d<;>cases h2
   |nil =>
    cases d with
    |int j=>exact⟨j,rfl⟩
    |_=>cases h2
 simp only at h2
 split at h2
 ·rename_i hc
  cases h2
  obtain⟨v,rfl,r⟩:=rs.one
  cases r
  exact⟨j,rfl,hc.1,hc.2,q H' _ _ s Aec trivial⟩
 ·exact Ak h2
noncomputable def Gq (c:FB) (b:FS):Nat->Bg->MH->Option Out
 |0,_,_=>none
 |k+1,env,m=>(c env m).bind fun t=>if t=true then (b env m).bind fun o=>match o with
   |.nx env2 m2=>Gq c b k env2 m2
   |.ct env2 m2=>Gq c b k env2 m2
   |.bk env2 m2=>some (.nx env2 m2)
   |.rt d m2=>some (.rt d m2)
  else some (.nx env m)
theorem Adc {f:FB}{b:FS}{body:List Stmt} (k:Nat) (hp:PassesOwn (model X.prog X.w) X.A X.env X.xe) (hc:PB X c f) (hb:Z6 X body b):PSD X (.While c body [] pos) (Gq f b k):=PS.imp (Ahf hp hc hb) fun D σ H ⟨env,μ,m,o,S,E,h,q⟩=>by
 refine⟨fun k σ H=>∃ env μ m,Sim X.K H μ m/\EnvRep X.K H μ σ env/\Gq f b k env m=some o/\FinS X.K H μ o D,⟨k,env,μ,m,S,E,h,q⟩,?_⟩
 rintro k σ1 H1 ⟨env1,μ1,m1,S1,E1,e1,f1⟩
 cases k with
 |zero=>cases e1
 |succ k =>
  unfold Gq at e1
  obtain⟨t,e2,e3⟩:=bind_some e1
  refine⟨env1,μ1,m1,t,S1,E1,e2,fun H2 s2=>?_⟩
  have S2:=S1.same s2
  have f2:=f1.step S1 S2 (Step.of_same s2)
  cases t with
  |true =>
   rw[Bef rfl] at e3
   obtain⟨o2,e3,e4⟩:=bind_some e3
   refine Azv ⟨fun σ' H'=>∃ env μ m,Sim X.K H' μ m/\EnvRep X.K H' μ σ' env/\Gq f b k env m=some o/\FinS X.K H' μ o D,fun σ' H' q=>⟨k,Bhf k,q⟩,env1,μ1,m1,o2,S2,E1.same s2,e3,?_⟩
   cases o2 with
   |nx env3 m3=>exact fun σ3 H3 μ3 st3 S3 E3=>⟨env3,μ3,m3,S3,E3,e4,f2.step S2 S3 st3⟩
   |ct env3 m3=>exact fun σ3 H3 μ3 st3 S3 E3=>⟨env3,μ3,m3,S3,E3,e4,f2.step S2 S3 st3⟩
   |bk env3 m3=>cases e4;exact f2
   |rt d m3=>cases e4;exact f2
  |false =>
   rw[Beg Bew] at e3
   cases e3
   exact Azu (f2 σ1 H2 μ1 Step.refl S2 (E1.same s2))
end
mutual
/-- without lists -/
def Bc:D->Bool
 |.lst _=>false
 |.kl _=>false
 |.ref _=>false
 |.dic _ _=>false
 |.fn _ _=>false
 |.tup ds=>A3 ds
 |_=>true
def A3:List D->Bool
 |[]=>true
 |d::ds=>Bc d&&A3 ds
end
noncomputable def xp1 (m:MH):D->Option D
 |.ref n=>match m[n]? with
  |some (.lst ds)=>if A3 ds=true then some (.lst ds) else none
  |_=>none
 |_=>none
def xpL (m:MH):List D->Option (List D)
 |[]=>some []
 |d::ds=>(xp1 m d).bind fun e=>(xpL m ds).bind fun es=>some (e::es)
mutual
/-- what is handed back: the mirror's own lists,as they stand -/
def Ci (m:MH):D->Option D
 |.ref n=>match m[n]? with
  |some (.lst ds)=>if A3 ds=true then some (.lst ds) else (xpL m ds).bind fun es=>some (.lst es)
  |some (.dct ks vs)=>if A3 vs=true then some (.dic ks vs) else none
  |_=>none
 |.lst _=>none
 |.kl _=>none
 |.dic _ _=>none
 |.fn _ _=>none
 |.tup ds=>(Mx m ds).bind fun es=>some (.tup es)
 |.non=>some .non
 |.bl b=>some (.bl b)
 |.int i=>some (.int i)
 |.str x=>some (.str x)
def Mx (m:MH):List D->Option (List D)
 |[]=>some []
 |d::ds=>(Ci m d).bind fun e=>(Mx m ds).bind fun es=>some (e::es)
end
section
variable {K:W.Frag}{H H':Hp}{μ μ':List Addr}{B B':Addr->Prop}{m:MH}
mutual
theorem Rep.nolst {d:D}{v:V} (r:Rep K H μ B d v) (e:Bc d=true):Rep K H μ' B' d v:=by
 cases r with
 |non=>exact .non
 |bl b=>exact .bl b
 |int b=>exact .int b
 |str b h=>exact .str b h
 |tup h r=>exact .tup h (Reps.nolst r e)
 |_=>exact Ce e
theorem Reps.nolst {ds:List D}{vs:List V} (r:Reps K H μ B ds vs) (e:A3 ds=true):Reps K H μ' B' ds vs:=by
 cases r with
 |nil=>exact .nil
 |cons h r =>
  have e':=(Bool.and_eq_true_iff.mp e)
  exact .cons (Rep.nolst h e'.1) (Reps.nolst r e'.2)
end
theorem Aqx (S:Sim K H μ m) (hn:∀ a∈μ,B a->False) {d d':D}{v:V} (r:Rep K H μ (·∈μ) d v) (h:xp1 m d=some d'):Rep K H [] B d' v:=by
 cases r with
 |@ref n a e =>
  unfold xp1 at h
  cases q:m[n]? with
  |none=>simp[q] at h
  |some o =>
   simp only[q] at h
   cases o with
   |dct _ _=>exact Ak h
   |lst ds =>
    simp only at h
    split at h
    ·rename_i hl
     cases h
     obtain⟨xs,e1,e2⟩:=S.obj n a _ e q
     exact .lst (.inl e1) (hn a (Be1 e)) (e2.nolst hl)
    ·exact Ak h
 |_=>exact Ak h
theorem Aqy (S:Sim K H μ m) (hn:∀ a∈μ,B a->False) {ds ds':List D}{vs:List V} (r:Reps K H μ (·∈μ) ds vs) (h:xpL m ds=some ds'):Reps K H [] B ds' vs:=by
 induction ds generalizing ds' vs with
 |nil=>cases r;cases h;exact .nil
 |cons d ds ih =>
  cases r with
  |cons r rs =>
  obtain⟨e,h1,h⟩:=bind_some h
  obtain⟨es,h2,h⟩:=bind_some h
  cases h
  exact .cons (Aqx S hn r h1) (ih rs h2)
mutual
theorem Mw (S:Sim K H μ m) (hn:∀ a∈μ,B a->False):∀ {d d':D}{v:V},Rep K H μ (·∈μ) d v->Ci m d=some d'->Rep K H [] B d' v
 |_,_,_,.non,h=>by cases h;exact .non
 |_,_,_,.bl b,h=>by cases h;exact .bl b
 |_,_,_,.int b,h=>by cases h;exact .int b
 |_,_,_,.str b ok,h=>by cases h;exact .str b ok
 |_,_,_,.tup hq r,h=>by
  rw[Ci] at h
  obtain⟨es,h1,h2⟩:=bind_some h
  cases h2
  exact .tup hq (Oa S hn r h1)
 |_,_,_,.lst _ _ _,h=>nomatch h
 |_,_,_,.kl _ _,h=>Ak h
 |_,_,_,.dic _ _ _ _,h=>Ak h
 |_,_,_,.fn _,h=>nomatch h
 |.ref n,_,_,.ref (a:=a) e,h=>by
  rw[Ci] at h
  cases q:m[n]? with
  |none=>simp[q] at h
  |some o =>
   simp only[q] at h
   cases o with
   |dct ks vs =>
    simp only at h
    split at h
    ·rename_i hl
     cases h
     obtain⟨xs,e1,e2,e3⟩:=S.obj n a _ e q
     exact .dic (.inl e1) (hn a (Be1 e)) e2 (e3.nolst hl)
    ·cases h
   |lst ds =>
    simp only at h
    split at h
    ·rename_i hl
     cases h
     obtain⟨xs,e1,e2⟩:=S.obj n a _ e q
     exact .lst (.inl e1) (hn a (Be1 e)) (e2.nolst hl)
    ·obtain⟨es,h1,h⟩:=bind_some h
     cases h
     obtain⟨xs,e1,e2⟩:=S.obj n a _ e q
     exact .lst (.inl e1) (hn a (Be1 e)) (Aqy S hn e2 h1)
theorem Oa (S:Sim K H μ m) (hn:∀ a∈μ,B a->False):∀ {ds ds':List D}{vs:List V},Reps K H μ (·∈μ) ds vs->Mx m ds=some ds'->Reps K H [] B ds' vs
 |_,_,_,.nil,h=>by cases h;exact .nil
 |_,_,_,.cons r rs,h=>by
  rw[Mx] at h
  obtain⟨d',h1,h⟩:=bind_some h
  obtain⟨ds',h2,h⟩:=bind_some h
  cases h
  exact .cons (Mw S hn r h1) (Oa S hn rs h2)
end
end
def old (H H':Hp):Addr->Prop:=fun a=>H a≠none\/∃ o u,H' a=some (.frz o u)
inductive spP (K:W.Frag) (n:Nat) (fn:List D->Option D) (vs:List V) (H:Hp) (Q:VK) (E:XK):Prop
 |mk (ds:List D) (d:D) (r:Reps K H [] (fun _=>False) ds vs) (l:ds.length=n) (h:fn ds=some d) (q:∀ v H',Same H H'->Rep K H' [] (old H H') d v->Q v H')
noncomputable def Cy (n:Nat) (g:FS):List D->Option D:=fun ds=>(g (ds.map some++List.replicate (n - ds.length) none) []).bind fun o=>match o with
 |.rt d m=>Ci m d
 |.nx _ _=>some .non
 |_=>none
theorem Ez {K:W.Frag}{H:Hp}{N:List Str}{ds:List D}{vs:List V} (r:Reps K H [] (fun _=>False) ds vs):EnvRep K H [] (Im N vs) (ds.map some++List.replicate (N.length - ds.length) none):=by
 refine⟨by unfold Im;simp[r.length],fun i d e=>?_⟩
 by_cases hi:i < ds.length
 ·rw[Be2 (by simpa using hi),Bey] at e
  cases q:ds[i]? with
  |none=>rw[q] at e;cases e
  |some d' =>
   rw[q] at e
   cases e
   obtain⟨v,h1,h2⟩:=r.get q
   refine⟨v,?_,h2.up (fun _ _ _ h=>h) (fun _ _ _ h _=>⟨h,by simp⟩) fun _ _ h=>h⟩
   unfold Im
   rw[Be2 (by simpa [r.length] using hi),Bey,h1]
   rfl
 ·rw[Be9 (by simpa using hi),Bgp] at e
  split at e<;>cases e
theorem Amd {P:Program}{w:World}{K:W.Frag}{mg:Str->Option Value}{base:Heap}{x qual:Str}{st:Stmt}{f:Addr}{fd:FuncData}{N ps:List Str}{k:Nat}{g:FS} (F:Fun K x qual st f fd) (S:FnScope N ps (As st))
  (hbody:∀ (cdv:Value) (A:Around) (outer:List Env) (s:Shared) (H:Hp) (E:XK),Room k (A.deeper (envOfC qual (As st) s.heap.objs.size f cdv)) ->
   Z6 (Uo CX0 P w K mg base N qual (As st) f cdv A outer s H E).nox (By st) g):FnOk P w K mg base CX0 (k+1) f fd ps (spP K ps.length (Cy N.length g)):=by
 refine F.ok S (fun vs H Q E h=>?_) (fun cdv A outer s H vs Q E hr h=>?_)
 ·obtain⟨ds,d,r,hl,_⟩:=h
  rw[<- r.length];exact hl
 ·obtain⟨ds,d,r,hl,h,q⟩:=h
  refine⟨_,hbody cdv A outer s H E hr,?_⟩
  obtain⟨o,h1,h2⟩:=bind_some h
  have S0:Sim K H [] []:=⟨List.nodup_nil,rfl,fun n a o h=>by simp at h⟩
  refine⟨_,[],[],o,S0,Ez r,h1,?_⟩
  have fin:∀ {H':Hp}{μ':List Addr}{m':MH},Step H [] H' μ'->Sim K H' μ' m'->Same H H'/\∀ a∈μ',old H H' a->False:=fun {H' μ' m'} st S'=>by
   obtain⟨l,e,hl⟩:=st.pre
   refine⟨fun b o e=>st.keep b o e (by simp),fun a ha z=>?_⟩
   rcases z with hne|⟨o,u,z⟩
   ·rw[e] at ha
    exact hne (hl a (by simpa using ha))
   ·obtain⟨xs,e',l⟩:=S'.trk ha
    rw[e'] at z
    cases z
    exact l
  cases o with
  |rt d' m'=>exact fun v H' μ' st S' r'=>q v H' (fin st S').1 (Mw S' (fin st S').2 r' h2)
  |nx env m'=>cases h2;exact fun σ' H' μ' st S' E'=>q _ H' (fin st S').1 .non
  |bk _ _=>exact Ak h2
  |ct _ _=>exact Ak h2
section
variable {X:Cx}{a b c e:Expr}{es:List Expr}{pos p p':Pos}{x:Str}
def Ew (n:Nat) (fn:List D->Option D):List D->MH->Option D:=fun ds m=>(Co m ds).bind fun ds'=>if ds'.length=n then fn ds' else none
theorem Rep.ofCall {K:W.Frag}{H H':Hp}{μ:List Addr}{m:MH}{d:D}{v:V} (S:Sim K H μ m) (r:Rep K H' [] (old H H') d v):Rep K H' μ (·∈μ) d v :=
 r.up (fun _ _ _ h=>h) (fun a u _ h b=>⟨h,fun z=>b (.inl (by obtain⟨xs,e,_⟩:=S.trk z;rw[e];simp))⟩) fun n a h=>by simp at h
theorem Aoo {fd:FuncData}{E:XK} (F:FnOk X.prog X.w X.K X.mg X.base CX k f fd ps (spP X.K n fn)) (hr:Room k X.A) (hg:Gl X x) (hm:X.mg x=some (.ref f)) (hk:W.keepIn X.K (.ref f)=true) (hb:Binds X.K fd ps []) (hx:Pw CX X E) (ha:PL X (e::es) g) (hdb:(x == ("__debug__":Str))=false) (he:starEach (e::es) X.env=(false,eval e X.env)::starEach es X.env) (hpl:(backTo pos (starEach es X.env)).any (·.1)=false) :
  PD X (.Call (.Name x p) (e::es) [] pos) (Av (Ew n fn) g):=PE.imp (Vi F hr hg hm hk hb .nil hx ha hdb he hpl) fun σ H Q ⟨env,μ,m,d,S,E,h,q⟩=>by
 obtain⟨ds,h1,h⟩:=bind_some h
 obtain⟨ds',h2,h⟩:=bind_some h
 split at h
 ·rename_i hl
  refine⟨env,μ,m,ds,S,E,h1,fun vs H1 s1 rs=>⟨ds',d,by rw[Bev];exact Cp (S.same s1) rs h2,hl,h,fun v H' s' r=>q v H' (s1.trans s') (Rep.ofCall (S.same s1) r)⟩⟩
 ·exact Ak h
def Uv (n:Nat) (fn:List D->Option D):List D->MH->Option (List D):=fun ds m=>(Ew n fn ds m).bind fun d=>match d with|.lst es=>if A3 es=true then some es else none|_=>none
theorem Aou {fd:FuncData}{E:XK} (F:FnOk X.prog X.w X.K X.mg X.base CX k f fd ps (spP X.K n fn)) (hr:Room k X.A) (hg:Gl X x) (hm:X.mg x=some (.ref f)) (hk:W.keepIn X.K (.ref f)=true) (hb:Binds X.K fd ps []) (hx:Pw CX X E) (ha:PL X (e::es) g) (hdb:(x == ("__debug__":Str))=false) (he:starEach (e::es) X.env=(false,eval e X.env)::starEach es X.env) (hpl:(backTo pos (starEach es X.env)).any (·.1)=false) :
  PF X (.Call (.Name x p) (e::es) [] pos) (G4 (Uv n fn) g):=PE.imp (Vi F hr hg hm hk hb .nil hx ha hdb he hpl) fun σ H Q ⟨env,μ,m,d,S,E,h,q⟩=>by
 obtain⟨ds,h1,h⟩:=bind_some h
 obtain⟨z,h2,h⟩:=bind_some h
 obtain⟨ds',h2,h3⟩:=bind_some h2
 split at h3
 ·rename_i hl
  refine⟨env,μ,m,ds,S,E,h1,fun vs H1 s1 rs=>⟨ds',z,by rw[Bev];exact Cp (S.same s1) rs h2,hl,h3,fun v H' s' r=>?_⟩⟩
  cases r with
  |@lst es a xs hq hb rs' =>
   simp only at h
   split at h
   ·rename_i hl'
    cases h
    have hn:H1 a=none:=Bgf fun z=>hb (.inl z)
    rcases hq with hq|⟨o,hq⟩
    ·exact q a xs H' (s1.trans s') (s1.free hn) hq (rs'.nolst hl')
    ·exact absurd (.inr ⟨o,_,hq⟩) hb
   ·cases h
  |_=>exact Ak h
 ·exact Ak h3
end
end
end ML
end L2
end S_ML1
section S_ML6
namespace L2
namespace ML
open PySem PySem.Spec PyProof.Rows
open Classical
noncomputable section
theorem Iu {scope:Scope}{env:Env}:∀ (names:List (Str×NameKind)) (cs:List (Str×Addr)),(∀ y∈names,y.2=.free->∃ c,env.cells.lookup y.1=some c)->∃ cl:List (Str×Addr),
  (forIn names cs fun (y:Str×NameKind) cs=>if (y.2 == .free)=true then (do let c <- cellOf env y.1;pure (ForInStep.yield ((y.1,c)::cs))) else (pure (ForInStep.yield cs):Sem _))=pure cl /\
   (∀ x c,cl.lookup x=some c->cs.lookup x=some c\/env.cells.lookup x=some c)/\(∀ x,((x,NameKind.free)∈names\/∃ c,cs.lookup x=some c)->∃ c,cl.lookup x=some c)
 |[],cs,_=>⟨cs,rfl,fun x c h=>.inl h,fun x h=>by
   rcases h with h|h
   ·exact absurd h (by simp)
   ·exact h⟩
 |(n,k)::names,cs,h=>by
  have h':∀ y∈names,y.2=.free->∃ c,env.cells.lookup y.1=some c:=fun y hy=>h y (Bed _ hy)
  rw[List.forIn_cons]
  by_cases hk:k=.free
  ·subst hk
   obtain⟨c,hc⟩:=h (n,.free) Beb rfl
   obtain⟨cl,e1,e2,e3⟩:=Iu (scope:=scope) (env:=env) names ((n,c)::cs) h'
   refine⟨cl,?_,fun x c' hx=>?_,fun x hx=>?_⟩
   ·have ec:cellOf env n=pure c:=by unfold cellOf;rw[hc]
    simp only[beq_self_eq_true,Bha,ec]
    exact e1
   ·rcases e2 x c' hx with q|q
    ·rw[Bfx] at q
     by_cases hxn:(x == n)=true
     ·simp only[hxn] at q
      cases q
      rw[eq_of_beq hxn]
      exact .inr hc
     ·simp only[Bool.not_eq_true] at hxn
      simp only[hxn] at q
      exact .inl q
    ·exact .inr q
   ·refine e3 x ?_
    by_cases hxn:(x == n)=true
    ·exact .inr ⟨c,by rw[Bfx];simp only[hxn]⟩
    ·simp only[Bool.not_eq_true] at hxn
     rcases hx with hx|⟨c',hx⟩
     ·rcases List.mem_cons.mp hx with z|z
      ·have:x=n:=by injection z
       rw[this,beq_self_eq_true] at hxn
       cases hxn
      ·exact .inl z
     ·exact .inr ⟨c',by rw[Bfx];simp only[hxn];exact hx⟩
  ·obtain⟨cl,e1,e2,e3⟩:=Iu (scope:=scope) (env:=env) names cs h'
   refine⟨cl,?_,e2,fun x hx=>e3 x ?_⟩
   ·have ek:(k == NameKind.free)=false:=by simpa using hk
    simp only[ek,Bfz,Bgm]
    exact e1
   ·rcases hx with hx|hx
    ·rcases List.mem_cons.mp hx with z|z
     ·injection z with z1 z2
      exact absurd z2.symm hk
     ·exact .inl z
    ·exact .inr hx
theorem Ol (h:∀ y∈scope.names,y.2=.free->∃ c,env.cells.lookup y.1=some c):∃ cl:List (Str×Addr),closureFor scope env=pure cl /\
  (∀ x c,cl.lookup x=some c->env.cells.lookup x=some c)/\∀ x,(x,NameKind.free)∈scope.names->∃ c,cl.lookup x=some c:=by
 obtain⟨cl,e1,e2,e3⟩:=Iu (scope:=scope) (env:=env) scope.names [] h
 refine⟨cl,?_,fun x c hx=>(e2 x c hx).elim (fun z=>by exact Ak z) id,fun x hx=>e3 x (.inl hx)⟩
 have e:closureFor scope env=((forIn scope.names [] fun (y:Str×NameKind) cs=>if (y.2 == .free)=true then (do let c <- cellOf env y.1;pure (ForInStep.yield ((y.1,c)::cs))) else (pure (ForInStep.yield cs):Sem _)) >>= fun cs=>pure cs):=rfl
 rw[e,e1]
 rfl
theorem Aah:∀ (names:List (Str×NameKind)) (h:Heap) (acc:List (Str×Addr)),(∀ x c,acc.lookup x=some c->c < h.objs.size)->(∀ x y c,acc.lookup x=some c->acc.lookup y=some c->x=y) ->
  (∀ x c,(cellsFrom h.objs.size names acc).lookup x=some c->(acc.lookup x=some c/\(x,NameKind.cell)∉names)\/((x,NameKind.cell)∈names/\h.objs.size<=c/\(pushCells h names).IsCell c none)\/(acc.lookup x=some c/\h.IsCell c none/\False)) /\
  (∀ x y c,(cellsFrom h.objs.size names acc).lookup x=some c->(cellsFrom h.objs.size names acc).lookup y=some c->x=y)/\(∀ x,((x,NameKind.cell)∈names\/∃ c,acc.lookup x=some c)->∃ c,(cellsFrom h.objs.size names acc).lookup x=some c)
 |[],h,acc,h1,h2=>⟨fun x c e=>.inl ⟨e,by simp⟩,h2,fun x e=>e.elim (fun z=>absurd z (by simp)) id⟩
 |(n,k)::r,h,acc,h1,h2=>by
  by_cases hk:k=.cell
  ·subst hk
   have hs:(h.push { cls:=.type "cell",data:=.cell none }).objs.size=h.objs.size+1:=Heap.size_push ..
   have lk:∀ x c,((n,h.objs.size)::acc).lookup x=some c->(x=n/\c=h.objs.size)\/(x≠n/\acc.lookup x=some c):=fun x c e=>by
    rw[Bfx] at e
    by_cases hx:(x == n)=true
    ·simp only[hx] at e
     cases e
     exact .inl ⟨eq_of_beq hx,rfl⟩
    ·have hx':(x == n)=false:=by simpa using hx
     simp only[hx'] at e
     exact .inr ⟨fun z=>hx (by rw[z];exact beq_self_eq_true _),e⟩
   obtain⟨i1,i2,i3⟩:=Aah r (h.push { cls:=.type "cell",data:=.cell none }) ((n,h.objs.size)::acc) (fun x c e=>by
    rw[hs]
    rcases lk x c e with ⟨_,z⟩|⟨_,z⟩
    ·rw[z];exact Bhf _
    ·exact Bgu (h1 x c z)) (fun x y c e1 e2=>by
    rcases lk x c e1 with ⟨z1,w1⟩|⟨_,z1⟩<;>rcases lk y c e2 with ⟨z2,w2⟩|⟨_,z2⟩
    ·rw[z1,z2]
    ·exact absurd (h1 y c z2) (by rw[w1];exact Bfh _)
    ·exact absurd (h1 x c z1) (by rw[w2];exact Bfh _)
    ·exact h2 x y c z1 z2)
   have ec:cellsFrom h.objs.size ((n,NameKind.cell)::r) acc=cellsFrom (h.push { cls:=.type "cell",data:=.cell none }).objs.size r ((n,h.objs.size)::acc):=by rw[hs];rfl
   have ep:pushCells h ((n,NameKind.cell)::r)=pushCells (h.push { cls:=.type "cell",data:=.cell none }) r:=rfl
   rw[ec,ep]
   refine⟨fun x c e=>?_,i2,fun x e=>i3 x ?_⟩
   ·rcases i1 x c e with ⟨z,w⟩|⟨z1,z2,z3⟩|⟨_,_,z⟩
    ·rcases lk x c z with ⟨rfl,rfl⟩|⟨hne,z⟩
     ·exact .inr (.inl ⟨Beb,Bej _,⟨_,pushCells_keeps _ _ _ _ (Beq _ rfl),rfl⟩⟩)
     ·exact .inl ⟨z,fun y=>by
       rcases List.mem_cons.mp y with y|y
       ·exact hne (Prod.mk.inj y).1
       ·exact w y⟩
    ·exact .inr (.inl ⟨Bed _ z1,Nat.le_of_succ_le (by rw[hs] at z2;exact z2),z3⟩)
    ·exact z.elim
   ·by_cases hx:x=n
    ·exact .inr ⟨_,by rw[Bfx,hx,beq_self_eq_true]⟩
    ·have hx':(x == n)=false:=by simpa using hx
     rcases e with e|⟨c,e⟩
     ·rcases List.mem_cons.mp e with e|e
      ·exact absurd (Prod.mk.inj e).1 hx
      ·exact .inl e
     ·exact .inr ⟨c,by rw[Bfx,hx'];exact e⟩
  ·obtain⟨i1,i2,i3⟩:=Aah r h acc h1 h2
   have hk':(k == NameKind.cell)=false:=by simpa using hk
   have ec:cellsFrom h.objs.size ((n,k)::r) acc=cellsFrom h.objs.size r acc:=by rw[cellsFrom,hk'];rfl
   have ep:pushCells h ((n,k)::r)=pushCells h r:=by rw[pushCells,hk'];rfl
   have em:∀ x,(x,NameKind.cell)∈(n,k)::r ↔ (x,NameKind.cell)∈r:=fun x=>⟨fun z=>by
    rcases List.mem_cons.mp z with z|z
    ·exact absurd (Prod.mk.inj z).2.symm hk
    ·exact z,Bed _⟩
   rw[ec,ep]
   refine⟨fun x c e=>?_,i2,fun x e=>i3 x ?_⟩
   ·rcases i1 x c e with ⟨z,w⟩|⟨z1,z2,z3⟩|⟨_,_,z⟩
    ·exact .inl ⟨z,fun y=>w ((em x).mp y)⟩
    ·exact .inr (.inl ⟨(em x).mpr z1,z2,z3⟩)
    ·exact z.elim
   ·exact e.imp (em x).mp id
theorem Vc {E:Value->Shared->Prop}{s:Shared} (hQ:∀ h',h'.Ns s.heap.objs.size (fun _=>none)->(∀ b o,s.heap.get? b=some o->h'.get? b=some o)->h'=pushCells (s.heap.push { cls:=.type "dict",data:=.dict #[] }) scope.names ->
   Q { scope,locals:=s.heap.objs.size,globals,cells:=cellsFrom (s.heap.objs.size+1) scope.names cl,qual,func:=none,code:=env.code,frame:=env.frame,builtins:=env.builtins } { s with heap:=h' }) :
  wpAny M A (newFunctionEnv scope globals cl [] qual none .none (some env)) Q E s:=by
 simp only[newFunctionEnv,Option.isSome_some,Bha]
 refine Bea (wpAny_alloc ?_)
 refine Bea (wpAny_layCells _ (fun name kind cells=>by cases hkc:kind == NameKind.cell<;>simp[hkc]) _ _ _ _ ?_)
 rw[show ({ s with heap:=s.heap.push { cls:=.type "dict",data:=.dict #[] } }:Shared).heap.objs.size=s.heap.objs.size+1 from Heap.size_push ..]
 rw[List.forIn_nil]
 refine Bea (Bek (Bek ?_))
 exact hQ _ ((Heap.Ns.new s.heap (.type "dict")).keeps (pushCells_keeps _ _)) (fun b o e=>pushCells_keeps _ _ b o (Bec _ e)) rfl
noncomputable def Bb (X:Cx) (N':List Str) (scope:Scope) (cl:List (Str×Addr)) (C:Addr) (s₀:Shared) (H₀:Hp) (ex:List Addr) (pn:List (Addr×Obj)):Cx where
 prog:=X.prog
 w:=X.w
 K:=X.K
 mg:=X.mg
 base:=X.base
 A:=X.A
 N:=N'
 s₀:=s₀
 H₀:=H₀
 env:=compEnvC scope cl C X.env
 outer:=X.stack
 stack:=X.stack
 ex:=ex
 fn:=fun x=>match scope.names.lookup x with
  |some .cell=>true
  |_=>false
 calm:=X.calm
 pn:=pn
 xe:=fun _ _=>False
noncomputable def capσ (cap:List Nat) (k:Nat) (σ:St):St:=cap.map (fun i=>(σ[i]?).bind id)++List.replicate k none
def Z0 (cap:List Nat) (k:Nat) (env:Bg):Bg:=cap.map (fun i=>(env[i]?).bind id)++List.replicate k none
structure CompOk (X:Cx) (scope:Scope) (cap:List Nat) (N':List Str):Prop where
 kind:scope.kind=.function
 cell:∀ y∈scope.names,y.2=.cell->scope.names.lookup y.1=some .cell
 names:∀ y∈scope.names,y.2=.local->scope.names.lookup y.1=some .local
 free:∀ y∈scope.names,y.2=.free->X.env.scope.names.lookup y.1=some .cell\/X.env.scope.names.lookup y.1=some .free
 nd:N'.Nodup
 le:cap.length<=N'.length
 cap:∀ (j i:Nat) (x:Str),cap[j]?=some i->N'[j]?=some x->X.N[i]?=some x/\scope.names.lookup x=some .free
theorem D8 {env:Env}:∀ {names:List (Str×NameKind)}{x:Str}{k:NameKind},(names.map fun (n,k)=>if (k == NameKind.free&&env.scope.kind == .function&&env.kindOf n == some .cell) then (n,NameKind.cell) else (n,k)).lookup x=some k ->
  (names.lookup x=some k/\(k=.free->env.kindOf x≠some .cell\/env.scope.kind≠.function))\/(names.lookup x=some .free/\k=.cell)
 |[],_,_,h=>by simp at h
 |(n,k)::r,x,k',h=>by
  have ih:=@D8 env r x k'
  rw[Bee] at h
  by_cases hc:(k == NameKind.free&&env.scope.kind == .function&&env.kindOf n == some .cell)=true
  ·simp only[hc,Bha] at h
   rw[Bfx] at h ⊢
   cases hx:x == n with
   |true =>
    simp only[hx] at h ⊢
    cases h
    have:k=.free:=by simp at hc;exact hc.1.1
    exact .inr ⟨by rw[this],rfl⟩
   |false =>
    simp only[hx] at h ⊢
    exact ih h
  ·simp only[Beg hc] at h
   rw[Bfx] at h ⊢
   cases hx:x == n with
   |true =>
    simp only[hx] at h ⊢
    cases h
    refine .inl ⟨rfl,fun z=>?_⟩
    subst z
    have e:=eq_of_beq hx
    subst e
    simp at hc
    by_cases q:env.scope.kind=.function
    ·exact .inl fun z=>hc q z
    ·exact .inr q
   |false =>
    simp only[hx] at h ⊢
    exact ih h
section
variable {X:Cx}{elt tg iter:Expr}{ifs:List Expr}{scope:Scope}{pos:Pos}{cap:List Nat}{N':List Str}
theorem Afo {pins:List (Addr×Obj)}{σ:St}{H2 H3:Hp}{s2:Shared}{h₁:Heap}{tk:Nat}{fp:List Addr}{cl:List (Str×Addr)}{C:Addr}{ys:List V} (ok:CompOk X scope cap N') (I2:Inv X pins σ H2 s2) (f2:∀ b∈fp,Ae6 X pins H2 b) (fo:∀ b∈fp,∃ o,s2.heap.get? b=some o)
  (hcl:∀ x c,cl.lookup x=some c->(X.env.cells.lookup x=some c/\scope.names.lookup x≠some .cell)\/(scope.names.lookup x=some .cell/\C < c/\h₁.IsCell c none/\H3 c=none)) (hinj:∀ x y c,cl.lookup x=some c->cl.lookup y=some c->x=y)
  (hcl2:∀ x,((x,NameKind.free)∈scope.names\/(x,NameKind.cell)∈scope.names)->∃ c,cl.lookup x=some c)
  (hC:s2.heap.objs.size<=C) (hns:∃ m,h₁.Ns C m) (hk:∀ b o,s2.heap.get? b=some o->h₁.get? b=some o) (hH:∀ b o,s2.heap.get? b=some o->H2 b=none->H3 b=none) (hS:Same H2 H3) (hC3:H3 C=none) (hok:HOk X.prog X.w X.K H3 h₁) :
  Inv (Bb X N' scope cl C s2 H2 fp (X.pn++pins)) [] (capσ cap (N'.length - cap.length) σ) H3 { s2 with heap:=h₁,toks:=tk }:=by
 have lt:∀ b o,s2.heap.get? b=some o->b≠C:=fun b o e=>Be0 (Ber (Ben e) hC)
 have kin:∀ x,(Bb X N' scope cl C s2 H2 fp (X.pn++pins)).env.kindOf x=some .cell\/(Bb X N' scope cl C s2 H2 fp (X.pn++pins)).env.kindOf x=some .free->(x,NameKind.free)∈scope.names\/(x,NameKind.cell)∈scope.names:=fun x h=>by
  have key:∀ k,(relabel scope X.env).names.lookup x=some k->k=.cell\/k=.free->(x,NameKind.free)∈scope.names\/(x,NameKind.cell)∈scope.names:=fun k hk hkk=>by
   rcases D8 hk with ⟨q,_⟩|⟨q,_⟩
   ·rcases hkk with rfl|rfl
    ·exact .inr (Bfb q)
    ·exact .inl (Bfb q)
   ·exact .inl (Bfb q)
  rcases h with h|h
  ·exact key _ h (.inl rfl)
  ·exact key _ h (.inr rfl)
 have fpx:∀ b∈fp,∀ o,X.base.get? b=some o->False:=fun b hb o e=>by
  obtain⟨_,_,_,q,_,_⟩:=f2 b hb
  rcases q with q|q
  ·exact I2.ok.noex b o e q
  ·exact absurd (Ber (Ben e) (Bez I2.ok.bsz q)) (Bfh _)
 refine⟨⟨I2.ok.mod,ok.kind,I2.ok.glob,I2.ok.blt,hC,?_,?_,?_,I2.ok.hd,I2.ok.frames,.inl rfl,?_,I2.bs,Bez I2.ok.bsz I2.sz,?_,?_,I2.stack,I2.stkFree⟩,rfl,I2.bare,⟨?_,?_,?_,?_,?_,?_,?_⟩,?_,?_,hC3,?_,?_,hok,?_⟩
 ·exact hinj
 ·exact fun x h=>hcl2 x (kin x h)
 ·intro x c h e
  have h:(match scope.names.lookup x with|some .cell=>true|_=>false)=true:=h
  rcases hcl x c e with ⟨_,z⟩|⟨_,z,_⟩
  ·split at h
   ·rename_i q;exact absurd q z
   ·exact Ce h
  ·exact Bf8 (Nat.lt_of_le_of_lt hC z)
 ·intro b hb
  obtain⟨o,e⟩:=fo b hb
  refine⟨lt b o e,fun x c h=>?_⟩
  rcases hcl x c h with ⟨z,_⟩|⟨_,z,_⟩
  ·exact (f2 b hb).2.2.2.2.1 x c z
  ·exact Bg9 (Nat.lt_trans (Ber (Ben e) hC) z)
 ·exact fun b o e hb=>fpx b hb o e
 ·intro b hb hfs
  have z:b∈X.env.locals::X.fs:=I2.stkSub b hfs
  rcases List.mem_cons.mp z with z|z
  ·exact (f2 b hb).2.1 z
  ·exact (f2 b hb).2.2.1 z
 ·exact fun b o e n _ _=>hk b o e
 ·exact fun b o e n _ _=>⟨o.slots,hk b o e⟩
 ·exact fun b o e n _=>hH b o e n
 ·exact fun b o e _=>⟨o,hk b o e⟩
 ·exact fun b xs e=>hS b _ e
 ·exact fun b o u e=>hS b _ e
 ·exact fun b ps e=>⟨#[],by rw[hS b _ e];simp⟩
 ·obtain⟨m,hm⟩:=hns
  refine⟨m,hm,fun j x v e1 e2 e3=>?_⟩
  have hj:j < cap.length:=by
   apply Bgf
   intro hj
   unfold capσ at e2
   rw[Be9 (by simpa using hj),Bgp] at e2
   split at e2<;>cases e2
  obtain⟨i,hi⟩:∃ i,cap[j]?=some i:=⟨cap[j],by simp[hj]⟩
  obtain⟨q1,q2⟩:=ok.cap j i x hi e1
  have e4:σ[i]?=some (some v):=by
   unfold capσ at e2
   rw[Be2 (by simpa using hj),Bey,hi] at e2
   simp only[Option.map_some,Bgt] at e2
   obtain⟨o,h1,h2⟩:=bind_some e2
   have h2:o=some v:=h2
   rw[h1,h2]
  have hfr:=ok.free (x,.free) (Bfb q2) rfl
  have vis:Vis X.env.scope x:=.inr hfr
  obtain⟨m0,hn0,hl⟩:=I2.loc
  obtain⟨u,r,l⟩:=hl i x v q1 e4 vis
  refine⟨u,r,.inr ?_⟩
  rcases l with ⟨l1,_⟩|⟨l1,c,l2,l3⟩
  ·have l1:X.env.scope.names.lookup x=some .local:=l1
   rcases hfr with z|z<;>rw[l1] at z<;>cases z
  ·obtain⟨c',hc'⟩:=hcl2 x (.inl (Bfb q2))
   have:c'=c:=by
    rcases hcl x c' hc' with ⟨z,_⟩|⟨z,_⟩
    ·rw[l2] at z;exact (Bfg z).symm
    ·rw[q2] at z;cases z
   subst this
   refine⟨?_,c',hc',?_⟩
   ·rcases e3 with z|z|z
    ·have z':(relabel scope X.env).names.lookup x=some .local:=z
     rcases D8 z' with ⟨q,_⟩|⟨q,w⟩
     ·rw[q2] at q;cases q
     ·cases w
    ·exact .inl z
    ·exact .inr z
   ·obtain⟨oc,ho,hd⟩:=l3
    exact⟨oc,hk _ _ ho,hd⟩
 ·intro x c h
  rcases hcl x c h with ⟨z,_⟩|⟨_,_,z,_⟩
  ·obtain⟨v,oc,ho,hd⟩:=I2.cell x c z
   exact⟨v,oc,hk _ _ ho,hd⟩
  ·exact⟨none,z⟩
 ·intro x c h
  rcases hcl x c h with ⟨z,_⟩|⟨_,_,_,z⟩
  ·obtain⟨v,oc,ho,hd⟩:=I2.cell x c z
   exact hH c oc ho (I2.freeC x c z)
  ·exact z
 ·intro p hp
  have hp':p∈X.pn++pins:=by
   have:p∈(X.pn++pins)++[]:=hp
   simpa using this
  obtain⟨e,n,ne,nf,d⟩:=I2.pin p hp'
  refine⟨hk _ _ e,hH _ _ e n,lt _ _ e,?_,d⟩
  intro z
  have z:p.1∈X.env.locals::X.fs:=I2.stkSub p.1 z
  rcases List.mem_cons.mp z with z|z
  ·exact ne z
  ·exact nf z
 ·unfold capσ
  show _=N'.length
  rw[Bep,Bel,List.length_replicate]
  have:=ok.le
  lia
end
end
end ML
end L2
end S_ML6
section S_ML7
namespace L2
namespace ML
open PySem PySem.Spec PyProof.Rows
open Classical
noncomputable section
noncomputable def Hr (g:FG) (t:FB) (fe:FE) (m:MH) (env:Bg):List D->Option (List D)
 |[]=>some []
 |d::ds=>(g d env).bind fun env1=>(t env1 m).bind fun ok=>if ok=true then (fe env1 m).bind fun y=>(Hr g t fe m env ds).bind fun ys=>some (y::ys) else Hr g t fe m env ds
noncomputable def Hc:FB:=fun _ _=>some true
def PTs (X:Cx) (ifs:List Expr) (f:FB):Prop:=∀ (pins:List (Addr×Obj)) (s:Shared) (σ:St) (H:Hp) (Q:Bool->Hp->Prop),Inv X pins σ H s->tB' X.K f σ H Q ->
 wpAny (model X.prog X.w) X.A (forIn ifs true fun c r=>if r=true then do let ok <- isTrue c X.env (eval c X.env);pure (ForInStep.yield ok) else pure (ForInStep.yield r)) (TP X pins σ Q) X.xe s
theorem Apf:PTs X [] Hc:=fun pins s σ H Q I ⟨env,μ,m,b,S,E,h,q⟩=>by
 cases h
 exact wpAny_tests_nil ⟨H,I,q H (Same.refl H)⟩
theorem Apg (h:PB X c f):PTs X [c] f:=fun pins s σ H Q I q=>wpAny_tests_one (h pins s σ H Q I q)
theorem P8 {s:Shared}{pos:Pos} (I:Nat->Shared->Prop) (turn:∀ n s,I n s->wpAny (model prog w) A (pyNext it) (fun r s₁=>match r with
   |none=>R (.ok .next) s₁
   |some v=>wpAny (model prog w) A (letOwnedTupleGo target it v) (fun _ s₁'=>wpAny (model prog w) A (assign target env v) (fun _ s₂ =>
     wpAny (model prog w) A (forIn ifs true fun c r=>if r=true then do let ok <- isTrue c env (eval c env);pure (ForInStep.yield ok) else pure (ForInStep.yield r)) (fun ok s₃ =>
      if ok=true then wpAny (model prog w) A (eval elt env) (fun x s₄ =>
       wpAny (model prog w) A (call (.builtin "list.append") [acc,x]) (fun _ s₅=>∃ m,m < n/\I m s₅) (fun _ _=>False) s₄) (fun _ _=>False) s₃
      else ∃ m,m < n/\I m s₃) (fun _ _=>False) s₂) (fun _ _=>False) s₁') (fun _ _=>False) s₁) (fun _ _=>False) s) (n:Nat) (h:I n s):codeAny (model prog w) A (.compLoop (.ListComp elt [⟨target,iter,ifs,0⟩] scope pos) 0 it acc env) R s:=by
 have no:∀ {E:Value->Shared->Prop} (e:Value) (s:Shared),False->E e s:=fun _ _ h=>h.elim
 refine codeAny_loop rfl I (fun n s hI=>?_) n h
 show wpAny _ A ((compTurn (.ListComp elt [⟨target,iter,ifs,0⟩] scope pos) 0 it acc env).onRaise (fun x=>do noteFrame x env;theTreesLotGoes x)) _ _ s
 refine wpAny_noted ?_
 rw[compTurn_list]
 refine Bea (wpAny_standAt (Bea (Bfr (turn n s hI) (fun r s₁ h₁=>?_) no)))
 cases r with
 |none=>exact Bek h₁
 |some v =>
  refine Bea (Bfr h₁ (fun _ s₁' h₁'=>?_) no)
  refine Bea (Bfr h₁' (fun _ s₂ h₂=>Bea (Bfr h₂ (fun ok s₃ h₃=>?_) no)) no)
  cases ok with
  |false=>exact Bek ⟨rfl,h₃⟩
  |true =>
   exact Bea (Bea (Bfr h₃ (fun x s₄ h₄=>Bea (Bfr h₄ (fun _ s₅ h₅=>Bek (Bek ⟨rfl,h₅⟩)) no)) no))
theorem Afm {K:W.Frag}{H:Hp}{μ:List Addr}{σ:St}{env:Bg} (h:EnvRep K H μ σ env) (cap:List Nat) (k:Nat):EnvRep K H μ (capσ cap k σ) (Z0 cap k env):=by
 refine⟨by unfold capσ Z0;simp,fun j d e=>?_⟩
 have hj:j < cap.length:=by
  apply Bgf
  intro hj
  unfold Z0 at e
  rw[Be9 (by simpa using hj),Bgp] at e
  split at e<;>cases e
 unfold Z0 at e
 rw[Be2 (by simpa using hj),Bey] at e
 have hi:cap[j]?=some cap[j]:=by simp[hj]
 rw[hi] at e
 simp only[Option.map_some,Bgt] at e
 obtain⟨o,h1,h2⟩:=bind_some e
 have h2:o=some d:=h2
 subst h2
 obtain⟨v,q1,q2⟩:=h.get _ _ h1
 refine⟨v,?_,q2⟩
 unfold capσ
 rw[Be2 (by simpa using hj),Bey,hi]
 simp[q1]
section
variable {X:Cx}{elt tg iter:Expr}{ifs:List Expr}{scope:Scope}{pos:Pos}{cap:List Nat}{N':List Str}{fw:FW}{g:FG}{t:FB}{fe:FE}
def Bt (cap:List Nat) (k:Nat) (fw:FW) (g:FG) (t:FB) (fe:FE):FL:=fun env m=>(fw env m).bind fun w=>if w.chk m/\w.all.length<=1000000 then Hr g t fe m (Z0 cap k env) w.all else none
structure CompEnd (X:Cx) (pins:List (Addr×Obj)) (σ:St) (H:Hp) (μ:List Addr) (zs:List D) (D C:Addr) (s':Shared):Prop where
 out:∃ H' ys,Same H H'/\H D=none/\H' D=some (.lst ys)/\Reps X.K H' μ (nw μ D) zs ys/\Inv X pins σ H' s'/\H' C=none/\∀ σ' s'' h',Inv X pins σ' H' s''->Heap.SameBut C s''.heap h'->Inv X pins σ' H' { s'' with heap:=h' }
 ns:∃ m,s'.heap.Ns C m
 lc:C≠X.env.locals
 cc:∀ x c,X.env.cells.lookup x=some c->c≠C
inductive CI (Y:Cx) (μ:List Addr) (fp:List Addr) (tn:Nat->Heap->Prop) (Dd:Addr) (H2:Hp) (g:FG) (e0:Bg) (cd:Nat->Option (List D)) (n:Nat) (zs:List D) (s:Shared):Nat->Prop where
 |mk {i:Nat}{H3:Hp}{σ3:St}{env3:Bg}{ys:List V}{its:List Value}{na:Nat}{dn rs:List D}:i<=n->Inv Y [] σ3 H3 s->tn i s.heap->(∀ b∈fp,H3 b=none)->Same H2 H3->H3 Dd=none->EnvRep Y.K H3 μ σ3 env3->(∀ d,g d env3=g d e0) ->
  s.heap.get? Dd=some { cls:=.type "list",data:=.seq its.toArray na }->Vals ys its->Reps Y.K H3 μ (·∈μ) dn ys->cd i=some rs->dn++rs=zs->dn.length<=i->CI Y μ fp tn Dd H2 g e0 cd n zs s (n - i)
theorem Nd (ok:CompOk X scope cap N') (hc:X.calm=true) (hi:PW' X tg iter fw) (hg2:∀ d d' env e1,g d env=some e1->g d' e1=g d' env)
  {Φ:Hp->Prop} (hΦ:∀ {pins:List (Addr×Obj)}{σ:St}{H:Hp}{s:Shared},Inv X pins σ H s->Φ H) (hg:∀ cl C s₀ H₀ ex pn,Φ H₀->PGD (Bb X N' scope cl C s₀ H₀ ex pn) tg g) (ht:∀ cl C s₀ H₀ ex pn,Φ H₀->PTs (Bb X N' scope cl C s₀ H₀ ex pn) ifs t) (he:∀ cl C s₀ H₀ ex pn,Φ H₀->PD (Bb X N' scope cl C s₀ H₀ ex pn) elt fe)
  (hs:∀ x,foldedSetIterable iter X.env x=pure x) {use:Option (Value->Sem Unit)}{ipos:Pos}{pins:List (Addr×Obj)}{s:Shared}{σ:St}{H:Hp}{Q:Value->Shared->Prop} (I:Inv X pins σ H s) {env:Bg}{μ:List Addr}{m:MH}{zs:List D}
  (S:Sim X.K H μ m) (E:EnvRep X.K H μ σ env) (h:Bt cap (N'.length - cap.length) fw g t fe env m=some zs)
  (hQ:∀ D C s',CompEnd X pins σ H μ zs D C s'->compPost (model X.prog X.w) X.A X.xe use Q (.ref D) C (.ok .next) s') :
  wpAny (model X.prog X.w) X.A (comprehension (.ListComp elt [⟨tg,iter,ifs,0⟩] scope pos) scope X.env ipos (newList []) false (eval iter X.env) use) Q X.xe s:=by
 obtain⟨w,h1,h⟩:=bind_some h
 split at h
 rotate_left
 ·cases h
 rename_i hck
 obtain⟨hck,hsz⟩:=hck
 have hfr:∀ y∈scope.names,y.2=.free->∃ c,X.env.cells.lookup y.1=some c:=fun y hy hf=>I.ok.has y.1 (ok.free y hy hf)
 obtain⟨cl0,hclos,hcl0,hcl20⟩:=Ol hfr
 refine wpAny_comprehension_free (g:=⟨tg,iter,ifs,0⟩) (gs:=[]) rfl hs hclos ok.kind ok.names (thn (hi pins s σ H (fun J H2=>∃ src,Same H H2/\Src X.K J w.all w.chk src/\src H2 μ m) I ⟨env,μ,m,w,S,E,h1,fun H' J src s1 hsrc h0=>⟨src,s1,hsrc,h0⟩⟩) fun v s1 h2=>thn h2 fun itv s2 h3=>?_)
 obtain⟨it,fp,tn,J,H2,e,I2,T,st2,f2,src,hS2,hsrc,h0⟩:=h3
 subst e
 refine Bfw (Vc fun h₁ hns₁ hsb₁ heq₁=>?_)
 dsimp only at hns₁ hsb₁ heq₁ ⊢
 generalize hHp:s2.heap.push { cls:=.type "list",dict:=none,data:=.seq ([]:List Value).toArray }=HP at hns₁ hsb₁ heq₁ ⊢
 have hCs:HP.objs.size=s2.heap.objs.size+1:=by rw[<- hHp,Heap.size_push]
 have hDC:s2.heap.objs.size≠HP.objs.size:=by rw[hCs];exact Be0 (Bhf _)
 have hCle:s2.heap.objs.size<=HP.objs.size:=by rw[hCs];exact Nat.le_succ _
 have P0:∀ b,b < s2.heap.objs.size->b≠HP.objs.size/\b≠s2.heap.objs.size:=fun b hb=>⟨by rw[hCs];exact Be0 (Bgu hb),Be0 hb⟩
 have hkp:∀ b o,s2.heap.get? b=some o->h₁.get? b=some o:=fun b o e=>hsb₁ b o (hHp ▸ Bec _ e)
 have hacc:h₁.get? s2.heap.objs.size=some { cls:=.type "list",data:=.seq ([]:List Value).toArray 0 }:=hsb₁ _ _ (hHp ▸ Beq _ rfl)
 have hDn:H2 s2.heap.objs.size=none:=I2.hok.fresh (Bej _)
 have hCn:H2 HP.objs.size=none:=I2.hok.fresh hCle
 have fo:∀ b∈fp,∃ o,s2.heap.get? b=some o:=fun b hb=>let ⟨o,e,_⟩:=T.obj _ _ st2 b hb;⟨o,e⟩
 have fdc:∀ b∈fp,b≠HP.objs.size/\b≠s2.heap.objs.size:=fun b hb=>let ⟨o,e⟩:=fo b hb;P0 b (Ben e)
 have hsz1:(HP.push { cls:=.type "dict",data:=.dict #[] }).objs.size=HP.objs.size+1:=Heap.size_push ..
 obtain⟨c1,c2,c3⟩:=Aah scope.names (HP.push { cls:=.type "dict",data:=.dict #[] }) cl0 (fun x c e=>by
  obtain⟨v,oc,ho,_⟩:=I2.cell x c (hcl0 x c e)
  rw[hsz1,hCs]
  exact Bgu (Bgu (Ben ho))) (fun x y c e1 e2=>I2.ok.inj x y c (hcl0 x c e1) (hcl0 y c e2))
 rw[hsz1,<- heq₁] at c1
 rw[hsz1] at c2 c3
 generalize hcle:cellsFrom (HP.objs.size+1) scope.names cl0=cl at *
 have hcl:∀ x c,cl.lookup x=some c->(X.env.cells.lookup x=some c/\scope.names.lookup x≠some .cell)\/(scope.names.lookup x=some .cell/\HP.objs.size < c/\h₁.IsCell c none/\H2 c=none):=fun x c e=>by
  rcases c1 x c e with ⟨z,w⟩|⟨z1,z2,z3⟩|⟨_,_,z⟩
  ·exact .inl ⟨hcl0 x c z,fun q=>w (Bfb q)⟩
  ·exact .inr ⟨ok.cell _ z1 rfl,z2,z3,I2.hok.fresh (Bez hCle (Bf8 z2))⟩
  ·exact z.elim
 have hcl2:∀ x,((x,NameKind.free)∈scope.names\/(x,NameKind.cell)∈scope.names)->∃ c,cl.lookup x=some c:=fun x e=>c3 x (e.elim (fun z=>.inr (hcl20 x z)) .inl)
 generalize hDd:s2.heap.objs.size=Dd at *
 generalize hCc:HP.objs.size=C at *
 have Y0:Inv (Bb X N' scope cl C s2 H2 fp (X.pn++pins)) [] (capσ cap (N'.length - cap.length) σ) H2 { s2 with heap:=h₁,toks:=s2.toks } :=
  Afo (ys:=[]) ok I2 f2 fo hcl c2 hcl2 (by rw[hDd];exact hCle) ⟨_,hns₁⟩ hkp (fun _ _ _ n=>n) (Same.refl _) hCn (I2.hok.kept hkp)
 -- what stays true of the iterator's objects in the block
 have fpY:∀ {H':Hp}{ps:List (Addr×Obj)},(∀ b∈fp,H' b=none)->(∀ p∈ps,p.1∉fp)->∀ b∈fp,Ae6 (Bb X N' scope cl C s2 H2 fp (X.pn++pins)) ps H' b:=fun {H' ps} hn hps b hb=>by
  obtain⟨q0,q1,q2,q3,q4,q5⟩:=f2 b hb
  refine⟨hn b hb,(fdc b hb).1,fun z=>?_,.inl hb,fun x c e=>?_,fun p hp z=>?_⟩
  rotate_left
  ·rcases hcl x c e with ⟨z,_⟩|⟨_,z,_⟩
   ·exact q4 x c z
   ·obtain⟨o,e'⟩:=fo b hb
    exact Bg9 (Ber (by have:=Ben e';rw[hDd] at this;exact this) (Bez hCle (Bf8 z)))
  rotate_left
  ·have z:b∈X.env.locals::X.fs:=I2.stkSub b z
   rcases List.mem_cons.mp z with z|z
   ·exact q1 z
   ·exact q2 z
  ·rcases List.mem_append.mp hp with hp|hp
   ·exact q5 p hp z
   ·exact hps p hp (by rw[z];exact hb)
 have key:∀ s₃:Shared,s₃={ s2 with heap:=h₁,toks:=s2.toks } ->
   codeAny (model X.prog X.w) X.A (.compLoop (.ListComp elt [⟨tg,iter,ifs,0⟩] scope pos) 0 (.ref it) (.ref Dd) (compEnvC scope cl C X.env)) (compPost (model X.prog X.w) X.A X.xe use Q (.ref Dd) C) s₃:=by
  rintro s₃ rfl
  refine P8 (fun k s=>CI (Bb X N' scope cl C s2 H2 fp (X.pn++pins)) μ fp tn Dd H2 g (Z0 cap (N'.length - cap.length) env) (fun i=>Hr g t fe m (Z0 cap (N'.length - cap.length) env) (w.all.drop i)) w.all.length zs s k) ?_ w.all.length
   (.mk (ys:=[]) (dn:=[]) (Bfe _) Y0 (T.keep _ _ _ st2 fun b hb o e=>hkp b o e) (fun b hb=>(f2 b hb).1) (Same.refl _) hDn (Afm (E.same hS2) cap _) (fun _=>rfl) hacc .nil .nil (by simpa using h) rfl (Bfe _))
  intro k s3 ci
  cases ci with
  |@mk i H3 σ3 env3 ys its na dn rs hi' I3 st3 fr3 s3' hD3 E3 hg3 ha3 rv3 rr3 hc3 hz3 hl3 =>
  have S3:Sim X.K H3 μ m:=S.same (hS2.trans s3')
  have src3:src H3 μ m:=hsrc.keep _ _ _ _ _ _ h0 (S.same hS2) (Step.of_same s3') S3
  have hDfp:Dd∉fp:=fun z=>(fdc Dd z).2 rfl
  have hDne:Dd≠(Bb X N' scope cl C s2 H2 fp (X.pn++pins)).env.locals:=hDC
  have hDcell:∀ x c,(Bb X N' scope cl C s2 H2 fp (X.pn++pins)).env.cells.lookup x=some c->c≠Dd:=fun x c e z=>by
   rcases hcl x c e with ⟨w,_⟩|⟨_,w,_⟩
   ·obtain⟨v,oc,ho,_⟩:=I2.cell x c w
    exact absurd (Ben ho) (by rw[z,hDd];exact Bfh _)
   ·exact absurd w (by rw[z];exact Nat.not_lt.mpr hCle)
  have hDpn:∀ p∈X.pn++pins,p.1≠Dd:=fun p hp z=>absurd (Ben (I2.pin p hp).1) (by rw[z,hDd];exact Bfh _)
  have hDs:s2.heap.objs.size<=Dd:=Nat.le_of_eq hDd
  have hDfs:Dd∉(Bb X N' scope cl C s2 H2 fp (X.pn++pins)).fs:=fun z=>by
   have z:Dd∈X.env.locals::X.fs:=I2.stkSub Dd z
   rcases List.mem_cons.mp z with z|z
   ·exact absurd I2.lt (by rw[<- z,hDd];exact Bfh _)
   ·exact I2.nofs hDs z
  have I3p:Inv (Bb X N' scope cl C s2 H2 fp (X.pn++pins)) [(Dd,{ cls:=.type "list",data:=.seq its.toArray na })] σ3 H3 s3:=I3.pins_of fun p hp=>by
   have e:p=(Dd,{ cls:=.type "list",data:=.seq its.toArray na }):=by simpa using hp
   subst e
   exact⟨ha3,hD3,hDne,hDfs,fun v z=>by cases z⟩
  have pfp:∀ p∈[(Dd,({ cls:=.type "list",data:=.seq its.toArray na }:Obj))],p.1∉fp:=fun p hp=>by
   have e:p=(Dd,{ cls:=.type "list",data:=.seq its.toArray na }):=by simpa using hp
   subst e
   exact hDfp
  by_cases hlt:i < w.all.length
  ·have hd:w.all.drop i=w.all[i]::w.all.drop (i+1):=Bf1 hlt
   rw[hd] at hc3
   unfold Hr at hc3
   obtain⟨env4,e4,hc3⟩:=bind_some hc3
   obtain⟨tb,e5,hc3⟩:=bind_some hc3
   obtain⟨go,yl⟩:=hsrc.go H3 μ m i w.all[i] S3 src3 hck (by simp[hlt])
   refine thn (T.item (Bb X N' scope cl C s2 H2 fp (X.pn++pins)) rfl rfl rfl hc i _ s3 σ3 H3 _ I3p (fpY fr3 pfp) st3 go) fun r s4 ⟨u,hr,h4⟩=>?_
   subst hr
   refine thn h4 fun _ s5 ⟨x,H5,I5,r5,y5,st5,fr5⟩=>?_
   obtain⟨s5',rx5⟩:=yl x H5 y5
   have S5:=S3.same s5'
   have E5:=E3.same s5'
   have I5':=I5.pinned (fpY fr5 pfp) (T.obj _ _ st5)
   generalize hps:[(Dd,({ cls:=.type "list",data:=.seq its.toArray na }:Obj))]++Tq fp s5.heap=ps at I5'
   have pacc:(Dd,({ cls:=.type "list",data:=.seq its.toArray na }:Obj))∈ps:=by rw[<- hps];exact Bfd _ (by simp)
   have pits:∀ b o,b∈fp->s5.heap.get? b=some o->(b,o)∈ps:=fun b o hb e=>by rw[<- hps];exact Bei _ (Jc hb e)
   refine thn (hg cl C s2 H2 fp (X.pn++pins) (hΦ I2) ps s5 σ3 H5 x u (fun σ' H'=>H'=H5/\EnvRep X.K H5 μ σ' env4) I5' r5 ⟨env3,μ,m,_,env4,S5,E5,rx5,by rw[hg3];exact e4,fun σ' E'=>⟨rfl,E'⟩⟩) fun _ s6 ⟨σ6,H6,I6,eH6,E6⟩=>?_
   subst eH6
   refine thn (ht cl C s2 H2 fp (X.pn++pins) (hΦ I2) ps s6 σ6 H6 (fun b H'=>b=tb/\Same H6 H') I6 ⟨env4,μ,m,tb,S5,E6,e5,fun H' s=>⟨rfl,s⟩⟩) fun ok s7 ⟨H7,I7,eb,s7'⟩=>?_
   subst eb
   have S7:=S5.same s7'
   have E7:=E6.same s7'
   have hg4:∀ d,g d env4=g d (Z0 cap (N'.length - cap.length) env):=fun d=>by rw[hg2 _ d _ _ e4]
   cases ok with
   |false =>
    rw[Beg Bew] at hc3
    have pin7:=fun p hp=>I7.pin p (Bei _ hp)
    refine Azu ⟨w.all.length - (i+1),by lia,.mk hlt (I7.pins_of (fun p hp=>by simp at hp)) (T.keep _ _ _ st5 fun b hb o e=>(pin7 (b,o) (pits b o hb e)).1) (fun b hb=>?_) ((s3'.trans s5').trans s7') (pin7 _ pacc).2.1 E7 hg4 (pin7 _ pacc).1 rv3 (rr3.same (s5'.trans s7')) hc3 hz3 (Nat.le_succ_of_le hl3)⟩
    obtain⟨o,e,_⟩:=T.obj _ _ st5 b hb
    exact (pin7 (b,o) (pits b o hb e)).2.1
   |true =>
    rw[Bef rfl] at hc3
    obtain⟨y,e6,hc3⟩:=bind_some hc3
    obtain⟨rs',e7,hc3⟩:=bind_some hc3
    cases hc3
    refine Azv (thn (he cl C s2 H2 fp (X.pn++pins) (hΦ I2) ps s7 σ6 H7 (fun v H'=>Same H7 H'/\Rep X.K H' μ (·∈μ) y v) I7 ⟨env4,μ,m,y,S7,E7,e6,fun v H' s r=>⟨s,r⟩⟩) fun u8 s8 ⟨x8,H8,I8,r8,s8',rx8⟩=>?_)
    have pin8:=fun p hp=>I8.pin p (Bei _ hp)
    have e8:=(pin8 _ pacc).1
    have hil:its.length<=i:=by rw[<- rv3.length,<- rr3.length];exact hl3
    have hsl:sizeLine=16777216:=Bf4
    refine Bhh F.slot_list_append ⟨_,e8,rfl⟩ F.entry_list_append (F.args_list_append_2 _ _) (PySem.list_append Dd its.toArray na u8 (by rw[Bem];lia)) ⟨e8,?_⟩
    obtain⟨na',q9⟩:∃ na',(s8.heap.update Dd (Obj.mapSeq fun a=>a.push u8)).get? Dd=some { cls:=.type "list",data:=.seq (its++[u8]).toArray na' }:=by
     have q9:=PySem.IsL.update e8 (fun a=>a.push u8)
     have ea:(its.toArray.push u8)=(its++[u8]).toArray:=by simp
     rw[ea] at q9
     exact⟨_,q9⟩
    have I8':Inv (Bb X N' scope cl C s2 H2 fp (X.pn++pins)) [] σ6 H8 s8:=I8.pins_of (fun p hp=>by simp at hp)
    have I9:=I8'.turned (it:=Dd) (t':=s8.toks) (h':=s8.heap.update Dd (Obj.mapSeq fun a=>a.push u8)) (fun b o hb e=>(Bfj s8.heap _ (Bgj hb)).trans e) (pin8 _ pacc).2.1 hDne (.inr hDs) hDcell (fun p hp=>hDpn p (by
     have hp:p∈(X.pn++pins)++[]:=hp
     simpa using hp))
    refine⟨w.all.length - (i+1),by lia,.mk (na:=na') hlt I9 (T.keep _ _ _ st5 fun b hb o e=>?_) (fun b hb=>?_) (((s3'.trans s5').trans s7').trans s8') (pin8 _ pacc).2.1 (E7.same s8') hg4 ?_ (rv3.append (.cons r8 .nil)) ((rr3.same ((s5'.trans s7').trans s8')).append (.cons rx8 .nil)) e7 (by rw[<- hz3];simp) (by rw[Bep];simp;lia)⟩
    ·exact (Bfj s8.heap _ (Bgj (fdc b hb).2)).trans (pin8 (b,o) (pits b o hb e)).1
    ·obtain⟨o,e,_⟩:=T.obj _ _ st5 b hb
     exact (pin8 (b,o) (pits b o hb e)).2.1
    ·exact q9
  ·have e:i=w.all.length:=by lia
   subst e
   rw[List.drop_length] at hc3
   cases hc3
   rw[Bev] at hz3
   subst hz3
   refine thn (T.done (Bb X N' scope cl C s2 H2 fp (X.pn++pins)) rfl rfl rfl hc _ _ s3 σ3 H3 _ I3p (fpY fr3 pfp) st3 (hsrc.stop H3 μ m S3 src3 hck)) fun r s4 ⟨hr,I4⟩=>?_
   subst hr
   have e4:=(I4.pin (Dd,_) (Bei _ (List.mem_singleton.mpr rfl))).1
   have hyl:ys.length<=sizeLine:=by rw[<- rr3.length];exact big (Bez hl3 hsz)
   have inv:∀ h',(∀ b o,b≠C->s4.heap.get? b=some o->h'.get? b=some o)->Inv X pins σ (upd H3 Dd (.lst ys)) { s4 with heap:=h' }:=fun h' hk=>by
    have nC:∀ b o,s2.heap.get? b=some o->b≠C/\b≠Dd:=fun b o e=>P0 b (by rw[<- hDd];exact Ben e)
    have un:Un (frs X.stack) fp H2 H3 s2.heap s4.heap:=I4.base
    refine I2.call' (s':={ s4 with heap:=h' }) (ch:=fp) I4.os ⟨fun b o e n hb hx=>hk b o (nC b o e).1 (un.keep b o e n hb hx),fun b o e n hb hx=>?_,fun b o e n hx=>?_,fun b o e hx=>?_,fun b xs e=>?_,fun b o v e=>?_,fun b ps e=>?_⟩ (fun b v e=>?_) I4.bare fun b hb=>?_
    ·obtain⟨sl,q⟩:=un.slot b o e n hb hx
     exact⟨sl,hk b _ (nC b o e).1 q⟩
    ·rw[A0 (nC b o e).2];exact un.free b o e n hx
    ·obtain⟨o',q⟩:=un.there b o e hx
     exact⟨o',hk b _ (nC b o e).1 q⟩
    ·rw[A0 (Az e hDn)];exact un.tups b xs e
    ·rw[A0 (Az e hDn)];exact un.frzs b o v e
    ·obtain⟨more,q⟩:=un.tbls b ps e
     exact⟨more,by rw[A0 (Az e hDn)];exact q⟩
    ·have hCfree:H3 C=none:=I4.free
     by_cases hbD:b=Dd
     ·subst hbD
      rw[A8] at e
      cases e
      exact⟨hyl,its,na,rv3,hk _ _ hDC e4⟩
     ·rw[A0 hbD] at e
      refine (I4.hok b v e).stay (fun c o hc q=>hk c o ?_ q) (fun c q=>by rw[A0 (Az q hD3)];exact q) (fun c xs q=>Rd.upd_none hD3 q) fun c x u q=>by rw[A0 (Az q hD3)];exact q
      rcases hc with rfl|hc
      ·exact Az e hCfree
      ·exact Az hc hCfree
    ·obtain⟨q0,q1,q2,q3,q4,q5⟩:=f2 b hb
     exact⟨q3,q1,q4,q5⟩
   have hCl:C≠X.env.locals:=fun z=>absurd I2.lt (by rw[<- z,hDd];exact Nat.not_lt.mpr hCle)
   have hCc':∀ x c,X.env.cells.lookup x=some c->c≠C:=fun x c e z=>by
    obtain⟨v,oc,ho,_⟩:=I2.cell x c e
    exact absurd (Ben ho) (by rw[z,hDd];exact Nat.not_lt.mpr hCle)
   refine hQ Dd C s4 ⟨⟨upd H3 Dd (.lst ys),ys,(hS2.trans s3').trans (Bk hD3),hS2.free hDn,A8,rr3.fresh hD3,inv s4.heap fun _ _ _ e=>e,by rw[A0 hDC.symm];exact I4.free,fun σ' s'' h' J sb=>?_⟩,?_,hCl,hCc'⟩
   ·exact J.turned (it:=C) (t':=s''.toks) (fun b o hb e=>(sb.2 b hb).trans e) (by rw[A0 hDC.symm];exact I4.free) hCl (.inr (Bez I2.sz (by rw[hDd];exact hCle))) hCc' fun p hp z=>absurd (Ben (I2.pin p hp).1) (by rw[z,hDd];exact Nat.not_lt.mpr hCle)
   obtain⟨m',hm,_⟩:=I4.loc
   exact⟨m',hm⟩
 exact codeAny_compStart_list (key _ rfl) (T.self _ 0 _ _ _ (T.keep _ _ _ st2 fun b hb o e=>hkp b o e) (key _ rfl))
theorem Ag7 (ok:CompOk X scope cap N') (hc:X.calm=true) (hi:PW' X tg iter fw) (hg2:∀ d d' env e1,g d env=some e1->g d' e1=g d' env)
  {Φ:Hp->Prop} (hΦ:∀ {pins:List (Addr×Obj)}{σ:St}{H:Hp}{s:Shared},Inv X pins σ H s->Φ H) (hg:∀ cl C s₀ H₀ ex pn,Φ H₀->PGD (Bb X N' scope cl C s₀ H₀ ex pn) tg g) (ht:∀ cl C s₀ H₀ ex pn,Φ H₀->PTs (Bb X N' scope cl C s₀ H₀ ex pn) ifs t) (he:∀ cl C s₀ H₀ ex pn,Φ H₀->PD (Bb X N' scope cl C s₀ H₀ ex pn) elt fe)
  (hs:∀ x,foldedSetIterable iter X.env x=pure x):PF X (.ListComp elt [⟨tg,iter,ifs,0⟩] scope pos) (Bt cap (N'.length - cap.length) fw g t fe):=by
 intro pins s σ H Q I ⟨env,μ,m,zs,S,E,h,q⟩
 rw[eval_ListComp]
 refine Nd ok hc hi hg2 hΦ hg ht he hs I S E h fun D C s' ⟨⟨H',ys,h1,h2,h3,h4,h5,h6,h7⟩,⟨mm,hm⟩,_,_⟩=>?_
 exact⟨mm,hm,fun h' sb=>⟨.ref D,H',h7 σ s' h' h5 sb,rfl,q D ys H' h1 h2 h3 h4⟩⟩
variable {x:Str}{p' spos:Pos}{i:Nat}
theorem P9 (ok:CompOk X scope cap N') (hc:X.calm=true) (hi:PW' X tg iter fw) (hg2:∀ d d' env e1,g d env=some e1->g d' e1=g d' env)
  {Φ:Hp->Prop} (hΦ:∀ {pins:List (Addr×Obj)}{σ:St}{H:Hp}{s:Shared},Inv X pins σ H s->Φ H) (hg:∀ cl C s₀ H₀ ex pn,Φ H₀->PGD (Bb X N' scope cl C s₀ H₀ ex pn) tg g) (ht:∀ cl C s₀ H₀ ex pn,Φ H₀->PTs (Bb X N' scope cl C s₀ H₀ ex pn) ifs t) (he:∀ cl C s₀ H₀ ex pn,Φ H₀->PD (Bb X N' scope cl C s₀ H₀ ex pn) elt fe)
  (hs:∀ x,foldedSetIterable iter X.env x=pure x) (hsw:swapsWith (.ListComp elt [⟨tg,iter,ifs,0⟩] scope pos) (some (.Name x p')) spos.line X.env=pure true) (hN:X.N.Nodup) (hn:X.N[i]?=some x) (hx:Loc X.env.scope x) (hf:X.fn x=true\/X.env.scope.names.lookup x=some .local) :
  PS X (.Assign [.Name x p'] (.ListComp elt [⟨tg,iter,ifs,0⟩] scope pos) spos) (Aq7 (tF X.K (Bt cap (N'.length - cap.length) fw g t fe)) (Y2 i)):=by
 intro pins s σ H Dn I ⟨env,μ,m,zs,S,E,h,q⟩
 rw[exec_Assign_Name_used _ _ _ _ hsw]
 refine Bea (wpAny_standAt (Bea ?_))
 show wpAny _ X.A (do let _ <- comprehension (.ListComp elt [⟨tg,iter,ifs,0⟩] scope pos) scope X.env _ (newList []) false (eval iter X.env) (some (assign (.Name x p') X.env))) _ _ s
 refine Bea (Bfr (Nd ok hc hi hg2 hΦ hg ht he hs (use:=some (assign (.Name x p') X.env)) (Q:=fun _ s'=>SP X pins Dn .next s') I S E h fun D C s' ⟨⟨H',ys,h1,h2,h3,h4,h5,h6,h7⟩,⟨mm,hm⟩,lc,cc⟩=>?_) (fun _ s' hq=>Bek (Bek hq)) fun _ _ e=>e)
 show wpAny _ X.A (assign (.Name x p') X.env (.ref D)) _ _ _
 refine wpAny_assign_Name (Ue (v:=.ref D) h5 hN hn hx rfl (fun s'' I'' ⟨a,sb,ha⟩=>?_) hf)
 refine⟨mm,hm.sameBut sb ?_,fun h' sb'=>⟨_,H',h7 _ s'' h' I'' sb',q D ys H' h1 h2 h3 h4⟩⟩
 rcases ha with ha|ha
 ·rw[ha];exact lc
 ·exact (cc x a ha).symm
theorem Aov (ok:CompOk X scope cap N') (hc:X.calm=true) (hi:PW' X tg iter fw) (hg2:∀ d d' env e1,g d env=some e1->g d' e1=g d' env)
  (hg:∀ cl C s₀ H₀ ex pn,PGD (Bb X N' scope cl C s₀ H₀ ex pn) tg g) (ht:∀ cl C s₀ H₀ ex pn,PTs (Bb X N' scope cl C s₀ H₀ ex pn) ifs t) (he:∀ cl C s₀ H₀ ex pn,PD (Bb X N' scope cl C s₀ H₀ ex pn) elt fe)
  (hs:∀ x,foldedSetIterable iter X.env x=pure x):PF X (.ListComp elt [⟨tg,iter,ifs,0⟩] scope pos) (Bt cap (N'.length - cap.length) fw g t fe) :=
 Ag7 (Φ:=fun _=>True) ok hc hi hg2 (fun _=>trivial) (fun a b c d e f _=>hg a b c d e f) (fun a b c d e f _=>ht a b c d e f) (fun a b c d e f _=>he a b c d e f) hs
theorem V3 (ok:CompOk X scope cap N') (hc:X.calm=true) (hi:PW' X tg iter fw) (hg2:∀ d d' env e1,g d env=some e1->g d' e1=g d' env)
  (hg:∀ cl C s₀ H₀ ex pn,PGD (Bb X N' scope cl C s₀ H₀ ex pn) tg g) (ht:∀ cl C s₀ H₀ ex pn,PTs (Bb X N' scope cl C s₀ H₀ ex pn) ifs t) (he:∀ cl C s₀ H₀ ex pn,PD (Bb X N' scope cl C s₀ H₀ ex pn) elt fe)
  (hs:∀ x,foldedSetIterable iter X.env x=pure x) (hsw:swapsWith (.ListComp elt [⟨tg,iter,ifs,0⟩] scope pos) (some (.Name x p')) spos.line X.env=pure true) (hN:X.N.Nodup) (hn:X.N[i]?=some x) (hx:Loc X.env.scope x) (hf:X.fn x=true\/X.env.scope.names.lookup x=some .local) :
  PS X (.Assign [.Name x p'] (.ListComp elt [⟨tg,iter,ifs,0⟩] scope pos) spos) (Aq7 (tF X.K (Bt cap (N'.length - cap.length) fw g t fe)) (Y2 i)) :=
 P9 (Φ:=fun _=>True) ok hc hi hg2 (fun _=>trivial) (fun a b c d e f _=>hg a b c d e f) (fun a b c d e f _=>ht a b c d e f) (fun a b c d e f _=>he a b c d e f) hs hsw hN hn hx hf
theorem X3 (h:PS X (.Assign [.Name x p'] (.ListComp elt [⟨tg,iter,ifs,0⟩] scope pos) spos) (Aq7 (tF X.K (Bt cap (N'.length - cap.length) fw g t fe)) (Y2 i))) :
  PSD X (.Assign [.Name x p'] (.ListComp elt [⟨tg,iter,ifs,0⟩] scope pos) spos) (Bn i (Ck (Bt cap (N'.length - cap.length) fw g t fe))):=PS.imp h fun D σ H ⟨env,μ,m,o,S,E,h,q⟩=>by
 obtain⟨d,h1,h2⟩:=bind_some h
 obtain⟨ds,h0,h1⟩:=bind_some h1
 cases h1
 cases h2
 exact⟨env,μ,m,ds,S,E,h0,fun a xs H' s hn ha r=>q _ H' μ (Step.of_same s) (S.same s) ((E.same s).set i (.lst (.inl ha) (S.nnone hn) r.unw))⟩
theorem Ahj (h:PS X (.Assign [.Name x p'] (.ListComp elt [⟨tg,iter,ifs,0⟩] scope pos) spos) (Aq7 (tF X.K (Bt cap (N'.length - cap.length) fw g t fe)) (Y2 i))) :
  PSD X (.Assign [.Name x p'] (.ListComp elt [⟨tg,iter,ifs,0⟩] scope pos) spos) (Ip i (Bt cap (N'.length - cap.length) fw g t fe)):=PS.imp h fun D σ H ⟨env,μ,m,o,S,E,h,q⟩=>by
 obtain⟨ds,h1,h2⟩:=bind_some h
 cases h2
 refine⟨env,μ,m,ds,S,E,h1,fun a xs H' s hn ha r=>?_⟩
 obtain⟨st,S'⟩:=S.push s hn ha r
 exact q _ H' _ st S' ((E.step S st).set i (Vp S.len))
end
end
end ML
end L2
end S_ML7
section S_ML8
namespace L2
namespace ML
open PySem PySem.Spec PyProof.Rows
open Classical
noncomputable section
noncomputable def Its (x:Str):It:=⟨fun i _=>i < x.cps.size,fun i H v H'=>H'=H/\∃ c,x.cps[i]?=some c/\v=.str ⟨#[c]⟩,fun i _=>x.cps.size<=i⟩
theorem Aiq {P:Program}{w:World}{K:W.Frag}{tg:Expr} (it:Addr) (ty:String) (x:Str) (t:Tok) (hty:ty="str_ascii_iterator"\/ty="str_iterator"):Turn P w K tg (Its x) [it] it (fun i h=>h.IsStrIter it ty x t i) where
 mem:=by simp
 obj:=fun i h st b hb=>by
  have e:b=it:=by simpa using hb
  subst e
  obtain⟨o,e,c,d⟩:=st
  exact⟨o,e,fun v z=>by rw[d] at z;cases z⟩
 keep:=fun i h h' st k=>by
  obtain⟨o,e,c,d⟩:=st
  exact⟨o,k it (by simp) o e,c,d⟩
 item:=by
  intro X hP hw hK hc i pins s σ H E I hf st hg
  subst hP hw hK
  obtain⟨f0,f1,f2,f3,f4,f5⟩:=hf it (by simp)
  have hi:i < x.cps.size:=hg
  have hx:x.cps[i]?=some x.cps[i]:=by simp[hi]
  have fin:∀ h',h'.IsStrIter it ty x t (i+1)->Heap.SameBut it s.heap h'->∃ u,some (Value.str ⟨#[x.cps[i]]⟩ s.toks)=some u /\
    wpAny (model X.prog X.w) X.A (letOwnedTupleGo tg (.ref it) u) (fun _ s2=>∃ y H',Inv X pins σ H' s2/\RelV y u/\(Its x).yld i H y H'/\s2.heap.IsStrIter it ty x t (i+1)/\∀ b∈[it],H' b=none) E { s with heap:=h',toks:=s.toks+1 }:=fun h' st' sb=>by
   have I1:Inv X pins σ H { s with heap:=h',toks:=s.toks+1 }:=I.turned (fun b o hb e=>(sb.2 b hb).trans e) f0 f1 f3 f4 f5
   obtain⟨o,e,c,d⟩:=id st'
   refine⟨_,rfl,Aa3 (s:={ s with heap:=h',toks:=s.toks+1 }) e c d (by rcases hty with rfl|rfl<;>decide) ⟨.str ⟨#[x.cps[i]]⟩,H,I1,⟨_,rfl⟩,⟨rfl,_,hx,rfl⟩,st',fun b hb=>(hf b hb).1⟩⟩
  rcases hty with rfl|rfl
  ·exact wpAny_pyNext_ascii_item st hx fun h' st' sb=>fin h' st' sb
  ·exact wpAny_pyNext_wide_item st hx fun h' st' sb=>fin h' st' sb
 done:=by
  intro X hP hw hK hc i pins s σ H E I hf st hg
  subst hP hw hK
  obtain⟨f0,f1,f2,f3,f4,f5⟩:=hf it (by simp)
  have hi:x.cps.size<=i:=hg
  rcases hty with rfl|rfl
  ·exact wpAny_pyNext_ascii_end (I.ok.hd hc) st (by simp[hi]) fun h' eb=>⟨rfl,I.turned (t':=s.toks) (fun b o hb e=>eb b o hb e) f0 f1 f3 f4 f5⟩
  ·exact wpAny_pyNext_wide_end (I.ok.hd hc) st (by simp[hi]) fun h' eb=>⟨rfl,I.turned (t':=s.toks) (fun b o hb e=>eb b o hb e) f0 f1 f3 f4 f5⟩
 self:=fun _ _ _ _ _ st h=>by
  rcases hty with rfl|rfl
  ·exact wpAny_pyIter_striter_ascii st h
  ·exact wpAny_pyIter_striter_wide st h
noncomputable def G9 (z:Str):List D:=z.cps.toList.map fun c=>.str ⟨#[c]⟩
theorem Aqk {K:W.Frag}{z:Str} (ok:PyData.strOk z=true):Src K (Its z) (G9 z) Bm (fun _ _ _=>True) where
 go:=fun H μ m i d S h _ e=>by
  unfold G9 at e
  rw[Bey] at e
  cases q:z.cps.toList[i]? with
  |none=>rw[q] at e;cases e
  |some c =>
   rw[q] at e
   cases e
   have hi:i < z.cps.size:=by simpa using (List.getElem?_eq_some_iff.mp q).1
   have q':z.cps[i]?=some c:=by simpa using q
   refine⟨hi,fun x H' ⟨h1,c',h2,h3⟩=>?_⟩
   subst h1
   subst h3
   rw[q'] at h2
   cases h2
   exact⟨Same.refl _,.str _ (Gn ok fun c' hc=>by rw[show c'=c by simpa using hc];exact Be1 q)⟩
 stop:=fun H μ m S h _=>by show z.cps.size<=(G9 z).length;unfold G9;simp
 keep:=fun H μ m H' μ' m' h S st S'=>trivial
section
variable {X:Cx}{a b c e o':Expr}{es:List Expr}{pos p p' apos cpos spos:Pos}{x:Str}{tg:Expr}{id:String}
def Hk (f:FE):FW:=fun env m=>(f env m).bind fun d=>match d with
 |.str z=>some ⟨G9 z,Bm⟩
 |.tup ds=>some ⟨ds,Bm⟩
 |.lst ds=>some ⟨ds,Bm⟩
 |.kl ds=>some ⟨ds,Bm⟩
 |.ref n=>(match m[n]? with
  |some (.lst ds)=>some ⟨ds,fun m'=>m'[n]?=some (.lst ds)⟩
  |_=>none)
 |_=>none
theorem Awa {f:FE} (h:PD X e f):PW' X tg e (Hk f):=by
 intro pins s σ H R I hw
 obtain⟨env,μ,m,w,S,E,hw,q⟩:=hw
 obtain⟨d,h1,h2⟩:=bind_some hw
 refine thn (h pins s σ H (fun v H1=>Same H H1/\Rep X.K H1 μ (·∈μ) d v) I ⟨env,μ,m,d,S,E,h1,fun v H1 s1 r1=>⟨s1,r1⟩⟩) fun u s1 ⟨v,H1,I1,r1,s1',rx⟩=>?_
 have lst:∀ {a:Addr}{xs:List V},u=.ref a->SqL X.K H1 a xs->R (Itl X.K a) H1->wpAny (model X.prog X.w) X.A (pyIter u) (PIE X pins σ tg R) X.xe s1:=fun {a xs} e hq hR=>by
  subst e
  obtain⟨its,rv,p,hz⟩:=I1.list hq
  refine wpAny_pyIter_list p.isList ?_
  refine⟨s1.heap.objs.size,[s1.heap.objs.size],_,_,H1,rfl,I1.kept (t':=s1.toks) fun b o e=>Bec _ e,Aem a _,⟨_,Beq _ rfl,rfl,rfl⟩,fun b hb=>?_,hR⟩
  have e:b=s1.heap.objs.size:=by simpa using hb
  subst e
  exact I1.fpOk (Bej _) (I1.hok.fresh (Bej _))
 have rx0:=rx
 cases rx with
 |str z ok =>
  cases h2
  obtain⟨t,rfl⟩:=r1
  have fin:∀ ty,(ty="str_ascii_iterator"\/ty="str_iterator")->PIE X pins σ tg R (.ref s1.heap.objs.size) { s1 with heap:=s1.heap.push { cls:=.type ty,data:=.fields #[.str z t,.int 0 0] } }:=fun ty hty=>by
   refine⟨s1.heap.objs.size,[s1.heap.objs.size],_,_,H1,rfl,I1.kept (t':=s1.toks) fun b o e=>Bec _ e,Aiq _ ty z t hty,⟨_,Beq _ rfl,rfl,rfl⟩,fun b hb=>?_,q H1 _ _ s1' (Aqk ok) trivial⟩
   have e:b=s1.heap.objs.size:=by simpa using hb
   subst e
   exact I1.fpOk (Bej _) (I1.hok.fresh (Bej _))
  cases ha:z.cps.all (· < 128)
  ·exact wpAny_pyIter_wide ha (fin _ (.inr rfl))
  ·exact wpAny_pyIter_ascii ha (fin _ (.inl rfl))
 |@tup ds a xs hq rs =>
  cases h2
  cases r1
  obtain⟨its,rv,p,hz⟩:=I1.tuple hq
  refine wpAny_pyIter_tuple (show s1.heap.IsTuple a its.toArray from p) ?_
  refine⟨s1.heap.objs.size,[s1.heap.objs.size],_,_,H1,rfl,I1.kept (t':=s1.toks) fun b o e=>Bec _ e,Zy a _,⟨_,Beq _ rfl,rfl,rfl⟩,fun b hb=>?_,q H1 _ _ s1' Aql rx0⟩
  have e:b=s1.heap.objs.size:=by simpa using hb
  subst e
  exact I1.fpOk (Bej _) (I1.hok.fresh (Bej _))
 |@lst ds a xs hq _ rs=>cases h2;exact lst r1 (.inl hq) (q H1 _ _ s1' Aqh rx0)
 |@kl ds a xs hq rs=>cases h2;exact lst r1 hq.sq (q H1 _ _ s1' Awv rx0)
 |dic _ _ _ _=>cases h2
 |fn _=>exact Ak h2
 |@ref n a e =>
  simp only at h2
  cases q':m[n]? with
  |none=>simp[q'] at h2
  |some ob =>
   simp only[q'] at h2
   cases ob with
   |dct _ _=>cases h2
   |lst ds =>
    cases h2
    obtain⟨xs,e1,rs⟩:=(S.same s1').obj n a _ e q'
    exact lst r1 (SqL.of e1) (q H1 _ _ s1' Aqj e)
 |non=>exact Ak h2
 |bl _=>exact Ak h2
 |int _=>exact Ak h2
theorem Sim.write {K:W.Frag}{H:Hp}{μ:List Addr}{m:MH}{n:Nat}{a:Addr}{ds es:List D}{ys:List V} (S:Sim K H μ m) (h1:μ[n]?=some a) (h2:m[n]?=some (.lst ds)) (r:Reps K H μ (·∈μ) es ys) :
  Step H μ (upd H a (.lst ys)) μ/\Sim K (upd H a (.lst ys)) μ (m.set n (.lst es))/\∀ {d:D}{v:V},Rep K H μ (·∈μ) d v->Rep K (upd H a (.lst ys)) μ (·∈μ) d v:=by
 have ha:a∈μ:=Be1 h1
 have st:Step H μ (upd H a (.lst ys)) μ:=⟨⟨[],by simp,by simp⟩,fun b o e hb=>by rw[A0 fun z=>hb (by rw[z];exact ha)];exact e⟩
 have nl:n < m.length:=(List.getElem?_eq_some_iff.mp h2).1
 refine⟨st,⟨S.nd,by simp[S.len],fun j b o h3 h4=>?_⟩,fun r=>r.step S st⟩
 by_cases hj:j=n
 ·subst hj
  rw[h1] at h3
  cases h3
  rw[Bfv nl] at h4
  cases h4
  exact⟨ys,A8,r.step S st⟩
 ·rw[Bgd (Bgj hj)] at h4
  have q:=S.obj j b o h3 h4
  have hb:b≠a:=fun z=>hj (by
   subst z
   exact (List.getElem_inj S.nd).mp ((List.getElem?_eq_some_iff.mp h3).2.trans (List.getElem?_eq_some_iff.mp h1).2.symm))
  cases o with
  |lst fs=>obtain⟨zs,q1,q2⟩:=q;exact⟨zs,by rw[A0 hb];exact q1,q2.step S st⟩
  |dct ks vs=>obtain⟨zs,q1,q2,q3⟩:=q;exact⟨zs,by rw[A0 hb];exact q1,q2,q3.step S st⟩
def Bbf (X:Cx) (r:V->List V->Hp->VK->Prop) (o:List D->List D->Option (List D)):Prop :=
 ∀ (μ:List Addr) (H:Hp) (a:Addr) (xs vs:List V) (ds es fs:List D) (Q:VK),H a=some (.lst xs)->a∈μ->Reps X.K H μ (·∈μ) ds xs->Reps X.K H μ (·∈μ) es vs->o ds es=some fs->(∀ ys,Reps X.K H μ (·∈μ) fs ys->Q .non (upd H a (.lst ys)))->r (.ref a) vs H Q
noncomputable def Pu (o:List D->List D->Option (List D)) (f:FE) (g:FL):FS:=fun env m=>(f env m).bind fun d=>match d with
 |.ref n=>(g env m).bind fun es=>(match m[n]? with
  |some (.lst ds)=>(o ds es).bind fun fs=>some (.nx env (m.set n (.lst fs)))
  |_=>none)
 |_=>none
theorem Ao8 {r:V->List V->Hp->VK->Prop}{o:List D->List D->Option (List D)}{f:FE}{g:FL}{name:Str} (pa:PlainAttrs "list") (slot:Slot "list" name id) (hty:typeOf (.builtin id)=pure (.type "method_descriptor")) (hm:MtR X id r) (ho:Bbf X r o) (hf:PD X o' f) (ha:PL X (e::es) g)
  (hbase:attributeBase o' name X.env (eval o' X.env)=eval o' X.env)
  (hfew:((backTo cpos (starEach (e::es) X.env)).all (fun x=>!x.1)&&(backToKw cpos (keywordEach [] X.env)).all (fun x=>x.1.isSome)
   &&decide ((e::es).length+([]:List Keyword).length+(if ([]:List Keyword).isEmpty then 0 else 1) < 30))=true)
  (hline:(apos.endLine == cpos.line)=true) (hs:starEach (e::es) X.env=(false,eval e X.env)::starEach es X.env) (hplain:(backTo cpos (starEach es X.env)).any (·.1)=false) :
  PSD X (.Expr (.Call (.Attribute o' name apos) (e::es) [] cpos) spos) (Pu o f g):=PS.imp (Ao5 (Bah pa slot hty hm hf ha hbase hfew hline hs hplain)) fun D σ H ⟨env,μ,m,ob,S,E,h,q⟩=>by
 obtain⟨d,h1,h⟩:=bind_some h
 refine⟨env,μ,m,d,S,E,h1,fun v H1 s1 r1=>?_⟩
 cases r1 with
 |@ref n a e =>
  simp only at h
  obtain⟨es,h2,h⟩:=bind_some h
  cases q':m[n]? with
  |none=>simp[q'] at h
  |some mo =>
   simp only[q'] at h
   cases mo with
   |dct _ _=>cases h
   |lst ds =>
    simp only at h
    obtain⟨fs,h3,h⟩:=bind_some h
    cases h
    obtain⟨xs,e1,rs⟩:=(S.same s1).obj n a _ e q'
    refine⟨.inl ⟨rfl,xs,SqL.of e1⟩,env,μ,m,es,S.same s1,E.same s1,h2,fun vs H2 s2 r2=>?_⟩
    have S2:=S.same (s1.trans s2)
    refine ho μ H2 a xs vs ds es fs _ (s2 _ _ e1) (Be1 e) (rs.same s2) r2 h3 fun ys ry=>?_
    obtain⟨st,S3,up⟩:=S2.write e q' ry
    exact q σ _ μ ((Step.of_same (s1.trans s2)).trans st fun c hc=>(s1.trans s2).free hc) S3 ((E.same (s1.trans s2)).step S2 st)
 |_=>exact Ak h
noncomputable def Pt:List D->List D->Option (List D):=fun ds es=>match es with
 |[d]=>if ds.length < 1000000 then some (ds++[d]) else none
 |_=>none
theorem At8:Bbf X Adp Pt:=fun μ H a xs vs ds es fs Q h1 ha rs re h q=>by
 match es,h with
 |[d],h =>
  unfold Pt at h
  simp only at h
  split at h
  ·rename_i hl
   cases h
   obtain⟨v,rfl,r⟩:=re.one
   exact⟨a,xs,v,rfl,rfl,h1,by rw[<- rs.length];have:sizeLine=16777216:=Bf4;lia,q _ (rs.append (.cons r .nil))⟩
  ·cases h
def T7 (f fo fi:FE):FS:=fun env m=>(f env m).bind fun d=>(fo env m).bind fun o=>(fi env m).bind fun i=>match o,i with
 |.ref n,.int k=>(match m[n]? with
  |some (.lst ds)=>(ixN ds.length k).bind fun j=>some (.nx env (m.set n (.lst (ds.set j d))))
  |_=>none)
 |_,_=>none
theorem Adb {f fo fi:FE} (he:PD X e f) (ho:PD X a fo) (hi:PD X b fi)
  (ha:∀ v,assign (.Subscript a b p) X.env v=(do
   let ov <- holding [v] (eval a X.env)
   let iv <- holding [v,ov] (eval b X.env)
   standAt p
   holding [v,ov,iv] (setItem ov iv v)
   release [v,ov,iv] [])) (hs:swapsWithSole [.Subscript a b p] e pos.line X.env=pure false) (hw:swappedStores [.Subscript a b p] e X.env=pure none) (h1:(assignEach [.Subscript a b p] X.env).map (·.2)=[assign (.Subscript a b p) X.env]) :
  PSD X (.Assign [.Subscript a b p] e pos) (T7 f fo fi):=PS.imp (Ac8 he (Aj0 ho hi Ah4 ha) hs hw h1) fun D σ H ⟨env,μ,m,ob,S,E,h,q⟩=>by
 obtain⟨d,h1,h⟩:=bind_some h
 obtain⟨o,h2,h⟩:=bind_some h
 obtain⟨i,h3,h⟩:=bind_some h
 refine⟨env,μ,m,d,S,E,h1,fun v H1 s1 r1=>⟨env,μ,m,o,S.same s1,E.same s1,h2,fun u H2 s2 r2=>⟨env,μ,m,i,S.same (s1.trans s2),E.same (s1.trans s2),h3,fun w H3 s3 r3=>?_⟩⟩⟩
 have s':=(s1.trans s2).trans s3
 have r2':=r2.same s3
 obtain⟨n,rfl⟩:∃ n,o=.ref n:=by
  cases o with
  |ref n=>exact⟨n,rfl⟩
  |_=>cases h
 obtain⟨k,rfl⟩:∃ k,i=.int k:=by
  cases i with
  |int k=>exact⟨k,rfl⟩
  |_=>cases h
 cases r3
 cases r2' with
 |@ref _ a e =>
  simp only at h
  cases q':m[n]? with
  |none=>simp[q'] at h
  |some mo =>
   simp only[q'] at h
   cases mo with
   |dct _ _=>cases h
   |lst ds =>
    simp only at h
    obtain⟨j,h4,h⟩:=bind_some h
    cases h
    obtain⟨xs,e1,rs⟩:=(S.same s').obj n a _ e q'
    refine⟨a,xs,k,j,rfl,rfl,e1,by rw[<- rs.length];exact h4,?_⟩
    obtain⟨st,S3,up⟩:=(S.same s').write e q' (rs.set ((r1.same s2).same s3) j)
    exact q σ _ μ ((Step.of_same s').trans st fun c hc=>s'.free hc) S3 ((E.same s').step (S.same s') st)
def Jk (o o':D->D->MH->Option D) (f g h:FE):FE:=fun env m=>(f env m).bind fun x=>(g env m).bind fun y=>(o x y m).bind fun z=>(asB z).bind fun k=>if k=true then (h env m).bind fun w=>o' y w m else some (.bl false)
theorem Ag3 (ho:OpM X (compareOp op) o) (ho':OpM X (compareOp op2) o2) (ha:PD X a f) (hb:PD X b g) (hc:PD X c h) (hm:lastMarks [op,op2] [b,c]=false):PD X (.Compare a [op,op2] [b,c] pos) (Jk o o2 f g h):=by
 intro pins s σ H Q I ⟨env,μ,m,d,S,E,h,q⟩
 obtain⟨x,h1,h⟩:=bind_some h
 obtain⟨y,h2,h⟩:=bind_some h
 obtain⟨z,h3,h⟩:=bind_some h
 obtain⟨k,h4,h9⟩:=bind_some h
 cases Ho h4
 refine Compare_chain (thn (ha pins s σ H (fun v H1=>Same H H1/\Rep X.K H1 μ (·∈μ) x v) I ⟨env,μ,m,x,S,E,h1,fun v H1 s r=>⟨s,r⟩⟩) fun v s1 ⟨v1,H1,I1,r1,s1',rx⟩=>chain_link (thn (hb pins s1 σ H1 (fun v H2=>Same H1 H2/\Rep X.K H2 μ (·∈μ) y v) I1 ⟨env,μ,m,y,S.same s1',E.same s1',h2,fun v H1 s r=>⟨s,r⟩⟩) fun u s2 ⟨v2,H2,I2,r2,s2',ry⟩ =>
  thn (ho pins s2 σ H2 μ m x y (.bl k) v1 v2 v u (fun w H3=>w=.bl k/\Same H2 H3) I2 (S.same (s1'.trans s2')) (rx.same s2') ry r1 r2 h3 fun w H3 s3 r3=>⟨by cases r3;rfl,s3⟩) fun d' s3 ⟨w3,H3,I3,r3,e3,s3'⟩=>?_)) hm
 subst e3
 cases r3
 have s':=(s1'.trans s2').trans s3'
 refine Bfo ?_
 cases k with
 |false =>
  rw[Beg Bew] at h9
  cases h9
  exact ite_ff ⟨.bl false,H3,I3,rfl,q _ H3 s' (.bl false)⟩
 |true =>
  rw[Bef rfl] at h9
  obtain⟨w,h5,h6⟩:=bind_some h9
  refine ite_tt (chain_last (thn (hc pins s3 σ H3 (fun v H4=>Same H3 H4/\Rep X.K H4 μ (·∈μ) w v) I3 ⟨env,μ,m,w,S.same s',E.same s',h5,fun v H1 s r=>⟨s,r⟩⟩) fun w' s4 ⟨v4,H4,I4,r4,s4',rw'⟩=>?_))
  exact ho' pins s4 σ H4 μ m y w d v2 v4 u w' Q I4 (S.same (s'.trans s4')) ((ry.same s3').same s4') rw' r2 r4 h6 fun w5 H5 s5 r5=>q w5 H5 ((s'.trans s4').trans s5) r5
theorem Ag0 (ho:OpM X (compareOp op) o) (ho':OpM X (compareOp op2) o2) (ha:PD X a f) (hb:PD X b g) (hc:PD X c h) (hm:lastMarks [op,op2] [b,c]=false):PB X (.Compare a [op,op2] [b,c] pos) (A4 (Jk o o2 f g h)):=by
 intro pins s σ H Q I hh
 obtain⟨env,μ,m,d,S,E,h,q⟩:=hh.val
 obtain⟨x,h1,h⟩:=bind_some h
 obtain⟨y,h2,h⟩:=bind_some h
 obtain⟨z,h3,h⟩:=bind_some h
 obtain⟨k,h4,h9⟩:=bind_some h
 cases Ho h4
 refine isTrue_chain (thn (ha pins s σ H (fun v H1=>Same H H1/\Rep X.K H1 μ (·∈μ) x v) I ⟨env,μ,m,x,S,E,h1,fun v H1 s r=>⟨s,r⟩⟩) fun v s1 ⟨v1,H1,I1,r1,s1',rx⟩=>test_link (thn (hb pins s1 σ H1 (fun v H2=>Same H1 H2/\Rep X.K H2 μ (·∈μ) y v) I1 ⟨env,μ,m,y,S.same s1',E.same s1',h2,fun v H1 s r=>⟨s,r⟩⟩) fun u s2 ⟨v2,H2,I2,r2,s2',ry⟩ =>
  thn (ho pins s2 σ H2 μ m x y (.bl k) v1 v2 v u (fun w H3=>w=.bl k/\Same H2 H3) I2 (S.same (s1'.trans s2')) (rx.same s2') ry r1 r2 h3 fun w H3 s3 r3=>⟨by cases r3;rfl,s3⟩) fun d' s3 ⟨w3,H3,I3,r3,e3,s3'⟩=>?_)) hm
 subst e3
 cases r3
 have s':=(s1'.trans s2').trans s3'
 refine Bfo ?_
 cases k with
 |false =>
  rw[Beg Bew] at h9
  cases h9
  obtain⟨k',e',q'⟩:=q _ H3 s' (.bl false)
  cases e'
  exact ite_ff ⟨H3,I3,q'⟩
 |true =>
  rw[Bef rfl] at h9
  obtain⟨w,h5,h6⟩:=bind_some h9
  refine ite_tt (test_last (thn (hc pins s3 σ H3 (fun v H4=>Same H3 H4/\Rep X.K H4 μ (·∈μ) w v) I3 ⟨env,μ,m,w,S.same s',E.same s',h5,fun v H1 s r=>⟨s,r⟩⟩) fun w' s4 ⟨v4,H4,I4,r4,s4',rw'⟩=>?_))
  refine thn (ho' pins s4 σ H4 μ m y w d v2 v4 u w' _ I4 (S.same (s'.trans s4')) ((ry.same s3').same s4') rw' r2 r4 h6 fun w5 H5 s5 r5=>q w5 H5 ((s'.trans s4').trans s5) r5) fun d' s5 ⟨z2,H5,I5,r5,k2,e2,q5⟩=>?_
  subst e2
  cases r5
  exact Bfo ⟨H5,I5,q5⟩
end
end
end ML
end L2
end S_ML8
section S_ML8a
namespace L2
namespace ML
open PySem PySem.Spec PyProof.Rows
noncomputable def Bj:Expr->Bool
 |.Starred ..=>false
 |_=>true
noncomputable def Pa:Expr->Bool
 |.ListComp ..=>false|.SetComp ..=>false|.DictComp ..=>false
 |_=>true
noncomputable def Ajm:Expr->Bool
 |.UnaryOp ..=>false|.BoolOp ..=>false|.IfExp ..=>false|.Compare ..=>false
 |_=>true
noncomputable def Azz:Expr->Bool
 |.Slice ..=>false
 |_=>true
noncomputable def H9:Expr->Bool
 |.Set ..=>false
 |_=>true
noncomputable def L9:Expr->Bool
 |.Call ..=>false
 |_=>true
theorem Au (h:Bj e=true):starEach (e::es) env=(false,eval e env)::starEach es env:=by
 cases e<;>first|rfl|cases h
theorem C7 {pos:Pos}{env:Env}:∀ {es:List Expr},es.all Bj=true->(backTo pos (starEach es env)).any (·.1)=false
 |[],_=>rfl
 |e::es,h=>by
  rw[Bfi,Bet] at h
  rw[Au h.1]
  have ih:=C7 (pos:=pos) (env:=env) h.2
  unfold backTo at ih ⊢
  rw[Bee,Bf6,ih]
  rfl
theorem Ye {pos:Pos}{env:Env}:∀ {es:List Expr},es.all Bj=true->(backTo pos (starEach es env)).all (fun x=>!x.1)=true
 |[],_=>rfl
 |e::es,h=>by
  rw[Bfi,Bet] at h
  rw[Au h.1]
  have ih:=Ye (pos:=pos) (env:=env) h.2
  unfold backTo at ih ⊢
  rw[Bee,Bfi,ih]
  rfl
theorem Il {pos:Pos} (h:es.all Bj=true) (hl:decide (es.length < 30)=true):((backTo pos (starEach es env)).all (fun x=>!x.1)&&(backToKw pos (keywordEach [] env)).all (fun x=>x.1.isSome)
   &&decide (es.length+([]:List Keyword).length+(if ([]:List Keyword).isEmpty then 0 else 1) < 30))=true:=by
 rw[Ye h]
 have hl:=Bfk hl
 have e:es.length+([]:List Keyword).length+(if ([]:List Keyword).isEmpty then 0 else 1)=es.length:=rfl
 rw[e,Bf0 hl]
 rfl
theorem Mr {t:Option Expr}{l:Nat} (h:Pa e=true):swapsWith e t l env=pure false:=by
 cases e<;>first|rfl|cases h
theorem Pn {e t:Expr}{l:Nat} (h:Pa e=true):swapsWithSole [t] e l env=pure false:=Mr h
theorem Zu (h:Ajm e=true):∀ whole,isTrue e env whole=(do let v <- whole;standAt e.pos;holding [v] (truthy v)):=by
 intro whole
 cases e<;>first|rfl|cases h
theorem Xd (h:Azz e=true):Oc e:=by
 intro o i
 cases e<;>first|rfl|cases h
theorem Ed (h:H9 e=true):∀ x,foldedSetIterable e env x=pure x:=by
 intro x
 cases e<;>first|rfl|cases h
theorem Dm (h:L9 e=true):attributeBase e n env (eval e env)=eval e env:=by
 cases e<;>first|rfl|cases h
theorem Nu (h:H9 e=true):behindInMarks op e=false:=by
 cases e<;>first|rfl|cases h
open Classical
noncomputable section
def Iv (scope outer:Scope) (N N':List Str) (cap:List Nat):Bool :=
 scope.kind == .function&&scope.names.all (fun y=>y.2 != .cell||scope.names.lookup y.1 == some .cell)&&scope.names.all (fun y=>y.2 != .local||scope.names.lookup y.1 == some .local)
 &&scope.names.all (fun y=>y.2 != .free||(outer.names.lookup y.1 == some .cell||outer.names.lookup y.1 == some .free))&&decide N'.Nodup&&decide (cap.length<=N'.length)
 &&(List.range cap.length).all fun j=>match cap[j]?,N'[j]? with
  |some i,some x=>N[i]? == some x&&scope.names.lookup x == some .free
  |_,_=>false
theorem CompOk.of {cap:List Nat} (h:Iv scope X.env.scope X.N N' cap=true):CompOk X scope cap N':=by
 unfold Iv at h
 simp only[Bet] at h
 obtain⟨⟨⟨⟨⟨⟨h1,h2⟩,h3⟩,h4⟩,h5⟩,h6⟩,h7⟩:=h
 refine⟨by simpa using h1,fun y hy e=>?_,fun y hy e=>?_,fun y hy e=>?_,Bfk h5,Bfk h6,fun j i x e1 e2=>?_⟩
 ·have:=List.all_eq_true.mp h2 y hy
  rw[e] at this
  simpa using this
 ·have:=List.all_eq_true.mp h3 y hy
  rw[e] at this
  simpa using this
 ·have:=List.all_eq_true.mp h4 y hy
  rw[e] at this
  simpa using this
 ·have hj:j < cap.length:=(List.getElem?_eq_some_iff.mp e1).1
  have:=List.all_eq_true.mp h7 j (List.mem_range.mpr hj)
  rw[e1,e2] at this
  simpa using this
theorem Bv (i:Nat):∀ d d' env e1,A7 i d env=some e1->A7 i d' e1=A7 i d' env:=fun d d' env e1 h=>by
 cases h
 unfold A7
 rw[List.set_set]
structure QD (X:Cx) (e:Expr) (f:FE):Prop where out:PD X e f
structure QF (X:Cx) (e:Expr) (f:FL):Prop where out:PF X e f
structure QB (X:Cx) (e:Expr) (f:FB):Prop where out:PB X e f
structure QWB (X:Cx) (e:Expr) (f:FB):Prop where out:PWB X e f
structure QL (X:Cx) (e:List Expr) (f:FL):Prop where out:PL X e f
structure QO (X:Cx) (e:Option Expr) (f:FO):Prop where out:PO' X e f
structure QS (X:Cx) (e:Stmt) (f:FS):Prop where out:PSD X e f
structure QSs (X:Cx) (e:List Stmt) (f:FS):Prop where out:Z6 X e f
structure QG (X:Cx) (e:Expr) (f:FG):Prop where out:PGD X e f
structure QGs (X:Cx) (e:List Expr) (f:List D->Bg->Option Bg):Prop where out:Aq9 X e f
structure QW (X:Cx) (tg e:Expr) (f:FW):Prop where out:PW' X tg e f
structure QTs (X:Cx) (e:List Expr) (f:FB):Prop where out:PTs X e f
theorem Bdc {P:Program}{w:World}{K:W.Frag}{mg:Str->Option Value}{base:Heap}{x qual:Str}{st:Stmt}{f:Addr}{fd:FuncData}{N ps:List Str}{k n:Nat} (F:Fun K x qual st f fd) (S:FnScope N ps (As st)) (g:FS) (fn:List D->Option D) (hfn:fn=Cy N.length g) (hn:ps.length=n)
  (hbody:∀ (cdv:Value) (A:Around) (outer:List Env) (s:Shared) (H:Hp) (E:XK),Room k (A.deeper (envOfC qual (As st) s.heap.objs.size f cdv)) ->
   QSs (Uo CX0 P w K mg base N qual (As st) f cdv A outer s H E).nox (By st) g):FnOk P w K mg base CX0 (k+1) f fd ps (spP K n fn):=by
 subst hfn hn
 exact Amd F S fun cdv A outer s H E hr=>(hbody cdv A outer s H E hr).out
theorem B5:QTs X [] Hc:=⟨Apf⟩
theorem Awi (h:QB X c f):QTs X [c] f:=⟨Apg h.out⟩
section
variable {X:Cx}{a b c e:Expr}{es:List Expr}{pos p p' apos cpos spos:Pos}{x:Str}{tg:Expr}{id:String}
theorem Ad {i j}:QD X (.Constant (.int i) j pos) (fC (.int i)):=⟨Avk⟩
theorem X5 {i j}:QD X (.Constant (.bool i) j pos) (fC (.bl i)):=⟨Bab⟩
theorem Dh {j}:QD X (.Constant .none j pos) (fC .non):=⟨Avp⟩
theorem Awe {d:D} (hm:X.mg x=some u) (r:RelV v u) (hr:∀ H,Rep X.K H [] (fun _=>True) d v) (hg:Gl X x:=by unfold Gl;kernel_rfl) (hd:(x == ("__debug__":Str))=false:=by decide):QD X (.Name x pos) (fC d):=⟨Aop hg hm r hr hd⟩
theorem Ao (ho:OpM X (binaryOp op) o) (ha:QD X a f) (hb:QD X b g):QD X (.BinOp a op b pos) (f2 o f g):=⟨Avh ho ha.out hb.out⟩
theorem Apv (ha:QD X a f):QD X (.UnaryOp .Not a pos) (U2 f):=⟨Avq ha.out⟩
theorem Ih {op} (h:QD X a f):QD X (.BoolOp op [a] pos) f:=⟨Avr h.out⟩
theorem Tu (ha:QD X a f) (hb:QD X (.BoolOp .And (b::es) pos) g):QD X (.BoolOp .And (a::b::es) pos) (Jw f g):=⟨Avg ha.out hb.out⟩
theorem Aq5 (ha:QD X a f) (hb:QD X (.BoolOp .Or (b::es) pos) g):QD X (.BoolOp .Or (a::b::es) pos) (Ae1 f g):=⟨Bae ha.out hb.out⟩
theorem Aq4 {t:FB} (hc:QB X c t) (ha:QD X a f) (hb:QD X b g):QD X (.IfExp c a b pos) (fIf t f g):=⟨Bac hc.out ha.out hb.out⟩
theorem A5 {x1} (h:QL X es g):QD X (.Tuple es x1 pos) (B7 g):=⟨Avt h.out⟩
theorem Da (h:QL X es g):QF X (.List es pos) (Bp g):=⟨Av2 h.out⟩
theorem Dg (h:QF X e g):QD X e (Ck g):=⟨Ag4 h.out⟩
theorem Ac:QL X [] Ai:=⟨Av4⟩
theorem Cn:QO X none fNo:=⟨Ahc⟩
theorem Cb (h:QD X e f):QO X (some e) (Dy f):=⟨Ahd h.out⟩
theorem X9 {f:FE}{l h:FO}{lo hi:Option Expr} (ha:QD X a f) (hl:QO X lo l) (hh:QO X hi h):QD X (.Subscript a (.Slice lo hi none p) pos) (fSl f l h):=⟨Baf ha.out hl.out hh.out⟩
theorem Awh {f:FE}{l h:FO}{lo hi:Option Expr} (ha:QD X a f) (hl:QO X lo l) (hh:QO X hi h):QF X (.Subscript a (.Slice lo hi none p) pos) (Aqz f l h):=⟨Ban ha.out hl.out hh.out⟩
theorem Zn (ha:QD X a f) (hb:QD X b g):QF X (.BinOp a .Add b pos) (Aey f g):=⟨Av1 ha.out hb.out⟩
theorem Awf {j} (ha:QD X a f):QD X (.Compare a [.Is] [.Constant .none j p] pos) (f1 M7 f):=⟨Avl ha.out⟩
theorem Mg {j} (ha:QD X a f):QB X (.Compare a [.Is] [.Constant .none j p] pos) (A4 (f1 M7 f)):=⟨Ava ha.out⟩
theorem Mh {j} (ha:QD X a f):QB X (.Compare a [.IsNot] [.Constant .none j p] pos) (A4 (f1 L6 f)):=⟨Aon ha.out⟩
theorem Apo (ho:OpM X (compareOp op) o) (ho':OpM X (compareOp op2) o2) (ha:QD X a f) (hb:QD X b g) (hc:QD X c h) (hm:lastMarks [op,op2] [b,c]=false:=by rfl):QD X (.Compare a [op,op2] [b,c] pos) (Jk o o2 f g h):=⟨Ag3 ho ho' ha.out hb.out hc.out hm⟩
theorem Ahq (ho:OpM X (compareOp op) o) (ho':OpM X (compareOp op2) o2) (ha:QD X a f) (hb:QD X b g) (hc:QD X c h) (hm:lastMarks [op,op2] [b,c]=false:=by rfl):QB X (.Compare a [op,op2] [b,c] pos) (A4 (Jk o o2 f g h)):=⟨Ag0 ho ho' ha.out hb.out hc.out hm⟩
theorem Mi (ha:QB X a f):QWB X (.BoolOp .And [a] pos) f:=⟨Aho ha.out⟩
theorem Gk (ha:QB X a f):QWB X (.BoolOp .Or [a] pos) f:=⟨Apk ha.out⟩
theorem Tx (ha:QB X a f) (hb:QWB X (.BoolOp .And (b::es) pos) g):QWB X (.BoolOp .And (a::b::es) pos) (Aex f g):=⟨Apj ha.out hb.out⟩
theorem Jy (ha:QB X a f) (hb:QWB X (.BoolOp .Or (b::es) pos) g):QWB X (.BoolOp .Or (a::b::es) pos) (fOr f g):=⟨Awc ha.out hb.out⟩
theorem Cg (h:QWB X (.BoolOp op es pos) f):QB X (.BoolOp op es pos) f:=⟨Aom h.out⟩
theorem N2 (ha:QB X a f):QB X (.UnaryOp .Not a pos) (Ae0 f):=⟨Avb ha.out⟩
theorem C4 (h:QD X e f):QW X tg e (Hk f):=⟨Awa h.out⟩
theorem X7:QGs X [] Al6:=⟨Aha⟩
variable {st:Stmt}{rest sa sb:List Stmt}
theorem Ap:QSs X [] B6:=⟨Apa⟩
theorem Ab (h1:QS X st f) (h2:QSs X rest g):QSs X (st::rest) (Ax f g):=⟨Ahg h1.out h2.out⟩
theorem Aj (h1:QS X st f):QSs X [st] f:=⟨Apb h1.out⟩
theorem Al (he:QD X e f):QS X (.Return (some e) pos) (Bf f):=⟨Apc he.out⟩
theorem A1 {t:FB} (hc:QB X c t) (ha:QSs X sa f) (hb:QSs X sb g):QS X (.If c sa sb pos) (sIf t f g):=⟨Av7 hc.out ha.out hb.out⟩
theorem Ya (k:Nat) (hp:PassesOwn (model X.prog X.w) X.A X.env X.xe) (hc:QB X c f) (hb:QSs X body g):QS X (.While c body [] pos) (Gq f g k):=⟨Adc k hp hc.out hb.out⟩
theorem Ag (i:Nat) (hN:X.N[i]?=some x:=by kernel_rfl) (hv:Vis X.env.scope x:=by exact Bgn (by kernel_rfl)) (hd:(x == ("__debug__":Str))=false:=by decide) (hcd:(x == ("__classdict__":Str))=false:=by decide):QD X (.Name x pos) (Ah i):=⟨Ajz i hN hv hd hcd⟩
theorem Cz (i:Nat) (hN:X.N[i]?=some x:=by kernel_rfl) (hv:Vis X.env.scope x:=by exact Or.inr (Bgn (by kernel_rfl))) (hd:(x == ("__debug__":Str))=false:=by decide) (hcd:(x == ("__classdict__":Str))=false:=by decide):QD X (.Name x pos) (Ah i):=⟨Ajz i hN hv hd hcd⟩
theorem Bs {j} (ok:PyData.strOk z=true:=by exact A6 _):QD X (.Constant (.str z) j pos) (fC (.str z)):=⟨Avs ok⟩
theorem Ae (ha:QD X e f) (hr:QL X es g) (hs':Bj e=true:=by rfl):QL X (e::es) (Aa f g):=⟨Ao1 ha.out hr.out (Au hs')⟩
theorem B4 (ho:OpM X (compareOp op) o) (ha:QD X a f) (hb:QD X b g) (hm':H9 b=true:=by rfl):QD X (.Compare a [op] [b] pos) (f2 o f g):=⟨Avi ho ha.out hb.out (Nu hm')⟩
theorem Ar (ho:OpM X (compareOp op) o) (ha:QD X a f) (hb:QD X b g) (hm':H9 b=true:=by rfl):QB X (.Compare a [op] [b] pos) (A4 (f2 o f g)):=⟨Au9 ho ha.out hb.out (Nu hm')⟩
theorem Cq (ha:QD X a f) (he':Ajm a=true:=by rfl):QB X a (Jx f):=⟨Avc ha.out (Zu he')⟩
theorem Am (ha:QD X a f) (hb:QD X b g) (hs':Azz b=true:=by rfl):QD X (.Subscript a b pos) (f2 oIx f g):=⟨Bad ha.out hb.out (Xd hs')⟩
theorem Bq (hm:X.mg "len"=none) (ha:QL X [e] g) (hg:Gl X "len":=by unfold Gl;kernel_rfl) (he':Bj e=true:=by rfl):QD X (.Call (.Name "len" p) [e] [] pos) (Av Ek g):=⟨Ig As7 hg hm boot_len ha.out (by decide) (by decide) (Au he') rfl⟩
theorem N3 (hc:X.calm=true) (hm:X.mg "all"=none) (ha:QL X [e] g) (hg:Gl X "all":=by unfold Gl;kernel_rfl) (he':Bj e=true:=by rfl):QD X (.Call (.Name "all" p) [e] [] pos) (Av Ae2 g):=⟨Ig (As4 hc) hg hm (by decide +kernel) ha.out (by decide) (by decide) (Au he') rfl⟩
theorem Awd (hc:X.calm=true) (hm:X.mg "any"=none) (ha:QL X [e] g) (hg:Gl X "any":=by unfold Gl;kernel_rfl) (he':Bj e=true:=by rfl):QD X (.Call (.Name "any" p) [e] [] pos) (Av Auc g):=⟨Ig (As5 hc) hg hm (by decide +kernel) ha.out (by decide) (by decide) (Au he') rfl⟩
theorem Adj (hm:X.mg "int"=none) (ha:QL X [e] g) (hg:Gl X "int":=by unfold Gl;kernel_rfl) (he':Bj e=true:=by rfl):QD X (.Call (.Name "int" p) [e] [] pos) (Av Agu g):=⟨Md As6 hg hm (by decide +kernel) ha.out (by decide) (by decide) (Au he') rfl⟩
theorem Adk (hm:X.mg "str"=none) (ha:QL X [e] g) (hg:Gl X "str":=by unfold Gl;kernel_rfl) (he':Bj e=true:=by rfl):QD X (.Call (.Name "str" p) [e] [] pos) (Av Zk g):=⟨Md As8 hg hm (by decide +kernel) ha.out (by decide) (by decide) (Au he') rfl⟩
theorem Em (hm:X.mg "tuple"=none) (ha:QL X [e] g) (hg:Gl X "tuple":=by unfold Gl;kernel_rfl) (he':Bj e=true:=by rfl):QD X (.Call (.Name "tuple" p) [e] [] pos) (Av G8 g):=⟨Md Afn hg hm (by decide +kernel) ha.out (by decide) (by decide) (Au he') rfl⟩
theorem X6 (ha:QD X e f) (hm:X.mg "isinstance"=none) (hm':X.mg y=none) (hv':bootBuiltins y=some (.type U)) (hn:y≠"__name__":=by decide) (hdb:(y == ("__debug__":Str))=false:=by decide) (hg:Gl X "isinstance":=by unfold Gl;kernel_rfl) (hg':Gl X y:=by unfold Gl;kernel_rfl) (he':Bj e=true:=by rfl):QD X (.Call (.Name "isinstance" p) [e,.Name y p'] [] pos) (Ai7 U f):=⟨Avm ha.out hg hm hg' hm' hv' hn hdb (by decide +kernel) (Au he') (Au rfl) (C7 rfl)⟩
theorem App {fd:FuncData} (F:FnOk X.prog X.w X.K X.mg X.base CX0 k f fd ps (spP X.K n fn)) (hr:Room k X.A) (hm:X.mg x=some (.ref f)) (hk:W.keepIn X.K (.ref f)=true) (hb:Binds X.K fd ps []) (ha:QL X (e::es) g) (hg:Gl X x:=by unfold Gl;kernel_rfl) (hdb:(x == ("__debug__":Str))=false:=by decide) (he':Bj e=true:=by rfl) (hpl':es.all Bj=true:=by rfl) :
  QD X (.Call (.Name x p) (e::es) [] pos) (Av (Ew n fn) g):=⟨Aoo F hr hg hm hk hb (Acy (X:=X)) ha.out hdb (Au he') (C7 hpl')⟩
theorem Aps {fd:FuncData} (F:FnOk X.prog X.w X.K X.mg X.base CX0 k f fd ps (spP X.K n fn)) (hr:Room k X.A) (hm:X.mg x=some (.ref f)) (hk:W.keepIn X.K (.ref f)=true) (hb:Binds X.K fd ps []) (ha:QL X (e::es) g) (hg:Gl X x:=by unfold Gl;kernel_rfl) (hdb:(x == ("__debug__":Str))=false:=by decide) (he':Bj e=true:=by rfl) (hpl':es.all Bj=true:=by rfl) :
  QF X (.Call (.Name x p) (e::es) [] pos) (G4 (Uv n fn) g):=⟨Aou F hr hg hm hk hb (Acy (X:=X)) ha.out hdb (Au he') (C7 hpl')⟩
theorem D2 (hf:QD X a f) (ha:QL X [e] g) (hbase':L9 a=true:=by rfl) (hline:(apos.endLine == cpos.line)=true:=by kernel_rfl) (hs':Bj e=true:=by rfl) :
  QS X (.Expr (.Call (.Attribute a "append" apos) [e] [] cpos) spos) (Pu Pt f g):=⟨Ao8 PySem.F.plainAttrs_list PySem.F.slot_list_append PySem.F.type_list_append Ab5 At8 hf.out ha.out (Dm hbase') (Il (by rw[Bfi,hs'];rfl) rfl) hline (Au hs') rfl⟩
theorem Aw (hN:X.N.Nodup) (he:QD X e f) (hi:X.N[i]?=some x:=by kernel_rfl) (hx:Loc X.env.scope x:=by exact Bgn (by kernel_rfl)) (hs':Pa e=true:=by rfl) (hf:X.fn x=true\/X.env.scope.names.lookup x=some .local:=by exact Bgn (by kernel_rfl)) :
  QS X (.Assign [.Name x p'] e pos) (Bn i f):=⟨Ada hN hi hx he.out (Mr hs') hf⟩
theorem Pe (hN:X.N.Nodup) (he:QD X e f) (hi:X.N[i]?=some x:=by kernel_rfl) (hx:Loc X.env.scope x:=by exact Or.inr (by kernel_rfl)) (hs':Pa e=true:=by rfl) (hf:X.fn x=true\/X.env.scope.names.lookup x=some .local:=by exact Bgn (by kernel_rfl)) :
  QS X (.Assign [.Name x p'] e pos) (Bn i f):=⟨Ada hN hi hx he.out (Mr hs') hf⟩
theorem Eg (hN:X.N.Nodup) (he:QF X e f) (hi:X.N[i]?=some x:=by kernel_rfl) (hx:Loc X.env.scope x:=by exact Bgn (by kernel_rfl)) (hs':Pa e=true:=by rfl) (hf:X.fn x=true\/X.env.scope.names.lookup x=some .local:=by exact Bgn (by kernel_rfl)) :
  QS X (.Assign [.Name x p'] e pos) (Ip i f):=⟨Ao9 hN hi hx he.out (Mr hs') hf⟩
theorem M8 (hN:X.N.Nodup) (hi:X.N[i]?=some x:=by kernel_rfl) (hx:Loc X.env.scope x:=by exact Bgn (by kernel_rfl)) (hf:X.fn x=true\/X.env.scope.names.lookup x=some .local:=by exact Bgn (by kernel_rfl)):QG X (.Name x pos) (A7 i):=⟨X2 hN hi hx hf⟩
theorem C9 (hN:X.N.Nodup) (hi:X.N[i]?=some x:=by kernel_rfl) (hx:Loc X.env.scope x:=by exact Bgn (by kernel_rfl)) (hf:X.fn x=true\/X.env.scope.names.lookup x=some .local:=by exact Or.inr (by kernel_rfl)):QG X (.Name x pos) (A7 i):=⟨X2 hN hi hx hf⟩
theorem D9 (h1:QG X e g) (h2:QGs X es h) (hs:(assignEach (e::es) X.env).map (·.2)=assign e X.env::(assignEach es X.env).map (·.2):=by kernel_rfl):QGs X (e::es) (Iw g h):=⟨Ac0 h1.out h2.out hs⟩
theorem X8 (hc:X.calm=true) (h:QGs X es g) (hn:(assignEach es X.env).length=n:=by kernel_rfl) (hst:(assignEach es X.env).findIdx? (·.1)=none:=by kernel_rfl):QG X (.Tuple es k pos) (Aew n g):=⟨Aox hc h.out hn hst⟩
theorem Awg (he:QD X e f) (hg:QG X tg g) (hs':Pa e=true:=by rfl) (hw:swappedStores [tg] e X.env=pure none:=by kernel_rfl) (h1:(assignEach [tg] X.env).map (·.2)=[assign tg X.env]:=by kernel_rfl):QS X (.Assign [tg] e pos) (Awp f g):=⟨Ao6 he.out hg.out (Pn hs') hw h1⟩
theorem Ahu (he:QD X e f) (ho:QD X a fo) (hi:QD X b fi) (ha:∀ v,assign (.Subscript a b p) X.env v=(do
   let ov <- holding [v] (eval a X.env)
   let iv <- holding [v,ov] (eval b X.env)
   standAt p
   holding [v,ov,iv] (setItem ov iv v)
   release [v,ov,iv] []):=by intro _;rfl) (hs':Pa e=true:=by rfl) (hw:swappedStores [.Subscript a b p] e X.env=pure none:=by kernel_rfl) (h1:(assignEach [.Subscript a b p] X.env).map (·.2)=[assign (.Subscript a b p) X.env]:=by kernel_rfl) :
  QS X (.Assign [.Subscript a b p] e pos) (T7 f fo fi):=⟨Adb he.out ho.out hi.out ha (Pn hs') hw h1⟩
theorem D3 {iter:Expr}{body:List Stmt}{f:FW}{g:FG}{b:FS} (hp:PassesOwn (model X.prog X.w) X.A X.env X.xe) (hc:X.calm=true) (hi:QW X tg iter f) (hg:QG X tg g) (hb:QSs X body b)
  (hs':H9 iter=true:=by rfl):QS X (.For tg iter body [] pos) (T6 f g b):=⟨Ao7 hp hc hi.out hg.out hb.out (Ed hs')⟩
theorem M9 (hm:X.mg "range"=none) (ha:QL X [a] g) (hg:Gl X "range":=by unfold Gl;kernel_rfl) (hs':Bj a=true:=by rfl):QW X tg (.Call (.Name "range" p) [a] [] pos) (Ji g):=⟨Adg hg hm ha.out (Au hs')⟩
variable {elt iter:Expr}{ifs:List Expr}{scope:Scope}{fw:FW}{g:FG}{t:FB}{fe:FE}
theorem B0 (cap:List Nat) (N':List Str) (hc:X.calm=true) (hi:QW X tg iter fw) (hg2:∀ d d' env e1,g d env=some e1->g d' e1=g d' env)
  (hg:∀ cl C s₀ H₀ ex pn,QG (Bb X N' scope cl C s₀ H₀ ex pn) tg g) (ht:∀ cl C s₀ H₀ ex pn,QTs (Bb X N' scope cl C s₀ H₀ ex pn) ifs t) (he:∀ cl C s₀ H₀ ex pn,QD (Bb X N' scope cl C s₀ H₀ ex pn) elt fe)
  (ok:Iv scope X.env.scope X.N N' cap=true:=by kernel_rfl) (hs':H9 iter=true:=by rfl):QF X (.ListComp elt [⟨tg,iter,ifs,0⟩] scope pos) (Bt cap (N'.length - cap.length) fw g t fe):=⟨Aov (CompOk.of ok) hc hi.out hg2 (fun cl C s H ex pn=>(hg cl C s H ex pn).out) (fun cl C s H ex pn=>(ht cl C s H ex pn).out) (fun cl C s H ex pn=>(he cl C s H ex pn).out) (Ed hs')⟩
theorem Ld (cap:List Nat) (N':List Str) (hN:X.N.Nodup) (hc:X.calm=true) (hi:QW X tg iter fw) (hg2:∀ d d' env e1,g d env=some e1->g d' e1=g d' env) (hg:∀ cl C s₀ H₀ ex pn,QG (Bb X N' scope cl C s₀ H₀ ex pn) tg g) (ht:∀ cl C s₀ H₀ ex pn,QTs (Bb X N' scope cl C s₀ H₀ ex pn) ifs t) (he:∀ cl C s₀ H₀ ex pn,QD (Bb X N' scope cl C s₀ H₀ ex pn) elt fe) (ok:Iv scope X.env.scope X.N N' cap=true:=by kernel_rfl) (hs':H9 iter=true:=by rfl) (hn:X.N[i]?=some x:=by kernel_rfl) (hx:Loc X.env.scope x:=by exact Bgn (by kernel_rfl)) (hf:X.fn x=true\/X.env.scope.names.lookup x=some .local:=by exact Bgn (by kernel_rfl)) (hsw:swapsWith (.ListComp elt [⟨tg,iter,ifs,0⟩] scope pos) (some (.Name x p')) spos.line X.env=pure true:=by kernel_rfl):QS X (.Assign [.Name x p'] (.ListComp elt [⟨tg,iter,ifs,0⟩] scope pos) spos) (Bn i (Ck (Bt cap (N'.length - cap.length) fw g t fe))):=⟨X3 (V3 (CompOk.of ok) hc hi.out hg2 (fun cl C s H ex pn=>(hg cl C s H ex pn).out) (fun cl C s H ex pn=>(ht cl C s H ex pn).out) (fun cl C s H ex pn=>(he cl C s H ex pn).out) (Ed hs') hsw hN hn hx hf)⟩
theorem Ahp (cap:List Nat) (N':List Str) (hN:X.N.Nodup) (hc:X.calm=true) (hi:QW X tg iter fw) (hg2:∀ d d' env e1,g d env=some e1->g d' e1=g d' env) (hg:∀ cl C s₀ H₀ ex pn,QG (Bb X N' scope cl C s₀ H₀ ex pn) tg g) (ht:∀ cl C s₀ H₀ ex pn,QTs (Bb X N' scope cl C s₀ H₀ ex pn) ifs t) (he:∀ cl C s₀ H₀ ex pn,QD (Bb X N' scope cl C s₀ H₀ ex pn) elt fe) (ok:Iv scope X.env.scope X.N N' cap=true:=by kernel_rfl) (hs':H9 iter=true:=by rfl) (hn:X.N[i]?=some x:=by kernel_rfl) (hx:Loc X.env.scope x:=by exact Bgn (by kernel_rfl)) (hf:X.fn x=true\/X.env.scope.names.lookup x=some .local:=by exact Bgn (by kernel_rfl)) (hsw:swapsWith (.ListComp elt [⟨tg,iter,ifs,0⟩] scope pos) (some (.Name x p')) spos.line X.env=pure true:=by kernel_rfl):QS X (.Assign [.Name x p'] (.ListComp elt [⟨tg,iter,ifs,0⟩] scope pos) spos) (Ip i (Bt cap (N'.length - cap.length) fw g t fe)):=⟨Ahj (V3 (CompOk.of ok) hc hi.out hg2 (fun cl C s H ex pn=>(hg cl C s H ex pn).out) (fun cl C s H ex pn=>(ht cl C s H ex pn).out) (fun cl C s H ex pn=>(he cl C s H ex pn).out) (Ed hs') hsw hN hn hx hf)⟩
end
end
end ML
end L2
end S_ML8a
section S_ML10
namespace L2
namespace ML
open PySem PySem.Spec PyProof.Rows
section
variable {X:Cx}{a b c e e' o':Expr}{es:List Expr}{pos p p' apos cpos spos:Pos}{x:Str}
noncomputable def Ajl:D->MH->Option D:=fun x _=>match x with
 |.int i=>some (.int (-i))
 |_=>none
theorem Zp (ha:QD X a f):QD X (.UnaryOp .USub a pos) (f1 Ajl f):=⟨PE.imp (Bal Axe ha.out) fun σ H Q ⟨env,μ,m,d,S,E,h,q⟩=>by
 obtain⟨x,h1,h2⟩:=bind_some h
 refine⟨env,μ,m,x,S,E,h1,fun v H' s r=>?_⟩
 cases r<;>first|(cases h2;done)|skip
 cases h2
 exact⟨_,rfl,q _ H' s (.int _)⟩⟩
end
end ML
end L2
end S_ML10
section S_ML11
namespace L2
namespace ML
open PySem PySem.Spec PyProof.Rows PySem.SeqAt
def LtAt (A:Around) (s:Shared) (x y:Value) (k:Bool):Prop :=
 ∀ (prog:Program) (w:World) (E:Value->Shared->Prop) (Q:Value->Shared->Prop),Q (.bool k) s->wpAny (model prog w) A (richCompare .Lt x y) Q E s
inductive LexAt (A:Around) (s:Shared):List Value->List Value->Bool->Prop where
 |nil:LexAt A s [] [] false
 |short {y ys}:LexAt A s [] (y::ys) true
 |long {x xs}:LexAt A s (x::xs) [] false
 |same {x y xs ys k}:EqAt A s x y true->LexAt A s xs ys k->LexAt A s (x::xs) (y::ys) k
 |diff {x y xs ys k}:EqAt A s x y false->LtAt A s x y k->LexAt A s (x::xs) (y::ys) k
theorem LexAt.end1 {s:Shared} (h:LexAt A s xs ys k) (e:xs.zip ys=[]):k=decide (xs.length < ys.length):=by
 cases h with
 |nil=>rfl
 |short=>simp
 |long=>simp
 |same _ _=>simp at e
 |diff _ _=>simp at e
theorem Zw (l b:Addr) (xs ys:Array Value) (n n2:Nat) (dd dd2:Option Addr) (sl sl2:Array (Option Value)) (k:Bool) :
  Meets (Builtin.«tuple.__lt__» ⟨[.ref l,.ref b],[]⟩)
   (fun A R s=>(s.heap.get? l=some { cls:=.type "tuple",dict:=dd,data:=.seq xs n,slots:=sl }/\s.heap.get? b=some { cls:=.type "tuple",dict:=dd2,data:=.seq ys n2,slots:=sl2 }) /\
    LexAt A.in1 s xs.toList ys.toList k/\R (.ok (.ret (.bool k))) s) :=
 .of_wp fun prog w A R s h=>by
  obtain⟨hp,g,d,tk,os⟩:=s
  obtain⟨⟨hl,hb⟩,hx,hR⟩:=h
  have f2:=AutoSeq1.sub_tuple_tuple
  wp_walk using wpAny_loadPart' hl,wpAny_loadPart' hb,wpAny_forIn_list _ (fun rest b s'=>b.1=none/\s'=⟨hp,g,d,tk,os⟩/\∃ us ws,rest=us.zip ws/\us.length+ys.size=ws.length+xs.size/\LexAt A.in1 ⟨hp,g,d,tk,os⟩ us ws k) _
  case turn =>
   rintro ⟨y,x⟩ rest b s' ⟨hb1,rfl,us,ws,hz,hn,hx⟩
   cases hx with
   |nil=>cases hz
   |short=>cases hz
   |long=>cases hz
   |@same u v us ws _ he hx =>
    cases hz
    refine Bea (he prog w _ _ ?_)
    wp_walk
    exact⟨rfl,rfl,us,ws,rfl,by simp only[Beh] at hn;lia,hx⟩
   |@diff u v us ws _ he hk =>
    cases hz
    refine Bea (he prog w _ _ ?_)
    have hk2:∀ {E:Value->Shared->Prop}{Q:Value->Shared->Prop},Q (.bool k) ⟨hp,g,d,tk,os⟩->wpAny (model prog w) A.in1 (richCompare .Lt y x) Q E ⟨hp,g,d,tk,os⟩:=fun q=>hk prog w _ _ q
    wp_walk using hk2
    exact⟨_,rfl,hR⟩
  case fin =>
   rintro ⟨b1,b2⟩ s' ⟨hb1,rfl,us,ws,hz,hn,hx⟩
   simp only at hb1
   subst hb1
   have e:=hx.end1 hz.symm
   subst e
   wp_walk
   refine⟨_,rfl,?_⟩
   have e2:decide (us.length < ws.length)=decide (xs.size < ys.size):=by rw[Bgg];lia
   rw[e2] at hR
   simpa [Builtin.Tuple.tupleCompareSizes] using hR
  case h =>
   exact⟨rfl,rfl,xs.toList,ys.toList,rfl,by simp[Nat.add_comm],hx⟩
theorem LtAt.tuples {s:Shared}{l b:Addr} (hl:s.heap.IsTuple l xs) (hb:s.heap.IsTuple b ys) (hu:A.units < cLine) (hx:LexAt A.in1 s xs.toList ys.toList k):LtAt A s (.ref l) (.ref b) k:=fun prog w E Q h=>by
 obtain⟨⟨cls,dd,data,sl⟩,ho,hc,n,hd⟩:=id hl
 obtain⟨⟨cls2,dd2,data2,sl2⟩,ho2,hc2,n2,hd2⟩:=id hb
 simp only at hc hd hc2 hd2
 subst hc hd hc2 hd2
 refine richCompare_meets_room (op:=.Lt) ⟨_,ho,rfl⟩ ⟨_,ho2,rfl⟩ F.slot_tuple_lt F.entry_tuple_lt (F.args_tuple_lt_2 _ _) (Zw l b xs ys n n2 dd dd2 sl sl2 k) ⟨⟨ho,ho2⟩,hx,?_⟩ hu
 exact⟨(fun x=>nomatch x),h⟩
theorem Abt (l b:Addr) (xs ys:Array Value) (n n2:Nat) (dd dd2:Option Addr) (sl sl2:Array (Option Value)) (k:Bool):∀ (us ws:List Value) (i:Nat),xs.toList.drop i=us->ys.toList.drop i=ws->i<=xs.size->i<=ys.size ->
  Meets (Builtin.«list.__eq__.loop» ⟨[.ref l,.ref b,rawInt i,rawInt 0],[]⟩)
   (fun A R s=>(s.heap.get? l=some { cls:=.type "list",dict:=dd,data:=.seq xs n,slots:=sl }/\s.heap.get? b=some { cls:=.type "list",dict:=dd2,data:=.seq ys n2,slots:=sl2 })/\LexAt A.in1 s us ws k/\R (.ok (.ret (.bool k))) s):=by
 have none_at:∀ {zs:Array Value}{i:Nat},zs.toList.drop i=[]->zs[((i:Nat):Int).toNat]?=none:=fun {zs i} h=>by
  have:=List.drop_eq_nil_iff.mp h
  simp at this ⊢
  exact this
 have some_at:∀ {zs:Array Value}{i:Nat}{z:Value}{r:List Value},zs.toList.drop i=z::r->zs[((i:Nat):Int).toNat]?=some z/\zs.toList.drop (i+1)=r/\i+1<=zs.size:=fun {zs i z r} h=>by
  have hl:i < zs.toList.length:=by
   rcases Nat.lt_or_ge i zs.toList.length with q|q
   ·exact q
   ·rw[Bgs q] at h;cases h
  have e:=Bf1 hl
  rw[h] at e
  obtain⟨e1,e2⟩:=List.cons.inj e
  have hl':i < zs.size:=by simpa using hl
  refine⟨?_,e2.symm,hl'⟩
  rw[e1]
  simp[hl']
 intro us
 induction us with
 |nil =>
  intro ws i hx hy hi1 hi2 prog w A R s h
  obtain⟨hp,g,d,tk,os⟩:=s
  obtain⟨⟨hl,hb⟩,hL,hR⟩:=h
  have e1:=none_at hx
  have z1:xs.size=i:=by have:=List.drop_eq_nil_iff.mp hx;simp at this;lia
  have hk:k=decide (xs.size < ys.size):=by
   cases hL with
   |nil =>
    have:ys.size=i:=by have:=List.drop_eq_nil_iff.mp hy;simp at this;lia
    rw[z1,this];simp
   |short =>
    have:=(some_at hy).2.2
    rw[Bf0 (by lia)]
  subst hk
  wp_walk using wpAny_loadPart' hl,wpAny_loadPart' hb
  rw[e1]
  wp_walk using wpAny_loadPart' hl,wpAny_loadPart' hb
  exact hR
 |cons u us ih =>
  intro ws i hx hy hi1 hi2 prog w A R s h
  obtain⟨hp,g,d,tk,os⟩:=s
  obtain⟨⟨hl,hb⟩,hL,hR⟩:=h
  obtain⟨e1,x2,x3⟩:=some_at hx
  cases hL with
  |long =>
   have e2:=none_at hy
   have hk:decide (xs.size < ys.size)=false:=by
    have:ys.size=i:=by have:=List.drop_eq_nil_iff.mp hy;simp at this;lia
    rw[Be4 (by lia)]
   rw[<- hk] at hR
   wp_walk using wpAny_loadPart' hl,wpAny_loadPart' hb
   rw[e1,e2]
   wp_walk using wpAny_loadPart' hl,wpAny_loadPart' hb
   exact hR
  |@same _ y _ ws _ he hx' =>
   obtain⟨e2,y2,y3⟩:=some_at hy
   have hc:((i:Int)+1)=((i+1:Nat):Int):=by push_cast;rfl
   wp_walk using wpAny_loadPart' hl,wpAny_loadPart' hb
   rw[e1,e2]
   refine Bea (he prog w _ _ ?_)
   wp_walk
   rw[hc]
   exact⟨plainId_quiet Bgy _,codeAny_builtin MeetsSeq3.entry_eq_loop (by
    rw[Around.under_plainId Bgy _]
    exact ih ws (i+1) x2 y2 x3 y3 prog w A R _ ⟨⟨hl,hb⟩,hx',hR⟩)⟩
  |@diff _ y _ ws _ he hk =>
   obtain⟨e2,y2,y3⟩:=some_at hy
   wp_walk using wpAny_loadPart' hl,wpAny_loadPart' hb
   rw[e1,e2]
   refine Bea (he prog w _ _ ?_)
   have hk2:∀ {E:Value->Shared->Prop}{Q:Value->Shared->Prop},Q (.bool k) ⟨hp,g,d,tk,os⟩->wpAny (model prog w) A.in1 (richCompare .Lt u y) Q E ⟨hp,g,d,tk,os⟩:=fun q=>hk prog w _ _ q
   wp_walk using wpAny_loadPart' hl,wpAny_loadPart' hb
   rw[e1,e2]
   wp_walk using hk2
   exact hR
theorem Abm (l b:Addr) (xs ys:Array Value) (n n2:Nat) (dd dd2:Option Addr) (sl sl2:Array (Option Value)) (k:Bool) :
  Meets (Builtin.«list.__lt__» ⟨[.ref l,.ref b],[]⟩)
   (fun A R s=>(s.heap.get? l=some { cls:=.type "list",dict:=dd,data:=.seq xs n,slots:=sl }/\s.heap.get? b=some { cls:=.type "list",dict:=dd2,data:=.seq ys n2,slots:=sl2 })/\LexAt A.in1 s xs.toList ys.toList k/\R (.ok (.ret (.bool k))) s):=by
 intro prog w A R s h
 obtain⟨hp,g,d,tk,os⟩:=s
 obtain⟨⟨hl,hb⟩,hL,hR⟩:=h
 have f3:=AutoSeq1.sub_list_list
 wp_walk using wpAny_loadPart' hl,wpAny_loadPart' hb
 exact⟨plainId_quiet Bgy _,codeAny_builtin MeetsSeq3.entry_eq_loop (by
  rw[Around.under_plainId Bgy _]
  exact Abt l b xs ys n n2 dd dd2 sl sl2 k _ _ 0 rfl rfl (Bfe _) (Bfe _) prog w A R _ ⟨⟨hl,hb⟩,by simpa using hL,hR⟩)⟩
theorem LtAt.lists {s:Shared}{l b:Addr} (hl:s.heap.IsList l xs) (hb:s.heap.IsList b ys) (hu:A.units < cLine) (hx:LexAt A.in1 s xs.toList ys.toList k):LtAt A s (.ref l) (.ref b) k:=fun prog w E Q h=>by
 obtain⟨⟨cls,dd,data,sl⟩,ho,hc,n,hd⟩:=id hl
 obtain⟨⟨cls2,dd2,data2,sl2⟩,ho2,hc2,n2,hd2⟩:=id hb
 simp only at hc hd hc2 hd2
 subst hc hd hc2 hd2
 refine richCompare_meets_room (op:=.Lt) ⟨_,ho,rfl⟩ ⟨_,ho2,rfl⟩ F.slot_list_lt F.entry_list_lt (F.args_list_lt_2 _ _) (Abm l b xs ys n n2 dd dd2 sl sl2 k) ⟨⟨ho,ho2⟩,hx,?_⟩ hu
 exact⟨(fun x=>nomatch x),h⟩
mutual
def ltD:D->D->Option Bool
 |.int i,.int j=>some (decide (i < j))
 |.str i,.str j=>some (decide (i.cps.toList < j.cps.toList))
 |.tup xs,.tup ys=>Ja xs ys
 |.lst xs,.lst ys=>Ja xs ys
 |_,_=>none
def Ja:List D->List D->Option Bool
 |[],[]=>some false
 |[],_::_=>some true
 |_::_,[]=>some false
 |x::xs,y::ys=>if deq x y=true then Ja xs ys else ltD x y
end
section
variable {X:Cx}{pins:List (Addr×Obj)}{σ:St}{H:Hp}{s:Shared}{μ:List Addr}{B:Addr->Prop}
set_option tactic.hygienic true in
mutual
theorem Aji (I:Inv X pins σ H s):∀ (d d':D) {A:Around}{v v':V}{u u':Value}{k:Bool},Rep X.K H μ B d v->Rep X.K H μ B d' v'->Cm d=true->Cm d'=true->RelV v u->RelV v' u'->A.units+dep d+dep d' < cLine->ltD d d'=some k->LtAt A s u u' k
 |.int i,d',A,v,v',u,u',k,r,r',n,n',q,q',hu,h=>by
  cases d'<;>first|(simp[ltD] at h;done)|skip
  cases r;cases r'
  obtain⟨t,rfl⟩:=q
  obtain⟨t2,rfl⟩:=q'
  rw[ltD] at h
  cases h
  intro prog w E Q q
  exact lt_int q
 |.str i,d',A,v,v',u,u',k,r,r',n,n',q,q',hu,h=>by
  cases d'<;>first|(simp[ltD] at h;done)|skip
  cases r;cases r'
  obtain⟨t,rfl⟩:=q
  obtain⟨t2,rfl⟩:=q'
  rw[ltD] at h
  cases h
  intro prog w E Q q
  exact lt_str q
 |.tup ds,d',A,v,v',u,u',k,r,r',n,n',q,q',hu,h=>by
  cases d'<;>first|(simp[ltD] at h;done)|skip
  rename_i es
  cases r with
  |tup h1 r1 =>
  cases r' with
  |tup h2 r2 =>
  cases q
  cases q'
  obtain⟨its,rv,p,hz⟩:=I.tuple h1
  obtain⟨its',rv',p',hz'⟩:=I.tuple h2
  rw[ltD] at h
  rw[dep,dep] at hu
  refine LtAt.tuples p p' (by lia) ?_
  rw[Cm] at n n'
  exact J6 I ds es r1 r2 n n' rv rv' (by show A.units+1+_+_ < _;lia) h
 |.non,d',A,v,v',u,u',k,r,r',n,n',q,q',hu,h=>by simp[ltD] at h
 |.bl _,d',A,v,v',u,u',k,r,r',n,n',q,q',hu,h=>by simp[ltD] at h
 |.lst ds,d',A,v,v',u,u',k,r,r',n,n',q,q',hu,h=>by
  cases d'<;>first|(simp[ltD] at h;done)|skip
  rename_i es
  cases r with
  |lst h1 _ r1 =>
  cases r' with
  |lst h2 _ r2 =>
  cases q
  cases q'
  obtain⟨its,rv,p,hz⟩:=I.list (.inl h1)
  obtain⟨its',rv',p',hz'⟩:=I.list (.inl h2)
  rw[ltD] at h
  rw[dep,dep] at hu
  refine LtAt.lists p.isList p'.isList (by lia) ?_
  rw[Cm] at n n'
  exact J6 I ds es r1 r2 n n' rv rv' (by show A.units+1+_+_ < _;lia) h
 |.kl _,d',A,v,v',u,u',k,r,r',n,n',q,q',hu,h=>by simp[ltD] at h
 |.ref _,d',A,v,v',u,u',k,r,r',n,n',q,q',hu,h=>by simp[ltD] at h
 |.dic _ _,d',A,v,v',u,u',k,r,r',n,n',q,q',hu,h=>by simp[ltD] at h
 |.fn _ _,d',A,v,v',u,u',k,r,r',n,n',q,q',hu,h=>by simp[ltD] at h
theorem J6 (I:Inv X pins σ H s):∀ (ds es:List D) {A:Around}{vs vs':List V}{us us':List Value}{k:Bool},Reps X.K H μ B ds vs->Reps X.K H μ B es vs'->Ba ds=true->Ba es=true->Vals vs us->Vals vs' us'->A.units+Ei ds+Ei es < cLine->Ja ds es=some k->LexAt A s us us' k
 |[],es,A,vs,vs',us,us',k,r,r',n,n',q,q',hu,h=>by
  cases r
  cases q
  cases es with
  |nil=>cases r';cases q';rw[Ja] at h;cases h;exact .nil
  |cons e es =>
   cases r' with
   |cons r1 r2=>cases q' with
    |cons q1 q2=>rw[Ja] at h;cases h;exact .short
 |d::ds,es,A,vs,vs',us,us',k,r,r',n,n',q,q',hu,h=>by
  cases r with
  |cons r1 rs =>
  cases q with
  |cons q1 qs =>
  cases es with
  |nil=>cases r';cases q';rw[Ja] at h;cases h;exact .long
  |cons e es =>
   cases r' with
   |cons r2 rs2=>cases q' with
    |cons q2 qs2 =>
     rw[Ja] at h
     rw[Ba,Bet] at n n'
     rw[Ei,Ei] at hu
     have he:=Aav (A:=A) I r1 r2 n.1 n'.1 q1 q2 (by lia)
     by_cases hd:deq d e=true
     ·rw[Bef hd] at h
      rw[hd] at he
      exact .same he (J6 I ds es rs rs2 n.2 n'.2 qs qs2 (by lia) h)
     ·rw[Beg hd] at h
      rw[Bool.eq_false_iff.mpr hd] at he
      exact .diff he (Aji I d e r1 r2 n.1 n'.1 q1 q2 (by lia) h)
end
end
section
variable {X:Cx}
def Axo:D->D->MH->Option D:=fun x y m=>(C0 m x).bind fun x'=>(C0 m y).bind fun y'=>if dep x'<=30/\dep y'<=30 then (ltD x' y').bind fun k=>some (.bl k) else none
theorem Au0 (hr:Room k X.A):OpM X (compareOp .Lt) Axo:=by
 intro pins s σ H μ m x y z v u v' u' Q I S rx ry r1 r2 e q
 obtain⟨x',e1,h1⟩:=bind_some e
 obtain⟨y',e2,h1⟩:=bind_some h1
 split at h1
 ·rename_i hd
  obtain⟨b,h2,h3⟩:=bind_some h1
  cases h3
  obtain⟨a1,n1⟩:=Bo S rx e1
  obtain⟨a2,n2⟩:=Bo S ry e2
  have hu:=hr.units
  exact Aji I _ _ a1 a2 n1 n2 r1 r2 (by lia) h2 _ _ _ _ ⟨.bl b,H,I,rfl,q _ H (Same.refl H) (.bl _)⟩
 ·cases h1
end
end ML
end L2
end S_ML11
section S_ML12
namespace L2
namespace ML
open PySem PySem.Spec PyProof.Rows
section
variable {X:Cx}{a b c e e' o':Expr}{es:List Expr}{pos p p' apos cpos spos:Pos}{x:Str}
noncomputable def Agv:List D->MH->Option D:=fun xs _=>match xs with
 |[.int i,.int j]=>some (.int (if j < i then j else i))
 |_=>none
theorem Al4 (hc:X.calm=true):Le X (.builtin "min") Agv:=by
 intro pins s σ H μ m xs z vs us Q I S rx rv e q
 obtain⟨i,j,rfl⟩:∃ i j,xs=[.int i,.int j]:=by
  cases xs with
  |nil=>cases e
  |cons d ds =>
   cases d with
   |int i =>
    cases ds with
    |nil=>cases e
    |cons d ds =>
     cases d with
     |int j =>
      cases ds with
      |nil=>exact⟨i,j,rfl⟩
      |cons _ _=>exact Ak e
     |_=>cases e
   |_=>cases e
 cases e
 obtain⟨v,w,rfl,r1,r2⟩:=rx.two
 cases r1
 cases r2
 exact Aaf hc pins s σ H _ us Q I rv ⟨i,j,rfl,q _ H (Same.refl H) (.int _)⟩
theorem Apr (hc:X.calm=true) (hm:X.mg "min"=none) (ha:QL X [e,e'] g) (hg:Gl X "min":=by unfold Gl;kernel_rfl) (he':Bj e=true:=by rfl) (he2:Bj e'=true:=by rfl):QD X (.Call (.Name "min" p) [e,e'] [] pos) (Av Agv g):=⟨Ig (Al4 hc) hg hm (by decide +kernel) ha.out (by decide) (by decide) (Au he') (by rw[Au he2];rfl)⟩
noncomputable def U5:List D->Option (List Int)
 |[]=>some []
 |.int i::ds=>(U5 ds).bind fun is=>some (i::is)
 |_=>none
noncomputable def At0:List Int->Int
 |[]=>0
 |i::is=>is.foldl max i
theorem Rx:∀ (is:List Int) (i:Int),i<=is.foldl max i/\(∀ j∈is,j<=is.foldl max i)/\is.foldl max i∈i::is
 |[],i=>⟨Bff _,(fun _ h=>nomatch h),Beb ..⟩
 |k::is,i=>by
  obtain⟨h1,h2,h3⟩:=Rx is (max i k)
  rw[List.foldl_cons]
  refine⟨by lia,fun j hj=>?_,?_⟩
  ·rcases List.mem_cons.mp hj with rfl|hj
   ·lia
   ·exact h2 j hj
  ·rcases List.mem_cons.mp h3 with h|h
   ·rw[h]
    by_cases hk:i<=k
    ·rw[Int.max_eq_right hk];simp
    ·rw[Int.max_eq_left (by lia)];simp
   ·exact Bed _ (Bed _ h)
theorem Abx (h:k∈is) (hb:∀ j∈is,j<=k):At0 is=k:=by
 cases is with
 |nil=>cases h
 |cons i is =>
  obtain⟨h1,h2,h3⟩:=Rx is i
  show is.foldl max i=k
  have h4:=hb _ h3
  rcases List.mem_cons.mp h with rfl|h
  ·lia
  ·have:=h2 k h;lia
def Zj:List D->MH->Option D:=fun xs _=>match xs with
 |[.tup ds]=>(U5 ds).bind fun is=>if is=[] then none else some (.int (At0 is))
 |_=>none
theorem R0 {K:W.Frag}{H:Hp}{μ:List Addr}{B:Addr->Prop}:∀ {ds:List D}{is:List Int}{vs:List V}{us:List Value},Reps K H μ B ds vs->U5 ds=some is->Vals vs us->us.length=is.length/\∀ (j:Nat) (u:Value),us[j]?=some u->∃ t,u=.int (is.getD j 0) t
 |_,_,_,_,.nil,h,.nil=>by cases h;exact⟨rfl,fun j u e=>by simp at e⟩
 |_,_,_,_,.cons r rs,h,.cons q qs=>by
  cases r<;>first|(cases h;done)|skip
  obtain⟨is',h1,h2⟩:=bind_some h
  cases h2
  obtain⟨h3,h4⟩:=R0 rs h1 qs
  obtain⟨t,rfl⟩:=q
  refine⟨by simp[h3],fun j u e=>?_⟩
  cases j with
  |zero=>simp at e;exact⟨t,by rw[<- e];rfl⟩
  |succ j=>simp at e;obtain⟨t',h5⟩:=h4 j u e;exact⟨t',by simpa using h5⟩
set_option tactic.hygienic true in
theorem Al3 (hc:X.calm=true):Le X (.builtin "max") Zj:=by
 intro pins s σ H μ m xs z vs us Q I S rx rv e q
 obtain⟨d,rfl⟩:=Xx (o:=(Zj · m)) rfl (fun a _ _=>by cases a<;>rfl) e
 obtain⟨v,rfl,r⟩:=rx.one
 cases r with
 |@tup ds a ys hq rs =>
  obtain⟨is,h1,h2⟩:=bind_some e
  split at h2
  ·cases h2
  ·rename_i hne
   cases h2
   obtain⟨u,rfl,r1⟩:=Gz rv
   cases r1
   obtain⟨its,ri,pt,hz⟩:=I.tuple hq
   obtain⟨hl,hv⟩:=R0 rs h1 ri
   refine call_max_walk (wpAny_pyIter_tuple pt ?_)
   have hne2:a≠s.heap.objs.size:=Be0 (by obtain⟨o,e,_⟩:=pt;exact Ben e)
   have hpos:0 < its.toArray.size:=by rw[Bem,hl];exact List.length_pos_iff.mpr hne
   refine⟨_,_,_,_,_,_,_,rfl,Walks.tuple (A:=X.A.in1) (I.ok.hd hc) _ a hne2 its.toArray,⟨⟨_,Beq _ rfl,rfl,rfl⟩,?_⟩,?_,hpos,CmpOf.ints_gt (fun j=>is.getD j 0) (fun j v hj=>hv j v (by simpa using hj)),fun v h' tk hP hk=>?_⟩
   ·exact (show s.heap.IsTuple a its.toArray from pt).at fun o e=>Bec _ e
   ·intro b hb
    show b < (s.heap.push _).objs.size
    have hlt:a < s.heap.objs.size:=by obtain⟨o,e,_⟩:=pt;exact Ben e
    have hps:∀ o:Obj,(s.heap.push o).objs.size=s.heap.objs.size+1:=fun o=>by simp[Heap.push]
    rw[hps]
    simp at hb
    rcases hb with h|h
    ·rw[h];exact Bhf _
    ·rw[h];exact Bgu hlt
   ·have hb:=argBest_gt (fun j=>is.getD j 0) (its.toArray.size - 1)
    have hP2:its.toArray[argBest (fun i j=>decide ((fun j=>is.getD j 0) i > (fun j=>is.getD j 0) j)) (its.toArray.size - 1)]?=some v:=hP
    have hps:its.toArray.size=is.length:=by rw[Bem,hl]
    rw[hps] at hb hP2 hpos
    simp only at hb hP2
    generalize argBest (fun i j=>decide (is.getD i 0 > is.getD j 0)) (is.length - 1)=k at hb hP2
    obtain⟨t,rfl⟩:=hv k v (by simpa using hP2)
    have hk':k < is.length:=by lia
    have hgd:∀ j,j < is.length->is.getD j 0∈is:=fun j hj=>by rw[Beo,Beu hj];exact Bfp hj
    have hmx:At0 is=is.getD k 0:=by
     refine Abx (hgd k hk') fun y hy=>?_
     obtain⟨i,hi,rfl⟩:=List.getElem_of_mem hy
     have h5:=hb.2 i (by lia)
     simpa [Beo,Beu hi] using h5
    rw[hmx] at q
    refine⟨.int (is.getD k 0),H,I.kept (h':=h') (t':=tk) fun b o e=>hk b o (fun z=>?_) (Bec _ e),⟨t,rfl⟩,q _ H (Same.refl H) (.int _)⟩
    have z':b=s.heap.objs.size:=by simpa using z
    exact absurd (Ben e) (by rw[z'];exact Bfh _)
 |_=>exact Ak e
theorem Apq (hc:X.calm=true) (hm:X.mg "max"=none) (ha:QL X [e] g) (hg:Gl X "max":=by unfold Gl;kernel_rfl) (he':Bj e=true:=by rfl):QD X (.Call (.Name "max" p) [e] [] pos) (Av Zj g):=⟨Ig (Al3 hc) hg hm (by decide +kernel) ha.out (by decide) (by decide) (Au he') rfl⟩
theorem Vq {K:W.Frag}{H:Hp}{μ:List Addr}{B:Addr->Prop}{a:Addr}{od:Option Addr}{sl:Array (Option Value)}{n:Nat}{its:List Value}{ds:List D}{vs:List V} (h:K.lookup a=some ⟨.type "tuple",od,.seq its.toArray n,sl⟩) (hl:its.length<=1000000) (rv:Vals vs its) (rs:Reps K H μ B ds vs):Rep K H μ B (.tup ds) (.ref a) :=
 .tup (.inr ⟨_,its.toArray,n,h,rfl,rfl,by rw[Bem];exact big hl,rv⟩) rs
end
noncomputable def Axv (lo st:Int) (n:Nat):It:=⟨fun i _=>i < n,fun i H x H'=>H'=H/\x=.int (lo+i * st),fun i _=>n<=i⟩
theorem Vv {P:Program}{w:World}{K:W.Frag}{tg:Expr} (it:Addr) (lo st:Int) (n:Nat):Turn P w K tg (Axv lo st n) [it] it (fun i h=>IsRangeIter h it (lo+(i:Nat) * st) ((n:Int) - (i:Nat)) st) where
 mem:=by simp
 obj:=fun i h st b hb=>by
  have e:b=it:=by simpa using hb
  subst e
  exact⟨_,st,fun v z=>by
   have z':Data.fields _=Data.cell v:=z
   cases z'⟩
 keep:=fun i h h' st k=>k it (by simp) _ st
 item:=by
  intro X hP hw hK hc i pins s σ H E I hf hst hg
  subst hP hw hK
  obtain⟨f0,f1,f2,f3,f4,f5⟩:=hf it (by simp)
  have W:=Walks.range (prog:=X.prog) (w:=X.w) (I.ok.hd hc) it lo st n
  refine W.item i s _ _ hg hst fun v h' tk hv st' kk=>?_
  obtain⟨t,rfl⟩:=hv
  have I1:Inv X pins σ H { s with heap:=h',toks:=tk }:=I.turned (fun b o hb e=>kk b o (by simpa using hb) e) f0 f1 f3 f4 f5
  exact⟨_,rfl,Aa3 (s:={ s with heap:=h',toks:=tk }) (n:="range_iterator") st' rfl rfl (by decide) ⟨.int (lo+i * st),H,I1,⟨t,rfl⟩,⟨rfl,rfl⟩,st',fun b hb=>(hf b hb).1⟩⟩
 done:=by
  intro X hP hw hK hc i pins s σ H E I hf st hg
  subst hP hw hK
  obtain⟨f0,f1,f2,f3,f4,f5⟩:=hf it (by simp)
  exact wpAny_pyNext_range_end (I.ok.hd hc) st (by have:n<=i:=hg;lia) fun h' eb=>⟨rfl,I.turned (t':=s.toks) (fun b o hb e=>eb b o hb e) f0 f1 f3 f4 f5⟩
 self:=fun _ _ _ _ _ st h=>wpAny_pyIter_rangeiter st h
noncomputable def Vr (lo hi st:Int):Nat:=if lo < hi then ((hi - lo - 1) / st+1).toNat else 0
theorem T5 {lo hi st:Int} (h:0 < st):((Vr lo hi st:Nat):Int)=Builtin.Range.rangeSize lo hi st:=by
 unfold Builtin.Range.rangeSize Vr
 simp only[show st > 0 from h,Bha]
 by_cases hl:lo < hi
 ·have h1:0<=(hi - lo - 1) / st:=Int.ediv_nonneg (by lia) (by lia)
  simp only[hl,Bha]
  first|lia|(rw[Bef hl];lia)|(rw[Beg (by lia)];lia)
 ·simp only[hl,Bgm]
  first|rfl|lia|(rw[Beg hl];rfl)|(rw[Bef (by lia)];rfl)
theorem Apz {lo hi st:Int} (h:0 < st):((Vr lo hi st:Nat):Int)<=max 0 (hi - lo):=by
 unfold Vr
 by_cases hl:lo < hi
 ·rw[Bef hl]
  have h1:0<=(hi - lo - 1) / st:=Int.ediv_nonneg (by lia) (by lia)
  have h2:(hi - lo - 1) / st<=hi - lo - 1:=Int.ediv_le_self _ (by lia)
  lia
 ·rw[Beg hl];lia
theorem Ah7 (ha:-(2 ^ 61)<=a) (ha':a < 2 ^ 61) (hb:-(2 ^ 61)<=b) (hb':b < 2 ^ 61) (hc:0 < c) (hc':c < 2 ^ 61):Builtin.Range.small a b c=true:=by
 have h1:=Apz (lo:=a) (hi:=b) hc
 have h2:=T5 (lo:=a) (hi:=b) hc
 unfold Builtin.Range.small
 rw[<- h2]
 simp only[Builtin.Range.rangeFitsLong,Bet,Bool.or_eq_true,Bgb,beq_iff_eq,show c > 0 from hc,Bha]
 lia
theorem Reps.three {K:W.Frag}{H:Hp}{μ:List Addr}{B:Addr->Prop}{x y z:D}{vs:List V} (r:Reps K H μ B [x,y,z] vs):∃ v1 v2 v3,vs=[v1,v2,v3]/\Rep K H μ B x v1/\Rep K H μ B y v2/\Rep K H μ B z v3:=by
 cases r with
 |cons a r=>cases r with
  |cons b r=>cases r with
   |cons c r=>cases r;exact⟨_,_,_,rfl,a,b,c⟩
theorem Bbc (r:Vals [v1,v2,v3] us):∃ u1 u2 u3,us=[u1,u2,u3]/\RelV v1 u1/\RelV v2 u2/\RelV v3 u3:=by
 cases r with
 |cons a r=>cases r with
  |cons b r=>cases r with
   |cons c r=>cases r;exact⟨_,_,_,rfl,a,b,c⟩
section
variable {X:Cx}{a b c e:Expr}{tg:Expr}{p pos:Pos}
def Aeq (g:FL):FW:=fun env m=>(g env m).bind fun ds=>match ds with
 |[.int i,.int j,.int k]=>if 0<=i/\i < 1000000000/\0<=j/\j < 1000000000/\0 < k/\k < 1000000 then some ⟨(List.range (Vr i j k)).map fun (q:Nat)=>.int (i+q * k),Bm⟩ else none
 |_=>none
theorem Zs {K:W.Frag}{lo st:Int}{n:Nat}:Src K (Axv lo st n) ((List.range n).map fun (q:Nat)=>.int (lo+q * st)) Bm (fun _ _ _=>True) where
 go:=fun H μ m i d S h _ e=>by
  rw[Bey] at e
  cases q:(List.range n)[i]? with
  |none=>rw[q] at e;cases e
  |some j =>
   rw[q] at e
   cases e
   have hi:=(List.getElem?_eq_some_iff.mp q).1
   rw[List.length_range] at hi
   rw[Bgk hi] at q
   cases q
   exact⟨hi,fun x H' ⟨h1,h2⟩=>by subst h1;subst h2;exact⟨Same.refl _,.int _⟩⟩
 stop:=fun H μ m S h _=>by show n<=_;simp
 keep:=fun H μ m H' μ' m' h S st S'=>trivial
theorem Adq {pins:List (Addr×Obj)}{σ:St}{H:Hp}{s:Shared}{R:It->Hp->Prop}{E:Value->Shared->Prop}{lo hi st:Int}{t u v:Tok}{tk:Nat} (I:Inv X pins σ H s) (h:0<=lo/\lo < 1000000000/\0<=hi/\hi < 1000000000/\0 < st/\st < 1000000)
  (q:R (Axv lo st (Vr lo hi st)) H):wpAny (model X.prog X.w) X.A (pyIter (.ref s.heap.objs.size)) (PIE X pins σ tg R) E { s with heap:=s.heap.push { cls:=.type "range",data:=.fields #[.int lo t,.int hi u,.int st v] },toks:=tk }:=by
 obtain⟨h1,h2,h3,h4,h5,h6⟩:=h
 refine wpAny_pyIter_range (IsRange.new ..) (Ah7 (by lia) (by lia) (by lia) (by lia) (by lia) (by lia)) ?_
 have I1:Inv X pins σ H { s with heap:=s.heap.push { cls:=.type "range",data:=.fields #[.int lo t,.int hi u,.int st v] },toks:=tk }:=I.kept fun b o e=>Bec _ e
 refine⟨(s.heap.push { cls:=.type "range",data:=.fields #[.int lo t,.int hi u,.int st v] }).objs.size,[(s.heap.push { cls:=.type "range",data:=.fields #[.int lo t,.int hi u,.int st v] }).objs.size],_,_,H,rfl,
  I1.kept (t':=tk) fun b o e=>Bec _ e,Vv _ lo st (Vr lo hi st),?_,fun b hb=>?_,q⟩
 ·have e1:lo+((0:Nat):Int) * st=lo:=by simp
  have e2:((Vr lo hi st:Nat):Int) - ((0:Nat):Int)=Builtin.Range.rangeSize lo hi st:=by rw[<- T5 h5];simp
  show IsRangeIter _ _ (lo+((0:Nat):Int) * st) (((Vr lo hi st:Nat):Int) - ((0:Nat):Int)) st
  rw[e1,e2]
  exact Beq _ rfl
 ·have e:b=(s.heap.push { cls:=.type "range",data:=.fields #[.int lo t,.int hi u,.int st v] }).objs.size:=by simpa using hb
  subst e
  exact I1.fpOk (Bej _) (I1.hok.fresh (Bej _))
theorem Adh {g:FL} (hg:Gl X "range") (hm:X.mg "range"=none) (ha:PL X [a,b,c] g) (hs:starEach [a,b,c] X.env=(false,eval a X.env)::starEach [b,c] X.env) (hs2:(backTo pos (starEach [b,c] X.env)).any (·.1)=false):PW' X tg (.Call (.Name "range" p) [a,b,c] [] pos) (Aeq g):=by
 intro pins s σ H R I h
 obtain⟨env,μ,m,w,S,E,h,q⟩:=h
 obtain⟨ds,h1,h2⟩:=bind_some h
 refine Call_ (Jq I hg hm boot_range (PyProof.Rows.callWith_type1 (thn (ha pos pins s σ H (fun vs H1=>Same H H1/\Reps X.K H1 μ (·∈μ) ds vs) I ⟨env,μ,m,ds,S,E,h1,fun vs H' s rs=>⟨s,rs⟩⟩) fun us s1 ⟨vs,H1,I1,r1,sm,rs⟩=>?_) hs hs2))
 obtain⟨i,j,k,rfl⟩:∃ i j k,ds=[.int i,.int j,.int k]:=by
  cases ds with
  |nil=>exact Ak h2
  |cons d ds =>
   cases d with
   |int i =>
    cases ds with
    |nil=>exact Ak h2
    |cons d ds =>
     cases d with
     |int j =>
      cases ds with
      |nil=>exact Ak h2
      |cons d ds =>
       cases d with
       |int k =>
        cases ds with
        |nil=>exact⟨i,j,k,rfl⟩
        |cons _ _=>exact Ak h2
       |_=>exact Ak h2
     |_=>cases h2
   |_=>cases h2
 simp only at h2
 split at h2
 ·rename_i hc
  cases h2
  obtain⟨v1,v2,v3,rfl,x1,x2,x3⟩:=rs.three
  cases x1
  cases x2
  cases x3
  obtain⟨u1,u2,u3,rfl,⟨t1,rfl⟩,⟨t2,rfl⟩,⟨t3,rfl⟩⟩:=Bbc r1
  exact call_range_3 (by lia) (Adq I1 hc (q H1 _ _ sm Zs trivial)) (Bgn (PyProof.noPylong_small (by lia)))
 ·exact Ak h2
theorem Awj (hm:X.mg "range"=none) (ha:QL X [a,b,c] g) (hg:Gl X "range":=by unfold Gl;kernel_rfl) (hs':Bj a=true:=by rfl) (hs2':[b,c].all Bj=true:=by rfl):QW X tg (.Call (.Name "range" p) [a,b,c] [] pos) (Aeq g):=⟨Adh hg hm ha.out (Au hs') (C7 hs2')⟩
noncomputable def oIs:D->D->MH->Option D
 |.bl c,.bl d,_=>some (.bl (c == d))
 |_,_,_=>none
theorem Az7:OpM X (compareOp .Is) oIs:=by
 intro pins s σ H μ m x y z v u v' u' Q I S rx ry r1 r2 e q
 cases rx<;>first|exact Ak e|skip
 cases ry<;>first|exact Ak e|skip
 cases e
 cases r1
 cases r2
 exact is_bool ⟨.bl _,H,I,rfl,q _ H (Same.refl H) (.bl _)⟩
end
open Classical
noncomputable section
abbrev KT (K:W.Frag) (H:Hp):List (PyData×V)->List (PyData×Addr×Value)->Prop:=Paired fun p q=>p.1=q.1/\KeyT K H q.1 q.2.1/\RelV p.2 q.2.2
noncomputable def Ae4 (kvs:List (PyData×V)) (k:PyData):Option V:=(kvs.find? fun p=>decide (p.1=k)).map (·.2)
def Z2 (kvs:List (PyData×V)) (k:PyData) (v:V):List (PyData×V):=if (Ae4 kvs k).isSome=true then kvs.map fun p=>if p.1=k then (p.1,v) else p else kvs++[(k,v)]
theorem Pr (e:p.1=k):Ae4 (p::r) k=some p.2:=by simp[Ae4,Bhk,e]
theorem Pq (e:¬ p.1=k):Ae4 (p::r) k=Ae4 r k:=by simp[Ae4,Bhk,e]
theorem KT.val {K:W.Frag}{H:Hp}{kvs:List (PyData×V)}{xs:List (PyData×Addr×Value)} (r:KT K H kvs xs) (k:PyData):Ara (Ae4 kvs k) ((atKey xs k).map (·.2)):=by
 induction r with
 |nil=>exact Bg4
 |@cons p q ps qs h t ih =>
  obtain⟨h1,_,h2⟩:=h
  by_cases e:p.1=k
  ·have e':q.1=k:=h1.symm.trans e
   have b:atKey (q::qs) k=some q.2:=by simp[atKey,Bhk,e']
   rw[Pr e,b];exact h2
  ·have e':¬ q.1=k:=fun z=>e (h1.trans z)
   have b:atKey (q::qs) k=atKey qs k:=by simp[atKey,Bhk,e']
   rw[Pq e,b];exact ih
theorem Ads (r:Ara o u):o.isSome=u.isSome:=by
 cases o<;>cases u<;>first|rfl|exact (show False from r).elim
theorem KT.put {K:W.Frag}{H:Hp}{kvs:List (PyData×V)}{xs:List (PyData×Addr×Value)} (r:KT K H kvs xs) (k:PyData) {b:Addr}{y:V}{u:Value} (hb:KeyT K H k b) (ry:RelV y u):KT K H (Z2 kvs k y) (storedH xs k b u):=by
 have e:=Ads (r.val k)
 rw[Option.isSome_map] at e
 unfold Z2 storedH
 rw[e]
 by_cases q:(atKey xs k).isSome=true
 ·rw[Bef q,Bef q]
  clear e q
  induction r with
  |nil=>exact .nil
  |@cons p q ps qs h t ih =>
   rw[Bee,Bee]
   refine .cons ?_ ih
   obtain⟨h1,h2,h3⟩:=h
   unfold putAt
   by_cases e:p.1=k
   ·rw[Bef e,Bef (h1.symm.trans e)];exact⟨h1,h2,ry⟩
   ·rw[Beg e,Beg (fun z=>e (h1.trans z))];exact⟨h1,h2,h3⟩
 ·rw[Beg q,Beg q]
  clear e q
  induction r with
  |nil=>exact .cons ⟨rfl,hb,ry⟩ .nil
  |cons h t ih=>exact .cons h ih
theorem KT.keeps {K:W.Frag}{H H':Hp}{kvs:List (PyData×V)}{xs:List (PyData×Addr×Value)} (r:KT K H kvs xs) (ht:∀ b ys,Rd H b (.tup ys)->Rd H' b (.tup ys)):KT K H' kvs xs :=
 Paired.mapP r fun _ _ z=>⟨z.1,z.2.1.up ht,z.2.2⟩
theorem KT.length {K:W.Frag}{H:Hp}{kvs:List (PyData×V)}{xs:List (PyData×Addr×Value)} (r:KT K H kvs xs):kvs.length=xs.length:=Paired.length r
theorem Ahn (kvs:List (PyData×V)) (k:PyData) (v:V):(Z2 kvs k v).length<=kvs.length+1:=by
 unfold Z2
 split
 ·rw[Bel];lia
 ·simp
section
variable {X:Cx}{pins:List (Addr×Obj)}{σ:St}{H:Hp}{s:Shared}{a:Addr}
theorem Ta (I:Inv X pins σ H s) (d:PyData):∀ {v:V}{u:Value},KeyH X.K H d v->RelV v u->∃ as,Reads s.heap u d as:=by
 match d with
 |.int i=>intro v u h r;cases h;obtain⟨t,rfl⟩:=r;exact⟨_,.int i t⟩
 |.str x=>intro v u h r;cases h;obtain⟨t,rfl⟩:=r;exact⟨_,.str x t⟩
 |.tuple ds =>
  intro v u h r
  cases h with
  |@tup _ b vs hs hp =>
  cases r
  obtain⟨its,rv,⟨o,ho,hc,n,hd⟩,hz⟩:=I.tuple hs
  have go:∀ (es:List PyData) (us:List V) (ws:List Value),(∀ e∈es,e∈ds)->Paired (KeyH X.K H) es us->Vals us ws->∃ as,ReadsAll s.heap ws es as:=by
   intro es
   induction es with
   |nil=>intro us ws _ q rv;cases q;cases rv;exact⟨_,.nil⟩
   |cons e es ih =>
    intro us ws hm q rv
    cases q with
    |cons h1 h2=>cases rv with
     |cons r1 r2 =>
      obtain⟨as,q1⟩:=Ta I e h1 r1
      obtain⟨bs,q2⟩:=ih _ _ (fun x hx=>hm x (Bed _ hx)) h2 r2
      exact⟨_,.cons q1 q2⟩
  obtain⟨as,ra⟩:=go ds vs its (fun _ h=>h) hp rv
  exact⟨as,.tuple ho hc hd (by simpa using ra)⟩
 |.none=>intro v u h;cases h
 |.bool _=>intro v u h;cases h
 |.list _=>intro v u h;cases h
 |.dict _=>intro v u h;cases h
termination_by sizeOf d
decreasing_by
 have:=Bfy (hm e (Beb ..))
 simp;lia
theorem Xi (I:Inv X pins σ H s) {d:PyData} (h:KeyT X.K H d b):(Gx X.prog X.w).is s.heap d b:=by
 obtain⟨h1,h2,h3,h4⟩:=h
 obtain⟨as,r⟩:=Ta I d (u:=.ref b) h4 rfl
 exact⟨h1,h2,h3,as,r⟩
theorem Afu (I:Inv X pins σ H s) (e:Rd H a (.dT kvs)):kvs.length<=sizeLine/\(a == sysModules)=false/\∃ xs,KT X.K H kvs xs/\s.heap.DictOfH (Gx X.prog X.w) a xs:=by
 obtain⟨z,y,xs,r,o,es,ep,h1,h2,h3,h4,h5⟩:=(show ObjOk X.prog X.w X.K H s.heap a (.dT kvs) from e.ok I.hok)
 refine⟨z,y,xs,r,o,es,ep,h1,h2,h3,h4,fun x hx=>?_,h5⟩
 have all:∀ {l:List (PyData×V)}{m:List (PyData×Addr×Value)},KT X.K H l m->∀ x∈m,(Gx X.prog X.w).is s.heap x.1 x.2.1:=by
  intro l m q
  induction q with
  |nil=>intro x hx;exact nomatch hx
  |@cons p q ps qs hq t ih =>
   intro x hx
   rcases List.mem_cons.mp hx with e|hx
   ·subst e
    exact Xi I hq.2.1
   ·exact ih x hx
 exact all r x hx
theorem Mt {A:Around} (hu:A.units+11 < cLine):(Gx X.prog X.w).room A.in1:=by
 show A.units+1+10 < cLine;lia
theorem Anh (I:Inv X pins σ H s):sysModules < s.heap.objs.size:=by
 have h:mainGlobals < s.heap.objs.size:=(I.mod.glob.keeps I.bk).lt
 exact Nat.lt_trans (by decide) h
end
noncomputable def Cu:D->Bool
 |.tup ds=>kOk (pyD (.tup ds))&&decide (Zc (pyD (.tup ds))<=6)
 |_=>false
noncomputable def Ra (m:MH):D->Option (List D×List D)
 |.dic ks vs=>some (ks,vs)
 |.ref n=>match m[n]? with
  |some (.dct ks vs)=>some (ks,vs)
  |_=>none
 |_=>none
noncomputable def Anf:List D->List D->D->Option D
 |k::ks,v::vs,x=>if pyD k=pyD x then some v else Anf ks vs x
 |_,_,_=>none
noncomputable def Y7 (ks:List D) (x:D):Bool:=ks.any fun k=>decide (pyD k=pyD x)
noncomputable def Nb:List D->List D->D->D->List D
 |k::ks,v::vs,x,y=>(if pyD k=pyD x then y else v)::Nb ks vs x y
 |_,vs,_,_=>vs
def An5:D->D->MH->Option D:=fun x y m=>(Ra m x).bind fun kv=>if Cu y=true then Anf kv.1 kv.2 y else none
def Auf:D->D->MH->Option D:=fun x y m=>(Ra m y).bind fun kv=>if Cu x=true then some (.bl (Y7 kv.1 x)) else none
noncomputable def Ah2 (i:Nat):FS:=fun env m=>some (.nx (env.set i (some (.ref m.length))) (m++[.dct [] []]))
def Zr (f fo fk:FE):FS:=fun env m=>(f env m).bind fun d=>(fo env m).bind fun o=>(fk env m).bind fun k=>match o with
 |.ref n=>(match m[n]? with
  |some (.dct ks vs)=>if Cu k=true/\ks.length < 1000000 then some (.nx env (m.set n (if Y7 ks k=true then .dct ks (Nb ks vs k d) else .dct (ks++[k]) (vs++[d])))) else none
  |_=>none)
 |_=>none
section
variable {K:W.Frag}{H:Hp}{μ:List Addr}{B:Addr->Prop}
theorem Abf:∀ {d:D}{v:V},Rep K H μ B d v->kOk (pyD d)=true->KeyH K H (pyD d) v:=by
 intro d
 match d with
 |.int i=>intro v r _;cases r;rw[pyD];exact .int i
 |.str x=>intro v r _;cases r;rw[pyD];exact .str x
 |.tup ds =>
  intro v r hk
  cases r with
  |@tup _ a xs hq rs =>
  rw[pyD] at hk ⊢
  rw[kOk] at hk
  refine .tup hq ?_
  have go:∀ (es:List D) (us:List V),(∀ e∈es,e∈ds)->Reps K H μ B es us->Nr (Cf es)=true->Paired (KeyH K H) (Cf es) us:=by
   intro es
   induction es with
   |nil=>intro us _ q _;cases q;rw[Cf];exact .nil
   |cons e es ih =>
    intro us hm q hk
    cases q with
    |cons h1 h2 =>
     rw[Cf,Nr,Bet] at hk
     rw[Cf]
     exact .cons (Abf h1 hk.1) (ih _ (fun x hx=>hm x (Bed _ hx)) h2 hk.2)
  exact go ds xs (fun _ h=>h) rs hk
 |.non=>intro v r h;simp[pyD,kOk] at h
 |.bl _=>intro v r h;simp[pyD,kOk] at h
 |.lst _=>intro v r h;simp[pyD,kOk] at h
 |.kl _=>intro v r h;simp[pyD,kOk] at h
 |.ref _=>intro v r h;simp[pyD,kOk] at h
 |.dic _ _=>intro v r h;simp[pyD,kOk] at h
 |.fn _ _=>intro v r h;simp[pyD,kOk] at h
termination_by d=>sizeOf d
decreasing_by
 have:=Bfy (hm e (Beb ..))
 simp;lia
theorem Va {d:D} (r:Rep K H μ B d v) (h:Cu d=true):∃ b,v=.ref b/\KeyT K H (pyD d) b:=by
 cases d with
 |tup ds =>
  unfold Cu at h
  rw[Bet] at h
  have q:=Abf r h.1
  cases r with
  |tup hq rs=>exact⟨_,rfl,h.1,Bfk h.2,⟨_,by rw[pyD]⟩,q⟩
 |_=>exact Ce h
theorem Xc:∀ {ks vs:List D}{kvs:List (PyData×V)}{x z:D},Cf ks=kvs.map (·.1)->Reps K H μ B vs (kvs.map (·.2))->Anf ks vs x=some z->∃ v,Ae4 kvs (pyD x)=some v/\Rep K H μ B z v
 |[],_,_,_,_,_,_,h=>by exact Ak h
 |k::ks,[],_,_,_,_,_,h=>by cases h
 |k::ks,v::vs,[],x,z,e,_,h=>by simp[Cf] at e
 |k::ks,v::vs,p::kvs,x,z,e,r,h=>by
  rw[Cf,Bee] at e
  obtain⟨e1,e2⟩:=List.cons.inj e
  rw[Bee] at r
  cases r with
  |cons r1 r2 =>
   rw[Anf] at h
   by_cases q:pyD k=pyD x
   ·rw[Bef q] at h
    cases h
    exact⟨p.2,Pr (e1.symm.trans q),r1⟩
   ·rw[Beg q] at h
    rw[Pq (fun z=>q (e1.trans z))]
    exact Xc e2 r2 h
theorem Ot:∀ {ks:List D}{kvs:List (PyData×V)}{x:D},Cf ks=kvs.map (·.1)->Y7 ks x=(Ae4 kvs (pyD x)).isSome
 |[],[],_,_=>rfl
 |[],_::_,_,e=>by simp[Cf] at e
 |_::_,[],_,e=>by simp[Cf] at e
 |k::ks,p::kvs,x,e=>by
  rw[Cf,Bee] at e
  obtain⟨e1,e2⟩:=List.cons.inj e
  have ih:=Ot (x:=x) e2
  unfold Y7 at ih ⊢
  rw[Bf6]
  by_cases q:pyD k=pyD x
  ·rw[Pr (e1.symm.trans q)];simp[q]
  ·rw[Pq (fun z=>q (e1.trans z)),<- ih];simp[q]
theorem Aph {ks vs:List D}{kvs:List (PyData×V)}{x y:D}{v:V} (e:Cf ks=kvs.map (·.1)) (r:Reps K H μ B vs (kvs.map (·.2))) (ry:Rep K H μ B y v) :
  Cf (if Y7 ks x=true then ks else ks++[x])=(Z2 kvs (pyD x) v).map (·.1)/\Reps K H μ B (if Y7 ks x=true then Nb ks vs x y else vs++[y]) ((Z2 kvs (pyD x) v).map (·.2)):=by
 have app:∀ (ds es:List D),Cf (ds++es)=Cf ds++Cf es:=fun ds es=>by
  induction ds with
  |nil=>rw[Cf];rfl
  |cons d ds ih=>rw[Be5,Cf,Cf,ih];rfl
 unfold Z2
 rw[Ot e]
 by_cases q:(Ae4 kvs (pyD x)).isSome=true
 ·rw[Bef q,Bef q,Bef q]
  clear q
  refine⟨?_,?_⟩
  ·rw[e,Be8]
   refine Bfm fun p _=>?_
   show p.1=_
   simp only[Function.comp]
   split<;>rfl
  ·induction kvs generalizing ks vs with
   |nil =>
    cases ks with
    |nil=>cases r;exact .nil
    |cons k ks=>simp[Cf] at e
   |cons p kvs ih =>
    cases ks with
    |nil=>simp[Cf] at e
    |cons k ks =>
     rw[Cf,Bee] at e
     obtain⟨e1,e2⟩:=List.cons.inj e
     rw[Bee] at r
     cases r with
     |cons r1 r2 =>
      rw[Nb,Bee,Bee]
      refine .cons ?_ (ih e2 r2)
      by_cases z:pyD k=pyD x
      ·rw[Bef z,Bef (e1.symm.trans z)];exact ry
      ·rw[Beg z,Beg (fun w=>z (e1.trans w))];exact r1
 ·rw[Beg q,Beg q,Beg q,Be6,Be6,app,e]
  exact⟨by rw[Cf,Cf];rfl,r.append (.cons ry .nil)⟩
theorem U1 (S:Sim K H μ m) {d:D} (r:Rep K H μ (·∈μ) d v) (h:Ra m d=some (ks,vs)):∃ a kvs,v=.ref a/\Rd H a (.dT kvs)/\Cf ks=kvs.map (·.1)/\Reps K H μ (·∈μ) vs (kvs.map (·.2)):=by
 cases r with
 |dic h1 h2 h3 h4=>cases h;exact⟨_,_,rfl,h1,h3,h4⟩
 |fn _=>exact Ak h
 |@ref n a e =>
  unfold Ra at h
  cases q:m[n]? with
  |none=>simp[q] at h
  |some o =>
   simp only[q] at h
   cases o with
   |lst _=>cases h
   |dct ks vs =>
    cases h
    obtain⟨kvs,q1,q2,q3⟩:=S.obj n a _ e q
    exact⟨a,kvs,rfl,.inl q1,q2,q3⟩
 |_=>exact Ak h
end
section
variable {X:Cx}{a b c e:Expr}{es:List Expr}{pos p p':Pos}{x:Str}
theorem Avj {k:Nat}{f g:FE} (hr:Room k X.A) (ha:PD X a f) (hb:PD X b g) (hs:Oc b):PD X (.Subscript a b pos) (f2 An5 f g):=by
 intro pins s σ H Q I ⟨env,μ,m,z,S,E,h,q⟩
 obtain⟨d1,h1,h⟩:=bind_some h
 obtain⟨d2,h2,h⟩:=bind_some h
 obtain⟨kv,h3,h⟩:=bind_some h
 split at h
 ·rename_i hk
  refine Subscript_ (Axj ha hb I (show tE X.K f σ H fun x H1=>tE X.K g σ H1 fun y H2=>Same H H2/\Rep X.K H2 μ (·∈μ) d1 x/\Rep X.K H2 μ (·∈μ) d2 y from ⟨env,μ,m,d1,S,E,h1,fun v H1 s1 r1=>⟨env,μ,m,d2,S.same s1,E.same s1,h2,fun u H2 s2 r2=>⟨s1.trans s2,r1.same s2,r2⟩⟩⟩) fun v u s2 x y H2 I2 rx ry q2=>?_)
  obtain⟨sm,r1,r2⟩:=q2
  obtain⟨ad,kvs,rfl,hd,e1,e2⟩:=U1 (S.same sm) r1 (by rw[h3])
  obtain⟨bd,rfl,hkt⟩:=Va r2 hk
  obtain⟨w,hw,rw'⟩:=Xc e1 e2 h
  cases rx
  cases ry
  obtain⟨z1,hm,xs,rel,dd⟩:=Afu I2 hd
  have q3:=rel.val (pyD d2)
  rw[hw] at q3
  cases q4:(atKey xs (pyD d2)).map (·.2) with
  |none=>rw[q4] at q3;exact (show False from q3).elim
  |some w' =>
   rw[q4] at q3
   obtain⟨pr,hp,hp2⟩:=Option.map_eq_some_iff.mp q4
   have hu:=hr.units
   refine subscriptTail_builtinR (x:=w') dd.typeIs slot_dict_getitem.lookup (wpAny_getItem_heap (Mt (by lia)) (Xi I2 hkt) dd hp ?_) (hs _ _)
   rw[hp2]
   exact⟨rfl,w,H2,I2.tok _,q3,q w H2 sm rw'⟩
 ·cases h
theorem Auz (hr:Room k X.A):OpM X (compareOp .In) Auf:=by
 intro pins s σ H μ m x y z v u v' u' Q I S rx ry r1 r2 e q
 obtain⟨kv,h3,h⟩:=bind_some e
 split at h
 ·rename_i hk
  cases h
  obtain⟨ad,kvs,rfl,hd,e1,e2⟩:=U1 S ry (by rw[h3])
  obtain⟨bd,rfl,hkt⟩:=Va rx hk
  cases r1
  cases r2
  obtain⟨z1,hm,xs,rel,dd⟩:=Afu I hd
  have hu:=hr.units
  refine wpAny_in_heap (Mt (by lia)) (Xi I hkt) hm dd ?_
  have q3:=Ads (rel.val (pyD x))
  rw[Option.isSome_map] at q3
  rw[<- q3,<- Ot e1]
  exact⟨.bl _,H,I.tok _,rfl,q _ H (Same.refl H) (.bl _)⟩
 ·cases h
def Bav (K:W.Frag):Axh:=fun o i v H Q=>∃ ad kvs d b,o=.ref ad/\i=.ref b/\KeyT K H d b/\H ad=some (.dT kvs)/\kvs.length < sizeLine/\Q (upd H ad (.dT (Z2 kvs d v)))
theorem Ad3 (hr:Room k X.A):Axz X (Bav X.K):=by
 intro pins s σ H o i v ov iv u Q I r1 r2 r3 h
 obtain⟨ad,kvs,d,bd,rfl,rfl,hk,hH,hl,q⟩:=h
 cases r1
 cases r2
 obtain⟨z,hd,xs,rel,dd⟩:=Afu I (.inl hH)
 have hz:xs.length<=sizeLine:=by rw[<- rel.length];exact z
 have hl':(Z2 kvs d v).length<=sizeLine:=by have:=Ahn kvs d v;lia
 have hu:=hr.units
 refine wpAny_setItem_heap (hsz:=hz) (Mt (by lia)) (Xi I hk) dd fun h' dd' hs=>?_
 obtain⟨o',es,ep,hq,h2,h3,h4,_,h5⟩:=dd'
 refine⟨_,I.write (x:=ad) (e:=ad) (o:=.dT (Z2 kvs d v)) (by rw[hH];exact Bg4) (.inl rfl) (fun b u hb e=>(hs.2 b hb).trans e) ⟨o',hq⟩ (show ObjOk X.prog X.w X.K (upd H ad (.dT (Z2 kvs d v))) h' ad (.dT (Z2 kvs d v)) from ⟨hl',hd,_,(rel.put d hk r3).keeps fun c ys ec=>Rd.upd_mut (by rw[hH];exact Bg4) ec,o',es,ep,hq,h2,h3,h4,h5⟩),q⟩
end
theorem Sim.writeD {K:W.Frag}{H:Hp}{μ:List Addr}{m:MH}{n:Nat}{a:Addr}{o0:MObj}{ks vs:List D}{kvs:List (PyData×V)} (S:Sim K H μ m) (h1:μ[n]?=some a) (h2:m[n]?=some o0) (e:Cf ks=kvs.map (·.1)) (r:Reps K H μ (·∈μ) vs (kvs.map (·.2))) :
  Step H μ (upd H a (.dT kvs)) μ/\Sim K (upd H a (.dT kvs)) μ (m.set n (.dct ks vs)):=by
 have ha:a∈μ:=Be1 h1
 have st:Step H μ (upd H a (.dT kvs)) μ:=⟨⟨[],by simp,by simp⟩,fun b o e hb=>by rw[A0 fun z=>hb (by rw[z];exact ha)];exact e⟩
 have nl:n < m.length:=(List.getElem?_eq_some_iff.mp h2).1
 refine⟨st,⟨S.nd,by simp[S.len],fun j b o h3 h4=>?_⟩⟩
 by_cases hj:j=n
 ·subst hj
  rw[h1] at h3
  cases h3
  rw[Bfv nl] at h4
  cases h4
  exact⟨kvs,A8,e,r.step S st⟩
 ·rw[Bgd (Bgj hj)] at h4
  have q:=S.obj j b o h3 h4
  have hb:b≠a:=fun z=>hj (by
   subst z
   exact (List.getElem_inj S.nd).mp ((List.getElem?_eq_some_iff.mp h3).2.trans (List.getElem?_eq_some_iff.mp h1).2.symm))
  cases o with
  |lst fs=>obtain⟨zs,q1,q2⟩:=q;exact⟨zs,by rw[A0 hb];exact q1,q2.step S st⟩
  |dct ks vs=>obtain⟨zs,q1,q2,q3⟩:=q;exact⟨zs,by rw[A0 hb];exact q1,q2,q3.step S st⟩
theorem Sim.pushD {K:W.Frag}{H:Hp}{μ:List Addr}{m:MH}{a:Addr} (S:Sim K H μ m) (hn:H a=none) :
  Step H μ (upd H a (.dT [])) (μ++[a])/\Sim K (upd H a (.dT [])) (μ++[a]) (m++[.dct [] []]):=by
 have s:Same H (upd H a (.dT [])):=Bk hn
 have st:Step H μ (upd H a (.dT [])) (μ++[a]):=⟨⟨[a],rfl,fun b hb=>by rw[show b=a by simpa using hb];exact hn⟩,fun b o e _=>s b o e⟩
 have na:a∉μ:=S.nnone hn
 refine⟨st,?_,?_,fun n b o h1 h2=>?_⟩
 ·rw[List.nodup_append]
  exact⟨S.nd,by simp,fun b hb c hc z=>na (by rw[<- show c=a by simpa using hc,<- z];exact hb)⟩
 ·simp[S.len]
 ·by_cases hl:n < μ.length
  ·rw[Be2 hl] at h1
   rw[Be2 (by rw[<- S.len];exact hl)] at h2
   have q:=S.obj n b o h1 h2
   cases o with
   |lst es=>obtain⟨ys,q1,q2⟩:=q;exact⟨ys,s _ _ q1,q2.step S st⟩
   |dct ks vs=>obtain⟨ys,q1,q2,q3⟩:=q;exact⟨ys,s _ _ q1,q2,q3.step S st⟩
  ·have e:n=μ.length:=by
    have:=(List.getElem?_eq_some_iff.mp h1).1
    rw[Bep,Bga] at this
    lia
   subst e
   rw[Be9 (Bej _)] at h1
   rw[S.len,Be9 (Bej _)] at h2
   simp at h1 h2
   subst h1
   subst h2
   exact⟨[],A8,rfl,.nil⟩
section
variable {X:Cx}{a b c e:Expr}{es:List Expr}{pos p p':Pos}{x:Str}
theorem Ahi {k:Nat}{f fo fi:FE} (hr:Room k X.A) (he:PD X e f) (ho:PD X a fo) (hi:PD X b fi)
  (ha:∀ v,assign (.Subscript a b p) X.env v=(do
   let ov <- holding [v] (eval a X.env)
   let iv <- holding [v,ov] (eval b X.env)
   standAt p
   holding [v,ov,iv] (setItem ov iv v)
   release [v,ov,iv] [])) (hs:swapsWithSole [.Subscript a b p] e pos.line X.env=pure false) (hw:swappedStores [.Subscript a b p] e X.env=pure none) (h1:(assignEach [.Subscript a b p] X.env).map (·.2)=[assign (.Subscript a b p) X.env]) :
  PSD X (.Assign [.Subscript a b p] e pos) (Zr f fo fi):=PS.imp (Ac8 he (Aj0 ho hi (Ad3 hr) ha) hs hw h1) fun D σ H ⟨env,μ,m,ob,S,E,h,q⟩=>by
 obtain⟨d,h1,h⟩:=bind_some h
 obtain⟨o,h2,h⟩:=bind_some h
 obtain⟨i,h3,h⟩:=bind_some h
 refine⟨env,μ,m,d,S,E,h1,fun v H1 s1 r1=>⟨env,μ,m,o,S.same s1,E.same s1,h2,fun u H2 s2 r2=>⟨env,μ,m,i,S.same (s1.trans s2),E.same (s1.trans s2),h3,fun w H3 s3 r3=>?_⟩⟩⟩
 have s':=(s1.trans s2).trans s3
 have r2':=r2.same s3
 cases r2' with
 |@ref n a e =>
  simp only at h
  cases q':m[n]? with
  |none=>simp[q'] at h
  |some mo =>
   simp only[q'] at h
   cases mo with
   |lst _=>cases h
   |dct ks vs =>
    simp only at h
    split at h
    ·rename_i hk
     cases h
     obtain⟨kvs,e1,e2,e3⟩:=(S.same s').obj n a _ e q'
     obtain⟨bd,rfl,hkt⟩:=Va r3 hk.1
     have rv:=(r1.same s2).same s3
     have hl:kvs.length < sizeLine:=by
      have l1:=Bfa List.length e2
      have l2:∀ ds:List L2.ML.D,(Cf ds).length=ds.length:=fun ds=>by induction ds with|nil=>rw[Cf];rfl|cons d ds ih=>rw[Cf,Beh,Beh,ih]
      rw[l2,Bel] at l1
      have:=hk.2
      have hz:=big (n:=1000000) (Bej _)
      lia
     refine⟨a,kvs,_,bd,rfl,rfl,hkt,e1,hl,?_⟩
     obtain⟨p1,p2⟩:=Aph (x:=i) e2 e3 rv
     obtain⟨st,S3⟩:=(S.same s').writeD e q' p1 p2
     have em:(if Y7 ks i=true then MObj.dct ks (Nb ks vs i d) else MObj.dct (ks++[i]) (vs++[d]))=MObj.dct (if Y7 ks i=true then ks else ks++[i]) (if Y7 ks i=true then Nb ks vs i d else vs++[d]):=by split<;>rfl
     rw[em] at q
     exact q σ _ μ ((Step.of_same s').trans st fun c hc=>s'.free hc) S3 ((E.same s').step (S.same s') st)
    ·exact Ak h
 |_=>exact Ak h
theorem Aft {P:Program}{w:World}{K:W.Frag}{H:Hp} (h:Heap) (hb:sysModules < h.objs.size):ObjOk P w K H (h.push { cls:=.type "dict",data:=.dict #[] }) h.objs.size (.dT []) :=
 ⟨Bfe _,beq_eq_false_iff_ne.mpr (Bgj (Be0 hb)),[],.nil,_,#[],0,Beq _ rfl,⟨rfl,rfl,rfl⟩,rfl,rfl,List.nodup_nil⟩
theorem Ag5:PE X (.Dict [] [] pos) (fun _ H Q=>∀ p,H p=none->Q (.ref p) (upd H p (.dT []))):=fun pins s σ H Q I h =>
 wpAny_Dict_empty ⟨.ref s.heap.objs.size,_,I.laid (a:=s.heap.objs.size) (o:=.dT []) (t':=s.toks) (fun _ _ q=>Bec _ q) (Bej _) (Aft s.heap (Anh I)),rfl,h _ (I.hok.fresh (Bej _))⟩
theorem Ahh (hN:X.N.Nodup) (hi:X.N[i]?=some x) (hx:Loc X.env.scope x) (hs:swapsWith (.Dict [] [] dp) (some (.Name x p')) pos.line X.env=pure false) (hf:X.fn x=true\/X.env.scope.names.lookup x=some .local) :
  PSD X (.Assign [.Name x p'] (.Dict [] [] dp) pos) (Ah2 i):=PS.imp (Ac9 hN hi hx Ag5 hs hf) fun D σ H ⟨env,μ,m,o,S,E,h,q⟩=>by
 cases h
 intro a hn
 obtain⟨st,S'⟩:=S.pushD hn
 exact q _ _ _ st S' ((E.step S st).set i (Vp S.len))
theorem Apw (hN:X.N.Nodup) (hi:X.N[i]?=some x:=by kernel_rfl) (hx:Loc X.env.scope x:=by exact Bgn (by kernel_rfl)) (hs':Pa (.Dict [] [] dp)=true:=by rfl) (hf:X.fn x=true\/X.env.scope.names.lookup x=some .local:=by exact Bgn (by kernel_rfl)) :
  QS X (.Assign [.Name x p'] (.Dict [] [] dp) pos) (Ah2 i):=⟨Ahh hN hi hx (Mr hs') hf⟩
theorem Aj1 (hr:Room k X.A) (ha:QD X a f) (hb:QD X b g) (hs':Azz b=true:=by rfl):QD X (.Subscript a b pos) (f2 An5 f g):=⟨Avj hr ha.out hb.out (Xd hs')⟩
theorem Adm (hr:Room k X.A) (he:QD X e f) (ho:QD X a fo) (hi:QD X b fi) (ha:∀ v,assign (.Subscript a b p) X.env v=(do
   let ov <- holding [v] (eval a X.env)
   let iv <- holding [v,ov] (eval b X.env)
   standAt p
   holding [v,ov,iv] (setItem ov iv v)
   release [v,ov,iv] []):=by intro _;rfl) (hs':Pa e=true:=by rfl) (hw:swappedStores [.Subscript a b p] e X.env=pure none:=by kernel_rfl) (h1:(assignEach [.Subscript a b p] X.env).map (·.2)=[assign (.Subscript a b p) X.env]:=by kernel_rfl) :
  QS X (.Assign [.Subscript a b p] e pos) (Zr f fo fi):=⟨Ahi hr he.out ho.out hi.out ha (Pn hs') hw h1⟩
end
end
end ML
end L2
end S_ML12
section S_ML15
namespace L2
namespace ML
open PySem PySem.Spec PyProof.Rows
namespace RV
section
variable {prog:Program}{w:World}{A:Around}{E:Value->Shared->Prop}{s:Shared}
end
section
variable {prog:Program}{w:World}{A:Around}{s:Shared}{R:Result->Shared->Prop}
end
section
variable {prog:Program}{w:World}{A:Around}{E:Value->Shared->Prop}{s:Shared}
end
end RV
section
variable {X:Cx}{e:Expr}{pos pos' p p':Pos}
end
namespace RL
section
variable {prog:Program}{w:World}{A:Around}{E:Value->Shared->Prop}{s:Shared}
end
section
variable {prog:Program}{w:World}{A:Around}{s:Shared}{R:Result->Shared->Prop}
end
section
variable {prog:Program}{w:World}{A:Around}{E:Value->Shared->Prop}{s:Shared}
end
end RL
section
variable {X:Cx}{e:Expr}{pos pos' p p':Pos}
end
section
variable {X:Cx}{a e:Expr}{apos cpos:Pos}
end
section
variable {X:Cx}{a e:Expr}{apos cpos spos:Pos}
end
end ML
end L2
end S_ML15
section S_ML19
namespace L2
namespace ML
open PySem PySem.Spec PyProof.Rows PySem.SeqAt
open PySem.W (KasT kas_sort katRev KatLex)
noncomputable def evO {α:Type} (c:Nat->Nat->Option Bool):KasT α->Option α
 |.ret a=>some a
 |.ask i j k=>(c i j).bind fun b=>evO c (k b)
theorem Ai6 {s:Shared} (hc:∀ i j b C,c i j=some b->C b s->cmp i j C s) :
  ∀ (t:KasT α) {a:α},evO c t=some a->Q a s->t.kasWp cmp Q s
 |.ret _,_,h,q=>by cases h;exact q
 |.ask i j k,a,h,q=>by
  obtain⟨b,h1,h2⟩:=bind_some h
  exact hc i j b _ h1 (Ai6 hc (k b) h2 q)
theorem Ano {prog:Program}{w:World}{A:Around}{s:Shared}{fl fin:Bool}{Q:Bool->Shared->Prop}{n1 n2:Nat} (hf:fin=decide (n1 < n2)) {us ws:List Value}{k:Bool} (h:LexAt A s us ws k) :
  ∀ i:Nat,0 < i->us.length+n2=ws.length+n1->Q k s->KatLex prog w A fl fin Q (us.zip ws) i s:=by
 induction h with
 |nil =>
  intro i hi hn q
  show Q fin s
  rw[hf,Be4 (by simp at hn;lia)];exact q
 |short =>
  intro i hi hn q
  show Q fin s
  rw[hf,Bf0 (by simp at hn;lia)];exact q
 |long =>
  intro i hi hn q
  show Q fin s
  rw[hf,Be4 (by simp at hn;lia)];exact q
 |same he _ ih =>
  intro i hi hn q
  exact W.kat_cons (he prog w _ _ (W.kat_yes (ih (i+1) (Nat.succ_pos _) (by simp at hn;lia) q)))
 |diff he hk =>
  intro i hi hn q
  refine W.kat_cons (he prog w _ _ (W.kat_no ?_))
  rw[show (fl&&i == 0)=false by cases fl<;>simp;lia]
  exact W.kat_one _ _ (hk prog w _ _ q)
noncomputable def Ajf:D->Bool
 |.tup (.int _::_)=>true
 |_=>false
theorem U9 {d:D} (h:Ajf d=true):∃ i ds,d=.tup (.int i::ds):=by
 cases d with
 |tup es =>
  cases es with
  |nil=>exact Ce h
  |cons e ds =>
   cases e with
   |int i=>exact⟨i,ds,rfl⟩
   |_=>exact Ce h
 |_=>exact Ce h
section
variable {X:Cx}{pins:List (Addr×Obj)}{σ:St}{H:Hp}{s:Shared}{μ:List Addr}{B:Addr->Prop}
theorem Anj (I:Inv X pins σ H s) {E:Value->Shared->Prop} (r:Rep X.K H μ B (.tup (.int i::ds)) v) (r':Rep X.K H μ B (.tup (.int j::es)) v') (n:Ba ds=true) (n':Ba es=true) (ru:RelV v u) (ru':RelV v' u') (hu:A.units+Ei ds+Ei es+1 < cLine) (h:Ja (.int i::ds) (.int j::es)=some b) (q:Q b s):wpAny (model X.prog X.w) A (keyLt' (tuples' true) u u') Q E s:=by
 cases r with
 |tup h1 r1 =>
 cases r' with
 |tup h2 r2 =>
 cases ru
 cases ru'
 obtain⟨its,rv,⟨o,ho,hc,nn,hd⟩,hz⟩:=I.tuple h1
 obtain⟨its',rv',⟨o',ho',hc',nn',hd'⟩,hz'⟩:=I.tuple h2
 cases r1 with
 |cons x1 xs1 =>
 cases r2 with
 |cons x2 xs2 =>
 cases rv with
 |cons q1 qs1 =>
 cases rv' with
 |cons q2 qs2 =>
 have he:=Aav (A:=A) I x1 x2 rfl rfl q1 q2 (by rw[show dep (D.int j)=0 by simp[dep]];lia)
 cases x1
 cases x2
 obtain⟨t,rfl⟩:=q1
 obtain⟨t',rfl⟩:=q2
 refine W.kat_lt ho hd ho' hd' (W.kat_cons (he X.prog X.w _ _ ?_))
 rw[Ja] at h
 by_cases hdq:deq (.int i) (.int j)=true
 ·rw[Bef hdq] at h
  rw[hdq]
  exact W.kat_yes (Ano rfl (J6 (A:=A) I ds es xs1 xs2 n n' qs1 qs2 (by lia) h) 1 (by decide) (by simp;lia) q)
 ·rw[Beg hdq,ltD] at h
  cases h
  rw[Bool.eq_false_iff.mpr hdq]
  exact W.kat_no (oneLt_int q)
theorem Tc (I:Inv X pins σ H s):∀ {ks:List D}{vs:List V}{us:List Value},Reps X.K H μ B ks vs->Vals vs us->ks.all Ajf=true->∃ fs,W.KatTups s.heap us fs/\fs.length=us.length/\∀ f∈fs,∃ i t,f=Value.int i t
 |_,_,_,.nil,.nil,_=>⟨[],.nil,rfl,fun _ h=>nomatch h⟩
 |_,_,_,.cons r rs,.cons q qs,h=>by
  rw[Bfi,Bet] at h
  obtain⟨i,ds,rfl⟩:=U9 h.1
  obtain⟨fs,h1,h2,h3⟩:=Tc I rs qs h.2
  cases r with
  |tup e1 r1 =>
  cases q
  obtain⟨its,rv,⟨o,ho,hc,nn,hd⟩,hz⟩:=I.tuple e1
  cases r1 with
  |cons x1 _ =>
  cases rv with
  |cons q1 _ =>
  cases x1
  obtain⟨t,rfl⟩:=q1
  refine⟨.int i t::fs,W.KatTups.cons ho hc hd (by simp) h1,by simp[h2],fun f hf=>?_⟩
  rcases List.mem_cons.mp hf with rfl|hf
  ·exact⟨i,t,rfl⟩
  ·exact h3 f hf
theorem Inv.setPin {pre post:List (Addr×Obj)}{a:Addr}{o o':Obj}{h':Heap} (I:Inv X (pre++(a,o)::post) σ H s) (ha:X.s₀.heap.objs.size<=a) (hx:∀ p∈X.pn++(pre++post),p.1≠a)
  (k:∀ b u,b≠a->s.heap.get? b=some u->h'.get? b=some u) (ho:h'.get? a=some o') (hc:∀ v,o'.data≠.cell v):Inv X (pre++(a,o')::post) σ H { s with heap:=h' }:=by
 obtain⟨e,n,ne,nf,d⟩:=I.pin (a,o) (Bei _ (Bei _ (Beb ..)))
 have sub:∀ p∈pre++post,p∈pre++(a,o)::post:=fun p hp=>(List.mem_append.mp hp).elim (fun z=>Bfd _ z) fun z=>Bei _ (Bed _ z)
 have I0:Inv X (pre++post) σ H s:=I.pins_of fun p hp=>I.pin p (Bei _ (sub p hp))
 have I1:=I0.turned (t':=s.toks) k n ne (.inr ha) (fun x c hl z=>by
  obtain⟨v,o2,e2,d2⟩:=I.cell x c hl
  rw[z] at e2
  rw[show s.heap.get? a=some o from e] at e2
  cases e2
  exact d v d2) hx
 refine I1.pins_of fun p hp=>?_
 rcases List.mem_append.mp hp with z|z
 ·exact I1.pin p (Bei _ (Bfd _ z))
 ·rcases List.mem_cons.mp z with rfl|z
  ·exact⟨ho,n,ne,nf,hc⟩
  ·exact I1.pin p (Bei _ (Bei _ z))
theorem Inv.adopt (I:Inv X ((a,seqObj "list" its.toArray n)::pins) σ H s) (ha:X.s₀.heap.objs.size<=a) (hx:∀ p∈X.pn++pins,p.1≠a) (rv:Vals ys its) (hz:ys.length<=sizeLine) :
  Inv X pins σ (upd H a (.lst ys)) s:=by
 obtain⟨e,hn,ne,nf,d⟩:=I.pin (a,seqObj "list" its.toArray n) (Bei _ (Beb ..))
 have I0:Inv X pins σ H s:=I.pins_of fun p hp=>I.pin p (Bei _ (Bed _ hp))
 have up:∀ b u,H b=some u->upd H a (.lst ys) b=some u:=fun b u q=>by rw[A0 (Az q hn)];exact q
 refine I0.step (g':=s.gens) (t':=s.toks) (d':=s.drawn) (h':=s.heap) (ch:=[a]) (fun b hb=>?_) (fun b o _ _ _ q _=>q) (fun b o _ _ _ q _=>⟨o.slots,q⟩) (fun b o hc q z=>?_) (fun b o _ q=>⟨o,q⟩) (fun b xs q=>up _ _ q) (fun b o u q=>up _ _ q) (fun b ps q=>⟨#[],by rw[up _ _ q];simp⟩) (fun m q=>q) (fun b u q=>?_) I0.bare
 ·have e':b=a:=by simpa using hb
  subst e'
  refine⟨.inr ha,ne,fun x c hl z=>?_,hx⟩
  obtain⟨v,o2,e2,d2⟩:=I.cell x c hl
  rw[z] at e2
  have e3:s.heap.get? b=some (seqObj "list" its.toArray n):=e
  rw[e3] at e2
  cases e2
  exact d v d2
 ·rw[A0 (fun z=>hc (by simp[z]))];exact z
 ·by_cases hb:b=a
  ·subst hb
   rw[A8] at q
   cases q
   exact⟨hz,its,n,rv,e⟩
  ·rw[A0 hb] at q
   exact (I0.hok b u q).stay (fun c v _ z=>z) (fun c z=>up _ _ z) (fun c xs z=>by
    rcases z with z|⟨o,z⟩
    ·exact .inl (up _ _ z)
    ·exact .inr ⟨o,up _ _ z⟩) fun c x w z=>up _ _ z
end
def Oz (fn:List D->Option D) (m:MH):List D->Option (List D)
 |[]=>some []
 |d::ds=>(Ew 1 fn [d] m).bind fun k=>(Oz fn m ds).bind fun ks=>some (k::ks)
theorem Tb:∀ {ds ks:List D},Oz fn m ds=some ks->ks.length=ds.length
 |[],_,h=>by cases h;rfl
 |d::ds,_,h=>by
  obtain⟨k,h1,h⟩:=bind_some h
  obtain⟨ks,h2,h⟩:=bind_some h
  cases h
  rw[Beh,Beh,Tb h2]
section
variable {X:Cx}{pins:List (Addr×Obj)}{σ:St}{H:Hp}{s:Shared}{μ:List Addr}{m:MH}{k:Nat}{f:Addr}{fd:FuncData}{ps:List Str}{fn:List D->Option D}{A':Around}
theorem Ap2 {us:List Value}{vs:List V}{Q:VK} (F:FnOk X.prog X.w X.K X.mg X.base CX0 k f fd ps (spP X.K 1 fn)) (hr:Room k A') (he:Env0 X.prog X.w X.K X.mg X.base A' X.stack s H) (hb:Binds X.K fd ps []) (I:Inv X pins σ H s) (r:Vals vs us) (h:spP X.K 1 fn vs H Q E0) :
  wpAny (model X.prog X.w) A' (call (.ref f) us) (EP X pins σ Q) (fun _ _=>False) s:=by
 have hl:us.length=ps.length:=by rw[<- r.length];exact F.len _ _ _ _ h
 have hb':=hb s us I.kIn (by simpa using hl)
 rw[Bev] at hb'
 refine wpAny_call (codeAny_mono (F.run A' X.stack s H ⟨us,[]⟩ us vs Q E0 hr he hb' r h) fun r s' hq=>?_)
 cases r with
 |error e=>exact hq.elim
 |ok fl =>
  cases fl with
  |ret u=>exact I.after hq
  |next=>exact False.elim hq
  |brk=>exact False.elim hq
  |cont=>exact False.elim hq
def SK (X:Cx) (pins:List (Addr×Obj)) (σ:St) (H:Hp) (μ:List Addr) (kS D0:Addr) (e1:Nat) (keys:List D) (s':Shared):Prop :=
 ∃ H1 e kvs us,Same H H1/\Inv X ((kS,seqObj "list" (List.toArray us) e)::(D0,seqObj "list" #[] e1)::pins) σ H1 s'/\Vals kvs us/\Reps X.K H1 μ (·∈μ) keys kvs
theorem Xj {E:Value->Shared->Prop} (F:FnOk X.prog X.w X.K X.mg X.base CX0 k f fd ps (spP X.K 1 fn)) (hr:Room k A') (hA:∀ s H,Env0 X.prog X.w X.K X.mg X.base X.A X.stack s H->Env0 X.prog X.w X.K X.mg X.base A' X.stack s H) (hb:Binds X.K fd ps []) (S:Sim X.K H μ m) (hk:X.s₀.heap.objs.size<=kS) (hx:∀ p∈X.pn++pins,p.1≠kS) (hne:D0≠kS) (hbd:∀ x (s:Shared) (R:ForInStep PUnit->Shared->Prop),wpAny (model X.prog X.w) A' (call (.ref f) [x]) (fun k s1=>∃ us e,s1.heap.get? kS=some (seqObj "list" (List.toArray us) e)/\us.length < 64/\R (.yield ⟨⟩) { s1 with heap:=s1.heap.update kS (Obj.mapSeq (·.push k)) }) (fun _ _=>False) s->wpAny (model X.prog X.w) A' (body x ⟨⟩) R E s) :
  ∀ (ds:List D) {xs:List V}{us:List Value}{ks dn:List D}{s:Shared},Reps X.K H μ (·∈μ) ds xs->Vals xs us->Oz fn m ds=some ks->dn.length+ds.length < 64->SK X pins σ H μ kS D0 e1 dn s ->
   wpAny (model X.prog X.w) A' (forIn us PUnit.unit body) (fun _ s'=>SK X pins σ H μ kS D0 e1 (dn++ks) s') E s
 |[],xs,us,ks,dn,s,rs,rv,hK,hl,st=>by
  cases rs
  cases rv
  cases hK
  rw[List.forIn_nil,Bev]
  exact Bek st
 |d::ds,xs,us,ks,dn,s,rs,rv,hK,hl,st=>by
  cases rs with
  |@cons _ v _ vs r rs =>
  cases rv with
  |@cons _ u _ us ru rus =>
  obtain⟨key,h1,h⟩:=bind_some hK
  obtain⟨ks',h2,h⟩:=bind_some h
  cases h
  obtain⟨H1,e,kvs,ws,s1,I,rk,rks⟩:=st
  have S1:=S.same s1
  obtain⟨ds',h3,h4⟩:=bind_some h1
  split at h4
  ·rename_i hl1
   rw[List.forIn_cons]
   refine Bea (hbd u s _ (Bfr (Ap2 (us:=[u]) (vs:=[v]) (Q:=fun v' H'=>Same H1 H'/\Rep X.K H' μ (·∈μ) key v') F hr (hA _ _ I.env0) hb I (.cons ru .nil) ⟨ds',key,Cp S1 (.cons (r.same s1) .nil) h3,hl1,h4,fun v' H' s' r'=>⟨s',Rep.ofCall S1 r'⟩⟩) (fun kv s2 hq=>?_) fun _ _ z=>z))
   obtain⟨v',H2,I2,rv2,s2',r2⟩:=hq
   have pk:=I2.pin (kS,_) (Bei _ (Beb ..))
   have hln:=rks.length
   have hln2:=rk.length
   refine⟨ws,e,pk.1,by rw[Beh] at hl;lia,?_⟩
   show wpAny (model X.prog X.w) A' (forIn us PUnit.unit body) _ E _
   rw[show dn++key::ks'=(dn++[key])++ks' by simp]
   refine Xj F hr hA hb S hk hx hne hbd ds rs rus h2 (by rw[Bep,Bga];rw[Beh] at hl;lia) ?_
   have ea:(List.toArray ws).push kv=List.toArray (ws++[kv]):=by simp
   obtain⟨c2,hc2⟩:∃ c2,(s2.heap.update kS (Obj.mapSeq (·.push kv))).get? kS=some (seqObj "list" (List.toArray (ws++[kv])) c2):=⟨_,by rw[<- ea];exact get?_update_seq pk.1 (·.push kv)⟩
   refine⟨H2,c2,kvs++[v'],ws++[kv],s1.trans s2',?_,Vals.append rk (.cons rv2 .nil),Reps.append (rks.same s2') (.cons r2 .nil)⟩
   refine Inv.setPin (pre:=[]) I2 hk (fun p hp=>?_) (fun b o hb q=>(Bfj _ _ (Bgj hb)).trans q) hc2 (fun v z=>by cases z)
   rcases List.mem_append.mp hp with z|z
   ·exact hx p (Bfd _ z)
   ·rcases List.mem_cons.mp z with rfl|z
    ·exact hne
    ·exact hx p (Bei _ z)
  ·exact Ak h4
end
def T9 (b:Bool) (ds ks:List D):Option (List D):=if ds.length < 2 then some ds else
 (evO (fun i j=>ltD ((katRev b ks).getD i .non) ((katRev b ks).getD j .non)) (kas_sort ds.length)).bind fun p=>some (katRev b (p.toList.map fun i=>(katRev b ds).getD i .non))
theorem Vals.getN (r:Vals xs us) (i:Nat):RelV (xs.getD i .non) (us.getD i Value.none):=by
 have hl:=r.length
 by_cases h:i < xs.length
 ·obtain⟨u,h1,h2⟩:=r.get (i:=i) (x:=xs[i]) (by simp[h])
  rw[Beo,Beo,h1,Beu h];exact h2
 ·rw[Beo,Beo,Be3 (by lia),Be3 (by lia)];rfl
theorem Reps.getN {K:W.Frag}{H:Hp}{μ:List Addr}{B:Addr->Prop}{ds:List D}{xs:List V} (r:Reps K H μ B ds xs) (i:Nat):Rep K H μ B (ds.getD i .non) (xs.getD i .non):=by
 have hl:=r.length
 by_cases h:i < ds.length
 ·obtain⟨v,h1,h2⟩:=r.get (i:=i) (d:=ds[i]) (by simp[h])
  rw[Beo,Beo,h1,Beu h];exact h2
 ·rw[Beo,Beo,Be3 (by lia),Be3 (by lia)];exact .non
theorem Vals.mapN (r:Vals xs us):∀ l:List Nat,Vals (l.map fun i=>xs.getD i .non) (l.map fun i=>us.getD i Value.none)
 |[]=>.nil
 |i::l=>.cons (Vals.getN r i) (Vals.mapN r l)
theorem Reps.mapN {K:W.Frag}{H:Hp}{μ:List Addr}{B:Addr->Prop}{ds:List D}{xs:List V} (r:Reps K H μ B ds xs):∀ l:List Nat,Reps K H μ B (l.map fun i=>ds.getD i .non) (l.map fun i=>xs.getD i .non)
 |[]=>.nil
 |i::l=>.cons (Reps.getN r i) (Reps.mapN r l)
theorem Vals.turn (r:Vals xs us) (b:Bool):Vals (katRev b xs) (katRev b us):=by
 cases b with
 |false=>exact r
 |true=>exact r.reverse
theorem Reps.turn {K:W.Frag}{H:Hp}{μ:List Addr}{B:Addr->Prop}{ds:List D}{xs:List V} (r:Reps K H μ B ds xs) (b:Bool):Reps K H μ B (katRev b ds) (katRev b xs):=by
 cases b with
 |false=>exact r
 |true=>exact r.reverse
theorem Aip {l:List α} (h:x∈katRev b l):x∈l:=by
 cases b with
 |false=>exact h
 |true=>exact List.mem_reverse.mp h
theorem Uz:∀ {ds:List D}{d:D},d∈ds->dep d<=Ei ds
 |_::_,_,.head _=>by rw[Ei];lia
 |_::_,_,.tail _ h=>by have:=Uz h;rw[Ei];lia
section
variable {X:Cx}{pins:List (Addr×Obj)}{σ:St}{H:Hp}{s:Shared}{μ:List Addr}{m:MH}{k:Nat}{f:Addr}{fd:FuncData}{ps:List Str}{fn:List D->Option D}{A':Around}
theorem Afj (I:Inv X pins σ H s) {ks:List D}{kvs:List V}{us:List Value} (rk:Vals kvs us) (rks:Reps X.K H μ (·∈μ) ks kvs) (hI:ks.all Ajf=true) (hn:Ba ks=true) (hd:Ei ks<=20) (hu:A'.units+50 < cLine) (b:Bool) (i j:Nat) (c:Bool) (C:Bool->Shared->Prop)
  (h:ltD ((katRev b ks).getD i .non) ((katRev b ks).getD j .non)=some c) (q:C c s):W.kas_ask X.prog X.w A' (tuples' true) (katRev b us) i j C s:=by
 have key:∀ i,(katRev b ks).getD i .non=.non\/(katRev b ks).getD i .non∈ks:=fun i=>by
  by_cases h:i < (katRev b ks).length
  ·right
   rw[Beo,Beu h]
   exact Aip (Bfp h)
  ·left
   rw[Beo,Be3 (by lia)];rfl
 have r1:=Reps.getN (Reps.turn rks b) i
 have r2:=Reps.getN (Reps.turn rks b) j
 have v1:=Vals.getN (Vals.turn rk b) i
 have v2:=Vals.getN (Vals.turn rk b) j
 have k1:=key i
 have k2:=key j
 generalize (katRev b ks).getD i .non=x at h r1 k1
 generalize (katRev b ks).getD j .non=y at h r2 k2
 rcases k1 with rfl|k1
 ·simp[ltD] at h
 ·obtain⟨i1,ds,rfl⟩:=U9 (List.all_eq_true.mp hI _ k1)
  rcases k2 with rfl|k2
  ·simp[ltD] at h
  ·obtain⟨i2,es,rfl⟩:=U9 (List.all_eq_true.mp hI _ k2)
   have d1:=Uz k1
   have d2:=Uz k2
   have n1:=Dq hn k1
   have n2:=Dq hn k2
   rw[dep,Ei] at d1 d2
   rw[Cm,Ba,Bet] at n1 n2
   rw[ltD] at h
   exact Anj I r1 r2 n1.2 n2.2 v1 v2 (by lia) h q
end
end ML
end L2
end S_ML19
section S_ML20
namespace L2
namespace ML
open PySem PySem.Spec PyProof.Rows PySem.SeqAt
open PySem.W (KasT kas_sort katRev KatLex)
section
variable {X:Cx}{pins:List (Addr×Obj)}{σ:St}{H H1:Hp}{s:Shared}{μ:List Addr}{m:MH}{k:Nat}{f:Addr}{fd:FuncData}{ps:List Str}{fn:List D->Option D}{A':Around}{kS D0:Addr}{b:Bool}{e e1:Nat}{P:PySem.Fin->Shared->Prop}{E:Value->Shared->Prop}
theorem Aoz (h:∀ p∈X.pn++pl,p.1≠a) (hc:c≠a):∀ p∈X.pn++((c,o)::pl),p.1≠a:=fun p hp=>by
 rcases List.mem_append.mp hp with z|z
 ·exact h p (Bfd _ z)
 ·rcases List.mem_cons.mp z with rfl|z
  ·exact hc
  ·exact h p (Bei _ z)
theorem N8 {st:SortSt}{us outv:List Value} (hout:(arrOf st).map (·.2)=List.toArray outv) (hz:outv.length < 64) (hkz:us.length < 64) (hf:failedOf st=none) (I:Inv X ((kS,seqObj "list" (List.toArray us) e)::(D0,seqObj "list" #[] e1)::pins) σ H1 s)
  (hk:X.s₀.heap.objs.size<=kS) (hD:X.s₀.heap.objs.size<=D0) (hx:∀ p∈X.pn++pins,p.1≠kS) (hy:∀ p∈X.pn++pins,p.1≠D0) (hne:D0≠kS)
  (fin:∀ s' c,Inv X ((D0,seqObj "list" (List.toArray (katRev b outv)) c)::pins) σ H1 s'->P (.done (.ret .none)) s'):wpAny (model X.prog X.w) A' (ksk_tail D0 b e1 (.ref kS) st) P E s:=by
 have pk:=I.pin (kS,seqObj "list" (List.toArray us) e) (Bei _ (Beb ..))
 obtain⟨ck,hck⟩:∃ ck,(s.heap.update kS (Obj.mapSeq fun _=>(#[]:Array Value))).get? kS=some (seqObj "list" #[] ck):=⟨_,get?_update_seq pk.1 fun _=>#[]⟩
 have Ia:=Inv.setPin (pre:=[]) I hk (Aoz hx hne) (fun c o hc q=>(Bfj _ _ (Bgj hc)).trans q) hck (fun v z=>by cases z)
 have Ib:Inv X ((D0,seqObj "list" #[] e1)::pins) σ H1 { s with heap:=s.heap.update kS (Obj.mapSeq fun _=>(#[]:Array Value)) }:=Ia.pins_of fun p hp=>Ia.pin p (Bei _ (Bed _ hp))
 have pd:=Ib.pin (D0,seqObj "list" #[] e1) (Bei _ (Beb ..))
 obtain⟨c2,hc2⟩:∃ c2,((s.heap.update kS (Obj.mapSeq fun _=>(#[]:Array Value))).update D0 (Obj.mapSeq fun _=>List.toArray (katRev b outv))).get? D0=some (seqObj "list" (List.toArray (katRev b outv)) c2):=⟨_,get?_update_seq pd.1 fun _=>List.toArray (katRev b outv)⟩
 have Ic:=Inv.setPin (pre:=[]) Ib hD hy (fun c o hc q=>(Bfj _ _ (Bgj hc)).trans q) hc2 (fun v z=>by cases z)
 have hsz:(List.toArray (katRev b outv)).size=outv.length:=by rw[Bem,W.kat_len]
 have hline:sizeLine=16777216:=Bf4
 unfold ksk_tail
 try dsimp only
 rw[hout,W.kat_outs]
 refine Bea (listUpdate_at pk.1 rfl (Bea (wpAny_letGo (Bea (seqEpoch_at pd.1 rfl (Bea (listUpdate_at pd.1 rfl ?_ (Bfe _) (by rw[hsz];lia))))))) (by rw[Bem];lia) (Bfe _))
 rw[hf]
 simp only[bne_self_eq_false,Bfz,Bgm]
 exact Bek (fin _ c2 Ic)
theorem Abo (i:Int) (t:Tok):W.Looks M h (typeOf (.int i t)) (.type "int"):=W.Looks.of_pure rfl
theorem Aat {ds ks out:List D} (I:Inv X ((kS,seqObj "list" (List.toArray us) e)::(D0,seqObj "list" #[] e1)::pins) σ H1 s) (hk:X.s₀.heap.objs.size<=kS) (hD:X.s₀.heap.objs.size<=D0) (hx:∀ p∈X.pn++pins,p.1≠kS) (hy:∀ p∈X.pn++pins,p.1≠D0) (hne:D0≠kS) (ri:Vals xs its) (rs:Reps X.K H1 μ (·∈μ) ds xs) (rk:Vals kvs us) (rks:Reps X.K H1 μ (·∈μ) ks kvs) (hl:ks.length=ds.length) (h64:ds.length < 64) (hI:ks.all Ajf=true) (hn:Ba ks=true) (hd:Ei ks<=20) (hu:A'.units+50 < cLine) (ho:T9 b ds ks=some out) (fin:∀ s' c ys ws,Inv X ((D0,seqObj "list" (List.toArray ws) c)::pins) σ H1 s'->Vals ys ws->Reps X.K H1 μ (·∈μ) out ys->P (.done (.ret .none)) s'):wpAny (model X.prog X.w) A' (ksk_end D0 b its.toArray e1 (.ref kS) (List.toArray us)) P E s:=by
 have l1:=ri.length
 have l2:=rs.length
 have l3:=rk.length
 have l4:=rks.length
 have lu:us.length=its.length:=by lia
 have told:∀ t:Sem PySem.Fin,wpAny (model X.prog X.w) A' t P E s->wpAny (model X.prog X.w) A' (if b=true then (do let _ <- rule "list.sort.reverse";t) else t) P E s:=fun t ht=>by
  split
  ·exact Bea (wpAny_rule ht)
  ·exact ht
 unfold ksk_end
 try dsimp only
 refine told _ ?_
 unfold T9 at ho
 by_cases h2:its.toArray.size < 2
 ·rw[Bef h2,Bef h2]
  rw[Bem] at h2
  rw[Bef (by lia)] at ho
  cases ho
  refine Bea (Bek ?_)
  rw[StateT.run_pure]
  refine Bea (Bek ?_)
  try dsimp only
  rw[W.kat_pairs b lu]
  refine N8 (outv:=katRev b its) (b:=b) ?_ (by rw[W.kat_len];lia) (by lia) rfl I hk hD hx hy hne fun s' c I'=>fin s' c xs its ?_ ri rs
  ·show (((List.toArray (katRev b us)).zip (List.toArray (katRev b its))).map (·.2))=_
   apply Array.toList_inj.mp
   rw[Array.toList_map,ksk_zip]
   exact List.map_snd_zip (by rw[W.kat_len,W.kat_len];lia)
  ·have e2:katRev b (katRev b its)=its:=by cases b<;>simp[katRev]
   rw[e2] at I'
   exact I'
 ·rw[Beg h2,Beg h2]
  rw[Bem] at h2
  rw[Beg (by lia)] at ho
  obtain⟨p,hp,ho⟩:=bind_some ho
  cases ho
  obtain⟨fs,ht,hfl,hfi⟩:=Tc I rks rk hI
  refine Bea (W.kat_kind (T:=.type "int") ht (by lia) (fun v hv=>?_) (by decide) ?_)
  ·obtain⟨i,t,rfl⟩:=hfi v hv
   exact Abo i t
  rw[W.kat_pairs b lu]
  have lr:(katRev b us).length=(katRev b its).length:=by rw[W.kat_len,W.kat_len,lu]
  have hw:(kas_sort (katRev b its).length).kasWp (W.kas_ask X.prog X.w A' (tuples' true) (katRev b us)) (fun p' s'=>p'=p/\s'=s) s:=by
   rw[W.kat_len,show its.length=ds.length by lia]
   exact Ai6 (fun i j c C h q=>Afj I rk rks hI hn hd hu b i j c C h q) _ hp ⟨rfl,rfl⟩
  refine Bea (Bfr (W.kat_run (Q:=fun st' s'=>s'=s/\p.size=(katRev b its).length/\arrOf st'=p.map (W.kas_item ((List.toArray (katRev b us)).zip (List.toArray (katRev b its))))/\failedOf st'=none) lr (by rw[W.kat_len];lia) (by rw[W.kat_len];lia)
   (fun p' st' s' a1 a2 a3 ⟨a4,a5⟩=>by subst a4;exact⟨a5,a1,a2,a3⟩) hw) ?_ fun _ _ z=>z)
  rintro ⟨⟨⟩,st'⟩ s' ⟨hs,hpz,har,hf⟩
  replace hs:s'=s:=hs
  subst hs
  try dsimp only
  refine N8 (b:=b) (W.kat_snds lr har) (by rw[Bel,Bfu,hpz,W.kat_len];lia) (by lia) hf I hk hD hx hy hne fun s' c I'=>fin s' c (katRev b (p.toList.map fun i=>(katRev b xs).getD i .non)) _ I' ?_ ?_
  ·exact Vals.turn (Vals.mapN (Vals.turn ri b) _) b
  ·exact Reps.turn (Reps.mapN (Reps.turn rs b) _) b
theorem Zv {ds ks out:List D} (F:FnOk X.prog X.w X.K X.mg X.base CX0 k f fd ps (spP X.K 1 fn)) (hr:Room k A') (hA:∀ s H,Env0 X.prog X.w X.K X.mg X.base X.A X.stack s H->Env0 X.prog X.w X.K X.mg X.base A' X.stack s H) (hb:Binds X.K fd ps []) (I:Inv X ((D0,seqObj "list" its.toArray n)::pins) σ H s) (S:Sim X.K H μ m) (hD:X.s₀.heap.objs.size<=D0) (hy:∀ p∈X.pn++pins,p.1≠D0) (ri:Vals xs its) (rs:Reps X.K H μ (·∈μ) ds xs) (hK:Oz fn m ds=some ks) (h64:ds.length < 64) (hI:ks.all Ajf=true) (hn:Ba ks=true) (hd:Ei ks<=20) (ho:T9 b ds ks=some out) (fin:∀ s' H1 c ys ws,Same H H1->Inv X ((D0,seqObj "list" (List.toArray ws) c)::pins) σ H1 s'->Vals ys ws->Reps X.K H1 μ (·∈μ) out ys->P (.done (.ret .none)) s'):wpAny (model X.prog X.w) A' (ksk_tree D0 (.ref f) b) P E s:=by
 have l1:=ri.length
 have l2:=rs.length
 have hline:sizeLine=16777216:=Bf4
 have pd:=I.pin (D0,seqObj "list" its.toArray n) (Bei _ (Beb ..))
 have hd0:s.heap.get? D0=some (seqObj "list" its.toArray n):=pd.1
 have hdl:D0 < s.heap.objs.size:=Ben hd0
 obtain⟨e1,ho1⟩:∃ e1,(s.heap.update D0 (Obj.mapSeq fun _=>(#[]:Array Value))).get? D0=some (seqObj "list" #[] e1):=⟨_,get?_update_seq hd0 fun _=>#[]⟩
 have Ia:=Inv.setPin (pre:=[]) I hD hy (fun c o hc q=>(Bfj _ _ (Bgj hc)).trans q) ho1 (fun v z=>by cases z)
 have hs2:s.heap.objs.size<=((s.heap.update D0 (Obj.mapSeq fun _=>(#[]:Array Value))).push (seqObj "tuple" its.toArray 0)).objs.size:=by rw[size_push',Heap.size_update];exact Nat.le_succ _
 generalize hkS:((s.heap.update D0 (Obj.mapSeq fun _=>(#[]:Array Value))).push (seqObj "tuple" its.toArray 0)).objs.size=kS at hs2
 have Ib:=Ia.kept (t':=s.toks) (h':=((s.heap.update D0 (Obj.mapSeq fun _=>(#[]:Array Value))).push (seqObj "tuple" its.toArray 0)).push (seqObj "list" #[] 0)) fun c o q=>Bec _ (Bec _ q)
 have hx:∀ p∈X.pn++pins,p.1≠kS:=fun p hp=>Be0 (Ber (Ben (I.pin p ((List.mem_append.mp hp).elim (fun z=>Bfd _ z) fun z=>Bei _ (Bed _ z))).1) hs2)
 have hne:D0≠kS:=Be0 (Ber hdl hs2)
 have hk:X.s₀.heap.objs.size<=kS:=Bez I.sz hs2
 have hgk:(((s.heap.update D0 (Obj.mapSeq fun _=>(#[]:Array Value))).push (seqObj "tuple" its.toArray 0)).push (seqObj "list" #[] 0)).get? kS=some (seqObj "list" #[] 0):=by rw[<- hkS];exact Beq _ rfl
 have Ic:Inv X ((kS,seqObj "list" (List.toArray []) 0)::(D0,seqObj "list" #[] e1)::pins) σ H { s with heap:=((s.heap.update D0 (Obj.mapSeq fun _=>(#[]:Array Value))).push (seqObj "tuple" its.toArray 0)).push (seqObj "list" #[] 0) }:=Ib.pins_of fun p hp=>by
  rcases List.mem_cons.mp hp with rfl|hp
  ·exact⟨hgk,I.hok.fresh hs2,Bg9 (Ber I.lt hs2),I.nofs hs2,fun v z=>by cases z⟩
  ·exact Ib.pin p (Bei _ hp)
 unfold ksk_tree
 refine Bea (listItems_at hd0 rfl (Bea (listUpdate_at hd0 rfl (Bea (seqEpoch_at ho1 rfl (Bea (wpAny_newTuple (Bea (wpAny_newList (Bgi ?_) (Bfe _))) (by show its.length<=_;lia))))) (by rw[Bem];lia) (Bfe _))))
 show wpAny (model X.prog X.w) A' (ksk_rest D0 (.ref f) b its.toArray e1 (.ref ((s.heap.update D0 (Obj.mapSeq fun _=>(#[]:Array Value))).push (seqObj "tuple" its.toArray 0)).objs.size)) P E { s with heap:=((s.heap.update D0 (Obj.mapSeq fun _=>(#[]:Array Value))).push (seqObj "tuple" its.toArray 0)).push (seqObj "list" #[] 0) }
 rw[hkS]
 unfold ksk_rest
 refine Bea (wpAny_rule ?_)
 first
  |rw[List.forIn_toArray]
  |rw[<- Array.forIn_toList]
 refine Bea (Bfr (Xj (dn:=[]) F hr hA hb S hk hx hne (fun x s R hq=>?_) ds rs ri hK (by simpa using h64) ⟨H,0,[],[],Same.refl H,Ic,.nil,.nil⟩) (fun _ s' hq=>?_) fun _ _ z=>z)
 ·refine Bea (wpAny_attempt (Bfr hq (fun kv s1 hkv=>?_) fun _ _ hF=>hF.elim))
  obtain⟨us,e,hu,hl,hR⟩:=hkv
  try dsimp only
  exact Bea (listUpdate_at hu rfl (Bek hR) (by rw[Bem];lia) (by rw[Array.size_push,Bem];lia))
 ·obtain⟨H1,e,kvs,us,s1,I3,rk,rks⟩:=hq
  rw[Bfn] at rks
  have pk:=I3.pin (kS,seqObj "list" (List.toArray us) e) (Bei _ (Beb ..))
  try dsimp only
  refine Bea (listItems_at pk.1 rfl ?_)
  have hun:=hr.units
  exact Aat I3 hk hD hx hy hne ri (rs.same s1) rk rks (Tb hK) h64 hI hn hd (by lia) ho fun s' c ys ws I' r1 r2=>fin s' H1 c ys ws s1 I' r1 r2
end
section
variable {X:Cx}{e:Expr}{pos p p' kp kp' cp:Pos}{x:Str}{k:Nat}{f:Addr}{fd:FuncData}{ps:List Str}{fn:List D->Option D}{b:Bool}
end
end ML
end L2
end S_ML20
section S_ML21
namespace L2
namespace ML
open PySem PySem.Spec PyProof.Rows
open PySem.Builtin PySem.Builtin.Str
section
variable {X:Cx}{a e:Expr}{apos cpos:Pos}
theorem Ak5 (h:c∈(strSub x i j).cps.toList):c∈x.cps.toList:=by
 unfold strSub at h
 rw[Array.toList_extract] at h
 exact List.mem_of_mem_drop (List.mem_of_mem_take h)
theorem Ju (i j:Nat) (h:PyData.strOk x=true):PyData.strOk (strSub x i j)=true:=Gn h fun c hc=>Ak5 hc
theorem Aia (h:p∈Txt.split x y) (hc:c∈p.cps.toList):c∈x.cps.toList:=by
 unfold Txt.split at h
 split at h
 ·rw[List.mem_singleton.mp h] at hc;exact hc
 ·split at h
  ·rw[List.mem_singleton.mp h] at hc;exact hc
  ·unfold partsBetween at h
   obtain⟨⟨i,j⟩,_,rfl⟩:=List.mem_map.mp h
   exact Ak5 hc
theorem T4 {K:W.Frag}{H:Hp}{μ:List Addr}{B:Addr->Prop}:∀ {ts:List Str},(∀ p∈ts,PyData.strOk p=true)->Reps K H μ B (ts.map .str) (ts.map .str)
 |[],_=>.nil
 |t::ts,h=>.cons (.str t (h t (Beb ..))) (T4 fun p hp=>h p (Bed _ hp))
theorem Uk:∀ (ts:List Str) (k:Nat),Vals (ts.map .str) (strsFrom k ts)
 |[],_=>.nil
 |t::ts,k=>.cons ⟨_,rfl⟩ (Uk ts (k+1))
noncomputable def D1:D->List D->MH->Option (List D):=fun x xs _=>match x,xs with
 |.str z,[.str w]=>if w.length≠0/\z.length<=1000000/\(Txt.split z w).length<=1000000 then some ((Txt.split z w).map .str) else none
 |_,_=>none
theorem Agq:MtF X "str.split" D1:=by
 intro pins s σ H μ m x xs z v vs u us Q I S rx rs r1 rv e q
 have e2:=Aed (x:=x) (xs:=xs) (a:=z) (f:=fun z w=>if w.length≠0/\z.length<=1000000/\(Txt.split z w).length<=1000000 then some ((Txt.split z w).map D.str) else none) e
 clear e
 obtain⟨y,w,rfl,rfl,e⟩:=e2
 split at e
 ·rename_i hc
  cases e
  obtain⟨hw,hl,hz⟩:=hc
  have hline:sizeLine=16777216:=Bf4
  cases rx with
  |str _ ok =>
  obtain⟨v',rfl,r'⟩:=rs.one
  cases r'
  obtain⟨t,rfl⟩:=r1
  obtain⟨u',rfl,t',rfl⟩:=Gz rv
  have hw':(w.length == 0)=false:=by simpa using hw
  have okp:∀ p∈Txt.split y w,PyData.strOk p=true:=fun p hp=>Gn ok fun c hc=>Aia hp hc
  have fin:∀ (its:List Value) (tk:Nat),Vals ((Txt.split y w).map V.str) its->EP X pins σ Q (.ref s.heap.objs.size) { s with toks:=tk,heap:=s.heap.push { cls:=.type "list",data:=.seq its.toArray } }:=fun its tk r=>by
   refine⟨.ref s.heap.objs.size,_,I.lnew (t':=tk) r (by rw[Bel];lia),rfl,q _ _ _ (Bk I.fresh) I.fresh A8 ?_⟩
   exact T4 okp
  cases h1:(decide (y.length < w.length)||decide (strKind y < strKind w)) with
  |true =>
   refine Bhh F.slot_str_split (Bhb _ _ _) F.entry_str_split (F.args_str_split_2 _ _) (meets_str_split_cannot_occur y w t t' h1) (fin [.str y t] s.toks ?_)
   rw[show Txt.split y w=[y] by unfold Txt.split;rw[Bef h1]]
   exact .cons ⟨t,rfl⟩ .nil
  |false =>
   cases hf:(occurrences y w 0 y.length (y.length+1)).isEmpty with
   |true =>
    refine Bhh F.slot_str_split (Bhb _ _ _) F.entry_str_split (F.args_str_split_2 _ _) (meets_str_split_not_found y w t t' h1 hw' hf) (fin [.str y t] s.toks ?_)
    rw[show Txt.split y w=[y] by unfold Txt.split;rw[Beg (by rw[h1];decide),Bef hf]]
    exact .cons ⟨t,rfl⟩ .nil
   |false =>
    have e2:Txt.split y w=partsBetween y (occurrences y w 0 y.length (y.length+1)) w.length:=by unfold Txt.split;rw[Beg (by rw[h1];decide),Beg (by rw[hf];decide)]
    rw[e2] at fin hz
    exact Bhh F.slot_str_split (Bhb _ _ _) F.entry_str_split (F.args_str_split_2 _ _) (meets_str_split_sep y w t t' h1 hw' hf (by lia) (by lia)) (fin _ _ (Uk _ _))
 ·exact Ak e
theorem Nm (ho:QD X a f) (ha:QL X [e] g) (hbase':L9 a=true:=by rfl) (hline:(apos.endLine == cpos.line)=true:=by kernel_rfl) (hs':Bj e=true:=by rfl) :
  QF X (.Call (.Attribute a "split" apos) [e] [] cpos) (Aez "str" D1 f g):=⟨Bam Bg8 F.slot_str_split F.type_str_split Agq ho.out ha.out (Dm hbase') (Il (by rw[Bfi,hs'];rfl) rfl) hline (Au hs') rfl⟩
noncomputable def Dw:D->List D->MH->Option D:=fun x xs _=>match x,xs with
 |.str z,[.str w]=>some (.bl (Txt.startswith z w))
 |_,_=>none
theorem O5:MtD X "str.startswith" Dw:=by
 intro pins s σ H μ m x xs z v vs u us Q I S rx rs r1 rv e q
 have e2:=Aed (x:=x) (xs:=xs) (a:=z) (f:=fun z w=>some (D.bl (Txt.startswith z w))) e
 clear e
 obtain⟨y,w,rfl,rfl,e⟩:=e2
 cases e
 cases rx
 obtain⟨v',rfl,r'⟩:=rs.one
 cases r'
 obtain⟨t,rfl⟩:=r1
 obtain⟨u',rfl,t',rfl⟩:=Gz rv
 exact SC.startswith ⟨.bl _,H,I,rfl,q _ H (Same.refl H) (.bl _)⟩
theorem Pd (ho:QD X a f) (ha:QL X [e] g) (hbase':L9 a=true:=by rfl) (hline:(apos.endLine == cpos.line)=true:=by kernel_rfl) (hs':Bj e=true:=by rfl) :
  QD X (.Call (.Attribute a "startswith" apos) [e] [] cpos) (fMt "str" Dw f g):=⟨Aoq Bg8 F.slot_str_startswith F.type_str_startswith O5 ho.out ha.out (Dm hbase') (Il (by rw[Bfi,hs'];rfl) rfl) hline (Au hs') rfl⟩
noncomputable def Dr:D->List D->MH->Option D:=fun x xs _=>match x,xs with
 |.str z,[.str w]=>if w.length≠0/\z.length<=1000000 then some (.tup [.str (Txt.partition z w).1,.str (Txt.partition z w).2.1,.str (Txt.partition z w).2.2]) else none
 |_,_=>none
theorem Te:MtD X "str.partition" Dr:=by
 intro pins s σ H μ m x xs z v vs u us Q I S rx rs r1 rv e q
 have e2:=Aed (x:=x) (xs:=xs) (a:=z) (f:=fun z w=>if w.length≠0/\z.length<=1000000 then some (D.tup [.str (Txt.partition z w).1,.str (Txt.partition z w).2.1,.str (Txt.partition z w).2.2]) else none) e
 clear e
 obtain⟨y,w,rfl,rfl,e⟩:=e2
 split at e
 ·rename_i hc
  cases e
  obtain⟨hw,hl⟩:=hc
  have hline:sizeLine=16777216:=Bf4
  cases rx with
  |str _ ok =>
  obtain⟨v',rfl,r'⟩:=rs.one
  cases r' with
  |str _ okw =>
  obtain⟨t,rfl⟩:=r1
  obtain⟨u',rfl,t',rfl⟩:=Gz rv
  have fin:∀ (p1 p2 p3:Str) (t1 t2 t3:Tok) (tk:Nat),PyData.strOk p1=true->PyData.strOk p2=true->PyData.strOk p3=true->Txt.partition y w=(p1,p2,p3)->EP X pins σ Q (.ref s.heap.objs.size) { s with toks:=tk,heap:=s.heap.push { cls:=.type "tuple",data:=.seq [.str p1 t1,.str p2 t2,.str p3 t3].toArray } }:=fun p1 p2 p3 t1 t2 t3 tk o1 o2 o3 ep=>by
   rw[ep] at q
   refine⟨.ref s.heap.objs.size,upd H s.heap.objs.size (.tup [.str p1,.str p2,.str p3]),I.laid (t':=tk) (fun b u e=>Bec _ e) (Bej _) ⟨by simp;lia,_,.cons ⟨t1,rfl⟩ (.cons ⟨t2,rfl⟩ (.cons ⟨t3,rfl⟩ .nil)),⟨_,Beq _ rfl,rfl,_,rfl⟩⟩,rfl,q _ _ (Bk I.fresh) ?_⟩
   exact .tup (.inl (.inl A8)) (.cons (.str _ o1) (.cons (.str _ o2) (.cons (.str _ o3) .nil)))
  have oe:PyData.strOk Str.empty=true:=by rw[strOk_iff];intro c hc;cases hc
  refine Bhh F.slot_str_partition (Bhb _ _ _) F.entry_str_partition (F.args_str_partition_2 _ _) (meets_str_partition y w t t' (by simpa using hw) (by lia)) ?_
  cases ho:occurrences y w 0 y.length 1 with
  |nil=>exact fin _ _ _ _ _ _ _ ok oe oe (by unfold Txt.partition;rw[ho])
  |cons i rest=>exact fin _ _ _ _ _ _ _ (Ju _ _ ok) okw (Ju _ _ ok) (by unfold Txt.partition;rw[ho])
 ·exact Ak e
theorem Js (ho:QD X a f) (ha:QL X [e] g) (hbase':L9 a=true:=by rfl) (hline:(apos.endLine == cpos.line)=true:=by kernel_rfl) (hs':Bj e=true:=by rfl) :
  QD X (.Call (.Attribute a "partition" apos) [e] [] cpos) (fMt "str" Dr f g):=⟨Aoq Bg8 F.slot_str_partition F.type_str_partition Te ho.out ha.out (Dm hbase') (Il (by rw[Bfi,hs'];rfl) rfl) hline (Au hs') rfl⟩
end
end ML
end L2
end S_ML21
section S_ML22
namespace L2
namespace ML
open PySem PySem.Spec PyProof.Rows
section
variable {X:Cx}{a e:Expr}{apos cpos:Pos}
def Gd:D->List D->MH->Option D:=fun x xs m=>match x,xs with
 |.str z,[d]=>(sq m d).bind fun ds=>(Jz ds).bind fun ts=>if JoinOk z ts=true then some (.str (Txt.join z ts)) else none
 |_,_=>none
theorem Agp:MtD X "str.join" Gd:=by
 intro pins s σ H μ m x xs z v vs u us Q I S rx rs r1 rv e q
 cases rx with
 |str y ok =>
  obtain⟨d,rfl⟩:=Xx (o:=fun xs=>Gd (.str y) xs m) rfl (fun _ _ _=>rfl) e
  obtain⟨ds,h1,h⟩:=bind_some e
  obtain⟨ts,h2,h⟩:=bind_some h
  split at h
  ·rename_i hj
   cases h
   obtain⟨v',rfl,r'⟩:=rs.one
   obtain⟨t,rfl⟩:=r1
   obtain⟨a,ys,rfl,hq,rys⟩:=Uc S r' h1
   obtain⟨u',rfl,r2⟩:=Gz rv
   cases r2
   rcases hq with hq|hq
   ·obtain⟨its,ri,pl,hz⟩:=I.list hq
    obtain⟨l,e1,e2,e3⟩:=Jh rys h2 ri
    subst e1
    exact SC.join pl.isList e2 hj fun t' k=>⟨.str _,H,I.tok _,⟨_,rfl⟩,q _ H (Same.refl H) (.str _ (N7 ok e3))⟩
   ·obtain⟨its,ri,⟨o,ho,hc,n,hd⟩,hz⟩:=I.tuple hq
    obtain⟨l,e1,e2,e3⟩:=Jh rys h2 ri
    subst e1
    subst e2
    have hj':=hj
    unfold JoinOk at hj'
    rw[Bool.not_eq_true'] at hj'
    exact Bhh F.slot_str_join (Bhb _ _ _) F.entry_str_join (F.args_str_join_2 _ _) (meets_str_join_tuple y t a l hj') ⟨⟨o,n,ho,hc,hd⟩,post_join l ⟨joinFit_length hj',fun t' k=>⟨.str _,H,I.tok _,⟨_,rfl⟩,q _ H (Same.refl H) (.str _ (N7 ok e3))⟩⟩⟩
  ·exact Ak h
 |_=>exact Ak e
theorem Gv (ho:QD X a f) (ha:QL X [e] g) (hbase':L9 a=true:=by rfl) (hline:(apos.endLine == cpos.line)=true:=by kernel_rfl) (hs':Bj e=true:=by rfl) :
  QD X (.Call (.Attribute a "join" apos) [e] [] cpos) (fMt "str" Gd f g):=⟨Aoq Bg8 F.slot_str_join F.type_str_join Agp ho.out ha.out (Dm hbase') (Il (by rw[Bfi,hs'];rfl) rfl) hline (Au hs') rfl⟩
end
section
variable {X:Cx}{e:Expr}{pos p p' kp p2 p3 p4:Pos}{x:Str}{k:Nat}{f:Addr}{fd:FuncData}{ps:List Str}{fn:List D->Option D}
end
def Mz (mg:Str->Option Value) (h:Heap):Prop:=∃ bm ob,mg "__builtins__"=some (.ref bm)/\bm≠builtinsNs/\h.get? bm=some ob/\ob.cls=.type "module"/\ob.dict=some builtinsNs/\ob.data=.plain
def TabQ (H:Hp) (P:Addr) (q:Str):Prop:=∃ more:Array Value,H P=some (.tbl (#[Value.str q 0]++more))
theorem TabQ.on {H:Hp}{s:Shared} (I:Inv X pins σ H s) (h:TabQ X.H₀ P q):TabQ H P q:=by
 obtain⟨more,e⟩:=h
 obtain⟨m2,e2⟩:=I.base.tbls P _ e
 exact⟨more++m2,by rw[e2,Array.append_assoc]⟩
theorem TabQ.tag:(#[Value.str q 0]++more)[0]?=some (Value.str q 0):=by rw[Array.getElem?_append_left (by simp)];rfl
abbrev Aej:HO:=.ext fun _=>True
theorem Ys {p pos:Pos} (l:List Value) (h:TriplesOk l) (e:codeAmong p (l++[rawInt pos.line,rawInt pos.col,c])=some cv):codeAmong p l=some cv\/cv=c:=by
 fun_induction TriplesOk l with
 |case1 =>
  simp only[Bfn,codeAmong,rawInt] at e
  split at e
  ·cases e;exact .inr rfl
  ·exact Ak e
 |case2 a t b u x rest ih =>
  simp only[Be5,codeAmong] at e ⊢
  split at e
  ·rename_i hc;rw[Bef hc];exact .inl e
  ·rename_i hc;rw[Beg hc];exact ih h e
 |case3 l h1 h2=>exact h.elim
section
variable {X:Cx}{pins:List (Addr×Obj)}{σ:St}{H:Hp}{s:Shared}{pos:Pos}
theorem Vf {P:Program}{w:World}{K:W.Frag}{H:Hp}{h:Heap}{a:Addr}{o:Obj} (e:h.get? a=some o):ObjOk P w K H h a (.frz o Aej):=⟨e,trivial,⟨o,e⟩,fun _ _ _ _=>trivial⟩
noncomputable def Bdl (l:Lam):TE:=fun _ H Q=>∀ a H',Same H H'->FnAt H' a l->Q (.ref a) H'
theorem Avw {args:Arguments}{body:Expr}{scope:Scope}{c P:Addr}{l:Lam} (hB:Mz X.mg X.base) (hT:TabQ X.H₀ P l.qual) (hcode:X.env.code=.ref c) (hC:W.codeHdIn X.K c P=true)
  (hcl:closureFor scope X.env=pure []) (hdef:defaultsOf args X.env=([],[])) (hl:l=⟨X.env.qual++"<lambda>",args,body,scope⟩):PE X (.Lambda args body scope pos) (Bdl l):=by
 intro pins s σ H Q I h
 obtain⟨more,eP⟩:=TabQ.on I hT
 obtain⟨ps,hP,ht,hc⟩:=I.hok P _ eP
 have C:W.CodeHd s.heap c P:=(W.codeHd_of_K I.ok.mod.kin hC).keeps I.bk
 have hg:s.heap.Ns mainGlobals X.mg:=I.mod.glob.keeps I.bk
 obtain⟨bm,ob,b1,b2,b3,b4,b5,b6⟩:=hB
 have hgP:mainGlobals≠P:=fun q=>by
  obtain⟨o,es,ep,e,hd,_⟩:=hg
  rw[q,hP] at e;cases e;cases hd
 have hbP:bm≠P:=fun q=>by
  have e:=I.bk _ _ b3
  rw[q,hP] at e;cases e;cases b4
 have hbG:bm≠mainGlobals:=fun q=>by
  obtain⟨o,es,ep,e,hd,_⟩:=I.mod.glob
  rw[q,e] at b3;cases b3;rw[hd] at b6;cases b6
 have hbA:s.heap.BuiltinsAt X.mg P:=⟨bm,ob,b1,b2,hbG,hbP,I.bk _ _ b3,b4,b5,b6⟩
 have hnP:∀ b,H b=none->b≠P:=fun b n z=>by rw[z,eP] at n;cases n
 refine W.kla_eval hdef ?_
 cases q:codeAmong pos ps.toList with
 |some cv =>
  obtain⟨c0,oc,u,q0,t0,h1,rfl,h3,h4⟩:=hc pos cv q
  rw[TabQ.tag] at h1
  cases h1
  refine W.kla_makeFunctionHit hcl I.ok.glob hg hcode C hP ht q hbA fun ctv h' tk hk hsz=>?_
  have hf:H h'.objs.size=none:=I.hok.fresh hsz
  refine⟨.ref h'.objs.size,upd H h'.objs.size (.frz (W.kla_obj "<lambda>" (X.env.qual++"<lambda>") args body scope [] ((X.mg "__name__").getD .none) c0 ctv) Aej),I.laid (fun b u e=>Bec _ (hk b u e)) hsz (Vf (Beq _ rfl)),rfl,h _ _ (Bk hf) ?_⟩
  refine⟨_,_,c0,oc,u,A8,⟨.none,(X.mg "__name__").getD .none,ctv,by rw[hl]⟩,by rw[A0 (Az h3 hf)];exact h3,h4⟩
 |none =>
  refine W.kla_makeFunction hcl I.ok.glob hg hcode C hP ht q hgP hbA fun c' ctv h' tk hx hge hlt hrec htb=>?_
  obtain⟨c2,oc,vs,t,e2,hoc,hd,hv⟩:=hrec
  cases e2
  have hfc:H c'=none:=I.hok.fresh hge
  have hff:H h'.objs.size=none:=I.hok.fresh (Bez hge (Bf8 hlt))
  have hne:c'≠h'.objs.size:=Be0 hlt
  have hPc:P≠c':=fun z=>by rw[<- z,eP] at hfc;cases hfc
  have hPf:P≠h'.objs.size:=fun z=>by rw[<- z,eP] at hff;cases hff
  have same:∀ b o,H b=some o->upd (upd H c' (.frz oc Aej)) h'.objs.size (.frz (W.kla_obj "<lambda>" (X.env.qual++"<lambda>") args body scope [] ((X.mg "__name__").getD .none) c' ctv) Aej) b=some o:=fun b o e=>by
   rw[A0 (Az e hff),A0 (Az e hfc)];exact e
  have hnm:Z4 oc l.qual:=⟨vs,t,hd,by rw[hl];exact hv⟩
  have hcc:upd (upd H c' (.frz oc Aej)) h'.objs.size (.frz (W.kla_obj "<lambda>" (X.env.qual++"<lambda>") args body scope [] ((X.mg "__name__").getD .none) c' ctv) Aej) c'=some (.frz oc Aej):=by rw[A0 hne,A8]
  refine⟨.ref h'.objs.size,upd (upd H c' (.frz oc Aej)) h'.objs.size (.frz (W.kla_obj "<lambda>" (X.env.qual++"<lambda>") args body scope [] ((X.mg "__name__").getD .none) c' ctv) Aej),I.un ⟨?_,?_,?_,?_,?_,?_,?_⟩ ?_,rfl,h _ _ same ?_⟩
  ·exact fun b o e n _ _=>Bec _ (hx b o (hnP b n) e)
  ·exact fun b o e n _ _=>⟨o.slots,Bec _ (hx b o (hnP b n) e)⟩
  ·intro b o e n _
   have hb:=Ben e
   rw[A0 (Be0 (Ber hb (Bez hge (Bf8 hlt)))),A0 (Be0 (Ber hb hge))]
   exact n
  ·intro b o e _
   by_cases z:b=P
   ·subst z;exact⟨_,Bec _ htb⟩
   ·exact⟨o,Bec _ (hx b o z e)⟩
  ·exact fun b xs e=>same b _ e
  ·exact fun b o u e=>same b _ e
  ·exact fun b qs e=>⟨#[],by rw[same b _ e];simp⟩
  ·intro b u e
   by_cases z1:b=h'.objs.size
   ·subst z1
    rw[A8] at e
    cases e
    exact Vf (Beq _ rfl)
   ·rw[A0 z1] at e
    by_cases z2:b=c'
    ·subst z2
     rw[A8] at e
     cases e
     exact Vf (Bec _ hoc)
    ·rw[A0 z2] at e
     by_cases z3:b=P
     ·subst z3
      rw[eP] at e
      cases e
      refine⟨_,Bec _ htb,by rw[Array.toList_append];exact TriplesOk_snoc _ _ _ _ ht,fun pos' cv z=>?_⟩
      rw[Array.toList_append] at z
      rcases Ys _ ht z with z|rfl
      ·obtain⟨c0,oc0,u0,q0,t0,h1,h2,h3,h4⟩:=hc pos' cv z
       exact⟨c0,oc0,u0,q0,t0,h1,h2,same _ _ h3,h4⟩
      ·exact⟨c',oc,Aej,l.qual,0,TabQ.tag,rfl,hcc,hnm⟩
     ·refine (I.hok b u e).stay (fun d v hd q=>?_) (fun d q=>same _ _ q) (fun d xs q=>?_) fun d x w q=>same _ _ q
      ·refine Bec _ (hx d v (fun w=>?_) q)
       rcases hd with hd|hd
       ·exact z3 (hd.symm.trans w)
       ·rw[w,eP] at hd;cases hd
      ·rcases q with q|⟨o,q⟩
       ·exact .inl (same _ _ q)
       ·exact .inr ⟨o,same _ _ q⟩
  ·exact⟨_,_,c',oc,Aej,A8,⟨.none,(X.mg "__name__").getD .none,ctv,by rw[hl]⟩,hcc,hnm⟩
theorem Avn {l:Lam} (i:Nat) (hB:Mz X.mg X.base) (hT:TabQ X.H₀ P l.qual) (hcode:X.env.code=.ref c) (hC:W.codeHdIn X.K c P=true) (hcl:closureFor scope X.env=pure []) (hdef:defaultsOf args X.env=([],[])) (hl:l=⟨X.env.qual++"<lambda>",args,body,scope⟩) (hi:i < 1000):PD X (.Lambda args body scope pos) (fC (.fn i l)) :=
 PE.imp (Avw hB hT hcode hC hcl hdef hl) fun σ H Q ⟨env,μ,m,d,S,E,h,q⟩=>by
  cases h
  exact fun a H' s f=>q _ _ s (.fn (.inl ⟨hi,f⟩))
end
noncomputable def fnE (f:FE):List D->Option D:=fun ds=>(f (ds.map some) []).bind fun d=>if Bc d=true then some d else none
def Pv (P:Program) (w:World) (K:W.Frag) (mg:Str->Option Value) (base:Heap) (k n:Nat) (l:Lam) (fn:List D->Option D):Prop :=
 ∀ (a:Addr) (A:Around) (outer:List Env) (s:Shared) (H:Hp) (us:List Value) (vs:List V) (Q:VK),Room k A->Env0 P w K mg base A outer s H->FnAt H a l->Vals vs us->spP K n fn vs H Q E0 ->
  codeAny (model P w) A (.call (.ref a) ⟨us,[]⟩) (CR CX0 outer P w K H s Q E0) s
theorem Anl {P:Program}{w:World}{K:W.Frag}{mg:Str->Option Value}{base:Heap}{l:Lam}{N:List Str}{k n:Nat}{f:FE} (S:FnScope N N l.scope) (hn:N.length=n)
  (hb:∀ (doc pm ctv:Value) (c:Addr) (us:List Value),us.length=N.length->bindArgs (W.kdv_fn "<lambda>" l.qual l.args (.expr l.body) l.scope [] .none doc pm (.ref c) ctv) ⟨us,[]⟩=pure (N.zip us))
  (hbody:∀ (c a:Addr) (A:Around) (outer:List Env) (s:Shared) (H:Hp),Room k (A.deeper (envOfC l.qual l.scope s.heap.objs.size a (.ref c)))->PD (Uo CX0 P w K mg base N l.qual l.scope a (.ref c) A outer s H E0).nox l.body f) :
  Pv P w K mg base (k+1) n l (fnE f):=by
 intro a A outer s H us vs Q hr e0 hf r h
 obtain⟨o,u,c,oc,u',h1,⟨doc,pm,ctv,rfl⟩,h3,⟨vs',t,hd,hv⟩⟩:=hf
 obtain⟨ho,_⟩:=e0.hok a _ h1
 obtain⟨hoc,_⟩:=e0.hok c _ h3
 obtain⟨ds,d,rs,hl,hfn,q⟩:=h
 have hlv:vs.length=N.length:=by rw[<- rs.length,hl,hn]
 have lim:s.heap.NoLimit:=e0.mod.nolimit.keeps fun b o e=>(e0.bs b o e).1
 have hkind:∀ y∈N.zip us,l.scope.names.lookup y.1=some .local\/(l.scope.names.lookup y.1=some .cell/\((cellsFrom (s.heap.objs.size+1) l.scope.names []).lookup y.1).isSome=true):=fun⟨n,v⟩ hy=>by
  rcases S.par n (Bhj hy).1 with q|q
  ·exact .inl q
  ·exact .inr ⟨q,W.cellsFrom_some _ _ _ (.inl q)⟩
 refine W.kla_callFunE hr.depth ho rfl S.co S.gen rfl ⟨c,oc,vs',t,rfl,hoc,hd,hv⟩ ?_
 refine wpAny_of_eq (hb doc pm ctv c us (by rw[<- r.length];exact hlv)) ?_
 refine wpAny_newFunctionEnv_cells S.kind hkind fun env he s1 x=>?_
 subst he
 refine⟨lim.keeps x.toInCall.keep,W.kla_codeExpr ?_⟩
 have I:Inv (Uo CX0 P w K mg base N l.qual l.scope a (.ref c) A outer s H E0) [] (Im N vs) H s1:=R6 S hr.hd e0 hlv r x
 obtain⟨d',hd',hfn⟩:=bind_some hfn
 split at hfn
 ·rename_i hno
  cases hfn
  have S0:Sim K H [] []:=⟨List.nodup_nil,rfl,fun n a o h=>by simp at h⟩
  have hE:EnvRep K H [] (Im N vs) (ds.map some):=by
   have:=Ez (N:=N) rs
   rw[show N.length - ds.length=0 by rw[hl,hn];lia,List.replicate_zero,Bev] at this
   exact this
  refine Bfr (PE.nox (hbody c a A outer s H (hr.deeper _)) [] s1 (Im N vs) H Q I ⟨ds.map some,[],[],d,S0,hE,hd',fun v H' s' r=>q v H' s' (r.nolst hno)⟩) (fun u s' hs=>?_) fun e s' hs=>hs
  obtain⟨v,H',J,rv,q⟩:=hs
  exact⟨v,H',J.os,J.bare,J.base,J.hok,rv,q⟩
 ·cases hfn
section
variable {X:Cx}{e:Expr}{es:List Expr}{pos p:Pos}{x:Str}
open Classical in
noncomputable def Rg (T:List (Lam×(List D->Option D))) (n:Nat) (f:FE) (g:FL):FE:=fun env m=>(f env m).bind fun d=>(g env m).bind fun ds=>(Co m ds).bind fun ds'=>match d with
 |.fn j l=>(T[j]?).bind fun p=>if l=p.1/\ds'.length=n then p.2 ds' else none
 |_=>none
theorem Ag2 {T:List (Lam×(List D->Option D))} (hT:∀ p∈T,Pv X.prog X.w X.K X.mg X.base k n p.1 p.2) (hr:Room k X.A) (hN:X.N[i]?=some x) (hv:Vis X.env.scope x) (ha:PL X (e::es) g) (hd:(x == ("__debug__":Str))=false) (hcd:(x == ("__classdict__":Str))=false) (he:starEach (e::es) X.env=(false,eval e X.env)::starEach es X.env) (hpl:(backTo pos (starEach es X.env)).any (·.1)=false) (hTl:T.length<=1000) :
  PD X (.Call (.Name x p) (e::es) [] pos) (Rg T n (Ah i) g):=by
 intro pins s σ H Q I ⟨env,μ,m,d,S,E,h,q⟩
 obtain⟨d0,h1,h⟩:=bind_some h
 obtain⟨ds,h2,h⟩:=bind_some h
 obtain⟨ds',h3,h⟩:=bind_some h
 cases d0 with
 |fn j l =>
  obtain⟨pr,h4,h7⟩:=bind_some h
  clear h
  split at h7
  ·rename_i hc
   obtain⟨rfl,hn⟩:=hc
   unfold Ah at h1
   obtain⟨o,h5,h6⟩:=bind_some h1
   have h6:o=some (.fn j pr.1):=h6
   subst h6
   obtain⟨v,ev,rv⟩:=E.get i _ h5
   cases rv with
   |@fn _ _ a hf =>
    have hj:j < T.length:=by
     rcases Nat.lt_or_ge j T.length with z|z
     ·exact z
     ·rw[Be3 z] at h4;exact Ak h4
    replace hf:FnAt H a pr.1:=hf.elim (fun z=>z.2) fun z=>absurd z.1 (by lia)
    refine Bfl (thn ((Acz hN hv hd hcd) pins s σ H (fun v' H'=>v'=.ref a/\H'=H) I ⟨_,ev,rfl,rfl⟩) fun u s1 ⟨v1,H1,I1,r1,e1,e2⟩=>?_)
    subst e1;subst e2
    obtain rfl:u=Value.ref a:=r1
    have fat:∀ {H:Hp}{s:Shared},HOk X.prog X.w X.K H s.heap->FnAt H a pr.1->W.FnAt a s.heap:=fun hk hf=>by
     obtain⟨o,u,c,oc,u',h1,⟨doc,pm,ctv,rfl⟩,_⟩:=hf
     exact⟨_,_,_,_,(hk a _ h1).1⟩
    refine W.callWith_F (fat I1.hok hf) (thn (ha pos pins s1 σ H1 _ I1 ⟨env,μ,m,ds,S,E,h2,fun vs H2 s2 rs=>(⟨s2,rs⟩:Same H1 H2/\Reps X.K H2 μ (·∈μ) ds vs)⟩) fun us s2 ⟨vs,H2,I2,r,s12,rs⟩=>⟨fat I2.hok (hf.up fun b o _ z=>s12 b o z),?_⟩) he hpl
    refine wpAny_call (codeAny_mono (hT pr (Be1 h4) a X.A X.stack s2 H2 us vs Q hr I2.env0 (hf.up fun b o _ z=>s12 b o z) r
     ⟨ds',d,Cp (S.same s12) rs h3,hn,h7,fun v H' s' r=>q v H' (s12.trans s') (Rep.ofCall (S.same s12) r)⟩) fun r s' hq=>?_)
    cases r with
    |error e=>exact hq.elim
    |ok fl =>
     cases fl with
     |ret u=>exact I2.after hq
     |next=>exact False.elim hq
     |brk=>exact False.elim hq
     |cont=>exact False.elim hq
  ·exact Ak h7
 |_=>exact Ak h
end
def TabsH (tabs:List (Addr×Str)) (H:Hp):Prop:=∀ q∈tabs,TabQ H q.1 q.2
theorem TabsH.on {H:Hp}{s:Shared} (I:Inv X pins σ H s) {tabs:List (Addr×Str)} (h:TabsH tabs X.H₀):TabsH tabs H:=fun q hq=>TabQ.on I (h q hq)
noncomputable def spT (tabs:List (Addr×Str)) (K:W.Frag) (n:Nat) (fn:List D->Option D):Sp:=fun vs H Q E=>TabsH tabs H/\spP K n fn vs H Q E
theorem Afv {P:Program}{w:World}{K:W.Frag}{mg:Str->Option Value}{base:Heap}{x qual:Str}{st:Stmt}{f:Addr}{fd:FuncData}{N ps:List Str}{k:Nat}{tabs:List (Addr×Str)}{g:FS} (F:Fun K x qual st f fd) (S:FnScope N ps (As st))
  (hbody:∀ (A:Around) (outer:List Env) (s:Shared) (H:Hp) (E:XK),TabsH tabs H->Room k (A.deeper (envOfC qual (As st) s.heap.objs.size f fd.code)) ->
   Z6 (Uo CX0 P w K mg base N qual (As st) f fd.code A outer s H E).nox (By st) g):FnOk P w K mg base CX0 (k+1) f fd ps (spT tabs K ps.length (Cy N.length g)):=by
 obtain⟨oc,od,kV,doc,pm,an,cdv,ct,osl,rfl,lk,hcd⟩:=F.ex
 refine Atm lk hcd S (fun vs H Q E h=>?_) fun A outer s H vs Q E hr h=>?_
 ·obtain⟨_,ds,d,r,hl,_⟩:=h
  rw[<- r.length];exact hl
 ·obtain⟨hT,ds,d,r,hl,h,q⟩:=h
  refine⟨_,(hbody A outer s H E hT hr).nox,?_⟩
  obtain⟨o,h1,h2⟩:=bind_some h
  have S0:Sim K H [] []:=⟨List.nodup_nil,rfl,fun n a o h=>by simp at h⟩
  refine⟨_,[],[],o,S0,Ez r,h1,?_⟩
  have fin:∀ {H':Hp}{μ':List Addr}{m':MH},Step H [] H' μ'->Sim K H' μ' m'->Same H H'/\∀ a∈μ',old H H' a->False:=fun {H' μ' m'} st S'=>by
   obtain⟨l,e,hl⟩:=st.pre
   refine⟨fun b o e=>st.keep b o e (by simp),fun a ha z=>?_⟩
   rcases z with hne|⟨o,u,z⟩
   ·rw[e] at ha
    exact hne (hl a (by simpa using ha))
   ·obtain⟨xs,e',l⟩:=S'.trk ha
    rw[e'] at z
    cases z
    exact l
  cases o with
  |rt d' m'=>exact fun v H' μ' st S' r'=>q v H' (fin st S').1 (Mw S' (fin st S').2 r' h2)
  |nx env m'=>cases h2;exact fun σ' H' μ' st S' E'=>q _ H' (fin st S').1 .non
  |bk _ _=>exact Ak h2
  |ct _ _=>exact Ak h2
section
variable {X:Cx}{e:Expr}{es:List Expr}{pos p:Pos}{x:Str}
theorem Xz {fd:FuncData}{tabs:List (Addr×Str)}{t:TA} (F:FnOk X.prog X.w X.K X.mg X.base CX0 k f fd ps (spT tabs X.K n fn)) (hT:TabsH tabs X.H₀) (hr:Room k X.A) (hg:Gl X x) (hm:X.mg x=some (.ref f)) (hk:W.keepIn X.K (.ref f)=true) (hb:Binds X.K fd ps []) (ha:PA X (e::es) t) (hdb:(x == ("__debug__":Str))=false) (he:starEach (e::es) X.env=(false,eval e X.env)::starEach es X.env) (hpl:(backTo pos (starEach es X.env)).any (·.1)=false) :
  PE X (.Call (.Name x p) (e::es) [] pos) (Aik (spP X.K n fn) [] E0 t):=by
 intro pins s σ H Q I h
 refine Bfl (O0 I hg hm ?_ hdb)
 refine W.callWith_K (h₀:=X.base) I.ok.mod.kin hk (thn (ha pos pins s σ H _ I h) fun us s1 ⟨vs,H1,I1,r,q⟩=>⟨I1.kIn,?_⟩) he hpl
 exact Ad0 F hr hb .nil Acy I1 r ⟨TabsH.on I1 hT,q⟩
def Ais (m:MH):D->Option D
 |.fn i l=>some (.fn i l)
 |d=>C0 m d
def Cc (m:MH):List D->Option (List D)
 |[]=>some []
 |d::ds=>(Ais m d).bind fun d'=>(Cc m ds).bind fun ds'=>some (d'::ds')
theorem Aep {K:W.Frag}{H:Hp}{μ:List Addr}{m:MH} (S:Sim K H μ m) {d d':D}{v:V} (r:Rep K H μ (·∈μ) d v) (h:Ais m d=some d'):Rep K H [] (fun _=>False) d' v:=by
 cases r with
 |fn hf=>cases h;exact .fn hf
 |non=>exact (Bo S .non h).1
 |bl b=>exact (Bo S (.bl b) h).1
 |int b=>exact (Bo S (.int b) h).1
 |str b ok=>exact (Bo S (.str b ok) h).1
 |tup h1 h2=>exact (Bo S (.tup h1 h2) h).1
 |lst h1 h2 h3=>exact (Bo S (.lst h1 h2 h3) h).1
 |kl h1 h2=>exact (Bo S (.kl h1 h2) h).1
 |dic h1 h2 h3 h4=>exact (Bo S (.dic h1 h2 h3 h4) h).1
 |ref h1=>exact (Bo S (.ref h1) h).1
theorem Jv {K:W.Frag}{H:Hp}{μ:List Addr}{m:MH} (S:Sim K H μ m):∀ {ds ds':List D}{vs:List V},Reps K H μ (·∈μ) ds vs->Cc m ds=some ds'->Reps K H [] (fun _=>False) ds' vs
 |_,_,_,.nil,h=>by cases h;exact .nil
 |_,_,_,.cons r rs,h=>by
  unfold Cc at h
  obtain⟨d',h1,h⟩:=bind_some h
  obtain⟨ds',h2,h⟩:=bind_some h
  cases h
  exact .cons (Aep S r h1) (Jv S rs h2)
def Du (n:Nat) (fn:List D->Option D):List D->MH->Option D:=fun ds m=>(Cc m ds).bind fun ds'=>if ds'.length=n then fn ds' else none
variable {ex:Expr}{n:Nat}{fn:List D->Option D}{g:FL}{E:XK}
theorem Zl (hp:PE X ex (Aik (spP X.K n fn) [] E (tL X.K g))):PD X ex (Av (Ew n fn) g):=PE.imp hp fun σ H Q ⟨env,μ,m,d,S,E,h,q⟩=>by
 obtain⟨ds,h1,h⟩:=bind_some h
 obtain⟨ds',h2,h⟩:=bind_some h
 split at h
 ·rename_i hl
  exact⟨env,μ,m,ds,S,E,h1,fun vs H1 s1 rs=>⟨ds',d,by rw[Bev];exact Cp (S.same s1) rs h2,hl,h,fun v H' s' r=>q v H' (s1.trans s') (Rep.ofCall (S.same s1) r)⟩⟩
 ·exact Ak h
theorem Me (hp:PE X ex (Aik (spP X.K n fn) [] E (tL X.K g))):PD X ex (Av (Du n fn) g):=PE.imp hp fun σ H Q ⟨env,μ,m,d,S,E,h,q⟩=>by
 obtain⟨ds,h1,h⟩:=bind_some h
 obtain⟨ds',h2,h⟩:=bind_some h
 split at h
 ·rename_i hl
  exact⟨env,μ,m,ds,S,E,h1,fun vs H1 s1 rs=>⟨ds',d,by rw[Bev];exact Jv (S.same s1) rs h2,hl,h,fun v H' s' r=>q v H' (s1.trans s') (Rep.ofCall (S.same s1) r)⟩⟩
 ·exact Ak h
end
noncomputable def Np (tabs:List (Addr×Str)) (H:Hp):Hp:=fun b=>match tabs.find? fun q=>q.1 == b with
 |some q=>some (.tbl #[Value.str q.2 0])
 |none=>H b
theorem Hy {tabs:List (Addr×Str)}{H:Hp} (h:b∉tabs.map (·.1)):Np tabs H b=H b:=by
 unfold Np
 have:(tabs.find? fun q=>q.1 == b)=none:=List.find?_eq_none.mpr fun q hq z=>h (by rw[<- beq_iff_eq.mp z];exact Bfs hq)
 rw[this]
theorem U4 {tabs:List (Addr×Str)}{H:Hp} (h:b∈tabs.map (·.1)):∃ q∈tabs,q.1=b/\Np tabs H b=some (.tbl #[Value.str q.2 0]):=by
 unfold Np
 cases e:tabs.find? fun q=>q.1 == b with
 |none =>
  obtain⟨q,hq,z⟩:=List.mem_map.mp h
  exact absurd (beq_iff_eq.mpr z) (List.find?_eq_none.mp e q hq)
 |some q=>exact⟨q,List.mem_of_find?_eq_some e,beq_iff_eq.mp (List.find?_some (p:=fun q:Addr×Str=>q.1 == b) e),rfl⟩
theorem Aca {tabs:List (Addr×Str)} (hnd:(tabs.map (·.1)).Nodup) (hq:q∈tabs) (hr:r∈tabs) (e:q.1=r.1):q=r:=by
 induction tabs with
 |nil=>cases hq
 |cons t ts ih =>
  rw[Bee,List.nodup_cons] at hnd
  rcases List.mem_cons.mp hq with h1|h1<;>rcases List.mem_cons.mp hr with h2|h2
  ·rw[h1,h2]
  ·exact absurd (by rw[<- h1,e];exact Bfs h2) hnd.1
  ·exact absurd (by rw[<- h2,<- e];exact Bfs h1) hnd.1
  ·exact ih hnd.2 h1 h2
theorem Aua {K:W.Frag}{h:Heap} (KX:K.In h) (hK:W.noTabs K=true) {P:Addr} (hP:h.get? P=some (W.tabObj #[])):K.lookup P=none:=by
 cases e:K.lookup P with
 |none=>rfl
 |some o =>
  have e1:=KX P o e
  rw[hP] at e1
  cases e1
  have h2:=List.all_eq_true.mp hK (P,_) (W.mem_of_lookupK e)
  exact absurd (show false=true from h2) Bew
theorem Abj {P:Program}{w:World}{K:W.Frag}{mg mb:Str->Option Value}{k:Nat}{fa a:Addr}{fd:FuncData}{x:Str}{fn:List D->Option D}{s₁:Shared}{vs:List Value}{ns:List Int}{tabs:List (Addr×Str)}
  (KX:K.In s₁.heap) (hns:s₁.heap.Ns mainGlobals mg) (hb:s₁.heap.Ns builtinsNs mb) (hbb:∀ x:Str,x≠"__name__"->mb x=bootBuiltins x) (hlim:s₁.heap.NoLimit) (hbm:Mz mg s₁.heap) (hg:s₁.gens=#[])
  (hT:∀ q∈tabs,s₁.heap.get? q.1=some (W.tabObj #[])/\isCodeTable s₁.heap q.1) (hnd:(tabs.map (·.1)).Nodup) (hNT:W.noTabs K=true)
  (ha:s₁.heap.get? a=some { cls:=.type "list",data:=.seq vs.toArray }) (hi:IntsAre vs ns) (hl:ns.length<=sizeLine) (hr:Room k callerA)
  (F:∀ base:Heap,K.In base->base.Ns mainGlobals mg->Mz mg base->FnOk P w K mg base CX0 k fa fd [x] (spT tabs K 1 fn)) (hbind:∀ (s:Shared) (u:Value),BindsTo s fd ⟨[u],[]⟩ [(x,u)])
  (hfn:fn [.kl (ns.map D.int)]=some (.bl true)) (hrep:∀ H:Hp,Reps K H [] (fun _=>False) (ns.map D.int) (ns.map V.int)) :
  codeAny (model P w) callerA (.call (.ref fa) ⟨[.ref a],[]⟩) (fun r s'=>r=.ok (.ret (.bool true))/\OldK s₁.heap s'.heap/\s'.os=s₁.os/\AllBare s'.gens) s₁:=by
 have rv:=Ul hi
 have lenV:=hi.length
 have tabN:∀ {b:Addr}{o:Obj},s₁.heap.get? b=some o->o.cls≠.none->b∉tabs.map (·.1):=fun {b o} e hc z=>by
  obtain⟨q,hq,rfl⟩:=List.mem_map.mp z
  rw[(hT q hq).1] at e
  cases e
  exact hc rfl
 have tabD:∀ {b:Addr}{o:Obj}{es:Array DictEntry}{ep:Nat},s₁.heap.get? b=some o->o.data=.dict es ep->b∉tabs.map (·.1):=fun {b o es ep} e hd z=>by
  obtain⟨q,hq,rfl⟩:=List.mem_map.mp z
  rw[(hT q hq).1] at e
  cases e
  cases hd
 have aT:a∉tabs.map (·.1):=tabN ha (by simp)
 have core:∀ H:Hp,Bb2 H->KL K H a (ns.map V.int)->HOk P w K H s₁.heap->(∀ b,H b≠none->b=a)->(H a≠none->K.lookup a=none) ->
   codeAny (model P w) callerA (.call (.ref fa) ⟨[.ref a],[]⟩) (fun r s'=>r=.ok (.ret (.bool true))/\OldK s₁.heap s'.heap/\s'.os=s₁.os/\AllBare s'.gens) s₁:=by
  intro H hO hS hok hA hK
  have free:∀ {b:Addr},b∉tabs.map (·.1)->b≠a->Np tabs H b=none:=fun {b} h1 h2=>by
   rw[Hy h1]
   cases q:H b with
   |none=>rfl
   |some u=>exact absurd (hA b (by rw[q];simp)) h2
  have noA:∀ {b:Addr}{o:Obj}{es:Array DictEntry}{ep:Nat},s₁.heap.get? b=some o->o.data=.dict es ep->b≠a:=fun {b o es ep} e d z=>by
   rw[z,ha] at e
   cases e
   cases d
  have nsK:∀ {b:Addr}{m:Str->Option Value},s₁.heap.Ns b m->(Afy s₁.heap (Np tabs H)).Ns b m:=fun {b m} ⟨o,es,ep,e,d,r⟩=>⟨o,es,ep,Ou e (free (tabD e d) (noA e d)),d,r⟩
  have hKb:K.In (Afy s₁.heap (Np tabs H)):=fun b o e=>by
   have h1:b∉tabs.map (·.1):=fun z=>by
    obtain⟨q,hq,rfl⟩:=List.mem_map.mp z
    rw[Aua KX hNT (hT q hq).1] at e
    cases e
   refine Ou (KX b o e) ?_
   rw[Hy h1]
   cases q:H b with
   |none=>rfl
   |some u =>
    have e':b=a:=hA b (by rw[q];simp)
    subst e'
    rw[hK (by rw[q];simp)] at e;cases e
  have hM:Mod K mg (Afy s₁.heap (Np tabs H)):=⟨hKb,nsK hns,⟨mb,nsK hb,hbb⟩,let ⟨mc,h1,h2⟩:=hlim;⟨mc,nsK h1,h2⟩⟩
  have hbm':Mz mg (Afy s₁.heap (Np tabs H)):=by
   obtain⟨bm,ob,b1,b2,b3,b4,b5,b6⟩:=hbm
   exact⟨bm,ob,b1,b2,Ou b3 (free (tabN b3 (by rw[b4];simp)) fun z=>by rw[z,ha] at b3;cases b3;exact absurd b4 (by simp)),b4,b5,b6⟩
  have hok2:HOk P w K (Np tabs H) s₁.heap:=fun b u e=>by
   by_cases z:b∈tabs.map (·.1)
   ·obtain⟨q,hq,rfl,e2⟩:=U4 (H:=H) z
    rw[e2] at e
    cases e
    exact⟨#[],(hT q hq).1,trivial,fun pos cv z=>by simp[codeAmong] at z⟩
   ·rw[Hy z] at e
    rcases hO b with n|⟨o,xs,n⟩
    ·rw[n] at e;cases e
    ·rw[n] at e
     cases e
     exact hok b _ n
  have e0:Env0 P w K mg (Afy s₁.heap (Np tabs H)) callerA [] s₁ (Np tabs H):=⟨rfl,hM,fun b o e=>An6 e,Nat.le_of_eq (Aa5 _ _),trivial,fun b hb=>absurd (show b∈([]:List Addr) from hb) (by simp),hok2,.of_eq hg⟩
  have hS2:KL K (Np tabs H) a (ns.map V.int):=hS.elim (fun⟨o,z⟩=>.inl ⟨o,by rw[Hy aT];exact z⟩) .inr
  have sp0:spT tabs K 1 fn [.ref a] (Np tabs H) (fun v _=>v=.bl true) E0:=⟨fun q hq=>by
    obtain⟨q',hq',e1,e2⟩:=U4 (H:=H) (Bfs (f:=(·.1)) hq)
    have hqq:q'=q:=Aca hnd hq' hq e1
    subst hqq
    exact⟨#[],by rw[e2];simp⟩,[.kl (ns.map D.int)],.bl true,.cons (.kl hS2 (hrep _)) .nil,rfl,hfn,fun v H' _ r=>by cases r;rfl⟩
  refine codeAny_mono ((F _ hKb (nsK hns) hbm').run callerA [] s₁ (Np tabs H) ⟨[.ref a],[]⟩ [.ref a] [.ref a] _ _ hr e0 (hbind s₁ (.ref a)) (.cons rfl .nil) sp0) fun r s' h=>?_
  cases r with
  |error e=>exact h.elim
  |ok fl =>
   cases fl with
   |next=>exact False.elim h
   |brk=>exact False.elim h
   |cont=>exact False.elim h
   |ret u =>
    obtain⟨v,H',os,bare,un,hok',r',q⟩:=h
    have q':v=.bl true:=q
    subst q'
    obtain rfl:u=Value.bool true:=r'
    refine⟨rfl,⟨fun b o e=>?_,fun b o e=>un.there b o e (by simp)⟩,os,bare⟩
    by_cases z:b∈tabs.map (·.1)
    ·obtain⟨q,hq,rfl,e2⟩:=U4 (H:=H) z
     obtain⟨more,e3⟩:=un.tbls _ _ e2
     obtain⟨ps,e4,_⟩:=hok' _ _ e3
     rw[(hT q hq).1] at e
     cases e
     exact .inr (.inl ⟨(hT q hq).2,rfl,#[],ps,rfl,by rw[e4];simp⟩)
    ·refine .inl ?_
     cases q:Np tabs H b with
     |none=>exact un.keep b o e q (by intro z;exact absurd (show b∈([]:List Addr) from z) (by simp)) (by simp)
     |some u =>
      have q0:=q
      rw[Hy z] at q0
      rcases hO b with n|⟨ob,xs,n⟩
      ·rw[n] at q0;cases q0
      ·rw[n] at q0
       cases q0
       have z2:=un.frzs b ob _ q
       obtain⟨e1,_⟩:=hok b _ n
       obtain⟨e2,_⟩:=hok' b _ z2
       rw[e] at e1;cases e1
       exact e2
 cases hk:K.lookup a with
 |some o =>
  have e:=KX a o hk
  rw[ha] at e
  cases e
  refine core (fun _=>none) (fun _=>.inl rfl) (.inr ⟨_,vs.toArray,_,hk,rfl,rfl,rfl,by rw[Bem,lenV];exact hl,by simpa using rv⟩) (fun b u z=>by have z':(none:Option HO)=some u:=z;cases z') (fun b z=>absurd rfl z) fun z=>absurd rfl z
 |none =>
  refine core (fun b=>if b=a then some (.frz { cls:=.type "list",data:=.seq vs.toArray } (.lst (ns.map V.int))) else none) (fun b=>?_) (.inl ⟨{ cls:=.type "list",data:=.seq vs.toArray },Bef rfl⟩) (fun b u z=>?_) (fun b z=>?_) fun _=>hk
  ·by_cases hb:b=a
   ·exact .inr ⟨_,_,Bef hb⟩
   ·exact .inl (Beg hb)
  ·by_cases hb:b=a
   ·have z':=(Bef hb).symm.trans z
    cases z'
    subst hb
    exact⟨ha,by rw[Bel];exact hl,vs,_,rv,ha⟩
   ·have z':=(Beg hb).symm.trans z
    cases z'
  ·by_cases hb:b=a
   ·exact hb
   ·exact absurd (Beg hb) z
theorem Ait {l:W.OpenLaw}{n k:Nat}{q:Program}{loose:List Str}{XP:(Str->Option Value)->Heap->Prop}{YP:World->Heap->Prop}{d:DefRec}{K:Params->W.Frag}{ts:List Addr}{fn:List D->Option D}{x:Str}
  (hn:l.most=some n) (hn2:n<=sizeLine) (hdf:d.params.defaults=[]) (hr:Room k callerA)
  (hY:∀ (w:World) (h:Heap),YP w h->(K w.params).In h/\∀ P∈ts,h.get? P=some (W.tabObj #[])) (hNT:∀ w:World,W.noTabs (K w.params)=true)
  (F:∀ (w:World) (mg:Str->Option Value) (fa:Addr) (h:Heap),(K w.params).In h->h.Ns mainGlobals mg->mg d.name=some (.ref fa) ->
   ∃ (fd:FuncData) (tabs:List (Addr×Str)),(∀ (s:Shared) (u:Value),BindsTo s fd ⟨[u],[]⟩ [(x,u)])/\(∀ q∈tabs,q.1∈ts/\isCodeTable h q.1)/\(tabs.map (·.1)).Nodup /\
    ∀ base:Heap,(K w.params).In base->base.Ns mainGlobals mg->Mz mg base->FnOk l.prog w (K w.params) mg base CX0 k fa fd [x] (spT tabs (K w.params) 1 fn))
  (hfn:∀ ns:List Int,ns.length<=n->fn [.kl (ns.map D.int)]=some (.bl true)) (hrep:∀ (w:World) (H:Hp) (ns:List Int),Reps (K w.params) H [] (fun _=>False) (ns.map D.int) (ns.map V.int)) :
  W.WalkO q loose XP YP l.row.toRowW d [] (fun f vs=>PySem.call f vs):=by
 refine Att.attach_call hn hdf fun w s₀ s₁ mg mb fa o pm cd doc a vs ns G Y ho hd hcd hmg hobj hints hlen hg=>?_
 obtain⟨KX,hT⟩:=hY w _ Y
 obtain⟨fd,tabs,hb,h1,h2,hF⟩:=F w mg fa _ KX G.T.g hmg
 exact Abj KX G.T.g G.T.b G.T.builtins G.T.nolimit G.T.bmain hg (fun q hq=>⟨hT _ (h1 q hq).1,(h1 q hq).2⟩) h2 (hNT w) hobj hints (Bez hlen hn2) hr hF hb (hfn ns hlen) fun H=>hrep w H ns
theorem Pp {K:W.Frag}{h:Heap}{c P:Addr} (X:K.In h) (e:W.codeHdIn K c P=true):isCodeTable h P:=by
 obtain⟨o,vs,file,tf,flags,tg,inF,text,tt,e1,r1,r2,r3,_⟩:=W.codeHd_of_K X e
 exact⟨c,o,vs,e1,r1,r2,r3⟩
def RawAt (h:Heap) (d:Addr) (es:Array DictEntry) (ep:Nat):Prop:=∃ o,h.get? d=some o/\o.ExactDict/\o.data=.dict es ep
section
variable {prog:Program}{w:World}{A:Around}{E:Value->Shared->Prop}{s:Shared}
theorem J1 {d:Addr}{es:Array DictEntry}{ep:Nat}{Q:Value->Shared->Prop} (hd:(d == sysModules)=false) (hm:RawAt s.heap d es ep)
  (hQ:Q (.ref s.heap.objs.size) { s with heap:=s.heap.push { cls:=.type "dict_keyiterator",data:=.fields #[.ref d,.int 0 0,.int es.size 0,.int ep 0] } }) :
  wpAny (model prog w) A (pyIter (.ref d)) Q E s:=by
 obtain⟨o,ho,hc,hdat⟩:=id hm
 have hT:s.TypeIs (.ref d) "dict":=⟨o,ho,hc.1⟩
 refine wpAny_pyIter_slot hT F.slot_dict_iter (Bgq F.slot_dict_iter hT F.entry_dict_iter ?_ (F.args_dict_iter_1 _))
 unfold Builtin.«dict.__iter__»
 refine Bea ?_
 unfold Builtin.Dict.dictSlotNone
 refine Bea (wpAny_notOrdered_dict hT ?_)
 show wpAny _ _ (pure (Value.ref d)) _ _ s
 refine Bek ?_
 show wpAny _ _ (Builtin.Dict.showsAll d >>= _) _ _ s
 unfold Builtin.Dict.showsAll
 rw[Beg (by rw[hd];exact Bew)]
 refine Bea (Bek ?_)
 refine Bea (wpAny_dictEntries ho hdat ?_)
 refine Bea (wpAny_dictEpoch ho hdat ?_)
 have hsz:es.size=es.size:=rfl
 refine Bea (Bfw (Bek ⟨_,rfl,"dict_keyiterator",_,⟨_,Beq _ rfl,rfl⟩,F.slot_dict_keyiterator_next.lookup,?_⟩))
 simpa [rawInt,hsz] using hQ
theorem Gr {it d:Addr}{i ep:Nat}{es:Array DictEntry}{Q:Option Value->Shared->Prop} (hit:s.heap.IsKeyIter it d i es.size ep)
  (hm:RawAt s.heap d es ep) (hlt:i < es.size)
  (hQ:∀ key h',es[i]?.map (·.key)=some key->h'.IsKeyIter it d (i+1) es.size ep->Heap.SameBut it s.heap h'->Q (some key) { s with heap:=h' }) :
  wpAny (model prog w) A (pyNext (.ref it)) Q E s:=by
 obtain⟨o,ho,hc,hd⟩:=id hit
 obtain⟨od,hod,hcd,hdd⟩:=id hm
 unfold pyNext
 refine Bea (wpAny_attempt (Bgx (name:=Str.ofString "__next__") hit.typeIs Bgc
  (Bgq Bgc hit.typeIs F.entry_dict_keyiterator_next ?_ (F.args_dict_keyiterator_next_1 _))))
 refine Bea (Bek ?_)
 refine Bea ?_
 refine Bea ?_
 first|refine Bea (Bf7 hit.typeIs (Bek ?_))|refine Bea (Bgr hit.typeIs (Bek ?_))
 refine Bea (wpAny_fieldsOf ho hd ?_)
 have hown:Builtin.Dict_items.ownsTuple "dict_keyiterator"=false:=by decide
 simp only[hown,Bfz,Bgm]
 show wpAny _ _ (if (Value.ref d == Value.none)=true then _ else _) _ _ s
 rw[Beg (show ¬ ((Value.ref d == Value.none)=true) from Bew)]
 refine Bea (Bek ?_)
 refine Bea (wpAny_dictEntries hod hdd ?_)
 have hsz:es.size=es.size:=rfl
 rw[Beg (by simp)]
 refine Bea (Bek ?_)
 refine Bea (wpAny_dictEpoch hod hdd ?_)
 rw[Beg (by simp)]
 refine Bek ?_
 have hlt':i < es.size:=hlt
 have hkey:es[i]?.map (·.key)=some es[i].key:=by simp[hlt']
 simp only[show ¬ ((i:Int) < 0) from by lia,Bgm,Int.toNat_natCast,Array.getElem?_eq_getElem hlt']
 refine Bea ?_
 first|refine Bea (Bf7 hit.typeIs (Bek ?_))|refine Bea (Bgr hit.typeIs (Bek ?_))
 refine Bea (wpAny_isOneOf_keyiter hit.typeIs ?_)
 show wpAny _ _ (setField (.ref it) 1 (rawInt ((i:Int)+1)) >>= _) _ _ s
 refine Bea (wpAny_setField ho hd (by simp) ?_)
 have hit':(s.heap.update it (Obj.mapFields (·.setIfInBounds 1 (rawInt ((i:Int)+1))))).IsKeyIter it d (i+1) es.size ep :=
  ⟨_,Heap.get?_update_self _ ho (Obj.isFreed_of_fields (Obj.data_mapFields hd _)),(Obj.cls_mapFields ..).trans hc,by rw[Obj.data_mapFields hd];simp[rawInt]⟩
 refine Bea (Bgi ?_)
 refine Bea (wpAny_isOneOf_keyiter (s:={ s with heap:=s.heap.update it (Obj.mapFields (·.setIfInBounds 1 (rawInt ((i:Int)+1)))) }) hit'.typeIs ?_)
 show wpAny _ _ (pure es[i].key) _ _ _
 exact Bek (Bek ⟨_,rfl,Bek (hQ _ _ hkey hit' (Heap.SameBut.update ..))⟩)
theorem G0 {it d:Addr}{i ep:Nat}{es:Array DictEntry}{Q:Option Value->Shared->Prop} (hh:A.handled=none) (hit:s.heap.IsKeyIter it d i es.size ep)
  (hm:RawAt s.heap d es ep) (hge:es.size<=i)
  (hQ:∀ h',Heap.ExtBut it s.heap h'->Q none { s with heap:=h' }):wpAny (model prog w) A (pyNext (.ref it)) Q E s:=by
 obtain⟨o,ho,hc,hd⟩:=id hit
 obtain⟨od,hod,hcd,hdd⟩:=id hm
 unfold pyNext
 refine Bea (wpAny_attempt (Bgx (name:=Str.ofString "__next__") hit.typeIs Bgc
  (Bgq Bgc hit.typeIs F.entry_dict_keyiterator_next ?_ (F.args_dict_keyiterator_next_1 _))))
 refine Bea (Bek ?_)
 refine Bea ?_
 refine Bea ?_
 first|refine Bea (Bf7 hit.typeIs (Bek ?_))|refine Bea (Bgr hit.typeIs (Bek ?_))
 refine Bea (wpAny_fieldsOf ho hd ?_)
 have hown:Builtin.Dict_items.ownsTuple "dict_keyiterator"=false:=by decide
 simp only[hown,Bfz,Bgm]
 show wpAny _ _ (if (Value.ref d == Value.none)=true then _ else _) _ _ s
 rw[Beg (show ¬ ((Value.ref d == Value.none)=true) from Bew)]
 refine Bea (Bek ?_)
 refine Bea (wpAny_dictEntries hod hdd ?_)
 have hsz:es.size=es.size:=rfl
 rw[Beg (by simp)]
 refine Bea (Bek ?_)
 refine Bea (wpAny_dictEpoch hod hdd ?_)
 rw[Beg (by simp)]
 refine Bek ?_
 simp only[show ¬ ((i:Int) < 0) from by lia,Bgm,Int.toNat_natCast,Array.getElem?_eq_none hge]
 refine Bea ?_
 first|refine Bea (Bf7 hit.typeIs (Bek ?_))|refine Bea (Bgr hit.typeIs (Bek ?_))
 show wpAny _ _ (setField (.ref it) 0 .none >>= _) _ _ s
 refine Bea (wpAny_setField ho hd (by simp) ?_)
 show wpAny _ _ (newExc (.type "StopIteration") [] >>= _) _ _ _
 refine Bea ?_
 simp only[newExc,newTuple]
 refine Bea (Bfw ?_ (by size_fits))
 refine Bea (m:=firstArgMember _ _) (wpAny_of_eq (a:=Value.none) (by first|rfl|(simp only[firstArgMember];rfl)) ?_)
 refine Bfw ?_ (by size_fits)
 simp only[raiseNew]
 refine Bea (wpAny_handled ?_)
 rw[show A.in1.handled=none from hh]
 refine Bea (Bek (wpAny_throw ?_))
 refine Bea (wpAny_isInstance (T:="StopIteration") (b:=true) ⟨_,Beq _ rfl,rfl⟩ isSubtype_stop ?_)
 exact Bek (hQ _ (((Heap.SameBut.update ..).extBut.push _).push _))
theorem RawAt.at' {h h':Heap}{d:Addr}{es:Array DictEntry}{ep:Nat} (x:RawAt h d es ep) (e:∀ o,h.get? d=some o->h'.get? d=some o):RawAt h' d es ep:=let ⟨o,ho,r⟩:=x;⟨o,e _ ho,r⟩
theorem RawAt.lt {h:Heap}{d:Addr}{es:Array DictEntry}{ep:Nat} (x:RawAt h d es ep):d < h.objs.size:=let ⟨_,ho,_⟩:=x;Ben ho
theorem Aes (hh:A.handled=none) (I d:Addr) (hne:d≠I) (es:Array DictEntry) (ep:Nat) :
  Walks prog w A I [I,d] [I] es.size (fun i v=>es[i]?.map (·.key)=some v) (fun i h=>h.IsKeyIter I d i es.size ep/\RawAt h d es ep) where
 sub:=fun b hb=>by simp at hb;simp[hb]
 frame:=fun _ _ _ st hk=>⟨st.1.at fun o e=>hk I (by simp) o e,st.2.at' fun o e=>hk d (by simp) o e⟩
 item:=fun i s Q E hi st hQ=>Gr st.1 st.2 hi fun key h' hkey hit' hs'=>hQ key h' s.toks hkey ⟨hit',st.2.at' fun o e=>hs'.extBut d o hne e⟩ fun b o hb e=>hs'.extBut b o (fun h=>hb (by simp[h])) e
 done:=fun s Q E st hQ=>G0 hh st.1 st.2 (Bej _) fun h' he'=>hQ h' s.toks fun b o hb e=>he' b o (fun h=>hb (by simp[h])) e
 self:=fun _ _ _ _ st hQ=>wpAny_pyIter_keyiter st.1 hQ
theorem Aqi {d:Addr}{es:Array DictEntry}{ep:Nat} (lo:(d == sysModules)=false):W.KdlSrc prog w "dict" d d es.size (fun i v=>es[i]?.map (·.key)=some v) (fun h=>RawAt h d es ep) where
 type:=fun _ hm=>let ⟨o,ho,hc,_⟩:=hm;⟨o,ho,hc.1⟩
 there:=fun _ hm=>⟨hm.lt,hm.lt⟩
 keep:=fun _ _ hm hk=>hm.at' fun o e=>hk d (.inl rfl) o e
 notList:=by decide
 notTuple:=by decide
 hint:=fun _ _ _ _ hm hq=>W.kdl_hint_dict (let ⟨o,ho,hc,_⟩:=hm;⟨o,ho,hc.1⟩) hq
 iter:=fun _ _ hh hm=>⟨_,_,(fun _ _ hq=>J1 lo hm hq),Aes hh _ d (Be0 hm.lt) es ep,⟨⟨_,Beq _ rfl,rfl,rfl⟩,hm.at' fun o e=>Bec _ e⟩⟩
end
mutual
def dOf:PyData->D
 |.none=>.non|.bool b=>.bl b|.int i=>.int i|.str x=>.str x|.tuple ds=>.tup (Yv ds)|.list ds=>.lst (Yv ds)|.dict _=>.non
def Yv:List PyData->List D
 |[]=>[]
 |d::ds=>dOf d::Yv ds
end
mutual
theorem Aan:∀ {d:D},Bc d=true->dOf (pyD d)=d
 |.non,_=>rfl
 |.bl _,_=>rfl
 |.int _,_=>rfl
 |.str _,_=>rfl
 |.tup ds,h=>by rw[pyD,dOf,Uy h]
 |.lst _,h=>Ce h
 |.kl _,h=>Ce h
 |.ref _,h=>Ce h
 |.dic _ _,h=>Ce h
 |.fn _ _,h=>Ce h
theorem Uy:∀ {ds:List D},A3 ds=true->Yv (Cf ds)=ds
 |[],_=>rfl
 |d::ds,h=>by
  have h:=Bool.and_eq_true_iff.mp h
  rw[Cf,Yv,Aan h.1,Uy h.2]
end
theorem Xh {K:W.Frag}{H:Hp}{μ:List Addr}{B:Addr->Prop} (d:PyData):∀ {v:V},kOk d=true->KeyH K H d v->Rep K H μ B (dOf d) v:=by
 match d with
 |.int i=>intro v _ h;cases h;exact .int _
 |.str x=>intro v k h;cases h;exact .str _ k
 |.tuple ds =>
  intro v k h
  cases h with
  |@tup _ a vs hs hp =>
  refine .tup hs ?_
  have go:∀ (es:List PyData) (us:List V),(∀ e∈es,e∈ds)->Nr es=true->Paired (KeyH K H) es us->Reps K H μ B (Yv es) us:=by
   intro es us hm hk q
   induction q with
   |nil=>exact .nil
   |@cons e u es us h1 h2 ih =>
    have hk:=Bool.and_eq_true_iff.mp hk
    exact .cons (Xh e hk.1 h1) (ih (fun x hx=>hm x (Bed _ hx)) hk.2)
  exact go ds vs (fun _ h=>h) k hp
 |.none=>intro v k h;cases h
 |.bool _=>intro v k h;cases h
 |.list _=>intro v k h;cases h
 |.dict _=>intro v k h;cases h
termination_by sizeOf d
decreasing_by
 have:=Bfy (hm e (Beb ..))
 simp;lia
theorem Ajg {K:W.Frag}{H:Hp}{μ:List Addr}{B:Addr->Prop}:∀ {kvs:List (PyData×V)}{xs:List (PyData×Addr×Value)},KT K H kvs xs->Reps K H μ B (Yv (kvs.map (·.1))) (xs.map fun q=>V.ref q.2.1)/\Vals (xs.map fun q=>V.ref q.2.1) (xs.map fun q=>Value.ref q.2.1)
 |_,_,.nil=>⟨.nil,.nil⟩
 |_,_,.cons h r=>by
  obtain⟨h1,h2⟩:=Ajg r
  refine⟨?_,.cons rfl h2⟩
  rw[Bee,Bee,Yv,h.1]
  exact .cons (Xh _ h.2.1.1 h.2.1.2.2.2) h1
section
variable {X:Cx}{pins:List (Addr×Obj)}{σ:St}{H:Hp}{s:Shared}{μ:List Addr}{m:MH}{k:Nat}{f:Addr}{fd:FuncData}{ps:List Str}{fn:List D->Option D}{b:Bool}
theorem Uw {l:Addr}{ds ks out:List D} (F:FnOk X.prog X.w X.K X.mg X.base CX0 k f fd ps (spP X.K 1 fn)) (hr:Room (k+2) X.A) (hb:Binds X.K fd ps []) (I:Inv X pins σ H s) (S:Sim X.K H μ m) (hL:Rd H l (.dT kvs)) (ed:ds=Yv (kvs.map (·.1))) (ha1:argsOk "sorted" ⟨[.ref l],kw⟩) (ha2:∀ x,argsOk "list.sort" ⟨[.ref x],kw⟩) (ht:∀ x,Builtin.«list.sort» ⟨[.ref x],kw⟩=ksk_tree x (.ref f) b) (hK:Oz fn m ds=some ks) (h64:ds.length < 64) (hI:ks.all Ajf=true) (hn:Ba ks=true) (hd:Ei ks<=20) (ho:T9 b ds ks=some out) (hz0:out.length < 64) (q:∀ a ys H',Same H H'->H a=none->H' a=some (.lst ys)->Reps X.K H' μ (nw μ a) out ys->Q (.ref a) H'):wpAny (model X.prog X.w) X.A (call (.builtin "sorted") [.ref l] kw) (EP X pins σ Q) X.xe s:=by
 have hline:sizeLine=16777216:=Bf4
 obtain⟨_,hsm,xs,rkt,o,es,ep,e1,e2,e3,e4,_⟩:=Afu I hL
 obtain⟨rs,ri⟩:=Ajg (μ:=μ) (B:=(·∈μ)) rkt
 rw[<- ed] at rs
 have l2:=rs.length
 have les:es.size=xs.length:=by rw[<- Bfu,e4,Bel]
 rw[Bel] at l2
 refine call_function_entry_kw kind_sorted plain_sorted entry_sorted ha1 ?_
 unfold Builtin.«sorted»
 refine Bea (m:=checkCount "sorted" 1 1 _) (Bek (Bea (W.kdu_collect (Aqi (es:=es) (ep:=ep) hsm) hr.in1.hd ⟨o,e1,e2,e3⟩ (by lia) fun h' tk acc hk hacc=>?_)))
 have eacc:acc.toList=xs.map fun q=>Value.ref q.2.1:=by
  refine Bgv fun i=>?_
  by_cases hi:i < acc.size
  ·have h1:es[i]?.map (·.key)=some acc[i]:=hacc.2 i acc[i] (by simp[hi])
   have hi2:i < xs.length:=by rw[<- les,<- hacc.1];exact hi
   have h3:es[i]?=some (entryOfKey (Gx X.prog X.w) xs[i]):=by rw[<- Array.getElem?_toList,e4,Bey];simp[hi2]
   rw[h3] at h1
   simp only[Option.map_some,Bgt,entryOfKey] at h1
   rw[Bey,Array.getElem?_toList]
   simp[hi,hi2,<- h1]
  ·have hi2:xs.length<=i:=by rw[<- les,<- hacc.1];lia
   rw[Be3 (by simpa using hi),Be3 (by simpa using hi2)]
 rw[eacc]
 refine Bea (wpAny_newList ?_ (by rw[Bel];lia))
 have I0:=I.kept (h':=h') (t':=tk) hk
 have hD0z:=I0.sz
 have kp:∀ c o,s.heap.get? c=some o->(h'.push (seqObj "list" (xs.map fun q=>Value.ref q.2.1).toArray 0)).get? c=some o:=fun c o h=>Bec _ (hk c o h)
 have hg:(h'.push (seqObj "list" (xs.map fun q=>Value.ref q.2.1).toArray 0)).get? h'.objs.size=some (seqObj "list" (xs.map fun q=>Value.ref q.2.1).toArray 0):=Beq _ rfl
 have I1:=I.kept (t':=tk) kp
 have hfree:H h'.objs.size=none:=I0.hok.fresh (Bej _)
 have hy:∀ p∈X.pn++pins,p.1≠h'.objs.size:=fun p hp=>Be0 (Ben (I0.pin p hp).1)
 have I2:Inv X ((h'.objs.size,seqObj "list" (xs.map fun q=>Value.ref q.2.1).toArray 0)::pins) σ H { s with heap:=h'.push (seqObj "list" (xs.map fun q=>Value.ref q.2.1).toArray 0),toks:=tk }:=I1.pins_of fun p hp=>by
  rcases List.mem_cons.mp hp with rfl|hp
  ·exact⟨hg,hfree,Bg9 I0.lt,I0.nofs (Bej _),fun v z=>by cases z⟩
  ·exact I1.pin p (Bei _ hp)
 show wpAny (model X.prog X.w) X.A.in1 _ _ _ { s with heap:=h'.push (seqObj "list" (xs.map fun q=>Value.ref q.2.1).toArray 0),toks:=tk }
 refine Bea (Bgi (wpAny_call_entry_kw slot_list_sort ⟨_,hg,rfl⟩ entry_list_sort ?_ (ha2 _)))
 have ht':=ht h'.objs.size
 show wpAny (model X.prog X.w) X.A.in1.in1 (Builtin.«list.sort» ⟨[.ref h'.objs.size],kw⟩) _ _ _
 rw[ht']
 refine Zv (s:={ s with heap:=h'.push (seqObj "list" (xs.map fun q=>Value.ref q.2.1).toArray 0),toks:=tk }) F hr.in1.in1 (fun s H e=>e.in1.in1) hb I2 S hD0z hy ri rs hK h64 hI hn hd ho fun s' H1 c ys ws s1 I' r1 r2=>?_
 have hf1:H1 h'.objs.size=none:=(I'.pin (h'.objs.size,seqObj "list" (List.toArray ws) c) (Bei _ (Beb ..))).2.1
 have lo:ys.length<=sizeLine:=by have:=r2.length;lia
 exact⟨_,rfl,Bek ⟨_,rfl,.ref h'.objs.size,upd H1 h'.objs.size (.lst ys),Inv.adopt I' hD0z hy r1 lo,rfl,q h'.objs.size ys _ (s1.trans (Bk hf1)) hfree A8 (r2.fresh hf1)⟩⟩
end
section
variable {X:Cx}{e:Expr}{pos p p' kp kp' cp:Pos}{x:Str}{k:Nat}{f:Addr}{fd:FuncData}{ps:List Str}{fn:List D->Option D}{b:Bool}
def L7 (fn:List D->Option D):List D->MH->Option (List D):=fun xs m=>match xs with
 |[d]=>(Ra m d).bind fun kv=>(Oz fn m (Yv (Cf kv.1))).bind fun ks=>(T9 false (Yv (Cf kv.1)) ks).bind fun out=>if (Yv (Cf kv.1)).length < 64/\ks.all Ajf=true/\Ba ks=true/\Ei ks<=20/\out.length < 64 then some out else none
 |_=>none
theorem Ag8 (F:FnOk X.prog X.w X.K X.mg X.base CX0 k f fd ps (spP X.K 1 fn)) (hr:Room (k+2) X.A) (hgf:Gl X x) (hmf:X.mg x=some (.ref f)) (hb:Binds X.K fd ps []) (hdb:(x == ("__debug__":Str))=false) (hg:Gl X "sorted") (hm:X.mg "sorted"=none) (ha:PL X [e] g) (he:starEach [e] X.env=(false,eval e X.env)::starEach [] X.env) :
  PF X (.Call (.Name "sorted" p) [e] [⟨some "key",.Name x p',kp⟩] pos) (G4 (L7 fn) g):=by
 intro pins s σ H Q I h
 obtain⟨env,μ,m,d,S,E,h,q⟩:=h
 obtain⟨xs,h1,h2⟩:=bind_some h
 refine Bfl (Jq I hg hm boot_sorted ?_ (by decide) (by decide))
 refine PyProof.Rows.callWith_kw (thn (ha pos pins s σ H (fun vs H1=>Same H H1/\Reps X.K H1 μ (·∈μ) xs vs) I ⟨env,μ,m,xs,S,E,h1,fun v H1 s1 r1=>⟨s1,r1⟩⟩) fun us s1 ⟨vs,H1,I1,r1,s1',rx⟩=>?_) (by rw[he];rfl) (by rw[he];rfl) rfl rfl
 refine kws_cons (O0 I1 hgf hmf (kws_nil ?_) hdb)
 match xs,h2 with
 |[d'],h2 =>
  obtain⟨⟨ks0,vs0⟩,h3,h2⟩:=bind_some h2
  obtain⟨ks,h4,h2⟩:=bind_some h2
  obtain⟨out,h5,h2⟩:=bind_some h2
  split at h2
  ·rename_i hc
   cases h2
   obtain⟨v,rfl,r⟩:=rx.one
   obtain⟨a,kvs,rfl,hq,hk,_⟩:=U1 (S.same s1') r h3
   obtain⟨u,rfl,r2⟩:=Gz r1
   cases r2
   exact Uw F hr hb I1 (S.same s1') hq (by rw[hk]) (ksk_s1 _ _) (fun y=>ksk_l1 _ _) (fun y=>ksk_t1 _ _) h4 hc.1 hc.2.1 hc.2.2.1 hc.2.2.2.1 h5 hc.2.2.2.2 fun a ys H' s2 hn hx rr=>q a ys H' (s1'.trans s2) (s1'.free hn) hx rr
  ·exact Ak h2
theorem Atn (F:FnOk X.prog X.w X.K X.mg X.base CX0 k f fd ps (spP X.K 1 fn)) (hr:Room (k+2) X.A) (hmf:X.mg x=some (.ref f)) (hb:Binds X.K fd ps []) (hm:X.mg "sorted"=none) (ha:QL X [e] g) (hg:Gl X "sorted":=by unfold Gl;kernel_rfl) (hgf:Gl X x:=by unfold Gl;kernel_rfl) (hdb:(x == ("__debug__":Str))=false:=by decide) (he':Bj e=true:=by rfl) :
  QF X (.Call (.Name "sorted" p) [e] [⟨some "key",.Name x p',kp⟩] pos) (G4 (L7 fn) g):=⟨Ag8 F hr hgf hmf hb hdb hg hm ha.out (Au he')⟩
end
section
variable {X:Cx}{pins:List (Addr×Obj)}{σ:St}{H:Hp}{s:Shared}{h':Heap}
theorem Inv.turnLay {t':Nat}{fp:List Addr}{p:Addr}{o:HO} (I:Inv X pins σ H s) (hf:∀ b∈fp,Ae6 X pins H b) (k:∀ b o,b∉fp->s.heap.get? b=some o->h'.get? b=some o) (hp:s.heap.objs.size<=p)
  (new:ObjOk X.prog X.w X.K (upd H p o) h' p o):Inv X pins σ (upd H p o) { s with heap:=h',toks:=t' }:=by
 have hn:H p=none:=I.hok.fresh hp
 have nit:∀ b u,H b=some u->b∉fp:=fun b u e z=>by rw[(hf b z).1] at e;cases e
 have same:∀ b u,H b=some u->upd H p o b=some u:=fun b u e=>by rw[A0 (Az e hn)];exact e
 refine I.step (g':=s.gens) (d':=s.drawn) (ch:=fp) (fun b hb=>?_) (fun b o _ _ hc e _=>k b o hc e) (fun b o _ _ hc e _=>⟨o.slots,k b o hc e⟩) (fun b o _ e n=>?_)
  (fun b o hc e=>⟨o,k b o hc e⟩) (fun b xs e=>same b _ e) (fun b x u e=>same b _ e) (fun b ps e=>⟨#[],by rw[same b _ e];simp⟩) (fun m hm=>?_) (fun b u e=>?_) I.bare
 ·obtain⟨_,q1,q2,q3,q4,q5⟩:=hf b hb
  exact⟨q3,q1,q4,q5⟩
 ·rw[A0 (Be0 (Ber (Ben e) hp))];exact n
 ·obtain⟨o,es,ep,ho,r⟩:=hm
  exact⟨o,es,ep,k _ o (fun z=>(hf _ z).2.1 rfl) ho,r⟩
 ·by_cases hb:b=p
  ·subst hb
   rw[A8] at e
   cases e
   exact new
  ·rw[A0 hb] at e
   refine (I.hok b u e).stay (fun c v hc q=>k c v ?_ q) (fun c q=>same _ _ q) (fun c xs q=>Rd.upd_none hn q) fun c x w q=>same _ _ q
   rcases hc with z|z
   ·rw[z];exact nit b u e
   ·exact nit c _ z
def Ite (K:W.Frag) (a:Addr):It :=
 ⟨fun i H=>∃ xs x,SqL K H a xs/\xs[i]?=some x,fun i H x H'=>∃ p y,H p=none/\x=.ref p/\H'=upd H p (.tup [.int i,y])/\∀ xs,SqL K H a xs->xs[i]?=some y,fun i H=>∃ xs,SqL K H a xs/\xs.length<=i⟩
theorem Ael {P:Program}{w:World}{K:W.Frag}{elts:List Expr}{x1:Nat}{pos:Pos} (a e it:Addr) (hne:e≠it):Turn P w K (.Tuple elts x1 pos) (Ite K a) [e,it] e (fun i h=>∃ old,IsEnum h e it i old/\h.IsListIter it a i) where
 mem:=by simp
 obj:=fun i h st b hb=>by
  obtain⟨old,he,o,e1,c,d⟩:=st
  rcases List.mem_cons.mp hb with z|hb
  ·subst z
   exact⟨_,he,fun v z=>by cases z⟩
  ·have z:b=it:=by simpa using hb
   subst z
   exact⟨o,e1,fun v z=>by rw[d] at z;cases z⟩
 keep:=fun i h h' st k=>by
  obtain⟨old,he,hi⟩:=st
  exact⟨old,k e (by simp) _ he,hi.at fun o e=>k it (by simp) o e⟩
 item:=by
  intro X hP hw hK hc i pins s σ H E I hf st hg
  subst hP hw hK
  obtain⟨old,he,hi⟩:=st
  obtain⟨xs,x,hq,hx⟩:=hg
  obtain⟨its,rv,p,hz⟩:=I.list hq
  obtain⟨u,hu,ru⟩:=rv.get hx
  refine wpAny_pyNext_enum_item he hi p.isList (x:=u) (by simpa using hu) hne fun h1 ho1 hi1 ht1 hz1 hk1=>⟨_,rfl,?_⟩
  refine wpAny_letOwnedTupleGo_enum ho1 fun h2 he2 hs2=>?_
  have hs2:Heap.SameBut e h1 h2:=hs2
  have hlt:e < s.heap.objs.size:=Ben he
  have ht2:h2.get? s.heap.objs.size=some { cls:=.type "tuple",data:=.seq #[.int i s.toks,u] }:=(hs2.2 _ (Bg9 hlt)).trans ht1
  have I1:Inv X pins σ (upd H s.heap.objs.size (.tup [.int i,x])) { s with heap:=h2,toks:=s.toks+1 } :=
   Inv.turnLay (t':=s.toks+1) I hf (fun b o hb z=>(hs2.2 b (fun q=>hb (by simp[q]))).trans (hk1 b o (fun q=>hb (by simp[q])) (fun q=>hb (by simp[q])) z)) (Bej _)
    ⟨by simp[Bf4],[.int i s.toks,u],.cons ⟨_,rfl⟩ (.cons ru .nil),⟨_,ht2,rfl,_,rfl⟩⟩
  obtain⟨oi,hoi,ci,di⟩:=id hi1
  refine⟨.ref s.heap.objs.size,_,I1,rfl,⟨_,x,I.hok.fresh (Bej _),rfl,rfl,fun ys hy=>by rw[I.list_inj hy hq];exact hx⟩,⟨u,he2,oi,(hs2.2 it (Bgj hne)).trans hoi,ci,di⟩,fun b hb=>?_⟩
  have hbl:b < s.heap.objs.size:=by
   rcases List.mem_cons.mp hb with z|hb
   ·rw[z];exact hlt
   ·have z:b=it:=by simpa using hb
    rw[z]
    obtain⟨o,e1,_⟩:=hi
    exact Ben e1
  rw[A0 (Be0 hbl)]
  exact (hf b hb).1
 done:=by
  intro X hP hw hK hc i pins s σ H E I hf st hg
  subst hP hw hK
  obtain⟨old,he,hi⟩:=st
  obtain⟨xs,hq,hx⟩:=hg
  obtain⟨its,rv,p,hz⟩:=I.list hq
  obtain⟨f0,f1,f2,f3,f4,f5⟩:=hf it (by simp)
  have hl:=rv.length
  exact wpAny_pyNext_enum_end (I.ok.hd hc) he hi p.isList (by simp;lia) fun h' eb=>⟨rfl,I.turned (t':=s.toks) (fun b o hb e=>eb b o hb e) f0 f1 f3 f4 f5⟩
 self:=fun _ _ _ _ _ st h=>let ⟨_,he,_⟩:=st;wpAny_pyIter_enum he h
end
noncomputable def Hb:Nat->List D->List D
 |_,[]=>[]
 |i,d::ds=>.tup [.int i,d]::Hb (i+1) ds
theorem Re:∀ (i:Nat) (ds:List D),(Hb i ds).length=ds.length
 |_,[]=>rfl
 |i,_::ds=>by rw[Hb,Beh,Beh,Re (i+1) ds]
theorem Rc:∀ {i j:Nat}{ds:List D}{d:D},(Hb i ds)[j]?=some d->∃ x,ds[j]?=some x/\d=.tup [.int ((i+j:Nat):Int),x]
 |_,_,[],_,h=>by simp[Hb] at h
 |i,0,x::ds,d,h=>by simp[Hb] at h;exact⟨x,rfl,by rw[<- h];simp⟩
 |i,j+1,x::ds,d,h=>by
  rw[Hb,Bf5] at h
  obtain⟨y,h1,h2⟩:=Rc h
  exact⟨y,by simpa using h1,by rw[h2];congr 4;lia⟩
theorem Pm {K:W.Frag}{a:Addr}{ds:List D}{chk:MH->Prop}{src:Hp->List Addr->MH->Prop} (hsq:∀ H μ m,Sim K H μ m->src H μ m->chk m->∃ xs,SqL K H a xs/\Reps K H μ (·∈μ) ds xs)
  (hk:∀ H μ m H' μ' m',src H μ m->Sim K H μ m->Step H μ H' μ'->Sim K H' μ' m'->src H' μ' m') (hinj:∀ H xs ys,SqL K H a xs->SqL K H a ys->True):Src K (Ite K a) (Hb 0 ds) chk src where
 go:=fun H μ m i d S h hc e=>by
  obtain⟨xs,hq,rs⟩:=hsq H μ m S h hc
  obtain⟨y,hy,rfl⟩:=Rc e
  obtain⟨v,hv,rv⟩:=rs.get hy
  refine⟨⟨xs,v,hq,hv⟩,fun x H' hy'=>?_⟩
  obtain⟨p,z,hp,rfl,rfl,hz⟩:=hy'
  have hz':=hz xs hq
  rw[hv] at hz'
  cases hz'
  exact⟨Bk hp,.tup (.inl (.inl A8)) (.cons (by rw[Nat.zero_add];exact .int _) (.cons (rv.same (Bk hp)) .nil))⟩
 stop:=fun H μ m S h hc=>by
  obtain⟨xs,hq,rs⟩:=hsq H μ m S h hc
  exact⟨xs,hq,by rw[Re,rs.length];exact Bej _⟩
 keep:=hk
section
variable {X:Cx}{e:Expr}{es:List Expr}{pos p tp:Pos}{x1:Nat}{elts:List Expr}
def wEn (m:MH):D->Option Wk
 |.lst ds=>some ⟨Hb 0 ds,Bm⟩
 |.kl ds=>some ⟨Hb 0 ds,Bm⟩
 |.ref n=>(match m[n]? with
  |some (.lst ds)=>some ⟨Hb 0 ds,fun m'=>m'[n]?=some (.lst ds)⟩
  |_=>none)
 |_=>none
def Dt (g:FL):FW:=fun env m=>(g env m).bind fun xs=>match xs with
 |[d]=>wEn m d
 |_=>none
theorem Tt {g:FL} (hg:Gl X "enumerate") (hm:X.mg "enumerate"=none) (ha:PL X [e] g) (he:starEach [e] X.env=(false,eval e X.env)::starEach [] X.env):PW' X (.Tuple elts x1 tp) (.Call (.Name "enumerate" p) [e] [] pos) (Dt g):=by
 intro pins s σ H R I hw
 obtain⟨env,μ,m,w,S,E,hw,q⟩:=hw
 obtain⟨xs,h1,h2⟩:=bind_some hw
 refine Bfl (Jq I hg hm boot_enumerate ?_ (by decide) (by decide))
 refine PyProof.Rows.callWith_type1 (thn (ha pos pins s σ H (fun vs H1=>Same H H1/\Reps X.K H1 μ (·∈μ) xs vs) I ⟨env,μ,m,xs,S,E,h1,fun v H1 s1 r1=>⟨s1,r1⟩⟩) fun us s1 ⟨vs,H1,I1,r1,s1',rx⟩=>?_) he (by rfl)
 have lst:∀ {a:Addr}{ys:List V},us=[.ref a]->SqL X.K H1 a ys->R (Ite X.K a) H1->wpAny (model X.prog X.w) X.A (call (.type "enumerate") us) (fun v s1=>wpAny (model X.prog X.w) X.A (pyIter v) (PIE X pins σ (.Tuple elts x1 tp) R) X.xe s1) X.xe s1:=fun {a ys} e hq hR=>by
  subst e
  obtain⟨its,rv,p,hz⟩:=I1.list hq
  refine call_enumerate_list p.isList fun h' he' hi' hz' hk'=>?_
  refine wpAny_pyIter_enum he' ?_
  refine⟨s1.heap.objs.size+1,[s1.heap.objs.size+1,s1.heap.objs.size],_,_,H1,rfl,I1.kept (t':=s1.toks) hk',Ael a _ _ (Nat.succ_ne_self _),⟨_,he',hi'⟩,fun b hb=>?_,hR⟩
  have hb':s1.heap.objs.size<=b:=by
   rcases List.mem_cons.mp hb with z|hb
   ·rw[z];exact Nat.le_succ _
   ·have z:b=s1.heap.objs.size:=by simpa using hb
    rw[z];exact Bej _
  exact I1.fpOk hb' (I1.hok.fresh hb')
 match xs,h2 with
 |[d],h2 =>
  obtain⟨v,rfl,r⟩:=rx.one
  obtain⟨u,rfl,r2⟩:=Gz r1
  cases r with
  |@lst ds a ys hq hb rs =>
   cases r2
   cases h2
   exact lst rfl (.inl hq) (q H1 _ (fun H μ m=>Rep X.K H μ (·∈μ) (.lst ds) (.ref a)) s1' (Pm (fun H μ m S h _=>by cases h with|@lst _ _ zs hq _ rs=>exact⟨zs,.inl hq,rs⟩) (fun H μ m H' μ' m' h S st S'=>h.step S st) fun _ _ _ _ _=>trivial) (.lst hq hb rs))
  |@kl ds a ys hq rs =>
   cases r2
   cases h2
   exact lst rfl hq.sq (q H1 _ (fun H μ m=>Rep X.K H μ (·∈μ) (.kl ds) (.ref a)) s1' (Pm (fun H μ m S h _=>by cases h with|@kl _ _ zs hq rs=>exact⟨zs,hq.sq,rs⟩) (fun H μ m H' μ' m' h S st S'=>h.step S st) fun _ _ _ _ _=>trivial) (.kl hq rs))
  |@ref n a en =>
   cases r2
   unfold wEn at h2
   cases qn:m[n]? with
   |none=>simp[qn] at h2
   |some o =>
    cases o with
    |dct ks vs=>simp[qn] at h2
    |lst ds =>
     simp only[qn,Bgt] at h2
     subst h2
     obtain⟨ys,e1,e2⟩:=(S.same s1').obj n a _ en qn
     exact lst rfl (.inl (.inl e1)) (q H1 _ (fun H μ m=>μ[n]?=some a) s1' (Pm (fun H μ m S h hc=>by
      obtain⟨ys,e1,e2⟩:=S.obj n a _ h hc
      exact⟨ys,.inl (.inl e1),e2⟩) (fun H μ m H' μ' m' h S st S'=>st.ix h) fun _ _ _ _ _=>trivial) en)
  |non=>cases h2
  |bl _=>exact Ak h2
  |int _=>exact Ak h2
  |str _ _=>exact Ak h2
  |tup _ _=>exact Ak h2
  |dic _ _ _ _=>exact Ak h2
  |fn _=>exact Ak h2
theorem Um (hm:X.mg "enumerate"=none) (ha:QL X [e] g) (hg:Gl X "enumerate":=by unfold Gl;kernel_rfl) (hs':Bj e=true:=by rfl):QW X (.Tuple elts x1 tp) (.Call (.Name "enumerate" p) [e] [] pos) (Dt g):=⟨Tt hg hm ha.out (Au hs')⟩
end
noncomputable def Atx:List Expr->Option (Arguments×Expr×Scope)
 |[]=>none
 |.Lambda a b s _::_=>some (a,b,s)
 |_::es=>Atx es
def Ajh:Expr->Option (Arguments×Expr×Scope)
 |.Call _ es _ _=>Atx es
 |_=>none
def Xl:List Stmt->Option (Arguments×Expr×Scope)
 |[]=>none
 |.Assign _ e _::r=>(Ajh e).orElse fun _=>Xl r
 |.Return (some e) _::r=>(Ajh e).orElse fun _=>Xl r
 |_::r=>Xl r
def Ank (q:Str) (st:Stmt):Lam:=match Xl (By st) with
 |some (a,b,s)=>⟨q,a,b,s⟩
 |none=>⟨q,Df st,.Constant .none 0 ⟨0,0,0,0⟩,As st⟩
theorem Apt {P:Program}{w:World}{K:W.Frag}{mg:Str->Option Value}{base:Heap}{x qual:Str}{st:Stmt}{f:Addr}{fd:FuncData}{N ps:List Str}{k n:Nat}{tabs:List (Addr×Str)} (F:Fun K x qual st f fd) (S:FnScope N ps (As st)) (g:FS) (fn:List D->Option D) (hfn:fn=Cy N.length g) (hn:ps.length=n)
  (hbody:∀ (A:Around) (outer:List Env) (s:Shared) (H:Hp) (E:XK),TabsH tabs H->Room k (A.deeper (envOfC qual (As st) s.heap.objs.size f fd.code)) ->
   QSs (Uo CX0 P w K mg base N qual (As st) f fd.code A outer s H E).nox (By st) g):FnOk P w K mg base CX0 (k+1) f fd ps (spT tabs K n fn):=by
 subst hfn hn
 exact Afv F S fun A outer s H E hT hr=>(hbody A outer s H E hT hr).out
section
variable {X:Cx}{a b c e:Expr}{es:List Expr}{pos p p':Pos}{x:Str}
theorem Apu {args:Arguments}{body:Expr}{scope:Scope}{c P:Addr}{l:Lam}{fd:FuncData} (i:Nat) (hB:Mz X.mg X.base) (hT:TabQ X.H₀ P l.qual) (hcode:fd.code=.ref c) (hC:W.codeHdIn X.K c P=true) (he:X.env.code=fd.code:=by rfl)
  (hcl:closureFor scope X.env=pure []:=by rfl) (hdef:defaultsOf args X.env=([],[]):=by rfl) (hl:l=⟨X.env.qual++"<lambda>",args,body,scope⟩:=by rfl) (hi:i < 1000:=by decide):QD X (.Lambda args body scope pos) (fC (.fn i l)):=⟨Avn i hB hT (he.trans hcode) hC hcl hdef hl hi⟩
theorem Apn {T:List (Lam×(List D->Option D))} (hT:∀ p∈T,Pv X.prog X.w X.K X.mg X.base k n p.1 p.2) (hr:Room k X.A) (ha:QL X (e::es) g) (hN:X.N[i]?=some x:=by kernel_rfl) (hv:Vis X.env.scope x:=by exact Bgn (by kernel_rfl)) (hd:(x == ("__debug__":Str))=false:=by decide) (hcd:(x == ("__classdict__":Str))=false:=by decide) (he':Bj e=true:=by rfl) (hpl':es.all Bj=true:=by rfl) (hTl:Nat.ble T.length 1000=true:=by kernel_rfl) :
  QD X (.Call (.Name x p) (e::es) [] pos) (Rg T n (Ah i) g):=⟨Ag2 hT hr hN hv ha.out hd hcd (Au he') (C7 hpl') (Nat.le_of_ble_eq_true hTl)⟩
theorem Ahs {fd:FuncData} (F:FnOk X.prog X.w X.K X.mg X.base CX0 k f fd ps (spP X.K n fn)) (hr:Room k X.A) (hm:X.mg x=some (.ref f)) (hk:W.keepIn X.K (.ref f)=true) (hb:Binds X.K fd ps []) (ha:QL X (e::es) g) (hg:Gl X x:=by unfold Gl;kernel_rfl) (hdb:(x == ("__debug__":Str))=false:=by decide) (he':Bj e=true:=by rfl) (hpl':es.all Bj=true:=by rfl) :
  QD X (.Call (.Name x p) (e::es) [] pos) (Av (Du n fn) g):=⟨Me (Vi F hr hg hm hk hb .nil Acy ha.out hdb (Au he') (C7 hpl'))⟩
theorem Aht {fd:FuncData}{tabs:List (Addr×Str)} (hT:TabsH tabs X.H₀) (F:FnOk X.prog X.w X.K X.mg X.base CX0 k f fd ps (spT tabs X.K n fn)) (hr:Room k X.A) (hm:X.mg x=some (.ref f)) (hk:W.keepIn X.K (.ref f)=true) (hb:Binds X.K fd ps []) (ha:QL X (e::es) g) (hg:Gl X x:=by unfold Gl;kernel_rfl) (hdb:(x == ("__debug__":Str))=false:=by decide) (he':Bj e=true:=by rfl) (hpl':es.all Bj=true:=by rfl) :
  QD X (.Call (.Name x p) (e::es) [] pos) (Av (Ew n fn) g):=⟨Zl (Xz F hT hr hg hm hk hb ha.out hdb (Au he') (C7 hpl'))⟩
end
theorem Vl {P:Program}{w:World}{K:W.Frag}{mg:Str->Option Value}{base:Heap}{l:Lam}{N:List Str}{k n:Nat}{f:FE}{fn:List D->Option D} (S:FnScope N N l.scope) (hn:N.length=n) (hfn:fn=fnE f)
  (hb:∀ (doc pm ctv:Value) (c:Addr) (us:List Value),us.length=N.length->bindArgs (W.kdv_fn "<lambda>" l.qual l.args (.expr l.body) l.scope [] .none doc pm (.ref c) ctv) ⟨us,[]⟩=pure (N.zip us))
  (hbody:∀ (c a:Addr) (A:Around) (outer:List Env) (s:Shared) (H:Hp),Room k (A.deeper (envOfC l.qual l.scope s.heap.objs.size a (.ref c)))->QD (Uo CX0 P w K mg base N l.qual l.scope a (.ref c) A outer s H E0).nox l.body f) :
  Pv P w K mg base (k+1) n l fn:=by
 subst hfn
 exact Anl S hn hb fun c a A outer s H hr=>(hbody c a A outer s H hr).out
noncomputable def Ah3:FS:=fun _ _=>none
section
variable {X:Cx}{st:Stmt}{sts:List Stmt}
theorem Ahk:PSD X st Ah3:=fun pins s σ H D I ⟨env,μ,m,o,S,E,h,f⟩=>by exact Ak h
theorem Adn:QS X st Ah3:=⟨Ahk⟩
end
section
variable {X:Cx}{o' a:Expr}{apos cpos:Pos}{T:String}{id:String}
theorem Avo (pa:PlainAttrs T) (slot:Slot T name id) (hty:typeOf (.builtin id)=pure (.type "method_descriptor")) (hm:MtD X id o) (ho:PD X o' f) (hbase:attributeBase o' name X.env (eval o' X.env)=eval o' X.env) (hline:(apos.endLine == cpos.line)=true) :
  PD X (.Call (.Attribute o' name apos) [] [] cpos) (fMt T o f Ai):=by
 intro pins s σ H Q I h
 obtain⟨env,μ,m,z,S,E,h,q⟩:=h
 obtain⟨d,h1,h⟩:=bind_some h
 split at h
 ·rename_i hrec
  obtain⟨xs,h2,h3⟩:=bind_some h
  cases h2
  refine Bg2 hbase rfl hline rfl (thn (ho pins s σ H (fun v H1=>Same H H1/\Rep X.K H1 μ (·∈μ) d v) I ⟨env,μ,m,d,S,E,h1,fun v H1 s1 r1=>⟨s1,r1⟩⟩) fun v s1 ⟨x,H1,I1,r1,s1',rx⟩=>?_)
  obtain⟨t1,t2⟩:=Ym I1 r1 (Vo (S.same s1') rx hrec)
  refine⟨T,id,pa,slot,hty,t1,t2,?_⟩
  refine Bg3 rfl (evalArgs_nil3 ?_)
  exact hm pins s1 σ H1 μ m d [] z x [] v [] Q I1 (S.same s1') rx .nil r1 .nil h3 fun w H3 s3 r3=>q w H3 (s1'.trans s3) r3
 ·cases h
noncomputable def J8:D->List D->MH->Option D:=fun x xs _=>match x,xs with
 |.str z,[]=>some (.bl (Txt.isdigit z))
 |_,_=>none
theorem Zh:MtD X "str.isdigit" J8:=by
 intro pins s σ H μ m x xs z v vs u us Q I S rx rs r1 rv e q
 obtain⟨y,rfl,rfl⟩:∃ y,x=.str y/\xs=[]:=by
  cases x with
  |str y =>
   cases xs with
   |nil=>exact⟨y,rfl,rfl⟩
   |cons _ _=>cases e
  |_=>cases e
 cases e
 cases rx
 cases rs
 cases rv
 obtain⟨t,rfl⟩:=r1
 exact SC.isdigit ⟨.bl _,H,I,rfl,q _ H (Same.refl H) (.bl _)⟩
theorem Zo (ho:QD X a f) (hbase':L9 a=true:=by rfl) (hline:(apos.endLine == cpos.line)=true:=by kernel_rfl) :
  QD X (.Call (.Attribute a "isdigit" apos) [] [] cpos) (fMt "str" J8 f Ai):=⟨Avo Bg8 F.slot_str_isdigit F.type_str_isdigit Zh ho.out (Dm hbase') hline⟩
end
section
variable {X:Cx}{pins:List (Addr×Obj)}{σ:St}{H:Hp}{s:Shared}{h':Heap}
end
section
variable {X:Cx}{e e2:Expr}{es:List Expr}{pos p tp:Pos}{x1:Nat}{elts:List Expr}
end
def Bbo (q:Str) (st:Stmt):Lam:=⟨q,Df st,.Constant .none 0 ⟨0,0,0,0⟩,As st⟩
theorem Adt {K:W.Frag}{a:Addr}{i:Nat}{l:Lam} (hi:1000<=i) (h:W.nsIn K mainGlobals l.qual=some (some (.ref a))):∀ H,Rep K H [] (fun _=>True) (.fn i l) (.ref a):=fun _=>.fn (.inr ⟨hi,h⟩)
section
variable {X:Cx}{e ex:Expr}{es:List Expr}{pos p:Pos}{x:Str}{n:Nat}{fn:List D->Option D}{g:FL}{E:XK}
theorem Adi {fd:FuncData}{tabs:List (Addr×Str)} (hT:TabsH tabs X.H₀) (F:FnOk X.prog X.w X.K X.mg X.base CX0 k f fd ps (spT tabs X.K n fn)) (hr:Room k X.A) (hm:X.mg x=some (.ref f)) (hk:W.keepIn X.K (.ref f)=true) (hb:Binds X.K fd ps []) (ha:QL X (e::es) g) (hg:Gl X x:=by unfold Gl;kernel_rfl) (hdb:(x == ("__debug__":Str))=false:=by decide) (he':Bj e=true:=by rfl) (hpl':es.all Bj=true:=by rfl) :
  QD X (.Call (.Name x p) (e::es) [] pos) (Av (Du n fn) g):=⟨Me (Xz F hT hr hg hm hk hb ha.out hdb (Au he') (C7 hpl'))⟩
end
section
variable {X:Cx}{tg elt iter:Expr}{ifs:List Expr}{scope:Scope}{fw:FW}{g:FG}{t:FB}{fe:FE}{x:Str}{pos p' spos:Pos}
theorem Tv {tabs:List (Addr×Str)} (hT:TabsH tabs X.H₀) (cap:List Nat) (N':List Str) (hN:X.N.Nodup) (hc:X.calm=true) (hi:QW X tg iter fw) (hg2:∀ d d' env e1,g d env=some e1->g d' e1=g d' env) (hg:∀ cl C s₀ H₀ ex pn,TabsH tabs H₀->QG (Bb X N' scope cl C s₀ H₀ ex pn) tg g) (ht:∀ cl C s₀ H₀ ex pn,TabsH tabs H₀->QTs (Bb X N' scope cl C s₀ H₀ ex pn) ifs t) (he:∀ cl C s₀ H₀ ex pn,TabsH tabs H₀->QD (Bb X N' scope cl C s₀ H₀ ex pn) elt fe) (ok:Iv scope X.env.scope X.N N' cap=true:=by kernel_rfl) (hs':H9 iter=true:=by rfl) (hn:X.N[i]?=some x:=by kernel_rfl) (hx:Loc X.env.scope x:=by exact Bgn (by kernel_rfl)) (hf:X.fn x=true\/X.env.scope.names.lookup x=some .local:=by exact Bgn (by kernel_rfl)) (hsw:swapsWith (.ListComp elt [⟨tg,iter,ifs,0⟩] scope pos) (some (.Name x p')) spos.line X.env=pure true:=by kernel_rfl):QS X (.Assign [.Name x p'] (.ListComp elt [⟨tg,iter,ifs,0⟩] scope pos) spos) (Bn i (Ck (Bt cap (N'.length - cap.length) fw g t fe))) :=
 ⟨X3 (P9 (Φ:=TabsH tabs) (CompOk.of ok) hc hi.out hg2 (fun I=>TabsH.on I hT) (fun cl C s H ex pn h=>(hg cl C s H ex pn h).out) (fun cl C s H ex pn h=>(ht cl C s H ex pn h).out) (fun cl C s H ex pn h=>(he cl C s H ex pn h).out) (Ed hs') hsw hN hn hx hf)⟩
end
def Ae5 (P:Program) (w:World) (K:W.Frag) (mg:Str->Option Value) (base:Heap) (k n:Nat) (tabs:List (Addr×Str)) (q:Str) (fn:List D->Option D):Prop :=
 ∃ f fd ps,mg q=some (.ref f)/\W.keepIn K (.ref f)=true/\Binds K fd ps []/\FnOk P w K mg base CX0 k f fd ps (spT tabs K n fn)
section
variable {X:Cx}{e:Expr}{es:List Expr}{pos p:Pos}{x:Str}
open Classical in
noncomputable def Rf (T:List (Str×(List D->Option D))) (n:Nat) (f:FE) (g:FL):FE:=fun env m=>(f env m).bind fun d=>(g env m).bind fun ds=>(Co m ds).bind fun ds'=>match d with
 |.fn j l=>if 1000<=j then (T[j - 1000]?).bind fun p=>if l.qual=p.1/\ds'.length=n then p.2 ds' else none else none
 |_=>none
theorem Ag1 {T:List (Str×(List D->Option D))}{tabs:List (Addr×Str)} (hT:∀ p∈T,Ae5 X.prog X.w X.K X.mg X.base k n tabs p.1 p.2) (Np:∀ {pins:List (Addr×Obj)}{σ:St}{H:Hp}{s:Shared},Inv X pins σ H s->TabsH tabs H) (hr:Room k X.A) (hN:X.N[i]?=some x) (hv:Vis X.env.scope x) (ha:PL X (e::es) g) (hd:(x == ("__debug__":Str))=false) (hcd:(x == ("__classdict__":Str))=false) (he:starEach (e::es) X.env=(false,eval e X.env)::starEach es X.env) (hpl:(backTo pos (starEach es X.env)).any (·.1)=false) :
  PD X (.Call (.Name x p) (e::es) [] pos) (Rf T n (Ah i) g):=by
 intro pins s σ H Q I ⟨env,μ,m,d,S,E,h,q⟩
 obtain⟨d0,h1,h⟩:=bind_some h
 obtain⟨ds,h2,h⟩:=bind_some h
 obtain⟨ds',h3,h⟩:=bind_some h
 cases d0 with
 |fn j l =>
  simp only at h
  split at h
  ·rename_i hj
   obtain⟨pr,h4,h7⟩:=bind_some h
   clear h
   split at h7
   ·rename_i hc
    obtain⟨hq,hn⟩:=hc
    unfold Ah at h1
    obtain⟨o,h5,h6⟩:=bind_some h1
    have h6:o=some (.fn j l):=h6
    subst h6
    obtain⟨v,ev,rv⟩:=E.get i _ h5
    cases rv with
    |@fn _ _ a hf =>
     have hns:W.nsIn X.K mainGlobals l.qual=some (some (.ref a)):=hf.elim (fun z=>absurd z.1 (by lia)) fun z=>z.2
     obtain⟨f,fd,ps,m1,m2,m3,m4⟩:=hT pr (Be1 h4)
     have hmg:X.mg l.qual=some (.ref a):=W.mg_of I.ok.mod.kin I.ok.mod.glob hns
     rw[hq,m1] at hmg
     cases hmg
     refine Bfl (thn ((Acz hN hv hd hcd) pins s σ H (fun v' H'=>v'=.ref a/\H'=H) I ⟨_,ev,rfl,rfl⟩) fun u s1 ⟨v1,H1,I1,r1,e1,e2⟩=>?_)
     subst e1;subst e2
     obtain rfl:u=Value.ref a:=r1
     refine W.callWith_K (h₀:=X.base) I1.ok.mod.kin m2 (thn (ha pos pins s1 σ H1 _ I1 ⟨env,μ,m,ds,S,E,h2,fun vs H2 s2 rs=>(⟨s2,rs⟩:Same H1 H2/\Reps X.K H2 μ (·∈μ) ds vs)⟩) fun us s2 ⟨vs,H2,I2,r,s12,rs⟩=>⟨I2.kIn,?_⟩) he hpl
     exact Ad0 m4 hr m3 .nil Acy I2 r ⟨Np I2,ds',d,by rw[Bev];exact Cp (S.same s12) rs h3,hn,h7,fun v H' s' r=>q v H' (s12.trans s') (Rep.ofCall (S.same s12) r)⟩
   ·cases h7
  ·exact Ak h
 |_=>exact Ak h
theorem Apm {T:List (Str×(List D->Option D))}{tabs:List (Addr×Str)} (hT:∀ p∈T,Ae5 X.prog X.w X.K X.mg X.base k n tabs p.1 p.2) (Np:∀ {pins:List (Addr×Obj)}{σ:St}{H:Hp}{s:Shared},Inv X pins σ H s->TabsH tabs H) (hr:Room k X.A) (ha:QL X (e::es) g) (hN:X.N[i]?=some x:=by kernel_rfl) (hv:Vis X.env.scope x:=by exact Or.inr (Bgn (by kernel_rfl))) (hd:(x == ("__debug__":Str))=false:=by decide) (hcd:(x == ("__classdict__":Str))=false:=by decide) (he':Bj e=true:=by rfl) (hpl':es.all Bj=true:=by rfl) :
  QD X (.Call (.Name x p) (e::es) [] pos) (Rf T n (Ah i) g):=⟨Ag1 hT Np hr hN hv ha.out hd hcd (Au he') (C7 hpl')⟩
end
structure GC (K:W.Frag) (mg:Str->Option Value) (x:Str) (d:D):Prop where
 ex:∃ (v:V) (u:Value),mg x=some u/\RelV v u/\∀ H,Rep K H [] (fun _=>True) d v
structure FD (K:W.Frag) (mg:Str->Option Value) (x:Str) (st:Stmt) (ps:List Str):Prop where
 ex:∃ a fd,mg x=some (.ref a)/\Fun K x x st a fd/\Binds K fd ps []
structure FDL (K:W.Frag) (mg:Str->Option Value) (x:Str) (st:Stmt) (ps:List Str) (p:Addr):Prop where
 ex:∃ a fd c,mg x=some (.ref a)/\Fun K x x st a fd/\Binds K fd ps []/\fd.code=.ref c/\W.codeHdIn K c p=true
structure Cl (P:Program) (w:World) (K:W.Frag) (mg:Str->Option Value) (base:Heap) (k:Nat) (x:Str) (n:Nat) (fn:List D->Option D):Prop where
 ex:∃ a fd ps,FnOk P w K mg base CX0 k a fd ps (spP K n fn)/\mg x=some (.ref a)/\W.keepIn K (.ref a)=true/\Binds K fd ps []
structure ClT (P:Program) (w:World) (K:W.Frag) (mg:Str->Option Value) (base:Heap) (tabs:List (Addr×Str)) (k:Nat) (x:Str) (n:Nat) (fn:List D->Option D):Prop where
 ex:∃ a fd ps,FnOk P w K mg base CX0 k a fd ps (spT tabs K n fn)/\mg x=some (.ref a)/\W.keepIn K (.ref a)=true/\Binds K fd ps []
abbrev BH (x:Str) (st:Stmt) (ps:List Str):Prop:=∀ (kV doc pm:Value) (an:Option Addr) (cdv ct:Value) (us:List Value),us.length=ps.length->bindArgs (W.fnOf x x (Df st) (By st) (As st) .none kV doc pm an cdv ct) ⟨us,[]⟩=pure (ps.zip us)
theorem of1 {P:List Value->Prop} (h:∀ a,P [a]):∀ us:List Value,us.length=1->P us:=by
 intro us e
 cases us with
 |nil=>cases e
 |cons a us =>
  cases us with
  |nil=>exact h a
  |cons _ _=>cases e
theorem of2 {P:List Value->Prop} (h:∀ a b,P [a,b]):∀ us:List Value,us.length=2->P us:=by
 intro us e
 cases us with
 |nil=>cases e
 |cons a us=>exact of1 (P:=fun us=>P (a::us)) (h a) us (Nat.succ.inj e)
theorem of3 {P:List Value->Prop} (h:∀ a b c,P [a,b,c]):∀ us:List Value,us.length=3->P us:=by
 intro us e
 cases us with
 |nil=>cases e
 |cons a us=>exact of2 (P:=fun us=>P (a::us)) (h a) us (Nat.succ.inj e)
structure FM (K:W.Frag) (x:Str) (st:Stmt):Prop where
 ex:∃ a fd,W.nsIn K mainGlobals x=some (some (.ref a))/\Fun K x x st a fd
theorem fm_mk {K:W.Frag}{x:Str}{st:Stmt}{f:Addr}{oc:Value}{od an:Option Addr}{osl:Array (Option Value)}{kV doc pm cdv ct:Value} (n:W.nsIn K mainGlobals x=some (some (.ref f))) (l:K.lookup f=some ⟨oc,od,.func (W.fnOf x x (Df st) (By st) (As st) .none kV doc pm an cdv ct),osl⟩)
  (c:W.codeIn K cdv x=true) (k:W.keepIn K (.ref f)=true):FM K x st:=⟨f,_,n,Jp l c k⟩
theorem FM.fd {K:W.Frag}{h:Heap}{mg:Str->Option Value}{x:Str}{st:Stmt}{ps:List Str} (F:FM K x st) (X:K.In h) (G:h.Ns mainGlobals mg)
  (hb:BH x st ps):FD K mg x st ps:=by
 obtain⟨a,fd,n,F⟩:=F.ex
 exact⟨a,fd,W.mg_of X G n,F,F.binds hb⟩
theorem FM.fd1 {K:W.Frag}{h:Heap}{mg:Str->Option Value}{x a:Str}{st:Stmt} (F:FM K x st) (X:K.In h) (G:h.Ns mainGlobals mg) (hb:BH x st [a]:=by exact fun _ _ _ _ _ _=>of1 fun _=>rfl):FD K mg x st [a]:=F.fd X G hb
theorem FM.fd2 {K:W.Frag}{h:Heap}{mg:Str->Option Value}{x a b:Str}{st:Stmt} (F:FM K x st) (X:K.In h) (G:h.Ns mainGlobals mg) (hb:BH x st [a,b]:=by exact fun _ _ _ _ _ _=>of2 fun _ _=>rfl):FD K mg x st [a,b]:=F.fd X G hb
theorem _root_.L2.Fun.binds2 {K:W.Frag}{x a b:Str}{st:Stmt}{f:Addr}{fd:FuncData} (F:Fun K x x st f fd) (hb:BH x st [a,b]:=by exact fun _ _ _ _ _ _=>of2 fun _ _=>rfl):Binds K fd [a,b] []:=F.binds hb
theorem FM.fd3 {K:W.Frag}{h:Heap}{mg:Str->Option Value}{x a b c:Str}{st:Stmt} (F:FM K x st) (X:K.In h) (G:h.Ns mainGlobals mg) (hb:BH x st [a,b,c]:=by exact fun _ _ _ _ _ _=>of3 fun _ _ _=>rfl):FD K mg x st [a,b,c]:=F.fd X G hb
theorem Xb {K:W.Frag}{h:Heap}{mg:Str->Option Value}{x:Str}{i:Int}{t:Tok} (X:K.In h) (G:h.Ns mainGlobals mg) (n:W.nsIn K mainGlobals x=some (some (.int i t))):GC K mg x (.int i) :=
 ⟨.int i,_,W.mg_of X G n,⟨_,rfl⟩,fun _=>.int _⟩
theorem Ajb {K:W.Frag}{h:Heap}{mg:Str->Option Value}{x:Str}{i:String}{t:Tok} (X:K.In h) (G:h.Ns mainGlobals mg) (n:W.nsIn K mainGlobals x=some (some (.str (Str.ofString i) t))):GC K mg x (.str (Str.ofString i)) :=
 ⟨.str (Str.ofString i),_,W.mg_of X G n,⟨_,rfl⟩,fun _=>.str _ (A6 _)⟩
theorem Ry {K:W.Frag}{h:Heap}{mg:Str->Option Value}{x:Str}{a:Addr}{d:D} (X:K.In h) (G:h.Ns mainGlobals mg) (n:W.nsIn K mainGlobals x=some (some (.ref a))) (r:∀ H,Rep K H [] (fun _=>True) d (.ref a)):GC K mg x d :=
 ⟨.ref a,_,W.mg_of X G n,rfl,r⟩
section
variable {P:Program}{w:World}{K:W.Frag}{mg:Str->Option Value}{base:Heap}{x:Str}{st:Stmt}{ps:List Str}{k n:Nat}{tabs:List (Addr×Str)}{p:Addr}
theorem Bu (N:List Str) (T:FD K mg x st ps) (g:FS) (fn:List D->Option D)
  (hbody:∀ (f:Addr) (cdv:Value) (A:Around) (outer:List Env) (s:Shared) (H:Hp) (E:XK),Room k (A.deeper (envOfC x (As st) s.heap.objs.size f cdv))->N.Nodup ->
   QSs (Uo CX0 P w K mg base N x (As st) f cdv A outer s H E).nox (By st) g) (hfn:fn=Cy N.length g:=by rfl) (hn:ps.length=n:=by rfl) (S:FnScope N ps (As st):=by exact⟨rfl,rfl,rfl,by decide +kernel,rfl,by decide +kernel,by decide +kernel⟩):Cl P w K mg base (k+1) x n fn:=by
 obtain⟨a,fd,m,F,b⟩:=T.ex
 exact⟨a,fd,ps,Bdc F S g fn hfn hn fun cdv A outer s H E hr=>hbody a cdv A outer s H E hr S.nd,m,F.kp,b⟩
theorem Tw (N:List Str) (T:FD K mg x st ps) (g:FS) (fn:List D->Option D)
  (hbody:∀ (f:Addr) (cdv:Value) (A:Around) (outer:List Env) (s:Shared) (H:Hp) (E:XK),TabsH tabs H->Room k (A.deeper (envOfC x (As st) s.heap.objs.size f cdv))->N.Nodup ->
   QSs (Uo CX0 P w K mg base N x (As st) f cdv A outer s H E).nox (By st) g) (hfn:fn=Cy N.length g:=by rfl) (hn:ps.length=n:=by rfl) (S:FnScope N ps (As st):=by exact⟨rfl,rfl,rfl,by decide +kernel,rfl,by decide +kernel,by decide +kernel⟩):ClT P w K mg base tabs (k+1) x n fn:=by
 obtain⟨a,fd,m,F,b⟩:=T.ex
 exact⟨a,fd,ps,Apt F S g fn hfn hn fun A outer s H E hT hr=>hbody a fd.code A outer s H E hT hr S.nd,m,F.kp,b⟩
theorem Adl (N:List Str) (T:FDL K mg x st ps p) (g:FS) (fn:List D->Option D)
  (hbody:∀ (f:Addr) (fd:FuncData) (c:Addr) (A:Around) (outer:List Env) (s:Shared) (H:Hp) (E:XK),TabsH tabs H->Room k (A.deeper (envOfC x (As st) s.heap.objs.size f fd.code))->N.Nodup->fd.code=.ref c->W.codeHdIn K c p=true ->
   QSs (Uo CX0 P w K mg base N x (As st) f fd.code A outer s H E).nox (By st) g) (hfn:fn=Cy N.length g:=by rfl) (hn:ps.length=n:=by rfl) (S:FnScope N ps (As st):=by exact⟨rfl,rfl,rfl,by decide +kernel,rfl,by decide +kernel,by decide +kernel⟩):ClT P w K mg base tabs (k+1) x n fn:=by
 obtain⟨a,fd,c,m,F,b,e1,e2⟩:=T.ex
 exact⟨a,fd,ps,Apt F S g fn hfn hn fun A outer s H E hT hr=>hbody a fd c A outer s H E hT hr S.nd e1 e2,m,F.kp,b⟩
theorem ClT.dok (h:ClT P w K mg base tabs k x n fn):Ae5 P w K mg base k n tabs x fn:=by
 obtain⟨a,fd,ps,F,m,kp,b⟩:=h.ex
 exact⟨a,fd,ps,m,kp,b,F⟩
end
section
variable {X:Cx}{e:Expr}{es:List Expr}{pos p p' cp:Pos}{x:Str}{k j n:Nat}{fn:List D->Option D}{g:FL}{tabs:List (Addr×Str)}{kp kp':Pos}{b:Bool}
theorem Vk {d:D} (h:GC X.K X.mg x d) (hg:Gl X x:=by unfold Gl;kernel_rfl) (hd:(x == ("__debug__":Str))=false:=by decide):QD X (.Name x pos) (fC d):=by
 obtain⟨v,u,m,r,hr⟩:=h.ex
 exact Awe m r hr hg hd
theorem q_c (F:Cl X.prog X.w X.K X.mg X.base k x n fn) (hr:Room j X.A) (ha:QL X (e::es) g) (hk:k<=j:=by decide) (hg:Gl X x:=by unfold Gl;kernel_rfl) (hdb:(x == ("__debug__":Str))=false:=by decide) (he':Bj e=true:=by rfl) (hpl':es.all Bj=true:=by rfl) :
  QD X (.Call (.Name x p) (e::es) [] pos) (Av (Ew n fn) g):=by
 obtain⟨a,fd,ps,F,m,kp,b⟩:=F.ex
 exact App F (hr.mono hk) m kp b ha hg hdb he' hpl'
theorem Axq (F:Cl X.prog X.w X.K X.mg X.base k x n fn) (hr:Room j X.A) (ha:QL X (e::es) g) (hk:k<=j:=by decide) (hg:Gl X x:=by unfold Gl;kernel_rfl) (hdb:(x == ("__debug__":Str))=false:=by decide) (he':Bj e=true:=by rfl) (hpl':es.all Bj=true:=by rfl) :
  QF X (.Call (.Name x p) (e::es) [] pos) (G4 (Uv n fn) g):=by
 obtain⟨a,fd,ps,F,m,kp,b⟩:=F.ex
 exact Aps F (hr.mono hk) m kp b ha hg hdb he' hpl'
theorem Bar (F:Cl X.prog X.w X.K X.mg X.base k x n fn) (hr:Room j X.A) (ha:QL X (e::es) g) (hk:k<=j:=by decide) (hg:Gl X x:=by unfold Gl;kernel_rfl) (hdb:(x == ("__debug__":Str))=false:=by decide) (he':Bj e=true:=by rfl) (hpl':es.all Bj=true:=by rfl) :
  QD X (.Call (.Name x p) (e::es) [] pos) (Av (Du n fn) g):=by
 obtain⟨a,fd,ps,F,m,kp,b⟩:=F.ex
 exact Ahs F (hr.mono hk) m kp b ha hg hdb he' hpl'
theorem Ahr (hT:TabsH tabs X.H₀) (F:ClT X.prog X.w X.K X.mg X.base tabs k x n fn) (hr:Room j X.A) (ha:QL X (e::es) g) (hk:k<=j:=by decide) (hg:Gl X x:=by unfold Gl;kernel_rfl) (hdb:(x == ("__debug__":Str))=false:=by decide) (he':Bj e=true:=by rfl) (hpl':es.all Bj=true:=by rfl) :
  QD X (.Call (.Name x p) (e::es) [] pos) (Av (Ew n fn) g):=by
 obtain⟨a,fd,ps,F,m,kp,b⟩:=F.ex
 exact Aht hT F (hr.mono hk) m kp b ha hg hdb he' hpl'
theorem Apl (hT:TabsH tabs X.H₀) (F:ClT X.prog X.w X.K X.mg X.base tabs k x n fn) (hr:Room j X.A) (ha:QL X (e::es) g) (hk:k<=j:=by decide) (hg:Gl X x:=by unfold Gl;kernel_rfl) (hdb:(x == ("__debug__":Str))=false:=by decide) (he':Bj e=true:=by rfl) (hpl':es.all Bj=true:=by rfl) :
  QD X (.Call (.Name x p) (e::es) [] pos) (Av (Du n fn) g):=by
 obtain⟨a,fd,ps,F,m,kp,b⟩:=F.ex
 exact Adi hT F (hr.mono hk) m kp b ha hg hdb he' hpl'
theorem Bas (F:Cl X.prog X.w X.K X.mg X.base k x 1 fn) (hr:Room j X.A) (hm:X.mg "sorted"=none) (ha:QL X [e] g) (hk:k+2<=j:=by decide) (hg:Gl X "sorted":=by unfold Gl;kernel_rfl) (hgf:Gl X x:=by unfold Gl;kernel_rfl) (hdb:(x == ("__debug__":Str))=false:=by decide) (he':Bj e=true:=by rfl) :
  QF X (.Call (.Name "sorted" p) [e] [⟨some "key",.Name x p',kp⟩] pos) (G4 (L7 fn) g):=by
 obtain⟨a,fd,ps,F,m,kp,b⟩:=F.ex
 exact Atn F (hr.mono hk) m b hm ha hg hgf hdb he'
end
def fVI (i:Nat) (k:Int):FE:=f2 oIx (Ah i) (fC (.int k))
noncomputable def fE (a:FE) (s:Str):FB:=A4 (f2 oEq a (fC (.str s)))
def fC1 (fn:List D->Option D) (a:FE):FE:=Av (Ew 1 fn) (Aa a Ai)
def fC2 (fn:List D->Option D) (a b:FE):FE:=Av (Ew 2 fn) (Aa a (Aa b Ai))
def fC3 (fn:List D->Option D) (a b c:FE):FE:=Av (Ew 3 fn) (Aa a (Aa b (Aa c Ai)))
def fF1 (fn:List D->Option D) (a:FE):FL:=G4 (Uv 1 fn) (Aa a Ai)
def fF3 (fn:List D->Option D) (a b c:FE):FL:=G4 (Uv 3 fn) (Aa a (Aa b (Aa c Ai)))
noncomputable section
open Classical
def W {α:Type} (x:Option α) (Q:α->Prop):Prop:=∃ a,x=some a/\Q a
theorem W.out {d:α} (h:W x (fun a=>a=d)):x=some d:=by obtain⟨a,h1,h2⟩:=h;rw[h1,h2]
theorem W.mk {d:α} (h:x=some d) (q:Q d):W x Q:=⟨d,h,q⟩
theorem W.imp {α:Type}{x:Option α}{P Q:α->Prop} (h:W x P) (i:∀ a,P a->Q a):W x Q:=by obtain⟨a,h1,h2⟩:=h;exact⟨a,h1,i a h2⟩
theorem Af:W (some a) Q=Q a:=by
 apply Bgl;constructor
 ·rintro ⟨b,h,q⟩;cases h;exact q
 ·exact fun q=>⟨a,rfl,q⟩
theorem Bl:W none Q=False:=by
 apply Bgl;constructor
 ·rintro ⟨b,h,q⟩;exact Ak h
 ·exact False.elim
theorem W_bind:W (x.bind f) Q=W x (fun a=>W (f a) Q):=by
 cases x with
 |none=>rw[Bl];exact Bl
 |some a=>rw[Af];rfl
theorem G2 [Decidable c]:W (if c then some x else none) Q=(c/\Q x):=by
 by_cases h:c
 ·rw[Bef h,Af];simp[h]
 ·rw[Beg h,Bl];simp[h]
noncomputable def Yx (Q:D->Prop):Out->Prop
 |.rt d m=>W (Ci m d) Q
 |.nx _ _=>Q .non
 |_=>False
theorem Amb {d:D}:Yx Q (.rt d m)=W (Ci m d) Q:=rfl
theorem Ama:Yx Q (.nx e m)=Q .non:=rfl
theorem Ay:W (Cy n g ds) Q=W (g (ds.map some++List.replicate (n - ds.length) none) []) (Yx Q):=by
 unfold Cy
 rw[W_bind]
 congr 1
 funext o
 cases o<;>first|rfl|exact Af|exact Bl
noncomputable def Ap9 (g:FS) (Q:Out->Prop):Out->Prop
 |.nx e m=>W (g e m) Q
 |o=>Q o
theorem Ph:Ap9 g Q (.nx e m)=W (g e m) Q:=rfl
theorem Aqc:Ap9 g Q (.rt e m)=Q (.rt e m):=rfl
theorem Aqa:Ap9 g Q (.bk e m)=Q (.bk e m):=rfl
theorem Aqb:Ap9 g Q (.ct e m)=Q (.ct e m):=rfl
theorem Aiy:W (Ax f g env m) Q=W (f env m) (Ap9 g Q):=by
 unfold Ax
 rw[W_bind]
 congr 1
 funext o
 cases o<;>first|rfl|exact Af
theorem Asi:W (B6 env m) Q=Q (.nx env m):=Af
theorem Asj:W (Bf f env m) Q=W (f env m) fun d=>Q (.rt d m):=by
 unfold Bf;rw[W_bind];congr 1;funext d;exact Af
def cK (p q:Prop) (b:Bool):Prop:=(b=true->p)/\(b=false->q)
theorem Al2:cK p q true=p:=by unfold cK;simp
theorem Al1:cK p q false=q:=by unfold cK;simp
theorem cK.mk {p q:Prop}{b:Bool} (h1:b=true->p) (h2:b=false->q):cK p q b:=⟨h1,h2⟩
theorem cK.dec [Decidable c] (h1:c->p) (h2:¬ c->q):cK p q (decide c):=⟨fun h=>h1 (Bfk h),fun h=>h2 (of_decide_eq_false h)⟩
theorem cK.ndec [Decidable c] (h1:¬ c->p) (h2:c->q):cK p q (!decide c):=⟨fun h=>h1 (by simpa using h),fun h=>h2 (by simpa using h)⟩
theorem Hm:W (if b=true then x else y) Q=cK (W x Q) (W y Q) b:=by
 cases b
 ·rw[Al1];rfl
 ·rw[Al2];rfl
theorem Ayy {t:FB}:W (sIf t f g env m) Q=W (t env m) (cK (W (f env m) Q) (W (g env m) Q)):=by
 unfold sIf;rw[W_bind];congr 1;funext c;exact Hm
theorem Ax8 {d:D}:W (fC d env m) Q=Q d:=Af
theorem Ax7:W (f2 o f g env m) Q=W (f env m) fun x=>W (g env m) fun y=>W (o x y m) Q:=by
 unfold f2;rw[W_bind];congr 1;funext d;exact W_bind
theorem Bce:W (f1 o f env m) Q=W (f env m) fun x=>W (o x m) Q:=W_bind
theorem Nc:W (Ai env m) Q=Q []:=Af
theorem Iq:W (Aa f g env m) Q=W (f env m) fun x=>W (g env m) fun xs=>Q (x::xs):=by
 unfold Aa;rw[W_bind];congr 1;funext d;rw[W_bind];congr 1;funext e;exact Af
theorem Od:W (Av o g env m) Q=W (g env m) fun xs=>W (o xs m) Q:=W_bind
theorem Oe:W (G4 o g env m) Q=W (g env m) fun xs=>W (o xs m) Q:=W_bind
theorem Ayf {T:String}:W (fMt T o f g env m) Q=W (f env m) fun x=>Ahw T m x=true/\W (g env m) fun xs=>W (o x xs m) Q:=by
 unfold fMt;rw[W_bind];congr 1;funext d
 by_cases h:Ahw T m d=true
 ·rw[Bef h,W_bind];simp[h]
 ·rw[Beg h,Bl];simp[h]
theorem Aro {T:String}:W (Aez T o f g env m) Q=W (f env m) fun x=>Ahw T m x=true/\W (g env m) fun xs=>W (o x xs m) Q:=by
 unfold Aez;rw[W_bind];congr 1;funext d
 by_cases h:Ahw T m d=true
 ·rw[Bef h,W_bind];simp[h]
 ·rw[Beg h,Bl];simp[h]
theorem Arn:W (Ck g env m) Q=W (g env m) fun ds=>Q (.lst ds):=by
 unfold Ck;rw[W_bind];congr 1;funext d;exact Af
theorem Art:W (B7 g env m) Q=W (g env m) fun ds=>ds.length<=1000000/\Q (.tup ds):=by
 unfold B7;rw[W_bind];congr 1;funext d;exact G2
theorem Afb:W (Bp g env m) Q=W (g env m) fun ds=>ds.length<=1000000/\Q ds:=by
 unfold Bp;rw[W_bind];congr 1;funext d;exact G2
theorem Of:W (A4 f env m) Q=W (f env m) fun d=>W (asB d) Q:=W_bind
theorem Arf:W (asB (.bl b)) Q=Q b:=Af
theorem Aix:W (Jx f env m) Q=W (f env m) fun d=>W (Ain m d) Q:=W_bind
theorem Ass:W (Ain m (.bl b)) Q=Q b:=Af
theorem Asv:W (Ain m (.tup ds)) Q=Q (!ds.isEmpty):=Af
theorem Asu:W (Ain m (.str y)) Q=(y.length<=1000000/\Q ((y.length:Int) != 0)):=G2
theorem Ark:W (Aex f g env m) Q=W (f env m) (cK (W (g env m) Q) (Q false)):=by
 unfold Aex;rw[W_bind];congr 1;funext c;rw[Hm,Af]
theorem Ayh:W (fOr f g env m) Q=W (f env m) (cK (Q true) (W (g env m) Q)):=by
 unfold fOr;rw[W_bind];congr 1;funext c;rw[Hm,Af]
theorem Arp:W (Ae0 f env m) Q=W (f env m) fun b=>Q (!b):=by
 unfold Ae0;rw[W_bind];congr 1;funext c;exact Af
theorem Alh:W (Jw f g env m) Q=W (f env m) fun d=>W (asB d) (cK (W (g env m) Q) (Q (.bl false))):=by
 unfold Jw;rw[W_bind,Of];congr 1;funext c;congr 1;funext c;rw[Hm,Af]
theorem Arq:W (Ae1 f g env m) Q=W (f env m) fun d=>W (asB d) (cK (Q (.bl true)) (W (g env m) Q)):=by
 unfold Ae1;rw[W_bind,Of];congr 1;funext c;congr 1;funext c;rw[Hm,Af]
theorem Alj:W (U2 f env m) Q=W (f env m) fun d=>W (Ain m d) fun b=>Q (.bl (!b)):=by
 unfold U2;rw[W_bind,Aix];congr 1;funext c;congr 1;funext c;exact Af
theorem Aye {t:FB}:W (fIf t f g env m) Q=W (t env m) (cK (W (f env m) Q) (W (g env m) Q)):=by
 unfold fIf;rw[W_bind];congr 1;funext c;exact Hm
theorem Afa:W (Jk o o' f g h env m) Q=W (f env m) fun x=>W (g env m) fun y=>W (o x y m) fun z=>W (asB z) (cK (W (h env m) fun w=>W (o' y w m) Q) (Q (.bl false))):=by
 unfold Jk
 rw[W_bind];congr 1;funext x
 rw[W_bind];congr 1;funext y
 rw[W_bind];congr 1;funext z
 rw[W_bind];congr 1;funext k
 rw[Hm,Af,W_bind]
theorem Ayi {l h:FO}:W (fSl f l h env m) Q=W (f env m) fun x=>W (l env m) fun lo=>W (h env m) fun hi=>W (oSl x lo hi) Q:=by
 unfold fSl
 rw[W_bind];congr 1;funext x
 rw[W_bind];congr 1;funext y
 rw[W_bind]
theorem Ayg:W (fNo env m) Q=Q none:=Af
theorem Alk:W (Dy f env m) Q=W (f env m) fun d=>W (asI d) fun i=>Q (some i):=by
 unfold Dy
 rw[W_bind];congr 1;funext x
 rw[W_bind];congr 1;funext y
 exact Af
theorem Ax5:W (asI (.int i)) Q=Q i:=Af
theorem Asb {z:Str}{lo hi:Option Int}{Q:D->Prop}:W (oSl (.str z) lo hi) Q=(z.length<=1000000/\Q (.str (Txt.slice z lo hi))):=G2
theorem Asc {z:List D}{lo hi:Option Int}{Q:D->Prop}:W (oSl (.tup z) lo hi) Q=Q (.tup (Hs z lo hi)):=Af
def slK (lo hi:Option Int) (m:MH) (x:D) (Q:List D->Prop):Prop:=W (match x with
 |.tup _=>none
 |x=>(sq m x).bind fun ds=>some (Hs ds lo hi)) Q
theorem Ars {l h:FO}:W (Aqz f l h env m) Q=W (f env m) fun x=>W (l env m) fun lo=>W (h env m) fun hi=>slK lo hi m x Q:=by
 unfold Aqz slK
 rw[W_bind];congr 1;funext x
 rw[W_bind];congr 1;funext y
 rw[W_bind]<;>congr 1
theorem Ba0 {lo hi:Option Int}{m:MH}{ds:List D}{Q:List D->Prop}:slK lo hi m (.lst ds) Q=Q (Hs ds lo hi):=Af
theorem Awt {lo hi:Option Int}{m:MH}{ds:List D}{Q:List D->Prop}:slK lo hi m (.kl ds) Q=Q (Hs ds lo hi):=Af
theorem Arl:W (Aey f g env m) Q=W (f env m) fun x=>W (g env m) fun y=>W (sqL m x) fun xs=>W (sqL m y) fun ys=>xs.length+ys.length<=1000000/\Q (xs++ys):=by
 unfold Aey
 rw[W_bind];congr 1;funext x
 rw[W_bind];congr 1;funext y
 rw[W_bind];congr 1;funext z
 rw[W_bind];congr 1;funext k
 exact G2
theorem Arm:W (Ai7 U f env m) Q=W (f env m) fun d=>W (tyD m d) fun T=>W (Af4 T U) fun b=>Q (.bl b):=by
 unfold Ai7
 rw[W_bind];congr 1;funext x
 rw[W_bind];congr 1;funext y
 rw[W_bind];congr 1;funext z
 exact Af
theorem Z9:W (Hc env m) Q=Q true:=Af
theorem Ali {cap:List Nat}{t:FB}:W (Bt cap k fw g t fe env m) Q=W (fw env m) fun w=>(w.chk m/\w.all.length<=1000000)/\W (Hr g t fe m (Z0 cap k env) w.all) Q:=by
 unfold Bt
 rw[W_bind];congr 1;funext w
 by_cases h:w.chk m/\w.all.length<=1000000
 ·rw[Bef h];apply Bgl;exact⟨fun q=>⟨h,q⟩,fun q=>q.2⟩
 ·rw[Beg h,Bl];apply Bgl;exact⟨False.elim,fun q=>h q.1⟩
theorem Eb {t:FB}:W (Hr g t fe m env []) Q=Q []:=Af
theorem Dj {t:FB}{d:D}:W (Hr g t fe m env (d::ds)) Q=W (g d env) fun env1=>W (t env1 m) (cK (W (fe env1 m) fun y=>W (Hr g t fe m env ds) fun ys=>Q (y::ys)) (W (Hr g t fe m env ds) Q)):=by
 rw[Hr,W_bind];congr 1;funext e
 rw[W_bind];congr 1;funext ok
 rw[Hm,W_bind]
 congr 1
 congr 1;funext y
 rw[W_bind];congr 1;funext z
 exact Af
theorem Arc:W (Bx (.int i) (.int j) m) Q=Q (.int (i+j)):=Af
theorem Ard:W (Bx (.str i) (.str j) m) Q=(i.length+j.length<=1000000/\Q (.str (i++j))):=G2
theorem Are:W (Bx (.tup i) (.tup j) m) Q=(i.length+j.length<=1000000/\Q (.tup (i++j))):=G2
theorem Asr:W (Ae3 (.int i) (.int j) m) Q=Q (.int (i - j)):=Af
theorem Ar8:W (Xv (.int i) (.int j) m) Q=(((-(2 ^ 64) < i/\i < 2 ^ 64)\/(-(2 ^ 64) < j/\j < 2 ^ 64))/\Q (.int (i * j))):=G2
theorem Arj:W (Aq2 (.int i) (.int j) m) Q=((0 < j/\j < 1073741824)/\Q (.int (i / j))):=G2
theorem Ar7:W (Xu (.int i) (.int j) m) Q=(0 < j/\Q (.int (i % j))):=G2
theorem Ase:W (Aq3 (.int i) (.int j) m) Q=((0<=j/\j<=1000000/\i.natAbs < 2 ^ 64)/\Q (.int (i ^ j.toNat))):=G2
theorem Asl:W (Axp (.int i) (.int j) m) Q=(0<=j/\Q (.int (i / 2 ^ j.toNat))):=G2
theorem Ayv:W (oLt (.int i) (.int j) m) Q=Q (.bl (decide (i < j))):=by
 rw[show oLt (.int i) (.int j) m=some (.bl (decide (i < j))) by rfl,Af]
theorem Ayt:W (oLe (.int i) (.int j) m) Q=Q (.bl (decide (i<=j))):=Af
theorem Ayj:W (oGt (.int i) (.int j) m) Q=Q (.bl (decide (j < i))):=Af
theorem Bbh:W (oEq x y m) Q=W (C0 m x) fun x'=>W (C0 m y) fun y'=>dep x'<=60/\Q (.bl (deq x' y')):=by
 unfold oEq eqO
 rw[W_bind,W_bind];congr 1;funext x'
 rw[W_bind];congr 1;funext y'
 rw[G2,Af]
theorem Bcl:W (oNe x y m) Q=W (C0 m x) fun x'=>W (C0 m y) fun y'=>dep x'<=60/\Q (.bl (!deq x' y')):=by
 unfold oNe eqO
 rw[W_bind,W_bind];congr 1;funext x'
 rw[W_bind];congr 1;funext y'
 rw[G2,Af]
theorem Arx:W (M7 .non m) Q=Q (.bl true):=Af
theorem Ary:W (M7 (.tup i) m) Q=Q (.bl false):=Af
theorem Alp:W (L6 .non m) Q=Q (.bl false):=Af
theorem Ays:W (oIx (.str z) (.int i) m) Q=(z.length<=1000000/\W (atI z.cps.toList i) fun c=>Q (.str ⟨#[c]⟩)):=by
 show W (if z.length<=1000000 then (atI z.cps.toList i).bind fun c=>some (.str ⟨#[c]⟩) else none) Q=_
 by_cases h:z.length<=1000000
 ·rw[Bef h,W_bind];simp only[h,true_and];congr 1;funext c;exact Af
 ·rw[Beg h,Bl];simp[h]
theorem Yq:W (oIx (.tup z) (.int i) m) Q=W (atI z i) Q:=rfl
theorem Ayp:W (oIx (.lst z) (.int i) m) Q=W (atI z i) Q:=rfl
theorem Ayo:W (oIx (.kl z) (.int i) m) Q=W (atI z i) Q:=rfl
theorem Ayr:W (oIx (.ref n) (.int i) m) Q=W (sq m (.ref n)) fun z=>W (atI z i) Q:=W_bind
theorem Ar3:W (Ek [.str z] m) Q=(z.length<=1000000/\Q (.int z.length)):=by
 show W ((if z.length<=1000000 then some z.length else none).bind fun n=>some (.int n)) Q=_
 rw[W_bind,G2,Af]
theorem Ar4:W (Ek [.tup z] m) Q=Q (.int z.length):=Af
theorem Ar1:W (Ek [.lst z] m) Q=Q (.int z.length):=Af
theorem Ar0:W (Ek [.kl z] m) Q=Q (.int z.length):=Af
theorem Ar2:W (Ek [.ref n] m) Q=W (sq m (.ref n)) fun z=>Q (.int z.length):=by
 show W (((sq m (.ref n)).bind fun ds=>some ds.length).bind fun n=>some (.int n)) Q=_
 rw[W_bind,W_bind];congr 1;funext z;rw[Af,Af]
theorem Arw:W (Agu [.str z] m) Q=(z.length<=640/\W (PySem.intText? z) fun i=>Q (.int i)):=by
 show W (if z.length<=640 then (PySem.intText? z).bind fun i=>some (.int i) else none) Q=_
 by_cases h:z.length<=640
 ·rw[Bef h,W_bind];simp only[h,true_and];congr 1;funext c;exact Af
 ·rw[Beg h,Bl];simp[h]
theorem Aiz:W (Zk [.int i] m) Q=(i.natAbs.log2 < 1920/\Q (.str (Str.ofString (toString i)))):=G2
theorem Ai0:W (Zk [.str z] m) Q=(z.length<=1000000/\Q (.str z)):=G2
theorem Ax3 {d:D}:W (Ae2 [d] m) Q=W (sqL m d) fun ds=>W (M1 ds) fun bs=>Q (.bl (bs.all (fun b=>b))):=by
 unfold Ae2
 simp only
 rw[W_bind];congr 1;funext z;rw[W_bind];congr 1;funext z;exact Af
theorem Ax4 {d:D}:W (Auc [d] m) Q=W (sqL m d) fun ds=>W (M1 ds) fun bs=>Q (.bl (bs.any (fun b=>b))):=by
 unfold Auc
 simp only
 rw[W_bind];congr 1;funext z;rw[W_bind];congr 1;funext z;exact Af
theorem Asp:W (sqL m (.lst z)) Q=Q z:=Af
theorem Ayl:W (oIn (.str x) (.str z) m) Q=Q (.bl (!(Builtin.Str.occurrences z x 0 z.length 1).isEmpty)):=by
 unfold oIn inO;rw[W_bind];simp only;rw[Af,Af]
theorem Aym:W (oIn x (.tup z) m) Q=W (C0 m x) fun x'=>W (C0 m (.tup z)) fun y'=>W (sq [] y') fun ds=>dep x'<=50/\Q (.bl (ds.any fun d=>deq d x')):=by
 unfold oIn inO;rw[W_bind];simp only
 rw[W_bind];congr 1;funext x';rw[W_bind];congr 1;funext z;rw[W_bind];congr 1;funext z;rw[G2,Af]
theorem Ayk:W (oIn x (.lst z) m) Q=W (C0 m x) fun x'=>W (C0 m (.lst z)) fun y'=>W (sq [] y') fun ds=>dep x'<=50/\Q (.bl (ds.any fun d=>deq d x')):=by
 unfold oIn inO;rw[W_bind];simp only
 rw[W_bind];congr 1;funext x';rw[W_bind];congr 1;funext z;rw[W_bind];congr 1;funext z;rw[G2,Af]
theorem Lf:W (Ew n fn ds m) Q=W (Co m ds) fun ds'=>ds'.length=n/\W (fn ds') Q:=by
 unfold Ew
 rw[W_bind];congr 1;funext z
 by_cases h:z.length=n
 ·rw[Bef h];simp[h]
 ·rw[Beg h,Bl];simp[h]
theorem Dl:W (Co m []) Q=Q []:=Af
theorem Dk {d:D}:W (Co m (d::ds)) Q=W (C0 m d) fun d'=>W (Co m ds) fun ds'=>Q (d'::ds'):=by
 rw[Co,W_bind];congr 1;funext z;rw[W_bind];congr 1;funext z;exact Af
theorem Alw:W (C0 m .non) Q=Q .non:=Af
theorem Als:W (C0 m (.bl b)) Q=Q (.bl b):=Af
theorem Alu:W (C0 m (.int b)) Q=Q (.int b):=Af
theorem Ur:W (C0 m (.str b)) Q=Q (.str b):=Af
theorem Aab:W (C0 m (.lst b)) Q=(Ba b=true/\Q (.lst b)):=G2
theorem Alv:W (C0 m (.kl b)) Q=(Ba b=true/\Q (.kl b)):=G2
theorem Ay0:W (tyD m (.int b)) Q=Q "int":=Af
theorem Ay1:W (tyD m (.str b)) Q=Q "str":=Af
theorem Yo:W (Af4 "int" "str") Q=Q false:=by rw[show Af4 "int" "str"=some false by decide,Af]
theorem Yp:W (Af4 "str" "str") Q=Q true:=by rw[show Af4 "str" "str"=some true by decide,Af]
theorem Ay9:W (Ci m .non) Q=Q .non:=by rw[Ci,Af]
theorem Ay7:W (Ci m (.bl b)) Q=Q (.bl b):=by rw[Ci,Af]
theorem Ay8:W (Ci m (.int b)) Q=Q (.int b):=by rw[Ci,Af]
theorem Aza:W (Ci m (.str b)) Q=Q (.str b):=by rw[Ci,Af]
def Aq8 (m:MH) (d:D) (Q:Wk->Prop):Prop:=W (match d with
 |.str z=>some ⟨G9 z,Bm⟩
 |.tup ds=>some ⟨ds,Bm⟩
 |.lst ds=>some ⟨ds,Bm⟩
 |.kl ds=>some ⟨ds,Bm⟩
 |.ref n=>(match m[n]? with
  |some (.lst ds)=>some ⟨ds,fun m'=>m'[n]?=some (.lst ds)⟩
  |_=>none)
 |_=>none) Q
theorem Asw:W (Hk f env m) Q=W (f env m) fun d=>Aq8 m d Q:=W_bind
theorem Bd8:Aq8 m (.str z) Q=Q ⟨G9 z,Bm⟩:=Af
theorem Bd9:Aq8 m (.tup z) Q=Q ⟨z,Bm⟩:=Af
theorem Bd6:Aq8 m (.lst z) Q=Q ⟨z,Bm⟩:=Af
theorem Bd7:Aq8 m (.ref n) Q=W (sq m (.ref n)) fun ds=>Q ⟨ds,fun m'=>m'[n]?=some (.lst ds)⟩:=by
 unfold Aq8 sq
 simp only
 cases m[n]? with
 |none=>rw[Bl,Bl]
 |some o=>cases o with
  |lst ds=>rw[Af,Af]
  |dct ds=>rw[Bl,Bl]
def Bbv (ds:List D) (Q:Wk->Prop):Prop:=W (match ds with
 |[.int j]=>if -(2 ^ 62)<=j/\j < 2 ^ 62 then some ⟨Dc 0 j.toNat,Bm⟩ else none
 |_=>none) Q
theorem Aly:W (Ji g env m) Q=W (g env m) fun ds=>Bbv ds Q:=W_bind
theorem Bay:Bbv [.int j] Q=((-(2 ^ 62)<=j/\j < 2 ^ 62)/\Q ⟨Dc 0 j.toNat,Bm⟩):=G2
theorem Asg:W (T6 f g b env m) Q=W (f env m) fun w=>W (Lw w.chk g b w.all env m) Q:=W_bind
theorem Vz:W (Lw chk g b [] e m) Q=(chk m/\Q (.nx e m)):=by rw[Lw];exact G2
def Zt (chk:MH->Prop) (g:FG) (b:FS) (ds:List D) (Q:Out->Prop):Out->Prop
 |.nx e m=>W (Lw chk g b ds e m) Q
 |.ct e m=>W (Lw chk g b ds e m) Q
 |.bk e m=>Q (.nx e m)
 |.rt d m=>Q (.rt d m)
theorem Aig:Zt chk g b ds Q (.nx e m)=W (Lw chk g b ds e m) Q:=rfl
theorem Aif:Zt chk g b ds Q (.ct e m)=W (Lw chk g b ds e m) Q:=rfl
theorem Aie:Zt chk g b ds Q (.bk e m)=Q (.nx e m):=rfl
theorem Aih:Zt chk g b ds Q (.rt e m)=Q (.rt e m):=rfl
theorem Hn {d:D}:W (Lw chk g b (d::ds) e m) Q=(chk m/\W (g d e) fun e1=>W (b e1 m) (Zt chk g b ds Q)):=by
 rw[Lw]
 by_cases h:chk m
 ·rw[Bef h,W_bind]
  apply Bgl
  have k:∀ e1,W ((b e1 m).bind fun o=>match o with
   |.nx env2 m2=>Lw chk g b ds env2 m2
   |.ct env2 m2=>Lw chk g b ds env2 m2
   |.bk env2 m2=>some (.nx env2 m2)
   |.rt d m2=>some (.rt d m2)) Q=W (b e1 m) (Zt chk g b ds Q):=by
   intro e1
   rw[W_bind]
   congr 1
   funext o
   cases o<;>first|rfl|exact Af
  exact⟨fun q=>⟨h,q.imp fun e1 q=>(k e1) ▸ q⟩,fun q=>q.2.imp fun e1 q=>(k e1) ▸ q⟩
 ·rw[Beg h,Bl];simp[h]
theorem Yu:Bm m=True:=rfl
theorem Z8 (P:D->Prop) (h:∀ d∈ds,W (g d env) fun e1=>W (fe e1 m) P) (q:∀ es,es.length=ds.length->(∀ e∈es,P e)->Q es):W (Hr g Hc fe m env ds) Q:=by
 induction ds generalizing Q with
 |nil=>rw[Eb];exact q [] rfl fun _ h=>nomatch h
 |cons d ds ih =>
  rw[Dj]
  refine (h d (Beb ..)).imp fun e1 h1=>?_
  rw[Z9,Al2]
  refine h1.imp fun y hy=>ih (fun e he=>h e (Bed _ he)) fun es hl hp=>q (y::es) (by simp[hl]) fun e he=>?_
  rcases List.mem_cons.mp he with rfl|he
  ·exact hy
  ·exact hp e he
theorem Bbj {d:D}{l:Bg}:W (Ah 0 (some d::l) m) Q=Q d:=Af
theorem Bcm {l:Bg}:W (Bn 0 f (y::l) m) Q=W (f (y::l) m) fun d=>Q (.nx (some d::l) m):=by unfold Bn;rw[W_bind];congr 1;funext d;exact Af
theorem Bb6 {d:D}{l:Bg}:W (A7 0 d (y::l)) Q=Q (some d::l):=Af
theorem Bbk {d:D}{l:Bg}:W (Ah 1 (x0::some d::l) m) Q=Q d:=Af
theorem Bcn {l:Bg}:W (Bn 1 f (x0::y::l) m) Q=W (f (x0::y::l) m) fun d=>Q (.nx (x0::some d::l) m):=by unfold Bn;rw[W_bind];congr 1;funext d;exact Af
theorem Bcg {l:Bg}:W (Ip 1 f (x0::y::l) m) Q=W (f (x0::y::l) m) fun ds=>Q (.nx (x0::some (.ref m.length)::l) (m++[.lst ds])):=by unfold Ip;rw[W_bind];congr 1;funext d;exact Af
theorem Bb7 {d:D}{l:Bg}:W (A7 1 d (x0::y::l)) Q=Q (x0::some d::l):=Af
theorem Bbl {d:D}{l:Bg}:W (Ah 2 (x0::x1::some d::l) m) Q=Q d:=Af
theorem Bco {l:Bg}:W (Bn 2 f (x0::x1::y::l) m) Q=W (f (x0::x1::y::l) m) fun d=>Q (.nx (x0::x1::some d::l) m):=by unfold Bn;rw[W_bind];congr 1;funext d;exact Af
theorem Bch {l:Bg}:W (Ip 2 f (x0::x1::y::l) m) Q=W (f (x0::x1::y::l) m) fun ds=>Q (.nx (x0::x1::some (.ref m.length)::l) (m++[.lst ds])):=by unfold Ip;rw[W_bind];congr 1;funext d;exact Af
theorem Bb8 {d:D}{l:Bg}:W (A7 2 d (x0::x1::y::l)) Q=Q (x0::x1::some d::l):=Af
theorem Bbm {d:D}{l:Bg}:W (Ah 3 (x0::x1::x2::some d::l) m) Q=Q d:=Af
theorem Bcp {l:Bg}:W (Bn 3 f (x0::x1::x2::y::l) m) Q=W (f (x0::x1::x2::y::l) m) fun d=>Q (.nx (x0::x1::x2::some d::l) m):=by unfold Bn;rw[W_bind];congr 1;funext d;exact Af
theorem Bci {l:Bg}:W (Ip 3 f (x0::x1::x2::y::l) m) Q=W (f (x0::x1::x2::y::l) m) fun ds=>Q (.nx (x0::x1::x2::some (.ref m.length)::l) (m++[.lst ds])):=by unfold Ip;rw[W_bind];congr 1;funext d;exact Af
theorem Bb9 {d:D}{l:Bg}:W (A7 3 d (x0::x1::x2::y::l)) Q=Q (x0::x1::x2::some d::l):=Af
theorem Bcw {d:D}{l:Bg}:W (Ah 4 (x0::x1::x2::x3::some d::l) m) Q=Q d:=Af
theorem Bcq {l:Bg}:W (Bn 4 f (x0::x1::x2::x3::y::l) m) Q=W (f (x0::x1::x2::x3::y::l) m) fun d=>Q (.nx (x0::x1::x2::x3::some d::l) m):=by unfold Bn;rw[W_bind];congr 1;funext d;exact Af
theorem Bca {d:D}{l:Bg}:W (A7 4 d (x0::x1::x2::x3::y::l)) Q=Q (x0::x1::x2::x3::some d::l):=Af
theorem Bcx {d:D}{l:Bg}:W (Ah 5 (x0::x1::x2::x3::x4::some d::l) m) Q=Q d:=Af
theorem Bcr {l:Bg}:W (Bn 5 f (x0::x1::x2::x3::x4::y::l) m) Q=W (f (x0::x1::x2::x3::x4::y::l) m) fun d=>Q (.nx (x0::x1::x2::x3::x4::some d::l) m):=by unfold Bn;rw[W_bind];congr 1;funext d;exact Af
theorem Bcj {l:Bg}:W (Ip 5 f (x0::x1::x2::x3::x4::y::l) m) Q=W (f (x0::x1::x2::x3::x4::y::l) m) fun ds=>Q (.nx (x0::x1::x2::x3::x4::some (.ref m.length)::l) (m++[.lst ds])):=by unfold Ip;rw[W_bind];congr 1;funext d;exact Af
theorem Bcb {d:D}{l:Bg}:W (A7 5 d (x0::x1::x2::x3::x4::y::l)) Q=Q (x0::x1::x2::x3::x4::some d::l):=Af
theorem Bcy {d:D}{l:Bg}:W (Ah 6 (x0::x1::x2::x3::x4::x5::some d::l) m) Q=Q d:=Af
theorem Bcs {l:Bg}:W (Bn 6 f (x0::x1::x2::x3::x4::x5::y::l) m) Q=W (f (x0::x1::x2::x3::x4::x5::y::l) m) fun d=>Q (.nx (x0::x1::x2::x3::x4::x5::some d::l) m):=by unfold Bn;rw[W_bind];congr 1;funext d;exact Af
theorem Bcc {d:D}{l:Bg}:W (A7 6 d (x0::x1::x2::x3::x4::x5::y::l)) Q=Q (x0::x1::x2::x3::x4::x5::some d::l):=Af
theorem Bcz {d:D}{l:Bg}:W (Ah 7 (x0::x1::x2::x3::x4::x5::x6::some d::l) m) Q=Q d:=Af
theorem Bct {l:Bg}:W (Bn 7 f (x0::x1::x2::x3::x4::x5::x6::y::l) m) Q=W (f (x0::x1::x2::x3::x4::x5::x6::y::l) m) fun d=>Q (.nx (x0::x1::x2::x3::x4::x5::x6::some d::l) m):=by unfold Bn;rw[W_bind];congr 1;funext d;exact Af
theorem Bck {l:Bg}:W (Ip 7 f (x0::x1::x2::x3::x4::x5::x6::y::l) m) Q=W (f (x0::x1::x2::x3::x4::x5::x6::y::l) m) fun ds=>Q (.nx (x0::x1::x2::x3::x4::x5::x6::some (.ref m.length)::l) (m++[.lst ds])):=by unfold Ip;rw[W_bind];congr 1;funext d;exact Af
theorem Bbg {d:D}{l:Bg}:W (A7 7 d (x0::x1::x2::x3::x4::x5::x6::y::l)) Q=Q (x0::x1::x2::x3::x4::x5::x6::some d::l):=Af
theorem Bc0 {d:D}{l:Bg}:W (Ah 8 (x0::x1::x2::x3::x4::x5::x6::x7::some d::l) m) Q=Q d:=Af
theorem Bcu {l:Bg}:W (Bn 8 f (x0::x1::x2::x3::x4::x5::x6::x7::y::l) m) Q=W (f (x0::x1::x2::x3::x4::x5::x6::x7::y::l) m) fun d=>Q (.nx (x0::x1::x2::x3::x4::x5::x6::x7::some d::l) m):=by unfold Bn;rw[W_bind];congr 1;funext d;exact Af
theorem Bcd {d:D}{l:Bg}:W (A7 8 d (x0::x1::x2::x3::x4::x5::x6::x7::y::l)) Q=Q (x0::x1::x2::x3::x4::x5::x6::x7::some d::l):=Af
theorem Bc1 {d:D}{l:Bg}:W (Ah 9 (x0::x1::x2::x3::x4::x5::x6::x7::x8::some d::l) m) Q=Q d:=Af
theorem Bcv {l:Bg}:W (Bn 9 f (x0::x1::x2::x3::x4::x5::x6::x7::x8::y::l) m) Q=W (f (x0::x1::x2::x3::x4::x5::x6::x7::x8::y::l) m) fun d=>Q (.nx (x0::x1::x2::x3::x4::x5::x6::x7::x8::some d::l) m):=by unfold Bn;rw[W_bind];congr 1;funext d;exact Af
theorem Ay2 {d:D}{l:Bg}:W (Ah 10 (x0::x1::x2::x3::x4::x5::x6::x7::x8::x9::some d::l) m) Q=Q d:=Af
theorem Ayx {l:Bg}:W (Bn 10 f (x0::x1::x2::x3::x4::x5::x6::x7::x8::x9::y::l) m) Q=W (f (x0::x1::x2::x3::x4::x5::x6::x7::x8::x9::y::l) m) fun d=>Q (.nx (x0::x1::x2::x3::x4::x5::x6::x7::x8::x9::some d::l) m):=by unfold Bn;rw[W_bind];congr 1;funext d;exact Af
end
theorem B8:deq (.int i) (.int j)=decide (i=j):=by
 unfold deq pyD
 rw[show PyData.eqv (.int i) (.int j)=(i == j) by simp[PyData.eqv]]
 by_cases h:i=j<;>simp[h]
theorem Iy:deq (.str i) (.str j)=decide (i=j):=by
 unfold deq pyD
 rw[show PyData.eqv (.str i) (.str j)=(i == j) by simp[PyData.eqv]]
 by_cases h:i=j<;>simp[h]
theorem Ata:deq (.bl i) (.bl j)=decide (i=j):=by
 cases i<;>cases j<;>decide
theorem D6:dep (.int i)=0:=by simp[dep]
theorem Li:dep (.str i)=0:=by simp[dep]
theorem As9:dep (.bl i)=0:=by simp[dep]
theorem Aao:dep .non=0:=by simp[dep]
theorem Zi (ns:List Int):Ba (ns.map D.int)=true:=by
 induction ns with
 |nil=>rw[Bf9,Ba]
 |cons n ns ih=>rw[Bee,Ba,ih,show Cm (D.int n)=true by simp[Cm]];rfl
theorem Et (h0:0<=i) (h1:i < xs.length) (q:∀ d,xs[i.toNat]?=some d->d∈xs->Q d):W (atI xs i) Q:=by
 unfold atI ixN
 rw[Bef h0,Bef h1]
 have hi:i.toNat < xs.length:=by lia
 refine⟨xs[i.toNat],?_,q _ (Beu hi) (Bfp hi)⟩
 exact Beu hi
theorem Aw7 {ts:List Str}{b:Nat} (h:∀ t∈ts,t.length<=b):(ts.map (·.length)).sum<=ts.length * b:=by
 induction ts with
 |nil=>simp
 |cons t ts ih =>
  have h1:=h t (Beb ..)
  have h2:=ih fun t ht=>h t (Bed _ ht)
  simp only[Bee,Bgo,Beh]
  rw[Nat.add_mul]
  lia
theorem Xf {sep:Str}{ts:List Str}{b:Nat} (h:∀ t∈ts,t.length<=b) (hn:ts.length * b+ts.length<=1000000) (hs:sep.length<=16):JoinOk sep ts=true:=by
 refine joinOk_of_weight ?_ hs
 have h2:=Aw7 h
 lia
theorem B2 {x:Option D}{n:Int}{Q:D->Prop} (h:W x fun d=>∃ v,d=.int v/\0<=v/\v < n) (q:∀ v,0<=v->v < n->Q (.int v)):W x Q:=h.imp fun d ⟨v,e,h0,h1⟩=>e ▸ q v h0 h1
theorem length_append {x y:Str}:(x++y).length=x.length+y.length:=by
 show (x.cps++y.cps).size=_
 rw[Array.size_append];rfl
theorem Aq0:(⟨#[c]⟩:Str).length=1:=rfl
theorem Afl:Z0 [] k env=List.replicate k none:=rfl
theorem Aag {cap:List Nat}:Z0 (i::cap) k env=(env[i]?).bind id::Z0 cap k env:=rfl
theorem Be {α:Type}{g:FG}{fe:FE}{m:MH}{env:Bg}{h:α->D} (F:α->D) {xs:List α}{Q:List D->Prop} (k:∀ x∈xs,W (g (h x) env) fun e1=>W (fe e1 m) fun y=>y=F x) (q:Q (xs.map F)):W (Hr g Hc fe m env (xs.map h)) Q:=by
 induction xs generalizing Q with
 |nil=>rw[Bf9,Eb];exact q
 |cons d ds ih =>
  rw[Bee,Dj]
  refine (k d (Beb ..)).imp fun e1 h1=>?_
  rw[Z9,Al2]
  refine h1.imp fun y hy=>?_
  subst hy
  exact ih (fun e he=>k e (Bed _ he)) q
theorem P5 (p:α->Bool):∀ xs:List α,M1 (xs.map fun x=>.bl (p x))=some (xs.map p)
 |[]=>rfl
 |x::xs=>by rw[Bee,M1,P5 p xs];rfl
theorem Ha {α:Type}{p:α->Bool}{xs:List α}{Q:List Bool->Prop}:W (M1 (xs.map fun x=>.bl (p x))) Q=Q (xs.map p):=by rw[P5,Af]
theorem all_map {α:Type}{p:α->Bool}{xs:List α}:(xs.map p).all (fun b=>b)=xs.all p:=by rw[List.all_map];rfl
theorem Ajd:(!(Builtin.Str.occurrences z ⟨#[c]⟩ 0 z.length 1).isEmpty)=decide (c∈z.cps.toList):=StrLaws.found_one z c
theorem O1 {x:Str}:x.length=x.cps.toList.length:=(Bfu).symm
theorem C2 (h:n < 2 ^ 64):n.log2 < 1920:=by
 by_cases h0:n=0
 ·subst h0;decide
 ·have:=(Nat.log2_lt h0).mpr h
  lia
noncomputable section
open Classical
theorem Ayz:W (sq m (.tup ds)) Q=Q ds:=Af
theorem Aso:W (sq m (.lst ds)) Q=Q ds:=Af
theorem Asq:W (sqL m (.ref n)) Q=W (sq m (.ref n)) Q:=rfl
def Axr (o i d:D) (env:Bg) (m:MH) (Q:Out->Prop):Prop:=W (match o,i with
 |.ref n,.int k=>(match m[n]? with
  |some (.lst ds)=>(ixN ds.length k).bind fun j=>some (.nx env (m.set n (.lst (ds.set j d))))
  |_=>none)
 |_,_=>none) Q
theorem Aws {d:D}:Axr (.ref n) (.int k) d env m Q=W (sq m (.ref n)) fun ds=>W (ixN ds.length k) fun j=>Q (.nx env (m.set n (.lst (ds.set j d)))):=by
 unfold Axr sq
 simp only
 cases m[n]? with
 |none=>rw[Bl,Bl]
 |some o=>cases o with
  |lst ds=>simp only;rw[Af,W_bind];congr 1;funext j;exact Af
  |dct ds=>rw[Bl,Bl]
theorem Afe:W (T7 f fo fi env m) Q=W (f env m) fun d=>W (fo env m) fun o=>W (fi env m) fun i=>Axr o i d env m Q:=by
 unfold T7 Axr
 rw[W_bind];congr 1;funext x
 rw[W_bind];congr 1;funext y
 rw[W_bind]<;>congr 1
def Axn (o:List D->List D->Option (List D)) (d:D) (g:FL) (env:Bg) (m:MH) (Q:Out->Prop):Prop:=W (match d with
 |.ref n=>(g env m).bind fun es=>(match m[n]? with
  |some (.lst ds)=>(o ds es).bind fun fs=>some (.nx env (m.set n (.lst fs)))
  |_=>none)
 |_=>none) Q
theorem Ash:W (Pu o f g env m) Q=W (f env m) fun d=>Axn o d g env m Q:=by
 unfold Pu Axn
 rw[W_bind]<;>congr 1
theorem At9:Axn o (.ref n) g env m Q=W (g env m) fun es=>W (sq m (.ref n)) fun ds=>W (o ds es) fun fs=>Q (.nx env (m.set n (.lst fs))):=by
 unfold Axn sq
 simp only
 rw[W_bind];congr 1;funext es
 cases m[n]? with
 |none=>rw[Bl,Bl]
 |some o=>cases o with
  |lst ds=>simp only;rw[Af,W_bind];congr 1;funext j;exact Af
  |dct ds=>rw[Bl,Bl]
theorem Ar9 {d:D}:W (Pt ds [d]) Q=(ds.length < 1000000/\Q (ds++[d])):=G2
theorem Afd {d:D}:W (G8 [d] m) Q=W (sq m d) fun ds=>Q (.tup ds):=W_bind.trans (by congr 1;funext ds;exact Af)
theorem Asf:W (Awp f g env m) Q=W (f env m) fun d=>W (g d env) fun e=>Q (.nx e m):=by
 unfold Awp
 rw[W_bind];congr 1;funext x
 rw[W_bind];congr 1;funext y
 exact Af
theorem Aiw:W (Aew n g (.tup ds) env) Q=(ds.length=n/\W (g ds env) Q):=by
 unfold Aew
 simp only
 by_cases h:ds.length=n
 ·rw[Bef h];simp[h]
 ·rw[Beg h,Bl];simp[h]
theorem Ale {d:D}:W (Iw g h (d::ds) env) Q=W (g d env) fun e=>W (h ds e) Q:=W_bind
theorem Ari:W (Al6 [] env) Q=Q env:=Af
theorem Asa:W (Ajl (.int i) m) Q=Q (.int (-i)):=Af
theorem Ar6:W (Agv [.int i,.int j] m) Q=Q (.int (if j < i then j else i)):=Af
theorem Ar5:W (Zj [.tup ds] m) Q=W (U5 ds) fun is=>is≠[]/\Q (.int (At0 is)):=by
 unfold Zj
 simp only
 rw[W_bind];congr 1;funext is
 by_cases h:is=[]
 ·rw[Bef h,Bl];simp[h]
 ·rw[Beg h,Af];simp[h]
theorem Aln:W (U5 []) Q=Q []:=Af
theorem Alm:W (U5 (.int i::ds)) Q=W (U5 ds) fun is=>Q (i::is):=W_bind.trans (by congr 1;funext ds;exact Af)
theorem Ayu:W (Axo x y m) Q=W (C0 m x) fun x'=>W (C0 m y) fun y'=>(dep x'<=30/\dep y'<=30)/\W (ltD x' y') fun k=>Q (.bl k):=by
 unfold Axo
 rw[W_bind];congr 1;funext x'
 rw[W_bind];congr 1;funext y'
 by_cases h:dep x'<=30/\dep y'<=30
 ·rw[Bef h,W_bind]
  apply Bgl
  have e:(fun k=>W (some (D.bl k)) Q)=fun k=>Q (.bl k):=by funext k;exact Af
  rw[e]
  exact⟨fun q=>⟨h,q⟩,fun q=>q.2⟩
 ·rw[Beg h,Bl];apply Bgl;exact⟨False.elim,fun q=>h q.1⟩
theorem Alx:W (C0 m (.ref n)) Q=W (sq m (.ref n)) fun ds=>Ba ds=true/\Q (.lst ds):=by
 unfold C0 sq
 simp only
 cases m[n]? with
 |none=>rw[Bl,Bl]
 |some o=>cases o with
  |lst ds=>simp only;rw[Af];exact G2
  |dct ds=>rw[Bl,Bl]
theorem Ast:W (Ain m (.ref n)) Q=W (sq m (.ref n)) fun ds=>Q (!ds.isEmpty):=W_bind.trans (by congr 1;funext ds;exact Af)
theorem Ayw:W (oLt (.str i) (.str j) m) Q=Q (.bl (decide (i.cps.toList < j.cps.toList))):=by
 rw[show oLt (.str i) (.str j) m=some (.bl (decide (i.cps.toList < j.cps.toList))) by rfl,Af]
theorem Ayq {n:Nat}{k:Int}{Q:Nat->Prop} (h0:0<=k) (h1:k < n) (q:Q k.toNat):W (ixN n k) Q:=by
 unfold ixN
 rw[Bef h0,Bef h1,Af]
 exact q
theorem Asm:W (sq (.lst ds::m) (.ref 0)) Q=Q ds:=Af
theorem Bbn {n:Nat}{ds:List D}{m:MH}{Q:D->Prop} (h:m[n]?=some (.lst ds)):W (Ci m (.ref n)) Q=cK (Q (.lst ds)) (W (xpL m ds) fun es=>Q (.lst es)) (A3 ds):=by
 rw[Ci,h]
 show W (if _ then _ else _) Q=_
 rw[Hm,Af,W_bind]
 congr 2;funext es;exact Af
theorem Azb:W (Ci (.lst ds::m) (.ref 0)) Q=cK (Q (.lst ds)) (W (xpL (.lst ds::m) ds) fun es=>Q (.lst es)) (A3 ds):=Bbn rfl
theorem Asx:W (Ci (.dct ks vs::m) (.ref 0)) Q=(A3 vs=true/\Q (.dic ks vs)):=by rw[Ci];exact G2
theorem Asn:W (sq (o0::.lst ds::m) (.ref 1)) Q=Q ds:=Af
end
theorem W.eq (h:W x fun d=>d=a):W x Q=Q a:=by rw[h.out,Af]
mutual
theorem N9:∀ {d:D},Bc d=true->Ci m d=some d
 |.non,_=>by rw[Ci]
 |.bl _,_=>by rw[Ci]
 |.int _,_=>by rw[Ci]
 |.str _,_=>by rw[Ci]
 |.tup ds,h=>by rw[Bc] at h;rw[Ci,My h];rfl
 |.lst _,h=>by simp[Bc] at h
 |.kl _,h=>by simp[Bc] at h
 |.ref _,h=>by simp[Bc] at h
theorem My:∀ {ds:List D},A3 ds=true->Mx m ds=some ds
 |[],_=>by rw[Mx]
 |d::ds,h=>by
  rw[A3,Bet] at h
  rw[Mx,N9 h.1,My h.2];rfl
end
mutual
theorem Nv:∀ {d:D},Bc d=true->Cm d=true
 |.non,_=>by simp[Cm]
 |.bl _,_=>by simp[Cm]
 |.int _,_=>by simp[Cm]
 |.str _,_=>by simp[Cm]
 |.tup ds,h=>by rw[Bc] at h;rw[Cm];exact Bd h
 |.lst _,h=>by simp[Bc] at h
 |.kl _,h=>by simp[Bc] at h
 |.ref _,h=>by simp[Bc] at h
theorem Bd:∀ {ds:List D},A3 ds=true->Ba ds=true
 |[],_=>by rw[Ba]
 |d::ds,h=>by
  rw[A3,Bet] at h
  rw[Ba,Nv h.1,Bd h.2];rfl
end
theorem Mu {d:D} (h:Bc d=true):C0 m d=some d:=by
 have h2:=Nv h
 cases d<;>first|(simp[Bc] at h;done)|(unfold C0;simp only;rw[Bef h2])
theorem Es {d:D} (h:Bc d=true):W (Ci m d) Q=Q d:=by rw[N9 h,Af]
theorem C1 {d:D} (h:Bc d=true):W (C0 m d) Q=Q d:=by rw[Mu h,Af]
theorem Ee:Bc .non=true:=by simp[Bc]
theorem Agr:Bc (.bl b)=true:=by simp[Bc]
theorem Cv:Bc (.int b)=true:=by simp[Bc]
theorem E9:Bc (.str b)=true:=by simp[Bc]
theorem Ca:Bc (.tup ds)=A3 ds:=by rw[Bc]
theorem Dp:A3 []=true:=by rw[A3]
theorem Bi {d:D}:A3 (d::ds)=(Bc d&&A3 ds):=by rw[A3]
theorem Do:∀ {ds:List D},A3 ds=true ↔ ∀ d∈ds,Bc d=true
 |[]=>by simp[A3]
 |d::ds=>by rw[A3,Bet,Do];simp
theorem O8:A3 (ds++es)=(A3 ds&&A3 es):=by
 rw[Bft,Bet,Do,Do,Do]
 constructor
 ·exact fun h=>⟨fun d hd=>h d (Bfd _ hd),fun d hd=>h d (Bei _ hd)⟩
 ·rintro ⟨h1,h2⟩ d hd
  rcases List.mem_append.mp hd with hd|hd
  ·exact h1 d hd
  ·exact h2 d hd
theorem A2 {α:Type}{f:α->D}{xs:List α} (h:∀ x,Bc (f x)=true):A3 (xs.map f)=true:=by
 rw[Do];intro d hd;obtain⟨x,_,rfl⟩:=List.mem_map.mp hd;exact h x
theorem Ey:deq (.tup []) (.tup [])=true:=by simp[deq,pyD,Cf,PyData.eqv,PyData.eqvAll]
theorem Cs:deq (.tup (x::xs)) (.tup (y::ys))=(deq x y&&deq (.tup xs) (.tup ys)):=by
 simp[deq,pyD,Cf,PyData.eqv,PyData.eqvAll]
theorem Ate:deq (.tup []) (.tup (x::xs))=false:=by simp[deq,pyD,Cf,PyData.eqv,PyData.eqvAll]
theorem Ai4:deq (.tup (x::xs)) (.tup [])=false:=by simp[deq,pyD,Cf,PyData.eqv,PyData.eqvAll]
theorem Atg:deq .non .non=true:=by simp[deq,pyD,PyData.eqv]
theorem Atb {t:Str}:deq (.int i) (.str t)=false:=by simp[deq,pyD,PyData.eqv]
theorem Ati {t:Str}:deq (.str t) (.int i)=false:=by simp[deq,pyD,PyData.eqv]
theorem Ath:deq .non (.tup ds)=false:=by simp[deq,pyD,PyData.eqv]
theorem Atj:deq (.tup ds) .non=false:=by simp[deq,pyD,PyData.eqv]
theorem Om [DecidableEq α] (h:∀ x y,deq (f x) (f y)=decide (x=y)):∀ xs ys:List α,deq (.tup (xs.map f)) (.tup (ys.map f))=decide (xs=ys)
 |[],[]=>by simp[Ey]
 |[],y::ys=>by simp[Ate]
 |x::xs,[]=>by simp[Ai4]
 |x::xs,y::ys=>by
  rw[Bee,Bee,Cs,h,Om h xs ys]
  by_cases e1:x=y<;>by_cases e2:xs=ys<;>simp[e1,e2]
theorem Ex:dep (.tup ds)=Ei ds+1:=by rw[dep]
theorem D7 {n:Nat}:∀ {ds:List D},(∀ d∈ds,dep d<=n)->Ei ds<=n
 |[],_=>by rw[Ei];exact Bfe _
 |d::ds,h=>by
  rw[Ei]
  have h1:=h d (Beb ..)
  have h2:=D7 (n:=n) (ds:=ds) fun e he=>h e (Bed _ he)
  lia
noncomputable def Abp {α:Type} (I:List α->Bg->MH->Prop) (xs:List α) (Q:Out->Prop):Out->Prop
 |.nx e m=>I xs e m
 |.ct e m=>I xs e m
 |.bk e m=>Q (.nx e m)
 |.rt d m=>Q (.rt d m)
theorem Agb:Abp I xs Q (.nx e m)=I xs e m:=rfl
theorem Aga:Abp I xs Q (.ct e m)=I xs e m:=rfl
theorem Af9:Abp I xs Q (.bk e m)=Q (.nx e m):=rfl
theorem Agc {d:D}:Abp I xs Q (.rt d m)=Q (.rt d m):=rfl
theorem G1 {α:Type}{h:α->D}{chk:MH->Prop}{g:FG}{b:FS}{Q:Out->Prop} (I:List α->Bg->MH->Prop) (hs:∀ x xs e m,I (x::xs) e m->chk m/\W (g (h x) e) fun e1=>W (b e1 m) (Abp I xs Q)) (he:∀ e m,I [] e m->chk m/\Q (.nx e m)) :
  ∀ {xs:List α}{e:Bg}{m:MH},I xs e m->W (Lw chk g b (xs.map h) e m) Q
 |[],e,m,hi=>by
  rw[Bf9,Vz];exact he e m hi
 |x::xs,e,m,hi=>by
  rw[Bee,Hn]
  obtain⟨h1,h2⟩:=hs x xs e m hi
  refine⟨h1,h2.imp fun e1 h3=>h3.imp fun o ho=>?_⟩
  cases o with
  |nx e m=>exact G1 I hs he ho
  |ct e m=>exact G1 I hs he ho
  |bk e m=>exact ho
  |rt d m=>exact ho
noncomputable def Ze (I:Nat->Bg->MH->Prop) (k:Nat) (Q:Out->Prop):Out->Prop
 |.nx e m=>I k e m
 |.ct e m=>I k e m
 |.bk e m=>Q (.nx e m)
 |.rt d m=>Q (.rt d m)
theorem Af7:Ze I k Q (.nx e m)=I k e m:=rfl
theorem Af6:Ze I k Q (.ct e m)=I k e m:=rfl
theorem Af5:Ze I k Q (.bk e m)=Q (.nx e m):=rfl
theorem Af8 {d:D}:Ze I k Q (.rt d m)=Q (.rt d m):=rfl
theorem Aru (I:Nat->Bg->MH->Prop) (hs:∀ (k:Nat) e m,k < n->I k e m->chk m/\W (g (h k) e) fun e1=>W (b e1 m) (Ze I (k+1) Q)) (he:∀ e m,I n e m->chk m/\Q (.nx e m)) (h0:I 0 e m):W (Lw chk g b ((List.range n).map h) e m) Q:=by
 refine G1 (h:=h) (fun xs e m=>∃ k,k<=n/\xs=(List.range n).drop k/\I k e m) ?_ ?_ ⟨0,Bfe _,rfl,h0⟩
 ·rintro x xs e m ⟨k,hk,hx,hi⟩
  have hk2:k < n:=by
   rcases Nat.lt_or_ge k n with h|h
   ·exact h
   ·rw[Bgs (by simpa using h)] at hx;cases hx
  rw[Bf1 (by simpa using hk2),List.getElem_range] at hx
  obtain⟨e1,e2⟩:=List.cons.inj hx
  rw[e1,e2]
  obtain⟨h1,h2⟩:=hs k e m hk2 hi
  refine⟨h1,h2.imp fun e1 h3=>h3.imp fun o ho=>?_⟩
  cases o with
  |nx e m=>exact⟨k+1,hk2,rfl,ho⟩
  |ct e m=>exact⟨k+1,hk2,rfl,ho⟩
  |bk e m=>exact ho
  |rt d m=>exact ho
 ·rintro e m ⟨k,hk,hx,hi⟩
  have:k=n:=by
   have:=Bfa List.length hx
   simp at this;lia
  subst this
  exact he e m hi
theorem Px {lo:Int}{n:Nat}{chk:MH->Prop}{g:FG}{b:FS}{Q:Out->Prop}{e:Bg}{m:MH} (I:Nat->Bg->MH->Prop) (hs:∀ (k:Nat) e m,k < n->I k e m->chk m/\W (g (.int (lo+k)) e) fun e1=>W (b e1 m) (Ze I (k+1) Q)) (he:∀ e m,I n e m->chk m/\Q (.nx e m)) (h0:I 0 e m):W (Lw chk g b (Dc lo n) e m) Q:=Aru I hs he h0
theorem Apy:Dc 0 3=[.int 0,.int 1,.int 2]:=rfl
theorem Ae9 {l:List α}:W (atI (x::l) 0) Q=Q x:=by
 rw[show atI (x::l) 0=some x by unfold atI ixN;rw[Bef (by decide),Bef (by simp<;>lia)];rfl,Af]
theorem Ala {l:List α}:W (atI (x::y::l) 1) Q=Q y:=by
 rw[show atI (x::y::l) 1=some y by unfold atI ixN;rw[Bef (by decide),Bef (by simp<;>lia)];rfl,Af]
theorem Arh {l:List α}:W (atI (x::y::z::l) 2) Q=Q z:=by
 rw[show atI (x::y::z::l) 2=some z by unfold atI ixN;rw[Bef (by decide),Bef (by simp<;>lia)];rfl,Af]
theorem Ax6 {l:List α}:W (atI (x::y::z::w::l) 3) Q=Q w:=by
 rw[show atI (x::y::z::w::l) 3=some w by unfold atI ixN;rw[Bef (by decide),Bef (by simp<;>lia)];rfl,Af]
theorem M0 {α β:Type}{f:α->β}{xs:List α}{k:Nat} (h:k < xs.length) {Q:β->Prop}:W (atI (xs.map f) (k:Int)) Q=Q (f xs[k]):=by
 rw[show atI (xs.map f) (k:Int)=some (f xs[k]) by unfold atI ixN;rw[Bef (by lia),Bef (by simp;lia)];simp[h],Af]
theorem Yd {n d:Nat}:HT.sIx n d none=d:=rfl
theorem Ap3 {n d k:Nat}:HT.sIx n d (some (k:Int))=min k n:=by
 unfold HT.sIx
 simp only
 by_cases h:((k:Nat):Int) < 0
 ·lia
 ·rw[Beg h];lia
theorem Ap4 {n d:Nat}:HT.sIx n d (some (-1))=n - 1:=by
 unfold HT.sIx
 simp only
 rw[Bef (by decide)];lia
theorem Afp {α:Type}{xs:List α}{n:Nat}:Hs xs (some (n:Int)) none=xs.drop n:=by
 unfold Hs
 rw[Yd,Ap3]
 by_cases h:n<=xs.length
 ·rw[Nat.min_eq_left h,Bhg (by simp)]
 ·rw[Nat.min_eq_right (by lia),Bgs (Bej _),Bgs (by lia)];simp
theorem Afq:Hs xs none (some (-1))=xs.dropLast:=by
 unfold Hs
 rw[Yd,Ap4,List.drop_zero,Nat.sub_zero,Bgz]
theorem Bc5:Hs [x,y,z,w] none (some 3)=[x,y,z]:=rfl
theorem Azc:(Int.natAbs 10 < 18446744073709551616)=True:=by simp
inductive Mark where
 |n (i:Int)
 |s (t:Str)
 deriving DecidableEq
structure Mk where
 a:Int
 b:Int
 c:Int
 ms:List Mark
 deriving DecidableEq
noncomputable def Mark.d:Mark->D
 |.n i=>.int i
 |.s t=>.str t
def Mk.d (x:Mk):D:=.tup [.int x.a,.int x.b,.int x.c,.tup (x.ms.map Mark.d)]
noncomputable def Mark.lt:Mark->Mark->Bool
 |.n i,.n j=>decide (i < j)
 |.n _,.s _=>true
 |.s _,.n _=>false
 |.s t,.s u=>decide (t.cps.toList < u.cps.toList)
def mlt:List Mark->List Mark->Bool
 |[],[]=>false
 |[],_::_=>true
 |_::_,[]=>false
 |x::xs,y::ys=>if x=y then mlt xs ys else x.lt y
def Mk.older (x y:Mk):Bool :=
 if x.a≠y.a then decide (x.a < y.a) else if x.b≠y.b then decide (x.b < y.b) else if x.c≠y.c then decide (x.c < y.c) else
 if x.ms=[]\/y.ms=[] then decide (x.ms≠[]/\y.ms=[]) else mlt x.ms y.ms
theorem Mark.deq (x y:Mark):deq x.d y.d=decide (x=y):=by
 cases x<;>cases y<;>simp[Mark.d,B8,Iy,Atb,Ati]
theorem Mk.deq (x y:Mk):L2.ML.deq x.d y.d=decide (x=y):=by
 unfold Mk.d
 rw[Cs,Cs,Cs,Cs,Ey,B8,B8,B8,Om Mark.deq]
 obtain⟨a,b,c,ms⟩:=x
 obtain⟨a',b',c',ms'⟩:=y
 by_cases h1:a=a'<;>by_cases h2:b=b'<;>by_cases h3:c=c'<;>by_cases h4:ms=ms'<;>simp[h1,h2,h3,h4]
theorem Mark.pure (x:Mark):Bc x.d=true:=by cases x<;>simp[Mark.d,Bc]
theorem Mk.pure (x:Mk):Bc x.d=true:=by
 unfold Mk.d
 rw[Ca,Bi,Bi,Bi,Bi,Cv,Cv,Cv,Ca,A2 Mark.pure,Dp];rfl
theorem Mark.dep (x:Mark):dep x.d=0:=by cases x<;>simp[Mark.d,D6,Li]
theorem Mk.dep (x:Mk):L2.ML.dep x.d<=2:=by
 unfold Mk.d
 rw[Ex]
 have h:Ei (x.ms.map Mark.d)<=0:=D7 fun d hd=>by
  obtain⟨m,_,rfl⟩:=List.mem_map.mp hd
  rw[Mark.dep];exact Bej _
 have:Ei [D.int x.a,D.int x.b,D.int x.c,D.tup (x.ms.map Mark.d)]<=1:=D7 fun d hd=>by
  simp only[Bex,Bes,or_false] at hd
  rcases hd with rfl|rfl|rfl|rfl
  ·rw[D6];lia
  ·rw[D6];lia
  ·rw[D6];lia
  ·rw[Ex];lia
 lia
theorem Vd (xs:List Mark):A3 (xs.map Mark.d)=true:=A2 Mark.pure
theorem Ga (xs:List Mk):A3 (xs.map Mk.d)=true:=A2 Mk.pure
theorem Abw (l:List Mark):(L2.ML.dep (.tup (l.map Mark.d))<=60)=True:=by
 have h:Ei (l.map Mark.d)<=0:=D7 fun d hd=>by
  obtain⟨m,_,rfl⟩:=List.mem_map.mp hd
  rw[Mark.dep];exact Bej _
 rw[Ex];simp;lia
theorem Agm (x:Mark):(L2.ML.dep x.d<=60)=True:=by rw[Mark.dep];simp
theorem At1 (x:Mk):(L2.ML.dep x.d<=60)=True:=by have:=Mk.dep x;simp;lia
theorem Al7 (l:List Mark):L2.ML.deq (.tup (l.map Mark.d)) (.tup [])=decide (l=[]):=by cases l<;>simp[Ey,Ai4]
theorem At3 {x:Mk}{m:MH}{Q:D->Prop}:W (oIx x.d (.int 0) m) Q=Q (.int x.a):=by unfold Mk.d;rw[Yq,Ae9]
theorem At4 {x:Mk}{m:MH}{Q:D->Prop}:W (oIx x.d (.int 1) m) Q=Q (.int x.b):=by unfold Mk.d;rw[Yq,Ala]
theorem At5 {x:Mk}{m:MH}{Q:D->Prop}:W (oIx x.d (.int 2) m) Q=Q (.int x.c):=by unfold Mk.d;rw[Yq,Arh]
theorem At2 {x:Mk}{m:MH}{Q:D->Prop}:W (M7 x.d m) Q=Q (.bl false):=Af
theorem Anx {x:Mk}{m:MH}{Q:D->Prop}:W (L6 x.d m) Q=Q (.bl true):=Af
theorem As1:M1 []=some []:=rfl
noncomputable def Mark.rk:Mark->D
 |.n i=>.tup [.int 0,.int i,.str (Str.ofString "")]
 |.s t=>.tup [.int 1,.int 0,.str t]
def Mk.rk (x:Mk):D:=.tup [.int x.a,.int x.b,.int x.c,.int (if x.ms=[] then 1 else 0),.tup (x.ms.map Mark.rk)]
theorem Mark.rk_deq (x y:Mark):L2.ML.deq x.rk y.rk=decide (x=y):=by
 cases x<;>cases y<;>simp[Mark.rk,Cs,Ey,B8,Iy,Bgg]
theorem L0:ltD (.int i) (.int j)=some (decide (i < j)):=by rw[ltD]
theorem Abs:ltD (.tup xs) (.tup ys)=Ja xs ys:=by rw[ltD]
theorem Mark.rk_lt (x y:Mark) (h:x≠y):ltD x.rk y.rk=some (x.lt y):=by
 cases x with
 |n i=>cases y with
  |n j =>
   have hij:i≠j:=fun e=>h (by rw[e])
   simp[Mark.rk,Mark.lt,ltD,Ja,B8,hij]
  |s t=>simp[Mark.rk,Mark.lt,ltD,Ja,B8]
 |s t=>cases y with
  |n j=>simp[Mark.rk,Mark.lt,ltD,Ja,B8]
  |s u =>
   have hij:t≠u:=fun e=>h (by rw[e])
   simp[Mark.rk,Mark.lt,ltD,Ja,B8,Iy,hij]
theorem Aj2:∀ xs ys:List Mark,Ja (xs.map Mark.rk) (ys.map Mark.rk)=some (mlt xs ys)
 |[],[]=>by simp[Ja,mlt]
 |[],y::ys=>by simp[Ja,mlt]
 |x::xs,[]=>by simp[Ja,mlt]
 |x::xs,y::ys=>by
  rw[Bee,Bee,Ja,Mark.rk_deq,mlt]
  by_cases e:x=y
  ·rw[Bef (by simpa using e),Bef e];exact Aj2 xs ys
  ·rw[Beg (by simpa using e),Beg e];exact Mark.rk_lt x y e
theorem O3:∀ xs:List Mark,mlt xs xs=false
 |[]=>rfl
 |x::xs=>by rw[mlt,Bef rfl];exact O3 xs
theorem Mk.rk_lt (x y:Mk):ltD x.rk y.rk=some (x.older y):=by
 obtain⟨a,b,c,ms⟩:=x
 obtain⟨a',b',c',ms'⟩:=y
 unfold Mk.rk Mk.older
 simp only
 rw[Abs,Ja,B8]
 by_cases h1:a=a'
 ·subst h1
  rw[Bef (by simp),Ja,B8,Beg (show ¬ (a≠a) by simp)]
  by_cases h2:b=b'
  ·subst h2
   rw[Bef (by simp),Ja,B8,Beg (show ¬ (b≠b) by simp)]
   by_cases h3:c=c'
   ·subst h3
    rw[Bef (by simp),Ja,B8,Beg (show ¬ (c≠c) by simp)]
    by_cases h4:ms=[]
    ·subst h4
     by_cases h5:ms'=[]
     ·subst h5
      simp[Ja,Ey]
     ·simp[h5,L0]
    ·by_cases h5:ms'=[]
     ·subst h5
      simp[h4,L0]
     ·rw[Beg (show ¬ (ms=[]\/ms'=[]) by rw[not_or];exact⟨h4,h5⟩),Bef (by simp[h4,h5]),Ja,Om Mark.rk_deq]
      by_cases h6:ms=ms'
      ·subst h6;rw[Bef (by simp),Ja,O3]
      ·rw[Beg (by simpa using h6),Abs];exact Aj2 _ _
   ·rw[Beg (by simpa using h3),Bef (show c≠c' from h3),L0]
  ·rw[Beg (by simpa using h2),Bef (show b≠b' from h2),L0]
 ·rw[Beg (by simpa using h1),Bef (show a≠a' from h1),L0]
theorem Mark.rk_pure (x:Mark):Bc x.rk=true:=by cases x<;>simp[Mark.rk,Bc,A3]
theorem Mk.rk_pure (x:Mk):Bc x.rk=true:=by
 unfold Mk.rk
 rw[Ca,Bi,Bi,Bi,Bi,Bi,Cv,Cv,Cv,Cv,Ca,A2 Mark.rk_pure,Dp];rfl
theorem Mark.rk_dep (x:Mark):L2.ML.dep x.rk<=1:=by
 cases x<;>(unfold Mark.rk;rw[Ex];simp[Ei,D6,Li])
theorem Mk.rk_dep (x:Mk):L2.ML.dep x.rk<=3:=by
 unfold Mk.rk
 rw[Ex]
 have h:Ei (x.ms.map Mark.rk)<=1:=D7 fun d hd=>by
  obtain⟨m,_,rfl⟩:=List.mem_map.mp hd
  exact Mark.rk_dep m
 have:Ei [D.int x.a,D.int x.b,D.int x.c,D.int (if x.ms=[] then 1 else 0),D.tup (x.ms.map Mark.rk)]<=2:=D7 fun d hd=>by
  simp only[Bex,Bes,or_false] at hd
  rcases hd with rfl|rfl|rfl|rfl|rfl
  ·rw[D6];lia
  ·rw[D6];lia
  ·rw[D6];lia
  ·rw[D6];lia
  ·rw[Ex];lia
 lia
theorem Zd (l r:List Nat) (h:l≠r):decide (l < r)=!decide (r < l):=by
 by_cases h1:l < r
 ·have h2:¬ r < l:=List.lt_asymm h1
  simp[h1,h2]
 ·have h2:r < l:=by
   rcases Classical.em (r < l) with h3|h3
   ·exact h3
   ·exact absurd (List.le_antisymm (List.not_lt.mp h3) (List.not_lt.mp h1)) h
  simp[h1,h2]
theorem Aqn {t u:Str} (h:t.cps.toList=u.cps.toList):t=u:=by
 obtain⟨⟨a⟩⟩:=t
 obtain⟨⟨b⟩⟩:=u
 simp at h
 rw[h]
theorem Mark.self (x:Mark):x.lt x=false:=by
 cases x with
 |n i=>simp[Mark.lt]
 |s t=>simp[Mark.lt,List.lt_irrefl]
theorem Mark.tri {x y:Mark} (h:x≠y):x.lt y=!y.lt x:=by
 cases x with
 |n i=>cases y with
  |n j =>
   have:i≠j:=fun e=>h (by rw[e])
   simp only[Mark.lt]
   by_cases h1:i < j
   ·simp[h1,show ¬ j < i by lia]
   ·simp[h1,show j < i by lia]
  |s t=>rfl
 |s t=>cases y with
  |n j=>rfl
  |s u=>exact Zd _ _ fun e=>h (by rw[Aqn e])
theorem Mark.trans {x y z:Mark} (h1:x.lt y=true) (h2:y.lt z=true):x.lt z=true:=by
 cases x with
 |n i=>cases y with
  |n j=>cases z with
   |n k=>simp[Mark.lt] at *;lia
   |s t=>rfl
  |s t=>cases z with
   |n k=>exact Ce h2
   |s u=>rfl
 |s t=>cases y with
  |n j=>exact Ce h1
  |s u=>cases z with
   |n k=>exact Ce h2
   |s v=>simp[Mark.lt] at *;exact List.lt_trans h1 h2
theorem Ab1:∀ {xs ys:List Mark},xs≠ys->mlt xs ys=!mlt ys xs
 |[],[],h=>absurd rfl h
 |[],_::_,_=>rfl
 |_::_,[],_=>rfl
 |x::xs,y::ys,h=>by
  rw[mlt,mlt]
  by_cases e:x=y
  ·subst e
   rw[Bef rfl,Bef rfl]
   exact Ab1 fun z=>h (by rw[z])
  ·rw[Beg e,Beg fun z=>e z.symm]
   exact Mark.tri e
theorem Td:∀ {xs ys zs:List Mark},mlt xs ys=true->mlt ys zs=true->mlt xs zs=true
 |[],[],_,h,_=>by exact Ce h
 |[],_::_,[],_,h=>by exact Ce h
 |[],_::_,_::_,_,_=>rfl
 |_::_,[],_,h,_=>by exact Ce h
 |_::_,_::_,[],_,h=>by exact Ce h
 |x::xs,y::ys,z::zs,h1,h2=>by
  rw[mlt] at h1 h2 ⊢
  by_cases e1:x=y
  ·subst e1
   rw[Bef rfl] at h1
   by_cases e2:x=z
   ·rw[Bef e2] at h2 ⊢
    exact Td h1 h2
   ·rw[Beg e2] at h2 ⊢
    exact h2
  ·rw[Beg e1] at h1
   by_cases e2:y=z
   ·subst e2
    rw[Beg e1]
    exact h1
   ·rw[Beg e2] at h2
    have h3:=Mark.trans h1 h2
    by_cases e3:x=z
    ·subst e3
     rw[Mark.self] at h3
     exact Ce h3
    ·rw[Beg e3];exact h3
theorem Anz:mlt xs []=false:=by cases xs<;>rfl
theorem Nz (x:Mk):x.older x=false:=by
 unfold Mk.older
 rw[Beg (by simp),Beg (by simp),Beg (by simp)]
 split
 ·simp
 ·exact O3 _
theorem Gh {x y:Mk}:x.older y=true ↔ x.a < y.a\/x.a=y.a/\(x.b < y.b\/x.b=y.b/\(x.c < y.c\/x.c=y.c/\(x.ms≠[]/\(y.ms=[]\/mlt x.ms y.ms=true)))):=by
 obtain⟨a,b,c,ms⟩:=x
 obtain⟨a',b',c',ms'⟩:=y
 unfold Mk.older
 simp only
 by_cases h1:a=a'
 ·subst h1
  rw[Beg (by simp)]
  by_cases h2:b=b'
  ·subst h2
   rw[Beg (by simp)]
   by_cases h3:c=c'
   ·subst h3
    rw[Beg (by simp)]
    simp only[Int.lt_irrefl,false_or,true_and]
    by_cases h4:ms=[]\/ms'=[]
    ·rw[Bef h4,Bgb]
     constructor
     ·exact fun h=>⟨h.1,.inl h.2⟩
     ·rintro ⟨h5,h6⟩
      exact⟨h5,h4.resolve_left h5⟩
    ·rw[Beg h4]
     rw[not_or] at h4
     exact⟨fun h=>⟨h4.1,.inr h⟩,fun h=>h.2.resolve_left h4.2⟩
   ·rw[Bef (by simpa using h3)]
    simp[h3]
  ·rw[Bef (by simpa using h2)]
   simp[h2]
 ·rw[Bef (by simpa using h1)]
  simp[h1]
theorem A9 {x y z:Mk} (h1:x.older y=true) (h2:y.older z=true):x.older z=true:=by
 rw[Gh] at *
 rcases h1 with h1|⟨ha,h1|⟨hb,h1|⟨hc,hm,h1⟩⟩⟩
 ·rcases h2 with h2|⟨ha',_⟩
  ·exact .inl (by lia)
  ·exact .inl (by lia)
 ·rcases h2 with h2|⟨ha',h2|⟨hb',_⟩⟩
  ·exact .inl (by lia)
  ·exact .inr ⟨by lia,.inl (by lia)⟩
  ·exact .inr ⟨by lia,.inl (by lia)⟩
 ·rcases h2 with h2|⟨ha',h2|⟨hb',h2|⟨hc',_⟩⟩⟩
  ·exact .inl (by lia)
  ·exact .inr ⟨by lia,.inl (by lia)⟩
  ·exact .inr ⟨by lia,.inr ⟨by lia,.inl (by lia)⟩⟩
  ·exact .inr ⟨by lia,.inr ⟨by lia,.inl (by lia)⟩⟩
 ·rcases h2 with h2|⟨ha',h2|⟨hb',h2|⟨hc',hm',h2⟩⟩⟩
  ·exact .inl (by lia)
  ·exact .inr ⟨by lia,.inl (by lia)⟩
  ·exact .inr ⟨by lia,.inr ⟨by lia,.inl (by lia)⟩⟩
  ·refine .inr ⟨by lia,.inr ⟨by lia,.inr ⟨by lia,hm,?_⟩⟩⟩
   rcases h1 with h1|h1
   ·exact absurd h1 hm'
   ·rcases h2 with h2|h2
    ·exact .inl h2
    ·exact .inr (Td h1 h2)
theorem Hh {x y:Mk} (h:x.older y=true):y.older x=false:=by
 cases e:y.older x with
 |false=>rfl
 |true =>
  have h2:=A9 h e
  rw[Nz] at h2
  exact Ce h2
theorem Cw {x y:Mk} (h:x≠y):x.older y=!y.older x:=by
 cases e:y.older x with
 |true=>exact Hh e
 |false =>
  show x.older y=true
  have e':¬ y.older x=true:=by rw[e];decide
  rw[Gh] at e' ⊢
  by_cases ha:x.a=y.a
  ·by_cases hb:x.b=y.b
   ·by_cases hc:x.c=y.c
    ·have hm:x.ms≠y.ms:=fun z=>h (by cases x;cases y;simp at *;exact⟨ha,hb,hc,z⟩)
     refine .inr ⟨ha,.inr ⟨hb,.inr ⟨hc,?_⟩⟩⟩
     have e2:¬ (y.ms≠[]/\(x.ms=[]\/mlt y.ms x.ms=true)):=fun z=>e' (.inr ⟨ha.symm,.inr ⟨hb.symm,.inr ⟨hc.symm,z⟩⟩⟩)
     by_cases h4:y.ms=[]
     ·exact⟨fun z=>hm (by rw[z,h4]),.inl h4⟩
     ·have e3:¬ (x.ms=[]\/mlt y.ms x.ms=true):=fun z=>e2 ⟨h4,z⟩
      rw[not_or] at e3
      refine⟨e3.1,.inr ?_⟩
      rw[Ab1 hm]
      cases q:mlt y.ms x.ms with
      |true=>exact absurd q e3.2
      |false=>rfl
    ·rcases Int.lt_or_gt_of_ne hc with h5|h5
     ·exact .inr ⟨ha,.inr ⟨hb,.inl h5⟩⟩
     ·exact absurd (.inr ⟨ha.symm,.inr ⟨hb.symm,.inl h5⟩⟩) e'
   ·rcases Int.lt_or_gt_of_ne hb with h5|h5
    ·exact .inr ⟨ha,.inl h5⟩
    ·exact absurd (.inr ⟨ha.symm,.inl h5⟩) e'
  ·rcases Int.lt_or_gt_of_ne ha with h5|h5
   ·exact .inl h5
   ·exact absurd (.inl h5) e'
theorem Ajk:∀ {xs ys:List Mark}{k:Nat},xs.take k=ys.take k->xs[k]?=some x->ys[k]?=some y->x≠y->mlt xs ys=x.lt y
 |x'::xs,y'::ys,0,_,h1,h2,h=>by
  simp at h1 h2
  subst h1 h2
  rw[mlt,Beg h]
 |x'::xs,y'::ys,k+1,ht,h1,h2,h=>by
  simp at ht h1 h2
  rw[mlt,Bef ht.1]
  exact Ajk ht.2 h1 h2 h
 |[],_,_,_,h1,_,_=>by simp at h1
 |_::_,[],_,_,_,h2,_=>by simp at h2
theorem Ab0:∀ {xs ys:List Mark}{k:Nat},xs.take k=ys.take k->k=min xs.length ys.length->mlt xs ys=decide (xs.length < ys.length)
 |[],[],_,_,_=>rfl
 |[],y::ys,_,_,_=>by simp[mlt]
 |x::xs,[],_,_,_=>by simp[mlt]
 |x::xs,y::ys,0,_,h=>by simp at h<;>lia
 |x::xs,y::ys,k+1,ht,h=>by
  simp at ht
  rw[mlt,Bef ht.1,Ab0 (k:=k) ht.2 (by simp at h;lia)]
  simp
noncomputable def Mk.next (x:Mk):Mk:=if x.ms=[] then ⟨x.a,x.b,x.c+1,[.n 0]⟩ else ⟨x.a,x.b,x.c,x.ms++[.n 0]⟩
noncomputable def Mark.pos:Mark->Prop
 |.n i=>0<=i
 |.s _=>True
theorem Anr {m:Mark} (h:m.pos):m.lt (.n 0)=false:=by
 cases m with
 |n i=>simp only[Mark.pos] at h;simp[Mark.lt];exact h
 |s t=>rfl
theorem Xr:∀ xs:List Mark,mlt xs (xs++[.n 0])=true
 |[]=>rfl
 |x::xs=>by rw[Be5,mlt,Bef rfl];exact Xr xs
theorem O4 (hp:∀ m∈xs,m.pos) (h:mlt xs [.n 0]=true):xs=[]:=by
 cases xs with
 |nil=>rfl
 |cons x xs =>
  rw[mlt] at h
  by_cases e:x=.n 0
  ·rw[Bef e,Anz] at h;exact Ce h
  ·rw[Beg e,Anr (hp x (Beb ..))] at h;exact Ce h
theorem L4:∀ {xs ys:List Mark},(∀ m∈ys,m.pos)->mlt xs ys=true->mlt ys (xs++[.n 0])=true->False
 |[],ys,hp,h1,h2=>by rw[O4 hp h2] at h1;exact Ce h1
 |x::xs,[],hp,h1,h2=>by exact Ce h1
 |x::xs,y::ys,hp,h1,h2=>by
  rw[Be5] at h2
  rw[mlt] at h1 h2
  by_cases e:x=y
  ·subst e
   rw[Bef rfl] at h1 h2
   exact L4 (fun m hm=>hp m (Bed _ hm)) h1 h2
  ·rw[Beg e] at h1
   rw[Beg fun z=>e z.symm] at h2
   have h3:=Mark.trans h1 h2
   rw[Mark.self] at h3
   exact Ce h3
theorem Ny (x:Mk):x.older x.next=true:=by
 rw[Gh]
 unfold Mk.next
 by_cases h:x.ms=[]
 ·rw[Bef h];exact .inr ⟨rfl,.inr ⟨rfl,.inl (by show x.c < x.c+1;lia)⟩⟩
 ·rw[Beg h];exact .inr ⟨rfl,.inr ⟨rfl,.inr ⟨rfl,h,.inr (Xr _)⟩⟩⟩
theorem Tf {x y:Mk} (hp:∀ m∈y.ms,m.pos) (h1:x.older y=true) (h2:y.older x.next=true):False:=by
 rw[Gh] at h1 h2
 unfold Mk.next at h2
 by_cases h:x.ms=[]
 ·rw[Bef h] at h2
  simp only at h2
  rcases h1 with h1|⟨ha,h1|⟨hb,h1|⟨hc,hm,h1⟩⟩⟩
  ·rcases h2 with h2|⟨ha',_⟩<;>lia
  ·rcases h2 with h2|⟨ha',h2|⟨hb',_⟩⟩<;>lia
  ·rcases h2 with h2|⟨ha',h2|⟨hb',h2|⟨hc',hm',h2⟩⟩⟩
   ·lia
   ·lia
   ·lia
   ·rcases h2 with h2|h2
    ·cases h2
    ·exact hm' (O4 hp h2)
  ·exact hm h
 ·rw[Beg h] at h2
  simp only at h2
  rcases h1 with h1|⟨ha,h1|⟨hb,h1|⟨hc,hm,h1⟩⟩⟩
  ·rcases h2 with h2|⟨ha',_⟩<;>lia
  ·rcases h2 with h2|⟨ha',h2|⟨hb',_⟩⟩<;>lia
  ·rcases h2 with h2|⟨ha',h2|⟨hb',h2|⟨hc',_⟩⟩⟩<;>lia
  ·rcases h2 with h2|⟨ha',h2|⟨hb',h2|⟨hc',hm',h2⟩⟩⟩
   ·lia
   ·lia
   ·lia
   ·rcases h2 with h2|h2
    ·exact absurd h2 (by simp)
    ·rcases h1 with h1|h1
     ·exact hm' h1
     ·exact L4 hp h1 h2
def Axm (Q:List D->Prop) (d:D):Prop:=∃ es,d=.lst es/\A3 es=true/\Q es
theorem Abr (h:A3 es=true):Axm Q (.lst es)=Q es:=by
 apply Bgl
 constructor
 ·rintro ⟨fs,e,_,q⟩;cases e;exact q
 ·exact fun q=>⟨es,rfl,h,q⟩
theorem Up:W (Uv n fn ds m) Q=W (Co m ds) fun ds'=>ds'.length=n/\W (fn ds') (Axm Q):=by
 unfold Uv
 rw[W_bind,Lf]
 congr 1;funext ds'
 apply Bgl
 refine⟨fun⟨h1,h2⟩=>⟨h1,h2.imp fun d h=>?_⟩,fun⟨h1,h2⟩=>⟨h1,h2.imp fun d h=>?_⟩⟩
 ·cases d with
  |lst es =>
   simp only at h
   rw[G2] at h
   exact⟨es,rfl,h.1,h.2⟩
  |_=>rw[Bl] at h;exact h.elim
 ·obtain⟨es,rfl,h1,h2⟩:=h
  simp only
  rw[G2]
  exact⟨h1,h2⟩
def Abq (I:Nat->Bg->MH->Prop) (k:Nat) (Q:Out->Prop):Out->Prop
 |.nx e m=>∃ j,j < k/\I j e m
 |.ct e m=>∃ j,j < k/\I j e m
 |.bk e m=>Q (.nx e m)
 |.rt d m=>Q (.rt d m)
theorem Agf:Abq I k Q (.nx e m)=∃ j,j < k/\I j e m:=rfl
theorem Age:Abq I k Q (.ct e m)=∃ j,j < k/\I j e m:=rfl
theorem Agd:Abq I k Q (.bk e m)=Q (.nx e m):=rfl
theorem Agg {d:D}:Abq I k Q (.rt d m)=Q (.rt d m):=rfl
theorem Oh (I:Nat->Bg->MH->Prop) (hs:∀ k e m,I k e m->W (c e m) (cK (W (b e m) (Abq I k Q)) (Q (.nx e m)))):∀ {n k:Nat}{e:Bg}{m:MH},k < n->I k e m->W (Gq c b n e m) Q
 |0,_,_,_,h,_=>absurd h (Bhi _)
 |n+1,k,e,m,h,hi=>by
  rw[Gq,W_bind]
  refine (hs k e m hi).imp fun t ht=>?_
  cases t with
  |false=>rw[Al1] at ht;rw[Beg (by decide),Af];exact ht
  |true =>
   rw[Al2] at ht
   rw[Bef rfl,W_bind]
   refine ht.imp fun o ho=>?_
   cases o with
   |nx e m=>obtain⟨j,hj,hi⟩:=ho;exact Oh I hs (by lia) hi
   |ct e m=>obtain⟨j,hj,hi⟩:=ho;exact Oh I hs (by lia) hi
   |bk e m=>simp only;rw[Af];exact ho
   |rt d m=>simp only;rw[Af];exact ho
def Awm (ds:List D) (Q:Wk->Prop):Prop:=W (match ds with
 |[.int i,.int j,.int k]=>if 0<=i/\i < 1000000000/\0<=j/\j < 1000000000/\0 < k/\k < 1000000 then some ⟨(List.range (Vr i j k)).map fun (q:Nat)=>.int (i+q * k),Bm⟩ else none
 |_=>none) Q
theorem Alz:W (Aeq g env m) Q=W (g env m) fun ds=>Awm ds Q:=W_bind
theorem Awn:Awm [.int i,.int j,.int k] Q=((0<=i/\i < 1000000000/\0<=j/\j < 1000000000/\0 < k/\k < 1000000)/\Q ⟨(List.range (Vr i j k)).map fun (q:Nat)=>.int (i+q * k),Bm⟩):=G2
theorem Ayn:W (oIs (.bl b) (.bl c) m) Q=Q (.bl (b == c)):=Af
abbrev Er (ys:List Mk):Prop:=ys.Pairwise fun x y=>x.older y=true
theorem L5 (xs:List Mk):Ba (xs.map Mk.d)=true:=Bd (Ga xs)
theorem Al5 {α β:Type}{f:α->β}{xs:List α}{lo hi:Option Int}:Hs (xs.map f) lo hi=(Hs xs lo hi).map f:=by
 unfold Hs;rw[Bel,List.map_take,List.map_drop]
theorem Aam {α:Type}{xs:List α}{lo hi:Option Int}:(Hs xs lo hi).length<=xs.length:=by
 unfold Hs;rw[Bgh,Bg0];lia
def oD:Option Mk->D
 |none=>.non
 |some h=>h.d
abbrev Pc:=Mk×Option Mk
def pD (p:Pc):D:=.tup [p.1.d,oD p.2]
theorem Hg (o:Option Mk):Bc (oD o)=true:=by
 cases o with
 |none=>exact Ee
 |some x=>exact x.pure
theorem Acr (p:Pc):Bc (pD p)=true:=by unfold pD;rw[Ca,Bi,Bi,Dp,p.1.pure,Hg];rfl
theorem Gu (ps:List Pc):A3 (ps.map pD)=true:=A2 Acr
theorem Aud (o:Option Mk):dep (oD o)<=2:=by
 cases o with
 |none=>show dep .non<=2;rw[Aao];lia
 |some x=>exact x.dep
theorem Au8 (p:Pc):dep (pD p)<=3:=by
 unfold pD
 rw[Ex]
 have:Ei [p.1.d,oD p.2]<=2:=D7 fun d hd=>by
  simp only[Bex,Bes,or_false] at hd
  rcases hd with rfl|rfl
  ·exact p.1.dep
  ·exact Aud p.2
 lia
theorem Aol (ps:List Pc):dep (.tup (ps.map pD))<=4:=by
 rw[Ex]
 have:Ei (ps.map pD)<=3:=D7 fun d hd=>by
  obtain⟨p,_,rfl⟩:=List.mem_map.mp hd
  exact Au8 p
 lia
theorem Atd {x:Mk}:deq x.d .non=false:=Atj
theorem Atf {x:Mk}:deq .non x.d=false:=Ath
theorem Acd (x y:Option Mk):deq (oD x) (oD y)=decide (x=y):=by
 cases x with
 |none=>cases y with
  |none=>simp[oD,Atg]
  |some y=>simp[oD,Atf]
 |some x=>cases y with
  |none=>simp[oD,Atd]
  |some y=>simp[oD,Mk.deq]
theorem Ajw (x y:Pc):deq (pD x) (pD y)=decide (x=y):=by
 unfold pD
 rw[Cs,Cs,Ey,Mk.deq,Acd]
 obtain⟨a,b⟩:=x
 obtain⟨c,d⟩:=y
 by_cases h1:a=c<;>by_cases h2:b=d<;>simp[h1,h2]
theorem Acs (x y:List Pc):deq (.tup (x.map pD)) (.tup (y.map pD))=decide (x=y):=Om Ajw x y
theorem Avd:W (oIx (pD p) (.int 0) m) Q=Q p.1.d:=by unfold pD;rw[Yq,Ae9]
theorem Ave:W (oIx (pD p) (.int 1) m) Q=Q (oD p.2):=by unfold pD;rw[Yq,Ala]
theorem Avf:W (Aew 2 g (pD p) env) Q=W (g [p.1.d,oD p.2] env) Q:=by
 unfold pD;rw[Aiw];simp
theorem Aue:W (M7 (oD o) m) Q=Q (.bl o.isNone):=by cases o<;>exact Af
theorem An4:W (L6 (oD o) m) Q=Q (.bl o.isSome):=by cases o<;>exact Af
noncomputable def Aq:List Mk->List Pc
 |[]=>[]
 |[x]=>[(x,none)]
 |x::y::r=>(x,some y)::Aq r
theorem C3:∀ ys:List Mk,(Aq ys).length=(ys.length+1) / 2
 |[]=>rfl
 |[x]=>by simp[Aq]
 |x::y::r=>by rw[Aq,Beh,C3 r,Beh,Beh];lia
theorem N0:∀ (ys:List Mk) (k:Nat) (h:2 * k < ys.length),(Aq ys)[k]?=some (ys[2 * k],ys[2 * k+1]?)
 |[],_,h=>absurd h (Bhi _)
 |[x],0,_=>rfl
 |[x],k+1,h=>by simp at h<;>lia
 |x::y::r,0,_=>rfl
 |x::y::r,k+1,h=>by
  have h':2 * k < r.length:=by simp at h;lia
  rw[Aq,Bf5,N0 r k h']
  rfl
theorem Baw (n:Nat):Vr 0 (n:Int) 2=(n+1) / 2:=by
 unfold Vr
 split<;>lia
theorem Ds:∀ {ys:List Mk}{p:Pc},p∈Aq ys->p.1∈ys/\∀ h,p.2=some h->h∈ys
 |[x],p,h=>by simp[Aq] at h;subst h;exact⟨Beb ..,fun h e=>by cases e⟩
 |x::y::r,p,h=>by
  rw[Aq] at h
  rcases List.mem_cons.mp h with rfl|h
  ·exact⟨by simp,fun h e=>by cases e;simp⟩
  ·obtain⟨h1,h2⟩:=Ds h
   exact⟨by simp[h1],fun z e=>by have:=h2 z e;simp[this]⟩
def inP (m:Mk) (p:Pc):Bool:=!m.older p.1&&match p.2 with|none=>true|some h=>m.older h
open Classical
noncomputable section
theorem Arv:W (Agu [.bl b] m) Q=Q (.int (if b then 1 else 0)):=Af
theorem Alq:W (Ah2 i env m) Q=Q (.nx (env.set i (some (.ref m.length))) (m++[.dct [] []])):=Af
structure DOk (o:MObj) (n:Nat):Prop where
 out:∃ ks vs,o=.dct ks vs/\ks.length=vs.length/\ks.length<=n
def Azh (o:MObj) (k v:D):MObj:=match o with
 |.dct ks vs=>if Y7 ks k=true then .dct ks (Nb ks vs k v) else .dct (ks++[k]) (vs++[v])
 |o=>o
def Afs (o k d:D) (env:Bg) (m:MH) (Q:Out->Prop):Prop:=W (match o with
 |.ref n=>(match m[n]? with
  |some (.dct ks vs)=>if Cu k=true/\ks.length < 1000000 then some (.nx env (m.set n (if Y7 ks k=true then .dct ks (Nb ks vs k d) else .dct (ks++[k]) (vs++[d])))) else none
  |_=>none)
 |_=>none) Q
theorem Alr:W (Zr f fo fk env m) Q=W (f env m) fun d=>W (fo env m) fun o=>W (fk env m) fun k=>Afs o k d env m Q:=by
 unfold Zr Afs
 rw[W_bind];congr 1;funext x
 rw[W_bind];congr 1;funext y
 rw[W_bind]<;>congr 1
theorem V8 {k d:D} (hm:m[n]?=some o) (ho:DOk o c) (hc:c < 1000000) (hk:Cu k=true) (q:Q (.nx env (m.set n (Azh o k d)))):Afs (.ref n) k d env m Q:=by
 obtain⟨ks,vs,rfl,hl,hn⟩:=ho
 unfold Afs
 simp only[hm]
 rw[Bef ⟨hk,by lia⟩,Af]
 exact q
end
end ML
end L2
end S_ML22
section S_MM7
namespace L2
namespace ML
open PySem
theorem mp1 {a:D}{l:Bg}:List.map some [a]++l=some a::l:=rfl
theorem mp2 {a b:D}{l:Bg}:List.map some [a,b]++l=some a::some b::l:=rfl
theorem mp3 {a b c:D}{l:Bg}:List.map some [a,b,c]++l=some a::some b::some c::l:=rfl
theorem ln1 {a:D}:[a].length=1:=rfl
theorem ln2 {a b:D}:[a,b].length=2:=rfl
theorem ln3 {a b c:D}:[a,b,c].length=3:=rfl
theorem Azf {p q:Prop}{b:Bool} (h:b=true):cK p q b=p:=by rw[h,Al2]
theorem Aze {p q:Prop}{b:Bool} (h:b=false):cK p q b=q:=by rw[h,Al1]
theorem Afc:W (fVI i k env m) Q=W (Ah i env m) fun d=>W (oIx d (.int k) m) Q:=by unfold fVI;simp only[Ax7,Ax8]
theorem Ay3 {d:D}:W (fVI 0 k (some d::e) m) Q=W (oIx d (.int k) m) Q:=by rw[Afc,Bbj]
theorem Ay4 {d:D}:W (fVI 1 k (x::some d::e) m) Q=W (oIx d (.int k) m) Q:=by rw[Afc,Bbk]
theorem Ay5 {d:D}:W (fVI 2 k (x::y::some d::e) m) Q=W (oIx d (.int k) m) Q:=by rw[Afc,Bbl]
theorem Ay6 {d:D}:W (fVI 3 k (x::y::z::some d::e) m) Q=W (oIx d (.int k) m) Q:=by rw[Afc,Bbm]
def eK (s:Str) (m:MH) (Q:Bool->Prop) (x:D):Prop:=W (C0 m x) fun x'=>dep x'<=60/\Q (deq x' (.str s))
theorem Bc6 {s z:Str}:eK s m Q (.str z)=Q (decide (z=s)):=by unfold eK;simp only[Ur,Li,Iy,Bfe,true_and]
theorem Bcf {s:Str}:W (fE a s env m) Q=W (a env m) (eK s m Q):=by unfold fE;simp only[Of,Ax7,Ax8,Bbh,Ur,Arf];rfl
theorem Ax9:W (fC1 fn a env m) Q=W (a env m) fun x=>W (C0 m x) fun x'=>W (fn [x']) Q:=by unfold fC1;simp only[Od,Iq,Nc,Lf,Dk,Dl,Beh,Bf3,Nat.reduceAdd,true_and]
theorem Aya:W (fC2 fn a b env m) Q=W (a env m) fun x=>W (b env m) fun y=>W (C0 m x) fun x'=>W (C0 m y) fun y'=>W (fn [x',y']) Q:=by unfold fC2;simp only[Od,Iq,Nc,Lf,Dk,Dl,Beh,Bf3,Nat.reduceAdd,true_and]
theorem Ayb:W (fC3 fn a b c env m) Q=W (a env m) fun x=>W (b env m) fun y=>W (c env m) fun z=>W (C0 m x) fun x'=>W (C0 m y) fun y'=>W (C0 m z) fun z'=>W (fn [x',y',z']) Q:=by unfold fC3;simp only[Od,Iq,Nc,Lf,Dk,Dl,Beh,Bf3,Nat.reduceAdd,true_and]
theorem Ayc:W (fF1 fn a env m) Q=W (a env m) fun x=>W (C0 m x) fun x'=>W (fn [x']) (Axm Q):=by unfold fF1;simp only[Oe,Iq,Nc,Up,Dk,Dl,Beh,Bf3,Nat.reduceAdd,true_and]
theorem Ayd:W (fF3 fn a b c env m) Q=W (a env m) fun x=>W (b env m) fun y=>W (c env m) fun z=>W (C0 m x) fun x'=>W (C0 m y) fun y'=>W (C0 m z) fun z'=>W (fn [x',y',z']) (Axm Q):=by unfold fF3;simp only[Oe,Iq,Nc,Up,Dk,Dl,Beh,Bf3,Nat.reduceAdd,true_and]
end ML
end L2
end S_MM7
section S_MS1
namespace L2
namespace ML
open PyProof.Rows PySem.W
def Sat {α:Type} (c:Nat->Nat->Option Bool) (t:KasT α) (Q:α->Prop):Prop:=∃ a,evO c t=some a/\Q a
theorem Sat.ret (h:Q a):Sat c (.ret a) Q:=⟨a,rfl,h⟩
theorem Sat.ask (h1:c i j=some b) (h2:Sat c (k b) Q):Sat c (.ask i j k) Q:=by
 obtain⟨a,e,q⟩:=h2
 exact⟨a,by rw[evO,h1];exact e,q⟩
theorem V9:∀ t:KasT α,evO c (t.bind f)=(evO c t).bind fun a=>evO c (f a)
 |.ret a=>rfl
 |.ask i j k=>by
  show (c i j).bind (fun b=>evO c ((k b).bind f))=((c i j).bind fun b=>evO c (k b)).bind _
  cases c i j with
  |none=>rfl
  |some b=>exact V9 (k b)
theorem Sat.bind {t:KasT α} (h:Sat c t fun a=>Sat c (f a) Q):Sat c (t.bind f) Q:=by
 obtain⟨a,e,b,e2,q⟩:=h
 exact⟨b,by rw[V9,e];exact e2,q⟩
def PermN (n:Nat) (p:Array Nat):Prop:=p.Perm (List.range n).toArray
theorem PermN.size (h:PermN n p):p.size=n:=by have:=Array.Perm.size_eq h;simpa using this
theorem PermN.lt (h:PermN n p) (hn:0 < n) (i:Nat):p.getD i 0 < n:=by
 by_cases hi:i < p.size
 ·have h1:p[i]∈p.toList:=by simp
  have h2:=(Array.perm_iff_toList_perm.mp h).mem_iff.mp h1
  have h3:p[i] < n:=by simpa using h2
  simpa [Array.getD,hi] using h3
 ·simpa [Array.getD,hi] using hn
section
variable {O:KeyOrd} (key:Nat->O.α)
noncomputable def KA (p:Array Nat) (i:Nat):O.α:=key (p.getD i 0)
def Srt (p:Array Nat) (k:Nat):Prop:=∀ i j,i<=j->j < k->O.kle (KA key p i) (KA key p j)
def Nin (p:Array Nat) (k:Nat):Prop:=∀ i j,i<=j->j < k->O.kle (KA key p j) (KA key p i)
end
section
variable {O:KeyOrd}{key:Nat->O.α}{n:Nat}{c:Nat->Nat->Option Bool}{p:Array Nat}
theorem Hl (h:p[i]?=r[j]?):KA key p i=KA key r j:=by
 unfold KA
 rw[Array.getD_eq_getD_getElem?,Array.getD_eq_getD_getElem?,h]
theorem Z5 (hj:j<=p.size) (k:Nat):KA key (kas_rev p i j) k=if i<=k/\k < j then KA key p (i+j - 1 - k) else KA key p k:=by
 have e:=getElem?_mirror_all (i:=i) hj k
 unfold kas_rev
 by_cases q:i<=k/\k < j
 ·rw[Bef q] at e;rw[Bef q];exact Hl e
 ·rw[Beg q] at e;rw[Beg q];exact Hl e
theorem Ob (hj:j<=p.size) (he:∀ k,i<=k->k < j->KA key p k=KA key p (j - 1)) (k:Nat):KA key (kas_rev p i j) k=KA key p k:=by
 rw[Z5 hj]
 by_cases q:i<=k/\k < j
 ·rw[Bef q,he _ (by lia) (by lia),he k q.1 q.2]
 ·rw[Beg q]
theorem Aiu {src d:Nat} (hs:src < p.size) (hd:d<=src) (k:Nat):KA key (bubble p src d) k=if k=src - d then KA key p src else if src - d < k/\k<=src then KA key p (k - 1) else KA key p k:=by
 have e:=getElem?_bubble hs d hd k
 by_cases q:k=src - d
 ·rw[Bef q] at e;rw[Bef q];exact Hl e
 ·rw[Beg q] at e;rw[Beg q]
  by_cases q2:src - d < k/\k<=src
  ·rw[Bef q2] at e;rw[Bef q2];exact Hl e
  ·rw[Beg q2] at e;rw[Beg q2];exact Hl e
theorem PermN.rev (h:PermN n p) (i j:Nat):PermN n (kas_rev p i j):=(mirror_perm _ _ _ _).trans h
theorem PermN.bub (h:PermN n p) (i j:Nat):PermN n (bubble p i j):=(bubble_perm _ _ _).trans h
theorem Pz (hc:∀ i j,i < n->j < n->c i j=some (O.blt (key i) (key j))) (hn:0 < n) (hp:PermN n p) (i j:Nat) (h:Sat c (k (O.blt (KA key p i) (KA key p j))) Q):Sat c (.ask (p.getD i 0) (p.getD j 0) k) Q :=
 Sat.ask (hc _ _ (hp.lt hn i) (hp.lt hn j)) h
theorem Aqm:Srt key p 1:=fun i j hij hj=>by
 have:i=j:=by lia
 subst this;exact Bg7 _
theorem Aid (hs:Srt key p a) (h1:1<=a) (h:O.kle (KA key p (a - 1)) (KA key p a)):Srt key p (a+1):=fun i j hij hj=>by
 by_cases q:j < a
 ·exact hs i j hij q
 ·have:j=a:=by lia
  subst this
  by_cases q2:i=j
  ·subst q2;exact Bg7 _
  ·exact KeyOrd.kle_trans (hs i (j - 1) (by lia) (by lia)) h
theorem J7 (hs:Nin key p a) (h1:1<=a) (h:O.kle (KA key p a) (KA key p (a - 1))):Nin key p (a+1):=fun i j hij hj=>by
 by_cases q:j < a
 ·exact hs i j hij q
 ·have:j=a:=by lia
  subst this
  by_cases q2:i=j
  ·subst q2;exact Bg7 _
  ·exact KeyOrd.kle_trans h (hs i (j - 1) (by lia) (by lia))
theorem Ab9 (h:Nin key p a) (e:∀ k,KA key r k=KA key p k):Nin key r a:=fun i j hij hj=>by rw[e,e];exact h i j hij hj
theorem Ut (hc:∀ i j,i < n->j < n->c i j=some (O.blt (key i) (key j))) (hn:0 < n) (hp:PermN n p):∀ (f a:Nat),1<=a->Srt key p a ->
  (∀ m,a<=m->m<=a+f->Srt key p m->(m=a+f\/O.klt (KA key p m) (KA key p (m - 1)))->Q m)->Sat c (kas_asc p f a) Q
 |0,a,h1,hs,h=>Sat.ret (h a (Bej _) (Bej _) hs (.inl rfl))
 |f+1,a,h1,hs,h=>by
  rw[kas_asc]
  refine Pz hc hn hp a (a - 1) ?_
  cases e:O.blt (KA key p a) (KA key p (a - 1)) with
  |true=>exact Sat.ret (h a (Bej _) (by lia) hs (.inr e))
  |false =>
   rw[Beg (by decide)]
   refine Ut hc hn hp f (a+1) (by lia) (Aid hs h1 e) fun m m1 m2 m3 m4=>h m (by lia) (by lia) m3 ?_
   rcases m4 with m4|m4
   ·exact .inl (by lia)
   ·exact .inr m4
theorem J3 (hc:∀ i j,i < n->j < n->c i j=some (O.blt (key i) (key j))) (hn:0 < n) (hz:z<=n) (h:∀ p m q,PermN n p->1<=m->m<=z->Nin key p m->q+1<=m->(∀ i,m - (q+1)<=i->i < m->KA key p i=KA key p (m - 1))->Q (p,m,q)):∀ (f:Nat) {p:Array Nat}{x q:Nat},PermN n p->x+f=z->Nin key p x->q+1<=x ->
  (∀ i,x - (q+1)<=i->i < x->KA key p i=KA key p (x - 1))->Sat c (kas_desc f p x q) Q
 |0,p,x,q,hp,hx,hs,hq,he=>Sat.ret (h p x q hp (by lia) (by lia) hs hq he)
 |f+1,p,x,q,hp,hx,hs,hq,he=>by
  rw[kas_desc]
  refine Pz hc hn hp x (x - 1) ?_
  have hsz:x<=p.size:=by rw[hp.size];lia
  cases e:O.blt (KA key p x) (KA key p (x - 1)) with
  |true =>
   rw[Bef rfl]
   have s1:=J7 hs (by lia) (KeyOrd.kle_of_klt e)
   by_cases q0:q > 0
   ·rw[Bef q0]
    refine J3 hc hn hz h f (hp.rev _ _) (by lia) (Ab9 s1 (Ob hsz he)) (by lia) fun i h1 h2=>?_
    have:i=x+1 - 1:=by lia
    rw[this]
   ·rw[Beg q0]
    refine J3 hc hn hz h f hp (by lia) s1 (by lia) fun i h1 h2=>?_
    have:i=x+1 - 1:=by lia
    rw[this]
  |false =>
   rw[Beg (by decide)]
   refine Pz hc hn hp (x - 1) x ?_
   cases e2:O.blt (KA key p (x - 1)) (KA key p x) with
   |true=>exact Sat.ret (h p x q hp (by lia) (by lia) hs hq he)
   |false =>
    rw[Beg (by decide)]
    have eq:KA key p x=KA key p (x - 1):=KeyOrd.kle_antisymm e2 e
    refine J3 hc hn hz h f hp (by lia) (J7 hs (by lia) e2) (by lia) fun i h1 h2=>?_
    rw[show x+1 - 1=x by lia]
    by_cases hix:i=x
    ·rw[hix]
    ·rw[eq];exact he i (by lia) (by lia)
theorem Yi (hc:∀ i j,i < n->j < n->c i j=some (O.blt (key i) (key j))) (hn:0 < n) (hz:z<=n) (h1:1<=a) (ha:a<=z) (hp:PermN n p) (hs:Nin key p a) (h:∀ m r,PermN n r->1<=m->m<=z->Srt key r m->Q (m,r)):Sat c (kas_tail3 a z p) Q:=by
 unfold kas_tail3
 have hsz:a<=p.size:=by rw[hp.size];lia
 refine Sat.bind (Ut hc hn (hp.rev 0 a) (z - a) a h1 (fun i j hij hj=>?_) fun m m1 m2 m3 _=>Sat.ret (h m _ (hp.rev 0 a) (by lia) (by lia) m3))
 rw[Z5 hsz,Z5 hsz,Bef (by lia),Bef (by lia)]
 exact hs _ _ (by lia) (by lia)
theorem Xy (hc:∀ i j,i < n->j < n->c i j=some (O.blt (key i) (key j))) (hn:0 < n) (hz:z<=n) (ha:a+1<=z) (hp:PermN n p) (hs:Nin key p (a+1)) (h:∀ m r,PermN n r->1<=m->m<=z->Srt key r m->Q (m,r)):Sat c (kas_descPart a z p) Q:=by
 unfold kas_descPart
 refine Sat.bind (J3 (p:=p) (x:=a+1) (q:=0) hc hn hz (fun r m q hr m1 m2 m3 m4 m5=>?_) (z - (a+1)) hp (by lia) hs (by lia) fun i h1 h2=>?_)
 ·have hsz:m<=r.size:=by rw[hr.size];lia
  show Sat c (if q > 0 then _ else _) Q
  by_cases q0:q > 0
  ·rw[Bef q0]
   exact Yi hc hn hz m1 m2 (hr.rev _ _) (Ab9 m3 (Ob hsz m5)) h
  ·rw[Beg q0]
   exact Yi hc hn hz m1 m2 hr m3 h
 ·have:i=a+1 - 1:=by lia
  rw[this]
theorem Aaj (hc:∀ i j,i < n->j < n->c i j=some (O.blt (key i) (key j))) (hz:z<=n) (h1:1<=z) (hp:PermN n p) (h:∀ m r,PermN n r->1<=m->m<=z->Srt key r m->Q (m,r)):Sat c (kas_count z p) Q:=by
 have hn:0 < n:=by lia
 unfold kas_count
 refine Sat.bind (Ut hc hn hp (z - 1) 1 (Bej _) Aqm fun m m1 m2 m3 m4=>?_)
 have hsz:m<=p.size:=by rw[hp.size];lia
 by_cases q:(m == z)=true
 ·rw[Bef q];exact Sat.ret (h m p hp m1 (by lia) m3)
 ·rw[Beg q]
  have hmz:m≠z:=fun e=>q (by simp[e])
  have hlt:O.klt (KA key p m) (KA key p (m - 1)):=m4.resolve_left (by lia)
  by_cases q1:m > 1
  ·rw[Bef q1]
   refine Pz hc hn hp 0 (m - 1) ?_
   cases e:O.blt (KA key p 0) (KA key p (m - 1)) with
   |true=>rw[Bef rfl];exact Sat.ret (h m p hp m1 (by lia) m3)
   |false =>
    rw[Beg (by decide)]
    have all:∀ k,0<=k->k < m->KA key p k=KA key p (m - 1):=fun k _ hk=>KeyOrd.kle_antisymm (m3 k (m - 1) (by lia) (by lia)) (KeyOrd.kle_trans e (m3 0 k (by lia) hk))
    have flat:Nin key p m:=fun i j hij hj=>by rw[all i (by lia) (by lia),all j (by lia) hj];exact Bg7 _
    exact Xy hc hn hz (by lia) (hp.rev 0 m) (Ab9 (J7 flat m1 (KeyOrd.kle_of_klt hlt)) (Ob hsz all)) h
  ·rw[Beg q1]
   have e1:m=1:=by lia
   subst e1
   refine Xy hc hn hz (by lia) hp (J7 (fun i j hij hj=>?_) (Bej _) (KeyOrd.kle_of_klt hlt)) h
   have:i=j:=by lia
   subst this;exact Bg7 _
theorem Mf (hc:∀ i j,i < n->j < n->c i j=some (O.blt (key i) (key j))) (hn:0 < n) (hp:PermN n p) (hs:Srt key p k) (h:∀ l,l<=k->(∀ i,i < l->O.kle (KA key p i) (KA key p k))->(∀ i,l<=i->i < k->O.klt (KA key p k) (KA key p i))->Q l) :
  ∀ (f l r:Nat),l<=r->r<=k->r - l<=f->(∀ i,i < l->O.kle (KA key p i) (KA key p k))->(∀ i,r<=i->i < k->O.klt (KA key p k) (KA key p i))->Sat c (kas_place p k f l r) Q
 |0,l,r,h1,h2,h3,lo,hi=>by
  have e:l=r:=by lia
  subst e
  exact Sat.ret (h l h2 lo hi)
 |f+1,l,r,h1,h2,h3,lo,hi=>by
  rw[kas_place]
  by_cases q:l ≥ r
  ·rw[Bef q]
   have e:l=r:=by lia
   subst e
   exact Sat.ret (h l h2 lo hi)
  ·rw[Beg q]
   refine Pz hc hn hp k ((l+r) / 2) ?_
   cases e:O.blt (KA key p k) (KA key p ((l+r) / 2)) with
   |true =>
    rw[Bef rfl]
    exact Mf hc hn hp hs h f l ((l+r) / 2) (by lia) (by lia) (by lia) lo fun i a1 a2=>KeyOrd.klt_of_klt_of_kle e (hs _ _ a1 a2)
   |false =>
    rw[Beg (by decide)]
    exact Mf hc hn hp hs h f ((l+r) / 2+1) r (by lia) h2 (by lia) (fun i a1=>KeyOrd.kle_trans (hs i ((l+r) / 2) (by lia) (by lia)) e) hi
theorem Aae (hc:∀ i j,i < n->j < n->c i j=some (O.blt (key i) (key j))) (hn:0 < n) (h:∀ p,PermN n p->Srt key p n->Q p):∀ (f:Nat) {p:Array Nat}{k:Nat},PermN n p->k+f=n->Srt key p k->Sat c (kas_bin f p k) Q
 |0,p,k,hp,hk,hs=>by
  have e:k=n:=by lia
  subst e
  exact Sat.ret (h p hp hs)
 |f+1,p,k,hp,hk,hs=>by
  rw[kas_bin]
  refine Sat.bind (Mf hc hn hp hs (fun l hl lo hi=>?_) k 0 k (Bfe _) (Bej _) (by lia) (fun i hi=>absurd hi (Bhi _)) fun i a1 a2=>absurd a2 (by lia))
  refine Aae hc hn h f (hp.bub _ _) (by lia) fun i j hij hj=>?_
  have hks:k < p.size:=by rw[hp.size];lia
  rw[Aiu hks (by lia),Aiu hks (by lia),show k - (k - l)=l by lia]
  by_cases i1:i=l<;>by_cases j1:j=l
  ·rw[Bef i1,Bef j1];exact Bg7 _
  ·rw[Bef i1,Beg j1,Bef (by lia)];exact KeyOrd.kle_of_klt (hi _ (by lia) (by lia))
  ·rw[Beg i1,Bef j1,Beg (by lia)];exact lo _ (by lia)
  ·rw[Beg i1,Beg j1]
   by_cases i2:l < i/\i<=k<;>by_cases j2:l < j/\j<=k
   ·rw[Bef i2,Bef j2];exact hs _ _ (by lia) (by lia)
   ·exact absurd j2 (by lia)
   ·rw[Beg i2,Bef j2];exact hs _ _ (by lia) (by lia)
   ·rw[Beg i2,Beg j2];exact hs _ _ (by lia) (by lia)
theorem Ah9 (hc:∀ i j,i < n->j < n->c i j=some (O.blt (key i) (key j))) (hn:0 < n):Sat c (kas_sort n) fun p=>PermN n p/\Srt key p n:=by
 unfold kas_sort
 refine Sat.bind (Aaj hc (Bej _) hn (Array.Perm.refl _) fun m r hr m1 m2 m3=>?_)
 show Sat c (if m < n then kas_bin (n - max m 1) r (max m 1) else .ret r) _
 by_cases q:m < n
 ·rw[Bef q]
  exact Aae hc hn (fun p h1 h2=>⟨h1,h2⟩) _ hr (by lia) (by rw[show max m 1=m by lia];exact m3)
 ·rw[Beg q]
  have e:m=n:=by lia
  subst e
  exact Sat.ret ⟨hr,m3⟩
end
theorem Ad8 {α:Type} [Inhabited α] {blt:α->α->Bool} (irr:∀ a,blt a a=false) (tr:∀ a b c,blt a b=true->blt b c=true->blt a c=true) (ng:∀ a b c,blt a c=true->blt a b=true\/blt b c=true) (tt:∀ a b,blt a b=false->blt b a=false->a=b)
  {c:Nat->Nat->Option Bool}{zs:List α} (hc:∀ i j (hi:i < zs.length) (hj:j < zs.length),c i j=some (blt zs[i] zs[j])) (hn:0 < zs.length) :
  ∃ p:Array Nat,evO c (kas_sort zs.length)=some p/\(p.toList.map fun i=>zs.getD i default).Perm zs/\(p.toList.map fun i=>zs.getD i default).Pairwise (fun x y=>blt y x=false)/\∀ i∈p.toList,i < zs.length:=by
 obtain⟨p,e,hp,hs⟩:=Ah9 (O:=⟨α,blt,irr,tr,ng,tt⟩) (key:=fun i=>zs.getD i default) (n:=zs.length) (c:=c) (fun i j hi hj=>by
  rw[hc i j hi hj]
  show some (blt zs[i] zs[j])=some (blt (zs.getD i default) (zs.getD j default))
  rw[Beo,Beo,Beu hi,Beu hj];rfl) hn
 have hl:p.toList.Perm (List.range zs.length):=Array.perm_iff_toList_perm.mp hp
 refine⟨p,e,?_,?_,fun i hi=>by simpa using hl.mem_iff.mp hi⟩
 ·have h2:=hl.map fun i=>zs.getD i default
  have e2:(List.range zs.length).map (fun i=>zs.getD i default)=zs:=by
   apply Bgv
   intro i
   by_cases hi:i < zs.length
   ·simp[hi]
   ·simp[hi]
  rwa [e2] at h2
 ·rw[List.pairwise_iff_getElem]
  intro i j hi hj hij
  have hi':i < p.size:=by simpa using hi
  have hj':j < p.size:=by simpa using hj
  have h3:=hs i j (Bf8 hij) (by rw[<- hp.size];exact hj')
  have h4:blt (zs.getD (p.getD j 0) default) (zs.getD (p.getD i 0) default)=false:=h3
  simpa [Array.getD,hi',hj'] using h4
end ML
end L2
end S_MS1
section S_MT1
namespace L2
namespace ML
open PySem PySem.Builtin PySem.Builtin.Str
abbrev L (t:Str):List Nat:=t.cps.toList
theorem D5 (h:L x=L y):x=y:=by
 obtain⟨x⟩:=x
 obtain⟨y⟩:=y
 exact Bfa Str.mk (Array.toList_inj.mp h)
theorem D4:L (x++y)=L x++L y:=by
 show (x.cps++y.cps).toList=_
 simp
theorem Axx:L ⟨#[c]⟩=[c]:=rfl
theorem Cr {x:Str}:x.length=(L x).length:=(Bfu).symm
noncomputable def jn (c:Nat):List (List Nat)->List Nat
 |[]=>[]
 |[p]=>p
 |p::q::r=>p++c::jn c (q::r)
theorem Iz {c:Nat}:∀ ts:List Str,L (Str.join ⟨#[c]⟩ ts)=jn c (ts.map L)
 |[]=>rfl
 |[x]=>rfl
 |x::y::r=>by
  show L (x++⟨#[c]⟩++Str.join ⟨#[c]⟩ (y::r))=L x++c::jn c (L y::r.map L)
  rw[D4,D4,Axx,Iz (y::r)]
  simp
noncomputable def spl (c:Nat):List Nat->List (List Nat)
 |[]=>[[]]
 |x::xs=>if x=c then []::spl c xs else match spl c xs with
  |[]=>[[x]]
  |p::ps=>(x::p)::ps
theorem Pk:∀ {p:List Nat},c∉p->spl c p=[p]
 |[],_=>rfl
 |x::p,h=>by
  rw[spl,Beg (fun e=>h (by simp[e])),Pk (p:=p) fun e=>h (by simp[e])]
theorem Mn {c:Nat}{r:List Nat}:∀ {p:List Nat},c∉p->spl c (p++c::r)=p::spl c r
 |[],_=>by rw[Bfn,spl,Bef rfl]
 |x::p,h=>by
  rw[Be5,spl,Beg (fun e=>h (by simp[e])),Mn (p:=p) fun e=>h (by simp[e])]
theorem Ad9:∀ {ps:List (List Nat)},ps≠[]->(∀ p∈ps,c∉p)->spl c (jn c ps)=ps
 |[],h,_=>absurd rfl h
 |[p],_,h=>Pk (h p (by simp))
 |p::q::r,_,h=>by
  rw[jn,Mn (h p (by simp)),Ad9 (ps:=q::r) (by simp) fun x hx=>h x (Bed _ hx)]
theorem Aic (x y:Str):Txt.split x y≠[]:=by
 unfold Txt.split
 split
 ·simp
 ·split
  ·simp
  ·rw[StrLaws.partsBetween_eq]
   obtain⟨p,r,e⟩:=StrLaws.partsFrom_ne x y.length 0 (occurrences x y 0 x.length (x.length+1))
   rw[e]
   simp
theorem Ik (x:Str) (c:Nat):(Txt.split x ⟨#[c]⟩).map L=spl c (L x):=by
 have h:=StrLaws.join_split x ⟨#[c]⟩
 have h2:=Iz (c:=c) (Txt.split x ⟨#[c]⟩)
 rw[h] at h2
 rw[h2]
 refine (Ad9 (fun e=>Aic x ⟨#[c]⟩ (List.map_eq_nil_iff.mp e)) fun p hp=>?_).symm
 obtain⟨q,hq,rfl⟩:=List.mem_map.mp hp
 exact StrLaws.split_free x c q hq
set_option tactic.hygienic true in
theorem Aea {c:Nat}:∀ xs:List Nat,(spl c xs).length<=xs.length+1
 |[]=>by simp[spl]
 |x::xs=>by
  have:=Aea (c:=c) xs
  unfold spl
  split
  ·simp;lia
  ·split
   ·simp
   ·rename_i p ps e
    rw[e] at this
    simp at this ⊢;lia
theorem Ii (x:Str) (c:Nat):(Txt.split x ⟨#[c]⟩).length<=x.length+1:=by
 have h:=Bfa List.length (Ik x c)
 rw[Bel] at h
 rw[h,Cr]
 exact Aea _
theorem N5 (h:ts≠[]) (hf:∀ t∈ts,c∉L t):Txt.split (Str.join ⟨#[c]⟩ ts) ⟨#[c]⟩=ts:=by
 have h2:=Ik (Str.join ⟨#[c]⟩ ts) c
 rw[Iz,Ad9 (fun e=>h (List.map_eq_nil_iff.mp e)) fun p hp=>by obtain⟨q,hq,rfl⟩:=List.mem_map.mp hp;exact hf q hq] at h2
 have inj:∀ xs ys:List Str,xs.map L=ys.map L->xs=ys:=by
  intro xs
  induction xs with
  |nil=>intro ys e;cases ys with
   |nil=>rfl
   |cons _ _=>simp at e
  |cons x xs ih =>
   intro ys e
   cases ys with
   |nil=>simp at e
   |cons y ys =>
    rw[Bee,Bee,Bg5] at e
    rw[D5 e.1,ih ys e.2]
 exact inj _ _ h2
theorem Aax {t:Str}{c:Nat}:(c∉L t/\occurrences t ⟨#[c]⟩ 0 t.length 1=[])\/∃ a b r,L t=a++c::b/\c∉a/\occurrences t ⟨#[c]⟩ 0 t.length 1=a.length::r:=by
 rcases StrLaws.occ_head t ⟨#[c]⟩ 1 (Bej 1) with ⟨h1,h2⟩|⟨i,r,h1,h2,h3⟩
 ·refine .inl ⟨fun h=>?_,h1⟩
  obtain⟨i,hi⟩:=Bf2 h
  exact h2 i ((StrLaws.subAt_one t c i).mpr hi)
 ·have hi:=(StrLaws.subAt_one t c i).mp h2
  have hl:i < (L t).length:=(List.getElem?_eq_some_iff.mp hi).1
  refine .inr ⟨(L t).take i,(L t).drop (i+1),r,?_,fun h=>?_,by rw[h1,Bgh];congr 1;lia⟩
  ·have e:=Bf1 hl
   rw[(List.getElem?_eq_some_iff.mp hi).2] at e
   rw[<- e,List.take_append_drop]
  ·obtain⟨k,hk⟩:=Bf2 h
   have hk2:k < ((L t).take i).length:=(List.getElem?_eq_some_iff.mp hk).1
   rw[Bgh] at hk2
   rw[List.getElem?_take_of_lt (by lia)] at hk
   exact h3 k (by lia) ((StrLaws.subAt_one t c k).mpr hk)
theorem Aw6:L (strSub x i j)=((L x).take j).drop i:=by
 unfold strSub L
 simp[Array.toList_extract,List.drop_take]
theorem Lc {t:Str} (h:L t=a++c::b) (hc:c∉a):Txt.partition t ⟨#[c]⟩=(⟨a.toArray⟩,⟨#[c]⟩,⟨b.toArray⟩)/\Txt.find t ⟨#[c]⟩=a.length:=by
 rcases Aax (t:=t) (c:=c) with ⟨h1,_⟩|⟨a',b',r,h1,h2,h3⟩
 ·exact absurd (by rw[h];simp) h1
 ·have e:a=a'/\b=b':=by
   have s1:=Mn (r:=b) hc
   have s2:=Mn (r:=b') h2
   rw[<- h,h1,s2,Bg5] at s1
   refine⟨s1.1.symm,?_⟩
   rw[h,<- s1.1] at h1
   simpa using h1
  obtain⟨rfl,rfl⟩:=e
  unfold Txt.partition Txt.find
  rw[h3]
  have hl:t.length=a.length+(b.length+1):=by rw[Cr,h];simp
  refine⟨?_,rfl⟩
  show (strSub t 0 a.length,_,strSub t (a.length+1) t.length)=_
  refine congr (Bfa Prod.mk (D5 ?_)) (Bfa (Prod.mk _) (D5 ?_))
  ·rw[Aw6,h];simp
  ·rw[Aw6,h,Bhg (by simp;lia),List.drop_append];simp
theorem Mc {t:Str} (h:c∉L t):Txt.partition t ⟨#[c]⟩=(t,Str.empty,Str.empty):=by
 rcases Aax (t:=t) (c:=c) with ⟨_,h1⟩|⟨a',b',r,h1,h2,h3⟩
 ·unfold Txt.partition;rw[h1]
 ·exact absurd (by rw[h1];simp) h
theorem Aak {l:List Nat} (h:c∈l):∃ a b,l=a++c::b/\c∉a:=by
 induction l with
 |nil=>cases h
 |cons x l ih =>
  by_cases e:x=c
  ·subst e;exact⟨[],l,rfl,by simp⟩
  ·obtain⟨a,b,h1,h2⟩:=ih ((List.mem_cons.mp h).resolve_left fun z=>e z.symm)
   exact⟨x::a,b,by rw[h1];rfl,by simp[h2];exact fun z=>e z.symm⟩
end ML
end L2
end S_MT1
section S_MT2
namespace L2
namespace ML
open PySem PySem.Builtin PySem.Builtin.Str
abbrev Atk:List Nat:=(Str.ofString "0123456789").cps.toList
noncomputable def Tg (t:Str):Option Nat :=
 if t.length=0\/16<=t.length then none else if (t.cps.toList.all fun c=>decide (c∈Atk))=false then none else
 if t.cps.toList[0]?=some 48/\t≠Str.ofString "0" then none else some (NumText.digitsVal t.cps.toList)
theorem mem_digs:c∈Atk ↔ 48<=c/\c<=57:=by
 rw[show Atk=List.range' 48 10 by decide +kernel,List.mem_range'_1]
 lia
theorem Aev:Str.ofString "0"=⟨#[48]⟩:=by decide +kernel
abbrev sn (i:Int):Str:=Str.ofString (toString i)
theorem Bb0 (x:String):L (Str.ofString x)=x.toList.map Char.toNat:=PyProof.Rows.signs_ofString x
theorem Aq6 (m:Nat):L (sn (m:Int))=(Nat.toDigits 10 m).map Char.toNat:=by
 rw[Bb0]
 show (Nat.repr m).toList.map Char.toNat=_
 rw[Nat.toList_repr]
theorem Afr {ch:Char} (h:ch.isDigit=true):48<=ch.toNat/\ch.toNat<=57:=by
 unfold Char.isDigit at h
 simp only[Bet,Bgb] at h
 exact⟨h.1,h.2⟩
theorem Hj (h:0<=i):NumText.AllDigits (L (sn i)):=by
 obtain⟨m,rfl⟩:=Bhe h
 intro c hc
 rw[Aq6] at hc
 obtain⟨ch,hch,rfl⟩:=List.mem_map.mp hc
 exact Afr (Nat.isDigit_of_mem_toDigits (by decide) (by decide) hch)
theorem Aaq:∀ d:Nat,d < 10->(Nat.digitChar d).toNat - 48=d:=by decide
theorem Ak7 (m:Nat):NumText.digitsVal ((Nat.toDigits 10 m).map Char.toNat)=m:=by
 induction m using Nat.strongRecOn with
 |_ m ih =>
  by_cases h:m < 10
  ·rw[Nat.toDigits_of_lt_base h]
   have e:=Aaq m h
   show 0 * 10+((Nat.digitChar m).toNat - 48)=m
   lia
  ·have hm:m % 10 < 10:=Nat.mod_lt m (by decide)
   have t:Nat.toDigits 10 (m / 10)++Nat.toDigits 10 (m % 10)=Nat.toDigits 10 m:=by
    have:=Nat.toDigits_append_toDigits (b:=10) (n:=m / 10) (d:=m % 10) (by decide) (by lia) hm
    rwa [Nat.div_add_mod] at this
   rw[<- t,Be6,Nat.toDigits_of_lt_base hm]
   show NumText.digitsVal ((Nat.toDigits 10 (m / 10)).map Char.toNat++[(Nat.digitChar (m % 10)).toNat])=m
   rw[NumText.digitsVal_snoc,ih (m / 10) (by lia),Aaq (m % 10) hm]
   lia
theorem Agt (h0:0<=i) (h1:i < 1000000000000000):Tg (sn i)=some i.toNat:=by
 have hlen:(sn i).length<=15:=PyProof.Rows.toString_length_le h0 (k:=15) (by decide) (by simpa using h1)
 have hd:=Hj h0
 obtain⟨m,rfl⟩:=Bhe h0
 have hl:(sn (m:Int)).length=(L (sn (m:Int))).length:=Cr
 have hp:0 < (L (sn (m:Int))).length:=by rw[Aq6,Bel];exact Nat.length_toDigits_pos
 unfold Tg
 rw[Beg (by lia),Beg (by
  rw[Bool.not_eq_false,List.all_eq_true]
  intro c hc
  exact Bf0 (mem_digs.mpr (hd c hc)))]
 rw[Beg]
 ·show some (NumText.digitsVal (L (sn (m:Int))))=_
  rw[Aq6,Ak7]
  rfl
 ·rintro ⟨e1,e2⟩
  have e1:(L (sn (m:Int)))[0]?=some 48:=e1
  obtain⟨r,hr⟩:∃ r,L (sn (m:Int))=48::r:=by
   cases q:L (sn (m:Int)) with
   |nil=>rw[q] at e1;cases e1
   |cons x r=>rw[q] at e1;simp at e1;exact⟨r,by rw[e1]⟩
  have hrn:r≠[]:=fun z=>e2 (D5 (by rw[hr,z];decide +kernel))
  have ha:=NumText.toDigits_all (L (sn (m:Int))) hd
  rw[show NumText.digitsVal (L (sn (m:Int)))=m by rw[Aq6,Ak7]] at ha
  have hlen2:=Bfa List.length ha
  have h3:(Nat.toDigits 10 m).length=r.length+1:=by
   have:=Bfa List.length (Aq6 m)
   rw[hr,Bel] at this
   simpa using this.symm
  rw[h3,hr] at hlen2
  have h4:((48::r).dropWhile (· == 48)).length<=r.length:=by
   rw[List.dropWhile_cons_of_pos (by decide)]
   exact (List.dropWhile_suffix _).length_le
  have h5:0 < r.length:=List.length_pos_iff.mpr hrn
  cases w:(48::r).dropWhile (· == 48) with
  |nil=>rw[w] at hlen2;simp at hlen2;exact hrn hlen2
  |cons x v=>rw[w] at hlen2 h4;simp at hlen2 h4;lia
end ML
end L2
end S_MT2
section S_MT3
namespace L2
namespace ML
open PySem PySem.Builtin PySem.Builtin.Str
abbrev Aq1:List Nat:=(Str.ofString "abcdefghijklmnopqrstuvwxyz").cps.toList
noncomputable def Cj (t:Str):Bool:=decide (1<=t.length)&&decide (t.length<=8)&&t.cps.toList.all fun c=>decide (c∈Aq1)
theorem Ann:Aq1=(List.range 26).map (·+97):=by decide +kernel
theorem mem_lets:c∈Aq1 ↔ 97<=c/\c<=122:=by
 rw[Ann,List.mem_map]
 constructor
 ·rintro ⟨i,hi,rfl⟩
  have:=List.mem_range.mp hi
  lia
 ·intro h
  exact⟨c - 97,List.mem_range.mpr (by lia),by lia⟩
noncomputable def S (l:List Nat):Str:=⟨l.toArray⟩
theorem L_S {l:List Nat}:L (S l)=l:=rfl
theorem S_L {t:Str}:S (L t)=t:=D5 rfl
theorem Dx {l:List Nat}:(S l).length=l.length:=by rw[Cr,L_S]
def okc (c:Nat):Prop:=(48<=c/\c<=57)\/(97<=c/\c<=122)
theorem Xs {t:Str} (h:Cj t=true):∀ c∈L t,okc c:=fun c hc=>by
 unfold Cj at h
 rw[Bet] at h
 exact .inr (mem_lets.mp (Bfk (List.all_eq_true.mp h.2 c hc)))
theorem O7 {t:Str} (h:Cj t=true):1<=t.length/\t.length<=8:=by
 unfold Cj at h
 rw[Bet,Bet] at h
 exact⟨Bfk h.1.1,Bfk h.1.2⟩
theorem Mm (h:0<=i):∀ c∈L (sn i),okc c:=fun c hc=>.inl (Hj h c hc)
theorem De (h0:0<=i) (h1:i < 1000000000000000):(sn i).length<=15:=PyProof.Rows.toString_length_le h0 (k:=15) (by decide) (by simpa using h1)
theorem Ad7 (h0:0<=i):0 < (sn i).length:=by
 obtain⟨m,rfl⟩:=Bhe h0
 rw[Cr,Aq6,Bel]
 exact Nat.length_toDigits_pos
theorem Ad6 (h0:0<=i):Cj (sn i)=false:=by
 cases h:Cj (sn i) with
 |false=>rfl
 |true =>
  have hp:=Ad7 h0
  rw[Cr] at hp
  obtain⟨c,hc⟩:=List.exists_mem_of_length_pos hp
  have h1:=Hj h0 c hc
  unfold Cj at h
  rw[Bet] at h
  have h2:=mem_lets.mp (Bfk (List.all_eq_true.mp h.2 c hc))
  lia
noncomputable def cut (c:Nat) (t:Str):Str×Option Str:=if c∈L t then ((Txt.partition t ⟨#[c]⟩).1,some (Txt.partition t ⟨#[c]⟩).2.2) else (t,none)
theorem Aal {t:Str} (h:L t=a++c::b) (hc:c∉a):cut c t=(S a,some (S b)):=by
 unfold cut
 rw[Bef (by rw[h];simp),(Lc h hc).1]
 rfl
theorem V4 {c:Nat}{t:Str} (h:c∉L t):cut c t=(t,none):=by
 unfold cut
 rw[Beg h]
def tl (c:Nat) (ps:List (List Nat)):List Nat:=if ps=[] then [] else c::jn 46 ps
theorem Ui:tl c []=[]:=rfl
theorem R7 {c d:Nat}:∀ {ps:List (List Nat)},d∈jn c ps->d=c\/∃ p∈ps,d∈p
 |[],h=>by cases h
 |[p],h=>.inr ⟨p,by simp,h⟩
 |p::q::r,h=>by
  rw[jn] at h
  rcases List.mem_append.mp h with h|h
  ·exact .inr ⟨p,by simp,h⟩
  ·rcases List.mem_cons.mp h with h|h
   ·exact .inl h
   ·rcases R7 h with h|⟨z,hz,h⟩
    ·exact .inl h
    ·exact .inr ⟨z,by simp[List.mem_cons.mp hz],h⟩
theorem Xe {c b:Nat}:∀ {ps:List (List Nat)},(∀ p∈ps,p.length<=b)->(jn c ps).length<=ps.length * (b+1)
 |[],_=>by simp[jn]
 |[p],h=>by have:=h p (by simp);simp[jn];lia
 |p::q::r,h=>by
  have h1:=h p (by simp)
  have h2:=Xe (c:=c) (ps:=q::r) fun x hx=>h x (Bed _ hx)
  rw[jn,Bep,Beh,Beh (a:=p),Nat.succ_mul]
  lia
theorem Mo {ps:List (List Nat)} (h:ps≠[]) (hf:∀ p∈ps,∀ c∈p,okc c):Txt.split (S (jn 46 ps)) ⟨#[46]⟩=ps.map S:=by
 have e:S (jn 46 ps)=Str.join ⟨#[46]⟩ (ps.map S):=D5 (by
  rw[Iz,L_S,Be8]
  congr 1
  exact (List.map_id' ps).symm)
 rw[e]
 refine N5 (by simpa using h) fun t ht=>?_
 obtain⟨p,hp,rfl⟩:=List.mem_map.mp ht
 intro hc
 have:=hf p hp 46 hc
 unfold okc at this
 lia
def txt (a m n:List (List Nat)):List Nat:=jn 46 a++tl 45 m++tl 43 n
theorem Aqu {a m n:List (List Nat)} (ha:∀ p∈a,∀ c∈p,okc c) (hm:∀ p∈m,∀ c∈p,okc c) :
  (cut 45 (cut 43 (S (txt a m n))).1).1=S (jn 46 a)/\(cut 45 (cut 43 (S (txt a m n))).1).2=(if m=[] then none else some (S (jn 46 m)))/\(cut 43 (S (txt a m n))).2=(if n=[] then none else some (S (jn 46 n))):=by
 have na:∀ d,(d=43\/d=45)->d∉jn 46 a:=fun d hd h=>by
  rcases R7 h with h|⟨p,hp,h⟩
  ·lia
  ·have:=ha p hp d h
   unfold okc at this
   lia
 have nm:43∉jn 46 m:=fun h=>by
  rcases R7 h with h|⟨p,hp,h⟩
  ·lia
  ·have:=hm p hp 43 h
   unfold okc at this
   lia
 have n1:43∉jn 46 a++tl 45 m:=fun h=>by
  rcases List.mem_append.mp h with h|h
  ·exact na 43 (.inl rfl) h
  ·unfold tl at h
   split at h
   ·cases h
   ·rcases List.mem_cons.mp h with h|h
    ·lia
    ·exact nm h
 have c1:cut 43 (S (txt a m n))=(S (jn 46 a++tl 45 m),if n=[] then none else some (S (jn 46 n))):=by
  by_cases h:n=[]
  ·subst h
   rw[Bef rfl]
   have e:txt a m []=jn 46 a++tl 45 m:=by unfold txt;rw[Ui,Bev]
   rw[e]
   exact V4 n1
  ·rw[Beg h]
   exact Aal (by rw[L_S];unfold txt;rw[show tl 43 n=43::jn 46 n by rw[tl,Beg h]]) n1
 have c2:cut 45 (S (jn 46 a++tl 45 m))=(S (jn 46 a),if m=[] then none else some (S (jn 46 m))):=by
  by_cases h:m=[]
  ·subst h
   rw[Bef rfl,Ui,Bev]
   exact V4 (na 45 (.inr rfl))
  ·rw[Beg h]
   exact Aal (by rw[L_S,tl,Beg h]) (na 45 (.inr rfl))
 rw[c1]
 simp only
 rw[c2]
 exact⟨rfl,rfl,trivial⟩
theorem Ah5 {x:Str}{n:Nat} (h:n<=(L x).length):Txt.slice x none (some (n:Int))=S ((L x).take n):=by
 have e:=StrLaws.sliceText_to (x:=x) (j:=(n:Int)) ⟨by lia,by show (n:Int)<=((L x).length:Int);lia⟩
 have e2:Txt.slice x none (some (n:Int))=StrLaws.sliceText x none (some (n:Int)):=rfl
 rw[e2,e]
 simp[S,L]
theorem Jf {x:Str}{n:Nat} (h:n<=(L x).length):Txt.slice x (some (n:Int)) none=S ((L x).drop n):=by
 have e:=StrLaws.sliceText_from (x:=x) (i:=(n:Int)) ⟨by lia,by show (n:Int)<=((L x).length:Int);lia⟩
 have e2:Txt.slice x (some (n:Int)) none=StrLaws.sliceText x (some (n:Int)) none:=rfl
 rw[e2,e]
 apply D5
 show List.take _ _=List.drop _ _
 rw[Bhg]
 ·simp[L]
 ·simp[L]
end ML
end L2
end S_MT3
section S_MP1
namespace L2
namespace ML
open PySem PySem.Spec PyProof.Rows
theorem B3 (x:Mk):x.older x=false:=by
 cases h:x.older x with
 |false=>rfl
 |true=>exact (Hh h).symm.trans h ▸ rfl
theorem Adv:∀ {xs ys:List Mk},Er xs->Er ys->(∀ z,z∈xs ↔ z∈ys)->xs=ys
 |[],[],_,_,_=>rfl
 |[],y::ys,_,_,h=>absurd ((h y).mpr (Beb ..)) (by simp)
 |x::xs,[],_,_,h=>absurd ((h x).mp (Beb ..)) (by simp)
 |x::xs,y::ys,hx,hy,h=>by
  obtain⟨x1,x2⟩:=List.pairwise_cons.mp hx
  obtain⟨y1,y2⟩:=List.pairwise_cons.mp hy
  have e:x=y:=by
   rcases List.mem_cons.mp ((h x).mp (Beb ..)) with z|z
   ·exact z
   ·rcases List.mem_cons.mp ((h y).mpr (Beb ..)) with w|w
    ·exact w.symm
    ·have a:=y1 x z
     have b:=Hh (x1 y w)
     rw[a] at b;cases b
  subst e
  have t:∀ z,z∈xs ↔ z∈ys:=fun z=>by
   have hz:=h z
   constructor
   ·intro m
    rcases List.mem_cons.mp (hz.mp (Bed _ m)) with w|w
    ·subst w
     have:=x1 z m
     rw[B3] at this;cases this
    ·exact w
   ·intro m
    rcases List.mem_cons.mp (hz.mpr (Bed _ m)) with w|w
    ·subst w
     have:=y1 z m
     rw[B3] at this;cases this
    ·exact w
  rw[Adv x2 y2 t]
def par (z:Mk):List Mk->Bool
 |[]=>false
 |e::r=>(!z.older e)^^par z r
noncomputable def tog (p:Mk->Bool):List Mk->Bool
 |[]=>false
 |e::r=>p e^^tog p r
theorem Aeh:∀ {l:List Mk},(∀ x∈l,p x=false)->tog p l=false
 |[],_=>rfl
 |x::l,h=>by rw[tog,h x (Beb ..),Aeh fun y hy=>h y (Bed _ hy)];rfl
theorem El:∀ {E:List Mk},(∀ e∈E,z.older e=true)->par z E=false
 |[],_=>rfl
 |e::r,h=>by rw[par,h e (Beb ..),El fun y hy=>h y (Bed _ hy)];rfl
theorem Acu:∀ {E:List Mk},Er E->(Aq E).any (inP z)=par z E
 |[],_=>rfl
 |[x],_=>by simp[Aq,par,inP]
 |x::y::r,h=>by
  obtain⟨h1,h2⟩:=List.pairwise_cons.mp h
  obtain⟨h3,h4⟩:=List.pairwise_cons.mp h2
  rw[Aq,Bf6,Acu h4,par,par]
  have hxy:=h1 y (Beb ..)
  show ((!z.older x&&z.older y)||par z r)=_
  cases a:z.older x with
  |true =>
   have hy:z.older y=true:=A9 a hxy
   rw[hy,El fun e he=>A9 hy (h3 e he)]
   rfl
  |false =>
   cases b:z.older y with
   |true=>rw[El fun e he=>A9 b (h3 e he)];rfl
   |false=>cases par z r<;>rfl
theorem N1 {z:Mk}{p:Mk->Bool}:∀ S:List Mk,par z (S.filter p)=tog (fun s=>p s&&!z.older s) S
 |[]=>rfl
 |s::S=>by
  rw[tog,<- N1 S,List.filter_cons]
  cases h:p s with
  |true=>simp[par]
  |false=>simp
noncomputable def On:List Pc->List Mk
 |[]=>[]
 |p::r=>p.1::(p.2.toList++On r)
theorem Gs:∀ E:List Mk,On (Aq E)=E
 |[]=>rfl
 |[x]=>rfl
 |x::y::r=>by rw[Aq,On,Gs r];rfl
theorem Mk.d_inj {x y:Mk} (h:x.d=y.d):x=y:=by
 have h1:=Mk.deq x y
 rw[h,Mk.deq y y] at h1
 simpa using h1.symm
theorem Mk.py_inj {x y:Mk}:pyD x.d=pyD y.d ↔ x=y:=by
 constructor
 ·intro h
  have h2:=Bfa dOf h
  rw[Aan x.pure,Aan y.pure] at h2
  exact Mk.d_inj h2
 ·rintro rfl;rfl
abbrev TL:=List (Mk×D)
def M3 (L:TL):MObj:=.dct (L.map fun p=>p.1.d) (L.map fun p=>p.2)
noncomputable def Z1 (L:TL) (e:Mk) (v:D):TL:=if e∈L.map (·.1) then L.map fun p=>if p.1=e then (e,v) else p else L++[(e,v)]
theorem Aa4 (L:TL) (e:Mk):Y7 (L.map fun p=>p.1.d) e.d=decide (e∈L.map (·.1)):=by
 unfold Y7
 rw[List.any_map,Bft,List.any_eq_true]
 simp only[Bg6,Bgb,Mk.py_inj,List.mem_map]
theorem Ad2 (e:Mk) (v:D):∀ L:TL,Nb (L.map fun p=>p.1.d) (L.map fun p=>p.2) e.d v=L.map fun p=>if p.1=e then v else p.2
 |[]=>rfl
 |p::L=>by
  rw[Bee,Bee,Nb,Ad2 e v L,Bee]
  simp only[Mk.py_inj]
theorem Aar (L:TL) (e:Mk) (v:D):Azh (M3 L) e.d v=M3 (Z1 L e v):=by
 unfold Azh M3 Z1
 simp only
 rw[Aa4]
 by_cases h:e∈L.map (·.1)
 ·rw[Bf0 h,Bef rfl,Bef h,Ad2,Be8,Be8]
  congr 1
  ·refine Bfm fun p _=>?_
   simp only[Bg6]
   split
   ·rename_i z;rw[z]
   ·rfl
  ·refine Bfm fun p _=>?_
   simp only[Bg6]
   split<;>rfl
 ·rw[Be4 h,Beg Bew,Beg h,Be6,Be6]
  rfl
theorem Tr (L:TL) (e:Mk) (v:D):(Z1 L e v).map (·.1)=if e∈L.map (·.1) then L.map (·.1) else L.map (·.1)++[e]:=by
 unfold Z1
 by_cases h:e∈L.map (·.1)
 ·rw[Bef h,Bef h,Be8]
  refine Bfm fun p _=>?_
  simp only[Bg6]
  split
  ·rename_i z;rw[z]
  ·rfl
 ·rw[Beg h,Beg h,Be6];rfl
theorem Xp {L:TL} (h:(x,w)∈Z1 L e v):(x=e/\w=v)\/(x,w)∈L/\(x=e->e∉L.map (·.1)):=by
 unfold Z1 at h
 by_cases he:e∈L.map (·.1)
 ·rw[Bef he] at h
  obtain⟨p,hp,e2⟩:=List.mem_map.mp h
  by_cases z:p.1=e
  ·rw[Bef z] at e2;cases e2;exact .inl ⟨rfl,rfl⟩
  ·rw[Beg z] at e2;subst e2;exact .inr ⟨hp,fun q=>absurd q z⟩
 ·rw[Beg he] at h
  rcases List.mem_append.mp h with h|h
  ·exact .inr ⟨h,fun _=>he⟩
  ·simp at h;exact .inl h
structure TOk (L:TL) (p q:Mk->Bool) (S:Mk->Prop):Prop where
 nd:(L.map (·.1)).Nodup
 mem:∀ x,x∈L.map (·.1) ↔ S x
 val:∀ x w,(x,w)∈L->w=.tup [.bl (p x),.bl (q x)]
theorem Adf {L:TL}{e:Mk}{v:D} (h:(L.map (·.1)).Nodup):((Z1 L e v).map (·.1)).Nodup:=by
 rw[Tr]
 split
 ·exact h
 ·rename_i z
  rw[List.nodup_append]
  exact⟨h,by simp,fun a ha b hb=>by simp at hb;subst hb;intro q;subst q;exact z ha⟩
theorem X4 {L:TL}{e x:Mk}{v:D}:x∈(Z1 L e v).map (·.1) ↔ x∈L.map (·.1)\/x=e:=by
 rw[Tr]
 split
 ·rename_i z
  exact⟨.inl,fun h=>h.elim id fun q=>q ▸ z⟩
 ·rw[List.mem_append,List.mem_singleton]
theorem Aa2 {e:Mk}{w:D}:∀ {L:TL},(L.map (·.1)).Nodup->(e,w)∈L->Anf (L.map fun p=>p.1.d) (L.map fun p=>p.2) e.d=some w
 |[],_,h=>nomatch h
 |p::L,nd,h=>by
  rw[Bee,List.nodup_cons] at nd
  rw[Bee,Bee,Anf]
  rcases List.mem_cons.mp h with z|z
  ·subst z;rw[Bef rfl]
  ·rw[Beg (fun q=>nd.1 (by rw[Mk.py_inj.mp q];exact Bfs (f:=(·.1)) z)),Aa2 nd.2 z]
theorem TOk.get {L:TL}{S:Mk->Prop} (h:TOk L p q S) (he:S e):Anf (L.map fun p=>p.1.d) (L.map fun p=>p.2) e.d=some (.tup [.bl (p e),.bl (q e)]):=by
 obtain⟨⟨x,w⟩,hp,rfl⟩:=List.mem_map.mp ((h.mem e).mpr he)
 rw[Aa2 h.nd hp,h.val x w hp]
theorem TOk.pure {L:TL}{S:Mk->Prop} (h:TOk L p q S):A3 (L.map fun p=>p.2)=true:=by
 rw[Do]
 intro d hd
 obtain⟨⟨x,w⟩,hp,rfl⟩:=List.mem_map.mp hd
 rw[h.val x w hp]
 simp[Bc,A3]
theorem V5 (L:TL):DOk (M3 L) L.length:=⟨_,_,rfl,by simp,by simp⟩
theorem Mark.strs {m:Mark}:(∀ t,m=.s t->PyData.strOk t=true)->kOk (pyD m.d)=true:=fun h=>by
 cases m with
 |n i=>simp[Mark.d,pyD,kOk]
 |s t=>simp[Mark.d,pyD,kOk,h t rfl]
theorem At6 {x:Mk} (h:∀ m∈x.ms,kOk (pyD m.d)=true):Cu x.d=true:=by
 have h1:∀ ms:List Mark,(∀ m∈ms,kOk (pyD m.d)=true)->Nr (Cf (ms.map Mark.d))=true:=fun ms=>by
  induction ms with
  |nil=>intro _;simp[Cf,Nr]
  |cons m ms ih=>intro h;rw[Bee,Cf,Nr,h m (Beb ..),ih fun n hn=>h n (Bed _ hn)];rfl
 have h2:∀ ms:List Mark,M4 (Cf (ms.map Mark.d))=0:=fun ms=>by
  induction ms with
  |nil=>simp[Cf,M4]
  |cons m ms ih =>
   rw[Bee,Cf,M4,ih]
   cases m<;>simp[Mark.d,pyD,Zc]
 unfold Mk.d
 unfold Cu
 simp[pyD,Cf,kOk,Nr,h1 x.ms h,Zc,M4,h2]
theorem Lb (h:Er (z::r)):par z (z::r)=true:=by
 rw[par,B3,El (List.pairwise_cons.mp h).1];rfl
theorem Ml:∀ {R S:List Mk},Er R->Er S->(∀ z,z∈R\/z∈S->par z R=par z S)->R=S
 |[],[],_,_,_=>rfl
 |[],s::S,_,hS,h=>by
  have:=h s (.inr (Beb ..))
  rw[Lb hS] at this;cases this
 |r::R,[],hR,_,h=>by
  have:=h r (.inl (Beb ..))
  rw[Lb hR] at this;cases this
 |r::R,s::S,hR,hS,h=>by
  obtain⟨r1,r2⟩:=List.pairwise_cons.mp hR
  obtain⟨s1,s2⟩:=List.pairwise_cons.mp hS
  by_cases e:r=s
  ·subst e
   rw[Ml r2 s2 fun z hz=>by
    have:=h z (hz.imp (Bed _) (Bed _))
    rw[par,par] at this
    cases q:z.older r<;>rw[q] at this<;>simpa using this]
  ·cases q:r.older s with
   |true =>
    have:=h r (.inl (Beb ..))
    rw[Lb hR,El fun x hx=>by
     rcases List.mem_cons.mp hx with z|z
     ·rw[z];exact q
     ·exact A9 q (s1 x z)] at this
    cases this
   |false =>
    have q:s.older r=true:=by rw[Cw (fun z=>e z.symm),q];rfl
    have:=h s (.inr (Beb ..))
    rw[Lb hS,El fun x hx=>by
     rcases List.mem_cons.mp hx with z|z
     ·rw[z];exact q
     ·exact A9 q (r1 x z)] at this
    cases this
noncomputable def J0 (keep:Bool->Bool->Bool) (p q:Mk->Bool):Bool->Bool->Bool->List Mk->List Mk
 |_,_,_,[]=>[]
 |a,b,k,e::r=>if keep (a != p e) (b != q e) != k then e::J0 keep p q (a != p e) (b != q e) (!k) r else J0 keep p q (a != p e) (b != q e) k r
theorem Eh (keep:Bool->Bool->Bool) (p q:Mk->Bool):∀ (S:List Mk) (a b k:Bool),(J0 keep p q a b k S).Sublist S
 |[],_,_,_=>.slnil
 |e::r,a,b,k=>by
  rw[J0]
  split
  ·exact (Eh keep p q r _ _ _).cons₂ _
  ·exact (Eh keep p q r _ _ _).cons _
theorem Mv:∀ {S:List Mk}{a b k:Bool},Er S->keep a b=k ->
  par z (J0 keep p q a b k S)=(keep (a^^tog (fun s=>p s&&!z.older s) S) (b^^tog (fun s=>q s&&!z.older s) S)^^k)
 |[],a,b,k,_,h=>by rw[J0,par,tog,tog,Bool.xor_false,Bool.xor_false,h];simp
 |e::r,a,b,k,hS,h=>by
  obtain⟨h1,h2⟩:=List.pairwise_cons.mp hS
  cases ho:z.older e with
  |true =>
   have hall:∀ x∈e::r,z.older x=true:=fun x hx=>by
    rcases List.mem_cons.mp hx with w|w
    ·rw[w];exact ho
    ·exact A9 ho (h1 x w)
   rw[El fun x hx=>hall x ((Eh keep p q (e::r) a b k).subset hx),Aeh fun x hx=>by rw[hall x hx];simp,Aeh fun x hx=>by rw[hall x hx];simp,Bool.xor_false,Bool.xor_false,h]
   simp
  |false =>
   rw[J0,tog,tog,ho]
   simp only[Bool.not_false,Bool.and_true]
   have ea:∀ x y t:Bool,(x^^(y^^t))=((x != y)^^t):=by decide
   rw[ea,ea]
   by_cases hk:keep (a != p e) (b != q e)=k
   ·rw[Beg (by simp[hk]),Mv h2 hk]
   ·have hk':keep (a != p e) (b != q e)=!k:=by cases h3:keep (a != p e) (b != q e)<;>cases k<;>simp_all
    rw[Bef (by simpa using hk),par,ho,Mv h2 hk']
    cases k<;>simp
theorem Acv {E S:List Mk} (hE:Er E) (hS:Er S) (sub:∀ x∈E,x∈S):par z E=tog (fun s=>decide (s∈E)&&!z.older s) S:=by
 have h1:E=S.filter fun s=>decide (s∈E):=Adv hE (hS.sublist List.filter_sublist) fun z=>by
  rw[List.mem_filter]
  simp only[Bgb]
  exact⟨fun h=>⟨sub z h,h⟩,fun h=>h.2⟩
 have h2:=N1 (z:=z) (p:=fun s=>decide (s∈E)) S
 rw[<- h1] at h2
 exact h2
def pc (l:Mk):Option Mk->List Mk
 |none=>[l]
 |some h=>if l.older h=true then [l,h] else []
def P0 (z:Mk):Option Mk->Bool
 |none=>true
 |some h=>z.older h
theorem Hi (l h:Mk):pc l (some h)=if l.older h=true then [l,h] else []:=rfl
theorem Adw {l:Mk}:Er (pc l h):=by
 cases h with
 |none=>exact Bfq ..
 |some h =>
  rw[Hi]
  by_cases e:l.older h=true
  ·rw[Bef e]
   exact List.pairwise_cons.mpr ⟨fun x hx=>by simp at hx;rw[hx];exact e,Bfq ..⟩
  ·rw[Beg e];exact .nil
theorem Aby {l x:Mk} (hx:x∈pc l h):x=l\/some x=h:=by
 cases h with
 |none=>simp[pc] at hx;exact .inl hx
 |some h =>
  rw[Hi] at hx
  by_cases e:l.older h=true
  ·rw[Bef e] at hx
   simp at hx;exact hx.imp id fun z=>by rw[z]
  ·rw[Beg e] at hx;cases hx
theorem Ajy {z l:Mk}:par z (pc l h)=(!z.older l&&P0 z h):=by
 cases h with
 |none=>simp[pc,par,P0]
 |some h =>
  rw[Hi]
  show _=(!z.older l&&z.older h)
  cases e:l.older h with
  |true =>
   rw[Bef rfl,par,par,par]
   cases a:z.older l with
   |true=>rw[A9 a e];rfl
   |false=>cases z.older h<;>rfl
  |false =>
   rw[Beg Bew,par]
   cases a:z.older l with
   |true=>rfl
   |false =>
    cases b:z.older h with
    |false=>rfl
    |true =>
     exfalso
     by_cases q:z=l
     ·rw[q,e] at b;cases b
     ·have c:l.older z=true:=by rw[Cw (fun w=>q w.symm),a];rfl
      rw[A9 c b] at e;cases e
theorem Ie (l h:Mk):Aq (pc l (some h))=if l.older h=true then [(l,some h)] else []:=by
 rw[Hi]
 split<;>rfl
structure Pos (z:Mk):Prop where
 a:0<=z.a
 b:0<=z.b
 c:0<=z.c
 ms:∀ m∈z.ms,m.pos
abbrev old0:Mk:=⟨0,0,0,[.n 0]⟩
abbrev Ep (a:Int):Mk:=⟨a,0,0,[.n 0]⟩
abbrev Dz (a b:Int):Mk:=⟨a,b,0,[.n 0]⟩
theorem Gg (h:Pos z) (a b:Int):z.older (Dz a b)=decide (z.a < a\/z.a=a/\z.b < b):=by
 rw[Bft,Gh,Bgb]
 have hc:=h.c
 constructor
 ·rintro (q|⟨q,q2|⟨q3,q4|⟨q5,q6,q7|q7⟩⟩⟩)
  ·exact .inl q
  ·exact .inr ⟨q,q2⟩
  ·have:z.c < 0:=q4
   lia
  ·cases q7
  ·exact absurd (O4 h.ms q7) q6
 ·rintro (q|⟨q,q2⟩)
  ·exact .inl q
  ·exact .inr ⟨q,.inl q2⟩
theorem Gf (h:Pos z) (a:Int):z.older (Ep a)=decide (z.a < a):=by
 have:=Gg h a 0
 rw[show Dz a 0=Ep a from rfl] at this
 rw[this,Bgg]
 have:=h.b
 lia
theorem Ef (h:Pos z):z.older old0=false:=by
 have:=Gf h 0
 rw[show Ep 0=old0 from rfl] at this
 rw[this,decide_eq_false_iff_not]
 have:=h.a
 lia
theorem Acn (h:Pos z):z.older x.next=(z.older x||decide (z=x)):=by
 by_cases e:z=x
 ·subst e;rw[Ny];simp
 ·rw[Be4 e,Bool.or_false]
  cases q:z.older x with
  |true=>exact A9 q (Ny x)
  |false =>
   have c:x.older z=true:=by rw[Cw (fun w=>e w.symm),q];rfl
   cases r:z.older x.next with
   |false=>rfl
   |true=>exact (Tf h.ms c r).elim
inductive All2 {α β:Type} (P:α->β->Prop):List α->List β->Prop
 |nil:All2 P [] []
 |cons {a:α}{b:β}{as:List α}{bs:List β}:P a b->All2 P as bs->All2 P (a::as) (b::bs)
theorem All2.map_left:∀ {as:List α}{cs:List γ},All2 (fun a c=>P (f a) c) as cs->All2 P (as.map f) cs
 |_,_,.nil=>.nil
 |_,_,.cons h t=>.cons h t.map_left
theorem All2.out {α β γ:Type}{P:α->γ->Prop}{f:γ->β}:∀ {as:List α}{bs:List β},All2 (fun a b=>∃ c,b=f c/\P a c) as bs->∃ cs:List γ,bs=cs.map f/\All2 P as cs
 |_,_,.nil=>⟨[],rfl,.nil⟩
 |_,_,.cons ⟨c,e,h⟩ t=>by
  obtain⟨cs,e2,h2⟩:=t.out
  exact⟨c::cs,by rw[e,e2];rfl,.cons h h2⟩
theorem All2.length:∀ {as:List α}{bs:List β},All2 P as bs->as.length=bs.length
 |_,_,.nil=>rfl
 |_,_,.cons _ t=>by rw[Beh,Beh,t.length]
noncomputable def prs {α:Type}:List α->List (α×α)
 |a::b::r=>(a,b)::prs r
 |_=>[]
noncomputable def lft {α:Type}:List α->List α
 |_::_::r=>lft r
 |r=>r
theorem Vj:∀ l:List α,(prs l).length=l.length / 2
 |[]=>by simp[prs]
 |[_]=>by simp[prs]
 |_::_::r=>by rw[prs,Beh,Vj r,Beh,Beh];lia
theorem Xn:∀ l:List α,lft l=l.drop (2 * (l.length / 2))
 |[]=>by simp[lft]
 |[_]=>by simp[lft]
 |a::b::r=>by
  rw[lft,Xn r,Beh,Beh,show 2 * ((r.length+1+1) / 2)=2 * (r.length / 2)+2 by lia]
  rfl
theorem Ac6:∀ (l:List α) (q:Nat) (h:2 * q+1 < l.length),(prs l)[q]?=some (l[2 * q]'(by lia),l[2 * q+1])
 |[],q,h=>absurd h (by simp)
 |[_],q,h=>absurd h (by simp)
 |a::b::r,0,h=>rfl
 |a::b::r,q+1,h=>by
  have h':2 * q+1 < r.length:=by simp at h;lia
  rw[prs,Bf5,Ac6 r q h']
  simp[show 2 * (q+1)=2 * q+1+1 by lia]
structure Spn (R:List Mk):Prop where
 rise:Er R
 key:∀ x∈R,Cu x.d=true/\x.ms.length<=1000
structure Two (keep:Bool->Bool->Bool) (E F R:List Mk):Prop where
 ok:Spn R
 mem:∀ x∈R,x∈E\/x∈F
 len:R.length<=E.length+F.length
 par:∀ z,ML.par z R=keep (ML.par z E) (ML.par z F)
noncomputable def tot (Rs:List (List Mk)):Nat:=(Rs.map List.length).sum
theorem Di (R:List Mk) (Rs:List (List Mk)):tot (R::Rs)=R.length+tot Rs:=by simp[tot]
noncomputable def Ai1 (keep:Bool->Bool->Bool) (e:Bool) (l:List Bool):Bool:=l.foldr keep e
structure Rnd (keep:Bool->Bool->Bool) (e:Bool) (Rs Ts:List (List Mk)):Prop where
 ok:∀ T∈Ts,Spn T
 mem:∀ T∈Ts,∀ x∈T,∃ R∈Rs,x∈R
 len:tot Ts<=tot Rs
 par:∀ z,Ai1 keep e (Ts.map (ML.par z))=Ai1 keep e (Rs.map (ML.par z))
 ne:Rs≠[]->Ts≠[]
theorem Aj3 {keep:Bool->Bool->Bool}{e:Bool} (as:∀ a b c,keep (keep a b) c=keep a (keep b c)):∀ {Rs Ss:List (List Mk)},(∀ R∈Rs,Spn R)->All2 (fun p S=>Two keep p.1 p.2 S) (prs Rs) Ss->Rnd keep e Rs (Ss++lft Rs)
 |[],Ss,h,a=>by
  cases a
  exact⟨(fun T hT=>nomatch hT),(fun T hT=>nomatch hT),Bej _,fun z=>rfl,fun z=>absurd rfl z⟩
 |[R],Ss,h,a=>by
  cases a
  exact⟨h,fun T hT x hx=>⟨T,hT,hx⟩,Bej _,fun z=>rfl,fun z=>z⟩
 |A::B::Rs,Ss,h,a=>by
  cases a with
  |@cons _ S _ Ss p q =>
   obtain⟨i1,i2,i3,i4,i5⟩:=Aj3 as (fun R hR=>h R (by simp[hR])) q
   refine⟨fun T hT=>?_,fun T hT x hx=>?_,?_,fun z=>?_,fun _ z=>by cases z⟩
   ·rcases List.mem_cons.mp hT with rfl|hT
    ·exact p.ok
    ·exact i1 T hT
   ·rcases List.mem_cons.mp hT with rfl|hT
    ·rcases p.mem x hx with w|w
     ·exact⟨A,by simp,w⟩
     ·exact⟨B,by simp,w⟩
    ·obtain⟨R,hR,hx⟩:=i2 T hT x hx
     exact⟨R,by simp[hR],hx⟩
   ·have:S.length<=A.length+B.length:=p.len
    show tot (S::(Ss++lft Rs))<=tot (A::B::Rs)
    rw[Di,Di,Di]
    lia
   ·have:=i4 z
    show keep (ML.par z S) (Ai1 keep e ((Ss++lft Rs).map (ML.par z)))=keep (ML.par z A) (keep (ML.par z B) (Ai1 keep e (Rs.map (ML.par z))))
    rw[this,p.par z,as]
theorem Rnd.refl (h:∀ R∈Rs,Spn R):Rnd keep e Rs Rs:=⟨h,fun T hT x hx=>⟨T,hT,hx⟩,Bej _,fun _=>rfl,fun z=>z⟩
theorem Rnd.trans (h1:Rnd keep e A B) (h2:Rnd keep e B C):Rnd keep e A C :=
 ⟨h2.ok,fun T hT x hx=>by
  obtain⟨R,hR,hx⟩:=h2.mem T hT x hx
  exact h1.mem R hR x hx,Bez h2.len h1.len,fun z=>(h2.par z).trans (h1.par z),fun z=>h2.ne (h1.ne z)⟩
end ML
end L2
end S_MP1
section S_K14a
namespace K14a
open PySem L2 L2.ML
noncomputable section
noncomputable def top (i:Nat):Stmt:=PySem.Challenge.pw_stretchbook_k14_whole_plain_reading.main.body.getD i (.Pass ⟨0,0,0,0⟩)
abbrev Ako:Stmt:=top 5
abbrev Akc:Stmt:=top 6
abbrev Akd:Stmt:=top 11
abbrev Ak4:Stmt:=top 12
abbrev Akk:Stmt:=top 13
abbrev Ake:Stmt:=top 14
abbrev Awz:Stmt:=top 15
abbrev Akf:Stmt:=top 16
abbrev Aj6:Stmt:=top 17
abbrev Aj7:Stmt:=top 18
abbrev Akg:Stmt:=top 19
abbrev Aww:Stmt:=top 20
abbrev Akl:Stmt:=top 23
abbrev Akp:Stmt:=top 24
abbrev Akq:Stmt:=top 25
abbrev Aj8:Stmt:=top 26
abbrev Akr:Stmt:=top 27
abbrev Akm:Stmt:=top 28
abbrev Akn:Stmt:=top 29
abbrev Mp:Stmt:=top 30
abbrev Mq:Stmt:=top 31
abbrev N6:Stmt:=top 32
abbrev Aj9:Stmt:=top 38
abbrev Akh:Stmt:=top 39
abbrev Aw2:Stmt:=top 40
abbrev Aw3:Stmt:=top 41
abbrev Awy:Stmt:=top 42
abbrev Aw0:Stmt:=top 43
abbrev Awx:Stmt:=top 44
abbrev Aki:Stmt:=top 45
abbrev Aks:Stmt:=top 46
abbrev Akj:Stmt:=top 47
abbrev Akx:Stmt:=top 49
abbrev Aky:Stmt:=top 50
abbrev Akz:Stmt:=top 51
abbrev Ak0:Stmt:=top 52
abbrev Aw4:Stmt:=top 53
abbrev Akt:Stmt:=top 54
abbrev Aku:Stmt:=top 55
abbrev Aka:Stmt:=top 56
abbrev Ak1:Stmt:=top 57
abbrev Akb:Stmt:=top 58
abbrev Akv:Stmt:=top 59
abbrev Aw5:Stmt:=top 60
abbrev Akw:Stmt:=top 61
abbrev Ak2:Stmt:=top 62
abbrev Ak3:Stmt:=top 63
abbrev Aw1:Stmt:=top 64
abbrev Ud:Stmt:=top 65
def lam_met:Lam:=Ank "met.<locals>.<lambda>" Mp
def Ai8:FE:=(Jw (Ah 0) (Ah 1))
def Lj:List D->Option D:=fnE Ai8
def lam_z32:Lam:=Ank "joined.<locals>.<lambda>" Mq
def Ai9:FE:=(Ae1 (Ah 0) (Ah 1))
def Ll:List D->Option D:=fnE Ai9
def lam_z46:Lam:=Ank "less.<locals>.<lambda>" N6
def Aja:FE:=(Jw (Ah 0) (U2 (Ah 1)))
def Ln:List D->Option D:=fnE Aja
def Xm:List (Lam×(List D->Option D)):=[(lam_met,Lj),(lam_z32,Ll),(lam_z46,Ln)]
def Ht:Lam:=Bbo "met" Mp
def Nf:Lam:=Bbo "joined" Mq
def Amw:FS:=(Bf (Jw (Jk oLe oLe (fC (.int 1)) (Av Ek (Aa (Ah 0) Ai)) (fC (.int 8))) (Av Ae2 (Aa (Ck (Bt [] 1 (Hk (Ah 0)) (A7 0) Hc (f2 oIn (Ah 0) (fC (.str (Str.ofString "abcdefghijklmnopqrstuvwxyz")))))) Ai))))
def Nh:List D->Option D:=Cy 1 Amw
def Aml:FS:=(Ax (sIf (Ae0 (A4 (Jk oLe oLe (fC (.int 1)) (Av Ek (Aa (Ah 0) Ai)) (fC (.int 15))))) (Bf (fC .non)) B6) (Ax (sIf (Ae0 (Jx (Av Ae2 (Aa (Ck (Bt [] 1 (Hk (Ah 0)) (A7 0) Hc (f2 oIn (Ah 0) (fC (.str (Str.ofString "0123456789")))))) Ai)))) (Bf (fC .non)) B6) (Ax (sIf (Aex (fE (fVI 0 0) (Str.ofString "0")) (A4 (f2 oNe (Ah 0) (fC (.str (Str.ofString "0")))))) (Bf (fC .non)) B6) (Bf (Av Agu (Aa (Ah 0) Ai))))))
def Lq:List D->Option D:=Cy 1 Aml
def Amm:FS:=(Ax (sIf (Jx (Ai7 "str" (Ah 0))) (Bf (B7 (Aa (fC (.int 1)) (Aa (fC (.int 0)) (Aa (Ah 0) Ai))))) B6) (Bf (B7 (Aa (fC (.int 0)) (Aa (Ah 0) (Aa (fC (.str (Str.ofString ""))) Ai))))))
def Rk:List D->Option D:=Cy 1 Amm
def Anc:FS:=(Ax (Bn 1 (fVI 0 3)) (Ax (Bn 2 (fIf (Jx (Ah 1)) (fC (.int 0)) (fC (.int 1)))) (Bf (B7 (Aa (fVI 0 0) (Aa (fVI 0 1) (Aa (fVI 0 2) (Aa (Ah 2) (Aa (Av G8 (Aa (Ck (Bt [] 1 (Hk (Ah 1)) (A7 0) Hc (fC1 Rk (Ah 0)))) Ai)) Ai)))))))))
def Jo:List D->Option D:=Cy 3 Anc
def Ams:FS:=(Bf (f2 Axo (fC1 Jo (Ah 0)) (fC1 Jo (Ah 1))))
def Jm:List D->Option D:=Cy 2 Ams
def Amn:FS:=(Ax (Bn 1 (fVI 0 3)) (Ax (sIf (Jx (Ah 1)) (Bf (B7 (Aa (fVI 0 0) (Aa (fVI 0 1) (Aa (fVI 0 2) (Aa (f2 Bx (Ah 1) (B7 (Aa (fC (.int 0)) Ai))) Ai)))))) B6) (Bf (B7 (Aa (fVI 0 0) (Aa (fVI 0 1) (Aa (f2 Bx (fVI 0 2) (fC (.int 1))) (Aa (B7 (Aa (fC (.int 0)) Ai)) Ai))))))))
def Hv:List D->Option D:=Cy 2 Amn
def Azl:FS:=(Ax (Bn 1 (Ck (Bt [] 1 (Hk (Ck (Aez "str" D1 (Ah 0) (Aa (fC (.str (Str.ofString "."))) Ai)))) (A7 0) Hc (fC1 Lq (Ah 0))))) (Ax (sIf (fOr (A4 (f2 oNe (Av Ek (Aa (Ah 1) Ai)) (fC (.int 3)))) (A4 (f2 oIn (fC .non) (Ah 1)))) (Bf (fC .non)) B6) (Bf (Av G8 (Aa (Ah 1) Ai)))))
def Aay:List D->Option D:=Cy 2 Azl
def Amo:FS:=(Bf (fIf (Jx (fC1 Nh (Ah 0))) (Ah 0) (fC1 Lq (Ah 0))))
def Rl:List D->Option D:=Cy 1 Amo
def Amf:FS:=(Ax (Bn 1 (Ck (Bt [] 1 (Hk (Ck (Aez "str" D1 (Ah 0) (Aa (fC (.str (Str.ofString "."))) Ai)))) (A7 0) Hc (fC1 Rl (Ah 0))))) (Ax (sIf (fOr (A4 (f2 oGt (Av Ek (Aa (Ah 1) Ai)) (fC (.int 12)))) (A4 (f2 oIn (fC .non) (Ah 1)))) (Bf (fC .non)) B6) (Bf (Av G8 (Aa (Ah 1) Ai)))))
def Rh:List D->Option D:=Cy 2 Amf
def Amg:FS:=(Ax (Bn 1 (Ck (Aez "str" D1 (Ah 0) (Aa (fC (.str (Str.ofString "."))) Ai)))) (Ax (sIf (fOr (A4 (f2 oGt (Av Ek (Aa (Ah 1) Ai)) (fC (.int 4)))) (Ae0 (Jx (Av Ae2 (Aa (Ck (Bt [] 1 (Hk (Ah 1)) (A7 0) Hc (fC1 Nh (Ah 0)))) Ai))))) (Bf (fC .non)) B6) (Bf (Av G8 (Aa (Ah 1) Ai)))))
def Ri:List D->Option D:=Cy 2 Amg
def Amp:FS:=(Ax (Bn 1 (fMt "str" Dr (Ah 0) (Aa (fC (.str (Str.ofString "+"))) Ai))) (Ax (Bn 2 (fMt "str" Dr (fVI 1 0) (Aa (fC (.str (Str.ofString "-"))) Ai))) (Ax (Bn 3 (fC1 Aay (fVI 2 0))) (Ax (Bn 4 (fIf (Jx (fVI 2 1)) (fC1 Rh (fVI 2 2)) (B7 Ai))) (Ax (Bn 5 (fIf (Jx (fVI 1 1)) (fC1 Ri (fVI 1 2)) (B7 Ai))) (Ax (sIf (fOr (A4 (f1 M7 (Ah 3))) (fOr (A4 (f1 M7 (Ah 4))) (A4 (f1 M7 (Ah 5))))) (Bf (fC .non)) B6) (Bf (B7 (Aa (f2 Bx (Ah 3) (B7 (Aa (Ah 4) Ai))) (Aa (Ah 5) Ai))))))))))
def Rn:List D->Option D:=Cy 6 Amp
def Azj:FS:=(Ax (Bn 1 (fC1 Rn (Ah 0))) (Ax (sIf (fOr (A4 (f1 M7 (Ah 1))) (Jx (fVI 1 1))) (Bf (fC .non)) B6) (Bf (fVI 1 0))))
def Lo:List D->Option D:=Cy 2 Azj
def Amt:FS:=(Ax (Ip 1 (Bp Ai)) (Ax (T6 (Hk (Ah 0)) (Aew 2 (Iw (A7 2) (Iw (A7 3) Al6))) (Ax (Pu Pt (Ah 1) (Aa (Ah 2) Ai)) (sIf (A4 (f1 L6 (Ah 3))) (Pu Pt (Ah 1) (Aa (Ah 3) Ai)) B6))) (Bf (Ah 1))))
def Lr:List D->Option D:=Cy 4 Amt
def Amx:FS:=(Ax (sIf (A4 (f2 oIn (fC .non) (Ck (Bt [] 1 (Hk (fSl (Ah 0) fNo (Dy (f1 Ajl (fC (.int 1)))))) (A7 0) Hc (fVI 0 1))))) (Bf (fC (.bl false))) B6) (Ax (Bn 1 (Ck (fF1 Lr (Ah 0)))) (Bf (Av Ae2 (Aa (Ck (Bt [1] 1 (Ji (Aa (f2 Ae3 (Av Ek (Aa (Ah 1) Ai)) (fC (.int 1))) Ai)) (A7 1) Hc (fC2 Jm (f2 oIx (Ah 0) (Ah 1)) (f2 oIx (Ah 0) (f2 Bx (Ah 1) (fC (.int 1))))))) Ai)))))
def Rq:List D->Option D:=Cy 2 Amx
def Amy:FS:=(Ax (Bn 2 (fC (.int 0))) (Ax (Bn 3 (Av Ek (Aa (Ah 1) Ai))) (Ax (Gq (A4 (f2 oLt (Ah 2) (Ah 3))) (Ax (Bn 4 (f2 Aq2 (f2 Bx (Ah 2) (Ah 3)) (fC (.int 2)))) (sIf (Jx (fC2 Jm (Ah 0) (f2 oIx (f2 oIx (Ah 1) (Ah 4)) (fC (.int 0))))) (Bn 3 (Ah 4)) (Bn 2 (f2 Bx (Ah 4) (fC (.int 1)))))) 1000) (Ax (sIf (A4 (f2 oEq (Ah 2) (fC (.int 0)))) (Bf (fC (.bl false))) B6) (Ax (Bn 5 (f2 oIx (f2 oIx (Ah 1) (f2 Ae3 (Ah 2) (fC (.int 1)))) (fC (.int 1)))) (Bf (Ae1 (f1 M7 (Ah 5)) (fC2 Jm (Ah 0) (Ah 5)))))))))
def Ls:List D->Option D:=Cy 6 Amy
def Amh:FS:=(Ax (sIf (fOr (A4 (f1 M7 (Ah 1))) (Jx (fC2 Jm (Ah 0) (Ah 1)))) (Bf (B7 (Aa (B7 (Aa (Ah 0) (Aa (Ah 1) Ai))) Ai))) B6) (Bf (B7 Ai)))
def Dv:List D->Option D:=Cy 2 Amh
def Amz:FS:=(Ax (Bn 1 (Ck (Aey (Ah 0) (Ck (Bp (Aa (fC .non) Ai)))))) (Bf (Av G8 (Aa (Ck (Bt [0,1] 1 (Aeq (Aa (fC (.int 0)) (Aa (Av Ek (Aa (Ah 0) Ai)) (Aa (fC (.int 2)) Ai)))) (A7 2) Hc (B7 (Aa (f2 oIx (Ah 0) (Ah 2)) (Aa (f2 oIx (Ah 1) (f2 Bx (Ah 2) (fC (.int 1)))) Ai))))) Ai))))
def Rr:List D->Option D:=Cy 2 Amz
def Amu:FS:=(Ax (Ah2 2) (Ax (T6 (Hk (Ck (fF1 Lr (Ah 0)))) (A7 3) (Zr (B7 (Aa (fC (.bl true)) (Aa (fC (.bl false)) Ai))) (Ah 2) (Ah 3))) (Ax (T6 (Hk (Ck (fF1 Lr (Ah 1)))) (A7 3) (Zr (B7 (Aa (f2 Auf (Ah 3) (Ah 2)) (Aa (fC (.bl true)) Ai))) (Ah 2) (Ah 3))) (Bf (Ah 2)))))
def Rp:List D->Option D:=Cy 4 Amu
def Amv:FS:=(Ax (Bn 3 (fC2 Rp (Ah 0) (Ah 1))) (Ax (Bn 4 (fC (.bl false))) (Ax (Bn 5 (fC (.bl false))) (Ax (Bn 6 (fC (.bl false))) (Ax (Ip 7 (Bp Ai)) (Ax (T6 (Hk (Ck (G4 (L7 Jo) (Aa (Ah 3) Ai)))) (A7 8) (Ax (Bn 4 (f2 oNe (Ah 4) (f2 oIx (f2 An5 (Ah 3) (Ah 8)) (fC (.int 0))))) (Ax (Bn 5 (f2 oNe (Ah 5) (f2 oIx (f2 An5 (Ah 3) (Ah 8)) (fC (.int 1))))) (sIf (A4 (f2 oNe (Rg Xm 2 (Ah 2) (Aa (Ah 4) (Aa (Ah 5) Ai))) (Ah 6))) (Ax (Bn 6 (U2 (Ah 6))) (Pu Pt (Ah 7) (Aa (Ah 8) Ai))) B6)))) (Bf (fC1 Rr (Ah 7)))))))))
def Jn:List D->Option D:=Cy 9 Amv
def Y3:FS:=(Bf (Av (Du 3 Jn) (Aa (Ah 0) (Aa (Ah 1) (Aa (fC (.fn 0 lam_met)) Ai)))))
def Hu:List D->Option D:=Cy 2 Y3
def Y5:FS:=(Bf (Av (Du 3 Jn) (Aa (Ah 0) (Aa (Ah 1) (Aa (fC (.fn 1 lam_z32)) Ai)))))
def Hw:List D->Option D:=Cy 2 Y5
def Y6:FS:=(Bf (Av (Du 3 Jn) (Aa (Ah 0) (Aa (Ah 1) (Aa (fC (.fn 2 lam_z46)) Ai)))))
def Nl:List D->Option D:=Cy 2 Y6
def Ami:FS:=(Bf (B7 (Aa (fVI 0 0) (Aa (f2 Bx (fVI 0 1) (fC (.int 1))) (Aa (fC (.int 0)) (Aa (B7 (Aa (fC (.int 0)) Ai)) Ai))))))
def Lp:List D->Option D:=Cy 1 Ami
def Amq:FS:=(Ax (sIf (A4 (f2 oGt (fVI 0 0) (fC (.int 0)))) (Bf (B7 (Aa (f2 Bx (fVI 0 0) (fC (.int 1))) (Aa (fC (.int 0)) (Aa (fC (.int 0)) (Aa (B7 (Aa (fC (.int 0)) Ai)) Ai)))))) B6) (Ax (sIf (A4 (f2 oGt (fVI 0 1) (fC (.int 0)))) (Bf (fC1 Lp (Ah 0))) B6) (Bf (B7 (Aa (fC (.int 0)) (Aa (fC (.int 0)) (Aa (f2 Bx (fVI 0 2) (fC (.int 1))) (Aa (B7 (Aa (fC (.int 0)) Ai)) Ai))))))))
def Ro:List D->Option D:=Cy 1 Amq
def Azo:FS:=(Ax (sIf (fE (Ah 0) (Str.ofString "=")) (Bf (fC2 Dv (Ah 1) (fC1 Hv (Ah 1)))) B6) (Ax (sIf (fE (Ah 0) (Str.ofString "!=")) (Bf (fC2 Nl (fC (.tup [ (.tup [ (.tup [ (.int 0) ,(.int 0) ,(.int 0) ,(.tup [ (.int 0) ]) ]) ,.non]) ])) (fC2 Dv (Ah 1) (fC1 Hv (Ah 1))))) B6) (Ax (sIf (fE (Ah 0) (Str.ofString "<")) (Bf (fC2 Dv (fC (.tup [ (.int 0) ,(.int 0) ,(.int 0) ,(.tup [ (.int 0) ]) ])) (Ah 1))) B6) (Ax (sIf (fE (Ah 0) (Str.ofString "<=")) (Bf (fC2 Dv (fC (.tup [ (.int 0) ,(.int 0) ,(.int 0) ,(.tup [ (.int 0) ]) ])) (fC1 Hv (Ah 1)))) B6) (Ax (sIf (fE (Ah 0) (Str.ofString ">")) (Bf (fC2 Dv (fC1 Hv (Ah 1)) (fC .non))) B6) (Ax (sIf (fE (Ah 0) (Str.ofString ">=")) (Bf (fC2 Dv (Ah 1) (fC .non))) B6) (Ax (sIf (fE (Ah 0) (Str.ofString "^")) (Bf (fC2 Dv (Ah 1) (fC1 Ro (Ah 1)))) B6) (Bf (fC2 Dv (Ah 1) (fC1 Lp (Ah 1)))))))))))
def Oq:List D->Option D:=Cy 2 Azo
def Azp:FS:=(Ax (T6 (Hk (fC (.tup [ (.str (Str.ofString "!=")) ,(.str (Str.ofString "<=")) ,(.str (Str.ofString ">=")) ,(.str (Str.ofString "=")) ,(.str (Str.ofString "<")) ,(.str (Str.ofString ">")) ,(.str (Str.ofString "^")) ,(.str (Str.ofString "~")) ]))) (A7 1) (sIf (Jx (fMt "str" Dw (Ah 0) (Aa (Ah 1) Ai))) (Ax (Bn 2 (fC1 Lo (fSl (Ah 0) (Dy (Av Ek (Aa (Ah 1) Ai))) fNo))) (Bf (fIf (A4 (f1 M7 (Ah 2))) (fC .non) (fC2 Oq (Ah 1) (Ah 2))))) B6)) (Bf (fC .non)))
def Y1:List D->Option D:=Cy 3 Azp
def Axl:FS:=(Ax (Bn 1 (Ck (Bt [] 1 (Hk (Ck (Aez "str" D1 (Ah 0) (Aa (fC (.str (Str.ofString "."))) Ai)))) (A7 0) Hc (fC1 Lq (Ah 0))))) (Ax (sIf (fOr (A4 (f2 oGt (Av Ek (Aa (Ah 1) Ai)) (fC (.int 2)))) (A4 (f2 oIn (fC .non) (Ah 1)))) (Bf (fC .non)) B6) (Ax (sIf (A4 (f2 oEq (Av Ek (Aa (Ah 1) Ai)) (fC (.int 1)))) (Bf (fC2 Dv (B7 (Aa (fVI 1 0) (Aa (fC (.int 0)) (Aa (fC (.int 0)) (Aa (B7 (Aa (fC (.int 0)) Ai)) Ai))))) (B7 (Aa (f2 Bx (fVI 1 0) (fC (.int 1))) (Aa (fC (.int 0)) (Aa (fC (.int 0)) (Aa (B7 (Aa (fC (.int 0)) Ai)) Ai))))))) B6) (Ax (Bn 2 (B7 (Aa (fVI 1 0) (Aa (fVI 1 1) (Aa (fC (.int 0)) (Aa (B7 (Aa (fC (.int 0)) Ai)) Ai)))))) (Bf (fC2 Dv (Ah 2) (fC1 Lp (Ah 2))))))))
def Rm:List D->Option D:=Cy 3 Axl
def Azm:FS:=(Ax (sIf (fE (Ah 0) (Str.ofString "")) (Bf (Ah 2)) B6) (Ax (Bn 3 (fC1 Lo (Ah 0))) (Bf (fIf (Jx (Ah 1)) (fC1 Hv (Ah 3)) (Ah 3)))))
def Yz:List D->Option D:=Cy 4 Azm
def Azk:FS:=(Ax (sIf (A4 (f2 Th (fSl (Ah 0) (Dy (f1 Ajl (fC (.int 1)))) fNo) (B7 (Aa (fC (.str (Str.ofString "]"))) (Aa (fC (.str (Str.ofString ")"))) Ai))))) (Bf (fC .non)) B6) (Ax (Bn 1 (Ck (Aez "str" D1 (fSl (Ah 0) (Dy (fC (.int 1))) (Dy (f1 Ajl (fC (.int 1))))) (Aa (fC (.str (Str.ofString ","))) Ai)))) (Ax (sIf (fOr (A4 (f2 oNe (Av Ek (Aa (Ah 1) Ai)) (fC (.int 2)))) (A4 (f2 oIn (fC .non) (Ck (Bt [] 1 (Hk (Ah 1)) (A7 0) (Jx (Ah 0)) (fC1 Lo (Ah 0))))))) (Bf (fC .non)) B6) (Ax (Bn 2 (fC3 Yz (fVI 1 0) (f2 oEq (fVI 0 0) (fC (.str (Str.ofString "(")))) (fC (.tup [ (.int 0) ,(.int 0) ,(.int 0) ,(.tup [ (.int 0) ]) ])))) (Ax (Bn 3 (fC3 Yz (fVI 1 1) (f2 oEq (f2 oIx (Ah 0) (f1 Ajl (fC (.int 1)))) (fC (.str (Str.ofString "]")))) (fC .non))) (Bf (fC2 Dv (Ah 2) (Ah 3))))))))
def Yy:List D->Option D:=Cy 4 Azk
def Y4:FS:=(Ax (sIf (fE (Ah 0) (Str.ofString "*")) (Bf (fC (.tup [ (.tup [ (.tup [ (.int 0) ,(.int 0) ,(.int 0) ,(.tup [ (.int 0) ]) ]) ,.non]) ]))) B6) (Ax (sIf (fE (Ah 0) (Str.ofString "none")) (Bf (B7 Ai)) B6) (Ax (sIf (A4 (f2 oIn (fSl (Ah 0) fNo (Dy (fC (.int 1)))) (B7 (Aa (fC (.str (Str.ofString "["))) (Aa (fC (.str (Str.ofString "("))) Ai))))) (Bf (fC1 Yy (Ah 0))) B6) (Ax (sIf (Jx (fMt "str" J8 (fSl (Ah 0) fNo (Dy (fC (.int 1)))) Ai)) (Bf (fC1 Rm (Ah 0))) B6) (Bf (fC1 Y1 (Ah 0)))))))
def E2:List D->Option D:=Cy 1 Y4
def V6:List (Str×(List D->Option D)):=[("met",Hu),("joined",Hw)]
def Am0:FS:=(Ax (Gq (A4 (f2 oGt (Av Ek (Aa (Ah 0) Ai)) (fC (.int 1)))) (Ax (Bn 2 (Ck (Bt [1,0] 1 (Aeq (Aa (fC (.int 0)) (Aa (f2 Ae3 (Av Ek (Aa (Ah 0) Ai)) (fC (.int 1))) (Aa (fC (.int 2)) Ai)))) (A7 2) Hc (Rf V6 2 (Ah 0) (Aa (f2 oIx (Ah 1) (Ah 2)) (Aa (f2 oIx (Ah 1) (f2 Bx (Ah 2) (fC (.int 1)))) Ai)))))) (Bn 0 (Ck (Aey (Ah 2) (Ck (Aqz (Ah 0) (Dy (f2 Xv (fC (.int 2)) (Av Ek (Aa (Ah 2) Ai)))) fNo)))))) 1000) (Bf (fVI 0 0)))
def E4:List D->Option D:=Cy 3 Am0
def Amr:FS:=(Ax (Bn 1 (Ck (Aez "str" D1 (Ah 0) (Aa (fC (.str (Str.ofString " "))) Ai)))) (Ax (Ip 2 (Bp Ai)) (Ax (Ip 3 (Bp Ai)) (Ax (T6 (Dt (Aa (Ah 1) Ai)) (Aew 2 (Iw (A7 4) (Iw (A7 5) Al6))) (sIf (Aex (fE (Ah 5) (Str.ofString "|")) (Jx (Ah 3))) (Ax (Pu Pt (Ah 2) (Aa (Av (Du 2 E4) (Aa (Ah 3) (Aa (fC (.fn 1000 Ht)) Ai))) Ai)) (Ip 3 (Bp Ai))) (Ax (Bn 6 (fC1 E2 (Ah 5))) (Ax (sIf (A4 (f1 M7 (Ah 6))) Ah3 B6) (Pu Pt (Ah 3) (Aa (Ah 6) Ai)))))) (Ax (sIf (Ae0 (Jx (Ah 3))) Ah3 B6) (Ax (Pu Pt (Ah 2) (Aa (Av (Du 2 E4) (Aa (Ah 3) (Aa (fC (.fn 1000 Ht)) Ai))) Ai)) (Bf (Av (Du 2 E4) (Aa (Ah 2) (Aa (fC (.fn 1001 Nf)) Ai))))))))))
def Jl:List D->Option D:=Cy 7 Amr
def Am5:FS:=(Ax (Bn 3 (fC (.int 0))) (Ax (Bn 4 (fC (.int 0))) (Ax (sIf (A4 (f2 oGt (Av Ek (Aa (Ah 0) Ai)) (fC (.int 0)))) (Ax (Bn 3 (f2 oIx (Ah 0) (f2 Xu (Ah 1) (Av Ek (Aa (Ah 0) Ai))))) (Bn 4 (f2 Xu (f2 Aq2 (Ah 1) (Av Ek (Aa (Ah 0) Ai))) (fC (.int 40))))) B6) (Ax (sIf (A4 (f2 oEq (f2 Xu (Ah 3) (fC (.int 2))) (fC (.int 1)))) (Bf (f2 Xu (f2 Axp (Ah 3) (f2 Bx (fC (.int 1)) (f2 Xv (fC (.int 6)) (Ah 4)))) (Ah 2))) B6) (Ax (Bn 5 (f2 Xu (f2 Xv (f2 Bx (f2 Xu (Ah 3) (fC (.int 2147483629))) (fC (.int 1))) (f2 Bx (f2 Xv (f2 Xv (fC (.int 31)) (Ah 1)) (Ah 1)) (fC (.int 7919)))) (fC (.int 2147483647)))) (Bf (f2 Xu (f2 Aq2 (f2 Xu (f2 Bx (f2 Xv (Ah 5) (f2 Bx (f2 Xu (Ah 5) (fC (.int 65521))) (fC (.int 48271)))) (Ah 1)) (fC (.int 2147483629))) (fC (.int 7))) (Ah 2))))))))
def Bw:List D->Option D:=Cy 6 Am5
def Am6:FS:=(Ax (Bn 2 (Ck (Bp (Aa (fC (.int 0)) (Aa (fC (.int 1)) (Aa (fC (.str (Str.ofString "a"))) (Aa (fC (.str (Str.ofString "ab"))) (Aa (fC (.str (Str.ofString "b"))) (Aa (fC (.int 2)) (Aa (fC (.int 10)) (Aa (fC (.str (Str.ofString "zzzzzzzz"))) (Aa (fC (.str (Str.ofString "abc"))) (Aa (f2 Ae3 (f2 Aq3 (fC (.int 10)) (fC (.int 12))) (fC (.int 1))) (Aa (fC (.str (Str.ofString "ba"))) Ai)))))))))))))) (Bf (f2 oIx (Ah 2) (fC3 Bw (Ah 0) (Ah 1) (fC (.int 11))))))
def Lu:List D->Option D:=Cy 3 Am6
def Am7:FS:=(Ax (Ip 2 (Bt [0,1] 1 (Ji (Aa (fC (.int 3)) Ai)) (A7 2) Hc (fC3 Bw (Ah 0) (f2 Bx (Ah 1) (Ah 2)) (fC (.int 3))))) (Ax (sIf (A4 (f2 oEq (fC3 Bw (Ah 0) (f2 Bx (Ah 1) (fC (.int 3))) (fC (.int 9))) (fC (.int 8)))) (T7 (f2 oIx (Ck (Bp (Aa (fC (.int 9)) (Aa (fC (.int 10)) (Aa (f2 Ae3 (f2 Aq3 (fC (.int 10)) (fC (.int 12))) (fC (.int 1))) Ai))))) (fC3 Bw (Ah 0) (f2 Bx (Ah 1) (fC (.int 5))) (fC (.int 3)))) (Ah 2) (fC3 Bw (Ah 0) (f2 Bx (Ah 1) (fC (.int 4))) (fC (.int 3)))) B6) (Ax (Bn 3 (f2 oIx (Ck (Bp (Aa (fC (.int 0)) (Aa (fC (.int 0)) (Aa (fC (.int 1)) (Aa (fC (.int 1)) (Aa (fC (.int 2)) (Aa (fC (.int 3)) (Aa (fC (.int 8)) Ai))))))))) (fC3 Bw (Ah 0) (f2 Bx (Ah 1) (fC (.int 4))) (fC (.int 7))))) (Bf (f2 Bx (Av G8 (Aa (Ah 2) Ai)) (B7 (Aa (Av G8 (Aa (Ck (Bt [0,1] 1 (Ji (Aa (Ah 3) Ai)) (A7 2) Hc (fC2 Lu (Ah 0) (f2 Bx (f2 Bx (Ah 1) (fC (.int 6))) (Ah 2))))) Ai)) Ai)))))))
def Lv:List D->Option D:=Cy 4 Am7
def Ms:FS:=(Ax (Bn 8 (f2 oIx (Ah 7) (fC3 Bw (Ah 0) (Ah 1) (Av Ek (Aa (Ah 7) Ai))))) (Ax (sIf (Aex (A4 (f2 oLt (Av Zj (Aa (fSl (Ah 8) fNo (Dy (fC (.int 3)))) Ai)) (f2 Aq3 (fC (.int 10)) (fC (.int 12))))) (A4 (f2 oGt (fC3 Bw (Ah 0) (f2 Bx (Ah 1) (fC (.int 2))) (fC (.int 4))) (fC (.int 0))))) (Bf (Ah 8)) B6) (Bf (fC2 Lv (Ah 0) (f2 Bx (Ah 1) (fC (.int 2)))))))
def Am8:FS:=(Ax (Awp (Ah 2) (Aew 4 (Iw (A7 3) (Iw (A7 4) (Iw (A7 5) (Iw (A7 6) Al6)))))) (Ax (Ip 7 (Bp (Aa (Ah 2) (Aa (B7 (Aa (Ah 3) (Aa (Ah 4) (Aa (Ah 5) (Aa (B7 Ai) Ai))))) (Aa (B7 (Aa (Ah 3) (Aa (Ah 4) (Aa (Ah 5) (Aa (fSl (Ah 6) fNo (Dy (f1 Ajl (fC (.int 1))))) Ai))))) (Aa (B7 (Aa (Ah 3) (Aa (Ah 4) (Aa (f2 Bx (Ah 5) (fC (.int 1))) (Aa (B7 (Aa (fC (.int 0)) Ai)) Ai))))) Ai)))))) (Ax (Ip 7 (Aey (Ah 7) (Ck (Bp (Aa (B7 (Aa (Ah 3) (Aa (f2 Bx (Ah 4) (fC (.int 1))) (Aa (fC (.int 0)) (Aa (B7 (Aa (fC (.int 0)) Ai)) Ai))))) (Aa (B7 (Aa (f2 Bx (Ah 3) (fC (.int 1))) (Aa (fC (.int 0)) (Aa (fC (.int 0)) (Aa (B7 (Aa (fC (.int 0)) Ai)) Ai))))) (Aa (B7 (Aa (Ah 3) (Aa (Ah 4) (Aa (fC (.int 0)) (Aa (B7 Ai) Ai))))) (Aa (B7 (Aa (fC (.int 0)) (Aa (fC (.int 0)) (Aa (fC (.int 0)) (Aa (B7 (Aa (fC (.int 0)) Ai)) Ai))))) Ai)))))))) (Ax (sIf (A4 (f2 oLt (Av Ek (Aa (Ah 6) Ai)) (fC (.int 8)))) (Ax (Pu Pt (Ah 7) (Aa (B7 (Aa (Ah 3) (Aa (Ah 4) (Aa (Ah 5) (Aa (f2 Bx (Ah 6) (B7 (Aa (fC2 Lu (Ah 0) (f2 Bx (Ah 1) (fC (.int 1)))) Ai))) Ai))))) Ai)) (Pu Pt (Ah 7) (Aa (B7 (Aa (Ah 3) (Aa (Ah 4) (Aa (Ah 5) (Aa (f2 Bx (Ah 6) (B7 (Aa (fC (.int 0)) Ai))) Ai))))) Ai))) B6) (Ax (sIf (A4 (f2 oGt (Av Ek (Aa (Ah 6) Ai)) (fC (.int 0)))) (Pu Pt (Ah 7) (Aa (B7 (Aa (Ah 3) (Aa (Ah 4) (Aa (Ah 5) (Aa (f2 Bx (fSl (Ah 6) fNo (Dy (f1 Ajl (fC (.int 1))))) (B7 (Aa (fC2 Lu (Ah 0) (f2 Bx (Ah 1) (fC (.int 1)))) Ai))) Ai))))) Ai)) B6) Ms)))))
def Ni:List D->Option D:=Cy 9 Am8
def Azq:FS:=(Ax (sIf (A4 (f2 oNe (Ai7 "str" (Ah 0)) (Ai7 "str" (Ah 1)))) (Bf (Ai7 "str" (Ah 1))) B6) (Bf (f2 oLt (Ah 0) (Ah 1))))
def Aa0:List D->Option D:=Cy 2 Azq
def Am1:FS:=(Ax (T6 (Ji (Aa (fC (.int 3)) Ai)) (A7 2) (sIf (A4 (f2 oNe (f2 oIx (Ah 0) (Ah 2)) (f2 oIx (Ah 1) (Ah 2)))) (Bf (f2 oLt (f2 oIx (Ah 0) (Ah 2)) (f2 oIx (Ah 1) (Ah 2)))) B6)) (Ax (sIf (fOr (A4 (f2 oEq (fVI 0 3) (B7 Ai))) (A4 (f2 oEq (fVI 1 3) (B7 Ai)))) (Bf (Jw (f2 oNe (fVI 0 3) (B7 Ai)) (f2 oEq (fVI 1 3) (B7 Ai)))) B6) (Ax (T6 (Ji (Aa (Av Agv (Aa (Av Ek (Aa (fVI 0 3) Ai)) (Aa (Av Ek (Aa (fVI 1 3) Ai)) Ai))) Ai)) (A7 2) (sIf (A4 (f2 oNe (f2 oIx (fVI 0 3) (Ah 2)) (f2 oIx (fVI 1 3) (Ah 2)))) (Bf (fC2 Aa0 (f2 oIx (fVI 0 3) (Ah 2)) (f2 oIx (fVI 1 3) (Ah 2)))) B6)) (Bf (f2 oLt (Av Ek (Aa (fVI 0 3) Ai)) (Av Ek (Aa (fVI 1 3) Ai)))))))
def Hx:List D->Option D:=Cy 3 Am1
def Am2:FS:=(Ax (Ip 3 (Bp Ai)) (Ax (T6 (Ji (Aa (Ah 2) Ai)) (A7 4) (Ax (Bn 5 (fC2 Lv (Ah 0) (f2 Bx (f2 Bx (Ah 1) (fC (.int 12))) (f2 Xv (fC (.int 20)) (Ah 4))))) (Ax (sIf (Aex (A4 (f2 oGt (Ah 4) (fC (.int 0)))) (A4 (f2 oGt (fC3 Bw (Ah 0) (f2 Bx (Ah 1) (f2 Xu (Ah 4) (fC (.int 6)))) (fC (.int 4))) (fC (.int 0))))) (Bn 5 (fC3 Ni (Ah 0) (f2 Bx (f2 Bx (Ah 1) (fC (.int 12))) (f2 Xv (fC (.int 20)) (Ah 4))) (f2 oIx (Ah 3) (fC3 Bw (Ah 0) (f2 Bx (f2 Bx (Ah 1) (fC (.int 6))) (f2 Xu (Ah 4) (fC (.int 6)))) (Ah 4))))) B6) (Pu Pt (Ah 3) (Aa (Ah 5) Ai))))) (Bf (Ah 3))))
def Rt:List D->Option D:=Cy 6 Am2
def Amj:FS:=(Ax (Bn 1 (fMt "str" Gd (fC (.str (Str.ofString "."))) (Aa (Ck (Bt [] 1 (Hk (fSl (Ah 0) fNo (Dy (fC (.int 3))))) (A7 0) Hc (Av Zk (Aa (Ah 0) Ai)))) Ai))) (Ax (sIf (A4 (f2 oNe (fVI 0 3) (B7 Ai))) (Bn 1 (f2 Bx (f2 Bx (Ah 1) (fC (.str (Str.ofString "-")))) (fMt "str" Gd (fC (.str (Str.ofString "."))) (Aa (Ck (Bt [] 1 (Hk (fVI 0 3)) (A7 0) Hc (Av Zk (Aa (Ah 0) Ai)))) Ai)))) B6) (Bf (Ah 1))))
def Ec:List D->Option D:=Cy 2 Amj
def Am9:FS:=(Ax (Bn 3 (f2 oIx (Ah 2) (fC3 Bw (Ah 0) (Ah 1) (Av Ek (Aa (Ah 2) Ai))))) (Ax (Bn 4 (f2 oIx (Ah 2) (fC3 Bw (Ah 0) (f2 Bx (Ah 1) (fC (.int 1))) (Av Ek (Aa (Ah 2) Ai))))) (Ax (Bn 5 (fC3 Bw (Ah 0) (f2 Bx (Ah 1) (fC (.int 2))) (fC (.int 13)))) (Ax (sIf (A4 (f2 oLt (Ah 5) (fC (.int 8)))) (Bf (B7 (Aa (fC (.str (Str.ofString "sign"))) (Aa (f2 oIx (Ck (Bp (Aa (fC (.str (Str.ofString "="))) (Aa (fC (.str (Str.ofString "!="))) (Aa (fC (.str (Str.ofString "<"))) (Aa (fC (.str (Str.ofString ">"))) (Aa (fC (.str (Str.ofString "<="))) (Aa (fC (.str (Str.ofString ">="))) (Aa (fC (.str (Str.ofString "^"))) (Aa (fC (.str (Str.ofString "~"))) Ai)))))))))) (Ah 5)) (Aa (Ah 3) Ai))))) B6) (Ax (sIf (A4 (f2 oEq (Ah 5) (fC (.int 8)))) (Bf (B7 (Aa (fC (.str (Str.ofString "word"))) (Aa (f2 oIx (Ck (Bp (Aa (fC (.str (Str.ofString "*"))) (Aa (fC (.str (Str.ofString "none"))) (Aa (fC (.str (Str.ofString "*"))) Ai))))) (fC3 Bw (Ah 0) (f2 Bx (Ah 1) (fC (.int 3))) (fC (.int 3)))) Ai)))) B6) (Ax (sIf (A4 (f2 oLt (Ah 5) (fC (.int 11)))) (Bf (f2 Bx (B7 (Aa (fC (.str (Str.ofString "numbers"))) Ai)) (fSl (Ah 3) fNo (Dy (f2 Ae3 (Ah 5) (fC (.int 8))))))) B6) (Ax (Bn 6 (f2 oIx (Ck (Bp (Aa (Ah 3) (Aa (Ah 3) (Aa (fC .non) Ai))))) (fC3 Bw (Ah 0) (f2 Bx (Ah 1) (fC (.int 4))) (fC (.int 3))))) (Ax (Bn 7 (f2 oIx (Ck (Bp (Aa (Ah 4) (Aa (Ah 4) (Aa (fC .non) Ai))))) (fC3 Bw (Ah 0) (f2 Bx (Ah 1) (fC (.int 5))) (fC (.int 3))))) (Bf (B7 (Aa (fC (.str (Str.ofString "ends"))) (Aa (f2 oIx (fC (.str (Str.ofString "[("))) (fC3 Bw (Ah 0) (f2 Bx (Ah 1) (fC (.int 6))) (fC (.int 2)))) (Aa (Ah 6) (Aa (Ah 7) (Aa (f2 oIx (fC (.str (Str.ofString "])"))) (fC3 Bw (Ah 0) (f2 Bx (Ah 1) (fC (.int 7))) (fC (.int 2)))) Ai)))))))))))))))
def Rw:List D->Option D:=Cy 8 Am9
def Ea:FS:=(Ax (Bn 1 (f2 Bx (Ah 1) (fC (.str (Str.ofString ","))))) (Ax (sIf (A4 (f1 L6 (fVI 0 3))) (Bn 1 (f2 Bx (Ah 1) (fC1 Ec (fVI 0 3)))) B6) (Bf (f2 Bx (Ah 1) (fVI 0 4)))))
def Amk:FS:=(Ax (sIf (fE (fVI 0 0) (Str.ofString "word")) (Bf (fVI 0 1)) B6) (Ax (sIf (fE (fVI 0 0) (Str.ofString "sign")) (Bf (f2 Bx (fVI 0 1) (fC1 Ec (fVI 0 2)))) B6) (Ax (sIf (fE (fVI 0 0) (Str.ofString "numbers")) (Bf (fMt "str" Gd (fC (.str (Str.ofString "."))) (Aa (Ck (Bt [] 1 (Hk (fSl (Ah 0) (Dy (fC (.int 1))) fNo)) (A7 0) Hc (Av Zk (Aa (Ah 0) Ai)))) Ai))) B6) (Ax (Bn 1 (fVI 0 1)) (Ax (sIf (A4 (f1 L6 (fVI 0 2))) (Bn 1 (f2 Bx (Ah 1) (fC1 Ec (fVI 0 2)))) B6) Ea)))))
def Rj:List D->Option D:=Cy 2 Amk
def Am3:FS:=(Ax (sIf (A4 (f2 oGt (fVI 0 0) (fC (.int 0)))) (Bf (B7 (Aa (f2 Bx (fVI 0 0) (fC (.int 1))) (Aa (fC (.int 0)) (Aa (fC (.int 0)) (Aa (B7 (Aa (fC (.int 0)) Ai)) Ai)))))) B6) (Ax (sIf (A4 (f2 oGt (fVI 0 1) (fC (.int 0)))) (Bf (B7 (Aa (fC (.int 0)) (Aa (f2 Bx (fVI 0 1) (fC (.int 1))) (Aa (fC (.int 0)) (Aa (B7 (Aa (fC (.int 0)) Ai)) Ai)))))) B6) (Bf (B7 (Aa (fC (.int 0)) (Aa (fC (.int 0)) (Aa (f2 Bx (fVI 0 2) (fC (.int 1))) (Aa (B7 (Aa (fC (.int 0)) Ai)) Ai))))))))
def Ru:List D->Option D:=Cy 1 Am3
def Azr:FS:=(Ax (sIf (fOr (fE (Ah 0) (Str.ofString "=")) (fE (Ah 0) (Str.ofString "!="))) (Bf (f2 oEq (f2 oEq (Ah 2) (Ah 1)) (f2 oEq (Ah 0) (fC (.str (Str.ofString "=")))))) B6) (Ax (sIf (fE (fVI 0 0) (Str.ofString "<")) (Bf (Ae1 (fC2 Hx (Ah 2) (Ah 1)) (Jw (f2 oEq (Ah 0) (fC (.str (Str.ofString "<=")))) (f2 oEq (Ah 2) (Ah 1))))) B6) (Ax (sIf (fE (fVI 0 0) (Str.ofString ">")) (Bf (Ae1 (fC2 Hx (Ah 1) (Ah 2)) (Jw (f2 oEq (Ah 0) (fC (.str (Str.ofString ">=")))) (f2 oEq (Ah 2) (Ah 1))))) B6) (Ax (sIf (Jx (fC2 Hx (Ah 2) (Ah 1))) (Bf (fC (.bl false))) B6) (Ax (sIf (fE (Ah 0) (Str.ofString "^")) (Bf (fC2 Hx (Ah 2) (fC1 Ru (Ah 1)))) B6) (Bf (fC2 Hx (Ah 2) (B7 (Aa (fVI 1 0) (Aa (f2 Bx (fVI 1 1) (fC (.int 1))) (Aa (fC (.int 0)) (Aa (B7 (Aa (fC (.int 0)) Ai)) Ai))))))))))))
def Os:List D->Option D:=Cy 3 Azr
def Jg:FS:=(Bf (Ae1 (f1 M7 (fVI 0 3)) (fC3 Os (f2 oIx (Ck (Bp (Aa (fC (.str (Str.ofString "<="))) (Aa (fC (.str (Str.ofString "<"))) Ai)))) (Av Agu (Aa (f2 oEq (fVI 0 4) (fC (.str (Str.ofString ")")))) Ai))) (fVI 0 3) (Ah 1))))
def Am4:FS:=(Ax (sIf (fE (fVI 0 0) (Str.ofString "word")) (Bf (f2 oEq (fVI 0 1) (fC (.str (Str.ofString "*"))))) B6) (Ax (sIf (fE (fVI 0 0) (Str.ofString "sign")) (Bf (fC3 Os (fVI 0 1) (fVI 0 2) (Ah 1))) B6) (Ax (sIf (fE (fVI 0 0) (Str.ofString "numbers")) (Bf (f2 oEq (fSl (Ah 1) fNo (Dy (f2 Ae3 (Av Ek (Aa (Ah 0) Ai)) (fC (.int 1))))) (fSl (Ah 0) (Dy (fC (.int 1))) fNo))) B6) (Ax (sIf (Aex (A4 (f1 L6 (fVI 0 2))) (Ae0 (Jx (fC3 Os (f2 oIx (Ck (Bp (Aa (fC (.str (Str.ofString ">="))) (Aa (fC (.str (Str.ofString ">"))) Ai)))) (Av Agu (Aa (f2 oEq (fVI 0 1) (fC (.str (Str.ofString "(")))) Ai))) (fVI 0 2) (Ah 1))))) (Bf (fC (.bl false))) B6) Jg))))
def Rv:List D->Option D:=Cy 2 Am4
def Ana:FS:=(Ax (Ip 3 (Bp Ai)) (Ax (T6 (Ji (Aa (f2 Bx (fC (.int 1)) (fC3 Bw (Ah 0) (Ah 1) (fC (.int 3)))) Ai)) (A7 4) (Ax (Ip 5 (Bp Ai)) (Ax (T6 (Ji (Aa (f2 Bx (fC (.int 1)) (fC3 Bw (Ah 0) (f2 Bx (f2 Bx (Ah 1) (fC (.int 1))) (Ah 4)) (fC (.int 3)))) Ai)) (A7 6) (Pu Pt (Ah 5) (Aa (fC3 Rw (Ah 0) (f2 Bx (f2 Bx (f2 Bx (Ah 1) (fC (.int 10))) (f2 Xv (fC (.int 30)) (Ah 4))) (f2 Xv (fC (.int 10)) (Ah 6))) (Ah 2)) Ai))) (Pu Pt (Ah 3) (Aa (Ah 5) Ai))))) (Bf (Ah 3))))
def Nj:List D->Option D:=Cy 7 Ana
def Anb:FS:=(Bf (Av Auc (Aa (Ck (Bt [1] 1 (Hk (Ah 0)) (A7 1) Hc (Av Ae2 (Aa (Ck (Bt [0] 1 (Hk (Ah 1)) (A7 1) Hc (fC2 Rv (Ah 1) (Ah 0)))) Ai)))) Ai)))
def Nk:List D->Option D:=Cy 2 Anb
def Azn:FS:=(Ax (Ip 1 (Bp Ai)) (Ax (T6 (Hk (Ah 0)) (Aew 2 (Iw (A7 2) (Iw (A7 3) Al6))) (Ax (Bn 4 (fC (.str (Str.ofString "")))) (Ax (sIf (A4 (f1 L6 (Ah 3))) (Bn 4 (fC1 Ec (Ah 3))) B6) (Pu Pt (Ah 1) (Aa (f2 Bx (f2 Bx (f2 Bx (f2 Bx (fC (.str (Str.ofString "["))) (fC1 Ec (Ah 2))) (fC (.str (Str.ofString ",")))) (Ah 4)) (fC (.str (Str.ofString ")")))) Ai))))) (Ax (sIf (A4 (f2 oEq (Ah 1) (Ck (Bp Ai)))) (Bf (fC (.str (Str.ofString "none")))) B6) (Bf (fMt "str" Gd (fC (.str (Str.ofString " | "))) (Aa (Ah 1) Ai))))))
def Aaz:List D->Option D:=Cy 5 Azn
def Po:FS:=(Ax (Bn 6 (Ck (Aey (Ck (Aqz (Ah 0) fNo (Dy (fC (.int 63))))) (Ck (Bt [] 1 (Ji (Aa (fC (.int 10)) Ai)) (A7 0) Hc (f2 Xv (Ah 0) (fC (.int 48271)))))))) (Ax (T6 (Ji (Aa (Av Ek (Aa (Ah 6) Ai)) Ai)) (A7 7) (Ax (Bn 8 (fC3 Ni (Ah 6) (Ah 7) (f2 oIx (Ah 1) (fC3 Bw (Ah 6) (f2 Bx (Ah 7) (fC (.int 1))) (Av Ek (Aa (Ah 1) Ai)))))) (Ax (Bn 9 (Ck (Bt [8] 1 (Hk (Ah 2)) (A7 1) Hc (fC2 Nk (Ah 1) (Ah 0))))) (Ax (Bn 10 (Ck (Aey (Ah 9) (Ck (Bp (Aa (Jw (f2 oIx (Ah 9) (fC (.int 0))) (f2 oIx (Ah 9) (fC (.int 1)))) (Aa (Ae1 (f2 oIx (Ah 9) (fC (.int 0))) (f2 oIx (Ah 9) (fC (.int 1)))) (Aa (Jw (f2 oIx (Ah 9) (fC (.int 0))) (U2 (f2 oIx (Ah 9) (fC (.int 1))))) Ai)))))))) (sIf (A4 (f2 oNe (Ck (Bt [8] 1 (Hk (Ah 3)) (A7 1) Hc (fC2 Ls (Ah 0) (Ah 1)))) (Ah 10))) (Bf (fC (.bl false))) B6))))) (Bf (fC (.bl true)))))
def Vu:FS:=(Ax (Bn 5 (Ck (Bt [] 1 (Hk (Ah 3)) (A7 0) Hc (fC1 Jl (fC1 Aaz (Ah 0)))))) (Ax (sIf (fOr (Ae0 (Jx (Av Ae2 (Aa (Ck (Bt [] 1 (Hk (Ah 3)) (A7 0) Hc (f2 oIs (fC1 Rq (Ah 0)) (fC (.bl true))))) Ai)))) (A4 (f2 oNe (Ah 5) (Ah 3)))) (Bf (fC (.bl false))) B6) Po))
def Ame:FS:=(Ax (Bn 1 (Ck (fF3 Rt (Ah 0) (fC (.int 10)) (f2 Bx (fC (.int 1)) (fC3 Bw (Ah 0) (fC (.int 0)) (fC (.int 5))))))) (Ax (Bn 2 (Ck (Bp (Aa (fC3 Nj (Ah 0) (fC (.int 200)) (Ah 1)) (Aa (fC3 Nj (Ah 0) (fC (.int 320)) (Ah 1)) Ai))))) (Ax (Ip 3 (Bp Ai)) (Ax (T6 (Hk (Ah 2)) (A7 4) (Pu Pt (Ah 3) (Aa (fC1 Jl (fMt "str" Gd (fC (.str (Str.ofString " | "))) (Aa (Ck (Bt [] 1 (Hk (Ah 4)) (A7 0) Hc (fMt "str" Gd (fC (.str (Str.ofString " "))) (Aa (Ck (Bt [] 1 (Hk (Ah 0)) (A7 0) Hc (fC1 Rj (Ah 0)))) Ai)))) Ai))) Ai))) (Ax (Ip 3 (Aey (Ah 3) (Ck (Bp (Aa (fC2 Hu (fVI 3 0) (fVI 3 1)) (Aa (fC2 Hw (fVI 3 0) (fVI 3 1)) (Aa (fC2 Nl (fVI 3 0) (fVI 3 1)) Ai))))))) Vu)))))
def Ng:List D->Option D:=Cy 11 Ame
theorem sc_law:FnScope ["_law_script","_law_makes_here","_law_rows_here","_law_spans","_law_some","_law_again","_law_cells","_law_k","_law_make_here","_law_said_here","_law_due"] ["_law_script"] (As Ud):=⟨rfl,rfl,rfl,by decide +kernel,rfl,by decide +kernel,by decide +kernel⟩
theorem Ap5:FnScope ["first","second"] ["first","second"] lam_met.scope:=⟨rfl,rfl,rfl,by decide +kernel,rfl,by decide +kernel,by decide +kernel⟩
theorem Ap6:FnScope ["first","second"] ["first","second"] lam_z32.scope:=⟨rfl,rfl,rfl,by decide +kernel,rfl,by decide +kernel,by decide +kernel⟩
theorem Ap7:FnScope ["first","second"] ["first","second"] lam_z46.scope:=⟨rfl,rfl,rfl,by decide +kernel,rfl,by decide +kernel,by decide +kernel⟩
abbrev tabs (p_met p_z32 p_z46:Addr):List (Addr×Str):=[(p_met,lam_met.qual),(p_z32,lam_z32.qual),(p_z46,lam_z46.qual)]
theorem Ant {p_met p_z32 p_z46:Addr}:(p_met,lam_met.qual)∈tabs p_met p_z32 p_z46:=by simp
theorem Anu {p_met p_z32 p_z46:Addr}:(p_z32,lam_z32.qual)∈tabs p_met p_z32 p_z46:=by simp
theorem Anv {p_met p_z32 p_z46:Addr}:(p_z46,lam_z46.qual)∈tabs p_met p_z32 p_z46:=by simp
structure Blt (mg:Str->Option Value):Prop where
 b_all:mg "all"=none
 b_any:mg "any"=none
 b_enumerate:mg "enumerate"=none
 b_int:mg "int"=none
 b_isinstance:mg "isinstance"=none
 b_len:mg "len"=none
 b_max:mg "max"=none
 b_min:mg "min"=none
 b_range:mg "range"=none
 b_sorted:mg "sorted"=none
 b_str:mg "str"=none
 b_tuple:mg "tuple"=none
structure Txt (K:W.Frag) (mg:Str->Option Value) (p_met p_z32 p_z46:Addr):Prop where
 c_LETTERS:GC K mg "LETTERS" (.str (Str.ofString "abcdefghijklmnopqrstuvwxyz"))
 c_FIGURES:GC K mg "FIGURES" (.str (Str.ofString "0123456789"))
 c_MOST_LETTERS:GC K mg "MOST_LETTERS" (.int 8)
 c_MOST_FIGURES:GC K mg "MOST_FIGURES" (.int 15)
 c_MOST_MARKS:GC K mg "MOST_MARKS" (.int 12)
 c_MOST_NOTES:GC K mg "MOST_NOTES" (.int 4)
 c_OLDEST:GC K mg "OLDEST" (.tup [(.int 0),(.int 0),(.int 0),(.tup [(.int 0)])])
 c_ALL:GC K mg "ALL" (.tup [(.tup [(.tup [(.int 0),(.int 0),(.int 0),(.tup [(.int 0)])]),.non])])
 c_SIGNS:GC K mg "SIGNS" (.tup [(.str (Str.ofString "!=")),(.str (Str.ofString "<=")),(.str (Str.ofString ">=")),(.str (Str.ofString "=")),(.str (Str.ofString "<")),(.str (Str.ofString ">")),(.str (Str.ofString "^")),(.str (Str.ofString "~"))])
 h_z28:FD K mg "is_name" Ako ["text"]
 h_z16:FD K mg "number_of" Akc ["text"]
 h_z17:FD K mg "mark_rank" Akd ["mark"]
 h_z45:FD K mg "rank" Ak4 ["make"]
 h_z24:FD K mg "is_older" Akk ["one","other"]
 h_z18:FD K mg "next_make" Ake ["make"]
 h_z3:FD K mg "read_numbers" Awz ["text"]
 h_z19:FD K mg "read_mark" Akf ["text"]
 h_z10:FD K mg "read_marks" Aj6 ["text"]
 h_z11:FD K mg "read_notes" Aj7 ["text"]
 h_z20:FD K mg "read_make" Akg ["text"]
 h_z0:FD K mg "read_bare_make" Aww ["text"]
 h_z25:FD K mg "edges_of" Akl ["span"]
 h_z29:FD K mg "is_span" Akp ["thing"]
 h_z30:FD K mg "lies_in" Akq ["make","span"]
 h_z12:FD K mg "piece_span" Aj8 ["low","high"]
 h_z31:FD K mg "span_of" Akr ["edges"]
 h_z26:FD K mg "turns_of" Akm ["one","other"]
 h_z27:FD K mg "combined" Akn ["one","other","keep"]
 h_met:FDL K mg "met" Mp ["one","other"] p_met
 h_z32:FDL K mg "joined" Mq ["one","other"] p_z32
 h_z46:FDL K mg "less" N6 ["one","other"] p_z46
 h_z13:FD K mg "middle_end" Aj9 ["make"]
 h_z21:FD K mg "great_end" Akh ["make"]
 h_z6:FD K mg "signed_span" Aw2 ["sign","make"]
 h_z7:FD K mg "read_signed" Aw3 ["word"]
 h_z2:FD K mg "read_numbered" Awy ["word"]
 h_z4:FD K mg "bracket_edge" Aw0 ["text","beside","unbound"]
 h_z1:FD K mg "read_bracketed" Awx ["word"]
 h_z22:FD K mg "read_term" Aki ["word"]
 h_z33:FD K mg "folded" Aks ["spans","combine"]
 h_z23:FD K mg "read_span" Akj ["text"]
 h_z38:FD K mg "_law_draw" Akx ["_law_script","_law_k","_law_many"]
 h_z39:FD K mg "_law_mark" Aky ["_law_script","_law_k"]
 h_z40:FD K mg "_law_make" Akz ["_law_script","_law_k"]
 h_z41:FD K mg "_law_near" Ak0 ["_law_script","_law_k","_law_make_here"]
 h_z8:FD K mg "_law_mark_older" Aw4 ["_law_one","_law_other"]
 h_z34:FD K mg "_law_older" Akt ["_law_one","_law_other"]
 h_z35:FD K mg "_law_makes" Aku ["_law_script","_law_base","_law_many"]
 h_z14:FD K mg "_law_make_text" Aka ["_law_make_here"]
 h_z42:FD K mg "_law_term" Ak1 ["_law_script","_law_k","_law_makes_here"]
 h_z15:FD K mg "_law_term_text" Akb ["_law_term_here"]
 h_z36:FD K mg "_law_great" Akv ["_law_make_here"]
 h_z9:FD K mg "_law_sign_holds" Aw5 ["_law_sign","_law_make_here","_law_found"]
 h_z37:FD K mg "_law_holds" Akw ["_law_term_here","_law_found"]
 h_z43:FD K mg "_law_rows" Ak2 ["_law_script","_law_k","_law_makes_here"]
 h_z44:FD K mg "_law_said" Ak3 ["_law_rows_here","_law_make_here"]
 h_z5:FD K mg "_law_by_brackets" Aw1 ["_law_span"]
 d_met:GC K mg "met" (.fn 1000 Ht)
 d_z32:GC K mg "joined" (.fn 1001 Nf)
theorem An7 {P:Program}{w:World}{K:W.Frag}{mg:Str->Option Value}{base:Heap}:Pv P w K mg base 1 2 lam_met Lj :=
 Vl Ap5 rfl rfl (fun doc pm ctv c us hl=>match us,hl with|[_,_],_=>rfl) fun c a A outer s H hr=>(Tu (Ag 0) (Ih (Ag 1)))
theorem An8 {P:Program}{w:World}{K:W.Frag}{mg:Str->Option Value}{base:Heap}:Pv P w K mg base 1 2 lam_z32 Ll :=
 Vl Ap6 rfl rfl (fun doc pm ctv c us hl=>match us,hl with|[_,_],_=>rfl) fun c a A outer s H hr=>(Aq5 (Ag 0) (Ih (Ag 1)))
theorem An9 {P:Program}{w:World}{K:W.Frag}{mg:Str->Option Value}{base:Heap}:Pv P w K mg base 1 2 lam_z46 Ln :=
 Vl Ap7 rfl rfl (fun doc pm ctv c us hl=>match us,hl with|[_,_],_=>rfl) fun c a A outer s H hr=>(Tu (Ag 0) (Ih (Apv (Ag 1))))
theorem Bdb {P:Program}{w:World}{K:W.Frag}{mg:Str->Option Value}{base:Heap}:∀ p∈Xm,Pv P w K mg base 1 2 p.1 p.2:=by
 intro p hp
 unfold Xm at hp
 simp only[Bex,Bes,or_false] at hp
 rcases hp with rfl|rfl|rfl
 ·exact An7
 ·exact An8
 ·exact An9
section
variable {P:Program}{w:World}{K:W.Frag}{mg:Str->Option Value}{base:Heap}{p_met p_z32 p_z46:Addr} (T:Txt K mg p_met p_z32 p_z46) (B:Blt mg) (hB:Mz mg base)
include T B
theorem Ajp:Cl P w K mg base 1 "is_name" 1 Nh :=
 Bu ["text"] T.h_z28 Amw Nh fun _ _ _ _ _ _ _ hr nd=>(Aj (Al (Tu (Apo Agx Agx Ad (Bq B.b_len (Ae (Ag 0) Ac)) (Vk T.c_MOST_LETTERS)) (Ih (N3 rfl B.b_all (Ae (Dg (B0 [] ["sign"] rfl (C4 (Ag 0)) (Bv 0) (fun _ _ _ _ _ _=>(C9 (show (["sign"]:List Str).Nodup by decide))) (fun _ _ _ _ _ _=>B5) (fun _ _ _ _ _ _=>(B4 (To hr) (Ag 0) (Vk T.c_LETTERS))))) Ac))))))
theorem Acg:Cl P w K mg base 1 "number_of" 1 Lq :=
 Bu ["text"] T.h_z16 Aml Lq fun _ _ _ _ _ _ _ hr nd=>(Ab (A1 (N2 (Ahq Agx Agx Ad (Bq B.b_len (Ae (Ag 0) Ac)) (Vk T.c_MOST_FIGURES))) (Aj (Al Dh)) Ap) (Ab (A1 (N2 (Cq (N3 rfl B.b_all (Ae (Dg (B0 [] ["sign"] rfl (C4 (Ag 0)) (Bv 0) (fun _ _ _ _ _ _=>(C9 (show (["sign"]:List Str).Nodup by decide))) (fun _ _ _ _ _ _=>B5) (fun _ _ _ _ _ _=>(B4 (To hr) (Ag 0) (Vk T.c_FIGURES))))) Ac)))) (Aj (Al Dh)) Ap) (Ab (A1 (Cg (Tx (Ar (Br hr) (Am (Ag 0) Ad) Bs) (Mi (Ar (Je hr) (Ag 0) Bs)))) (Aj (Al Dh)) Ap) (Aj (Al (Adj B.b_int (Ae (Ag 0) Ac)))))))
theorem Auk:Cl P w K mg base 1 "mark_rank" 1 Rk :=
 Bu ["mark"] T.h_z17 Amm Rk fun _ _ _ _ _ _ _ hr nd=>(Ab (A1 (Cq (X6 (Ag 0) B.b_isinstance B.b_str (by decide +kernel))) (Aj (Al (A5 (Ae Ad (Ae Ad (Ae (Ag 0) Ac)))))) Ap) (Aj (Al (A5 (Ae Ad (Ae (Ag 0) (Ae Bs Ac)))))))
theorem Acl:Cl P w K mg base 2 "rank" 1 Jo :=
 Bu ["make","marks","without_marks"] T.h_z45 Anc Jo fun _ _ _ _ _ _ _ hr nd=>(Ab (Aw nd (Am (Ag 0) Ad)) (Ab (Aw nd (Aq4 (Cq (Ag 1)) Ad Ad)) (Aj (Al (A5 (Ae (Am (Ag 0) Ad) (Ae (Am (Ag 0) Ad) (Ae (Am (Ag 0) Ad) (Ae (Ag 2) (Ae (Em B.b_tuple (Ae (Dg (B0 [] ["mark"] rfl (C4 (Ag 1)) (Bv 0) (fun _ _ _ _ _ _=>(C9 (show (["mark"]:List Str).Nodup by decide))) (fun _ _ _ _ _ _=>B5) (fun _ _ _ _ _ _=>(q_c (Auk T B) hr (Ae (Ag 0) Ac))))) Ac)) Ac))))))))))
theorem Xw:Cl P w K mg base 3 "is_older" 2 Jm :=
 Bu ["one","other"] T.h_z24 Ams Jm fun _ _ _ _ _ _ _ hr nd=>(Aj (Al (B4 (Au0 hr) (q_c (Acl T B) hr (Ae (Ag 0) Ac)) (q_c (Acl T B) hr (Ae (Ag 1) Ac)))))
theorem Tj:Cl P w K mg base 1 "next_make" 1 Hv :=
 Bu ["make","marks"] T.h_z18 Amn Hv fun _ _ _ _ _ _ _ hr nd=>(Ab (Aw nd (Am (Ag 0) Ad)) (Ab (A1 (Cq (Ag 1)) (Aj (Al (A5 (Ae (Am (Ag 0) Ad) (Ae (Am (Ag 0) Ad) (Ae (Am (Ag 0) Ad) (Ae (Ao An (Ag 1) (A5 (Ae Ad Ac))) Ac))))))) Ap) (Aj (Al (A5 (Ae (Am (Ag 0) Ad) (Ae (Am (Ag 0) Ad) (Ae (Ao An (Am (Ag 0) Ad) Ad) (Ae (A5 (Ae Ad Ac)) Ac)))))))))
theorem Az2:Cl P w K mg base 2 "read_numbers" 1 Aay :=
 Bu ["text","numbers"] T.h_z3 Azl Aay fun _ _ _ _ _ _ _ hr nd=>(Ab (Ld [] ["word"] nd rfl (C4 (Dg (Nm (Ag 0) (Ae Bs Ac)))) (Bv 0) (fun _ _ _ _ _ _=>(C9 (show (["word"]:List Str).Nodup by decide))) (fun _ _ _ _ _ _=>B5) (fun _ _ _ _ _ _=>(q_c (Acg T B) hr (Ae (Ag 0) Ac)))) (Ab (A1 (Cg (Jy (Ar (Je hr) (Bq B.b_len (Ae (Ag 1) Ac)) Ad) (Gk (Ar (To hr) Dh (Ag 1))))) (Aj (Al Dh)) Ap) (Aj (Al (Em B.b_tuple (Ae (Ag 1) Ac))))))
theorem Aul:Cl P w K mg base 2 "read_mark" 1 Rl :=
 Bu ["text"] T.h_z19 Amo Rl fun _ _ _ _ _ _ _ hr nd=>(Aj (Al (Aq4 (Cq (q_c (Ajp T B) hr (Ae (Ag 0) Ac))) (Ag 0) (q_c (Acg T B) hr (Ae (Ag 0) Ac)))))
theorem Auh:Cl P w K mg base 3 "read_marks" 1 Rh :=
 Bu ["text","marks"] T.h_z10 Amf Rh fun _ _ _ _ _ _ _ hr nd=>(Ab (Ld [] ["word"] nd rfl (C4 (Dg (Nm (Ag 0) (Ae Bs Ac)))) (Bv 0) (fun _ _ _ _ _ _=>(C9 (show (["word"]:List Str).Nodup by decide))) (fun _ _ _ _ _ _=>B5) (fun _ _ _ _ _ _=>(q_c (Aul T B) hr (Ae (Ag 0) Ac)))) (Ab (A1 (Cg (Jy (Ar Jd (Bq B.b_len (Ae (Ag 1) Ac)) (Vk T.c_MOST_MARKS)) (Gk (Ar (To hr) Dh (Ag 1))))) (Aj (Al Dh)) Ap) (Aj (Al (Em B.b_tuple (Ae (Ag 1) Ac))))))
theorem Aui:Cl P w K mg base 2 "read_notes" 1 Ri :=
 Bu ["text","notes"] T.h_z11 Amg Ri fun _ _ _ _ _ _ _ hr nd=>(Ab (Aw nd (Dg (Nm (Ag 0) (Ae Bs Ac)))) (Ab (A1 (Cg (Jy (Ar Jd (Bq B.b_len (Ae (Ag 1) Ac)) (Vk T.c_MOST_NOTES)) (Gk (N2 (Cq (N3 rfl B.b_all (Ae (Dg (B0 [] ["note"] rfl (C4 (Ag 1)) (Bv 0) (fun _ _ _ _ _ _=>(C9 (show (["note"]:List Str).Nodup by decide))) (fun _ _ _ _ _ _=>B5) (fun _ _ _ _ _ _=>(q_c (Ajp T B) hr (Ae (Ag 0) Ac))))) Ac))))))) (Aj (Al Dh)) Ap) (Aj (Al (Em B.b_tuple (Ae (Ag 1) Ac))))))
theorem Aum:Cl P w K mg base 4 "read_make" 1 Rn :=
 Bu ["text","halves","ahead","numbers","marks","notes"] T.h_z20 Amp Rn fun _ _ _ _ _ _ _ hr nd=>(Ab (Aw nd (Js (Ag 0) (Ae Bs Ac))) (Ab (Aw nd (Js (Am (Ag 1) Ad) (Ae Bs Ac))) (Ab (Aw nd (q_c (Az2 T B) hr (Ae (Am (Ag 2) Ad) Ac))) (Ab (Aw nd (Aq4 (Cq (Am (Ag 2) Ad)) (q_c (Auh T B) hr (Ae (Am (Ag 2) Ad) Ac)) (A5 Ac))) (Ab (Aw nd (Aq4 (Cq (Am (Ag 1) Ad)) (q_c (Aui T B) hr (Ae (Am (Ag 1) Ad) Ac)) (A5 Ac))) (Ab (A1 (Cg (Jy (Mg (Ag 3)) (Jy (Mg (Ag 4)) (Gk (Mg (Ag 5)))))) (Aj (Al Dh)) Ap) (Aj (Al (A5 (Ae (Ao An (Ag 3) (A5 (Ae (Ag 4) Ac))) (Ae (Ag 5) Ac)))))))))))
theorem Aoa:Cl P w K mg base 5 "read_bare_make" 1 Lo :=
 Bu ["text","found"] T.h_z0 Azj Lo fun _ _ _ _ _ _ _ hr nd=>(Ab (Aw nd (q_c (Aum T B) hr (Ae (Ag 0) Ac))) (Ab (A1 (Cg (Jy (Mg (Ag 1)) (Gk (Cq (Am (Ag 1) Ad))))) (Aj (Al Dh)) Ap) (Aj (Al (Am (Ag 1) Ad)))))
theorem Ach:Cl P w K mg base 1 "edges_of" 1 Lr :=
 Bu ["span","edges","low","high"] T.h_z25 Amt Lr fun _ _ _ _ _ _ _ hr nd=>(Ab (Eg nd (Da Ac)) (Ab (D3 Be7 rfl (C4 (Ag 0)) (X8 rfl (D9 (M8 nd) (D9 (M8 nd) X7))) (Ab (D2 (Ag 1) (Ae (Ag 2) Ac)) (Aj (A1 (Mh (Ag 3)) (Aj (D2 (Ag 1) (Ae (Ag 3) Ac))) Ap)))) (Aj (Al (Ag 1)))))
theorem Auq:Cl P w K mg base 4 "is_span" 1 Rq :=
 Bu ["thing","edges"] T.h_z29 Amx Rq fun _ _ _ _ _ _ _ hr nd=>(Ab (A1 (Ar (To hr) Dh (Dg (B0 [] ["piece"] rfl (C4 (X9 (Ag 0) Cn (Cb (Zp Ad)))) (Bv 0) (fun _ _ _ _ _ _=>(C9 (show (["piece"]:List Str).Nodup by decide))) (fun _ _ _ _ _ _=>B5) (fun _ _ _ _ _ _=>(Am (Ag 0) Ad))))) (Aj (Al X5)) Ap) (Ab (Pe nd (Dg (Axq (Ach T B) hr (Ae (Ag 0) Ac)))) (Aj (Al (N3 rfl B.b_all (Ae (Dg (B0 [1] ["edges","k"] rfl (M9 B.b_range (Ae (Ao Ma (Bq B.b_len (Ae (Cz 1) Ac)) Ad) Ac)) (Bv 1) (fun _ _ _ _ _ _=>(C9 (show (["edges","k"]:List Str).Nodup by decide))) (fun _ _ _ _ _ _=>B5) (fun _ _ _ _ _ _=>(q_c (Xw T B) hr (Ae (Am (Cz 0) (Ag 1)) (Ae (Am (Cz 0) (Ao An (Ag 1) Ad)) Ac)))))) Ac))))))
theorem Aur:Cl P w K mg base 4 "lies_in" 2 Ls :=
 Bu ["make","span","first","behind","middle","high"] T.h_z30 Amy Ls fun _ _ _ _ _ _ _ hr nd=>(Ab (Aw nd Ad) (Ab (Aw nd (Bq B.b_len (Ae (Ag 1) Ac))) (Ab (Ya _ Be7 (Ar (Tp) (Ag 2) (Ag 3)) (Ab (Aw nd (Ao Aco (Ao An (Ag 2) (Ag 3)) Ad)) (Aj (A1 (Cq (q_c (Xw T B) hr (Ae (Ag 0) (Ae (Am (Am (Ag 1) (Ag 4)) Ad) Ac)))) (Aj (Aw nd (Ag 4))) (Aj (Aw nd (Ao An (Ag 4) Ad))))))) (Ab (A1 (Ar (Br hr) (Ag 2) Ad) (Aj (Al X5)) Ap) (Ab (Aw nd (Am (Am (Ag 1) (Ao Ma (Ag 2) Ad)) Ad)) (Aj (Al (Aq5 (Awf (Ag 5)) (Ih (q_c (Xw T B) hr (Ae (Ag 0) (Ae (Ag 5) Ac))))))))))))
theorem Ge:Cl P w K mg base 4 "piece_span" 2 Dv :=
 Bu ["low","high"] T.h_z12 Amh Dv fun _ _ _ _ _ _ _ hr nd=>(Ab (A1 (Cg (Jy (Mg (Ag 1)) (Gk (Cq (q_c (Xw T B) hr (Ae (Ag 0) (Ae (Ag 1) Ac))))))) (Aj (Al (A5 (Ae (A5 (Ae (Ag 0) (Ae (Ag 1) Ac))) Ac)))) Ap) (Aj (Al (A5 Ac))))
theorem Aus:Cl P w K mg base 1 "span_of" 1 Rr :=
 Bu ["edges","ends"] T.h_z31 Amz Rr fun _ _ _ _ _ _ _ hr nd=>(Ab (Pe nd (Dg (Zn (Cz 0) (Dg (Da (Ae Dh Ac)))))) (Aj (Al (Em B.b_tuple (Ae (Dg (B0 [0,1] ["edges","ends","k"] rfl (Awj B.b_range (Ae Ad (Ae (Bq B.b_len (Ae (Cz 0) Ac)) (Ae Ad Ac)))) (Bv 2) (fun _ _ _ _ _ _=>(C9 (show (["edges","ends","k"]:List Str).Nodup by decide))) (fun _ _ _ _ _ _=>B5) (fun _ _ _ _ _ _=>(A5 (Ae (Am (Cz 0) (Ag 2)) (Ae (Am (Cz 1) (Ao An (Ag 2) Ad)) Ac)))))) Ac)))))
theorem Aup:Cl P w K mg base 2 "turns_of" 2 Rp :=
 Bu ["one","other","turns","edge"] T.h_z26 Amu Rp fun _ _ _ _ _ _ _ hr nd=>(Ab (Apw nd) (Ab (D3 Be7 rfl (C4 (Dg (Axq (Ach T B) hr (Ae (Ag 0) Ac)))) (M8 nd) (Aj (Adm hr (A5 (Ae X5 (Ae X5 Ac))) (Ag 2) (Ag 3)))) (Ab (D3 Be7 rfl (C4 (Dg (Axq (Ach T B) hr (Ae (Ag 1) Ac)))) (M8 nd) (Aj (Adm hr (A5 (Ae (B4 (Auz hr) (Ag 3) (Ag 2)) (Ae X5 Ac))) (Ag 2) (Ag 3)))) (Aj (Al (Ag 2))))))
theorem Aci:Cl P w K mg base 5 "combined" 3 Jn :=
 Bu ["one","other","keep","turns","in_one","in_other","kept","edges","edge"] T.h_z27 Amv Jn fun _ _ _ _ _ _ _ hr nd=>(Ab (Aw nd (q_c (Aup T B) hr (Ae (Ag 0) (Ae (Ag 1) Ac)))) (Ab (Aw nd X5) (Ab (Aw nd X5) (Ab (Aw nd X5) (Ab (Eg nd (Da Ac)) (Ab (D3 Be7 rfl (C4 (Dg (Bas (Acl T B) hr B.b_sorted (Ae (Ag 3) Ac)))) (M8 nd) (Ab (Aw nd (B4 (Je hr) (Ag 4) (Am (Aj1 hr (Ag 3) (Ag 8)) Ad))) (Ab (Aw nd (B4 (Je hr) (Ag 5) (Am (Aj1 hr (Ag 3) (Ag 8)) Ad))) (Aj (A1 (Ar (Je hr) (Apn Bdb (hr.mono (by decide)) (Ae (Ag 4) (Ae (Ag 5) Ac))) (Ag 6)) (Ab (Aw nd (Apv (Ag 6))) (Aj (D2 (Ag 7) (Ae (Ag 8) Ac)))) Ap))))) (Aj (Al (q_c (Aus T B) hr (Ae (Ag 7) Ac))))))))))
include hB in
theorem Ajn:ClT P w K mg base (tabs p_met p_z32 p_z46) 6 "met" 2 Hu :=
 Adl ["one","other"] T.h_met Y3 Hu fun _ _ _ _ _ _ _ _ hT hr nd tc th=>(Aj (Al (Bar (Aci T B) hr (Ae (Ag 0) (Ae (Ag 1) (Ae (Apu 0 hB (hT _ Ant) tc th) Ac))))))
include hB in
theorem Ajq:ClT P w K mg base (tabs p_met p_z32 p_z46) 6 "joined" 2 Hw :=
 Adl ["one","other"] T.h_z32 Y5 Hw fun _ _ _ _ _ _ _ _ hT hr nd tc th=>(Aj (Al (Bar (Aci T B) hr (Ae (Ag 0) (Ae (Ag 1) (Ae (Apu 1 hB (hT _ Anu) tc th) Ac))))))
include hB in
theorem Aju:ClT P w K mg base (tabs p_met p_z32 p_z46) 6 "less" 2 Nl :=
 Adl ["one","other"] T.h_z46 Y6 Nl fun _ _ _ _ _ _ _ _ hT hr nd tc th=>(Aj (Al (Bar (Aci T B) hr (Ae (Ag 0) (Ae (Ag 1) (Ae (Apu 2 hB (hT _ Anv) tc th) Ac))))))
theorem Acf:Cl P w K mg base 1 "middle_end" 1 Lp :=
 Bu ["make"] T.h_z13 Ami Lp fun _ _ _ _ _ _ _ hr nd=>(Aj (Al (A5 (Ae (Am (Ag 0) Ad) (Ae (Ao An (Am (Ag 0) Ad) Ad) (Ae Ad (Ae (A5 (Ae Ad Ac)) Ac)))))))
theorem Aun:Cl P w K mg base 2 "great_end" 1 Ro :=
 Bu ["make"] T.h_z21 Amq Ro fun _ _ _ _ _ _ _ hr nd=>(Ab (A1 (Ar Jd (Am (Ag 0) Ad) Ad) (Aj (Al (A5 (Ae (Ao An (Am (Ag 0) Ad) Ad) (Ae Ad (Ae Ad (Ae (A5 (Ae Ad Ac)) Ac))))))) Ap) (Ab (A1 (Ar Jd (Am (Ag 0) Ad) Ad) (Aj (Al (q_c (Acf T B) hr (Ae (Ag 0) Ac)))) Ap) (Aj (Al (A5 (Ae Ad (Ae Ad (Ae (Ao An (Am (Ag 0) Ad) Ad) (Ae (A5 (Ae Ad Ac)) Ac)))))))))
include hB in
theorem Az4:ClT P w K mg base (tabs p_met p_z32 p_z46) 7 "signed_span" 2 Oq :=
 Tw ["sign","make"] T.h_z6 Azo Oq fun _ _ _ _ _ _ _ hT hr nd=>(Ab (A1 (Ar (Br hr) (Ag 0) Bs) (Aj (Al (q_c (Ge T B) hr (Ae (Ag 1) (Ae (q_c (Tj T B) hr (Ae (Ag 1) Ac)) Ac))))) Ap) (Ab (A1 (Ar (Br hr) (Ag 0) Bs) (Aj (Al (Ahr hT (Aju T B hB) hr (Ae (Vk T.c_ALL) (Ae (q_c (Ge T B) hr (Ae (Ag 1) (Ae (q_c (Tj T B) hr (Ae (Ag 1) Ac)) Ac))) Ac))))) Ap) (Ab (A1 (Ar (Br hr) (Ag 0) Bs) (Aj (Al (q_c (Ge T B) hr (Ae (Vk T.c_OLDEST) (Ae (Ag 1) Ac))))) Ap) (Ab (A1 (Ar (Br hr) (Ag 0) Bs) (Aj (Al (q_c (Ge T B) hr (Ae (Vk T.c_OLDEST) (Ae (q_c (Tj T B) hr (Ae (Ag 1) Ac)) Ac))))) Ap) (Ab (A1 (Ar (Br hr) (Ag 0) Bs) (Aj (Al (q_c (Ge T B) hr (Ae (q_c (Tj T B) hr (Ae (Ag 1) Ac)) (Ae Dh Ac))))) Ap) (Ab (A1 (Ar (Br hr) (Ag 0) Bs) (Aj (Al (q_c (Ge T B) hr (Ae (Ag 1) (Ae Dh Ac))))) Ap) (Ab (A1 (Ar (Br hr) (Ag 0) Bs) (Aj (Al (q_c (Ge T B) hr (Ae (Ag 1) (Ae (q_c (Aun T B) hr (Ae (Ag 1) Ac)) Ac))))) Ap) (Aj (Al (q_c (Ge T B) hr (Ae (Ag 1) (Ae (q_c (Acf T B) hr (Ae (Ag 1) Ac)) Ac))))))))))))
include hB in
theorem Az5:ClT P w K mg base (tabs p_met p_z32 p_z46) 8 "read_signed" 1 Y1 :=
 Tw ["word","sign","make"] T.h_z7 Azp Y1 fun _ _ _ _ _ _ _ hT hr nd=>(Ab (D3 Be7 rfl (C4 (Vk T.c_SIGNS)) (M8 nd) (Aj (A1 (Cq (Pd (Ag 0) (Ae (Ag 1) Ac))) (Ab (Aw nd (q_c (Aoa T B) hr (Ae (X9 (Ag 0) (Cb (Bq B.b_len (Ae (Ag 1) Ac))) Cn) Ac))) (Aj (Al (Aq4 (Mg (Ag 2)) Dh (Ahr hT (Az4 T B hB) hr (Ae (Ag 1) (Ae (Ag 2) Ac))))))) Ap))) (Aj (Al Dh)))
theorem Az1:Cl P w K mg base 5 "read_numbered" 1 Rm :=
 Bu ["word","numbers","low"] T.h_z2 Axl Rm fun _ _ _ _ _ _ _ hr nd=>(Ab (Ld [] ["part"] nd rfl (C4 (Dg (Nm (Ag 0) (Ae Bs Ac)))) (Bv 0) (fun _ _ _ _ _ _=>(C9 (show (["part"]:List Str).Nodup by decide))) (fun _ _ _ _ _ _=>B5) (fun _ _ _ _ _ _=>(q_c (Acg T B) hr (Ae (Ag 0) Ac)))) (Ab (A1 (Cg (Jy (Ar Jd (Bq B.b_len (Ae (Ag 1) Ac)) Ad) (Gk (Ar (To hr) Dh (Ag 1))))) (Aj (Al Dh)) Ap) (Ab (A1 (Ar (Br hr) (Bq B.b_len (Ae (Ag 1) Ac)) Ad) (Aj (Al (q_c (Ge T B) hr (Ae (A5 (Ae (Am (Ag 1) Ad) (Ae Ad (Ae Ad (Ae (A5 (Ae Ad Ac)) Ac))))) (Ae (A5 (Ae (Ao An (Am (Ag 1) Ad) Ad) (Ae Ad (Ae Ad (Ae (A5 (Ae Ad Ac)) Ac))))) Ac))))) Ap) (Ab (Aw nd (A5 (Ae (Am (Ag 1) Ad) (Ae (Am (Ag 1) Ad) (Ae Ad (Ae (A5 (Ae Ad Ac)) Ac)))))) (Aj (Al (q_c (Ge T B) hr (Ae (Ag 2) (Ae (q_c (Acf T B) hr (Ae (Ag 2) Ac)) Ac)))))))))
theorem Auw:Cl P w K mg base 6 "bracket_edge" 3 Yz :=
 Bu ["text","beside","unbound","make"] T.h_z4 Azm Yz fun _ _ _ _ _ _ _ hr nd=>(Ab (A1 (Ar (Br hr) (Ag 0) Bs) (Aj (Al (Ag 2))) Ap) (Ab (Aw nd (q_c (Aoa T B) hr (Ae (Ag 0) Ac))) (Aj (Al (Aq4 (Cq (Ag 1)) (q_c (Tj T B) hr (Ae (Ag 3) Ac)) (Ag 3))))))
theorem Az0:Cl P w K mg base 7 "read_bracketed" 1 Yy :=
 Bu ["word","sides","low","high"] T.h_z1 Azk Yy fun _ _ _ _ _ _ _ hr nd=>(Ab (A1 (Ar (Agy hr) (X9 (Ag 0) (Cb (Zp Ad)) Cn) (A5 (Ae Bs (Ae Bs Ac)))) (Aj (Al Dh)) Ap) (Ab (Aw nd (Dg (Nm (X9 (Ag 0) (Cb Ad) (Cb (Zp Ad))) (Ae Bs Ac)))) (Ab (A1 (Cg (Jy (Ar (Je hr) (Bq B.b_len (Ae (Ag 1) Ac)) Ad) (Gk (Ar (To hr) Dh (Dg (B0 [] ["side"] rfl (C4 (Ag 1)) (Bv 0) (fun _ _ _ _ _ _=>(C9 (show (["side"]:List Str).Nodup by decide))) (fun _ _ _ _ _ _=>(Awi (Cq (Ag 0)))) (fun _ _ _ _ _ _=>(q_c (Aoa T B) hr (Ae (Ag 0) Ac))))))))) (Aj (Al Dh)) Ap) (Ab (Aw nd (q_c (Auw T B) hr (Ae (Am (Ag 1) Ad) (Ae (B4 (Br hr) (Am (Ag 0) Ad) Bs) (Ae (Vk T.c_OLDEST) Ac))))) (Ab (Aw nd (q_c (Auw T B) hr (Ae (Am (Ag 1) Ad) (Ae (B4 (Br hr) (Am (Ag 0) (Zp Ad)) Bs) (Ae Dh Ac))))) (Aj (Al (q_c (Ge T B) hr (Ae (Ag 2) (Ae (Ag 3) Ac))))))))))
include hB in
theorem Auo:ClT P w K mg base (tabs p_met p_z32 p_z46) 9 "read_term" 1 E2 :=
 Tw ["word"] T.h_z22 Y4 E2 fun _ _ _ _ _ _ _ hT hr nd=>(Ab (A1 (Ar (Br hr) (Ag 0) Bs) (Aj (Al (Vk T.c_ALL))) Ap) (Ab (A1 (Ar (Br hr) (Ag 0) Bs) (Aj (Al (A5 Ac))) Ap) (Ab (A1 (Ar (To hr) (X9 (Ag 0) Cn (Cb Ad)) (A5 (Ae Bs (Ae Bs Ac)))) (Aj (Al (q_c (Az0 T B) hr (Ae (Ag 0) Ac)))) Ap) (Ab (A1 (Cq (Zo (X9 (Ag 0) Cn (Cb Ad)))) (Aj (Al (q_c (Az1 T B) hr (Ae (Ag 0) Ac)))) Ap) (Aj (Al (Ahr hT (Az5 T B hB) hr (Ae (Ag 0) Ac))))))))
include hB
theorem okD:∀ p∈V6,Ae5 P w K mg base 6 2 (tabs p_met p_z32 p_z46) p.1 p.2:=by
 intro p hp
 unfold V6 at hp
 simp only[Bex,Bes,or_false] at hp
 rcases hp with rfl|rfl
 ·exact (Ajn T B hB).dok
 ·exact (Ajq T B hB).dok
omit hB
include hB in
theorem Acj:ClT P w K mg base (tabs p_met p_z32 p_z46) 7 "folded" 2 E4 :=
 Tw ["spans","combine","halved"] T.h_z33 Am0 E4 fun _ _ _ _ _ _ _ hT hr nd=>(Ab (Ya _ Be7 (Ar Jd (Bq B.b_len (Ae (Cz 0) Ac)) Ad) (Ab (Tv hT [1,0] ["combine","spans","k"] nd rfl (Awj B.b_range (Ae Ad (Ae (Ao Ma (Bq B.b_len (Ae (Cz 0) Ac)) Ad) (Ae Ad Ac)))) (Bv 2) (fun _ _ _ _ _ _ hT=>(C9 (show (["combine","spans","k"]:List Str).Nodup by decide))) (fun _ _ _ _ _ _ hT=>B5) (fun _ _ _ _ _ _ hT=>(Apm (okD T B hB) (fun I=>TabsH.on I hT) (hr.mono (by decide)) (Ae (Am (Cz 1) (Ag 2)) (Ae (Am (Cz 1) (Ao An (Ag 2) Ad)) Ac))))) (Aj (Pe nd (Dg (Zn (Ag 2) (Dg (Awh (Cz 0) (Cb (Ao Gj Ad (Bq B.b_len (Ae (Ag 2) Ac)))) Cn)))))))) (Aj (Al (Am (Cz 0) Ad))))
include hB in
theorem Ajo:ClT P w K mg base (tabs p_met p_z32 p_z46) 10 "read_span" 1 Jl :=
 Tw ["text","words","alternatives","terms","place","word","span"] T.h_z23 Amr Jl fun _ _ _ _ _ _ _ hT hr nd=>(Ab (Aw nd (Dg (Nm (Ag 0) (Ae Bs Ac)))) (Ab (Eg nd (Da Ac)) (Ab (Eg nd (Da Ac)) (Ab (D3 Be7 rfl (Um B.b_enumerate (Ae (Ag 1) Ac)) (X8 rfl (D9 (M8 nd) (D9 (M8 nd) X7))) (Aj (A1 (Cg (Tx (Ar (Br hr) (Ag 5) Bs) (Mi (Cq (Ag 3))))) (Ab (D2 (Ag 2) (Ae (Apl hT (Acj T B hB) hr (Ae (Ag 3) (Ae (Vk T.d_met) Ac))) Ac)) (Aj (Eg nd (Da Ac)))) (Ab (Aw nd (Ahr hT (Auo T B hB) hr (Ae (Ag 5) Ac))) (Ab (A1 (Mg (Ag 6)) (Aj Adn) Ap) (Aj (D2 (Ag 3) (Ae (Ag 6) Ac)))))))) (Ab (A1 (N2 (Cq (Ag 3))) (Aj Adn) Ap) (Ab (D2 (Ag 2) (Ae (Apl hT (Acj T B hB) hr (Ae (Ag 3) (Ae (Vk T.d_met) Ac))) Ac)) (Aj (Al (Apl hT (Acj T B hB) hr (Ae (Ag 2) (Ae (Vk T.d_z32) Ac)))))))))))
theorem Cd:Cl P w K mg base 1 "_law_draw" 3 Bw :=
 Bu ["_law_script","_law_k","_law_many","_law_cell","_law_at","_law_mixed"] T.h_z38 Am5 Bw fun _ _ _ _ _ _ _ hr nd=>(Ab (Aw nd Ad) (Ab (Aw nd Ad) (Ab (A1 (Ar Jd (Bq B.b_len (Ae (Ag 0) Ac)) Ad) (Ab (Aw nd (Am (Ag 0) (Ao Gi (Ag 1) (Bq B.b_len (Ae (Ag 0) Ac))))) (Aj (Aw nd (Ao Gi (Ao Aco (Ag 1) (Bq B.b_len (Ae (Ag 0) Ac))) Ad)))) Ap) (Ab (A1 (Ar (Br hr) (Ao Gi (Ag 3) Ad) Ad) (Aj (Al (Ao Gi (Ao Au1 (Ag 3) (Ao An Ad (Ao Gj Ad (Ag 4)))) (Ag 2)))) Ap) (Ab (Aw nd (Ao Gi (Ao Gj (Ao An (Ao Gi (Ag 3) Ad) Ad) (Ao An (Ao Gj (Ao Gj Ad (Ag 1)) (Ag 1)) Ad)) Ad)) (Aj (Al (Ao Gi (Ao Aco (Ao Gi (Ao An (Ao Gj (Ag 5) (Ao An (Ao Gi (Ag 5) Ad) Ad)) (Ag 1)) Ad) Ad) (Ag 2)))))))))
theorem Ack:Cl P w K mg base 2 "_law_mark" 2 Lu :=
 Bu ["_law_script","_law_k","_law_menu"] T.h_z39 Am6 Lu fun _ _ _ _ _ _ _ hr nd=>(Ab (Aw nd (Dg (Da (Ae Ad (Ae Ad (Ae Bs (Ae Bs (Ae Bs (Ae Ad (Ae Ad (Ae Bs (Ae Bs (Ae (Ao Ma (Ao Acp Ad Ad) Ad) (Ae Bs Ac)))))))))))))) (Aj (Al (Am (Ag 2) (q_c (Cd T B) hr (Ae (Ag 0) (Ae (Ag 1) (Ae Ad Ac))))))))
theorem Ajr:Cl P w K mg base 3 "_law_make" 2 Lv :=
 Bu ["_law_script","_law_k","_law_numbers","_law_many"] T.h_z40 Am7 Lv fun _ _ _ _ _ _ _ hr nd=>(Ab (Ahp [0,1] ["_law_script","_law_k","_law_j"] nd rfl (M9 B.b_range (Ae Ad Ac)) (Bv 2) (fun _ _ _ _ _ _=>(C9 (show (["_law_script","_law_k","_law_j"]:List Str).Nodup by decide))) (fun _ _ _ _ _ _=>B5) (fun _ _ _ _ _ _=>(q_c (Cd T B) hr (Ae (Cz 0) (Ae (Ao An (Cz 1) (Ag 2)) (Ae Ad Ac)))))) (Ab (A1 (Ar (Br hr) (q_c (Cd T B) hr (Ae (Cz 0) (Ae (Ao An (Cz 1) Ad) (Ae Ad Ac)))) Ad) (Aj (Ahu (Am (Dg (Da (Ae Ad (Ae Ad (Ae (Ao Ma (Ao Acp Ad Ad) Ad) Ac))))) (q_c (Cd T B) hr (Ae (Cz 0) (Ae (Ao An (Cz 1) Ad) (Ae Ad Ac))))) (Ag 2) (q_c (Cd T B) hr (Ae (Cz 0) (Ae (Ao An (Cz 1) Ad) (Ae Ad Ac)))))) Ap) (Ab (Aw nd (Am (Dg (Da (Ae Ad (Ae Ad (Ae Ad (Ae Ad (Ae Ad (Ae Ad (Ae Ad Ac))))))))) (q_c (Cd T B) hr (Ae (Cz 0) (Ae (Ao An (Cz 1) Ad) (Ae Ad Ac)))))) (Aj (Al (Ao An (Em B.b_tuple (Ae (Ag 2) Ac)) (A5 (Ae (Em B.b_tuple (Ae (Dg (B0 [0,1] ["_law_script","_law_k","_law_j"] rfl (M9 B.b_range (Ae (Ag 3) Ac)) (Bv 2) (fun _ _ _ _ _ _=>(C9 (show (["_law_script","_law_k","_law_j"]:List Str).Nodup by decide))) (fun _ _ _ _ _ _=>B5) (fun _ _ _ _ _ _=>(q_c (Ack T B) hr (Ae (Cz 0) (Ae (Ao An (Ao An (Cz 1) Ad) (Ag 2)) Ac)))))) Ac)) Ac))))))))
theorem Ajs:Cl P w K mg base 4 "_law_near" 3 Ni :=
 Bu ["_law_script","_law_k","_law_make_here","_law_great_here","_law_middle","_law_small","_law_marks","_law_some","_law_found"] T.h_z41 Am8 Ni fun _ _ _ _ _ _ _ hr nd=>(Ab (Awg (Ag 2) (X8 rfl (D9 (M8 nd) (D9 (M8 nd) (D9 (M8 nd) (D9 (M8 nd) X7)))))) (Ab (Eg nd (Da (Ae (Ag 2) (Ae (A5 (Ae (Ag 3) (Ae (Ag 4) (Ae (Ag 5) (Ae (A5 Ac) Ac))))) (Ae (A5 (Ae (Ag 3) (Ae (Ag 4) (Ae (Ag 5) (Ae (X9 (Ag 6) Cn (Cb (Zp Ad))) Ac))))) (Ae (A5 (Ae (Ag 3) (Ae (Ag 4) (Ae (Ao An (Ag 5) Ad) (Ae (A5 (Ae Ad Ac)) Ac))))) Ac)))))) (Ab (Eg nd (Zn (Ag 7) (Dg (Da (Ae (A5 (Ae (Ag 3) (Ae (Ao An (Ag 4) Ad) (Ae Ad (Ae (A5 (Ae Ad Ac)) Ac))))) (Ae (A5 (Ae (Ao An (Ag 3) Ad) (Ae Ad (Ae Ad (Ae (A5 (Ae Ad Ac)) Ac))))) (Ae (A5 (Ae (Ag 3) (Ae (Ag 4) (Ae Ad (Ae (A5 Ac) Ac))))) (Ae (A5 (Ae Ad (Ae Ad (Ae Ad (Ae (A5 (Ae Ad Ac)) Ac))))) Ac)))))))) (Ab (A1 (Ar (Tp) (Bq B.b_len (Ae (Ag 6) Ac)) Ad) (Ab (D2 (Ag 7) (Ae (A5 (Ae (Ag 3) (Ae (Ag 4) (Ae (Ag 5) (Ae (Ao An (Ag 6) (A5 (Ae (q_c (Ack T B) hr (Ae (Ag 0) (Ae (Ao An (Ag 1) Ad) Ac))) Ac))) Ac))))) Ac)) (Aj (D2 (Ag 7) (Ae (A5 (Ae (Ag 3) (Ae (Ag 4) (Ae (Ag 5) (Ae (Ao An (Ag 6) (A5 (Ae Ad Ac))) Ac))))) Ac)))) Ap) (Ab (A1 (Ar Jd (Bq B.b_len (Ae (Ag 6) Ac)) Ad) (Aj (D2 (Ag 7) (Ae (A5 (Ae (Ag 3) (Ae (Ag 4) (Ae (Ag 5) (Ae (Ao An (X9 (Ag 6) Cn (Cb (Zp Ad))) (A5 (Ae (q_c (Ack T B) hr (Ae (Ag 0) (Ae (Ao An (Ag 1) Ad) Ac))) Ac))) Ac))))) Ac))) Ap) (Ab (Aw nd (Am (Ag 7) (q_c (Cd T B) hr (Ae (Ag 0) (Ae (Ag 1) (Ae (Bq B.b_len (Ae (Ag 7) Ac)) Ac)))))) (Ab (A1 (Cg (Tx (Ar (Tp) (Apq rfl B.b_max (Ae (X9 (Ag 8) Cn (Cb Ad)) Ac)) (Ao Acp Ad Ad)) (Mi (Ar Jd (q_c (Cd T B) hr (Ae (Ag 0) (Ae (Ao An (Ag 1) Ad) (Ae Ad Ac)))) Ad)))) (Aj (Al (Ag 8))) Ap) (Aj (Al (q_c (Ajr T B) hr (Ae (Ag 0) (Ae (Ao An (Ag 1) Ad) Ac))))))))))))
theorem Az6:Cl P w K mg base 1 "_law_mark_older" 2 Aa0 :=
 Bu ["_law_one","_law_other"] T.h_z8 Azq Aa0 fun _ _ _ _ _ _ _ hr nd=>(Ab (A1 (Ar (Je hr) (X6 (Ag 0) B.b_isinstance B.b_str (by decide +kernel)) (X6 (Ag 1) B.b_isinstance B.b_str (by decide +kernel))) (Aj (Al (X6 (Ag 1) B.b_isinstance B.b_str (by decide +kernel)))) Ap) (Aj (Al (B4 (Tp) (Ag 0) (Ag 1)))))
theorem Tn:Cl P w K mg base 2 "_law_older" 2 Hx :=
 Bu ["_law_one","_law_other","_law_k"] T.h_z34 Am1 Hx fun _ _ _ _ _ _ _ hr nd=>(Ab (D3 Be7 rfl (M9 B.b_range (Ae Ad Ac)) (M8 nd) (Aj (A1 (Ar (Je hr) (Am (Ag 0) (Ag 2)) (Am (Ag 1) (Ag 2))) (Aj (Al (B4 (Tp) (Am (Ag 0) (Ag 2)) (Am (Ag 1) (Ag 2))))) Ap))) (Ab (A1 (Cg (Jy (Ar (Br hr) (Am (Ag 0) Ad) (A5 Ac)) (Gk (Ar (Br hr) (Am (Ag 1) Ad) (A5 Ac))))) (Aj (Al (Tu (B4 (Je hr) (Am (Ag 0) Ad) (A5 Ac)) (Ih (B4 (Br hr) (Am (Ag 1) Ad) (A5 Ac)))))) Ap) (Ab (D3 Be7 rfl (M9 B.b_range (Ae (Apr rfl B.b_min (Ae (Bq B.b_len (Ae (Am (Ag 0) Ad) Ac)) (Ae (Bq B.b_len (Ae (Am (Ag 1) Ad) Ac)) Ac))) Ac)) (M8 nd) (Aj (A1 (Ar (Je hr) (Am (Am (Ag 0) Ad) (Ag 2)) (Am (Am (Ag 1) Ad) (Ag 2))) (Aj (Al (q_c (Az6 T B) hr (Ae (Am (Am (Ag 0) Ad) (Ag 2)) (Ae (Am (Am (Ag 1) Ad) (Ag 2)) Ac))))) Ap))) (Aj (Al (B4 (Tp) (Bq B.b_len (Ae (Am (Ag 0) Ad) Ac)) (Bq B.b_len (Ae (Am (Ag 1) Ad) Ac))))))))
theorem Aut:Cl P w K mg base 5 "_law_makes" 3 Rt :=
 Bu ["_law_script","_law_base","_law_many","_law_makes_here","_law_j","_law_make_here"] T.h_z35 Am2 Rt fun _ _ _ _ _ _ _ hr nd=>(Ab (Eg nd (Da Ac)) (Ab (D3 Be7 rfl (M9 B.b_range (Ae (Ag 2) Ac)) (M8 nd) (Ab (Aw nd (q_c (Ajr T B) hr (Ae (Ag 0) (Ae (Ao An (Ao An (Ag 1) Ad) (Ao Gj Ad (Ag 4))) Ac)))) (Ab (A1 (Cg (Tx (Ar Jd (Ag 4) Ad) (Mi (Ar Jd (q_c (Cd T B) hr (Ae (Ag 0) (Ae (Ao An (Ag 1) (Ao Gi (Ag 4) Ad)) (Ae Ad Ac)))) Ad)))) (Aj (Aw nd (q_c (Ajs T B) hr (Ae (Ag 0) (Ae (Ao An (Ao An (Ag 1) Ad) (Ao Gj Ad (Ag 4))) (Ae (Am (Ag 3) (q_c (Cd T B) hr (Ae (Ag 0) (Ae (Ao An (Ao An (Ag 1) Ad) (Ao Gi (Ag 4) Ad)) (Ae (Ag 4) Ac))))) Ac)))))) Ap) (Aj (D2 (Ag 3) (Ae (Ag 5) Ac)))))) (Aj (Al (Ag 3)))))
theorem Ti:Cl P w K mg base 1 "_law_make_text" 1 Ec :=
 Bu ["_law_make_here","_law_text"] T.h_z14 Amj Ec fun _ _ _ _ _ _ _ hr nd=>(Ab (Aw nd (Gv Bs (Ae (Dg (B0 [] ["_law_number"] rfl (C4 (X9 (Ag 0) Cn (Cb Ad))) (Bv 0) (fun _ _ _ _ _ _=>(C9 (show (["_law_number"]:List Str).Nodup by decide))) (fun _ _ _ _ _ _=>B5) (fun _ _ _ _ _ _=>(Adk B.b_str (Ae (Ag 0) Ac))))) Ac))) (Ab (A1 (Ar (Je hr) (Am (Ag 0) Ad) (A5 Ac)) (Aj (Aw nd (Ao An (Ao An (Ag 1) Bs) (Gv Bs (Ae (Dg (B0 [] ["_law_mark_here"] rfl (C4 (Am (Ag 0) Ad)) (Bv 0) (fun _ _ _ _ _ _=>(C9 (show (["_law_mark_here"]:List Str).Nodup by decide))) (fun _ _ _ _ _ _=>B5) (fun _ _ _ _ _ _=>(Adk B.b_str (Ae (Ag 0) Ac))))) Ac))))) Ap) (Aj (Al (Ag 1)))))
theorem Aux:Cl P w K mg base 2 "_law_term" 3 Rw :=
 Bu ["_law_script","_law_k","_law_makes_here","_law_make_here","_law_other","_law_way","_law_low","_law_high"] T.h_z42 Am9 Rw fun _ _ _ _ _ _ _ hr nd=>(Ab (Aw nd (Am (Ag 2) (q_c (Cd T B) hr (Ae (Ag 0) (Ae (Ag 1) (Ae (Bq B.b_len (Ae (Ag 2) Ac)) Ac)))))) (Ab (Aw nd (Am (Ag 2) (q_c (Cd T B) hr (Ae (Ag 0) (Ae (Ao An (Ag 1) Ad) (Ae (Bq B.b_len (Ae (Ag 2) Ac)) Ac)))))) (Ab (Aw nd (q_c (Cd T B) hr (Ae (Ag 0) (Ae (Ao An (Ag 1) Ad) (Ae Ad Ac))))) (Ab (A1 (Ar (Tp) (Ag 5) Ad) (Aj (Al (A5 (Ae Bs (Ae (Am (Dg (Da (Ae Bs (Ae Bs (Ae Bs (Ae Bs (Ae Bs (Ae Bs (Ae Bs (Ae Bs Ac)))))))))) (Ag 5)) (Ae (Ag 3) Ac)))))) Ap) (Ab (A1 (Ar (Br hr) (Ag 5) Ad) (Aj (Al (A5 (Ae Bs (Ae (Am (Dg (Da (Ae Bs (Ae Bs (Ae Bs Ac))))) (q_c (Cd T B) hr (Ae (Ag 0) (Ae (Ao An (Ag 1) Ad) (Ae Ad Ac))))) Ac))))) Ap) (Ab (A1 (Ar (Tp) (Ag 5) Ad) (Aj (Al (Ao An (A5 (Ae Bs Ac)) (X9 (Ag 3) Cn (Cb (Ao Ma (Ag 5) Ad)))))) Ap) (Ab (Aw nd (Am (Dg (Da (Ae (Ag 3) (Ae (Ag 3) (Ae Dh Ac))))) (q_c (Cd T B) hr (Ae (Ag 0) (Ae (Ao An (Ag 1) Ad) (Ae Ad Ac)))))) (Ab (Aw nd (Am (Dg (Da (Ae (Ag 4) (Ae (Ag 4) (Ae Dh Ac))))) (q_c (Cd T B) hr (Ae (Ag 0) (Ae (Ao An (Ag 1) Ad) (Ae Ad Ac)))))) (Aj (Al (A5 (Ae Bs (Ae (Am Bs (q_c (Cd T B) hr (Ae (Ag 0) (Ae (Ao An (Ag 1) Ad) (Ae Ad Ac))))) (Ae (Ag 6) (Ae (Ag 7) (Ae (Am Bs (q_c (Cd T B) hr (Ae (Ag 0) (Ae (Ao An (Ag 1) Ad) (Ae Ad Ac))))) Ac))))))))))))))))
theorem Auj:Cl P w K mg base 2 "_law_term_text" 1 Rj :=
 Bu ["_law_term_here","_law_text"] T.h_z15 Amk Rj fun _ _ _ _ _ _ _ hr nd=>(Ab (A1 (Ar (Br hr) (Am (Ag 0) Ad) Bs) (Aj (Al (Am (Ag 0) Ad))) Ap) (Ab (A1 (Ar (Br hr) (Am (Ag 0) Ad) Bs) (Aj (Al (Ao An (Am (Ag 0) Ad) (q_c (Ti T B) hr (Ae (Am (Ag 0) Ad) Ac))))) Ap) (Ab (A1 (Ar (Br hr) (Am (Ag 0) Ad) Bs) (Aj (Al (Gv Bs (Ae (Dg (B0 [] ["_law_number"] rfl (C4 (X9 (Ag 0) (Cb Ad) Cn)) (Bv 0) (fun _ _ _ _ _ _=>(C9 (show (["_law_number"]:List Str).Nodup by decide))) (fun _ _ _ _ _ _=>B5) (fun _ _ _ _ _ _=>(Adk B.b_str (Ae (Ag 0) Ac))))) Ac)))) Ap) (Ab (Aw nd (Am (Ag 0) Ad)) (Ab (A1 (Mh (Am (Ag 0) Ad)) (Aj (Aw nd (Ao An (Ag 1) (q_c (Ti T B) hr (Ae (Am (Ag 0) Ad) Ac))))) Ap) (Ab (Aw nd (Ao An (Ag 1) Bs)) (Ab (A1 (Mh (Am (Ag 0) Ad)) (Aj (Aw nd (Ao An (Ag 1) (q_c (Ti T B) hr (Ae (Am (Ag 0) Ad) Ac))))) Ap) (Aj (Al (Ao An (Ag 1) (Am (Ag 0) Ad)))))))))))
theorem Auu:Cl P w K mg base 1 "_law_great" 1 Ru :=
 Bu ["_law_make_here"] T.h_z36 Am3 Ru fun _ _ _ _ _ _ _ hr nd=>(Ab (A1 (Ar Jd (Am (Ag 0) Ad) Ad) (Aj (Al (A5 (Ae (Ao An (Am (Ag 0) Ad) Ad) (Ae Ad (Ae Ad (Ae (A5 (Ae Ad Ac)) Ac))))))) Ap) (Ab (A1 (Ar Jd (Am (Ag 0) Ad) Ad) (Aj (Al (A5 (Ae Ad (Ae (Ao An (Am (Ag 0) Ad) Ad) (Ae Ad (Ae (A5 (Ae Ad Ac)) Ac))))))) Ap) (Aj (Al (A5 (Ae Ad (Ae Ad (Ae (Ao An (Am (Ag 0) Ad) Ad) (Ae (A5 (Ae Ad Ac)) Ac)))))))))
theorem Aob:Cl P w K mg base 3 "_law_sign_holds" 3 Os :=
 Bu ["_law_sign","_law_make_here","_law_found"] T.h_z9 Azr Os fun _ _ _ _ _ _ _ hr nd=>(Ab (A1 (Cg (Jy (Ar (Br hr) (Ag 0) Bs) (Gk (Ar (Br hr) (Ag 0) Bs)))) (Aj (Al (B4 (Br hr) (B4 (Br hr) (Ag 2) (Ag 1)) (B4 (Br hr) (Ag 0) Bs)))) Ap) (Ab (A1 (Ar (Br hr) (Am (Ag 0) Ad) Bs) (Aj (Al (Aq5 (q_c (Tn T B) hr (Ae (Ag 2) (Ae (Ag 1) Ac))) (Ih (Tu (B4 (Br hr) (Ag 0) Bs) (Ih (B4 (Br hr) (Ag 2) (Ag 1)))))))) Ap) (Ab (A1 (Ar (Br hr) (Am (Ag 0) Ad) Bs) (Aj (Al (Aq5 (q_c (Tn T B) hr (Ae (Ag 1) (Ae (Ag 2) Ac))) (Ih (Tu (B4 (Br hr) (Ag 0) Bs) (Ih (B4 (Br hr) (Ag 2) (Ag 1)))))))) Ap) (Ab (A1 (Cq (q_c (Tn T B) hr (Ae (Ag 2) (Ae (Ag 1) Ac)))) (Aj (Al X5)) Ap) (Ab (A1 (Ar (Br hr) (Ag 0) Bs) (Aj (Al (q_c (Tn T B) hr (Ae (Ag 2) (Ae (q_c (Auu T B) hr (Ae (Ag 1) Ac)) Ac))))) Ap) (Aj (Al (q_c (Tn T B) hr (Ae (Ag 2) (Ae (A5 (Ae (Am (Ag 1) Ad) (Ae (Ao An (Am (Ag 1) Ad) Ad) (Ae Ad (Ae (A5 (Ae Ad Ac)) Ac))))) Ac))))))))))
theorem Auv:Cl P w K mg base 4 "_law_holds" 2 Rv :=
 Bu ["_law_term_here","_law_found"] T.h_z37 Am4 Rv fun _ _ _ _ _ _ _ hr nd=>(Ab (A1 (Ar (Br hr) (Am (Ag 0) Ad) Bs) (Aj (Al (B4 (Br hr) (Am (Ag 0) Ad) Bs))) Ap) (Ab (A1 (Ar (Br hr) (Am (Ag 0) Ad) Bs) (Aj (Al (q_c (Aob T B) hr (Ae (Am (Ag 0) Ad) (Ae (Am (Ag 0) Ad) (Ae (Ag 1) Ac)))))) Ap) (Ab (A1 (Ar (Br hr) (Am (Ag 0) Ad) Bs) (Aj (Al (B4 (Br hr) (X9 (Ag 1) Cn (Cb (Ao Ma (Bq B.b_len (Ae (Ag 0) Ac)) Ad))) (X9 (Ag 0) (Cb Ad) Cn)))) Ap) (Ab (A1 (Cg (Tx (Mh (Am (Ag 0) Ad)) (Mi (N2 (Cq (q_c (Aob T B) hr (Ae (Am (Dg (Da (Ae Bs (Ae Bs Ac)))) (Adj B.b_int (Ae (B4 (Br hr) (Am (Ag 0) Ad) Bs) Ac))) (Ae (Am (Ag 0) Ad) (Ae (Ag 1) Ac))))))))) (Aj (Al X5)) Ap) (Aj (Al (Aq5 (Awf (Am (Ag 0) Ad)) (Ih (q_c (Aob T B) hr (Ae (Am (Dg (Da (Ae Bs (Ae Bs Ac)))) (Adj B.b_int (Ae (B4 (Br hr) (Am (Ag 0) Ad) Bs) Ac))) (Ae (Am (Ag 0) Ad) (Ae (Ag 1) Ac))))))))))))
theorem Ajt:Cl P w K mg base 3 "_law_rows" 3 Nj :=
 Bu ["_law_script","_law_k","_law_makes_here","_law_rows_here","_law_i","_law_row","_law_j"] T.h_z43 Ana Nj fun _ _ _ _ _ _ _ hr nd=>(Ab (Eg nd (Da Ac)) (Ab (D3 Be7 rfl (M9 B.b_range (Ae (Ao An Ad (q_c (Cd T B) hr (Ae (Ag 0) (Ae (Ag 1) (Ae Ad Ac))))) Ac)) (M8 nd) (Ab (Eg nd (Da Ac)) (Ab (D3 Be7 rfl (M9 B.b_range (Ae (Ao An Ad (q_c (Cd T B) hr (Ae (Ag 0) (Ae (Ao An (Ao An (Ag 1) Ad) (Ag 4)) (Ae Ad Ac))))) Ac)) (M8 nd) (Aj (D2 (Ag 5) (Ae (q_c (Aux T B) hr (Ae (Ag 0) (Ae (Ao An (Ao An (Ao An (Ag 1) Ad) (Ao Gj Ad (Ag 4))) (Ao Gj Ad (Ag 6))) (Ae (Ag 2) Ac)))) Ac)))) (Aj (D2 (Ag 3) (Ae (Ag 5) Ac)))))) (Aj (Al (Ag 3)))))
theorem Auy:Cl P w K mg base 5 "_law_said" 2 Nk :=
 Bu ["_law_rows_here","_law_make_here"] T.h_z44 Anb Nk fun _ _ _ _ _ _ _ hr nd=>(Aj (Al (Awd rfl B.b_any (Ae (Dg (B0 [1] ["_law_make_here","_law_row"] rfl (C4 (Ag 0)) (Bv 1) (fun _ _ _ _ _ _=>(C9 (show (["_law_make_here","_law_row"]:List Str).Nodup by decide))) (fun _ _ _ _ _ _=>B5) (fun _ _ _ _ _ _=>(N3 rfl B.b_all (Ae (Dg (B0 [0] ["_law_make_here","_law_term_here"] rfl (C4 (Ag 1)) (Bv 1) (fun _ _ _ _ _ _=>(C9 (show (["_law_make_here","_law_term_here"]:List Str).Nodup by decide))) (fun _ _ _ _ _ _=>B5) (fun _ _ _ _ _ _=>(q_c (Auv T B) hr (Ae (Ag 1) (Ae (Cz 0) Ac)))))) Ac))))) Ac))))
theorem Az3:Cl P w K mg base 2 "_law_by_brackets" 1 Aaz :=
 Bu ["_law_span","_law_words","_law_low","_law_high","_law_text"] T.h_z5 Azn Aaz fun _ _ _ _ _ _ _ hr nd=>(Ab (Eg nd (Da Ac)) (Ab (D3 Be7 rfl (C4 (Ag 0)) (X8 rfl (D9 (M8 nd) (D9 (M8 nd) X7))) (Ab (Aw nd Bs) (Ab (A1 (Mh (Ag 3)) (Aj (Aw nd (q_c (Ti T B) hr (Ae (Ag 3) Ac)))) Ap) (Aj (D2 (Ag 1) (Ae (Ao An (Ao An (Ao An (Ao An Bs (q_c (Ti T B) hr (Ae (Ag 2) Ac))) Bs) (Ag 4)) Bs) Ac)))))) (Ab (A1 (Ar (Br hr) (Ag 1) (Dg (Da Ac))) (Aj (Al Bs)) Ap) (Aj (Al (Gv Bs (Ae (Ag 1) Ac)))))))
include hB in
theorem Aug {a:Addr}{fd:FuncData} (F:Fun K "law" "law" Ud a fd):FnOk P w K mg base CX0 11 a fd ["_law_script"] (spT (tabs p_met p_z32 p_z46) K 1 Ng) :=
 Apt F sc_law Ame Ng rfl rfl fun A outer s H E hT hr=>(Ab (Aw sc_law.nd (Dg (Axq (Aut T B) hr (Ae (Ag 0) (Ae Ad (Ae (Ao An Ad (q_c (Cd T B) hr (Ae (Ag 0) (Ae Ad (Ae Ad Ac))))) Ac)))))) (Ab (Aw sc_law.nd (Dg (Da (Ae (q_c (Ajt T B) hr (Ae (Ag 0) (Ae Ad (Ae (Ag 1) Ac)))) (Ae (q_c (Ajt T B) hr (Ae (Ag 0) (Ae Ad (Ae (Ag 1) Ac)))) Ac))))) (Ab (Eg sc_law.nd (Da Ac)) (Ab (D3 Be7 rfl (C4 (Ag 2)) (M8 sc_law.nd) (Aj (D2 (Ag 3) (Ae (Ahr hT (Ajo T B hB) hr (Ae (Gv Bs (Ae (Dg (B0 [] ["_law_row"] rfl (C4 (Ag 4)) (Bv 0) (fun _ _ _ _ _ _=>(C9 (show (["_law_row"]:List Str).Nodup by decide))) (fun _ _ _ _ _ _=>B5) (fun _ _ _ _ _ _=>(Gv Bs (Ae (Dg (B0 [] ["_law_term_here"] rfl (C4 (Ag 0)) (Bv 0) (fun _ _ _ _ _ _=>(C9 (show (["_law_term_here"]:List Str).Nodup by decide))) (fun _ _ _ _ _ _=>B5) (fun _ _ _ _ _ _=>(q_c (Auj T B) hr (Ae (Ag 0) Ac))))) Ac))))) Ac)) Ac)) Ac)))) (Ab (Eg sc_law.nd (Zn (Ag 3) (Dg (Da (Ae (Ahr hT (Ajn T B hB) hr (Ae (Am (Ag 3) Ad) (Ae (Am (Ag 3) Ad) Ac))) (Ae (Ahr hT (Ajq T B hB) hr (Ae (Am (Ag 3) Ad) (Ae (Am (Ag 3) Ad) Ac))) (Ae (Ahr hT (Aju T B hB) hr (Ae (Am (Ag 3) Ad) (Ae (Am (Ag 3) Ad) Ac))) Ac))))))) (Ab (Tv hT [] ["_law_span"] sc_law.nd rfl (C4 (Ag 3)) (Bv 0) (fun _ _ _ _ _ _ hT=>(C9 (show (["_law_span"]:List Str).Nodup by decide))) (fun _ _ _ _ _ _ hT=>B5) (fun _ _ _ _ _ _ hT=>(Ahr hT (Ajo T B hB) hr (Ae (q_c (Az3 T B) hr (Ae (Ag 0) Ac)) Ac)))) (Ab (A1 (Cg (Jy (N2 (Cq (N3 rfl B.b_all (Ae (Dg (B0 [] ["_law_span"] rfl (C4 (Ag 3)) (Bv 0) (fun _ _ _ _ _ _=>(C9 (show (["_law_span"]:List Str).Nodup by decide))) (fun _ _ _ _ _ _=>B5) (fun _ _ _ _ _ _=>(B4 Az7 (q_c (Auq T B) hr (Ae (Ag 0) Ac)) X5)))) Ac)))) (Gk (Ar (Je hr) (Ag 5) (Ag 3))))) (Aj (Al X5)) Ap) (Ab (Aw sc_law.nd (Dg (Zn (Dg (Awh (Ag 0) Cn (Cb Ad))) (Dg (B0 [] ["_law_k"] rfl (M9 B.b_range (Ae Ad Ac)) (Bv 0) (fun _ _ _ _ _ _=>(C9 (show (["_law_k"]:List Str).Nodup by decide))) (fun _ _ _ _ _ _=>B5) (fun _ _ _ _ _ _=>(Ao Gj (Ag 0) Ad))))))) (Ab (D3 Be7 rfl (M9 B.b_range (Ae (Bq B.b_len (Ae (Ag 6) Ac)) Ac)) (M8 sc_law.nd) (Ab (Pe sc_law.nd (q_c (Ajs T B) hr (Ae (Ag 6) (Ae (Ag 7) (Ae (Am (Ag 1) (q_c (Cd T B) hr (Ae (Ag 6) (Ae (Ao An (Ag 7) Ad) (Ae (Bq B.b_len (Ae (Ag 1) Ac)) Ac))))) Ac))))) (Ab (Ld [8] ["_law_make_here","_law_some"] sc_law.nd rfl (C4 (Ag 2)) (Bv 1) (fun _ _ _ _ _ _=>(C9 (show (["_law_make_here","_law_some"]:List Str).Nodup by decide))) (fun _ _ _ _ _ _=>B5) (fun _ _ _ _ _ _=>(q_c (Auy T B) hr (Ae (Ag 1) (Ae (Cz 0) Ac))))) (Ab (Aw sc_law.nd (Dg (Zn (Ag 9) (Dg (Da (Ae (Tu (Am (Ag 9) Ad) (Ih (Am (Ag 9) Ad))) (Ae (Aq5 (Am (Ag 9) Ad) (Ih (Am (Ag 9) Ad))) (Ae (Tu (Am (Ag 9) Ad) (Ih (Apv (Am (Ag 9) Ad)))) Ac)))))))) (Aj (A1 (Ar (Je hr) (Dg (B0 [8] ["_law_make_here","_law_span"] rfl (C4 (Ag 3)) (Bv 1) (fun _ _ _ _ _ _=>(C9 (show (["_law_make_here","_law_span"]:List Str).Nodup by decide))) (fun _ _ _ _ _ _=>B5) (fun _ _ _ _ _ _=>(q_c (Aur T B) hr (Ae (Cz 0) (Ae (Ag 1) Ac)))))) (Ag 10)) (Aj (Al X5)) Ap)))))) (Aj (Al X5)))))))))))
end
end
end K14a
end S_K14a
section S_Q1
namespace K14a
open PySem L2 L2.ML
theorem Awk {m:MH}{t:Str}:(Ahw "str" m (.str t)=true)=True:=by simp[Ahw]
theorem Alo {z:Str}{d:D}{m:MH}{Q:D->Prop}:W (Gd (.str z) [d] m) Q=W (sq m d) fun ds=>W (Jz ds) fun ts=>JoinOk z ts=true/\Q (.str (Txt.join z ts)):=by
 unfold Gd
 simp only
 rw[W_bind];congr 1;funext z;rw[W_bind];congr 1;funext z;exact G2
set_option hygiene false in
local macro_rules|`(tactic| simp_arith[$a,*])=>`(tactic| ((try dsimp only[mp1,mp2,mp3,ln1,ln2,ln3,List.replicate,Nat.reduceAdd,Nat.reduceSub]);simp only[↓Azf,↓Aze,↓Ay3,↓Ay4,↓Ay5,↓Ay6,↓Bc6,↓Bcf,↓Ax9,↓Aya,↓Ayb,↓Ayc,↓Ayd,↓Amb,↓Ama,↓Ay,↓Ph,↓Aqc,↓Aqa,↓Aqb,↓Aiy,↓Asi,↓Asj,↓Al2,↓Al1,↓Ayy,↓Ax8,↓Ax7,↓Bce,↓Nc,↓Iq,↓Od,↓Oe,↓Ayf,↓Aro,↓Arn,↓Art,↓Afb,↓Of,↓Arf,↓Aix,↓Ass,↓Asv,↓Asu,↓Ark,↓Ayh,↓Arp,↓Alh,↓Arq,↓Alj,↓Aye,↓Afa,↓Ayi,↓Ayg,↓Alk,↓Ax5,↓Asb,↓Asc,↓Ars,↓Ba0,↓Awt,↓Arl,↓Arm,↓Z9,↓Ali,↓Eb,↓Dj,↓Arc,↓Ard,↓Are,↓Asr,↓Ar8,↓Arj,↓Ar7,↓Ase,↓Asl,↓Ayv,↓Ayt,↓Ayj,↓Bbh,↓Bcl,↓Arx,↓Ary,↓Alp,↓Ays,↓Yq,↓Ayp,↓Ayo,↓Ayr,↓Ar3,↓Ar4,↓Ar1,↓Ar0,↓Ar2,↓Arw,↓Aiz,↓Ai0,↓Ax3,↓Ax4,↓Asp,↓Ayl,↓Aym,↓Ayk,↓Lf,↓Dl,↓Dk,↓Alw,↓Als,↓Alu,↓Ur,↓Aab,↓Alv,↓Ay0,↓Ay1,↓Yo,↓Yp,↓Ay9,↓Ay7,↓Ay8,↓Aza,↓Asw,↓Bd8,↓Bd9,↓Bd6,↓Bd7,↓Aly,↓Bay,↓Asg,↓Aig,↓Aif,↓Aie,↓Aih,↓Yu,↓Bbj,↓Bcm,↓Bb6,↓Bbk,↓Bcn,↓Bcg,↓Bb7,↓Bbl,↓Bco,↓Bch,↓Bb8,↓Bbm,↓Bcp,↓Bci,↓Bb9,↓Bcw,↓Bcq,↓Bca,↓Bcx,↓Bcr,↓Bcj,↓Bcb,↓Bcy,↓Bcs,↓Bcc,↓Bcz,↓Bct,↓Bck,↓Bbg,↓Bc0,↓Bcu,↓Bcd,↓Bc1,↓Bcv,↓Ay2,↓Ayx,Bool.not_true,Bool.not_false,Al2,Al1,↓Ayz,↓Aso,↓Asq,↓Aws,↓Afe,↓Ash,↓At9,↓Ar9,↓Afd,↓Asf,↓Aiw,↓Ale,↓Ari,↓Asa,↓Ar6,↓Ar5,↓Aln,↓Alm,↓Ayu,↓Alx,↓Ast,↓Ayw,↓Asm,↓Asn,Beh,Bf3,Bel,Bfn,Be5,Bee,Bf9,List.replicate,List.set_cons_zero,List.set_cons_succ,Nat.reduceAdd,Nat.reduceSub,Nat.zero_add,true_and,B8,Iy,Ata,D6,Li,As9,Aao,Zi,decide_true,decide_false,Afl,Aag,List.getElem?_cons_zero,Bf5,Bfc,_root_.id,Asm,Asn,Es,C1,Ee,Agr,Cv,E9,Ca,Dp,Bi,O8,Bool.and_self,Bool.and_true,Bool.true_and,Mk.pure,Mark.pure,Vd,Ga,↓Ae9,↓Ala,↓Arh,↓Ax6,Bc5,Afq,↓Agb,↓Aga,↓Af9,↓Agc,Int.reduceEq,Int.reduceLT,Int.reduceLE,Int.reduceAdd,Int.reduceSub,Int.reduceMul,Int.reduceToNat,Int.reducePow,Int.reduceNeg,Int.reduceMod,Int.reduceDiv,Nat.reduceLeDiff,Nat.reduceMul,Nat.reduceEqDiff,Nat.reducePow,Nat.reduceLT,and_true,and_self,true_or,or_true,Bej,Bff,Bfe,Azc,↓Af7,↓Af6,↓Af5,↓Af8,Apy,Bfz,Bool.true_eq_false,Abw,Agm,At1,Al7,Mark.deq,Mk.deq,Int.zero_add,↓At3,↓At4,↓At5,↓At2,↓Anx,Bf6,List.any_nil,Bfi,List.all_nil,Bool.false_or,Bool.true_or,Bool.or_false,Bool.false_and,↓Up,↓Agf,↓Age,↓Agd,↓Agg,↓Alz,↓Awn,↓Ayn,Abr,Hg,Acr,Gu,Acd,Ajw,Acs,↓Avd,↓Ave,↓Avf,↓Aue,↓An4,Option.isNone_none,Option.isNone_some,Option.isSome_none,Option.isSome_some,Baw,L5,Al5,↓Alq,↓Alr,bne_self_eq_false,↓Azb,↓Asx,↓Arv,Awk,↓Alo,$a,*]))
set_option hygiene false in
local macro_rules|`(tactic| array_get_dec)=>`(tactic| try simp_arith[true_and])
structure Scr (sc:D) (ns:List Int):Prop where
 l:ns.length<=73
 v:∀ {m:MH}{Q:D->Prop},W (C0 m sc) Q=Q sc
 len:∀ {m:MH}{Q:D->Prop},W (Ek [sc] m) Q=Q (.int ns.length)
 ix:∀ {m:MH}{i:Int}{Q:D->Prop},W (oIx sc (.int i) m) Q=W (atI (ns.map D.int) i) Q
theorem Awr {ns:List Int} (hl:ns.length<=73):Scr (.kl (ns.map .int)) ns:=⟨hl,by intros;array_get_dec,by intros;array_get_dec,by intros;array_get_dec⟩
theorem Ap8 {ns:List Int} (hl:ns.length<=73):Scr (.lst (ns.map .int)) ns:=⟨hl,by intros;array_get_dec,by intros;array_get_dec,by intros;array_get_dec⟩
theorem Bh {sc:D}{ns:List Int} (hs:Scr sc ns) (k n:Int) (hk:0<=k) (hk2:k < 100000) (hn:0 < n) :
  W (Bw [sc,.int k,.int n]) fun d=>∃ v,d=.int v/\0<=v/\v < n:=by
 have hl:=hs.l
 have fin:∀ z:Int,∃ v,D.int (z % n)=.int v/\0<=v/\v < n:=fun z=>⟨_,rfl,Int.emod_nonneg _ (by lia),Int.emod_lt_of_pos _ hn⟩
 unfold Bw Am5
 rw[Ay]
 simp_arith[↓hs.len,↓hs.ix]
 refine cK.dec (fun h=>⟨h,?_⟩) (fun h=>⟨.inr (by lia),.inl (by lia),hn,fin _⟩)
 have hm:=Int.emod_nonneg k (b:=(ns.length:Int)) (by lia)
 have hm2:=Int.emod_lt_of_pos k (b:=(ns.length:Int)) (by lia)
 refine Et hm (by simpa using hm2) fun d _ hd=>?_
 obtain⟨c,_,rfl⟩:=List.mem_map.mp hd
 have hq:=Int.emod_nonneg (k / ns.length) (b:=40) (by lia)
 array_get_dec
 exact⟨⟨h,by lia⟩,cK.dec (fun h1=>⟨by lia,hn,fin _⟩) fun h1=>⟨.inr (by lia),.inl (by lia),.inl (by lia),hn,fin _⟩⟩
def mok:Mark->Prop
 |.n i=>0<=i/\i < 10000000000000
 |.s t=>Cj t=true
structure Mok (x:Mk):Prop where
 a:0<=x.a/\x.a < 10000000000000
 b:0<=x.b/\x.b < 10000000000000
 c:0<=x.c/\x.c < 10000000000000
 ms:∀ m∈x.ms,mok m
structure Mo0 (x:Mk):Prop where
 a:0<=x.a/\x.a < 1000000000000
 b:0<=x.b/\x.b < 1000000000000
 c:0<=x.c/\x.c < 1000000000000
 ms:∀ m∈x.ms,mok m
theorem Mo0.up {x:Mk} (h:Mo0 x):Mok x:=⟨⟨h.a.1,by have:=h.a.2;lia⟩,⟨h.b.1,by have:=h.b.2;lia⟩,⟨h.c.1,by have:=h.c.2;lia⟩,h.ms⟩
theorem L1 {sc:D}{ns:List Int} (hs:Scr sc ns) (k:Int) (hk:0<=k) (hk2:k < 100000):W (Lu [sc,.int k]) fun d=>∃ m:Mark,d=m.d/\mok m:=by
 unfold Lu Am6
 rw[Ay]
 try simp_arith[↓hs.v]
 refine B2 (Bh hs k 11 hk hk2 (by decide)) fun v h0 h1=>?_
 try simp_arith[↓hs.v]
 refine Et h0 (by simpa using h1) fun d _ hd=>?_
 simp only[Bex,Bes,or_false] at hd
 rcases hd with rfl|rfl|rfl|rfl|rfl|rfl|rfl|rfl|rfl|rfl|rfl<;>array_get_dec
 ·exact⟨.n _,rfl,by decide,by decide⟩
 ·exact⟨.n _,rfl,by decide,by decide⟩
 ·exact⟨.s _,rfl,by unfold mok;decide +kernel⟩
 ·exact⟨.s _,rfl,by unfold mok;decide +kernel⟩
 ·exact⟨.s _,rfl,by unfold mok;decide +kernel⟩
 ·exact⟨.n _,rfl,by decide,by decide⟩
 ·exact⟨.n _,rfl,by decide,by decide⟩
 ·exact⟨.s _,rfl,by unfold mok;decide +kernel⟩
 ·exact⟨.s _,rfl,by unfold mok;decide +kernel⟩
 ·exact⟨.n _,rfl,by decide,by decide⟩
 ·exact⟨.s _,rfl,by unfold mok;decide +kernel⟩
theorem Atz {ds:List D} (h:∀ d∈ds,∃ x:Mark,d=x.d/\mok x):∃ xs:List Mark,ds=xs.map Mark.d/\∀ x∈xs,mok x:=by
 induction ds with
 |nil=>exact⟨[],rfl,fun _ h=>nomatch h⟩
 |cons d ds ih =>
  obtain⟨x,rfl,hx⟩:=h d (Beb ..)
  obtain⟨xs,rfl,hxs⟩:=ih fun e he=>h e (Bed _ he)
  refine⟨x::xs,rfl,fun y hy=>?_⟩
  rcases List.mem_cons.mp hy with rfl|hy
  ·exact hx
  ·exact hxs y hy
theorem Abu {sc:D}{ns:List Int} (hs:Scr sc ns) (k:Int) (hk:0<=k) (hk2:k < 90000):W (Lv [sc,.int k]) fun d=>∃ x:Mk,d=x.d/\Mo0 x/\x.ms.length<=8:=by
 unfold Lv Am7
 rw[Ay]
 try simp_arith[↓hs.v]
 refine B2 (Bh hs _ 3 (by lia) (by lia) (by decide)) fun a ha0 ha1=>B2 (Bh hs _ 3 (by lia) (by lia) (by decide)) fun b hb0 hb1=>B2 (Bh hs _ 3 (by lia) (by lia) (by decide)) fun c hc0 hc1=>B2 (Bh hs _ 9 (by lia) (by lia) (by decide)) fun v1 h10 h11=>?_
 try simp_arith[↓hs.v]
 refine cK.dec (fun _=>B2 (Bh hs _ 3 (by lia) (by lia) (by decide)) fun v2 h20 h21=>?_) fun _=>?_
 ·try simp_arith[↓hs.v]
  refine Et h20 (by simpa using h21) fun d _ hd=>?_
  obtain⟨g,rfl,hg⟩:∃ g:Int,d=.int g/\(0<=g/\g < 1000000000000):=by
   simp only[Bex,Bes,or_false] at hd
   rcases hd with rfl|rfl|rfl<;>exact⟨_,rfl,by decide,by decide⟩
  refine B2 (Bh hs _ 3 (by lia) (by lia) (by decide)) fun v3 h30 h31=>?_
  try simp_arith[↓hs.v]
  refine Ayq h30 h31 ?_
  have:v3=0\/v3=1\/v3=2:=by lia
  rcases this with rfl|rfl|rfl<;>array_get_dec
  all_goals
   refine B2 (Bh hs _ 7 (by lia) (by lia) (by decide)) fun v4 h40 h41=>?_
   try simp_arith[↓hs.v]
   refine Et h40 (by simpa using h41) fun d _ hd=>?_
   obtain⟨n,rfl,hn⟩:∃ n:Nat,d=.int n/\n<=8:=by
    simp only[Bex,Bes,or_false] at hd
    rcases hd with rfl|rfl|rfl|rfl|rfl|rfl|rfl<;>first|exact⟨0,rfl,by decide⟩|exact⟨1,rfl,by decide⟩|exact⟨2,rfl,by decide⟩|exact⟨3,rfl,by decide⟩|exact⟨8,rfl,by decide⟩
   try simp_arith[↓hs.v]
   refine⟨⟨by lia,by lia⟩,by unfold Dc;simp;lia,Z8 (fun e=>∃ x:Mark,e=x.d/\mok x) (fun d hd=>?_) fun es hes hP=>?_⟩
   ·obtain⟨j,hj,rfl⟩:=List.mem_map.mp hd
    rw[List.mem_range] at hj
    try simp_arith[↓hs.v]
    exact L1 hs _ (by lia) (by lia)
   ·obtain⟨xs,rfl,hxs⟩:=Atz hP
    have hx8:xs.length<=8:=by
     have:(xs.map Mark.d).length=(Dc 0 (Int.toNat (n:Int))).length:=hes
     unfold Dc at this;simp at this;lia
    try simp_arith[↓hs.v]
    refine⟨⟨_,_,_,xs⟩,rfl,⟨?_,?_,?_,hxs⟩,hx8⟩<;>first|assumption|(dsimp only;lia)
 ·refine B2 (Bh hs _ 7 (by lia) (by lia) (by decide)) fun v4 h40 h41=>?_
  try simp_arith[↓hs.v]
  refine Et h40 (by simpa using h41) fun d _ hd=>?_
  obtain⟨n,rfl,hn⟩:∃ n:Nat,d=.int n/\n<=8:=by
   simp only[Bex,Bes,or_false] at hd
   rcases hd with rfl|rfl|rfl|rfl|rfl|rfl|rfl<;>first|exact⟨0,rfl,by decide⟩|exact⟨1,rfl,by decide⟩|exact⟨2,rfl,by decide⟩|exact⟨3,rfl,by decide⟩|exact⟨8,rfl,by decide⟩
  try simp_arith[↓hs.v]
  refine⟨⟨by lia,by lia⟩,by unfold Dc;simp;lia,Z8 (fun e=>∃ x:Mark,e=x.d/\mok x) (fun d hd=>?_) fun es hes hP=>?_⟩
  ·obtain⟨j,hj,rfl⟩:=List.mem_map.mp hd
   rw[List.mem_range] at hj
   try simp_arith[↓hs.v]
   exact L1 hs _ (by lia) (by lia)
  ·obtain⟨xs,rfl,hxs⟩:=Atz hP
   have hx8:xs.length<=8:=by
    have:(xs.map Mark.d).length=(Dc 0 (Int.toNat (n:Int))).length:=hes
    unfold Dc at this;simp at this;lia
   try simp_arith[↓hs.v]
   refine⟨⟨_,_,_,xs⟩,rfl,⟨?_,?_,?_,hxs⟩,hx8⟩<;>first|assumption|(dsimp only;lia)
theorem Jr (m:Mark) {Q:D->Prop}:W (Rk [m.d]) Q=Q m.rk:=W.eq <| by
 unfold Rk Amm
 rw[Ay]
 cases m<;>simp only[Mark.d]<;>array_get_dec<;>rfl
theorem Vn (x:Mk) (h:x.ms.length<=1000) {Q:D->Prop}:W (Jo [x.d]) Q=Q x.rk:=W.eq <| by
 unfold Jo Anc
 rw[Ay]
 unfold Mk.d
 array_get_dec
 refine cK.mk (fun h1=>⟨by lia,Be Mark.rk (fun m hm=>?_) ?_⟩) fun h1=>⟨by lia,Be Mark.rk (fun m hm=>?_) ?_⟩
 ·simp_arith[Jr]
 ·simp_arith[A2 Mark.rk_pure]
  unfold Mk.rk
  rw[Beg]
  intro h;rw[h] at h1;simp at h1
 ·simp_arith[Jr]
 ·simp_arith[A2 Mark.rk_pure]
  unfold Mk.rk
  rw[Bef]
  simpa using h1
theorem Ej (x y:Mk) (hx:x.ms.length<=1000) (hy:y.ms.length<=1000) {Q:D->Prop}:W (Jm [x.d,y.d]) Q=Q (.bl (x.older y)):=W.eq <| by
 unfold Jm Ams
 rw[Ay]
 have d1:=Mk.rk_dep x
 have d2:=Mk.rk_dep y
 simp_arith[Vn x hx,Vn y hy,Mk.rk_pure,Mk.rk_lt,Af]
 lia
theorem M6 (x y:Mark) {Q:D->Prop}:W (Aa0 [x.d,y.d]) Q=Q (.bl (x.lt y)):=W.eq <| by
 unfold Aa0 Azq
 rw[Ay]
 cases x<;>cases y<;>simp only[Mark.d]<;>array_get_dec<;>rfl
theorem J9 (x y:Mk) (hx:x.ms.length<=1000) (hy:y.ms.length<=1000) {Q:D->Prop}:W (Hx [x.d,y.d]) Q=Q (.bl (x.older y)):=W.eq <| by
 unfold Hx Am1
 rw[Ay]
 unfold Mk.d
 simp_arith[Hn,Vz,Bm]
 have q:∀ {b c:Bool},b=c->D.bl b=D.bl c:=fun h=>by rw[h]
 have e4:∀ {p},x.a=y.a->x.b=y.b->x.c=y.c->(if x.ms=[]\/y.ms=[] then decide (x.ms≠[]/\y.ms=[]) else mlt x.ms y.ms)=p->p=x.older y:=fun h1 h2 h3 h4=>by
  unfold Mk.older;rw[Beg (by simpa using h1),Beg (by simpa using h2),Beg (by simpa using h3),h4]
 refine cK.ndec (fun h1=>q (by unfold Mk.older;rw[Bef h1])) fun h1=>cK.ndec (fun h2=>q (by unfold Mk.older;rw[Beg (by simpa using h1),Bef h2])) fun h2=>cK.ndec (fun h3=>q (by unfold Mk.older;rw[Beg (by simpa using h1),Beg (by simpa using h2),Bef h3])) fun h3 =>
  cK.dec (fun h4=>cK.ndec (fun h5=>absurd h4 h5) fun h5=>q (e4 h1 h2 h3 (by simp[h4]))) fun h4=>cK.dec (fun h5=>cK.ndec (fun _=>q (e4 h1 h2 h3 (by simp[h4,h5]))) fun h6=>absurd h6 h4) fun h5=>⟨⟨by split<;>lia,by split<;>lia⟩,?_⟩
 have e5:mlt x.ms y.ms=x.older y:=e4 h1 h2 h3 (by rw[Beg (by rw[not_or];exact⟨h4,h5⟩)])
 generalize hn:(if ((y.ms.length:Nat):Int) < x.ms.length then ((y.ms.length:Nat):Int) else x.ms.length).toNat=n
 have hn:n=min x.ms.length y.ms.length:=by rw[<- hn];split<;>lia
 refine Px (fun k e m=>m=[]/\x.ms.take k=y.ms.take k/\∃ w,e=[some (D.tup [D.int x.a,D.int x.b,D.int x.c,D.tup (List.map Mark.d x.ms)]),some (D.tup [D.int y.a,D.int y.b,D.int y.c,D.tup (List.map Mark.d y.ms)]),w]) ?_ ?_ ⟨rfl,by simp,_,rfl⟩
 ·rintro k e m hk ⟨rfl,ht,w,rfl⟩
  have k1:k < x.ms.length:=by lia
  have k2:k < y.ms.length:=by lia
  refine⟨trivial,?_⟩
  simp_arith[M0 k1,M0 k2,M6]
  refine cK.ndec (fun h6=>q ?_) fun h6=>⟨?_,_,rfl⟩
  ·rw[<- e5];exact (Ajk ht (Beu k1) (Beu k2) h6).symm
  ·rw[List.take_add_one,List.take_add_one,ht,Beu k1,Beu k2,h6]
 ·rintro e m ⟨rfl,ht,w,rfl⟩
  refine⟨trivial,?_⟩
  array_get_dec
  refine q ?_
  rw[<- e5,Ab0 ht hn,Bgg];lia
structure Good (n:Nat) (y:Mk):Prop where
 a:0<=y.a
 b:0<=y.b
 c:0<=y.c
 ms:∀ m∈y.ms,mok m
 l:y.ms.length<=n
theorem Mo0.good {x:Mk} (h:Mo0 x) {n:Nat} (hl:x.ms.length<=n):Good n x:=⟨h.a.1,h.b.1,h.c.1,h.ms,hl⟩
theorem An0 {m:Mark} (h:mok m):m.pos:=by cases m with|n i=>exact h.1|s t=>trivial
theorem H0 {sc:D}{ns:List Int} (hs:Scr sc ns) (k:Int) (hk:0<=k) (hk2:k < 80000) (n:Nat) (hn8:8<=n) {L:List D} (h0:0 < L.length) (hL:L.length<=20) (good:∀ d∈L,∃ y:Mk,d=y.d/\Good n y) {e2 e3 e4 e5 e6:Option D}{m0:MObj} :
  W (Ms [some sc,some (.int k),e2,e3,e4,e5,e6,some (.ref 1),none] [m0,.lst L]) (Yx fun d=>∃ y:Mk,d=y.d/\Mo0 y/\y.ms.length<=n):=by
 have fresh:W (Lv [sc,.int (k+2)]) fun d=>W (Ci [m0,.lst L] d) fun d=>∃ y:Mk,d=y.d/\Mo0 y/\y.ms.length<=n:=by
  refine (Abu hs (k+2) (by lia) (by lia)).imp fun d ⟨y,e,h1,h2⟩=>?_
  subst e
  rw[Es (Mk.pure y)]
  exact⟨y,rfl,h1,by lia⟩
 unfold Ms
 try simp_arith[↓hs.v]
 refine B2 (Bh hs _ _ (by lia) (by lia) (by lia)) fun v hv0 hv1=>?_
 try simp_arith[↓hs.v]
 refine Et hv0 hv1 fun d _ hd=>?_
 obtain⟨y,rfl,g⟩:=good d hd
 have gp:=Mk.pure y
 unfold Mk.d at gp
 unfold Mk.d
 simp_arith[↓hs.v,gp]
 refine⟨by simp,cK.dec (fun h1=>B2 (Bh hs _ 4 (by lia) (by lia) (by decide)) fun w hw0 hw1=>?_) fun h1=>fresh⟩
 simp_arith[↓hs.v,gp]
 refine cK.dec (fun h2=>?_) fun h2=>fresh
 have q:y.a < 1000000000000/\y.b < 1000000000000/\y.c < 1000000000000:=by
  simp only[At0,List.foldl_cons,List.foldl_nil] at h1
  lia
 exact⟨y,rfl,⟨⟨g.a,q.1⟩,⟨g.b,q.2.1⟩,⟨g.c,q.2.2⟩,g.ms⟩,g.l⟩
theorem Rb {α β:Type}{f:α->β}{xs:List α}:(xs.map f).dropLast=xs.dropLast.map f:=by
 rw[Bgz,Bgz,Bel,List.map_take]
theorem Ab7 {sc:D}{ns:List Int} (hs:Scr sc ns) (k:Int) (hk:0<=k) (hk2:k < 80000) (x:Mk) (n:Nat) (hn:n<=100) (hn8:8<=n) (hx:Good n x):W (Ni [sc,.int k,x.d]) fun d=>∃ y:Mk,d=y.d/\Mo0 y/\y.ms.length<=n:=by
 obtain⟨xa,xb,xc,xm,hxl⟩:=hx
 have z0:mok (.n 0):=⟨by decide,by decide⟩
 have l0:∀ m∈[Mark.n 0],mok m:=fun m hm=>by simp at hm;subst hm;exact z0
 have nn:∀ m∈([]:List Mark),mok m:=fun _ h=>nomatch h
 have xd:∀ m∈x.ms.dropLast,mok m:=fun m hm=>xm m (by rw[Bgz] at hm;exact List.mem_of_mem_take hm)
 have ld:x.ms.dropLast.length<=n:=by rw[List.length_dropLast];lia
 unfold Ni Am8
 rw[Ay]
 unfold Mk.d
 simp_arith[↓hs.v,Rb]
 have snoc:∀ (l:List Mark) (m:Mark),l.map Mark.d++[m.d]=(l++[m]).map Mark.d:=fun l m=>by simp
 have more:∀ (l:List Mark) (m:Mark),(∀ m∈l,mok m)->mok m->l.length+1<=n->Good n ⟨x.a,x.b,x.c,l++[m]⟩:=fun l m h1 h2 h3=>⟨xa,xb,xc,fun q hq=>by
  rcases List.mem_append.mp hq with h|h
  ·exact h1 q h
  ·simp at h;subst h;exact h2,by simp;lia⟩
 have b1:∃ y:Mk,D.tup [D.int x.a,D.int x.b,D.int x.c,D.tup (List.map Mark.d x.ms)]=y.d/\Good n y:=⟨x,rfl,⟨xa,xb,xc,xm,hxl⟩⟩
 have b2:∃ y:Mk,D.tup [D.int x.a,D.int x.b,D.int x.c,D.tup []]=y.d/\Good n y:=⟨⟨x.a,x.b,x.c,[]⟩,rfl,⟨xa,xb,xc,nn,by simp⟩⟩
 have b3:∃ y:Mk,D.tup [D.int x.a,D.int x.b,D.int x.c,D.tup (List.map Mark.d x.ms.dropLast)]=y.d/\Good n y:=⟨⟨x.a,x.b,x.c,x.ms.dropLast⟩,rfl,⟨xa,xb,xc,xd,ld⟩⟩
 have b4:∃ y:Mk,D.tup [D.int x.a,D.int x.b,D.int (x.c+1),D.tup [D.int 0]]=y.d/\Good n y:=⟨⟨x.a,x.b,x.c+1,[.n 0]⟩,rfl,⟨xa,xb,by dsimp only;lia,l0,by simp;lia⟩⟩
 have b5:∃ y:Mk,D.tup [D.int x.a,D.int (x.b+1),D.int 0,D.tup [D.int 0]]=y.d/\Good n y:=⟨⟨x.a,x.b+1,0,[.n 0]⟩,rfl,⟨xa,by dsimp only;lia,by dsimp only;lia,l0,by simp;lia⟩⟩
 have b6:∃ y:Mk,D.tup [D.int (x.a+1),D.int 0,D.int 0,D.tup [D.int 0]]=y.d/\Good n y:=⟨⟨x.a+1,0,0,[.n 0]⟩,rfl,⟨by dsimp only;lia,by dsimp only;lia,by dsimp only;lia,l0,by simp;lia⟩⟩
 have b7:∃ y:Mk,D.tup [D.int x.a,D.int x.b,D.int 0,D.tup []]=y.d/\Good n y:=⟨⟨x.a,x.b,0,[]⟩,rfl,⟨xa,xb,by dsimp only;lia,nn,by simp⟩⟩
 have b8:∃ y:Mk,D.tup [D.int 0,D.int 0,D.int 0,D.tup [D.int 0]]=y.d/\Good n y:=⟨⟨0,0,0,[.n 0]⟩,rfl,⟨by dsimp only;lia,by dsimp only;lia,by dsimp only;lia,l0,by simp;lia⟩⟩
 have bm:∀ (l:List Mark) (m:Mark),(∀ m∈l,mok m)->mok m->l.length+1<=n->∃ y:Mk,D.tup [D.int x.a,D.int x.b,D.int x.c,D.tup (l.map Mark.d++[m.d])]=y.d/\Good n y:=fun l m h1 h2 h3=>⟨⟨x.a,x.b,x.c,l++[m]⟩,by unfold Mk.d;rw[snoc],more l m h1 h2 h3⟩
 refine cK.dec (fun h1=>(L1 hs (k+1) (by lia) (by lia)).imp fun d ⟨m1,e,hm1⟩=>?_) fun h1=>?_
 ·subst e
  refine⟨by lia,by lia,cK.dec (fun h2=>(L1 hs (k+1) (by lia) (by lia)).imp fun d ⟨m2,e,hm2⟩=>?_) fun h2=>?_⟩
  ·subst e
   refine⟨by lia,H0 hs k hk hk2 n hn8 (by simp) (by simp) fun d hd=>?_⟩
   simp only[Bex,Bes,or_false] at hd
   rcases hd with h|h|h|h|h|h|h|h|h|h|h<;>rw[h]<;>first|assumption|skip
   ·exact bm _ _ xm hm1 (by lia)
   ·exact bm _ (.n 0) xm z0 (by lia)
   ·exact bm _ _ xd hm2 (by rw[List.length_dropLast];lia)
  ·refine H0 hs k hk hk2 n hn8 (by simp) (by simp) fun d hd=>?_
   simp only[Bex,Bes,or_false] at hd
   rcases hd with h|h|h|h|h|h|h|h|h|h<;>rw[h]<;>first|assumption|skip
   ·exact bm _ _ xm hm1 (by lia)
   ·exact bm _ (.n 0) xm z0 (by lia)
 ·refine cK.dec (fun h2=>(L1 hs (k+1) (by lia) (by lia)).imp fun d ⟨m2,e,hm2⟩=>?_) fun h2=>?_
  ·subst e
   refine⟨by lia,H0 hs k hk hk2 n hn8 (by simp) (by simp) fun d hd=>?_⟩
   simp only[Bex,Bes,or_false] at hd
   rcases hd with h|h|h|h|h|h|h|h|h<;>rw[h]<;>first|assumption|skip
   exact bm _ _ xd hm2 (by rw[List.length_dropLast];lia)
  ·refine H0 hs k hk hk2 n hn8 (by simp) (by simp) fun d hd=>?_
   simp only[Bex,Bes,or_false] at hd
   rcases hd with h|h|h|h|h|h|h|h<;>rw[h]<;>assumption
theorem Agk {sc:D}{ns:List Int} (hs:Scr sc ns) (base many:Int) (hb:0<=base) (hb2:base < 10000) (hm:0<=many) (hm2:many < 100):W (Rt [sc,.int base,.int many]) fun d=>∃ xs:List Mk,d=.lst (xs.map Mk.d)/\(∀ x∈xs,Mo0 x/\x.ms.length<=8)/\(xs.length:Int)=many:=by
 unfold Rt Am2
 rw[Ay]
 try simp_arith[↓hs.v]
 refine⟨⟨by lia,by lia⟩,Px (fun k e m=>∃ (xs:List Mk) (v w:Option D),m=[.lst (xs.map Mk.d)]/\e=[some sc,some (.int base),some (.int many),some (.ref 0),v,w]/\xs.length=k/\∀ x∈xs,Mo0 x/\x.ms.length<=8) ?_ ?_ ⟨[],_,_,rfl,rfl,rfl,fun _ h=>nomatch h⟩⟩
 ·rintro k e m hk ⟨xs,v,w,rfl,rfl,hx,hok⟩
  refine⟨trivial,?_⟩
  have app:∀ x:Mk,Mo0 x/\x.ms.length<=8->∀ {u1 u2:Option D},xs.length < 1000000/\∃ (xs_1:List Mk) (v w:Option D),[MObj.lst (List.map Mk.d xs++[x.d])]=[MObj.lst (List.map Mk.d xs_1)]/\[some sc,some (.int base),some (.int many),some (.ref 0),u1,u2]=[some sc,some (.int base),some (.int many),some (.ref 0),v,w]/\xs_1.length=k+1/\∀ x∈xs_1,Mo0 x/\x.ms.length<=8:=fun x h u1 u2 =>
   ⟨by lia,xs++[x],_,_,by simp,rfl,by simp[hx],fun y hy=>by
    rcases List.mem_append.mp hy with h'|h'
    ·exact hok y h'
    ·simp at h';subst h';exact h⟩
  try simp_arith[↓hs.v]
  refine (Abu hs _ (by lia) (by lia)).imp fun d ⟨x,e,h1,h2⟩=>?_
  subst e
  try simp_arith[↓hs.v]
  refine cK.dec (fun h3=>B2 (Bh hs _ 4 (by lia) (by lia) (by decide)) fun v hv0 hv1=>?_) fun _=>app x ⟨h1,h2⟩
  try simp_arith[↓hs.v]
  refine cK.dec (fun _=>B2 (Bh hs _ _ (by lia) (by lia) (by lia)) fun v2 hv20 hv21=>?_) fun _=>app x ⟨h1,h2⟩
  try simp_arith[↓hs.v]
  refine Et hv20 (by simp;lia) fun d _ hd=>?_
  obtain⟨y,hy,rfl⟩:=List.mem_map.mp hd
  try simp_arith[↓hs.v]
  refine (Ab7 hs _ (by lia) (by lia) y 8 (by decide) (by decide) ((hok y hy).1.good (hok y hy).2)).imp fun d ⟨z,e,h4,h5⟩=>?_
  subst e
  exact app z ⟨h4,h5⟩
 ·rintro e m ⟨xs,v,w,rfl,rfl,hx,hok⟩
  refine⟨trivial,?_⟩
  try simp_arith[↓hs.v]
  exact⟨xs,rfl,hok,by lia⟩
theorem Ab8 (x:Mk) (hx:x.ms.length<=1000) {Q:D->Prop}:W (Hv [x.d]) Q=Q x.next.d:=W.eq <| by
 unfold Hv Amn
 rw[Ay]
 unfold Mk.d
 array_get_dec
 refine cK.mk (fun h=>⟨by lia,?_⟩) fun h=>?_
 ·unfold Mk.next;rw[Beg (by intro z;rw[z] at h;simp at h)];simp;rfl
 ·unfold Mk.next;rw[Bef (by simpa using h)];rfl
instance:Inhabited Mk:=⟨⟨0,0,0,[]⟩⟩
theorem Acm (a b c:Mk) (h:a.older c=true):a.older b=true\/b.older c=true:=by
 by_cases e:a=b
 ·subst e;exact .inr h
 ·cases q:a.older b with
  |true=>exact .inl rfl
  |false =>
   have:=Cw e
   rw[q] at this
   have h2:b.older a=true:=by cases z:b.older a with
    |true=>rfl
    |false=>rw[z] at this;cases this
   exact .inr (A9 h2 h)
theorem Agw (a b:Mk) (h1:a.older b=false) (h2:b.older a=false):a=b:=by
 by_cases e:a=b
 ·exact e
 ·have:=Cw e
  rw[h1,h2] at this
  cases this
theorem Abh {fn:List D->Option D}{m:MH}:∀ {xs:List Mk},(∀ x∈xs,fn [x.d]=some x.rk)->Oz fn m (xs.map Mk.d)=some (xs.map Mk.rk)
 |[],_=>rfl
 |x::xs,h=>by
  have e:Ew 1 fn [x.d] m=some x.rk:=by
   unfold Ew
   rw[Co,Mu x.pure]
   exact h x (Beb ..)
  rw[Bee,Oz,e,Bee]
  show (Oz fn m (xs.map Mk.d)).bind _=_
  rw[Abh fun y hy=>h y (Bed _ hy)]
  rfl
theorem Ah8 {fn:List D->Option D}{m:MH}{xs:List Mk}{vs:List D} (h:∀ x∈xs,fn [x.d]=some x.rk) (hl:xs.length < 64):∃ ys:List Mk,ys.Perm xs/\ys.Pairwise (fun x y=>y.older x=false)/\L7 fn [.dic (xs.map Mk.d) vs] m=some (ys.map Mk.d):=by
 have hk:=Abh (m:=m) h
 have hd:Yv (Cf (xs.map Mk.d))=xs.map Mk.d:=Uy (Ga xs)
 have c1:(xs.map Mk.rk).all Ajf=true:=by
  rw[List.all_eq_true]
  intro d hd
  obtain⟨x,_,rfl⟩:=List.mem_map.mp hd
  rfl
 have c2:Ba (xs.map Mk.rk)=true:=Bd (A2 Mk.rk_pure)
 have c3:Ei (xs.map Mk.rk)<=20:=D7 fun d hd=>by
  obtain⟨x,_,rfl⟩:=List.mem_map.mp hd
  have:=Mk.rk_dep x
  lia
 have go:∀ ys:List Mk,ys.Perm xs->ys.Pairwise (fun x y=>y.older x=false)->T9 false (xs.map Mk.d) (xs.map Mk.rk)=some (ys.map Mk.d)->∃ ys:List Mk,ys.Perm xs/\ys.Pairwise (fun x y=>y.older x=false)/\L7 fn [.dic (xs.map Mk.d) vs] m=some (ys.map Mk.d):=fun ys h1 h2 h3=>by
  refine⟨ys,h1,h2,?_⟩
  unfold L7
  simp only
  rw[show Ra m (D.dic (xs.map Mk.d) vs)=some (xs.map Mk.d,vs) from rfl,Bfc,hd,hk,Bfc,h3,Bfc]
  rw[Bef ⟨by simpa using hl,c1,c2,c3,by rw[Bel,h1.length_eq];exact hl⟩]
 by_cases h2:xs.length < 2
 ·refine go xs (List.Perm.refl _) ?_ ?_
  ·match xs,h2 with
   |[],_=>exact .nil
   |[x],_=>exact Bfq ..
  ·unfold T9
   rw[Bef (by simpa using h2)]
 ·obtain⟨p,e,hp,hs,hi⟩:=Ad8 (blt:=Mk.older) (zs:=xs) Nz (fun a b c=>A9) Acm Agw (c:=fun i j=>ltD ((W.katRev false (xs.map Mk.rk)).getD i .non) ((W.katRev false (xs.map Mk.rk)).getD j .non)) (fun i j hi hj=>by
   have g:∀ i (hi:i < xs.length),(W.katRev false (xs.map Mk.rk)).getD i .non=(xs[i]).rk:=fun i hi=>by
    show (xs.map Mk.rk).getD i .non=_
    rw[Beo,Bey,Beu hi]
    rfl
   show ltD _ _=_
   rw[g i hi,g j hj,Mk.rk_lt]) (by lia)
  refine go (p.toList.map fun i=>xs.getD i default) hp hs ?_
  unfold T9
  rw[Beg (by simpa using h2),Bel,e]
  show some (W.katRev false _)=_
  congr 1
  show (p.toList.map fun i=>(xs.map Mk.d).getD i .non)=_
  rw[Be8]
  refine Bfm fun i hi'=>?_
  have hlt:=hi i hi'
  rw[Beo,Bey,Beu hlt]
  show xs[i].d=(xs.getD i default).d
  rw[Beo,Beu hlt]
  rfl
theorem Oo (ps:List Pc) (hl:ps.length<=900) {Q:D->Prop}:W (Lr [.tup (ps.map pD)]) Q=Q (.lst ((On ps).map Mk.d)):=W.eq <| by
 unfold Lr Amt
 rw[Ay]
 array_get_dec
 refine G1 (fun rest e m=>∃ (ys:List Mk) (v w:Option D),m=[.lst (ys.map Mk.d)]/\e=[some (.tup (ps.map pD)),some (.ref 0),v,w]/\ys++On rest=On ps/\ys.length+2 * rest.length<=1800) ?_ ?_ ⟨[],_,_,rfl,rfl,rfl,by simp;lia⟩
 ·rintro ⟨l,h⟩ rest e m ⟨ys,v,w,rfl,rfl,he,hn⟩
  refine⟨trivial,?_⟩
  rw[Beh] at hn
  cases h with
  |none =>
   array_get_dec
   exact⟨by lia,ys++[l],_,_,by simp,rfl,by rw[<- he];simp[On],by simp;lia⟩
  |some h =>
   array_get_dec
   simp only[oD]
   array_get_dec
   exact⟨by lia,by simp;lia,ys++[l,h],_,_,by simp,rfl,by rw[<- he];simp[On],by simp;lia⟩
 ·rintro e m ⟨ys,v,w,rfl,rfl,he,hn⟩
  refine⟨trivial,?_⟩
  rw[On,Bev] at he
  subst he
  array_get_dec
def Ve (t:Str):D:=match Tg t with|none=>.non|some n=>.int n
def Hz (t:Str):D:=if Cj t=true then .str t else Ve t
theorem Ab6 (t:Str) (ht:t.length<=5000) {Q:D->Prop}:W (Nh [.str t]) Q=Q (.bl (Cj t)):=W.eq <| by
 unfold Nh Amw
 rw[Ay]
 array_get_dec
 refine⟨by lia,cK.dec (fun h1=>cK.dec (fun h2=>⟨by unfold G9;rw[Bel,<- O1];lia,?_⟩) fun h2=>?_) fun h1=>?_⟩
 ·refine Be (fun c=>.bl (decide (c∈Aq1))) (fun c _=>?_) ?_
  ·simp_arith[Ajd]
  ·rw[Ha,all_map]
   unfold Cj
   rw[Bf0 (show 1<=t.length by lia),Bf0 (show t.length<=8 by lia)]
   rfl
 ·unfold Cj
  rw[Be4 (show ¬ t.length<=8 by lia)]
  simp
 ·unfold Cj
  rw[Be4 (show ¬ 1<=t.length by lia)]
  simp
theorem Gc (t:Str) (ht:t.length<=5000) {Q:D->Prop}:W (Lq [.str t]) Q=Q (Ve t):=W.eq <| by
 unfold Lq Aml
 rw[Ay]
 array_get_dec
 have hsig:(G9 t).length<=1000000:=by unfold G9;rw[Bel,<- O1];lia
 refine⟨by lia,cK.dec (fun h1=>cK.ndec (fun h2=>?_) fun h2=>⟨hsig,?_⟩) fun h1=>?_⟩
 ·rw[Ve,Tg,Bef (by lia)]
 ·refine Be (fun c=>.bl (decide (c∈Atk))) (fun c _=>?_) ?_
  ·simp_arith[Ajd]
  ·rw[Ha,all_map]
   refine⟨fun h3=>?_,fun h3=>⟨by lia,?_⟩⟩
   ·rw[Ve,Tg,Beg (by lia),Bef (by simpa using h3)]
   ·have h3':(t.cps.toList.all fun c=>decide (c∈Atk))=true:=by simpa using h3
    have hl:t.length=t.cps.toList.length:=O1
    have had:NumText.AllDigits t.cps.toList:=fun c hc=>mem_digs.mp (Bfk (List.all_eq_true.mp h3' c hc))
    have hne:t.cps.toList≠[]:=fun e=>by rw[e] at hl;simp at hl;lia
    have hit:=intText_digits (x:=t) had hne (by lia)
    refine Et (by lia) (by lia) fun c hc _=>?_
    simp only[Iy,Li,Aev]
    have hn:Ve t=if c=48/\t≠⟨#[48]⟩ then .non else .int (NumText.digitsVal t.cps.toList):=by
     have hc':t.cps.toList[0]?=some c:=hc
     rw[Ve,Tg,Beg (by lia),Beg (by rw[h3'];decide),hc',Aev]
     by_cases q:c=48/\t≠⟨#[48]⟩
     ·rw[Bef ⟨by rw[q.1],q.2⟩,Bef q]
     ·rw[Beg (fun z=>q ⟨Bfg z.1,z.2⟩),Beg q]
    refine cK.dec (fun h4=>cK.ndec (fun h5=>?_) fun h5=>⟨by lia,.mk hit ?_⟩) fun h4=>⟨by lia,.mk hit ?_⟩
    ·rw[hn,Bef ⟨by simpa using h4,h5⟩]
    ·rw[hn,Beg (fun h=>h.2 h5)]
    ·rw[hn,Beg (fun h=>h4 (by rw[h.1]))]
 ·rw[Ve,Tg,Bef (by lia)]
theorem Uq {z w:Str}{m:MH}{Q:List D->Prop}:W (D1 (.str z) [.str w] m) Q=((w.length≠0/\z.length<=1000000/\(Txt.split z w).length<=1000000)/\Q ((Txt.split z w).map .str)):=G2
theorem Asd {z w:Str}{m:MH}{Q:D->Prop}:W (Dr (.str z) [.str w] m) Q=((w.length≠0/\z.length<=1000000)/\Q (.tup [.str (Txt.partition z w).1,.str (Txt.partition z w).2.1,.str (Txt.partition z w).2.2])):=G2
abbrev dot:Str:=⟨#[46]⟩
theorem Jj:Str.ofString "."=dot:=by decide +kernel
theorem Xq:Str.ofString "-"=⟨#[45]⟩:=by decide +kernel
theorem Ao2:Str.ofString "+"=⟨#[43]⟩:=by decide +kernel
theorem Ij {z:Str} (h:z.length<=5000) {m:MH}{Q:List D->Prop}:W (D1 (.str z) [.str dot] m) Q=Q ((Txt.split z dot).map .str):=by
 rw[Uq]
 have:=Ii z 46
 apply Bgl
 exact⟨fun q=>q.2,fun q=>⟨⟨by decide,by lia,by show (Txt.split z ⟨#[46]⟩).length<=_;lia⟩,q⟩⟩
set_option tactic.hygienic true in
theorem Vx {z p:Str} (h:p∈Txt.split z dot):p.length<=z.length:=by
 have h2:L p∈spl 46 (L z):=by rw[<- Ik];exact List.mem_map.mpr ⟨p,h,rfl⟩
 rw[Cr,Cr]
 have:∀ (xs:List Nat) (q:List Nat),q∈spl 46 xs->q.length<=xs.length:=by
  intro xs
  induction xs with
  |nil=>intro q hq;simp[spl] at hq;simp[hq]
  |cons x xs ih =>
   intro q hq
   unfold spl at hq
   split at hq
   ·rcases List.mem_cons.mp hq with rfl|hq
    ·simp
    ·have:=ih q hq;simp;lia
   ·split at hq
    ·simp at hq;simp[hq]
    ·rename_i p ps e
     rcases List.mem_cons.mp hq with rfl|hq
     ·have:=ih p (by rw[e];simp);simp;lia
     ·have:=ih q (by rw[e];simp[hq]);simp;lia
 exact this _ _ h2
theorem Gb (t:Str):Bc (Ve t)=true:=by
 unfold Ve
 cases Tg t with
 |none=>exact Ee
 |some n=>exact Cv
theorem Jb (t:Str):Bc (Hz t)=true:=by
 unfold Hz
 split
 ·exact E9
 ·exact Gb t
theorem Ug (t:Str):Bc (D.str t)=true:=E9
def rnD (t:Str):D:=if (Txt.split t dot).length≠3\/((Txt.split t dot).map Ve).any (fun d=>deq d .non)=true then .non else .tup ((Txt.split t dot).map Ve)
def rmD (t:Str):D:=if 12 < (Txt.split t dot).length\/((Txt.split t dot).map Hz).any (fun d=>deq d .non)=true then .non else .tup ((Txt.split t dot).map Hz)
def roD (t:Str):D:=if 4 < (Txt.split t dot).length\/(Txt.split t dot).all Cj=false then .non else .tup ((Txt.split t dot).map .str)
theorem Nw {f:Str->D} (h:∀ t,Bc (f t)=true) (ts:List Str):Ba (ts.map f)=true:=Bd (A2 h)
theorem Mj (t:Str) (ht:t.length<=5000) {Q:D->Prop}:W (Aay [.str t]) Q=Q (rnD t):=W.eq <| by
 unfold Aay Azl
 rw[Ay]
 have hl:=Ii t 46
 simp_arith[Jj,Ij ht]
 refine⟨by show (Txt.split t ⟨#[46]⟩).length<=_;lia,Be Ve (fun p hp=>?_) ?_⟩
 ·have:=Vx hp
  simp_arith[Gc p (by lia)]
 simp_arith[Nw Gb]
 refine cK.ndec (fun h=>?_) fun h=>cK.mk (fun h2=>?_) fun h2=>?_
 ·rw[rnD,Bef (.inl (by lia))]
 ·rw[rnD,Bef (.inr h2)]
 ·simp_arith[A2 Gb]
  rw[rnD,Beg (by rw[h2];simp;lia)]
theorem T1 (t:Str) (ht:t.length<=5000) {Q:D->Prop}:W (Rl [.str t]) Q=Q (Hz t):=W.eq <| by
 unfold Rl Amo
 rw[Ay]
 simp_arith[Ab6 t ht,Gc t ht,Gb]
 refine cK.mk (fun h=>?_) fun h=>?_
 ·array_get_dec
  rw[Hz,Bef h]
 ·array_get_dec
  rw[Hz,Beg (by rw[h];decide)]
theorem Pf (t:Str) (ht:t.length<=5000) {Q:D->Prop}:W (Rh [.str t]) Q=Q (rmD t):=W.eq <| by
 unfold Rh Amf
 rw[Ay]
 have hl:=Ii t 46
 simp_arith[Jj,Ij ht]
 refine⟨by show (Txt.split t ⟨#[46]⟩).length<=_;lia,Be Hz (fun p hp=>?_) ?_⟩
 ·have:=Vx hp
  simp_arith[T1 p (by lia)]
 simp_arith[Nw Jb]
 refine cK.dec (fun h=>?_) fun h=>cK.mk (fun h2=>?_) fun h2=>?_
 ·rw[rmD,Bef (.inl (by lia))]
 ·rw[rmD,Bef (.inr h2)]
 ·simp_arith[A2 Jb]
  rw[rmD,Beg (by rw[h2];simp;lia)]
theorem Pg (t:Str) (ht:t.length<=5000) {Q:D->Prop}:W (Ri [.str t]) Q=Q (roD t):=W.eq <| by
 unfold Ri Amg
 rw[Ay]
 have hl:=Ii t 46
 simp_arith[Jj,Ij ht]
 refine cK.dec (fun h=>?_) fun h=>⟨by show (Txt.split t ⟨#[46]⟩).length<=_;lia,Be (fun p=>.bl (Cj p)) (fun p hp=>?_) ?_⟩
 ·rw[roD,Bef (.inl (by lia))]
 ·have:=Vx hp
  simp_arith[Ab6 p (by lia)]
 rw[Ha,all_map]
 cases h2:(Txt.split t dot).all Cj with
 |false =>
  array_get_dec
  rw[roD,Bef (.inr h2)]
 |true =>
  simp_arith[A2 Ug]
  rw[roD,Beg (by rw[h2];simp;lia)]
noncomputable def Vg (f:Str->D):Option Str->D
 |none=>.tup []
 |some s=>f s
def rd3 (n:Str) (k o:Option Str):D:=match rnD n,Vg rmD k,Vg roD o with
 |.tup n,.tup k,.tup o=>.tup [.tup (n++[.tup k]),.tup o]
 |_,_,_=>.non
def rd (t:Str):D:=rd3 (cut 45 (cut 43 t).1).1 (cut 45 (cut 43 t).1).2 (cut 43 t).2
theorem Acw (t:Str) (c:Nat):(Txt.partition t ⟨#[c]⟩).1.length<=t.length/\(Txt.partition t ⟨#[c]⟩).2.2.length<=t.length/\(Txt.partition t ⟨#[c]⟩).2.1.length<=1:=by
 by_cases h:c∈L t
 ·obtain⟨a,b,e,hc⟩:=Aak h
  rw[(Lc e hc).1]
  rw[Cr (x:=t),e]
  simp[Str.length]
  lia
 ·rw[Mc h]
  exact⟨Bej _,Bfe _,Bfe _⟩
theorem Acx {z:Str}{c:Nat} (h:z.length<=5000) {m:MH}{Q:D->Prop}:W (Dr (.str z) [.str ⟨#[c]⟩] m) Q=Q (.tup [.str (Txt.partition z ⟨#[c]⟩).1,.str (Txt.partition z ⟨#[c]⟩).2.1,.str (Txt.partition z ⟨#[c]⟩).2.2]):=by
 rw[Asd]
 apply Bgl
 exact⟨fun q=>q.2,fun q=>⟨⟨by simp[Str.length],by lia⟩,q⟩⟩
theorem Ahy (t:Str):rnD t=.non\/∃ l,rnD t=.tup l/\A3 l=true/\l.length=3:=by
 unfold rnD
 by_cases h:(Txt.split t dot).length≠3\/((Txt.split t dot).map Ve).any (fun d=>deq d .non)=true
 ·rw[Bef h];exact .inl rfl
 ·rw[Beg h];exact .inr ⟨_,rfl,A2 Gb,by rw[Bel];exact Bgf fun z=>h (.inl z)⟩
theorem Awl (k:Option Str):Vg rmD k=.non\/∃ l,Vg rmD k=.tup l/\A3 l=true:=by
 cases k with
 |none=>exact .inr ⟨[],rfl,Dp⟩
 |some t =>
  show rmD t=.non\/∃ l,rmD t=.tup l/\_
  unfold rmD
  split
  ·exact .inl rfl
  ·exact .inr ⟨_,rfl,A2 Jb⟩
theorem Awo (k:Option Str):Vg roD k=.non\/∃ l,Vg roD k=.tup l/\A3 l=true:=by
 cases k with
 |none=>exact .inr ⟨[],rfl,Dp⟩
 |some t =>
  show roD t=.non\/∃ l,roD t=.tup l/\_
  unfold roD
  split
  ·exact .inl rfl
  ·exact .inr ⟨_,rfl,A2 Ug⟩
theorem Tz (t:Str) (ht:t.length<=5000) {Q:D->Prop}:W (Rn [.str t]) Q=Q (rd t):=W.eq <| by
 unfold Rn Amp
 rw[Ay]
 have l1:=Acw t 43
 have l2:=Acw (Txt.partition t ⟨#[43]⟩).1 45
 have c1:cut 43 t=((Txt.partition t ⟨#[43]⟩).1,if L (Txt.partition t ⟨#[43]⟩).2.1=[] then none else some (Txt.partition t ⟨#[43]⟩).2.2):=by
  unfold cut
  by_cases h:43∈L t
  ·obtain⟨a,b,e,hc⟩:=Aak h
   rw[Bef h,(Lc e hc).1,Beg (by simp)]
  ·rw[Beg h,Mc h,Bef (by rfl)]
 have c2:cut 45 (Txt.partition t ⟨#[43]⟩).1=((Txt.partition (Txt.partition t ⟨#[43]⟩).1 ⟨#[45]⟩).1,if L (Txt.partition (Txt.partition t ⟨#[43]⟩).1 ⟨#[45]⟩).2.1=[] then none else some (Txt.partition (Txt.partition t ⟨#[43]⟩).1 ⟨#[45]⟩).2.2):=by
  unfold cut
  by_cases h:45∈L (Txt.partition t ⟨#[43]⟩).1
  ·obtain⟨a,b,e,hc⟩:=Aak h
   rw[Bef h,(Lc e hc).1,Beg (by simp)]
  ·rw[Beg h,Mc h,Bef (by rfl)]
 have hrd:rd t=rd3 (Txt.partition (Txt.partition t ⟨#[43]⟩).1 ⟨#[45]⟩).1 (if L (Txt.partition (Txt.partition t ⟨#[43]⟩).1 ⟨#[45]⟩).2.1=[] then none else some (Txt.partition (Txt.partition t ⟨#[43]⟩).1 ⟨#[45]⟩).2.2) (if L (Txt.partition t ⟨#[43]⟩).2.1=[] then none else some (Txt.partition t ⟨#[43]⟩).2.2):=by
  unfold rd
  rw[c1]
  show rd3 (cut 45 (Txt.partition t ⟨#[43]⟩).1).1 (cut 45 (Txt.partition t ⟨#[43]⟩).1).2 _=_
  rw[c2]
 rw[hrd]
 simp_arith[Ao2,Xq,Acx ht,Acx (Bez l1.1 ht)]
 generalize Txt.partition (Txt.partition t ⟨#[43]⟩).1 ⟨#[45]⟩=a at l2
 generalize Txt.partition t ⟨#[43]⟩=h at l1 l2
 simp_arith[Mj a.1 (by lia),Pf a.2.2 (by lia),Pg h.2.2 (by lia)]
 have b1:∀ s:Str,((s.length:Int) != 0)=!decide (L s=[]):=fun s=>by
  rw[Cr]
  cases L s with
  |nil=>rfl
  |cons x l=>rw[Bft];simp;lia
 rw[b1,b1]
 refine⟨by lia,cK.mk (fun z1=>⟨by lia,cK.mk (fun z2=>?_) fun z2=>?_⟩) fun z1=>⟨by lia,cK.mk (fun z2=>?_) fun z2=>?_⟩⟩
 ·rw[Beg (show ¬ L a.2.1=[] by simpa using z1),Beg (show ¬ L h.2.1=[] by simpa using z2)]
  rcases Ahy a.1 with e1|⟨l1,e1,p1,n1⟩<;>rcases Awl (some a.2.2) with e2|⟨l2,e2,p2⟩<;>rcases Awo (some h.2.2) with e3|⟨l3,e3,p3⟩<;>simp only[Vg] at e2 e3<;>simp_arith[e1,e2,e3,rd3,Vg]
  simp_arith[p1,p2,p3,n1]
 ·rw[Beg (show ¬ L a.2.1=[] by simpa using z1),Bef (show L h.2.1=[] by simpa using z2)]
  rcases Ahy a.1 with e1|⟨l1,e1,p1,n1⟩<;>rcases Awl (some a.2.2) with e2|⟨l2,e2,p2⟩<;>simp only[Vg] at e2<;>simp_arith[e1,e2,rd3,Vg]
  simp_arith[p1,p2,n1]
 ·rw[Bef (show L a.2.1=[] by simpa using z1),Beg (show ¬ L h.2.1=[] by simpa using z2)]
  rcases Ahy a.1 with e1|⟨l1,e1,p1,n1⟩<;>rcases Awo (some h.2.2) with e3|⟨l3,e3,p3⟩<;>simp only[Vg] at e3<;>simp_arith[e1,e3,rd3,Vg]
  simp_arith[p1,p3,n1]
 ·rw[Bef (show L a.2.1=[] by simpa using z1),Bef (show L h.2.1=[] by simpa using z2)]
  rcases Ahy a.1 with e1|⟨l1,e1,p1,n1⟩<;>simp_arith[e1,rd3,Vg]
  simp_arith[p1,n1]
noncomputable def mt:Mark->Str
 |.n i=>sn i
 |.s t=>t
abbrev mp (x:Mk):List (List Nat):=[L (sn x.a),L (sn x.b),L (sn x.c)]
abbrev mq (ms:List Mark):List (List Nat):=ms.map fun m=>L (mt m)
def T (x:Mk) (os:List Str):Str:=S (txt (mp x) (mq x.ms) (os.map L))
theorem Ab2 {m:Mark} (h:mok m):(mt m).length<=15:=by
 cases m with
 |n i=>exact De h.1 (by have:=h.2;lia)
 |s t=>have:=O7 (t:=t) h;show t.length<=15;lia
theorem Aii {m:Mark} (h:mok m) {e:MH}{Q:D->Prop}:W (Zk [m.d] e) Q=Q (.str (mt m)):=by
 cases m with
 |n i =>
  show W (Zk [.int i] e) Q=Q (.str (sn i))
  rw[Aiz]
  have h1:=h.1
  have h2:=h.2
  exact Bgl ⟨fun z=>z.2,fun z=>⟨C2 (by lia),z⟩⟩
 |s t =>
  have:=O7 (t:=t) h
  show W (Zk [.str t] e) Q=Q (.str t)
  rw[Ai0]
  exact Bgl ⟨fun z=>z.2,fun z=>⟨by lia,z⟩⟩
theorem Gp:∀ ts:List Str,Jz (ts.map .str)=some ts
 |[]=>rfl
 |t::ts=>by
  rw[Bee,Jz,Gp ts]
  rfl
theorem Og {ts:List Str}{Q:List Str->Prop}:W (Jz (ts.map .str)) Q=Q ts:=by rw[Gp,Af]
theorem R8 {ts:List Str}:Txt.join dot ts=S (jn 46 (ts.map L)):=by
 apply D5
 rw[L_S,<- Iz]
 show L (Builtin.Str.glued dot ts)=_
 rw[StrLaws.glued_eq_join]
theorem Abe {ts:List Str}{b:Nat} (h:∀ t∈ts,t.length<=b) (hn:ts.length * b+ts.length<=1000000):JoinOk dot ts=true:=Xf h hn (by decide)
theorem Hf {i:Int} (h:0<=i/\i < 10000000000000):Ve (sn i)=.int i:=by
 rw[Ve,Agt h.1 (by have:=h.2;lia)]
 show D.int ((i.toNat:Nat):Int)=_
 rw[Int.toNat_of_nonneg h.1]
theorem Agl {m:Mark} (h:mok m):Hz (mt m)=m.d:=by
 cases m with
 |n i =>
  show Hz (sn i)=.int i
  rw[Hz,Beg (by rw[Ad6 h.1];decide),Hf h]
 |s t =>
  show Hz t=.str t
  rw[Hz,Bef (show Cj t=true from h)]
theorem At7 {m:Mark} (h:mok m):∀ c∈L (mt m),okc c:=by
 cases m with
 |n i=>exact Mm h.1
 |s t=>exact Xs h
theorem Ab3 {x:Mk} (h:Mok x):∀ p∈mp x,∀ c∈p,okc c:=fun p hp=>by
 simp only[Bex,Bes,or_false] at hp
 rcases hp with rfl|rfl|rfl
 ·exact Mm h.a.1
 ·exact Mm h.b.1
 ·exact Mm h.c.1
theorem Ab4 {x:Mk} (h:Mok x):∀ p∈mq x.ms,∀ c∈p,okc c:=fun p hp=>by
 obtain⟨m,hm,rfl⟩:=List.mem_map.mp hp
 exact At7 (h.ms m hm)
theorem Abv {ts:List Str}:(ts.map L).map S=ts:=by
 rw[Be8]
 exact (Bfm fun t _=>S_L).trans (List.map_id' ts)
theorem Bax {x:Mk} (h:Mok x):rnD (S (jn 46 (mp x)))=.tup [.int x.a,.int x.b,.int x.c]:=by
 have e:Txt.split (S (jn 46 (mp x))) dot=[sn x.a,sn x.b,sn x.c]:=Mo (by simp) (Ab3 h)
 unfold rnD
 rw[e]
 simp only[Bee,Bf9,Hf h.a,Hf h.b,Hf h.c]
 rw[Beg]
 simp[deq,pyD,PyData.eqv]
theorem Aib {x:Mk} (h:Mok x) (hn:mq x.ms≠[]):Txt.split (S (jn 46 (mq x.ms))) dot=x.ms.map mt:=by
 have:=Mo hn (Ab4 h)
 rw[show (mq x.ms).map S=x.ms.map mt by rw[mq,Be8];exact Bfm fun m _=>S_L] at this
 exact this
theorem Ans {x:Mk} (h:Mok x):(x.ms.map mt).map Hz=x.ms.map Mark.d:=by
 rw[Be8]
 exact Bfm fun m hm=>Agl (h.ms m hm)
theorem Afh (ms:List Mark):(ms.map Mark.d).any (fun d=>deq d .non)=false:=by
 rw[List.any_eq_false]
 intro d hd
 obtain⟨m,_,rfl⟩:=List.mem_map.mp hd
 cases m<;>simp[Mark.d,deq,pyD,PyData.eqv]
theorem Bde (x:Mk) (os:List Str) (hx:Mok x) (hm:x.ms.length<=12) (ho:∀ o∈os,Cj o=true) (hl:os.length<=4):rd (T x os)=.tup [x.d,.tup (os.map .str)]:=by
 obtain⟨c1,c2,c3⟩:=Aqu (n:=os.map L) (Ab3 hx) (Ab4 hx)
 unfold rd
 show rd3 (cut 45 (cut 43 (S (txt (mp x) (mq x.ms) (os.map L)))).1).1 (cut 45 (cut 43 (S (txt (mp x) (mq x.ms) (os.map L)))).1).2 (cut 43 (S (txt (mp x) (mq x.ms) (os.map L)))).2=_
 rw[c1,c2,c3]
 have k1:Vg rmD (if mq x.ms=[] then none else some (S (jn 46 (mq x.ms))))=.tup (x.ms.map Mark.d):=by
  by_cases h:mq x.ms=[]
  ·rw[Bef h,List.map_eq_nil_iff.mp h];rfl
  ·rw[Beg h]
   show rmD _=_
   unfold rmD
   rw[Aib hx h,Ans hx,Afh,Bel,Beg]
   simp
   lia
 have k2:Vg roD (if os.map L=[] then none else some (S (jn 46 (os.map L))))=.tup (os.map .str):=by
  by_cases h:os.map L=[]
  ·rw[Bef h,List.map_eq_nil_iff.mp h];rfl
  ·rw[Beg h]
   have e:Txt.split (S (jn 46 (os.map L))) dot=os:=by
    have:=Mo h fun p hp=>by obtain⟨o,hoo,rfl⟩:=List.mem_map.mp hp;exact Xs (ho o hoo)
    rw[Abv] at this
    exact this
   show roD _=_
   unfold roD
   rw[e,Beg]
   rintro (z|z)
   ·lia
   ·rw[List.all_eq_true.mpr ho] at z;cases z
 unfold rd3
 rw[Bax hx,k1,k2]
 rfl
theorem Arb (x:Mk) (os:List Str) (hx:Mok x) (hm:x.ms.length<=20) (ho:∀ o∈os,Cj o=true) (hl:os.length<=4):(T x os).length<=1000:=by
 unfold T
 rw[Dx]
 unfold txt
 have tle:∀ (c:Nat) (ps:List (List Nat)),ps.length<=20->(∀ p∈ps,p.length<=15)->(tl c ps).length<=321:=fun c ps h1 h2=>by
  have:=Xe (c:=46) h2
  unfold tl
  split
  ·simp
  ·rw[Beh];lia
 have j1:=Xe (c:=46) (b:=15) (ps:=mp x) fun p hp=>by
  simp only[Bex,Bes,or_false] at hp
  rcases hp with rfl|rfl|rfl<;>rw[<- Cr]
  ·exact De hx.a.1 (by have:=hx.a.2;lia)
  ·exact De hx.b.1 (by have:=hx.b.2;lia)
  ·exact De hx.c.1 (by have:=hx.c.2;lia)
 have j2:=tle 45 (mq x.ms) (by rw[Bel];exact hm) fun p hp=>by
  obtain⟨m,hmm,rfl⟩:=List.mem_map.mp hp
  rw[<- Cr]
  exact Ab2 (hx.ms m hmm)
 have j3:=tle 43 (os.map L) (by rw[Bel];lia) fun p hp=>by
  obtain⟨o,hoo,rfl⟩:=List.mem_map.mp hp
  rw[<- Cr]
  have:=O7 (ho o hoo)
  lia
 have:(mp x).length=3:=rfl
 rw[Bep,Bep]
 lia
theorem Af1 {m l:Mk}:inP m (l,none)=!m.older l:=by simp[inP]
theorem Af2 {m l h:Mk}:inP m (l,some h)=(!m.older l&&m.older h):=by simp[inP]
def small (p:Pc):Prop:=p.1.ms.length<=1000/\∀ h,p.2=some h->h.ms.length<=1000
def Z7 (ps:List Pc):Prop:=ps.Pairwise fun p q=>p.1.older q.1=true/\∃ h,p.2=some h/\h.older q.1=true
theorem Mb:∀ {ys:List Mk},Er ys->Z7 (Aq ys)
 |[],_=>.nil
 |[x],_=>Bfq ..
 |x::y::r,h=>by
  rw[Aq]
  obtain⟨h1,h2⟩:=List.pairwise_cons.mp h
  obtain⟨h3,h4⟩:=List.pairwise_cons.mp h2
  exact List.pairwise_cons.mpr ⟨fun q hq=>⟨h1 _ (Bed _ (Ds hq).1),y,rfl,h3 _ (Ds hq).1⟩,Mb h4⟩
theorem Afi {m:Mk}{ps:List Pc} (h:∀ (i:Nat) (p:Pc),ps[i]?=some p->m.older p.1=true):ps.any (inP m)=false:=by
 rw[List.any_eq_false]
 intro p hp
 obtain⟨i,hi⟩:=Bf2 hp
 unfold inP
 rw[h i p hi];simp
theorem Asy {m:Mk}{ps:List Pc}{n:Nat} (hn:n < ps.length) (ho:Z7 ps) (h1:m.older ps[n].1=false) (h2:∀ (i:Nat) (p:Pc),n < i->ps[i]?=some p->m.older p.1=true):ps.any (inP m)=inP m ps[n]:=by
 rw[Bft,List.any_eq_true]
 constructor
 ·rintro ⟨p,hp,h⟩
  obtain⟨i,hi⟩:=Bf2 hp
  obtain⟨hl,he⟩:=List.getElem?_eq_some_iff.mp hi
  rcases Nat.lt_trichotomy i n with h3|h3|h3
  ·obtain⟨_,z,hz,h4⟩:=List.pairwise_iff_getElem.mp ho i n hl hn h3
   rw[he] at hz
   unfold inP at h
   rw[hz,Bet] at h
   have h5:=A9 h.2 h4
   rw[h1] at h5;cases h5
  ·subst h3;rw[he];exact h
  ·unfold inP at h
   rw[h2 i p h3 hi] at h;simp at h
 ·exact fun h=>⟨_,Bfp hn,h⟩
theorem Anq (m:Mk) (ps:List Pc) (hm:m.ms.length<=1000) (hp:∀ p∈ps,small p) (hl:ps.length<=900) (ho:Z7 ps) {Q:D->Prop}:W (Ls [m.d,.tup (ps.map pD)]) Q=Q (.bl (ps.any (inP m))):=W.eq <| by
 unfold Ls Amy
 rw[Ay]
 array_get_dec
 refine Oh (fun k e w=>∃ (f b:Nat) (u v:Option D),k=b - f/\f<=b/\b<=ps.length/\w=[]/\e=[some m.d,some (.tup (ps.map pD)),some (.int f),some (.int b),u,v]/\(∀ (i:Nat) (p:Pc),i < f->ps[i]?=some p->m.older p.1=false)/\∀ (i:Nat) (p:Pc),b<=i->ps[i]?=some p->m.older p.1=true) ?_ (k:=ps.length) (by lia) ⟨0,ps.length,_,_,rfl,Bfe _,Bej _,rfl,rfl,fun i p h=>absurd h (Bhi _),fun i p h e=>by rw[Be3 h] at e;cases e⟩
 rintro k e w ⟨f,b,u,v,rfl,hfb,hbl,rfl,rfl,h1,h2⟩
 array_get_dec
 refine cK.dec (fun h3=>?_) fun h3=>?_
 ·have h3:f < b:=by lia
  have hmid:(f+b) / 2 < ps.length:=by lia
  have e2:((f:Int)+b) / 2=(((f+b) / 2:Nat):Int):=by lia
  have hs:=hp _ (Bfp hmid)
  simp_arith[e2,M0 hmid,Ej m ps[(f+b) / 2].1 hm hs.1]
  refine cK.mk (fun h4=>⟨_,?_,f,(f+b) / 2,_,_,rfl,by lia,by lia,rfl,h1,fun i p hi hq=>?_⟩) fun h4=>⟨_,?_,(f+b) / 2+1,b,_,_,rfl,by lia,hbl,rfl,fun i p hi hq=>?_,h2⟩
  ·lia
  ·obtain⟨hl',he⟩:=List.getElem?_eq_some_iff.mp hq
   rcases Nat.eq_or_lt_of_le hi with h5|h5
   ·subst h5;rw[<- he];exact h4
   ·have h6:=(List.pairwise_iff_getElem.mp ho _ i hmid hl' h5).1
    rw[he] at h6
    exact A9 h4 h6
  ·lia
  ·obtain⟨hl',he⟩:=List.getElem?_eq_some_iff.mp hq
   rcases Nat.lt_succ_iff_lt_or_eq.mp hi with h5|h5
   ·have h6:=(List.pairwise_iff_getElem.mp ho i _ hl' hmid h5).1
    rw[he] at h6
    cases h7:m.older p.1 with
    |false=>rfl
    |true=>have h8:=A9 h7 h6;rw[h4] at h8;cases h8
   ·subst h5;rw[<- he];exact h4
 ·have hfe:f=b:=by lia
  subst hfe
  array_get_dec
  refine cK.dec (fun h5=>?_) fun h5=>?_
  ·have h5:f=0:=by lia
   subst h5
   rw[Afi fun i p hq=>h2 i p (Bfe _) hq]
  ·have hf:f - 1 < ps.length:=by lia
   have e3:(f:Int) - 1=((f - 1:Nat):Int):=by lia
   have h6:m.older ps[f - 1].1=false:=h1 (f - 1) _ (by lia) (Beu hf)
   have h7:=Asy hf ho h6 fun i p hi hq=>h2 i p (by lia) hq
   have hs:=hp _ (Bfp hf)
   simp_arith[e3,M0 hf]
   rw[h7]
   generalize ps[f - 1]=q at h6 hs
   obtain⟨l,h⟩:=q
   cases h with
   |none =>
    simp_arith[Af1,h6]
   |some h =>
    have e2:=@Ej m h hm (hs.2 h rfl)
    simp_arith[Af2,h6]
    simp only[oD]
    simp_arith[e2]
theorem Ato (L:TL) {x:Mk} (hk:Cu x.d=true) {Q:D->Prop}:W (Auf x.d (.ref 0) [M3 L]) Q=Q (.bl (decide (x∈L.map (·.1)))):=by
 have e:Auf x.d (.ref 0) [M3 L]=some (.bl (decide (x∈L.map (·.1)))):=by
  unfold Auf Ra M3
  simp only[List.getElem?_cons_zero,Bfc]
  rw[Bef hk,Aa4]
 rw[e,Af]
theorem Air (E F:List Mk) (hE:Er E) (hF:Er F) (kE:∀ x∈E,Cu x.d=true) (kF:∀ x∈F,Cu x.d=true) (lE:E.length<=60) (lF:F.length<=60) :
  W (Rp [.tup ((Aq E).map pD),.tup ((Aq F).map pD)]) fun d=>∃ L:TL,d=.dic (L.map fun p=>p.1.d) (L.map fun p=>p.2)/\TOk L (fun x=>decide (x∈E)) (fun x=>decide (x∈F)) (fun x=>x∈E\/x∈F)/\L.length<=E.length+F.length:=by
 unfold Rp Amu
 rw[Ay]
 have pl:∀ G:List Mk,G.length<=60->(Aq G).length<=900:=fun G h=>by rw[C3];lia
 simp_arith[Oo (Aq E) (pl E lE),Gs]
 have lenP:∀ {L:TL}{e:Mk}{v:D},(Z1 L e v).length<=L.length+1:=fun {L e v}=>by
  unfold Z1;split<;>simp
 refine G1 (fun rest e m=>∃ (L:TL) (pre:List Mk) (u:Option D),m=[M3 L]/\e=[some (.tup ((Aq E).map pD)),some (.tup ((Aq F).map pD)),some (.ref 0),u]/\E=pre++rest/\TOk L (fun _=>true) (fun _=>false) (fun x=>x∈pre)/\L.length<=pre.length) ?_ ?_ ⟨[],[],_,rfl,rfl,rfl,⟨.nil,fun x=>by simp,fun x w h=>nomatch h⟩,Bej _⟩
 ·rintro x rest e m ⟨L,pre,u,rfl,rfl,he,hT,hl⟩
  refine⟨trivial,?_⟩
  have hpl:pre.length<=60:=by rw[he] at lE;simp at lE;lia
  array_get_dec
  refine V8 rfl (V5 L) (by lia) (kE x (by rw[he];simp)) ?_
  rw[Aar]
  array_get_dec
  refine⟨Z1 L x _,pre++[x],_,rfl,rfl,by rw[he];simp,⟨Adf hT.nd,fun y=>by rw[X4,hT.mem];simp,fun y w hw=>?_⟩,by have:=lenP (L:=L) (e:=x) (v:=.tup [.bl true,.bl false]);simp;lia⟩
  rcases Xp hw with ⟨_,h⟩|⟨h,_⟩
  ·exact h
  ·exact hT.val y w h
 ·rintro e m ⟨L,pre,u,rfl,rfl,he,hT,hl⟩
  rw[Bev] at he
  subst he
  refine⟨trivial,?_⟩
  simp_arith[Oo (Aq F) (pl F lF),Gs]
  refine G1 (fun rest e m=>∃ (L:TL) (pre:List Mk) (u:Option D),m=[M3 L]/\e=[some (.tup ((Aq E).map pD)),some (.tup ((Aq F).map pD)),some (.ref 0),u]/\F=pre++rest/\TOk L (fun x=>decide (x∈E)) (fun x=>decide (x∈pre)) (fun x=>x∈E\/x∈pre)/\L.length<=E.length+pre.length) ?_ ?_ ⟨L,[],_,rfl,rfl,rfl,⟨hT.nd,fun x=>by rw[hT.mem];simp,fun x w h=>?_⟩,by simp;lia⟩
  ·rintro x rest e m ⟨L,pre,u,rfl,rfl,he,hT,hl⟩
   refine⟨trivial,?_⟩
   have hpl:pre.length<=60:=by rw[he] at lF;simp at lF;lia
   have hx:x∉pre:=fun z=>by
    rw[he] at hF
    have:=(List.pairwise_append.mp hF).2.2 x z x (Beb ..)
    rw[B3] at this;cases this
   have kx:=kF x (by rw[he];simp)
   array_get_dec
   rw[Ato L kx,decide_eq_decide.mpr (show x∈L.map (·.1) ↔ x∈E by rw[hT.mem];exact⟨fun h=>h.elim id fun z=>absurd z hx,.inl⟩)]
   refine V8 rfl (V5 L) (by lia) kx ?_
   rw[Aar]
   array_get_dec
   refine⟨Z1 L x (.tup [.bl (decide (x∈E)),.bl true]),pre++[x],_,rfl,rfl,by rw[he];simp,⟨Adf hT.nd,fun y=>by rw[X4,hT.mem];simp[or_assoc],fun y w hw=>?_⟩,by have:=lenP (L:=L) (e:=x) (v:=.tup [.bl (decide (x∈E)),.bl true]);simp;lia⟩
   rcases Xp hw with ⟨rfl,h⟩|⟨h,hne⟩
   ·rw[h];simp
   ·rw[hT.val y w h]
    have:y≠x:=fun z=>hne z (by rw[<- z];exact Bfs (f:=(·.1)) h)
    simp[this]
  ·rintro e m ⟨L,pre,u,rfl,rfl,he,hT,hl⟩
   rw[Bev] at he
   subst he
   refine⟨trivial,?_⟩
   array_get_dec
   unfold M3
   rw[Asx]
   exact⟨hT.pure,L,rfl,hT,by lia⟩
  ·rw[hT.val x w h,Bf0 ((hT.mem x).mp (Bfs (f:=(·.1)) h))]
   simp
open Classical in
noncomputable def Hq (T:List (Lam×(List D->Option D))) (n:Nat) (d:D) (ds':List D):Option D:=match d with
 |.fn j l=>(T[j]?).bind fun p=>if l=p.1/\ds'.length=n then p.2 ds' else none
 |_=>none
theorem Ald {T:List (Lam×(List D->Option D))}{n:Nat}{f:FE}{g:FL}{env:Bg}{m:MH}{Q:D->Prop}:W (Rg T n f g env m) Q=W (f env m) fun d=>W (g env m) fun ds=>W (Co m ds) fun ds'=>W (Hq T n d ds') Q:=by
 unfold Rg
 rw[W_bind];congr 1;funext d
 rw[W_bind];congr 1;funext ds
 rw[W_bind]<;>rfl
theorem Azx (a b:Bool):(!decide (a=b))=(a != b):=by cases a<;>cases b<;>rfl
theorem Vy {n:Nat}{fn:List D->Option D}{ds:List D}{m:MH}{Q:D->Prop}:W (Du n fn ds m) Q=W (Cc m ds) fun ds'=>ds'.length=n/\W (fn ds') Q:=by
 unfold Du
 rw[W_bind];congr 1;funext z
 by_cases h:z.length=n
 ·rw[Bef h];simp[h]
 ·rw[Beg h,Bl];simp[h]
theorem Aqf (R:List Mk) (hl:R.length<=900) {Q:D->Prop}:W (Rr [.lst (R.map Mk.d)]) Q=Q (.tup ((Aq R).map pD)):=W.eq <| by
 unfold Rr Amz
 rw[Ay]
 array_get_dec
 refine⟨by lia,⟨by lia,by lia⟩,by simp;lia,Be (fun q:Nat=>D.tup [(R.getD (2 * q) default).d,oD R[2 * q+1]?]) (fun q hq=>?_) ?_⟩
 ·have hq:2 * q < R.length:=by have:=List.mem_range.mp hq;lia
  have e1:∀ {Q:D->Prop},W (atI (R.map Mk.d) ((q:Int) * 2)) Q=Q (R.getD (2 * q) default).d:=fun {Q}=>by
   rw[show ((q:Int) * 2)=((2 * q:Nat):Int) by lia,M0 hq]
   simp[hq]
  have e2:∀ {Q:D->Prop},W (atI (R.map Mk.d++[D.non]) ((q:Int) * 2+1)) Q=Q (oD R[2 * q+1]?):=fun {Q}=>by
   have e:R.map Mk.d++[D.non]=(R.map some++[none]).map oD:=by
    rw[Be6,Be8];rfl
   have hl:2 * q+1 < (R.map some++[none]).length:=by simp;lia
   rw[e,show ((q:Int) * 2+1)=((2 * q+1:Nat):Int) by lia,M0 hl]
   congr 2
   by_cases h:2 * q+1 < R.length
   ·rw[List.getElem_append_left (by simpa using h)];simp[h]
   ·rw[List.getElem_append_right (by simpa using h)];simp;lia
  simp_arith[e1,e2]
 ·have e:(List.range ((R.length+1) / 2)).map (fun q:Nat=>D.tup [(R.getD (2 * q) default).d,oD R[2 * q+1]?])=(Aq R).map pD:=by
   refine Bgv fun i=>?_
   by_cases hi:i < (R.length+1) / 2
   ·have h2:2 * i < R.length:=by lia
    rw[Bey,Bey,N0 R i h2,Bgk hi]
    simp[pD,h2]
   ·rw[Be3 (by simpa using hi),Be3 (by rw[Bel,C3];lia)]
  rw[e,Es (by rw[Ca];exact Gu _)]
theorem Ux {j:Nat}{l:Lam}{keep:Bool->Bool->Bool} (hkp:∀ (a b:Bool) {Q:D->Prop},W (Hq Xm 2 (.fn j l) [.bl a,.bl b]) Q=Q (.bl (keep a b))) (E F:List Mk) (hE:Er E) (hF:Er F) (kE:∀ x∈E,Cu x.d=true/\x.ms.length<=1000) (kF:∀ x∈F,Cu x.d=true/\x.ms.length<=1000) (lEF:E.length+F.length<=60) :
  W (Jn [.tup ((Aq E).map pD),.tup ((Aq F).map pD),.fn j l]) fun d=>∃ S:List Mk,Er S/\(∀ x,x∈S ↔ x∈E\/x∈F)/\S.length<=E.length+F.length/\d=.tup ((Aq (J0 keep (fun x=>decide (x∈E)) (fun x=>decide (x∈F)) false false false S)).map pD):=by
 unfold Jn Amv
 rw[Ay]
 array_get_dec
 refine (Air E F hE hF (fun x h=>(kE x h).1) (fun x h=>(kF x h).1) (by lia) (by lia)).imp fun d ⟨L,e,hT,hL⟩=>?_
 subst e
 have hS:∀ x∈L.map (·.1),x∈E\/x∈F:=fun x h=>(hT.mem x).mp h
 obtain⟨S,h1,h2,e⟩:=Ah8 (fn:=Jo) (m:=[.lst []]) (xs:=L.map (·.1)) (vs:=L.map fun p=>p.2) (fun x h=>W.out (by rw[Vn x ((hS x h).elim (fun z=>(kE x z).2) fun z=>(kF x z).2)])) (by rw[Bel];lia)
 rw[Be8] at e
 rw[show (fun p:ML.Mk×D=>p.1.d)=Mk.d ∘ (·.1) from rfl,e,Af]
 have hSl0:S.length<=E.length+F.length:=by rw[h1.length_eq,Bel];lia
 have hSl:S.length<=60:=by lia
 have hSm:∀ x,x∈S ↔ x∈E\/x∈F:=fun x=>by rw[h1.mem_iff,hT.mem]
 have hR:Er S:=(h2.and (h1.nodup_iff.mpr hT.nd)).imp fun {x y} ⟨a,b⟩=>by rw[Cw b,a];rfl
 refine G1 (fun rest e m=>∃ (pre ys:List ML.Mk) (a b k:Bool) (u:Option D),S=pre++rest/\m=[.lst (ys.map Mk.d)]/\e=[some (D.tup (List.map pD (Aq E))),some (D.tup (List.map pD (Aq F))),some (D.fn j l),some (.dic (L.map (Mk.d ∘ (·.1))) (L.map fun p=>p.2)),some (.bl a),some (.bl b),some (.bl k),some (.ref 0),u]/\ys++J0 keep (fun x=>decide (x∈E)) (fun x=>decide (x∈F)) a b k rest=J0 keep (fun x=>decide (x∈E)) (fun x=>decide (x∈F)) false false false S/\ys.length<=pre.length) ?_ ?_ ⟨[],[],false,false,false,_,rfl,rfl,rfl,rfl,Bej _⟩
 ·rintro x rest e m ⟨pre,ys,a,b,k,u,he,rfl,rfl,hw,hl⟩
  refine⟨trivial,?_⟩
  have hx:x∈E\/x∈F:=(hSm x).mp (by rw[he];simp)
  have kx:Cu x.d=true:=hx.elim (fun z=>(kE x z).1) fun z=>(kF x z).1
  have hg:∀ {m:MH}{Q:D->Prop},W (An5 (.dic (L.map (Mk.d ∘ (·.1))) (L.map fun p=>p.2)) x.d m) Q=Q (.tup [.bl (decide (x∈E)),.bl (decide (x∈F))]):=fun {m Q}=>by
   have e:An5 (.dic (L.map (Mk.d ∘ (·.1))) (L.map fun p=>p.2)) x.d m=some (.tup [.bl (decide (x∈E)),.bl (decide (x∈F))]):=by
    unfold An5 Ra
    simp only[Bfc]
    rw[Bef kx]
    exact hT.get hx
   rw[e,Af]
  rw[J0] at hw
  simp_arith[hg,Ald,hkp,Azx]
  have hp:pre.length<=60:=by rw[he] at hSl;simp at hSl;lia
  refine cK.mk (fun z=>?_) fun z=>?_
  ·rw[Bef z] at hw
   exact⟨by lia,pre++[x],ys++[x],_,_,_,_,by rw[he];simp,by simp,rfl,by rw[<- hw];simp,by simp;lia⟩
  ·rw[Beg (by rw[z];simp)] at hw
   exact⟨pre++[x],ys,_,_,_,_,by rw[he];simp,rfl,rfl,hw,by simp;lia⟩
 ·rintro e m ⟨pre,ys,a,b,k,u,he,rfl,rfl,hw,hl⟩
  refine⟨trivial,?_⟩
  rw[Bev] at he
  rw[J0,Bev] at hw
  array_get_dec
  rw[Aqf ys (by rw[he] at hSl;lia),Es (by rw[Ca];exact Gu _)]
  exact⟨S,hR,hSm,hSl0,by rw[hw]⟩
theorem Aen {fn:List D->Option D}{j:Nat}{l:Lam}{keep:Bool->Bool->Bool} (hf:keep false false=false) (hk:∀ (a b:Bool) {Q:D->Prop},W (Hq Xm 2 (.fn j l) [.bl a,.bl b]) Q=Q (.bl (keep a b)))
  (hfn:∀ {x y:D}{Q:D->Prop},W (fn [x,y]) Q=W (Av (Du 3 Jn) (Aa (Ah 0) (Aa (Ah 1) (Aa (fC (.fn j l)) Ai))) [some x,some y] []) fun d=>W (Ci [] d) Q)
  (E F:List Mk) (hE:Er E) (hF:Er F) (kE:∀ x∈E,Cu x.d=true/\x.ms.length<=1000) (kF:∀ x∈F,Cu x.d=true/\x.ms.length<=1000) (lEF:E.length+F.length<=60) :
  W (fn [.tup ((Aq E).map pD),.tup ((Aq F).map pD)]) fun d=>∃ R:List Mk,d=.tup ((Aq R).map pD)/\Er R/\(∀ x∈R,x∈E\/x∈F)/\R.length<=E.length+F.length/\∀ z,par z R=keep (par z E) (par z F):=by
 rw[hfn]
 array_get_dec
 have ha:Cc [] [D.tup ((Aq E).map pD),D.tup ((Aq F).map pD),D.fn j l]=some [D.tup ((Aq E).map pD),D.tup ((Aq F).map pD),D.fn j l]:=by
  have h1:∀ G:List Mk,Ais [] (D.tup ((Aq G).map pD))=some (D.tup ((Aq G).map pD)):=fun G=>by
   show C0 [] (D.tup ((Aq G).map pD))=_
   exact Mu (by rw[Ca];exact Gu (Aq G))
  rw[Cc,Cc,Cc,h1,h1];rfl
 rw[Vy,ha,Af]
 refine⟨rfl,?_⟩
 refine (Ux hk E F hE hF kE kF lEF).imp fun d ⟨S,hS,hm,hl,e⟩=>?_
 subst e
 rw[Es (by rw[Ca];exact Gu _)]
 refine⟨_,rfl,hS.sublist (Eh ..),fun x hx=>(hm x).mp ((Eh ..).subset hx),Bez (Eh ..).length_le hl,fun z=>?_⟩
 rw[Mv (k:=false) hS hf,Acv hE hS fun x hx=>(hm x).mpr (.inl hx),Acv hF hS fun x hx=>(hm x).mpr (.inr hx)]
 simp
theorem Ago (a b:Bool) {Q:D->Prop}:W (Hq Xm 2 (.fn 0 lam_met) [.bl a,.bl b]) Q=Q (.bl (a&&b)):=by
 have h:∀ {Q:D->Prop},W (Lj [.bl a,.bl b]) Q=Q (.bl (a&&b)):=fun {Q}=>W.eq <| by
  unfold Lj fnE Ai8
  rw[W_bind]
  array_get_dec
  cases a<;>cases b<;>array_get_dec<;>rw[Bef trivial,Af]<;>rfl
 unfold Hq
 show W ((Xm[0]?).bind _) Q=_
 rw[show Xm[0]?=some (lam_met,Lj) from rfl,Bfc,Bef ⟨rfl,rfl⟩,h]
theorem Ajj (E F:List Mk) (hE:Er E) (hF:Er F) (kE:∀ x∈E,Cu x.d=true/\x.ms.length<=1000) (kF:∀ x∈F,Cu x.d=true/\x.ms.length<=1000) (lEF:E.length+F.length<=60) :
  W (Hu [.tup ((Aq E).map pD),.tup ((Aq F).map pD)]) fun d=>∃ R:List Mk,d=.tup ((Aq R).map pD)/\Er R/\(∀ x∈R,x∈E\/x∈F)/\R.length<=E.length+F.length/\∀ z,par z R=(fun a b=>a&&b) (par z E) (par z F) :=
 Aen (keep:=fun a b=>a&&b) rfl Ago (fun {x y Q}=>by
  unfold Hu Y3
  rw[Ay]
  array_get_dec) E F hE hF kE kF lEF
theorem U7 (a b:Bool) {Q:D->Prop}:W (Hq Xm 2 (.fn 1 lam_z32) [.bl a,.bl b]) Q=Q (.bl (a||b)):=by
 have h:∀ {Q:D->Prop},W (Ll [.bl a,.bl b]) Q=Q (.bl (a||b)):=fun {Q}=>W.eq <| by
  unfold Ll fnE Ai9
  rw[W_bind]
  array_get_dec
  cases a<;>cases b<;>array_get_dec<;>rw[Bef trivial,Af]<;>rfl
 unfold Hq
 show W ((Xm[1]?).bind _) Q=_
 rw[show Xm[1]?=some (lam_z32,Ll) from rfl,Bfc,Bef ⟨rfl,rfl⟩,h]
theorem R9 (E F:List Mk) (hE:Er E) (hF:Er F) (kE:∀ x∈E,Cu x.d=true/\x.ms.length<=1000) (kF:∀ x∈F,Cu x.d=true/\x.ms.length<=1000) (lEF:E.length+F.length<=60) :
  W (Hw [.tup ((Aq E).map pD),.tup ((Aq F).map pD)]) fun d=>∃ R:List Mk,d=.tup ((Aq R).map pD)/\Er R/\(∀ x∈R,x∈E\/x∈F)/\R.length<=E.length+F.length/\∀ z,par z R=(fun a b=>a||b) (par z E) (par z F) :=
 Aen (keep:=fun a b=>a||b) rfl U7 (fun {x y Q}=>by
  unfold Hw Y5
  rw[Ay]
  array_get_dec) E F hE hF kE kF lEF
theorem Abk (a b:Bool) {Q:D->Prop}:W (Hq Xm 2 (.fn 2 lam_z46) [.bl a,.bl b]) Q=Q (.bl (a&&!b)):=by
 have h:∀ {Q:D->Prop},W (Ln [.bl a,.bl b]) Q=Q (.bl (a&&!b)):=fun {Q}=>W.eq <| by
  unfold Ln fnE Aja
  rw[W_bind]
  array_get_dec
  cases a<;>cases b<;>array_get_dec<;>rw[Bef trivial,Af]<;>rfl
 unfold Hq
 show W ((Xm[2]?).bind _) Q=_
 rw[show Xm[2]?=some (lam_z46,Ln) from rfl,Bfc,Bef ⟨rfl,rfl⟩,h]
theorem Abl (E F:List Mk) (hE:Er E) (hF:Er F) (kE:∀ x∈E,Cu x.d=true/\x.ms.length<=1000) (kF:∀ x∈F,Cu x.d=true/\x.ms.length<=1000) (lEF:E.length+F.length<=60) :
  W (Nl [.tup ((Aq E).map pD),.tup ((Aq F).map pD)]) fun d=>∃ R:List Mk,d=.tup ((Aq R).map pD)/\Er R/\(∀ x∈R,x∈E\/x∈F)/\R.length<=E.length+F.length/\∀ z,par z R=(fun a b=>a&&!b) (par z E) (par z F) :=
 Aen (keep:=fun a b=>a&&!b) rfl Abk (fun {x y Q}=>by
  unfold Nl Y6
  rw[Ay]
  array_get_dec) E F hE hF kE kF lEF
theorem Bb3 {l m:List Nat}:(S l=S m)=(l=m):=Bgl ⟨fun h=>by have:=Bfa L h;exact this,fun h=>by rw[h]⟩
theorem Ax1 {c:Nat}:(⟨#[c]⟩:Str)=S [c]:=rfl
theorem Ax0 {c:Nat}{l:List Nat}{Q:Nat->Prop}:W (atI (S (c::l)).cps.toList 0) Q=Q c:=Ae9
theorem Ae7 {a:Nat}:((S [a]).length<=1000000)=True:=by simp[Dx]
theorem Ae8 {a b:Nat}:((S [a,b]).length<=1000000)=True:=by simp[Dx]
theorem Axd:Str.ofString "word"=S [119,111,114,100]:=by decide +kernel
theorem Axb:Str.ofString "sign"=S [115,105,103,110]:=by decide +kernel
theorem Aef:Str.ofString "numbers"=S [110,117,109,98,101,114,115]:=by decide +kernel
theorem Aw9:Str.ofString "ends"=S [101,110,100,115]:=by decide +kernel
theorem Axc:Str.ofString "*"=S [42]:=by decide +kernel
theorem Axa:Str.ofString "none"=S [110,111,110,101]:=by decide +kernel
theorem Bdt:Str.ofString "="=S [61]:=by decide +kernel
theorem Bd0:Str.ofString "!="=S [33,61]:=by decide +kernel
theorem Bdz:Str.ofString "<"=S [60]:=by decide +kernel
theorem Bdv:Str.ofString ">"=S [62]:=by decide +kernel
theorem Bdx:Str.ofString "<="=S [60,61]:=by decide +kernel
theorem Bdu:Str.ofString ">="=S [62,61]:=by decide +kernel
theorem Bd4:Str.ofString "^"=S [94]:=by decide +kernel
theorem Bd3:Str.ofString "~"=S [126]:=by decide +kernel
theorem Bdw:Str.ofString "["=S [91]:=by decide +kernel
theorem Bdy:Str.ofString "("=S [40]:=by decide +kernel
theorem Bd1:Str.ofString "]"=S [93]:=by decide +kernel
theorem Bd2:Str.ofString ")"=S [41]:=by decide +kernel
theorem Bds:Str.ofString ","=S [44]:=by decide +kernel
theorem Ba7:Str.ofString "[("=S [91,40]:=by decide +kernel
theorem Ba8:Str.ofString "])"=S [93,41]:=by decide +kernel
inductive Sg|eq|ne|lt|gt|le|ge|up|ti
def Sg.l:Sg->List Nat
 |.eq=>[61]|.ne=>[33,61]|.lt=>[60]|.gt=>[62]|.le=>[60,61]|.ge=>[62,61]|.up=>[94]|.ti=>[126]
abbrev Sg.s (g:Sg):Str:=S g.l
noncomputable def E8 (x:Mk):Mk:=if 0 < x.a then Ep (x.a+1) else if 0 < x.b then Dz 0 (x.b+1) else ⟨0,0,x.c+1,[.n 0]⟩
noncomputable def Zg (x:Mk):Mk:=Dz x.a (x.b+1)
def sgH (g:Sg) (x z:Mk):Bool:=match g with
 |.eq=>decide (z=x)|.ne=>!decide (z=x)|.lt=>z.older x|.gt=>x.older z|.le=>z.older x||decide (z=x)|.ge=>x.older z||decide (z=x)
 |.up=>!z.older x&&z.older (E8 x)|.ti=>!z.older x&&z.older (Zg x)
inductive Tm
 |sign (g:Sg) (x:Mk)|word (b:Bool)|num1 (a:Int)|num2 (a b:Int)|ends (l:Bool) (lo hi:Option Mk) (r:Bool)
def Tm.d:Tm->D
 |.sign g x=>.tup [.str (S [115,105,103,110]),.str g.s,x.d]
 |.word b=>.tup [.str (S [119,111,114,100]),.str (S (if b=true then [42] else [110,111,110,101]))]
 |.num1 a=>.tup [.str (S [110,117,109,98,101,114,115]),.int a]
 |.num2 a b=>.tup [.str (S [110,117,109,98,101,114,115]),.int a,.int b]
 |.ends l lo hi r=>.tup [.str (S [101,110,100,115]),.str (S [if l=true then 40 else 91]),oD lo,oD hi,.str (S [if r=true then 41 else 93])]
def loH (l:Bool) (z:Mk):Option Mk->Bool
 |none=>true
 |some x=>sgH (if l=true then .gt else .ge) x z
def hiH (r:Bool) (z:Mk):Option Mk->Bool
 |none=>true
 |some x=>sgH (if r=true then .lt else .le) x z
def Tm.H (z:Mk):Tm->Bool
 |.sign g x=>sgH g x z
 |.word b=>b
 |.num1 a=>decide (z.a=a)
 |.num2 a b=>decide (z.a=a/\z.b=b)
 |.ends l lo hi r=>loH l z lo&&hiH r z hi
def Lx (x:Mk):List Mk:=[x,x.next,E8 x,Zg x]
def Gy:Option Mk->List Mk
 |none=>[]
 |some x=>Lx x
def Tm.E:Tm->List Mk
 |.sign g x=>Lx x
 |.word b=>[]
 |.num1 a=>[Ep a,Ep (a+1)]
 |.num2 a b=>[Dz a b,Dz a (b+1)]
 |.ends l lo hi r=>Gy lo++Gy hi
structure Sm (x:Mk):Prop where
 ok:Mok x
 l:x.ms.length<=10
structure Sm0 (x:Mk):Prop where
 ok:Mo0 x
 l:x.ms.length<=8
def Tm.Ok:Tm->Prop
 |.sign g x=>Sm x
 |.word b=>True
 |.num1 a=>0<=a/\a < 10000000000000
 |.num2 a b=>(0<=a/\a < 10000000000000)/\0<=b/\b < 10000000000000
 |.ends l lo hi r=>(∀ x,lo=some x->Sm x)/\∀ x,hi=some x->Sm x
def Tm.Ok0:Tm->Prop
 |.sign g x=>Sm0 x
 |.word b=>True
 |.num1 a=>0<=a/\a < 1000000000000
 |.num2 a b=>(0<=a/\a < 1000000000000)/\0<=b/\b < 1000000000000
 |.ends l lo hi r=>(∀ x,lo=some x->Sm0 x)/\∀ x,hi=some x->Sm0 x
theorem Sm0.up {x:Mk} (h:Sm0 x):Sm x:=⟨h.ok.up,by have:=h.l;lia⟩
theorem Tm.Ok0.up {t:Tm} (h:t.Ok0):t.Ok:=by
 cases t with
 |sign g x=>exact Sm0.up h
 |word b=>trivial
 |num1 a=>exact⟨h.1,by have:=h.2;lia⟩
 |num2 a b=>exact⟨⟨h.1.1,by have:=h.1.2;lia⟩,h.2.1,by have:=h.2.2;lia⟩
 |ends l lo hi r=>exact⟨fun x e=>(h.1 x e).up,fun x e=>(h.2 x e).up⟩
set_option hygiene false in
local macro_rules|`(tactic| simp_arith![$a,*])=>`(tactic| simp_arith[Axd,Axb,Aef,Aw9,Axc,Axa,Bdt,Bd0,Bdz,Bdv,Bdx,Bdu,Bd4,Bd3,Bdw,Bdy,Bd1,Bd2,Bds,Ba7,Ba8,Bb3,Ax1,Ax0,Ae7,Ae8,Bg5,reduceCtorEq,Bha,Bgm,$a,*])
set_option hygiene false in
local macro_rules|`(tactic| array_get_dec)=>`(tactic| try simp_arith![true_and])
theorem Afx (x:Mk) {Q:D->Prop}:W (Ru [x.d]) Q=Q (E8 x).d:=W.eq <| by
 unfold Ru Am3
 rw[Ay]
 unfold Mk.d
 array_get_dec
 unfold E8
 refine cK.dec (fun h=>?_) fun h=>cK.dec (fun h2=>?_) fun h2=>?_
 ·rw[Bef h];rfl
 ·rw[Beg h,Bef h2];rfl
 ·rw[Beg h,Beg h2];rfl
theorem Ad4 (g:Sg) (x z:Mk) (hx:x.ms.length<=900) (hz:z.ms.length<=900) {Q:D->Prop}:W (Os [.str g.s,x.d,z.d]) Q=Q (.bl (sgH g x z)):=W.eq <| by
 unfold Os Azr
 rw[Ay]
 have o1:=@J9 z x (by lia) (by lia)
 have o2:=@J9 x z (by lia) (by lia)
 have gl:(E8 x).ms.length<=1000:=by
  unfold E8
  split
  ·simp
  ·split<;>simp
 have o3:=@J9 z (E8 x) (by lia) gl
 have o4:=@J9 z (Zg x) (by lia) (by simp[Zg])
 have e4:D.tup [D.int x.a,D.int (x.b+1),D.int 0,D.tup [D.int 0]]=(Zg x).d:=rfl
 have gi:=@Afx x
 cases g<;>simp only[Sg.s,Sg.l]<;>simp_arith![o1,o2,gi,o3,e4,o4]<;>unfold sgH
 ·simp
 ·simp
 all_goals exact cK.mk (fun h=>by simp[h]) fun h=>by simp[h]
def spn (E:List Mk):D:=.tup ((Aq E).map pD)
theorem Alb {x y z w v:D}{Q:D->Prop}:W (atI [x,y,z,w,v] 4) Q=Q v:=by
 have:atI [x,y,z,w,v] 4=some v:=rfl
 rw[this,Af]
theorem c21 {x y z w:D}:Hs [x,y,z,w] none (some (((2:Nat):Int) - 1))=[x]:=rfl
theorem c31 {x y z w:D}:Hs [x,y,z,w] none (some (((3:Nat):Int) - 1))=[x,y]:=rfl
theorem c2r {x y:D}:Hs [x,y] (some 1) none=[y]:=rfl
theorem c3r {x y z:D}:Hs [x,y,z] (some 1) none=[y,z]:=rfl
theorem dq1 {x y:Int}:deq (.tup [.int x]) (.tup [.int y])=decide (x=y):=by
 rw[Cs,Ey,B8];simp
theorem dq2 {x y x' y':Int}:deq (.tup [.int x,.int x']) (.tup [.int y,.int y'])=decide (x=y/\x'=y'):=by
 rw[Cs,Cs,Ey,B8,B8];simp
theorem dp1 {x:Int}:(dep (.tup [.int x])<=60)=True:=by simp[dep,Ei]
theorem dp2 {x y:Int}:(dep (.tup [.int x,.int y])<=60)=True:=by simp[dep,Ei]
theorem Amc {o:Out}{P Q:D->Prop} (h:Yx P o) (i:∀ a,P a->Q a):Yx Q o:=by
 cases o with
 |rt d m=>exact W.imp h i
 |nx e m=>exact i _ h
 |bk e m=>exact h
 |ct e m=>exact h
theorem Afz {l:Bool}{lo hi:Option Mk}{r:Bool}{z:Mk} (h2:∀ x,hi=some x->Sm x) (hz:z.ms.length<=900) {Q:D->Prop} (q:Q (.bl (hiH r z hi))):W (Jg [some (Tm.ends l lo hi r).d,some z.d] []) (Yx Q):=by
 refine W.imp (P:=Yx fun d=>d=.bl (hiH r z hi)) ?_ fun o h=>Amc h fun a e=>by rw[e];exact q
 have sg:∀ g x,Sm x->∀ {Q:D->Prop},W (Os [.str (S (Sg.l g)),x.d,z.d]) Q=Q (.bl (sgH g x z)):=fun g x h=>@Ad4 g x z (by have:=h.l;lia) hz
 have s3:=sg .lt
 have s4:=sg .le
 simp only[Sg.l] at s3 s4
 unfold Jg
 simp only[Tm.d]
 cases hi with
 |none=>simp only[oD];simp_arith![hiH]
 |some x=>cases r<;>simp only[oD]<;>simp_arith![Alb,h2,s3,s4,hiH]
theorem Af0 (t:Tm) (ht:t.Ok) (z:Mk) (hz:z.ms.length<=900) {Q:D->Prop}:W (Rv [t.d,z.d]) Q=Q (.bl (t.H z)):=W.eq <| by
 unfold Rv Am4
 rw[Ay]
 cases t with
 |sign g x =>
  have h:=@Ad4 g x z (by have:=ht.l;lia) hz
  simp only[Tm.d,Tm.H]
  simp_arith![h]
 |word b=>cases b<;>simp only[Tm.d,Tm.H]<;>array_get_dec<;>simp
 |num1 a =>
  simp only[Tm.d,Tm.H]
  unfold Mk.d
  simp_arith![c21,c2r,dq1,dp1]
 |num2 a b =>
  simp only[Tm.d,Tm.H]
  unfold Mk.d
  simp_arith![c31,c3r,dq2,dp2]
 |ends l lo hi r =>
  have hh:=fun {Q:D->Prop}=>@Afz l lo hi r z ht.2 hz Q
  have sg:∀ g x,Sm x->∀ {Q:D->Prop},W (Os [.str (S (Sg.l g)),x.d,z.d]) Q=Q (.bl (sgH g x z)):=fun g x h=>@Ad4 g x z (by have:=h.l;lia) hz
  have s1:=sg .gt
  have s2:=sg .ge
  simp only[Sg.l] at s1 s2
  have h1:=ht.1
  cases lo with
  |none =>
   simp only[Tm.d,oD]
   array_get_dec
   exact hh rfl
  |some x =>
   cases l<;>simp only[Tm.d,oD]<;>simp_arith![h1,s1,s2]
   all_goals exact cK.mk (fun h=>by simp at h;simp[Tm.H,loH,h]) fun h=>hh (by simp at h;simp[Tm.H,loH,h])
theorem Tm.pure (t:Tm):Bc t.d=true:=by
 have hs:∀ l:List Nat,Bc (D.str (S l))=true:=fun l=>E9
 have ho:∀ o:Option Mk,Bc (oD o)=true:=fun o=>by
  cases o with
  |none=>exact Ee
  |some x=>exact Mk.pure x
 cases t<;>unfold Tm.d<;>simp[Bc,A3,ho,Mk.pure]
theorem O9 {x:Mk} (h:x.ms.length<=10):x.next.ms.length<=11:=by
 unfold Mk.next
 split
 ·simp
 ·simp;lia
theorem Rz {x:Mk}:(E8 x).ms.length<=11:=by
 unfold E8
 split
 ·simp
 ·split<;>simp
theorem Xa {x:Mk} (h:Sm x):∀ y∈Lx x,y.ms.length<=11:=fun y hy=>by
 simp only[Lx,Bex,Bes,or_false] at hy
 have:=h.l
 rcases hy with rfl|rfl|rfl|rfl
 ·lia
 ·exact O9 h.l
 ·exact Rz
 ·simp[Zg]
theorem Axt {t:Tm} (ht:t.Ok):(∀ y∈old0::t.E,y.ms.length<=11)/\t.E.length<=8:=by
 have h4:∀ o:Option Mk,(∀ x,o=some x->Sm x)->(∀ y∈Gy o,y.ms.length<=11)/\(Gy o).length<=4:=fun o h=>by
  cases o with
  |none=>exact⟨(fun y hy=>nomatch hy),by simp[Gy]⟩
  |some x=>exact⟨Xa (h x rfl),by simp[Gy,Lx]⟩
 have main:(∀ y∈t.E,y.ms.length<=11)/\t.E.length<=8:=by
  cases t with
  |sign g x=>exact⟨Xa ht,by simp[Tm.E,Lx]⟩
  |word b=>exact⟨(fun y hy=>nomatch hy),by simp[Tm.E]⟩
  |num1 a=>exact⟨fun y hy=>by simp[Tm.E] at hy;rcases hy with rfl|rfl<;>simp,by simp[Tm.E]⟩
  |num2 a b=>exact⟨fun y hy=>by simp[Tm.E] at hy;rcases hy with rfl|rfl<;>simp,by simp[Tm.E]⟩
  |ends l lo hi r =>
   have a:=h4 lo ht.1
   have b:=h4 hi ht.2
   refine⟨fun y hy=>?_,by simp[Tm.E];lia⟩
   rcases List.mem_append.mp (show y∈Gy lo++Gy hi from hy) with h|h
   ·exact a.1 y h
   ·exact b.1 y h
 refine⟨fun y hy=>?_,main.2⟩
 rcases List.mem_cons.mp hy with rfl|h
 ·simp
 ·exact main.1 y h
theorem Aqs {sc:D}{ns:List Int} (hs:Scr sc ns) (k:Int) (hk:0<=k) (hk2:k < 10000) (xs:List Mk) (hx:∀ x∈xs,Sm0 x) (h0:0 < xs.length) (h1:xs.length<=100):W (Rw [sc,.int k,.lst (xs.map Mk.d)]) fun d=>∃ t:Tm,d=t.d/\t.Ok0:=by
 unfold Rw Am9
 rw[Ay]
 try simp_arith![↓hs.v]
 refine B2 (Bh hs _ _ (by lia) (by lia) (by lia)) fun v hv0 hv1=>?_
 try simp_arith![↓hs.v]
 refine Et hv0 (by simpa using hv1) fun d _ hd=>?_
 obtain⟨x,hx1,rfl⟩:=List.mem_map.mp hd
 refine B2 (Bh hs _ _ (by lia) (by lia) (by lia)) fun v2 hv20 hv21=>?_
 try simp_arith![↓hs.v]
 refine Et hv20 (by simpa using hv21) fun d _ hd=>?_
 obtain⟨y,hy1,rfl⟩:=List.mem_map.mp hd
 refine B2 (Bh hs _ _ (by lia) (by lia) (by lia)) fun w hw0 hw1=>?_
 have sx:=hx x hx1
 have sy:=hx y hy1
 have fin:∀ t:Tm,t.Ok0->∀ {m:MH},W (Ci m t.d) fun d=>∃ t:Tm,d=t.d/\t.Ok0:=fun t h m=>by
  rw[Es t.pure]
  exact⟨t,rfl,h⟩
 try simp_arith![↓hs.v]
 refine cK.dec (fun h=>?_) fun h=>cK.dec (fun h2=>?_) fun h2=>cK.dec (fun h3=>?_) fun h3=>?_
 ·refine Et hw0 (by simp;lia) fun d _ hd=>?_
  simp only[Bex,Bes,or_false] at hd
  rcases hd with rfl|rfl|rfl|rfl|rfl|rfl|rfl|rfl
  ·exact fin (.sign .eq x) sx
  ·exact fin (.sign .ne x) sx
  ·exact fin (.sign .lt x) sx
  ·exact fin (.sign .gt x) sx
  ·exact fin (.sign .le x) sx
  ·exact fin (.sign .ge x) sx
  ·exact fin (.sign .up x) sx
  ·exact fin (.sign .ti x) sx
 ·refine B2 (Bh hs _ _ (by lia) (by lia) (by lia)) fun u hu0 hu1=>?_
  try simp_arith![↓hs.v]
  refine Et hu0 (by simpa using hu1) fun d _ hd=>?_
  simp only[Bex,Bes,or_false] at hd
  rcases hd with rfl|rfl|rfl
  ·exact fin (.word true) trivial
  ·exact fin (.word false) trivial
  ·exact fin (.word true) trivial
 ·have:w=9\/w=10:=by lia
  rcases this with rfl|rfl
  ·unfold Mk.d
   try simp_arith![↓hs.v]
   exact⟨by show 1+1<=1000000;decide,fin (.num1 x.a) sx.ok.a⟩
  ·unfold Mk.d
   try simp_arith![↓hs.v]
   exact⟨by show 1+2<=1000000;decide,fin (.num2 x.a x.b) ⟨sx.ok.a,sx.ok.b⟩⟩
 ·refine B2 (Bh hs _ _ (by lia) (by lia) (by lia)) fun u hu0 hu1=>?_
  try simp_arith![↓hs.v]
  refine Et hu0 (by simpa using hu1) fun lo _ hd=>?_
  have hlo:∃ o:Option Mk,lo=oD o/\∀ x,o=some x->Sm0 x:=by
   simp only[Bex,Bes,or_false] at hd
   rcases hd with rfl|rfl|rfl
   ·exact⟨some x,rfl,fun z hz=>by cases hz;exact sx⟩
   ·exact⟨some x,rfl,fun z hz=>by cases hz;exact sx⟩
   ·exact⟨none,rfl,fun z hz=>by cases hz⟩
  refine B2 (Bh hs _ _ (by lia) (by lia) (by lia)) fun u2 hu20 hu21=>?_
  try simp_arith![↓hs.v]
  refine Et hu20 (by simpa using hu21) fun hi _ hd=>?_
  have hhi:∃ o:Option Mk,hi=oD o/\∀ x,o=some x->Sm0 x:=by
   simp only[Bex,Bes,or_false] at hd
   rcases hd with rfl|rfl|rfl
   ·exact⟨some y,rfl,fun z hz=>by cases hz;exact sy⟩
   ·exact⟨some y,rfl,fun z hz=>by cases hz;exact sy⟩
   ·exact⟨none,rfl,fun z hz=>by cases hz⟩
  obtain⟨lo,rfl,h4⟩:=hlo
  obtain⟨hi,rfl,h5⟩:=hhi
  refine B2 (Bh hs _ _ (by lia) (by lia) (by lia)) fun u3 hu30 hu31=>?_
  try simp_arith![↓hs.v]
  refine Et hu30 (by show u3 < ((2:Nat):Int);lia) fun c _ hc=>?_
  have hc':∃ l:Bool,c=if l=true then 40 else 91:=by
   have hc:c∈[91,40]:=hc
   simp only[Bex,Bes,or_false] at hc
   rcases hc with rfl|rfl
   ·exact⟨false,rfl⟩
   ·exact⟨true,rfl⟩
  refine B2 (Bh hs _ _ (by lia) (by lia) (by lia)) fun u4 hu40 hu41=>?_
  try simp_arith![↓hs.v]
  refine Et hu40 (by show u4 < ((2:Nat):Int);lia) fun c2 _ hc2=>?_
  have hc2':∃ r:Bool,c2=if r=true then 41 else 93:=by
   have hc:c2∈[93,41]:=hc2
   simp only[Bex,Bes,or_false] at hc
   rcases hc with rfl|rfl
   ·exact⟨false,rfl⟩
   ·exact⟨true,rfl⟩
  obtain⟨l,rfl⟩:=hc'
  obtain⟨r,rfl⟩:=hc2'
  exact⟨.ends l lo hi r,rfl,h4,h5⟩
theorem O6 (x:Mk) (hx:Mok x) (hm:x.ms.length<=20) {Q:D->Prop}:W (Ec [x.d]) Q=Q (.str (T x [])):=W.eq <| by
 unfold Ec Amj
 rw[Ay]
 have g1:x.a.natAbs.log2 < 1920:=C2 (by have:=hx.a;lia)
 have g2:x.b.natAbs.log2 < 1920:=C2 (by have:=hx.b;lia)
 have g3:x.c.natAbs.log2 < 1920:=C2 (by have:=hx.c;lia)
 have jl:∀ ts:List Str,ts.length<=20->(∀ t∈ts,t.length<=15)->JoinOk dot ts=true/\(Txt.join dot ts).length<=320:=fun ts h1 h2=>by
  refine⟨Abe h2 (by lia),?_⟩
  rw[R8,Dx]
  have:=Xe (c:=46) (b:=15) (ps:=ts.map L) fun p hp=>by
   obtain⟨t,ht,rfl⟩:=List.mem_map.mp hp
   rw[<- Cr]
   exact h2 t ht
  rw[Bel] at this
  lia
 have ja:=jl [sn x.a,sn x.b,sn x.c] (by simp) fun t ht=>by
  simp only[Bex,Bes,or_false] at ht
  rcases ht with rfl|rfl|rfl
  ·exact De hx.a.1 (by have:=hx.a.2;lia)
  ·exact De hx.b.1 (by have:=hx.b.2;lia)
  ·exact De hx.c.1 (by have:=hx.c.2;lia)
 have jm:=jl (x.ms.map mt) (by rw[Bel];exact hm) fun t ht=>by
  obtain⟨m,hmm,rfl⟩:=List.mem_map.mp ht
  exact Ab2 (hx.ms m hmm)
 have l45:(⟨#[45]⟩:Str).length=1:=rfl
 have La:L (Txt.join dot [sn x.a,sn x.b,sn x.c])=jn 46 (mp x):=by rw[R8,L_S];rfl
 have Lm:L (Txt.join dot (x.ms.map mt))=jn 46 (mq x.ms):=by rw[R8,L_S,Be8];rfl
 have eT:L (T x [])=jn 46 (mp x)++tl 45 (mq x.ms)++tl 43 []:=rfl
 unfold Mk.d
 simp_arith![Jj,Xq]
 refine⟨g1,g2,g3,?_⟩
 rw[show Jz [D.str (Str.ofString (toString x.a)),D.str (Str.ofString (toString x.b)),D.str (Str.ofString (toString x.c))]=some [sn x.a,sn x.b,sn x.c] from Gp [sn x.a,sn x.b,sn x.c],Af]
 rw[show S [46]=dot from rfl,show S [45]=(⟨#[45]⟩:Str) from rfl]
 refine⟨ja.1,cK.mk (fun z=>⟨by lia,by lia,Be (fun m=>.str (mt m)) (fun m hmm=>?_) ?_⟩) fun z=>?_⟩
 ·simp_arith![Aii (hx.ms m hmm)]
 ·have zn:mq x.ms≠[]:=fun e=>by rw[List.map_eq_nil_iff.mp e] at z;simp at z
  rw[show (x.ms.map fun m=>D.str (mt m))=(x.ms.map mt).map .str by rw[Be8];rfl,Og]
  refine⟨jm.1,by rw[length_append];lia,Bfa D.str (D5 ?_)⟩
  rw[D4,D4,La,Lm,eT,tl,Beg zn,Ui,Bev]
  simp[L]
 ·have zn:mq x.ms=[]:=by
   have:x.ms=[]:=by simpa using z
   rw[mq,this];rfl
  refine Bfa D.str (D5 ?_)
  rw[La,eT,tl,Bef zn,Ui,Bev,Bev]
theorem Uu (x:Mk) (hx:Sm x) {Q:D->Prop}:W (Lo [.str (T x [])]) Q=Q x.d:=W.eq <| by
 unfold Lo Azj
 rw[Ay]
 have l:=hx.l
 have tl:=Arb x [] hx.ok (by lia) (fun _ h=>nomatch h) (by simp)
 have r:=@Tz (T x []) (by lia)
 have e:=Bde x [] hx.ok (by lia) (fun _ h=>nomatch h) (by simp)
 simp_arith![r,e]
 exact cK.mk (fun z=>by simp at z) fun _=>trivial
theorem C6 (l:Mk) (h:Option Mk) (hl:l.ms.length<=1000) (hh:∀ x,h=some x->x.ms.length<=1000) {Q:D->Prop}:W (Dv [l.d,oD h]) Q=Q (spn (pc l h)):=W.eq <| by
 unfold Dv Amh
 rw[Ay]
 cases h with
 |none =>
  simp only[oD]
  array_get_dec
  rfl
 |some h =>
  have o:=@Ej l h hl (hh h rfl)
  simp only[oD]
  simp_arith![o]
  unfold spn
  rw[Ie]
  exact cK.mk (fun q=>by rw[Bef q];rfl) fun q=>by rw[Beg (by rw[q];decide)];rfl
theorem Vb (x:Mk) {Q:D->Prop}:W (Lp [x.d]) Q=Q (Zg x).d:=W.eq <| by
 unfold Lp Ami
 rw[Ay]
 unfold Mk.d
 array_get_dec
 rfl
theorem Ane (x:Mk) (h0:0<=x.a) {Q:D->Prop}:W (Ro [x.d]) Q=Q (E8 x).d:=W.eq <| by
 unfold Ro Amq
 rw[Ay]
 have m:=@Vb x
 simp_arith![m]
 unfold E8 Zg
 refine cK.dec (fun h=>?_) fun h=>cK.dec (fun h2=>?_) fun h2=>?_
 ·rw[Bef h];rfl
 ·have:x.a=0:=by lia
  rw[Beg h,Bef h2,this]
 ·rw[Beg h,Beg h2];rfl
theorem sw1 {c d:Nat}{l:List Nat}:Txt.startswith (S (c::l)) (S [d])=decide (c=d):=by
 unfold Txt.startswith
 rw[StrLaws.subAt_eq]
 show (decide (0+(S [d]).length<=(S (c::l)).length)&&(((c::l).drop 0).take (S [d]).length == [d]))=_
 rw[Dx,Dx,Bft]
 simp
theorem sw2 {c e d f:Nat}{l:List Nat}:Txt.startswith (S (c::e::l)) (S [d,f])=(decide (c=d)&&decide (e=f)):=by
 unfold Txt.startswith
 rw[StrLaws.subAt_eq]
 show (decide (0+(S [d,f]).length<=(S (c::e::l)).length)&&(((c::e::l).drop 0).take (S [d,f]).length == [d,f]))=_
 rw[Dx,Dx,Bft]
 simp
theorem Bbi {z w:Str}{m:MH}{Q:D->Prop}:W (Dw (.str z) [.str w] m) Q=Q (.bl (Txt.startswith z w)):=Af
theorem sl1 {c d:Nat}{l:List Nat}:Txt.slice (S (c::l)) (some ((S [d]).length:Int)) none=S l:=by
 rw[Dx];exact Jf (n:=1) (by rw[L_S];simp)
theorem sl2 {c e d f:Nat}{l:List Nat}:Txt.slice (S (c::e::l)) (some ((S [d,f]).length:Int)) none=S l:=by
 rw[Dx];exact Jf (n:=2) (by rw[L_S];simp)
def oT:Option Mk->List Nat
 |none=>[]
 |some x=>L (T x [])
def Tm.t:Tm->Str
 |.sign g x=>S (g.l++L (T x []))
 |.word b=>S (if b=true then [42] else [110,111,110,101])
 |.num1 a=>sn a
 |.num2 a b=>S (L (sn a)++46::L (sn b))
 |.ends l lo hi r=>S ((if l=true then 40 else 91)::(oT lo++44::(oT hi++[if r=true then 41 else 93])))
theorem sml {x:Mk} (h:Sm x):(T x []).length<=1000:=Arb x [] h.ok (by have:=h.l;lia) (fun _ h=>nomatch h) (by simp)
theorem Yl {l:Bool}{lo hi:Option Mk}{r:Bool} (h2:∀ x,hi=some x->Sm x) {u:Str} (hu:u.length<=2000):W (Ea [some (Tm.ends l lo hi r).d,some (.str u)] []) (Yx fun d=>d=.str (S (L u++44::(oT hi++[if r=true then 41 else 93])))):=by
 unfold Ea
 have mi:∀ x,Sm x->∀ {Q:D->Prop},W (Ec [x.d]) Q=Q (.str (T x [])):=fun x h=>@O6 x h.ok (by have:=h.l;lia)
 have k1:∀ a:Nat,(S [a]).length=1:=fun a=>rfl
 simp only[Tm.d]
 cases hi with
 |none =>
  simp only[oD,oT]
  simp_arith![Alb]
  refine⟨by simp only[k1];lia,by simp only[k1,length_append];lia,Bfa D.str (D5 ?_)⟩
  rw[D4,D4];simp[L_S]
 |some y =>
  have ly:=sml (h2 y rfl)
  simp only[oD,oT]
  simp_arith![Alb,h2,mi]
  refine⟨by simp only[k1];lia,by simp only[k1,length_append];lia,by simp only[k1,length_append];lia,Bfa D.str (D5 ?_)⟩
  rw[D4,D4,D4];simp[L_S]
theorem Aio (t:Tm) (ht:t.Ok) {Q:D->Prop}:W (Rj [t.d]) Q=Q (.str t.t):=W.eq <| by
 unfold Rj Amk
 rw[Ay]
 have mi:∀ x,Sm x->∀ {Q:D->Prop},W (Ec [x.d]) Q=Q (.str (T x [])):=fun x h=>@O6 x h.ok (by have:=h.l;lia)
 cases t with
 |sign g x =>
  simp only[Tm.d,Tm.t]
  have m:=@mi x ht
  have tl:=sml ht
  simp_arith![m]
  refine⟨?_,Bfa D.str (D5 ?_)⟩
  ·have:g.s.length<=2:=by cases g<;>decide
   lia
  ·rw[D4];rfl
 |word b=>cases b<;>simp only[Tm.d,Tm.t]<;>array_get_dec
 |num1 a =>
  simp only[Tm.d,Tm.t]
  simp_arith![c2r,Jj]
  refine⟨C2 (by have:=ht.1;have:=ht.2;lia),?_⟩
  rw[show Jz [D.str (Str.ofString (toString a))]=some [sn a] from Gp [sn a],Af]
  refine⟨Abe (b:=15) (fun t h=>by simp at h;rw[h];exact De ht.1 (by have:=ht.2;lia)) (by simp),Bfa D.str (D5 ?_)⟩
  show L (Txt.join dot [sn a])=_
  rw[R8];rfl
 |num2 a b =>
  simp only[Tm.d,Tm.t]
  simp_arith![c3r,Jj]
  have k1:=ht.1
  have k2:=ht.2
  refine⟨C2 (by lia),C2 (by lia),?_⟩
  rw[show Jz [D.str (Str.ofString (toString a)),D.str (Str.ofString (toString b))]=some [sn a,sn b] from Gp [sn a,sn b],Af]
  refine⟨Abe (b:=15) (fun t h=>by
   simp at h
   rcases h with h|h
   ·rw[h];exact De k1.1 (by lia)
   ·rw[h];exact De k2.1 (by lia)) (by simp),Bfa D.str (D5 ?_)⟩
  show L (Txt.join dot [sn a,sn b])=_
  rw[R8];rfl
 |ends l lo hi r =>
  have h1:=ht.1
  have k1:∀ a:Nat,(S [a]).length=1:=fun a=>rfl
  cases lo with
  |none =>
   have hh:=@Yl l none hi r ht.2 (S [if l=true then 40 else 91]) (by rw[k1];lia)
   simp only[Tm.d,oD] at hh ⊢
   array_get_dec
   exact hh
  |some x =>
   have lx:=sml (h1 x rfl)
   have hh:=@Yl l (some x) hi r ht.2 (S [if l=true then 40 else 91]++T x []) (by rw[length_append,k1];lia)
   rw[D4] at hh
   simp only[Tm.d,oD] at hh ⊢
   simp_arith![h1,mi]
   exact⟨by simp only[k1];lia,hh⟩
theorem Aiv {x:Mk} (h:Sm x):∃ c r,L (T x [])=c::r/\48<=c/\c<=57:=by
 have e:L (T x [])=jn 46 (mp x)++tl 45 (mq x.ms)++tl 43 []:=rfl
 have hp:=Ad7 h.ok.a.1
 have hd:=Hj h.ok.a.1
 rw[Cr] at hp
 cases q:L (sn x.a) with
 |nil=>rw[q] at hp;simp at hp
 |cons c r =>
  rw[q] at hd
  refine⟨c,r++(46::jn 46 [L (sn x.b),L (sn x.c)])++tl 45 (mq x.ms)++tl 43 [],?_,hd c (Beb ..)⟩
  rw[e,mp,jn,q]
  simp
noncomputable def rsB:FS:=sIf (Jx (fMt "str" Dw (Ah 0) (Aa (Ah 1) Ai))) (Ax (Bn 2 (Av (Ew 1 Lo) (Aa (fSl (Ah 0) (Dy (Av Ek (Aa (Ah 1) Ai))) fNo) Ai))) (Bf (fIf (A4 (f1 M7 (Ah 2))) (fC .non) (Av (Ew 2 Oq) (Aa (Ah 1) (Aa (Ah 2) Ai)))))) B6
theorem Adz {u y:Str}{x:Mk}{P:D->Prop} (b:∀ {Q:D->Prop},W (Lo [.str (Txt.slice u (some (y.length:Int)) none)]) Q=Q x.d) (hu:(u.length<=1000000)=True) (hl:y.length<=1000000) (fin:W (Oq [.str y,x.d]) fun d=>W (Ci [] d) P) (hy:Txt.startswith u y=true) :
  ∀ (pre post:List Str) (v w:Option D),(∀ z∈pre,Txt.startswith u z=false)->W (Lw Bm (A7 1) rsB ((pre++y::post).map D.str) [some (.str u),v,w] []) (Ap9 (Bf (fC .non)) (Yx P))
 |[],post,v,w,_=>by
  rw[Bfn,Bee,Hn]
  unfold rsB
  simp_arith![Bm,Bbi,hy,b,hu]
  exact⟨hl,fin⟩
 |z::pre,post,v,w,h=>by
  rw[Be5,Bee,Hn]
  have h1:=h z (by simp)
  have ih:=Adz b hu hl fin hy pre post (some (.str z)) w fun a ha=>h a (by simp[ha])
  unfold rsB at ih ⊢
  simp_arith![Bm,Bbi,h1]
  exact ih
theorem Baz (g:Sg) (x:Mk) (hx:Sm x) {P:D->Prop} (hs:W (Oq [.str g.s,x.d]) P) (hp:∀ d,P d->Bc d=true):W (Y1 [.str (Tm.sign g x).t]) P:=by
 unfold Y1 Azp
 rw[Ay]
 obtain⟨c,r,e,c1,c2⟩:=Aiv hx
 have n1:(c=61)=False:=eq_false (by lia)
 have eT:S (c::r)=T x []:=by rw[<- e,S_L]
 have lT:=sml hx
 rw[<- eT,Dx,Beh] at lT
 have b:=@Uu x hx
 have fin:W (Oq [.str g.s,x.d]) fun d=>W (Ci [] d) P:=hs.imp fun d hd=>by rw[Es (hp d hd)];exact hd
 have hu:((Tm.sign g x).t.length<=1000000)=True:=eq_true (by
  show (S (g.l++L (T x []))).length<=_
  rw[Dx,e,Bep,Beh]
  have:g.l.length<=2:=by cases g<;>decide
  lia)
 have hy:Txt.startswith (Tm.sign g x).t g.s=true:=by
  cases g<;>simp only[Tm.t,Sg.s,Sg.l,e,Be5,Bfn,sw1,sw2]<;>simp
 have hb:∀ {Q:D->Prop},W (Lo [.str (Txt.slice (Tm.sign g x).t (some (g.s.length:Int)) none)]) Q=Q x.d:=by
  have:Txt.slice (Tm.sign g x).t (some (g.s.length:Int)) none=T x []:=by
   cases g<;>simp only[Tm.t,Sg.s,Sg.l,e,Be5,Bfn,sl1,sl2,eT]
  intro Q;rw[this];exact b
 have go:=fun pre post v w=>Adz (u:=(Tm.sign g x).t) hb hu (by cases g<;>decide) fin hy pre post v w
 array_get_dec
 cases g
 ·exact go [S [33,61],S [60,61],S [62,61]] [S [60],S [62],S [94],S [126]] _ _ (by simp[Tm.t,Sg.l,e,sw1,sw2,n1])
 ·exact go [] [S [60,61],S [62,61],S [61],S [60],S [62],S [94],S [126]] _ _ (by simp[Tm.t,Sg.l,e,sw1,sw2,n1])
 ·exact go [S [33,61],S [60,61],S [62,61],S [61]] [S [62],S [94],S [126]] _ _ (by simp[Tm.t,Sg.l,e,sw1,sw2,n1])
 ·exact go [S [33,61],S [60,61],S [62,61],S [61],S [60]] [S [94],S [126]] _ _ (by simp[Tm.t,Sg.l,e,sw1,sw2,n1])
 ·exact go [S [33,61]] [S [62,61],S [61],S [60],S [62],S [94],S [126]] _ _ (by simp[Tm.t,Sg.l,e,sw1,sw2,n1])
 ·exact go [S [33,61],S [60,61]] [S [61],S [60],S [62],S [94],S [126]] _ _ (by simp[Tm.t,Sg.l,e,sw1,sw2,n1])
 ·exact go [S [33,61],S [60,61],S [62,61],S [61],S [60],S [62]] [S [126]] _ _ (by simp[Tm.t,Sg.l,e,sw1,sw2,n1])
 ·exact go [S [33,61],S [60,61],S [62,61],S [61],S [60],S [62],S [94]] [] _ _ (by simp[Tm.t,Sg.l,e,sw1,sw2,n1])
theorem An1 {t:Str} (h:Cj t=true):PyData.strOk t=true:=by
 unfold Cj at h
 simp only[Bet] at h
 unfold PyData.strOk
 rw[<- Array.all_toList,List.all_eq_true]
 intro c hc
 have h2:=List.all_eq_true.mp h.2 c hc
 have h3:c∈Aq1:=by simpa using h2
 have h4:∀ c∈Aq1,c < 1114112:=by decide
 simpa using h4 c h3
noncomputable def Tm.w:Tm->Nat
 |.sign .ne _=>3
 |_=>2
theorem Tm.w2 (t:Tm):2<=t.w/\t.w<=3:=by
 unfold Tm.w
 split<;>exact⟨by decide,by decide⟩
def RR (t:Tm) (R:List Mk):Prop:=R.length<=t.w/\Er R/\(∀ y∈R,y∈old0::t.E)/\∀ z,Pos z->par z R=t.H z
theorem G7 {x:Mk} (h:∀ m∈x.ms,mok m):Cu x.d=true:=At6 fun m hm=>Mark.strs fun t e=>by
 have:=h m hm
 rw[e] at this
 exact An1 this
theorem Abg:Cu old0.d=true:=G7 fun m hm=>by
 simp at hm;subst hm;exact⟨by decide,by decide⟩
theorem Xk {x:Mk} (h:∀ m∈x.ms,mok m):Cu x.next.d=true:=G7 fun m hm=>by
 have z0:mok (.n 0):=⟨by decide,by decide⟩
 unfold Mk.next at hm
 split at hm
 ·simp at hm;subst hm;exact z0
 ·rcases List.mem_append.mp hm with q|q
  ·exact h m q
  ·simp at q;subst q;exact z0
theorem Agj {z x:Mk} (h:z≠x):z.older x=!x.older z:=Cw h
theorem B1 (E:List Mk):Bc (spn E)=true:=by unfold spn;rw[Ca];exact Gu _
theorem Na {t:Tm}{l:Mk}{h:Option Mk} (hl:l∈old0::t.E) (hh:∀ x,h=some x->x∈old0::t.E) (hp:∀ z,Pos z->(!z.older l&&P0 z h)=t.H z):RR t (pc l h) :=
 ⟨Bez (by cases h with|none=>simp[pc]|some h=>rw[Hi];split<;>simp) t.w2.1,Adw,fun y hy=>(Aby hy).elim (fun e=>e ▸ hl) fun e=>hh y e.symm,fun z hz=>by rw[Ajy,hp z hz]⟩
theorem Yw {z x:Mk} (hz:Pos z):z.older x.next=(z.older x||decide (z=x)):=Acn hz
theorem Ad5 (g:Sg) (x:Mk) (hx:Sm x):W (Oq [.str g.s,x.d]) fun d=>∃ R,d=spn R/\RR (.sign g x) R:=by
 unfold Oq Azo
 rw[Ay]
 have l:=hx.l
 have nx:=@Ab8 x (by lia)
 have nl:=O9 l
 have gl:=@Rz x
 have ml:(Zg x).ms.length<=1000:=by simp[Zg]
 have p1:=@C6 x (some x.next) (by lia) (fun y h=>by cases h;lia)
 have p2:=@C6 old0 (some x) (by simp) (fun y h=>by cases h;lia)
 have p3:=@C6 old0 (some x.next) (by simp) (fun y h=>by cases h;lia)
 have p4:=@C6 x.next none (by lia) (fun y h=>by cases h)
 have p5:=@C6 x none (by lia) (fun y h=>by cases h)
 have p6:=@C6 x (some (E8 x)) (by lia) (fun y h=>by cases h;lia)
 have p7:=@C6 x (some (Zg x)) (by lia) (fun y h=>by cases h;lia)
 simp only[oD] at p1 p2 p3 p4 p5 p6 p7
 have ge:=@Ane x hx.ok.a.1
 have me:=@Vb x
 have o0:D.tup [D.int 0,D.int 0,D.int 0,D.tup [D.int 0]]=old0.d:=rfl
 have pu:=B1
 have i0:old0∈old0::Lx x:=Beb ..
 have i1:x∈old0::Lx x:=by simp[Lx]
 have i2:x.next∈old0::Lx x:=by simp[Lx]
 have i3:E8 x∈old0::Lx x:=by simp[Lx]
 have i4:Zg x∈old0::Lx x:=by simp[Lx]
 have gt:∀ z:Mk,(!z.older x&&!decide (z=x))=x.older z:=fun z=>by
  by_cases e:z=x
  ·subst e;simp[B3]
  ·rw[Cw e];simp[e]
 have lt:∀ z:Mk,z=x->z.older x=false:=fun z e=>by rw[e,B3]
 have fin:∀ {t:Tm}{R:List Mk},RR t R->W (Ci [] (spn R)) fun d=>∃ R,d=spn R/\RR t R:=fun {t R} h=>by
  rw[Es (pu _)];exact⟨R,rfl,h⟩
 cases g<;>simp only[Sg.s,Sg.l]<;>simp_arith![o0,nx,ge,me,p1,p2,p3,p4,p5,p6,p7,C1 (pu _)]
 ·exact fin (Na i1 (by rintro _ ⟨⟩;exact i2) fun z hz=>by
   show (!z.older x&&z.older x.next)=decide (z=x)
   rw[Yw hz]
   by_cases e:z=x
   ·simp[e,B3]
   ·simp[e])
 ·rw[show D.tup [D.tup [old0.d,D.non]]=spn [old0] from rfl]
  refine W.imp (Abl [old0] (pc x (some x.next)) (Bfq ..) Adw (fun y hy=>?_) (fun y hy=>?_) ?_) fun d ⟨R,e,h1,h2,hle,h3⟩=>?_
  ·simp at hy;subst hy;exact⟨Abg,by simp⟩
  ·rcases Aby hy with rfl|q
   ·exact⟨G7 hx.ok.ms,by lia⟩
   ·cases q;exact⟨Xk hx.ok.ms,by lia⟩
  ·rw[Hi];split<;>simp
  ·rw[e]
   refine fin ⟨Bez hle (by rw[Hi];show _<=3;split<;>simp),h1,fun y hy=>?_,fun z hz=>?_⟩
   ·rcases h2 y hy with q|q
    ·simp at q;subst q;exact i0
    ·rcases Aby q with rfl|q
     ·exact i1
     ·cases q;exact i2
   ·rw[h3 z,Ajy]
    show (((!z.older old0)^^false)&&!(!z.older x&&z.older x.next))=!decide (z=x)
    rw[Yw hz,Ef hz]
    by_cases e:z=x
    ·simp[e,B3]
    ·simp[e]
 ·exact fin (Na i0 (by rintro _ ⟨⟩;exact i1) fun z hz=>by
   show (!z.older old0&&z.older x)=z.older x
   rw[Ef hz];rfl)
 ·exact fin (Na i2 (by rintro _ ⟨⟩) fun z hz=>by
   show (!z.older x.next&&true)=x.older z
   rw[Yw hz,<- gt z];simp)
 ·exact fin (Na i0 (by rintro _ ⟨⟩;exact i2) fun z hz=>by
   show (!z.older old0&&z.older x.next)=(z.older x||decide (z=x))
   rw[Ef hz,Yw hz];rfl)
 ·exact fin (Na i1 (by rintro _ ⟨⟩) fun z hz=>by
   show (!z.older x&&true)=(x.older z||decide (z=x))
   rw[<- gt z]
   by_cases e:z=x
   ·simp[e,B3]
   ·simp[e])
 ·exact fin (Na i1 (by rintro _ ⟨⟩;exact i3) fun z hz=>rfl)
 ·exact fin (Na i1 (by rintro _ ⟨⟩;exact i4) fun z hz=>rfl)
theorem Bdh {a:Int} (h:0<=a):Txt.split (sn a) dot=[sn a]:=by
 have:=Mo (ps:=[L (sn a)]) (by simp) fun p hp=>by simp at hp;subst hp;exact Mm h
 rw[show S (jn 46 [L (sn a)])=sn a from S_L] at this
 rw[this];simp[S_L]
theorem Bdi {a b:Int} (h:0<=a) (h2:0<=b):Txt.split (S (L (sn a)++46::L (sn b))) dot=[sn a,sn b]:=by
 have:=Mo (ps:=[L (sn a),L (sn b)]) (by simp) fun p hp=>by
  simp at hp
  rcases hp with rfl|rfl
  ·exact Mm h
  ·exact Mm h2
 rw[show jn 46 [L (sn a),L (sn b)]=L (sn a)++46::L (sn b) from rfl] at this
 rw[this];simp[S_L]
theorem Aap {a:Int}:deq (D.int a) D.non=false:=by simp[deq,pyD,PyData.eqv]
theorem An2 (a:Int) (h:0<=a/\a < 10000000000000):W (Rm [.str (Tm.num1 a).t]) fun d=>∃ R,d=spn R/\RR (.num1 a) R:=by
 unfold Rm Axl
 rw[Ay]
 have sl:=De h.1 (by lia)
 have so:∀ {m:MH}{Q:List D->Prop},W (D1 (D.str (sn a)) [D.str (S [46])] m) Q=Q [D.str (sn a)]:=fun {m Q}=>by
  have:=@Ij (sn a) (by lia) m Q
  rw[Bdh h.1] at this
  exact this
 have nu:=@Gc (sn a) (by lia)
 rw[Hf h] at nu
 have p:=@C6 (Ep a) (some (Ep (a+1))) (by simp) (fun y h=>by cases h;simp)
 simp only[oD] at p
 simp only[Tm.t]
 simp_arith![Jj,so,Dj,Eb,nu,show D.tup [D.int a,D.int 0,D.int 0,D.tup [D.int 0]]=(Ep a).d from rfl,show D.tup [D.int (a+1),D.int 0,D.int 0,D.tup [D.int 0]]=(Ep (a+1)).d from rfl,p]
 refine cK.dec (fun z=>absurd z (by decide)) fun _=>⟨Bd (by simp[Bc,A3]),?_⟩
 rw[Aap]
 refine cK.mk (fun z=>by cases z) fun _=>cK.dec (fun _=>?_) fun z=>absurd rfl z
 rw[Es (B1 _)]
 refine⟨_,rfl,Na (by simp[Tm.E]) (by rintro _ ⟨⟩;simp[Tm.E]) fun z hz=>?_⟩
 show (!z.older (Ep a)&&z.older (Ep (a+1)))=decide (z.a=a)
 rw[Gf hz,Gf hz,Bft]
 simp
 lia
theorem An3 (a b:Int) (h:0<=a/\a < 10000000000000) (h2:0<=b/\b < 10000000000000):W (Rm [.str (Tm.num2 a b).t]) fun d=>∃ R,d=spn R/\RR (.num2 a b) R:=by
 unfold Rm Axl
 rw[Ay]
 have sl:=De h.1 (by lia)
 have sl2:=De h2.1 (by lia)
 have so:∀ {m:MH}{Q:List D->Prop},W (D1 (D.str (S (L (sn a)++46::L (sn b)))) [D.str (S [46])] m) Q=Q [D.str (sn a),D.str (sn b)]:=fun {m Q}=>by
  have:=@Ij (S (L (sn a)++46::L (sn b))) (by rw[Dx,Bep,Beh,<- Cr,<- Cr];lia) m Q
  rw[Bdi h.1 h2.1] at this
  exact this
 have nu:=@Gc (sn a) (by lia)
 have nu2:=@Gc (sn b) (by lia)
 rw[Hf h] at nu
 rw[Hf h2] at nu2
 have p:=@C6 (Dz a b) (some (Dz a (b+1))) (by simp) (fun y h=>by cases h;simp)
 have me:=@Vb (Dz a b)
 simp only[oD] at p
 simp only[Tm.t]
 simp_arith![Jj,so,Dj,Eb,nu,nu2,show D.tup [D.int a,D.int b,D.int 0,D.tup [D.int 0]]=(Dz a b).d from rfl,me,show (Zg (Dz a b)).d=(Dz a (b+1)).d from rfl,p]
 refine cK.dec (fun z=>absurd z (by decide)) fun _=>⟨Bd (by simp[Bc,A3]),?_⟩
 rw[Aap,Aap]
 refine cK.mk (fun z=>by cases z) fun _=>cK.dec (fun z=>absurd z (by decide)) fun _=>?_
 rw[Es (B1 _)]
 refine⟨_,rfl,Na (by simp[Tm.E]) (by rintro _ ⟨⟩;simp[Tm.E]) fun z hz=>?_⟩
 show (!z.older (Dz a b)&&z.older (Dz a (b+1)))=decide (z.a=a/\z.b=b)
 rw[Gg hz,Gg hz,Bft]
 simp
 lia
theorem Arz {z:Str}{m:MH}{Q:D->Prop}:W (J8 (.str z) [] m) Q=Q (.bl (Txt.isdigit z)):=Af
theorem isd {c:Nat} (h:48<=c/\c<=57):Txt.isdigit (S [c])=true:=by
 have:∀ i∈List.range 10,Txt.isdigit (S [48+i])=true:=by decide +kernel
 have h2:=this (c - 48) (by simp;lia)
 rw[show 48+(c - 48)=c by lia] at h2
 exact h2
theorem to1 {c:Nat}{l:List Nat}:Txt.slice (S (c::l)) none (some 1)=S [c]:=Ah5 (n:=1) (by rw[L_S];simp)
theorem Bdg {c:Nat}{l:List Nat}:Txt.slice (S (l++[c])) (some (-1)) none=S [c]:=by
 have hl:(S (l++[c])).length=l.length+1:=by rw[Dx];simp
 have e:=StrLaws.sliceText_neg_lo (S (l++[c])) none (i:=-1) (by decide) (by rw[hl];lia)
 have e2:Txt.slice (S (l++[c])) (some (-1)) none=StrLaws.sliceText (S (l++[c])) (some (-1)) none:=rfl
 have e3:StrLaws.sliceText (S (l++[c])) (some ((l.length:Nat):Int)) none=Txt.slice (S (l++[c])) (some ((l.length:Nat):Int)) none:=rfl
 rw[e2,e,hl,show (-1:Int)+((l.length+1:Nat):Int)=((l.length:Nat):Int) by lia,e3,Jf (by rw[L_S];simp),L_S]
 simp
theorem Bdf {a c:Nat}{l:List Nat}:Txt.slice (S (a::(l++[c]))) (some 1) (some (-1))=S l:=by
 have hl:(S (a::(l++[c]))).length=l.length+2:=by rw[Dx];simp
 have e:=StrLaws.sliceText_neg_hi (S (a::(l++[c]))) (some 1) (j:=-1) (by decide) (by rw[hl];lia)
 have e2:Txt.slice (S (a::(l++[c]))) (some 1) (some (-1))=StrLaws.sliceText (S (a::(l++[c]))) (some 1) (some (-1)):=rfl
 have hL:(S (a::(l++[c]))).cps.toList=a::(l++[c]):=rfl
 rw[e2,e,hl,show (-1:Int)+((l.length+2:Nat):Int)=((l.length+1:Nat):Int) by lia,StrLaws.sliceText_plain ⟨by decide,by lia,by rw[hL];simp;lia⟩,hL]
 apply D5
 show List.take _ (List.drop _ _)=l
 simp
theorem Bc3 {c:Nat}{l:List Nat}{Q:Nat->Prop}:W (atI (l++[c]) (-1)) Q=Q c:=by
 have:atI (l++[c]) (-1)=some c:=by
  unfold atI ixN
  rw[Beg (by decide),Bef (by simp;lia)]
  simp
  rw[show (-1+((l.length:Int)+1)).toNat=l.length by lia]
  simp
 rw[this,Af]
theorem Ak9 {x:Mk} (h:Sm x):∀ c∈L (T x []),okc c\/c=46\/c=45:=fun c hc=>by
 have e:L (T x [])=jn 46 (mp x)++tl 45 (mq x.ms)++tl 43 []:=rfl
 rw[e,Ui,Bev] at hc
 rcases List.mem_append.mp hc with q|q
 ·rcases R7 q with q|⟨p,hp,hq⟩
  ·exact .inr (.inl q)
  ·exact .inl (Ab3 h.ok p hp c hq)
 ·unfold tl at q
  split at q
  ·cases q
  ·rcases List.mem_cons.mp q with q|q
   ·exact .inr (.inr q)
   ·rcases R7 q with q|⟨p,hp,hq⟩
    ·exact .inr (.inl q)
    ·exact .inl (Ab4 h.ok p hp c hq)
theorem L8 {o:Option Mk} (h:∀ x,o=some x->Sm x) {d:Nat} (hd:d=32\/d=44):d∉oT o:=by
 cases o with
 |none=>exact fun z=>nomatch z
 |some x =>
  intro z
  have:=Ak9 (h x rfl) d z
  unfold okc at this
  lia
theorem Aeb {a b:List Nat} (ha:44∉a) (hb:44∉b):Txt.split (S (a++44::b)) (S [44])=[S a,S b]:=by
 have h:=Ik (S (a++44::b)) 44
 rw[L_S,Mn ha,Pk hb] at h
 have inj:∀ {xs ys:List Str},xs.map L=ys.map L->xs=ys:=fun {xs ys} h=>by
  have h2:=Bfa (List.map S) h
  rw[Abv,Abv] at h2
  exact h2
 exact inj h
theorem Nx {o:Option Mk} (h:∀ x,o=some x->Sm x):(oT o).length<=1000:=by
 cases o with
 |none=>simp[oT]
 |some x=>have:=sml (h x rfl);rw[Cr] at this;exact this
def Axk (o:Option Mk) (b:Bool) (u:D):D:=match o with
 |none=>u
 |some x=>if b=true then x.next.d else x.d
theorem J4:Str.ofString ""=S []:=by decide +kernel
theorem Azy (o:Option Mk):S (oT o)=match o with|none=>S []|some x=>T x []:=by
 cases o with
 |none=>rfl
 |some x=>exact S_L
theorem Bb4 {x:Mk} (h:Sm x):(T x []=S [])=False:=eq_false fun e=>by
 obtain⟨c,r,q,_⟩:=Aiv h
 rw[e] at q
 cases q
theorem Aas (o:Option Mk) (ho:∀ x,o=some x->Sm x) (b:Bool) (u:D) (hu:Bc u=true) {Q:D->Prop}:W (Yz [.str (S (oT o)),.bl b,u]) Q=Q (Axk o b u):=W.eq <| by
 unfold Yz Azm
 rw[Ay]
 cases o with
 |none =>
  rw[Azy]
  simp_arith![J4,Es hu]
  rfl
 |some x =>
  rw[Azy]
  have hx:=ho x rfl
  have nx:=@Ab8 x (by have:=hx.l;lia)
  have br:=@Uu x hx
  simp_arith![J4,Bb4 hx,br,nx]
  unfold Axk
  exact cK.mk (fun h=>by rw[h];rfl) fun h=>by rw[h];rfl
def Agh (l:Bool):Option Mk->Mk
 |none=>old0
 |some x=>if l=true then x.next else x
def Aa6 (r:Bool):Option Mk->Option Mk
 |none=>none
 |some y=>some (if r=true then y else y.next)
theorem Al9 (l:Bool) (lo:Option Mk):Axk lo l old0.d=(Agh l lo).d:=by
 cases lo with
 |none=>rfl
 |some x=>cases l<;>rfl
theorem Al8 (r:Bool) (hi:Option Mk):Axk hi (!r) .non=oD (Aa6 r hi):=by
 cases hi with
 |none=>rfl
 |some x=>cases r<;>rfl
theorem Hg (o:Option Mk):Bc (oD o)=true:=by
 cases o with
 |none=>exact Ee
 |some x=>exact Mk.pure x
theorem Bbp {c a b:Nat}{m:MH}:oIn (.str (S [c])) (.tup [.str (S [a]),.str (S [b])]) m=some (.bl (decide (c=a)||decide (c=b))):=W.out <| by
 array_get_dec
 have e:∀ x y:Nat,decide (x=y/\True)=decide (y=x):=fun x y=>by rw[Bgg];constructor<;>(intro h;simp_all)
 simp only[e,and_true,eq_comm]
 try simp[eq_comm]
theorem in2 {c a b:Nat}{m:MH}{Q:D->Prop}:W (oIn (.str (S [c])) (.tup [.str (S [a]),.str (S [b])]) m) Q=Q (.bl (decide (c=a)||decide (c=b))):=by
 rw[Bbp,Af]
theorem Aub {c a b:Nat}{m:MH}{Q:D->Prop}:W (Th (.str (S [c])) (.tup [.str (S [a]),.str (S [b])]) m) Q=Q (.bl (!(decide (c=a)||decide (c=b)))):=by
 have h:=@Bbp c a b m
 have e:Th (.str (S [c])) (.tup [.str (S [a]),.str (S [b])]) m=some (.bl (!(decide (c=a)||decide (c=b)))):=by
  unfold oIn at h
  unfold Th
  cases q:inO m (.str (S [c])) (.tup [.str (S [a]),.str (S [b])]) with
  |none=>rw[q] at h;cases h
  |some v =>
   rw[q] at h
   simp only[Bfc,Bgt,D.bl.injEq] at h ⊢
   rw[h]
 rw[e,Af]
theorem Ap1 {l:Bool}{lo hi:Option Mk}{r:Bool}:RR (.ends l lo hi r) (pc (Agh l lo) (Aa6 r hi)):=by
 refine Na ?_ (fun y hy=>?_) fun z hz=>?_
 ·cases lo with
  |none=>exact Beb ..
  |some x=>cases l<;>simp[Agh,Tm.E,Gy,Lx]
 ·cases hi with
  |none=>cases hy
  |some x=>cases r<;>cases hy<;>simp[Tm.E,Gy,Lx]
 ·show _=(loH l z lo&&hiH r z hi)
  have a1:(!z.older (Agh l lo))=loH l z lo:=by
   cases lo with
   |none=>show (!z.older old0)=true;rw[Ef hz];rfl
   |some x =>
    have gt:(!z.older x&&!decide (z=x))=x.older z:=by
     by_cases e:z=x
     ·subst e;simp[B3]
     ·rw[Cw e];simp[e]
    cases l with
    |true =>
     show (!z.older x.next)=x.older z
     rw[Yw hz,<- gt];simp
    |false =>
     show (!z.older x)=(x.older z||decide (z=x))
     rw[<- gt]
     by_cases e:z=x
     ·simp[e,B3]
     ·simp[e]
  have a2:P0 z (Aa6 r hi)=hiH r z hi:=by
   cases hi with
   |none=>rfl
   |some x =>
    cases r with
    |true=>rfl
    |false=>exact Yw hz
  rw[a1,a2]
theorem Yt (l:Bool) (lo hi:Option Mk) (r:Bool) (ht:(Tm.ends l lo hi r).Ok):W (Yy [.str (Tm.ends l lo hi r).t]) fun d=>∃ R,d=spn R/\RR (.ends l lo hi r) R:=by
 unfold Yy Azk
 rw[Ay]
 obtain⟨h1,h2⟩:=ht
 simp only[Tm.t]
 have ew:∀ a c:Nat,S (a::(oT lo++44::(oT hi++[c])))=S (a::((oT lo++44::oT hi)++[c])):=fun a c=>by simp
 have l1:=Nx h1
 have l2:=Nx h2
 rw[ew]
 generalize hm:oT lo++44::oT hi=md
 have hml:md.length<=2001:=by rw[<- hm];simp;lia
 have ew2:∀ a c:Nat,S (a::(md++[c]))=S ((a::md)++[c]):=fun a c=>rfl
 have s1:∀ {a c:Nat},Txt.slice (S (a::(md++[c]))) (some (-1)) none=S [c]:=fun {a c}=>by rw[ew2];exact Bdg
 have kl:∀ {a c:Nat},((S (a::(md++[c]))).length<=1000000)=True:=fun {a c}=>eq_true (by rw[Dx];simp;lia)
 have so:∀ {m:MH}{Q:List D->Prop},W (D1 (D.str (S md)) [D.str (S [44])] m) Q=Q [D.str (S (oT lo)),D.str (S (oT hi))]:=fun {m Q}=>by
  rw[Uq,<- hm,Aeb (L8 h1 (.inr rfl)) (L8 h2 (.inr rfl))]
  apply Bgl
  exact⟨fun q=>q.2,fun q=>⟨⟨by decide,by rw[Dx,hm];lia,by simp⟩,q⟩⟩
 have dL:decide ((if l=true then 40 else 91)=40)=l:=by cases l<;>rfl
 have dR:decide ((if r=true then 41 else 93)=93)=!r:=by cases r<;>rfl
 have dN:decide ((if r=true then 41 else 93)=41)=r:=by cases r<;>rfl
 have at':∀ {a c:Nat}{Q:Nat->Prop},W (atI (S (a::(md++[c]))).cps.toList (-1)) Q=Q c:=fun {a c Q}=>by
  show W (atI ((a::md)++[c]) (-1)) Q=Q c
  exact Bc3
 have e1:=@Aas lo h1 l old0.d (Mk.pure _)
 rw[Al9] at e1
 have e2:=@Aas hi h2 (!r) .non Ee
 rw[Al8] at e2
 have ll:(Agh l lo).ms.length<=1000:=by
  cases lo with
  |none=>simp[Agh]
  |some x =>
   have a:=(h1 x rfl).l
   have b:=O9 a
   cases l<;>simp[Agh]<;>lia
 have pi:=@C6 (Agh l lo) (Aa6 r hi) ll (fun y hy=>by
  cases hi with
  |none=>cases hy
  |some x =>
   have a:=(h2 x rfl).l
   have b:=O9 a
   cases r<;>cases hy<;>simp<;>lia)
 have o0:D.tup [D.int 0,D.int 0,D.int 0,D.tup [D.int 0]]=old0.d:=rfl
 have bl:∀ {o:Option Mk},(∀ x,o=some x->Sm x)->(((S (oT o)).length:Int) != 0)=true->(∀ {Q:D->Prop},W (Lo [.str (S (oT o))]) Q=Q (oD o))/\deq (oD o) .non=false:=fun {o} h z=>by
  cases o with
  |none=>cases z
  |some x =>
   refine⟨fun {Q}=>?_,?_⟩
   ·rw[Azy];exact Uu x (h x rfl)
   ·simp[oD,Mk.d,deq,pyD,PyData.eqv]
 have sl1:(S (oT lo)).length<=1000000:=by rw[Dx];lia
 have sl2:(S (oT hi)).length<=1000000:=by rw[Dx];lia
 have nr:∀ o:Option Mk,Ba [oD o]=true:=fun o=>Bd (by simp[A3,Hg])
 have nr2:Ba [oD lo,oD hi]=true:=Bd (by simp[A3,Hg])
 have done:∃ R,spn (pc (Agh l lo) (Aa6 r hi))=spn R/\RR (Tm.ends l lo hi r) R:=⟨_,rfl,Ap1⟩
 simp_arith![s1,Bdf,kl,so,Aub,dN,dL,dR,at',o0,e1,e2,C1 (Hg _),C1 (Mk.pure _),pi,Es (B1 _),sl1,sl2]
 refine cK.mk (fun z1=>by cases r<;>simp at z1) fun z1=>?_
 refine cK.mk (fun z=>by simp at z) fun _=>cK.mk (fun a=>?_) fun a=>cK.mk (fun b=>?_) fun b=>⟨rfl,done⟩
 ·obtain⟨f1,g1⟩:=bl h1 a
  rw[f1]
  refine cK.mk (fun b=>?_) fun b=>⟨nr lo,by rw[g1];exact cK.mk (fun q=>by cases q) fun _=>done⟩
  obtain⟨f2,g2⟩:=bl h2 b
  rw[f2]
  exact⟨nr2,by rw[g1,g2];exact cK.mk (fun q=>by cases q) fun _=>done⟩
 ·obtain⟨f2,g2⟩:=bl h2 b
  rw[f2]
  exact⟨nr hi,by rw[g2];exact cK.mk (fun q=>by cases q) fun _=>done⟩
theorem Alf {g:FL}{env:Bg}{m:MH}{Q:Wk->Prop}{ds:List D} (h:g env m=some [.lst ds]):W (Dt g env m) Q=Q ⟨Hb 0 ds,Bm⟩:=by
 have e:Dt g env m=some ⟨Hb 0 ds,Bm⟩:=by
  unfold Dt
  rw[h];rfl
 rw[e,Af]
theorem Yj {c:Nat}{r:List Nat} (h:48<=c/\c<=57) (hl:r.length<=5000) {P:D->Prop} (hp:∀ d,P d->Bc d=true) (hn:W (Rm [.str (S (c::r))]) P):W (E2 [.str (S (c::r))]) P:=by
 unfold E2 Y4
 rw[Ay]
 have n1:(c=42)=False:=eq_false (by lia)
 have n2:(c=110)=False:=eq_false (by lia)
 have n3:decide (91=c)=false:=Be4 (by lia)
 have n4:decide (40=c)=false:=Be4 (by lia)
 have kl:((S (c::r)).length<=1000000)=True:=eq_true (by rw[Dx];simp;lia)
 simp_arith![n1,n2,false_and,kl,to1,in2,n3,n4,Arz,isd h]
 exact hn.imp fun d hd=>by rw[Es (hp d hd)];exact hd
theorem Ail {c:Nat}{r:List Nat} (h:c=40\/c=91) (hl:r.length<=5000) {P:D->Prop} (hp:∀ d,P d->Bc d=true) (hn:W (Yy [.str (S (c::r))]) P):W (E2 [.str (S (c::r))]) P:=by
 unfold E2 Y4
 rw[Ay]
 have n1:(c=42)=False:=eq_false (by lia)
 have n2:(c=110)=False:=eq_false (by lia)
 have n3:(decide (91=c)||decide (40=c))=true:=by rcases h with rfl|rfl<;>rfl
 have kl:((S (c::r)).length<=1000000)=True:=eq_true (by rw[Dx];simp;lia)
 simp_arith![n1,n2,false_and,kl,to1,in2,n3]
 exact hn.imp fun d hd=>by rw[Es (hp d hd)];exact hd
theorem Aim {c:Nat}{r:List Nat} (h:c=61\/c=33\/c=60\/c=62\/c=94\/c=126) (hl:r.length<=5000) {P:D->Prop} (hp:∀ d,P d->Bc d=true) (hn:W (Y1 [.str (S (c::r))]) P):W (E2 [.str (S (c::r))]) P:=by
 unfold E2 Y4
 rw[Ay]
 have n1:(c=42)=False:=eq_false (by lia)
 have n2:(c=110)=False:=eq_false (by lia)
 have n3:decide (91=c)=false:=Be4 (by lia)
 have n4:decide (40=c)=false:=Be4 (by lia)
 have n5:Txt.isdigit (S [c])=false:=by
  rcases h with rfl|rfl|rfl|rfl|rfl|rfl<;>decide +kernel
 have kl:((S (c::r)).length<=1000000)=True:=eq_true (by rw[Dx];simp;lia)
 simp_arith![n1,n2,false_and,kl,to1,in2,n3,n4,Arz,n5]
 exact hn.imp fun d hd=>by rw[Es (hp d hd)];exact hd
def GoodR (t:Tm) (d:D):Prop:=∃ R,d=spn R/\RR t R
theorem GoodR.pure {t:Tm}{d:D} (h:GoodR t d):Bc d=true:=by
 obtain⟨R,rfl,_⟩:=h
 exact B1 R
theorem Vs {a:Int} (h:0<=a/\a < 10000000000000):∃ c r,L (sn a)=c::r/\(48<=c/\c<=57)/\r.length<=14:=by
 have hp:=Ad7 h.1
 have hd:=Hj h.1
 have hl:=De h.1 (by lia)
 rw[Cr] at hp hl
 cases q:L (sn a) with
 |nil=>rw[q] at hp;simp at hp
 |cons c r =>
  rw[q] at hd hl
  exact⟨c,r,rfl,hd c (Beb ..),by simp at hl;lia⟩
theorem Ah1 (t:Tm) (ht:t.Ok):W (E2 [.str t.t]) (GoodR t):=by
 cases t with
 |sign g x =>
  have hx:Sm x:=ht
  have r1:=Baz g x hx (Ad5 g x hx) fun d ⟨R,e,_⟩=>by rw[e];exact B1 R
  have l:=sml hx
  rw[Cr] at l
  have e:(Tm.sign g x).t=S (g.l++L (T x [])):=rfl
  rw[e] at r1 ⊢
  cases g<;>simp only[Sg.l,Be5,Bfn] at r1 ⊢<;>exact Aim (by simp) (by first|lia|(simp only[Beh];lia)) (fun d h=>GoodR.pure h) r1
 |word b =>
  unfold E2 Y4
  rw[Ay]
  have o0:D.tup [D.tup [D.tup [D.int 0,D.int 0,D.int 0,D.tup [D.int 0]],D.non]]=spn [old0]:=rfl
  cases b with
  |true =>
   simp only[Tm.t]
   simp_arith![o0]
   rw[Es (B1 _)]
   refine⟨[old0],rfl,by decide,Bfq ..,fun y hy=>by simp at hy;subst hy;exact Beb ..,fun z hz=>?_⟩
   show ((!z.older old0)^^false)=true
   rw[Ef hz];rfl
  |false =>
   simp only[Tm.t]
   array_get_dec
   exact⟨[],rfl,Bfe _,.nil,(fun y hy=>nomatch hy),fun z hz=>rfl⟩
 |num1 a =>
  have h:0<=a/\a < 10000000000000:=ht
  have r1:=An2 a h
  obtain⟨c,r,e,hc,hr⟩:=Vs h
  have e2:(Tm.num1 a).t=S (c::r):=by rw[<- e,S_L];rfl
  rw[e2] at r1 ⊢
  exact Yj hc (by lia) (fun d h=>GoodR.pure h) r1
 |num2 a b =>
  have h:=ht.1
  have h2:=ht.2
  have r1:=An3 a b h h2
  obtain⟨c,r,e,hc,hr⟩:=Vs h
  obtain⟨c',r',e',hc',hr'⟩:=Vs h2
  have e2:(Tm.num2 a b).t=S (c::(r++46::L (sn b))):=by
   show S (L (sn a)++46::L (sn b))=_
   rw[e];rfl
  rw[e2] at r1 ⊢
  exact Yj hc (by rw[e'];simp only[Beh,Bep];lia) (fun d h=>GoodR.pure h) r1
 |ends l lo hi r =>
  have r1:=Yt l lo hi r ht
  have l1:=Nx ht.1
  have l2:=Nx ht.2
  have e:(Tm.ends l lo hi r).t=S ((if l=true then 40 else 91)::(oT lo++44::(oT hi++[if r=true then 41 else 93]))):=rfl
  rw[e] at r1 ⊢
  exact Ail (by cases l<;>simp) (by simp only[Beh,Bep,Bf3];lia) (fun d h=>GoodR.pure h) r1
theorem As0:Str.ofString " "=S [32]:=by decide +kernel
theorem Yh {t:Tm} (ht:t.Ok):32∉L t.t/\(L t.t).length<=3000:=by
 have sn32:∀ a:Int,0<=a->32∉L (sn a):=fun a h z=>by
  have:=Hj h 32 z
  lia
 cases t with
 |sign g x =>
  have l:=sml ht
  rw[Cr] at l
  have f:=L8 (o:=some x) (fun y hy=>by cases hy;exact ht) (.inl rfl)
  have e:L (Tm.sign g x).t=g.l++L (T x []):=rfl
  rw[e]
  refine⟨fun z=>?_,?_⟩
  ·rcases List.mem_append.mp z with z|z
   ·cases g<;>simp[Sg.l] at z
   ·exact f z
  ·have:g.l.length<=2:=by cases g<;>decide
   rw[Bep];lia
 |word b=>cases b<;>decide
 |num1 a =>
  have h:0<=a/\a < 10000000000000:=ht
  have l:=De h.1 (by lia)
  rw[Cr] at l
  exact⟨sn32 a h.1,by show (L (sn a)).length<=3000;lia⟩
 |num2 a b =>
  have h:=ht.1
  have h2:=ht.2
  have l:=De h.1 (by lia)
  have l2:=De h2.1 (by lia)
  rw[Cr] at l l2
  have e:L (Tm.num2 a b).t=L (sn a)++46::L (sn b):=rfl
  rw[e]
  refine⟨fun z=>?_,by rw[Bep,Beh];lia⟩
  rcases List.mem_append.mp z with z|z
  ·exact sn32 a h.1 z
  ·rcases List.mem_cons.mp z with z|z
   ·cases z
   ·exact sn32 b h2.1 z
 |ends l lo hi r =>
  have l1:=Nx ht.1
  have l2:=Nx ht.2
  have f1:=L8 ht.1 (d:=32) (.inl rfl)
  have f2:=L8 ht.2 (d:=32) (.inl rfl)
  have e:L (Tm.ends l lo hi r).t=(if l=true then 40 else 91)::(oT lo++44::(oT hi++[if r=true then 41 else 93])):=rfl
  rw[e]
  refine⟨fun z=>?_,by simp only[Beh,Bep,Bf3];lia⟩
  rcases List.mem_cons.mp z with z|z
  ·cases l<;>cases z
  ·rcases List.mem_append.mp z with z|z
   ·exact f1 z
   ·rcases List.mem_cons.mp z with z|z
    ·cases z
    ·rcases List.mem_append.mp z with z|z
     ·exact f2 z
     ·cases r<;>simp at z
theorem Ao0:Str.ofString "|"=S [124]:=by decide +kernel
open Classical in
noncomputable def G3 (T:List (Str×(List D->Option D))) (n:Nat) (d:D) (ds':List D):Option D:=match d with
 |.fn j l=>if 1000<=j then (T[j - 1000]?).bind fun p=>if l.qual=p.1/\ds'.length=n then p.2 ds' else none else none
 |_=>none
theorem Alc {T:List (Str×(List D->Option D))}{n:Nat}{f:FE}{g:FL}{env:Bg}{m:MH}{Q:D->Prop}:W (Rf T n f g env m) Q=W (f env m) fun d=>W (g env m) fun ds=>W (Co m ds) fun ds'=>W (G3 T n d ds') Q:=by
 unfold Rf
 rw[W_bind];congr 1;funext d
 rw[W_bind];congr 1;funext ds
 rw[W_bind]<;>rfl
theorem Agn {a b:D}{Q:D->Prop}:W (G3 V6 2 (.fn 1000 Ht) [a,b]) Q=W (Hu [a,b]) Q:=by
 have e:G3 V6 2 (.fn 1000 Ht) [a,b]=Hu [a,b]:=by
  unfold G3
  show (if 1000<=1000 then (V6[1000 - 1000]?).bind _ else none)=_
  rw[Bef (Bej _),show V6[1000 - 1000]?=some (Str.ofString "met",Hu) from rfl,Bfc,Bef ⟨rfl,rfl⟩]
 rw[e]
theorem U6 {a b:D}{Q:D->Prop}:W (G3 V6 2 (.fn 1001 Nf) [a,b]) Q=W (Hw [a,b]) Q:=by
 have e:G3 V6 2 (.fn 1001 Nf) [a,b]=Hw [a,b]:=by
  unfold G3
  show (if 1000<=1001 then (V6[1001 - 1000]?).bind _ else none)=_
  rw[Bef (by decide),show V6[1001 - 1000]?=some (Str.ofString "joined",Hw) from rfl,Bfc,Bef ⟨rfl,rfl⟩]
 rw[e]
theorem Ai2 {α:Type}{h:α->D}{P:α->D->Prop}{g:FG}{fe:FE}{m:MH}{env:Bg}:∀ {xs:List α},(∀ x∈xs,W (g (h x) env) fun e1=>W (fe e1 m) (P x))->W (Hr g Hc fe m env (xs.map h)) fun ds=>All2 P xs ds
 |[],_=>by rw[Bf9,Eb];exact .nil
 |x::xs,hs=>by
  rw[Bee,Dj]
  have h1:=hs x (Beb ..)
  have ih:=Ai2 (xs:=xs) fun y hy=>hs y (Bed _ hy)
  array_get_dec
  exact h1.imp fun e1 he=>he.imp fun y hy=>ih.imp fun ys hys=>.cons hy hys
theorem Aei:∀ {Ts:List (List Mk)}{p:List Mk×List Mk},p∈prs Ts->p.1.length+p.2.length<=tot Ts
 |[],p,h=>by simp[prs] at h
 |[_],p,h=>by simp[prs] at h
 |A::B::Ts,p,h=>by
  rw[prs] at h
  rw[Di,Di]
  rcases List.mem_cons.mp h with rfl|h
  ·show A.length+B.length<=_;lia
  ·have:=Aei h;lia
theorem Ac7 (Ts:List (List Mk)):prs Ts=(List.range (Ts.length / 2)).map fun q=>(Ts.getD (2 * q) [],Ts.getD (2 * q+1) []):=by
 refine Bgv fun q=>?_
 by_cases h:q < Ts.length / 2
 ·have h':2 * q+1 < Ts.length:=by lia
  rw[Ac6 Ts q h',Bey,Bgk h]
  simp[show 2 * q < Ts.length by lia,h']
 ·rw[Be3 (by rw[Vj];lia),Be3 (by simp;lia)]
theorem Aa1 {i:Nat}{l:Lam}{keep:Bool->Bool->Bool}{e:Bool} (as:∀ a b c,keep (keep a b) c=keep a (keep b c)) (id:∀ a,keep a e=a)
  (hc:∀ (E F:List Mk),Spn E->Spn F->E.length+F.length<=60->W (G3 V6 2 (.fn i l) [spn E,spn F]) fun d=>∃ R,d=spn R/\Two keep E F R)
  (Rs:List (List Mk)) (hR:∀ R∈Rs,Spn R) (h0:Rs≠[]) (hl:tot Rs<=60) (hn:Rs.length<=100) :
  W (E4 [.lst (Rs.map spn),.fn i l]) fun d=>∃ R,d=spn R/\Rnd keep e Rs [R]:=by
 unfold E4 Am0
 rw[Ay]
 array_get_dec
 refine Oh (fun k en m=>m=[]/\∃ (Ts:List (List Mk)) (u:Option D),k=Ts.length/\en=[some (D.lst (Ts.map spn)),some (.fn i l),u]/\Rnd keep e Rs Ts/\Ts.length<=100) ?_ (k:=Rs.length) (by lia) ⟨rfl,Rs,_,rfl,rfl,.refl hR,hn⟩
 rintro k en m ⟨rfl,Ts,u,rfl,rfl,hT,hn'⟩
 array_get_dec
 refine cK.dec (fun z=>?_) fun z=>?_
 ·array_get_dec
  have hr:Vr 0 ((Ts.length:Int) - 1) 2=Ts.length / 2:=by
   unfold Vr
   rw[Bef (by lia)]
   lia
  rw[hr]
  refine⟨⟨by lia,by lia⟩,by simp;lia,?_⟩
  refine W.imp (Ai2 (P:=fun q d=>∃ S,d=spn S/\Two keep (Ts.getD (2 * q) []) (Ts.getD (2 * q+1) []) S) fun q hq=>?_) fun ds hds=>?_
  ·have hq:q < Ts.length / 2:=List.mem_range.mp hq
   have q1:2 * q < Ts.length:=by lia
   have q2:2 * q+1 < Ts.length:=by lia
   have e1:∀ {Q:D->Prop},W (atI (Ts.map spn) ((q:Int) * 2)) Q=Q (spn (Ts.getD (2 * q) [])):=fun {Q}=>by
    rw[show ((q:Int) * 2)=((2 * q:Nat):Int) by lia,M0 q1]
    simp[q1]
   have e2:∀ {Q:D->Prop},W (atI (Ts.map spn) ((q:Int) * 2+1)) Q=Q (spn (Ts.getD (2 * q+1) [])):=fun {Q}=>by
    rw[show ((q:Int) * 2+1)=((2 * q+1:Nat):Int) by lia,M0 q2]
    simp[q2]
   have m1:Ts.getD (2 * q) []∈Ts:=by simp[q1]
   have m2:Ts.getD (2 * q+1) []∈Ts:=by simp[q2]
   have mp:(Ts.getD (2 * q) [],Ts.getD (2 * q+1) [])∈prs Ts:=by
    rw[Ac7]
    exact List.mem_map.mpr ⟨q,List.mem_range.mpr hq,rfl⟩
   have hh:=hc _ _ (hT.ok _ m1) (hT.ok _ m2) (by have a:(Ts.getD (2 * q) []).length+(Ts.getD (2 * q+1) []).length<=tot Ts:=Aei mp;have:=hT.len;lia)
   simp_arith![Alc,e1,e2,C1 (B1 _)]
   exact hh
  ·obtain⟨Ss,e3,h3⟩:=hds.out
   have h4:All2 (fun p S=>Two keep p.1 p.2 S) (prs Ts) Ss:=by rw[Ac7];exact h3.map_left
   have hlen:Ss.length=Ts.length / 2:=by rw[<- h4.length,Vj]
   have hr:=Aj3 (e:=e) as hT.ok h4
   have ec:Hs Ts (some (2 * (ds.length:Int))) none=lft Ts:=by
    rw[e3,Bel,hlen,Xn,show (2 * ((Ts.length / 2:Nat):Int))=((2 * (Ts.length / 2):Nat):Int) by lia,Afp]
   rw[ec]
   have ll:(lft Ts).length<=1:=by rw[Xn,Bg0];lia
   refine⟨by rw[e3,Bel];lia,Ss.length+(lft Ts).length,?_,Ss++lft Ts,_,by rw[Bep],⟨by rw[e3,Be6],rfl⟩,hT.trans hr,by rw[Bep];lia⟩
   have:=Bfa List.length (Xn Ts)
   rw[Bg0] at this
   lia
 ·have h1:Ts.length=1:=by
   have:=hT.ne h0
   have:Ts.length≠0:=fun z=>this (List.length_eq_zero_iff.mp z)
   lia
  obtain⟨T,rfl⟩:=List.length_eq_one_iff.mp h1
  simp_arith![Es (B1 _)]
  exact⟨T,rfl,hT⟩
theorem Ac4 {x:Mk} (h:Mok x):Pos x:=⟨h.a.1,h.b.1,h.c.1,fun m hm=>An0 (h.ms m hm)⟩
theorem Ac2:∀ m∈[Mark.n 0],m.pos:=fun m hm=>by simp at hm;subst hm;exact Bff 0
theorem Ahe {x:Mk} (h:Pos x):Pos x.next:=by
 unfold Mk.next
 split
 ·exact⟨h.a,h.b,by have:=h.c;show 0<=x.c+1;lia,Ac2⟩
 ·exact⟨h.a,h.b,h.c,fun m hm=>by
   rcases List.mem_append.mp hm with q|q
   ·exact h.ms m q
   ·exact Ac2 m q⟩
theorem Ac3 {x:Mk} (h:Pos x):Pos (E8 x):=by
 have a:=h.a
 have b:=h.b
 have c:=h.c
 unfold E8
 split
 ·exact⟨by show 0<=x.a+1;lia,Bff 0,Bff 0,Ac2⟩
 ·split
  ·exact⟨Bff 0,by show 0<=x.b+1;lia,Bff 0,Ac2⟩
  ·exact⟨Bff 0,Bff 0,by show 0<=x.c+1;lia,Ac2⟩
theorem Pb {x:Mk} (h:Sm x):∀ y∈Lx x,Pos y:=fun y hy=>by
 have p:=Ac4 h.ok
 simp only[Lx,Bex,Bes,or_false] at hy
 rcases hy with rfl|rfl|rfl|rfl
 ·exact p
 ·exact Ahe p
 ·exact Ac3 p
 ·exact⟨p.a,by have:=p.b;show 0<=x.b+1;lia,Bff 0,Ac2⟩
theorem Bao {t:Tm} (ht:t.Ok):∀ y∈old0::t.E,Pos y:=fun y hy=>by
 rcases List.mem_cons.mp hy with rfl|hy
 ·exact⟨Bff 0,Bff 0,Bff 0,Ac2⟩
 ·cases t with
  |sign g x=>exact Pb ht y hy
  |word b=>cases hy
  |num1 a =>
   have h:0<=a/\a < 10000000000000:=ht
   simp[Tm.E] at hy
   rcases hy with rfl|rfl
   ·exact⟨h.1,Bff 0,Bff 0,Ac2⟩
   ·exact⟨by show 0<=a+1;lia,Bff 0,Bff 0,Ac2⟩
  |num2 a b =>
   have h:=ht.1
   have h2:=ht.2
   simp[Tm.E] at hy
   rcases hy with rfl|rfl
   ·exact⟨h.1,h2.1,Bff 0,Ac2⟩
   ·exact⟨h.1,by show 0<=b+1;lia,Bff 0,Ac2⟩
  |ends l lo hi r =>
   rcases List.mem_append.mp (show y∈Gy lo++Gy hi from hy) with h|h
   ·cases lo with
    |none=>cases h
    |some x=>exact Pb (ht.1 x rfl) y h
   ·cases hi with
    |none=>cases h
    |some x=>exact Pb (ht.2 x rfl) y h
theorem Axs {t:Tm} (ht:t.Ok):∀ y∈old0::t.E,Cu y.d=true/\y.ms.length<=1000:=fun y hy=>by
 refine⟨?_,by have:=(Axt ht).1 y hy;lia⟩
 have z0:∀ m∈[Mark.n 0],mok m:=fun m hm=>by simp at hm;subst hm;exact⟨by decide,by decide⟩
 have f4:∀ x,Sm x->∀ y∈Lx x,Cu y.d=true:=fun x hx y hy=>by
  simp only[Lx,Bex,Bes,or_false] at hy
  rcases hy with rfl|rfl|rfl|rfl
  ·exact G7 hx.ok.ms
  ·exact Xk hx.ok.ms
  ·unfold E8
   split
   ·exact G7 z0
   ·split<;>exact G7 z0
  ·exact G7 z0
 rcases List.mem_cons.mp hy with rfl|hy
 ·exact Abg
 ·cases t with
  |sign g x=>exact f4 x ht y hy
  |word b=>cases hy
  |num1 a =>
   simp[Tm.E] at hy
   rcases hy with rfl|rfl<;>exact G7 z0
  |num2 a b =>
   simp[Tm.E] at hy
   rcases hy with rfl|rfl<;>exact G7 z0
  |ends l lo hi r =>
   rcases List.mem_append.mp (show y∈Gy lo++Gy hi from hy) with h|h
   ·cases lo with
    |none=>cases h
    |some x=>exact f4 x (ht.1 x rfl) y h
   ·cases hi with
    |none=>cases h
    |some x=>exact f4 x (ht.2 x rfl) y h
theorem RR.spn {t:Tm} (ht:t.Ok) {R:List Mk} (h:RR t R):Spn R:=⟨h.2.1,fun x hx=>Axs ht x (h.2.2.1 x hx)⟩
theorem Anw (E F:List Mk) (hE:Spn E) (hF:Spn F) (hl:E.length+F.length<=60):W (G3 V6 2 (.fn 1000 Ht) [spn E,spn F]) fun d=>∃ R,d=spn R/\Two (fun a b=>a&&b) E F R:=by
 rw[Agn]
 exact (Ajj E F hE.rise hF.rise hE.key hF.key hl).imp fun d ⟨R,e,h1,h2,h3,h4⟩=>⟨R,e,⟨h1,fun x hx=>(h2 x hx).elim (hE.key x) (hF.key x)⟩,h2,h3,h4⟩
theorem Zb (E F:List Mk) (hE:Spn E) (hF:Spn F) (hl:E.length+F.length<=60):W (G3 V6 2 (.fn 1001 Nf) [spn E,spn F]) fun d=>∃ R,d=spn R/\Two (fun a b=>a||b) E F R:=by
 rw[U6]
 exact (R9 E F hE.rise hF.rise hE.key hF.key hl).imp fun d ⟨R,e,h1,h2,h3,h4⟩=>⟨R,e,⟨h1,fun x hx=>(h2 x hx).elim (hE.key x) (hF.key x)⟩,h2,h3,h4⟩
structure RowR (row:List Tm) (R:List Mk):Prop where
 ok:Spn R
 mem:∀ x∈R,∃ t∈row,x∈old0::t.E
 len:R.length<=(row.map Tm.w).sum
 par:∀ z,Pos z->ML.par z R=row.all fun t=>t.H z
structure RowsR (rows:List (List Tm)) (R:List Mk):Prop where
 ok:Spn R
 mem:∀ x∈R,∃ row∈rows,∃ t∈row,x∈old0::t.E
 len:R.length<=(rows.map fun r=>(r.map Tm.w).sum).sum
 par:∀ z,Pos z->ML.par z R=rows.any fun row=>row.all fun t=>t.H z
theorem Uj:∀ {row:List Tm}{Rs:List (List Mk)},All2 RR row Rs->tot Rs<=(row.map Tm.w).sum
 |_,_,.nil=>by simp[tot]
 |_,_,.cons h t=>by have:=Uj t;have:=h.1;rw[Di,Bee,Bgo];lia
theorem Py {z:Mk} (hz:Pos z):∀ {row:List Tm}{Rs:List (List Mk)},All2 RR row Rs->Ai1 (fun a b=>a&&b) true (Rs.map (ML.par z))=row.all fun t=>t.H z
 |_,_,.nil=>rfl
 |_,_,.cons h t=>by
  rw[Bfi,<- Py hz t,<- h.2.2.2 z hz];rfl
theorem L3:∀ {row:List Tm}{Rs:List (List Mk)},All2 RR row Rs->∀ R∈Rs,∃ t∈row,RR t R
 |_,_,.nil,R,h=>nomatch h
 |_,_,.cons h t,R,hR=>by
  rcases List.mem_cons.mp hR with rfl|hR
  ·exact⟨_,Beb ..,h⟩
  ·obtain⟨t',h1,h2⟩:=L3 t R hR
   exact⟨t',Bed _ h1,h2⟩
theorem Aqv:∀ r:List Tm,(r.map Tm.w).sum<=3 * r.length
 |[]=>by simp
 |t::r=>by have:=Aqv r;have:=t.w2.2;rw[Bee,Bgo,Beh];lia
theorem Aj5 {row:List Tm}{Rs:List (List Mk)} (hr:∀ t∈row,t.Ok) (h0:row≠[]) (hl:row.length<=4) (h:All2 RR row Rs):W (E4 [.lst (Rs.map spn),.fn 1000 Ht]) fun d=>∃ R,d=spn R/\RowR row R:=by
 have hn:=h.length
 have tt:=Uj h
 have tw:=Aqv row
 refine (Aa1 (e:=true) (by decide) (by decide) Anw Rs (fun R hR=>?_) (fun z=>h0 (by rw[z] at hn;exact List.length_eq_zero_iff.mp hn)) (by lia) (by lia)).imp fun d ⟨R,e,hR⟩=>⟨R,e,hR.ok R (by simp),fun x hx=>?_,?_,fun z hz=>?_⟩
 ·obtain⟨t,h1,h2⟩:=L3 h R hR
  exact h2.spn (hr t h1)
 ·obtain⟨S,hS,hx⟩:=hR.mem R (by simp) x hx
  obtain⟨t,h1,h2⟩:=L3 h S hS
  exact⟨t,h1,h2.2.2.1 x hx⟩
 ·have:=hR.len
  rw[Di] at this
  lia
 ·have:=hR.par z
  rw[Py hz h] at this
  rw[<- this]
  simp[Ai1]
theorem Yk:∀ {rows:List (List Tm)}{Rs:List (List Mk)},All2 RowR rows Rs->tot Rs<=(rows.map fun r=>(r.map Tm.w).sum).sum
 |_,_,.nil=>by simp[tot]
 |_,_,.cons h t=>by have:=Yk t;have:=h.len;rw[Di,Bee,Bgo];lia
theorem V0 {z:Mk} (hz:Pos z):∀ {rows:List (List Tm)}{Rs:List (List Mk)},All2 RowR rows Rs->Ai1 (fun a b=>a||b) false (Rs.map (ML.par z))=rows.any fun row=>row.all fun t=>t.H z
 |_,_,.nil=>rfl
 |_,_,.cons h t=>by
  rw[Bf6,<- V0 hz t,<- h.par z hz];rfl
theorem O2:∀ {rows:List (List Tm)}{Rs:List (List Mk)},All2 RowR rows Rs->∀ R∈Rs,∃ row∈rows,RowR row R
 |_,_,.nil,R,h=>nomatch h
 |_,_,.cons h t,R,hR=>by
  rcases List.mem_cons.mp hR with rfl|hR
  ·exact⟨_,Beb ..,h⟩
  ·obtain⟨t',h1,h2⟩:=O2 t R hR
   exact⟨t',Bed _ h1,h2⟩
theorem Ap0 {rows:List (List Tm)}{Rs:List (List Mk)} (h0:rows≠[]) (hl:(rows.map fun r=>(r.map Tm.w).sum).sum<=60) (hn':rows.length<=30) (h:All2 RowR rows Rs):W (E4 [.lst (Rs.map spn),.fn 1001 Nf]) fun d=>∃ R,d=spn R/\RowsR rows R:=by
 have hn:=h.length
 have tt:=Yk h
 refine (Aa1 (e:=false) (by decide) (by decide) Zb Rs (fun R hR=>?_) (fun z=>h0 (by rw[z] at hn;exact List.length_eq_zero_iff.mp hn)) (by lia) (by lia)).imp fun d ⟨R,e,hR⟩=>⟨R,e,hR.ok R (by simp),fun x hx=>?_,(by have:=hR.len;rw[Di] at this;lia),fun z hz=>?_⟩
 ·obtain⟨t,h1,h2⟩:=O2 h R hR
  exact h2.ok
 ·obtain⟨S,hS,hx⟩:=hR.mem R (by simp) x hx
  obtain⟨t,h1,h2⟩:=O2 h S hS
  exact⟨t,h1,h2.mem x hx⟩
 ·have:=hR.par z
  rw[V0 hz h] at this
  rw[<- this]
  simp[Ai1]
def wt:Option Tm->Str
 |none=>S [124]
 |some t=>t.t
noncomputable def wl:List (List Tm)->List (Option Tm)
 |[]=>[]
 |r::rs=>r.map some++rs.flatMap fun r=>none::r.map some
noncomputable def ix {α:Type}:Nat->List α->List (Nat×α)
 |_,[]=>[]
 |i,a::as=>(i,a)::ix (i+1) as
theorem Aje {α:Type}:∀ (i:Nat) (as:List α),(ix i as).map (·.2)=as
 |_,[]=>rfl
 |i,a::as=>by rw[ix,Bee,Aje (i+1) as]
def wh (p:Nat×Option Tm):D:=.tup [.int p.1,.str (wt p.2)]
theorem Aau:∀ (i:Nat) (ws:List (Option Tm)),Hb i ((ws.map wt).map D.str)=(ix i ws).map wh
 |_,[]=>rfl
 |i,w::ws=>by rw[Bee,Bee,Hb,Aau (i+1) ws,ix,Bee];rfl
theorem Aqq {t:Tm} (ht:t.Ok):(t.t=S [124])=False:=eq_false fun e=>by
 have h:=Bfa L e
 rw[L_S] at h
 cases t with
 |sign g x=>cases g<;>simp[Tm.t,Sg.l,L_S] at h
 |word b=>cases b<;>simp[Tm.t,L_S] at h
 |num1 a =>
  have:124∈L (sn a):=by show 124∈L (Tm.num1 a).t;rw[h];simp
  have h1:0<=a/\a < 10000000000000:=ht
  have:=Hj h1.1 124 this
  lia
 |num2 a b =>
  have:46∈L (Tm.num2 a b).t:=by simp[Tm.t,L_S]
  rw[h] at this;simp at this
 |ends l lo hi r=>cases l<;>simp[Tm.t,L_S] at h
theorem Ub (Rs:List (List Mk)):A3 (Rs.map spn)=true:=A2 B1
theorem Bd5 {m:MH}{n i:Nat}{l:Lam}{ds:List D} (hm:m[n]?=some (.lst ds)) (hd:A3 ds=true):Cc m [.ref n,.fn i l]=some [.lst ds,.fn i l]:=by
 have h1:Ais m (.ref n)=some (.lst ds):=by
  show (match m[n]? with
   |some (.lst ds)=>if Ba ds=true then some (D.lst ds) else none
   |_=>none)=_
  rw[hm]
  show (if Ba ds=true then some (D.lst ds) else none)=_
  rw[Bef (Bd hd)]
 rw[Cc,h1,Cc,Cc];rfl
theorem Azg {m:MH}{n i:Nat}{l:Lam}{Rs:List (List Mk)}{Q:D->Prop} (hm:m[n]?=some (.lst (Rs.map spn))):W (Du 2 E4 [.ref n,.fn i l] m) Q=W (E4 [.lst (Rs.map spn),.fn i l]) Q:=by
 rw[Vy,Bd5 hm (Ub Rs),Af]
 simp
theorem Ba1 {m:MH}{n:Nat}{ds:List D} (hm:m[n]?=some (.lst ds)) {Q:List D->Prop}:W (sq m (.ref n)) Q=Q ds:=by
 have:sq m (.ref n)=some ds:=by
  show (match m[n]? with
   |some (.lst ds)=>some ds
   |_=>none)=_
  rw[hm]
 rw[this,Af]
theorem Eu {α β:Type}{P:α->β->Prop}:∀ {as:List α}{bs:List β}{a:α}{b:β},All2 P as bs->P a b->All2 P (as++[a]) (bs++[b])
 |_,_,_,_,.nil,h=>.cons h .nil
 |_,_,_,_,.cons h t,h'=>.cons h (Eu t h')
theorem Af3 (R:List Mk) {m:MH}{Q:D->Prop}:W (M7 (spn R) m) Q=Q (.bl false):=by
 have:M7 (spn R) m=some (.bl false):=rfl
 rw[this,Af]
theorem Yc {rows:List (List Tm)} (h0:rows≠[]) (hne:∀ r∈rows,r≠[]) (ht:∀ r∈rows,∀ t∈r,t.Ok) (h4:∀ r∈rows,r.length<=4) (hl:(rows.map fun r=>(r.map Tm.w).sum).sum<=60) (hn:rows.length<=30) (u:Str) (hu:u.length<=900000) (hs:Txt.split u (S [32])=(wl rows).map wt) (hw:(wl rows).length<=1000) :
  W (Jl [.str u]) fun d=>∃ R,d=spn R/\RowsR rows R:=by
 unfold Jl Amr
 rw[Ay]
 have so:∀ {m:MH}{Q:List D->Prop},W (D1 (D.str u) [D.str (S [32])] m) Q=Q (((wl rows).map wt).map D.str):=fun {m Q}=>by
  rw[Uq,hs]
  apply Bgl
  exact⟨fun q=>q.2,fun q=>⟨⟨by decide,by lia,by simp;lia⟩,q⟩⟩
 simp_arith![As0,so]
 rw[Alf rfl,Aau]
 refine G1 (fun rest e m=>∃ (alts terms:List (List Mk)) (olds:List MObj) (v w x:Option D) (pre post:List (List Tm)) (cur todo:List Tm),m=.lst (alts.map spn)::(olds++[.lst (terms.map spn)])/\e=[some (.str u),some (.lst (((wl rows).map wt).map D.str)),some (.ref 0),some (.ref (olds.length+1)),v,w,x] /\
   rows=pre++(cur++todo)::post/\rest.map (·.2)=todo.map some++(post.flatMap fun r=>none::r.map some)/\All2 RowR pre alts/\All2 RR cur terms) ?_ ?_ ?_
 ·rintro ⟨k,o⟩ rest e m ⟨alts,terms,olds,v,w,x,pre,post,cur,todo,rfl,rfl,hr,hrest,ha,hterm⟩
  refine⟨trivial,?_⟩
  have g0:(MObj.lst (alts.map spn)::(olds++[MObj.lst (terms.map spn)]))[olds.length+1]?=some (.lst (terms.map spn)):=by simp
  have sq1:=@Ba1 _ _ _ g0
  have ca1:=fun {Q:D->Prop}=>@Azg _ _ 1000 Ht terms Q g0
  unfold wh
  simp_arith![Ao0,sq1,ca1]
  cases todo with
  |cons t todo =>
   simp only[Bee,Be5,Bg5] at hrest
   obtain⟨rfl,hrest⟩:=hrest
   have hrow:cur++t::todo∈rows:=by rw[hr];simp
   have tok:t.Ok:=ht _ hrow t (by simp)
   refine cK.mk (fun z=>by simp[wt,Aqq tok] at z) fun _=>?_
   refine (Ah1 t tok).imp fun d ⟨R,e,hR⟩=>?_
   subst e
   have i1:=@Af3 R
   simp_arith![i1]
   have hl4:=h4 _ hrow
   have hln:=hterm.length
   simp at hl4
   refine⟨by lia,alts,terms++[R],olds,_,_,_,pre,post,cur++[t],todo,⟨rfl,by simp⟩,⟨rfl,rfl,rfl,rfl⟩,by rw[hr];simp,hrest,ha,Eu hterm hR⟩
  |nil =>
   cases post with
   |nil=>simp at hrest
   |cons r post =>
    simp only[Bf9,Bfn,Bee,Bhd,Be5,Bg5] at hrest
    obtain⟨rfl,hrest⟩:=hrest
    rw[Bev] at hr
    have hrow:cur∈rows:=by rw[hr];simp
    have hcn:=hne _ hrow
    refine cK.mk (fun _=>?_) fun z=>by simp[wt] at z
    have hln:=hterm.length
    refine cK.mk (fun _=>?_) fun z=>?_
    ·refine (Aj5 (ht _ hrow) hcn (h4 _ hrow) hterm).imp fun d ⟨R,e,hR⟩=>?_
     subst e
     have hal:=ha.length
     have:pre.length<=30:=by rw[hr] at hn;simp at hn;lia
     refine⟨by lia,alts++[R],[],olds++[MObj.lst (terms.map spn)],_,_,_,pre++[cur],post,[],r,⟨by simp,by simp⟩,⟨by simp,rfl,rfl,rfl⟩,by rw[hr];simp,hrest,Eu ha hR,.nil⟩
    ·exfalso
     have:terms≠[]:=fun q=>hcn (by rw[q] at hln;exact List.length_eq_zero_iff.mp hln)
     cases terms with
     |nil=>exact this rfl
     |cons a b=>simp at z
 ·rintro e m ⟨alts,terms,olds,v,w,x,pre,post,cur,todo,rfl,rfl,hr,hrest,ha,hterm⟩
  refine⟨trivial,?_⟩
  have g0:(MObj.lst (alts.map spn)::(olds++[MObj.lst (terms.map spn)]))[olds.length+1]?=some (.lst (terms.map spn)):=by simp
  have sq1:=@Ba1 _ _ _ g0
  have ca1:=fun {Q:D->Prop}=>@Azg _ _ 1000 Ht terms Q g0
  have ht0:todo=[]:=by
   cases todo with
   |nil=>rfl
   |cons=>simp at hrest
  have hp0:post=[]:=by
   cases post with
   |nil=>rfl
   |cons=>rw[ht0] at hrest;simp at hrest
  subst ht0 hp0
  rw[Bev] at hr
  have hrow:cur∈rows:=by rw[hr];simp
  have hcn:=hne _ hrow
  have hln:=hterm.length
  simp_arith![sq1,ca1]
  refine cK.mk (fun z=>?_) fun _=>?_
  ·exfalso
   have:terms≠[]:=fun q=>hcn (by rw[q] at hln;exact List.length_eq_zero_iff.mp hln)
   cases terms with
   |nil=>exact this rfl
   |cons a b=>simp at z
  ·refine (Aj5 (ht _ hrow) hcn (h4 _ hrow) hterm).imp fun d ⟨R,e,hR⟩=>?_
   subst e
   have hal:=ha.length
   have:pre.length<=30:=by rw[hr] at hn;simp at hn;lia
   have g1:(MObj.lst (alts.map spn++[spn R])::(olds++[MObj.lst (terms.map spn)]))[0]?=some (.lst ((alts++[R]).map spn)):=by simp
   rw[Azg g1]
   refine⟨by lia,(Ap0 (rows:=rows) h0 hl hn (Rs:=alts++[R]) (by rw[hr];exact Eu ha hR)).imp fun d ⟨R',e,h'⟩=>?_⟩
   subst e
   rw[Es (B1 _)]
   exact⟨R',rfl,h'⟩
 ·cases rows with
  |nil=>exact absurd rfl h0
  |cons r rs =>
   refine⟨[],[],[],_,_,_,[],rs,[],r,rfl,rfl,rfl,?_,.nil,.nil⟩
   rw[Aje];rfl
theorem Aeg (s:Str) (ts:List Str):Txt.join s ts=Str.join s ts:=StrLaws.glued_eq_join s ts
theorem Abc (s:Str):∀ (t:Str) (ts:List Str),L (Str.join s (t::ts))=L t++ts.flatMap fun u=>L s++L u
 |t,[]=>by simp[Str.join]
 |t,u::us=>by
  show L (t++s++Str.join s (u::us))=_
  rw[D4,D4,Abc s u us]
  simp
theorem Abb (c:Nat):∀ (p:List Nat) (ps:List (List Nat)),jn c (p::ps)=p++ps.flatMap fun q=>c::q
 |p,[]=>by simp[jn]
 |p,q::r=>by rw[jn,Abb c q r];simp
def Adx (r:List Tm):Str:=Txt.join (S [32]) (r.map Tm.t)
def txR (rows:List (List Tm)):Str:=Txt.join (S [32,124,32]) (rows.map Adx)
theorem Ady (t:Tm) (r:List Tm):L (Adx (t::r))=L t.t++r.flatMap fun u=>32::L u.t:=by
 unfold Adx
 rw[Aeg,Bee,Abc,Bg1]
 rfl
theorem Aeu:∀ rs:List (List Tm),(∀ r∈rs,r≠[])->(rs.flatMap fun r=>none::r.map some).flatMap (fun o=>32::L (wt o))=rs.flatMap fun r=>32::124::32::L (Adx r)
 |[],_=>rfl
 |[]::rs,h=>absurd rfl (h [] (by simp))
 |(t::r)::rs,h=>by
  rw[Bhd,List.flatMap_append,Aeu rs fun r hr=>h r (by simp[hr]),Bhd (xs:=rs),Ady]
  simp[Bg1,wt,L_S]
theorem Bbb:∀ {rows:List (List Tm)},rows≠[]->(∀ r∈rows,r≠[])->L (txR rows)=jn 32 ((wl rows).map fun o=>L (wt o))
 |[],h,_=>absurd rfl h
 |[]::rs,_,h=>absurd rfl (h [] (by simp))
 |(t::r)::rs,_,h=>by
  unfold txR
  rw[Aeg,Bee,Abc,Ady,wl,Bee,Be5,Bee,Abb,Bg1,Bg1,List.flatMap_append,Aeu rs fun r hr=>h r (by simp[hr]),Bg1]
  simp[wt,L_S,List.append_assoc]
theorem Aqw:∀ {o:Option Tm},(∀ t,o=some t->t.Ok)->32∉L (wt o)
 |none,_=>by simp[wt,L_S]
 |some t,h=>(Yh (h t rfl)).1
theorem Axg {rows:List (List Tm)} (ht:∀ r∈rows,∀ t∈r,t.Ok):∀ o∈wl rows,∀ t,o=some t->t.Ok:=by
 intro o ho t e
 subst e
 cases rows with
 |nil=>cases ho
 |cons r rs =>
  rw[wl] at ho
  rcases List.mem_append.mp ho with q|q
  ·obtain⟨u,hu,e⟩:=List.mem_map.mp q
   cases e
   exact ht r (by simp) _ hu
  ·obtain⟨r',hr',q⟩:=List.mem_flatMap.mp q
   rcases List.mem_cons.mp q with q|q
   ·cases q
   ·obtain⟨u,hu,e⟩:=List.mem_map.mp q
    cases e
    exact ht r' (by simp[hr']) _ hu
theorem Ua {rows:List (List Tm)} (h0:rows≠[]) (hne:∀ r∈rows,r≠[]) (ht:∀ r∈rows,∀ t∈r,t.Ok):Txt.split (txR rows) (S [32])=(wl rows).map wt:=by
 have e:txR rows=Str.join ⟨#[32]⟩ ((wl rows).map wt):=D5 <| by
  rw[Bbb h0 hne,Iz,Be8];rfl
 have hs:S [32]=⟨#[32]⟩:=rfl
 rw[hs,e]
 refine N5 (fun z=>?_) fun t h=>?_
 ·cases rows with
  |nil=>exact h0 rfl
  |cons r rs =>
   cases r with
   |nil=>exact hne [] (by simp) rfl
   |cons t r=>simp[wl] at z
 ·obtain⟨o,ho,rfl⟩:=List.mem_map.mp h
  exact Aqw (Axg ht o ho)
def rD (rows:List (List Tm)):D:=.lst (rows.map fun r=>.lst (r.map Tm.d))
theorem Awu:Str.ofString " | "=S [32,124,32]:=by decide +kernel
theorem Abd {s:Str} (hs:s.length<=3):∀ {ts:List Str}{b:Nat},(∀ t∈ts,t.length<=b)->(Str.join s ts).length<=ts.length * (b+3)
 |[],b,_=>by simp[Str.join];rfl
 |t::ts,b,h=>by
  rw[Cr,Abc,Bep,<- Cr,List.length_flatMap]
  have h1:=h t (by simp)
  have:∀ us:List Str,(∀ u∈us,u.length<=b)->(us.map fun u=>(L s++L u).length).sum<=us.length * (b+3):=by
   intro us
   induction us with
   |nil=>intro _;simp
   |cons u us ih =>
    intro hu
    have i:=ih fun v hv=>hu v (by simp[hv])
    have:=hu u (by simp)
    rw[Bee,Bgo,Bep,<- Cr,<- Cr,Beh,Nat.succ_mul]
    lia
  have:=this ts fun u hu=>h u (by simp[hu])
  rw[Beh,Nat.succ_mul]
  lia
theorem Yb {r:List Tm} (ht:∀ t∈r,t.Ok) (h4:r.length<=4):(Adx r).length<=12012:=by
 unfold Adx
 rw[Aeg]
 have:=Abd (s:=S [32]) (by decide) (ts:=r.map Tm.t) (b:=3000) fun t h=>by
  obtain⟨u,hu,rfl⟩:=List.mem_map.mp h
  rw[Cr]
  exact (Yh (ht u hu)).2
 rw[Bel] at this
 lia
theorem Aeo {rows:List (List Tm)} (ht:∀ r∈rows,∀ t∈r,t.Ok) (h4:∀ r∈rows,r.length<=4) (hn:rows.length<=30):(txR rows).length<=900000:=by
 unfold txR
 rw[Aeg]
 have:=Abd (s:=S [32,124,32]) (by decide) (ts:=rows.map Adx) (b:=12012) fun t h=>by
  obtain⟨u,hu,rfl⟩:=List.mem_map.mp h
  exact Yb (ht u hu) (h4 u hu)
 rw[Bel] at this
 lia
structure GR (rows:List (List Tm)):Prop where
 ne:rows≠[]
 row:∀ r∈rows,r≠[]
 ok:∀ r∈rows,∀ t∈r,t.Ok0
 l3:∀ r∈rows,r.length<=3
 n3:rows.length<=3
noncomputable def Ahx (is:List Nat):List D:=is.map fun i=>.ref (i+1)
def Aj4 (rows:List (List Tm)):MH:=.lst (Ahx (List.range rows.length))::rows.map fun r=>.lst (r.map Tm.d)
theorem Ahz {rows:List (List Tm)}{i:Nat} (h:i < rows.length):(Aj4 rows)[i+1]?=some (.lst ((rows.getD i []).map Tm.d)):=by
 unfold Aj4
 rw[Bf5,Bey]
 simp[h]
theorem Zq (rows:List (List Tm)):(List.range rows.length).map (fun i=>rows.getD i [])=rows:=by
 refine Bgv fun i=>?_
 by_cases h:i < rows.length
 ·simp[h,Bgk h]
 ·simp[h]
theorem Yn {rows:List (List Tm)}:∀ {is:List Nat},(∀ i∈is,i < rows.length)->xpL (Aj4 rows) (Ahx is)=some (is.map fun i=>D.lst ((rows.getD i []).map Tm.d))
 |[],_=>rfl
 |i::is,h=>by
  have e:xp1 (Aj4 rows) (.ref (i+1))=some (.lst ((rows.getD i []).map Tm.d)):=by
   unfold xp1
   simp only[Ahz (h i (by simp))]
   rw[Bef (A2 Tm.pure)]
  show xpL _ (.ref (i+1)::Ahx is)=_
  rw[xpL,e,Bfc,Yn fun j hj=>h j (by simp[hj])];rfl
theorem Xo {sc:D}{ns:List Int} (hs:Scr sc ns) (k:Int) (hk:0<=k) (hk2:k < 1000) (xs:List Mk) (hx:∀ x∈xs,Sm0 x) (h0:0 < xs.length) (h1:xs.length<=100):W (Nj [sc,.int k,.lst (xs.map Mk.d)]) fun d=>∃ rows,d=rD rows/\GR rows:=by
 unfold Nj Ana
 rw[Ay]
 try simp_arith![↓hs.v]
 refine B2 (Bh hs k 3 hk (by lia) (by decide)) fun v1 h10 h11=>?_
 try simp_arith![↓hs.v]
 refine⟨⟨by lia,by lia⟩,Px (fun i e m=>∃ (rows:List (List Tm)) (u v w:Option D),rows.length=i/\(∀ r∈rows,∀ t∈r,t.Ok0)/\(∀ r∈rows,r≠[])/\(∀ r∈rows,r.length<=3)/\m=Aj4 rows/\e=[some sc,some (.int k),some (.lst (xs.map Mk.d)),some (.ref 0),u,v,w]) ?_ ?_ ⟨[],_,_,_,rfl,(fun r h=>nomatch h),(fun r h=>nomatch h),(fun r h=>nomatch h),rfl,rfl⟩⟩
 ·rintro i e m hi ⟨rows,u,v,w,hlen,hok,hne,h3,rfl,rfl⟩
  refine⟨trivial,?_⟩
  try simp_arith![↓hs.v]
  have rl:List.length (Aj4 rows)=rows.length+1:=by simp[Aj4]
  rw[rl]
  refine B2 (Bh hs _ 3 (by lia) (by lia) (by decide)) fun v2 h20 h21=>?_
  try simp_arith![↓hs.v]
  refine⟨⟨by lia,by lia⟩,Px (fun j e m=>∃ (r:List Tm) (w:Option D),r.length=j/\(∀ t∈r,t.Ok0)/\m=.lst (Ahx (List.range rows.length))::((rows.map fun r=>MObj.lst (r.map Tm.d))++[.lst (r.map Tm.d)])/\e=[some sc,some (.int k),some (.lst (xs.map Mk.d)),some (.ref 0),some (.int i),some (.ref (rows.length+1)),w]) ?_ ?_ ⟨[],_,rfl,(fun t h=>nomatch h),rfl,rfl⟩⟩
  ·rintro j e m hj ⟨r,w,hr,htok,rfl,rfl⟩
   refine⟨trivial,?_⟩
   have g0:(MObj.lst (Ahx (List.range rows.length))::((rows.map fun r=>MObj.lst (r.map Tm.d))++[.lst (r.map Tm.d)]))[rows.length+1]?=some (.lst (r.map Tm.d)):=by simp
   have sq1:=@Ba1 _ _ _ g0
   try simp_arith![↓hs.v,sq1]
   refine (Aqs hs _ (by lia) (by lia) xs hx (by lia) (by lia)).imp fun d ⟨t,e,ht⟩=>?_
   subst e
   refine⟨by lia,r++[t],_,by simp[hr],fun u hu=>?_,by simp,rfl⟩
   rcases List.mem_append.mp hu with q|q
   ·exact htok u q
   ·simp at q;subst q;exact ht
  ·rintro e m ⟨r,w,hr,htok,rfl,rfl⟩
   refine⟨trivial,?_⟩
   try simp_arith![↓hs.v]
   have mem:∀ q∈rows++[r],q∈rows\/q=r:=fun q hq=>by
    rcases List.mem_append.mp hq with h|h
    ·exact .inl h
    ·simp at h;exact .inr h
   refine⟨by simp[Ahx];lia,rows++[r],_,_,_,by simp[hlen],fun q hq=>?_,fun q hq=>?_,fun q hq=>?_,?_,rfl,rfl,rfl⟩
   ·rcases mem q hq with h|rfl
    ·exact hok q h
    ·exact htok
   ·rcases mem q hq with h|rfl
    ·exact hne q h
    ·intro z;subst z;simp at hr;lia
   ·rcases mem q hq with h|rfl
    ·exact h3 q h
    ·lia
   ·unfold Aj4 Ahx
    rw[Bep,Bga,List.range_succ,Be6,Be6];rfl
 ·rintro e m ⟨rows,u,v,w,hlen,hok,hne,h3,rfl,rfl⟩
  refine⟨trivial,?_⟩
  try simp_arith![↓hs.v]
  have hn:0 < rows.length:=by lia
  rw[Bbn (ds:=Ahx (List.range rows.length)) rfl]
  refine cK.mk (fun z=>?_) fun _=>?_
  ·obtain⟨n,e⟩:∃ n,rows.length=n+1:=⟨rows.length - 1,by lia⟩
   rw[e,List.range_succ_eq_map] at z
   simp[Ahx,A3,Bc] at z
  ·rw[Yn fun i hi=>List.mem_range.mp hi,Af]
   refine⟨rows,?_,fun z=>by rw[z] at hn;simp at hn,hne,hok,h3,by lia⟩
   unfold rD
   conv=>rhs;rw[<- Zq rows,Be8]
   rfl
theorem Agi {rows:List (List Tm)} (ht:∀ r∈rows,∀ t∈r,t.Ok) (h4:∀ r∈rows,r.length<=4) (hn:rows.length<=30) (z:Mk) (zm:z.ms.length<=900) {Q:D->Prop}:W (Nk [rD rows,z.d]) Q=Q (.bl (rows.any fun r=>r.all fun t=>t.H z)):=W.eq <| by
 unfold Nk Anb rD
 rw[Ay]
 array_get_dec
 refine⟨by first|lia|(simp;lia),Be (fun r=>D.bl (r.all fun t=>t.H z)) (fun r hrr=>?_) ?_⟩
 ·have:=h4 r hrr
  array_get_dec
  refine⟨by first|lia|(simp;lia),Be (fun t=>D.bl (t.H z)) (fun t htt=>?_) ?_⟩
  ·have hh:=@Af0 t (ht r hrr t htt) z zm
   have tp:=t.pure
   simp_arith![C1 tp,hh]
  ·simp_arith![Ha]
   simp[Function.comp_def]
 ·simp_arith![Ha]
  simp[Function.comp_def]
theorem Ah6 {R:List Mk} (h:∀ x∈R,x.ms.length<=1000):∀ p∈Aq R,small p:=fun p hp=>by
 obtain⟨h1,h2⟩:=Ds hp
 exact⟨h _ h1,fun x e=>h _ (h2 x e)⟩
theorem Anp (z:Mk) (R:List Mk) (hz:z.ms.length<=1000) (hR:Er R) (hm:∀ x∈R,x.ms.length<=1000) (hl:R.length<=900) {Q:D->Prop}:W (Ls [z.d,spn R]) Q=Q (.bl (par z R)):=by
 unfold spn
 rw[Anq z (Aq R) hz (Ah6 hm) (by rw[C3];lia) (Mb hR),Acu hR]
theorem Ie:∀ {R:List Mk},∀ p∈(Aq R).dropLast,p.2.isNone=false
 |[],p,h=>by simp[Aq] at h
 |[x],p,h=>by simp[Aq] at h
 |x::y::r,p,h=>by
  rw[Aq] at h
  cases e:Aq r with
  |nil=>rw[e] at h;simp at h
  |cons q qs =>
   rw[e,List.dropLast_cons_of_ne_nil (by simp)] at h
   rcases List.mem_cons.mp h with rfl|h
   ·rfl
   ·exact Ie (R:=r) p (by rw[e];exact h)
theorem Aa9 (R:List Mk) (hR:Er R) (hm:∀ x∈R,x.ms.length<=1000) (hl:R.length<=900) {Q:D->Prop}:W (Rq [spn R]) Q=Q (.bl true):=W.eq <| by
 unfold Rq Amx spn
 rw[Ay]
 have pl:=C3 R
 array_get_dec
 refine⟨by simp;lia,?_⟩
 rw[<- List.map_dropLast]
 refine Be (fun p=>oD p.2) (fun p _=>by array_get_dec) ⟨Bd (A2 fun p=>Hg p.2),?_⟩
 have e1:(List.map (fun p:Pc=>oD p.2) (Aq R).dropLast).any (fun d=>deq d D.non)=false:=by
  rw[List.any_map,List.any_eq_false]
  intro p hp
  show ¬ deq (oD p.2) (oD none)=true
  rw[Acd]
  have:=Ie p hp
  cases h:p.2 with
  |none=>rw[h] at this;cases this
  |some x=>simp
 rw[e1,Al1,Oo (Aq R) (by lia),Abr (Ga _),Gs]
 have e2:((R.map Mk.d).length:Int)=R.length:=by rw[Bel]
 rw[e2]
 have e3:(R.length - 1:Int).toNat=R.length - 1:=by lia
 rw[e3]
 refine⟨⟨by lia,by lia⟩,by simp[Dc];lia,?_⟩
 unfold Dc
 refine Be (fun k=>.bl true) (fun k hk=>?_) ?_
 ·have hk:=List.mem_range.mp hk
  have h1:k < R.length:=by lia
  have h2:k+1 < R.length:=by lia
  have e3:(k:Int)+1=((k+1:Nat):Int):=by lia
  simp_arith![e3,M0 h1,M0 h2,Ej R[k] R[k+1] (hm _ (Bfp h1)) (hm _ (Bfp h2))]
  rw[List.pairwise_iff_getElem.mp hR k (k+1) h1 h2 (by lia)]
 ·rw[Ha (p:=fun _=>true),all_map]
  simp
noncomputable def bt (p:Pc):Tm:=.ends false (some p.1) p.2 true
def brR (R:List Mk):List (List Tm):=if R=[] then [[.word false]] else (Aq R).map fun p=>[bt p]
theorem Yg:∀ ts:List Str,Ei (ts.map D.str)=0
 |[]=>rfl
 |t::ts=>by rw[Bee,Ei,Yg ts];rfl
theorem Aij (ts:List Str):deq (.lst (ts.map D.str)) (.lst [])=decide (ts=[]):=by
 cases ts<;>simp[deq,pyD,Cf,PyData.eqv,PyData.eqvAll]
theorem Ah0 (t:Tm):Adx [t]=t.t:=D5 (by rw[Ady];simp)
theorem Aqt (t:Tm):txR [[t]]=t.t:=D5 (by
 unfold txR
 rw[Bee,Bf9,Ah0,Aeg,Abc];simp)
theorem As3 {R:List Mk} (hS:∀ x∈R,Sm x) {p:Pc} (hp:p∈Aq R):(bt p).Ok:=by
 have hm:=Ds hp
 exact⟨fun x e=>by cases e;exact hS _ hm.1,fun x e=>hS _ (hm.2 x e)⟩
theorem Aty (R:List Mk) (hS:∀ x∈R,Sm x) (hl:R.length<=60) {Q:D->Prop}:W (Aaz [spn R]) Q=Q (.str (txR (brR R))):=W.eq <| by
 unfold Aaz Azn spn
 rw[Ay]
 have pl:=C3 R
 have k1:∀ a:Nat,(S [a]).length=1:=fun a=>rfl
 have k0:(S []).length=0:=rfl
 have mi:∀ x,Sm x->∀ {Q:D->Prop},W (Ec [x.d]) Q=Q (.str (T x [])):=fun x h=>@O6 x h.ok (by have:=h.l;lia)
 array_get_dec
 refine G1 (h:=pD) (fun rest e m=>∃ (pre:List Pc) (u v w:Option D),m=[.lst ((pre.map fun p=>(bt p).t).map D.str)]/\e=[some (.tup ((Aq R).map pD)),some (.ref 0),u,v,w]/\pre++rest=Aq R) ?_ ?_ ⟨[],_,_,_,rfl,rfl,rfl⟩
 ·rintro ⟨l,h⟩ rest e m ⟨pre,u,v,w,rfl,rfl,he⟩
  refine⟨trivial,?_⟩
  have hm:=Ds (ys:=R) (p:=(l,h)) (by rw[<- he];simp)
  have sl:=hS l hm.1
  have ml:=@mi l sl
  have ll:=sml sl
  have hpl:pre.length<=60:=by have:=Bfa List.length he;simp at this;lia
  cases h with
  |none =>
   simp_arith![J4,ml]
   have ex:S [91]++T l []++S [44]++S []++S [41]=(bt (l,none)).t:=D5 (by rw[D4,D4,D4,D4];simp[L_S,bt,Tm.t,oT])
   rw[ex]
   exact⟨by simp only[k1];lia,by simp only[k1,length_append];lia,by simp only[k1,k0,length_append];lia,by simp only[k1,k0,length_append];lia,by lia,pre++[(l,none)],_,_,_,by rw[Be6,Be6];rfl,⟨rfl,rfl,rfl⟩,by rw[<- he];simp⟩
  |some x =>
   have sx:=hS x (hm.2 x rfl)
   have mx:∀ {Q:D->Prop},W (Ec [oD (some x)]) Q=Q (.str (T x [])):=@mi x sx
   have lx:=sml sx
   simp_arith![J4,ml,mx]
   have ex:S [91]++T l []++S [44]++T x []++S [41]=(bt (l,some x)).t:=D5 (by rw[D4,D4,D4,D4];simp[L_S,bt,Tm.t,oT])
   rw[ex]
   exact⟨by simp only[k1];lia,by simp only[k1,length_append];lia,by simp only[k1,length_append];lia,by simp only[k1,length_append];lia,by lia,pre++[(l,some x)],_,_,_,by rw[Be6,Be6];rfl,⟨rfl,rfl,rfl⟩,by rw[<- he];simp⟩
 ·rintro e m ⟨pre,u,v,w,rfl,rfl,he⟩
  refine⟨trivial,?_⟩
  rw[Bev] at he
  subst he
  simp_arith![Aij,Awu]
  refine⟨Bd (A2 fun p=>E9),rfl,by rw[dep,Yg];decide,cK.dec (fun z=>?_) fun z=>?_⟩
  ·have e:R=[]:=by
    rw[List.map_eq_nil_iff] at z
    rw[z] at pl
    exact List.length_eq_zero_iff.mp (by simp at pl;lia)
   subst e
   exact Bfa D.str (Aqt (.word false)).symm
  ·have e:R≠[]:=fun e=>z (by rw[e];rfl)
   rw[Og,brR,Beg e]
   refine⟨Xf (b:=3000) (fun t h=>?_) (by rw[Bel];lia) (by decide),?_⟩
   ·obtain⟨p,hp,rfl⟩:=List.mem_map.mp h
    rw[Cr]
    exact (Yh (As3 hS hp)).2
   ·unfold txR
    rw[Be8]
    congr 2
theorem Ak8:∀ rows:List (List Tm),(wl rows).length<=(rows.map List.length).sum+rows.length
 |[]=>by simp[wl]
 |r::rs=>by
  have:∀ rs:List (List Tm),(rs.flatMap fun r=>(none:Option Tm)::r.map some).length=(rs.map List.length).sum+rs.length:=by
   intro rs
   induction rs with
   |nil=>rfl
   |cons r rs ih=>rw[Bhd,Bep,ih];simp;lia
  rw[wl,Bep,this];simp;lia
theorem Aer:∀ {rows:List (List Tm)}{n:Nat},(∀ r∈rows,(r.map Tm.w).sum<=n)->(rows.map fun r=>(r.map Tm.w).sum).sum<=n * rows.length
 |[],_,_=>by simp
 |r::rs,n,h=>by
  have:=Aer (rows:=rs) (n:=n) fun u hu=>h u (by simp[hu])
  have:=h r (by simp)
  rw[Bee,Bgo,Beh,Nat.mul_succ];lia
theorem Abi:∀ {rows:List (List Tm)}{n:Nat},(∀ r∈rows,r.length<=n)->(rows.map List.length).sum<=n * rows.length
 |[],_,_=>by simp
 |r::rs,n,h=>by
  have:=Abi (rows:=rs) (n:=n) fun u hu=>h u (by simp[hu])
  have:=h r (by simp)
  rw[Bee,Bgo,Beh,Nat.mul_succ];lia
theorem Bc4 (z:Mk) (p:Pc):(bt p).H z=inP z p:=by
 obtain⟨l,h⟩:=p
 have e:loH false z (some l)=!z.older l:=by
  show (l.older z||decide (z=l))=_
  by_cases q:z=l
  ·subst q;rw[B3];simp
  ·rw[Agj q];simp[q]
 show (loH false z (some l)&&hiH true z h)=_
 rw[e]
 cases h<;>rfl
theorem Al0 (R:List Mk) (z:Mk):((brR R).any fun row=>row.all fun t=>t.H z)=(Aq R).any (inP z):=by
 unfold brR
 split
 ·rename_i e;subst e;rfl
 ·rw[List.any_map]
  congr 1;funext p
  show ([bt p].all fun t=>t.H z)=_
  rw[Bfi,List.all_nil,Bool.and_true,Bc4]
theorem As2 {R:List Mk} (hS:∀ x∈R,Sm x):∀ r∈brR R,∃ t:Tm,r=[t]/\t.Ok/\t.w=2:=fun r hr=>by
 unfold brR at hr
 split at hr
 ·simp at hr;subst hr;exact⟨_,rfl,trivial,rfl⟩
 ·obtain⟨p,hp,rfl⟩:=List.mem_map.mp hr
  exact⟨_,rfl,As3 hS hp,rfl⟩
theorem Afg (R:List Mk) (hR:Er R) (hS:∀ x∈R,Sm x) (hl:R.length<=60):W (Jl [.str (txR (brR R))]) fun d=>d=spn R:=by
 have ok:=As2 hS
 have pl:=C3 R
 have hn:(brR R).length<=30:=by
  unfold brR
  split
  ·simp
  ·rw[Bel];lia
 have h0:brR R≠[]:=fun e=>by
  unfold brR at e
  split at e
  ·cases e
  ·rename_i z
   rw[List.map_eq_nil_iff] at e
   rw[e] at pl
   exact z (List.length_eq_zero_iff.mp (by simp at pl;lia))
 have hne:∀ r∈brR R,r≠[]:=fun r hr=>by obtain⟨t,rfl,_⟩:=ok r hr;simp
 have ht:∀ r∈brR R,∀ t∈r,t.Ok:=fun r hr t h=>by obtain⟨u,rfl,h1,_⟩:=ok r hr;simp at h;subst h;exact h1
 have h1:∀ r∈brR R,r.length<=1:=fun r hr=>by obtain⟨u,rfl,_⟩:=ok r hr;simp
 have h4:∀ r∈brR R,r.length<=4:=fun r hr=>by have:=h1 r hr;lia
 have hw:=Aer (n:=2) fun r hr=>by obtain⟨u,rfl,_,e⟩:=ok r hr;simp[e]
 have hw2:=Abi h1
 have hw3:=Ak8 (brR R)
 refine (Yc h0 hne ht h4 (by lia) hn _ (Aeo ht h4 hn) (Ua h0 hne ht) (by lia)).imp fun d ⟨R',e,h⟩=>?_
 rw[e,Ml h.ok.rise hR fun z hz=>?_]
 have pz:Pos z:=by
  rcases hz with hz|hz
  ·obtain⟨r,hr,t,htt,hx⟩:=h.mem z hz
   exact Bao (ht r hr t htt) z hx
  ·exact Ac4 (hS z hz).ok
 rw[h.par z pz,Al0,Acu hR]
theorem C5 {a b c:Int} (h1:0<=a/\a < 10000000000000) (h2:0<=b/\b < 10000000000000) (h3:0<=c/\c < 10000000000000):Sm ⟨a,b,c,[.n 0]⟩ :=
 ⟨⟨h1,h2,h3,fun m hm=>by simp at hm;subst hm;exact⟨by decide,by decide⟩⟩,by simp⟩
theorem U3 {x:Mk} (h:Sm0 x):∀ y∈Lx x,Sm y:=fun y hy=>by
 have ha:=h.ok.a
 have hb:=h.ok.b
 have hc:=h.ok.c
 have hl:=h.l
 simp only[Lx,Bex,Bes,or_false] at hy
 rcases hy with rfl|rfl|rfl|rfl
 ·exact h.up
 ·unfold Mk.next
  split
  ·exact C5 ⟨ha.1,by lia⟩ ⟨hb.1,by lia⟩ ⟨by lia,by lia⟩
  ·refine⟨⟨⟨ha.1,by dsimp only;lia⟩,⟨hb.1,by dsimp only;lia⟩,⟨hc.1,by dsimp only;lia⟩,fun m hm=>?_⟩,by simp;lia⟩
   rcases List.mem_append.mp hm with q|q
   ·exact h.ok.ms m q
   ·simp at q;subst q;exact⟨by decide,by decide⟩
 ·unfold E8
  split
  ·exact C5 ⟨by lia,by lia⟩ (by decide) (by decide)
  ·split
   ·exact C5 (by decide) ⟨by lia,by lia⟩ (by decide)
   ·exact C5 (by decide) (by decide) ⟨by lia,by lia⟩
 ·exact C5 ⟨ha.1,by lia⟩ ⟨by lia,by lia⟩ (by decide)
theorem Bbz {t:Tm} (ht:t.Ok0):∀ y∈old0::t.E,Sm y:=fun y hy=>by
 rcases List.mem_cons.mp hy with rfl|hy
 ·exact C5 (by decide) (by decide) (by decide)
 ·cases t with
  |sign g x=>exact U3 ht y hy
  |word b=>cases hy
  |num1 a =>
   have h:0<=a/\a < 1000000000000:=ht
   simp[Tm.E] at hy
   rcases hy with rfl|rfl
   ·exact C5 ⟨h.1,by lia⟩ (by decide) (by decide)
   ·exact C5 ⟨by lia,by lia⟩ (by decide) (by decide)
  |num2 a b =>
   have h:=ht.1
   have h2:=ht.2
   simp[Tm.E] at hy
   rcases hy with rfl|rfl
   ·exact C5 ⟨h.1,by lia⟩ ⟨h2.1,by lia⟩ (by decide)
   ·exact C5 ⟨h.1,by lia⟩ ⟨by lia,by lia⟩ (by decide)
  |ends l lo hi r =>
   rcases List.mem_append.mp (show y∈Gy lo++Gy hi from hy) with h|h
   ·cases lo with
    |none=>cases h
    |some x=>exact U3 (ht.1 x rfl) y h
   ·cases hi with
    |none=>cases h
    |some x=>exact U3 (ht.2 x rfl) y h
structure SpS (f:Mk->Bool) (n:Nat) (R:List Mk):Prop where
 rise:Er R
 sm:∀ x∈R,Sm x
 len:R.length<=n
 par:∀ z,Pos z->ML.par z R=f z
def Gm (rows:List (List Tm)) (z:Mk):Bool:=rows.any fun r=>r.all fun t=>t.H z
theorem Adr {rows:List (List Tm)} (g:GR rows):W (Jl [.str (txR rows)]) fun d=>∃ R,d=spn R/\SpS (Gm rows) 27 R:=by
 have ht:∀ r∈rows,∀ t∈r,t.Ok:=fun r hr t h=>(g.ok r hr t h).up
 have n3:=g.n3
 have h4:∀ r∈rows,r.length<=4:=fun r hr=>by have:=g.l3 r hr;lia
 have hw:=Aer (rows:=rows) (n:=9) fun r hr=>by have:=Aqv r;have:=g.l3 r hr;lia
 have hw2:=Abi h4
 have hw3:=Ak8 rows
 refine (Yc g.ne g.row ht h4 (by lia) (by lia) _ (Aeo ht h4 (by lia)) (Ua g.ne g.row ht) (by lia)).imp fun d ⟨R,e,h⟩=>⟨R,e,h.ok.rise,fun x hx=>?_,by have:=h.len;lia,h.par⟩
 obtain⟨r,hr,t,htt,hx⟩:=h.mem x hx
 exact Bbz (g.ok r hr t htt) x hx
theorem SpS.spn {f:Mk->Bool}{n:Nat}{R:List Mk} (h:SpS f n R):Spn R:=⟨h.rise,fun x hx=>⟨G7 (h.sm x hx).ok.ms,by have:=(h.sm x hx).l;lia⟩⟩
theorem Vw {f g:Mk->Bool}{keep:Bool->Bool->Bool}{E F R:List Mk} (hE:SpS f 27 E) (hF:SpS g 27 F) (h1:Er R) (h2:∀ x∈R,x∈E\/x∈F) (h3:R.length<=E.length+F.length) (h4:∀ z,par z R=keep (par z E) (par z F)):SpS (fun z=>keep (f z) (g z)) 60 R :=
 ⟨h1,fun x hx=>(h2 x hx).elim (hE.sm x) (hF.sm x),by have:=hE.len;have:=hF.len;lia,fun z hz=>by rw[h4,hE.par z hz,hF.par z hz]⟩
theorem Aqg (R C:List Mk):deq (spn R) (spn C)=decide (Aq R=Aq C):=Acs _ _
theorem Atc (Rs:List (List Mk)):deq (.lst (Rs.map spn)) (.lst (Rs.map spn))=true:=by
 have h:∀ Rs:List (List Mk),PyData.eqvAll (Cf (Rs.map spn)) (Cf (Rs.map spn))=true:=by
  intro Rs
  induction Rs with
  |nil=>rfl
  |cons R Rs ih =>
   have e:PyData.eqv (pyD (spn R)) (pyD (spn R))=true:=by
    have:=Aqg R R
    rw[deq] at this
    rw[this];simp
   rw[Bee,Cf,PyData.eqvAll,e,ih];rfl
 rw[deq,pyD,PyData.eqv,h]
theorem Ba9 {Rs:List (List Mk)}{sc mk rr:D}{u:Option D}{o:MObj} (hR:∀ R∈Rs,Er R/\(∀ x∈R,Sm x)/\R.length<=60) (hn:Rs.length<=5) {Q:D->Prop}
  (fin:W (Po [some sc,some mk,some rr,some (.ref 1),u,some (.lst (Rs.map spn)),none,none,none,none,none] [o,.lst (Rs.map spn)]) (Yx Q)) :
  W (Vu [some sc,some mk,some rr,some (.ref 1),u,none,none,none,none,none,none] [o,.lst (Rs.map spn)]) (Yx Q):=by
 unfold Vu
 have nr:Ba (Rs.map spn)=true:=Bd (Ub Rs)
 array_get_dec
 refine⟨by lia,Be (h:=spn) spn (fun R hRR=>?_) ?_⟩
 ·have h:=hR R hRR
  have lb:=@Aty R h.2.1 h.2.2
  simp_arith![C1 (B1 R),lb]
  exact Afg R h.1 h.2.1 h.2.2
 ·array_get_dec
  refine⟨by lia,Be (h:=spn) (fun _=>.bl true) (fun R hRR=>?_) ?_⟩
  ·have h:=hR R hRR
   have is:=@Aa9 R h.1 (fun x hx=>by have:=(h.2.1 x hx).l;lia) (by lia)
   simp_arith![C1 (B1 R),is]
   rfl
  ·simp_arith![Ha,nr,Atc]
   have ea:(Rs.map fun _=>true).all (fun b=>b)=true:=by rw[all_map];simp
   rw[ea,Bool.not_true,Al1]
   refine⟨?_,fin⟩
   have:Ei (Rs.map spn)<=4:=D7 fun d hd=>by
    obtain⟨R,_,rfl⟩:=List.mem_map.mp hd
    exact Aol _
   rw[dep];lia
theorem Aaa {f g:FS}{e:Bg}{m:MH}{Q:Out->Prop} (P:Out->Prop) (h:W (f e m) P) (q:∀ o,P o->Ap9 g Q o):W (Ax f g e m) Q:=by
 rw[Aiy];exact h.imp q
theorem Apx {rows:List (List Tm)}{m:MH}{Q:D->Prop}:W (C0 m (rD rows)) Q=Q (rD rows):=by
 have n:∀ l:List (List Tm),Ba (l.map fun r=>D.lst (r.map Tm.d))=true:=by
  intro l
  induction l with
  |nil=>rfl
  |cons r l ih=>rw[Bee,Ba,Cm,ih,Bd (A2 Tm.pure)];rfl
 unfold rD
 rw[Aab,n];simp
theorem dq5 (a b c d e:Bool):deq (.lst [.bl a,.bl b,.bl c,.bl d,.bl e]) (.lst [.bl a,.bl b,.bl c,.bl d,.bl e])=true:=by
 simp[deq,pyD,Cf,PyData.eqv,PyData.eqvAll]
theorem Bba {ns:List Int} (hl:ns.length<=63) {xs:List Mk} (hx:∀ x∈xs,Mo0 x/\x.ms.length<=8) (h0:0 < xs.length) (h5:xs.length<=5) {r1 r2:List (List Tm)} (g1:GR r1) (g2:GR r2) {R1 R2 R3 R4 R5:List Mk}{o:MObj}{u w:Option D}
  (s1:SpS (Gm r1) 60 R1) (s2:SpS (Gm r2) 60 R2) (s3:SpS (fun z=>Gm r1 z&&Gm r2 z) 60 R3) (s4:SpS (fun z=>Gm r1 z||Gm r2 z) 60 R4) (s5:SpS (fun z=>Gm r1 z&&!Gm r2 z) 60 R5) :
  W (Po [some (.kl (ns.map .int)),some (.lst (xs.map Mk.d)),some (.lst [rD r1,rD r2]),some (.ref 1),u,w,none,none,none,none,none] [o,.lst [spn R1,spn R2,spn R3,spn R4,spn R5]]) (Yx fun d=>d=.bl true):=by
 unfold Po
 array_get_dec
 refine⟨by decide,Be (h:=fun k:Nat=>D.int (0+k)) (fun k:Nat=>D.int ((0+(k:Int)) * 48271)) (xs:=List.range 10) (fun k hk=>by array_get_dec) ?_⟩
 obtain⟨cs,ec,lc⟩:∃ cs:List Int,(Hs ns none (some 63)).map D.int++(List.range 10).map (fun k:Nat=>D.int ((0+(k:Int)) * 48271))=cs.map D.int/\cs.length<=73 :=
  ⟨Hs ns none (some 63)++(List.range 10).map fun k:Nat=>(0+(k:Int)) * 48271,by rw[Be6,Be8];rfl,by
   have:=Aam (xs:=ns) (lo:=none) (hi:=some 63)
   simp;lia⟩
 have lc2:(Hs ns none (some 63)).length+((List.range 10).map (fun k:Nat=>D.int ((0+(k:Int)) * 48271))).length<=1000000:=by
  have:=Aam (xs:=ns) (lo:=none) (hi:=some 63)
  simp;lia
 rw[ec]
 have lm:(cs.map D.int).length=cs.length:=Bel ..
 have hs:Scr (.lst (cs.map .int)) cs:=Ap8 lc
 have sd:∀ {r:List (List Tm)},GR r->∀ (z:Mk),z.ms.length<=900->∀ {Q:D->Prop},W (Nk [rD r,z.d]) Q=Q (.bl (Gm r z)):=fun {r} g z hz=>@Agi r (fun q hq t h=>(g.ok q hq t h).up) (fun q hq=>by have:=g.l3 q hq;lia) (by have:=g.n3;lia) z hz
 have li:∀ {f:Mk->Bool}{R:List Mk},SpS f 60 R->∀ (z:Mk),Mo0 z->z.ms.length<=900->∀ {Q:D->Prop},W (Ls [z.d,spn R]) Q=Q (.bl (f z)):=fun {f R} s z hm hz Q=>by
  rw[Anp z R (by lia) s.rise (fun x hx=>by have:=(s.sm x hx).l;lia) (by have:=s.len;lia),s.par z (Ac4 hm.up)]
 refine⟨lc2,⟨by lia,by lia⟩,Px (fun k e m=>m=[o,.lst [spn R1,spn R2,spn R3,spn R4,spn R5]]/\∃ a b c d:Option D,e=[some (.kl (ns.map .int)),some (.lst (xs.map Mk.d)),some (.lst [rD r1,rD r2]),some (.ref 1),u,w,some (.lst (cs.map .int)),a,b,c,d]) ?_ ?_ ⟨rfl,_,_,_,_,rfl⟩⟩
 ·rintro k e m hk ⟨rfl,a,b,c,d,rfl⟩
  refine⟨trivial,?_⟩
  rw[Bbg]
  have hk2:k < 73:=by simp at hk;lia
  refine Aaa (fun q=>∃ z:Mk,q=.nx [some (.kl (ns.map .int)),some (.lst (xs.map Mk.d)),some (.lst [rD r1,rD r2]),some (.ref 1),u,w,some (.lst (cs.map .int)),some (.int (0+k)),some z.d,c,d] [o,.lst [spn R1,spn R2,spn R3,spn R4,spn R5]]/\Mo0 z/\z.ms.length<=8) ?_ ?_
  ·try simp_arith![↓hs.v]
   refine B2 (Bh hs _ _ (by lia) (by lia) (by lia)) fun v hv0 hv1=>?_
   try simp_arith![↓hs.v]
   refine Et hv0 (by simpa using hv1) fun y _ hy=>?_
   obtain⟨y,hyy,rfl⟩:=List.mem_map.mp hy
   try simp_arith![↓hs.v]
   refine (Ab7 hs _ (by lia) (by lia) y 8 (by decide) (by decide) ((hx y hyy).1.good (hx y hyy).2)).imp fun q ⟨z,e,h4,h5⟩=>?_
   subst e
   exact⟨z,by simp,h4,h5⟩
  rintro q ⟨z,rfl,hm,hz⟩
  rw[Ph]
  have zz:z.ms.length<=900:=by lia
  have zp:=z.pure
  refine Aaa (fun q=>q=.nx [some (.kl (ns.map .int)),some (.lst (xs.map Mk.d)),some (.lst [rD r1,rD r2]),some (.ref 1),u,w,some (.lst (cs.map .int)),some (.int (0+k)),some z.d,some (.lst [.bl (Gm r1 z),.bl (Gm r2 z)]),d] [o,.lst [spn R1,spn R2,spn R3,spn R4,spn R5]]) ?_ ?_
  ·have d1:=@sd r1 g1 z zz
   have d2:=@sd r2 g2 z zz
   simp_arith![↓Apx,C1 zp,d1,d2]
  rintro q rfl
  rw[Ph]
  have l1:=@li _ _ s1 z hm zz
  have l2:=@li _ _ s2 z hm zz
  have l3:=@li _ _ s3 z hm zz
  have l4:=@li _ _ s4 z hm zz
  have l5:=@li _ _ s5 z hm zz
  generalize Gm r1 z=A at l1 l3 l4 l5 ⊢
  generalize Gm r2 z=B at l2 l3 l4 l5 ⊢
  refine Aaa (fun q=>q=.nx [some (.kl (ns.map .int)),some (.lst (xs.map Mk.d)),some (.lst [rD r1,rD r2]),some (.ref 1),u,w,some (.lst (cs.map .int)),some (.int (0+k)),some z.d,some (.lst [.bl A,.bl B]),some (.lst [.bl A,.bl B,.bl (A&&B),.bl (A||B),.bl (A&&!B)])] [o,.lst [spn R1,spn R2,spn R3,spn R4,spn R5]]) ?_ ?_
  ·cases A<;>cases B<;>array_get_dec
  rintro q rfl
  rw[Ph]
  simp_arith![C1 zp,C1 (B1 _),l1,l2,l3,l4,l5,dq5]
  exact⟨rfl,rfl,by simp[dep,Ei],_,_,_,_,rfl,rfl,rfl,rfl⟩
 ·rintro e m ⟨rfl,a,b,c,d,rfl⟩
  refine⟨trivial,?_⟩
  array_get_dec
theorem law_true (ns:List Int) (hl:ns.length<=63):Ng [.kl (ns.map .int)]=some (.bl true):=W.out <| by
 unfold Ng Ame
 rw[Ay]
 have hs:Scr (.kl (ns.map .int)) ns:=Awr (by lia)
 array_get_dec
 refine B2 (Bh hs 0 5 (by decide) (by decide) (by decide)) fun v0 h00 h01=>?_
 array_get_dec
 refine (Agk hs 10 (1+v0) (by decide) (by decide) (by lia) (by lia)).imp fun d ⟨xs,e,hx,hn⟩=>?_
 subst e
 rw[Abr (Ga xs)]
 have hx0:∀ x∈xs,Sm0 x:=fun x h=>⟨(hx x h).1,(hx x h).2⟩
 refine⟨L5 xs,(Xo hs 200 (by decide) (by decide) xs hx0 (by lia) (by lia)).imp fun d ⟨r1,e,g1⟩=>?_⟩
 subst e
 refine⟨L5 xs,(Xo hs 320 (by decide) (by decide) xs hx0 (by lia) (by lia)).imp fun d ⟨r2,e,g2⟩=>?_⟩
 subst e
 refine G1 (h:=rD) (xs:=[r1,r2]) (fun rest e m=>∃ (dn:List (List (List Tm))) (Rs:List (List Mk)) (u:Option D),m=[.lst (Rs.map spn)]/\e=[some (.kl (ns.map .int)),some (.lst (xs.map Mk.d)),some (.lst [rD r1,rD r2]),some (.ref 0),u,none,none,none,none,none,none]/\dn++rest=[r1,r2]/\All2 (fun r R=>SpS (Gm r) 27 R) dn Rs) ?_ ?_ ⟨[],[],_,rfl,rfl,rfl,.nil⟩
 ·rintro r rest e m ⟨dn,Rs,u,rfl,rfl,he,ha⟩
  refine⟨trivial,?_⟩
  have g:GR r:=by
   have:r∈[r1,r2]:=by rw[<- he];simp
   simp at this
   rcases this with rfl|rfl
   ·exact g1
   ·exact g2
  have ht:∀ q∈r,∀ t∈q,t.Ok:=fun q hq t h=>(g.ok q hq t h).up
  have h4:∀ q∈r,q.length<=4:=fun q hq=>by have:=g.l3 q hq;lia
  have n3:=g.n3
  have dl:Rs.length<=2:=by
   have:=Bfa List.length he
   have:=ha.length
   simp at *;lia
  unfold rD
  simp_arith![Awu,As0]
  refine⟨by lia,Be (fun r=>.str (Adx r)) (fun q hq=>?_) ?_⟩
  ·have hr4:=h4 q hq
   array_get_dec
   refine⟨by lia,Be (fun t=>.str t.t) (fun t h=>?_) ?_⟩
   ·have tt:=@Aio t (ht q hq t h)
    have tp:=t.pure
    simp_arith![C1 tp,tt]
   ·rw[show q.map (fun t=>D.str t.t)=(q.map Tm.t).map D.str by rw[Be8];rfl]
    simp_arith![Og]
    refine⟨Xf (b:=3000) (fun t h=>?_) (by rw[Bel];lia) (by decide),rfl⟩
    obtain⟨u,hu,rfl⟩:=List.mem_map.mp h
    rw[Cr]
    exact (Yh (ht q hq u hu)).2
  ·rw[show r.map (fun r=>D.str (Adx r))=(r.map Adx).map D.str by rw[Be8];rfl]
   simp_arith![Og]
   refine⟨Xf (b:=12012) (fun t h=>?_) (by rw[Bel];lia) (by decide),?_⟩
   ·obtain⟨u,hu,rfl⟩:=List.mem_map.mp h
    exact Yb (ht u hu) (h4 u hu)
   ·refine W.imp (Adr g) fun d ⟨R,e,hR⟩=>?_
    subst e
    exact⟨by lia,dn++[r],Rs++[R],_,by rw[Be6];rfl,rfl,by rw[<- he];simp,Eu ha hR⟩
 ·rintro e m ⟨dn,Rs,u,rfl,rfl,he,ha⟩
  refine⟨trivial,?_⟩
  rw[Bev] at he
  subst he
  cases ha with
  |@cons _ R1 _ _ s1 ha =>
  cases ha with
  |@cons _ R2 _ _ s2 ha =>
  cases ha
  have p1:=s1.spn
  have p2:=s2.spn
  have l1:=s1.len
  have l2:=s2.len
  simp_arith![B1,C1]
  refine W.imp (Ajj R1 R2 p1.rise p2.rise p1.key p2.key (by lia)) fun d ⟨R3,e,a1,a2,a3,a4⟩=>?_
  subst e
  refine W.imp (R9 R1 R2 p1.rise p2.rise p1.key p2.key (by lia)) fun d ⟨R4,e,b1,b2,b3,b4⟩=>?_
  subst e
  refine W.imp (Abl R1 R2 p1.rise p2.rise p1.key p2.key (by lia)) fun d ⟨R5,e,c1,c2,c3,c4⟩=>?_
  subst e
  have s3:=Vw (keep:=fun a b=>a&&b) s1 s2 a1 a2 a3 a4
  have s4:=Vw (keep:=fun a b=>a||b) s1 s2 b1 b2 b3 b4
  have s5:=Vw (keep:=fun a b=>a&&!b) s1 s2 c1 c2 c3 c4
  have t1:SpS (Gm r1) 60 R1:=⟨s1.rise,s1.sm,by lia,s1.par⟩
  have t2:SpS (Gm r2) 60 R2:=⟨s2.rise,s2.sm,by lia,s2.par⟩
  refine Ba9 (Rs:=[R1,R2,R3,R4,R5]) (fun R hR=>?_) (Bej 5) (Bba hl hx (by lia) (by lia) g1 g2 t1 t2 s3 s4 s5)
  simp at hR
  rcases hR with rfl|rfl|rfl|rfl|rfl
  ·exact⟨t1.rise,t1.sm,t1.len⟩
  ·exact⟨t2.rise,t2.sm,t2.len⟩
  ·exact⟨s3.rise,s3.sm,s3.len⟩
  ·exact⟨s4.rise,s4.sm,s4.len⟩
  ·exact⟨s5.rise,s5.sm,s5.len⟩
end K14a
end S_Q1
section S_K14h
namespace K14a
open PySem L2 L2.ML
noncomputable section
noncomputable def Aqr (o:Obj):Option Addr:=match o.data with
 |.fields vs=>(match (vs[11]?:Option Value) with|some (.ref P)=>some P|_=>none)
 |_=>none
theorem all_mk {ts:List Addr}{l:W.OpenLaw}{w:World}{K:W.Frag}{h:Heap}{mg:Str->Option Value}{fa:Addr} (X:K.In h) (G:h.Ns mainGlobals mg) (hfa:mg "law"=some (.ref fa))
  (f0:FM K "is_name" Ako)
  (f1:FM K "number_of" Akc)
  (f2:FM K "mark_rank" Akd)
  (f3:FM K "rank" Ak4)
  (f4:FM K "is_older" Akk)
  (f5:FM K "next_make" Ake)
  (f6:FM K "read_numbers" Awz)
  (f7:FM K "read_mark" Akf)
  (f8:FM K "read_marks" Aj6)
  (f9:FM K "read_notes" Aj7)
  (f10:FM K "read_make" Akg)
  (f11:FM K "read_bare_make" Aww)
  (f12:FM K "edges_of" Akl)
  (f13:FM K "is_span" Akp)
  (f14:FM K "lies_in" Akq)
  (f15:FM K "piece_span" Aj8)
  (f16:FM K "span_of" Akr)
  (f17:FM K "turns_of" Akm)
  (f18:FM K "combined" Akn)
  {a_met:Addr}{oc_met kV_met dc_met pm_met cd_met ct_met:Value}{od_met an_met:Option Addr}{sl_met:Array (Option Value)} (n_met:W.nsIn K mainGlobals "met"=some (some (.ref a_met))) (l_met:K.lookup a_met=some ⟨oc_met,od_met,.func (W.fnOf "met" "met" (Df Mp) (By Mp) (As Mp) .none kV_met dc_met pm_met an_met cd_met ct_met),sl_met⟩) (c_met:W.codeIn K cd_met "met"=true) (k_met:W.keepIn K (.ref a_met)=true)
  {a_z32:Addr}{oc_z32 kV_z32 dc_z32 pm_z32 cd_z32 ct_z32:Value}{od_z32 an_z32:Option Addr}{sl_z32:Array (Option Value)} (n_z32:W.nsIn K mainGlobals "joined"=some (some (.ref a_z32))) (l_z32:K.lookup a_z32=some ⟨oc_z32,od_z32,.func (W.fnOf "joined" "joined" (Df Mq) (By Mq) (As Mq) .none kV_z32 dc_z32 pm_z32 an_z32 cd_z32 ct_z32),sl_z32⟩) (c_z32:W.codeIn K cd_z32 "joined"=true) (k_z32:W.keepIn K (.ref a_z32)=true)
  {a_z46:Addr}{oc_z46 kV_z46 dc_z46 pm_z46 cd_z46 ct_z46:Value}{od_z46 an_z46:Option Addr}{sl_z46:Array (Option Value)} (n_z46:W.nsIn K mainGlobals "less"=some (some (.ref a_z46))) (l_z46:K.lookup a_z46=some ⟨oc_z46,od_z46,.func (W.fnOf "less" "less" (Df N6) (By N6) (As N6) .none kV_z46 dc_z46 pm_z46 an_z46 cd_z46 ct_z46),sl_z46⟩) (c_z46:W.codeIn K cd_z46 "less"=true) (k_z46:W.keepIn K (.ref a_z46)=true)
  (f22:FM K "middle_end" Aj9)
  (f23:FM K "great_end" Akh)
  (f24:FM K "signed_span" Aw2)
  (f25:FM K "read_signed" Aw3)
  (f26:FM K "read_numbered" Awy)
  (f27:FM K "bracket_edge" Aw0)
  (f28:FM K "read_bracketed" Awx)
  (f29:FM K "read_term" Aki)
  (f30:FM K "folded" Aks)
  (f31:FM K "read_span" Akj)
  (f32:FM K "_law_draw" Akx)
  (f33:FM K "_law_mark" Aky)
  (f34:FM K "_law_make" Akz)
  (f35:FM K "_law_near" Ak0)
  (f36:FM K "_law_mark_older" Aw4)
  (f37:FM K "_law_older" Akt)
  (f38:FM K "_law_makes" Aku)
  (f39:FM K "_law_make_text" Aka)
  (f40:FM K "_law_term" Ak1)
  (f41:FM K "_law_term_text" Akb)
  (f42:FM K "_law_great" Akv)
  (f43:FM K "_law_sign_holds" Aw5)
  (f44:FM K "_law_holds" Akw)
  (f45:FM K "_law_rows" Ak2)
  (f46:FM K "_law_said" Ak3)
  (f47:FM K "_law_by_brackets" Aw1)
  {a_law:Addr}{oc_law kV_law dc_law pm_law cd_law ct_law:Value}{od_law an_law:Option Addr}{sl_law:Array (Option Value)} (n_law:W.nsIn K mainGlobals "law"=some (some (.ref a_law))) (l_law:K.lookup a_law=some ⟨oc_law,od_law,.func (W.fnOf "law" "law" (Df Ud) (By Ud) (As Ud) .none kV_law dc_law pm_law an_law cd_law ct_law),sl_law⟩) (c_law:W.codeIn K cd_law "law"=true) (k_law:W.keepIn K (.ref a_law)=true)
  {t_LETTERS:Tok} (n_LETTERS:W.nsIn K mainGlobals "LETTERS"=some (some (.str (Str.ofString "abcdefghijklmnopqrstuvwxyz") t_LETTERS)))
  {t_FIGURES:Tok} (n_FIGURES:W.nsIn K mainGlobals "FIGURES"=some (some (.str (Str.ofString "0123456789") t_FIGURES)))
  {t_MOST_LETTERS:Tok} (n_MOST_LETTERS:W.nsIn K mainGlobals "MOST_LETTERS"=some (some (.int 8 t_MOST_LETTERS)))
  {t_MOST_FIGURES:Tok} (n_MOST_FIGURES:W.nsIn K mainGlobals "MOST_FIGURES"=some (some (.int 15 t_MOST_FIGURES)))
  {t_MOST_MARKS:Tok} (n_MOST_MARKS:W.nsIn K mainGlobals "MOST_MARKS"=some (some (.int 12 t_MOST_MARKS)))
  {t_MOST_NOTES:Tok} (n_MOST_NOTES:W.nsIn K mainGlobals "MOST_NOTES"=some (some (.int 4 t_MOST_NOTES)))
  {u_OLDEST:Addr} (n_OLDEST:W.nsIn K mainGlobals "OLDEST"=some (some (.ref u_OLDEST))) {t_OLDEST_0 t_OLDEST_1 t_OLDEST_2:Tok}{u_OLDEST_3:Addr}{od_OLDEST:Option Addr}{nn_OLDEST:Nat}{sl_OLDEST:Array (Option Value)} (q_OLDEST:K.lookup u_OLDEST=some ⟨.type "tuple",od_OLDEST,.seq #[.int 0 t_OLDEST_0,.int 0 t_OLDEST_1,.int 0 t_OLDEST_2,.ref u_OLDEST_3] nn_OLDEST,sl_OLDEST⟩)
  {t_OLDEST_3_0:Tok}{od_OLDEST_3:Option Addr}{nn_OLDEST_3:Nat}{sl_OLDEST_3:Array (Option Value)} (q_OLDEST_3:K.lookup u_OLDEST_3=some ⟨.type "tuple",od_OLDEST_3,.seq #[.int 0 t_OLDEST_3_0] nn_OLDEST_3,sl_OLDEST_3⟩)
  {u_ALL:Addr} (n_ALL:W.nsIn K mainGlobals "ALL"=some (some (.ref u_ALL))) {u_ALL_0:Addr}{od_ALL:Option Addr}{nn_ALL:Nat}{sl_ALL:Array (Option Value)} (q_ALL:K.lookup u_ALL=some ⟨.type "tuple",od_ALL,.seq #[.ref u_ALL_0] nn_ALL,sl_ALL⟩)
  {u_ALL_0_0:Addr}{od_ALL_0:Option Addr}{nn_ALL_0:Nat}{sl_ALL_0:Array (Option Value)} (q_ALL_0:K.lookup u_ALL_0=some ⟨.type "tuple",od_ALL_0,.seq #[.ref u_ALL_0_0,.none] nn_ALL_0,sl_ALL_0⟩)
  {t_ALL_0_0_0 t_ALL_0_0_1 t_ALL_0_0_2:Tok}{u_ALL_0_0_3:Addr}{od_ALL_0_0:Option Addr}{nn_ALL_0_0:Nat}{sl_ALL_0_0:Array (Option Value)} (q_ALL_0_0:K.lookup u_ALL_0_0=some ⟨.type "tuple",od_ALL_0_0,.seq #[.int 0 t_ALL_0_0_0,.int 0 t_ALL_0_0_1,.int 0 t_ALL_0_0_2,.ref u_ALL_0_0_3] nn_ALL_0_0,sl_ALL_0_0⟩)
  {t_ALL_0_0_3_0:Tok}{od_ALL_0_0_3:Option Addr}{nn_ALL_0_0_3:Nat}{sl_ALL_0_0_3:Array (Option Value)} (q_ALL_0_0_3:K.lookup u_ALL_0_0_3=some ⟨.type "tuple",od_ALL_0_0_3,.seq #[.int 0 t_ALL_0_0_3_0] nn_ALL_0_0_3,sl_ALL_0_0_3⟩)
  {u_SIGNS:Addr} (n_SIGNS:W.nsIn K mainGlobals "SIGNS"=some (some (.ref u_SIGNS))) {t_SIGNS_0 t_SIGNS_1 t_SIGNS_2 t_SIGNS_3 t_SIGNS_4 t_SIGNS_5 t_SIGNS_6 t_SIGNS_7:Tok}{od_SIGNS:Option Addr}{nn_SIGNS:Nat}{sl_SIGNS:Array (Option Value)} (q_SIGNS:K.lookup u_SIGNS=some ⟨.type "tuple",od_SIGNS,.seq #[.str (Str.ofString "!=") t_SIGNS_0,.str (Str.ofString "<=") t_SIGNS_1,.str (Str.ofString ">=") t_SIGNS_2,.str (Str.ofString "=") t_SIGNS_3,.str (Str.ofString "<") t_SIGNS_4,.str (Str.ofString ">") t_SIGNS_5,.str (Str.ofString "^") t_SIGNS_6,.str (Str.ofString "~") t_SIGNS_7] nn_SIGNS,sl_SIGNS⟩)
  (z_all:W.nsIn K mainGlobals "all"=some none)
  (z_any:W.nsIn K mainGlobals "any"=some none)
  (z_enumerate:W.nsIn K mainGlobals "enumerate"=some none)
  (z_int:W.nsIn K mainGlobals "int"=some none)
  (z_isinstance:W.nsIn K mainGlobals "isinstance"=some none)
  (z_len:W.nsIn K mainGlobals "len"=some none)
  (z_max:W.nsIn K mainGlobals "max"=some none)
  (z_min:W.nsIn K mainGlobals "min"=some none)
  (z_range:W.nsIn K mainGlobals "range"=some none)
  (z_sorted:W.nsIn K mainGlobals "sorted"=some none)
  (z_str:W.nsIn K mainGlobals "str"=some none)
  (z_tuple:W.nsIn K mainGlobals "tuple"=some none)
  {cc_met pp_met:Addr}{ob_met:Obj} (e_met:cd_met=.ref cc_met) (Y3:K.lookup cc_met=some ob_met) (p_met:Aqr ob_met=some pp_met) (h_met:W.codeHdIn K cc_met pp_met=true) (m_met:pp_met∈ts)
  {cc_z32 pp_z32:Addr}{ob_z32:Obj} (e_z32:cd_z32=.ref cc_z32) (Y5:K.lookup cc_z32=some ob_z32) (p_z32:Aqr ob_z32=some pp_z32) (h_z32:W.codeHdIn K cc_z32 pp_z32=true) (m_z32:pp_z32∈ts)
  {cc_z46 pp_z46:Addr}{ob_z46:Obj} (e_z46:cd_z46=.ref cc_z46) (Y6:K.lookup cc_z46=some ob_z46) (p_z46:Aqr ob_z46=some pp_z46) (h_z46:W.codeHdIn K cc_z46 pp_z46=true) (m_z46:pp_z46∈ts) (hnd:[pp_met,pp_z32,pp_z46].Nodup) :
  ∃ (fd:FuncData) (tabs:List (Addr×Str)),(∀ (s:Shared) (v:Value),BindsTo s fd ⟨[v],[]⟩ [("_law_script",v)])/\(∀ q∈tabs,q.1∈ts/\isCodeTable h q.1)/\(tabs.map (·.1)).Nodup/\∀ base:Heap,K.In base->base.Ns mainGlobals mg->Mz mg base->FnOk l.prog w K mg base CX0 11 fa fd ["_law_script"] (spT tabs K 1 Ng):=by
 have e:=hfa.symm.trans (W.mg_of X G n_law)
 cases e
 have T:Txt K mg _ _ _:=⟨Ajb X G n_LETTERS,Ajb X G n_FIGURES,Xb X G n_MOST_LETTERS,Xb X G n_MOST_FIGURES,Xb X G n_MOST_MARKS,Xb X G n_MOST_NOTES,Ry X G n_OLDEST fun H=>(Vq (vs:=[.int 0,.int 0,.int 0,.ref _]) q_OLDEST (by simp) (.cons ⟨_,rfl⟩ (.cons ⟨_,rfl⟩ (.cons ⟨_,rfl⟩ (.cons rfl .nil)))) (.cons (.int _) (.cons (.int _) (.cons (.int _) (.cons (Vq (vs:=[.int 0]) q_OLDEST_3 (by simp) (.cons ⟨_,rfl⟩ .nil) (.cons (.int _) .nil)) .nil))))),Ry X G n_ALL fun H=>(Vq (vs:=[.ref _]) q_ALL (by simp) (.cons rfl .nil) (.cons (Vq (vs:=[.ref _,.non]) q_ALL_0 (by simp) (.cons rfl (.cons rfl .nil)) (.cons (Vq (vs:=[.int 0,.int 0,.int 0,.ref _]) q_ALL_0_0 (by simp) (.cons ⟨_,rfl⟩ (.cons ⟨_,rfl⟩ (.cons ⟨_,rfl⟩ (.cons rfl .nil)))) (.cons (.int _) (.cons (.int _) (.cons (.int _) (.cons (Vq (vs:=[.int 0]) q_ALL_0_0_3 (by simp) (.cons ⟨_,rfl⟩ .nil) (.cons (.int _) .nil)) .nil))))) (.cons .non .nil))) .nil)),Ry X G n_SIGNS fun H=>(Vq (vs:=[.str (Str.ofString "!="),.str (Str.ofString "<="),.str (Str.ofString ">="),.str (Str.ofString "="),.str (Str.ofString "<"),.str (Str.ofString ">"),.str (Str.ofString "^"),.str (Str.ofString "~")]) q_SIGNS (by simp) (.cons ⟨_,rfl⟩ (.cons ⟨_,rfl⟩ (.cons ⟨_,rfl⟩ (.cons ⟨_,rfl⟩ (.cons ⟨_,rfl⟩ (.cons ⟨_,rfl⟩ (.cons ⟨_,rfl⟩ (.cons ⟨_,rfl⟩ .nil)))))))) (.cons (.str _ (A6 _)) (.cons (.str _ (A6 _)) (.cons (.str _ (A6 _)) (.cons (.str _ (A6 _)) (.cons (.str _ (A6 _)) (.cons (.str _ (A6 _)) (.cons (.str _ (A6 _)) (.cons (.str _ (A6 _)) .nil))))))))),f0.fd1 X G,f1.fd1 X G,f2.fd1 X G,f3.fd1 X G,f4.fd2 X G,f5.fd1 X G,f6.fd1 X G,f7.fd1 X G,f8.fd1 X G,f9.fd1 X G,f10.fd1 X G,f11.fd1 X G,f12.fd1 X G,f13.fd1 X G,f14.fd2 X G,f15.fd2 X G,f16.fd1 X G,f17.fd2 X G,f18.fd3 X G,⟨_,_,_,W.mg_of X G n_met,Jp l_met c_met k_met,(Jp (st:=Mp) l_met c_met k_met).binds2,e_met,h_met⟩,⟨_,_,_,W.mg_of X G n_z32,Jp l_z32 c_z32 k_z32,(Jp (st:=Mq) l_z32 c_z32 k_z32).binds2,e_z32,h_z32⟩,⟨_,_,_,W.mg_of X G n_z46,Jp l_z46 c_z46 k_z46,(Jp (st:=N6) l_z46 c_z46 k_z46).binds2,e_z46,h_z46⟩,f22.fd1 X G,f23.fd1 X G,f24.fd2 X G,f25.fd1 X G,f26.fd1 X G,f27.fd3 X G,f28.fd1 X G,f29.fd1 X G,f30.fd2 X G,f31.fd1 X G,f32.fd3 X G,f33.fd2 X G,f34.fd2 X G,f35.fd3 X G,f36.fd2 X G,f37.fd2 X G,f38.fd3 X G,f39.fd1 X G,f40.fd3 X G,f41.fd1 X G,f42.fd1 X G,f43.fd3 X G,f44.fd2 X G,f45.fd3 X G,f46.fd2 X G,f47.fd1 X G,Ry X G n_met (Adt (by decide) n_met),Ry X G n_z32 (Adt (by decide) n_z32)⟩
 have B:Blt mg:=⟨W.mg_none_of X G z_all,W.mg_none_of X G z_any,W.mg_none_of X G z_enumerate,W.mg_none_of X G z_int,W.mg_none_of X G z_isinstance,W.mg_none_of X G z_len,W.mg_none_of X G z_max,W.mg_none_of X G z_min,W.mg_none_of X G z_range,W.mg_none_of X G z_sorted,W.mg_none_of X G z_str,W.mg_none_of X G z_tuple⟩
 refine⟨_,tabs pp_met pp_z32 pp_z46,fun s v=>.of_eq rfl,fun q hq=>?_,hnd,fun base _ _ hB=>Aug T B hB (Jp l_law c_law k_law)⟩
 simp only[Bex,Bes,or_false] at hq
 rcases hq with rfl|rfl|rfl
 ·exact⟨m_met,Pp X h_met⟩
 ·exact⟨m_z32,Pp X h_z32⟩
 ·exact⟨m_z46,Pp X h_z46⟩
theorem T3 {K:W.Frag}{H:Hp}{μ:List Addr}{B:Addr->Prop}:∀ ns:List Int,Reps K H μ B (ns.map D.int) (ns.map V.int)
 |[]=>.nil
 |n::ns=>.cons (.int n) (T3 ns)
theorem walk {l:W.OpenLaw}{q:Program}{loose:List Str}{XP:(Str->Option Value)->Heap->Prop}{YP:World->Heap->Prop}{d:DefRec}{K:Params->W.Frag}{ts:List Addr} (hn:l.most=some 63) (hdf:d.params.defaults=[])
  (hY:∀ (w:World) (h:Heap),YP w h->(K w.params).In h/\∀ P∈ts,h.get? P=some (W.tabObj #[])) (hNT:∀ w:World,W.noTabs (K w.params)=true)
  (F:∀ (w:World) (mg:Str->Option Value) (fa:Addr) (h:Heap),(K w.params).In h->h.Ns mainGlobals mg->mg d.name=some (.ref fa) ->
   ∃ (fd:FuncData) (tabs:List (Addr×Str)),(∀ (s:Shared) (u:Value),BindsTo s fd ⟨[u],[]⟩ [("_law_script",u)])/\(∀ q∈tabs,q.1∈ts/\isCodeTable h q.1)/\(tabs.map (·.1)).Nodup/\∀ base:Heap,(K w.params).In base->base.Ns mainGlobals mg->Mz mg base->FnOk l.prog w (K w.params) mg base CX0 11 fa fd ["_law_script"] (spT tabs (K w.params) 1 Ng)) :
  W.WalkO q loose XP YP l.row.toRowW d [] (fun f vs=>PySem.call f vs) :=
 Ait (n:=63) (k:=11) (x:="_law_script") hn (by decide) hdf ⟨rfl,by decide,by decide⟩ hY hNT F (fun ns hl=>law_true ns hl) fun w H ns=>T3 ns
end
end K14a
namespace PySem.W.Fast
def tw8108578521902283590:=()
def tw15869874568332351815:=()
def tw3798484970154239835:=()
def tw13886136805492198753:=()
def tw6594872700780824930:=()
def tw629648479777210396:=()
def tw5780354108254436048:=()
def tw11705923516962182704:=()
def tw5370391095678968915:=()
def tw17178145552552968471:=()
def tw8155834054427418389:=()
def tw6733947164184128675:=()
def tw16193492248316925702:=()
def tw4569068566469823229:=()
def tw12049318597460618375:=()
def tw9561116817135865330:=()
def tw18138731154164155121:=()
def tw12321597383781095726:=()
def tw11075997721717714985:=()
def tw9413589875060741487:=()
def tw17927890448542922335:=()
def tw1485038565567810889:=()
def tw10430852400992351702:=()
def tw1475314019697722073:=()
def tw10723363087933141271:=()
def tw14914476129404197899:=()
def tw11652547877428981932:=()
def tw13650889244141419627:=()
def tw11701588123061091204:=()
def tw6715920607421444667:=()
def tw12150701281570290445:=()
def tw2083464925733357276:=()
def tw17279759572376897245:=()
def tw5926637185077364498:=()
def tw2837335737865764713:=()
def tw7000700207402573745:=()
def tw13420754869008845198:=()
def tw17785045119918425548:=()
def tw15335908127562513506:=()
def tw18099441017163607884:=()
def tw16620422331535592099:=()
def tw3919927356290371470:=()
def tw5453269845874146951:=()
def tw2867365608775227981:=()
def tw15190999749603025446:=()
def tw18151948802713380395:=()
def tw9644736420531181374:=()
def tw8722495371915368154:=()
def tw8715803102966581830:=()
def tw17544059164006493247:=()
def tw16572441781456668291:=()
def tw612059554831518722:=()
def tw5025557556073991071:=()
def tw11365085896482277891:=()
def tw6829838150049755472:=()
def tw17950997167685271159:=()
def tw10260702025821126961:=()
def tw13879791338749564842:=()
def tw10717924077031149615:=()
def tw10831519539398914272:=()
def tw12423415274869346706:=()
def tw15928412133698669319:=()
def tw2879672226242261370:=()
def tw1980357260017690537:=()
def tw428767270144491948:=()
def tw12383189897163223196:=()
def tw16290431926962943523:=()
def tw14377218401937778931:=()
def tw3468765841225550830:=()
def tw5805963699443993995:=()
def tw12467363599401367503:=()
def tw6405030492784526235:=()
def tw11785495405742123396:=()
def tw15924896655764744635:=()
def tw3664184480568055809:=()
def tw13445008103177673927:=()
def tw7595490789929680172:=()
def tw2912781116728376377:=()
def tw14488080692821924306:=()
def tw12135725901382164704:=()
def tw12641087973113723187:=()
def tw18139912299774040627:=()
def tw18423954156251779200:=()
def tw4808170535249101892:=()
def tw13801234883680108538:=()
def tw18096445685900538975:=()
def tw4926417873834575131:=()
def tw4460981687879147776:=()
def tw18025773634077713655:=()
def tw17719792280548313456:=()
def tw7064886366831992494:=()
def tw6661044355468885232:=()
def tw17437731558105257787:=()
def tw6257242610722128689:=()
def tw16148108543397143458:=()
def tw7785646058026272059:=()
def tw8005140793810217861:=()
def tw13340645795380591558:=()
def tw10504061279059818044:=()
def tw17402172406850574012:=()
def tw376313136570746822:=()
def tw18338907732251915206:=()
def tw2236366023932938292:=()
def tw2824350169336708519:=()
def tw18316804347857931109:=()
def tw7598711811878709204:=()
def tw13769140977286316474:=()
def tw563721193051950297:=()
def tw5386020248521804012:=()
def tw2824174874566211932:=()
def tw16759754706519702638:=()
def tw10300238273629337397:=()
def tw12243763703240761011:=()
def tw4986444989750786793:=()
def tw3459053572232088486:=()
def tw1703678080886690540:=()
def tw15331530777184696690:=()
def tw7680559220577925356:=()
def tw16494574426638205106:=()
def tw13633084735761259620:=()
def tw12276006858274780524:=()
def tw1160554541252160187:=()
def tw17222316843533785178:=()
def tw8439979625924597594:=()
def tw15834949836584205019:=()
def tw3157825482079930769:=()
def tw16955606641400518291:=()
def tw15561475190779851383:=()
def tw169476297660207302:=()
def tw12305823499889939867:=()
def tw11361304249351155319:=()
def tw1330933490967450099:=()
def tw3538647241085476693:=()
def tw11617892190819211601:=()
def tw4918194670588595242:=()
def tw8393260059468358814:=()
def tw4650681565695504028:=()
def tw16548254681775839484:=()
def tw3290386926197841373:=()
def tw2826916218245447353:=()
def tw11768692063470183907:=()
def tw4045020666027088931:=()
def tw18342520876760228923:=()
def tw9099525646604761837:=()
def tw2787996487953404746:=()
def tw4755422299750127497:=()
def tw11162810281214103540:=()
def tw16313536672006033523:=()
def tw9772606276148829208:=()
def tw8501424282894457357:=()
def tw10251108679824902970:=()
def tw12503762328268975376:=()
def tw9075284517636145106:=()
def tw6520447845819482002:=()
def tw2468877404448679863:=()
def tw10116027804746919152:=()
def tw252692225405130415:=()
def tw8626606183124901638:=()
def tw3100615088729258697:=()
def tw5756956302419447141:=()
def tw9532497961715517001:=()
def tw1575400175376333515:=()
def tw5325903903617636147:=()
def tw1745641852226303571:=()
def tw5712425957310059519:=()
def tw4095608153770557219:=()
def tw8344686279458256864:=()
def tw12353330866341478936:=()
def tw1244405842294398141:=()
def tw7879763552026420944:=()
def tw6984982093383039711:=()
def tw3907368637065195954:=()
end PySem.W.Fast
open PySem PySem.W PyProof.Rows
set_option maxRecDepth 100000 in
set_option maxHeartbeats 0 in
theorem PySem.Challenge.cw_stretchbook_k14_whole_plain_reading_holds : PySem.Challenge.rw_stretchbook_k14_whole_plain_reading.Holds := by
 w_on;o_law;k_head;(case hw=>w_witness2)
 k_fill
 refine K14a.walk (l:=PySem.Challenge.rw_stretchbook_k14_whole_plain_reading) rfl rfl (fun w h Y=>⟨W.km_in_of Y,W.km_tabs_of Y⟩) (fun w=>by kernel_rfl) ?F
 case F =>
  intro w mg fa h KX G hmg
  refine' K14a.all_mk KX G hmg (L2.ML.fm_mk ?n0 ?l0 ?c0 ?k0) (L2.ML.fm_mk ?n1 ?l1 ?c1 ?k1) (L2.ML.fm_mk ?n2 ?l2 ?c2 ?k2) (L2.ML.fm_mk ?n3 ?l3 ?c3 ?k3) (L2.ML.fm_mk ?n4 ?l4 ?c4 ?k4) (L2.ML.fm_mk ?n5 ?l5 ?c5 ?k5) (L2.ML.fm_mk ?n6 ?l6 ?c6 ?k6) (L2.ML.fm_mk ?n7 ?l7 ?c7 ?k7) (L2.ML.fm_mk ?n8 ?l8 ?c8 ?k8) (L2.ML.fm_mk ?n9 ?l9 ?c9 ?k9) (L2.ML.fm_mk ?n10 ?l10 ?c10 ?k10) (L2.ML.fm_mk ?n11 ?l11 ?c11 ?k11) (L2.ML.fm_mk ?n12 ?l12 ?c12 ?k12) (L2.ML.fm_mk ?n13 ?l13 ?c13 ?k13) (L2.ML.fm_mk ?n14 ?l14 ?c14 ?k14) (L2.ML.fm_mk ?n15 ?l15 ?c15 ?k15) (L2.ML.fm_mk ?n16 ?l16 ?c16 ?k16) (L2.ML.fm_mk ?n17 ?l17 ?c17 ?k17) (L2.ML.fm_mk ?n18 ?l18 ?c18 ?k18) ?n19 ?l19 ?c19 ?k19 ?n20 ?l20 ?c20 ?k20 ?n21 ?l21 ?c21 ?k21 (L2.ML.fm_mk ?n22 ?l22 ?c22 ?k22) (L2.ML.fm_mk ?n23 ?l23 ?c23 ?k23) (L2.ML.fm_mk ?n24 ?l24 ?c24 ?k24) (L2.ML.fm_mk ?n25 ?l25 ?c25 ?k25) (L2.ML.fm_mk ?n26 ?l26 ?c26 ?k26) (L2.ML.fm_mk ?n27 ?l27 ?c27 ?k27) (L2.ML.fm_mk ?n28 ?l28 ?c28 ?k28) (L2.ML.fm_mk ?n29 ?l29 ?c29 ?k29) (L2.ML.fm_mk ?n30 ?l30 ?c30 ?k30) (L2.ML.fm_mk ?n31 ?l31 ?c31 ?k31) (L2.ML.fm_mk ?n32 ?l32 ?c32 ?k32) (L2.ML.fm_mk ?n33 ?l33 ?c33 ?k33) (L2.ML.fm_mk ?n34 ?l34 ?c34 ?k34) (L2.ML.fm_mk ?n35 ?l35 ?c35 ?k35) (L2.ML.fm_mk ?n36 ?l36 ?c36 ?k36) (L2.ML.fm_mk ?n37 ?l37 ?c37 ?k37) (L2.ML.fm_mk ?n38 ?l38 ?c38 ?k38) (L2.ML.fm_mk ?n39 ?l39 ?c39 ?k39) (L2.ML.fm_mk ?n40 ?l40 ?c40 ?k40) (L2.ML.fm_mk ?n41 ?l41 ?c41 ?k41) (L2.ML.fm_mk ?n42 ?l42 ?c42 ?k42) (L2.ML.fm_mk ?n43 ?l43 ?c43 ?k43) (L2.ML.fm_mk ?n44 ?l44 ?c44 ?k44) (L2.ML.fm_mk ?n45 ?l45 ?c45 ?k45) (L2.ML.fm_mk ?n46 ?l46 ?c46 ?k46) (L2.ML.fm_mk ?n47 ?l47 ?c47 ?k47) ?n48 ?l48 ?c48 ?k48 ?n_LETTERS ?n_FIGURES ?n_MOST_LETTERS ?n_MOST_FIGURES ?n_MOST_MARKS ?n_MOST_NOTES ?n_OLDEST ?q_OLDEST ?q_OLDEST_3 ?n_ALL ?q_ALL ?q_ALL_0 ?q_ALL_0_0 ?q_ALL_0_0_3 ?n_SIGNS ?q_SIGNS ?z_all ?z_any ?z_enumerate ?z_int ?z_isinstance ?z_len ?z_max ?z_min ?z_range ?z_sorted ?z_str ?z_tuple ?e_met ?Y3 ?p_met ?h_met ?m_met ?e_z32 ?Y5 ?p_z32 ?h_z32 ?m_z32 ?e_z46 ?Y6 ?p_z46 ?h_z46 ?m_z46 ?hnd
  case n0|l0|c0|k0|n1|l1|c1|k1|n2|l2|c2|k2|n3|l3|c3|k3|n4|l4|c4|k4|n5|l5|c5|k5|n6|l6|c6|k6|n7|l7|c7|k7|n8|l8|c8|k8|n9|l9|c9|k9|n10|l10|c10|k10|n11|l11|c11|k11|n12|l12|c12|k12|n13|l13|c13|k13|n14|l14|c14|k14|n15|l15|c15|k15|n16|l16|c16|k16|n17|l17|c17|k17|n18|l18|c18|k18|n19|l19|c19|k19|n20|l20|c20|k20|n21|l21|c21|k21|n22|l22|c22|k22|n23|l23|c23|k23|n24|l24|c24|k24|n25|l25|c25|k25|n26|l26|c26|k26|n27|l27|c27|k27|n28|l28|c28|k28|n29|l29|c29|k29|n30|l30|c30|k30|n31|l31|c31|k31|n32|l32|c32|k32|n33|l33|c33|k33|n34|l34|c34|k34|n35|l35|c35|k35|n36|l36|c36|k36|n37|l37|c37|k37|n38|l38|c38|k38|n39|l39|c39|k39|n40|l40|c40|k40|n41|l41|c41|k41|n42|l42|c42|k42|n43|l43|c43|k43|n44|l44|c44|k44|n45|l45|c45|k45|n46|l46|c46|k46|n47|l47|c47|k47|n48|l48|c48|k48|n_LETTERS|n_FIGURES|n_MOST_LETTERS|n_MOST_FIGURES|n_MOST_MARKS|n_MOST_NOTES|n_OLDEST|q_OLDEST|q_OLDEST_3|n_ALL|q_ALL|q_ALL_0|q_ALL_0_0|q_ALL_0_0_3|n_SIGNS|q_SIGNS|z_all|z_any|z_enumerate|z_int|z_isinstance|z_len|z_max|z_min|z_range|z_sorted|z_str|z_tuple=>k_is
  (case e_met=>exact rfl)
  (case Y3=>k_is)
  (case p_met=>exact rfl)
  (case h_met=>first|k_is|kernel_rfl)
  (case m_met=>decide)
  (case e_z32=>exact rfl)
  (case Y5=>k_is)
  (case p_z32=>exact rfl)
  (case h_z32=>first|k_is|kernel_rfl)
  (case m_z32=>decide)
  (case e_z46=>exact rfl)
  (case Y6=>k_is)
  (case p_z46=>exact rfl)
  (case h_z46=>first|k_is|kernel_rfl)
  (case m_z46=>decide)
  (case hnd=>decide)
end S_K14h
