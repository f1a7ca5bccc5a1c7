import PyProof.Rows.All
import Wide.All
import OpenK.AllK
import Wide.FinOn
import Lean
import PyProof.EqAt
import PyProof.EqKinds
import PyProof.TupleCall
import PySem.Challenge.RW_sheetlay_k33_whole_pieces
set_option Elab.async false
set_option linter.all false
set_option maxRecDepth 100000
namespace PySem
open Sem (wp)
section
variable{prog:Program}{w:World}{K:Type}[DecidableEq K](knd:KeyKind prog w K)
inductive jK(h:Heap):List (List K)→List Value→Prop
 |nil:jK h [] []
 |cons {ks:List K}{a:Addr}{bI:List (List K)}{vs:List Value}:IsTupleKey knd h ks a→jK h bI vs→jK h (ks::bI) (.ref a::vs)
def eJ(h:Heap)(bI:List (List K))(a:Addr):Prop:=∃ob its m,h.get? a=some ob∧ob.cls= .type "tuple"∧ob.data= .seq its m∧jK knd h bI its.toList
variable{knd}
theorem jK.inj{h:Heap}{x y:List (List K)}{vs:List Value}(p:jK knd h x vs):jK knd h y vs→x=y:=by
 induction p generalizing y with
 |nil=>intro q;cases q;rfl
 |cons h1 _ ih=>
  intro q
  cases q with
  |cons h2 t2=>rw[h1.inj h2,ih t2]
theorem eJ.typeIs{s:Shared}{bI:List (List K)}{a:Addr}(x:eJ knd s.heap bI a):s.TypeIs (.ref a) "tuple":=by
 obtain⟨ob,_,_,ho,hc,_⟩:=x
 exact⟨ob,ho,hc⟩
theorem eJ.inj{h:Heap}{a:Addr}{x y:List (List K)}(p:eJ knd h x a)(q:eJ knd h y a):x=y:=by
 obtain⟨o1,i1,n1,a1,_,b1,c1⟩:=p
 obtain⟨o2,i2,n2,a2,_,b2,c2⟩:=q
 rw[a1]at a2
 cases a2
 rw[b1]at b2
 injection b2 with b2 _
 subst b2
 exact c1.inj c2
theorem jK.keeps{h h':Heap}{bI:List (List K)}{vs:List Value}{d:Addr}{ob:Obj}{es ep}(x:jK knd h bI vs)(ho:h.get? d=some ob)(hd:ob.data= .dict es ep)(hs:Heap.SameBut d h h'):jK knd h' bI vs:=by
 induction x with
 |nil=>exact .nil
 |cons h1 _ ih=>exact .cons (h1.keeps ho hd hs) ih
theorem eJ.keeps{h h':Heap}{bI:List (List K)}{a d:Addr}{ob:Obj}{es ep}(x:eJ knd h bI a)(ho:h.get? d=some ob)(hd:ob.data= .dict es ep)(hs:Heap.SameBut d h h'):eJ knd h' bI a:=by
 obtain⟨o1,i1,n1,a1,c1,b1,r1⟩:=x
 have ne:a≠d:=by
  intro e
  rw[e,ho]at a1
  cases a1
  rw[hd]at b1
  cases b1
 exact⟨o1,i1,n1,(hs.2 a ne).trans a1,c1,b1,r1.keeps ho hd hs⟩
def Cs(knd:KeyKind prog w K)(bI:List (List K)):Int:=reduceHash (Builtin.Tuple.tupleHashOf (bI.map (tupleKeyHash knd)))
def lY:List (List K)→Nat
 |[]=>0
 |ks::r=>(ks.length+1)+lY r
theorem yc:∀(x y:List (List K)),lY (x++y)=lY x+lY y
 |[],y=>by simp[lY]
 |a::x,y=>by simp only[List.cons_append,lY,yc x y];omega
variable{A:Around}{E:Value→Shared→Prop}{s:Shared}
theorem GH{bI:List (List K)}{a:Addr}{Q:Int→Shared→Prop}(hu:A.units+4<cLine)(hk:eJ knd s.heap bI a)(q:Q (Cs knd bI) { s with toks:=s.toks+(lY bI+1) }):
  wpAny (model prog w) A (pyHash (.ref a)) Q E s:=by
 have ty:=hk.typeIs
 obtain⟨ob,its,m,ho,_,hd,hi⟩:=hk
 unfold pyHash
 first|unfold pyHashByItsType|skip
 first|refine wpAny_bind (wpAny_cRoomFor_or (.inr (by omega)) ?_)|skip
 refine wpAny_bind (wpAny_specialOf ty F.slot_tuple_hash.lookup ?_)
 show wpAny _ _ (if (some (Value.builtin "tuple.__hash__")==some Value.none)=true then _ else _) Q E s
 rw[if_neg (by rw[beq_builtin_none];exact Bool.false_ne_true)]
 refine wpAny_bind (wpAny_specialOf ty F.slot_tuple_hash.lookup ?_)
 show wpAny _ _ (callSpecialIfBoundUnlessNone? (.ref a) "__hash__" _ >>= _) Q E s
 refine wpAny_bind (wpAny_callSpecialIfBoundUnlessNone?_slot ty F.slot_tuple_hash (wpAny_call_entry F.slot_tuple_hash ty F.entry_tuple_hash ?_ (F.args_tuple_hash_1 _)))
 show wpAny _ _ (Builtin.Tuple.tupleItemsOf (.ref a) >>= _) _ _ s
 refine wpAny_bind (wpAny_tupleItemsOf ho hd (wpAny_bind ?_))
 rw[←Array.forIn_toList]
 refine wpAny_forIn_list _ (fun rest (b:Array Int) s'=>∃done left,bI=done++left∧jK knd s.heap left rest∧b.toList=done.map (tupleKeyHash knd)∧s'= { s with toks:=s.toks+lY done }) _ ?_ ?_ _ _ ⟨[],bI,rfl,hi,rfl,rfl⟩
 ·rintro x rest b s' ⟨done,left,rfl,hl,hb,rfl⟩
  cases hl with
  |@cons ks c AE _ h1 Ct=>
   refine wpAny_bind (wpAny_pyHash_tuple (s:={ s with toks:=s.toks+lY done }) (by show A.units+1<cLine;omega) h1 ?_)
   have fin:∃dn lf,done++ks::AE=dn++lf∧jK knd s.heap lf rest∧(b.push (tupleKeyHash knd ks)).toList=dn.map (tupleKeyHash knd)∧({ s with toks:=s.toks+lY done+(ks.length+1) }:Shared)= { s with toks:=s.toks+lY dn }:=
    ⟨done++[ks],AE,by simp,Ct,by simp[hb],by rw[yc];simp[lY,Nat.add_assoc]⟩
   first
    |exact wpAny_pure fin
    |exact wpAny_bind (wpAny_pure (wpAny_pure fin))
 ·rintro b s' ⟨done,left,rfl,hl,hb,rfl⟩
  cases hl
  rw[List.append_nil]at q
  show wpAny _ _ (retInt (Builtin.Tuple.tupleHashOf b.toList)) _ _ _
  rw[hb]
  refine wpAny_ret_mkInt ?_
  show wpAny _ _ (if (decide (-(2:Int) ^ 63≤Builtin.Tuple.tupleHashOf (done.map (tupleKeyHash knd)))&&decide (Builtin.Tuple.tupleHashOf (done.map (tupleKeyHash knd))<2 ^ 63))=true then _ else _) Q E _
  unfold Cs reduceHash at q
  by_cases hr:(decide (-(2:Int) ^ 63≤Builtin.Tuple.tupleHashOf (done.map (tupleKeyHash knd)))&&decide (Builtin.Tuple.tupleHashOf (done.map (tupleKeyHash knd))<2 ^ 63))=true
  ·rw[if_pos hr]at q ⊢
   exact wpAny_pure (by simpa[Nat.add_assoc]using q)
  ·rw[if_neg hr]at q ⊢
   exact wpAny_bind (wpAny_rule (wpAny_pure (by simpa[Nat.add_assoc]using q)))
theorem GI{x y:List (List K)}{a b:Addr}{P:Fin→Shared→Prop}(hu:A.units+2<cLine)(hx:eJ knd s.heap x a)(hy:eJ knd s.heap y b)(q:P (.done (.ret (.bool (decide (x=y))))) s):
  wpAny (model prog w) A (Builtin.«tuple.__eq__» ⟨[.ref a,.ref b],[]⟩) P E s:=by
 have ty:=hy.typeIs
 obtain⟨o1,xs,n1,US,_,UT,Oe⟩:=hx
 obtain⟨o2,ys,n2,Ff,_,hd2,Rx⟩:=hy
 show wpAny _ _ (isInstance (.ref b) (.type "tuple") >>= _) _ _ s
 refine wpAny_bind (wpAny_isInstance ty isSubtype_tuple_tuple ?_)
 simp only[Bool.not_true,Bool.false_eq_true,if_false]
 refine wpAny_bind (wpAny_tupleItemsOf US UT (wpAny_bind (wpAny_tupleItemsOf Ff hd2 (wpAny_bind ?_))))
 refine wpAny_forIn_list _ (fun rest r s'=>r.1=none∧s'=s∧∃x' y' qf qg,rest=List.zip qf qg∧jK knd s.heap x' qf∧jK knd s.heap y' qg∧decide (x'=y')=decide (x=y)∧(qf.length==qg.length)=(xs.size==ys.size)) _ ?_ ?_ _ _ ⟨rfl,rfl,x,y,xs.toList,ys.toList,rfl,Oe,Rx,rfl,by simp⟩
 ·rintro⟨u,v⟩ rest r s' ⟨hr,rfl,x',y',qf,qg,hz,ig,kM,qH,hlen⟩
  cases ig with
  |nil=>simp at hz
  |@cons k1 c1 x2 UU h1 UW=>
   cases kM with
   |nil=>simp at hz
   |@cons k2 c2 y2 UX h2 UY=>
    simp only[List.zip_cons_cons,List.cons.injEq,Prod.mk.injEq]at hz
    obtain⟨⟨rfl,rfl⟩,rfl⟩:=hz
    refine wpAny_bind (wpAny_eqBool_tuple (x:=k1) (y:=k2) (by omega) h1 h2 ?_)
    by_cases hk:k1=k2
    ·subst hk
     rw[decide_eq_true rfl]
     simp only[Bool.not_true,Bool.false_eq_true,if_false]
     refine wpAny_pure ⟨rfl,rfl,x2,y2,UU,UX,rfl,UW,UY,?_,by simpa using hlen⟩
     rw[←qH]
     by_cases Cu:x2=y2
     ·simp[Cu]
     ·simp[Cu]
    ·rw[decide_eq_false hk]
     simp only[Bool.not_false,if_true]
     have hf:decide (x=y)=false:=by rw[←qH];simp[hk]
     rw[hf]at q
     exact wpAny_bind (wpAny_pure (wpAny_pure (wpAny_pure q)))
 ·rintro⟨r1,r2⟩ s' ⟨hr,rfl,x',y',qf,qg,hz,ig,kM,qH,hlen⟩
  simp only at hr
  subst hr
  refine wpAny_pure ?_
  have fin:(xs.size==ys.size)=decide (x=y):=by
   rw[←qH,←hlen]
   cases ig with
   |nil=>
    cases kM with
    |nil=>simp
    |cons _ _=>simp
   |cons _ _=>
    cases kM with
    |nil=>simp
    |cons _ _=>simp at hz
  show P (.done (.ret (.bool (xs.size==ys.size)))) s'
  rw[fin]
  exact q
theorem GJ{x y:List (List K)}{a b:Addr}{Q:Bool→Shared→Prop}(hu:A.units+4<cLine)(hx:eJ knd s.heap x a)(hy:eJ knd s.heap y b)(q:Q (decide (x=y)) s):
  wpAny (model prog w) A (eqBool (.ref a) (.ref b)) Q E s:=by
 unfold eqBool
 try with_reducible refine wpAny_holding ?_
 show wpAny _ _ (if (Value.ref a==Value.ref b)=true then _ else _) Q E s
 by_cases sI:(Value.ref a==Value.ref b)=true
 ·rw[if_pos sI]
  have e:a=b:=by have:=eq_of_beq sI;injection this
  subst e
  obtain rfl:=hx.inj hy
  exact wpAny_bind (wpAny_rule (wpAny_pure (by simpa using q)))
 ·rw[if_neg sI]
  exact wpAny_bind (wpAny_richCompare_same_room (op:=.Eq) hx.typeIs hy.typeIs F.slot_tuple_eq
   (wpAny_call_entry F.slot_tuple_eq hx.typeIs F.entry_tuple_eq (GI (by show A.units+1+2<cLine;omega) hx hy ⟨_,rfl,(fun e=>nomatch e),wpAny_truthy_bool q⟩) (F.args_tuple_eq_2 _ _)) (by omega))
theorem Kw{ks:List K}{n:Nat}{a:Addr}{Q:Bool→Shared→Prop}(hk:IsTupleKey knd s.heap ks a)(q:Q true s):wpAny (model prog w) A (eqIsQuiet (n+1) (.ref a)) Q E s:=by
 have ty:=hk.typeIs
 obtain⟨ob,its,m,ho,_,hd,hi⟩:=hk
 unfold eqIsQuiet
 refine wpAny_bind (wpAny_specialOf ty F.slot_tuple_eq.lookup ?_)
 show wpAny _ _ (isInstance (.ref a) (.type "tuple") >>= _) _ _ s
 refine wpAny_bind (wpAny_isInstance ty isSubtype_tuple_tuple ?_)
 simp only[Bool.not_true,Bool.false_eq_true,if_false]
 refine wpAny_bind (wpAny_seqItems ho hd (wpAny_bind ?_))
 show wpAny _ _ (forIn its _ _) _ _ s
 rw[←Array.forIn_toList]
 refine wpAny_forIn_list _ (fun rest r s'=>r.1=none∧s'=s∧∀v∈rest,carriedByValue v=true) _ ?_ ?_ _ _ ⟨rfl,rfl,hi.byValue⟩
 ·rintro v rest r s' ⟨hr,rfl,nB⟩
  rw[eqIsQuiet_byValue _ (nB v List.mem_cons_self)]
  refine wpAny_bind (wpAny_pure ?_)
  simp only[Bool.not_true,Bool.false_eq_true,if_false]
  exact wpAny_pure ⟨rfl,rfl,fun u UZ=>nB u (List.mem_cons_of_mem _ UZ)⟩
 ·rintro⟨r1,r2⟩ s' ⟨hr,rfl,_⟩
  simp only at hr
  subst hr
  exact wpAny_pure q
theorem Kx{bI:List (List K)}{a:Addr}{Q:Bool→Shared→Prop}(hk:eJ knd s.heap bI a)(q:Q true s):wpAny (model prog w) A (eqIsQuiet 8 (.ref a)) Q E s:=by
 have ty:=hk.typeIs
 obtain⟨ob,its,m,ho,_,hd,hi⟩:=hk
 unfold eqIsQuiet
 refine wpAny_bind (wpAny_specialOf ty F.slot_tuple_eq.lookup ?_)
 show wpAny _ _ (isInstance (.ref a) (.type "tuple") >>= _) _ _ s
 refine wpAny_bind (wpAny_isInstance ty isSubtype_tuple_tuple ?_)
 simp only[Bool.not_true,Bool.false_eq_true,if_false]
 refine wpAny_bind (wpAny_seqItems ho hd (wpAny_bind ?_))
 show wpAny _ _ (forIn its _ _) _ _ s
 rw[←Array.forIn_toList]
 refine wpAny_forIn_list _ (fun rest r s'=>r.1=none∧s'=s∧∃AE,jK knd s.heap AE rest) _ ?_ ?_ _ _ ⟨rfl,rfl,bI,hi⟩
 ·rintro v rest r s' ⟨hr,rfl,AE,hl⟩
  cases hl with
  |@cons ks c Ry _ h1 Ct=>
   refine wpAny_bind (Kw (n:=6) h1 ?_)
   simp only[Bool.not_true,Bool.false_eq_true,if_false]
   exact wpAny_pure ⟨rfl,rfl,Ry,Ct⟩
 ·rintro⟨r1,r2⟩ s' ⟨hr,rfl,_⟩
  simp only at hr
  subst hr
  exact wpAny_pure q
end
def mK{prog:Program}{w:World}{K:Type}[DecidableEq K](knd:KeyKind prog w K):HeapKind prog w (List (List K)) where
 is:=eJ knd
 hash:=Cs knd
 draws:=fun bI=>lY bI+1
 room:=fun A=>A.units+4<cLine
 inj:=fun hx hy=>hx.inj hy
 keeps:=fun x ho hd hs=>x.keeps ho hd hs
 pyHash:=fun hu hk h=>GH hu hk h
 eqBool:=fun hu hx hy h=>GJ hu hx hy h
 quiet:=fun hk h=>Kx hk h
end PySem
namespace PySem
open Sem (wp)
def cM(h:Heap)(d:Addr)(es:Array DictEntry)(ep:Nat):Prop:=∃ob,h.get? d=some ob∧ob.ExactDict∧ob.data= .dict es ep
section
variable{prog:Program}{w:World}{A:Around}{E:Value→Shared→Prop}{s:Shared}
theorem cM.at{h h':Heap}{d:Addr}{es:Array DictEntry}{ep:Nat}(x:cM h d es ep)(k:∀o,h.get? d=some o→h'.get? d=some o):cM h' d es ep:=by
 obtain⟨ob,h1,h2⟩:=x
 exact⟨ob,k _ h1,h2⟩
theorem cM.lt{h:Heap}{d:Addr}{es:Array DictEntry}{ep:Nat}(x:cM h d es ep):d<h.objs.size:=by
 obtain⟨ob,h1,_⟩:=x
 exact Heap.lt_size h1
theorem cM.typeIs{d:Addr}{es:Array DictEntry}{ep:Nat}(x:cM s.heap d es ep):s.TypeIs (.ref d) "dict":=by
 obtain⟨ob,h1,h2,_⟩:=x
 exact⟨ob,h1,h2.1⟩
theorem GK{d:Addr}{es:Array DictEntry}{ep:Nat}{Q:Value→Shared→Prop}(nd:(d==sysModules)=false)(m:cM s.heap d es ep)
  (q:Q (.ref s.heap.objs.size) { s with heap:=s.heap.push { cls:=.type "dict_keyiterator",data:=.fields #[.ref d,.int 0 0,.int es.size 0,.int ep 0] } }):
  wpAny (model prog w) A (pyIter (.ref d)) Q E s:=by
 have ty:=m.typeIs
 obtain⟨ob,g1,g2,g3⟩:=m
 refine wpAny_pyIter_slot ty F.slot_dict_iter (wpAny_call_entry F.slot_dict_iter ty F.entry_dict_iter ?_ (F.args_dict_iter_1 _))
 unfold Builtin.«dict.__iter__»
 refine wpAny_bind (m:=Builtin.Dict.dictSlotNone _ _) ?_
 unfold Builtin.Dict.dictSlotNone
 refine wpAny_bind (wpAny_notOrdered_dict ty ?_)
 show wpAny _ _ (pure (Value.ref d)) _ _ s
 refine wpAny_pure ?_
 show wpAny _ _ (Builtin.Dict.showsAll d >>= _) _ _ s
 unfold Builtin.Dict.showsAll
 rw[if_neg (by rw[nd];exact Bool.false_ne_true)]
 refine wpAny_bind (wpAny_pure (wpAny_bind (wpAny_dictEntries g1 g3 (wpAny_bind (wpAny_dictEpoch g1 g3 ?_)))))
 refine wpAny_bind (wpAny_newObj_type (wpAny_pure ⟨_,rfl,"dict_keyiterator",_,⟨_,Heap.get?_push_size _ rfl,rfl⟩,F.slot_dict_keyiterator_next.lookup,?_⟩))
 simpa[rawInt]using q
theorem Rz{it d:Addr}{i ep:Nat}{es:Array DictEntry}{e:DictEntry}{Q:Value→Shared→Prop}(I:s.heap.IsKeyIter it d i es.size ep)(m:cM s.heap d es ep)(x:es[i]? =some e)
  (q:∀h',h'.IsKeyIter it d (i+1) es.size ep→Heap.SameBut it s.heap h'→Q e.key { s with heap:=h' }):wpAny (model prog w) A (Builtin.«dict_keyiterator.__next__» ⟨[.ref it],[]⟩) (fun fin s'=>∃v,fin= .done (.ret v)∧Q v s') E s:=by
 have ty:=I.typeIs
 obtain⟨o1,a1,a2,a3⟩:=id I
 obtain⟨o2,b1,b2,b3⟩:=m
 refine wpAny_bind (wpAny_pure (wpAny_bind (wpAny_bind ?_)))
 first|refine wpAny_bind (wpAny_typeNameOfWhole_keyiter ty (wpAny_pure ?_))|refine wpAny_bind (wpAny_typeNameOf_keyiter ty (wpAny_pure ?_))
 refine wpAny_bind (wpAny_fieldsOf a1 a3 ?_)
 have own:Builtin.Dict_items.ownsTuple "dict_keyiterator" =false:=by decide
 simp only[own,Bool.false_eq_true,if_false]
 show wpAny _ _ (if (Value.ref d==Value.none)=true then _ else _) _ _ s
 rw[if_neg (show ¬((Value.ref d==Value.none)=true)from Bool.false_ne_true)]
 refine wpAny_bind (wpAny_pure (wpAny_bind (wpAny_dictEntries b1 b3 ?_)))
 rw[if_neg (by simp)]
 refine wpAny_bind (wpAny_pure (wpAny_bind (wpAny_dictEpoch b1 b3 ?_)))
 rw[if_neg (by simp)]
 refine wpAny_pure ?_
 simp only[show ¬((i:Int)<0)from by omega,if_false,Int.toNat_natCast,x]
 refine wpAny_bind ?_
 first|refine wpAny_bind (wpAny_typeNameOfWhole_keyiter ty (wpAny_pure ?_))|refine wpAny_bind (wpAny_typeNameOf_keyiter ty (wpAny_pure ?_))
 refine wpAny_bind (wpAny_isOneOf_keyiter ty ?_)
 show wpAny _ _ (setField (.ref it) 1 (rawInt ((i:Int)+1)) >>= _) _ _ s
 refine wpAny_bind (wpAny_setField a1 a3 (by simp) ?_)
 have I':(s.heap.update it (Obj.mapFields (·.setIfInBounds 1 (rawInt ((i:Int)+1))))).IsKeyIter it d (i+1) es.size ep:=
  ⟨_,Heap.get?_update_self _ a1 (Obj.isFreed_of_fields (Obj.data_mapFields a3 _)),(Obj.cls_mapFields ..).trans a2,by rw[Obj.data_mapFields a3];simp[rawInt]⟩
 refine wpAny_bind (wpAny_holding (wpAny_bind (wpAny_isOneOf_keyiter (s:={ s with heap:=s.heap.update it (Obj.mapFields (·.setIfInBounds 1 (rawInt ((i:Int)+1)))) }) I'.typeIs ?_)))
 show wpAny _ _ (pure e.key) _ _ _
 exact wpAny_pure (wpAny_pure ⟨_,rfl,q _ I' (Heap.SameBut.update ..)⟩)
theorem RB{it d:Addr}{i ep:Nat}{es:Array DictEntry}{Q:Fin→Shared→Prop}(hh:A.handled=none)(I:s.heap.IsKeyIter it d i es.size ep)(m:cM s.heap d es ep)(x:es.size≤i)
  (q:∀h' e,Heap.ExtBut it s.heap h'→(∃o,h'.get? e=some o∧o.cls= .type "StopIteration")→E (.ref e) { s with heap:=h' }):wpAny (model prog w) A (Builtin.«dict_keyiterator.__next__» ⟨[.ref it],[]⟩) Q E s:=by
 have ty:=I.typeIs
 obtain⟨o1,a1,a2,a3⟩:=id I
 obtain⟨o2,b1,b2,b3⟩:=m
 refine wpAny_bind (wpAny_pure (wpAny_bind (wpAny_bind ?_)))
 first|refine wpAny_bind (wpAny_typeNameOfWhole_keyiter ty (wpAny_pure ?_))|refine wpAny_bind (wpAny_typeNameOf_keyiter ty (wpAny_pure ?_))
 refine wpAny_bind (wpAny_fieldsOf a1 a3 ?_)
 have own:Builtin.Dict_items.ownsTuple "dict_keyiterator" =false:=by decide
 simp only[own,Bool.false_eq_true,if_false]
 show wpAny _ _ (if (Value.ref d==Value.none)=true then _ else _) _ _ s
 rw[if_neg (show ¬((Value.ref d==Value.none)=true)from Bool.false_ne_true)]
 refine wpAny_bind (wpAny_pure (wpAny_bind (wpAny_dictEntries b1 b3 ?_)))
 rw[if_neg (by simp)]
 refine wpAny_bind (wpAny_pure (wpAny_bind (wpAny_dictEpoch b1 b3 ?_)))
 rw[if_neg (by simp)]
 refine wpAny_pure ?_
 simp only[show ¬((i:Int)<0)from by omega,if_false,Int.toNat_natCast,Array.getElem?_eq_none x]
 refine wpAny_bind ?_
 first|refine wpAny_bind (wpAny_typeNameOfWhole_keyiter ty (wpAny_pure ?_))|refine wpAny_bind (wpAny_typeNameOf_keyiter ty (wpAny_pure ?_))
 show wpAny _ _ (setField (.ref it) 0 .none >>= _) _ _ s
 refine wpAny_bind (wpAny_setField a1 a3 (by simp) ?_)
 show wpAny _ _ (newExc (.type "StopIteration") [] >>= _) _ _ _
 refine wpAny_bind ?_
 simp only[newExc,newTuple]
 refine wpAny_bind (wpAny_newObj_type (wpAny_bind (m:=firstArgMember _ _) (wpAny_of_eq (a:=Value.none) (by first|rfl|(simp only[firstArgMember];rfl)) (wpAny_newObj_type ?_ (by size_fits)))) (by size_fits))
 simp only[raiseNew]
 refine wpAny_bind (wpAny_handled ?_)
 rw[hh]
 exact(wpAny_bind (wpAny_pure (wpAny_throw (q _ _ (((Heap.SameBut.update ..).extBut.push _).push _) ⟨_,Heap.get?_push_size _ rfl,rfl⟩))))
theorem Of{it d:Addr}{i ep:Nat}{es:Array DictEntry}{e:DictEntry}{Q:Option Value→Shared→Prop}(I:s.heap.IsKeyIter it d i es.size ep)(m:cM s.heap d es ep)(x:es[i]? =some e)
  (q:∀h',h'.IsKeyIter it d (i+1) es.size ep→Heap.SameBut it s.heap h'→Q (some e.key) { s with heap:=h' }):wpAny (model prog w) A (pyNext (.ref it)) Q E s:=by
 have ty:=I.typeIs
 unfold pyNext
 exact wpAny_bind (wpAny_attempt (wpAny_callSpecial?_slot (name:=Str.ofString "__next__") ty F.slot_dict_keyiterator_next (wpAny_call_entry F.slot_dict_keyiterator_next ty F.entry_dict_keyiterator_next (Rz I m x fun h' I' sb=>wpAny_pure (q h' I' sb)) (F.args_dict_keyiterator_next_1 _))))
theorem Og{it d:Addr}{i ep:Nat}{es:Array DictEntry}{Q:Option Value→Shared→Prop}(hh:A.handled=none)(I:s.heap.IsKeyIter it d i es.size ep)(m:cM s.heap d es ep)(x:es.size≤i)
  (q:∀h',Heap.ExtBut it s.heap h'→Q none { s with heap:=h' }):wpAny (model prog w) A (pyNext (.ref it)) Q E s:=by
 have ty:=I.typeIs
 unfold pyNext
 refine wpAny_bind (wpAny_attempt (wpAny_callSpecial?_slot (name:=Str.ofString "__next__") ty F.slot_dict_keyiterator_next (wpAny_call_entry F.slot_dict_keyiterator_next ty F.entry_dict_keyiterator_next (RB (show A.in1.handled=none from hh) I m x fun h' e eb he=>?_) (F.args_dict_keyiterator_next_1 _))))
 obtain⟨o,ho,hc⟩:=he
 exact wpAny_bind (wpAny_isInstance (T:="StopIteration") (b:=true) ⟨o,ho,hc⟩ isSubtype_stop (wpAny_pure (q _ eb)))
theorem RC{it d:Addr}{i ep:Nat}{es:Array DictEntry}{e:DictEntry}{Q:Value→Shared→Prop}(I:s.heap.IsKeyIter it d i es.size ep)(m:cM s.heap d es ep)(x:es[i]? =some e)
  (q:∀h',h'.IsKeyIter it d (i+1) es.size ep→Heap.SameBut it s.heap h'→Q e.key { s with heap:=h' }):wpAny (model prog w) A (Builtin.SmallTypes.nextOf (.ref it)) Q E s:=by
 have ty:=I.typeIs
 unfold Builtin.SmallTypes.nextOf
 exact wpAny_bind (wpAny_callSpecial?_slot (name:=Str.ofString "__next__") ty F.slot_dict_keyiterator_next (wpAny_call_entry F.slot_dict_keyiterator_next ty F.entry_dict_keyiterator_next (Rz I m x fun h' I' sb=>wpAny_pure (q h' I' sb)) (F.args_dict_keyiterator_next_1 _)))
theorem U0{it d:Addr}{i ep:Nat}{es:Array DictEntry}{Q:Value→Shared→Prop}(hh:A.handled=none)(I:s.heap.IsKeyIter it d i es.size ep)(m:cM s.heap d es ep)(x:es.size≤i)
  (q:∀h' e,Heap.ExtBut it s.heap h'→(∃o,h'.get? e=some o∧o.cls= .type "StopIteration")→E (.ref e) { s with heap:=h' }):wpAny (model prog w) A (Builtin.SmallTypes.nextOf (.ref it)) Q E s:=by
 have ty:=I.typeIs
 unfold Builtin.SmallTypes.nextOf
 exact wpAny_bind (wpAny_callSpecial?_slot (name:=Str.ofString "__next__") ty F.slot_dict_keyiterator_next (wpAny_call_entry F.slot_dict_keyiterator_next ty F.entry_dict_keyiterator_next (RB (show A.in1.handled=none from hh) I m x q) (F.args_dict_keyiterator_next_1 _)))
theorem Ky(hh:A.handled=none)(I d:Addr)(fO:d≠I)(es:Array DictEntry)(ep:Nat):
  Walks prog w A I [I,d] [I] es.size (fun i v=>∃e,es[i]? =some e∧v=e.key) (fun i h=>h.IsKeyIter I d i es.size ep∧cM h d es ep) where
 sub:=fun b hb=>by simp at hb;simp[hb]
 frame:=fun _ _ _ st hk=>⟨st.1.at fun o e=>hk I (by simp) o e,st.2.at fun o e=>hk d (by simp) o e⟩
 item:=fun i s Q E hi st hQ=>by
  have x:es[i]? =some es[i]:=Array.getElem?_eq_getElem hi
  refine Of st.1 st.2 x fun h' I' sb=>?_
  exact hQ _ h' s.toks ⟨_,x,rfl⟩ ⟨I',st.2.at fun o e=>(sb.2 d fO).trans e⟩ fun b o hb e=>sb.extBut b o (fun h=>hb (by simp[h])) e
 done:=fun s Q E st hQ=>Og hh st.1 st.2 (Nat.le_refl _) fun h' Oh=>hQ h' s.toks fun b o hb e=>Oh b o (fun h=>hb (by simp[h])) e
 self:=fun _ _ _ _ st hQ=>wpAny_pyIter_keyiter st.1 hQ
theorem Nz{d:Addr}{es:Array DictEntry}{ep:Nat}(nd:(d==sysModules)=false):PySem.W.KdlSrc prog w "dict" d d es.size (fun i v=>∃e,es[i]? =some e∧v=e.key) (fun h=>cM h d es ep) where
 type:=fun _ m=>m.typeIs
 there:=fun _ m=>⟨m.lt,m.lt⟩
 keep:=fun _ _ m hk=>m.at fun o e=>hk d (.inl rfl) o e
 notList:=by decide
 notTuple:=by decide
 hint:=fun _ _ _ _ m hq=>PySem.W.kdl_hint_dict m.typeIs hq
 iter:=fun _ _ hh m=>⟨_,_,(fun _ _ hq=>GK nd m hq),Ky hh _ d (Nat.ne_of_lt m.lt) es ep,⟨⟨_,Heap.get?_push_size _ rfl,rfl,rfl⟩,m.at fun o e=>Heap.get?_push_of_some _ e⟩⟩
theorem GL(d:Addr)(nd:(d==sysModules)=false):MeetsIn prog w (Builtin.«dict.values» ⟨[.ref d],[]⟩) (fun _ R s=>(∃es ep,cM s.heap d es ep)∧R (.ok (.ret (.ref s.heap.objs.size))) { s with heap:=s.heap.push { cls:=.type "dict_values",data:=.fields #[.ref d] } }):=
 .of_wp <| by
  rintro A R s ⟨⟨es,ep,m⟩,h⟩
  refine wpAny_bind (m:=Builtin.Dict.noArgs _ _) ?_
  unfold Builtin.Dict.noArgs
  refine wpAny_bind (wpAny_notOrdered_dict m.typeIs ?_)
  show wpAny _ _ (pure d) _ _ s
  refine wpAny_pure ?_
  show wpAny _ _ (Builtin.Dict.showsAll d >>= _) _ _ s
  unfold Builtin.Dict.showsAll
  rw[if_neg (by rw[nd];exact Bool.false_ne_true)]
  exact wpAny_bind (wpAny_pure (wpAny_bind (wpAny_newObj_type (wpAny_pure ⟨_,rfl,h⟩))))
theorem Oi{v d:Addr}{es:Array DictEntry}{ep:Nat}{Q:Value→Shared→Prop}(V:s.heap.IsValuesView v d)(m:cM s.heap d es ep)
  (q:Q (.ref s.heap.objs.size) { s with heap:=s.heap.push { cls:=.type "dict_valueiterator",data:=.fields #[.ref d,.int 0 0,.int es.size 0,.int ep 0] } }):wpAny (model prog w) A (pyIter (.ref v)) Q E s:=by
 have ty:=V.typeIs
 obtain⟨o1,a1,a2,a3⟩:=V
 obtain⟨o2,b1,b2,b3⟩:=m
 refine wpAny_pyIter_slot ty F.slot_dict_values_iter (wpAny_call_entry F.slot_dict_values_iter ty F.entry_dict_values_iter ?_ (F.args_dict_values_iter_1 _))
 unfold Builtin.«dict_values.__iter__»
 refine wpAny_bind (wpAny_pure (wpAny_bind (m:=Builtin.Dict_items.dictOf _) ?_))
 unfold Builtin.Dict_items.dictOf
 refine wpAny_bind (wpAny_field a1 a3 (x:=.ref d) rfl (wpAny_pure (wpAny_bind (m:=Builtin.Dict_items.newIterator _ _) ?_)))
 unfold Builtin.Dict_items.newIterator
 refine wpAny_bind (wpAny_dictEntries b1 b3 (wpAny_bind (wpAny_dictEpoch b1 b3 ?_)))
 have own:Builtin.Dict_items.ownsTuple "dict_valueiterator" =false:=by decide
 simp only[own,Bool.false_eq_true,if_false]
 refine wpAny_newObj_type (wpAny_pure ⟨_,rfl,"dict_valueiterator",_,⟨_,Heap.get?_push_size _ rfl,rfl⟩,F.slot_dict_valueiterator_next.lookup,?_⟩)
 simpa[rawInt]using q
theorem Oj{it d:Addr}{i ep:Nat}{es:Array DictEntry}{e:DictEntry}{Q:Option Value→Shared→Prop}(I:s.heap.IsValIter it d i es.size ep)(m:cM s.heap d es ep)(x:es[i]? =some e)
  (q:∀h',h'.IsValIter it d (i+1) es.size ep→Heap.SameBut it s.heap h'→Q (some e.val) { s with heap:=h' }):wpAny (model prog w) A (pyNext (.ref it)) Q E s:=by
 have ty:=I.typeIs
 obtain⟨o1,a1,a2,a3⟩:=id I
 obtain⟨o2,b1,b2,b3⟩:=m
 unfold pyNext
 refine wpAny_bind (wpAny_attempt (wpAny_callSpecial?_slot (name:=Str.ofString "__next__") ty F.slot_dict_valueiterator_next (wpAny_call_entry F.slot_dict_valueiterator_next ty F.entry_dict_valueiterator_next ?_ (F.args_dict_valueiterator_next_1 _))))
 refine wpAny_bind (wpAny_pure (wpAny_bind (wpAny_bind ?_)))
 first|refine wpAny_bind (wpAny_typeNameOfWhole_valiter ty (wpAny_pure ?_))|refine wpAny_bind (wpAny_typeNameOf_valiter ty (wpAny_pure ?_))
 refine wpAny_bind (wpAny_fieldsOf a1 a3 ?_)
 have own:Builtin.Dict_items.ownsTuple "dict_valueiterator" =false:=by decide
 simp only[own,Bool.false_eq_true,if_false]
 show wpAny _ _ (if (Value.ref d==Value.none)=true then _ else _) _ _ s
 rw[if_neg (show ¬((Value.ref d==Value.none)=true)from Bool.false_ne_true)]
 refine wpAny_bind (wpAny_pure (wpAny_bind (wpAny_dictEntries b1 b3 ?_)))
 rw[if_neg (by simp)]
 refine wpAny_bind (wpAny_pure (wpAny_bind (wpAny_dictEpoch b1 b3 ?_)))
 rw[if_neg (by simp)]
 refine wpAny_pure ?_
 simp only[show ¬((i:Int)<0)from by omega,if_false,Int.toNat_natCast,x]
 refine wpAny_bind ?_
 first|refine wpAny_bind (wpAny_typeNameOfWhole_valiter ty (wpAny_pure ?_))|refine wpAny_bind (wpAny_typeNameOf_valiter ty (wpAny_pure ?_))
 refine wpAny_bind (wpAny_isOneOf_valiter ty ?_)
 show wpAny _ _ (setField (.ref it) 1 (rawInt ((i:Int)+1)) >>= _) _ _ s
 refine wpAny_bind (wpAny_setField a1 a3 (by simp) ?_)
 have I':(s.heap.update it (Obj.mapFields (·.setIfInBounds 1 (rawInt ((i:Int)+1))))).IsValIter it d (i+1) es.size ep:=
  ⟨_,Heap.get?_update_self _ a1 (Obj.isFreed_of_fields (Obj.data_mapFields a3 _)),(Obj.cls_mapFields ..).trans a2,by rw[Obj.data_mapFields a3];simp[rawInt]⟩
 refine wpAny_bind (wpAny_holding (wpAny_bind (wpAny_isOneOf_valiter (s:={ s with heap:=s.heap.update it (Obj.mapFields (·.setIfInBounds 1 (rawInt ((i:Int)+1)))) }) I'.typeIs ?_)))
 refine wpAny_bind (wpAny_isOneOf_valiter (s:={ s with heap:=s.heap.update it (Obj.mapFields (·.setIfInBounds 1 (rawInt ((i:Int)+1)))) }) I'.typeIs ?_)
 show wpAny _ _ (pure e.val) _ _ _
 exact wpAny_pure (wpAny_pure ⟨_,rfl,wpAny_pure (q _ I' (Heap.SameBut.update ..))⟩)
theorem Ol{it d:Addr}{i ep:Nat}{es:Array DictEntry}{Q:Option Value→Shared→Prop}(hh:A.handled=none)(I:s.heap.IsValIter it d i es.size ep)(m:cM s.heap d es ep)(x:es.size≤i)
  (q:∀h',Heap.ExtBut it s.heap h'→Q none { s with heap:=h' }):wpAny (model prog w) A (pyNext (.ref it)) Q E s:=by
 have ty:=I.typeIs
 obtain⟨o1,a1,a2,a3⟩:=id I
 obtain⟨o2,b1,b2,b3⟩:=m
 unfold pyNext
 refine wpAny_bind (wpAny_attempt (wpAny_callSpecial?_slot (name:=Str.ofString "__next__") ty F.slot_dict_valueiterator_next (wpAny_call_entry F.slot_dict_valueiterator_next ty F.entry_dict_valueiterator_next ?_ (F.args_dict_valueiterator_next_1 _))))
 refine wpAny_bind (wpAny_pure (wpAny_bind (wpAny_bind ?_)))
 first|refine wpAny_bind (wpAny_typeNameOfWhole_valiter ty (wpAny_pure ?_))|refine wpAny_bind (wpAny_typeNameOf_valiter ty (wpAny_pure ?_))
 refine wpAny_bind (wpAny_fieldsOf a1 a3 ?_)
 have own:Builtin.Dict_items.ownsTuple "dict_valueiterator" =false:=by decide
 simp only[own,Bool.false_eq_true,if_false]
 show wpAny _ _ (if (Value.ref d==Value.none)=true then _ else _) _ _ s
 rw[if_neg (show ¬((Value.ref d==Value.none)=true)from Bool.false_ne_true)]
 refine wpAny_bind (wpAny_pure (wpAny_bind (wpAny_dictEntries b1 b3 ?_)))
 rw[if_neg (by simp)]
 refine wpAny_bind (wpAny_pure (wpAny_bind (wpAny_dictEpoch b1 b3 ?_)))
 rw[if_neg (by simp)]
 refine wpAny_pure ?_
 simp only[show ¬((i:Int)<0)from by omega,if_false,Int.toNat_natCast,Array.getElem?_eq_none x]
 refine wpAny_bind ?_
 first|refine wpAny_bind (wpAny_typeNameOfWhole_valiter ty (wpAny_pure ?_))|refine wpAny_bind (wpAny_typeNameOf_valiter ty (wpAny_pure ?_))
 show wpAny _ _ (setField (.ref it) 0 .none >>= _) _ _ s
 refine wpAny_bind (wpAny_setField a1 a3 (by simp) ?_)
 show wpAny _ _ (newExc (.type "StopIteration") [] >>= _) _ _ _
 refine wpAny_bind ?_
 simp only[newExc,newTuple]
 refine wpAny_bind (wpAny_newObj_type (wpAny_bind (m:=firstArgMember _ _) (wpAny_of_eq (a:=Value.none) (by first|rfl|(simp only[firstArgMember];rfl)) (wpAny_newObj_type ?_ (by size_fits)))) (by size_fits))
 simp only[raiseNew]
 refine wpAny_bind (wpAny_handled ?_)
 rw[show A.in1.handled=none from hh]
 refine(wpAny_bind (wpAny_pure (wpAny_throw ?_)))
 refine(wpAny_bind (wpAny_isInstance (T:="StopIteration") (b:=true) ⟨_,Heap.get?_push_size _ rfl,rfl⟩ isSubtype_stop ?_))
 exact wpAny_pure (q _ (((Heap.SameBut.update ..).extBut.push _).push _))
theorem Kz(hh:A.handled=none)(I d:Addr)(fO:d≠I)(es:Array DictEntry)(ep:Nat):
  Walks prog w A I [I,d] [I] es.size (fun i v=>∃e,es[i]? =some e∧v=e.val) (fun i h=>h.IsValIter I d i es.size ep∧cM h d es ep) where
 sub:=fun b hb=>by simp at hb;simp[hb]
 frame:=fun _ _ _ st hk=>⟨st.1.at fun o e=>hk I (by simp) o e,st.2.at fun o e=>hk d (by simp) o e⟩
 item:=fun i s Q E hi st hQ=>by
  have x:es[i]? =some es[i]:=Array.getElem?_eq_getElem hi
  refine Oj st.1 st.2 x fun h' I' sb=>?_
  exact hQ _ h' s.toks ⟨_,x,rfl⟩ ⟨I',st.2.at fun o e=>(sb.2 d fO).trans e⟩ fun b o hb e=>sb.extBut b o (fun h=>hb (by simp[h])) e
 done:=fun s Q E st hQ=>Ol hh st.1 st.2 (Nat.le_refl _) fun h' Oh=>hQ h' s.toks fun b o hb e=>Oh b o (fun h=>hb (by simp[h])) e
 self:=fun _ _ _ _ st hQ=>wpAny_pyIter_valiter st.1 hQ
theorem RF{v d:Addr}{es:Array DictEntry}{ep:Nat}:PySem.W.KdlSrc prog w "dict_values" v d es.size (fun i v=>∃e,es[i]? =some e∧v=e.val) (fun h=>h.IsValuesView v d∧cM h d es ep) where
 type:=fun _ m=>m.1.typeIs
 there:=fun _ m=>⟨by obtain⟨o,ho,_⟩:=m.1;exact Heap.lt_size ho,m.2.lt⟩
 keep:=fun _ _ m hk=>⟨by obtain⟨o,ho,x⟩:=m.1;exact⟨o,hk v (.inl rfl) o ho,x⟩,m.2.at fun o e=>hk d (.inr rfl) o e⟩
 notList:=by decide
 notTuple:=by decide
 hint:=fun _ _ _ _ m hq=>PySem.W.kdl_hint_values m.1.typeIs hq
 iter:=fun _ _ hh m=>⟨_,_,(fun _ _ hq=>Oi m.1 m.2 hq),Kz hh _ d (Nat.ne_of_lt m.2.lt) es ep,⟨⟨_,Heap.get?_push_size _ rfl,rfl,rfl⟩,m.2.at fun o e=>Heap.get?_push_of_some _ e⟩⟩
end
end PySem
namespace L2
open PySem PySem.Spec PyProof.Rows
abbrev Key:=Sum Int Str
def sJ:Key→Value→Bool
 |.inl k,v=>Value.isInt k v
 |.inr x,v=>Value.isStrOf x v
def RG(w:World):Key→Int
 |.inl k=>hashInt k
 |.inr x=>hashStr w x
theorem dw:∀{k:Key}{v:Value},sJ k v=true→(∃i t,k=Sum.inl i∧v=Value.int i t)∨(∃x t,k=Sum.inr x∧v=Value.str x t)
 |.inl i,v,h=>by
  obtain⟨t,e⟩:=Value.isInt_shape (k:=i) (v:=v) h
  exact .inl ⟨i,t,rfl,e⟩
 |.inr x,v,h=>by
  obtain⟨t,e⟩:=Value.isStrOf_shape (x:=x) (v:=v) h
  exact .inr ⟨x,t,rfl,e⟩
theorem Cv(i:Int)(t:Tok):sJ (.inl i) (.int i t)=true:=by simp[sJ,Value.isInt]
theorem Cw(x:Str)(t:Tok):sJ (.inr x) (.str x t)=true:=by simp[sJ,Value.isStrOf]
theorem KA(a b:Int):decide ((Sum.inl a:Key)=Sum.inl b)=(a==b):=by
 by_cases e:a=b
 ·subst e;simp
 ·have h:¬(Sum.inl a:Key)=Sum.inl b:=fun q=>e (Sum.inl.inj q)
  rw[decide_eq_false h]
  exact(beq_eq_false_iff_ne.mpr e).symm
theorem KC(a b:Str):decide ((Sum.inr a:Key)=Sum.inr b)=decide (a=b):=by
 by_cases e:a=b
 ·subst e;simp
 ·have h:¬(Sum.inr a:Key)=Sum.inr b:=fun q=>e (Sum.inr.inj q)
  rw[decide_eq_false h,decide_eq_false e]
theorem KD(a:Int)(b:Str):decide ((Sum.inl a:Key)=Sum.inr b)=false:=decide_eq_false (fun q=>nomatch q)
theorem KG(a:Str)(b:Int):decide ((Sum.inr a:Key)=Sum.inl b)=false:=decide_eq_false (fun q=>nomatch q)
def bZ(prog:Program)(w:World):PySem.KeyKind prog w Key where
 is:=sJ
 hash:=RG w
 inj:=fun v a b ha hb=>by
  rcases dw ha with⟨i,t,rfl,rfl⟩|⟨x,t,rfl,rfl⟩
  ·rcases dw hb with⟨j,u,rfl,e⟩|⟨y,u,rfl,e⟩
   ·injection e with e1 _;rw[e1]
   ·exact nomatch e
  ·rcases dw hb with⟨j,u,rfl,e⟩|⟨y,u,rfl,e⟩
   ·exact nomatch e
   ·injection e with e1 _;rw[e1]
 byValue:=fun k v h=>by
  rcases dw h with⟨i,t,rfl,rfl⟩|⟨x,t,rfl,rfl⟩<;>rfl
 pyHash:=fun hv h=>by
  rcases dw hv with⟨i,t,rfl,rfl⟩|⟨x,t,rfl,rfl⟩
  ·exact wpAny_pyHash_int h
  ·exact wpAny_pyHash_str h
 eqBool:=fun hu hv h=>by
  rcases dw hu with⟨i,t,rfl,rfl⟩|⟨x,t,rfl,rfl⟩
  ·rcases dw hv with⟨j,u,rfl,rfl⟩|⟨y,u,rfl,rfl⟩
   ·rw[KA]at h;exact wpAny_eqBool_int h
   ·rw[KD]at h;exact SeqAt.EqAt.int_str i t y u _ _ _ _ h
  ·rcases dw hv with⟨j,u,rfl,rfl⟩|⟨y,u,rfl,rfl⟩
   ·rw[KG]at h;exact SeqAt.EqAt.str_int x t j u _ _ _ _ h
   ·rw[KC]at h;exact wpAny_eqBool_str h
 «strs»:=fun k x t v h=>by
  rcases dw h with⟨i,u,rfl,e⟩|⟨y,u,rfl,e⟩
  ·exact nomatch e
  ·injection e with e1 _
   subst e1
   cases v<;>rfl
theorem zj(prog:Program)(w:World)(i:Int)(t:Tok):(bZ prog w).is (.inl i) (.int i t)=true:=Cv i t
theorem zk(prog:Program)(w:World)(x:Str)(t:Tok):(bZ prog w).is (.inr x) (.str x t)=true:=Cw x t
end L2
namespace L2
open PySem PySem.Spec PyProof.Rows
inductive V where
 |bG|bl(b:Bool)|int(i:Int)|str(x:Str)|vG(b:Array UInt8)|Fg(b:UInt64)|ref(a:Addr)|ty(n:String)
 deriving DecidableEq
def RelV:V→Value→Prop
 |.bG,u=>u=Value.none
 |.bl b,u=>u=Value.bool b
 |.int i,u=>∃t,u=Value.int i t
 |.str x,u=>∃t,u=Value.str x t
 |.vG b,u=>∃t,u=Value.bytes b t
 |.Fg b,u=>∃t,u=Value.float b t
 |.ref a,u=>u=Value.ref a
 |.ty n,u=>u=Value.type n
abbrev Vals:List V→List Value→Prop:=Paired RelV
theorem Vals.length{xs:List V}{us:List Value}(r:Vals xs us):xs.length=us.length:=Paired.length r
theorem Vals.get:∀{xs:List V}{us:List Value}{i:Nat}{x:V},Vals xs us→xs[i]? =some x→∃u,us[i]? =some u∧RelV x u
 |_,_,_,_,.nil,e=>by simp at e
 |_,_,0,_,.cons r _,e=>by simp at e;subst e;exact⟨_,rfl,r⟩
 |_,_,i+1,x,.cons _ t,e=>by
  obtain⟨u,h1,h2⟩:=Vals.get (i:=i) (x:=x) t (by simpa using e)
  exact⟨u,by simpa using h1,h2⟩
theorem Vals.set{x:V}{u:Value}(r:RelV x u):∀{xs:List V}{us:List Value} (i:Nat),Vals xs us→Vals (xs.set i x) (us.set i u)
 |_,_,_,.nil=>.nil
 |_,_,0,.cons _ t=>.cons r t
 |_,_,i+1,.cons q t=>.cons q (Vals.set r i t)
theorem Vals.append:∀{xs ys:List V}{us ws:List Value},Vals xs us→Vals ys ws→Vals (xs++ys) (us++ws)
 |_,_,_,_,.nil,s=>s
 |_,_,_,_,.cons r t,s=>.cons r (Vals.append t s)
theorem Vals.take:∀{xs:List V}{us:List Value} (n:Nat),Vals xs us→Vals (xs.take n) (us.take n)
 |_,_,0,_=>.nil
 |_,_,_+1,.nil=>.nil
 |_,_,n+1,.cons r t=>.cons r (Vals.take n t)
theorem Vals.drop:∀{xs:List V}{us:List Value} (n:Nat),Vals xs us→Vals (xs.drop n) (us.drop n)
 |_,_,0,r=>r
 |_,_,_+1,.nil=>.nil
 |_,_,n+1,.cons _ t=>Vals.drop n t
def pL:Option V→Option Value→Prop
 |some v,some u=>RelV v u
 |none,none=>True
 |_,_=>False
def KV{κ:Type}:List (κ×V)→List (κ×Value)→Prop:=Paired fun(p:κ×V) (q:κ×Value)=>p.1=q.1∧RelV p.2 q.2
def kV:Key→V
 |.inl i=>.int i
 |.inr x=>.str x
inductive HO where
 |lst(xs:List V)
 |tup(xs:List V)
 |dK(aE:List (Key×V))|dT(aE:List (List Key×V))|dU(aE:List (List (List Key)×V))
 |set(S:Int→Bool)(n:Nat)
 |ins(C dx:Addr)(fs:List (Str×V))
 |own(x:Addr)
 |xd(fs:List (Str×V))
 |met(f x:Addr)
 |dQ(lo hi:Int)
 |fP(o:Obj)(u:HO)
 |Cy(ps:Array Value)
 |ext(φ:Heap→Prop)
abbrev Hp:=Addr→Option HO
def upd(H:Hp)(a:Addr)(o:HO):Hp:=fun b=>if b=a then some o else H b
theorem cS{H:Hp}{a:Addr}{o:HO}:upd H a o a=some o:=by unfold upd;rw[if_pos rfl]
theorem bg{H:Hp}{a b:Addr}{o:HO}(h:b≠a):upd H a o b=H b:=by unfold upd;rw[if_neg h]
theorem GN{H:Hp}{a:Addr}{o u:HO}:upd (upd H a o) a u=upd H a u:=by
 funext b;unfold upd;split<;>rfl
theorem vH{H:Hp}{a b:Addr}{o u:HO}(h:H a=some o)(h':H b=some u)(d:o≠u):a≠b:=by
 intro e;subst e;rw[h]at h';exact d (Option.some.inj h')
theorem cY{H:Hp}{a b:Addr}{o:HO}(h:H a=some o)(h':H b=none):a≠b:=by
 intro e;subst e;rw[h]at h';cases h'
def iI(H:Hp)(bI:List (List Key))(b:Addr):Prop:=∃as:List Addr,H b=some (.tup (as.map V.ref))∧Paired (fun(ks:List Key) (a:Addr)=>H a=some (.tup (ks.map kV))) bI as
section
variable(P:Program)(w:World)
def bN(H:Hp)(h:Heap)(a:Addr):HO→Prop
 |.lst xs=>xs.length≤sizeLine∧∃(its:List Value) (n:Nat),Vals xs its∧h.get? a=some { cls:=.type "list",data:=.seq its.toArray n }
 |.tup xs=>xs.length≤sizeLine∧∃its:List Value,Vals xs its∧IsTup h a its.toArray
 |.dK aE=>aE.length≤sizeLine∧(a==sysModules)=false∧∃vs,KV aE vs∧h.DictOf (bZ P w) a vs
 |.dT aE=>aE.length≤sizeLine∧(a==sysModules)=false∧∃xs:List (List Key×Addr×Value),
   Paired (fun(p:List Key×V) (q:List Key×Addr×Value)=>p.1=q.1∧H q.2.1=some (.tup (p.1.map kV))∧RelV p.2 q.2.2) aE xs∧
   ∃o es ep,h.get? a=some o∧o.ExactDict∧o.data= .dict es ep∧es.toList=xs.map (entryOfKey (tupleKind (bZ P w)))∧(xs.map (·.1)).Nodup
 |.dU aE=>aE.length≤sizeLine∧(a==sysModules)=false∧∃xs:List (List (List Key)×Addr×Value),
   Paired (fun(p:List (List Key)×V) (q:List (List Key)×Addr×Value)=>p.1=q.1∧iI H p.1 q.2.1∧RelV p.2 q.2.2) aE xs∧
   ∃o es ep,h.get? a=some o∧o.ExactDict∧o.data= .dict es ep∧es.toList=xs.map (entryOfKey (mK (bZ P w)))∧(xs.map (·.1)).Nodup
 |.set S n=>h.SetOf (intKind P w) a S n
 |.ins C dx fs=>H dx=some (.own a)∧fs.length≤1000∧dx≠a∧h.get? a=some (PySem.W.instObj C dx)∧
   ∃mA,h.Ns1 dx mA∧(∀f,pL (fs.lookup f) (mA f))∧PySem.Within mA (fs.map (·.1))
 |.own _=>∃o,h.get? a=some o
 |.xd fs=>∃mA,h.Ns1 a mA∧∀f,pL (fs.lookup f) (mA f)
 |.dQ lo hi=>∃t u v,h.get? a=some { cls:=.type "range",data:=.fields #[.int lo t,.int hi u,.int 1 v] }
 |.fP o u=>h.get? a=some o∧bN H h a u
 |.Cy ps=>h.get? a=some { cls:=.none,data:=.fields ps }
 |.met f x=>h.get? a=some (PySem.W.methodObj (.ref f) (.ref x))
 |.ext φ=>φ h∧(∃o,h.get? a=some o)∧∀h1 h2:Heap,φ h1→(∀o,h1.get? a=some o→h2.get? a=some o)→φ h2
def gB(H:Hp)(h:Heap):Prop:=∀a o,H a=some o→bN P w H h a o
end
section
variable{P:Program}{w:World}{H H':Hp}{h h':Heap}{a:Addr}{o:HO}
theorem bN.lt(x:bN P w H h a o):a<h.objs.size:=by
 cases o with
 |lst xs=>obtain⟨_,_,_,_,e⟩:=x;exact Heap.lt_size e
 |tup xs=>obtain⟨_,_,_,p⟩:=x;exact p.lt
 |dK aE=>obtain⟨_,_,_,_,o,_,_,e,_⟩:=x;exact Heap.lt_size e
 |dT aE=>obtain⟨_,_,_,_,o,_,_,e,_⟩:=x;exact Heap.lt_size e
 |dU aE=>obtain⟨_,_,_,_,o,_,_,e,_⟩:=x;exact Heap.lt_size e
 |set S n=>obtain⟨o,_,_,_,e,_⟩:=x;exact Heap.lt_size e
 |ins C dx fs=>obtain⟨_,_,_,e,_⟩:=x;exact Heap.lt_size e
 |own y=>obtain⟨_,e⟩:=x;exact Heap.lt_size e
 |xd fs=>obtain⟨_,⟨_,_,_,e,_⟩,_⟩:=x;exact Heap.lt_size e
 |dQ lo hi=>obtain⟨_,_,_,e⟩:=x;exact Heap.lt_size e
 |fP ob u=>obtain⟨e,_⟩:=x;exact Heap.lt_size e
 |Cy ps=>exact Heap.lt_size (show h.get? a=some _ from x)
 |met f y=>exact Heap.lt_size (show h.get? a=some _ from x)
 |ext φ=>obtain⟨_,⟨_,e⟩,_⟩:=x;exact Heap.lt_size e
theorem Paired.tR{α β:Type}{F G:α→β→Prop}:∀{tS:List α}{tT:List β},Paired F tS tT→(∀a b,F a b→G a b)→Paired G tS tT
 |_,_,.nil,_=>.nil
 |_,_,.cons r t,f=>.cons (f _ _ r) (Paired.tR t f)
theorem iI.more{H H':Hp}{bI:List (List Key)}{b:Addr}(x:iI H bI b)(ht:∀b xs,H b=some (.tup xs)→H' b=some (.tup xs)):iI H' bI b:=by
 obtain⟨as,h1,h2⟩:=x
 exact⟨as,ht _ _ h1,Paired.tR h2 fun _ _ z=>ht _ _ z⟩
theorem bN.vI(x:bN P w H h a o)(k:∀b u,(b=a∨H b=some (.own a))→h.get? b=some u→h'.get? b=some u)
  (ho:∀b,H b=some (.own a)→H' b=some (.own a))(ht:∀b xs,H b=some (.tup xs)→H' b=some (.tup xs)):bN P w H' h' a o:=by
 induction o with
 |lst xs=>obtain⟨z,its,n,r,e⟩:=x;exact⟨z,its,n,r,k _ _ (.inl rfl) e⟩
 |tup xs=>obtain⟨z,its,r,ob,e,c⟩:=x;exact⟨z,its,r,ob,k _ _ (.inl rfl) e,c⟩
 |dK aE=>obtain⟨z,y,vs,r,ob,es,ep,e,c⟩:=x;exact⟨z,y,vs,r,ob,es,ep,k _ _ (.inl rfl) e,c⟩
 |dT aE=>
  obtain⟨z,y,xs,r,ob,es,ep,e,c⟩:=x
  exact⟨z,y,xs,Paired.tR r fun p q z=>⟨z.1,ht _ _ z.2.1,z.2.2⟩,ob,es,ep,k _ _ (.inl rfl) e,c⟩
 |dU aE=>
  obtain⟨z,y,xs,r,ob,es,ep,e,c⟩:=x
  exact⟨z,y,xs,Paired.tR r fun p q z=>⟨z.1,z.2.1.more ht,z.2.2⟩,ob,es,ep,k _ _ (.inl rfl) e,c⟩
 |set S n=>obtain⟨ob,es,ep,t,e,c⟩:=x;exact⟨ob,es,ep,t,k _ _ (.inl rfl) e,c⟩
 |ins C dx fs=>
  obtain⟨d,z,ne,e,mA,⟨od,es,ep,e2,c⟩,r⟩:=x
  exact⟨ho _ d,z,ne,k _ _ (.inl rfl) e,mA,⟨od,es,ep,k _ _ (.inr d) e2,c⟩,r⟩
 |own y=>obtain⟨ob,e⟩:=x;exact⟨ob,k _ _ (.inl rfl) e⟩
 |xd fs=>obtain⟨mA,⟨od,es,ep,e,c⟩,r⟩:=x;exact⟨mA,⟨od,es,ep,k _ _ (.inl rfl) e,c⟩,r⟩
 |dQ lo hi=>obtain⟨t,u,v,e⟩:=x;exact⟨t,u,v,k _ _ (.inl rfl) e⟩
 |fP ob u ih=>obtain⟨e,q⟩:=x;exact⟨k _ _ (.inl rfl) e,ih q⟩
 |Cy ps=>
  have e:h.get? a=some { cls:=.none,data:=.fields ps }:=x
  show h'.get? a=some { cls:=.none,data:=.fields ps }
  exact k a _ (.inl rfl) e
 |met f y=>
  have e:h.get? a=some (PySem.W.methodObj (.ref f) (.ref y)):=x
  show h'.get? a=some (PySem.W.methodObj (.ref f) (.ref y))
  exact k a _ (.inl rfl) e
 |ext φ=>obtain⟨p,⟨o,e⟩,st⟩:=x;exact⟨st _ _ p fun o q=>k _ _ (.inl rfl) q,⟨o,k _ _ (.inl rfl) e⟩,st⟩
theorem gB.lt(x:gB P w H h)(e:H a=some o):a<h.objs.size:=(x a o e).lt
theorem gB.fresh(x:gB P w H h)(e:h.objs.size≤a):H a=none:=by
 cases q:H a with
 |none=>rfl
 |some u=>exact absurd (Nat.lt_of_lt_of_le (x.lt q) e) (Nat.lt_irrefl _)
theorem gB.kept(x:gB P w H h)(k:∀b u,h.get? b=some u→h'.get? b=some u):gB P w H h':=fun a o e=>
 (x a o e).vI (fun b u _ q=>k b u q) (fun _ q=>q) fun _ _ q=>q
theorem gB.laid(x:gB P w H h)(k:∀b u,h.get? b=some u→h'.get? b=some u)(hp:h.objs.size≤a)(new:bN P w (upd H a o) h' a o):gB P w (upd H a o) h':=fun b u e=>by
 have hn:=x.fresh hp
 by_cases hb:b=a
 ·subst hb;rw[cS]at e;cases e;exact new
 ·rw[bg hb]at e
  exact(x b u e).vI (fun c v _ q=>k c v q) (fun c q=>by rw[bg (cY q hn)];exact q) fun c xs q=>by rw[bg (cY q hn)];exact q
end
def Rd(H:Hp)(a:Addr)(u:HO):Prop:=H a=some u∨∃o,H a=some (.fP o u)
theorem Rd.ok{P:Program}{w:World}{H:Hp}{h:Heap}{a:Addr}{u:HO}(r:Rd H a u)(x:gB P w H h):bN P w H h a u:=by
 rcases r with r|⟨o,r⟩
 ·exact x a u r
 ·obtain⟨_,q⟩:=x a _ r
  exact q
def GO:Option HO→Prop
 |some (.lst _)=>True
 |some (.dK _)=>True
 |some (.dT _)=>True
 |some (.dU _)=>True
 |some (.set _ _)=>True
 |some (.ins _ _ _)=>True
 |some (.ext _)=>True
 |_=>False
section
variable{P:Program}{w:World}{H:Hp}{h h':Heap}{x e:Addr}{o':HO}
theorem gB.write(ok:gB P w H h)(mu:GO (H x))(he:e=x∨H e=some (.own x))(k:∀b u,b≠e→h.get? b=some u→h'.get? b=some u)(Fh:∃u,h'.get? e=some u)
  (new:bN P w (upd H x o') h' x o'):gB P w (upd H x o') h':=fun b u q=>by
 have NA:∀c y,H c=some (.own y)→c≠x:=fun c y r z=>by subst z;rw[r]at mu;exact mu
 have RH:∀c xs,H c=some (.tup xs)→c≠x:=fun c xs r z=>by subst z;rw[r]at mu;exact mu
 by_cases hb:b=x
 ·subst hb;rw[cS]at q;cases q;exact new
 ·rw[bg hb]at q
  by_cases Cz:b=e
  ·have q':H b=some (.own x):=by
    rcases he with z|z
    ·exact absurd (Cz.trans z) hb
    ·rw[Cz];exact z
   rw[q]at q';cases q'
   obtain⟨v,hv⟩:=Fh
   exact⟨v,by rw[Cz];exact hv⟩
  ·refine(ok b u q).vI (fun c v hc r=>k c v ?_ r) (fun c r=>by rw[bg (NA c b r)];exact r) fun c xs r=>by rw[bg (RH c xs r)];exact r
   rcases hc with rfl|hc
   ·exact Cz
   ·rintro rfl
    rcases he with z|z
    ·exact NA c b hc z
    ·rw[hc]at z;cases z;exact hb rfl
end
structure Un(fs ex:List Addr)(H H':Hp)(h h':Heap):Prop where
 keep:∀b o,h.get? b=some o→H b=none→b∉fs→b∉ex→h'.get? b=some o
 slot:∀b o,h.get? b=some o→H b=none→b∈fs→b∉ex→∃sl,h'.get? b=some { o with slots:=sl }
 free:∀b o,h.get? b=some o→H b=none→b∉ex→H' b=none
 there:∀b o,h.get? b=some o→b∉ex→∃o',h'.get? b=some o'
 tU:∀b xs,H b=some (.tup xs)→H' b=some (.tup xs)
 qI:∀b o u,H b=some (.fP o u)→H' b=some (.fP o u)
 tW:∀b ps,H b=some (.Cy ps)→∃more,H' b=some (.Cy (ps++more))
section
variable{fs U1 ex Yv:List Addr}{H H1 H2:Hp}{h h1 h2 h':Heap}{a x e:Addr}{o:HO}
theorem Un.any(u:Un fs ex H H1 h h1){b:Addr}{ob:Obj}(q:h.get? b=some ob)(n:H b=none)(hx:b∉ex):∃sl,h1.get? b=some { ob with slots:=sl }:=by
 by_cases hb:b∈fs
 ·exact u.slot b ob q n hb hx
 ·exact⟨ob.slots,u.keep b ob q n hb hx⟩
theorem Un.kept(k:∀b u,h.get? b=some u→h'.get? b=some u):Un fs ex H H h h':=
 ⟨fun b ob q _ _ _=>k b ob q,fun b ob q _ _ _=>⟨ob.slots,k b ob q⟩,fun _ _ _ n _=>n,fun b ob q _=>⟨ob,k b ob q⟩,fun _ _ q=>q,fun _ _ _ q=>q,fun _ ps q=>⟨#[],by rw[q];simp⟩⟩
theorem Un.refl:Un fs ex H H h h:=Un.kept fun _ _ q=>q
theorem Un.laid(k:∀b u,h.get? b=some u→h'.get? b=some u)(hp:h.objs.size≤a)(hn:H a=none):Un fs ex H (upd H a o) h h' where
 keep:=fun b u q _ _ _=>k b u q
 slot:=fun b u q _ _ _=>⟨u.slots,k b u q⟩
 free:=fun b u q n _=>by rw[bg (Nat.ne_of_lt (Nat.lt_of_lt_of_le (Heap.lt_size q) hp))];exact n
 there:=fun b u q _=>⟨u,k b u q⟩
 tU:=fun b xs q=>by rw[bg (cY q hn)];exact q
 qI:=fun b u xs q=>by rw[bg (cY q hn)];exact q
 tW:=fun b ps q=>⟨#[],by rw[bg (cY q hn),q];simp⟩
theorem Un.write(mu:GO (H x))(he:e=x∨H e=some (.own x))(k:∀b u,b≠e→h.get? b=some u→h'.get? b=some u)(Fh:∃u,h'.get? e=some u):Un fs ex H (upd H x o) h h':=by
 have hx:∀b,H b=none→b≠x:=fun b n z=>by subst z;rw[n]at mu;exact mu
 have hb:∀b,H b=none→b≠e:=fun b n z=>by
  subst z
  rcases he with r|r
  ·exact hx b n r
  ·rw[n]at r;cases r
 have hm:∀b u,H b=some u→¬GO (some u)→b≠x:=fun b u q nm z=>by subst z;rw[q]at mu;exact nm mu
 refine⟨fun b u q n _ _=>k b u (hb b n) q,fun b u q n _ _=>⟨u.slots,k b u (hb b n) q⟩,fun b u q n _=>by rw[bg (hx b n)];exact n,fun b u q _=>?_,
  fun b xs q=>by rw[bg (hm b _ q fun z=>z)];exact q,fun b u xs q=>by rw[bg (hm b _ q fun z=>z)];exact q,fun b ps q=>⟨#[],by rw[bg (hm b _ q fun z=>z),q];simp⟩⟩
 by_cases Cz:b=e
 ·subst Cz;exact Fh
 ·exact⟨u,k b u Cz q⟩
end
def KH(h:Heap)(H:Hp):List Addr:=(List.range h.objs.size).filter fun a=>(H a).isSome
def qJ(h:Heap)(H:Hp):Heap:=PySem.W.hideAll h (KH h H)
theorem CA(h:Heap)(H:Hp):(qJ h H).objs.size=h.objs.size:=PySem.W.hideAll_size _ _
theorem Fi{h:Heap}{H:Hp}{b:Addr}{o:Obj}(e:h.get? b=some o)(n:H b=none):(qJ h H).get? b=some o:=
 PySem.W.hideAll_get _ e fun hm=>by
  have q:(H b).isSome=true:=(List.mem_filter.mp hm).2
  rw[n]at q;simp at q
theorem GP{h:Heap}{H:Hp}{b:Addr}{o:Obj}(e:(qJ h H).get? b=some o):h.get? b=some o∧H b=none:=by
 have e':h.get? b=some o:=PySem.W.of_hideAll (KH h H) e
 refine⟨e',?_⟩
 cases q:H b with
 |none=>rfl
 |some x=>
  have hm:b∈KH h H:=List.mem_filter.mpr ⟨List.mem_range.mpr (Heap.lt_size e'),by simp[q]⟩
  have z:(qJ h H).get? b=none:=PySem.W.hideAll_none (KH h H) hm
  rw[z]at e;cases e
def GR(g h:Heap)(L:Addr):List (Addr×Obj):=(List.range h.objs.size).filterMap fun a=>if a=L∨(g.get? a).isSome=true then none else(h.get? a).map fun o=>(a,o)
def rest(g h:Heap)(L d:Addr):List (Addr×Obj):=(GR g h L).filter fun p=>decide (p.1≠d)
end L2
namespace L2
open PySem PySem.Spec PyProof.Rows
structure Mod(K:PySem.W.Frag)(mg:Str→Option Value)(base:Heap):Prop where
 Fj:K.In base
 glob:base.Ns mainGlobals mg
 blt:∃mb,base.Ns builtinsNs mb∧∀x:Str,x≠"__name__"→mb x=bootBuiltins x
 nolimit:base.NoLimit
structure Cx where
 prog:Program
 w:World
 K:PySem.W.Frag
 mg:Str→Option Value
 base:Heap
 A:Around
 N:List Str
 bE:Shared
 cQ:Hp
 env:Env
 outer:List Env
 stack:List Env
 ex:List Addr
 fn:Str→Bool
 calm:Bool
 pn:List (Addr×Obj)
 xe:Value→Shared→Prop
def vJ(l:List Env):List Addr:=l.filterMap (·.frame)
abbrev Cx.fs(X:Cx):List Addr:=vJ X.outer
def CB(sc:Scope)(x:Str):Prop:=sc.names.lookup x=some .local∨sc.names.lookup x=some .cell∨sc.names.lookup x=some .free
def Loc(sc:Scope)(x:Str):Prop:=sc.names.lookup x=some .local∨sc.names.lookup x=some .cell
def Look(env:Env)(h:Heap)(m:Str→Option Value)(x:Str)(u:Value):Prop:=
 (env.kindOf x=some .local∧m x=some u)∨((env.kindOf x=some .cell∨env.kindOf x=some .free)∧∃c,env.cells.lookup x=some c∧h.IsCell c (some u))
structure Cx.Ok(X:Cx):Prop where
 mod:Mod X.K X.mg X.base
 kind:X.env.scope.kind= .function
 glob:X.env.globals=mainGlobals
 blt:X.env.builtins=builtinsNs
 above:X.bE.heap.objs.size≤X.env.locals
 inj:∀x y c,X.env.cells.lookup x=some c→X.env.cells.lookup y=some c→x=y
 has:∀x,(X.env.kindOf x=some .cell∨X.env.kindOf x=some .free)→∃c,X.env.cells.lookup x=some c
 GS:∀x c,X.fn x=true→X.env.cells.lookup x=some c→X.bE.heap.objs.size≤c
 hd:X.calm=true→X.A.handled=none
 frames:X.A.frames=some X.stack
 KI:X.stack=X.outer∨(X.stack=X.env::X.outer∧X.env.frame=some X.env.locals)
 KJ:∀b∈X.ex,b≠X.env.locals∧∀x c,X.env.cells.lookup x=some c→c≠b
 bs:∀b o,X.base.get? b=some o→X.bE.heap.get? b=some o∧X.cQ b=none
 AF:X.base.objs.size≤X.bE.heap.objs.size
 AG:∀b o,X.base.get? b=some o→b∉X.ex
 AH:∀b∈X.ex,b∉X.fs
 nN:X.bE.heap.FunFrames X.base X.outer
 Fm:∀b∈X.fs,X.cQ b=none
structure Inv(X:Cx)(pins:List (Addr×Obj))(σ:List (Option V))(H:Hp)(s:Shared):Prop where
 ok:X.Ok
 os:s.os=X.bE.os
 bare:AllBare s.gens
 base:Un X.fs X.ex X.cQ H X.bE.heap s.heap
 loc:∃m,s.heap.Ns X.env.locals m∧∀(i:Nat) (x:Str) (v:V),X.N[i]? =some x→σ[i]? =some (some v)→CB X.env.scope x→∃u,RelV v u∧Look X.env s.heap m x u
 cell:∀x c,X.env.cells.lookup x=some c→∃v,s.heap.IsCell c v
 free:H X.env.locals=none
 lS:∀x c,X.env.cells.lookup x=some c→H c=none
 pin:∀p∈X.pn++pins,s.heap.get? p.1=some p.2∧H p.1=none∧p.1≠X.env.locals∧p.1∉X.fs∧∀v,p.2.data≠.cell v
 bj:gB X.prog X.w H s.heap
 len:σ.length=X.N.length
section
variable{X:Cx}{pins:List (Addr×Obj)}{σ:List (Option V)}{H H':Hp}{s:Shared}{h':Heap}
theorem Cx.Ok.RI(ok:X.Ok){b:Addr}{o:Obj}(e:X.base.get? b=some o):b∉X.fs:=fun hb=>by
 have:=(ok.nN.mem hb).1
 rw[e]at this;cases this
theorem Inv.bs(I:Inv X pins σ H s):∀b o,X.base.get? b=some o→s.heap.get? b=some o∧H b=none:=fun b o e=>
 ⟨I.base.keep b o (I.ok.bs b o e).1 (I.ok.bs b o e).2 (I.ok.RI e) (I.ok.AG b o e),I.base.free b o (I.ok.bs b o e).1 (I.ok.bs b o e).2 (I.ok.AG b o e)⟩
theorem Inv.bk(I:Inv X pins σ H s):∀b o,X.base.get? b=some o→s.heap.get? b=some o:=fun b o e=>(I.bs b o e).1
theorem Inv.mod(I:Inv X pins σ H s):Mod X.K X.mg X.base:=I.ok.mod
theorem Inv.nJ(I:Inv X pins σ H s):X.K.In s.heap:=I.ok.mod.Fj.keeps I.bk
theorem Inv.lt(I:Inv X pins σ H s):X.env.locals<s.heap.objs.size:=let ⟨_,hn,_⟩:=I.loc;hn.lt
theorem Inv.sz(I:Inv X pins σ H s):X.bE.heap.objs.size≤s.heap.objs.size:=Nat.le_trans I.ok.above (Nat.le_of_lt I.lt)
theorem Inv.NB(I:Inv X pins σ H s){a:Addr}(h:s.heap.objs.size≤a):a∉X.fs:=fun hb=>by
 obtain⟨_,o,ho,_⟩:=I.ok.nN.mem hb
 exact absurd (Nat.lt_of_lt_of_le (Heap.lt_size ho) (Nat.le_trans I.sz h)) (Nat.lt_irrefl _)
theorem Inv.CC(I:Inv X pins σ H s):∀x c,X.env.cells.lookup x=some c→c≠X.env.locals:=fun x c e z=>by
 obtain⟨v,o,ho,hd⟩:=I.cell x c e
 obtain⟨m,⟨o',es,ep,CD,CF,_⟩,_⟩:=I.loc
 rw[z,CD]at ho;cases ho;rw[CF]at hd;cases hd
theorem Inv.nN(I:Inv X pins σ H s):s.heap.FunFrames X.base X.outer:=by
 have all:∀(l:List Env),(∀b∈vJ l,b∈X.fs)→X.bE.heap.FunFrames X.base l→s.heap.FunFrames X.base l:=by
  intro l
  induction l with
  |nil=>intro _ _;trivial
  |cons env r ih=>
   intro hs hl
   obtain⟨hk,⟨L,o,hf,hn,ho,hd⟩,hr⟩:=hl
   have hL:L∈X.fs:=hs L (by unfold vJ;rw[List.filterMap_cons,hf];exact List.mem_cons_self)
   obtain⟨sl,e⟩:=I.base.slot L o ho (I.ok.Fm L hL) hL fun z=>I.ok.AH L z hL
   exact⟨hk,⟨L,_,hf,hn,e,hd⟩,ih (fun b hb=>hs b (by unfold vJ;rw[List.filterMap_cons,hf];exact List.mem_cons_of_mem _ hb)) hr⟩
 exact all X.outer (fun _ hb=>hb) I.ok.nN
theorem Inv.stack(I:Inv X pins σ H s):s.heap.FunFrames X.base X.stack:=by
 rcases I.ok.KI with e|⟨e,hf⟩
 ·rw[e];exact I.nN
 ·rw[e]
  obtain⟨m,hn,_⟩:=I.loc
  refine .cons (by rw[I.ok.kind];decide) hf hn ?_ I.nN
  exact Heap.get?_none_of_le (Nat.le_trans I.ok.AF I.ok.above)
theorem Inv.zm(I:Inv X pins σ H s):∀b∈vJ X.stack,b∈X.env.locals::X.fs:=fun b hb=>by
 rcases I.ok.KI with e|⟨e,hf⟩
 ·rw[e]at hb;exact List.mem_cons_of_mem _ hb
 ·rw[e]at hb
  unfold vJ at hb
  rw[List.filterMap_cons,hf]at hb
  exact hb
theorem Inv.AI(I:Inv X pins σ H s):∀b∈vJ X.stack,H b=none:=fun b hb=>by
 rcases List.mem_cons.mp (I.zm b hb)with e|hb
 ·rw[e];exact I.free
 ·obtain⟨_,o,ho,_⟩:=I.ok.nN.mem hb
  exact I.base.free b o ho (I.ok.Fm b hb) fun z=>I.ok.AH b z hb
theorem Inv.step{g':Array GenState}{t':Nat}{d':Drawn}{ch:List Addr}(I:Inv X pins σ H s)
  (iN:∀b∈ch,(b∈X.ex∨X.bE.heap.objs.size≤b)∧b≠X.env.locals∧(∀x c,X.env.cells.lookup x=some c→c≠b)∧∀p∈X.pn++pins,p.1≠b)
  (keep:∀b o,b≠X.env.locals→b∉X.fs→b∉ch→s.heap.get? b=some o→H b=none→h'.get? b=some o)
  (slot:∀b o,b≠X.env.locals→b∈X.fs→b∉ch→s.heap.get? b=some o→H b=none→∃sl,h'.get? b=some { o with slots:=sl })(free:∀b o,b∉ch→s.heap.get? b=some o→H b=none→H' b=none)
  (there:∀b o,b∉ch→s.heap.get? b=some o→∃o',h'.get? b=some o')
  (tU:∀b xs,H b=some (.tup xs)→H' b=some (.tup xs))(qI:∀b o u,H b=some (.fP o u)→H' b=some (.fP o u))(tW:∀b ps,H b=some (.Cy ps)→∃more,H' b=some (.Cy (ps++more)))
  (ns:∀m,s.heap.Ns X.env.locals m→h'.Ns X.env.locals m)(bj:gB X.prog X.w H' h')(hg:AllBare g'):
  Inv X pins σ H' { s with heap:=h',gens:=g',drawn:=d',toks:=t' }:=by
 have RJ:∀b o,X.bE.heap.get? b=some o→b≠X.env.locals:=fun b o e=>Nat.ne_of_lt (Nat.lt_of_lt_of_le (Heap.lt_size e) I.ok.above)
 have KL:∀b o,X.bE.heap.get? b=some o→b∉X.ex→b∉ch:=fun b o e hx hb=>by
  rcases(iN b hb).1 with z|z
  ·exact hx z
  ·exact absurd (Nat.lt_of_lt_of_le (Heap.lt_size e) z) (Nat.lt_irrefl _)
 have cellK:∀x c,X.env.cells.lookup x=some c→∀v,s.heap.IsCell c v→h'.IsCell c v:=by
  rintro x c e v ⟨o,ho,hd⟩
  have GU:c∉ch:=fun z=>(iN c z).2.2.1 x c e rfl
  by_cases hc:c∈X.fs
  ·obtain⟨sl,q⟩:=slot c o (I.CC x c e) hc GU ho (I.lS x c e)
   exact⟨_,q,hd⟩
  ·exact⟨o,keep c o (I.CC x c e) hc GU ho (I.lS x c e),hd⟩
 refine⟨I.ok,I.os,hg,⟨fun b o e n hb hx=>?_,fun b o e n hb hx=>?_,fun b o e n hx=>?_,fun b o e hx=>?_,fun b xs e=>tU b xs (I.base.tU b xs e),fun b o xs e=>qI b o xs (I.base.qI b o xs e),fun b ps e=>?_⟩,?_,fun x c e=>?_,?_,fun x c e=>?_,fun p hp=>?_,bj,I.len⟩
 ·exact keep b o (RJ b o e) hb (KL b o e hx) (I.base.keep b o e n hb hx) (I.base.free b o e n hx)
 ·obtain⟨sl,e1⟩:=I.base.slot b o e n hb hx
  obtain⟨U2,e2⟩:=slot b _ (RJ b o e) hb (KL b o e hx) e1 (I.base.free b o e n hx)
  exact⟨U2,e2⟩
 ·obtain⟨o',e1⟩:=I.base.there b o e hx
  exact free b o' (KL b o e hx) e1 (I.base.free b o e n hx)
 ·obtain⟨o',e1⟩:=I.base.there b o e hx
  exact there b o' (KL b o e hx) e1
 ·obtain⟨m1,e1⟩:=I.base.tW b ps e
  obtain⟨m2,e2⟩:=tW b _ e1
  exact⟨m1++m2,by rw[e2,Array.append_assoc]⟩
 ·obtain⟨m,hn,hl⟩:=I.loc
  refine⟨m,ns m hn,fun i x v e1 e2 e3=>?_⟩
  obtain⟨u,r,l⟩:=hl i x v e1 e2 e3
  refine⟨u,r,?_⟩
  rcases l with l|⟨k,c,e,z⟩
  ·exact .inl l
  ·exact .inr ⟨k,c,e,cellK x c e _ z⟩
 ·obtain⟨v,z⟩:=I.cell x c e
  exact⟨v,cellK x c e v z⟩
 ·obtain⟨m,⟨o,_,_,ho,_⟩,_⟩:=I.loc
  exact free _ o (fun z=>(iN _ z).2.1 rfl) ho I.free
 ·obtain⟨v,o,ho,hd⟩:=I.cell x c e
  exact free c o (fun z=>(iN c z).2.2.1 x c e rfl) ho (I.lS x c e)
 ·obtain⟨e,n,ne,nf,d⟩:=I.pin p hp
  have GU:p.1∉ch:=fun z=>(iN p.1 z).2.2.2 p hp rfl
  exact⟨keep p.1 p.2 ne nf GU e n,free p.1 p.2 GU e n,ne,nf,d⟩
theorem Inv.un{t':Nat}(I:Inv X pins σ H s)(u:Un X.fs [] H H' s.heap h')(bj:gB X.prog X.w H' h'):Inv X pins σ H' { s with heap:=h',toks:=t' }:=by
 obtain⟨m,⟨o,es,ep,ho,r⟩,_⟩:=id I.loc
 obtain⟨sl,hL⟩:=u.any ho I.free (by simp)
 exact I.step (g':=s.gens) (d':=s.drawn) (ch:=[]) (fun _ z=>nomatch z) (fun b o _ hb _ e n=>u.keep b o e n hb (by simp)) (fun b o _ hb _ e n=>u.slot b o e n hb (by simp)) (fun b o _ e n=>u.free b o e n (by simp)) (fun b o _ e=>u.there b o e (by simp)) u.tU u.qI u.tW (fun m' hm=>by
  obtain⟨o',KN,KO,CD,r'⟩:=hm
  rw[ho]at CD;cases CD
  exact⟨_,KN,KO,hL,r'⟩) bj I.bare
theorem Inv.call{g':Array GenState}{t':Nat}{d':Drawn}{ch:List Addr}(I:Inv X pins σ H s)(u:Un (vJ X.stack) ch H H' s.heap h')(bj:gB X.prog X.w H' h')(hg:AllBare g')
  (iN:∀b∈ch,(b∈X.ex∨X.bE.heap.objs.size≤b)∧b≠X.env.locals∧(∀x c,X.env.cells.lookup x=some c→c≠b)∧∀p∈X.pn++pins,p.1≠b):
  Inv X pins σ H' { s with heap:=h',gens:=g',drawn:=d',toks:=t' }:=by
 obtain⟨m,⟨o,es,ep,ho,r⟩,_⟩:=id I.loc
 obtain⟨sl,hL⟩:=u.any ho I.free fun z=>(iN _ z).2.1 rfl
 exact I.step (ch:=ch) iN (fun b o hL hb hc e n=>u.keep b o e n (fun z=>(List.mem_cons.mp (I.zm b z)).elim hL hb) hc) (fun b o _ _ hc e n=>u.any e n hc) (fun b o hc e n=>u.free b o e n hc) (fun b o hc e=>u.there b o e hc) u.tU u.qI u.tW (fun m' hm=>by
  obtain⟨o',KN,KO,CD,r'⟩:=hm
  rw[ho]at CD;cases CD
  exact⟨_,KN,KO,hL,r'⟩) bj hg
theorem Inv.turned{t':Nat}{it:Addr}(I:Inv X pins σ H s)(k:∀b o,b≠it→s.heap.get? b=some o→h'.get? b=some o)(hn:H it=none)(hL:it≠X.env.locals)
  (h1:it∈X.ex∨X.bE.heap.objs.size≤it)(h2:∀x c,X.env.cells.lookup x=some c→c≠it)(h3:∀p∈X.pn++pins,p.1≠it):Inv X pins σ H { s with heap:=h',toks:=t' }:=by
 have RL:∀b u,H b=some u→b≠it:=fun b u e z=>by rw[z,hn]at e;cases e
 refine I.step (g':=s.gens) (d':=s.drawn) (ch:=[it]) (fun b hb=>?_) (fun b o _ _ hc e _=>k b o (fun z=>hc (by simp[z])) e) (fun b o _ _ hc e _=>⟨o.slots,k b o (fun z=>hc (by simp[z])) e⟩) (fun _ _ _ _ n=>n)
  (fun b o hc e=>⟨o,k b o (fun z=>hc (by simp[z])) e⟩) (fun _ _ e=>e) (fun _ _ _ e=>e) (fun b ps e=>⟨#[],by rw[e];simp⟩) (fun m hm=>?_) (fun b u e=>?_) I.bare
 ·have e:b=it:=by simpa using hb
  subst e
  exact⟨h1,hL,h2,h3⟩
 ·obtain⟨o,es,ep,ho,r⟩:=hm
  exact⟨o,es,ep,k _ o (Ne.symm hL) ho,r⟩
 ·refine(I.bj b u e).vI (fun c v hc q=>k c v ?_ q) (fun _ q=>q) fun _ _ q=>q
  rcases hc with z|z
  ·rw[z];exact RL b u e
  ·exact RL c _ z
theorem Inv.tok(I:Inv X pins σ H s)(t:Nat):Inv X pins σ H { s with toks:=t }:=I.un (h':=s.heap) (t':=t) Un.refl I.bj
theorem Inv.kept{t':Nat}(I:Inv X pins σ H s)(k:∀b u,s.heap.get? b=some u→h'.get? b=some u):Inv X pins σ H { s with heap:=h',toks:=t' }:=I.un (Un.kept k) (I.bj.kept k)
theorem Inv.laid{a:Addr}{o:HO}{t':Nat}(I:Inv X pins σ H s)(k:∀b u,s.heap.get? b=some u→h'.get? b=some u)(hp:s.heap.objs.size≤a)(new:bN X.prog X.w (upd H a o) h' a o):
  Inv X pins σ (upd H a o) { s with heap:=h',toks:=t' }:=I.un (Un.laid k hp (I.bj.fresh hp)) (I.bj.laid k hp new)
theorem Inv.write{x e:Addr}{o:HO}{t':Nat}(I:Inv X pins σ H s)(mu:GO (H x))(he:e=x∨H e=some (.own x))(k:∀b u,b≠e→s.heap.get? b=some u→h'.get? b=some u)(Fh:∃u,h'.get? e=some u)
  (new:bN X.prog X.w (upd H x o) h' x o):Inv X pins σ (upd H x o) { s with heap:=h',toks:=t' }:=I.un (Un.write mu he k Fh) (I.bj.write mu he k Fh new)
theorem Inv.vK{GV:List (Addr×Obj)}(I:Inv X pins σ H s)(h:∀p∈GV,s.heap.get? p.1=some p.2∧H p.1=none∧p.1≠X.env.locals∧p.1∉X.fs∧∀v,p.2.data≠.cell v):Inv X GV σ H s:=
 ⟨I.ok,I.os,I.bare,I.base,I.loc,I.cell,I.free,I.lS,fun p hp=>(List.mem_append.mp hp).elim (fun z=>I.pin p (List.mem_append_left _ z)) (h p),I.bj,I.len⟩
theorem yd{N:List Str}(hN:N.Nodup){i j:Nat}{x:Str}(a:N[i]? =some x)(b:N[j]? =some x):i=j:=by
 obtain⟨h1,e1⟩:=List.getElem?_eq_some_iff.mp a
 obtain⟨h2,e2⟩:=List.getElem?_eq_some_iff.mp b
 exact(List.getElem_inj hN).mp (e1.trans e2.symm)
theorem CG{M:Model}{A:Around}{E:Value→Shared→Prop}{i:Nat}{x:Str}{v:V}{u:Value}{Q:Unit→Shared→Prop}(I:Inv X pins σ H s)(hN:X.N.Nodup)(hi:X.N[i]? =some x)(hx:Loc X.env.scope x)(r:RelV v u)
  (h:∀s',Inv X pins (σ.set i (some v)) H s'→(∃a,Heap.SameBut a s.heap s'.heap∧(a=X.env.locals∨X.env.cells.lookup x=some a))→Q () s')(hf:X.fn x=true∨X.env.scope.names.lookup x=some .local:=by first|exact .inl rfl|exact .inr rfl|assumption):wpAny M A (storeName X.env x u) Q E s:=by
 obtain⟨m,hn,hl⟩:=id I.loc
 have RM:(X.env.scope.kind==.class||(X.env.scope.kind==.module&&X.env.locals != X.env.globals))=false:=by rw[I.ok.kind];rfl
 have NC:i<σ.length:=by rw[I.len];exact(List.getElem?_eq_some_iff.mp hi).1
 have CC:=I.CC
 have tracked:∀{a:Addr}{h':Heap},(∃o,s.heap.get? a=some o∧H a=none)→Heap.SameBut a s.heap h'→gB X.prog X.w H h':=fun {a h'} ha hs b ob e=>by
  obtain⟨_,_,sL⟩:=ha
  refine(I.bj b ob e).vI (fun c w' hc q=>(hs.2 c ?_).trans q) (fun _ q=>q) fun _ _ q=>q
  rintro rfl
  rcases hc with rfl|hc
  ·rw[sL]at e;cases e
  ·rw[sL]at hc;cases hc
 rcases hx with hk|hk
 ·refine wpAny_storeName_local hk hn (fun h' U3 hs=>?_) RM
  obtain⟨oL,_,_,U4,_⟩:=id hn
  refine h _ ⟨I.ok,I.os,I.bare,⟨fun b o e n hb hx=>?_,fun b o e n hb hx=>?_,I.base.free,fun b o e hx=>?_,I.base.tU,I.base.qI,I.base.tW⟩,⟨_,U3,fun j y v' e1 e2 e3=>?_⟩,fun y c e=>?_,I.free,I.lS,fun p hp=>?_,tracked ⟨oL,U4,I.free⟩ hs,by simpa using I.len⟩ ⟨_,hs,.inl rfl⟩
  ·exact(hs.2 b (Nat.ne_of_lt (Nat.lt_of_lt_of_le (Heap.lt_size e) I.ok.above))).trans (I.base.keep b o e n hb hx)
  ·obtain⟨sl,e1⟩:=I.base.slot b o e n hb hx
   exact⟨sl,(hs.2 b (Nat.ne_of_lt (Nat.lt_of_lt_of_le (Heap.lt_size e) I.ok.above))).trans e1⟩
  ·obtain⟨o',e1⟩:=I.base.there b o e hx
   exact⟨o',(hs.2 b (Nat.ne_of_lt (Nat.lt_of_lt_of_le (Heap.lt_size e) I.ok.above))).trans e1⟩
  ·by_cases hj:j=i
   ·subst hj
    rw[hi]at e1;cases e1
    rw[List.getElem?_set_self NC]at e2
    cases e2
    exact⟨u,r,.inl ⟨hk,by simp⟩⟩
   ·rw[List.getElem?_set_ne (Ne.symm hj)]at e2
    obtain⟨u',r',q⟩:=hl j y v' e1 e2 e3
    refine⟨u',r',?_⟩
    rcases q with⟨k,e⟩|⟨k,c,e,z⟩
    ·refine .inl ⟨k,?_⟩
     have:y≠x:=fun e=>hj (yd hN e1 (e ▸ hi))
     simp[this,e]
    ·exact .inr ⟨k,c,e,z.sameBut hs (CC y c e)⟩
  ·obtain⟨w',z⟩:=I.cell y c e
   exact⟨w',z.sameBut hs (CC y c e)⟩
  ·obtain⟨e,n,ne,nf,d⟩:=I.pin p hp
   exact⟨(hs.2 p.1 ne).trans e,n,ne,nf,d⟩
 ·have Om:X.fn x=true:=by
   rcases hf with z|z
   ·exact z
   ·rw[z]at hk;cases hk
  obtain⟨c,hc⟩:=I.ok.has x (.inl hk)
  obtain⟨w',z⟩:=I.cell x c hc
  refine wpAny_storeName_cell I.ok.kind hk hc z (fun h' aW hs=>?_)
  obtain⟨oc,KP,RN⟩:=id z
  refine h { s with heap:=h' } ⟨I.ok,I.os,I.bare,⟨fun b o e n hb hx=>?_,fun b o e n hb hx=>?_,I.base.free,fun b o e hx=>?_,I.base.tU,I.base.qI,I.base.tW⟩,⟨m,hn.sameBut hs (Ne.symm (CC x c hc)),fun j y v' e1 e2 e3=>?_⟩,fun y c' e=>?_,I.free,I.lS,fun p hp=>?_,tracked ⟨oc,KP,I.lS x c hc⟩ hs,by simpa using I.len⟩ ⟨c,hs,.inr hc⟩
  ·exact(hs.2 b (Nat.ne_of_lt (Nat.lt_of_lt_of_le (Heap.lt_size e) (I.ok.GS x c Om hc)))).trans (I.base.keep b o e n hb hx)
  ·obtain⟨sl,e1⟩:=I.base.slot b o e n hb hx
   exact⟨sl,(hs.2 b (Nat.ne_of_lt (Nat.lt_of_lt_of_le (Heap.lt_size e) (I.ok.GS x c Om hc)))).trans e1⟩
  ·obtain⟨o',e1⟩:=I.base.there b o e hx
   exact⟨o',(hs.2 b (Nat.ne_of_lt (Nat.lt_of_lt_of_le (Heap.lt_size e) (I.ok.GS x c Om hc)))).trans e1⟩
  ·by_cases hj:j=i
   ·subst hj
    rw[hi]at e1;cases e1
    rw[List.getElem?_set_self NC]at e2
    cases e2
    exact⟨u,r,.inr ⟨.inl hk,c,hc,aW⟩⟩
   ·rw[List.getElem?_set_ne (Ne.symm hj)]at e2
    obtain⟨u',r',q⟩:=hl j y v' e1 e2 e3
    refine⟨u',r',?_⟩
    rcases q with q|⟨k,c',e,z'⟩
    ·exact .inl q
    ·refine .inr ⟨k,c',e,z'.sameBut hs ?_⟩
     rintro rfl
     exact hj (yd hN e1 (I.ok.inj _ _ _ e hc ▸ hi))
  ·by_cases RO:c'=c
   ·subst RO;exact⟨_,aW⟩
   ·obtain⟨w2,z2⟩:=I.cell y c' e
    exact⟨w2,z2.sameBut hs RO⟩
  ·obtain⟨e,n,ne,nf,d⟩:=I.pin p hp
   refine⟨(hs.2 p.1 ?_).trans e,n,ne,nf,d⟩
   intro q
   rw[q,KP]at e
   have q':oc=p.2:=Option.some.inj e
   exact d w' (by rw[←q'];exact RN)
theorem oM{M:Model}{A:Around}{E:Value→Shared→Prop}{i:Nat}{x:Str}{v:V}{u:Value}{Q:Unit→Shared→Prop}(I:Inv X pins σ H s)(hN:X.N.Nodup)(hi:X.N[i]? =some x)(hx:Loc X.env.scope x)(r:RelV v u)
  (h:∀s',Inv X pins (σ.set i (some v)) H s'→Q () s')(hf:X.fn x=true∨X.env.scope.names.lookup x=some .local:=by first|exact .inl rfl|exact .inr rfl|assumption):wpAny M A (storeName X.env x u) Q E s:=
 CG I hN hi hx r (fun s' I' _=>h s' I') hf
theorem Inv.Oo{s':Shared}{ch:List Addr}(I:Inv X pins σ H s)(ho:s'.os=s.os)(u:Un (vJ X.stack) ch H H' s.heap s'.heap)(bj:gB X.prog X.w H' s'.heap)(hg:AllBare s'.gens)
  (iN:∀b∈ch,(b∈X.ex∨X.bE.heap.objs.size≤b)∧b≠X.env.locals∧(∀x c,X.env.cells.lookup x=some c→c≠b)∧∀p∈X.pn++pins,p.1≠b):Inv X pins σ H' s':=by
 obtain⟨h',g',d',t',o'⟩:=s'
 have e:o'=s.os:=ho
 subst e
 exact I.call (g':=g') (t':=t') (d':=d') u bj hg iN
end
abbrev XK:=Value→Option Addr→Hp→Prop
abbrev St:=List (Option V)
abbrev VK:=V→Hp→Prop
abbrev TE:=St→Hp→VK→Prop
abbrev TT:=St→Hp→(Bool→Hp→Prop)→Prop
abbrev TA:=St→Hp→(List V→Hp→Prop)→Prop
structure Ends where
 nx:St→Hp→Prop
 rt:VK
 bk:St→Hp→Prop:=fun _ _=>False
 ct:St→Hp→Prop:=fun _ _=>False
abbrev TS:=Ends→St→Hp→Prop
def EP(X:Cx)(pins:List (Addr×Obj))(σ:St)(Q:VK)(u:Value)(s':Shared):Prop:=∃v H',Inv X pins σ H' s'∧RelV v u∧Q v H'
def TP(X:Cx)(pins:List (Addr×Obj))(σ:St)(Q:Bool→Hp→Prop)(b:Bool)(s':Shared):Prop:=∃H',Inv X pins σ H' s'∧Q b H'
def AP(X:Cx)(pins:List (Addr×Obj))(σ:St)(Q:List V→Hp→Prop)(us:List Value)(s':Shared):Prop:=∃vs H',Inv X pins σ H' s'∧Vals vs us∧Q vs H'
def SP(X:Cx)(pins:List (Addr×Obj))(D:Ends)(f:Flow)(s':Shared):Prop:=
 match f with
 |.next=>∃σ' H',Inv X pins σ' H' s'∧D.nx σ' H'
 |.brk=>∃σ' H',Inv X pins σ' H' s'∧D.bk σ' H'
 |.cont=>∃σ' H',Inv X pins σ' H' s'∧D.ct σ' H'
 |.ret u=>∃v σ' H',Inv X pins σ' H' s'∧RelV v u∧D.rt v H'
namespace Zu
set_option allowUnsafeReducibility true in
@[scoped irreducible] def _root_.L2.PE(X:Cx)(e:Expr)(t:TE):Prop:=
 ∀(pins:List (Addr×Obj)) (s:Shared) (σ:St) (H:Hp) (Q:VK),Inv X pins σ H s→t σ H Q→wpAny (model X.prog X.w) X.A (eval e X.env) (EP X pins σ Q) X.xe s
end Zu
namespace Zu
set_option allowUnsafeReducibility true in
@[scoped irreducible] def _root_.L2.PT(X:Cx)(e:Expr)(t:TT):Prop:=
 ∀(pins:List (Addr×Obj)) (s:Shared) (σ:St) (H:Hp) (Q:Bool→Hp→Prop),Inv X pins σ H s→t σ H Q→wpAny (model X.prog X.w) X.A (isTrue e X.env (eval e X.env)) (TP X pins σ Q) X.xe s
end Zu
namespace Zu
set_option allowUnsafeReducibility true in
@[scoped irreducible] def _root_.L2.PW(X:Cx)(e:Expr)(t:TT):Prop:=
 ∀(whole:Sem Value) (pins:List (Addr×Obj)) (s:Shared) (σ:St) (H:Hp) (Q:Bool→Hp→Prop),Inv X pins σ H s→t σ H Q→wpAny (model X.prog X.w) X.A (isTrue e X.env whole) (TP X pins σ Q) X.xe s
end Zu
theorem PW.pt{X:Cx}{e:Expr}{t:TT}(h:PW X e t):PT X e t:=h _
namespace Zu
set_option allowUnsafeReducibility true in
@[scoped irreducible] def _root_.L2.PA(X:Cx)(es:List Expr)(t:TA):Prop:=
 ∀(pos:Pos) (pins:List (Addr×Obj)) (s:Shared) (σ:St) (H:Hp) (Q:List V→Hp→Prop),Inv X pins σ H s→t σ H Q→wpAny (model X.prog X.w) X.A (spliced (backTo pos (starEach es X.env))) (AP X pins σ Q) X.xe s
end Zu
namespace Zu
set_option allowUnsafeReducibility true in
@[scoped irreducible] def _root_.L2.PS(X:Cx)(st:Stmt)(t:TS):Prop:=
 ∀(pins:List (Addr×Obj)) (s:Shared) (σ:St) (H:Hp) (D:Ends),Inv X pins σ H s→t D σ H→wpAny (model X.prog X.w) X.A (exec st X.env) (SP X pins D) X.xe s
end Zu
namespace Zu
set_option allowUnsafeReducibility true in
@[scoped irreducible] def _root_.L2.nK(X:Cx)(st:List Stmt)(t:TS):Prop:=
 ∀(pins:List (Addr×Obj)) (s:Shared) (σ:St) (H:Hp) (D:Ends),Inv X pins σ H s→t D σ H→wpAny (model X.prog X.w) X.A (execs st X.env) (SP X pins D) X.xe s
end Zu
theorem bL{α:Type}{t:Sem α}{Q Q':α→Shared→Prop}{M:Model}{A:Around}{E:Value→Shared→Prop}{s:Shared}(h:wpAny M A t Q E s)(hQ:∀a s,Q a s→Q' a s):wpAny M A t Q' E s:=wpAny_mono h hQ fun _ _ x=>x
end L2
namespace L2
open PySem PySem.Spec PyProof.Rows
section
variable{X:Cx}
theorem bin{a b:Expr}{ta tb:TE}(ha:PE X a ta)(hb:PE X b tb){pins:List (Addr×Obj)}{s:Shared}{σ:St}{H:Hp}{R:V→V→Hp→Prop}(I:Inv X pins σ H s)(h:ta σ H fun x H1=>tb σ H1 fun y H2=>R x y H2)
  {α:Type}{Q:α→Shared→Prop}{f:Value→Value→Sem α}
  (hf:∀v u s2 x y H2,Inv X pins σ H2 s2→RelV x v→RelV y u→R x y H2→wpAny (model X.prog X.w) X.A (f v u) Q X.xe s2):
  wpAny (model X.prog X.w) X.A (eval a X.env) (fun v bJ=>wpAny (model X.prog X.w) X.A (eval b X.env) (fun u lZ=>wpAny (model X.prog X.w) X.A (f v u) Q X.xe lZ) X.xe bJ) X.xe s:=by
 refine bL (ha pins s σ H _ I h) fun v s1 ⟨x,H1,I1,r1,q1⟩=>?_
 refine bL (hb pins s1 σ H1 _ I1 q1) fun u s2 ⟨y,H2,I2,r2,q2⟩=>?_
 exact hf v u s2 x y H2 I2 r1 r2 q2
def GW(i:Nat):TE:=fun σ H Q=>∃v,σ[i]? =some (some v)∧Q v H
def tC(v:V):TE:=fun _ H Q=>Q v H
theorem KQ{i:Nat}{x:Str}{pos:Pos}(hN:X.N[i]? =some x)(hv:CB X.env.scope x)(hd:(x==("__debug__":Str))=false:=by decide)(sM:(x==("__classdict__":Str))=false:=by decide):PE X (.Name x pos) (GW i):=by
 intro pins s σ H Q I h
 obtain⟨v,e,h⟩:=h
 obtain⟨m,hn,hl⟩:=I.loc
 obtain⟨u,r,l⟩:=hl i x v hN e hv
 have fin:EP X pins σ Q u s:=⟨v,H,I,r,h⟩
 rcases l with⟨hk,hm⟩|⟨hk,c,hc,zo⟩
 ·exact wpAny_Name (wpAny_loadName_local I.ok.kind hk hn hm fin) hd
 ·rcases hk with hk|hk
  ·exact wpAny_Name (wpAny_loadName_cell I.ok.kind hk hc zo fin) hd
  ·exact wpAny_Name (wpAny_loadName_free I.ok.kind hk hc zo fin sM) hd
theorem KR{i j pos}:PE X (.Constant (.int i) j pos) (tC (.int i)):=fun _ _ _ H _ I h=>wpAny_Constant_int ⟨.int i,H,I.tok _,⟨_,rfl⟩,h⟩
theorem Oq{b j pos}:PE X (.Constant (.bool b) j pos) (tC (.bl b)):=fun _ _ _ H _ I h=>Constant_bool ⟨.bl b,H,I,rfl,h⟩
theorem KS{j pos}:PE X (.Constant .none j pos) (tC .bG):=fun _ _ _ H _ I h=>Constant_none ⟨.bG,H,I,rfl,h⟩
theorem KW{x j pos}:PE X (.Constant (.str x) j pos) (tC (.str x)):=fun _ _ _ H _ I h=>Calls.Constant_str ⟨.str x,H,I.tok _,⟨_,rfl⟩,h⟩
def Gl(X:Cx)(x:Str):Prop:=X.env.kindOf x=some .globalImplicit
theorem AJ{E:Value→Shared→Prop}{pins:List (Addr×Obj)}{s:Shared}{σ:St}{H:Hp}{x:Str}{u:Value}{pos:Pos}{Q:Value→Shared→Prop}(I:Inv X pins σ H s)(hg:Gl X x)(hm:X.mg x=some u)(h:Q u s)
  (hd:(x==("__debug__":Str))=false:=by decide):wpAny (model X.prog X.w) X.A (eval (.Name x pos) X.env) Q E s:=
 Calls.Name_function_global I.ok.kind hg (Calls.loadGlobal_global (by rw[I.ok.glob];exact I.mod.glob.keeps I.bk) hm h) hd
theorem gi{E:Value→Shared→Prop}{pins:List (Addr×Obj)}{s:Shared}{σ:St}{H:Hp}{x:Str}{u:Value}{pos:Pos}{Q:Value→Shared→Prop}(I:Inv X pins σ H s)(hg:Gl X x)(hm:X.mg x=none)(hv:bootBuiltins x=some u)(h:Q u s)
  (hn:x≠"__name__":=by decide)(hd:(x==("__debug__":Str))=false:=by decide):wpAny (model X.prog X.w) X.A (eval (.Name x pos) X.env) Q E s:=by
 obtain⟨mb,h1,h2⟩:=I.mod.blt
 exact Calls.Name_function_global I.ok.kind hg (Calls.loadGlobal_builtin (by rw[I.ok.glob];exact I.mod.glob.keeps I.bk) hm (by rw[I.ok.blt];exact h1.keeps I.bk) ((h2 x hn).trans hv) h) hd
theorem GX{x:Str}{v:V}{u:Value}{pos:Pos}(hg:Gl X x)(hm:X.mg x=some u)(r:RelV v u)(hd:(x==("__debug__":Str))=false:=by decide):PE X (.Name x pos) (tC v):=
 fun _ _ _ H _ I h=>AJ I hg hm ⟨v,H,I,r,h⟩ hd
theorem nO{x:Str}{v:V}{u:Value}{pos:Pos}(hg:Gl X x)(hm:X.mg x=none)(hv:bootBuiltins x=some u)(r:RelV v u)(hn:x≠"__name__":=by decide)(hd:(x==("__debug__":Str))=false:=by decide):PE X (.Name x pos) (tC v):=
 fun _ _ _ H _ I h=>gi I hg hm hv ⟨v,H,I,r,h⟩ hn hd
variable{a b:Expr}{ta tb:TE}{pos:Pos}
def PC(X:Cx)(op:CmpOp)(a b:Expr)(t:TE):Prop:=
 ∀(pins:List (Addr×Obj)) (s:Shared) (σ:St) (H:Hp) (Q:VK),Inv X pins σ H s→t σ H Q→
  wpAny (model X.prog X.w) X.A (eval a X.env) (fun v bJ=>wpAny (model X.prog X.w) X.A (eval b X.env) (fun u lZ=>wpAny (model X.prog X.w) X.A (compareOp op v u) (EP X pins σ Q) X.xe lZ) X.xe bJ) X.xe s
theorem Fn(b:Expr){op:CmpOp}(h:op≠.In)(h2:op≠.NotIn):behindInMarks op b=false:=by
 have e1:(op==CmpOp.In)=false:=by cases op<;>first|rfl|exact absurd rfl h
 have e2:(op==CmpOp.NotIn)=false:=by cases op<;>first|rfl|exact absurd rfl h2
 cases b<;>simp[behindInMarks,e1,e2]
def tB(t:TE):TT:=fun σ H Q=>t σ H fun x H1=>∃c,x= .bl c∧Q c H1
theorem UQ{op:CmpOp}{t:TE}(h:PC X op a b t)(h1:behindInMarks op b=false:=by first|exact Fn _ (by decide) (by decide)|rfl):PT X (.Compare a [op] [b] pos) (tB t):=by
 intro pins s σ H Q I hw
 refine wpAny_isTrue_Compare1 (bL (h pins s σ H _ I hw) fun v s1 h1=>bL h1 fun u s2 h2=>bL h2 fun c s3 ⟨x,H1,I1,r1,q1⟩=>?_) h1
 obtain⟨d,rfl,q⟩:=q1
 cases r1
 exact wpAny_truthy_bool ⟨H1,I1,q⟩
theorem KY{e:Expr}{t:TE}(h:PE X e t)(he:∀whole,isTrue e X.env whole=(do let v ←whole;standAt e.pos;holding [v] (truthy v)):=by intro _;rfl):PT X e (tB t):=by
 intro pins s σ H Q I hw
 refine isTrue_plain (bL (h pins s σ H _ I hw) fun v s1 ⟨x,H1,I1,r1,q1⟩=>?_) (he _)
 obtain⟨d,rfl,q⟩:=q1
 cases r1
 exact wpAny_truthy_bool ⟨H1,I1,q⟩
variable{tA KZ:TT}{rest:List Expr}
def jL(t u:TT):TT:=fun σ H Q=>t σ H fun c H1=>if c=true then u σ H1 Q else Q false H1
def lT(t u:TT):TT:=fun σ H Q=>t σ H fun c H1=>if c=true then Q true H1 else u σ H1 Q
def fE(t:TT):TT:=fun σ H Q=>t σ H fun c H1=>Q (!c) H1
theorem GY(ha:PT X a tA):PW X (.BoolOp .And [a] pos) tA:=by
 intro wh pins s σ H Q I h
 refine isTrue_and (bL (ha pins s σ H Q I h) fun c s1 e=>?_)
 cases c with
 |true=>exact isTrue_and_nil e
 |false=>exact e
theorem K4(ha:PT X a tA):PW X (.BoolOp .Or [a] pos) tA:=by
 intro wh pins s σ H Q I h
 refine isTrue_or (bL (ha pins s σ H Q I h) fun c s1 e=>?_)
 cases c with
 |false=>exact isTrue_or_nil e
 |true=>exact e
theorem K5(ha:PT X a tA)(hb:PW X (.BoolOp .And (b::rest) pos) KZ):PW X (.BoolOp .And (a::b::rest) pos) (jL tA KZ):=by
 intro wh pins s σ H Q I h
 refine isTrue_and (bL (ha pins s σ H _ I h) fun c s1 ⟨H1,I1,q1⟩=>?_)
 cases c with
 |true=>exact hb wh pins s1 σ H1 Q I1 q1
 |false=>exact⟨H1,I1,q1⟩
theorem Ot(ha:PT X a tA)(hb:PW X (.BoolOp .Or (b::rest) pos) KZ):PW X (.BoolOp .Or (a::b::rest) pos) (lT tA KZ):=by
 intro wh pins s σ H Q I h
 refine isTrue_or (bL (ha pins s σ H _ I h) fun c s1 ⟨H1,I1,q1⟩=>?_)
 cases c with
 |true=>exact⟨H1,I1,q1⟩
 |false=>exact hb wh pins s1 σ H1 Q I1 q1
theorem K6(ha:PT X a tA):PT X (.UnaryOp .Not a pos) (fE tA):=by
 intro pins s σ H Q I h
 exact isTrue_not (ha pins s σ H (fun c H1=>Q (!c) H1) I h)
def Ou(ta tb:TE):TE:=fun σ H Q=>ta σ H fun x H1=>∃c,x= .bl c∧if c=true then tb σ H1 Q else Q (.bl false) H1
def RP(ta tb:TE):TE:=fun σ H Q=>ta σ H fun x H1=>∃c,x= .bl c∧if c=true then Q (.bl true) H1 else tb σ H1 Q
def Ov(ta:TE):TE:=fun σ H Q=>ta σ H fun x H1=>∃c,x= .bl c∧Q (.bl (!c)) H1
theorem K7{op}{t:TE}(h:PE X a t):PE X (.BoolOp op [a] pos) t:=fun pins s σ H Q I hw=>BoolOp_one (h pins s σ H Q I hw)
theorem K8(ha:PE X a ta)(hb:PE X (.BoolOp .And (b::rest) pos) tb):PE X (.BoolOp .And (a::b::rest) pos) (Ou ta tb):=by
 intro pins s σ H Q I h
 refine BoolOp_and (bL (ha pins s σ H _ I h) fun v s1 ⟨x,H1,I1,r1,q1⟩=>?_)
 obtain⟨c,rfl,q1⟩:=q1
 cases r1
 refine wpAny_truthy_bool ?_
 cases c with
 |true=>exact hb pins s1 σ H1 Q I1 q1
 |false=>exact⟨.bl false,H1,I1,rfl,q1⟩
theorem Ow(ha:PE X a ta)(hb:PE X (.BoolOp .Or (b::rest) pos) tb):PE X (.BoolOp .Or (a::b::rest) pos) (RP ta tb):=by
 intro pins s σ H Q I h
 refine BoolOp_or (bL (ha pins s σ H _ I h) fun v s1 ⟨x,H1,I1,r1,q1⟩=>?_)
 obtain⟨c,rfl,q1⟩:=q1
 cases r1
 refine wpAny_truthy_bool ?_
 cases c with
 |false=>exact hb pins s1 σ H1 Q I1 q1
 |true=>exact⟨.bl true,H1,I1,rfl,q1⟩
theorem K9(ha:PE X a ta):PE X (.UnaryOp .Not a pos) (Ov ta):=by
 intro pins s σ H Q I h
 refine UnaryOp_ (bL (ha pins s σ H _ I h) fun v s1 ⟨x,H1,I1,r1,q1⟩=>?_)
 obtain⟨c,rfl,q1⟩:=q1
 cases r1
 exact not_of (wpAny_truthy_bool ⟨.bl (!c),H1,I1,rfl,q1⟩)
def U5(t:TT)(ta tb:TE):TE:=fun σ H Q=>t σ H fun c H1=>if c=true then ta σ H1 Q else tb σ H1 Q
theorem Fo{c:Expr}(hc:PT X c tA)(ha:PE X a ta)(hb:PE X b tb):PE X (.IfExp c a b pos) (U5 tA ta tb):=by
 intro pins s σ H Q I h
 refine wpAny_IfExp (bL (hc pins s σ H _ I h) fun d s1 ⟨H1,I1,q1⟩=>?_)
 cases d with
 |true=>exact ha pins s1 σ H1 Q I1 q1
 |false=>exact hb pins s1 σ H1 Q I1 q1
end
end L2
namespace L2
open PySem PySem.Spec PyProof.Rows
def bU(K:PySem.W.Frag)(H:Hp)(a:Addr)(xs:List V):Prop:=
 Rd H a (.lst xs)∨
  ∃(o:Obj) (its:Array Value) (n:Nat),K.lookup a=some o∧o.cls= .type "list"∧o.dict=none∧o.data= .seq its n∧its.size≤sizeLine∧Vals xs its.toList
def cN(K:PySem.W.Frag)(H:Hp)(a:Addr)(xs:List V):Prop:=
 Rd H a (.tup xs)∨
  ∃(o:Obj) (its:Array Value) (n:Nat),K.lookup a=some o∧o.cls= .type "tuple"∧o.data= .seq its n∧its.size≤sizeLine∧Vals xs its.toList
def RQ:Value→Option V
 |.none=>some .bG
 |.bool b=>some (.bl b)
 |.int i _=>some (.int i)
 |.str x _=>some (.str x)
 |.bytes b _=>some (.vG b)
 |.float b _=>some (.Fg b)
 |.ref a=>some (.ref a)
 |.type n=>some (.ty n)
 |_=>none
theorem RelV.abs{x:V}{u:Value}(r:RelV x u):RQ u=some x:=by
 cases x with
 |bG=>cases r;rfl
 |bl _=>cases r;rfl
 |int _=>obtain⟨t,rfl⟩:=r;rfl
 |str _=>obtain⟨t,rfl⟩:=r;rfl
 |vG _=>obtain⟨t,rfl⟩:=r;rfl
 |Fg _=>obtain⟨t,rfl⟩:=r;rfl
 |ref _=>cases r;rfl
 |ty _=>cases r;rfl
theorem RelV.inj{x y:V}{u:Value}(r:RelV x u)(q:RelV y u):x=y:=Option.some.inj (r.abs.symm.trans q.abs)
theorem Vals.inj:∀{xs ys:List V}{us:List Value},Vals xs us→Vals ys us→xs=ys
 |_,_,_,.nil,.nil=>rfl
 |_,_,_,.cons r t,.cons r' t'=>by rw[r.inj r',Vals.inj t t']
section
variable{X:Cx}{pins:List (Addr×Obj)}{σ:St}{H:Hp}{s:Shared}{a:Addr}{xs ys:List V}
theorem bU.of{K:PySem.W.Frag}(h:H a=some (.lst xs)):bU K H a xs:=.inl (.inl h)
theorem cN.of{K:PySem.W.Frag}(h:H a=some (.tup xs)):cN K H a xs:=.inl (.inl h)
theorem Inv.list(I:Inv X pins σ H s)(h:bU X.K H a xs):∃its:List Value,Vals xs its∧PlainL s.heap a its.toArray∧xs.length≤sizeLine:=by
 rcases h with h|⟨o,its,n,hk,hc,hd,hs,hz,r⟩
 ·obtain⟨z,its,n,r,e⟩:=h.ok I.bj
  exact⟨its,r,⟨_,n,e,rfl,rfl,rfl⟩,z⟩
 ·refine⟨its.toList,r,⟨o,n,I.nJ a o hk,hc,hd,by simpa using hs⟩,?_⟩
  have e:=r.length
  simp only[Array.length_toList]at e
  omega
theorem Inv.tuple(I:Inv X pins σ H s)(h:cN X.K H a xs):∃its:List Value,Vals xs its∧IsTup s.heap a its.toArray∧xs.length≤sizeLine:=by
 rcases h with h|⟨o,its,n,hk,hc,hs,hz,r⟩
 ·obtain⟨z,its,r,p⟩:=h.ok I.bj
  exact⟨its,r,p,z⟩
 ·refine⟨its.toList,r,⟨o,I.nJ a o hk,hc,n,by simpa using hs⟩,?_⟩
  have e:=r.length
  simp only[Array.length_toList]at e
  omega
theorem Inv.iO(I:Inv X pins σ H s)(h:bU X.K H a xs)(h':bU X.K H a ys):xs=ys:=by
 obtain⟨its,r,⟨o,n,e,_,_,d⟩,_⟩:=I.list h
 obtain⟨its',r',⟨o',n',e',_,_,d'⟩,_⟩:=I.list h'
 rw[e]at e';cases e'
 rw[d]at d'
 injection d' with d1 _
 have:its=its':=by simpa using congrArg Array.toList d1
 subst this
 exact r.inj r'
theorem Inv.qh(I:Inv X pins σ H s)(h:cN X.K H a xs)(h':cN X.K H a ys):xs=ys:=by
 obtain⟨its,r,⟨o,e,_,n,d⟩,_⟩:=I.tuple h
 obtain⟨its',r',⟨o',e',_,n',d'⟩,_⟩:=I.tuple h'
 rw[e]at e';cases e'
 rw[d]at d'
 injection d' with d1 _
 have:its=its':=by simpa using congrArg Array.toList d1
 subst this
 exact r.inj r'
end
abbrev Cx.pM(X:Cx)(E:Value→Shared→Prop):Cx:={ X with xe:=E }
abbrev Cx.AK(X:Cx):Cx:=X.pM fun _ _=>False
theorem Cx.Ok.pM{X:Cx}(ok:X.Ok)(E:Value→Shared→Prop):(X.pM E).Ok:=
 ⟨ok.mod,ok.kind,ok.glob,ok.blt,ok.above,ok.inj,ok.has,ok.GS,ok.hd,ok.frames,ok.KI,ok.KJ,ok.bs,ok.AF,ok.AG,ok.AH,ok.nN,ok.Fm⟩
theorem Cx.Ok.kW{X:Cx}{E:Value→Shared→Prop}(ok:(X.pM E).Ok):X.Ok:=
 ⟨ok.mod,ok.kind,ok.glob,ok.blt,ok.above,ok.inj,ok.has,ok.GS,ok.hd,ok.frames,ok.KI,ok.KJ,ok.bs,ok.AF,ok.AG,ok.AH,ok.nN,ok.Fm⟩
section
variable{X:Cx}{pins:List (Addr×Obj)}{σ:St}{H:Hp}{s:Shared}{E:Value→Shared→Prop}
theorem Inv.pM(I:Inv X pins σ H s)(E:Value→Shared→Prop):Inv (X.pM E) pins σ H s:=⟨I.ok.pM E,I.os,I.bare,I.base,I.loc,I.cell,I.free,I.lS,I.pin,I.bj,I.len⟩
theorem Inv.kW(I:Inv (X.pM E) pins σ H s):Inv X pins σ H s:=⟨I.ok.kW,I.os,I.bare,I.base,I.loc,I.cell,I.free,I.lS,I.pin,I.bj,I.len⟩
theorem SP.kW{D:Ends}{f:Flow}{s':Shared}(h:SP (X.pM E) pins D f s'):SP X pins D f s':=by
 cases f with
 |next=>obtain⟨σ',H',I,q⟩:=h;exact⟨σ',H',I.kW,q⟩
 |brk=>obtain⟨σ',H',I,q⟩:=h;exact⟨σ',H',I.kW,q⟩
 |cont=>obtain⟨σ',H',I,q⟩:=h;exact⟨σ',H',I.kW,q⟩
 |ret u=>obtain⟨v,σ',H',I,r,q⟩:=h;exact⟨v,σ',H',I.kW,r,q⟩
theorem nK.AK{st:List Stmt}{t:TS}(h:nK X.AK st t):nK X st t:=fun pins s σ H D I hw=>
 wpAny_mono (h pins s σ H D (I.pM _) hw) (fun _ _ q=>q.kW) fun _ _ z=>False.elim z
end
section
variable{X:Cx}{st:Stmt}{rest:List Stmt}{t u:TS}{e:Expr}{te:TE}{pos:Pos}
def Ox:TS:=fun D σ H=>D.nx σ H
def RT(t u:TS):TS:=fun D σ H=>t { D with nx:=u D } σ H
theorem GZ:nK X [] Ox:=fun _ _ σ H _ I h=>wpAny_execs_nil ⟨σ,H,I,h⟩
theorem Fp(h1:PS X st t)(h2:nK X rest u):nK X (st::rest) (RT t u):=by
 intro pins s σ H D I h
 refine wpAny_execs_cons (bL (h1 pins s σ H { D with nx:=u D } I h) fun f s1 q=>?_)
 cases f with
 |next=>
  obtain⟨σ',H',I',q⟩:=q
  exact h2 pins s1 σ' H' D I' q
 |ret v=>exact q
 |brk=>exact q
 |cont=>exact q
theorem G0(h1:PS X st t):nK X [st] t:=by
 intro pins s σ H D I h
 refine wpAny_execs_cons (bL (h1 pins s σ H D I h) fun f s1 q=>?_)
 cases f with
 |next=>exact wpAny_execs_nil q
 |ret v=>exact q
 |brk=>exact q
 |cont=>exact q
theorem Inv.quiet{pins:List (Addr×Obj)}{σ:St}{H:Hp}{s:Shared}(I:Inv X pins σ H s):interactive X.env=false:=by simp[interactive,I.ok.kind]
def Oy(te:TE):TS:=fun D σ H=>te σ H fun _ H1=>D.nx σ H1
theorem G3(he:PE X e te)(hs:swapsWith e none pos.line X.env=pure false:=by rfl):PS X (.Expr e pos) (Oy te):=by
 intro pins s σ H D I h
 exact wpAny_Expr_any (bL (he pins s σ H _ I h) fun v s1 ⟨x,H1,I1,r1,q1⟩=>⟨σ,H1,I1,q1⟩) I.quiet hs
def RU(te:TE):TS:=fun D σ H=>te σ H D.rt
theorem K_(he:PE X e te):PS X (.Return (some e) pos) (RU te):=by
 intro pins s σ H D I h
 exact wpAny_Return_some (bL (he pins s σ H _ I h) fun v s1 ⟨x,H1,I1,r1,q1⟩=>⟨x,σ,H1,I1,r1,q1⟩)
def RV(c:TT)(t u:TS):TS:=fun D σ H=>c σ H fun b H1=>if b=true then t D σ H1 else u D σ H1
theorem Oz{c:Expr}{a b:List Stmt}{tc:TT}(hc:PT X c tc)(ha:nK X a t)(hb:nK X b u):PS X (.If c a b pos) (RV tc t u):=by
 intro pins s σ H D I h
 refine wpAny_If (bL (hc pins s σ H _ I h) fun d s1 ⟨H1,I1,q1⟩=>?_)
 cases d with
 |true=>exact ha pins s1 σ H1 D I1 q1
 |false=>exact hb pins s1 σ H1 D I1 q1
end
abbrev TG:=V→St→Hp→(St→Hp→Prop)→Prop
abbrev zp:=List V→St→Hp→(St→Hp→Prop)→Prop
namespace Zu
set_option allowUnsafeReducibility true in
@[scoped irreducible] def _root_.L2.PG(X:Cx)(target:Expr)(t:TG):Prop:=
 ∀(pins:List (Addr×Obj)) (s:Shared) (σ:St) (H:Hp) (v:V) (u:Value) (Q:St→Hp→Prop),Inv X pins σ H s→RelV v u→t v σ H Q→
  wpAny (model X.prog X.w) X.A (assign target X.env u) (fun _ s'=>∃σ' H',Inv X pins σ' H' s'∧Q σ' H') X.xe s
end Zu
namespace Zu
set_option allowUnsafeReducibility true in
@[scoped irreducible] def _root_.L2.AL(X:Cx)(ts:List Expr)(t:zp):Prop:=
 ∀(pins:List (Addr×Obj)) (s:Shared) (σ:St) (H:Hp) (vs:List V) (us:List Value) (Q:St→Hp→Prop),Inv X pins σ H s→Vals vs us→t vs σ H Q→
  wpAny (model X.prog X.w) X.A (assignInOrder ((assignEach ts X.env).map (·.2)) us) (fun _ s'=>∃σ' H',Inv X pins σ' H' s'∧Q σ' H') X.xe s
end Zu
abbrev G4:=V→V→V→Hp→(Hp→Prop)→Prop
def ND(X:Cx)(t:G4):Prop:=
 ∀(pins:List (Addr×Obj)) (s:Shared) (σ:St) (H:Hp) (o i v:V) (ov iv u:Value) (Q:Hp→Prop),Inv X pins σ H s→RelV o ov→RelV i iv→RelV v u→t o i v H Q→
  wpAny (model X.prog X.w) X.A (setItem ov iv u) (fun _ s'=>∃H',Inv X pins σ H' s'∧Q H') X.xe s
section
variable{X:Cx}{pos:Pos}
def av(i:Nat):TG:=fun v σ H Q=>Q (σ.set i (some v)) H
theorem AM{i:Nat}{x:Str}(hN:X.N.Nodup)(hi:X.N[i]? =some x)(hx:Loc X.env.scope x)(hf:X.fn x=true∨X.env.scope.names.lookup x=some .local:=by first|exact .inl rfl|exact .inr rfl|assumption):PG X (.Name x pos) (av i):=by
 intro pins s σ H v u Q I r h
 exact wpAny_assign_Name (oM I hN hi hx r (fun s' I'=>⟨_,H,I',h⟩) hf)
def cZ:zp:=fun vs σ H Q=>vs=[]∧Q σ H
def aQ(t:TG)(u:zp):zp:=fun vs σ H Q=>∃v r,vs=v::r∧t v σ H fun σ' H'=>u r σ' H' Q
theorem G5:AL X [] cZ:=by
 intro pins s σ H vs us Q I r h
 obtain⟨e,h⟩:=h
 subst e
 cases r
 exact assignInOrder_nil ⟨σ,H,I,h⟩
theorem Fq{e:Expr}{es:List Expr}{t:TG}{u:zp}(h1:PG X e t)(h2:AL X es u)
  (hs:(assignEach (e::es) X.env).map (·.2)=assign e X.env::(assignEach es X.env).map (·.2):=by rfl):AL X (e::es) (aQ t u):=by
 intro pins s σ H vs us Q I r h
 obtain⟨v,vr,e1,h⟩:=h
 subst e1
 cases r with
 |cons r rr=>
  rw[hs]
  refine assignInOrder_cons (bL (h1 pins s σ H _ _ _ I r h) fun _ s1 ⟨σ1,H1,I1,q1⟩=>?_)
  exact h2 pins s1 σ1 H1 _ _ Q I1 rr q1
def c_(K:PySem.W.Frag)(n:Nat)(t:zp):TG:=fun v σ H Q=>∃a xs,v= .ref a∧cN K H a xs∧xs.length=n∧t xs σ H Q
theorem La{es:List Expr}{k:Nat}{t:zp}{n:Nat}(hc:X.calm=true)(h:AL X es t)
  (hn:(assignEach es X.env).length=n:=by rfl)(vL:(assignEach es X.env).findIdx? (·.1)=none:=by rfl):PG X (.Tuple es k pos) (c_ X.K n t):=by
 intro pins s σ H v u Q I r hw
 obtain⟨a,xs,e1,hq,hl,hw⟩:=hw
 subst e1
 cases r
 obtain⟨its,rv,ht,hz⟩:=I.tuple hq
 refine assign_Tuple_tuple (I.ok.hd hc) ht (by simp[hn,←hl,rv.length]) vL fun h' hx=>?_
 have I1:Inv X pins σ H { s with heap:=h' }:=I.kept (t':=s.toks) fun b o e=>hx b o (Nat.ne_of_lt (Heap.lt_size e)) e
 exact h pins _ σ H xs _ Q I1 (by simpa using rv) hw
def fF(to ti:TE)(t:G4):TG:=fun v σ H Q=>to σ H fun o H1=>ti σ H1 fun i H2=>t o i v H2 fun H3=>Q σ H3
theorem Lb{o i:Expr}{to ti:TE}{t:G4}(ho:PE X o to)(hi:PE X i ti)(hs:ND X t)
  (ha:∀v,assign (.Subscript o i pos) X.env v=(do
   let ov ←holding [v] (eval o X.env)
   let iv ←holding [v,ov] (eval i X.env)
   standAt pos
   holding [v,ov,iv] (setItem ov iv v)
   release [v,ov,iv] []):=by intro _;rfl):PG X (.Subscript o i pos) (fF to ti t):=by
 intro pins s σ H v u Q I r h
 rw[ha]
 refine wpAny_bind (wpAny_holding (bL (ho pins s σ H _ I h) fun ov s1 ⟨x,H1,I1,r1,q1⟩=>?_))
 refine wpAny_bind (wpAny_holding (bL (hi pins s1 σ H1 _ I1 q1) fun iv s2 ⟨y,H2,I2,r2,q2⟩=>?_))
 refine wpAny_bind (wpAny_standAt (wpAny_bind (wpAny_holding (bL (hs pins s2 σ H2 x y v ov iv u _ I2 r1 r2 r q2) fun _ s3 ⟨H3,I3,q3⟩=>?_))))
 exact wpAny_release ⟨σ,H3,I3,q3⟩
def G6(te:TE)(g:TG):TS:=fun D σ H=>te σ H fun x H1=>g x σ H1 D.nx
theorem Lc{tg e:Expr}{te:TE}{g:TG}(he:PE X e te)(hg:PG X tg g)(hs:swapsWithSole [tg] e pos.line X.env=pure false:=by rfl)(hw:swappedStores [tg] e X.env=pure none:=by rfl)
  (h1:(assignEach [tg] X.env).map (·.2)=[assign tg X.env]:=by rfl):PS X (.Assign [tg] e pos) (G6 te g):=by
 intro pins s σ H D I h
 refine wpAny_Assign_stores (bL (he pins s σ H _ I h) fun v s1 ⟨x,H1,I1,r1,q1⟩=>?_) hs hw
 rw[h1]
 exact bL (hg pins s1 σ H1 x v _ I1 r1 q1) fun _ s2 q=>q
theorem Ld{i:Nat}{x:Str}{e:Expr}{te:TE}{pos':Pos}(hN:X.N.Nodup)(hi:X.N[i]? =some x)(hx:Loc X.env.scope x)(he:PE X e te)(hs:swapsWith e (some (.Name x pos')) pos.line X.env=pure false:=by rfl)(hf:X.fn x=true∨X.env.scope.names.lookup x=some .local:=by first|exact .inl rfl|exact .inr rfl|assumption):
  PS X (.Assign [.Name x pos'] e pos) (G6 te (av i)):=by
 intro pins s σ H D I h
 refine wpAny_Assign_Name (bL (he pins s σ H _ I h) fun v s1 ⟨y,H1,I1,r1,q1⟩=>?_) hs
 exact oM I1 hN hi hx r1 (fun s2 I2=>⟨_,H1,I2,q1⟩) hf
def RW(i j:Nat)(ta:TA):TS:=fun D σ H=>ta σ H fun vs H1=>∃v w,vs=[v,w]∧D.nx ((σ.set i (some v)).set j (some w)) H1
theorem Le{i j:Nat}{x y:Str}{a b:Expr}{ta:TA}{px py pt:Pos}{kt k2 CH}(hc:X.calm=true)(hN:X.N.Nodup)(hi:X.N[i]? =some x)(hj:X.N[j]? =some y)(zq:i≠j)
  (hx:X.env.scope.names.lookup x=some .local)(hy:X.env.scope.names.lookup y=some .local)(ha:PA X [a,b] ta)
  (hw:swappedStores [.Tuple [.Name x px,.Name y py] kt pt] (.Tuple [a,b] k2 CH) X.env=pure (some [x,y]))
  (hs:swapsWithSole [.Tuple [.Name x px,.Name y py] kt pt] (.Tuple [a,b] k2 CH) pos.line X.env=pure false:=by rfl):
  PS X (.Assign [.Tuple [.Name x px,.Name y py] kt pt] (.Tuple [a,b] k2 CH) pos) (RW i j ta):=by
 intro pins s σ H D I h
 rw[exec_Assign_arm]
 refine wpAny_bind (wpAny_standAt ?_)
 rw[hs]
 refine wpAny_bind (wpAny_pure ?_)
 rw[if_neg (by decide)]
 refine wpAny_bind (Tuple_ (bL (ha _ pins s σ H _ I h) fun us s1 ⟨vs,H1,I1,r1,q1⟩=>?_))
 obtain⟨v,w,e1,q1⟩:=q1
 subst e1
 obtain⟨u1,u2,rfl,rv,qK⟩:∃u1 u2,us=[u1,u2]∧RelV v u1∧RelV w u2:=by
  cases r1 with
  |cons p q=>
   cases q with
   |cons p' q'=>
    cases q'
    exact⟨_,_,rfl,p,p'⟩
 refine wpAny_newObj_type ?_ (by show 2≤sizeLine;decide)
 have I2:Inv X pins σ H1 { s1 with heap:=s1.heap.push { cls:=.type "tuple",data:=.seq [u1,u2].toArray } }:=I1.kept (t':=s1.toks) fun b o e=>Heap.get?_push_of_some _ e
 rw[hw]
 refine wpAny_bind (wpAny_pure ?_)
 show wpAny (model X.prog X.w) X.A (do rule "assign.swapped-stores";let items ←unpackItems (.ref s1.heap.objs.size) 2 none;assignInOrder [fun v=>bindName X.env y v,fun v=>bindName X.env x v] items.reverse;pure Flow.next) _ _ _
 refine wpAny_bind (wpAny_rule (wpAny_bind (unpackItems_tuple (items:=#[u1,u2]) (I.ok.hd hc) (IsTup.new s1.heap _) fun h' ig=>?_)))
 have I3:=I2.kept (h':=h') (t':=s1.toks) fun b o e=>ig b o (Nat.ne_of_lt (Heap.lt_size e)) e
 show wpAny _ _ (assignInOrder [fun v=>bindName X.env y v,fun v=>bindName X.env x v] [u2,u1] >>= fun _=>pure Flow.next) _ _ _
 refine wpAny_bind (assignInOrder_cons (wpAny_bindName (oM I3 hN hj (.inl hy) qK (fun s2 I4=>?_) (.inr hy))))
 refine assignInOrder_cons (wpAny_bindName (oM I4 hN hi (.inl hx) rv (fun s3 I5=>assignInOrder_nil (wpAny_pure ?_)) (.inr hx)))
 rw[List.set_comm _ _ (Ne.symm zq)]at I5
 exact⟨_,H1,I5,q1⟩
end
section
variable{X:Cx}{pos:Pos}
def Lf(c:TT)(tb:TS):TS:=fun D σ H=>∃W:Nat→St→Hp→Prop,(∃m,W m σ H)∧∀m σ H,W m σ H→
 c σ H fun b H1=>if b=true then ∃N:St→Hp→Prop,(∀σ' H',N σ' H'→∃m',m'<m∧W m' σ' H')∧tb { D with nx:=N,ct:=N,bk:=D.nx } σ H1 else D.nx σ H1
theorem Fs{c:Expr}{body:List Stmt}{tc:TT}{tb:TS}(hp:PassesOwn (model X.prog X.w) X.A X.env X.xe)(hc:PT X c tc)(hb:nK X body tb):PS X (.While c body [] pos) (Lf tc tb):=by
 intro pins s σ H D I h
 obtain⟨W,⟨m0,w0⟩,turn⟩:=h
 refine wpAny_While (codeAny_whileLoop (fun n s'=>∃σ' H',Inv X pins σ' H' s'∧W n σ' H') ?_ m0 ⟨σ,H,I,w0⟩)
 rintro n s1 ⟨σ1,H1,I1,w1⟩
 refine wpAny_passesOwn hp (bL (hc pins s1 σ1 H1 _ I1 (turn n σ1 H1 w1)) fun b s2 ⟨H2,I2,q2⟩=>?_)
 cases b with
 |true=>
  obtain⟨N,hN,q2⟩:=q2
  rw[if_pos rfl]
  refine wpAny_passesOwn hp (bL (hb pins s2 σ1 H2 _ I2 q2) fun f s3 q3=>?_)
  cases f with
  |next=>
   obtain⟨sN,H3,I3,n3⟩:=q3
   obtain⟨m',hm,w3⟩:=hN sN H3 n3
   exact⟨m',hm,sN,H3,I3,w3⟩
  |cont=>
   obtain⟨sN,H3,I3,n3⟩:=q3
   obtain⟨m',hm,w3⟩:=hN sN H3 n3
   exact⟨m',hm,sN,H3,I3,w3⟩
  |brk=>exact q3
  |ret v=>exact q3
 |false=>
  rw[if_neg Bool.false_ne_true]
  exact wpAny_execs_nil ⟨σ1,H2,I2,q2⟩
end
structure It where
 go:Nat→Hp→Prop
 Ft:Nat→Hp→V→Hp→Prop
 stop:Nat→Hp→Prop
def hV(X:Cx)(pins:List (Addr×Obj))(H:Hp)(b:Addr):Prop:=
 H b=none∧b≠X.env.locals∧b∉X.fs∧(b∈X.ex∨X.bE.heap.objs.size≤b)∧(∀x c,X.env.cells.lookup x=some c→c≠b)∧∀p∈X.pn++pins,p.1≠b
theorem Inv.pN{X:Cx}{pins:List (Addr×Obj)}{σ:St}{H H':Hp}{s:Shared}{b:Addr}(I:Inv X pins σ H s)(hb:s.heap.objs.size≤b)(hn:H' b=none):hV X pins H' b:=by
 refine⟨hn,Nat.ne_of_gt (Nat.lt_of_lt_of_le I.lt hb),I.NB hb,.inr (Nat.le_trans I.sz hb),fun x c e z=>?_,fun p hp z=>?_⟩
 ·obtain⟨v,q⟩:=I.cell x c e
  exact absurd (Nat.lt_of_lt_of_le q.lt (by rw[z];exact hb)) (Nat.lt_irrefl _)
 ·exact absurd (Nat.lt_of_lt_of_le (Heap.lt_size (I.pin p hp).1) (by rw[z];exact hb)) (Nat.lt_irrefl _)
structure Turn(P:Program)(w:World)(K:PySem.W.Frag)(tg:Expr)(J:It)(fp:List Addr)(it:Addr)(tn:Nat→Heap→Prop):Prop where
 mem:it∈fp
 obj:∀i h,tn i h→∀b∈fp,∃o,h.get? b=some o∧∀v,o.data≠.cell v
 keep:∀i h h',tn i h→(∀b∈fp,∀o,h.get? b=some o→h'.get? b=some o)→tn i h'
 item:∀(X:Cx),X.prog=P→X.w=w→X.K=K→X.calm=true→∀(i:Nat) (pins:List (Addr×Obj)) (s:Shared) (σ:St) (H:Hp) (E:Value→Shared→Prop),Inv X pins σ H s→(∀b∈fp,hV X pins H b)→tn i s.heap→J.go i H→
  wpAny (model P w) X.A (pyNext (.ref it)) (fun r s1=>∃u,r=some u∧
   wpAny (model P w) X.A (letOwnedTupleGo tg (.ref it) u) (fun _ s2=>∃x H',Inv X pins σ H' s2∧RelV x u∧J.Ft i H x H'∧tn (i+1) s2.heap∧∀b∈fp,H' b=none) E s1) E s
 done:∀(X:Cx),X.prog=P→X.w=w→X.K=K→X.calm=true→∀(i:Nat) (pins:List (Addr×Obj)) (s:Shared) (σ:St) (H:Hp) (E:Value→Shared→Prop),Inv X pins σ H s→(∀b∈fp,hV X pins H b)→tn i s.heap→J.stop i H→
  wpAny (model P w) X.A (pyNext (.ref it)) (fun r s1=>r=none∧Inv X pins σ H s1) E s
 self:∀(A:Around) (i:Nat) (s:Shared) (Q:Value→Shared→Prop) (E:Value→Shared→Prop),tn i s.heap→Q (.ref it) s→wpAny (model P w) A (pyIter (.ref it)) Q E s
abbrev TI:=St→Hp→(It→Hp→Prop)→Prop
def OA(X:Cx)(pins:List (Addr×Obj))(σ:St)(tg:Expr)(R:It→Hp→Prop)(Lg:Value)(s2:Shared):Prop:=
 ∃(it:Addr) (fp:List Addr) (tn:Nat→Heap→Prop) (J:It) (H':Hp),Lg= .ref it∧Inv X pins σ H' s2∧Turn X.prog X.w X.K tg J fp it tn∧tn 0 s2.heap∧(∀b∈fp,hV X pins H' b)∧R J H'
namespace Zu
set_option allowUnsafeReducibility true in
@[scoped irreducible] def _root_.L2.PI(X:Cx)(tg iter:Expr)(wi:TI):Prop:=
 ∀(pins:List (Addr×Obj)) (s:Shared) (σ:St) (H:Hp) (R:It→Hp→Prop),Inv X pins σ H s→wi σ H R→
  wpAny (model X.prog X.w) X.A (eval iter X.env) (fun v s1=>wpAny (model X.prog X.w) X.A (pyIter v) (OA X pins σ tg R) X.xe s1) X.xe s
end Zu
theorem zt{M:Model}{A:Around}{E:Value→Shared→Prop}{s:Shared}{tg:Expr}{it:Addr}{u:Value}{o:Obj}{n:String}{vs:Array Value}{Q:Unit→Shared→Prop}(ho:s.heap.get? it=some o)(hc:o.cls= .type n)(hd:o.data= .fields vs)
  (hn: ["enumerate","zip","dict_itemiterator","dict_reverseitemiterator","odict_iterator","itertools.zip_longest","itertools.pairwise"].contains n=false)(hQ:Q () s):wpAny M A (letOwnedTupleGo tg (.ref it) u) Q E s:=by
 unfold letOwnedTupleGo
 cases tg<;>first
  |exact wpAny_pure hQ
  |(cases u<;>first
    |exact wpAny_pure hQ
    |(refine wpAny_bind (wpAny_load ho ?_)
      rw[hc,hd]
      show wpAny M A (if (["enumerate","zip","dict_itemiterator","dict_reverseitemiterator","odict_iterator","itertools.zip_longest","itertools.pairwise"].contains n&&vs[0]?==some (rawInt _))=true then _ else _) Q E s
      rw[if_neg (by intro h;rw[hn,Bool.false_and]at h;cases h)]
      exact wpAny_pure hQ))
def RX(K:PySem.W.Frag)(a:Addr):It:=
 ⟨fun i H=>∃xs x,bU K H a xs∧xs[i]? =some x,fun i H x H'=>H'=H∧∀xs,bU K H a xs→xs[i]? =some x,fun i H=>∃xs,bU K H a xs∧xs.length≤i⟩
def RY(K:PySem.W.Frag)(a:Addr):It:=
 ⟨fun i H=>∃xs x,cN K H a xs∧xs[i]? =some x,fun i H x H'=>H'=H∧∀xs,cN K H a xs→xs[i]? =some x,fun i H=>∃xs,cN K H a xs∧xs.length≤i⟩
def Lh(lo:Int)(n:Nat):It:=⟨fun i _=>i<n,fun i H x H'=>H'=H∧x= .int (lo+i),fun i _=>n≤i⟩
theorem CI{P:Program}{w:World}{K:PySem.W.Frag}{tg:Expr}(a it:Addr):Turn P w K tg (RX K a) [it] it (fun i h=>h.IsListIter it a i) where
 mem:=by simp
 obj:=fun i h st b hb=>by
  have e:b=it:=by simpa using hb
  subst e
  obtain⟨o,e,c,d⟩:=st
  exact⟨o,e,fun v z=>by rw[d]at z;cases z⟩
 keep:=fun i h h' st k=>st.at fun o e=>k it (by simp) o e
 item:=by
  intro X hP hw hK hc i pins s σ H E I hf st hg
  subst hP hw hK
  obtain⟨xs,x,hq,hx⟩:=hg
  obtain⟨its,rv,p,hz⟩:=I.list hq
  obtain⟨u,hu,ru⟩:=rv.get hx
  obtain⟨f0,f1,f2,f3,f4,f5⟩:=hf it (by simp)
  refine wpAny_pyNext_list_item st p.isList (x:=u) (by simpa using hu) fun h' qL sb=>?_
  have I1:Inv X pins σ H { s with heap:=h' }:=I.turned (t':=s.toks) (fun b o hb e=>(sb.2 b hb).trans e) f0 f1 f3 f4 f5
  obtain⟨o,e,c,d⟩:=id qL
  exact⟨u,rfl,zt (s:={ s with heap:=h' }) e c d (by decide) ⟨x,H,I1,ru,⟨rfl,fun ys hy=>by rw[I.iO hy hq];exact hx⟩,qL,fun b hb=>(hf b hb).1⟩⟩
 done:=by
  intro X hP hw hK hc i pins s σ H E I hf st hg
  subst hP hw hK
  obtain⟨xs,hq,hx⟩:=hg
  obtain⟨its,rv,p,hz⟩:=I.list hq
  obtain⟨f0,f1,f2,f3,f4,f5⟩:=hf it (by simp)
  have hl:=rv.length
  exact wpAny_pyNext_list_end (I.ok.hd hc) st p.isList (by simp;omega) fun h' eb=>⟨rfl,I.turned (t':=s.toks) (fun b o hb e=>eb b o hb e) f0 f1 f3 f4 f5⟩
 self:=fun _ _ _ _ _ st h=>wpAny_pyIter_listiter st h
theorem AN{P:Program}{w:World}{K:PySem.W.Frag}{tg:Expr}(a it:Addr):Turn P w K tg (RY K a) [it] it (fun i h=>h.IsTupleIter it a i) where
 mem:=by simp
 obj:=fun i h st b hb=>by
  have e:b=it:=by simpa using hb
  subst e
  obtain⟨o,e,c,d⟩:=st
  exact⟨o,e,fun v z=>by rw[d]at z;cases z⟩
 keep:=fun i h h' st k=>st.at fun o e=>k it (by simp) o e
 item:=by
  intro X hP hw hK hc i pins s σ H E I hf st hg
  subst hP hw hK
  obtain⟨xs,x,hq,hx⟩:=hg
  obtain⟨its,rv,p,hz⟩:=I.tuple hq
  obtain⟨u,hu,ru⟩:=rv.get hx
  obtain⟨f0,f1,f2,f3,f4,f5⟩:=hf it (by simp)
  refine wpAny_pyNext_tuple_item st (show s.heap.IsTuple a its.toArray from p) (x:=u) (by simpa using hu) fun h' qL sb=>?_
  have I1:Inv X pins σ H { s with heap:=h' }:=I.turned (t':=s.toks) (fun b o hb e=>(sb.2 b hb).trans e) f0 f1 f3 f4 f5
  obtain⟨o,e,c,d⟩:=id qL
  exact⟨u,rfl,zt (s:={ s with heap:=h' }) e c d (by decide) ⟨x,H,I1,ru,⟨rfl,fun ys hy=>by rw[I.qh hy hq];exact hx⟩,qL,fun b hb=>(hf b hb).1⟩⟩
 done:=by
  intro X hP hw hK hc i pins s σ H E I hf st hg
  subst hP hw hK
  obtain⟨xs,hq,hx⟩:=hg
  obtain⟨its,rv,p,hz⟩:=I.tuple hq
  obtain⟨f0,f1,f2,f3,f4,f5⟩:=hf it (by simp)
  have hl:=rv.length
  exact wpAny_pyNext_tuple_end (I.ok.hd hc) st (show s.heap.IsTuple a its.toArray from p) (by simp;omega) fun h' eb=>⟨rfl,I.turned (t':=s.toks) (fun b o hb e=>eb b o hb e) f0 f1 f3 f4 f5⟩
 self:=fun _ _ _ _ _ st h=>wpAny_pyIter_tupleiter st h
theorem AO{P:Program}{w:World}{K:PySem.W.Frag}{tg:Expr}(it:Addr)(lo:Int)(n:Nat):Turn P w K tg (Lh lo n) [it] it (fun i h=>IsRangeIter h it (lo+(i:Nat)*1) ((n:Int) - (i:Nat)) 1) where
 mem:=by simp
 obj:=fun i h st b hb=>by
  have e:b=it:=by simpa using hb
  subst e
  exact⟨_,st,fun v z=>by
   have z':Data.fields _=Data.cell v:=z
   cases z'⟩
 keep:=fun i h h' st k=>k it (by simp) _ st
 item:=by
  intro X hP hw hK hc i pins s σ H E I hf st hg
  subst hP hw hK
  obtain⟨f0,f1,f2,f3,f4,f5⟩:=hf it (by simp)
  have W:=Walks.range (prog:=X.prog) (w:=X.w) (I.ok.hd hc) it lo 1 n
  refine W.item i s _ _ hg st fun v h' tk hv qL kk=>?_
  obtain⟨t,rfl⟩:=hv
  have I1:Inv X pins σ H { s with heap:=h',toks:=tk }:=I.turned (fun b o hb e=>kk b o (by simpa using hb) e) f0 f1 f3 f4 f5
  refine⟨_,rfl,zt (s:={ s with heap:=h',toks:=tk }) (n:="range_iterator") qL rfl rfl (by decide) ⟨.int (lo+i),H,I1,⟨t,?_⟩,⟨rfl,rfl⟩,qL,fun b hb=>(hf b hb).1⟩⟩
  rw[Int.mul_one]
 done:=by
  intro X hP hw hK hc i pins s σ H E I hf st hg
  subst hP hw hK
  obtain⟨f0,f1,f2,f3,f4,f5⟩:=hf it (by simp)
  exact wpAny_pyNext_range_end (I.ok.hd hc) st (by have:n≤i:=hg;omega) fun h' eb=>⟨rfl,I.turned (t':=s.toks) (fun b o hb e=>eb b o hb e) f0 f1 f3 f4 f5⟩
 self:=fun _ _ _ _ _ st h=>wpAny_pyIter_rangeiter st h
end L2
namespace L2
open PySem PySem.Spec PyProof.Rows
section
variable{X:Cx}{tg:Expr}
def OB(K:PySem.W.Frag)(tl:TE):TI:=fun σ H R=>tl σ H fun x H1=>∃a,x= .ref a∧(∃xs,bU K H1 a xs)∧R (RX K a) H1
def nC(K:PySem.W.Frag)(tl:TE):TI:=fun σ H R=>tl σ H fun x H1=>∃a,x= .ref a∧(∃xs,cN K H1 a xs)∧R (RY K a) H1
theorem G7{l:Expr}{tl:TE}(hl:PE X l tl):PI X tg l (OB X.K tl):=by
 intro pins s σ H R I h
 refine bL (hl pins s σ H _ I h) fun v s1 ⟨x,H1,I1,r1,q1⟩=>?_
 obtain⟨a,e,⟨xs,hq⟩,q⟩:=q1
 subst e
 cases r1
 obtain⟨its,rv,p,hz⟩:=I1.list hq
 refine wpAny_pyIter_list p.isList ?_
 refine⟨s1.heap.objs.size,[s1.heap.objs.size],_,_,H1,rfl,I1.kept (t':=s1.toks) fun b o e=>Heap.get?_push_of_some _ e,CI a _,⟨_,Heap.get?_push_size _ rfl,rfl,rfl⟩,fun b hb=>?_,q⟩
 have e:b=s1.heap.objs.size:=by simpa using hb
 subst e
 exact I1.pN (Nat.le_refl _) (I1.bj.fresh (Nat.le_refl _))
theorem Li{l:Expr}{tl:TE}(hl:PE X l tl):PI X tg l (nC X.K tl):=by
 intro pins s σ H R I h
 refine bL (hl pins s σ H _ I h) fun v s1 ⟨x,H1,I1,r1,q1⟩=>?_
 obtain⟨a,e,⟨xs,hq⟩,q⟩:=q1
 subst e
 cases r1
 obtain⟨its,rv,p,hz⟩:=I1.tuple hq
 refine wpAny_pyIter_tuple (show s1.heap.IsTuple a its.toArray from p) ?_
 refine⟨s1.heap.objs.size,[s1.heap.objs.size],_,_,H1,rfl,I1.kept (t':=s1.toks) fun b o e=>Heap.get?_push_of_some _ e,AN a _,⟨_,Heap.get?_push_size _ rfl,rfl,rfl⟩,fun b hb=>?_,q⟩
 have e:b=s1.heap.objs.size:=by simpa using hb
 subst e
 exact I1.pN (Nat.le_refl _) (I1.bj.fresh (Nat.le_refl _))
theorem Fu{pins:List (Addr×Obj)}{σ:St}{H:Hp}{s:Shared}{R:It→Hp→Prop}{E:Value→Shared→Prop}{lo hi:Int}{t u v:Tok}{tk:Nat}(I:Inv X pins σ H s)(h1: -(2 ^ 62)≤lo)(h2:lo<2 ^ 62)(h3: -(2 ^ 62)≤hi)(h4:hi<2 ^ 62)
  (q:R (Lh lo (hi - lo).toNat) H):wpAny (model X.prog X.w) X.A (pyIter (.ref s.heap.objs.size)) (OA X pins σ tg R) E { s with heap:=s.heap.push { cls:=.type "range",data:=.fields #[.int lo t,.int hi u,.int 1 v] },toks:=tk }:=by
 refine wpAny_pyIter_range (IsRange.new ..) (small_one h1 h2 h3 h4) ?_
 have I1:Inv X pins σ H { s with heap:=s.heap.push { cls:=.type "range",data:=.fields #[.int lo t,.int hi u,.int 1 v] },toks:=tk }:=I.kept fun b o e=>Heap.get?_push_of_some _ e
 refine⟨(s.heap.push { cls:=.type "range",data:=.fields #[.int lo t,.int hi u,.int 1 v] }).objs.size,[(s.heap.push { cls:=.type "range",data:=.fields #[.int lo t,.int hi u,.int 1 v] }).objs.size],_,_,H,rfl,
  I1.kept (t':=tk) fun b o e=>Heap.get?_push_of_some _ e,AO _ lo (hi - lo).toNat,?_,fun b hb=>?_,q⟩
 ·have e1:lo+((0:Nat):Int)*1=lo:=by simp
  have e2:(((hi - lo).toNat:Nat):Int) - ((0:Nat):Int)=Builtin.Range.rangeSize lo hi 1:=by rw[rangeSize_one];split<;>omega
  show IsRangeIter _ _ (lo+((0:Nat):Int)*1) ((((hi - lo).toNat:Nat):Int) - ((0:Nat):Int)) 1
  rw[e1,e2]
  exact Heap.get?_push_size _ rfl
 ·have e:b=(s.heap.push { cls:=.type "range",data:=.fields #[.int lo t,.int hi u,.int 1 v] }).objs.size:=by simpa using hb
  subst e
  exact I1.pN (Nat.le_refl _) (I1.bj.fresh (Nat.le_refl _))
def eu(ta:TA):TI:=fun σ H R=>ta σ H fun vs H1=>∃j:Int,vs=[.int j]∧-(2 ^ 62)≤j∧j<2 ^ 62∧R (Lh 0 j.toNat) H1
theorem CJ{a:Expr}{ta:TA}{p pos:Pos}(hg:Gl X "range")(hm:X.mg "range" =none)(ha:PA X [a] ta)(hs:starEach [a] X.env=[(false,eval a X.env)]:=by rfl):PI X tg (.Call (.Name "range" p) [a] [] pos) (eu ta):=by
 intro pins s σ H R I h
 refine Call_ (gi I hg hm boot_range (PyProof.Rows.callWith_type1 (bL (ha pos pins s σ H _ I h) fun us s1 ⟨vs,H1,I1,r1,q1⟩=>?_) hs rfl))
 obtain⟨j,e,q1,q2,q⟩:=q1
 subst e
 cases r1 with
 |cons r rr=>
  cases rr
  obtain⟨t,rfl⟩:=r
  exact call_range_1 (Fu I1 (by omega) (by omega) q1 q2 (by simpa using q))
def RZ(wi:TI)(g:TG)(tb:TS):TS:=fun D σ H=>wi σ H fun J H1=>∃W:Nat→Nat→St→Hp→Prop,(∃m,W 0 m σ H1)∧∀i m σ H,W i m σ H→
 (J.stop i H∧D.nx σ H)∨(J.go i H∧∃N:St→Hp→Prop,(∀σ' H',N σ' H'→∃m',m'<m∧W (i+1) m' σ' H')∧∀x H',J.Ft i H x H'→g x σ H' fun sO H2=>tb { D with nx:=N,ct:=N,bk:=D.nx } sO H2)
def qM(fp:List Addr)(h:Heap):List (Addr×Obj):=fp.filterMap fun b=>(h.get? b).map fun o=>(b,o)
theorem kX{fp:List Addr}{h:Heap}{b:Addr}{o:Obj}(hb:b∈fp)(e:h.get? b=some o):(b,o)∈qM fp h:=List.mem_filterMap.mpr ⟨b,hb,by rw[e];rfl⟩
theorem CK{fp:List Addr}{h:Heap}{p:Addr×Obj}(hp:p∈qM fp h):p.1∈fp∧h.get? p.1=some p.2:=by
 obtain⟨b,hb,e⟩:=List.mem_filterMap.mp hp
 cases q:h.get? b with
 |none=>rw[q]at e;cases e
 |some o=>
  rw[q]at e
  have e':(b,o)=p:=Option.some.inj e
  subst e'
  exact⟨hb,q⟩
theorem Inv.pinned{pins:List (Addr×Obj)}{σ:St}{H:Hp}{s:Shared}{fp:List Addr}(I:Inv X pins σ H s)(hf:∀b∈fp,hV X pins H b)(ho:∀b∈fp,∃o,s.heap.get? b=some o∧∀v,o.data≠.cell v):Inv X (pins++qM fp s.heap) σ H s:=
 I.vK fun p hp=>(List.mem_append.mp hp).elim (fun z=>I.pin p (List.mem_append_right _ z)) fun z=>by
  obtain⟨hb,e⟩:=CK z
  obtain⟨f0,f1,f2,_⟩:=hf p.1 hb
  obtain⟨o,e',d⟩:=ho p.1 hb
  rw[e]at e';cases e'
  exact⟨e,f0,f1,f2,d⟩
theorem Inv.l_{pins pl:List (Addr×Obj)}{σ:St}{H:Hp}{s:Shared}(I:Inv X (pins++pl) σ H s):Inv X pins σ H s:=I.vK fun p hp=>I.pin p (List.mem_append_right _ (List.mem_append_left _ hp))
theorem Lj{iter:Expr}{body:List Stmt}{wi:TI}{g:TG}{tb:TS}{pos:Pos}(hp:PassesOwn (model X.prog X.w) X.A X.env X.xe)(hc:X.calm=true)(hi:PI X tg iter wi)(hg:PG X tg g)(hb:nK X body tb)
  (hs:∀x,foldedSetIterable iter X.env x=pure x:=by intro _;rfl):PS X (.For tg iter body [] pos) (RZ wi g tb):=by
 intro pins s σ H D I h
 refine wpAny_For (bL (hi pins s σ H _ I h) fun v s1 h1=>bL h1 fun Lg s2 h2=>?_) hs
 obtain⟨it,fp,tn,J,H2,e,I2,T,mL,f2,W,⟨m0,w0⟩,turn⟩:=h2
 subst e
 -- Yg stays true of AR NF objects through AR loop
 have G8:∀{H':Hp},(∀b∈fp,H' b=none)→∀b∈fp,hV X pins H' b:=fun hn b hb=>⟨hn b hb,(f2 b hb).2⟩
 refine codeAny_forLoop_any (fun n s'=>∃i σ' H',Inv X pins σ' H' s'∧tn i s'.heap∧(∀b∈fp,H' b=none)∧W i n σ' H') ?_ m0 ⟨0,σ,H2,I2,mL,fun b hb=>(f2 b hb).1,w0⟩
 rintro n s3 ⟨i,sN,H3,I3,R1,R4,w3⟩
 rcases turn i n sN H3 w3 with⟨stop,qn⟩|⟨go,N,hN,step⟩
 ·refine wpAny_passesOwn hp (bL (T.done X rfl rfl rfl hc i pins s3 sN H3 X.xe I3 (G8 R4) R1 stop) fun r s4 ⟨hr,I4⟩=>?_)
  subst hr
  exact wpAny_execs_nil ⟨sN,H3,I4,qn⟩
 ·refine wpAny_passesOwn hp (bL (T.item X rfl rfl rfl hc i pins s3 sN H3 X.xe I3 (G8 R4) R1 go) fun r s4 ⟨u,hr,h4⟩=>?_)
  subst hr
  refine wpAny_passesOwn hp (bL h4 fun _ s5 ⟨x,H5,I5,r5,y5,OC,U6⟩=>?_)
  have OD:=I5.pinned (G8 U6) (T.obj _ _ OC)
  refine wpAny_passesOwn hp (bL (hg _ s5 sN H5 x u _ OD r5 (step x H5 y5)) fun _ s6 ⟨OE,H6,I6,q6⟩=>?_)
  refine wpAny_passesOwn hp (bL (hb _ s6 OE H6 _ I6 q6) fun f s7 q7=>?_)
  have again:∀{vM:St}{H7:Hp},Inv X (pins++qM fp s5.heap) vM H7 s7→N vM H7→∃m,m<n∧∃i σ' H',Inv X pins σ' H' s7∧tn i s7.heap∧(∀b∈fp,H' b=none)∧W i m σ' H':=fun {vM H7} I7 n7=>by
   obtain⟨m',hm,w7⟩:=hN vM H7 n7
   refine⟨m',hm,i+1,vM,H7,I7.l_,T.keep _ _ _ OC fun b hb o e=>(I7.pin (b,o) (List.mem_append_right _ (List.mem_append_right _ (kX hb e)))).1,fun b hb=>?_,w7⟩
   obtain⟨o,e,d⟩:=T.obj _ _ OC b hb
   exact(I7.pin (b,o) (List.mem_append_right _ (List.mem_append_right _ (kX hb e)))).2.1
  cases f with
  |next=>obtain⟨vM,H7,I7,n7⟩:=q7;exact again I7 n7
  |cont=>obtain⟨vM,H7,I7,n7⟩:=q7;exact again I7 n7
  |brk=>obtain⟨vM,H7,I7,q7⟩:=q7;exact⟨vM,H7,I7.l_,q7⟩
  |ret v=>obtain⟨x7,vM,H7,I7,r7,q7⟩:=q7;exact⟨x7,vM,H7,I7.l_,r7,q7⟩
end
end L2
namespace L2
open PySem PySem.Spec PyProof.Rows
abbrev R2:=V→V→Hp→VK→Prop
def fN(X:Cx)(f:Value→Value→Sem Value)(r:R2):Prop:=
 ∀(pins:List (Addr×Obj)) (s:Shared) (σ:St) (H:Hp) (x y:V) (v u:Value) (Q:VK),Inv X pins σ H s→RelV x v→RelV y u→r x y H Q→
  wpAny (model X.prog X.w) X.A (f v u) (EP X pins σ Q) X.xe s
def OF(X:Cx)(f:Value→Sem Value)(r:V→Hp→VK→Prop):Prop:=
 ∀(pins:List (Addr×Obj)) (s:Shared) (σ:St) (H:Hp) (x:V) (v:Value) (Q:VK),Inv X pins σ H s→RelV x v→r x H Q→
  wpAny (model X.prog X.w) X.A (f v) (EP X pins σ Q) X.xe s
def gC(X:Cx)(f:Value)(r:List V→Hp→VK→Prop):Prop:=
 ∀(pins:List (Addr×Obj)) (s:Shared) (σ:St) (H:Hp) (xs:List V) (us:List Value) (Q:VK),Inv X pins σ H s→Vals xs us→r xs H Q→
  wpAny (model X.prog X.w) X.A (call f us) (EP X pins σ Q) X.xe s
def G9(r:R2)(ta tb:TE):TE:=fun σ H Q=>ta σ H fun x H1=>tb σ H1 fun y H2=>r x y H2 Q
def U7(r:V→Hp→VK→Prop)(ta:TE):TE:=fun σ H Q=>ta σ H fun x H1=>r x H1 Q
def rI(C:Int→Int→Prop)(g:Int→Int→V):R2:=fun x y H Q=>∃i j,x= .int i∧y= .int j∧C i j∧Q (g i j) H
def pF(g:Int→Int→V):R2:=fun x y H Q=>∃i j,x= .int i∧y= .int j∧Q (g i j) H
def rU(g:Int→V):V→Hp→VK→Prop:=fun x H Q=>∃i,x= .int i∧Q (g i) H
section
variable{X:Cx}{a b c:Expr}{ta tb tc:TE}{pos:Pos}
theorem G_(ha:PE X a ta)(hb:PE X b tb){pins:List (Addr×Obj)}{s:Shared}{σ:St}{H:Hp}{R:V→V→Hp→Prop}(I:Inv X pins σ H s)
  (h:ta σ H fun x H1=>tb σ H1 fun y H2=>R x y H2){Q:Value→Shared→Prop}{f:Value→Value→Sem Value}
  (hf:∀v u s2 x y H2,Inv X pins σ H2 s2→RelV x v→RelV y u→R x y H2→wpAny (model X.prog X.w) X.A (f v u) Q X.xe s2):
  wpAny (model X.prog X.w) X.A (eval a X.env) (fun v bJ=>wpAny (model X.prog X.w) X.A (eval b X.env) (fun u lZ=>wpAny (model X.prog X.w) X.A (f v u) Q X.xe lZ) X.xe bJ) X.xe s:=by
 refine bL (ha pins s σ H _ I h) fun v s1 ⟨x,H1,I1,r1,q1⟩=>?_
 refine bL (hb pins s1 σ H1 _ I1 q1) fun u s2 ⟨y,H2,I2,r2,q2⟩=>?_
 exact hf v u s2 x y H2 I2 r1 r2 q2
theorem OG{op:Operator}{r:R2}(ho:fN X (binaryOp op) r)(ha:PE X a ta)(hb:PE X b tb):PE X (.BinOp a op b pos) (G9 r ta tb):=by
 intro pins s σ H Q I h
 exact wpAny_BinOp (G_ ha hb I h fun v u s2 x y H2 I2 rx ry q=>ho pins s2 σ H2 x y v u Q I2 rx ry q)
theorem OH{op:UnaryOp}{r:V→Hp→VK→Prop}(ho:OF X (unaryOp op) r)(ha:PE X a ta):PE X (.UnaryOp op a pos) (U7 r ta):=by
 intro pins s σ H Q I h
 exact UnaryOp_ (bL (ha pins s σ H _ I h) fun v s1 ⟨x,H1,I1,r1,q1⟩=>ho pins s1 σ H1 x v Q I1 r1 q1)
theorem Ll{f:Value→Value→Sem Value}{C:Int→Int→Prop}{g:Int→Int→Int}
  (rule:∀(i j:Int) (t u:Tok) (s:Shared) (Q:Value→Shared→Prop) (E:Value→Shared→Prop),C i j→Q (.int (g i j) s.toks) { s with toks:=s.toks+1 }→wpAny (model X.prog X.w) X.A (f (.int i t) (.int j u)) Q E s):
  fN X f (rI C fun i j=>.int (g i j)):=by
 intro pins s σ H x y v u Q I rx ry h
 obtain⟨i,j,rfl,rfl,hc,q⟩:=h
 obtain⟨t,rfl⟩:=rx
 obtain⟨t',rfl⟩:=ry
 exact rule i j t t' s _ _ hc ⟨.int (g i j),H,I.tok _,⟨_,rfl⟩,q⟩
theorem NG{f:Value→Value→Sem Value}{g:Int→Int→Int}
  (rule:∀(i j:Int) (t u:Tok) (s:Shared) (Q:Value→Shared→Prop) (E:Value→Shared→Prop),Q (.int (g i j) s.toks) { s with toks:=s.toks+1 }→wpAny (model X.prog X.w) X.A (f (.int i t) (.int j u)) Q E s):
  fN X f (pF fun i j=>.int (g i j)):=by
 intro pins s σ H x y v u Q I rx ry h
 obtain⟨i,j,rfl,rfl,q⟩:=h
 obtain⟨t,rfl⟩:=rx
 obtain⟨t',rfl⟩:=ry
 exact rule i j t t' s _ _ ⟨.int (g i j),H,I.tok _,⟨_,rfl⟩,q⟩
theorem D_{f:Value→Value→Sem Value}{g:Int→Int→Bool}
  (rule:∀(i j:Int) (t u:Tok) (s:Shared) (Q:Value→Shared→Prop) (E:Value→Shared→Prop),Q (.bool (g i j)) s→wpAny (model X.prog X.w) X.A (f (.int i t) (.int j u)) Q E s):
  fN X f (pF fun i j=>.bl (g i j)):=by
 intro pins s σ H x y v u Q I rx ry h
 obtain⟨i,j,rfl,rfl,q⟩:=h
 obtain⟨t,rfl⟩:=rx
 obtain⟨t',rfl⟩:=ry
 exact rule i j t t' s _ _ ⟨.bl (g i j),H,I,rfl,q⟩
def NH(i j:Int):Prop:=0≤j∧j≤1000000∧i.natAbs<2 ^ 64
theorem Lm:fN X (binaryOp .Add) (pF fun i j=>.int (i+j)):=NG fun _ _ _ _ _ _ _ q=>add_int q
theorem gP:fN X (binaryOp .Sub) (pF fun i j=>.int (i - j)):=NG fun _ _ _ _ _ _ _ q=>sub_int q
theorem il:fN X (binaryOp .Mod) (rI (fun _ j=>j≠0) fun i j=>.int (i.fmod j)):=Ll fun _ _ _ _ _ _ _ hc q=>mod_int' hc q
theorem u9:fN X (binaryOp .Pow) (rI NH fun i j=>.int (i ^ j.toNat)):=Ll fun _ _ _ _ _ _ _ hc q=>pow_int_small hc.1 hc.2.1 hc.2.2 q
theorem U8{f:Value→Sem Value}{g:Int→Int}
  (rule:∀(i:Int) (t:Tok) (s:Shared) (Q:Value→Shared→Prop) (E:Value→Shared→Prop),Q (.int (g i) s.toks) { s with toks:=s.toks+1 }→wpAny (model X.prog X.w) X.A (f (.int i t)) Q E s):
  OF X f (rU fun i=>.int (g i)):=by
 intro pins s σ H x v Q I rx h
 obtain⟨i,rfl,q⟩:=h
 obtain⟨t,rfl⟩:=rx
 exact rule i t s _ _ ⟨.int (g i),H,I.tok _,⟨_,rfl⟩,q⟩
theorem Ln:OF X (unaryOp .USub) (rU fun i=>.int (-i)):=U8 fun _ _ _ _ _ q=>neg_int q
end
def NI:V→V→Bool
 |.bG,.bG=>true|.bG,.int _=>true|.int _,.bG=>true|.bG,.bl _=>true|.bl _,.bG=>true|.bG,.str _=>true|.str _,.bG=>true
 |.int _,.int _=>true|.bl _,.bl _=>true|.str _,.str _=>true|.vG _,.vG _=>true
 |.int _,.str _=>true|.str _,.int _=>true|.bl _,.str _=>true|.str _,.bl _=>true
 |_,_=>false
def Lo:R2:=fun x y H Q=>NI x y=true∧Q (.bl (decide (x=y))) H
def Lp:R2:=fun x y H Q=>NI x y=true∧Q (.bl (!decide (x=y))) H
theorem AS{i j:Int}:decide (V.int i=V.int j)=(i==j):=by
 rw[Bool.eq_iff_iff]
 simp
theorem u_{i j:Bool}:decide (V.bl i=V.bl j)=(i==j):=by
 rw[Bool.eq_iff_iff]
 simp
theorem AU{i j:Str}:decide (V.str i=V.str j)=(i==j):=by
 rw[Bool.eq_iff_iff]
 simp
theorem AV{i j:Array UInt8}:decide (V.vG i=V.vG j)=(i.toList==j.toList):=by
 rw[Bool.eq_iff_iff]
 cases i
 cases j
 simp
section
variable{X:Cx}{a b c:Expr}{ta tb tc:TE}{pos:Pos}
theorem bO{pins:List (Addr×Obj)}{σ:St}{H:Hp}{s:Shared}{Q:VK}{k k':Bool}(I:Inv X pins σ H s)(q:Q (.bl k) H)(e:k=k'):EP X pins σ Q (.bool k') s:=by
 subst e
 exact⟨.bl k,H,I,rfl,q⟩
theorem OI:fN X (compareOp .Eq) Lo:=by
 intro pins s σ H x y v u Q I rx ry h
 obtain⟨hs,q⟩:=h
 cases x with
 |bG=>
  cases rx
  cases y with
  |bG=>cases ry;exact PySem.EqNone.eq_none_none (bO I q (by simp))
  |bl j=>cases ry;exact PySem.EqNone.eq_none_bool (bO I q (by simp))
  |int j=>obtain⟨t',rfl⟩:=ry;exact PySem.EqNone.eq_none_int (bO I q (by simp))
  |str j=>obtain⟨t',rfl⟩:=ry;exact PySem.EqNone.eq_none_str (bO I q (by simp))
  |_=>exact absurd (show false=true from hs) Bool.false_ne_true
 |bl i=>
  cases rx
  cases y with
  |bG=>cases ry;exact PySem.EqNone.eq_bool_none (bO I q (by simp))
  |bl j=>cases ry;exact eq_bool (bO I q u_)
  |str j=>obtain⟨t',rfl⟩:=ry;exact PySem.EqMixed.eq_bool_str (bO I q (by simp))
  |_=>exact absurd (show false=true from hs) Bool.false_ne_true
 |int i=>
  obtain⟨t,rfl⟩:=rx
  cases y with
  |bG=>cases ry;exact PySem.EqNone.eq_int_none (bO I q (by simp))
  |int j=>obtain⟨t',rfl⟩:=ry;exact eq_int (bO I q AS)
  |str j=>obtain⟨t',rfl⟩:=ry;exact PySem.EqMixed.eq_int_str (bO I q (by simp))
  |_=>exact absurd (show false=true from hs) Bool.false_ne_true
 |str i=>
  obtain⟨t,rfl⟩:=rx
  cases y with
  |bG=>cases ry;exact PySem.EqNone.eq_str_none (bO I q (by simp))
  |bl j=>cases ry;exact PySem.EqMixed.eq_str_bool (bO I q (by simp))
  |int j=>obtain⟨t',rfl⟩:=ry;exact PySem.EqMixed.eq_str_int (bO I q (by simp))
  |str j=>obtain⟨t',rfl⟩:=ry;exact eq_str (bO I q AU)
  |_=>exact absurd (show false=true from hs) Bool.false_ne_true
 |vG i=>
  obtain⟨t,rfl⟩:=rx
  cases y with
  |vG j=>obtain⟨t',rfl⟩:=ry;exact PySem.W.eq_bytes (bO I q AV)
  |_=>exact absurd (show false=true from hs) Bool.false_ne_true
 |_=>cases y<;>exact absurd (show false=true from hs) Bool.false_ne_true
theorem OJ:fN X (compareOp .NotEq) Lp:=by
 intro pins s σ H x y v u Q I rx ry h
 obtain⟨hs,q⟩:=h
 cases x with
 |bG=>
  cases rx
  cases y with
  |bG=>cases ry;exact PySem.EqNone.ne_none_none (bO I q (by simp))
  |bl j=>cases ry;exact PySem.EqNone.ne_none_bool (bO I q (by simp))
  |int j=>obtain⟨t',rfl⟩:=ry;exact PySem.EqNone.ne_none_int (bO I q (by simp))
  |str j=>obtain⟨t',rfl⟩:=ry;exact PySem.EqNone.ne_none_str (bO I q (by simp))
  |_=>exact absurd (show false=true from hs) Bool.false_ne_true
 |bl i=>
  cases rx
  cases y with
  |bG=>cases ry;exact PySem.EqNone.ne_bool_none (bO I q (by simp))
  |bl j=>cases ry;exact ne_bool (bO I q (congrArg not u_))
  |str j=>obtain⟨t',rfl⟩:=ry;exact PySem.EqMixed.ne_bool_str (bO I q (by simp))
  |_=>exact absurd (show false=true from hs) Bool.false_ne_true
 |int i=>
  obtain⟨t,rfl⟩:=rx
  cases y with
  |bG=>cases ry;exact PySem.EqNone.ne_int_none (bO I q (by simp))
  |int j=>obtain⟨t',rfl⟩:=ry;exact ne_int (bO I q (congrArg not AS))
  |str j=>obtain⟨t',rfl⟩:=ry;exact PySem.EqMixed.ne_int_str (bO I q (by simp))
  |_=>exact absurd (show false=true from hs) Bool.false_ne_true
 |str i=>
  obtain⟨t,rfl⟩:=rx
  cases y with
  |bG=>cases ry;exact PySem.EqNone.ne_str_none (bO I q (by simp))
  |bl j=>cases ry;exact PySem.EqMixed.ne_str_bool (bO I q (by simp))
  |int j=>obtain⟨t',rfl⟩:=ry;exact PySem.EqMixed.ne_str_int (bO I q (by simp))
  |str j=>obtain⟨t',rfl⟩:=ry;exact ne_str (bO I q (congrArg not AU))
  |_=>exact absurd (show false=true from hs) Bool.false_ne_true
 |vG i=>
  obtain⟨t,rfl⟩:=rx
  cases y with
  |vG j=>obtain⟨t',rfl⟩:=ry;exact PySem.W.ne_bytes (bO I q (congrArg not AV))
  |_=>exact absurd (show false=true from hs) Bool.false_ne_true
 |_=>cases y<;>exact absurd (show false=true from hs) Bool.false_ne_true
theorem qi:fN X (compareOp .Lt) (pF fun i j=>.bl (decide (i<j))):=D_ fun _ _ _ _ _ _ _ q=>lt_int q
theorem OK:fN X (compareOp .LtE) (pF fun i j=>.bl (decide (i≤j))):=D_ fun _ _ _ _ _ _ _ q=>le_int q
theorem kh:fN X (compareOp .Gt) (pF fun i j=>.bl (decide (j<i))):=D_ fun _ _ _ _ _ _ _ q=>gt_int q
theorem OL:fN X (compareOp .GtE) (pF fun i j=>.bl (decide (j≤i))):=D_ fun _ _ _ _ _ _ _ q=>ge_int q
theorem Ha:fN X (compareOp .IsNot) (fun x y H Q=>y= .bG∧Q (.bl (!decide (x= .bG))) H):=by
 intro pins s σ H x y v u Q I rx ry h
 obtain⟨rfl,q⟩:=h
 cases ry
 refine isnot_none_gen (bO I q ?_)
 cases x<;>first
  |(cases rx;rfl)
  |(obtain⟨t,rfl⟩:=rx;rfl)
theorem fN.or{f:Value→Value→Sem Value}{r r':R2}(h:fN X f r)(h':fN X f r'):fN X f (fun x y H Q=>r x y H Q∨r' x y H Q):=by
 intro pins s σ H x y v u Q I rx ry q
 rcases q with q|q
 ·exact h pins s σ H x y v u Q I rx ry q
 ·exact h' pins s σ H x y v u Q I rx ry q
theorem aZ(b:Expr){op:CmpOp}(h:op≠.In:=by decide)(h2:op≠.NotIn:=by decide):behindInMarks op b=false:=by
 have e1:(op==CmpOp.In)=false:=by cases op<;>first|rfl|exact absurd rfl h
 have e2:(op==CmpOp.NotIn)=false:=by cases op<;>first|rfl|exact absurd rfl h2
 cases b<;>simp[behindInMarks,e1,e2]
theorem Hb{op:CmpOp}{r:R2}(ho:fN X (compareOp op) r)(ha:PE X a ta)(hb:PE X b tb)(hm:behindInMarks op b=false):PE X (.Compare a [op] [b] pos) (G9 r ta tb):=by
 intro pins s σ H Q I h
 exact wpAny_Compare1 (G_ ha hb I h fun v u s2 x y H2 I2 rx ry q=>ho pins s2 σ H2 x y v u Q I2 rx ry q) hm
def OM(t:TE):TT:=fun σ H Q=>t σ H fun x H'=>∃k,x= .bl k∧Q k H'
theorem Hc{op:CmpOp}{r:R2}(ho:fN X (compareOp op) r)(ha:PE X a ta)(hb:PE X b tb)(hm:behindInMarks op b=false):PT X (.Compare a [op] [b] pos) (OM (G9 r ta tb)):=by
 intro pins s σ H Q I h
 refine wpAny_isTrue_Compare1 (bL (ha pins s σ H _ I h) fun v s1 ⟨x,H1,I1,r1,q1⟩=>bL (hb pins s1 σ H1 _ I1 q1) fun u s2 ⟨y,H2,I2,r2,q2⟩=>
  bL (ho pins s2 σ H2 x y v u _ I2 r1 r2 q2) fun c s3 ⟨z,H3,I3,r3,k,e,q3⟩=>?_) hm
 subst e
 cases r3
 exact wpAny_truthy_bool ⟨H3,I3,q3⟩
theorem qN:(sizeLine:Nat)<2 ^ 63:=by rw[sizeLine_eq];decide
theorem vals1{x:V}{us:List Value}(r:Vals [x] us):∃u,us=[u]∧RelV x u:=by
 cases r with
 |cons r1 r2=>cases r2;exact⟨_,rfl,r1⟩
theorem vals2{x y:V}{us:List Value}(r:Vals [x,y] us):∃u w',us=[u,w']∧RelV x u∧RelV y w':=by
 cases r with
 |cons r1 r2=>
  cases r2 with
  |cons r3 r4=>cases r4;exact⟨_,_,rfl,r1,r3⟩
theorem iP:gC X (.builtin "abs") (fun xs H Q=>∃i,xs=[.int i]∧Q (.int (if i<0 then -i else i)) H):=by
 intro pins s σ H xs us Q I r h
 obtain⟨i,rfl,q⟩:=h
 obtain⟨u,rfl,t,rfl⟩:=vals1 r
 exact call_abs_int fun u tk=>⟨.int (if i<0 then -i else i),H,I.tok _,⟨_,rfl⟩,q⟩
theorem CL:gC X (.type "int") (fun xs H Q=>(∃i,xs=[.int i]∧Q (.int i) H)∨∃k,xs=[.bl k]∧Q (.int (if k then 1 else 0)) H):=by
 intro pins s σ H xs us Q I r h
 rcases h with⟨i,rfl,q⟩|⟨k,rfl,q⟩
 ·obtain⟨u,rfl,t,rfl⟩:=vals1 r
  exact call_int_int ⟨.int i,H,I,⟨_,rfl⟩,q⟩
 ·obtain⟨u,rfl,r1⟩:=vals1 r
  cases r1
  exact call_int_bool ⟨.int (if k then 1 else 0),H,I.tok _,⟨_,rfl⟩,q⟩
end
end L2
namespace L2
open PySem PySem.Spec PyProof.Rows
structure Hd(h:Heap)(x dx C:Addr)(mA:Str→Option Value):Prop where
 obj:h.get? x=some (PySem.W.instObj C dx)
 ns:h.Ns1 dx mA
 ne:dx≠x
theorem CM{h:Heap}{dx:Addr}{mA:Str→Option Value}(n:h.Ns1 dx mA):∃od,h.get? dx=some od∧∀name,PySem.W.lookIn name od=some (mA name):=by
 obtain⟨o,es,ep,ho,hd,hk,_,hm⟩:=n
 refine⟨o,ho,fun name=>?_⟩
 have e:=hm name
 unfold nsFind findBy at e
 rw[←Array.find?_toList]at e
 unfold PySem.W.lookIn
 rw[hd]
 dsimp only
 split
 ·rename_i y q
  rw[q]at e
  exact congrArg some e
 ·rename_i q
  rw[q]at e
  have a:es.toList.any (·.refKey)=false:=by
   rw[List.any_eq_false]
   intro y hy
   obtain⟨z,t,R5⟩:=hk y (Array.mem_toList_iff.mp hy)
   simp[DictEntry.refKey,R5]
  have a':¬es.toList.any (·.refKey)=true:=by rw[a];exact Bool.false_ne_true
  rw[if_neg a']
  exact congrArg some e
theorem Hd.look{h:Heap}{x dx C:Addr}{mA:Str→Option Value}(I:Hd h x dx C mA):∃od,PySem.W.InstAt h x (PySem.W.instObj C dx) C (some od)∧∀name,PySem.W.lookIn name od=some (mA name):=
 let ⟨od,ho,hl⟩:=CM I.ns
 ⟨od,⟨I.obj,rfl,rfl,ho⟩,hl⟩
section
variable{prog:Program}{w:World}{A:Around}{E:Value→Shared→Prop}{s:Shared}{K:PySem.W.Frag}{x dx C f:Addr}{mA:Str→Option Value}{name:Str}{v:Value}
end
theorem pL.some_of{v:V}{o:Option Value}(r:pL (some v) o):∃u,o=some u∧RelV v u:=by
 cases o with
 |none=>exact(show False from r).elim
 |some u=>exact⟨u,rfl,r⟩
section
variable{P:Program}{w:World}{H H':Hp}{h h':Heap}{a C dx:Addr}{fs U1:List (Str×V)}
theorem He(bj:gB P w H h)(e:H a=some (.ins C dx fs)):∃mA,Hd h a dx C mA∧(∀f,pL (fs.lookup f) (mA f))∧PySem.Within mA (fs.map (·.1))∧fs.length≤1000∧H dx=some (.own a):=by
 obtain⟨d,z,ne,ob,mA,n,r,q⟩:=(show bN P w H h a (.ins C dx fs)from bj a _ e)
 exact⟨mA,⟨ob,n,ne⟩,r,q,z,d⟩
end
structure ON(K:PySem.W.Frag)(C:Addr):Prop where
 pg:PySem.W.plainGet K C Str.empty=true
 hd:PySem.W.hasDictIn K C=true
 po:PySem.W.plainOver K C=true
 sa:PySem.W.findIn K (.ref C) "__setattr__" =some (some (.builtin "object.__setattr__"))
theorem ON.get{K:PySem.W.Frag}{C:Addr}(c:ON K C)(f:Str):PySem.W.plainGet K C f=true:=c.pg
structure en(K:PySem.W.Frag)(C:Addr)(f:Str)(v:V)(u:Value):Prop where
 at_:PySem.W.findIn K (.ref C) f=some (some u)
 rel:RelV v u
 get:PySem.W.specialIn K u "__get__" =some none
 cp:PySem.W.copiedNames.contains f=false
section
variable{X:Cx}{pins:List (Addr×Obj)}{σ:St}{H:Hp}{s:Shared}{a C dx:Addr}{fs:List (Str×V)}{f:Str}{v:V}{A:Around}{E:Value→Shared→Prop}
end
section
variable{X:Cx}{o e value:Expr}{f:Str}{pos pos' R6:Pos}{ta tv:TE}
end
section
variable{X:Cx}{pins:List (Addr×Obj)}{σ:St}{H:Hp}{s:Shared}{A:Around}{E:Value→Shared→Prop}{Q:Value→Shared→Prop}{c:Value}{b:Bool}
inductive kY(K:PySem.W.Frag)(H:Hp):V→Value→Prop where
 |bG:kY K H .bG (.type "NoneType")
 |bl (x:Bool):kY K H (.bl x) (.type "bool")
 |int (i:Int):kY K H (.int i) (.type "int")
 |str (x:Str):kY K H (.str x) (.type "str")
 |Fg (x:UInt64):kY K H (.Fg x) (.type "float")
 |lst {a:Addr}{xs:List V} (e:H a=some (.lst xs)):kY K H (.ref a) (.type "list")
 |fP {a:Addr}{o:Obj}{xs:List V} (e:H a=some (.fP o (.lst xs))):kY K H (.ref a) (.type "list")
 |tup {a:Addr}{xs:List V} (e:H a=some (.tup xs)):kY K H (.ref a) (.type "tuple")
 |dK {a:Addr}{aE:List (Key×V)} (e:H a=some (.dK aE)):kY K H (.ref a) (.type "dict")
 |dT {a:Addr}{aE:List (List Key×V)} (e:H a=some (.dT aE)):kY K H (.ref a) (.type "dict")
 |ins {a C dx:Addr}{fs:List (Str×V)} (e:H a=some (.ins C dx fs)) (cl:ON K C) (ha:PySem.W.findIn K (.ref C) "__class__" =some (some (.builtin "object.__class__")))
   (hn:PySem.W.specialIn K (.builtin "object.__class__") "__get__" =some (some (.builtin "getset_descriptor.__get__"))) (Fv:PySem.W.takesIn K (.builtin "object.__class__")=some true)
   (hm:PySem.W.mroIn K C (.type "object")=some true):kY K H (.ref a) (.ref C)
theorem CN{x:V}{u t:Value}(I:Inv X pins σ H s)(rx:RelV x u)(ty:kY X.K H x t)(e:PySem.W.kitOne X.K t c=some b)(h:∀tk,Q (.bool b) { s with toks:=tk }):
  wpAny (model X.prog X.w) A (call (.builtin "isinstance") [u,c]) Q E s:=by
 cases ty with
 |bG=>cases (show u=Value.none from rx);exact PySem.W.kia_one PySem.W.kitx_none I.nJ True.intro e (fun z=>nomatch z) h
 |bl y=>cases (show u=Value.bool y from rx);exact PySem.W.kia_one PySem.W.kitx_bool I.nJ True.intro e (fun z=>nomatch z) h
 |int i=>obtain⟨t,q⟩:=(show ∃t,u=Value.int i t from rx);cases q;exact PySem.W.kia_one PySem.W.kitx_int I.nJ True.intro e (fun z=>nomatch z) h
 |str y=>obtain⟨t,q⟩:=(show ∃t,u=Value.str y t from rx);cases q;exact PySem.W.kia_one PySem.W.kitx_str I.nJ True.intro e (fun z=>nomatch z) h
 |Fg y=>obtain⟨t,q⟩:=(show ∃t,u=Value.float y t from rx);cases q;exact PySem.W.kia_one PySem.W.kitx_float I.nJ True.intro e (fun z=>nomatch z) h
 |@lst a xs ea=>
  cases (show u=Value.ref a from rx)
  obtain⟨_,_,n,_,h1⟩:=(show bN X.prog X.w H s.heap a (.lst xs)from I.bj a _ ea)
  exact PySem.W.kia_one PySem.W.kitx_list I.nJ ⟨_,h1,rfl⟩ e (fun z=>nomatch z) h
 |@fP a ob xs ea=>
  cases (show u=Value.ref a from rx)
  obtain⟨_,_,_,n,_,h1⟩:=(show bN X.prog X.w H s.heap a (.fP ob (.lst xs))from I.bj a _ ea)
  exact PySem.W.kia_one PySem.W.kitx_list I.nJ ⟨_,h1,rfl⟩ e (fun z=>nomatch z) h
 |@tup a xs ea=>
  cases (show u=Value.ref a from rx)
  obtain⟨_,_,_,p⟩:=(show bN X.prog X.w H s.heap a (.tup xs)from I.bj a _ ea)
  obtain⟨o,h1,h2,_⟩:=p
  exact PySem.W.kia_one PySem.W.kitx_tuple I.nJ ⟨o,h1,h2⟩ e (fun z=>nomatch z) h
 |@dK a aE ea=>
  cases (show u=Value.ref a from rx)
  obtain⟨_,_,vs,_,p⟩:=(show bN X.prog X.w H s.heap a (.dK aE)from I.bj a _ ea)
  obtain⟨o,es,ep,h1,h2,_⟩:=p
  exact PySem.W.kia_one PySem.W.kitx_dict I.nJ ⟨o,h1,h2.1⟩ e (fun z=>nomatch z) h
 |@dT a aE ea=>
  cases (show u=Value.ref a from rx)
  obtain⟨_,_,xs,_,o,es,ep,h1,h2,_⟩:=(show bN X.prog X.w H s.heap a (.dT aE)from I.bj a _ ea)
  exact PySem.W.kia_one PySem.W.kitx_dict I.nJ ⟨o,h1,h2.1⟩ e (fun z=>nomatch z) h
 |@ins a C dx fs ea cl ha hn Fv hm=>
  cases (show u=Value.ref a from rx)
  obtain⟨mA,O,_⟩:=He I.bj ea
  obtain⟨od,J,_⟩:=O.look
  exact PySem.W.kia_one (PySem.W.kitx_own (cl.get _) cl.hd ha hn Fv hm) I.nJ J e (fun z=>nomatch z) h
end
end L2
namespace L2
open PySem PySem.Spec PyProof.Rows
structure fG(k:Nat)(A:Around):Prop where
 hd:A.handled=none
 dp:A.depth+3*k+5<recursionLimit
 un:A.units+16*k+200<cLine
theorem fG.mono{j k:Nat}{A:Around}(r:fG k A)(h:j≤k):fG j A:=⟨r.hd,by have:=r.dp;omega,by have:=r.un;omega⟩
theorem fG.deeper{k:Nat}{A:Around}(r:fG (k+1) A)(env:Env):fG k (A.deeper env):=
 ⟨r.hd,by have:=r.dp;show A.depth+1+3*k+5<_;omega,by have:=r.un;show A.units+3+16*k+200<_;omega⟩
theorem fG.depth{k:Nat}{A:Around}(r:fG k A):A.depth<recursionLimit:=by have:=r.dp;omega
theorem fG.units{k:Nat}{A:Around}(r:fG k A):A.units+64<cLine:=by have:=r.un;omega
def R7:TA:=fun _ H Q=>Q [] H
def OO(ta:TE)(tr:TA):TA:=fun σ H Q=>ta σ H fun x H1=>tr σ H1 fun xs H2=>Q (x::xs) H2
section
variable{X:Cx}{e:Expr}{es:List Expr}{te:TE}{t:TA}{pos:Pos}
theorem Lq:PA X [] R7:=fun _ _ _ _ H Q I h=>Calls.spliced_nil ⟨[],H,I,.nil,h⟩
theorem Hf(ha:PE X e te)(hr:PA X es t)(hs:starEach (e::es) X.env=(false,eval e X.env)::starEach es X.env:=by rfl):PA X (e::es) (OO te t):=by
 intro pos pins s σ H Q I h
 rw[hs]
 show wpAny _ _ (spliced ((false,eval e X.env)::backTo pos (starEach es X.env))) _ _ s
 refine Calls.spliced_cons (bL (ha pins s σ H _ I h) fun u s1 ⟨x,H1,I1,r1,q1⟩=>?_)
 exact bL (hr pos pins s1 σ H1 _ I1 q1) fun us s2 ⟨xs,H2,I2,r2,q2⟩=>⟨x::xs,H2,I2,.cons r1 r2,q2⟩
def R8(t:TA):TE:=fun σ H Q=>t σ H fun xs H1=>xs.length≤sizeLine∧∀p,H1 p=none→Q (.ref p) (upd H1 p (.tup xs))
def R9(t:TA):TE:=fun σ H Q=>t σ H fun xs H1=>xs.length≤sizeLine∧∀p,H1 p=none→Q (.ref p) (upd H1 p (.lst xs))
theorem Lr{x1}(h:PA X es t):PE X (.Tuple es x1 pos) (R8 t):=by
 intro pins s σ H Q I hq
 refine wpAny_Tuple_spliced (bL (h pos pins s σ H _ I hq) fun us s1 ⟨xs,H1,I1,r,z,q⟩=>⟨by rw[←r.length];exact z,?_⟩)
 have hf:H1 s1.heap.objs.size=none:=I1.bj.fresh (Nat.le_refl _)
 refine⟨.ref s1.heap.objs.size,upd H1 s1.heap.objs.size (.tup xs),I1.laid (t':=s1.toks) (fun b u e=>Heap.get?_push_of_some _ e) (Nat.le_refl _) ?_,rfl,q _ hf⟩
 exact⟨z,us,r,⟨_,Heap.get?_push_size _ rfl,rfl,_,rfl⟩⟩
theorem Ls(h:PA X es t):PE X (.List es pos) (R9 t):=by
 intro pins s σ H Q I hq
 refine wpAny_List_spliced (bL (h pos pins s σ H _ I hq) fun us s1 ⟨xs,H1,I1,r,z,q⟩=>⟨by rw[←r.length];exact z,?_⟩)
 have hf:H1 s1.heap.objs.size=none:=I1.bj.fresh (Nat.le_refl _)
 refine⟨.ref s1.heap.objs.size,upd H1 s1.heap.objs.size (.lst xs),I1.laid (t':=s1.toks) (fun b u e=>Heap.get?_push_of_some _ e) (Nat.le_refl _) ?_,rfl,q _ hf⟩
 exact⟨z,us,0,r,Heap.get?_push_size _ rfl⟩
end
abbrev Sp:=List V→Hp→VK→XK→Prop
abbrev uN:=List Env→Hp→Shared→XK→Value→Shared→Prop
structure Ea(P:Program)(w:World)(K:PySem.W.Frag)(mg:Str→Option Value)(base:Heap)(A:Around)(outer:List Env)(s:Shared)(H:Hp):Prop where
 frames:A.frames=some outer
 mod:Mod K mg base
 bs:∀b o,base.get? b=some o→s.heap.get? b=some o∧H b=none
 AF:base.objs.size≤s.heap.objs.size
 nN:s.heap.FunFrames base outer
 Fm:∀b∈vJ outer,H b=none
 bj:gB P w H s.heap
 bare:AllBare s.gens
def CE(outer:List Env)(P:Program)(w:World)(H:Hp)(s:Shared)(Q:VK)(u:Value)(s':Shared):Prop:=
 ∃v H',s'.os=s.os∧AllBare s'.gens∧Un (vJ outer) [] H H' s.heap s'.heap∧gB P w H' s'.heap∧RelV v u∧Q v H'
def CR(CX:uN)(outer:List Env)(P:Program)(w:World)(H:Hp)(s:Shared)(Q:VK)(E:XK)(r:Result)(s':Shared):Prop:=
 match r with
 |.ok (.ret u)=>CE outer P w H s Q u s'
 |.ok _=>False
 |.error e=>CX outer H s E e s'
structure bH(P:Program)(w:World)(K:PySem.W.Frag)(mg:Str→Option Value)(base:Heap)(CX:uN)(k:Nat)(f:Addr)(fd:FuncData)(ps:List Str)(sp:Sp):Prop where
 len:∀vs H Q E,sp vs H Q E→vs.length=ps.length
 run:∀(A:Around) (outer:List Env) (s:Shared) (H:Hp) (args:Args) (us:List Value) (vs:List V) (Q:VK) (E:XK),fG k A→Ea P w K mg base A outer s H→BindsTo s fd args (ps.zip us)→Vals vs us→sp vs H Q E→
  codeAny (model P w) A (.call (.ref f) args) (CR CX outer P w H s Q E) s
theorem bH.imp{P:Program}{w:World}{K:PySem.W.Frag}{mg:Str→Option Value}{base:Heap}{CX:uN}{k:Nat}{f:Addr}{fd:FuncData}{ps:List Str}{sp R_:Sp}(F:bH P w K mg base CX k f fd ps sp)
  (h:∀vs H Q E,R_ vs H Q E→sp vs H Q E):bH P w K mg base CX k f fd ps R_:=
 ⟨fun vs H Q E q=>F.len vs H Q E (h _ _ _ _ q),fun A outer s H args us vs Q E hr he hb hv hs=>F.run A outer s H args us vs Q E hr he hb hv (h _ _ _ _ hs)⟩
section
variable{X:Cx}{pins:List (Addr×Obj)}{σ:St}{H:Hp}{s s':Shared}
theorem Inv.Sa(I:Inv X pins σ H s):Ea X.prog X.w X.K X.mg X.base X.A X.stack s H:=
 ⟨I.ok.frames,I.ok.mod,I.bs,Nat.le_trans I.ok.AF I.sz,I.stack,I.AI,I.bj,I.bare⟩
theorem Inv.after{Q:VK}{u:Value}(I:Inv X pins σ H s)(h:CE X.stack X.prog X.w H s Q u s'):EP X pins σ Q u s':=by
 obtain⟨v,H',os,bare,un,bj,r,q⟩:=h
 obtain⟨hh,g,d,t,U9⟩:=s'
 obtain rfl:U9=s.os:=os
 exact⟨v,H',I.call (h':=hh) (g':=g) (d':=d) (t':=t) (ch:=[]) un bj bare (fun b z=>absurd z (by simp)),r,q⟩
end
def CP(sp:Sp)(qO:List V)(E:XK)(t:TA):TE:=fun σ H Q=>t σ H fun vs H1=>sp (vs++qO) H1 Q E
def Binds(K:PySem.W.Frag)(fd:FuncData)(ps:List Str)(ds:List Value):Prop:=
 ∀(s:Shared) (us:List Value),K.In s.heap→(us++ds).length=ps.length→BindsTo s fd ⟨us,[]⟩ (ps.zip (us++ds))
theorem Binds.all{K:PySem.W.Frag}{fd:FuncData}{ps:List Str}(h:∀us:List Value,us.length=ps.length→bindArgs fd ⟨us,[]⟩=pure (ps.zip us)):Binds K fd ps []:=fun s us _ hl=>by
 rw[List.append_nil]at hl ⊢
 exact .of_eq (h us hl)
def Passes(CX:uN)(X:Cx)(E:XK):Prop:=∀(pins:List (Addr×Obj)) (σ:St) (H:Hp) (s:Shared) (e:Value) (s':Shared),Inv X pins σ H s→CX X.stack H s E e s'→X.xe e s'
section
variable{X:Cx}{CX:uN}{k:Nat}{f C:Addr}{fd:FuncData}{ps:List Str}{sp:Sp}{qO:List V}{ds:List Value}{E:XK}{x m:Str}{p pos apos:Pos}{e o:Expr}{es:List Expr}{ta:TE}{t:TA}
theorem Eb{pins:List (Addr×Obj)}{σ:St}{H:Hp}{s:Shared}{Q:VK}{us:List Value}{vs:List V}(F:bH X.prog X.w X.K X.mg X.base CX k f fd ps sp)(hr:fG k X.A)(hb:Binds X.K fd ps ds)(hd:Vals qO ds)(hx:Passes CX X E)
  (I:Inv X pins σ H s)(r:Vals vs us)(h:sp (vs++qO) H Q E):wpAny (model X.prog X.w) X.A (call (.ref f) us) (EP X pins σ Q) X.xe s:=by
 have r2:Vals (vs++qO) (us++ds):=r.append hd
 have hl:(us++ds).length=ps.length:=by rw[←r2.length];exact F.len _ _ _ _ h
 refine wpAny_call (codeAny_mono (F.run X.A X.stack s H ⟨us,[]⟩ (us++ds) (vs++qO) Q E hr I.Sa (hb s us I.nJ hl) r2 h) fun r s' hq=>?_)
 cases r with
 |error e=>exact hx pins σ H s e s' I hq
 |ok fl=>
  cases fl with
  |ret u=>exact I.after hq
  |next=>exact False.elim hq
  |brk=>exact False.elim hq
  |cont=>exact False.elim hq
theorem Hg(F:bH X.prog X.w X.K X.mg X.base CX k f fd ps sp)(hr:fG k X.A)(hg:Gl X x)(hm:X.mg x=some (.ref f))(hk:PySem.W.keepIn X.K (.ref f)=true)(hb:Binds X.K fd ps ds)(hd:Vals qO ds)(hx:Passes CX X E)
  (ha:PA X (e::es) t)(sP:(x==("__debug__":Str))=false:=by decide)(he:starEach (e::es) X.env=(false,eval e X.env)::starEach es X.env:=by rfl)(dJ:(backTo pos (starEach es X.env)).any (·.1)=false:=by rfl):
  PE X (.Call (.Name x p) (e::es) [] pos) (CP sp qO E t):=by
 intro pins s σ H Q I h
 refine wpAny_Call_Name_kw (AJ I hg hm ?_ sP)
 refine PySem.W.callWith_K (h₀:=X.base) I.ok.mod.Fj hk (bL (ha pos pins s σ H _ I h) fun us s1 ⟨vs,H1,I1,r,q⟩=>⟨I1.nJ,?_⟩) he dJ
 exact Eb F hr hb hd hx I1 r q
end
section
variable{X:Cx}{CX:uN}{k:Nat}{f C:Addr}{fd:FuncData}{ps ks:List Str}{sp:Sp}{E:XK}{x m:Str}{p pos apos Yh:Pos}{e o:Expr}{es:List Expr}{Yw:List Keyword}{te ta:TE}{t tk:TA}{nm:Option Str}
variable{g:List Value→List Value→List Value}{gV:List V→List V→List V}
end
structure aL(N P:List Str)(sc:Scope):Prop where
 kind:sc.kind= .function
 co:sc.isCoroutine=false
 gen:sc.isGenerator=false
 nd:N.Nodup
 pre:N.take P.length=P
 par:∀x∈P,sc.names.lookup x=some .local∨sc.names.lookup x=some .cell
 Lu:∀y∈sc.names,y.2≠.free
theorem vN{kindOf:Str→Option NameKind}{x:Str}:∀{binds:List (Str×Value)}{m:Str→Option Value},(∀v,(x,v)∉binds)→bindL kindOf binds m x=m x
 |[],_,_=>rfl
 |(n,v)::r,m,h=>by
  unfold bindL
  rw[vN fun w hw=>h w (List.mem_cons_of_mem _ hw)]
  split
  ·have:x≠n:=by rintro rfl;exact h v List.mem_cons_self
   simp[this]
  ·rfl
theorem vO{kindOf:Str→Option NameKind}{x:Str}:∀{binds:List (Str×Value)}{m:Str→Option Value},(∀v,(x,v)∉binds)→bindC kindOf binds m x=m x
 |[],_,_=>rfl
 |(n,v)::r,m,h=>by
  unfold bindC
  rw[vO fun w hw=>h w (List.mem_cons_of_mem _ hw)]
  split
  ·rfl
  ·have:x≠n:=by rintro rfl;exact h v List.mem_cons_self
   simp[this]
theorem vP{kindOf:Str→Option NameKind}{x:Str}{v:Value}:∀{P:List Str}{vs:List Value}{i:Nat}{m:Str→Option Value},P.Nodup→P[i]? =some x→vs[i]? =some v→kindOf x=some .local→
  bindL kindOf (P.zip vs) m x=some v
 |[],_,_,_,_,h,_,_=>by simp at h
 |_::_,[],_,_,_,_,h,_=>by simp at h
 |p::P,w::vs,0,m,nd,h1,h2,hk=>by
  simp at h1 h2;subst h1;subst h2
  show bindL kindOf ((p,w)::P.zip vs) m p=_
  unfold bindL
  rw[vN fun v hv=>(List.nodup_cons.mp nd).1 (List.of_mem_zip hv).1,if_pos hk]
  simp
 |p::P,w::vs,i+1,m,nd,h1,h2,hk=>by
  show bindL kindOf ((p,w)::P.zip vs) m x=_
  unfold bindL
  exact vP (i:=i) (List.nodup_cons.mp nd).2 (by simpa using h1) (by simpa using h2) hk
theorem vQ{kindOf:Str→Option NameKind}{x:Str}{v:Value}:∀{P:List Str}{vs:List Value}{i:Nat}{m:Str→Option Value},P.Nodup→P[i]? =some x→vs[i]? =some v→kindOf x≠some .local→
  bindC kindOf (P.zip vs) m x=some v
 |[],_,_,_,_,h,_,_=>by simp at h
 |_::_,[],_,_,_,_,h,_=>by simp at h
 |p::P,w::vs,0,m,nd,h1,h2,hk=>by
  simp at h1 h2;subst h1;subst h2
  show bindC kindOf ((p,w)::P.zip vs) m p=_
  unfold bindC
  rw[vO fun v hv=>(List.nodup_cons.mp nd).1 (List.of_mem_zip hv).1,if_neg hk]
  simp
 |p::P,w::vs,i+1,m,nd,h1,h2,hk=>by
  show bindC kindOf ((p,w)::P.zip vs) m x=_
  unfold bindC
  exact vQ (i:=i) (List.nodup_cons.mp nd).2 (by simpa using h1) (by simpa using h2) hk
def start(N:List Str)(vs:List V):St:=vs.map some++List.replicate (N.length - vs.length) none
def qP(CX:uN)(P:Program)(w:World)(K:PySem.W.Frag)(mg:Str→Option Value)(base:Heap)(N:List Str)(qual:Str)(scope:Scope)(f:Addr)(cd:Value)(A:Around)(outer:List Env)(s:Shared)(H:Hp)(E:XK):Cx where
 prog:=P
 w:=w
 K:=K
 mg:=mg
 base:=base
 A:=A.deeper (envOfC qual scope s.heap.objs.size f cd)
 N:=N
 bE:=s
 cQ:=H
 env:=envOfC qual scope s.heap.objs.size f cd
 outer:=outer
 stack:=envOfC qual scope s.heap.objs.size f cd::outer
 ex:=[]
 calm:=true
 fn:=fun _=>true
 pn:=[]
 xe:=fun e s'=>wpAny (model P w) (A.deeper (envOfC qual scope s.heap.objs.size f cd)) (leaving (envOfC qual scope s.heap.objs.size f cd) e) (fun _ OP=>CX outer H s E e OP) (fun e' OP=>CX outer H s E e' OP) s'
theorem ye{sc:Scope}{n:Nat}{x:Str}(h:sc.names.lookup x=some .cell):∃c,(cellsFrom n sc.names []).lookup x=some c:=by
 have q:=PySem.W.cellsFrom_some sc.names n [] (.inl h)
 exact Option.isSome_iff_exists.mp q
theorem CQ{CX:uN}{P:Program}{w:World}{K:PySem.W.Frag}{mg:Str→Option Value}{base:Heap}{N ps:List Str}{qual:Str}{scope:Scope}{f:Addr}{cd:Value}{A:Around}{outer:List Env}{s s1:Shared}{H:Hp}{E:XK}{us:List Value}{vs:List V}
  (S:aL N ps scope)(hd:A.handled=none)(e0:Ea P w K mg base A outer s H)(hl:vs.length=ps.length)(r:Vals vs us)
  (x:InCallC s s.heap.objs.size (bindL (envOfC qual scope s.heap.objs.size f cd).kindOf (ps.zip us) fun _=>none) (cellsFrom (s.heap.objs.size+1) scope.names []) (bindC (envOfC qual scope s.heap.objs.size f cd).kindOf (ps.zip us) fun _=>none) s1):
  Inv (qP CX P w K mg base N qual scope f cd A outer s H E) [] (start N vs) H s1:=by
 have dJ:ps.length≤N.length:=by have:=congrArg List.length S.pre;rw[List.length_take]at this;omega
 obtain⟨h1,tk,rfl,hk⟩:=x.done
 have Hh:∀b:Addr,b∉(qP CX P w K mg base N qual scope f cd A outer s H E).ex:=fun b z=>absurd (show b∈([]:List Addr)from z) (by simp)
 refine⟨⟨e0.mod,S.kind,rfl,rfl,Nat.le_refl _,fun y z c h1 h2=>?_,fun y hy=>?_,fun y c _ h=>?_,fun _=>hd,Around.frames_deeper e0.frames,.inr ⟨rfl,rfl⟩,fun b z=>absurd z (Hh b),e0.bs,e0.AF,fun b _ _=>Hh b,fun b z=>absurd z (Hh b),e0.nN,e0.Fm⟩,
  rfl,e0.bare,Un.kept hk,⟨_,x.toInCall.ns,fun i y v h1 h2 h3=>?_⟩,fun y c h=>⟨_,x.cell y c h⟩,e0.bj.fresh (Nat.le_refl _),fun y c h=>?_,fun p hp=>absurd (show p∈([]:List (Addr×Obj))from hp) (by simp),e0.bj.kept hk,?_⟩
 ·exact name_of_addr x.apart (PySem.mem_of_lookup h1) (PySem.mem_of_lookup h2)
 ·have hy:scope.names.lookup y=some .cell∨scope.names.lookup y=some .free:=hy
  rcases hy with hy|hy
  ·exact ye hy
  ·exact absurd rfl (S.Lu _ (PySem.mem_of_lookup hy))
 ·exact Nat.le_of_lt (x.above y c (PySem.mem_of_lookup h))
 ·have hi:i<vs.length:=by
   unfold start at h2
   by_cases hi:i<vs.length
   ·exact hi
   ·rw[List.getElem?_append_right (by simpa using hi)]at h2
    rw[List.getElem?_replicate]at h2
    split at h2<;>cases h2
  have ha:vs[i]? =some v:=by
   unfold start at h2
   rw[List.getElem?_append_left (by simpa using hi),List.getElem?_map]at h2
   cases e:vs[i]? with
   |none=>rw[e]at h2;cases h2
   |some a=>rw[e]at h2;cases h2;rfl
  obtain⟨u,hu,rv⟩:=r.get ha
  have hp:ps[i]? =some y:=by
   rw[←S.pre,List.getElem?_take_of_lt (by omega)];exact h1
  have Sb:ps.Nodup:=by rw[←S.pre];exact S.nd.sublist (List.take_sublist _ _)
  refine⟨u,rv,?_⟩
  rcases S.par y (List.mem_of_getElem? hp)with k|k
  ·exact .inl ⟨k,vP Sb hp hu k⟩
  ·obtain⟨c,e⟩:=ye (n:=s.heap.objs.size+1) k
   refine .inr ⟨.inl k,c,e,?_⟩
   have q:=x.cell y c e
   rw[vQ Sb hp hu (by show scope.names.lookup y≠_;rw[k];decide)]at q
   exact q
 ·exact e0.bj.fresh (Nat.le_of_lt (x.above y c (PySem.mem_of_lookup h)))
 ·unfold start
  show _=N.length
  rw[List.length_append,List.length_map,List.length_replicate]
  omega
theorem Hi{CX:uN}{P:Program}{w:World}{K:PySem.W.Frag}{mg:Str→Option Value}{base:Heap}{k:Nat}{f:Addr}{name qual:Str}{params:Arguments}{body:List Stmt}{scope:Scope}{dV kV doc pm bz ct oc:Value}{an od:Option Addr}
  {kN:Array (Option Value)}{N ps:List Str}{sp:Sp}(lk:K.lookup f=some ⟨oc,od,.func (PySem.W.fnOf name qual params body scope dV kV doc pm an bz ct),kN⟩)(sM:PySem.W.codeIn K bz qual=true)(S:aL N ps scope)
  (len:∀vs H Q E,sp vs H Q E→vs.length=ps.length)
  (mM:∀(A:Around) (outer:List Env) (s:Shared) (H:Hp) (vs:List V) (Q:VK) (E:XK),fG k (A.deeper (envOfC qual scope s.heap.objs.size f bz))→sp vs H Q E→
   ∃t,nK (qP CX P w K mg base N qual scope f bz A outer s H E) body t∧t { nx:=fun _ H'=>Q .bG H',rt:=Q } (start N vs) H):
  bH P w K mg base CX (k+1) f (PySem.W.fnOf name qual params body scope dV kV doc pm an bz ct) ps sp:=by
 refine⟨len,fun A outer s H args us vs Q E hr e0 hb r xT=>?_⟩
 have hl:=len _ _ _ _ xT
 have KX:K.In s.heap:=e0.mod.Fj.keeps fun b o e=>(e0.bs b o e).1
 have lim:s.heap.NoLimit:=e0.mod.nolimit.keeps fun b o e=>(e0.bs b o e).1
 have OR:∀y∈ps.zip us,scope.names.lookup y.1=some .local∨(scope.names.lookup y.1=some .cell∧((cellsFrom (s.heap.objs.size+1) scope.names []).lookup y.1).isSome=true):=by
  rintro⟨n,v⟩ hy
  rcases S.par n (List.of_mem_zip hy).1 with q|q
  ·exact .inl q
  ·exact .inr ⟨q,PySem.W.cellsFrom_some _ _ _ (.inl q)⟩
 refine codeAny_call_function hr.depth (KX _ _ lk) rfl S.co S.gen rfl (PySem.W.codeRec_of KX sM) (hb _ _ _ _ ?_)
 refine wpAny_newFunctionEnv_cells S.kind OR fun env he s1 x=>?_
 subst he
 refine⟨lim.keeps x.toInCall.keep,codeAny_func ?_⟩
 obtain⟨t,ht,hq⟩:=mM A outer s H vs Q E (hr.deeper _) xT
 have I:Inv (qP CX P w K mg base N qual scope f bz A outer s H E) [] (start N vs) H s1:=CQ S hr.hd e0 hl r x
 refine wpAny_mono (ht [] s1 (start N vs) H _ I hq) (fun fl s' hs=>?_) fun e s' hs=>hs
 have fin:∀{σ':St}{H':Hp}{v:V}{u:Value},Inv (qP CX P w K mg base N qual scope f bz A outer s H E) [] σ' H' s'→RelV v u→Q v H'→CE outer P w H s Q u s':=
  fun {σ' H' v u} J rv q=>⟨v,H',J.os,J.bare,J.base,J.bj,rv,q⟩
 cases fl with
 |ret u=>
  obtain⟨v,σ',H',J,rv,q⟩:=hs
  exact fin J rv q
 |next=>
  obtain⟨σ',H',J,q⟩:=hs
  exact fin (v:=V.bG) (u:=Value.none) J rfl q
 |brk=>
  obtain⟨_,_,_,q⟩:=hs
  exact False.elim q
 |cont=>
  obtain⟨_,_,_,q⟩:=hs
  exact False.elim q
end L2
namespace L2
open PySem PySem.Spec PyProof.Rows
section
variable{X:Cx}{x:Str}{p pos:Pos}{e:Expr}{es:List Expr}{t:TA}{id T:String}{r:List V→Hp→VK→Prop}
def OS(r:List V→Hp→VK→Prop)(t:TA):TE:=fun σ H Q=>t σ H fun vs H1=>r vs H1 Q
theorem Fw(hc:gC X (.builtin id) r)(hg:Gl X x)(hm:X.mg x=none)(hv:bootBuiltins x=some (.builtin id))(ha:PA X (e::es) t)(hn:x≠"__name__":=by decide)(sP:(x==("__debug__":Str))=false:=by decide)
  (he:starEach (e::es) X.env=(false,eval e X.env)::starEach es X.env:=by rfl)(dJ:(backTo pos (starEach es X.env)).any (·.1)=false:=by rfl):PE X (.Call (.Name x p) (e::es) [] pos) (OS r t):=by
 intro pins s σ H Q I h
 refine wpAny_Call_Name_kw (gi I hg hm hv ?_ hn sP)
 exact PyProof.Rows.callWith_builtin1 (bL (ha pos pins s σ H _ I h) fun us s1 ⟨vs,H1,I1,r1,q1⟩=>hc pins s1 σ H1 vs us Q I1 r1 q1) he dJ
theorem CS(hc:gC X (.type T) r)(hg:Gl X x)(hm:X.mg x=none)(hv:bootBuiltins x=some (.type T))(ha:PA X (e::es) t)(hn:x≠"__name__":=by decide)(sP:(x==("__debug__":Str))=false:=by decide)
  (he:starEach (e::es) X.env=(false,eval e X.env)::starEach es X.env:=by rfl)(dJ:(backTo pos (starEach es X.env)).any (·.1)=false:=by rfl):PE X (.Call (.Name x p) (e::es) [] pos) (OS r t):=by
 intro pins s σ H Q I h
 refine wpAny_Call_Name_kw (gi I hg hm hv ?_ hn sP)
 exact PyProof.Rows.callWith_type1 (bL (ha pos pins s σ H _ I h) fun us s1 ⟨vs,H1,I1,r1,q1⟩=>hc pins s1 σ H1 vs us Q I1 r1 q1) he dJ
end
end L2
namespace HT
open PySem PyProof.Rows
section
open PySem.SeqAt
open PySem.AutoSeq1 (wpAny_loadPart')
open PySem.MeetsSeq PySem.MeetsSeq2 PySem.MeetsSeq3
end
section
variable{prog:Program}{w:World}{A:Around}{E:Value→Shared→Prop}{s:Shared}
theorem Hj{t b:Addr}{vs ws:List Value}{Q:Value→Shared→Prop}(ht:IsTup s.heap t vs.toArray)(hb:IsTup s.heap b ws.toArray)(hv:vs≠[])
  (h1:ws=[]→Q (.ref t) s)(h2:ws≠[]→Q (.ref s.heap.objs.size) { s with heap:=s.heap.push { cls:=.type "tuple",data:=.seq (vs++ws).toArray } })
  (hsz:vs.length+ws.length≤sizeLine):wpAny (model prog w) A (binaryOp .Add (.ref t) (.ref b)) Q E s:=by
 obtain⟨⟨cls,dd,data,sl⟩,ho,hc,n,hd⟩:=id ht
 obtain⟨⟨Yi,Se,data2,Sf⟩,Ff,Lv,n2,hd2⟩:=id hb
 simp only at hc hd Lv hd2
 subst hc hd Lv hd2
 have e:vs.toArray++ws.toArray=(vs++ws).toArray:=by simp
 by_cases hw:ws=[]
 ·exact concat_meets ⟨_,ho,rfl⟩ ⟨_,Ff,rfl⟩ noFill_tuple_add seq_tuple_add PySem.F.slot_tuple_add PySem.F.entry_tuple_add (PySem.F.args_tuple_add_2 _ _)
   (tuple_addW1 t b vs.toArray ws.toArray n n2 dd Se sl Sf (by simpa using hv) (by simp[hw])) ⟨ho,Ff,h1 hw⟩
 ·refine concat_meets ⟨_,ho,rfl⟩ ⟨_,Ff,rfl⟩ noFill_tuple_add seq_tuple_add PySem.F.slot_tuple_add PySem.F.entry_tuple_add (PySem.F.args_tuple_add_2 _ _)
   (tuple_addW2 t b vs.toArray ws.toArray n n2 dd Se sl Sf (by simpa using hv) (by simpa using hw) (by rw[List.size_toArray,List.size_toArray];exact hsz)) ⟨ho,Ff,?_⟩
  rw[e]
  exact h2 hw
def cq(n d:Nat):Option Int→Nat
 |none=>d
 |some v=>if v<0 then(v+(n:Int)).toNat else min v.toNat n
theorem Lw(n d:Nat)(hd:d≤n)(o:Option Int):cq n d o≤n:=by
 cases o with
 |none=>exact hd
 |some v=>
  show(if v<0 then(v+(n:Int)).toNat else min v.toNat n)≤n
  by_cases hv:v<0
  ·rw[if_pos hv];omega
  ·rw[if_neg hv];exact Nat.min_le_right _ _
theorem AW(v:Int)(n d:Nat):(if v<0 then max (v+(n:Int)) 0 else min v (n:Int))=((cq n d (some v):Nat):Int):=by
 show(if v<0 then max (v+(n:Int)) 0 else min v (n:Int))=(((if v<0 then(v+(n:Int)).toNat else min v.toNat n):Nat):Int)
 by_cases hv:v<0
 ·simp only[if_pos hv];omega
 ·simp only[if_neg hv];omega
theorem AX(lo hi:Option Int)(n:Nat):Builtin.Slice.sliceAdjust lo hi 1 (n:Int)=(((cq n 0 lo:Nat):Int),((cq n n hi:Nat):Int)):=by
 have h1:¬((1:Int)<0):=by omega
 unfold Builtin.Slice.sliceAdjust
 simp only[h1,if_false]
 refine Prod.ext ?_ ?_
 ·cases lo with
  |none=>rfl
  |some v=>exact AW v n 0
 ·cases hi with
  |none=>rfl
  |some v=>exact AW v n n
theorem AY(i j:Nat):Builtin.Slice.slicePlaces (i:Int) (j:Int) 1=j - i:=by
 unfold Builtin.Slice.slicePlaces
 have h1:(1:Int) > 0:=by omega
 simp only[h1,if_true,Int.ediv_one]
 split<;>omega
theorem tX{v:Value}{o:Option Int}{Q:Option Int→Shared→Prop}(p:IsPart v o)(h:Q o s):wpAny (model prog w) A (Builtin.Slice.slicePartIndex v) Q E s:=by
 cases p with
 |none=>exact slicePart_none h
 |int i t=>exact slicePart_int h
theorem kZ{sl:Addr}{vl vu:Value}{lo hi:Option Int}{n:Nat}{Q:Int×Int×Nat→Shared→Prop}(hs:s.heap.IsSliceOf sl vl vu .none)(pl:IsPart vl lo)(pu:IsPart vu hi)
  (h:Q (((cq n 0 lo:Nat):Int),1,cq n n hi - cq n 0 lo) s):wpAny (model prog w) A (Builtin.Slice.sliceApplied (.ref sl) (pure (n:Int))) Q E s:=by
 obtain⟨os,CT,Lx,Hk⟩:=id hs
 unfold Builtin.Slice.sliceApplied Builtin.Slice.sliceFields
 refine wpAny_bind (wpAny_bind (wpAny_field CT Hk (x:=vl) rfl (wpAny_bind (wpAny_field CT Hk (x:=vu) rfl (wpAny_bind (wpAny_field CT Hk (x:=.none) rfl (wpAny_pure ?_)))))))
 refine wpAny_bind (slicePart_none ?_)
 show wpAny _ _ (if ((1:Int)==0)=true then _ else _) _ _ s
 rw[if_neg (by decide)]
 refine wpAny_bind (tX pl (wpAny_bind (tX pu (wpAny_bind (wpAny_pure ?_)))))
 show wpAny _ _ (match Builtin.Slice.sliceAdjust lo hi 1 (n:Int)with|(lo,hi)=>pure (lo,(1:Int),Builtin.Slice.slicePlaces lo hi 1)) _ _ s
 rw[AX lo hi n]
 show wpAny _ _ (pure (((cq n 0 lo:Nat):Int),(1:Int),Builtin.Slice.slicePlaces ((cq n 0 lo:Nat):Int) ((cq n n hi:Nat):Int) 1)) _ _ s
 rw[AY]
 exact wpAny_pure h
theorem Fx(xs:Array Value)(i k:Nat):((List.range k).filterMap fun(m:Nat)=>xs[((i:Int)+(m:Int)*1).toNat]?).toArray=((xs.toList.drop i).take k).toArray:=by
 have e:(fun(m:Nat)=>xs[((i:Int)+(m:Int)*1).toNat]?)=fun m=>xs[i+m]? :=by
  funext m
  have:((i:Int)+(m:Int)*1).toNat=i+m:=by omega
  rw[this]
 rw[e]
 have:=pick_run xs i k
 rw[List.filterMap_map]at this
 have e2:((fun x=>xs[x]?) ∘ fun x=>i+x)=fun m=>xs[i+m]? :=rfl
 rw[e2]at this
 rw[this]
theorem qj{t sl:Addr}{items:Array Value}{vl vu:Value}{lo hi:Option Int}{Q:Value→Shared→Prop}(ht:IsTup s.heap t items)(hs:s.heap.IsSliceOf sl vl vu .none)(pl:IsPart vl lo)(pu:IsPart vu hi)
  (hw:¬(cq items.size 0 lo=0∧cq items.size items.size hi=items.size))
  (h:Q (.ref s.heap.objs.size) { s with heap:=s.heap.push { cls:=.type "tuple",data:=.seq ((items.toList.drop (cq items.size 0 lo)).take (cq items.size items.size hi - cq items.size 0 lo)).toArray } })
  (hsz:items.size≤sizeLine):wpAny (model prog w) A (getItem (.ref t) (.ref sl)) Q E s:=by
 have zu:sizeOk (.seq ((items.toList.drop (cq items.size 0 lo)).take (cq items.size items.size hi - cq items.size 0 lo)).toArray):=by
  show((items.toList.drop (cq items.size 0 lo)).take (cq items.size items.size hi - cq items.size 0 lo)).toArray.size≤sizeLine
  rw[List.size_toArray,List.length_take,List.length_drop,Array.length_toList]
  omega
 have hj:cq items.size items.size hi≤items.size:=Lw _ _ (Nat.le_refl _) hi
 obtain⟨os,CT,Lx,Hk⟩:=id hs
 have OT:s.TypeIs (.ref sl) "slice":=⟨os,CT,Lx⟩
 unfold getItem
 try with_reducible refine wpAny_holding ?_
 first|refine wpAny_bind (wpAny_pure ?_)|skip
 refine wpAny_bind (wpAny_sequenceKey ht.typeIs (by decide) ?_)
 refine wpAny_bind (wpAny_callSpecial?_slot (name:=Str.ofString "__getitem__") ht.typeIs PyProof.Rows.slot_tuple_getitem
  (wpAny_call_entry PyProof.Rows.slot_tuple_getitem ht.typeIs entry_tuple_getitem ?_ (args_tuple_getitem _ _)))
 show wpAny _ _ (Builtin.Tuple.tupleItemsOf (.ref t) >>= _) _ _ s
 refine wpAny_bind (tupleItemsOf_ ht ?_)
 refine wpAny_bind (wpAny_typeOf OT ?_)
 rw[if_pos (by decide)]
 refine wpAny_bind (kZ hs pl pu ?_)
 have Fy:¬((((cq items.size 0 lo:Nat):Int)==0&&(1:Int)==1&&(cq items.size items.size hi - cq items.size 0 lo)==items.size)=true):=by
  intro q
  rw[Bool.and_eq_true,Bool.and_eq_true]at q
  have q1:((cq items.size 0 lo:Nat):Int)=0:=eq_of_beq q.1.1
  have q2:cq items.size items.size hi - cq items.size 0 lo=items.size:=eq_of_beq q.2
  exact hw ⟨by omega,by omega⟩
 show wpAny _ _ (if (((cq items.size 0 lo:Nat):Int)==0&&(1:Int)==1&&(cq items.size items.size hi - cq items.size 0 lo)==items.size)=true then _ else _) _ _ s
 rw[if_neg Fy,Fx]
 first
  |exact wpAny_bind (m:=Builtin.Tuple.tupleExact _) (wpAny_newObj_type (wpAny_pure ⟨_,rfl,wpAny_pure h⟩) zu)
  |exact wpAny_bind (m:=Builtin.Tuple.tupleExact _) (wpAny_newObj_type (wpAny_bind (wpAny_pure (wpAny_pure ⟨_,rfl,wpAny_pure h⟩))) zu)
  |exact wpAny_bind (wpAny_bind (m:=Builtin.Tuple.tupleExact _) (wpAny_newObj_type (wpAny_pure (wpAny_pure ⟨_,rfl,wpAny_pure h⟩)) zu))
  |exact wpAny_bind (wpAny_bind (m:=Builtin.Tuple.tupleExact _) (wpAny_newObj_type (wpAny_pure ⟨_,rfl,wpAny_pure h⟩) zu))
end
end HT
namespace L2
open PySem PySem.Spec PyProof.Rows
abbrev TO:=St→Hp→(Option Int→Hp→Prop)→Prop
namespace Zu
set_option allowUnsafeReducibility true in
@[scoped irreducible] def _root_.L2.PO(X:Cx)(e:Option Expr)(t:TO):Prop:=
 ∀(pins:List (Addr×Obj)) (s:Shared) (σ:St) (H:Hp) (Q:Option Int→Hp→Prop),Inv X pins σ H s→t σ H Q→
  wpAny (model X.prog X.w) X.A (evalPart e X.env) (fun u s'=>∃o H',Inv X pins σ H' s'∧IsPart u o∧Q o H') X.xe s
end Zu
def Hl:TO:=fun _ H Q=>Q none H
def OU(t:TE):TO:=fun σ H Q=>t σ H fun x H1=>∃i,x= .int i∧Q (some i) H1
section
variable{X:Cx}{e:Expr}{te:TE}{lo hi:Option Expr}{tl th:TO}{pos p2:Pos}
theorem Hm:PO X none Hl:=by
 intro pins s σ H Q I h
 rw[evalPart_none]
 exact wpAny_pure ⟨none,H,I,.none,h⟩
theorem Hn(h:PE X e te):PO X (some e) (OU te):=by
 intro pins s σ H Q I hw
 rw[evalPart_some]
 refine bL (h pins s σ H _ I hw) fun u s1 ⟨x,H1,I1,r1,q1⟩=>?_
 obtain⟨i,rfl,q⟩:=q1
 obtain⟨t,rfl⟩:=r1
 exact⟨some i,H1,I1,.int i t,q⟩
def zv(X:Cx)(r:V→Option Int→Option Int→Hp→VK→Prop):Prop:=
 ∀(pins:List (Addr×Obj)) (s:Shared) (σ:St) (H:Hp) (x:V) (v vl vu:Value) (lo hi:Option Int) (sl:Addr) (Q:VK),Inv X pins σ H s→RelV x v→s.heap.IsSliceOf sl vl vu .none→IsPart vl lo→IsPart vu hi→r x lo hi H Q→
  ∃T id,typeLookup (.type T) "__getitem__" =pure (some (.builtin id))∧s.TypeIs v T∧wpAny (model X.prog X.w) X.A (getItem v (.ref sl)) (EP X pins σ Q) X.xe s
theorem zv.or{r r':V→Option Int→Option Int→Hp→VK→Prop}(h:zv X r)(h':zv X r'):zv X (fun x lo hi H Q=>r x lo hi H Q∨r' x lo hi H Q):=by
 intro pins s σ H x v vl vu lo hi sl Q I rx hs pl pu q
 rcases q with q|q
 ·exact h pins s σ H x v vl vu lo hi sl Q I rx hs pl pu q
 ·exact h' pins s σ H x v vl vu lo hi sl Q I rx hs pl pu q
def U_(r:V→Option Int→Option Int→Hp→VK→Prop)(te:TE)(tl th:TO):TE:=fun σ H Q=>te σ H fun x H1=>tl σ H1 fun l H2=>th σ H2 fun u H3=>r x l u H3 Q
theorem Fz{r:V→Option Int→Option Int→Hp→VK→Prop}(hr:zv X r)(he:PE X e te)(hl:PO X lo tl)(hu:PO X hi th):PE X (.Subscript e (.Slice lo hi none p2) pos) (U_ r te tl th):=by
 intro pins s σ H Q I h
 refine Subscript_ (bL (he pins s σ H _ I h) fun v s1 ⟨x,H1,I1,r1,q1⟩=>?_)
 refine wpAny_Slice (bL (hl pins s1 σ H1 _ I1 q1) fun vl s2 ⟨l,H2,I2,pl,q2⟩=>bL (hu pins s2 σ H2 _ I2 q2) fun vu s3 ⟨u,H3,I3,pu,q3⟩=>?_)
 rw[evalPart_none]
 refine wpAny_pure ?_
 have I4:Inv X pins σ H3 { s3 with heap:=s3.heap.push { cls:=.type "slice",data:=.fields #[vl,vu,.none] } }:=I3.kept (t':=s3.toks) fun b ob q=>Heap.get?_push_of_some _ q
 obtain⟨T,id,hT,ht,hg⟩:=hr pins { s3 with heap:=s3.heap.push { cls:=.type "slice",data:=.fields #[vl,vu,.none] } } σ H3 x v vl vu l u s3.heap.objs.size Q I4 r1 (Heap.IsSliceOf.new ..) pl pu q3
 show wpAny (model X.prog X.w) X.A (subscriptTail e (.Slice lo hi none p2) v (.ref s3.heap.objs.size)) (EP X pins σ Q) X.xe { s3 with heap:=s3.heap.push { cls:=.type "slice",data:=.fields #[vl,vu,.none] } }
 exact tail_any (ops:=[.ref s3.heap.objs.size,v]) ht hT hg (by with_unfolding_all rfl)
def nP(xs:List V)(lo hi:Option Int):List V:=(xs.drop (HT.cq xs.length 0 lo)).take (HT.cq xs.length xs.length hi - HT.cq xs.length 0 lo)
theorem qQ(xs:List V)(lo hi:Option Int):(nP xs lo hi).length≤xs.length:=by
 unfold nP
 rw[List.length_take,List.length_drop]
 omega
def NJ(K:PySem.W.Frag):V→Option Int→Option Int→Hp→VK→Prop:=fun x lo hi H Q=>∃a xs,x= .ref a∧cN K H a xs∧
 ¬(HT.cq xs.length 0 lo=0∧HT.cq xs.length xs.length hi=xs.length)∧∀p,H p=none→Q (.ref p) (upd H p (.tup (nP xs lo hi)))
theorem Ly:zv X (NJ X.K):=by
 intro pins s σ H x v vl vu lo hi sl Q I rx hs pl pu h
 obtain⟨a,xs,rfl,hx,hw,q⟩:=h
 cases rx
 obtain⟨its,r,ht,hz⟩:=I.tuple hx
 have hlen:its.toArray.size=xs.length:=by rw[List.size_toArray];exact r.length.symm
 refine⟨"tuple",_,PyProof.Rows.slot_tuple_getitem.lookup,ht.typeIs,?_⟩
 refine HT.qj ht hs pl pu (by rw[hlen];exact hw) ?_ (by rw[hlen];exact hz)
 rw[hlen]
 refine⟨.ref s.heap.objs.size,_,I.laid (t':=s.toks) (o:=.tup (nP xs lo hi)) (fun b ob q=>Heap.get?_push_of_some _ q) (Nat.le_refl _) ?_,rfl,q _ (I.bj.fresh (Nat.le_refl _))⟩
 exact⟨Nat.le_trans (qQ xs lo hi) hz,_,(r.drop (HT.cq xs.length 0 lo)).take (HT.cq xs.length xs.length hi - HT.cq xs.length 0 lo),IsTup.new _ _⟩
def CU(K:PySem.W.Frag):R2:=fun x y H Q=>∃a b xs ys,x= .ref a∧y= .ref b∧cN K H a xs∧cN K H b ys∧xs≠[]∧xs.length+ys.length≤sizeLine∧
 (ys=[]→Q (.ref a) H)∧(ys≠[]→∀p,H p=none→Q (.ref p) (upd H p (.tup (xs++ys))))
theorem Vals.vR{xs:List V}{us:List Value}(r:Vals xs us):us=[]↔xs=[]:=by
 cases r with
 |nil=>simp
 |cons _ _=>simp
theorem Ho:fN X (binaryOp .Add) (CU X.K):=by
 intro pins s σ H x y v u Q I rx ry h
 obtain⟨a,b,xs,ys,rfl,rfl,ha,hb,hx,hz,q1,q2⟩:=h
 cases rx
 cases ry
 obtain⟨its,r1,p1,_⟩:=I.tuple ha
 obtain⟨md,r2,p2,_⟩:=I.tuple hb
 refine HT.Hj p1 p2 (fun z=>hx (r1.vR.mp z)) (fun z=>⟨.ref a,H,I,rfl,q1 (r2.vR.mp z)⟩) (fun z=>?_) (by rw[←r1.length,←r2.length];exact hz)
 refine⟨.ref s.heap.objs.size,_,I.laid (t':=s.toks) (o:=.tup (xs++ys)) (fun b ob q=>Heap.get?_push_of_some _ q) (Nat.le_refl _) ?_,rfl,q2 (fun w=>z (r2.vR.mpr w)) _ (I.bj.fresh (Nat.le_refl _))⟩
 exact⟨by rw[List.length_append];exact hz,_,r1.append r2,IsTup.new _ _⟩
end
end L2
namespace L2
open PySem PySem.Spec PyProof.Rows
def CV(n:Nat)(i:Int):Option Nat:=if 0≤i then(if i<n then some i.toNat else none)else if -(n:Int)≤i then some (i+n).toNat else none
def CW{α:Type}(xs:List α)(i:Int):Option α:=(CV xs.length i).bind fun j=>xs[j]?
theorem AZ{n:Nat}{i:Int}{j:Nat}(h:CV n i=some j):seqIndex? i n=some j∧j<n∧-(n:Int)≤i∧i<n:=by
 unfold CV at h
 by_cases h0: 0≤i
 ·rw[if_pos h0]at h
  by_cases h1:i<n
  ·rw[if_pos h1]at h
   have e:i.toNat=j:=Option.some.inj h
   exact⟨by rw[seqIndex_of h0 h1,e],by omega,by omega,h1⟩
  ·rw[if_neg h1]at h;cases h
 ·rw[if_neg h0]at h
  by_cases h1: -(n:Int)≤i
  ·rw[if_pos h1]at h
   have e:(i+n).toNat=j:=Option.some.inj h
   exact⟨by rw[seqIndex_neg (by omega) h1,e],by omega,h1,by omega⟩
  ·rw[if_neg h1]at h;cases h
theorem vS{α:Type}{xs:List α}{i:Int}{v:α}(h:CW xs i=some v):∃j,seqIndex? i xs.length=some j∧xs[j]? =some v∧j<xs.length∧-(xs.length:Int)≤i∧i<xs.length:=by
 unfold CW at h
 cases e:CV xs.length i with
 |none=>rw[e]at h;cases h
 |some j=>
  rw[e]at h
  obtain⟨h1,h2,h3,h4⟩:=AZ e
  exact⟨j,h1,h,h2,h3,h4⟩
def qR(b:Expr):Prop:=∀o i,subscripted b false o i=operate [o,i] (getItem o i)
def xU(X:Cx)(r:R2):Prop:=
 ∀(value slice:Expr) (pins:List (Addr×Obj)) (s:Shared) (σ:St) (H:Hp) (x y:V) (v u:Value) (Q:VK),Inv X pins σ H s→RelV x v→RelV y u→r x y H Q→
  subscripted slice false v u=operate [v,u] (getItem v u)→wpAny (model X.prog X.w) X.A (subscriptTail value slice v u) (EP X pins σ Q) X.xe s
def Va(X:Cx)(id:String)(r:V→List V→Hp→VK→Prop):Prop:=
 ∀(pins:List (Addr×Obj)) (s:Shared) (σ:St) (H:Hp) (x:V) (xs:List V) (v:Value) (us:List Value) (Q:VK),Inv X pins σ H s→RelV x v→Vals xs us→r x xs H Q→
  wpAny (model X.prog X.w) X.A (call (.builtin id) (v::us)) (EP X pins σ Q) X.xe s
section
variable{X:Cx}{a b:Expr}{ta tb:TE}{pos:Pos}
theorem xU.or{r r':R2}(h:xU X r)(h':xU X r'):xU X (fun x y H Q=>r x y H Q∨r' x y H Q):=by
 intro value slice pins s σ H x y v u Q I rx ry q hs
 rcases q with q|q
 ·exact h value slice pins s σ H x y v u Q I rx ry q hs
 ·exact h' value slice pins s σ H x y v u Q I rx ry q hs
theorem OV{r:R2}(hr:xU X r)(ha:PE X a ta)(hb:PE X b tb)(hs:qR b):PE X (.Subscript a b pos) (G9 r ta tb):=by
 intro pins s σ H Q I h
 exact Subscript_ (G_ ha hb I h fun v u s2 x y H2 I2 rx ry q=>hr a b pins s2 σ H2 x y v u Q I2 rx ry q (hs _ _))
def NK(K:PySem.W.Frag):R2:=fun x y H Q=>∃p xs i v,x= .ref p∧y= .int i∧bU K H p xs∧CW xs i=some v∧Q v H
def NL(K:PySem.W.Frag):R2:=fun x y H Q=>∃p xs i v,x= .ref p∧y= .int i∧cN K H p xs∧CW xs i=some v∧Q v H
def NM:R2:=fun x y H Q=>∃z i c,x= .str z∧y= .int i∧z.length≤sizeLine∧CW z.cps.toList i=some c∧Q (.str ⟨#[c]⟩) H
theorem Hq:xU X (NK X.K):=by
 intro value slice pins s σ H x y v u Q I rx ry h hs
 obtain⟨p,xs,i,z,rfl,rfl,hq,he,q⟩:=h
 cases rx
 obtain⟨t,rfl⟩:=ry
 obtain⟨its,r,pl,hz⟩:=I.list hq
 obtain⟨j,h1,h2,h3,h4,h5⟩:=vS he
 obtain⟨w,ew,qK⟩:=r.get h2
 have hl:=r.length
 have hn:=qN
 have fin:EP X pins σ Q w s:=⟨z,H,I,qK,q⟩
 by_cases h0: 0≤i
 ·have hj:i.toNat=j:=by
   rw[seqIndex_of h0 h5]at h1
   exact Option.some.inj h1
  exact item_listR pl.isList h0 (by omega) (by rw[hj];simpa using ew) fin hs
 ·have hj:(i+(its.toArray.size:Int)).toNat=j:=by
   rw[seqIndex_neg (by omega) h4]at h1
   rw[List.size_toArray,←hl]
   exact Option.some.inj h1
  exact subscriptTail_builtinR (x:=w) pl.isList.typeIs slot_list_getitem.lookup
   (wpAny_getItem_list_neg (Q:=fun r s'=>r=w∧EP X pins σ Q r s') pl.isList (by omega) (by rw[List.size_toArray]<;>omega) (by omega) (by rw[hj];simpa using ew) ⟨rfl,fin⟩) hs
theorem Lz:xU X (NL X.K):=by
 intro value slice pins s σ H x y v u Q I rx ry h hs
 obtain⟨p,xs,i,z,rfl,rfl,hq,he,q⟩:=h
 cases rx
 obtain⟨t,rfl⟩:=ry
 obtain⟨its,r,pl,hz⟩:=I.tuple hq
 obtain⟨j,h1,h2,h3,h4,h5⟩:=vS he
 obtain⟨w,ew,qK⟩:=r.get h2
 have hl:=r.length
 have hn:=qN
 have fin:EP X pins σ Q w s:=⟨z,H,I,qK,q⟩
 exact subscriptTail_builtinR (x:=w) pl.typeIs slot_tuple_getitem.lookup
  (getItem_tuple (j:=j) (Q:=fun r s'=>r=w∧EP X pins σ Q r s') pl (by omega) (by omega) (by rw[List.size_toArray,←hl];exact h1) (by simpa using ew) ⟨rfl,fin⟩) hs
theorem LA:xU X NM:=by
 intro value slice pins s σ H x y v u Q I rx ry h hs
 obtain⟨z,i,c,rfl,rfl,hz,he,q⟩:=h
 obtain⟨t,rfl⟩:=rx
 obtain⟨t',rfl⟩:=ry
 obtain⟨j,h1,h2,h3,h4,h5⟩:=vS he
 have hl:z.cps.toList.length=z.length:=by simp[Str.length]
 rw[hl]at h1 h4 h5
 have hn:=qN
 exact tail_any (typeIs_str s z t) slot_str_getitem.lookup (getItem_str (c:=c) (by
  have e1:decide (i< -(2 ^ 63:Int))=false:=decide_eq_false (by omega)
  have e2:decide (i≥2 ^ 63)=false:=decide_eq_false (by omega)
  rw[e1,e2,Bool.or_false]) (by rw[h1];simpa using h2) ⟨.str ⟨#[c]⟩,H,I.tok _,⟨_,rfl⟩,q⟩) hs
def Sh(K:PySem.W.Frag):R2:=fun x y H Q=>NK K x y H Q∨NL K x y H Q∨NM x y H Q
theorem LB:xU X (Sh X.K):=Hq.or (Lz.or LA)
theorem A5(its:List Value)(n j:Nat)(u:Value):Obj.mapSeq (·.setIfInBounds j u) { cls:=.type "list",data:=.seq its.toArray n } = { cls:=.type "list",data:=.seq (its.set j u).toArray n }:=by
 simp[Obj.mapSeq]
theorem Inv.lst{pins:List (Addr×Obj)}{σ:St}{H:Hp}{s:Shared}{p:Addr}{xs:List V}(I:Inv X pins σ H s)(h:H p=some (.lst xs)):
  ∃(its:List Value) (n:Nat),Vals xs its∧s.heap.get? p=some { cls:=.type "list",data:=.seq its.toArray n }∧xs.length≤sizeLine:=by
 obtain⟨z,its,n,r,e⟩:=I.bj p _ h
 exact⟨its,n,r,e,z⟩
theorem Inv.LC{pins:List (Addr×Obj)}{σ:St}{H:Hp}{s:Shared}{p:Addr}{xs ys:List V}{its its':List Value}{n n':Nat}{f:Obj→Obj}(I:Inv X pins σ H s)(h:H p=some (.lst xs))
  (ho:s.heap.get? p=some { cls:=.type "list",data:=.seq its.toArray n })(hf:f { cls:=.type "list",data:=.seq its.toArray n } = { cls:=.type "list",data:=.seq its'.toArray n' })(r:Vals ys its')(hz:ys.length≤sizeLine)(t:Nat):
  Inv X pins σ (upd H p (.lst ys)) { s with heap:=s.heap.update p f,toks:=t }:=by
 have e:(s.heap.update p f).get? p=some { cls:=.type "list",data:=.seq its'.toArray n' }:=by
  rw[Heap.get?_update_self f ho (by rw[hf]<;>rfl),hf]
 refine I.write (x:=p) (e:=p) (by rw[h];trivial) (.inl rfl) (fun b u hb q=>(Heap.get?_update_other _ _ (Ne.symm hb)).trans q) ⟨_,e⟩ ?_
 exact⟨hz,its',n',r,e⟩
def OW:V→V→V→Hp→(Hp→Prop)→Prop:=fun o i v H Q=>∃p xs k j,o= .ref p∧i= .int k∧H p=some (.lst xs)∧CV xs.length k=some j∧Q (upd H p (.lst (xs.set j v)))
theorem set_list:ND X OW:=by
 intro pins s σ H o i v ov iv u Q I ro ri rv h
 obtain⟨p,xs,k,j,rfl,rfl,hp,hj,q⟩:=h
 cases ro
 obtain⟨t,rfl⟩:=ri
 obtain⟨its,n,r,ho,hz⟩:=I.lst hp
 obtain⟨h1,h2,h3,h4⟩:=AZ hj
 have hl:=r.length
 have hn:=qN
 have I':Inv X pins σ (upd H p (.lst (xs.set j v))) { s with heap:=s.heap.update p (Obj.mapSeq (·.setIfInBounds j u)) }:=
  I.LC hp ho (A5 its n j u) (r.set rv j) (by rw[List.length_set];exact hz) s.toks
 by_cases h0: 0≤k
 ·have hk:k.toNat=j:=by
   rw[seqIndex_of h0 h4]at h1
   exact Option.some.inj h1
  exact PySem.W.ki_setAt ho h0 (by omega) (by rw[List.size_toArray,←hl];exact h4) (by rw[hk];exact⟨_,I',q⟩)
 ·have hk:(k+(its.toArray.size:Int)).toNat=j:=by
   rw[seqIndex_neg (by omega) h3]at h1
   rw[List.size_toArray,←hl]
   exact Option.some.inj h1
  exact PySem.W.ki_setBack ho (by omega) (by rw[List.size_toArray,←hl];exact h3) (by omega) (by rw[hk];exact⟨_,I',q⟩)
theorem xV(lo hi:Option Int)(n:Nat):(sliceBounds lo hi none n).1=((HT.cq n 0 lo:Nat):Int)∧(sliceBounds lo hi none n).2.1=((HT.cq n n hi:Nat):Int)∧(sliceBounds lo hi none n).2.2=1:=by
 refine⟨?_,?_,rfl⟩
 ·cases lo with
  |none=>simp[sliceBounds,HT.cq]
  |some i=>
   simp only[sliceBounds,HT.cq,Option.getD_none,show(1:Int) > 0 by decide,if_true]
   by_cases h:i<0
   ·simp only[h,if_true]<;>omega
   ·simp only[h,if_false]<;>omega
 ·cases hi with
  |none=>simp[sliceBounds,HT.cq]
  |some i=>
   simp only[sliceBounds,HT.cq,Option.getD_none,show(1:Int) > 0 by decide,if_true]
   by_cases h:i<0
   ·simp only[h,if_true]<;>omega
   ·simp only[h,if_false]<;>omega
theorem vT(its:List Value)(lo hi:Option Int):slicePick its.toArray lo hi none=((its.drop (HT.cq its.length 0 lo)).take (HT.cq its.length its.length hi - HT.cq its.length 0 lo)).toArray:=by
 obtain⟨h1,h2,h3⟩:=xV lo hi its.toArray.size
 unfold slicePick
 rw[h1,h2,h3]
 simp only[sliceRange_one,pick_run,List.size_toArray]<;>rfl
def NO(K:PySem.W.Frag):V→Option Int→Option Int→Hp→VK→Prop:=fun x lo hi H Q=>∃a xs,x= .ref a∧bU K H a xs∧∀p,H p=none→Q (.ref p) (upd H p (.lst (nP xs lo hi)))
theorem Hr:zv X (NO X.K):=by
 intro pins s σ H x v vl vu lo hi sl Q I rx hs pl pu h
 obtain⟨a,xs,rfl,hx,q⟩:=h
 cases rx
 obtain⟨its,r,ht,hz⟩:=I.list hx
 have hlen:=r.length
 refine⟨"list",_,slot_list_getitem.lookup,ht.isList.typeIs,?_⟩
 refine wpAny_getItem_list_slice ht.isList hs pl pu .none (by simp) ?_ (by rw[List.size_toArray]<;>omega)
 rw[vT,←hlen]
 refine⟨.ref s.heap.objs.size,_,I.laid (t':=s.toks) (o:=.lst (nP xs lo hi)) (fun b ob q=>Heap.get?_push_of_some _ q) (Nat.le_refl _) ?_,rfl,q _ (I.bj.fresh (Nat.le_refl _))⟩
 exact⟨Nat.le_trans (qQ xs lo hi) hz,_,0,(r.drop (HT.cq xs.length 0 lo)).take (HT.cq xs.length xs.length hi - HT.cq xs.length 0 lo),Heap.get?_push_size _ rfl⟩
theorem bh:gC X (.builtin "len") (fun xs H Q=>∃p ys,xs=[.ref p]∧(bU X.K H p ys∨cN X.K H p ys)∧Q (.int ys.length) H):=by
 intro pins s σ H xs us Q I r h
 obtain⟨p,ys,rfl,hq,q⟩:=h
 obtain⟨u,rfl,rx⟩:=vals1 r
 cases rx
 have hn:=qN
 rcases hq with hq|hq
 ·obtain⟨its,r',pl,hz⟩:=I.list hq
  have hlen:=r'.length
  exact Calls.call_len_list pl.isList (by simp only[List.size_toArray]<;>omega) ⟨.int ys.length,H,I.tok _,⟨s.toks+1,by rw[List.size_toArray,hlen]⟩,q⟩
 ·obtain⟨its,r',pl,hz⟩:=I.tuple hq
  have hlen:=r'.length
  exact len_tuple pl (by simp only[List.size_toArray]<;>omega) ⟨.int ys.length,H,I.tok _,⟨s.toks+1,by rw[List.size_toArray,hlen]⟩,q⟩
theorem xW:gC X (.type "list") (fun xs H Q=>∃p ys,xs=[.ref p]∧(bU X.K H p ys∨cN X.K H p ys)∧∀l,H l=none→Q (.ref l) (upd H l (.lst ys))):=by
 intro pins s σ H xs us Q I r h
 obtain⟨p,ys,rfl,hq,q⟩:=h
 obtain⟨u,rfl,rx⟩:=vals1 r
 cases rx
 have fin:∀(its:List Value),Vals ys its→ys.length≤sizeLine→∀(h':Heap) (c':Nat),(∀b o',s.heap.get? b=some o'→h'.get? b=some o')→
   h'.get? s.heap.objs.size=some { cls:=.type "list",dict:=none,data:=.seq its.toArray c',slots:=#[] }→EP X pins σ Q (.ref s.heap.objs.size) { s with heap:=h' }:=fun its r' hz h' c' kp e=>
  ⟨.ref s.heap.objs.size,_,I.laid (t':=s.toks) kp (Nat.le_refl _) (show bN X.prog X.w _ h' _ (.lst ys)from⟨hz,its,c',r',e⟩),rfl,q _ (I.bj.fresh (Nat.le_refl _))⟩
 rcases hq with hq|hq
 ·obtain⟨its,r',pl,hz⟩:=I.list hq
  have hlen:=r'.length
  obtain⟨o,ho,hc,n,hd⟩:=pl.isList
  exact call_list_seq p (.inl rfl) ho hc hd (fun h' c' kp e=>fin its r' hz h' c' kp e) (by simp only[List.size_toArray]<;>omega)
 ·obtain⟨its,r',pl,hz⟩:=I.tuple hq
  have hlen:=r'.length
  obtain⟨o,ho,hc,n,hd⟩:=pl
  exact call_list_seq p (.inr rfl) ho hc hd (fun h' c' kp e=>fin its r' hz h' c' kp e) (by simp only[List.size_toArray]<;>omega)
def OX(K:PySem.W.Frag)(T:String)(x:V)(H:Hp):Prop:=match x with
 |.str _=>T= "str"
 |.int _=>T= "int"
 |.ref p=>(T= "list"∧∃xs,bU K H p xs)∨(T= "tuple"∧∃o,K.lookup p=some o∧o.cls= .type "tuple"∧o.dict=none)∨
   (T= "dict"∧((∃aE,H p=some (.dK aE))∨∃aE,H p=some (.dT aE)))∨(T= "set"∧∃S n,H p=some (.set S n))
 |_=>False
theorem LD{pins:List (Addr×Obj)}{σ:St}{H:Hp}{s:Shared}{T:String}{x:V}{v:Value}(I:Inv X pins σ H s)(r:RelV x v)(ty:OX X.K T x H):
  s.TypeIs v T∧∀a,v= .ref a→∃ob,s.heap.get? a=some ob∧ob.dict=none:=by
 cases x with
 |str z=>
  obtain⟨t,rfl⟩:=r
  cases (show T= "str" from ty)
  exact⟨typeIs_str s z t,fun _ e=>nomatch e⟩
 |int i=>
  obtain⟨t,rfl⟩:=r
  cases (show T= "int" from ty)
  exact⟨typeIs_int s i t,fun _ e=>nomatch e⟩
 |ref p=>
  cases r
  rcases ty with⟨rfl,xs,hq⟩|⟨rfl,o,hk,hc,hd⟩|⟨rfl,hk⟩|⟨rfl,S,n,hk⟩
  ·obtain⟨its,_,pl,_⟩:=I.list hq
   refine⟨pl.isList.typeIs,fun a e=>?_⟩
   cases e
   obtain⟨o,n,e,c,hd,_⟩:=pl
   exact⟨o,e,hd⟩
  ·refine⟨⟨o,I.nJ p o hk,hc⟩,fun a e=>?_⟩
   cases e
   exact⟨o,I.nJ _ o hk,hd⟩
  ·have z:∃o,s.heap.get? p=some o∧o.ExactDict:=by
    rcases hk with⟨aE,hk⟩|⟨aE,hk⟩
    ·obtain⟨_,_,_,_,o,_,_,e,ex,_⟩:=I.bj p _ hk
     exact⟨o,e,ex⟩
    ·obtain⟨_,_,_,_,o,_,_,e,ex,_⟩:=I.bj p _ hk
     exact⟨o,e,ex⟩
   obtain⟨o,e,ex⟩:=z
   refine⟨⟨o,e,ex.1⟩,fun a e2=>?_⟩
   cases e2
   exact⟨o,e,ex.2.1⟩
  ·obtain⟨o,_,_,_,e,ex,_⟩:=I.bj p _ hk
   refine⟨⟨o,e,ex.1⟩,fun a e2=>?_⟩
   cases e2
   exact⟨o,e,ex.2.1⟩
 |_=>exact False.elim ty
def Vb(K:PySem.W.Frag)(T:String)(r:V→List V→Hp→VK→Prop)(to:TE)(t:TA):TE:=fun σ H Q=>to σ H fun x H1=>OX K T x H1∧t σ H1 fun xs H2=>r x xs H2 Q
variable{o e:Expr}{es:List Expr}{to:TE}{t:TA}{name:Str}{apos bR:Pos}{T id:String}{r:V→List V→Hp→VK→Prop}
theorem OY(pa:PlainAttrs T)(slot:Slot T name id)(OZ:typeOf (.builtin id)=pure (.type "method_descriptor"))(hm:Va X id r)(ho:PE X o to)(ha:PA X (e::es) t)
  (mN:attributeBase o name X.env (eval o X.env)=eval o X.env:=by rfl)
  (qS:((backTo bR (starEach (e::es) X.env)).all (fun x=>!x.1)&&(backToKw bR (keywordEach [] X.env)).all (fun x=>x.1.isSome)
   &&decide ((e::es).length+([]:List Keyword).length+(if ([]:List Keyword).isEmpty then 0 else 1)<30))=true:=by rfl)
  (mO:(apos.endLine==bR.line)=true:=by rfl)(hs:starEach (e::es) X.env=(false,eval e X.env)::starEach es X.env:=by rfl)(zw:(backTo bR (starEach es X.env)).any (·.1)=false:=by rfl):
  PE X (.Call (.Attribute o name apos) (e::es) [] bR) (Vb X.K T r to t):=by
 intro pins s σ H Q I h
 refine wpAny_Call_method_late mN qS mO rfl (bL (ho pins s σ H _ I h) fun v s1 ⟨x,H1,I1,r1,ty,q1⟩=>?_)
 obtain⟨h1,h2⟩:=LD I1 r1 ty
 refine⟨T,id,pa,slot,OZ,h1,h2,?_⟩
 have hA:=ha bR pins s1 σ H1 _ I1 q1
 rw[hs]at hA ⊢
 refine Calls.callWith_builtin (by show(false||(backTo bR (starEach es X.env)).any (·.1))=false;rw[zw]<;>rfl) (Calls.evalArgs_plain ?_)
 exact bL hA fun us s2 ⟨vs,H2,I2,r2,q2⟩=>hm pins s2 σ H2 x vs v us Q I2 r1 r2 q2
end
end L2
namespace L2
open PySem PySem.Spec PyProof.Rows
def Hs(X:Cx)(id:String)(r:V→List V→Hp→VK→Prop):Prop:=
 ∀(pins:List (Addr×Obj)) (s:Shared) (σ:St) (H:Hp) (x:V) (xs:List V) (v:Value) (us:List Value) (Q:VK),Inv X pins σ H s→RelV x v→Vals xs us→r x xs H Q→
  wpAny (model X.prog X.w) X.A (call (.builtin id) (v::us)) (EP X pins σ Q) X.xe s
theorem Vals.one:∀{x:V}{us:List Value},Vals [x] us→∃u,us=[u]∧RelV x u
 |_,_,.cons r .nil=>⟨_,rfl,r⟩
theorem Vals.two:∀{x y:V}{us:List Value},Vals [x,y] us→∃u v,us=[u,v]∧RelV x u∧RelV y v
 |_,_,_,.cons r (.cons q .nil)=>⟨_,_,rfl,r,q⟩
theorem Vals.zero:∀{us:List Value},Vals [] us→us=[]
 |_,.nil=>rfl
theorem Vals.eraseIdx:∀{xs:List V}{us:List Value} (i:Nat),Vals xs us→Vals (xs.eraseIdx i) (us.eraseIdx i)
 |_,_,_,.nil=>.nil
 |_,_,0,.cons _ t=>t
 |_,_,i+1,.cons r t=>.cons r (Vals.eraseIdx i t)
theorem vU{α:Type}:∀(l:List α) (i:Nat),(l.eraseIdx i).length≤l.length
 |[],_=>Nat.le_refl _
 |_::_,0=>Nat.le_succ _
 |_::r,i+1=>Nat.succ_le_succ (vU r i)
section
variable{X:Cx}{pins:List (Addr×Obj)}{σ:St}{H:Hp}{s:Shared}{l b:Addr}{xs ys zs:List V}
theorem Inv.Ec{its its':List Value}{n:Nat}{f:Array Value→Array Value}{t':Nat}(I:Inv X pins σ H s)(hH:H l=some (.lst xs))
  (e:s.heap.get? l=some { cls:=.type "list",data:=.seq its.toArray n })(hf:f its.toArray=its'.toArray)(hv:Vals ys its')(hz:ys.length≤sizeLine):
  Inv X pins σ (upd H l (.lst ys)) { s with heap:=s.heap.update l (Obj.mapSeq f),toks:=t' }:=by
 have q:=PySem.IsL.update e f
 rw[hf]at q
 refine I.write (x:=l) (e:=l) (by rw[hH];exact trivial) (.inl rfl) (fun b' u hb hu=>(Heap.get?_update_other s.heap (Obj.mapSeq f) (Ne.symm hb)).trans hu) ⟨_,q⟩ ?_
 exact⟨hz,its',_,hv,q⟩
theorem Inv.NP{its:List Value}{t':Nat}(I:Inv X pins σ H s)(hv:Vals ys its)(hz:ys.length≤sizeLine):
  Inv X pins σ (upd H s.heap.objs.size (.lst ys)) { s with heap:=s.heap.push { cls:=.type "list",data:=.seq its.toArray },toks:=t' }:=
 I.laid (fun _ _ q=>Heap.get?_push_of_some _ q) (Nat.le_refl _) ⟨hz,its,0,hv,Heap.get?_push_size _ rfl⟩
theorem Inv.fresh(I:Inv X pins σ H s):H s.heap.objs.size=none:=I.bj.fresh (Nat.le_refl _)
theorem Inv.vV(I:Inv X pins σ H s)(hH:H l=some (.lst xs)):xs.length≤sizeLine∧∃(its:List Value) (n:Nat),Vals xs its∧xs.length=its.length∧s.heap.get? l=some { cls:=.type "list",data:=.seq its.toArray n }:=by
 obtain⟨z,its,n,r,e⟩:=I.bj l _ hH
 exact⟨z,its,n,r,r.length,e⟩
theorem yf{n:Nat}(h:n≤sizeLine):Builtin.List.listTooLong n=false:=by
 unfold Builtin.List.listTooLong
 exact decide_eq_false (by omega)
end
section
variable{X:Cx}
def A7:V→List V→Hp→VK→Prop:=fun x vs H Q=>∃l xs y,x= .ref l∧vs=[y]∧H l=some (.lst xs)∧xs.length<sizeLine∧Q .bG (upd H l (.lst (xs++[y])))
theorem fQ:Hs X "list.append" A7:=by
 intro pins s σ H x vs v us Q I rx rv h
 obtain⟨l,xs,y,rfl,rfl,hH,hz,q⟩:=h
 cases rx
 obtain⟨u,rfl,ru⟩:=rv.one
 obtain⟨z,its,n,r,hl,e⟩:=I.vV hH
 refine call_meets F.slot_list_append ⟨_,e,rfl⟩ F.entry_list_append (F.args_list_append_2 _ _) (PySem.list_append l its.toArray n u (by rw[List.size_toArray];omega)) ⟨e,?_⟩
 refine⟨.bG,_,I.Ec (its':=its++[u]) hH e (by simp) (r.append (.cons ru .nil)) ?_,rfl,q⟩
 rw[List.length_append,List.length_singleton]
 omega
def A_:V→List V→Hp→VK→Prop:=fun x vs H Q=>∃l b xs zs,x= .ref l∧vs=[.ref b]∧H l=some (.lst xs)∧H b=some (.lst zs)∧xs.length+zs.length≤sizeLine∧Q .bG (upd H l (.lst (xs++zs)))
theorem vW:Hs X "list.extend" A_:=by
 intro pins s σ H x vs v us Q I rx rv h
 obtain⟨l,b,xs,zs,rfl,rfl,hH,hB,hz,q⟩:=h
 cases rx
 obtain⟨u,rfl,ru⟩:=rv.one
 cases ru
 obtain⟨z,its,n,r,hl,e⟩:=I.vV hH
 obtain⟨z2,md,n2,r2,uO,e2⟩:=I.vV hB
 have hsz:its.toArray.size+md.toArray.size≤sizeLine:=by rw[List.size_toArray,List.size_toArray];omega
 have CY:¬(!its.toArray.isEmpty&&Builtin.List.listTooLong (its.toArray.size+md.toArray.size))=true:=by
  rw[yf hsz,Bool.and_false]
  exact Bool.false_ne_true
 refine call_meets F.slot_list_extend ⟨_,e,rfl⟩ F.entry_list_extend (F.args_list_extend_2 _ _)
  (AutoSeq1.list_extend_list_list_0 l its.toArray n b md.toArray n2 CY (by rw[List.size_toArray];omega) (by omega)) ⟨e,e2,?_⟩
 refine⟨.bG,_,I.Ec (its':=its++md) hH e (by simp) (r.append r2) ?_,rfl,q⟩
 rw[List.length_append]
 omega
def Ed:V→List V→Hp→VK→Prop:=fun x vs H Q=>∃l xs i k y,x= .ref l∧vs=[.int i]∧H l=some (.lst xs)∧-(2 ^ 63)≤i∧i<2 ^ 63∧seqIndex? i xs.length=some k∧xs[k]? =some y∧Q y (upd H l (.lst (xs.eraseIdx k)))
theorem FA:Hs X "list.pop" Ed:=by
 intro pins s σ H x vs v us Q I rx rv h
 obtain⟨l,xs,i,k,y,rfl,rfl,hH,h1,h2,hk,hy,q⟩:=h
 cases rx
 obtain⟨u,rfl,ru⟩:=rv.one
 obtain⟨t,rfl⟩:=ru
 obtain⟨z,its,n,r,hl,e⟩:=I.vV hH
 obtain⟨w,hw,qK⟩:=r.get hy
 refine call_meets F.slot_list_pop ⟨_,e,rfl⟩ F.entry_list_pop (F.args_list_pop_2 _ _)
  (MeetsSeq.list_pop_at l its.toArray n i t k w (fitsIndex_both h1 h2) (by rw[List.size_toArray,←hl];exact hk) (by rw[←Array.getElem?_toList];exact hw) (by rw[List.size_toArray];omega)) ⟨e,?_⟩
 refine⟨y,_,I.Ec (its':=its.eraseIdx k) hH e ?_ (r.eraseIdx k) ?_,qK,q⟩
 ·show its.toArray.eraseIdxIfInBounds k=(its.eraseIdx k).toArray
  rw[List.eraseIdxIfInBounds_toArray]
 ·have:=vU xs k
  omega
def Ht:R2:=fun x y H Q=>∃l b xs zs,x= .ref l∧y= .ref b∧H l=some (.lst xs)∧H b=some (.lst zs)∧xs.length+zs.length≤sizeLine∧∀p,H p=none→Q (.ref p) (upd H p (.lst (xs++zs)))
theorem LF:fN X (binaryOp .Add) Ht:=by
 intro pins s σ H x y v u Q I rx ry h
 obtain⟨l,b,xs,zs,rfl,rfl,hH,hB,hz,q⟩:=h
 cases rx
 cases ry
 obtain⟨z,its,n,r,hl,e⟩:=I.vV hH
 obtain⟨z2,md,n2,r2,uO,e2⟩:=I.vV hB
 refine PySem.P.add_list e e2 ?_ (by rw[List.size_toArray,List.size_toArray];omega)
 have ea:its.toArray++md.toArray=(its++md).toArray:=by simp
 rw[ea]
 exact⟨.ref _,_,I.NP (t':=s.toks) (r.append r2) (by rw[List.length_append];omega),rfl,q _ I.fresh⟩
end
section
variable{prog:Program}{w:World}{A:Around}{E:Value→Shared→Prop}{s:Shared}
end
section
variable{X:Cx}
end
end L2
namespace Si
open PySem PySem.W PySem.Calls PyProof.Rows
theorem sQ{P:Params}{h:Heap}:∀(ns:List Int) (vs:List Value),WellAll P h vs (ns.map WData.int)→IntsAre vs ns:=by
 intro ns
 induction ns with
 |nil=>
  intro vs w
  rw[List.map_nil]at w
  cases w
  exact .nil
 |cons n ns ih=>
  intro vs w
  rw[List.map_cons]at w
  cases w with
  |cons a b=>
   cases a
   exact .cons _ _ (ih _ b)
theorem CZ{l:OpenLaw}{n:Nat}(hn:l.most=some n){P:Params}{h:Heap}{args:List WData}{vals:List Value}
  (Ee:l.row.toRowW.claim.pre args=true)(O0:WellAll P h vals args):
  ∃a vs ns,vals=[Value.ref a]∧args=[WData.list (ns.map WData.int)]∧h.get? a=some { cls:=.type "list",data:=.seq vs.toArray }∧IntsAre vs ns∧ns.length≤n:=by
 have Vc:WShape.hasAll [] args [.list .int]=true:=(pre_splitW Ee).1
 have hc:l.pre.holds [] { args:=args } =true:=(pre_splitW Ee).2
 obtain⟨d,r,rfl,h1,h2⟩:=hasAllW_cons Vc
 obtain rfl:=hasAllW_nil h2
 obtain⟨xs,rfl,h3⟩:=hasW_list h1
 obtain⟨ns,rfl⟩:=items_int h3
 have hlen:ns.length≤n:=by
  unfold OpenLaw.pre at hc
  have h4:(WTm.not (.lt (.lit (.int (n:Int))) (.len (.arg 0)))).holds [] { args:=[.list (ns.map .int)] } =true:=by
   have h4:=(holds_andW hc).1
   rw[hn]at h4
   exact h4
  have h5:=condW_of h4 (w_not (w_lt w_lit (w_len_list (w_arg rfl))))
  rw[List.length_map]at h5
  refine Nat.le_of_not_lt fun q=>?_
  have q':(n:Int)<((ns.length:Nat):Int):=by omega
  first
   |(rw[decide_eq_true q']at h5;exact absurd h5 (by decide))
   |(simp at h5;omega)
 cases O0 with
 |cons w1 w2=>
  cases w2
  cases w1 with
  |list ho nB=>exact⟨_,_,ns,rfl,rfl,ho,sQ ns _ nB,hlen⟩
theorem C0(l:OpenLaw)(args:List WData):l.row.toRowW.claim.post args (.bool true) args=true:=
 postW_of (r:=l.row.toRowW) (X:=(true==true))
  (show WShape.has [] (.bool true) .bool=true by first|rfl|decide|simp[WShape.has,WShape.arms,WShape.armsAll])
  (show(WTm.eq .res (.lit (.bool true))).value [] { args:=args,res:=some (.bool true),after:=args } =some (.bool (true==true))from w_eq_bool (w_res rfl) w_lit) rfl
theorem zx{l:OpenLaw}{n:Nat}{q:Program}{loose:List Str}{XP:(Str→Option Value)→Heap→Prop}{YP:World→Heap→Prop}{d:DefRec}
  (hn:l.most=some n)(Hu:d.params.defaults=[])
  (call:∀(w:World) (bE bJ:Shared) (mg mb:Str→Option Value) (fa:Addr) (o:Obj) (pm cd doc:Value) (a:Addr) (vs:List Value) (ns:List Int),
   Ground q loose [] XP w bE mg mb bJ.heap→YP w bJ.heap→
   bJ.heap.get? fa=some o→o.data= .func (docDef d.name d.params d.body d.scope pm cd doc)→bJ.heap.CodeRec cd d.name→mg d.name=some (.ref fa)→
   bJ.heap.get? a=some { cls:=.type "list",data:=.seq vs.toArray }→IntsAre vs ns→ns.length≤n→bJ.gens= #[]→
   codeAny (model l.prog w) callerA (.call (.ref fa) ⟨[.ref a],[]⟩) (fun r s'=>r= .ok (.ret (.bool true))∧OldK bJ.heap s'.heap∧s'.os=bJ.os∧AllBare s'.gens) bJ):
  WalkO q loose XP YP l.row.toRowW d [] (fun f vs=>PySem.call f vs):=by
 intro w bE bJ mg mb G Y fa o pm cd doc dV kV ho hd sM hD Hv hg args vals as Ee Yj Yx O0 Yy
 obtain rfl:dV= .none:=Dflts.none hD Hu
 obtain rfl:kV= .none:=Dflts.noKw hD
 obtain⟨a,vs,ns,rfl,rfl,Hw,hints,hlen⟩:=CZ hn Ee O0
 refine enter_call (codeAny_mono (call w bE bJ mg mb fa o pm cd doc a vs ns G Y ho (fd_plain hd) sM Hv Hw hints hlen hg) fun r s' hq=>?_)
 obtain⟨rfl,h2,h3,h4⟩:=hq
 exact⟨.inl ⟨.bool true,.bool true,[],rfl,fun _=>rfl,.bool true,C0 l _,fun _=>⟨List.Pairwise.nil,fun _ hm=>(nomatch hm)⟩⟩,h2,h3,h4⟩
section
variable{prog:Program}{w:World}{A:Around}{E:Value→Shared→Prop}{s:Shared}{K:Frag}
end
end Si
namespace L2
open PySem PySem.Spec PyProof.Rows
theorem vX:∀{vs:List Value}{ns:List Int},IntsAre vs ns→Vals (ns.map V.int) vs
 |_,_,.nil=>.nil
 |_,_,.cons n t h=>.cons ⟨t,rfl⟩ (vX h)
def Ba(H:Hp):Prop:=∀b,H b=none∨∃o xs,H b=some (.fP o (.lst xs))
theorem FC{P:Program}{w:World}{K:PySem.W.Frag}{mg mb:Str→Option Value}{CX:uN}{k:Nat}{fa a:Addr}{fd:FuncData}{x:Str}{sp:Sp}{bJ:Shared}{vs:List Value}{ns:List Int}
  (KX:K.In bJ.heap)(zy:bJ.heap.Ns mainGlobals mg)(hb:bJ.heap.Ns builtinsNs mb)(Vd:∀x:Str,x≠"__name__"→mb x=bootBuiltins x)(Sj:bJ.heap.NoLimit)(hg:bJ.gens= #[])
  (ha:bJ.heap.get? a=some { cls:=.type "list",data:=.seq vs.toArray })(hi:IntsAre vs ns)(hl:ns.length≤sizeLine)(hr:fG k callerA)
  (F:∀base:Heap,K.In base→base.Ns mainGlobals mg→bH P w K mg base CX k fa fd [x] sp)(O1:∀(s:Shared) (u:Value),BindsTo s fd ⟨[u],[]⟩ [(x,u)])
  (xT:∀H:Hp,Ba H→bU K H a (ns.map V.int)→sp [.ref a] H (fun v _=>v= .bl true) fun _ _ _=>False)
  (O2:∀H e s',CX [] H bJ (fun _ _ _=>False) e s'→False):
  codeAny (model P w) callerA (.call (.ref fa) ⟨[.ref a],[]⟩) (fun r s'=>r= .ok (.ret (.bool true))∧OldK bJ.heap s'.heap∧s'.os=bJ.os∧AllBare s'.gens) bJ:=by
 have rv:=vX hi
 have Sk:=hi.length
 -- from an abstract heap in Ve nothing but AR LG may be tracked
 have core:∀H:Hp,Ba H→bU K H a (ns.map V.int)→gB P w H bJ.heap→(∀b,H b≠none→b=a)→(H a≠none→K.lookup a=none)→
   codeAny (model P w) callerA (.call (.ref fa) ⟨[.ref a],[]⟩) (fun r s'=>r= .ok (.ret (.bool true))∧OldK bJ.heap s'.heap∧s'.os=bJ.os∧AllBare s'.gens) bJ:=by
  intro H hO hS bj hA hK
  have Bb:∀{b:Addr}{o:Obj},bJ.heap.get? b=some o→H b=none→(qJ bJ.heap H).get? b=some o:=fun e n=>Fi e n
  have Hh:∀{b:Addr}{o:Obj}{es:Array DictEntry}{ep:Nat},bJ.heap.get? b=some o→o.data= .dict es ep→H b=none:=fun {b o es ep} e d=>by
   cases q:H b with
   |none=>rfl
   |some u=>
    have e':b=a:=hA b (by rw[q];simp)
    subst e'
    rw[ha]at e;cases e
    have d':Data.seq vs.toArray _=Data.dict es ep:=d
    cases d'
  have LH:∀{b:Addr}{m:Str→Option Value},bJ.heap.Ns b m→(qJ bJ.heap H).Ns b m:=fun {b m} ⟨o,es,ep,e,d,r⟩=>⟨o,es,ep,Bb e (Hh e d),d,r⟩
  have Sl:K.In (qJ bJ.heap H):=fun b o e=>Bb (KX b o e) (by
   cases q:H b with
   |none=>rfl
   |some u=>
    have e':b=a:=hA b (by rw[q];simp)
    subst e'
    rw[hK (by rw[q];simp)]at e;cases e)
  have hM:Mod K mg (qJ bJ.heap H):=⟨Sl,LH zy,⟨mb,LH hb,Vd⟩,let ⟨mc,h1,h2⟩:=Sj;⟨mc,LH h1,h2⟩⟩
  have e0:Ea P w K mg (qJ bJ.heap H) callerA [] bJ H:=⟨rfl,hM,fun b o e=>GP e,Nat.le_of_eq (CA _ _),trivial,fun b hb=>absurd (show b∈([]:List Addr)from hb) (by simp),bj,.of_eq hg⟩
  refine codeAny_mono ((F _ Sl (LH zy)).run callerA [] bJ H ⟨[.ref a],[]⟩ [.ref a] [.ref a] _ _ hr e0 (O1 bJ (.ref a)) (.cons rfl .nil) (xT H hO hS)) fun r s' h=>?_
  cases r with
  |error e=>exact(O2 H e s' h).elim
  |ok fl=>
   cases fl with
   |next=>exact False.elim h
   |brk=>exact False.elim h
   |cont=>exact False.elim h
   |ret u=>
    obtain⟨v,H',os,bare,un,Sm,r',q⟩:=h
    have q':v= .bl true:=q
    subst q'
    obtain rfl:u=Value.bool true:=r'
    refine⟨rfl,OldK.of_keep fun b o e=>?_,os,bare⟩
    cases q:H b with
    |none=>exact un.keep b o e q (by intro z;exact absurd (show b∈([]:List Addr)from z) (by simp)) (by simp)
    |some u=>
     rcases hO b with z|⟨ob,xs,z⟩
     ·rw[q]at z;cases z
     ·have z2:=un.qI b ob _ z
      obtain⟨e1,_⟩:=bj b _ z
      obtain⟨e2,_⟩:=Sm b _ z2
      rw[e]at e1;cases e1
      exact e2
 cases hk:K.lookup a with
 |some o=>
  -- AR LG is one of AR Rt own objects
  have e:=KX a o hk
  rw[ha]at e
  cases e
  refine core (fun _=>none) (fun _=>.inl rfl) (.inr ⟨_,vs.toArray,_,hk,rfl,rfl,rfl,by rw[List.size_toArray,Sk];exact hl,by simpa using rv⟩) (fun b u z=>by have z':(none:Option HO)=some u:=z;cases z') (fun b z=>absurd rfl z) fun z=>absurd rfl z
 |none=>
  refine core (fun b=>if b=a then some (.fP { cls:=.type "list",data:=.seq vs.toArray } (.lst (ns.map V.int)))else none) (fun b=>?_) (.inl (.inr ⟨{ cls:=.type "list",data:=.seq vs.toArray },if_pos rfl⟩)) (fun b u z=>?_) (fun b z=>?_) fun _=>hk
  ·by_cases hb:b=a
   ·exact .inr ⟨_,_,if_pos hb⟩
   ·exact .inl (if_neg hb)
  ·by_cases hb:b=a
   ·have z':=(if_pos hb).symm.trans z
    cases z'
    subst hb
    exact⟨ha,by rw[List.length_map];exact hl,vs,_,rv,ha⟩
   ·have z':=(if_neg hb).symm.trans z
    cases z'
  ·by_cases hb:b=a
   ·exact hb
   ·exact absurd (if_neg hb) z
end L2
namespace L2
open PySem PySem.Spec PyProof.Rows
abbrev Sn{K:PySem.W.Frag}{h:Heap}(_:K.In h):PySem.W.Frag:=K
theorem Hx{l:PySem.W.OpenLaw}{n k:Nat}{q:Program}{loose:List Str}{XP:(Str→Option Value)→Heap→Prop}{YP:World→Heap→Prop}{d:DefRec}{K:Params→PySem.W.Frag}{CX:World→uN}{sp:World→Sp}{x:Str}
  (hn:l.most=some n)(So:n≤sizeLine)(Hu:d.params.defaults=[])(hr:fG k callerA)
  (hY:∀(w:World) (h:Heap),YP w h→(K w.params).In h)
  (F:∀(w:World) (mg:Str→Option Value) (fa:Addr) (h:Heap),(K w.params).In h→h.Ns mainGlobals mg→mg d.name=some (.ref fa)→
   ∃fd:FuncData,(∀(s:Shared) (u:Value),BindsTo s fd ⟨[u],[]⟩ [(x,u)])∧
    ∀base:Heap,(K w.params).In base→base.Ns mainGlobals mg→bH l.prog w (K w.params) mg base (CX w) k fa fd [x] (sp w))
  (xT:∀(w:World) (H:Hp) (a:Addr) (ns:List Int),ns.length≤n→Ba H→bU (K w.params) H a (ns.map V.int)→sp w [.ref a] H (fun v _=>v= .bl true) fun _ _ _=>False)
  (O2:∀(w:World) (H:Hp) (s:Shared) (e:Value) (s':Shared),CX w [] H s (fun _ _ _=>False) e s'→False):
  PySem.W.WalkO q loose XP YP l.row.toRowW d [] (fun f vs=>PySem.call f vs):=by
 refine Si.zx hn Hu fun w bE bJ mg mb fa o pm cd doc a vs ns G Y ho hd sM Hv Hw hints hlen hg=>?_
 have KX:=hY w _ Y
 obtain⟨fd,hb,hF⟩:=F w mg fa _ KX G.T.g Hv
 exact FC KX G.T.g G.T.b G.T.builtins G.T.nolimit hg Hw hints (Nat.le_trans hlen So) hr hF hb (fun H hO hS=>xT w H a ns hlen hO hS) fun H e s'=>O2 w H bJ e s'
end L2
namespace L2
open PySem PySem.Spec PyProof.Rows
def eZ(s:Stmt):Arguments:=match s with
 |.FunctionDef _ a _ _ _ _ _ _ _ _=>a
 |_=>{ posonlyargs:=[],args:=[],vararg:=none,kwonlyargs:=[],kw_defaults:=[],kwarg:=none,defaults:=[] }
def dm(s:Stmt):List Stmt:=match s with
 |.FunctionDef _ _ b _ _ _ _ _ _ _=>b
 |_=>[]
def au(s:Stmt):Scope:=match s with
 |.FunctionDef _ _ _ _ _ _ sc _ _ _=>sc
 |_=>{ kind:=.function,names:=[],isGenerator:=false,isCoroutine:=false }
abbrev cW:uN:=fun _ _ _ _ _ _=>False
abbrev E0:XK:=fun _ _ _=>False
theorem Hy{X:Cx}:Passes cW X E0:=fun _ _ _ _ _ _ _ h=>h.elim
structure Bc(K:PySem.W.Frag)(x qual:Str)(st:Stmt)(f:Addr)(fd:FuncData):Prop where
 ex:∃(oc:Value) (od:Option Addr) (kV doc pm:Value) (an:Option Addr) (bz ct:Value) (kN:Array (Option Value)),
  fd=PySem.W.fnOf x qual (eZ st) (dm st) (au st) .none kV doc pm an bz ct∧K.lookup f=some ⟨oc,od,.func fd,kN⟩∧PySem.W.codeIn K bz qual=true
 kp:PySem.W.keepIn K (.ref f)=true
section
variable{P:Program}{w:World}{K:PySem.W.Frag}{mg:Str→Option Value}{base:Heap}
theorem Bc.ok{x qual:Str}{st:Stmt}{f:Addr}{fd:FuncData}{N ps:List Str}{k:Nat}{sp:Sp}(F:Bc K x qual st f fd)(S:aL N ps (au st))(len:∀vs H Q E,sp vs H Q E→vs.length=ps.length)
  (mM:∀(bz:Value) (A:Around) (outer:List Env) (s:Shared) (H:Hp) (vs:List V) (Q:VK) (E:XK),fG k (A.deeper (envOfC qual (au st) s.heap.objs.size f bz))→sp vs H Q E→
   ∃t,nK (qP cW P w K mg base N qual (au st) f bz A outer s H E).AK (dm st) t∧t { nx:=fun _ H'=>Q .bG H',rt:=Q } (start N vs) H):bH P w K mg base cW (k+1) f fd ps sp:=by
 obtain⟨oc,od,kV,doc,pm,an,bz,ct,kN,rfl,lk,sM⟩:=F.ex
 refine Hi lk sM S len fun A outer s H vs Q E hr xT=>?_
 obtain⟨t,h,q⟩:=mM bz A outer s H vs Q E hr xT
 exact⟨t,h.AK,q⟩
theorem Bc.binds{x qual:Str}{st:Stmt}{f:Addr}{fd:FuncData}{ps:List Str}(F:Bc K x qual st f fd)
  (h:∀(kV doc pm:Value) (an:Option Addr) (bz ct:Value) (us:List Value),us.length=ps.length→bindArgs (PySem.W.fnOf x qual (eZ st) (dm st) (au st) .none kV doc pm an bz ct) ⟨us,[]⟩=pure (ps.zip us)):Binds K fd ps []:=by
 obtain⟨oc,od,kV,doc,pm,an,bz,ct,kN,rfl,lk,sM⟩:=F.ex
 exact .all (h kV doc pm an bz ct)
theorem Ef{x qual:Str}{st:Stmt}{f:Addr}{oc:Value}{od an:Option Addr}{kN:Array (Option Value)}{kV doc pm bz ct:Value}(l:K.lookup f=some ⟨oc,od,.func (PySem.W.fnOf x qual (eZ st) (dm st) (au st) .none kV doc pm an bz ct),kN⟩)
  (c:PySem.W.codeIn K bz qual=true)(k:PySem.W.keepIn K (.ref f)=true):Bc K x qual st f (PySem.W.fnOf x qual (eZ st) (dm st) (au st) .none kV doc pm an bz ct):=⟨⟨oc,od,kV,doc,pm,an,bz,ct,kN,rfl,l,c⟩,k⟩
end
section
variable{X:Cx}
theorem pv(i:Nat){x:Str}{pos:Pos}(hN:X.N[i]? =some x:=by rfl)(hv:CB X.env.scope x:=by first|exact Or.inl rfl|exact Or.inr (Or.inl rfl)|exact Or.inr (Or.inr rfl))(hd:(x==("__debug__":Str))=false:=by decide)
  (sM:(x==("__classdict__":Str))=false:=by decide):PE X (.Name x pos) (GW i):=KQ hN hv hd sM
end
def NQ(H H':Hp):Prop:=∀b o,H b=some o→H' b=some o
end L2
namespace L2
open PySem PySem.Spec PyProof.Rows
section
variable{κ:Type}[DecidableEq κ]
def dR(aE:List (κ×V))(k:κ):Option V:=(aE.find? fun kv=>decide (kv.1=k)).map (·.2)
def putK(aE:List (κ×V))(k:κ)(v:V):List (κ×V):=
 if (aE.any fun kv=>decide (kv.1=k))=true then aE.map (fun kv=>if kv.1=k then(kv.1,v)else kv)else aE++[(k,v)]
theorem yg{p:κ×V}{r:List (κ×V)}{k:κ}(e:p.1=k):dR (p::r) k=some p.2:=by simp[dR,List.find?_cons,e]
theorem yh{p:κ×V}{r:List (κ×V)}{k:κ}(e:¬p.1=k):dR (p::r) k=dR r k:=by simp[dR,List.find?_cons,e]
theorem sR(k:κ):∀aE:List (κ×V),(aE.any fun kv=>decide (kv.1=k))=(dR aE k).isSome
 |[]=>rfl
 |p::r=>by
  rw[List.any_cons]
  by_cases e:p.1=k
  ·simp only[yg e,decide_eq_true e,Bool.true_or,Option.isSome_some]
  ·rw[yh e,decide_eq_false e,Bool.false_or];exact sR k r
theorem jO(aE:List (κ×V))(k:κ)(v:V):(putK aE k v).length≤aE.length+1:=by
 unfold putK
 split
 ·rw[List.length_map];omega
 ·rw[List.length_append,List.length_cons,List.length_nil];omega
theorem pL.vY{o:Option V}{u:Option Value}(r:pL o u):o.isSome=u.isSome:=by
 cases o with
 |none=>cases u with
  |none=>rfl
  |some _=>exact(show False from r).elim
 |some _=>cases u with
  |none=>exact(show False from r).elim
  |some _=>rfl
theorem KV.any{aE:List (κ×V)}{vs:List (κ×Value)}(r:KV aE vs)(k:κ):(aE.any fun kv=>decide (kv.1=k))=vs.any fun kv=>decide (kv.1=k):=by
 unfold KV at r
 induction r with
 |nil=>rfl
 |cons h t ih=>rw[List.any_cons,List.any_cons,ih,h.1]
theorem KV.me{aE:List (κ×V)}{vs:List (κ×Value)}(r:KV aE vs)(k:κ){y:V}{u:Value}(ry:RelV y u):
  KV (aE.map fun kv=>if kv.1=k then(kv.1,y)else kv) (vs.map fun kv=>if kv.1=k then(kv.1,u)else kv):=by
 unfold KV at r ⊢
 induction r with
 |nil=>exact .nil
 |@cons p q ps qs h t ih=>
  rw[List.map_cons,List.map_cons]
  refine .cons ?_ ih
  obtain⟨h1,h2⟩:=h
  by_cases e:p.1=k
  ·rw[if_pos e,if_pos (h1.symm.trans e)];exact⟨h1,ry⟩
  ·rw[if_neg e,if_neg (fun z=>e (h1.trans z))];exact⟨h1,h2⟩
theorem KV.put{aE:List (κ×V)}{vs:List (κ×Value)}(r:KV aE vs)(k:κ){y:V}{u:Value}(ry:RelV y u):KV (putK aE k y) (stored vs k u):=by
 unfold putK stored
 rw[r.any k]
 by_cases e:(vs.any fun kv=>decide (kv.1=k))=true
 ·rw[if_pos e,if_pos e];exact r.me k ry
 ·rw[if_neg e,if_neg e];exact Paired.snoc r ⟨rfl,ry⟩
theorem KV.length{aE:List (κ×V)}{vs:List (κ×Value)}(r:KV aE vs):aE.length=vs.length:=Paired.length r
end
theorem Hz{P:Program}{w:World}{k:Key}{u:Value}(r:RelV (kV k) u):(bZ P w).is k u=true:=by
 cases k with
 |inl i=>obtain⟨t,e⟩:=(show ∃t,u=Value.int i t from r);subst e;exact zj P w i t
 |inr x=>obtain⟨t,e⟩:=(show ∃t,u=Value.str x t from r);subst e;exact zk P w x t
theorem vZ{P:Program}{w:World}:∀{ks:List Key}{us:List Value},Vals (ks.map kV) us→ItemsAre (bZ P w) ks us
 |[],_,r=>by rw[List.map_nil]at r;cases r;exact .nil
 |k::ks,_,r=>by
  rw[List.map_cons]at r
  cases r with
  |cons h t=>exact .cons (Hz h) (vZ t)
abbrev KT(H:Hp):List (List Key×V)→List (List Key×Addr×Value)→Prop:=Paired fun p q=>p.1=q.1∧H q.2.1=some (.tup (p.1.map kV))∧RelV p.2 q.2.2
theorem KT.val{H:Hp}{aE:List (List Key×V)}{xs:List (List Key×Addr×Value)}(r:KT H aE xs)(k:List Key):pL (dR aE k) ((atKey xs k).map (·.2)):=by
 induction r with
 |nil=>exact True.intro
 |@cons p q ps qs h t ih=>
  obtain⟨h1,_,h2⟩:=h
  by_cases e:p.1=k
  ·have e':q.1=k:=h1.symm.trans e
   have b:atKey (q::qs) k=some q.2:=by simp[atKey,List.find?_cons,e']
   rw[yg e,b];exact h2
  ·have e':¬q.1=k:=fun z=>e (h1.trans z)
   have b:atKey (q::qs) k=atKey qs k:=by simp[atKey,List.find?_cons,e']
   rw[yh e,b];exact ih
theorem KT.me{H:Hp}{aE:List (List Key×V)}{xs:List (List Key×Addr×Value)}(r:KT H aE xs)(k:List Key){y:V}{u:Value}(ry:RelV y u):
  KT H (aE.map fun kv=>if kv.1=k then(kv.1,y)else kv) (xs.map (putAt k u)):=by
 induction r with
 |nil=>exact .nil
 |@cons p q ps qs h t ih=>
  rw[List.map_cons,List.map_cons]
  refine .cons ?_ ih
  obtain⟨h1,h2,h3⟩:=h
  unfold putAt
  by_cases e:p.1=k
  ·rw[if_pos e,if_pos (h1.symm.trans e)];exact⟨h1,h2,ry⟩
  ·rw[if_neg e,if_neg (fun z=>e (h1.trans z))];exact⟨h1,h2,h3⟩
theorem KT.put{H:Hp}{aE:List (List Key×V)}{xs:List (List Key×Addr×Value)}(r:KT H aE xs)(k:List Key){b:Addr}{y:V}{u:Value}(hb:H b=some (.tup (k.map kV)))(ry:RelV y u):
  KT H (putK aE k y) (storedH xs k b u):=by
 have e:(aE.any fun kv=>decide (kv.1=k))=(atKey xs k).isSome:=by
  rw[sR,(r.val k).vY,Option.isSome_map]
 unfold putK storedH
 rw[e]
 by_cases q:(atKey xs k).isSome=true
 ·rw[if_pos q,if_pos q];exact r.me k ry
 ·rw[if_neg q,if_neg q];exact Paired.snoc r ⟨rfl,hb,ry⟩
theorem KT.keeps{H H':Hp}{aE:List (List Key×V)}{xs:List (List Key×Addr×Value)}(r:KT H aE xs)(ht:∀b ys,H b=some (.tup ys)→H' b=some (.tup ys)):KT H' aE xs:=
 Paired.tR r fun _ _ z=>⟨z.1,ht _ _ z.2.1,z.2.2⟩
section
variable{P:Program}{w:World}{H:Hp}{h:Heap}{a:Addr}
theorem C1{u:HO}(ok:gB P w H h)(e:Rd H a u):bN P w H h a u:=e.ok ok
theorem O3{aE:List (Key×V)}(ok:gB P w H h)(e:Rd H a (.dK aE)):aE.length≤sizeLine∧(a==sysModules)=false∧∃vs,KV aE vs∧h.DictOf (bZ P w) a vs:=
 show bN P w H h a (.dK aE)from C1 ok e
theorem O4{aE:List (Key×V)}(ok:gB P w H h)(e:H a=some (.dK aE)):aE.length≤sizeLine∧(a==sysModules)=false∧∃vs,KV aE vs∧h.DictOf (bZ P w) a vs:=O3 ok (.inl e)
theorem zF{ks:List Key}(ok:gB P w H h)(e:H a=some (.tup (ks.map kV))):(tupleKind (bZ P w)).is h ks a:=by
 obtain⟨_,its,r,o,h1,h2,n,h3⟩:=(show bN P w H h a (.tup (ks.map kV))from ok a _ e)
 exact⟨o,its.toArray,n,h1,h2,h3,by simpa using vZ r⟩
theorem HA{aE:List (List Key×V)}(ok:gB P w H h)(e:Rd H a (.dT aE)):aE.length≤sizeLine∧(a==sysModules)=false∧
  ∃xs,KT H aE xs∧h.DictOfH (tupleKind (bZ P w)) a xs:=by
 obtain⟨z,y,xs,r,o,es,ep,h1,h2,h3,h4,h5⟩:=(show bN P w H h a (.dT aE)from C1 ok e)
 refine⟨z,y,xs,r,o,es,ep,h1,h2,h3,h4,fun x hx=>?_,h5⟩
 have all:∀{l:List (List Key×V)}{m:List (List Key×Addr×Value)},KT H l m→∀x∈m,(tupleKind (bZ P w)).is h x.1 x.2.1:=by
  intro l m q
  induction q with
  |nil=>intro x hx;exact nomatch hx
  |@cons p q ps qs hq t ih=>
   intro x hx
   rcases List.mem_cons.mp hx with e|hx
   ·subst e
    exact zF ok (by rw[←hq.1];exact hq.2.1)
   ·exact ih x hx
 exact all r x hx
theorem O5{aE:List (List Key×V)}(ok:gB P w H h)(e:H a=some (.dT aE)):aE.length≤sizeLine∧(a==sysModules)=false∧
  ∃xs,KT H aE xs∧h.DictOfH (tupleKind (bZ P w)) a xs:=HA ok (.inl e)
end
def Eg(H:Hp)(a:Addr)(y:V)(r:Option V):Prop:=
 (∃aE k,Rd H a (.dK aE)∧y=kV k∧r=dR aE k)∨∃aE k b,Rd H a (.dT aE)∧y= .ref b∧H b=some (.tup (k.map kV))∧r=dR aE k
def v7(H:Hp)(a:Addr)(y v:V)(H':Hp):Prop:=
 (∃aE k,H a=some (.dK aE)∧y=kV k∧aE.length<sizeLine∧H'=upd H a (.dK (putK aE k v)))∨
 ∃aE k b,H a=some (.dT aE)∧y= .ref b∧H b=some (.tup (k.map kV))∧aE.length<sizeLine∧H'=upd H a (.dT (putK aE k v))
theorem Eg.k{H:Hp}{a:Addr}{aE:List (Key×V)}{k:Key}(e:H a=some (.dK aE)):Eg H a (kV k) (dR aE k):=.inl ⟨aE,k,.inl e,rfl,rfl⟩
theorem Eg.t{H:Hp}{a b:Addr}{aE:List (List Key×V)}{k:List Key}(e:H a=some (.dT aE))(eb:H b=some (.tup (k.map kV))):Eg H a (.ref b) (dR aE k):=.inr ⟨aE,k,b,.inl e,rfl,eb,rfl⟩
theorem v7.k{H:Hp}{a:Addr}{aE:List (Key×V)}{k:Key}{v:V}(e:H a=some (.dK aE))(hl:aE.length<sizeLine):v7 H a (kV k) v (upd H a (.dK (putK aE k v))):=.inl ⟨aE,k,e,rfl,hl,rfl⟩
theorem v7.t{H:Hp}{a b:Addr}{aE:List (List Key×V)}{k:List Key}{v:V}(e:H a=some (.dT aE))(eb:H b=some (.tup (k.map kV)))(hl:aE.length<sizeLine):
  v7 H a (.ref b) v (upd H a (.dT (putK aE k v))):=.inr ⟨aE,k,b,e,rfl,eb,hl,rfl⟩
section
variable{X:Cx}{pins:List (Addr×Obj)}{σ:St}{H:Hp}{s:Shared}{a:Addr}{y v:V}{u r:Value}{o:Option V}{A:Around}{E:Value→Shared→Prop}
theorem Inv.big(I:Inv X pins σ H s):sysModules<s.heap.objs.size:=by
 have h:mainGlobals<s.heap.objs.size:=(I.mod.glob.keeps I.bk).lt
 exact Nat.lt_trans (by decide) h
theorem nQ{h':Heap}{t':Nat}{ob:HO}(I:Inv X pins σ H s)(mu:GO (H a))(hs:Heap.SameBut a s.heap h')(he:∃q,h'.get? a=some q)(new:bN X.prog X.w (upd H a ob) h' a ob):
  Inv X pins σ (upd H a ob) { s with heap:=h',toks:=t' }:=
 I.write (x:=a) (e:=a) mu (.inl rfl) (fun b q hb z=>(hs.2 b hb).trans z) he new
theorem LI{P:Program}{w:World}{H':Hp}{h':Heap}{aE:List (Key×V)}{vs:List (Key×Value)}(z:aE.length≤sizeLine)(hd:(a==sysModules)=false)(rel:KV aE vs)(dd:h'.DictOf (bZ P w) a vs):
  bN P w H' h' a (.dK aE):=⟨z,hd,vs,rel,dd⟩
theorem C2{H':Hp}{Q:Unit→Shared→Prop}(hu:A.units+1<cLine)(I:Inv X pins σ H s)(g:v7 H a y v H')(ry:RelV y u)(rv:RelV v r)(h:∀s',Inv X pins σ H' s'→Q () s'):
  wpAny (model X.prog X.w) A (setItem (.ref a) u r) Q E s:=by
 rcases g with⟨aE,k,e,ey,l,eH⟩|⟨aE,k,b,e,ey,eb,l,eH⟩
 ·subst ey eH
  obtain⟨z,hd,vs,rel,dd⟩:=O4 I.bj e
  have hz:vs.length≤sizeLine:=by rw[←rel.length];exact z
  have hl:(putK aE k v).length≤sizeLine:=by have:=jO aE k v;omega
  refine wpAny_setItem_pairs (hsz:=hz) (Hz ry) dd fun h' Be hs=>h _ ?_
  have he:∃q,h'.get? a=some q:=let ⟨q,_,_,hq,_⟩:=Be;⟨q,hq⟩
  exact nQ I (by rw[e];exact True.intro) hs he (LI hl hd (rel.put k rv) Be)
 ·subst ey eH
  cases (show u=Value.ref b from ry)
  obtain⟨z,hd,xs,rel,dd⟩:=O5 I.bj e
  have hz:xs.length≤sizeLine:=by rw[←Paired.length rel];exact z
  have hl:(putK aE k v).length≤sizeLine:=by have:=jO aE k v;omega
  refine wpAny_setItem_heap (hsz:=hz) (tupleKind_room_in1 hu) (zF I.bj eb) dd fun h' Be hs=>h _ ?_
  obtain⟨q,es,ep,hq,h2,h3,h4,_,h5⟩:=Be
  refine nQ I (by rw[e];exact True.intro) hs ⟨q,hq⟩ ⟨hl,hd,_,(rel.put k eb rv).keeps fun c ys ec=>?_,q,es,ep,hq,h2,h3,h4,h5⟩
  rw[bg (vH ec e (fun z=>nomatch z))]
  exact ec
end
section
variable{X:Cx}{pins:List (Addr×Obj)}{σ:St}{H:Hp}{s:Shared}{a:Addr}{aE:List (Key×V)}{k:Key}{u:Value}{A:Around}{E:Value→Shared→Prop}
end
def HB(i:Expr):Prop:=∀ov iv,subscripted i false ov iv=operate [ov,iv] (getItem ov iv)
theorem HC{prog:Program}{w:World}{A:Around}{E:Value→Shared→Prop}{s:Shared}{env:Env}{value slice:Expr}{pos:Pos}{T id:String}{Q:Value→Shared→Prop}
  (hl:typeLookup (.type T) "__getitem__" =pure (some (.builtin id)))(hs:HB slice)
  (h:wpAny (model prog w) A (eval value env) (fun o bJ=>wpAny (model prog w) A (eval slice env) (fun i lZ=>lZ.TypeIs o T∧wpAny (model prog w) A (getItem o i) Q E lZ) E bJ) E s):
  wpAny (model prog w) A (eval (.Subscript value slice pos) env) Q E s:=by
 refine Subscript_ (wpAny_mono h (fun o bJ nD=>wpAny_mono nD (fun i lZ Bf=>?_) fun _ _ x=>x) fun _ _ x=>x)
 obtain⟨hT,Bf⟩:=Bf
 unfold subscriptTail
 refine wpAny_bind ?_
 rw[getitemInPython_of_ne hT.not_modules]
 refine wpAny_bind (wpAny_specialOf hT hl ?_)
 have fin:wpAny (model prog w) A (subscripted slice false o i) (fun r tY=>wpAny (model prog w) A (letTemporaryGo value o r >>= fun _=>pure r) Q E tY) E lZ:=by
  rw[hs o i]
  exact wpAny_operating (wpAny_mono Bf (fun r tY Eh=>wpAny_bind (wpAny_letTemporaryGo (wpAny_pure Eh))) fun _ _ x=>x)
 first
  |exact wpAny_pure (wpAny_bind fin)
  |exact wpAny_bind (wpAny_pure (wpAny_bind fin))
  |exact wpAny_bind fin
def HD(td ty tv:TE):TS:=fun D σ H=>tv σ H fun v H1=>td σ H1 fun x H2=>ty σ H2 fun y H3=>∃a H4,x= .ref a∧v7 H3 a y v H4∧D.nx σ H4
section
variable{X:Cx}{o i e value:Expr}{pos pos' R6:Pos}{td ty tv:TE}
theorem HE(hu:X.A.units+1<cLine)(ho:PE X o td)(hi:PE X i ty)(hv:PE X value tv)(hs:swapsWith value (some (.Subscript o i pos')) pos.line X.env=pure false):
  PS X (.Assign [.Subscript o i pos'] value pos) (HD td ty tv):=by
 intro pins s σ H D I h
 refine wpAny_Assign_Subscript (bL (hv pins s σ H _ I h) fun r s1 ⟨v,H1,I1,rv,q1⟩=>bL (ho pins s1 σ H1 _ I1 q1) fun u s2 ⟨x,H2,I2,rx,q2⟩=>bL (hi pins s2 σ H2 _ I2 q2) fun iv s3 ⟨y,H3,I3,ry,a,H4,ex,g,q3⟩=>?_) hs
 subst ex
 obtain rfl:u=Value.ref a:=rx
 exact C2 hu I3 g ry rv fun s4 I4=>⟨σ,H4,I4,q3⟩
end
theorem FG{P:Program}{w:World}{H:Hp}(h:Heap)(hb:sysModules<h.objs.size):bN P w H (h.push { cls:=.type "dict",data:=.dict #[] }) h.objs.size (.dT []):=
 ⟨Nat.zero_le _,beq_eq_false_iff_ne.mpr (Ne.symm (Nat.ne_of_lt hb)),[],.nil,_,#[],0,Heap.get?_push_size _ rfl,⟨rfl,rfl,rfl⟩,rfl,rfl,List.nodup_nil⟩
def LJ:TE:=fun _ H Q=>∀p,H p=none→Q (.ref p) (upd H p (.dT []))
section
variable{X:Cx}{pos:Pos}
theorem FH:PE X (.Dict [] [] pos) LJ:=fun pins s σ H Q I h=>
 wpAny_Dict_empty ⟨.ref s.heap.objs.size,_,I.laid (a:=s.heap.objs.size) (o:=.dT []) (t':=s.toks) (fun _ _ q=>Heap.get?_push_of_some _ q) (Nat.le_refl _) (FG s.heap I.big),rfl,h _ (I.bj.fresh (Nat.le_refl _))⟩
end
structure M1(X:Cx)(o:Expr)(m:Str)(apos:Pos)(e:Expr)(bR:Pos):Prop where
 base:attributeBase o m X.env (eval o X.env)=eval o X.env
 Sq:((backTo bR (starEach [e] X.env)).all (fun x=>!x.1)&&(backToKw bR (keywordEach [] X.env)).all (fun x=>x.1.isSome)
  &&decide (([e]:List Expr).length+([]:List Keyword).length+(if ([]:List Keyword).isEmpty then 0 else 1)<30))=true
 line:(apos.endLine==bR.line)=true
 trees:backTo bR (starEach [e] X.env)=[(false,eval e X.env)]
structure M2(X:Cx)(o:Expr)(m:Str)(apos:Pos)(e f:Expr)(bR:Pos):Prop where
 base:attributeBase o m X.env (eval o X.env)=eval o X.env
 Sq:((backTo bR (starEach [e,f] X.env)).all (fun x=>!x.1)&&(backToKw bR (keywordEach [] X.env)).all (fun x=>x.1.isSome)
  &&decide (([e,f]:List Expr).length+([]:List Keyword).length+(if ([]:List Keyword).isEmpty then 0 else 1)<30))=true
 line:(apos.endLine==bR.line)=true
 trees:backTo bR (starEach [e,f] X.env)=[(false,eval e X.env),(false,eval f X.env)]
section
variable{X:Cx}{pins:List (Addr×Obj)}{σ:St}{H:Hp}{s:Shared}{a:Addr}{y d:V}{u r:Value}{o:Option V}{A:Around}{E:Value→Shared→Prop}
end
section
variable{X:Cx}{o e f:Expr}{apos bR:Pos}{td ty tx:TE}
end
section
variable{X:Cx}{pins:List (Addr×Obj)}{σ:St}{H:Hp}{s:Shared}{a:Addr}{aE:List (Key×V)}{A:Around}{E:Value→Shared→Prop}
end
section
variable{X:Cx}{pins:List (Addr×Obj)}{σ:St}{H:Hp}{s:Shared}{a:Addr}{y:V}{u:Value}{A:Around}{E:Value→Shared→Prop}
end
end L2
namespace My
structure Bd(k:Nat)(x:Int):Prop where
 lt:x.natAbs<2 ^ k
theorem Bd.mono{j k:Nat}{x:Int}(h:Bd j x)(e:j≤k):Bd k x:=⟨Nat.lt_of_lt_of_le h.lt (Nat.pow_le_pow_right (by decide) e)⟩
theorem Bd.mul{j k:Nat}{x y:Int}(h:Bd j x)(g:Bd k y):Bd (j+k) (x*y):=by
 refine⟨?_⟩
 rw[Int.natAbs_mul,Nat.pow_add]
 exact Nat.mul_lt_mul_of_lt_of_lt h.lt g.lt
theorem Bd.add{j k:Nat}{x y:Int}(h:Bd j x)(g:Bd k y):Bd (max j k+1) (x+y):=by
 have h':=(h.mono (Nat.le_max_left j k)).lt
 have g':=(g.mono (Nat.le_max_right j k)).lt
 refine⟨?_⟩
 rw[Nat.pow_succ]
 omega
theorem Bd.neg{k:Nat}{x:Int}(h:Bd k x):Bd k (-x):=⟨by have:=h.lt;omega⟩
theorem Bd.sub{j k:Nat}{x y:Int}(h:Bd j x)(g:Bd k y):Bd (max j k+1) (x - y):=by
 rw[Int.sub_eq_add_neg];exact h.add g.neg
theorem Bd.of_le{k:Nat}{x y:Int}(h:Bd k y)(e:x.natAbs≤y.natAbs):Bd k x:=⟨Nat.lt_of_le_of_lt e h.lt⟩
theorem Bd.log2{k:Nat}{x:Int}(h:Bd k x)(hk: 0<k):x.natAbs.log2<k:=by
 have h:=h.lt
 by_cases z:x.natAbs=0
 ·rw[z];simpa using hk
 ·exact(Nat.log2_lt z).mpr h
theorem uP(n:Int){m:Int}(h:m≠0):(n.fmod m).natAbs<m.natAbs:=by
 rcases Int.lt_or_gt_of_ne h with hm|hm
 ·have e:n.fmod m= -((-n).fmod (-m)):=by
   rw[Int.fmod_def,Int.fmod_def,Int.neg_fdiv_neg]
   grind
  have h1: 0≤(-n).fmod (-m):=Int.fmod_nonneg_of_pos _ (by omega)
  have h2:(-n).fmod (-m)< -m:=Int.fmod_lt_of_pos _ (by omega)
  rw[e];omega
 ·have h1: 0≤n.fmod m:=Int.fmod_nonneg_of_pos _ hm
  have h2:n.fmod m<m:=Int.fmod_lt_of_pos _ hm
  omega
theorem yi(n m:Int):Int.gcd m (n.fmod m)=Int.gcd n m:=by
 rw[Int.fmod_def,Int.mul_comm,Int.gcd_sub_mul_right_right,Int.gcd_comm]
theorem gcd_zero(n:Int):((Int.gcd n 0:Nat):Int)=if n<0 then -n else n:=by
 rw[Int.gcd_zero_right];split<;>omega
def sg(n d:Int):Int:=if d<0 then -(Int.gcd n d:Int)else(Int.gcd n d:Int)
def nm(n d:Int):Int:=n.fdiv (sg n d)
def dn(n d:Int):Int:=d.fdiv (sg n d)
theorem Bg{n d:Int}(h:d≠0):(0:Int)<(Int.gcd n d:Int):=by
 have:=Int.gcd_pos_of_ne_zero_right n h
 omega
theorem Vf{n d:Int}(h:d≠0):sg n d≠0:=by
 have:=Bg (n:=n) h
 unfold sg;split<;>omega
theorem FI(n d:Int):sg n d ∣ n:=by
 unfold sg;split
 ·exact Int.neg_dvd.mpr (Int.gcd_dvd_left n d)
 ·exact Int.gcd_dvd_left n d
theorem FJ(n d:Int):sg n d ∣ d:=by
 unfold sg;split
 ·exact Int.neg_dvd.mpr (Int.gcd_dvd_right n d)
 ·exact Int.gcd_dvd_right n d
theorem LK(n d:Int):sg n d*nm n d=n:=Int.mul_fdiv_cancel' (FI n d)
theorem LL(n d:Int):sg n d*dn n d=d:=Int.mul_fdiv_cancel' (FJ n d)
theorem Vg{n d:Int}:nm n d*d=n*dn n d:=by
 have e1:=LK n d
 have e2:=LL n d
 generalize sg n d=s at*
 generalize nm n d=a at*
 generalize dn n d=b at*
 subst e1 e2
 grind
theorem C3(n d:Int):(sg n d).natAbs=Int.gcd n d:=by
 unfold sg;split<;>omega
theorem Vh{n d:Int}(h:d≠0):(sg n d).natAbs≤d.natAbs:=by
 rw[C3]
 exact Nat.le_of_dvd (by omega) (Int.natAbs_dvd_natAbs.mpr (Int.gcd_dvd_right n d) |> fun z=>by simpa using z)
theorem Ei{a b:Int}(ha:a≠0)(hb:b≠0):a*b≠0:=Int.mul_ne_zero ha hb
end My
namespace My
def det(a0 a1 a2 b0 b1 b2 c0 c1 c2:Int):Int:=(a1*b2 - a2*b1)*c0+(a2*b0 - a0*b2)*c1+(a0*b1 - a1*b0)*c2
def sgn(n:Int):Int:=if 0<n then 1 else if n<0 then -1 else 0
theorem FK(a0 a1 a2 b0 b1 b2 c0 c1 c2:Int):det b0 b1 b2 a0 a1 a2 c0 c1 c2= -det a0 a1 a2 b0 b1 b2 c0 c1 c2:=by unfold det;grind
structure Alike(x y w x' y' w':Int):Prop where
 pos: 0<w
 pos': 0<w'
 ex:x'*w=x*w'
 ey:y'*w=y*w'
def jC(x y w:Int):Int:=if w<0 then -(Int.gcd (Int.gcd x w:Int) y:Int)else(Int.gcd (Int.gcd x w:Int) y:Int)
def sx(x y w:Int):Int:=x.fdiv (jC x y w)
def sy(x y w:Int):Int:=y.fdiv (jC x y w)
def sw(x y w:Int):Int:=w.fdiv (jC x y w)
theorem vc{x y w:Int}(h:w≠0):(0:Int)<(Int.gcd (Int.gcd x w:Int) y:Int):=by
 have h1:=Bg (n:=x) h
 have h2: 0<Int.gcd (Int.gcd x w:Int) y:=Int.gcd_pos_of_ne_zero_left _ (by omega)
 omega
theorem Sr(x y w:Int):(Int.gcd (Int.gcd x w:Int) y:Int) ∣ x:=Int.dvd_trans (Int.gcd_dvd_left _ _) (Int.gcd_dvd_left _ _)
theorem NR(x y w:Int):(Int.gcd (Int.gcd x w:Int) y:Int) ∣ w:=Int.dvd_trans (Int.gcd_dvd_left _ _) (Int.gcd_dvd_right _ _)
theorem Ss(x y w:Int):(Int.gcd (Int.gcd x w:Int) y:Int) ∣ y:=Int.gcd_dvd_right _ _
theorem Bh(x y w:Int):(jC x y w).natAbs=Int.gcd (Int.gcd x w:Int) y:=by unfold jC;split<;>omega
theorem qT{x y w:Int}(h:w≠0):jC x y w≠0:=by
 have:=vc (x:=x) (y:=y) h
 unfold jC;split<;>omega
theorem v8{x y w z:Int}(h:(Int.gcd (Int.gcd x w:Int) y:Int) ∣ z):jC x y w ∣ z:=by
 unfold jC;split
 ·exact Int.neg_dvd.mpr h
 ·exact h
theorem vd(x y w:Int):jC x y w*sx x y w=x:=Int.mul_fdiv_cancel' (v8 (Sr x y w))
theorem ve(x y w:Int):jC x y w*sy x y w=y:=Int.mul_fdiv_cancel' (v8 (Ss x y w))
theorem oN(x y w:Int):jC x y w*sw x y w=w:=Int.mul_fdiv_cancel' (v8 (NR x y w))
theorem sw_pos{x y w:Int}(h:w≠0): 0<sw x y w:=by
 have e:=oN x y w
 have g:=vc (x:=x) (y:=y) h
 unfold jC at e
 split at e
 ·refine Int.not_le.mp fun hle=>?_
  have: 0≤-(Int.gcd (Int.gcd x w:Int) y:Int)*sw x y w:=Int.mul_nonneg_of_nonpos_of_nonpos (by omega) hle
  omega
 ·refine Int.not_le.mp fun hle=>?_
  have:(Int.gcd (Int.gcd x w:Int) y:Int)*sw x y w≤0:=Int.mul_nonpos_of_nonneg_of_nonpos (by omega) hle
  omega
theorem qk{s a b:Int}(h:s≠0)(e:s*a=b):a.natAbs≤b.natAbs:=by
 have e:=congrArg Int.natAbs e
 rw[Int.natAbs_mul]at e
 rw[←e]
 exact Nat.le_mul_of_pos_left _ (by omega)
theorem O6{x y w:Int}(h:w≠0):(sx x y w).natAbs≤x.natAbs:=qk (qT h) (vd x y w)
theorem O7{x y w:Int}(h:w≠0):(sy x y w).natAbs≤y.natAbs:=qk (qT h) (ve x y w)
theorem O8{x y w:Int}(h:w≠0):(sw x y w).natAbs≤w.natAbs:=qk (qT h) (oN x y w)
theorem LM{x y w:Int}(h:w≠0):(jC x y w).natAbs≤w.natAbs:=by
 rw[Bh]
 exact Nat.le_of_dvd (by omega) (Int.natAbs_dvd_natAbs.mpr (NR x y w) |> fun z=>by simpa using z)
theorem v9{x y w:Int}(h:w≠0):sx x y w*w=x*sw x y w:=by
 have e1:=vd x y w;have e2:=oN x y w
 generalize jC x y w=s at *;generalize sx x y w=a at *;generalize sw x y w=b at*
 subst e1 e2;grind
theorem v_{x y w:Int}(h:w≠0):sy x y w*w=y*sw x y w:=by
 have e1:=ve x y w;have e2:=oN x y w
 generalize jC x y w=s at *;generalize sy x y w=a at *;generalize sw x y w=b at*
 subst e1 e2;grind
theorem O9{x y w:Int}(h: 0<w):Alike x y w (sx x y w) (sy x y w) (sw x y w):=⟨h,sw_pos (by omega),v9 (by omega),v_ (by omega)⟩
end My
namespace My
structure C4(x y w:Int):Prop where
 pos: 0<w
 low:Int.gcd (Int.gcd x w:Int) y=1
theorem Bi{x y w z:Int}(h:Int.gcd (Int.gcd x w:Int) y=1){k:Int}(h1:k ∣ x*z)(h2:k ∣ w*z)(h3:k ∣ y*z):k ∣ z:=by
 have e1:k.natAbs ∣ Int.gcd (x*z) (w*z):=Int.dvd_gcd (Int.natAbs_dvd.mpr h1) (Int.natAbs_dvd.mpr h2)
 rw[Int.gcd_mul_right]at e1
 have e2:k ∣ (Int.gcd x w:Int)*z:=by
  have:(k.natAbs:Int) ∣ ((Int.gcd x w*z.natAbs:Nat):Int):=Int.natCast_dvd_natCast.mpr e1
  have h4:k ∣ ((Int.gcd x w*z.natAbs:Nat):Int):=Int.natAbs_dvd.mp this
  rw[Int.natCast_mul]at h4
  rcases Int.natAbs_eq z with hz|hz
  ·rw[hz];exact h4
  ·rw[hz,Int.mul_neg];exact Int.dvd_neg.mpr h4
 have e3:k.natAbs ∣ Int.gcd ((Int.gcd x w:Int)*z) (y*z):=Int.dvd_gcd (Int.natAbs_dvd.mpr e2) (Int.natAbs_dvd.mpr h3)
 rw[Int.gcd_mul_right,h,Nat.one_mul]at e3
 exact Int.natAbs_dvd_natAbs.mp e3
theorem tZ{x y w x' y' w':Int}(h:C4 x y w)(h':C4 x' y' w')(ex:x*w'=x'*w)(ey:y*w'=y'*w):x=x'∧y=y'∧w=w':=by
 have d1:w ∣ w':=Bi h.low (k:=w) (z:=w') (by rw[ex];exact Int.dvd_mul_left _ _) (Int.dvd_mul_right _ _) (by rw[ey];exact Int.dvd_mul_left _ _)
 have d2:w' ∣ w:=Bi h'.low (k:=w') (z:=w) (by rw[←ex];exact Int.dvd_mul_left _ _) (Int.dvd_mul_right _ _) (by rw[←ey];exact Int.dvd_mul_left _ _)
 have p:=h.pos;have p':=h'.pos
 have e:w=w':=Int.dvd_antisymm (by omega) (by omega) d1 d2
 subst e
 exact⟨Int.eq_of_mul_eq_mul_right (by omega) ex,Int.eq_of_mul_eq_mul_right (by omega) ey,rfl⟩
theorem oO{x y w:Int}(h:w≠0):C4 (sx x y w) (sy x y w) (sw x y w):=by
 refine⟨sw_pos h,?_⟩
 have e1:=vd x y w;have e2:=ve x y w;have e3:=oN x y w
 have g:=vc (x:=x) (y:=y) h
 have ga:=Bh x y w
 generalize jC x y w=s at*
 generalize sx x y w=a at*
 generalize sy x y w=b at*
 generalize sw x y w=c at*
 have q:Int.gcd (Int.gcd x w:Int) y=s.natAbs*Int.gcd (Int.gcd a c:Int) b:=by
  rw[←e1,←e2,←e3,Int.gcd_mul_left]
  have:((s.natAbs*Int.gcd a c:Nat):Int)=(s.natAbs:Int)*(Int.gcd a c:Int):=Int.natCast_mul _ _
  rw[this]
  have e4:Int.gcd ((s.natAbs:Int)*(Int.gcd a c:Int)) (s*b)=Int.gcd ((s.natAbs:Int)*(Int.gcd a c:Int)) ((s.natAbs:Int)*b):=by
   rcases Int.natAbs_eq s with hs|hs
   ·rw[←hs]
   ·have:s*b= -((s.natAbs:Int)*b):=by rw[←Int.neg_mul,←hs]
    rw[this,Int.gcd_neg]
  rw[e4,Int.gcd_mul_left]
  simp
 rw[←ga]at q
 have:s.natAbs*1=s.natAbs*Int.gcd (Int.gcd a c:Int) b:=by rw[Nat.mul_one];exact q
 exact(Nat.eq_of_mul_eq_mul_left (by omega) this).symm
theorem HF{x y w x' y' w':Int}(h:w≠0)(h':w'≠0)(ex:x*w'=x'*w)(ey:y*w'=y'*w):sx x y w=sx x' y' w'∧sy x y w=sy x' y' w'∧sw x y w=sw x' y' w':=by
 refine tZ (oO h) (oO h') ?_ ?_
 ·have a:=v9 (x:=x) (y:=y) h;have b:=v9 (x:=x') (y:=y') h'
  refine Int.eq_of_mul_eq_mul_left (Ei h h') ?_
  generalize sx x y w=p at *;generalize sw x y w=q at *;generalize sx x' y' w'=p' at *;generalize sw x' y' w'=q' at*
  grind
 ·have a:=v_ (x:=x) (y:=y) h;have b:=v_ (x:=x') (y:=y') h'
  refine Int.eq_of_mul_eq_mul_left (Ei h h') ?_
  generalize sy x y w=p at *;generalize sw x y w=q at *;generalize sy x' y' w'=p' at *;generalize sw x' y' w'=q' at*
  grind
theorem wa(x y w:Int):Int.gcd (Int.gcd x y:Int) w=Int.gcd (Int.gcd x w:Int) y:=by
 have a:∀p q r:Int,Int.gcd (Int.gcd p q:Int) r=Int.gcd p (Int.gcd q r:Int):=fun p q r=>Int.gcd_assoc p q r
 rw[a,a,Int.gcd_comm y w]
theorem Bj{x y w:Int}(h: 0<w):x / (Int.gcd (Int.gcd x y:Int) w:Int)=sx x y w∧y / (Int.gcd (Int.gcd x y:Int) w:Int)=sy x y w∧w / (Int.gcd (Int.gcd x y:Int) w:Int)=sw x y w:=by
 have g:=vc (x:=x) (y:=y) (w:=w) (by omega)
 have e:jC x y w=(Int.gcd (Int.gcd x y:Int) w:Int):=by unfold jC;rw[if_neg (by omega),wa]
 have g':(0:Int)≤(Int.gcd (Int.gcd x y:Int) w:Int):=by rw[wa];omega
 unfold sx sy sw
 rw[e]
 exact⟨(Int.fdiv_eq_ediv_of_nonneg _ g').symm,(Int.fdiv_eq_ediv_of_nonneg _ g').symm,(Int.fdiv_eq_ediv_of_nonneg _ g').symm⟩
end My
namespace My
def mP(p0 p1 p2 q0 q1 q2:Int):Bool:=if p0*q2=q0*p2 then decide (p1*q2<q1*p2)else decide (p0*q2<q0*p2)
def wb(c0 c1 c2 a0 a1 a2 b0 b1 b2:Int):Bool:=if det a0 a1 a2 b0 b1 b2 c0 c1 c2=0 then(if mP a0 a1 a2 b0 b1 b2=true then !mP c0 c1 c2 a0 a1 a2&&!mP b0 b1 b2 c0 c1 c2 else !mP c0 c1 c2 b0 b1 b2&&!mP a0 a1 a2 c0 c1 c2)else false
theorem j7{n:Int}(h:sgn n=0):n=0:=by
 unfold sgn at h
 split at h
 ·cases h
 ·split at h
  ·cases h
  ·omega
def m0(a0 a1 a2 b0 b1 b2 c0 c1 c2 d0 d1 d2:Int):Int:=(a2*b0 - a0*b2)*(c0*d1 - c1*d0) - (a0*b1 - a1*b0)*(c2*d0 - c0*d2)
def m1(a0 a1 a2 b0 b1 b2 c0 c1 c2 d0 d1 d2:Int):Int:=(a0*b1 - a1*b0)*(c1*d2 - c2*d1) - (a1*b2 - a2*b1)*(c0*d1 - c1*d0)
def m2(a0 a1 a2 b0 b1 b2 c0 c1 c2 d0 d1 d2:Int):Int:=(a1*b2 - a2*b1)*(c2*d0 - c0*d2) - (a2*b0 - a0*b2)*(c1*d2 - c2*d1)
section
variable(a0 a1 a2 b0 b1 b2 c0 c1 c2 d0 d1 d2:Int)
def u0:Int:=b0*(a2*c2*d2) - a0*(b2*c2*d2)
def u1:Int:=b1*(a2*c2*d2) - a1*(b2*c2*d2)
def v0:Int:=d0*(a2*b2*c2) - c0*(a2*b2*d2)
def v1:Int:=d1*(a2*b2*c2) - c1*(a2*b2*d2)
def z0:Int:=c0*(a2*b2*d2) - a0*(b2*c2*d2)
def z1:Int:=c1*(a2*b2*d2) - a1*(b2*c2*d2)
end
section
variable{a0 a1 a2 b0 b1 b2 c0 c1 c2 d0 d1 d2:Int}
theorem O_:c2*det a0 a1 a2 b0 b1 b2 d0 d1 d2 - d2*det a0 a1 a2 b0 b1 b2 c0 c1 c2=m2 a0 a1 a2 b0 b1 b2 c0 c1 c2 d0 d1 d2:=by
 unfold det m2;grind
theorem Pa:b2*det c0 c1 c2 d0 d1 d2 a0 a1 a2 - a2*det c0 c1 c2 d0 d1 d2 b0 b1 b2=m2 a0 a1 a2 b0 b1 b2 c0 c1 c2 d0 d1 d2:=by
 unfold det m2;grind
theorem HG:det c0 c1 c2 d0 d1 d2 a0 a1 a2*b0 - det c0 c1 c2 d0 d1 d2 b0 b1 b2*a0=m0 a0 a1 a2 b0 b1 b2 c0 c1 c2 d0 d1 d2:=by
 unfold det m0;grind
theorem HH:det c0 c1 c2 d0 d1 d2 a0 a1 a2*b1 - det c0 c1 c2 d0 d1 d2 b0 b1 b2*a1=m1 a0 a1 a2 b0 b1 b2 c0 c1 c2 d0 d1 d2:=by
 unfold det m1;grind
theorem HI:det c0 c1 c2 d0 d1 d2 a0 a1 a2*b2 - det c0 c1 c2 d0 d1 d2 b0 b1 b2*a2=m2 a0 a1 a2 b0 b1 b2 c0 c1 c2 d0 d1 d2:=by
 unfold det m2;grind
theorem LN:m0 c0 c1 c2 d0 d1 d2 a0 a1 a2 b0 b1 b2= -m0 a0 a1 a2 b0 b1 b2 c0 c1 c2 d0 d1 d2∧m1 c0 c1 c2 d0 d1 d2 a0 a1 a2 b0 b1 b2= -m1 a0 a1 a2 b0 b1 b2 c0 c1 c2 d0 d1 d2∧m2 c0 c1 c2 d0 d1 d2 a0 a1 a2 b0 b1 b2= -m2 a0 a1 a2 b0 b1 b2 c0 c1 c2 d0 d1 d2:=by
 unfold m0 m1 m2;grind
theorem FL{x y w:Int}(h:w≠0):sx (-x) (-y) (-w)=sx x y w∧sy (-x) (-y) (-w)=sy x y w∧sw (-x) (-y) (-w)=sw x y w:=
 HF (by omega) h (by grind) (by grind)
end
end My
namespace L2
open PySem PySem.Spec PyProof.Rows
section
variable{X:Cx}{a b:Expr}{ta tb:TE}{pos:Pos}
theorem aI:fN X (binaryOp .Mult) (rI IntMulOk fun i j=>.int (i*j)):=Ll fun _ _ _ _ _ _ _ hc q=>mul_int q hc
def C6(_i j:Int):Prop:=j≠0∧j.natAbs.log2<9000
theorem iQ:fN X (binaryOp .FloorDiv) (rI C6 fun i j=>.int (i.fdiv j)):=Ll fun _ _ _ _ _ _ _ hc q=>floordiv_int hc.1 q (.inl (PyProof.noPylong_of_log2 hc.2))
theorem ip:gC X (.builtin "isinstance") (fun xs H Q=>∃x n t k,xs=[x,.ty n]∧kY X.K H x t∧PySem.W.kitOne X.K t (.type n)=some k∧Q (.bl k) H):=by
 intro pins s σ H xs us Q I r h
 obtain⟨x,n,t,k,rfl,ty,e,q⟩:=h
 obtain⟨u,w',rfl,rx,rc⟩:=vals2 r
 cases (show w'=Value.type n from rc)
 exact CN I rx ty e fun tk=>⟨.bl k,H,I.tok tk,rfl,q⟩
end
section
variable{X:Cx}{K:PySem.W.Frag}
end
theorem qU{H:Hp}{p q:Addr}{x z:HO}(h:H p=some x)(hq:H q=none):upd H q z p=some x:=by
 rw[bg (cY h hq)];exact h
theorem iR{H:Hp}{q:Addr}{z:HO}(hq:H q=none):NQ H (upd H q z):=fun _ _ h=>qU h hq
theorem NS{us:List Value}{v:Value}(h:(us++[v]).length=3):∃a b,us=[a,b]:=by
 match us,h with
 |[a,b],_=>exact⟨a,b,rfl⟩
 |[],h=>simp at h
 |[_],h=>simp at h
 |_::_::_::_,h=>simp at h
theorem Pb{us:List Value}(h:(us++[]).length=3):∃a b c,us=[a,b,c]:=by
 match us,h with
 |[a,b,c],_=>exact⟨a,b,c,rfl⟩
 |[],h=>simp at h
 |[_],h=>simp at h
 |[_,_],h=>simp at h
 |_::_::_::_::_,h=>simp at h
structure yj(K:PySem.W.Frag)(x qual:Str)(st:Stmt)(f:Addr)(fd:FuncData):Prop where
 ex:∃(oc:Value) (od:Option Addr) (dV kV doc pm:Value) (an:Option Addr) (bz ct:Value) (kN:Array (Option Value)),
  fd=PySem.W.fnOf x qual (eZ st) (dm st) (au st) dV kV doc pm an bz ct∧K.lookup f=some ⟨oc,od,.func fd,kN⟩∧PySem.W.codeIn K bz qual=true
 kp:PySem.W.keepIn K (.ref f)=true
section
variable{P:Program}{w:World}{K:PySem.W.Frag}{mg:Str→Option Value}{base:Heap}
theorem yj.ok{x qual:Str}{st:Stmt}{f:Addr}{fd:FuncData}{N ps:List Str}{k:Nat}{sp:Sp}(F:yj K x qual st f fd)(S:aL N ps (au st))(len:∀vs H Q E,sp vs H Q E→vs.length=ps.length)
  (mM:∀(bz:Value) (A:Around) (outer:List Env) (s:Shared) (H:Hp) (vs:List V) (Q:VK) (E:XK),fG k (A.deeper (envOfC qual (au st) s.heap.objs.size f bz))→sp vs H Q E→
   ∃t,nK (qP cW P w K mg base N qual (au st) f bz A outer s H E).AK (dm st) t∧t { nx:=fun _ H'=>Q .bG H',rt:=Q } (start N vs) H):bH P w K mg base cW (k+1) f fd ps sp:=by
 obtain⟨oc,od,dV,kV,doc,pm,an,bz,ct,kN,rfl,lk,sM⟩:=F.ex
 refine Hi lk sM S len fun A outer s H vs Q E hr xT=>?_
 obtain⟨t,h,q⟩:=mM bz A outer s H vs Q E hr xT
 exact⟨t,h.AK,q⟩
theorem HJ{x qual:Str}{st:Stmt}{f:Addr}{oc:Value}{od an:Option Addr}{kN:Array (Option Value)}{dV kV doc pm bz ct:Value}(l:K.lookup f=some ⟨oc,od,.func (PySem.W.fnOf x qual (eZ st) (dm st) (au st) dV kV doc pm an bz ct),kN⟩)
  (c:PySem.W.codeIn K bz qual=true)(k:PySem.W.keepIn K (.ref f)=true):yj K x qual st f (PySem.W.fnOf x qual (eZ st) (dm st) (au st) dV kV doc pm an bz ct):=⟨⟨oc,od,dV,kV,doc,pm,an,bz,ct,kN,rfl,l,c⟩,k⟩
end
end L2
namespace My
open PySem PyProof.Rows
theorem bits_le{k:Nat}{x:Int}(h:Bd k x):PySem.Builtin.Int.intBits x≤k:=by
 unfold PySem.Builtin.Int.intBits
 split
 ·exact Nat.zero_le _
 ·rename_i z
  have z':x.natAbs≠0:=by
   intro e
   apply z
   have:x=0:=by omega
   rw[this];rfl
  have:=(Nat.log2_lt z').mpr h.lt
  omega
theorem Pc{x y:Int}{j k:Nat}(hx:Bd j x)(hy:Bd k y)(h:(decide (j≤100000)&&decide (k≤100000))=true):PySem.IntMulOk x y:=by
 rw[Bool.and_eq_true,decide_eq_true_eq,decide_eq_true_eq]at h
 have e:(2:Nat) ^ 20=1048576:=by decide
 exact PySem.IntMulOk.of_bits (by have:=bits_le hx;omega) (by have:=bits_le hy;omega)
theorem LO{x y:Int}(h1: -(2 ^ 64)<x)(h2:x<2 ^ 64):PySem.IntMulOk x y:=PySem.IntMulOk.of_left (PySem.intBits_le_64 h1 h2)
theorem LP{x y:Int}(h1: -(2 ^ 64)<y)(h2:y<2 ^ 64):PySem.IntMulOk x y:=PySem.IntMulOk.of_right (PySem.intBits_le_64 h1 h2)
end My
namespace L2
open PySem PySem.Spec PyProof.Rows
theorem mQ:bootBuiltins "abs" =some (.builtin "abs"):=by decide +kernel
theorem dB:bootBuiltins "len" =some (.builtin "len"):=by decide +kernel
theorem LQ:bootBuiltins "max" =some (.builtin "max"):=by decide +kernel
theorem fR:bootBuiltins "isinstance" =some (.builtin "isinstance"):=by decide +kernel
theorem Ej:bootBuiltins "int" =some (.type "int"):=by decide +kernel
theorem HK:bootBuiltins "bool" =some (.type "bool"):=by decide +kernel
theorem yk:bootBuiltins "tuple" =some (.type "tuple"):=by decide +kernel
theorem ki:bootBuiltins "list" =some (.type "list"):=by decide +kernel
def Pl(H:Hp)(p:Addr):Prop:=∃a b:Int,H p=some (.lst [.int a,.int b])∧0≤a∧0≤b
theorem Pl.new{H:Hp}{p:Addr}{a b:Int}(h1: 0≤a)(h2: 0≤b):Pl (upd H p (.lst [.int a,.int b])) p:=⟨a,b,cS,h1,h2⟩
theorem Su{i j:Int}{k:Nat}(h0:j≠0)(h:My.Bd k j)(hk:(decide (0<k)&&decide (k≤9000))=true):C6 i j:=by
 rw[Bool.and_eq_true,decide_eq_true_eq,decide_eq_true_eq]at hk
 exact⟨h0,Nat.lt_of_lt_of_le (My.Bd.log2 h hk.1) hk.2⟩
end L2
namespace L2
open PySem PySem.Spec PyProof.Rows
def gQ(cells:List (Str×Addr)):List (Str×NameKind)→List (Str×Addr)→List (Str×Addr)
 |[],cs=>cs
 |(n,k)::r,cs=>gQ cells r (if k==.free then(match cells.lookup n with|some a=>(n,a)::cs|none=>cs)else cs)
theorem nR{env:Env}:∀(names:List (Str×NameKind)) (cs:List (Str×Addr)),(∀y∈names,y.2= .free→∃c,env.cells.lookup y.1=some c)→
  (forIn names cs (fun(x:Str×NameKind) (r:List (Str×Addr))=>(do
   if x.2==.free then
    let a ←cellOf env x.1
    pure (ForInStep.yield ((x.1,a)::r))
   else pure (ForInStep.yield r):Sem (ForInStep (List (Str×Addr))))))=(pure (gQ env.cells names cs):Sem _)
 |[],cs,_=>rfl
 |(n,k)::r,cs,h=>by
  rw[List.forIn_cons]
  have hr:∀y∈r,y.2= .free→∃c,env.cells.lookup y.1=some c:=fun y hy=>h y (List.mem_cons_of_mem _ hy)
  by_cases hk:k= .free
  ·subst hk
   obtain⟨c,hc⟩:=h (n,.free) List.mem_cons_self rfl
   have aW:env.cells.lookup n=some c:=hc
   simp only[beq_self_eq_true,if_true,cellOf,aW,pure_bind,gQ]
   exact nR r _ hr
  ·have hb:(k==NameKind.free)=false:=by simpa using hk
   simp only[hb,Bool.false_eq_true,if_false,pure_bind,gQ]
   exact nR r _ hr
theorem nS{scope:Scope}{env:Env}(h:∀y∈scope.names,y.2= .free→∃c,env.cells.lookup y.1=some c):closureFor scope env=pure (gQ env.cells scope.names []):=by
 have e:=nR (env:=env) scope.names [] h
 unfold closureFor
 simp only[bind_pure_comp]at e ⊢
 first
  |(simpa using e)
  |(rw[←e];rfl)
theorem t7{cells:List (Str×Addr)}{x:Str}{c:Addr}:∀{names:List (Str×NameKind)}{cs:List (Str×Addr)},(gQ cells names cs).lookup x=some c→(∀c',cs.lookup x=some c'→cells.lookup x=some c')→cells.lookup x=some c
 |[],cs,h,hc=>hc c h
 |(n,k)::r,cs,h,hc=>by
  refine t7 (names:=r) h fun c' aW=>?_
  by_cases hk:(k==NameKind.free)=true
  ·rw[if_pos hk]at aW
   cases e:cells.lookup n with
   |none=>rw[e]at aW;exact hc c' aW
   |some a=>
    rw[e]at aW
    by_cases hx:x=n
    ·subst hx
     simp only[List.lookup_cons,beq_self_eq_true]at aW
     rw[e];exact aW
    ·have hb:(x==n)=false:=beq_eq_false_iff_ne.mpr hx
     simp only[List.lookup_cons,hb]at aW
     exact hc c' aW
  ·rw[if_neg hk]at aW
   exact hc c' aW
theorem qV{cells:List (Str×Addr)}{x:Str}:∀{names:List (Str×NameKind)}{cs:List (Str×Addr)},(∃c,cs.lookup x=some c)→∃c,(gQ cells names cs).lookup x=some c
 |[],_,h=>h
 |(n,k)::r,cs,h=>by
  refine qV (names:=r) ?_
  split
  ·split
   ·rename_i a _
    by_cases hx:x=n
    ·subst hx;exact⟨a,by simp⟩
    ·have hb:(x==n)=false:=beq_eq_false_iff_ne.mpr hx
     simpa[List.lookup_cons,hb]using h
   ·exact h
  ·exact h
theorem nT{cells:List (Str×Addr)}{x:Str}:∀{names:List (Str×NameKind)}{cs:List (Str×Addr)},(x,NameKind.free)∈names→(∃c,cells.lookup x=some c)→∃c,(gQ cells names cs).lookup x=some c
 |[],_,h,_=>nomatch h
 |(n,k)::r,cs,h,hc=>by
  rcases List.mem_cons.mp h with e|h
  ·cases e
   refine qV (names:=r) ?_
   obtain⟨c,hc⟩:=hc
   rw[if_pos (by rfl),hc]
   exact⟨c,by simp⟩
  ·exact nT (names:=r) h hc
theorem xX{prog:Program}{w:World}{A:Around}{R:Result→Shared→Prop}{s:Shared}{elt target iter:Expr}{ifs:List Expr}{scope:Scope}{pos:Pos}{it acc:Value}{env:Env}(I:Nat→Shared→Prop)
  (turn:∀n s,I n s→wpAny (model prog w) A (pyNext it) (fun r bJ=>match r with
   |none=>R (.ok .next) bJ
   |some v=>wpAny (model prog w) A (letOwnedTupleGo target it v) (fun _ bE=>wpAny (model prog w) A (assign target env v) (fun _ lZ=>
     wpAny (model prog w) A (forIn ifs true fun c r=>if r=true then do let ok ←isTrue c env (eval c env);pure (ForInStep.yield ok)else pure (ForInStep.yield r)) (fun ok tY=>
      if ok=true then wpAny (model prog w) A (eval elt env) (fun x Ek=>
       wpAny (model prog w) A (call (.builtin "list.append") [acc,x]) (fun _ NT=>∃m,m<n∧I m NT) (fun _ _=>False) Ek) (fun _ _=>False) tY
      else ∃m,m<n∧I m tY) (fun _ _=>False) lZ) (fun _ _=>False) bE) (fun _ _=>False) bJ) (fun _ _=>False) s)
  (n:Nat)(h:I n s):
  codeAny (model prog w) A (.compLoop (.ListComp elt [⟨target,iter,ifs,0⟩] scope pos) 0 it acc env) R s:=by
 refine codeAny_loop rfl I (fun n s hI=>?_) n h
 show wpAny _ A ((compTurn (.ListComp elt [⟨target,iter,ifs,0⟩] scope pos) 0 it acc env).onRaise (fun x=>do noteFrame x env;theTreesLotGoes x)) _ _ s
 refine wpAny_noted ?_
 rw[compTurn_list]
 refine wpAny_bind (wpAny_standAt (wpAny_bind (wpAny_mono (turn n s hI) (fun r bJ nD=>?_) fun _ _ h'=>h'.elim)))
 cases r with
 |none=>exact wpAny_pure nD
 |some v=>
  refine wpAny_bind (wpAny_mono nD (fun _ bE h₀=>?_) fun _ _ h'=>h'.elim)
  refine wpAny_bind (wpAny_mono h₀ (fun _ lZ Bf=>wpAny_bind (wpAny_mono Bf (fun ok tY Eh=>?_) fun _ _ h'=>h'.elim)) fun _ _ h'=>h'.elim)
  cases ok with
  |false=>exact wpAny_pure ⟨rfl,Eh⟩
  |true=>
   exact wpAny_bind (wpAny_bind (wpAny_mono Eh (fun x Ek Sv=>wpAny_bind (wpAny_mono Sv (fun _ NT Sw=>wpAny_pure (wpAny_pure ⟨rfl,Sw⟩)) fun _ _ h'=>h'.elim)) fun _ _ h'=>h'.elim))
abbrev Cx.jD(X:Cx)(scope:Scope)(C:Addr)(N':List Str)(bE:Shared)(cQ:Hp)(fp:List Addr):Cx:=
 { X with N:=N',bE:=bE,cQ:=cQ,env:=compEnvC scope (gQ X.env.cells scope.names []) C X.env,outer:=X.stack,ex:=fp,fn:=fun _=>false,pn:=[],xe:=fun _ _=>False }
def uQ(σ:St)(cap:List (Option Nat)):St:=cap.map fun o=>match o with
 |some i=>(match σ[i]? with|some v=>v|none=>none)
 |none=>none
structure ql(X:Cx)(scope:Scope)(N':List Str)(cap:List (Option Nat)):Prop where
 kind:scope.kind= .function
 C7:∀y∈scope.names,y.2≠.cell
 names:∀y∈scope.names,y.2= .local→scope.names.lookup y.1=some .local
 frees:∀y∈scope.names,y.2= .free→X.env.kindOf y.1=some .cell∨X.env.kindOf y.1=some .free
 len:cap.length=N'.length
 Sx:∀(j i:Nat) (x:Str),cap[j]? =some (some i)→N'[j]? =some x→X.N[i]? =some x∧(x,NameKind.free)∈scope.names
 Vi:∀(j i:Nat) (x:Str),cap[j]? =some (some i)→N'[j]? =some x→CB X.env.scope x
 un:∀(j i:Nat) (x:Str),cap[j]? =some (some i)→N'[j]? =some x→∀z∈scope.names,z.1=x→z.2= .free
def iq(sc scope:Scope)(NN:List Str):List Str→List (Option Nat)→Bool
 |[],[]=>true
 |_::N,none::c=>iq sc scope NN N c
 |x::N,some i::c=>decide (NN[i]? =some x)&&decide ((x,NameKind.free)∈scope.names)&&(decide (sc.names.lookup x=some .local)||decide (sc.names.lookup x=some .cell)||decide (sc.names.lookup x=some .free))&&decide (∀z∈scope.names,z.1=x→z.2= .free)&&iq sc scope NN N c
 |_,_=>false
theorem qm{sc scope:Scope}{NN:List Str}:∀{N':List Str}{cap:List (Option Nat)},iq sc scope NN N' cap=true→cap.length=N'.length
 |[],[],_=>rfl
 |_::_,none::_,h=>congrArg (·+1) (qm (by simpa only[iq]using h))
 |_::_,some _::_,h=>congrArg (·+1) (qm (by simp only[iq,Bool.and_eq_true]at h;exact h.2))
 |[],_::_,h=>by simp[iq]at h
 |_::_,[],h=>by simp[iq]at h
theorem j8{sc scope:Scope}{NN:List Str}:∀{N':List Str}{cap:List (Option Nat)},iq sc scope NN N' cap=true→∀(j i:Nat) (x:Str),cap[j]? =some (some i)→N'[j]? =some x→
  NN[i]? =some x∧(x,NameKind.free)∈scope.names∧CB sc x∧∀z∈scope.names,z.1=x→z.2= .free
 |[],[],_,j,i,x,e,_=>by simp at e
 |_::_,none::_,h,0,i,x,e,_=>by simp at e
 |_::_,none::_,h,j+1,i,x,e,e'=>j8 (by simpa only[iq]using h) j i x (by simpa using e) (by simpa using e')
 |y::_,some k::_,h,0,i,x,e,e'=>by
  simp only[List.getElem?_cons_zero,Option.some.injEq]at e e'
  subst e e'
  simp only[iq,Bool.and_eq_true,Bool.or_eq_true,decide_eq_true_eq]at h
  obtain⟨⟨⟨⟨h1,h2⟩,h3⟩,h4⟩,_⟩:=h
  refine⟨h1,h2,?_,h4⟩
  rcases h3 with(h3|h3)|h3
  ·exact .inl h3
  ·exact .inr (.inl h3)
  ·exact .inr (.inr h3)
 |_::_,some _::_,h,j+1,i,x,e,e'=>j8 (by simp only[iq,Bool.and_eq_true]at h;exact h.2) j i x (by simpa using e) (by simpa using e')
 |[],_::_,h,_,_,_,_,_=>by simp[iq]at h
 |_::_,[],h,_,_,_,_,_=>by simp[iq]at h
theorem ir{X:Cx}{sc scope:Scope}{NN N':List Str}{cap:List (Option Nat)}(e:X.env.scope=sc)(eN:X.N=NN)(h1:scope.kind= .function)(h2:∀y∈scope.names,y.2≠.cell)(h3:∀y∈scope.names,y.2= .local→scope.names.lookup y.1=some .local)
  (h4:∀y∈scope.names,y.2= .free→sc.names.lookup y.1=some .cell∨sc.names.lookup y.1=some .free)(h5:iq sc scope NN N' cap=true):ql X scope N' cap:=by
 subst e eN
 exact⟨h1,h2,h3,h4,qm h5,fun j i x a b=>⟨(j8 h5 j i x a b).1,(j8 h5 j i x a b).2.1⟩,fun j i x a b=>(j8 h5 j i x a b).2.2.1,fun j i x a b=>(j8 h5 j i x a b).2.2.2⟩
def C8(wi:TI)(cap:List (Option Nat))(g:TG)(tt:TT)(te:TE):TE:=fun σ H Q=>wi σ H fun J H1=>∀l,H1 l=none→
 ∃W:Nat→Nat→St→Hp→Prop,(∃m,W 0 m (uQ σ cap) (upd H1 l (.lst [])))∧∀i m τ H2,W i m τ H2→
  (J.stop i H2∧Q (.ref l) H2)∨(J.go i H2∧∃N:St→Hp→Prop,(∀gZ H',N gZ H'→∃m',m'<m∧W (i+1) m' gZ H')∧
   ∀x H',J.Ft i H2 x H'→g x τ H' fun zG H3=>tt zG H3 fun b H4=>if b=true then te zG H4 fun y H5=>∃ys,H5 l=some (.lst ys)∧ys.length<sizeLine∧N zG (upd H5 l (.lst (ys++[y])))else N zG H4)
def dN:TT:=fun _ H Q=>Q true H
namespace Zu
set_option allowUnsafeReducibility true in
@[scoped irreducible] def _root_.L2.t9(X:Cx)(ifs:List Expr)(t:TT):Prop:=
 ∀(pins:List (Addr×Obj)) (s:Shared) (σ:St) (H:Hp) (Q:Bool→Hp→Prop),Inv X pins σ H s→t σ H Q→
  wpAny (model X.prog X.w) X.A (forIn ifs true fun c r=>if r=true then do let ok ←isTrue c X.env (eval c X.env);pure (ForInStep.yield ok)else pure (ForInStep.yield r)) (TP X pins σ Q) X.xe s
end Zu
theorem FO{X:Cx}:t9 X [] dN:=fun _ _ _ H _ I h=>wpAny_tests_nil ⟨H,I,h⟩
section
variable{X:Cx}{pos:Pos}{elt iter tg:Expr}{ifs:List Expr}{scope:Scope}{N':List Str}{cap:List (Option Nat)}{wi:TI}{g:TG}{tt:TT}{te:TE}
theorem lU{X:Cx}:∀{names:List (Str×NameKind)}{y:Str}{k:NameKind},(names.map fun(n,k)=>if (k==NameKind.free&&X.env.scope.kind==.function&&X.env.kindOf n==some .cell)then(n,NameKind.cell)else(n,k)).lookup y=some k→
  (k= .cell∨k= .free)→(∀z∈names,z.2≠.cell)→(y,NameKind.free)∈names
 |[],_,_,h,_,_=>by simp at h
 |(n,k0)::r,y,k,h,hk,hc=>by
  have Vj:∀z∈r,z.2≠.cell:=fun z hz=>hc z (List.mem_cons_of_mem _ hz)
  have h0:k0≠.cell:=hc (n,k0) List.mem_cons_self
  rw[List.map_cons]at h
  dsimp only at h
  by_cases hy:y=n
  ·subst hy
   have:k0= .free:=by
    by_cases hf:k0= .free
    ·exact hf
    ·exfalso
     have hb:(k0==NameKind.free)=false:=by simpa using hf
     simp only[hb,Bool.false_and,Bool.false_eq_true,if_false,List.lookup_cons,beq_self_eq_true]at h
     cases h
     rcases hk with e|e
     ·exact h0 e
     ·exact hf e
   subst this
   exact List.mem_cons_self
  ·have hb:(y==n)=false:=beq_eq_false_iff_ne.mpr hy
   have h':(r.map fun(n,k)=>if (k==NameKind.free&&X.env.scope.kind==.function&&X.env.kindOf n==some .cell)then(n,NameKind.cell)else(n,k)).lookup y=some k:=by
    split at h<;>simpa only[List.lookup_cons,hb]using h
   exact List.mem_cons_of_mem _ (lU (X:=X) h' hk Vj)
theorem pO{X:Cx}:∀{names:List (Str×NameKind)}{y:Str},(y,NameKind.free)∈names→(∀z∈names,z.1=y→z.2= .free)→∃k,(k=NameKind.cell∨k= .free)∧
  (names.map fun(n,k)=>if (k==NameKind.free&&X.env.scope.kind==.function&&X.env.kindOf n==some .cell)then(n,NameKind.cell)else(n,k)).lookup y=some k
 |[],_,h,_=>nomatch h
 |(n,k0)::r,y,h,hu=>by
  rw[List.map_cons]
  dsimp only
  by_cases hy:y=n
  ·subst hy
   have:k0= .free:=hu (y,k0) List.mem_cons_self rfl
   subst this
   split
   ·exact⟨.cell,.inl rfl,by simp⟩
   ·exact⟨.free,.inr rfl,by simp⟩
  ·have hb:(y==n)=false:=beq_eq_false_iff_ne.mpr hy
   have hm:(y,NameKind.free)∈r:=by
    rcases List.mem_cons.mp h with e|h
    ·cases e;exact absurd rfl hy
    ·exact h
   obtain⟨k,hk,e⟩:=pO (X:=X) hm fun z hz=>hu z (List.mem_cons_of_mem _ hz)
   refine⟨k,hk,?_⟩
   split<;>simpa only[List.lookup_cons,hb]using e
theorem HL{pins:List (Addr×Obj)}{σ:St}{H:Hp}{s:Shared}{fp:List Addr}{h1:Heap}{m:Str→Option Value}{t':Nat}(B:ql X scope N' cap)
  (I:Inv X pins σ H s)(hf:∀b∈fp,hV X pins H b)(ho:∀b∈fp,∃o,s.heap.get? b=some o)(keep:∀b o,s.heap.get? b=some o→h1.get? b=some o)(zy:h1.Ns s.heap.objs.size m):
  Inv (X.jD scope s.heap.objs.size N' s H fp) [] (uQ σ cap) H { s with heap:=h1,toks:=t' }:=by
 have I1:Inv X pins σ H { s with heap:=h1,toks:=t' }:=I.kept keep
 have ym:∀y c,(gQ X.env.cells scope.names []).lookup y=some c→X.env.cells.lookup y=some c:=fun y c h=>t7 h fun c' aW=>by simp at aW
 refine⟨⟨I.ok.mod,B.kind,I.ok.glob,I.ok.blt,Nat.le_refl _,fun y z c e1 e2=>I.ok.inj y z c (ym y c e1) (ym z c e2),fun y hy=>?_,fun y c e _=>absurd e (by simp),I.ok.hd,I.ok.frames,.inl rfl,fun b hb=>⟨?_,fun y c e=>(hf b hb).2.2.2.2.1 y c (ym y c e)⟩,fun b o e=>I.bs b o e,Nat.le_trans I.ok.AF I.sz,fun b o e hb=>?_,fun b hb hs=>?_,I.stack,I.AI⟩,
  rfl,I.bare,Un.kept keep,⟨m,zy,fun j y v e1 e2 e3=>?_⟩,fun y c e=>I1.cell y c (ym y c e),I.bj.fresh (Nat.le_refl _),fun y c e=>I.lS y c (ym y c e),fun p hp=>absurd hp (by simp),I1.bj,?_⟩
 ·-- has
  have kM:(y,NameKind.free)∈scope.names:=by
   rcases hy with hy|hy
   ·exact lU (X:=X) (k:=.cell) hy (.inl rfl) B.C7
   ·exact lU (X:=X) (k:=.free) hy (.inr rfl) B.C7
  exact nT kM (I.ok.has y (B.frees (y,.free) kM rfl))
 ·-- fp below AR Sy frame
  obtain⟨o,e⟩:=ho b hb
  exact Nat.ne_of_lt (Heap.lt_size e)
 ·-- base
  rcases(hf b hb).2.2.2.1 with z|z
  ·exact I.ok.AG b o e z
  ·exact absurd (Nat.lt_of_lt_of_le (Heap.lt_size e) (Nat.le_trans I.ok.AF z)) (Nat.lt_irrefl _)
 ·-- frames
  rcases List.mem_cons.mp (I.zm b hs)with z|z
  ·exact(hf b hb).2.1 z
  ·exact(hf b hb).2.2.1 z
 ·-- Ru values
  have hc:∃i,cap[j]? =some (some i)∧σ[i]? =some (some v):=by
   unfold uQ at e2
   rw[List.getElem?_map]at e2
   cases e:cap[j]? with
   |none=>rw[e]at e2;cases e2
   |some o=>
    rw[e]at e2
    cases o with
    |none=>simp at e2
    |some i=>
     refine⟨i,rfl,?_⟩
     simp only[Option.map_some,Option.some.injEq]at e2
     cases q:σ[i]? with
     |none=>rw[q]at e2;cases e2
     |some w=>
      rw[q]at e2
      have kj:w=some v:=e2
      rw[kj]
  obtain⟨i,hi,hv⟩:=hc
  obtain⟨hN,sL⟩:=B.Sx j i y hi e1
  obtain⟨m1,_,hl⟩:=I1.loc
  obtain⟨u,r,l⟩:=hl i y v hN hv (B.Vi j i y hi e1)
  refine⟨u,r,.inr ?_⟩
  obtain⟨k,hk,ek⟩:=pO (X:=X) sL (B.un j i y hi e1)
  have zo:∃c,X.env.cells.lookup y=some c∧h1.IsCell c (some u):=by
   rcases l with⟨k1,_⟩|⟨_,c,e,z⟩
   ·rcases B.frees (y,.free) sL rfl with q|q
    ·rw[show X.env.kindOf y=some NameKind.local from k1]at q;cases q
    ·rw[show X.env.kindOf y=some NameKind.local from k1]at q;cases q
   ·exact⟨c,e,z⟩
  obtain⟨c,ec,zc⟩:=zo
  obtain⟨c',Sz⟩:=nT (cs:=[]) sL ⟨c,ec⟩
  have:c'=c:=by have:=ym y c' Sz;rw[ec]at this;cases this;rfl
  subst this
  refine⟨?_,c',Sz,zc⟩
  rcases hk with rfl|rfl
  ·exact .inl ek
  ·exact .inr ek
 ·show(uQ σ cap).length=N'.length
  unfold uQ
  rw[List.length_map];exact B.len
theorem wc{RR:Value→Addr→Result→Shared→Prop}{pins:List (Addr×Obj)}{σ:St}{H2:Hp}{s2:Shared}{it:Addr}{fp:List Addr}{tn:Nat→Heap→Prop}{J:It}{Q:VK}(B:ql X scope N' cap)(hc:X.calm=true)
  (hg:∀C bE cQ fp,PG (X.jD scope C N' bE cQ fp) tg g)(ht:∀C bE cQ fp,t9 (X.jD scope C N' bE cQ fp) ifs tt)(he:∀C bE cQ fp,PE (X.jD scope C N' bE cQ fp) elt te)
  (I2:Inv X pins σ H2 s2)(T:Turn X.prog X.w X.K tg J fp it tn)(mL:tn 0 s2.heap)(f2:∀b∈fp,hV X pins H2 b)
  (wd:∀l,H2 l=none→∃W:Nat→Nat→St→Hp→Prop,(∃m,W 0 m (uQ σ cap) (upd H2 l (.lst [])))∧∀i m τ H2,W i m τ H2→
   (J.stop i H2∧Q (.ref l) H2)∨(J.go i H2∧∃N:St→Hp→Prop,(∀gZ H',N gZ H'→∃m',m'<m∧W (i+1) m' gZ H')∧
    ∀x H',J.Ft i H2 x H'→g x τ H' fun zG H3=>tt zG H3 fun b H4=>if b=true then te zG H4 fun y H5=>∃ys,H5 l=some (.lst ys)∧ys.length<sizeLine∧N zG (upd H5 l (.lst (ys++[y])))else N zG H4))
  (fin:∀(D C:Addr) (o:Obj) (m:Str→Option Value) (H5:Hp) (s5:Shared),Inv X pins σ H5 s5→hV X pins H5 C→s5.heap.get? C=some o→(∀v,o.data≠.cell v)→s5.heap.Ns C m→Q (.ref D) H5→RR (.ref D) C (.ok .next) s5):
  wpAny (model X.prog X.w) X.A (newList []) (fun acc tY=>wpAny (model X.prog X.w) X.A (newFunctionEnv scope X.env.globals (gQ X.env.cells scope.names []) [] X.env.qual none .none (some X.env)) (fun NU Ek=>
   codeAny (model X.prog X.w) X.A (.compStart (.ListComp elt [⟨tg,iter,ifs,0⟩] scope pos) 0 (.ref it) acc { NU with scope:=relabel scope X.env }) (RR acc NU.locals) Ek) X.xe tY) X.xe s2:=by
 refine wpAny_newObj_type (wpAny_newFunctionEnv B.C7 (by intro y hy;simp at hy) (fun nD zH El=>?_) B.kind)
 dsimp only at zH El ⊢
 have I3:Inv X pins σ (upd H2 s2.heap.objs.size (.lst [])) { s2 with heap:=s2.heap.push { cls:=.type "list",dict:=none,data:=.seq ([]:List Value).toArray } }:=I2.NP (t':=s2.toks) (its:=[]) (ys:=[]) .nil (Nat.zero_le _)
 have hD:H2 s2.heap.objs.size=none:=I2.fresh
 have SA:∀b∈fp,b≠s2.heap.objs.size:=fun b hb=>by
  obtain⟨o,e,_⟩:=T.obj 0 _ mL b hb
  exact Nat.ne_of_lt (Heap.lt_size e)
 have f3:∀b∈fp,hV X pins (upd H2 s2.heap.objs.size (.lst [])) b:=fun b hb=>⟨by rw[bg (SA b hb)];exact(f2 b hb).1,(f2 b hb).2⟩
 obtain⟨W,⟨m0,w0⟩,turn⟩:=wd s2.heap.objs.size hD
 generalize LR:({ s2 with heap:=s2.heap.push { cls:=.type "list",dict:=none,data:=.seq ([]:List Value).toArray } }:Shared)=s3 at I3
 have LS:s3.heap=s2.heap.push { cls:=.type "list",dict:=none,data:=.seq ([]:List Value).toArray }:=by rw[←LR]
 have keep:∀b o,s3.heap.get? b=some o→nD.get? b=some o:=fun b o e=>by
  have fB:=Heap.lt_size e
  rw[LS]at e fB
  exact El.extBut b o (Nat.ne_of_lt fB) (Heap.get?_push_of_some _ e)
 have Vk:∀b∈fp,∃o,s3.heap.get? b=some o:=fun b hb=>by
  obtain⟨o,e,_⟩:=T.obj 0 _ mL b hb
  exact⟨o,by rw[LS];exact Heap.get?_push_of_some _ e⟩
 have SD:s3.heap.objs.size=(s2.heap.push { cls:=.type "list",dict:=none,data:=.seq ([]:List Value).toArray }).objs.size:=by rw[LS]
 rw[←SD]at zH ⊢
 have J0:Inv (X.jD scope s3.heap.objs.size N' s3 (upd H2 s2.heap.objs.size (.lst [])) fp) [] (uQ σ cap) (upd H2 s2.heap.objs.size (.lst [])) { s3 with heap:=nD,toks:=s3.toks }:=HL (t':=s3.toks) B I3 f3 Vk keep zH
 have SE:tn 0 nD:=T.keep 0 s2.heap nD mL fun b hb o e=>keep b o (by rw[LS];exact Heap.get?_push_of_some _ e)
 have es:({ s2 with heap:=nD,toks:=s2.toks+([]:List (Str×Value)).length }:Shared)= { s3 with heap:=nD,toks:=s3.toks }:=by
  rw[←LR];rfl
 have Pd:∀{s5:Shared}{H5:Hp}{SF:St},Inv (X.jD scope s3.heap.objs.size N' s3 (upd H2 s2.heap.objs.size (.lst [])) fp) [] SF H5 s5→Inv X pins σ H5 s5:=fun {s5 H5 SF} J5=>
  I3.Oo (ch:=fp) J5.os J5.base J5.bj J5.bare fun b hb=>⟨(f3 b hb).2.2.2.1,(f3 b hb).2.1,(f3 b hb).2.2.2.2.1,(f3 b hb).2.2.2.2.2⟩
 have Pe:∀{H':Hp},(∀b∈fp,H' b=none)→∀b∈fp,hV (X.jD scope s3.heap.objs.size N' s3 (upd H2 s2.heap.objs.size (.lst [])) fp) [] H' b:=fun {H'} hn b hb=>
  ⟨hn b hb,(J0.ok.KJ b hb).1,J0.ok.AH b hb,.inl hb,(J0.ok.KJ b hb).2,fun p hp=>absurd hp (by simp)⟩
 have loop:codeAny (model X.prog X.w) X.A (.compLoop (.ListComp elt [⟨tg,iter,ifs,0⟩] scope pos) 0 (.ref it) (.ref s2.heap.objs.size) (compEnvC scope (gQ X.env.cells scope.names []) s3.heap.objs.size X.env))
   (RR (.ref s2.heap.objs.size) s3.heap.objs.size) { s3 with heap:=nD,toks:=s3.toks }:=by
  refine xX (fun n s'=>∃i τ H',Inv (X.jD scope s3.heap.objs.size N' s3 (upd H2 s2.heap.objs.size (.lst [])) fp) [] τ H' s'∧tn i s'.heap∧(∀b∈fp,H' b=none)∧W i n τ H') ?_ m0 ⟨0,_,_,J0,SE,fun b hb=>(f3 b hb).1,w0⟩
  rintro n s4 ⟨i,τ,H4,J4,SG,SH,w4⟩
  rcases turn i n τ H4 w4 with⟨stop,q⟩|⟨go,N,hN,step⟩
  ·refine wpAny_mono (T.done (X.jD scope s3.heap.objs.size N' s3 (upd H2 s2.heap.objs.size (.lst [])) fp) rfl rfl rfl hc i [] s4 τ H4 (fun _ _=>False) J4 (Pe SH) SG stop) (fun r s5 ⟨hr,J5⟩=>?_) (fun _ _ f=>f)
   subst hr
   obtain⟨m5,SI,_⟩:=J5.loc
   have I5:Inv X pins σ H4 s5:=Pd J5
   obtain⟨o5,Yz,YA,Vl,Vm,_⟩:=id SI
   refine fin _ _ o5 m5 H4 s5 I5 ⟨J5.free,fun e=>?_,I3.NB (Nat.le_refl _),.inr I3.sz,fun y c e z=>?_,fun p hp z=>?_⟩ Vl (fun v e=>?_) SI q
   ·have:=I3.lt
    rw[←e]at this
    exact Nat.lt_irrefl _ this
   ·obtain⟨v,o,KP,_⟩:=I3.cell y c e
    have:=Heap.lt_size KP
    rw[z]at this
    exact Nat.lt_irrefl _ this
   ·have:=Heap.lt_size (I3.pin p hp).1
    rw[z]at this
    exact Nat.lt_irrefl _ this
   ·rw[Vm]at e;cases e
  ·refine wpAny_mono (T.item (X.jD scope s3.heap.objs.size N' s3 (upd H2 s2.heap.objs.size (.lst [])) fp) rfl rfl rfl hc i [] s4 τ H4 (fun _ _=>False) J4 (Pe SH) SG go) (fun r s5 ⟨u,hr,h5⟩=>?_) (fun _ _ f=>f)
   subst hr
   refine wpAny_mono h5 (fun _ s6 ⟨xv,H6,J6,r6,y6,Pf,Vn⟩=>?_) (fun _ _ f=>f)
   have Vo:=J6.pinned (Pe Vn) (T.obj _ _ Pf)
   have again:∀{s7:Shared}{xY:St}{H7:Hp},Inv (X.jD scope s3.heap.objs.size N' s3 (upd H2 s2.heap.objs.size (.lst [])) fp) ([]++qM fp s6.heap) xY H7 s7→N xY H7→∃m,m<n∧∃i τ H',Inv (X.jD scope s3.heap.objs.size N' s3 (upd H2 s2.heap.objs.size (.lst [])) fp) [] τ H' s7∧tn i s7.heap∧(∀b∈fp,H' b=none)∧W i m τ H':=fun {s7 xY H7} J7 n7=>by
    obtain⟨m',hm,w7⟩:=hN xY H7 n7
    refine⟨m',hm,i+1,xY,H7,J7.l_,T.keep _ _ _ Pf fun b hb o e=>(J7.pin (b,o) (List.mem_append_right _ (List.mem_append_right _ (kX hb e)))).1,fun b hb=>?_,w7⟩
    obtain⟨o,e,d⟩:=T.obj _ _ Pf b hb
    exact(J7.pin (b,o) (List.mem_append_right _ (List.mem_append_right _ (kX hb e)))).2.1
   refine wpAny_mono (hg s3.heap.objs.size s3 (upd H2 s2.heap.objs.size (.lst [])) fp _ s6 τ H6 xv u _ Vo r6 (step xv H6 y6)) (fun _ s7 ⟨xY,H7,J7,q7⟩=>?_) (fun _ _ f=>f)
   refine wpAny_mono (ht s3.heap.objs.size s3 (upd H2 s2.heap.objs.size (.lst [])) fp _ s7 xY H7 _ J7 q7) (fun ok s8 ⟨H8,J8,q8⟩=>?_) (fun _ _ f=>f)
   cases ok with
   |false=>
    rw[if_neg (by decide)]at q8 ⊢
    exact again J8 q8
   |true=>
    rw[if_pos rfl]at q8 ⊢
    refine wpAny_mono (he s3.heap.objs.size s3 (upd H2 s2.heap.objs.size (.lst [])) fp _ s8 xY H8 _ J8 q8) (fun yv s9 ⟨y,H9,J9,r9,q9⟩=>?_) (fun _ _ f=>f)
    obtain⟨ys,hl,hz,n9⟩:=q9
    exact wpAny_mono (fQ (X:=X.jD scope s3.heap.objs.size N' s3 (upd H2 s2.heap.objs.size (.lst [])) fp) _ s9 xY H9 (.ref s2.heap.objs.size) [y] (.ref s2.heap.objs.size) [yv] (fun _ H'=>N xY H') J9 rfl (.cons r9 .nil) ⟨_,ys,y,rfl,rfl,hl,hz,n9⟩) (fun _ YB ⟨_,YC,Vp,_,Vq⟩=>again Vp Vq) (fun _ _ f=>f)
 rw[es]
 exact codeAny_compStart_list loop (T.self _ 0 _ _ _ SE loop)
theorem HM(B:ql X scope N' cap)(hc:X.calm=true)
  (hi:PI X tg iter wi)(hg:∀C bE cQ fp,PG (X.jD scope C N' bE cQ fp) tg g)(ht:∀C bE cQ fp,t9 (X.jD scope C N' bE cQ fp) ifs tt)(he:∀C bE cQ fp,PE (X.jD scope C N' bE cQ fp) elt te)
  (hs:∀x,foldedSetIterable iter X.env x=pure x:=by intro _;rfl):
  PE X (.ListComp elt [⟨tg,iter,ifs,0⟩] scope pos) (C8 wi cap g tt te):=by
 intro pins s σ H Q I h
 rw[eval_ListComp]
 refine wpAny_comprehension_free (use:=none) rfl hs (nS fun y hy hf=>I.ok.has y.1 (B.frees y hy hf)) B.kind B.names ?_
 refine bL (hi pins s σ H _ I h) fun v s1 h1=>bL h1 fun Lg s2 h2=>?_
 obtain⟨it,fp,tn,J,H2,e,I2,T,mL,f2,wd⟩:=h2
 subst e
 refine wc (RR:=fun acc C=>compPost (model X.prog X.w) X.A X.xe none (EP X pins σ Q) acc C) B hc hg ht he I2 T mL f2 wd fun D C o m H5 s5 I5 f5 ho hd hn q=>?_
 refine⟨m,hn,fun h' Bk=>?_⟩
 exact⟨.ref D,H5,I5.turned (t':=s5.toks) (it:=C) (fun b o hb e=>Bk.extBut b o hb e) f5.1 (fun e=>f5.2.1 e) f5.2.2.2.1 f5.2.2.2.2.1 f5.2.2.2.2.2,rfl,q⟩
theorem HN{i:Nat}{y:Str}{py Bl:Pos}(B:ql X scope N' cap)(hc:X.calm=true)
  (hi:PI X tg iter wi)(hg:∀C bE cQ fp,PG (X.jD scope C N' bE cQ fp) tg g)(ht:∀C bE cQ fp,t9 (X.jD scope C N' bE cQ fp) ifs tt)(he:∀C bE cQ fp,PE (X.jD scope C N' bE cQ fp) elt te)
  (hN:X.N.Nodup)(Pg:X.N[i]? =some y)(hy:Loc X.env.scope y)(Ph:swapsWith (.ListComp elt [⟨tg,iter,ifs,0⟩] scope pos) (some (.Name y py)) Bl.line X.env=pure true)
  (hf:X.fn y=true∨X.env.scope.names.lookup y=some .local:=by first|exact .inl rfl|exact .inr rfl|assumption)
  (hs:∀x,foldedSetIterable iter X.env x=pure x:=by intro _;rfl):
  PS X (.Assign [.Name y py] (.ListComp elt [⟨tg,iter,ifs,0⟩] scope pos) Bl) (G6 (C8 wi cap g tt te) (av i)):=by
 intro pins s σ H D I h
 rw[exec_Assign_Name_used _ _ _ _ Ph]
 refine wpAny_bind (wpAny_standAt (wpAny_bind ?_))
 show wpAny _ X.A (do let _ ←comprehension (.ListComp elt [⟨tg,iter,ifs,0⟩] scope pos) scope X.env _ (newList []) false (eval iter X.env) (some (assign (.Name y py) X.env))) _ _ s
 refine wpAny_bind (wpAny_mono (wpAny_comprehension_free (use:=some (assign (.Name y py) X.env)) (Q:=fun _ s'=>SP X pins D .next s') rfl hs (nS fun y hy hf=>I.ok.has y.1 (B.frees y hy hf)) B.kind B.names
  (bL (hi pins s σ H _ I h) fun v s1 h1=>bL h1 fun Lg s2 h2=>?_)) (fun _ s' hq=>wpAny_pure (wpAny_pure hq)) fun _ _ e=>e)
 obtain⟨it,fp,tn,J,H2,e,I2,T,mL,f2,wd⟩:=h2
 subst e
 refine wc (Q:=fun v H'=>av i v σ H' D.nx) (RR:=fun acc C=>compPost (model X.prog X.w) X.A X.xe (some (assign (.Name y py) X.env)) (fun _ s'=>SP X pins D .next s') acc C) B hc hg ht he I2 T mL f2 wd fun D' C o m H5 s5 I5 f5 ho hd hn q=>?_
 show wpAny _ X.A (assign (.Name y py) X.env (.ref D')) _ _ _
 have OD:Inv X (pins++[(C,o)]) σ H5 s5:=I5.vK fun p hp=>by
  rcases List.mem_append.mp hp with z|z
  ·exact I5.pin p (List.mem_append_right _ z)
  ·have:p=(C,o):=by simpa using z
   subst this
   exact⟨ho,f5.1,f5.2.1,f5.2.2.1,hd⟩
 refine bL (AM (pos:=py) hN Pg hy hf (pins++[(C,o)]) s5 σ H5 (.ref D') (.ref D') _ OD rfl q) fun _ s6 ⟨OE,H6,I6,q6⟩=>?_
 obtain⟨e6,n6,_⟩:=I6.pin (C,o) (List.mem_append_right _ (List.mem_append_right _ List.mem_cons_self))
 have Vr:s6.heap.Ns C m:=by
  obtain⟨o',es,ep,q1,r⟩:=hn
  rw[ho]at q1;cases q1
  exact⟨o,es,ep,e6,r⟩
 refine⟨m,Vr,fun h' Bk=>⟨OE,H6,I6.l_.turned (t':=s6.toks) (it:=C) (fun b o hb e=>Bk.extBut b o hb e) n6 f5.2.1 f5.2.2.2.1 f5.2.2.2.2.1 f5.2.2.2.2.2,q6⟩⟩
end
end L2
namespace L2
open PySem PySem.Spec PyProof.Rows
end L2
namespace L2
open PySem PySem.Spec PyProof.Rows
end L2
namespace L2
open PySem PySem.Spec PyProof.Rows
mutual
inductive jP(K:PySem.W.Frag)(H:Hp):V→PyData→Prop
 |bG:jP K H .bG .none
 |bl (b:Bool):jP K H (.bl b) (.bool b)
 |int (i:Int):jP K H (.int i) (.int i)
 |str (x:Str):jP K H (.str x) (.str x)
 |tup {p:Addr}{xs:List V}{ds:List PyData}:cN K H p xs→qo K H xs ds→jP K H (.ref p) (.tuple ds)
 |lst {p:Addr}{xs:List V}{ds:List PyData}:bU K H p xs→qo K H xs ds→jP K H (.ref p) (.list ds)
inductive qo(K:PySem.W.Frag)(H:Hp):List V→List PyData→Prop
 |nil:qo K H [] []
 |cons {x:V}{xs:List V}{d:PyData}{ds:List PyData}:jP K H x d→qo K H xs ds→qo K H (x::xs) (d::ds)
end
section
variable{X:Cx}{pins:List (Addr×Obj)}{σ:St}{H:Hp}{s:Shared}
mutual
theorem jP.reads(I:Inv X pins σ H s):∀{x:V}{d:PyData},jP X.K H x d→∀{v:Value},RelV x v→∃as,Reads s.heap v d as
 |_,_,.bG,v,r=>by cases (show v=Value.none from r);exact⟨_,.none⟩
 |_,_,.bl b,v,r=>by cases (show v=Value.bool b from r);exact⟨_,.bool b⟩
 |_,_,.int i,v,r=>by
  obtain⟨t,e⟩:=(show ∃t,v=Value.int i t from r)
  cases e
  exact⟨_,.int i t⟩
 |_,_,.str x,v,r=>by
  obtain⟨t,e⟩:=(show ∃t,v=Value.str x t from r)
  cases e
  exact⟨_,.str x t⟩
 |_,_,.tup (p:=p) h a,v,r=>by
  cases (show v=Value.ref p from r)
  obtain⟨its,hv,⟨o,ho,hc,n,hd⟩,_⟩:=I.tuple h
  obtain⟨as,ra⟩:=qo.reads I a hv
  exact⟨as,.tuple ho hc hd (by simpa using ra)⟩
 |_,_,.lst (p:=p) h a,v,r=>by
  cases (show v=Value.ref p from r)
  obtain⟨its,hv,pl,_⟩:=I.list h
  obtain⟨o,ho,hc,n,hd⟩:=pl.isList
  obtain⟨as,ra⟩:=qo.reads I a hv
  exact⟨_,.list ho hc hd (by simpa using ra)⟩
theorem qo.reads(I:Inv X pins σ H s):∀{xs:List V}{ds:List PyData},qo X.K H xs ds→∀{us:List Value},Vals xs us→∃as,ReadsAll s.heap us ds as
 |_,_,.nil,_,.nil=>⟨_,.nil⟩
 |_,_,.cons h a,_,.cons r t=>by
  obtain⟨as,ra⟩:=jP.reads I h r
  obtain⟨bs,rb⟩:=qo.reads I a t
  exact⟨_,.cons ra rb⟩
end
end
def t_(K:PySem.W.Frag)(neg:Bool):R2:=fun x y H Q=>∃d e,jP K H x d∧jP K H y e∧SeqAt.shaped d=true∧SeqAt.shaped e=true∧Q (.bl (if neg then !PyData.eqv d e else PyData.eqv d e)) H
section
variable{X:Cx}
theorem LU(hu:X.A.units+64<cLine):fN X (compareOp .Eq) (t_ X.K false):=by
 intro pins s σ H x y v u Q I rx ry h
 obtain⟨d,e,h1,h2,s1,s2,q⟩:=h
 obtain⟨as,ra⟩:=h1.reads I rx
 obtain⟨bs,rb⟩:=h2.reads I ry
 exact eq_dataH ra rb s1 s2 hu ⟨.bl (PyData.eqv d e),H,I,rfl,q⟩
theorem LV(hu:X.A.units+64<cLine):fN X (compareOp .NotEq) (t_ X.K true):=by
 intro pins s σ H x y v u Q I rx ry h
 obtain⟨d,e,h1,h2,s1,s2,q⟩:=h
 obtain⟨as,ra⟩:=h1.reads I rx
 obtain⟨bs,rb⟩:=h2.reads I ry
 exact ne_dataH ra rb s1 s2 hu ⟨.bl (!PyData.eqv d e),H,I,rfl,q⟩
end
section
variable{X:Cx}
theorem pP{h:Heap}{d:PyData}{e:Value→Bool}:∀{us:List Value}{ds:List PyData}{as:List Addr},ReadsAll h us ds as→(∀u d' zI,u∈us→d'∈ds→Reads h u d' zI→e u=PyData.eqv d' d)→us.any e=ds.any fun d'=>PyData.eqv d' d
 |_,_,_,.nil,_=>rfl
 |_,_,_,.cons r t,h=>by
  rw[List.any_cons,List.any_cons,h _ _ _ List.mem_cons_self List.mem_cons_self r,pP t fun u d' zI hu hd r'=>h u d' zI (List.mem_cons_of_mem _ hu) (List.mem_cons_of_mem _ hd) r']
theorem readsAll_mem{h:Heap}:∀{us:List Value}{ds:List PyData}{as:List Addr},ReadsAll h us ds as→∀u∈us,∃d'∈ds,∃zI,Reads h u d' zI
 |_,_,_,.nil,_,hu=>nomatch hu
 |_,_,_,.cons r t,u,hu=>by
  rcases List.mem_cons.mp hu with rfl|hu
  ·exact⟨_,List.mem_cons_self,_,r⟩
  ·obtain⟨d',hd,zI,r'⟩:=readsAll_mem t u hu
   exact⟨d',List.mem_cons_of_mem _ hd,zI,r'⟩
open Classical in
noncomputable def qW(h:Heap)(d:PyData)(u:Value):Bool:=if e:∃d',PyData.canLay0 d'=true∧∃as,Reads h u d' as then PyData.eqv (Classical.choose e) d else false
theorem Bm{h:Heap}{d d':PyData}{u:Value}{as:List Addr}(c:PyData.canLay0 d'=true)(r:Reads h u d' as):qW h d u=PyData.eqv d' d:=by
 have e:∃d',PyData.canLay0 d'=true∧∃as,Reads h u d' as:=⟨d',c,as,r⟩
 unfold qW
 rw[dif_pos e]
 obtain⟨c1,YD,r1⟩:=Classical.choose_spec e
 rw[SeqAt.Reads.unique _ _ _ _ _ c1 r1 r]
end
end L2
namespace Qm
open PySem
noncomputable section
inductive D where
 |bG|bl(b:Bool)|int(i:Int)|str(x:Str)|tup(xs:List D)|ref(n:Nat)|ty(n:String)|adr(a:Nat)
inductive Cell where
 |lst(xs:List D)
 |ro(xs:List D)
 |uR(ps:List (Str×D))
 |FP(ps:List (Str×D))
 |sS(ps:List (List Int×D))
 |gH(ps:List (List (List Int)×D))
 |kl(ps:List (List (List Int)×D))
def Cell.mt:Cell→Bool
 |.ro _=>false
 |.FP _=>false
 |.kl _=>false
 |_=>true
abbrev Cells:=List Cell
abbrev Env:=List (Option D)
abbrev XE:=Env→Cells→Option (D×Cells)
abbrev XA:=Env→Cells→Option (List D×Cells)
abbrev XT:=Env→Cells→Option (Bool×Cells)
abbrev XO:=Env→Cells→Option (Option Int×Cells)
inductive Fl where
 |nx|rt(d:D)|bk|ct
abbrev XS:=Env→Cells→Option (Fl×Env×Cells)
abbrev XG:=D→Env→Cells→Option (Env×Cells)
abbrev xZ:=List D→Env→Cells→Option (Env×Cells)
abbrev FN:=List D→Cells→Option (D×Cells)
structure Itm where
 ds:List D
 ks:List (Nat×Cell)
abbrev XI:=Env→Cells→Option (Itm×Cells)
abbrev G1:=D→Cells→Option (D×Cells)
abbrev G2:=D→D→Cells→Option (D×Cells)
def cE:Nat:=Classical.choose (⟨10000000,rfl⟩:∃n:Nat,n=10000000)
theorem dS:cE=10000000:=Classical.choose_spec (⟨10000000,rfl⟩:∃n:Nat,n=10000000)
def eC(d:D):XE:=fun _ c=>some (d,c)
def eV(i:Nat):XE:=fun σ c=>(σ[i]?.join).bind fun d=>some (d,c)
def e1(g:G1)(a:XE):XE:=fun σ c=>(a σ c).bind fun p=>g p.1 p.2
def e2(g:G2)(a b:XE):XE:=fun σ c=>(a σ c).bind fun p=>(b σ p.2).bind fun q=>g p.1 q.1 q.2
def mR(d:D):Option Bool:=match d with
 |.bl b=>some b
 |_=>none
def qX(a b:XE):XE:=fun σ c=>(a σ c).bind fun p=>(mR p.1).bind fun k=>if k=true then b σ p.2 else some (.bl false,p.2)
def LW(a b:XE):XE:=fun σ c=>(a σ c).bind fun p=>(mR p.1).bind fun k=>if k=true then some (.bl true,p.2)else b σ p.2
def ua(a:XE):XE:=fun σ c=>(a σ c).bind fun p=>(mR p.1).bind fun k=>some (.bl (!k),p.2)
def x4(t:XT)(a b:XE):XE:=fun σ c=>(t σ c).bind fun p=>if p.1=true then a σ p.2 else b σ p.2
def ag:XA:=fun _ c=>some ([],c)
def ae(a:XE)(r:XA):XA:=fun σ c=>(a σ c).bind fun p=>(r σ p.2).bind fun q=>some (p.1::q.1,q.2)
def eD(a:XA):XE:=fun σ c=>(a σ c).bind fun p=>if p.1.length≤cE then some (.tup p.1,p.2)else none
def fH(a:XA):XE:=fun σ c=>(a σ c).bind fun p=>if p.1.length≤cE then some (.ref p.2.length,p.2++[.lst p.1])else none
def ao(F:FN)(ds:List D)(a:XA):XE:=fun σ c=>(a σ c).bind fun p=>F (p.1++ds) p.2
def eB(F:FN)(a:XA):XE:=fun σ c=>(a σ c).bind fun p=>F p.1 p.2
def eK:XO:=fun _ c=>some (none,c)
def dc(a:XE):XO:=fun σ c=>(a σ c).bind fun p=>match p.1 with
 |.int i=>some (some i,p.2)
 |_=>none
def kO(g:D→Option Int→Option Int→Cells→Option (D×Cells))(a:XE)(lo hi:XO):XE:=fun σ c=>(a σ c).bind fun p=>(lo σ p.2).bind fun l=>(hi σ l.2).bind fun h=>g p.1 l.1 h.1 h.2
def LX(g h:G2)(a b d:XE):XE:=fun σ c=>(a σ c).bind fun p=>(b σ p.2).bind fun q=>(g p.1 q.1 q.2).bind fun z=>(mR z.1).bind fun k=>
 if k=true then(d σ z.2).bind fun u=>h q.1 u.1 u.2 else some (.bl false,z.2)
def tV(a:XE):XT:=fun σ c=>(a σ c).bind fun p=>(mR p.1).bind fun k=>some (k,p.2)
def jL(a b:XT):XT:=fun σ c=>(a σ c).bind fun p=>if p.1=true then b σ p.2 else some (false,p.2)
def lT(a b:XT):XT:=fun σ c=>(a σ c).bind fun p=>if p.1=true then some (true,p.2)else b σ p.2
def fE(a:XT):XT:=fun σ c=>(a σ c).bind fun p=>some (!p.1,p.2)
def bF:XS:=fun σ c=>some (.nx,σ,c)
def ay(a b:XS):XS:=fun σ c=>(a σ c).bind fun p=>match p.1 with
 |.nx=>b p.2.1 p.2.2
 |_=>some p
def aR(i:Nat)(e:XE):XS:=fun σ c=>(e σ c).bind fun p=>some (.nx,σ.set i (some p.1),p.2)
def mf(e:XE)(g:XG):XS:=fun σ c=>(e σ c).bind fun p=>(g p.1 σ p.2).bind fun q=>some (.nx,q.1,q.2)
def qY(is:List Nat)(a:XA):XS:=fun σ c=>(a σ c).bind fun p=>if p.1.length=is.length then some (.nx,(is.zip p.1).foldl (fun σ q=>σ.set q.1 (some q.2)) σ,p.2)else none
def cG(t:XT)(a b:XS):XS:=fun σ c=>(t σ c).bind fun p=>if p.1=true then a σ p.2 else b σ p.2
def aS(e:XE):XS:=fun σ c=>(e σ c).bind fun p=>some (.rt p.1,σ,p.2)
def cO(e:XE):XS:=fun σ c=>(e σ c).bind fun p=>some (.nx,σ,p.2)
def av(i:Nat):XG:=fun d σ c=>some (σ.set i (some d),c)
def cZ:xZ:=fun ds σ c=>match ds with
 |[]=>some (σ,c)
 |_=>none
def aQ(g:XG)(r:xZ):xZ:=fun ds σ c=>match ds with
 |d::t=>(g d σ c).bind fun p=>r t p.1 p.2
 |[]=>none
def c_(n:Nat)(g:xZ):XG:=fun d σ c=>match d with
 |.tup xs=>if xs.length=n then g xs σ c else none
 |_=>none
def stays(ks:List (Nat×Cell))(c:Cells):Prop:=∀p∈ks,c[p.1]? =some p.2
open Classical in
def gD(ks:List (Nat×Cell))(g:XG)(body:XS):List D→XS
 |[],σ,c=>if stays ks c then some (.nx,σ,c)else none
 |d::r,σ,c=>if stays ks c then(g d σ c).bind fun p=>(body p.1 p.2).bind fun q=>(match q.1 with
   |.nx=>gD ks g body r q.2.1 q.2.2
   |.ct=>gD ks g body r q.2.1 q.2.2
   |.bk=>some (.nx,q.2.1,q.2.2)
   |.rt d=>some (.rt d,q.2.1,q.2.2))else none
def dO(it:XI)(g:XG)(body:XS):XS:=fun σ c=>(it σ c).bind fun p=>gD p.1.ks g body p.1.ds σ p.2
def jk(t:XT)(b:XS):Nat→XS
 |0,_,_=>none
 |n+1,σ,c=>(t σ c).bind fun p=>if p.1=true then(b σ p.2).bind fun q=>(match q.1 with
   |.nx=>jk t b n q.2.1 q.2.2
   |.ct=>jk t b n q.2.1 q.2.2
   |.bk=>some (.nx,q.2.1,q.2.2)
   |.rt d=>some (.rt d,q.2.1,q.2.2))else some (.nx,σ,p.2)
open Classical in
def cX(t:XT)(b:XS):XS:=fun σ c=>if h:∃n r,jk t b n σ c=some r then jk t b (Classical.choose h) σ c else none
def nU(σ:Env)(cap:List (Option Nat)):Env:=cap.map fun o=>match o with
 |some i=>(match σ[i]? with|some v=>v|none=>none)
 |none=>none
open Classical in
def eo(L:Nat)(ks:List (Nat×Cell))(g:XG)(tt:XT)(te:XE):List D→Env→Cells→Option Cells
 |[],_,c=>if stays ks c then some c else none
 |d::r,τ,c=>if stays ks c then(g d τ c).bind fun p=>(tt p.1 p.2).bind fun b=>if b.1=true then(te p.1 b.2).bind fun y=>
   (match y.2[L]? with
    |some (.lst ys)=>if ys.length<cE then eo L ks g tt te r p.1 (y.2.set L (.lst (ys++[y.1])))else none
    |_=>none)else eo L ks g tt te r p.1 b.2 else none
def df(it:XI)(cap:List (Option Nat))(g:XG)(tt:XT)(te:XE):XE:=fun σ c=>(it σ c).bind fun p=>
 (eo p.2.length p.1.ks g tt te p.1.ds (nU σ cap) (p.2++[.lst []])).bind fun c'=>some (.ref p.2.length,c')
def dN:XT:=fun _ c=>some (true,c)
def dW(n N:Nat)(b:XS):FN:=fun ds c=>if ds.length=n then(b (ds.map some++List.replicate (N - n) none) c).bind fun p=>(match p.1 with
 |.rt d=>some (d,p.2.2)
 |.nx=>some (.bG,p.2.2)
 |_=>none)else none
def b7(d:D)(c:Cells):Option (List D):=match d with
 |.tup xs=>some xs
 |.ref n=>(match c[n]? with
  |some (.lst xs)=>some xs
  |some (.ro xs)=>some xs
  |_=>none)
 |_=>none
def bq(d:D)(c:Cells):Option (Nat×List D):=match d with
 |.ref n=>(match c[n]? with
  |some (.lst xs)=>some (n,xs)
  |_=>none)
 |_=>none
def qZ(d:D):Option Int:=match d with
 |.int i=>some i
 |_=>none
def ii(f:Int→Int→Option D):G2:=fun x y c=>(qZ x).bind fun i=>(qZ y).bind fun j=>(f i j).bind fun d=>some (d,c)
def MulOk(i j:Int):Prop:=(My.Bd 90000 i∧My.Bd 90000 j)∨(My.Bd 64 i∨My.Bd 64 j)
open Classical in
def aK:G2:=ii fun i j=>if MulOk i j then some (.int (i*j))else none
def fF:G2:=ii fun i j=>some (.int (i - j))
open Classical in
def jE:G2:=ii fun i j=>if j≠0∧My.Bd 8900 j then some (.int (i.fdiv j))else none
def gA:G2:=ii fun i j=>if j≠0 then some (.int (i.fmod j))else none
def k7:G2:=ii fun i j=>if 0≤j∧j≤100∧i.natAbs<1000 then some (.int (i ^ j.toNat))else none
def x5:G2:=ii fun i j=>some (.bl (decide (i<j)))
def LY:G2:=ii fun i j=>some (.bl (decide (i≤j)))
def mh:G2:=ii fun i j=>some (.bl (decide (j<i)))
def Pj:G2:=ii fun i j=>some (.bl (decide (j≤i)))
def cy:G2:=fun x y c=>match x,y with
 |.int i,.int j=>some (.int (i+j),c)
 |.tup xs,.tup ys=>if xs≠[]∧xs.length+ys.length≤cE then some (.tup (xs++ys),c)else none
 |x,y=>(bq x c).bind fun p=>(bq y c).bind fun q=>if p.2.length+q.2.length≤cE then some (.ref c.length,c++[.lst (p.2++q.2)])else none
def we:G1:=fun x c=>(qZ x).bind fun i=>some (.int (-i),c)
def omap{α β:Type}(f:α→Option β):List α→Option (List β)
 |[]=>some []
 |x::xs=>(f x).bind fun d=>(omap f xs).bind fun ds=>some (d::ds)
def data(c:Cells):Nat→D→Option PyData
 |0,_=>none
 |k+1,d=>match d with
  |.bG=>some .none
  |.int i=>some (.int i)
  |.str x=>if x.cps.all (·<1114112)=true then some (.str x)else none
  |.tup xs=>(omap (data c k) xs).bind fun ds=>some (.tuple ds)
  |.ref n=>(match c[n]? with
   |some (.lst xs)=>(omap (data c k) xs).bind fun ds=>some (.list ds)
   |some (.ro xs)=>(omap (data c k) xs).bind fun ds=>some (.list ds)
   |_=>none)
  |_=>none
open Classical in
def wg(x y:D)(c:Cells):Option Bool:=match x,y with
 |.bl a,.bl b=>some (a==b)
 |x,y=>(data c 6 x).bind fun d=>(data c 6 y).bind fun e=>some (decide (d=e))
def ij:G2:=fun x y c=>(wg x y c).bind fun b=>some (.bl b,c)
def pG:G2:=fun x y c=>(wg x y c).bind fun b=>some (.bl (!b),c)
def Yk:G2:=fun x y c=>match y with
 |.bG=>some (.bl (match x with|.bG=>true|_=>false),c)
 |_=>none
def sT:G2:=fun x y c=>match y with
 |.bG=>some (.bl (match x with|.bG=>false|_=>true),c)
 |_=>none
open Classical in
def C9(x y:D)(c:Cells):Option Bool:=(b7 y c).bind fun xs=>(data c 5 x).bind fun d=>(omap (data c 5) xs).bind fun ds=>some (decide (d∈ds))
def LZ:G2:=fun x y c=>(C9 x y c).bind fun b=>some (.bl b,c)
def q_:G2:=fun x y c=>(C9 x y c).bind fun b=>some (.bl (!b),c)
def wj(n:Nat)(i:Int):Option Nat:=if 0≤i then(if i<n then some i.toNat else none)else if -(n:Int)≤i then some (i+n).toNat else none
def g_{α:Type}(xs:List α)(i:Int):Option α:=(wj xs.length i).bind fun j=>xs[j]?
def ar:G2:=fun x y c=>(b7 x c).bind fun xs=>(qZ y).bind fun i=>(g_ xs i).bind fun d=>some (d,c)
def x6(n d:Nat):Option Int→Nat
 |none=>d
 |some v=>if v<0 then(v+n).toNat else min v.toNat n
def cutD{α:Type}(xs:List α)(lo hi:Option Int):List α:=(xs.drop (x6 xs.length 0 lo)).take (x6 xs.length xs.length hi - x6 xs.length 0 lo)
def dX(x:D)(lo hi:Option Int)(c:Cells):Option (D×Cells):=match x with
 |.tup xs=>some (.tup (cutD xs lo hi),c)
 |x=>(b7 x c).bind fun xs=>some (.ref c.length,c++[.lst (cutD xs lo hi)])
def HP(o i:XE):XG:=fun d σ c=>(o σ c).bind fun p=>(i σ p.2).bind fun q=>(bq p.1 q.2).bind fun l=>(qZ q.1).bind fun k=>(wj l.2.length k).bind fun j=>some (σ,q.2.set l.1 (.lst (l.2.set j d)))
def one(g:G1):FN:=fun ds c=>match ds with
 |[x]=>g x c
 |_=>none
def two(g:G2):FN:=fun ds c=>match ds with
 |[x,y]=>g x y c
 |_=>none
def mi:FN:=one fun x c=>(qZ x).bind fun i=>some (.int (if i<0 then -i else i),c)
def bS:FN:=one fun x c=>(b7 x c).bind fun xs=>some (.int xs.length,c)
def Em:FN:=one fun x c=>match x with
 |.int i=>some (.int i,c)
 |.bl k=>some (.int (if k then 1 else 0),c)
 |_=>none
def Pk:FN:=two (ii fun i j=>some (.int (if j > i then j else i)))
def Pm:FN:=two (ii fun i j=>some (.int (if j<i then j else i)))
def zJ:FN:=one fun x c=>(b7 x c).bind fun xs=>some (.ref c.length,c++[.lst xs])
def rg(n:String)(d:D)(c:Cells):Option Bool:=match d with
 |.int _=>if n= "int" then some true else if n= "bool" then some false else none
 |.bl _=>if n= "bool" then some true else none
 |.tup _=>if n= "tuple" then some true else none
 |.ref m=>(match c[m]? with
  |some (.lst _)=>if n= "list" then some true else none
  |_=>none)
 |_=>none
def dG:FN:=two fun x y c=>match y with
 |.ty n=>(rg n x c).bind fun k=>some (.bl k,c)
 |_=>none
def En:FN:=one fun x c=>(bq x c).bind fun l=>(omap mR l.2).bind fun bs=>some (.bl (bs.all id),c)
def yn:FN:=one fun x c=>(bq x c).bind fun l=>(omap mR l.2).bind fun bs=>some (.bl (bs.any id),c)
def eA(xs ys:List D):List D:=(xs.zip ys).map fun p=>.tup [p.1,p.2]
def Rv:FN:=fun ds c=>match ds with
 |[.tup xs,.tup ys]=>some (.ref c.length,c++[.lst (eA xs ys)])
 |_=>none
def eM(g:D→FN)(o:XE)(a:XA):XE:=fun σ c=>(o σ c).bind fun p=>(bq p.1 p.2).bind fun _=>(a σ p.2).bind fun q=>g p.1 q.1 q.2
def b8(o:D):FN:=one fun y c=>(bq o c).bind fun l=>if l.2.length<cE then some (.bG,c.set l.1 (.lst (l.2++[y])))else none
def e_(o:D):FN:=one fun y c=>(bq o c).bind fun l=>(bq y c).bind fun z=>if l.2.length+z.2.length≤cE then some (.bG,c.set l.1 (.lst (l.2++z.2)))else none
def nC(a:XE):XI:=fun σ c=>(a σ c).bind fun p=>match p.1 with
 |.tup xs=>some (⟨xs,[]⟩,p.2)
 |_=>none
def eE(a:XE):XI:=fun σ c=>(a σ c).bind fun p=>match p.1 with
 |.ref n=>(p.2[n]?).bind fun z=>(b7 (.ref n) p.2).bind fun xs=>some (⟨xs,[(n,z)]⟩,p.2)
 |_=>none
def Bn(a:XA):XI:=fun σ c=>(a σ c).bind fun p=>match p.1 with
 |[.tup xs,.tup ys]=>some (⟨eA xs ys,[]⟩,p.2)
 |_=>none
def dQ(lo:Int)(n:Nat):List D:=(List.range n).map fun(i:Nat)=>.int (lo+i)
structure Pn(j:Int):Prop where
 lo: -(2 ^ 62)≤j
 hi:j<2 ^ 62
open Classical in
def eu(a:XA):XI:=fun σ c=>(a σ c).bind fun p=>match p.1 with
 |[.int j]=>if Pn j then some (⟨dQ 0 j.toNat,[]⟩,p.2)else none
 |_=>none
theorem mS{t:XT}{b:XS}:∀{n k:Nat}{σ:Env}{c:Cells}{r},jk t b n σ c=some r→jk t b (n+k) σ c=some r
 |0,_,_,_,_,h=>by simp[jk]at h
 |n+1,k,σ,c,r,h=>by
  rw[show n+1+k=(n+k)+1 by omega]
  simp only[jk]at h ⊢
  cases ht:t σ c with
  |none=>rw[ht]at h;simp at h
  |some p=>
   rw[ht]at h
   simp only[Option.bind_some]at h ⊢
   split
   ·rename_i hp
    rw[if_pos hp]at h
    cases hb:b σ p.2 with
    |none=>rw[hb]at h;simp at h
    |some q=>
     rw[hb]at h
     simp only[Option.bind_some]at h ⊢
     obtain⟨f,σ',c'⟩:=q
     cases f with
     |nx=>exact mS h
     |ct=>exact mS h
     |bk=>exact h
     |rt d=>exact h
   ·rename_i hp
    rw[if_neg hp]at h
    exact h
theorem wk{t:XT}{b:XS}{n:Nat}{σ:Env}{c:Cells}{r}(h:jk t b n σ c=some r):cX t b σ c=some r:=by
 have hx:∃n r,jk t b n σ c=some r:=⟨n,r,h⟩
 unfold cX
 rw[dif_pos hx]
 obtain⟨r',h'⟩:=Classical.choose_spec hx
 have h1:=mS (k:=n) h'
 have h2:=mS (k:=Classical.choose hx) h
 rw[Nat.add_comm]at h2
 rw[h']
 exact h1.symm.trans h2
theorem wm{t:XT}{b:XS}{σ:Env}{c:Cells}{r}(h:cX t b σ c=some r):∃n,jk t b n σ c=some r:=by
 unfold cX at h
 split at h
 ·exact⟨_,h⟩
 ·cases h
theorem gj{t:XT}{b:XS}{σ:Env}{c c':Cells}(h:t σ c=some (false,c')):cX t b σ c=some (.nx,σ,c'):=
 wk (n:=1) (by simp[jk,h])
theorem km{t:XT}{b:XS}{σ σ':Env}{c c' c2:Cells}{r}(h:t σ c=some (true,c'))(hb:b σ c'=some (.nx,σ',c2))(hr:cX t b σ' c2=some r):cX t b σ c=some r:=by
 obtain⟨n,hn⟩:=wm hr
 exact wk (n:=n+1) (by simp[jk,h,hb,hn])
end
end Qm
namespace L2
open PySem PySem.Spec PyProof.Rows
theorem aF{α β:Type}{x:Option α}{f:α→Option β}{z:β}(h:x.bind f=some z):∃a,x=some a∧f a=some z:=by
 cases x with
 |none=>cases h
 |some a=>exact⟨a,rfl,h⟩
theorem ml{n:Nat}(h:n≤Qm.cE):n≤sizeLine:=Nat.le_trans h (by rw[Qm.dS,sizeLine_eq];decide)
theorem rh{n:Nat}(h:n<Qm.cE):n<sizeLine:=Nat.lt_of_lt_of_le h (by rw[Qm.dS,sizeLine_eq];decide)
mutual
inductive RD(K:PySem.W.Frag)(ρ:Nat→Addr)(N:Nat)(H:Hp):Qm.D→V→Prop
 |bG:RD K ρ N H .bG .bG
 |bl (b:Bool):RD K ρ N H (.bl b) (.bl b)
 |int (i:Int):RD K ρ N H (.int i) (.int i)
 |str (x:Str):RD K ρ N H (.str x) (.str x)
 |ty (n:String):RD K ρ N H (.ty n) (.ty n)
 |tup {p:Addr}{xs:List V}{ds:List Qm.D}:H p=some (.tup xs)→RA K ρ N H ds xs→RD K ρ N H (.tup ds) (.ref p)
 |ref {n:Nat}:n<N→RD K ρ N H (.ref n) (.ref (ρ n))
 |adr (a:Nat):RD K ρ N H (.adr a) (.ref a)
inductive RA(K:PySem.W.Frag)(ρ:Nat→Addr)(N:Nat)(H:Hp):List Qm.D→List V→Prop
 |nil:RA K ρ N H [] []
 |cons {d:Qm.D}{ds:List Qm.D}{x:V}{xs:List V}:RD K ρ N H d x→RA K ρ N H ds xs→RA K ρ N H (d::ds) (x::xs)
end
structure Up(K:PySem.W.Frag)(ρ:Nat→Addr)(N:Nat)(H:Hp)(ba:Nat→Addr)(N':Nat)(H':Hp):Prop where
 agree:∀n,n<N→ba n=ρ n
 len:N≤N'
 ts:∀p xs,H p=some (.tup xs)→H' p=some (.tup xs)
 fz:∀p o x,H p=some (.fP o x)→H' p=some (.fP o x)
section
variable{K:PySem.W.Frag}{ρ ba Bo:Nat→Addr}{N N' SJ:Nat}{H H' HQ:Hp}
theorem Up.refl:Up K ρ N H ρ N H:=⟨fun _ _=>rfl,Nat.le_refl _,fun _ _ h=>h,fun _ _ _ h=>h⟩
theorem Up.trans(a:Up K ρ N H ba N' H')(b:Up K ba N' H' Bo SJ HQ):Up K ρ N H Bo SJ HQ:=
 ⟨fun n h=>(b.agree n (Nat.lt_of_lt_of_le h a.len)).trans (a.agree n h),Nat.le_trans a.len b.len,fun p xs h=>b.ts p xs (a.ts p xs h),fun p o x h=>b.fz p o x (a.fz p o x h)⟩
mutual
theorem RD.up(u:Up K ρ N H ba N' H'):∀{d:Qm.D}{v:V},RD K ρ N H d v→RD K ba N' H' d v
 |_,_,.bG=>.bG
 |_,_,.bl b=>.bl b
 |_,_,.int i=>.int i
 |_,_,.str x=>.str x
 |_,_,.ty n=>.ty n
 |_,_,.adr a=>.adr a
 |_,_,.tup h a=>.tup (u.ts _ _ h) (RA.up u a)
 |_,_,.ref (n:=n) h=>by rw[←u.agree n h];exact .ref (Nat.lt_of_lt_of_le h u.len)
theorem RA.up(u:Up K ρ N H ba N' H'):∀{ds:List Qm.D}{vs:List V},RA K ρ N H ds vs→RA K ba N' H' ds vs
 |_,_,.nil=>.nil
 |_,_,.cons h a=>.cons (RD.up u h) (RA.up u a)
end
theorem RA.length:∀{ds:List Qm.D}{vs:List V},RA K ρ N H ds vs→ds.length=vs.length
 |_,_,.nil=>rfl
 |_,_,.cons _ a=>congrArg (·+1) (RA.length a)
theorem RA.append:∀{ds es:List Qm.D}{vs us:List V},RA K ρ N H ds vs→RA K ρ N H es us→RA K ρ N H (ds++es) (vs++us)
 |_,_,_,_,.nil,b=>b
 |_,_,_,_,.cons h a,b=>.cons h (RA.append a b)
theorem RA.get:∀{ds:List Qm.D}{vs:List V}{i:Nat}{d:Qm.D},RA K ρ N H ds vs→ds[i]? =some d→∃v,vs[i]? =some v∧RD K ρ N H d v
 |_,_,_,_,.nil,e=>by simp at e
 |_,_,0,_,.cons h _,e=>by simp at e;subst e;exact⟨_,rfl,h⟩
 |_,_,i+1,d,.cons _ a,e=>by
  obtain⟨v,h1,h2⟩:=RA.get (i:=i) (d:=d) a (by simpa using e)
  exact⟨v,by simpa using h1,h2⟩
theorem RA.take:∀{ds:List Qm.D}{vs:List V} (n:Nat),RA K ρ N H ds vs→RA K ρ N H (ds.take n) (vs.take n)
 |_,_,0,_=>.nil
 |_,_,_+1,.nil=>.nil
 |_,_,n+1,.cons h a=>.cons h (RA.take n a)
theorem RA.drop:∀{ds:List Qm.D}{vs:List V} (n:Nat),RA K ρ N H ds vs→RA K ρ N H (ds.drop n) (vs.drop n)
 |_,_,0,a=>a
 |_,_,_+1,.nil=>.nil
 |_,_,n+1,.cons _ a=>RA.drop n a
theorem RA.set{d:Qm.D}{v:V}(r:RD K ρ N H d v):∀{ds:List Qm.D}{vs:List V} (n:Nat),RA K ρ N H ds vs→RA K ρ N H (ds.set n d) (vs.set n v)
 |_,_,_,.nil=>.nil
 |_,_,0,.cons _ a=>.cons r a
 |_,_,n+1,.cons h a=>.cons h (RA.set r n a)
theorem RA.one{d:Qm.D}{v:V}(h:RD K ρ N H d v):RA K ρ N H [d] [v]:=.cons h .nil
theorem RA.iJ{d:Qm.D}{vs:List V}(h:RA K ρ N H [d] vs):∃v,vs=[v]∧RD K ρ N H d v:=by
 cases h with
 |cons r t=>cases t;exact⟨_,rfl,r⟩
theorem RA.uc{d e:Qm.D}{vs:List V}(h:RA K ρ N H [d,e] vs):∃v u,vs=[v,u]∧RD K ρ N H d v∧RD K ρ N H e u:=by
 cases h with
 |cons r t=>obtain⟨u,rfl,q⟩:=RA.iJ t;exact⟨_,_,rfl,r,q⟩
theorem RA.SK{vs:List V}(h:RA K ρ N H [] vs):vs=[]:=by cases h;rfl
theorem RD.ei{i:Int}{v:V}(h:RD K ρ N H (.int i) v):v= .int i:=by cases h;rfl
theorem RD.nV{b:Bool}{v:V}(h:RD K ρ N H (.bl b) v):v= .bl b:=by cases h;rfl
theorem RD.NV{v:V}(h:RD K ρ N H .bG v):v= .bG:=by cases h;rfl
theorem RD.jM{ds:List Qm.D}{v:V}(h:RD K ρ N H (.tup ds) v):∃p xs,v= .ref p∧H p=some (.tup xs)∧RA K ρ N H ds xs:=by cases h with|tup a b=>exact⟨_,_,rfl,a,b⟩
theorem RD.k_{n:Nat}{v:V}(h:RD K ρ N H (.ref n) v):v= .ref (ρ n)∧n<N:=by cases h with|ref h=>exact⟨rfl,h⟩
end
def yp(K:PySem.W.Frag)(H:Hp)(a:Addr)(xs:List V):Prop:=(∃o,H a=some (.fP o (.lst xs)))∨bU K (fun _=>none) a xs
theorem yp.seq{K:PySem.W.Frag}{H:Hp}{a:Addr}{xs:List V}(h:yp K H a xs):bU K H a xs:=by
 rcases h with⟨o,h⟩|h
 ·exact .inl (.inr ⟨o,h⟩)
 ·rcases h with(h|⟨o,h⟩)|h
  ·cases h
  ·cases h
  ·exact .inr h
theorem yp.of{K:PySem.W.Frag}{H:Hp}{a:Addr}{xs:List V}(hO:Ba H)(h:bU K H a xs):yp K H a xs:=by
 rcases h with(h|⟨o,h⟩)|h
 ·rcases hO a with z|⟨o,ys,z⟩
  ·rw[z]at h;cases h
  ·rw[z]at h;cases h
 ·exact .inl ⟨o,h⟩
 ·exact .inr (.inr h)
inductive RK(K:PySem.W.Frag)(ρ:Nat→Addr)(N:Nat)(H:Hp):List (Str×Qm.D)→List (Key×V)→Prop
 |nil:RK K ρ N H [] []
 |cons {k:Str}{d:Qm.D}{ds:List (Str×Qm.D)}{x:V}{xs:List (Key×V)}:RD K ρ N H d x→RK K ρ N H ds xs→RK K ρ N H ((k,d)::ds) ((.inr k,x)::xs)
theorem RK.up{K:PySem.W.Frag}{ρ ba:Nat→Addr}{N N':Nat}{H H':Hp}(u:Up K ρ N H ba N' H'):∀{ds:List (Str×Qm.D)}{vs:List (Key×V)},RK K ρ N H ds vs→RK K ba N' H' ds vs
 |_,_,.nil=>.nil
 |_,_,.cons h a=>.cons (h.up u) (RK.up u a)
inductive fC(K:PySem.W.Frag)(ρ:Nat→Addr)(N:Nat)(H:Hp):List (List Int×Qm.D)→List (List Key×V)→Prop
 |nil:fC K ρ N H [] []
 |cons {k:List Int}{d:Qm.D}{ds:List (List Int×Qm.D)}{x:V}{xs:List (List Key×V)}:RD K ρ N H d x→fC K ρ N H ds xs→fC K ρ N H ((k,d)::ds) ((k.map Sum.inl,x)::xs)
inductive dM(K:PySem.W.Frag)(ρ:Nat→Addr)(N:Nat)(H:Hp):List (List (List Int)×Qm.D)→List (List (List Key)×V)→Prop
 |nil:dM K ρ N H [] []
 |cons {k:List (List Int)}{d:Qm.D}{ds:List (List (List Int)×Qm.D)}{x:V}{xs:List (List (List Key)×V)}:RD K ρ N H d x→dM K ρ N H ds xs→dM K ρ N H ((k,d)::ds) ((k.map (List.map Sum.inl),x)::xs)
theorem fC.up{K:PySem.W.Frag}{ρ ba:Nat→Addr}{N N':Nat}{H H':Hp}(u:Up K ρ N H ba N' H'):∀{ds:List (List Int×Qm.D)}{vs:List (List Key×V)},fC K ρ N H ds vs→fC K ba N' H' ds vs
 |_,_,.nil=>.nil
 |_,_,.cons h a=>.cons (h.up u) (fC.up u a)
theorem dM.up{K:PySem.W.Frag}{ρ ba:Nat→Addr}{N N':Nat}{H H':Hp}(u:Up K ρ N H ba N' H'):∀{ds:List (List (List Int)×Qm.D)}{vs:List (List (List Key)×V)},dM K ρ N H ds vs→dM K ba N' H' ds vs
 |_,_,.nil=>.nil
 |_,_,.cons h a=>.cons (h.up u) (dM.up u a)
def CO(K:PySem.W.Frag)(ρ:Nat→Addr)(N:Nat)(H:Hp)(a:Addr):Qm.Cell→Prop
 |.lst ds=>∃vs,H a=some (.lst vs)∧RA K ρ N H ds vs
 |.ro ds=>∃vs,yp K H a vs∧RA K ρ N H ds vs
 |.uR ds=>∃vs,H a=some (.dK vs)∧RK K ρ N H ds vs
 |.FP ds=>∃o vs,H a=some (.fP o (.dK vs))∧RK K ρ N H ds vs
 |.sS ds=>∃vs,H a=some (.dT vs)∧fC K ρ N H ds vs
 |.gH ds=>∃vs,H a=some (.dU vs)∧dM K ρ N H ds vs
 |.kl ds=>∃o vs,H a=some (.fP o (.dU vs))∧dM K ρ N H ds vs
structure RS(K:PySem.W.Frag)(ρ:Nat→Addr)(c:Qm.Cells)(H:Hp):Prop where
 inj:∀(i j:Nat) (z y:Qm.Cell),c[i]? =some z→c[j]? =some y→z.mt=true→y.mt=true→ρ i=ρ j→i=j
 ok:∀(n:Nat) (z:Qm.Cell),c[n]? =some z→CO K ρ c.length H (ρ n) z
structure RE(K:PySem.W.Frag)(ρ:Nat→Addr)(N:Nat)(H:Hp)(env:Qm.Env)(σ:St):Prop where
 len:env.length=σ.length
 at_:∀(i:Nat) (d:Qm.D),env[i]? =some (some d)→∃v:V,σ[i]? =some (some v)∧RD K ρ N H d v
structure Nx(K:PySem.W.Frag)(ρ:Nat→Addr)(c:Qm.Cells)(H:Hp)(ba:Nat→Addr)(c':Qm.Cells)(H':Hp):Prop where
 up:Up K ρ c.length H ba c'.length H'
 rs:RS K ba c' H'
section
variable{K:PySem.W.Frag}{ρ ba Bo:Nat→Addr}{N N':Nat}{c c' SM:Qm.Cells}{H H' HQ:Hp}{env:Qm.Env}{σ:St}
theorem RE.up(h:RE K ρ N H env σ)(u:Up K ρ N H ba N' H'):RE K ba N' H' env σ:=⟨h.len,fun i d e=>let ⟨v,h1,h2⟩:=h.at_ i d e;⟨v,h1,h2.up u⟩⟩
theorem Nx.refl(r:RS K ρ c H):Nx K ρ c H ρ c H:=⟨Up.refl,r⟩
theorem Nx.trans(a:Nx K ρ c H ba c' H')(b:Nx K ba c' H' Bo SM HQ):Nx K ρ c H Bo SM HQ:=⟨a.up.trans b.up,b.rs⟩
theorem CO.up{a:Addr}{z:Qm.Cell}(h:CO K ρ N H a z)(u:Up K ρ N H ba N' H')(hs:∀o,H a=some o→H' a=some o):CO K ba N' H' a z:=by
 cases z with
 |lst ds=>obtain⟨vs,h1,h2⟩:=h;exact⟨vs,hs _ h1,h2.up u⟩
 |ro ds=>
  obtain⟨vs,h1,h2⟩:=h
  refine⟨vs,?_,h2.up u⟩
  rcases h1 with⟨o,h1⟩|h1
  ·exact .inl ⟨o,hs _ h1⟩
  ·exact .inr h1
 |uR ds=>obtain⟨vs,h1,h2⟩:=h;exact⟨vs,hs _ h1,h2.up u⟩
 |FP ds=>obtain⟨o,vs,h1,h2⟩:=h;exact⟨o,vs,hs _ h1,h2.up u⟩
 |sS ds=>obtain⟨vs,h1,h2⟩:=h;exact⟨vs,hs _ h1,h2.up u⟩
 |gH ds=>obtain⟨vs,h1,h2⟩:=h;exact⟨vs,hs _ h1,h2.up u⟩
 |kl ds=>obtain⟨o,vs,h1,h2⟩:=h;exact⟨o,vs,hs _ h1,h2.up u⟩
theorem CO.obj{a:Addr}{z:Qm.Cell}(h:CO K ρ N H a z)(m:z.mt=true):∃o,H a=some o∧(∀xs,o≠.tup xs)∧∀q x,o≠.fP q x:=by
 cases z with
 |lst ds=>obtain⟨vs,h1,_⟩:=h;exact⟨_,h1,(fun _ z=>by cases z),(fun _ _ z=>by cases z)⟩
 |ro ds=>cases m
 |FP ds=>cases m
 |uR ds=>obtain⟨vs,h1,_⟩:=h;exact⟨_,h1,(fun _ z=>by cases z),(fun _ _ z=>by cases z)⟩
 |sS ds=>obtain⟨vs,h1,_⟩:=h;exact⟨_,h1,(fun _ z=>by cases z),(fun _ _ z=>by cases z)⟩
 |gH ds=>obtain⟨vs,h1,_⟩:=h;exact⟨_,h1,(fun _ z=>by cases z),(fun _ _ z=>by cases z)⟩
 |kl ds=>cases m
theorem RE.set{d:Qm.D}{v:V}{i:Nat}(h:RE K ρ N H env σ)(r:RD K ρ N H d v):RE K ρ N H (env.set i (some d)) (σ.set i (some v)):=by
 refine⟨by rw[List.length_set,List.length_set];exact h.len,fun j e he=>?_⟩
 rw[List.getElem?_set]at he ⊢
 have hl:=h.len
 by_cases zq:i=j
 ·rw[if_pos zq]at he ⊢
  subst zq
  split at he
  ·rename_i fB
   rw[if_pos (by omega)]
   cases he
   exact⟨v,rfl,r⟩
  ·cases he
 ·rw[if_neg zq]at he ⊢
  exact h.at_ j e he
theorem Nx.same(r:RS K ρ c H)(e:NQ H H'):Nx K ρ c H ρ c H':=by
 have u:Up K ρ c.length H ρ c.length H':=⟨fun _ _=>rfl,Nat.le_refl _,fun p xs h=>e _ _ h,fun p o x h=>e _ _ h⟩
 exact⟨u,r.inj,fun n z hz=>(r.ok n z hz).up u (fun o h=>e _ _ h)⟩
theorem Nx.vf(r:RS K ρ c H){l:Addr}(hl:H l=none){z:Qm.Cell}{o:HO}(hz:∀ba N' H',Up K ρ c.length H ba N' H'→H' l=some o→CO K ba N' H' l z):Nx K ρ c H (fun n=>if n=c.length then l else ρ n) (c++[z]) (upd H l o)∧RD K (fun n=>if n=c.length then l else ρ n) (c++[z]).length (upd H l o) (.ref c.length) (.ref l):=by
 have hlen:(c++[z]).length=c.length+1:=by simp
 have u:Up K ρ c.length H (fun n=>if n=c.length then l else ρ n) (c++[z]).length (upd H l o):=by
  refine⟨fun n h=>if_neg (by omega),by omega,fun p xs h=>qU h hl,fun p o x h=>qU h hl⟩
 refine⟨⟨u,fun i j x y h1 h2 m1 m2 e=>?_,fun n z' mm=>?_⟩,?_⟩
 ·have YE:i<c.length+1:=by rw[←hlen];exact(List.getElem?_eq_some_iff.mp h1).1
  have YF:j<c.length+1:=by rw[←hlen];exact(List.getElem?_eq_some_iff.mp h2).1
  have fresh:∀k y,k<c.length→(c++[z])[k]? =some y→y.mt=true→ρ k≠l:=fun k y hk hz m e'=>by
   rw[List.getElem?_append_left hk]at hz
   obtain⟨o',h',_⟩:=(r.ok k _ hz).obj m
   rw[e',hl]at h';cases h'
  by_cases hi:i=c.length<;>by_cases hj:j=c.length
  ·omega
  ·exfalso
   simp only[hi,if_true,if_neg hj]at e
   exact fresh j y (by omega) h2 m2 e.symm
  ·exfalso
   simp only[hj,if_true,if_neg hi]at e
   exact fresh i x (by omega) h1 m1 e
  ·simp only[if_neg hi,if_neg hj]at e
   rw[List.getElem?_append_left (by omega)]at h1 h2
   exact r.inj i j x y h1 h2 m1 m2 e
 ·have lt:n<c.length+1:=by rw[←hlen];exact(List.getElem?_eq_some_iff.mp mm).1
  by_cases hn:n=c.length
  ·subst hn
   have:z'=z:=by simpa using mm.symm
   subst this
   simp only[if_true]
   exact hz _ _ _ u cS
  ·simp only[if_neg hn]
   rw[List.getElem?_append_left (by omega)]at mm
   exact(r.ok n z' mm).up u (fun o h=>qU h hl)
 ·have:=RD.ref (K:=K) (ρ:=fun n=>if n=c.length then l else ρ n) (N:=(c++[z]).length) (H:=upd H l o) (n:=c.length) (by omega)
  simpa using this
theorem Nx.alloc(r:RS K ρ c H){l:Addr}(hl:H l=none){ds:List Qm.D}{vs:List V}(a:RA K ρ c.length H ds vs):Nx K ρ c H (fun n=>if n=c.length then l else ρ n) (c++[.lst ds]) (upd H l (.lst vs))∧RD K (fun n=>if n=c.length then l else ρ n) (c++[Qm.Cell.lst ds]).length (upd H l (.lst vs)) (.ref c.length) (.ref l):=
 Nx.vf r hl fun _ _ _ u h=>⟨vs,h,a.up u⟩
theorem Nx.Eo(r:RS K ρ c H){n:Nat}{y z:Qm.Cell}(hn:c[n]? =some y)(my:y.mt=true){o:HO}(hz:∀N' H',Up K ρ c.length H ρ N' H'→H' (ρ n)=some o→CO K ρ N' H' (ρ n) z):Nx K ρ c H ρ (c.set n z) (upd H (ρ n) o):=by
 obtain⟨w,hw,hk⟩:=(r.ok n _ hn).obj my
 have fB:n<c.length:=(List.getElem?_eq_some_iff.mp hn).1
 have HR:∀{p:Addr}{q:HO},H p=some q→((∃ys,q= .tup ys)∨∃o x,q= .fP o x)→p≠ρ n:=fun {p q} h h1 e=>by
  rw[e,hw]at h;cases h
  rcases h1 with⟨_,rfl⟩|⟨_,_,rfl⟩
  ·exact hk.1 _ rfl
  ·exact hk.2 _ _ rfl
 have u:Up K ρ c.length H ρ (c.set n z).length (upd H (ρ n) o):=by
  refine⟨fun _ _=>rfl,by rw[List.length_set];exact Nat.le_refl _,fun p ys h=>?_,fun p q x h=>?_⟩
  ·rw[bg (HR h (.inl ⟨_,rfl⟩))];exact h
  ·rw[bg (HR h (.inr ⟨_,_,rfl⟩))];exact h
 have look:∀{j:Nat}{x:Qm.Cell},j≠n→(c.set n z)[j]? =some x→c[j]? =some x:=fun {j x} hj hx=>by
  rw[List.getElem?_set,if_neg (fun e=>hj e.symm)]at hx;exact hx
 have back:∀{j:Nat}{x:Qm.Cell},(c.set n z)[j]? =some x→x.mt=true→∃x',c[j]? =some x'∧x'.mt=true:=fun {j x} hx m=>by
  by_cases hj:j=n
  ·subst hj;exact⟨y,hn,my⟩
  ·exact⟨x,look hj hx,m⟩
 refine⟨u,fun i j p q h1 h2 m1 m2 e=>?_,fun j x hx=>?_⟩
 ·obtain⟨_,g1,w1⟩:=back h1 m1
  obtain⟨_,g2,w2⟩:=back h2 m2
  exact r.inj i j _ _ g1 g2 w1 w2 e
 ·by_cases hj:j=n
  ·subst hj
   have:x=z:=by
    rw[List.getElem?_set,if_pos rfl,if_pos fB]at hx;cases hx;rfl
   subst this
   exact hz _ _ u cS
  ·have ig:=look hj hx
   by_cases hm:x.mt=true
   ·have hp:ρ j≠ρ n:=fun e=>hj (r.inj j n _ _ ig hn hm my e)
    exact(r.ok j _ ig).up u (fun ys h=>by rw[bg hp];exact h)
   ·cases x with
    |lst zs=>exact absurd rfl hm
    |uR zs=>exact absurd rfl hm
    |sS zs=>exact absurd rfl hm
    |gH zs=>exact absurd rfl hm
    |FP zs=>
     obtain⟨o',zK,h1,h2⟩:=r.ok j _ ig
     exact⟨o',zK,by rw[bg (HR h1 (.inr ⟨_,_,rfl⟩))];exact h1,h2.up u⟩
    |kl zs=>
     obtain⟨o',zK,h1,h2⟩:=r.ok j _ ig
     exact⟨o',zK,by rw[bg (HR h1 (.inr ⟨_,_,rfl⟩))];exact h1,h2.up u⟩
    |ro zs=>
     obtain⟨zK,h1,h2⟩:=r.ok j _ ig
     refine⟨zK,?_,h2.up u⟩
     rcases h1 with⟨o,h1⟩|h1
     ·exact .inl ⟨o,by rw[bg (HR h1 (.inr ⟨_,_,rfl⟩))];exact h1⟩
     ·exact .inr h1
theorem Nx.put(r:RS K ρ c H){n:Nat}{xs:List Qm.D}(hn:c[n]? =some (.lst xs)){ds:List Qm.D}{vs:List V}(a:RA K ρ c.length H ds vs):Nx K ρ c H ρ (c.set n (.lst ds)) (upd H (ρ n) (.lst vs)):=
 Nx.Eo r hn rfl fun _ _ u h=>⟨vs,h,a.up u⟩
theorem RS.lst(r:RS K ρ c H){n:Nat}{ds:List Qm.D}(h:c[n]? =some (.lst ds)):∃vs,H (ρ n)=some (.lst vs)∧RA K ρ c.length H ds vs:=r.ok n _ h
theorem RS.seq(r:RS K ρ c H){d:Qm.D}{ds:List Qm.D}{v:V}(h:RD K ρ c.length H d v)(e:Qm.b7 d c=some ds):∃p vs,v= .ref p∧(bU K H p vs∨H p=some (.tup vs))∧RA K ρ c.length H ds vs:=by
 unfold Qm.b7 at e
 split at e
 ·cases e
  obtain⟨p,xs,rfl,h1,h2⟩:=h.jM
  exact⟨p,xs,rfl,.inr h1,h2⟩
 ·rename_i n
  obtain⟨rfl,hn⟩:=h.k_
  split at e
  ·rename_i xs hx
   cases e
   obtain⟨vs,h1,h2⟩:=r.lst hx
   exact⟨_,vs,rfl,.inl (bU.of h1),h2⟩
  ·rename_i xs hx
   cases e
   obtain⟨vs,h1,h2⟩:=r.ok n _ hx
   exact⟨_,vs,rfl,.inl h1.seq,h2⟩
  ·cases e
 ·cases e
theorem zL{d:Qm.D}{c:Qm.Cells}{ds:List Qm.D}(e:Qm.b7 d c=some ds):d= .tup ds∨∃n,d= .ref n:=by
 unfold Qm.b7 at e
 split at e
 ·cases e;exact .inl rfl
 ·exact .inr ⟨_,rfl⟩
 ·cases e
theorem RS.HS(r:RS K ρ c H){n:Nat}{ds:List Qm.D}{v:V}(h:RD K ρ c.length H (.ref n) v)(e:Qm.b7 (.ref n) c=some ds):∃vs,v= .ref (ρ n)∧bU K H (ρ n) vs∧RA K ρ c.length H ds vs:=by
 obtain⟨rfl,hn⟩:=h.k_
 unfold Qm.b7 at e
 dsimp only at e
 split at e
 ·rename_i xs hx
  cases e
  obtain⟨vs,h1,h2⟩:=r.lst hx
  exact⟨vs,rfl,bU.of h1,h2⟩
 ·rename_i xs hx
  cases e
  obtain⟨vs,h1,h2⟩:=r.ok n _ hx
  exact⟨vs,rfl,h1.seq,h2⟩
 ·cases e
theorem RS.bq(r:RS K ρ c H){d:Qm.D}{n:Nat}{ds:List Qm.D}{v:V}(h:RD K ρ c.length H d v)(e:Qm.bq d c=some (n,ds)):d= .ref n∧c[n]? =some (.lst ds)∧∃vs,v= .ref (ρ n)∧H (ρ n)=some (.lst vs)∧RA K ρ c.length H ds vs:=by
 unfold Qm.bq at e
 split at e
 ·obtain⟨rfl,hn⟩:=h.k_
  split at e
  ·rename_i xs hx
   cases e
   obtain⟨vs,h1,h2⟩:=r.lst hx
   exact⟨rfl,hx,vs,rfl,h1,h2⟩
  ·cases e
 ·cases e
end
def TQ(K:PySem.W.Frag)(f:Qm.XE):TE:=fun σ H Q=>∃ρ env c d c',RS K ρ c H∧RE K ρ c.length H env σ∧f env c=some (d,c')∧∀ba v H',Nx K ρ c H ba c' H'→RD K ba c'.length H' d v→Q v H'
def AQ(K:PySem.W.Frag)(f:Qm.XA):TA:=fun σ H Q=>∃ρ env c ds c',RS K ρ c H∧RE K ρ c.length H env σ∧f env c=some (ds,c')∧∀ba vs H',Nx K ρ c H ba c' H'→RA K ba c'.length H' ds vs→Q vs H'
def BQ(K:PySem.W.Frag)(f:Qm.XT):TT:=fun σ H Q=>∃ρ env c b c',RS K ρ c H∧RE K ρ c.length H env σ∧f env c=some (b,c')∧∀ba H',Nx K ρ c H ba c' H'→Q b H'
def OQ(K:PySem.W.Frag)(f:Qm.XO):TO:=fun σ H Q=>∃ρ env c o c',RS K ρ c H∧RE K ρ c.length H env σ∧f env c=some (o,c')∧∀ba H',Nx K ρ c H ba c' H'→Q o H'
def SN(K:PySem.W.Frag)(ρ:Nat→Addr)(c:Qm.Cells)(H:Hp)(env:Qm.Env)(D:Ends):Qm.Fl→Prop
 |.nx=>∀σ,RE K ρ c.length H env σ→D.nx σ H
 |.bk=>∀σ,RE K ρ c.length H env σ→D.bk σ H
 |.ct=>∀σ,RE K ρ c.length H env σ→D.ct σ H
 |.rt d=>∀v,RD K ρ c.length H d v→D.rt v H
def SQ(K:PySem.W.Frag)(f:Qm.XS):TS:=fun D σ H=>∃ρ env c fl cH c',RS K ρ c H∧RE K ρ c.length H env σ∧f env c=some (fl,cH,c')∧∀ba H',Nx K ρ c H ba c' H'→SN K ba c' H' cH D fl
def GQ(K:PySem.W.Frag)(g:Qm.XG):TG:=fun v σ H Q=>∃ρ env c d cH c',RS K ρ c H∧RE K ρ c.length H env σ∧RD K ρ c.length H d v∧g d env c=some (cH,c')∧∀ba H' σ',Nx K ρ c H ba c' H'→RE K ba c'.length H' cH σ'→Q σ' H'
def Vs(K:PySem.W.Frag)(g:Qm.xZ):zp:=fun vs σ H Q=>∃ρ env c ds cH c',RS K ρ c H∧RE K ρ c.length H env σ∧RA K ρ c.length H ds vs∧g ds env c=some (cH,c')∧∀ba H' σ',Nx K ρ c H ba c' H'→RE K ba c'.length H' cH σ'→Q σ' H'
def HU(K:PySem.W.Frag)(C_:Nat→Addr)(N0:Nat)(H0:Hp)(m:Qm.Itm)(J:It):Prop:=∀ρ c H,Up K C_ N0 H0 ρ c.length H→RS K ρ c H→Qm.stays m.ks c→
 (∀i,i<m.ds.length→J.go i H)∧J.stop m.ds.length H∧∀i d x H',m.ds[i]? =some d→J.Ft i H x H'→Nx K ρ c H ρ c H'∧RD K ρ c.length H' d x
def IQ(K:PySem.W.Frag)(f:Qm.XI):TI:=fun σ H R=>∃ρ env c m c',RS K ρ c H∧RE K ρ c.length H env σ∧f env c=some (m,c')∧∀ba J H',Nx K ρ c H ba c' H'→HU K ba c'.length H' m J→R J H'
abbrev QE(X:Cx)(e:Expr)(f:Qm.XE):Prop:=PE X e (TQ X.K f)
abbrev QA(X:Cx)(es:List Expr)(f:Qm.XA):Prop:=PA X es (AQ X.K f)
abbrev QT(X:Cx)(e:Expr)(f:Qm.XT):Prop:=PT X e (BQ X.K f)
abbrev QW(X:Cx)(e:Expr)(f:Qm.XT):Prop:=PW X e (BQ X.K f)
abbrev QO(X:Cx)(e:Option Expr)(f:Qm.XO):Prop:=PO X e (OQ X.K f)
abbrev QS(X:Cx)(e:Stmt)(f:Qm.XS):Prop:=PS X e (SQ X.K f)
abbrev x8(X:Cx)(e:List Stmt)(f:Qm.XS):Prop:=nK X e (SQ X.K f)
abbrev QG(X:Cx)(e:Expr)(f:Qm.XG):Prop:=PG X e (GQ X.K f)
abbrev L0(X:Cx)(e:List Expr)(f:Qm.xZ):Prop:=AL X e (Vs X.K f)
abbrev QI(X:Cx)(tg e:Expr)(f:Qm.XI):Prop:=PI X tg e (IQ X.K f)
abbrev HV(X:Cx)(e:List Expr)(f:Qm.XT):Prop:=t9 X e (BQ X.K f)
section
variable{X:Cx}
theorem PE.imp{e:Expr}{t t':TE}(h:PE X e t)(k:∀σ H Q,t' σ H Q→t σ H Q):PE X e t':=fun pins s σ H Q I q=>h pins s σ H Q I (k σ H Q q)
theorem PT.imp{e:Expr}{t t':TT}(h:PT X e t)(k:∀σ H Q,t' σ H Q→t σ H Q):PT X e t':=fun pins s σ H Q I q=>h pins s σ H Q I (k σ H Q q)
theorem PW.imp{e:Expr}{t t':TT}(h:PW X e t)(k:∀σ H Q,t' σ H Q→t σ H Q):PW X e t':=fun wh pins s σ H Q I q=>h wh pins s σ H Q I (k σ H Q q)
theorem PA.imp{e:List Expr}{t t':TA}(h:PA X e t)(k:∀σ H Q,t' σ H Q→t σ H Q):PA X e t':=fun pos pins s σ H Q I q=>h pos pins s σ H Q I (k σ H Q q)
theorem PS.imp{e:Stmt}{t t':TS}(h:PS X e t)(k:∀D σ H,t' D σ H→t D σ H):PS X e t':=fun pins s σ H D I q=>h pins s σ H D I (k D σ H q)
theorem nK.imp{e:List Stmt}{t t':TS}(h:nK X e t)(k:∀D σ H,t' D σ H→t D σ H):nK X e t':=fun pins s σ H D I q=>h pins s σ H D I (k D σ H q)
theorem PO.imp{e:Option Expr}{t t':TO}(h:PO X e t)(k:∀σ H Q,t' σ H Q→t σ H Q):PO X e t':=fun pins s σ H Q I q=>h pins s σ H Q I (k σ H Q q)
theorem PG.imp{e:Expr}{t t':TG}(h:PG X e t)(k:∀v σ H Q,t' v σ H Q→t v σ H Q):PG X e t':=fun pins s σ H x v Q I r q=>h pins s σ H x v Q I r (k x σ H Q q)
theorem AL.imp{e:List Expr}{t t':zp}(h:AL X e t)(k:∀v σ H Q,t' v σ H Q→t v σ H Q):AL X e t':=fun pins s σ H x v Q I r q=>h pins s σ H x v Q I r (k x σ H Q q)
theorem PI.imp{tg e:Expr}{t t':TI}(h:PI X tg e t)(k:∀σ H Q,t' σ H Q→t σ H Q):PI X tg e t':=fun pins s σ H R I q=>h pins s σ H R I (k σ H R q)
theorem t9.imp{e:List Expr}{t t':TT}(h:t9 X e t)(k:∀σ H Q,t' σ H Q→t σ H Q):t9 X e t':=fun pins s σ H Q I q=>h pins s σ H Q I (k σ H Q q)
end
end L2
namespace L2
open PySem PySem.Spec PyProof.Rows
section
variable{X:Cx}{a b e:Expr}{es:List Expr}{fa fb fc fe:Qm.XE}{ft fu:Qm.XT}{pos:Pos}
theorem L4(i:Nat)(h:PE X e (GW i)):QE X e (Qm.eV i):=h.imp <| by
 rintro σ H Q ⟨ρ,env,c,d,c',rs,re,e,k⟩
 unfold Qm.eV at e
 obtain⟨d',e1,e2⟩:=aF e
 cases e2
 have e3:env[i]? =some (some d):=by
  cases h:env[i]? with
  |none=>rw[h]at e1;cases e1
  |some o=>rw[h]at e1;rw[show o=some d from e1]
 obtain⟨v,h1,h2⟩:=re.at_ i d e3
 exact⟨v,h1,k ρ v H (Nx.refl rs) h2⟩
theorem pQ{v:V}(d:Qm.D)(h:PE X e (tC v))(r:∀ρ N H,RD X.K ρ N H d v):QE X e (Qm.eC d):=h.imp <| by
 rintro σ H Q ⟨ρ,env,c,d',c',rs,re,e,k⟩
 unfold Qm.eC at e
 cases e
 exact k ρ v H (Nx.refl rs) (r _ _ _)
theorem ai{i:Int}{j pos}:QE X (.Constant (.int i) j pos) (Qm.eC (.int i)):=pQ _ KR fun _ _ _=>.int i
theorem fS{i:Bool}{j pos}:QE X (.Constant (.bool i) j pos) (Qm.eC (.bl i)):=pQ _ Oq fun _ _ _=>.bl i
theorem zM{j pos}:QE X (.Constant .none j pos) (Qm.eC .bG):=pQ _ KS fun _ _ _=>.bG
theorem zN{x:Str}{j pos}:QE X (.Constant (.str x) j pos) (Qm.eC (.str x)):=pQ _ KW fun _ _ _=>.str x
def jl(K:PySem.W.Frag)(r:R2)(g:Qm.G2):Prop:=∀ρ c H x y d c' v u Q,RS K ρ c H→RD K ρ c.length H x v→RD K ρ c.length H y u→g x y c=some (d,c')→(∀ba w H',Nx K ρ c H ba c' H'→RD K ba c'.length H' d w→Q w H')→r v u H Q
theorem zO{K:PySem.W.Frag}{r:R2}{g:Qm.G2}(hl:jl K r g){σ:St}{H:Hp}{Q:VK}(h:TQ K (Qm.e2 g fa fb) σ H Q):G9 r (TQ K fa) (TQ K fb) σ H Q:=by
 obtain⟨ρ,env,c,d,c',rs,re,e,k⟩:=h
 obtain⟨p,e1,e⟩:=aF e
 obtain⟨q,e2,e3⟩:=aF e
 exact⟨ρ,env,c,p.1,p.2,rs,re,e1,fun aN v H1 n1 r1=>⟨aN,env,p.2,q.1,q.2,n1.rs,re.up n1.up,e2,fun jm u H2 n2 r2=>
  hl jm q.2 H2 p.1 q.1 d c' v u Q n2.rs (r1.up n2.up) r2 e3 fun ba w H' n3 r3=>k ba w H' (n1.trans (n2.trans n3)) r3⟩⟩
theorem aB{op:Operator}{r:R2}{g:Qm.G2}(ho:fN X (binaryOp op) r)(hl:jl X.K r g)(ha:QE X a fa)(hb:QE X b fb):QE X (.BinOp a op b pos) (Qm.e2 g fa fb):=(OG ho ha hb).imp fun _ _ _ h=>zO hl h
theorem i_{op:CmpOp}{r:R2}{g:Qm.G2}(ho:fN X (compareOp op) r)(hl:jl X.K r g)(ha:QE X a fa)(hb:QE X b fb)(hm:behindInMarks op b=false):QE X (.Compare a [op] [b] pos) (Qm.e2 g fa fb):=(Hb ho ha hb hm).imp fun _ _ _ h=>zO hl h
theorem Po{r:R2}{g:Qm.G2}(hr:xU X r)(hl:jl X.K r g)(ha:QE X a fa)(hb:QE X b fb)(hs:qR b):QE X (.Subscript a b pos) (Qm.e2 g fa fb):=(OV hr ha hb hs).imp fun _ _ _ h=>zO hl h
theorem jQ{d:Qm.D}{i:Int}(h:Qm.qZ d=some i):d= .int i:=by
 unfold Qm.qZ at h
 split at h
 ·cases h;rfl
 ·cases h
theorem rl{d:Qm.D}{i:Bool}(h:Qm.mR d=some i):d= .bl i:=by
 unfold Qm.mR at h
 split at h
 ·cases h;rfl
 ·cases h
theorem vg{K:PySem.W.Frag}{C:Int→Int→Prop}{g:Int→Int→V}{f:Int→Int→Option Qm.D}(h:∀i j d,f i j=some d→C i j∧∀ρ N H,RD K ρ N H d (g i j)):jl K (rI C g) (Qm.ii f):=by
 intro ρ c H x y d c' v u Q rs rx ry e k
 obtain⟨i,e1,e⟩:=aF e
 obtain⟨j,e2,e⟩:=aF e
 obtain⟨d',e3,e⟩:=aF e
 cases e
 cases jQ e1;cases jQ e2
 cases rx.ei;cases ry.ei
 obtain⟨hc,hr⟩:=h i j d e3
 exact⟨i,j,rfl,rfl,hc,k ρ _ H (Nx.refl rs) (hr _ _ _)⟩
theorem nW{K:PySem.W.Frag}{g:Int→Int→V}{f:Int→Int→Option Qm.D}(h:∀i j d,f i j=some d→∀ρ N H,RD K ρ N H d (g i j)):jl K (pF g) (Qm.ii f):=by
 intro ρ c H x y d c' v u Q rs rx ry e k
 obtain⟨i,e1,e⟩:=aF e
 obtain⟨j,e2,e⟩:=aF e
 obtain⟨d',e3,e⟩:=aF e
 cases e
 cases jQ e1;cases jQ e2
 cases rx.ei;cases ry.ei
 exact⟨i,j,rfl,rfl,k ρ _ H (Nx.refl rs) (h i j d e3 _ _ _)⟩
theorem gR{K:PySem.W.Frag}:jl K (pF fun i j=>.int (i - j)) Qm.fF:=nW fun i j d e ρ N H=>by cases e;exact .int _
theorem aX{K:PySem.W.Frag}:jl K (rI IntMulOk fun i j=>.int (i*j)) Qm.aK:=vg fun i j d e=>by
 split at e
 ·rename_i h
  cases e
  refine⟨?_,fun _ _ _=>.int _⟩
  have YG:(2:Nat) ^ 64=18446744073709551616:=by decide
  rcases h with h|h|h
  ·exact My.Pc h.1 h.2 rfl
  ·have:=h.lt
   exact My.LO (by omega) (by omega)
  ·have:=h.lt
   exact My.LP (by omega) (by omega)
 ·cases e
theorem ko{K:PySem.W.Frag}:jl K (rI C6 fun i j=>.int (i.fdiv j)) Qm.jE:=vg fun i j d e=>by
 split at e
 ·rename_i h
  cases e
  exact⟨Su h.1 h.2 rfl,fun _ _ _=>.int _⟩
 ·cases e
theorem jR{K:PySem.W.Frag}:jl K (rI (fun _ j=>j≠0) fun i j=>.int (i.fmod j)) Qm.gA:=vg fun i j d e=>by
 split at e
 ·rename_i h
  cases e
  exact⟨h,fun _ _ _=>.int _⟩
 ·cases e
theorem vh{K:PySem.W.Frag}:jl K (rI NH fun i j=>.int (i ^ j.toNat)) Qm.k7:=vg fun i j d e=>by
 split at e
 ·rename_i h
  cases e
  exact⟨⟨h.1,by omega,by(have:=h.2.2;have:(2:Nat) ^ 64=18446744073709551616:=(by decide);omega)⟩,fun _ _ _=>.int _⟩
 ·cases e
theorem qp{K:PySem.W.Frag}:jl K (pF fun i j=>.bl (decide (i<j))) Qm.x5:=nW fun i j d e ρ N H=>by cases e;exact .bl _
theorem Pp{K:PySem.W.Frag}:jl K (pF fun i j=>.bl (decide (i≤j))) Qm.LY:=nW fun i j d e ρ N H=>by cases e;exact .bl _
theorem ku{K:PySem.W.Frag}:jl K (pF fun i j=>.bl (decide (j<i))) Qm.mh:=nW fun i j d e ρ N H=>by cases e;exact .bl _
theorem Pq{K:PySem.W.Frag}:jl K (pF fun i j=>.bl (decide (j≤i))) Qm.Pj:=nW fun i j d e ρ N H=>by cases e;exact .bl _
theorem dY{K:PySem.W.Frag}:jl K (fun x y H Q=>(pF fun i j=>.int (i+j)) x y H Q∨(CU K x y H Q∨Ht x y H Q)) Qm.cy:=by
 intro ρ c H x y d c' v u Q rs rx ry e k
 unfold Qm.cy at e
 split at e
 ·cases e
  cases rx.ei;cases ry.ei
  exact .inl ⟨_,_,rfl,rfl,k ρ _ H (Nx.refl rs) (.int _)⟩
 ·rename_i xs ys
  split at e
  ·rename_i h
   cases e
   obtain⟨p,vs,rfl,h1,a1⟩:=rx.jM
   obtain⟨q,us,rfl,h2,a2⟩:=ry.jM
   have l1:=a1.length
   have l2:=a2.length
   refine .inr (.inl ⟨p,q,vs,us,rfl,rfl,cN.of h1,cN.of h2,?_,ml (by omega),fun z=>?_,fun _ l hl=>?_⟩)
   ·intro z;subst z
    have:xs=[]:=List.length_eq_zero_iff.mp (by simpa using l1)
    exact h.1 this
   ·subst z
    have:ys=[]:=List.length_eq_zero_iff.mp (by simpa using l2)
    subst this
    rw[List.append_nil]at k
    exact k ρ _ H (Nx.refl rs) (.tup h1 a1)
   ·have n:=Nx.same rs (iR (z:=.tup (vs++us)) hl)
    exact k ρ _ _ n (.tup cS ((a1.append a2).up n.up))
  ·cases e
 ·obtain⟨p,e1,e⟩:=aF e
  obtain⟨q,e2,e⟩:=aF e
  split at e
  ·rename_i h
   cases e
   obtain⟨_,hp,vs,rfl,h1,a1⟩:=rs.bq rx e1
   obtain⟨_,hq,us,rfl,h2,a2⟩:=rs.bq ry e2
   have l1:=a1.length
   have l2:=a2.length
   refine .inr (.inr ⟨_,_,vs,us,rfl,rfl,h1,h2,ml (by omega),fun l hl=>?_⟩)
   obtain⟨n,r⟩:=Nx.alloc rs hl (a1.append a2)
   exact k _ _ _ n r
  ·cases e
theorem dg:fN X (binaryOp .Add) (fun x y H Q=>(pF fun i j=>.int (i+j)) x y H Q∨(CU X.K x y H Q∨Ht x y H Q)):=Lm.or (Ho.or LF)
theorem zP{α:Type}{xs:List α}{i:Int}:Qm.g_ xs i=CW xs i:=rfl
theorem Pt{K:PySem.W.Frag}:jl K (Sh K) Qm.ar:=by
 intro ρ c H x y d c' v u Q rs rx ry e k
 obtain⟨xs,e1,e⟩:=aF e
 obtain⟨i,e2,e⟩:=aF e
 obtain⟨d',e3,e⟩:=aF e
 cases e
 cases jQ e2
 cases ry.ei
 obtain⟨p,vs,rfl,h,a⟩:=rs.seq rx e1
 obtain⟨j,hj,hx⟩:=aF (show(Qm.wj xs.length i).bind (fun j=>xs[j]?)=some d from e3)
 obtain⟨w,hw,qK⟩:=a.get hx
 have SO:CW vs i=some w:=by
  show(CV vs.length i).bind (fun j=>vs[j]?)=some w
  rw[←a.length,show CV xs.length i=some j from hj]
  exact hw
 rcases h with h|h
 ·exact .inl ⟨p,vs,i,w,rfl,rfl,h,SO,k ρ _ H (Nx.refl rs) qK⟩
 ·exact .inr (.inl ⟨p,vs,i,w,rfl,rfl,cN.of h,SO,k ρ _ H (Nx.refl rs) qK⟩)
theorem cA(ha:QE X a fa)(hb:QE X b fb)(hs:qR b):QE X (.Subscript a b pos) (Qm.e2 Qm.ar fa fb):=Po LB Pt ha hb hs
theorem vi(ha:QE X a fa):QE X (.UnaryOp .USub a pos) (Qm.e1 Qm.we fa):=(OH Ln ha).imp <| by
 rintro σ H Q ⟨ρ,env,c,d,c',rs,re,e,k⟩
 obtain⟨p,e1,e⟩:=aF e
 obtain⟨i,e2,e⟩:=aF e
 cases e
 refine⟨ρ,env,c,p.1,p.2,rs,re,e1,fun aN v H1 n1 r1=>?_⟩
 rw[jQ e2]at r1
 cases r1.ei
 exact⟨i,rfl,k aN _ H1 n1 (.int _)⟩
theorem rn{op}(h:QE X a fa):QE X (.BoolOp op [a] pos) fa:=K7 h
theorem rA{rest:List Expr}(ha:QE X a fa)(hb:QE X (.BoolOp .And (b::rest) pos) fb):QE X (.BoolOp .And (a::b::rest) pos) (Qm.qX fa fb):=(K8 ha hb).imp <| by
 rintro σ H Q ⟨ρ,env,c,d,c',rs,re,e,k⟩
 obtain⟨p,e1,e⟩:=aF e
 obtain⟨i,e2,e⟩:=aF e
 refine⟨ρ,env,c,p.1,p.2,rs,re,e1,fun aN v H1 n1 r1=>?_⟩
 rw[rl e2]at r1
 cases r1.nV
 refine⟨i,rfl,?_⟩
 split at e
 ·rename_i hi
  rw[if_pos hi]
  exact⟨aN,env,p.2,d,c',n1.rs,re.up n1.up,e,fun ba w H' n r=>k ba w H' (n1.trans n) r⟩
 ·rename_i hi
  rw[if_neg hi]
  cases e
  exact k aN _ H1 n1 (.bl _)
theorem Pu{rest:List Expr}(ha:QE X a fa)(hb:QE X (.BoolOp .Or (b::rest) pos) fb):QE X (.BoolOp .Or (a::b::rest) pos) (Qm.LW fa fb):=(Ow ha hb).imp <| by
 rintro σ H Q ⟨ρ,env,c,d,c',rs,re,e,k⟩
 obtain⟨p,e1,e⟩:=aF e
 obtain⟨i,e2,e⟩:=aF e
 refine⟨ρ,env,c,p.1,p.2,rs,re,e1,fun aN v H1 n1 r1=>?_⟩
 rw[rl e2]at r1
 cases r1.nV
 refine⟨i,rfl,?_⟩
 split at e
 ·rename_i hi
  rw[if_pos hi]
  cases e
  exact k aN _ H1 n1 (.bl _)
 ·rename_i hi
  rw[if_neg hi]
  exact⟨aN,env,p.2,d,c',n1.rs,re.up n1.up,e,fun ba w H' n r=>k ba w H' (n1.trans n) r⟩
theorem rB(ha:QE X a fa):QE X (.UnaryOp .Not a pos) (Qm.ua fa):=(K9 ha).imp <| by
 rintro σ H Q ⟨ρ,env,c,d,c',rs,re,e,k⟩
 obtain⟨p,e1,e⟩:=aF e
 obtain⟨i,e2,e⟩:=aF e
 cases e
 refine⟨ρ,env,c,p.1,p.2,rs,re,e1,fun aN v H1 n1 r1=>?_⟩
 rw[rl e2]at r1
 cases r1.nV
 exact⟨i,rfl,k aN _ H1 n1 (.bl _)⟩
theorem oR{c0:Expr}(hc:QT X c0 ft)(ha:QE X a fa)(hb:QE X b fb):QE X (.IfExp c0 a b pos) (Qm.x4 ft fa fb):=(Fo hc ha hb).imp <| by
 rintro σ H Q ⟨ρ,env,c,d,c',rs,re,e,k⟩
 obtain⟨p,e1,e⟩:=aF e
 refine⟨ρ,env,c,p.1,p.2,rs,re,e1,fun aN H1 n1=>?_⟩
 split at e
 ·rename_i hi
  rw[if_pos hi]
  exact⟨aN,env,p.2,d,c',n1.rs,re.up n1.up,e,fun ba w H' n r=>k ba w H' (n1.trans n) r⟩
 ·rename_i hi
  rw[if_neg hi]
  exact⟨aN,env,p.2,d,c',n1.rs,re.up n1.up,e,fun ba w H' n r=>k ba w H' (n1.trans n) r⟩
theorem aj:QA X [] Qm.ag:=Lq.imp <| by
 rintro σ H Q ⟨ρ,env,c,ds,c',rs,re,e,k⟩
 cases e
 exact k ρ [] H (Nx.refl rs) .nil
theorem af{fr:Qm.XA}(ha:QE X e fa)(hr:QA X es fr)(hs:starEach (e::es) X.env=(false,eval e X.env)::starEach es X.env:=by rfl):QA X (e::es) (Qm.ae fa fr):=(Hf ha hr hs).imp <| by
 rintro σ H Q ⟨ρ,env,c,ds,c',rs,re,e,k⟩
 obtain⟨p,e1,e⟩:=aF e
 obtain⟨q,e2,e⟩:=aF e
 cases e
 exact⟨ρ,env,c,p.1,p.2,rs,re,e1,fun aN v H1 n1 r1=>⟨aN,env,p.2,q.1,q.2,n1.rs,re.up n1.up,e2,fun jm vs H2 n2 r2=>k jm (v::vs) H2 (n1.trans n2) (.cons (r1.up n2.up) r2)⟩⟩
theorem dZ{x1}{f:Qm.XA}(h:QA X es f):QE X (.Tuple es x1 pos) (Qm.eD f):=(Lr h).imp <| by
 rintro σ H Q ⟨ρ,env,c,d,c',rs,re,e,k⟩
 obtain⟨p,e1,e⟩:=aF e
 split at e
 ·rename_i hz
  cases e
  refine⟨ρ,env,c,p.1,p.2,rs,re,e1,fun aN vs H1 n1 r1=>⟨ml (by rw[←r1.length];exact hz),fun l hl=>?_⟩⟩
  have n:=Nx.same n1.rs (iR (z:=.tup vs) hl)
  exact k aN _ _ (n1.trans n) (.tup cS (r1.up n.up))
 ·cases e
theorem eL{f:Qm.XA}(h:QA X es f):QE X (.List es pos) (Qm.fH f):=(Ls h).imp <| by
 rintro σ H Q ⟨ρ,env,c,d,c',rs,re,e,k⟩
 obtain⟨p,e1,e⟩:=aF e
 split at e
 ·rename_i hz
  cases e
  refine⟨ρ,env,c,p.1,p.2,rs,re,e1,fun aN vs H1 n1 r1=>⟨ml (by rw[←r1.length];exact hz),fun l hl=>?_⟩⟩
  obtain⟨n,r⟩:=Nx.alloc n1.rs hl r1
  exact k _ _ _ (n1.trans n) r
 ·cases e
def dq(K:PySem.W.Frag)(F:Qm.FN):Sp:=fun vs H Q _=>∃ρ c ds d c',RS K ρ c H∧RA K ρ c.length H ds vs∧F ds c=some (d,c')∧∀ba v H',Nx K ρ c H ba c' H'→RD K ba c'.length H' d v→Q v H'
theorem HW{K:PySem.W.Frag}{F:Qm.FN}{f:Qm.XA}{ds:List Qm.D}{qO:List V}{E:XK}(hd:∀ρ N H,RA K ρ N H ds qO){σ:St}{H:Hp}{Q:VK}(h:TQ K (Qm.ao F ds f) σ H Q):CP (dq K F) qO E (AQ K f) σ H Q:=by
 obtain⟨ρ,env,c,d,c',rs,re,e,k⟩:=h
 obtain⟨p,e1,e⟩:=aF e
 exact⟨ρ,env,c,p.1,p.2,rs,re,e1,fun aN vs H1 n1 r1=>⟨aN,p.2,p.1++ds,d,c',n1.rs,r1.append (hd _ _ _),e,fun ba v H' n r=>k ba v H' (n1.trans n) r⟩⟩
theorem HX{k:Nat}{f:Addr}{fd:FuncData}{ps:List Str}{F:Qm.FN}{qO:List V}{ds:List Value}{x:Str}{p:Pos}{fx:Qm.XA}(qs:List Qm.D)(G:bH X.prog X.w X.K X.mg X.base cW k f fd ps (dq X.K F))(hr:fG k X.A)(hg:Gl X x)(hm:X.mg x=some (.ref f))(hk:PySem.W.keepIn X.K (.ref f)=true)(hb:Binds X.K fd ps ds)(hd:Vals qO ds)(hq:∀ρ N H,RA X.K ρ N H qs qO)
  (ha:QA X (e::es) fx)(sP:(x==("__debug__":Str))=false:=by decide)(he:starEach (e::es) X.env=(false,eval e X.env)::starEach es X.env:=by rfl)(dJ:(backTo pos (starEach es X.env)).any (·.1)=false:=by rfl):
  QE X (.Call (.Name x p) (e::es) [] pos) (Qm.ao F qs fx):=(Hg (E:=E0) G hr hg hm hk hb hd Hy ha sP he dJ).imp fun _ _ _ h=>HW hq h
def qr(K:PySem.W.Frag)(r:List V→Hp→VK→Prop)(F:Qm.FN):Prop:=∀ρ c H ds d c' vs Q,RS K ρ c H→RA K ρ c.length H ds vs→F ds c=some (d,c')→(∀ba w H',Nx K ρ c H ba c' H'→RD K ba c'.length H' d w→Q w H')→r vs H Q
theorem HY{K:PySem.W.Frag}{r:List V→Hp→VK→Prop}{F:Qm.FN}(hl:qr K r F){f:Qm.XA}{σ:St}{H:Hp}{Q:VK}(h:TQ K (Qm.eB F f) σ H Q):OS r (AQ K f) σ H Q:=by
 obtain⟨ρ,env,c,d,c',rs,re,e,k⟩:=h
 obtain⟨p,e1,e⟩:=aF e
 exact⟨ρ,env,c,p.1,p.2,rs,re,e1,fun aN vs H1 n1 r1=>hl aN p.2 H1 p.1 d c' vs Q n1.rs r1 e fun ba v H' n r=>k ba v H' (n1.trans n) r⟩
theorem aV{id:String}{r:List V→Hp→VK→Prop}{F:Qm.FN}{x:Str}{p:Pos}{f:Qm.XA}(hc:gC X (.builtin id) r)(hl:qr X.K r F)(hg:Gl X x)(hm:X.mg x=none)(hv:bootBuiltins x=some (.builtin id))(ha:QA X (e::es) f)(hn:x≠"__name__":=by decide)(sP:(x==("__debug__":Str))=false:=by decide)
  (he:starEach (e::es) X.env=(false,eval e X.env)::starEach es X.env:=by rfl)(dJ:(backTo pos (starEach es X.env)).any (·.1)=false:=by rfl):QE X (.Call (.Name x p) (e::es) [] pos) (Qm.eB F f):=(Fw hc hg hm hv ha hn sP he dJ).imp fun _ _ _ h=>HY hl h
theorem fT{id:String}{r:List V→Hp→VK→Prop}{F:Qm.FN}{x:Str}{p:Pos}{f:Qm.XA}(hc:gC X (.type id) r)(hl:qr X.K r F)(hg:Gl X x)(hm:X.mg x=none)(hv:bootBuiltins x=some (.type id))(ha:QA X (e::es) f)(hn:x≠"__name__":=by decide)(sP:(x==("__debug__":Str))=false:=by decide)
  (he:starEach (e::es) X.env=(false,eval e X.env)::starEach es X.env:=by rfl)(dJ:(backTo pos (starEach es X.env)).any (·.1)=false:=by rfl):QE X (.Call (.Name x p) (e::es) [] pos) (Qm.eB F f):=(CS hc hg hm hv ha hn sP he dJ).imp fun _ _ _ h=>HY hl h
end
end L2
namespace L2
open PySem PySem.Spec PyProof.Rows
section
variable{X:Cx}{a b e:Expr}{es:List Expr}{fa fb fc fe:Qm.XE}{ft fu:Qm.XT}{pos:Pos}
theorem NW{K:PySem.W.Frag}{t:TE}{f:Qm.XE}(ht:∀σ H Q,TQ K f σ H Q→t σ H Q){σ:St}{H:Hp}{Q:Bool→Hp→Prop}(h:BQ K (Qm.tV f) σ H Q):t σ H fun x H1=>∃k,x= .bl k∧Q k H1:=by
 obtain⟨ρ,env,c,d,c',rs,re,e,k⟩:=h
 obtain⟨p,e1,e⟩:=aF e
 obtain⟨i,e2,e⟩:=aF e
 cases e
 refine ht σ H _ ⟨ρ,env,c,p.1,p.2,rs,re,e1,fun aN v H1 n1 r1=>?_⟩
 rw[rl e2]at r1
 cases r1.nV
 exact⟨_,rfl,k aN H1 n1⟩
theorem cP(h:QE X e fe)(he:∀whole,isTrue e X.env whole=(do let v ←whole;standAt e.pos;holding [v] (truthy v)):=by intro _;rfl):QT X e (Qm.tV fe):=(KY h he).imp fun _ _ _ q=>NW (fun _ _ _ z=>z) q
theorem br{op:CmpOp}{r:R2}{g:Qm.G2}(ho:fN X (compareOp op) r)(hl:jl X.K r g)(ha:QE X a fa)(hb:QE X b fb)(hm:behindInMarks op b=false):QT X (.Compare a [op] [b] pos) (Qm.tV (Qm.e2 g fa fb)):=(Hc ho ha hb hm).imp fun _ _ _ q=>NW (fun _ _ _ z=>zO hl z) q
theorem mn(ha:QT X a ft):QW X (.BoolOp .And [a] pos) ft:=GY ha
theorem mT(ha:QT X a ft):QW X (.BoolOp .Or [a] pos) ft:=K4 ha
theorem oS{rest:List Expr}(ha:QT X a ft)(hb:QW X (.BoolOp .And (b::rest) pos) fu):QW X (.BoolOp .And (a::b::rest) pos) (Qm.jL ft fu):=(K5 ha hb).imp <| by
 rintro σ H Q ⟨ρ,env,c,d,c',rs,re,e,k⟩
 obtain⟨p,e1,e⟩:=aF e
 refine⟨ρ,env,c,p.1,p.2,rs,re,e1,fun aN H1 n1=>?_⟩
 split at e
 ·rename_i hi
  rw[if_pos hi]
  exact⟨aN,env,p.2,d,c',n1.rs,re.up n1.up,e,fun ba H' n=>k ba H' (n1.trans n)⟩
 ·rename_i hi
  rw[if_neg hi]
  cases e
  exact k aN H1 n1
theorem mU{rest:List Expr}(ha:QT X a ft)(hb:QW X (.BoolOp .Or (b::rest) pos) fu):QW X (.BoolOp .Or (a::b::rest) pos) (Qm.lT ft fu):=(Ot ha hb).imp <| by
 rintro σ H Q ⟨ρ,env,c,d,c',rs,re,e,k⟩
 obtain⟨p,e1,e⟩:=aF e
 refine⟨ρ,env,c,p.1,p.2,rs,re,e1,fun aN H1 n1=>?_⟩
 split at e
 ·rename_i hi
  rw[if_pos hi]
  cases e
  exact k aN H1 n1
 ·rename_i hi
  rw[if_neg hi]
  exact⟨aN,env,p.2,d,c',n1.rs,re.up n1.up,e,fun ba H' n=>k ba H' (n1.trans n)⟩
theorem jS(ha:QT X a ft):QT X (.UnaryOp .Not a pos) (Qm.fE ft):=(K6 ha).imp <| by
 rintro σ H Q ⟨ρ,env,c,d,c',rs,re,e,k⟩
 obtain⟨p,e1,e⟩:=aF e
 cases e
 exact⟨ρ,env,c,p.1,p.2,rs,re,e1,fun aN H1 n1=>k aN H1 n1⟩
theorem mq:QO X none Qm.eK:=Hm.imp <| by
 rintro σ H Q ⟨ρ,env,c,d,c',rs,re,e,k⟩
 cases e
 exact k ρ H (Nx.refl rs)
theorem jn(h:QE X e fe):QO X (some e) (Qm.dc fe):=(Hn h).imp <| by
 rintro σ H Q ⟨ρ,env,c,d,c',rs,re,e,k⟩
 obtain⟨p,e1,e⟩:=aF e
 refine⟨ρ,env,c,p.1,p.2,rs,re,e1,fun aN v H1 n1 r1=>?_⟩
 split at e
 ·rename_i i hi
  cases e
  rw[hi]at r1
  cases r1.ei
  exact⟨_,rfl,k aN H1 n1⟩
 ·cases e
theorem sU{K:PySem.W.Frag}{ρ:Nat→Addr}{N:Nat}{H:Hp}{ds:List Qm.D}{vs:List V}(a:RA K ρ N H ds vs)(lo hi:Option Int):RA K ρ N H (Qm.cutD ds lo hi) (nP vs lo hi):=by
 have e:∀n d o,Qm.x6 n d o=HT.cq n d o:=fun n d o=>by cases o<;>rfl
 unfold Qm.cutD nP
 rw[e,e,a.length]
 exact(a.drop _).take _
end
section
variable{prog:Program}{w:World}{A:Around}{E:Value→Shared→Prop}{s:Shared}
theorem nX{t sl:Addr}{items:Array Value}{vl vu:Value}{lo hi:Option Int}{Q:Value→Shared→Prop}(ht:IsTup s.heap t items)(hs:s.heap.IsSliceOf sl vl vu .none)(pl:IsPart vl lo)(pu:IsPart vu hi)
  (hw:HT.cq items.size 0 lo=0∧HT.cq items.size items.size hi=items.size)(h:Q (.ref t) s):wpAny (model prog w) A (getItem (.ref t) (.ref sl)) Q E s:=by
 obtain⟨os,CT,Lx,Hk⟩:=id hs
 have OT:s.TypeIs (.ref sl) "slice":=⟨os,CT,Lx⟩
 unfold getItem
 try with_reducible refine wpAny_holding ?_
 first|refine wpAny_bind (wpAny_pure ?_)|skip
 refine wpAny_bind (wpAny_sequenceKey ht.typeIs (by decide) ?_)
 refine wpAny_bind (wpAny_callSpecial?_slot (name:=Str.ofString "__getitem__") ht.typeIs PyProof.Rows.slot_tuple_getitem
  (wpAny_call_entry PyProof.Rows.slot_tuple_getitem ht.typeIs entry_tuple_getitem ?_ (args_tuple_getitem _ _)))
 show wpAny _ _ (Builtin.Tuple.tupleItemsOf (.ref t) >>= _) _ _ s
 refine wpAny_bind (tupleItemsOf_ ht ?_)
 refine wpAny_bind (wpAny_typeOf OT ?_)
 rw[if_pos (by decide)]
 refine wpAny_bind (HT.kZ hs pl pu ?_)
 have SR:(((HT.cq items.size 0 lo:Nat):Int)==0&&(1:Int)==1&&(HT.cq items.size items.size hi - HT.cq items.size 0 lo)==items.size)=true:=by
  rw[hw.1,hw.2];simp
 show wpAny _ _ (if (((HT.cq items.size 0 lo:Nat):Int)==0&&(1:Int)==1&&(HT.cq items.size items.size hi - HT.cq items.size 0 lo)==items.size)=true then _ else _) _ _ s
 rw[if_pos SR]
 unfold Builtin.Tuple.tupleIsExact
 refine wpAny_bind (wpAny_bind (wpAny_typeOf ht.typeIs (wpAny_pure ?_)))
 rw[if_pos (by decide)]
 refine wpAny_bind (wpAny_rule ?_)
 exact wpAny_pure ⟨_,rfl,wpAny_pure h⟩
end
section
variable{X:Cx}{a b e:Expr}{es:List Expr}{fa fb fc fe:Qm.XE}{ft fu:Qm.XT}{pos p2:Pos}{lo hi:Option Expr}{fl fh:Qm.XO}
def HZ(K:PySem.W.Frag):V→Option Int→Option Int→Hp→VK→Prop:=fun x lo hi H Q=>∃a xs,x= .ref a∧cN K H a xs∧(HT.cq xs.length 0 lo=0∧HT.cq xs.length xs.length hi=xs.length)∧Q (.ref a) H
theorem H_:zv X (HZ X.K):=by
 intro pins s σ H x v vl vu lo hi sl Q I rx hs pl pu h
 obtain⟨a,xs,rfl,hx,hw,q⟩:=h
 cases rx
 obtain⟨its,r,ht,hz⟩:=I.tuple hx
 have hlen:its.toArray.size=xs.length:=by rw[List.size_toArray];exact r.length.symm
 refine⟨"tuple",_,PyProof.Rows.slot_tuple_getitem.lookup,ht.typeIs,?_⟩
 exact nX ht hs pl pu (by rw[hlen];exact hw) ⟨.ref a,H,I,rfl,q⟩
def NX(K:PySem.W.Frag):V→Option Int→Option Int→Hp→VK→Prop:=fun x lo hi H Q=>NJ K x lo hi H Q∨(HZ K x lo hi H Q∨NO K x lo hi H Q)
theorem L5:zv X (NX X.K):=Ly.or (H_.or Hr)
theorem L6{K:PySem.W.Frag}{ρ:Nat→Addr}{c c':Qm.Cells}{H:Hp}{x d:Qm.D}{v:V}{lo hi:Option Int}{Q:VK}(rs:RS K ρ c H)(rx:RD K ρ c.length H x v)(e:Qm.dX x lo hi c=some (d,c'))(k:∀ba w H',Nx K ρ c H ba c' H'→RD K ba c'.length H' d w→Q w H'):NX K v lo hi H Q:=by
 unfold Qm.dX at e
 split at e
 ·rename_i xs
  cases e
  obtain⟨p,vs,rfl,h1,a1⟩:=rx.jM
  by_cases hw:HT.cq vs.length 0 lo=0∧HT.cq vs.length vs.length hi=vs.length
  ·refine .inr (.inl ⟨p,vs,rfl,cN.of h1,hw,?_⟩)
   have:nP vs lo hi=vs:=by
    unfold nP
    rw[hw.1,hw.2];simp
   have a2:=sU a1 lo hi
   rw[this]at a2
   exact k ρ _ H (Nx.refl rs) (.tup h1 a2)
  ·refine .inl ⟨p,vs,rfl,cN.of h1,hw,fun l hl=>?_⟩
   have n:=Nx.same rs (iR (z:=.tup (nP vs lo hi)) hl)
   exact k ρ _ _ n (.tup cS ((sU a1 lo hi).up n.up))
 ·rename_i x' fO
  obtain⟨xs,e1,e⟩:=aF e
  cases e
  rcases zL e1 with z|⟨n,z⟩
  ·exact absurd z (fO xs)
  ·subst z
   obtain⟨vs,rfl,h,a⟩:=rs.HS rx e1
   refine .inr (.inr ⟨_,vs,rfl,h,fun l hl=>?_⟩)
   obtain⟨n,r⟩:=Nx.alloc rs hl (sU a lo hi)
   exact k _ _ _ n r
theorem iS(he:QE X e fe)(hl:QO X lo fl)(hu:QO X hi fh):QE X (.Subscript e (.Slice lo hi none p2) pos) (Qm.kO Qm.dX fe fl fh):=(Fz L5 he hl hu).imp <| by
 rintro σ H Q ⟨ρ,env,c,d,c',rs,re,e,k⟩
 obtain⟨p,e1,e⟩:=aF e
 obtain⟨l,e2,e⟩:=aF e
 obtain⟨h,e3,e⟩:=aF e
 exact⟨ρ,env,c,p.1,p.2,rs,re,e1,fun aN v H1 n1 r1=>⟨aN,env,p.2,l.1,l.2,n1.rs,re.up n1.up,e2,fun jm H2 n2=>⟨jm,env,l.2,h.1,h.2,n2.rs,re.up (n1.trans n2).up,e3,fun zQ H3 n3=>
  L6 n3.rs ((r1.up n2.up).up n3.up) e fun ba w H' n r=>k ba w H' (n1.trans (n2.trans (n3.trans n))) r⟩⟩⟩
def Ia(K:PySem.W.Frag)(r:V→List V→Hp→VK→Prop)(g:Qm.D→Qm.FN):Prop:=∀ρ c H x ds d c' v vs Q,RS K ρ c H→RD K ρ c.length H x v→RA K ρ c.length H ds vs→g x ds c=some (d,c')→(∀ba w H',Nx K ρ c H ba c' H'→RD K ba c'.length H' d w→Q w H')→r v vs H Q
theorem Vt{K:PySem.W.Frag}{ρ:Nat→Addr}{c:Qm.Cells}{H:Hp}{x:Qm.D}{v:V}{z:Nat×List Qm.D}(rs:RS K ρ c H)(rx:RD K ρ c.length H x v)(e:Qm.bq x c=some z):OX K "list" v H:=by
 obtain⟨_,_,vs,rfl,h,_⟩:=rs.bq rx e
 exact .inl ⟨rfl,_,bU.of h⟩
theorem nE{name:Str}{id:String}{r:V→List V→Hp→VK→Prop}{g:Qm.D→Qm.FN}{o:Expr}{fo:Qm.XE}{f:Qm.XA}{apos bR:Pos}(slot:Slot "list" name id)(OZ:typeOf (.builtin id)=pure (.type "method_descriptor"))(hm:Hs X id r)(hl:Ia X.K r g)(ho:QE X o fo)(ha:QA X (e::es) f)
  (mN:attributeBase o name X.env (eval o X.env)=eval o X.env:=by rfl)
  (qS:((backTo bR (starEach (e::es) X.env)).all (fun x=>!x.1)&&(backToKw bR (keywordEach [] X.env)).all (fun x=>x.1.isSome)
   &&decide ((e::es).length+([]:List Keyword).length+(if ([]:List Keyword).isEmpty then 0 else 1)<30))=true:=by rfl)
  (mO:(apos.endLine==bR.line)=true:=by rfl)(hs:starEach (e::es) X.env=(false,eval e X.env)::starEach es X.env:=by rfl)(zw:(backTo bR (starEach es X.env)).any (·.1)=false:=by rfl):
  QE X (.Call (.Attribute o name apos) (e::es) [] bR) (Qm.eM g fo f):=(OY PySem.F.plainAttrs_list slot OZ hm ho ha mN qS mO hs zw).imp <| by
 rintro σ H Q ⟨ρ,env,c,d,c',rs,re,e,k⟩
 obtain⟨p,e1,e⟩:=aF e
 obtain⟨z,e2,e⟩:=aF e
 obtain⟨q,e3,e⟩:=aF e
 exact⟨ρ,env,c,p.1,p.2,rs,re,e1,fun aN v H1 n1 r1=>⟨Vt n1.rs r1 e2,aN,env,p.2,q.1,q.2,n1.rs,re.up n1.up,e3,fun jm vs H2 n2 r2=>
  hl jm q.2 H2 p.1 q.1 d c' v vs Q n2.rs (r1.up n2.up) r2 e fun ba w H' n r=>k ba w H' (n1.trans (n2.trans n)) r⟩⟩
theorem hC{K:PySem.W.Frag}:Ia K A7 Qm.b8:=by
 intro ρ c H x ds d c' v vs Q rs rx ra e k
 unfold Qm.b8 Qm.one at e
 split at e
 ·rename_i y
  obtain⟨l,e1,e⟩:=aF e
  obtain⟨u,rfl,ry⟩:=ra.iJ
  split at e
  ·rename_i hz
   cases e
   obtain⟨_,hn,ws,rfl,h,a⟩:=rs.bq rx e1
   have n:=Nx.put rs hn (a.append (RA.one ry))
   exact⟨_,ws,u,rfl,rfl,h,rh (by rw[←a.length];exact hz),k ρ _ _ n .bG⟩
  ·cases e
 ·cases e
theorem wo{K:PySem.W.Frag}:Ia K A_ Qm.e_:=by
 intro ρ c H x ds d c' v vs Q rs rx ra e k
 unfold Qm.e_ Qm.one at e
 split at e
 ·rename_i y
  obtain⟨l,e1,e⟩:=aF e
  obtain⟨z,e2,e⟩:=aF e
  obtain⟨u,rfl,ry⟩:=ra.iJ
  split at e
  ·rename_i hz
   cases e
   obtain⟨_,hn,ws,rfl,h,a⟩:=rs.bq rx e1
   obtain⟨_,So,us,rfl,h2,a2⟩:=rs.bq ry e2
   have n:=Nx.put rs hn (a.append a2)
   exact⟨_,_,ws,us,rfl,rfl,h,h2,ml (by rw[←a.length,←a2.length];exact hz),k ρ _ _ n .bG⟩
  ·cases e
 ·cases e
theorem ja{g:Qm.G1}{ds:List Qm.D}{c:Qm.Cells}{z}(h:Qm.one g ds c=some z):∃x,ds=[x]∧g x c=some z:=by
 unfold Qm.one at h
 split at h
 ·exact⟨_,rfl,h⟩
 ·cases h
theorem L7{g:Qm.G2}{ds:List Qm.D}{c:Qm.Cells}{z}(h:Qm.two g ds c=some z):∃x y,ds=[x,y]∧g x y c=some z:=by
 unfold Qm.two at h
 split at h
 ·exact⟨_,_,rfl,h⟩
 ·cases h
theorem mV{K:PySem.W.Frag}:qr K (fun xs H Q=>∃i,xs=[.int i]∧Q (.int (if i<0 then -i else i)) H) Qm.mi:=by
 intro ρ c H ds d c' vs Q rs ra e k
 obtain⟨x,rfl,e⟩:=ja e
 obtain⟨v,rfl,rx⟩:=ra.iJ
 obtain⟨i,e1,e⟩:=aF e
 cases e
 cases jQ e1
 cases rx.ei
 exact⟨i,rfl,k ρ _ H (Nx.refl rs) (.int _)⟩
theorem dC{K:PySem.W.Frag}:qr K (fun xs H Q=>∃p ys,xs=[.ref p]∧(bU K H p ys∨cN K H p ys)∧Q (.int ys.length) H) Qm.bS:=by
 intro ρ c H ds d c' vs Q rs ra e k
 obtain⟨x,rfl,e⟩:=ja e
 obtain⟨v,rfl,rx⟩:=ra.iJ
 obtain⟨xs,e1,e⟩:=aF e
 cases e
 obtain⟨p,ws,rfl,h,a⟩:=rs.seq rx e1
 exact⟨p,ws,rfl,h.imp id cN.of,k ρ _ H (Nx.refl rs) (by rw[a.length];exact .int _)⟩
theorem Ib{K:PySem.W.Frag}:qr K (fun xs H Q=>(∃i,xs=[.int i]∧Q (.int i) H)∨∃k,xs=[.bl k]∧Q (.int (if k then 1 else 0)) H) Qm.Em:=by
 intro ρ c H ds d c' vs Q rs ra e k
 obtain⟨x,rfl,e'⟩:=ja e
 obtain⟨v,rfl,rx⟩:=ra.iJ
 split at e'
 ·cases e'
  cases rx.ei
  exact .inl ⟨_,rfl,k ρ _ H (Nx.refl rs) (.int _)⟩
 ·cases e'
  cases rx.nV
  exact .inr ⟨_,rfl,k ρ _ H (Nx.refl rs) (.int _)⟩
 ·cases e'
theorem Ic{K:PySem.W.Frag}:qr K (fun xs H Q=>∃p ys,xs=[.ref p]∧(bU K H p ys∨cN K H p ys)∧∀l,H l=none→Q (.ref l) (upd H l (.lst ys))) Qm.zJ:=by
 intro ρ c H ds d c' vs Q rs ra e k
 obtain⟨x,rfl,e⟩:=ja e
 obtain⟨v,rfl,rx⟩:=ra.iJ
 obtain⟨xs,e1,e⟩:=aF e
 cases e
 obtain⟨p,ws,rfl,h,a⟩:=rs.seq rx e1
 refine⟨p,ws,rfl,h.imp id cN.of,fun l hl=>?_⟩
 obtain⟨n,r⟩:=Nx.alloc rs hl a
 exact k _ _ _ n r
end
end L2
namespace L2
open PySem PySem.Spec PyProof.Rows
section
variable{X:Cx}{a b e tg:Expr}{es:List Expr}{fa fb fc fe:Qm.XE}{ft fu:Qm.XT}{pos:Pos}{st:Stmt}{rest:List Stmt}{fs fr:Qm.XS}{fg:Qm.XG}
theorem bc:x8 X [] Qm.bF:=GZ.imp <| by
 rintro D σ H ⟨ρ,env,c,fl,cH,c',rs,re,e,k⟩
 cases e
 exact k ρ H (Nx.refl rs) σ re
theorem ak(h1:QS X st fs)(h2:x8 X rest fr):x8 X (st::rest) (Qm.ay fs fr):=(Fp h1 h2).imp <| by
 rintro D σ H ⟨ρ,env,c,fl,cH,c',rs,re,e,k⟩
 obtain⟨p,e1,e⟩:=aF e
 obtain⟨f,e2,c2⟩:=p
 cases f with
 |nx=>exact⟨ρ,env,c,.nx,e2,c2,rs,re,e1,fun aN H1 n1 σ1 uS=>⟨aN,e2,c2,fl,cH,c',n1.rs,uS,e,fun ba H' n=>k ba H' (n1.trans n)⟩⟩
 |rt d=>cases e;exact⟨ρ,env,c,.rt d,cH,c',rs,re,e1,fun aN H1 n1=>k aN H1 n1⟩
 |bk=>cases e;exact⟨ρ,env,c,.bk,cH,c',rs,re,e1,fun aN H1 n1=>k aN H1 n1⟩
 |ct=>cases e;exact⟨ρ,env,c,.ct,cH,c',rs,re,e1,fun aN H1 n1=>k aN H1 n1⟩
theorem aq(h1:QS X st fs):x8 X [st] fs:=G0 h1
theorem fU(he:QE X e fe)(hs:swapsWith e none pos.line X.env=pure false:=by rfl):QS X (.Expr e pos) (Qm.cO fe):=(G3 he hs).imp <| by
 rintro D σ H ⟨ρ,env,c,fl,cH,c',rs,re,e,k⟩
 obtain⟨p,e1,e⟩:=aF e
 cases e
 exact⟨ρ,env,c,p.1,p.2,rs,re,e1,fun aN v H1 n1 _=>k aN H1 n1 σ (re.up n1.up)⟩
theorem aD(he:QE X e fe):QS X (.Return (some e) pos) (Qm.aS fe):=(K_ he).imp <| by
 rintro D σ H ⟨ρ,env,c,fl,cH,c',rs,re,e,k⟩
 obtain⟨p,e1,e⟩:=aF e
 cases e
 exact⟨ρ,env,c,p.1,p.2,rs,re,e1,fun aN v H1 n1 r1=>k aN H1 n1 v r1⟩
theorem bV{c0:Expr}{x y:List Stmt}(hc:QT X c0 ft)(ha:x8 X x fs)(hb:x8 X y fr):QS X (.If c0 x y pos) (Qm.cG ft fs fr):=(Oz hc ha hb).imp <| by
 rintro D σ H ⟨ρ,env,c,fl,cH,c',rs,re,e,k⟩
 obtain⟨p,e1,e⟩:=aF e
 refine⟨ρ,env,c,p.1,p.2,rs,re,e1,fun aN H1 n1=>?_⟩
 split at e
 ·rename_i hi
  rw[if_pos hi]
  exact⟨aN,env,p.2,fl,cH,c',n1.rs,re.up n1.up,e,fun ba H' n=>k ba H' (n1.trans n)⟩
 ·rename_i hi
  rw[if_neg hi]
  exact⟨aN,env,p.2,fl,cH,c',n1.rs,re.up n1.up,e,fun ba H' n=>k ba H' (n1.trans n)⟩
theorem aP{i:Nat}{x:Str}{pos':Pos}(hN:X.N.Nodup)(hi:X.N[i]? =some x)(hx:Loc X.env.scope x)(he:QE X e fe)(hs:swapsWith e (some (.Name x pos')) pos.line X.env=pure false:=by rfl)(hf:X.fn x=true∨X.env.scope.names.lookup x=some .local:=by first|exact .inl rfl|exact .inr rfl|assumption):
  QS X (.Assign [.Name x pos'] e pos) (Qm.aR i fe):=(Ld hN hi hx he hs hf).imp <| by
 rintro D σ H ⟨ρ,env,c,fl,cH,c',rs,re,e,k⟩
 obtain⟨p,e1,e⟩:=aF e
 cases e
 exact⟨ρ,env,c,p.1,p.2,rs,re,e1,fun aN v H1 n1 r1=>k aN H1 n1 _ ((re.up n1.up).set r1)⟩
theorem oT(he:QE X e fe)(hg:QG X tg fg)(hs:swapsWithSole [tg] e pos.line X.env=pure false:=by rfl)(hw:swappedStores [tg] e X.env=pure none:=by rfl)
  (h1:(assignEach [tg] X.env).map (·.2)=[assign tg X.env]:=by rfl):QS X (.Assign [tg] e pos) (Qm.mf fe fg):=(Lc he hg hs hw h1).imp <| by
 rintro D σ H ⟨ρ,env,c,fl,cH,c',rs,re,e,k⟩
 obtain⟨p,e1,e⟩:=aF e
 obtain⟨q,e2,e⟩:=aF e
 cases e
 exact⟨ρ,env,c,p.1,p.2,rs,re,e1,fun aN v H1 n1 r1=>⟨aN,env,p.2,p.1,q.1,q.2,n1.rs,re.up n1.up,r1,e2,fun ba H' σ' n Pw=>k ba H' (n1.trans n) σ' Pw⟩⟩
theorem nY{i j:Nat}{x y:Str}{f:Qm.XA}{px py pt:Pos}{kt k2 CH}(hc:X.calm=true)(hN:X.N.Nodup)(hi:X.N[i]? =some x)(hj:X.N[j]? =some y)(zq:i≠j)
  (hx:X.env.scope.names.lookup x=some .local)(hy:X.env.scope.names.lookup y=some .local)(ha:QA X [a,b] f)
  (hw:swappedStores [.Tuple [.Name x px,.Name y py] kt pt] (.Tuple [a,b] k2 CH) X.env=pure (some [x,y]))
  (hs:swapsWithSole [.Tuple [.Name x px,.Name y py] kt pt] (.Tuple [a,b] k2 CH) pos.line X.env=pure false:=by rfl):
  QS X (.Assign [.Tuple [.Name x px,.Name y py] kt pt] (.Tuple [a,b] k2 CH) pos) (Qm.qY [i,j] f):=(Le hc hN hi hj zq hx hy ha hw hs).imp <| by
 rintro D σ H ⟨ρ,env,c,fl,cH,c',rs,re,e,k⟩
 obtain⟨p,e1,e⟩:=aF e
 split at e
 ·rename_i hl
  cases e
  refine⟨ρ,env,c,p.1,p.2,rs,re,e1,fun aN vs H1 n1 r1=>?_⟩
  obtain⟨ds,c2⟩:=p
  match ds,hl,r1 with
  |[d1,d2],_,r1=>
   obtain⟨v,u,rfl,ra,rb⟩:=r1.uc
   exact⟨v,u,rfl,k aN H1 n1 _ (((re.up n1.up).set ra).set rb)⟩
 ·cases e
theorem aT{i:Nat}{x:Str}(hN:X.N.Nodup)(hi:X.N[i]? =some x)(hx:Loc X.env.scope x)(hf:X.fn x=true∨X.env.scope.names.lookup x=some .local:=by first|exact .inl rfl|exact .inr rfl|assumption):QG X (.Name x pos) (Qm.av i):=(AM hN hi hx hf).imp <| by
 rintro v σ H Q ⟨ρ,env,c,d,cH,c',rs,re,rd,e,k⟩
 cases e
 exact k ρ H _ (Nx.refl rs) (re.set rd)
theorem fV:L0 X [] Qm.cZ:=G5.imp <| by
 rintro vs σ H Q ⟨ρ,env,c,ds,cH,c',rs,re,ra,e,k⟩
 unfold Qm.cZ at e
 split at e
 ·cases e
  exact⟨ra.SK,k ρ H σ (Nx.refl rs) re⟩
 ·cases e
theorem bM{Ie:Qm.xZ}(h1:QG X e fg)(h2:L0 X es Ie)(hs:(assignEach (e::es) X.env).map (·.2)=assign e X.env::(assignEach es X.env).map (·.2):=by rfl):L0 X (e::es) (Qm.aQ fg Ie):=(Fq h1 h2 hs).imp <| by
 rintro vs σ H Q ⟨ρ,env,c,ds,cH,c',rs,re,ra,e,k⟩
 unfold Qm.aQ at e
 split at e
 ·rename_i d t
  obtain⟨p,e1,e⟩:=aF e
  cases ra with
  |cons r1 r2=>
   exact⟨_,_,rfl,ρ,env,c,d,p.1,p.2,rs,re,r1,e1,fun aN H1 σ1 n1 uS=>⟨aN,p.1,p.2,t,cH,c',n1.rs,uS,r2.up n1.up,e,fun ba H' σ' n Pw=>k ba H' σ' (n1.trans n) Pw⟩⟩
 ·cases e
theorem iw{k0:Nat}{Ie:Qm.xZ}{n:Nat}(hc:X.calm=true)(h:L0 X es Ie)(hn:(assignEach es X.env).length=n:=by rfl)(vL:(assignEach es X.env).findIdx? (·.1)=none:=by rfl):QG X (.Tuple es k0 pos) (Qm.c_ n Ie):=(La hc h hn vL).imp <| by
 rintro v σ H Q ⟨ρ,env,c,d,cH,c',rs,re,rd,e,k⟩
 unfold Qm.c_ at e
 split at e
 ·rename_i xs
  split at e
  ·rename_i hl
   obtain⟨p,vs,rfl,h1,a1⟩:=rd.jM
   exact⟨p,vs,rfl,cN.of h1,by rw[←a1.length];exact hl,ρ,env,c,xs,cH,c',rs,re,a1,e,k⟩
  ·cases e
 ·cases e
theorem L8{o i:Expr}{fo fi:Qm.XE}(ho:QE X o fo)(hi:QE X i fi)
  (ha:∀v,assign (.Subscript o i pos) X.env v=(do
   let ov ←holding [v] (eval o X.env)
   let iv ←holding [v,ov] (eval i X.env)
   standAt pos
   holding [v,ov,iv] (setItem ov iv v)
   release [v,ov,iv] []):=by intro _;rfl):QG X (.Subscript o i pos) (Qm.HP fo fi):=(Lb ho hi set_list ha).imp <| by
 rintro v σ H Q ⟨ρ,env,c,d,cH,c',rs,re,rd,e,k⟩
 obtain⟨p,e1,e⟩:=aF e
 obtain⟨q,e2,e⟩:=aF e
 obtain⟨l,e3,e⟩:=aF e
 obtain⟨m,e4,e⟩:=aF e
 obtain⟨j,e5,e⟩:=aF e
 cases e
 refine⟨ρ,env,c,p.1,p.2,rs,re,e1,fun aN v1 H1 n1 r1=>⟨aN,env,p.2,q.1,q.2,n1.rs,re.up n1.up,e2,fun jm v2 H2 n2 r2=>?_⟩⟩
 rw[jQ e4]at r2
 cases r2.ei
 obtain⟨_,hn,ws,rfl,h,a⟩:=n2.rs.bq (r1.up n2.up) e3
 have n:=Nx.put n2.rs hn (RA.set (rd.up (n1.trans n2).up) j a)
 refine⟨_,ws,m,j,rfl,rfl,h,by rw[←a.length];exact e5,?_⟩
 exact k jm _ σ (n1.trans (n2.trans n)) (re.up (n1.trans (n2.trans n)).up)
theorem vj(h:QE X e fe):QI X tg e (Qm.nC fe):=(Li h).imp <| by
 rintro σ H R ⟨ρ,env,c,m,c',rs,re,e,k⟩
 obtain⟨p,e1,e⟩:=aF e
 refine⟨ρ,env,c,p.1,p.2,rs,re,e1,fun aN v H1 n1 r1=>?_⟩
 split at e
 ·rename_i xs hx
  cases e
  rw[hx]at r1
  obtain⟨q,vs,rfl,h1,a1⟩:=r1.jM
  refine⟨q,rfl,⟨vs,cN.of h1⟩,k aN _ H1 n1 fun jm c2 H2 u2 pH _=>?_⟩
  have h2:=u2.ts _ _ h1
  have a2:=a1.up u2
  refine⟨fun i hi=>⟨vs,vs[i]'(by rw[←a1.length];exact hi),cN.of h2,List.getElem?_eq_getElem _⟩,⟨vs,cN.of h2,by rw[a1.length];exact Nat.le_refl _⟩,fun i d x H' hd hy=>?_⟩
  obtain⟨rfl,hy⟩:=hy
  obtain⟨v,hv,rv⟩:=a2.get hd
  have:=hy vs (cN.of h2)
  rw[hv]at this;cases this
  exact⟨Nx.refl pH,rv⟩
 ·cases e
theorem pR{K:PySem.W.Frag}{ρ:Nat→Addr}{c:Qm.Cells}{H:Hp}(rs:RS K ρ c H){n:Nat}{z:Qm.Cell}{c0:Qm.Cells}{xs:List Qm.D}(h0:c0[n]? =some z)(h1:Qm.b7 (.ref n) c0=some xs)(h:c[n]? =some z):∃vs,bU K H (ρ n) vs∧RA K ρ c.length H xs vs:=by
 have hn:n<c.length:=(List.getElem?_eq_some_iff.mp h).1
 have e:Qm.b7 (.ref n) c=some xs:=by
  unfold Qm.b7 at h1 ⊢
  dsimp only at h1 ⊢
  rw[h0]at h1;rw[h];exact h1
 obtain⟨vs,_,h2,h3⟩:=rs.HS (.ref hn) e
 exact⟨vs,h2,h3⟩
theorem iy(h:QE X e fe):QI X tg e (Qm.eE fe):=(G7 h).imp <| by
 rintro σ H R ⟨ρ,env,c,m,c',rs,re,e,k⟩
 obtain⟨p,e1,e⟩:=aF e
 refine⟨ρ,env,c,p.1,p.2,rs,re,e1,fun aN v H1 n1 r1=>?_⟩
 split at e
 ·rename_i n hx
  obtain⟨z,e2,e⟩:=aF e
  obtain⟨xs,e3,e⟩:=aF e
  cases e
  rw[hx]at r1
  obtain⟨hv,hn⟩:=r1.k_
  subst hv
  obtain⟨vs,h1,a1⟩:=pR n1.rs e2 e3 e2
  refine⟨_,rfl,⟨vs,h1⟩,k aN _ H1 n1 fun jm c2 H2 u2 pH mL=>?_⟩
  obtain⟨ws,h2,a2⟩:=pR pH e2 e3 (mL (n,z) (by simp))
  rw[u2.agree n hn]at h2
  refine⟨fun i hi=>⟨ws,ws[i]'(by rw[←a2.length];exact hi),h2,List.getElem?_eq_getElem _⟩,⟨ws,h2,by rw[a2.length];exact Nat.le_refl _⟩,fun i d x H' hd hy=>?_⟩
  obtain⟨rfl,hy⟩:=hy
  obtain⟨v,hv,rv⟩:=a2.get hd
  have:=hy ws h2
  rw[hv]at this;cases this
  exact⟨Nx.refl pH,rv⟩
 ·cases e
theorem Ig{lo:Int}{n i:Nat}{d:Qm.D}(h:(Qm.dQ lo n)[i]? =some d):i<n∧d= .int (lo+i):=by
 unfold Qm.dQ at h
 rw[List.getElem?_map]at h
 by_cases hi:i<n
 ·rw[List.getElem?_range hi]at h
  cases h
  exact⟨hi,rfl⟩
 ·rw[List.getElem?_eq_none_iff.mpr (by simpa using Nat.le_of_not_lt hi)]at h
  cases h
theorem L9{K:PySem.W.Frag}{ρ:Nat→Addr}{N:Nat}{H:Hp}{lo:Int}{n:Nat}:HU K ρ N H ⟨Qm.dQ lo n,[]⟩ (Lh lo n):=fun ρ c H u rs _=>by
 have hl:(Qm.dQ lo n).length=n:=by simp[Qm.dQ]
 refine⟨fun i hi=>by show i<n;rw[←hl];exact hi,by show n≤(Qm.dQ lo n).length;omega,fun i d x H' hd hy=>?_⟩
 obtain⟨rfl,rfl⟩:=hy
 obtain⟨_,rfl⟩:=Ig hd
 exact⟨Nx.refl rs,.int _⟩
theorem iT{f:Qm.XA}{p:Pos}(hg:Gl X "range")(hm:X.mg "range" =none)(ha:QA X [a] f)(hs:starEach [a] X.env=[(false,eval a X.env)]:=by rfl):QI X tg (.Call (.Name "range" p) [a] [] pos) (Qm.eu f):=(CJ hg hm ha hs).imp <| by
 rintro σ H R ⟨ρ,env,c,m,c',rs,re,e,k⟩
 obtain⟨p,e1,e⟩:=aF e
 refine⟨ρ,env,c,p.1,p.2,rs,re,e1,fun aN vs H1 n1 r1=>?_⟩
 split at e
 ·rename_i j hj
  split at e
  ·rename_i hb
   cases e
   rw[hj]at r1
   obtain⟨v,rfl,rv⟩:=r1.iJ
   cases rv.ei
   exact⟨j,rfl,hb.1,hb.2,k aN _ H1 n1 L9⟩
  ·cases e
 ·cases e
theorem er{body:List Stmt}{fi:Qm.XI}(hp:PassesOwn (model X.prog X.w) X.A X.env X.xe)(hc:X.calm=true)(hi:QI X tg e fi)(hg:QG X tg fg)(hb:x8 X body fs)
  (hs:∀x,foldedSetIterable e X.env x=pure x:=by intro _;rfl):QS X (.For tg e body [] pos) (Qm.dO fi fg fs):=(Lj hp hc hi hg hb hs).imp <| by
 rintro D σ H ⟨ρ,env,c,fl,cH,c',rs,re,e,k⟩
 obtain⟨m,e1,e⟩:=aF e
 refine⟨ρ,env,c,m.1,m.2,rs,re,e1,fun C_ J H0 n0 it=>?_⟩
 refine⟨fun i q σ' H'=>q=m.1.ds.length - i∧i≤m.1.ds.length∧∃aN fI c1,Nx X.K C_ m.2 H0 aN c1 H'∧RE X.K aN c1.length H' fI σ'∧Qm.gD m.1.ks fg fs (m.1.ds.drop i) fI c1=some (fl,cH,c'),⟨_,rfl,Nat.zero_le _,C_,env,m.2,Nx.refl n0.rs,re.up n0.up,e⟩,?_⟩
 rintro i q σ1 H1 ⟨rfl,hi,aN,fI,c1,n1,uS,e1⟩
 by_cases fB:i<m.1.ds.length
 ·rw[List.drop_eq_getElem_cons fB]at e1
  unfold Qm.gD at e1
  split at e1
  ·rename_i vL
   obtain⟨go,_,yl⟩:=it aN c1 H1 n1.up n1.rs vL
   obtain⟨p,e2,e1⟩:=aF e1
   obtain⟨q,e3,e1⟩:=aF e1
   refine .inr ⟨go i fB,fun σ' H'=>i+1≤m.1.ds.length∧∃aN fI c1,Nx X.K C_ m.2 H0 aN c1 H'∧RE X.K aN c1.length H' fI σ'∧Qm.gD m.1.ks fg fs (m.1.ds.drop (i+1)) fI c1=some (fl,cH,c'),fun σ' H' h=>⟨m.1.ds.length - (i+1),by omega,rfl,h⟩,fun x H2 hy=>?_⟩
   obtain⟨n2,r2⟩:=yl i _ x H2 (List.getElem?_eq_getElem fB) hy
   refine⟨aN,fI,c1,_,p.1,p.2,n2.rs,uS.up n2.up,r2,e2,fun zQ H3 sN n3 FQ=>?_⟩
   obtain⟨f,wq,c4⟩:=q
   refine⟨zQ,p.1,p.2,f,wq,c4,n3.rs,FQ,e3,fun uT H4 n4=>?_⟩
   have nn:=n1.trans (n2.trans (n3.trans n4))
   cases f with
   |nx=>exact fun Dc wt=>⟨fB,uT,wq,c4,nn,wt,e1⟩
   |ct=>exact fun Dc wt=>⟨fB,uT,wq,c4,nn,wt,e1⟩
   |bk=>cases e1;exact fun Dc wt=>k uT H4 (n0.trans nn) Dc wt
   |rt d=>cases e1;exact fun v rv=>k uT H4 (n0.trans nn) v rv
  ·cases e1
 ·have Dd:i=m.1.ds.length:=by omega
  subst Dd
  rw[List.drop_length]at e1
  unfold Qm.gD at e1
  split at e1
  ·rename_i vL
   obtain⟨_,stop,_⟩:=it aN c1 H1 n1.up n1.rs vL
   cases e1
   exact .inl ⟨stop,k aN H1 (n0.trans n1) σ1 uS⟩
  ·cases e1
theorem j9{c0:Expr}{body:List Stmt}(hp:PassesOwn (model X.prog X.w) X.A X.env X.xe)(hc:QT X c0 ft)(hb:x8 X body fs):QS X (.While c0 body [] pos) (Qm.cX ft fs):=(Fs hp hc hb).imp <| by
 rintro D σ H ⟨ρ,env,c,fl,cH,c',rs,re,e,k⟩
 obtain⟨n,e⟩:=Qm.wm e
 refine⟨fun q σ' H'=>∃aN fI c1,Nx X.K ρ c H aN c1 H'∧RE X.K aN c1.length H' fI σ'∧Qm.jk ft fs q fI c1=some (fl,cH,c'),⟨n,ρ,env,c,Nx.refl rs,re,e⟩,?_⟩
 rintro q σ1 H1 ⟨aN,fI,c1,n1,uS,e1⟩
 cases q with
 |zero=>simp[Qm.jk]at e1
 |succ q=>
  simp only[Qm.jk]at e1
  obtain⟨p,e2,e1⟩:=aF e1
  refine⟨aN,fI,c1,p.1,p.2,n1.rs,uS,e2,fun jm H2 n2=>?_⟩
  split at e1
  ·rename_i hi
   rw[if_pos hi]
   obtain⟨r,e3,e1⟩:=aF e1
   refine⟨fun σ' H'=>∃aN fI c1,Nx X.K ρ c H aN c1 H'∧RE X.K aN c1.length H' fI σ'∧Qm.jk ft fs q fI c1=some (fl,cH,c'),fun σ' H' h=>⟨q,Nat.lt_succ_self _,h⟩,?_⟩
   obtain⟨f,wq,c4⟩:=r
   refine⟨jm,fI,p.2,f,wq,c4,n2.rs,uS.up n2.up,e3,fun uT H4 n4=>?_⟩
   have nn:=n1.trans (n2.trans n4)
   cases f with
   |nx=>exact fun Dc wt=>⟨uT,wq,c4,nn,wt,e1⟩
   |ct=>exact fun Dc wt=>⟨uT,wq,c4,nn,wt,e1⟩
   |bk=>cases e1;exact fun Dc wt=>k uT H4 nn Dc wt
   |rt d=>cases e1;exact fun v rv=>k uT H4 nn v rv
  ·rename_i hi
   rw[if_neg hi]
   cases e1
   exact k jm H2 (n1.trans n2) σ1 (uS.up n2.up)
theorem dH:HV X [] Qm.dN:=FO.imp <| by
 rintro σ H Q ⟨ρ,env,c,b,c',rs,re,e,k⟩
 cases e
 exact k ρ H (Nx.refl rs)
theorem RE.uQ{K:PySem.W.Frag}{ρ:Nat→Addr}{N:Nat}{H:Hp}{env:Qm.Env}{σ:St}(re:RE K ρ N H env σ)(cap:List (Option Nat)):RE K ρ N H (Qm.nU env cap) (uQ σ cap):=by
 refine⟨by simp[Qm.nU,L2.uQ],fun j d h=>?_⟩
 unfold Qm.nU at h
 unfold L2.uQ
 rw[List.getElem?_map]at h ⊢
 cases e:cap[j]? with
 |none=>rw[e]at h;cases h
 |some o=>
  rw[e]at h
  cases o with
  |none=>simp at h
  |some i=>
   simp only[Option.map_some,Option.some.injEq]at h
   cases e2:env[i]? with
   |none=>rw[e2]at h;cases h
   |some w=>
    rw[e2]at h
    have h':w=some d:=h
    subst h'
    obtain⟨v,h1,h2⟩:=re.at_ i d e2
    refine⟨v,?_,h2⟩
    simp[h1]
theorem Bp{K:PySem.W.Frag}{fi:Qm.XI}{cap:List (Option Nat)}{σ:St}{H:Hp}{Q:VK}(h:TQ K (Qm.df fi cap fg ft fe) σ H Q):C8 (IQ K fi) cap (GQ K fg) (BQ K ft) (TQ K fe) σ H Q:=by
 obtain⟨ρ,env,c,d,c',rs,re,e,k⟩:=h
 obtain⟨m,e1,e⟩:=aF e
 obtain⟨cz,e2,e⟩:=aF e
 cases e
 refine⟨ρ,env,c,m.1,m.2,rs,re,e1,fun C_ J H0 n0 it l hl=>?_⟩
 obtain⟨na,ra⟩:=Nx.alloc n0.rs hl (ds:=[]) (vs:=[]) .nil
 generalize Vu:(fun n=>if n=m.2.length then l else C_ n)=Ih at na ra
 have hL:Ih m.2.length=l:=by rw[←Vu];simp
 have hlen:(m.2++[Qm.Cell.lst []]).length=m.2.length+1:=by simp
 have fin:∀{aN:Nat→Addr}{c1:Qm.Cells}{H1:Hp},Nx K Ih (m.2++[.lst []]) (upd H0 l (.lst [])) aN c1 H1→aN m.2.length=l:=fun n=>by rw[n.up.agree _ (by rw[hlen];omega),hL]
 refine⟨fun i q τ H'=>q=m.1.ds.length - i∧i≤m.1.ds.length∧∃aN fI c1,Nx K Ih (m.2++[.lst []]) (upd H0 l (.lst [])) aN c1 H'∧RE K aN c1.length H' fI τ∧Qm.eo m.2.length m.1.ks fg ft fe (m.1.ds.drop i) fI c1=some c',
  ⟨_,rfl,Nat.zero_le _,Ih,_,_,Nx.refl na.rs,((re.up n0.up).up na.up).uQ cap,e2⟩,?_⟩
 rintro i q τ H1 ⟨rfl,hi,aN,fI,c1,n1,uS,e1⟩
 have SS:=it aN c1 H1 (na.up.trans n1.up) n1.rs
 by_cases fB:i<m.1.ds.length
 ·rw[List.drop_eq_getElem_cons fB]at e1
  unfold Qm.eo at e1
  split at e1
  ·rename_i vL
   obtain⟨go,_,yl⟩:=SS vL
   obtain⟨p,e2,e1⟩:=aF e1
   obtain⟨b,e3,e1⟩:=aF e1
   refine .inr ⟨go i fB,fun τ H'=>i+1≤m.1.ds.length∧∃aN fI c1,Nx K Ih (m.2++[.lst []]) (upd H0 l (.lst [])) aN c1 H'∧RE K aN c1.length H' fI τ∧Qm.eo m.2.length m.1.ks fg ft fe (m.1.ds.drop (i+1)) fI c1=some c',fun σ' H' h=>⟨m.1.ds.length - (i+1),by omega,rfl,h⟩,fun x H2 hy=>?_⟩
   obtain⟨n2,r2⟩:=yl i _ x H2 (List.getElem?_eq_getElem fB) hy
   refine⟨aN,fI,c1,_,p.1,p.2,n2.rs,uS.up n2.up,r2,e2,fun zQ H3 sN n3 FQ=>?_⟩
   refine⟨zQ,p.1,p.2,b.1,b.2,n3.rs,FQ,e3,fun uT H4 n4=>?_⟩
   have nn:=n1.trans (n2.trans (n3.trans n4))
   split at e1
   ·rename_i hb
    dsimp only
    rw[if_pos hb]
    obtain⟨y,e4,e1⟩:=aF e1
    refine⟨uT,p.1,b.2,y.1,y.2,n4.rs,FQ.up n4.up,e4,fun Vv yv H5 n5 r5=>?_⟩
    have Ii:=nn.trans n5
    split at e1
    ·rename_i ys kQ
     split at e1
     ·rename_i hz
      obtain⟨vs,h5,a5⟩:=Ii.rs.lst kQ
      rw[fin Ii]at h5
      have n6:=Nx.put Ii.rs kQ (a5.append (RA.one r5))
      rw[fin Ii]at n6
      refine⟨vs,h5,rh (by rw[←a5.length];exact hz),fB,Vv,p.1,_,Ii.trans n6,(FQ.up (n4.trans (n5.trans n6)).up),e1⟩
     ·cases e1
    ·cases e1
   ·rename_i hb
    dsimp only
    rw[if_neg hb]
    exact⟨fB,uT,p.1,b.2,nn,FQ.up n4.up,e1⟩
  ·cases e1
 ·have Dd:i=m.1.ds.length:=by omega
  subst Dd
  rw[List.drop_length]at e1
  unfold Qm.eo at e1
  split at e1
  ·rename_i vL
   obtain⟨_,stop,_⟩:=SS vL
   cases e1
   refine .inl ⟨stop,k aN _ H1 (n0.trans (na.trans n1)) ?_⟩
   rw[←fin n1]
   exact .ref (Nat.lt_of_lt_of_le (by rw[hlen];omega) n1.up.len)
  ·cases e1
theorem kx{tg:Expr}{scope:Scope}{N':List Str}{cap:List (Option Nat)}{ifs:List Expr}{fi:Qm.XI}(B:ql X scope N' cap)(hc:X.calm=true)
  (hi:QI X tg b fi)(hg:∀C bE cQ fp,QG (X.jD scope C N' bE cQ fp) tg fg)(ht:∀C bE cQ fp,HV (X.jD scope C N' bE cQ fp) ifs ft)(he:∀C bE cQ fp,QE (X.jD scope C N' bE cQ fp) e fe)
  (hs:∀x,foldedSetIterable b X.env x=pure x:=by intro _;rfl):
  QE X (.ListComp e [⟨tg,b,ifs,0⟩] scope pos) (Qm.df fi cap fg ft fe):=(HM B hc hi hg ht he hs).imp fun _ _ _ h=>Bp h
theorem rC{i:Nat}{tg:Expr}{y:Str}{py Bl:Pos}{scope:Scope}{N':List Str}{cap:List (Option Nat)}{ifs:List Expr}{fi:Qm.XI}(B:ql X scope N' cap)(hc:X.calm=true)
  (hi:QI X tg b fi)(hg:∀C bE cQ fp,QG (X.jD scope C N' bE cQ fp) tg fg)(ht:∀C bE cQ fp,HV (X.jD scope C N' bE cQ fp) ifs ft)(he:∀C bE cQ fp,QE (X.jD scope C N' bE cQ fp) e fe)
  (hN:X.N.Nodup)(Pg:X.N[i]? =some y)(hy:Loc X.env.scope y)(Ph:swapsWith (.ListComp e [⟨tg,b,ifs,0⟩] scope pos) (some (.Name y py)) Bl.line X.env=pure true)
  (hf:X.fn y=true∨X.env.scope.names.lookup y=some .local:=by first|exact .inl rfl|exact .inr rfl|assumption)
  (hs:∀x,foldedSetIterable b X.env x=pure x:=by intro _;rfl):
  QS X (.Assign [.Name y py] (.ListComp e [⟨tg,b,ifs,0⟩] scope pos) Bl) (Qm.aR i (Qm.df fi cap fg ft fe)):=(HN B hc hi hg ht he hN Pg hy Ph hf hs).imp <| by
 rintro D σ H ⟨ρ,env,c,fl,cH,c',rs,re,e,k⟩
 obtain⟨p,e1,e⟩:=aF e
 cases e
 exact Bp ⟨ρ,env,c,p.1,p.2,rs,re,e1,fun aN v H1 n1 r1=>k aN H1 n1 _ ((re.up n1.up).set r1)⟩
theorem oU{K:PySem.W.Frag}{n:Nat}{N:List Str}{B:Qm.XS}{vs:List V}{H:Hp}{Q:VK}{E:XK}(hn:n≤N.length)(h:dq K (Qm.dW n N.length B) vs H Q E):vs.length=n∧SQ K B { nx:=fun _ H'=>Q .bG H',rt:=Q } (start N vs) H:=by
 obtain⟨ρ,c,ds,d,c',rs,ra,e,k⟩:=h
 unfold Qm.dW at e
 split at e
 ·rename_i hl
  obtain⟨p,e1,e⟩:=aF e
  obtain⟨f,cH,c2⟩:=p
  have hv:vs.length=n:=by rw[←ra.length];exact hl
  refine⟨hv,ρ,_,c,f,cH,c2,rs,⟨?_,fun i d hd=>?_⟩,e1,fun ba H' nx=>?_⟩
  ·simp[start,hl,hv]
  ·have hi:i<ds.length:=by
    by_cases hi:i<ds.length
    ·exact hi
    ·exfalso
     rw[List.getElem?_append_right (by simp;omega)]at hd
     have:=List.mem_of_getElem? hd
     have:=List.eq_of_mem_replicate this
     cases this
   rw[List.getElem?_append_left (by simpa using hi),List.getElem?_map]at hd
   cases e:ds[i]? with
   |none=>rw[e]at hd;cases hd
   |some d'=>
    rw[e]at hd
    cases hd
    obtain⟨v,h1,h2⟩:=ra.get e
    refine⟨v,?_,h2⟩
    unfold start
    rw[List.getElem?_append_left (by have:=ra.length;simp;omega),List.getElem?_map,h1]
    rfl
  ·cases f with
   |nx=>cases e;exact fun σ' _=>k ba .bG H' nx .bG
   |rt d=>cases e;exact fun v rv=>k ba v H' nx rv
   |bk=>cases e
   |ct=>cases e
 ·cases e
end
section
variable{P:Program}{w:World}{K:PySem.W.Frag}{mg:Str→Option Value}{base:Heap}
theorem Bc.eO{x qual:Str}{st:Stmt}{f:Addr}{fd:FuncData}{N ps:List Str}{k n m:Nat}{B:Qm.XS}{FF:Qm.FN}(F:Bc K x qual st f fd)(S:aL N ps (au st))(hn:ps.length=n)(hm:N.length=m)(hN:n≤m)(hF:FF=Qm.dW n m B)
  (mM:∀(bz:Value) (A:Around) (outer:List Env) (s:Shared) (H:Hp) (E:XK),fG k (A.deeper (envOfC qual (au st) s.heap.objs.size f bz))→
   x8 (qP cW P w K mg base N qual (au st) f bz A outer s H E).AK (dm st) B):bH P w K mg base cW (k+1) f fd ps (dq K FF):=by
 subst hm hF
 exact F.ok S (fun vs H Q E h=>by rw[(oU hN h).1,hn]) fun bz A outer s H vs Q E hr h=>⟨_,mM bz A outer s H E hr,(oU hN h).2⟩
theorem yj.eO{x qual:Str}{st:Stmt}{f:Addr}{fd:FuncData}{N ps:List Str}{k n m:Nat}{B:Qm.XS}{FF:Qm.FN}(F:yj K x qual st f fd)(S:aL N ps (au st))(hn:ps.length=n)(hm:N.length=m)(hN:n≤m)(hF:FF=Qm.dW n m B)
  (mM:∀(bz:Value) (A:Around) (outer:List Env) (s:Shared) (H:Hp) (E:XK),fG k (A.deeper (envOfC qual (au st) s.heap.objs.size f bz))→
   x8 (qP cW P w K mg base N qual (au st) f bz A outer s H E).AK (dm st) B):bH P w K mg base cW (k+1) f fd ps (dq K FF):=by
 subst hm hF
 exact F.ok S (fun vs H Q E h=>by rw[(oU hN h).1,hn]) fun bz A outer s H vs Q E hr h=>⟨_,mM bz A outer s H E hr,(oU hN h).2⟩
theorem L_{F:Qm.FN}{H:Hp}{a:Addr}{ns:List Int}(hO:Ba H)(hS:bU K H a (ns.map V.int)){c':Qm.Cells}(h:F [.ref 0] [.ro (ns.map Qm.D.int)]=some (.bl true,c')):dq K F [.ref a] H (fun v _=>v= .bl true) fun _ _ _=>False:=by
 have zs:∀ms:List Int,RA K (fun _=>a) 1 H (ms.map Qm.D.int) (ms.map V.int):=fun ms=>by
  induction ms with
  |nil=>exact .nil
  |cons m ms ih=>exact .cons (.int m) ih
 refine⟨fun _=>a,[.ro (ns.map Qm.D.int)],[.ref 0],.bl true,c',⟨fun i j z y h1 h2 m1 m2 _=>?_,fun n z hz=>?_⟩,.cons (.ref (by simp)) .nil,h,fun ba v H' n r=>r.nV⟩
 ·match i,h1 with
  |0,h1=>
   have:z= .ro (ns.map Qm.D.int):=by simpa using h1.symm
   subst this
   cases m1
  |i+1,h1=>simp at h1
 ·match n,hz with
  |0,hz=>
   have:z= .ro (ns.map Qm.D.int):=by simpa using hz.symm
   subst this
   exact⟨ns.map V.int,yp.of hO hS,zs ns⟩
  |n+1,hz=>simp at hz
end
end L2
namespace L2
open PySem PySem.Spec PyProof.Rows
section
variable{prog:Program}{w:World}{A:Around}{E:Value→Shared→Prop}{s:Shared}
theorem jo{it t:Addr}{i:Nat}{vs:Array Value}{x:Value}{Q:Value→Shared→Prop}(a:s.heap.IsTupleIter it t i)(b:s.heap.IsTuple t vs)(g:vs[i]? =some x)
  (k:∀h',h'.IsTupleIter it t (i+1)→Heap.SameBut it s.heap h'→Q x { s with heap:=h' }):wpAny (model prog w) A (Builtin.SmallTypes.nextOf (.ref it)) Q E s:=by
 obtain⟨o1,q1,q2,q3⟩:=id a
 obtain⟨o2,p1,_,m,p3⟩:=b
 unfold Builtin.SmallTypes.nextOf
 refine wpAny_bind (wpAny_callSpecial?_slot (name:=Str.ofString "__next__") a.typeIs F.slot_tuple_iterator_next
  (wpAny_call_entry F.slot_tuple_iterator_next a.typeIs F.entry_tuple_iterator_next ?_ (F.args_tuple_iterator_next_1 _)))
 show wpAny _ _ (field (Value.ref it) 0 >>= _) _ _ _
 refine wpAny_bind (wpAny_field q1 q3 (x:=.ref t) rfl ?_)
 show wpAny _ _ (ite ((Value.ref t==Value.none)=true) _ _) _ _ _
 rw[if_neg (by exact Bool.false_ne_true)]
 show wpAny _ _ (field (Value.ref it) 1 >>= _) _ _ _
 refine wpAny_bind (wpAny_field q1 q3 (x:=.int i 0) rfl ?_)
 show wpAny _ _ (seqItems? (Value.ref t) >>= _) _ _ _
 refine wpAny_bind (wpAny_seqItems p1 p3 ?_)
 simp only[Int.toNat_natCast,g]
 refine wpAny_bind (wpAny_setField q1 q3 (by simp) (wpAny_pure ⟨x,rfl,wpAny_pure (k _ ⟨_,Heap.get?_update_self _ q1 (Obj.isFreed_of_fields (Obj.data_mapFields q3 _)),(Obj.cls_mapFields ..).trans q2,?_⟩ (Heap.SameBut.update ..))⟩))
 rw[Obj.data_mapFields q3];simp[rawInt]
theorem iU{it t:Addr}{i:Nat}{vs:Array Value}{Q:Value→Shared→Prop}(hh:A.handled=none)(a:s.heap.IsTupleIter it t i)(b:s.heap.IsTuple t vs)(g:vs[i]? =none)
  (k:∀h' e,Heap.ExtBut it s.heap h'→(∃o,h'.get? e=some o∧o.cls= .type "StopIteration")→E (.ref e) { s with heap:=h' }):wpAny (model prog w) A (Builtin.SmallTypes.nextOf (.ref it)) Q E s:=by
 obtain⟨o1,q1,q2,q3⟩:=id a
 obtain⟨o2,p1,_,m,p3⟩:=b
 unfold Builtin.SmallTypes.nextOf
 refine wpAny_bind (wpAny_callSpecial?_slot (name:=Str.ofString "__next__") a.typeIs F.slot_tuple_iterator_next
  (wpAny_call_entry F.slot_tuple_iterator_next a.typeIs F.entry_tuple_iterator_next ?_ (F.args_tuple_iterator_next_1 _)))
 show wpAny _ _ (field (Value.ref it) 0 >>= _) _ _ _
 refine wpAny_bind (wpAny_field q1 q3 (x:=.ref t) rfl ?_)
 show wpAny _ _ (ite ((Value.ref t==Value.none)=true) _ _) _ _ _
 rw[if_neg (by exact Bool.false_ne_true)]
 show wpAny _ _ (field (Value.ref it) 1 >>= _) _ _ _
 refine wpAny_bind (wpAny_field q1 q3 (x:=.int i 0) rfl ?_)
 show wpAny _ _ (seqItems? (Value.ref t) >>= _) _ _ _
 refine wpAny_bind (wpAny_seqItems p1 p3 ?_)
 simp only[Int.toNat_natCast,g]
 refine wpAny_bind (wpAny_rule (wpAny_bind (wpAny_setField q1 q3 (by simp) (wpAny_bind (m:=newExc (.type "StopIteration") []) ?_))))
 simp only[newExc,newTuple]
 refine wpAny_bind (wpAny_newObj_type ?_ (by size_fits))
 refine wpAny_bind (m:=firstArgMember _ _) (wpAny_of_eq (a:=.none) (by first|rfl|(simp only[firstArgMember];rfl)) (wpAny_newObj_type ?_ (by size_fits)))
 simp only[raiseNew]
 refine wpAny_bind (wpAny_handled ?_)
 first|rw[show A.in1.handled=none from hh]|rw[hh]
 exact wpAny_bind (wpAny_pure (wpAny_throw (k _ _ (((Heap.SameBut.update ..).extBut.push _).push _) ⟨_,Heap.get?_push_size _ rfl,rfl⟩)))
def iK(h:Heap)(z TI TO:Addr)(f0 f1:Value):Prop:=h.get? z=some { cls:=.type "zip",dict:=none,data:=.fields #[f0,f1,.bool false,.ref TI,.ref TO],slots:=#[] }
def dj(h:Heap)(T:Addr)(a b:Value):Prop:=h.get? T=some { cls:=.type "tuple",data:=.seq #[a,b] }
structure jT(z TI TO i1 i2 t1 t2:Addr):Prop where
 nd: [z,TI,TO,i1,i2].Nodup
 n1:t1∉[z,TI,TO,i1,i2]
 n2:t2∉[z,TI,TO,i1,i2]
def Ij(h:Heap)(f0:Value):Prop:=f0= .none∨∃T o,f0=rawInt (T:Addr)∧h.get? T=some o
theorem jT.ne{z TI TO i1 i2 t1 t2:Addr}(D:jT z TI TO i1 i2 t1 t2):TI≠z∧TO≠z∧i1≠z∧i2≠z∧TI≠TO∧TI≠i1∧TI≠i2∧TO≠i1∧TO≠i2∧i1≠i2:=by
 have h:=D.nd
 simp only[List.nodup_cons,List.mem_cons,List.not_mem_nil,or_false,not_or]at h
 obtain⟨⟨a1,a2,a3,a4⟩,⟨b1,b2,b3⟩,⟨c1,c2⟩,d1,_⟩:=h
 exact⟨fun e=>a1 e.symm,fun e=>a2 e.symm,fun e=>a3 e.symm,fun e=>a4 e.symm,b1,b2,b3,c1,c2,d1⟩
theorem jT.Px{z TI TO i1 i2 t1 t2:Addr}(D:jT z TI TO i1 i2 t1 t2):(t1≠z∧t1≠TO∧t1≠i1∧t1≠i2)∧(t2≠z∧t2≠TO∧t2≠i1∧t2≠i2):=by
 have h1:=D.n1
 have h2:=D.n2
 simp only[List.mem_cons,List.not_mem_nil,or_false,not_or]at h1 h2
 exact⟨⟨h1.1,h1.2.2.1,h1.2.2.2.1,h1.2.2.2.2⟩,h2.1,h2.2.2.1,h2.2.2.2.1,h2.2.2.2.2⟩
theorem sV{T:Addr}{a b x:Value}{k:Nat}{Q:Unit→Shared→Prop}(g:dj s.heap T a b)
  (q:∀h',h'.get? T=some { cls:=.type "tuple",data:=.seq ((#[a,b]:Array Value).setIfInBounds k x) }→Heap.SameBut T s.heap h'→Q () { s with heap:=h' }):
  wpAny (model prog w) A (updateSeq T (·.setIfInBounds k x)) Q E s:=by
 refine wpAny_updateSeq g rfl (q _ ?_ (Heap.SameBut.update ..))
 rw[Heap.get?_update_self _ g rfl]
 simp[Obj.mapSeq]
structure Ik(h h':Heap)(z TI TO i1 i2 t1 t2:Addr)(k:Nat)(T:Addr)(x y:Value):Prop where
 rc:∃f0 b1,iK h' z TI TO f0 (.bool b1)∧Ij h' f0
 to:∃a b,dj h' TO a b
 j1:h'.IsTupleIter i1 t1 (k+1)
 j2:h'.IsTupleIter i2 t2 (k+1)
 new:h.objs.size≤T
 at_:dj h' T x y
 keep:∀c o,c≠z→c≠TO→c≠i1→c≠i2→h.get? c=some o→h'.get? c=some o
theorem Df{z TI TO i1 i2 t1 t2:Addr}{k:Nat}{xs ys:Array Value}{x y a b f1:Value}{Q:Value→Shared→Prop}(D:jT z TI TO i1 i2 t1 t2)
  (hz:iK s.heap z TI TO .none f1)(gI:dj s.heap TI (.ref i1) (.ref i2))(gO:dj s.heap TO a b)(h1:s.heap.IsTupleIter i1 t1 k)(h2:s.heap.IsTupleIter i2 t2 k)(l1:s.heap.IsTuple t1 xs)(l2:s.heap.IsTuple t2 ys)(hx:xs[k]? =some x)(hy:ys[k]? =some y)
  (q:∀h' T,Ik s.heap h' z TI TO i1 i2 t1 t2 k T x y→iK h' z TI TO (rawInt T) (.bool false)→Q (.ref T) { s with heap:=h' }):
  wpAny (model prog w) A (Builtin.«zip.__next__» ⟨[.ref z],[]⟩) (fun fin s'=>∃v,fin= .done (.ret v)∧Q v s') E s:=by
 obtain⟨d1,d2,d3,d4,d5,d6,d7,d8,d9,x9⟩:=D.ne
 obtain⟨⟨m1,m2,m3,m4⟩,n1,n2,n3,n4⟩:=D.Px
 show wpAny _ _ (field (Value.ref z) 2 >>= _) _ _ _
 refine wpAny_bind (wpAny_field hz rfl (x:=Value.bool false) rfl ?_)
 show wpAny _ _ (field (Value.ref z) 3 >>= _) _ _ _
 refine wpAny_bind (wpAny_field hz rfl (x:=Value.ref TI) rfl (wpAny_bind (wpAny_seqItems gI rfl ?_)))
 refine wpAny_bind (m:=Builtin.SmallTypes.ownedTupleIsFree (.ref z)) ?_
 unfold Builtin.SmallTypes.ownedTupleIsFree
 refine wpAny_bind (wpAny_field hz rfl (x:=Value.none) rfl (wpAny_pure ?_))
 simp only[if_true]
 refine wpAny_bind (wpAny_rule (wpAny_bind (wpAny_field hz rfl (x:=Value.ref TO) rfl (wpAny_bind (wpAny_setField_rec hz (by simp) fun e1 z1 s1=>?_)))))
 have Ma:iK e1 z TI TO .ellipsis f1:=z1
 refine wpAny_bind ?_
 simp only[List.forIn_cons,List.forIn_nil,List.zipIdx_cons,List.zipIdx_nil]
 refine wpAny_bind (wpAny_bind (wpAny_onRaise (show wpAny _ _ (Builtin.SmallTypes.nextOf (Value.ref i1) >>= _) _ _ _ from ?_)))
 refine wpAny_bind (jo (h1.extBut s1.extBut d3) (l1.extBut s1.extBut m1) hx fun e2 j1 s2=>wpAny_pure ?_)
 have Il:dj e2 TO a b:=s2.extBut _ _ d8 (s1.extBut _ _ d2 gO)
 refine wpAny_bind (wpAny_seqItems Il rfl (wpAny_bind (sV Il fun e3 w3 s3=>wpAny_bind (wpAny_letGo (wpAny_pure ?_)))))
 have Vw:dj e3 TO x b:=w3
 refine wpAny_bind (wpAny_bind (wpAny_onRaise (show wpAny _ _ (Builtin.SmallTypes.nextOf (Value.ref i2) >>= _) _ _ _ from ?_)))
 refine wpAny_bind (jo (((h2.extBut s1.extBut d4).extBut s2.extBut x9.symm).extBut s3.extBut d9.symm) (((l2.extBut s1.extBut n1).extBut s2.extBut n3).extBut s3.extBut n2) hy fun e4 j2 s4=>wpAny_pure ?_)
 have SU:dj e4 TO x b:=s4.extBut _ _ d9 Vw
 refine wpAny_bind (wpAny_seqItems SU rfl (wpAny_bind (sV SU fun e5 w5 s5=>wpAny_bind (wpAny_letGo (wpAny_pure (wpAny_pure ?_))))))
 have SV:dj e5 TO x y:=w5
 refine wpAny_bind (wpAny_seqItems SV rfl (wpAny_bind (wpAny_newTuple ?_)))
 have sz:e5.objs.size=s.heap.objs.size:=by rw[s5.1,s4.1,s3.1,s2.1,s1.1]
 have z5:iK e5 z TI TO .ellipsis f1:=s5.extBut _ _ d2.symm (s4.extBut _ _ d4.symm (s3.extBut _ _ d2.symm (s2.extBut _ _ d3.symm Ma)))
 have k5:∀c o,c≠z→c≠TO→c≠i1→c≠i2→s.heap.get? c=some o→e5.get? c=some o:=fun c o c1 c2 c3 c4 e=>
  s5.extBut _ _ c2 (s4.extBut _ _ c4 (s3.extBut _ _ c2 (s2.extBut _ _ c3 (s1.extBut _ _ c1 e))))
 have J1:e5.IsTupleIter i1 t1 (k+1):=((j1.extBut s3.extBut d8.symm).extBut s4.extBut x9).extBut s5.extBut d8.symm
 have J2:e5.IsTupleIter i2 t2 (k+1):=j2.extBut s5.extBut d9.symm
 have zl:z<e5.objs.size:=Heap.lt_size z5
 refine wpAny_bind (m:=Builtin.SmallTypes.ownedTupleHandOut (.ref z) (.ref e5.objs.size)) ?_
 unfold Builtin.SmallTypes.ownedTupleHandOut
 have z6:iK (e5.push { cls:=.type "tuple",data:=.seq #[x,y] }) z TI TO .ellipsis f1:=Heap.get?_push_of_some _ z5
 refine wpAny_bind (wpAny_setField_rec z6 (by simp) fun e7 w7 s7=>?_)
 have z7:iK e7 z TI TO (rawInt e5.objs.size) f1:=w7
 refine wpAny_setField_rec z7 (by simp) fun e8 w8 s8=>?_
 have z8:iK e8 z TI TO (rawInt e5.objs.size) (.bool false):=w8
 have up:∀c o,c≠z→e5.get? c=some o→e8.get? c=some o:=fun c o c1 e=>s8.extBut _ _ c1 (s7.extBut _ _ c1 (Heap.get?_push_of_some _ e))
 have NY:dj e8 e5.objs.size x y:=s8.extBut _ _ (Nat.ne_of_gt zl) (s7.extBut _ _ (Nat.ne_of_gt zl) (Heap.get?_push_size _ rfl))
 refine wpAny_pure ⟨_,rfl,q e8 e5.objs.size ⟨⟨_,_,z8,.inr ⟨_,_,rfl,NY⟩⟩,⟨x,y,up _ _ d2 SV⟩,J1.at fun o e=>up _ o d3 e,J2.at fun o e=>up _ o d4 e,by rw[sz];exact Nat.le_refl _,NY,fun c o c1 c2 c3 c4 e=>up c o c1 (k5 c o c1 c2 c3 c4 e)⟩ z8⟩
theorem FR{z TI TO i1 i2 t1 t2:Addr}{k:Nat}{xs ys:Array Value}{a b f1:Value}{Q:PySem.Fin→Shared→Prop}(hh:A.handled=none)(D:jT z TI TO i1 i2 t1 t2)
  (hz:iK s.heap z TI TO .none f1)(gI:dj s.heap TI (.ref i1) (.ref i2))(gO:dj s.heap TO a b)(h1:s.heap.IsTupleIter i1 t1 k)(h2:s.heap.IsTupleIter i2 t2 k)(l1:s.heap.IsTuple t1 xs)(l2:s.heap.IsTuple t2 ys)(lh:xs[k]? =none∨ys[k]? =none)
  (q:∀h' e,(∀c o,c≠z→c≠TO→c≠i1→c≠i2→s.heap.get? c=some o→h'.get? c=some o)→(∃o,h'.get? e=some o∧o.cls= .type "StopIteration")→E (.ref e) { s with heap:=h' }):
  wpAny (model prog w) A (Builtin.«zip.__next__» ⟨[.ref z],[]⟩) Q E s:=by
 obtain⟨d1,d2,d3,d4,d5,d6,d7,d8,d9,x9⟩:=D.ne
 obtain⟨⟨m1,m2,m3,m4⟩,n1,n2,n3,n4⟩:=D.Px
 show wpAny _ _ (field (Value.ref z) 2 >>= _) _ _ _
 refine wpAny_bind (wpAny_field hz rfl (x:=Value.bool false) rfl ?_)
 show wpAny _ _ (field (Value.ref z) 3 >>= _) _ _ _
 refine wpAny_bind (wpAny_field hz rfl (x:=Value.ref TI) rfl (wpAny_bind (wpAny_seqItems gI rfl ?_)))
 refine wpAny_bind (m:=Builtin.SmallTypes.ownedTupleIsFree (.ref z)) ?_
 unfold Builtin.SmallTypes.ownedTupleIsFree
 refine wpAny_bind (wpAny_field hz rfl (x:=Value.none) rfl (wpAny_pure ?_))
 simp only[if_true]
 refine wpAny_bind (wpAny_rule (wpAny_bind (wpAny_field hz rfl (x:=Value.ref TO) rfl (wpAny_bind (wpAny_setField_rec hz (by simp) fun e1 z1 s1=>?_)))))
 have Ma:iK e1 z TI TO .ellipsis f1:=z1
 refine wpAny_bind ?_
 simp only[List.forIn_cons,List.forIn_nil,List.zipIdx_cons,List.zipIdx_nil]
 refine wpAny_bind (wpAny_bind (wpAny_onRaise (show wpAny _ _ (Builtin.SmallTypes.nextOf (Value.ref i1) >>= _) _ _ _ from ?_)))
 have off:∀{h h3:Heap}{e:Addr},iK h z TI TO .ellipsis f1→(∃o,h.get? e=some o∧o.cls= .type "StopIteration")→Heap.SameBut z h h3→∃o,h3.get? e=some o∧o.cls= .type "StopIteration":=fun {h h3 e} zz he ss=>by
  obtain⟨o,e1,c⟩:=he
  refine⟨o,ss.extBut _ _ (fun q=>?_) e1,c⟩
  subst q
  rw[show h.get? e=_ from zz]at e1
  cases e1
  simp at c
 cases hx:xs[k]? with
 |none=>
  refine wpAny_bind (iU hh (h1.extBut s1.extBut d3) (l1.extBut s1.extBut m1) hx fun e2 e s2 he=>?_)
  have z2:iK e2 z TI TO .ellipsis f1:=s2 _ _ d3.symm Ma
  exact wpAny_setField_rec z2 (by simp) fun e3 _ s3=>q e3 e (fun c o c1 _ c3 _ x=>s3.extBut _ _ c1 (s2 _ _ c3 (s1.extBut _ _ c1 x))) (off z2 he s3)
 |some x=>
  have hy:ys[k]? =none:=lh.resolve_left (by rw[hx];simp)
  refine wpAny_bind (jo (h1.extBut s1.extBut d3) (l1.extBut s1.extBut m1) hx fun e2 j1 s2=>wpAny_pure ?_)
  have Il:dj e2 TO a b:=s2.extBut _ _ d8 (s1.extBut _ _ d2 gO)
  refine wpAny_bind (wpAny_seqItems Il rfl (wpAny_bind (sV Il fun e3 w3 s3=>wpAny_bind (wpAny_letGo (wpAny_pure ?_)))))
  refine wpAny_bind (wpAny_bind (wpAny_onRaise (show wpAny _ _ (Builtin.SmallTypes.nextOf (Value.ref i2) >>= _) _ _ _ from ?_)))
  refine wpAny_bind (iU hh (((h2.extBut s1.extBut d4).extBut s2.extBut x9.symm).extBut s3.extBut d9.symm) (((l2.extBut s1.extBut n1).extBut s2.extBut n3).extBut s3.extBut n2) hy fun e4 e s4 he=>?_)
  have z4:iK e4 z TI TO .ellipsis f1:=s4 _ _ d4.symm (s3.extBut _ _ d2.symm (s2.extBut _ _ d3.symm Ma))
  exact wpAny_setField_rec z4 (by simp) fun e5 _ s5=>q e5 e (fun c o c1 c2 c3 c4 x=>s5.extBut _ _ c1 (s4 _ _ c4 (s3.extBut _ _ c2 (s2.extBut _ _ c3 (s1.extBut _ _ c1 x))))) (off z4 he s5)
theorem FT{z TI TO i1 i2 t1 t2 T0:Addr}{ob:Obj}{k:Nat}{xs ys:Array Value}{b1:Bool}{Q:PySem.Fin→Shared→Prop}(hh:A.handled=none)(D:jT z TI TO i1 i2 t1 t2)(hl:s.heap.get? T0=some ob)
  (hz:iK s.heap z TI TO (rawInt T0) (.bool b1))(gI:dj s.heap TI (.ref i1) (.ref i2))(h1:s.heap.IsTupleIter i1 t1 k)(h2:s.heap.IsTupleIter i2 t2 k)(l1:s.heap.IsTuple t1 xs)(l2:s.heap.IsTuple t2 ys)(lh:xs[k]? =none∨ys[k]? =none)
  (q:∀h' e,(∀c o,c≠z→c≠TO→c≠i1→c≠i2→s.heap.get? c=some o→h'.get? c=some o)→(∃o,h'.get? e=some o∧o.cls= .type "StopIteration")→E (.ref e) { s with heap:=h' }):
  wpAny (model prog w) A (Builtin.«zip.__next__» ⟨[.ref z],[]⟩) Q E s:=by
 obtain⟨d1,d2,d3,d4,d5,d6,d7,d8,d9,x9⟩:=D.ne
 obtain⟨⟨m1,m2,m3,m4⟩,n1,n2,n3,n4⟩:=D.Px
 show wpAny _ _ (field (Value.ref z) 2 >>= _) _ _ _
 refine wpAny_bind (wpAny_field hz rfl (x:=Value.bool false) rfl ?_)
 show wpAny _ _ (field (Value.ref z) 3 >>= _) _ _ _
 refine wpAny_bind (wpAny_field hz rfl (x:=Value.ref TI) rfl (wpAny_bind (wpAny_seqItems gI rfl ?_)))
 refine wpAny_bind (m:=Builtin.SmallTypes.ownedTupleIsFree (.ref z)) ?_
 unfold Builtin.SmallTypes.ownedTupleIsFree
 refine wpAny_bind (wpAny_field hz rfl (x:=rawInt T0) rfl ?_)
 show wpAny _ _ (loadIfAlive ((T0:Int).toNat) >>= _) _ _ _
 rw[show((T0:Int).toNat)=T0 from Int.toNat_natCast _]
 refine wpAny_bind (PySem.W.kdx_alive hl ?_)
 show wpAny _ _ (field (Value.ref z) 1 >>= _) _ _ _
 refine wpAny_bind (wpAny_field hz rfl (x:=Value.bool b1) rfl ?_)
 cases b1 with
 |true=>
  rw[if_neg (by decide)]
  refine wpAny_pure ?_
  have s0:Heap.SameBut z s.heap s.heap:=Heap.SameBut.refl ..
  simp only[Bool.false_eq_true,if_false]
  refine wpAny_bind ?_
  rw[show(#[Value.ref i1,Value.ref i2]:Array Value)=[Value.ref i1,Value.ref i2].toArray from rfl]
  simp only[List.forIn_toArray,List.forIn_cons,List.forIn_nil]
  refine wpAny_bind (wpAny_bind (wpAny_holding ?_))
  show wpAny _ _ (Builtin.SmallTypes.nextOf (Value.ref i1) >>= _) _ _ _
  cases hx:xs[k]? with
  |none=>exact wpAny_bind (iU hh (h1.extBut s0.extBut d3) (l1.extBut s0.extBut m1) hx fun e1 e s1 he=>q e1 e (fun c o c1 c2 c3 c4 z=>s1 _ _ c3 (s0.extBut _ _ c1 z)) he)
  |some x=>
   have hy:ys[k]? =none:=lh.resolve_left (by rw[hx];simp)
   refine wpAny_bind (jo (h1.extBut s0.extBut d3) (l1.extBut s0.extBut m1) hx fun e1 j1 s1=>wpAny_pure (wpAny_pure ?_))
   refine wpAny_bind (wpAny_bind (wpAny_holding ?_))
   show wpAny _ _ (Builtin.SmallTypes.nextOf (Value.ref i2) >>= _) _ _ _
   exact wpAny_bind (iU hh ((h2.extBut s0.extBut d4).extBut s1.extBut x9.symm) ((l2.extBut s0.extBut n1).extBut s1.extBut n3) hy fun e2 e s2 he=>q e2 e (fun c o c1 c2 c3 c4 z=>s2 _ _ c4 (s1.extBut _ _ c3 (s0.extBut _ _ c1 z))) he)
 |false=>
  rw[if_pos (by decide)]
  refine wpAny_bind (wpAny_setField_rec hz (by simp) fun e0 z0 s0=>wpAny_pure ?_)
  simp only[Bool.false_eq_true,if_false]
  refine wpAny_bind ?_
  rw[show(#[Value.ref i1,Value.ref i2]:Array Value)=[Value.ref i1,Value.ref i2].toArray from rfl]
  simp only[List.forIn_toArray,List.forIn_cons,List.forIn_nil]
  refine wpAny_bind (wpAny_bind (wpAny_holding ?_))
  show wpAny _ _ (Builtin.SmallTypes.nextOf (Value.ref i1) >>= _) _ _ _
  cases hx:xs[k]? with
  |none=>exact wpAny_bind (iU hh (h1.extBut s0.extBut d3) (l1.extBut s0.extBut m1) hx fun e1 e s1 he=>q e1 e (fun c o c1 c2 c3 c4 z=>s1 _ _ c3 (s0.extBut _ _ c1 z)) he)
  |some x=>
   have hy:ys[k]? =none:=lh.resolve_left (by rw[hx];simp)
   refine wpAny_bind (jo (h1.extBut s0.extBut d3) (l1.extBut s0.extBut m1) hx fun e1 j1 s1=>wpAny_pure (wpAny_pure ?_))
   refine wpAny_bind (wpAny_bind (wpAny_holding ?_))
   show wpAny _ _ (Builtin.SmallTypes.nextOf (Value.ref i2) >>= _) _ _ _
   exact wpAny_bind (iU hh ((h2.extBut s0.extBut d4).extBut s1.extBut x9.symm) ((l2.extBut s0.extBut n1).extBut s1.extBut n3) hy fun e2 e s2 he=>q e2 e (fun c o c1 c2 c3 c4 z=>s2 _ _ c4 (s1.extBut _ _ c3 (s0.extBut _ _ c1 z))) he)
structure wu(h:Heap)(z TI TO i1 i2 t1 t2:Addr)(xs ys:Array Value)(k:Nat):Prop where
 ap:jT z TI TO i1 i2 t1 t2
 rc:∃f0 b1,iK h z TI TO f0 (.bool b1)∧Ij h f0
 ti:dj h TI (.ref i1) (.ref i2)
 to:∃a b,dj h TO a b
 j1:h.IsTupleIter i1 t1 k
 j2:h.IsTupleIter i2 t2 k
 l1:h.IsTuple t1 xs
 l2:h.IsTuple t2 ys
theorem wu.type{z TI TO i1 i2 t1 t2:Addr}{xs ys:Array Value}{k:Nat}(Z:wu s.heap z TI TO i1 i2 t1 t2 xs ys k):s.TypeIs (.ref z) "zip":=by
 obtain⟨f0,b1,h,_⟩:=Z.rc
 exact⟨_,h,rfl⟩
theorem wu.stop{z TI TO i1 i2 t1 t2:Addr}{xs ys:Array Value}{k:Nat}{Q:Option Value→Shared→Prop}(hh:A.handled=none)(Z:wu s.heap z TI TO i1 i2 t1 t2 xs ys k)(lh:xs[k]? =none∨ys[k]? =none)
  (q:∀h',(∀c o,c≠z→c≠TO→c≠i1→c≠i2→s.heap.get? c=some o→h'.get? c=some o)→Q none { s with heap:=h' }):wpAny (model prog w) A (pyNext (.ref z)) Q E s:=by
 have hT:=Z.type
 obtain⟨D,⟨f0,b1,hz,hf⟩,gI,⟨a,b,gO⟩,j1,j2,l1,l2⟩:=Z
 have go:∀h' e,(∀c o,c≠z→c≠TO→c≠i1→c≠i2→s.heap.get? c=some o→h'.get? c=some o)→(∃o,h'.get? e=some o∧o.cls= .type "StopIteration")→
   wpAny (model prog w) A (do if ←isInstance (.ref e) (.type "StopIteration")then pure none else throw (.ref e)) Q E { s with heap:=h' }:=by
  rintro h' e kk ⟨o,ho,hc⟩
  refine wpAny_bind (wpAny_isInstance (T:="StopIteration") (b:=true) ⟨o,ho,hc⟩ isSubtype_stop ?_)
  exact wpAny_pure (q h' kk)
 unfold pyNext
 refine wpAny_bind (wpAny_attempt (wpAny_callSpecial?_slot (name:=Str.ofString "__next__") hT F.slot_zip_next (wpAny_call_entry F.slot_zip_next hT F.entry_zip_next ?_ (F.args_zip_next_1 _))))
 rcases hf with rfl|⟨T0,o,rfl,ho⟩
 ·exact FR hh D hz gI gO j1 j2 l1 l2 lh fun h' e kk he=>go h' e kk he
 ·exact FT hh D ho hz gI j1 j2 l1 l2 lh fun h' e kk he=>go h' e kk he
end
end L2
namespace L2
open PySem PySem.Spec PyProof.Rows
abbrev Py(t:Addr):Obj:={ cls:=.type "tuple_iterator",data:=.fields #[.ref t,.int 0 0] }
abbrev zA(h:Heap)(t:Addr):Heap:=h.push (Py t)
abbrev zB(h:Heap)(t u:Addr):Heap:=(zA h t).push (Py u)
abbrev zC(h:Heap)(t u:Addr):Heap:=(zB h t u).push { cls:=.type "tuple",data:=.seq #[.ref h.objs.size,.ref (zA h t).objs.size] }
abbrev zD(h:Heap)(t u:Addr):Heap:=(zC h t u).push { cls:=.type "tuple",data:=.seq #[.none,.none] }
abbrev zE(h:Heap)(t u:Addr):Heap:=(zD h t u).push { cls:=.type "zip",data:=.fields #[.none,.bool false,.bool false,.ref (zB h t u).objs.size,.ref (zC h t u).objs.size] }
theorem FU(t u:Addr)(xs ys:Array Value):Meets (Builtin.«zip.__new__» ⟨[.type "zip",.ref t,.ref u],[]⟩) (fun _ R s=>s.heap.IsTuple t xs∧s.heap.IsTuple u ys∧R (.ok (.ret (.ref (zD s.heap t u).objs.size))) { s with heap:=zE s.heap t u }):=
 .of_wp fun prog w A R s h=>by
  obtain⟨hp,g,d,tk,os⟩:=s
  obtain⟨a1,a2,h⟩:=h
  have Im:=sub_zip
  have b1:Heap.IsTuple (Shared.heap ⟨hp,g,d,tk,os⟩) t xs:=a1
  have b2:Heap.IsTuple (Shared.heap ⟨hp.push (Py t),g,d,tk,os⟩) u ys:=Heap.IsTuple.push a2 _
  wp_walk using wpAny_pyIter_tuple b1,wpAny_pyIter_tuple b2
  exact⟨_,rfl,h⟩
theorem Pz(n t u:Nat)(ht:t<n)(hu:u<n): [n+4,n+2,n+3,n,n+1].Nodup∧t∉[n+4,n+2,n+3,n,n+1]∧u∉[n+4,n+2,n+3,n,n+1]:=by
 refine⟨?_,?_,?_⟩
 ·simp only[List.nodup_cons,List.mem_cons,List.not_mem_nil,or_false,not_or,not_false_eq_true,List.nodup_nil,and_true]
  omega
 ·simp only[List.mem_cons,List.not_mem_nil,or_false,not_or]
  omega
 ·simp only[List.mem_cons,List.not_mem_nil,or_false,not_or]
  omega
section
variable{prog:Program}{w:World}{A:Around}{E:Value→Shared→Prop}{s:Shared}
theorem FV{t u:Addr}{xs ys:Array Value}{Q:Value→Shared→Prop}(a1:s.heap.IsTuple t xs)(a2:s.heap.IsTuple u ys)
  (q:∀h',wu h' (s.heap.objs.size+4) (s.heap.objs.size+2) (s.heap.objs.size+3) s.heap.objs.size (s.heap.objs.size+1) t u xs ys 0→iK h' (s.heap.objs.size+4) (s.heap.objs.size+2) (s.heap.objs.size+3) .none (.bool false)→h'.objs.size=s.heap.objs.size+5→(∀c o,s.heap.get? c=some o→h'.get? c=some o)→Q (.ref (s.heap.objs.size+4)) { s with heap:=h' }):
  wpAny (model prog w) A (call (.type "zip") [.ref t,.ref u]) Q E s:=by
 refine callType_new F.called_zip (by decide) (F.typeCall_zip_2 _ _) (F.newCall_zip_2 _ _) (fun obj=>F.args_object_init_3 obj _ _) F.entry_zip_new (FU t u xs ys) ⟨a1,a2,?_⟩
 have s1:(zA s.heap t).objs.size=s.heap.objs.size+1:=Heap.size_push ..
 have s2:(zB s.heap t u).objs.size=s.heap.objs.size+2:=by rw[Heap.size_push,s1]
 have s3:(zC s.heap t u).objs.size=s.heap.objs.size+3:=by rw[Heap.size_push,s2]
 have s4:(zD s.heap t u).objs.size=s.heap.objs.size+4:=by rw[Heap.size_push,s3]
 have s5:(zE s.heap t u).objs.size=s.heap.objs.size+5:=by rw[Heap.size_push,s4]
 have up:∀c o,s.heap.get? c=some o→(zE s.heap t u).get? c=some o:=fun c o e=>Heap.get?_push_of_some _ (Heap.get?_push_of_some _ (Heap.get?_push_of_some _ (Heap.get?_push_of_some _ (Heap.get?_push_of_some _ e))))
 have g5:(zE s.heap t u).get? (zD s.heap t u).objs.size=some _:=Heap.get?_push_size _ rfl
 have g4:(zE s.heap t u).get? (zC s.heap t u).objs.size=some _:=Heap.get?_push_of_some _ (Heap.get?_push_size _ rfl)
 have g3:(zE s.heap t u).get? (zB s.heap t u).objs.size=some _:=Heap.get?_push_of_some _ (Heap.get?_push_of_some _ (Heap.get?_push_size _ rfl))
 have g2:(zE s.heap t u).get? (zA s.heap t).objs.size=some _:=Heap.get?_push_of_some _ (Heap.get?_push_of_some _ (Heap.get?_push_of_some _ (Heap.get?_push_size _ rfl)))
 have g1:(zE s.heap t u).get? s.heap.objs.size=some _:=Heap.get?_push_of_some _ (Heap.get?_push_of_some _ (Heap.get?_push_of_some _ (Heap.get?_push_of_some _ (Heap.get?_push_size _ rfl))))
 rw[s2,s3,s4]at g5
 rw[s1,s2]at g3
 rw[s3]at g4
 rw[s1]at g2
 have lt:t<s.heap.objs.size:=by obtain⟨o,e,_⟩:=a1;exact Heap.lt_size e
 have lu:u<s.heap.objs.size:=by obtain⟨o,e,_⟩:=a2;exact Heap.lt_size e
 show _∧_
 rw[s4]
 refine⟨⟨_,g5,rfl⟩,q _ ⟨⟨(Pz _ t u lt lu).1,(Pz _ t u lt lu).2.1,(Pz _ t u lt lu).2.2⟩,⟨.none,false,g5,.inl rfl⟩,g3,⟨_,_,g4⟩,⟨_,g1,rfl,rfl⟩,⟨_,g2,rfl,rfl⟩,a1.at fun o e=>up _ o e,a2.at fun o e=>up _ o e⟩ g5 s5 up⟩
theorem wu.at{h h':Heap}{z TI TO i1 i2 t1 t2:Addr}{xs ys:Array Value}{k:Nat}(Z:wu h z TI TO i1 i2 t1 t2 xs ys k)(up:∀c,c∈[z,TI,TO,i1,i2,t1,t2]→∀o,h.get? c=some o→h'.get? c=some o)(al:∀c o,h.get? c=some o→∃o',h'.get? c=some o'):wu h' z TI TO i1 i2 t1 t2 xs ys k:=by
 obtain⟨D,⟨f0,b1,hz,hf⟩,gI,⟨a,b,gO⟩,j1,j2,l1,l2⟩:=Z
 refine⟨D,⟨f0,b1,up _ (by simp) _ hz,?_⟩,up _ (by simp) _ gI,⟨a,b,up _ (by simp) _ gO⟩,j1.at fun o e=>up _ (by simp) o e,j2.at fun o e=>up _ (by simp) o e,l1.at fun o e=>up _ (by simp) o e,l2.at fun o e=>up _ (by simp) o e⟩
 rcases hf with e|⟨T,o,e,g⟩
 ·exact .inl e
 ·obtain⟨o',g'⟩:=al _ _ g
  exact .inr ⟨T,o',e,g'⟩
theorem wu.self{z TI TO i1 i2 t1 t2:Addr}{xs ys:Array Value}{k:Nat}{Q:Value→Shared→Prop}(Z:wu s.heap z TI TO i1 i2 t1 t2 xs ys k)(q:Q (.ref z) s):wpAny (model prog w) A (pyIter (.ref z)) Q E s:=by
 have hT:=Z.type
 refine wpAny_pyIter_slot hT F.slot_zip_iter (wpAny_call_entry F.slot_zip_iter hT F.entry_zip_iter ?_ (F.args_zip_iter_1 _))
 exact wpAny_pure ⟨_,rfl,"zip",_,hT,F.slot_zip_next.lookup,q⟩
end
end L2
namespace L2
open PySem PySem.Spec PyProof.Rows
structure NZ(h:Heap)(b0:Nat)(xs ys:Array Value)(Ts:List Addr)(k:Nat):Prop where
 len:Ts.length=k
 nd:Ts.Nodup
 new:∀T∈Ts,b0≤T∧T<h.objs.size
 at_:∀(i:Nat) (T:Addr),Ts[i]? =some T→∃x y,xs[i]? =some x∧ys[i]? =some y∧dj h T x y
theorem NZ.nil{h:Heap}{b0:Nat}{xs ys:Array Value}:NZ h b0 xs ys [] 0:=⟨rfl,List.nodup_nil,fun _ h=>(nomatch h),fun i T h=>by simp at h⟩
section
variable{prog:Program}{w:World}{A:Around}{s:Shared}{R:Result→Shared→Prop}
end
section
variable{prog:Program}{w:World}{A:Around}{E:Value→Shared→Prop}{s:Shared}
end
end L2
namespace L2
open PySem PySem.Spec PyProof.Rows
section
variable{X:Cx}{pins:List (Addr×Obj)}{σ:St}{H H':Hp}{s:Shared}{h':Heap}
end
section
variable{X:Cx}
end
end L2
namespace L2
open PySem PySem.Spec PyProof.Rows
section
variable{X:Cx}{e1 e2:Expr}{p0 p1 p2 pos:Pos}{f:Qm.XA}
end
end L2
namespace L2
open PySem PySem.Spec PyProof.Rows
end L2
namespace L2
open PySem PySem.Spec PyProof.Rows
section
variable{prog:Program}{w:World}{A:Around}{E:Value→Shared→Prop}{s:Shared}
def Io(h:Heap)(a t:Addr)(i:Int):Prop:=∃o,h.get? a=some o∧o.cls= .type "reversed"∧o.data= .fields #[.ref t,rawInt i]
theorem Io.at{h h':Heap}{a t:Addr}{i:Int}(x:Io h a t i)(e:∀o,h.get? a=some o→h'.get? a=some o):Io h' a t i:=let ⟨o,ho,r⟩:=x;⟨o,e _ ho,r⟩
end
end L2
namespace L2
open PySem PySem.Spec PyProof.Rows
section
variable{prog:Program}{w:World}{A:Around}{E:Value→Shared→Prop}{s:Shared}{I:Addr}{fp wr:List Addr}{G:Array GenState→Array GenState→Prop}{n:Nat}{P:Nat→Value→Prop}{St:Nat→Shared→Prop}
end
end L2
namespace L2
open PySem PySem.Spec PyProof.Rows
section
variable{prog:Program}{w:World}{A:Around}{E:Value→Shared→Prop}{s:Shared}{I:Addr}{fp wr:List Addr}{G:Array GenState→Array GenState→Prop}{P:Nat→Value→Prop}{St:Nat→Shared→Prop}
end
section
variable{X:Cx}
end
end L2
namespace Qm
open PySem
end Qm
namespace L2
open PySem PySem.Spec PyProof.Rows
section
variable{X:Cx}{e1:Expr}{p0 p1 p2 pos:Pos}{f:Qm.XA}
end
end L2
namespace L2
open PySem PySem.Spec PyProof.Rows
mutual
def nb:PyData→Bool
 |.none=>true
 |.int _=>true
 |.str _=>true
 |.tuple ds=>wx ds
 |.list ds=>wx ds
 |_=>false
def wx:List PyData→Bool
 |[]=>true
 |d::ds=>nb d&&wx ds
end
section
variable{K:PySem.W.Frag}{ρ:Nat→Addr}{c:Qm.Cells}{H:Hp}
theorem zR{k:Nat}(rs:RS K ρ c H)(ih:∀{x:Qm.D}{v:V}{d:PyData},RD K ρ c.length H x v→Qm.data c k x=some d→jP K H v d∧PyData.canLay0 d=true∧d.depth≤k∧nb d=true):
  ∀{xs:List Qm.D}{vs:List V}{ds:List PyData},RA K ρ c.length H xs vs→Qm.omap (Qm.data c k) xs=some ds→qo K H vs ds∧PyData.canLayAll0 ds=true∧PyData.depthAll ds≤k∧wx ds=true
 |[],_,ds,a,h=>by
  cases a
  cases h
  exact⟨.nil,rfl,Nat.zero_le _,rfl⟩
 |x::xs,_,ds,a,h=>by
  cases a with
  |cons r a=>
   obtain⟨d,h1,h⟩:=aF h
   obtain⟨es,h2,h⟩:=aF h
   cases h
   obtain⟨a1,a2,a3,a4⟩:=ih r h1
   obtain⟨b1,b2,b3,b4⟩:=zR rs ih a h2
   exact⟨.cons a1 b1,by simp[PyData.canLayAll0,a2,b2],by simp only[PyData.depthAll];omega,by simp[wx,a4,b4]⟩
theorem mZ(rs:RS K ρ c H):∀(k:Nat) {x:Qm.D}{v:V}{d:PyData},RD K ρ c.length H x v→Qm.data c k x=some d→jP K H v d∧PyData.canLay0 d=true∧d.depth≤k∧nb d=true
 |0,_,_,_,_,h=>by simp[Qm.data]at h
 |k+1,x,v,d,r,h=>by
  have A:∀{xs:List Qm.D}{vs:List V}{ds:List PyData},RA K ρ c.length H xs vs→Qm.omap (Qm.data c k) xs=some ds→qo K H vs ds∧PyData.canLayAll0 ds=true∧PyData.depthAll ds≤k∧wx ds=true:=fun {xs vs ds}=>zR (k:=k) rs (fun r h=>mZ rs k r h)
  cases x with
  |bG=>simp[Qm.data]at h;subst h;cases r.NV;exact⟨.bG,rfl,Nat.zero_le _,rfl⟩
  |int i=>simp[Qm.data]at h;subst h;cases r.ei;exact⟨.int i,rfl,Nat.zero_le _,rfl⟩
  |bl b=>simp[Qm.data]at h
  |str b=>
   simp only[Qm.data]at h
   split at h
   ·rename_i hb
    cases h
    cases r
    exact⟨.str b,hb,Nat.zero_le _,rfl⟩
   ·cases h
  |ty b=>simp[Qm.data]at h
  |adr b=>simp[Qm.data]at h
  |tup xs=>
   simp only[Qm.data]at h
   obtain⟨ds,h1,h⟩:=aF h
   cases h
   obtain⟨p,vs,rfl,g,a⟩:=r.jM
   obtain⟨a1,a2,a3,a4⟩:=A a h1
   exact⟨.tup (cN.of g) a1,by simpa[PyData.canLay0]using a2,by simp only[PyData.depth];omega,by simpa[nb]using a4⟩
  |ref n=>
   simp only[Qm.data]at h
   have hs:∀{xs:List Qm.D},Qm.b7 (.ref n) c=some xs→(Qm.omap (Qm.data c k) xs).bind (fun ds=>some (PyData.list ds))=some d→jP K H v d∧PyData.canLay0 d=true∧d.depth≤k+1∧nb d=true:=fun {xs} e h=>by
    obtain⟨ds,h1,h⟩:=aF h
    cases h
    obtain⟨vs,rfl,g,a⟩:=rs.HS r e
    obtain⟨a1,a2,a3,a4⟩:=A a h1
    exact⟨.lst g a1,by simpa[PyData.canLay0]using a2,by simp only[PyData.depth];omega,by simpa[nb]using a4⟩
   cases e:c[n]? with
   |none=>rw[e]at h;cases h
   |some z=>
    rw[e]at h
    cases z with
    |lst xs=>exact hs (by simp[Qm.b7,e]) h
    |ro xs=>exact hs (by simp[Qm.b7,e]) h
    |uR xs=>cases h
    |FP xs=>cases h
    |sS xs=>cases h
    |gH xs=>cases h
    |kl xs=>cases h
end
mutual
theorem nZ:∀(d e:PyData),nb d=true→nb e=true→(PyData.eqv d e=true↔d=e)
 |.none,e,_,he=>by cases e<;>simp_all [PyData.eqv,nb]
 |.int i,e,_,he=>by cases e<;>simp_all [PyData.eqv,nb]
 |.tuple ds,e,hd,he=>by
  cases e<;>simp_all [PyData.eqv,nb]
  exact sW _ _ hd he
 |.list ds,e,hd,he=>by
  cases e<;>simp_all [PyData.eqv,nb]
  exact sW _ _ hd he
 |.bool _,_,h,_=>by simp[nb]at h
 |.str a,e,_,he=>by cases e<;>simp_all [PyData.eqv,nb]
 |.dict _,_,h,_=>by simp[nb]at h
theorem sW:∀(ds es:List PyData),wx ds=true→wx es=true→(PyData.eqvAll ds es=true↔ds=es)
 |[],[],_,_=>by simp[PyData.eqvAll]
 |[],_::_,_,_=>by simp[PyData.eqvAll]
 |_::_,[],_,_=>by simp[PyData.eqvAll]
 |d::ds,e::es,hd,he=>by
  simp only[wx,Bool.and_eq_true]at hd he
  simp only[PyData.eqvAll,Bool.and_eq_true,List.cons.injEq]
  rw[nZ d e hd.1 he.1,sW ds es hd.2 he.2]
end
section
variable{X:Cx}
theorem Ep{x y:Qm.D}{c:Qm.Cells}{b:Bool}(h:Qm.wg x y c=some b):(∃p q,x= .bl p∧y= .bl q∧b=(p==q))∨∃d e,Qm.data c 6 x=some d∧Qm.data c 6 y=some e∧(b=true↔d=e):=by
 unfold Qm.wg at h
 split at h
 ·cases h;exact .inl ⟨_,_,rfl,rfl,rfl⟩
 ·obtain⟨d,h1,h⟩:=aF h
  obtain⟨e,h2,h⟩:=aF h
  cases h
  exact .inr ⟨d,e,h1,h2,by simp⟩
theorem Bq{K:PySem.W.Frag}{ρ:Nat→Addr}{c:Qm.Cells}{H:Hp}{x y:Qm.D}{v u:V}{d e:PyData}{b:Bool}(rs:RS K ρ c H)(rx:RD K ρ c.length H x v)(ry:RD K ρ c.length H y u)(h1:Qm.data c 6 x=some d)(h2:Qm.data c 6 y=some e)(hb:b=true↔d=e):
  jP K H v d∧jP K H u e∧SeqAt.shaped d=true∧SeqAt.shaped e=true∧PyData.eqv d e=b:=by
 obtain⟨a1,a2,a3,a4⟩:=mZ rs 6 rx h1
 obtain⟨b1,b2,b3,b4⟩:=mZ rs 6 ry h2
 refine⟨a1,b1,by simp[SeqAt.shaped,a2];omega,by simp[SeqAt.shaped,b2];omega,?_⟩
 have:=nZ d e a4 b4
 cases b with
 |true=>exact this.mpr (hb.mp rfl)
 |false=>
  cases q:PyData.eqv d e with
  |false=>rfl
  |true=>exact absurd (hb.mpr (this.mp q)) (by decide)
theorem et(hu:X.A.units+64<cLine):fN X (compareOp .Eq) (fun x y H Q=>Lo x y H Q∨t_ X.K false x y H Q):=OI.or (LU hu)
theorem m6(hu:X.A.units+64<cLine):fN X (compareOp .NotEq) (fun x y H Q=>Lp x y H Q∨t_ X.K true x y H Q):=OJ.or (LV hu)
theorem iz{K:PySem.W.Frag}:jl K (fun x y H Q=>Lo x y H Q∨t_ K false x y H Q) Qm.ij:=by
 intro ρ c H x y d c' v u Q rs rx ry e k
 obtain⟨b,e1,e⟩:=aF e
 cases e
 rcases Ep e1 with⟨p,q,rfl,rfl,rfl⟩|⟨dd,ee,h1,h2,hb⟩
 ·cases rx.nV;cases ry.nV
  exact .inl ⟨rfl,by rw[u_];exact k ρ _ H (Nx.refl rs) (.bl _)⟩
 ·obtain⟨a1,a2,a3,a4,a5⟩:=Bq rs rx ry h1 h2 hb
  refine .inr ⟨dd,ee,a1,a2,a3,a4,?_⟩
  rw[if_neg (by decide),a5]
  exact k ρ _ H (Nx.refl rs) (.bl _)
theorem wy{K:PySem.W.Frag}:jl K (fun x y H Q=>Lp x y H Q∨t_ K true x y H Q) Qm.pG:=by
 intro ρ c H x y d c' v u Q rs rx ry e k
 obtain⟨b,e1,e⟩:=aF e
 cases e
 rcases Ep e1 with⟨p,q,rfl,rfl,rfl⟩|⟨dd,ee,h1,h2,hb⟩
 ·cases rx.nV;cases ry.nV
  exact .inl ⟨rfl,by rw[u_];exact k ρ _ H (Nx.refl rs) (.bl _)⟩
 ·obtain⟨a1,a2,a3,a4,a5⟩:=Bq rs rx ry h1 h2 hb
  refine .inr ⟨dd,ee,a1,a2,a3,a4,?_⟩
  rw[if_pos rfl,a5]
  exact k ρ _ H (Nx.refl rs) (.bl _)
def Ip(x:Qm.D):Bool:=match x with|.bG=>true|_=>false
theorem RD.Iq{K:PySem.W.Frag}{ρ:Nat→Addr}{N:Nat}{H:Hp}{x:Qm.D}{v:V}(r:RD K ρ N H x v):decide (v= .bG)=Ip x:=by
 cases r<;>simp[Ip]
theorem Ir{K:PySem.W.Frag}:jl K (fun x y H Q=>y= .bG∧Q (.bl (!decide (x= .bG))) H) Qm.sT:=by
 intro ρ c H x y d c' v u Q rs rx ry e k
 unfold Qm.sT at e
 split at e
 ·cases e
  cases ry.NV
  refine⟨rfl,?_⟩
  rw[rx.Iq]
  refine k ρ _ H (Nx.refl rs) ?_
  cases x<;>exact .bl _
 ·cases e
theorem kit_is(K:PySem.W.Frag):PySem.W.kitOne K (.type "int") (.type "int")=some true∧PySem.W.kitOne K (.type "int") (.type "bool")=some false∧PySem.W.kitOne K (.type "bool") (.type "bool")=some true∧PySem.W.kitOne K (.type "bool") (.type "int")=some true∧PySem.W.kitOne K (.type "tuple") (.type "tuple")=some true∧PySem.W.kitOne K (.type "list") (.type "list")=some true:=
 ⟨by with_unfolding_all rfl,by with_unfolding_all rfl,by with_unfolding_all rfl,by with_unfolding_all rfl,by with_unfolding_all rfl,by with_unfolding_all rfl⟩
theorem ky{K:PySem.W.Frag}:qr K (fun xs H Q=>∃x n t k,xs=[x,.ty n]∧kY K H x t∧PySem.W.kitOne K t (.type n)=some k∧Q (.bl k) H) Qm.dG:=by
 intro ρ c H ds d c' vs Q rs ra e k
 obtain⟨x,y,rfl,e'⟩:=L7 e
 obtain⟨v,u,rfl,rx,ry⟩:=ra.uc
 obtain⟨k1,k2,k3,k4,k5,k6⟩:=kit_is K
 split at e'
 ·rename_i n
  obtain⟨b,e1,e2⟩:=aF e'
  cases e2
  have hu:u= .ty n:=by cases ry;rfl
  subst hu
  unfold Qm.rg at e1
  split at e1
  ·cases rx.ei
   split at e1
   ·rename_i hn;cases e1;subst hn;exact⟨_,_,_,_,rfl,.int _,k1,k ρ _ H (Nx.refl rs) (.bl _)⟩
   ·split at e1
    ·rename_i hn;cases e1;subst hn;exact⟨_,_,_,_,rfl,.int _,k2,k ρ _ H (Nx.refl rs) (.bl _)⟩
    ·cases e1
  ·cases rx.nV
   split at e1
   ·rename_i hn;cases e1;subst hn;exact⟨_,_,_,_,rfl,.bl _,k3,k ρ _ H (Nx.refl rs) (.bl _)⟩
   ·cases e1
  ·obtain⟨p,ws,rfl,g,_⟩:=rx.jM
   split at e1
   ·rename_i hn;cases e1;subst hn;exact⟨_,_,_,_,rfl,.tup g,k5,k ρ _ H (Nx.refl rs) (.bl _)⟩
   ·cases e1
  ·rename_i m
   obtain⟨rfl,_⟩:=rx.k_
   split at e1
   ·rename_i ws hw
    obtain⟨us,g,_⟩:=rs.lst hw
    split at e1
    ·rename_i hn;cases e1;subst hn;exact⟨_,_,_,_,rfl,.lst g,k6,k ρ _ H (Nx.refl rs) (.bl _)⟩
    ·cases e1
   ·cases e1
  ·cases e1
 ·cases e'
end
end L2
namespace L2
open PySem PySem.Spec PyProof.Rows
section
variable{X:Cx}
def Er(K:PySem.W.Frag)(neg:Bool):R2:=fun x y H Q=>∃(p:Addr) (xs:List V) (d:PyData) (ds:List PyData),y= .ref p∧(bU K H p xs∨cN K H p xs)∧jP K H x d∧qo K H xs ds∧SeqAt.shaped d=true∧d.depth≤8∧(∀e∈ds,PyData.canLay0 e=true)∧Q (.bl (if neg then !(ds.any fun e=>PyData.eqv e d)else ds.any fun e=>PyData.eqv e d)) H
theorem vk{pins:List (Addr×Obj)}{σ:St}{H:Hp}{s:Shared}{x:V}{xs:List V}{v:Value}{its:List Value}{d:PyData}{ds:List PyData}(hu:X.A.units+64<cLine)(I:Inv X pins σ H s)(rx:RelV x v)(hv:Vals xs its)(hx:jP X.K H x d)(iV:qo X.K H xs ds)(sd:SeqAt.shaped d=true)(dd:d.depth≤8)(uU:∀e∈ds,PyData.canLay0 e=true):
  (∀y∈its.toArray,SeqAt.EqAt X.A.in1 s y v (qW s.heap d y))∧its.toArray.any (qW s.heap d)=ds.any fun e=>PyData.eqv e d:=by
 obtain⟨as,ra⟩:=hx.reads I rx
 obtain⟨bs,rb⟩:=iV.reads I hv
 have ea:its.any (qW s.heap d)=ds.any fun e=>PyData.eqv e d:=pP rb fun u' d' zI _ hd r'=>Bm (uU d' hd) r'
 refine⟨fun y' kM=>?_,by simpa using ea⟩
 have hm:y'∈its:=by simpa using kM
 obtain⟨d',hd,zI,r'⟩:=readsAll_mem rb y' hm
 rw[Bm (uU d' hd) r']
 refine SeqAt.eqAt_reads d' d _ _ _ _ _ _ r' ra (uU d' hd) (SeqAt.canLay_of_shaped sd) ?_
 have h1:min d'.depth d.depth≤d.depth:=Nat.min_le_right _ _
 have h2:X.A.in1.units≤X.A.units+1:=by simp[Around.in1,Around.units]
 show X.A.in1.units+_<cLine
 omega
theorem Es(hu:X.A.units+64<cLine):fN X (compareOp .In) (Er X.K false):=by
 intro pins s σ H x y v u Q I rx ry h
 obtain⟨p,xs,d,ds,rfl,hp,hx,iV,sd,dd,uU,q⟩:=h
 cases (show u=Value.ref p from ry)
 rcases hp with hp|hp
 ·obtain⟨its,hv,pl,_⟩:=I.list hp
  obtain⟨h1,h2⟩:=vk hu I rx hv hx iV sd dd uU
  refine SeqAt.in_listAt (qW s.heap d) pl.isList h1 ⟨.bl _,H,I,rfl,?_⟩
  rw[h2];exact q
 ·obtain⟨its,hv,pl,_⟩:=I.tuple hp
  obtain⟨h1,h2⟩:=vk hu I rx hv hx iV sd dd uU
  refine SeqAt.in_tupleAt (qW s.heap d) pl h1 ⟨.bl _,H,I,rfl,?_⟩
  rw[h2];exact q
theorem wz(hu:X.A.units+64<cLine):fN X (compareOp .NotIn) (Er X.K true):=by
 intro pins s σ H x y v u Q I rx ry h
 obtain⟨p,xs,d,ds,rfl,hp,hx,iV,sd,dd,uU,q⟩:=h
 cases (show u=Value.ref p from ry)
 rcases hp with hp|hp
 ·obtain⟨its,hv,pl,_⟩:=I.list hp
  obtain⟨h1,h2⟩:=vk hu I rx hv hx iV sd dd uU
  refine SeqAt.notIn_listAt (qW s.heap d) pl.isList h1 ⟨.bl _,H,I,rfl,?_⟩
  rw[h2];exact q
 ·obtain⟨its,hv,pl,_⟩:=I.tuple hp
  obtain⟨h1,h2⟩:=vk hu I rx hv hx iV sd dd uU
  refine SeqAt.notIn_tupleAt (qW s.heap d) pl h1 ⟨.bl _,H,I,rfl,?_⟩
  rw[h2];exact q
theorem ud:∀{ds:List PyData},PyData.canLayAll0 ds=true→∀e∈ds,PyData.canLay0 e=true
 |[],_,e,he=>nomatch he
 |d::ds,h,e,he=>by
  simp only[PyData.canLayAll0,Bool.and_eq_true]at h
  rcases List.mem_cons.mp he with rfl|he
  ·exact h.1
  ·exact ud h.2 e he
theorem Br:∀{ds:List PyData},wx ds=true→∀e∈ds,nb e=true
 |[],_,e,he=>nomatch he
 |d::ds,h,e,he=>by
  simp only[wx,Bool.and_eq_true]at h
  rcases List.mem_cons.mp he with rfl|he
  ·exact h.1
  ·exact Br h.2 e he
theorem Et{K:PySem.W.Frag}{ρ:Nat→Addr}{c:Qm.Cells}{H:Hp}{x y:Qm.D}{v u:V}{b:Bool}(rs:RS K ρ c H)(rx:RD K ρ c.length H x v)(ry:RD K ρ c.length H y u)(h:Qm.C9 x y c=some b):
  ∃(p:Addr) (xs:List V) (d:PyData) (ds:List PyData),u= .ref p∧(bU K H p xs∨cN K H p xs)∧jP K H v d∧qo K H xs ds∧SeqAt.shaped d=true∧d.depth≤8∧(∀e∈ds,PyData.canLay0 e=true)∧(ds.any fun e=>PyData.eqv e d)=b:=by
 obtain⟨xs,h1,h⟩:=aF h
 obtain⟨d,h2,h⟩:=aF h
 obtain⟨ds,h3,h⟩:=aF h
 cases h
 obtain⟨p,vs,rfl,hp,a⟩:=rs.seq ry h1
 obtain⟨a1,a2,a3,a4⟩:=mZ rs 5 rx h2
 obtain⟨b1,b2,b3,b4⟩:=zR (k:=5) rs (fun r h=>mZ rs 5 r h) a h3
 refine⟨p,vs,d,ds,rfl,hp.imp id cN.of,a1,b1,by simp[SeqAt.shaped,a2];omega,by omega,ud b2,?_⟩
 rw[Bool.eq_iff_iff]
 simp only[List.any_eq_true,decide_eq_true_eq]
 constructor
 ·rintro⟨e,he,q⟩
  rw[nZ e d (Br b4 e he) a4]at q
  exact q ▸ he
 ·intro hd
  exact⟨d,hd,(nZ d d a4 a4).mpr rfl⟩
theorem Iu{K:PySem.W.Frag}:jl K (Er K false) Qm.LZ:=by
 intro ρ c H x y d c' v u Q rs rx ry e k
 obtain⟨b,e1,e⟩:=aF e
 cases e
 obtain⟨p,xs,dd,ds,rfl,a1,a2,a3,a4,a5,a6,a7⟩:=Et rs rx ry e1
 refine⟨p,xs,dd,ds,rfl,a1,a2,a3,a4,a5,a6,?_⟩
 rw[if_neg (by decide),a7]
 exact k ρ _ H (Nx.refl rs) (.bl _)
theorem yq{K:PySem.W.Frag}:jl K (Er K true) Qm.q_:=by
 intro ρ c H x y d c' v u Q rs rx ry e k
 obtain⟨b,e1,e⟩:=aF e
 cases e
 obtain⟨p,xs,dd,ds,rfl,a1,a2,a3,a4,a5,a6,a7⟩:=Et rs rx ry e1
 refine⟨p,xs,dd,ds,rfl,a1,a2,a3,a4,a5,a6,?_⟩
 rw[if_pos rfl,a7]
 exact k ρ _ H (Nx.refl rs) (.bl _)
theorem Bs:∀{bs:List Bool}{us:List Value},Vals (bs.map V.bl) us→∀(i:Nat) (v:Value),us[i]? =some v→v= .bool (bs.getD i false)
 |[],_,.nil,i,v,h=>by simp at h
 |b::bs,_,.cons r t,0,v,h=>by
  simp at h
  subst h
  simpa using(show _=Value.bool b from r)
 |b::bs,_,.cons r t,i+1,v,h=>by
  have:=Bs t i v (by simpa using h)
  simpa using this
theorem wA{prog:Program}{w:World}{A:Around}{bs:List Bool}{us:List Value}(hv:Vals (bs.map V.bl) us):TruthOf prog w A (fun i v=>us.toArray[i]? =some v) fun i=>bs.getD i false:=fun i v s Q E h q=>by
 rw[Bs hv i v (by simpa using h)]
 exact wpAny_truthy_bool q
theorem range_all(bs:List Bool):(List.range bs.length).all (fun i=>bs.getD i false)=bs.all id:=by
 rw[Bool.eq_iff_iff]
 simp only[List.all_eq_true,List.mem_range]
 constructor
 ·intro h b hb
  obtain⟨i,hi⟩:=List.getElem?_of_mem hb
  have hl:=(List.getElem?_eq_some_iff.mp hi).1
  have:=h i hl
  simpa[List.getD,hi]using this
 ·intro h i hi
  have:bs[i]? =some bs[i]:=List.getElem?_eq_getElem hi
  simp only[List.getD,this,Option.getD_some]
  exact h _ (List.getElem_mem hi)
theorem range_any(bs:List Bool):(List.range bs.length).any (fun i=>bs.getD i false)=bs.any id:=by
 rw[Bool.eq_iff_iff]
 simp only[List.any_eq_true,List.mem_range]
 constructor
 ·rintro⟨i,hi,h⟩
  have:bs[i]? =some bs[i]:=List.getElem?_eq_getElem hi
  simp only[List.getD,this,Option.getD_some]at h
  exact⟨_,List.getElem_mem hi,h⟩
 ·rintro⟨b,hb,h⟩
  obtain⟨i,hi⟩:=List.getElem?_of_mem hb
  exact⟨i,(List.getElem?_eq_some_iff.mp hi).1,by simpa[List.getD,hi]using h⟩
theorem Dg(hc:X.calm=true):gC X (.builtin "all") (fun xs H Q=>∃(p:Addr) (bs:List Bool),xs=[.ref p]∧bU X.K H p (bs.map V.bl)∧Q (.bl (bs.all id)) H):=by
 intro pins s σ H xs us Q I r h
 obtain⟨p,bs,rfl,hp,q⟩:=h
 obtain⟨u,rfl,ru⟩:=vals1 r
 cases (show u=Value.ref p from ru)
 obtain⟨its,hv,pl,_⟩:=I.list hp
 have hl:=pl.isList
 have fB:p<s.heap.objs.size:=by obtain⟨o,e,_⟩:=hl;exact Heap.lt_size e
 refine call_all_walk (wpAny_pyIter_list hl ?_)
 refine⟨s.heap.objs.size,_,_,_,_,_,_,rfl,Walks.list (A:=X.A.in1) (I.ok.hd hc) s.heap.objs.size p (Nat.ne_of_lt fB) its.toArray,⟨⟨_,Heap.get?_push_size _ rfl,rfl,rfl⟩,hl.at fun o e=>Heap.get?_push_of_some _ e⟩,wA hv,fun h' tk kk=>?_⟩
 have e:its.toArray.size=bs.length:=by rw[List.size_toArray,←hv.length,List.length_map]
 rw[e,range_all]
 exact⟨.bl _,H,I.kept (t':=tk) fun b o g=>kk b o (by simpa using Nat.ne_of_lt (Heap.lt_size g)) (Heap.get?_push_of_some _ g),rfl,q⟩
theorem Dh(hc:X.calm=true):gC X (.builtin "any") (fun xs H Q=>∃(p:Addr) (bs:List Bool),xs=[.ref p]∧bU X.K H p (bs.map V.bl)∧Q (.bl (bs.any id)) H):=by
 intro pins s σ H xs us Q I r h
 obtain⟨p,bs,rfl,hp,q⟩:=h
 obtain⟨u,rfl,ru⟩:=vals1 r
 cases (show u=Value.ref p from ru)
 obtain⟨its,hv,pl,_⟩:=I.list hp
 have hl:=pl.isList
 have fB:p<s.heap.objs.size:=by obtain⟨o,e,_⟩:=hl;exact Heap.lt_size e
 refine call_any_walk (wpAny_pyIter_list hl ?_)
 refine⟨s.heap.objs.size,_,_,_,_,_,_,rfl,Walks.list (A:=X.A.in1) (I.ok.hd hc) s.heap.objs.size p (Nat.ne_of_lt fB) its.toArray,⟨⟨_,Heap.get?_push_size _ rfl,rfl,rfl⟩,hl.at fun o e=>Heap.get?_push_of_some _ e⟩,wA hv,fun h' tk kk=>?_⟩
 have e:its.toArray.size=bs.length:=by rw[List.size_toArray,←hv.length,List.length_map]
 rw[e,range_any]
 exact⟨.bl _,H,I.kept (t':=tk) fun b o g=>kk b o (by simpa using Nat.ne_of_lt (Heap.lt_size g)) (Heap.get?_push_of_some _ g),rfl,q⟩
theorem sX{K:PySem.W.Frag}{ρ:Nat→Addr}{N:Nat}{H:Hp}:∀{ds:List Qm.D}{vs:List V}{bs:List Bool},RA K ρ N H ds vs→Qm.omap Qm.mR ds=some bs→vs=bs.map V.bl
 |[],_,bs,a,h=>by cases a;cases h;rfl
 |d::ds,_,bs,a,h=>by
  cases a with
  |cons r a=>
   obtain⟨b,h1,h⟩:=aF h
   obtain⟨cs,h2,h⟩:=aF h
   cases h
   rw[rl h1]at r
   cases r.nV
   rw[sX a h2];rfl
theorem Mb{K:PySem.W.Frag}:qr K (fun xs H Q=>∃(p:Addr) (bs:List Bool),xs=[.ref p]∧bU K H p (bs.map V.bl)∧Q (.bl (bs.all id)) H) Qm.En:=by
 intro ρ c H ds d c' vs Q rs ra e k
 obtain⟨x,rfl,e'⟩:=ja e
 obtain⟨v,rfl,rx⟩:=ra.iJ
 obtain⟨n,e0,e'⟩:=aF e'
 obtain⟨bs,e2,e'⟩:=aF e'
 cases e'
 obtain⟨rfl,hn,ws,rfl,g,a⟩:=rs.bq rx e0
 exact⟨_,bs,rfl,sX a e2 ▸ bU.of g,k ρ _ H (Nx.refl rs) (.bl _)⟩
theorem Mc{K:PySem.W.Frag}:qr K (fun xs H Q=>∃(p:Addr) (bs:List Bool),xs=[.ref p]∧bU K H p (bs.map V.bl)∧Q (.bl (bs.any id)) H) Qm.yn:=by
 intro ρ c H ds d c' vs Q rs ra e k
 obtain⟨x,rfl,e'⟩:=ja e
 obtain⟨v,rfl,rx⟩:=ra.iJ
 obtain⟨n,e0,e'⟩:=aF e'
 obtain⟨bs,e2,e'⟩:=aF e'
 cases e'
 obtain⟨rfl,hn,ws,rfl,g,a⟩:=rs.bq rx e0
 exact⟨_,bs,rfl,sX a e2 ▸ bU.of g,k ρ _ H (Nx.refl rs) (.bl _)⟩
theorem Md:bootBuiltins "all" =some (.builtin "all"):=by decide +kernel
theorem Me:bootBuiltins "any" =some (.builtin "any"):=by decide +kernel
end
end L2
namespace Qm
open PySem
noncomputable section
def Vx:G2:=fun x y c=>match x with
 |.ref n=>(match c[n]? with
  |some (.ro xs)=>(bq y c).bind fun q=>if xs.length+q.2.length≤cE then some (.ref c.length,c++[.lst (xs++q.2)])else none
  |_=>none)
 |_=>none
end
end Qm
namespace L2
open PySem PySem.Spec PyProof.Rows
section
variable{X:Cx}
end
end L2
namespace L2
open PySem PySem.Spec PyProof.Rows
def iW:List Int→List Int→Bool
 |[],_=>false
 |_::_,[]=>true
 |a::r,b::t=>if a=b then iW r t else decide (a > b)
theorem Iv{y:List Int}:iW [] y=false:=by cases y<;>rfl
section
variable{prog:Program}{w:World}{A:Around}{E:Value→Shared→Prop}{s:Shared}
theorem wC{xs ys:Array Value}{x y:List Int}{a b:Addr}{oa ob:Obj}{na nb:Nat}{P:PySem.Fin→Shared→Prop}(Vy:s.heap.get? a=some oa)(Vz:oa.data= .seq xs na)(SW:s.heap.get? b=some ob)(VA:ob.cls= .type "tuple")(sP:ob.data= .seq ys nb)
  (hx:IntsAre xs.toList x)(hy:IntsAre ys.toList y)(h:P (.done (.ret (.bool (iW y x)))) s):
  wpAny (model prog w) A (Builtin.«tuple.__lt__» ⟨[.ref a,.ref b],[]⟩) P E s:=by
 have VB:s.TypeIs (.ref b) "tuple":=⟨_,SW,VA⟩
 show wpAny _ _ (isInstance (.ref b) (.type "tuple") >>= _) _ _ s
 refine wpAny_bind (wpAny_isInstance VB isSubtype_tuple_tuple ?_)
 simp only[Bool.not_true,Bool.false_eq_true,if_false]
 refine wpAny_bind (wpAny_tupleItemsOf Vy Vz ?_)
 refine wpAny_bind (wpAny_tupleItemsOf SW sP ?_)
 refine wpAny_bind ?_
 refine wpAny_forIn_list _
  (fun rest r s'=>r.1=none∧s'=s∧∃x' y' qf qg,rest=List.zip qf qg∧IntsAre qf x'∧IntsAre qg y'∧iW y' x'=iW y x∧(decide (qf.length<qg.length))=(decide (xs.size<ys.size)))
  _ ?_ ?_ _ _ ⟨rfl,rfl,x,y,xs.toList,ys.toList,rfl,hx,hy,rfl,by simp⟩
 ·rintro⟨u,v⟩ rest r s' ⟨hr,rfl,x',y',qf,qg,hz,ig,kM,qH,hlen⟩
  cases ig with
  |nil=>simp at hz
  |@cons i t SX VC SY=>
   cases kM with
   |nil=>simp at hz
   |@cons j t' S0 VD S3=>
    simp only[List.zip_cons_cons,List.cons.injEq,Prod.mk.injEq]at hz
    obtain⟨⟨rfl,rfl⟩,rfl⟩:=hz
    refine wpAny_bind (wpAny_eqBool_int ?_)
    by_cases hk:i=j
    ·subst hk
     rw[beq_self_eq_true]
     simp only[Bool.not_true,Bool.false_eq_true,if_false]
     refine wpAny_pure ⟨rfl,rfl,VC,VD,SX,S0,rfl,SY,S3,?_,by simpa using hlen⟩
     rw[←qH]
     simp[iW]
    ·rw[beq_eq_false_iff_ne.mpr hk]
     simp only[Bool.not_false,if_true]
     have hf:iW y x=decide (i<j):=by rw[←qH];simp[iW,Ne.symm hk]
     rw[hf]at h
     refine wpAny_bind (wpAny_rule (wpAny_bind ?_))
     refine richCompare_gives (op:=.Lt) (typeIs_int _ _ t) (typeIs_int _ _ t') PySem.F.slot_int_lt PySem.F.entry_int_lt (PySem.F.args_int_lt_2 _ _) (gives_int_lt _ _ t t') (fun x=>nomatch x) ?_
     exact wpAny_bind (wpAny_pure (wpAny_pure (wpAny_pure h)))
 ·rintro⟨r1,r2⟩ s' ⟨hr,rfl,x',y',qf,qg,hz,ig,kM,qH,hlen⟩
  simp only at hr
  subst hr
  refine wpAny_pure ?_
  have S4:(decide (xs.size<ys.size))=iW y x:=by
   rw[←qH,←hlen]
   cases kM with
   |nil=>simp[Iv]
   |cons _ _ _=>
    cases ig with
    |nil=>simp[iW]
    |cons _ _ _=>simp at hz
  show P (.done (.ret (.bool (decide (xs.size<ys.size))))) s'
  rw[S4];exact h
theorem ue{p:Addr}{its:Array Value}(h:IsTup s.heap p its):s.TypeIs (.ref p) "tuple":=by
 obtain⟨o,ho,hc,_⟩:=h
 exact⟨_,ho,hc⟩
theorem FW{p q:Addr}{xs ys:Array Value}{x y:List Int}{Q:Value→Shared→Prop}(hp:IsTup s.heap p xs)(hq:IsTup s.heap q ys)(hx:IntsAre xs.toList x)(hy:IntsAre ys.toList y)(hu:A.units<cLine)(h:Q (.bool (iW y x)) s):wpAny (model prog w) A (richCompare .Lt (.ref p) (.ref q)) Q E s:=by
 have t1:=ue hp
 have t2:=ue hq
 obtain⟨oa,ha,ca,na,da⟩:=hp
 obtain⟨ob,hb,cb,nb,db⟩:=hq
 refine wpAny_richCompare_same_room (op:=.Lt) t1 t2 PySem.F.slot_tuple_lt (wpAny_call_entry PySem.F.slot_tuple_lt t1 PySem.F.entry_tuple_lt ?_ (PySem.F.args_tuple_lt_2 _ _)) hu
 exact wC ha da hb cb db hx hy ⟨_,rfl,nofun,h⟩
end
theorem ints_of:∀{ns:List Int}{us:List Value},Vals (ns.map V.int) us→IntsAre us ns
 |[],_,h=>by cases h;exact .nil
 |n::ns,_,h=>by
  cases h with
  |cons r t=>
   obtain⟨k,rfl⟩:=r
   exact .cons n k (ints_of t)
section
variable{X:Cx}
end
end L2
namespace L2
open PySem PySem.Spec PyProof.Rows
section
variable{prog:Program}{w:World}{A:Around}
end
section
variable{X:Cx}
end
end L2
namespace L2
open PySem PySem.Spec PyProof.Rows PySem.W
section
variable{X:Cx}{pins:List (Addr×Obj)}{σ:St}{H:Hp}{s:Shared}
end
section
variable{prog:Program}{w:World}{A:Around}{s:Shared}{Q:Bool→Shared→Prop}
end
section
variable{X:Cx}
end
end L2
namespace L2
open PySem PySem.Spec PyProof.Rows
section
variable{prog:Program}{w:World}{A:Around}{E:Value→Shared→Prop}
end
section
variable{X:Cx}{pos:Pos}
end
end L2
namespace Qm
open PySem
noncomputable section
def iW:List Int→List Int→Bool
 |[],_=>false
 |_::_,[]=>true
 |a::r,b::t=>if a=b then iW r t else decide (a > b)
def nums(xs:List D):Option (List Int):=omap qZ xs
def Yl:G2:=fun x y c=>match x,y with
 |.tup xs,.tup ys=>(nums xs).bind fun ns=>(nums ys).bind fun ms=>some (.bl (iW ns ms),c)
 |_,_=>none
def UR:FN:=fun ds c=>match ds with
 |[.tup xs,.tup ys]=>(nums xs).bind fun ns=>(nums ys).bind fun ms=>some (if iW ms ns=true then .tup ys else .tup xs,c)
 |_=>none
def PB(xs:List D):Option (List D×List D×List Int×List Int):=match xs with
 |[.tup xs,.tup ys]=>(nums xs).bind fun ns=>(nums ys).bind fun ms=>if ns≠[]∧ms≠[] then some (xs,ys,ns,ms)else none
 |_=>none
def Rw:FN:=fun ds c=>match ds with
 |[.ref l]=>(b7 (.ref l) c).bind fun zs=>(PB zs).bind fun q=>some (.ref c.length,c++[.lst (if iW q.2.2.1 q.2.2.2=true then [.tup q.2.1,.tup q.1] else [.tup q.1,.tup q.2.1])])
 |_=>none
end
end Qm
namespace L2
open PySem PySem.Spec PyProof.Rows
theorem wD:bootBuiltins "sorted" =some (.builtin "sorted"):=by decide +kernel
theorem Eu:∀x y:List Int,iW x y=Qm.iW x y
 |[],y=>by cases y<;>rfl
 |_::_,[]=>rfl
 |a::r,b::t=>by simp only[iW,Qm.iW];rw[Eu r t]
section
variable{K:PySem.W.Frag}
theorem rD{ρ:Nat→Addr}{N:Nat}{H:Hp}:∀{xs:List Qm.D}{vs:List V}{ns:List Int},RA K ρ N H xs vs→Qm.nums xs=some ns→vs=ns.map V.int
 |[],_,ns,a,h=>by cases a;cases h;rfl
 |x::xs,_,ns,a,h=>by
  cases a with
  |cons r a=>
   obtain⟨i,h1,h⟩:=aF h
   obtain⟨ms,h2,h⟩:=aF h
   cases h
   rw[jQ h1]at r
   cases r.ei
   rw[rD a h2]
   rfl
end
section
variable{X:Cx}{pos:Pos}{es:List Expr}
end
end L2
namespace Qm
open PySem
noncomputable section
def VE(d:D):Option Str:=match d with
 |.str x=>some x
 |_=>none
def Ew(d:D)(c:Cells):Option (Nat×List (Str×D)):=match d with
 |.ref n=>(match c[n]? with
  |some (.uR ps)=>some (n,ps)
  |_=>none)
 |_=>none
def S5{α:Type}(ps:List (Str×α))(k:Str)(d:α):List (Str×α):=
 if (ps.any fun p=>decide (p.1=k))=true then ps.map (fun p=>if p.1=k then(p.1,d)else p)else ps++[(k,d)]
def HD(o k v:XE):XS:=fun σ c=>(v σ c).bind fun w=>(o σ w.2).bind fun p=>(k σ p.2).bind fun q=>(Ew p.1 q.2).bind fun l=>(VE q.1).bind fun x=>if l.2.length<cE then some (.nx,σ,q.2.set l.1 (.uR (S5 l.2 x w.1)))else none
end
end Qm
namespace PySem
open Sem (wp)
section
variable{prog:Program}{w:World}{K:Type}[DecidableEq K]{knd:KeyKind prog w K}{A:Around}{E:Value→Shared→Prop}{s:Shared}
end
end PySem
namespace L2
open PySem PySem.Spec PyProof.Rows
section
variable{K:PySem.W.Frag}{ρ ba:Nat→Addr}{N:Nat}{c c':Qm.Cells}{H H':Hp}
theorem RK.length:∀{ps:List (Str×Qm.D)}{us:List (Key×V)},RK K ρ N H ps us→ps.length=us.length
 |_,_,.nil=>rfl
 |_,_,.cons _ a=>congrArg (·+1) (RK.length a)
theorem RS.uR(r:RS K ρ c H){n:Nat}{ps:List (Str×Qm.D)}(h:c[n]? =some (.uR ps)):∃us,H (ρ n)=some (.dK us)∧RK K ρ c.length H ps us:=r.ok n _ h
theorem RS.Ew(r:RS K ρ c H){d:Qm.D}{n:Nat}{ps:List (Str×Qm.D)}{v:V}(h:RD K ρ c.length H d v)(e:Qm.Ew d c=some (n,ps)):d= .ref n∧c[n]? =some (.uR ps)∧∃us,v= .ref (ρ n)∧H (ρ n)=some (.dK us)∧RK K ρ c.length H ps us:=by
 unfold Qm.Ew at e
 split at e
 ·obtain⟨rfl,hn⟩:=h.k_
  split at e
  ·rename_i xs hx
   cases e
   obtain⟨vs,h1,h2⟩:=r.uR hx
   exact⟨rfl,hx,vs,rfl,h1,h2⟩
  ·cases e
 ·cases e
end
section
variable{X:Cx}{a b e:Expr}{es:List Expr}{fa fb fc fe:Qm.XE}{pos apos bR:Pos}
theorem Iw:bootBuiltins "dict" =some (.type "dict"):=by decide +kernel
end
end L2
namespace L2
open PySem PySem.Spec PyProof.Rows
theorem KV.get{aE:List (Key×V)}{vs:List (Key×Value)}(r:KV aE vs):∀{i:Nat}{q:Key×Value},vs[i]? =some q→∃p,aE[i]? =some p∧p.1=q.1∧RelV p.2 q.2:=by
 unfold KV at r
 induction r with
 |nil=>intro i q h;simp at h
 |@cons p q ps qs h t ih=>
  intro i q' h'
  cases i with
  |zero=>simp at h';subst h';exact⟨p,rfl,h⟩
  |succ i=>exact ih (by simpa using h')
section
variable{X:Cx}
end
section
variable{K:PySem.W.Frag}{ρ:Nat→Addr}{c:Qm.Cells}{H:Hp}
inductive PD(K:PySem.W.Frag)(H:Hp):List (Str×PyData)→List (Key×V)→Prop
 |nil:PD K H [] []
 |cons {k:Str}{d:PyData}{r:List (Str×PyData)}{v:V}{t:List (Key×V)}:jP K H v d→SeqAt.shaped d=true→nb d=true→PD K H r t→PD K H ((k,d)::r) ((.inr k,v)::t)
theorem PD.length:∀{ds:List (Str×PyData)}{us:List (Key×V)},PD K H ds us→ds.length=us.length
 |_,_,.nil=>rfl
 |_,_,.cons _ _ _ a=>congrArg (·+1) (PD.length a)
theorem PD.get:∀{ds:List (Str×PyData)}{us:List (Key×V)}{i:Nat}{kv:Key×V},PD K H ds us→us[i]? =some kv→∃k d,ds[i]? =some (k,d)∧kv.1= .inr k∧jP K H kv.2 d∧SeqAt.shaped d=true∧nb d=true
 |_,_,_,_,.nil,e=>by simp at e
 |_,_,0,_,.cons h1 h2 h3 _,e=>by simp at e;subst e;exact⟨_,_,rfl,rfl,h1,h2,h3⟩
 |_,_,i+1,kv,.cons _ _ _ a,e=>by
  obtain⟨k,d,h1,h2⟩:=PD.get (i:=i) (kv:=kv) a (by simpa using e)
  exact⟨k,d,by simpa using h1,h2⟩
end
end L2
namespace L2
open PySem PySem.Spec PyProof.Rows
theorem bH.none{P:Program}{w:World}{K:PySem.W.Frag}{mg:Str→Option Value}{base:Heap}{k:Nat}{f:Addr}{fd:FuncData}{ps:List Str}{F:Qm.FN}(h:∀ds c,F ds c=Option.none):bH P w K mg base cW k f fd ps (dq K F):=
 ⟨fun vs H Q E ⟨_,_,_,_,_,_,_,e,_⟩=>(by rw[h]at e;cases e),fun A outer s H args us vs Q E _ _ _ _ ⟨_,_,_,_,_,_,_,e,_⟩=>(by rw[h]at e;cases e)⟩
end L2
namespace L2
open PySem PySem.Spec PyProof.Rows
end L2
namespace L2
open PySem PySem.Spec PyProof.Rows
section
variable{X:Cx}{es:List Expr}{fr:Qm.XA}{p:Pos}
end
end L2
namespace L2
open PySem PySem.Spec PyProof.Rows
section
variable{X:Cx}{pins:List (Addr×Obj)}{σ:St}{H:Hp}{s:Shared}{h':Heap}
theorem Inv.wG{ch:List Addr}{T:Addr}{o:HO}{t':Nat}(I:Inv X pins σ H s)(iN:∀b∈ch,hV X pins H b)(k:∀b u,b∉ch→s.heap.get? b=some u→h'.get? b=some u)(hT:s.heap.objs.size≤T)(new:bN X.prog X.w (upd H T o) h' T o):
  Inv X pins σ (upd H T o) { s with heap:=h',toks:=t' }:=by
 have hn:H T=none:=I.bj.fresh hT
 have ne:∀b u,s.heap.get? b=some u→b≠T:=fun b u e=>Nat.ne_of_lt (Nat.lt_of_lt_of_le (Heap.lt_size e) hT)
 have nc:∀b u,H b=some u→b∉ch:=fun b u e hb=>by rw[(iN b hb).1]at e;cases e
 refine I.step (g':=s.gens) (d':=s.drawn) (ch:=ch) (fun b hb=>⟨(iN b hb).2.2.2.1,(iN b hb).2.1,(iN b hb).2.2.2.2.1,(iN b hb).2.2.2.2.2⟩) (fun b u _ _ hc e _=>k b u hc e) (fun b u _ _ hc e _=>⟨u.slots,k b u hc e⟩) (fun b u _ e z=>by rw[bg (ne b u e)];exact z)
  (fun b u hc e=>⟨u,k b u hc e⟩) (fun b xs e=>by rw[bg (cY e hn)];exact e) (fun b u v e=>by rw[bg (cY e hn)];exact e) (fun b ps e=>⟨#[],by rw[bg (cY e hn),e];simp⟩) (fun m hm=>?_) (fun b u e=>?_) I.bare
 ·obtain⟨ob,es,ep,ho,r⟩:=hm
  exact⟨ob,es,ep,k _ ob (fun z=>(iN _ z).2.1 rfl) ho,r⟩
 ·by_cases hb:b=T
  ·subst hb
   rw[cS]at e
   cases e
   exact new
  ·rw[bg hb]at e
   refine(I.bj b u e).vI (fun c v hc q=>k c v ?_ q) (fun c q=>by rw[bg (cY q hn)];exact q) fun c xs q=>by rw[bg (cY q hn)];exact q
   rcases hc with z|z
   ·rw[z];exact nc b u e
   ·exact nc c _ z
theorem Inv.zS{ch:List Addr}{t':Nat}(I:Inv X pins σ H s)(iN:∀b∈ch,hV X pins H b)(k:∀b u,b∉ch→s.heap.get? b=some u→h'.get? b=some u):Inv X pins σ H { s with heap:=h',toks:=t' }:=by
 have nc:∀b u,H b=some u→b∉ch:=fun b u e hb=>by rw[(iN b hb).1]at e;cases e
 refine I.step (g':=s.gens) (d':=s.drawn) (ch:=ch) (fun b hb=>⟨(iN b hb).2.2.2.1,(iN b hb).2.1,(iN b hb).2.2.2.2.1,(iN b hb).2.2.2.2.2⟩) (fun b u _ _ hc e _=>k b u hc e) (fun b u _ _ hc e _=>⟨u.slots,k b u hc e⟩) (fun b u _ e z=>z)
  (fun b u hc e=>⟨u,k b u hc e⟩) (fun b xs e=>e) (fun b u v e=>e) (fun b ps e=>⟨#[],by rw[e];simp⟩) (fun m hm=>?_) (fun b u e=>?_) I.bare
 ·obtain⟨ob,es,ep,ho,r⟩:=hm
  exact⟨ob,es,ep,k _ ob (fun z=>(iN _ z).2.1 rfl) ho,r⟩
 ·refine(I.bj b u e).vI (fun c v hc q=>k c v ?_ q) (fun c q=>q) fun c xs q=>q
  rcases hc with z|z
  ·rw[z];exact nc b u e
  ·exact nc c _ z
end
structure ZL(h:Heap)(z TI TO i1 i2 a b:Addr)(k:Nat):Prop where
 ap:jT z TI TO i1 i2 a b
 rc:∃b1,iK h z TI TO .none (.bool b1)
 ti:dj h TI (.ref i1) (.ref i2)
 to:∃x y,dj h TO x y
 j1:h.IsTupleIter i1 a k
 j2:h.IsTupleIter i2 b k
def PF(K:PySem.W.Frag)(a b:Addr):It:=
 ⟨fun i H=>∃xs ys x y,cN K H a xs∧cN K H b ys∧xs[i]? =some x∧ys[i]? =some y,
      fun i H v H'=>∃T,v= .ref T∧H T=none∧∀xs ys,cN K H a xs→cN K H b ys→∃x y,xs[i]? =some x∧ys[i]? =some y∧H'=upd H T (.tup [x,y]),
      fun i H=>∃xs ys,cN K H a xs∧cN K H b ys∧(xs.length≤i∨ys.length≤i)⟩
theorem FX{P:Program}{w:World}{K:PySem.W.Frag}{es:List Expr}{k0:Nat}{p0:Pos}(z TI TO i1 i2 a b:Addr):
  Turn P w K (.Tuple es k0 p0) (PF K a b) [z,TI,TO,i1,i2] z (fun i h=>ZL h z TI TO i1 i2 a b i) where
 mem:=by simp
 obj:=fun i h Z c hc=>by
  obtain⟨D,⟨b1,hz⟩,gI,⟨x,y,gO⟩,j1,j2⟩:=Z
  rcases List.mem_cons.mp hc with rfl|hc
  ·exact⟨_,hz,by simp⟩
  rcases List.mem_cons.mp hc with rfl|hc
  ·exact⟨_,gI,by simp⟩
  rcases List.mem_cons.mp hc with rfl|hc
  ·exact⟨_,gO,by simp⟩
  rcases List.mem_cons.mp hc with rfl|hc
  ·obtain⟨o,e,_,d⟩:=j1
   exact⟨o,e,by rw[d];simp⟩
  ·have:c=i2:=by simpa using hc
   subst this
   obtain⟨o,e,_,d⟩:=j2
   exact⟨o,e,by rw[d];simp⟩
 keep:=fun i h h' Z kk=>by
  obtain⟨D,⟨b1,hz⟩,gI,⟨x,y,gO⟩,j1,j2⟩:=Z
  exact⟨D,⟨b1,kk _ (by simp) _ hz⟩,kk _ (by simp) _ gI,⟨x,y,kk _ (by simp) _ gO⟩,j1.at fun o e=>kk _ (by simp) o e,j2.at fun o e=>kk _ (by simp) o e⟩
 item:=fun X hP hw hK hc i pins s σ H E I hf Z go=>by
  subst hP hw hK
  obtain⟨xs,ys,x,y,iV,kQ,hx,hy⟩:=go
  obtain⟨ia,va,ta,_⟩:=I.tuple iV
  obtain⟨ib,vb,tb,_⟩:=I.tuple kQ
  obtain⟨ux,zT,rx⟩:=va.get hx
  obtain⟨uy,Di,ry⟩:=vb.get hy
  obtain⟨D,⟨b1,hz⟩,gI,⟨x0,y0,gO⟩,j1,j2⟩:=Z
  have hT:s.TypeIs (.ref z) "zip":=⟨_,hz,rfl⟩
  obtain⟨d1,d2,d3,d4,d5,d6,d7,d8,d9,x9⟩:=D.ne
  unfold pyNext
  refine wpAny_bind (wpAny_attempt (wpAny_callSpecial?_slot (name:=Str.ofString "__next__") hT F.slot_zip_next (wpAny_call_entry F.slot_zip_next hT F.entry_zip_next ?_ (F.args_zip_next_1 _))))
  refine Df (xs:=ia.toArray) (ys:=ib.toArray) D hz gI gO j1 j2 ta tb (by simpa using zT) (by simpa using Di) fun h' T B zr=>wpAny_pure ⟨.ref T,rfl,?_⟩
  have tI:dj h' TI (.ref i1) (.ref i2):=B.keep _ _ d1 d5 d6 d7 gI
  -- AR owned tuple Ym
  unfold letOwnedTupleGo
  refine wpAny_bind (wpAny_load zr ?_)
  dsimp only
  rw[if_pos (by simp)]
  refine wpAny_bind (wpAny_rule (show wpAny _ _ (setField (.ref z) 0 .none) _ _ _ from wpAny_setField_rec zr (by simp) fun h2 w2 s2=>?_))
  have z2:iK h2 z TI TO .none (.bool false):=w2
  have up:∀c o,c≠z→h'.get? c=some o→h2.get? c=some o:=fun c o aW e=>s2.extBut _ _ aW e
  obtain⟨xo,yo,go'⟩:=B.to
  have zl:z<s.heap.objs.size:=Heap.lt_size hz
  have Tz:T≠z:=Nat.ne_of_gt (Nat.lt_of_lt_of_le zl B.new)
  have gT:=up _ _ Tz B.at_
  have nB:∀c u,c∉[z,TI,TO,i1,i2]→s.heap.get? c=some u→h2.get? c=some u:=fun c u aW e=>by
   simp only[List.mem_cons,List.not_mem_nil,or_false,not_or]at aW
   exact up c u aW.1 (B.keep c u aW.1 aW.2.2.1 aW.2.2.2.1 aW.2.2.2.2 e)
  have Dj:H T=none:=I.bj.fresh B.new
  have PH:∀c∈[z,TI,TO,i1,i2],c≠T:=fun c aW=>by
   have:c<s.heap.objs.size:=by
    rcases List.mem_cons.mp aW with rfl|aW
    ·exact zl
    rcases List.mem_cons.mp aW with rfl|aW
    ·exact Heap.lt_size gI
    rcases List.mem_cons.mp aW with rfl|aW
    ·exact Heap.lt_size gO
    rcases List.mem_cons.mp aW with rfl|aW
    ·obtain⟨o,e,_⟩:=j1;exact Heap.lt_size e
    ·have:c=i2:=by simpa using aW
     subst this
     obtain⟨o,e,_⟩:=j2;exact Heap.lt_size e
   exact Nat.ne_of_lt (Nat.lt_of_lt_of_le this B.new)
  refine⟨.ref T,upd H T (.tup [x,y]),I.wG (t':=s.toks) hf nB B.new ⟨by show 2≤sizeLine;decide,[ux,uy],.cons rx (.cons ry .nil),⟨_,gT,rfl,_,rfl⟩⟩,rfl,⟨T,rfl,Dj,fun qf qg h1 h2=>?_⟩,⟨D,⟨false,z2⟩,up _ _ d1 tI,⟨xo,yo,up _ _ d2 go'⟩,B.j1.extBut s2.extBut d3,B.j2.extBut s2.extBut d4⟩,fun c aW=>?_⟩
  ·rw[←I.qh iV h1,←I.qh kQ h2]
   exact⟨x,y,hx,hy,rfl⟩
  ·rw[bg (PH c aW)]
   exact(hf c aW).1
 done:=fun X hP hw hK hc i pins s σ H E I hf Z st=>by
  subst hP hw hK
  obtain⟨xs,ys,iV,kQ,lh⟩:=st
  obtain⟨ia,va,ta,_⟩:=I.tuple iV
  obtain⟨ib,vb,tb,_⟩:=I.tuple kQ
  obtain⟨D,⟨b1,hz⟩,gI,⟨x0,y0,gO⟩,j1,j2⟩:=Z
  have la:=va.length
  have lb:=vb.length
  refine wu.stop (xs:=ia.toArray) (ys:=ib.toArray) (I.ok.hd hc) ⟨D,⟨.none,b1,hz,.inl rfl⟩,gI,⟨x0,y0,gO⟩,j1,j2,ta,tb⟩ ?_ fun h' kk=>⟨rfl,I.zS (t':=s.toks) hf fun c u aW e=>?_⟩
  ·rcases lh with h|h
   ·exact .inl (Array.getElem?_eq_none (by simp;omega))
   ·exact .inr (Array.getElem?_eq_none (by simp;omega))
  ·simp only[List.mem_cons,List.not_mem_nil,or_false,not_or]at aW
   exact kk c u aW.1 aW.2.2.1 aW.2.2.2.1 aW.2.2.2.2 e
 self:=fun A i s Q E Z q=>by
  obtain⟨D,⟨b1,hz⟩,_⟩:=Z
  have hT:s.TypeIs (.ref z) "zip":=⟨_,hz,rfl⟩
  refine wpAny_pyIter_slot hT F.slot_zip_iter (wpAny_call_entry F.slot_zip_iter hT F.entry_zip_iter ?_ (F.args_zip_iter_1 _))
  exact wpAny_pure ⟨_,rfl,"zip",_,hT,F.slot_zip_next.lookup,q⟩
def PJ(K:PySem.W.Frag)(t:TA):TI:=fun σ H R=>t σ H fun vs H1=>∃a b xs ys,vs=[.ref a,.ref b]∧cN K H1 a xs∧cN K H1 b ys∧R (PF K a b) H1
section
variable{X:Cx}{e1 e2:Expr}{p0 p1 p2 pos:Pos}{f:Qm.XA}{es:List Expr}{k0:Nat}
theorem Mf{t:TA}(hg:Gl X "zip")(hm:X.mg "zip" =none)(ha:PA X [e1,e2] t)(iX:starEach [e1,e2] X.env=(false,eval e1 X.env)::starEach [e2] X.env:=by rfl)(dJ:(backTo p2 (starEach [e2] X.env)).any (·.1)=false:=by rfl):
  PI X (.Tuple es k0 p0) (.Call (.Name "zip" p1) [e1,e2] [] p2) (PJ X.K t):=by
 intro pins s σ H R I h
 refine wpAny_Call_Name_kw (gi I hg hm (u:=.type "zip") (by decide +kernel) ?_)
 refine PyProof.Rows.callWith_type1 (bL (ha p2 pins s σ H _ I h) fun us s1 ⟨vs,H1,I1,r1,q1⟩=>?_) iX dJ
 obtain⟨a,b,xs,ys,rfl,n_,wH,q⟩:=q1
 obtain⟨u1,u2,rfl,ra,rb⟩:=vals2 r1
 cases (show u1=Value.ref a from ra)
 cases (show u2=Value.ref b from rb)
 obtain⟨ia,va,ta,za⟩:=I1.tuple n_
 obtain⟨ib,vb,tb,zb⟩:=I1.tuple wH
 refine FV (xs:=ia.toArray) (ys:=ib.toArray) ta tb fun h2 Z zr sz up=>?_
 refine Z.self ?_
 obtain⟨D,⟨f0,b1,hz,hf⟩,gI,gO,j1,j2,_,_⟩:=Z
 have I2:Inv X pins σ H1 { s1 with heap:=h2 }:=I1.kept (t':=s1.toks) up
 have fr:∀c,s1.heap.objs.size≤c→hV X pins H1 c:=fun c hc=>I1.pN hc (I1.bj.fresh hc)
 refine⟨_,_,_,PF X.K a b,H1,rfl,I2,FX _ _ _ _ _ a b,⟨D,⟨false,zr⟩,gI,gO,j1,j2⟩,fun c hc=>?_,q⟩
 ·rcases List.mem_cons.mp hc with rfl|hc
  ·exact fr _ (Nat.le_add_right _ _)
  rcases List.mem_cons.mp hc with rfl|hc
  ·exact fr _ (Nat.le_add_right _ _)
  rcases List.mem_cons.mp hc with rfl|hc
  ·exact fr _ (Nat.le_add_right _ _)
  rcases List.mem_cons.mp hc with rfl|hc
  ·exact fr _ (Nat.le_refl _)
  ·have:c=s1.heap.objs.size+1:=by simpa using hc
   subst this
   exact fr _ (Nat.le_add_right _ _)
theorem sY{xs ys:List Qm.D}{i:Nat}{d:Qm.D}(h:(Qm.eA xs ys)[i]? =some d):∃x y,xs[i]? =some x∧ys[i]? =some y∧d= .tup [x,y]:=by
 unfold Qm.eA at h
 rw[List.getElem?_map]at h
 cases e:(xs.zip ys)[i]? with
 |none=>rw[e]at h;cases h
 |some p=>
  rw[e]at h
  cases h
  obtain⟨h1,h2⟩:=List.getElem?_zip_eq_some.mp e
  exact⟨p.1,p.2,h1,h2,rfl⟩
theorem Mg(hg:Gl X "zip")(hm:X.mg "zip" =none)(ha:QA X [e1,e2] f)(iX:starEach [e1,e2] X.env=(false,eval e1 X.env)::starEach [e2] X.env:=by rfl)(dJ:(backTo p2 (starEach [e2] X.env)).any (·.1)=false:=by rfl):
  QI X (.Tuple es k0 p0) (.Call (.Name "zip" p1) [e1,e2] [] p2) (Qm.Bn f):=(Mf hg hm ha iX dJ).imp <| by
 rintro σ H R ⟨ρ,env,c,m,c',rs,re,e,k⟩
 obtain⟨p,ea,e⟩:=aF e
 refine⟨ρ,env,c,p.1,p.2,rs,re,ea,fun aN vs H1 n1 r1=>?_⟩
 split at e
 ·rename_i xs ys hp
  cases e
  rw[hp]at r1
  obtain⟨v,u,rfl,rx,ry⟩:=r1.uc
  obtain⟨a,va,rfl,n_,aa⟩:=rx.jM
  obtain⟨b,vb,rfl,wH,ab⟩:=ry.jM
  refine⟨a,b,va,vb,rfl,cN.of n_,cN.of wH,k aN _ H1 n1 fun jm c2 H2 u2 pH _=>?_⟩
  have wI:=u2.ts _ _ n_
  have Iy:=u2.ts _ _ wH
  have VF:=aa.up u2
  have VG:=ab.up u2
  have l1:=aa.length
  have l2:=ab.length
  have hl:(Qm.eA xs ys).length=min xs.length ys.length:=by simp[Qm.eA]
  refine⟨fun i hi=>?_,⟨va,vb,cN.of wI,cN.of Iy,?_⟩,fun i d x H' hd hy=>?_⟩
  ·dsimp only at hi
   have h1:i<va.length:=by omega
   have h2:i<vb.length:=by omega
   exact⟨va,vb,va[i],vb[i],cN.of wI,cN.of Iy,List.getElem?_eq_getElem h1,List.getElem?_eq_getElem h2⟩
  ·show va.length≤(Qm.eA xs ys).length∨vb.length≤(Qm.eA xs ys).length
   omega
  ·obtain⟨T,rfl,hT,hy⟩:=hy
   obtain⟨x',y',h1,h2,rfl⟩:=hy va vb (cN.of wI) (cN.of Iy)
   obtain⟨dx,dy,g1,g2,rfl⟩:=sY hd
   obtain⟨v1,q1,r1⟩:=VF.get g1
   obtain⟨v2,q2,r2⟩:=VG.get g2
   rw[h1]at q1;cases q1
   rw[h2]at q2;cases q2
   have n:=Nx.same pH (iR (z:=.tup [x',y']) hT)
   exact⟨n,.tup cS (.cons (r1.up n.up) (.cons (r2.up n.up) .nil))⟩
 ·cases e
end
end L2
namespace Qm
open PySem
noncomputable section
def iY(xs:List D):List D:=xs.zipIdx.map fun p=>.tup [.int p.2,p.1]
def og(a:XA):XI:=fun σ c=>(a σ c).bind fun p=>match p.1 with
 |[.ref n]=>(p.2[n]?).bind fun z=>(bq (.ref n) p.2).bind fun l=>some (⟨iY l.2,[(n,z)]⟩,p.2)
 |_=>none
open Classical in
def Bt(x y:D)(c:Cells):Option Bool:=(data c 60 x).bind fun d=>(data c 60 y).bind fun e=>some (decide (d=e))
def wJ:G2:=fun x y c=>(Bt x y c).bind fun b=>some (.bl b,c)
def Bu:G2:=fun x y c=>(Bt x y c).bind fun b=>some (.bl (!b),c)
end
end Qm
namespace L2
open PySem PySem.Spec PyProof.Rows
section
variable{K:PySem.W.Frag}
theorem yr{ρ:Nat→Addr}{c:Qm.Cells}{H:Hp}{x y:Qm.D}{v u:V}{b:Bool}(rs:RS K ρ c H)(rx:RD K ρ c.length H x v)(ry:RD K ρ c.length H y u)(h:Qm.Bt x y c=some b):
  ∃d e,jP K H v d∧jP K H u e∧SeqAt.shaped d=true∧SeqAt.shaped e=true∧PyData.eqv d e=b:=by
 unfold Qm.Bt at h
 obtain⟨d,h1,h⟩:=aF h
 obtain⟨e,h2,h⟩:=aF h
 cases h
 obtain⟨a1,a2,a3,a4⟩:=mZ rs 60 rx h1
 obtain⟨b1,b2,b3,b4⟩:=mZ rs 60 ry h2
 refine⟨d,e,a1,b1,by simp[SeqAt.shaped,a2];omega,by simp[SeqAt.shaped,b2];omega,?_⟩
 have:=nZ d e a4 b4
 by_cases q:d=e
 ·rw[this.mpr q];simp[q]
 ·cases z:PyData.eqv d e with
  |false=>simp[q]
  |true=>exact absurd (this.mp z) q
theorem Ex:jl K (fun x y H Q=>Lo x y H Q∨t_ K false x y H Q) Qm.wJ:=by
 intro ρ c H x y d c' v u Q rs rx ry e k
 obtain⟨b,e1,e⟩:=aF e
 cases e
 obtain⟨dd,ee,a1,a2,a3,a4,a5⟩:=yr rs rx ry e1
 refine .inr ⟨dd,ee,a1,a2,a3,a4,?_⟩
 rw[if_neg (by decide),a5]
 exact k ρ _ H (Nx.refl rs) (.bl _)
theorem Ey:jl K (fun x y H Q=>Lp x y H Q∨t_ K true x y H Q) Qm.Bu:=by
 intro ρ c H x y d c' v u Q rs rx ry e k
 obtain⟨b,e1,e⟩:=aF e
 cases e
 obtain⟨dd,ee,a1,a2,a3,a4,a5⟩:=yr rs rx ry e1
 refine .inr ⟨dd,ee,a1,a2,a3,a4,?_⟩
 rw[if_pos rfl,a5]
 exact k ρ _ H (Nx.refl rs) (.bl _)
end
def PK(K:PySem.W.Frag)(a:Addr):It:=
 ⟨fun i H=>∃xs x,bU K H a xs∧xs[i]? =some x,
      fun i H v H'=>∃T,v= .ref T∧H T=none∧∀xs,bU K H a xs→∃x,xs[i]? =some x∧H'=upd H T (.tup [.int i,x]),
      fun i H=>∃xs,bU K H a xs∧xs.length≤i⟩
theorem Dk{P:Program}{w:World}{K:PySem.W.Frag}{es:List Expr}{k0:Nat}{p0:Pos}(e it a:Addr)(S6:e≠it):
  Turn P w K (.Tuple es k0 p0) (PK K a) [e,it] e (fun i h=>(∃old,IsEnum h e it i old)∧h.IsListIter it a i) where
 mem:=by simp
 obj:=fun i h Z c hc=>by
  obtain⟨⟨old,he⟩,hit⟩:=Z
  rcases List.mem_cons.mp hc with rfl|hc
  ·exact⟨_,he,by simp⟩
  ·have:c=it:=by simpa using hc
   subst this
   obtain⟨o,e,_,d⟩:=hit
   exact⟨o,e,by rw[d];simp⟩
 keep:=fun i h h' Z kk=>by
  obtain⟨⟨old,he⟩,hit⟩:=Z
  exact⟨⟨old,kk _ (by simp) _ he⟩,hit.at fun o e=>kk _ (by simp) o e⟩
 item:=fun X hP hw hK hc i pins s σ H E I hf Z go=>by
  subst hP hw hK
  obtain⟨xs,x,iV,hx⟩:=go
  obtain⟨ia,va,p,_⟩:=I.list iV
  obtain⟨ux,zT,rx⟩:=va.get hx
  obtain⟨⟨old,he⟩,hit⟩:=Z
  refine wpAny_pyNext_enum_item he hit p.isList (x:=ux) (by simpa using zT) S6 fun h' ho S7 hT hsz hk=>?_
  refine⟨_,rfl,?_⟩
  refine wpAny_letOwnedTupleGo_enum ho fun h2 VH iX=>?_
  have S_:s.heap.objs.size≠e:=Nat.ne_of_gt (Heap.lt_size he)
  have VI:s.heap.objs.size≠it:=by
   obtain⟨o,q,_⟩:=hit
   exact Nat.ne_of_gt (Heap.lt_size q)
  have gT:=iX.extBut _ _ S_ hT
  have nB:∀c u,c∉[e,it]→s.heap.get? c=some u→h2.get? c=some u:=fun c u aW q=>by
   simp only[List.mem_cons,List.not_mem_nil,or_false,not_or]at aW
   exact iX.extBut c u aW.1 (hk c u aW.1 aW.2 q)
  have Dj:H s.heap.objs.size=none:=I.bj.fresh (Nat.le_refl _)
  refine⟨.ref s.heap.objs.size,upd H s.heap.objs.size (.tup [.int i,x]),I.wG (t':=s.toks+1) hf nB (Nat.le_refl _) ⟨by show 2≤sizeLine;decide,[.int i s.toks,ux],.cons ⟨_,rfl⟩ (.cons rx .nil),⟨_,gT,rfl,_,rfl⟩⟩,rfl,⟨_,rfl,Dj,fun qf h1=>?_⟩,⟨⟨_,by simpa using VH⟩,S7.extBut iX.extBut S6.symm⟩,fun c aW=>?_⟩
  ·rw[←I.iO iV h1]
   exact⟨x,hx,rfl⟩
  ·have fO:c≠s.heap.objs.size:=by
    rcases List.mem_cons.mp aW with rfl|aW
    ·exact S_.symm
    ·have:c=it:=by simpa using aW
     subst this
     exact VI.symm
   rw[bg fO]
   exact(hf c aW).1
 done:=fun X hP hw hK hc i pins s σ H E I hf Z st=>by
  subst hP hw hK
  obtain⟨xs,iV,lh⟩:=st
  obtain⟨ia,va,p,_⟩:=I.list iV
  obtain⟨⟨old,he⟩,hit⟩:=Z
  have la:=va.length
  refine wpAny_pyNext_enum_end (I.ok.hd hc) he hit p.isList (Array.getElem?_eq_none (by simp;omega)) fun h' eb=>⟨rfl,I.zS (t':=s.toks) hf fun c u aW q=>?_⟩
  simp only[List.mem_cons,List.not_mem_nil,or_false,not_or]at aW
  exact eb c u aW.2 q
 self:=fun A i s Q E Z q=>by
  obtain⟨⟨old,he⟩,_⟩:=Z
  exact wpAny_pyIter_enum he q
def Mh(K:PySem.W.Frag)(t:TA):TI:=fun σ H R=>t σ H fun vs H1=>∃a xs,vs=[.ref a]∧bU K H1 a xs∧R (PK K a) H1
section
variable{X:Cx}{e1:Expr}{p0 p1 p2 pos:Pos}{f:Qm.XA}{es:List Expr}{k0:Nat}
theorem Iz{t:TA}(hg:Gl X "enumerate")(hm:X.mg "enumerate" =none)(ha:PA X [e1] t)(iX:starEach [e1] X.env=(false,eval e1 X.env)::starEach [] X.env:=by rfl)(dJ:(backTo p2 (starEach [] X.env)).any (·.1)=false:=by rfl):
  PI X (.Tuple es k0 p0) (.Call (.Name "enumerate" p1) [e1] [] p2) (Mh X.K t):=by
 intro pins s σ H R I h
 refine wpAny_Call_Name_kw (gi I hg hm (u:=.type "enumerate") (by decide +kernel) ?_)
 refine PyProof.Rows.callWith_type1 (bL (ha p2 pins s σ H _ I h) fun us s1 ⟨vs,H1,I1,r1,q1⟩=>?_) iX dJ
 obtain⟨a,xs,rfl,n_,q⟩:=q1
 obtain⟨u1,rfl,ra⟩:=vals1 r1
 cases (show u1=Value.ref a from ra)
 obtain⟨ia,va,p,za⟩:=I1.list n_
 refine call_enumerate_list p.isList fun h2 he hit sz up=>?_
 refine wpAny_pyIter_enum he ?_
 have I2:Inv X pins σ H1 { s1 with heap:=h2 }:=I1.kept (t':=s1.toks) up
 have fr:∀c,s1.heap.objs.size≤c→hV X pins H1 c:=fun c hc=>I1.pN hc (I1.bj.fresh hc)
 refine⟨_,_,_,PK X.K a,H1,rfl,I2,Dk _ _ a (show s1.heap.objs.size+1≠s1.heap.objs.size by omega),⟨⟨_,he⟩,hit⟩,fun c hc=>?_,q⟩
 rcases List.mem_cons.mp hc with rfl|hc
 ·exact fr _ (Nat.le_add_right _ _)
 ·have:c=s1.heap.objs.size:=by simpa using hc
  subst this
  exact fr _ (Nat.le_refl _)
theorem Dl{xs:List Qm.D}{i:Nat}{d:Qm.D}(h:(Qm.iY xs)[i]? =some d):∃x,xs[i]? =some x∧d= .tup [.int i,x]:=by
 unfold Qm.iY at h
 rw[List.getElem?_map,List.getElem?_zipIdx]at h
 cases q:xs[i]? with
 |none=>rw[q]at h;cases h
 |some x=>rw[q]at h;simp at h;exact⟨x,rfl,h.symm⟩
theorem Bv(hg:Gl X "enumerate")(hm:X.mg "enumerate" =none)(ha:QA X [e1] f)(iX:starEach [e1] X.env=(false,eval e1 X.env)::starEach [] X.env:=by rfl)(dJ:(backTo p2 (starEach [] X.env)).any (·.1)=false:=by rfl):
  QI X (.Tuple es k0 p0) (.Call (.Name "enumerate" p1) [e1] [] p2) (Qm.og f):=(Iz hg hm ha iX dJ).imp <| by
 rintro σ H R ⟨ρ,env,c,m,c',rs,re,e,k⟩
 obtain⟨p,ea,e⟩:=aF e
 refine⟨ρ,env,c,p.1,p.2,rs,re,ea,fun aN vs H1 n1 r1=>?_⟩
 split at e
 ·rename_i n hp
  obtain⟨z,e2,e⟩:=aF e
  obtain⟨l,e3,e⟩:=aF e
  cases e
  rw[hp]at r1
  obtain⟨v,rfl,rx⟩:=r1.iJ
  obtain⟨hv,hn⟩:=rx.k_
  subst hv
  obtain⟨dn,zU,ws,_,h1,a1⟩:=n1.rs.bq (d:=.ref n) (.ref hn) (show Qm.bq (.ref n) p.2=some (l.1,l.2)from e3)
  have PL:l.1=n:=by cases dn;rfl
  rw[PL]at zU h1
  refine⟨_,ws,rfl,bU.of h1,k aN _ H1 n1 fun jm c2 H2 u2 pH mL=>?_⟩
  have hz:z= .lst l.2:=by rw[e2]at zU;exact Option.some.inj zU
  obtain⟨us,h2,a2⟩:=pH.lst (by rw[←hz];exact mL (n,z) (by simp))
  rw[u2.agree n hn]at h2
  have hl:(Qm.iY l.2).length=us.length:=by rw[←a2.length];simp[Qm.iY]
  refine⟨fun i hi=>?_,⟨us,bU.of h2,by show us.length≤(Qm.iY l.2).length;omega⟩,fun i d x H' hd hy=>?_⟩
  ·dsimp only at hi
   have h3:i<us.length:=by omega
   exact⟨us,us[i],bU.of h2,List.getElem?_eq_getElem h3⟩
  ·obtain⟨T,rfl,hT,hy⟩:=hy
   obtain⟨x',h3,rfl⟩:=hy us (bU.of h2)
   obtain⟨dx,g1,rfl⟩:=Dl hd
   obtain⟨v1,q1,r1⟩:=a2.get g1
   rw[h3]at q1;cases q1
   have n:=Nx.same pH (iR (z:=.tup [.int i,x']) hT)
   exact⟨n,.tup cS (.cons (.int _) (.cons (r1.up n.up) .nil))⟩
 ·cases e
end
end L2
namespace L2
open PySem PySem.Spec PyProof.Rows
section
variable{X:Cx}{pins:List (Addr×Obj)}{σ:St}{H:Hp}{s:Shared}{h':Heap}
end
section
variable{X:Cx}{tg l:Expr}{tl:TE}
end
section
variable{K:PySem.W.Frag}{ρ ba:Nat→Addr}{N:Nat}{c c':Qm.Cells}{H H':Hp}
theorem RK.at_:∀{ps:List (Str×Qm.D)}{us:List (Key×V)},RK K ρ N H ps us→∀{i:Nat}{p:Str×Qm.D},ps[i]? =some p→∃kv,us[i]? =some kv∧kv.1= .inr p.1
 |_,_,.nil,i,p,h=>by simp at h
 |_,_,.cons (k:=k') _ a,0,p,h=>by simp at h;subst h;exact⟨_,rfl,rfl⟩
 |_,_,.cons _ a,i+1,p,h=>by
  obtain⟨kv,h1,h2⟩:=RK.at_ a (i:=i) (p:=p) (by simpa using h)
  exact⟨kv,by simpa using h1,h2⟩
end
section
variable{X:Cx}{e a b tg:Expr}{fe fa fb:Qm.XE}{pos:Pos}
end
end L2
namespace L2
open PySem PySem.Spec PyProof.Rows
section
variable{X:Cx}{pins:List (Addr×Obj)}{σ:St}{H:Hp}{s:Shared}
end
end L2
namespace Qm
open PySem
noncomputable section
end
end Qm
namespace Qm
open PySem
noncomputable section
end
end Qm
namespace L2
open PySem PySem.Spec PyProof.Rows
section
variable{X:Cx}
end
section
variable{K:PySem.W.Frag}{ρ:Nat→Addr}{c:Qm.Cells}{H:Hp}
end
end L2
namespace PySem
open Sem (wp)
open AutoSeq1 (wpAny_loadPart')
open MeetsSeq MeetsSeq2 MeetsSeq3 SeqRoads2
section
variable{P:Program}{W:World}
variable{A:Around}{E:Value→Shared→Prop}{s:Shared}
end
end PySem
namespace L2
open PySem PySem.Spec PyProof.Rows
section
variable{X:Cx}
end
section
variable{K:PySem.W.Frag}{ρ:Nat→Addr}{c:Qm.Cells}{H:Hp}
end
end L2
namespace Qm
open PySem
noncomputable section
def hG(a:XA):XI:=fun σ c=>(a σ c).bind fun p=>match p.1 with
 |[.ref n,.ref m]=>(p.2[n]?).bind fun z=>(p.2[m]?).bind fun y=>(bq (.ref n) p.2).bind fun l=>(bq (.ref m) p.2).bind fun k=>some (⟨eA l.2 k.2,[(n,z),(m,y)]⟩,p.2)
 |_=>none
end
end Qm
namespace PySem
open Sem (wp)
section
variable{prog:Program}{w:World}{A:Around}{E:Value→Shared→Prop}{s:Shared}{I:Addr}{fp wr:List Addr}{G:Array GenState→Array GenState→Prop}{n:Nat}{P:Nat→Value→Prop}{St:Nat→Shared→Prop}
end
end PySem
namespace L2
open PySem PySem.Spec PyProof.Rows
section
variable{X:Cx}
end
end L2
namespace L2
open PySem PySem.Spec PyProof.Rows
theorem sZ{m a b:Nat}(ha:a<m)(hb:b<m):ZipApart (m+4) (m+2) (m+3) m (m+1) a b:=by
 constructor<;>first|exact Nat.ne_of_lt (by omega)|exact Nat.ne_of_gt (by omega)
def Bw(K:PySem.W.Frag)(a b:Addr):It:=
 ⟨fun i H=>∃xs ys x y,bU K H a xs∧bU K H b ys∧xs[i]? =some x∧ys[i]? =some y,
      fun i H v H'=>∃T,v= .ref T∧H T=none∧∀xs ys,bU K H a xs→bU K H b ys→∃x y,xs[i]? =some x∧ys[i]? =some y∧H'=upd H T (.tup [x,y]),
      fun i H=>∃xs ys,bU K H a xs∧bU K H b ys∧(xs.length≤i∨ys.length≤i)⟩
theorem Dm{P:Program}{w:World}{K:PySem.W.Frag}{es:List Expr}{k0:Nat}{p0:Pos}(z TI TO i1 i2 a b:Addr)(D:ZipApart z TI TO i1 i2 a b):
  Turn P w K (.Tuple es k0 p0) (Bw K a b) [z,TI,TO,i1,i2] z (fun i h=>IsZip h z TI TO .none∧IsPair h TI (.ref i1) (.ref i2)∧(∃x y,IsPair h TO x y)∧h.IsListIter i1 a i∧h.IsListIter i2 b i) where
 mem:=by simp
 obj:=fun i h Z c hc=>by
  obtain⟨hz,gI,⟨x,y,gO⟩,j1,j2⟩:=Z
  rcases List.mem_cons.mp hc with rfl|hc
  ·exact⟨_,hz,by simp⟩
  rcases List.mem_cons.mp hc with rfl|hc
  ·exact⟨_,gI,by simp⟩
  rcases List.mem_cons.mp hc with rfl|hc
  ·exact⟨_,gO,by simp⟩
  rcases List.mem_cons.mp hc with rfl|hc
  ·obtain⟨o,e,_,d⟩:=j1
   exact⟨o,e,by rw[d];simp⟩
  ·have:c=i2:=by simpa using hc
   subst this
   obtain⟨o,e,_,d⟩:=j2
   exact⟨o,e,by rw[d];simp⟩
 keep:=fun i h h' Z kk=>by
  obtain⟨hz,gI,⟨x,y,gO⟩,j1,j2⟩:=Z
  exact⟨kk _ (by simp) _ hz,kk _ (by simp) _ gI,⟨x,y,kk _ (by simp) _ gO⟩,j1.at fun o e=>kk _ (by simp) o e,j2.at fun o e=>kk _ (by simp) o e⟩
 item:=fun X hP hw hK hc i pins s σ H E I hf Z go=>by
  subst hP hw hK
  obtain⟨xs,ys,x,y,iV,kQ,hx,hy⟩:=go
  obtain⟨ia,va,ta,_⟩:=I.list iV
  obtain⟨ib,vb,tb,_⟩:=I.list kQ
  obtain⟨ux,zT,rx⟩:=va.get hx
  obtain⟨uy,Di,ry⟩:=vb.get hy
  obtain⟨hz,gI,⟨x0,y0,gO⟩,j1,j2⟩:=Z
  refine wpAny_pyNext_zip_item D hz gI gO j1 j2 ta.isList tb.isList (x:=ux) (y:=uy) (by simpa using zT) (by simpa using Di) fun h' zr PM PN PQ gT sz keep=>⟨_,rfl,?_⟩
  refine wpAny_letOwnedTupleGo_zip zr fun h2 z2 s2=>?_
  have up:∀c o,c≠z→h'.get? c=some o→h2.get? c=some o:=fun c o aW e=>s2.extBut _ _ aW e
  have zl:z<s.heap.objs.size:=Heap.lt_size hz
  have Tz:s.heap.objs.size≠z:=Nat.ne_of_gt zl
  have PR:=up _ _ Tz gT
  have tI:=keep _ _ D.TIz D.TITO D.TIi1 D.TIi2 gI
  have nB:∀c u,c∉[z,TI,TO,i1,i2]→s.heap.get? c=some u→h2.get? c=some u:=fun c u aW e=>by
   simp only[List.mem_cons,List.not_mem_nil,or_false,not_or]at aW
   exact up c u aW.1 (keep c u aW.1 aW.2.2.1 aW.2.2.2.1 aW.2.2.2.2 e)
  have Dj:H s.heap.objs.size=none:=I.bj.fresh (Nat.le_refl _)
  have PH:∀c∈[z,TI,TO,i1,i2],c≠s.heap.objs.size:=fun c aW=>by
   have:c<s.heap.objs.size:=by
    rcases List.mem_cons.mp aW with rfl|aW
    ·exact zl
    rcases List.mem_cons.mp aW with rfl|aW
    ·exact Heap.lt_size gI
    rcases List.mem_cons.mp aW with rfl|aW
    ·exact Heap.lt_size gO
    rcases List.mem_cons.mp aW with rfl|aW
    ·obtain⟨o,e,_⟩:=j1;exact Heap.lt_size e
    ·have:c=i2:=by simpa using aW
     subst this
     obtain⟨o,e,_⟩:=j2;exact Heap.lt_size e
   exact Nat.ne_of_lt this
  refine⟨.ref s.heap.objs.size,upd H s.heap.objs.size (.tup [x,y]),I.wG (t':=s.toks) hf nB (Nat.le_refl _) ⟨by show 2≤sizeLine;decide,[ux,uy],.cons rx (.cons ry .nil),⟨_,PR,rfl,_,rfl⟩⟩,rfl,⟨_,rfl,Dj,fun qf qg h1 h2=>?_⟩,⟨z2,up _ _ D.TIz tI,⟨_,_,up _ _ D.TOz PM⟩,PN.extBut s2.extBut D.i1z,PQ.extBut s2.extBut D.i2z⟩,fun c aW=>?_⟩
  ·rw[←I.iO iV h1,←I.iO kQ h2]
   exact⟨x,y,hx,hy,rfl⟩
  ·rw[bg (PH c aW)]
   exact(hf c aW).1
 done:=fun X hP hw hK hc i pins s σ H E I hf Z st=>by
  subst hP hw hK
  obtain⟨xs,ys,iV,kQ,lh⟩:=st
  obtain⟨ia,va,ta,_⟩:=I.list iV
  obtain⟨ib,vb,tb,_⟩:=I.list kQ
  obtain⟨hz,gI,⟨x0,y0,gO⟩,j1,j2⟩:=Z
  have la:=va.length
  have lb:=vb.length
  refine wpAny_pyNext_zip_end (I.ok.hd hc) D hz gI gO j1 j2 ta.isList tb.isList ?_ fun h' kk=>⟨rfl,I.zS (t':=s.toks) hf fun c u aW e=>?_⟩
  ·rcases lh with h|h
   ·exact .inl (Array.getElem?_eq_none (by simp;omega))
   ·exact .inr (Array.getElem?_eq_none (by simp;omega))
  ·simp only[List.mem_cons,List.not_mem_nil,or_false,not_or]at aW
   exact kk c u aW.1 aW.2.2.1 aW.2.2.2.1 aW.2.2.2.2 e
 self:=fun A i s Q E Z q=>wpAny_pyIter_zip Z.1 q
def zV(K:PySem.W.Frag)(t:TA):TI:=fun σ H R=>t σ H fun vs H1=>∃a b xs ys,vs=[.ref a,.ref b]∧bU K H1 a xs∧bU K H1 b ys∧R (Bw K a b) H1
section
variable{X:Cx}{e1 e2:Expr}{p0 p1 p2 pos:Pos}{f:Qm.XA}{es:List Expr}{k0:Nat}
theorem IA{t:TA}(hg:Gl X "zip")(hm:X.mg "zip" =none)(ha:PA X [e1,e2] t)(iX:starEach [e1,e2] X.env=(false,eval e1 X.env)::starEach [e2] X.env:=by rfl)(dJ:(backTo p2 (starEach [e2] X.env)).any (·.1)=false:=by rfl):
  PI X (.Tuple es k0 p0) (.Call (.Name "zip" p1) [e1,e2] [] p2) (zV X.K t):=by
 intro pins s σ H R I h
 refine wpAny_Call_Name_kw (gi I hg hm (u:=.type "zip") (by decide +kernel) ?_)
 refine PyProof.Rows.callWith_type1 (bL (ha p2 pins s σ H _ I h) fun us s1 ⟨vs,H1,I1,r1,q1⟩=>?_) iX dJ
 obtain⟨a,b,xs,ys,rfl,n_,wH,q⟩:=q1
 obtain⟨u1,u2,rfl,ra,rb⟩:=vals2 r1
 cases (show u1=Value.ref a from ra)
 cases (show u2=Value.ref b from rb)
 obtain⟨ia,va,ta,za⟩:=I1.list n_
 obtain⟨ib,vb,tb,zb⟩:=I1.list wH
 have la:a<s1.heap.objs.size:=by obtain⟨o,ho,_⟩:=ta.isList;exact Heap.lt_size ho
 have lb:b<s1.heap.objs.size:=by obtain⟨o,ho,_⟩:=tb.isList;exact Heap.lt_size ho
 refine call_zip_2 ta.isList tb.isList fun h2 hz gI gO j1 j2 sz up=>?_
 refine wpAny_pyIter_zip hz ?_
 have I2:Inv X pins σ H1 { s1 with heap:=h2 }:=I1.kept (t':=s1.toks) up
 have fr:∀c,s1.heap.objs.size≤c→hV X pins H1 c:=fun c hc=>I1.pN hc (I1.bj.fresh hc)
 have D:=sZ la lb
 refine⟨_,_,_,Bw X.K a b,H1,rfl,I2,Dm _ _ _ _ _ a b D,⟨hz,gI,⟨_,_,gO⟩,j1,j2⟩,fun c hc=>?_,q⟩
 ·rcases List.mem_cons.mp hc with rfl|hc
  ·exact fr _ (Nat.le_add_right _ _)
  rcases List.mem_cons.mp hc with rfl|hc
  ·exact fr _ (Nat.le_add_right _ _)
  rcases List.mem_cons.mp hc with rfl|hc
  ·exact fr _ (Nat.le_add_right _ _)
  rcases List.mem_cons.mp hc with rfl|hc
  ·exact fr _ (Nat.le_refl _)
  ·have:c=s1.heap.objs.size+1:=by simpa using hc
   subst this
   exact fr _ (Nat.le_add_right _ _)
theorem yt{K:PySem.W.Frag}{f:Qm.XA}:∀σ H R,IQ K (Qm.hG f) σ H R→zV K (AQ K f) σ H R:=by
 rintro σ H R ⟨ρ,env,c,m,c',rs,re,e,k⟩
 obtain⟨p,ea,e⟩:=aF e
 refine⟨ρ,env,c,p.1,p.2,rs,re,ea,fun aN vs H1 n1 r1=>?_⟩
 split at e
 ·rename_i n m' hp
  obtain⟨z,e2,e⟩:=aF e
  obtain⟨y,e3,e⟩:=aF e
  obtain⟨l,e4,e⟩:=aF e
  obtain⟨l2,e5,e⟩:=aF e
  cases e
  rw[hp]at r1
  obtain⟨v,u,rfl,rx,ry⟩:=r1.uc
  obtain⟨hv,hn⟩:=rx.k_
  obtain⟨hu,zW⟩:=ry.k_
  subst hv hu
  obtain⟨dn,zU,ws,_,h1,a1⟩:=n1.rs.bq (d:=.ref n) (.ref hn) (show Qm.bq (.ref n) p.2=some (l.1,l.2)from e4)
  obtain⟨PU,Bx,zK,_,IB,VJ⟩:=n1.rs.bq (d:=.ref m') (.ref zW) (show Qm.bq (.ref m') p.2=some (l2.1,l2.2)from e5)
  have PL:l.1=n:=by cases dn;rfl
  have IC:l2.1=m':=by cases PU;rfl
  rw[PL]at zU h1
  rw[IC]at Bx IB
  refine⟨_,_,ws,zK,rfl,bU.of h1,bU.of IB,k aN _ H1 n1 fun jm c2 H2 u2 pH mL=>?_⟩
  have hz:z= .lst l.2:=by rw[e2]at zU;exact Option.some.inj zU
  have hy:y= .lst l2.2:=by rw[e3]at Bx;exact Option.some.inj Bx
  obtain⟨us,h2,a2⟩:=pH.lst (by rw[←hz];exact mL (n,z) (by simp))
  obtain⟨s_,zX,ID⟩:=pH.lst (by rw[←hy];exact mL (m',y) (by simp))
  rw[u2.agree n hn]at h2
  rw[u2.agree m' zW]at zX
  have l1:=a2.length
  have VL:=ID.length
  have hl:(Qm.eA l.2 l2.2).length=min l.2.length l2.2.length:=by simp[Qm.eA]
  refine⟨fun i hi=>?_,⟨us,s_,bU.of h2,bU.of zX,?_⟩,fun i d x H' hd hy=>?_⟩
  ·dsimp only at hi
   have g1:i<us.length:=by omega
   have g2:i<s_.length:=by omega
   exact⟨us,s_,us[i],s_[i],bU.of h2,bU.of zX,List.getElem?_eq_getElem g1,List.getElem?_eq_getElem g2⟩
  ·show us.length≤(Qm.eA l.2 l2.2).length∨s_.length≤(Qm.eA l.2 l2.2).length
   omega
  ·obtain⟨T,rfl,hT,hy⟩:=hy
   obtain⟨x',y',g1,g2,rfl⟩:=hy us s_ (bU.of h2) (bU.of zX)
   obtain⟨dx,dy,f1,f2,rfl⟩:=sY hd
   obtain⟨v1,q1,r1⟩:=a2.get f1
   obtain⟨v2,q2,r2⟩:=ID.get f2
   rw[g1]at q1;cases q1
   rw[g2]at q2;cases q2
   have n:=Nx.same pH (iR (z:=.tup [x',y']) hT)
   exact⟨n,.tup cS (.cons (r1.up n.up) (.cons (r2.up n.up) .nil))⟩
 ·cases e
theorem IE(hg:Gl X "zip")(hm:X.mg "zip" =none)(ha:QA X [e1,e2] f)(iX:starEach [e1,e2] X.env=(false,eval e1 X.env)::starEach [e2] X.env:=by rfl)(dJ:(backTo p2 (starEach [e2] X.env)).any (·.1)=false:=by rfl):
  QI X (.Tuple es k0 p0) (.Call (.Name "zip" p1) [e1,e2] [] p2) (Qm.hG f):=(IA hg hm ha iX dJ).imp yt
end
end L2
namespace PySem
open Sem (wp)
open AutoSeq1 (wpAny_loadPart')
open MeetsSeq MeetsSeq2 MeetsSeq3 SeqRoads2
section
variable{P:Program}{W:World}
end
end PySem
namespace L2
open PySem PySem.Spec PyProof.Rows
section
variable{X:Cx}
end
end L2
namespace Qm
open PySem
noncomputable section
def rE(tab:List (Nat×FN))(f:XE)(a:XA):XE:=fun σ c=>(f σ c).bind fun p=>match p.1 with
 |.adr x=>(tab.lookup x).bind fun F=>(a σ p.2).bind fun q=>F q.1 q.2
 |_=>none
def oh(lo:Int)(n:Nat):List D:=(List.range n).map fun(i:Nat)=>.int (lo+i*2)
open Classical in
def zY(a:XA):XI:=fun σ c=>(a σ c).bind fun p=>match p.1 with
 |[.int i,.int j,.int k]=>if k=2∧Pn i∧Pn j then some (⟨oh i ((j - i+1) / 2).toNat,[]⟩,p.2)else none
 |_=>none
def IF:XE:=fun _ _=>none
end
end Qm
namespace L2
open PySem PySem.Spec PyProof.Rows
structure Ez(X:Cx)(f:Addr)(F:Qm.FN):Prop where
 ex:∃(k:Nat) (fd:FuncData) (ps:List Str),bH X.prog X.w X.K X.mg X.base cW k f fd ps (dq X.K F)∧fG k X.A∧PySem.W.keepIn X.K (.ref f)=true∧Binds X.K fd ps []
section
variable{X:Cx}{e:Expr}{es:List Expr}{x:Str}{p pos:Pos}{fx:Qm.XA}{fe:Qm.XE}
theorem lookup_mem{tab:List (Nat×Qm.FN)}{a:Nat}{F:Qm.FN}(h:tab.lookup a=some F):(a,F)∈tab:=by
 induction tab with
 |nil=>cases h
 |cons q r ih=>
  obtain⟨b,G⟩:=q
  rw[List.lookup_cons]at h
  cases hb:(a==b)with
  |true=>
   rw[hb]at h
   cases h
   have:a=b:=by simpa using hb
   subst this
   exact List.mem_cons_self ..
  |false=>
   rw[hb]at h
   exact List.mem_cons_of_mem _ (ih h)
theorem FY(tab:List (Nat×Qm.FN))(hT:∀q∈tab,Ez X q.1 q.2)(hv:QE X (.Name x p) fe)(ha:QA X (e::es) fx)
  (he:starEach (e::es) X.env=(false,eval e X.env)::starEach es X.env:=by rfl)(dJ:(backTo pos (starEach es X.env)).any (·.1)=false:=by rfl):
  QE X (.Call (.Name x p) (e::es) [] pos) (Qm.rE tab fe fx):=by
 intro pins s σ H Q I ⟨ρ,env,c,d,c',rs,re,h,k⟩
 obtain⟨q,e1,h⟩:=aF h
 split at h
 ·rename_i a hq
  obtain⟨F,e2,h⟩:=aF h
  obtain⟨r,e3,h⟩:=aF h
  obtain⟨lv,fd,ps,G,hr,hk,hb⟩:=(hT _ (lookup_mem e2)).ex
  refine wpAny_Call_Name_kw (bL (hv pins s σ H (fun v H1=>v= .ref a∧∃aN,Nx X.K ρ c H aN q.2 H1) I ⟨ρ,env,c,q.1,q.2,rs,re,e1,fun aN v H1 n1 r1=>?_⟩) fun u s1 ⟨v,H1,I1,rv,VM,aN,n1⟩=>?_)
  ·rw[hq]at r1
   cases r1
   exact⟨rfl,aN,n1⟩
  ·subst VM
   cases (show u=Value.ref a from rv)
   have t1:CP (dq X.K F) [] E0 (AQ X.K fx) σ H1 Q:=⟨aN,env,q.2,r.1,r.2,n1.rs,re.up n1.up,e3,fun jm vs H2 n2 r2=>⟨jm,r.2,r.1,d,c',n2.rs,by simpa using r2,h,fun ba v H' n r=>k ba v H' ((n1.trans n2).trans n) r⟩⟩
   refine PySem.W.callWith_K (h₀:=X.base) I.ok.mod.Fj hk (bL (ha pos pins s1 σ H1 _ I1 t1) fun us s2 ⟨vs,H2,I2,r,q⟩=>⟨I2.nJ,?_⟩) he dJ
   exact Eb G hr hb .nil Hy I2 r q
 ·cases h
theorem IG{a:Nat}(hg:Gl X x)(hm:X.mg x=some (.ref a))(hd:(x==("__debug__":Str))=false:=by decide):QE X (.Name x pos) (Qm.eC (.adr a)):=
 pQ (.adr a) (GX (v:=.ref a) hg hm rfl hd) fun _ _ _=>.adr a
theorem IH:QE X e Qm.IF:=fun _ _ _ _ _ _ ⟨_,_,_,_,_,_,_,h,_⟩=>by cases h
end
def EA(lo:Int)(n:Nat):It:=⟨fun i _=>i<n,fun i H x H'=>H'=H∧x= .int (lo+i*2),fun i _=>n≤i⟩
theorem zZ{P:Program}{w:World}{K:PySem.W.Frag}{tg:Expr}(it:Addr)(lo:Int)(n:Nat):Turn P w K tg (EA lo n) [it] it (fun i h=>IsRangeIter h it (lo+(i:Nat)*2) ((n:Int) - (i:Nat)) 2) where
 mem:=by simp
 obj:=fun i h st b hb=>by
  have e:b=it:=by simpa using hb
  subst e
  exact⟨_,st,fun v z=>by
   have z':Data.fields _=Data.cell v:=z
   cases z'⟩
 keep:=fun i h h' st k=>k it (by simp) _ st
 item:=by
  intro X hP hw hK hc i pins s σ H E I hf st hg
  subst hP hw hK
  obtain⟨f0,f1,f2,f3,f4,f5⟩:=hf it (by simp)
  have W:=Walks.range (prog:=X.prog) (w:=X.w) (I.ok.hd hc) it lo 2 n
  refine W.item i s _ _ hg st fun v h' tk hv qL kk=>?_
  obtain⟨t,rfl⟩:=hv
  have I1:Inv X pins σ H { s with heap:=h',toks:=tk }:=I.turned (fun b o hb e=>kk b o (by simpa using hb) e) f0 f1 f3 f4 f5
  exact⟨_,rfl,zt (s:={ s with heap:=h',toks:=tk }) (n:="range_iterator") qL rfl rfl (by decide) ⟨.int (lo+i*2),H,I1,⟨t,rfl⟩,⟨rfl,rfl⟩,qL,fun b hb=>(hf b hb).1⟩⟩
 done:=by
  intro X hP hw hK hc i pins s σ H E I hf st hg
  subst hP hw hK
  obtain⟨f0,f1,f2,f3,f4,f5⟩:=hf it (by simp)
  exact wpAny_pyNext_range_end (I.ok.hd hc) st (by have:n≤i:=hg;omega) fun h' eb=>⟨rfl,I.turned (t':=s.toks) (fun b o hb e=>eb b o hb e) f0 f1 f3 f4 f5⟩
 self:=fun _ _ _ _ _ st h=>wpAny_pyIter_rangeiter st h
section
variable{X:Cx}{tg:Expr}
theorem Mi{lo hi:Int}(h1: -(2 ^ 62)≤lo)(h2:lo<2 ^ 62)(h3: -(2 ^ 62)≤hi)(h4:hi<2 ^ 62):Builtin.Range.small lo hi 2=true:=by
 have e:Builtin.Range.rangeSize lo hi 2=if lo<hi then(hi - lo - 1) / 2+1 else 0:=by
  unfold Builtin.Range.rangeSize
  rw[if_pos (by decide)]
 unfold Builtin.Range.small
 rw[e]
 simp only[Builtin.Range.rangeFitsLong,Bool.and_eq_true,Bool.or_eq_true,decide_eq_true_eq,beq_iff_eq,show(2:Int) > 0 by decide,if_true]
 split<;>omega
theorem Dp{pins:List (Addr×Obj)}{σ:St}{H:Hp}{s:Shared}{R:It→Hp→Prop}{E:Value→Shared→Prop}{lo hi:Int}{t u v:Tok}{tk:Nat}(I:Inv X pins σ H s)(h1: -(2 ^ 62)≤lo)(h2:lo<2 ^ 62)(h3: -(2 ^ 62)≤hi)(h4:hi<2 ^ 62)
  (q:R (EA lo ((hi - lo+1) / 2).toNat) H):wpAny (model X.prog X.w) X.A (pyIter (.ref s.heap.objs.size)) (OA X pins σ tg R) E { s with heap:=s.heap.push { cls:=.type "range",data:=.fields #[.int lo t,.int hi u,.int 2 v] },toks:=tk }:=by
 refine wpAny_pyIter_range (IsRange.new ..) (Mi h1 h2 h3 h4) ?_
 have I1:Inv X pins σ H { s with heap:=s.heap.push { cls:=.type "range",data:=.fields #[.int lo t,.int hi u,.int 2 v] },toks:=tk }:=I.kept fun b o e=>Heap.get?_push_of_some _ e
 refine⟨(s.heap.push { cls:=.type "range",data:=.fields #[.int lo t,.int hi u,.int 2 v] }).objs.size,[(s.heap.push { cls:=.type "range",data:=.fields #[.int lo t,.int hi u,.int 2 v] }).objs.size],_,_,H,rfl,
  I1.kept (t':=tk) fun b o e=>Heap.get?_push_of_some _ e,zZ _ lo ((hi - lo+1) / 2).toNat,?_,fun b hb=>?_,q⟩
 ·have e1:lo+((0:Nat):Int)*2=lo:=by simp
  have e2:((((hi - lo+1) / 2).toNat:Nat):Int) - ((0:Nat):Int)=Builtin.Range.rangeSize lo hi 2:=by
   unfold Builtin.Range.rangeSize
   rw[if_pos (by decide)]
   split<;>omega
  show IsRangeIter _ _ (lo+((0:Nat):Int)*2) (((((hi - lo+1) / 2).toNat:Nat):Int) - ((0:Nat):Int)) 2
  rw[e1,e2]
  exact Heap.get?_push_size _ rfl
 ·have e:b=(s.heap.push { cls:=.type "range",data:=.fields #[.int lo t,.int hi u,.int 2 v] }).objs.size:=by simpa using hb
  subst e
  exact I1.pN (Nat.le_refl _) (I1.bj.fresh (Nat.le_refl _))
def Mj(ta:TA):TI:=fun σ H R=>ta σ H fun vs H1=>∃i j:Int,vs=[.int i,.int j,.int 2]∧(-(2 ^ 62)≤i∧i<2 ^ 62∧-(2 ^ 62)≤j∧j<2 ^ 62)∧R (EA i ((j - i+1) / 2).toNat) H1
theorem Dq{a b d:Expr}{ta:TA}{p pos:Pos}(hg:Gl X "range")(hm:X.mg "range" =none)(ha:PA X [a,b,d] ta)(hs:starEach [a,b,d] X.env=(false,eval a X.env)::starEach [b,d] X.env:=by rfl)(dJ:(backTo pos (starEach [b,d] X.env)).any (·.1)=false:=by rfl):
  PI X tg (.Call (.Name "range" p) [a,b,d] [] pos) (Mj ta):=by
 intro pins s σ H R I h
 refine Call_ (gi I hg hm boot_range (PyProof.Rows.callWith_type1 (bL (ha pos pins s σ H _ I h) fun us s1 ⟨vs,H1,I1,r1,q1⟩=>?_) hs dJ))
 obtain⟨i,j,e,⟨q1,q2,q3,q4⟩,q⟩:=q1
 subst e
 cases r1 with
 |cons r rr=>
  cases rr with
  |cons r' rr=>
   cases rr with
   |cons VN rr=>
    cases rr
    obtain⟨t,rfl⟩:=r
    obtain⟨t',rfl⟩:=r'
    obtain⟨YH,rfl⟩:=VN
    exact call_range_3 (by decide) (Dp I1 q1 q2 q3 q4 q) (Or.inl (PyProof.noPylong_of_log2 (by decide +kernel)))
theorem II{K:PySem.W.Frag}{ρ:Nat→Addr}{N:Nat}{H:Hp}{lo:Int}{n:Nat}:HU K ρ N H ⟨Qm.oh lo n,[]⟩ (EA lo n):=by
 intro ba c' H' _ VO _
 refine⟨fun i hi=>by show i<n;simpa[Qm.oh]using hi,by show n≤(Qm.oh lo n).length;simp[Qm.oh],fun i d x H2 hd hy=>?_⟩
 obtain⟨rfl,rfl⟩:=hy
 unfold Qm.oh at hd
 rw[List.getElem?_map]at hd
 cases q:(List.range n)[i]? with
 |none=>rw[q]at hd;cases hd
 |some j=>
  rw[q]at hd
  cases hd
  have:j=i:=by
   obtain⟨h1,h2⟩:=List.getElem?_eq_some_iff.mp q
   simpa using h2.symm
  subst this
  exact⟨Nx.refl VO,.int _⟩
theorem Ds{a b d:Expr}{f:Qm.XA}{p pos:Pos}(hg:Gl X "range")(hm:X.mg "range" =none)(ha:QA X [a,b,d] f)(hs:starEach [a,b,d] X.env=(false,eval a X.env)::starEach [b,d] X.env:=by rfl)(dJ:(backTo pos (starEach [b,d] X.env)).any (·.1)=false:=by rfl):
  QI X tg (.Call (.Name "range" p) [a,b,d] [] pos) (Qm.zY f):=(Dq hg hm ha hs dJ).imp <| by
 rintro σ H R ⟨ρ,env,c,m,c',rs,re,e,k⟩
 obtain⟨p,e1,e⟩:=aF e
 refine⟨ρ,env,c,p.1,p.2,rs,re,e1,fun aN vs H1 n1 r1=>?_⟩
 split at e
 ·rename_i i j kk hj
  split at e
  ·rename_i hb
   cases e
   obtain⟨rfl,hi,Ta⟩:=hb
   rw[hj]at r1
   cases r1 with
   |cons rv rr=>
    obtain⟨v2,v3,rfl,ru,qK⟩:=rr.uc
    cases rv.ei;cases ru.ei;cases qK.ei
    exact⟨i,j,rfl,⟨hi.1,hi.2,Ta.1,Ta.2⟩,k aN _ H1 n1 II⟩
  ·cases e
 ·cases e
end
end L2
namespace Qm
open PySem
noncomputable section
def k1(d:D):Option (List Int):=match d with
 |.tup xs=>nums xs
 |_=>none
def k2(d:D):Option (List (List Int)):=match d with
 |.tup xs=>omap k1 xs
 |_=>none
def IJ(k:List Int):D:=.tup (k.map .int)
def By(k:List (List Int)):D:=.tup (k.map IJ)
section
variable{κ α:Type}[DecidableEq κ]
def m7(ps:List (κ×α))(k:κ):Option α:=(ps.find? fun p=>decide (p.1=k)).map (·.2)
def mr(ps:List (κ×α))(k:κ)(d:α):List (κ×α):=
 if (ps.any fun p=>decide (p.1=k))=true then ps.map (fun p=>if p.1=k then(p.1,d)else p)else ps++[(k,d)]
end
def pT(d:D)(c:Cells):Option (Nat×List (List Int×D)):=match d with
 |.ref n=>(match c[n]? with
  |some (.sS ps)=>some (n,ps)
  |_=>none)
 |_=>none
def nF(d:D)(c:Cells):Option (Nat×List (List (List Int)×D)):=match d with
 |.ref n=>(match c[n]? with
  |some (.gH ps)=>some (n,ps)
  |_=>none)
 |_=>none
def qt(d:D)(c:Cells):Option (List (List (List Int)×D)):=match d with
 |.ref n=>(match c[n]? with
  |some (.gH ps)=>some ps
  |some (.kl ps)=>some ps
  |_=>none)
 |_=>none
def z_:XE:=fun _ c=>some (.ref c.length,c++[.sS []])
def rF:XE:=fun _ c=>some (.ref c.length,c++[.gH []])
def oV(o k v:XE):XS:=fun σ c=>(v σ c).bind fun w=>(o σ w.2).bind fun p=>(k σ p.2).bind fun q=>(pT p.1 q.2).bind fun l=>(k1 q.1).bind fun x=>if l.2.length<cE then some (.nx,σ,q.2.set l.1 (.sS (mr l.2 x w.1)))else none
def oi:FN:=one fun x c=>(pT x c).bind fun l=>if l.2.length≤cE then some (.ref c.length,c++[.lst (l.2.map fun p=>IJ p.1)])else none
def jq:FN:=one fun x c=>(qt x c).bind fun l=>if l.length≤cE then some (.ref c.length,c++[.lst (l.map fun p=>By p.1)])else none
def ff(o k:XE):XE:=fun σ c=>(o σ c).bind fun p=>(nF p.1 p.2).bind fun _=>(k σ p.2).bind fun q=>(nF p.1 q.2).bind fun l=>(k2 q.1).bind fun x=>if l.2.length<cE then(match m7 l.2 x with
 |some d=>some (d,q.2++[Cell.lst []])
 |none=>some (D.ref q.2.length,(q.2++[Cell.lst []]).set l.1 (Cell.gH (l.2++[(x,D.ref q.2.length)]))))else none
def jF(o k:XE):XE:=fun σ c=>(o σ c).bind fun p=>(k σ p.2).bind fun q=>(qt p.1 q.2).bind fun l=>(k2 q.1).bind fun x=>(m7 l x).bind fun d=>some (d,q.2)
def tf(d:D):Option (List (List Int)×D):=match d with
 |.tup [k,v]=>(k2 k).bind fun x=>some (x,v)
 |_=>none
def vm:FN:=one fun x c=>(bq x c).bind fun l=>(omap tf l.2).bind fun ps=>some (.ref c.length,c++[.gH (ps.foldl (fun a p=>mr a p.1 p.2) [])])
def Aa(o:XE):XE:=fun σ c=>(o σ c).bind fun p=>(qt p.1 p.2).bind fun l=>if l.length≤cE then some (.ref p.2.length,p.2++[.lst (l.map fun q=>q.2)])else none
def rG(a:XA):XI:=fun σ c=>(a σ c).bind fun p=>match p.1 with
 |[.ref n,.ref m]=>(match p.2[n]? with
  |some (.gH ps)=>(bq (.ref m) p.2).bind fun k=>some (⟨eA (ps.map fun q=>By q.1) k.2,[(n,.kl ps),(m,.lst k.2)]⟩,p.2.set n (.kl ps))
  |_=>none)
 |_=>none
end
end Qm
namespace L2
open PySem PySem.Spec PyProof.Rows
abbrev oj(k:List Int):List Key:=k.map Sum.inl
abbrev lV(k:List (List Int)):List (List Key):=k.map (List.map Sum.inl)
section
variable{K:PySem.W.Frag}{ρ ba:Nat→Addr}{N N':Nat}{H H':Hp}
theorem vn{x y:List Int}(h:oj x=oj y):x=y:=(List.map_inj_right fun _ _ e=>Sum.inl.inj e).mp h
theorem fC.length:∀{ps:List (List Int×Qm.D)}{us:List (List Key×V)},fC K ρ N H ps us→ps.length=us.length
 |_,_,.nil=>rfl
 |_,_,.cons _ a=>congrArg (·+1) (fC.length a)
theorem fC.val:∀{ps:List (List Int×Qm.D)}{us:List (List Key×V)},fC K ρ N H ps us→∀k,(Qm.m7 ps k=none∧dR us (oj k)=none)∨∃d v,Qm.m7 ps k=some d∧dR us (oj k)=some v∧RD K ρ N H d v
 |_,_,.nil,_=>.inl ⟨rfl,rfl⟩
 |_,_,.cons (k:=k0) (d:=d) (x:=x) r a,k=>by
  by_cases hk:k0=k
  ·subst hk
   exact .inr ⟨d,x,by simp[Qm.m7],by simp[dR],r⟩
  ·have m8:¬oj k0=oj k:=fun e=>hk (vn e)
   rcases fC.val a k with⟨h1,h2⟩|⟨d',v',h1,h2,h3⟩
   ·refine .inl ⟨?_,?_⟩
    ·unfold Qm.m7 at h1 ⊢
     rw[List.find?_cons]
     simp only[hk,decide_false]
     exact h1
    ·unfold dR at h2 ⊢
     rw[List.find?_cons]
     simp only[m8,decide_false]
     exact h2
   ·refine .inr ⟨d',v',?_,?_,h3⟩
    ·unfold Qm.m7 at h1 ⊢
     rw[List.find?_cons]
     simp only[hk,decide_false]
     exact h1
    ·unfold dR at h2 ⊢
     rw[List.find?_cons]
     simp only[m8,decide_false]
     exact h2
theorem fC.any:∀{ps:List (List Int×Qm.D)}{us:List (List Key×V)},fC K ρ N H ps us→∀k,(ps.any fun p=>decide (p.1=k))=us.any fun kv=>decide (kv.1=oj k)
 |_,_,.nil,_=>rfl
 |_,_,.cons (k:=k0) r a,k=>by
  rw[List.any_cons,List.any_cons,fC.any a k]
  by_cases hk:k0=k
  ·subst hk;simp
  ·have m8:¬oj k0=oj k:=fun e=>hk (vn e)
   simp[hk,m8]
theorem fC.me{d:Qm.D}{v:V}(r:RD K ρ N H d v):∀{ps:List (List Int×Qm.D)}{us:List (List Key×V)},fC K ρ N H ps us→∀k,fC K ρ N H (ps.map fun p=>if p.1=k then(p.1,d)else p) (us.map fun kv=>if kv.1=oj k then(kv.1,v)else kv)
 |_,_,.nil,_=>.nil
 |_,_,.cons (k:=k0) r0 a,k=>by
  rw[List.map_cons,List.map_cons]
  by_cases hk:k0=k
  ·subst hk
   simp only[if_true]
   exact .cons r (fC.me r a k0)
  ·have m8:¬oj k0=oj k:=fun e=>hk (vn e)
   simp only[if_neg hk,if_neg m8]
   exact .cons r0 (fC.me r a k)
theorem fC.append:∀{ps qs:List (List Int×Qm.D)}{us vs:List (List Key×V)},fC K ρ N H ps us→fC K ρ N H qs vs→fC K ρ N H (ps++qs) (us++vs)
 |_,_,_,_,.nil,b=>b
 |_,_,_,_,.cons h a,b=>.cons h (fC.append a b)
theorem fC.put{d:Qm.D}{v:V}(r:RD K ρ N H d v){ps:List (List Int×Qm.D)}{us:List (List Key×V)}(a:fC K ρ N H ps us)(k:List Int):fC K ρ N H (Qm.mr ps k d) (putK us (oj k) v):=by
 unfold Qm.mr putK
 rw[a.any k]
 split
 ·exact a.me r k
 ·exact a.append (.cons r .nil)
theorem fC.at_:∀{ps:List (List Int×Qm.D)}{us:List (List Key×V)}{i:Nat}{p:List Int×Qm.D},fC K ρ N H ps us→ps[i]? =some p→∃v,us[i]? =some (oj p.1,v)∧RD K ρ N H p.2 v
 |_,_,_,_,.nil,e=>by simp at e
 |_,_,0,_,.cons h _,e=>by simp at e;subst e;exact⟨_,rfl,h⟩
 |_,_,i+1,p,.cons _ a,e=>by
  obtain⟨v,h1,h2⟩:=fC.at_ (i:=i) (p:=p) a (by simpa using e)
  exact⟨v,by simpa using h1,h2⟩
end
section
variable{K:PySem.W.Frag}{ρ ba:Nat→Addr}{N N':Nat}{H H':Hp}
theorem Ab{x y:List (List Int)}(h:lV x=lV y):x=y:=(List.map_inj_right fun _ _ e=>vn e).mp h
theorem dM.length:∀{ps:List (List (List Int)×Qm.D)}{us:List (List (List Key)×V)},dM K ρ N H ps us→ps.length=us.length
 |_,_,.nil=>rfl
 |_,_,.cons _ a=>congrArg (·+1) (dM.length a)
theorem dM.val:∀{ps:List (List (List Int)×Qm.D)}{us:List (List (List Key)×V)},dM K ρ N H ps us→∀k,(Qm.m7 ps k=none∧dR us (lV k)=none)∨∃d v,Qm.m7 ps k=some d∧dR us (lV k)=some v∧RD K ρ N H d v
 |_,_,.nil,_=>.inl ⟨rfl,rfl⟩
 |_,_,.cons (k:=k0) (d:=d) (x:=x) r a,k=>by
  by_cases hk:k0=k
  ·subst hk
   exact .inr ⟨d,x,by simp[Qm.m7],by simp[dR],r⟩
  ·have m8:¬lV k0=lV k:=fun e=>hk (Ab e)
   rcases dM.val a k with⟨h1,h2⟩|⟨d',v',h1,h2,h3⟩
   ·refine .inl ⟨?_,?_⟩
    ·unfold Qm.m7 at h1 ⊢
     rw[List.find?_cons]
     simp only[hk,decide_false]
     exact h1
    ·unfold dR at h2 ⊢
     rw[List.find?_cons]
     simp only[m8,decide_false]
     exact h2
   ·refine .inr ⟨d',v',?_,?_,h3⟩
    ·unfold Qm.m7 at h1 ⊢
     rw[List.find?_cons]
     simp only[hk,decide_false]
     exact h1
    ·unfold dR at h2 ⊢
     rw[List.find?_cons]
     simp only[m8,decide_false]
     exact h2
theorem dM.any:∀{ps:List (List (List Int)×Qm.D)}{us:List (List (List Key)×V)},dM K ρ N H ps us→∀k,(ps.any fun p=>decide (p.1=k))=us.any fun kv=>decide (kv.1=lV k)
 |_,_,.nil,_=>rfl
 |_,_,.cons (k:=k0) r a,k=>by
  rw[List.any_cons,List.any_cons,dM.any a k]
  by_cases hk:k0=k
  ·subst hk;simp
  ·have m8:¬lV k0=lV k:=fun e=>hk (Ab e)
   simp[hk,m8]
theorem dM.me{d:Qm.D}{v:V}(r:RD K ρ N H d v):∀{ps:List (List (List Int)×Qm.D)}{us:List (List (List Key)×V)},dM K ρ N H ps us→∀k,dM K ρ N H (ps.map fun p=>if p.1=k then(p.1,d)else p) (us.map fun kv=>if kv.1=lV k then(kv.1,v)else kv)
 |_,_,.nil,_=>.nil
 |_,_,.cons (k:=k0) r0 a,k=>by
  rw[List.map_cons,List.map_cons]
  by_cases hk:k0=k
  ·subst hk
   simp only[if_true]
   exact .cons r (dM.me r a k0)
  ·have m8:¬lV k0=lV k:=fun e=>hk (Ab e)
   simp only[if_neg hk,if_neg m8]
   exact .cons r0 (dM.me r a k)
theorem dM.append:∀{ps qs:List (List (List Int)×Qm.D)}{us vs:List (List (List Key)×V)},dM K ρ N H ps us→dM K ρ N H qs vs→dM K ρ N H (ps++qs) (us++vs)
 |_,_,_,_,.nil,b=>b
 |_,_,_,_,.cons h a,b=>.cons h (dM.append a b)
theorem dM.put{d:Qm.D}{v:V}(r:RD K ρ N H d v){ps:List (List (List Int)×Qm.D)}{us:List (List (List Key)×V)}(a:dM K ρ N H ps us)(k:List (List Int)):dM K ρ N H (Qm.mr ps k d) (putK us (lV k) v):=by
 unfold Qm.mr putK
 rw[a.any k]
 split
 ·exact a.me r k
 ·exact a.append (.cons r .nil)
theorem dM.at_:∀{ps:List (List (List Int)×Qm.D)}{us:List (List (List Key)×V)}{i:Nat}{p:List (List Int)×Qm.D},dM K ρ N H ps us→ps[i]? =some p→∃v,us[i]? =some (lV p.1,v)∧RD K ρ N H p.2 v
 |_,_,_,_,.nil,e=>by simp at e
 |_,_,0,_,.cons h _,e=>by simp at e;subst e;exact⟨_,rfl,h⟩
 |_,_,i+1,p,.cons _ a,e=>by
  obtain⟨v,h1,h2⟩:=dM.at_ (i:=i) (p:=p) a (by simpa using e)
  exact⟨v,by simpa using h1,h2⟩
end
end L2
namespace L2
open PySem PySem.Spec PyProof.Rows
section
variable{K:PySem.W.Frag}{ρ:Nat→Addr}{N:Nat}{H:Hp}
theorem Dt{xs:List Qm.D}{is:List Int}(h:Qm.nums xs=some is):xs=is.map Qm.D.int:=by
 unfold Qm.nums at h
 induction xs generalizing is with
 |nil=>cases h;rfl
 |cons x xs ih=>
  unfold Qm.omap at h
  obtain⟨d,h1,h⟩:=aF h
  obtain⟨ds,h2,h⟩:=aF h
  cases h
  rw[ih h2]
  cases x<;>simp[Qm.qZ]at h1
  subst h1
  rfl
theorem Bz:∀{is:List Int}{vs:List V},RA K ρ N H (is.map Qm.D.int) vs→vs=is.map V.int
 |[],_,h=>by cases h;rfl
 |i::is,_,h=>by
  cases h with
  |cons r a=>
   cases r.ei
   rw[Bz a]
   rfl
theorem BA(is:List Int):(is.map (Sum.inl:Int→Key)).map kV=is.map V.int:=by rw[List.map_map];rfl
theorem IK{d:Qm.D}{v:V}{is:List Int}(r:RD K ρ N H d v)(h:Qm.k1 d=some is):∃b,v= .ref b∧H b=some (.tup ((oj is).map kV)):=by
 unfold Qm.k1 at h
 split at h
 ·obtain⟨b,vs,rfl,h1,a⟩:=r.jM
  rw[Dt h]at a
  refine⟨b,rfl,?_⟩
  rw[BA,←Bz a]
  exact h1
 ·cases h
theorem IL:∀{xs:List Qm.D}{vs:List V}{bI:List (List Int)},RA K ρ N H xs vs→Qm.omap Qm.k1 xs=some bI→∃as:List Addr,vs=as.map V.ref∧Paired (fun(ks:List Key) (a:Addr)=>H a=some (.tup (ks.map kV))) (lV bI) as
 |[],_,_,a,h=>by
  cases a;cases h
  exact⟨[],rfl,.nil⟩
 |x::xs,_,_,a,h=>by
  cases a with
  |cons r a=>
   unfold Qm.omap at h
   obtain⟨k,h1,h⟩:=aF h
   obtain⟨ks,h2,h⟩:=aF h
   cases h
   obtain⟨b,rfl,h3⟩:=IK r h1
   obtain⟨as,rfl,p⟩:=IL a h2
   exact⟨b::as,rfl,.cons h3 p⟩
theorem Du{d:Qm.D}{v:V}{bI:List (List Int)}(r:RD K ρ N H d v)(h:Qm.k2 d=some bI):∃b,v= .ref b∧iI H (lV bI) b:=by
 unfold Qm.k2 at h
 split at h
 ·obtain⟨b,vs,rfl,h1,a⟩:=r.jM
  obtain⟨as,rfl,p⟩:=IL a h
  exact⟨b,rfl,as,h1,p⟩
 ·cases h
theorem om:∀(is:List Int),RA K ρ N H (is.map Qm.D.int) (is.map V.int)
 |[]=>.nil
 |i::is=>.cons (.int i) (om is)
theorem EB{is:List Int}{a:Addr}(h:H a=some (.tup ((oj is).map kV))):RD K ρ N H (Qm.IJ is) (.ref a):=by
 rw[BA]at h
 exact .tup h (om is)
theorem EC:∀{bI:List (List Int)}{as:List Addr},Paired (fun(ks:List Key) (a:Addr)=>H a=some (.tup (ks.map kV))) (lV bI) as→RA K ρ N H (bI.map Qm.IJ) (as.map V.ref)
 |[],_,h=>by cases h;exact .nil
 |k::bI,_,h=>by
  cases h with
  |cons h1 t=>exact .cons (EB h1) (EC t)
theorem ED{bI:List (List Int)}{a:Addr}(h:iI H (lV bI) a):RD K ρ N H (Qm.By bI) (.ref a):=by
 obtain⟨as,h1,h2⟩:=h
 exact .tup h1 (EC h2)
end
section
variable{K:PySem.W.Frag}{ρ:Nat→Addr}{c:Qm.Cells}{H:Hp}
theorem RS.pT(r:RS K ρ c H){d:Qm.D}{n:Nat}{ps:List (List Int×Qm.D)}{v:V}(h:RD K ρ c.length H d v)(e:Qm.pT d c=some (n,ps)):d= .ref n∧c[n]? =some (.sS ps)∧∃us,v= .ref (ρ n)∧H (ρ n)=some (.dT us)∧fC K ρ c.length H ps us:=by
 unfold Qm.pT at e
 split at e
 ·obtain⟨rfl,hn⟩:=h.k_
  split at e
  ·rename_i xs hx
   cases e
   obtain⟨us,h1,h2⟩:=r.ok n _ hx
   exact⟨rfl,hx,us,rfl,h1,h2⟩
  ·cases e
 ·cases e
theorem RS.nF(r:RS K ρ c H){d:Qm.D}{n:Nat}{ps:List (List (List Int)×Qm.D)}{v:V}(h:RD K ρ c.length H d v)(e:Qm.nF d c=some (n,ps)):d= .ref n∧c[n]? =some (.gH ps)∧∃us,v= .ref (ρ n)∧H (ρ n)=some (.dU us)∧dM K ρ c.length H ps us:=by
 unfold Qm.nF at e
 split at e
 ·obtain⟨rfl,hn⟩:=h.k_
  split at e
  ·rename_i xs hx
   cases e
   obtain⟨us,h1,h2⟩:=r.ok n _ hx
   exact⟨rfl,hx,us,rfl,h1,h2⟩
  ·cases e
 ·cases e
theorem RS.qt(r:RS K ρ c H){d:Qm.D}{ps:List (List (List Int)×Qm.D)}{v:V}(h:RD K ρ c.length H d v)(e:Qm.qt d c=some ps):∃p us,v= .ref p∧Rd H p (.dU us)∧dM K ρ c.length H ps us:=by
 unfold Qm.qt at e
 split at e
 ·rename_i n
  obtain⟨rfl,hn⟩:=h.k_
  split at e
  ·rename_i xs hx
   cases e
   obtain⟨us,h1,h2⟩:=r.ok n _ hx
   exact⟨_,us,rfl,.inl h1,h2⟩
  ·rename_i xs hx
   cases e
   obtain⟨o,us,h1,h2⟩:=r.ok n _ hx
   exact⟨_,us,rfl,.inr ⟨o,h1⟩,h2⟩
  ·cases e
 ·cases e
theorem Nx.PX(r:RS K ρ c H){n:Nat}{xs:List (List Int×Qm.D)}(hn:c[n]? =some (.sS xs)){ds:List (List Int×Qm.D)}{vs:List (List Key×V)}(a:fC K ρ c.length H ds vs):Nx K ρ c H ρ (c.set n (.sS ds)) (upd H (ρ n) (.dT vs)):=
 Nx.Eo r hn rfl fun _ _ u h=>⟨vs,h,a.up u⟩
theorem Nx.PY(r:RS K ρ c H){n:Nat}{xs:List (List (List Int)×Qm.D)}(hn:c[n]? =some (.gH xs)){ds:List (List (List Int)×Qm.D)}{vs:List (List (List Key)×V)}(a:dM K ρ c.length H ds vs):Nx K ρ c H ρ (c.set n (.gH ds)) (upd H (ρ n) (.dU vs)):=
 Nx.Eo r hn rfl fun _ _ u h=>⟨vs,h,a.up u⟩
theorem Nx.PZ(r:RS K ρ c H){n:Nat}{ds:List (List (List Int)×Qm.D)}{vs:List (List (List Key)×V)}{o:Obj}(hn:c[n]? =some (.gH ds))(a:dM K ρ c.length H ds vs):Nx K ρ c H ρ (c.set n (.kl ds)) (upd H (ρ n) (.fP o (.dU vs))):=
 Nx.Eo r hn rfl fun _ _ u h=>⟨o,vs,h,a.up u⟩
end
section
variable{X:Cx}{pos:Pos}
theorem yu{P:Program}{w:World}{H:Hp}(h:Heap)(hb:sysModules<h.objs.size):bN P w H (h.push { cls:=.type "dict",data:=.dict #[] }) h.objs.size (.dU []):=
 ⟨Nat.zero_le _,by simpa using Nat.ne_of_gt hb,[],.nil,_,#[],0,Heap.get?_push_size _ rfl,⟨rfl,rfl,rfl⟩,rfl,rfl,List.nodup_nil⟩
def Mk:TE:=fun _ H Q=>∀p,H p=none→Q (.ref p) (upd H p (.dU []))
theorem FZ:PE X (.Dict [] [] pos) Mk:=fun pins s σ H Q I h=>
 wpAny_Dict_empty ⟨.ref s.heap.objs.size,_,I.laid (a:=s.heap.objs.size) (o:=.dU []) (t':=s.toks) (fun _ _ q=>Heap.get?_push_of_some _ q) (Nat.le_refl _) (yu s.heap I.big),rfl,h _ (I.bj.fresh (Nat.le_refl _))⟩
theorem F0:QE X (.Dict [] [] pos) Qm.z_:=FH.imp <| by
 rintro σ H Q ⟨ρ,env,c,d,c',rs,re,e,k⟩
 cases e
 intro p hp
 obtain⟨n,r⟩:=Nx.vf (z:=.sS []) (o:=.dT []) rs hp (fun _ _ _ _ h=>⟨[],h,.nil⟩)
 exact k _ _ _ n r
theorem yw:QE X (.Dict [] [] pos) Qm.rF:=FZ.imp <| by
 rintro σ H Q ⟨ρ,env,c,d,c',rs,re,e,k⟩
 cases e
 intro p hp
 obtain⟨n,r⟩:=Nx.vf (z:=.gH []) (o:=.dU []) rs hp (fun _ _ _ _ h=>⟨[],h,.nil⟩)
 exact k _ _ _ n r
theorem F1{o i value:Expr}{fo fi fv:Qm.XE}{pos':Pos}(hu:X.A.units+64<cLine)(ho:QE X o fo)(hi:QE X i fi)(hv:QE X value fv)(hs:swapsWith value (some (.Subscript o i pos')) pos.line X.env=pure false:=by rfl):
  QS X (.Assign [.Subscript o i pos'] value pos) (Qm.oV fo fi fv):=(HE (by omega) ho hi hv hs).imp <| by
 rintro D σ H ⟨ρ,env,c,fl,cH,c',rs,re,e,k⟩
 obtain⟨w,e1,e⟩:=aF e
 obtain⟨p,e2,e⟩:=aF e
 obtain⟨q,e3,e⟩:=aF e
 obtain⟨l,e4,e⟩:=aF e
 obtain⟨x,e5,e⟩:=aF e
 split at e
 ·rename_i hz
  cases e
  refine⟨ρ,env,c,w.1,w.2,rs,re,e1,fun aN v H1 n1 r1=>⟨aN,env,w.2,p.1,p.2,n1.rs,re.up n1.up,e2,fun jm u H2 n2 r2=>⟨jm,env,p.2,q.1,q.2,n2.rs,re.up (n1.trans n2).up,e3,fun zQ y H3 n3 r3=>?_⟩⟩⟩
  obtain⟨b,rfl,hb⟩:=IK r3 e5
  obtain⟨_,hc,us,hv,h1,a1⟩:=n3.rs.pT (r2.up n3.up) e4
  cases hv
  have n4:=Nx.PX n3.rs hc (fC.put ((r1.up n2.up).up n3.up) a1 x)
  have nn:=n1.trans (n2.trans (n3.trans n4))
  exact⟨_,_,rfl,v7.t (k:=oj x) h1 hb (rh (by rw[←a1.length];exact hz)),k zQ _ nn σ (re.up nn.up)⟩
 ·cases e
end
end L2
namespace L2
open PySem PySem.Spec PyProof.Rows
section
variable{P:Program}{w:World}{H:Hp}{h:Heap}{a:Addr}
theorem wK:∀{as:List Addr}{us:List Value},Vals (as.map V.ref) us→us=as.map Value.ref
 |[],_,x=>by cases x;rfl
 |a::as,_,x=>by
  cases x with
  |cons r t=>
   cases (show _=Value.ref a from r)
   rw[wK t]
   rfl
theorem lW:∀(as:List Addr),Vals (as.map V.ref) (as.map Value.ref)
 |[]=>.nil
 |a::as=>.cons (show Value.ref a=Value.ref a from rfl) (lW as)
theorem BB(ok:gB P w H h):∀{bI:List (List Key)}{as:List Addr},Paired (fun(ks:List Key) (a:Addr)=>H a=some (.tup (ks.map kV))) bI as→jK (bZ P w) h bI (as.map Value.ref)
 |_,_,.nil=>.nil
 |_,_,.cons r t=>.cons (zF ok r) (BB ok t)
theorem rH(ok:gB P w H h){bI:List (List Key)}{b:Addr}(k:iI H bI b):(mK (bZ P w)).is h bI b:=by
 obtain⟨as,h1,p⟩:=k
 obtain⟨_,its,r,o,g1,g2,n,g3⟩:=(show bN P w H h b (.tup (as.map V.ref))from ok b _ h1)
 refine⟨o,its.toArray,n,g1,g2,g3,?_⟩
 rw[wK r]
 simpa using BB ok p
abbrev KU(H:Hp)(aE:List (List (List Key)×V))(xs:List (List (List Key)×Addr×Value)):Prop:=Paired (fun(p:List (List Key)×V) (q:List (List Key)×Addr×Value)=>p.1=q.1∧iI H p.1 q.2.1∧RelV p.2 q.2.2) aE xs
theorem tj{aE:List (List (List Key)×V)}(ok:gB P w H h)(e:Rd H a (.dU aE)):aE.length≤sizeLine∧(a==sysModules)=false∧∃xs,KU H aE xs∧h.DictOfH (mK (bZ P w)) a xs:=by
 obtain⟨z,y,xs,r,o,es,ep,h1,h2,h3,h4,h5⟩:=(show bN P w H h a (.dU aE)from C1 ok e)
 refine⟨z,y,xs,r,o,es,ep,h1,h2,h3,h4,fun x hx=>?_,h5⟩
 have all:∀{l:List (List (List Key)×V)}{m:List (List (List Key)×Addr×Value)},KU H l m→∀x∈m,(mK (bZ P w)).is h x.1 x.2.1:=by
  intro l m q
  induction q with
  |nil=>intro x hx;exact nomatch hx
  |@cons p q ps qs hq t ih=>
   intro x hx
   rcases List.mem_cons.mp hx with e|hx
   ·subst e
    exact rH ok (by rw[←hq.1];exact hq.2.1)
   ·exact ih x hx
 exact all r x hx
theorem KU.val:∀{aE:List (List (List Key)×V)}{xs:List (List (List Key)×Addr×Value)},KU H aE xs→∀k,pL (dR aE k) ((atKey xs k).map (·.2))
 |_,_,.nil,_=>trivial
 |_,_,.cons (a:=p) (b:=q) r t,k=>by
  have ih:=KU.val t k
  unfold dR atKey at ih ⊢
  rw[List.find?_cons,List.find?_cons]
  rw[r.1]
  by_cases hk:q.1=k
  ·simp only[hk,decide_true]
   exact r.2.2
  ·simp only[hk,decide_false]
   exact ih
theorem KU.length{aE:List (List (List Key)×V)}{xs:List (List (List Key)×Addr×Value)}(r:KU H aE xs):aE.length=xs.length:=by
 induction r with
 |nil=>rfl
 |cons _ _ ih=>simp[ih]
theorem KU.addrs{aE:List (List (List Key)×V)}{xs:List (List (List Key)×Addr×Value)}(r:KU H aE xs):Paired (fun(kv:List (List Key)×V) (a:Addr)=>iI H kv.1 a) aE (xs.map (·.2.1)):=by
 induction r with
 |nil=>exact .nil
 |cons h _ ih=>exact .cons h.2.1 ih
theorem KU.vals{aE:List (List (List Key)×V)}{xs:List (List (List Key)×Addr×Value)}(r:KU H aE xs):Vals (aE.map (·.2)) (xs.map (·.2.2)):=by
 induction r with
 |nil=>exact .nil
 |cons h _ ih=>exact .cons h.2.2 ih
theorem KT.len{aE:List (List Key×V)}{xs:List (List Key×Addr×Value)}(r:KT H aE xs):aE.length=xs.length:=by
 induction r with
 |nil=>rfl
 |cons _ _ ih=>simp[ih]
theorem KT.addrs{aE:List (List Key×V)}{xs:List (List Key×Addr×Value)}(r:KT H aE xs):Paired (fun(kv:List Key×V) (a:Addr)=>H a=some (.tup (kv.1.map kV))) aE (xs.map (·.2.1)):=by
 induction r with
 |nil=>exact .nil
 |cons h _ ih=>exact .cons h.2.1 ih
end
section
variable{X:Cx}
theorem uf{K:Type}[DecidableEq K]{knd:HeapKind X.prog X.w K}{es:Array DictEntry}{xs:List (K×Addr×Value)}{acc:Array Value}(he:es.toList=xs.map (entryOfKey knd))(h:ItemsOf (fun i v=>∃e,es[i]? =some e∧v=e.key) acc es.size):acc.toList=(xs.map (·.2.1)).map Value.ref:=by
 obtain⟨h1,h2⟩:=h
 apply List.ext_getElem?
 intro i
 have hl:es.size=xs.length:=by rw[←Array.length_toList,he,List.length_map]
 by_cases hi:i<es.size
 ·have e1:acc[i]? =some (acc[i]'(by omega)):=Array.getElem?_eq_getElem _
  obtain⟨e,e2,e3⟩:=h2 i _ e1
  have e4:es.toList[i]? =some e:=by simpa using e2
  rw[he,List.getElem?_map]at e4
  rw[show acc.toList[i]? =acc[i]? by simp,e1,e3,List.getElem?_map,List.getElem?_map]
  cases hx:xs[i]? with
  |none=>rw[hx]at e4;cases e4
  |some x=>rw[hx]at e4;cases e4;rfl
 ·rw[List.getElem?_eq_none (by simp;omega),List.getElem?_eq_none (by simp;omega)]
theorem BC{K:Type}[DecidableEq K]{knd:HeapKind X.prog X.w K}{es:Array DictEntry}{xs:List (K×Addr×Value)}{acc:Array Value}(he:es.toList=xs.map (entryOfKey knd))(h:ItemsOf (fun i v=>∃e,es[i]? =some e∧v=e.val) acc es.size):acc.toList=xs.map (·.2.2):=by
 obtain⟨h1,h2⟩:=h
 apply List.ext_getElem?
 intro i
 have hl:es.size=xs.length:=by rw[←Array.length_toList,he,List.length_map]
 by_cases hi:i<es.size
 ·have e1:acc[i]? =some (acc[i]'(by omega)):=Array.getElem?_eq_getElem _
  obtain⟨e,e2,e3⟩:=h2 i _ e1
  have e4:es.toList[i]? =some e:=by simpa using e2
  rw[he,List.getElem?_map]at e4
  rw[show acc.toList[i]? =acc[i]? by simp,e1,e3,List.getElem?_map]
  cases hx:xs[i]? with
  |none=>rw[hx]at e4;cases e4
  |some x=>rw[hx]at e4;cases e4;rfl
 ·rw[List.getElem?_eq_none (by simp;omega),List.getElem?_eq_none (by simp;omega)]
def EF(H0:Unit):List V→Hp→VK→Prop:=fun xs H Q=>∃p us,xs=[.ref p]∧Rd H p (.dT us)∧∀l as,H l=none→Paired (fun(kv:List Key×V) (a:Addr)=>H a=some (.tup (kv.1.map kV))) us as→Q (.ref l) (upd H l (.lst (as.map V.ref)))
def EG(H0:Unit):List V→Hp→VK→Prop:=fun xs H Q=>∃p us,xs=[.ref p]∧Rd H p (.dU us)∧∀l as,H l=none→Paired (fun(kv:List (List Key)×V) (a:Addr)=>iI H kv.1 a) us as→Q (.ref l) (upd H l (.lst (as.map V.ref)))
theorem ug(hc:X.calm=true):gC X (.type "list") (EF ()):=by
 intro pins s σ H xs us Q I r h
 obtain⟨p,aE,rfl,hp,q⟩:=h
 obtain⟨u,rfl,rx⟩:=vals1 r
 cases (show u=Value.ref p from rx)
 obtain⟨z,nd,ys,rel,ob,es,ep,h1,h2,h3,h4,h5,h6⟩:=HA I.bj hp
 have hl:es.size=ys.length:=by rw[←Array.length_toList,h4,List.length_map]
 have Tb:=rel.len
 refine PySem.W.kdl_call (Nz nd) (I.ok.hd hc) ⟨ob,h1,h2,h3⟩ (by omega) fun h' tk acc c' hk hD wM=>?_
 have ea:=uf h4 wM
 refine⟨.ref s.heap.objs.size,_,I.laid (t':=tk) hk (Nat.le_refl _) (show bN X.prog X.w _ h' _ (.lst ((ys.map (·.2.1)).map V.ref))from⟨by simp;omega,acc.toList,c',?_,by simpa using hD⟩),rfl,q _ _ (I.bj.fresh (Nat.le_refl _)) rel.addrs⟩
 rw[ea]
 exact lW _
theorem oo(hc:X.calm=true):gC X (.type "list") (EG ()):=by
 intro pins s σ H xs us Q I r h
 obtain⟨p,aE,rfl,hp,q⟩:=h
 obtain⟨u,rfl,rx⟩:=vals1 r
 cases (show u=Value.ref p from rx)
 obtain⟨z,nd,ys,rel,ob,es,ep,h1,h2,h3,h4,h5,h6⟩:=tj I.bj hp
 have hl:es.size=ys.length:=by rw[←Array.length_toList,h4,List.length_map]
 have Tb:=rel.length
 refine PySem.W.kdl_call (Nz nd) (I.ok.hd hc) ⟨ob,h1,h2,h3⟩ (by omega) fun h' tk acc c' hk hD wM=>?_
 have ea:=uf h4 wM
 refine⟨.ref s.heap.objs.size,_,I.laid (t':=tk) hk (Nat.le_refl _) (show bN X.prog X.w _ h' _ (.lst ((ys.map (·.2.1)).map V.ref))from⟨by simp;omega,acc.toList,c',?_,by simpa using hD⟩),rfl,q _ _ (I.bj.fresh (Nat.le_refl _)) rel.addrs⟩
 rw[ea]
 exact lW _
end
end L2
namespace PySem
set_option maxRecDepth 100000 in
theorem IM:Slot "dict" "setdefault" "dict.setdefault":=
 Slot.of (owner:="dict") (n:="setdefault") ((by rw[typeLookup_type,builtinLookup_eq_fast];kernel_rfl)) ((by decide +kernel)) ((by decide +kernel)) ((by decide +kernel)) ((by first|exact .inl (by decide +kernel)|exact .inr (by decide +kernel))) ((by rw[isSubtype_type];kernel_rfl))
theorem P0:typeOf (.builtin "dict.setdefault")=pure (.type "method_descriptor"):=by show builtinType _=_;rw[builtinType_eq_fast];kernel_rfl
theorem P1:entryFor table "dict.setdefault" =some Builtin.«dict.setdefault»:=entryFor_of_tree (by kernel_rfl)
theorem P4(x y z:Value):argsOk "dict.setdefault" ⟨[x,y,z],[]⟩:=by
 unfold argsOk
 rw[signature?_of (id:="dict.setdefault") (n:="setdefault".toList.reverse) (o:="dict".toList.reverse) (by kernel_rfl) F.owner_dict]
 kernel_rfl
section
variable{prog:Program}{w:World}{K:Type}[DecidableEq K]{knd:HeapKind prog w K}{A:Around}{E:Value→Shared→Prop}{s:Shared}
theorem Ac{d a:Addr}{ys:List (K×Addr×Value)}{k:K}{v:Value}{Q:Value→Shared→Prop}(hu:knd.room A)(hk:knd.is s.heap k a)(hm:s.heap.DictOfH knd d ys)(hz:ys.length≤sizeLine)
  (h1:∀p,atKey ys k=some p→Q p.2 { s with toks:=s.toks+knd.draws k })
  (h2:atKey ys k=none→∀h',h'.DictOfH knd d (ys++[(k,a,v)])→Heap.SameBut d s.heap h'→Q v { s with heap:=h',toks:=s.toks+knd.draws k }):
  wpAny (model prog w) A (dictSetDefault d (.ref a) v) Q E s:=by
 obtain⟨ob,es,ep,ho,hc,hd,he,hi,hn⟩:=hm
 unfold dictSetDefault
 try with_reducible refine wpAny_holding ?_
 refine wpAny_bind (knd.pyHash hu hk (wpAny_bind (wpAny_dictFind_heap (s:={ s with toks:=s.toks+knd.draws k }) hu hk ho hd he hi hn (fun no=>?_) (fun j p hj=>?_))))
 ·have e0:=atKey_none_of_get no
  have nm:k∉ys.map (·.1):=not_mem_keys_of_get no
  refine wpAny_bind (wpAny_rule (wpAny_bind (wpAny_updateDictKeys (hz:=by have e:=size_of_entries he;omega) (s:={ s with toks:=s.toks+knd.draws k }) ho hd (wpAny_pure (h2 e0 _ ⟨_,_,ep+1,Heap.get?_update_self _ ho (Obj.isFreed_of_dict (Obj.data_mapDictKeys hd _)),hc.mapDictKeys _,Obj.data_mapDictKeys hd _,?_,?_,?_⟩ (Heap.SameBut.update ..))))))
  ·simp[he,entryOfKey]
  ·intro x hx
   rcases List.mem_append.mp hx with hx|hx
   ·exact knd.keeps (hi x hx) ho hd (Heap.SameBut.update ..)
   ·cases List.mem_singleton.mp hx
    exact knd.keeps hk ho hd (Heap.SameBut.update ..)
  ·rw[List.map_append,List.nodup_append]
   refine⟨hn,by simp,fun x hx y hy e=>nm ?_⟩
   rw[List.map_cons,List.map_nil,List.mem_singleton]at hy
   exact(e.trans (show y=k from hy)) ▸ hx
 ·refine wpAny_bind (wpAny_dictEntries (s:={ s with toks:=s.toks+knd.draws k }) ho hd ?_)
  rw[entry_at he j,hj]
  exact wpAny_bind (wpAny_rule (wpAny_pure (h1 p (atKey_of_get hn hj))))
theorem F2(knd:HeapKind prog w K)(d a:Addr)(nd:(d==sysModules)=false)(v:Value):
  MeetsIn prog w (Builtin.«dict.setdefault» ⟨[.ref d,.ref a,v],[]⟩) (fun A R s=>knd.room A.in1∧∃k ys,knd.is s.heap k a∧s.heap.DictOfH knd d ys∧ys.length≤sizeLine∧
   (∀p,atKey ys k=some p→R (.ok (.ret p.2)) { s with toks:=s.toks+knd.draws k })∧
   (atKey ys k=none→∀h',h'.DictOfH knd d (ys++[(k,a,v)])→Heap.SameBut d s.heap h'→R (.ok (.ret v)) { s with heap:=h',toks:=s.toks+knd.draws k })):=
 .of_wp <| by
  rintro A R s ⟨hu,k,ys,hk,hm,hz,h1,h2⟩
  refine wpAny_bind (m:=Builtin.Dict.keyAndDefault _ _) ?_
  unfold Builtin.Dict.keyAndDefault
  refine wpAny_bind (wpAny_notOrdered_dict hm.typeIs ?_)
  show wpAny _ _ (pure (d,Value.ref a,some v)) _ _ s
  refine wpAny_pure ?_
  show wpAny _ _ (if (d==sysModules)=true then _ else _) _ _ s
  rw[if_neg (by rw[nd];exact Bool.false_ne_true)]
  show wpAny _ _ (dictSetDefault d (.ref a) v >>= _) _ _ s
  exact wpAny_bind (Ac hu hk hm hz (fun p hp=>wpAny_pure ⟨_,rfl,h1 p hp⟩) fun e h' x y=>wpAny_pure ⟨_,rfl,h2 e h' x y⟩)
end
end PySem
namespace L2
open PySem PySem.Spec PyProof.Rows
section
variable{K:Type}[DecidableEq K]
theorem EH{α β:Type}{F:α→β→Prop}{tS m₁:List α}{tT m₂:List β}(h:Paired F tS tT)(g:Paired F m₁ m₂):Paired F (tS++m₁) (tT++m₂):=by
 induction h with
 |nil=>exact g
 |cons a _ ih=>exact .cons a ih
end
section
variable{X:Cx}{o i e f:Expr}{pos apos bR:Pos}{td ty tx:TE}
theorem qu{pins:List (Addr×Obj)}{σ:St}{H:Hp}{s:Shared}{a:Addr}{us:List (List (List Key)×V)}(I:Inv X pins σ H s)(g:Rd H a (.dU us)):s.TypeIs (.ref a) "dict"∧∀b,Value.ref a= .ref b→∃ob,s.heap.get? b=some ob∧ob.dict=none:=by
 obtain⟨_,_,xs,_,dd⟩:=tj I.bj g
 refine⟨dd.typeIs,fun b q=>?_⟩
 cases q
 obtain⟨ob,_,_,h1,h2,_⟩:=dd
 exact⟨ob,h1,h2.2.1⟩
def Tc(td ty tx:TE):TE:=fun σ H Q=>td σ H fun x H1=>∃a Ml,x= .ref a∧Rd H1 a (.dU Ml)∧ty σ H1 fun y H2=>tx σ H2 fun z H3=>∃us b bI,H3 a=some (.dU us)∧y= .ref b∧iI H3 bI b∧us.length<sizeLine∧
 (∀v,dR us bI=some v→Q v H3)∧(dR us bI=none→Q z (upd H3 a (.dU (us++[(bI,z)]))))
theorem Mm(hu:X.A.units+64<cLine)(ho:PE X o td)(he:PE X e ty)(hf:PE X f tx)(m:M2 X o "setdefault" apos e f bR):PE X (.Call (.Attribute o "setdefault" apos) [e,f] [] bR) (Tc td ty tx):=by
 intro pins s σ H Q I h
 refine wpAny_Call_method m.base m.Sq m.line PySem.F.plainAttrs_dict PySem.IM PySem.P0 (bL (ho pins s σ H _ I h) fun u s1 ⟨x,H1,I1,rx,a,Ml,ex,g0,q1⟩=>?_)
 subst ex
 obtain rfl:u=Value.ref a:=rx
 obtain⟨t1,t2⟩:=qu I1 g0
 refine⟨t1,t2,?_⟩
 rw[m.trees]
 refine Calls.callWith_builtin rfl (Calls.evalArgs_plain (Calls.spliced_cons (bL (he pins s1 σ H1 _ I1 q1) fun iv s2 ⟨y,H2,I2,ry,q2⟩=>
  Calls.spliced_cons (bL (hf pins s2 σ H2 _ I2 q2) fun fv s3 ⟨z,H3,I3,rz,us,b,bI,e3,ey,kb,hl,c1,c2⟩=>Calls.spliced_nil ?_))))
 subst ey
 cases (show iv=Value.ref b from ry)
 obtain⟨zl,nd,xs,rel,dd⟩:=tj I3.bj (.inl e3)
 have lx:=rel.length
 refine call_meetsIn PySem.IM dd.typeIs PySem.P1 (PySem.P4 _ _ _) (PySem.F2 (mK (bZ X.prog X.w)) a b nd fv) ⟨by show X.A.units+1+4<cLine;omega,bI,xs,rH I3.bj kb,dd,by omega,fun p hp=>?_,fun hp h' Be hs=>?_⟩
 ·have r:=rel.val bI
  rw[hp]at r
  cases hv:dR us bI with
  |none=>rw[hv]at r;cases r
  |some v=>
   rw[hv]at r
   exact⟨v,H3,I3.tok _,r,c1 v hv⟩
 ·have r:=rel.val bI
  rw[hp]at r
  have hv:dR us bI=none:=by
   cases hv:dR us bI with
   |none=>rfl
   |some v=>rw[hv]at r;cases r
  obtain⟨q,es,ep,hq,h2,h3,h4,_,h5⟩:=Be
  have r2:KU H3 (us++[(bI,z)]) (xs++[(bI,b,fv)]):=EH rel (.cons ⟨rfl,kb,rz⟩ .nil)
  have r3:KU (upd H3 a (.dU (us++[(bI,z)]))) (us++[(bI,z)]) (xs++[(bI,b,fv)]):=by
   refine Paired.tR r2 fun p q w=>⟨w.1,w.2.1.more fun c ys ec=>?_,w.2.2⟩
   rw[bg (vH ec e3 (fun z=>nomatch z))]
   exact ec
  exact⟨z,_,nQ (ob:=.dU (us++[(bI,z)])) I3 (by rw[e3];exact True.intro) hs ⟨q,hq⟩ (show bN X.prog X.w _ h' a (.dU (us++[(bI,z)]))from⟨by simp;omega,nd,_,r3,q,es,ep,hq,h2,h3,h4,h5⟩),rz,c2 hv⟩
def Td(td ty:TE):TE:=fun σ H Q=>td σ H fun x H1=>ty σ H1 fun y H2=>∃a us b bI v,x= .ref a∧Rd H2 a (.dU us)∧y= .ref b∧iI H2 bI b∧dR us bI=some v∧Q v H2
theorem Mn(hu:X.A.units+64<cLine)(ho:PE X o td)(hi:PE X i ty)(hs:HB i):PE X (.Subscript o i pos) (Td td ty):=by
 intro pins s σ H Q I h
 refine HC PySem.F.slot_dict_getitem.lookup hs (bL (ho pins s σ H _ I h) fun u s1 ⟨x,H1,I1,rx,q1⟩=>bL (hi pins s1 σ H1 _ I1 q1) fun iv s2 ⟨y,H2,I2,ry,a,us,b,bI,v,ex,g,ey,kb,hv,q2⟩=>?_)
 subst ex ey
 obtain rfl:u=Value.ref a:=rx
 cases (show iv=Value.ref b from ry)
 refine⟨(qu I2 g).1,?_⟩
 obtain⟨zl,nd,xs,rel,dd⟩:=tj I2.bj g
 obtain⟨w',hw,qK⟩:=pL.some_of (v:=v) (o:=(atKey xs bI).map (·.2)) (by rw[←hv];exact rel.val bI)
 obtain⟨p,hp,P5⟩:=Option.map_eq_some_iff.mp hw
 refine wpAny_getItem_heap (knd:=mK (bZ X.prog X.w)) (by show X.A.units+1+4<cLine;omega) (rH I2.bj kb) dd hp ?_
 rw[P5]
 exact⟨v,H2,I2.tok _,qK,q2⟩
end
theorem F3{d:Qm.D}{c:Qm.Cells}{l:Nat×List (List (List Int)×Qm.D)}(h:Qm.nF d c=some l)(z:Qm.Cell):Qm.nF d (c++[z])=some l:=by
 unfold Qm.nF at h ⊢
 split at h
 ·rename_i n
  split at h
  ·rename_i ps hp
   have e2:(c++[z])[n]? =some (Qm.Cell.gH ps):=by rw[List.getElem?_append_left (List.getElem?_eq_some_iff.mp hp).1,hp]
   rw[e2]
   exact h
  ·cases h
 ·cases h
section
variable{X:Cx}{o i b:Expr}{pos apos bR p0 p1 p2 lp:Pos}{fo fb:Qm.XE}
theorem wN(hu:X.A.units+64<cLine)(ho:QE X o fo)(hb:QE X b fb)(mN:attributeBase o "setdefault" X.env (eval o X.env)=eval o X.env:=by rfl)(qS:((backTo bR (starEach [b,.List [] lp] X.env)).all (fun x=>!x.1)&&(backToKw bR (keywordEach [] X.env)).all (fun x=>x.1.isSome)
  &&decide (([b,.List [] lp]:List Expr).length+([]:List Keyword).length+(if ([]:List Keyword).isEmpty then 0 else 1)<30))=true:=by rfl)(mO:(apos.endLine==bR.line)=true:=by rfl)(ht:backTo bR (starEach [b,.List [] lp] X.env)=[(false,eval b X.env),(false,eval (.List [] lp) X.env)]:=by rfl):
  QE X (.Call (.Attribute o "setdefault" apos) [b,.List [] lp] [] bR) (Qm.ff fo fb):=(Mm hu ho hb (eL aj) ⟨mN,qS,mO,ht⟩).imp <| by
 rintro σ H Q ⟨ρ,env,c,d,c',rs,re,e,k⟩
 obtain⟨p,e1,e⟩:=aF e
 obtain⟨l0,e0,e⟩:=aF e
 obtain⟨q,e2,e⟩:=aF e
 obtain⟨l,e3,e⟩:=aF e
 obtain⟨x,e4,e⟩:=aF e
 split at e
 ·rename_i hz
  refine⟨ρ,env,c,p.1,p.2,rs,re,e1,fun aN v H1 n1 r1=>?_⟩
  obtain⟨_,_,Ml,rfl,g1,_⟩:=n1.rs.nF r1 e0
  refine⟨_,Ml,rfl,.inl g1,aN,env,p.2,q.1,q.2,n1.rs,re.up n1.up,e2,fun jm u H2 n2 r2=>?_⟩
  refine⟨jm,env,q.2,.ref q.2.length,q.2++[.lst []],n2.rs,re.up (n1.trans n2).up,rfl,fun zQ z H3 n3 r3=>?_⟩
  have e5:=F3 e3 (.lst [])
  obtain⟨bb,rfl,kb⟩:=Du (r2.up n3.up) e4
  obtain⟨YI,hc,us,hv,h1,a1⟩:=n3.rs.nF ((r1.up n2.up).up n3.up) e5
  rw[←V.ref.inj hv]at h1
  refine⟨us,bb,lV x,h1,rfl,kb,rh (by rw[←a1.length];exact hz),fun v Dv=>?_,fun Dv=>?_⟩
  ·rcases a1.val x with⟨h2,h3⟩|⟨d',v',h2,h3,h4⟩
   ·rw[h3]at Dv;cases Dv
   ·rw[h2]at e
    cases e
    rw[h3]at Dv
    cases Dv
    exact k zQ _ H3 (n1.trans (n2.trans n3)) h4
  ·rcases a1.val x with⟨h2,h3⟩|⟨d',v',h2,h3,h4⟩
   ·rw[h2]at e
    cases e
    have n4:=Nx.PY n3.rs hc (a1.append (.cons (k:=x) r3 .nil))
    rw[←V.ref.inj hv]at n4
    exact k zQ _ _ (n1.trans (n2.trans (n3.trans n4))) (r3.up n4.up)
   ·rw[h3]at Dv;cases Dv
 ·cases e
theorem BD(hu:X.A.units+64<cLine)(ho:QE X o fo)(hb:QE X b fb)(hs:HB b:=by intro _ _;rfl):QE X (.Subscript o b pos) (Qm.jF fo fb):=(Mn hu ho hb hs).imp <| by
 rintro σ H Q ⟨ρ,env,c,d,c',rs,re,e,k⟩
 obtain⟨p,e1,e⟩:=aF e
 obtain⟨q,e2,e⟩:=aF e
 obtain⟨l,e3,e⟩:=aF e
 obtain⟨x,e4,e⟩:=aF e
 obtain⟨d',e5,e⟩:=aF e
 cases e
 refine⟨ρ,env,c,p.1,p.2,rs,re,e1,fun aN v H1 n1 r1=>⟨aN,env,p.2,q.1,q.2,n1.rs,re.up n1.up,e2,fun jm u H2 n2 r2=>?_⟩⟩
 obtain⟨bb,rfl,kb⟩:=Du r2 e4
 obtain⟨a,us,rfl,g,a1⟩:=n2.rs.qt (r1.up n2.up) e3
 rcases a1.val x with⟨h2,h3⟩|⟨d2,v',h2,h3,h4⟩
 ·rw[h2]at e5;cases e5
 ·rw[h2]at e5
  cases e5
  exact⟨a,us,bb,lV x,v',rfl,g,rfl,kb,h3,k jm _ H2 (n1.trans n2) h4⟩
end
theorem wO{K:PySem.W.Frag}:qr K (EF ()) Qm.oi:=by
 intro ρ c H ds d c' vs Q rs ra e k
 obtain⟨x,rfl,e⟩:=ja e
 obtain⟨v,rfl,rx⟩:=ra.iJ
 obtain⟨l,e1,e⟩:=aF e
 split at e
 ·cases e
  obtain⟨_,hc,us,rfl,h1,a1⟩:=rs.pT rx e1
  refine⟨_,us,rfl,.inl h1,fun q as hq pa=>?_⟩
  have IP:∀{ps:List (List Int×Qm.D)}{us:List (List Key×V)}{as:List Addr},fC K ρ c.length H ps us→Paired (fun(kv:List Key×V) (a:Addr)=>H a=some (.tup (kv.1.map kV))) us as→RA K ρ c.length H (ps.map fun p=>Qm.IJ p.1) (as.map V.ref):=by
   intro ps us as a p
   induction a generalizing as with
   |nil=>cases p;exact .nil
   |cons r a ih=>
    cases p with
    |cons h1 t=>exact .cons (EB h1) (ih t)
  obtain⟨n,r⟩:=Nx.alloc rs hq (IP a1 pa)
  exact k _ _ _ n r
 ·cases e
theorem qw{K:PySem.W.Frag}:qr K (EG ()) Qm.jq:=by
 intro ρ c H ds d c' vs Q rs ra e k
 obtain⟨x,rfl,e⟩:=ja e
 obtain⟨v,rfl,rx⟩:=ra.iJ
 obtain⟨l,e1,e⟩:=aF e
 split at e
 ·cases e
  obtain⟨a,us,rfl,g,a1⟩:=rs.qt rx e1
  refine⟨_,us,rfl,g,fun q as hq pa=>?_⟩
  have IP:∀{ps:List (List (List Int)×Qm.D)}{us:List (List (List Key)×V)}{as:List Addr},dM K ρ c.length H ps us→Paired (fun(kv:List (List Key)×V) (a:Addr)=>iI H kv.1 a) us as→RA K ρ c.length H (ps.map fun p=>Qm.By p.1) (as.map V.ref):=by
   intro ps us as a p
   induction a generalizing as with
   |nil=>cases p;exact .nil
   |cons r a ih=>
    cases p with
    |cons h1 t=>exact .cons (ED h1) (ih t)
  obtain⟨n,r⟩:=Nx.alloc rs hq (IP a1 pa)
  exact k _ _ _ n r
 ·cases e
end L2
namespace L2
open PySem PySem.Spec PyProof.Rows
section
variable{X:Cx}{o:Expr}{p0 pos apos bR:Pos}{td:TE}{fo:Qm.XE}
def Mo(td:TE):TE:=fun σ H Q=>td σ H fun x H1=>∃a us,x= .ref a∧Rd H1 a (.dU us)∧∀l,H1 l=none→Q (.ref l) (upd H1 l (.lst (us.map (·.2))))
theorem F4(hc:X.calm=true)(hg:Gl X "list")(hm:X.mg "list" =none)(ho:PE X o td)(mN:attributeBase o "values" X.env (eval o X.env)=eval o X.env)(qS:((backTo bR (starEach [] X.env)).all (fun x=>!x.1)&&(backToKw bR (keywordEach [] X.env)).all (fun x=>x.1.isSome)
  &&decide (([]:List Expr).length+([]:List Keyword).length+(if ([]:List Keyword).isEmpty then 0 else 1)<30))=true)(mO:(apos.endLine==bR.line)=true)(ht:backTo bR (starEach [] X.env)=[])
  (hs:starEach [.Call (.Attribute o "values" apos) [] [] bR] X.env=[(false,eval (.Call (.Attribute o "values" apos) [] [] bR) X.env)]):
  PE X (.Call (.Name "list" p0) [.Call (.Attribute o "values" apos) [] [] bR] [] pos) (Mo td):=by
 intro pins s σ H Q I h
 refine wpAny_Call_Name_kw (gi I hg hm (u:=.type "list") (by decide +kernel) ?_)
 refine PyProof.Rows.callWith_type1 ?_ hs rfl
 rw[hs]
 show wpAny _ _ (spliced [(false,eval (.Call (.Attribute o "values" apos) [] [] bR) X.env)]) _ _ _
 refine Calls.spliced_cons ?_
 refine wpAny_Call_method mN qS mO PySem.F.plainAttrs_dict PySem.F.slot_dict_values PySem.F.type_dict_values (bL (ho pins s σ H _ I h) fun u s1 ⟨x,H1,I1,rx,a,us,ex,g,q1⟩=>?_)
 subst ex
 obtain rfl:u=Value.ref a:=rx
 obtain⟨t1,t2⟩:=qu I1 g
 refine⟨t1,t2,?_⟩
 rw[ht]
 obtain⟨zl,nd,ys,rel,ob,es,ep,h1,h2,h3,h4,h5,h6⟩:=tj I1.bj g
 have hl:es.size=ys.length:=by rw[←Array.length_toList,h4,List.length_map]
 have Tb:=rel.length
 have m:cM s1.heap a es ep:=⟨ob,h1,h2,h3⟩
 refine Calls.callWith_builtin rfl (PySem.evalArgs_none ?_)
 refine call_meetsIn PySem.F.slot_dict_values t1 PySem.F.entry_dict_values (PySem.F.args_dict_values_1 _) (GL a nd) ⟨⟨es,ep,m⟩,Calls.spliced_nil ?_⟩
 have I2:Inv X pins σ H1 { s1 with heap:=s1.heap.push { cls:=.type "dict_values",data:=.fields #[.ref a] } }:=I1.kept (t':=s1.toks) fun b o e=>Heap.get?_push_of_some _ e
 have m2:cM (s1.heap.push { cls:=.type "dict_values",data:=.fields #[.ref a] }) a es ep:=m.at fun o e=>Heap.get?_push_of_some _ e
 have v2:(s1.heap.push { cls:=.type "dict_values",data:=.fields #[.ref a] }).IsValuesView s1.heap.objs.size a:=⟨_,Heap.get?_push_size _ rfl,rfl,rfl⟩
 refine PySem.W.kdl_call (s:={ s1 with heap:=s1.heap.push { cls:=.type "dict_values",data:=.fields #[.ref a] } }) RF (I.ok.hd hc) ⟨v2,m2⟩ (by omega) fun h' tk acc c' hk hD wM=>?_
 have ea:=BC h4 wM
 refine⟨.ref _,_,I2.laid (t':=tk) hk (Nat.le_refl _) (show bN X.prog X.w _ h' _ (.lst (us.map (·.2)))from⟨by simp;omega,acc.toList,c',?_,by simpa using hD⟩),rfl,q1 _ (I2.bj.fresh (Nat.le_refl _))⟩
 rw[ea]
 exact rel.vals
theorem F5(hg:Gl X "list")(hm:X.mg "list" =none)(ho:QE X o fo)(hc:X.calm=true:=by rfl)(mN:attributeBase o "values" X.env (eval o X.env)=eval o X.env:=by rfl)(qS:((backTo bR (starEach [] X.env)).all (fun x=>!x.1)&&(backToKw bR (keywordEach [] X.env)).all (fun x=>x.1.isSome)
  &&decide (([]:List Expr).length+([]:List Keyword).length+(if ([]:List Keyword).isEmpty then 0 else 1)<30))=true:=by rfl)(mO:(apos.endLine==bR.line)=true:=by rfl)(ht:backTo bR (starEach [] X.env)=[]:=by rfl)
  (hs:starEach [.Call (.Attribute o "values" apos) [] [] bR] X.env=[(false,eval (.Call (.Attribute o "values" apos) [] [] bR) X.env)]:=by rfl):
  QE X (.Call (.Name "list" p0) [.Call (.Attribute o "values" apos) [] [] bR] [] pos) (Qm.Aa fo):=(F4 hc hg hm ho mN qS mO ht hs).imp <| by
 rintro σ H Q ⟨ρ,env,c,d,c',rs,re,e,k⟩
 obtain⟨p,e1,e⟩:=aF e
 obtain⟨l,e2,e⟩:=aF e
 split at e
 ·cases e
  refine⟨ρ,env,c,p.1,p.2,rs,re,e1,fun aN v H1 n1 r1=>?_⟩
  obtain⟨a,us,rfl,g,a1⟩:=n1.rs.qt r1 e2
  refine⟨a,us,rfl,g,fun l hl=>?_⟩
  have IP:∀{N:Nat}{ps:List (List (List Int)×Qm.D)}{us:List (List (List Key)×V)},dM X.K aN N H1 ps us→RA X.K aN N H1 (ps.map fun q=>q.2) (us.map (·.2)):=by
   intro N ps us a
   induction a with
   |nil=>exact .nil
   |cons r a ih=>exact .cons r ih
  obtain⟨n,r⟩:=Nx.alloc n1.rs hl (IP a1)
  exact k _ _ _ (n1.trans n) r
 ·cases e
end
end L2
namespace PySem
set_option maxRecDepth 100000
theorem Dw:typeLookup (.type "list") "keys" =pure none:=am_miss_of_fast (by decide +kernel)
theorem EI:entryFor table "dict.update.loop" =some Builtin.«dict.update.loop»:=entryFor_of_tree (by kernel_rfl)
theorem vo:plainId "dict.update.loop" =true:=by decide +kernel
theorem Mp{prog:Program}{w:World}{A:Around}{E:Value→Shared→Prop}{s:Shared}{a:Addr}{o:Obj}{xs:Array Value}{k:Nat}{Q:Option Value→Shared→Prop}
  (hx:s.heap.get? a=some o)(hc:o.cls= .type "list")(N2:o.data= .seq xs k)(hd:o.dict=none)(hA:A.handled=none)
  (h:∀h' tk e,Heap.NewExcOf s.heap h' e "AttributeError"→Q none { s with heap:=h',toks:=tk }):wpAny (model prog w) A (getAttr? (.ref a) "keys") Q E s:=by
 obtain⟨c,uR,dat,sl⟩:=o
 simp only at hc N2 hd
 subst hc N2 hd
 obtain⟨hp,g,d,tk,os⟩:=s
 have hT:∀Te,(⟨hp,g,d,Te,os⟩:Shared).TypeIs (.ref a) "list":=fun _=>⟨_,hx,rfl⟩
 have f1:=sub_AttributeError
 have f3:=F.slot_list_getattribute.lookup
 have f4:=F.slot_list_getattribute.bind (.ref a)
 have f5:=am_list_getattr_none
 unfold getAttr? getAttrBy? getAttrBy
 repeat (any_goals (first|assumption|exact hT _|((with_reducible show wpAny _ _ (call (Value.builtin "list.__getattribute__") _ _) _ _ _);refine call_meets F.slot_list_getattribute (hT _) am_entry_list_getattribute (F.args_list_getattribute_2 _ _) (meets_getattribute_miss_list a xs k sl "keys" _ Dw (by decide) (by decide)) ⟨hx,hA,fun h' Te e ig=>?_⟩)|wp_step))
 obtain⟨t',u',he⟩:=ig.there
 show wpAny _ _ (getattributeRaised _ _ _ _ _ _ _) _ _ _
 unfold getattributeRaised
 repeat (any_goals (first|assumption|wp_step))
 all_goals exact h _ _ _ ig.of
end PySem
namespace L2
open PySem PySem.Spec PyProof.Rows
theorem KU.me{H:Hp}{aE:List (List (List Key)×V)}{xs:List (List (List Key)×Addr×Value)}(r:KU H aE xs)(k:List (List Key)){y:V}{u:Value}(ry:RelV y u):
  KU H (aE.map fun kv=>if kv.1=k then(kv.1,y)else kv) (xs.map (putAt k u)):=by
 induction r with
 |nil=>exact .nil
 |@cons p q ps qs h t ih=>
  rw[List.map_cons,List.map_cons]
  refine .cons ?_ ih
  obtain⟨h1,h2,h3⟩:=h
  unfold putAt
  by_cases e:p.1=k
  ·rw[if_pos e,if_pos (h1.symm.trans e)];exact⟨h1,h2,ry⟩
  ·rw[if_neg e,if_neg (fun z=>e (h1.trans z))];exact⟨h1,h2,h3⟩
theorem KU.put{H:Hp}{aE:List (List (List Key)×V)}{xs:List (List (List Key)×Addr×Value)}(r:KU H aE xs)(k:List (List Key)){b:Addr}{y:V}{u:Value}(hb:iI H k b)(ry:RelV y u):
  KU H (putK aE k y) (storedH xs k b u):=by
 have e:(aE.any fun kv=>decide (kv.1=k))=(atKey xs k).isSome:=by
  rw[sR,(KU.val r k).vY,Option.isSome_map]
 unfold putK storedH
 rw[e]
 by_cases q:(atKey xs k).isSome=true
 ·rw[if_pos q,if_pos q];exact KU.me r k ry
 ·rw[if_neg q,if_neg q];exact EH r (.cons ⟨rfl,hb,ry⟩ .nil)
theorem Dx{α β:Type}{F:α→β→Prop}:∀{tS:List α}{tT:List β}{i:Nat}{x:α},Paired F tS tT→tS[i]? =some x→∃y,tT[i]? =some y∧F x y
 |_,_,0,_,.cons h _,e=>by cases e;exact⟨_,rfl,h⟩
 |_,_,i+1,_,.cons _ t,e=>Dx (i:=i) t e
section
variable{X:Cx}{pins:List (Addr×Obj)}{σ:St}{H:Hp}{A:Around}{E:Value→Shared→Prop}
theorem Mq{s:Shared}{a b:Addr}{us:List (List (List Key)×V)}{bI:List (List Key)}{v:V}{r:Value}{Q:Unit→Shared→Prop}(hu:A.units+8<cLine)(I:Inv X pins σ H s)(e:H a=some (.dU us))(kb:iI H bI b)(hl:us.length<sizeLine)(rv:RelV v r)
  (h:∀h' t',Heap.SameBut a s.heap h'→Inv X pins σ (upd H a (.dU (putK us bI v))) { s with heap:=h',toks:=t' }→Q () { s with heap:=h',toks:=t' }):wpAny (model X.prog X.w) A (dictSet a (.ref b) r) Q E s:=by
 obtain⟨z,nd,xs,rel,dd⟩:=tj I.bj (.inl e)
 have lx:=rel.length
 have uO:(putK us bI v).length≤sizeLine:=by have:=jO us bI v;omega
 refine wpAny_dictSet_heap (knd:=mK (bZ X.prog X.w)) (hsz:=by omega) (show A.units+4<cLine by omega) (rH I.bj kb) dd fun h' Be hs=>h _ _ hs ?_
 obtain⟨q,es,ep,hq,h2,h3,h4,_,h5⟩:=Be
 have r3:KU (upd H a (.dU (putK us bI v))) (putK us bI v) (storedH xs bI b r):=by
  refine Paired.tR (KU.put rel bI kb rv) fun p q w=>⟨w.1,w.2.1.more fun c ys ec=>?_,w.2.2⟩
  rw[bg (vH ec e (fun z=>nomatch z))]
  exact ec
 exact nQ (ob:=.dU (putK us bI v)) I (by rw[e];exact True.intro) hs ⟨q,hq⟩ (show bN X.prog X.w _ h' a (.dU (putK us bI v))from⟨uO,nd,_,r3,q,es,ep,hq,h2,h3,h4,h5⟩)
def Dy(H:Hp)(x:V)(p:List (List Key)×V):Prop:=∃t b,x= .ref t∧H t=some (.tup [.ref b,p.2])∧iI H p.1 b
theorem x_{s:Shared}{t:Addr}{x y:Value}{Q:List Value→Shared→Prop}(h:IsTup s.heap t #[x,y])(q:Q [x,y] s):wpAny (model X.prog X.w) A (Builtin.Dict.pairItems (.ref t)) Q E s:=by
 obtain⟨o,ho,hc,n,hd⟩:=h
 unfold Builtin.Dict.pairItems
 refine wpAny_bind (wpAny_typeOf (T:="tuple") ⟨o,ho,hc⟩ ?_)
 rw[if_pos (by decide)]
 refine wpAny_bind ?_
 show wpAny _ _ (load t >>= _) _ _ s
 refine wpAny_bind (wpAny_load ho ?_)
 obtain⟨oc,od,Tf,kN⟩:=o
 simp only at hd
 subst hd
 exact wpAny_pure (wpAny_pure q)
theorem P6{J l D:Addr}{its:Array Value}{xs:List V}{ps:List (List (List Key)×V)}{R:Result→Shared→Prop}(hh:A.in1.handled=none)(hu:A.units+16<cLine)(VP:l≠J)(P7:J≠D)(VQ:l≠D)(hD:H D=none)(rx:Vals xs its.toList)(pp:Paired (Dy H) xs ps)(hz:its.size≤sizeLine):
  ∀(k i:Nat) (s:Shared) (us:List (List (List Key)×V)),its.size - i=k→i≤its.size→s.heap.IsListIter J l i→s.heap.IsList l its→us.length≤i→hV X pins H J→Inv X pins σ (upd H D (.dU us)) s→
   (∀s',Inv X pins σ (upd H D (.dU ((ps.drop i).foldl (fun a p=>putK a p.1 p.2) us))) s'→R (.ok (.ret .none)) s')→
   codeAny (model X.prog X.w) A (.builtin "dict.update.loop" ⟨[.ref D,.ref J,rawInt i,.none],[]⟩) R s:=by
 have W:=Walks.list (prog:=X.prog) (w:=X.w) (A:=A.in1) hh J l VP its
 have lp:xs.length=ps.length:=Paired.length pp
 have lx:=rx.length
 have lz:its.toList.length=its.size:=Array.length_toList
 intro k
 induction k with
 |zero=>
  intro i s us hk hi hit hl VR hf I hR
  have Tg:i=its.size:=by omega
  subst Tg
  refine codeAny_builtin PySem.EI ?_
  rw[Around.under_plainId PySem.vo _]
  show wpAny _ A.in1 (pyNext (.ref J) >>= _) _ _ s
  refine wpAny_bind (W.done s _ _ ⟨hit,hl⟩ fun h' tk kk=>?_)
  obtain⟨f0,f1,f2,f3,f4,f5⟩:=hf
  have I1:Inv X pins σ (upd H D (.dU us)) { s with heap:=h',toks:=tk }:=I.turned (it:=J) (fun b o hb e=>kk b o (by simpa using hb) e) (by rw[bg P7];exact f0) f1 f3 f4 f5
  show wpAny _ A.in1 (Builtin.Dict.addKeywords D [] >>= _) _ _ _
  refine wpAny_bind (wpAny_pure (wpAny_pure ?_))
  refine hR _ ?_
  rw[List.drop_eq_nil_of_le (by omega)]
  exact I1
 |succ k ih=>
  intro i s us hk hi hit hl VR hf I hR
  have fB:i<its.size:=by omega
  refine codeAny_builtin PySem.EI ?_
  rw[Around.under_plainId PySem.vo _]
  show wpAny _ A.in1 (pyNext (.ref J) >>= _) _ _ s
  refine wpAny_bind (W.item i s _ _ fB ⟨hit,hl⟩ fun v h' tk hv qL kk=>?_)
  obtain⟨f0,f1,f2,f3,f4,f5⟩:=id hf
  have I1:Inv X pins σ (upd H D (.dU us)) { s with heap:=h',toks:=tk }:=I.turned (it:=J) (fun b o hb e=>kk b o (by simpa using hb) e) (by rw[bg P7];exact f0) f1 f3 f4 f5
  obtain⟨x,hx⟩:∃x,xs[i]? =some x:=⟨_,List.getElem?_eq_getElem (by omega)⟩
  obtain⟨p,hp,t,b,ex,ht,kb⟩:=Dx pp hx
  obtain⟨u,Th,ru⟩:=rx.get hx
  subst ex
  have VT:v= .ref t:=by
   rw[Array.getElem?_toList,hv]at Th
   cases Th
   exact ru
  subst VT
  have VU:t≠D:=fun e=>by rw[e,hD]at ht;cases ht
  have VV:(upd H D (.dU us)) t=some (.tup [.ref b,p.2]):=by rw[bg VU];exact ht
  have kb2:iI (upd H D (.dU us)) p.1 b:=kb.more fun c ys ec=>by
   rw[bg (fun e=>by rw[e,hD]at ec;cases ec)]
   exact ec
  obtain⟨its',r2,tt,_⟩:=I1.tuple (cN.of VV)
  obtain⟨u1,u2,rfl,VW,VX⟩:=vals2 r2
  cases (show u1=Value.ref b from VW)
  show wpAny _ A.in1 (holding [Value.ref t] _ >>= _) _ _ _
  refine wpAny_bind (wpAny_holding ?_)
  refine wpAny_bind (wpAny_tryCatch (x_ tt ?_))
  show wpAny _ A.in1 (holding [Value.ref b,u2] (dictSet D (.ref b) u2)) _ _ _
  refine wpAny_holding (Mq (by show A.units+1+8<cLine;omega) I1 (cS) kb2 (by omega) VX fun h2 t2 hs I2=>?_)
  rw[GN]at I2
  refine wpAny_pure ⟨plainId_quiet PySem.vo _,?_⟩
  have Ti:h2.IsListIter J l (i+1):=qL.1.at fun o e=>(hs.2 J P7).trans e
  have uO:h2.IsList l its:=qL.2.at fun o e=>(hs.2 l VQ).trans e
  refine ih (i+1) _ (putK us p.1 p.2) (by omega) fB Ti uO (by have:=jO us p.1 p.2;omega) hf I2 fun s' I3=>hR s' ?_
  rw[List.drop_eq_getElem_cons (show i<ps.length by omega)]
  have:ps[i]'(by omega)=p:=by
   rw[List.getElem?_eq_getElem (by omega)]at hp
   exact Option.some.inj hp
  rw[this]
  exact I3
end
end L2
namespace L2
open PySem PySem.Spec PyProof.Rows
def EJ(K:PySem.W.Frag):List V→Hp→VK→Prop:=fun xs H Q=>∃l ws ps,xs=[.ref l]∧bU K H l ws∧Paired (Dy H) ws ps∧∀D,H D=none→Q (.ref D) (upd H D (.dU (ps.foldl (fun a p=>putK a p.1 p.2) [])))
section
variable{X:Cx}
theorem BE(hc:X.calm=true)(hu:X.A.units+64<cLine):gC X (.type "dict") (EJ X.K):=by
 intro pins s σ H xs us Q I r h
 obtain⟨l,ws,ps,rfl,hl,pp,q⟩:=h
 obtain⟨u,rfl,rx⟩:=vals1 r
 cases (show u=Value.ref l from rx)
 obtain⟨its,rv,tl,zl⟩:=I.list hl
 have hA:X.A.handled=none:=I.ok.hd hc
 refine callType_codes (Q₁:=fun obj bJ=>obj= .ref s.heap.objs.size∧bJ= { s with heap:=s.heap.push { cls:=.type "dict",data:=.dict #[] } }) F.kt_called_dict (F.kt_typeCall_dict_1 _) F.entry_dict_init (kt_code_dict_new _ ⟨rfl,rfl⟩) ?_
 rintro obj bJ ⟨rfl,rfl⟩
 have hD:H s.heap.objs.size=none:=I.bj.fresh (Nat.le_refl _)
 have I1:Inv X pins σ (upd H s.heap.objs.size (.dU [])) { s with heap:=s.heap.push { cls:=.type "dict",data:=.dict #[] } }:=I.laid (a:=s.heap.objs.size) (o:=.dU []) (t':=s.toks) (fun _ _ q=>Heap.get?_push_of_some _ q) (Nat.le_refl _) (yu s.heap I.big)
 have P8:({ s with heap:=s.heap.push { cls:=.type "dict",data:=.dict #[] } }:Shared).TypeIs (.ref s.heap.objs.size) "dict":=⟨_,Heap.get?_push_size _ rfl,rfl⟩
 have sz:(s.heap.push { cls:=.type "dict",data:=.dict #[] }).objs.size=s.heap.objs.size+1:=Heap.size_push ..
 have Tj:l<s.heap.objs.size:=by obtain⟨o,n,e,_⟩:=tl;exact Heap.lt_size e
 have Tn:PlainL (s.heap.push { cls:=.type "dict",data:=.dict #[] }) l its.toArray:=by
  obtain⟨o,n,e,x⟩:=tl
  exact⟨o,n,Heap.get?_push_of_some _ e,x⟩
 refine⟨P8,F.args_dict_init_2 _ _,?_⟩
 generalize YJ:s.heap.objs.size=D at*
 generalize To:({ s with heap:=s.heap.push { cls:=.type "dict",data:=.dict #[] } }:Shared)=s1 at*
 have eh:s1.heap=s.heap.push { cls:=.type "dict",data:=.dict #[] }:=by rw[←To]
 rw[←eh]at sz Tn
 clear To
 unfold Builtin.«dict.__init__»
 refine wpAny_bind ?_
 unfold Builtin.Dict.selfAndRest
 refine wpAny_bind (wpAny_notOrdered_dict P8 ?_)
 show wpAny _ _ (pure (D,[Value.ref l])) _ _ _
 refine wpAny_pure ?_
 show wpAny _ _ (Builtin.Dict.updateFrom "dict.__init__" D (.ref l) [] .none) _ _ _
 unfold Builtin.Dict.updateFrom
 obtain⟨o,n,e,cl,nd,dt⟩:=id Tn
 refine wpAny_bind (wpAny_typeOf (T:="list") ⟨o,e,cl⟩ ?_)
 rw[if_pos (by decide)]
 refine wpAny_bind (PySem.Mp e cl dt nd (by simp[hA]) fun h2 tk ex ne=>?_)
 have I2:Inv X pins σ (upd H D (.dU [])) { s1 with heap:=h2,toks:=tk }:=I1.kept ne.keeps
 have Tp:h2.IsList l its.toArray:=⟨o,ne.keeps _ _ e,cl,n,dt⟩
 have z2:D<h2.objs.size:=by
  obtain⟨o',e',_⟩:=P8
  exact Heap.lt_size (ne.keeps _ _ e')
 have n1:h2.objs.size≠D:=Nat.ne_of_gt z2
 have n2:l≠h2.objs.size:=Nat.ne_of_lt (Nat.lt_trans Tj z2)
 have n3:l≠D:=Nat.ne_of_lt Tj
 show wpAny _ _ (_ >>= _) _ _ _
 refine wpAny_bind (wpAny_rule ?_)
 refine wpAny_bind (wpAny_pyIter_list Tp ?_)
 have I3:Inv X pins σ (upd H D (.dU [])) { s1 with heap:=h2.push { cls:=.type "list_iterator",data:=.fields #[.ref l,.int 0 0] },toks:=tk }:=I2.kept (t':=tk) fun b o e=>Heap.get?_push_of_some _ e
 have fJ:hV X pins H h2.objs.size:=I2.pN (Nat.le_refl _) (by have:=I2.bj.fresh (a:=h2.objs.size) (Nat.le_refl _);rw[bg n1]at this;exact this)
 refine wpAny_pure ⟨plainId_quiet PySem.vo _,?_⟩
 refine P6 (H:=H) (J:=h2.objs.size) (l:=l) (D:=D) (its:=its.toArray) (xs:=ws) (ps:=ps) (by simp[hA]) (by show X.A.units+1+16<cLine;omega) n2 n1 n3 hD rv pp (by have:=rv.length;simp;omega) _ 0 _ [] rfl (Nat.zero_le _) ⟨_,Heap.get?_push_size _ rfl,rfl,rfl⟩ (Tp.push _) (Nat.le_refl _) fJ I3 fun s' I4=>?_
 exact⟨rfl,.ref D,_,I4,rfl,q D hD⟩
end
theorem BF{K:PySem.W.Frag}{ρ:Nat→Addr}{N:Nat}{H:Hp}:∀{xs:List Qm.D}{vs:List V}{ps:List (List (List Int)×Qm.D)},RA K ρ N H xs vs→Qm.omap Qm.tf xs=some ps→∃us,Paired (Dy H) vs us∧dM K ρ N H ps us
 |[],_,_,a,h=>by
  cases a;cases h
  exact⟨[],.nil,.nil⟩
 |x::xs,_,_,a,h=>by
  cases a with
  |cons r a=>
   unfold Qm.omap at h
   obtain⟨p,h1,h⟩:=aF h
   obtain⟨ps,h2,h⟩:=aF h
   cases h
   obtain⟨us,p1,p2⟩:=BF a h2
   unfold Qm.tf at h1
   split at h1
   ·rename_i kk vv
    obtain⟨y,h3,h1⟩:=aF h1
    cases h1
    obtain⟨t,ws,rfl,h4,a4⟩:=r.jM
    obtain⟨w1,w2,rfl,r1,r2⟩:=a4.uc
    obtain⟨b,rfl,kb⟩:=Du r1 h3
    exact⟨(lV y,w2)::us,.cons ⟨t,b,rfl,h4,kb⟩ p1,.cons r2 p2⟩
   ·cases h1
theorem dM.P9{K:PySem.W.Frag}{ρ:Nat→Addr}{N:Nat}{H:Hp}{ps:List (List (List Int)×Qm.D)}{us:List (List (List Key)×V)}(a:dM K ρ N H ps us):∀{qs:List (List (List Int)×Qm.D)}{vs:List (List (List Key)×V)},dM K ρ N H qs vs→dM K ρ N H (ps.foldl (fun a p=>Qm.mr a p.1 p.2) qs) (us.foldl (fun a p=>putK a p.1 p.2) vs):=by
 induction a with
 |nil=>exact fun b=>b
 |cons r a ih=>exact fun b=>ih (dM.put r b _)
theorem F6{K:PySem.W.Frag}:qr K (EJ K) Qm.vm:=by
 intro ρ c H ds d c' vs Q rs ra e k
 obtain⟨x,rfl,e⟩:=ja e
 obtain⟨v,rfl,rx⟩:=ra.iJ
 obtain⟨l,e1,e⟩:=aF e
 obtain⟨ps,e2,e⟩:=aF e
 cases e
 obtain⟨_,hc,ws,rfl,h1,a1⟩:=rs.bq rx e1
 obtain⟨us,p1,p2⟩:=BF a1 e2
 refine⟨_,ws,us,rfl,bU.of h1,p1,fun q hq=>?_⟩
 obtain⟨n,r⟩:=Nx.vf (z:=.gH (ps.foldl (fun a p=>Qm.mr a p.1 p.2) [])) (o:=.dU (us.foldl (fun a p=>putK a p.1 p.2) [])) rs hq (fun _ _ _ u h=>⟨_,h,(p2.P9 .nil).up u⟩)
 exact k _ _ _ n r
end L2
namespace PySem
set_option maxRecDepth 100000
abbrev kR(h:Heap)(z TI TO:Addr)(f0 f1:Value):Prop:=
 h.get? z=some { cls:=.type "zip",dict:=none,data:=.fields #[f0,f1,.bool false,.ref TI,.ref TO],slots:=#[] }
def ZF(f0:Value):Prop:=f0= .none∨∃a t,f0= .int a t
structure F7(z TI TO i1 i2:Addr):Prop where
 a1:TI≠z
 a2:TO≠z
 a3:i1≠z
 a4:i2≠z
 a5:TI≠TO
 a6:TI≠i1
 a7:TI≠i2
 a8:TO≠i1
 a9:TO≠i2
 VY:i1≠i2
section
variable{prog:Program}{w:World}{A:Around}{E:Value→Shared→Prop}{s:Shared}{z TI TO i1 i2:Addr}{f0 f1 x y a b:Value}
theorem Ad{n:Addr}{Q:Option Obj→Shared→Prop}(h:Q (s.heap.get? n) s):wpAny (model prog w) A (loadIfAlive n) Q E s:=fun _ _ _=>h
theorem IS{Q:Bool→Shared→Prop}(hz:kR s.heap z TI TO f0 f1)(hf:ZF f0)(q1:Q true s)(q2:∀h' g1,kR h' z TI TO f0 g1→Heap.SameBut z s.heap h'→Q false { s with heap:=h' }):
  wpAny (model prog w) A (Builtin.SmallTypes.ownedTupleIsFree (.ref z)) Q E s:=by
 unfold Builtin.SmallTypes.ownedTupleIsFree
 refine wpAny_bind (wpAny_field hz rfl (x:=f0) rfl ?_)
 rcases hf with rfl|⟨n,t,rfl⟩
 ·exact wpAny_pure q1
 ·refine wpAny_bind (Ad ?_)
  cases hg:s.heap.get? n.toNat with
  |none=>exact wpAny_pure q1
  |some o=>
   show wpAny _ _ (field (.ref z) 1 >>= _) _ _ _
   refine wpAny_bind (wpAny_field hz rfl (x:=f1) rfl ?_)
   split
   ·exact wpAny_bind (wpAny_setField_rec hz (by simp) fun h' mm hs=>wpAny_pure (q2 h' _ mm hs))
   ·exact wpAny_pure (q2 s.heap f1 hz ⟨rfl,fun _ _=>rfl⟩)
def Dr(prog:Program)(w:World)(A:Around)(s:Shared)(i:Addr)(h:Heap)(x:Value)(G:Heap→Prop):Prop:=
 ∀(Q:Value→Shared→Prop) (E:Value→Shared→Prop),(∀h',G h'→Heap.SameBut i h h'→Q x { s with heap:=h' })→wpAny (model prog w) A (Builtin.SmallTypes.nextOf (.ref i)) Q E { s with heap:=h }
theorem IT{G1 G2:Heap→Prop}{Q:Value→Shared→Prop}(D:F7 z TI TO i1 i2)(hz:kR s.heap z TI TO f0 f1)(hf:ZF f0)(hI:IsPair s.heap TI (.ref i1) (.ref i2))(hO:IsPair s.heap TO a b)
  (d1:∀h',(∀c o,c≠z→s.heap.get? c=some o→h'.get? c=some o)→Dr prog w A s i1 h' x G1)(d2:∀h',(∀c o,c≠z→c≠TO→c≠i1→s.heap.get? c=some o→h'.get? c=some o)→Dr prog w A s i2 h' y G2)
  (g1:∀h h',G1 h→(∀c o,c≠z→c≠TO→c≠i2→h.get? c=some o→h'.get? c=some o)→G1 h')(g2:∀h h',G2 h→(∀c o,c≠z→c≠TO→h.get? c=some o→h'.get? c=some o)→G2 h')
  (hQ:∀h' k0 k1 p q,kR h' z TI TO k0 k1→ZF k0→IsPair h' TO p q→G1 h'→G2 h'→IsPair h' s.heap.objs.size x y→(∀c o,c≠z→c≠TO→c≠i1→c≠i2→s.heap.get? c=some o→h'.get? c=some o)→Q (.ref s.heap.objs.size) { s with heap:=h' }):
  wpAny (model prog w) A (Builtin.«zip.__next__» ⟨[.ref z],[]⟩) (fun fin s'=>∃v,fin= .done (.ret v)∧Q v s') E s:=by
 show wpAny _ _ (field (.ref z) 2 >>= _) _ _ _
 refine wpAny_bind (wpAny_field hz rfl (x:=.bool false) rfl ?_)
 show wpAny _ _ (field (.ref z) 3 >>= _) _ _ _
 refine wpAny_bind (wpAny_field hz rfl (x:=.ref TI) rfl ?_)
 refine wpAny_bind (wpAny_seqItems hI rfl ?_)
 show wpAny _ _ (Builtin.SmallTypes.ownedTupleIsFree (.ref z) >>= _) _ _ _
 refine wpAny_bind (IS hz hf ?_ (fun h0 k1 z0 s0=>?_))
 ·simp only[if_true]
  refine wpAny_bind (wpAny_rule ?_)
  refine wpAny_bind (wpAny_field hz rfl (x:=.ref TO) rfl ?_)
  refine wpAny_bind (wpAny_setField_rec hz (by simp) fun h1 z1 s1=>?_)
  replace z1:kR h1 z TI TO .ellipsis f1:=z1
  refine wpAny_bind ?_
  simp only[List.zipIdx_cons,List.zipIdx_nil,List.forIn_cons,List.forIn_nil]
  refine wpAny_bind (wpAny_bind (wpAny_onRaise ?_))
  show wpAny _ _ (Builtin.SmallTypes.nextOf (.ref i1) >>= _) _ _ _
  refine wpAny_bind (d1 h1 (fun c o hc e=>s1.extBut _ _ hc e) _ _ fun h2 v2 s2=>wpAny_pure ?_)
  have o2:IsPair h2 TO a b:=s2.extBut _ _ D.a8 (s1.extBut _ _ D.a2 hO)
  refine wpAny_bind (wpAny_seqItems o2 rfl (wpAny_bind (wpAny_updateSeq_pair o2 fun h3 o3 s3=>?_)))
  replace o3:IsPair h3 TO x b:=o3
  refine wpAny_bind (wpAny_letGo (wpAny_pure ?_))
  refine wpAny_bind (wpAny_bind (wpAny_onRaise ?_))
  show wpAny _ _ (Builtin.SmallTypes.nextOf (.ref i2) >>= _) _ _ _
  refine wpAny_bind (d2 h3 (fun c o c1 c2 c3 e=>s3.extBut _ _ c2 (s2.extBut _ _ c3 (s1.extBut _ _ c1 e))) _ _ fun h4 v4 s4=>wpAny_pure ?_)
  have o4:IsPair h4 TO x b:=s4.extBut _ _ D.a9 o3
  refine wpAny_bind (wpAny_seqItems o4 rfl (wpAny_bind (wpAny_updateSeq_pair o4 fun h5 o5 s5=>?_)))
  replace o5:IsPair h5 TO x y:=o5
  refine wpAny_bind (wpAny_letGo (wpAny_pure (wpAny_pure ?_)))
  refine wpAny_bind (wpAny_seqItems o5 rfl (wpAny_bind (wpAny_newTuple ?_)))
  have sz:h5.objs.size=s.heap.objs.size:=by rw[s5.1,s4.1,s3.1,s2.1,s1.1]
  have z5:kR h5 z TI TO .ellipsis f1:=s5.extBut _ _ D.a2.symm (s4.extBut _ _ D.a4.symm (s3.extBut _ _ D.a2.symm (s2.extBut _ _ D.a3.symm z1)))
  have k5:∀c o,c≠z→c≠TO→c≠i1→c≠i2→s.heap.get? c=some o→h5.get? c=some o:=fun c o c1 c2 c3 c4 e=>s5.extBut _ _ c2 (s4.extBut _ _ c4 (s3.extBut _ _ c2 (s2.extBut _ _ c3 (s1.extBut _ _ c1 e))))
  show wpAny _ _ (Builtin.SmallTypes.ownedTupleHandOut (.ref z) (.ref h5.objs.size) >>= _) _ _ _
  refine wpAny_bind ?_
  unfold Builtin.SmallTypes.ownedTupleHandOut
  have z6:kR (h5.push { cls:=.type "tuple",data:=.seq #[x,y] }) z TI TO .ellipsis f1:=Heap.get?_push_of_some _ z5
  refine wpAny_bind (wpAny_setField_rec z6 (by simp) fun h7 z7 s7=>?_)
  replace z7:kR h7 z TI TO (rawInt h5.objs.size) f1:=z7
  refine wpAny_setField_rec z7 (by simp) fun h8 z8 s8=>?_
  replace z8:kR h8 z TI TO (rawInt h5.objs.size) (.bool false):=z8
  have nz:h5.objs.size≠z:=Nat.ne_of_gt (Heap.lt_size z5)
  have up:∀c o,c≠z→h5.get? c=some o→h8.get? c=some o:=fun c o c1 e=>s8.extBut _ _ c1 (s7.extBut _ _ c1 (Heap.get?_push_of_some _ e))
  have t8:IsPair h8 h5.objs.size x y:=s8.extBut _ _ nz (s7.extBut _ _ nz (Heap.get?_push_size _ rfl))
  rw[sz]at t8
  refine wpAny_pure ⟨_,rfl,?_⟩
  show Q (.ref h5.objs.size) _
  rw[sz]
  refine hQ h8 _ _ _ _ z8 (.inr ⟨_,_,rfl⟩) (up _ _ D.a2 o5) (g1 _ _ v2 fun c o c1 c2 c4 e=>up c o c1 (s5.extBut _ _ c2 (s4.extBut _ _ c4 (s3.extBut _ _ c2 e)))) (g2 _ _ v4 fun c o c1 c2 e=>up c o c1 (s5.extBut _ _ c2 e)) t8 fun c o c1 c2 c3 c4 e=>up c o c1 (k5 c o c1 c2 c3 c4 e)
 ·simp only[Bool.false_eq_true,if_false]
  rw[←Array.forIn_toList]
  simp only[List.forIn_cons,List.forIn_nil]
  refine wpAny_bind (wpAny_bind (wpAny_bind (wpAny_holding ?_)))
  show wpAny _ _ (Builtin.SmallTypes.nextOf (.ref i1) >>= _) _ _ _
  refine wpAny_bind (d1 h0 (fun c o hc e=>s0.extBut _ _ hc e) _ _ fun h1 v1 s1=>wpAny_pure (wpAny_pure ?_))
  refine wpAny_bind (wpAny_bind (wpAny_holding ?_))
  show wpAny _ _ (Builtin.SmallTypes.nextOf (.ref i2) >>= _) _ _ _
  refine wpAny_bind (d2 h1 (fun c o hc _ h1 e=>s1.extBut _ _ h1 (s0.extBut _ _ hc e)) _ _ fun h2 v2 s2=>wpAny_pure (wpAny_pure (wpAny_pure ?_)))
  show wpAny _ _ (newTuple [x,y] >>= _) _ _ _
  have sz:h2.objs.size=s.heap.objs.size:=by rw[s2.1,s1.1,s0.1]
  have z2:kR h2 z TI TO f0 k1:=s2.extBut _ _ D.a4.symm (s1.extBut _ _ D.a3.symm z0)
  have up:∀c o,h2.get? c=some o→(h2.push { cls:=.type "tuple",data:=.seq #[x,y] }).get? c=some o:=fun c o e=>Heap.get?_push_of_some _ e
  refine wpAny_bind (wpAny_newTuple (wpAny_pure ⟨_,rfl,?_⟩))
  show Q (.ref h2.objs.size) _
  have t8:IsPair (h2.push { cls:=.type "tuple",data:=.seq #[x,y] }) h2.objs.size x y:=Heap.get?_push_size _ rfl
  rw[sz]at t8 ⊢
  exact hQ _ _ _ _ _ (up _ _ z2) hf (up _ _ (s2.extBut _ _ D.a9 (s1.extBut _ _ D.a8 (s0.extBut _ _ D.a2 hO)))) (g1 _ _ v1 fun c o _ _ c4 e=>up _ _ (s2.extBut _ _ c4 e)) (g2 _ _ v2 fun c o _ _ e=>up _ _ e) t8 fun c o c1 _ c3 c4 e=>up _ _ (s2.extBut _ _ c4 (s1.extBut _ _ c3 (s0.extBut _ _ c1 e)))
def De(prog:Program)(w:World)(A:Around)(s:Shared)(i:Addr)(h:Heap):Prop:=
 ∀(Q:Value→Shared→Prop) (E:Value→Shared→Prop),(∀h' e,Heap.ExtBut i h h'→(∃o,h'.get? e=some o∧o.cls= .type "StopIteration")→E (.ref e) { s with heap:=h' })→wpAny (model prog w) A (Builtin.SmallTypes.nextOf (.ref i)) Q E { s with heap:=h }
theorem Mr{Q:Fin→Shared→Prop}(D:F7 z TI TO i1 i2)(hz:kR s.heap z TI TO f0 f1)(hf:ZF f0)(hI:IsPair s.heap TI (.ref i1) (.ref i2))(hO:IsPair s.heap TO a b)
  (hd:(∀h',(∀c o,c≠z→s.heap.get? c=some o→h'.get? c=some o)→De prog w A s i1 h')∨
   ∃x G1,(∀h',(∀c o,c≠z→s.heap.get? c=some o→h'.get? c=some o)→Dr prog w A s i1 h' x G1)∧∀h',(∀c o,c≠z→c≠TO→c≠i1→s.heap.get? c=some o→h'.get? c=some o)→De prog w A s i2 h')
  (hE:∀h' e,(∀c o,c≠z→c≠TO→c≠i1→c≠i2→s.heap.get? c=some o→h'.get? c=some o)→(∃o,h'.get? e=some o∧o.cls= .type "StopIteration")→E (.ref e) { s with heap:=h' }):
  wpAny (model prog w) A (Builtin.«zip.__next__» ⟨[.ref z],[]⟩) Q E s:=by
 show wpAny _ _ (field (.ref z) 2 >>= _) _ _ _
 refine wpAny_bind (wpAny_field hz rfl (x:=.bool false) rfl ?_)
 show wpAny _ _ (field (.ref z) 3 >>= _) _ _ _
 refine wpAny_bind (wpAny_field hz rfl (x:=.ref TI) rfl ?_)
 refine wpAny_bind (wpAny_seqItems hI rfl ?_)
 show wpAny _ _ (Builtin.SmallTypes.ownedTupleIsFree (.ref z) >>= _) _ _ _
 refine wpAny_bind (IS hz hf ?_ (fun h0 k1 z0 s0=>?_))
 ·simp only[if_true]
  refine wpAny_bind (wpAny_rule ?_)
  refine wpAny_bind (wpAny_field hz rfl (x:=.ref TO) rfl ?_)
  refine wpAny_bind (wpAny_setField_rec hz (by simp) fun h1 z1 s1=>?_)
  replace z1:kR h1 z TI TO .ellipsis f1:=z1
  refine wpAny_bind ?_
  simp only[List.zipIdx_cons,List.zipIdx_nil,List.forIn_cons,List.forIn_nil]
  refine wpAny_bind (wpAny_bind (wpAny_onRaise ?_))
  show wpAny _ _ (Builtin.SmallTypes.nextOf (.ref i1) >>= _) _ _ _
  rcases hd with e1|⟨x,G1,d1,e2⟩
  ·refine wpAny_bind (e1 h1 (fun c o hc e=>s1.extBut _ _ hc e) _ _ fun h2 e s2 he=>?_)
   obtain⟨oe,g,hc⟩:=he
   have z2:kR h2 z TI TO .ellipsis f1:=s2 _ _ D.a3.symm z1
   have ez:e≠z:=fun x=>by subst x;rw[z2]at g;cases g;simp at hc
   exact wpAny_setField_rec z2 (by simp) fun h3 _ s3=>hE h3 e (fun c o c1 _ c3 _ x=>s3.extBut _ _ c1 (s2 _ _ c3 (s1.extBut _ _ c1 x))) ⟨oe,s3.extBut _ _ ez g,hc⟩
  ·refine wpAny_bind (d1 h1 (fun c o hc e=>s1.extBut _ _ hc e) _ _ fun h2 v2 s2=>wpAny_pure ?_)
   have o2:IsPair h2 TO a b:=s2.extBut _ _ D.a8 (s1.extBut _ _ D.a2 hO)
   refine wpAny_bind (wpAny_seqItems o2 rfl (wpAny_bind (wpAny_updateSeq_pair o2 fun h3 o3 s3=>?_)))
   refine wpAny_bind (wpAny_letGo (wpAny_pure ?_))
   refine wpAny_bind (wpAny_bind (wpAny_onRaise ?_))
   show wpAny _ _ (Builtin.SmallTypes.nextOf (.ref i2) >>= _) _ _ _
   refine wpAny_bind (e2 h3 (fun c o c1 c2 c3 e=>s3.extBut _ _ c2 (s2.extBut _ _ c3 (s1.extBut _ _ c1 e))) _ _ fun h4 e s4 he=>?_)
   obtain⟨oe,g,hc⟩:=he
   have z4:kR h4 z TI TO .ellipsis f1:=s4 _ _ D.a4.symm (s3.extBut _ _ D.a2.symm (s2.extBut _ _ D.a3.symm z1))
   have ez:e≠z:=fun x=>by subst x;rw[z4]at g;cases g;simp at hc
   exact wpAny_setField_rec z4 (by simp) fun h5 _ s5=>hE h5 e (fun c o c1 c2 c3 c4 x=>s5.extBut _ _ c1 (s4 _ _ c4 (s3.extBut _ _ c2 (s2.extBut _ _ c3 (s1.extBut _ _ c1 x))))) ⟨oe,s5.extBut _ _ ez g,hc⟩
 ·simp only[Bool.false_eq_true,if_false]
  rw[←Array.forIn_toList]
  simp only[List.forIn_cons,List.forIn_nil]
  refine wpAny_bind (wpAny_bind (wpAny_bind (wpAny_holding ?_)))
  show wpAny _ _ (Builtin.SmallTypes.nextOf (.ref i1) >>= _) _ _ _
  rcases hd with e1|⟨x,G1,d1,e2⟩
  ·exact wpAny_bind (e1 h0 (fun c o hc e=>s0.extBut _ _ hc e) _ _ fun h2 e s2 he=>hE h2 e (fun c o c1 _ c3 _ x=>s2 _ _ c3 (s0.extBut _ _ c1 x)) he)
  ·refine wpAny_bind (d1 h0 (fun c o hc e=>s0.extBut _ _ hc e) _ _ fun h1 v1 s1=>wpAny_pure (wpAny_pure ?_))
   refine wpAny_bind (wpAny_bind (wpAny_holding ?_))
   show wpAny _ _ (Builtin.SmallTypes.nextOf (.ref i2) >>= _) _ _ _
   exact wpAny_bind (e2 h1 (fun c o hc _ h1 e=>s1.extBut _ _ h1 (s0.extBut _ _ hc e)) _ _ fun h2 e s2 he=>hE h2 e (fun c o c1 _ c3 c4 x=>s2 _ _ c4 (s1.extBut _ _ c3 (s0.extBut _ _ c1 x))) he)
theorem IU{G1 G2:Heap→Prop}{Q:Option Value→Shared→Prop}(D:F7 z TI TO i1 i2)(hz:kR s.heap z TI TO f0 f1)(hf:ZF f0)(hI:IsPair s.heap TI (.ref i1) (.ref i2))(hO:IsPair s.heap TO a b)
  (d1:∀h',(∀c o,c≠z→s.heap.get? c=some o→h'.get? c=some o)→Dr prog w A.in1 s i1 h' x G1)(d2:∀h',(∀c o,c≠z→c≠TO→c≠i1→s.heap.get? c=some o→h'.get? c=some o)→Dr prog w A.in1 s i2 h' y G2)
  (g1:∀h h',G1 h→(∀c o,c≠z→c≠TO→c≠i2→h.get? c=some o→h'.get? c=some o)→G1 h')(g2:∀h h',G2 h→(∀c o,c≠z→c≠TO→h.get? c=some o→h'.get? c=some o)→G2 h')
  (hQ:∀h' k0 k1 p q,kR h' z TI TO k0 k1→ZF k0→IsPair h' TO p q→G1 h'→G2 h'→IsPair h' s.heap.objs.size x y→(∀c o,c≠z→c≠TO→c≠i1→c≠i2→s.heap.get? c=some o→h'.get? c=some o)→Q (some (.ref s.heap.objs.size)) { s with heap:=h' }):
  wpAny (model prog w) A (pyNext (.ref z)) Q E s:=by
 have hT:s.TypeIs (.ref z) "zip":=⟨_,hz,rfl⟩
 unfold pyNext
 exact wpAny_bind (wpAny_attempt (wpAny_callSpecial?_slot (name:=Str.ofString "__next__") hT F.slot_zip_next (wpAny_call_entry F.slot_zip_next hT F.entry_zip_next
  (IT D hz hf hI hO d1 d2 g1 g2 fun h' k0 k1 p q c1 c2 c3 c4 c5 c6 c7=>wpAny_pure (hQ h' k0 k1 p q c1 c2 c3 c4 c5 c6 c7)) (F.args_zip_next_1 _))))
theorem Ms{Q:Option Value→Shared→Prop}(D:F7 z TI TO i1 i2)(hz:kR s.heap z TI TO f0 f1)(hf:ZF f0)(hI:IsPair s.heap TI (.ref i1) (.ref i2))(hO:IsPair s.heap TO a b)
  (hd:(∀h',(∀c o,c≠z→s.heap.get? c=some o→h'.get? c=some o)→De prog w A.in1 s i1 h')∨
   ∃x G1,(∀h',(∀c o,c≠z→s.heap.get? c=some o→h'.get? c=some o)→Dr prog w A.in1 s i1 h' x G1)∧∀h',(∀c o,c≠z→c≠TO→c≠i1→s.heap.get? c=some o→h'.get? c=some o)→De prog w A.in1 s i2 h')
  (hQ:∀h',(∀c o,c≠z→c≠TO→c≠i1→c≠i2→s.heap.get? c=some o→h'.get? c=some o)→Q none { s with heap:=h' }):wpAny (model prog w) A (pyNext (.ref z)) Q E s:=by
 have hT:s.TypeIs (.ref z) "zip":=⟨_,hz,rfl⟩
 unfold pyNext
 refine wpAny_bind (wpAny_attempt (wpAny_callSpecial?_slot (name:=Str.ofString "__next__") hT F.slot_zip_next (wpAny_call_entry F.slot_zip_next hT F.entry_zip_next (Mr D hz hf hI hO hd fun h' e hk he=>?_) (F.args_zip_next_1 _))))
 obtain⟨o,ho,hc⟩:=he
 exact wpAny_bind (wpAny_isInstance (T:="StopIteration") (b:=true) ⟨o,ho,hc⟩ isSubtype_stop (wpAny_pure (hQ _ hk)))
end
end PySem
namespace PySem
section
variable{prog:Program}{w:World}{A:Around}{E:Value→Shared→Prop}{s:Shared}{z TI TO:Addr}{f0 f1:Value}
theorem Mt{tg:Expr}{T:Addr}{Q:Unit→Shared→Prop}(hz:kR s.heap z TI TO f0 f1)(hf:ZF f0)(q:∀h' k0,kR h' z TI TO k0 f1→ZF k0→Heap.SameBut z s.heap h'→Q () { s with heap:=h' }):
  wpAny (model prog w) A (letOwnedTupleGo tg (.ref z) (.ref T)) Q E s:=by
 have skip:Q () s:=q s.heap f0 hz hf ⟨rfl,fun _ _=>rfl⟩
 have tup:wpAny (model prog w) A (letOwnedTupleGo (.Tuple [] 0 default) (.ref z) (.ref T)) Q E s:=by
  unfold letOwnedTupleGo
  refine wpAny_bind (wpAny_load hz ?_)
  show wpAny _ _ (if (["enumerate","zip","dict_itemiterator","dict_reverseitemiterator","odict_iterator","itertools.zip_longest","itertools.pairwise"].contains "zip"&&(#[f0,f1,.bool false,.ref TI,.ref TO]:Array Value)[0]?==some (rawInt T))=true then _ else _) Q E s
  split
  ·refine wpAny_bind (wpAny_rule ?_)
   show wpAny _ _ (setField (.ref z) 0 .none) Q E s
   exact wpAny_setField_rec hz (by simp) fun h' mm Bk=>q h' _ mm (.inl rfl) Bk
  ·exact wpAny_pure skip
 cases tg<;>first|exact tup|exact wpAny_pure skip
end
end PySem
namespace L2
open PySem PySem.Spec PyProof.Rows
theorem wQ{P:Program}{w:World}{K:PySem.W.Frag}{tg:Expr}{J:It}(z TI TO i1 i2:Addr)(D:F7 z TI TO i1 i2)(S1 S2:Nat→Heap→Prop)
  (o1:∀i h,S1 i h→∃o,h.get? i1=some o∧∀v,o.data≠.cell v)(o2:∀i h,S2 i h→∃o,h.get? i2=some o∧∀v,o.data≠.cell v)
  (k1:∀i h h',S1 i h→(∀o,h.get? i1=some o→h'.get? i1=some o)→S1 i h')(k2:∀i h h',S2 i h→(∀o,h.get? i2=some o→h'.get? i2=some o)→S2 i h')
  (go:∀(X:Cx),X.prog=P→X.w=w→X.K=K→X.calm=true→∀(i:Nat) (pins:List (Addr×Obj)) (s:Shared) (σ:St) (H:Hp),Inv X pins σ H s→J.go i H→S1 i s.heap→S2 i s.heap→H s.heap.objs.size=none→∃x y ux uy,RelV x ux∧RelV y uy∧
   (∀h',(∀c o,c≠z→s.heap.get? c=some o→h'.get? c=some o)→Dr P w X.A.in1 s i1 h' ux (S1 (i+1)))∧(∀h',(∀c o,c≠z→c≠TO→c≠i1→s.heap.get? c=some o→h'.get? c=some o)→Dr P w X.A.in1 s i2 h' uy (S2 (i+1)))∧
   J.Ft i H (.ref s.heap.objs.size) (upd H s.heap.objs.size (.tup [x,y])))
  (dn:∀(X:Cx),X.prog=P→X.w=w→X.K=K→X.calm=true→∀(i:Nat) (pins:List (Addr×Obj)) (s:Shared) (σ:St) (H:Hp),Inv X pins σ H s→J.stop i H→S1 i s.heap→S2 i s.heap→
   (∀h',(∀c o,c≠z→s.heap.get? c=some o→h'.get? c=some o)→De P w X.A.in1 s i1 h')∨
   ∃x G1,(∀h',(∀c o,c≠z→s.heap.get? c=some o→h'.get? c=some o)→Dr P w X.A.in1 s i1 h' x G1)∧∀h',(∀c o,c≠z→c≠TO→c≠i1→s.heap.get? c=some o→h'.get? c=some o)→De P w X.A.in1 s i2 h'):
  Turn P w K tg J [z,TI,TO,i1,i2] z (fun i h=>(∃f0 f1,kR h z TI TO f0 f1∧ZF f0)∧IsPair h TI (.ref i1) (.ref i2)∧(∃x y,IsPair h TO x y)∧S1 i h∧S2 i h) where
 mem:=by simp
 obj:=fun i h Z c hc=>by
  obtain⟨⟨f0,f1,hz,_⟩,gI,⟨x,y,gO⟩,j1,j2⟩:=Z
  rcases List.mem_cons.mp hc with rfl|hc
  ·exact⟨_,hz,by simp⟩
  rcases List.mem_cons.mp hc with rfl|hc
  ·exact⟨_,gI,by simp⟩
  rcases List.mem_cons.mp hc with rfl|hc
  ·exact⟨_,gO,by simp⟩
  rcases List.mem_cons.mp hc with rfl|hc
  ·exact o1 _ _ j1
  ·cases List.mem_singleton.mp hc
   exact o2 _ _ j2
 keep:=fun i h h' Z kk=>by
  obtain⟨⟨f0,f1,hz,hf⟩,gI,⟨x,y,gO⟩,j1,j2⟩:=Z
  exact⟨⟨f0,f1,kk _ (by simp) _ hz,hf⟩,kk _ (by simp) _ gI,⟨x,y,kk _ (by simp) _ gO⟩,k1 _ _ _ j1 fun o e=>kk _ (by simp) o e,k2 _ _ _ j2 fun o e=>kk _ (by simp) o e⟩
 item:=fun X hP hw hK hc i pins s σ H E I hf Z hg=>by
  obtain⟨⟨f0,f1,hz,P_⟩,gI,⟨x0,y0,gO⟩,j1,j2⟩:=Z
  have Dj:H s.heap.objs.size=none:=I.bj.fresh (Nat.le_refl _)
  obtain⟨x,y,ux,uy,rx,ry,d1,d2,yl⟩:=go X hP hw hK hc i pins s σ H I hg j1 j2 Dj
  subst hP hw hK
  have fB:∀c∈[z,TI,TO,i1,i2],c<s.heap.objs.size:=fun c aW=>by
   rcases List.mem_cons.mp aW with rfl|aW
   ·exact Heap.lt_size hz
   rcases List.mem_cons.mp aW with rfl|aW
   ·exact Heap.lt_size gI
   rcases List.mem_cons.mp aW with rfl|aW
   ·exact Heap.lt_size gO
   rcases List.mem_cons.mp aW with rfl|aW
   ·obtain⟨o,e,_⟩:=o1 _ _ j1;exact Heap.lt_size e
   ·cases List.mem_singleton.mp aW
    obtain⟨o,e,_⟩:=o2 _ _ j2;exact Heap.lt_size e
  refine IU D hz P_ gI gO d1 d2 (fun h h' g kk=>k1 _ _ _ g fun o e=>kk i1 o D.a3 D.a8.symm D.VY e) (fun h h' g kk=>k2 _ _ _ g fun o e=>kk i2 o D.a4 D.a9.symm e) fun h' m0 m1 p q zr hm PM PN PQ gT keep=>⟨_,rfl,?_⟩
  refine Mt zr hm fun h2 n0 z2 hn s2=>?_
  have up:∀c o,c≠z→h'.get? c=some o→h2.get? c=some o:=fun c o aW e=>s2.extBut _ _ aW e
  have Tz:s.heap.objs.size≠z:=Nat.ne_of_gt (fB z (by simp))
  have PR:=up _ _ Tz gT
  have tI:=keep _ _ D.a1 D.a5 D.a6 D.a7 gI
  have nB:∀c u,c∉[z,TI,TO,i1,i2]→s.heap.get? c=some u→h2.get? c=some u:=fun c u aW e=>by
   simp only[List.mem_cons,List.not_mem_nil,or_false,not_or]at aW
   exact up c u aW.1 (keep c u aW.1 aW.2.2.1 aW.2.2.2.1 aW.2.2.2.2 e)
  refine⟨.ref s.heap.objs.size,upd H s.heap.objs.size (.tup [x,y]),I.wG (t':=s.toks) hf nB (Nat.le_refl _) ⟨by show 2≤sizeLine;decide,[ux,uy],.cons rx (.cons ry .nil),⟨_,PR,rfl,_,rfl⟩⟩,rfl,yl,⟨⟨_,_,z2,hn⟩,up _ _ D.a1 tI,⟨_,_,up _ _ D.a2 PM⟩,k1 _ _ _ PN fun o e=>up _ _ D.a3 e,k2 _ _ _ PQ fun o e=>up _ _ D.a4 e⟩,fun c aW=>?_⟩
  rw[bg (Nat.ne_of_lt (fB c aW))]
  exact(hf c aW).1
 done:=fun X hP hw hK hc i pins s σ H E I hf Z st=>by
  obtain⟨⟨f0,f1,hz,P_⟩,gI,⟨x0,y0,gO⟩,j1,j2⟩:=Z
  have hd:=dn X hP hw hK hc i pins s σ H I st j1 j2
  subst hP hw hK
  refine Ms D hz P_ gI gO hd fun h' kk=>⟨rfl,I.zS (t':=s.toks) hf fun c u aW e=>?_⟩
  simp only[List.mem_cons,List.not_mem_nil,or_false,not_or]at aW
  exact kk c u aW.1 aW.2.2.1 aW.2.2.2.1 aW.2.2.2.2 e
 self:=fun A i s Q E Z q=>by
  obtain⟨⟨f0,f1,hz,_⟩,_⟩:=Z
  have hT:s.TypeIs (.ref z) "zip":=⟨_,hz,rfl⟩
  refine wpAny_pyIter_slot hT F.slot_zip_iter (wpAny_call_entry F.slot_zip_iter hT F.entry_zip_iter ?_ (F.args_zip_iter_1 _))
  show wpAny _ _ (ret (.ref z)) _ _ s
  exact wpAny_pure ⟨_,rfl,"zip",_,hT,F.slot_zip_next.lookup,q⟩
end L2
namespace PySem
abbrev Mu(h:Heap)(d:Addr)(n ep:Nat):Heap:=h.push { cls:=.type "dict_keyiterator",data:=.fields #[.ref d,.int 0 0,.int n 0,.int ep 0] }
abbrev Mv(h:Heap)(d l:Addr)(n ep:Nat):Heap:=(Mu h d n ep).push { cls:=.type "list_iterator",data:=.fields #[.ref l,.int 0 0] }
abbrev Mw(h:Heap)(d l:Addr)(n ep:Nat):Heap:=(Mv h d l n ep).push { cls:=.type "tuple",data:=.seq #[.ref h.objs.size,.ref (Mu h d n ep).objs.size] }
abbrev Mx(h:Heap)(d l:Addr)(n ep:Nat):Heap:=(Mw h d l n ep).push { cls:=.type "tuple",data:=.seq #[.none,.none] }
abbrev F8(h:Heap)(d l:Addr)(n ep:Nat):Heap:=(Mx h d l n ep).push { cls:=.type "zip",data:=.fields #[.none,.bool false,.bool false,.ref (Mv h d l n ep).objs.size,.ref (Mw h d l n ep).objs.size] }
section
variable{prog:Program}{w:World}{A:Around}{E:Value→Shared→Prop}{s:Shared}
theorem EK{z TI TO i1 i2 a b:Addr}(D:ZipApart z TI TO i1 i2 a b):F7 z TI TO i1 i2:=⟨D.TIz,D.TOz,D.i1z,D.i2z,D.TITO,D.TIi1,D.TIi2,D.TOi1,D.TOi2,D.i12⟩
theorem IV(d l:Addr)(xs:Array Value)(es:Array DictEntry)(ep:Nat)(nd:(d==sysModules)=false):Meets (Builtin.«zip.__new__» ⟨[.type "zip",.ref d,.ref l],[]⟩) (fun _ R s=>cM s.heap d es ep∧s.heap.IsList l xs∧
   R (.ok (.ret (.ref (Mx s.heap d l es.size ep).objs.size))) { s with heap:=F8 s.heap d l es.size ep }):=
 .of_wp fun prog w A R s h=>by
  obtain⟨hp,g,dd,tk,os⟩:=s;obtain⟨VZ,uO,h⟩:=h
  have Im:=sub_zip
  have Mz:cM (Shared.heap ⟨hp,g,dd,tk,os⟩) d es ep:=VZ
  have IW:Heap.IsList (Shared.heap ⟨hp.push { cls:=.type "dict_keyiterator",data:=.fields #[.ref d,.int 0 0,.int es.size 0,.int ep 0] },g,dd,tk,os⟩) l xs:=Heap.IsList.push uO _
  wp_walk using GK nd Mz,wpAny_pyIter_list IW
  exact⟨_,rfl,h⟩
theorem F9{d l:Addr}{xs:Array Value}{es:Array DictEntry}{ep:Nat}{Q:Value→Shared→Prop}(nd:(d==sysModules)=false)(hd:cM s.heap d es ep)(hl:s.heap.IsList l xs)
  (h:∀h',IsZip h' (s.heap.objs.size+4) (s.heap.objs.size+2) (s.heap.objs.size+3) .none→IsPair h' (s.heap.objs.size+2) (.ref s.heap.objs.size) (.ref (s.heap.objs.size+1))→
   IsPair h' (s.heap.objs.size+3) .none .none→h'.IsKeyIter s.heap.objs.size d 0 es.size ep→h'.IsListIter (s.heap.objs.size+1) l 0→(∀c o,s.heap.get? c=some o→h'.get? c=some o)→Q (.ref (s.heap.objs.size+4)) { s with heap:=h' }):
  wpAny (model prog w) A (call (.type "zip") [.ref d,.ref l]) Q E s:=by
 refine callType_new F.called_zip (by decide) (F.typeCall_zip_2 _ _) (F.newCall_zip_2 _ _) (fun obj=>F.args_object_init_3 obj _ _) F.entry_zip_new (IV d l xs es ep nd) ⟨hd,hl,?_⟩
 have z1:(Mu s.heap d es.size ep).objs.size=s.heap.objs.size+1:=Heap.size_push ..
 have z2:(Mv s.heap d l es.size ep).objs.size=s.heap.objs.size+2:=by rw[Heap.size_push,z1]
 have z3:(Mw s.heap d l es.size ep).objs.size=s.heap.objs.size+3:=by rw[Heap.size_push,z2]
 have z4:(Mx s.heap d l es.size ep).objs.size=s.heap.objs.size+4:=by rw[Heap.size_push,z3]
 have g5:(F8 s.heap d l es.size ep).get? (Mx s.heap d l es.size ep).objs.size=some _:=Heap.get?_push_size _ rfl
 have g4:(F8 s.heap d l es.size ep).get? (Mw s.heap d l es.size ep).objs.size=some _:=Heap.get?_push_of_some _ (Heap.get?_push_size _ rfl)
 have g3:(F8 s.heap d l es.size ep).get? (Mv s.heap d l es.size ep).objs.size=some _:=Heap.get?_push_of_some _ (Heap.get?_push_of_some _ (Heap.get?_push_size _ rfl))
 have g2:(F8 s.heap d l es.size ep).get? (Mu s.heap d es.size ep).objs.size=some _:=Heap.get?_push_of_some _ (Heap.get?_push_of_some _ (Heap.get?_push_of_some _ (Heap.get?_push_size _ rfl)))
 have g1:(F8 s.heap d l es.size ep).get? s.heap.objs.size=some _:=Heap.get?_push_of_some _ (Heap.get?_push_of_some _ (Heap.get?_push_of_some _ (Heap.get?_push_of_some _ (Heap.get?_push_size _ rfl))))
 show _∧_
 rw[z2,z3,z4]at g5
 rw[z1,z2]at g3
 rw[z3]at g4
 rw[z1]at g2
 rw[z4]
 exact⟨⟨_,g5,rfl⟩,h _ g5 g3 g4 ⟨_,g1,rfl,rfl⟩ ⟨_,g2,rfl,rfl⟩ fun c o x=>
  Heap.get?_push_of_some _ (Heap.get?_push_of_some _ (Heap.get?_push_of_some _ (Heap.get?_push_of_some _ (Heap.get?_push_of_some _ x))))⟩
end
end PySem
namespace L2
open PySem PySem.Spec PyProof.Rows
theorem Dz{P:Program}{w:World}{K:PySem.W.Frag}{tg:Expr}(z TI TO i1 i2 a b:Addr)(D:ZipApart z TI TO i1 i2 a b):
  Turn P w K tg (Bw K a b) [z,TI,TO,i1,i2] z (fun i h=>(∃f0 f1,kR h z TI TO f0 f1∧ZF f0)∧IsPair h TI (.ref i1) (.ref i2)∧(∃x y,IsPair h TO x y)∧h.IsListIter i1 a i∧h.IsListIter i2 b i):=by
 have ob:∀{i1 a:Addr}{i:Nat}{h:Heap},h.IsListIter i1 a i→∃o,h.get? i1=some o∧∀v,o.data≠.cell v:=fun⟨o,e,_,d⟩=>⟨o,e,by rw[d];simp⟩
 refine wQ z TI TO i1 i2 (EK D) (fun i h=>h.IsListIter i1 a i) (fun i h=>h.IsListIter i2 b i) (fun _ _=>ob) (fun _ _=>ob) (fun _ _ _ j k=>j.at k) (fun _ _ _ j k=>j.at k)
  (fun X hP hw hK hc i pins s σ H I hg j1 j2 hn=>?_) (fun X hP hw hK hc i pins s σ H I hg j1 j2=>?_)
 ·subst hP hw hK
  obtain⟨xs,ys,x,y,iV,kQ,hx,hy⟩:=hg
  obtain⟨ia,va,ta,_⟩:=I.list iV
  obtain⟨ib,vb,tb,_⟩:=I.list kQ
  obtain⟨ux,zT,rx⟩:=va.get hx
  obtain⟨uy,Di,ry⟩:=vb.get hy
  refine⟨x,y,ux,uy,rx,ry,fun h' kk Q E q=>?_,fun h' kk Q E q=>?_,⟨_,rfl,hn,fun qf qg h1 h2=>?_⟩⟩
  ·exact wpAny_nextOf_list_item (s:={ s with heap:=h' }) (j1.at fun o e=>kk i1 o D.i1z e) (ta.isList.at fun o e=>kk a o D.l1z e) (by simpa using zT) q
  ·exact wpAny_nextOf_list_item (s:={ s with heap:=h' }) (j2.at fun o e=>kk i2 o D.i2z D.TOi2.symm D.i12.symm e) (tb.isList.at fun o e=>kk b o D.l2z D.l2TO D.l2i1 e) (by simpa using Di) q
  ·rw[←I.iO iV h1,←I.iO kQ h2]
   exact⟨x,y,hx,hy,rfl⟩
 ·subst hP hw hK
  obtain⟨xs,ys,iV,kQ,lh⟩:=hg
  obtain⟨ia,va,ta,_⟩:=I.list iV
  obtain⟨ib,vb,tb,_⟩:=I.list kQ
  have la:=va.length
  have lb:=vb.length
  have hh:X.A.in1.handled=none:=by simp[I.ok.hd hc]
  by_cases h1:xs.length≤i
  ·exact .inl fun h' kk Q E q=>wpAny_nextOf_list_end (s:={ s with heap:=h' }) hh (j1.at fun o e=>kk i1 o D.i1z e) (ta.isList.at fun o e=>kk a o D.l1z e) (Array.getElem?_eq_none (by simp;omega)) q
  ·obtain⟨ux,zT,_⟩:=va.get (List.getElem?_eq_getElem (Nat.lt_of_not_le h1))
   refine .inr ⟨ux,fun h=>h.IsListIter i1 a (i+1),fun h' kk Q E q=>?_,fun h' kk Q E q=>?_⟩
   ·exact wpAny_nextOf_list_item (s:={ s with heap:=h' }) (j1.at fun o e=>kk i1 o D.i1z e) (ta.isList.at fun o e=>kk a o D.l1z e) (by simpa using zT) q
   ·exact wpAny_nextOf_list_end (s:={ s with heap:=h' }) hh (j2.at fun o e=>kk i2 o D.i2z D.TOi2.symm D.i12.symm e) (tb.isList.at fun o e=>kk b o D.l2z D.l2TO D.l2i1 e) (Array.getElem?_eq_none (by simp;omega)) q
section
variable{X:Cx}{e1 e2 tg:Expr}{p1 p2:Pos}{f:Qm.XA}
theorem IX{t:TA}(hg:Gl X "zip")(hm:X.mg "zip" =none)(ha:PA X [e1,e2] t)(iX:starEach [e1,e2] X.env=(false,eval e1 X.env)::starEach [e2] X.env:=by rfl)(dJ:(backTo p2 (starEach [e2] X.env)).any (·.1)=false:=by rfl):
  PI X tg (.Call (.Name "zip" p1) [e1,e2] [] p2) (zV X.K t):=by
 intro pins s σ H R I h
 refine wpAny_Call_Name_kw (gi I hg hm (u:=.type "zip") (by decide +kernel) ?_)
 refine PyProof.Rows.callWith_type1 (bL (ha p2 pins s σ H _ I h) fun us s1 ⟨vs,H1,I1,r1,q1⟩=>?_) iX dJ
 obtain⟨a,b,xs,ys,rfl,n_,wH,q⟩:=q1
 obtain⟨u1,u2,rfl,ra,rb⟩:=vals2 r1
 cases (show u1=Value.ref a from ra)
 cases (show u2=Value.ref b from rb)
 obtain⟨ia,va,ta,za⟩:=I1.list n_
 obtain⟨ib,vb,tb,zb⟩:=I1.list wH
 have la:a<s1.heap.objs.size:=by obtain⟨o,ho,_⟩:=ta.isList;exact Heap.lt_size ho
 have lb:b<s1.heap.objs.size:=by obtain⟨o,ho,_⟩:=tb.isList;exact Heap.lt_size ho
 refine call_zip_2 ta.isList tb.isList fun h2 hz gI gO j1 j2 sz up=>?_
 refine wpAny_pyIter_zip hz ?_
 have I2:Inv X pins σ H1 { s1 with heap:=h2 }:=I1.kept (t':=s1.toks) up
 have fr:∀c,s1.heap.objs.size≤c→hV X pins H1 c:=fun c hc=>I1.pN hc (I1.bj.fresh hc)
 have D:=sZ la lb
 refine⟨_,_,_,Bw X.K a b,H1,rfl,I2,Dz _ _ _ _ _ a b D,⟨⟨_,_,hz,.inl rfl⟩,gI,⟨_,_,gO⟩,j1,j2⟩,fun c hc=>fr c ?_,q⟩
 simp only[List.mem_cons,List.not_mem_nil,or_false]at hc
 rcases hc with rfl|rfl|rfl|rfl|rfl<;>first|exact Nat.le_refl _|exact Nat.le_add_right _ _
theorem BG(hg:Gl X "zip")(hm:X.mg "zip" =none)(ha:QA X [e1,e2] f)(iX:starEach [e1,e2] X.env=(false,eval e1 X.env)::starEach [e2] X.env:=by rfl)(dJ:(backTo p2 (starEach [e2] X.env)).any (·.1)=false:=by rfl):
  QI X tg (.Call (.Name "zip" p1) [e1,e2] [] p2) (Qm.hG f):=(IX hg hm ha iX dJ).imp yt
end
end L2
namespace L2
open PySem PySem.Spec PyProof.Rows
def IY(K:PySem.W.Frag)(d:Addr)(ob:Obj)(us:List (List (List Key)×V))(b:Addr):It:=
 ⟨fun i H=>∃ys y,H d=some (.fP ob (.dU us))∧bU K H b ys∧i<us.length∧ys[i]? =some y,
                           fun i H v H'=>∃T,v= .ref T∧H T=none∧∀ys,bU K H b ys→∃kv y a,us[i]? =some kv∧ys[i]? =some y∧iI H kv.1 a∧H'=upd H T (.tup [.ref a,y]),
                           fun i H=>∃ys,H d=some (.fP ob (.dU us))∧bU K H b ys∧(us.length≤i∨ys.length≤i)⟩
theorem EL{X:Cx}{pins:List (Addr×Obj)}{σ:St}{H:Hp}{s:Shared}{d:Addr}{ob:Obj}{us:List (List (List Key)×V)}{es:Array DictEntry}{ep:Nat}(I:Inv X pins σ H s)(e:H d=some (.fP ob (.dU us)))(IZ:ob.data= .dict es ep):
  ∃xs,KU H us xs∧cM s.heap d es ep∧es.toList=xs.map (entryOfKey (mK (bZ X.prog X.w))):=by
 obtain⟨h1,_,_,xs,r,o,KN,KO,h2,h3,h4,h5,_⟩:=(show bN X.prog X.w H s.heap d (.fP ob (.dU us))from I.bj d _ e)
 rw[h1]at h2
 cases h2
 rw[IZ]at h4
 cases h4
 exact⟨xs,r,⟨ob,h1,h3,IZ⟩,h5⟩
theorem DA{P:Program}{w:World}{K:PySem.W.Frag}{tg:Expr}(z TI TO i1 i2 d b:Addr)(D:ZipApart z TI TO i1 i2 d b){ob:Obj}(us:List (List (List Key)×V)){es:Array DictEntry}{ep:Nat}(IZ:ob.data= .dict es ep):
  Turn P w K tg (IY K d ob us b) [z,TI,TO,i1,i2] z (fun i h=>(∃f0 f1,kR h z TI TO f0 f1∧ZF f0)∧IsPair h TI (.ref i1) (.ref i2)∧(∃x y,IsPair h TO x y)∧h.IsKeyIter i1 d i es.size ep∧h.IsListIter i2 b i):=by
 refine wQ z TI TO i1 i2 (EK D) (fun i h=>h.IsKeyIter i1 d i es.size ep) (fun i h=>h.IsListIter i2 b i) (fun _ _ ⟨o,e,_,d⟩=>⟨o,e,by rw[d];simp⟩) (fun _ _ ⟨o,e,_,d⟩=>⟨o,e,by rw[d];simp⟩) (fun _ _ _ j k=>j.at k) (fun _ _ _ j k=>j.at k)
  (fun X hP hw hK hc i pins s σ H I hg j1 j2 hn=>?_) (fun X hP hw hK hc i pins s σ H I hg j1 j2=>?_)
 ·subst hP hw hK
  obtain⟨ys,y,hd,kQ,hx,hy⟩:=hg
  obtain⟨xs,rel,de,MA⟩:=EL I hd IZ
  have lx:=rel.length
  have le:es.size=xs.length:=by rw[←Array.length_toList,MA,List.length_map]
  obtain⟨ib,vb,tb,_⟩:=I.list kQ
  obtain⟨uy,Di,ry⟩:=vb.get hy
  obtain⟨q,hq,h1,h2,h3⟩:=Dx rel (List.getElem?_eq_getElem hx)
  have he:es[i]? =some (entryOfKey (mK (bZ X.prog X.w)) q):=by
   rw[←Array.getElem?_toList,MA,List.getElem?_map,hq]
   rfl
  refine⟨.ref q.2.1,y,.ref q.2.1,uy,rfl,ry,fun h' kk Q E qq=>?_,fun h' kk Q E qq=>?_,⟨_,rfl,hn,fun qg g2=>?_⟩⟩
  ·exact RC (s:={ s with heap:=h' }) (j1.at fun o e=>kk i1 o D.i1z e) (de.at fun o e=>kk d o D.l1z e) he qq
  ·exact wpAny_nextOf_list_item (s:={ s with heap:=h' }) (j2.at fun o e=>kk i2 o D.i2z D.TOi2.symm D.i12.symm e) (tb.isList.at fun o e=>kk b o D.l2z D.l2TO D.l2i1 e) (by simpa using Di) qq
  ·rw[←I.iO kQ g2]
   exact⟨_,y,q.2.1,List.getElem?_eq_getElem hx,hy,h2,rfl⟩
 ·subst hP hw hK
  obtain⟨ys,hd,kQ,lh⟩:=hg
  obtain⟨xs,rel,de,MA⟩:=EL I hd IZ
  have lx:=rel.length
  have le:es.size=xs.length:=by rw[←Array.length_toList,MA,List.length_map]
  obtain⟨ib,vb,tb,_⟩:=I.list kQ
  have lb:=vb.length
  have hh:X.A.in1.handled=none:=by simp[I.ok.hd hc]
  by_cases h1:us.length≤i
  ·exact .inl fun h' kk Q E q=>U0 (s:={ s with heap:=h' }) hh (j1.at fun o e=>kk i1 o D.i1z e) (de.at fun o e=>kk d o D.l1z e) (by omega) q
  ·have he:es[i]? =some (es[i]'(by omega)):=Array.getElem?_eq_getElem _
   refine .inr ⟨(es[i]'(by omega)).key,fun h=>h.IsKeyIter i1 d (i+1) es.size ep,fun h' kk Q E q=>?_,fun h' kk Q E q=>?_⟩
   ·exact RC (s:={ s with heap:=h' }) (j1.at fun o e=>kk i1 o D.i1z e) (de.at fun o e=>kk d o D.l1z e) he q
   ·exact wpAny_nextOf_list_end (s:={ s with heap:=h' }) hh (j2.at fun o e=>kk i2 o D.i2z D.TOi2.symm D.i12.symm e) (tb.isList.at fun o e=>kk b o D.l2z D.l2TO D.l2i1 e) (Array.getElem?_eq_none (by simp;omega)) q
def MB(K:PySem.W.Frag)(t:TA):TI:=fun σ H R=>t σ H fun vs H1=>∃a b us ys,vs=[.ref a,.ref b]∧H1 a=some (.dU us)∧H1 b=some (.lst ys)∧∀ob,R (IY K a ob us b) (upd H1 a (.fP ob (.dU us)))
section
variable{X:Cx}{e1 e2 tg:Expr}{p1 p2:Pos}{f:Qm.XA}
theorem I0{t:TA}(hg:Gl X "zip")(hm:X.mg "zip" =none)(ha:PA X [e1,e2] t)(iX:starEach [e1,e2] X.env=(false,eval e1 X.env)::starEach [e2] X.env:=by rfl)(dJ:(backTo p2 (starEach [e2] X.env)).any (·.1)=false:=by rfl):
  PI X tg (.Call (.Name "zip" p1) [e1,e2] [] p2) (MB X.K t):=by
 intro pins s σ H R I h
 refine wpAny_Call_Name_kw (gi I hg hm (u:=.type "zip") (by decide +kernel) ?_)
 refine PyProof.Rows.callWith_type1 (bL (ha p2 pins s σ H _ I h) fun us s1 ⟨vs,H1,I1,r1,q1⟩=>?_) iX dJ
 obtain⟨a,b,us,ys,rfl,n_,wH,q⟩:=q1
 obtain⟨u1,u2,rfl,ra,rb⟩:=vals2 r1
 cases (show u1=Value.ref a from ra)
 cases (show u2=Value.ref b from rb)
 obtain⟨z,nd,vs,r,o,es,ep,g2,g3,g4,g5⟩:=(show bN X.prog X.w H1 s1.heap a (.dU us)from I1.bj a _ n_)
 have sI:b≠a:=vH wH n_ (fun z=>nomatch z)
 have r3:KU (upd H1 a (.fP o (.dU us))) us vs:=by
  refine Paired.tR r fun p q w=>⟨w.1,w.2.1.more fun c ys ec=>?_,w.2.2⟩
  rw[bg (vH ec n_ (fun z=>nomatch z))]
  exact ec
 have I2:Inv X pins σ (upd H1 a (.fP o (.dU us))) s1:=nQ (ob:=.fP o (.dU us)) (t':=s1.toks) (h':=s1.heap) I1 (by rw[n_];exact True.intro) ⟨rfl,fun _ _=>rfl⟩ ⟨o,g2⟩ ⟨g2,z,nd,vs,r3,o,es,ep,g2,g3,g4,g5⟩
 have Iy:(upd H1 a (.fP o (.dU us))) b=some (.lst ys):=by rw[bg sI];exact wH
 obtain⟨ib,vb,tb,zb⟩:=I2.list (bU.of Iy)
 have la:a<s1.heap.objs.size:=Heap.lt_size g2
 have lb:b<s1.heap.objs.size:=by obtain⟨o,ho,_⟩:=tb.isList;exact Heap.lt_size ho
 refine F9 nd ⟨o,g2,g3,g4⟩ tb.isList fun h2 hz gI gO j1 j2 up=>?_
 refine wpAny_pyIter_zip hz ?_
 have I3:Inv X pins σ (upd H1 a (.fP o (.dU us))) { s1 with heap:=h2 }:=I2.kept (t':=s1.toks) up
 have fr:∀c,s1.heap.objs.size≤c→hV X pins (upd H1 a (.fP o (.dU us))) c:=fun c hc=>I2.pN hc (I2.bj.fresh hc)
 have D:=sZ la lb
 refine⟨_,_,_,IY X.K a o us b,_,rfl,I3,DA _ _ _ _ _ a b D us g4,⟨⟨_,_,hz,.inl rfl⟩,gI,⟨_,_,gO⟩,j1,j2⟩,fun c hc=>fr c ?_,q o⟩
 simp only[List.mem_cons,List.not_mem_nil,or_false]at hc
 rcases hc with rfl|rfl|rfl|rfl|rfl<;>first|exact Nat.le_refl _|exact Nat.le_add_right _ _
theorem I8(hg:Gl X "zip")(hm:X.mg "zip" =none)(ha:QA X [e1,e2] f)(iX:starEach [e1,e2] X.env=(false,eval e1 X.env)::starEach [e2] X.env:=by rfl)(dJ:(backTo p2 (starEach [e2] X.env)).any (·.1)=false:=by rfl):
  QI X tg (.Call (.Name "zip" p1) [e1,e2] [] p2) (Qm.rG f):=(I0 hg hm ha iX dJ).imp <| by
 rintro σ H R ⟨ρ,env,c,m,c',rs,re,e,k⟩
 obtain⟨p,ea,e⟩:=aF e
 refine⟨ρ,env,c,p.1,p.2,rs,re,ea,fun aN vs H1 n1 r1=>?_⟩
 split at e
 ·rename_i n m' hp
  split at e
  ·rename_i ps Tq
   obtain⟨l,e4,e⟩:=aF e
   cases e
   rw[hp]at r1
   obtain⟨v,u,rfl,rx,ry⟩:=r1.uc
   obtain⟨hv,hn⟩:=rx.k_
   obtain⟨hu,zW⟩:=ry.k_
   subst hv hu
   obtain⟨us,h1,a1⟩:=n1.rs.ok n _ Tq
   obtain⟨PU,Bx,zK,_,IB,VJ⟩:=n1.rs.bq (d:=.ref m') (.ref zW) (show Qm.bq (.ref m') p.2=some (l.1,l.2)from e4)
   have IC:l.1=m':=by cases PU;rfl
   rw[IC]at Bx IB
   refine⟨_,_,us,zK,rfl,h1,IB,fun ob=>?_⟩
   have n2:=Nx.PZ (o:=ob) n1.rs Tq a1
   refine k aN _ _ (n1.trans n2) fun jm c2 H2 u2 pH mL=>?_
   have hN:(p.2.set n (.kl ps)).length=p.2.length:=List.length_set ..
   have h3:=u2.fz _ _ _ (show upd H1 (aN n) (.fP ob (.dU us)) (aN n)=some (.fP ob (.dU us))from cS)
   have a2:=(a1.up n2.up).up u2
   obtain⟨s_,zX,ID⟩:=pH.lst (mL (m',.lst l.2) (by simp))
   rw[u2.agree m' (by rw[hN];exact zW)]at zX
   have l1:=a2.length
   have VL:=ID.length
   have hl:(Qm.eA (ps.map fun q=>Qm.By q.1) l.2).length=min ps.length l.2.length:=by simp[Qm.eA]
   refine⟨fun i hi=>?_,⟨s_,h3,bU.of zX,?_⟩,fun i d x H' hd hy=>?_⟩
   ·dsimp only at hi
    have g1:i<us.length:=by omega
    have g2:i<s_.length:=by omega
    exact⟨s_,s_[i],h3,bU.of zX,g1,List.getElem?_eq_getElem g2⟩
   ·show us.length≤(Qm.eA (ps.map fun q=>Qm.By q.1) l.2).length∨s_.length≤(Qm.eA (ps.map fun q=>Qm.By q.1) l.2).length
    omega
   ·obtain⟨T,rfl,hT,hy⟩:=hy
    obtain⟨kv,y',ka,g1,g2,g3,rfl⟩:=hy s_ (bU.of zX)
    obtain⟨dx,dy,f1,f2,rfl⟩:=sY hd
    rw[List.getElem?_map]at f1
    cases q:ps[i]? with
    |none=>rw[q]at f1;cases f1
    |some p0=>
     rw[q]at f1
     cases f1
     obtain⟨v1,q1,r1⟩:=a2.at_ q
     rw[g1]at q1
     cases q1
     obtain⟨v2,q2,r2⟩:=ID.get f2
     rw[g2]at q2;cases q2
     have n:=Nx.same pH (iR (z:=.tup [.ref ka,y']) hT)
     exact⟨n,.tup cS (.cons ((ED g3).up n.up) (.cons (r2.up n.up) .nil))⟩
  ·cases e
 ·cases e
end
end L2
namespace Qm
open PySem
noncomputable section
def EM:G2:=fun x y c=>match x,y with
 |.tup xs,.tup ys=>(nums xs).bind fun ns=>(nums ys).bind fun ms=>some (.bl (iW ms ns),c)
 |_,_=>none
def lj:FN:=one fun x c=>(bq x c).bind fun l=>(nums l.2).bind fun is=>if is.length<64 then some (.ref c.length,c++[.lst ((is.mergeSort fun a b=>decide (a≤b)).map .int)])else none
def wR:FN:=fun ds c=>match ds with
 |[.int i,.int j,.int k,.int l,.int m,.int n]=>some (.int (max (max (max (max (max i j) k) l) m) n),c)
 |_=>none
end
end Qm
namespace Qm
open PySem
noncomputable section
def oq(o:D):FN:=one fun y c=>(bq o c).bind fun l=>(match y with
 |.tup ys=>if l.2.length+ys.length≤cE then some (D.bG,c.set l.1 (.lst (l.2++ys)))else none
 |_=>none)
end
end Qm
namespace PySem
open Sem (wp)
section
variable{prog:Program}{w:World}{A:Around}{E:Value→Shared→Prop}{s:Shared}
theorem I9(a b c d e f:Value):argsOk "max" ⟨[a,b,c,d,e,f],[]⟩:=by unfold argsOk;kernel_rfl
theorem mv(g:Nat→Int)(n:Nat):g (argBest (fun i j=>decide (g i > g j)) (n+1))=max (g (argBest (fun i j=>decide (g i > g j)) n)) (g (n+1)):=by
 show g (if decide (g (n+1) > g (argBest (fun i j=>decide (g i > g j)) n))=true then n+1 else argBest (fun i j=>decide (g i > g j)) n)=_
 split
 ·rename_i h
  have:=of_decide_eq_true h
  omega
 ·rename_i h
  have:¬g (n+1) > g (argBest (fun i j=>decide (g i > g j)) n):=fun z=>h (decide_eq_true z)
  omega
theorem F_{ps:Array (Int×Tok)}(hp:ps.size=6){Q:Value→Shared→Prop}(hh:A.handled=none)
  (h:∀h' tk t,(∀d o,s.heap.get? d=some o→h'.get? d=some o)→Q (.int (max (max (max (max (max (numAt ps 0) (numAt ps 1)) (numAt ps 2)) (numAt ps 3)) (numAt ps 4)) (numAt ps 5)) t) { s with heap:=h',toks:=tk })
  {a b c d e f:Value}(hi:intItems ps= #[a,b,c,d,e,f]):wpAny (model prog w) A (call (.builtin "max") [a,b,c,d,e,f]) Q E s:=by
 have Qa:(toString "max"++toString ".loop":String)= "max.loop":=by decide
 refine call_function_tree F.kind_max F.plain_max F.entry_max (I9 _ _ _ _ _ _) ?_
 show wpAny _ A.in1 (Builtin.Builtins.bindParams "max" ["key","default"] 0 ⟨[],[]⟩ >>= _) _ _ s
 refine wpAny_bind (wpAny_of_eq (show Builtin.Builtins.bindParams "max" ["key","default"] 0 ⟨[],[]⟩=pure [none,none] from rfl) ?_)
 show wpAny _ A.in1 (newTuple [a,b,c,d,e,f] >>= _) _ _ s
 refine wpAny_bind (wpAny_newObj_type ?_)
 have hT:(s.heap.push { cls:=.type "tuple",data:=.seq #[a,b,c,d,e,f] }).IsTuple s.heap.objs.size (intItems ps):=⟨_,Heap.get?_push_size _ rfl,rfl,0,by rw[hi]⟩
 have hsz:(s.heap.push { cls:=.type "tuple",data:=.seq #[a,b,c,d,e,f] }).objs.size=s.heap.objs.size+1:=Heap.size_push ..
 refine wpAny_bind (wpAny_pyIter_tuple hT ?_)
 have hI:s.heap.objs.size≠(s.heap.push { cls:=.type "tuple",data:=.seq #[a,b,c,d,e,f] }).objs.size:=by rw[hsz];exact Nat.ne_of_lt (Nat.lt_succ_self _)
 have W:=Walks.tuple (prog:=prog) (w:=w) (A:=A.in1) hh (s.heap.push { cls:=.type "tuple",data:=.seq #[a,b,c,d,e,f] }).objs.size s.heap.objs.size hI (intItems ps)
 refine wpAny_bind (wpAny_newObj_type ?_)
 rw[Qa]
 have hn:(intItems ps).size=6:=by simp[intItems,hp]
 refine wpAny_pure ⟨plainId_quiet F.plain_max_loop _,codeAny_max_loop_first W (fun i j=>decide (numAt ps i > numAt ps j)) (CmpOf.ints_gt (numAt ps) (fun _ _=>intItems_at)) _ ?_ (by rw[hn];decide) (W.frame _ _ _ ⟨⟨_,Heap.get?_push_size _ rfl,rfl,rfl⟩,hT.push _⟩ fun b _ o e=>Heap.get?_push_of_some _ e) (Heap.get?_push_size _ rfl) fun v h' tk hP hk=>?_⟩
 ·intro hm
  simp only[List.mem_cons,List.not_mem_nil,or_false]at hm
  rcases hm with hm|hm
  ·exact absurd hm (by rw[Heap.size_push];exact Nat.ne_of_gt (Nat.lt_succ_self _))
  ·exact absurd hm (by rw[Heap.size_push,hsz];exact Nat.ne_of_gt (Nat.lt_succ_of_lt (Nat.lt_succ_self _)))
 ·have hold:∀d o,s.heap.get? d=some o→h'.get? d=some o:=fun d o e=>by
   have hd:=Heap.lt_size e
   refine hk d o (fun hm=>?_) ?_ (Heap.get?_push_of_some _ (Heap.get?_push_of_some _ (Heap.get?_push_of_some _ e)))
   ·cases List.mem_singleton.mp hm
    rw[hsz]at hd
    exact Nat.lt_irrefl _ (Nat.lt_of_succ_lt hd)
   ·rw[Heap.size_push,hsz]
    exact Nat.ne_of_lt (Nat.lt_succ_of_lt (Nat.lt_succ_of_lt hd))
  obtain⟨t,rfl⟩:=intItems_at hP
  have e6:(intItems ps).size - 1=0+1+1+1+1+1:=by rw[hn]
  rw[e6,mv (numAt ps),mv (numAt ps),mv (numAt ps),mv (numAt ps),mv (numAt ps)]
  exact h h' tk t hold
end
end PySem
namespace L2
open PySem PySem.Spec PyProof.Rows
section
variable{X:Cx}
theorem DB(hc:X.calm=true):gC X (.builtin "max") (fun xs H Q=>∃i j k l m n,xs=[.int i,.int j,.int k,.int l,.int m,.int n]∧Q (.int (max (max (max (max (max i j) k) l) m) n)) H):=by
 intro pins s σ H xs us Q I r h
 obtain⟨i,j,k,l,m,n,rfl,q⟩:=h
 cases r with
 |cons r1 r=>
  cases r with
  |cons r2 r=>
   cases r with
   |cons r3 r=>
    cases r with
    |cons r4 r=>
     cases r with
     |cons r5 r=>
      cases r with
      |cons r6 r=>
       cases r
       obtain⟨t1,rfl⟩:=r1
       obtain⟨t2,rfl⟩:=r2
       obtain⟨t3,rfl⟩:=r3
       obtain⟨t4,rfl⟩:=r4
       obtain⟨t5,rfl⟩:=r5
       obtain⟨t6,rfl⟩:=r6
       exact F_ (ps:=#[(i,t1),(j,t2),(k,t3),(l,t4),(m,t5),(n,t6)]) rfl (I.ok.hd hc) (fun h' tk t hk=>⟨.int _,H,I.kept hk,⟨t,rfl⟩,q⟩) (by simp[intItems])
theorem I_{K:PySem.W.Frag}:qr K (fun xs H Q=>∃i j k l m n,xs=[.int i,.int j,.int k,.int l,.int m,.int n]∧Q (.int (max (max (max (max (max i j) k) l) m) n)) H) Qm.wR:=by
 intro ρ c H ds d c' vs Q rs ra e k
 unfold Qm.wR at e
 split at e
 ·cases e
  cases ra with
  |cons r1 ra=>
   cases ra with
   |cons r2 ra=>
    cases ra with
    |cons r3 ra=>
     cases ra with
     |cons r4 ra=>
      obtain⟨v5,v6,rfl,r5,r6⟩:=ra.uc
      cases r1.ei;cases r2.ei;cases r3.ei;cases r4.ei;cases r5.ei;cases r6.ei
      exact⟨_,_,_,_,_,_,rfl,k ρ _ H (Nx.refl rs) (.int _)⟩
 ·cases e
def N3(K:PySem.W.Frag):R2:=fun x y H Q=>∃p q ns ms,x= .ref p∧y= .ref q∧cN K H p (ns.map V.int)∧cN K H q (ms.map V.int)∧Q (.bl (iW ms ns)) H
theorem MC(hu:X.A.units+64<cLine):fN X (compareOp .Lt) (N3 X.K):=by
 intro pins s σ H x y v u Q I rx ry h
 obtain⟨p,q,ns,ms,rfl,rfl,h1,h2,k⟩:=h
 cases rx
 cases ry
 obtain⟨xs,r1,t1,_⟩:=I.tuple h1
 obtain⟨ys,r2,t2,_⟩:=I.tuple h2
 exact FW t1 t2 (by simpa using ints_of r1) (by simpa using ints_of r2) (by omega) ⟨.bl _,H,I,rfl,k⟩
theorem MD{K:PySem.W.Frag}:jl K (N3 K) Qm.EM:=by
 intro ρ c H x y d c' v u Q rs rx ry e k
 unfold Qm.EM at e
 split at e
 ·obtain⟨ns,e1,e⟩:=aF e
  obtain⟨ms,e2,e⟩:=aF e
  cases e
  obtain⟨p,vs,rfl,h1,a1⟩:=rx.jM
  obtain⟨q,us,rfl,h2,a2⟩:=ry.jM
  rw[rD a1 e1]at h1
  rw[rD a2 e2]at h2
  exact⟨p,q,ns,ms,rfl,rfl,cN.of h1,cN.of h2,by rw[Eu];exact k ρ _ H (Nx.refl rs) (.bl _)⟩
 ·cases e
theorem pU:∀{us:List Value}{ns:List Int},IntsAre us ns→Vals (ns.map V.int) us
 |_,_,.nil=>.nil
 |_,_,.cons n t r=>.cons ⟨t,rfl⟩ (pU r)
theorem jr:∀{xs ys:List Int},xs.Perm ys→xs.Pairwise (·≤·)→ys.Pairwise (·≤·)→xs=ys
 |[],_,p,_,_=>(List.nil_perm.mp p).symm
 |x::xs,[],p,_,_=>absurd p.length_eq (by simp)
 |x::xs,y::ys,p,h1,h2=>by
  have e:x=y:=by
   have m1:x∈y::ys:=p.subset List.mem_cons_self
   have m2:y∈x::xs:=p.symm.subset List.mem_cons_self
   rcases List.mem_cons.mp m1 with e|m1
   ·exact e
   rcases List.mem_cons.mp m2 with e|m2
   ·exact e.symm
   have a1:=(List.pairwise_cons.mp h1).1 _ m2
   have a2:=(List.pairwise_cons.mp h2).1 _ m1
   omega
  subst e
  rw[jr (List.Perm.cons_inv p) (List.pairwise_cons.mp h1).2 (List.pairwise_cons.mp h2).2]
theorem ME{xs ns:List Int}(p:xs.Perm ns)(h:xs.Pairwise (·≤·)):xs=ns.mergeSort fun a b=>decide (a≤b):=by
 refine jr (p.trans (List.mergeSort_perm ..).symm) h ?_
 have:=List.pairwise_mergeSort (le:=fun a b:Int=>decide (a≤b)) (fun a b c h1 h2=>by simp at *;omega) (fun a b=>by simp;omega) ns
 exact this.imp fun h=>by simpa using h
theorem uh:gC X (.builtin "sorted") (fun xs H Q=>∃l,∃is:List Int,xs=[.ref l]∧bU X.K H l (is.map V.int)∧is.length<64∧∀D,H D=none→Q (.ref D) (upd H D (.lst ((is.mergeSort fun a b=>decide (a≤b)).map V.int)))):=by
 intro pins s σ H xs us Q I r h
 obtain⟨l,is,rfl,hl,hz,q⟩:=h
 obtain⟨u,rfl,e1⟩:=vals1 r
 cases e1
 obtain⟨its,rv,pl,zl⟩:=I.list hl
 have lv:=rv.length
 rw[List.length_map]at lv zl
 refine sorted_ints pl.isList (ints_of rv) (by omega) fun out V0 a1 a2 a3=>?_
 obtain⟨e,he⟩:=sortedAll_at s.heap its out
 have hn:=ME a2 a3
 refine⟨.ref (s.heap.objs.size+1),_,I.laid (a:=s.heap.objs.size+1) (t':=s.toks) (fun _ _=>sortedAll_old) (Nat.le_succ _) (show bN X.prog X.w _ _ _ (.lst (V0.map V.int))from⟨by rw[List.length_map,a2.length_eq];exact zl,out.toList,e,pU a1,by simpa using he⟩),rfl,?_⟩
 rw[hn]
 exact q _ (I.bj.fresh (Nat.le_succ _))
theorem yx{K:PySem.W.Frag}:qr K (fun xs H Q=>∃l,∃is:List Int,xs=[.ref l]∧bU K H l (is.map V.int)∧is.length<64∧∀D,H D=none→Q (.ref D) (upd H D (.lst ((is.mergeSort fun a b=>decide (a≤b)).map V.int)))) Qm.lj:=by
 intro ρ c H ds d c' vs Q rs ra e k
 obtain⟨x,rfl,e⟩:=ja e
 obtain⟨v,rfl,rx⟩:=ra.iJ
 obtain⟨l,e1,e⟩:=aF e
 obtain⟨is,e2,e⟩:=aF e
 split at e
 ·rename_i hz
  cases e
  obtain⟨_,hc,ws,rfl,h1,a1⟩:=rs.bq rx e1
  rw[rD a1 e2]at h1
  refine⟨_,is,rfl,bU.of h1,hz,fun q hq=>?_⟩
  obtain⟨n,r⟩:=Nx.alloc rs hq (om (is.mergeSort fun a b=>decide (a≤b)))
  exact k _ _ _ n r
 ·cases e
end
end L2
namespace L2
open PySem PySem.Spec PyProof.Rows
theorem Ja{X:Cx}:∀q∈([]:List (Nat×Qm.FN)),Ez X q.1 q.2:=fun q h=>nomatch h
theorem yy{X:Cx}{a:Nat}{F:Qm.FN}{l:List (Nat×Qm.FN)}{k:Nat}{fd:FuncData}{ps:List Str}(h:bH X.prog X.w X.K X.mg X.base cW k a fd ps (dq X.K F))(hr:fG k X.A)(hk:PySem.W.keepIn X.K (.ref a)=true)(hb:Binds X.K fd ps [])(r:∀q∈l,Ez X q.1 q.2):∀q∈(a,F)::l,Ez X q.1 q.2:=fun q m=>by
 rcases List.mem_cons.mp m with rfl|m
 ·exact⟨⟨k,fd,ps,h,hr,hk,hb⟩⟩
 ·exact r q m
def spT(K:PySem.W.Frag)(F:Nat→Nat→Qm.FN):Sp:=fun vs H Q E=>∀x y,x≠y→dq K (F x y) vs H Q E
theorem Ga{c1 c2:Value}{d1 d2:Option Addr}{f1 f2:FuncData}{s1 s2:Array (Option Value)}(h:f1.name≠f2.name)(e:(some ⟨c1,d1,.func f1,s1⟩:Option Obj)=some ⟨c2,d2,.func f2,s2⟩):False:=by
 injection e with e
 injection e with _ _ e _
 injection e with e
 exact h (congrArg FuncData.name e)
end L2
namespace PySem
open Sem (wp)
open AutoSeq1 (wpAny_loadPart')
theorem Jb(l b:Addr)(xs ys:Array Value)(n m:Nat)(d2:Option Addr)(sl:Array (Option Value))(h0:¬(!xs.isEmpty&&Builtin.List.listTooLong (xs.size+ys.size))=true)(h1:xs.size≤sizeLine)(h2:xs.size+ys.size≤sizeLine+1):
  Meets (Builtin.«list.extend» ⟨[.ref l,.ref b],[]⟩) (fun _ R s=>s.heap.get? l=some { cls:=.type "list",dict:=none,data:=.seq xs n,slots:=#[] }∧s.heap.get? b=some { cls:=.type "tuple",dict:=d2,data:=.seq ys m,slots:=sl }∧R (.ok (.ret Value.none)) { s with heap:=s.heap.update l (Obj.mapSeq fun x=>x++ys),toks:=s.toks }):=
 .of_wp fun prog w A R s h=>by
  obtain⟨hp,g,d,tk,os⟩:=s
  obtain⟨hl,hb,h⟩:=h
  have f1:=AutoSeq1.idx_int
  have f2:=AutoSeq1.sub_tuple_tuple
  have f3:=AutoSeq1.sub_list_list
  have f4:=AutoSeq1.sub_tuple_list
  have f5:=AutoSeq1.sub_list_tuple
  have hz:(xs++ys).size≤sizeLine+1:=by rw[Array.size_append];exact h2
  wp_walk using(wpAny_updateSeq hl rfl (hz:=h1) (_hz':=hz)),wpAny_loadPart' hl,wpAny_loadPart' hb
  exact⟨_,rfl,h⟩
end PySem
namespace L2
open PySem PySem.Spec PyProof.Rows
def Jc:V→List V→Hp→VK→Prop:=fun x vs H Q=>∃l b xs zs,x= .ref l∧vs=[.ref b]∧H l=some (.lst xs)∧H b=some (.tup zs)∧xs.length+zs.length≤sizeLine∧Q .bG (upd H l (.lst (xs++zs)))
section
variable{X:Cx}
theorem BH:Hs X "list.extend" Jc:=by
 intro pins s σ H x vs v us Q I rx rv h
 obtain⟨l,b,xs,zs,rfl,rfl,hH,hB,hz,q⟩:=h
 cases rx
 obtain⟨u,rfl,ru⟩:=rv.one
 cases ru
 obtain⟨z,its,n,r,hl,e⟩:=I.vV hH
 obtain⟨z2,md,r2,o,e2,c2,n2,d2⟩:=(show bN X.prog X.w H s.heap b (.tup zs)from I.bj b _ hB)
 have uO:=r2.length
 obtain⟨oc,od,Tf,kN⟩:=o
 simp only at c2 d2
 subst c2 d2
 have hsz:its.toArray.size+md.toArray.size≤sizeLine:=by rw[List.size_toArray,List.size_toArray];omega
 have CY:¬(!its.toArray.isEmpty&&Builtin.List.listTooLong (its.toArray.size+md.toArray.size))=true:=by
  rw[yf hsz,Bool.and_false]
  exact Bool.false_ne_true
 refine call_meets F.slot_list_extend ⟨_,e,rfl⟩ F.entry_list_extend (F.args_list_extend_2 _ _) (PySem.Jb l b its.toArray md.toArray n n2 od kN CY (by rw[List.size_toArray];omega) (by omega)) ⟨e,e2,?_⟩
 refine⟨.bG,_,I.Ec (its':=its++md) hH e (by simp) (r.append r2) ?_,rfl,q⟩
 rw[List.length_append]
 omega
theorem BI{K:PySem.W.Frag}:Ia K Jc Qm.oq:=by
 intro ρ c H x ds d c' v vs Q rs rx ra e k
 unfold Qm.oq Qm.one at e
 split at e
 ·rename_i y
  obtain⟨l,e1,e⟩:=aF e
  split at e
  ·rename_i ys
   obtain⟨u,rfl,ry⟩:=ra.iJ
   split at e
   ·rename_i hz
    cases e
    obtain⟨_,hn,ws,rfl,h,a⟩:=rs.bq rx e1
    obtain⟨b,us,rfl,h2,a2⟩:=ry.jM
    have n:=Nx.put rs hn (a.append a2)
    exact⟨_,_,ws,us,rfl,rfl,h,h2,ml (by rw[←a.length,←a2.length];exact hz),k ρ _ _ n .bG⟩
   ·cases e
  ·cases e
 ·cases e
end
end L2
namespace Qm
open PySem
noncomputable section
def mw:FN:=one fun y c=>match y with
 |.int j=>if 0≤j∧j≤1000 then some (.ref c.length,c++[.lst (dQ 0 j.toNat)])else none
 |_=>none
def oW(o:D):FN:=one fun y c=>(bq o c).bind fun l=>match y with
 |.int i=>if 0≤i∧i<l.2.length∧l.2.length≤1000 then(l.2[i.toNat]?).bind fun d=>some (d,c.set l.1 (.lst (l.2.eraseIdx i.toNat)))else none
 |_=>none
end
end Qm
namespace L2
open PySem PySem.Spec PyProof.Rows
theorem RA.erase{K:PySem.W.Frag}{ρ:Nat→Addr}{N:Nat}{H:Hp}:∀{ds:List Qm.D}{vs:List V} (n:Nat),RA K ρ N H ds vs→RA K ρ N H (ds.eraseIdx n) (vs.eraseIdx n)
 |_,_,_,.nil=>.nil
 |_,_,0,.cons _ b=>b
 |_,_,n+1,.cons a b=>.cons a (b.erase n)
theorem Gb{K:PySem.W.Frag}:Ia K Ed Qm.oW:=by
 intro ρ c H x ds d c' v vs Q rs rx ra e k
 unfold Qm.oW Qm.one at e
 split at e
 ·rename_i y
  obtain⟨l,e1,e⟩:=aF e
  split at e
  ·rename_i i _
   obtain⟨u,rfl,ry⟩:=ra.iJ
   split at e
   ·rename_i hz
    obtain⟨d',e2,e⟩:=aF e
    cases e
    obtain⟨_,hn,ws,rfl,h,a⟩:=rs.bq rx e1
    cases ry.ei
    obtain⟨y,hy,ry⟩:=a.get e2
    have n:=Nx.put rs hn (a.erase i.toNat)
    have hl:=a.length
    refine⟨_,ws,i,i.toNat,y,rfl,rfl,h,by omega,by omega,?_,hy,k ρ _ _ n ?_⟩
    ·unfold seqIndex?
     have h1:¬i<0:=by omega
     have h2:i<(ws.length:Int):=by omega
     simp[h1,hz.1,h2]
    ·have:=ry.up n.up
     simpa using this
   ·cases e
  ·cases e
 ·cases e
theorem DC{acc:Array Value}{n:Nat}(h:ItemsOf (fun i v=>∃t,v= .int ((0:Int)+i*1) t) acc n):Vals ((List.range n).map fun(i:Nat)=>V.int (0+(i:Int))) acc.toList:=by
 obtain⟨h1,h2⟩:=h
 have key:∀(vs:List Value) (m:Nat),(∀j v,vs[j]? =some v→∃t,v=Value.int (((m+j:Nat):Int)) t)→Vals ((List.range' m vs.length).map fun(i:Nat)=>V.int (0+(i:Int))) vs:=by
  intro vs
  induction vs with
  |nil=>intro m _;exact .nil
  |cons v vs ih=>
   intro m hv
   rw[List.length_cons,List.range'_succ,List.map_cons]
   refine .cons ?_ (ih (m+1) fun j u hu=>?_)
   ·obtain⟨t,ht⟩:=hv 0 v rfl
    exact⟨t,by rw[ht];simp⟩
   ·obtain⟨t,ht⟩:=hv (j+1) u hu
    exact⟨t,by rw[ht];congr 1;omega⟩
 have hk:=key acc.toList 0 fun j v hj=>by
  obtain⟨t,ht⟩:=h2 j v (by rw[←Array.getElem?_toList];exact hj)
  exact⟨t,by rw[ht];congr 1;omega⟩
 rw[Array.length_toList,h1,←List.range_eq_range']at hk
 exact hk
def Gd(t:TA):TE:=fun σ H Q=>t σ H fun vs H1=>∃j:Int,vs=[.int j]∧0≤j∧j≤1000∧∀l,H1 l=none→Q (.ref l) (upd H1 l (.lst ((List.range j.toNat).map fun(i:Nat)=>.int (0+(i:Int)))))
section
variable{X:Cx}
theorem BJ{p0 p1 p2 pos:Pos}{e:Expr}{f:TA}(hc:X.calm=true)(hg:Gl X "list")(hm:X.mg "list" =none)(Qb:Gl X "range")(Qc:X.mg "range" =none)(ha:PA X [e] f)
  (hs:starEach [.Call (.Name "range" p1) [e] [] p2] X.env=[(false,eval (.Call (.Name "range" p1) [e] [] p2) X.env)]:=by rfl)
  (iX:starEach [e] X.env=(false,eval e X.env)::starEach [] X.env:=by rfl)(dJ:(backTo p2 (starEach [] X.env)).any (·.1)=false:=by rfl):
  PE X (.Call (.Name "list" p0) [.Call (.Name "range" p1) [e] [] p2] [] pos) (Gd f):=by
 intro pins s σ H Q I h
 refine wpAny_Call_Name_kw (gi I hg hm (u:=.type "list") (by decide +kernel) ?_)
 refine PyProof.Rows.callWith_type1 ?_ hs rfl
 rw[hs]
 show wpAny _ _ (spliced [(false,eval (.Call (.Name "range" p1) [e] [] p2) X.env)]) _ _ _
 refine Calls.spliced_cons ?_
 refine wpAny_Call_Name_kw (gi I Qb Qc (u:=.type "range") (by decide +kernel) ?_)
 refine PyProof.Rows.callWith_type1 (bL (ha p2 pins s σ H _ I h) fun us s1 ⟨vs,H1,I1,r1,q1⟩=>?_) iX dJ
 obtain⟨j,rfl,j0,j1,q⟩:=q1
 obtain⟨u1,rfl,ra⟩:=vals1 r1
 obtain⟨t,rfl⟩:=ra
 refine call_range_1 (Calls.spliced_nil ?_)
 have I2:Inv X pins σ H1 { s1 with heap:=s1.heap.push { cls:=.type "range",data:=.fields #[.int 0 s1.toks,.int j t,.int 1 (s1.toks+1)] },toks:=s1.toks+1+1 }:=I1.kept fun b o e=>Heap.get?_push_of_some _ e
 generalize LR:({ s1 with heap:=s1.heap.push { cls:=.type "range",data:=.fields #[.int 0 s1.toks,.int j t,.int 1 (s1.toks+1)] },toks:=s1.toks+1+1 }:Shared)=s3 at*
 have hr:IsRange s3.heap s1.heap.objs.size 0 j 1 s1.toks t (s1.toks+1):=by rw[←LR];exact IsRange.new ..
 refine call_list_range (I.ok.hd hc) hr (n:=j.toNat) (PySem.small_one (by omega) (by omega) (by omega) (by omega)) (by rw[PySem.rangeSize_one];split<;>omega) (by omega) fun h' tk acc c hk hD wM=>?_
 have hv:=DC wM
 have hL:H1 s3.heap.objs.size=none:=I2.fresh
 have hz:((List.range j.toNat).map fun(i:Nat)=>V.int (0+(i:Int))).length≤sizeLine:=by
  rw[List.length_map,List.length_range]
  have:(1000:Nat)≤sizeLine:=by decide
  omega
 have V2:h'.get? s3.heap.objs.size=some { cls:=.type "list",dict:=none,data:=.seq acc.toList.toArray c,slots:=#[] }:=by rw[Array.toArray_toList];exact hD
 have I4:Inv X pins σ (upd H1 s3.heap.objs.size (.lst ((List.range j.toNat).map fun(i:Nat)=>V.int (0+(i:Int))))) { s3 with heap:=h',toks:=tk }:=I2.wG (ch:=[]) (t':=tk) (fun b hb=>absurd hb List.not_mem_nil) (fun b u hb e=>hk b u e) (Nat.le_refl _) ⟨hz,acc.toList,c,hv,V2⟩
 exact⟨.ref s3.heap.objs.size,_,I4,rfl,q _ hL⟩
theorem MF{K:PySem.W.Frag}{ρ:Nat→Addr}{N:Nat}{H:Hp}(l:List Nat):RA K ρ N H (l.map fun(i:Nat)=>Qm.D.int (0+(i:Int))) (l.map fun(i:Nat)=>V.int (0+(i:Int))):=by
 induction l with
 |nil=>exact .nil
 |cons a l ih=>exact .cons (.int _) ih
theorem BK{e1:Expr}{p0 p1 p2 pos:Pos}{f:Qm.XA}(hg:Gl X "list")(hm:X.mg "list" =none)(Qb:Gl X "range")(Qc:X.mg "range" =none)(ha:QA X [e1] f)(hc:X.calm=true:=by rfl)
  (hs:starEach [.Call (.Name "range" p1) [e1] [] p2] X.env=[(false,eval (.Call (.Name "range" p1) [e1] [] p2) X.env)]:=by rfl)
  (iX:starEach [e1] X.env=(false,eval e1 X.env)::starEach [] X.env:=by rfl)(dJ:(backTo p2 (starEach [] X.env)).any (·.1)=false:=by rfl):
  QE X (.Call (.Name "list" p0) [.Call (.Name "range" p1) [e1] [] p2] [] pos) (Qm.eB Qm.mw f):=(BJ hc hg hm Qb Qc ha hs iX dJ).imp <| by
 rintro σ H Q ⟨ρ,env,c,d,c',rs,re,e,k⟩
 obtain⟨p,ea,e⟩:=aF e
 refine⟨ρ,env,c,p.1,p.2,rs,re,ea,fun aN vs H1 n1 r1=>?_⟩
 unfold Qm.mw Qm.one at e
 split at e
 ·rename_i y hp
  dsimp only at e
  split at e
  ·rename_i j
   split at e
   ·rename_i hj
    cases e
    rw[hp]at r1
    obtain⟨v,rfl,rx⟩:=r1.iJ
    cases rx.ei
    refine⟨j,rfl,hj.1,hj.2,fun a n_=>?_⟩
    obtain⟨n2,r2⟩:=Nx.alloc n1.rs n_ (MF (K:=X.K) (ρ:=aN) (N:=p.2.length) (H:=H1) (List.range j.toNat))
    exact k _ _ _ (n1.trans n2) r2
   ·cases e
  ·cases e
 ·cases e
end
end L2
namespace L2
open PySem
section
variable{X:Cx}{b e:Expr}{es:List Expr}{fb:Qm.XE}{pos p:Pos}
theorem qv(i:Nat){x:Str}(hN:X.N[i]? =some x:=by rfl)(hv:CB X.env.scope x:=by first|exact Or.inl rfl|exact Or.inr (Or.inl rfl)|exact Or.inr (Or.inr rfl))(hd:(x=="__debug__")=false:=by decide)(hc:(x=="__classdict__")=false:=by decide):QE X (.Name x pos) (Qm.eV i):=L4 i (pv i hN hv hd hc)
theorem aO(i:Nat){x:Str}(hb:QE X b fb)(hN:X.N[i]? =some x:=by rfl)(hv:CB X.env.scope x:=by first|exact Or.inl rfl|exact Or.inr (Or.inl rfl)|exact Or.inr (Or.inr rfl))(hs:qR b:=by exact fun _ _=>rfl)(hd:(x=="__debug__")=false:=by decide)(hc:(x=="__classdict__")=false:=by decide):QE X (.Subscript (.Name x p) b pos) (Qm.e2 Qm.ar (Qm.eV i) fb):=cA (qv i hN hv hd hc) hb hs
theorem bC{k:Nat}{f:Addr}{fd:FuncData}{ps:List Str}{F:Qm.FN}{x:Str}{fx:Qm.XA}(G:bH X.prog X.w X.K X.mg X.base cW k f fd ps (dq X.K F))(hm:X.mg x=some (.ref f))(hk:PySem.W.keepIn X.K (.ref f)=true)(hb:Binds X.K fd ps [])(hr:fG k X.A)(ha:QA X (e::es) fx)
  (hg:Gl X x:=by rfl)(hd:(x=="__debug__")=false:=by decide)(he:starEach (e::es) X.env=(false,eval e X.env)::starEach es X.env:=by rfl)(hp:(backTo pos (starEach es X.env)).any (·.1)=false:=by rfl):QE X (.Call (.Name x p) (e::es) [] pos) (Qm.ao F [] fx):=HX [] G hr hg hm hk hb .nil (fun _ _ _=>.nil) ha hd he hp
end
end L2
namespace My
abbrev T3:=Int×Int×Int
def bA(p:T3):Prop:=C4 p.1 p.2.1 p.2.2
def aM(p q:T3):Bool:=mP p.1 p.2.1 p.2.2 q.1 q.2.1 q.2.2
theorem Jd{a b c d e f:Int}(hb: 0<b)(hd: 0<d)(hf: 0<f)(h1:a*d<c*b)(h2:c*f<e*d):a*f<e*b:=by
 have a1:a*d*f<c*b*f:=Int.mul_lt_mul_of_pos_right h1 hf
 have a2:c*f*b<e*d*b:=Int.mul_lt_mul_of_pos_right h2 hb
 have e1:a*d*f=(a*f)*d:=by grind
 have e2:c*b*f=c*f*b:=by grind
 have e3:e*d*b=(e*b)*d:=by grind
 have:(a*f)*d<(e*b)*d:=by omega
 exact Int.lt_of_mul_lt_mul_right this (Int.le_of_lt hd)
theorem Qd{a b c d e f:Int}(hd: 0<d)(h1:a*d=c*b)(h2:c*f=e*d):a*f=e*b:=by
 have:(a*f)*d=(e*b)*d:=by grind
 exact Int.eq_of_mul_eq_mul_right (by omega) this
theorem MG{a b c d e f:Int}(hb: 0<b)(hd: 0<d)(hf: 0<f)(h1:a*d<c*b)(h2:c*f=e*d):a*f<e*b:=by
 have a1:a*d*f<c*b*f:=Int.mul_lt_mul_of_pos_right h1 hf
 have e1:a*d*f=(a*f)*d:=by grind
 have e2:c*b*f=(e*b)*d:=by
  rw[show c*b*f=(c*f)*b by grind,h2];grind
 have:(a*f)*d<(e*b)*d:=by omega
 exact Int.lt_of_mul_lt_mul_right this (Int.le_of_lt hd)
theorem MH{a b c d e f:Int}(hb: 0<b)(hd: 0<d)(h1:a*d=c*b)(h2:c*f<e*d):a*f<e*b:=by
 have a1:c*f*b<e*d*b:=Int.mul_lt_mul_of_pos_right h2 hb
 have e1:c*f*b=(a*f)*d:=by
  rw[show c*f*b=(c*b)*f by grind,←h1];grind
 have e2:e*d*b=(e*b)*d:=by grind
 have:(a*f)*d<(e*b)*d:=by omega
 exact Int.lt_of_mul_lt_mul_right this (Int.le_of_lt hd)
theorem js{p q:T3}:aM p q=true↔p.1*q.2.2<q.1*p.2.2∨(p.1*q.2.2=q.1*p.2.2∧p.2.1*q.2.2<q.2.1*p.2.2):=by
 unfold aM mP
 split
 ·rename_i h
  simp only[decide_eq_true_eq]
  constructor
  ·exact fun z=>.inr ⟨h,z⟩
  ·rintro(z|z)
   ·omega
   ·exact z.2
 ·rename_i h
  simp only[decide_eq_true_eq]
  constructor
  ·exact fun z=>.inl z
  ·rintro(z|z)
   ·exact z
   ·exact absurd z.1 h
theorem BL(p:T3):aM p p=false:=by
 cases h:aM p p with
 |false=>rfl
 |true=>
  rcases js.mp h with z|z
  ·omega
  ·omega
theorem m9{p q r:T3}(hp:bA p)(hq:bA q)(hr:bA r)(h1:aM p q=true)(h2:aM q r=true):aM p r=true:=by
 have p0:=hp.pos;have q0:=hq.pos;have r0:=hr.pos
 rw[js]at h1 h2 ⊢
 rcases h1 with h1|⟨e1,h1⟩<;>rcases h2 with h2|⟨e2,h2⟩
 ·exact .inl (Jd p0 q0 r0 h1 h2)
 ·exact .inl (MG p0 q0 r0 h1 e2)
 ·exact .inl (MH p0 q0 e1 h2)
 ·exact .inr ⟨Qd q0 e1 e2,Jd p0 q0 r0 h1 h2⟩
theorem cL{p q:T3}(h:aM p q=true):aM q p=false:=by
 cases h2:aM q p with
 |false=>rfl
 |true=>
  rw[js]at h h2
  rcases h with h|h<;>rcases h2 with h2|h2<;>omega
theorem wU{p q:T3}(hp:bA p)(hq:bA q)(h1:aM p q=false)(h2:aM q p=false):p=q:=by
 have n1:¬(aM p q=true):=by rw[h1];decide
 have n2:¬(aM q p=true):=by rw[h2];decide
 rw[js]at n1 n2
 have e1:p.1*q.2.2=q.1*p.2.2:=by omega
 have e2:p.2.1*q.2.2=q.2.1*p.2.2:=by omega
 obtain⟨a,b,c⟩:=tZ hp hq e1 e2
 obtain⟨x,y,w⟩:=p
 obtain⟨x',y',w'⟩:=q
 dsimp only at a b c
 subst a b c
 rfl
def Tr(l:List T3)(k:Nat):List T3:=l.drop k++l.take k
end My
namespace My
abbrev P2:=Int×Int
def cr(a b:P2):Int:=a.1*b.2 - b.1*a.2
def ch:List P2→Int
 |a::b::l=>cr a b+ch (b::l)
 |_=>0
def cz:List (P2×P2)→Int
 |[]=>0
 |z::l=>cr z.1 z.2+cz l
end My
set_option maxHeartbeats 2000000
namespace My
def cB(p q:T3):P2:=(q.1*p.2.2 - p.1*q.2.2,q.2.1*p.2.2 - p.2.1*q.2.2)
def tp(a b:P2):Int:=a.1*b.2 - a.2*b.1
def Ge(a b:P2):Bool:=decide (tp a b=0)&&(decide (a.1*b.1≤0)&&decide (a.2*b.2≤0))
def rI(y v k:Int):Int:=if decide (y<0)=decide (v<0)then 0 else if 0<k then(if y<0 then 1 else 0)else(if y<0 then 0 else -1)
def V3(a b:P2):Int:=rI a.2 b.2 (tp a b)
structure Sg(x y z:Int):Prop where
 pp: 0<x→0<y→0<z
 nn:x<0→y<0→0<z
 pn: 0<x→y<0→z<0
 np:x<0→0<y→z<0
 z1:x=0→z=0
 z2:y=0→z=0
theorem Je(x y:Int):Sg x y (x*y):=⟨Int.mul_pos,Int.mul_pos_of_neg_of_neg,Int.mul_neg_of_pos_of_neg,Int.mul_neg_of_neg_of_pos,fun h=>by rw[h,Int.zero_mul],fun h=>by rw[h,Int.mul_zero]⟩
theorem wV{a b:P2}:Ge a b=true↔tp a b=0∧a.1*b.1≤0∧a.2*b.2≤0:=by
 unfold Ge
 simp only[Bool.and_eq_true,decide_eq_true_eq]
theorem pV(z:Int): 0<z∨z=0∨z<0:=by omega
theorem Jf(p a b:T3):tp (cB p a) (cB p b)=p.2.2*det a.1 a.2.1 a.2.2 b.1 b.2.1 b.2.2 p.1 p.2.1 p.2.2:=by
 obtain⟨p0,p1,p2⟩:=p
 obtain⟨a0,a1,a2⟩:=a
 obtain⟨b0,b1,b2⟩:=b
 simp only[tp,cB,det];grind
theorem ot{p0 p1 p2 q0 q1 q2:Int}:mP p0 p1 p2 q0 q1 q2=true↔p0*q2<q0*p2∨(p0*q2=q0*p2∧p1*q2<q1*p2):=js (p:=(p0,p1,p2)) (q:=(q0,q1,q2))
theorem jb{p s e:Int}(hp: 0<p)(h:p*s=e):(0<s→0<e)∧(s=0→e=0)∧(s<0→e<0):=by
 subst h
 exact⟨Int.mul_pos hp,fun h=>by rw[h,Int.mul_zero],Int.mul_neg_of_pos_of_neg hp⟩
theorem V4{x y u v k1 k2 k3 k4 m1 m2 n1 n2 s t:Int}(s1:Sg x u k1)(s2:Sg y v k2)(s3:Sg x v k3)(s4:Sg y u k4)(c:k3 - k4=0)(e1:(0<x→0<m1)∧(x=0→m1=0)∧(x<0→m1<0))(e2:(0<u→0<m2)∧(u=0→m2=0)∧(u<0→m2<0))(e3:(0<y→0<n1)∧(y=0→n1=0)∧(y<0→n1<0))(e4:(0<v→0<n2)∧(v=0→n2=0)∧(v<0→n2<0))
  (f1:(0<s→0<m1 - m2)∧(s=0→m1 - m2=0)∧(s<0→m1 - m2<0))(f2:(0<t→0<n1 - n2)∧(t=0→n1 - n2=0)∧(t<0→n1 - n2<0)):
  (if s<0∨(s=0∧t<0)then ¬(0<x∨(x=0∧0<y))∧¬(u<0∨(u=0∧v<0))else ¬(0<u∨(u=0∧0<v))∧¬(x<0∨(x=0∧y<0)))↔k1≤0∧k2≤0:=by
 obtain⟨e1,Jg,Jh⟩:=e1
 obtain⟨e2,kj,Ji⟩:=e2
 obtain⟨e3,Qe,Jj⟩:=e3
 obtain⟨e4,Qf,Jk⟩:=e4
 rcases pV x with hx|hx|hx<;>rcases pV y with hy|hy|hy<;>rcases pV u with hu|hu|hu<;>rcases pV v with hv|hv|hv<;>(first|replace s1:=Sg.pp s1 hx hu|replace s1:=Sg.nn s1 hx hu|replace s1:=Sg.pn s1 hx hu|replace s1:=Sg.np s1 hx hu|replace s1:=Sg.z1 s1 hx|replace s1:=Sg.z2 s1 hu)<;>(first|replace s2:=Sg.pp s2 hy hv|replace s2:=Sg.nn s2 hy hv|replace s2:=Sg.pn s2 hy hv|replace s2:=Sg.np s2 hy hv|replace s2:=Sg.z1 s2 hy|replace s2:=Sg.z2 s2 hv)<;>(first|replace s3:=Sg.pp s3 hx hv|replace s3:=Sg.nn s3 hx hv|replace s3:=Sg.pn s3 hx hv|replace s3:=Sg.np s3 hx hv|replace s3:=Sg.z1 s3 hx|replace s3:=Sg.z2 s3 hv)<;>(first|replace s4:=Sg.pp s4 hy hu|replace s4:=Sg.nn s4 hy hu|replace s4:=Sg.pn s4 hy hu|replace s4:=Sg.np s4 hy hu|replace s4:=Sg.z1 s4 hy|replace s4:=Sg.z2 s4 hu)<;>(first|(exfalso;clear e1 Jg Jh e2 kj Ji e3 Qe Jj e4 Qf Jk f1 f2;omega)|((first|replace e1:=e1 hx|replace e1:=Jg hx|replace e1:=Jh hx)<;>(first|replace e2:=e2 hu|replace e2:=kj hu|replace e2:=Ji hu)<;>(first|replace e3:=e3 hy|replace e3:=Qe hy|replace e3:=Jj hy)<;>(first|replace e4:=e4 hv|replace e4:=Qf hv|replace e4:=Jk hv)<;>clear Jg Jh kj Ji Qe Jj Qf Jk<;>split<;>omega))
theorem BM{p a b:T3}(hp: 0<p.2.2)(ha: 0<a.2.2)(hb: 0<b.2.2):wb p.1 p.2.1 p.2.2 a.1 a.2.1 a.2.2 b.1 b.2.1 b.2.2=Ge (cB p a) (cB p b):=by
 have cd:=Jf p a b
 obtain⟨p0,p1,p2⟩:=p
 obtain⟨a0,a1,a2⟩:=a
 obtain⟨b0,b1,b2⟩:=b
 dsimp only at*
 have hd:det a0 a1 a2 b0 b1 b2 p0 p1 p2=0↔tp (cB (p0,p1,p2) (a0,a1,a2)) (cB (p0,p1,p2) (b0,b1,b2))=0:=by
  rw[cd]
  exact⟨fun h=>by rw[h,Int.mul_zero],fun h=>(Int.mul_eq_zero.mp h).resolve_left (by omega)⟩
 have key:wb p0 p1 p2 a0 a1 a2 b0 b1 b2=true↔Ge (cB (p0,p1,p2) (a0,a1,a2)) (cB (p0,p1,p2) (b0,b1,b2))=true:=by
  rw[wV]
  unfold wb
  by_cases h:det a0 a1 a2 b0 b1 b2 p0 p1 p2=0
  ·rw[if_pos h,←hd]
   simp only[h,true_and]
   have h':=hd.mp h
   have e:∀x y:Bool,(!x&&!y)=true↔¬x=true∧¬y=true:=by decide
   have k:=V4 (x:=a0*p2 - p0*a2) (y:=a1*p2 - p1*a2) (u:=b0*p2 - p0*b2) (v:=b1*p2 - p1*b2) (s:=a0*b2 - b0*a2) (t:=a1*b2 - b1*a2) (m1:=b2*(a0*p2 - p0*a2)) (m2:=a2*(b0*p2 - p0*b2)) (n1:=b2*(a1*p2 - p1*a2)) (n2:=a2*(b1*p2 - p1*b2)) (Je _ _) (Je _ _) (Je _ _) (Je _ _) h' (jb hb rfl) (jb ha rfl) (jb hb rfl) (jb ha rfl) (jb hp (by grind)) (jb hp (by grind))
   simp only[cB]
   rw[←k]
   have w1:mP a0 a1 a2 b0 b1 b2=true↔a0*b2 - b0*a2<0∨(a0*b2 - b0*a2=0∧a1*b2 - b1*a2<0):=by rw[ot];omega
   have w2:mP p0 p1 p2 a0 a1 a2=true↔0<a0*p2 - p0*a2∨(a0*p2 - p0*a2=0∧0<a1*p2 - p1*a2):=by rw[ot];omega
   have w3:mP b0 b1 b2 p0 p1 p2=true↔b0*p2 - p0*b2<0∨(b0*p2 - p0*b2=0∧b1*p2 - p1*b2<0):=by rw[ot];omega
   have w4:mP p0 p1 p2 b0 b1 b2=true↔0<b0*p2 - p0*b2∨(b0*p2 - p0*b2=0∧0<b1*p2 - p1*b2):=by rw[ot];omega
   have w5:mP a0 a1 a2 p0 p1 p2=true↔a0*p2 - p0*a2<0∨(a0*p2 - p0*a2=0∧a1*p2 - p1*a2<0):=by rw[ot];omega
   by_cases hw:mP a0 a1 a2 b0 b1 b2=true
   ·rw[if_pos hw,if_pos (w1.mp hw),←w2,←w3];exact e _ _
   ·rw[if_neg hw,if_neg (fun g=>hw (w1.mpr g)),←w4,←w5];exact e _ _
  ·rw[if_neg h]
   simp only[Bool.false_eq_true,false_iff,not_and]
   exact fun h2=>absurd (hd.mpr h2) h
 cases h1:wb p0 p1 p2 a0 a1 a2 b0 b1 b2<;>cases h2:Ge (cB (p0,p1,p2) (a0,a1,a2)) (cB (p0,p1,p2) (b0,b1,b2))<;>simp_all
def sm(f:T3→T3→Int):List (T3×T3)→Int
 |[]=>0
 |z::zs=>f z.1 z.2+sm f zs
def an(f:T3→T3→Bool)(zs:List (T3×T3)):Bool:=zs.any fun z=>f z.1 z.2
def Tt(p a b:T3):Bool:=Ge (cB p a) (cB p b)
def Tu(p a b:T3):Int:=V3 (cB p a) (cB p b)
def wh(l:List T3)(p:T3):Int:=if an (Tt p) (l.zip (Tr l 1))=true then 0 else if sm (Tu p) (l.zip (Tr l 1))=0 then -1 else 1
end My
set_option maxHeartbeats 2000000
namespace My
inductive DE where
 |none|lq(p:T3)|fW(p q:T3)
 deriving DecidableEq
def aG(a b c:T3):Int:=det a.1 a.2.1 a.2.2 b.1 b.2.1 b.2.2 c.1 c.2.1 c.2.2
def ef(p a b:T3):Bool:=wb p.1 p.2.1 p.2.2 a.1 a.2.1 a.2.2 b.1 b.2.1 b.2.2
def fw(a b:T3):T3×T3:=if aM a b=true then(a,b)else(b,a)
def jt(l r:T3×T3):DE:=
 let p:=if aM l.1 r.1=true then r.1 else l.1
 let q:=if aM l.2 r.2=true then l.2 else r.2
 if p=q then .lq p else if aM p q=true then .fW p q else .none
def mX(a b c d:T3):Int:=m0 a.1 a.2.1 a.2.2 b.1 b.2.1 b.2.2 c.1 c.2.1 c.2.2 d.1 d.2.1 d.2.2
def mY(a b c d:T3):Int:=m1 a.1 a.2.1 a.2.2 b.1 b.2.1 b.2.2 c.1 c.2.1 c.2.2 d.1 d.2.1 d.2.2
def mW(a b c d:T3):Int:=m2 a.1 a.2.1 a.2.2 b.1 b.2.1 b.2.2 c.1 c.2.1 c.2.2 d.1 d.2.1 d.2.2
def spT(x y w:Int):T3:=(sx x y w,sy x y w,sw x y w)
def cm(a b c d:T3):DE:=
 if sgn (aG a b c)=0∧sgn (aG a b d)=0 then jt (fw a b) (fw c d)
 else if 0<sgn (aG a b c)*sgn (aG a b d)∨0<sgn (aG c d a)*sgn (aG c d b)then .none
 else .lq (spT (mX a b c d) (mY a b c d) (mW a b c d))
theorem iA{p q:T3}(hp:bA p)(hq:bA q):aM p q=true∨p=q∨aM q p=true:=by
 cases h1:aM p q
 ·cases h2:aM q p
  ·exact .inr (.inl (wU hp hq h1 h2))
  ·exact .inr (.inr rfl)
 ·exact .inl rfl
theorem Jl{a b:T3}(ha:bA a)(hb:bA b)(h:a≠b):fw b a=fw a b:=by
 unfold fw
 rcases iA ha hb with h1|h1|h1
 ·rw[if_pos h1,if_neg (by rw[cL h1];decide)]
 ·exact absurd h1 h
 ·rw[if_pos h1,if_neg (by rw[cL h1];decide)]
theorem gS{a b:T3}(ha:bA a)(hb:bA b):bA (fw a b).1∧bA (fw a b).2:=by
 unfold fw;split
 ·exact⟨ha,hb⟩
 ·exact⟨hb,ha⟩
theorem DF{l r:T3×T3}(l1:bA l.1)(l2:bA l.2)(r1:bA r.1)(r2:bA r.2):jt r l=jt l r:=by
 have e1:(if aM r.1 l.1=true then l.1 else r.1)=(if aM l.1 r.1=true then r.1 else l.1):=by
  rcases iA l1 r1 with h|h|h
  ·rw[if_pos h,if_neg (by rw[cL h];decide)]
  ·rw[h]
  ·rw[if_pos h,if_neg (by rw[cL h];decide)]
 have e2:(if aM r.2 l.2=true then r.2 else l.2)=(if aM l.2 r.2=true then l.2 else r.2):=by
  rcases iA l2 r2 with h|h|h
  ·rw[if_pos h,if_neg (by rw[cL h];decide)]
  ·rw[h]
  ·rw[if_pos h,if_neg (by rw[cL h];decide)]
 unfold jt
 dsimp only
 rw[e1,e2]
theorem kz{n:Int}:sgn n=0↔n=0:=⟨j7,fun h=>by rw[h];rfl⟩
theorem BN(n:Int):(0<n∧sgn n=1)∨(n=0∧sgn n=0)∨(n<0∧sgn n= -1):=by
 unfold sgn
 split
 ·omega
 ·split<;>omega
theorem iB(x y:Int): 0<sgn x*sgn y↔(0<x∧0<y)∨(x<0∧y<0):=by
 rcases BN x with⟨h1,e1⟩|⟨h1,e1⟩|⟨h1,e1⟩<;>rcases BN y with⟨h2,e2⟩|⟨h2,e2⟩|⟨h2,e2⟩<;>rw[e1,e2]<;>omega
theorem tQ(a b c d:T3):c.2.2*aG a b d - d.2.2*aG a b c=mW a b c d:=O_ ..
theorem bQ(a b c d:T3):b.2.2*aG c d a - a.2.2*aG c d b=mW a b c d:=Pa ..
theorem rJ(a b c:T3):aG b a c= - aG a b c:=FK ..
theorem BO(a b c d:T3):mX c d a b= - mX a b c d∧mY c d a b= - mY a b c d∧mW c d a b= - mW a b c d:=LN ..
theorem oX{a b c d:T3}(ha: 0<a.2.2)(hb: 0<b.2.2)(fO:(cB a b).1≠0∨(cB a b).2≠0)(h1:aG a b c=0)(h2:aG a b d=0):aG c d a=0∧aG c d b=0:=by
 have e:mW a b c d=0:=by rw[←tQ,h1,h2];omega
 have k:=bQ a b c d
 rw[e]at k
 -- det(c,d,a) times AR way from a to b
 have z1:aG c d a*(cB a b).1=0:=by
  have:aG c d a*(cB a b).1=aG a b c*(a.1*d.2.2 - d.1*a.2.2)*1+aG a b d*(c.1*a.2.2 - a.1*c.2.2):=by
   unfold aG det cB;dsimp only;grind
  rw[this,h1,h2];omega
 have z2:aG c d a*(cB a b).2=0:=by
  have:aG c d a*(cB a b).2=aG a b c*(a.2.1*d.2.2 - d.2.1*a.2.2)+aG a b d*(c.2.1*a.2.2 - a.2.1*c.2.2):=by
   unfold aG det cB;dsimp only;grind
  rw[this,h1,h2];omega
 have r0:aG c d a=0:=by
  rcases fO with g|g
  ·exact(Int.mul_eq_zero.mp z1).resolve_right g
  ·exact(Int.mul_eq_zero.mp z2).resolve_right g
 refine⟨r0,?_⟩
 rw[r0]at k
 have:a.2.2*aG c d b=0:=by omega
 exact(Int.mul_eq_zero.mp this).resolve_left (by omega)
theorem vp{a b:T3}(ha:bA a)(hb:bA b)(h:a≠b):(cB a b).1≠0∨(cB a b).2≠0:=by
 by_cases h1:(cB a b).1=0
 ·by_cases h2:(cB a b).2=0
  ·exfalso
   refine h (wU ha hb ?_ ?_)
   ·rw[←Bool.not_eq_true,js]
    simp only[cB]at h1 h2;omega
   ·rw[←Bool.not_eq_true,js]
    simp only[cB]at h1 h2;omega
  ·exact .inr h2
 ·exact .inl h1
theorem Jm{c d P Q M:Int}(hc: 0<c)(hd: 0<d)(e:c*Q - d*P=M):(M=0→¬((0<P∧0<Q)∨(P<0∧Q<0))→P=0∧Q=0)∧(0<M→¬((0<P∧0<Q)∨(P<0∧Q<0))→P≤0∧0≤Q)∧(M<0→¬((0<P∧0<Q)∨(P<0∧Q<0))→0≤P∧Q≤0):=by
 have s1:=jb (s:=Q) hc rfl
 have s2:=jb (s:=P) hd rfl
 generalize c*Q=x at*
 generalize d*P=y at*
 rcases pV P with h1|h1|h1<;>rcases pV Q with h2|h2|h2<;>refine⟨fun _ _=>?_,fun _ _=>?_,fun _ _=>?_⟩<;>omega
theorem oY{a b c d:T3}(hc: 0<c.2.2)(hd: 0<d.2.2)(h1:¬(sgn (aG a b c)=0∧sgn (aG a b d)=0))(h2:¬0<sgn (aG a b c)*sgn (aG a b d)):mW a b c d≠0:=by
 intro e
 rw[iB]at h2
 rw[kz,kz]at h1
 exact h1 ((Jm hc hd (tQ a b c d)).1 e h2)
theorem BP{x y w:Int}(h:w≠0):spT (-x) (-y) (-w)=spT x y w:=by
 obtain⟨e1,e2,e3⟩:=FL (x:=x) (y:=y) h
 unfold spT;rw[e1,e2,e3]
theorem Jn{a b c d:T3}(ha:bA a)(hb:bA b)(hc:bA c)(hd:bA d)(h1:a≠b)(h2:c≠d):cm c d a b=cm a b c d:=by
 have Tv:(sgn (aG c d a)=0∧sgn (aG c d b)=0)↔(sgn (aG a b c)=0∧sgn (aG a b d)=0):=by
  simp only[kz]
  exact⟨fun h=>oX hc.pos hd.pos (vp hc hd h2) h.1 h.2,fun h=>oX ha.pos hb.pos (vp ha hb h1) h.1 h.2⟩
 unfold cm
 by_cases g:sgn (aG a b c)=0∧sgn (aG a b d)=0
 ·rw[if_pos g,if_pos (Tv.mpr g)]
  exact DF (gS ha hb).1 (gS ha hb).2 (gS hc hd).1 (gS hc hd).2
 ·rw[if_neg g,if_neg (fun z=>g (Tv.mp z))]
  by_cases k: 0<sgn (aG a b c)*sgn (aG a b d)∨0<sgn (aG c d a)*sgn (aG c d b)
  ·rw[if_pos k,if_pos (Or.comm.mp k)]
  ·rw[if_neg k,if_neg (fun z=>k (Or.comm.mp z))]
   obtain⟨e1,e2,e3⟩:=BO a b c d
   rw[e1,e2,e3,BP (oY hc.pos hd.pos g (fun z=>k (.inl z)))]
theorem yz{a b c d:T3}(ha: 0<a.2.2)(hb: 0<b.2.2)(hm:mW a b c d≠0)(hR:¬((0<aG c d a∧0<aG c d b)∨(aG c d a<0∧aG c d b<0))):ef (spT (mX a b c d) (mY a b c d) (mW a b c d)) a b=true:=by
 have pw:=sw_pos (x:=mX a b c d) (y:=mY a b c d) hm
 unfold ef
 rw[BM (p:=spT (mX a b c d) (mY a b c d) (mW a b c d)) pw ha hb]
 -- in V5 of AR turns
 have x1:=vd (mX a b c d) (mY a b c d) (mW a b c d)
 have x2:=ve (mX a b c d) (mY a b c d) (mW a b c d)
 have x3:=oN (mX a b c d) (mY a b c d) (mW a b c d)
 have g0:=qT (x:=mX a b c d) (y:=mY a b c d) hm
 have cx:mX a b c d=aG c d a*b.1 - aG c d b*a.1:=(HG ..).symm
 have V6:mY a b c d=aG c d a*b.2.1 - aG c d b*a.2.1:=(HH ..).symm
 have cw:mW a b c d=aG c d a*b.2.2 - aG c d b*a.2.2:=(HI ..).symm
 unfold spT
 generalize sx (mX a b c d) (mY a b c d) (mW a b c d)=X at*
 generalize sy (mX a b c d) (mY a b c d) (mW a b c d)=Y at*
 generalize sw (mX a b c d) (mY a b c d) (mW a b c d)=W at*
 generalize jC (mX a b c d) (mY a b c d) (mW a b c d)=g at*
 rw[cx]at x1
 rw[V6]at x2
 rw[cw]at x3 hm
 generalize aG c d a=R at*
 generalize aG c d b=S at*
 rw[wV]
 obtain⟨a0,a1,A⟩:=a
 obtain⟨b0,b1,B⟩:=b
 dsimp only[cB]at*
 -- times g
 have u0:g*(a0*W - X*A)=R*(a0*B - b0*A):=by
  have:g*(a0*W - X*A)=a0*(g*W) - (g*X)*A:=by grind
  rw[this,x1,x3];grind
 have u1:g*(a1*W - Y*A)=R*(a1*B - b1*A):=by
  have:g*(a1*W - Y*A)=a1*(g*W) - (g*Y)*A:=by grind
  rw[this,x2,x3];grind
 have v0:g*(b0*W - X*B)=S*(a0*B - b0*A):=by
  have:g*(b0*W - X*B)=b0*(g*W) - (g*X)*B:=by grind
  rw[this,x1,x3];grind
 have v1:g*(b1*W - Y*B)=S*(a1*B - b1*A):=by
  have:g*(b1*W - Y*B)=b1*(g*W) - (g*Y)*B:=by grind
  rw[this,x2,x3];grind
 have gg: 0<g*g:=by
  rcases pV g with h|h|h
  ·exact Int.mul_pos h h
  ·exact absurd h g0
  ·exact Int.mul_pos_of_neg_of_neg h h
 have rs:R*S≤0:=by
  have:=Je R S
  obtain⟨p1,p2,p3,p4,p5,p6⟩:=this
  rcases pV R with h|h|h<;>rcases pV S with h'|h'|h'<;>first|omega|(have:=p3 h h';omega)|(have:=p4 h h';omega)|(have:=p5 h;omega)|(have:=p6 h';omega)
 have Tw:∀z:Int,0≤z*z:=fun z=>by
  rcases pV z with h|h|h
  ·exact Int.le_of_lt (Int.mul_pos h h)
  ·rw[h];decide
  ·exact Int.le_of_lt (Int.mul_pos_of_neg_of_neg h h)
 refine⟨?_,?_,?_⟩
 ·have e:g*g*tp (a0*W - X*A,a1*W - Y*A) (b0*W - X*B,b1*W - Y*B)=0:=by
   have:g*g*tp (a0*W - X*A,a1*W - Y*A) (b0*W - X*B,b1*W - Y*B)=(g*(a0*W - X*A))*(g*(b1*W - Y*B)) - (g*(a1*W - Y*A))*(g*(b0*W - X*B)):=by unfold tp;grind
   rw[this,u0,u1,v0,v1];grind
  exact(Int.mul_eq_zero.mp e).resolve_left (by omega)
 ·have e:g*g*((a0*W - X*A)*(b0*W - X*B))=R*S*((a0*B - b0*A)*(a0*B - b0*A)):=by
   have:g*g*((a0*W - X*A)*(b0*W - X*B))=(g*(a0*W - X*A))*(g*(b0*W - X*B)):=by grind
   rw[this,u0,v0];grind
  have n:R*S*((a0*B - b0*A)*(a0*B - b0*A))≤0:=Int.mul_nonpos_of_nonpos_of_nonneg rs (Tw _)
  have z:=jb (s:=(a0*W - X*A)*(b0*W - X*B)) gg e
  omega
 ·have e:g*g*((a1*W - Y*A)*(b1*W - Y*B))=R*S*((a1*B - b1*A)*(a1*B - b1*A)):=by
   have:g*g*((a1*W - Y*A)*(b1*W - Y*B))=(g*(a1*W - Y*A))*(g*(b1*W - Y*B)):=by grind
   rw[this,u1,v1];grind
  have n:R*S*((a1*B - b1*A)*(a1*B - b1*A))≤0:=Int.mul_nonpos_of_nonpos_of_nonneg rs (Tw _)
  have z:=jb (s:=(a1*W - Y*A)*(b1*W - Y*B)) gg e
  omega
theorem wW(a b:T3):aG a b a=0:=by unfold aG det;grind
theorem wX(a b:T3):aG a b b=0:=by unfold aG det;grind
def le(p q:T3):Prop:=aM q p=false
theorem le_trans{p q r:T3}(hp:bA p)(hq:bA q)(hr:bA r)(h1:le p q)(h2:le q r):le p r:=by
 unfold le at*
 cases h:aM r p
 ·rfl
 ·rcases iA hq hr with g|g|g
  ·have:=m9 hq hr hp g h;rw[h1]at this;cases this
  ·rw[g]at h1;rw[h1]at h;cases h
  ·rw[h2]at g;cases g
theorem j_{p q:T3}(h:aM p q=true):le p q:=cL h
theorem le_refl(p:T3):le p p:=BL p
theorem cI{p a b:T3}(h:aG a b p=0):ef p a b=true↔le (fw a b).1 p∧le p (fw a b).2:=by
 have h':det a.1 a.2.1 a.2.2 b.1 b.2.1 b.2.2 p.1 p.2.1 p.2.2=0:=h
 unfold ef wb
 rw[if_pos h']
 unfold fw le
 have e:∀x y:Bool,(!x&&!y)=true↔x=false∧y=false:=by decide
 by_cases g:aM a b=true
 ·rw[if_pos g,if_pos (show mP a.1 a.2.1 a.2.2 b.1 b.2.1 b.2.2=true from g)];exact e _ _
 ·rw[if_neg g,if_neg (show ¬mP a.1 a.2.1 a.2.2 b.1 b.2.1 b.2.2=true from g)];exact e _ _
theorem Tx{l r:T3}(hl:bA l)(hr:bA r):le l (if aM l r=true then r else l)∧le r (if aM l r=true then r else l)∧((if aM l r=true then r else l)=l∨(if aM l r=true then r else l)=r):=by
 by_cases h:aM l r=true
 ·rw[if_pos h];exact⟨j_ h,le_refl _,.inr rfl⟩
 ·rw[if_neg h];exact⟨le_refl _,by unfold le;simpa using h,.inl rfl⟩
theorem TB{l r:T3}(hl:bA l)(hr:bA r):le (if aM l r=true then l else r) l∧le (if aM l r=true then l else r) r∧((if aM l r=true then l else r)=l∨(if aM l r=true then l else r)=r):=by
 by_cases h:aM l r=true
 ·rw[if_pos h];exact⟨le_refl _,j_ h,.inl rfl⟩
 ·rw[if_neg h];exact⟨by unfold le;simpa using h,le_refl _,.inr rfl⟩
theorem vq(a b:T3):((fw a b).1=a∨(fw a b).1=b)∧((fw a b).2=a∨(fw a b).2=b):=by
 unfold fw;split
 ·exact⟨.inl rfl,.inr rfl⟩
 ·exact⟨.inr rfl,.inl rfl⟩
def Told(a b c d p:T3):Prop:=bA p∧ef p a b=true∧ef p c d=true
theorem Gf{a b c d:T3}(ha:bA a)(hb:bA b)(hc:bA c)(hd:bA d)(h1:a≠b)(h2:c≠d)(g1:aG a b c=0)(g2:aG a b d=0):
  (∀p,jt (fw a b) (fw c d)= .lq p→Told a b c d p)∧(∀p q,jt (fw a b) (fw c d)= .fW p q→Told a b c d p∧Told a b c d q):=by
 obtain⟨g3,g4⟩:=oX ha.pos hb.pos (vp ha hb h1) g1 g2
 obtain⟨l1,l2⟩:=gS ha hb
 obtain⟨r1,r2⟩:=gS hc hd
 obtain⟨m1,m2,m3⟩:=Tx l1 r1
 obtain⟨n1,n2,n3⟩:=TB l2 r2
 obtain⟨f1,f2⟩:=vq a b
 obtain⟨e1,e2⟩:=vq c d
 have rowOf:∀p,(p=a∨p=b)∨(p=c∨p=d)→aG a b p=0∧aG c d p=0∧bA p:=by
  rintro p ((rfl|rfl)|(rfl|rfl))
  ·exact⟨wW _ _,g3,ha⟩
  ·exact⟨wX _ _,g4,hb⟩
  ·exact⟨g1,wW _ _,hc⟩
  ·exact⟨g2,wX _ _,hd⟩
 unfold jt
 dsimp only
 generalize (if aM (fw a b).1 (fw c d).1=true then(fw c d).1 else(fw a b).1)=P at*
 generalize (if aM (fw a b).2 (fw c d).2=true then(fw a b).2 else(fw c d).2)=Q at*
 have rp:=rowOf P (by rcases m3 with z|z<;>rw[z];exact .inl f1;exact .inr e1)
 have rq:=rowOf Q (by rcases n3 with z|z<;>rw[z];exact .inl f2;exact .inr e2)
 have key:le P Q→Told a b c d P∧Told a b c d Q:=fun h=>by
  refine⟨⟨rp.2.2,(cI rp.1).mpr ⟨m1,le_trans rp.2.2 rq.2.2 l2 h n1⟩,(cI rp.2.1).mpr ⟨m2,le_trans rp.2.2 rq.2.2 r2 h n2⟩⟩,⟨rq.2.2,(cI rq.1).mpr ⟨le_trans l1 rp.2.2 rq.2.2 m1 h,n1⟩,(cI rq.2.1).mpr ⟨le_trans r1 rp.2.2 rq.2.2 m2 h,n2⟩⟩⟩
 refine⟨fun p hp=>?_,fun p q hp=>?_⟩
 ·split at hp
  ·rename_i h
   cases hp
   exact(key (by rw[h];exact le_refl _)).1
  ·split at hp<;>cases hp
 ·split at hp
  ·cases hp
  ·split at hp
   ·rename_i h
    cases hp
    exact key (j_ h)
   ·cases hp
theorem Jo{a b c d:T3}(ha:bA a)(hb:bA b)(hc:bA c)(hd:bA d)(h1:a≠b)(h2:c≠d):
  (∀p,cm a b c d= .lq p→Told a b c d p)∧(∀p q,cm a b c d= .fW p q→Told a b c d p∧Told a b c d q):=by
 unfold cm
 by_cases g:sgn (aG a b c)=0∧sgn (aG a b d)=0
 ·rw[if_pos g]
  exact Gf ha hb hc hd h1 h2 (j7 g.1) (j7 g.2)
 ·rw[if_neg g]
  by_cases k: 0<sgn (aG a b c)*sgn (aG a b d)∨0<sgn (aG c d a)*sgn (aG c d b)
  ·rw[if_pos k]
   exact⟨fun p h=>(by cases h),fun p q h=>(by cases h)⟩
  ·rw[if_neg k]
   have nz:=oY hc.pos hd.pos g (fun z=>k (.inl z))
   refine⟨fun p h=>?_,fun p q h=>by cases h⟩
   cases h
   refine⟨oO nz,yz ha.pos hb.pos nz (fun z=>k (.inr ((iB _ _).mpr z))),?_⟩
   obtain⟨e1,e2,e3⟩:=BO a b c d
   have:=yz (a:=c) (b:=d) (c:=a) (d:=b) hc.pos hd.pos (by rw[e3];omega) (fun z=>k (.inl ((iB _ _).mpr z)))
   rw[e1,e2,e3,BP nz]at this
   exact this
end My
set_option maxHeartbeats 2000000
namespace My
theorem BR{a b c d e:T3}(fO:(cB a b).1≠0∨(cB a b).2≠0)(h1:aG a b c=0)(h2:aG a b d=0)(h3:aG a b e=0):aG c d e=0:=by
 have z1:aG c d e*(cB a b).1=aG a b c*(d.2.2*e.1 - d.1*e.2.2)+aG a b d*(e.2.2*c.1 - e.1*c.2.2)+aG a b e*(c.2.2*d.1 - c.1*d.2.2):=by
  unfold aG det cB;dsimp only;grind
 have z2:aG c d e*(cB a b).2=aG a b c*(d.2.2*e.2.1 - d.2.1*e.2.2)+aG a b d*(e.2.2*c.2.1 - e.2.1*c.2.2)+aG a b e*(c.2.2*d.2.1 - c.2.1*d.2.2):=by
  unfold aG det cB;dsimp only;grind
 rw[h1,h2,h3]at z1 z2
 rcases fO with g|g
 ·exact(Int.mul_eq_zero.mp (show aG c d e*(cB a b).1=0 by omega)).resolve_right g
 ·exact(Int.mul_eq_zero.mp (show aG c d e*(cB a b).2=0 by omega)).resolve_right g
theorem MI{u1 u2 v1 v2 w1 w2:Int}(h0:v1*w2 - v2*w1=0)(h1:v1*w1≤0)(h2:v2*w2≤0):(u1*v2 - u2*v1)*(u1*w2 - u2*w1)≤0:=by
 have hk:v1*w2=v2*w1:=by omega
 have e:(u1*v2 - u2*v1)*(u1*w2 - u2*w1)=u1*u1*(v2*w2)+u2*u2*(v1*w1) - 2*(u1*u2)*(v1*w2):=by grind
 have ek:(v1*w2)*(v1*w2)=(v1*w1)*(v2*w2):=by
  have:(v1*w2)*(v1*w2)=(v1*w2)*(v2*w1):=by rw[←hk]
  rw[this];grind
 rw[e]
 generalize v1*w2=k at*
 generalize v1*w1=A at*
 generalize v2*w2=B at*
 rcases Int.lt_or_eq_of_le h2 with hB|hB
 ·have hs:B*(u1*u1*B+u2*u2*A - 2*(u1*u2)*k)=(u1*B - u2*k)*(u1*B - u2*k):=by
   have:(u1*B - u2*k)*(u1*B - u2*k)=u1*u1*B*B - 2*(u1*u2)*k*B+u2*u2*(k*k):=by grind
   rw[this,ek];grind
  have hq: 0≤(u1*B - u2*k)*(u1*B - u2*k):=by
   rcases Int.le_total 0 (u1*B - u2*k)with h|h
   ·exact Int.mul_nonneg h h
   ·exact Int.mul_nonneg_of_nonpos_of_nonpos h h
  rw[←hs]at hq
  rcases Int.lt_or_le 0 (u1*u1*B+u2*u2*A - 2*(u1*u2)*k)with h|h
  ·have:=Int.mul_neg_of_neg_of_pos hB h
   omega
  ·exact h
 ·subst hB
  have V7:k=0:=by
   have:k*k=0:=by rw[ek];omega
   rcases Int.mul_eq_zero.mp this with h|h<;>exact h
  subst V7
  have: 0≤u2*u2:=by
   rcases Int.le_total 0 u2 with h|h
   ·exact Int.mul_nonneg h h
   ·exact Int.mul_nonneg_of_nonpos_of_nonpos h h
  have:=Int.mul_nonpos_of_nonneg_of_nonpos this h1
  omega
theorem EN(c d r a:T3):r.2.2*aG c d a - a.2.2*aG c d r=tp (cB c d) (cB r a):=by
 unfold aG det tp cB;dsimp only;grind
theorem yA{a b c d r:T3}(ha: 0<a.2.2)(hb: 0<b.2.2)(hr: 0<r.2.2)(h:ef r a b=true)(h0:aG c d r=0):¬((0<aG c d a∧0<aG c d b)∨(aG c d a<0∧aG c d b<0)):=by
 unfold ef at h
 rw[BM hr ha hb,wV]at h
 obtain⟨k0,k1,k2⟩:=h
 have hle:=MI (u1:=(cB c d).1) (u2:=(cB c d).2) (show(cB r a).1*(cB r b).2 - (cB r a).2*(cB r b).1=0 from k0) k1 k2
 have e1:=EN c d r a
 have e2:=EN c d r b
 rw[h0]at e1 e2
 have Jg:r.2.2*aG c d a=tp (cB c d) (cB r a):=by omega
 have kj:r.2.2*aG c d b=tp (cB c d) (cB r b):=by omega
 have Yn:(r.2.2*aG c d a)*(r.2.2*aG c d b)≤0:=by rw[Jg,kj];exact hle
 rintro(⟨p,q⟩|⟨p,q⟩)
 ·have:=Int.mul_pos (Int.mul_pos hr p) (Int.mul_pos hr q)
  omega
 ·have:=Int.mul_pos_of_neg_of_neg (Int.mul_neg_of_pos_of_neg hr p) (Int.mul_neg_of_pos_of_neg hr q)
  omega
def ju(s t:T3×T3):Prop:=aG s.1 s.2 t.1=0∧aG s.1 s.2 t.2=0
structure Sd(s:T3×T3):Prop where
 l1:bA s.1
 l2:bA s.2
 ne:s.1≠s.2
def On(p:T3)(s:T3×T3):Prop:=bA p∧ef p s.1 s.2=true
theorem On.dt{p:T3}{s:T3×T3}(h:On p s):aG s.1 s.2 p=0:=by
 have:=h.2
 unfold ef wb at this
 by_cases g:det s.1.1 s.1.2.1 s.1.2.2 s.2.1 s.2.2.1 s.2.2.2 p.1 p.2.1 p.2.2=0
 ·exact g
 ·rw[if_neg g]at this
  cases this
theorem Sd.cB{s:T3×T3}(h:Sd s):(cB s.1 s.2).1≠0∨(My.cB s.1 s.2).2≠0:=vp h.l1 h.l2 h.ne
theorem ju.symm{s t:T3×T3}(hs:Sd s)(h:ju s t):ju t s:=oX hs.l1.pos hs.l2.pos hs.cB h.1 h.2
theorem ju.trans{s t u:T3×T3}(hs:Sd s)(ht:Sd t)(h:ju s t)(k:ju t u):ju s u:=by
 have h':=h.symm hs
 exact⟨BR ht.cB h'.1 h'.2 k.1,BR ht.cB h'.1 h'.2 k.2⟩
def eP(s t:T3×T3):DE:=cm s.1 s.2 t.1 t.2
def cs:DE→List T3
 |.none=>[]
 |.lq p=>[p]
 |.fW p q=>[p,q]
theorem wY{s t:T3×T3}(hs:Sd s)(ht:Sd t){p:T3}(h:p∈cs (eP s t)):On p s∧On p t:=by
 obtain⟨h1,h2⟩:=Jo hs.l1 hs.l2 ht.l1 ht.l2 hs.ne ht.ne
 unfold eP at h
 cases e:cm s.1 s.2 t.1 t.2 with
 |none=>rw[e]at h;cases h
 |lq q=>
  rw[e]at h
  cases List.mem_singleton.mp h
  obtain⟨l,a,b⟩:=h1 p e
  exact⟨⟨l,a⟩,⟨l,b⟩⟩
 |fW q r=>
  rw[e]at h
  obtain⟨⟨l,a,b⟩,⟨l',a',b'⟩⟩:=h2 q r e
  rcases List.mem_cons.mp h with rfl|h
  ·exact⟨⟨l,a⟩,⟨l,b⟩⟩
  ·cases List.mem_singleton.mp h
   exact⟨⟨l',a'⟩,⟨l',b'⟩⟩
theorem EO{s t:T3×T3}(hs:Sd s)(ht:Sd t):eP t s=eP s t:=Jn hs.l1 hs.l2 ht.l1 ht.l2 hs.ne ht.ne
theorem tq{s t:T3×T3}(hs:Sd s)(ht:Sd t)(hn:¬ju s t){r:T3}(h1:On r s)(h2:On r t):r∈cs (eP s t):=by
 have g:¬(sgn (aG s.1 s.2 t.1)=0∧sgn (aG s.1 s.2 t.2)=0):=fun z=>hn ⟨j7 z.1,j7 z.2⟩
 have k1:=yA ht.l1.pos ht.l2.pos h1.1.pos h2.2 h1.dt
 have k2:=yA hs.l1.pos hs.l2.pos h1.1.pos h1.2 h2.dt
 have k:¬(0<sgn (aG s.1 s.2 t.1)*sgn (aG s.1 s.2 t.2)∨0<sgn (aG t.1 t.2 s.1)*sgn (aG t.1 t.2 s.2)):=by
  rw[iB,iB]
  rintro(z|z)
  ·exact k1 z
  ·exact k2 z
 have e:eP s t= .lq (spT (mX s.1 s.2 t.1 t.2) (mY s.1 s.2 t.1 t.2) (mW s.1 s.2 t.1 t.2)):=by
  unfold eP cm
  rw[if_neg g,if_neg k]
 have ho:=wY hs ht (p:=spT (mX s.1 s.2 t.1 t.2) (mY s.1 s.2 t.1 t.2) (mW s.1 s.2 t.1 t.2)) (by rw[e];exact List.mem_singleton_self _)
 rw[e]
 generalize spT (mX s.1 s.2 t.1 t.2) (mY s.1 s.2 t.1 t.2) (mW s.1 s.2 t.1 t.2)=q at*
 obtain⟨o1,o2⟩:=ho
 rcases Decidable.em (r=q)with h|h
 ·rw[h];exact List.mem_singleton_self _
 ·exfalso
  have V8:Sd (r,q):=⟨h1.1,o1.1,h⟩
  have a1:ju s (r,q):=⟨h1.dt,o1.dt⟩
  have a2:ju t (r,q):=⟨h2.dt,o2.dt⟩
  exact hn (a1.trans hs V8 (a2.symm ht))
theorem mz(a b:T3){r:T3}(h:r=a∨r=b):r=(fw a b).1∨r=(fw a b).2:=by
 unfold fw
 split
 ·exact h
 ·exact h.symm
theorem rK{p q:T3}(hp:bA p)(hq:bA q)(h1:le p q)(h2:le q p):p=q:=wU hp hq h2 h1
theorem Jp{P Q:T3}(hP:bA P)(hQ:bA Q)(h:le P Q):∀r,(r=P∨r=Q)→r∈cs (if P=Q then .lq P else if aM P Q=true then .fW P Q else .none):=by
 intro r hr
 by_cases e:P=Q
 ·rw[if_pos e]
  subst e
  rcases hr with rfl|rfl<;>exact List.mem_singleton_self _
 ·rw[if_neg e]
  have:aM P Q=true:=by
   rcases iA hP hQ with g|g|g
   ·exact g
   ·exact absurd g e
   ·unfold le at h;rw[h]at g;cases g
  rw[if_pos this]
  rcases hr with rfl|rfl
  ·exact List.mem_cons_self
  ·exact List.mem_cons_of_mem _ (List.mem_singleton_self _)
theorem ER{s t:T3×T3}(hs:Sd s)(ht:Sd t)(hc:ju s t){r:T3}(h1:On r s)(h2:On r t)(he:r=s.1∨r=s.2∨r=t.1∨r=t.2):r∈cs (eP s t):=by
 have e:eP s t=jt (fw s.1 s.2) (fw t.1 t.2):=by
  unfold eP cm
  rw[if_pos ⟨kz.mpr hc.1,kz.mpr hc.2⟩]
 obtain⟨a1,a2⟩:=(cI h1.dt).mp h1.2
 obtain⟨b1,b2⟩:=(cI h2.dt).mp h2.2
 obtain⟨l1,l2⟩:=gS hs.l1 hs.l2
 obtain⟨r1,r2⟩:=gS ht.l1 ht.l2
 obtain⟨m1,m2,m3⟩:=Tx l1 r1
 obtain⟨n1,n2,n3⟩:=TB l2 r2
 have hr:(r=(fw s.1 s.2).1∨r=(fw s.1 s.2).2)∨(r=(fw t.1 t.2).1∨r=(fw t.1 t.2).2):=by
  rcases he with h|h|h|h
  ·exact .inl (mz _ _ (.inl h))
  ·exact .inl (mz _ _ (.inr h))
  ·exact .inr (mz _ _ (.inl h))
  ·exact .inr (mz _ _ (.inr h))
 rw[e]
 unfold jt
 dsimp only
 generalize (if aM (fw s.1 s.2).1 (fw t.1 t.2).1=true then(fw t.1 t.2).1 else(fw s.1 s.2).1)=P at*
 generalize (if aM (fw s.1 s.2).2 (fw t.1 t.2).2=true then(fw s.1 s.2).2 else(fw t.1 t.2).2)=Q at*
 have hP:bA P:=by rcases m3 with h|h<;>rw[h]<;>assumption
 have hQ:bA Q:=by rcases n3 with h|h<;>rw[h]<;>assumption
 have pr:le P r:=by rcases m3 with h|h<;>rw[h]<;>assumption
 have rq:le r Q:=by rcases n3 with h|h<;>rw[h]<;>assumption
 refine Jp hP hQ (le_trans hP h1.1 hQ pr rq) r ?_
 rcases hr with(h|h)|(h|h)
 ·exact .inl (rK h1.1 hP (by rw[h];exact m1) pr)
 ·exact .inr (rK h1.1 hQ rq (by rw[h];exact n1))
 ·exact .inl (rK h1.1 hP (by rw[h];exact m2) pr)
 ·exact .inr (rK h1.1 hQ rq (by rw[h];exact n2))
theorem BS{s t:T3×T3}(hc:ju s t){r:T3}(h:r∈cs (eP s t)):r=s.1∨r=s.2∨r=t.1∨r=t.2:=by
 have e:eP s t=jt (fw s.1 s.2) (fw t.1 t.2):=by
  unfold eP cm
  rw[if_pos ⟨kz.mpr hc.1,kz.mpr hc.2⟩]
 rw[e]at h
 obtain⟨f1,f2⟩:=vq s.1 s.2
 obtain⟨g1,g2⟩:=vq t.1 t.2
 have hP:(fun x=>x=s.1∨x=s.2∨x=t.1∨x=t.2) (if aM (fw s.1 s.2).1 (fw t.1 t.2).1=true then(fw t.1 t.2).1 else(fw s.1 s.2).1):=by
  dsimp only
  split
  ·exact .inr (.inr g1)
  ·rcases f1 with h|h
   ·exact .inl h
   ·exact .inr (.inl h)
 have hQ:(fun x=>x=s.1∨x=s.2∨x=t.1∨x=t.2) (if aM (fw s.1 s.2).2 (fw t.1 t.2).2=true then(fw s.1 s.2).2 else(fw t.1 t.2).2):=by
  dsimp only
  split
  ·rcases f2 with h|h
   ·exact .inl h
   ·exact .inr (.inl h)
  ·exact .inr (.inr g2)
 unfold jt at h
 dsimp only at h
 generalize (if aM (fw s.1 s.2).1 (fw t.1 t.2).1=true then(fw t.1 t.2).1 else(fw s.1 s.2).1)=P at*
 generalize (if aM (fw s.1 s.2).2 (fw t.1 t.2).2=true then(fw s.1 s.2).2 else(fw t.1 t.2).2)=Q at*
 split at h
 ·cases List.mem_singleton.mp h
  exact hP
 ·split at h
  ·rcases List.mem_cons.mp h with rfl|h
   ·exact hP
   ·cases List.mem_singleton.mp h
    exact hQ
  ·cases h
def mB(S:List (T3×T3))(s:T3×T3)(p:T3):Prop:=p=s.1∨p=s.2∨∃t∈S,t≠s∧p∈cs (eP s t)
theorem vt{s:T3×T3}(hs:Sd s){p:T3}(h:p=s.1∨p=s.2):On p s:=by
 have l1:=(gS hs.l1 hs.l2).1
 have l2:=(gS hs.l1 hs.l2).2
 have hle:le (fw s.1 s.2).1 (fw s.1 s.2).2:=by
  unfold fw
  split
  ·rename_i h;exact j_ h
  ·rename_i h;unfold le;simpa using h
 rcases h with rfl|rfl
 ·refine⟨hs.l1,(cI (wW _ _)).mpr ?_⟩
  rcases mz s.1 s.2 (.inl rfl)with h|h
  ·rw[←h]at hle ⊢;exact⟨le_refl _,hle⟩
  ·rw[←h]at hle ⊢;exact⟨hle,le_refl _⟩
 ·refine⟨hs.l2,(cI (wX _ _)).mpr ?_⟩
  rcases mz s.1 s.2 (.inr rfl)with h|h
  ·rw[←h]at hle ⊢;exact⟨le_refl _,hle⟩
  ·rw[←h]at hle ⊢;exact⟨hle,le_refl _⟩
theorem mB.on{S:List (T3×T3)}{s:T3×T3}(hS:∀t∈S,Sd t)(hs:Sd s){p:T3}(h:mB S s p):On p s:=by
 rcases h with h|h|⟨t,ht,_,h⟩
 ·exact vt hs (.inl h)
 ·exact vt hs (.inr h)
 ·exact(wY hs (hS t ht) h).1
theorem mB.move{S:List (T3×T3)}{s t:T3×T3}(hS:∀t∈S,Sd t)(hs:s∈S)(ht:t∈S){p:T3}(h:mB S s p)(ho:On p t):mB S t p:=by
 have ds:=hS s hs
 have dt:=hS t ht
 have hp:=h.on hS ds
 rcases Decidable.em (s=t)with e|ne
 ·rw[←e];exact h
 by_cases hc:ju s t
 ·have aW:=hc.symm ds
  have vw:(p=s.1∨p=s.2)→mB S t p:=fun he=>.inr (.inr ⟨s,hs,ne,ER dt ds aW ho hp (by rcases he with h|h;exact .inr (.inr (.inl h));exact .inr (.inr (.inr h)))⟩)
  rcases h with h|h|⟨u,hu,un,h⟩
  ·exact vw (.inl h)
  ·exact vw (.inr h)
  ·have du:=hS u hu
   have TC:=(wY ds du h).2
   by_cases Qg:ju s u
   ·rcases BS Qg h with h|h|h
    ·exact vw (.inl h)
    ·exact vw (.inr h)
    ·rcases Decidable.em (u=t)with e|ut
     ·subst e
      rcases h with h|h
      ·exact .inl h
      ·exact .inr (.inl h)
     ·exact .inr (.inr ⟨u,hu,ut,ER dt du (aW.trans dt ds Qg) ho TC (.inr (.inr h))⟩)
   ·have hn:¬ju t u:=fun z=>Qg (hc.trans ds dt z)
    rcases Decidable.em (u=t)with e|ut
    ·subst e
     exact absurd ⟨wW _ _,wX _ _⟩ hn
    ·exact .inr (.inr ⟨u,hu,ut,tq dt du hn ho TC⟩)
 ·exact .inr (.inr ⟨s,hs,ne,tq dt ds (fun z=>hc (z.symm dt)) ho hp⟩)
end My
namespace Qm
open PySem
section
variable{σ:Env}{c c':Cells}{d:D}{i j:Int}{b:Bool}{xs ys:List D}
@[simp] theorem V9:eC d σ c=some (d,c):=rfl
@[simp] theorem V_{k:Nat}:eV k σ c=(σ[k]?.join).bind fun d=>some (d,c):=rfl
@[simp] theorem Wa{g:G1}{a:XE}:e1 g a σ c=(a σ c).bind fun p=>g p.1 p.2:=rfl
@[simp] theorem Wb{g:G2}{a b:XE}:e2 g a b σ c=(a σ c).bind fun p=>(b σ p.2).bind fun q=>g p.1 q.1 q.2:=rfl
@[simp] theorem TF:mR (.bl b)=some b:=rfl
@[simp] theorem TH:qZ (.int i)=some i:=rfl
@[simp] theorem Qh{a b:XE}:qX a b σ c=(a σ c).bind fun p=>(mR p.1).bind fun k=>if k=true then b σ p.2 else some (.bl false,p.2):=rfl
@[simp] theorem TJ{a b:XE}:LW a b σ c=(a σ c).bind fun p=>(mR p.1).bind fun k=>if k=true then some (.bl true,p.2)else b σ p.2:=rfl
@[simp] theorem Qi{a:XE}:ua a σ c=(a σ c).bind fun p=>(mR p.1).bind fun k=>some (.bl (!k),p.2):=rfl
@[simp] theorem TK{t:XT}{a b:XE}:x4 t a b σ c=(t σ c).bind fun p=>if p.1=true then a σ p.2 else b σ p.2:=rfl
@[simp] theorem Qj:ag σ c=some ([],c):=rfl
@[simp] theorem MJ{a:XE}{r:XA}:ae a r σ c=(a σ c).bind fun p=>(r σ p.2).bind fun q=>some (p.1::q.1,q.2):=rfl
@[simp] theorem Qk{a:XA}:eD a σ c=(a σ c).bind fun p=>if p.1.length≤cE then some (.tup p.1,p.2)else none:=rfl
@[simp] theorem Ql{a:XA}:fH a σ c=(a σ c).bind fun p=>if p.1.length≤cE then some (.ref p.2.length,p.2++[.lst p.1])else none:=rfl
@[simp] theorem MK{F:FN}{ds:List D}{a:XA}:ao F ds a σ c=(a σ c).bind fun p=>F (p.1++ds) p.2:=rfl
@[simp] theorem Wc{F:FN}{a:XA}:eB F a σ c=(a σ c).bind fun p=>F p.1 p.2:=rfl
@[simp] theorem Wd{g:D→FN}{o:XE}{a:XA}:eM g o a σ c=(o σ c).bind fun p=>(bq p.1 p.2).bind fun _=>(a σ p.2).bind fun q=>g p.1 q.1 q.2:=rfl
@[simp] theorem ML:eK σ c=some (none,c):=rfl
@[simp] theorem TL{g}{a:XE}{lo hi:XO}:kO g a lo hi σ c=(a σ c).bind fun p=>(lo σ p.2).bind fun l=>(hi σ l.2).bind fun h=>g p.1 l.1 h.1 h.2:=rfl
@[simp] theorem We{a:XE}:tV a σ c=(a σ c).bind fun p=>(mR p.1).bind fun k=>some (k,p.2):=rfl
@[simp] theorem Qn{a b:XT}:jL a b σ c=(a σ c).bind fun p=>if p.1=true then b σ p.2 else some (false,p.2):=rfl
@[simp] theorem TM{a b:XT}:lT a b σ c=(a σ c).bind fun p=>if p.1=true then some (true,p.2)else b σ p.2:=rfl
@[simp] theorem Qo{a:XT}:fE a σ c=(a σ c).bind fun p=>some (!p.1,p.2):=rfl
@[simp] theorem Qp:dN σ c=some (true,c):=rfl
@[simp] theorem Jq{g h:G2}{a b e:XE}:LX g h a b e σ c=(a σ c).bind fun p=>(b σ p.2).bind fun q=>(g p.1 q.1 q.2).bind fun z=>(mR z.1).bind fun k=>if k=true then(e σ z.2).bind fun u=>h q.1 u.1 u.2 else some (.bl false,z.2):=rfl
@[simp] theorem Qq:bF σ c=some (.nx,σ,c):=rfl
@[simp] theorem Qr{k:Nat}{e:XE}:aR k e σ c=(e σ c).bind fun p=>some (.nx,σ.set k (some p.1),p.2):=rfl
@[simp] theorem Qs{e:XE}{g:XG}:mf e g σ c=(e σ c).bind fun p=>(g p.1 σ p.2).bind fun q=>some (.nx,q.1,q.2):=rfl
@[simp] theorem Qt{is:List Nat}{a:XA}:qY is a σ c=(a σ c).bind fun p=>if p.1.length=is.length then some (.nx,(is.zip p.1).foldl (fun σ q=>σ.set q.1 (some q.2)) σ,p.2)else none:=rfl
@[simp] theorem TN{t:XT}{a b:XS}:cG t a b σ c=(t σ c).bind fun p=>if p.1=true then a σ p.2 else b σ p.2:=rfl
@[simp] theorem Qu{e:XE}:aS e σ c=(e σ c).bind fun p=>some (.rt p.1,σ,p.2):=rfl
@[simp] theorem MM{e:XE}:cO e σ c=(e σ c).bind fun p=>some (.nx,σ,p.2):=rfl
@[simp] theorem ES{k:Nat}:av k d σ c=some (σ.set k (some d),c):=rfl
@[simp] theorem Qv:cZ [] σ c=some (σ,c):=rfl
@[simp] theorem MN{g:XG}{r:xZ}:aQ g r (d::xs) σ c=(g d σ c).bind fun p=>r xs p.1 p.2:=rfl
@[simp] theorem Qw{n:Nat}{g:xZ}:c_ n g (.tup xs) σ c=if xs.length=n then g xs σ c else none:=rfl
def sq(b:XS)(p:Fl×Env×Cells):Option (Fl×Env×Cells):=match p.1 with
 |.nx=>b p.2.1 p.2.2
 |_=>some p
@[simp] theorem Qx{a b:XS}:ay a b σ c=(a σ c).bind (sq b):=rfl
@[simp] theorem Qy{b:XS}:sq b (.nx,σ,c)=b σ c:=rfl
@[simp] theorem Qz{b:XS}:sq b (.rt d,σ,c)=some (.rt d,σ,c):=rfl
def fin(p:Fl×Env×Cells):Option (D×Cells):=match p.1 with
 |.rt d=>some (d,p.2.2)
 |.nx=>some (.bG,p.2.2)
 |_=>none
theorem jv{n N:Nat}{b:XS}{ds:List D}:dW n N b ds c=if ds.length=n then(b (ds.map some++List.replicate (N - n) none) c).bind fin else none:=rfl
@[simp] theorem MO:fin (.rt d,σ,c)=some (d,c):=rfl
@[simp] theorem MP:fin (.nx,σ,c)=some (.bG,c):=rfl
theorem Gg{f:Int→Int→Option D}:ii f (.int i) (.int j) c=(f i j).bind fun d=>some (d,c):=rfl
@[simp] theorem QB:fF (.int i) (.int j) c=some (.int (i - j),c):=rfl
@[simp] theorem QC:cy (.int i) (.int j) c=some (.int (i+j),c):=rfl
@[simp] theorem TR:x5 (.int i) (.int j) c=some (.bl (decide (i<j)),c):=rfl
@[simp] theorem TU:LY (.int i) (.int j) c=some (.bl (decide (i≤j)),c):=rfl
@[simp] theorem TV:mh (.int i) (.int j) c=some (.bl (decide (j<i)),c):=rfl
@[simp] theorem TX:Pj (.int i) (.int j) c=some (.bl (decide (j≤i)),c):=rfl
@[simp] theorem QD:we (.int i) c=some (.int (-i),c):=rfl
theorem mulL(h:i.natAbs<2 ^ 64):MulOk i j:=Or.inr (Or.inl ⟨h⟩)
theorem mulR(h:j.natAbs<2 ^ 64):MulOk i j:=Or.inr (Or.inr ⟨h⟩)
theorem kA(h:My.Bd 90000 i)(g:My.Bd 90000 j):MulOk i j:=Or.inl ⟨h,g⟩
theorem iL(h:i.natAbs<2 ^ 64):My.Bd 64 i:=⟨h⟩
theorem cC(h:MulOk i j):aK (.int i) (.int j) c=some (.int (i*j),c):=by unfold aK;rw[Gg,if_pos h];rfl
theorem Ae(h: 0<j)(hb:My.Bd 8900 j):jE (.int i) (.int j) c=some (.int (i / j),c):=by
 unfold jE;rw[Gg,if_pos ⟨by omega,hb⟩,Int.fdiv_eq_ediv_of_nonneg i (Int.le_of_lt h)];rfl
theorem DG(h: 0<j):gA (.int i) (.int j) c=some (.int (i % j),c):=by
 unfold gA;rw[Gg,if_pos (by omega),Int.fmod_eq_emod_of_nonneg i (Int.le_of_lt h)];rfl
@[simp] theorem yB{k:Nat}:data c (k+1) (.int i)=some (.int i):=by simp[data]
theorem BU:wg (.int i) (.int j) c=some (decide (i=j)):=by
 have:wg (.int i) (.int j) c=(data c 6 (.int i)).bind fun d=>(data c 6 (.int j)).bind fun e=>some (@decide (d=e) (Classical.propDecidable _)):=rfl
 rw[this,yB,yB]
 simp
@[simp] theorem Jr:ij (.int i) (.int j) c=some (.bl (decide (i=j)),c):=by unfold ij;rw[BU];rfl
@[simp] theorem Js:pG (.int i) (.int j) c=some (.bl (!decide (i=j)),c):=by unfold pG;rw[BU];rfl
@[simp] theorem MQ{k:Bool}:ij (.bl b) (.bl k) c=some (.bl (b==k),c):=rfl
@[simp] theorem MR{k:Bool}:pG (.bl b) (.bl k) c=some (.bl (!(b==k)),c):=rfl
@[simp] theorem wZ:b7 (.tup xs) c=some xs:=rfl
theorem a_{n:Nat}(h:c[n]? =some (.lst xs)):b7 (.ref n) c=some xs:=by simp[b7,h]
theorem yC{n:Nat}(h:c[n]? =some (.ro xs)):b7 (.ref n) c=some xs:=by simp[b7,h]
theorem aU{n:Nat}(h:c[n]? =some (.lst xs)):bq (.ref n) c=some (n,xs):=by simp[bq,h]
theorem hZ{x:D}:ar x (.int i) c=(b7 x c).bind fun xs=>(g_ xs i).bind fun d=>some (d,c):=rfl
@[simp] theorem Jt:ar (.tup xs) (.int i) c=(g_ xs i).bind fun d=>some (d,c):=rfl
@[simp] theorem QF{α:Type}{x:α}{xs:List α}:g_ (x::xs) 0=some x:=by simp[g_,wj]
@[simp] theorem QH{α:Type}{x y:α}{xs:List α}:g_ (x::y::xs) 1=some y:=by
 have h:(1:Int)<((x::y::xs).length:Int):=by simp only[List.length_cons];omega
 unfold g_ wj
 rw[if_pos (by decide),if_pos h];rfl
@[simp] theorem QJ{α:Type}{x y z:α}{xs:List α}:g_ (x::y::z::xs) 2=some z:=by
 have h:(2:Int)<((x::y::z::xs).length:Int):=by simp only[List.length_cons];omega
 unfold g_ wj
 rw[if_pos (by decide),if_pos h];rfl
theorem BV{α:Type}{xs:List α}{n:Nat}{x:α}(h:xs[n]? =some x):g_ xs (n:Int)=some x:=by
 have hl:n<xs.length:=(List.getElem?_eq_some_iff.mp h).1
 unfold g_ wj
 rw[if_pos (by omega),if_pos (by omega)]
 simpa using h
theorem Gh{α:Type}{xs:List α}{x:α}:g_ (xs++[x]) (-1)=some x:=by
 unfold g_ wj
 rw[if_neg (by decide),if_pos (by simp only[List.length_append,List.length_cons,List.length_nil];omega)]
 have:((-1:Int)+((xs++[x]).length:Int)).toNat=xs.length:=by simp only[List.length_append,List.length_cons,List.length_nil];omega
 rw[this]
 simp
@[simp] theorem QK:mi [.int i] c=some (.int (if i<0 then -i else i),c):=rfl
@[simp] theorem BW:Em [.bl b] c=some (.int (if b then 1 else 0),c):=rfl
theorem DH{x:D}:bS [x] c=(b7 x c).bind fun xs=>some (.int xs.length,c):=rfl
@[simp] theorem MS:Pk [.int i,.int j] c=some (.int (if j > i then j else i),c):=rfl
@[simp] theorem MT:Pm [.int i,.int j] c=some (.int (if j<i then j else i),c):=rfl
theorem iC{n:Nat}(h:n≤10000):n≤cE:=Nat.le_trans h (by rw[dS];decide)
@[simp] theorem QL: 1≤cE:=iC (by decide)
@[simp] theorem Ju: 2≤cE:=iC (by decide)
@[simp] theorem QM: 3≤cE:=iC (by decide)
@[simp] theorem QN: 4≤cE:=iC (by decide)
@[simp] theorem QP: 5≤cE:=iC (by decide)
@[simp] theorem QQ: 6≤cE:=iC (by decide)
@[simp] theorem QR: 7≤cE:=iC (by decide)
@[simp] theorem QU: 8≤cE:=iC (by decide)
theorem oZ{a:XA}(h:a σ c=some ([.int j],c'))(h2:j.natAbs<2 ^ 61):eu a σ c=some (⟨dQ 0 j.toNat,[]⟩,c'):=by
 unfold eu
 rw[h,Option.bind_some]
 dsimp only
 rw[if_pos ⟨by omega,by omega⟩]
theorem hJ:stays [] c:=fun _ h=>nomatch h
end
theorem cJ{ks:List (Nat×Cell)}{g:XG}{body:XS}(P:Nat→Env→Cells→Prop):
  ∀(ds:List D) (k:Nat) (σ:Env) (c:Cells),(∀i σ c,P i σ c→stays ks c)→(∀i d σ c,ds[i]? =some d→P (k+i) σ c→∃σ1 c1 sO c2,g d σ c=some (σ1,c1)∧body σ1 c1=some (.nx,sO,c2)∧P (k+i+1) sO c2)→
   P k σ c→∃σ' c',gD ks g body ds σ c=some (.nx,σ',c')∧P (k+ds.length) σ' c'
 |[],k,σ,c,hs,_,h=>⟨σ,c,by unfold gD;rw[if_pos (hs k σ c h)],h⟩
 |d::ds,k,σ,c,hs,ht,h=>by
  obtain⟨σ1,c1,sO,c2,h1,h2,h3⟩:=ht 0 d σ c rfl h
  obtain⟨σ',c',h4,h5⟩:=cJ P ds (k+1) sO c2 hs (fun i d' σ c hd hp=>by
   have:=ht (i+1) d' σ c (by simpa using hd) (by rw[show k+(i+1)=k+1+i by omega];exact hp)
   rwa[show k+(i+1)+1=k+1+i+1 by omega]at this) h3
  refine⟨σ',c',?_,by rw[show k+(d::ds).length=k+1+ds.length by simp only[List.length_cons];omega];exact h5⟩
  unfold gD
  rw[if_pos (hs k σ c h),h1]
  simp only[Option.bind_some,h2,h4]
end Qm
namespace dh
open PySem Qm
noncomputable section
def m_:XS:=(ay (cX (tV (e2 pG (eV 1) (eC (.int 0)))) (ay (aR 2 (e2 gA (eV 0) (eV 1)))
   (ay (aR 0 (eV 1))
   (aR 1 (eV 2)))))
   (aS (eB mi (ae (eV 0) ag))))
def kB:FN:=dW 2 3 m_
def rL:XS:=(ay (aR 3 (ao kB [] (ae (ao kB [] (ae (eV 0) (ae (eV 2) ag))) (ae (eV 1) ag))))
   (ay (cG (tV (e2 x5 (eV 2) (eC (.int 0))))
   (aR 3 (e1 we (eV 3)))
   bF)
   (aS (eD (ae (e2 jE (eV 0) (eV 3)) (ae (e2 jE (eV 1) (eV 3)) (ae (e2 jE (eV 2) (eV 3)) ag)))))))
def rM:FN:=dW 3 4 rL
def lr:XS:=(aS (e2 x5 (e2 aK (e2 ar (eV 0) (eC (.int 1))) (e2 ar (eV 1) (eC (.int 2)))) (e2 aK (e2 ar (eV 1) (eC (.int 1))) (e2 ar (eV 0) (eC (.int 2))))))
def ly:FN:=dW 2 2 lr
def ou:XS:=(ay (aR 2 (e2 aK (e2 ar (eV 0) (eC (.int 0))) (e2 ar (eV 1) (eC (.int 2)))))
   (ay (aR 3 (e2 aK (e2 ar (eV 1) (eC (.int 0))) (e2 ar (eV 0) (eC (.int 2)))))
   (ay (cG (tV (e2 ij (eV 2) (eV 3)))
   (aS (ao ly [] (ae (eV 0) (ae (eV 1) ag))))
   bF)
   (aS (e2 x5 (eV 2) (eV 3))))))
def b9:FN:=dW 2 4 ou
def kC:XS:=(aS (eD (ae (e2 fF (e2 aK (e2 ar (eV 0) (eC (.int 1))) (e2 ar (eV 1) (eC (.int 2)))) (e2 aK (e2 ar (eV 0) (eC (.int 2))) (e2 ar (eV 1) (eC (.int 1))))) (ae (e2 fF (e2 aK (e2 ar (eV 0) (eC (.int 2))) (e2 ar (eV 1) (eC (.int 0)))) (e2 aK (e2 ar (eV 0) (eC (.int 0))) (e2 ar (eV 1) (eC (.int 2))))) (ae (e2 fF (e2 aK (e2 ar (eV 0) (eC (.int 0))) (e2 ar (eV 1) (eC (.int 1)))) (e2 aK (e2 ar (eV 0) (eC (.int 1))) (e2 ar (eV 1) (eC (.int 0))))) ag)))))
def eQ:FN:=dW 2 2 kC
def o6:XS:=(ay (cG (tV (e2 mh (eV 0) (eC (.int 0))))
   (aS (eC (.int 1)))
   bF)
   (ay (cG (tV (e2 x5 (eV 0) (eC (.int 0))))
   (aS (e1 we (eC (.int 1))))
   bF)
   (aS (eC (.int 0)))))
def o_:FN:=dW 1 1 o6
def vx:XS:=(ay (aR 3 (ao eQ [] (ae (eV 0) (ae (eV 1) ag))))
   (aS (ao o_ [] (ae (e2 cy (e2 cy (e2 aK (e2 ar (eV 3) (eC (.int 0))) (e2 ar (eV 2) (eC (.int 0)))) (e2 aK (e2 ar (eV 3) (eC (.int 1))) (e2 ar (eV 2) (eC (.int 1))))) (e2 aK (e2 ar (eV 3) (eC (.int 2))) (e2 ar (eV 2) (eC (.int 2))))) ag))))
def ng:FN:=dW 3 4 vx
def jc:XS:=(ay (dO (Bn (ae (eV 0) (ae (eV 1) ag))) (c_ 2 (aQ (av 2) (aQ (av 3) cZ)))
   (cG (tV (e2 pG (eV 2) (eV 3)))
   (aS (ao b9 [] (ae (eV 2) (ae (eV 3) ag))))
   bF))
   (aS (eC (.bl false))))
def fy:FN:=dW 2 4 jc
def pb(eR eS:Nat):XS:=(ay (aR 3 (fH ag))
   (ay (aR 4 (eC (.int 0)))
   (ay (dO (eE (eV 1)) (av 5)
   (ay (cX (jL (tV (e2 x5 (eV 4) (eB bS (ae (eV 0) ag)))) (fE (tV (rE [(eR,b9),(eS,fy)] (eV 2) (ae (eV 5) (ae (e2 ar (eV 0) (eV 4)) ag)))))) (ay (cO (eM b8 (eV 3) (ae (e2 ar (eV 0) (eV 4)) ag)))
   (aR 4 (e2 cy (eV 4) (eC (.int 1))))))
   (cO (eM b8 (eV 3) (ae (eV 5) ag)))))
   (ay (cO (eM e_ (eV 3) (ae (kO dX (eV 0) (dc (eV 4)) eK) ag)))
   (aS (eV 3))))))
def mC(eR eS:Nat):FN:=dW 3 6 (pb eR eS)
def fm(eR eS:Nat):XS:=(ay (aR 2 (df (zY (ae (eC (.int 0)) (ae (e2 fF (eB bS (ae (eV 0) ag)) (eC (.int 1))) (ae (eC (.int 2)) ag)))) [none,some 1,some 0] (av 0) dN (ao (mC eR eS) [] (ae (e2 ar (eV 2) (eV 0)) (ae (e2 ar (eV 2) (e2 cy (eV 0) (eC (.int 1)))) (ae (eV 1) ag))))))
   (ay (cG (tV (e2 ij (e2 gA (eB bS (ae (eV 0) ag)) (eC (.int 2))) (eC (.int 1))))
   (cO (eM b8 (eV 2) (ae (e2 ar (eV 0) (e1 we (eC (.int 1)))) ag)))
   bF)
   (aS (eV 2))))
def dP(eR eS:Nat):FN:=dW 2 3 (fm eR eS)
def jw(eR eS:Nat):XS:=(ay (aR 2 (df (eE (eV 0)) [none] (av 0) dN (fH (ae (eV 0) ag))))
   (ay (cX (tV (e2 mh (eB bS (ae (eV 2) ag)) (eC (.int 1)))) (aR 2 (ao (dP eR eS) [] (ae (eV 2) (ae (eV 1) ag)))))
   (aS (x4 (tV (e2 ij (eB bS (ae (eV 2) ag)) (eC (.int 1)))) (e2 ar (eV 2) (eC (.int 0))) (fH ag)))))
def d_(eR eS:Nat):FN:=dW 2 3 (jw eR eS)
def kD:XS:=(ay (cG (tV (ao b9 [] (ae (e2 ar (eV 0) (eC (.int 0))) (ae (e2 ar (eV 0) (eC (.int 1))) ag))))
   (aS (eV 0))
   bF)
   (aS (eD (ae (e2 ar (eV 0) (eC (.int 1))) (ae (e2 ar (eV 0) (eC (.int 0))) ag)))))
def dk:FN:=dW 1 1 kD
def iZ:XS:=(ay (cG (tV (e2 pG (ao ng [] (ae (e2 ar (eV 1) (eC (.int 0))) (ae (e2 ar (eV 1) (eC (.int 1))) (ae (eV 0) ag)))) (eC (.int 0))))
   (aS (eC (.bl false)))
   bF)
   (ay (aR 2 (ao dk [] (ae (eV 1) ag)))
   (aS (qX (ua (ao b9 [] (ae (eV 0) (ae (e2 ar (eV 2) (eC (.int 0))) ag)))) (ua (ao b9 [] (ae (e2 ar (eV 2) (eC (.int 1))) (ae (eV 0) ag))))))))
def fX:FN:=dW 2 3 iZ
def lA:XS:=(aS (df (nC (eV 1)) [none,some 0] (av 0) dN (ao ng [] (ae (e2 ar (eV 1) (eC (.int 0))) (ae (e2 ar (eV 1) (eC (.int 1))) (ae (eV 0) ag))))))
def jx:FN:=dW 2 2 lA
def gk:XS:=(ay (aR 2 (ao dk [] (ae (eV 0) ag)))
   (ay (aR 3 (ao dk [] (ae (eV 1) ag)))
   (ay (aR 4 (x4 (tV (ao b9 [] (ae (e2 ar (eV 2) (eC (.int 0))) (ae (e2 ar (eV 3) (eC (.int 0))) ag)))) (e2 ar (eV 3) (eC (.int 0))) (e2 ar (eV 2) (eC (.int 0)))))
   (ay (aR 5 (x4 (tV (ao b9 [] (ae (e2 ar (eV 2) (eC (.int 1))) (ae (e2 ar (eV 3) (eC (.int 1))) ag)))) (e2 ar (eV 2) (eC (.int 1))) (e2 ar (eV 3) (eC (.int 1)))))
   (ay (cG (tV (e2 ij (eV 4) (eV 5)))
   (aS (eD (ae (eC (.str "spot")) (ae (eV 4) ag))))
   bF)
   (aS (x4 (tV (ao b9 [] (ae (eV 4) (ae (eV 5) ag)))) (eD (ae (eC (.str "stretch")) (ae (eV 4) (ae (eV 5) ag)))) (eC .bG))))))))
def gq:FN:=dW 2 6 gk
def lB:XS:=(ay (aR 2 (ao eQ [] (ae (ao eQ [] (ae (e2 ar (eV 0) (eC (.int 0))) (ae (e2 ar (eV 0) (eC (.int 1))) ag))) (ae (ao eQ [] (ae (e2 ar (eV 1) (eC (.int 0))) (ae (e2 ar (eV 1) (eC (.int 1))) ag))) ag))))
   (aS (ao rM [] (ae (e2 ar (eV 2) (eC (.int 0))) (ae (e2 ar (eV 2) (eC (.int 1))) (ae (e2 ar (eV 2) (eC (.int 2))) ag))))))
def lC:FN:=dW 2 3 lB
def i5:XS:=(ay (aR 2 (ao jx [] (ae (eV 0) (ae (eV 1) ag))))
   (ay (cG (tV (e2 ij (eV 2) (fH (ae (eC (.int 0)) (ae (eC (.int 0)) ag)))))
   (aS (ao gq [] (ae (eV 0) (ae (eV 1) ag))))
   bF)
   (ay (aR 3 (ao jx [] (ae (eV 1) (ae (eV 0) ag))))
   (ay (cG (lT (tV (e2 mh (e2 aK (e2 ar (eV 2) (eC (.int 0))) (e2 ar (eV 2) (eC (.int 1)))) (eC (.int 0)))) (tV (e2 mh (e2 aK (e2 ar (eV 3) (eC (.int 0))) (e2 ar (eV 3) (eC (.int 1)))) (eC (.int 0)))))
   (aS (eC .bG))
   bF)
   (aS (eD (ae (eC (.str "spot")) (ae (ao lC [] (ae (eV 0) (ae (eV 1) ag))) ag))))))))
def gr:FN:=dW 2 4 i5
def rN(eR eS:Nat):XS:=(ay (aR 2 z_)
   (ay (dO (eE (eV 1)) (av 3)
   (cG (tV (ao fX [] (ae (eV 3) (ae (eV 0) ag))))
   (oV (eV 2) (eV 3) (eC (.bl true)))
   bF))
   (ay (cG (tV (ao b9 [] (ae (e2 ar (eV 0) (eC (.int 0))) (ae (e2 ar (eV 0) (eC (.int 1))) ag))))
   (aS (ao (d_ eR eS) [] (ae (eB oi (ae (eV 2) ag)) (ae (eC (.adr eR)) ag))))
   bF)
   (aS (ao (d_ eR eS) [] (ae (eB oi (ae (eV 2) ag)) (ae IF ag)))))))
def mD(eR eS:Nat):FN:=dW 2 4 (rN eR eS)
def jd:XS:=(ay (aR 1 (df (eE (eV 0)) [none] (av 0) dN (eB zJ (ae (eV 0) ag))))
   (ay (dO (eu (ae (eB bS (ae (eV 0) ag)) ag)) (av 2)
   (dO (eu (ae (eV 2) ag)) (av 3)
   (ay (aR 4 (ao gr [] (ae (e2 ar (eV 0) (eV 3)) (ae (e2 ar (eV 0) (eV 2)) ag))))
   (cG (tV (e2 sT (eV 4) (eC .bG)))
   (ay (cO (eM oq (e2 ar (eV 1) (eV 3)) (ae (kO dX (eV 4) (dc (eC (.int 1))) eK) ag)))
   (cO (eM oq (e2 ar (eV 1) (eV 2)) (ae (kO dX (eV 4) (dc (eC (.int 1))) eK) ag))))
   bF))))
   (aS (eV 1))))
def je:FN:=dW 1 5 jd
def eT:XS:=(ay (aR 1 rF)
   (ay (dO (eu (ae (eB bS (ae (eV 0) ag)) ag)) (av 2)
   (cO (eM b8 (ff (eV 1) (ao dk [] (ae (e2 ar (eV 0) (eV 2)) ag))) (ae (eV 2) ag))))
   (aS (eV 1))))
def eU:FN:=dW 1 3 eT
def Af(eR eS:Nat):XS:=(ay (aR 1 rF)
   (ay (aR 2 (ao eU [] (ae (eV 0) ag)))
   (ay (aR 3 (ao je [] (ae (eB jq (ae (eV 2) ag)) ag)))
   (ay (dO (rG (ae (eV 2) (ae (eV 3) ag))) (c_ 2 (aQ (av 4) (aQ (av 5) cZ)))
   (ay (aR 6 (ao (mD eR eS) [] (ae (eV 4) (ae (eV 5) ag))))
   (dO (hG (ae (eV 6) (ae (kO dX (eV 6) (dc (eC (.int 1))) eK) ag))) (av 7)
   (cO (eM e_ (ff (eV 1) (eV 7)) (ae (jF (eV 2) (eV 4)) ag))))))
   (aS (eB vm (ae (df (eE (ao (d_ eR eS) [] (ae (eB jq (ae (eV 1) ag)) (ae (eC (.adr eS)) ag)))) [none,some 1] (av 0) dN (eD (ae (eV 0) (ae (eB lj (ae (jF (eV 1) (eV 0)) ag)) ag)))) ag)))))))
def tu(eR eS:Nat):FN:=dW 1 8 (Af eR eS)
def pf(eR eS:Nat):XS:=(aS (eB jq (ae (ao (tu eR eS) [] (ae (eV 0) ag)) ag)))
def i6(eR eS:Nat):FN:=dW 1 1 (pf eR eS)
def iD(eR eS:Nat):XS:=(aS (Aa (ao (tu eR eS) [] (ae (eV 0) ag))))
def b_(eR eS:Nat):FN:=dW 1 1 (iD eR eS)
def jy:XS:=(ay (cG (tV (e2 x5 (eV 1) (eB bS (ae (eV 0) ag))))
   (aS (e2 ar (eV 0) (eV 1)))
   bF)
   (aS (eC (.int 0))))
def h_:FN:=dW 2 2 jy
def jU:XS:=(ay (aR 2 (e2 gA (e2 ar (eV 0) (eC (.int 0))) (eV 1)))
   (ay (mf (e2 jE (e2 ar (eV 0) (eC (.int 0))) (eV 1)) (HP (eV 0) (eC (.int 0))))
   (aS (eV 2))))
def az:FN:=dW 2 3 jU
def jz:XS:=(ay (cG (tV (e2 ij (e2 gA (ao h_ [] (ae (eV 0) (ae (eC (.int 0)) ag))) (eC (.int 2))) (eC (.int 1))))
   (aS (fH (ae (eV 1) ag)))
   bF)
   (ay (aR 3 (eC (.int 0)))
   (ay (dO (eu (ae (eC (.int 16)) ag)) (av 4)
   (ay (aR 1 (e2 gA (e2 cy (e2 cy (e2 aK (eV 1) (eC (.int 48271))) (e2 aK (eC (.int 7919)) (eV 2))) (eV 4)) (eC (.int 2147483629))))
   (aR 3 (e2 cy (e2 aK (eV 3) (eC (.int 2147483587))) (e2 gA (e2 aK (eV 1) (eV 1)) (eC (.int 2147483587)))))))
   (aS (fH (ae (eV 3) ag))))))
def eF:FN:=dW 3 5 jz
def jf:XS:=(ay (qY [3,4] (ae (eV 2) (ae (eB mi (ae (eV 0) ag)) ag)))
   (ay (cX (tV (e2 mh (eV 4) (eC (.int 0)))) (qY [3,4] (ae (eV 4) (ae (e2 gA (eV 3) (eV 4)) ag))))
   (ay (aR 4 (eB mi (ae (eV 1) ag)))
   (ay (cX (tV (e2 mh (eV 4) (eC (.int 0)))) (qY [3,4] (ae (eV 4) (ae (e2 gA (eV 3) (eV 4)) ag))))
   (aS (eD (ae (e2 jE (eV 0) (eV 3)) (ae (e2 jE (eV 1) (eV 3)) (ae (e2 jE (eV 2) (eV 3)) ag)))))))))
def cc:FN:=dW 3 5 jf
def lD:XS:=(ay (aR 2 (ao az [] (ae (eV 0) (ae (eC (.int 4)) ag))))
   (ay (cG (jL (tV (e2 ij (eV 2) (eC (.int 3)))) (tV (e2 mh (eB bS (ae (eV 1) ag)) (eC (.int 0)))))
   (ay (mf (e2 ar (eV 1) (ao az [] (ae (eV 0) (ae (eB bS (ae (eV 1) ag)) ag)))) (c_ 2 (aQ (av 3) (aQ (av 4) cZ))))
   (ay (aR 5 (e2 cy (eC (.int 1)) (ao az [] (ae (eV 0) (ae (eC (.int 5)) ag)))))
   (ay (aR 6 (e2 fF (ao az [] (ae (eV 0) (ae (e2 cy (eV 5) (eC (.int 5))) ag))) (eC (.int 2))))
   (cG (tV (e2 LY (eB wR (ae (e2 ar (eV 3) (eC (.int 2))) (ae (e2 ar (eV 4) (eC (.int 2))) (ae (eB mi (ae (e2 ar (eV 3) (eC (.int 0))) ag)) (ae (eB mi (ae (e2 ar (eV 3) (eC (.int 1))) ag)) (ae (eB mi (ae (e2 ar (eV 4) (eC (.int 0))) ag)) (ae (eB mi (ae (e2 ar (eV 4) (eC (.int 1))) ag)) ag))))))) (e2 k7 (eC (.int 10)) (eC (.int 14)))))
   (ay (aR 7 (e2 aK (e2 aK (e2 ar (eV 3) (eC (.int 2))) (e2 ar (eV 4) (eC (.int 2)))) (eV 5)))
   (ay (qY [8,9] (ae (e2 aK (e2 fF (eV 5) (eV 6)) (e2 ar (eV 4) (eC (.int 2)))) (ae (e2 aK (eV 6) (e2 ar (eV 3) (eC (.int 2)))) ag)))
   (aS (ao cc [] (ae (e2 cy (e2 aK (e2 ar (eV 3) (eC (.int 0))) (eV 8)) (e2 aK (e2 ar (eV 4) (eC (.int 0))) (eV 9))) (ae (e2 cy (e2 aK (e2 ar (eV 3) (eC (.int 1))) (eV 8)) (e2 aK (e2 ar (eV 4) (eC (.int 1))) (eV 9))) (ae (eV 7) ag)))))))
   bF))))
   bF)
   (ay (cG (tV (e2 ij (eV 2) (eC (.int 2))))
   (ay (aR 10 (e2 ar (fH (ae (e2 k7 (eC (.int 10)) (eC (.int 6))) (ae (e2 k7 (eC (.int 10)) (eC (.int 14))) (ae (e2 k7 (eC (.int 10)) (eC (.int 18))) ag)))) (ao az [] (ae (eV 0) (ae (eC (.int 3)) ag)))))
   (ay (aR 11 (e2 fF (ao az [] (ae (eV 0) (ae (e2 cy (e2 aK (eC (.int 2)) (eV 10)) (eC (.int 1))) ag))) (eV 10)))
   (ay (aR 12 (e2 fF (ao az [] (ae (eV 0) (ae (e2 cy (e2 aK (eC (.int 2)) (eV 10)) (eC (.int 1))) ag))) (eV 10)))
   (aS (ao cc [] (ae (eV 11) (ae (eV 12) (ae (e2 cy (eC (.int 1)) (ao az [] (ae (eV 0) (ae (eV 10) ag)))) ag))))))))
   bF)
   (ay (aR 7 (e2 cy (eC (.int 1)) (e2 aK (ao az [] (ae (eV 0) (ae (eC (.int 6)) ag))) (e2 gA (eV 2) (eC (.int 2))))))
   (aS (ao cc [] (ae (ao az [] (ae (eV 0) (ae (e2 aK (eC (.int 7)) (eV 7)) ag))) (ae (ao az [] (ae (eV 0) (ae (e2 aK (eC (.int 7)) (eV 7)) ag))) (ae (eV 7) ag)))))))))
def dD:FN:=dW 2 13 lD
def lE:XS:=(ay (cG (jL (tV (e2 mh (eB bS (ae (eV 1) ag)) (eC (.int 0)))) (tV (e2 ij (ao az [] (ae (eV 0) (ae (eC (.int 8)) ag))) (eC (.int 7)))))
   (ay (mf (e2 ar (eV 1) (ao az [] (ae (eV 0) (ae (eB bS (ae (eV 1) ag)) ag)))) (c_ 2 (aQ (av 2) (aQ (av 3) cZ))))
   (aS (e2 ar (fH (ae (eD (ae (eV 2) (ae (eV 3) ag))) (ae (eD (ae (eV 3) (ae (eV 2) ag))) ag))) (ao az [] (ae (eV 0) (ae (eC (.int 2)) ag))))))
   bF)
   (ay (aR 2 (ao dD [] (ae (eV 0) (ae (eV 1) ag))))
   (ay (aR 3 (ao dD [] (ae (eV 0) (ae (eV 1) ag))))
   (ay (cG (tV (e2 ij (eV 2) (eV 3)))
   (aR 3 (eD (ae (e2 cy (e2 ar (eV 2) (eC (.int 0))) (e2 aK (e2 ar (fH (ae (eC (.int 1)) (ae (e1 we (eC (.int 1))) ag))) (eB Em (ae (e2 mh (e2 ar (eV 2) (eC (.int 0))) (eC (.int 0))) ag))) (e2 ar (eV 2) (eC (.int 2))))) (ae (e2 ar (eV 2) (eC (.int 1))) (ae (e2 ar (eV 2) (eC (.int 2))) ag)))))
   bF)
   (aS (eD (ae (eV 2) (ae (eV 3) ag))))))))
def eG:FN:=dW 2 4 lE
def jV:XS:=(ay (aR 3 (fH ag))
   (ay (dO (og (ae (kO dX (eV 0) (dc (eV 1)) (dc (eV 2))) ag)) (c_ 2 (aQ (av 4) (aQ (av 5) cZ)))
   (cO (eM b8 (eV 3) (ae (ao eG [] (ae (ao eF [] (ae (eV 0) (ae (eV 5) (ae (eV 4) ag)))) (ae (eV 3) ag))) ag))))
   (aS (eV 3))))
def jW:FN:=dW 3 6 jV
def lF:XS:=(ay (aR 3 (e2 aK (e2 ar (eV 0) (eC (.int 0))) (e2 fF (e2 aK (e2 ar (eV 1) (eC (.int 1))) (e2 ar (eV 2) (eC (.int 2)))) (e2 aK (e2 ar (eV 2) (eC (.int 1))) (e2 ar (eV 1) (eC (.int 2)))))))
   (ay (aR 4 (e2 aK (e2 ar (eV 0) (eC (.int 1))) (e2 fF (e2 aK (e2 ar (eV 1) (eC (.int 0))) (e2 ar (eV 2) (eC (.int 2)))) (e2 aK (e2 ar (eV 2) (eC (.int 0))) (e2 ar (eV 1) (eC (.int 2)))))))
   (aS (e2 cy (e2 fF (eV 3) (eV 4)) (e2 aK (e2 ar (eV 0) (eC (.int 2))) (e2 fF (e2 aK (e2 ar (eV 1) (eC (.int 0))) (e2 ar (eV 2) (eC (.int 1)))) (e2 aK (e2 ar (eV 2) (eC (.int 0))) (e2 ar (eV 1) (eC (.int 1))))))))))
def eI:FN:=dW 3 5 lF
def jg:XS:=(aS (e2 EM (eD (ae (e2 aK (e2 ar (eV 0) (eC (.int 0))) (e2 ar (eV 1) (eC (.int 2)))) (ae (e2 aK (e2 ar (eV 0) (eC (.int 1))) (e2 ar (eV 1) (eC (.int 2)))) ag))) (eD (ae (e2 aK (e2 ar (eV 1) (eC (.int 0))) (e2 ar (eV 0) (eC (.int 2)))) (ae (e2 aK (e2 ar (eV 1) (eC (.int 1))) (e2 ar (eV 0) (eC (.int 2)))) ag)))))
def bu:FN:=dW 2 2 jg
def i7:XS:=(ay (mf (eV 1) (c_ 2 (aQ (av 2) (aQ (av 3) cZ))))
   (ay (cG (tV (ao bu [] (ae (eV 3) (ae (eV 2) ag))))
   (qY [2,3] (ae (eV 3) (ae (eV 2) ag)))
   bF)
   (aS (qX (e2 ij (ao eI [] (ae (eV 2) (ae (eV 3) (ae (eV 0) ag)))) (eC (.int 0))) (qX (ua (ao bu [] (ae (eV 0) (ae (eV 2) ag)))) (ua (ao bu [] (ae (eV 3) (ae (eV 0) ag)))))))))
def gu:FN:=dW 2 4 i7
def iE:XS:=(ay (cG (lT (fE (tV (eB dG (ae (eV 0) (ae (eC (.ty "tuple")) ag))))) (tV (e2 pG (eB bS (ae (eV 0) ag)) (eC (.int 3)))))
   (aS (eC (.bl false)))
   bF)
   (aS (eB En (ae (df (nC (eV 0)) [none] (av 0) dN (qX (eB dG (ae (eV 0) (ae (eC (.ty "int")) ag))) (ua (eB dG (ae (eV 0) (ae (eC (.ty "bool")) ag)))))) ag))))
def cK:FN:=dW 1 1 iE
def fK:XS:=(ay (cG (fE (tV (eB dG (ae (eV 0) (ae (eC (.ty "list")) ag)))))
   (aS (eC (.bl false)))
   bF)
   (ay (dO (eE (eV 0)) (av 1)
   (ay (cG (lT (fE (tV (eB dG (ae (eV 1) (ae (eC (.ty "tuple")) ag))))) (tV (e2 pG (eB bS (ae (eV 1) ag)) (eC (.int 2)))))
   (aS (eC (.bl false)))
   bF)
   (cG (lT (fE (tV (ao cK [] (ae (e2 ar (eV 1) (eC (.int 0))) ag)))) (lT (fE (tV (ao cK [] (ae (e2 ar (eV 1) (eC (.int 1))) ag)))) (fE (tV (ao bu [] (ae (e2 ar (eV 1) (eC (.int 0))) (ae (e2 ar (eV 1) (eC (.int 1))) ag)))))))
   (aS (eC (.bl false)))
   bF)))
   (ay (dO (hG (ae (eV 0) (ae (kO dX (eV 0) (dc (eC (.int 1))) eK) ag))) (c_ 2 (aQ (av 2) (aQ (av 3) cZ)))
   (cG (lT (tV (ao bu [] (ae (e2 ar (eV 3) (eC (.int 0))) (ae (e2 ar (eV 2) (eC (.int 0))) ag)))) (jL (tV (e2 ij (e2 ar (eV 2) (eC (.int 0))) (e2 ar (eV 3) (eC (.int 0))))) (fE (tV (ao bu [] (ae (e2 ar (eV 2) (eC (.int 1))) (ae (e2 ar (eV 3) (eC (.int 1))) ag)))))))
   (aS (eC (.bl false)))
   bF))
   (aS (eC (.bl true))))))
def fL:FN:=dW 1 4 fK
def cf:XS:=(ay (cG (lT (tV (e2 ij (e2 ar (eV 0) (eC (.int 1))) (e2 ar (eV 1) (eC (.int 0))))) (lT (tV (ao bu [] (ae (e2 ar (eV 0) (eC (.int 1))) (ae (e2 ar (eV 1) (eC (.int 0))) ag)))) (tV (ao bu [] (ae (e2 ar (eV 1) (eC (.int 1))) (ae (e2 ar (eV 0) (eC (.int 0))) ag))))))
   (aS (eC (.bl false)))
   bF)
   (ay (dO (nC (eV 0)) (av 2)
   (cG (jL (tV (e2 q_ (eV 2) (eV 1))) (tV (ao gu [] (ae (eV 2) (ae (eV 1) ag)))))
   (aS (eC (.bl true)))
   bF))
   (ay (dO (nC (eV 1)) (av 2)
   (cG (jL (tV (e2 q_ (eV 2) (eV 0))) (tV (ao gu [] (ae (eV 2) (ae (eV 0) ag)))))
   (aS (eC (.bl true)))
   bF))
   (ay (cG (lT (tV (e2 LZ (e2 ar (eV 0) (eC (.int 0))) (eV 1))) (tV (e2 LZ (e2 ar (eV 0) (eC (.int 1))) (eV 1))))
   (aS (e2 ij (eV 0) (eV 1)))
   bF)
   (ay (cG (tV (e2 Pj (e2 aK (ao eI [] (ae (e2 ar (eV 0) (eC (.int 0))) (ae (e2 ar (eV 0) (eC (.int 1))) (ae (e2 ar (eV 1) (eC (.int 0))) ag)))) (ao eI [] (ae (e2 ar (eV 0) (eC (.int 0))) (ae (e2 ar (eV 0) (eC (.int 1))) (ae (e2 ar (eV 1) (eC (.int 1))) ag))))) (eC (.int 0))))
   (aS (eC (.bl false)))
   bF)
   (aS (e2 x5 (e2 aK (ao eI [] (ae (e2 ar (eV 1) (eC (.int 0))) (ae (e2 ar (eV 1) (eC (.int 1))) (ae (e2 ar (eV 0) (eC (.int 0))) ag)))) (ao eI [] (ae (e2 ar (eV 1) (eC (.int 0))) (ae (e2 ar (eV 1) (eC (.int 1))) (ae (e2 ar (eV 0) (eC (.int 1))) ag))))) (eC (.int 0)))))))))
def bP:FN:=dW 2 3 cf
def jX:XS:=(ay (aR 2 (ao eF [] (ae (eV 0) (ae (ao h_ [] (ae (eV 0) (ae (eC (.int 11)) ag))) (ae (eC (.int 77)) ag)))))
   (ay (aR 3 (eB mw (ae (eV 1) ag)))
   (ay (aR 4 (fH ag))
   (ay (cX (tV (e2 mh (eB bS (ae (eV 3) ag)) (eC (.int 0)))) (cO (eM b8 (eV 4) (ae (eM oW (eV 3) (ae (ao az [] (ae (eV 2) (ae (eB bS (ae (eV 3) ag)) ag))) ag)) ag))))
   (aS (eD (ae (eV 4) (ae (df (eu (ae (eV 1) ag)) [none,some 2] (av 0) dN (ao az [] (ae (eV 1) (ae (eC (.int 2)) ag)))) ag))))))))
def jY:FN:=dW 2 5 jX
def tw(eR eS:Nat):XS:=(ay (aR 1 (ao jW [] (ae (eV 0) (ae (eC (.int 1)) (ae (eC (.int 11)) ag)))))
   (ay (aR 2 (ao (i6 eR eS) [] (ae (eV 1) ag)))
   (ay (cG (fE (tV (ao fL [] (ae (eV 2) ag))))
   (aS (eC (.bl false)))
   bF)
   (ay (dO (og (ae (eV 2) ag)) (c_ 2 (aQ (av 3) (aQ (av 4) cZ)))
   (cG (tV (eB yn (ae (df (eE (kO dX (eV 2) eK (dc (eV 3)))) [none,some 4] (av 0) dN (ao bP [] (ae (eV 0) (ae (eV 1) ag)))) ag)))
   (aS (eC (.bl false)))
   bF))
   (ay (mf (ao jY [] (ae (eV 0) (ae (eB bS (ae (eV 1) ag)) ag))) (c_ 2 (aQ (av 5) (aQ (av 6) cZ))))
   (ay (aR 7 (fH ag))
   (ay (dO (hG (ae (eV 5) (ae (eV 6) ag))) (c_ 2 (aQ (av 3) (aQ (av 8) cZ)))
   (ay (mf (e2 ar (eV 1) (eV 3)) (c_ 2 (aQ (av 9) (aQ (av 10) cZ))))
   (cO (eM b8 (eV 7) (ae (e2 ar (fH (ae (eD (ae (eV 9) (ae (eV 10) ag))) (ae (eD (ae (eV 10) (ae (eV 9) ag))) ag))) (eV 8)) ag)))))
   (ay (cG (tV (e2 Bu (ao (i6 eR eS) [] (ae (eV 7) ag)) (eV 2)))
   (aS (eC (.bl false)))
   bF)
   (ay (aR 11 (df (eE (ao (b_ eR eS) [] (ae (eV 7) ag))) [none,some 5] (av 0) dN (eB lj (ae (df (eE (eV 0)) [none,some 1] (av 0) dN (e2 ar (eV 1) (eV 0))) ag))))
   (ay (cG (tV (e2 Bu (eV 11) (ao (b_ eR eS) [] (ae (eV 1) ag))))
   (aS (eC (.bl false)))
   bF)
   (aS (LW (e2 mh (eB bS (ae (eV 2) ag)) (eC (.int 25))) (qX (e2 wJ (ao (i6 eR eS) [] (ae (eV 2) ag)) (eV 2)) (e2 wJ (ao (b_ eR eS) [] (ae (eV 2) ag)) (df (eu (ae (eB bS (ae (eV 2) ag)) ag)) [none] (av 0) dN (fH (ae (eV 0) ag)))))))))))))))))
def w6(eR eS:Nat):FN:=dW 1 12 (tw eR eS)
end
end dh
namespace dh
open PySem Qm PyProof.Rows
local macro_rules|`(tactic|walk_at "bd")=>`(tactic|first|assumption|((with_reducible show My.Bd _ (_*_));refine' My.Bd.mul ?_ ?_<;>walk_at "bd")|((with_reducible show My.Bd _ (_+_));refine' My.Bd.add ?_ ?_<;>walk_at "bd")|((with_reducible show My.Bd _ (_ - _));refine' My.Bd.sub ?_ ?_<;>walk_at "bd")|((with_reducible show My.Bd _ (- _));refine' My.Bd.neg ?_<;>walk_at "bd")|(refine' iL ?_;omega))
local macro_rules|`(tactic|walk_at "bdm")=>`(tactic|first|assumption|(refine' My.Bd.mono ?b1 ?b2;(case b1=>walk_at "bd");(case b2=>decide)))
local macro_rules|`(tactic|walk_at "mo")=>`(tactic|first|(refine mulL ?_;omega)|(refine mulR ?_;omega)|(refine kA ?_ ?_<;>walk_at "bdm"))
local macro_rules|`(tactic|walk_at "dis")=>`(tactic|first|assumption|omega|walk_at "mo"|walk_at "bdm")
local macro_rules|`(tactic|erw[$[$t:term],*])=>`(tactic|simp (disch:=walk_at "dis") only[jv,Qx,Qr,Qs,Qt,TN,Qu,MM,Qq,V9,V_,Wa,Wb,TF,TH,Qh,TJ,Qi,TK,Qj,MJ,Qk,Ql,MK,Wc,Wd,ML,TL,We,Qn,TM,Qo,Qp,Jq,ES,Qv,MN,Qw,Qy,Qz,MO,MP,QB,QC,TR,TU,TV,TX,QD,cC,Ae,DG,Jr,Js,MQ,MR,wZ,Jt,QF,QH,QJ,QK,BW,MS,MT,QL,Ju,QM,QN,QP,QQ,QR,QU,List.getElem?_cons_succ,List.getElem?_cons_zero,Option.join_some,Option.join_none,Option.bind_some,Option.bind_none,List.set_cons_succ,List.set_cons_zero,List.map_cons,List.map_nil,List.length_cons,List.length_nil,List.append_nil,List.nil_append,List.cons_append,List.replicate_succ,List.replicate_zero,Nat.reduceAdd,Nat.reduceSub,Nat.reduceEqDiff,if_true,if_false,Bool.false_eq_true,decide_true,decide_false,Bool.not_true,Bool.not_false,eq_self_iff_true,reduceIte,List.zip_cons_cons,List.zip_nil_right,List.zip_nil_left,List.foldl_cons,List.foldl_nil,Int.reduceLT,Int.reduceEq,Int.reduceLE,$[$t:term],*])
theorem bp{i:Nat}{c:Cells}{z:Cell}(h:c[i]? =some z):i<c.length:=(List.getElem?_eq_some_iff.mp h).1
theorem aY{i:Nat}{c zs:Cells}{z:Cell}(h:c[i]? =some z):(c++zs)[i]? =some z:=by rw[List.getElem?_append_left (bp h)];exact h
theorem aC{c c':Cells}{i:Nat}{z:Cell}(h:c <+:c')(e:c[i]? =some z):c'[i]? =some z:=by
 obtain⟨zs,rfl⟩:=h
 exact aY e
theorem fY{c c':Cells}(h:c <+:c'):c.length≤c'.length:=h.length_le
theorem ow{c c':Cells}{n:Nat}{z:Cell}(h:c <+:c')(hn:c.length≤n):c <+:c'.set n z:=by
 obtain⟨zs,rfl⟩:=h
 refine⟨zs.set (n - c.length) z,?_⟩
 rw[List.set_append_right _ _ hn]
theorem pre_app{c c' zs:Cells}(h:c <+:c'):c <+:c'++zs:=h.trans ⟨zs,rfl⟩
theorem bK{c:Cells}{n i:Nat}{z y:Cell}(h:c[i]? =some y)(hn:i≠n):(c.set n z)[i]? =some y:=by rw[List.getElem?_set,if_neg (Ne.symm hn)];exact h
theorem gU{c:Cells}{n:Nat}{z:Cell}(h:n<c.length):(c.set n z)[n]? =some z:=by rw[List.getElem?_set,if_pos rfl,if_pos h]
theorem gE{it:XI}{g:XG}{b:XS}{σ:Qm.Env}{c c1:Cells}{I:Itm}(h:it σ c=some (I,c1)):dO it g b σ c=gD I.ks g b I.ds σ c1:=by
 unfold dO
 rw[h]
 rfl
theorem tD{a:XE}{σ:Qm.Env}{c:Cells}{m:Nat}{xs:List D}(ha:a σ c=some (.ref m,c))(h:c[m]? =some (.lst xs)):eE a σ c=some (⟨xs,[(m,.lst xs)]⟩,c):=by
 unfold eE
 rw[ha]
 simp[h,a_ h]
theorem ph{a:XE}{σ:Qm.Env}{c:Cells}:dc a σ c=(a σ c).bind fun p=>(qZ p.1).bind fun i=>some (some i,p.2):=by
 unfold dc
 cases a σ c with
 |none=>rfl
 |some p=>obtain⟨d,c⟩:=p;cases d<;>rfl
def Fr(L:Nat)(c c':Cells):Prop:=∀j z,j≠L→c[j]? =some z→c'[j]? =some z
theorem Fr.app{L:Nat}{c zs:Cells}:Fr L c (c++zs):=fun _ _ _ e=>aY e
theorem Fr.set{L:Nat}{c:Cells}{z:Cell}:Fr L c (c.set L z):=fun _ _ h e=>bK e h
theorem yD{ks:List (Nat×Cell)}{g:XG}{te:XE}{E:Qm.Env→Prop}{Rel:Nat→D→Cells→Prop}{I:Nat→Cells→Prop}{c:Cells}(hs:stays ks c)(hI:∀i u z,I i u→I i (u.set c.length z))(hR:∀i v c1 c2,Rel i v c1→Fr c.length c1 c2→Rel i v c2):∀(ds acc:List D) (zs:List Cell) (τ:Qm.Env) (k:Nat),k=acc.length→E τ→I k (c++.lst acc::zs)→
  (∀(i:Nat) d,ds[i]? =some d→∀τ c',E τ→c <+:c'→c.length<c'.length→I (k+i) c'→∃gZ v ws,g d τ c'=some (gZ,c')∧te gZ c'=some (v,c'++ws)∧E gZ∧Rel (k+i) v (c'++ws)∧I (k+i+1) (c'++ws))→acc.length+ds.length≤9000000→(∀i v,acc[i]? =some v→Rel i v (c++.lst acc::zs))→
  ∃vs BX,eo c.length ks g dN te ds τ (c++.lst acc::zs)=some (c++.lst (acc++vs)::BX)∧vs.length=ds.length∧∀i v,(acc++vs)[i]? =some v→Rel i v (c++.lst (acc++vs)::BX)
 |[],acc,zs,τ,k,_,_,_,_,_,ha=>by
  have st:stays ks (c++.lst acc::zs):=fun p hp=>aC ⟨_,rfl⟩ (hs p hp)
  refine⟨[],zs,?_,rfl,by simpa using ha⟩
  unfold eo
  rw[if_pos st]
  simp
 |d::ds,acc,zs,τ,k,hk,hE,Wf,hv,hn,ha=>by
  have st:stays ks (c++.lst acc::zs):=fun p hp=>aC ⟨_,rfl⟩ (hs p hp)
  rw[List.length_cons]at hn
  obtain⟨gZ,v,ws,f1,f2,QV,hr,Oe⟩:=hv 0 d rfl τ (c++.lst acc::zs) hE ⟨_,rfl⟩ (by simp) (by simpa using Wf)
  have f3:(c++.lst acc::zs++ws)[c.length]? =some (.lst acc):=by simp
  have f4:(c++.lst acc::zs++ws).set c.length (.lst (acc++[v]))=c++.lst (acc++[v])::(zs++ws):=by simp
  have fr:Fr c.length (c++.lst acc::zs++ws) (c++.lst (acc++[v])::(zs++ws)):=by rw[←f4];exact Fr.set
  obtain⟨vs,BX,f5,f6,f7⟩:=yD hs hI hR ds (acc++[v]) (zs++ws) gZ (k+1) (by simp[hk]) QV (by rw[←f4];exact hI _ _ _ (by simpa using Oe)) (fun i d' h1=>by
   have:=hv (i+1) d' (by simpa using h1)
   rwa[show k+(i+1)=k+1+i by omega]at this) (by simp only[List.length_append,List.length_cons,List.length_nil];omega) (fun i u hu=>by
   rcases Nat.lt_or_ge i acc.length with hi|hi
   ·rw[List.getElem?_append_left hi]at hu
    exact hR _ _ _ _ (hR _ _ _ _ (ha i u hu) Fr.app) fr
   ·have:i=acc.length:=by
     have:=(List.getElem?_eq_some_iff.mp hu).1
     simp at this
     omega
    subst this
    rw[List.getElem?_append_right (Nat.le_refl _),Nat.sub_self]at hu
    cases hu
    rw[←hk]
    exact hR _ _ _ _ (by simpa using hr) fr)
  refine⟨v::vs,BX,?_,by simp[f6],by simpa using f7⟩
  unfold eo
  rw[if_pos st]
  have f0:dN gZ (c++.lst acc::zs)=some (true,c++.lst acc::zs):=rfl
  simp only[f1,Option.bind_some,f0,if_true,f2,f3,f4]
  rw[if_pos (show acc.length<cE by rw[dS];omega),f5]
  simp
theorem Jv{it:XI}{cap:List (Option Nat)}{g:XG}{te:XE}{σ:Qm.Env}{c0 c:Cells}{ds:List D}{ks:List (Nat×Cell)}(E:Qm.Env→Prop)(Rel:Nat→D→Cells→Prop)(I:Nat→Cells→Prop)(hI:∀i u z,I i u→I i (u.set c.length z))(Wg:I 0 (c++[.lst []]))(hi:it σ c0=some (⟨ds,ks⟩,c))(hs:stays ks c)(hE:E (nU σ cap))(hR:∀i v c1 c2,Rel i v c1→Fr c.length c1 c2→Rel i v c2)
  (hv:∀(i:Nat) d,ds[i]? =some d→∀τ c',E τ→c <+:c'→c.length<c'.length→I i c'→∃gZ v ws,g d τ c'=some (gZ,c')∧te gZ c'=some (v,c'++ws)∧E gZ∧Rel i v (c'++ws)∧I (i+1) (c'++ws))(hn:ds.length≤9000000):
  ∃vs c',df it cap g dN te σ c0=some (.ref c.length,c')∧c <+:c'∧c'[c.length]? =some (.lst vs)∧vs.length=ds.length∧∀i v,vs[i]? =some v→Rel i v c':=by
 obtain⟨vs,zs,e,e2,e3⟩:=yD (te:=te) (g:=g) (E:=E) (Rel:=Rel) (I:=I) (ks:=ks) (c:=c) hs hI hR ds [] [] (nU σ cap) 0 rfl hE Wg (fun i d h=>by rw[Nat.zero_add];exact hv i d h) (by simp;omega) (fun i v h=>by cases h)
 refine⟨vs,c++.lst vs::zs,?_,⟨_,rfl⟩,by simp,e2,by simpa using e3⟩
 unfold df
 rw[hi,Option.bind_some]
 dsimp only
 rw[show c++[Cell.lst []]=c++.lst []::[] from rfl,e]
 rfl
theorem qx{it:XI}{cap:List (Option Nat)}{g:XG}{te:XE}{σ:Qm.Env}{c0 c:Cells}{ds:List D}{ks:List (Nat×Cell)}(E:Qm.Env→Prop)(Rel:Nat→D→Cells→Prop)(hi:it σ c0=some (⟨ds,ks⟩,c))(hs:stays ks c)(hE:E (nU σ cap))(hR:∀i v c1 c2,Rel i v c1→Fr c.length c1 c2→Rel i v c2)
  (hv:∀(i:Nat) d,ds[i]? =some d→∀τ c',E τ→c <+:c'→c.length<c'.length→∃gZ v ws,g d τ c'=some (gZ,c')∧te gZ c'=some (v,c'++ws)∧E gZ∧Rel i v (c'++ws))(hn:ds.length≤9000000):
  ∃vs c',df it cap g dN te σ c0=some (.ref c.length,c')∧c <+:c'∧c'[c.length]? =some (.lst vs)∧vs.length=ds.length∧∀i v,vs[i]? =some v→Rel i v c':=
 Jv E Rel (fun _ _=>True) (fun _ _ _ _=>trivial) trivial hi hs hE hR (fun i d h τ c' h1 h2 h3 _=>let ⟨a,b,d,e,f,g,h⟩:=hv i d h τ c' h1 h2 h3;⟨a,b,d,e,f,g,h,trivial⟩) hn
section
variable{α:Type}(lt:α→α→Bool)
def kT:List α→List α→List α
 |l,[]=>l
 |l,y::r=>l.takeWhile (fun x=>!lt y x)++y::kT (l.dropWhile fun x=>!lt y x) r
def jG:List α→Prop
 |x::y::l=>lt y x=false∧jG (y::l)
 |_=>True
variable{lt}
theorem tE:∀(r l:List α),(kT lt l r).Perm (l++r)
 |[],l=>by simp[kT]
 |y::r,l=>by
  have h:=tE r (l.dropWhile fun x=>!lt y x)
  have e:l++y::r=l.takeWhile (fun x=>!lt y x)++(l.dropWhile (fun x=>!lt y x)++y::r):=by rw[←List.append_assoc,List.takeWhile_append_dropWhile]
  rw[e]
  refine List.Perm.append_left _ ?_
  exact(List.Perm.cons y h).trans List.perm_middle.symm
theorem mE{x:α}{l:List α}(h:jG lt (x::l)):jG lt l:=by
 cases l with
 |nil=>trivial
 |cons y l=>exact h.2
theorem tF{x:α}{l:List α}(h:jG lt l)(h2:∀y,l.head?=some y→lt y x=false):jG lt (x::l):=by
 cases l with
 |nil=>trivial
 |cons y l=>exact⟨h2 y rfl,h⟩
theorem BY:∀{l m:List α},jG lt l→jG lt m→(∀x y,l.getLast?=some x→m.head?=some y→lt y x=false)→jG lt (l++m)
 |[],m,_,h,_=>h
 |[x],m,_,h,h2=>tF h fun y hy=>h2 x y rfl hy
 |x::z::l,m,h,hm,h2=>⟨h.1,BY (l:=z::l) h.2 hm fun a b ha hb=>h2 a b (by simpa using ha) hb⟩
theorem yE{p:α→Bool}:∀{l:List α},jG lt l→jG lt (l.takeWhile p)
 |[],_=>trivial
 |x::l,h=>by
  rw[List.takeWhile_cons]
  split
  ·refine tF (yE (mE h)) fun y hy=>?_
   cases l with
   |nil=>cases hy
   |cons z l=>
    rw[List.takeWhile_cons]at hy
    split at hy
    ·cases hy;exact h.1
    ·cases hy
  ·trivial
theorem yF{p:α→Bool}:∀{l:List α},jG lt l→jG lt (l.dropWhile p)
 |[],_=>trivial
 |x::l,h=>by
  rw[List.dropWhile_cons]
  split
  ·exact yF (mE h)
  ·exact h
theorem Gi:∀(r l:List α) {y:α},(kT lt l r).head?=some y→l.head?=some y∨r.head?=some y
 |[],l,y,h=>.inl h
 |z::r,l,y,h=>by
  unfold kT at h
  cases l with
  |nil=>exact .inr h
  |cons x l=>
   rw[List.takeWhile_cons]at h
   split at h
   ·exact .inl h
   ·exact .inr h
theorem yG{p:α→Bool}:∀{l:List α}{x:α},x∈l.takeWhile p→p x=true
 |[],x,h=>by cases h
 |z::l,x,h=>by
  rw[List.takeWhile_cons]at h
  split at h
  ·rename_i hz
   rcases List.mem_cons.mp h with rfl|h
   ·exact hz
   ·exact yG h
  ·cases h
theorem DI{p:α→Bool}{l:List α}{x:α}(h:(l.takeWhile p).getLast?=some x):p x=true:=yG (List.mem_of_getLast? h)
theorem w_{p:α→Bool}:∀{l:List α}{x:α},(l.dropWhile p).head?=some x→p x=false
 |[],x,h=>by cases h
 |z::l,x,h=>by
  rw[List.dropWhile_cons]at h
  split at h
  ·exact w_ h
  ·rename_i hz
   cases h
   simpa using hz
theorem BZ(Gj:∀x y,lt x y=true→lt y x=false):∀(r l:List α),jG lt l→jG lt r→jG lt (kT lt l r)
 |[],l,h,_=>h
 |y::r,l,h,hr=>by
  unfold kT
  refine BY (yE h) (tF (BZ Gj r _ (yF h) (mE hr)) fun z hz=>?_) fun a b ha hb=>?_
  ·rcases Gi r _ hz with hz|hz
   ·have:=w_ hz
    exact Gj y z (by simpa using this)
   ·cases r with
    |nil=>cases hz
    |cons z' r=>cases hz;exact hr.1
  ·cases hb
   have:=DI ha
   simpa using this
end
section
variable{α:Type}{e:α→D}{lt:α→α→Bool}{x0 x1 f:Nat}{F:FN}
noncomputable abbrev Jw(x0 x1:Nat):List (Nat×FN):=[(x0,b9),(x1,fy)]
structure Look(x0 x1 f:Nat)(e:α→D)(lt:α→α→Bool)(ok:α→Prop):Prop where
 at_:∃F,(Jw x0 x1).lookup f=some F∧∀x y c,ok x→ok y→F [e x,e y] c=some (.bl (lt x y),c)
theorem rO{e:α→D}{l:List α}{k:Nat}{x:α}(h:l[k]? =some x):g_ (l.map e) (k:Int)=some (e x):=BV (by rw[List.getElem?_map,h];rfl)
theorem jN{e:α→D}{a:Nat}{l:List α}{c:Cells}(h:c[a]? =some (.lst (l.map e))):bS [.ref a] c=some (.int l.length,c):=by
 rw[DH,a_ h]
 simp
theorem xa{e:α→D}{a:Nat}{l:List α}{x:α}{c:Cells}(h:c[a]? =some (.lst (l.map e)))(hn:l.length<9000000):b8 (.ref a) [e x] c=some (.bG,c.set a (.lst ((l++[x]).map e))):=by
 unfold b8 one
 simp only[aU h,Option.bind_some,List.length_map]
 rw[if_pos (show l.length<cE by rw[dS];omega)]
 simp
theorem yH{c:Cells}{z y:Cell}:(c++[z]).set c.length y=c++[y]:=by simp
theorem aH{c:Cells}{z:Cell}:(c++[z])[c.length]? =some z:=by simp
noncomputable abbrev wT(x0 x1:Nat):XT:=jL (tV (e2 x5 (eV 4) (eB bS (ae (eV 0) ag)))) (fE (tV (rE (Jw x0 x1) (eV 2) (ae (eV 5) (ae (e2 ar (eV 0) (eV 4)) ag)))))
noncomputable abbrev wB:XS:=ay (cO (eM b8 (eV 3) (ae (e2 ar (eV 0) (eV 4)) ag))) (aR 4 (e2 cy (eV 4) (eC (.int 1))))
theorem MU{ok:α→Prop}(Lk:Look x0 x1 f e lt ok){l:List α}{y:α}{a:Nat}{c:Cells}{w1:Option D}(bj:∀x∈l,ok x)(hy:ok y)(ha:c[a]? =some (.lst (l.map e)))(hl:l.length≤1000000):∀(n k:Nat) (row:List α),l.length - k=n→k≤l.length→row.length≤2000000+k→
  cX (wT x0 x1) wB [some (.ref a),w1,some (.adr f),some (.ref c.length),some (.int k),some (e y)] (c++[.lst (row.map e)])=some (.nx,[some (.ref a),w1,some (.adr f),some (.ref c.length),some (.int (k+((l.drop k).takeWhile fun x=>!lt y x).length:Nat)),some (e y)],c++[.lst ((row++(l.drop k).takeWhile fun x=>!lt y x).map e)]):=by
 obtain⟨F,hF,hc⟩:=Lk.at_
 have wI:∀row:List α,(c++[.lst (row.map e)])[a]? =some (.lst (l.map e)):=fun row=>aY ha
 intro n
 induction n with
 |zero=>
  intro k row hk hle hr
  have Gk:k=l.length:=by omega
  have b1:=jN (wI row)
  have d0:l.drop k=[]:=List.drop_eq_nil_of_le (by omega)
  rw[d0]
  simp only[List.takeWhile_nil,List.length_nil,Nat.add_zero,List.append_nil]
  refine gj ?_
  have fB:decide ((k:Int)<(l.length:Int))=false:=decide_eq_false (by omega)
  erw[b1,fB]
 |succ n ih=>
  intro k row hk hle hr
  have Gk:k<l.length:=by omega
  have b1:=jN (wI row)
  have fB:decide ((k:Int)<(l.length:Int))=true:=decide_eq_true (by omega)
  obtain⟨x,hx⟩:∃x,l[k]? =some x:=⟨_,List.getElem?_eq_getElem Gk⟩
  have QX:x∈l:=List.mem_of_getElem? hx
  have d0:l.drop k=x::l.drop (k+1):=by
   rw[List.drop_eq_getElem_cons Gk]
   rw[List.getElem?_eq_getElem Gk]at hx
   rw[Option.some.inj hx]
  have s1:=a_ (wI row)
  have a1:=rO (e:=e) hx
  have c1:=hc y x (c++[.lst (row.map e)]) hy (bj x QX)
  have MV:wT x0 x1 [some (.ref a),w1,some (.adr f),some (.ref c.length),some (.int k),some (e y)] (c++[.lst (row.map e)])=some (!lt y x,c++[.lst (row.map e)]):=by
   have cv:rE (Jw x0 x1) (eV 2) (ae (eV 5) (ae (e2 ar (eV 0) (eV 4)) ag)) [some (.ref a),w1,some (.adr f),some (.ref c.length),some (.int k),some (e y)] (c++[.lst (row.map e)])=some (.bl (lt y x),c++[.lst (row.map e)]):=by
    unfold rE
    erw[hZ,s1,a1,hF,c1]
   erw[b1,fB,cv]
  cases Cu:lt y x with
  |true=>
   rw[Cu]at MV
   rw[d0,List.takeWhile_cons]
   simp only[Cu,Bool.not_true,Bool.false_eq_true,if_false,List.length_nil,Nat.add_zero,List.append_nil]
   exact gj MV
  |false=>
   rw[Cu]at MV
   rw[d0,List.takeWhile_cons]
   simp only[Cu,Bool.not_false,if_true,List.length_cons]
   have ap:=xa (e:=e) (x:=x) (aH (c:=c) (z:=.lst (row.map e))) (by omega)
   rw[yH]at ap
   have bd:wB [some (.ref a),w1,some (.adr f),some (.ref c.length),some (.int k),some (e y)] (c++[.lst (row.map e)])=some (.nx,[some (.ref a),w1,some (.adr f),some (.ref c.length),some (.int ((k+1:Nat):Int)),some (e y)],c++[.lst ((row++[x]).map e)]):=by
    have s2:=aU (aH (c:=c) (z:=.lst (row.map e)))
    erw[hZ,s1,a1,s2,ap]
    rfl
   have r:=ih (k+1) (row++[x]) (by omega) (by omega) (by simp;omega)
   rw[show k+1+((l.drop (k+1)).takeWhile fun x=>!lt y x).length=k+(((l.drop (k+1)).takeWhile fun x=>!lt y x).length+1)by omega,List.append_assoc]at r
   exact km MV bd r
theorem Ag{e:α→D}{l:List α}{k:Nat}(h:k≤l.length):Qm.cutD (l.map e) (some (k:Int)) none=(l.drop k).map e:=by
 have h1:Qm.x6 (l.map e).length 0 (some (k:Int))=k:=by
  show(if (k:Int)<0 then((k:Int)+(l.map e).length).toNat else min (k:Int).toNat (l.map e).length)=k
  rw[if_neg (by omega),List.length_map,Int.toNat_natCast]
  omega
 have h2:Qm.x6 (l.map e).length (l.map e).length none=l.length:=by simp[Qm.x6]
 unfold Qm.cutD
 rw[h1,h2,List.take_of_length_le (by simp)]
 simp
theorem Jx{ok:α→Prop}(Lk:Look x0 x1 f e lt ok){l r:List α}{a b:Nat}{c:Cells}(hl:∀x∈l,ok x)(hr:∀x∈r,ok x)(ha:c[a]? =some (.lst (l.map e)))(hb:c[b]? =some (.lst (r.map e)))(nl:l.length≤1000000)(nr:r.length≤1000000):
  ∃ws,mC x0 x1 [.ref a,.ref b,.adr f] c=some (.ref c.length,c++.lst ((kT lt l r).map e)::ws):=by
 have lk:∀z,(c++[z])[b]? =some (.lst (r.map e)):=fun z=>aY hb
 have it:eE (eV 1) [some (.ref a),some (.ref b),some (.adr f),some (.ref c.length),some (.int 0),none] (c++[.lst []])=some (⟨r.map e,[(b,.lst (r.map e))]⟩,c++[.lst []]):=tD rfl (lk _)
 obtain⟨σ',c',e1,row,k,z,rfl,rfl,h1,h2,h3⟩:=cJ (ks:=[(b,.lst (r.map e))]) (g:=av 5) (body:=ay (cX (wT x0 x1) wB) (cO (eM b8 (eV 3) (ae (eV 5) ag))))
  (fun i σ c'=>∃row k z,σ=[some (.ref a),some (.ref b),some (.adr f),some (.ref c.length),some (.int ((k:Nat):Int)),z]∧c'=c++[.lst (row.map e)]∧kT lt l r=row++kT lt (l.drop k) (r.drop i)∧k≤l.length∧row.length=k+i)
  (r.map e) 0 [some (.ref a),some (.ref b),some (.adr f),some (.ref c.length),some (.int 0),none] (c++[.lst []])
  (by
   rintro i σ c' ⟨row,k,z,jH,aW,_⟩ p hp
   subst aW
   cases List.mem_singleton.mp hp
   exact lk _)
  (by
   rintro i d σ c' hd ⟨row,k,z,jH,aW,h1,h2,h3⟩
   subst jH aW
   rw[List.getElem?_map]at hd
   obtain⟨y,hy,rfl⟩:=Option.map_eq_some_iff.mp hd
   have DJ:y∈r:=List.mem_of_getElem? hy
   have nh:i<r.length:=(List.getElem?_eq_some_iff.mp hy).1
   have w:=MU Lk (y:=y) (w1:=some (.ref b)) hl (hr y DJ) ha nl _ k row rfl h2 (by omega)
   generalize Fv:(l.drop k).takeWhile (fun x=>!lt y x)=tk at w
   have Wh:(l.drop k).dropWhile (fun x=>!lt y x)=l.drop (k+tk.length):=by
    have h:=List.takeWhile_append_dropWhile (p:=fun x=>!lt y x) (l:=l.drop k)
    rw[Fv]at h
    have h4:=congrArg (List.drop tk.length) h
    rw[List.drop_left]at h4
    rw[←List.drop_drop]
    exact h4
   have Wi:k+tk.length≤l.length:=by
    have:tk.length≤(l.drop k).length:=by rw[←Fv];exact(List.takeWhile_sublist _).length_le
    rw[List.length_drop]at this
    omega
   have ap:=xa (e:=e) (x:=y) (aH (c:=c) (z:=.lst ((row++tk).map e))) (by simp;omega)
   rw[yH]at ap
   have s2:=aU (aH (c:=c) (z:=.lst ((row++tk).map e)))
   refine⟨_,_,[some (.ref a),some (.ref b),some (.adr f),some (.ref c.length),some (.int ((k+tk.length:Nat):Int)),some (e y)],c++[.lst ((row++tk++[y]).map e)],rfl,?_,row++tk++[y],k+tk.length,some (e y),rfl,rfl,?_,Wi,by simp;omega⟩
   ·erw[w,s2,ap]
   ·rw[h1,show 0+i+1=i+1 from by omega,show 0+i=i from by omega]
    rw[List.drop_eq_getElem_cons nh]
    have:r[i]=y:=by
     rw[List.getElem?_eq_getElem nh]at hy
     exact Option.some.inj hy
    rw[this,kT,Fv,Wh]
    simp)
  ⟨[],0,none,rfl,rfl,rfl,Nat.zero_le _,rfl⟩
 have s0:=a_ (aY (zs:=[.lst (row.map e)]) ha)
 have e2:=gE (g:=av 5) (b:=ay (cX (wT x0 x1) wB) (cO (eM b8 (eV 3) (ae (eV 5) ag)))) it
 rw[e1]at e2
 have e3:r.drop (0+(r.map e).length)=[]:=List.drop_eq_nil_of_le (by simp)
 rw[e3,kT]at h1
 have s2:bq (.ref c.length) (c++[.lst (row.map e)]++[.lst ((l.drop k).map e)])=some (c.length,row.map e):=aU (aY aH)
 have Wj:bq (.ref c.length) (c++[.lst (row.map e)])=some (c.length,row.map e):=aU aH
 have s3:bq (.ref (c++[Cell.lst (row.map e)]).length) (c++[.lst (row.map e)]++[.lst ((l.drop k).map e)])=some ((c++[Cell.lst (row.map e)]).length,(l.drop k).map e):=aU aH
 have mx:e_ (.ref c.length) [.ref (c++[Cell.lst (row.map e)]).length] (c++[.lst (row.map e)]++[.lst ((l.drop k).map e)])=some (.bG,c++.lst ((kT lt l r).map e)::[.lst ((l.drop k).map e)]):=by
  unfold e_ one
  simp only[s2,s3,Option.bind_some,List.length_map]
  rw[if_pos (show row.length+(l.drop k).length≤cE by rw[dS,List.length_drop,h3];simp;omega)]
  rw[h1]
  simp
 refine⟨[.lst ((l.drop k).map e)],?_⟩
 have ct:dX (.ref a) (some (k:Int)) none (c++[.lst (row.map e)])=some (.ref (c++[Cell.lst (row.map e)]).length,c++[.lst (row.map e)]++[.lst ((l.drop k).map e)]):=by
  show((b7 (.ref a) (c++[.lst (row.map e)])).bind _)=_
  rw[s0,Option.bind_some,Ag h2]
 rw[mC,jv,pb]
 erw[e2,Wj,ph,ct,mx,Nat.zero_le]
end
section
variable{α:Type}{e:α→D}{lt:α→α→Bool}{x0 x1 f:Nat}
structure Runs(e:α→D)(c:Cells)(ids:List Nat)(rows:List (List α)):Prop where
 len:ids.length=rows.length
 at_:∀(i n:Nat) l,ids[i]? =some n→rows[i]? =some l→c[n]? =some (.lst (l.map e))
theorem Runs.up{c c':Cells}{ids:List Nat}{rows:List (List α)}(h:Runs e c ids rows)(k:c <+:c'):Runs e c' ids rows:=⟨h.len,fun i n l h1 h2=>aC k (h.at_ i n l h1 h2)⟩
theorem Runs.get{c:Cells}{ids:List Nat}{rows:List (List α)}(h:Runs e c ids rows){i:Nat}{l:List α}(hl:rows[i]? =some l):∃n,ids[i]? =some n∧c[n]? =some (.lst (l.map e)):=by
 have hi:=(List.getElem?_eq_some_iff.mp hl).1
 rw[←h.len]at hi
 exact⟨ids[i],List.getElem?_eq_getElem hi,h.at_ i _ l (List.getElem?_eq_getElem hi) hl⟩
def rP(lt:α→α→Bool):List (List α)→List (List α)
 |a::b::r=>kT lt a b::rP lt r
 |r=>r
theorem xb:∀(rows:List (List α)),(rP lt rows).length=(rows.length+1) / 2
 |[]=>by simp[rP]
 |[_]=>by simp[rP]
 |a::b::r=>by
  have:=xb r
  simp only[rP,List.length_cons,this]
  omega
theorem Ah:∀(rows:List (List α)) (i:Nat) (a b:List α),rows[2*i]? =some a→rows[2*i+1]? =some b→(rP lt rows)[i]? =some (kT lt a b)
 |[],i,a,b,h,_=>by simp at h
 |[_],i,a,b,h,g=>by simp at g
 |x::y::r,0,a,b,h,g=>by
  simp at h g
  subst h g
  rfl
 |x::y::r,i+1,a,b,h,g=>by
  rw[show 2*(i+1)=2*i+1+1 by omega]at h
  rw[show 2*(i+1)+1=2*i+1+1+1 by omega]at g
  exact Ah r i a b (by simpa using h) (by simpa using g)
theorem B0:∀(rows:List (List α)) (a:List α),rows.length % 2=1→rows[rows.length - 1]? =some a→(rP lt rows)[rows.length / 2]? =some a
 |[],a,h,_=>by simp at h
 |[x],a,_,h=>by simpa[rP]using h
 |x::y::r,a,h,g=>by
  have hr:r.length % 2=1:=by simp at h;omega
  have h1:(x::y::r).length - 1=(r.length - 1)+1+1:=by simp;omega
  have h2:(x::y::r).length / 2=r.length / 2+1:=by simp;omega
  rw[h1]at g
  rw[h2]
  exact B0 r a hr (by simpa using g)
theorem yI:∀(rows:List (List α)),(rP lt rows).flatten.Perm rows.flatten
 |[]=>.refl _
 |[_]=>.refl _
 |a::b::r=>by
  simp only[rP,List.flatten_cons]
  exact((tE b a).append (yI r)).trans (by rw[List.append_assoc])
theorem xc{P:List α→Prop}(hP:∀a b,P a→P b→P (kT lt a b)):∀(rows:List (List α)),(∀l∈rows,P l)→∀l∈rP lt rows,P l
 |[],h=>h
 |[_],h=>h
 |a::b::r,h=>by
  intro l hl
  rcases List.mem_cons.mp hl with rfl|hl
  ·exact hP _ _ (h a (by simp)) (h b (by simp))
  ·exact xc hP r (fun l hl=>h l (by simp[hl])) l hl
theorem oA{ids:List Nat}{i n:Nat}(h:ids[i]? =some n):g_ (ids.map D.ref) (i:Int)=some (.ref n):=rO (e:=D.ref) h
theorem Jy{lo:Int}{n i:Nat}{d:D}(h:(oh lo n)[i]? =some d):i<n∧d= .int (lo+i*2):=by
 unfold oh at h
 rw[List.getElem?_map]at h
 obtain⟨j,hj,rfl⟩:=Option.map_eq_some_iff.mp h
 obtain⟨h1,h2⟩:=List.getElem?_eq_some_iff.mp hj
 simp at h1 h2
 subst h2
 exact⟨h1,rfl⟩
theorem xf{ok:α→Prop}(Lk:Look x0 x1 f e lt ok){ids:List Nat}{rows:List (List α)}{R:Nat}{c:Cells}(hR:c[R]? =some (.lst (ids.map D.ref)))(hr:Runs e c ids rows)(bj:∀l∈rows,∀x∈l,ok x)(hn:∀l∈rows,l.length≤1000000)(h2: 2≤rows.length)(h3:rows.length≤1000000):
  ∃rQ c',dP x0 x1 [.ref R,.adr f] c=some (.ref c.length,c')∧c <+:c'∧c'[c.length]? =some (.lst (rQ.map D.ref))∧Runs e c' rQ (rP lt rows)∧∀m∈rQ,m∈ids∨c.length≤m:=by
 have xg:=hr.len
 have bl:bS [.ref R] c=some (.int ids.length,c):=jN (e:=D.ref) hR
 have hi:zY (ae (eC (.int 0)) (ae (e2 fF (eB bS (ae (eV 0) ag)) (eC (.int 1))) (ae (eC (.int 2)) ag))) [some (.ref R),some (.adr f),none] c=some (⟨oh 0 (rows.length / 2),[]⟩,c):=by
  unfold zY
  have ha:ae (eC (.int 0)) (ae (e2 fF (eB bS (ae (eV 0) ag)) (eC (.int 1))) (ae (eC (.int 2)) ag)) [some (.ref R),some (.adr f),none] c=some ([.int 0,.int (ids.length - 1),.int 2],c):=by erw[bl]
  rw[ha,Option.bind_some]
  dsimp only
  rw[if_pos ⟨rfl,⟨by omega,by omega⟩,⟨by omega,by omega⟩⟩]
  rw[show((ids.length:Int) - 1 - 0+1) / 2=((rows.length / 2:Nat):Int)by omega]
  rfl
 obtain⟨vs,c1,e1,p1,g1,l1,r1⟩:=qx (te:=ao (mC x0 x1) [] (ae (e2 ar (eV 2) (eV 0)) (ae (e2 ar (eV 2) (e2 cy (eV 0) (eC (.int 1)))) (ae (eV 1) ag)))) (g:=av 0) (cap:=[none,some 1,some 0])
  (fun τ=>∃z,τ=[z,some (.adr f),some (.ref R)]) (fun i v c'=>∃n a b,v= .ref n∧c.length<n∧rows[2*i]? =some a∧rows[2*i+1]? =some b∧c'[n]? =some (.lst ((kT lt a b).map e))) hi hJ ⟨none,rfl⟩
  (fun i v c1 c2 ⟨n,a,b,h1,h2,h3,h4,h5⟩ fr=>⟨n,a,b,h1,h2,h3,h4,fr n _ (by omega) h5⟩)
  (by
   rintro i d hd τ c' ⟨z,oC⟩ pc lc
   subst oC
   obtain⟨Rx,rfl⟩:=Jy hd
   obtain⟨a,ha⟩:∃a,rows[2*i]? =some a:=⟨_,List.getElem?_eq_getElem (by omega)⟩
   obtain⟨b,hb⟩:∃b,rows[2*i+1]? =some b:=⟨_,List.getElem?_eq_getElem (by omega)⟩
   obtain⟨na,ga,ca⟩:=hr.get ha
   obtain⟨nb,gb,cb⟩:=hr.get hb
   have ma:=List.mem_of_getElem? ha
   have mb:=List.mem_of_getElem? hb
   obtain⟨ws,em⟩:=Jx Lk (bj a ma) (bj b mb) (aC pc ca) (aC pc cb) (hn a ma) (hn b mb)
   have s0:=a_ (aC pc hR)
   have t1:=oA ga
   have t2:=oA gb
   rw[show(((2*i:Nat)):Int)=0+(i:Int)*2 by omega]at t1
   rw[show(((2*i+1:Nat)):Int)=0+(i:Int)*2+1 by omega]at t2
   refine⟨[some (.int (0+i*2)),some (.adr f),some (.ref R)],.ref c'.length,.lst ((kT lt a b).map e)::ws,rfl,?_,⟨_,rfl⟩,c'.length,a,b,rfl,by omega,ha,hb,by simp⟩
   erw[hZ,s0,t1,t2,em])
  (by simp[oh];omega)
 have QY:vs.length=rows.length / 2:=by rw[l1];simp[oh]
 have ref:∃ns:List Nat,vs=ns.map D.ref∧ns.length=vs.length∧∀(i n:Nat),ns[i]? =some n→c.length<n∧∃a b,rows[2*i]? =some a∧rows[2*i+1]? =some b∧c1[n]? =some (.lst ((kT lt a b).map e)):=by
  clear e1 g1 l1 QY
  have:∀(vs:List D) (k:Nat),(∀i v,vs[i]? =some v→∃n a b,v=D.ref n∧c.length<n∧rows[2*(k+i)]? =some a∧rows[2*(k+i)+1]? =some b∧c1[n]? =some (.lst ((kT lt a b).map e)))→∃ns:List Nat,vs=ns.map D.ref∧ns.length=vs.length∧∀(i n:Nat),ns[i]? =some n→c.length<n∧∃a b,rows[2*(k+i)]? =some a∧rows[2*(k+i)+1]? =some b∧c1[n]? =some (.lst ((kT lt a b).map e)):=by
   intro vs
   induction vs with
   |nil=>exact fun k _=>⟨[],rfl,rfl,fun i n h=>by cases h⟩
   |cons v vs ih=>
    intro k h
    obtain⟨n,a,b,rfl,h0,h1,h2,h3⟩:=h 0 v rfl
    obtain⟨ns,rfl,h4,h5⟩:=ih (k+1) fun i v hv=>by
     have:=h (i+1) v (by simpa using hv)
     rwa[show k+(i+1)=k+1+i by omega]at this
    refine⟨n::ns,rfl,by simp,fun i m hm=>?_⟩
    cases i with
    |zero=>
     cases hm
     exact⟨h0,a,b,h1,h2,h3⟩
    |succ i=>
     have:=h5 i m (by simpa using hm)
     rwa[show k+1+i=k+(i+1)by omega]at this
  obtain⟨ns,h1,h2,h3⟩:=this vs 0 fun i v hv=>by rw[Nat.zero_add];exact r1 i v hv
  exact⟨ns,h1,h2,fun i n hn=>by have:=h3 i n hn;rwa[Nat.zero_add]at this⟩
 obtain⟨ns,rfl,ln,zy⟩:=ref
 have MW:bS [.ref R] c1=some (.int ids.length,c1):=jN (e:=D.ref) (aC p1 hR)
 have dJ:=xb (lt:=lt) rows
 rw[←ln]at QY
 by_cases TY:rows.length % 2=1
 ·obtain⟨a,ha⟩:∃a,rows[rows.length - 1]? =some a:=⟨_,List.getElem?_eq_getElem (by omega)⟩
  obtain⟨m,gm,cm⟩:=hr.get ha
  have hm:decide ((ids.length:Int) % 2=1)=true:=decide_eq_true (by omega)
  have s0:=a_ (aC p1 hR)
  have t1:g_ (ids.map D.ref) (-1)=some (.ref m):=by
   have fO:ids≠[]:=fun h=>by rw[h]at xg;simp at xg;omega
   have:ids=ids.dropLast++[m]:=by
    have h4:=List.dropLast_concat_getLast fO
    rw[List.getLast_eq_getElem]at h4
    have h5:ids[ids.length - 1]'(by omega)=m:=by
     rw[←xg,List.getElem?_eq_getElem (by omega)]at gm
     exact Option.some.inj gm
    rw[h5]at h4
    exact h4.symm
   rw[this,List.map_append]
   exact Gh
  have Wk:m≠c.length:=by have:=bp cm;omega
  have s2:=aU g1
  have ap:=xa (e:=D.ref) (x:=m) g1 (by omega)
  refine⟨ns++[m],c1.set c.length (.lst ((ns++[m]).map D.ref)),?_,ow p1 (Nat.le_refl _),gU (bp g1),⟨by rw[dJ];simp;omega,fun i n l h1 h2=>?_⟩,fun q hq=>?_⟩
  ·rw[dP,jv,fm]
   erw[e1,MW,hm,hZ,s0,t1,s2,ap]
  ·rcases Nat.lt_or_ge i ns.length with Gm|Gm
   ·rw[List.getElem?_append_left Gm]at h1
    obtain⟨q1,a',b',q2,q3,q4⟩:=zy i n h1
    rw[Ah rows i a' b' q2 q3]at h2
    cases h2
    exact bK q4 (by omega)
   ·have:i=ns.length:=by
     have:=(List.getElem?_eq_some_iff.mp h1).1
     simp at this
     omega
    subst this
    rw[List.getElem?_append_right (Nat.le_refl _),Nat.sub_self]at h1
    cases h1
    rw[QY,B0 rows a TY ha]at h2
    cases h2
    exact bK (aC p1 cm) Wk
  ·rcases List.mem_append.mp hq with hq|hq
   ·obtain⟨i,Gm⟩:=List.getElem?_of_mem hq
    exact .inr (Nat.le_of_lt (zy i q Gm).1)
   ·cases List.mem_singleton.mp hq
    exact .inl (List.mem_of_getElem? gm)
 ·have hm:decide ((ids.length:Int) % 2=1)=false:=decide_eq_false (by omega)
  refine⟨ns,c1,?_,p1,g1,⟨by rw[dJ];omega,fun i n l h1 h2=>?_⟩,fun q hq=>?_⟩
  ·rw[dP,jv,fm]
   erw[e1,MW,hm]
  ·obtain⟨q1,a',b',q2,q3,q4⟩:=zy i n h1
   rw[Ah rows i a' b' q2 q3]at h2
   cases h2
   exact q4
  ·obtain⟨i,Gm⟩:=List.getElem?_of_mem hq
   exact .inr (Nat.le_of_lt (zy i q Gm).1)
theorem Jz{a b:List α}{x:α}:x∈kT lt a b↔x∈a∨x∈b:=by rw[(tE b a).mem_iff,List.mem_append]
theorem JA{ok:α→Prop}(Lk:Look x0 x1 f e lt ok)(Gj:∀x y,lt x y=true→lt y x=false){A:Option D}{c0:Cells}:∀(n:Nat) (ids:List Nat) (rows:List (List α)) (R:Nat) (c:Cells),rows.length=n→c[R]? =some (.lst (ids.map D.ref))→Runs e c ids rows→(∀l∈rows,jG lt l)→(∀l∈rows,∀x∈l,ok x)→rows.flatten.length≤1000000→n≤1000000→c0 <+:c→(∀m∈ids,c0.length≤m)→
  ∃rQ lX R' c',cX (tV (e2 mh (eB bS (ae (eV 2) ag)) (eC (.int 1)))) (aR 2 (ao (dP x0 x1) [] (ae (eV 2) (ae (eV 1) ag)))) [A,some (.adr f),some (.ref R)] c=some (.nx,[A,some (.adr f),some (.ref R')],c')∧c0 <+:c'∧c'[R']? =some (.lst (rQ.map D.ref))∧Runs e c' rQ lX∧lX.length≤1∧lX.flatten.Perm rows.flatten∧(∀l∈lX,jG lt l)∧(rows.length=0→lX.length=0)∧(∀m∈rQ,c0.length≤m):=by
 intro n
 induction n using Nat.strongRecOn with
 |_ n ih=>
  intro ids rows R c hn hR hr iN bj MY YK hp JB
  have bl:bS [.ref R] c=some (.int ids.length,c):=jN (e:=D.ref) hR
  have xg:=hr.len
  by_cases h1:rows.length≤1
  ·have hm:decide ((ids.length:Int) > 1)=false:=decide_eq_false (by omega)
   exact⟨ids,rows,R,c,gj (by erw[bl,hm]),hp,hR,hr,h1,.refl _,iN,id,JB⟩
  ·have hm:decide ((ids.length:Int) > 1)=true:=decide_eq_true (by omega)
   have hsz:∀l∈rows,l.length≤1000000:=fun l hl=>by
    have:=(List.sublist_flatten_of_mem hl).length_le
    omega
   obtain⟨rQ,c',e1,p1,g1,r1,m1⟩:=xf Lk hR hr bj hsz (by omega) (by omega)
   have dJ:=xb (lt:=lt) rows
   have TZ:=yI (lt:=lt) rows
   have Wl:=fY hp
   obtain⟨T1,DK,R2,c2,f1,f2,f3,f4,f5,f6,f7,f8,f9⟩:=ih (rP lt rows).length (by omega) rQ (rP lt rows) c.length c' rfl g1 r1 (xc (P:=jG lt) (fun a b ha hb=>BZ Gj b a ha hb) rows iN) (xc (P:=fun l=>∀x∈l,ok x) (fun a b ha hb x hx=>(Jz.mp hx).elim (ha x) (hb x)) rows bj) (by rw[TZ.length_eq];exact MY) (by omega) (hp.trans p1) (fun m hm=>(m1 m hm).elim (JB m) fun h=>Nat.le_trans Wl h)
   refine⟨T1,DK,R2,c2,km (c':=c) (c2:=c') (σ':=[A,some (.adr f),some (.ref c.length)]) (by erw[bl,hm]) (by erw[e1]) f1,f2,f3,f4,f5,f6.trans TZ,f7,fun h=>by omega,f9⟩
theorem single:∀(xs:List α),(xs.map fun x=>[x]).flatten=xs
 |[]=>rfl
 |x::xs=>by
  rw[List.map_cons,List.flatten_cons,single xs]
  rfl
theorem xh{ok:α→Prop}(Lk:Look x0 x1 f e lt ok)(Gj:∀x y,lt x y=true→lt y x=false){xs:List α}{a:Nat}{c:Cells}(ha:c[a]? =some (.lst (xs.map e)))(bj:∀x∈xs,ok x)(hn:xs.length≤1000000):
  ∃n ys c',d_ x0 x1 [.ref a,.adr f] c=some (.ref n,c')∧c <+:c'∧c.length≤n∧c'[n]? =some (.lst (ys.map e))∧ys.Perm xs∧jG lt ys:=by
 have hi:eE (eV 0) [some (.ref a),some (.adr f),none] c=some (⟨xs.map e,[(a,.lst (xs.map e))]⟩,c):=tD rfl ha
 obtain⟨vs,c1,e1,p1,g1,l1,r1⟩:=qx (te:=fH (ae (eV 0) ag)) (g:=av 0) (cap:=[none]) (fun τ=>∃z,τ=[z]) (fun i v c'=>∃n x,v= .ref n∧c.length<n∧xs[i]? =some x∧c'[n]? =some (.lst ([x].map e))) hi (fun p hp=>by cases List.mem_singleton.mp hp;exact ha) ⟨none,rfl⟩
  (fun i v c1 c2 ⟨n,x,h1,h2,h3,h4⟩ fr=>⟨n,x,h1,h2,h3,fr n _ (by omega) h4⟩)
  (by
   rintro i d hd τ c' ⟨z,oC⟩ pc lc
   subst oC
   rw[List.getElem?_map]at hd
   obtain⟨x,hx,rfl⟩:=Option.map_eq_some_iff.mp hd
   refine⟨[some (e x)],.ref c'.length,[.lst [e x]],rfl,?_,⟨_,rfl⟩,c'.length,x,rfl,lc,hx,by simp⟩
   erw[])
  (by simp;omega)
 have ref:∃ns:List Nat,vs=ns.map D.ref∧Runs e c1 ns (xs.map fun x=>[x])∧∀m∈ns,c.length≤m:=by
  clear e1 g1
  rw[List.length_map]at l1
  have:∀(vs:List D) (xs:List α),vs.length=xs.length→(∀(i:Nat) v,vs[i]? =some v→∃n x,v=D.ref n∧c.length<n∧xs[i]? =some x∧c1[n]? =some (.lst ([x].map e)))→∃ns:List Nat,vs=ns.map D.ref∧Runs e c1 ns (xs.map fun x=>[x])∧∀m∈ns,c.length≤m:=by
   intro vs
   induction vs with
   |nil=>
    intro xs hl _
    cases xs with
    |nil=>exact⟨[],rfl,⟨rfl,fun i n l h=>by cases h⟩,fun m h=>nomatch h⟩
    |cons _ _=>simp at hl
   |cons v vs ih=>
    intro xs hl h
    cases xs with
    |nil=>simp at hl
    |cons x xs=>
     obtain⟨n,x',rfl,h0,h1,h2⟩:=h 0 v rfl
     cases h1
     obtain⟨ns,rfl,h4,h5⟩:=ih xs (by simpa using hl) fun i v hv=>by
      have:=h (i+1) v (by simpa using hv)
      simpa using this
     refine⟨n::ns,rfl,⟨by simpa using h4.len,fun i m l h6 h7=>?_⟩,fun m hm=>?_⟩
     ·cases i with
      |zero=>
       cases h6
       cases h7
       exact h2
      |succ i=>exact h4.at_ i m l (by simpa using h6) (by simpa using h7)
     ·rcases List.mem_cons.mp hm with rfl|hm
      ·exact Nat.le_of_lt h0
      ·exact h5 m hm
  exact this vs xs l1 r1
 obtain⟨ns,rfl,hr,hm⟩:=ref
 have MY:(xs.map fun x=>[x]).flatten=xs:=single xs
 obtain⟨ids,rows,R,c2,f1,f2,f3,f4,f5,f6,f7,f8,f9⟩:=JA Lk Gj (A:=some (.ref a)) (c0:=c) _ ns (xs.map fun x=>[x]) c.length c1 rfl g1 hr (fun l hl=>by
  obtain⟨x,_,rfl⟩:=List.mem_map.mp hl
  trivial) (fun l hl y hy=>by
  obtain⟨x,hx,rfl⟩:=List.mem_map.mp hl
  cases List.mem_singleton.mp hy
  exact bj _ hx) (by rw[MY];exact hn) (by simpa using hn) p1 hm
 rw[MY]at f6
 have xg:=f4.len
 have bl:bS [.ref R] c2=some (.int ids.length,c2):=jN (e:=D.ref) f3
 cases T2:rows with
 |nil=>
  subst T2
  have Wm:ids.length=0:=xg
  have hm:decide ((ids.length:Int)=1)=false:=decide_eq_false (by omega)
  refine⟨c2.length,[],c2++[.lst []],?_,pre_app f2,fY f2,by simp,by simpa using f6,trivial⟩
  rw[d_,jv,jw]
  erw[e1,f1,bl,hm,Nat.zero_le]
 |cons l rest=>
  subst T2
  have Wn:rest=[]:=by
   cases rest with
   |nil=>rfl
   |cons _ _=>simp at f5
  subst Wn
  obtain⟨n,gn,cn⟩:=f4.get (i:=0) (l:=l) rfl
  have Wm:ids.length=1:=xg
  have hm:decide ((ids.length:Int)=1)=true:=decide_eq_true (by omega)
  have s0:=a_ f3
  have t1:g_ (ids.map D.ref) 0=some (.ref n):=oA gn
  refine⟨n,l,c2,?_,f2,f9 n (List.mem_of_getElem? gn),cn,by simpa using f6,f7 l (by simp)⟩
  rw[d_,jv,jw]
  erw[e1,f1,bl,hm,hZ,s0,t1]
end
def sp(x y w:Int):D:=.tup [.int x,.int y,.int w]
structure Sp(k:Nat)(x y w:Int):Prop where
 low:My.C4 x y w
 bx:My.Bd k x
 gF:My.Bd k y
 bw:My.Bd k w
theorem Sp.pos{k:Nat}{x y w:Int}(h:Sp k x y w): 0<w:=h.low.pos
theorem Sp.mono{j k:Nat}{x y w:Int}(h:Sp j x y w)(e:j≤k):Sp k x y w:=⟨h.low,h.bx.mono e,h.gF.mono e,h.bw.mono e⟩
theorem Sp.mk'{k:Nat}{x y w:Int}(hw:w≠0)(bx:My.Bd k x)(gF:My.Bd k y)(bw:My.Bd k w):Sp k (My.sx x y w) (My.sy x y w) (My.sw x y w):=
 ⟨My.oO hw,My.Bd.of_le bx (My.O6 hw),My.Bd.of_le gF (My.O7 hw),My.Bd.of_le bw (My.O8 hw)⟩
abbrev T3:=My.T3
def sd(p:T3):D:=sp p.1 p.2.1 p.2.2
abbrev Ok(k:Nat)(p:T3):Prop:=Sp k p.1 p.2.1 p.2.2
theorem Ok.dE{k:Nat}{p:T3}(h:Ok k p):My.bA p:=h.low
theorem rR{x y w i:Int}{c:Cells}:ar (sp x y w) (.int i) c=(g_ [D.int x,.int y,.int w] i).bind fun d=>some (d,c):=rfl
theorem T4{p q:T3}{c:Cells}(hp:Ok 8000 p)(hq:Ok 8000 q):ly [sd p,sd q] c=some (.bl (decide (p.2.1*q.2.2<q.2.1*p.2.2)),c):=by
 have a1:=hp.bx;have a2:=hp.gF;have a3:=hp.bw;have b1:=hq.bx;have b2:=hq.gF;have b3:=hq.bw
 erw[ly,lr,sd,rR]
theorem gW{p q:T3}{c:Cells}(hp:Ok 8000 p)(hq:Ok 8000 q):b9 [sd p,sd q] c=some (.bl (My.aM p q),c):=by
 have a1:=hp.bx;have a2:=hp.gF;have a3:=hp.bw;have b1:=hq.bx;have b2:=hq.gF;have b3:=hq.bw
 have e:=T4 (c:=c) hp hq
 unfold sd at e ⊢
 unfold My.aM My.mP
 by_cases h:p.1*q.2.2=q.1*p.2.2
 ·rw[if_pos h]
  erw[b9,ou,rR,decide_eq_true h,e]
 ·rw[if_neg h]
  erw[b9,ou,rR,decide_eq_false h]
def pd(p:T3):PyData:=.tuple [.int p.1,.int p.2.1,.int p.2.2]
theorem vy{p q:T3}:pd p=pd q↔p=q:=by
 obtain⟨a,b,c⟩:=p
 obtain⟨x,y,z⟩:=q
 simp[pd]
theorem rS{c:Cells}{k:Nat}{p:T3}:data c (k+2) (sd p)=some (pd p):=rfl
theorem yJ{α β γ:Type}{f:β→Option γ}{g:α→β}{h:α→γ}(e:∀a,f (g a)=some (h a)):∀l:List α,omap f (l.map g)=some (l.map h)
 |[]=>rfl
 |a::l=>by simp only[List.map_cons,omap,e,Option.bind_some,yJ e l]
theorem ET{p q:T3}{c:Cells}:wg (sd p) (sd q) c=some (decide (p=q)):=by
 have e:wg (sd p) (sd q) c=(data c 6 (sd p)).bind fun d=>(data c 6 (sd q)).bind fun e=>some (@decide (d=e) (Classical.propDecidable _)):=rfl
 rw[e,rS,rS,Option.bind_some,Option.bind_some]
 congr 1
 rw[Bool.eq_iff_iff];simp only[decide_eq_true_eq]
 exact vy
theorem gX{p q:T3}{c:Cells}:ij (sd p) (sd q) c=some (.bl (decide (p=q)),c):=by unfold ij;rw[ET];rfl
theorem EU{p q:T3}{c:Cells}:pG (sd p) (sd q) c=some (.bl (!decide (p=q)),c):=by unfold pG;rw[ET];rfl
theorem MZ{p q:T3}:sd p=sd q↔p=q:=by
 obtain⟨a,b,c⟩:=p
 obtain⟨x,y,z⟩:=q
 simp[sd,sp]
def side(p q:T3):D:=.tup [sd p,sd q]
theorem M3(r:T3)(c:Cells):ar (sd r) (.int 0) c=some (.int r.1,c):=rfl
theorem M4(r:T3)(c:Cells):ar (sd r) (.int 1) c=some (.int r.2.1,c):=rfl
theorem M5(r:T3)(c:Cells):ar (sd r) (.int 2) c=some (.int r.2.2,c):=rfl
theorem pW(a b:T3)(c:Cells):ar (side a b) (.int 0) c=some (sd a,c):=rfl
theorem pX(a b:T3)(c:Cells):ar (side a b) (.int 1) c=some (sd b,c):=rfl
theorem QZ{n:Int}{c:Cells}:o_ [.int n] c=some (.int (My.sgn n),c):=by
 unfold My.sgn
 by_cases h: 0<n
 ·rw[if_pos h];erw[o_,o6,decide_eq_true h]
 ·rw[if_neg h]
  by_cases h2:n<0
  ·rw[if_pos h2];erw[o_,o6,decide_eq_false h,decide_eq_true h2]
  ·rw[if_neg h2];erw[o_,o6,decide_eq_false h,decide_eq_false h2]
def dt(a b p:T3):Int:=My.det a.1 a.2.1 a.2.2 b.1 b.2.1 b.2.2 p.1 p.2.1 p.2.2
theorem tG{p q:T3}{c:Cells}(hp:Ok 8000 p)(hq:Ok 8000 q):eQ [sd p,sd q] c=some (sd (p.2.1*q.2.2 - p.2.2*q.2.1,p.2.2*q.1 - p.1*q.2.2,p.1*q.2.1 - p.2.1*q.1),c):=by
 have a1:=hp.bx;have a2:=hp.gF;have a3:=hp.bw;have b1:=hq.bx;have b2:=hq.gF;have b3:=hq.bw
 erw[eQ,kC,M3,M4,M5]
 rfl
theorem DL{a b p:T3}{c:Cells}(ha:Ok 8000 a)(hb:Ok 8000 b)(hp:Ok 8000 p):ng [sd a,sd b,sd p] c=some (.int (My.sgn (dt a b p)),c):=by
 have a1:=ha.bx;have a2:=ha.gF;have a3:=ha.bw;have b1:=hb.bx;have b2:=hb.gF;have b3:=hb.bw;have p1:=hp.bx;have p2:=hp.gF;have p3:=hp.bw
 have e:=tG (c:=c) ha hb
 have k0:My.Bd 90000 (a.2.1*b.2.2 - a.2.2*b.2.1):=(My.Bd.sub (a2.mul b3) (a3.mul b2)).mono (by decide)
 have k1:My.Bd 90000 (a.2.2*b.1 - a.1*b.2.2):=(My.Bd.sub (a3.mul b1) (a1.mul b3)).mono (by decide)
 have k2:My.Bd 90000 (a.1*b.2.1 - a.2.1*b.1):=(My.Bd.sub (a1.mul b2) (a2.mul b1)).mono (by decide)
 have q1:=p1.mono (k:=90000) (by decide);have q2:=p2.mono (k:=90000) (by decide);have q3:=p3.mono (k:=90000) (by decide)
 have s:=QZ (n:=dt a b p) (c:=c)
 unfold dt My.det at s ⊢
 erw[ng,vx,e,M3,M4,M5,cC (kA k0 q1),cC (kA k1 q2),cC (kA k2 q3),s]
theorem pj{a b:T3}{c:Cells}(ha:Ok 8000 a)(hb:Ok 8000 b):dk [side a b] c=some (if My.aM a b=true then side a b else side b a,c):=by
 have e:=gW (c:=c) ha hb
 cases h:My.aM a b
 ·rw[h]at e
  erw[dk,kD,pW,pX,e]
  rfl
 ·rw[h]at e
  erw[dk,kD,pW,pX,e]
def B1(p a b:T3):Bool:=My.wb p.1 p.2.1 p.2.2 a.1 a.2.1 a.2.2 b.1 b.2.1 b.2.2
theorem Gn{p a b:T3}{c:Cells}(hp:Ok 8000 p)(ha:Ok 8000 a)(hb:Ok 8000 b):fX [sd p,side a b] c=some (.bl (B1 p a b),c):=by
 have e:=DL (c:=c) ha hb hp
 have f:=pj (c:=c) ha hb
 unfold B1 My.wb
 by_cases h:dt a b p=0
 ·have hs:My.sgn (dt a b p)=0:=by rw[h];rfl
  unfold dt at h
  rw[if_pos h]
  rw[hs]at e
  by_cases Ai:My.aM a b=true
  ·rw[if_pos Ai]at f
   have wI:My.mP a.1 a.2.1 a.2.2 b.1 b.2.1 b.2.2=true:=Ai
   rw[if_pos wI]
   have g1:=gW (c:=c) hp ha
   have g2:=gW (c:=c) hb hp
   change _=some (D.bl (!My.aM p a&&!My.aM b p),c)
   cases h1:My.aM p a<;>cases h2:My.aM b p<;>rw[h1]at g1<;>rw[h2]at g2<;>erw[fX,iZ,pW,pX,e,f,g1,g2]<;>rfl
  ·rw[if_neg Ai]at f
   have wI:¬My.mP a.1 a.2.1 a.2.2 b.1 b.2.1 b.2.2=true:=Ai
   rw[if_neg wI]
   have g1:=gW (c:=c) hp hb
   have g2:=gW (c:=c) ha hp
   change _=some (D.bl (!My.aM p b&&!My.aM a p),c)
   cases h1:My.aM p b<;>cases h2:My.aM a p<;>rw[h1]at g1<;>rw[h2]at g2<;>erw[fX,iZ,pW,pX,e,f,g1,g2]<;>rfl
 ·have hs:¬My.sgn (dt a b p)=0:=fun g=>h (My.j7 g)
  unfold dt at h
  rw[if_neg h]
  erw[fX,iZ,pW,pX,e,decide_eq_false hs]
theorem M6{i j:Int}{c:Cells}(h:j≠0):gA (.int i) (.int j) c=some (.int (i.fmod j),c):=by
 unfold gA;rw[Gg,if_pos h];rfl
theorem B2{i j:Int}{c:Cells}(h:j≠0)(hb:My.Bd 8900 j):jE (.int i) (.int j) c=some (.int (i.fdiv j),c):=by
 unfold jE;rw[Gg,if_pos ⟨h,hb⟩];rfl
theorem yK{n m:Int}{c:Cells}:kB [.int n,.int m] c=some (.int (Int.gcd n m),c):=by
 have loop:∀(k:Nat) (x y:Int) (z:Option D),y.natAbs=k→∃g z',cX (tV (e2 pG (eV 1) (eC (.int 0)))) (ay (aR 2 (e2 gA (eV 0) (eV 1))) (ay (aR 0 (eV 1)) (aR 1 (eV 2)))) [some (.int x),some (.int y),z] c=some (.nx,[some (.int g),some (.int 0),z'],c)∧(if g<0 then -g else g)=(Int.gcd x y:Int):=by
  intro k
  induction k using Nat.strongRecOn with
  |_ k ih=>
   intro x y z hk
   by_cases h:y=0
   ·subst h
    exact⟨x,z,gj (by erw[]),(My.gcd_zero x).symm⟩
   ·have lt:=My.uP x h
    obtain⟨g,z',e,r⟩:=ih (x.fmod y).natAbs (by omega) y (x.fmod y) (some (.int (x.fmod y))) rfl
    rw[My.yi]at r
    exact⟨g,z',km (c':=c) (c2:=c) (by erw[decide_eq_false h]) (by erw[M6 h]) e,r⟩
 obtain⟨g,z',e,r⟩:=loop _ n m none rfl
 erw[kB,m_,e,r]
theorem M7{x y w:Int}{c:Cells}(hw:w≠0)(hb:My.Bd 8900 w):rM [.int x,.int y,.int w] c=some (sd (My.spT x y w),c):=by
 have d1:=yK (n:=x) (m:=w) (c:=c)
 have d2:=yK (n:=(Int.gcd x w:Int)) (m:=y) (c:=c)
 have n0:=My.qT (x:=x) (y:=y) hw
 have nb:My.Bd 8900 (My.jC x y w):=My.Bd.of_le hb (My.LM hw)
 unfold My.spT My.sx My.sy My.sw
 by_cases h:w<0
 ·have es:My.jC x y w= -(Int.gcd (Int.gcd x w:Int) y:Int):=by unfold My.jC;rw[if_pos h]
  rw[es]at n0 nb ⊢
  erw[rM,rL,d1,d2,h,B2 n0 nb]
  rfl
 ·have es:My.jC x y w=(Int.gcd (Int.gcd x w:Int) y:Int):=by unfold My.jC;rw[if_neg h]
  rw[es]at n0 nb ⊢
  erw[rM,rL,d1,d2,h,B2 n0 nb]
  rfl
theorem Gp{p q:T3}{c:Cells}(a1:My.Bd 8000 p.1)(a2:My.Bd 8000 p.2.1)(a3:My.Bd 8000 p.2.2)(b1:My.Bd 8000 q.1)(b2:My.Bd 8000 q.2.1)(b3:My.Bd 8000 q.2.2):eQ [sd p,sd q] c=some (sd (p.2.1*q.2.2 - p.2.2*q.2.1,p.2.2*q.1 - p.1*q.2.2,p.1*q.2.1 - p.2.1*q.1),c):=by
 erw[eQ,kC,M3,M4,M5]
 rfl
theorem DM{a b p q:T3}{c:Cells}(ha:Ok 1000 a)(hb:Ok 1000 b)(hp:Ok 1000 p)(hq:Ok 1000 q)(hm:My.mW a b p q≠0):lC [side a b,side p q] c=some (sd (My.spT (My.mX a b p q) (My.mY a b p q) (My.mW a b p q)),c)∧Ok 4010 (My.spT (My.mX a b p q) (My.mY a b p q) (My.mW a b p q)):=by
 have e1:=tG (c:=c) (ha.mono (k:=8000) (by decide)) (hb.mono (k:=8000) (by decide))
 have e2:=tG (c:=c) (hp.mono (k:=8000) (by decide)) (hq.mono (k:=8000) (by decide))
 have r:∀{u v:T3},Ok 1000 u→Ok 1000 v→My.Bd 2001 (u.2.1*v.2.2 - u.2.2*v.2.1)∧My.Bd 2001 (u.2.2*v.1 - u.1*v.2.2)∧My.Bd 2001 (u.1*v.2.1 - u.2.1*v.1):=fun h1 h2=>⟨(My.Bd.sub (h1.gF.mul h2.bw) (h1.bw.mul h2.gF)).mono (by decide),(My.Bd.sub (h1.bw.mul h2.bx) (h1.bx.mul h2.bw)).mono (by decide),(My.Bd.sub (h1.bx.mul h2.gF) (h1.gF.mul h2.bx)).mono (by decide)⟩
 obtain⟨x1,x2,x3⟩:=r ha hb
 obtain⟨y1,y2,y3⟩:=r hp hq
 have e3:=Gp (c:=c) (p:=(a.2.1*b.2.2 - a.2.2*b.2.1,a.2.2*b.1 - a.1*b.2.2,a.1*b.2.1 - a.2.1*b.1)) (q:=(p.2.1*q.2.2 - p.2.2*q.2.1,p.2.2*q.1 - p.1*q.2.2,p.1*q.2.1 - p.2.1*q.1)) (x1.mono (by decide)) (x2.mono (by decide)) (x3.mono (by decide)) (y1.mono (by decide)) (y2.mono (by decide)) (y3.mono (by decide))
 have bX:My.Bd 4010 (My.mX a b p q):=by
  unfold My.mX My.m0;exact(My.Bd.sub (x2.mul y3) (x3.mul y2)).mono (by decide)
 have bY:My.Bd 4010 (My.mY a b p q):=by
  unfold My.mY My.m1;exact(My.Bd.sub (x3.mul y1) (x1.mul y3)).mono (by decide)
 have bW:My.Bd 4010 (My.mW a b p q):=by
  unfold My.mW My.m2;exact(My.Bd.sub (x1.mul y2) (x2.mul y1)).mono (by decide)
 have sp:=M7 (x:=My.mX a b p q) (y:=My.mY a b p q) (c:=c) hm (bW.mono (by decide))
 refine⟨?_,Sp.mk' hm bX bY bW⟩
 dsimp only at e3
 have ee:sd ((a.2.2*b.1 - a.1*b.2.2)*(p.1*q.2.1 - p.2.1*q.1) - (a.1*b.2.1 - a.2.1*b.1)*(p.2.2*q.1 - p.1*q.2.2),(a.1*b.2.1 - a.2.1*b.1)*(p.2.1*q.2.2 - p.2.2*q.2.1) - (a.2.1*b.2.2 - a.2.2*b.2.1)*(p.1*q.2.1 - p.2.1*q.1),(a.2.1*b.2.2 - a.2.2*b.2.1)*(p.2.2*q.1 - p.1*q.2.2) - (a.2.2*b.1 - a.1*b.2.2)*(p.2.1*q.2.2 - p.2.2*q.2.1))=sd (My.mX a b p q,My.mY a b p q,My.mW a b p q):=rfl
 rw[ee]at e3
 generalize My.mX a b p q=X at*
 generalize My.mY a b p q=Y at*
 generalize My.mW a b p q=W at*
 erw[lC,lB,pW,pX,e1,e2,e3,M3,M4,M5,sp]
theorem yL{ks:List (Nat×Cell)}{te:XE}{ρ:Qm.Env}{c:Cells}(hs:stays ks c):∀(ds vs acc:List D) (zs:List Cell) (x:Option D),ds.length=vs.length→(∀(i:Nat) d v,ds[i]? =some d→vs[i]? =some v→∀c',c <+:c'→∃ws,te (some d::ρ) c'=some (v,c'++ws))→acc.length+ds.length≤1000→
  ∃BX,eo c.length ks (av 0) dN te ds (x::ρ) (c++.lst acc::zs)=some (c++.lst (acc++vs)::BX)
 |[],vs,acc,zs,x,hl,_,_=>by
  cases vs with
  |nil=>
   have st:stays ks (c++.lst acc::zs):=fun p hp=>aC ⟨_,rfl⟩ (hs p hp)
   refine⟨zs,?_⟩
   unfold eo
   rw[if_pos st]
   simp
  |cons v vs=>simp at hl
 |d::ds,vs,acc,zs,x,hl,hv,hn=>by
  cases vs with
  |nil=>simp at hl
  |cons v vs=>
   have st:stays ks (c++.lst acc::zs):=fun p hp=>aC ⟨_,rfl⟩ (hs p hp)
   rw[List.length_cons]at hn
   obtain⟨ws,f2⟩:=hv 0 d v rfl rfl (c++.lst acc::zs) ⟨_,rfl⟩
   have f3:(c++.lst acc::zs++ws)[c.length]? =some (.lst acc):=by simp
   have f4:(c++.lst acc::zs++ws).set c.length (.lst (acc++[v]))=c++.lst (acc++[v])::(zs++ws):=by simp
   obtain⟨BX,f5⟩:=yL hs ds vs (acc++[v]) (zs++ws) (some d) (by simpa using hl) (fun i d' v' h1 h2=>hv (i+1) d' v' (by simpa using h1) (by simpa using h2)) (by simp only[List.length_append,List.length_cons,List.length_nil];omega)
   refine⟨BX,?_⟩
   unfold eo
   rw[if_pos st]
   have f1:dN (some d::ρ) (c++.lst acc::zs)=some (true,c++.lst acc::zs):=rfl
   simp only[ES,List.set_cons_zero,Option.bind_some,f1,if_true,f2,f3,f4]
   rw[if_pos (Nat.lt_of_lt_of_le (show acc.length<10000 by omega) (iC (Nat.le_refl _))),f5]
   simp
theorem JC{it:XI}{cap:List (Option Nat)}{te:XE}{σ ρ:Qm.Env}{x:Option D}{c:Cells}{ds:List D}(vs:List D)(hi:it σ c=some (⟨ds,[]⟩,c))(hc:nU σ cap=x::ρ)(hl:ds.length=vs.length)(hv:∀(i:Nat) d v,ds[i]? =some d→vs[i]? =some v→∀c',c <+:c'→∃ws,te (some d::ρ) c'=some (v,c'++ws))(hn:ds.length≤1000):
  ∃c',df it cap (av 0) dN te σ c=some (.ref c.length,c')∧c <+:c'∧c'[c.length]? =some (.lst vs):=by
 obtain⟨zs,e⟩:=yL (te:=te) (ρ:=ρ) (ks:=[]) (c:=c) hJ ds vs [] [] x hl hv (by simp;omega)
 refine⟨c++.lst vs::zs,?_,⟨_,rfl⟩,by simp⟩
 unfold df
 rw[hi,Option.bind_some]
 dsimp only
 rw[hc,e]
 rfl
theorem EV{a b p q:T3}{c:Cells}(ha:Ok 8000 a)(hb:Ok 8000 b)(hp:Ok 8000 p)(hq:Ok 8000 q):∃c',jx [side a b,side p q] c=some (.ref c.length,c')∧c <+:c'∧c'[c.length]? =some (.lst [.int (My.sgn (My.aG a b p)),.int (My.sgn (My.aG a b q))]):=by
 have hi:nC (eV 1) [some (side a b),some (side p q)] c=some (⟨[sd p,sd q],[]⟩,c):=rfl
 obtain⟨c',e,h1,h2⟩:=JC (te:=(ao ng [] (ae (e2 ar (eV 1) (eC (.int 0))) (ae (e2 ar (eV 1) (eC (.int 1))) (ae (eV 0) ag))))) (cap:=[none,some 0]) [.int (My.sgn (My.aG a b p)),.int (My.sgn (My.aG a b q))] hi (show nU [some (side a b),some (side p q)] [none,some 0]=none::[some (side a b)] from rfl) rfl (by
  intro i d v g1 g2 c' _
  match i with
  |0=>
   cases g1;cases g2
   exact⟨[],by rw[List.append_nil];have:=DL (c:=c') ha hb hp;erw[pW,pX,this];rfl⟩
  |1=>
   cases g1;cases g2
   exact⟨[],by rw[List.append_nil];have:=DL (c:=c') ha hb hq;erw[pW,pX,this];rfl⟩
  |n+2=>simp at g1) (by simp)
 refine⟨c',?_,h1,h2⟩
 generalize hE:df (nC (eV 1)) [none,some 0] (av 0) dN (ao ng [] (ae (e2 ar (eV 1) (eC (.int 0))) (ae (e2 ar (eV 1) (eC (.int 1))) (ae (eV 0) ag))))=EE at e
 have QV:=hE
 rw[jx,jv,lA,QV]
 erw[e]
def cD:My.DE→D
 |.none=>.bG
 |.lq p=>.tup [.str "spot",sd p]
 |.fW p q=>.tup [.str "stretch",sd p,sd q]
theorem mL:(("stretch":Str).cps.all (·<1114112))=true:=by decide +kernel
theorem ke{c:Cells}{k m:Nat}{xs:List D}(h:c[m]? =some (.lst xs)):data c (k+1) (.ref m)=(omap (data c k) xs).bind fun ds=>some (.list ds):=by
 show(match c[m]? with|some (.lst xs)=>(omap (data c k) xs).bind fun ds=>some (PyData.list ds)|some (.ro xs)=>(omap (data c k) xs).bind fun ds=>some (.list ds)|_=>none)=_
 rw[h]
theorem M8{c:Cells}{m n:Nat}{a b:Int}(h1:c[m]? =some (.lst [.int a,.int b]))(h2:c[n]? =some (.lst [.int 0,.int 0])):ij (.ref m) (.ref n) c=some (.bl (decide (a=0∧b=0)),c):=by
 have d1:∀{m:Nat}{a b:Int},c[m]? =some (.lst [.int a,.int b])→data c 6 (.ref m)=some (.list [.int a,.int b]):=fun {m a b} h=>by
  rw[ke h];rfl
 have e:wg (.ref m) (.ref n) c=(data c 6 (.ref m)).bind fun d=>(data c 6 (.ref n)).bind fun e=>some (@decide (d=e) (Classical.propDecidable _)):=rfl
 unfold ij
 rw[e,d1 h1,d1 h2,Option.bind_some,Option.bind_some,Option.bind_some]
 congr 3
 rw[Bool.eq_iff_iff];simp
theorem Gq{a b p q:T3}{c:Cells}(ha:Ok 8000 a)(hb:Ok 8000 b)(hp:Ok 8000 p)(hq:Ok 8000 q):gq [side a b,side p q] c=some (cD (My.jt (My.fw a b) (My.fw p q)),c):=by
 have T5:∀{u v:T3},Ok 8000 u→Ok 8000 v→(if My.aM u v=true then side u v else side v u)=side (My.fw u v).1 (My.fw u v).2∧Ok 8000 (My.fw u v).1∧Ok 8000 (My.fw u v).2:=fun {u v} h1 h2=>by
  unfold My.fw;split
  ·exact⟨rfl,h1,h2⟩
  ·exact⟨rfl,h2,h1⟩
 have f1:=pj (c:=c) ha hb
 have f2:=pj (c:=c) hp hq
 obtain⟨g1,l1,l2⟩:=T5 ha hb
 obtain⟨g2,r1,r2⟩:=T5 hp hq
 rw[g1]at f1
 rw[g2]at f2
 have h1:=gW (c:=c) l1 r1
 have h2:=gW (c:=c) l2 r2
 unfold My.jt
 dsimp only
 have oP:Ok 8000 (if My.aM (My.fw a b).1 (My.fw p q).1=true then(My.fw p q).1 else(My.fw a b).1):=by split<;>assumption
 have oQ:Ok 8000 (if My.aM (My.fw a b).2 (My.fw p q).2=true then(My.fw a b).2 else(My.fw p q).2):=by split<;>assumption
 have w1:(if My.aM (My.fw a b).1 (My.fw p q).1=true then sd (My.fw p q).1 else sd (My.fw a b).1)=sd (if My.aM (My.fw a b).1 (My.fw p q).1=true then(My.fw p q).1 else(My.fw a b).1):=by split<;>rfl
 have w2:(if My.aM (My.fw a b).2 (My.fw p q).2=true then sd (My.fw a b).2 else sd (My.fw p q).2)=sd (if My.aM (My.fw a b).2 (My.fw p q).2=true then(My.fw a b).2 else(My.fw p q).2):=by split<;>rfl
 have i1:∀σ:Qm.Env,σ[2]? =some (some (side (My.fw a b).1 (My.fw a b).2))→σ[3]? =some (some (side (My.fw p q).1 (My.fw p q).2))→x4 (tV (ao b9 [] (ae (e2 ar (eV 2) (eC (.int 0))) (ae (e2 ar (eV 3) (eC (.int 0))) ag)))) (e2 ar (eV 3) (eC (.int 0))) (e2 ar (eV 2) (eC (.int 0))) σ c=some (sd (if My.aM (My.fw a b).1 (My.fw p q).1=true then(My.fw p q).1 else(My.fw a b).1),c):=fun σ s2 s3=>by
  rw[←w1]
  cases hh:My.aM (My.fw a b).1 (My.fw p q).1<;>rw[hh]at h1<;>erw[s2,s3,pW,h1]
 have i2:∀σ:Qm.Env,σ[2]? =some (some (side (My.fw a b).1 (My.fw a b).2))→σ[3]? =some (some (side (My.fw p q).1 (My.fw p q).2))→x4 (tV (ao b9 [] (ae (e2 ar (eV 2) (eC (.int 1))) (ae (e2 ar (eV 3) (eC (.int 1))) ag)))) (e2 ar (eV 2) (eC (.int 1))) (e2 ar (eV 3) (eC (.int 1))) σ c=some (sd (if My.aM (My.fw a b).2 (My.fw p q).2=true then(My.fw a b).2 else(My.fw p q).2),c):=fun σ s2 s3=>by
  rw[←w2]
  cases hh:My.aM (My.fw a b).2 (My.fw p q).2<;>rw[hh]at h2<;>erw[s2,s3,pX,h2]
 have j1:=i1 [some (side a b),some (side p q),some (side (My.fw a b).1 (My.fw a b).2),some (side (My.fw p q).1 (My.fw p q).2),none,none] rfl rfl
 generalize (if My.aM (My.fw a b).1 (My.fw p q).1=true then(My.fw p q).1 else(My.fw a b).1)=P at*
 have j2:=i2 [some (side a b),some (side p q),some (side (My.fw a b).1 (My.fw a b).2),some (side (My.fw p q).1 (My.fw p q).2),some (sd P),none] rfl rfl
 generalize (if My.aM (My.fw a b).2 (My.fw p q).2=true then(My.fw a b).2 else(My.fw p q).2)=Q at*
 have h3:=gW (c:=c) oP oQ
 clear i1 i2
 unfold gq gk
 generalize YL:x4 (tV (ao b9 [] (ae (e2 ar (eV 2) (eC (.int 0))) (ae (e2 ar (eV 3) (eC (.int 0))) ag)))) (e2 ar (eV 3) (eC (.int 0))) (e2 ar (eV 2) (eC (.int 0)))=E1 at j1 ⊢
 generalize YM:x4 (tV (ao b9 [] (ae (e2 ar (eV 2) (eC (.int 1))) (ae (e2 ar (eV 3) (eC (.int 1))) ag)))) (e2 ar (eV 2) (eC (.int 1))) (e2 ar (eV 3) (eC (.int 1)))=E2 at j2 ⊢
 by_cases M9:P=Q
 ·subst M9
  rw[if_pos rfl]
  erw[f1,f2,j1,j2,gX]
  rfl
 ·rw[if_neg M9]
  cases hh:My.aM P Q
  ·rw[hh]at h3
   erw[f1,f2,j1,j2,gX,M9,h3]
   rfl
  ·rw[hh]at h3
   erw[f1,f2,j1,j2,gX,M9,h3]
   rfl
theorem N4{m:Nat}{x y:D}{c:Cells}(h:c[m]? =some (.lst [x,y])):ar (.ref m) (.int 0) c=some (x,c):=by
 rw[hZ,a_ h];rfl
theorem N5{m:Nat}{x y:D}{c:Cells}(h:c[m]? =some (.lst [x,y])):ar (.ref m) (.int 1) c=some (y,c):=by
 rw[hZ,a_ h];rfl
theorem vz(n:Int): -1≤My.sgn n∧My.sgn n≤1:=by
 rcases My.BN n with⟨_,e⟩|⟨_,e⟩|⟨_,e⟩<;>omega
theorem JD{a b p q:T3}{c:Cells}(ha:Ok 1000 a)(hb:Ok 1000 b)(hp:Ok 1000 p)(hq:Ok 1000 q):∃c',gr [side a b,side p q] c=some (cD (My.cm a b p q),c')∧c <+:c'∧(∀z,My.cm a b p q= .lq z→Ok 8000 z)∧(∀z w,My.cm a b p q= .fW z w→Ok 8000 z∧Ok 8000 w):=by
 have Ai:=ha.mono (k:=8000) (by decide);have tH:=hb.mono (k:=8000) (by decide);have M_:=hp.mono (k:=8000) (by decide);have B3:=hq.mono (k:=8000) (by decide)
 obtain⟨c1,e1,p1,g1⟩:=EV (c:=c) Ai tH M_ B3
 have n1:(c1++[Cell.lst [.int 0,.int 0]])[c1.length]? =some (.lst [.int 0,.int 0]):=List.getElem?_concat_length
 have T6:(c1++[Cell.lst [.int 0,.int 0]])[c.length]? =some (.lst [.int (My.sgn (My.aG a b p)),.int (My.sgn (My.aG a b q))]):=aC ⟨_,rfl⟩ g1
 have q1:=M8 T6 n1
 obtain⟨s1,s2⟩:=vz (My.aG a b p)
 obtain⟨s3,s4⟩:=vz (My.aG a b q)
 obtain⟨s5,s6⟩:=vz (My.aG p q a)
 obtain⟨s7,s8⟩:=vz (My.aG p q b)
 have T7:∀{u v:T3},Ok 8000 u→Ok 8000 v→Ok 8000 (My.fw u v).1∧Ok 8000 (My.fw u v).2:=fun {u v} h1 h2=>by
  unfold My.fw;split
  ·exact⟨h1,h2⟩
  ·exact⟨h2,h1⟩
 have JE:(∀z,My.jt (My.fw a b) (My.fw p q)= .lq z→Ok 8000 z)∧(∀z w,My.jt (My.fw a b) (My.fw p q)= .fW z w→Ok 8000 z∧Ok 8000 w):=by
  obtain⟨l1,l2⟩:=T7 Ai tH
  obtain⟨r1,r2⟩:=T7 M_ B3
  have oP:Ok 8000 (if My.aM (My.fw a b).1 (My.fw p q).1=true then(My.fw p q).1 else(My.fw a b).1):=by split<;>assumption
  have oQ:Ok 8000 (if My.aM (My.fw a b).2 (My.fw p q).2=true then(My.fw a b).2 else(My.fw p q).2):=by split<;>assumption
  unfold My.jt
  dsimp only
  generalize (if My.aM (My.fw a b).1 (My.fw p q).1=true then(My.fw p q).1 else(My.fw a b).1)=P at*
  generalize (if My.aM (My.fw a b).2 (My.fw p q).2=true then(My.fw a b).2 else(My.fw p q).2)=Q at*
  refine⟨fun z hz=>?_,fun z w hz=>?_⟩
  ·split at hz
   ·cases hz;exact oP
   ·split at hz<;>cases hz
  ·split at hz
   ·cases hz
   ·split at hz
    ·cases hz;exact⟨oP,oQ⟩
    ·cases hz
 unfold My.cm
 by_cases g:My.sgn (My.aG a b p)=0∧My.sgn (My.aG a b q)=0
 ·rw[if_pos g]
  refine⟨c1++[.lst [.int 0,.int 0]],?_,p1.trans ⟨_,rfl⟩,JE.1,JE.2⟩
  have f:=Gq (c:=c1++[.lst [.int 0,.int 0]]) Ai tH M_ B3
  rw[decide_eq_true g]at q1
  erw[gr,i5,e1,q1,f]
 ·rw[if_neg g]
  rw[decide_eq_false g]at q1
  obtain⟨c2,e2,p2,g2⟩:=EV (c:=c1++[.lst [.int 0,.int 0]]) M_ B3 Ai tH
  have N6:=aC p2 T6
  have t0:=N4 N6;have t1:=N5 N6;have b0:=N4 g2;have b1:=N5 g2
  have m1:Qm.MulOk (My.sgn (My.aG a b p)) (My.sgn (My.aG a b q)):=mulL (by omega)
  have m2:Qm.MulOk (My.sgn (My.aG p q a)) (My.sgn (My.aG p q b)):=mulL (by omega)
  have pp:c <+:c2:=p1.trans (List.IsPrefix.trans ⟨_,rfl⟩ p2)
  by_cases k1: 0<My.sgn (My.aG a b p)*My.sgn (My.aG a b q)
  ·rw[if_pos (.inl k1)]
   refine⟨c2,?_,pp,fun z hz=>(by cases hz),fun z w hz=>(by cases hz)⟩
   erw[gr,i5,e1,q1,e2,t0,t1,cC m1,k1]
   rfl
  ·by_cases k2: 0<My.sgn (My.aG p q a)*My.sgn (My.aG p q b)
   ·rw[if_pos (.inr k2)]
    refine⟨c2,?_,pp,fun z hz=>(by cases hz),fun z w hz=>(by cases hz)⟩
    erw[gr,i5,e1,q1,e2,t0,t1,b0,b1,cC m1,cC m2,k1,k2]
    rfl
   ·rw[if_neg (fun z=>z.elim k1 k2)]
    obtain⟨f,o⟩:=DM (c:=c2) ha hb hp hq (My.oY hp.pos hq.pos g k1)
    refine⟨c2,?_,pp,fun z hz=>(by cases hz;exact o.mono (by decide)),fun z w hz=>(by cases hz)⟩
    erw[gr,i5,e1,q1,e2,t0,t1,b0,b1,cC m1,cC m2,k1,k2,f]
    rfl
def kP(p:T3):List Int:=[p.1,p.2.1,p.2.2]
theorem EW{p q:T3}:kP p=kP q↔p=q:=by
 obtain⟨a,b,c⟩:=p
 obtain⟨x,y,z⟩:=q
 simp[kP]
theorem Q0(p:T3):k1 (sd p)=some (kP p):=rfl
abbrev S2:=T3×T3
def aA(s:S2):D:=side s.1 s.2
def kS(s:S2):List (List Int):=[kP s.1,kP s.2]
theorem Aj{s t:S2}:kS s=kS t↔s=t:=by
 obtain⟨a,b⟩:=s
 obtain⟨x,y⟩:=t
 simp[kS,EW]
theorem Ak(s:S2):k2 (aA s)=some (kS s):=rfl
def ins(acc:List T3)(p:T3):List T3:=if p∈acc then acc else acc++[p]
def cT(acc:List T3):Cell:=.sS (acc.map fun p=>(kP p,D.bl true))
theorem JF(acc:List T3)(p:T3):mr (acc.map fun p=>(kP p,D.bl true)) (kP p) (.bl true)=(ins acc p).map fun p=>(kP p,D.bl true):=by
 have N7:((acc.map fun p=>(kP p,D.bl true)).any fun q=>decide (q.1=kP p))=true↔p∈acc:=by
  rw[List.any_eq_true]
  constructor
  ·rintro⟨q,hq,h⟩
   obtain⟨r,hr,rfl⟩:=List.mem_map.mp hq
   have:=EW.mp (of_decide_eq_true h)
   rw[←this];exact hr
  ·intro h
   exact⟨_,List.mem_map_of_mem h,decide_eq_true rfl⟩
 unfold mr ins
 by_cases h:p∈acc
 ·rw[if_pos (N7.mpr h),if_pos h,List.map_map]
  refine List.map_congr_left fun q _=>?_
  dsimp only[Function.comp]
  split<;>rfl
 ·rw[if_neg (fun z=>h (N7.mp z)),if_neg h,List.map_append]
  rfl
theorem DN{acc:List T3}{p:T3}(h:acc.Nodup):(ins acc p).Nodup:=by
 unfold ins
 split
 ·exact h
 ·rename_i hp
  rw[List.nodup_append]
  exact⟨h,by simp,fun x hx y hy e=>hp (by rw[←List.mem_singleton.mp hy,←e];exact hx)⟩
theorem JG{acc:List T3}{p x:T3}:x∈ins acc p↔x∈acc∨x=p:=by
 unfold ins
 split
 ·rename_i h
  constructor
  ·exact .inl
  ·rintro(h'|rfl)
   ·exact h'
   ·exact h
 ·simp
theorem B4{acc:List T3}{p:T3}:(ins acc p).length≤acc.length+1:=by
 unfold ins
 split
 ·omega
 ·simp
theorem B5(x0 x1:Nat):Look x0 x1 x0 sd My.aM (Ok 8000):=⟨⟨b9,by simp[List.lookup],fun _ _ _ hp hq=>gW hp hq⟩⟩
def uniq(P:T3→Bool):List T3→List T3→List T3
 |acc,[]=>acc
 |acc,p::l=>uniq P (if P p=true then ins acc p else acc) l
theorem yM{P:T3→Bool}:∀{l acc:List T3}{x:T3},x∈uniq P acc l↔x∈acc∨(x∈l∧P x=true)
 |[],acc,x=>by simp[uniq]
 |p::l,acc,x=>by
  unfold uniq
  rw[yM]
  by_cases hp:P p=true
  ·rw[if_pos hp,JG]
   constructor
   ·rintro((h|rfl)|⟨h,h2⟩)
    ·exact .inl h
    ·exact .inr ⟨List.mem_cons_self,hp⟩
    ·exact .inr ⟨List.mem_cons_of_mem _ h,h2⟩
   ·rintro(h|⟨h,h2⟩)
    ·exact .inl (.inl h)
    ·rcases List.mem_cons.mp h with rfl|h
     ·exact .inl (.inr rfl)
     ·exact .inr ⟨h,h2⟩
  ·rw[if_neg hp]
   constructor
   ·rintro(h|⟨h,h2⟩)
    ·exact .inl h
    ·exact .inr ⟨List.mem_cons_of_mem _ h,h2⟩
   ·rintro(h|⟨h,h2⟩)
    ·exact .inl h
    ·rcases List.mem_cons.mp h with rfl|h
     ·exact absurd h2 hp
     ·exact .inr ⟨h,h2⟩
theorem uj{P:T3→Bool}:∀{l acc:List T3},acc.Nodup→(uniq P acc l).Nodup
 |[],acc,h=>h
 |p::l,acc,h=>by
  unfold uniq
  refine uj ?_
  split
  ·exact DN h
  ·exact h
theorem yN{P:T3→Bool}:∀{l acc:List T3},(uniq P acc l).length≤acc.length+l.length
 |[],acc=>by simp[uniq]
 |p::l,acc=>by
  unfold uniq
  have:=yN (P:=P) (l:=l) (acc:=if P p=true then ins acc p else acc)
  have h2:(if P p=true then ins acc p else acc).length≤acc.length+1:=by
   split
   ·exact B4
   ·omega
  rw[List.length_cons]
  omega
theorem Na{x0 x1:Nat}{a b:T3}{m:Nat}{ps:List T3}{c:Cells}(ha:Ok 8000 a)(hb:Ok 8000 b)(sI:My.aM a b=true)(hm:c[m]? =some (.lst (ps.map sd)))(hp:∀p∈ps,Ok 8000 p)(hn:ps.length≤100000):
  ∃n ys c',mD x0 x1 [side a b,.ref m] c=some (.ref n,c')∧c <+:c'∧c.length≤n∧c'[n]? =some (.lst (ys.map sd))∧ys.Nodup∧(∀p,p∈ys↔p∈ps∧B1 p a b=true)∧jG My.aM ys:=by
 have it:eE (eV 1) [some (side a b),some (.ref m),some (.ref c.length),none] (c++[cT []])=some (⟨ps.map sd,[(m,.lst (ps.map sd))]⟩,c++[cT []]):=tD rfl (aY hm)
 obtain⟨σ',c',e1,acc,z,rfl,rfl,h1⟩:=cJ (ks:=[(m,.lst (ps.map sd))]) (g:=av 3) (body:=cG (tV (ao fX [] (ae (eV 3) (ae (eV 0) ag)))) (oV (eV 2) (eV 3) (eC (.bl true))) bF)
  (fun i σ c'=>∃acc z,σ=[some (side a b),some (.ref m),some (.ref c.length),z]∧c'=c++[cT acc]∧uniq (fun p=>B1 p a b) [] ps=uniq (fun p=>B1 p a b) acc (ps.drop i)∧acc.length≤i)
  (ps.map sd) 0 [some (side a b),some (.ref m),some (.ref c.length),none] (c++[cT []])
  (by
   rintro i σ c' ⟨acc,z,jH,aW,_⟩ p hp
   subst aW
   cases List.mem_singleton.mp hp
   exact aY hm)
  (by
   rintro i d σ c' hd ⟨acc,z,jH,aW,h1,h2⟩
   subst jH aW
   rw[List.getElem?_map]at hd
   obtain⟨y,hy,rfl⟩:=Option.map_eq_some_iff.mp hd
   have DJ:y∈ps:=List.mem_of_getElem? hy
   have nh:i<ps.length:=(List.getElem?_eq_some_iff.mp hy).1
   have oy:=Gn (c:=c++[cT acc]) (hp y DJ) ha hb
   have T8:ps.drop i=y::ps.drop (i+1):=by
    rw[List.drop_eq_getElem_cons nh]
    rw[List.getElem?_eq_getElem nh]at hy
    rw[Option.some.inj hy]
   rw[show 0+i=i by omega]at h1 h2
   cases B6:B1 y a b with
   |true=>
    rw[B6]at oy
    have t1:pT (.ref c.length) (c++[cT acc])=some (c.length,acc.map fun p=>(kP p,D.bl true)):=by
     unfold pT
     simp[cT]
    have pt:oV (eV 2) (eV 3) (eC (.bl true)) [some (side a b),some (.ref m),some (.ref c.length),some (sd y)] (c++[cT acc])=some (.nx,[some (side a b),some (.ref m),some (.ref c.length),some (sd y)],c++[cT (ins acc y)]):=by
     unfold oV
     erw[t1,Q0]
     rw[if_pos (show(acc.map fun p=>(kP p,D.bl true)).length<cE by rw[dS,List.length_map];omega),JF]
     simp[cT]
    refine⟨_,_,_,_,rfl,(by erw[oy,pt]),ins acc y,some (sd y),rfl,rfl,?_,?_⟩
    ·rw[h1,T8,uniq,B6,if_pos rfl,show 0+i+1=i+1 by omega]
    ·have:=B4 (acc:=acc) (p:=y)
     omega
   |false=>
    rw[B6]at oy
    refine⟨_,_,_,_,rfl,(by erw[oy]),acc,some (sd y),rfl,rfl,?_,by omega⟩
    rw[h1,T8,uniq,B6,if_neg (by decide),show 0+i+1=i+1 by omega])
  ⟨[],none,rfl,rfl,rfl,Nat.le_refl _⟩
 obtain⟨h1,h2⟩:=h1
 have e2:=gE (g:=av 3) (b:=cG (tV (ao fX [] (ae (eV 3) (ae (eV 0) ag)))) (oV (eV 2) (eV 3) (eC (.bl true))) bF) it
 rw[e1]at e2
 have e3:ps.drop (0+(ps.map sd).length)=[]:=List.drop_eq_nil_of_le (by simp)
 rw[e3,uniq]at h1
 have N8:∀p,p∈acc↔p∈ps∧B1 p a b=true:=fun p=>by rw[←h1,yM];simp
 have JH:acc.Nodup:=by rw[←h1];exact uj .nil
 have hlen:acc.length≤ps.length:=by rw[←h1];have:=yN (P:=fun p=>B1 p a b) (l:=ps) (acc:=[]);simpa using this
 have bl:oi [.ref c.length] (c++[cT acc])=some (.ref (c++[cT acc]).length,c++[cT acc]++[.lst (acc.map sd)]):=by
  unfold oi one pT
  simp only[aH,cT,Option.bind_some]
  rw[if_pos (show(acc.map fun p=>(kP p,D.bl true)).length≤cE by rw[dS,List.length_map];omega),List.map_map]
  rfl
 obtain⟨n,ys,c2,f1,f2,f3,f4,f5,f6⟩:=xh (B5 x0 x1) (fun x y=>My.cL) (xs:=acc) (a:=(c++[cT acc]).length) (c:=c++[cT acc]++[.lst (acc.map sd)]) aH (fun x hx=>hp x ((N8 x).mp hx).1) (by omega)
 have ah:=gW (c:=c++[cT acc]) ha hb
 rw[sI]at ah
 refine⟨n,ys,c2,?_,(show c <+:c++[cT acc]++[.lst (acc.map sd)] from⟨_,(List.append_assoc ..).symm⟩).trans f2,?_,f4,f5.nodup_iff.mpr JH,fun p=>by rw[f5.mem_iff,N8],f6⟩
 ·have nw:z_ [some (side a b),some (.ref m),none,none] c=some (.ref c.length,c++[cT []]):=rfl
  rw[mD,jv,rN]
  erw[nw,e2,pW,pX,ah,bl,f1]
 ·simp at f3
  omega
def jZ(s t:S2):Bool:=if s.1=t.1 then(if s.2=t.2 then false else My.aM s.2 t.2)else My.aM s.1 t.1
theorem Al{s t:S2}{c:Cells}(a1:Ok 8000 s.1)(a2:Ok 8000 s.2)(b1:Ok 8000 t.1)(b2:Ok 8000 t.2):fy [aA s,aA t] c=some (.bl (jZ s t),c):=by
 have it:Bn (ae (eV 0) (ae (eV 1) ag)) [some (aA s),some (aA t),none,none] c=some (⟨[.tup [sd s.1,sd t.1],.tup [sd s.2,sd t.2]],[]⟩,c):=rfl
 have n1:=EU (p:=s.1) (q:=t.1) (c:=c)
 have n2:=EU (p:=s.2) (q:=t.2) (c:=c)
 have g1:=gW (c:=c) a1 b1
 have g2:=gW (c:=c) a2 b2
 have st:stays [] c:=hJ
 rw[fy,jv,jc]
 unfold jZ
 have fo:dO (Bn (ae (eV 0) (ae (eV 1) ag))) (c_ 2 (aQ (av 2) (aQ (av 3) cZ))) (cG (tV (e2 pG (eV 2) (eV 3))) (aS (ao b9 [] (ae (eV 2) (ae (eV 3) ag)))) bF) [some (aA s),some (aA t),none,none] c=(if s.1=t.1 then(if s.2=t.2 then some (.nx,[some (aA s),some (aA t),some (sd s.2),some (sd t.2)],c)else some (.rt (.bl (My.aM s.2 t.2)),[some (aA s),some (aA t),some (sd s.2),some (sd t.2)],c))else some (.rt (.bl (My.aM s.1 t.1)),[some (aA s),some (aA t),some (sd s.1),some (sd t.1)],c)):=by
  rw[gE it]
  dsimp only
  unfold gD
  rw[if_pos st]
  by_cases h1:s.1=t.1
  ·rw[if_pos h1]
   rw[decide_eq_true h1]at n1
   erw[n1]
   unfold gD
   rw[if_pos st]
   by_cases h2:s.2=t.2
   ·rw[if_pos h2]
    rw[decide_eq_true h2]at n2
    erw[n2]
    unfold gD
    rw[if_pos st]
   ·rw[if_neg h2]
    rw[decide_eq_false h2]at n2
    erw[n2,g2]
  ·rw[if_neg h1]
   rw[decide_eq_false h1]at n1
   erw[n1,g1]
 have DO:dO (Bn (ae (eV 0) (ae (eV 1) ag))) (c_ 2 (aQ (av 2) (aQ (av 3) cZ))) (cG (tV (e2 pG (eV 2) (eV 3))) (aS (ao b9 [] (ae (eV 2) (ae (eV 3) ag)))) bF) [some (aA s),some (aA t),none,none] c=_:=fo
 by_cases h1:s.1=t.1
 ·rw[if_pos h1]at DO ⊢
  by_cases h2:s.2=t.2
  ·rw[if_pos h2]at DO ⊢
   erw[DO]
  ·rw[if_neg h2]at DO ⊢
   erw[DO]
 ·rw[if_neg h1]at DO ⊢
  erw[DO]
structure ik(k:Nat)(s:S2):Prop where
 o1:Ok k s.1
 o2:Ok k s.2
theorem DP{x0 x1:Nat}(h:x0≠x1):Look x0 x1 x1 aA jZ (ik 8000):=⟨⟨fy,by
 simp only[List.lookup]
 have:(x1==x0)=false:=by simpa using Ne.symm h
 rw[this]
 simp,fun _ _ _ hp hq=>Al hp.o1 hp.o2 hq.o1 hq.o2⟩⟩
theorem yO(s t:S2)(h:jZ s t=true):jZ t s=false:=by
 unfold jZ at*
 by_cases h1:s.1=t.1
 ·rw[if_pos h1]at h
  rw[if_pos h1.symm]
  by_cases h2:s.2=t.2
  ·rw[if_pos h2]at h;cases h
  ·rw[if_neg h2]at h
   rw[if_neg (Ne.symm h2)]
   exact My.cL h
 ·rw[if_neg h1]at h
  rw[if_neg (Ne.symm h1)]
  exact My.cL h
def gJ(s:S2):S2:=My.fw s.1 s.2
theorem DQ{s:S2}{c:Cells}(h:ik 8000 s):dk [aA s] c=some (aA (gJ s),c):=by
 have:=pj (c:=c) h.o1 h.o2
 unfold aA gJ My.fw
 rw[this]
 split<;>rfl
def Kq(S:List Nat)(c c':Cells):Prop:=∀j z,j∉S→c[j]? =some z→c'[j]? =some z
theorem Kq.refl(S:List Nat)(c:Cells):Kq S c c:=fun _ _ _ h=>h
theorem Kq.pre{S:List Nat}{c c':Cells}(h:c <+:c'):Kq S c c':=fun _ _ _ e=>aC h e
theorem Kq.trans{S T:List Nat}{c c1 c2:Cells}(a:Kq S c c1)(b:Kq T c1 c2)(h:∀x∈T,x∈S∨c.length≤x):Kq S c c2:=fun j z hj e=>b j z (fun hm=>(h j hm).elim hj fun hl=>absurd (bp e) (by omega)) (a j z hj e)
abbrev KV:=List (S2×Nat×List Int)
def kc(ks:KV):Cell:=.gH (ks.map fun k=>(kS k.1,D.ref k.2.1))
def ids(ks:KV):List Nat:=ks.map fun k=>k.2.1
def keys(ks:KV):List S2:=ks.map fun k=>k.1
structure DS(c:Cells)(L:Nat)(ks:KV):Prop where
 at_:c[L]? =some (kc ks)
 cell:∀k∈ks,c[k.2.1]? =some (.lst (k.2.2.map D.int))
 nd:(ids ks).Nodup
 kd:(keys ks).Nodup
 ne:L∉ids ks
theorem DS.keep{c c':Cells}{L:Nat}{ks:KV}(h:DS c L ks){S:List Nat}(k:Kq S c c')(hL:L∉S)(hi:∀n∈ids ks,n∉S):DS c' L ks:=⟨k L _ hL h.at_,fun x hx=>k _ _ (hi _ (List.mem_map_of_mem hx)) (h.cell x hx),h.nd,h.kd,h.ne⟩
theorem DS.up{c c':Cells}{L:Nat}{ks:KV}(h:DS c L ks)(k:c <+:c'):DS c' L ks:=h.keep (S:=[]) (Kq.pre k) (by simp) (by simp)
theorem DS.rT{c:Cells}{L:Nat}{ks:KV}(h:DS c L ks){n:Nat}(hn:n∈ids ks):n<c.length:=by
 obtain⟨k,hk,rfl⟩:=List.mem_map.mp hn
 exact bp (h.cell k hk)
theorem vA:∀{ks:KV}{s:S2},(∃k∈ks,k.1=s)→∃k∈ks,k.1=s∧m7 (ks.map fun k=>(kS k.1,D.ref k.2.1)) (kS s)=some (D.ref k.2.1)
 |[],s,h=>by obtain⟨_,hk,_⟩:=h;cases hk
 |k::ks,s,h=>by
  by_cases e:k.1=s
  ·exact⟨k,List.mem_cons_self,e,by simp[m7,e]⟩
  ·obtain⟨k',pJ,he⟩:=h
   rcases List.mem_cons.mp pJ with rfl|pJ
   ·exact absurd he e
   ·obtain⟨k2,h2,h3,h4⟩:=vA (ks:=ks) ⟨k',pJ,he⟩
    refine⟨k2,List.mem_cons_of_mem _ h2,h3,?_⟩
    unfold m7 at h4 ⊢
    rw[List.map_cons,List.find?_cons]
    have:decide (kS k.1=kS s)=false:=decide_eq_false fun z=>e (Aj.mp z)
    simp only[this]
    exact h4
theorem Gr{ks:KV}{s:S2}(h:s∉keys ks):m7 (ks.map fun k=>(kS k.1,D.ref k.2.1)) (kS s)=none:=by
 unfold m7
 rw[Option.map_eq_none_iff,List.find?_eq_none]
 intro x hx
 obtain⟨k,hk,rfl⟩:=List.mem_map.mp hx
 simp only[decide_eq_true_eq]
 exact fun z=>h (List.mem_map.mpr ⟨k,hk,Aj.mp z⟩)
theorem JI{c:Cells}{L:Nat}{ks:KV}(h:c[L]? =some (kc ks)):nF (.ref L) c=some (L,ks.map fun k=>(kS k.1,D.ref k.2.1)):=by
 unfold nF
 simp[h,kc]
def iM(ks:KV)(n:Nat)(s:S2)(zs:List Int):KV:=if s∈keys ks then ks.map (fun k=>if k.1=s then(k.1,k.2.1,k.2.2++zs)else k)else ks++[(s,n,zs)]
theorem qy{ks:KV}{n:Nat}{s:S2}{zs:List Int}:keys (iM ks n s zs)=if s∈keys ks then keys ks else keys ks++[s]:=by
 unfold iM
 split
 ·unfold keys
  rw[List.map_map]
  refine List.map_congr_left fun k _=>?_
  dsimp only[Function.comp]
  split<;>rfl
 ·simp[keys]
theorem kf{ks:KV}{n:Nat}{s:S2}{zs:List Int}:ids (iM ks n s zs)=if s∈keys ks then ids ks else ids ks++[n]:=by
 unfold iM
 split
 ·unfold ids
  rw[List.map_map]
  refine List.map_congr_left fun k _=>?_
  dsimp only[Function.comp]
  split<;>rfl
 ·simp[ids]
theorem JJ{o k:XE}{σ:Qm.Env}{c:Cells}{L:Nat}{ks:KV}{s:S2}{zs:List Int}(h:DS c L ks)(ho:o σ c=some (.ref L,c))(hk:k σ c=some (aA s,c))(hn:ks.length<1000000):
  ∃n c1 row,ff o k σ c=some (.ref n,c1)∧c1[n]? =some (.lst (row.map D.int))∧(row=[]∨∃q∈ks,q.2.2=row)∧c1.length=c.length+1∧DS (c1.set n (.lst ((row++zs).map D.int))) L (iM ks c.length s zs)∧Kq (L::ids ks) c (c1.set n (.lst ((row++zs).map D.int)))∧Kq (L::ids ks) c c1∧(n=c.length∨n∈ids ks):=by
 have t1:=JI h.at_
 have YN:=bp h.at_
 have ev:ff o k σ c=(match m7 (ks.map fun k=>(kS k.1,D.ref k.2.1)) (kS s)with
  |some d=>some (d,c++[Cell.lst []])
  |none=>some (D.ref c.length,(c++[Cell.lst []]).set L (Cell.gH ((ks.map fun k=>(kS k.1,D.ref k.2.1))++[(kS s,D.ref c.length)])))):=by
  unfold ff
  simp only[ho,hk,t1,Option.bind_some,Ak]
  rw[if_pos (show(ks.map fun k=>(kS k.1,D.ref k.2.1)).length<cE by rw[dS,List.length_map];omega)]
  all_goals (cases m7 (ks.map fun k=>(kS k.1,D.ref k.2.1)) (kS s)<;>rfl)
 by_cases hs:s∈keys ks
 ·obtain⟨q,hq,Nb,ha⟩:=vA (ks:=ks) (s:=s) (by
   obtain⟨q,hq,e⟩:=List.mem_map.mp hs
   exact⟨q,hq,e⟩)
  rw[ha]at ev
  have Wo:=aY (zs:=[Cell.lst []]) (h.cell q hq)
  have Wq:=bp (h.cell q hq)
  have Q1:q.2.1∈ids ks:=List.mem_map_of_mem hq
  have Wr:q.2.1≠L:=fun e=>h.ne (by rw[←e];exact Q1)
  refine⟨q.2.1,_,q.2.2,ev,Wo,.inr ⟨q,hq,rfl⟩,by simp,⟨?_,?_,?_,?_,?_⟩,?_,Kq.pre ⟨_,rfl⟩,.inr Q1⟩
  ·rw[bK (aY h.at_) Wr.symm]
   unfold iM kc
   rw[if_pos hs,List.map_map]
   refine congrArg some (congrArg Cell.gH (List.map_congr_left fun k _=>?_))
   dsimp only[Function.comp]
   split<;>rfl
  ·intro x hx
   unfold iM at hx
   rw[if_pos hs]at hx
   obtain⟨k,pJ,rfl⟩:=List.mem_map.mp hx
   by_cases e:k.1=s
   ·have Ws:k=q:=by
     have inj:∀{l:KV},(keys l).Nodup→∀x∈l,∀y∈l,x.1=y.1→x=y:=by
      intro l
      induction l with
      |nil=>exact fun _ x hx=>nomatch hx
      |cons a l ih=>
       intro nd x hx y hy xj
       have kE:a.1∉keys l∧(keys l).Nodup:=by simpa[keys]using nd
       rcases List.mem_cons.mp hx with rfl|ig<;>rcases List.mem_cons.mp hy with rfl|kM
       ·rfl
       ·exact absurd (List.mem_map.mpr ⟨y,kM,xj.symm⟩) kE.1
       ·exact absurd (List.mem_map.mpr ⟨x,ig,xj⟩) kE.1
       ·exact ih kE.2 x ig y kM xj
     exact inj h.kd k pJ q hq (e.trans Nb.symm)
    subst Ws
    rw[if_pos e]
    exact gU (by simp;omega)
   ·rw[if_neg e]
    have fO:k.2.1≠q.2.1:=fun z=>by
     have inj:∀{l:KV},(ids l).Nodup→∀x∈l,∀y∈l,x.2.1=y.2.1→x=y:=by
      intro l
      induction l with
      |nil=>exact fun _ x hx=>nomatch hx
      |cons a l ih=>
       intro nd x hx y hy xj
       have kE:a.2.1∉ids l∧(ids l).Nodup:=by simpa[ids]using nd
       rcases List.mem_cons.mp hx with rfl|ig<;>rcases List.mem_cons.mp hy with rfl|kM
       ·rfl
       ·exact absurd (List.mem_map.mpr ⟨y,kM,xj.symm⟩) kE.1
       ·exact absurd (List.mem_map.mpr ⟨x,ig,xj⟩) kE.1
       ·exact ih kE.2 x ig y kM xj
     rw[inj h.nd k pJ q hq z]at e
     exact e Nb
    exact bK (aY (h.cell k pJ)) fO
  ·rw[kf,if_pos hs];exact h.nd
  ·rw[qy,if_pos hs];exact h.kd
  ·rw[kf,if_pos hs];exact h.ne
  ·intro j z hj e
   refine bK (aY e) fun z=>hj ?_
   rw[z]
   exact List.mem_cons_of_mem _ Q1
 ·rw[Gr hs]at ev
  have Nc:c.length≠L:=by omega
  have zU:((c++[Cell.lst []]).set L (Cell.gH ((ks.map fun k=>(kS k.1,D.ref k.2.1))++[(kS s,D.ref c.length)])))[c.length]? =some (.lst []):=bK aH Nc
  refine⟨c.length,_,[],ev,zU,.inl rfl,by simp,⟨?_,?_,?_,?_,?_⟩,?_,fun j z hj e=>bK (aY e) (fun w=>hj (by rw[w];exact List.mem_cons_self)),.inl rfl⟩
  ·refine bK ?_ Nc.symm
   rw[gU (by simp;omega)]
   unfold iM kc
   rw[if_neg hs]
   simp
  ·intro x hx
   unfold iM at hx
   rw[if_neg hs]at hx
   rcases List.mem_append.mp hx with hx|hx
   ·have T9:=h.cell x hx
    have Wt:x.2.1∈ids ks:=List.mem_map_of_mem hx
    have:=bp T9
    exact bK (bK (aY T9) fun z=>h.ne (by rw[←z];exact Wt)) (by omega)
   ·cases List.mem_singleton.mp hx
    exact gU (by simp)
  ·rw[kf,if_neg hs,List.nodup_append]
   refine⟨h.nd,by simp,fun x hx y hy e=>?_⟩
   have:=h.rT hx
   cases List.mem_singleton.mp hy
   omega
  ·rw[qy,if_neg hs,List.nodup_append]
   exact⟨h.kd,by simp,fun x hx y hy e=>hs (by rw[←List.mem_singleton.mp hy,←e];exact hx)⟩
  ·rw[kf,if_neg hs]
   intro z
   rcases List.mem_append.mp z with z|z
   ·exact h.ne z
   ·exact Nc (List.mem_singleton.mp z).symm
  ·intro j z hj e
   have:=bp e
   exact bK (bK (aY e) fun z=>hj (by rw[z];exact List.mem_cons_self)) (by omega)
theorem pre_of{c c':Cells}(h:∀(j:Nat) z,c[j]? =some z→c'[j]? =some z):c <+:c':=by
 rw[List.prefix_iff_getElem?]
 intro i hi
 exact h i _ (List.getElem?_eq_getElem hi)
theorem Kq.to{S:List Nat}{c0 c c':Cells}(k:Kq S c c')(p:c0 <+:c)(h:∀n∈S,c0.length≤n):c0 <+:c':=pre_of fun j z e=>k j z (fun hj=>by have:=h j hj;have:=bp e;omega) (aC p e)
def num(S:List S2)(s:S2)(i:Nat):List Int:=((List.range i).filter fun k=>decide ((S[k]?).map gJ=some s)).map fun(k:Nat)=>(k:Int)
theorem Gs(S:List S2)(s:S2)(i:Nat):num S s (i+1)=num S s i++(if (S[i]?).map gJ=some s then [(i:Int)] else []):=by
 unfold num
 rw[List.range_succ,List.filter_append,List.map_append]
 congr 1
 by_cases h:(S[i]?).map gJ=some s
 ·rw[if_pos h]
  simp[h]
 ·rw[if_neg h]
  simp[h]
structure Nums(S:List S2)(i:Nat)(ks:KV):Prop where
 row:∀q∈ks,q.2.2=num S q.1 i
 key:∀s,s∈keys ks↔∃k,k<i∧(S[k]?).map gJ=some s
theorem JK{S:List S2}{s:S2}{i:Nat}(h:¬∃k,k<i∧(S[k]?).map gJ=some s):num S s i=[]:=by
 unfold num
 rw[List.map_eq_nil_iff,List.filter_eq_nil_iff]
 intro k hk hd
 exact h ⟨k,List.mem_range.mp hk,of_decide_eq_true hd⟩
theorem Nums.step{S:List S2}{i n:Nat}{ks:KV}{s:S2}(h:Nums S i ks)(hs:(S[i]?).map gJ=some s):Nums S (i+1) (iM ks n s [(i:Int)]):=by
 constructor
 ·intro q hq
  rw[Gs]
  unfold iM at hq
  by_cases hk:s∈keys ks
  ·rw[if_pos hk]at hq
   obtain⟨k,pJ,rfl⟩:=List.mem_map.mp hq
   by_cases e:k.1=s
   ·simp only[if_pos e]
    rw[if_pos (by rw[hs,e]),h.row k pJ]
   ·simp only[if_neg e]
    rw[if_neg (by rw[hs];exact fun z=>e (Option.some.inj z).symm),List.append_nil,h.row k pJ]
  ·rw[if_neg hk]at hq
   rcases List.mem_append.mp hq with hq|hq
   ·have e:q.1≠s:=fun z=>hk (by rw[←z];exact List.mem_map_of_mem hq)
    rw[if_neg (by rw[hs];exact fun z=>e (Option.some.inj z).symm),List.append_nil,h.row q hq]
   ·cases List.mem_singleton.mp hq
    rw[if_pos hs,JK (fun z=>hk ((h.key s).mpr z))]
    rfl
 ·intro t
  rw[qy]
  have:(∃k,k<i+1∧(S[k]?).map gJ=some t)↔(∃k,k<i∧(S[k]?).map gJ=some t)∨t=s:=by
   constructor
   ·rintro⟨k,hk,e⟩
    rcases Nat.lt_or_ge k i with h'|h'
    ·exact .inl ⟨k,h',e⟩
    ·have:k=i:=by omega
     subst this
     rw[hs]at e
     exact .inr (Option.some.inj e).symm
   ·rintro(⟨k,hk,e⟩|rfl)
    ·exact⟨k,by omega,e⟩
    ·exact⟨i,by omega,hs⟩
  rw[this,←h.key t]
  split
  ·rename_i hk
   constructor
   ·exact .inl
   ·rintro(z|rfl)
    ·exact z
    ·exact hk
  ·rw[List.mem_append,List.mem_singleton]
theorem yP{ks:KV}{n:Nat}{s:S2}{zs:List Int}:(iM ks n s zs).length≤ks.length+1:=by
 unfold iM
 split<;>simp
theorem vB{n i:Nat}{lo:Int}{d:D}(h:(dQ lo n)[i]? =some d):i<n∧d= .int (lo+(i:Int)):=by
 unfold dQ at h
 rw[List.getElem?_map]at h
 obtain⟨j,hj,rfl⟩:=Option.map_eq_some_iff.mp h
 obtain⟨h1,h2⟩:=List.getElem?_eq_some_iff.mp hj
 simp at h1 h2
 subst h2
 exact⟨h1,rfl⟩
theorem Gu{m:Nat}{S:List S2}{c:Cells}(hm:c[m]? =some (.lst (S.map aA)))(hS:∀s∈S,ik 8000 s)(hn:S.length≤10000):
  ∃ks c',eU [.ref m] c=some (.ref c.length,c')∧c <+:c'∧DS c' c.length ks∧(∀n∈ids ks,c.length<n)∧Nums S S.length ks∧ks.length≤S.length:=by
 have bl:∀zs,bS [.ref m] (c++zs)=some (.int S.length,c++zs):=fun zs=>jN (aY hm)
 have it:eu (ae (eB bS (ae (eV 0) ag)) ag) [some (.ref m),some (.ref c.length),none] (c++[.gH []])=some (⟨dQ 0 S.length,[]⟩,c++[.gH []]):=by
  have:=oZ (a:=ae (eB bS (ae (eV 0) ag)) ag) (σ:=[some (.ref m),some (.ref c.length),none]) (c:=c++[.gH []]) (c':=c++[.gH []]) (j:=(S.length:Int)) (by erw[bl]) (by omega)
  rw[this]
  simp
 obtain⟨σ',c',e1,ks,z,rfl,p1,d1,i1,n1,l1⟩:=cJ (ks:=[]) (g:=av 2) (body:=cO (eM b8 (ff (eV 1) (ao dk [] (ae (e2 ar (eV 0) (eV 2)) ag))) (ae (eV 2) ag)))
  (fun i σ c'=>∃ks z,σ=[some (.ref m),some (.ref c.length),z]∧c <+:c'∧DS c' c.length ks∧(∀n∈ids ks,c.length<n)∧Nums S i ks∧ks.length≤i)
  (dQ 0 S.length) 0 [some (.ref m),some (.ref c.length),none] (c++[.gH []]) (fun _ _ _ _=>hJ)
  (by
   rintro i d σ c' hd ⟨ks,z,jH,p1,d1,i1,n1,l1⟩
   subst jH
   obtain⟨hi,rfl⟩:=vB hd
   rw[show 0+i=i by omega]at n1 l1
   obtain⟨s,hs⟩:∃s,S[i]? =some s:=⟨_,List.getElem?_eq_getElem hi⟩
   have s0:=a_ (aC p1 hm)
   have t1:g_ (S.map aA) (0+(i:Int))=some (aA s):=by rw[Int.zero_add];exact rO hs
   have fw:=DQ (c:=c') (hS s (List.mem_of_getElem? hs))
   obtain⟨n,c1,row,f1,f2,f3,f4,f5,f6,_,_⟩:=JJ (o:=eV 1) (k:=ao dk [] (ae (e2 ar (eV 0) (eV 2)) ag)) (σ:=[some (.ref m),some (.ref c.length),some (.int (0+(i:Int)))]) (s:=gJ s) (zs:=[(i:Int)]) d1 rfl (by erw[hZ,s0,t1,fw]) (by omega)
   have B7:row.length≤1000000:=by
    rcases f3 with rfl|⟨q,hq,rfl⟩
    ·simp
    ·rw[n1.row q hq]
     unfold num
     rw[List.length_map]
     exact Nat.le_trans (List.length_filter_le _ _) (by rw[List.length_range];omega)
   have ap:=xa (e:=D.int) (x:=(i:Int)) f2 (by omega)
   have s2:=aU f2
   refine⟨_,_,[some (.ref m),some (.ref c.length),some (.int (0+(i:Int)))],c1.set n (.lst ((row++[(i:Int)]).map D.int)),rfl,?_,iM ks c'.length (gJ s) [(i:Int)],some (.int (0+(i:Int))),rfl,f6.to p1 (fun q hq=>?_),f5,fun q hq=>?_,?_,?_⟩
   ·have e0:D.int (0+(i:Int))=D.int (i:Int):=by rw[Int.zero_add]
    have Wu:b8 (.ref n) [.int (0+(i:Int))] c1=some (.bG,c1.set n (.lst ((row++[(i:Int)]).map D.int))):=by rw[e0];exact ap
    erw[f1,s2,Wu]
   ·rcases List.mem_cons.mp hq with rfl|hq
    ·exact Nat.le_refl _
    ·exact Nat.le_of_lt (i1 q hq)
   ·rw[kf]at hq
    split at hq
    ·exact i1 q hq
    ·rcases List.mem_append.mp hq with hq|hq
     ·exact i1 q hq
     ·cases List.mem_singleton.mp hq
      exact bp d1.at_
   ·rw[show 0+i+1=i+1 by omega]
    exact n1.step (by rw[hs];rfl)
   ·have:=yP (ks:=ks) (n:=c'.length) (s:=gJ s) (zs:=[(i:Int)])
    omega)
  ⟨[],none,rfl,⟨_,rfl⟩,⟨aH,fun _ h=>(nomatch h),.nil,.nil,(by simp[ids])⟩,fun _ h=>(by simp[ids]at h),⟨fun _ h=>(nomatch h),fun s=>⟨fun h=>(by simp[keys]at h),fun⟨k,hk,_⟩=>absurd hk (by omega)⟩⟩,Nat.le_refl _⟩
 have hl: 0+(dQ 0 S.length).length=S.length:=by simp[dQ]
 rw[hl]at n1 l1
 refine⟨ks,c',?_,p1,d1,i1,n1,l1⟩
 have e2:=gE (g:=av 2) (b:=cO (eM b8 (ff (eV 1) (ao dk [] (ae (e2 ar (eV 0) (eV 2)) ag))) (ae (eV 2) ag))) it
 rw[e1]at e2
 have nw:rF [some (.ref m),none,none] c=some (.ref c.length,c++[.gH []]):=rfl
 rw[eU,jv,eT]
 erw[nw,e2]
theorem Runs.put{e:T3→D}{c:Cells}{fs:List Nat}{rows:List (List T3)}(h:Runs e c fs rows)(nd:fs.Nodup){i n:Nat}(hi:fs[i]? =some n){row:List T3}:Runs e (c.set n (.lst (row.map e))) fs (rows.set i row):=by
 refine⟨by rw[List.length_set];exact h.len,fun j m l h1 h2=>?_⟩
 by_cases e1:j=i
 ·subst e1
  rw[hi]at h1
  cases h1
  have nh:j<rows.length:=by rw[←h.len];exact(List.getElem?_eq_some_iff.mp hi).1
  rw[List.getElem?_set_self nh]at h2
  cases h2
  obtain⟨r,hr⟩:∃r,rows[j]? =some r:=⟨_,List.getElem?_eq_getElem nh⟩
  exact gU (bp (h.at_ j n r hi hr))
 ·rw[List.getElem?_set_ne (Ne.symm e1)]at h2
  refine bK (h.at_ j m l h1 h2) fun z=>e1 ?_
  subst z
  exact(List.getElem?_inj (List.getElem?_eq_some_iff.mp h1).1 nd).mp (h1.trans hi.symm)
theorem N9(m:My.DE){c:Cells}(h:m≠.none):sT (cD m) .bG c=some (.bl true,c)∧dX (cD m) (some 1) none c=some (.tup ((My.cs m).map sd),c):=by
 cases m with
 |none=>exact absurd rfl h
 |lq p=>exact⟨rfl,rfl⟩
 |fW p q=>exact⟨rfl,rfl⟩
theorem N_{n:Nat}{row ps:List T3}{c:Cells}(h:c[n]? =some (.lst (row.map sd)))(hn:row.length+ps.length≤1000000):oq (.ref n) [.tup (ps.map sd)] c=some (.bG,c.set n (.lst ((row++ps).map sd))):=by
 unfold oq one
 simp only[aU h,Option.bind_some,List.length_map]
 rw[if_pos (show row.length+ps.length≤cE by rw[dS];omega),List.map_append]
def met(S:List S2)(a b:Nat):List T3:=match S[a]?,S[b]? with
 |some s,some t=>My.cs (My.eP s t)
 |_,_=>[]
def Pr(k j a b:Nat):Prop:=a<b∧(b<k∨(b=k∧a<j))
structure lG(S:List S2)(k j:Nat)(rows:List (List T3)):Prop where
 len:rows.length=S.length
 mem:∀(i:Nat) (s:S2) (row:List T3),S[i]? =some s→rows[i]? =some row→∀p,p∈row↔p=s.1∨p=s.2∨∃a b,Pr k j a b∧(i=a∨i=b)∧p∈met S a b
 ok:∀row∈rows,∀p∈row,Ok 8000 p
 sz:∀row∈rows,row.length≤2+2*(k*S.length+j)
theorem Nd(m:My.DE):(My.cs m).length≤2:=by cases m<;>simp[My.cs]
theorem rV{α:Type}{l:List α}{i:Nat}{x y:α}(h:y∈l.set i x):y∈l∨y=x:=List.mem_or_eq_of_mem_set h
theorem DR{S:List S2}{k j:Nat}{rows:List (List T3)}(h:lG S k j rows)(hm:met S j k=[]):lG S k (j+1) rows:=by
 refine⟨h.len,fun i s row h1 h2 p=>?_,h.ok,fun row hr=>by have:=h.sz row hr;omega⟩
 rw[h.mem i s row h1 h2 p]
 constructor
 ·rintro(z|z|⟨a,b,⟨u,v⟩,w,x⟩)
  ·exact .inl z
  ·exact .inr (.inl z)
  ·exact .inr (.inr ⟨a,b,⟨u,by omega⟩,w,x⟩)
 ·rintro(z|z|⟨a,b,⟨u,v⟩,w,x⟩)
  ·exact .inl z
  ·exact .inr (.inl z)
  ·rcases v with v|⟨v1,v2⟩
   ·exact .inr (.inr ⟨a,b,⟨u,.inl v⟩,w,x⟩)
   ·rcases Nat.lt_or_ge a j with hj|hj
    ·exact .inr (.inr ⟨a,b,⟨u,.inr ⟨v1,hj⟩⟩,w,x⟩)
    ·have:a=j:=by omega
     subst this
     subst v1
     rw[hm]at x
     cases x
theorem DT{S:List S2}{k j:Nat}{rows:List (List T3)}{rj rk:List T3}(h:lG S k j rows)(Q2:j<k)(ej:rows[j]? =some rj)(ek:rows[k]? =some rk)(bj:∀p∈met S j k,Ok 8000 p)(hl:(met S j k).length≤2):
  lG S k (j+1) ((rows.set j (rj++met S j k)).set k (rk++met S j k)):=by
 have Gv:j<rows.length:=(List.getElem?_eq_some_iff.mp ej).1
 have Gk:k<rows.length:=(List.getElem?_eq_some_iff.mp ek).1
 have mj:=List.mem_of_getElem? ej
 have mk:=List.mem_of_getElem? ek
 refine⟨by simp[h.len],fun i s row h1 h2 p=>?_,fun row hr p hp=>?_,fun row hr=>?_⟩
 ·have key:∀(r0:List T3),rows[i]? =some r0→(row=r0∧i≠j∧i≠k)∨(row=r0++met S j k∧(i=j∨i=k)):=by
   intro r0 B8
   by_cases e1:i=k
   ·subst e1
    rw[List.getElem?_set_self (by simp;exact Gk)]at h2
    rw[ek]at B8
    cases h2
    cases B8
    exact .inr ⟨rfl,.inr rfl⟩
   ·rw[List.getElem?_set_ne (Ne.symm e1)]at h2
    by_cases e2:i=j
    ·subst e2
     rw[List.getElem?_set_self Gv]at h2
     rw[ej]at B8
     cases h2
     cases B8
     exact .inr ⟨rfl,.inl rfl⟩
    ·rw[List.getElem?_set_ne (Ne.symm e2),B8]at h2
     cases h2
     exact .inl ⟨rfl,e2,e1⟩
  have nh:i<rows.length:=by
   have:=(List.getElem?_eq_some_iff.mp h2).1
   simpa using this
  obtain⟨r0,B8⟩:∃r0,rows[i]? =some r0:=⟨_,List.getElem?_eq_getElem nh⟩
  have hm:=h.mem i s r0 h1 B8 p
  have ext:(∃a b,Pr k (j+1) a b∧(i=a∨i=b)∧p∈met S a b)↔(∃a b,Pr k j a b∧(i=a∨i=b)∧p∈met S a b)∨((i=j∨i=k)∧p∈met S j k):=by
   constructor
   ·rintro⟨a,b,⟨u,v⟩,w,x⟩
    rcases v with v|⟨v1,v2⟩
    ·exact .inl ⟨a,b,⟨u,.inl v⟩,w,x⟩
    ·rcases Nat.lt_or_ge a j with hj|hj
     ·exact .inl ⟨a,b,⟨u,.inr ⟨v1,hj⟩⟩,w,x⟩
     ·have:a=j:=by omega
      subst this
      subst v1
      exact .inr ⟨w,x⟩
   ·rintro(⟨a,b,⟨u,v⟩,w,x⟩|⟨w,x⟩)
    ·exact⟨a,b,⟨u,by omega⟩,w,x⟩
    ·exact⟨j,k,⟨Q2,.inr ⟨rfl,by omega⟩⟩,w,x⟩
  rw[ext]
  rcases key r0 B8 with⟨rfl,n1,n2⟩|⟨rfl,hi⟩
  ·rw[hm]
   constructor
   ·rintro(z|z|z)
    ·exact .inl z
    ·exact .inr (.inl z)
    ·exact .inr (.inr (.inl z))
   ·rintro(z|z|z|⟨z,_⟩)
    ·exact .inl z
    ·exact .inr (.inl z)
    ·exact .inr (.inr z)
    ·exact absurd z (by omega)
  ·rw[List.mem_append,hm]
   constructor
   ·rintro((z|z|z)|z)
    ·exact .inl z
    ·exact .inr (.inl z)
    ·exact .inr (.inr (.inl z))
    ·exact .inr (.inr (.inr ⟨hi,z⟩))
   ·rintro(z|z|z|⟨_,z⟩)
    ·exact .inl (.inl z)
    ·exact .inl (.inr (.inl z))
    ·exact .inl (.inr (.inr z))
    ·exact .inr z
 ·rcases rV hr with hr|rfl
  ·rcases rV hr with hr|rfl
   ·exact h.ok row hr p hp
   ·rcases List.mem_append.mp hp with hp|hp
    ·exact h.ok rj mj p hp
    ·exact bj p hp
  ·rcases List.mem_append.mp hp with hp|hp
   ·exact h.ok rk mk p hp
   ·exact bj p hp
 ·rcases rV hr with hr|rfl
  ·rcases rV hr with hr|rfl
   ·have:=h.sz row hr;omega
   ·have:=h.sz rj mj;rw[List.length_append];omega
  ·have:=h.sz rk mk;rw[List.length_append];omega
theorem DU{S:List S2}{k:Nat}{rows:List (List T3)}(h:lG S k k rows)(hk:k<S.length):lG S (k+1) 0 rows:=by
 refine⟨h.len,fun i s row h1 h2 p=>?_,h.ok,fun row hr=>?_⟩
 ·rw[h.mem i s row h1 h2 p]
  have:∀a b,Pr k k a b↔Pr (k+1) 0 a b:=fun a b=>by unfold Pr;omega
  simp only[this]
 ·have:=h.sz row hr
  rw[Nat.add_mul]
  omega
noncomputable abbrev JL:XS:=ay (aR 4 (ao gr [] (ae (e2 ar (eV 0) (eV 3)) (ae (e2 ar (eV 0) (eV 2)) ag)))) (cG (tV (e2 sT (eV 4) (eC .bG))) (ay (cO (eM oq (e2 ar (eV 1) (eV 3)) (ae (kO dX (eV 4) (dc (eC (.int 1))) eK) ag))) (cO (eM oq (e2 ar (eV 1) (eV 2)) (ae (kO dX (eV 4) (dc (eC (.int 1))) eK) ag)))) bF)
theorem Q3{s t:S2}{c:Cells}(hs:ik 1000 s)(ht:ik 1000 t):∃c',gr [aA s,aA t] c=some (cD (My.eP s t),c')∧c <+:c'∧∀p∈My.cs (My.eP s t),Ok 8000 p:=by
 obtain⟨c',e,p,h1,h2⟩:=JD (c:=c) hs.o1 hs.o2 ht.o1 ht.o2
 refine⟨c',e,p,fun q hq=>?_⟩
 unfold My.eP at hq
 cases hm:My.cm s.1 s.2 t.1 t.2 with
 |none=>rw[hm]at hq;cases hq
 |lq r=>
  rw[hm]at hq
  cases List.mem_singleton.mp hq
  exact h1 q hm
 |fW r u=>
  rw[hm]at hq
  obtain⟨k1,k2⟩:=h2 r u hm
  rcases List.mem_cons.mp hq with rfl|hq
  ·exact k1
  ·cases List.mem_singleton.mp hq
   exact k2
theorem Gw{m:Nat}{S:List S2}{c:Cells}(hm:c[m]? =some (.lst (S.map aA)))(hS:∀s∈S,ik 1000 s)(JH:S.Nodup)(hn:S.length≤100):
  ∃fs rows c',je [.ref m] c=some (.ref c.length,c')∧c <+:c'∧c'[c.length]? =some (.lst (fs.map D.ref))∧Runs sd c' fs rows∧(∀n∈fs,c.length<n)∧lG S S.length 0 rows:=by
 have hi:eE (eV 0) [some (.ref m),none,none,none,none] c=some (⟨S.map aA,[(m,.lst (S.map aA))]⟩,c):=tD rfl hm
 obtain⟨vs,c1,e1,p1,g1,l1,r1⟩:=qx (te:=eB zJ (ae (eV 0) ag)) (g:=av 0) (cap:=[none]) (fun τ=>∃z,τ=[z]) (fun i v c'=>∃n s,v= .ref n∧c.length<n∧S[i]? =some s∧c'[n]? =some (.lst ([s.1,s.2].map sd))) hi (fun p hp=>by cases List.mem_singleton.mp hp;exact hm) ⟨none,rfl⟩
  (fun i v c1 c2 ⟨n,x,h1,h2,h3,h4⟩ fr=>⟨n,x,h1,h2,h3,fr n _ (by omega) h4⟩)
  (by
   rintro i d hd τ c' ⟨z,oC⟩ pc lc
   subst oC
   rw[List.getElem?_map]at hd
   obtain⟨x,hx,rfl⟩:=Option.map_eq_some_iff.mp hd
   have bt:zJ [aA x] c'=some (.ref c'.length,c'++[.lst [sd x.1,sd x.2]]):=rfl
   refine⟨[some (aA x)],.ref c'.length,[.lst [sd x.1,sd x.2]],rfl,?_,⟨_,rfl⟩,c'.length,x,rfl,lc,hx,by simp⟩
   erw[bt])
  (by simp;omega)
 have ref:∃fs:List Nat,vs=fs.map D.ref∧fs.length=S.length∧∀(i n:Nat),fs[i]? =some n→c.length<n∧∃s,S[i]? =some s∧c1[n]? =some (.lst ([s.1,s.2].map sd)):=by
  rw[List.length_map]at l1
  rw[←l1]
  clear e1 g1 hi l1
  have:∀(vs:List D) (k:Nat),(∀(i:Nat) v,vs[i]? =some v→∃n s,v=D.ref n∧c.length<n∧S[k+i]? =some s∧c1[n]? =some (.lst ([s.1,s.2].map sd)))→∃ns:List Nat,vs=ns.map D.ref∧ns.length=vs.length∧∀(i n:Nat),ns[i]? =some n→c.length<n∧∃s,S[k+i]? =some s∧c1[n]? =some (.lst ([s.1,s.2].map sd)):=by
   intro vs
   induction vs with
   |nil=>exact fun k _=>⟨[],rfl,rfl,fun i n h=>by cases h⟩
   |cons v vs ih=>
    intro k h
    obtain⟨n,s,rfl,h0,h1,h2⟩:=h 0 v rfl
    obtain⟨ns,rfl,h4,h5⟩:=ih (k+1) fun i v hv=>by
     have:=h (i+1) v (by simpa using hv)
     rwa[show k+(i+1)=k+1+i by omega]at this
    refine⟨n::ns,rfl,by simp,fun i q hq=>?_⟩
    cases i with
    |zero=>
     cases hq
     exact⟨h0,s,h1,h2⟩
    |succ i=>
     have:=h5 i q (by simpa using hq)
     rwa[show k+1+i=k+(i+1)by omega]at this
  obtain⟨ns,h1,h2,h3⟩:=this vs 0 fun i v hv=>by rw[Nat.zero_add];exact r1 i v hv
  exact⟨ns,h1,h2,fun i n hn=>by have:=h3 i n hn;rwa[Nat.zero_add]at this⟩
 obtain⟨fs,rfl,lf,Nf⟩:=ref
 have ni:fs.Nodup:=by
  refine List.pairwise_iff_getElem.mpr fun i j nh hj zq heq=>?_
  obtain⟨_,s,h1,h2⟩:=Nf i fs[i] (List.getElem?_eq_getElem nh)
  obtain⟨_,t,h3,h4⟩:=Nf j fs[j] (List.getElem?_eq_getElem hj)
  rw[heq,h4]at h2
  have h5: [sd t.1,sd t.2]=[sd s.1,sd s.2]:=by simpa using h2
  have e5:t=s:=by
   obtain⟨a,b⟩:=t
   obtain⟨x,y⟩:=s
   simp only[List.cons.injEq,and_true,MZ]at h5
   rw[h5.1,h5.2]
  subst e5
  have:=(List.getElem?_inj (List.getElem?_eq_some_iff.mp h1).1 JH).mp (h1.trans h3.symm)
  omega
 have r0:Runs sd c1 fs (S.map fun s=>[s.1,s.2]):=⟨by rw[lf,List.length_map],fun i n l h1 h2=>by
  obtain⟨_,s,h3,h4⟩:=Nf i n h1
  rw[List.getElem?_map,h3]at h2
  cases h2
  exact h4⟩
 have f0:∀n∈fs,c.length<n:=fun n hn=>by
  obtain⟨i,hi⟩:=List.getElem?_of_mem hn
  exact(Nf i n hi).1
 have k0:lG S 0 0 (S.map fun s=>[s.1,s.2]):=by
  refine⟨by simp,fun i s row h1 h2 p=>?_,fun row hr p hp=>?_,fun row hr=>?_⟩
  ·rw[List.getElem?_map,h1]at h2
   cases h2
   simp[Pr]
  ·obtain⟨s,hs,rfl⟩:=List.mem_map.mp hr
   have:=hS s hs
   simp at hp
   rcases hp with rfl|rfl
   ·exact this.o1.mono (by decide)
   ·exact this.o2.mono (by decide)
  ·obtain⟨s,hs,rfl⟩:=List.mem_map.mp hr
   simp
 have s0:∀{c':Cells},c <+:c'→b7 (.ref m) c'=some (S.map aA):=fun p=>a_ (aC p hm)
 have step:∀(k j:Nat) (rows:List (List T3)) (c':Cells) (z3 z4:Option D),j<k→k<S.length→c <+:c'→c'[c.length]? =some (.lst (fs.map D.ref))→Runs sd c' fs rows→lG S k j rows→
   ∃lX Q4 c2,JL [some (.ref m),some (.ref c.length),some (.int (k:Int)),some (.int (j:Int)),z4] c'=some (.nx,[some (.ref m),some (.ref c.length),some (.int (k:Int)),some (.int (j:Int)),Q4],c2)∧c <+:c2∧c2[c.length]? =some (.lst (fs.map D.ref))∧Runs sd c2 fs lX∧lG S k (j+1) lX:=by
  intro k j rows c' z3 z4 Q2 hk p g R K
  obtain⟨s,hs⟩:∃s,S[j]? =some s:=⟨_,List.getElem?_eq_getElem (by omega)⟩
  obtain⟨t,ht⟩:∃t,S[k]? =some t:=⟨_,List.getElem?_eq_getElem hk⟩
  have EX:met S j k=My.cs (My.eP s t):=by unfold met;rw[hs,ht]
  obtain⟨c2,f1,f2,f3⟩:=Q3 (c:=c') (hS s (List.mem_of_getElem? hs)) (hS t (List.mem_of_getElem? ht))
  have t1:g_ (S.map aA) (j:Int)=some (aA s):=rO hs
  have t2:g_ (S.map aA) (k:Int)=some (aA t):=rO ht
  have q0:=s0 p
  by_cases Fy:My.eP s t= .none
  ·rw[Fy]at f1
   have n1:sT (cD .none) .bG c2=some (.bl false,c2):=rfl
   refine⟨rows,some (cD .none),c2,?_,p.trans f2,aC f2 g,R.up f2,DR K (by rw[EX,Fy];rfl)⟩
   erw[hZ,q0,t1,t2,f1,n1]
  ·have YO:rows.length=S.length:=K.len
   obtain⟨rj,ej⟩:∃r,rows[j]? =some r:=⟨_,List.getElem?_eq_getElem (by omega)⟩
   obtain⟨rk,ek⟩:∃r,rows[k]? =some r:=⟨_,List.getElem?_eq_getElem (by omega)⟩
   obtain⟨nj,fj,cj⟩:=R.get ej
   obtain⟨nk,fk,ck⟩:=R.get ek
   have YQ:=f0 nj (List.mem_of_getElem? fj)
   have YR:=f0 nk (List.mem_of_getElem? fk)
   have fO:nk≠nj:=fun z=>by
    have:=(List.getElem?_inj (List.getElem?_eq_some_iff.mp fk).1 ni).mp (fk.trans (by rw[z];exact fj.symm))
    omega
   have DV:=Nd (My.eP s t)
   have YS:=K.sz rj (List.mem_of_getElem? ej)
   have YT:=K.sz rk (List.mem_of_getElem? ek)
   have Yo:k*S.length≤10000:=Nat.le_trans (Nat.mul_le_mul (Nat.le_of_lt (Nat.lt_of_lt_of_le hk hn)) hn) (by decide)
   have u1:g_ (fs.map D.ref) (j:Int)=some (.ref nj):=oA fj
   have u2:g_ (fs.map D.ref) (k:Int)=some (.ref nk):=oA fk
   have v1:=a_ (aC f2 g)
   have T_:=aC f2 cj
   have Wv:=aC f2 ck
   have x1:=N_ (ps:=My.cs (My.eP s t)) T_ (by omega)
   have g3:(c2.set nj (.lst ((rj++My.cs (My.eP s t)).map sd)))[c.length]? =some (.lst (fs.map D.ref)):=bK (aC f2 g) (by omega)
   have v2:=a_ g3
   have Ua:(c2.set nj (.lst ((rj++My.cs (My.eP s t)).map sd)))[nk]? =some (.lst (rk.map sd)):=bK Wv fO
   have x2:=N_ (ps:=My.cs (My.eP s t)) Ua (by omega)
   have w1:=aU T_
   have w2:=aU Ua
   obtain⟨n1,n2⟩:=N9 (My.eP s t) (c:=c2) Fy
   obtain⟨_,n3⟩:=N9 (My.eP s t) (c:=c2.set nj (.lst ((rj++My.cs (My.eP s t)).map sd))) Fy
   refine⟨(rows.set j (rj++met S j k)).set k (rk++met S j k),some (cD (My.eP s t)),(c2.set nj (.lst ((rj++My.cs (My.eP s t)).map sd))).set nk (.lst ((rk++My.cs (My.eP s t)).map sd)),?_,ow (ow (p.trans f2) (by omega)) (by omega),bK g3 (by omega),?_,DT K Q2 ej ek (by rw[EX];exact f3) (by rw[EX];exact DV)⟩
   ·erw[hZ,q0,t1,t2,f1,n1,v1,u1,w1,ph,n2,x1,v2,u2,w2,n3,x2]
   ·rw[EX]
    exact(Runs.put ((R.up f2).put ni fj) ni fk)
 have bl:bS [.ref m] c1=some (.int S.length,c1):=jN (aC p1 hm)
 have it:eu (ae (eB bS (ae (eV 0) ag)) ag) [some (.ref m),some (.ref c.length),none,none,none] c1=some (⟨dQ 0 S.length,[]⟩,c1):=by
  have:=oZ (a:=ae (eB bS (ae (eV 0) ag)) ag) (σ:=[some (.ref m),some (.ref c.length),none,none,none]) (c:=c1) (c':=c1) (j:=(S.length:Int)) (by erw[bl]) (by omega)
  rw[this]
  simp
 obtain⟨σ',c',e2,rows,z2,z3,z4,rfl,p2,g2,R2,K2⟩:=cJ (ks:=[]) (g:=av 2) (body:=dO (eu (ae (eV 2) ag)) (av 3) JL)
  (fun k σ c'=>∃rows z2 z3 z4,σ=[some (.ref m),some (.ref c.length),z2,z3,z4]∧c <+:c'∧c'[c.length]? =some (.lst (fs.map D.ref))∧Runs sd c' fs rows∧lG S k 0 rows)
  (dQ 0 S.length) 0 [some (.ref m),some (.ref c.length),none,none,none] c1 (fun _ _ _ _=>hJ)
  (by
   rintro k d σ c' hd ⟨rows,z2,z3,z4,jH,p,g,R,K⟩
   subst jH
   obtain⟨hk,rfl⟩:=vB hd
   rw[Int.zero_add]
   rw[show 0+k=k by omega]at K
   have Q5:eu (ae (eV 2) ag) [some (.ref m),some (.ref c.length),some (.int (k:Int)),z3,z4] c'=some (⟨dQ 0 k,[]⟩,c'):=by
    have:=oZ (a:=ae (eV 2) ag) (σ:=[some (.ref m),some (.ref c.length),some (.int (k:Int)),z3,z4]) (c:=c') (c':=c') (j:=(k:Int)) (by erw[]) (by omega)
    rw[this]
    simp
   obtain⟨sO,c2,e3,DK,y3,y4,rfl,p3,g3,R3,K3⟩:=cJ (ks:=[]) (g:=av 3) (body:=JL)
    (fun j σ c'=>∃rows z3 z4,σ=[some (.ref m),some (.ref c.length),some (.int (k:Int)),z3,z4]∧c <+:c'∧c'[c.length]? =some (.lst (fs.map D.ref))∧Runs sd c' fs rows∧lG S k j rows)
    (dQ 0 k) 0 [some (.ref m),some (.ref c.length),some (.int (k:Int)),z3,z4] c' (fun _ _ _ _=>hJ)
    (by
     rintro j d σ c' hd ⟨rows,z3,z4,jH,p,g,R,K⟩
     subst jH
     obtain⟨hj,rfl⟩:=vB hd
     rw[Int.zero_add]
     rw[show 0+j=j by omega]at K
     obtain⟨lX,Q4,c2,h1,h2,h3,h4,h5⟩:=step k j rows c' z3 z4 hj hk p g R K
     exact⟨_,_,_,c2,rfl,h1,lX,some (.int (j:Int)),Q4,rfl,h2,h3,h4,by rw[show 0+j+1=j+1 by omega];exact h5⟩)
    ⟨rows,z3,z4,rfl,p,g,R,K⟩
   have e4:=gE (g:=av 3) (b:=JL) Q5
   rw[e3]at e4
   have hl: 0+(dQ 0 k).length=k:=by simp[dQ]
   rw[hl]at K3
   exact⟨_,_,_,c2,rfl,e4,DK,some (.int (k:Int)),y3,y4,rfl,p3,g3,R3,by rw[show 0+k+1=k+1 by omega];exact DU K3 hk⟩)
  ⟨_,none,none,none,rfl,p1,g1,r0,k0⟩
 have e5:=gE (g:=av 2) (b:=dO (eu (ae (eV 2) ag)) (av 3) JL) it
 rw[e2]at e5
 have hl: 0+(dQ 0 S.length).length=S.length:=by simp[dQ]
 rw[hl]at K2
 refine⟨fs,rows,c',?_,p2,g2,R2,f0,K2⟩
 rw[je,jv,jd]
 erw[e1,e5]
theorem rW(p:T3):My.aM p p=false:=My.BL p
abbrev Ng(ys:List T3):Prop:=ys.Pairwise fun x y=>My.aM x y=true
theorem EY:∀{ys:List T3},jG My.aM ys→ys.Nodup→(∀p∈ys,My.bA p)→Ng ys
 |[],_,_,_=>.nil
 |x::l,h,nd,lo=>by
  have kE:=List.nodup_cons.mp nd
  have ih:=EY (mE h) kE.2 fun p hp=>lo p (List.mem_cons_of_mem _ hp)
  refine List.pairwise_cons.mpr ⟨fun y hy=>?_,ih⟩
  have strict:∀{p q:T3},p∈x::l→q∈x::l→My.aM q p=false→p≠q→My.aM p q=true:=fun {p q} hp hq h1 h2=>by
   rcases My.iA (lo p hp) (lo q hq)with g|g|g
   ·exact g
   ·exact absurd g h2
   ·rw[h1]at g;cases g
  cases l with
  |nil=>cases hy
  |cons z l=>
   have JM:My.aM x z=true:=strict List.mem_cons_self (by simp) h.1 (fun e=>kE.1 (by rw[e];simp))
   rcases List.mem_cons.mp hy with rfl|hy
   ·exact JM
   ·exact My.m9 (lo x (by simp)) (lo z (by simp)) (lo y (by simp[hy])) JM ((List.pairwise_cons.mp ih).1 y hy)
def ic(ys:List T3):List S2:=ys.zip ys.tail
theorem B9:∀{ys:List T3},Ng ys→∀p q,(p,q)∈ic ys↔p∈ys∧q∈ys∧My.aM p q=true∧∀r∈ys,¬(My.aM p r=true∧My.aM r q=true)
 |[],_,p,q=>by simp[ic]
 |[x],_,p,q=>by
  simp[ic]
  rintro rfl rfl h
  rw[rW]at h
  cases h
 |x::y::t,h,p,q=>by
  have h1:=List.pairwise_cons.mp h
  have h2:=List.pairwise_cons.mp h1.2
  have ih:=B9 (ys:=y::t) h1.2 p q
  have e:ic (x::y::t)=(x,y)::ic (y::t):=rfl
  rw[e,List.mem_cons]
  have DW:∀{a b:T3},My.aM a b=true→¬My.aM b a=true:=fun h z=>by rw[My.cL h]at z;cases z
  have Gx:∀{a:T3},¬My.aM a a=true:=fun z=>by rw[rW]at z;cases z
  constructor
  ·rintro(z|z)
   ·cases z
    refine⟨by simp,by simp,h1.1 y (by simp),fun r hr ⟨k1,k2⟩=>?_⟩
    rcases List.mem_cons.mp hr with rfl|hr
    ·exact Gx k1
    ·rcases List.mem_cons.mp hr with rfl|hr
     ·exact Gx k2
     ·exact DW (h2.1 r hr) k2
   ·obtain⟨a1,a2,a3,a4⟩:=ih.mp z
    refine⟨List.mem_cons_of_mem _ a1,List.mem_cons_of_mem _ a2,a3,fun r hr k=>?_⟩
    rcases List.mem_cons.mp hr with rfl|hr
    ·exact DW (h1.1 p a1) k.1
    ·exact a4 r hr k
  ·rintro⟨a1,a2,a3,a4⟩
   rcases List.mem_cons.mp a1 with rfl|b1
   ·rcases List.mem_cons.mp a2 with rfl|b2
    ·exact absurd a3 Gx
    ·rcases List.mem_cons.mp b2 with rfl|b3
     ·exact .inl rfl
     ·exact absurd ⟨h1.1 y (by simp),h2.1 q b3⟩ (a4 y (by simp))
   ·rcases List.mem_cons.mp a2 with rfl|b2
    ·exact absurd a3 (DW (h1.1 p b1))
    ·exact .inr (ih.mpr ⟨b1,b2,a3,fun r hr=>a4 r (List.mem_cons_of_mem _ hr)⟩)
structure en(S:List S2)(s:S2)(z:S2):Prop where
 c1:My.mB S s z.1
 c2:My.mB S s z.2
 lt:My.aM z.1 z.2=true
 no:∀r,My.mB S s r→¬(My.aM z.1 r=true∧My.aM r z.2=true)
theorem JO{S:List S2}{s:S2}{ys:List T3}(h:Ng ys)(hm:∀p,p∈ys↔My.mB S s p)(z:S2):z∈ic ys↔en S s z:=by
 obtain⟨p,q⟩:=z
 rw[B9 h p q]
 constructor
 ·rintro⟨a1,a2,a3,a4⟩
  exact⟨(hm p).mp a1,(hm q).mp a2,a3,fun r hr=>a4 r ((hm r).mpr hr)⟩
 ·rintro⟨a1,a2,a3,a4⟩
  exact⟨(hm p).mpr a1,(hm q).mpr a2,a3,fun r hr=>a4 r ((hm r).mp hr)⟩
theorem en.move{S:List S2}{s t z:S2}(hS:∀t∈S,My.Sd t)(hs:s∈S)(ht:t∈S)(h:en S s z)(o1:My.On z.1 t)(o2:My.On z.2 t):en S t z:=by
 have ds:=hS s hs
 have dt:=hS t ht
 refine⟨h.c1.move hS hs ht o1,h.c2.move hS hs ht o2,h.lt,fun r hr ⟨k1,k2⟩=>?_⟩
 have q1:=h.c1.on hS ds
 have q2:=h.c2.on hS ds
 have rt:=hr.on hS dt
 have hz:My.Sd z:=⟨q1.1,q2.1,fun e=>by have:=h.lt;rw[e,rW]at this;cases this⟩
 have e1:=My.ju.symm ds (show My.ju s z from⟨q1.dt,q2.dt⟩)
 have e2:My.aG z.1 z.2 r=0:=My.BR dt.cB o1.dt o2.dt rt.dt
 have e3:My.aG s.1 s.2 r=0:=My.BR hz.cB e1.1 e1.2 e2
 obtain⟨l1,l2⟩:=My.gS ds.l1 ds.l2
 obtain⟨a1,a2⟩:=(My.cI q1.dt).mp q1.2
 obtain⟨b1,b2⟩:=(My.cI q2.dt).mp q2.2
 have rs:My.On r s:=⟨rt.1,(My.cI e3).mpr ⟨My.le_trans l1 q1.1 rt.1 a1 (My.j_ k1),My.le_trans rt.1 q2.1 l2 (My.j_ k2) b2⟩⟩
 exact h.no r (hr.move hS ht hs rs) ⟨k1,k2⟩
theorem en.on{S:List S2}{s z:S2}(hS:∀t∈S,My.Sd t)(hs:s∈S)(h:en S s z):My.On z.1 s∧My.On z.2 s:=⟨h.c1.on hS (hS s hs),h.c2.on hS (hS s hs)⟩
theorem tJ{S:List S2}{rows:List (List T3)}(hS:∀t∈S,My.Sd t)(JH:S.Nodup)(h:lG S S.length 0 rows){i:Nat}{s:S2}{row:List T3}(h1:S[i]? =some s)(h2:rows[i]? =some row)(p:T3):p∈row↔My.mB S s p:=by
 rw[h.mem i s row h1 h2 p]
 have hs:=List.mem_of_getElem? h1
 unfold My.mB
 have:(∃a b,Pr S.length 0 a b∧(i=a∨i=b)∧p∈met S a b)↔∃t∈S,t≠s∧p∈My.cs (My.eP s t):=by
  constructor
  ·rintro⟨a,b,⟨u,v⟩,w,x⟩
   have hb:b<S.length:=by omega
   obtain⟨sa,ha⟩:∃x,S[a]? =some x:=⟨_,List.getElem?_eq_getElem (by omega)⟩
   obtain⟨sb,tH⟩:∃x,S[b]? =some x:=⟨_,List.getElem?_eq_getElem hb⟩
   have ne:sa≠sb:=fun z=>by
    have:=(List.getElem?_inj (List.getElem?_eq_some_iff.mp ha).1 JH).mp (ha.trans (by rw[z];exact tH.symm))
    omega
   unfold met at x
   rw[ha,tH]at x
   rcases w with rfl|rfl
   ·rw[h1]at ha
    cases ha
    exact⟨sb,List.mem_of_getElem? tH,ne.symm,x⟩
   ·rw[h1]at tH
    cases tH
    refine⟨sa,List.mem_of_getElem? ha,ne,?_⟩
    rw[My.EO (hS _ (List.mem_of_getElem? ha)) (hS _ hs)]
    exact x
  ·rintro⟨t,ht,ne,x⟩
   obtain⟨j,hj⟩:=List.getElem?_of_mem ht
   have zq:i≠j:=fun z=>by
    subst z
    rw[h1]at hj
    exact ne (Option.some.inj hj).symm
   have Gv:=(List.getElem?_eq_some_iff.mp hj).1
   have nh:=(List.getElem?_eq_some_iff.mp h1).1
   rcases Nat.lt_or_ge i j with g|g
   ·refine⟨i,j,⟨g,.inl Gv⟩,.inl rfl,?_⟩
    unfold met
    rw[h1,hj]
    exact x
   ·refine⟨j,i,⟨by omega,.inl nh⟩,.inr rfl,?_⟩
    unfold met
    rw[h1,hj]
    show p∈My.cs (My.eP t s)
    rw[My.EO (hS _ hs) (hS _ ht)]
    exact x
 rw[this]
abbrev PV:=List (S2×List Int)
def rX(ks:KV):PV:=ks.map fun k=>(k.1,k.2.2)
def kF(v:PV)(s:S2)(zs:List Int):PV:=if s∈v.map (·.1)then v.map (fun k=>if k.1=s then(k.1,k.2++zs)else k)else v++[(s,zs)]
theorem tK(ks:KV):(rX ks).map (·.1)=keys ks:=by unfold rX keys;rw[List.map_map];rfl
theorem JP(ks:KV)(n:Nat)(s:S2)(zs:List Int):rX (iM ks n s zs)=kF (rX ks) s zs:=by
 unfold kF
 rw[tK]
 unfold iM
 split
 ·unfold rX
  rw[List.map_map,List.map_map]
  refine List.map_congr_left fun k _=>?_
  dsimp only[Function.comp]
  split<;>rfl
 ·simp[rX]
theorem JQ(ys:List T3):eA (ys.map sd) (ys.tail.map sd)=(ic ys).map aA:=by
 unfold eA ic
 rw[List.zip_map,List.map_map]
 rfl
structure xk(c:Cells)(L:Nat)(ks:KV):Prop where
 at_:c[L]? =some (.kl (ks.map fun k=>(kS k.1,D.ref k.2.1)))
 cell:∀k∈ks,c[k.2.1]? =some (.lst (k.2.2.map D.int))
theorem xk.keep{c c':Cells}{L:Nat}{ks:KV}(h:xk c L ks){S:List Nat}(k:Kq S c c')(hL:L∉S)(hi:∀n∈ids ks,n∉S):xk c' L ks:=⟨k L _ hL h.at_,fun x hx=>k _ _ (hi _ (List.mem_map_of_mem hx)) (h.cell x hx)⟩
theorem xk.ix{o k:XE}{σ:Qm.Env}{c:Cells}{L:Nat}{ks:KV}(h:xk c L ks){q:S2×Nat×List Int}(hq:q∈ks)(kd:(keys ks).Nodup)(ho:o σ c=some (.ref L,c))(hk:k σ c=some (aA q.1,c)):jF o k σ c=some (.ref q.2.1,c):=by
 obtain⟨q',B3,e,ha⟩:=vA (ks:=ks) (s:=q.1) ⟨q,hq,rfl⟩
 have inj:∀{l:KV},(keys l).Nodup→∀x∈l,∀y∈l,x.1=y.1→x=y:=by
  intro l
  induction l with
  |nil=>exact fun _ x hx=>nomatch hx
  |cons a l ih=>
   intro nd x hx y hy xj
   have kE:a.1∉keys l∧(keys l).Nodup:=by simpa[keys]using nd
   rcases List.mem_cons.mp hx with rfl|ig<;>rcases List.mem_cons.mp hy with rfl|kM
   ·rfl
   ·exact absurd (List.mem_map.mpr ⟨y,kM,xj.symm⟩) kE.1
   ·exact absurd (List.mem_map.mpr ⟨x,ig,xj⟩) kE.1
   ·exact ih kE.2 x ig y kM xj
 cases inj kd q' B3 q hq e
 have t1:qt (.ref L) c=some (ks.map fun k=>(kS k.1,D.ref k.2.1)):=by
  unfold qt
  simp[h.at_]
 unfold jF
 simp only[ho,hk,t1,Option.bind_some,Ak,ha]
theorem Gy{A B C5:Option D}{L1 L2 n6:Nat}{z7:Option D}{ys:List T3}{ls ks:KV}{q:S2×Nat×List Int}{c:Cells}{M:Nat}(dl:DS c L1 ls)(fz:xk c L2 ks)(kd:(keys ks).Nodup)(hq:q∈ks)(h6:c[n6]? =some (.lst (ys.map sd)))
  (a1:L2∉L1::ids ls)(a2:∀n∈ids ks,n∉L1::ids ls)(a3:n6∉L1::ids ls)(hM:∀k∈ls,k.2.2.length≤M)(hb:M+(ys.length+1)*(q.2.2.length+1)≤100000)(hl:ls.length+ys.length<100000):
  ∃mF z c',dO (hG (ae (eV 6) (ae (kO dX (eV 6) (dc (eC (.int 1))) eK) ag))) (av 7) (cO (eM e_ (ff (eV 1) (eV 7)) (ae (jF (eV 2) (eV 4)) ag))) [A,some (.ref L1),some (.ref L2),B,some (aA q.1),C5,some (.ref n6),z7] c=some (.nx,[A,some (.ref L1),some (.ref L2),B,some (aA q.1),C5,some (.ref n6),z],c')∧
   DS c' L1 mF∧Kq (L1::ids ls) c c'∧(∀n∈ids mF,n∈ids ls∨c.length≤n)∧rX mF=(ic ys).foldl (fun v z=>kF v z q.2.2) (rX ls)∧mF.length≤ls.length+ys.length∧∀k∈mF,k.2.2.length≤M+ys.length*q.2.2.length:=by
 have ct:dX (.ref n6) (some 1) none c=some (.ref c.length,c++[.lst (ys.tail.map sd)]):=by
  show((b7 (.ref n6) c).bind _)=_
  rw[a_ h6,Option.bind_some]
  have:Qm.cutD (ys.map sd) (some 1) none=ys.tail.map sd:=by
   cases ys with
   |nil=>rfl
   |cons y t=>exact Ag (e:=sd) (l:=y::t) (k:=1) (by simp)
  rw[this]
 have l6:=bp h6
 have g6:=aY (zs:=[Cell.lst (ys.tail.map sd)]) h6
 have it:hG (ae (eV 6) (ae (kO dX (eV 6) (dc (eC (.int 1))) eK) ag)) [A,some (.ref L1),some (.ref L2),B,some (aA q.1),C5,some (.ref n6),z7] c=some (⟨(ic ys).map aA,[(n6,.lst (ys.map sd)),(c.length,.lst (ys.tail.map sd))]⟩,c++[.lst (ys.tail.map sd)]):=by
  have ha:ae (eV 6) (ae (kO dX (eV 6) (dc (eC (.int 1))) eK) ag) [A,some (.ref L1),some (.ref L2),B,some (aA q.1),C5,some (.ref n6),z7] c=some ([.ref n6,.ref c.length],c++[.lst (ys.tail.map sd)]):=by erw[ph,ct]
  unfold hG
  rw[ha,Option.bind_some]
  dsimp only
  rw[g6,aH,aU g6,aU aH,←JQ]
  rfl
 have NS:(ic ys).length≤ys.length:=by unfold ic;simp
 have JB:∀n∈ids ls,n<c.length:=fun n hn=>dl.rT hn
 have Mz:=bp dl.at_
 obtain⟨σ',c',e1,mF,z,rfl,d1,k1,i1,v1,n1,m1⟩:=cJ (ks:=[(n6,.lst (ys.map sd)),(c.length,.lst (ys.tail.map sd))]) (g:=av 7) (body:=cO (eM e_ (ff (eV 1) (eV 7)) (ae (jF (eV 2) (eV 4)) ag)))
  (fun i σ c'=>∃mF z,σ=[A,some (.ref L1),some (.ref L2),B,some (aA q.1),C5,some (.ref n6),z]∧DS c' L1 mF∧Kq (L1::ids ls) (c++[.lst (ys.tail.map sd)]) c'∧(∀n∈ids mF,n∈ids ls∨c.length<n)∧rX mF=((ic ys).take i).foldl (fun v z=>kF v z q.2.2) (rX ls)∧mF.length≤ls.length+i∧∀k∈mF,k.2.2.length≤M+i*q.2.2.length)
  ((ic ys).map aA) 0 [A,some (.ref L1),some (.ref L2),B,some (aA q.1),C5,some (.ref n6),z7] (c++[.lst (ys.tail.map sd)])
  (by
   rintro i σ c' ⟨mF,z,jH,d1,k1,_⟩ p hp
   rcases List.mem_cons.mp hp with rfl|hp
   ·exact k1 _ _ a3 g6
   ·cases List.mem_singleton.mp hp
    exact k1 _ _ (fun hm=>by
     rcases List.mem_cons.mp hm with e|hm
     ·exact absurd Mz (by rw[←e];exact Nat.lt_irrefl _)
     ·exact absurd (JB _ hm) (Nat.lt_irrefl _)) aH)
  (by
   rintro i d σ c' hd ⟨mF,z,jH,d1,k1,i1,v1,n1,m1⟩
   subst jH
   rw[List.getElem?_map]at hd
   obtain⟨pq,Ub,rfl⟩:=Option.map_eq_some_iff.mp hd
   have nh:=(List.getElem?_eq_some_iff.mp Ub).1
   rw[show 0+i=i by omega]at v1 n1 m1
   obtain⟨n,c1,row,f1,f2,f3,f4,f5,f6,f7,f8⟩:=JJ (o:=eV 1) (k:=eV 7) (σ:=[A,some (.ref L1),some (.ref L2),B,some (aA q.1),C5,some (.ref n6),some (aA pq)]) (s:=pq) (zs:=q.2.2) d1 rfl rfl (by omega)
   have JR:∀{x:Nat},x∉L1::ids ls→x<c.length→x∉L1::ids mF:=fun {x} hx YU hm=>by
    rcases List.mem_cons.mp hm with rfl|hm
    ·exact hx List.mem_cons_self
    ·rcases i1 x hm with h|h
     ·exact hx (List.mem_cons_of_mem _ h)
     ·omega
   have Ww:xk c' L2 ks:=(show xk (c++[.lst (ys.tail.map sd)]) L2 ks from⟨aY fz.at_,fun x hx=>aY (fz.cell x hx)⟩).keep k1 a1 a2
   have Nh:xk c1 L2 ks:=Ww.keep f7 (JR a1 (bp fz.at_)) (fun x hx=>JR (a2 x hx) (by
    obtain⟨k,hk,rfl⟩:=List.mem_map.mp hx
    exact bp (fz.cell k hk)))
   have ix:=Nh.ix (o:=eV 2) (k:=eV 4) (σ:=[A,some (.ref L1),some (.ref L2),B,some (aA q.1),C5,some (.ref n6),some (aA pq)]) hq kd rfl rfl
   have w1:=aU f2
   have w2:=aU (Nh.cell q hq)
   have B7:row.length≤M+i*q.2.2.length:=by
    rcases f3 with rfl|⟨r,hr,rfl⟩
    ·simp
    ·exact m1 r hr
   have hmul:i*q.2.2.length≤ys.length*q.2.2.length:=Nat.mul_le_mul_right _ (by omega)
   have Wx:(ys.length+1)*(q.2.2.length+1)=ys.length*q.2.2.length+ys.length+q.2.2.length+1:=by rw[Nat.add_mul,Nat.mul_add];omega
   have mx:e_ (.ref n) [.ref q.2.1] c1=some (.bG,c1.set n (.lst ((row++q.2.2).map D.int))):=by
    unfold e_ one
    simp only[w1,w2,Option.bind_some,List.length_map]
    rw[if_pos (show row.length+q.2.2.length≤cE by rw[dS];omega),List.map_append]
   have DV:c.length<c'.length:=by
    have:=bp (k1 c.length _ (fun hm=>by
     rcases List.mem_cons.mp hm with e|hm
     ·exact absurd Mz (by rw[←e];exact Nat.lt_irrefl _)
     ·exact absurd (JB _ hm) (Nat.lt_irrefl _)) aH)
    exact this
   refine⟨_,_,[A,some (.ref L1),some (.ref L2),B,some (aA q.1),C5,some (.ref n6),some (aA pq)],c1.set n (.lst ((row++q.2.2).map D.int)),rfl,?_,iM mF c'.length pq q.2.2,some (aA pq),rfl,f5,?_,?_,?_,?_,?_⟩
   ·erw[f1,w1,ix,mx]
   ·refine k1.trans f6 fun x hx=>?_
    rcases List.mem_cons.mp hx with rfl|hx
    ·exact .inl List.mem_cons_self
    ·rcases i1 x hx with h|h
     ·exact .inl (List.mem_cons_of_mem _ h)
     ·exact .inr (by simp;omega)
   ·intro x hx
    rw[kf]at hx
    split at hx
    ·exact i1 x hx
    ·rcases List.mem_append.mp hx with hx|hx
     ·exact i1 x hx
     ·cases List.mem_singleton.mp hx
      exact .inr DV
   ·rw[JP,v1,show 0+i+1=i+1 by omega,List.take_add_one,Ub]
    simp
   ·have:=yP (ks:=mF) (n:=c'.length) (s:=pq) (zs:=q.2.2)
    omega
   ·intro k hk
    rw[show 0+i+1=i+1 by omega,Nat.add_mul,Nat.one_mul]
    unfold iM at hk
    split at hk
    ·obtain⟨k',pJ,rfl⟩:=List.mem_map.mp hk
     have:=m1 k' pJ
     split
     ·rw[List.length_append];omega
     ·omega
    ·rcases List.mem_append.mp hk with hk|hk
     ·have:=m1 k hk;omega
     ·cases List.mem_singleton.mp hk
      show q.2.2.length≤_
      omega)
  ⟨ls,z7,rfl,dl.up ⟨_,rfl⟩,Kq.refl _ _,fun n hn=>.inl hn,rfl,Nat.le_refl _,fun k hk=>by have:=hM k hk;omega⟩
 have e2:=gE (g:=av 7) (b:=cO (eM e_ (ff (eV 1) (eV 7)) (ae (jF (eV 2) (eV 4)) ag))) it
 rw[e1]at e2
 have Wy: 0+((ic ys).map aA).length=(ic ys).length:=by simp
 rw[Wy]at v1 n1 m1
 rw[List.take_length]at v1
 refine⟨mF,z,c',e2,d1,(Kq.pre (S:=L1::ids ls) (show c <+:c++[.lst (ys.tail.map sd)] from⟨_,rfl⟩)).trans k1 (fun x hx=>.inl hx),fun n hn=>(i1 n hn).imp id Nat.le_of_lt,v1,by omega,fun k hk=>?_⟩
 have:=m1 k hk
 have:=Nat.mul_le_mul_right q.2.2.length NS
 omega
theorem qz(v:PV)(s:S2)(zs:List Int):(kF v s zs).map (·.1)=if s∈v.map (·.1)then v.map (·.1)else v.map (·.1)++[s]:=by
 unfold kF
 split
 ·rw[List.map_map]
  refine List.map_congr_left fun k _=>?_
  dsimp only[Function.comp]
  split<;>rfl
 ·simp
theorem yQ{v:PV}{s:S2}{ns:List Int}{x:S2×List Int}(h:x∈kF v s ns):(x.1=s∧((∃row,(s,row)∈v∧x.2=row++ns)∨(s∉v.map (·.1)∧x.2=ns)))∨(x.1≠s∧x∈v):=by
 unfold kF at h
 split at h
 ·rename_i hs
  obtain⟨k,hk,rfl⟩:=List.mem_map.mp h
  by_cases e:k.1=s
  ·rw[if_pos e]
   exact .inl ⟨e,.inl ⟨k.2,by rw[←e];exact hk,rfl⟩⟩
  ·rw[if_neg e]
   exact .inr ⟨e,hk⟩
 ·rename_i hs
  rcases List.mem_append.mp h with h|h
  ·exact .inr ⟨fun e=>hs (by rw[←e];exact List.mem_map_of_mem h),h⟩
  ·cases List.mem_singleton.mp h
   exact .inl ⟨rfl,.inr ⟨hs,rfl⟩⟩
theorem xm(ns:List Int):∀(zs:List S2) (v:PV),(v.map (·.1)).Nodup→((zs.foldl (fun v z=>kF v z ns) v).map (·.1)).Nodup∧∀z,z∈(zs.foldl (fun v z=>kF v z ns) v).map (·.1)↔z∈v.map (·.1)∨z∈zs
 |[],v,h=>⟨h,fun z=>by simp⟩
 |y::zs,v,h=>by
  have h2:((kF v y ns).map (·.1)).Nodup:=by
   rw[qz]
   split
   ·exact h
   ·rename_i hy
    rw[List.nodup_append]
    exact⟨h,by simp,fun a ha b hb e=>hy (by rw[←List.mem_singleton.mp hb,←e];exact ha)⟩
  obtain⟨k1,k2⟩:=xm ns zs (kF v y ns) h2
  refine⟨k1,fun z=>?_⟩
  rw[List.foldl_cons,k2 z,qz,List.mem_cons]
  split
  ·rename_i hy
   constructor
   ·rintro(a|a)
    ·exact .inl a
    ·exact .inr (.inr a)
   ·rintro(a|rfl|a)
    ·exact .inl a
    ·exact .inl hy
    ·exact .inr a
  ·rw[List.mem_append,List.mem_singleton]
   constructor
   ·rintro((a|a)|a)
    ·exact .inl a
    ·exact .inr (.inl a)
    ·exact .inr (.inr a)
   ·rintro(a|a|a)
    ·exact .inl (.inl a)
    ·exact .inl (.inr a)
    ·exact .inr a
theorem yR(ns:List Int):∀(zs:List S2) (v:PV) (x:S2×List Int),zs.Nodup→x∈zs.foldl (fun v z=>kF v z ns) v→
  (x.1∈zs∧((∃row,(x.1,row)∈v∧x.2=row++ns)∨(x.1∉v.map (·.1)∧x.2=ns)))∨(x.1∉zs∧x∈v)
 |[],v,x,_,h=>.inr ⟨by simp,h⟩
 |y::zs,v,x,nd,h=>by
  have kE:=List.nodup_cons.mp nd
  rcases yR ns zs (kF v y ns) x kE.2 h with⟨h1,h2⟩|⟨h1,h2⟩
  ·have fO:x.1≠y:=fun e=>kE.1 (by rw[←e];exact h1)
   refine .inl ⟨List.mem_cons_of_mem _ h1,?_⟩
   rcases h2 with⟨row,hr,e⟩|⟨hk,e⟩
   ·rcases yQ hr with⟨a,_⟩|⟨_,a⟩
    ·exact absurd a fO
    ·exact .inl ⟨row,a,e⟩
   ·refine .inr ⟨fun hm=>hk ?_,e⟩
    rw[qz]
    split
    ·exact hm
    ·exact List.mem_append_left _ hm
  ·rcases yQ h2 with⟨a,b⟩|⟨a,b⟩
   ·refine .inl ⟨by rw[a];exact List.mem_cons_self,?_⟩
    rw[a]
    exact b
   ·refine .inr ⟨fun hm=>?_,b⟩
    rcases List.mem_cons.mp hm with e|hm
    ·exact a e
    ·exact h1 hm
structure VS(S:List S2)(nm:S2→List Int)(T:List S2)(v:PV):Prop where
 nd:(v.map (·.1)).Nodup
 key:∀z,z∈v.map (·.1)↔∃s∈T,en S s z
 row:∀x∈v,x.2.Nodup∧∀k,k∈x.2↔∃s∈T,en S s x.1∧k∈nm s
theorem VS.step{S:List S2}{nm:S2→List Int}{T:List S2}{v:PV}{s:S2}{zs:List S2}(h:VS S nm T v)(hz:∀z,z∈zs↔en S s z)(nz:zs.Nodup)(hn:(nm s).Nodup)(hd:∀t∈T,∀k∈nm t,k∉nm s):VS S nm (T++[s]) (zs.foldl (fun v z=>kF v z (nm s)) v):=by
 obtain⟨k1,k2⟩:=xm (nm s) zs v h.nd
 have ex:∀(P:S2→Prop),(∃t∈T++[s],P t)↔(∃t∈T,P t)∨P s:=fun P=>by
  constructor
  ·rintro⟨t,ht,p⟩
   rcases List.mem_append.mp ht with ht|ht
   ·exact .inl ⟨t,ht,p⟩
   ·cases List.mem_singleton.mp ht
    exact .inr p
  ·rintro(⟨t,ht,p⟩|p)
   ·exact⟨t,List.mem_append_left _ ht,p⟩
   ·exact⟨s,by simp,p⟩
 refine⟨k1,fun z=>?_,fun x hx=>?_⟩
 ·rw[k2 z,h.key z,hz z,ex]
 ·have e2:∀k,(∃t∈T++[s],en S t x.1∧k∈nm t)↔(∃t∈T,en S t x.1∧k∈nm t)∨(en S s x.1∧k∈nm s):=fun k=>ex _
  rcases yR (nm s) zs v x nz hx with⟨h1,h2⟩|⟨h1,h2⟩
  ·have cs:=(hz x.1).mp h1
   rcases h2 with⟨row,hr,e⟩|⟨hk,e⟩
   ·obtain⟨r1,r2⟩:=h.row _ hr
    rw[e]
    refine⟨List.nodup_append.mpr ⟨r1,hn,fun a ha b hb Wz=>?_⟩,fun k=>?_⟩
    ·obtain⟨t,ht,_,hk⟩:=(r2 a).mp ha
     exact hd t ht a hk (by rw[Wz];exact hb)
    ·rw[List.mem_append,r2 k,e2]
     constructor
     ·rintro(a|a)
      ·exact .inl a
      ·exact .inr ⟨cs,a⟩
     ·rintro(a|⟨_,a⟩)
      ·exact .inl a
      ·exact .inr a
   ·rw[e]
    refine⟨hn,fun k=>?_⟩
    rw[e2]
    constructor
    ·exact fun a=>.inr ⟨cs,a⟩
    ·rintro(⟨t,ht,c,_⟩|⟨_,a⟩)
     ·exact absurd ((h.key _).mpr ⟨t,ht,c⟩) hk
     ·exact a
  ·obtain⟨r1,r2⟩:=h.row _ h2
   refine⟨r1,fun k=>?_⟩
   rw[r2 k,e2]
   constructor
   ·exact .inl
   ·rintro(a|⟨c,_⟩)
    ·exact a
    ·exact absurd ((hz x.1).mpr c) h1
theorem uk:∀{ys:List T3},ys.Nodup→(ic ys).Nodup
 |[],_=>.nil
 |[_],_=>by simp[ic]
 |x::y::t,h=>by
  have e:ic (x::y::t)=(x,y)::ic (y::t):=rfl
  rw[e]
  have h':=List.nodup_cons.mp h
  refine List.nodup_cons.mpr ⟨fun hm=>h'.1 ?_,uk h'.2⟩
  exact(List.of_mem_zip hm).1
theorem kG{S:List S2}{s:S2}{i:Nat}{k:Int}:k∈num S s i↔∃j:Nat,j<i∧k=(j:Int)∧(S[j]?).map gJ=some s:=by
 unfold num
 rw[List.mem_map]
 constructor
 ·rintro⟨j,hj,rfl⟩
  obtain⟨a,b⟩:=List.mem_filter.mp hj
  exact⟨j,List.mem_range.mp a,rfl,of_decide_eq_true b⟩
 ·rintro⟨j,a,rfl,b⟩
  exact⟨j,List.mem_filter.mpr ⟨List.mem_range.mpr a,decide_eq_true b⟩,rfl⟩
theorem xn{S:List S2}{s:S2}{i:Nat}:(num S s i).Nodup:=by
 unfold num
 exact List.Pairwise.map _ (fun a b (h:a≠b) e=>h (by omega)) (List.Pairwise.filter _ List.nodup_range)
theorem DX{S:List S2}{s t:S2}{i:Nat}(h:t≠s){k:Int}(hk:k∈num S t i):k∉num S s i:=by
 intro hm
 obtain⟨j,_,rfl,a⟩:=kG.mp hk
 obtain⟨j',_,e,b⟩:=kG.mp hm
 have:j=j':=by omega
 subst this
 rw[a]at b
 exact h (Option.some.inj b)
theorem rY:∀(n:Nat) (l:List Int),l.Nodup→(∀k∈l,0≤k∧k<n)→l.length≤n
 |0,l,_,h=>by
  cases l with
  |nil=>simp
  |cons x l=>have:=h x List.mem_cons_self;omega
 |n+1,l,nd,h=>by
  by_cases hm:(n:Int)∈l
  ·have h1:=rY n (l.erase (n:Int)) (nd.erase _) fun k hk=>by
    have h2:=(List.Nodup.mem_erase_iff nd).mp hk
    have:=h k h2.2
    have:=h2.1
    omega
   have:=List.length_erase_of_mem hm
   omega
  ·have:=rY n l nd fun k hk=>by
    have:=h k hk
    have:k≠n:=fun e=>hm (by rw[←e];exact hk)
    omega
   omega
theorem sub_len:∀(l m:List T3),l.Nodup→(∀x∈l,x∈m)→l.length≤m.length
 |l,[],_,h=>by
  cases l with
  |nil=>simp
  |cons x l=>exact absurd (h x List.mem_cons_self) (by simp)
 |l,y::m,nd,h=>by
  rw[List.length_cons]
  by_cases hm:y∈l
  ·have h1:=sub_len (l.erase y) m (nd.erase _) fun x hx=>by
    have h2:=(List.Nodup.mem_erase_iff nd).mp hx
    exact(List.mem_cons.mp (h x h2.2)).resolve_left h2.1
   have:=List.length_erase_of_mem hm
   omega
  ·have:=sub_len l m nd fun x hx=>(List.mem_cons.mp (h x hx)).resolve_left fun e=>hm (by rw[←e];exact hx)
   omega
noncomputable abbrev JS(x0 x1:Nat):XS:=ay (aR 6 (ao (mD x0 x1) [] (ae (eV 4) (ae (eV 5) ag)))) (dO (hG (ae (eV 6) (ae (kO dX (eV 6) (dc (eC (.int 1))) eK) ag))) (av 7) (cO (eM e_ (ff (eV 1) (eV 7)) (ae (jF (eV 2) (eV 4)) ag))))
theorem Q6(ks:List S2)(fs:List Nat):eA (ks.map aA) (fs.map D.ref)=(ks.zip fs).map fun x=>D.tup [aA x.1,D.ref x.2]:=by
 unfold eA
 rw[List.zip_map,List.map_map]
 rfl
theorem JT(ks:KV):(ks.map fun k=>(kS k.1,D.ref k.2.1)).map (fun q=>By q.1)=(keys ks).map aA:=by
 unfold keys
 rw[List.map_map,List.map_map]
 rfl
theorem Q7{x0 x1:Nat}{A:Option D}{c:Cells}{L1 L2 L3:Nat}{ks:KV}{IN:List S2}{fs:List Nat}{rows:List (List T3)}{N:Nat}
  (hN:N≤30)(d1:DS c L1 [])(d2:DS c L2 ks)(h3:c[L3]? =some (.lst (fs.map D.ref)))(R:Runs sd c fs rows)(K:lG (keys ks) (keys ks).length 0 rows)(nm:∀q∈ks,q.2.2=num IN q.1 N)(hk:ks.length≤N)
  (hS:∀s∈keys ks,ik 1000 s∧My.Sd s∧My.aM s.1 s.2=true)(n2:L1≠L2)(n3:L1≠L3)(WA:L2≠L3)(i1:L1∉ids ks)(i2:L1∉fs)(j2:L2∉fs)(j3:∀n∈ids ks,n∉fs):
  ∃ls z4 z5 z6 z7 c',dO (rG (ae (eV 2) (ae (eV 3) ag))) (c_ 2 (aQ (av 4) (aQ (av 5) cZ))) (JS x0 x1) [A,some (.ref L1),some (.ref L2),some (.ref L3),none,none,none,none] c=some (.nx,[A,some (.ref L1),some (.ref L2),some (.ref L3),z4,z5,z6,z7],c')∧
   DS c' L1 ls∧Kq [L1,L2] c c'∧(∀n∈ids ls,c.length≤n)∧VS (keys ks) (fun s=>num IN s N) (keys ks) (rX ls)∧ls.length≤100000:=by
 have kd:=d2.kd
 have Uc:(keys ks).length=ks.length:=by simp[keys]
 have Am:∀t∈keys ks,My.Sd t:=fun t ht=>(hS t ht).2.1
 have lf:fs.length=(keys ks).length:=by rw[R.len,K.len]
 generalize um:c.set L2 (.kl (ks.map fun k=>(kS k.1,D.ref k.2.1)))=cst
 have Yp:cst.length=c.length:=by rw[←um];simp
 have WB:Kq [L1,L2] c cst:=fun j z hj e=>by
  rw[←um]
  exact bK e fun h=>hj (by rw[h];simp)
 have Q8:xk cst L2 ks:=⟨by rw[←um];exact gU (bp d2.at_),fun x hx=>by
  rw[←um]
  exact bK (d2.cell x hx) fun h=>d2.ne (by rw[←h];exact List.mem_map_of_mem hx)⟩
 have g3:cst[L3]? =some (.lst (fs.map D.ref)):=by rw[←um];exact bK h3 WA.symm
 have R0:Runs sd cst fs rows:=⟨R.len,fun i n l h1 h2=>by rw[←um];exact bK (R.at_ i n l h1 h2) fun h=>j2 (by rw[←h];exact List.mem_of_getElem? h1)⟩
 have WC:DS cst L1 []:=⟨by rw[←um];exact bK d1.at_ n2,fun _ h=>(nomatch h),.nil,.nil,by simp[ids]⟩
 have it:rG (ae (eV 2) (ae (eV 3) ag)) [A,some (.ref L1),some (.ref L2),some (.ref L3),none,none,none,none] c=some (⟨((keys ks).zip fs).map fun x=>D.tup [aA x.1,D.ref x.2],[(L2,.kl (ks.map fun k=>(kS k.1,D.ref k.2.1))),(L3,.lst (fs.map D.ref))]⟩,cst):=by
  have ha:ae (eV 2) (ae (eV 3) ag) [A,some (.ref L1),some (.ref L2),some (.ref L3),none,none,none,none] c=some ([.ref L2,.ref L3],c):=by erw[]
  unfold rG
  rw[ha,Option.bind_some]
  dsimp only
  have e2:c[L2]? =some (.gH (ks.map fun k=>(kS k.1,D.ref k.2.1))):=d2.at_
  rw[e2]
  dsimp only
  rw[aU h3,Option.bind_some]
  dsimp only
  rw[JT,Q6,um]
 obtain⟨σ',c',e1,ls,z4,z5,z6,z7,rfl,D1,K1,I1,V1,N1⟩:=cJ (ks:=[(L2,.kl (ks.map fun k=>(kS k.1,D.ref k.2.1))),(L3,.lst (fs.map D.ref))]) (g:=c_ 2 (aQ (av 4) (aQ (av 5) cZ))) (body:=JS x0 x1)
  (fun i σ c'=>∃ls z4 z5 z6 z7,σ=[A,some (.ref L1),some (.ref L2),some (.ref L3),z4,z5,z6,z7]∧DS c' L1 ls∧Kq [L1] cst c'∧(∀n∈ids ls,cst.length≤n)∧VS (keys ks) (fun s=>num IN s N) ((keys ks).take i) (rX ls)∧ls.length≤i*2000)
  (((keys ks).zip fs).map fun x=>D.tup [aA x.1,D.ref x.2]) 0 [A,some (.ref L1),some (.ref L2),some (.ref L3),none,none,none,none] cst
  (by
   rintro i σ c' ⟨ls,z4,z5,z6,z7,jH,D1,K1,_⟩ p hp
   rcases List.mem_cons.mp hp with rfl|hp
   ·exact K1 _ _ (by simpa using n2.symm) Q8.at_
   ·cases List.mem_singleton.mp hp
    exact K1 _ _ (by simpa using n3.symm) g3)
  (by
   rintro i d σ c' hd ⟨ls,z4,z5,z6,z7,jH,D1,K1,I1,V1,N1⟩
   subst jH
   rw[show 0+i=i by omega]at V1 N1
   rw[List.getElem?_map]at hd
   obtain⟨⟨s,f⟩,hx,rfl⟩:=Option.map_eq_some_iff.mp hd
   obtain⟨hs,hf⟩:=List.getElem?_zip_eq_some.mp hx
   have nh:i<(keys ks).length:=(List.getElem?_eq_some_iff.mp hs).1
   obtain⟨row,B7⟩:∃r,rows[i]? =some r:=⟨_,List.getElem?_eq_getElem (by rw[K.len];exact nh)⟩
   have Ud:=List.mem_of_getElem? hs
   obtain⟨ok,Ue,fwd⟩:=hS s Ud
   obtain⟨q,hq,Nb⟩:=List.mem_map.mp Ud
   subst Nb
   have WD:=List.mem_of_getElem? hf
   have WE:c'[f]? =some (.lst (row.map sd)):=K1 _ _ (by simpa using fun h=>i2 (by rw[←h];exact WD)) (R0.at_ i f row hf B7)
   have rm:=List.mem_of_getElem? B7
   have sz:=K.sz row rm
   have YV:(keys ks).length*(keys ks).length≤900:=Nat.le_trans (Nat.mul_le_mul (show(keys ks).length≤30 by omega) (show(keys ks).length≤30 by omega)) (by decide)
   obtain⟨n,ys,c1,f1,f2,f3,f4,f5,f6,f7⟩:=Na (x0:=x0) (x1:=x1) (c:=c') (ok.o1.mono (by decide)) (ok.o2.mono (by decide)) fwd WE (K.ok row rm) (by omega)
   have Oa:∀p,p∈ys↔My.mB (keys ks) q.1 p:=fun p=>by
    rw[f6 p,tJ Am kd K hs B7 p]
    constructor
    ·exact fun h=>h.1
    ·exact fun h=>⟨h,(h.on Am Ue).2⟩
   have WG:Ng ys:=EY f7 f5 fun p hp=>(((Oa p).mp hp).on Am Ue).1
   have Yq:ys.length≤1802:=by
    have:ys.length≤row.length:=by
     have Im:∀p∈ys,p∈row:=fun p hp=>((f6 p).mp hp).1
     exact sub_len ys row f5 Im
    omega
   have hM:∀k∈ls,k.2.2.length≤30:=fun k hk=>by
    obtain⟨r1,r2⟩:=V1.row (k.1,k.2.2) (List.mem_map_of_mem hk)
    have:=rY N k.2.2 r1 fun x hx=>by
     obtain⟨t,_,_,hx⟩:=(r2 x).mp hx
     obtain⟨j,h1,h2,_⟩:=kG.mp hx
     omega
    omega
   have Wq:q.2.2.length≤30:=by
    rw[nm q hq]
    have:=rY N (num IN q.1 N) xn fun x hx=>by
     obtain⟨j,h1,h2,_⟩:=kG.mp hx
     omega
    omega
   have Nh:xk c1 L2 ks:=(Q8.keep K1 (by simpa using n2.symm) (fun x hx=>by simpa using fun h=>i1 (by rw[←h];exact hx))).keep (S:=[]) (Kq.pre f2) (by simp) (by simp)
   have old:∀{x:Nat},x<c.length→x≠L1→x∉L1::ids ls:=fun {x} h1 h2 hm=>by
    rcases List.mem_cons.mp hm with e|hm
    ·exact h2 e
    ·have:=I1 x hm;omega
   have DV:cst.length≤c'.length:=by
    have h1:=K1 L2 _ (by simpa using n2.symm) Q8.at_
    rcases Nat.lt_or_ge c'.length cst.length with h|h
    ·exfalso
     by_cases e:c'.length=L1
     ·have:=bp D1.at_;omega
     ·obtain⟨zz,hz⟩:∃zz,cst[c'.length]? =some zz:=⟨_,List.getElem?_eq_getElem h⟩
      have:=bp (K1 _ _ (by simpa using e) hz)
      omega
    ·exact h
   have hmul:(ys.length+1)*(q.2.2.length+1)≤1803*31:=Nat.mul_le_mul (by omega) (by omega)
   have a3:n∉L1::ids ls:=fun hm=>by
    rcases List.mem_cons.mp hm with e|hm
    ·have:=bp D1.at_;omega
    ·have:=D1.rT hm;omega
   obtain⟨mF,z,c2,g1,g2,WH,g4,g5,g6,g7⟩:=Gy (A:=A) (B:=some (.ref L3)) (C5:=some (.ref f)) (z7:=z7) (M:=30) (q:=q) (D1.up f2) Nh kd hq f4 (old (by have:=bp d2.at_;omega) n2.symm) (fun x hx=>old (by
    have:=d2.rT hx
    omega) (fun h=>i1 (by rw[←h];exact hx))) a3 hM (by omega) (by omega)
   refine⟨_,_,[A,some (.ref L1),some (.ref L2),some (.ref L3),some (aA q.1),some (.ref f),some (.ref n),z],c2,rfl,?_,mF,some (aA q.1),some (.ref f),some (.ref n),z,rfl,g2,?_,?_,?_,?_⟩
   ·have WI:mD x0 x1 [aA q.1,.ref f] c'=some (.ref n,c1):=f1
    erw[WI,g1]
   ·refine(K1.trans (Kq.pre (S:=[]) f2) (by simp)).trans WH fun x hx=>?_
    rcases List.mem_cons.mp hx with rfl|hx
    ·exact .inl (by simp)
    ·exact .inr (I1 x hx)
   ·intro x hx
    rcases g4 x hx with h|h
    ·exact I1 x h
    ·have:=fY f2;omega
   ·rw[show 0+i+1=i+1 by omega,List.take_add_one,hs,g5,nm q hq]
    exact V1.step (fun z=>JO WG Oa z) (uk f5) xn fun t ht k hk=>DX (fun e=>by
     rw[e]at ht
     obtain⟨j,hj⟩:=List.getElem?_of_mem ht
     rw[List.getElem?_take]at hj
     split at hj
     ·have:=(List.getElem?_inj (List.getElem?_eq_some_iff.mp hj).1 kd).mp (hj.trans hs.symm)
      omega
     ·cases hj) hk
   ·rw[show 0+i+1=i+1 by omega,Nat.add_mul]
    omega)
  ⟨[],none,none,none,none,rfl,WC,Kq.refl _ _,fun _ h=>(by simp[ids]at h),⟨.nil,fun z=>⟨fun h=>(by simp[rX]at h),fun⟨s,hs,_⟩=>(by simp at hs)⟩,fun _ h=>(by simp[rX]at h)⟩,Nat.le_refl _⟩
 have e2:=gE (g:=c_ 2 (aQ (av 4) (aQ (av 5) cZ))) (b:=JS x0 x1) it
 rw[e1]at e2
 have hl: 0+(((keys ks).zip fs).map fun x=>D.tup [aA x.1,D.ref x.2]).length=(keys ks).length:=by simp;omega
 rw[hl]at V1 N1
 rw[List.take_length]at V1
 refine⟨ls,z4,z5,z6,z7,c',e2,D1,WB.trans K1 (fun x hx=>.inl (by simp at hx;simp[hx])),fun n hn=>by have:=I1 n hn;omega,V1,?_⟩
 have:(keys ks).length≤30:=by omega
 omega
theorem B_{κ α:Type}[DecidableEq κ]:∀(ps acc:List (κ×α)),((acc++ps).map (·.1)).Nodup→ps.foldl (fun a p=>mr a p.1 p.2) acc=acc++ps
 |[],acc,_=>by simp
 |p::ps,acc,h=>by
  have hn:p.1∉acc.map (·.1):=fun hm=>by
   rw[List.map_append,List.map_cons,List.nodup_append]at h
   exact h.2.2 p.1 hm p.1 List.mem_cons_self rfl
  have e:mr acc p.1 p.2=acc++[p]:=by
   unfold mr
   rw[if_neg]
   rw[Bool.not_eq_true,List.any_eq_false]
   intro x hx hd
   exact hn (by rw[←of_decide_eq_true hd];exact List.mem_map_of_mem hx)
  rw[List.foldl_cons,e,B_ ps (acc++[p]) (by simpa using h)]
  simp
theorem DS.ix{o k:XE}{σ:Qm.Env}{c:Cells}{L:Nat}{ks:KV}(h:DS c L ks){s:S2}(hs:s∈keys ks)(ho:o σ c=some (.ref L,c))(hk:k σ c=some (aA s,c)):∃q∈ks,q.1=s∧jF o k σ c=some (.ref q.2.1,c):=by
 obtain⟨q,hq,e⟩:=List.mem_map.mp hs
 obtain⟨q',B3,e',ha⟩:=vA (ks:=ks) (s:=s) ⟨q,hq,e⟩
 have t1:qt (.ref L) c=some (ks.map fun k=>(kS k.1,D.ref k.2.1)):=by
  unfold qt
  simp[h.at_,kc]
 refine⟨q',B3,e',?_⟩
 unfold jF
 simp only[ho,hk,t1,Option.bind_some,Ak,ha]
theorem xp{c:Cells}{L:Nat}{ks:KV}(h:c[L]? =some (kc ks))(hn:ks.length≤1000000):jq [.ref L] c=some (.ref c.length,c++[.lst ((keys ks).map aA)]):=by
 unfold jq one qt
 simp only[h,kc,Option.bind_some]
 rw[if_pos (show(ks.map fun k=>(kS k.1,D.ref k.2.1)).length≤cE by rw[dS,List.length_map];omega),JT]
def oD(l:List Int):List Int:=l.mergeSort fun a b=>decide (a≤b)
theorem Gz(l:List Int):nums (l.map D.int)=some l:=by
 unfold nums
 induction l with
 |nil=>rfl
 |cons x l ih=>
  show((qZ (D.int x)).bind fun d=>(omap qZ (l.map D.int)).bind fun ds=>some (d::ds))=_
  rw[ih]
  rfl
theorem JU{c:Cells}{n:Nat}{row:List Int}(h:c[n]? =some (.lst (row.map D.int)))(hn:row.length<64):lj [.ref n] c=some (.ref c.length,c++[.lst ((oD row).map D.int)]):=by
 unfold lj one
 simp only[aU h,Option.bind_some,Gz]
 rw[if_pos hn]
 rfl
structure Out(S IN:List S2)(w:KV):Prop where
 xq:jG jZ (keys w)
 nd:(keys w).Nodup
 key:∀z,z∈keys w↔∃s∈S,en S s z
 row:∀x∈w,∃r:List Int,r.Nodup∧(∀k,k∈r↔∃s∈S,en S s x.1∧k∈num IN s IN.length)∧x.2.2=oD r
 ok:∀z∈keys w,ik 8000 z
structure uV(IN S:List S2):Prop where
 nd:S.Nodup
 mem:∀s,s∈S↔∃k,k<IN.length∧(IN[k]?).map gJ=some s
structure kU(s:S2):Prop where
 ok:ik 130 s
 ne:s.1≠s.2
structure rZ(s:S2):Prop where
 ok:ik 1000 s
 ne:s.1≠s.2
theorem DY{s:S2}(h:rZ s):ik 1000 (gJ s)∧My.Sd (gJ s)∧My.aM (gJ s).1 (gJ s).2=true:=by
 have l1:=h.ok.o1.dE
 have l2:=h.ok.o2.dE
 unfold gJ My.fw
 split
 ·rename_i hh
  exact⟨⟨h.ok.o1,h.ok.o2⟩,⟨l1,l2,h.ne⟩,hh⟩
 ·rename_i hh
  refine⟨⟨h.ok.o2,h.ok.o1⟩,⟨l2,l1,h.ne.symm⟩,?_⟩
  rcases My.iA l1 l2 with g|g|g
  ·exact absurd g hh
  ·exact absurd g h.ne
  ·exact g
theorem EZ:∀(w:KV),omap tf (w.map fun x=>D.tup [aA x.1,D.ref x.2.1])=some (w.map fun x=>(kS x.1,D.ref x.2.1))
 |[]=>rfl
 |x::w=>by
  show((tf (D.tup [aA x.1,D.ref x.2.1])).bind fun d=>(omap tf (w.map fun x=>D.tup [aA x.1,D.ref x.2.1])).bind fun ds=>some (d::ds))=_
  rw[EZ w]
  rfl
theorem Ob{x0 x1 m:Nat}{IN:List S2}{c:Cells}(hx:x0≠x1)(hm:c[m]? =some (.lst (IN.map aA)))(nL:∀s∈IN,rZ s)(hn:IN.length≤30):
  ∃S w R c',tu x0 x1 [.ref m] c=some (.ref R,c')∧c <+:c'∧c.length≤R∧c'[R]? =some (kc w)∧(∀x∈w,c.length≤x.2.1∧c'[x.2.1]? =some (.lst (x.2.2.map D.int)))∧(ids w).Nodup∧R∉ids w∧w.length≤1000000∧uV IN S∧Out S IN w:=by
 obtain⟨ks,c2,a1,a2,a3,a4,a5,a6⟩:=Gu (c:=c++[.gH []]) (aY hm) (fun s hs=>⟨(nL s hs).ok.o1.mono (by decide),(nL s hs).ok.o2.mono (by decide)⟩) (by omega)
 have hS:∀s∈keys ks,ik 1000 s∧My.Sd s∧My.aM s.1 s.2=true:=fun s hs=>by
  obtain⟨k,hk,e⟩:=(a5.key s).mp hs
  obtain⟨t,ht,e2⟩:=Option.map_eq_some_iff.mp e
  rw[←e2]
  exact DY (nL t (List.mem_of_getElem? ht))
 have l2:=xp a3.at_ (by omega)
 have Uc:(keys ks).length=ks.length:=by simp[keys]
 obtain⟨fs,rows,c4,b1,b2,b3,b4,b5,b6⟩:=Gw (m:=c2.length) (c:=c2++[.lst ((keys ks).map aA)]) aH (fun s hs=>(hS s hs).1) a3.kd (by omega)
 have WJ:(c++[Cell.gH []]).length=c.length+1:=by simp
 have WK:(c2++[Cell.lst ((keys ks).map aA)]).length=c2.length+1:=by simp
 rw[WJ]at a1 a3 a4 l2
 rw[WK]at b1 b3 b5
 have p2:c2 <+:c4:=(show c2 <+:c2++[.lst ((keys ks).map aA)] from⟨_,rfl⟩).trans b2
 have uO:=fY a2
 have dA:DS c4 c.length []:=⟨aC p2 (aC a2 aH),fun _ h=>(nomatch h),.nil,.nil,by simp[ids]⟩
 have WL:∀n∈ids ks,n<c2.length:=fun n hn=>a3.rT hn
 have IW:=bp a3.at_
 obtain⟨ls,z4,z5,z6,z7,c5,d1,d2,d3,d4,d5,d6⟩:=Q7 (x0:=x0) (x1:=x1) (A:=some (.ref m)) (N:=IN.length) hn dA (a3.up p2) b3 b4 b6 a5.row a6 hS (by omega) (by omega) (by omega) (fun h=>by have:=a4 _ h;omega) (fun h=>by have:=b5 _ h;omega) (fun h=>by have:=b5 _ h;omega) (fun n hn h=>by have:=b5 _ h;have:=WL n hn;omega)
 have YW:=fY p2
 have pc:c <+:c5:=pre_of fun j z e=>d3 j z (fun hj=>by
  have:=bp e
  simp at hj
  omega) (aC p2 (aC a2 (aY e)))
 have Ug:∀z∈keys ls,ik 8000 z:=fun z hz=>by
  obtain⟨s,hs,hc⟩:=(d5.key z).mp (by rw[tK];exact hz)
  obtain⟨i,hi⟩:=List.getElem?_of_mem hs
  obtain⟨row,hr⟩:∃r,rows[i]? =some r:=⟨_,List.getElem?_eq_getElem (by rw[b6.len];exact(List.getElem?_eq_some_iff.mp hi).1)⟩
  have rm:=List.mem_of_getElem? hr
  exact⟨b6.ok row rm _ ((tJ (fun t ht=>(hS t ht).2.1) a3.kd b6 hi hr _).mpr hc.c1),b6.ok row rm _ ((tJ (fun t ht=>(hS t ht).2.1) a3.kd b6 hi hr _).mpr hc.c2)⟩
 have l5:=xp d2.at_ (by omega)
 obtain⟨n,ni,c7,f1,f2,f3,f4,f5,f6⟩:=xh (DP hx) yO (xs:=keys ls) (a:=c5.length) (c:=c5++[.lst ((keys ls).map aA)]) aH Ug (by simp[keys];omega)
 have p7:c5 <+:c7:=(show c5 <+:c5++[.lst ((keys ls).map aA)] from⟨_,rfl⟩).trans f2
 have d7:=d2.up p7
 have Nc:c.length<c7.length:=bp d7.at_
 have Ni:∀k∈ls,k.2.2.length<64:=fun k hk=>by
  obtain⟨r1,r2⟩:=d5.row (k.1,k.2.2) (List.mem_map_of_mem hk)
  have:=rY IN.length k.2.2 r1 fun x hx=>by
   obtain⟨t,_,_,hx⟩:=(r2 x).mp hx
   obtain⟨j,h1,h2,_⟩:=kG.mp hx
   omega
  omega
 have hi:eE (ao (d_ x0 x1) [] (ae (eB jq (ae (eV 1) ag)) (ae (eC (.adr x1)) ag))) [some (.ref m),some (.ref c.length),some (.ref (c.length+1)),some (.ref (c2.length+1)),z4,z5,z6,z7] c5=some (⟨ni.map aA,[(n,.lst (ni.map aA))]⟩,c7):=by
  have WM:ao (d_ x0 x1) [] (ae (eB jq (ae (eV 1) ag)) (ae (eC (.adr x1)) ag)) [some (.ref m),some (.ref c.length),some (.ref (c.length+1)),some (.ref (c2.length+1)),z4,z5,z6,z7] c5=some (.ref n,c7):=by erw[l5,f1]
  unfold eE
  rw[WM]
  simp[f4,a_ f4]
 obtain⟨vs,c8,e1,p8,g8,l8,r8⟩:=Jv (te:=eD (ae (eV 0) (ae (eB lj (ae (jF (eV 1) (eV 0)) ag)) ag))) (g:=av 0) (cap:=[none,some 1]) (fun τ=>∃z,τ=[z,some (.ref c.length)])
  (fun i v c'=>∃k z q,v= .tup [aA z,.ref k]∧k=c7.length+1+i∧ni[i]? =some z∧q∈ls∧q.1=z∧c'[k]? =some (.lst ((oD q.2.2).map D.int))) (fun i u=>u.length=c7.length+1+i) (fun i u z h=>by rw[List.length_set];exact h) (by simp) hi (fun p hp=>by cases List.mem_singleton.mp hp;exact f4) ⟨none,rfl⟩
  (fun i v u1 u2 ⟨k,z,q,h1,h2,h3,h4,h5,h6⟩ fr=>⟨k,z,q,h1,h2,h3,h4,h5,fr k _ (by omega) h6⟩)
  (by
   rintro i d hd τ c' ⟨z,oC⟩ pc lc DV
   subst oC
   rw[List.getElem?_map]at hd
   obtain⟨x,hx,rfl⟩:=Option.map_eq_some_iff.mp hd
   have QX:x∈keys ls:=f5.mem_iff.mp (List.mem_of_getElem? hx)
   have dd:=d7.up pc
   obtain⟨q,hq,e,ix⟩:=dd.ix (o:=eV 1) (k:=eV 0) (σ:=[some (aA x),some (.ref c.length)]) QX rfl rfl
   have so:=JU (dd.cell q hq) (Ni q hq)
   refine⟨[some (aA x),some (.ref c.length)],.tup [aA x,.ref c'.length],[.lst ((oD q.2.2).map D.int)],rfl,?_,⟨_,rfl⟩,⟨c'.length,x,q,rfl,DV,hx,hq,e,by simp⟩,by simp;omega⟩
   erw[ix,so])
  (by rw[List.length_map,f5.length_eq];simp[keys];omega)
 rw[List.length_map]at l8
 have ref:∃w:KV,vs=w.map (fun x=>D.tup [aA x.1,D.ref x.2.1])∧keys w=ni∧(ids w).Nodup∧∀x∈w,c7.length<x.2.1∧c8[x.2.1]? =some (.lst (x.2.2.map D.int))∧∃q∈ls,q.1=x.1∧x.2.2=oD q.2.2:=by
  clear e1 g8 hi f1 f4 f5 f6
  have:∀(vs:List D) (ni:List S2) (b:Nat),c7.length<b→vs.length=ni.length→(∀(i:Nat) v,vs[i]? =some v→∃k z q,v=D.tup [aA z,.ref k]∧k=b+i∧ni[i]? =some z∧q∈ls∧q.1=z∧c8[k]? =some (.lst ((oD q.2.2).map D.int)))→
    ∃w:KV,vs=w.map (fun x=>D.tup [aA x.1,D.ref x.2.1])∧keys w=ni∧(∀x∈w,b≤x.2.1)∧(ids w).Nodup∧∀x∈w,c7.length<x.2.1∧c8[x.2.1]? =some (.lst (x.2.2.map D.int))∧∃q∈ls,q.1=x.1∧x.2.2=oD q.2.2:=by
   intro vs
   induction vs with
   |nil=>
    intro ni b _ hl _
    cases ni with
    |nil=>exact⟨[],rfl,rfl,fun x h=>(nomatch h),.nil,fun x h=>nomatch h⟩
    |cons _ _=>simp at hl
   |cons v vs ih=>
    intro ni b hb hl h
    cases ni with
    |nil=>simp at hl
    |cons y ni=>
     obtain⟨k,z,q,rfl,h1,h2,h3,h4,h5⟩:=h 0 v rfl
     cases h2
     obtain⟨w,rfl,h6,h8,h9,h7⟩:=ih ni (b+1) (by omega) (by simpa using hl) fun i v hv=>by
      have:=h (i+1) v (by simpa using hv)
      rw[show b+(i+1)=b+1+i by omega]at this
      simpa using this
     refine⟨(y,k,oD q.2.2)::w,rfl,by simp[keys]at h6 ⊢;exact h6,fun x hx=>?_,?_,fun x hx=>?_⟩
     ·rcases List.mem_cons.mp hx with rfl|hx
      ·show b≤k;omega
      ·have:=h8 x hx;omega
     ·refine List.nodup_cons.mpr ⟨fun hm=>?_,h9⟩
      obtain⟨x,hx,e⟩:=List.mem_map.mp hm
      have YX:=h8 x hx
      have e':x.2.1=k:=e
      omega
     ·rcases List.mem_cons.mp hx with rfl|hx
      ·exact⟨by show c7.length<k;omega,h5,q,h3,h4,rfl⟩
      ·exact h7 x hx
  obtain⟨w,q1,q2,_,q4,q5⟩:=this vs ni (c7.length+1) (by omega) l8 r8
  exact⟨w,q1,q2,q4,q5⟩
 obtain⟨w,rfl,kw,ind,hw⟩:=ref
 have knd:(keys w).Nodup:=by rw[kw,f5.nodup_iff];exact d2.kd
 have lw:w.length=ls.length:=by
  have h1:(keys w).length=w.length:=by simp[keys]
  have h2:(keys ls).length=ls.length:=by simp[keys]
  rw[←h1,kw,f5.length_eq,h2]
 have pk:=EZ w
 have pn:=B_ (w.map fun x=>(kS x.1,D.ref x.2.1)) [] (by
  rw[List.nil_append,List.map_map]
  have:(w.map ((fun x=>x.1) ∘ fun x:S2×Nat×List Int=>(kS x.1,D.ref x.2.1)))=(keys w).map kS:=by unfold keys;rw[List.map_map];rfl
  rw[this]
  exact List.Pairwise.map _ (fun a b (h:a≠b) e=>h (Aj.mp e)) knd)
 rw[List.nil_append]at pn
 have dp:vm [.ref c7.length] c8=some (.ref c8.length,c8++[kc w]):=by
  unfold vm one
  simp only[aU g8,Option.bind_some,pk,pn]
  rfl
 have YY:=fY p8
 have YZ:=fY p7
 have Y0:=fY pc
 refine⟨keys ks,w,c8.length,c8++[kc w],?_,pre_app ((pc.trans p7).trans p8),by omega,aH,fun x hx=>⟨by have:=(hw x hx).1;omega,aY (hw x hx).2.1⟩,ind,fun hm=>?_,by omega,⟨a3.kd,a5.key⟩,⟨?_,knd,?_,?_,?_⟩⟩
 ·have nw:rF [some (.ref m),none,none,none,none,none,none,none] c=some (.ref c.length,c++[.gH []]):=rfl
  rw[tu,jv,Af]
  erw[nw,a1,l2,b1,d1,e1,dp]
 ·obtain⟨x,hx,e⟩:=List.mem_map.mp hm
  have:=bp (hw x hx).2.1
  omega
 ·rw[kw];exact f6
 ·intro z
  rw[kw,f5.mem_iff,←tK]
  exact d5.key z
 ·intro x hx
  obtain⟨_,_,q,hq,e,e2⟩:=hw x hx
  obtain⟨r1,r2⟩:=d5.row (q.1,q.2.2) (List.mem_map_of_mem hq)
  exact⟨q.2.2,r1,fun k=>by rw[←e];exact r2 k,e2⟩
 ·intro z hz
  exact Ug z (f5.mem_iff.mp (by rw[←kw];exact hz))
theorem pz{p:T3}{s:S2}(h1:My.bA s.1)(h2:My.bA s.2)(fO:s.1≠s.2):My.ef p (gJ s).1 (gJ s).2=My.ef p s.1 s.2:=by
 have key:My.ef p s.2 s.1=My.ef p s.1 s.2:=by
  by_cases h:My.aG s.1 s.2 p=0
  ·have h':My.aG s.2 s.1 p=0:=by rw[My.rJ,h];rfl
   rw[Bool.eq_iff_iff,My.cI h,My.cI h',My.Jl h1 h2 fO]
  ·have h':¬My.aG s.2 s.1 p=0:=by rw[My.rJ];omega
   have e:∀{a b:T3},¬My.aG a b p=0→My.ef p a b=false:=fun {a b} hh=>by
    unfold My.ef My.wb
    rw[if_neg (show ¬My.det a.1 a.2.1 a.2.2 b.1 b.2.1 b.2.2 p.1 p.2.1 p.2.2=0 from hh)]
   rw[e h,e h']
 unfold gJ My.fw
 split
 ·rfl
 ·exact key
def nM(IN:List S2)(z:S2)(k:Nat):Bool:=match IN[k]? with
 |some s=>My.ef z.1 s.1 s.2&&My.ef z.2 s.1 s.2
 |none=>false
def fq(IN:List S2)(z:S2):List Int:=((List.range IN.length).filter (nM IN z)).map fun(k:Nat)=>(k:Int)
theorem jr:∀{xs ys:List Int},xs.Perm ys→xs.Pairwise (·≤·)→ys.Pairwise (·≤·)→xs=ys
 |[],_,p,_,_=>(List.nil_perm.mp p).symm
 |x::xs,[],p,_,_=>absurd p.length_eq (by simp)
 |x::xs,y::ys,p,h1,h2=>by
  have e:x=y:=by
   have m1:x∈y::ys:=p.subset List.mem_cons_self
   have m2:y∈x::xs:=p.symm.subset List.mem_cons_self
   rcases List.mem_cons.mp m1 with e|m1
   ·exact e
   rcases List.mem_cons.mp m2 with e|m2
   ·exact e.symm
   have a1:=(List.pairwise_cons.mp h1).1 _ m2
   have a2:=(List.pairwise_cons.mp h2).1 _ m1
   omega
  subst e
  rw[jr (List.Perm.cons_inv p) (List.pairwise_cons.mp h1).2 (List.pairwise_cons.mp h2).2]
theorem Ca{r d:List Int}(hr:r.Nodup)(hd:d.Pairwise (·< ·))(h:∀k,k∈r↔k∈d):oD r=d:=by
 have nd:d.Nodup:=hd.imp fun h=>by omega
 have pe:r.Perm d:=(List.perm_ext_iff_of_nodup hr nd).mpr h
 unfold oD
 refine jr ((List.mergeSort_perm ..).trans pe) ?_ (hd.imp fun h=>by omega)
 have:=List.pairwise_mergeSort (le:=fun a b:Int=>decide (a≤b)) (fun a b c h1 h2=>by simp at *;omega) (fun a b=>by simp;omega) r
 exact this.imp fun h=>by simpa using h
theorem tL(IN:List S2)(z:S2):(fq IN z).Pairwise (·< ·):=by
 unfold fq
 refine List.Pairwise.map _ (fun a b (h:a<b)=>by omega) (List.Pairwise.filter _ ?_)
 exact List.pairwise_lt_range
theorem Out.Q9{S IN:List S2}{w:KV}(nL:∀s∈IN,rZ s)(f:uV IN S)(h:Out S IN w){x:S2×Nat×List Int}(hx:x∈w):x.2.2=fq IN x.1:=by
 obtain⟨r,r1,r2,r3⟩:=h.row x hx
 rw[r3]
 have hS:∀t∈S,My.Sd t:=fun t ht=>by
  obtain⟨k,_,e⟩:=(f.mem t).mp ht
  obtain⟨u,hu,e2⟩:=Option.map_eq_some_iff.mp e
  rw[←e2]
  exact(DY (nL u (List.mem_of_getElem? hu))).2.1
 obtain⟨s0,Uh,c0⟩:=(h.key x.1).mp (List.mem_map_of_mem hx)
 have o0:=c0.on hS Uh
 refine Ca r1 (tL IN x.1) fun k=>?_
 rw[r2 k]
 unfold fq
 rw[List.mem_map]
 constructor
 ·rintro⟨s,hs,hc,hk⟩
  obtain⟨j,hj,rfl,e⟩:=kG.mp hk
  refine⟨j,List.mem_filter.mpr ⟨List.mem_range.mpr hj,?_⟩,rfl⟩
  obtain⟨u,hu,e2⟩:=Option.map_eq_some_iff.mp e
  have ui:=nL u (List.mem_of_getElem? hu)
  obtain⟨q1,q2⟩:=hc.on hS hs
  unfold nM
  rw[hu]
  have g1:=pz (p:=x.1.1) ui.ok.o1.dE ui.ok.o2.dE ui.ne
  have g2:=pz (p:=x.1.2) ui.ok.o1.dE ui.ok.o2.dE ui.ne
  rw[e2,q1.2]at g1
  rw[e2,q2.2]at g2
  show(My.ef x.1.1 u.1 u.2&&My.ef x.1.2 u.1 u.2)=true
  rw[←g1,←g2]
  rfl
 ·rintro⟨j,hj,rfl⟩
  obtain⟨a,b⟩:=List.mem_filter.mp hj
  have Q_:=List.mem_range.mp a
  obtain⟨u,hu⟩:∃u,IN[j]? =some u:=⟨_,List.getElem?_eq_getElem Q_⟩
  unfold nM at b
  rw[hu]at b
  have b':My.ef x.1.1 u.1 u.2=true∧My.ef x.1.2 u.1 u.2=true:=by simpa using b
  have ui:=nL u (List.mem_of_getElem? hu)
  have g1:=pz (p:=x.1.1) ui.ok.o1.dE ui.ok.o2.dE ui.ne
  have g2:=pz (p:=x.1.2) ui.ok.o1.dE ui.ok.o2.dE ui.ne
  have Ui:gJ u∈S:=(f.mem _).mpr ⟨j,Q_,by rw[hu];rfl⟩
  refine⟨gJ u,Ui,c0.move hS Uh Ui ⟨o0.1.1,g1.trans b'.1⟩ ⟨o0.2.1,g2.trans b'.2⟩,kG.mpr ⟨j,Q_,rfl,by rw[hu];rfl⟩⟩
theorem xr{x0 x1 m:Nat}{IN:List S2}{c:Cells}(hx:x0≠x1)(hm:c[m]? =some (.lst (IN.map aA)))(nL:∀s∈IN,rZ s)(hn:IN.length≤30):
  ∃S w n c',i6 x0 x1 [.ref m] c=some (.ref n,c')∧c <+:c'∧c.length≤n∧c'[n]? =some (.lst ((keys w).map aA))∧uV IN S∧Out S IN w∧w.length≤1000000:=by
 obtain⟨S,w,R,c1,e1,p1,l1,g1,r1,_,_,lw,f,o⟩:=Ob hx hm nL hn
 have l2:=xp g1 (by omega)
 refine⟨S,w,c1.length,c1++[.lst ((keys w).map aA)],?_,pre_app p1,fY p1,aH,f,o,lw⟩
 rw[i6,jv,pf]
 erw[e1,l2]
theorem An{x0 x1 m:Nat}{IN:List S2}{c:Cells}(hx:x0≠x1)(hm:c[m]? =some (.lst (IN.map aA)))(nL:∀s∈IN,rZ s)(hn:IN.length≤30):
  ∃S w n c',b_ x0 x1 [.ref m] c=some (.ref n,c')∧c <+:c'∧c.length≤n∧c'[n]? =some (.lst ((ids w).map D.ref))∧(∀x∈w,c.length≤x.2.1∧x.2.1≠n∧c'[x.2.1]? =some (.lst ((fq IN x.1).map D.int)))∧(ids w).Nodup∧uV IN S∧Out S IN w∧w.length≤1000000:=by
 obtain⟨S,w,R,c1,e1,p1,l1,g1,r1,i1,i2,lw,f,o⟩:=Ob hx hm nL hn
 have ev:∀{e:XE}{σ:Qm.Env},e σ c=some (.ref R,c1)→Aa e σ c=some (.ref c1.length,c1++[.lst ((ids w).map D.ref)]):=fun {e σ} he=>by
  unfold Aa qt
  simp only[he,Option.bind_some,g1,kc]
  rw[if_pos (show(w.map fun k=>(kS k.1,D.ref k.2.1)).length≤cE by rw[dS,List.length_map];omega)]
  unfold ids
  rw[List.map_map,List.map_map]
  rfl
 refine⟨S,w,c1.length,c1++[.lst ((ids w).map D.ref)],?_,pre_app p1,fY p1,aH,fun x hx=>⟨(r1 x hx).1,fun e=>?_,?_⟩,i1,f,o,lw⟩
 ·have he:ao (tu x0 x1) [] (ae (eV 0) ag) [some (.ref m)] c=some (.ref R,c1):=by erw[e1]
  have:=ev he
  rw[b_,jv,iD]
  erw[this]
 ·have:=bp (r1 x hx).2
  omega
 ·rw[←o.Q9 nL f hx]
  exact aY (r1 x hx).2
theorem gK{p q:T3}{c:Cells}(hp:Ok 8000 p)(hq:Ok 8000 q):bu [sd p,sd q] c=some (.bl (My.aM p q),c):=by
 have a1:=hp.bx;have a2:=hp.gF;have a3:=hp.bw;have b1:=hq.bx;have b2:=hq.gF;have b3:=hq.bw
 have e:EM (.tup [.int (p.1*q.2.2),.int (p.2.1*q.2.2)]) (.tup [.int (q.1*p.2.2),.int (q.2.1*p.2.2)]) c=some (.bl (iW [q.1*p.2.2,q.2.1*p.2.2] [p.1*q.2.2,p.2.1*q.2.2]),c):=rfl
 have e2:iW [q.1*p.2.2,q.2.1*p.2.2] [p.1*q.2.2,p.2.1*q.2.2]=My.aM p q:=by
  rw[Bool.eq_iff_iff,My.js]
  unfold iW
  by_cases h:q.1*p.2.2=p.1*q.2.2
  ·rw[if_pos h]
   unfold iW
   by_cases h2:q.2.1*p.2.2=p.2.1*q.2.2
   ·rw[if_pos h2]
    simp[iW]
    omega
   ·rw[if_neg h2]
    simp only[decide_eq_true_eq]
    omega
  ·rw[if_neg h]
   simp only[decide_eq_true_eq]
   omega
 rw[e2]at e
 unfold sd at*
 erw[bu,jg,rR,e]
theorem pA{a b p:T3}{c:Cells}(ha:Ok 8000 a)(hb:Ok 8000 b)(hp:Ok 8000 p):eI [sd a,sd b,sd p] c=some (.int (My.aG a b p),c):=by
 have a1:=ha.bx;have a2:=ha.gF;have a3:=ha.bw;have b1:=hb.bx;have b2:=hb.gF;have b3:=hb.bw;have p1:=hp.bx;have p2:=hp.gF;have p3:=hp.bw
 have e:My.aG a b p=a.1*(b.2.1*p.2.2 - p.2.1*b.2.2) - a.2.1*(b.1*p.2.2 - p.1*b.2.2)+a.2.2*(b.1*p.2.1 - p.1*b.2.1):=by
  unfold My.aG My.det
  grind
 rw[e]
 have d1:My.Bd 90000 (b.2.1*p.2.2 - p.2.1*b.2.2):=(My.Bd.sub (My.Bd.mul b2 p3) (My.Bd.mul p2 b3)).mono (by decide)
 have d2:My.Bd 90000 (b.1*p.2.2 - p.1*b.2.2):=(My.Bd.sub (My.Bd.mul b1 p3) (My.Bd.mul p1 b3)).mono (by decide)
 have d3:My.Bd 90000 (b.1*p.2.1 - p.1*b.2.1):=(My.Bd.sub (My.Bd.mul b1 p2) (My.Bd.mul p1 b2)).mono (by decide)
 have u1:=cC (c:=c) (kA (a1.mono (by decide)) d1)
 have u2:=cC (c:=c) (kA (a2.mono (by decide)) d2)
 have u3:=cC (c:=c) (kA (a3.mono (by decide)) d3)
 unfold sd
 erw[eI,lF,rR,u1,u2,u3]
theorem Oc{p:T3}{s:S2}{c:Cells}(hp:Ok 8000 p)(h:ik 8000 s):gu [sd p,aA s] c=some (.bl (My.ef p s.1 s.2),c):=by
 have e1:=gK (c:=c) h.o2 h.o1
 have t1:=pA (c:=c) h.o1 h.o2 hp
 have t2:=pA (c:=c) h.o2 h.o1 hp
 have q1:=gK (c:=c) hp h.o1
 have q2:=gK (c:=c) h.o2 hp
 have q3:=gK (c:=c) hp h.o2
 have q4:=gK (c:=c) h.o1 hp
 have l1:=h.o1.dE
 have l2:=h.o2.dE
 have Od:∀{a b:T3},¬My.aG a b p=0→My.ef p a b=false:=fun {a b} hh=>by
  unfold My.ef My.wb
  rw[if_neg (show ¬My.det a.1 a.2.1 a.2.2 b.1 b.2.1 b.2.2 p.1 p.2.1 p.2.2=0 from hh)]
 unfold aA side at*
 cases hb:My.aM s.2 s.1 with
 |true=>
  rw[hb]at e1
  have Ra:My.fw s.1 s.2=(s.2,s.1):=by
   unfold My.fw
   rw[if_neg (by rw[My.cL hb];decide)]
  by_cases hd:My.aG s.1 s.2 p=0
  ·have CF:My.aG s.2 s.1 p=0:=by rw[My.rJ,hd];rfl
   have B6:My.ef p s.1 s.2=(!My.aM p s.2&&!My.aM s.1 p):=by
    rw[Bool.eq_iff_iff,My.cI hd,Ra]
    unfold My.le
    simp
   rw[B6]
   have z:=decide_eq_true CF
   erw[gu,i7,e1,t2,z,q3,q4]
   cases My.aM p s.2<;>rfl
  ·have CF:¬My.aG s.2 s.1 p=0:=by rw[My.rJ];omega
   rw[Od hd]
   have z:=decide_eq_false CF
   erw[gu,i7,e1,t2,z]
 |false=>
  rw[hb]at e1
  have Ra:(My.fw s.1 s.2).1=s.1∧(My.fw s.1 s.2).2=s.2∨s.1=s.2:=by
   rcases My.iA l1 l2 with g|g|g
   ·exact .inl (by unfold My.fw;rw[if_pos g];exact⟨rfl,rfl⟩)
   ·exact .inr g
   ·rw[hb]at g;cases g
  by_cases hd:My.aG s.1 s.2 p=0
  ·have B6:My.ef p s.1 s.2=(!My.aM p s.1&&!My.aM s.2 p):=by
    rw[Bool.eq_iff_iff,My.cI hd]
    rcases Ra with⟨g1,g2⟩|g
    ·rw[g1,g2]
     unfold My.le
     simp
    ·have:My.fw s.1 s.2=(s.2,s.1):=by
      unfold My.fw
      rw[if_neg (by rw[g,rW];decide)]
     rw[this,←g]
     unfold My.le
     simp
   rw[B6]
   have z:=decide_eq_true hd
   erw[gu,i7,e1,t1,z,q1,q2]
   cases My.aM p s.1<;>rfl
  ·rw[Od hd]
   have z:=decide_eq_false hd
   erw[gu,i7,e1,t1,z]
theorem yS{p:T3}{c:Cells}:∃c',cK [sd p] c=some (.bl true,c')∧c <+:c':=by
 have ct:dG [sd p,.ty "tuple"] c=some (.bl true,c):=rfl
 have cl:bS [sd p] c=some (.int 3,c):=rfl
 obtain⟨c1,e1,p1,g1⟩:=JC (it:=nC (eV 0)) (cap:=[none]) (te:=qX (eB dG (ae (eV 0) (ae (eC (.ty "int")) ag))) (ua (eB dG (ae (eV 0) (ae (eC (.ty "bool")) ag))))) (σ:=[some (sd p)]) (ρ:=[]) (x:=none) (c:=c) (ds:=[.int p.1,.int p.2.1,.int p.2.2]) [.bl true,.bl true,.bl true] rfl rfl rfl
  (fun i d v hd hv c' pc=>by
   have:∃n:Int,d= .int n:=by
    have:=List.mem_of_getElem? hd
    simp at this
    rcases this with rfl|rfl|rfl<;>exact⟨_,rfl⟩
   obtain⟨n,rfl⟩:=this
   have WN:v= .bl true:=by
    have:=List.mem_of_getElem? hv
    simpa using this
   subst WN
   have b1:dG [.int n,.ty "int"] c'=some (.bl true,c'):=rfl
   have b2:dG [.int n,.ty "bool"] c'=some (.bl false,c'):=rfl
   refine⟨[],?_⟩
   erw[b1,b2]) (by simp)
 have al:En [.ref c.length] c1=some (.bl true,c1):=by
  unfold En one
  simp only[aU g1,Option.bind_some]
  rfl
 refine⟨c1,?_,p1⟩
 erw[cK,iE,ct,cl,e1,al]
structure Uj(zs:List S2):Prop where
 ok:∀z∈zs,ik 8000 z
 fwd:∀z∈zs,My.aM z.1 z.2=true
 xq:jG jZ zs
 nd:zs.Nodup
theorem Cb:∀{zs:List S2},jG jZ zs→zs.Nodup→∀(i:Nat) a b,(zs.zip zs.tail)[i]? =some (a,b)→jZ b a=false∧a≠b
 |[],_,_,i,a,b,h=>by simp at h
 |[_],_,_,i,a,b,h=>by simp at h
 |x::y::l,hc,nd,0,a,b,h=>by
  simp at h
  obtain⟨rfl,rfl⟩:=h
  exact⟨hc.1,fun e=>(List.nodup_cons.mp nd).1 (by rw[e];simp)⟩
 |x::y::l,hc,nd,i+1,a,b,h=>Cb (zs:=y::l) hc.2 (List.nodup_cons.mp nd).2 i a b (by simpa using h)
theorem JV{a b:S2}(ha:ik 8000 a)(hb:ik 8000 b)(h:jZ b a=false)(ne:a≠b):My.aM b.1 a.1=false∧(a.1=b.1→My.aM a.2 b.2=true):=by
 unfold jZ at h
 by_cases e:b.1=a.1
 ·rw[if_pos e]at h
  refine⟨by rw[e,rW],fun _=>?_⟩
  have n2:¬b.2=a.2:=fun z=>ne (Prod.ext e z).symm
  rw[if_neg n2]at h
  rcases My.iA ha.o2.dE hb.o2.dE with g|g|g
  ·exact g
  ·exact absurd g.symm n2
  ·rw[h]at g;cases g
 ·rw[if_neg e]at h
  exact⟨h,fun z=>absurd z.symm e⟩
theorem Ao{f:Nat}{zs:List S2}{c:Cells}(h:Uj zs)(hf:c[f]? =some (.lst (zs.map aA)))(hn:zs.length≤1000000):∃c',fL [.ref f] c=some (.bl true,c')∧c <+:c':=by
 have it:eE (eV 0) [some (.ref f),none,none,none] c=some (⟨zs.map aA,[(f,.lst (zs.map aA))]⟩,c):=tD rfl hf
 obtain⟨σ',c1,e1,z,rfl,p1⟩:=cJ (ks:=[(f,.lst (zs.map aA))]) (g:=av 1) (body:=ay (cG (lT (fE (tV (eB dG (ae (eV 1) (ae (eC (.ty "tuple")) ag))))) (tV (e2 pG (eB bS (ae (eV 1) ag)) (eC (.int 2))))) (aS (eC (.bl false))) bF) (cG (lT (fE (tV (ao cK [] (ae (e2 ar (eV 1) (eC (.int 0))) ag)))) (lT (fE (tV (ao cK [] (ae (e2 ar (eV 1) (eC (.int 1))) ag)))) (fE (tV (ao bu [] (ae (e2 ar (eV 1) (eC (.int 0))) (ae (e2 ar (eV 1) (eC (.int 1))) ag))))))) (aS (eC (.bl false))) bF))
  (fun i σ c'=>∃z,σ=[some (.ref f),z,none,none]∧c <+:c') (zs.map aA) 0 [some (.ref f),none,none,none] c
  (fun i σ c' ⟨z,_,p⟩ q hq=>by cases List.mem_singleton.mp hq;exact aC p hf)
  (by
   rintro i d σ c' hd ⟨z,jH,p⟩
   subst jH
   rw[List.getElem?_map]at hd
   obtain⟨y,hy,rfl⟩:=Option.map_eq_some_iff.mp hd
   have DJ:=List.mem_of_getElem? hy
   obtain⟨c2,s1,s2⟩:=yS (p:=y.1) (c:=c')
   obtain⟨c3,s3,s4⟩:=yS (p:=y.2) (c:=c2)
   have bf:=gK (c:=c3) (h.ok y DJ).o1 (h.ok y DJ).o2
   rw[h.fwd y DJ]at bf
   have b1:dG [aA y,.ty "tuple"] c'=some (.bl true,c'):=rfl
   have b2:bS [aA y] c'=some (.int 2,c'):=rfl
   have i0:∀c,ar (aA y) (.int 0) c=some (sd y.1,c):=fun _=>rfl
   have i1:∀c,ar (aA y) (.int 1) c=some (sd y.2,c):=fun _=>rfl
   refine⟨_,_,[some (.ref f),some (aA y),none,none],c3,rfl,?_,some (aA y),rfl,(p.trans s2).trans s4⟩
   erw[b1,b2,i0,i1,s1,s3,bf])
  ⟨none,rfl,⟨[],by simp⟩⟩
 have w2:=gE (g:=av 1) (b:=ay (cG (lT (fE (tV (eB dG (ae (eV 1) (ae (eC (.ty "tuple")) ag))))) (tV (e2 pG (eB bS (ae (eV 1) ag)) (eC (.int 2))))) (aS (eC (.bl false))) bF) (cG (lT (fE (tV (ao cK [] (ae (e2 ar (eV 1) (eC (.int 0))) ag)))) (lT (fE (tV (ao cK [] (ae (e2 ar (eV 1) (eC (.int 1))) ag)))) (fE (tV (ao bu [] (ae (e2 ar (eV 1) (eC (.int 0))) (ae (e2 ar (eV 1) (eC (.int 1))) ag))))))) (aS (eC (.bl false))) bF)) it
 rw[e1]at w2
 have Uk:=aC p1 hf
 have ct:dX (.ref f) (some 1) none c1=some (.ref c1.length,c1++[.lst (zs.tail.map aA)]):=by
  show((b7 (.ref f) c1).bind _)=_
  rw[a_ Uk,Option.bind_some]
  have:Qm.cutD (zs.map aA) (some 1) none=zs.tail.map aA:=by
   cases zs with
   |nil=>rfl
   |cons y t=>exact Ag (e:=aA) (l:=y::t) (k:=1) (by simp)
  rw[this]
 have g6:=aY (zs:=[Cell.lst (zs.tail.map aA)]) Uk
 have Q5:hG (ae (eV 0) (ae (kO dX (eV 0) (dc (eC (.int 1))) eK) ag)) [some (.ref f),z,none,none] c1=some (⟨(zs.zip zs.tail).map fun x=>D.tup [aA x.1,aA x.2],[(f,.lst (zs.map aA)),(c1.length,.lst (zs.tail.map aA))]⟩,c1++[.lst (zs.tail.map aA)]):=by
  have ha:ae (eV 0) (ae (kO dX (eV 0) (dc (eC (.int 1))) eK) ag) [some (.ref f),z,none,none] c1=some ([.ref f,.ref c1.length],c1++[.lst (zs.tail.map aA)]):=by erw[ph,ct]
  unfold hG
  rw[ha,Option.bind_some]
  dsimp only
  rw[g6,aH,aU g6,aU aH]
  simp only[Option.bind_some]
  unfold eA
  rw[List.zip_map,List.map_map]
  rfl
 obtain⟨sO,c2,e3,z2,z3,rfl,rfl⟩:=cJ (ks:=[(f,.lst (zs.map aA)),(c1.length,.lst (zs.tail.map aA))]) (g:=c_ 2 (aQ (av 2) (aQ (av 3) cZ))) (body:=cG (lT (tV (ao bu [] (ae (e2 ar (eV 3) (eC (.int 0))) (ae (e2 ar (eV 2) (eC (.int 0))) ag)))) (jL (tV (e2 ij (e2 ar (eV 2) (eC (.int 0))) (e2 ar (eV 3) (eC (.int 0))))) (fE (tV (ao bu [] (ae (e2 ar (eV 2) (eC (.int 1))) (ae (e2 ar (eV 3) (eC (.int 1))) ag))))))) (aS (eC (.bl false))) bF)
  (fun i σ c'=>∃z2 z3,σ=[some (.ref f),z,z2,z3]∧c'=c1++[.lst (zs.tail.map aA)]) ((zs.zip zs.tail).map fun x=>D.tup [aA x.1,aA x.2]) 0 [some (.ref f),z,none,none] (c1++[.lst (zs.tail.map aA)])
  (by
   rintro i σ c' ⟨_,_,_,hc⟩ q hq
   subst hc
   rcases List.mem_cons.mp hq with rfl|hq
   ·exact g6
   ·cases List.mem_singleton.mp hq;exact aH)
  (by
   rintro i d σ c' hd ⟨z2,z3,jH,hc⟩
   subst jH hc
   rw[List.getElem?_map]at hd
   obtain⟨⟨a,b⟩,hx,rfl⟩:=Option.map_eq_some_iff.mp hd
   obtain⟨k1,k2⟩:=Cb h.xq h.nd i a b hx
   obtain⟨ma,mb⟩:=List.of_mem_zip (List.mem_of_getElem? hx)
   have oa:=h.ok a ma
   have ob:=h.ok b (List.mem_of_mem_tail mb)
   obtain⟨n1,n2⟩:=JV oa ob k1 k2
   have b1:=gK (c:=c1++[.lst (zs.tail.map aA)]) ob.o1 oa.o1
   rw[n1]at b1
   have b2:=gK (c:=c1++[.lst (zs.tail.map aA)]) oa.o2 ob.o2
   have i0:∀(y:S2) c,ar (aA y) (.int 0) c=some (sd y.1,c):=fun _ _=>rfl
   have i1:∀(y:S2) c,ar (aA y) (.int 1) c=some (sd y.2,c):=fun _ _=>rfl
   have eq:=gX (p:=a.1) (q:=b.1) (c:=c1++[.lst (zs.tail.map aA)])
   refine⟨_,_,[some (.ref f),z,some (aA a),some (aA b)],_,rfl,?_,some (aA a),some (aA b),rfl,rfl⟩
   by_cases e:a.1=b.1
   ·rw[n2 e]at b2
    rw[decide_eq_true e]at eq
    erw[i0,i1,b1,b2,eq]
   ·rw[decide_eq_false e]at eq
    erw[i0,i1,b1,b2,eq])
  ⟨none,none,rfl,rfl⟩
 have e4:=gE (g:=c_ 2 (aQ (av 2) (aQ (av 3) cZ))) (b:=cG (lT (tV (ao bu [] (ae (e2 ar (eV 3) (eC (.int 0))) (ae (e2 ar (eV 2) (eC (.int 0))) ag)))) (jL (tV (e2 ij (e2 ar (eV 2) (eC (.int 0))) (e2 ar (eV 3) (eC (.int 0))))) (fE (tV (ao bu [] (ae (e2 ar (eV 2) (eC (.int 1))) (ae (e2 ar (eV 3) (eC (.int 1))) ag))))))) (aS (eC (.bl false))) bF) Q5
 rw[e3]at e4
 have bl:dG [.ref f,.ty "list"] c=some (.bl true,c):=by
  have hk:rg "list" (.ref f) c=some true:=by
   unfold rg
   simp[hf]
  show((rg "list" (.ref f) c).bind fun k=>some (D.bl k,c))=_
  rw[hk]
  rfl
 refine⟨c1++[.lst (zs.tail.map aA)],?_,pre_app p1⟩
 erw[fL,fK,bl,w2,e4]
theorem lH{α:Type}{R:α→α→Prop}(DW:∀x y,R x y→¬R y x):∀(l m:List α),l.Pairwise R→m.Pairwise R→(∀x,x∈l↔x∈m)→l=m
 |[],m,_,_,h=>by
  cases m with
  |nil=>rfl
  |cons y m=>exact absurd ((h y).mpr List.mem_cons_self) (by simp)
 |x::l,[],_,_,h=>absurd ((h x).mp List.mem_cons_self) (by simp)
 |x::l,y::m,hl,hm,h=>by
  have Ct:=List.pairwise_cons.mp hl
  have zW:=List.pairwise_cons.mp hm
  have e:x=y:=by
   rcases List.mem_cons.mp ((h x).mp List.mem_cons_self)with e|m1
   ·exact e
   rcases List.mem_cons.mp ((h y).mpr List.mem_cons_self)with e|m2
   ·exact e.symm
   exact absurd (zW.1 x m1) (DW _ _ (Ct.1 y m2))
  subst e
  rw[lH DW l m Ct.2 zW.2 fun z=>?_]
  have Gx:¬R x x:=fun hh=>DW x x hh hh
  constructor
  ·intro hz
   rcases List.mem_cons.mp ((h z).mp (List.mem_cons_of_mem _ hz))with e|mm
   ·exact absurd (Ct.1 z hz) (by rw[e];exact Gx)
   ·exact mm
  ·intro hz
   rcases List.mem_cons.mp ((h z).mpr (List.mem_cons_of_mem _ hz))with e|mm
   ·exact absurd (zW.1 z hz) (by rw[e];exact Gx)
   ·exact mm
theorem DZ{a b d:S2}(a1:My.bA a.1)(a2:My.bA a.2)(b1:My.bA b.1)(b2:My.bA b.2)(d1:My.bA d.1)(d2:My.bA d.2)(h:jZ a b=true)(k:jZ b d=true):jZ a d=true:=by
 unfold jZ at*
 by_cases e1:a.1=b.1
 ·rw[if_pos e1]at h
  by_cases e2:a.2=b.2
  ·rw[if_pos e2]at h;cases h
  ·rw[if_neg e2]at h
   by_cases f1:b.1=d.1
   ·rw[if_pos f1]at k
    by_cases f2:b.2=d.2
    ·rw[if_pos f2]at k;cases k
    ·rw[if_neg f2]at k
     have t:=My.m9 a2 b2 d2 h k
     rw[if_pos (e1.trans f1),if_neg (fun z=>by rw[z,rW]at t;cases t)]
     exact t
   ·rw[if_neg f1]at k
    rw[if_neg (fun z=>f1 (e1.symm.trans z)),e1]
    exact k
 ·rw[if_neg e1]at h
  by_cases f1:b.1=d.1
  ·rw[if_neg (fun z=>e1 (z.trans f1.symm)),←f1]
   exact h
  ·rw[if_neg f1]at k
   have t:=My.m9 a1 b1 d1 h k
   rw[if_neg (fun z=>by rw[z,rW]at t;cases t)]
   exact t
theorem JW{a b:S2}(a1:My.bA a.1)(a2:My.bA a.2)(b1:My.bA b.1)(b2:My.bA b.2)(h:jZ b a=false)(ne:a≠b):jZ a b=true:=by
 unfold jZ at*
 by_cases e:b.1=a.1
 ·rw[if_pos e]at h
  rw[if_pos e.symm]
  have n2:¬b.2=a.2:=fun z=>ne (Prod.ext e z).symm
  rw[if_neg n2]at h
  rw[if_neg (fun z=>n2 z.symm)]
  rcases My.iA a2 b2 with g|g|g
  ·exact g
  ·exact absurd g.symm n2
  ·rw[h]at g;cases g
 ·rw[if_neg e]at h
  rw[if_neg (fun z=>e z.symm)]
  rcases My.iA a1 b1 with g|g|g
  ·exact g
  ·exact absurd g.symm e
  ·rw[h]at g;cases g
abbrev Ul(zs:List S2):Prop:=zs.Pairwise fun x y=>jZ x y=true
theorem oE:∀{zs:List S2},jG jZ zs→zs.Nodup→(∀z∈zs,ik 8000 z)→Ul zs
 |[],_,_,_=>.nil
 |x::l,h,nd,lo=>by
  have kE:=List.nodup_cons.mp nd
  have ih:=oE (mE h) kE.2 fun p hp=>lo p (List.mem_cons_of_mem _ hp)
  refine List.pairwise_cons.mpr ⟨fun y hy=>?_,ih⟩
  cases l with
  |nil=>cases hy
  |cons z l=>
   have ox:=lo x (by simp)
   have oz:=lo z (by simp)
   have JM:jZ x z=true:=JW ox.o1.dE ox.o2.dE oz.o1.dE oz.o2.dE h.1 (fun e=>kE.1 (by rw[e];simp))
   rcases List.mem_cons.mp hy with rfl|hy
   ·exact JM
   ·have oy:=lo y (by simp[hy])
    exact DZ ox.o1.dE ox.o2.dE oz.o1.dE oz.o2.dE oy.o1.dE oy.o2.dE JM ((List.pairwise_cons.mp ih).1 y hy)
theorem Cc(x y:S2)(h:jZ x y=true):¬jZ y x=true:=by rw[yO x y h];decide
theorem Cd{xs:List D}{i:Nat}{d:D}(h:(iY xs)[i]? =some d):∃x,xs[i]? =some x∧d= .tup [.int (i:Int),x]:=by
 unfold iY at h
 rw[List.getElem?_map,List.getElem?_zipIdx]at h
 cases q:xs[i]? with
 |none=>rw[q]at h;cases h
 |some x=>
  rw[q]at h
  simp at h
  exact⟨x,rfl,h.symm⟩
theorem zP{α:Type}{xs:List α}{g:Int}(h0: 0≤g)(h1:g<xs.length):∃x,g_ xs g=some x∧x∈xs:=by
 obtain⟨n,rfl⟩:∃n:Nat,g=(n:Int):=⟨g.toNat,by omega⟩
 have hn:n<xs.length:=by omega
 exact⟨xs[n],BV (List.getElem?_eq_getElem hn),List.getElem_mem hn⟩
def ie(n:Nat)(c:Cells):Prop:=∃a:Int,c[n]? =some (.lst [.int a])
theorem ie.lt{n:Nat}{c:Cells}(h:ie n c):n<c.length:=by obtain⟨a,h⟩:=h;exact bp h
theorem JX{s:Nat}{c:Cells}{ns:List Int}{k:Int}(hs:c[s]? =some (.ro (ns.map D.int)))(k0: 0≤k):∃z,h_ [.ref s,.int k] c=some (.int z,c):=by
 have s1:=yC hs
 have hl:((ns.map D.int).length:Int)=ns.length:=by simp
 by_cases hk:k<ns.length
 ·obtain⟨d,hd,hm⟩:=zP (xs:=ns.map D.int) k0 (by rw[hl];exact hk)
  obtain⟨z,_,rfl⟩:=List.mem_map.mp hm
  refine⟨z,?_⟩
  have pJ:decide (k<((ns.map D.int).length:Int))=true:=by rw[hl];exact decide_eq_true hk
  erw[h_,jy,DH,s1,hZ,pJ,hd]
 ·refine⟨0,?_⟩
  have pJ:decide (k<((ns.map D.int).length:Int))=false:=by rw[hl];exact decide_eq_false (by omega)
  erw[h_,jy,DH,s1,hZ,pJ]
theorem Ap{n:Nat}{c:Cells}{m:Int}(h:ie n c)(h0: 0<m)(hm:My.Bd 8900 m):∃d c',az [.ref n,.int m] c=some (.int d,c')∧0≤d∧d<m∧ie n c'∧Kq [n] c c'∧c'.length=c.length:=by
 have fB:=h.lt
 obtain⟨a,hc⟩:=h
 have s1:=a_ hc
 have l1:=aU hc
 refine⟨a % m,c.set n (.lst [.int (a / m)]),?_,Int.emod_nonneg _ (by omega),Int.emod_lt_of_pos _ h0,⟨a / m,gU fB⟩,fun j z hj e=>bK e (by simpa using hj),by simp⟩
 simp[az,jv,jU,hZ,s1,DG h0,Ae h0 hm,HP,l1,wj]
theorem JY{s:Nat}{c:Cells}{ns:List Int}{x k:Int}(hs:c[s]? =some (.ro (ns.map D.int)))(k0: 0≤k)(k1:k<1000):∃a,eF [.ref s,.int x,.int k] c=some (.ref c.length,c++[.lst [.int a]]):=by
 obtain⟨z0,ez⟩:=JX hs (k:=0) (by decide)
 by_cases hz:z0 % 2=1
 ·have hd:=decide_eq_true hz
  refine⟨x,?_⟩
  erw[eF,jz,ez,hd]
 ·have hd:=decide_eq_false hz
  have hr:eu (ae (eC (.int 16)) ag) [some (.ref s),some (.int x),some (.int k),some (.int 0),none] c=some (⟨dQ 0 16,[]⟩,c):=oZ (j:=16) rfl (by decide)
  obtain⟨σ',c',e1,x',t',j',rfl,rfl⟩:=cJ (ks:=[]) (g:=av 4) (body:=ay (aR 1 (e2 gA (e2 cy (e2 cy (e2 aK (eV 1) (eC (.int 48271))) (e2 aK (eC (.int 7919)) (eV 2))) (eV 4)) (eC (.int 2147483629)))) (aR 3 (e2 cy (e2 aK (eV 3) (eC (.int 2147483587))) (e2 gA (e2 aK (eV 1) (eV 1)) (eC (.int 2147483587))))))
   (fun _ σ c'=>∃(x' t':Int) (j':Option D),σ=[some (.ref s),some (.int x'),some (.int k),some (.int t'),j']∧c'=c) (dQ 0 16) 0 [some (.ref s),some (.int x),some (.int k),some (.int 0),none] c (fun _ _ _ _=>hJ)
   (by
    rintro i d σ c' WO ⟨x',t',j',jH,hc⟩
    subst jH hc
    obtain⟨hi,rfl⟩:=vB WO
    have b0:=Int.emod_nonneg (x'*48271+7919*k+(0+(i:Int))) (show(2147483629:Int)≠0 by decide)
    have b1:=Int.emod_lt_of_pos (x'*48271+7919*k+(0+(i:Int))) (show(0:Int)<2147483629 by decide)
    have m1:=cC (i:=x') (j:=48271) (c:=c') (mulR (by decide))
    have m2:=cC (i:=t') (j:=2147483587) (c:=c') (mulR (by decide))
    refine⟨_,_,[some (.ref s),some (.int ((x'*48271+7919*k+(0+(i:Int))) % 2147483629)),some (.int k),some (.int (t'*2147483587+(x'*48271+7919*k+(0+(i:Int))) % 2147483629*((x'*48271+7919*k+(0+(i:Int))) % 2147483629) % 2147483587)),some (.int (0+(i:Int)))],c',rfl,?_,_,_,_,rfl,rfl⟩
    generalize hX:(x'*48271+7919*k+(0+(i:Int))) % 2147483629=X at*
    have m3:=cC (i:=X) (j:=X) (c:=c') (mulR (by omega))
    erw[m1,m2,hX,m3])
   ⟨x,0,none,rfl,rfl⟩
  have w2:=gE (g:=av 4) (b:=ay (aR 1 (e2 gA (e2 cy (e2 cy (e2 aK (eV 1) (eC (.int 48271))) (e2 aK (eC (.int 7919)) (eV 2))) (eV 4)) (eC (.int 2147483629)))) (aR 3 (e2 cy (e2 aK (eV 3) (eC (.int 2147483587))) (e2 gA (e2 aK (eV 1) (eV 1)) (eC (.int 2147483587)))))) hr
  rw[e1]at w2
  refine⟨t',?_⟩
  erw[eF,jz,ez,hd,w2]
theorem yT{A B W:Option D}{c:Cells}:∀(n:Nat) (a b:Int),b.toNat=n→0<a→0≤b→cX (tV (e2 mh (eV 4) (eC (.int 0)))) (qY [3,4] (ae (eV 4) (ae (e2 gA (eV 3) (eV 4)) ag))) [A,B,W,some (.int a),some (.int b)] c=some (.nx,[A,B,W,some (.int (Int.gcd a b:Int)),some (.int 0)],c):=by
 intro n
 induction n using Nat.strongRecOn with
 |_ n ih=>
  intro a b hn ha hb
  by_cases h:b=0
  ·subst h
   have e:(Int.gcd a 0:Int)=a:=by rw[Int.gcd_zero_right];omega
   rw[e]
   exact gj (by erw[])
  ·have hp: 0<b:=by omega
   have hd:decide (b > 0)=true:=decide_eq_true hp
   have m0:=Int.emod_nonneg a h
   have m1:=Int.emod_lt_of_pos a hp
   have r:=ih (a % b).toNat (by omega) b (a % b) rfl hp m0
   have eg:(Int.gcd b (a % b):Int)=(Int.gcd a b:Int):=by
    rw[←Int.fmod_eq_emod_of_nonneg a hb,My.yi]
   rw[eg]at r
   exact km (c':=c) (c2:=c) (σ':=[A,B,W,some (.int b),some (.int (a % b))]) (by erw[hd]) (by erw[DG hp]) r
theorem xt{x y w:Int}{c:Cells}(hw: 0<w)(hb:My.Bd 8900 w):cc [.int x,.int y,.int w] c=some (sd (My.spT x y w),c):=by
 have ab:∀(z:Int),0≤(if z<0 then -z else z):=fun z=>by split<;>omega
 have l1:=yT (A:=some (.int x)) (B:=some (.int y)) (W:=some (.int w)) (c:=c) _ w (if x<0 then -x else x) rfl hw (ab x)
 have g1: 0<(Int.gcd w (if x<0 then -x else x):Int):=by
  have:=Int.gcd_pos_of_ne_zero_left (if x<0 then -x else x) (show w≠0 by omega)
  omega
 have l2:=yT (A:=some (.int x)) (B:=some (.int y)) (W:=some (.int w)) (c:=c) _ (Int.gcd w (if x<0 then -x else x):Int) (if y<0 then -y else y) rfl g1 (ab y)
 have ax:∀(a z:Int),Int.gcd a (if z<0 then -z else z)=Int.gcd a z:=fun a z=>by
  split
  ·exact Int.gcd_neg ..
  ·rfl
 have eg:(Int.gcd (Int.gcd w (if x<0 then -x else x):Int) (if y<0 then -y else y):Int)=(Int.gcd (Int.gcd x y:Int) w:Int):=by
  rw[ax,ax,Int.gcd_assoc,Int.gcd_comm]
 rw[eg]at l2
 obtain⟨e1,kj,e3⟩:=My.Bj (x:=x) (y:=y) hw
 have gp: 0<(Int.gcd (Int.gcd x y:Int) w:Int):=by
  have:=Int.gcd_pos_of_ne_zero_right (Int.gcd x y:Int) (show w≠0 by omega)
  omega
 have gb:My.Bd 8900 (Int.gcd (Int.gcd x y:Int) w:Int):=My.Bd.of_le hb (by
  have:=Int.gcd_le_natAbs_right (Int.gcd x y:Int) (show w≠0 by omega)
  omega)
 have r:sd (My.spT x y w)= .tup [.int (My.sx x y w),.int (My.sy x y w),.int (My.sw x y w)]:=rfl
 rw[r]
 erw[cc,jf,l1,l2,Ae gp gb,e1,kj,e3]
structure Dn(n:Nat)(c c':Cells):Prop where
 jA:ie n c'
 kq:Kq [n] c c'
 len:c.length≤c'.length
theorem Dn.trans{n:Nat}{c c1 c2:Cells}(a:Dn n c c1)(b:Dn n c1 c2):Dn n c c2:=⟨b.jA,a.kq.trans b.kq (fun x hx=>.inl hx),Nat.le_trans a.len b.len⟩
theorem dig{n:Nat}{c:Cells}{m:Int}(h:ie n c)(h0: 0<m)(hm:My.Bd 8900 m):∃d c',az [.ref n,.int m] c=some (.int d,c')∧0≤d∧d<m∧Dn n c c':=by
 obtain⟨d,c',e,h1,h2,h3,h4,h5⟩:=Ap h h0 hm
 exact⟨d,c',e,h1,h2,⟨h3,h4,by omega⟩⟩
theorem ie.app{n:Nat}{c zs:Cells}(h:ie n c):ie n (c++zs):=by obtain⟨a,h⟩:=h;exact⟨a,aY h⟩
theorem Aq{k:Nat}{x y w:Int}(hw: 0<w)(bx:My.Bd k x)(gF:My.Bd k y)(bw:My.Bd k w):Ok k (My.spT x y w):=Sp.mk' (by omega) bx gF bw
theorem pw{k:Int}{r:Int}(hk: 0≤k∧k≤18)(hr:(10:Int) ^ k.toNat=r){c:Cells}:k7 (.int 10) (.int k) c=some (.int r,c):=by
 unfold k7
 rw[Gg,if_pos ⟨hk.1,by omega,by decide⟩,hr]
 rfl
theorem Rb{n:Nat}{K:Int}{B z3 z4 z5 z6:Option D}{c:Cells}(h:ie n c)(hK: 0≤K):
  ∃p σ' c',(ay (cG (tV (e2 ij (eV 2) (eC (.int 2))))
   (ay (aR 10 (e2 ar (fH (ae (e2 k7 (eC (.int 10)) (eC (.int 6))) (ae (e2 k7 (eC (.int 10)) (eC (.int 14))) (ae (e2 k7 (eC (.int 10)) (eC (.int 18))) ag)))) (ao az [] (ae (eV 0) (ae (eC (.int 3)) ag)))))
   (ay (aR 11 (e2 fF (ao az [] (ae (eV 0) (ae (e2 cy (e2 aK (eC (.int 2)) (eV 10)) (eC (.int 1))) ag))) (eV 10)))
   (ay (aR 12 (e2 fF (ao az [] (ae (eV 0) (ae (e2 cy (e2 aK (eC (.int 2)) (eV 10)) (eC (.int 1))) ag))) (eV 10)))
   (aS (ao cc [] (ae (eV 11) (ae (eV 12) (ae (e2 cy (eC (.int 1)) (ao az [] (ae (eV 0) (ae (eV 10) ag)))) ag))))))))
   bF)
   (ay (aR 7 (e2 cy (eC (.int 1)) (e2 aK (ao az [] (ae (eV 0) (ae (eC (.int 6)) ag))) (e2 gA (eV 2) (eC (.int 2))))))
   (aS (ao cc [] (ae (ao az [] (ae (eV 0) (ae (e2 aK (eC (.int 7)) (eV 7)) ag))) (ae (ao az [] (ae (eV 0) (ae (e2 aK (eC (.int 7)) (eV 7)) ag))) (ae (eV 7) ag))))))) [some (.ref n),B,some (.int K),z3,z4,z5,z6,none,none,none,none,none,none] c=some (.rt (sd p),σ',c')∧Ok 100 p∧Dn n c c':=by
 by_cases h2:K=2
 ·subst h2
  have p6:=pw (k:=6) (r:=1000000) (by decide) (by decide) (c:=c)
  have WQ:=pw (k:=14) (r:=100000000000000) (by decide) (by decide) (c:=c)
  have WR:=pw (k:=18) (r:=1000000000000000000) (by decide) (by decide) (c:=c)
  have hl:ie n (c++[.lst [.int 1000000,.int 100000000000000,.int 1000000000000000000]]):=h.app
  obtain⟨d,c1,e1,a1,a2,D1⟩:=dig hl (m:=3) (by decide) (My.Bd.mono (j:=5) ⟨by decide⟩ (by decide))
  have D0:Dn n c c1:=(show Dn n c (c++[.lst [.int 1000000,.int 100000000000000,.int 1000000000000000000]])from⟨hl,Kq.pre ⟨_,rfl⟩,by simp⟩).trans D1
  have fO:c.length≠n:=by have:=h.lt;omega
  have g1:=D1.kq _ _ (by simpa using fO) (aH (c:=c) (z:=.lst [.int 1000000,.int 100000000000000,.int 1000000000000000000]))
  have s1:=a_ g1
  obtain⟨w,hw,w0,w1⟩:∃w:Int,g_ [D.int 1000000,.int 100000000000000,.int 1000000000000000000] d=some (.int w)∧0<w∧w≤1000000000000000000:=by
   have:d=0∨d=1∨d=2:=by omega
   rcases this with rfl|rfl|rfl
   ·exact⟨1000000,rfl,by decide,by decide⟩
   ·exact⟨100000000000000,rfl,by decide,by decide⟩
   ·exact⟨1000000000000000000,rfl,by decide,by decide⟩
  have bw:My.Bd 8900 (2*w+1):=My.Bd.mono (j:=64) (iL (by omega)) (by decide)
  obtain⟨x,c2,kj,x0,x1,D2⟩:=dig D0.jA (m:=2*w+1) (by omega) bw
  obtain⟨y,c3,e3,y0,y1,D3⟩:=dig D2.jA (m:=2*w+1) (by omega) bw
  obtain⟨v,c4,e4,v0,v1,D4⟩:=dig D3.jA (m:=w) w0 (My.Bd.mono (j:=64) (iL (by omega)) (by decide))
  have lo:=xt (x:=x - w) (y:=y - w) (w:=1+v) (c:=c4) (by omega) (My.Bd.mono (j:=64) (iL (by omega)) (by decide))
  have m1:∀c,aK (.int 2) (.int w) c=some (.int (2*w),c):=fun c=>cC (mulL (by decide))
  refine⟨My.spT (x - w) (y - w) (1+v),[some (.ref n),B,some (.int 2),z3,z4,z5,z6,none,none,none,some (.int w),some (.int (x - w)),some (.int (y - w))],c4,?_,Aq (by omega) (My.Bd.mono (j:=64) (iL (by omega)) (by decide)) (My.Bd.mono (j:=64) (iL (by omega)) (by decide)) (My.Bd.mono (j:=64) (iL (by omega)) (by decide)),((D0.trans D2).trans D3).trans D4⟩
  erw[p6,WQ,WR,e1,hZ,s1,hw,m1,kj,e3,e4,lo]
 ·have hd:=decide_eq_false h2
  obtain⟨a,c1,e1,a0,a1,D1⟩:=dig h (m:=6) (by decide) (My.Bd.mono (j:=5) ⟨by decide⟩ (by decide))
  have k0:=Int.emod_nonneg K (show(2:Int)≠0 by decide)
  have k1:=Int.emod_lt_of_pos K (show(0:Int)<2 by decide)
  have Y1: 0≤a*(K % 2)∧a*(K % 2)≤5:=by
   have:K % 2=0∨K % 2=1:=by omega
   rcases this with e|e<;>rw[e]<;>omega
  generalize hW: 1+a*(K % 2)=W
  have W0: 1≤W∧W≤6:=by omega
  obtain⟨x,c2,kj,x0,x1,D2⟩:=dig D1.jA (m:=7*W) (by omega) (My.Bd.mono (j:=64) (iL (by omega)) (by decide))
  obtain⟨y,c3,e3,y0,y1,D3⟩:=dig D2.jA (m:=7*W) (by omega) (My.Bd.mono (j:=64) (iL (by omega)) (by decide))
  have lo:=xt (x:=x) (y:=y) (w:=W) (c:=c3) (by omega) (My.Bd.mono (j:=64) (iL (by omega)) (by decide))
  have m1:∀c,aK (.int a) (.int (K % 2)) c=some (.int (a*(K % 2)),c):=fun c=>cC (mulL (by omega))
  have m2:∀c,aK (.int 7) (.int W) c=some (.int (7*W),c):=fun c=>cC (mulL (by decide))
  refine⟨My.spT x y W,[some (.ref n),B,some (.int K),z3,z4,z5,z6,some (.int W),none,none,none,none,none],c3,?_,Aq (by omega) (My.Bd.mono (j:=64) (iL (by omega)) (by decide)) (My.Bd.mono (j:=64) (iL (by omega)) (by decide)) (My.Bd.mono (j:=64) (iL (by omega)) (by decide)),(D1.trans D2).trans D3⟩
  erw[hd,e1,m1,hW,m2,kj,e3,lo]
noncomputable def JZ:XS:=(ay (cG (tV (e2 ij (eV 2) (eC (.int 2)))) (ay (aR 10 (e2 ar (fH (ae (e2 k7 (eC (.int 10)) (eC (.int 6))) (ae (e2 k7 (eC (.int 10)) (eC (.int 14))) (ae (e2 k7 (eC (.int 10)) (eC (.int 18))) ag)))) (ao az [] (ae (eV 0) (ae (eC (.int 3)) ag))))) (ay (aR 11 (e2 fF (ao az [] (ae (eV 0) (ae (e2 cy (e2 aK (eC (.int 2)) (eV 10)) (eC (.int 1))) ag))) (eV 10))) (ay (aR 12 (e2 fF (ao az [] (ae (eV 0) (ae (e2 cy (e2 aK (eC (.int 2)) (eV 10)) (eC (.int 1))) ag))) (eV 10))) (aS (ao cc [] (ae (eV 11) (ae (eV 12) (ae (e2 cy (eC (.int 1)) (ao az [] (ae (eV 0) (ae (eV 10) ag)))) ag)))))))) bF) (ay (aR 7 (e2 cy (eC (.int 1)) (e2 aK (ao az [] (ae (eV 0) (ae (eC (.int 6)) ag))) (e2 gA (eV 2) (eC (.int 2)))))) (aS (ao cc [] (ae (ao az [] (ae (eV 0) (ae (e2 aK (eC (.int 7)) (eV 7)) ag))) (ae (ao az [] (ae (eV 0) (ae (e2 aK (eC (.int 7)) (eV 7)) ag))) (ae (eV 7) ag)))))))
theorem r_:lD=ay (aR 2 (ao az [] (ae (eV 0) (ae (eC (.int 4)) ag)))) (ay (cG (jL (tV (e2 ij (eV 2) (eC (.int 3)))) (tV (e2 mh (eB bS (ae (eV 1) ag)) (eC (.int 0))))) (ay (mf (e2 ar (eV 1) (ao az [] (ae (eV 0) (ae (eB bS (ae (eV 1) ag)) ag)))) (c_ 2 (aQ (av 3) (aQ (av 4) cZ)))) (ay (aR 5 (e2 cy (eC (.int 1)) (ao az [] (ae (eV 0) (ae (eC (.int 5)) ag))))) (ay (aR 6 (e2 fF (ao az [] (ae (eV 0) (ae (e2 cy (eV 5) (eC (.int 5))) ag))) (eC (.int 2)))) (cG (tV (e2 LY (eB wR (ae (e2 ar (eV 3) (eC (.int 2))) (ae (e2 ar (eV 4) (eC (.int 2))) (ae (eB mi (ae (e2 ar (eV 3) (eC (.int 0))) ag)) (ae (eB mi (ae (e2 ar (eV 3) (eC (.int 1))) ag)) (ae (eB mi (ae (e2 ar (eV 4) (eC (.int 0))) ag)) (ae (eB mi (ae (e2 ar (eV 4) (eC (.int 1))) ag)) ag))))))) (e2 k7 (eC (.int 10)) (eC (.int 14))))) (ay (aR 7 (e2 aK (e2 aK (e2 ar (eV 3) (eC (.int 2))) (e2 ar (eV 4) (eC (.int 2)))) (eV 5))) (ay (qY [8,9] (ae (e2 aK (e2 fF (eV 5) (eV 6)) (e2 ar (eV 4) (eC (.int 2)))) (ae (e2 aK (eV 6) (e2 ar (eV 3) (eC (.int 2)))) ag))) (aS (ao cc [] (ae (e2 cy (e2 aK (e2 ar (eV 3) (eC (.int 0))) (eV 8)) (e2 aK (e2 ar (eV 4) (eC (.int 0))) (eV 9))) (ae (e2 cy (e2 aK (e2 ar (eV 3) (eC (.int 1))) (eV 8)) (e2 aK (e2 ar (eV 4) (eC (.int 1))) (eV 9))) (ae (eV 7) ag))))))) bF)))) bF) JZ):=rfl
theorem E3{n:Nat}{K:Int}{B z3 z4 z5 z6:Option D}{c:Cells}(h:ie n c)(hK: 0≤K):∃p σ' c',JZ [some (.ref n),B,some (.int K),z3,z4,z5,z6,none,none,none,none,none,none] c=some (.rt (sd p),σ',c')∧Ok 100 p∧Dn n c c':=Rb h hK
theorem yU{x:Int}(h:(if x<0 then -x else x)≤100000000000000):My.Bd 47 x:=⟨by
 have:(2:Nat) ^ 47=140737488355328:=by decide
 split at h<;>omega⟩
theorem Rc{x:Int}(h: -15≤x)(g:x≤15):My.Bd 4 x:=⟨by
 have:(2:Nat) ^ 4=16:=by decide
 omega⟩
theorem Um{kn:Nat}{IN:List S2}{d:Int}{c:Cells}(h:c[kn]? =some (.lst (IN.map aA)))(h0: 0≤d)(h1:d<IN.length):∃s∈IN,ar (.ref kn) (.int d) c=some (aA s,c):=by
 obtain⟨x,hx,hm⟩:=zP (xs:=IN.map aA) h0 (by simpa using h1)
 obtain⟨s,hs,rfl⟩:=List.mem_map.mp hm
 refine⟨s,hs,?_⟩
 rw[hZ,a_ h,Option.bind_some,hx]
 rfl
theorem J3{n kn:Nat}{IN:List S2}{c:Cells}(h:ie n c)(hk:c[kn]? =some (.lst (IN.map aA)))(fO:kn≠n)(nL:∀s∈IN,kU s)(hl:IN.length≤1000):∃p c',dD [.ref n,.ref kn] c=some (sd p,c')∧Ok 100 p∧Dn n c c':=by
 obtain⟨K,c1,e1,K0,K1,D1⟩:=dig h (m:=4) (by decide) (My.Bd.mono (j:=5) ⟨by decide⟩ (by decide))
 have D5:=D1.kq _ _ (by simpa using fO) hk
 have bl:=jN D5
 by_cases h3:K=3∧0<IN.length
 ·obtain⟨h3,hp⟩:=h3
  subst h3
  have q1:decide ((IN.length:Int) > 0)=true:=decide_eq_true (by omega)
  obtain⟨d,c2,kj,d0,d1,D2⟩:=dig D1.jA (m:=(IN.length:Int)) (by omega) (My.Bd.mono (j:=64) (iL (by omega)) (by decide))
  have m8:=D2.kq _ _ (by simpa using fO) D5
  obtain⟨s,hs,ix⟩:=Um m8 d0 d1
  obtain⟨M,c3,e3,M0,M1,D3⟩:=dig D2.jA (m:=5) (by decide) (My.Bd.mono (j:=5) ⟨by decide⟩ (by decide))
  obtain⟨k,c4,e4,k0,k1,D4⟩:=dig D3.jA (m:=1+M+5) (by omega) (My.Bd.mono (j:=64) (iL (by omega)) (by decide))
  have DD:=((D1.trans D2).trans D3).trans D4
  have is:=nL s hs
  have p1:=is.ok.o1.pos
  have p2:=is.ok.o2.pos
  have Uo:=pw (k:=14) (r:=100000000000000) (by decide) (by decide) (c:=c4)
  have un:∀c,c_ 2 (aQ (av 3) (aQ (av 4) cZ)) (aA s) [some (.ref n),some (.ref kn),some (.int 3),none,none,none,none,none,none,none,none,none,none] c=some ([some (.ref n),some (.ref kn),some (.int 3),some (sd s.1),some (sd s.2),none,none,none,none,none,none,none,none],c):=fun _=>rfl
  have i0:∀(r:T3) c,ar (sd r) (.int 0) c=some (.int r.1,c):=fun _ _=>rfl
  have i1:∀(r:T3) c,ar (sd r) (.int 1) c=some (.int r.2.1,c):=fun _ _=>rfl
  have i2:∀(r:T3) c,ar (sd r) (.int 2) c=some (.int r.2.2,c):=fun _ _=>rfl
  have mx:∀(a b x y z w:Int) c,wR [.int a,.int b,.int x,.int y,.int z,.int w] c=some (.int (max (max (max (max (max a b) x) y) z) w),c):=fun _ _ _ _ _ _ _=>rfl
  generalize Uq:max (max (max (max (max s.1.2.2 s.2.2.2) (if s.1.1<0 then -s.1.1 else s.1.1)) (if s.1.2.1<0 then -s.1.2.1 else s.1.2.1)) (if s.2.1<0 then -s.2.1 else s.2.1)) (if s.2.2.1<0 then -s.2.2.1 else s.2.2.1)=MX
  by_cases hm:MX≤100000000000000
  ·have hd:=decide_eq_true hm
   have a1:s.1.2.2≤100000000000000:=by omega
   have a2:s.2.2.2≤100000000000000:=by omega
   have b1:=yU (x:=s.1.1) (by omega)
   have b2:=yU (x:=s.1.2.1) (by omega)
   have b3:=yU (x:=s.2.1) (by omega)
   have b4:=yU (x:=s.2.2.1) (by omega)
   have b5:=yU (x:=s.1.2.2) (by rw[if_neg (by omega)];exact a1)
   have b6:=yU (x:=s.2.2.2) (by rw[if_neg (by omega)];exact a2)
   have Ur:My.Bd 4 (1+M - (k - 2)):=Rc (by omega) (by omega)
   have Us:My.Bd 4 (k - 2):=Rc (by omega) (by omega)
   have Ut:My.Bd 4 (1+M):=Rc (by omega) (by omega)
   have nV:=Ur.mul b6
   have Nj:=Us.mul b5
   have bw:=(b5.mul b6).mul Ut
   have bx:=(b1.mul nV).add (b3.mul Nj)
   have gF:=(b2.mul nV).add (b4.mul Nj)
   have w0: 0<s.1.2.2*s.2.2.2*(1+M):=Int.mul_pos (Int.mul_pos p1 p2) (by omega)
   have lo:=xt (x:=s.1.1*((1+M - (k - 2))*s.2.2.2)+s.2.1*((k - 2)*s.1.2.2)) (y:=s.1.2.1*((1+M - (k - 2))*s.2.2.2)+s.2.2.1*((k - 2)*s.1.2.2)) (w:=s.1.2.2*s.2.2.2*(1+M)) (c:=c4) w0 (bw.mono (by decide))
   have u1:∀c,aK (.int s.1.2.2) (.int s.2.2.2) c=some (.int (s.1.2.2*s.2.2.2),c):=fun c=>cC (kA (b5.mono (by decide)) (b6.mono (by decide)))
   have u2:∀c,aK (.int (s.1.2.2*s.2.2.2)) (.int (1+M)) c=some (.int (s.1.2.2*s.2.2.2*(1+M)),c):=fun c=>cC (kA ((b5.mul b6).mono (by decide)) (Ut.mono (by decide)))
   have u3:∀c,aK (.int (1+M - (k - 2))) (.int s.2.2.2) c=some (.int ((1+M - (k - 2))*s.2.2.2),c):=fun c=>cC (kA (Ur.mono (by decide)) (b6.mono (by decide)))
   have u4:∀c,aK (.int (k - 2)) (.int s.1.2.2) c=some (.int ((k - 2)*s.1.2.2),c):=fun c=>cC (kA (Us.mono (by decide)) (b5.mono (by decide)))
   have u5:∀c,aK (.int s.1.1) (.int ((1+M - (k - 2))*s.2.2.2)) c=some (.int (s.1.1*((1+M - (k - 2))*s.2.2.2)),c):=fun c=>cC (kA (b1.mono (by decide)) (nV.mono (by decide)))
   have u6:∀c,aK (.int s.2.1) (.int ((k - 2)*s.1.2.2)) c=some (.int (s.2.1*((k - 2)*s.1.2.2)),c):=fun c=>cC (kA (b3.mono (by decide)) (Nj.mono (by decide)))
   have u7:∀c,aK (.int s.1.2.1) (.int ((1+M - (k - 2))*s.2.2.2)) c=some (.int (s.1.2.1*((1+M - (k - 2))*s.2.2.2)),c):=fun c=>cC (kA (b2.mono (by decide)) (nV.mono (by decide)))
   have u8:∀c,aK (.int s.2.2.1) (.int ((k - 2)*s.1.2.2)) c=some (.int (s.2.2.1*((k - 2)*s.1.2.2)),c):=fun c=>cC (kA (b4.mono (by decide)) (Nj.mono (by decide)))
   refine⟨_,c4,?_,Aq w0 (bx.mono (by decide)) (gF.mono (by decide)) (bw.mono (by decide)),DD⟩
   erw[dD,r_,e1,bl,q1,kj,ix,un,e3,e4,i0,i1,i2,mx,Uq,Uo,hd,u1,u2,u3,u4,u5,u6,u7,u8,lo]
  ·have hd:=decide_eq_false hm
   obtain⟨p,σ',c5,f1,f2,f3⟩:=E3 (n:=n) (K:=3) (B:=some (.ref kn)) (z3:=some (sd s.1)) (z4:=some (sd s.2)) (z5:=some (.int (1+M))) (z6:=some (.int (k - 2))) D4.jA (by decide)
   refine⟨p,c5,?_,f2,DD.trans f3⟩
   erw[dD,r_,e1,bl,q1,kj,ix,un,e3,e4,i0,i1,i2,mx,Uq,Uo,hd,f1]
 ·obtain⟨p,σ',c5,f1,f2,f3⟩:=E3 (n:=n) (K:=K) (B:=some (.ref kn)) (z3:=none) (z4:=none) (z5:=none) (z6:=none) D1.jA K0
  refine⟨p,c5,?_,f2,D1.trans f3⟩
  by_cases g:K=3
  ·have q0:=decide_eq_true g
   have q1:decide ((IN.length:Int) > 0)=false:=decide_eq_false (by omega)
   erw[dD,r_,e1,q0,bl,q1,f1]
  ·have q0:=decide_eq_false g
   erw[dD,r_,e1,q0,f1]
noncomputable def Ar:XS:=(ay (aR 2 (ao dD [] (ae (eV 0) (ae (eV 1) ag)))) (ay (aR 3 (ao dD [] (ae (eV 0) (ae (eV 1) ag)))) (ay (cG (tV (e2 ij (eV 2) (eV 3))) (aR 3 (eD (ae (e2 cy (e2 ar (eV 2) (eC (.int 0))) (e2 aK (e2 ar (fH (ae (eC (.int 1)) (ae (e1 we (eC (.int 1))) ag))) (eB Em (ae (e2 mh (e2 ar (eV 2) (eC (.int 0))) (eC (.int 0))) ag))) (e2 ar (eV 2) (eC (.int 2))))) (ae (e2 ar (eV 2) (eC (.int 1))) (ae (e2 ar (eV 2) (eC (.int 2))) ag))))) bF) (aS (eD (ae (eV 2) (ae (eV 3) ag)))))))
theorem xu:lE=ay (cG (jL (tV (e2 mh (eB bS (ae (eV 1) ag)) (eC (.int 0)))) (tV (e2 ij (ao az [] (ae (eV 0) (ae (eC (.int 8)) ag))) (eC (.int 7))))) (ay (mf (e2 ar (eV 1) (ao az [] (ae (eV 0) (ae (eB bS (ae (eV 1) ag)) ag)))) (c_ 2 (aQ (av 2) (aQ (av 3) cZ)))) (aS (e2 ar (fH (ae (eD (ae (eV 2) (ae (eV 3) ag))) (ae (eD (ae (eV 3) (ae (eV 2) ag))) ag))) (ao az [] (ae (eV 0) (ae (eC (.int 2)) ag)))))) bF) Ar:=rfl
theorem J_{x y w:Int}(h:My.C4 x y w)(k:Int):My.C4 (x+k*w) y w:=by
 exact⟨h.pos,by rw[show Int.gcd (x+k*w) w=Int.gcd x w by simp];exact h.low⟩
theorem Rf{n kn:Nat}{IN:List S2}{c:Cells}(h:ie n c)(hk:c[kn]? =some (.lst (IN.map aA)))(fO:kn≠n)(nL:∀s∈IN,kU s)(hl:IN.length≤1000):∃s c',eG [.ref n,.ref kn] c=some (aA s,c')∧kU s∧Dn n c c':=by
 have Y2:=h.lt
 have bl:=jN hk
 have draw:∀{c1:Cells},Dn n c c1→∃s c',Ar [some (.ref n),some (.ref kn),none,none] c1=some (.rt (aA s),[some (.ref n),some (.ref kn),some (sd s.1),some (sd s.2)],c')∧kU s∧Dn n c c':=by
  intro c1 D1
  obtain⟨a,c2,e1,o1,D2⟩:=J3 D1.jA (D1.kq _ _ (by simpa using fO) hk) fO nL hl
  obtain⟨b,c3,kj,o2,D3⟩:=J3 D2.jA ((D1.trans D2).kq _ _ (by simpa using fO) hk) fO nL hl
  have DD:=(D1.trans D2).trans D3
  have eq:=gX (p:=a) (q:=b) (c:=c3)
  by_cases sI:a=b
  ·rw[decide_eq_true sI]at eq
   have i0:∀(r:T3) c,ar (sd r) (.int 0) c=some (.int r.1,c):=fun _ _=>rfl
   have i1:∀(r:T3) c,ar (sd r) (.int 1) c=some (.int r.2.1,c):=fun _ _=>rfl
   have i2:∀(r:T3) c,ar (sd r) (.int 2) c=some (.int r.2.2,c):=fun _ _=>rfl
   have s1:=a_ (aH (c:=c3) (z:=.lst [.int 1,.int (-1)]))
   obtain⟨k,D5,m8⟩:∃k:Int,g_ [D.int 1,.int (-1)] (if decide (a.1 > 0)=true then 1 else 0)=some (.int k)∧(k=1∨k= -1):=by
    by_cases g:a.1 > 0
    ·rw[if_pos (decide_eq_true g)];exact⟨-1,rfl,.inr rfl⟩
    ·rw[if_neg (by simpa using g)];exact⟨1,rfl,.inl rfl⟩
   have m1:∀c,aK (.int k) (.int a.2.2) c=some (.int (k*a.2.2),c):=fun c=>cC (mulL (by rcases m8 with rfl|rfl<;>decide))
   have gx:ar (.ref c3.length) (.int (if decide (a.1 > 0)=true then 1 else 0)) (c3++[.lst [.int 1,.int (-1)]])=some (.int k,c3++[.lst [.int 1,.int (-1)]]):=by
    rw[hZ,s1,Option.bind_some,D5]
    rfl
   have wp:=o1.pos
   have bk:My.Bd 100 (k*a.2.2):=by
    rcases m8 with rfl|rfl
    ·rw[Int.one_mul];exact o1.bw
    ·rw[Int.neg_one_mul];exact o1.bw.neg
   refine⟨(a,(a.1+k*a.2.2,a.2.1,a.2.2)),c3++[.lst [.int 1,.int (-1)]],?_,⟨⟨o1.mono (by decide),⟨J_ o1.low k,(o1.bx.add bk).mono (by decide),o1.gF.mono (by decide),o1.bw.mono (by decide)⟩⟩,fun e=>?_⟩,DD.trans ⟨DD.jA.app,Kq.pre ⟨_,rfl⟩,by simp⟩⟩
   ·unfold Ar
    erw[e1,kj,eq,i0,i1,i2,BW,gx,m1]
    rfl
   ·have e':a.1=a.1+k*a.2.2:=congrArg Prod.fst e
    rcases m8 with rfl|rfl<;>omega
  ·rw[decide_eq_false sI]at eq
   refine⟨(a,b),c3,?_,⟨⟨o1.mono (by decide),o2.mono (by decide)⟩,sI⟩,DD⟩
   unfold Ar
   erw[e1,kj,eq]
   rfl
 by_cases hp: 0<IN.length
 ·have q1:decide ((IN.length:Int) > 0)=true:=decide_eq_true (by omega)
  obtain⟨d,c1,e1,d0,d1,D1⟩:=dig h (m:=8) (by decide) (My.Bd.mono (j:=5) ⟨by decide⟩ (by decide))
  by_cases h7:d=7
  ·have hd:=decide_eq_true h7
   have D5:=D1.kq _ _ (by simpa using fO) hk
   have MW:=jN D5
   obtain⟨j,c2,kj,j0,j1,D2⟩:=dig D1.jA (m:=(IN.length:Int)) (by omega) (My.Bd.mono (j:=64) (iL (by omega)) (by decide))
   obtain⟨s,hs,ix⟩:=Um (D2.kq _ _ (by simpa using fO) D5) j0 j1
   have is:=nL s hs
   have un:∀c,c_ 2 (aQ (av 2) (aQ (av 3) cZ)) (aA s) [some (.ref n),some (.ref kn),none,none] c=some ([some (.ref n),some (.ref kn),some (sd s.1),some (sd s.2)],c):=fun _=>rfl
   have uO:ie n (c2++[.lst [.tup [sd s.1,sd s.2],.tup [sd s.2,sd s.1]]]):=D2.jA.app
   obtain⟨t,c3,e3,t0,t1,D3⟩:=dig uO (m:=2) (by decide) (My.Bd.mono (j:=5) ⟨by decide⟩ (by decide))
   have Lv:c2.length≠n:=by have:=D2.jA.lt;omega
   have s1:=a_ (D3.kq _ _ (by simpa using Lv) (aH (c:=c2) (z:=.lst [.tup [sd s.1,sd s.2],.tup [sd s.2,sd s.1]])))
   have DD:Dn n c c3:=((D1.trans D2).trans ⟨uO,Kq.pre ⟨_,rfl⟩,by simp⟩).trans D3
   obtain⟨u,hu,iu⟩:∃u:S2,ar (.ref c2.length) (.int t) c3=some (aA u,c3)∧kU u:=by
    have:t=0∨t=1:=by omega
    rw[hZ,s1]
    rcases this with rfl|rfl
    ·exact⟨s,rfl,is⟩
    ·exact⟨(s.2,s.1),rfl,⟨⟨is.ok.o2,is.ok.o1⟩,is.ne.symm⟩⟩
   refine⟨u,c3,?_,iu,DD⟩
   erw[eG,xu,bl,q1,e1,hd,MW,kj,ix,un,e3,hu]
  ·have hd:=decide_eq_false h7
   obtain⟨s,c',f1,f2,f3⟩:=draw D1
   refine⟨s,c',?_,f2,f3⟩
   erw[eG,xu,bl,q1,e1,hd,f1]
 ·have q1:decide ((IN.length:Int) > 0)=false:=decide_eq_false (by omega)
  obtain⟨s,c',f1,f2,f3⟩:=draw (c1:=c) ⟨h,Kq.refl _ _,Nat.le_refl _⟩
  refine⟨s,c',?_,f2,f3⟩
  erw[eG,xu,bl,q1,f1]
theorem Nk{xs:List D}:(Qm.cutD xs (some 1) (some 11)).length≤10:=by
 unfold Qm.cutD
 have h1:Qm.x6 xs.length xs.length (some 11)≤11:=by
  show(if (11:Int)<0 then((11:Int)+xs.length).toNat else min (11:Int).toNat xs.length)≤11
  rw[if_neg (by decide)]
  exact Nat.min_le_left _ _
 have h2:Qm.x6 xs.length 0 (some 1)=min 1 xs.length:=by
  show(if (1:Int)<0 then((1:Int)+xs.length).toNat else min (1:Int).toNat xs.length)=_
  rw[if_neg (by decide)]
  rfl
 rw[List.length_take,List.length_drop,h2]
 omega
theorem Nl{s:Nat}{ns:List Int}{c:Cells}(hs:c[s]? =some (.ro (ns.map D.int))):∃(IN:List S2) (c':Cells),jW [.ref s,.int 1,.int 11] c=some (.ref c.length,c')∧c <+:c'∧c'[c.length]? =some (.lst (IN.map aA))∧(∀x∈IN,kU x)∧IN.length≤10:=by
 generalize hX:Qm.cutD (ns.map D.int) (some 1) (some 11)=X
 have xl:X.length≤10:=by rw[←hX];exact Nk
 have xi:∀d∈X,∃x:Int,d= .int x:=fun d hd=>by
  rw[←hX]at hd
  have:=List.mem_of_mem_drop (List.mem_of_mem_take hd)
  obtain⟨x,_,rfl⟩:=List.mem_map.mp this
  exact⟨x,rfl⟩
 have ct:dX (.ref s) (some 1) (some 11) (c++[.lst []])=some (.ref (c++[Cell.lst []]).length,c++[.lst []]++[.lst X]):=by
  show((b7 (.ref s) (c++[.lst []])).bind _)=_
  rw[yC (aY hs),Option.bind_some,hX]
 have it:og (ae (kO dX (eV 0) (dc (eV 1)) (dc (eV 2))) ag) [some (.ref s),some (.int 1),some (.int 11),some (.ref c.length),none,none] (c++[.lst []])=some (⟨iY X,[((c++[Cell.lst []]).length,.lst X)]⟩,c++[.lst []]++[.lst X]):=by
  have ha:ae (kO dX (eV 0) (dc (eV 1)) (dc (eV 2))) ag [some (.ref s),some (.int 1),some (.int 11),some (.ref c.length),none,none] (c++[.lst []])=some ([.ref (c++[Cell.lst []]).length],c++[.lst []]++[.lst X]):=by erw[ph,ct]
  unfold og
  rw[ha,Option.bind_some]
  dsimp only
  rw[aH,aU aH]
  rfl
 obtain⟨σ',c',e1,IN,y4,y5,rfl,p1,g1,m1,o1,l1⟩:=cJ (ks:=[((c++[Cell.lst []]).length,.lst X)]) (g:=c_ 2 (aQ (av 4) (aQ (av 5) cZ))) (body:=cO (eM b8 (eV 3) (ae (ao eG [] (ae (ao eF [] (ae (eV 0) (ae (eV 5) (ae (eV 4) ag)))) (ae (eV 3) ag))) ag)))
  (fun i σ c'=>∃(IN:List S2) (y4 y5:Option D),σ=[some (.ref s),some (.int 1),some (.int 11),some (.ref c.length),y4,y5]∧c <+:c'∧c'[c.length]? =some (.lst (IN.map aA))∧c'[(c++[Cell.lst []]).length]? =some (.lst X)∧(∀x∈IN,kU x)∧IN.length=i)
  (iY X) 0 [some (.ref s),some (.int 1),some (.int 11),some (.ref c.length),none,none] (c++[.lst []]++[.lst X])
  (fun i σ c' ⟨_,_,_,_,_,_,m1,_⟩ q hq=>by cases List.mem_singleton.mp hq;exact m1)
  (by
   rintro i d σ c' hd ⟨IN,y4,y5,jH,p1,g1,m1,o1,l1⟩
   subst jH
   rw[show 0+i=i by omega]at l1
   obtain⟨x,hx,rfl⟩:=Cd hd
   obtain⟨v,rfl⟩:=xi x (List.mem_of_getElem? hx)
   have nh:=(List.getElem?_eq_some_iff.mp hx).1
   obtain⟨a,ep⟩:=JY (x:=v) (k:=(i:Int)) (aC p1 hs) (by omega) (by omega)
   have DV:=bp g1
   have WS:=bp m1
   obtain⟨t,c2,f1,f2,f3⟩:=Rf (n:=c'.length) (kn:=c.length) (c:=c'++[.lst [.int a]]) ⟨a,aH⟩ (aY g1) (by omega) o1 (by omega)
   have g2:=f3.kq _ _ (by simp;omega) (aY (zs:=[Cell.lst [.int a]]) g1)
   have m2:=f3.kq _ _ (by simp at WS ⊢;omega) (aY (zs:=[Cell.lst [.int a]]) m1)
   have w:=aU g1
   have ap:=xa (e:=aA) (x:=t) g2 (by omega)
   have p2:c <+:c2:=f3.kq.to (pre_app p1) (fun q hq=>by cases List.mem_singleton.mp hq;omega)
   refine⟨_,_,[some (.ref s),some (.int 1),some (.int 11),some (.ref c.length),some (.int (i:Int)),some (.int v)],c2.set c.length (.lst ((IN++[t]).map aA)),rfl,?_,IN++[t],some (.int (i:Int)),some (.int v),rfl,ow p2 (Nat.le_refl _),gU (bp g2),bK m2 (by simp),fun y hy=>?_,by simp;omega⟩
   ·erw[w,ep,f1,ap]
   ·rcases List.mem_append.mp hy with hy|hy
    ·exact o1 y hy
    ·cases List.mem_singleton.mp hy
     exact f2)
  ⟨[],none,none,rfl,⟨[.lst [],.lst X],by simp⟩,aY aH,aH,fun _ h=>(nomatch h),rfl⟩
 have w2:=gE (g:=c_ 2 (aQ (av 4) (aQ (av 5) cZ))) (b:=cO (eM b8 (eV 3) (ae (ao eG [] (ae (ao eF [] (ae (eV 0) (ae (eV 5) (ae (eV 4) ag)))) (ae (eV 3) ag))) ag))) it
 rw[e1]at w2
 refine⟨IN,c',?_,p1,g1,o1,by rw[l1];simp[iY];omega⟩
 rw[jW,jv,jV]
 erw[Nat.zero_le,w2]
theorem kg{S T:List S2}(h:∀t,t∈S↔t∈T)(s:S2)(p:T3):My.mB S s p↔My.mB T s p:=by
 unfold My.mB
 constructor
 ·rintro(a|a|⟨t,ht,r⟩)
  ·exact .inl a
  ·exact .inr (.inl a)
  ·exact .inr (.inr ⟨t,(h t).mp ht,r⟩)
 ·rintro(a|a|⟨t,ht,r⟩)
  ·exact .inl a
  ·exact .inr (.inl a)
  ·exact .inr (.inr ⟨t,(h t).mpr ht,r⟩)
theorem pB{S T:List S2}(h:∀t,t∈S↔t∈T)(s z:S2):en S s z↔en T s z:=
 ⟨fun k=>⟨(kg h s _).mp k.c1,(kg h s _).mp k.c2,k.lt,fun r hr=>k.no r ((kg h s r).mpr hr)⟩,fun k=>⟨(kg h s _).mpr k.c1,(kg h s _).mpr k.c2,k.lt,fun r hr=>k.no r ((kg h s r).mp hr)⟩⟩
theorem tM{S T IN JN:List S2}{v w:KV}(h:∀t,t∈S↔t∈T)(a:Out S IN v)(b:Out T JN w):keys v=keys w:=by
 refine lH Cc _ _ (oE a.xq a.nd a.ok) (oE b.xq b.nd b.ok) fun z=>?_
 rw[a.key,b.key]
 constructor
 ·rintro⟨s,hs,k⟩
  exact⟨s,(h s).mp hs,(pB h s z).mp k⟩
 ·rintro⟨s,hs,k⟩
  exact⟨s,(h s).mpr hs,(pB h s z).mpr k⟩
theorem Out.WT{S IN:List S2}{w:KV}(a:Out S IN w):Uj (keys w):=⟨a.ok,fun z hz=>by
 obtain⟨s,_,k⟩:=(a.key z).mp hz
 exact k.lt,a.xq,a.nd⟩
theorem pC{α:Type}{f:D→Option PyData}{e:α→D}{g:α→PyData}:∀(l:List α),(∀a∈l,f (e a)=some (g a))→omap f (l.map e)=some (l.map g)
 |[],_=>rfl
 |a::l,h=>by
  show((f (e a)).bind fun d=>(omap f (l.map e)).bind fun ds=>some (d::ds))=_
  rw[h a List.mem_cons_self,pC l fun b hb=>h b (List.mem_cons_of_mem _ hb)]
  rfl
def pS(s:S2):PyData:=.tuple [pd s.1,pd s.2]
theorem GA{c:Cells}{k:Nat}{s:S2}:data c (k+3) (aA s)=some (pS s):=rfl
theorem lI{c:Cells}{k n:Nat}{l:List S2}(h:c[n]? =some (.lst (l.map aA))):data c (k+4) (.ref n)=some (.list (l.map pS)):=by
 rw[ke h,pC (g:=pS) l fun a _=>GA]
 rfl
def pI(l:List Int):PyData:=.list (l.map PyData.int)
theorem qA{c:Cells}{k n:Nat}{l:List Int}(h:c[n]? =some (.lst (l.map D.int))):data c (k+2) (.ref n)=some (pI l):=by
 rw[ke h,pC (g:=PyData.int) l fun a _=>rfl]
 rfl
theorem xw{c:Cells}{k n:Nat}{fs:List Nat}{f:Nat→List Int}(h:c[n]? =some (.lst (fs.map D.ref)))(hf:∀m∈fs,c[m]? =some (.lst ((f m).map D.int))):data c (k+3) (.ref n)=some (.list (fs.map fun m=>pI (f m))):=by
 rw[ke h,pC (e:=D.ref) (g:=fun m=>pI (f m)) fs fun m hm=>qA (hf m hm)]
 rfl
theorem E4:∀(n:Nat),omap mR (List.replicate n (D.bl false))=some (List.replicate n false)
 |0=>rfl
 |n+1=>by
  show((mR (D.bl false)).bind fun d=>(omap mR (List.replicate n (D.bl false))).bind fun ds=>some (d::ds))=_
  rw[E4 n]
  rfl
theorem xx{f:D→Option PyData}:∀(vs:List D) (gs:List PyData),vs.length=gs.length→(∀(i:Nat) v g,vs[i]? =some v→gs[i]? =some g→f v=some g)→omap f vs=some gs
 |[],gs,hl,_=>by
  cases gs with
  |nil=>rfl
  |cons _ _=>simp at hl
 |v::vs,gs,hl,h=>by
  cases gs with
  |nil=>simp at hl
  |cons g gs=>
   show((f v).bind fun d=>(omap f vs).bind fun ds=>some (d::ds))=_
   rw[h 0 v g rfl rfl,xx vs gs (by simpa using hl) fun i w k h1 h2=>h (i+1) w k (by simpa using h1) (by simpa using h2)]
   rfl
def rowOf(IN:List S2)(w:KV)(m:Nat):List Int:=match w.find? fun x=>decide (x.2.1=m)with
 |some x=>fq IN x.1
 |none=>[]
theorem vC{IN:List S2}:∀{w:KV},(ids w).Nodup→∀x∈w,rowOf IN w x.2.1=fq IN x.1
 |[],_,x,hx=>nomatch hx
 |y::w,nd,x,hx=>by
  have kE:y.2.1∉ids w∧(ids w).Nodup:=by simpa[ids]using nd
  unfold rowOf
  rw[List.find?_cons]
  rcases List.mem_cons.mp hx with rfl|ig
  ·simp
  ·have ne:y.2.1≠x.2.1:=fun e=>kE.1 (by rw[e];exact List.mem_map_of_mem ig)
   simp only[ne,decide_false]
   exact vC (w:=w) kE.2 x ig
theorem yV{IN:List S2}{w:KV}(nd:(ids w).Nodup):(ids w).map (rowOf IN w)=(keys w).map (fq IN):=by
 unfold ids keys
 rw[List.map_map,List.map_map]
 exact List.map_congr_left fun x hx=>vC nd x hx
section
variable{S:List S2}
theorem en.sd{s z:S2}(hS:∀t∈S,My.Sd t)(hs:s∈S)(h:en S s z):My.Sd z:=⟨(h.on hS hs).1.1,(h.on hS hs).2.1,fun e=>by have:=h.lt;rw[e,rW]at this;cases this⟩
theorem Ka{z:S2}(h:My.aM z.1 z.2=true):My.fw z.1 z.2=z:=by unfold My.fw;rw[if_pos h]
theorem Kb{z:S2}{p:T3}(h:My.aM z.1 z.2=true)(o:My.On p z):My.le z.1 p∧My.le p z.2:=by
 have:=(My.cI o.dt).mp o.2
 rw[Ka h]at this
 exact this
theorem en.sub{s z:S2}{p:T3}(hS:∀t∈S,My.Sd t)(hs:s∈S)(h:en S s z)(o:My.On p z):My.On p s:=by
 have ds:=hS s hs
 obtain⟨q1,q2⟩:=h.on hS hs
 have e1:=My.ju.symm ds (show My.ju s z from⟨q1.dt,q2.dt⟩)
 have e3:My.aG s.1 s.2 p=0:=My.BR (h.sd hS hs).cB e1.1 e1.2 o.dt
 obtain⟨l1,l2⟩:=My.gS ds.l1 ds.l2
 obtain⟨a1,a2⟩:=(My.cI q1.dt).mp q1.2
 obtain⟨b1,b2⟩:=(My.cI q2.dt).mp q2.2
 obtain⟨k1,k2⟩:=Kb h.lt o
 exact⟨o.1,(My.cI e3).mpr ⟨My.le_trans l1 q1.1 o.1 a1 k1,My.le_trans o.1 q2.1 l2 k2 b2⟩⟩
theorem en.end_{s z:S2}{p:T3}(hS:∀t∈S,My.Sd t)(hs:s∈S)(h:en S s z)(hc:My.mB S s p)(o:My.On p z):p=z.1∨p=z.2:=by
 obtain⟨k1,k2⟩:=Kb h.lt o
 have dz:=h.sd hS hs
 rcases My.iA dz.l1 o.1 with g1|g1|g1
 ·rcases My.iA o.1 dz.l2 with g2|g2|g2
  ·exact absurd ⟨g1,g2⟩ (h.no p hc)
  ·exact .inr g2
  ·unfold My.le at k2;rw[g2]at k2;cases k2
 ·exact .inl g1.symm
 ·unfold My.le at k1;rw[g1]at k1;cases k1
theorem en.ends{s r z t:S2}{p:T3}(hS:∀t∈S,My.Sd t)(hs:s∈S)(hr:r∈S)(h:en S s z)(k:en S r t)(e:p=z.1∨p=z.2)(o:My.On p t):p=t.1∨p=t.2:=by
 have c:My.mB S s p:=by rcases e with rfl|rfl;exact h.c1;exact h.c2
 exact k.end_ hS hr (c.move hS hs hr (k.sub hS hr o)) o
theorem en.Rg{s r z t:S2}{p:T3}(hS:∀t∈S,My.Sd t)(hs:s∈S)(hr:r∈S)(h:en S s z)(k:en S r t)(hn:¬My.ju z t)(o1:My.On p z)(o2:My.On p t):p=z.1∨p=z.2:=by
 have ds:=hS s hs
 have dr:=hS r hr
 have dz:=h.sd hS hs
 obtain⟨q1,q2⟩:=h.on hS hs
 obtain⟨u1,u2⟩:=k.on hS hr
 have WU:My.ju s z:=⟨q1.dt,q2.dt⟩
 have WV:My.ju r t:=⟨u1.dt,u2.dt⟩
 have ns:¬My.ju s r:=fun c=>hn (My.ju.trans dz ds (WU.symm ds) (My.ju.trans ds dr c WV))
 have ne:r≠s:=fun e=>ns (by subst e;exact⟨My.wW _ _,My.wX _ _⟩)
 exact h.end_ hS hs (.inr (.inr ⟨r,hr,ne,My.tq ds dr ns (h.sub hS hs o1) (k.sub hS hr o2)⟩)) o1
theorem en.E5{s r z t:S2}{p:T3}(hS:∀t∈S,My.Sd t)(hs:s∈S)(hr:r∈S)(h:en S s z)(k:en S r t)(hp:p∈My.cs (My.eP z t)):p=z.1∨p=z.2:=by
 obtain⟨o1,o2⟩:=My.wY (h.sd hS hs) (k.sd hS hr) hp
 by_cases c:My.ju z t
 ·rcases My.BS c hp with e|e|e|e
  ·exact .inl e
  ·exact .inr e
  ·exact k.ends hS hr hs h (.inl e) o1
  ·exact k.ends hS hr hs h (.inr e) o1
 ·exact h.Rg hS hs hr k c o1 o2
theorem en.same{s r z t:S2}(hS:∀t∈S,My.Sd t)(hs:s∈S)(hr:r∈S)(h:en S s z)(k:en S r t)(o1:My.On z.1 t)(o2:My.On z.2 t):z=t:=by
 have e1:=h.ends hS hs hr k (.inl rfl) o1
 have e2:=h.ends hS hs hr k (.inr rfl) o2
 have l1:=h.lt
 have l2:=k.lt
 obtain⟨z1,z2⟩:=z
 obtain⟨t1,t2⟩:=t
 simp only at e1 e2 l1 l2
 rcases e1 with rfl|rfl<;>rcases e2 with rfl|rfl
 ·rw[rW]at l1;cases l1
 ·rfl
 ·rw[My.cL l2]at l1;cases l1
 ·rw[rW]at l1;cases l1
def yW(u v:S2):Bool:=
 if u.2=v.1∨My.aM u.2 v.1=true∨My.aM v.2 u.1=true then false
 else if (¬(u.1=v.1∨u.1=v.2)∧My.ef u.1 v.1 v.2=true)∨(¬(u.2=v.1∨u.2=v.2)∧My.ef u.2 v.1 v.2=true)then true
 else if (¬(v.1=u.1∨v.1=u.2)∧My.ef v.1 u.1 u.2=true)∨(¬(v.2=u.1∨v.2=u.2)∧My.ef v.2 u.1 u.2=true)then true
 else if (u.1=v.1∨u.1=v.2)∨(u.2=v.1∨u.2=v.2)then decide (u=v)
 else if My.aG u.1 u.2 v.1*My.aG u.1 u.2 v.2≥0 then false
 else decide (My.aG v.1 v.2 u.1*My.aG v.1 v.2 u.2<0)
theorem se{x y:Int}(h:x*y<0):My.sgn x≠0∧My.sgn x*My.sgn y<0∧x≠0∧y≠0:=by
 have x0:x≠0:=fun e=>by rw[e,Int.zero_mul]at h;omega
 have y0:y≠0:=fun e=>by rw[e,Int.mul_zero]at h;omega
 rcases My.BN x with⟨a,e⟩|⟨a,e⟩|⟨a,e⟩<;>rcases My.BN y with⟨b,f⟩|⟨b,f⟩|⟨b,f⟩<;>rw[e,f]<;>first
  |exact absurd a x0
  |exact absurd b y0
  |exact⟨by decide,by decide,x0,y0⟩
  |exact absurd h (by have:=Int.mul_pos a b;omega)
  |exact absurd h (by have:=Int.mul_pos_of_neg_of_neg a b;omega)
theorem Kc{s r u v:S2}(hS:∀t∈S,My.Sd t)(hs:s∈S)(hr:r∈S)(h:en S s u)(k:en S r v)(ne:u≠v):yW u v=false:=by
 have du:=h.sd hS hs
 have dv:=k.sd hS hr
 unfold yW
 split
 ·rfl
 rw[if_neg,if_neg]
 ·split
  ·exact decide_eq_false ne
  split
  ·rfl
  ·rename_i g1 g2
   refine decide_eq_false fun g3=>?_
   obtain⟨a1,a2,a3,a4⟩:=se (show My.aG u.1 u.2 v.1*My.aG u.1 u.2 v.2<0 by omega)
   obtain⟨b1,b2,b3,b4⟩:=se g3
   have hm:My.eP u v= .lq (My.spT (My.mX u.1 u.2 v.1 v.2) (My.mY u.1 u.2 v.1 v.2) (My.mW u.1 u.2 v.1 v.2)):=by
    unfold My.eP My.cm
    rw[if_neg (fun z=>a1 z.1),if_neg (by omega)]
   have hp:(My.spT (My.mX u.1 u.2 v.1 v.2) (My.mY u.1 u.2 v.1 v.2) (My.mW u.1 u.2 v.1 v.2))∈My.cs (My.eP u v):=by rw[hm];exact List.mem_singleton.mpr rfl
   have o:=(My.wY du dv hp).2.dt
   rcases h.E5 hS hs hr k hp with e|e
   ·rw[e]at o;exact b3 o
   ·rw[e]at o;exact b4 o
 ·rintro(⟨g1,g2⟩|⟨g1,g2⟩)
  ·exact g1 (k.ends hS hr hs h (.inl rfl) ⟨dv.l1,g2⟩)
  ·exact g1 (k.ends hS hr hs h (.inr rfl) ⟨dv.l2,g2⟩)
 ·rintro(⟨g1,g2⟩|⟨g1,g2⟩)
  ·exact g1 (h.ends hS hs hr k (.inl rfl) ⟨du.l1,g2⟩)
  ·exact g1 (h.ends hS hs hr k (.inr rfl) ⟨du.l2,g2⟩)
theorem As{α:Type}{l:List α}(nd:l.Nodup){i j:Nat}(hi:i<l.length)(hj:j<l.length)(e:l[i]=l[j]):i=j:=by
 have h:=List.pairwise_iff_getElem.mp nd
 rcases Nat.lt_trichotomy i j with g|g|g
 ·exact absurd e (h i j hi hj g)
 ·exact g
 ·exact absurd e.symm (h j i hj hi g)
theorem xy{zs:List S2}(hS:∀t∈S,My.Sd t)(hz:∀z,z∈zs↔∃s∈S,en S s z){s z:S2}(hs:s∈zs):en zs s z↔z=s:=by
 obtain⟨a,ha,ca⟩:=(hz s).mp hs
 have Kd:∀p,My.mB zs s p↔p=s.1∨p=s.2:=fun p=>by
  constructor
  ·rintro(e|e|⟨t,ht,_,hp⟩)
   ·exact .inl e
   ·exact .inr e
   ·obtain⟨b,hb,cb⟩:=(hz t).mp ht
    exact ca.E5 hS ha hb cb hp
  ·rintro(e|e)
   ·exact .inl e
   ·exact .inr (.inl e)
 constructor
 ·intro k
  have e1:=(Kd _).mp k.c1
  have e2:=(Kd _).mp k.c2
  have l1:=k.lt
  have l2:=ca.lt
  obtain⟨z1,z2⟩:=z
  obtain⟨t1,t2⟩:=s
  simp only at e1 e2 l1 l2
  rcases e1 with rfl|rfl<;>rcases e2 with rfl|rfl
  ·rw[rW]at l1;cases l1
  ·rfl
  ·rw[My.cL l2]at l1;cases l1
  ·rw[rW]at l1;cases l1
 ·rintro rfl
  refine⟨(Kd _).mpr (.inl rfl),(Kd _).mpr (.inr rfl),ca.lt,fun r hr ⟨g1,g2⟩=>?_⟩
  rcases(Kd r).mp hr with rfl|rfl
  ·rw[rW]at g1;cases g1
  ·rw[rW]at g2;cases g2
theorem D6{zs:List S2}(hS:∀t∈S,My.Sd t)(hz:∀z,z∈zs↔∃s∈S,en S s z)(nd:zs.Nodup){i:Nat}{z:S2}(h:zs[i]? =some z):fq zs z=[(i:Int)]:=by
 have hi:=(List.getElem?_eq_some_iff.mp h).1
 obtain⟨a,ha,ca⟩:=(hz z).mp (List.mem_of_getElem? h)
 have dz:=ca.sd hS ha
 have key:∀k,k<zs.length→(nM zs z k=true↔k=i):=fun k hk=>by
  unfold nM
  rw[List.getElem?_eq_getElem hk]
  simp only[Bool.and_eq_true]
  constructor
  ·rintro⟨o1,o2⟩
   obtain⟨b,hb,cb⟩:=(hz zs[k]).mp (List.getElem_mem hk)
   have e:=ca.same hS ha hb cb ⟨dz.l1,o1⟩ ⟨dz.l2,o2⟩
   have mm:zs[i]=z:=(List.getElem?_eq_some_iff.mp h).2
   exact As nd hk hi (by rw[mm,e])
  ·rintro rfl
   have mm:zs[k]=z:=(List.getElem?_eq_some_iff.mp h).2
   rw[mm]
   exact⟨(My.vt dz (.inl rfl)).2,(My.vt dz (.inr rfl)).2⟩
 have:(List.range zs.length).filter (nM zs z)=[i]:=by
  refine lH (R:=fun a b:Nat=>a<b) (fun _ _ h=>by omega) _ _ (List.Pairwise.filter _ List.pairwise_lt_range) (List.pairwise_singleton _ _) fun k=>?_
  rw[List.mem_filter,List.mem_range,List.mem_singleton]
  constructor
  ·rintro⟨h1,h2⟩;exact(key k h1).mp h2
  ·rintro rfl;exact⟨hi,(key k hi).mpr rfl⟩
 unfold fq
 rw[this]
 rfl
end
theorem Ke{p a b:T3}{c:Cells}:C9 (sd p) (.tup [sd a,sd b]) c=some (decide (p=a∨p=b)):=by
 have o:omap (data c 5) ([a,b].map sd)=some ([a,b].map pd):=yJ (fun a=>rS) [a,b]
 unfold C9
 rw[wZ,Option.bind_some,rS,Option.bind_some,show([sd a,sd b]:List D)=[a,b].map sd from rfl,o,Option.bind_some]
 congr 1
 rw[Bool.eq_iff_iff];simp only[decide_eq_true_eq]
 rw[List.mem_map]
 constructor
 ·rintro⟨q,h1,h2⟩
  have:=vy.mp h2
  subst this
  simpa using h1
 ·intro h
  exact⟨p,by simpa using h,rfl⟩
theorem E6{p:T3}{v:S2}{c:Cells}:LZ (sd p) (aA v) c=some (.bl (decide (p=v.1∨p=v.2)),c):=by
 show(C9 (sd p) (.tup [sd v.1,sd v.2]) c).bind _=_
 rw[Ke];rfl
theorem sf{p:T3}{v:S2}{c:Cells}:q_ (sd p) (aA v) c=some (.bl (!decide (p=v.1∨p=v.2)),c):=by
 show(C9 (sd p) (.tup [sd v.1,sd v.2]) c).bind _=_
 rw[Ke];rfl
theorem Ce{u v:S2}{c:Cells}:ij (aA u) (aA v) c=some (.bl (decide (u=v)),c):=by
 have d:∀w:S2,data c 6 (aA w)=some (pS w):=fun w=>rfl
 show(wg (.tup [sd u.1,sd u.2]) (.tup [sd v.1,sd v.2]) c).bind _=_
 unfold wg
 dsimp only
 rw[show data c 6 (.tup [sd u.1,sd u.2])=_ from d u,show data c 6 (.tup [sd v.1,sd v.2])=_ from d v]
 simp only[Option.bind_some]
 congr 3
 rw[Bool.eq_iff_iff];simp only[decide_eq_true_eq]
 constructor
 ·intro h
  have h1: [pd u.1,pd u.2]=[pd v.1,pd v.2]:=PyData.tuple.inj h
  simp only[List.cons.injEq,and_true]at h1
  exact Prod.ext (vy.mp h1.1) (vy.mp h1.2)
 ·rintro rfl;rfl
theorem Uu{g:XG}{b:XS}{x y:D}{σ σ1 sO:Qm.Env}{c:Cells}(h1:g x σ c=some (σ1,c))(b1:b σ1 c=some (.nx,σ1,c))(h2:g y σ1 c=some (sO,c))(b2:b sO c=some (.nx,sO,c)):gD [] g b [x,y] σ c=some (.nx,sO,c):=by
 have st:stays [] c:=fun _ h=>nomatch h
 simp only[gD,if_pos st,h1,b1,h2,b2,Option.bind_some]
theorem Au{a b p:T3}(ha:Ok 8000 a)(hb:Ok 8000 b)(hp:Ok 8000 p):My.Bd 90000 (My.aG a b p):=by
 have a1:=ha.bx;have a2:=ha.gF;have a3:=ha.bw;have b1:=hb.bx;have b2:=hb.gF;have b3:=hb.bw;have p1:=hp.bx;have p2:=hp.gF;have p3:=hp.bw
 unfold My.aG My.det
 exact(My.Bd.add (My.Bd.add ((My.Bd.sub (a2.mul b3) (a3.mul b2)).mul p1) ((My.Bd.sub (a3.mul b1) (a1.mul b3)).mul p2)) ((My.Bd.sub (a1.mul b2) (a2.mul b1)).mul p3)).mono (by decide)
noncomputable abbrev oB(i j:Nat):XS:=cG (jL (tV (e2 q_ (eV 2) (eV j))) (tV (ao gu [] (ae (eV 2) (ae (eV j) ag))))) (aS (eC (.bl true))) bF
theorem Uv{U:Option D}{v:S2}{p:T3}{c:Cells}(hp:Ok 8000 p)(hv:ik 8000 v)(h:¬(¬(p=v.1∨p=v.2)∧My.ef p v.1 v.2=true)):oB 0 1 [U,some (aA v),some (sd p)] c=some (.nx,[U,some (aA v),some (sd p)],c):=by
 have l:=Oc (c:=c) hp hv
 by_cases g:p=v.1∨p=v.2
 ·erw[sf,decide_eq_true g]
 ·have o:My.ef p v.1 v.2=false:=by cases e:My.ef p v.1 v.2;rfl;exact absurd ⟨g,e⟩ h
  rw[o]at l
  erw[sf,decide_eq_false g,l]
theorem Uw{V:Option D}{v:S2}{p:T3}{c:Cells}(hp:Ok 8000 p)(hv:ik 8000 v)(h:¬(¬(p=v.1∨p=v.2)∧My.ef p v.1 v.2=true)):oB 1 0 [some (aA v),V,some (sd p)] c=some (.nx,[some (aA v),V,some (sd p)],c):=by
 have l:=Oc (c:=c) hp hv
 by_cases g:p=v.1∨p=v.2
 ·erw[sf,decide_eq_true g]
 ·have o:My.ef p v.1 v.2=false:=by cases e:My.ef p v.1 v.2;rfl;exact absurd ⟨g,e⟩ h
  rw[o]at l
  erw[sf,decide_eq_false g,l]
theorem xA{v:S2}{c:Cells}:ar (aA v) (.int 0) c=some (sd v.1,c):=rfl
theorem xB{v:S2}{c:Cells}:ar (aA v) (.int 1) c=some (sd v.2,c):=rfl
theorem Rh{u v:S2}{c:Cells}(hu:ik 8000 u)(hv:ik 8000 v)(h:yW u v=false):bP [aA u,aA v] c=some (.bl false,c):=by
 have q1:=gK (c:=c) hu.o2 hv.o1
 have q2:=gK (c:=c) hv.o2 hu.o1
 unfold yW at h
 by_cases g:u.2=v.1∨My.aM u.2 v.1=true∨My.aM v.2 u.1=true
 ·by_cases g1:u.2=v.1
  ·erw[bP,cf,xA,xB,gX,decide_eq_true g1]
  ·cases g2:My.aM u.2 v.1 with
   |true=>
    rw[g2]at q1
    erw[bP,cf,xA,xB,gX,decide_eq_false g1,q1]
   |false=>
    have g3:My.aM v.2 u.1=true:=by rcases g with g|g|g;exact absurd g g1;rw[g2]at g;cases g;exact g
    rw[g2]at q1
    rw[g3]at q2
    erw[bP,cf,xA,xB,gX,decide_eq_false g1,q1,q2]
 ·rw[if_neg g]at h
  have g1:¬u.2=v.1:=fun e=>g (.inl e)
  have g2:My.aM u.2 v.1=false:=by cases e:My.aM u.2 v.1;rfl;exact absurd (.inr (.inl e)) g
  have g3:My.aM v.2 u.1=false:=by cases e:My.aM v.2 u.1;rfl;exact absurd (.inr (.inr e)) g
  rw[g2]at q1
  rw[g3]at q2
  have k1:¬((¬(u.1=v.1∨u.1=v.2)∧My.ef u.1 v.1 v.2=true)∨(¬(u.2=v.1∨u.2=v.2)∧My.ef u.2 v.1 v.2=true)):=fun z=>by rw[if_pos z]at h;cases h
  rw[if_neg k1]at h
  have k2:¬((¬(v.1=u.1∨v.1=u.2)∧My.ef v.1 u.1 u.2=true)∨(¬(v.2=u.1∨v.2=u.2)∧My.ef v.2 u.1 u.2=true)):=fun z=>by rw[if_pos z]at h;cases h
  rw[if_neg k2]at h
  have f1:dO (nC (eV 0)) (av 2) (oB 0 1) [some (aA u),some (aA v),none] c=some (.nx,[some (aA u),some (aA v),some (sd u.2)],c):=
   (gE (I:=⟨[sd u.1,sd u.2],[]⟩) rfl).trans (Uu (σ1:=[some (aA u),some (aA v),some (sd u.1)]) rfl (Uv hu.o1 hv fun z=>k1 (.inl z)) rfl (Uv hu.o2 hv fun z=>k1 (.inr z)))
  have f2:dO (nC (eV 1)) (av 2) (oB 1 0) [some (aA u),some (aA v),some (sd u.2)] c=some (.nx,[some (aA u),some (aA v),some (sd v.2)],c):=
   (gE (I:=⟨[sd v.1,sd v.2],[]⟩) rfl).trans (Uu (σ1:=[some (aA u),some (aA v),some (sd v.1)]) rfl (Uw hv.o1 hu fun z=>k2 (.inl z)) rfl (Uw hv.o2 hu fun z=>k2 (.inr z)))
  have t1:=pA (c:=c) hu.o1 hu.o2 hv.o1
  have t2:=pA (c:=c) hu.o1 hu.o2 hv.o2
  have t3:=pA (c:=c) hv.o1 hv.o2 hu.o1
  have t4:=pA (c:=c) hv.o1 hv.o2 hu.o2
  have m1:Qm.MulOk (My.aG u.1 u.2 v.1) (My.aG u.1 u.2 v.2):=.inl ⟨Au hu.o1 hu.o2 hv.o1,Au hu.o1 hu.o2 hv.o2⟩
  have m2:Qm.MulOk (My.aG v.1 v.2 u.1) (My.aG v.1 v.2 u.2):=.inl ⟨Au hv.o1 hv.o2 hu.o1,Au hv.o1 hv.o2 hu.o2⟩
  by_cases i1:(u.1=v.1∨u.1=v.2)∨(u.2=v.1∨u.2=v.2)
  ·rw[if_pos i1]at h
   by_cases i2:u.1=v.1∨u.1=v.2
   ·erw[bP,cf,xA,xB,gX,decide_eq_false g1,q1,q2,f1,f2,E6,decide_eq_true i2,Ce,h]
   ·have i3:u.2=v.1∨u.2=v.2:=i1.resolve_left i2
    erw[bP,cf,xA,xB,gX,decide_eq_false g1,q1,q2,f1,f2,E6,decide_eq_false i2,decide_eq_true i3,Ce,h]
  ·rw[if_neg i1]at h
   have i2:¬(u.1=v.1∨u.1=v.2):=fun z=>i1 (.inl z)
   have i3:¬(u.2=v.1∨u.2=v.2):=fun z=>i1 (.inr z)
   by_cases i4:My.aG u.1 u.2 v.1*My.aG u.1 u.2 v.2≥0
   ·erw[bP,cf,xA,xB,gX,decide_eq_false g1,q1,q2,f1,f2,E6,decide_eq_false i2,decide_eq_false i3,t1,t2,cC m1,decide_eq_true i4]
   ·rw[if_neg i4]at h
    erw[bP,cf,xA,xB,gX,decide_eq_false g1,q1,q2,f1,f2,E6,decide_eq_false i2,decide_eq_false i3,t1,t2,cC m1,t3,t4,cC m2,decide_eq_false i4,h]
theorem yX{L:Nat}{ks:List (Nat×Cell)}{g:XG}{te:XE}{E:Qm.Env→Prop}(I:Nat→List D→Cells→Prop)(hI:∀k acc c,I k acc c→stays ks c∧c[L]? =some (.lst acc)∧acc.length<9000000):∀(ds:List D) (k:Nat) (acc:List D) (τ:Qm.Env) (c:Cells),
  (∀(i:Nat) d,ds[i]? =some d→∀τ c acc,E τ→I (k+i) acc c→∃gZ v c2,g d τ c=some (gZ,c)∧te gZ c=some (v,c2)∧E gZ∧c2[L]? =some (.lst acc)∧I (k+i+1) (acc++[v]) (c2.set L (.lst (acc++[v]))))→E τ→I k acc c→
  ∃Kf c',eo L ks g dN te ds τ c=some c'∧I (k+ds.length) Kf c'
 |[],k,acc,τ,c,_,_,h=>by
  refine⟨acc,c,?_,h⟩
  unfold eo
  rw[if_pos (hI _ _ _ h).1]
 |d::ds,k,acc,τ,c,hv,hE,h=>by
  obtain⟨h1,h2,h3⟩:=hI _ _ _ h
  obtain⟨gZ,v,c2,f1,f2,f3,f4,f5⟩:=hv 0 d rfl τ c acc hE h
  obtain⟨Kf,c',e1,e2⟩:=yX I hI ds (k+1) (acc++[v]) gZ (c2.set L (.lst (acc++[v]))) (fun i d' hd=>by
   have:=hv (i+1) d' (by simpa using hd)
   rwa[show k+(i+1)=k+1+i by omega]at this) f3 f5
  refine⟨Kf,c',?_,by rw[List.length_cons,show k+(ds.length+1)=k+1+ds.length by omega];exact e2⟩
  unfold eo
  rw[if_pos h1]
  have f6:dN gZ c=some (true,c):=rfl
  simp only[f1,Option.bind_some,f6,if_true,f2,f4]
  rw[if_pos (show acc.length<cE by rw[dS];omega)]
  exact e1
theorem Ri{it:XI}{cap:List (Option Nat)}{g:XG}{te:XE}{σ:Qm.Env}{c0 c:Cells}{ds:List D}{ks:List (Nat×Cell)}(E:Qm.Env→Prop)(I:Nat→List D→Cells→Prop)(hi:it σ c0=some (⟨ds,ks⟩,c))(hE:E (nU σ cap))(hI:∀k acc u,I k acc u→stays ks u∧u[c.length]? =some (.lst acc)∧acc.length<9000000)(h0:I 0 [] (c++[.lst []]))
  (hv:∀(i:Nat) d,ds[i]? =some d→∀τ u acc,E τ→I i acc u→∃gZ v c2,g d τ u=some (gZ,u)∧te gZ u=some (v,c2)∧E gZ∧c2[c.length]? =some (.lst acc)∧I (i+1) (acc++[v]) (c2.set c.length (.lst (acc++[v])))):
  ∃acc c',df it cap g dN te σ c0=some (.ref c.length,c')∧I ds.length acc c':=by
 obtain⟨acc,c',e,h⟩:=yX (te:=te) (g:=g) (E:=E) I hI ds 0 [] (nU σ cap) (c++[.lst []]) (fun i d hd=>by rw[Nat.zero_add];exact hv i d hd) hE h0
 refine⟨acc,c',?_,by rw[Nat.zero_add]at h;exact h⟩
 unfold df
 rw[hi,Option.bind_some]
 dsimp only
 rw[e]
 rfl
theorem Ux{α:Type}{e:α→D}{a i:Nat}{l:List α}{x:α}{c:Cells}(h:c[a]? =some (.lst (l.map e)))(hx:l[i]? =some x)(hn:l.length≤1000):oW (.ref a) [.int (i:Int)] c=some (e x,c.set a (.lst ((l.eraseIdx i).map e))):=by
 have hi:=(List.getElem?_eq_some_iff.mp hx).1
 unfold oW one
 simp only[aU h,Option.bind_some,List.length_map]
 rw[if_pos ⟨by omega,by omega,hn⟩,show((i:Int).toNat)=i by omega,List.getElem?_map,hx]
 simp only[Option.map_some,Option.bind_some]
 have em:∀(l:List α) (i:Nat),(l.map e).eraseIdx i=(l.eraseIdx i).map e:=fun l=>by
  induction l with
  |nil=>intro i;rfl
  |cons y l ih=>intro i;cases i with
   |zero=>rfl
   |succ i=>simp[ih i]
 rw[em]
theorem Cf{α:Type}{l:List α}{i:Nat}{x:α}(h:l[i]? =some x):l.Perm (x::l.eraseIdx i):=by
 induction l generalizing i with
 |nil=>cases h
 |cons y l ih=>
  cases i with
  |zero=>cases h;exact .refl _
  |succ i=>exact((ih (by simpa using h)).cons y).trans (.swap _ _ _)
noncomputable abbrev WW:XS:=cO (eM b8 (eV 4) (ae (eM oW (eV 3) (ae (ao az [] (ae (eV 2) (ae (eB bS (ae (eV 3) ag)) ag))) ag)) ag))
theorem GB{P L F:Nat}{A B:Option D}(n1:P≠L)(n2:P≠F)(n3:L≠F):∀(n:Nat) (left found:List Int) (c:Cells),left.length=n→n+found.length≤1000→ie P c→c[L]? =some (.lst (left.map D.int))→c[F]? =some (.lst (found.map D.int))→
  ∃(c':Cells) (ord:List Int),cX (tV (e2 mh (eB bS (ae (eV 3) ag)) (eC (.int 0)))) WW [A,B,some (.ref P),some (.ref L),some (.ref F)] c=some (.nx,[A,B,some (.ref P),some (.ref L),some (.ref F)],c')∧ie P c'∧c'[F]? =some (.lst (ord.map D.int))∧ord.Perm (found++left)∧Kq [P,L,F] c c'∧c'.length=c.length:=by
 intro n
 induction n with
 |zero=>
  intro left found c hl hn hP hL hF
  have:left=[]:=List.length_eq_zero_iff.mp hl
  subst this
  refine⟨c,found,gj ?_,hP,hF,by simp,Kq.refl _ _,rfl⟩
  have:=jN hL
  erw[this]
  rfl
 |succ n ih=>
  intro left found c hl hn hP hL hF
  have le:=jN hL
  have wL:=aU hL
  have wF:=aU hF
  obtain⟨d,c2,e1,d0,d1,p2,k2,l2⟩:=Ap (m:=(left.length:Int)) hP (by omega) (My.Bd.mono (iL (by omega)) (by decide))
  have IW:=k2 _ _ (by simpa using n1.symm) hL
  have WX:=k2 _ _ (by simpa using n2.symm) hF
  obtain⟨i,rfl⟩:∃i:Nat,d=(i:Int):=⟨d.toNat,by omega⟩
  have hi:i<left.length:=by omega
  have hx:left[i]? =some left[i]:=List.getElem?_eq_getElem hi
  have pp:=Ux (e:=D.int) IW hx (by omega)
  have WY:(c2.set L (.lst ((left.eraseIdx i).map D.int)))[L]? =some (.lst ((left.eraseIdx i).map D.int)):=gU (bp IW)
  have Uy:(c2.set L (.lst ((left.eraseIdx i).map D.int)))[F]? =some (.lst (found.map D.int)):=bK WX n3.symm
  have ap:=xa (e:=D.int) (x:=left[i]) Uy (by omega)
  obtain⟨a2,P5⟩:=p2
  have el:=List.length_eraseIdx_of_lt hi
  have WZ:ie P ((c2.set L (.lst ((left.eraseIdx i).map D.int))).set F (.lst ((found++[left[i]]).map D.int))):=⟨a2,bK (bK P5 n1) n2⟩
  obtain⟨c',ord,f1,f2,f3,f4,f5,f6⟩:=ih (left.eraseIdx i) (found++[left[i]]) ((c2.set L (.lst ((left.eraseIdx i).map D.int))).set F (.lst ((found++[left[i]]).map D.int))) (by omega) (by simp;omega) WZ (bK WY n3) (gU (bp Uy))
  refine⟨c',ord,km (c':=c) (c2:=(c2.set L (.lst ((left.eraseIdx i).map D.int))).set F (.lst ((found++[left[i]]).map D.int))) (σ':=[A,B,some (.ref P),some (.ref L),some (.ref F)]) ?_ ?_ f1,f2,f3,?_,?_,?_⟩
  ·have:decide ((0:Int)<(left.length:Int))=true:=decide_eq_true (by omega)
   erw[le,this]
  ·erw[wF,wL,le,e1,pp,ap]
  ·refine f4.trans ?_
   rw[List.append_assoc]
   exact(Cf hx).symm.append_left _
  ·refine Kq.trans (T:=[P,L,F]) ?_ f5 (fun x hx=>.inl hx)
   intro j z hj hz
   simp only[List.mem_cons,List.not_mem_nil,or_false,not_or]at hj
   exact bK (bK (k2 j z (by simpa using hj.1) hz) hj.2.1) hj.2.2
  ·rw[f6];simp[l2]
theorem Kg(n:Nat):Qm.dQ 0 n=((List.range n).map fun(i:Nat)=>(i:Int)).map D.int:=by
 unfold Qm.dQ
 rw[List.map_map]
 exact List.map_congr_left fun i _=>by simp
theorem Nm{s n:Nat}{ns:List Int}{c:Cells}(hs:c[s]? =some (.ro (ns.map D.int)))(hn:n≤10):
  ∃(f a:Nat) (c':Cells) (ord ab:List Int),jY [.ref s,.int (n:Int)] c=some (.tup [.ref f,.ref a],c')∧c <+:c'∧c'[f]? =some (.lst (ord.map D.int))∧c'[a]? =some (.lst (ab.map D.int))∧ord.Perm ((List.range n).map fun(i:Nat)=>(i:Int))∧ab.length=n∧(∀b∈ab,b=0∨b=1):=by
 obtain⟨z,e1⟩:=JX (k:=11) hs (by decide)
 obtain⟨a,e2⟩:=JY (x:=z) (k:=77) hs (by decide) (by decide)
 have e3:mw [.int (n:Int)] (c++[.lst [.int a]])=some (.ref (c++[Cell.lst [.int a]]).length,c++[.lst [.int a]]++[.lst (((List.range n).map fun(i:Nat)=>(i:Int)).map D.int)]):=by
  unfold mw one
  dsimp only
  rw[if_pos ⟨by omega,by omega⟩,show((n:Int).toNat)=n by omega,Kg]
 have l1:(c++[Cell.lst [.int a]]).length=c.length+1:=by simp
 have l2:(c++[Cell.lst [.int a]]++[Cell.lst (((List.range n).map fun(i:Nat)=>(i:Int)).map D.int)]).length=c.length+2:=by simp
 have hP:ie c.length (c++[Cell.lst [.int a]]++[.lst (((List.range n).map fun(i:Nat)=>(i:Int)).map D.int)]++[.lst []]):=⟨a,aY (aY aH)⟩
 obtain⟨c4,ord,f1,f2,f3,f4,f5,f6⟩:=GB (P:=c.length) (L:=c.length+1) (F:=c.length+2) (A:=some (.ref s)) (B:=some (.int (n:Int))) (by omega) (by omega) (by omega) n ((List.range n).map fun(i:Nat)=>(i:Int)) [] (c++[Cell.lst [.int a]]++[.lst (((List.range n).map fun(i:Nat)=>(i:Int)).map D.int)]++[.lst []]) (by simp) (by simp;omega) hP (by rw[←l1];exact aY aH) (by rw[←l2];exact aH)
 have p4:c <+:c4:=f5.to (c0:=c) ⟨[Cell.lst [.int a],.lst (((List.range n).map fun(i:Nat)=>(i:Int)).map D.int),.lst []],by simp⟩ (fun x hx=>by simp at hx;omega)
 have it:eu (ae (eV 1) ag) [some (.ref s),some (.int (n:Int)),some (.ref c.length),some (.ref (c.length+1)),some (.ref (c.length+2))] c4=some (⟨Qm.dQ 0 n,[]⟩,c4):=by
  have:=oZ (a:=ae (eV 1) ag) (σ:=[some (.ref s),some (.int (n:Int)),some (.ref c.length),some (.ref (c.length+1)),some (.ref (c.length+2))]) (c:=c4) (c':=c4) (j:=(n:Int)) (by erw[]) (by omega)
  exact this
 have h4:=bp f3
 obtain⟨acc,c5,g1,ab,g2,g3,g4,g5,g6,g7⟩:=Ri (te:=ao az [] (ae (eV 1) (ae (eC (.int 2)) ag))) (g:=av 0) (cap:=[none,some 2]) (fun τ=>∃z,τ=[z,some (.ref c.length)])
  (fun i acc u=>∃ab:List Int,acc=ab.map D.int∧ab.length=i∧(∀b∈ab,b=0∨b=1)∧ie c.length u∧Kq [c.length,c4.length] c4 u∧u[c4.length]? =some (.lst acc)∧i≤n) it ⟨none,rfl⟩
  (fun k acc u ⟨ab,a1,a2,a3,a4,a5,a6,a7⟩=>⟨fun _ h=>(nomatch h),a6,by rw[a1,List.length_map];omega⟩)
  ⟨[],rfl,rfl,fun _ h=>(nomatch h),f2.app,Kq.pre ⟨_,rfl⟩,aH,by omega⟩
  (by
   rintro i d hd τ u acc ⟨z,oC⟩ ⟨ab,a1,a2,a3,a4,a5,a6,a7⟩
   subst oC
   have Tg:i<n:=by
    have:=(List.getElem?_eq_some_iff.mp hd).1
    simpa[Qm.dQ]using this
   obtain⟨x,u2,d1,d2,d3,d4,d5,d6⟩:=Ap (m:=2) a4 (by decide) (My.Bd.mono (iL (by decide)) (by decide))
   have k4:=bp f2.choose_spec
   have ub:=d5 _ _ (by simp;omega) a6
   have hx:D.int x=D.int x:=rfl
   refine⟨[some d,some (.ref c.length)],.int x,u2,rfl,by erw[d1],⟨_,rfl⟩,ub,ab++[x],by simp[a1],by simp[a2],?_,?_,?_,gU (bp ub),by omega⟩
   ·intro b hb
    rcases List.mem_append.mp hb with hb|hb
    ·exact a3 b hb
    ·cases List.mem_singleton.mp hb;omega
   ·obtain⟨y,hy⟩:=d4
    exact⟨y,bK hy (by omega)⟩
   ·refine(a5.trans (T:=[c.length]) d5 (fun x hx=>.inl (by simp at hx ⊢;exact .inl hx))).trans (T:=[c4.length]) (fun j y hj e=>bK e (by simpa using hj)) (fun x hx=>.inl (by simp at hx ⊢;exact .inr hx)))
 refine⟨c.length+2,c4.length,c5,ord,ab,?_,g6.to p4 (fun x hx=>by have:=fY p4;simp at hx;omega),g6 _ _ (by simp;omega) f3,by rw[←g2];exact g7.1,by simpa using f4,by rw[g3];simp[Qm.dQ],g4⟩
 rw[jY,jv,jX]
 erw[Nat.zero_le,e1,e2,e3,f1,g1,l1,l2]
theorem Rj{B:Nat}{a b p q:T3}(ha:Ok B a)(hb:Ok B b)(hp:Ok B p)(hq:Ok B q)(hm:My.mW a b p q≠0):Ok (4*B+10) (My.spT (My.mX a b p q) (My.mY a b p q) (My.mW a b p q)):=by
 have r:∀{u v:T3},Ok B u→Ok B v→My.Bd (2*B+1) (u.2.1*v.2.2 - u.2.2*v.2.1)∧My.Bd (2*B+1) (u.2.2*v.1 - u.1*v.2.2)∧My.Bd (2*B+1) (u.1*v.2.1 - u.2.1*v.1):=fun h1 h2=>⟨(My.Bd.sub (h1.gF.mul h2.bw) (h1.bw.mul h2.gF)).mono (by omega),(My.Bd.sub (h1.bw.mul h2.bx) (h1.bx.mul h2.bw)).mono (by omega),(My.Bd.sub (h1.bx.mul h2.gF) (h1.gF.mul h2.bx)).mono (by omega)⟩
 obtain⟨x1,x2,x3⟩:=r ha hb
 obtain⟨y1,y2,y3⟩:=r hp hq
 refine Sp.mk' hm ?_ ?_ ?_
 ·unfold My.mX My.m0;exact(My.Bd.sub (x2.mul y3) (x3.mul y2)).mono (by omega)
 ·unfold My.mY My.m1;exact(My.Bd.sub (x3.mul y1) (x1.mul y3)).mono (by omega)
 ·unfold My.mW My.m2;exact(My.Bd.sub (x1.mul y2) (x2.mul y1)).mono (by omega)
theorem E7{B:Nat}{u v:T3}(h1:Ok B u)(h2:Ok B v):Ok B (My.fw u v).1∧Ok B (My.fw u v).2:=by
 unfold My.fw;split
 ·exact⟨h1,h2⟩
 ·exact⟨h2,h1⟩
theorem Rk{B:Nat}{s t:S2}(hs:ik B s)(ht:ik B t){p:T3}(h:p∈My.cs (My.eP s t)):Ok (4*B+10) p:=by
 unfold My.eP My.cm at h
 split at h
 ·obtain⟨l1,l2⟩:=E7 hs.o1 hs.o2
  obtain⟨r1,r2⟩:=E7 ht.o1 ht.o2
  unfold My.jt at h
  dsimp only at h
  have oP:Ok B (if My.aM (My.fw s.1 s.2).1 (My.fw t.1 t.2).1=true then(My.fw t.1 t.2).1 else(My.fw s.1 s.2).1):=by split<;>assumption
  have oQ:Ok B (if My.aM (My.fw s.1 s.2).2 (My.fw t.1 t.2).2=true then(My.fw s.1 s.2).2 else(My.fw t.1 t.2).2):=by split<;>assumption
  generalize (if My.aM (My.fw s.1 s.2).1 (My.fw t.1 t.2).1=true then(My.fw t.1 t.2).1 else(My.fw s.1 s.2).1)=P at*
  generalize (if My.aM (My.fw s.1 s.2).2 (My.fw t.1 t.2).2=true then(My.fw s.1 s.2).2 else(My.fw t.1 t.2).2)=Q at*
  split at h
  ·cases List.mem_singleton.mp h;exact oP.mono (by omega)
  ·split at h
   ·rcases List.mem_cons.mp h with rfl|h
    ·exact oP.mono (by omega)
    ·cases List.mem_singleton.mp h;exact oQ.mono (by omega)
   ·cases h
 ·rename_i g
  split at h
  ·cases h
  ·rename_i k
   cases List.mem_singleton.mp h
   exact Rj hs.o1 hs.o2 ht.o1 ht.o2 (My.oY ht.o1.dE.pos ht.o2.dE.pos g fun z=>k (.inl z))
theorem Uz{s:S2}(h:kU s):ik 130 (gJ s)∧My.Sd (gJ s):=by
 have i:rZ s:=⟨⟨h.ok.o1.mono (by decide),h.ok.o2.mono (by decide)⟩,h.ne⟩
 exact⟨⟨(E7 h.ok.o1 h.ok.o2).1,(E7 h.ok.o1 h.ok.o2).2⟩,(DY i).2.1⟩
theorem kU.yY{s:S2}(h:kU s):rZ s:=⟨⟨h.ok.o1.mono (by decide),h.ok.o2.mono (by decide)⟩,h.ne⟩
theorem uV.uU{IN S:List S2}(f:uV IN S)(h:∀s∈IN,kU s):∀s∈S,ik 130 s∧My.Sd s:=fun s hs=>by
 obtain⟨k,_,e⟩:=(f.mem s).mp hs
 obtain⟨t,ht,rfl⟩:=Option.map_eq_some_iff.mp e
 exact Uz (h t (List.mem_of_getElem? ht))
theorem en.yY{S:List S2}{s z:S2}(hS:∀s∈S,ik 130 s∧My.Sd s)(hs:s∈S)(h:en S s z):rZ z:=by
 have c:∀{p:T3},My.mB S s p→Ok 1000 p:=fun {p} hp=>by
  rcases hp with rfl|rfl|⟨t,ht,_,hp⟩
  ·exact(hS s hs).1.o1.mono (by decide)
  ·exact(hS s hs).1.o2.mono (by decide)
  ·exact(Rk (hS s hs).1 (hS t ht).1 hp).mono (by decide)
 exact⟨⟨c h.c1,c h.c2⟩,(h.sd (fun t ht=>(hS t ht).2) hs).ne⟩
theorem Kh{α:Type}{xs:List α}{k:Nat}(h:k≤xs.length):Qm.cutD xs none (some (k:Int))=xs.take k:=by
 unfold Qm.cutD x6
 simp only
 rw[if_neg (by omega)]
 simp
noncomputable abbrev UA:XE:=df (eE (kO dX (eV 2) eK (dc (eV 3)))) [none,some 4] (av 0) dN (ao bP [] (ae (eV 0) (ae (eV 1) ag)))
theorem anyF{n m:Nat}{c:Cells}(h:c[n]? =some (.lst (List.replicate m (D.bl false)))):yn [.ref n] c=some (.bl false,c):=by
 unfold yn one
 simp only[aU h,Option.bind_some]
 rw[E4]
 simp
theorem UB{A0 A1:Option D}{R:List (Option D)}{f k:Nat}{zs:List S2}{z:S2}{c:Cells}(hf:c[f]? =some (.lst (zs.map aA)))(hk:k≤zs.length)(hn:zs.length≤1000000)(oz:ik 8000 z)(os:∀t∈zs,ik 8000 t)(hz:∀t∈zs.take k,yW t z=false):
  ∃n c',UA (A0::A1::some (.ref f)::some (.int (k:Int))::some (aA z)::R) c=some (.ref n,c')∧c <+:c'∧yn [.ref n] c'=some (.bl false,c'):=by
 have ct:dX (.ref f) none (some (k:Int)) c=some (.ref c.length,c++[.lst ((zs.take k).map aA)]):=by
  show((b7 (.ref f) c).bind _)=_
  rw[a_ hf,Option.bind_some,Kh (by simpa using hk),List.map_take]
 have ev:kO dX (eV 2) eK (dc (eV 3)) (A0::A1::some (.ref f)::some (.int (k:Int))::some (aA z)::R) c=some (.ref c.length,c++[.lst ((zs.take k).map aA)]):=by erw[ph,ct]
 have it:eE (kO dX (eV 2) eK (dc (eV 3))) (A0::A1::some (.ref f)::some (.int (k:Int))::some (aA z)::R) c=some (⟨(zs.take k).map aA,[(c.length,.lst ((zs.take k).map aA))]⟩,c++[.lst ((zs.take k).map aA)]):=by
  unfold eE
  rw[ev,Option.bind_some]
  dsimp only
  rw[aH,a_ aH]
  rfl
 obtain⟨vs,c1,e1,p1,g1,l1,r1⟩:=qx (te:=ao bP [] (ae (eV 0) (ae (eV 1) ag))) (g:=av 0) (cap:=[none,some 4]) (fun τ=>∃y,τ=[y,some (aA z)]) (fun i v c'=>v= .bl false) it (fun p hp=>by cases List.mem_singleton.mp hp;exact aH) ⟨none,rfl⟩ (fun _ _ _ _ h _=>h)
  (by
   rintro i d hd τ c' ⟨y,oC⟩ pc lc
   subst oC
   rw[List.getElem?_map]at hd
   obtain⟨t,ht,rfl⟩:=Option.map_eq_some_iff.mp hd
   have tm:=List.mem_of_getElem? ht
   have o:=Rh (c:=c') (os t (List.mem_of_mem_take tm)) oz (hz t tm)
   refine⟨[some (aA t),some (aA z)],.bl false,[],rfl,?_,⟨_,rfl⟩,rfl⟩
   erw[o])
  (by simp;omega)
 have hv:vs=List.replicate vs.length (D.bl false):=List.eq_replicate_iff.mpr ⟨rfl,fun b hb=>by
  obtain⟨i,hi⟩:=List.getElem?_of_mem hb
  exact r1 i b hi⟩
 rw[hv]at g1
 exact⟨_,c1,e1,(show c <+:c++[.lst ((zs.take k).map aA)] from⟨_,rfl⟩).trans p1,anyF g1⟩
noncomputable abbrev UC:XS:=cG (tV (eB yn (ae UA ag))) (aS (eC (.bl false))) bF
theorem Nn{A0 A1 z3 z4:Option D}{R:List (Option D)}{f:Nat}{zs:List S2}{c:Cells}(hf:c[f]? =some (.lst (zs.map aA)))(hn:zs.length≤1000000)(os:∀t∈zs,ik 8000 t)(hz:∀(k:Nat) z,zs[k]? =some z→∀t∈zs.take k,yW t z=false):
  ∃y3 y4 c',dO (og (ae (eV 2) ag)) (c_ 2 (aQ (av 3) (aQ (av 4) cZ))) UC (A0::A1::some (.ref f)::z3::z4::R) c=some (.nx,A0::A1::some (.ref f)::y3::y4::R,c')∧c <+:c':=by
 have it:og (ae (eV 2) ag) (A0::A1::some (.ref f)::z3::z4::R) c=some (⟨iY (zs.map aA),[(f,.lst (zs.map aA))]⟩,c):=by
  have ha:ae (eV 2) ag (A0::A1::some (.ref f)::z3::z4::R) c=some ([.ref f],c):=by erw[]
  unfold og
  rw[ha,Option.bind_some]
  dsimp only
  rw[hf,aU hf]
  rfl
 obtain⟨σ',c',e1,y3,y4,rfl,p1⟩:=cJ (ks:=[(f,.lst (zs.map aA))]) (g:=c_ 2 (aQ (av 3) (aQ (av 4) cZ))) (body:=UC)
  (fun i σ c'=>∃y3 y4,σ=A0::A1::some (.ref f)::y3::y4::R∧c <+:c') (iY (zs.map aA)) 0 (A0::A1::some (.ref f)::z3::z4::R) c
  (by rintro i σ c' ⟨_,_,_,p1⟩ q hq;cases List.mem_singleton.mp hq;exact aC p1 hf)
  (by
   rintro i d σ c' hd ⟨y3,y4,rfl,p1⟩
   obtain⟨x,hx,rfl⟩:=Cd hd
   rw[List.getElem?_map]at hx
   obtain⟨z,mm,rfl⟩:=Option.map_eq_some_iff.mp hx
   have nh:=(List.getElem?_eq_some_iff.mp mm).1
   obtain⟨n,c2,f1,f2,f3⟩:=UB (A0:=A0) (A1:=A1) (R:=R) (k:=i) (z:=z) (aC p1 hf) (by omega) hn (os z (List.mem_of_getElem? mm)) os (hz i z mm)
   refine⟨A0::A1::some (.ref f)::some (.int (i:Int))::some (aA z)::R,c',A0::A1::some (.ref f)::some (.int (i:Int))::some (aA z)::R,c2,rfl,?_,some (.int (i:Int)),some (aA z),rfl,p1.trans f2⟩
   erw[f1,f3])
  ⟨z3,z4,rfl,List.prefix_refl _⟩
 refine⟨y3,y4,c',?_,p1⟩
 exact(gE it).trans e1
def i8(s:S2)(b:Int):S2:=if b=0 then s else(s.2,s.1)
def gL(IN:List S2)(ord ab:List Int):List S2:=(ord.zip ab).map fun p=>i8 ((IN[p.1.toNat]?).getD ((0,0,0),(0,0,0))) p.2
theorem xC{s:S2}(h:kU s)(b:Int):gJ (i8 s b)=gJ s:=by
 unfold i8
 split
 ·rfl
 ·unfold gJ My.fw
  rcases My.iA h.ok.o1.dE h.ok.o2.dE with g|g|g
  ·rw[if_pos g,if_neg (by rw[My.cL g];decide)]
  ·exact absurd g h.ne
  ·rw[if_pos g,if_neg (by rw[My.cL g];decide)]
theorem Cg{s:S2}(h:kU s)(b:Int):kU (i8 s b):=by
 unfold i8
 split
 ·exact h
 ·exact⟨⟨h.ok.o2,h.ok.o1⟩,h.ne.symm⟩
noncomputable abbrev UD:XS:=ay (mf (e2 ar (eV 1) (eV 3)) (c_ 2 (aQ (av 9) (aQ (av 10) cZ)))) (cO (eM b8 (eV 7) (ae (e2 ar (fH (ae (eD (ae (eV 9) (ae (eV 10) ag))) (ae (eD (ae (eV 10) (ae (eV 9) ag))) ag))) (eV 8)) ag)))
theorem Np{A0 A2 z3 A4 z8 z9 Ki qB:Option D}{g fo fa:Nat}{IN:List S2}{ord ab:List Int}{c:Cells}(hg:c[g]? =some (.lst (IN.map aA)))(Nq:c[fo]? =some (.lst (ord.map D.int)))(Nr:c[fa]? =some (.lst (ab.map D.int)))(ho:∀k∈ord,0≤k∧k<IN.length)(hb:∀b∈ab,b=0∨b=1)(hn:ord.length≤1000):
  ∃y3 y8 y9 uW c',dO (hG (ae (eV 5) (ae (eV 6) ag))) (c_ 2 (aQ (av 3) (aQ (av 8) cZ))) UD [A0,some (.ref g),A2,z3,A4,some (.ref fo),some (.ref fa),some (.ref c.length),z8,z9,Ki,qB] (c++[.lst []])=some (.nx,[A0,some (.ref g),A2,y3,A4,some (.ref fo),some (.ref fa),some (.ref c.length),y8,y9,uW,qB],c')∧c <+:c'∧c'[c.length]? =some (.lst ((gL IN ord ab).map aA)):=by
 have lg:=bp hg
 have lo:=bp Nq
 have la:=bp Nr
 have it:hG (ae (eV 5) (ae (eV 6) ag)) [A0,some (.ref g),A2,z3,A4,some (.ref fo),some (.ref fa),some (.ref c.length),z8,z9,Ki,qB] (c++[.lst []])=some (⟨eA (ord.map D.int) (ab.map D.int),[(fo,.lst (ord.map D.int)),(fa,.lst (ab.map D.int))]⟩,c++[.lst []]):=by
  have ha:ae (eV 5) (ae (eV 6) ag) [A0,some (.ref g),A2,z3,A4,some (.ref fo),some (.ref fa),some (.ref c.length),z8,z9,Ki,qB] (c++[.lst []])=some ([.ref fo,.ref fa],c++[.lst []]):=by erw[]
  unfold hG
  rw[ha,Option.bind_some]
  dsimp only
  rw[aY Nq,aY Nr,aU (aY Nq),aU (aY Nr)]
  rfl
 obtain⟨σ',c',e1,y3,y8,y9,uW,rfl,p1,g1⟩:=cJ (ks:=[(fo,.lst (ord.map D.int)),(fa,.lst (ab.map D.int))]) (g:=c_ 2 (aQ (av 3) (aQ (av 8) cZ))) (body:=UD)
  (fun i σ c'=>∃y3 y8 y9 uW,σ=[A0,some (.ref g),A2,y3,A4,some (.ref fo),some (.ref fa),some (.ref c.length),y8,y9,uW,qB]∧c <+:c'∧c'[c.length]? =some (.lst (((gL IN ord ab).take i).map aA)))
  (eA (ord.map D.int) (ab.map D.int)) 0 _ (c++[.lst []])
  (by
   rintro i σ c' ⟨_,_,_,_,_,p1,_⟩ q hq
   rcases List.mem_cons.mp hq with rfl|hq
   ·exact aC p1 Nq
   ·cases List.mem_singleton.mp hq;exact aC p1 Nr)
  (by
   rintro i d σ c' hd ⟨y3,y8,y9,uW,rfl,p1,g1⟩
   rw[Nat.zero_add]at g1
   unfold eA at hd
   rw[List.getElem?_map]at hd
   obtain⟨q,hq,rfl⟩:=Option.map_eq_some_iff.mp hd
   obtain⟨h1,h2⟩:=List.getElem?_zip_eq_some.mp hq
   rw[List.getElem?_map]at h1 h2
   obtain⟨k,hk,e1⟩:=Option.map_eq_some_iff.mp h1
   obtain⟨b,tH,e2⟩:=Option.map_eq_some_iff.mp h2
   obtain⟨q1,q2⟩:=q
   simp only at e1 e2
   subst e1 e2
   obtain⟨k0,k1⟩:=ho k (List.mem_of_getElem? hk)
   obtain⟨s,hs⟩:∃s,IN[k.toNat]? =some s:=⟨_,List.getElem?_eq_getElem (by omega)⟩
   have ix:ar (.ref g) (.int k) c'=some (aA s,c'):=by
    rw[hZ,a_ (aC p1 hg),Option.bind_some]
    have:g_ (IN.map aA) k=some (aA s):=by
     unfold g_ wj
     rw[if_pos k0,if_pos (by simpa using k1)]
     simp[hs]
    simp[this]
   have W2:(gL IN ord ab)[i]? =some (i8 s b):=by
    unfold gL
    rw[List.getElem?_map,List.getElem?_zip_eq_some.mpr (show ord[i]? =some (k,b).1∧ab[i]? =some (k,b).2 from⟨hk,tH⟩)]
    simp[hs]
   have w:=aU g1
   have g2:(c'++[Cell.lst [.tup [sd s.1,sd s.2],.tup [sd s.2,sd s.1]]])[c.length]? =some (.lst (((gL IN ord ab).take i).map aA)):=aY g1
   have ap:=xa (e:=aA) (x:=i8 s b) g2 (by
    have:((gL IN ord ab).take i).length≤ord.length:=by
     rw[List.length_take];unfold gL;simp;omega
    omega)
   have W3:ar (.ref c'.length) (.int b) (c'++[Cell.lst [.tup [sd s.1,sd s.2],.tup [sd s.2,sd s.1]]])=some (aA (i8 s b),c'++[Cell.lst [.tup [sd s.1,sd s.2],.tup [sd s.2,sd s.1]]]):=by
    rw[hZ,a_ aH,Option.bind_some]
    rcases hb b (List.mem_of_getElem? tH)with rfl|rfl<;>rfl
   refine⟨[A0,some (.ref g),A2,some (.int k),A4,some (.ref fo),some (.ref fa),some (.ref c.length),some (.int b),y9,uW,qB],c',[A0,some (.ref g),A2,some (.int k),A4,some (.ref fo),some (.ref fa),some (.ref c.length),some (.int b),some (sd s.1),some (sd s.2),qB],(c'++[Cell.lst [.tup [sd s.1,sd s.2],.tup [sd s.2,sd s.1]]]).set c.length (.lst (((gL IN ord ab).take i++[i8 s b]).map aA)),rfl,?_,some (.int k),some (.int b),some (sd s.1),some (sd s.2),rfl,ow (pre_app p1) (Nat.le_refl _),?_⟩
   ·have un:c_ 2 (aQ (av 9) (aQ (av 10) cZ)) (aA s) [A0,some (.ref g),A2,some (.int k),A4,some (.ref fo),some (.ref fa),some (.ref c.length),some (.int b),y9,uW,qB] c'=some ([A0,some (.ref g),A2,some (.int k),A4,some (.ref fo),some (.ref fa),some (.ref c.length),some (.int b),some (sd s.1),some (sd s.2),qB],c'):=rfl
    erw[ix,un,w,W3,ap,Nat.le_refl,Ju]
   ·rw[gU (bp g2),Nat.zero_add,List.take_add_one,W2]
    rfl)
  ⟨z3,z8,z9,Ki,rfl,⟨_,rfl⟩,by rw[aH];rfl⟩
 refine⟨y3,y8,y9,uW,c',(gE it).trans e1,p1,?_⟩
 rw[g1,List.take_of_length_le]
 unfold gL eA
 simp
theorem vD{IN:List S2}{ord ab:List Int}{i:Nat}{t:S2}(h:(gL IN ord ab)[i]? =some t)(ho:∀k∈ord,0≤k∧k<IN.length):∃(j:Nat) (b:Int) (s:S2),ord[i]? =some (j:Int)∧ab[i]? =some b∧IN[j]? =some s∧t=i8 s b:=by
 unfold gL at h
 rw[List.getElem?_map]at h
 obtain⟨⟨k,b⟩,hq,rfl⟩:=Option.map_eq_some_iff.mp h
 obtain⟨h1,h2⟩:=List.getElem?_zip_eq_some.mp hq
 obtain⟨k0,k1⟩:=ho k (List.mem_of_getElem? h1)
 obtain⟨s,hs⟩:∃s,IN[k.toNat]? =some s:=⟨_,List.getElem?_eq_getElem (by omega)⟩
 refine⟨k.toNat,b,s,by rw[h1];simp;omega,h2,hs,by simp[hs]⟩
theorem xD{IN:List S2}{ord ab:List Int}(h:ord.length=ab.length):(gL IN ord ab).length=ord.length:=by unfold gL;simp;omega
structure Ord(IN:List S2)(ord ab:List Int):Prop where
 perm:ord.Perm ((List.range IN.length).map fun(i:Nat)=>(i:Int))
 len:ab.length=IN.length
 ab:∀b∈ab,b=0∨b=1
theorem Ord.dQ{IN:List S2}{ord ab:List Int}(h:Ord IN ord ab):∀k∈ord,0≤k∧k<IN.length:=fun k hk=>by
 obtain⟨i,hi,rfl⟩:=List.mem_map.mp (h.perm.mem_iff.mp hk)
 have:=List.mem_range.mp hi
 omega
theorem Ord.ol{IN:List S2}{ord ab:List Int}(h:Ord IN ord ab):ord.length=IN.length:=by rw[h.perm.length_eq];simp
theorem Ord.nd{IN:List S2}{ord ab:List Int}(h:Ord IN ord ab):ord.Nodup:=by
 rw[h.perm.nodup_iff]
 exact List.Pairwise.map _ (fun a b (sI:a≠b)=>by omega) List.nodup_range
theorem Ord.all{IN:List S2}{ord ab:List Int}(h:Ord IN ord ab){j:Nat}(hj:j<IN.length):∃i:Nat,ord[i]? =some (j:Int):=List.getElem?_of_mem (h.perm.mem_iff.mpr (List.mem_map.mpr ⟨j,List.mem_range.mpr hj,rfl⟩))
theorem Ord.in1{IN:List S2}{ord ab:List Int}(h:Ord IN ord ab)(hI:∀s∈IN,kU s):∀s∈gL IN ord ab,kU s:=fun t ht=>by
 obtain⟨i,hi⟩:=List.getElem?_of_mem ht
 obtain⟨j,b,s,_,_,hs,rfl⟩:=vD hi h.dQ
 exact Cg (hI s (List.mem_of_getElem? hs)) b
theorem Ord.at_{IN:List S2}{ord ab:List Int}(h:Ord IN ord ab){i j:Nat}(hi:ord[i]? =some (j:Int)):∃s b,IN[j]? =some s∧(gL IN ord ab)[i]? =some (i8 s b):=by
 have hl:=(List.getElem?_eq_some_iff.mp hi).1
 have:i<(gL IN ord ab).length:=by rw[xD (by rw[h.ol,h.len])];exact hl
 obtain⟨j',b,s,h1,h2,h3,h4⟩:=vD (List.getElem?_eq_getElem this) h.dQ
 rw[hi]at h1
 have:j=j':=by
  have:=Option.some.inj h1
  omega
 subst this
 exact⟨s,b,h3,by rw[List.getElem?_eq_getElem (by assumption),h4]⟩
theorem Ord.fwd{IN S T:List S2}{ord ab:List Int}(h:Ord IN ord ab)(hI:∀s∈IN,kU s)(f:uV IN S)(g:uV (gL IN ord ab) T):∀t,t∈T↔t∈S:=fun t=>by
 rw[f.mem,g.mem]
 constructor
 ·rintro⟨i,_,e⟩
  obtain⟨u,hu,rfl⟩:=Option.map_eq_some_iff.mp e
  obtain⟨j,b,s,_,_,hs,rfl⟩:=vD hu h.dQ
  exact⟨j,(List.getElem?_eq_some_iff.mp hs).1,by rw[hs,xC (hI s (List.mem_of_getElem? hs))];rfl⟩
 ·rintro⟨j,hj,e⟩
  obtain⟨i,hi⟩:=h.all hj
  obtain⟨s,b,hs,ho⟩:=h.at_ hi
  rw[hs]at e
  exact⟨i,(List.getElem?_eq_some_iff.mp ho).1,by rw[ho,←e];simp[xC (hI s (List.mem_of_getElem? hs))]⟩
theorem Kj{s:S2}(h:kU s)(b:Int)(p:T3):My.ef p (i8 s b).1 (i8 s b).2=My.ef p s.1 s.2:=by
 have t:=Cg h b
 rw[←pz h.ok.o1.dE h.ok.o2.dE h.ne,←xC h b,pz t.ok.o1.dE t.ok.o2.dE t.ne]
theorem mG{IN:List S2}{z:S2}{k:Int}:k∈fq IN z↔∃i:Nat,k=(i:Int)∧nM IN z i=true:=by
 unfold fq
 rw[List.mem_map]
 constructor
 ·rintro⟨i,hi,rfl⟩
  exact⟨i,rfl,(List.mem_filter.mp hi).2⟩
 ·rintro⟨i,rfl,h⟩
  refine⟨i,List.mem_filter.mpr ⟨List.mem_range.mpr ?_,h⟩,rfl⟩
  unfold nM at h
  split at h
  ·rename_i e;exact(List.getElem?_eq_some_iff.mp e).1
  ·cases h
theorem Ord.nM{IN:List S2}{ord ab:List Int}(h:Ord IN ord ab)(hI:∀s∈IN,kU s){i j:Nat}(hi:ord[i]? =some (j:Int))(z:S2):nM (gL IN ord ab) z i=nM IN z j:=by
 obtain⟨s,b,hs,ho⟩:=h.at_ hi
 unfold dh.nM
 rw[hs,ho]
 simp only[Kj (hI s (List.mem_of_getElem? hs))]
theorem Ord.Q9{IN:List S2}{ord ab:List Int}(h:Ord IN ord ab)(hI:∀s∈IN,kU s)(z:S2):oD ((fq (gL IN ord ab) z).map fun k=>(ord[k.toNat]?).getD 0)=fq IN z:=by
 have low:∀k∈fq (gL IN ord ab) z,∃(i:Nat) (j:Nat),k=(i:Int)∧ord[i]? =some (j:Int)∧dh.nM IN z j=true:=fun k hk=>by
  obtain⟨i,rfl,hi⟩:=mG.mp hk
  obtain⟨t,ht⟩:∃t,(gL IN ord ab)[i]? =some t:=by
   unfold dh.nM at hi
   split at hi
   ·rename_i e;exact⟨_,e⟩
   ·cases hi
  obtain⟨j,_,_,hj,_⟩:=vD ht h.dQ
  exact⟨i,j,rfl,hj,by rw[←h.nM hI hj];exact hi⟩
 refine Ca ?_ (tL IN z) fun k=>?_
 ·refine List.Pairwise.map _ (R:=fun a b=>a≠b∧a∈fq (gL IN ord ab) z∧b∈fq (gL IN ord ab) z) ?_ ?_
  ·rintro a b ⟨ne,ha,hb⟩ e
   obtain⟨i,j,rfl,hi,_⟩:=low a ha
   obtain⟨i',j',rfl,Dd,_⟩:=low b hb
   simp only[Int.toNat_natCast,hi,Dd,Option.getD_some]at e
   have e':ord[i]? =ord[i']? :=by rw[hi,Dd,e]
   have l1:=(List.getElem?_eq_some_iff.mp hi).1
   have l2:=(List.getElem?_eq_some_iff.mp Dd).1
   rw[List.getElem?_eq_getElem l1,List.getElem?_eq_getElem l2]at e'
   exact ne (by rw[As h.nd l1 l2 (by simpa using e')])
  ·have:=tL (gL IN ord ab) z
   refine List.Pairwise.imp_of_mem (fun {a b} ha hb sI=>⟨?_,ha,hb⟩) this
   omega
 ·rw[List.mem_map]
  constructor
  ·rintro⟨a,ha,rfl⟩
   obtain⟨i,j,rfl,hi,ho⟩:=low a ha
   simp only[Int.toNat_natCast,hi,Option.getD_some]
   exact mG.mpr ⟨j,rfl,ho⟩
  ·intro hk
   obtain⟨j,rfl,hj⟩:=mG.mp hk
   have Gv:j<IN.length:=by
    unfold dh.nM at hj
    split at hj
    ·rename_i e;exact(List.getElem?_eq_some_iff.mp e).1
    ·cases hj
   obtain⟨i,hi⟩:=h.all Gv
   exact⟨(i:Int),mG.mpr ⟨i,rfl,by rw[h.nM hI hi];exact hj⟩,by simp[hi]⟩
noncomputable abbrev Rl:XE:=df (eE (eV 0)) [none,some 1] (av 0) dN (e2 ar (eV 1) (eV 0))
theorem UE{m fo:Nat}{ord row:List Int}{c:Cells}(hm:c[m]? =some (.lst (row.map D.int)))(hf:c[fo]? =some (.lst (ord.map D.int)))(hr:∀k∈row,0≤k∧k<ord.length)(hn:row.length≤1000):
  ∃c',Rl [some (.ref m),some (.ref fo)] c=some (.ref c.length,c')∧c <+:c'∧c'[c.length]? =some (.lst ((row.map fun k=>(ord[k.toNat]?).getD 0).map D.int)):=by
 obtain⟨vs,c1,e1,p1,g1,l1,r1⟩:=qx (te:=e2 ar (eV 1) (eV 0)) (g:=av 0) (cap:=[none,some 1]) (σ:=[some (.ref m),some (.ref fo)]) (fun τ=>∃y,τ=[y,some (.ref fo)]) (fun i v c'=>∃k,row[i]? =some k∧v= .int ((ord[k.toNat]?).getD 0)) (tD (a:=eV 0) rfl hm) (fun p hp=>by cases List.mem_singleton.mp hp;exact hm) ⟨none,rfl⟩ (fun _ _ _ _ h _=>h)
  (by
   rintro i d hd τ c' ⟨y,oC⟩ pc lc
   subst oC
   rw[List.getElem?_map]at hd
   obtain⟨k,hk,rfl⟩:=Option.map_eq_some_iff.mp hd
   obtain⟨k0,k1⟩:=hr k (List.mem_of_getElem? hk)
   have ix:ar (.ref fo) (.int k) c'=some (.int ((ord[k.toNat]?).getD 0),c'):=by
    rw[hZ,a_ (aC pc hf),Option.bind_some]
    have fB:k.toNat<ord.length:=by omega
    have:g_ (ord.map D.int) k=some (.int ((ord[k.toNat]?).getD 0)):=by
     unfold g_ wj
     rw[if_pos k0,if_pos (by simpa using k1)]
     simp[List.getElem?_eq_getElem fB]
    simp[this]
   refine⟨[some (.int k),some (.ref fo)],.int ((ord[k.toNat]?).getD 0),[],rfl,?_,⟨_,rfl⟩,k,hk,rfl⟩
   erw[ix])
  (by simp;omega)
 refine⟨c1,e1,p1,?_⟩
 rw[g1]
 congr 2
 apply List.ext_getElem?
 intro i
 rw[List.map_map,List.getElem?_map]
 rw[List.length_map]at l1
 by_cases hi:i<row.length
 ·obtain⟨k,hk,e⟩:=r1 i _ (List.getElem?_eq_getElem (by omega))
  rw[List.getElem?_eq_getElem (by omega),e,hk]
  rfl
 ·rw[List.getElem?_eq_none (by omega),List.getElem?_eq_none (by omega)]
  rfl
noncomputable abbrev W4(x y:Nat):XE:=df (eE (ao (b_ x y) [] (ae (eV 7) ag))) [none,some 5] (av 0) dN (eB lj (ae Rl ag))
theorem GC(IN:List S2)(z:S2):(fq IN z).length≤IN.length:=by
 unfold fq
 rw[List.length_map]
 refine Nat.le_trans (List.length_filter_le _ _) ?_
 simp
theorem UG{x y L fo:Nat}{IN:List S2}{ord ab:List Int}{c:Cells}{A0 A1 A2 A3 A4 A6 A8 A9 Nt qB:Option D}(hn:x≠y)(h:Ord IN ord ab)(hI:∀s∈IN,kU s)(hl:IN.length≤10)(hL:c[L]? =some (.lst ((gL IN ord ab).map aA)))(hf:c[fo]? =some (.lst (ord.map D.int))):
  ∃S w n c',W4 x y [A0,A1,A2,A3,A4,some (.ref fo),A6,some (.ref L),A8,A9,Nt,qB] c=some (.ref n,c')∧c <+:c'∧uV (gL IN ord ab) S∧Out S (gL IN ord ab) w∧∀c2,c' <+:c2→data c2 60 (.ref n)=some (.list ((keys w).map fun z=>pI (fq IN z))):=by
 have ol:(gL IN ord ab).length=IN.length:=by rw[xD (by rw[h.ol,h.len]),h.ol]
 obtain⟨S,w,n,c4,e4,p4,l4,g4,r4,Rm,f4,o4,w4⟩:=An hn hL (fun s hs=>(h.in1 hI s hs).yY) (by omega)
 have it:eE (ao (b_ x y) [] (ae (eV 7) ag)) [A0,A1,A2,A3,A4,some (.ref fo),A6,some (.ref L),A8,A9,Nt,qB] c=some (⟨(ids w).map D.ref,[(n,.lst ((ids w).map D.ref))]⟩,c4):=by
  have ev:ao (b_ x y) [] (ae (eV 7) ag) [A0,A1,A2,A3,A4,some (.ref fo),A6,some (.ref L),A8,A9,Nt,qB] c=some (.ref n,c4):=by erw[e4]
  unfold eE
  rw[ev,Option.bind_some]
  dsimp only
  rw[g4,a_ g4]
  rfl
 have Kk:=aC p4 hf
 obtain⟨vs,c1,e1,p1,g1,l1,r1⟩:=qx (te:=eB lj (ae Rl ag)) (g:=av 0) (cap:=[none,some 5]) (fun τ=>∃y,τ=[y,some (.ref fo)])
  (fun i v c'=>∃r z,v= .ref r∧r≠c4.length∧(keys w)[i]? =some z∧c'[r]? =some (.lst ((fq IN z).map D.int))) it (fun p hp=>by cases List.mem_singleton.mp hp;exact g4) ⟨none,rfl⟩
  (by
   rintro i v u1 u2 ⟨r,z,h1,h2,h3,h4⟩ fr
   exact⟨r,z,h1,h2,h3,fr r _ h2 h4⟩)
  (by
   rintro i d hd τ c' ⟨y,oC⟩ pc lc
   subst oC
   rw[List.getElem?_map]at hd
   obtain⟨m,hm,rfl⟩:=Option.map_eq_some_iff.mp hd
   unfold ids at hm
   rw[List.getElem?_map]at hm
   obtain⟨k,hk,rfl⟩:=Option.map_eq_some_iff.mp hm
   have hr:=(r4 k (List.mem_of_getElem? hk)).2.2
   have dl:=GC (gL IN ord ab) k.1
   obtain⟨c2,f1,f2,f3⟩:=UE (m:=k.2.1) (fo:=fo) (ord:=ord) (row:=fq (gL IN ord ab) k.1) (aC pc hr) (aC pc Kk) (fun q hq=>by
    obtain⟨j,rfl,hj⟩:=mG.mp hq
    have Gv:j<(gL IN ord ab).length:=by
     unfold dh.nM at hj
     split at hj
     ·rename_i e;exact(List.getElem?_eq_some_iff.mp e).1
     ·cases hj
    have:=h.ol
    omega) (by omega)
   have so:=JU f3 (by rw[List.length_map];omega)
   rw[h.Q9 hI]at so
   obtain⟨ws,rfl⟩:=f2
   refine⟨[some (.ref k.2.1),some (.ref fo)],.ref (c'++ws).length,ws++[.lst ((fq IN k.1).map D.int)],rfl,?_,⟨_,rfl⟩,(c'++ws).length,k.1,rfl,by simp;omega,by unfold keys;rw[List.getElem?_map,hk];rfl,by rw[←List.append_assoc];exact aH⟩
   rw[←List.append_assoc]
   erw[f1,so])
  (by simp[ids];omega)
 have ll:vs.length=(keys w).length:=by rw[l1];simp[ids,keys]
 refine⟨S,w,c4.length,c1,e1,p4.trans p1,f4,o4,fun c2 p2=>?_⟩
 rw[ke (aC p2 g1),xx vs ((keys w).map fun z=>pI (fq IN z)) (by rw[ll];simp) fun i v q hv hq=>?_]
 ·rfl
 ·obtain⟨r,z,rfl,_,hz,hr⟩:=r1 i v hv
  rw[List.getElem?_map,hz]at hq
  cases hq
  exact qA (aC p2 hr)
noncomputable abbrev UH:XE:=df (eu (ae (eB bS (ae (eV 2) ag)) ag)) [none] (av 0) dN (fH (ae (eV 0) ag))
theorem UI{f:Nat}{zs:List S2}{c:Cells}{A0 A1:Option D}{R:List (Option D)}(hf:c[f]? =some (.lst (zs.map aA)))(hn:zs.length≤1000):
  ∃n c',UH (A0::A1::some (.ref f)::R) c=some (.ref n,c')∧c <+:c'∧data c' 60 (.ref n)=some (.list ((List.range zs.length).map fun(k:Nat)=>pI [(k:Int)])):=by
 have le:=jN hf
 have it:eu (ae (eB bS (ae (eV 2) ag)) ag) (A0::A1::some (.ref f)::R) c=some (⟨Qm.dQ 0 zs.length,[]⟩,c):=by
  have:=oZ (a:=ae (eB bS (ae (eV 2) ag)) ag) (σ:=A0::A1::some (.ref f)::R) (c:=c) (c':=c) (j:=(zs.length:Int)) (by erw[le]) (by omega)
  exact this
 obtain⟨vs,c1,e1,p1,g1,l1,r1⟩:=qx (te:=fH (ae (eV 0) ag)) (g:=av 0) (cap:=[none]) (fun τ=>∃y,τ=[y])
  (fun i v c'=>∃r,v= .ref r∧r≠c.length∧c'[r]? =some (.lst ([(i:Int)].map D.int))) it (fun p hp=>nomatch hp) ⟨none,rfl⟩
  (by
   rintro i v u1 u2 ⟨r,h1,h2,h3⟩ fr
   exact⟨r,h1,h2,fr r _ h2 h3⟩)
  (by
   rintro i d hd τ c' ⟨y,oC⟩ pc lc
   subst oC
   have CF:d= .int (i:Int):=by
    unfold Qm.dQ at hd
    rw[List.getElem?_map]at hd
    obtain⟨j,hj,rfl⟩:=Option.map_eq_some_iff.mp hd
    have:=List.getElem?_eq_some_iff.mp hj
    obtain⟨h1,h2⟩:=this
    simp at h2
    rw[h2];simp
   subst CF
   refine⟨[some (.int (i:Int))],.ref c'.length,[.lst [.int (i:Int)]],rfl,?_,⟨_,rfl⟩,c'.length,rfl,by omega,aH⟩
   erw[])
  (by simp[Qm.dQ];omega)
 have ll:vs.length=zs.length:=by rw[l1];simp[Qm.dQ]
 refine⟨c.length,c1,e1,p1,?_⟩
 rw[ke g1,xx vs ((List.range zs.length).map fun(k:Nat)=>pI [(k:Int)]) (by rw[ll];simp) fun i v q hv hq=>?_]
 ·rfl
 ·obtain⟨r,rfl,_,hr⟩:=r1 i v hv
  have hi:=(List.getElem?_eq_some_iff.mp hv).1
  rw[List.getElem?_map,List.getElem?_range (by omega)]at hq
  cases hq
  exact qA hr
open Classical in
theorem Nu{x y:D}{c:Cells}{p q:PyData}(hx:data c 60 x=some p)(hy:data c 60 y=some q)(h:p=q):wJ x y c=some (.bl true,c)∧Bu x y c=some (.bl false,c):=by
 subst h
 unfold wJ Bu Bt
 rw[hx,hy]
 simp
noncomputable def Kl(x y:Nat):XS:=aS (LW (e2 mh (eB bS (ae (eV 2) ag)) (eC (.int 25))) (qX (e2 wJ (ao (i6 x y) [] (ae (eV 2) ag)) (eV 2)) (e2 wJ (ao (b_ x y) [] (ae (eV 2) ag)) UH)))
theorem UJ{x y f:Nat}{IN S:List S2}{w:KV}{c:Cells}{A0 A1:Option D}{R:List (Option D)}(hn:x≠y)(hI:∀s∈IN,kU s)(fw:uV IN S)(o:Out S IN w)(hf:c[f]? =some (.lst ((keys w).map aA)))(hw:w.length≤1000000):
  ∃c',Kl x y (A0::A1::some (.ref f)::R) c=some (.rt (.bl true),A0::A1::some (.ref f)::R,c'):=by
 have le:=jN hf
 have hS:=fw.uU hI
 have Am:∀t∈S,My.Sd t:=fun t ht=>(hS t ht).2
 by_cases g:(keys w).length > 25
 ·have g':decide ((25:Int)<((keys w).length:Int))=true:=decide_eq_true (by omega)
  refine⟨c,?_⟩
  rw[Kl]
  erw[le,g']
 ·have g':decide ((25:Int)<((keys w).length:Int))=false:=decide_eq_false (by omega)
  have hz:∀z∈keys w,rZ z:=fun z hz=>by
   obtain⟨s,hs,k⟩:=(o.key z).mp hz
   exact k.yY hS hs
  have UK:∀z∈keys w,gJ z=z:=fun z hz=>by
   obtain⟨s,hs,k⟩:=(o.key z).mp hz
   exact Ka k.lt
  have Av:∀{T:List S2},uV (keys w) T→∀t,t∈T↔t∈keys w:=fun {T} f t=>by
   rw[f.mem]
   constructor
   ·rintro⟨k,hk,e⟩
    rw[List.getElem?_eq_getElem hk]at e
    have e:gJ (keys w)[k]=t:=Option.some.inj e
    rw[UK _ (List.getElem_mem hk)]at e
    rw[←e];exact List.getElem_mem hk
   ·intro ht
    obtain⟨k,hk⟩:=List.getElem?_of_mem ht
    exact⟨k,(List.getElem?_eq_some_iff.mp hk).1,by rw[hk];exact congrArg some (UK t ht)⟩
  have Km:∀{T:List S2}{v:KV},uV (keys w) T→Out T (keys w) v→keys v=keys w:=fun {T v} f a=>by
   refine lH Cc _ _ (oE a.xq a.nd a.ok) (oE o.xq o.nd o.ok) fun z=>?_
   rw[a.key]
   constructor
   ·rintro⟨s,hs,k⟩
    have Bk:=(Av f s).mp hs
    have:=(xy Am o.key Bk).mp ((pB (Av f) s z).mp k)
    rw[this];exact Bk
   ·intro hz
    exact⟨z,(Av f z).mpr hz,(pB (Av f) z z).mpr ((xy Am o.key hz).mpr rfl)⟩
  obtain⟨T,v,n3,c4,e3,p4,l3,g3,f3,o3,w3⟩:=xr hn hf hz (by omega)
  have k3:=Km f3 o3
  rw[k3]at g3
  have Kk:=aC p4 hf
  have q1:=(Nu (c:=c4) (lI (k:=56) g3) (lI (k:=56) Kk) rfl).1
  obtain⟨T',v',n4,c5,e4,p5,l4,g4,r4,Rm,f4,o4,w4⟩:=An hn Kk hz (by omega)
  have k4:=Km f4 o4
  obtain⟨n5,c6,e5,p6,d6⟩:=UI (A0:=A0) (A1:=A1) (R:=R) (aC p5 Kk) (by omega)
  have rf:∀m∈ids v',c5[m]? =some (.lst ((rowOf (keys w) v' m).map D.int)):=fun m hm=>by
   obtain⟨u,hu,rfl⟩:=List.mem_map.mp hm
   show c5[u.2.1]? =some (.lst ((rowOf (keys w) v' u.2.1).map D.int))
   rw[vC Rm u hu]
   exact(r4 u hu).2.2
  have d4:data c6 60 (.ref n4)=some (.list ((List.range (keys w).length).map fun(k:Nat)=>pI [(k:Int)])):=by
   rw[xw (k:=57) (f:=rowOf (keys w) v') (aC p6 g4) fun m hm=>aC p6 (rf m hm)]
   congr 2
   have:=congrArg (List.map pI) (yV (IN:=keys w) Rm)
   rw[List.map_map]at this
   rw[show((ids v').map fun m=>pI (rowOf (keys w) v' m))=(ids v').map (pI ∘ rowOf (keys w) v')from rfl,this,k4]
   apply List.ext_getElem?
   intro i
   rw[List.map_map,List.getElem?_map,List.getElem?_map]
   by_cases hi:i<(keys w).length
   ·rw[List.getElem?_range hi,List.getElem?_eq_getElem hi]
    simp only[Option.map_some,Function.comp]
    rw[D6 Am o.key o.nd (List.getElem?_eq_getElem hi)]
   ·rw[List.getElem?_eq_none (by omega),List.getElem?_eq_none (by simpa using hi)]
    rfl
  have q2:=(Nu d4 d6 rfl).1
  refine⟨c6,?_⟩
  rw[Kl]
  erw[le,g',e3,q1,e4,e5,q2]
theorem GD(x y:Nat)(hn:x≠y)(ns:List Int)(h:ns.length≤63):∃c,w6 x y [.ref 0] [.ro (ns.map Qm.D.int)]=some (.bl true,c):=by
 have h0:([Cell.ro (ns.map D.int)]:Cells)[0]? =some (.ro (ns.map D.int)):=rfl
 obtain⟨IN,c1,e1,p1,g1,hI,hl⟩:=Nl (s:=0) h0
 have g1:c1[1]? =some (.lst (IN.map aA)):=g1
 obtain⟨S,w,n2,c2,kj,p2,l2,g2,f2,o2,w2⟩:=xr hn g1 (fun s hs=>(hI s hs).yY) (by omega)
 have hS:=f2.uU hI
 have Am:∀t∈S,My.Sd t:=fun t ht=>(hS t ht).2
 obtain⟨c3,e3,p3⟩:=Ao o2.WT g2 (by simp[keys];omega)
 have UL:=aC p3 g2
 obtain⟨y3,y4,c4,e4,p4⟩:=Nn (A0:=some (.ref 0)) (A1:=some (.ref 1)) (z3:=none) (z4:=none) (R:=[none,none,none,none,none,none,none]) UL (by simp[keys];omega) o2.ok (fun k z hz t ht=>by
  obtain⟨s,hs,ks⟩:=(o2.key z).mp (List.mem_of_getElem? hz)
  obtain⟨r,hr,kr⟩:=(o2.key t).mp (List.mem_of_mem_take ht)
  refine Kc Am hr hs kr ks fun e=>?_
  obtain⟨i,hi⟩:=List.getElem?_of_mem ht
  have fB:=(List.getElem?_eq_some_iff.mp hi).1
  rw[List.length_take]at fB
  rw[List.getElem?_take_of_lt (by omega)]at hi
  have h1:=List.getElem?_eq_some_iff.mp hi
  have h2:=List.getElem?_eq_some_iff.mp hz
  have:=As o2.nd h1.1 h2.1 (by rw[h1.2,h2.2,e])
  omega)
 have W5: [Cell.ro (ns.map D.int)] <+:c4:=p1.trans (p2.trans (p3.trans p4))
 have Rn:=aC p4 (aC p3 (aC p2 g1))
 have W6:=aC p4 UL
 have W7:=jN Rn
 obtain⟨fo,fa,c5,ord,ab,e5,p5,g5,W8,pm,ll,hb⟩:=Nm (n:=IN.length) (aC W5 h0) hl
 have od:Ord IN ord ab:=⟨pm,ll,hb⟩
 have ol:=od.ol
 obtain⟨u3,y8,y9,uW,c6,e6,p6,g6⟩:=Np (A0:=some (.ref 0)) (A2:=some (.ref n2)) (z3:=y3) (A4:=y4) (z8:=none) (z9:=none) (Ki:=none) (qB:=none) (aC p5 Rn) g5 W8 od.dQ hb (by omega)
 have Yr:(gL IN ord ab).length=IN.length:=by rw[xD (by rw[od.ol,od.len]),od.ol]
 obtain⟨S',w',n7,c7,e7,p7,l7,g7,f7,o7,w7⟩:=xr hn g6 (fun s hs=>(od.in1 hI s hs).yY) (by omega)
 have kk:keys w'=keys w:=tM (od.fwd hI f2 f7) o7 o2
 have UM:=aC p7 (aC p6 (aC p5 W6))
 have W9:=aC p7 (aC p6 (aC p5 Rn))
 rw[kk]at g7
 have nw:=(Nu (c:=c7) (lI (k:=56) g7) (lI (k:=56) UM) rfl).2
 obtain⟨S8,w8,n8,c8,e8,p8,f8,o8,d8⟩:=UG (x:=x) (y:=y) (A0:=some (.ref 0)) (A1:=some (.ref 1)) (A2:=some (.ref n2)) (A3:=u3) (A4:=y4) (A6:=some (.ref fa)) (A8:=y8) (A9:=y9) (Nt:=uW) (qB:=none) hn od hI hl (aC p7 g6) (aC p7 (aC p6 g5))
 have k8:keys w8=keys w:=tM (od.fwd hI f2 f8) o8 o2
 obtain⟨S9,w9,n9,c9,e9,p9,l9,g9,r9,UN,f9,o9,Y3⟩:=An hn (aC p8 W9) (fun s hs=>(hI s hs).yY) (by omega)
 have k9:keys w9=keys w:=tM (fun t=>(f9.mem t).trans (f2.mem t).symm) o9 o2
 have rf:∀m∈ids w9,c9[m]? =some (.lst ((rowOf IN w9 m).map D.int)):=fun m hm=>by
  obtain⟨u,hu,rfl⟩:=List.mem_map.mp hm
  show c9[u.2.1]? =some (.lst ((rowOf IN w9 u.2.1).map D.int))
  rw[vC UN u hu]
  exact(r9 u hu).2.2
 have d9:data c9 60 (.ref n9)=some (.list ((keys w).map fun z=>pI (fq IN z))):=by
  rw[xw (k:=57) (f:=rowOf IN w9) g9 rf]
  congr 2
  have:=congrArg (List.map pI) (yV (IN:=IN) UN)
  rw[List.map_map]at this
  rw[show((ids w9).map fun m=>pI (rowOf IN w9 m))=(ids w9).map (pI ∘ rowOf IN w9)from rfl,this,k9,List.map_map]
  rfl
 rw[k8]at d8
 have W_:=(Nu (d8 c9 p9) d9 rfl).2
 obtain⟨Xa,Xb⟩:=UJ (A0:=some (.ref 0)) (A1:=some (.ref 1)) (R:=[u3,y4,some (.ref fo),some (.ref fa),some (.ref c5.length),y8,y9,uW,some (.ref n8)]) hn hI f2 o2 (aC p9 (aC p8 UM)) w2
 have s1:∀{a b:XS}{σ σ':Qm.Env}{c c':Cells},a σ c=some (.nx,σ',c')→ay a b σ c=b σ' c':=fun {a b σ σ' c c'} h=>by
  unfold ay
  rw[h]
  rfl
 have t1:∀{σ:Qm.Env}{c:Cells}{k:Nat}{e:XE}{v:D}{c':Cells},e σ c=some (v,c')→aR k e σ c=some (.nx,σ.set k (some v),c'):=fun {σ c k e v c'} h=>by
  unfold aR
  rw[h]
  rfl
 have i1:∀{σ:Qm.Env}{c:Cells}{t:XT}{a:XS}{c':Cells},t σ c=some (false,c')→cG t a bF σ c=some (.nx,σ,c'):=fun {σ c t a c'} h=>by
  unfold cG
  rw[h]
  rfl
 have a1:∀{σ σ':Qm.Env}{c:Cells}{e:XE}{g:XG}{v:D}{c':Cells},e σ c=some (v,c')→g v σ c'=some (σ',c')→mf e g σ c=some (.nx,σ',c'):=fun {σ σ' c e g v c'} h k=>by
  unfold mf
  rw[h,Option.bind_some]
  dsimp only
  rw[k]
  rfl
 have big:tw x y [some (.ref 0),none,none,none,none,none,none,none,none,none,none,none] [.ro (ns.map Qm.D.int)]=some (.rt (.bl true),[some (.ref 0),some (.ref 1),some (.ref n2),u3,y4,some (.ref fo),some (.ref fa),some (.ref c5.length),y8,y9,uW,some (.ref n8)],Xa):=by
  rw[tw]
  rw[s1 (t1 (v:=.ref 1) (c':=c1) (by erw[e1]))]
  rw[s1 (t1 (v:=.ref n2) (c':=c2) (by erw[kj]))]
  rw[s1 (i1 (c':=c3) (by erw[e3]))]
  refine(s1 e4).trans ?_
  rw[s1 (a1 (v:=.tup [.ref fo,.ref fa]) (c':=c5) (σ':=[some (.ref 0),some (.ref 1),some (.ref n2),y3,y4,some (.ref fo),some (.ref fa),none,none,none,none,none]) (by erw[W7,e5]) rfl)]
  rw[s1 (t1 (v:=.ref c5.length) (c':=c5++[.lst []]) (by erw[Nat.zero_le]))]
  refine(s1 e6).trans ?_
  rw[s1 (i1 (c':=c7) (by erw[e7,nw]))]
  refine(s1 (t1 (v:=.ref n8) (c':=c8) e8)).trans ?_
  rw[s1 (i1 (c':=c9) (by erw[e9,W_]))]
  exact Xb
 rw[w6]
 unfold dW
 rw[if_pos (show [D.ref 0].length=1 from rfl)]
 show ∃c,(tw x y [some (.ref 0),none,none,none,none,none,none,none,none,none,none,none] _).bind _=_
 rw[big]
 exact⟨_,rfl⟩
end dh
set_option maxHeartbeats 4000000
namespace dh
open PySem L2
open PyProof.Rows
local macro_rules|`(tactic|walk_at "sc")=>`(tactic|exact⟨rfl,rfl,rfl,by decide +kernel,rfl,by decide +kernel,by decide +kernel⟩)
def top(i:Nat):Stmt:=PySem.Challenge.pw_sheetlay_k33_whole_pieces.main.body.getD i (.Pass ⟨0,0,0,0⟩)
set_option genInjectivity false in
structure UO where
 xE:Addr
 xF:FuncData
 E8:Addr
 E9:FuncData
 uo:Addr
 uq:FuncData
 cR:Addr
 Ci:FuncData
 xG:Addr
 xH:FuncData
 E_:Addr
 Fb:FuncData
 Fc:Addr
 Fd:FuncData
 bo:Addr
 pY:FuncData
 yZ:Addr
 y7:FuncData
 nG:Addr
 nH:FuncData
 ur:Addr
 uu:FuncData
 xI:Addr
 xJ:FuncData
 xK:Addr
 xM:FuncData
 uv:Addr
 uw:FuncData
 mH:Addr
 mI:FuncData
 uz:Addr
 uA:FuncData
 y_:Addr
 zd:FuncData
 Cj:Addr
 Ck:FuncData
 pZ:Addr
 p_:FuncData
 kH:Addr
 kI:FuncData
 Kn:Addr
 Ko:FuncData
 ze:Addr
 zf:FuncData
 oF:Addr
 oG:FuncData
 uB:Addr
 uC:FuncData
 sh:Addr
 si:FuncData
 uD:Addr
 uE:FuncData
 qa:Addr
 qb:FuncData
 uF:Addr
 uG:FuncData
 uH:Addr
 uI:FuncData
 sj:Addr
 sk:FuncData
 uJ:Addr
 uK:FuncData
 qc:Addr
 qd:FuncData
 zg:Addr
 zh:FuncData
 oH:Addr
 oI:FuncData
 lJ:Addr
 lK:FuncData
 oJ:Addr
 oK:FuncData
 sr:Addr
 su:FuncData
 Kp:Addr
 Aw:FuncData
structure FD(K:PySem.W.Frag)(mg:Str→Option Value)(x:Str)(i:Nat)(ps:List Str)(f:Addr)(d:FuncData):Prop where
 F:Bc K x x (top i) f d
 m:mg x=some (.ref f)
 b:Binds K d ps []
structure FE(K:PySem.W.Frag)(mg:Str→Option Value)(x:Str)(i:Nat)(ps:List Str)(f:Addr)(d:FuncData):Prop where
 F:yj K x x (top i) f d
 m:mg x=some (.ref f)
 b:Binds K d ps []
structure Txt(K:PySem.W.Frag)(mg:Str→Option Value)(t:UO):Prop where
 hU:FD K mg "divisor" 1 ["n","m"] t.xE t.xF
 vE:FE K mg "spot" 3 ["x","y","w"] t.E8 t.E9
 lL:FD K mg "is_below" 4 ["p","q"] t.uo t.uq
 bD:FD K mg "ahead" 5 ["p","q"] t.cR t.Ci
 cU:FD K mg "crossed" 6 ["p","q"] t.xG t.xH
 vF:FD K mg "sign" 7 ["n"] t.E_ t.Fb
 nq:FD K mg "turn" 8 ["a","b","c"] t.Fc t.Fd
 gM:FD K mg "loop_ahead" 21 ["one","other"] t.bo t.pY
 pD:FD K mg "merged" 9 ["left","right","first"] t.yZ t.y7
 gY:FD K mg "merged_pairs" 10 ["runs","first"] t.nG t.nH
 dF:FD K mg "in_order" 11 ["some","first"] t.ur t.uu
 cV:FD K mg "forward" 13 ["side"] t.xI t.xJ
 nt:FD K mg "on_side" 14 ["p","side"] t.xK t.xM
 fZ:FD K mg "turns_to" 15 ["side","other"] t.uv t.uw
 gv:FD K mg "common_in_row" 16 ["one","other"] t.mH t.mI
 lM:FD K mg "crossing" 17 ["one","other"] t.uz t.uA
 pE:FD K mg "common" 18 ["one","other"] t.y_ t.zd
 sv:FD K mg "along" 19 ["side","some"] t.Cj t.Ck
 jh:FD K mg "corners_on" 23 ["sides"] t.pZ t.p_
 eW:FD K mg "numbers_by_side" 24 ["sides"] t.kH t.kI
 qC:FD K mg "cut" 25 ["sides"] t.Kn t.Ko
 fA:FD K mg "pieces" 26 ["sides"] t.ze t.zf
 cg:FD K mg "piece_paper" 27 ["sides"] t.oF t.oG
 f_:FD K mg "_law_cell" 29 ["_law_script","_law_k"] t.uB t.uC
 aw:FD K mg "_law_digit" 30 ["_law_pool_here","_law_many"] t.sh t.si
 gc:FD K mg "_law_pool" 31 ["_law_script","_law_cell_here","_law_k"] t.uD t.uE
 cF:FD K mg "_law_lowest" 32 ["_law_x","_law_y","_law_w"] t.qa t.qb
 gd:FD K mg "_law_spot" 33 ["_law_pool_here","_law_known"] t.uF t.uG
 lN:FD K mg "_law_side" 34 ["_law_pool_here","_law_known"] t.uH t.uI
 j4:FD K mg "_law_sides" 35 ["_law_script","_law_first","_law_last"] t.sj t.sk
 bT:FD K mg "_law_turn" 36 ["_law_a","_law_b","_law_c"] t.uJ t.uK
 aJ:FD K mg "_law_before" 37 ["_law_p","_law_q"] t.qc t.qd
 i9:FD K mg "_law_on" 38 ["_law_p","_law_side_here"] t.zg t.zh
 dI:FD K mg "_law_is_spot" 39 ["_law_p"] t.oH t.oI
 fM:FD K mg "_law_are_pieces" 40 ["_law_found"] t.lJ t.lK
 iF:FD K mg "_law_at_odds" 41 ["_law_one","_law_other"] t.oJ t.oK
 j5:FD K mg "_law_order" 42 ["_law_script","_law_many"] t.sr t.su
 Kr:FD K mg "law" 43 ["_law_script"] t.Kp t.Aw
 qD:mg "abs" =none
 Ro:mg "all" =none
 Rp:mg "any" =none
 Nv:mg "bool" =none
 Nw:mg "dict" =none
 sA:mg "enumerate" =none
 Ks:mg "int" =none
 gN:mg "isinstance" =none
 eX:mg "len" =none
 j6:mg "list" =none
 Rq:mg "max" =none
 jB:mg "range" =none
 zi:mg "sorted" =none
 Cm:mg "tuple" =none
 xN:mg "zip" =none
section
open L2.Zu
variable{P:Program}{w:World}{K:PySem.W.Frag}{mg:Str→Option Value}{base:Heap}{t:UO}
theorem lO:aL ["n","m","rest"] ["n","m"] (au (top 1)):=by walk_at "sc"
theorem uL(T:Txt K mg t):bH P w K mg base cW 1 t.xE t.xF ["n","m"] (dq K kB):=by
 refine T.hU.F.eO (n:=2) (m:=3) (B:=m_) lO rfl rfl (by decide) rfl fun bz A outer s H E hr=>?_
 unfold m_
 exact(ak (j9 PassesOwn.never (br (m6 hr.units) wy (qv 1) ai (aZ _)) (ak (aP (i:=2) lO.nd rfl (Or.inl rfl) (aB il jR (qv 0) (qv 1)))
   (ak (aP (i:=0) lO.nd rfl (Or.inl rfl) (qv 1))
   (aq (aP (i:=1) lO.nd rfl (Or.inl rfl) (qv 2))))))
   (aq (aD (aV iP mV (by rfl) T.qD mQ (af (qv 0) aj)))))
theorem xO:aL ["x","y","w","shared"] ["x","y","w"] (au (top 3)):=by walk_at "sc"
theorem Kt(T:Txt K mg t):bH P w K mg base cW 2 t.E8 t.E9 ["x","y","w"] (dq K rM):=by
 refine T.vE.F.eO (n:=3) (m:=4) (B:=rL) xO rfl rfl (by decide) rfl fun bz A outer s H E hr=>?_
 unfold rL
 exact(ak (aP (i:=3) xO.nd rfl (Or.inl rfl) (bC (uL T) T.hU.m T.hU.F.kp T.hU.b (hr.mono (by decide)) (af (bC (uL T) T.hU.m T.hU.F.kp T.hU.b (hr.mono (by decide)) (af (qv 0) (af (qv 2) aj))) (af (qv 1) aj))))
   (ak (bV (br qi qp (qv 2) ai (aZ _)) (aq (aP (i:=3) xO.nd rfl (Or.inl rfl) (vi (qv 3)))) bc)
   (aq (aD (dZ (af (aB iQ ko (qv 0) (qv 3)) (af (aB iQ ko (qv 1) (qv 3)) (af (aB iQ ko (qv 2) (qv 3)) aj))))))))
theorem Ax:aL ["p","q"] ["p","q"] (au (top 4)):=by walk_at "sc"
theorem Ay(T:Txt K mg t):bH P w K mg base cW 1 t.uo t.uq ["p","q"] (dq K ly):=by
 refine T.lL.F.eO (n:=2) (m:=2) (B:=lr) Ax rfl rfl (by decide) rfl fun bz A outer s H E hr=>?_
 unfold lr
 exact(aq (aD (i_ qi qp (aB aI aX (aO 0 ai) (aO 1 ai)) (aB aI aX (aO 1 ai) (aO 0 ai)) (aZ _))))
theorem tN:aL ["p","q","one","other"] ["p","q"] (au (top 5)):=by walk_at "sc"
theorem gw(T:Txt K mg t):bH P w K mg base cW 2 t.cR t.Ci ["p","q"] (dq K b9):=by
 refine T.bD.F.eO (n:=2) (m:=4) (B:=ou) tN rfl rfl (by decide) rfl fun bz A outer s H E hr=>?_
 unfold ou
 exact(ak (aP (i:=2) tN.nd rfl (Or.inl rfl) (aB aI aX (aO 0 ai) (aO 1 ai)))
   (ak (aP (i:=3) tN.nd rfl (Or.inl rfl) (aB aI aX (aO 1 ai) (aO 0 ai)))
   (ak (bV (br (et hr.units) iz (qv 2) (qv 3) (aZ _)) (aq (aD (bC (Ay T) T.lL.m T.lL.F.kp T.lL.b (hr.mono (by decide)) (af (qv 0) (af (qv 1) aj))))) bc)
   (aq (aD (i_ qi qp (qv 2) (qv 3) (aZ _)))))))
theorem Cn:aL ["p","q"] ["p","q"] (au (top 6)):=by walk_at "sc"
theorem lP(T:Txt K mg t):bH P w K mg base cW 1 t.xG t.xH ["p","q"] (dq K eQ):=by
 refine T.cU.F.eO (n:=2) (m:=2) (B:=kC) Cn rfl rfl (by decide) rfl fun bz A outer s H E hr=>?_
 unfold kC
 exact(aq (aD (dZ (af (aB gP gR (aB aI aX (aO 0 ai) (aO 1 ai)) (aB aI aX (aO 0 ai) (aO 1 ai))) (af (aB gP gR (aB aI aX (aO 0 ai) (aO 1 ai)) (aB aI aX (aO 0 ai) (aO 1 ai))) (af (aB gP gR (aB aI aX (aO 0 ai) (aO 1 ai)) (aB aI aX (aO 0 ai) (aO 1 ai))) aj))))))
theorem Ku:aL ["n"] ["n"] (au (top 7)):=by walk_at "sc"
theorem Kv(T:Txt K mg t):bH P w K mg base cW 1 t.E_ t.Fb ["n"] (dq K o_):=by
 refine T.vF.F.eO (n:=1) (m:=1) (B:=o6) Ku rfl rfl (by decide) rfl fun bz A outer s H E hr=>?_
 unfold o6
 exact(ak (bV (br kh ku (qv 0) ai (aZ _)) (aq (aD ai)) bc)
   (ak (bV (br qi qp (qv 0) ai (aZ _)) (aq (aD (vi ai))) bc)
   (aq (aD ai))))
theorem Co:aL ["a","b","c","row"] ["a","b","c"] (au (top 8)):=by walk_at "sc"
theorem Cp(T:Txt K mg t):bH P w K mg base cW 2 t.Fc t.Fd ["a","b","c"] (dq K ng):=by
 refine T.nq.F.eO (n:=3) (m:=4) (B:=vx) Co rfl rfl (by decide) rfl fun bz A outer s H E hr=>?_
 unfold vx
 exact(ak (aP (i:=3) Co.nd rfl (Or.inl rfl) (bC (lP T) T.cU.m T.cU.F.kp T.cU.b (hr.mono (by decide)) (af (qv 0) (af (qv 1) aj))))
   (aq (aD (bC (Kv T) T.vF.m T.vF.F.kp T.vF.b (hr.mono (by decide)) (af (aB dg dY (aB dg dY (aB aI aX (aO 3 ai) (aO 2 ai)) (aB aI aX (aO 3 ai) (aO 2 ai))) (aB aI aX (aO 3 ai) (aO 2 ai))) aj)))))
theorem kJ:aL ["one","other","p","q"] ["one","other"] (au (top 21)):=by walk_at "sc"
theorem xP(T:Txt K mg t):bH P w K mg base cW 3 t.bo t.pY ["one","other"] (dq K fy):=by
 refine T.gM.F.eO (n:=2) (m:=4) (B:=jc) kJ rfl rfl (by decide) rfl fun bz A outer s H E hr=>?_
 unfold jc
 exact(ak (er PassesOwn.never rfl (Mg (by rfl) T.xN (af (qv 0) (af (qv 1) aj))) (iw rfl (bM (aT (i:=2) kJ.nd rfl (Or.inl rfl)) (bM (aT (i:=3) kJ.nd rfl (Or.inl rfl)) fV))) (aq (bV (br (m6 hr.units) wy (qv 2) (qv 3) (aZ _)) (aq (aD (bC (gw T) T.bD.m T.bD.F.kp T.bD.b (hr.mono (by decide)) (af (qv 2) (af (qv 3) aj))))) bc)))
   (aq (aD fS)))
theorem kK:aL ["left","right","first","row","k","thing"] ["left","right","first"] (au (top 9)):=by walk_at "sc"
theorem D7(T:Txt K mg t):bH P w K mg base cW 4 t.yZ t.y7 ["left","right","first"] (dq K (mC t.cR t.bo)):=by
 refine T.pD.F.eO (n:=3) (m:=6) (B:=(pb t.cR t.bo)) kK rfl rfl (by decide) rfl fun bz A outer s H E hr=>?_
 unfold pb
 exact(ak (aP (i:=3) kK.nd rfl (Or.inl rfl) (eL aj))
   (ak (aP (i:=4) kK.nd rfl (Or.inl rfl) ai)
   (ak (er PassesOwn.never rfl (iy (qv 1)) (aT (i:=5) kK.nd rfl (Or.inl rfl)) (ak (j9 PassesOwn.never (PW.pt (oS (br qi qp (qv 4) (aV bh dC (by rfl) T.eX dB (af (qv 0) aj)) (aZ _)) (mn (jS (cP (FY _ (yy (gw T) (hr.mono (by decide)) T.bD.F.kp T.bD.b (yy (xP T) (hr.mono (by decide)) T.gM.F.kp T.gM.b Ja)) (qv 2) (af (qv 5) (af (cA (qv 0) (qv 4) (fun _ _=>rfl)) aj)))))))) (ak (fU (nE PySem.F.slot_list_append PySem.F.type_list_append fQ hC (qv 3) (af (cA (qv 0) (qv 4) (fun _ _=>rfl)) aj)))
   (aq (aP (i:=4) kK.nd rfl (Or.inl rfl) (aB dg dY (qv 4) ai)))))
   (aq (fU (nE PySem.F.slot_list_append PySem.F.type_list_append fQ hC (qv 3) (af (qv 5) aj))))))
   (ak (fU (nE PySem.F.slot_list_extend PySem.F.type_list_extend vW wo (qv 3) (af (iS (qv 0) (jn (qv 4)) mq) aj)))
   (aq (aD (qv 3)))))))
theorem mJ:aL ["runs","first","pairs"] ["runs","first"] (au (top 10)):=by walk_at "sc"
theorem tO(T:Txt K mg t):bH P w K mg base cW 5 t.nG t.nH ["runs","first"] (dq K (dP t.cR t.bo)):=by
 refine T.gY.F.eO (n:=2) (m:=3) (B:=(fm t.cR t.bo)) mJ rfl rfl (by decide) rfl fun bz A outer s H E hr=>?_
 unfold fm
 exact(ak (rC (i:=2) (N':=["k","first","runs"]) (cap:=[none,some 1,some 0]) (ir (sc:=au (top 10)) (NN:=["runs","first","pairs"]) rfl rfl rfl (by decide +kernel) (by decide +kernel) (by decide +kernel) (by decide +kernel)) rfl (Ds (by rfl) T.jB (af ai (af (aB gP gR (aV bh dC (by rfl) T.eX dB (af (qv 0) aj)) ai) (af ai aj)))) (fun _ _ _ _=>(aT (i:=0) (show List.Nodup (["k","first","runs"]:List Str)by decide +kernel) rfl (Or.inl rfl))) (fun _ _ _ _=>dH) (fun _ _ _ _=>(bC (D7 T) T.pD.m T.pD.F.kp T.pD.b (hr.mono (by decide)) (af (cA (qv 2) (qv 0) (fun _ _=>rfl)) (af (cA (qv 2) (aB dg dY (qv 0) ai) (fun _ _=>rfl)) (af (qv 1) aj))))) mJ.nd rfl (Or.inl rfl) (by rfl))
   (ak (bV (br (et hr.units) iz (aB il jR (aV bh dC (by rfl) T.eX dB (af (qv 0) aj)) ai) ai (aZ _)) (aq (fU (nE PySem.F.slot_list_append PySem.F.type_list_append fQ hC (qv 2) (af (cA (qv 0) (vi ai) (fun _ _=>rfl)) aj)))) bc)
   (aq (aD (qv 2)))))
theorem nu:aL ["some","first","runs"] ["some","first"] (au (top 11)):=by walk_at "sc"
theorem nv(T:Txt K mg t):bH P w K mg base cW 6 t.ur t.uu ["some","first"] (dq K (d_ t.cR t.bo)):=by
 refine T.dF.F.eO (n:=2) (m:=3) (B:=(jw t.cR t.bo)) nu rfl rfl (by decide) rfl fun bz A outer s H E hr=>?_
 unfold jw
 exact(ak (rC (i:=2) (N':=["thing"]) (cap:=[none]) (ir (sc:=au (top 11)) (NN:=["some","first","runs"]) rfl rfl rfl (by decide +kernel) (by decide +kernel) (by decide +kernel) (by decide +kernel)) rfl (iy (qv 0)) (fun _ _ _ _=>(aT (i:=0) (show List.Nodup (["thing"]:List Str)by decide +kernel) rfl (Or.inl rfl))) (fun _ _ _ _=>dH) (fun _ _ _ _=>(eL (af (qv 0) aj))) nu.nd rfl (Or.inl rfl) (by rfl))
   (ak (j9 PassesOwn.never (br kh ku (aV bh dC (by rfl) T.eX dB (af (qv 2) aj)) ai (aZ _)) (aq (aP (i:=2) nu.nd rfl (Or.inl rfl) (bC (tO T) T.gY.m T.gY.F.kp T.gY.b (hr.mono (by decide)) (af (qv 2) (af (qv 1) aj))))))
   (aq (aD (oR (br (et hr.units) iz (aV bh dC (by rfl) T.eX dB (af (qv 2) aj)) ai (aZ _)) (aO 2 ai) (eL aj))))))
theorem Cq:aL ["side"] ["side"] (au (top 13)):=by walk_at "sc"
theorem lQ(T:Txt K mg t):bH P w K mg base cW 3 t.xI t.xJ ["side"] (dq K dk):=by
 refine T.cV.F.eO (n:=1) (m:=1) (B:=kD) Cq rfl rfl (by decide) rfl fun bz A outer s H E hr=>?_
 unfold kD
 exact(ak (bV (cP (bC (gw T) T.bD.m T.bD.F.kp T.bD.b (hr.mono (by decide)) (af (aO 0 ai) (af (aO 0 ai) aj)))) (aq (aD (qv 0))) bc)
   (aq (aD (dZ (af (aO 0 ai) (af (aO 0 ai) aj))))))
theorem uM:aL ["p","side","ends"] ["p","side"] (au (top 14)):=by walk_at "sc"
theorem Cr(T:Txt K mg t):bH P w K mg base cW 4 t.xK t.xM ["p","side"] (dq K fX):=by
 refine T.nt.F.eO (n:=2) (m:=3) (B:=iZ) uM rfl rfl (by decide) rfl fun bz A outer s H E hr=>?_
 unfold iZ
 exact(ak (bV (br (m6 hr.units) wy (bC (Cp T) T.nq.m T.nq.F.kp T.nq.b (hr.mono (by decide)) (af (aO 1 ai) (af (aO 1 ai) (af (qv 0) aj)))) ai (aZ _)) (aq (aD fS)) bc)
   (ak (aP (i:=2) uM.nd rfl (Or.inl rfl) (bC (lQ T) T.cV.m T.cV.F.kp T.cV.b (hr.mono (by decide)) (af (qv 1) aj)))
   (aq (aD (rA (rB (bC (gw T) T.bD.m T.bD.F.kp T.bD.b (hr.mono (by decide)) (af (qv 0) (af (aO 2 ai) aj)))) (rn (rB (bC (gw T) T.bD.m T.bD.F.kp T.bD.b (hr.mono (by decide)) (af (aO 2 ai) (af (qv 0) aj))))))))))
theorem Az:aL ["side","other"] ["side","other"] (au (top 15)):=by walk_at "sc"
theorem sC(T:Txt K mg t):bH P w K mg base cW 3 t.uv t.uw ["side","other"] (dq K jx):=by
 refine T.fZ.F.eO (n:=2) (m:=2) (B:=lA) Az rfl rfl (by decide) rfl fun bz A outer s H E hr=>?_
 unfold lA
 exact(aq (aD (kx (N':=["p","side"]) (cap:=[none,some 0]) (ir (sc:=au (top 15)) (NN:=["side","other"]) rfl rfl rfl (by decide +kernel) (by decide +kernel) (by decide +kernel) (by decide +kernel)) rfl (vj (qv 1)) (fun _ _ _ _=>(aT (i:=0) (show List.Nodup (["p","side"]:List Str)by decide +kernel) rfl (Or.inl rfl))) (fun _ _ _ _=>dH) (fun _ _ _ _=>(bC (Cp T) T.nq.m T.nq.F.kp T.nq.b (hr.mono (by decide)) (af (aO 1 ai) (af (aO 1 ai) (af (qv 0) aj))))))))
theorem ed:aL ["one","other","left","right","p","q"] ["one","other"] (au (top 16)):=by walk_at "sc"
theorem sD(T:Txt K mg t):bH P w K mg base cW 4 t.mH t.mI ["one","other"] (dq K gq):=by
 refine T.gv.F.eO (n:=2) (m:=6) (B:=gk) ed rfl rfl (by decide) rfl fun bz A outer s H E hr=>?_
 unfold gk
 exact(ak (aP (i:=2) ed.nd rfl (Or.inl rfl) (bC (lQ T) T.cV.m T.cV.F.kp T.cV.b (hr.mono (by decide)) (af (qv 0) aj)))
   (ak (aP (i:=3) ed.nd rfl (Or.inl rfl) (bC (lQ T) T.cV.m T.cV.F.kp T.cV.b (hr.mono (by decide)) (af (qv 1) aj)))
   (ak (aP (i:=4) ed.nd rfl (Or.inl rfl) (oR (cP (bC (gw T) T.bD.m T.bD.F.kp T.bD.b (hr.mono (by decide)) (af (aO 2 ai) (af (aO 3 ai) aj)))) (aO 3 ai) (aO 2 ai)))
   (ak (aP (i:=5) ed.nd rfl (Or.inl rfl) (oR (cP (bC (gw T) T.bD.m T.bD.F.kp T.bD.b (hr.mono (by decide)) (af (aO 2 ai) (af (aO 3 ai) aj)))) (aO 2 ai) (aO 3 ai)))
   (ak (bV (br (et hr.units) iz (qv 4) (qv 5) (aZ _)) (aq (aD (dZ (af zN (af (qv 4) aj))))) bc)
   (aq (aD (oR (cP (bC (gw T) T.bD.m T.bD.F.kp T.bD.b (hr.mono (by decide)) (af (qv 4) (af (qv 5) aj)))) (dZ (af zN (af (qv 4) (af (qv 5) aj)))) zM))))))))
theorem sE:aL ["one","other","meet"] ["one","other"] (au (top 17)):=by walk_at "sc"
theorem AA(T:Txt K mg t):bH P w K mg base cW 3 t.uz t.uA ["one","other"] (dq K lC):=by
 refine T.lM.F.eO (n:=2) (m:=3) (B:=lB) sE rfl rfl (by decide) rfl fun bz A outer s H E hr=>?_
 unfold lB
 exact(ak (aP (i:=2) sE.nd rfl (Or.inl rfl) (bC (lP T) T.cU.m T.cU.F.kp T.cU.b (hr.mono (by decide)) (af (bC (lP T) T.cU.m T.cU.F.kp T.cU.b (hr.mono (by decide)) (af (aO 0 ai) (af (aO 0 ai) aj))) (af (bC (lP T) T.cU.m T.cU.F.kp T.cU.b (hr.mono (by decide)) (af (aO 1 ai) (af (aO 1 ai) aj))) aj))))
   (aq (aD (bC (Kt T) T.vE.m T.vE.F.kp T.vE.b (hr.mono (by decide)) (af (aO 2 ai) (af (aO 2 ai) (af (aO 2 ai) aj)))))))
theorem qE:aL ["one","other","turns","back"] ["one","other"] (au (top 18)):=by walk_at "sc"
theorem D8(T:Txt K mg t):bH P w K mg base cW 5 t.y_ t.zd ["one","other"] (dq K gr):=by
 refine T.pE.F.eO (n:=2) (m:=4) (B:=i5) qE rfl rfl (by decide) rfl fun bz A outer s H E hr=>?_
 unfold i5
 exact(ak (aP (i:=2) qE.nd rfl (Or.inl rfl) (bC (sC T) T.fZ.m T.fZ.F.kp T.fZ.b (hr.mono (by decide)) (af (qv 0) (af (qv 1) aj))))
   (ak (bV (br (et hr.units) iz (qv 2) (eL (af ai (af ai aj))) (aZ _)) (aq (aD (bC (sD T) T.gv.m T.gv.F.kp T.gv.b (hr.mono (by decide)) (af (qv 0) (af (qv 1) aj))))) bc)
   (ak (aP (i:=3) qE.nd rfl (Or.inl rfl) (bC (sC T) T.fZ.m T.fZ.F.kp T.fZ.b (hr.mono (by decide)) (af (qv 1) (af (qv 0) aj))))
   (ak (bV (PW.pt (mU (br kh ku (aB aI aX (aO 2 ai) (aO 2 ai)) ai (aZ _)) (mT (br kh ku (aB aI aX (aO 3 ai) (aO 3 ai)) ai (aZ _))))) (aq (aD zM)) bc)
   (aq (aD (dZ (af zN (af (bC (AA T) T.lM.m T.lM.F.kp T.lM.b (hr.mono (by decide)) (af (qv 0) (af (qv 1) aj))) aj)))))))))
theorem tP:aL ["side","some","found","p"] ["side","some"] (au (top 19)):=by walk_at "sc"
theorem GF(T:Txt K mg t):bH P w K mg base cW 7 t.Cj t.Ck ["side","some"] (dq K (mD t.cR t.bo)):=by
 refine T.sv.F.eO (n:=2) (m:=4) (B:=(rN t.cR t.bo)) tP rfl rfl (by decide) rfl fun bz A outer s H E hr=>?_
 unfold rN
 exact(ak (aP (i:=2) tP.nd rfl (Or.inl rfl) F0)
   (ak (er PassesOwn.never rfl (iy (qv 1)) (aT (i:=3) tP.nd rfl (Or.inl rfl)) (aq (bV (cP (bC (Cr T) T.nt.m T.nt.F.kp T.nt.b (hr.mono (by decide)) (af (qv 3) (af (qv 0) aj)))) (aq (F1 hr.units (qv 2) (qv 3) fS)) bc)))
   (ak (bV (cP (bC (gw T) T.bD.m T.bD.F.kp T.bD.b (hr.mono (by decide)) (af (aO 0 ai) (af (aO 0 ai) aj)))) (aq (aD (bC (nv T) T.dF.m T.dF.F.kp T.dF.b (hr.mono (by decide)) (af (fT (ug rfl) wO (by rfl) T.j6 ki (af (qv 2) aj)) (af (IG (by rfl) T.bD.m) aj))))) bc)
   (aq (aD (bC (nv T) T.dF.m T.dF.F.kp T.dF.b (hr.mono (by decide)) (af (fT (ug rfl) wO (by rfl) T.j6 ki (af (qv 2) aj)) (af IH aj))))))))
theorem gf:aL ["sides","found","k","j","met"] ["sides"] (au (top 23)):=by walk_at "sc"
theorem xQ(T:Txt K mg t):bH P w K mg base cW 6 t.pZ t.p_ ["sides"] (dq K je):=by
 refine T.jh.F.eO (n:=1) (m:=5) (B:=jd) gf rfl rfl (by decide) rfl fun bz A outer s H E hr=>?_
 unfold jd
 exact(ak (rC (i:=1) (N':=["side"]) (cap:=[none]) (ir (sc:=au (top 23)) (NN:=["sides","found","k","j","met"]) rfl rfl rfl (by decide +kernel) (by decide +kernel) (by decide +kernel) (by decide +kernel)) rfl (iy (qv 0)) (fun _ _ _ _=>(aT (i:=0) (show List.Nodup (["side"]:List Str)by decide +kernel) rfl (Or.inl rfl))) (fun _ _ _ _=>dH) (fun _ _ _ _=>(fT xW Ic (by rfl) T.j6 ki (af (qv 0) aj))) gf.nd rfl (Or.inl rfl) (by rfl))
   (ak (er PassesOwn.never rfl (iT (by rfl) T.jB (af (aV bh dC (by rfl) T.eX dB (af (qv 0) aj)) aj)) (aT (i:=2) gf.nd rfl (Or.inl rfl)) (aq (er PassesOwn.never rfl (iT (by rfl) T.jB (af (qv 2) aj)) (aT (i:=3) gf.nd rfl (Or.inl rfl)) (ak (aP (i:=4) gf.nd rfl (Or.inl rfl) (bC (D8 T) T.pE.m T.pE.F.kp T.pE.b (hr.mono (by decide)) (af (cA (qv 0) (qv 3) (fun _ _=>rfl)) (af (cA (qv 0) (qv 2) (fun _ _=>rfl)) aj))))
   (aq (bV (br Ha Ir (qv 4) zM (aZ _)) (ak (fU (nE PySem.F.slot_list_extend PySem.F.type_list_extend BH BI (cA (qv 1) (qv 3) (fun _ _=>rfl)) (af (iS (qv 4) (jn ai) mq) aj)))
   (aq (fU (nE PySem.F.slot_list_extend PySem.F.type_list_extend BH BI (cA (qv 1) (qv 2) (fun _ _=>rfl)) (af (iS (qv 4) (jn ai) mq) aj))))) bc))))))
   (aq (aD (qv 1)))))
theorem gG:aL ["sides","found","k"] ["sides"] (au (top 24)):=by walk_at "sc"
theorem pK(T:Txt K mg t):bH P w K mg base cW 4 t.kH t.kI ["sides"] (dq K eU):=by
 refine T.eW.F.eO (n:=1) (m:=3) (B:=eT) gG rfl rfl (by decide) rfl fun bz A outer s H E hr=>?_
 unfold eT
 exact(ak (aP (i:=1) gG.nd rfl (Or.inl rfl) yw)
   (ak (er PassesOwn.never rfl (iT (by rfl) T.jB (af (aV bh dC (by rfl) T.eX dB (af (qv 0) aj)) aj)) (aT (i:=2) gG.nd rfl (Or.inl rfl)) (aq (fU (nE PySem.F.slot_list_append PySem.F.type_list_append fQ hC (wN hr.units (qv 1) (bC (lQ T) T.cV.m T.cV.F.kp T.cV.b (hr.mono (by decide)) (af (cA (qv 0) (qv 2) (fun _ _=>rfl)) aj))) (af (qv 2) aj)))))
   (aq (aD (qv 1)))))
theorem lR:aL ["sides","lying","numbers","found","side","corners","spots","piece"] ["sides"] (au (top 25)):=by walk_at "sc"
theorem Fe(T:Txt K mg t):bH P w K mg base cW 8 t.Kn t.Ko ["sides"] (dq K (tu t.cR t.bo)):=by
 refine T.qC.F.eO (n:=1) (m:=8) (B:=(Af t.cR t.bo)) lR rfl rfl (by decide) rfl fun bz A outer s H E hr=>?_
 unfold Af
 exact(ak (aP (i:=1) lR.nd rfl (Or.inr rfl) yw)
   (ak (aP (i:=2) lR.nd rfl (Or.inl rfl) (bC (pK T) T.eW.m T.eW.F.kp T.eW.b (hr.mono (by decide)) (af (qv 0) aj)))
   (ak (aP (i:=3) lR.nd rfl (Or.inl rfl) (bC (xQ T) T.jh.m T.jh.F.kp T.jh.b (hr.mono (by decide)) (af (fT (oo rfl) qw (by rfl) T.j6 ki (af (qv 2) aj)) aj)))
   (ak (er PassesOwn.never rfl (I8 (by rfl) T.xN (af (qv 2) (af (qv 3) aj))) (iw rfl (bM (aT (i:=4) lR.nd rfl (Or.inl rfl)) (bM (aT (i:=5) lR.nd rfl (Or.inl rfl)) fV))) (ak (aP (i:=6) lR.nd rfl (Or.inl rfl) (bC (GF T) T.sv.m T.sv.F.kp T.sv.b (hr.mono (by decide)) (af (qv 4) (af (qv 5) aj))))
   (aq (er PassesOwn.never rfl (BG (by rfl) T.xN (af (qv 6) (af (iS (qv 6) (jn ai) mq) aj))) (aT (i:=7) lR.nd rfl (Or.inl rfl)) (aq (fU (nE PySem.F.slot_list_extend PySem.F.type_list_extend vW wo (wN hr.units (qv 1) (qv 7)) (af (BD hr.units (qv 2) (qv 4) (fun _ _=>rfl)) aj))))))))
   (aq (aD (fT (BE rfl hr.units) F6 (by rfl) T.Nw Iw (af (kx (N':=["piece","lying"]) (cap:=[none,some 1]) (ir (sc:=au (top 25)) (NN:=["sides","lying","numbers","found","side","corners","spots","piece"]) rfl rfl rfl (by decide +kernel) (by decide +kernel) (by decide +kernel) (by decide +kernel)) rfl (iy (bC (nv T) T.dF.m T.dF.F.kp T.dF.b (hr.mono (by decide)) (af (fT (oo rfl) qw (by rfl) T.j6 ki (af (qv 1) aj)) (af (IG (by rfl) T.gM.m) aj)))) (fun _ _ _ _=>(aT (i:=0) (show List.Nodup (["piece","lying"]:List Str)by decide +kernel) rfl (Or.inl rfl))) (fun _ _ _ _=>dH) (fun _ _ _ _=>(dZ (af (qv 0) (af (aV uh yx (by rfl) T.zi wD (af (BD hr.units (qv 1) (qv 0) (fun _ _=>rfl)) aj)) aj))))) aj))))))))
theorem D9:aL ["sides"] ["sides"] (au (top 26)):=by walk_at "sc"
theorem qF(T:Txt K mg t):bH P w K mg base cW 9 t.ze t.zf ["sides"] (dq K (i6 t.cR t.bo)):=by
 refine T.fA.F.eO (n:=1) (m:=1) (B:=(pf t.cR t.bo)) D9 rfl rfl (by decide) rfl fun bz A outer s H E hr=>?_
 unfold pf
 exact(aq (aD (fT (oo rfl) qw (by rfl) T.j6 ki (af (bC (Fe T) T.qC.m T.qC.F.kp T.qC.b (hr.mono (by decide)) (af (qv 0) aj)) aj))))
theorem uX:aL ["sides"] ["sides"] (au (top 27)):=by walk_at "sc"
theorem jI(T:Txt K mg t):bH P w K mg base cW 9 t.oF t.oG ["sides"] (dq K (b_ t.cR t.bo)):=by
 refine T.cg.F.eO (n:=1) (m:=1) (B:=(iD t.cR t.bo)) uX rfl rfl (by decide) rfl fun bz A outer s H E hr=>?_
 unfold iD
 exact(aq (aD (F5 (by rfl) T.j6 (bC (Fe T) T.qC.m T.qC.F.kp T.qC.b (hr.mono (by decide)) (af (qv 0) aj)))))
theorem AB:aL ["_law_script","_law_k"] ["_law_script","_law_k"] (au (top 29)):=by walk_at "sc"
theorem sF(T:Txt K mg t):bH P w K mg base cW 1 t.uB t.uC ["_law_script","_law_k"] (dq K h_):=by
 refine T.f_.F.eO (n:=2) (m:=2) (B:=jy) AB rfl rfl (by decide) rfl fun bz A outer s H E hr=>?_
 unfold jy
 exact(ak (bV (br qi qp (qv 1) (aV bh dC (by rfl) T.eX dB (af (qv 0) aj)) (aZ _)) (aq (aD (cA (qv 0) (qv 1) (fun _ _=>rfl)))) bc)
   (aq (aD ai)))
theorem qe:aL ["_law_pool_here","_law_many","_law_digit_here"] ["_law_pool_here","_law_many"] (au (top 30)):=by walk_at "sc"
theorem bB(T:Txt K mg t):bH P w K mg base cW 1 t.sh t.si ["_law_pool_here","_law_many"] (dq K az):=by
 refine T.aw.F.eO (n:=2) (m:=3) (B:=jU) qe rfl rfl (by decide) rfl fun bz A outer s H E hr=>?_
 unfold jU
 exact(ak (aP (i:=2) qe.nd rfl (Or.inl rfl) (aB il jR (aO 0 ai) (qv 1)))
   (ak (oT (aB iQ ko (aO 0 ai) (qv 1)) (L8 (qv 0) ai))
   (aq (aD (qv 2)))))
theorem iG:aL ["_law_script","_law_cell_here","_law_k","_law_found","_law_j"] ["_law_script","_law_cell_here","_law_k"] (au (top 31)):=by walk_at "sc"
theorem sG(T:Txt K mg t):bH P w K mg base cW 2 t.uD t.uE ["_law_script","_law_cell_here","_law_k"] (dq K eF):=by
 refine T.gc.F.eO (n:=3) (m:=5) (B:=jz) iG rfl rfl (by decide) rfl fun bz A outer s H E hr=>?_
 unfold jz
 exact(ak (bV (br (et hr.units) iz (aB il jR (bC (sF T) T.f_.m T.f_.F.kp T.f_.b (hr.mono (by decide)) (af (qv 0) (af ai aj))) ai) ai (aZ _)) (aq (aD (eL (af (qv 1) aj)))) bc)
   (ak (aP (i:=3) iG.nd rfl (Or.inl rfl) ai)
   (ak (er PassesOwn.never rfl (iT (by rfl) T.jB (af ai aj)) (aT (i:=4) iG.nd rfl (Or.inl rfl)) (ak (aP (i:=1) iG.nd rfl (Or.inl rfl) (aB il jR (aB dg dY (aB dg dY (aB aI aX (qv 1) ai) (aB aI aX ai (qv 2))) (qv 4)) ai))
   (aq (aP (i:=3) iG.nd rfl (Or.inl rfl) (aB dg dY (aB aI aX (qv 3) ai) (aB il jR (aB aI aX (qv 1) (qv 1)) ai))))))
   (aq (aD (eL (af (qv 3) aj)))))))
theorem gh:aL ["_law_x","_law_y","_law_w","_law_one","_law_other"] ["_law_x","_law_y","_law_w"] (au (top 32)):=by walk_at "sc"
theorem kL(T:Txt K mg t):bH P w K mg base cW 1 t.qa t.qb ["_law_x","_law_y","_law_w"] (dq K cc):=by
 refine T.cF.F.eO (n:=3) (m:=5) (B:=jf) gh rfl rfl (by decide) rfl fun bz A outer s H E hr=>?_
 unfold jf
 exact(ak (nY (i:=3) (j:=4) rfl gh.nd rfl rfl (by decide) rfl rfl (af (qv 2) (af (aV iP mV (by rfl) T.qD mQ (af (qv 0) aj)) aj)) (by rfl))
   (ak (j9 PassesOwn.never (br kh ku (qv 4) ai (aZ _)) (aq (nY (i:=3) (j:=4) rfl gh.nd rfl rfl (by decide) rfl rfl (af (qv 4) (af (aB il jR (qv 3) (qv 4)) aj)) (by rfl))))
   (ak (aP (i:=4) gh.nd rfl (Or.inl rfl) (aV iP mV (by rfl) T.qD mQ (af (qv 1) aj)))
   (ak (j9 PassesOwn.never (br kh ku (qv 4) ai (aZ _)) (aq (nY (i:=3) (j:=4) rfl gh.nd rfl rfl (by decide) rfl rfl (af (qv 4) (af (aB il jR (qv 3) (qv 4)) aj)) (by rfl))))
   (aq (aD (dZ (af (aB iQ ko (qv 0) (qv 3)) (af (aB iQ ko (qv 1) (qv 3)) (af (aB iQ ko (qv 2) (qv 3)) aj))))))))))
theorem cu:aL ["_law_pool_here","_law_known","_law_kind","_law_a","_law_b","_law_many","_law_k","_law_w","_law_left","_law_right","_law_wide","_law_x","_law_y"] ["_law_pool_here","_law_known"] (au (top 33)):=by walk_at "sc"
theorem sH(T:Txt K mg t):bH P w K mg base cW 2 t.uF t.uG ["_law_pool_here","_law_known"] (dq K dD):=by
 refine T.gd.F.eO (n:=2) (m:=13) (B:=lD) cu rfl rfl (by decide) rfl fun bz A outer s H E hr=>?_
 unfold lD
 exact(ak (aP (i:=2) cu.nd rfl (Or.inl rfl) (bC (bB T) T.aw.m T.aw.F.kp T.aw.b (hr.mono (by decide)) (af (qv 0) (af ai aj))))
   (ak (bV (PW.pt (oS (br (et hr.units) iz (qv 2) ai (aZ _)) (mn (br kh ku (aV bh dC (by rfl) T.eX dB (af (qv 1) aj)) ai (aZ _))))) (ak (oT (cA (qv 1) (bC (bB T) T.aw.m T.aw.F.kp T.aw.b (hr.mono (by decide)) (af (qv 0) (af (aV bh dC (by rfl) T.eX dB (af (qv 1) aj)) aj))) (fun _ _=>rfl)) (iw rfl (bM (aT (i:=3) cu.nd rfl (Or.inl rfl)) (bM (aT (i:=4) cu.nd rfl (Or.inl rfl)) fV))))
   (ak (aP (i:=5) cu.nd rfl (Or.inl rfl) (aB dg dY ai (bC (bB T) T.aw.m T.aw.F.kp T.aw.b (hr.mono (by decide)) (af (qv 0) (af ai aj)))))
   (ak (aP (i:=6) cu.nd rfl (Or.inl rfl) (aB gP gR (bC (bB T) T.aw.m T.aw.F.kp T.aw.b (hr.mono (by decide)) (af (qv 0) (af (aB dg dY (qv 5) ai) aj))) ai))
   (aq (bV (br OK Pp (aV (DB rfl) I_ (by rfl) T.Rq LQ (af (aO 3 ai) (af (aO 4 ai) (af (aV iP mV (by rfl) T.qD mQ (af (aO 3 ai) aj)) (af (aV iP mV (by rfl) T.qD mQ (af (aO 3 ai) aj)) (af (aV iP mV (by rfl) T.qD mQ (af (aO 4 ai) aj)) (af (aV iP mV (by rfl) T.qD mQ (af (aO 4 ai) aj)) aj))))))) (aB u9 vh ai ai) (aZ _)) (ak (aP (i:=7) cu.nd rfl (Or.inl rfl) (aB aI aX (aB aI aX (aO 3 ai) (aO 4 ai)) (qv 5)))
   (ak (nY (i:=8) (j:=9) rfl cu.nd rfl rfl (by decide) rfl rfl (af (aB aI aX (aB gP gR (qv 5) (qv 6)) (aO 4 ai)) (af (aB aI aX (qv 6) (aO 3 ai)) aj)) (by rfl))
   (aq (aD (bC (kL T) T.cF.m T.cF.F.kp T.cF.b (hr.mono (by decide)) (af (aB dg dY (aB aI aX (aO 3 ai) (qv 8)) (aB aI aX (aO 4 ai) (qv 9))) (af (aB dg dY (aB aI aX (aO 3 ai) (qv 8)) (aB aI aX (aO 4 ai) (qv 9))) (af (qv 7) aj)))))))) bc))))) bc)
   (ak (bV (br (et hr.units) iz (qv 2) ai (aZ _)) (ak (aP (i:=10) cu.nd rfl (Or.inl rfl) (cA (eL (af (aB u9 vh ai ai) (af (aB u9 vh ai ai) (af (aB u9 vh ai ai) aj)))) (bC (bB T) T.aw.m T.aw.F.kp T.aw.b (hr.mono (by decide)) (af (qv 0) (af ai aj))) (fun _ _=>rfl)))
   (ak (aP (i:=11) cu.nd rfl (Or.inl rfl) (aB gP gR (bC (bB T) T.aw.m T.aw.F.kp T.aw.b (hr.mono (by decide)) (af (qv 0) (af (aB dg dY (aB aI aX ai (qv 10)) ai) aj))) (qv 10)))
   (ak (aP (i:=12) cu.nd rfl (Or.inl rfl) (aB gP gR (bC (bB T) T.aw.m T.aw.F.kp T.aw.b (hr.mono (by decide)) (af (qv 0) (af (aB dg dY (aB aI aX ai (qv 10)) ai) aj))) (qv 10)))
   (aq (aD (bC (kL T) T.cF.m T.cF.F.kp T.cF.b (hr.mono (by decide)) (af (qv 11) (af (qv 12) (af (aB dg dY ai (bC (bB T) T.aw.m T.aw.F.kp T.aw.b (hr.mono (by decide)) (af (qv 0) (af (qv 10) aj)))) aj))))))))) bc)
   (ak (aP (i:=7) cu.nd rfl (Or.inl rfl) (aB dg dY ai (aB aI aX (bC (bB T) T.aw.m T.aw.F.kp T.aw.b (hr.mono (by decide)) (af (qv 0) (af ai aj))) (aB il jR (qv 2) ai))))
   (aq (aD (bC (kL T) T.cF.m T.cF.F.kp T.cF.b (hr.mono (by decide)) (af (bC (bB T) T.aw.m T.aw.F.kp T.aw.b (hr.mono (by decide)) (af (qv 0) (af (aB aI aX ai (qv 7)) aj))) (af (bC (bB T) T.aw.m T.aw.F.kp T.aw.b (hr.mono (by decide)) (af (qv 0) (af (aB aI aX ai (qv 7)) aj))) (af (qv 7) aj))))))))))
theorem gy:aL ["_law_pool_here","_law_known","_law_a","_law_b"] ["_law_pool_here","_law_known"] (au (top 34)):=by walk_at "sc"
theorem AD(T:Txt K mg t):bH P w K mg base cW 3 t.uH t.uI ["_law_pool_here","_law_known"] (dq K eG):=by
 refine T.lN.F.eO (n:=2) (m:=4) (B:=lE) gy rfl rfl (by decide) rfl fun bz A outer s H E hr=>?_
 unfold lE
 exact(ak (bV (PW.pt (oS (br kh ku (aV bh dC (by rfl) T.eX dB (af (qv 1) aj)) ai (aZ _)) (mn (br (et hr.units) iz (bC (bB T) T.aw.m T.aw.F.kp T.aw.b (hr.mono (by decide)) (af (qv 0) (af ai aj))) ai (aZ _))))) (ak (oT (cA (qv 1) (bC (bB T) T.aw.m T.aw.F.kp T.aw.b (hr.mono (by decide)) (af (qv 0) (af (aV bh dC (by rfl) T.eX dB (af (qv 1) aj)) aj))) (fun _ _=>rfl)) (iw rfl (bM (aT (i:=2) gy.nd rfl (Or.inl rfl)) (bM (aT (i:=3) gy.nd rfl (Or.inl rfl)) fV))))
   (aq (aD (cA (eL (af (dZ (af (qv 2) (af (qv 3) aj))) (af (dZ (af (qv 3) (af (qv 2) aj))) aj))) (bC (bB T) T.aw.m T.aw.F.kp T.aw.b (hr.mono (by decide)) (af (qv 0) (af ai aj))) (fun _ _=>rfl))))) bc)
   (ak (aP (i:=2) gy.nd rfl (Or.inl rfl) (bC (sH T) T.gd.m T.gd.F.kp T.gd.b (hr.mono (by decide)) (af (qv 0) (af (qv 1) aj))))
   (ak (aP (i:=3) gy.nd rfl (Or.inl rfl) (bC (sH T) T.gd.m T.gd.F.kp T.gd.b (hr.mono (by decide)) (af (qv 0) (af (qv 1) aj))))
   (ak (bV (br (et hr.units) iz (qv 2) (qv 3) (aZ _)) (aq (aP (i:=3) gy.nd rfl (Or.inl rfl) (dZ (af (aB dg dY (aO 2 ai) (aB aI aX (cA (eL (af ai (af (vi ai) aj))) (fT CL Ib (by rfl) T.Ks Ej (af (i_ kh ku (aO 2 ai) ai (aZ _)) aj)) (fun _ _=>rfl)) (aO 2 ai))) (af (aO 2 ai) (af (aO 2 ai) aj)))))) bc)
   (aq (aD (dZ (af (qv 2) (af (qv 3) aj)))))))))
theorem ji:aL ["_law_script","_law_first","_law_last","_law_found","_law_k","_law_cell_here"] ["_law_script","_law_first","_law_last"] (au (top 35)):=by walk_at "sc"
theorem ya(T:Txt K mg t):bH P w K mg base cW 4 t.sj t.sk ["_law_script","_law_first","_law_last"] (dq K jW):=by
 refine T.j4.F.eO (n:=3) (m:=6) (B:=jV) ji rfl rfl (by decide) rfl fun bz A outer s H E hr=>?_
 unfold jV
 exact(ak (aP (i:=3) ji.nd rfl (Or.inl rfl) (eL aj))
   (ak (er PassesOwn.never rfl (Bv (by rfl) T.sA (af (iS (qv 0) (jn (qv 1)) (jn (qv 2))) aj)) (iw rfl (bM (aT (i:=4) ji.nd rfl (Or.inl rfl)) (bM (aT (i:=5) ji.nd rfl (Or.inl rfl)) fV))) (aq (fU (nE PySem.F.slot_list_append PySem.F.type_list_append fQ hC (qv 3) (af (bC (AD T) T.lN.m T.lN.F.kp T.lN.b (hr.mono (by decide)) (af (bC (sG T) T.gc.m T.gc.F.kp T.gc.b (hr.mono (by decide)) (af (qv 0) (af (qv 5) (af (qv 4) aj)))) (af (qv 3) aj))) aj)))))
   (aq (aD (qv 3)))))
theorem ny:aL ["_law_a","_law_b","_law_c","_law_one","_law_other"] ["_law_a","_law_b","_law_c"] (au (top 36)):=by walk_at "sc"
theorem iH(T:Txt K mg t):bH P w K mg base cW 1 t.uJ t.uK ["_law_a","_law_b","_law_c"] (dq K eI):=by
 refine T.bT.F.eO (n:=3) (m:=5) (B:=lF) ny rfl rfl (by decide) rfl fun bz A outer s H E hr=>?_
 unfold lF
 exact(ak (aP (i:=3) ny.nd rfl (Or.inl rfl) (aB aI aX (aO 0 ai) (aB gP gR (aB aI aX (aO 1 ai) (aO 2 ai)) (aB aI aX (aO 2 ai) (aO 1 ai)))))
   (ak (aP (i:=4) ny.nd rfl (Or.inl rfl) (aB aI aX (aO 0 ai) (aB gP gR (aB aI aX (aO 1 ai) (aO 2 ai)) (aB aI aX (aO 2 ai) (aO 1 ai)))))
   (aq (aD (aB dg dY (aB gP gR (qv 3) (qv 4)) (aB aI aX (aO 0 ai) (aB gP gR (aB aI aX (aO 1 ai) (aO 2 ai)) (aB aI aX (aO 2 ai) (aO 1 ai)))))))))
theorem xR:aL ["_law_p","_law_q"] ["_law_p","_law_q"] (au (top 37)):=by walk_at "sc"
theorem di(T:Txt K mg t):bH P w K mg base cW 1 t.qc t.qd ["_law_p","_law_q"] (dq K bu):=by
 refine T.aJ.F.eO (n:=2) (m:=2) (B:=jg) xR rfl rfl (by decide) rfl fun bz A outer s H E hr=>?_
 unfold jg
 exact(aq (aD (i_ (MC hr.units) MD (dZ (af (aB aI aX (aO 0 ai) (aO 1 ai)) (af (aB aI aX (aO 0 ai) (aO 1 ai)) aj))) (dZ (af (aB aI aX (aO 1 ai) (aO 0 ai)) (af (aB aI aX (aO 1 ai) (aO 0 ai)) aj))) (aZ _))))
theorem nA:aL ["_law_p","_law_side_here","_law_low","_law_high"] ["_law_p","_law_side_here"] (au (top 38)):=by walk_at "sc"
theorem xS(T:Txt K mg t):bH P w K mg base cW 2 t.zg t.zh ["_law_p","_law_side_here"] (dq K gu):=by
 refine T.i9.F.eO (n:=2) (m:=4) (B:=i7) nA rfl rfl (by decide) rfl fun bz A outer s H E hr=>?_
 unfold i7
 exact(ak (oT (qv 1) (iw rfl (bM (aT (i:=2) nA.nd rfl (Or.inl rfl)) (bM (aT (i:=3) nA.nd rfl (Or.inl rfl)) fV))))
   (ak (bV (cP (bC (di T) T.aJ.m T.aJ.F.kp T.aJ.b (hr.mono (by decide)) (af (qv 3) (af (qv 2) aj)))) (aq (nY (i:=2) (j:=3) rfl nA.nd rfl rfl (by decide) rfl rfl (af (qv 3) (af (qv 2) aj)) (by rfl))) bc)
   (aq (aD (rA (i_ (et hr.units) iz (bC (iH T) T.bT.m T.bT.F.kp T.bT.b (hr.mono (by decide)) (af (qv 2) (af (qv 3) (af (qv 0) aj)))) ai (aZ _)) (rA (rB (bC (di T) T.aJ.m T.aJ.F.kp T.aJ.b (hr.mono (by decide)) (af (qv 0) (af (qv 2) aj)))) (rn (rB (bC (di T) T.aJ.m T.aJ.F.kp T.aJ.b (hr.mono (by decide)) (af (qv 3) (af (qv 0) aj)))))))))))
theorem uY:aL ["_law_p"] ["_law_p"] (au (top 39)):=by walk_at "sc"
theorem nI(T:Txt K mg t):bH P w K mg base cW 1 t.oH t.oI ["_law_p"] (dq K cK):=by
 refine T.dI.F.eO (n:=1) (m:=1) (B:=iE) uY rfl rfl (by decide) rfl fun bz A outer s H E hr=>?_
 unfold iE
 exact(ak (bV (PW.pt (mU (jS (cP (aV ip ky (by rfl) T.gN fR (af (qv 0) (af (pQ (.ty "tuple") (nO (v:=.ty "tuple") (by rfl) T.Cm yk rfl) fun _ _ _=>.ty "tuple") aj))))) (mT (br (m6 hr.units) wy (aV bh dC (by rfl) T.eX dB (af (qv 0) aj)) ai (aZ _))))) (aq (aD fS)) bc)
   (aq (aD (aV (Dg rfl) Mb (by rfl) T.Ro Md (af (kx (N':=["_law_one"]) (cap:=[none]) (ir (sc:=au (top 39)) (NN:=["_law_p"]) rfl rfl rfl (by decide +kernel) (by decide +kernel) (by decide +kernel) (by decide +kernel)) rfl (vj (qv 0)) (fun _ _ _ _=>(aT (i:=0) (show List.Nodup (["_law_one"]:List Str)by decide +kernel) rfl (Or.inl rfl))) (fun _ _ _ _=>dH) (fun _ _ _ _=>(rA (aV ip ky (by rfl) T.gN fR (af (qv 0) (af (pQ (.ty "int") (nO (v:=.ty "int") (by rfl) T.Ks Ej rfl) fun _ _ _=>.ty "int") aj))) (rn (rB (aV ip ky (by rfl) T.gN fR (af (qv 0) (af (pQ (.ty "bool") (nO (v:=.ty "bool") (by rfl) T.Nv HK rfl) fun _ _ _=>.ty "bool") aj)))))))) aj)))))
theorem eY:aL ["_law_found","_law_piece","_law_one","_law_other"] ["_law_found"] (au (top 40)):=by walk_at "sc"
theorem qG(T:Txt K mg t):bH P w K mg base cW 2 t.lJ t.lK ["_law_found"] (dq K fL):=by
 refine T.fM.F.eO (n:=1) (m:=4) (B:=fK) eY rfl rfl (by decide) rfl fun bz A outer s H E hr=>?_
 unfold fK
 exact(ak (bV (jS (cP (aV ip ky (by rfl) T.gN fR (af (qv 0) (af (pQ (.ty "list") (nO (v:=.ty "list") (by rfl) T.j6 ki rfl) fun _ _ _=>.ty "list") aj))))) (aq (aD fS)) bc)
   (ak (er PassesOwn.never rfl (iy (qv 0)) (aT (i:=1) eY.nd rfl (Or.inl rfl)) (ak (bV (PW.pt (mU (jS (cP (aV ip ky (by rfl) T.gN fR (af (qv 1) (af (pQ (.ty "tuple") (nO (v:=.ty "tuple") (by rfl) T.Cm yk rfl) fun _ _ _=>.ty "tuple") aj))))) (mT (br (m6 hr.units) wy (aV bh dC (by rfl) T.eX dB (af (qv 1) aj)) ai (aZ _))))) (aq (aD fS)) bc)
   (aq (bV (PW.pt (mU (jS (cP (bC (nI T) T.dI.m T.dI.F.kp T.dI.b (hr.mono (by decide)) (af (aO 1 ai) aj)))) (mU (jS (cP (bC (nI T) T.dI.m T.dI.F.kp T.dI.b (hr.mono (by decide)) (af (aO 1 ai) aj)))) (mT (jS (cP (bC (di T) T.aJ.m T.aJ.F.kp T.aJ.b (hr.mono (by decide)) (af (aO 1 ai) (af (aO 1 ai) aj))))))))) (aq (aD fS)) bc))))
   (ak (er PassesOwn.never rfl (BG (by rfl) T.xN (af (qv 0) (af (iS (qv 0) (jn ai) mq) aj))) (iw rfl (bM (aT (i:=2) eY.nd rfl (Or.inl rfl)) (bM (aT (i:=3) eY.nd rfl (Or.inl rfl)) fV))) (aq (bV (PW.pt (mU (cP (bC (di T) T.aJ.m T.aJ.F.kp T.aJ.b (hr.mono (by decide)) (af (aO 3 ai) (af (aO 2 ai) aj)))) (mT (PW.pt (oS (br (et hr.units) iz (aO 2 ai) (aO 3 ai) (aZ _)) (mn (jS (cP (bC (di T) T.aJ.m T.aJ.F.kp T.aJ.b (hr.mono (by decide)) (af (aO 2 ai) (af (aO 3 ai) aj))))))))))) (aq (aD fS)) bc)))
   (aq (aD fS)))))
theorem jJ:aL ["_law_one","_law_other","_law_p"] ["_law_one","_law_other"] (au (top 41)):=by walk_at "sc"
theorem uZ(T:Txt K mg t):bH P w K mg base cW 3 t.oJ t.oK ["_law_one","_law_other"] (dq K bP):=by
 refine T.iF.F.eO (n:=2) (m:=3) (B:=cf) jJ rfl rfl (by decide) rfl fun bz A outer s H E hr=>?_
 unfold cf
 exact(ak (bV (PW.pt (mU (br (et hr.units) iz (aO 0 ai) (aO 1 ai) (aZ _)) (mU (cP (bC (di T) T.aJ.m T.aJ.F.kp T.aJ.b (hr.mono (by decide)) (af (aO 0 ai) (af (aO 1 ai) aj)))) (mT (cP (bC (di T) T.aJ.m T.aJ.F.kp T.aJ.b (hr.mono (by decide)) (af (aO 1 ai) (af (aO 0 ai) aj)))))))) (aq (aD fS)) bc)
   (ak (er PassesOwn.never rfl (vj (qv 0)) (aT (i:=2) jJ.nd rfl (Or.inl rfl)) (aq (bV (PW.pt (oS (br (wz hr.units) yq (qv 2) (qv 1) (by with_unfolding_all rfl)) (mn (cP (bC (xS T) T.i9.m T.i9.F.kp T.i9.b (hr.mono (by decide)) (af (qv 2) (af (qv 1) aj))))))) (aq (aD fS)) bc)))
   (ak (er PassesOwn.never rfl (vj (qv 1)) (aT (i:=2) jJ.nd rfl (Or.inl rfl)) (aq (bV (PW.pt (oS (br (wz hr.units) yq (qv 2) (qv 0) (by with_unfolding_all rfl)) (mn (cP (bC (xS T) T.i9.m T.i9.F.kp T.i9.b (hr.mono (by decide)) (af (qv 2) (af (qv 0) aj))))))) (aq (aD fS)) bc)))
   (ak (bV (PW.pt (mU (br (Es hr.units) Iu (aO 0 ai) (qv 1) (by with_unfolding_all rfl)) (mT (br (Es hr.units) Iu (aO 0 ai) (qv 1) (by with_unfolding_all rfl))))) (aq (aD (i_ (et hr.units) iz (qv 0) (qv 1) (aZ _)))) bc)
   (ak (bV (br OL Pq (aB aI aX (bC (iH T) T.bT.m T.bT.F.kp T.bT.b (hr.mono (by decide)) (af (aO 0 ai) (af (aO 0 ai) (af (aO 1 ai) aj)))) (bC (iH T) T.bT.m T.bT.F.kp T.bT.b (hr.mono (by decide)) (af (aO 0 ai) (af (aO 0 ai) (af (aO 1 ai) aj))))) ai (aZ _)) (aq (aD fS)) bc)
   (aq (aD (i_ qi qp (aB aI aX (bC (iH T) T.bT.m T.bT.F.kp T.bT.b (hr.mono (by decide)) (af (aO 1 ai) (af (aO 1 ai) (af (aO 0 ai) aj)))) (bC (iH T) T.bT.m T.bT.F.kp T.bT.b (hr.mono (by decide)) (af (aO 1 ai) (af (aO 1 ai) (af (aO 0 ai) aj))))) ai (aZ _)))))))))
theorem jj:aL ["_law_script","_law_many","_law_pool_here","_law_left","_law_found"] ["_law_script","_law_many"] (au (top 42)):=by walk_at "sc"
theorem yb(T:Txt K mg t):bH P w K mg base cW 3 t.sr t.su ["_law_script","_law_many"] (dq K jY):=by
 refine T.j5.F.eO (n:=2) (m:=5) (B:=jX) jj rfl rfl (by decide) rfl fun bz A outer s H E hr=>?_
 unfold jX
 exact(ak (aP (i:=2) jj.nd rfl (Or.inr rfl) (bC (sG T) T.gc.m T.gc.F.kp T.gc.b (hr.mono (by decide)) (af (qv 0) (af (bC (sF T) T.f_.m T.f_.F.kp T.f_.b (hr.mono (by decide)) (af (qv 0) (af ai aj))) (af ai aj)))))
   (ak (aP (i:=3) jj.nd rfl (Or.inl rfl) (BK (by rfl) T.j6 (by rfl) T.jB (af (qv 1) aj)))
   (ak (aP (i:=4) jj.nd rfl (Or.inl rfl) (eL aj))
   (ak (j9 PassesOwn.never (br kh ku (aV bh dC (by rfl) T.eX dB (af (qv 3) aj)) ai (aZ _)) (aq (fU (nE PySem.F.slot_list_append PySem.F.type_list_append fQ hC (qv 4) (af (nE PySem.F.slot_list_pop PySem.F.type_list_pop FA Gb (qv 3) (af (bC (bB T) T.aw.m T.aw.F.kp T.aw.b (hr.mono (by decide)) (af (qv 2) (af (aV bh dC (by rfl) T.eX dB (af (qv 3) aj)) aj))) aj)) aj)))))
   (aq (aD (dZ (af (qv 4) (af (kx (N':=["_law_k","_law_pool_here"]) (cap:=[none,some 2]) (ir (sc:=au (top 42)) (NN:=["_law_script","_law_many","_law_pool_here","_law_left","_law_found"]) rfl rfl rfl (by decide +kernel) (by decide +kernel) (by decide +kernel) (by decide +kernel)) rfl (iT (by rfl) T.jB (af (qv 1) aj)) (fun _ _ _ _=>(aT (i:=0) (show List.Nodup (["_law_k","_law_pool_here"]:List Str)by decide +kernel) rfl (Or.inl rfl))) (fun _ _ _ _=>dH) (fun _ _ _ _=>(bC (bB T) T.aw.m T.aw.F.kp T.aw.b (hr.mono (by decide)) (af (qv 1) (af ai aj))))) aj)))))))))
theorem gz:aL ["_law_script","_law_sides_here","_law_found","_law_k","_law_one","_law_order_here","_law_about","_law_others","_law_turned_about","_law_a","_law_b","_law_paper"] ["_law_script"] (au (top 43)):=by walk_at "sc"
theorem Ny(T:Txt K mg t):bH P w K mg base cW 10 t.Kp t.Aw ["_law_script"] (dq K (w6 t.cR t.bo)):=by
 refine T.Kr.F.eO (n:=1) (m:=12) (B:=(tw t.cR t.bo)) gz rfl rfl (by decide) rfl fun bz A outer s H E hr=>?_
 unfold tw
 exact(ak (aP (i:=1) gz.nd rfl (Or.inl rfl) (bC (ya T) T.j4.m T.j4.F.kp T.j4.b (hr.mono (by decide)) (af (qv 0) (af ai (af ai aj)))))
   (ak (aP (i:=2) gz.nd rfl (Or.inl rfl) (bC (qF T) T.fA.m T.fA.F.kp T.fA.b (hr.mono (by decide)) (af (qv 1) aj)))
   (ak (bV (jS (cP (bC (qG T) T.fM.m T.fM.F.kp T.fM.b (hr.mono (by decide)) (af (qv 2) aj)))) (aq (aD fS)) bc)
   (ak (er PassesOwn.never rfl (Bv (by rfl) T.sA (af (qv 2) aj)) (iw rfl (bM (aT (i:=3) gz.nd rfl (Or.inl rfl)) (bM (aT (i:=4) gz.nd rfl (Or.inr rfl)) fV))) (aq (bV (cP (aV (Dh rfl) Mc (by rfl) T.Rp Me (af (kx (N':=["_law_other","_law_one"]) (cap:=[none,some 4]) (ir (sc:=au (top 43)) (NN:=["_law_script","_law_sides_here","_law_found","_law_k","_law_one","_law_order_here","_law_about","_law_others","_law_turned_about","_law_a","_law_b","_law_paper"]) rfl rfl rfl (by decide +kernel) (by decide +kernel) (by decide +kernel) (by decide +kernel)) rfl (iy (iS (qv 2) mq (jn (qv 3)))) (fun _ _ _ _=>(aT (i:=0) (show List.Nodup (["_law_other","_law_one"]:List Str)by decide +kernel) rfl (Or.inl rfl))) (fun _ _ _ _=>dH) (fun _ _ _ _=>(bC (uZ T) T.iF.m T.iF.F.kp T.iF.b (hr.mono (by decide)) (af (qv 0) (af (qv 1) aj))))) aj))) (aq (aD fS)) bc)))
   (ak (oT (bC (yb T) T.j5.m T.j5.F.kp T.j5.b (hr.mono (by decide)) (af (qv 0) (af (aV bh dC (by rfl) T.eX dB (af (qv 1) aj)) aj))) (iw rfl (bM (aT (i:=5) gz.nd rfl (Or.inr rfl)) (bM (aT (i:=6) gz.nd rfl (Or.inl rfl)) fV))))
   (ak (aP (i:=7) gz.nd rfl (Or.inl rfl) (eL aj))
   (ak (er PassesOwn.never rfl (IE (by rfl) T.xN (af (qv 5) (af (qv 6) aj))) (iw rfl (bM (aT (i:=3) gz.nd rfl (Or.inl rfl)) (bM (aT (i:=8) gz.nd rfl (Or.inl rfl)) fV))) (ak (oT (cA (qv 1) (qv 3) (fun _ _=>rfl)) (iw rfl (bM (aT (i:=9) gz.nd rfl (Or.inl rfl)) (bM (aT (i:=10) gz.nd rfl (Or.inl rfl)) fV))))
   (aq (fU (nE PySem.F.slot_list_append PySem.F.type_list_append fQ hC (qv 7) (af (cA (eL (af (dZ (af (qv 9) (af (qv 10) aj))) (af (dZ (af (qv 10) (af (qv 9) aj))) aj))) (qv 8) (fun _ _=>rfl)) aj))))))
   (ak (bV (br (m6 hr.units) Ey (bC (qF T) T.fA.m T.fA.F.kp T.fA.b (hr.mono (by decide)) (af (qv 7) aj)) (qv 2) (aZ _)) (aq (aD fS)) bc)
   (ak (rC (i:=11) (N':=["_law_some","_law_order_here"]) (cap:=[none,some 5]) (ir (sc:=au (top 43)) (NN:=["_law_script","_law_sides_here","_law_found","_law_k","_law_one","_law_order_here","_law_about","_law_others","_law_turned_about","_law_a","_law_b","_law_paper"]) rfl rfl rfl (by decide +kernel) (by decide +kernel) (by decide +kernel) (by decide +kernel)) rfl (iy (bC (jI T) T.cg.m T.cg.F.kp T.cg.b (hr.mono (by decide)) (af (qv 7) aj))) (fun _ _ _ _=>(aT (i:=0) (show List.Nodup (["_law_some","_law_order_here"]:List Str)by decide +kernel) rfl (Or.inl rfl))) (fun _ _ _ _=>dH) (fun _ _ _ _=>(aV uh yx (by rfl) T.zi wD (af (kx (N':=["_law_k","_law_order_here"]) (cap:=[none,some 1]) (ir (sc:={ kind:=.function,names:=[(".0",.local),("_law_some",.local),("sorted",.globalImplicit),("_law_order_here",.cell)],isGenerator:=false,isCoroutine:=false }) (NN:=["_law_some","_law_order_here"]) rfl rfl rfl (by decide +kernel) (by decide +kernel) (by decide +kernel) (by decide +kernel)) rfl (iy (qv 0)) (fun _ _ _ _=>(aT (i:=0) (show List.Nodup (["_law_k","_law_order_here"]:List Str)by decide +kernel) rfl (Or.inl rfl))) (fun _ _ _ _=>dH) (fun _ _ _ _=>(cA (qv 1) (qv 0) (fun _ _=>rfl)))) aj))) gz.nd rfl (Or.inl rfl) (by rfl))
   (ak (bV (br (m6 hr.units) Ey (qv 11) (bC (jI T) T.cg.m T.cg.F.kp T.cg.b (hr.mono (by decide)) (af (qv 1) aj)) (aZ _)) (aq (aD fS)) bc)
   (aq (aD (Pu (i_ kh ku (aV bh dC (by rfl) T.eX dB (af (qv 2) aj)) ai (aZ _)) (rn (rA (i_ (et hr.units) Ex (bC (qF T) T.fA.m T.fA.F.kp T.fA.b (hr.mono (by decide)) (af (qv 2) aj)) (qv 2) (aZ _)) (rn (i_ (et hr.units) Ex (bC (jI T) T.cg.m T.cg.F.kp T.cg.b (hr.mono (by decide)) (af (qv 2) aj)) (kx (N':=["_law_k"]) (cap:=[none]) (ir (sc:=au (top 43)) (NN:=["_law_script","_law_sides_here","_law_found","_law_k","_law_one","_law_order_here","_law_about","_law_others","_law_turned_about","_law_a","_law_b","_law_paper"]) rfl rfl rfl (by decide +kernel) (by decide +kernel) (by decide +kernel) (by decide +kernel)) rfl (iT (by rfl) T.jB (af (aV bh dC (by rfl) T.eX dB (af (qv 2) aj)) aj)) (fun _ _ _ _=>(aT (i:=0) (show List.Nodup (["_law_k"]:List Str)by decide +kernel) rfl (Or.inl rfl))) (fun _ _ _ _=>dH) (fun _ _ _ _=>(eL (af (qv 0) aj)))) (aZ _))))))))))))))))))
end
theorem fD{K:PySem.W.Frag}{h:Heap}{mg:Str→Option Value}{x:Str}{i:Nat}{ps:List Str}{f:Addr}{oc kV doc pm bz ct:Value}{od an:Option Addr}{kN:Array (Option Value)}(X:K.In h)(G:h.Ns mainGlobals mg)(a:PySem.W.nsIn K mainGlobals x=some (some (.ref f)))
  (l:K.lookup f=some ⟨oc,od,.func (PySem.W.fnOf x x (eZ (top i)) (dm (top i)) (au (top i)) .none kV doc pm an bz ct),kN⟩)(c:PySem.W.codeIn K bz x=true)(k:PySem.W.keepIn K (.ref f)=true)
  (hb:∀(kV doc pm:Value) (an:Option Addr) (bz ct:Value) (us:List Value),us.length=ps.length→bindArgs (PySem.W.fnOf x x (eZ (top i)) (dm (top i)) (au (top i)) .none kV doc pm an bz ct) ⟨us,[]⟩=pure (ps.zip us)):
  FD K mg x i ps f (PySem.W.fnOf x x (eZ (top i)) (dm (top i)) (au (top i)) .none kV doc pm an bz ct):=⟨Ef l c k,PySem.W.mg_of X G a,(Ef l c k).binds hb⟩
theorem Rr{K:PySem.W.Frag}{mg:Str→Option Value}{x y:Str}{i j:Nat}{ps qs:List Str}{f g:Addr}{d e:FuncData}(a:FD K mg x i ps f d)(b:FD K mg y j qs g e)(h:y≠x):f≠g:=fun z=>by
 obtain⟨oc,od,kV,doc,pm,an,bz,ct,kN,rfl,l,c⟩:=a.F.ex
 obtain⟨Y4,Y5,Y6,Ys,Y7,Y8,Yt,Y9,Yu,rfl,l2,c2⟩:=b.F.ex
 rw[z,l2]at l
 exact Ga h l
theorem GG{K:PySem.W.Frag}{h:Heap}{mg:Str→Option Value}{f td:Addr}{oc kV doc pm bz ct tc:Value}{od an Xc:Option Addr}{kN Xd:Array (Option Value)}{tn:Nat}{tk:Tok}(X:K.In h)(G:h.Ns mainGlobals mg)(a:PySem.W.nsIn K mainGlobals "spot" =some (some (.ref f)))
  (l:K.lookup f=some ⟨oc,od,.func (PySem.W.fnOf "spot" "spot" (eZ (top 3)) (dm (top 3)) (au (top 3)) (.ref td) kV doc pm an bz ct),kN⟩)(c:PySem.W.codeIn K bz "spot" =true)(k:PySem.W.keepIn K (.ref f)=true)(dl:K.lookup td=some ⟨tc,Xc,.seq #[Value.int 1 tk] tn,Xd⟩):
  FE K mg "spot" 3 ["x","y","w"] f (PySem.W.fnOf "spot" "spot" (eZ (top 3)) (dm (top 3)) (au (top 3)) (.ref td) kV doc pm an bz ct):=⟨HJ l c k,PySem.W.mg_of X G a,fun s us Fj hl=>by
 obtain⟨_,_,_,rfl⟩:=Pb hl
 exact BindsTo.of_defaults rfl (Fj _ _ dl) rfl rfl rfl⟩
theorem tx{K:PySem.W.Frag}{mg:Str→Option Value}{f0 f1 f2 f3 f4 f5 f6 f7 f8 f9 Xe Xf Xg Xh Xi Xj Xk Xl Xm Xn Xo Xp Xq Xr Xs Xt Xu Xv Xw Xx Xy Xz XB XC XD XF XH XJ:Addr}{d0 d1 d2 d3 d4 d5 d6 d7 d8 d9 x9 XM XN XQ XR XU XW XX XY XZ X0 X1 X2 X3 X4 X5 X6 X7 X8 X9 X_ Ya Yb Yc Yd Ye Yf UP:FuncData}(T:Txt K mg ⟨f0,d0,f1,d1,f2,d2,f3,d3,f4,d4,f5,d5,f6,d6,f7,d7,f8,d8,f9,d9,Xe,x9,Xf,XM,Xg,XN,Xh,XQ,Xi,XR,Xj,XU,Xk,XW,Xl,XX,Xm,XY,Xn,XZ,Xo,X0,Xp,X1,Xq,X2,Xr,X3,Xs,X4,Xt,X5,Xu,X6,Xv,X7,Xw,X8,Xx,X9,Xy,X_,Xz,Ya,XB,Yb,XC,Yc,XD,Yd,XF,Ye,XH,Yf,XJ,UP⟩)(hb:(∀(s:Shared) (v:Value),BindsTo s UP ⟨[v],[]⟩ [("_law_script",v)])):∃t,Txt K mg t∧(∀(s:Shared) (v:Value),BindsTo s t.Aw ⟨[v],[]⟩ [("_law_script",v)]):=⟨_,T,hb⟩
theorem walk{l:PySem.W.OpenLaw}{q:Program}{loose:List Str}{XP:(Str→Option Value)→Heap→Prop}{YP:World→Heap→Prop}{d:DefRec}{K:Params→PySem.W.Frag}(hn:l.most=some 63)(Hu:d.params.defaults=[])
  (hY:∀(w:World) (h:Heap),YP w h→(K w.params).In h)
  (F:∀(w:World) (mg:Str→Option Value) (fa:Addr) (h:Heap),(K w.params).In h→h.Ns mainGlobals mg→mg d.name=some (.ref fa)→
   ∃fd:FuncData,(∀(s:Shared) (u:Value),BindsTo s fd ⟨[u],[]⟩ [("_law_script",u)])∧∀base:Heap,(K w.params).In base→base.Ns mainGlobals mg→bH l.prog w (K w.params) mg base cW 10 fa fd ["_law_script"] (spT (K w.params) w6)):
  PySem.W.WalkO q loose XP YP l.row.toRowW d [] (fun f vs=>PySem.call f vs):=
 L2.Hx (n:=63) (k:=10) (x:="_law_script") (CX:=fun _=>cW) (sp:=fun w=>spT (K w.params) w6) hn (by decide) Hu ⟨rfl,by decide,by decide⟩ hY F (fun _ _ a ns hl hO hS x y hn=>let ⟨_,h⟩:=GD x y hn ns hl;L_ hO hS h) fun _ _ _ _ _ z=>z
end dh
open PySem PySem.W PyProof.Rows
local macro_rules|`(tactic|walk_at "hb")=>`(tactic|(rintro _ _ _ _ _ _ (_|⟨_,_|⟨_,_|⟨_,_|⟨_,_⟩⟩⟩⟩) hl<;>first|rfl|(simp at hl)))
local macro_rules (kind:=Lean.Parser.Term.structInst)|stx=>do
 if (stx.find? fun x=>x.isIdent&&x.getId.eraseMacroScopes==`globals).isSome then Lean.Macro.throwError "as a whole" else Lean.Macro.throwUnsupported
set_option maxRecDepth 100000 in
set_option maxHeartbeats 0 in
theorem PySem.Challenge.cw_sheetlay_k33_whole_pieces_holds : PySem.Challenge.rw_sheetlay_k33_whole_pieces.Holds := by
 w_on;o_law;k_head;(case hw=>w_witness2)
 k_fill
 refine dh.walk (l:=PySem.Challenge.rw_sheetlay_k33_whole_pieces) rfl rfl (fun w h Y=>PySem.W.km_in_of Y) ?F
 case F=>
  intro w mg fa h KX G Hv
  have TT:∃t,dh.Txt (L2.Sn KX) mg t∧(∀(s:Shared) (v:Value),BindsTo s t.Aw ⟨[v],[]⟩ [("_law_script",v)]):=by
   dsimp only[L2.Sn]
   refine' dh.tx ⟨dh.fD KX G ?_ ?_ ?_ ?_ (by walk_at "hb"),dh.GG KX G ?_ ?_ ?_ ?_ ?_,dh.fD KX G ?_ ?_ ?_ ?_ (by walk_at "hb"),dh.fD KX G ?_ ?_ ?_ ?_ (by walk_at "hb"),dh.fD KX G ?_ ?_ ?_ ?_ (by walk_at "hb"),dh.fD KX G ?_ ?_ ?_ ?_ (by walk_at "hb"),dh.fD KX G ?_ ?_ ?_ ?_ (by walk_at "hb"),dh.fD KX G ?_ ?_ ?_ ?_ (by walk_at "hb"),dh.fD KX G ?_ ?_ ?_ ?_ (by walk_at "hb"),dh.fD KX G ?_ ?_ ?_ ?_ (by walk_at "hb"),dh.fD KX G ?_ ?_ ?_ ?_ (by walk_at "hb"),dh.fD KX G ?_ ?_ ?_ ?_ (by walk_at "hb"),dh.fD KX G ?_ ?_ ?_ ?_ (by walk_at "hb"),dh.fD KX G ?_ ?_ ?_ ?_ (by walk_at "hb"),dh.fD KX G ?_ ?_ ?_ ?_ (by walk_at "hb"),dh.fD KX G ?_ ?_ ?_ ?_ (by walk_at "hb"),dh.fD KX G ?_ ?_ ?_ ?_ (by walk_at "hb"),dh.fD KX G ?_ ?_ ?_ ?_ (by walk_at "hb"),dh.fD KX G ?_ ?_ ?_ ?_ (by walk_at "hb"),dh.fD KX G ?_ ?_ ?_ ?_ (by walk_at "hb"),dh.fD KX G ?_ ?_ ?_ ?_ (by walk_at "hb"),dh.fD KX G ?_ ?_ ?_ ?_ (by walk_at "hb"),dh.fD KX G ?_ ?_ ?_ ?_ (by walk_at "hb"),dh.fD KX G ?_ ?_ ?_ ?_ (by walk_at "hb"),dh.fD KX G ?_ ?_ ?_ ?_ (by walk_at "hb"),dh.fD KX G ?_ ?_ ?_ ?_ (by walk_at "hb"),dh.fD KX G ?_ ?_ ?_ ?_ (by walk_at "hb"),dh.fD KX G ?_ ?_ ?_ ?_ (by walk_at "hb"),dh.fD KX G ?_ ?_ ?_ ?_ (by walk_at "hb"),dh.fD KX G ?_ ?_ ?_ ?_ (by walk_at "hb"),dh.fD KX G ?_ ?_ ?_ ?_ (by walk_at "hb"),dh.fD KX G ?_ ?_ ?_ ?_ (by walk_at "hb"),dh.fD KX G ?_ ?_ ?_ ?_ (by walk_at "hb"),dh.fD KX G ?_ ?_ ?_ ?_ (by walk_at "hb"),dh.fD KX G ?_ ?_ ?_ ?_ (by walk_at "hb"),dh.fD KX G ?_ ?_ ?_ ?_ (by walk_at "hb"),dh.fD KX G ?_ ?_ ?_ ?_ (by walk_at "hb"),dh.fD KX G ?_ ?_ ?_ ?_ (by walk_at "hb"),PySem.W.mg_none_of KX G ?_,PySem.W.mg_none_of KX G ?_,PySem.W.mg_none_of KX G ?_,PySem.W.mg_none_of KX G ?_,PySem.W.mg_none_of KX G ?_,PySem.W.mg_none_of KX G ?_,PySem.W.mg_none_of KX G ?_,PySem.W.mg_none_of KX G ?_,PySem.W.mg_none_of KX G ?_,PySem.W.mg_none_of KX G ?_,PySem.W.mg_none_of KX G ?_,PySem.W.mg_none_of KX G ?_,PySem.W.mg_none_of KX G ?_,PySem.W.mg_none_of KX G ?_,PySem.W.mg_none_of KX G ?_⟩ (fun s v=>.of_eq rfl)
   all_goals try dsimp only
   any_goals k_is
  obtain⟨t,T,hb⟩:=TT
  have fO:=dh.Rr T.bD T.gM (by decide)
  have e0:=Hv.symm.trans T.Kr.m
  cases e0
  exact⟨_,hb,fun base _ _=>(dh.Ny T).imp fun _ _ _ _ q=>q _ _ fO⟩
