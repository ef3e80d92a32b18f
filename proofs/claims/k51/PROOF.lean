import PyProof.Rows.All
import Wide.All
import OpenK.AllK
import Wide.FinOn
import Lean
import PyProof.EqAt
import PyProof.EqKinds
import PyProof.TupleCall
import PySem.Challenge.RW_tapeproof_k51_papers_of_contexts
local macro_rules | `(tactic| omega) => `(tactic| lia)
set_option Elab.async false
set_option linter.all false
set_option maxRecDepth 100000
noncomputable section
abbrev VP:=PySem.Value->PySem.Shared->Prop
abbrev LAO:=List (PySem.Addr×PySem.Obj)
abbrev SOV:=PySem.Str->Option PySem.Value
def Ua:=@PySem.wpAny_bind
def Ub:=@List.length_map
def Uc:=@List.getElem?_set_ne
def Ud:=@PySem.wpAny_pure
def Ue:=@Nat.le_trans
def Uf:=@List.mem_singleton
def Ug:=@PySem.Heap.get?_push_of_some
def Uh:=@List.length_append
def Ui:=@List.getElem?_append_left
def Uj:=@if_pos
def Uk:=@Bool.false_ne_true
def Ul:=@List.getElem?_eq_some_iff
def Um:=@Nat.le_refl
def Uo:=@if_neg
def Uq:=@List.mem_append
def Ur:=@List.size_toArray
def Us:=@List.mem_cons_self
def Ut:=@List.mem_cons_of_mem
def Uu:=@decide_eq_false
def Uv:=@List.mem_cons
def Uw:=@PySem.Heap.lt_size
def Ux:=@Nat.lt_of_lt_of_le
def Uy:=@List.length_cons
def Uz:=@List.map_append
def UA:=@PySem.Heap.get?_push_size
def UB:=@decide_eq_true
def UC:=@List.map_cons
def UD:=@List.mem_append_right
def UE:=@List.mem_map
def UG:=@List.length_set
def UH:=@Bool.false_eq_true
def UJ:=@Int.emod_lt_of_pos
def UK:=@List.getElem?_map
def UL:=@List.all_eq_true
def UN:=@List.getElem?_append_right
def UO:=@of_decide_eq_true
def UP:=@Nat.ne_of_lt
def UQ:=@List.append_assoc
def UR:=@List.mem_of_getElem?
def US:=@Bool.and_eq_true
def UT:=@Int.emod_nonneg
def UU:=@List.getElem?_set_self
def UV:=@List.getElem?_eq_getElem
def UW:=@List.take_succ_eq_append_getElem
def UX:=@PySem.wpAny_call_entry
def UY:=@List.getElem_mem
def UZ:=@PySem.wpAny_newObj_type
def U0:=@PyProof.Rows.slot_tuple_getitem
def U1:=@PySem.W.mg_none_of
def U2:=@List.length_replicate
def U3:=@PySem.W.kia_one
def U4:=@decide_eq_decide
def U5:=@List.take_length
def U6:=@List.not_mem_nil
def U7:=@PyProof.Rows.wpS_bind
def U8:=@Option.map_eq_some_iff
def U9:=@beq_eq_false_iff_ne
def Ta:=@Array.length_toList
def Tc:=@List.length_singleton
def Td:=@PySem.wpAny_truthy_bool
def Te:=@PySem.wpAny_callSpecial?_slot
def Tf:=@PySem.wpAny_mono
def Tg:=@PySem.F.slot_dict_valueiterator_next
def Th:=@PySem.wpAny_holding
def Ti:=@PySem.Heap.get?_update_other
def Tj:=@PySem.F.slot_dict_keyiterator_next
def Tk:=@Bool.eq_iff_iff
def Tl:=@List.find?_cons
def Tn:=@PySem.sizeLine_eq
def To:=@Array.getElem?_eq_some_iff
def Tq:=@if_false
def Tr:=@List.any_cons
def Ts:=@List.getElem?_eq_none_iff
def Tt:=@List.mem_filter
def Tu:=@List.append_nil
def Tv:=@PyProof.Rows.wpS_pure
def Tw:=@Nat.lt_succ_self
def Tx:=@List.length_take
def Tz:=@List.filter_cons
def TB:=@Nat.le_add_right
def TC:=@PySem.wpAny_typeNameOfWhole_keyiter
def TD:=@PySem.wpAny_typeNameOfWhole_valiter
def TF:=@Nat.lt_irrefl
def TH:=@List.mem_append_left
def TJ:=@List.length_dropLast
def TK:=@PySem.F.plainAttrs_list
def TL:=@List.getElem?_cons_succ
def TM:=@List.getElem?_cons_zero
def TN:=@decide_eq_true_eq
def TQ:=@PySem.W.kia_tup
def TU:=@List.filterMap_cons
def TV:=@congrArg
def TW:=@PySem.mem_of_lookup
def TX:=@Bool.not_true
def TY:=@List.mem_flatMap
def TZ:=@Array.perm_iff_toList_perm
def T0:=@PySem.wpAny_tupleItemsOf
def T1:=@List.filter_append
def T2:=@Array.getElem?_toList
def T3:=@List.length_filter_le
def T4:=@PySem.wpAny_passesOwn
def T5:=@List.nodup_cons
def T6:=@PySem.Value.isInt_shape
def T7:=@List.nodup_append
def T8:=@PySem.wpAny_dictEntries
def T9:=@Int.toNat_natCast
def Ra:=@List.map_map
def Rb:=@PySem.wpAny_field
def Rc:=@PySem.wpAny_rule
def Re:=@PySem.Heap.SameBut.update
def Rf:=@List.map_congr_left
def Rg:=@List.replicate_succ
def Rh:=@List.getElem?_replicate
def Ri:=@PySem.Calls.callWith_builtin
def Rj:=@List.take_of_length_le
def Rk:=@List.filter_eq_nil_iff
def Rl:=@PySem.wpAny_Call_Name_kw
def Rm:=@List.pairwise_cons
def Rn:=@PySem.F.slot_dict_setdefault
def Ro:=@PySem.wpAny_typeOf
def Rq:=@PySem.Heap.get?_update_self
def Rr:=@PySem.wpAny_notOrdered_dict
def Rs:=@List.dropLast_eq_take
def Rt:=@PySem.W.kitx_list
def Ru:=@List.mem_range
def Rv:=@beq_iff_eq
def Rw:=@Nat.le_of_not_lt
def Rx:=@PySem.wpAny_forIn_list
def Ry:=@List.pairwise_iff_getElem
def Rz:=@Int.toNat_of_nonneg
def RA:=@or_false
def RB:=@PySem.F.args_tuple_add_2
def RC:=@List.mem_of_mem_eraseIdx
def RD:=@List.all_cons
def RE:=@PySem.W.mg_of
def RF:=@PySem.Obj.data_mapFields
def RG:=@PySem.F.entry_tuple_add
def RH:=@List.eraseIdx_cons_succ
def RI:=@List.length_eq_zero_iff
def RJ:=@List.filter_cons_of_pos
def RK:=@List.length_eraseIdx_le
def RL:=@PySem.call_meets
def RM:=@Nat.zero_le
def RN:=@Int.le_refl
def RO:=@PySem.F.args_dict_valueiterator_next_1
def RP:=@PySem.F.slot_tuple_add
def RQ:=@if_true
def RS:=@PySem.F.slot_tuple_hash
def RT:=@Bool.and_false
def RU:=@PySem.wpAny_setField
def RV:=@Nat.le_of_lt
def RW:=@List.eraseIdxIfInBounds_toArray
def RX:=@PySem.F.entry_dict_valueiterator_next
def RY:=@getElem?_pos
def RZ:=@PyProof.Rows.wpS_forRange
def R0:=@PySem.isSubtype_tuple_tuple
def Wa:=@PySem.wpAny_isOneOf_valiter
def Wb:=@List.getElem?_eq_none
def Wc:=@List.take_append_drop
def Wd:=@PySem.F.args_dict_keyiterator_next_1
def We:=@PySem.F.args_dict_setdefault_3
def Wf:=@PySem.wpAny_isInstance
def Wg:=@PySem.F.entry_dict_keyiterator_next
def Wh:=@PySem.F.entry_dict_setdefault
def Wi:=@Nat.add_assoc
def Wj:=@PySem.wpAny_attempt
def Wk:=@List.dropLast_subset
def Wm:=@PySem.wpAny_execs_nil
def Wn:=@PySem.wpAny_dictEpoch
def Wo:=@List.length_nil
def Wp:=@PySem.W.plainGet_of
def Wq:=@Bool.or_eq_true_iff
def Ws:=@List.flatMap_append
def Wt:=@PyProof.Rows.callWith_type1
def Wu:=@PySem.wpAny_richCompare_same_room
def Wv:=@PyProof.Rows.pairsOf_size
def Ww:=@PySem.call_meetsIn
def Wx:=@List.set_set
def Wy:=@PySem.Calls.Name_function_global
def Wz:=@Array.append_assoc
def WA:=@List.mem_filterMap
def WB:=@PySem.W.kitx_tuple
def WC:=@PySem.SeqAt.EqAt.int_int
def WD:=@PySem.W.callWith_K
def WE:=@Bool.not_false
def WF:=@PyProof.Rows.pairsOf_toList
def WH:=@PySem.W.kitx_dict
def WI:=@List.pairwise_map
def WJ:=@PySem.wpAny_pyIter_list
def WK:=@Bool.eq_false_iff
def WM:=@PySem.F.slot_list_insert
def WN:=@PySem.F.slot_dict_values
def WP:=@List.eq_of_mem_replicate
def WQ:=@PySem.wpAny_standAt
def WT:=@PySem.F.plainAttrs_dict
def WU:=@List.filter_cons_of_neg
def WV:=@Nat.add_sub_cancel_left
def WW:=@List.getElem_inj
def WX:=@PySem.noFill_tuple_add
def WY:=@List.length_drop
def WZ:=@PySem.F.slot_tuple_mul
def W1:=@PySem.W.cellsFrom_some
def W4:=@Array.getElem?_eq_none
def W5:=@List.zipWith_cons_cons
def W7:=@PySem.codeAny_mono
def Ba:=@List.of_mem_zip
def Bb:=@PySem.SeqAt.EqAt.same
def Bc:=@PySem.wpAny_specialOf
def Be:=@PySem.F.slot_tuple_eq
def Bf:=@List.foldl_cons
def Bj:=@PySem.W.methodCall_KW
def Bk:=@PySem.F.slot_list_pop
def Bl:=@PySem.F.type_list_pop
def Bm:=@PySem.F.slot_dict_get
def Bs:=@List.getElem?_of_mem
def Bu:=@Bool.and_eq_true_iff
def Bw:=@List.mem_of_mem_take
def Bx:=@PySem.Heap.size_push
def By:=@PySem.Paired.snoc
def BH:=@Bool.or_false
def BR:=@PySem.typeIs_int
open PySem.W (Frag InitBack Looks any_some bind_fn callWith_K callWith_K0 cellsFrom_some codeIn codeRec_of emptyDict eq_bytes findIn findObj_own fnOf get_value handedIn hasDictIn hideAll hideAll_get hideAll_none hideAll_size instObj isFn kdu_collect keepIn ki_setAt ki_setBack kia_one kia_tup kitAny kitOne kitx_bool kitx_dict kitx_float kitx_int kitx_list kitx_none kitx_own kitx_str kitx_tuple lookIn looks_clsIn looks_findIn make_core makesIn makes_of methodCall_KW methodObj method_fn mg_none_of mg_of mroIn ne_bytes nsIn of_hideAll osa_open plainGet plainGet_of plainOver set_plain specialIn takerIn takesIn typeIn)
namespace L2
open PySem PySem.Spec PyProof.Rows
abbrev Key:=Sum Int Str
def QhG:Key->Value->Bool
 |.inl k,v=>Value.isInt k v|.inr x,v=>Value.isStrOf x v
def keyH(w:World):Key->Int
 |.inl k=>hashInt k|.inr x=>hashStr w x
theorem Zn:∀{k:Key}{v:Value},QhG k v=true->(∃i t,k=Sum.inl i/\v=Value.int i t)\/(∃x t,k=Sum.inr x/\v=Value.str x t)
 |.inl i,v,h=>by obtain⟨t,e⟩:=T6 (k:=i) (v:=v) h;exact .inl ⟨i,t,rfl,e⟩
 |.inr x,v,h=>by obtain⟨t,e⟩:=Value.isStrOf_shape (x:=x) (v:=v) h;exact .inr ⟨x,t,rfl,e⟩
theorem Qis(i:Int)(t:Tok):QhG (.inl i) (.int i t)=true:=by simp[QhG,Value.isInt]
theorem Qit(x:Str)(t:Tok):QhG (.inr x) (.str x t)=true:=by simp[QhG,Value.isStrOf]
theorem Qn5(a b:Int):decide ((Sum.inl a:Key)=Sum.inl b)=(a==b):=by
 by_cases e:a=b
 ·subst e;simp
 ·have h:¬(Sum.inl a:Key)=Sum.inl b:=λq=>e (Sum.inl.inj q);rw[Uu h];exact(U9.mpr e).symm
theorem Qn6(a b:Str):decide ((Sum.inr a:Key)=Sum.inr b)=decide (a=b):=by
 by_cases e:a=b
 ·subst e;simp
 ·have h:¬(Sum.inr a:Key)=Sum.inr b:=λq=>e (Sum.inr.inj q);rw[Uu h,Uu e]
theorem Qn7(a:Int)(b:Str):decide ((Sum.inl a:Key)=Sum.inr b)=false:=Uu (λq=>nomatch q)
theorem Qn8(a:Str)(b:Int):decide ((Sum.inr a:Key)=Sum.inl b)=false:=Uu (λq=>nomatch q)
def J4(prog:Program)(w:World):PySem.KeyKind prog w Key where
 is:=QhG
 hash:=keyH w
 inj:=λv a b ha hb=>by
  rcases Zn ha with⟨i,t,rfl,rfl⟩|⟨x,t,rfl,rfl⟩
  ·rcases Zn hb with⟨j,u,rfl,e⟩|⟨y,u,rfl,e⟩
   ·injection e with e1 _;rw[e1]
   ·exact nomatch e
  ·rcases Zn hb with⟨j,u,rfl,e⟩|⟨y,u,rfl,e⟩
   ·exact nomatch e
   ·injection e with e1 _;rw[e1]
 byValue:=λk v h=>by rcases Zn h with⟨i,t,rfl,rfl⟩|⟨x,t,rfl,rfl⟩<;>rfl
 pyHash:=λhv h=>by
  rcases Zn hv with⟨i,t,rfl,rfl⟩|⟨x,t,rfl,rfl⟩
  ·exact wpAny_pyHash_int h
  ·exact wpAny_pyHash_str h
 eqBool:=λhu hv h=>by
  rcases Zn hu with⟨i,t,rfl,rfl⟩|⟨x,t,rfl,rfl⟩
  ·rcases Zn hv with⟨j,u,rfl,rfl⟩|⟨y,u,rfl,rfl⟩
   ·rw[Qn5]at h;exact wpAny_eqBool_int h
   ·rw[Qn7]at h;exact SeqAt.EqAt.int_str i t y u _ _ _ _ h
  ·rcases Zn hv with⟨j,u,rfl,rfl⟩|⟨y,u,rfl,rfl⟩
   ·rw[Qn8]at h;exact SeqAt.EqAt.str_int x t j u _ _ _ _ h
   ·rw[Qn6]at h;exact wpAny_eqBool_str h
 «strs»:=λk x t v h=>by
  rcases Zn h with⟨i,u,rfl,e⟩|⟨y,u,rfl,e⟩
  ·exact nomatch e
  ·injection e with e1 _;subst e1;cases v<;>rfl
theorem QfR(prog:Program)(w:World)(i:Int)(t:Tok):(J4 prog w).is (.inl i) (.int i t)=true:=Qis i t
theorem QfS(prog:Program)(w:World)(x:Str)(t:Tok):(J4 prog w).is (.inr x) (.str x t)=true:=Qit x t
inductive V where
 |non|bl (b:Bool)|int (i:Int)|str (x:Str)|byt (b:Array UInt8)|flt (b:UInt64)|ref (a:Addr)|ty (n:String)
 deriving DecidableEq
def RelV:V->Value->Prop
 |.non,u=>u=Value.none|.bl b,u=>u=Value.bool b|.int i,u=>∃t,u=Value.int i t|.str x,u=>∃t,u=Value.str x t|.byt b,u=>∃t,u=Value.bytes b t|.flt b,u=>∃t,u=Value.float b t|.ref a,u=>u=Value.ref a|.ty n,u=>u=Value.type n
abbrev Vals:List V->List Value->Prop:=Paired RelV
theorem Vals.length(r:Vals xs us):xs.length=us.length:=Paired.length r
theorem Vals.get:∀{xs:List V}{us:List Value}{i:Nat}{x:V},Vals xs us->xs[i]?=some x->∃u,us[i]?=some u/\RelV x u
 |_,_,_,_,.nil,e=>by simp at e
 |_,_,0,_,.cons r _,e=>by simp at e;subst e;exact⟨_,rfl,r⟩
 |_,_,i+1,x,.cons _ t,e=>by obtain⟨u,h1,h2⟩:=Vals.get (i:=i) (x:=x) t (by simpa using e);exact⟨u,by simpa using h1,h2⟩
theorem Vals.set(r:RelV x u):∀{xs:List V}{us:List Value}(i:Nat),Vals xs us->Vals (xs.set i x) (us.set i u)
 |_,_,_,.nil=>.nil|_,_,0,.cons _ t=>.cons r t|_,_,i+1,.cons q t=>.cons q (Vals.set r i t)
theorem Vals.append:∀{xs ys:List V}{us ws:List Value},Vals xs us->Vals ys ws->Vals (xs++ys) (us++ws)
 |_,_,_,_,.nil,s=>s|_,_,_,_,.cons r t,s=>.cons r (Vals.append t s)
theorem Vals.take:∀{xs:List V}{us:List Value}(n:Nat),Vals xs us->Vals (xs.take n) (us.take n)
 |_,_,0,_=>.nil|_,_,_+1,.nil=>.nil|_,_,n+1,.cons r t=>.cons r (Vals.take n t)
theorem Vals.drop:∀{xs:List V}{us:List Value}(n:Nat),Vals xs us->Vals (xs.drop n) (us.drop n)
 |_,_,0,r=>r|_,_,_+1,.nil=>.nil|_,_,n+1,.cons _ t=>Vals.drop n t
theorem Vals.none_of:∀{xs:List V}{us:List Value}{i:Nat},Vals xs us->xs[i]?=none->us[i]?=none:=λ{xs us i} r e=>by have h1:=r.length;have h2:xs.length<=i:=Ts.mp e;exact Ts.mpr (by omega)
def RelO:Option V->Option Value->Prop
 |some v,some u=>RelV v u|none,none=>True|_,_=>False
def KV:List (κ×V)->List (κ×Value)->Prop:=Paired λ(p:κ×V)(q:κ×Value)=>p.1=q.1/\RelV p.2 q.2
def kV:Key->V
 |.inl i=>.int i|.inr x=>.str x
inductive HO where
 /-- a list -/
 |lst (xs:List V)
 /-- a tuple (never changes) -/
 |tup (xs:List V)
 /-- a dict whose keys are ints and texts;one whose keys are tuples of ints and texts (the empty one is both) -/
 |dK (kvs:List (Key×V))|dT (kvs:List (List Key×V))
 /-- a set of ints: its members,its size -/
 |set (S:Int->Bool) (n:Nat)
 /-- an instance of the class at C,its dict at dx,its attributes -/
 |ins (C dx:Addr) (fs:List (Str×V))
 /-- the dict of the instance at x -/
 |own (x:Addr)
 /-- the dict of an exception -/
 |xd (fs:List (Str×V))
 /-- a bound method,f of x -/
 |met (f x:Addr)
 /-- a range object lo,lo+1,.. below hi -/
 |rng (lo hi:Int)
 /-- a thing that is known to the object (the script;a dict while a loop walks it): read,never written while it is so -/
 |frz (o:Obj) (u:HO)
 /-- a code object's table -/
 |tbl (ps:Array Value)
 /-- any other thing,by what is true of its one object (a def of one's own: SetO a S n:=HO.ext λh=>..) -/
 |ext (φ:Heap->Prop)
abbrev Hp:=Addr->Option HO
def upd(H:Hp)(a:Addr)(o:HO):Hp:=λb=>if b=a then some o else H b
theorem Qr   : upd H a o a=some o:=by unfold upd;rw[Uj rfl]
theorem QL(h:b≠a):upd H a o b=H b:=by unfold upd;rw[Uo h]
theorem QdR{H:Hp}{a b:Addr}{o u:HO}(h:H a=some o)(h':H b=some u)(d:o≠u):a≠b:=by intro e;subst e;rw[h]at h';exact d (Option.some.inj h')
theorem QZ{H:Hp}{a b:Addr}{o:HO}(h:H a=some o)(h':H b=none):a≠b:=by intro e;subst e;rw[h]at h';cases h'
section
variable(P:Program)(w:World)
def ObjOk(H:Hp)(h:Heap)(a:Addr):HO->Prop
 |.lst xs=>xs.length<=sizeLine/\∃(its:List Value)(n:Nat),Vals xs its/\h.get? a=some {cls:=.type "list",data:=.seq its.toArray n}|.tup xs=>xs.length<=sizeLine/\∃its:List Value,Vals xs its/\IsTup h a its.toArray|.dK kvs=>kvs.length<=sizeLine/\(a==sysModules)=false/\∃vs,KV kvs vs/\h.DictOf (J4 P w) a vs|.dT kvs=>kvs.length<=sizeLine/\(a==sysModules)=false/\∃xs:List (List Key×Addr×Value),Paired (λ(p:List Key×V)(q:List Key×Addr×Value)=>p.1=q.1/\H q.2.1=some (.tup (p.1.map kV))/\RelV p.2 q.2.2) kvs xs/\∃o es ep,h.get? a=some o/\o.ExactDict/\o.data=.dict es ep/\es.toList=xs.map (entryOfKey (tupleKind (J4 P w)))/\(xs.map (·.1)).Nodup
 |.set S n=>h.SetOf (intKind P w) a S n|.ins C dx fs=>H dx=some (.own a)/\fs.length<=1000/\dx≠a/\h.get? a=some (instObj C dx)/\∃mA,h.Ns1 dx mA/\(∀f,RelO (fs.lookup f) (mA f))/\PySem.Within mA (fs.map (·.1))
 |.own _=>∃o,h.get? a=some o|.xd fs=>∃mA,h.Ns1 a mA/\∀f,RelO (fs.lookup f) (mA f)|.rng lo hi=>∃t u v,h.get? a=some {cls:=.type "range",data:=.fields #[.int lo t,.int hi u,.int 1 v]}|.frz o u=>h.get? a=some o/\ObjOk H h a u|.tbl ps=>h.get? a=some {cls:=.none,data:=.fields ps}|.met f x=>h.get? a=some (methodObj (.ref f) (.ref x))|.ext φ=>φ h/\(∃o,h.get? a=some o)/\∀h1 h2:Heap,φ h1->(∀o,h1.get? a=some o->h2.get? a=some o)->φ h2
def HOk(H:Hp)(h:Heap):Prop:=∀a o,H a=some o->ObjOk P w H h a o
end
section
variable{P:Program}{w:World}{H H':Hp}{h h':Heap}{a:Addr}{o:HO}
theorem ObjOk.lt(x:ObjOk P w H h a o):a<h.objs.size:=by
 cases o with
 |lst xs=>obtain⟨_,_,_,_,e⟩:=x;exact Uw e|tup xs=>obtain⟨_,_,_,p⟩:=x;exact p.lt|dK kvs=>obtain⟨_,_,_,_,o,_,_,e,_⟩:=x;exact Uw e|dT kvs=>obtain⟨_,_,_,_,o,_,_,e,_⟩:=x;exact Uw e|set S n=>obtain⟨o,_,_,_,e,_⟩:=x;exact Uw e|ins C dx fs=>obtain⟨_,_,_,e,_⟩:=x;exact Uw e|own y=>obtain⟨_,e⟩:=x;exact Uw e|xd fs=>obtain⟨_,⟨_,_,_,e,_⟩,_⟩:=x;exact Uw e|rng lo hi=>obtain⟨_,_,_,e⟩:=x;exact Uw e|frz ob u=>obtain⟨e,_⟩:=x;exact Uw e|tbl ps=>exact Uw (show h.get? a=some _ from x)|met f y=>exact Uw (show h.get? a=some _ from x)|ext φ=>obtain⟨_,⟨_,e⟩,_⟩:=x;exact Uw e
theorem Paired.mapP  : ∀{l₁:List α}{l₂:List β},Paired F l₁ l₂->(∀a b,F a b->G a b)->Paired G l₁ l₂
 |_,_,.nil,_=>.nil|_,_,.cons r t,f=>.cons (f _ _ r) (Paired.mapP t f)
theorem Paired.imp'(f:∀a b,F a b->G a b)(r:Paired F l₁ l₂):Paired G l₁ l₂:=Paired.mapP r f
theorem ObjOk.stay(x:ObjOk P w H h a o)(k:∀b u,(b=a\/H b=some (.own a))->h.get? b=some u->h'.get? b=some u)(ho:∀b,H b=some (.own a)->H' b=some (.own a))(ht:∀b xs,H b=some (.tup xs)->H' b=some (.tup xs)):ObjOk P w H' h' a o:=by
 induction o with
 |lst xs=>obtain⟨z,its,n,r,e⟩:=x;exact⟨z,its,n,r,k _ _ (.inl rfl) e⟩|tup xs=>obtain⟨z,its,r,ob,e,c⟩:=x;exact⟨z,its,r,ob,k _ _ (.inl rfl) e,c⟩|dK kvs=>obtain⟨z,y,vs,r,ob,es,ep,e,c⟩:=x;exact⟨z,y,vs,r,ob,es,ep,k _ _ (.inl rfl) e,c⟩|dT kvs =>obtain⟨z,y,xs,r,ob,es,ep,e,c⟩:=x;exact⟨z,y,xs,Paired.mapP r λp q z=>⟨z.1,ht _ _ z.2.1,z.2.2⟩,ob,es,ep,k _ _ (.inl rfl) e,c⟩|set S n=>obtain⟨ob,es,ep,t,e,c⟩:=x;exact⟨ob,es,ep,t,k _ _ (.inl rfl) e,c⟩|ins C dx fs =>obtain⟨d,z,ne,e,mA,⟨od,es,ep,e2,c⟩,r⟩:=x;exact⟨ho _ d,z,ne,k _ _ (.inl rfl) e,mA,⟨od,es,ep,k _ _ (.inr d) e2,c⟩,r⟩|own y=>obtain⟨ob,e⟩:=x;exact⟨ob,k _ _ (.inl rfl) e⟩|xd fs=>obtain⟨mA,⟨od,es,ep,e,c⟩,r⟩:=x;exact⟨mA,⟨od,es,ep,k _ _ (.inl rfl) e,c⟩,r⟩|rng lo hi=>obtain⟨t,u,v,e⟩:=x;exact⟨t,u,v,k _ _ (.inl rfl) e⟩|frz ob u ih=>obtain⟨e,q⟩:=x;exact⟨k _ _ (.inl rfl) e,ih q⟩|tbl ps =>have e:h.get? a=some {cls:=.none,data:=.fields ps}:=x;show h'.get? a=some {cls:=.none,data:=.fields ps};exact k a _ (.inl rfl) e|met f y =>have e:h.get? a=some (methodObj (.ref f) (.ref y)):=x;show h'.get? a=some (methodObj (.ref f) (.ref y));exact k a _ (.inl rfl) e|ext φ=>obtain⟨p,⟨o,e⟩,st⟩:=x;exact⟨st _ _ p λo q=>k _ _ (.inl rfl) q,⟨o,k _ _ (.inl rfl) e⟩,st⟩
theorem HOk.lt(x:HOk P w H h)(e:H a=some o):a<h.objs.size:=(x a o e).lt
theorem HOk.fresh(x:HOk P w H h)(e:h.objs.size<=a):H a=none:=by
 cases q:H a with
 |none=>rfl|some u=>exact absurd (Ux (x.lt q) e) (TF _)
theorem HOk.kept(x:HOk P w H h)(k:∀b u,h.get? b=some u->h'.get? b=some u):HOk P w H h':=λa o e=>
 (x a o e).stay (λb u _ q=>k b u q) (λ_ q=>q) λ_ _ q=>q
theorem HOk.laid(x:HOk P w H h)(k:∀b u,h.get? b=some u->h'.get? b=some u)(hp:h.objs.size<=a)(new:ObjOk P w (upd H a o) h' a o):HOk P w (upd H a o) h':=λb u e=>by
 have hn:=x.fresh hp;by_cases hb:b=a
 ·subst hb;rw[Qr]at e;cases e;exact new
 ·rw[QL hb]at e;exact(x b u e).stay (λc v _ q=>k c v q) (λc q=>by rw[QL (QZ q hn)];exact q) λc xs q=>by rw[QL (QZ q hn)];exact q
end
def Rd(H:Hp)(a:Addr)(u:HO):Prop:=H a=some u\/∃o,H a=some (.frz o u)
theorem Rd.of(h:H a=some u):Rd H a u:=.inl h
theorem Rd.ok(r:Rd H a u)(x:HOk P w H h):ObjOk P w H h a u:=by
 rcases r with r|⟨o,r⟩
 ·exact x a u r
 ·obtain⟨_,q⟩:=x a _ r;exact q
def Mut:Option HO->Prop
 |some (.lst _)=>True|some (.dK _)=>True|some (.dT _)=>True|some (.set _ _)=>True|some (.ins _ _ _)=>True|some (.ext _)=>True|_=>False
theorem HOk.write(ok:HOk P w H h)(mu:Mut (H x))(he:e=x\/H e=some (.own x))(k:∀b u,b≠e->h.get? b=some u->h'.get? b=some u)(heo:∃u,h'.get? e=some u)(new:ObjOk P w (upd H x o') h' x o'):HOk P w (upd H x o') h':=λb u q=>by
 have nown:∀c y,H c=some (.own y)->c≠x:=λc y r z=>by subst z;rw[r]at mu;exact mu
 have ntup:∀c xs,H c=some (.tup xs)->c≠x:=λc xs r z=>by subst z;rw[r]at mu;exact mu
 by_cases hb:b=x
 ·subst hb;rw[Qr]at q;cases q;exact new
 ·rw[QL hb]at q;by_cases hbe:b=e
  ·have q':H b=some (.own x):=by
    rcases he with z|z
    ·exact absurd (hbe.trans z) hb
    ·rw[hbe];exact z
   rw[q]at q';cases q';obtain⟨v,hv⟩:=heo;exact⟨v,by rw[hbe];exact hv⟩
  ·refine(ok b u q).stay (λc v hc r=>k c v ?_ r) (λc r=>by rw[QL (nown c b r)];exact r) λc xs r=>by rw[QL (ntup c xs r)];exact r
   rcases hc with rfl|hc
   ·exact hbe
   ·rintro rfl;rcases he with z|z
    ·exact nown c b hc z
    ·rw[hc]at z;cases z;exact hb rfl
structure Un(fs ex:List Addr)(H H':Hp)(h h':Heap):Prop where
 keep:∀b o,h.get? b=some o->H b=none->b∉fs->b∉ex->h'.get? b=some o
 slot:∀b o,h.get? b=some o->H b=none->b∈fs->b∉ex->∃sl,h'.get? b=some {o with slots:=sl}
 free:∀b o,h.get? b=some o->H b=none->b∉ex->H' b=none
 there:∀b o,h.get? b=some o->b∉ex->∃o',h'.get? b=some o'
 tups:∀b xs,H b=some (.tup xs)->H' b=some (.tup xs)
 frzs:∀b o u,H b=some (.frz o u)->H' b=some (.frz o u)
 tbls:∀b ps,H b=some (.tbl ps)->∃more,H' b=some (.tbl (ps++more))
section
variable{fs fs' ex ex':List Addr}{H H1 H2:Hp}{h h1 h2 h':Heap}{a x e:Addr}{o:HO}
theorem Un.any(u:Un fs ex H H1 h h1)(q:h.get? b=some ob)(n:H b=none)(hx:b∉ex):∃sl,h1.get? b=some {ob with slots:=sl}:=by
 by_cases hb:b∈fs
 ·exact u.slot b ob q n hb hx
 ·exact⟨ob.slots,u.keep b ob q n hb hx⟩
theorem Un.trans(a:Un fs ex H H1 h h1)(b:Un fs ex H1 H2 h1 h2):Un fs ex H H2 h h2 where
 keep:=λc ob q n hc hx=>b.keep c ob (a.keep c ob q n hc hx) (a.free c ob q n hx) hc hx
 slot:=λc ob q n hc hx=>by obtain⟨sl,e1⟩:=a.slot c ob q n hc hx;obtain⟨sl',e2⟩:=b.slot c _ e1 (a.free c ob q n hx) hc hx;exact⟨sl',e2⟩
 free:=λc ob q n hx=>by obtain⟨o',e1⟩:=a.there c ob q hx;exact b.free c o' e1 (a.free c ob q n hx) hx
 there:=λc ob q hx=>by obtain⟨o',e1⟩:=a.there c ob q hx;exact b.there c o' e1 hx
 tups:=λc xs q=>b.tups c xs (a.tups c xs q)
 frzs:=λc ob xs q=>b.frzs c ob xs (a.frzs c ob xs q)
 tbls:=λc ps q=>by obtain⟨m1,e1⟩:=a.tbls c ps q;obtain⟨m2,e2⟩:=b.tbls c _ e1;exact⟨m1++m2,by rw[e2,Wz]⟩
theorem Un.kept(k:∀b u,h.get? b=some u->h'.get? b=some u):Un fs ex H H h h':=⟨λb ob q _ _ _=>k b ob q,λb ob q _ _ _=>⟨ob.slots,k b ob q⟩,λ_ _ _ n _=>n,λb ob q _=>⟨ob,k b ob q⟩,λ_ _ q=>q,λ_ _ _ q=>q,λ_ ps q=>⟨#[],by rw[q];simp⟩⟩
theorem Un.refl:Un fs ex H H h h:=Un.kept λ_ _ q=>q
theorem Un.laid(k:∀b u,h.get? b=some u->h'.get? b=some u)(hp:h.objs.size<=a)(hn:H a=none):Un fs ex H (upd H a o) h h' where
 keep:=λb u q _ _ _=>k b u q
 slot:=λb u q _ _ _=>⟨u.slots,k b u q⟩
 free:=λb u q n _=>by rw[QL (UP (Ux (Uw q) hp))];exact n
 there:=λb u q _=>⟨u,k b u q⟩
 tups:=λb xs q=>by rw[QL (QZ q hn)];exact q
 frzs:=λb u xs q=>by rw[QL (QZ q hn)];exact q
 tbls:=λb ps q=>⟨#[],by rw[QL (QZ q hn),q];simp⟩
theorem Un.write(mu:Mut (H x))(he:e=x\/H e=some (.own x))(k:∀b u,b≠e->h.get? b=some u->h'.get? b=some u)(heo:∃u,h'.get? e=some u):Un fs ex H (upd H x o) h h':=by
 have hx:∀b,H b=none->b≠x:=λb n z=>by subst z;rw[n]at mu;exact mu
 have hb:∀b,H b=none->b≠e:=λb n z=>by
  subst z;rcases he with r|r
  ·exact hx b n r
  ·rw[n]at r;cases r
 have hm:∀b u,H b=some u->¬Mut (some u)->b≠x:=λb u q nm z=>by subst z;rw[q]at mu;exact nm mu
 refine⟨λb u q n _ _=>k b u (hb b n) q,λb u q n _ _=>⟨u.slots,k b u (hb b n) q⟩,λb u q n _=>by rw[QL (hx b n)];exact n,λb u q _=>?_,λb xs q=>by rw[QL (hm b _ q λz=>z)];exact q,λb u xs q=>by rw[QL (hm b _ q λz=>z)];exact q,λb ps q=>⟨#[],by rw[QL (hm b _ q λz=>z),q];simp⟩⟩
 by_cases hbe:b=e
 ·subst hbe;exact heo
 ·exact⟨u,k b u hbe q⟩
theorem Un.mono(u:Un fs ex H H1 h h1)(hs:∀b∈fs,b∈fs')(hx:∀b∈ex,b∈ex'):Un fs' ex' H H1 h h1:=⟨λb ob q n hb he=>u.keep b ob q n (λz=>hb (hs b z)) λz=>he (hx b z),λ_ _ q n _ he=>u.any q n λz=>he (hx _ z),λb ob q n he=>u.free b ob q n λz=>he (hx b z),λb ob q he=>u.there b ob q λz=>he (hx b z),u.tups,u.frzs,u.tbls⟩
end
def trk(h:Heap)(H:Hp):List Addr:=(List.range h.objs.size).filter λa=>(H a).isSome
def hidT(h:Heap)(H:Hp):Heap:=hideAll h (trk h H)
theorem Qiu(h:Heap)(H:Hp):(hidT h H).objs.size=h.objs.size:=hideAll_size _ _
theorem QkP(e:h.get? b=some o)(n:H b=none):(hidT h H).get? b=some o:=
 hideAll_get _ e λhm=>by have q:(H b).isSome=true:=(Tt.mp hm).2;rw[n]at q;simp at q
theorem QmH(e:(hidT h H).get? b=some o):h.get? b=some o/\H b=none:=by
 have e':h.get? b=some o:=of_hideAll (trk h H) e;refine⟨e',?_⟩;cases q:H b with
 |none=>rfl|some x =>have hm:b∈trk h H:=Tt.mpr ⟨Ru.mpr (Uw e'),by simp[q]⟩;have z:(hidT h H).get? b=none:=hideAll_none (trk h H) hm;rw[z]at e;cases e
def QmI(g h:Heap)(L:Addr):List (Addr×Obj):=(List.range h.objs.size).filterMap λa=>if a=L\/(g.get? a).isSome=true then none else (h.get? a).map λo=>(a,o)
def rest(g h:Heap)(L d:Addr):List (Addr×Obj):=(QmI g h L).filter λp=>decide (p.1≠d)
structure Mod(K:Frag)(mg:SOV)(base:Heap):Prop where
 kin:K.In base
 glob:base.Ns mainGlobals mg
 blt:∃mb,base.Ns builtinsNs mb/\∀x:Str,x ≠"__name__"->mb x=bootBuiltins x
 nolimit:base.NoLimit
/-- the context: a def's body (or a comprehension's block) running. base: fixed through the whole law;s₀,H₀: the entry;outer: the frames whose slots others may change (a def's callers);stack: all frames that run;
   ex: iterators that were made ahead of the entry and are walked here (a comprehension's);fn: the names whose cells were made at the entry (a def: all;a comprehension's block: its own);calm: not within an except suite;pn: pins that every state bears;xe: what is wanted of an exception that leaves the code -/
structure Cx where
 prog:Program
 w:World
 K:Frag
 mg:Str->Option Value
 base:Heap
 A:Around
 N:List Str
 s₀:Shared
 H₀:Hp
 env:Env
 outer:List Env
 stack:List Env
 ex:List Addr
 fn:Str->Bool
 calm:Bool
 pn:List (Addr×Obj)
 xe:Value->Shared->Prop
def frs(l:List Env):List Addr:=l.filterMap (·.frame)
abbrev Cx.fs(X:Cx):List Addr:=frs X.outer
def Vis(sc:Scope)(x:Str):Prop:=sc.names.lookup x=some .local\/sc.names.lookup x=some .cell\/sc.names.lookup x=some .free
def Loc(sc:Scope)(x:Str):Prop:=sc.names.lookup x=some .local\/sc.names.lookup x=some .cell
def Look(env:Env)(h:Heap)(m:SOV)(x:Str)(u:Value):Prop:=(env.kindOf x=some .local/\m x=some u)\/((env.kindOf x=some .cell\/env.kindOf x=some .free)/\∃c,env.cells.lookup x=some c/\h.IsCell c (some u))
structure Cx.Ok(X:Cx):Prop where
 mod:Mod X.K X.mg X.base
 kind:X.env.scope.kind=.function
 glob:X.env.globals=mainGlobals
 blt:X.env.builtins=builtinsNs
 above:X.s₀.heap.objs.size<=X.env.locals
 inj:∀x y c,X.env.cells.lookup x=some c->X.env.cells.lookup y=some c->x=y
 has:∀x,(X.env.kindOf x=some .cell\/X.env.kindOf x=some .free)->∃c,X.env.cells.lookup x=some c
 cab:∀x c,X.fn x=true->X.env.cells.lookup x=some c->X.s₀.heap.objs.size<=c
 hd:X.calm=true->X.A.handled=none
 frames:X.A.frames=some X.stack
 stk:X.stack=X.outer\/(X.stack=X.env::X.outer/\X.env.frame=some X.env.locals)
 exf:∀b∈X.ex,b≠X.env.locals/\∀x c,X.env.cells.lookup x=some c->c≠b
 bs:∀b o,X.base.get? b=some o->X.s₀.heap.get? b=some o/\X.H₀ b=none
 bsz:X.base.objs.size<=X.s₀.heap.objs.size
 noex:∀b o,X.base.get? b=some o->b∉X.ex
 exfs:∀b∈X.ex,b∉X.fs
 funs:X.s₀.heap.FunFrames X.base X.outer
 frf:∀b∈X.fs,X.H₀ b=none
structure Inv(X:Cx)(pins:LAO)(σ:List (Option V))(H:Hp)(s:Shared):Prop where
 ok:X.Ok
 os:s.os=X.s₀.os
 bare:AllBare s.gens
 base:Un X.fs X.ex X.H₀ H X.s₀.heap s.heap
 loc:∃m,s.heap.Ns X.env.locals m/\∀(i:Nat)(x:Str)(v:V),X.N[i]?=some x->σ[i]?=some (some v)->Vis X.env.scope x->∃u,RelV v u/\Look X.env s.heap m x u
 cell:∀x c,X.env.cells.lookup x=some c->∃v,s.heap.IsCell c v
 free:H X.env.locals=none
 freeC:∀x c,X.env.cells.lookup x=some c->H c=none
 pin:∀p∈X.pn++pins,s.heap.get? p.1=some p.2/\H p.1=none/\p.1≠X.env.locals/\p.1∉X.fs/\∀v,p.2.data≠.cell v
 hok:HOk X.prog X.w H s.heap
 len:σ.length=X.N.length
section
variable{X:Cx}{pins:LAO}{σ:List (Option V)}{H H':Hp}{s:Shared}{h':Heap}
theorem Cx.Ok.nofr(ok:X.Ok){b:Addr}{o:Obj}(e:X.base.get? b=some o):b∉X.fs:=λhb=>by have:=(ok.funs.mem hb).1;rw[e]at this;cases this
theorem Inv.bs(I:Inv X pins σ H s):∀b o,X.base.get? b=some o->s.heap.get? b=some o/\H b=none:=λb o e=>
 ⟨I.base.keep b o (I.ok.bs b o e).1 (I.ok.bs b o e).2 (I.ok.nofr e) (I.ok.noex b o e),I.base.free b o (I.ok.bs b o e).1 (I.ok.bs b o e).2 (I.ok.noex b o e)⟩
theorem Inv.bk(I:Inv X pins σ H s):∀b o,X.base.get? b=some o->s.heap.get? b=some o:=λb o e=>(I.bs b o e).1
theorem Inv.mod(I:Inv X pins σ H s):Mod X.K X.mg X.base:=I.ok.mod
theorem Inv.kIn(I:Inv X pins σ H s):X.K.In s.heap:=I.ok.mod.kin.keeps I.bk
theorem Inv.nolimit(I:Inv X pins σ H s):s.heap.NoLimit:=I.ok.mod.nolimit.keeps I.bk
theorem Inv.fr(I:Inv X pins σ H s):∃m,Fr X.base X.env.locals s.heap m:=
 let ⟨m,hn,_⟩:=I.loc
 ⟨m,hn,I.bk,Ue I.ok.bsz I.ok.above⟩
theorem Inv.lt(I:Inv X pins σ H s):X.env.locals<s.heap.objs.size:=let ⟨_,hn,_⟩:=I.loc;hn.lt
theorem Inv.sz(I:Inv X pins σ H s):X.s₀.heap.objs.size<=s.heap.objs.size:=Ue I.ok.above (RV I.lt)
theorem Inv.nofs(I:Inv X pins σ H s)(h:s.heap.objs.size<=a):a∉X.fs:=λhb=>by obtain⟨_,o,ho,_⟩:=I.ok.funs.mem hb;exact absurd (Ux (Uw ho) (Ue I.sz h)) (TF _)
theorem Inv.cne(I:Inv X pins σ H s):∀x c,X.env.cells.lookup x=some c->c≠X.env.locals:=λx c e z=>by obtain⟨v,o,ho,hd⟩:=I.cell x c e;obtain⟨m,⟨o',es,ep,ho',hd',_⟩,_⟩:=I.loc;rw[z,ho']at ho;cases ho;rw[hd']at hd;cases hd
theorem Inv.funs(I:Inv X pins σ H s):s.heap.FunFrames X.base X.outer:=by
 have all:∀(l:List Env),(∀b∈frs l,b∈X.fs)->X.s₀.heap.FunFrames X.base l->s.heap.FunFrames X.base l:=by
  intro l;induction l with
  |nil=>intro _ _;trivial|cons env r ih =>intro hs hl;obtain⟨hk,⟨L,o,hf,hn,ho,hd⟩,hr⟩:=hl;have hL:L∈X.fs:=hs L (by unfold frs;rw[TU,hf];exact Us);obtain⟨sl,e⟩:=I.base.slot L o ho (I.ok.frf L hL) hL λz=>I.ok.exfs L z hL;exact⟨hk,⟨L,_,hf,hn,e,hd⟩,ih (λb hb=>hs b (by unfold frs;rw[TU,hf];exact Ut _ hb)) hr⟩
 exact all X.outer (λ_ hb=>hb) I.ok.funs
theorem Inv.stack(I:Inv X pins σ H s):s.heap.FunFrames X.base X.stack:=by
 rcases I.ok.stk with e|⟨e,hf⟩
 ·rw[e];exact I.funs
 ·rw[e];obtain⟨m,hn,_⟩:=I.loc;refine .cons (by rw[I.ok.kind];decide) hf hn ?_ I.funs;exact Heap.get?_none_of_le (Ue I.ok.bsz I.ok.above)
theorem Inv.stkSub(I:Inv X pins σ H s):∀b∈frs X.stack,b∈X.env.locals::X.fs:=λb hb=>by
 rcases I.ok.stk with e|⟨e,hf⟩
 ·rw[e]at hb;exact Ut _ hb
 ·rw[e]at hb;unfold frs at hb;rw[TU,hf]at hb;exact hb
theorem Inv.stkFree(I:Inv X pins σ H s):∀b∈frs X.stack,H b=none:=λb hb=>by
 rcases Uv.mp (I.stkSub b hb) with e|hb
 ·rw[e];exact I.free
 ·obtain⟨_,o,ho,_⟩:=I.ok.funs.mem hb;exact I.base.free b o ho (I.ok.frf b hb) λz=>I.ok.exfs b z hb
theorem Inv.step{g':Array GenState}{t':Nat}{d':Drawn}{ch:List Addr}(I:Inv X pins σ H s)(hch:∀b∈ch,(b∈X.ex\/X.s₀.heap.objs.size<=b)/\b≠X.env.locals/\(∀x c,X.env.cells.lookup x=some c->c≠b)/\∀p∈X.pn++pins,p.1≠b)(keep:∀b o,b≠X.env.locals->b∉X.fs->b∉ch->s.heap.get? b=some o->H b=none->h'.get? b=some o)(slot:∀b o,b≠X.env.locals->b∈X.fs->b∉ch->s.heap.get? b=some o->H b=none->∃sl,h'.get? b=some {o with slots:=sl})(free:∀b o,b∉ch->s.heap.get? b=some o->H b=none->H' b=none)(there:∀b o,b∉ch->s.heap.get? b=some o->∃o',h'.get? b=some o')(tups:∀b xs,H b=some (.tup xs)->H' b=some (.tup xs))(frzs:∀b o u,H b=some (.frz o u)->H' b=some (.frz o u))(tbls:∀b ps,H b=some (.tbl ps)->∃more,H' b=some (.tbl (ps++more)))(ns:∀m,s.heap.Ns X.env.locals m->h'.Ns X.env.locals m)(hok:HOk X.prog X.w H' h')(hg:AllBare g'):
  Inv X pins σ H' {s with heap:=h',gens:=g',drawn:=d',toks:=t'}:=by
 have neL:∀b o,X.s₀.heap.get? b=some o->b≠X.env.locals:=λb o e=>UP (Ux (Uw e) I.ok.above);have neC:∀b o,X.s₀.heap.get? b=some o->b∉X.ex->b∉ch:=λb o e hx hb=>by
  rcases(hch b hb).1 with z|z
  ·exact hx z
  ·exact absurd (Ux (Uw e) z) (TF _)
 have cellK:∀x c,X.env.cells.lookup x=some c->∀v,s.heap.IsCell c v->h'.IsCell c v:=λx c e v ⟨o,ho,hd⟩=>by
  have nch:c∉ch:=λz=>(hch c z).2.2.1 x c e rfl;by_cases hc:c∈X.fs
  ·obtain⟨sl,q⟩:=slot c o (I.cne x c e) hc nch ho (I.freeC x c e);exact⟨_,q,hd⟩
  ·exact⟨o,keep c o (I.cne x c e) hc nch ho (I.freeC x c e),hd⟩
 refine⟨I.ok,I.os,hg,⟨λb o e n hb hx=>?_,λb o e n hb hx=>?_,λb o e n hx=>?_,λb o e hx=>?_,λb xs e=>tups b xs (I.base.tups b xs e),λb o xs e=>frzs b o xs (I.base.frzs b o xs e),λb ps e=>?_⟩,?_,λx c e=>?_,?_,λx c e=>?_,λp hp=>?_,hok,I.len⟩
 ·exact keep b o (neL b o e) hb (neC b o e hx) (I.base.keep b o e n hb hx) (I.base.free b o e n hx)
 ·obtain⟨sl,e1⟩:=I.base.slot b o e n hb hx;obtain⟨sl',e2⟩:=slot b _ (neL b o e) hb (neC b o e hx) e1 (I.base.free b o e n hx);exact⟨sl',e2⟩
 ·obtain⟨o',e1⟩:=I.base.there b o e hx;exact free b o' (neC b o e hx) e1 (I.base.free b o e n hx)
 ·obtain⟨o',e1⟩:=I.base.there b o e hx;exact there b o' (neC b o e hx) e1
 ·obtain⟨m1,e1⟩:=I.base.tbls b ps e;obtain⟨m2,e2⟩:=tbls b _ e1;exact⟨m1++m2,by rw[e2,Wz]⟩
 ·obtain⟨m,hn,hl⟩:=I.loc;refine⟨m,ns m hn,λi x v e1 e2 e3=>?_⟩;obtain⟨u,r,l⟩:=hl i x v e1 e2 e3;refine⟨u,r,?_⟩;rcases l with l|⟨k,c,e,z⟩
  ·exact .inl l
  ·exact .inr ⟨k,c,e,cellK x c e _ z⟩
 ·obtain⟨v,z⟩:=I.cell x c e;exact⟨v,cellK x c e v z⟩
 ·obtain⟨m,⟨o,_,_,ho,_⟩,_⟩:=I.loc;exact free _ o (λz=>(hch _ z).2.1 rfl) ho I.free
 ·obtain⟨v,o,ho,hd⟩:=I.cell x c e;exact free c o (λz=>(hch c z).2.2.1 x c e rfl) ho (I.freeC x c e)
 ·obtain⟨e,n,ne,nf,d⟩:=I.pin p hp;have nch:p.1∉ch:=λz=>(hch p.1 z).2.2.2 p hp rfl;exact⟨keep p.1 p.2 ne nf nch e n,free p.1 p.2 nch e n,ne,nf,d⟩
theorem Inv.un(I:Inv X pins σ H s)(u:Un X.fs [] H H' s.heap h')(hok:HOk X.prog X.w H' h'):Inv X pins σ H' {s with heap:=h',toks:=t'}:=by obtain⟨m,⟨o,es,ep,ho,r⟩,_⟩:=id I.loc;obtain⟨sl,hL⟩:=u.any ho I.free (by simp);exact I.step (g':=s.gens) (d':=s.drawn) (ch:=[]) (λ_ z=>nomatch z) (λb o _ hb _ e n=>u.keep b o e n hb (by simp)) (λb o _ hb _ e n=>u.slot b o e n hb (by simp)) (λb o _ e n=>u.free b o e n (by simp)) (λb o _ e=>u.there b o e (by simp)) u.tups u.frzs u.tbls (λm' hm=>by obtain⟨o',es',ep',ho',r'⟩:=hm;rw[ho]at ho';cases ho';exact⟨_,es',ep',hL,r'⟩) hok I.bare
theorem Inv.call{g':Array GenState}{t':Nat}{d':Drawn}{ch:List Addr}(I:Inv X pins σ H s)(u:Un (frs X.stack) ch H H' s.heap h')(hok:HOk X.prog X.w H' h')(hg:AllBare g')(hch:∀b∈ch,(b∈X.ex\/X.s₀.heap.objs.size<=b)/\b≠X.env.locals/\(∀x c,X.env.cells.lookup x=some c->c≠b)/\∀p∈X.pn++pins,p.1≠b):
  Inv X pins σ H' {s with heap:=h',gens:=g',drawn:=d',toks:=t'}:=by
 obtain⟨m,⟨o,es,ep,ho,r⟩,_⟩:=id I.loc;obtain⟨sl,hL⟩:=u.any ho I.free λz=>(hch _ z).2.1 rfl;exact I.step (ch:=ch) hch (λb o hL hb hc e n=>u.keep b o e n (λz=>(Uv.mp (I.stkSub b z)).elim hL hb) hc) (λb o _ _ hc e n=>u.any e n hc) (λb o hc e n=>u.free b o e n hc) (λb o hc e=>u.there b o e hc) u.tups u.frzs u.tbls (λm' hm=>by obtain⟨o',es',ep',ho',r'⟩:=hm;rw[ho]at ho';cases ho';exact⟨_,es',ep',hL,r'⟩) hok hg
theorem Inv.turned{t':Nat}{it:Addr}(I:Inv X pins σ H s)(k:∀b o,b≠it->s.heap.get? b=some o->h'.get? b=some o)(hn:H it=none)(hL:it≠X.env.locals)(h1:it∈X.ex\/X.s₀.heap.objs.size<=it)(h2:∀x c,X.env.cells.lookup x=some c->c≠it)(h3:∀p∈X.pn++pins,p.1≠it):Inv X pins σ H {s with heap:=h',toks:=t'}:=by
 have nit:∀b u,H b=some u->b≠it:=λb u e z=>by rw[z,hn]at e;cases e
 refine I.step (g':=s.gens) (d':=s.drawn) (ch:=[it]) (λb hb=>?_) (λb o _ _ hc e _=>k b o (λz=>hc (by simp[z])) e) (λb o _ _ hc e _=>⟨o.slots,k b o (λz=>hc (by simp[z])) e⟩) (λ_ _ _ _ n=>n)
  (λb o hc e=>⟨o,k b o (λz=>hc (by simp[z])) e⟩) (λ_ _ e=>e) (λ_ _ _ e=>e) (λb ps e=>⟨#[],by rw[e];simp⟩) (λm hm=>?_) (λb u e=>?_) I.bare
 ·have e:b=it:=by simpa using hb
  subst e;exact⟨h1,hL,h2,h3⟩
 ·obtain⟨o,es,ep,ho,r⟩:=hm;exact⟨o,es,ep,k _ o (Ne.symm hL) ho,r⟩
 ·refine(I.hok b u e).stay (λc v hc q=>k c v ?_ q) (λ_ q=>q) λ_ _ q=>q;rcases hc with z|z
  ·rw[z];exact nit b u e
  ·exact nit c _ z
theorem Inv.tok(I:Inv X pins σ H s)(t:Nat):Inv X pins σ H {s with toks:=t}:=I.un (h':=s.heap) (t':=t) Un.refl I.hok
theorem Inv.kept(I:Inv X pins σ H s)(k:∀b u,s.heap.get? b=some u->h'.get? b=some u):Inv X pins σ H {s with heap:=h',toks:=t'}:=I.un (Un.kept k) (I.hok.kept k)
theorem Inv.laid(I:Inv X pins σ H s)(k:∀b u,s.heap.get? b=some u->h'.get? b=some u)(hp:s.heap.objs.size<=a)(new:ObjOk X.prog X.w (upd H a o) h' a o):
  Inv X pins σ (upd H a o) {s with heap:=h',toks:=t'}:=I.un (Un.laid k hp (I.hok.fresh hp)) (I.hok.laid k hp new)
theorem Inv.write{x e:Addr}{o:HO}{t':Nat}(I:Inv X pins σ H s)(mu:Mut (H x))(he:e=x\/H e=some (.own x))(k:∀b u,b≠e->s.heap.get? b=some u->h'.get? b=some u)(heo:∃u,h'.get? e=some u)(new:ObjOk X.prog X.w (upd H x o) h' x o):Inv X pins σ (upd H x o) {s with heap:=h',toks:=t'}:=I.un (Un.write mu he k heo) (I.hok.write mu he k heo new)
theorem Inv.pins_of(I:Inv X pins σ H s)(h:∀p∈pins',s.heap.get? p.1=some p.2/\H p.1=none/\p.1≠X.env.locals/\p.1∉X.fs/\∀v,p.2.data≠.cell v):Inv X pins' σ H s:=⟨I.ok,I.os,I.bare,I.base,I.loc,I.cell,I.free,I.freeC,λp hp=>(Uq.mp hp).elim (λz=>I.pin p (TH _ z)) (h p),I.hok,I.len⟩
theorem QgO{N:List Str}(hN:N.Nodup){i j:Nat}{x:Str}(a:N[i]?=some x)(b:N[j]?=some x):i=j:=by obtain⟨h1,e1⟩:=Ul.mp a;obtain⟨h2,e2⟩:=Ul.mp b;exact(WW hN).mp (e1.trans e2.symm)
theorem Qiv{M:Model}{A:Around}{E:VP}{i:Nat}{x:Str}{v:V}{u:Value}{Q:Unit->Shared->Prop}(I:Inv X pins σ H s)(hN:X.N.Nodup)(hi:X.N[i]?=some x)(hx:Loc X.env.scope x)(r:RelV v u)(h:∀s',Inv X pins (σ.set i (some v)) H s'->(∃a,Heap.SameBut a s.heap s'.heap/\(a=X.env.locals\/X.env.cells.lookup x=some a))->Q () s')(hf:X.fn x=true\/X.env.scope.names.lookup x=some .local:=by first|exact .inl rfl|exact .inr rfl|assumption):wpAny M A (storeName X.env x u) Q E s:=by
 obtain⟨m,hn,hl⟩:=id I.loc;have hcls:(X.env.scope.kind==.class||(X.env.scope.kind==.module&&X.env.locals != X.env.globals))=false:=by rw[I.ok.kind];rfl
 have hiσ:i<σ.length:=by rw[I.len];exact(Ul.mp hi).1
 have cne:=I.cne;have tracked:∀{a:Addr}{h':Heap},(∃o,s.heap.get? a=some o/\H a=none)->Heap.SameBut a s.heap h'->HOk X.prog X.w H h':=λ{a h'} ha hs b ob e=>by
  obtain⟨_,_,hfree⟩:=ha;refine(I.hok b ob e).stay (λc w' hc q=>(hs.2 c ?_).trans q) (λ_ q=>q) λ_ _ q=>q;rintro rfl;rcases hc with rfl|hc
  ·rw[hfree]at e;cases e
  ·rw[hfree]at hc;cases hc
 rcases hx with hk|hk
 ·refine wpAny_storeName_local hk hn (λh' hn' hs=>?_) hcls;obtain⟨oL,_,_,hoL,_⟩:=id hn;refine h _ ⟨I.ok,I.os,I.bare,⟨λb o e n hb hx=>?_,λb o e n hb hx=>?_,I.base.free,λb o e hx=>?_,I.base.tups,I.base.frzs,I.base.tbls⟩,⟨_,hn',λj y v' e1 e2 e3=>?_⟩,λy c e=>?_,I.free,I.freeC,λp hp=>?_,tracked ⟨oL,hoL,I.free⟩ hs,by simpa using I.len⟩ ⟨_,hs,.inl rfl⟩
  ·exact(hs.2 b (UP (Ux (Uw e) I.ok.above))).trans (I.base.keep b o e n hb hx)
  ·obtain⟨sl,e1⟩:=I.base.slot b o e n hb hx;exact⟨sl,(hs.2 b (UP (Ux (Uw e) I.ok.above))).trans e1⟩
  ·obtain⟨o',e1⟩:=I.base.there b o e hx;exact⟨o',(hs.2 b (UP (Ux (Uw e) I.ok.above))).trans e1⟩
  ·by_cases hj:j=i
   ·subst hj;rw[hi]at e1;cases e1;rw[UU hiσ]at e2;cases e2;exact⟨u,r,.inl ⟨hk,by simp⟩⟩
   ·rw[Uc (Ne.symm hj)]at e2;obtain⟨u',r',q⟩:=hl j y v' e1 e2 e3;refine⟨u',r',?_⟩;rcases q with⟨k,e⟩|⟨k,c,e,z⟩
    ·refine .inl ⟨k,?_⟩;have:y≠x:=λe=>hj (QgO hN e1 (e ▸ hi));simp[this,e]
    ·exact .inr ⟨k,c,e,z.sameBut hs (cne y c e)⟩
  ·obtain⟨w',z⟩:=I.cell y c e;exact⟨w',z.sameBut hs (cne y c e)⟩
  ·obtain⟨e,n,ne,nf,d⟩:=I.pin p hp;exact⟨(hs.2 p.1 ne).trans e,n,ne,nf,d⟩
 ·have hfn:X.fn x=true:=by
   rcases hf with z|z
   ·exact z
   ·rw[z]at hk;cases hk
  obtain⟨c,hc⟩:=I.ok.has x (.inl hk);obtain⟨w',z⟩:=I.cell x c hc;refine wpAny_storeName_cell I.ok.kind hk hc z (λh' hc' hs=>?_);obtain⟨oc,hoc,hocd⟩:=id z;refine h {s with heap:=h'} ⟨I.ok,I.os,I.bare,⟨λb o e n hb hx=>?_,λb o e n hb hx=>?_,I.base.free,λb o e hx=>?_,I.base.tups,I.base.frzs,I.base.tbls⟩,⟨m,hn.sameBut hs (Ne.symm (cne x c hc)),λj y v' e1 e2 e3=>?_⟩,λy c' e=>?_,I.free,I.freeC,λp hp=>?_,tracked ⟨oc,hoc,I.freeC x c hc⟩ hs,by simpa using I.len⟩ ⟨c,hs,.inr hc⟩
  ·exact(hs.2 b (UP (Ux (Uw e) (I.ok.cab x c hfn hc)))).trans (I.base.keep b o e n hb hx)
  ·obtain⟨sl,e1⟩:=I.base.slot b o e n hb hx;exact⟨sl,(hs.2 b (UP (Ux (Uw e) (I.ok.cab x c hfn hc)))).trans e1⟩
  ·obtain⟨o',e1⟩:=I.base.there b o e hx;exact⟨o',(hs.2 b (UP (Ux (Uw e) (I.ok.cab x c hfn hc)))).trans e1⟩
  ·by_cases hj:j=i
   ·subst hj;rw[hi]at e1;cases e1;rw[UU hiσ]at e2;cases e2;exact⟨u,r,.inr ⟨.inl hk,c,hc,hc'⟩⟩
   ·rw[Uc (Ne.symm hj)]at e2;obtain⟨u',r',q⟩:=hl j y v' e1 e2 e3;refine⟨u',r',?_⟩;rcases q with q|⟨k,c',e,z'⟩
    ·exact .inl q
    ·refine .inr ⟨k,c',e,z'.sameBut hs ?_⟩;rintro rfl;exact hj (QgO hN e1 (I.ok.inj _ _ _ e hc ▸ hi))
  ·by_cases hcc:c'=c
   ·subst hcc;exact⟨_,hc'⟩
   ·obtain⟨w2,z2⟩:=I.cell y c' e;exact⟨w2,z2.sameBut hs hcc⟩
  ·obtain⟨e,n,ne,nf,d⟩:=I.pin p hp;refine⟨(hs.2 p.1 ?_).trans e,n,ne,nf,d⟩;intro q;rw[q,hoc]at e;have q':oc=p.2:=Option.some.inj e;exact d w' (by rw[<-q'];exact hocd)
theorem QdS{M:Model}{A:Around}{E:VP}{i:Nat}{x:Str}{v:V}{u:Value}{Q:Unit->Shared->Prop}(I:Inv X pins σ H s)(hN:X.N.Nodup)(hi:X.N[i]?=some x)(hx:Loc X.env.scope x)(r:RelV v u)(h:∀s',Inv X pins (σ.set i (some v)) H s'->Q () s')(hf:X.fn x=true\/X.env.scope.names.lookup x=some .local:=by first|exact .inl rfl|exact .inr rfl|assumption):wpAny M A (storeName X.env x u) Q E s:=Qiv I hN hi hx r (λs' I' _=>h s' I') hf
theorem Inv.call'{s':Shared}{ch:List Addr}(I:Inv X pins σ H s)(ho:s'.os=s.os)(u:Un (frs X.stack) ch H H' s.heap s'.heap)(hok:HOk X.prog X.w H' s'.heap)(hg:AllBare s'.gens)(hch:∀b∈ch,(b∈X.ex\/X.s₀.heap.objs.size<=b)/\b≠X.env.locals/\(∀x c,X.env.cells.lookup x=some c->c≠b)/\∀p∈X.pn++pins,p.1≠b):Inv X pins σ H' s':=by obtain⟨h',g',d',t',o'⟩:=s';have e:o'=s.os:=ho;subst e;exact I.call (g':=g') (t':=t') (d':=d') u hok hg hch
end
abbrev XK:=Value->Option Addr->Hp->Prop
abbrev St:=List (Option V)
abbrev VK:=V->Hp->Prop
abbrev TE:=St->Hp->VK->Prop
abbrev TT:=St->Hp->(Bool->Hp->Prop)->Prop
abbrev TA:=St->Hp->(List V->Hp->Prop)->Prop
structure Ends where
 nx:St->Hp->Prop
 rt:VK
 bk:St->Hp->Prop:=λ_ _=>False
 ct:St->Hp->Prop:=λ_ _=>False
abbrev TS:=Ends->St->Hp->Prop
def EP(X:Cx)(pins:LAO)(σ:St)(Q:VK)(u:Value)(s':Shared):Prop:=∃v H',Inv X pins σ H' s'/\RelV v u/\Q v H'
def TP(X:Cx)(pins:LAO)(σ:St)(Q:Bool->Hp->Prop)(b:Bool)(s':Shared):Prop:=∃H',Inv X pins σ H' s'/\Q b H'
def AP(X:Cx)(pins:LAO)(σ:St)(Q:List V->Hp->Prop)(us:List Value)(s':Shared):Prop:=∃vs H',Inv X pins σ H' s'/\Vals vs us/\Q vs H'
def SP(X:Cx)(pins:LAO)(D:Ends)(f:Flow)(s':Shared):Prop:=
 match f with
 |.next=>∃σ' H',Inv X pins σ' H' s'/\D.nx σ' H'|.brk=>∃σ' H',Inv X pins σ' H' s'/\D.bk σ' H'|.cont=>∃σ' H',Inv X pins σ' H' s'/\D.ct σ' H'|.ret u=>∃v σ' H',Inv X pins σ' H' s'/\RelV v u/\D.rt v H'
def PE(X:Cx)(e:Expr)(t:TE):Prop:=∀(pins:LAO)(s:Shared)(σ:St)(H:Hp)(Q:VK),Inv X pins σ H s->t σ H Q->wpAny (model X.prog X.w) X.A (eval e X.env) (EP X pins σ Q) X.xe s
def PT(X:Cx)(e:Expr)(t:TT):Prop:=∀(pins:LAO)(s:Shared)(σ:St)(H:Hp)(Q:Bool->Hp->Prop),Inv X pins σ H s->t σ H Q->wpAny (model X.prog X.w) X.A (isTrue e X.env (eval e X.env)) (TP X pins σ Q) X.xe s
def PW(X:Cx)(e:Expr)(t:TT):Prop:=∀(whole:Sem Value)(pins:LAO)(s:Shared)(σ:St)(H:Hp)(Q:Bool->Hp->Prop),Inv X pins σ H s->t σ H Q->wpAny (model X.prog X.w) X.A (isTrue e X.env whole) (TP X pins σ Q) X.xe s
theorem PW.pt(h:PW X e t):PT X e t:=h _
def PA(X:Cx)(es:List Expr)(t:TA):Prop:=∀(pos:Pos)(pins:LAO)(s:Shared)(σ:St)(H:Hp)(Q:List V->Hp->Prop),Inv X pins σ H s->t σ H Q->wpAny (model X.prog X.w) X.A (spliced (backTo pos (starEach es X.env))) (AP X pins σ Q) X.xe s
def PS(X:Cx)(st:Stmt)(t:TS):Prop:=∀(pins:LAO)(s:Shared)(σ:St)(H:Hp)(D:Ends),Inv X pins σ H s->t D σ H->wpAny (model X.prog X.w) X.A (exec st X.env) (SP X pins D) X.xe s
def PSs(X:Cx)(st:List Stmt)(t:TS):Prop:=∀(pins:LAO)(s:Shared)(σ:St)(H:Hp)(D:Ends),Inv X pins σ H s->t D σ H->wpAny (model X.prog X.w) X.A (execs st X.env) (SP X pins D) X.xe s
theorem thn(h:wpAny M A t Q E s)(hQ:∀a s,Q a s->Q' a s):wpAny M A t Q' E s:=Tf h hQ λ_ _ x=>x
section
variable{X:Cx}
def tVar(i:Nat):TE:=λσ H Q=>∃v,σ[i]?=some (some v)/\Q v H
def tC(v:V):TE:=λ_ H Q=>Q v H
theorem Qn9(hN:X.N[i]?=some x)(hv:Vis X.env.scope x)(hd:(x==("__debug__" : Str))=false:=by decide)(hcd:(x==("__classdict__" : Str))=false:=by decide):PE X (.Name x pos) (tVar i):=by
 intro pins s σ H Q I h;obtain⟨v,e,h⟩:=h;obtain⟨m,hn,hl⟩:=I.loc;obtain⟨u,r,l⟩:=hl i x v hN e hv;have fin:EP X pins σ Q u s:=⟨v,H,I,r,h⟩;rcases l with⟨hk,hm⟩|⟨hk,c,hc,hcell⟩
 ·exact wpAny_Name (wpAny_loadName_local I.ok.kind hk hn hm fin) hd
 ·rcases hk with hk|hk
  ·exact wpAny_Name (wpAny_loadName_cell I.ok.kind hk hc hcell fin) hd
  ·exact wpAny_Name (wpAny_loadName_free I.ok.kind hk hc hcell fin hcd) hd
theorem Qoa:PE X (.Constant (.int i) j pos) (tC (.int i)):=λ_ _ _ H _ I h=>wpAny_Constant_int ⟨.int i,H,I.tok _,⟨_,rfl⟩,h⟩
theorem QpR:PE X (.Constant (.bool b) j pos) (tC (.bl b)):=λ_ _ _ H _ I h=>Constant_bool ⟨.bl b,H,I,rfl,h⟩
theorem Qob:PE X (.Constant .none j pos) (tC .non):=λ_ _ _ H _ I h=>Constant_none ⟨.non,H,I,rfl,h⟩
theorem Qoc:PE X (.Constant (.str x) j pos) (tC (.str x)):=λ_ _ _ H _ I h=>Calls.Constant_str ⟨.str x,H,I.tok _,⟨_,rfl⟩,h⟩
def Gl(X:Cx)(x:Str):Prop:=X.env.kindOf x=some .globalImplicit
theorem QdT{E:VP}{pins:LAO}{s:Shared}{σ:St}{H:Hp}{x:Str}{u:Value}{pos:Pos}{Q:VP}(I:Inv X pins σ H s)(hg:Gl X x)(hm:X.mg x=some u)(h:Q u s)(hd:(x==("__debug__" : Str))=false:=by decide):wpAny (model X.prog X.w) X.A (eval (.Name x pos) X.env) Q E s:=Wy I.ok.kind hg (Calls.loadGlobal_global (by rw[I.ok.glob];exact I.mod.glob.keeps I.bk) hm h) hd
theorem QgP{E:VP}{pins:LAO}{s:Shared}{σ:St}{H:Hp}{x:Str}{u:Value}{pos:Pos}{Q:VP}(I:Inv X pins σ H s)(hg:Gl X x)(hm:X.mg x=none)(hv:bootBuiltins x=some u)(h:Q u s)(hn:x ≠"__name__":=by decide)(hd:(x==("__debug__" : Str))=false:=by decide):wpAny (model X.prog X.w) X.A (eval (.Name x pos) X.env) Q E s:=by obtain⟨mb,h1,h2⟩:=I.mod.blt;exact Wy I.ok.kind hg (Calls.loadGlobal_builtin (by rw[I.ok.glob];exact I.mod.glob.keeps I.bk) hm (by rw[I.ok.blt];exact h1.keeps I.bk) ((h2 x hn).trans hv) h) hd
theorem QmJ(hg:Gl X x)(hm:X.mg x=some u)(r:RelV v u)(hd:(x==("__debug__" : Str))=false:=by decide):PE X (.Name x pos) (tC v):=λ_ _ _ H _ I h=>QdT I hg hm ⟨v,H,I,r,h⟩ hd
theorem QfT(hg:Gl X x)(hm:X.mg x=none)(hv:bootBuiltins x=some u)(r:RelV v u)(hn:x ≠"__name__":=by decide)(hd:(x==("__debug__" : Str))=false:=by decide):PE X (.Name x pos) (tC v):=λ_ _ _ H _ I h=>QgP I hg hm hv ⟨v,H,I,r,h⟩ hn hd
variable{a b:Expr}{ta tb:TE}{pos:Pos}
def tB(t:TE):TT:=λσ H Q=>t σ H λx H1=>∃c,x=.bl c/\Q c H1
theorem Qod(h:PE X e t)(he:∀whole,isTrue e X.env whole=(do let v <-whole;standAt e.pos;holding [v] (truthy v)):=by intro _;rfl):PT X e (tB t):=by intro pins s σ H Q I hw;refine isTrue_plain (thn (h pins s σ H _ I hw) λv s1 ⟨x,H1,I1,r1,q1⟩=>?_) (he _);obtain⟨d,rfl,q⟩:=q1;cases r1;exact Td ⟨H1,I1,q⟩
variable{tA tB':TT}{rest:List Expr}
def tAnd(t u:TT):TT:=λσ H Q=>t σ H λc H1=>if c=true then u σ H1 Q else Q false H1
def tOr(t u:TT):TT:=λσ H Q=>t σ H λc H1=>if c=true then Q true H1 else u σ H1 Q
def tNot(t:TT):TT:=λσ H Q=>t σ H λc H1=>Q (!c) H1
theorem QmK(ha:PT X a tA):PW X (.BoolOp .And [a] pos) tA:=by
 intro wh pins s σ H Q I h;refine isTrue_and (thn (ha pins s σ H Q I h) λc s1 e=>?_);cases c with
 |true=>exact isTrue_and_nil e|false=>exact e
theorem Qoe(ha:PT X a tA):PW X (.BoolOp .Or [a] pos) tA:=by
 intro wh pins s σ H Q I h;refine isTrue_or (thn (ha pins s σ H Q I h) λc s1 e=>?_);cases c with
 |false=>exact isTrue_or_nil e|true=>exact e
theorem Qof(ha:PT X a tA)(hb:PW X (.BoolOp .And (b::rest) pos) tB'):PW X (.BoolOp .And (a::b::rest) pos) (tAnd tA tB'):=by
 intro wh pins s σ H Q I h;refine isTrue_and (thn (ha pins s σ H _ I h) λc s1 ⟨H1,I1,q1⟩=>?_);cases c with
 |true=>exact hb wh pins s1 σ H1 Q I1 q1|false=>exact⟨H1,I1,q1⟩
theorem QpS(ha:PT X a tA)(hb:PW X (.BoolOp .Or (b::rest) pos) tB'):PW X (.BoolOp .Or (a::b::rest) pos) (tOr tA tB'):=by
 intro wh pins s σ H Q I h;refine isTrue_or (thn (ha pins s σ H _ I h) λc s1 ⟨H1,I1,q1⟩=>?_);cases c with
 |true=>exact⟨H1,I1,q1⟩|false=>exact hb wh pins s1 σ H1 Q I1 q1
theorem Qog(ha:PT X a tA):PT X (.UnaryOp .Not a pos) (tNot tA):=by intro pins s σ H Q I h;exact isTrue_not (ha pins s σ H (λc H1=>Q (!c) H1) I h)
def QpT(ta tb:TE):TE:=λσ H Q=>ta σ H λx H1=>∃c,x=.bl c/\if c=true then tb σ H1 Q else Q (.bl false) H1
def QpU(ta:TE):TE:=λσ H Q=>ta σ H λx H1=>∃c,x=.bl c/\Q (.bl (!c)) H1
theorem Qoh(h:PE X a t):PE X (.BoolOp op [a] pos) t:=λpins s σ H Q I hw=>BoolOp_one (h pins s σ H Q I hw)
theorem Qoi(ha:PE X a ta)(hb:PE X (.BoolOp .And (b::rest) pos) tb):PE X (.BoolOp .And (a::b::rest) pos) (QpT ta tb):=by
 intro pins s σ H Q I h;refine BoolOp_and (thn (ha pins s σ H _ I h) λv s1 ⟨x,H1,I1,r1,q1⟩=>?_);obtain⟨c,rfl,q1⟩:=q1;cases r1;refine Td ?_;cases c with
 |true=>exact hb pins s1 σ H1 Q I1 q1|false=>exact⟨.bl false,H1,I1,rfl,q1⟩
theorem Qoj(ha:PE X a ta):PE X (.UnaryOp .Not a pos) (QpU ta):=by intro pins s σ H Q I h;refine UnaryOp_ (thn (ha pins s σ H _ I h) λv s1 ⟨x,H1,I1,r1,q1⟩=>?_);obtain⟨c,rfl,q1⟩:=q1;cases r1;exact not_of (Td ⟨.bl (!c),H1,I1,rfl,q1⟩)
def tIf(t:TT)(ta tb:TE):TE:=λσ H Q=>t σ H λc H1=>if c=true then ta σ H1 Q else tb σ H1 Q
theorem QkQ(hc:PT X c tA)(ha:PE X a ta)(hb:PE X b tb):PE X (.IfExp c a b pos) (tIf tA ta tb):=by
 intro pins s σ H Q I h;refine wpAny_IfExp (thn (hc pins s σ H _ I h) λd s1 ⟨H1,I1,q1⟩=>?_);cases d with
 |true=>exact ha pins s1 σ H1 Q I1 q1|false=>exact hb pins s1 σ H1 Q I1 q1
end
def SqL(K:Frag)(H:Hp)(a:Addr)(xs:List V):Prop:=Rd H a (.lst xs)\/∃(o:Obj)(its:Array Value)(n:Nat),K.lookup a=some o/\o.cls=.type "list"/\o.dict=none/\o.data=.seq its n/\its.size<=sizeLine/\Vals xs its.toList
def SqT(K:Frag)(H:Hp)(a:Addr)(xs:List V):Prop:=Rd H a (.tup xs)\/∃(o:Obj)(its:Array Value)(n:Nat),K.lookup a=some o/\o.cls=.type "tuple"/\o.data=.seq its n/\its.size<=sizeLine/\Vals xs its.toList
def absV:Value->Option V
 |.none=>some .non|.bool b=>some (.bl b)|.int i _=>some (.int i)|.str x _=>some (.str x)|.bytes b _=>some (.byt b)|.float b _=>some (.flt b)|.ref a=>some (.ref a)|.type n=>some (.ty n)|_=>none
theorem RelV.abs(r:RelV x u):absV u=some x:=by
 cases x with
 |non=>cases r;rfl|bl _=>cases r;rfl|int _=>obtain⟨t,rfl⟩:=r;rfl|str _=>obtain⟨t,rfl⟩:=r;rfl|byt _=>obtain⟨t,rfl⟩:=r;rfl|flt _=>obtain⟨t,rfl⟩:=r;rfl|ref _=>cases r;rfl|ty _=>cases r;rfl
theorem RelV.inj(r:RelV x u)(q:RelV y u):x=y:=Option.some.inj (r.abs.symm.trans q.abs)
theorem Vals.inj:∀{xs ys:List V}{us:List Value},Vals xs us->Vals ys us->xs=ys
 |_,_,_,.nil,.nil=>rfl|_,_,_,.cons r t,.cons r' t'=>by rw[r.inj r',Vals.inj t t']
theorem SqL.of{K:Frag}(h:H a=some (.lst xs)):SqL K H a xs:=.inl (.inl h)
theorem SqT.of{K:Frag}(h:H a=some (.tup xs)):SqT K H a xs:=.inl (.inl h)
theorem Inv.list(I:Inv X pins σ H s)(h:SqL X.K H a xs):∃its:List Value,Vals xs its/\PlainL s.heap a its.toArray/\xs.length<=sizeLine:=by
 rcases h with h|⟨o,its,n,hk,hc,hd,hs,hz,r⟩
 ·obtain⟨z,its,n,r,e⟩:=h.ok I.hok;exact⟨its,r,⟨_,n,e,rfl,rfl,rfl⟩,z⟩
 ·refine⟨its.toList,r,⟨o,n,I.kIn a o hk,hc,hd,by simpa using hs⟩,?_⟩;have e:=r.length;simp only[Ta]at e;omega
theorem Inv.tuple(I:Inv X pins σ H s)(h:SqT X.K H a xs):∃its:List Value,Vals xs its/\IsTup s.heap a its.toArray/\xs.length<=sizeLine:=by
 rcases h with h|⟨o,its,n,hk,hc,hs,hz,r⟩
 ·obtain⟨z,its,r,p⟩:=h.ok I.hok;exact⟨its,r,p,z⟩
 ·refine⟨its.toList,r,⟨o,I.kIn a o hk,hc,n,by simpa using hs⟩,?_⟩;have e:=r.length;simp only[Ta]at e;omega
theorem Inv.list_inj(I:Inv X pins σ H s)(h:SqL X.K H a xs)(h':SqL X.K H a ys):xs=ys:=by
 obtain⟨its,r,⟨o,n,e,_,_,d⟩,_⟩:=I.list h;obtain⟨its',r',⟨o',n',e',_,_,d'⟩,_⟩:=I.list h';rw[e]at e';cases e';rw[d]at d';injection d' with d1 _;have:its=its':=by simpa using TV Array.toList d1
 subst this;exact r.inj r'
theorem Inv.tuple_inj(I:Inv X pins σ H s)(h:SqT X.K H a xs)(h':SqT X.K H a ys):xs=ys:=by
 obtain⟨its,r,⟨o,e,_,n,d⟩,_⟩:=I.tuple h;obtain⟨its',r',⟨o',e',_,n',d'⟩,_⟩:=I.tuple h';rw[e]at e';cases e';rw[d]at d';injection d' with d1 _;have:its=its':=by simpa using TV Array.toList d1
 subst this;exact r.inj r'
abbrev Cx.wish(X:Cx)(E:VP):Cx:={X with xe:=E}
abbrev Cx.nox(X:Cx):Cx:=X.wish λ_ _=>False
theorem Cx.Ok.wish{X:Cx}(ok:X.Ok)(E:VP):(X.wish E).Ok:=⟨ok.mod,ok.kind,ok.glob,ok.blt,ok.above,ok.inj,ok.has,ok.cab,ok.hd,ok.frames,ok.stk,ok.exf,ok.bs,ok.bsz,ok.noex,ok.exfs,ok.funs,ok.frf⟩
theorem Cx.Ok.unwish{X:Cx}{E:VP}(ok:(X.wish E).Ok):X.Ok:=⟨ok.mod,ok.kind,ok.glob,ok.blt,ok.above,ok.inj,ok.has,ok.cab,ok.hd,ok.frames,ok.stk,ok.exf,ok.bs,ok.bsz,ok.noex,ok.exfs,ok.funs,ok.frf⟩
section
variable{X:Cx}{pins:LAO}{σ:St}{H:Hp}{s:Shared}{E:VP}
theorem Inv.wish(I:Inv X pins σ H s)(E:VP):Inv (X.wish E) pins σ H s:=⟨I.ok.wish E,I.os,I.bare,I.base,I.loc,I.cell,I.free,I.freeC,I.pin,I.hok,I.len⟩
theorem Inv.unwish(I:Inv (X.wish E) pins σ H s):Inv X pins σ H s:=⟨I.ok.unwish,I.os,I.bare,I.base,I.loc,I.cell,I.free,I.freeC,I.pin,I.hok,I.len⟩
theorem SP.unwish(h:SP (X.wish E) pins D f s'):SP X pins D f s':=by
 cases f with
 |next=>obtain⟨σ',H',I,q⟩:=h;exact⟨σ',H',I.unwish,q⟩|brk=>obtain⟨σ',H',I,q⟩:=h;exact⟨σ',H',I.unwish,q⟩|cont=>obtain⟨σ',H',I,q⟩:=h;exact⟨σ',H',I.unwish,q⟩|ret u=>obtain⟨v,σ',H',I,r,q⟩:=h;exact⟨v,σ',H',I.unwish,r,q⟩
theorem PE.nox(h:PE X.nox e t):PE X e t:=λpins s σ H Q I hw=>
 Tf (h pins s σ H Q (I.wish _) hw) (λ_ _ ⟨v,H',I',r,q⟩=>⟨v,H',I'.unwish,r,q⟩) λ_ _ z=>False.elim z
theorem PT.nox(h:PT X.nox e t):PT X e t:=λpins s σ H Q I hw=>
 Tf (h pins s σ H Q (I.wish _) hw) (λ_ _ ⟨H',I',q⟩=>⟨H',I'.unwish,q⟩) λ_ _ z=>False.elim z
theorem PSs.nox{st:List Stmt}{t:TS}(h:PSs X.nox st t):PSs X st t:=λpins s σ H D I hw=>
 Tf (h pins s σ H D (I.wish _) hw) (λ_ _ q=>q.unwish) λ_ _ z=>False.elim z
end
section
variable{X:Cx}{st:Stmt}{rest:List Stmt}{t u:TS}{e:Expr}{te:TE}{pos:Pos}
def QpV:TS:=λD σ H=>D.nx σ H
def tSeq(t u:TS):TS:=λD σ H=>t {D with nx:=u D} σ H
theorem QmL:PSs X [] QpV:=λ_ _ σ H _ I h=>Wm ⟨σ,H,I,h⟩
theorem QkR(h1:PS X st t)(h2:PSs X rest u):PSs X (st::rest) (tSeq t u):=by
 intro pins s σ H D I h;refine wpAny_execs_cons (thn (h1 pins s σ H {D with nx:=u D} I h) λf s1 q=>?_);cases f with
 |next =>obtain⟨σ',H',I',q⟩:=q;exact h2 pins s1 σ' H' D I' q|ret v=>exact q|brk=>exact q|cont=>exact q
theorem QmM(h1:PS X st t):PSs X [st] t:=by
 intro pins s σ H D I h;refine wpAny_execs_cons (thn (h1 pins s σ H D I h) λf s1 q=>?_);cases f with
 |next=>exact Wm q|ret v=>exact q|brk=>exact q|cont=>exact q
theorem Inv.quiet(I:Inv X pins σ H s):interactive X.env=false:=by simp[interactive,I.ok.kind]
def QpW(te:TE):TS:=λD σ H=>te σ H λ_ H1=>D.nx σ H1
theorem QmN(he:PE X e te)(hs:swapsWith e none pos.line X.env=pure false:=by rfl):PS X (.Expr e pos) (QpW te):=by intro pins s σ H D I h;exact wpAny_Expr_any (thn (he pins s σ H _ I h) λv s1 ⟨x,H1,I1,r1,q1⟩=>⟨σ,H1,I1,q1⟩) I.quiet hs
def tRet(te:TE):TS:=λD σ H=>te σ H D.rt
theorem Qok(he:PE X e te):PS X (.Return (some e) pos) (tRet te):=by intro pins s σ H D I h;exact wpAny_Return_some (thn (he pins s σ H _ I h) λv s1 ⟨x,H1,I1,r1,q1⟩=>⟨x,σ,H1,I1,r1,q1⟩)
def QpX:TS:=λD _ H=>D.rt .non H
theorem QmO:PS X (.Return none pos) QpX:=λ_ _ σ H _ I h=>wpAny_Return_none ⟨.non,σ,H,I,rfl,h⟩
def tIfS(c:TT)(t u:TS):TS:=λD σ H=>c σ H λb H1=>if b=true then t D σ H1 else u D σ H1
theorem QpY(hc:PT X c tc)(ha:PSs X a t)(hb:PSs X b u):PS X (.If c a b pos) (tIfS tc t u):=by
 intro pins s σ H D I h;refine wpAny_If (thn (hc pins s σ H _ I h) λd s1 ⟨H1,I1,q1⟩=>?_);cases d with
 |true=>exact ha pins s1 σ H1 D I1 q1|false=>exact hb pins s1 σ H1 D I1 q1
def Qol:TS:=λ_ _ _=>False
theorem QkS:PS X st Qol:=λ_ _ _ _ _ _ h=>h.elim
end
abbrev TG:=V->St->Hp->(St->Hp->Prop)->Prop
abbrev TGs:=List V->St->Hp->(St->Hp->Prop)->Prop
def PG(X:Cx)(target:Expr)(t:TG):Prop:=∀(pins:LAO)(s:Shared)(σ:St)(H:Hp)(v:V)(u:Value)(Q:St->Hp->Prop),Inv X pins σ H s->RelV v u->t v σ H Q->wpAny (model X.prog X.w) X.A (assign target X.env u) (λ_ s'=>∃σ' H',Inv X pins σ' H' s'/\Q σ' H') X.xe s
def PGs(X:Cx)(ts:List Expr)(t:TGs):Prop:=∀(pins:LAO)(s:Shared)(σ:St)(H:Hp)(vs:List V)(us:List Value)(Q:St->Hp->Prop),Inv X pins σ H s->Vals vs us->t vs σ H Q->wpAny (model X.prog X.w) X.A (assignInOrder ((assignEach ts X.env).map (·.2)) us) (λ_ s'=>∃σ' H',Inv X pins σ' H' s'/\Q σ' H') X.xe s
abbrev TSet:=V->V->V->Hp->(Hp->Prop)->Prop
def PSet(X:Cx)(t:TSet):Prop:=∀(pins:LAO)(s:Shared)(σ:St)(H:Hp)(o i v:V)(ov iv u:Value)(Q:Hp->Prop),Inv X pins σ H s->RelV o ov->RelV i iv->RelV v u->t o i v H Q->wpAny (model X.prog X.w) X.A (setItem ov iv u) (λ_ s'=>∃H',Inv X pins σ H' s'/\Q H') X.xe s
def Qom(i:Nat):TG:=λv σ H Q=>Q (σ.set i (some v)) H
theorem QmP(hN:X.N.Nodup)(hi:X.N[i]?=some x)(hx:Loc X.env.scope x)(hf:X.fn x=true\/X.env.scope.names.lookup x=some .local:=by first|exact .inl rfl|exact .inr rfl|assumption):PG X (.Name x pos) (Qom i):=by intro pins s σ H v u Q I r h;exact wpAny_assign_Name (QdS I hN hi hx r (λs' I'=>⟨_,H,I',h⟩) hf)
def gNil:TGs:=λvs σ H Q=>vs=[]/\Q σ H
def QpZ(t:TG)(u:TGs):TGs:=λvs σ H Q=>∃v r,vs=v::r/\t v σ H λσ' H'=>u r σ' H' Q
theorem QmQ:PGs X [] gNil:=by intro pins s σ H vs us Q I r h;obtain⟨e,h⟩:=h;subst e;cases r;exact assignInOrder_nil ⟨σ,H,I,h⟩
theorem QkT{e:Expr}{es:List Expr}{t:TG}{u:TGs}(h1:PG X e t)(h2:PGs X es u)(hs:(assignEach (e::es) X.env).map (·.2)=assign e X.env::(assignEach es X.env).map (·.2):=by rfl):PGs X (e::es) (QpZ t u):=by
 intro pins s σ H vs us Q I r h;obtain⟨v,vr,e1,h⟩:=h;subst e1;cases r with
 |cons r rr =>rw[hs];refine assignInOrder_cons (thn (h1 pins s σ H _ _ _ I r h) λ_ s1 ⟨σ1,H1,I1,q1⟩=>?_);exact h2 pins s1 σ1 H1 _ _ Q I1 rr q1
def gTup(K:Frag)(n:Nat)(t:TGs):TG:=λv σ H Q=>∃a xs,v=.ref a/\SqT K H a xs/\xs.length=n/\t xs σ H Q
theorem Qon{es:List Expr}{k:Nat}{t:TGs}{n:Nat}(hc:X.calm=true)(h:PGs X es t)(hn:(assignEach es X.env).length=n:=by rfl)(hst:(assignEach es X.env).findIdx? (·.1)=none:=by rfl):PG X (.Tuple es k pos) (gTup X.K n t):=by intro pins s σ H v u Q I r hw;obtain⟨a,xs,e1,hq,hl,hw⟩:=hw;subst e1;cases r;obtain⟨its,rv,ht,hz⟩:=I.tuple hq;refine assign_Tuple_tuple (I.ok.hd hc) ht (by simp[hn,<-hl,rv.length]) hst λh' hx=>?_;have I1:Inv X pins σ H {s with heap:=h'}:=I.kept (t':=s.toks) λb o e=>hx b o (UP (Uw e)) e;exact h pins _ σ H xs _ Q I1 (by simpa using rv) hw
def gSub(to ti:TE)(t:TSet):TG:=λv σ H Q=>to σ H λo H1=>ti σ H1 λi H2=>t o i v H2 λH3=>Q σ H3
theorem QlZ{o i:Expr}{to ti:TE}{t:TSet}(ho:PE X o to)(hi:PE X i ti)(hs:PSet X t)(ha:∀v,assign (.Subscript o i pos) X.env v=(do
   let ov <-holding [v] (eval o X.env)
   let iv <-holding [v,ov] (eval i X.env)
   standAt pos
   holding [v,ov,iv] (setItem ov iv v)
   release [v,ov,iv] []):=by intro _;rfl):PG X (.Subscript o i pos) (gSub to ti t):=by
 intro pins s σ H v u Q I r h;rw[ha];refine Ua (Th (thn (ho pins s σ H _ I h) λov s1 ⟨x,H1,I1,r1,q1⟩=>?_));refine Ua (Th (thn (hi pins s1 σ H1 _ I1 q1) λiv s2 ⟨y,H2,I2,r2,q2⟩=>?_));refine Ua (WQ (Ua (Th (thn (hs pins s2 σ H2 x y v ov iv u _ I2 r1 r2 r q2) λ_ s3 ⟨H3,I3,q3⟩=>?_))));exact wpAny_release ⟨σ,H3,I3,q3⟩
def tAsg(te:TE)(g:TG):TS:=λD σ H=>te σ H λx H1=>g x σ H1 D.nx
theorem Qiw{tg e:Expr}{te:TE}{g:TG}(he:PE X e te)(hg:PG X tg g)(hs:swapsWithSole [tg] e pos.line X.env=pure false:=by rfl)(hw:swappedStores [tg] e X.env=pure none:=by rfl)(h1:(assignEach [tg] X.env).map (·.2)=[assign tg X.env]:=by rfl):PS X (.Assign [tg] e pos) (tAsg te g):=by intro pins s σ H D I h;refine wpAny_Assign_stores (thn (he pins s σ H _ I h) λv s1 ⟨x,H1,I1,r1,q1⟩=>?_) hs hw;rw[h1];exact thn (hg pins s1 σ H1 x v _ I1 r1 q1) λ_ s2 q=>q
theorem Qoo(hN:X.N.Nodup)(hi:X.N[i]?=some x)(hx:Loc X.env.scope x)(he:PE X e te)(hs:swapsWith e (some (.Name x pos')) pos.line X.env=pure false:=by rfl)(hf:X.fn x=true\/X.env.scope.names.lookup x=some .local:=by first|exact .inl rfl|exact .inr rfl|assumption):
  PS X (.Assign [.Name x pos'] e pos) (tAsg te (Qom i)):=by
 intro pins s σ H D I h;refine wpAny_Assign_Name (thn (he pins s σ H _ I h) λv s1 ⟨y,H1,I1,r1,q1⟩=>?_) hs;exact QdS I1 hN hi hx r1 (λs2 I2=>⟨_,H1,I2,q1⟩) hf
def Qop(c:TT)(tb:TS):TS:=λD σ H=>∃W:Nat->St->Hp->Prop,(∃m,W m σ H)/\∀m σ H,W m σ H->c σ H λb H1=>if b=true then ∃N:St->Hp->Prop,(∀σ' H',N σ' H'->∃m',m'<m/\W m' σ' H')/\tb {D with nx:=N,ct:=N,bk:=D.nx} σ H1 else D.nx σ H1
theorem QkU(hp:PassesOwn (model X.prog X.w) X.A X.env X.xe)(hc:PT X c tc)(hb:PSs X body tb):PS X (.While c body [] pos) (Qop tc tb):=by
 intro pins s σ H D I h;obtain⟨W,⟨m0,w0⟩,turn⟩:=h;refine wpAny_While (codeAny_whileLoop (λn s'=>∃σ' H',Inv X pins σ' H' s'/\W n σ' H') ?_ m0 ⟨σ,H,I,w0⟩);rintro n s1 ⟨σ1,H1,I1,w1⟩;refine T4 hp (thn (hc pins s1 σ1 H1 _ I1 (turn n σ1 H1 w1)) λb s2 ⟨H2,I2,q2⟩=>?_);cases b with
 |true=>
  obtain⟨N,hN,q2⟩:=q2;rw[Uj rfl];refine T4 hp (thn (hb pins s2 σ1 H2 _ I2 q2) λf s3 q3=>?_);cases f with
  |next =>obtain⟨σ3,H3,I3,n3⟩:=q3;obtain⟨m',hm,w3⟩:=hN σ3 H3 n3;exact⟨m',hm,σ3,H3,I3,w3⟩|cont =>obtain⟨σ3,H3,I3,n3⟩:=q3;obtain⟨m',hm,w3⟩:=hN σ3 H3 n3;exact⟨m',hm,σ3,H3,I3,w3⟩|brk=>exact q3|ret v=>exact q3
 |false =>rw[Uo Uk];exact Wm ⟨σ1,H2,I2,q2⟩
structure It where
 go:Nat->Hp->Prop
 yld:Nat->Hp->V->Hp->Prop
 stop:Nat->Hp->Prop
def FpOk(X:Cx)(pins:LAO)(H:Hp)(b:Addr):Prop:=H b=none/\b≠X.env.locals/\b∉X.fs/\(b∈X.ex\/X.s₀.heap.objs.size<=b)/\(∀x c,X.env.cells.lookup x=some c->c≠b)/\∀p∈X.pn++pins,p.1≠b
theorem Inv.fpOk(I:Inv X pins σ H s)(hb:s.heap.objs.size<=b)(hn:H' b=none):FpOk X pins H' b:=by
 refine⟨hn,Nat.ne_of_gt (Ux I.lt hb),I.nofs hb,.inr (Ue I.sz hb),λx c e z=>?_,λp hp z=>?_⟩
 ·obtain⟨v,q⟩:=I.cell x c e;exact absurd (Ux q.lt (by rw[z];exact hb)) (TF _)
 ·exact absurd (Ux (Uw (I.pin p hp).1) (by rw[z];exact hb)) (TF _)
structure Turn(P:Program)(w:World)(K:Frag)(tg:Expr)(J:It)(fp:List Addr)(it:Addr)(tn:Nat->Heap->Prop):Prop where
 mem:it∈fp
 obj:∀i h,tn i h->∀b∈fp,∃o,h.get? b=some o/\∀v,o.data≠.cell v
 keep:∀i h h',tn i h->(∀b∈fp,∀o,h.get? b=some o->h'.get? b=some o)->tn i h'
 item:∀(X:Cx),X.prog=P->X.w=w->X.K=K->X.calm=true->∀(i:Nat)(pins:LAO)(s:Shared)(σ:St)(H:Hp)(E:VP),Inv X pins σ H s->(∀b∈fp,FpOk X pins H b)->tn i s.heap->J.go i H->wpAny (model P w) X.A (pyNext (.ref it)) (λr s1=>∃u,r=some u/\wpAny (model P w) X.A (letOwnedTupleGo tg (.ref it) u) (λ_ s2=>∃x H',Inv X pins σ H' s2/\RelV x u/\J.yld i H x H'/\tn (i+1) s2.heap/\∀b∈fp,H' b=none) E s1) E s
 done:∀(X:Cx),X.prog=P->X.w=w->X.K=K->X.calm=true->∀(i:Nat)(pins:LAO)(s:Shared)(σ:St)(H:Hp)(E:VP),Inv X pins σ H s->(∀b∈fp,FpOk X pins H b)->tn i s.heap->J.stop i H->wpAny (model P w) X.A (pyNext (.ref it)) (λr s1=>r=none/\Inv X pins σ H s1) E s
 self:∀(A:Around)(i:Nat)(s:Shared)(Q:VP)(E:VP),tn i s.heap->Q (.ref it) s->wpAny (model P w) A (pyIter (.ref it)) Q E s
abbrev TI:=St->Hp->(It->Hp->Prop)->Prop
def PIE(X:Cx)(pins:LAO)(σ:St)(tg:Expr)(R:It->Hp->Prop)(itv:Value)(s2:Shared):Prop:=∃(it:Addr)(fp:List Addr)(tn:Nat->Heap->Prop)(J:It)(H':Hp),itv=.ref it/\Inv X pins σ H' s2/\Turn X.prog X.w X.K tg J fp it tn/\tn 0 s2.heap/\(∀b∈fp,FpOk X pins H' b)/\R J H'
def PI(X:Cx)(tg iter:Expr)(wi:TI):Prop:=∀(pins:LAO)(s:Shared)(σ:St)(H:Hp)(R:It->Hp->Prop),Inv X pins σ H s->wi σ H R->wpAny (model X.prog X.w) X.A (eval iter X.env) (λv s1=>wpAny (model X.prog X.w) X.A (pyIter v) (PIE X pins σ tg R) X.xe s1) X.xe s
theorem QkV{M:Model}{A:Around}{E:VP}{s:Shared}{tg:Expr}{it:Addr}{u:Value}{o:Obj}{n:String}{vs:Array Value}{Q:Unit->Shared->Prop}(ho:s.heap.get? it=some o)(hc:o.cls=.type n)(hd:o.data=.fields vs)(hn:["enumerate","zip","dict_itemiterator","dict_reverseitemiterator","odict_iterator","itertools.zip_longest","itertools.pairwise"].contains n=false)(hQ:Q () s):wpAny M A (letOwnedTupleGo tg (.ref it) u) Q E s:=by
  unfold letOwnedTupleGo;cases tg<;>first
    |exact Ud hQ
    | (cases u<;>first
        |exact Ud hQ
        | (refine Ua (wpAny_load ho ?_)
           rw[hc,hd];show wpAny M A (if (["enumerate","zip","dict_itemiterator","dict_reverseitemiterator","odict_iterator","itertools.zip_longest","itertools.pairwise"].contains n&&vs[0]? == some (rawInt _))=true then _ else _) Q E s;rw[Uo (by intro h;rw[hn,Bool.false_and]at h;cases h)];exact Ud hQ))
def Itl(K:Frag)(a:Addr):It:=⟨λi H=>∃xs x,SqL K H a xs/\xs[i]?=some x,λi H x H'=>H'=H/\∀xs,SqL K H a xs->xs[i]?=some x,λi H=>∃xs,SqL K H a xs/\xs.length<=i⟩
def Itt(K:Frag)(a:Addr):It:=⟨λi H=>∃xs x,SqT K H a xs/\xs[i]?=some x,λi H x H'=>H'=H/\∀xs,SqT K H a xs->xs[i]?=some x,λi H=>∃xs,SqT K H a xs/\xs.length<=i⟩
def Itr(lo:Int)(n:Nat):It:=⟨λi _=>i<n,λi H x H'=>H'=H/\x=.int (lo+i),λi _=>n<=i⟩
theorem Qix{P:Program}{w:World}{K:Frag}{tg:Expr}(a it:Addr):Turn P w K tg (Itl K a) [it] it (λi h=>h.IsListIter it a i) where
 mem:=by simp
 obj:=λi h st b hb=>by
  have e:b=it:=by simpa using hb
  subst e;obtain⟨o,e,c,d⟩:=st;exact⟨o,e,λv z=>by rw[d]at z;cases z⟩
 keep:=λi h h' st k=>st.at λo e=>k it (by simp) o e
 item:=by intro X hP hw hK hc i pins s σ H E I hf st hg;subst hP hw hK;obtain⟨xs,x,hq,hx⟩:=hg;obtain⟨its,rv,p,hz⟩:=I.list hq;obtain⟨u,hu,ru⟩:=rv.get hx;obtain⟨f0,f1,f2,f3,f4,f5⟩:=hf it (by simp);refine wpAny_pyNext_list_item st p.isList (x:=u) (by simpa using hu) λh' st' sb=>?_;have I1:Inv X pins σ H {s with heap:=h'}:=I.turned (t':=s.toks) (λb o hb e=>(sb.2 b hb).trans e) f0 f1 f3 f4 f5;obtain⟨o,e,c,d⟩:=id st';exact⟨u,rfl,QkV (s:={s with heap:=h'}) e c d (by decide) ⟨x,H,I1,ru,⟨rfl,λys hy=>by rw[I.list_inj hy hq];exact hx⟩,st',λb hb=>(hf b hb).1⟩⟩
 done:=by intro X hP hw hK hc i pins s σ H E I hf st hg;subst hP hw hK;obtain⟨xs,hq,hx⟩:=hg;obtain⟨its,rv,p,hz⟩:=I.list hq;obtain⟨f0,f1,f2,f3,f4,f5⟩:=hf it (by simp);have hl:=rv.length;exact wpAny_pyNext_list_end (I.ok.hd hc) st p.isList (by simp;omega) λh' eb=>⟨rfl,I.turned (t':=s.toks) (λb o hb e=>eb b o hb e) f0 f1 f3 f4 f5⟩
 self:=λ_ _ _ _ _ st h=>wpAny_pyIter_listiter st h
theorem QhH{P:Program}{w:World}{K:Frag}{tg:Expr}(a it:Addr):Turn P w K tg (Itt K a) [it] it (λi h=>h.IsTupleIter it a i) where
 mem:=by simp
 obj:=λi h st b hb=>by
  have e:b=it:=by simpa using hb
  subst e;obtain⟨o,e,c,d⟩:=st;exact⟨o,e,λv z=>by rw[d]at z;cases z⟩
 keep:=λi h h' st k=>st.at λo e=>k it (by simp) o e
 item:=by intro X hP hw hK hc i pins s σ H E I hf st hg;subst hP hw hK;obtain⟨xs,x,hq,hx⟩:=hg;obtain⟨its,rv,p,hz⟩:=I.tuple hq;obtain⟨u,hu,ru⟩:=rv.get hx;obtain⟨f0,f1,f2,f3,f4,f5⟩:=hf it (by simp);refine wpAny_pyNext_tuple_item st (show s.heap.IsTuple a its.toArray from p) (x:=u) (by simpa using hu) λh' st' sb=>?_;have I1:Inv X pins σ H {s with heap:=h'}:=I.turned (t':=s.toks) (λb o hb e=>(sb.2 b hb).trans e) f0 f1 f3 f4 f5;obtain⟨o,e,c,d⟩:=id st';exact⟨u,rfl,QkV (s:={s with heap:=h'}) e c d (by decide) ⟨x,H,I1,ru,⟨rfl,λys hy=>by rw[I.tuple_inj hy hq];exact hx⟩,st',λb hb=>(hf b hb).1⟩⟩
 done:=by intro X hP hw hK hc i pins s σ H E I hf st hg;subst hP hw hK;obtain⟨xs,hq,hx⟩:=hg;obtain⟨its,rv,p,hz⟩:=I.tuple hq;obtain⟨f0,f1,f2,f3,f4,f5⟩:=hf it (by simp);have hl:=rv.length;exact wpAny_pyNext_tuple_end (I.ok.hd hc) st (show s.heap.IsTuple a its.toArray from p) (by simp;omega) λh' eb=>⟨rfl,I.turned (t':=s.toks) (λb o hb e=>eb b o hb e) f0 f1 f3 f4 f5⟩
 self:=λ_ _ _ _ _ st h=>wpAny_pyIter_tupleiter st h
theorem QhI{P:Program}{w:World}{K:Frag}{tg:Expr}(it:Addr)(lo:Int)(n:Nat):Turn P w K tg (Itr lo n) [it] it (λi h=>IsRangeIter h it (lo+(i:Nat)*1) ((n:Int) - (i:Nat)) 1) where
 mem:=by simp
 obj:=λi h st b hb=>by
  have e:b=it:=by simpa using hb
  subst e;exact⟨_,st,λv z=>by have z':Data.fields _=Data.cell v:=z;cases z'⟩
 keep:=λi h h' st k=>k it (by simp) _ st
 item:=by intro X hP hw hK hc i pins s σ H E I hf st hg;subst hP hw hK;obtain⟨f0,f1,f2,f3,f4,f5⟩:=hf it (by simp);have W:=Walks.range (prog:=X.prog) (w:=X.w) (I.ok.hd hc) it lo 1 n;refine W.item i s _ _ hg st λv h' tk hv st' kk=>?_;obtain⟨t,rfl⟩:=hv;have I1:Inv X pins σ H {s with heap:=h',toks:=tk}:=I.turned (λb o hb e=>kk b o (by simpa using hb) e) f0 f1 f3 f4 f5;refine⟨_,rfl,QkV (s:={s with heap:=h',toks:=tk}) (n:="range_iterator") st' rfl rfl (by decide) ⟨.int (lo+i),H,I1,⟨t,?_⟩,⟨rfl,rfl⟩,st',λb hb=>(hf b hb).1⟩⟩;rw[Int.mul_one]
 done:=by intro X hP hw hK hc i pins s σ H E I hf st hg;subst hP hw hK;obtain⟨f0,f1,f2,f3,f4,f5⟩:=hf it (by simp);exact wpAny_pyNext_range_end (I.ok.hd hc) st (by have:n<=i:=hg;omega) λh' eb=>⟨rfl,I.turned (t':=s.toks) (λb o hb e=>eb b o hb e) f0 f1 f3 f4 f5⟩
 self:=λ_ _ _ _ _ st h=>wpAny_pyIter_rangeiter st h
theorem QkW{pins:LAO}{σ:St}{H:Hp}{s:Shared}{R:It->Hp->Prop}{E:VP}{lo hi:Int}{t u v:Tok}{tk:Nat}(I:Inv X pins σ H s)(h1:-(2^62)<=lo)(h2:lo<2^62)(h3:-(2^62)<=hi)(h4:hi<2^62)(q:R (Itr lo (hi-lo).toNat) H):wpAny (model X.prog X.w) X.A (pyIter (.ref s.heap.objs.size)) (PIE X pins σ tg R) E {s with heap:=s.heap.push {cls:=.type "range",data:=.fields #[.int lo t,.int hi u,.int 1 v]},toks:=tk}:=by
 refine wpAny_pyIter_range (IsRange.new ..) (small_one h1 h2 h3 h4) ?_;have I1:Inv X pins σ H {s with heap:=s.heap.push {cls:=.type "range",data:=.fields #[.int lo t,.int hi u,.int 1 v]},toks:=tk}:=I.kept λb o e=>Ug _ e;refine⟨(s.heap.push {cls:=.type "range",data:=.fields #[.int lo t,.int hi u,.int 1 v]}).objs.size,[(s.heap.push {cls:=.type "range",data:=.fields #[.int lo t,.int hi u,.int 1 v]}).objs.size],_,_,H,rfl,I1.kept (t':=tk) λb o e=>Ug _ e,QhI _ lo (hi-lo).toNat,?_,λb hb=>?_,q⟩
 ·have e1:lo+((0:Nat):Int)*1=lo:=by simp
  have e2:(((hi-lo).toNat:Nat):Int) - ((0:Nat):Int)=Builtin.Range.rangeSize lo hi 1:=by rw[rangeSize_one];split<;>omega
  show IsRangeIter _ _ (lo+((0:Nat):Int)*1) ((((hi-lo).toNat:Nat):Int) - ((0:Nat):Int)) 1;rw[e1,e2];exact UA _ rfl
 ·have e:b=(s.heap.push {cls:=.type "range",data:=.fields #[.int lo t,.int hi u,.int 1 v]}).objs.size:=by simpa using hb
  subst e;exact I1.fpOk (Um _) (I1.hok.fresh (Um _))
def Qp0(ta:TA):TI:=λσ H R=>ta σ H λvs H1=>∃j:Int,vs=[.int j]/\-(2^62)<=j/\j<2^62/\R (Itr 0 j.toNat) H1
theorem Qiy(hg:Gl X "range")(hm:X.mg "range"=none)(ha:PA X [a] ta)(hs:starEach [a] X.env=[(false,eval a X.env)]:=by rfl):PI X tg (.Call (.Name "range" p) [a] [] pos) (Qp0 ta):=by
 intro pins s σ H R I h;refine Call_ (QgP I hg hm boot_range (Wt (thn (ha pos pins s σ H _ I h) λus s1 ⟨vs,H1,I1,r1,q1⟩=>?_) hs rfl));obtain⟨j,e,q1,q2,q⟩:=q1;subst e;cases r1 with
 |cons r rr =>cases rr;obtain⟨t,rfl⟩:=r;exact call_range_1 (QkW I1 (by omega) (by omega) q1 q2 (by simpa using q))
def tFor(wi:TI)(g:TG)(tb:TS):TS:=λD σ H=>wi σ H λJ H1=>∃W:Nat->Nat->St->Hp->Prop,(∃m,W 0 m σ H1)/\∀i m σ H,W i m σ H->(J.stop i H/\D.nx σ H)\/(J.go i H/\∃N:St->Hp->Prop,(∀σ' H',N σ' H'->∃m',m'<m/\W (i+1) m' σ' H')/\∀x H',J.yld i H x H'->g x σ H' λσ2 H2=>tb {D with nx:=N,ct:=N,bk:=D.nx} σ2 H2)
def QeQ(fp:List Addr)(h:Heap):List (Addr×Obj):=fp.filterMap λb=>(h.get? b).map λo=>(b,o)
theorem Qav(hb:b∈fp)(e:h.get? b=some o):(b,o)∈QeQ fp h:=WA.mpr ⟨b,hb,by rw[e];rfl⟩
theorem Qiz(hp:p∈QeQ fp h):p.1∈fp/\h.get? p.1=some p.2:=by
 obtain⟨b,hb,e⟩:=WA.mp hp;cases q:h.get? b with
 |none=>rw[q]at e;cases e|some o =>rw[q]at e;have e':(b,o)=p:=Option.some.inj e;subst e';exact⟨hb,q⟩
theorem Inv.pinned(I:Inv X pins σ H s)(hf:∀b∈fp,FpOk X pins H b)(ho:∀b∈fp,∃o,s.heap.get? b=some o/\∀v,o.data≠.cell v):Inv X (pins++QeQ fp s.heap) σ H s:=
 I.pins_of λp hp=>(Uq.mp hp).elim (λz=>I.pin p (UD _ z)) λz=>by obtain⟨hb,e⟩:=Qiz z;obtain⟨f0,f1,f2,_⟩:=hf p.1 hb;obtain⟨o,e',d⟩:=ho p.1 hb;rw[e]at e';cases e';exact⟨e,f0,f1,f2,d⟩
theorem Inv.unpinned(I:Inv X (pins++pl) σ H s):Inv X pins σ H s:=I.pins_of λp hp=>I.pin p (UD _ (TH _ hp))
theorem Qoq{iter:Expr}{body:List Stmt}{wi:TI}{g:TG}{tb:TS}{pos:Pos}(hp:PassesOwn (model X.prog X.w) X.A X.env X.xe)(hc:X.calm=true)(hi:PI X tg iter wi)(hg:PG X tg g)(hb:PSs X body tb)(hs:∀x,foldedSetIterable iter X.env x=pure x:=by intro _;rfl):PS X (.For tg iter body [] pos) (tFor wi g tb):=by
 intro pins s σ H D I h;refine wpAny_For (thn (hi pins s σ H _ I h) λv s1 h1=>thn h1 λitv s2 h2=>?_) hs;obtain⟨it,fp,tn,J,H2,e,I2,T,st2,f2,W,⟨m0,w0⟩,turn⟩:=h2;subst e
 -- what stays true of the iterator's objects through the loop
 have stat:∀{H':Hp},(∀b∈fp,H' b=none)->∀b∈fp,FpOk X pins H' b:=λhn b hb=>⟨hn b hb,(f2 b hb).2⟩;refine codeAny_forLoop_any (λn s'=>∃i σ' H',Inv X pins σ' H' s'/\tn i s'.heap/\(∀b∈fp,H' b=none)/\W i n σ' H') ?_ m0 ⟨0,σ,H2,I2,st2,λb hb=>(f2 b hb).1,w0⟩;rintro n s3 ⟨i,σ3,H3,I3,st3,fr3,w3⟩;rcases turn i n σ3 H3 w3 with⟨stop,qn⟩|⟨go,N,hN,step⟩
 ·refine T4 hp (thn (T.done X rfl rfl rfl hc i pins s3 σ3 H3 X.xe I3 (stat fr3) st3 stop) λr s4 ⟨hr,I4⟩=>?_);subst hr;exact Wm ⟨σ3,H3,I4,qn⟩
 ·refine T4 hp (thn (T.item X rfl rfl rfl hc i pins s3 σ3 H3 X.xe I3 (stat fr3) st3 go) λr s4 ⟨u,hr,h4⟩=>?_);subst hr;refine T4 hp (thn h4 λ_ s5 ⟨x,H5,I5,r5,y5,st5,fr5⟩=>?_);have I5':=I5.pinned (stat fr5) (T.obj _ _ st5);refine T4 hp (thn (hg _ s5 σ3 H5 x u _ I5' r5 (step x H5 y5)) λ_ s6 ⟨σ6,H6,I6,q6⟩=>?_);refine T4 hp (thn (hb _ s6 σ6 H6 _ I6 q6) λf s7 q7=>?_);have again:∀{σ7:St}{H7:Hp},Inv X (pins++QeQ fp s5.heap) σ7 H7 s7->N σ7 H7->∃m,m<n/\∃i σ' H',Inv X pins σ' H' s7/\tn i s7.heap/\(∀b∈fp,H' b=none)/\W i m σ' H':=λ{σ7 H7} I7 n7=>by obtain⟨m',hm,w7⟩:=hN σ7 H7 n7;refine⟨m',hm,i+1,σ7,H7,I7.unpinned,T.keep _ _ _ st5 λb hb o e=>(I7.pin (b,o) (UD _ (UD _ (Qav hb e)))).1,λb hb=>?_,w7⟩;obtain⟨o,e,d⟩:=T.obj _ _ st5 b hb;exact(I7.pin (b,o) (UD _ (UD _ (Qav hb e)))).2.1
  cases f with
  |next=>obtain⟨σ7,H7,I7,n7⟩:=q7;exact again I7 n7|cont=>obtain⟨σ7,H7,I7,n7⟩:=q7;exact again I7 n7|brk=>obtain⟨σ7,H7,I7,q7⟩:=q7;exact⟨σ7,H7,I7.unpinned,q7⟩|ret v=>obtain⟨x7,σ7,H7,I7,r7,q7⟩:=q7;exact⟨x7,σ7,H7,I7.unpinned,r7,q7⟩
abbrev R2:=V->V->Hp->VK->Prop
def OpR(X:Cx)(f:Value->Value->Sem Value)(r:R2):Prop:=∀(pins:LAO)(s:Shared)(σ:St)(H:Hp)(x y:V)(v u:Value)(Q:VK),Inv X pins σ H s->RelV x v->RelV y u->r x y H Q->wpAny (model X.prog X.w) X.A (f v u) (EP X pins σ Q) X.xe s
def UnR(X:Cx)(f:Value->Sem Value)(r:V->Hp->VK->Prop):Prop:=∀(pins:LAO)(s:Shared)(σ:St)(H:Hp)(x:V)(v:Value)(Q:VK),Inv X pins σ H s->RelV x v->r x H Q->wpAny (model X.prog X.w) X.A (f v) (EP X pins σ Q) X.xe s
def CallR(X:Cx)(f:Value)(r:List V->Hp->VK->Prop):Prop:=∀(pins:LAO)(s:Shared)(σ:St)(H:Hp)(xs:List V)(us:List Value)(Q:VK),Inv X pins σ H s->Vals xs us->r xs H Q->wpAny (model X.prog X.w) X.A (call f us) (EP X pins σ Q) X.xe s
def tOp(r:R2)(ta tb:TE):TE:=λσ H Q=>ta σ H λx H1=>tb σ H1 λy H2=>r x y H2 Q
def tUn(r:V->Hp->VK->Prop)(ta:TE):TE:=λσ H Q=>ta σ H λx H1=>r x H1 Q
def rI(C:Int->Int->Prop)(g:Int->Int->V):R2:=λx y H Q=>∃i j,x=.int i/\y=.int j/\C i j/\Q (g i j) H
def rI0(g:Int->Int->V):R2:=λx y H Q=>∃i j,x=.int i/\y=.int j/\Q (g i j) H
def rU(g:Int->V):V->Hp->VK->Prop:=λx H Q=>∃i,x=.int i/\Q (g i) H
theorem binT(ha:PE X a ta)(hb:PE X b tb){pins:LAO}{s:Shared}{σ:St}{H:Hp}{R:V->V->Hp->Prop}(I:Inv X pins σ H s)(h:ta σ H λx H1=>tb σ H1 λy H2=>R x y H2){Q:VP}{f:Value->Value->Sem Value}(hf:∀v u s2 x y H2,Inv X pins σ H2 s2->RelV x v->RelV y u->R x y H2->wpAny (model X.prog X.w) X.A (f v u) Q X.xe s2):
  wpAny (model X.prog X.w) X.A (eval a X.env) (λv s₁=>wpAny (model X.prog X.w) X.A (eval b X.env) (λu s₂=>wpAny (model X.prog X.w) X.A (f v u) Q X.xe s₂) X.xe s₁) X.xe s:=by
 refine thn (ha pins s σ H _ I h) λv s1 ⟨x,H1,I1,r1,q1⟩=>?_;refine thn (hb pins s1 σ H1 _ I1 q1) λu s2 ⟨y,H2,I2,r2,q2⟩=>?_;exact hf v u s2 x y H2 I2 r1 r2 q2
theorem Qp1(ho:OpR X (binaryOp op) r)(ha:PE X a ta)(hb:PE X b tb):PE X (.BinOp a op b pos) (tOp r ta tb):=by intro pins s σ H Q I h;exact wpAny_BinOp (binT ha hb I h λv u s2 x y H2 I2 rx ry q=>ho pins s2 σ H2 x y v u Q I2 rx ry q)
theorem Qp2(ho:UnR X (unaryOp op) r)(ha:PE X a ta):PE X (.UnaryOp op a pos) (tUn r ta):=by intro pins s σ H Q I h;exact UnaryOp_ (thn (ha pins s σ H _ I h) λv s1 ⟨x,H1,I1,r1,q1⟩=>ho pins s1 σ H1 x v Q I1 r1 q1)
theorem opI{f:Value->Value->Sem Value}{C:Int->Int->Prop}{g:Int->Int->Int}(rule:∀(i j:Int) (t u:Tok) (s:Shared) (Q:VP) (E:VP),C i j->Q (.int (g i j) s.toks) {s with toks:=s.toks+1}->wpAny (model X.prog X.w) X.A (f (.int i t) (.int j u)) Q E s):
  OpR X f (rI C λi j=>.int (g i j)):=by
 intro pins s σ H x y v u Q I rx ry h;obtain⟨i,j,rfl,rfl,hc,q⟩:=h;obtain⟨t,rfl⟩:=rx;obtain⟨t',rfl⟩:=ry;exact rule i j t t' s _ _ hc ⟨.int (g i j),H,I.tok _,⟨_,rfl⟩,q⟩
theorem opI0{f:Value->Value->Sem Value}{g:Int->Int->Int}(rule:∀(i j:Int) (t u:Tok) (s:Shared) (Q:VP) (E:VP),Q (.int (g i j) s.toks) {s with toks:=s.toks+1}->wpAny (model X.prog X.w) X.A (f (.int i t) (.int j u)) Q E s):
  OpR X f (rI0 λi j=>.int (g i j)):=by
 intro pins s σ H x y v u Q I rx ry h;obtain⟨i,j,rfl,rfl,q⟩:=h;obtain⟨t,rfl⟩:=rx;obtain⟨t',rfl⟩:=ry;exact rule i j t t' s _ _ ⟨.int (g i j),H,I.tok _,⟨_,rfl⟩,q⟩
theorem opB0{f:Value->Value->Sem Value}{g:Int->Int->Bool}(rule:∀(i j:Int) (t u:Tok) (s:Shared) (Q:VP) (E:VP),Q (.bool (g i j)) s->wpAny (model X.prog X.w) X.A (f (.int i t) (.int j u)) Q E s):
  OpR X f (rI0 λi j=>.bl (g i j)):=by
 intro pins s σ H x y v u Q I rx ry h;obtain⟨i,j,rfl,rfl,q⟩:=h;obtain⟨t,rfl⟩:=rx;obtain⟨t',rfl⟩:=ry;exact rule i j t t' s _ _ ⟨.bl (g i j),H,I,rfl,q⟩
def CDiv(i j:Int):Prop:=0<j/\j<1073741824
def CMul(i j:Int):Prop:=(-(2^64)<i/\i<2^64)\/(-(2^64)<j/\j<2^64)
theorem CMul.ok(h:CMul i j):IntMulOk i j:=by
 rcases h with⟨h1,h2⟩|⟨h1,h2⟩
 ·exact .of_left (intBits_le_64 h1 h2)
 ·exact .of_right (intBits_le_64 h1 h2)
theorem op_add:OpR X (binaryOp .Add) (rI0 λi j=>.int (i+j)):=opI0 λ_ _ _ _ _ _ _ q=>add_int q
theorem Qor:OpR X (binaryOp .Sub) (rI0 λi j=>.int (i-j)):=opI0 λ_ _ _ _ _ _ _ q=>sub_int q
theorem Qos:OpR X (binaryOp .Mult) (rI CMul λi j=>.int (i*j)):=opI λ_ _ _ _ _ _ _ hc q=>mul_int q hc.ok
theorem QmR:OpR X (binaryOp .FloorDiv) (rI CDiv λi j=>.int (i/j)):=opI λi j _ _ _ _ _ hc q=>by have h1:(0:Int)<j:=hc.1;have h2:j<1073741824:=hc.2;exact floordiv_int (by omega) (by rw[Int.fdiv_eq_ediv_of_nonneg i (by omega)];exact q) (.inl (PyProof.noPylong_small (by omega)))
theorem Qot:OpR X (binaryOp .Mod) (rI (λ_ j=>0<j) λi j=>.int (i%j)):=opI λi j _ _ _ _ _ hc q=>by have h1:(0:Int)<j:=hc;exact mod_int' (by omega) (by rw[Int.fmod_eq_emod_of_nonneg i (by omega)];exact q)
theorem unI{f:Value->Sem Value}{g:Int->Int}(rule:∀(i:Int) (t:Tok) (s:Shared) (Q:VP) (E:VP),Q (.int (g i) s.toks) {s with toks:=s.toks+1}->wpAny (model X.prog X.w) X.A (f (.int i t)) Q E s):
  UnR X f (rU λi=>.int (g i)):=by
 intro pins s σ H x v Q I rx h;obtain⟨i,rfl,q⟩:=h;obtain⟨t,rfl⟩:=rx;exact rule i t s _ _ ⟨.int (g i),H,I.tok _,⟨_,rfl⟩,q⟩
theorem Qou:UnR X (unaryOp .USub) (rU λi=>.int (-i)):=unI λ_ _ _ _ _ q=>neg_int q
def scal:V->V->Bool
 |.non,.non=>true | .non,.int _=>true | .int _,.non=>true | .non,.bl _=>true | .bl _,.non=>true | .non,.str _=>true | .str _,.non=>true|.int _,.int _=>true | .bl _,.bl _=>true | .str _,.str _=>true | .byt _,.byt _=>true|.int _,.str _=>true | .str _,.int _=>true | .bl _,.str _=>true | .str _,.bl _=>true|_,_=>false
def rEq:R2:=λx y H Q=>scal x y=true/\Q (.bl (decide (x=y))) H
def rNe:R2:=λx y H Q=>scal x y=true/\Q (.bl (!decide (x=y))) H
theorem QdU:decide (V.int i=V.int j)=(i==j):=by rw[Tk];simp
theorem QgQ:decide (V.bl i=V.bl j)=(i==j):=by rw[Tk];simp
theorem QdV:decide (V.str i=V.str j)=(i==j):=by rw[Tk];simp
theorem QiA:decide (V.byt i=V.byt j)=(i.toList==j.toList):=by rw[Tk];cases i;cases j;simp
theorem QV(I:Inv X pins σ H s)(q:Q (.bl k) H)(e:k=k'):EP X pins σ Q (.bool k') s:=by subst e;exact⟨.bl k,H,I,rfl,q⟩
theorem op_eq:OpR X (compareOp .Eq) rEq:=by
 intro pins s σ H x y v u Q I rx ry h;obtain⟨hs,q⟩:=h;cases x with
 |non=>
  cases rx;cases y with
  |non=>cases ry;exact PySem.EqNone.eq_none_none (QV I q (by simp))|bl j=>cases ry;exact PySem.EqNone.eq_none_bool (QV I q (by simp))|int j=>obtain⟨t',rfl⟩:=ry;exact PySem.EqNone.eq_none_int (QV I q (by simp))|str j=>obtain⟨t',rfl⟩:=ry;exact PySem.EqNone.eq_none_str (QV I q (by simp))|_=>exact absurd (show false=true from hs) Uk
 |bl i=>
  cases rx;cases y with
  |non=>cases ry;exact PySem.EqNone.eq_bool_none (QV I q (by simp))|bl j=>cases ry;exact eq_bool (QV I q QgQ)|str j=>obtain⟨t',rfl⟩:=ry;exact PySem.EqMixed.eq_bool_str (QV I q (by simp))|_=>exact absurd (show false=true from hs) Uk
 |int i=>
  obtain⟨t,rfl⟩:=rx;cases y with
  |non=>cases ry;exact PySem.EqNone.eq_int_none (QV I q (by simp))|int j=>obtain⟨t',rfl⟩:=ry;exact eq_int (QV I q QdU)|str j=>obtain⟨t',rfl⟩:=ry;exact PySem.EqMixed.eq_int_str (QV I q (by simp))|_=>exact absurd (show false=true from hs) Uk
 |str i=>
  obtain⟨t,rfl⟩:=rx;cases y with
  |non=>cases ry;exact PySem.EqNone.eq_str_none (QV I q (by simp))|bl j=>cases ry;exact PySem.EqMixed.eq_str_bool (QV I q (by simp))|int j=>obtain⟨t',rfl⟩:=ry;exact PySem.EqMixed.eq_str_int (QV I q (by simp))|str j=>obtain⟨t',rfl⟩:=ry;exact eq_str (QV I q QdV)|_=>exact absurd (show false=true from hs) Uk
 |byt i=>
  obtain⟨t,rfl⟩:=rx;cases y with
  |byt j=>obtain⟨t',rfl⟩:=ry;exact eq_bytes (QV I q QiA)|_=>exact absurd (show false=true from hs) Uk
 |_=>cases y<;>exact absurd (show false=true from hs) Uk
theorem op_ne:OpR X (compareOp .NotEq) rNe:=by
 intro pins s σ H x y v u Q I rx ry h;obtain⟨hs,q⟩:=h;cases x with
 |non=>
  cases rx;cases y with
  |non=>cases ry;exact PySem.EqNone.ne_none_none (QV I q (by simp))|bl j=>cases ry;exact PySem.EqNone.ne_none_bool (QV I q (by simp))|int j=>obtain⟨t',rfl⟩:=ry;exact PySem.EqNone.ne_none_int (QV I q (by simp))|str j=>obtain⟨t',rfl⟩:=ry;exact PySem.EqNone.ne_none_str (QV I q (by simp))|_=>exact absurd (show false=true from hs) Uk
 |bl i=>
  cases rx;cases y with
  |non=>cases ry;exact PySem.EqNone.ne_bool_none (QV I q (by simp))|bl j=>cases ry;exact ne_bool (QV I q (TV not QgQ))|str j=>obtain⟨t',rfl⟩:=ry;exact PySem.EqMixed.ne_bool_str (QV I q (by simp))|_=>exact absurd (show false=true from hs) Uk
 |int i=>
  obtain⟨t,rfl⟩:=rx;cases y with
  |non=>cases ry;exact PySem.EqNone.ne_int_none (QV I q (by simp))|int j=>obtain⟨t',rfl⟩:=ry;exact ne_int (QV I q (TV not QdU))|str j=>obtain⟨t',rfl⟩:=ry;exact PySem.EqMixed.ne_int_str (QV I q (by simp))|_=>exact absurd (show false=true from hs) Uk
 |str i=>
  obtain⟨t,rfl⟩:=rx;cases y with
  |non=>cases ry;exact PySem.EqNone.ne_str_none (QV I q (by simp))|bl j=>cases ry;exact PySem.EqMixed.ne_str_bool (QV I q (by simp))|int j=>obtain⟨t',rfl⟩:=ry;exact PySem.EqMixed.ne_str_int (QV I q (by simp))|str j=>obtain⟨t',rfl⟩:=ry;exact ne_str (QV I q (TV not QdV))|_=>exact absurd (show false=true from hs) Uk
 |byt i=>
  obtain⟨t,rfl⟩:=rx;cases y with
  |byt j=>obtain⟨t',rfl⟩:=ry;exact ne_bytes (QV I q (TV not QiA))|_=>exact absurd (show false=true from hs) Uk
 |_=>cases y<;>exact absurd (show false=true from hs) Uk
theorem Qov:OpR X (compareOp .Lt) (rI0 λi j=>.bl (decide (i<j))):=opB0 λ_ _ _ _ _ _ _ q=>lt_int q
theorem Qow:OpR X (compareOp .LtE) (rI0 λi j=>.bl (decide (i<=j))):=opB0 λ_ _ _ _ _ _ _ q=>le_int q
theorem Qp3:OpR X (compareOp .Gt) (rI0 λi j=>.bl (decide (j<i))):=opB0 λ_ _ _ _ _ _ _ q=>gt_int q
theorem Qp4:OpR X (compareOp .GtE) (rI0 λi j=>.bl (decide (j<=i))):=opB0 λ_ _ _ _ _ _ _ q=>ge_int q
theorem Qox:OpR X (compareOp .Is) (λx y H Q=>y=.non/\Q (.bl (decide (x=.non))) H):=by
 intro pins s σ H x y v u Q I rx ry h;obtain⟨rfl,q⟩:=h;cases ry;refine is_none_gen (QV I q ?_);cases x<;>first
  | (cases rx;rfl)
  | (obtain⟨t,rfl⟩:=rx;rfl)
theorem QmS:OpR X (compareOp .IsNot) (λx y H Q=>y=.non/\Q (.bl (!decide (x=.non))) H):=by
 intro pins s σ H x y v u Q I rx ry h;obtain⟨rfl,q⟩:=h;cases ry;refine isnot_none_gen (QV I q ?_);cases x<;>first
  | (cases rx;rfl)
  | (obtain⟨t,rfl⟩:=rx;rfl)
theorem OpR.or(h:OpR X f r)(h':OpR X f r'):OpR X f (λx y H Q=>r x y H Q\/r' x y H Q):=by
 intro pins s σ H x y v u Q I rx ry q;rcases q with q|q
 ·exact h pins s σ H x y v u Q I rx ry q
 ·exact h' pins s σ H x y v u Q I rx ry q
theorem Qa0(b:Expr)(h:op≠.In:=by decide)(h2:op≠.NotIn:=by decide):behindInMarks op b=false:=by
 have e1:(op==CmpOp.In)=false:=by cases op<;>first|rfl|exact absurd rfl h
 have e2:(op==CmpOp.NotIn)=false:=by cases op<;>first|rfl|exact absurd rfl h2
 cases b<;>simp[behindInMarks,e1,e2]
theorem QmT(ho:OpR X (compareOp op) r)(ha:PE X a ta)(hb:PE X b tb)(hm:behindInMarks op b=false):PE X (.Compare a [op] [b] pos) (tOp r ta tb):=by intro pins s σ H Q I h;exact wpAny_Compare1 (binT ha hb I h λv u s2 x y H2 I2 rx ry q=>ho pins s2 σ H2 x y v u Q I2 rx ry q) hm
def Qp5(t:TE):TT:=λσ H Q=>t σ H λx H'=>∃k,x=.bl k/\Q k H'
theorem QmU(ho:OpR X (compareOp op) r)(ha:PE X a ta)(hb:PE X b tb)(hm:behindInMarks op b=false):PT X (.Compare a [op] [b] pos) (Qp5 (tOp r ta tb)):=by
 intro pins s σ H Q I h;refine wpAny_isTrue_Compare1 (thn (ha pins s σ H _ I h) λv s1 ⟨x,H1,I1,r1,q1⟩=>thn (hb pins s1 σ H1 _ I1 q1) λu s2 ⟨y,H2,I2,r2,q2⟩=>
  thn (ho pins s2 σ H2 x y v u _ I2 r1 r2 q2) λc s3 ⟨z,H3,I3,r3,k,e,q3⟩=>?_) hm
 subst e;cases r3;exact Td ⟨H3,I3,q3⟩
def Ql0(r r':R2)(ta tb tc:TE):TE:=λσ H Q=>ta σ H λx H1=>tb σ H1 λy H2=>r x y H2 λz H3=>∃k,z=.bl k/\(if k=true then tc σ H3 λw' H4=>r' y w' H4 Q else Q (.bl false) H3)
theorem QkX{op op':CmpOp}{r r':R2}(ho:OpR X (compareOp op) r)(ho':OpR X (compareOp op') r')(ha:PE X a ta)(hb:PE X b tb)(hc:PE X c tc)(hm:lastMarks [op,op'] [b,c]=false:=by with_unfolding_all rfl):PE X (.Compare a [op,op'] [b,c] pos) (Ql0 r r' ta tb tc):=by
 intro pins s σ H Q I h;refine Compare_chain (thn (ha pins s σ H _ I h) λv s1 ⟨x,H1,I1,r1,q1⟩=>chain_link (thn (hb pins s1 σ H1 _ I1 q1) λu s2 ⟨y,H2,I2,r2,q2⟩=>
  thn (ho pins s2 σ H2 x y v u _ I2 r1 r2 q2) λd s3 ⟨z,H3,I3,r3,k,e,q3⟩=>?_)) hm
 subst e;cases r3;refine Td ?_;cases k with
 |false=>exact ite_ff ⟨.bl false,H3,I3,rfl,q3⟩|true=>exact ite_tt (chain_last (thn (hc pins s3 σ H3 _ I3 q3) λw' s4 ⟨z',H4,I4,r4,q4⟩=>ho' pins s4 σ H4 y z' u w' Q I4 r2 r4 q4))
theorem Qdw:(sizeLine:Nat)<2^63:=by rw[Tn];decide
theorem QiB(r:Vals [x] us):∃u,us=[u]/\RelV x u:=by
 cases r with
 |cons r1 r2=>cases r2;exact⟨_,rfl,r1⟩
theorem Qoy(r:Vals [x,y] us):∃u w',us=[u,w']/\RelV x u/\RelV y w':=by
 cases r with
 |cons r1 r2=>
  cases r2 with
  |cons r3 r4=>cases r4;exact⟨_,_,rfl,r1,r3⟩
theorem QiC(hc:X.calm=true):CallR X (.builtin "min") (λxs H Q=>∃i j,xs=[.int i,.int j]/\Q (.int (if j<i then j else i)) H):=by
 intro pins s σ H xs us Q I r h;obtain⟨i,j,rfl,q⟩:=h;obtain⟨u,w',rfl,⟨t,rfl⟩,⟨t',rfl⟩⟩:=Qoy r;refine min_two_ints (I.ok.hd hc) λh' tk k=>⟨_,H,I.kept k,?_,q⟩;by_cases hj:j<i
 ·rw[Uj hj,Uj hj];exact⟨_,rfl⟩
 ·rw[Uo hj,Uo hj];exact⟨_,rfl⟩
theorem QiD:CallR X (.type "int") (λxs H Q=>(∃i,xs=[.int i]/\Q (.int i) H)\/∃k,xs=[.bl k]/\Q (.int (if k then 1 else 0)) H):=by
 intro pins s σ H xs us Q I r h;rcases h with⟨i,rfl,q⟩|⟨k,rfl,q⟩
 ·obtain⟨u,rfl,t,rfl⟩:=QiB r;exact call_int_int ⟨.int i,H,I,⟨_,rfl⟩,q⟩
 ·obtain⟨u,rfl,r1⟩:=QiB r;cases r1;exact call_int_bool ⟨.int (if k then 1 else 0),H,I.tok _,⟨_,rfl⟩,q⟩
structure ObjM(h:Heap)(x dx C:Addr)(mA:SOV):Prop where
 obj:h.get? x=some (instObj C dx)
 ns:h.Ns1 dx mA
 ne:dx≠x
theorem QiE{h:Heap}{dx:Addr}{mA:SOV}(n:h.Ns1 dx mA):∃od,h.get? dx=some od/\∀name,lookIn name od=some (mA name):=by
 obtain⟨o,es,ep,ho,hd,hk,_,hm⟩:=n;refine⟨o,ho,λname=>?_⟩;have e:=hm name;unfold nsFind findBy at e;rw[<-Array.find?_toList]at e;unfold lookIn;rw[hd];dsimp only;split
 ·rename_i y q;rw[q]at e;exact TV some e
 ·rename_i q;rw[q]at e;have a:es.toList.any (·.refKey)=false:=by rw[List.any_eq_false];intro y hy;obtain⟨z,t,hkey⟩:=hk y (Array.mem_toList_iff.mp hy);simp[DictEntry.refKey,hkey]
  have a':¬es.toList.any (·.refKey)=true:=by rw[a];exact Uk
  rw[Uo a'];exact TV some e
theorem ObjM.look(I:ObjM h x dx C mA):∃od,PySem.W.InstAt h x (instObj C dx) C (some od)/\∀name,lookIn name od=some (mA name):=
 let ⟨od,ho,hl⟩:=QiE I.ns
 ⟨od,⟨I.obj,rfl,rfl,ho⟩,hl⟩
section
variable{prog:Program}{w:World}{A:Around}{E:VP}{s:Shared}{K:Frag}{x dx C f:Addr}{mA:SOV}{name:Str}{v:Value}
theorem QmV{expr:Bool}{Q:VP}(X:K.In s.heap)(I:ObjM s.heap x dx C mA)(hg:plainGet K C name=true)(hh:hasDictIn K C=true)(ha:findIn K (.ref C) name=some none)(hv:mA name=some v)(hv':handedIn v=true)(h:Q v {s with toks:=s.toks+1}):
  wpAny (model prog w) A (getAttr (.ref x) name expr) Q E s:=by
 obtain⟨od,J,hl⟩:=I.look;exact get_value X J (Wp hg).1 (findObj_own hh ha rfl (by rw[hl,hv])) hv' h
theorem QkY{pl:Sem Bool}{Q:Value×List Value->Shared->Prop}(X:K.In s.heap)(I:ObjM s.heap x dx C mA)(hg:plainGet K C name=true)(hf:findIn K (.ref C) name=some (some (.ref f)))(ht:isFn K (.ref f)=true)(hv:mA name=none)(h:Q (.ref f,[.ref x]) s):
  wpAny (model prog w) A (getMethod (.ref x) name pl) Q E s:=by
 obtain⟨od,J,hl⟩:=I.look;exact method_fn X J (Wp hg).1 (Wp hg).2 hf (Rv.mp ht) (by show(lookIn name od).map (·.isSome)=some false;rw[hl,hv];rfl) h
theorem QmW{ns:List Str}{Q:Unit->Shared->Prop}(X:K.In s.heap)(I:ObjM s.heap x dx C mA)(hs:findIn K (.ref C) "__setattr__"=some (some (.builtin "object.__setattr__")))(hp:plainOver K C=true)(ht:takerIn K C name=some none)(hh:hasDictIn K C=true)(hw:PySem.Within mA ns)(hsz:ns.length<=sizeLine)(h:∀h',ObjM h' x dx C (λy=>if y=name then some v else mA y)->Heap.SameBut dx s.heap h'->Q () {s with heap:=h',toks:=s.toks+2}):
  wpAny (model prog w) A (setAttr (.ref x) name v) Q E s:=by
 obtain⟨od,J,hl⟩:=I.look;refine set_plain X J hs (osa_open (s:={s with toks:=s.toks+1}) (r:=none) X J hp ht λb=>?_);obtain⟨cd,hc,hd'⟩:=any_some hh;have hx:s.heap.get? x=some ⟨.ref C,some dx,.plain,#[]⟩:=I.obj;refine Ua (Ud (Ua (Ua (wpAny_loadPart hx (Ua (Looks.here (s:={s with toks:=s.toks+1}) (looks_clsIn X hc) ?_))))));rw[hd'];refine Ud (a:=some dx) (Ua (Ud (Ua ?_)));refine wpAny_nsSet1 (s:={s with toks:=s.toks+1}) I.ns λh' hn2 hs2=>?_;obtain⟨oD,esD,epD,hoD,hdD,hcD⟩:=hn2.count (PySem.Within.cons name v hw);refine Ua (wpAny_lookBehind hoD (by rw[hdD];exact pastItsLine_dict (Ue hcD (by rw[Uy];omega))) ?_);exact Ud (h _ ⟨(hs2.2 _ (Ne.symm I.ne)).trans I.obj,hn2,I.ne⟩ hs2)
theorem QkZ{R:Result->Shared->Prop}{vs:List Value}{kw:List (Str×Value)}(X:K.In s.heap)(hm:makesIn K C=true)(hi:findIn K (.ref C) "__init__"=some (some (.ref f)))(hf:typeIn K (.ref f)=some (.type "function"))(h:codeAny (model prog w) (A.under (.builtin "type.__call__" ⟨.ref C::vs,kw⟩)) (.call (.ref f) ⟨.ref (s.heap.objs.size+1)::vs,kw⟩) (InitBack (s.heap.objs.size+1) R)
   {s with heap:=(s.heap.push emptyDict).push (instObj C s.heap.objs.size)}):
  codeAny (model prog w) A (.call (.ref C) ⟨vs,kw⟩) R s:=by
 obtain⟨hh,g,d,t,os⟩:=s;exact make_core (makes_of X hm) (looks_findIn X hi) (λself=>bind_fn X self hf) (.inl rfl) h
end
def putF(f:Str)(v:V):List (Str×V)->List (Str×V)
 |[]=>[(f,v)]| (g,x)::r=>if g=f then (g,v)::r else (g,x)::putF f v r
theorem QcD(f g:Str)(v:V):∀fs:List (Str×V),(putF f v fs).lookup g=if g=f then some v else fs.lookup g
 |[]=>by
  show List.lookup g [(f,v)]=_;by_cases h:g=f
  ·have hb:(g==f)=true:=Rv.mpr h;simp only[List.lookup,hb,Uj h]
  ·have hb:(g==f)=false:=U9.mpr h;simp only[List.lookup,hb,Uo h]
 | (k,x)::r=>by
  have ih:=QcD f g v r;rw[show putF f v ((k,x)::r)=(if k=f then (k,v)::r else (k,x)::putF f v r) from rfl];by_cases hk:k=f
  ·rw[Uj hk];by_cases h:g=k
   ·have hb:(g==k)=true:=Rv.mpr h;simp only[List.lookup,hb,Uj (h.trans hk)]
   ·have hb:(g==k)=false:=U9.mpr h;simp only[List.lookup,hb,Uo (λe:g=f=>h (e.trans hk.symm))]
  ·rw[Uo hk];by_cases h:g=k
   ·have hb:(g==k)=true:=Rv.mpr h;simp only[List.lookup,hb,Uo (λe:g=f=>hk (h.symm.trans e))]
   ·have hb:(g==k)=false:=U9.mpr h;simp only[List.lookup,hb];exact ih
theorem QcE(f:Str)(v:V):∀fs:List (Str×V),f∈(putF f v fs).map (·.1)/\∀g,g∈fs.map (·.1)->g∈(putF f v fs).map (·.1)
 |[]=>⟨by simp[putF],λg h=>by simp at h⟩| (k,x)::r=>by
  obtain⟨i1,i2⟩:=QcE f v r;rw[show putF f v ((k,x)::r)=(if k=f then (k,v)::r else (k,x)::putF f v r) from rfl];by_cases hk:k=f
  ·rw[Uj hk];subst hk;exact⟨by simp,λg h=>by simpa using h⟩
  ·rw[Uo hk];refine⟨?_,λg h=>?_⟩
   ·rw[UC];exact Ut _ i1
   ·rw[UC]at h ⊢;rcases Uv.mp h with e|e
    ·exact Uv.mpr (.inl e)
    ·exact Ut _ (i2 g e)
theorem QcF(f:Str)(v:V):∀fs:List (Str×V),(putF f v fs).length<=fs.length+1
 |[]=>by simp[putF]
 | (k,x)::r=>by
  have ih:=QcF f v r;rw[show putF f v ((k,x)::r)=(if k=f then (k,v)::r else (k,x)::putF f v r) from rfl];by_cases hk:k=f
  ·rw[Uj hk,Uy,Uy];omega
  ·rw[Uo hk,Uy,Uy];omega
theorem RelO.some_of(r:RelO (some v) o):∃u,o=some u/\RelV v u:=by
 cases o with
 |none=>exact(show False from r).elim|some u=>exact⟨u,rfl,r⟩
theorem RelO.none_of(r:RelO none o):o=none:=by
 cases o with
 |none=>rfl|some u=>exact(show False from r).elim
theorem QiF(r:RelV v u):handedIn u=true:=by
 cases v with
 |non=>cases (show u=Value.none from r);rfl|bl b=>cases (show u=Value.bool b from r);rfl|int i=>obtain⟨t,e⟩:=(show ∃t,u=Value.int i t from r);cases e;rfl|str x=>obtain⟨t,e⟩:=(show ∃t,u=Value.str x t from r);cases e;rfl|byt b=>obtain⟨t,e⟩:=(show ∃t,u=Value.bytes b t from r);cases e;rfl|flt b=>obtain⟨t,e⟩:=(show ∃t,u=Value.float b t from r);cases e;rfl|ref a=>cases (show u=Value.ref a from r);rfl|ty n=>cases (show u=Value.type n from r);rfl
theorem QdW(hok:HOk P w H h)(e:H a=some (.ins C dx fs)):∃mA,ObjM h a dx C mA/\(∀f,RelO (fs.lookup f) (mA f))/\PySem.Within mA (fs.map (·.1))/\fs.length<=1000/\H dx=some (.own a):=by obtain⟨d,z,ne,ob,mA,n,r,q⟩:=(show ObjOk P w H h a (.ins C dx fs) from hok a _ e);exact⟨mA,⟨ob,n,ne⟩,r,q,z,d⟩
structure Cls(K:Frag)(C:Addr):Prop where
 pg:plainGet K C Str.empty=true
 hd:hasDictIn K C=true
 po:plainOver K C=true
 sa:findIn K (.ref C) "__setattr__"=some (some (.builtin "object.__setattr__"))
theorem Cls.get{K:Frag}{C:Addr}(c:Cls K C)(f:Str):plainGet K C f=true:=c.pg
def NoAttr(K:Frag)(C:Addr)(f:Str):Prop:=findIn K (.ref C) f=some none
theorem NoAttr.taker{K:Frag}{C:Addr}{f:Str}(n:NoAttr K C f):takerIn K C f=some none:=by unfold takerIn;rw[show findIn K (.ref C) f=some none from n];rfl
structure Meth(K:Frag)(C:Addr)(m:Str)(f:Addr):Prop where
 at_:findIn K (.ref C) m=some (some (.ref f))
 fn:isFn K (.ref f)=true
 kp:keepIn K (.ref f)=true
theorem QhJ{b:Bool}{Q:VP}(I:Inv X pins σ H s)(e:H a=some (.ins C dx fs))(c:Cls X.K C)(n:NoAttr X.K C f)(l:fs.lookup f=some v)(h:∀u s',Inv X pins σ H s'->RelV v u->Q u s'):wpAny (model X.prog X.w) A (getAttr (.ref a) f b) Q E s:=by obtain⟨mA,O,r,_,_,_⟩:=QdW I.hok e;obtain⟨u,hu,ru⟩:=RelO.some_of (v:=v) (o:=mA f) (by rw[<-l];exact r f);exact QmV I.kIn O (c.get f) c.hd n hu (QiF ru) (h u _ (I.tok _) ru)
theorem Qdx{m:Str}{g:Addr}{pl:Sem Bool}{Q:Value×List Value->Shared->Prop}(I:Inv X pins σ H s)(e:H a=some (.ins C dx fs))(c:Cls X.K C)(k:Meth X.K C m g)(l:fs.lookup m=none)(h:Q (.ref g,[.ref a]) s):wpAny (model X.prog X.w) A (getMethod (.ref a) m pl) Q E s:=by obtain⟨mA,O,r,_,_,_⟩:=QdW I.hok e;have hn:mA m=none:=RelO.none_of (by rw[<-l];exact r m);exact QkY I.kIn O (c.get m) k.at_ k.fn hn h
theorem setattr_ok{y:V}{u:Value}{Q:Unit->Shared->Prop}(I:Inv X pins σ H s)(e:H a=some (.ins C dx fs))(c:Cls X.K C)(n:NoAttr X.K C f)(hl:fs.length<1000)(ry:RelV y u)(h:∀s',Inv X pins σ (upd H a (.ins C dx (putF f y fs))) s'->Q () s'):wpAny (model X.prog X.w) A (setAttr (.ref a) f u) Q E s:=by
 obtain⟨mA,O,r,wi,_,ho⟩:=QdW I.hok e;have hz:(fs.map (·.1)).length<=sizeLine:=by rw[Ub,Tn];omega
 refine QmW I.kIn O c.sa c.po n.taker c.hd wi hz λh' O' sb=>h _ ?_;have hd:∃o,h'.get? dx=some o:=let ⟨o,_,_,e',_⟩:=O'.ns;⟨o,e'⟩;refine I.write (x:=a) (e:=dx) (by rw[e];exact True.intro) (.inr ho) (λb q hb z=>(sb.2 b hb).trans z) hd ?_;refine⟨by rw[QL O.ne];exact ho,?_,O.ne,O'.obj,_,O'.ns,λg=>?_,λg hg=>?_⟩
 ·have:=QcF f y fs;omega
 ·show RelO ((putF f y fs).lookup g) (if g=f then some u else mA g);rw[QcD];by_cases q:g=f
  ·rw[Uj q,Uj q];exact ry
  ·rw[Uo q,Uo q];exact r g
 ·by_cases q:g=f
  ·rw[q];exact(QcE f y fs).1
  ·refine(QcE f y fs).2 g (wi g λz=>hg ?_);show(if g=f then some u else mA g)=none;rw[Uo q];exact z
theorem Inv.made(I:Inv X pins σ H s):Inv X pins σ (upd (upd H s.heap.objs.size (.own (s.heap.objs.size+1))) (s.heap.objs.size+1) (.ins C s.heap.objs.size []))
  {s with heap:=(s.heap.push emptyDict).push (instObj C s.heap.objs.size)}:=by
 have e1:(s.heap.push emptyDict).get? s.heap.objs.size=some emptyDict:=UA s.heap rfl;have e2:((s.heap.push emptyDict).push (instObj C s.heap.objs.size)).get? (s.heap.objs.size+1)=some (instObj C s.heap.objs.size):=by have:=UA (s.heap.push emptyDict) (o:=instObj C s.heap.objs.size) rfl;rwa[Bx]at this
 have e3:(s.heap.push emptyDict).Ns s.heap.objs.size (λ_=>none):=⟨emptyDict,#[],_,e1,rfl,(λe he=>absurd he (by simp)),λ_=>rfl⟩;have I1:=I.laid (a:=s.heap.objs.size) (o:=.own (s.heap.objs.size+1)) (h':=s.heap.push emptyDict) (t':=s.toks) (λb u q=>Ug _ q) (Um _) ⟨_,e1⟩;refine I1.laid (a:=s.heap.objs.size+1) (o:=.ins C s.heap.objs.size []) (t':=s.toks) (λb u q=>Ug _ q) (Nat.le_of_eq (Bx _ _)) ?_;have ne:s.heap.objs.size≠s.heap.objs.size+1:=UP (Tw _);refine⟨by rw[QL ne,Qr],RM _,ne,e2,λ_=>none,(Heap.Ns1.of_empty e3).at λo q=>Ug _ q,λ_=>True.intro,λy hy=>absurd rfl hy⟩
theorem QmX{prog:Program}{w:World}{env:Env}{e:Expr}{f:Str}{pos:Pos}{s:Shared}{Q:VP}(hb:attributeBase e f env (eval e env)=eval e env)(h:wpAny (model prog w) A (eval e env) (λo s₁=>wpAny (model prog w) A (getAttr o f true) Q E s₁) E s):wpAny (model prog w) A (eval (.Attribute e f pos) env) Q E s:=Attribute_any_ h (by rw[arm_eval_Attribute,hb])
def tFld(K:Frag)(ta:TE)(f:Str):TE:=λσ H Q=>ta σ H λx H1=>∃a C dx fs v,x=.ref a/\H1 a=some (.ins C dx fs)/\Cls K C/\NoAttr K C f/\fs.lookup f=some v/\Q v H1
def sFld(K:Frag)(ta tv:TE)(f:Str):TS:=λD σ H=>tv σ H λy H1=>ta σ H1 λx H2=>∃a C dx fs,x=.ref a/\H2 a=some (.ins C dx fs)/\Cls K C/\NoAttr K C f/\fs.length<1000/\D.nx σ (upd H2 a (.ins C dx (putF f y fs)))
theorem Qoz(he:PE X e ta)(hb:attributeBase e f X.env (eval e X.env)=eval e X.env):PE X (.Attribute e f pos) (tFld X.K ta f):=by intro pins s σ H Q I h;refine QmX hb (thn (he pins s σ H _ I h) λu s1 ⟨x,H1,I1,rx,a,C,dx,fs,v,ex,ea,c,n,l,q⟩=>?_);subst ex;obtain rfl:u=Value.ref a:=rx;exact QhJ I1 ea c n l λu' s2 I2 ru=>⟨v,H1,I2,ru,q⟩
theorem QoA(ha:PE X o ta)(hv:PE X value tv)(hs:swapsWith value (some (.Attribute o f pos')) pos.line X.env=pure false):PS X (.Assign [.Attribute o f pos'] value pos) (sFld X.K ta tv f):=by intro pins s σ H D I h;refine plainObj_wpAny_Assign_Attribute (thn (hv pins s σ H _ I h) λu s1 ⟨y,H1,I1,ry,q⟩=>thn (ha pins s1 σ H1 _ I1 q) λov s2 ⟨x,H2,I2,rx,a,C,dx,fs,ex,ea,c,n,l,q2⟩=>?_) hs;subst ex;obtain rfl:ov=Value.ref a:=rx;exact setattr_ok I2 ea c n l ry λs3 I3=>⟨σ,_,I3,q2⟩
inductive TyOf(K:Frag)(H:Hp):V->Value->Prop where
 |non:TyOf K H .non (.type "NoneType")
 |bl (x:Bool):TyOf K H (.bl x) (.type "bool")
 |int (i:Int):TyOf K H (.int i) (.type "int")
 |str (x:Str):TyOf K H (.str x) (.type "str")
 |flt (x:UInt64):TyOf K H (.flt x) (.type "float")
 |lst {a:Addr} {xs:List V} (e:H a=some (.lst xs)):TyOf K H (.ref a) (.type "list")
 |frz {a:Addr} {o:Obj} {xs:List V} (e:H a=some (.frz o (.lst xs))):TyOf K H (.ref a) (.type "list")
 |tup {a:Addr} {xs:List V} (e:H a=some (.tup xs)):TyOf K H (.ref a) (.type "tuple")
 |dK {a:Addr} {kvs:List (Key×V)} (e:H a=some (.dK kvs)):TyOf K H (.ref a) (.type "dict")
 |dT {a:Addr} {kvs:List (List Key×V)} (e:H a=some (.dT kvs)):TyOf K H (.ref a) (.type "dict")
 |ins {a C dx:Addr} {fs:List (Str×V)} (e:H a=some (.ins C dx fs)) (cl:Cls K C) (ha:findIn K (.ref C) "__class__"=some (some (.builtin "object.__class__")))
   (hn:specialIn K (.builtin "object.__class__") "__get__"=some (some (.builtin "getset_descriptor.__get__"))) (htk:takesIn K (.builtin "object.__class__")=some true)
   (hm:mroIn K C (.type "object")=some true):TyOf K H (.ref a) (.ref C)
theorem Js(I:Inv X pins σ H s)(rx:RelV x u)(ty:TyOf X.K H x t)(e:kitOne X.K t c=some b)(h:∀tk,Q (.bool b) {s with toks:=tk}):
  wpAny (model X.prog X.w) A (call (.builtin "isinstance") [u,c]) Q E s:=by
 cases ty with
 |non=>cases (show u=Value.none from rx);exact U3 kitx_none I.kIn True.intro e (λz=>nomatch z) h|bl y=>cases (show u=Value.bool y from rx);exact U3 kitx_bool I.kIn True.intro e (λz=>nomatch z) h|int i=>obtain⟨t,q⟩:=(show ∃t,u=Value.int i t from rx);cases q;exact U3 kitx_int I.kIn True.intro e (λz=>nomatch z) h|str y=>obtain⟨t,q⟩:=(show ∃t,u=Value.str y t from rx);cases q;exact U3 kitx_str I.kIn True.intro e (λz=>nomatch z) h|flt y=>obtain⟨t,q⟩:=(show ∃t,u=Value.float y t from rx);cases q;exact U3 kitx_float I.kIn True.intro e (λz=>nomatch z) h|@lst a xs ea =>cases (show u=Value.ref a from rx);obtain⟨_,_,n,_,h1⟩:=(show ObjOk X.prog X.w H s.heap a (.lst xs) from I.hok a _ ea);exact U3 Rt I.kIn ⟨_,h1,rfl⟩ e (λz=>nomatch z) h|@frz a ob xs ea =>cases (show u=Value.ref a from rx);obtain⟨_,_,_,n,_,h1⟩:=(show ObjOk X.prog X.w H s.heap a (.frz ob (.lst xs)) from I.hok a _ ea);exact U3 Rt I.kIn ⟨_,h1,rfl⟩ e (λz=>nomatch z) h|@tup a xs ea =>cases (show u=Value.ref a from rx);obtain⟨_,_,_,p⟩:=(show ObjOk X.prog X.w H s.heap a (.tup xs) from I.hok a _ ea);obtain⟨o,h1,h2,_⟩:=p;exact U3 WB I.kIn ⟨o,h1,h2⟩ e (λz=>nomatch z) h|@dK a kvs ea =>cases (show u=Value.ref a from rx);obtain⟨_,_,vs,_,p⟩:=(show ObjOk X.prog X.w H s.heap a (.dK kvs) from I.hok a _ ea);obtain⟨o,es,ep,h1,h2,_⟩:=p;exact U3 WH I.kIn ⟨o,h1,h2.1⟩ e (λz=>nomatch z) h|@dT a kvs ea =>cases (show u=Value.ref a from rx);obtain⟨_,_,xs,_,o,es,ep,h1,h2,_⟩:=(show ObjOk X.prog X.w H s.heap a (.dT kvs) from I.hok a _ ea);exact U3 WH I.kIn ⟨o,h1,h2.1⟩ e (λz=>nomatch z) h|@ins a C dx fs ea cl ha hn htk hm =>cases (show u=Value.ref a from rx);obtain⟨mA,O,_⟩:=QdW I.hok ea;obtain⟨od,J,_⟩:=O.look;exact U3 (kitx_own (cl.get _) cl.hd ha hn htk hm) I.kIn J e (λz=>nomatch z) h
structure Room(k:Nat)(A:Around):Prop where
 hd:A.handled=none
 dp:A.depth+3*k+5<recursionLimit
 un:A.units+16*k+200<cLine
theorem Room.mono(r:Room k A)(h:j<=k):Room j A:=⟨r.hd,by have:=r.dp;omega,by have:=r.un;omega⟩
theorem Room.deeper(r:Room (k+1) A)(env:Env):Room k (A.deeper env):=⟨r.hd,by have:=r.dp;show A.depth+1+3*k+5<_;omega,by have:=r.un;show A.units+3+16*k+200<_;omega⟩
theorem Room.in1(r:Room (k+1) A):Room k A.in1:=⟨r.hd,by have:=r.dp;show A.depth+3*k+5<_;omega,by have:=r.un;show A.units+1+16*k+200<_;omega⟩
theorem QhK{A:Around}{C:Addr}{us:List Value}{kw:List (Str×Value)}:(A.under (.builtin "type.__call__" ⟨.ref C::us,kw⟩)).depth=A.depth+1:=by first|rfl|simp[Around.under,Code.weight,Code.isCreation,Code.isGuard,Code.isCaller,Code.frames,Code.isFrame,guardIds]
theorem QhL{A:Around}{C:Addr}{us:List Value}{kw:List (Str×Value)}:(A.under (.builtin "type.__call__" ⟨.ref C::us,kw⟩)).units=A.units+1:=by first|rfl|simp[Around.under,Code.cUnits,Code.frames,Code.isFrame]
theorem Room.make(r:Room (k+1) A)(C:Addr)(us:List Value)(kw:List (Str×Value)):Room k (A.under (.builtin "type.__call__" ⟨.ref C::us,kw⟩)):=⟨r.hd,by have:=r.dp;rw[QhK];omega,by have:=r.un;rw[QhL];omega⟩
theorem Room.depth(r:Room k A):A.depth<recursionLimit:=by have:=r.dp;omega
theorem Room.units(r:Room k A):A.units+64<cLine:=by have:=r.un;omega
def tNil:TA:=λ_ H Q=>Q [] H
def Qp6(ta:TE)(tr:TA):TA:=λσ H Q=>ta σ H λx H1=>tr σ H1 λxs H2=>Q (x::xs) H2
theorem QgR:PA X [] tNil:=λ_ _ _ _ H Q I h=>Calls.spliced_nil ⟨[],H,I,.nil,h⟩
theorem QaN(ha:PE X e te)(hr:PA X es t)(hs:starEach (e::es) X.env=(false,eval e X.env)::starEach es X.env:=by rfl):PA X (e::es) (Qp6 te t):=by intro pos pins s σ H Q I h;rw[hs];show wpAny _ _ (spliced ((false,eval e X.env)::backTo pos (starEach es X.env))) _ _ s;refine Calls.spliced_cons (thn (ha pins s σ H _ I h) λu s1 ⟨x,H1,I1,r1,q1⟩=>?_);exact thn (hr pos pins s1 σ H1 _ I1 q1) λus s2 ⟨xs,H2,I2,r2,q2⟩=>⟨x::xs,H2,I2,.cons r1 r2,q2⟩
def tTup(t:TA):TE:=λσ H Q=>t σ H λxs H1=>xs.length<=sizeLine/\∀p,H1 p=none->Q (.ref p) (upd H1 p (.tup xs))
def tLst(t:TA):TE:=λσ H Q=>t σ H λxs H1=>xs.length<=sizeLine/\∀p,H1 p=none->Q (.ref p) (upd H1 p (.lst xs))
theorem Ql1(h:PA X es t):PE X (.Tuple es x1 pos) (tTup t):=by intro pins s σ H Q I hq;refine wpAny_Tuple_spliced (thn (h pos pins s σ H _ I hq) λus s1 ⟨xs,H1,I1,r,z,q⟩=>⟨by rw[<-r.length];exact z,?_⟩);have hf:H1 s1.heap.objs.size=none:=I1.hok.fresh (Um _);refine⟨.ref s1.heap.objs.size,upd H1 s1.heap.objs.size (.tup xs),I1.laid (t':=s1.toks) (λb u e=>Ug _ e) (Um _) ?_,rfl,q _ hf⟩;exact⟨z,us,r,⟨_,UA _ rfl,rfl,_,rfl⟩⟩
theorem QoB(h:PA X es t):PE X (.List es pos) (tLst t):=by intro pins s σ H Q I hq;refine wpAny_List_spliced (thn (h pos pins s σ H _ I hq) λus s1 ⟨xs,H1,I1,r,z,q⟩=>⟨by rw[<-r.length];exact z,?_⟩);have hf:H1 s1.heap.objs.size=none:=I1.hok.fresh (Um _);refine⟨.ref s1.heap.objs.size,upd H1 s1.heap.objs.size (.lst xs),I1.laid (t':=s1.toks) (λb u e=>Ug _ e) (Um _) ?_,rfl,q _ hf⟩;exact⟨z,us,0,r,UA _ rfl⟩
abbrev Sp:=List V->Hp->VK->XK->Prop
abbrev CXT:=List Env->Hp->Shared->XK->Value->Shared->Prop
structure Env0(P:Program)(w:World)(K:Frag)(mg:SOV)(base:Heap)(A:Around)(outer:List Env)(s:Shared)(H:Hp):Prop where
 frames:A.frames=some outer
 mod:Mod K mg base
 bs:∀b o,base.get? b=some o->s.heap.get? b=some o/\H b=none
 bsz:base.objs.size<=s.heap.objs.size
 funs:s.heap.FunFrames base outer
 frf:∀b∈frs outer,H b=none
 hok:HOk P w H s.heap
 bare:AllBare s.gens
def CE(outer:List Env)(P:Program)(w:World)(H:Hp)(s:Shared)(Q:VK)(u:Value)(s':Shared):Prop:=∃v H',s'.os=s.os/\AllBare s'.gens/\Un (frs outer) [] H H' s.heap s'.heap/\HOk P w H' s'.heap/\RelV v u/\Q v H'
def CR(CX:CXT)(outer:List Env)(P:Program)(w:World)(H:Hp)(s:Shared)(Q:VK)(E:XK)(r:Result)(s':Shared):Prop:=
 match r with
 |.ok (.ret u)=>CE outer P w H s Q u s'|.ok _=>False|.error e=>CX outer H s E e s'
structure FnOk(P:Program)(w:World)(K:Frag)(mg:SOV)(base:Heap)(CX:CXT)(k:Nat)(f:Addr)(fd:FuncData)(ps:List Str)(sp:Sp):Prop where
 len:∀vs H Q E,sp vs H Q E->vs.length=ps.length
 run:∀(A:Around)(outer:List Env)(s:Shared)(H:Hp)(args:Args)(us:List Value)(vs:List V)(Q:VK)(E:XK),Room k A->Env0 P w K mg base A outer s H->BindsTo s fd args (ps.zip us)->Vals vs us->sp vs H Q E->codeAny (model P w) A (.call (.ref f) args) (CR CX outer P w H s Q E) s
theorem FnOk.mono{P:Program}{w:World}{K:Frag}{mg:SOV}{base:Heap}{CX:CXT}{j k:Nat}{f:Addr}{fd:FuncData}{ps:List Str}{sp:Sp}(F:FnOk P w K mg base CX j f fd ps sp)(h:j<=k):
  FnOk P w K mg base CX k f fd ps sp:=⟨F.len,λA outer s H args us vs Q E hr=>F.run A outer s H args us vs Q E (hr.mono h)⟩
theorem FnOk.imp{P:Program}{w:World}{K:Frag}{mg:SOV}{base:Heap}{CX:CXT}{k:Nat}{f:Addr}{fd:FuncData}{ps:List Str}{sp sp':Sp}(F:FnOk P w K mg base CX k f fd ps sp)(h:∀vs H Q E,sp' vs H Q E->sp vs H Q E):FnOk P w K mg base CX k f fd ps sp':=⟨λvs H Q E q=>F.len vs H Q E (h _ _ _ _ q),λA outer s H args us vs Q E hr he hb hv hs=>F.run A outer s H args us vs Q E hr he hb hv (h _ _ _ _ hs)⟩
theorem Env0.make{P:Program}{w:World}{K:Frag}{mg:SOV}{base:Heap}{A:Around}{outer:List Env}{s:Shared}{H:Hp}(e:Env0 P w K mg base A outer s H)(C:Addr)(us:List Value)(kw:List (Str×Value)):
  Env0 P w K mg base (A.under (.builtin "type.__call__" ⟨.ref C::us,kw⟩)) outer s H:=⟨by first|exact e.frames|(simpa[Around.under,Code.envs,Code.isFrame,pushEnvs]using e.frames),e.mod,e.bs,e.bsz,e.funs,e.frf,e.hok,e.bare⟩
theorem Env0.in1{P:Program}{w:World}{K:Frag}{mg:SOV}{base:Heap}{A:Around}{outer:List Env}{s:Shared}{H:Hp}(e:Env0 P w K mg base A outer s H):
  Env0 P w K mg base A.in1 outer s H:=⟨e.frames,e.mod,e.bs,e.bsz,e.funs,e.frf,e.hok,e.bare⟩
theorem Inv.env0(I:Inv X pins σ H s):Env0 X.prog X.w X.K X.mg X.base X.A X.stack s H:=⟨I.ok.frames,I.ok.mod,I.bs,Ue I.ok.bsz I.sz,I.stack,I.stkFree,I.hok,I.bare⟩
theorem Inv.after(I:Inv X pins σ H s)(h:CE X.stack X.prog X.w H s Q u s'):EP X pins σ Q u s':=by obtain⟨v,H',os,bare,un,hok,r,q⟩:=h;obtain⟨hh,g,d,t,os'⟩:=s';obtain rfl:os'=s.os:=os;exact⟨v,H',I.call (h':=hh) (g':=g) (d':=d) (t':=t) (ch:=[]) un hok bare (λb z=>absurd z (by simp)),r,q⟩
def Binds(K:Frag)(fd:FuncData)(ps:List Str)(ds:List Value):Prop:=∀(s:Shared)(us:List Value),K.In s.heap->(us++ds).length=ps.length->BindsTo s fd ⟨us,[]⟩ (ps.zip (us++ds))
theorem Binds.all{K:Frag}{fd:FuncData}{ps:List Str}(h:∀us:List Value,us.length=ps.length->bindArgs fd ⟨us,[]⟩=pure (ps.zip us)):Binds K fd ps []:=λs us _ hl=>by rw[Tu]at hl ⊢;exact .of_eq (h us hl)
structure Mk(K:Frag)(C f:Addr):Prop where
 makes:makesIn K C=true
 init:findIn K (.ref C) "__init__"=some (some (.ref f))
 fn:isFn K (.ref f)=true
 kp:keepIn K (.ref C)=true
structure FnScope(N P:List Str)(sc:Scope):Prop where
 kind:sc.kind=.function
 co:sc.isCoroutine=false
 gen:sc.isGenerator=false
 nd:N.Nodup
 pre:N.take P.length=P
 par:∀x∈P,sc.names.lookup x=some .local\/sc.names.lookup x=some .cell
 nofree:∀y∈sc.names,y.2≠.free
theorem QeR{kindOf:Str->Option NameKind}{x:Str}:∀{binds:List (Str×Value)}{m:SOV},(∀v,(x,v)∉binds)->bindL kindOf binds m x=m x
 |[],_,_=>rfl| (n,v)::r,m,h=>by
  unfold bindL;rw[QeR λw hw=>h w (Ut _ hw)];split
  ·have:x≠n:=by rintro rfl;exact h v Us
   simp[this]
  ·rfl
theorem QeS{kindOf:Str->Option NameKind}{x:Str}:∀{binds:List (Str×Value)}{m:SOV},(∀v,(x,v)∉binds)->bindC kindOf binds m x=m x
 |[],_,_=>rfl| (n,v)::r,m,h=>by
  unfold bindC;rw[QeS λw hw=>h w (Ut _ hw)];split
  ·rfl
  ·have:x≠n:=by rintro rfl;exact h v Us
   simp[this]
theorem QeT{kindOf:Str->Option NameKind}{x:Str}{v:Value}:∀{P:List Str}{vs:List Value}{i:Nat}{m:SOV},P.Nodup->P[i]?=some x->vs[i]?=some v->kindOf x=some .local->bindL kindOf (P.zip vs) m x=some v
 |[],_,_,_,_,h,_,_=>by simp at h
 |_::_,[],_,_,_,_,h,_=>by simp at h
 |p::P,w::vs,0,m,nd,h1,h2,hk=>by simp at h1 h2;subst h1;subst h2;show bindL kindOf ((p,w)::P.zip vs) m p=_;unfold bindL;rw[QeR λv hv=>(T5.mp nd).1 (Ba hv).1,Uj hk];simp
 |p::P,w::vs,i+1,m,nd,h1,h2,hk=>by show bindL kindOf ((p,w)::P.zip vs) m x=_;unfold bindL;exact QeT (i:=i) (T5.mp nd).2 (by simpa using h1) (by simpa using h2) hk
theorem QeU{kindOf:Str->Option NameKind}{x:Str}{v:Value}:∀{P:List Str}{vs:List Value}{i:Nat}{m:SOV},P.Nodup->P[i]?=some x->vs[i]?=some v->kindOf x≠some .local->bindC kindOf (P.zip vs) m x=some v
 |[],_,_,_,_,h,_,_=>by simp at h
 |_::_,[],_,_,_,_,h,_=>by simp at h
 |p::P,w::vs,0,m,nd,h1,h2,hk=>by simp at h1 h2;subst h1;subst h2;show bindC kindOf ((p,w)::P.zip vs) m p=_;unfold bindC;rw[QeS λv hv=>(T5.mp nd).1 (Ba hv).1,Uo hk];simp
 |p::P,w::vs,i+1,m,nd,h1,h2,hk=>by show bindC kindOf ((p,w)::P.zip vs) m x=_;unfold bindC;exact QeU (i:=i) (T5.mp nd).2 (by simpa using h1) (by simpa using h2) hk
def start(N:List Str)(vs:List V):St:=vs.map some++List.replicate (N.length-vs.length) none
def cxOf(CX:CXT)(P:Program)(w:World)(K:Frag)(mg:SOV)(base:Heap)(N:List Str)(qual:Str)(scope:Scope)(f:Addr)(cd:Value)(A:Around)(outer:List Env)(s:Shared)(H:Hp)(E:XK):Cx where
 prog:=P
 w:=w
 K:=K
 mg:=mg
 base:=base
 A:=A.deeper (envOfC qual scope s.heap.objs.size f cd)
 N:=N
 s₀:=s
 H₀:=H
 env:=envOfC qual scope s.heap.objs.size f cd
 outer:=outer
 stack:=envOfC qual scope s.heap.objs.size f cd::outer
 ex:=[]
 calm:=true
 fn:=λ_=>true
 pn:=[]
 xe:=λe s'=>wpAny (model P w) (A.deeper (envOfC qual scope s.heap.objs.size f cd)) (leaving (envOfC qual scope s.heap.objs.size f cd) e) (λ_ s''=>CX outer H s E e s'') (λe' s''=>CX outer H s E e' s'') s'
theorem QgS{sc:Scope}{n:Nat}{x:Str}(h:sc.names.lookup x=some .cell):∃c,(cellsFrom n sc.names []).lookup x=some c:=by have q:=W1 sc.names n [] (.inl h);exact Option.isSome_iff_exists.mp q
theorem QiG{CX:CXT}{P:Program}{w:World}{K:Frag}{mg:SOV}{base:Heap}{N ps:List Str}{qual:Str}{scope:Scope}{f:Addr}{cd:Value}{A:Around}{outer:List Env}{s s1:Shared}{H:Hp}{E:XK}{us:List Value}{vs:List V}(S:FnScope N ps scope)(hd:A.handled=none)(e0:Env0 P w K mg base A outer s H)(hl:vs.length=ps.length)(r:Vals vs us)(x:InCallC s s.heap.objs.size (bindL (envOfC qual scope s.heap.objs.size f cd).kindOf (ps.zip us) λ_=>none) (cellsFrom (s.heap.objs.size+1) scope.names []) (bindC (envOfC qual scope s.heap.objs.size f cd).kindOf (ps.zip us) λ_=>none) s1):
  Inv (cxOf CX P w K mg base N qual scope f cd A outer s H E) [] (start N vs) H s1:=by
 have hpl:ps.length<=N.length:=by have:=TV List.length S.pre;rw[Tx]at this;omega
 obtain⟨h1,tk,rfl,hk⟩:=x.done;have noA:∀b:Addr,b∉(cxOf CX P w K mg base N qual scope f cd A outer s H E).ex:=λb z=>absurd (show b∈([]:List Addr) from z) (by simp);refine⟨⟨e0.mod,S.kind,rfl,rfl,Um _,λy z c h1 h2=>?_,λy hy=>?_,λy c _ h=>?_,λ_=>hd,Around.frames_deeper e0.frames,.inr ⟨rfl,rfl⟩,λb z=>absurd z (noA b),e0.bs,e0.bsz,λb _ _=>noA b,λb z=>absurd z (noA b),e0.funs,e0.frf⟩,rfl,e0.bare,Un.kept hk,⟨_,x.toInCall.ns,λi y v h1 h2 h3=>?_⟩,λy c h=>⟨_,x.cell y c h⟩,e0.hok.fresh (Um _),λy c h=>?_,λp hp=>absurd (show p∈([]:LAO) from hp) (by simp),e0.hok.kept hk,?_⟩
 ·exact name_of_addr x.apart (TW h1) (TW h2)
 ·have hy:scope.names.lookup y=some .cell\/scope.names.lookup y=some .free:=hy;rcases hy with hy|hy
  ·exact QgS hy
  ·exact absurd rfl (S.nofree _ (TW hy))
 ·exact RV (x.above y c (TW h))
 ·have hi:i<vs.length:=by
   unfold start at h2;by_cases hi:i<vs.length
   ·exact hi
   ·rw[UN (by simpa using hi)]at h2;rw[Rh]at h2;split at h2<;>cases h2
  have ha:vs[i]?=some v:=by
   unfold start at h2;rw[Ui (by simpa using hi),UK]at h2;cases e:vs[i]? with
   |none=>rw[e]at h2;cases h2|some a=>rw[e]at h2;cases h2;rfl
  obtain⟨u,hu,rv⟩:=r.get ha;have hp:ps[i]?=some y:=by rw[<-S.pre,List.getElem?_take_of_lt (by omega)];exact h1
  have ndP:ps.Nodup:=by rw[<-S.pre];exact S.nd.sublist (List.take_sublist _ _)
  refine⟨u,rv,?_⟩;rcases S.par y (UR hp) with k|k
  ·exact .inl ⟨k,QeT ndP hp hu k⟩
  ·obtain⟨c,e⟩:=QgS (n:=s.heap.objs.size+1) k;refine .inr ⟨.inl k,c,e,?_⟩;have q:=x.cell y c e;rw[QeU ndP hp hu (by show scope.names.lookup y≠_;rw[k];decide)]at q;exact q
 ·exact e0.hok.fresh (RV (x.above y c (TW h)))
 ·unfold start;show _=N.length;rw[Uh,Ub,U2];omega
theorem QoC{CX:CXT}{P:Program}{w:World}{K:Frag}{mg:SOV}{base:Heap}{k:Nat}{f:Addr}{name qual:Str}{params:Arguments}{body:List Stmt}{scope:Scope}{dV kV doc pm cdv ct oc:Value}{an od:Option Addr}{osl:Array (Option Value)}{N ps:List Str}{sp:Sp}(lk:K.lookup f=some ⟨oc,od,.func (fnOf name qual params body scope dV kV doc pm an cdv ct),osl⟩)(hcd:codeIn K cdv qual=true)(S:FnScope N ps scope)(len:∀vs H Q E,sp vs H Q E->vs.length=ps.length)(hbody:∀(A:Around) (outer:List Env) (s:Shared) (H:Hp) (vs:List V) (Q:VK) (E:XK),Room k (A.deeper (envOfC qual scope s.heap.objs.size f cdv))->sp vs H Q E->∃t,PSs (cxOf CX P w K mg base N qual scope f cdv A outer s H E) body t/\t {nx:=λ_ H'=>Q .non H',rt:=Q} (start N vs) H):
  FnOk P w K mg base CX (k+1) f (fnOf name qual params body scope dV kV doc pm an cdv ct) ps sp:=by
 refine⟨len,λA outer s H args us vs Q E hr e0 hb r hsp=>?_⟩;have hl:=len _ _ _ _ hsp;have KX:K.In s.heap:=e0.mod.kin.keeps λb o e=>(e0.bs b o e).1;have lim:s.heap.NoLimit:=e0.mod.nolimit.keeps λb o e=>(e0.bs b o e).1;have hkind:∀y∈ps.zip us,scope.names.lookup y.1=some .local\/(scope.names.lookup y.1=some .cell/\((cellsFrom (s.heap.objs.size+1) scope.names []).lookup y.1).isSome=true):=λ⟨n,v⟩ hy=>by
  rcases S.par n (Ba hy).1 with q|q
  ·exact .inl q
  ·exact .inr ⟨q,W1 _ _ _ (.inl q)⟩
 refine codeAny_call_function hr.depth (KX _ _ lk) rfl S.co S.gen rfl (codeRec_of KX hcd) (hb _ _ _ _ ?_);refine wpAny_newFunctionEnv_cells S.kind hkind λenv he s1 x=>?_;subst he;refine⟨lim.keeps x.toInCall.keep,codeAny_func ?_⟩;obtain⟨t,ht,hq⟩:=hbody A outer s H vs Q E (hr.deeper _) hsp;have I:Inv (cxOf CX P w K mg base N qual scope f cdv A outer s H E) [] (start N vs) H s1:=QiG S hr.hd e0 hl r x;refine Tf (ht [] s1 (start N vs) H _ I hq) (λfl s' hs=>?_) λe s' hs=>hs;have fin:∀{σ':St}{H':Hp}{v:V}{u:Value},Inv (cxOf CX P w K mg base N qual scope f cdv A outer s H E) [] σ' H' s'->RelV v u->Q v H'->CE outer P w H s Q u s':=λ{σ' H' v u} J rv q=>⟨v,H',J.os,J.bare,J.base,J.hok,rv,q⟩
 cases fl with
 |ret u =>obtain⟨v,σ',H',J,rv,q⟩:=hs;exact fin J rv q|next =>obtain⟨σ',H',J,q⟩:=hs;exact fin (v:=V.non) (u:=Value.none) J rfl q|brk =>obtain⟨_,_,_,q⟩:=hs;exact False.elim q|cont =>obtain⟨_,_,_,q⟩:=hs;exact False.elim q
section
variable{X:Cx}{x:Str}{p pos:Pos}{e:Expr}{es:List Expr}{t:TA}{id T:String}{r:List V->Hp->VK->Prop}
def tCB(r:List V->Hp->VK->Prop)(t:TA):TE:=λσ H Q=>t σ H λvs H1=>r vs H1 Q
theorem Qco(hc:CallR X (.builtin id) r)(hg:Gl X x)(hm:X.mg x=none)(hv:bootBuiltins x=some (.builtin id))(ha:PA X (e::es) t)(hn:x ≠"__name__":=by decide)(hdb:(x==("__debug__" : Str))=false:=by decide)(he:starEach (e::es) X.env=(false,eval e X.env)::starEach es X.env:=by rfl)(hpl:(backTo pos (starEach es X.env)).any (·.1)=false:=by rfl):PE X (.Call (.Name x p) (e::es) [] pos) (tCB r t):=by intro pins s σ H Q I h;refine Rl (QgP I hg hm hv ?_ hn hdb);exact PyProof.Rows.callWith_builtin1 (thn (ha pos pins s σ H _ I h) λus s1 ⟨vs,H1,I1,r1,q1⟩=>hc pins s1 σ H1 vs us Q I1 r1 q1) he hpl
theorem QiH(hc:CallR X (.type T) r)(hg:Gl X x)(hm:X.mg x=none)(hv:bootBuiltins x=some (.type T))(ha:PA X (e::es) t)(hn:x ≠"__name__":=by decide)(hdb:(x==("__debug__" : Str))=false:=by decide)(he:starEach (e::es) X.env=(false,eval e X.env)::starEach es X.env:=by rfl)(hpl:(backTo pos (starEach es X.env)).any (·.1)=false:=by rfl):PE X (.Call (.Name x p) (e::es) [] pos) (tCB r t):=by intro pins s σ H Q I h;refine Rl (QgP I hg hm hv ?_ hn hdb);exact Wt (thn (ha pos pins s σ H _ I h) λus s1 ⟨vs,H1,I1,r1,q1⟩=>hc pins s1 σ H1 vs us Q I1 r1 q1) he hpl
end
end L2
namespace HT
open PySem PyProof.Rows
theorem cat_tup{t b:Addr}{vs ws:List Value}{Q:VP}(ht:IsTup s.heap t vs.toArray)(hb:IsTup s.heap b ws.toArray)(hv:vs≠[])(h1:ws=[]->Q (.ref t) s)(h2:ws≠[]->Q (.ref s.heap.objs.size) {s with heap:=s.heap.push {cls:=.type "tuple",data:=.seq (vs++ws).toArray} })(hsz:vs.length+ws.length<=sizeLine):wpAny (model prog w) A (binaryOp .Add (.ref t) (.ref b)) Q E s:=by
 obtain⟨⟨cls,dd,data,sl⟩,ho,hc,n,hd⟩:=id ht;obtain⟨⟨cls2,dd2,data2,sl2⟩,ho2,hc2,n2,hd2⟩:=id hb;simp only at hc hd hc2 hd2;subst hc hd hc2 hd2;have e:vs.toArray++ws.toArray=(vs++ws).toArray:=by simp
 by_cases hw:ws=[]
 ·exact concat_meets ⟨_,ho,rfl⟩ ⟨_,ho2,rfl⟩ WX seq_tuple_add RP RG (RB _ _)
   (tuple_addW1 t b vs.toArray ws.toArray n n2 dd dd2 sl sl2 (by simpa using hv) (by simp[hw])) ⟨ho,ho2,h1 hw⟩
 ·refine concat_meets ⟨_,ho,rfl⟩ ⟨_,ho2,rfl⟩ WX seq_tuple_add RP RG (RB _ _)
   (tuple_addW2 t b vs.toArray ws.toArray n n2 dd dd2 sl sl2 (by simpa using hv) (by simpa using hw) (by rw[Ur,Ur];exact hsz)) ⟨ho,ho2,?_⟩
  rw[e];exact h2 hw
def sIx(n d:Nat):Option Int->Nat
 |none=>d|some v=>if v<0 then (v+(n:Int)).toNat else min v.toNat n
theorem QoD(n d:Nat)(hd:d<=n)(o:Option Int):sIx n d o<=n:=by
 cases o with
 |none=>exact hd|some v=>
  show(if v<0 then (v+(n:Int)).toNat else min v.toNat n)<=n;by_cases hv:v<0
  ·rw[Uj hv];omega
  ·rw[Uo hv];exact Nat.min_le_right _ _
theorem QiI(v:Int)(n d:Nat):(if v<0 then max (v+(n:Int)) 0 else min v (n:Int))=((sIx n d (some v):Nat):Int):=by
 show(if v<0 then max (v+(n:Int)) 0 else min v (n:Int))=(((if v<0 then (v+(n:Int)).toNat else min v.toNat n):Nat):Int);by_cases hv:v<0
 ·simp only[Uj hv];omega
 ·simp only[Uo hv];omega
theorem QhM(lo hi:Option Int)(n:Nat):Builtin.Slice.sliceAdjust lo hi 1 (n:Int)=(((sIx n 0 lo:Nat):Int),((sIx n n hi:Nat):Int)):=by
 have h1:¬((1:Int)<0):=by omega
 unfold Builtin.Slice.sliceAdjust;simp only[h1,Tq];refine Prod.ext ?_ ?_
 ·cases lo with
  |none=>rfl|some v=>exact QiI v n 0
 ·cases hi with
  |none=>rfl|some v=>exact QiI v n n
theorem QhN(i j:Nat):Builtin.Slice.slicePlaces (i:Int) (j:Int) 1=j-i:=by
 unfold Builtin.Slice.slicePlaces;have h1:(1:Int)>0:=by omega
 simp only[h1,RQ,Int.ediv_one];split<;>omega
theorem Qdy(p:IsPart v o)(h:Q o s):wpAny (model prog w) A (Builtin.Slice.slicePartIndex v) Q E s:=by
 cases p with
 |none=>exact slicePart_none h|int i t=>exact slicePart_int h
theorem sliceApplied_gen{sl:Addr}{vl vu:Value}{lo hi:Option Int}{n:Nat}{Q:Int×Int×Nat->Shared->Prop}(hs:s.heap.IsSliceOf sl vl vu .none)(pl:IsPart vl lo)(pu:IsPart vu hi)(h:Q (((sIx n 0 lo:Nat):Int),1,sIx n n hi-sIx n 0 lo) s):wpAny (model prog w) A (Builtin.Slice.sliceApplied (.ref sl) (pure (n:Int))) Q E s:=by obtain⟨os,hos,hcs,hds⟩:=id hs;unfold Builtin.Slice.sliceApplied Builtin.Slice.sliceFields;refine Ua (Ua (Rb hos hds (x:=vl) rfl (Ua (Rb hos hds (x:=vu) rfl (Ua (Rb hos hds (x:=.none) rfl (Ud ?_)))))));refine Ua (slicePart_none ?_);show wpAny _ _ (if ((1:Int)==0)=true then _ else _) _ _ s;rw[Uo (by decide)];refine Ua (Qdy pl (Ua (Qdy pu (Ua (Ud ?_)))));show wpAny _ _ (match Builtin.Slice.sliceAdjust lo hi 1 (n:Int) with|(lo,hi)=>pure (lo,(1:Int),Builtin.Slice.slicePlaces lo hi 1)) _ _ s;rw[QhM lo hi n];show wpAny _ _ (pure (((sIx n 0 lo:Nat):Int),(1:Int),Builtin.Slice.slicePlaces ((sIx n 0 lo:Nat):Int) ((sIx n n hi:Nat):Int) 1)) _ _ s;rw[QhN];exact Ud h
theorem Qk0(xs:Array Value)(i k:Nat):((List.range k).filterMap λ(m:Nat)=>xs[((i:Int)+(m:Int)*1).toNat]?).toArray=((xs.toList.drop i).take k).toArray:=by
 have e:(λ(m:Nat)=>xs[((i:Int)+(m:Int)*1).toNat]?)=λm=>xs[i+m]?:=by
  funext m;have:((i:Int)+(m:Int)*1).toNat=i+m:=by omega
  rw[this]
 rw[e];have:=pick_run xs i k;rw[List.filterMap_map]at this;have e2:((λx=>xs[x]?)∘λx=>i+x)=λm=>xs[i+m]?:=rfl;rw[e2]at this;rw[this]
theorem getItem_tuple_cut{t sl:Addr}{items:Array Value}{vl vu:Value}{lo hi:Option Int}{Q:VP}(ht:IsTup s.heap t items)(hs:s.heap.IsSliceOf sl vl vu .none)(pl:IsPart vl lo)(pu:IsPart vu hi)(hw:¬(sIx items.size 0 lo=0/\sIx items.size items.size hi=items.size))(h:Q (.ref s.heap.objs.size) {s with heap:=s.heap.push {cls:=.type "tuple",data:=.seq ((items.toList.drop (sIx items.size 0 lo)).take (sIx items.size items.size hi-sIx items.size 0 lo)).toArray} })(hsz:items.size<=sizeLine):wpAny (model prog w) A (getItem (.ref t) (.ref sl)) Q E s:=by
 have htake:sizeOk (.seq ((items.toList.drop (sIx items.size 0 lo)).take (sIx items.size items.size hi-sIx items.size 0 lo)).toArray):=by show((items.toList.drop (sIx items.size 0 lo)).take (sIx items.size items.size hi-sIx items.size 0 lo)).toArray.size<=sizeLine;rw[Ur,Tx,WY,Ta];omega
 have hj:sIx items.size items.size hi<=items.size:=QoD _ _ (Um _) hi;obtain⟨os,hos,hcs,hds⟩:=id hs;have hTs:s.TypeIs (.ref sl) "slice":=⟨os,hos,hcs⟩;unfold getItem;try with_reducible refine Th ?_
 first|refine Ua (Ud ?_)|skip
 refine Ua (wpAny_sequenceKey ht.typeIs (by decide) ?_);refine Ua (Te (name:=Str.ofString "__getitem__") ht.typeIs U0
  (UX U0 ht.typeIs entry_tuple_getitem ?_ (args_tuple_getitem _ _)))
 show wpAny _ _ (Builtin.Tuple.tupleItemsOf (.ref t) >>= _) _ _ s;refine Ua (tupleItemsOf_ ht ?_);refine Ua (Ro hTs ?_);rw[Uj (by decide)];refine Ua (sliceApplied_gen hs pl pu ?_);have hno:¬((((sIx items.size 0 lo:Nat):Int)==0&&(1:Int)==1&&(sIx items.size items.size hi-sIx items.size 0 lo)==items.size)=true):=by intro q;rw[US,US]at q;have q1:((sIx items.size 0 lo:Nat):Int)=0:=eq_of_beq q.1.1;have q2:sIx items.size items.size hi-sIx items.size 0 lo=items.size:=eq_of_beq q.2;exact hw ⟨by omega,by omega⟩
 show wpAny _ _ (if (((sIx items.size 0 lo:Nat):Int)==0&&(1:Int)==1&&(sIx items.size items.size hi-sIx items.size 0 lo)==items.size)=true then _ else _) _ _ s;rw[Uo hno,Qk0];first
  |exact Ua (m:=Builtin.Tuple.tupleExact _) (UZ (Ud ⟨_,rfl,Ud h⟩) htake)
  |exact Ua (m:=Builtin.Tuple.tupleExact _) (UZ (Ua (Ud (Ud ⟨_,rfl,Ud h⟩))) htake)
  |exact Ua (Ua (m:=Builtin.Tuple.tupleExact _) (UZ (Ud (Ud ⟨_,rfl,Ud h⟩)) htake))
  |exact Ua (Ua (m:=Builtin.Tuple.tupleExact _) (UZ (Ud ⟨_,rfl,Ud h⟩) htake))
end HT
namespace L2
open PySem PySem.Spec PyProof.Rows
abbrev TO:=St->Hp->(Option Int->Hp->Prop)->Prop
def PO(X:Cx)(e:Option Expr)(t:TO):Prop:=∀(pins:LAO)(s:Shared)(σ:St)(H:Hp)(Q:Option Int->Hp->Prop),Inv X pins σ H s->t σ H Q->wpAny (model X.prog X.w) X.A (evalPart e X.env) (λu s'=>∃o H',Inv X pins σ H' s'/\IsPart u o/\Q o H') X.xe s
def QmY:TO:=λ_ H Q=>Q none H
def Qp7(t:TE):TO:=λσ H Q=>t σ H λx H1=>∃i,x=.int i/\Q (some i) H1
section
variable{X:Cx}{e:Expr}{te:TE}{lo hi:Option Expr}{tl th:TO}{pos p2:Pos}
theorem QmZ:PO X none QmY:=by intro pins s σ H Q I h;rw[evalPart_none];exact Ud ⟨none,H,I,.none,h⟩
theorem Qm0(h:PE X e te):PO X (some e) (Qp7 te):=by intro pins s σ H Q I hw;rw[evalPart_some];refine thn (h pins s σ H _ I hw) λu s1 ⟨x,H1,I1,r1,q1⟩=>?_;obtain⟨i,rfl,q⟩:=q1;obtain⟨t,rfl⟩:=r1;exact⟨some i,H1,I1,.int i t,q⟩
def SlR(X:Cx)(r:V->Option Int->Option Int->Hp->VK->Prop):Prop:=∀(pins:LAO)(s:Shared)(σ:St)(H:Hp)(x:V)(v vl vu:Value)(lo hi:Option Int)(sl:Addr)(Q:VK),Inv X pins σ H s->RelV x v->s.heap.IsSliceOf sl vl vu .none->IsPart vl lo->IsPart vu hi->r x lo hi H Q->∃T id,typeLookup (.type T) "__getitem__"=pure (some (.builtin id))/\s.TypeIs v T/\wpAny (model X.prog X.w) X.A (getItem v (.ref sl)) (EP X pins σ Q) X.xe s
theorem SlR.or(h:SlR X r)(h':SlR X r'):SlR X (λx lo hi H Q=>r x lo hi H Q\/r' x lo hi H Q):=by
 intro pins s σ H x v vl vu lo hi sl Q I rx hs pl pu q;rcases q with q|q
 ·exact h pins s σ H x v vl vu lo hi sl Q I rx hs pl pu q
 ·exact h' pins s σ H x v vl vu lo hi sl Q I rx hs pl pu q
def tSl(r:V->Option Int->Option Int->Hp->VK->Prop)(te:TE)(tl th:TO):TE:=λσ H Q=>te σ H λx H1=>tl σ H1 λl H2=>th σ H2 λu H3=>r x l u H3 Q
theorem Qk1{r:V->Option Int->Option Int->Hp->VK->Prop}(hr:SlR X r)(he:PE X e te)(hl:PO X lo tl)(hu:PO X hi th):PE X (.Subscript e (.Slice lo hi none p2) pos) (tSl r te tl th):=by intro pins s σ H Q I h;refine Subscript_ (thn (he pins s σ H _ I h) λv s1 ⟨x,H1,I1,r1,q1⟩=>?_);refine wpAny_Slice (thn (hl pins s1 σ H1 _ I1 q1) λvl s2 ⟨l,H2,I2,pl,q2⟩=>thn (hu pins s2 σ H2 _ I2 q2) λvu s3 ⟨u,H3,I3,pu,q3⟩=>?_);rw[evalPart_none];refine Ud ?_;have I4:Inv X pins σ H3 {s3 with heap:=s3.heap.push {cls:=.type "slice",data:=.fields #[vl,vu,.none]} }:=I3.kept (t':=s3.toks) λb ob q=>Ug _ q;obtain⟨T,id,hT,ht,hg⟩:=hr pins {s3 with heap:=s3.heap.push {cls:=.type "slice",data:=.fields #[vl,vu,.none]} } σ H3 x v vl vu l u s3.heap.objs.size Q I4 r1 (Heap.IsSliceOf.new ..) pl pu q3;show wpAny (model X.prog X.w) X.A (subscriptTail e (.Slice lo hi none p2) v (.ref s3.heap.objs.size)) (EP X pins σ Q) X.xe {s3 with heap:=s3.heap.push {cls:=.type "slice",data:=.fields #[vl,vu,.none]} };exact tail_any (ops:=[.ref s3.heap.objs.size,v]) ht hT hg (by with_unfolding_all rfl)
def cutV(xs:List V)(lo hi:Option Int):List V:=(xs.drop (HT.sIx xs.length 0 lo)).take (HT.sIx xs.length xs.length hi-HT.sIx xs.length 0 lo)
theorem QcG(xs:List V)(lo hi:Option Int):(cutV xs lo hi).length<=xs.length:=by unfold cutV;rw[Tx,WY];omega
def rSlT(K:Frag):V->Option Int->Option Int->Hp->VK->Prop:=λx lo hi H Q=>∃a xs,x=.ref a/\SqT K H a xs/\¬(HT.sIx xs.length 0 lo=0/\HT.sIx xs.length xs.length hi=xs.length)/\∀p,H p=none->Q (.ref p) (upd H p (.tup (cutV xs lo hi)))
theorem sl_tup:SlR X (rSlT X.K):=by
 intro pins s σ H x v vl vu lo hi sl Q I rx hs pl pu h;obtain⟨a,xs,rfl,hx,hw,q⟩:=h;cases rx;obtain⟨its,r,ht,hz⟩:=I.tuple hx;have hlen:its.toArray.size=xs.length:=by rw[Ur];exact r.length.symm
 refine⟨"tuple",_,U0.lookup,ht.typeIs,?_⟩;refine HT.getItem_tuple_cut ht hs pl pu (by rw[hlen];exact hw) ?_ (by rw[hlen];exact hz);rw[hlen];refine⟨.ref s.heap.objs.size,_,I.laid (t':=s.toks) (o:=.tup (cutV xs lo hi)) (λb ob q=>Ug _ q) (Um _) ?_,rfl,q _ (I.hok.fresh (Um _))⟩;exact⟨Ue (QcG xs lo hi) hz,_,(r.drop (HT.sIx xs.length 0 lo)).take (HT.sIx xs.length xs.length hi-HT.sIx xs.length 0 lo),IsTup.new _ _⟩
def QoE(K:Frag):R2:=λx y H Q=>∃a b xs ys,x=.ref a/\y=.ref b/\SqT K H a xs/\SqT K H b ys/\xs≠[]/\xs.length+ys.length<=sizeLine/\(ys=[]->Q (.ref a) H)/\(ys≠[]->∀p,H p=none->Q (.ref p) (upd H p (.tup (xs++ys))))
theorem Vals.nil_iff(r:Vals xs us):us=[]↔xs=[]:=by
 cases r with
 |nil=>simp|cons _ _=>simp
theorem Qm1:OpR X (binaryOp .Add) (QoE X.K):=by intro pins s σ H x y v u Q I rx ry h;obtain⟨a,b,xs,ys,rfl,rfl,ha,hb,hx,hz,q1,q2⟩:=h;cases rx;cases ry;obtain⟨its,r1,p1,_⟩:=I.tuple ha;obtain⟨its2,r2,p2,_⟩:=I.tuple hb;refine HT.cat_tup p1 p2 (λz=>hx (r1.nil_iff.mp z)) (λz=>⟨.ref a,H,I,rfl,q1 (r2.nil_iff.mp z)⟩) (λz=>?_) (by rw[<-r1.length,<-r2.length];exact hz);refine⟨.ref s.heap.objs.size,_,I.laid (t':=s.toks) (o:=.tup (xs++ys)) (λb ob q=>Ug _ q) (Um _) ?_,rfl,q2 (λw=>z (r2.nil_iff.mpr w)) _ (I.hok.fresh (Um _))⟩;exact⟨by rw[Uh];exact hz,_,r1.append r2,IsTup.new _ _⟩
end
def ixN(n:Nat)(i:Int):Option Nat:=if 0<=i then (if i<n then some i.toNat else none) else if -(n:Int)<=i then some (i+n).toNat else none
def atI(xs:List α)(i:Int):Option α:=(ixN xs.length i).bind λj=>xs[j]?
theorem QiJ(h:ixN n i=some j):seqIndex? i n=some j/\j<n/\-(n:Int)<=i/\i<n:=by
 unfold ixN at h;by_cases h0:0<=i
 ·rw[Uj h0]at h;by_cases h1:i<n
  ·rw[Uj h1]at h;have e:i.toNat=j:=Option.some.inj h;exact⟨by rw[seqIndex_of h0 h1,e],by omega,by omega,h1⟩
  ·rw[Uo h1]at h;cases h
 ·rw[Uo h0]at h;by_cases h1 : -(n:Int)<=i
  ·rw[Uj h1]at h;have e:(i+n).toNat=j:=Option.some.inj h;exact⟨by rw[seqIndex_neg (by omega) h1,e],by omega,h1,by omega⟩
  ·rw[Uo h1]at h;cases h
theorem QfU(h:atI xs i=some v):∃j,seqIndex? i xs.length=some j/\xs[j]?=some v/\j<xs.length/\-(xs.length:Int)<=i/\i<xs.length:=by
 unfold atI at h;cases e:ixN xs.length i with
 |none=>rw[e]at h;cases h|some j =>rw[e]at h;obtain⟨h1,h2,h3,h4⟩:=QiJ e;exact⟨j,h1,h,h2,h3,h4⟩
def QdX(b:Expr):Prop:=∀o i,subscripted b false o i=operate [o,i] (getItem o i)
def IxR(X:Cx)(r:R2):Prop:=∀(value slice:Expr)(pins:LAO)(s:Shared)(σ:St)(H:Hp)(x y:V)(v u:Value)(Q:VK),Inv X pins σ H s->RelV x v->RelV y u->r x y H Q->subscripted slice false v u=operate [v,u] (getItem v u)->wpAny (model X.prog X.w) X.A (subscriptTail value slice v u) (EP X pins σ Q) X.xe s
def MtR(X:Cx)(id:String)(r:V->List V->Hp->VK->Prop):Prop:=∀(pins:LAO)(s:Shared)(σ:St)(H:Hp)(x:V)(xs:List V)(v:Value)(us:List Value)(Q:VK),Inv X pins σ H s->RelV x v->Vals xs us->r x xs H Q->wpAny (model X.prog X.w) X.A (call (.builtin id) (v::us)) (EP X pins σ Q) X.xe s
section
variable{X:Cx}{a b:Expr}{ta tb:TE}{pos:Pos}
theorem IxR.or(h:IxR X r)(h':IxR X r'):IxR X (λx y H Q=>r x y H Q\/r' x y H Q):=by
 intro value slice pins s σ H x y v u Q I rx ry q hs;rcases q with q|q
 ·exact h value slice pins s σ H x y v u Q I rx ry q hs
 ·exact h' value slice pins s σ H x y v u Q I rx ry q hs
theorem MtR.or{id:String}{r r':V->List V->Hp->VK->Prop}(h:MtR X id r)(h':MtR X id r'):MtR X id (λx xs H Q=>r x xs H Q\/r' x xs H Q):=by
 intro pins s σ H x xs v us Q I rx rs q;rcases q with q|q
 ·exact h pins s σ H x xs v us Q I rx rs q
 ·exact h' pins s σ H x xs v us Q I rx rs q
theorem Qp8(hr:IxR X r)(ha:PE X a ta)(hb:PE X b tb)(hs:QdX b):PE X (.Subscript a b pos) (tOp r ta tb):=by intro pins s σ H Q I h;exact Subscript_ (binT ha hb I h λv u s2 x y H2 I2 rx ry q=>hr a b pins s2 σ H2 x y v u Q I2 rx ry q (hs _ _))
def rIxL(K:Frag):R2:=λx y H Q=>∃p xs i v,x=.ref p/\y=.int i/\SqL K H p xs/\atI xs i=some v/\Q v H
def rIxT(K:Frag):R2:=λx y H Q=>∃p xs i v,x=.ref p/\y=.int i/\SqT K H p xs/\atI xs i=some v/\Q v H
def rIxS:R2:=λx y H Q=>∃z i c,x=.str z/\y=.int i/\z.length<=sizeLine/\atI z.cps.toList i=some c/\Q (.str ⟨#[c]⟩) H
theorem ix_list:IxR X (rIxL X.K):=by
 intro value slice pins s σ H x y v u Q I rx ry h hs;obtain⟨p,xs,i,z,rfl,rfl,hq,he,q⟩:=h;cases rx;obtain⟨t,rfl⟩:=ry;obtain⟨its,r,pl,hz⟩:=I.list hq;obtain⟨j,h1,h2,h3,h4,h5⟩:=QfU he;obtain⟨w,ew,rw'⟩:=r.get h2;have hl:=r.length;have hn:=Qdw;have fin:EP X pins σ Q w s:=⟨z,H,I,rw',q⟩;by_cases h0:0<=i
 ·have hj:i.toNat=j:=by rw[seqIndex_of h0 h5]at h1;exact Option.some.inj h1
  exact item_listR pl.isList h0 (by omega) (by rw[hj];simpa using ew) fin hs
 ·have hj:(i+(its.toArray.size:Int)).toNat=j:=by rw[seqIndex_neg (by omega) h4]at h1;rw[Ur,<-hl];exact Option.some.inj h1
  exact subscriptTail_builtinR (x:=w) pl.isList.typeIs slot_list_getitem.lookup
   (wpAny_getItem_list_neg (Q:=λr s'=>r=w/\EP X pins σ Q r s') pl.isList (by omega) (by rw[Ur]<;>omega) (by omega) (by rw[hj];simpa using ew) ⟨rfl,fin⟩) hs
theorem ix_tup:IxR X (rIxT X.K):=by
 intro value slice pins s σ H x y v u Q I rx ry h hs;obtain⟨p,xs,i,z,rfl,rfl,hq,he,q⟩:=h;cases rx;obtain⟨t,rfl⟩:=ry;obtain⟨its,r,pl,hz⟩:=I.tuple hq;obtain⟨j,h1,h2,h3,h4,h5⟩:=QfU he;obtain⟨w,ew,rw'⟩:=r.get h2;have hl:=r.length;have hn:=Qdw;have fin:EP X pins σ Q w s:=⟨z,H,I,rw',q⟩;exact subscriptTail_builtinR (x:=w) pl.typeIs slot_tuple_getitem.lookup
  (getItem_tuple (j:=j) (Q:=λr s'=>r=w/\EP X pins σ Q r s') pl (by omega) (by omega) (by rw[Ur,<-hl];exact h1) (by simpa using ew) ⟨rfl,fin⟩) hs
theorem QoF:IxR X rIxS:=by
 intro value slice pins s σ H x y v u Q I rx ry h hs;obtain⟨z,i,c,rfl,rfl,hz,he,q⟩:=h;obtain⟨t,rfl⟩:=rx;obtain⟨t',rfl⟩:=ry;obtain⟨j,h1,h2,h3,h4,h5⟩:=QfU he;have hl:z.cps.toList.length=z.length:=by simp[Str.length]
 rw[hl]at h1 h4 h5;have hn:=Qdw;exact tail_any (typeIs_str s z t) slot_str_getitem.lookup (getItem_str (c:=c) (by have e1:decide (i < -(2^63:Int))=false:=Uu (by omega);have e2:decide (i>=2^63)=false:=Uu (by omega);rw[e1,e2,BH]) (by rw[h1];simpa using h2) ⟨.str ⟨#[c]⟩,H,I.tok _,⟨_,rfl⟩,q⟩) hs
def rIx(K:Frag):R2:=λx y H Q=>rIxL K x y H Q\/rIxT K x y H Q\/rIxS x y H Q
theorem QoG:IxR X (rIx X.K):=ix_list.or (ix_tup.or QoF)
theorem QhO(its:List Value)(n j:Nat)(u:Value):Obj.mapSeq (·.setIfInBounds j u) {cls:=.type "list",data:=.seq its.toArray n} = {cls:=.type "list",data:=.seq (its.set j u).toArray n}:=by simp[Obj.mapSeq]
theorem Inv.lst(I:Inv X pins σ H s)(h:H p=some (.lst xs)):
  ∃(its:List Value)(n:Nat),Vals xs its/\s.heap.get? p=some {cls:=.type "list",data:=.seq its.toArray n}/\xs.length<=sizeLine:=by
 obtain⟨z,its,n,r,e⟩:=I.hok p _ h;exact⟨its,n,r,e,z⟩
theorem Inv.lstUpd{pins:LAO}{σ:St}{H:Hp}{s:Shared}{p:Addr}{xs ys:List V}{its its':List Value}{n n':Nat}{f:Obj->Obj}(I:Inv X pins σ H s)(h:H p=some (.lst xs))(ho:s.heap.get? p=some {cls:=.type "list",data:=.seq its.toArray n})(hf:f {cls:=.type "list",data:=.seq its.toArray n} = {cls:=.type "list",data:=.seq its'.toArray n'})(r:Vals ys its')(hz:ys.length<=sizeLine)(t:Nat):
  Inv X pins σ (upd H p (.lst ys)) {s with heap:=s.heap.update p f,toks:=t}:=by
 have e:(s.heap.update p f).get? p=some {cls:=.type "list",data:=.seq its'.toArray n'}:=by rw[Rq f ho (by rw[hf]<;>rfl),hf]
 refine I.write (x:=p) (e:=p) (by rw[h];trivial) (.inl rfl) (λb u hb q=>(Ti _ _ (Ne.symm hb)).trans q) ⟨_,e⟩ ?_;exact⟨hz,its',n',r,e⟩
def Qp9:V->V->V->Hp->(Hp->Prop)->Prop:=λo i v H Q=>∃p xs k j,o=.ref p/\i=.int k/\H p=some (.lst xs)/\ixN xs.length k=some j/\Q (upd H p (.lst (xs.set j v)))
theorem Qk2:PSet X Qp9:=by
 intro pins s σ H o i v ov iv u Q I ro ri rv h;obtain⟨p,xs,k,j,rfl,rfl,hp,hj,q⟩:=h;cases ro;obtain⟨t,rfl⟩:=ri;obtain⟨its,n,r,ho,hz⟩:=I.lst hp;obtain⟨h1,h2,h3,h4⟩:=QiJ hj;have hl:=r.length;have hn:=Qdw;have I':Inv X pins σ (upd H p (.lst (xs.set j v))) {s with heap:=s.heap.update p (Obj.mapSeq (·.setIfInBounds j u))}:=I.lstUpd hp ho (QhO its n j u) (r.set rv j) (by rw[UG];exact hz) s.toks
 by_cases h0:0<=k
 ·have hk:k.toNat=j:=by rw[seqIndex_of h0 h4]at h1;exact Option.some.inj h1
  exact ki_setAt ho h0 (by omega) (by rw[Ur,<-hl];exact h4) (by rw[hk];exact⟨_,I',q⟩)
 ·have hk:(k+(its.toArray.size:Int)).toNat=j:=by rw[seqIndex_neg (by omega) h3]at h1;rw[Ur,<-hl];exact Option.some.inj h1
  exact ki_setBack ho (by omega) (by rw[Ur,<-hl];exact h3) (by omega) (by rw[hk];exact⟨_,I',q⟩)
theorem QeV(lo hi:Option Int)(n:Nat):(sliceBounds lo hi none n).1=((HT.sIx n 0 lo:Nat):Int)/\(sliceBounds lo hi none n).2.1=((HT.sIx n n hi:Nat):Int)/\(sliceBounds lo hi none n).2.2=1:=by
 refine⟨?_,?_,rfl⟩
 ·cases lo with
  |none=>simp[sliceBounds,HT.sIx]|some i=>
   simp only[sliceBounds,HT.sIx,Option.getD_none,show(1:Int)>0 by decide,RQ];by_cases h:i<0
   ·simp only[h,RQ]<;>omega
   ·simp only[h,Tq]<;>omega
 ·cases hi with
  |none=>simp[sliceBounds,HT.sIx]|some i=>
   simp only[sliceBounds,HT.sIx,Option.getD_none,show(1:Int)>0 by decide,RQ];by_cases h:i<0
   ·simp only[h,RQ]<;>omega
   ·simp only[h,Tq]<;>omega
theorem QdY(its:List Value)(lo hi:Option Int):slicePick its.toArray lo hi none=((its.drop (HT.sIx its.length 0 lo)).take (HT.sIx its.length its.length hi-HT.sIx its.length 0 lo)).toArray:=by obtain⟨h1,h2,h3⟩:=QeV lo hi its.toArray.size;unfold slicePick;rw[h1,h2,h3];simp only[sliceRange_one,pick_run,Ur]<;>rfl
def rSlL(K:Frag):V->Option Int->Option Int->Hp->VK->Prop:=λx lo hi H Q=>∃a xs,x=.ref a/\SqL K H a xs/\∀p,H p=none->Q (.ref p) (upd H p (.lst (cutV xs lo hi)))
theorem Qm2:SlR X (rSlL X.K):=by intro pins s σ H x v vl vu lo hi sl Q I rx hs pl pu h;obtain⟨a,xs,rfl,hx,q⟩:=h;cases rx;obtain⟨its,r,ht,hz⟩:=I.list hx;have hlen:=r.length;refine⟨"list",_,slot_list_getitem.lookup,ht.isList.typeIs,?_⟩;refine wpAny_getItem_list_slice ht.isList hs pl pu .none (by simp) ?_ (by rw[Ur]<;>omega);rw[QdY,<-hlen];refine⟨.ref s.heap.objs.size,_,I.laid (t':=s.toks) (o:=.lst (cutV xs lo hi)) (λb ob q=>Ug _ q) (Um _) ?_,rfl,q _ (I.hok.fresh (Um _))⟩;exact⟨Ue (QcG xs lo hi) hz,_,0,(r.drop (HT.sIx xs.length 0 lo)).take (HT.sIx xs.length xs.length hi-HT.sIx xs.length 0 lo),UA _ rfl⟩
def Qdn:V->Bool
 |.non=>true|.bl _=>true|.int _=>true|.str _=>true|_=>false
def eqV:V->V->Bool
 |.non,.non=>true|.bl a,.bl b=>a==b|.bl a,.int b=>(if a then 1 else 0)==b|.int a,.bl b=>a==(if b then 1 else 0)|.int a,.int b=>a==b|.str a,.str b=>a==b|_,_=>false
theorem QoH(ry:RelV y u)(rx:RelV x v)(fy:Qdn y=true)(fx:Qdn x=true):SeqAt.EqAt A s u v (eqV y x):=by
 cases y with
 |non=>
  cases ry;cases x with
  |non=>cases rx;exact Bb _|bl b=>cases rx;exact SeqAt.EqAt.none_bool b|int b=>obtain⟨t,rfl⟩:=rx;exact SeqAt.EqAt.none_int b t|str b=>obtain⟨t,rfl⟩:=rx;exact SeqAt.EqAt.none_str b t|_=>exact absurd (show false=true from fx) Uk
 |bl a=>
  cases ry;cases x with
  |non=>cases rx;exact SeqAt.EqAt.bool_none a|bl b=>cases rx;exact SeqAt.EqAt.bool_bool a b|int b=>obtain⟨t,rfl⟩:=rx;exact SeqAt.EqAt.bool_int a b t|str b=>obtain⟨t,rfl⟩:=rx;exact SeqAt.EqAt.bool_str a b t|_=>exact absurd (show false=true from fx) Uk
 |int a=>
  obtain⟨t',rfl⟩:=ry;cases x with
  |non=>cases rx;exact SeqAt.EqAt.int_none a t'|bl b=>cases rx;exact SeqAt.EqAt.int_bool a t' b|int b=>obtain⟨t,rfl⟩:=rx;exact WC a t' b t|str b=>obtain⟨t,rfl⟩:=rx;exact SeqAt.EqAt.int_str a t' b t|_=>exact absurd (show false=true from fx) Uk
 |str a=>
  obtain⟨t',rfl⟩:=ry;cases x with
  |non=>cases rx;exact SeqAt.EqAt.str_none a t'|bl b=>cases rx;exact SeqAt.EqAt.str_bool a t' b|int b=>obtain⟨t,rfl⟩:=rx;exact SeqAt.EqAt.str_int a t' b t|str b=>obtain⟨t,rfl⟩:=rx;exact SeqAt.EqAt.str_str a t' b t|_=>exact absurd (show false=true from fx) Uk
 |_=>exact absurd (show false=true from fy) Uk
def eqU(x:V)(u:Value):Bool:=match u with
 |.none=>eqV .non x|.bool b=>eqV (.bl b) x|.int i _=>eqV (.int i) x|.str z _=>eqV (.str z) x|_=>false
theorem Ql2(r:RelV y u)(f:Qdn y=true):eqU x u=eqV y x:=by
 cases y with
 |non=>cases r;rfl|bl b=>cases r;rfl|int i=>obtain⟨t,rfl⟩:=r;rfl|str z=>obtain⟨t,rfl⟩:=r;rfl|_=>exact absurd (show false=true from f) Uk
theorem QfV:∀{xs:List V}{us:List Value},Vals xs us->xs.all Qdn=true->us.any (eqU x)=xs.any λy=>eqV y x
 |_,_,.nil,_=>rfl|y::xs,u::us,.cons r t,f=>by rw[RD,US]at f;rw[Tr,Tr,Ql2 r f.1,QfV t f.2]
theorem QdZ(rx:RelV x v)(fx:Qdn x=true):∀{xs:List V}{us:List Value},Vals xs us->xs.all Qdn=true->∀u∈us,SeqAt.EqAt A s u v (eqU x u)
 |_,_,.nil,_=>λu hu=>by cases hu
 |y::xs,u::us,.cons r t,f=>λu' hu=>by
  rw[RD,US]at f;rcases Uv.mp hu with rfl|hu
  ·rw[Ql2 r f.1];exact QoH r rx f.1 fx
  ·exact QdZ rx fx t f.2 u' hu
def inV(x:V)(xs:List V):Bool:=xs.any λy=>eqV y x
def rIn(K:Frag)(neg:Bool):R2:=λx y H Q=>∃p xs,y=.ref p/\(SqL K H p xs\/SqT K H p xs)/\Qdn x=true/\xs.all Qdn=true/\Q (.bl (if neg then !inV x xs else inV x xs)) H
theorem QiK:OpR X (compareOp .In) (rIn X.K false):=by
 intro pins s σ H x y v u Q I rx ry h;obtain⟨p,xs,rfl,hq,fx,fs,q⟩:=h;cases ry;rcases hq with hq|hq
 ·obtain⟨its,r,pl,hz⟩:=I.list hq;refine SeqAt.in_listAt (eqU x) pl.isList (λw hw=>QdZ rx fx r fs w (by simpa using hw)) ⟨.bl _,H,I,rfl,?_⟩;rw[show its.toArray.any (eqU x)=its.any (eqU x) by simp,QfV r fs];exact q
 ·obtain⟨its,r,pl,hz⟩:=I.tuple hq;refine SeqAt.in_tupleAt (eqU x) pl (λw hw=>QdZ rx fx r fs w (by simpa using hw)) ⟨.bl _,H,I,rfl,?_⟩;rw[show its.toArray.any (eqU x)=its.any (eqU x) by simp,QfV r fs];exact q
theorem QeW:CallR X (.builtin "len") (λxs H Q=>∃p ys,xs=[.ref p]/\(SqL X.K H p ys\/SqT X.K H p ys)/\Q (.int ys.length) H):=by
 intro pins s σ H xs us Q I r h;obtain⟨p,ys,rfl,hq,q⟩:=h;obtain⟨u,rfl,rx⟩:=QiB r;cases rx;have hn:=Qdw;rcases hq with hq|hq
 ·obtain⟨its,r',pl,hz⟩:=I.list hq;have hlen:=r'.length;exact Calls.call_len_list pl.isList (by simp only[Ur]<;>omega) ⟨.int ys.length,H,I.tok _,⟨s.toks+1,by rw[Ur,hlen]⟩,q⟩
 ·obtain⟨its,r',pl,hz⟩:=I.tuple hq;have hlen:=r'.length;exact len_tuple pl (by simp only[Ur]<;>omega) ⟨.int ys.length,H,I.tok _,⟨s.toks+1,by rw[Ur,hlen]⟩,q⟩
theorem CallR.or(h:CallR X f r)(h':CallR X f r'):CallR X f (λxs H Q=>r xs H Q\/r' xs H Q):=by
 intro pins s σ H xs us Q I rs q;rcases q with q|q
 ·exact h pins s σ H xs us Q I rs q
 ·exact h' pins s σ H xs us Q I rs q
theorem QeX:CallR X (.type "list") (λxs H Q=>∃p ys,xs=[.ref p]/\(SqL X.K H p ys\/SqT X.K H p ys)/\∀l,H l=none->Q (.ref l) (upd H l (.lst ys))):=by
 intro pins s σ H xs us Q I r h;obtain⟨p,ys,rfl,hq,q⟩:=h;obtain⟨u,rfl,rx⟩:=QiB r;cases rx;have fin:∀(its:List Value),Vals ys its->ys.length<=sizeLine->∀(h':Heap)(c':Nat),(∀b o',s.heap.get? b=some o'->h'.get? b=some o')->h'.get? s.heap.objs.size=some {cls:=.type "list",dict:=none,data:=.seq its.toArray c',slots:=#[]}->EP X pins σ Q (.ref s.heap.objs.size) {s with heap:=h'}:=λits r' hz h' c' kp e=>
  ⟨.ref s.heap.objs.size,_,I.laid (t':=s.toks) kp (Um _) (show ObjOk X.prog X.w _ h' _ (.lst ys) from ⟨hz,its,c',r',e⟩),rfl,q _ (I.hok.fresh (Um _))⟩
 rcases hq with hq|hq
 ·obtain⟨its,r',pl,hz⟩:=I.list hq;have hlen:=r'.length;obtain⟨o,ho,hc,n,hd⟩:=pl.isList;exact call_list_seq p (.inl rfl) ho hc hd (λh' c' kp e=>fin its r' hz h' c' kp e) (by simp only[Ur]<;>omega)
 ·obtain⟨its,r',pl,hz⟩:=I.tuple hq;have hlen:=r'.length;obtain⟨o,ho,hc,n,hd⟩:=pl;exact call_list_seq p (.inr rfl) ho hc hd (λh' c' kp e=>fin its r' hz h' c' kp e) (by simp only[Ur]<;>omega)
theorem Qd0:CallR X (.type "tuple") (λxs H Q=>∃p ys,xs=[.ref p]/\((SqL X.K H p ys/\∀l,H l=none->Q (.ref l) (upd H l (.tup ys)))\/(SqT X.K H p ys/\Q (.ref p) H))):=by
 intro pins s σ H xs us Q I r h;obtain⟨p,ys,rfl,h⟩:=h;obtain⟨u,rfl,rx⟩:=QiB r;cases rx;rcases h with⟨hq,q⟩|⟨hq,q⟩
 ·obtain⟨its,r',pl,hz⟩:=I.list hq;have hlen:=r'.length;refine call_tuple_list pl.isList (λh' kp=>?_) (by simp only[Ur]<;>omega);have I1:Inv X pins σ H {s with heap:=h'}:=I.kept (t':=s.toks) kp;have I2:Inv X pins σ (upd H h'.objs.size (.tup ys)) {s with heap:=h'.push {cls:=.type "tuple",data:=.seq its.toArray} }:=I1.laid (t':=s.toks) (λb o e=>Ug _ e) (Um _) (show ObjOk X.prog X.w _ _ _ (.tup ys) from ⟨hz,its,r',IsTup.new _ _⟩)
  exact⟨.ref h'.objs.size,_,I2,rfl,q _ (I1.hok.fresh (Um _))⟩
 ·obtain⟨its,r',pl,hz⟩:=I.tuple hq;exact call_tuple_same pl ⟨.ref p,H,I,rfl,q⟩
def tyV(K:Frag)(T:String)(x:V)(H:Hp):Prop:=match x with
 |.str _=>T ="str"|.int _=>T ="int"|.ref p=>(T ="list"/\∃xs,SqL K H p xs)\/(T ="tuple"/\∃o,K.lookup p=some o/\o.cls=.type "tuple"/\o.dict=none)\/(T ="dict"/\((∃kvs,H p=some (.dK kvs))\/∃kvs,H p=some (.dT kvs)))\/(T ="set"/\∃S n,H p=some (.set S n))
 |_=>False
theorem Ql3(I:Inv X pins σ H s)(r:RelV x v)(ty:tyV X.K T x H):
  s.TypeIs v T/\∀a,v=.ref a->∃ob,s.heap.get? a=some ob/\ob.dict=none:=by
 cases x with
 |str z =>obtain⟨t,rfl⟩:=r;cases (show T ="str" from ty);exact⟨typeIs_str s z t,λ_ e=>nomatch e⟩|int i =>obtain⟨t,rfl⟩:=r;cases (show T ="int" from ty);exact⟨BR s i t,λ_ e=>nomatch e⟩|ref p=>
  cases r;rcases ty with⟨rfl,xs,hq⟩|⟨rfl,o,hk,hc,hd⟩|⟨rfl,hk⟩|⟨rfl,S,n,hk⟩
  ·obtain⟨its,_,pl,_⟩:=I.list hq;refine⟨pl.isList.typeIs,λa e=>?_⟩;cases e;obtain⟨o,n,e,c,hd,_⟩:=pl;exact⟨o,e,hd⟩
  ·refine⟨⟨o,I.kIn p o hk,hc⟩,λa e=>?_⟩;cases e;exact⟨o,I.kIn _ o hk,hd⟩
  ·have z:∃o,s.heap.get? p=some o/\o.ExactDict:=by
    rcases hk with⟨kvs,hk⟩|⟨kvs,hk⟩
    ·obtain⟨_,_,_,_,o,_,_,e,ex,_⟩:=I.hok p _ hk;exact⟨o,e,ex⟩
    ·obtain⟨_,_,_,_,o,_,_,e,ex,_⟩:=I.hok p _ hk;exact⟨o,e,ex⟩
   obtain⟨o,e,ex⟩:=z;refine⟨⟨o,e,ex.1⟩,λa e2=>?_⟩;cases e2;exact⟨o,e,ex.2.1⟩
  ·obtain⟨o,_,_,_,e,ex,_⟩:=I.hok p _ hk;refine⟨⟨o,e,ex.1⟩,λa e2=>?_⟩;cases e2;exact⟨o,e,ex.2.1⟩
 |_=>exact False.elim ty
def tBM0(K:Frag)(T:String)(r:V->List V->Hp->VK->Prop)(to:TE):TE:=λσ H Q=>to σ H λx H1=>tyV K T x H1/\r x [] H1 Q
def tBM(K:Frag)(T:String)(r:V->List V->Hp->VK->Prop)(to:TE)(t:TA):TE:=λσ H Q=>to σ H λx H1=>tyV K T x H1/\t σ H1 λxs H2=>r x xs H2 Q
variable{o e:Expr}{es:List Expr}{to:TE}{t:TA}{name:Str}{apos cpos:Pos}{T id:String}{r:V->List V->Hp->VK->Prop}
theorem QoI(pa:PlainAttrs T)(slot:Slot T name id)(hty:typeOf (.builtin id)=pure (.type "method_descriptor"))(hm:MtR X id r)(ho:PE X o to)(hbase:attributeBase o name X.env (eval o X.env)=eval o X.env:=by rfl)(hline:(apos.endLine==cpos.line)=true:=by rfl):PE X (.Call (.Attribute o name apos) [] [] cpos) (tBM0 X.K T r to):=by intro pins s σ H Q I h;refine wpAny_Call_method0_late hbase hline (thn (ho pins s σ H _ I h) λv s1 ⟨x,H1,I1,r1,ty,q1⟩=>?_);obtain⟨h1,h2⟩:=Ql3 I1 r1 ty;exact⟨T,id,pa,slot,hty,h1,h2,Ri rfl (PySem.evalArgs_none (hm pins s1 σ H1 x [] v [] Q I1 r1 .nil q1))⟩
theorem Qk3(pa:PlainAttrs T)(slot:Slot T name id)(hty:typeOf (.builtin id)=pure (.type "method_descriptor"))(hm:MtR X id r)(ho:PE X o to)(ha:PA X (e::es) t)(hbase:attributeBase o name X.env (eval o X.env)=eval o X.env:=by rfl)(hfew:((backTo cpos (starEach (e::es) X.env)).all (λx=>!x.1)&&(backToKw cpos (keywordEach [] X.env)).all (λx=>x.1.isSome)
   && decide ((e::es).length+([]:List Keyword).length+(if ([]:List Keyword).isEmpty then 0 else 1)<30))=true:=by rfl)(hline:(apos.endLine==cpos.line)=true:=by rfl)(hs:starEach (e::es) X.env=(false,eval e X.env)::starEach es X.env:=by rfl)(hplain:(backTo cpos (starEach es X.env)).any (·.1)=false:=by rfl):
  PE X (.Call (.Attribute o name apos) (e::es) [] cpos) (tBM X.K T r to t):=by
 intro pins s σ H Q I h;refine wpAny_Call_method_late hbase hfew hline rfl (thn (ho pins s σ H _ I h) λv s1 ⟨x,H1,I1,r1,ty,q1⟩=>?_);obtain⟨h1,h2⟩:=Ql3 I1 r1 ty;refine⟨T,id,pa,slot,hty,h1,h2,?_⟩;have hA:=ha cpos pins s1 σ H1 _ I1 q1;rw[hs]at hA ⊢;refine Ri (by show(false||(backTo cpos (starEach es X.env)).any (·.1))=false;rw[hplain]<;>rfl) (Calls.evalArgs_plain ?_);exact thn hA λus s2 ⟨vs,H2,I2,r2,q2⟩=>hm pins s2 σ H2 x vs v us Q I2 r1 r2 q2
end
def MtM(X:Cx)(id:String)(r:V->List V->Hp->VK->Prop):Prop:=∀(pins:LAO)(s:Shared)(σ:St)(H:Hp)(x:V)(xs:List V)(v:Value)(us:List Value)(Q:VK),Inv X pins σ H s->RelV x v->Vals xs us->r x xs H Q->wpAny (model X.prog X.w) X.A (call (.builtin id) (v::us)) (EP X pins σ Q) X.xe s
theorem Vals.one:∀{x:V}{us:List Value},Vals [x] us->∃u,us=[u]/\RelV x u
 |_,_,.cons r .nil=>⟨_,rfl,r⟩
theorem Vals.two:∀{x y:V}{us:List Value},Vals [x,y] us->∃u v,us=[u,v]/\RelV x u/\RelV y v
 |_,_,_,.cons r (.cons q .nil)=>⟨_,_,rfl,r,q⟩
theorem Vals.zero:∀{us:List Value},Vals [] us->us=[]
 |_,.nil=>rfl
theorem Vals.dropLast(h:Vals xs us):Vals xs.dropLast us.dropLast:=by
 induction h with
 |nil=>exact .nil|cons r t ih=>
  cases t with
  |nil=>exact .nil|cons q t'=>exact .cons r ih
theorem Vals.eraseIdx:∀{xs:List V}{us:List Value}(i:Nat),Vals xs us->Vals (xs.eraseIdx i) (us.eraseIdx i)
 |_,_,_,.nil=>.nil|_,_,0,.cons _ t=>t|_,_,i+1,.cons r t=>.cons r (Vals.eraseIdx i t)
theorem QhP(l:List α):l.eraseIdx (l.length-1)=l.dropLast:=by
 induction l with
 |nil=>rfl|cons a r ih=>
  cases r with
  |nil=>rfl|cons b r=>
   have e:(a::b::r).length-1=((b::r).length-1)+1:=by have h1:(a::b::r).length=r.length+2:=rfl;have h2:(b::r).length=r.length+1:=rfl;omega
   rw[e,RH,ih];all_goals rfl
theorem QeY:∀(l:List α)(i:Nat),(l.eraseIdx i).length<=l.length
 |[],_=>Um _|_::_,0=>Nat.le_succ _|_::r,i+1=>Nat.succ_le_succ (QeY r i)
theorem Inv.lset{its its':List Value}{n:Nat}{f:Array Value->Array Value}{t':Nat}(I:Inv X pins σ H s)(hH:H l=some (.lst xs))(e:s.heap.get? l=some {cls:=.type "list",data:=.seq its.toArray n})(hf:f its.toArray=its'.toArray)(hv:Vals ys its')(hz:ys.length<=sizeLine):
  Inv X pins σ (upd H l (.lst ys)) {s with heap:=s.heap.update l (Obj.mapSeq f),toks:=t'}:=by
 have q:=PySem.IsL.update e f;rw[hf]at q;refine I.write (x:=l) (e:=l) (by rw[hH];exact trivial) (.inl rfl) (λb' u hb hu=>(Ti s.heap (Obj.mapSeq f) (Ne.symm hb)).trans hu) ⟨_,q⟩ ?_;exact⟨hz,its',_,hv,q⟩
theorem Inv.lnew(I:Inv X pins σ H s)(hv:Vals ys its)(hz:ys.length<=sizeLine):
  Inv X pins σ (upd H s.heap.objs.size (.lst ys)) {s with heap:=s.heap.push {cls:=.type "list",data:=.seq its.toArray},toks:=t'}:=I.laid (λ_ _ q=>Ug _ q) (Um _) ⟨hz,its,0,hv,UA _ rfl⟩
theorem Inv.fresh(I:Inv X pins σ H s):H s.heap.objs.size=none:=I.hok.fresh (Um _)
theorem Inv.lstM(I:Inv X pins σ H s)(hH:H l=some (.lst xs)):xs.length<=sizeLine/\∃(its:List Value)(n:Nat),Vals xs its/\xs.length=its.length/\s.heap.get? l=some {cls:=.type "list",data:=.seq its.toArray n}:=by obtain⟨z,its,n,r,e⟩:=I.hok l _ hH;exact⟨z,its,n,r,r.length,e⟩
theorem Qk4(h:n<=sizeLine):Builtin.List.listTooLong n=false:=by unfold Builtin.List.listTooLong;exact Uu (by omega)
def Qm3:V->List V->Hp->VK->Prop:=λx vs H Q=>∃l xs y,x=.ref l/\vs=[y]/\H l=some (.lst xs)/\xs.length<sizeLine/\Q .non (upd H l (.lst (xs++[y])))
theorem QiL:MtM X "list.append" Qm3:=by intro pins s σ H x vs v us Q I rx rv h;obtain⟨l,xs,y,rfl,rfl,hH,hz,q⟩:=h;cases rx;obtain⟨u,rfl,ru⟩:=rv.one;obtain⟨z,its,n,r,hl,e⟩:=I.lstM hH;refine RL F.slot_list_append ⟨_,e,rfl⟩ F.entry_list_append (F.args_list_append_2 _ _) (PySem.list_append l its.toArray n u (by rw[Ur];omega)) ⟨e,?_⟩;refine⟨.non,_,I.lset (its':=its++[u]) hH e (by simp) (r.append (.cons ru .nil)) ?_,rfl,q⟩;rw[Uh,Tc];omega
def Qm4:V->List V->Hp->VK->Prop:=λx vs H Q=>∃l b xs zs,x=.ref l/\vs=[.ref b]/\H l=some (.lst xs)/\H b=some (.lst zs)/\xs.length+zs.length<=sizeLine/\Q .non (upd H l (.lst (xs++zs)))
theorem QiM:MtM X "list.extend" Qm4:=by
 intro pins s σ H x vs v us Q I rx rv h;obtain⟨l,b,xs,zs,rfl,rfl,hH,hB,hz,q⟩:=h;cases rx;obtain⟨u,rfl,ru⟩:=rv.one;cases ru;obtain⟨z,its,n,r,hl,e⟩:=I.lstM hH;obtain⟨z2,its2,n2,r2,hl2,e2⟩:=I.lstM hB;have hsz:its.toArray.size+its2.toArray.size<=sizeLine:=by rw[Ur,Ur];omega
 have hlong:¬(!its.toArray.isEmpty&&Builtin.List.listTooLong (its.toArray.size+its2.toArray.size))=true:=by rw[Qk4 hsz,RT];exact Uk
 refine RL F.slot_list_extend ⟨_,e,rfl⟩ F.entry_list_extend (F.args_list_extend_2 _ _)
  (AutoSeq1.list_extend_list_list_0 l its.toArray n b its2.toArray n2 hlong (by rw[Ur];omega) (by omega)) ⟨e,e2,?_⟩
 refine⟨.non,_,I.lset (its':=its++its2) hH e (by simp) (r.append r2) ?_,rfl,q⟩;rw[Uh];omega
def rPop:V->List V->Hp->VK->Prop:=λx vs H Q=>∃l xs y,x=.ref l/\vs=[]/\H l=some (.lst xs)/\xs[xs.length-1]?=some y/\Q y (upd H l (.lst xs.dropLast))
theorem QoJ:MtM X "list.pop" rPop:=by
 intro pins s σ H x vs v us Q I rx rv h;obtain⟨l,xs,y,rfl,rfl,hH,hy,q⟩:=h;cases rx;have hus:=rv.zero;subst hus;obtain⟨z,its,n,r,hl,e⟩:=I.lstM hH;obtain⟨u,hu,ru⟩:=r.get hy;have hy':its.toArray[its.toArray.size-1]?=some u:=by show its.toArray[its.length-1]?=some u;rw[<-T2,<-hl];exact hu
 refine RL F.slot_list_pop ⟨_,e,rfl⟩ F.entry_list_pop (F.args_list_pop_1 _) (MeetsSeq.list_pop_last l its.toArray n u hy' (by rw[Ur];omega)) ⟨e,?_⟩;refine⟨y,_,I.lset (its':=its.dropLast) hH e ?_ r.dropLast ?_,ru,q⟩
 ·show its.toArray.eraseIdxIfInBounds (its.toArray.size-1)=its.dropLast.toArray;rw[Ur,RW,QhP]
 ·rw[TJ];omega
def QoK:V->List V->Hp->VK->Prop:=λx vs H Q=>∃l xs i k y,x=.ref l/\vs=[.int i]/\H l=some (.lst xs)/\-(2^63)<=i/\i<2^63/\seqIndex? i xs.length=some k/\xs[k]?=some y/\Q y (upd H l (.lst (xs.eraseIdx k)))
theorem Qk5:MtM X "list.pop" QoK:=by
 intro pins s σ H x vs v us Q I rx rv h;obtain⟨l,xs,i,k,y,rfl,rfl,hH,h1,h2,hk,hy,q⟩:=h;cases rx;obtain⟨u,rfl,ru⟩:=rv.one;obtain⟨t,rfl⟩:=ru;obtain⟨z,its,n,r,hl,e⟩:=I.lstM hH;obtain⟨w,hw,rw'⟩:=r.get hy;refine RL F.slot_list_pop ⟨_,e,rfl⟩ F.entry_list_pop (F.args_list_pop_2 _ _)
  (MeetsSeq.list_pop_at l its.toArray n i t k w (fitsIndex_both h1 h2) (by rw[Ur,<-hl];exact hk) (by rw[<-T2];exact hw) (by rw[Ur];omega)) ⟨e,?_⟩
 refine⟨y,_,I.lset (its':=its.eraseIdx k) hH e ?_ (r.eraseIdx k) ?_,rw',q⟩
 ·show its.toArray.eraseIdxIfInBounds k=(its.eraseIdx k).toArray;rw[RW]
 ·have:=QeY xs k;omega
def rCat:R2:=λx y H Q=>∃l b xs zs,x=.ref l/\y=.ref b/\H l=some (.lst xs)/\H b=some (.lst zs)/\xs.length+zs.length<=sizeLine/\∀p,H p=none->Q (.ref p) (upd H p (.lst (xs++zs)))
theorem QoL:OpR X (binaryOp .Add) rCat:=by
 intro pins s σ H x y v u Q I rx ry h;obtain⟨l,b,xs,zs,rfl,rfl,hH,hB,hz,q⟩:=h;cases rx;cases ry;obtain⟨z,its,n,r,hl,e⟩:=I.lstM hH;obtain⟨z2,its2,n2,r2,hl2,e2⟩:=I.lstM hB;refine PySem.P.add_list e e2 ?_ (by rw[Ur,Ur];omega);have ea:its.toArray++its2.toArray=(its++its2).toArray:=by simp
 rw[ea];exact⟨.ref _,_,I.lnew (t':=s.toks) (r.append r2) (by rw[Uh];omega),rfl,q _ I.fresh⟩
end L2
namespace Att
open PySem PySem.W PySem.Calls PyProof.Rows
theorem QcH  : ∀(ns:List Int)(vs:List Value),WellAll P h vs (ns.map WData.int)->IntsAre vs ns:=by
 intro ns;induction ns with
 |nil =>intro vs w;rw[List.map_nil]at w;cases w;exact .nil|cons n ns ih=>
  intro vs w;rw[UC]at w;cases w with
  |cons a b =>cases a;exact .cons _ _ (ih _ b)
theorem QiN{l:OpenLaw}{n:Nat}(hn:l.most=some n){P:Params}{h:Heap}{args:List WData}{vals:List Value}(hpre:l.row.toRowW.claim.pre args=true)(hwl:WellAll P h vals args):
  ∃a vs ns,vals=[Value.ref a]/\args=[WData.list (ns.map WData.int)]/\h.get? a=some {cls:=.type "list",data:=.seq vs.toArray}/\IntsAre vs ns/\ns.length<=n:=by
 have hsh:WShape.hasAll [] args [.list .int]=true:=(pre_splitW hpre).1;have hc:l.pre.holds [] {args:=args}=true:=(pre_splitW hpre).2;obtain⟨d,r,rfl,h1,h2⟩:=hasAllW_cons hsh;obtain rfl:=hasAllW_nil h2;obtain⟨xs,rfl,h3⟩:=hasW_list h1;obtain⟨ns,rfl⟩:=items_int h3;have hlen:ns.length<=n:=by
  unfold OpenLaw.pre at hc;have h4:(WTm.not (.lt (.lit (.int (n:Int))) (.len (.arg 0)))).holds [] {args:=[.list (ns.map .int)]}=true:=by have h4:=(holds_andW hc).1;rw[hn]at h4;exact h4
  have h5:=condW_of h4 (w_not (w_lt w_lit (w_len_list (w_arg rfl))));rw[Ub]at h5;refine Rw λq=>?_;have q':(n:Int)<((ns.length:Nat):Int):=by omega
  first
   | (rw[UB q']at h5;exact absurd h5 (by decide))
   | (simp at h5;omega)
 cases hwl with
 |cons w1 w2=>
  cases w2;cases w1 with
  |list ho hall=>exact⟨_,_,ns,rfl,rfl,ho,QcH ns _ hall,hlen⟩
theorem QiO(l:OpenLaw)(args:List WData):l.row.toRowW.claim.post args (.bool true) args=true:=postW_of (r:=l.row.toRowW) (X:=(true==true))
  (show WShape.has [] (.bool true) .bool=true by first|rfl|decide|simp[WShape.has,WShape.arms,WShape.armsAll])
  (show(WTm.eq .res (.lit (.bool true))).value [] {args:=args,res:=some (.bool true),after:=args}=some (.bool (true==true)) from w_eq_bool (w_res rfl) w_lit) rfl
theorem attach_call{l:OpenLaw}{n:Nat}{q:Program}{loose:List Str}{XP:SOV->Heap->Prop}{YP:World->Heap->Prop}{d:DefRec}(hn:l.most=some n)(hdf:d.params.defaults=[])(call:∀(w:World) (s₀ s₁:Shared) (mg mb:SOV) (fa:Addr) (o:Obj) (pm cd doc:Value) (a:Addr) (vs:List Value) (ns:List Int),Ground q loose [] XP w s₀ mg mb s₁.heap->YP w s₁.heap->s₁.heap.get? fa=some o->o.data=.func (docDef d.name d.params d.body d.scope pm cd doc)->s₁.heap.CodeRec cd d.name->mg d.name=some (.ref fa)->s₁.heap.get? a=some {cls:=.type "list",data:=.seq vs.toArray}->IntsAre vs ns->ns.length<=n->s₁.gens = #[]->codeAny (model l.prog w) callerA (.call (.ref fa) ⟨[.ref a],[]⟩) (λr s'=>r=.ok (.ret (.bool true))/\OldK s₁.heap s'.heap/\s'.os=s₁.os/\AllBare s'.gens) s₁):
  WalkO q loose XP YP l.row.toRowW d [] (λf vs=>PySem.call f vs):=by
 intro w s₀ s₁ mg mb G Y fa o pm cd doc dV kV ho hd hcd hD hmg hg args vals as hpre hlay hrd hwl hlo;obtain rfl:dV=.none:=Dflts.none hD hdf;obtain rfl:kV=.none:=Dflts.noKw hD;obtain⟨a,vs,ns,rfl,rfl,hobj,hints,hlen⟩:=QiN hn hpre hwl;refine enter_call (W7 (call w s₀ s₁ mg mb fa o pm cd doc a vs ns G Y ho (fd_plain hd) hcd hmg hobj hints hlen hg) λr s' hq=>?_);obtain⟨rfl,h2,h3,h4⟩:=hq;exact⟨.inl ⟨.bool true,.bool true,[],rfl,λ_=>rfl,.bool true,QiO l _,λ_=>⟨List.Pairwise.nil,λ_ hm=>(nomatch hm)⟩⟩,h2,h3,h4⟩
end Att
namespace L2
open PySem PySem.Spec PyProof.Rows
theorem QeZ:∀{vs:List Value}{ns:List Int},IntsAre vs ns->Vals (ns.map V.int) vs
 |_,_,.nil=>.nil|_,_,.cons n t h=>.cons ⟨t,rfl⟩ (QeZ h)
def Only(H:Hp):Prop:=∀b,H b=none\/∃o xs,H b=some (.frz o (.lst xs))
theorem Qk6{P:Program}{w:World}{K:Frag}{mg mb:SOV}{CX:CXT}{k:Nat}{fa a:Addr}{fd:FuncData}{x:Str}{sp:Sp}{s₁:Shared}{vs:List Value}{ns:List Int}(KX:K.In s₁.heap)(hns:s₁.heap.Ns mainGlobals mg)(hb:s₁.heap.Ns builtinsNs mb)(hbb:∀x:Str,x ≠"__name__"->mb x=bootBuiltins x)(hlim:s₁.heap.NoLimit)(hg:s₁.gens = #[])(ha:s₁.heap.get? a=some {cls:=.type "list",data:=.seq vs.toArray})(hi:IntsAre vs ns)(hl:ns.length<=sizeLine)(hr:Room k callerA)(F:∀base:Heap,K.In base->base.Ns mainGlobals mg->FnOk P w K mg base CX k fa fd [x] sp)(hbind:∀(s:Shared) (u:Value),BindsTo s fd ⟨[u],[]⟩ [(x,u)])(hsp:∀H:Hp,Only H->SqL K H a (ns.map V.int)->sp [.ref a] H (λv _=>v=.bl true) λ_ _ _=>False)(hCX:∀H e s',CX [] H s₁ (λ_ _ _=>False) e s'->False):
  codeAny (model P w) callerA (.call (.ref fa) ⟨[.ref a],[]⟩) (λr s'=>r=.ok (.ret (.bool true))/\OldK s₁.heap s'.heap/\s'.os=s₁.os/\AllBare s'.gens) s₁:=by
 have rv:=QeZ hi;have lenV:=hi.length
 -- from an abstract heap in which nothing but the script may be tracked
 have core:∀H:Hp,Only H->SqL K H a (ns.map V.int)->HOk P w H s₁.heap->(∀b,H b≠none->b=a)->(H a≠none->K.lookup a=none)->codeAny (model P w) callerA (.call (.ref fa) ⟨[.ref a],[]⟩) (λr s'=>r=.ok (.ret (.bool true))/\OldK s₁.heap s'.heap/\s'.os=s₁.os/\AllBare s'.gens) s₁:=by
  intro H hO hS hok hA hK;have base_of:∀{b:Addr}{o:Obj},s₁.heap.get? b=some o->H b=none->(hidT s₁.heap H).get? b=some o:=λe n=>QkP e n;have noA:∀{b:Addr}{o:Obj}{es:Array DictEntry}{ep:Nat},s₁.heap.get? b=some o->o.data=.dict es ep->H b=none:=λ{b o es ep} e d=>by
   cases q:H b with
   |none=>rfl|some u =>have e':b=a:=hA b (by rw[q];simp);subst e';rw[ha]at e;cases e;have d':Data.seq vs.toArray _=Data.dict es ep:=d;cases d'
  have nsK:∀{b:Addr}{m:SOV},s₁.heap.Ns b m->(hidT s₁.heap H).Ns b m:=λ{b m} ⟨o,es,ep,e,d,r⟩=>⟨o,es,ep,base_of e (noA e d),d,r⟩;have hKb:K.In (hidT s₁.heap H):=λb o e=>base_of (KX b o e) (by
   cases q:H b with
   |none=>rfl|some u =>have e':b=a:=hA b (by rw[q];simp);subst e';rw[hK (by rw[q];simp)]at e;cases e)
  have hM:Mod K mg (hidT s₁.heap H):=⟨hKb,nsK hns,⟨mb,nsK hb,hbb⟩,let ⟨mc,h1,h2⟩:=hlim;⟨mc,nsK h1,h2⟩⟩;have e0:Env0 P w K mg (hidT s₁.heap H) callerA [] s₁ H:=⟨rfl,hM,λb o e=>QmH e,Nat.le_of_eq (Qiu _ _),trivial,λb hb=>absurd (show b∈([]:List Addr) from hb) (by simp),hok,.of_eq hg⟩;refine W7 ((F _ hKb (nsK hns)).run callerA [] s₁ H ⟨[.ref a],[]⟩ [.ref a] [.ref a] _ _ hr e0 (hbind s₁ (.ref a)) (.cons rfl .nil) (hsp H hO hS)) λr s' h=>?_;cases r with
  |error e=>exact(hCX H e s' h).elim|ok fl=>
   cases fl with
   |next=>exact False.elim h|brk=>exact False.elim h|cont=>exact False.elim h|ret u=>
    obtain⟨v,H',os,bare,un,hok',r',q⟩:=h;have q':v=.bl true:=q;subst q';obtain rfl:u=Value.bool true:=r';refine⟨rfl,OldK.of_keep λb o e=>?_,os,bare⟩;cases q:H b with
    |none=>exact un.keep b o e q (by intro z;exact absurd (show b∈([]:List Addr) from z) (by simp)) (by simp)|some u=>
     rcases hO b with z|⟨ob,xs,z⟩
     ·rw[q]at z;cases z
     ·have z2:=un.frzs b ob _ z;obtain⟨e1,_⟩:=hok b _ z;obtain⟨e2,_⟩:=hok' b _ z2;rw[e]at e1;cases e1;exact e2
 cases hk:K.lookup a with
 |some o=>
  -- the script is one of the module's own objects
  have e:=KX a o hk;rw[ha]at e;cases e;refine core (λ_=>none) (λ_=>.inl rfl) (.inr ⟨_,vs.toArray,_,hk,rfl,rfl,rfl,by rw[Ur,lenV];exact hl,by simpa using rv⟩) (λb u z=>by have z':(none:Option HO)=some u:=z;cases z') (λb z=>absurd rfl z) λz=>absurd rfl z
 |none=>
  refine core (λb=>if b=a then some (.frz {cls:=.type "list",data:=.seq vs.toArray} (.lst (ns.map V.int))) else none) (λb=>?_) (.inl (.inr ⟨{cls:=.type "list",data:=.seq vs.toArray},Uj rfl⟩)) (λb u z=>?_) (λb z=>?_) λ_=>hk
  ·by_cases hb:b=a
   ·exact .inr ⟨_,_,Uj hb⟩
   ·exact .inl (Uo hb)
  ·by_cases hb:b=a
   ·have z':=(Uj hb).symm.trans z;cases z';subst hb;exact⟨ha,by rw[Ub];exact hl,vs,_,rv,ha⟩
   ·have z':=(Uo hb).symm.trans z;cases z'
  ·by_cases hb:b=a
   ·exact hb
   ·exact absurd (Uo hb) z
theorem walk_of{l:PySem.W.OpenLaw}{n k:Nat}{q:Program}{loose:List Str}{XP:SOV->Heap->Prop}{YP:World->Heap->Prop}{d:DefRec}{K:Params->Frag}{CX:World->CXT}{sp:World->Sp}{x:Str}(hn:l.most=some n)(hn2:n<=sizeLine)(hdf:d.params.defaults=[])(hr:Room k callerA)(hY:∀(w:World) (h:Heap),YP w h->(K w.params).In h)(F:∀(w:World) (mg:SOV) (fa:Addr) (h:Heap),(K w.params).In h->h.Ns mainGlobals mg->mg d.name=some (.ref fa)->∃fd:FuncData,(∀(s:Shared) (u:Value),BindsTo s fd ⟨[u],[]⟩ [(x,u)])/\∀base:Heap,(K w.params).In base->base.Ns mainGlobals mg->FnOk l.prog w (K w.params) mg base (CX w) k fa fd [x] (sp w))(hsp:∀(w:World) (H:Hp) (a:Addr) (ns:List Int),ns.length<=n->Only H->SqL (K w.params) H a (ns.map V.int)->sp w [.ref a] H (λv _=>v=.bl true) λ_ _ _=>False)(hCX:∀(w:World) (H:Hp) (s:Shared) (e:Value) (s':Shared),CX w [] H s (λ_ _ _=>False) e s'->False):
  PySem.W.WalkO q loose XP YP l.row.toRowW d [] (λf vs=>PySem.call f vs):=by
 refine Att.attach_call hn hdf λw s₀ s₁ mg mb fa o pm cd doc a vs ns G Y ho hd hcd hmg hobj hints hlen hg=>?_;have KX:=hY w _ Y;obtain⟨fd,hb,hF⟩:=F w mg fa _ KX G.T.g hmg;exact Qk6 KX G.T.g G.T.b G.T.builtins G.T.nolimit hg hobj hints (Ue hlen hn2) hr hF hb (λH hO hS=>hsp w H a ns hlen hO hS) λH e s'=>hCX w H s₁ e s'
def YV(s:Stmt)(j:Nat):Stmt:=match s with
 |.ClassDef _ _ _ body _ _ _ _ _ _ _=>body.getD j (.Pass ⟨0,0,0,0⟩)|_=>.Pass ⟨0,0,0,0⟩
def JG(s:Stmt):Arguments:=match s with
 |.FunctionDef _ a _ _ _ _ _ _ _ _=>a|_=>{posonlyargs:=[],args:=[],vararg:=none,kwonlyargs:=[],kw_defaults:=[],kwarg:=none,defaults:=[]}
def YH(s:Stmt):List Stmt:=match s with
 |.FunctionDef _ _ b _ _ _ _ _ _ _=>b|_=>[]
def Qg(s:Stmt):Scope:=match s with
 |.FunctionDef _ _ _ _ _ _ sc _ _ _=>sc|_=>{kind:=.function,names:=[],isGenerator:=false,isCoroutine:=false}
abbrev CX0:CXT:=λ_ _ _ _ _ _=>False
structure Fun(K:Frag)(x qual:Str)(st:Stmt)(f:Addr)(fd:FuncData):Prop where
 ex:∃(oc:Value)(od:Option Addr)(kV doc pm:Value)(an:Option Addr)(cdv ct:Value)(osl:Array (Option Value)),fd=fnOf x qual (JG st) (YH st) (Qg st) .none kV doc pm an cdv ct/\K.lookup f=some ⟨oc,od,.func fd,osl⟩/\codeIn K cdv qual=true
 kp:keepIn K (.ref f)=true
section
variable{P:Program}{w:World}{K:Frag}{mg:SOV}{base:Heap}
theorem Fun.ok{x qual:Str}{st:Stmt}{f:Addr}{fd:FuncData}{N ps:List Str}{k:Nat}{sp:Sp}(F:Fun K x qual st f fd)(S:FnScope N ps (Qg st))(len:∀vs H Q E,sp vs H Q E->vs.length=ps.length)(hbody:∀(cdv:Value) (A:Around) (outer:List Env) (s:Shared) (H:Hp) (vs:List V) (Q:VK) (E:XK),Room k (A.deeper (envOfC qual (Qg st) s.heap.objs.size f cdv))->sp vs H Q E->∃t,PSs (cxOf CX0 P w K mg base N qual (Qg st) f cdv A outer s H E).nox (YH st) t/\t {nx:=λ_ H'=>Q .non H',rt:=Q} (start N vs) H):FnOk P w K mg base CX0 (k+1) f fd ps sp:=by
 obtain⟨oc,od,kV,doc,pm,an,cdv,ct,osl,rfl,lk,hcd⟩:=F.ex;refine QoC lk hcd S len λA outer s H vs Q E hr hsp=>?_;obtain⟨t,h,q⟩:=hbody cdv A outer s H vs Q E hr hsp;exact⟨t,h.nox,q⟩
theorem Fun.binds{x qual:Str}{st:Stmt}{f:Addr}{fd:FuncData}{ps:List Str}(F:Fun K x qual st f fd)(h:∀(kV doc pm:Value) (an:Option Addr) (cdv ct:Value) (us:List Value),us.length=ps.length->bindArgs (fnOf x qual (JG st) (YH st) (Qg st) .none kV doc pm an cdv ct) ⟨us,[]⟩=pure (ps.zip us)):Binds K fd ps []:=by obtain⟨oc,od,kV,doc,pm,an,cdv,ct,osl,rfl,lk,hcd⟩:=F.ex;exact .all (h kV doc pm an cdv ct)
theorem QiP{x qual:Str}{st:Stmt}{f:Addr}{oc:Value}{od an:Option Addr}{osl:Array (Option Value)}{kV doc pm cdv ct:Value}(l:K.lookup f=some ⟨oc,od,.func (fnOf x qual (JG st) (YH st) (Qg st) .none kV doc pm an cdv ct),osl⟩)(c:codeIn K cdv qual=true)(k:keepIn K (.ref f)=true):Fun K x qual st f (fnOf x qual (JG st) (YH st) (Qg st) .none kV doc pm an cdv ct):=⟨⟨oc,od,kV,doc,pm,an,cdv,ct,osl,rfl,l,c⟩,k⟩
end
def Same(H H':Hp):Prop:=∀b o,H b=some o->H' b=some o
theorem Same.refl(H:Hp):Same H H:=λ_ _ h=>h
theorem Same.trans(a:Same H H1)(b:Same H1 H2):Same H H2:=λc o h=>b c o (a c o h)
theorem Same.free(e:Same H H')(h:H' l=Option.none):H l=Option.none:=by
 cases q:H l with
 |none=>rfl|some o =>rw[e l o q]at h;cases h
theorem Same.seq{K:Frag}{H H':Hp}{a:Addr}{xs:List V}(e:Same H H')(h:SqL K H a xs):SqL K H' a xs:=by
 rcases h with(h|⟨o,h⟩)|h
 ·exact .inl (.inl (e _ _ h))
 ·exact .inl (.inr ⟨o,e _ _ h⟩)
 ·exact .inr h
end L2
set_option maxHeartbeats 4000000
namespace NK
open PySem PyProof.Rows
structure VK(prog:Program)(w:World)(K:Type)[DecidableEq K] where
 is:Heap->K->Value->Prop
 hash:K->Int
 draws:K->Nat
 dep:Nat
 inj:∀{h:Heap}{v:Value}{x y:K},is h x v->is h y v->x=y
 keeps:∀{h h':Heap}{k:K}{v:Value},is h k v->(∀b o i n,h.get? b=some o->o.data=.seq i n->h'.get? b=some o)->is h' k v
 pyHash:∀{A:Around}{E:VP}{s:Shared}{k:K}{v:Value}{Q:Int->Shared->Prop},A.units+dep<cLine->is s.heap k v->Q (hash k) {s with toks:=s.toks+draws k}->wpAny (model prog w) A (PySem.pyHash v) Q E s
 eqBool:∀{A:Around}{E:VP}{s:Shared}{x y:K}{u v:Value}{Q:Bool->Shared->Prop},A.units+dep<cLine->is s.heap x u->is s.heap y v->Q (decide (x=y)) s->wpAny (model prog w) A (PySem.eqBool u v) Q E s
 quiet:∀{A:Around}{E:VP}{s:Shared}{k:K}{v:Value}{Q:Bool->Shared->Prop}(n:Nat),dep<=n->is s.heap k v->Q true s->wpAny (model prog w) A (eqIsQuiet n v) Q E s
section
variable{prog:Program}{w:World}{A:Around}{E:VP}{s:Shared}
def intV(prog:Program)(w:World):VK prog w Int where
 is:=λ_ k v=>Value.isInt k v=true
 hash:=hashInt
 draws:=λ_=>1
 dep:=0
 inj:=λhx hy=>(intKind prog w).inj _ _ _ hx hy
 keeps:=λh _=>h
 pyHash:=λ_ hv h=>(intKind prog w).pyHash hv h
 eqBool:=λ_ hu hv h=>(intKind prog w).eqBool hu hv h
 quiet:=λn _ hv h=>by rw[eqIsQuiet_byValue n ((intKind prog w).byValue _ _ hv)];exact Ud h
def Tp(h:Heap)(a:Addr)(us:List Value):Prop:=∃o items n,h.get? a=some o/\o.cls=.type "tuple"/\o.data=.seq items n/\items.toList=us
theorem Tp.typeIs(x:Tp s.heap a us):s.TypeIs (.ref a) "tuple":=let ⟨o,_,_,ho,hc,_⟩:=x;⟨o,ho,hc⟩
theorem Tp.inj(x:Tp h a us)(y:Tp h a vs):us=vs:=by obtain⟨o,i,n,ho,_,hd,rfl⟩:=x;obtain⟨o',i',n',ho',_,hd',rfl⟩:=y;obtain rfl:o=o':=Option.some.inj (ho.symm.trans ho');rw[hd]at hd';injection hd' with h1 _;rw[h1]
theorem Tp.keeps(x:Tp h a us)(k:∀b o i n,h.get? b=some o->o.data=.seq i n->h'.get? b=some o):Tp h' a us:=
 let ⟨o,i,n,ho,hc,hd,e⟩:=x;⟨o,i,n,k a o i n ho hd,hc,hd,e⟩
def Ql4(prog:Program)(w:World)(dep:Nat)(h:Heap)(p:Int×Nat)(v:Value):Prop:=∀{A:Around}{E:VP}{s:Shared}{Q:Int->Shared->Prop},s.heap=h->A.units+dep<cLine->Q p.1 {s with toks:=s.toks+p.2}->wpAny (model prog w) A (PySem.pyHash v) Q E s
inductive Al{α β:Type}(R:α->β->Prop):List α->List β->Prop
 |nil:Al R [] []
 |cons {a:α} {b:β} {as:List α} {bs:List β}:R a b->Al R as bs->Al R (a::as) (b::bs)
theorem Al.len(h:Al R as bs):as.length=bs.length:=by
 induction h with
 |nil=>rfl|cons _ _ ih=>simp[ih]
def sumN(ps:List (Int×Nat)):Nat:=(ps.map (·.2)).sum
theorem QgT{dep:Nat}{a:Addr}{us:List Value}{ps:List (Int×Nat)}{Q:Int->Shared->Prop}(hu:A.units+(dep+1)<cLine)(ht:Tp s.heap a us)(hi:Al (Ql4 prog w dep s.heap) ps us)(h:Q (reduceHash (Builtin.Tuple.tupleHashOf (ps.map (·.1)))) {s with toks:=s.toks+(sumN ps+1)}):wpAny (model prog w) A (PySem.pyHash (.ref a)) Q E s:=by
 have hT:=ht.typeIs;obtain⟨o,items,n,ho,_,hd,rfl⟩:=ht;unfold PySem.pyHash;first|unfold pyHashByItsType|skip
 first|refine Ua (wpAny_cRoomFor_or (.inr (by omega)) ?_)|skip
 refine Ua (Bc hT RS.lookup ?_);show wpAny _ _ (if (some (Value.builtin "tuple.__hash__")==some Value.none)=true then _ else _) Q E s;rw[Uo (by rw[beq_builtin_none];exact Uk)];refine Ua (Bc hT RS.lookup ?_);show wpAny _ _ (callSpecialIfBoundUnlessNone? (.ref a) "__hash__" _ >>= _) Q E s;refine Ua (wpAny_callSpecialIfBoundUnlessNone?_slot hT RS (UX RS hT F.entry_tuple_hash ?_ (F.args_tuple_hash_1 _)));show wpAny _ _ (Builtin.Tuple.tupleItemsOf (.ref a) >>= _) _ _ s;refine Ua (T0 ho hd ?_);refine Ua ?_;rw[<-Array.forIn_toList];refine Rx _
  (λrest (b:Array Int) s'=>∃done left,ps=done++left/\Al (Ql4 prog w dep s.heap) left rest/\b.toList=done.map (·.1)/\s' = {s with toks:=s.toks+sumN done})
  _ ?_ ?_ _ _ ⟨[],ps,rfl,hi,rfl,rfl⟩
 ·rintro x rest b s' ⟨done,left,rfl,hl,hb,rfl⟩;cases hl with
  |@cons p _ ps' _ h1 hl'=>
   refine Ua (h1 rfl (by show A.units+1+dep<cLine;omega) ?_);first
    |exact Ud ⟨done++[p],ps',by simp,hl',by simp[hb],by simp[sumN,Wi]⟩
    |exact Ua (Ud (Ud ⟨done++[p],ps',by simp,hl',by simp[hb],by simp[sumN,Wi]⟩))
 ·rintro b s' ⟨done,left,rfl,hl,hb,rfl⟩;cases hl;rw[Tu]at h;show wpAny _ _ (retInt (Builtin.Tuple.tupleHashOf b.toList)) _ _ _;rw[hb];refine wpAny_ret_mkInt ?_;show wpAny _ _ (if (decide (-(2:Int) ^ 63<=Builtin.Tuple.tupleHashOf (done.map (·.1)))&&decide (Builtin.Tuple.tupleHashOf (done.map (·.1))<2^63))=true then _ else _) Q E _;unfold reduceHash at h;by_cases hr:(decide (-(2:Int) ^ 63<=Builtin.Tuple.tupleHashOf (done.map (·.1)))&&decide (Builtin.Tuple.tupleHashOf (done.map (·.1))<2^63))=true
  ·rw[Uj hr];rw[Uj hr]at h;exact Ud (by simpa[Wi]using h)
  ·rw[Uo hr];rw[Uo hr]at h;exact Ua (Rc (Ud (by simpa[Wi]using h)))
def EqAt(prog:Program)(w:World)(dep:Nat)(h:Heap)(b:Bool)(p:Value×Value):Prop:=∀{A:Around}{E:VP}{s:Shared}{Q:Bool->Shared->Prop},s.heap=h->A.units+dep<cLine->Q b s->wpAny (model prog w) A (PySem.eqBool p.1 p.2) Q E s
theorem Ql5{dep:Nat}{a c:Addr}{us vs:List Value}{bs:List Bool}{r:Bool}{Q:Bool->Shared->Prop}(hu:A.units+(dep+1)<cLine)(hx:Tp s.heap a us)(hy:Tp s.heap c vs)(hi:Al (EqAt prog w dep s.heap) bs (us.zip vs))(hr:r=(bs.all id&&(us.length==vs.length)))(hs:a=c->r=true)(h:Q r s):wpAny (model prog w) A (PySem.eqBool (.ref a) (.ref c)) Q E s:=by
 unfold PySem.eqBool;try with_reducible refine Th ?_
 show wpAny _ _ (if (Value.ref a==Value.ref c)=true then _ else _) Q E s;by_cases hab:(Value.ref a==Value.ref c)=true
 ·rw[Uj hab];have e:a=c:=by have:=eq_of_beq hab;injection this
  rw[hs e]at h;exact Ua (Rc (Ud (by simpa using h)))
 ·rw[Uo hab];have hTa:=hx.typeIs;have hTb:=hy.typeIs;obtain⟨oa,xs,na,hoa,_,hda,rfl⟩:=hx;obtain⟨ob,ys,nb,hob,_,hdb,rfl⟩:=hy;refine Ua (Wu (op:=.Eq) hTa hTb Be (UX Be hTa F.entry_tuple_eq ?_ (F.args_tuple_eq_2 _ _)) (by omega));show wpAny _ _ (isInstance (.ref c) (.type "tuple") >>= _) _ _ s;refine Ua (Wf hTb R0 ?_);simp only[TX,UH,Tq];refine Ua (T0 hoa hda ?_);refine Ua (T0 hob hdb ?_);refine Ua ?_;have fin:wpAny (model prog w) A.in1 (pure (Fin.done (.ret (.bool r)))) (λfin s'=>∃v,fin=.done (.ret v)/\v≠.notImplemented/\wpAny (model prog w) A (truthy v) Q E s') E s:=Ud ⟨_,rfl,(λe=>nomatch e),Td h⟩;refine Rx _
   (λrest q s'=>q.1=none/\s'=s/\∃bs',Al (EqAt prog w dep s.heap) bs' rest/\(bs'.all id&&(xs.toList.length==ys.toList.length))=r)
   _ ?_ ?_ _ _ ⟨rfl,rfl,bs,hi,hr.symm⟩
  ·rintro ⟨u,v⟩ rest q s' ⟨hq,rfl,bs',hb,hdec⟩;cases hb with
   |@cons b1 _ bs'' _ h1 hb'=>
    refine Ua (h1 rfl (by show A.units+1+dep<cLine;omega) ?_);cases b1 with
    |true =>simp only[TX,UH,Tq];exact Ud ⟨rfl,rfl,bs'',hb',by simpa using hdec⟩|false=>
     simp only[WE,RQ];have hf:r=false:=by rw[<-hdec];simp
     rw[hf]at h;exact Ua (Ud (Ud (Ud ⟨_,rfl,(λe=>nomatch e),Td h⟩)))
  ·rintro ⟨r1,r2⟩ s' ⟨hq,rfl,bs',hb,hdec⟩;simp only at hq;subst hq;cases hb;refine Ud ⟨_,rfl,(λe=>nomatch e),Td ?_⟩;have:(xs.size==ys.size)=r:=by simpa using hdec
   rw[this];exact h
theorem Qe0(n:Nat)(ht:Tp s.heap a us)(hi:∀v∈us,∀{A:Around} {E:VP} {Q:Bool->Shared->Prop},Q true s->wpAny (model prog w) A (eqIsQuiet n v) Q E s)(h:Q true s):wpAny (model prog w) A (eqIsQuiet (n+1) (.ref a)) Q E s:=by
 have hT:=ht.typeIs;obtain⟨o,items,k,ho,_,hd,rfl⟩:=ht;unfold eqIsQuiet;refine Ua (Bc hT Be.lookup ?_);show wpAny _ _ (isInstance (.ref a) (.type "tuple") >>= _) _ _ s;refine Ua (Wf hT R0 ?_);simp only[TX,UH,Tq];refine Ua (wpAny_seqItems ho hd ?_);refine Ua ?_;show wpAny _ _ (forIn items _ _) _ _ s;rw[<-Array.forIn_toList];refine Rx _ (λrest r s'=>r.1=none/\s'=s/\∀v∈rest,v∈items.toList) _ ?_ ?_ _ _ ⟨rfl,rfl,λv hv=>hv⟩
 ·rintro v rest r s' ⟨hr,rfl,hall⟩;refine Ua (hi v (hall v Us) ?_);simp only[TX,UH,Tq];exact Ud ⟨rfl,rfl,λu hu'=>hall u (Ut _ hu')⟩
 ·rintro ⟨r1,r2⟩ s' ⟨hr,rfl,_⟩;simp only at hr;subst hr;exact Ud h
theorem Al.map(h:Al R as bs)(g:∀a b,R a b->S (f a) b):Al S (as.map f) bs:=by
 induction h with
 |nil=>exact .nil|cons a _ ih=>exact .cons (g _ _ a) ih
theorem Al.imp(h:Al R as bs)(g:∀a b,R a b->S a b):Al S as bs:=by
 induction h with
 |nil=>exact .nil|cons a _ ih=>exact .cons (g _ _ a) ih
theorem Al.mem(h:Al R as bs):∀b∈bs,∃a,R a b:=by
 induction h with
 |nil=>intro b hb;cases hb|cons a _ ih=>intro b hb;rcases Uv.mp hb with rfl|z;exact⟨_,a⟩;exact ih b z
variable{K:Type}[DecidableEq K]
theorem Ql6{v:VK prog w K}{h:Heap}{x y:List K}{us:List Value}(hx:Al (v.is h) x us)(hy:Al (v.is h) y us):x=y:=by
 induction hx generalizing y with
 |nil=>cases hy;rfl|cons a _ ih=>cases hy with|cons b t=>rw[v.inj a b,ih t]
theorem Qqa{v:VK prog w K}{h:Heap}{x y:List K}{us vs:List Value}(hx:Al (v.is h) x us)(hy:Al (v.is h) y vs):∃bs,Al (EqAt prog w v.dep h) bs (us.zip vs)/\decide (x=y)=(bs.all id&&(us.length==vs.length)):=by
 induction hx generalizing y vs with
 |nil=>cases hy with
  |nil=>exact⟨[],.nil,by simp⟩|cons _ _=>exact⟨[],.nil,by simp⟩
 |@cons k u ks us' a t ih=>cases hy with
  |nil=>exact⟨[],.nil,by simp⟩|@cons k2 u2 ks2 us2 b t2=>
   obtain⟨bs,h1,h2⟩:=ih t2;refine⟨decide (k=k2)::bs,.cons (λ{A E s Q} e hu q=>v.eqBool hu (by rw[e];exact a) (by rw[e];exact b) q) h1,?_⟩;rw[RD,Uy,Uy];by_cases hk:k=k2
   ·by_cases hks:ks=ks2<;>simp[hk,hks]at h2 ⊢ <;> simpa using h2
   ·simp[hk]
def lstV(v:VK prog w K):VK prog w (List K) where
 is:=λh ks u=>∃a us,u=.ref a/\Tp h a us/\Al (v.is h) ks us
 hash:=λks=>reduceHash (Builtin.Tuple.tupleHashOf (ks.map v.hash))
 draws:=λks=>(ks.map v.draws).sum+1
 dep:=v.dep+1
 inj:=λ{h u x y} hx hy=>by obtain⟨a,us,rfl,t1,i1⟩:=hx;obtain⟨b,vs,e,t2,i2⟩:=hy;injection e with e;subst e;obtain rfl:=t1.inj t2;exact Ql6 i1 i2
 keeps:=λ{h h' k u} hx kp=>by obtain⟨a,us,rfl,t1,i1⟩:=hx;exact⟨a,us,rfl,t1.keeps kp,i1.imp λ_ _ q=>v.keeps q kp⟩
 pyHash:=λ{A E s k u Q} hu hx h=>by obtain⟨a,us,rfl,t1,i1⟩:=hx;refine QgT (ps:=k.map λx=>(v.hash x,v.draws x)) hu t1 (i1.map λx y q=>λ{A E s Q} e hu h=>v.pyHash hu (by rw[e];exact q) h) ?_;simpa[sumN,Function.comp_def]using h
 eqBool:=λ{A E s x y u z Q} hu hx hy h=>by obtain⟨a,us,rfl,t1,i1⟩:=hx;obtain⟨b,vs,rfl,t2,i2⟩:=hy;obtain⟨bs,h1,h2⟩:=Qqa i1 i2;refine Ql5 hu t1 t2 h1 h2 (λe=>?_) h;subst e;obtain rfl:=t1.inj t2;exact UB (Ql6 i1 i2)
 quiet:=λ{A E s k u Q} n hn hx h=>by obtain⟨a,us,rfl,t1,i1⟩:=hx;obtain⟨n,rfl⟩:∃j,n=j+1:=⟨n-1,by omega⟩;exact Qe0 n t1 (λv' hv' {A E Q} q=>let ⟨_,hq⟩:=i1.mem v' hv';v.quiet n (by omega) hq q) h
variable{K2 K3:Type}[DecidableEq K2][DecidableEq K3]
theorem up(h:dep<=dep')(hu:A.units+dep'<cLine):A.units+dep<cLine:=by omega
def hk(v:VK prog w K)(hd:v.dep<=8):HeapKind prog w K where
 is:=λh k a=>v.is h k (.ref a)
 hash:=v.hash
 draws:=v.draws
 room:=λA=>A.units+v.dep<cLine
 inj:=λhx hy=>v.inj hx hy
 keeps:=λ{h h' k a d o es ep} hx ho hdat hs=>v.keeps hx λb o' i n hb hq=>(hs.2 b (by rintro rfl;obtain rfl:o'=o:=Option.some.inj (hb.symm.trans ho);rw[hdat]at hq;exact nomatch hq)).trans hb
 pyHash:=λhu hx h=>v.pyHash hu hx h
 eqBool:=λhu hx hy h=>v.eqBool hu hx hy h
 quiet:=λhx h=>v.quiet 8 hd hx h
end
end NK
namespace NK
open PySem PyProof.Rows
section
variable{prog:Program}{w:World}{K:Type}[DecidableEq K]{knd:HeapKind prog w K}{A:Around}{E:VP}{s:Shared}
theorem QoM{d a:Addr}{xs:List (K×Addr×Value)}{k:K}{v:Value}{Q:VP}(hu:knd.room A)(hkey:knd.is s.heap k a)(hm:s.heap.DictOfH knd d xs)(hz:xs.length<=sizeLine)(h1:∀p,atKey xs k=some p->Q p.2 {s with toks:=s.toks+knd.draws k})(h2:atKey xs k=none->∀h',h'.DictOfH knd d (xs++[(k,a,v)])->Heap.SameBut d s.heap h'->Q v {s with heap:=h',toks:=s.toks+knd.draws k}):
  wpAny (model prog w) A (dictSetDefault d (.ref a) v) Q E s:=by
 obtain⟨o,es,ep,ho,hc,hd,he,his,hn⟩:=hm;unfold dictSetDefault;try with_reducible refine Th ?_
 refine Ua (knd.pyHash hu hkey (Ua (wpAny_dictFind_heap (s:={s with toks:=s.toks+knd.draws k}) hu hkey ho hd he his hn ?_ ?_)))
 ·intro hno;have hnot:k∉xs.map (·.1):=not_mem_keys_of_get hno;refine Ua (Rc (Ua (wpAny_updateDictKeys (hz:=by have e:=size_of_entries he;omega) (s:={s with toks:=s.toks+knd.draws k}) ho hd (Ud (h2 (atKey_none_of_get hno) _ ⟨_,_,ep+1,Rq _ ho (Obj.isFreed_of_dict (Obj.data_mapDictKeys hd _)),hc.mapDictKeys _,Obj.data_mapDictKeys hd _,?_,?_,?_⟩ (Re ..))))))
  ·simp[he,entryOfKey]
  ·intro x hx;rcases Uq.mp hx with hx|hx
   ·exact knd.keeps (his x hx) ho hd (Re ..)
   ·rw[Uf.mp hx];exact knd.keeps hkey ho hd (Re ..)
  ·rw[Uz,T7];refine⟨hn,by simp,λx hx y hy e=>hnot ?_⟩;have hy:y=k:=by simpa using hy
   rw[<-hy,<-e];exact hx
 ·intro j p hj;refine Ua (T8 (s:={s with toks:=s.toks+knd.draws k}) ho hd ?_);rw[entry_at he j,hj];exact Ua (Rc (Ud (h1 p (atKey_of_get hn hj))))
theorem meetsSetDef(hd:(d==sysModules)=false)(v:Value):
  MeetsIn prog w (Builtin.«dict.setdefault» ⟨[.ref d,.ref a,v],[]⟩) (λA R s=>knd.room A.in1/\∃k xs,knd.is s.heap k a/\s.heap.DictOfH knd d xs/\xs.length<=sizeLine/\(∀p,atKey xs k=some p->R (.ok (.ret p.2)) {s with toks:=s.toks+knd.draws k})/\(atKey xs k=none->∀h',h'.DictOfH knd d (xs++[(k,a,v)])->Heap.SameBut d s.heap h'->R (.ok (.ret v)) {s with heap:=h',toks:=s.toks+knd.draws k})):=
 .of_wp λA R s ⟨hu,k,xs,hkey,hm,hz,h1,h2⟩=>by unfold Builtin.«dict.setdefault»;refine Ua ?_;unfold Builtin.Dict.keyAndDefault;refine Ua (Rr hm.typeIs ?_);show wpAny _ _ (pure (d,Value.ref a,some v)) _ _ s;refine Ud ?_;show wpAny _ _ (if (d==sysModules)=true then _ else (dictSetDefault d (.ref a) v >>= _)) _ _ s;rw[Uo (by rw[hd];exact Uk)];exact Ua (QoM hu hkey hm hz (λp hp=>Ud ⟨p.2,rfl,h1 p hp⟩) λhn h' hm' hs'=>Ud ⟨v,rfl,h2 hn h' hm' hs'⟩)
end
end NK
namespace NK
open PySem PyProof.Rows
def DE(h:Heap)(d:Addr)(es:Array DictEntry)(ep:Nat):Prop:=∃o,h.get? d=some o/\o.ExactDict/\o.data=.dict es ep
theorem DE.typeIs{s:Shared}{d:Addr}{es:Array DictEntry}{ep:Nat}(x:DE s.heap d es ep):s.TypeIs (.ref d) "dict":=let ⟨o,ho,hc,_⟩:=x;⟨o,ho,hc.1⟩
section
variable{prog:Program}{w:World}{A:Around}{E:VP}{s:Shared}
def itIs(b:Bool)(h:Heap)(it d:Addr)(i n ep:Nat):Prop:=if b=true then h.IsValIter it d i n ep else h.IsKeyIter it d i n ep
theorem next_item(b:Bool){it d:Addr}{i ep:Nat}{es:Array DictEntry}{Q:Option Value->Shared->Prop}(hit:itIs b s.heap it d i es.size ep)(hm:DE s.heap d es ep)(hi:i<es.size)(hQ:∀h',itIs b h' it d (i+1) es.size ep->Heap.SameBut it s.heap h'->Q (some (if b=true then es[i].val else es[i].key)) {s with heap:=h'}):wpAny (model prog w) A (pyNext (.ref it)) Q E s:=by
 cases b;all_goals
  obtain⟨o,ho,hc,hd⟩:=id hit;obtain⟨od,hod,_,hdd⟩:=hm;have hT:s.TypeIs (.ref it) _:=⟨o,ho,hc⟩;have ow1:Builtin.Dict_items.ownsTuple "dict_keyiterator"=false:=by decide
  have ow2:Builtin.Dict_items.ownsTuple "dict_valueiterator"=false:=by decide
  have upd:∃o',(s.heap.update it (Obj.mapFields (·.setIfInBounds 1 (rawInt ((i:Int)+1))))).get? it=some o'/\o'.cls=_/\o'.data=.fields #[.ref d,.int ((i+1:Nat):Int) 0,.int es.size 0,.int ep 0]:=⟨_,Rq _ ho (Obj.isFreed_of_fields (RF hd _)),(Obj.cls_mapFields ..).trans hc,by rw[RF hd];simp[rawInt]⟩
  have uT:({s with heap:=s.heap.update it (Obj.mapFields (·.setIfInBounds 1 (rawInt ((i:Int)+1))))}:Shared).TypeIs (.ref it) _:=let ⟨o',a,c,_⟩:=upd;⟨o',a,c⟩;unfold pyNext;first
   |refine Ua (Wj (Te (name:=Str.ofString "__next__") hT Tj (UX Tj hT Wg ?_ (Wd _))))
   |refine Ua (Wj (Te (name:=Str.ofString "__next__") hT Tg (UX Tg hT RX ?_ (RO _))))
  refine Ua (Ud (Ua (Ua ?_)));first|refine Ua (TC hT (Ud ?_))|refine Ua (TD hT (Ud ?_))
  refine Ua (wpAny_fieldsOf ho hd ?_);simp only[ow1,ow2,UH,Tq];show wpAny _ _ (if (Value.ref d==Value.none)=true then _ else _) _ _ s;rw[Uo (show ¬((Value.ref d==Value.none)=true) from Uk)];refine Ua (Ud (Ua (T8 hod hdd ?_)));rw[Uo (by simp)];refine Ua (Ud (Ua (Wn hod hdd ?_)));rw[Uo (by simp)];refine Ud ?_;simp only[show ¬((i:Int)<0) from by omega,Tq,T9,Array.getElem?_eq_getElem hi];refine Ua ?_;first|refine Ua (TC hT (Ud ?_))|refine Ua (TD hT (Ud ?_))
  first|refine Ua (wpAny_isOneOf_keyiter hT ?_)|refine Ua (Wa hT ?_)
  show wpAny _ _ (setField (.ref it) 1 (rawInt ((i:Int)+1)) >>= _) _ _ s;refine Ua (RU ho hd (by simp) (Ua (Th ?_)));first
   | (refine Ua (Wa uT ?_);refine Ua (Wa uT ?_))
   |refine Ua (wpAny_isOneOf_keyiter uT ?_)
  first|show wpAny _ _ (pure es[i].key) _ _ _|show wpAny _ _ (pure es[i].val) _ _ _
  exact Ud (Ud ⟨_,rfl,Ud (hQ _ upd (Re ..))⟩)
theorem next_end(b:Bool){it d:Addr}{i ep:Nat}{es:Array DictEntry}{Q:Option Value->Shared->Prop}(hh:A.handled=none)(hit:itIs b s.heap it d i es.size ep)(hm:DE s.heap d es ep)(hi:es.size<=i)(hQ:∀h',Heap.ExtBut it s.heap h'->Q none {s with heap:=h'}):wpAny (model prog w) A (pyNext (.ref it)) Q E s:=by
 cases b;all_goals
  obtain⟨o,ho,hc,hd⟩:=id hit;obtain⟨od,hod,_,hdd⟩:=hm;have hT:s.TypeIs (.ref it) _:=⟨o,ho,hc⟩;have ow1:Builtin.Dict_items.ownsTuple "dict_keyiterator"=false:=by decide
  have ow2:Builtin.Dict_items.ownsTuple "dict_valueiterator"=false:=by decide
  unfold pyNext;first
   |refine Ua (Wj (Te (name:=Str.ofString "__next__") hT Tj (UX Tj hT Wg ?_ (Wd _))))
   |refine Ua (Wj (Te (name:=Str.ofString "__next__") hT Tg (UX Tg hT RX ?_ (RO _))))
  refine Ua (Ud (Ua (Ua ?_)));first|refine Ua (TC hT (Ud ?_))|refine Ua (TD hT (Ud ?_))
  refine Ua (wpAny_fieldsOf ho hd ?_);simp only[ow1,ow2,UH,Tq];show wpAny _ _ (if (Value.ref d==Value.none)=true then _ else _) _ _ s;rw[Uo (show ¬((Value.ref d==Value.none)=true) from Uk)];refine Ua (Ud (Ua (T8 hod hdd ?_)));rw[Uo (by simp)];refine Ua (Ud (Ua (Wn hod hdd ?_)));rw[Uo (by simp)];refine Ud ?_;simp only[show ¬((i:Int)<0) from by omega,Tq,T9,W4 hi];refine Ua ?_;first|refine Ua (TC hT (Ud ?_))|refine Ua (TD hT (Ud ?_))
  show wpAny _ _ (setField (.ref it) 0 .none >>= _) _ _ s;refine Ua (RU ho hd (by simp) ?_);show wpAny _ _ (newExc (.type "StopIteration") [] >>= _) _ _ _;simp only[newExc,newTuple];refine Ua (Ua (UZ (Ua (m:=firstArgMember _ _) (wpAny_of_eq (a:=Value.none) (by first|rfl|(simp only[firstArgMember];rfl)) (UZ ?_ (by size_fits)))) (by size_fits)));simp only[raiseNew];refine Ua (wpAny_handled ?_);rw[show A.in1.handled=none from hh];refine Ua (Ud (wpAny_throw ?_));refine Ua (Wf (T:="StopIteration") (b:=true) ⟨_,UA _ rfl,rfl⟩ isSubtype_stop ?_);exact Ud (hQ _ (((Re ..).extBut.push _).push _))
theorem iterK{d:Addr}{es:Array DictEntry}{ep:Nat}{Q:VP}(hs:(d==sysModules)=false)(hm:DE s.heap d es ep)(hQ:Q (.ref s.heap.objs.size) {s with heap:=s.heap.push {cls:=.type "dict_keyiterator",data:=.fields #[.ref d,.int 0 0,.int es.size 0,.int ep 0]} }):wpAny (model prog w) A (pyIter (.ref d)) Q E s:=by have hT:=hm.typeIs;obtain⟨o,ho,_,hd⟩:=hm;refine wpAny_pyIter_slot hT F.slot_dict_iter (UX F.slot_dict_iter hT F.entry_dict_iter ?_ (F.args_dict_iter_1 _));unfold Builtin.«dict.__iter__» Builtin.Dict.dictSlotNone;refine Ua (Ua (Rr hT ?_));show wpAny _ _ (pure (Value.ref d)) _ _ s;refine Ud ?_;show wpAny _ _ (Builtin.Dict.showsAll d >>= _) _ _ s;unfold Builtin.Dict.showsAll;rw[Uo (by rw[hs];exact Uk)];refine Ua (Ud (Ua (T8 ho hd (Ua (Wn ho hd (Ua (UZ (Ud ⟨_,rfl, "dict_keyiterator",_,⟨_,UA _ rfl,rfl⟩,Tj.lookup,?_⟩))))))));simpa[rawInt]using hQ
theorem valuesK{d:Addr}(hs:(d==sysModules)=false):MeetsIn prog w (Builtin.«dict.values» ⟨[.ref d],[]⟩) (λ_ R s=>(∃es ep,DE s.heap d es ep)/\R (.ok (.ret (.ref s.heap.objs.size))) {s with heap:=s.heap.push {cls:=.type "dict_values",data:=.fields #[.ref d]} }):=
 .of_wp λA R s ⟨⟨es,ep,hm⟩,h⟩=>by refine Ua ?_;unfold Builtin.Dict.noArgs;refine Ua (Rr hm.typeIs ?_);show wpAny _ _ (pure d) _ _ s;refine Ud ?_;show wpAny _ _ (Builtin.Dict.showsAll d >>= _) _ _ s;unfold Builtin.Dict.showsAll;rw[Uo (by rw[hs];exact Uk)];exact Ua (Ud (Ua (UZ (Ud ⟨_,rfl,h⟩))))
theorem iterV{v d:Addr}{es:Array DictEntry}{ep:Nat}{Q:VP}(hv:s.heap.IsValuesView v d)(hm:DE s.heap d es ep)(hQ:Q (.ref s.heap.objs.size) {s with heap:=s.heap.push {cls:=.type "dict_valueiterator",data:=.fields #[.ref d,.int 0 0,.int es.size 0,.int ep 0]} }):wpAny (model prog w) A (pyIter (.ref v)) Q E s:=by
 obtain⟨ov,hov,_,hdv⟩:=id hv;obtain⟨o,ho,_,hd⟩:=hm;have own:Builtin.Dict_items.ownsTuple "dict_valueiterator"=false:=by decide
 refine wpAny_pyIter_slot hv.typeIs F.slot_dict_values_iter (UX F.slot_dict_values_iter hv.typeIs F.entry_dict_values_iter ?_ (F.args_dict_values_iter_1 _));unfold Builtin.«dict_values.__iter__» Builtin.Dict_items.dictOf Builtin.Dict_items.newIterator;refine Ua (Ud (Ua (Ua (Rb hov hdv (x:=.ref d) rfl (Ud (Ua (Ua (T8 ho hd (Ua (Wn ho hd ?_))))))))));simp only[own,UH,Tq];refine UZ (Ud ⟨_,rfl, "dict_valueiterator",_,⟨_,UA _ rfl,rfl⟩,Tg.lookup,?_⟩);simpa[rawInt]using hQ
end
end NK
namespace NK
open PySem PyProof.Rows
section
variable{prog:Program}{w:World}{A:Around}{E:VP}{s:Shared}
def QhQ(prog:Program)(w:World)(dep:Nat)(h:Heap)(o:Option Bool)(p:Value×Value):Prop:=∀{A:Around}{E:VP}{s:Shared},s.heap=h->A.units+dep<cLine->(∀{Q:Bool->Shared->Prop},Q o.isNone s->wpAny (model prog w) A (PySem.eqBool p.1 p.2) Q E s)/\∀r,o=some r->∀{Q:VP},Q (.bool r) s->wpAny (model prog w) A (PySem.richCompare .Lt p.1 p.2) Q E s
def lexO(z:Bool):List (Option Bool)->Bool
 |[]=>z|none::r=>lexO z r|some b::_=>b
theorem Ql7{dep:Nat}{a c:Addr}{us vs:List Value}{os:List (Option Bool)}{Q:VP}(hu:A.units+(dep+1)<cLine)(hx:Tp s.heap a us)(hy:Tp s.heap c vs)(hi:Al (QhQ prog w dep s.heap) os (us.zip vs))(h:Q (.bool (lexO (decide (us.length<vs.length)) os)) s):wpAny (model prog w) A (PySem.richCompare .Lt (.ref a) (.ref c)) Q E s:=by
 have hTa:=hx.typeIs;have hTb:=hy.typeIs;obtain⟨oa,xs,na,hoa,_,hda,rfl⟩:=hx;obtain⟨ob,ys,nb,hob,_,hdb,rfl⟩:=hy;refine Wu (op:=.Lt) hTa hTb F.slot_tuple_lt (UX F.slot_tuple_lt hTa F.entry_tuple_lt ?_ (F.args_tuple_lt_2 _ _)) (by omega);show wpAny _ _ (isInstance (.ref c) (.type "tuple") >>= _) _ _ s;refine Ua (Wf hTb R0 ?_);simp only[TX,UH,Tq];refine Ua (T0 hoa hda ?_);refine Ua (T0 hob hdb ?_);refine Ua ?_;refine Rx _
  (λrest q s'=>q.1=none/\s'=s/\∃os',Al (QhQ prog w dep s.heap) os' rest/\lexO (decide (xs.toList.length<ys.toList.length)) os'=lexO (decide (xs.toList.length<ys.toList.length)) os)
  _ ?_ ?_ _ _ ⟨rfl,rfl,os,hi,rfl⟩
 ·rintro ⟨u,v⟩ rest q s' ⟨hq,rfl,os',hb,hdec⟩;cases hb with
  |@cons o1 _ os'' _ h1 hb'=>
   obtain⟨he,hl⟩:=h1 (A:=A.in1) (E:=E) (s:=s') rfl (by show A.units+1+dep<cLine;omega);refine Ua (he ?_);cases o1 with
   |none =>simp only[Option.isNone_none,TX,UH,Tq];exact Ud ⟨rfl,rfl,os'',hb',hdec⟩|some r =>simp only[Option.isNone_some,WE,RQ];have hf:lexO (decide (xs.toList.length<ys.toList.length)) os=r:=hdec.symm;rw[hf]at h;refine Ua (Rc ?_);refine Ua (hl r rfl ?_);exact Ua (Ud (Ud (Ud ⟨_,rfl,(λe=>nomatch e),h⟩)))
 ·rintro ⟨r1,r2⟩ s' ⟨hq,rfl,os',hb,hdec⟩;simp only at hq;subst hq;cases hb;refine Ud ⟨_,rfl,(λe=>nomatch e),?_⟩;have e:lexO (decide (xs.toList.length<ys.toList.length)) os=decide (xs.size<ys.size):=by rw[<-hdec];simp[lexO]
  rw[e]at h;exact h
end
end NK
namespace NK
open PySem PyProof.Rows
abbrev tuples'(b:Bool):SortKind:=(sortPriv% PySem.Builtin.KeyKind.tuples) b
theorem Qd1(b:Bool)(x y:Value):keyLt' (tuples' b) x y=(do
  let xs <-Builtin.List.listItems x;let ys <-Builtin.List.listItems y
  for ((p,q),i) in (xs.toList.zip ys.toList).zipIdx do
   if !(<-eqBool p q) then return <-oneLt' (b&&i==0) p q
  return xs.size<ys.size):=rfl
section
variable{prog:Program}{w:World}{A:Around}{E:VP}{s:Shared}
theorem QfW(hl:∀{Q:VP},Q (.bool r) s->wpAny (model prog w) A (PySem.richCompare .Lt u v) Q E s)(h:Q r s):wpAny (model prog w) A (oneLt' false u v) Q E s:=by rw[oneLt'_eq];simp only[UH,Tq];exact Ua (hl (Td h))
theorem Qe1{dep:Nat}{a c:Addr}{us vs:List Value}{os:List (Option Bool)}{b:Bool}{Q:Bool->Shared->Prop}(hu:A.units+dep<cLine)(hx:Tp s.heap a us)(hy:Tp s.heap c vs)(hi:Al (QhQ prog w dep s.heap) os (us.zip vs))(hb:b=true->∀u v r,(us.zip vs).head?=some (u,v)->os.head?=some (some r)->∀{Q:Bool->Shared->Prop},Q r s->wpAny (model prog w) A (oneLt' true u v) Q E s)(h:Q (lexO (decide (us.length<vs.length)) os) s):wpAny (model prog w) A (keyLt' (tuples' b) (.ref a) (.ref c)) Q E s:=by
 obtain⟨oa,xs,na,hoa,_,hda,rfl⟩:=hx;obtain⟨ob,ys,nb,hob,_,hdb,rfl⟩:=hy;rw[Qd1];refine Ua (listItems_at hoa hda ?_);refine Ua (listItems_at hob hdb ?_);refine Ua ?_;refine Rx _
  (λrest q s'=>q.1=none/\s'=s/\∃(j:Nat)(L:List (Value×Value))(os':List (Option Bool)),rest=L.zipIdx j/\Al (QhQ prog w dep s.heap) os' L/\lexO (decide (xs.toList.length<ys.toList.length)) os'=lexO (decide (xs.toList.length<ys.toList.length)) os/\(j=0->L=xs.toList.zip ys.toList/\os'=os))
  _ ?_ ?_ _ _ ⟨rfl,rfl,0,_,os,rfl,hi,rfl,λ_=>⟨rfl,rfl⟩⟩
 ·rintro ⟨⟨u,v⟩,i⟩ rest q s' ⟨hq,rfl,j,L,os',hL,hal,hdec,hj⟩;cases hal with
  |nil=>cases hL|@cons o1 p os'' L' h1 hb'=>
   rw[List.zipIdx_cons]at hL;injection hL with e1 e2;injection e1 with e3 e4;subst e3 e4 e2;obtain⟨he,hl⟩:=h1 (A:=A) (E:=E) (s:=s') rfl hu;refine Ua (he ?_);cases o1 with
   |none =>simp only[Option.isNone_none,TX,UH,Tq];exact Ud ⟨rfl,rfl,i+1,L',os'',rfl,hb',hdec,λz=>absurd z (Nat.succ_ne_zero _)⟩|some r=>
    simp only[Option.isNone_some,WE,RQ];have hf:lexO (decide (xs.toList.length<ys.toList.length)) os=r:=hdec.symm;rw[hf]at h;have key:wpAny (model prog w) A (oneLt' (b&&i==0) u v) (λr' s2=>r'=r/\s2=s') E s':=by
     cases hbz:(b&&i==0) with
     |false=>exact QfW (hl r rfl) ⟨rfl,rfl⟩|true =>rw[US]at hbz;obtain⟨q1,q2⟩:=hj (by simpa using hbz.2);exact hb hbz.1 u v r (by rw[<-q1];rfl) (by rw[<-q2];rfl) ⟨rfl,rfl⟩
    refine Ua (Tf key (λr' s2 z=>?_) λ_ _ e=>e);obtain⟨rfl,rfl⟩:=z;exact Ud (Ud h)
 ·rintro ⟨r1,r2⟩ s' ⟨hq,rfl,j,L,os',hL,hal,hdec,hj⟩;simp only at hq;subst hq;cases hal with
  |cons _ _=>rw[List.zipIdx_cons]at hL;cases hL|nil=>
   have e:lexO (decide (xs.toList.length<ys.toList.length)) os=decide (xs.size<ys.size):=by rw[<-hdec];simp[lexO]
   rw[e]at h;exact Ud h
end
end NK
namespace NZ
open PySem PyProof.Rows
structure Base(kd:SortKind)(a₀:Array Keyed)(st:SortSt):Prop where
 perm:(arrOf st).Perm a₀
 kind:kindOf st=kd
 failed:failedOf st=none
 pend:pendingOf st = #[]
noncomputable def kr(rk:Value->Int)(xs:Array Keyed)(i:Nat):Int:=match xs[i]? with
 |some p=>rk p.1|none=>0
def Up(rk:Value->Int)(xs:Array Keyed)(k:Nat):Prop:=∀i j,i<=j->j<k->kr rk xs i<=kr rk xs j
def Dn(rk:Value->Int)(xs:Array Keyed)(k:Nat):Prop:=∀i j,i<=j->j<k->kr rk xs j<=kr rk xs i
theorem QoN{rk:Value->Int}{xs ys:Array Keyed}{i j:Nat}(h:xs[i]?=ys[j]?):kr rk xs i=kr rk ys j:=by unfold kr;rw[h]
section
variable{prog:Program}{w:World}{A:Around}{E:VP}{s:Shared}{kd:SortKind}{a₀:Array Keyed}{rk:Value->Int}{st:SortSt}
theorem Base.size(h:Base kd a₀ st):(arrOf st).size=a₀.size:=h.perm.size_eq
theorem Base.set(h:Base kd a₀ st){xs:Array Keyed}(hp:xs.Perm (arrOf st)):Base kd a₀ (setArr st xs):=⟨hp.trans h.perm,h.kind,h.failed,h.pend⟩
structure Ord(prog:Program)(w:World)(A:Around)(s:Shared)(kd:SortKind)(rk:Value->Int)(a₀:Array Keyed):Prop where
 lt:∀p q,p∈a₀.toList->q∈a₀.toList->∀{E:VP}{Q:Bool->Shared->Prop},Q (decide (rk p.1<rk q.1)) s->wpAny (model prog w) A (keyLt' kd p.1 q.1) Q E s
 ne:(a₀.toList.map λp=>rk p.1).Nodup
theorem Base.at'(h:Base kd a₀ st){i:Nat}(hi:i<a₀.size):∃p,(arrOf st)[i]?=some p/\p∈a₀.toList/\kr rk (arrOf st) i=rk p.1:=by
 have hi':i<(arrOf st).size:=by rw[h.size];exact hi
 refine⟨(arrOf st)[i],RY _ i hi',(TZ.mp h.perm).mem_iff.mp (by simp),?_⟩;unfold kr;rw[RY _ i hi']
theorem Base.differ(h:Base kd a₀ st)(O:Ord prog w A s kd rk a₀){i j:Nat}(hij:i<j)(hj:j<a₀.size):kr rk (arrOf st) i≠kr rk (arrOf st) j:=by
 have hn:((arrOf st).toList.map λp=>rk p.1).Nodup:=(((TZ.mp h.perm).map _).nodup_iff).mpr O.ne;have hs:((arrOf st).toList.map λp=>rk p.1).length=a₀.size:=by rw[Ub,Ta,h.size]
 have hi':i<(arrOf st).size:=by rw[h.size];omega
 have hj':j<(arrOf st).size:=by rw[h.size];exact hj
 have:=Ry.mp hn i j (by omega) (by omega) hij;unfold kr;rw[RY _ i hi',RY _ j hj'];simpa using this
theorem QiQ{i j:Nat}{Q:Option Bool->SortSt->Prop}(hB:Base kd a₀ st)(O:Ord prog w A s kd rk a₀)(hi:i<a₀.size)(hj:j<a₀.size)(h:Q (some (decide (kr rk (arrOf st) i<kr rk (arrOf st) j))) st):wpS (model prog w) A E s (ltAt' i j) Q st:=by obtain⟨p,e1,m1,k1⟩:=hB.at' (rk:=rk) hi;obtain⟨q,e2,m2,k2⟩:=hB.at' (rk:=rk) hj;rw[k1,k2]at h;rw[ltAt'_eq];refine U7 (wpS_get ?_);show wpS _ _ _ _ (do let x <-elem' (arrOf st) i;let y <-elem' (arrOf st) j;lt' x y) Q st;rw[elem'_eq,elem'_eq,e1,e2];refine U7 (Tv (U7 (Tv ?_)));rw[lt'_eq];refine U7 (wpS_get ?_);rw[hB.kind];exact U7 (wpS_lift (Wj (O.lt p q m1 m2 ⟨rfl,Tv h⟩)))
theorem QoO(xs:Array Keyed):Up rk xs 1:=λi j h1 h2=>by
 have:i=j:=by omega
 subst this;exact RN _
theorem asc{a nrem:Nat}{Q:AscSt->SortSt->Prop}(O:Ord prog w A s kd rk a₀)(hn:nrem<=a₀.size)(ha:1<=a)(han:a<=nrem)(hB:Base kd a₀ st)(hs:Up rk (arrOf st) a)(h:∀n,a<=n->n<=nrem->Up rk (arrOf st) n->(n=nrem\/kr rk (arrOf st) n<kr rk (arrOf st) (n-1))->Q (none,n) st):wpS (model prog w) A E s (ascLoop a nrem) Q st:=by
 unfold ascLoop;refine RZ (I:=λi c st'=>st'=st/\c=(none,i)/\Up rk (arrOf st) i) ?_ ?_ ⟨rfl,rfl,hs⟩
 ·rintro i c st' h1 h2 ⟨rfl,rfl,hu⟩;refine U7 (QiQ (rk:=rk) hB O (by omega) (by omega) ?_);dsimp only;by_cases z:kr rk (arrOf st') i<kr rk (arrOf st') (i-1)
  ·rw[UB z];exact Tv (h i h1 (by omega) hu (.inr z))
  ·rw[Uu z];refine Tv ⟨rfl,rfl,λx y hxy hy=>?_⟩;by_cases e:y=i
   ·subst e;by_cases e2:x=y
    ·subst e2;exact RN _
    ·have:=hu x (y-1) (by omega) (by omega);omega
   ·exact hu x y hxy (by omega)
 ·rintro c st' ⟨rfl,rfl,hu⟩;rw[Nat.max_eq_right han]at hu ⊢;exact h nrem han (Um _) hu (.inl rfl)
theorem desc{nrem:Nat}{Q:DescSt->SortSt->Prop}(O:Ord prog w A s kd rk a₀)(hn:nrem<=a₀.size)(h2:2<=nrem)(hB:Base kd a₀ st)(hs:Dn rk (arrOf st) 2)(h:∀n,2<=n->n<=nrem->Dn rk (arrOf st) n->Q (none,n,0) st):wpS (model prog w) A E s (descLoop 2 nrem) Q st:=by
 unfold descLoop;refine RZ (I:=λi c st'=>st'=st/\c=(none,i,0)/\Dn rk (arrOf st) i) ?_ ?_ ⟨rfl,rfl,hs⟩
 ·rintro i c st' h1 h2 ⟨rfl,rfl,hu⟩;refine U7 (QiQ (rk:=rk) (i:=i) (j:=i-1) hB O (by omega) (by omega) ?_);dsimp only;by_cases z:kr rk (arrOf st') i<kr rk (arrOf st') (i-1)
  ·rw[UB z,Uj rfl,Uo (by omega)];refine Tv ⟨rfl,rfl,λx y hxy hy=>?_⟩;by_cases e:y=i
   ·subst e;by_cases e2:x=y
    ·subst e2;exact RN _
    ·have:=hu x (y-1) (by omega) (by omega);omega
   ·exact hu x y hxy (by omega)
  ·rw[Uu z,Uo Uk];refine U7 (QiQ (rk:=rk) hB O (by omega) (by omega) ?_);have hd:=hB.differ O (show i-1<i by omega) (by omega);dsimp only;rw[UB (show kr rk (arrOf st') (i-1)<kr rk (arrOf st') i by omega),Uj rfl];exact Tv (h i h1 (by omega) hu)
 ·rintro c st' ⟨rfl,rfl,hu⟩;rw[Nat.max_eq_right h2]at hu ⊢;exact h nrem h2 (Um _) hu
theorem Qe2{xs:Array Keyed}{j:Nat}(hj:j<=xs.size)(k:Nat)(hk:k<j):kr rk (mirror xs 0 j ((j-0) / 2)) k=kr rk xs (j-1-k):=by have e:=getElem?_mirror_all (i:=0) hj k;rw[Uj ⟨RM _,hk⟩]at e;rw[QoN e];congr 1;omega
theorem count{nrem:Nat}{Q:Option Nat->SortSt->Prop}(O:Ord prog w A s kd rk a₀)(hn:nrem<=a₀.size)(h1:1<=nrem)(hB:Base kd a₀ st)(h:∀m st',Base kd a₀ st'->1<=m->m<=nrem->Up rk (arrOf st') m->Q (some m) st'):wpS (model prog w) A E s (countRun' 0 nrem) Q st:=by
 rw[countRun0_eq];refine U7 (asc O hn (Um 1) h1 hB (QoO _) λn b1 b2 b3 b4=>?_);dsimp only;by_cases e:n=nrem
 ·rw[Uj (by simpa using e)];exact Tv (h n st hB b1 b2 b3)
 ·rw[Uo (by simpa using e)];have hlt:=b4.resolve_left e;by_cases g:n>1
  ·rw[Uj g];refine U7 (QiQ (rk:=rk) hB O (by omega) (by omega) ?_);have hd:=hB.differ O (show 0<n-1 by omega) (by omega);have hle:=b3 0 (n-1) (by omega) (by omega);dsimp only;rw[UB (show kr rk (arrOf st) 0<kr rk (arrOf st) (n-1) by omega),Uj rfl];exact Tv (h n st hB b1 b2 b3)
  ·rw[Uo g];have e1:n=1:=by omega
   subst e1;unfold descPart;refine U7 (wpS_lift (Rc ⟨rfl,?_⟩));refine U7 (desc O hn (by omega) hB (λi j hij hj=>?_) λn c1 c2 c3=>?_)
   ·by_cases z:i=j
    ·subst z;exact RN _
    ·have a1:i=0:=by omega
     have a2:j=1:=by omega
     subst a1 a2;exact Int.le_of_lt hlt
   ·dsimp only;rw[Uo (by omega)];unfold tail3;have hsz:n<=(arrOf st).size:=by rw[hB.size];omega
    refine U7 (wpS_reverse ?_);refine U7 (asc O hn (by omega) c2 (hB.set (mirror_perm _ _ _ _)) (λi j hij hj=>?_) λm d1 d2 d3 _=>?_)
    ·show kr rk (mirror (arrOf st) 0 n ((n-0) / 2)) i<=kr rk (mirror (arrOf st) 0 n ((n-0) / 2)) j;rw[Qe2 hsz i (by omega),Qe2 hsz j (by omega)];exact c3 _ _ (by omega) (by omega)
    ·exact Tv (h m _ (hB.set (mirror_perm _ _ _ _)) (by omega) d2 d3)
theorem Qe3{xs:Array Keyed}{src d:Nat}(hs:src<xs.size)(hd:d<=src)(k:Nat):kr rk (bubble xs src d) k=if k=src-d then kr rk xs src else if src-d<k/\k<=src then kr rk xs (k-1) else kr rk xs k:=by
 have e:=getElem?_bubble hs d hd k
 repeat' split
 all_goals (first|rw[Uj (by assumption)]at e|(rw[Uo (by assumption)]at e;first|rw[Uj (by assumption)]at e|rw[Uo (by assumption)]at e))
 all_goals exact QoN e
theorem insert{n ok:Nat}{Q:Bool->SortSt->Prop}(O:Ord prog w A s kd rk a₀)(hn:n<=a₀.size)(hok:ok<=n)(h1:1<=ok)(hB:Base kd a₀ st)(hs:Up rk (arrOf st) ok)(h:∀st',Base kd a₀ st'->Up rk (arrOf st') n->Q true st'):wpS (model prog w) A E s (binarySort' 0 n ok) Q st:=by
 rw[binarySort'_eq];simp only[Nat.zero_add];refine U7 (wpS_mono (RZ (I:=λk c st'=>c=(none,())/\Base kd a₀ st'/\Up rk (arrOf st') (min k n)) (Q:=λc st'=>c=(none,())/\Base kd a₀ st'/\Up rk (arrOf st') n) ?step ?fin ⟨rfl,hB,?init⟩) ?post);case post =>rintro c st' ⟨rfl,hB',hs'⟩;exact Tv (h st' hB' hs')
 case init=>rw[Nat.max_eq_left h1,Nat.min_eq_left hok];exact hs
 case fin =>rintro c st' ⟨hc,hB',hs'⟩;refine⟨hc,hB',?_⟩;rwa[show min (max (max ok 1) n) n=n by omega]at hs'
 case step=>
  rintro k c st' hak hkn ⟨rfl,hB',hs'⟩;rw[show min k n=k by omega]at hs';refine U7 (wpS_mono (RZ (I:=λx c st2=>st2=st'/\∃l r,c=(none,l,r)/\l<=r/\r<=k/\r-l<=k-x/\(∀i,i<l->kr rk (arrOf st') i<=kr rk (arrOf st') k)/\∀i,r<=i->i<k->kr rk (arrOf st') k<kr rk (arrOf st') i)
   (Q:=λc st2=>st2=st'/\∃l r,c=(none,l,r)/\l<=k/\(∀i,i<l->kr rk (arrOf st') i<=kr rk (arrOf st') k)/\∀i,l<=i->i<k->kr rk (arrOf st') k<kr rk (arrOf st') i) ?istep ?ifin ⟨rfl,0,k,rfl,by omega,by omega,by omega,λi hi=>by omega,λi p1 p2=>by omega⟩) ?ipost)
  case ifin =>rintro c st2 ⟨rfl,l,r,rfl,q1,q2,q3,q4,q5⟩;exact⟨rfl,l,r,rfl,by omega,q4,λi p1 p2=>q5 i (by omega) p2⟩
  case istep=>
   rintro x c st2 _ hx ⟨rfl,l,r,rfl,q1,q2,q3,q4,q5⟩;dsimp only;by_cases hge:l>=r
   ·rw[Uj hge];exact Tv ⟨rfl,l,r,rfl,by omega,q4,λi p1 p2=>q5 i (by omega) p2⟩
   ·rw[Uo hge];refine U7 (QiQ (rk:=rk) hB' O (by omega) (by omega) ?_);by_cases z:kr rk (arrOf st2) k<kr rk (arrOf st2) ((l+r) / 2)
    ·rw[UB z];refine Tv ⟨rfl,l,(l+r) / 2,rfl,by omega,by omega,by omega,q4,λi p1 p2=>?_⟩;have:=hs' _ _ p1 p2;omega
    ·rw[Uu z];refine Tv ⟨rfl,(l+r) / 2+1,r,rfl,by omega,by omega,by omega,λi p1=>?_,q5⟩;have:=hs' i ((l+r) / 2) (by omega) (by omega);omega
  case ipost=>
   rintro c st2 ⟨rfl,l,r,rfl,q1,q4,q5⟩;show wpS _ _ _ _ (do moveDown' k l;pure (ForInStep.yield (none,()))) _ _;rw[moveDown'_eq];refine U7 (wpS_modify (Tv ⟨rfl,hB'.set (bubble_perm _ _ _),?_⟩));rw[show min (k+1) n=k+1 by omega];have hks:k<(arrOf st2).size:=by rw[hB'.size];omega
   intro i j hij hj;show kr rk (bubble (arrOf st2) k (k-l)) i<=kr rk (bubble (arrOf st2) k (k-l)) j;rw[Qe3 hks (by omega),Qe3 hks (by omega),show k - (k-l)=l by omega];have a:=q4 i;have b:=q5 (j-1);have c:=hs' i j hij;have d:=hs' i (j-1);have e:=hs' (i-1) (j-1);have f:=q4 j;have g:=q5 (i-1)
   repeat' split
   all_goals omega
theorem runs{Q:Unit->SortSt->Prop}(O:Ord prog w A s kd rk a₀)(hB:Base kd a₀ st)(h2:2<=a₀.size)(h64:a₀.size<64)(h:∀st',(arrOf st').Perm a₀->failedOf st'=none->Up rk (arrOf st') a₀.size->Q () st'):wpS (model prog w) A E s sortRuns' Q st:=by
 rw[sortRuns'_eq];refine U7 (wpS_get ?_);dsimp only;have hmr:minRun' a₀.size a₀.size 0=a₀.size:=by
  obtain⟨f,hf⟩:∃f,a₀.size=f+1:=⟨a₀.size-1,by omega⟩;have:minRun' (f+1) a₀.size 0=a₀.size:=by rw[minRun'_succ,Uj h64];rfl
  rwa[<-hf]at this
 simp only[hB.size,hmr];have push:∀{st':SortSt},Base kd a₀ st'->Up rk (arrOf st') a₀.size->(arrOf (setPending st' ((pendingOf st').push (0,a₀.size,0)))).Perm a₀/\failedOf (setPending st' ((pendingOf st').push (0,a₀.size,0)))=none/\(pendingOf (setPending st' ((pendingOf st').push (0,a₀.size,0)))).size<=1/\Up rk (arrOf (setPending st' ((pendingOf st').push (0,a₀.size,0)))) a₀.size:=λ{st'} b u=>⟨b.perm,b.failed,by show((pendingOf st').push _).size<=1;rw[b.pend];exact Um 1,u⟩;refine U7 (wpS_mono (RZ
  (I:=λx c st'=>(x=0/\c=(none,0)/\Base kd a₀ st')\/(1<=x/\c=(none,a₀.size)/\(arrOf st').Perm a₀/\failedOf st'=none/\(pendingOf st').size<=1/\Up rk (arrOf st') a₀.size))
  (Q:=λc st'=>c=(none,a₀.size)/\(arrOf st').Perm a₀/\failedOf st'=none/\(pendingOf st').size<=1/\Up rk (arrOf st') a₀.size) ?step ?fin (.inl ⟨rfl,rfl,hB⟩)) ?post)
 case fin=>
  rintro c st' (⟨hx,_,_⟩|⟨_,hc,hD⟩)
  ·omega
  ·exact⟨hc,hD⟩
 case step=>
  rintro x c st' _ hx (⟨rfl,rfl,hB'⟩|⟨hx1,rfl,hD⟩)
  ·dsimp only;rw[Uo (by omega)];simp only[Nat.sub_zero,Nat.min_self,Nat.zero_add];refine U7 (count O (Um _) (by omega) hB' λm st2 hB2 m1 m2 u2=>?_);dsimp only;by_cases hlt:m<a₀.size
   ·rw[Uj hlt];refine U7 (wpS_lift (Rc ⟨rfl,?_⟩));refine U7 (insert O (Um _) m2 m1 hB2 u2 λst3 hB3 u3=>?_);simp only[TX,UH,Tq];refine U7 (wpS_get ?_);rw[show(pendingOf st3).back?=none by rw[hB3.pend];rfl];exact U7 (wpS_modify (Tv (.inr ⟨by omega,rfl,push hB3 u3⟩)))
   ·rw[Uo hlt];have hm:m=a₀.size:=by omega
    subst hm;refine U7 (wpS_get ?_);rw[show(pendingOf st2).back?=none by rw[hB2.pend];rfl];exact U7 (wpS_modify (Tv (.inr ⟨by omega,rfl,push hB2 u2⟩)))
  ·dsimp only;rw[Uj (Um _)];exact Tv ⟨rfl,hD⟩
 case post=>
  rintro c st' ⟨rfl,hD⟩;dsimp only;refine U7 (wpS_mono (RZ (I:=λ_ c st2=>st2=st'/\c=(none,())) (Q:=λc st2=>st2=st'/\c=(none,())) ?_ (λ_ _ hh=>hh) ⟨rfl,rfl⟩) ?_)
  ·rintro x c st2 _ _ ⟨rfl,rfl⟩;refine U7 (wpS_get ?_);rw[Uj hD.2.2.1];exact Tv ⟨rfl,rfl⟩
  ·rintro c st2 ⟨rfl,rfl⟩;exact Tv (h _ hD.1 hD.2.1 hD.2.2.2)
end
end NZ
namespace NZ
open PySem PyProof.Rows
section
variable{M:Model}{A:Around}{E:VP}{s:Shared}
theorem QfX   : ∀(l:List α),(∀x∈l,∀{Q:β->Shared->Prop},Q (g x) s->wpAny M A (f x) Q E s)->∀{Q:List β->Shared->Prop},Q (l.map g) s->wpAny M A (l.mapM f) Q E s
 |[],_,Q,h=>by rw[List.mapM_nil];exact Ud h
 |x::l,hf,Q,h=>by rw[List.mapM_cons];exact Ua (hf x (Us ..) (Ua (QfX l (λy hy=>hf y (Ut _ hy)) (Ud h))))
end
section
variable{prog:Program}{w:World}{A:Around}{E:VP}{s:Shared}
theorem Qcg(v:Value):firstOfTuple' v=(do
  if (<-typeOf v) != .type "tuple" then return none
  return (<-Builtin.List.listItems v)[0]?):=rfl
theorem kind_tup{vs:List Value}{fst:Value->Value}{T:String}{Q:SortKind->Shared->Prop}(hv:vs≠[])(h1:∀v∈vs,∃a us,v=.ref a/\NK.Tp s.heap a us/\us.head?=some (fst v))(h2:∀v∈vs,s.TypeIs (fst v) T)(h:Q (tuples' (Value.type T != .type "tuple")) s):wpAny (model prog w) A (keyKind' vs.toArray) Q E s:=by
 rw[keyKind'_eq,List.mapM_toArray];refine Ua (wpAny_map (QfX (g:=λv=>some (fst v)) vs (λv hv Q hQ=>?_) ?_))
 ·obtain⟨a,us,rfl,ht,hu⟩:=h1 v hv;rw[Qcg];refine Ua (Ro ht.typeIs ?_);rw[Uo (by simp)];obtain⟨o,items,n,ho,_,hd,rfl⟩:=ht;refine Ua (listItems_at ho hd (Ud ?_));have:items[0]?=some (fst (.ref a)):=by rw[<-T2,<-List.head?_eq_getElem?];exact hu
  rw[this];exact hQ
 ·rw[Uj (by simp)];refine Ua (Rc ?_);have e:(vs.map λv=>some (fst v)).toArray.filterMap id=(vs.map fst).toArray:=by
   rw[List.filterMap_toArray];congr 1;induction vs with
   |nil=>rfl|cons v r ih=>simp
  rw[e,oneTypeOnly'_eq,List.mapM_toArray];refine Ua (Ua (wpAny_map (QfX (g:=λ_=>Value.type T) _ (λu hu Q hQ=>?_) ?_)))
  ·obtain⟨v,hv,rfl⟩:=UE.mp hu;exact Ro (h2 v hv) hQ
  ·have h0:(List.map (λ_=>Value.type T) (vs.map fst)).toArray[0]?=some (Value.type T):=by
    cases vs with
    |nil=>exact absurd rfl hv|cons v r=>simp
   rw[h0];dsimp only;rw[Uj (by simp)];exact Ud (Ud (by simpa using h))
theorem sort_tup{kd:SortKind}{rk:Value->Int}{a:Addr}{vs:List Value}{n:Nat}{P:Fin->Shared->Prop}(ho:s.heap.get? a=some (seqObj "list" vs.toArray n))(h64:vs.length<64)(hO:∀h',(∀b o,b≠a->s.heap.get? b=some o->h'.get? b=some o)->Ord prog w A {s with heap:=h'} kd rk (pairsOf vs))(hK:2<=vs.length->∀h',(∀b o,b≠a->s.heap.get? b=some o->h'.get? b=some o)->∀{Q:SortKind->Shared->Prop},Q kd {s with heap:=h'}->wpAny (model prog w) A (keyKind' vs.toArray) Q E {s with heap:=h'})(h:∀st':SortSt,(arrOf st').Perm (pairsOf vs)->Up rk (arrOf st') (pairsOf vs).size->P (.done (.ret .none)) {s with heap:=sortedHeap s.heap a vs ((arrOf st').map (·.2))}):
  wpAny (model prog w) A (Builtin.«list.sort» ⟨[.ref a],[]⟩) P E s:=by
 rw[list_sort_plain];have ha:a<s.heap.objs.size:=Uw ho;refine Ua (listItems_at ho rfl (Ua (listUpdate_at ho rfl ?_)));obtain⟨e1,ho1⟩:∃e1,(s.heap.update a (Obj.mapSeq λ_=>#[])).get? a=some (seqObj "list" #[] e1):=⟨_,get?_update_seq ho (λ_=>#[])⟩;refine Ua (seqEpoch_at ho1 rfl (Ua (wpAny_newTuple (Ua (wpAny_newList (Th ?_))))));have keep:∀b o,b≠a->s.heap.get? b=some o->(((s.heap.update a (Obj.mapSeq λ_=>#[])).push (seqObj "tuple" vs.toArray 0)).push (seqObj "list" #[] 0)).get? b=some o:=λb o hb e=>
  Ug _ (Ug _ ((Heap.get?_update_ne _ _ _ _ hb).trans e))
 have ho6:(((s.heap.update a (Obj.mapSeq λ_=>#[])).push (seqObj "tuple" vs.toArray 0)).push (seqObj "list" #[] 0)).get? a=some (seqObj "list" #[] e1):=Ug _ (Ug _ ho1);show wpAny (model prog w) A _ P E {s with heap:=((s.heap.update a (Obj.mapSeq λ_=>#[])).push (seqObj "tuple" vs.toArray 0)).push (seqObj "list" #[] 0)};dsimp only;have hsz:vs.toArray.size=vs.length:=by simp
 by_cases h2:vs.toArray.size<2
 ·rw[Uj h2,Uj h2];refine Ua (Ud ?_);rw[StateT.run_pure];refine Ua (Ud ?_);dsimp only;refine Ua (seqEpoch_at ho6 rfl (Ua (listUpdate_at ho6 rfl ?_ (hsz2:=by rw[Array.size_map];show(pairsOf vs).size<=_;rw[Wv,Tn];omega))));simp only[bne_self_eq_false,UH,Tq];refine Ud (h (SortSt.mk' general' (vs.toArray.zip vs.toArray) #[] 7 none) (Array.Perm.refl _) λi j hij hj=>?_);have:i=j:=by rw[Wv]at hj;omega
  subst this;exact RN _
 ·rw[Uo h2,Uo h2];refine Ua (hK (by omega) _ keep ?_);refine Ua (Tf (runs (kd:=kd) (rk:=rk) (a₀:=pairsOf vs) (st:=SortSt.mk' kd (vs.toArray.zip vs.toArray) #[] 7 none)
   (Q:=λ_ st'=>(arrOf st').Perm (pairsOf vs)/\failedOf st'=none/\Up rk (arrOf st') (pairsOf vs).size)
   (hO _ keep) ⟨Array.Perm.refl _,rfl,rfl,rfl⟩ (by rw[Wv];omega) (by rw[Wv];exact h64) λst' a1 a2 a3=>⟨a1,a2,a3⟩) ?_ λ_ _ e=>e)
  rintro ⟨⟨⟩,st'⟩ s' ⟨rfl,hp,hf,hs⟩;dsimp only;refine Ua (seqEpoch_at ho6 rfl (Ua (listUpdate_at ho6 rfl ?_ (hsz2:=by refine Ue (Nat.le_of_eq ((Array.size_map ..).trans (hp.size_eq.trans (Wv _)))) ?_;rw[Tn];omega))));rw[hf];simp only[bne_self_eq_false,UH,Tq];exact Ud (h st' hp hs)
end
end NZ
namespace NK
open PySem PySem.W PyProof.Rows
section
variable{prog:Program}{w:World}{A:Around}{E:VP}{s:Shared}
theorem DE.at'(x:DE h d es ep)(k:∀o,h.get? d=some o->h'.get? d=some o):DE h' d es ep:=let ⟨o,ho,r⟩:=x;⟨o,k o ho,r⟩
theorem DE.lt(x:DE h d es ep):d<h.objs.size:=let ⟨_,ho,_⟩:=x;Uw ho
theorem Qqb(hh:A.handled=none)(I d:Addr)(hne:d≠I)(es:Array DictEntry)(ep:Nat):Walks prog w A I [I,d] [I] es.size (λi v=>∃h:i<es.size,v=es[i].key) (λi h=>h.IsKeyIter I d i es.size ep/\DE h d es ep) where
 sub:=λb hb=>by simp at hb;simp[hb]
 frame:=λ_ _ _ st hk=>⟨st.1.at λo e=>hk I (by simp) o e,st.2.at' λo e=>hk d (by simp) o e⟩
 item:=λi s Q E hi st hQ=>next_item false st.1 st.2 hi λh' it' hs'=>hQ _ h' s.toks ⟨hi,rfl⟩ ⟨it',st.2.at' λo e=>hs'.extBut d o hne e⟩ λb o hb e=>hs'.extBut b o (λh=>hb (by simp[h])) e
 done:=λs Q E st hQ=>next_end false hh st.1 st.2 (Um _) λh' he'=>hQ h' s.toks λb o hb e=>he' b o (λh=>hb (by simp[h])) e
 self:=λ_ _ _ _ st hQ=>wpAny_pyIter_keyiter st.1 hQ
theorem srcK(lo:(d==sysModules)=false):KdlSrc prog w "dict" d d es.size (λi v=>∃h:i<es.size,v=es[i].key) (λh=>DE h d es ep) where
 type:=λ_ hm=>hm.typeIs
 there:=λ_ hm=>⟨hm.lt,hm.lt⟩
 keep:=λ_ _ hm hk=>hm.at' λo e=>hk d (.inl rfl) o e
 notList:=by decide
 notTuple:=by decide
 hint:=λ_ _ _ _ hm hq=>kdl_hint_dict hm.typeIs hq
 iter:=λ_ _ hh hm=>⟨_,_,(λ_ _ hq=>iterK lo hm hq),Qqb hh _ d (UP hm.lt) es ep,⟨_,UA _ rfl,rfl,rfl⟩,hm.at' λ_ e=>Ug _ e⟩
theorem QhR{kd:SortKind}{rk:Value->Int}{r:Value}{vs:List Value}{Q:VP}(h64:vs.length<64)(hc:∀{R:List Value->Shared->Prop},(∀h' tk,(∀b o,s.heap.get? b=some o->h'.get? b=some o)->R vs {s with heap:=h',toks:=tk})->wpAny (model prog w) A.in1 (collect r) R E s)(hO:∀h' tk,(∀b o,s.heap.get? b=some o->h'.get? b=some o)->NZ.Ord prog w A.in1.in1 {s with heap:=h',toks:=tk} kd rk (pairsOf vs))(hK:2<=vs.length->∀h' tk,(∀b o,s.heap.get? b=some o->h'.get? b=some o)->∀{Q:SortKind->Shared->Prop},Q kd {s with heap:=h',toks:=tk}->wpAny (model prog w) A.in1.in1 (keyKind' vs.toArray) Q E {s with heap:=h',toks:=tk})(h:∀(h1 h':Heap) (tk:Nat) (out:Array Keyed) (e:Nat),(∀b o,s.heap.get? b=some o->h1.get? b=some o)->(∀b o,h1.get? b=some o->h'.get? b=some o)->h'.get? h1.objs.size=some (seqObj "list" (out.map (·.2)) e)->out.Perm (pairsOf vs)->NZ.Up rk out (pairsOf vs).size->Q (.ref h1.objs.size) {s with heap:=h',toks:=tk}):
  wpAny (model prog w) A (call (.builtin "sorted") [r]) Q E s:=by
 refine Calls.call_function_entry kind_sorted plain_sorted entry_sorted (args_sorted1 _) ?_;unfold Builtin.«sorted»;refine Ua (m:=checkCount "sorted" 1 1 _) (Ud ?_);refine Ua (hc λh1 tk k1=>?_);refine Ua (wpAny_newList ?_);have hoL:(h1.push (seqObj "list" vs.toArray 0)).get? h1.objs.size=some (seqObj "list" vs.toArray 0):=UA _ rfl;have k2:∀b o,s.heap.get? b=some o->(h1.push (seqObj "list" vs.toArray 0)).get? b=some o:=λb o e=>Ug _ (k1 b o e);have hne:∀b o,s.heap.get? b=some o->b≠h1.objs.size:=λb o e z=>absurd (Uw (k1 b o e)) (by rw[z];exact TF _);refine Ua (Th (UX slot_list_sort ⟨_,hoL,rfl⟩ entry_list_sort (NZ.sort_tup (kd:=kd) (rk:=rk) hoL h64 (λh' kk=>hO h' tk λb o e=>kk b o (hne b o e) (k2 b o e)) (λh2 h' kk Q hq=>hK h2 h' tk (λb o e=>kk b o (hne b o e) (k2 b o e)) hq) λst' a1 a2=>⟨_,rfl,?_⟩) (args_list_sort _)));obtain⟨e,he⟩:=sortedHeap_at (out:=(arrOf st').map (·.2)) hoL;refine Ud ⟨_,rfl,h h1 _ tk (arrOf st') e k1 (λb o eb=>?_) he a1 a2⟩;have hb:=Uw eb;have hb2:b<(h1.push (seqObj "list" vs.toArray 0)).objs.size:=by rw[size_push'];exact Nat.lt_succ_of_lt hb
 rw[sortedHeap_old (UP hb) hb2];exact Ug _ eb
end
end NK
namespace NK
open PySem PyProof.Rows
section
variable{prog:Program}{w:World}{A:Around}{E:VP}{s:Shared}{K K2 K3 K4:Type}[DecidableEq K][DecidableEq K2][DecidableEq K3][DecidableEq K4]
structure OV(v:VK prog w K) where
 lt:K->K->Bool
 rich:∀{A:Around}{E:VP}{s:Shared}{x y:K}{u u':Value}{Q:VP},A.units+v.dep<cLine->v.is s.heap x u->v.is s.heap y u'->x≠y->Q (.bool (lt x y)) s->wpAny (model prog w) A (PySem.richCompare .Lt u u') Q E s
 irr:∀x,lt x x=false
 tr:∀x y z,lt x y=true->lt y z=true->lt x z=true
 tot:∀x y,x≠y->lt x y=true\/lt y x=true
def OV.cmp{v:VK prog w K}(o:OV v)(x y:K):Option Bool:=if x=y then none else some (o.lt x y)
theorem OV.at'{v:VK prog w K}(o:OV v){dep:Nat}{h:Heap}{x y:K}{u u':Value}(hd:v.dep<=dep)(hx:v.is h x u)(hy:v.is h y u'):QhQ prog w dep h (o.cmp x y) (u,u'):=λ{A E s} e hu=>by
 subst e;unfold OV.cmp;by_cases z:x=y
 ·rw[Uj z];refine⟨λ{Q} hq=>v.eqBool (up hd hu) hx hy ?_,λr hr=>by cases hr⟩;rw[UB z];exact hq
 ·rw[Uo z];refine⟨λ{Q} hq=>v.eqBool (up hd hu) hx hy ?_,λr hr {Q} hq=>?_⟩
  ·rw[Uu z];exact hq
  ·cases hr;exact o.rich (up hd hu) hx hy z hq
def intO:OV (intV prog w) where
 lt:=λx y=>decide (x<y)
 rich:=λ{A E s x y u u' Q} _ hx hy _ h=>by obtain⟨t,rfl⟩:=T6 hx;obtain⟨t',rfl⟩:=T6 hy;exact wpAny_lt_int h
 irr:=λx=>Uu (Int.lt_irrefl x)
 tr:=λx y z h1 h2=>UB (Int.lt_trans (UO h1) (UO h2))
 tot:=λx y h=>by
  rcases Int.lt_or_gt_of_ne h with z|z
  ·exact .inl (UB z)
  ·exact .inr (UB z)
def lexL(lt:K->K->Bool):List K->List K->Bool
 |[],[]=>false|[],_::_=>true|_::_,[]=>false|a::x,b::y=>if a=b then lexL lt x y else lt a b
theorem QiR{v:VK prog w K}(o:OV v):∀x y:List K,lexO (decide (x.length<y.length)) (List.zipWith o.cmp x y)=lexL o.lt x y
 |[],[]=>rfl|[],_::_=>by simp[lexO,lexL]
 |_::_,[]=>by simp[lexO,lexL]
 |a::x,b::y=>by
  rw[W5];unfold lexL OV.cmp;by_cases h:a=b
  ·rw[Uj h,Uj h,<-QiR o x y];simp[lexO];rfl
  ·rw[Uo h,Uo h];rfl
theorem QgU:∀x:List K,lexL lt x x=false
 |[]=>rfl|a::x=>by unfold lexL;rw[Uj rfl];exact QgU x
theorem QgV(ht:∀x y,x≠y->lt x y=true\/lt y x=true):∀x y:List K,x≠y->lexL lt x y=true\/lexL lt y x=true
 |[],[],h=>absurd rfl h|[],_::_,_=>.inl rfl|_::_,[],_=>.inr rfl|a::x,b::y,h=>by
  unfold lexL;by_cases e:a=b
  ·subst e;rw[Uj rfl,Uj rfl];exact QgV ht x y λz=>h (by rw[z])
  ·rw[Uo e,Uo (Ne.symm e)];exact ht a b e
theorem QiS(hi:∀x,lt x x=false)(ht:∀x y z,lt x y=true->lt y z=true->lt x z=true):∀x y z:List K,lexL lt x y=true->lexL lt y z=true->lexL lt x z=true
 |[],_,[],h1,h2=>by
  rename_i y;cases y with
  |nil=>cases h1|cons _ _=>cases h2
 |[],_,_::_,_,_=>rfl|_::_,[],_,h1,_=>by cases h1
 |_::_,_::_,[],_,h2=>by cases h2
 |a::x,b::y,c::z,h1,h2=>by
  unfold lexL at h1 h2 ⊢;by_cases e1:a=b
  ·subst e1;rw[Uj rfl]at h1;by_cases e2:a=c
   ·subst e2;rw[Uj rfl]at h2 ⊢;exact QiS hi ht x y z h1 h2
   ·rw[Uo e2]at h2 ⊢;exact h2
  ·rw[Uo e1]at h1;by_cases e2:b=c
   ·subst e2;rw[Uo e1];exact h1
   ·rw[Uo e2]at h2;have h3:=ht a b c h1 h2;by_cases e3:a=c
    ·subst e3;rw[hi]at h3;cases h3
    ·rw[Uo e3];exact h3
theorem QiT{v:VK prog w K}(o:OV v){h:Heap}:∀{x y:List K}{us vs:List Value},Al (v.is h) x us->Al (v.is h) y vs->Al (QhQ prog w v.dep h) (List.zipWith o.cmp x y) (us.zip vs)
 |[],_,_,_,.nil,_=>by simpa using Al.nil
 |_::_,[],_,_,.cons _ _,.nil=>by simpa using Al.nil
 |_::_,_::_,_,_,.cons a1 a2,.cons b1 b2=>.cons (o.at' (Um _) a1 b1) (QiT o a2 b2)
def lstO{v:VK prog w K}(o:OV v):OV (lstV v) where
 lt:=lexL o.lt
 rich:=λ{A E s x y u u' Q} hu hx hy _ h=>by obtain⟨a,us,rfl,t1,i1⟩:=hx;obtain⟨b,vs,rfl,t2,i2⟩:=hy;refine Ql7 hu t1 t2 (QiT o i1 i2) ?_;rw[<-i1.len,<-i2.len,QiR];exact h
 irr:=QgU
 tr:=QiS o.irr o.tr
 tot:=QgV o.tot
end
end NK
namespace NK
open PySem PyProof.Rows
section
variable{prog:Program}{w:World}{K K2 K3 K4:Type}[DecidableEq K][DecidableEq K2][DecidableEq K3][DecidableEq K4]
def QoP(a:VK prog w K)(b:VK prog w K2)(c:VK prog w K3)(d:VK prog w K4):VK prog w (K×K2×K3×K4) where
 is:=λh k u=>∃r x y z t,u=.ref r/\Tp h r [x,y,z,t]/\a.is h k.1 x/\b.is h k.2.1 y/\c.is h k.2.2.1 z/\d.is h k.2.2.2 t
 hash:=λk=>reduceHash (Builtin.Tuple.tupleHashOf [a.hash k.1,b.hash k.2.1,c.hash k.2.2.1,d.hash k.2.2.2])
 draws:=λk=>a.draws k.1+(b.draws k.2.1+(c.draws k.2.2.1+d.draws k.2.2.2))+1
 dep:=max a.dep (max b.dep (max c.dep d.dep))+1
 inj:=λ{h u x y} hx hy=>by obtain⟨r,x1,x2,x3,x4,rfl,t1,i1,i2,i3,i4⟩:=hx;obtain⟨r',y1,y2,y3,y4,e,t2,j1,j2,j3,j4⟩:=hy;injection e with e;subst e;have:=t1.inj t2;injection this with e1 this;injection this with e2 this;injection this with e3 this;injection this with e4 this;subst e1 e2 e3 e4;obtain⟨k1,k2,k3,k4⟩:=x;obtain⟨l1,l2,l3,l4⟩:=y;rw[show k1=l1 from a.inj i1 j1,show k2=l2 from b.inj i2 j2,show k3=l3 from c.inj i3 j3,show k4=l4 from d.inj i4 j4]
 keeps:=λ{h h' k u} hx kp=>by obtain⟨r,x1,x2,x3,x4,rfl,t1,i1,i2,i3,i4⟩:=hx;exact⟨r,x1,x2,x3,x4,rfl,t1.keeps kp,a.keeps i1 kp,b.keeps i2 kp,c.keeps i3 kp,d.keeps i4 kp⟩
 pyHash:=λ{A E s k u Q} hu hx h=>by obtain⟨r,x1,x2,x3,x4,rfl,t1,i1,i2,i3,i4⟩:=hx;refine QgT (ps:=[(a.hash k.1,a.draws k.1),(b.hash k.2.1,b.draws k.2.1),(c.hash k.2.2.1,c.draws k.2.2.1),(d.hash k.2.2.2,d.draws k.2.2.2)]) hu t1 (.cons (λ{A E s Q} e hu h=>a.pyHash (up (by omega) hu) (by rw[e];exact i1) h) (.cons (λ{A E s Q} e hu h=>b.pyHash (up (by omega) hu) (by rw[e];exact i2) h) (.cons (λ{A E s Q} e hu h=>c.pyHash (up (by omega) hu) (by rw[e];exact i3) h) (.cons (λ{A E s Q} e hu h=>d.pyHash (up (by omega) hu) (by rw[e];exact i4) h) .nil)))) ?_;simpa[sumN]using h
 eqBool:=λ{A E s x y u z Q} hu hx hy h=>by
  obtain⟨r,x1,x2,x3,x4,rfl,t1,i1,i2,i3,i4⟩:=hx;obtain⟨r',y1,y2,y3,y4,rfl,t2,j1,j2,j3,j4⟩:=hy;obtain⟨k1,k2,k3,k4⟩:=x;obtain⟨l1,l2,l3,l4⟩:=y;refine Ql5 (bs:=[decide (k1=l1),decide (k2=l2),decide (k3=l3),decide (k4=l4)]) hu t1 t2 (.cons (λ{A E s Q} e hu h=>a.eqBool (up (by omega) hu) (by rw[e];exact i1) (by rw[e];exact j1) h) (.cons (λ{A E s Q} e hu h=>b.eqBool (up (by omega) hu) (by rw[e];exact i2) (by rw[e];exact j2) h) (.cons (λ{A E s Q} e hu h=>c.eqBool (up (by omega) hu) (by rw[e];exact i3) (by rw[e];exact j3) h) (.cons (λ{A E s Q} e hu h=>d.eqBool (up (by omega) hu) (by rw[e];exact i4) (by rw[e];exact j4) h) .nil)))) ?_ (λe=>?_) h
  ·by_cases h1:k1=l1<;>by_cases h2:k2=l2<;>by_cases h3:k3=l3<;>by_cases h4:k4=l4<;>simp[h1,h2,h3,h4]
  ·subst e;have:=t1.inj t2;injection this with e1 this;injection this with e2 this;injection this with e3 this;injection this with e4 this;subst e1 e2 e3 e4;have q1:k1=l1:=a.inj i1 j1;have q2:k2=l2:=b.inj i2 j2;have q3:k3=l3:=c.inj i3 j3;have q4:k4=l4:=d.inj i4 j4;simp[q1,q2,q3,q4]
 quiet:=λ{A E s k u Q} n hn hx h=>by
  obtain⟨r,x1,x2,x3,x4,rfl,t1,i1,i2,i3,i4⟩:=hx;obtain⟨n,rfl⟩:∃j,n=j+1:=⟨n-1,by omega⟩;refine Qe0 n t1 (λv' hv' {A E Q} q=>?_) h;rcases Uv.mp hv' with rfl|hv'
  ·exact a.quiet n (by omega) i1 q
  rcases Uv.mp hv' with rfl|hv'
  ·exact b.quiet n (by omega) i2 q
  rcases Uv.mp hv' with rfl|hv'
  ·exact c.quiet n (by omega) i3 q
  rw[Uf.mp hv'];exact d.quiet n (by omega) i4 q
def Qd2{va:VK prog w K}{vb:VK prog w K2}{vc:VK prog w K3}{vd:VK prog w K4}(a:OV va)(b:OV vb)(c:OV vc)(d:OV vd)(x y:K×K2×K3×K4):List (Option Bool):=[a.cmp x.1 y.1,b.cmp x.2.1 y.2.1,c.cmp x.2.2.1 y.2.2.1,d.cmp x.2.2.2 y.2.2.2]
theorem Qcp{v:VK prog w K}(o:OV v){z:Bool}{x y:K}{r:List (Option Bool)}:lexO z (o.cmp x y::r)=if x=y then lexO z r else o.lt x y:=by
 unfold OV.cmp;by_cases h:x=y
 ·rw[Uj h,Uj h];rfl
 ·rw[Uo h,Uo h];rfl
theorem Qd3{v:VK prog w K}(o:OV v){x y z:K}{p q r:Bool}(h:p=true->q=true->r=true)(h1:(if x=y then p else o.lt x y)=true)(h2:(if y=z then q else o.lt y z)=true):(if x=z then r else o.lt x z)=true:=by
 by_cases e1:x=y
 ·subst e1;rw[Uj rfl]at h1;by_cases e2:x=z
  ·subst e2;rw[Uj rfl]at h2 ⊢;exact h h1 h2
  ·rw[Uo e2]at h2 ⊢;exact h2
 ·rw[Uo e1]at h1;by_cases e2:y=z
  ·subst e2;rw[Uo e1];exact h1
  ·rw[Uo e2]at h2;have h3:=o.tr x y z h1 h2;by_cases e3:x=z
   ·subst e3;rw[o.irr]at h3;cases h3
   ·rw[Uo e3];exact h3
theorem Qcq{v:VK prog w K}(o:OV v){x y:K}{p q:Bool}(h:x=y->p=true\/q=true):(if x=y then p else o.lt x y)=true\/(if y=x then q else o.lt y x)=true:=by
 by_cases e:x=y
 ·rw[Uj e,Uj e.symm];exact h e
 ·rw[Uo e,Uo (Ne.symm e)];exact o.tot x y e
def Qqc{va:VK prog w K}{vb:VK prog w K2}{vc:VK prog w K3}{vd:VK prog w K4}(a:OV va)(b:OV vb)(c:OV vc)(d:OV vd):OV (QoP va vb vc vd) where
 lt:=λx y=>lexO false (Qd2 a b c d x y)
 rich:=λ{A E s x y u u' Q} hu hx hy _ h=>by obtain⟨r,x1,x2,x3,x4,rfl,t1,i1,i2,i3,i4⟩:=hx;obtain⟨r',y1,y2,y3,y4,rfl,t2,j1,j2,j3,j4⟩:=hy;exact Ql7 (os:=Qd2 a b c d x y) hu t1 t2 (.cons (a.at' (by omega) i1 j1) (.cons (b.at' (by omega) i2 j2) (.cons (c.at' (by omega) i3 j3) (.cons (d.at' (by omega) i4 j4) .nil)))) h
 irr:=λx=>by unfold Qd2;simp only[Qcp,RQ];rfl
 tr:=λx y z h1 h2=>by unfold Qd2 at h1 h2 ⊢;simp only[Qcp]at h1 h2 ⊢;exact Qd3 a (λp q=>Qd3 b (λp q=>Qd3 c (λp q=>Qd3 d (λp _=>p) p q) p q) p q) h1 h2
 tot:=λx y h=>by unfold Qd2;simp only[Qcp];exact Qcq a λe1=>Qcq b λe2=>Qcq c λe3=>Qcq d λe4=>absurd (Prod.ext e1 (Prod.ext e2 (Prod.ext e3 e4))) h
end
end NK
namespace NK
open PySem PyProof.Rows
theorem QiU{α:Type}{p q:α->Bool}(h:∀x,p x=true->q x=true):∀l:List α,(l.filter p).length<=(l.filter q).length
 |[]=>Um _|x::l=>by
  have ih:=QiU h l;rw[Tz,Tz];by_cases hp:p x=true
  ·rw[Uj hp,Uj (h x hp)];simpa using ih
  ·rw[Uo hp];split
   ·simp;omega
   ·exact ih
theorem QiV{α:Type}{p q:α->Bool}(h:∀x,p x=true->q x=true):∀{l:List α}{a:α},a∈l->p a=false->q a=true->(l.filter p).length<(l.filter q).length
 |x::l,a,hm,h1,h2=>by
  rw[Tz,Tz];rcases Uv.mp hm with rfl|hm
  ·rw[Uo (by rw[h1];exact Uk),Uj h2];have:=QiU h l;simp;omega
  ·have ih:=QiV h hm h1 h2;by_cases hp:p x=true
   ·rw[Uj hp,Uj (h x hp)];simpa using ih
   ·rw[Uo hp];split
    ·simp;omega
    ·exact ih
section
variable{prog:Program}{w:World}{K:Type}[DecidableEq K]{v:VK prog w K}
def OV.rank(o:OV v)(ks:List K)(x:K):Nat:=(ks.filter λy=>o.lt y x).length
theorem OV.rank_lt(o:OV v){ks:List K}{x y:K}(hx:x∈ks):o.lt x y=true->o.rank ks x<o.rank ks y:=λh=>
 QiV (λz hz=>o.tr z x y hz h) hx (o.irr x) h
theorem OV.rank_iff(o:OV v)(hx:x∈ks)(hy:y∈ks):o.rank ks x<o.rank ks y↔o.lt x y=true:=by
 refine⟨λh=>?_,o.rank_lt hx⟩;by_cases e:x=y
 ·subst e;exact absurd h (TF _)
 ·rcases o.tot x y e with z|z
  ·exact z
  ·have:=o.rank_lt hy z;omega
theorem OV.rank_inj(o:OV v)(hx:x∈ks)(hy:y∈ks)(h:o.rank ks x=o.rank ks y):x=y:=by
 by_cases e:x=y
 ·exact e
 ·rcases o.tot x y e with z|z
  ·have:=o.rank_lt hx z;omega
  ·have:=o.rank_lt hy z;omega
open Classical in
def OV.rk(o:OV v)(h:Heap)(ks:List K)(u:Value):Int:=if e:∃x,v.is h x u then (o.rank ks e.choose:Nat) else 0
theorem OV.rk_eq(o:OV v)(hx:v.is h x u):o.rk h ks u=(o.rank ks x:Nat):=by have e:∃x,v.is h x u:=⟨x,hx⟩;unfold OV.rk;rw[dif_pos e,v.inj e.choose_spec hx]
theorem Al.has(h:Al R as bs):∀b∈bs,∃a∈as,R a b:=by
 induction h with
 |nil=>intro b hb;cases hb|cons r _ ih=>
  intro b hb;rcases Uv.mp hb with rfl|hb
  ·exact⟨_,Us ..,r⟩
  ·obtain⟨a,h1,h2⟩:=ih b hb;exact⟨a,Ut _ h1,h2⟩
theorem Ql8(o:OV v)  : ∀{ks:List K}{vs:List Value},Al (v.is h) ks vs->(vs.map λu=>o.rk h ls u)=ks.map λx=>((o.rank ls x:Nat):Int)
 |_,_,.nil=>rfl|_,_,.cons a b=>by rw[UC,UC,o.rk_eq a,Ql8 o b]
theorem Qm5(p:vs.Perm us):∀{ks:List α},Al R ks vs->∃ls:List α,ls.Perm ks/\Al R ls us:=by
 induction p with
 |nil =>intro ks al;exact⟨ks,.refl _,al⟩|cons x _ ih=>
  intro ks al;cases al with
  |cons a b=>obtain⟨ls,q1,q2⟩:=ih b;exact⟨_::ls,q1.cons _,.cons a q2⟩
 |swap x y l=>
  intro ks al;cases al with
  |cons a b=>cases b with
   |cons c d=>exact⟨_,List.Perm.swap ..,.cons c (.cons a d)⟩
 |trans _ _ ih1 ih2 =>intro ks al;obtain⟨ls,q1,q2⟩:=ih1 al;obtain⟨ms,q3,q4⟩:=ih2 q2;exact⟨ms,q3.trans q1,q4⟩
theorem QoQ{α β:Type}{R:α->β->Prop}{as:List α}{bs:List β}(h:Al R as bs):∀{i:Nat}{a:α}{b:β},as[i]?=some a->bs[i]?=some b->R a b:=by
 induction h with
 |nil=>intro i a b h1;simp at h1|cons r _ ih=>
  intro i a b h1 h2;cases i with
  |zero=>simp at h1 h2;subst h1 h2;exact r|succ j=>simp at h1 h2;exact ih h1 h2
theorem QoR(o:OV v){A:Around}{s:Shared}{h:Heap}{kd:SortKind}{ks:List K}{vs:List Value}(al:Al (v.is h) ks vs)(hn:ks.Nodup)(hl:∀x y u u',x∈ks->y∈ks->v.is h x u->v.is h y u'->∀{E:VP} {Q:Bool->Shared->Prop},Q (o.lt x y) s->wpAny (model prog w) A (keyLt' kd u u') Q E s):NZ.Ord prog w A s kd (o.rk h ks) (pairsOf vs) where
 lt:=λp q hp hq {E Q} hQ=>by
  rw[WF]at hp hq;obtain⟨_,m1⟩:=mem_zip_self hp;obtain⟨_,m2⟩:=mem_zip_self hq;obtain⟨x,x1,x2⟩:=al.has _ m1;obtain⟨y,y1,y2⟩:=al.has _ m2;rw[o.rk_eq x2,o.rk_eq y2]at hQ;refine hl x y _ _ x1 y1 x2 y2 ?_;have e:decide (((o.rank ks x:Nat):Int)<((o.rank ks y:Nat):Int))=o.lt x y:=by rw[Tk,TN,<-o.rank_iff x1 y1];omega
  rw[e]at hQ;exact hQ
 ne:=by rw[WF,show(λp:Keyed=>o.rk h ks p.1)=(λu=>o.rk h ks u)∘Prod.fst from rfl,<-Ra,List.map_fst_zip (Um _),Ql8 o al];refine WI.mpr (hn.imp_of_mem λ{a b} ha hb hab z=>hab ?_);exact o.rank_inj ha hb (by exact_mod_cast z)
theorem QoS(o:OV v){h:Heap}{ks:List K}{vs:List Value}{out:Array Keyed}(al:Al (v.is h) ks vs)(hp:out.Perm (pairsOf vs))(hu:NZ.Up (o.rk h ks) out (pairsOf vs).size)(hn:ks.Nodup):∃ls:List K,ls.Perm ks/\Al (v.is h) ls (out.map (·.2)).toList/\ls.Pairwise λx y=>o.lt x y=true:=by
 have hp':out.toList.Perm (vs.zip vs):=by rw[<-WF];exact TZ.mp hp
 have hsnd:(out.map (·.2)).toList=out.toList.map (·.2):=Array.toList_map ..;have same:∀p∈out.toList,p.1=p.2/\p.1∈vs:=λp hm=>mem_zip_self (hp'.mem_iff.mp hm);have hperm:(out.toList.map (·.2)).Perm vs:=by have:=hp'.map (·.2);rwa[List.map_snd_zip (Um _)]at this
 obtain⟨ls,l1,l2⟩:=Qm5 hperm.symm al;rw[hsnd];refine⟨ls,l1,l2,Ry.mpr λi j hi hj hij=>?_⟩;have hlen:ls.length=out.size:=by rw[l2.len,Ub,Ta]
 have hsz:out.size=(pairsOf vs).size:=hp.size_eq;have kr:∀k (hk:k<ls.length),NZ.kr (o.rk h ks) out k=((o.rank ks ls[k]:Nat):Int):=λk hk=>by
  have hk':k<out.size:=by omega
  have e1:out[k]?=some out[k]:=RY _ k hk';have hm:out[k]∈out.toList:=by simp
  have hr:v.is h ls[k] out[k].2:=QoQ (i:=k) l2 (UV hk) (by rw[UK,T2,e1];rfl);unfold NZ.kr;rw[e1];dsimp only;rw[(same _ hm).1,o.rk_eq hr]
 have hle:=hu i j (by omega) (by omega);rw[kr i hi,kr j hj]at hle;have m1:ls[i]∈ks:=l1.mem_iff.mp (UY hi);have m2:ls[j]∈ks:=l1.mem_iff.mp (UY hj);have hne:ls[i]≠ls[j]:=Ry.mp (l1.nodup_iff.mpr hn) i j hi hj hij;rcases o.tot _ _ hne with z|z
 ·exact z
 ·have:=o.rank_lt m2 z;omega
theorem Qk7(hu:A.units+4<cLine)(hx:(lstV (intV prog w)).is s.heap x u)(hy:(lstV (intV prog w)).is s.heap y u')(h:Q ((lstO (intO (prog:=prog) (w:=w))).lt x y) s):
  wpAny (model prog w) A (keyLt' (PyProof.Rows.tuples' true) u u') Q E s:=by
 obtain⟨a,us,rfl,t1,i1⟩:=hx;obtain⟨b,vs,rfl,t2,i2⟩:=hy;refine Qe1 (dep:=0) (os:=List.zipWith (intO (prog:=prog) (w:=w)).cmp x y) (by omega) t1 t2 (QiT intO i1 i2) (λ_ p q r e1 e2 {Q} hq=>?_) ?_
 ·cases i1 with
  |nil=>simp at e1|cons a1 _=>cases i2 with
   |nil=>simp at e1|cons b1 _=>
    rw[List.zip_cons_cons,List.head?_cons]at e1;rw[W5,List.head?_cons]at e2;injection e1 with e1;injection e1 with p1 p2;subst p1 p2;obtain⟨t,rfl⟩:=T6 a1;obtain⟨t',rfl⟩:=T6 b1;refine oneLt_int ?_;injection e2 with e2;unfold OV.cmp at e2;split at e2
    ·cases e2
    ·injection e2 with e2;have e2:decide (_<_)=r:=e2;rw[e2];exact hq
 ·rw[<-i1.len,<-i2.len,QiR];exact h
end
end NK
namespace NK
open PySem PyProof.Rows
abbrev SK:=Sum (List Int) (List Int×Int×Int×List Int)
section
variable(prog:Program)(w:World)
abbrev grV:VK prog w (List Int):=lstV (intV prog w)
abbrev ctV:VK prog w (List Int×Int×Int×List Int):=QoP (grV prog w) (intV prog w) (intV prog w) (grV prog w)
def tagV(t:Bool):VK prog w SK where
 is:=λh k u=>match k with
  |.inl g=>t=false/\(grV prog w).is h g u|.inr c=>t=true/\(ctV prog w).is h c u
 hash:=λk=>match k with
  |.inl g=>(grV prog w).hash g|.inr c=>(ctV prog w).hash c
 draws:=λk=>match k with
  |.inl g=>(grV prog w).draws g|.inr c=>(ctV prog w).draws c
 dep:=2
 inj:=λ{h v x y} hx hy=>by
  cases x with
  |inl x=>cases y with
   |inl y=>rw[(grV prog w).inj hx.2 hy.2]|inr y=>rw[hx.1]at hy;cases hy.1
  |inr x=>cases y with
   |inl y=>rw[hx.1]at hy;cases hy.1|inr y=>rw[(ctV prog w).inj hx.2 hy.2]
 keeps:=λ{h h' k v} hx kp=>by
  cases k with
  |inl g=>exact⟨hx.1,(grV prog w).keeps hx.2 kp⟩|inr c=>exact⟨hx.1,(ctV prog w).keeps hx.2 kp⟩
 pyHash:=λ{A E s k v Q} hu hx h=>by
  cases k with
  |inl g=>exact(grV prog w).pyHash (show A.units+1<cLine by omega) hx.2 h|inr c=>exact(ctV prog w).pyHash hu hx.2 h
 eqBool:=λ{A E s x y u v Q} hu hx hy h=>by
  cases x with
  |inl x=>cases y with
   |inl y=>exact(grV prog w).eqBool (show A.units+1<cLine by omega) hx.2 hy.2 (by simpa using h)|inr y=>rw[hx.1]at hy;cases hy.1
  |inr x=>cases y with
   |inl y=>rw[hx.1]at hy;cases hy.1|inr y=>exact(ctV prog w).eqBool hu hx.2 hy.2 (by simpa using h)
 quiet:=λ{A E s k v Q} n hn hx h=>by
  cases k with
  |inl g=>exact(grV prog w).quiet n (show 1<=n by omega) hx.2 h|inr c=>exact(ctV prog w).quiet n hn hx.2 h
def tagK(t:Bool):HeapKind prog w SK:=hk (tagV prog w t) (show 2<=8 by decide)
end
def Qm6(g:List Int):Int:=reduceHash (Builtin.Tuple.tupleHashOf (g.map hashInt))
def Qqd:SK->Int
 |.inl g=>Qm6 g|.inr c=>reduceHash (Builtin.Tuple.tupleHashOf [Qm6 c.1,hashInt c.2.1,hashInt c.2.2.1,Qm6 c.2.2.2])
def ents(xs:List (SK×Addr×Value)):List DictEntry:=xs.map λx=>⟨Qqd x.1,.ref x.2.1,x.2.2⟩
theorem ents_eq(prog:Program)(w:World)(t:Bool)(xs:List (SK×Addr×Value)):ents xs=xs.map (entryOfKey (tagK prog w t)):=by unfold ents;refine Rf λx _=>?_;obtain⟨k,r⟩:=x;cases k<;>rfl
def DObj(a:Addr)(xs:List (SK×Addr×Value))(h:Heap):Prop:=∃o es ep,h.get? a=some o/\o.ExactDict/\o.data=.dict es ep/\es.toList=ents xs
end NK
namespace L3
open PySem
abbrev Xc:=Nat×Option Nat
inductive D where
 |non|bl (b:Bool)|int (i:Int)|str (s:Str)|ref (n:Nat)|tup (ds:List D)|fl (ds:List D)
inductive GO where
 |lst (ds:List D)|ins (c:Nat) (fs:List (Str×D))|dct (kvs:List (Sum Int Str×D))|exc (x:Xc)|dfz (kvs:List (Sum Int Str×D))|dcn (t:Bool) (kvs:List ((Sum (List Int) (List Int×Int×Int×List Int))×D))|dcf (t:Bool) (kvs:List ((Sum (List Int) (List Int×Int×Int×List Int))×D))
abbrev G:=List GO
abbrev S3:=List (Option D)
inductive Res(α:Type) where
 |ok (a:α) (g:G)|raise (x:Xc) (g:G)|stuck
def Res.bind:Res α->(α->G->Res β)->Res β
 |.ok a g,k=>k a g|.raise e g,_=>.raise e g|.stuck,_=>.stuck
inductive Out where
 |nx (σ:S3) (g:G)|rt (d:D) (g:G)|bk (σ:S3) (g:G)|ct (σ:S3) (g:G)|raise (x:Xc) (σ:S3) (g:G)|stuck
abbrev ME:=S3->G->Res D
abbrev MT:=S3->G->Res Bool
abbrev MA:=S3->G->Res (List D)
abbrev MS:=S3->G->Out
abbrev MF:=List D->G->Res D
theorem Res.bind_ok(a:α)(g:G)(k:α->G->Res β):(Res.ok a g).bind k=k a g:=rfl
def SZ:Nat:=1000000
noncomputable def mVar(i:Nat):ME:=λσ g=>match σ[i]? with
 |some (some d)=>.ok d g|_=>.stuck
noncomputable def mLit(d:D):ME:=λ_ g=>.ok d g
abbrev mI(i:Int):ME:=mLit (.int i)
noncomputable def mOp1(f:D->G->Res D)(a:ME):ME:=λσ g=>(a σ g).bind f
noncomputable def mOp2(f:D->D->G->Res D)(a b:ME):ME:=λσ g=>(a σ g).bind λx g1=>(b σ g1).bind λy g2=>f x y g2
noncomputable def mNil:MA:=λ_ g=>.ok [] g
noncomputable def Qa(a:ME)(r:MA):MA:=λσ g=>(a σ g).bind λx g1=>(r σ g1).bind λxs g2=>.ok (x::xs) g2
noncomputable def mOpA(f:List D->G->Res D)(a:MA):ME:=λσ g=>(a σ g).bind f
noncomputable def Ql(a:ME):MT:=λσ g=>(a σ g).bind λd g1=>match d with
 |.bl b=>.ok b g1|_=>.stuck
noncomputable def Q9(a:MT):MT:=λσ g=>(a σ g).bind λb g1=>.ok (!b) g1
noncomputable def QfY(a b:MT):MT:=λσ g=>(a σ g).bind λc g1=>if c=true then b σ g1 else .ok false g1
noncomputable def mOrT(a b:MT):MT:=λσ g=>(a σ g).bind λc g1=>if c=true then .ok true g1 else b σ g1
noncomputable def mNot(a:ME):ME:=λσ g=>(a σ g).bind λd g1=>match d with
 |.bl b=>.ok (.bl (!b)) g1|_=>.stuck
noncomputable def mAnd(a b:ME):ME:=λσ g=>(a σ g).bind λd g1=>match d with
 |.bl c=>if c=true then b σ g1 else .ok (.bl false) g1
 |_=>.stuck
noncomputable def mIfE(c:MT)(a b:ME):ME:=λσ g=>(c σ g).bind λt g1=>if t=true then a σ g1 else b σ g1
noncomputable def Qdz(f f':D->D->G->Res D)(a b c:ME):ME:=λσ g=>(a σ g).bind λx g1=>(b σ g1).bind λy g2=>(f x y g2).bind λz g3=>match z with
 |.bl true=>(c σ g3).bind λw g4=>f' y w g4
 |.bl false=>.ok (.bl false) g3|_=>.stuck
noncomputable def Q5:MS:=λσ g=>.nx σ g
noncomputable def mSeq(a b:MS):MS:=λσ g=>match a σ g with
 |.nx σ' g'=>b σ' g'|o=>o
noncomputable def Yu(a:ME):MS:=λσ g=>match a σ g with
 |.ok _ g'=>.nx σ g'|.raise e g'=>.raise e σ g'|.stuck=>.stuck
noncomputable def mRet(a:ME):MS:=λσ g=>match a σ g with
 |.ok d g'=>.rt d g'|.raise e g'=>.raise e σ g'|.stuck=>.stuck
noncomputable def Qm7:MS:=λ_ g=>.rt .non g
noncomputable def mIf(c:MT)(a b:MS):MS:=λσ g=>match c σ g with
 |.ok t g'=>if t=true then a σ g' else b σ g'
 |.raise e g'=>.raise e σ g'|.stuck=>.stuck
noncomputable def QbZ:MS:=λ_ _=>.stuck
abbrev MG:=D->S3->Option S3
def gSet(i:Nat):MG:=λd σ=>some (σ.set i (some d))
def QhS:List MG->List D->S3->Option S3
 |[],[],σ=>some σ|t::ts,d::ds,σ=>(t d σ).bind λσ'=>QhS ts ds σ'
 |_,_,_=>none
def QiW(ts:List MG):MG:=λd σ=>match d with
 |.tup ds=>QhS ts ds σ|_=>none
noncomputable def mAsg(t:MG)(a:ME):MS:=λσ g=>match a σ g with
 |.ok d g'=>(match t d σ with
  |some σ'=>.nx σ' g'|none=>.stuck)
 |.raise e g'=>.raise e σ g'|.stuck=>.stuck
structure Src where
 at':G->Nat->Option (Option D)
 top:Nat
abbrev MI:=S3->G->Res Src
def forL(src:Src)(t:MG)(body:MS):Nat->Nat->S3->G->Out
 |0,_,_,_=>.stuck|f+1,i,σ,g=>match src.at' g i with
  |some (some d)=>(match t d σ with
   |some σ1=>(match body σ1 g with
    |.nx σ2 g2=>forL src t body f (i+1) σ2 g2|.ct σ2 g2=>forL src t body f (i+1) σ2 g2|.bk σ2 g2=>.nx σ2 g2|o=>o)
   |none=>.stuck)
  |some none=>.nx σ g|none=>.stuck
noncomputable def mFor(it:MI)(t:MG)(body:MS):MS:=λσ g=>match it σ g with
 |.ok src g'=>forL src t body (src.top+1) 0 σ g'|.raise e g'=>.raise e σ g'|.stuck=>.stuck
def Yv(c:MT)(body:MS):Nat->S3->G->Out
 |0,_,_=>.stuck|f+1,σ,g=>match c σ g with
  |.ok true g1=>(match body σ g1 with
   |.nx σ2 g2=>Yv c body f σ2 g2|.ct σ2 g2=>Yv c body f σ2 g2|.bk σ2 g2=>.nx σ2 g2|o=>o)
  |.ok false g1=>.nx σ g1|.raise e g1=>.raise e σ g1|.stuck=>.stuck
open Classical in
noncomputable def Qe4(c:MT)(body:MS):MS:=λσ g=>if h:∃f,Yv c body f σ g≠.stuck then Yv c body h.choose σ g else .stuck
def Z9(src:Src)(t:MG)(c:MT)(e:ME):Nat->Nat->S3->G->List D->Res (List D)
 |0,_,_,_,_=>.stuck|f+1,i,σ,g,acc=>match src.at' g i with
  |some (some d)=>(match t d σ with
   |some σ1=>(match c σ1 g with
    |.ok b g1=>if b=true then (match e σ1 g1 with
     |.ok y g2=>Z9 src t c e f (i+1) σ1 g2 (acc++[y])|_=>.stuck) else Z9 src t c e f (i+1) σ1 g1 acc
    |_=>.stuck)
   |none=>.stuck)
  |some none=>.ok acc g|none=>.stuck
def capt(n:Nat)(cap:List Nat)(σ:S3):S3:=List.replicate n none++cap.map λi=>(σ[i]?).getD none
def newL(ds:List D)(g:G):Res D:=if ds.length<=SZ then .ok (.ref g.length) (g++[.lst ds]) else .stuck
def pTup(xs:List D)(g:G):Res D:=if xs.length<=SZ then .ok (.tup xs) g else .stuck
noncomputable def Za(it:MI)(n:Nat)(cap:List Nat)(t:MG)(c:MT)(e:ME):ME:=λσ g=>match it σ g with
 |.ok src g1=>if src.top<=SZ then (match Z9 src t c e (src.top+1) 0 (capt n cap σ) g1 []with
  |.ok ds g2=>.ok (.ref g2.length) (g2++[.lst ds])|_=>.stuck) else .stuck
 |_=>.stuck
noncomputable def Zf:MT:=λ_ g=>.ok true g
noncomputable def mDef(k n:Nat)(body:MS):MF:=λds g=>if ds.length=k then (match body (ds.map some++List.replicate n none) g with
 |.nx _ g'=>.ok .non g'|.rt d g'=>.ok d g'|.raise e _ g'=>.raise e g'|_=>.stuck) else .stuck
noncomputable def Qn(f:MF)(a:MA):ME:=λσ g=>(a σ g).bind f
noncomputable def ZW(cc:Nat)(m:Str)(f:MF)(o:ME)(a:MA):ME:=λσ g=>(o σ g).bind λx g1=>match x with
 |.ref n=>(match g1[n]? with
  |some (.ins c fs)=>if c=cc/\fs.lookup m=none then (a σ g1).bind λxs g2=>f (.ref n::xs) g2 else .stuck
  |_=>.stuck)
 |_=>.stuck
noncomputable def QaO(c:Nat)(f:MF)(a:MA):ME:=λσ g=>(a σ g).bind λxs g1=>(f (.ref g1.length::xs) (g1++[.ins c []])).bind λd g2=>match d with
 |.non=>.ok (.ref g1.length) g2|_=>.stuck
noncomputable def QH(cs:List Nat)(f:Str)(o:ME):ME:=mOp1 (λx g=>match x with
 |.ref n=>(match g[n]? with
  |some (.ins c fs)=>if c∈cs then (match fs.lookup f with
   |some d=>.ok d g|none=>.stuck) else .stuck
  |_=>.stuck)
 |_=>.stuck) o
def putG(f:Str)(v:D):List (Str×D)->List (Str×D)
 |[]=>[(f,v)]| (g,x)::r=>if g=f then (g,v)::r else (g,x)::putG f v r
noncomputable def Zt(cs:List Nat)(f:Str)(o v:ME):MS:=λσ g=>match v σ g with
 |.ok y g1=>(match o σ g1 with
  |.ok (.ref n) g2=>(match g2[n]? with
   |some (.ins c fs)=>if c∈cs/\fs.length<100 then .nx σ (g2.set n (.ins c (putG f y fs))) else .stuck
   |_=>.stuck)
  |.raise e g'=>.raise e σ g'|_=>.stuck)
 |.raise e g'=>.raise e σ g'|.stuck=>.stuck
def ixD(n:Nat)(i:Int):Option Nat:=if 0<=i then (if i<n then some i.toNat else none) else if -(n:Int)<=i then some (i+n).toNat else none
noncomputable def Qe5(o i v:ME):MS:=λσ g=>match v σ g with
 |.ok y g1=>(match o σ g1 with
  |.ok (.ref n) g2=>(match i σ g2 with
   |.ok (.int k) g3=>(match g3[n]? with
    |some (.lst ds)=>(match ixD ds.length k with
     |some j=>.nx σ (g3.set n (.lst (ds.set j y)))|none=>.stuck)
    |_=>.stuck)
   |.raise e g'=>.raise e σ g'|_=>.stuck)
  |.raise e g'=>.raise e σ g'|_=>.stuck)
 |.raise e g'=>.raise e σ g'|.stuck=>.stuck
def JW(d:D)(g:G):Res Src:=match d with
 |.tup ds=>.ok ⟨λ_ i=>some ds[i]?,ds.length⟩ g|.fl ds=>.ok ⟨λ_ i=>some ds[i]?,ds.length⟩ g|.ref n=>(match g[n]? with
  |some (.lst ds)=>.ok ⟨λg i=>(match g[n]? with|some (.lst es)=>some es[i]? | _=>none),ds.length⟩ g|_=>.stuck)
 |_=>.stuck
noncomputable def Qt(a:ME):MI:=λσ g=>(a σ g).bind JW
def ZI(lo:Int)(n:Nat):Src:=⟨λ_ i=>some (if i<n then some (.int (lo+i)) else none),n⟩
def inR(j:Int):Prop:=-(2^62)<=j/\j<2^62
instance (j:Int):Decidable (inR j):=inferInstanceAs (Decidable (_/\_))
noncomputable def Q1(a:ME):MI:=λσ g=>(a σ g).bind λd g1=>match d with
 |.int j=>if inR j then .ok (ZI 0 j.toNat) g1 else .stuck
 |_=>.stuck
def QU(g:G):D->Option (Bool×List D)
 |.tup ds=>some (false,ds)|.fl ds=>some (true,ds)|.ref n=>(match g[n]? with
  |some (.lst ds)=>some (true,ds)|_=>none)
 |_=>none
def pAdd(x y:D)(g:G):Res D:=match x,y with
 |.int i,.int j=>.ok (.int (i+j)) g|.tup xs,.tup ys=>if xs.length+ys.length<=SZ then .ok (.tup (xs++ys)) g else .stuck
 |.ref n,.ref m=>(match g[n]?,g[m]? with
  |some (.lst xs),some (.lst ys)=>if xs.length+ys.length<=SZ then .ok (.ref g.length) (g++[.lst (xs++ys)]) else .stuck
  |_,_=>.stuck)
 |_,_=>.stuck
def pSub(x y:D)(g:G):Res D:=match x,y with
 |.int i,.int j=>.ok (.int (i-j)) g|_,_=>.stuck
def cM(i:Int):Prop:=-(2^64)<i/\i<2^64
instance (j:Int):Decidable (cM j):=inferInstanceAs (Decidable (_/\_))
def pMul(x y:D)(g:G):Res D:=match x,y with
 |.int i,.int j=>if cM i\/cM j then .ok (.int (i*j)) g else .stuck
 |_,_=>.stuck
def Zg(x y:D)(g:G):Res D:=match x,y with
 |.int i,.int j=>if 0<j/\j<1073741824 then .ok (.int (i/j)) g else .stuck
 |_,_=>.stuck
def pMod(x y:D)(g:G):Res D:=match x,y with
 |.int i,.int j=>if 0<j then .ok (.int (i%j)) g else .stuck
 |_,_=>.stuck
def pNeg(x:D)(g:G):Res D:=match x with
 |.int i=>.ok (.int (-i)) g|_=>.stuck
def pCmp(r:Int->Int->Bool)(x y:D)(g:G):Res D:=match x,y with
 |.int i,.int j=>.ok (.bl (r i j)) g|_,_=>.stuck
def pLt:=pCmp λi j=>decide (i<j)
def pLe:=pCmp λi j=>decide (i<=j)
def pGt:=pCmp λi j=>decide (j<i)
def pGe:=pCmp λi j=>decide (j<=i)
def b2I(b:Bool):Int:=if b then 1 else 0
def rowI:List D->Option (List Int)
 |[]=>some []|.int i::r=>(rowI r).map (i :: ·)|_::_=>none
def eqGs(eq:D->D->Option Bool):List D->List D->Option Bool
 |[],[]=>some true|x::xs,y::ys=>(match eq x y,eqGs eq xs ys with
  |some b,some c=>some (b&&c)|_,_=>none)
 |_,_=>some false
def eqI:Nat->D->D->Option Bool
 |0,x,y=>(match x,y with
  |.int i,.int j=>some (i==j)|_,_=>none)
 |f+1,x,y=>(match x,y with
  |.int i,.int j=>some (i==j)|.tup xs,.tup ys=>eqGs (eqI f) xs ys|_,_=>none)
def eqT(_:G)(x y:D):Option Bool:=match x,y with
 |.int i,.int j=>some (i==j)|.str s,.str t=>some (s==t)|.bl a,.bl b=>some (a==b)|.tup xs,.tup ys=>eqGs (eqI 2) xs ys|_,_=>none
def Qdo(eq:D->D->Option Bool)(g:G)(n m:Nat):Option Bool:=match g[n]?,g[m]? with
 |some (.lst xs),some (.lst ys)=>if xs.length=ys.length then eqGs eq xs ys else some false
 |_,_=>none
def eqR(g:G)(x y:D):Option Bool:=match x,y with
 |.ref n,.ref m=>Qdo (eqI 2) g n m|_,_=>none
def pEq(x y:D)(g:G):Res D:=match eqT g x y with
 |some b=>.ok (.bl b) g|none=>.stuck
def neT(g:G)(x y:D):Option Bool:=match x,y with
 |.int i,.int j=>some (i==j)|.str s,.str t=>some (s==t)|.bl a,.bl b=>some (a==b)|.ref n,.ref m=>Qdo (eqR g) g n m|_,_=>none
def pNe(x y:D)(g:G):Res D:=match neT g x y with
 |some b=>.ok (.bl (!b)) g|none=>.stuck
def isNon:D->Bool
 |.non=>true|_=>false
def pIs(x y:D)(g:G):Res D:=match y with
 |.non=>.ok (.bl (isNon x)) g|_=>.stuck
def Qe6(x y:D)(g:G):Res D:=match y with
 |.non=>.ok (.bl (!isNon x)) g|_=>.stuck
def atD(xs:List α)(i:Int):Option α:=(ixD xs.length i).bind λj=>xs[j]?
def pIx(x y:D)(g:G):Res D:=match x,y with
 |.tup ds,.int i=>(match atD ds i with
  |some d=>.ok d g|none=>.stuck)
 |.fl ds,.int i=>(match atD ds i with
  |some d=>.ok d g|none=>.stuck)
 |.ref n,.int i=>(match g[n]? with
  |some (.lst ds)=>(match atD ds i with
   |some d=>.ok d g|none=>.stuck)
  |_=>.stuck)
 |.str s,.int i=>if s.length<=SZ then (match atD s.cps.toList i with
  |some c=>.ok (.str ⟨#[c]⟩) g|none=>.stuck) else .stuck
 |_,_=>.stuck
def sIxD(n d:Nat):Option Int->Nat
 |none=>d|some v=>if v<0 then (v+(n:Int)).toNat else min v.toNat n
def cutD(xs:List α)(lo hi:Option Int):List α:=(xs.drop (sIxD xs.length 0 lo)).take (sIxD xs.length xs.length hi-sIxD xs.length 0 lo)
def Qb0(x:D)(lo hi:Option Int)(g:G):Res D:=match x with
 |.tup ds=>.ok (.tup (cutD ds lo hi)) g|.fl ds=>.ok (.ref g.length) (g++[.lst (cutD ds lo hi)])|.ref n=>(match g[n]? with
  |some (.lst ds)=>.ok (.ref g.length) (g++[.lst (cutD ds lo hi)])|_=>.stuck)
 |_=>.stuck
abbrev MO:=S3->G->Res (Option Int)
noncomputable def Qw:MO:=λ_ g=>.ok none g
noncomputable def Zh(a:ME):MO:=λσ g=>(a σ g).bind λd g1=>match d with
 |.int i=>.ok (some i) g1|_=>.stuck
noncomputable def QI(a:ME)(lo hi:MO):ME:=λσ g=>(a σ g).bind λx g1=>(lo σ g1).bind λl g2=>(hi σ g2).bind λh g3=>Qb0 x l h g3
def pLen(x:D)(g:G):Res D:=match x with
 |.tup ds=>.ok (.int ds.length) g|.fl ds=>.ok (.int ds.length) g|.ref n=>(match g[n]? with
  |some (.lst ds)=>.ok (.int ds.length) g|_=>.stuck)
 |_=>.stuck
def Jt(x:D)(g:G):Res D:=match x with
 |.tup ds=>.ok (.tup ds) g|.fl ds=>.ok (.tup ds) g|.ref n=>(match g[n]? with
  |some (.lst ds)=>.ok (.tup ds) g|_=>.stuck)
 |_=>.stuck
def JH(x:D)(g:G):Res D:=match x with
 |.tup ds=>.ok (.ref g.length) (g++[.lst ds])|.fl ds=>.ok (.ref g.length) (g++[.lst ds])|.ref n=>(match g[n]? with
  |some (.lst ds)=>.ok (.ref g.length) (g++[.lst ds])|_=>.stuck)
 |_=>.stuck
def pInt(x:D)(g:G):Res D:=match x with
 |.int i=>.ok (.int i) g|.bl b=>.ok (.int (if b then 1 else 0)) g|_=>.stuck
noncomputable def Yj(o e:ME):ME:=λσ g=>(o σ g).bind λx g1=>match x with
 |.ref n=>(match g1[n]? with
  |some (.lst _)=>(e σ g1).bind λy g2=>(match g2[n]? with
   |some (.lst ds)=>if ds.length<SZ then .ok .non (g2.set n (.lst (ds++[y]))) else .stuck
   |_=>.stuck)
  |_=>.stuck)
 |_=>.stuck
def pPop(x:D)(g:G):Res D:=match x with
 |.ref n=>(match g[n]? with
  |some (.lst ds)=>(match ds[ds.length-1]? with
   |some y=>.ok y (g.set n (.lst ds.dropLast))|none=>.stuck)
  |_=>.stuck)
 |_=>.stuck
inductive Ty where
 |non|bool|int|str|tuple|list|dict
 deriving DecidableEq
def Ty.name:Ty->String
 |.non => "NoneType" |.bool => "bool" |.int => "int" |.str => "str" |.tuple => "tuple" |.list => "list" |.dict => "dict"
def tyLe(t c:Ty):Bool:=t==c||(t==.bool&&c==.int)
def tyOf(g:G):D->Option Ty
 |.non=>some .non|.bl _=>some .bool|.int _=>some .int|.str _=>some .str|.tup _=>some .tuple|.fl _=>some .list|.ref n=>(match g[n]? with
  |some (.lst _)=>some .list|some (.dct _)=>some .dict|_=>none)
def Qbu(c:Ty)(x:D)(g:G):Res D:=match tyOf g x with
 |some t=>.ok (.bl (tyLe t c)) g|none=>.stuck
def allB:List D->Option Bool
 |[]=>some true|.bl b::r=>(allB r).map (b && ·)|_::_=>none
def pAll(x:D)(g:G):Res D:=match x with
 |.ref n=>(match g[n]? with
  |some (.lst ds)=>(match allB ds with
   |some b=>.ok (.bl b) g|none=>.stuck)
  |_=>.stuck)
 |_=>.stuck
def Qdp:D->Bool
 |.non=>true|.bl _=>true|.int _=>true|.str _=>true|_=>false
def eqF(x y:D):Bool:=match x,y with
 |.non,.non=>true|.bl a,.bl b=>a==b|.int i,.int j=>i==j|.str s,.str t=>s==t|.bl a,.int j=>b2I a==j|.int i,.bl b=>i==b2I b|_,_=>false
def pIn(neg:Bool)(x y:D)(g:G):Res D:=match QU g y with
 |some (_,ds)=>if Qdp x=true/\ds.all Qdp=true then .ok (.bl (if neg=true then !(ds.any λd=>eqF d x) else ds.any λd=>eqF d x)) g else .stuck
 |none=>.stuck
def skOf:Bool->D->Option (Sum (List Int) (List Int×Int×Int×List Int))
 |false,.tup ds=>(rowI ds).map .inl|true,.tup [.tup a,.int p,.int q,.tup b]=>(match rowI a,rowI b with
  |some x,some y=>some (.inr (x,p,q,y))|_,_=>none)
 |_,_=>none
def kD:Sum (List Int) (List Int×Int×Int×List Int)->D
 |.inl g=>.tup (g.map .int)|.inr (a,p,q,b)=>.tup [.tup (a.map .int),.int p,.int q,.tup (b.map .int)]
end L3
namespace L3
open PySem PySem.Spec PyProof.Rows L2
def SqF(K:Frag)(H:Hp)(a:Addr)(xs:List V):Prop:=(∃o,H a=some (.frz o (.lst xs)))\/SqL K (λ_=>none) a xs
theorem SqF.sq{K:Frag}{H:Hp}{a:Addr}{xs:List V}(h:SqF K H a xs):SqL K H a xs:=by
 rcases h with⟨o,h⟩|(h|⟨o,h⟩)|h
 ·exact .inl (.inr ⟨o,h⟩)
 ·cases h
 ·cases h
 ·exact .inr h
mutual
inductive Den(K:Frag)(μ:List Addr)(H:Hp):V->D->Prop where
 |non:Den K μ H .non .non
 |bl (b:Bool):Den K μ H (.bl b) (.bl b)
 |int (i:Int):Den K μ H (.int i) (.int i)
 |str (x:Str):Den K μ H (.str x) (.str x)
 |ref {n:Nat} {a:Addr} (h:μ[n]?=some a):Den K μ H (.ref a) (.ref n)
 |tup {a:Addr} {vs:List V} {ds:List D} (h:SqT K H a vs) (hs:Dens K μ H vs ds):Den K μ H (.ref a) (.tup ds)
 |fl {a:Addr} {vs:List V} {ds:List D} (h:SqF K H a vs) (hs:Dens K μ H vs ds):Den K μ H (.ref a) (.fl ds)
inductive Dens(K:Frag)(μ:List Addr)(H:Hp):List V->List D->Prop where
 |nil:Dens K μ H [] []
 |cons {v:V} {d:D} {vs:List V} {ds:List D} (h:Den K μ H v d) (hs:Dens K μ H vs ds):Dens K μ H (v::vs) (d::ds)
end
structure Ext(K:Frag)(μ:List Addr)(H:Hp)(μ':List Addr)(H':Hp):Prop where
 pre:∃t,μ'=μ++t
 tup:∀a xs,SqT K H a xs->SqT K H' a xs
 fl:∀a xs,SqF K H a xs->SqF K H' a xs
 frz:∀a o u,H a=some (.frz o u)->H' a=some (.frz o u)
section
variable{K:Frag}{ca:Nat->Addr}{μ μ' μ'':List Addr}{H H' H'':Hp}
theorem Ext.refl:Ext K μ H μ H:=⟨⟨[],by simp⟩,λ_ _ h=>h,λ_ _ h=>h,λ_ _ _ h=>h⟩
theorem Ext.trans(a:Ext K μ H μ' H')(b:Ext K μ' H' μ'' H''):Ext K μ H μ'' H'':=by obtain⟨t,e⟩:=a.pre;obtain⟨u,f⟩:=b.pre;exact⟨⟨t++u,by rw[f,e,UQ]⟩,λx xs h=>b.tup x xs (a.tup x xs h),λx xs h=>b.fl x xs (a.fl x xs h),λx o u h=>b.frz x o u (a.frz x o u h)⟩
theorem Ext.at(e:Ext K μ H μ' H'){n:Nat}{a:Addr}(h:μ[n]?=some a):μ'[n]?=some a:=by obtain⟨t,rfl⟩:=e.pre;have hl:n<μ.length:=(Ul.mp h).1;rw[Ui hl];exact h
mutual
theorem Den.mono(e:Ext K μ H μ' H'):∀{v:V}{d:D},Den K μ H v d->Den K μ' H' v d
 |_,_,.non=>.non|_,_,.bl b=>.bl b|_,_,.int i=>.int i|_,_,.str x=>.str x|_,_,.ref h=>.ref (e.at h)|_,_,.tup h hs=>.tup (e.tup _ _ h) (Dens.mono e hs)|_,_,.fl h hs=>.fl (e.fl _ _ h) (Dens.mono e hs)
theorem Dens.mono(e:Ext K μ H μ' H'):∀{vs:List V}{ds:List D},Dens K μ H vs ds->Dens K μ' H' vs ds
 |_,_,.nil=>.nil|_,_,.cons h hs=>.cons (Den.mono e h) (Dens.mono e hs)
end
theorem Dens.length:∀{vs:List V}{ds:List D},Dens K μ H vs ds->vs.length=ds.length
 |_,_,.nil=>rfl|_,_,.cons _ t=>by rw[Uy,Uy,Dens.length t]
theorem Dens.get:∀{vs:List V}{ds:List D}{i:Nat}{d:D},Dens K μ H vs ds->ds[i]?=some d->∃v,vs[i]?=some v/\Den K μ H v d
 |_,_,_,_,.nil,e=>by simp at e
 |_,_,0,_,.cons r _,e=>by simp at e;subst e;exact⟨_,rfl,r⟩
 |_,_,i+1,x,.cons _ t,e=>by obtain⟨u,h1,h2⟩:=Dens.get (i:=i) (d:=x) t (by simpa using e);exact⟨u,by simpa using h1,h2⟩
theorem Dens.getV:∀{vs:List V}{ds:List D}{i:Nat}{v:V},Dens K μ H vs ds->vs[i]?=some v->∃d,ds[i]?=some d/\Den K μ H v d
 |_,_,_,_,.nil,e=>by simp at e
 |_,_,0,_,.cons r _,e=>by simp at e;subst e;exact⟨_,rfl,r⟩
 |_,_,i+1,x,.cons _ t,e=>by obtain⟨u,h1,h2⟩:=Dens.getV (i:=i) (v:=x) t (by simpa using e);exact⟨u,by simpa using h1,h2⟩
theorem Dens.append:∀{vs ws:List V}{ds es:List D},Dens K μ H vs ds->Dens K μ H ws es->Dens K μ H (vs++ws) (ds++es)
 |_,_,_,_,.nil,h=>h|_,_,_,_,.cons a b,h=>.cons a (Dens.append b h)
theorem Dens.set(r:Den K μ H x u):∀{xs:List V}{us:List D}(i:Nat),Dens K μ H xs us->Dens K μ H (xs.set i x) (us.set i u)
 |_,_,_,.nil=>.nil|_,_,0,.cons _ t=>.cons r t|_,_,i+1,.cons q t=>.cons q (Dens.set r i t)
theorem Dens.take:∀{xs:List V}{us:List D}(n:Nat),Dens K μ H xs us->Dens K μ H (xs.take n) (us.take n)
 |_,_,0,_=>.nil|_,_,_+1,.nil=>.nil|_,_,n+1,.cons r t=>.cons r (Dens.take n t)
theorem Dens.drop:∀{xs:List V}{us:List D}(n:Nat),Dens K μ H xs us->Dens K μ H (xs.drop n) (us.drop n)
 |_,_,0,r=>r|_,_,_+1,.nil=>.nil|_,_,n+1,.cons _ t=>Dens.drop n t
theorem Dens.ints(ns:List Int):Dens K μ H (ns.map V.int) (ns.map D.int):=by
 induction ns with
 |nil=>exact .nil|cons n r ih=>exact .cons (.int n) ih
def FRel(K:Frag)(μ:List Addr)(H:Hp):List (Str×V)->List (Str×D)->Prop:=Paired λp q=>p.1=q.1/\Den K μ H p.2 q.2
def KRel(K:Frag)(μ:List Addr)(H:Hp):List (Key×V)->List (Key×D)->Prop:=Paired λp q=>p.1=q.1/\Den K μ H p.2 q.2
def XOb(ca:Nat->Addr)(x:Xc)(o:Obj):Prop:=o.cls=.ref (ca x.1)/\o.dict=none
theorem XOb.map(h:XOb ca x o)(f:Array Value->Array Value):XOb ca x (o.mapFields f):=by obtain⟨c,d,dt,sl⟩:=o;cases dt<;>exact h
def XO(ca:Nat->Addr)(a:Addr)(x:Xc):HO:=.ext λh=>∃o vs,h.get? a=some o/\XOb ca x o/\o.data=.fields vs
def ND(a:Addr)(xs:List (NK.SK×Addr×Value)):HO:=.ext (NK.DObj a xs)
def NRel(K:Frag)(t:Bool)(μ:List Addr)(H:Hp):List (NK.SK×Addr×Value)->List (NK.SK×D)->Prop:=Paired λx q=>x.1=q.1/\(∃d,skOf t d=some x.1/\Den K μ H (.ref x.2.1) d)/\∃v,RelV v x.2.2/\Den K μ H v q.2
theorem NRel.mono(e:Ext K μ H μ' H')(h:NRel K t μ H xs ks):NRel K t μ' H' xs ks:=Paired.imp' (λ_ _ q=>⟨q.1,let ⟨d,a,b⟩:=q.2.1;⟨d,a,b.mono e⟩,let ⟨v,a,b⟩:=q.2.2;⟨v,a,b.mono e⟩⟩) h
def ORep(K:Frag)(ca:Nat->Addr)(μ:List Addr)(H:Hp)(a:Addr):GO->Prop
 |.dct ks=>∃kv,H a=some (.dK kv)/\KRel K μ H kv ks|.exc x=>H a=some (XO ca a x)|.dfz ks=>∃o kv,H a=some (.frz o (.dK kv))/\KRel K μ H kv ks|.dcn t ks=>∃xs,H a=some (ND a xs)/\NRel K t μ H xs ks/\(xs.map (·.1)).Nodup/\(a==sysModules)=false|.dcf t ks=>∃o xs,H a=some (.frz o (ND a xs))/\NRel K t μ H xs ks/\(xs.map (·.1)).Nodup/\(a==sysModules)=false|.lst ds=>∃vs,H a=some (.lst vs)/\Dens K μ H vs ds|.ins c fs=>∃dx fv,H a=some (.ins (ca c) dx fv)/\FRel K μ H fv fs
structure GRep(K:Frag)(ca:Nat->Addr)(μ:List Addr)(H:Hp)(g:G):Prop where
 len:μ.length=g.length
 nd:μ.Nodup
 obj:∀(n:Nat)(a:Addr)(o:GO),μ[n]?=some a->g[n]?=some o->ORep K ca μ H a o
structure Rep(K:Frag)(ca:Nat->Addr)(μ:List Addr)(σ3:S3)(g:G)(σ:L2.St)(H:Hp):Prop where
 g:GRep K ca μ H g
 len:σ.length=σ3.length
 st:∀(i:Nat)(d:D),σ3[i]?=some (some d)->∃v,σ[i]?=some (some v)/\Den K μ H v d
theorem FRel.mono(e:Ext K μ H μ' H')(h:FRel K μ H fv fs):FRel K μ' H' fv fs:=Paired.imp' (λ_ _ q=>⟨q.1,q.2.mono e⟩) h
theorem KRel.mono(e:Ext K μ H μ' H')(h:KRel K μ H fv fs):KRel K μ' H' fv fs:=Paired.imp' (λ_ _ q=>⟨q.1,q.2.mono e⟩) h
theorem Rep.go{σ3:S3}{g g':G}{σ:L2.St}(r:Rep K ca μ σ3 g σ H)(e:Ext K μ H μ' H')(h:GRep K ca μ' H' g'):Rep K ca μ' σ3 g' σ H':=⟨h,r.len,λi d z=>by obtain⟨v,h1,h2⟩:=r.st i d z;exact⟨v,h1,h2.mono e⟩⟩
theorem GRep.addr{g:G}(r:GRep K ca μ H g){n:Nat}{o:GO}(h:g[n]?=some o):∃a,μ[n]?=some a/\ORep K ca μ H a o:=by
 have hl:n<g.length:=(Ul.mp h).1;have hm:n<μ.length:=by rw[r.len];exact hl
 exact⟨μ[n],by simp[hm],r.obj n _ o (by simp[hm]) h⟩
theorem ORep.is(h:ORep K ca μ H a o):∃u,H a=some u:=by
 cases o with
 |lst ds=>obtain⟨_,h,_⟩:=h;exact⟨_,h⟩|ins c fs=>obtain⟨_,_,h,_⟩:=h;exact⟨_,h⟩|dct ks=>obtain⟨_,h,_⟩:=h;exact⟨_,h⟩|exc x=>exact⟨_,h⟩|dfz ks=>obtain⟨_,_,h,_⟩:=h;exact⟨_,h⟩|dcn t ks=>obtain⟨_,h,_⟩:=h;exact⟨_,h⟩|dcf t ks=>obtain⟨_,_,h,_⟩:=h;exact⟨_,h⟩
theorem GRep.known(r:GRep K ca μ H g)(h:a∈μ):∃u,H a=some u:=by
 obtain⟨n,hn⟩:=Bs h;have hl:n<μ.length:=(Ul.mp hn).1;have hg:n<g.length:=by rw[<-r.len];exact hl
 exact(r.obj n a g[n] hn (by simp[hg])).is
theorem Zo(hp:H p=none):Ext K μ H μ (upd H p o):=⟨⟨[],by simp⟩,λa xs h=>by
 rcases h with(h|⟨u,h⟩)|h
 ·exact .inl (.inl (by rw[QL (QZ h hp)];exact h))
 ·exact .inl (.inr ⟨u,by rw[QL (QZ h hp)];exact h⟩)
 ·exact .inr h,λa xs h=>by
 rcases h with⟨u,h⟩|h
 ·exact .inl ⟨u,by rw[QL (QZ h hp)];exact h⟩
 ·exact .inr h,λa o u h=>by rw[QL (QZ h hp)];exact h⟩
theorem ORep.mono(e:Ext K μ H μ' H')(ha:∀u,H a=some u->H' a=some u)(h:ORep K ca μ H a o):ORep K ca μ' H' a o:=by
 cases o with
 |lst ds=>obtain⟨vs,h,q⟩:=h;exact⟨vs,ha _ h,q.mono e⟩|ins c fs=>obtain⟨dx,fv,h,q⟩:=h;exact⟨dx,fv,ha _ h,q.mono e⟩|dct ks=>obtain⟨kv,h,q⟩:=h;exact⟨kv,ha _ h,q.mono e⟩|exc x=>exact ha _ h|dfz ks=>obtain⟨o,kv,h,q⟩:=h;exact⟨o,kv,ha _ h,q.mono e⟩|dcn t ks=>obtain⟨xs,h,q,r⟩:=h;exact⟨xs,ha _ h,q.mono e,r⟩|dcf t ks=>obtain⟨o,xs,h,q,r⟩:=h;exact⟨o,xs,ha _ h,q.mono e,r⟩
theorem GRep.new(r:GRep K ca μ H g)(hp:H p=none):GRep K ca μ (upd H p o) g:=⟨r.len,r.nd,λn a u h1 h2=>(r.obj n a u h1 h2).mono (Zo hp) λz hz=>by rw[QL (QZ hz hp)];exact hz⟩
theorem QD(hp:H p=none):Ext K μ H (μ++[p]) (upd H p o):=⟨⟨[p],rfl⟩,(Zo (μ:=μ) hp).tup,(Zo (μ:=μ) hp).fl,(Zo (K:=K) (μ:=μ) hp).frz⟩
theorem GRep.push(r:GRep K ca μ H g)(hp:H p=none)(ho:ORep K ca (μ++[p]) (upd H p o) p u):GRep K ca (μ++[p]) (upd H p o) (g++[u]):=by
 have nm:p∉μ:=λh=>by obtain⟨z,hz⟩:=r.known h;rw[hp]at hz;cases hz
 refine⟨by rw[Uh,Uh,r.len];rfl,?_,λn a w h1 h2=>?_⟩
 ·rw[T7];exact⟨r.nd,by simp,λx hx y hy e=>nm (by rw[Uf.mp hy]at e;rw[<-e];exact hx)⟩
 ·by_cases hn:n<g.length
  ·rw[Ui hn]at h2;rw[Ui (by rw[r.len];exact hn)]at h1;exact(r.obj n a w h1 h2).mono (QD hp) λz hz=>by rw[QL (QZ hz hp)];exact hz
  ·rw[UN (by omega)]at h2;rw[UN (by rw[r.len];omega)]at h1;have e0:n-g.length=0:=by have:=(Ul.mp h2).1;simp at this;omega
   rw[e0]at h2;rw[r.len,e0]at h1;simp at h1 h2;subst h1 h2;exact ho
theorem Ya(h:H a=some o)(no:∀xs,o≠.tup xs)(nf:∀b u,o≠.frz b u):Ext K μ H μ (upd H a o'):=⟨⟨[],by simp⟩,λb xs hb=>by
 rcases hb with(z|⟨u,z⟩)|z
 ·exact .inl (.inl (by rw[QL (QdR z h (Ne.symm (no xs)))];exact z))
 ·exact .inl (.inr ⟨u,by rw[QL (QdR z h (Ne.symm (nf u _)))];exact z⟩)
 ·exact .inr z,λb xs hb=>by
 rcases hb with⟨u,z⟩|z
 ·exact .inl ⟨u,by rw[QL (QdR z h (Ne.symm (nf u _)))];exact z⟩
 ·exact .inr z,λb u v z=>by rw[QL (QdR z h (Ne.symm (nf u v)))];exact z⟩
theorem GRep.set(r:GRep K ca μ H g)(hn:μ[n]?=some a)(h:H a=some o)(no:∀xs,o≠.tup xs)(nf:∀b u,o≠.frz b u)(ho:ORep K ca μ (upd H a o') a u):
  GRep K ca μ (upd H a o') (g.set n u):=by
 refine⟨by rw[UG,r.len],r.nd,λm b w h1 h2=>?_⟩;by_cases e:m=n
 ·subst e;rw[hn]at h1;cases h1;have hl:m<g.length:=by rw[<-r.len];exact(Ul.mp hn).1
  rw[UU hl]at h2;cases h2;exact ho
 ·rw[Uc (Ne.symm e)]at h2;have nb:b≠a:=λz=>by subst z;have e1:=(Ul.mp h1);have e2:=(Ul.mp hn);obtain⟨l1,q1⟩:=e1;obtain⟨l2,q2⟩:=e2;exact e ((WW r.nd).mp (q1.trans q2.symm))
  exact(r.obj m b w h1 h2).mono (Ya h no nf) λz hz=>by rw[QL nb];exact hz
abbrev XS:=Xc->L2.St->Hp->Prop
def FpW(X:Cx)(pins:LAO)(H:Hp)(b:Addr):Prop:=H b=none/\b≠X.env.locals/\b∉X.fs/\(b∈X.ex\/X.s₀.heap.get? b=none)/\(∀x c,X.env.cells.lookup x=some c->c≠b)/\∀p∈X.pn++pins,p.1≠b
structure Fl(X:Cx)(ca:Nat->Addr)(a:Addr)(x:Xc)(H:Hp)(h:Heap):Prop where
 fp:FpW X [] H a
 ln:x.2=none
 ex:∃oe vs,h.get? a=some oe/\XOb ca x oe/\oe.data=.fields vs/\1<vs.size/\(vs[1]?=some .none\/∃T oT ts,vs[1]?=some (.ref T)/\T≠a/\FpW X [] H T/\h.get? T=some oT/\oT.data=.fields ts/\3<ts.size/\(ts[3]?=some .none\/ts[3]?=some (rawInt X.env.locals)))
def XE(X:Cx)(ca:Nat->Addr)(Φ:XS):Value->Shared->Prop:=λv s=>∃a x σ H,v=.ref a/\Inv X [] σ H s/\Fl X ca a x H s.heap/\Φ x σ H
abbrev xon(X:Cx)(pn:LAO):Cx:={X with pn:=pn,xe:=λ_ _=>False}
abbrev xat(X:Cx)(ca:Nat->Addr)(pn:LAO)(Φ:XS):Cx:={X with pn:=pn,xe:=XE (xon X pn) ca Φ}
def RaP(K:Frag)(ca:Nat->Addr)(Φ:XS)(σ:L2.St)(H:Hp)(μ:List Addr)(x:Xc)(g':G):Prop:=∀H' μ',Ext K μ H μ' H'->GRep K ca μ' H' g'->Φ x σ H'
def Post(K:Frag)(ca:Nat->Addr)(Φ:XS)(σ:L2.St)(Q:VK)(H:Hp)(μ:List Addr):Res D->Prop
 |.ok d g'=>∀v H' μ',Ext K μ H μ' H'->GRep K ca μ' H' g'->Den K μ' H' v d->Q v H'|.raise x g'=>RaP K ca Φ σ H μ x g'|.stuck=>False
def PostT(K:Frag)(ca:Nat->Addr)(Φ:XS)(σ:L2.St)(Q:Bool->Hp->Prop)(H:Hp)(μ:List Addr):Res Bool->Prop
 |.ok b g'=>∀H' μ',Ext K μ H μ' H'->GRep K ca μ' H' g'->Q b H'|.raise x g'=>RaP K ca Φ σ H μ x g'|.stuck=>False
def PostA(K:Frag)(ca:Nat->Addr)(Φ:XS)(σ:L2.St)(Q:List V->Hp->Prop)(H:Hp)(μ:List Addr):Res (List D)->Prop
 |.ok ds g'=>∀vs H' μ',Ext K μ H μ' H'->GRep K ca μ' H' g'->Dens K μ' H' vs ds->Q vs H'|.raise x g'=>RaP K ca Φ σ H μ x g'|.stuck=>False
def PostS(K:Frag)(ca:Nat->Addr)(Φ:XS)(E:Ends)(H:Hp)(μ:List Addr):Out->Prop
 |.nx σ3 g'=>∀σ' H' μ',Ext K μ H μ' H'->Rep K ca μ' σ3 g' σ' H'->E.nx σ' H'|.bk σ3 g'=>∀σ' H' μ',Ext K μ H μ' H'->Rep K ca μ' σ3 g' σ' H'->E.bk σ' H'|.ct σ3 g'=>∀σ' H' μ',Ext K μ H μ' H'->Rep K ca μ' σ3 g' σ' H'->E.ct σ' H'|.rt d g'=>∀v H' μ',Ext K μ H μ' H'->GRep K ca μ' H' g'->Den K μ' H' v d->E.rt v H'|.raise x σ3 g'=>∀σ' H' μ',Ext K μ H μ' H'->Rep K ca μ' σ3 g' σ' H'->Φ x σ' H'|.stuck=>False
def up(K:Frag)(ca:Nat->Addr)(Φ:XS)(m:ME):TE:=λσ H Q=>∃σ3 g μ,Rep K ca μ σ3 g σ H/\Post K ca Φ σ Q H μ (m σ3 g)
def upT(K:Frag)(ca:Nat->Addr)(Φ:XS)(m:MT):TT:=λσ H Q=>∃σ3 g μ,Rep K ca μ σ3 g σ H/\PostT K ca Φ σ Q H μ (m σ3 g)
def upA(K:Frag)(ca:Nat->Addr)(Φ:XS)(m:MA):TA:=λσ H Q=>∃σ3 g μ,Rep K ca μ σ3 g σ H/\PostA K ca Φ σ Q H μ (m σ3 g)
def upS(K:Frag)(ca:Nat->Addr)(Φ:XS)(m:MS):TS:=λE σ H=>∃σ3 g μ,Rep K ca μ σ3 g σ H/\PostS K ca Φ E H μ (m σ3 g)
def PE3(ca:Nat->Addr)(X:Cx)(e:Expr)(m:ME):Prop:=∀pn Φ,PE (xat X ca pn Φ) e (up X.K ca Φ m)
def PT3(ca:Nat->Addr)(X:Cx)(e:Expr)(m:MT):Prop:=∀pn Φ,PT (xat X ca pn Φ) e (upT X.K ca Φ m)
def PW3(ca:Nat->Addr)(X:Cx)(e:Expr)(m:MT):Prop:=∀pn Φ,PW (xat X ca pn Φ) e (upT X.K ca Φ m)
def PA3(ca:Nat->Addr)(X:Cx)(es:List Expr)(m:MA):Prop:=∀pn Φ,PA (xat X ca pn Φ) es (upA X.K ca Φ m)
def PS3(ca:Nat->Addr)(X:Cx)(st:Stmt)(m:MS):Prop:=∀pn Φ,PS (xat X ca pn Φ) st (upS X.K ca Φ m)
def PSs3(ca:Nat->Addr)(X:Cx)(sts:List Stmt)(m:MS):Prop:=∀pn Φ,PSs (xat X ca pn Φ) sts (upS X.K ca Φ m)
variable{Φ:XS}{σ:L2.St}
theorem RaP.go(e:Ext K μ H μ' H')(h:RaP K ca Φ σ H μ x g'):RaP K ca Φ σ H' μ' x g':=λH2 μ2 e2=>h H2 μ2 (e.trans e2)
theorem Post.go(e:Ext K μ H μ' H')(h:Post K ca Φ σ Q H μ r):Post K ca Φ σ Q H' μ' r:=by
 cases r with
 |ok d g'=>exact λv H2 μ2 e2=>h v H2 μ2 (e.trans e2)
 |raise _ _=>exact RaP.go e h|stuck=>exact h
theorem PostT.go(e:Ext K μ H μ' H')(h:PostT K ca Φ σ Q H μ r):PostT K ca Φ σ Q H' μ' r:=by
 cases r with
 |ok d g'=>exact λH2 μ2 e2=>h H2 μ2 (e.trans e2)
 |raise _ _=>exact RaP.go e h|stuck=>exact h
theorem PostA.go(e:Ext K μ H μ' H')(h:PostA K ca Φ σ Q H μ r):PostA K ca Φ σ Q H' μ' r:=by
 cases r with
 |ok d g'=>exact λv H2 μ2 e2=>h v H2 μ2 (e.trans e2)
 |raise _ _=>exact RaP.go e h|stuck=>exact h
theorem PostS.go(e:Ext K μ H μ' H')(h:PostS K ca Φ E H μ r):PostS K ca Φ E H' μ' r:=by
 cases r with
 |nx _ _=>exact λv H2 μ2 e2=>h v H2 μ2 (e.trans e2)
 |bk _ _=>exact λv H2 μ2 e2=>h v H2 μ2 (e.trans e2)
 |ct _ _=>exact λv H2 μ2 e2=>h v H2 μ2 (e.trans e2)
 |rt _ _=>exact λv H2 μ2 e2=>h v H2 μ2 (e.trans e2)
 |raise _ _ _=>exact λv H2 μ2 e2=>h v H2 μ2 (e.trans e2)
 |stuck=>exact h
theorem Post.pure(h:Post K ca Φ σ Q H μ (.ok d g))(r:GRep K ca μ H g)(q:Den K μ H v d):Q v H:=h v H μ .refl r q
theorem RaP.stmt(R:Rep K ca μ σ3 g σ H)(h:PostS K ca Φ E H μ (.raise x σ3 g')):RaP K ca Φ σ H μ x g':=λH' μ' e r=>h σ H' μ' e (R.go e r)
theorem QfZ{m:ME}{α:Type}{k:D->G->Res α}{σ3:S3}{g:G}(R:Rep K ca μ σ3 g σ H){P:Res α->Hp->List Addr->Prop}(hp:P ((m σ3 g).bind k) H μ)(hst:∀H μ,¬P .stuck H μ)(hra:∀e g H μ,P (.raise e g) H μ->RaP K ca Φ σ H μ e g)(hgo:∀r H μ H' μ',Ext K μ H μ' H'->P r H μ->P r H' μ'):
  up K ca Φ m σ H λx H1=>∃d g1 μ1,Ext K μ H μ1 H1/\Rep K ca μ1 σ3 g1 σ H1/\Den K μ1 H1 x d/\P (k d g1) H1 μ1:=by
 refine⟨σ3,g,μ,R,?_⟩;cases hm:m σ3 g with
 |ok d g1 =>rw[hm]at hp;exact λv H1 μ1 e1 r1 d1=>⟨d,g1,μ1,e1,R.go e1 r1,d1,hgo _ _ _ _ _ e1 hp⟩
 |raise e g1=>rw[hm]at hp;exact hra _ _ _ _ hp|stuck=>rw[hm]at hp;exact(hst _ _ hp).elim
theorem Ju(R:Rep K ca μ σ3 g σ H)(hp:Post K ca Φ σ Q H μ ((m σ3 g).bind k)):
  up K ca Φ m σ H λx H1=>∃d g1 μ1,Ext K μ H μ1 H1/\Rep K ca μ1 σ3 g1 σ H1/\Den K μ1 H1 x d/\Post K ca Φ σ Q H1 μ1 (k d g1):=QfZ (P:=λr H μ=>Post K ca Φ σ Q H μ r) R hp (λ_ _ h=>h) (λ_ _ _ _ h=>h) λ_ _ _ _ _ e h=>h.go e
theorem QoT(R:Rep K ca μ σ3 g σ H)(hp:PostT K ca Φ σ Q H μ ((m σ3 g).bind k)):
  up K ca Φ m σ H λx H1=>∃d g1 μ1,Ext K μ H μ1 H1/\Rep K ca μ1 σ3 g1 σ H1/\Den K μ1 H1 x d/\PostT K ca Φ σ Q H1 μ1 (k d g1):=QfZ (P:=λr H μ=>PostT K ca Φ σ Q H μ r) R hp (λ_ _ h=>h) (λ_ _ _ _ h=>h) λ_ _ _ _ _ e h=>h.go e
theorem Qm8(R:Rep K ca μ σ3 g σ H)(hp:PostA K ca Φ σ Q H μ ((m σ3 g).bind k)):
  up K ca Φ m σ H λx H1=>∃d g1 μ1,Ext K μ H μ1 H1/\Rep K ca μ1 σ3 g1 σ H1/\Den K μ1 H1 x d/\PostA K ca Φ σ Q H1 μ1 (k d g1):=QfZ (P:=λr H μ=>PostA K ca Φ σ Q H μ r) R hp (λ_ _ h=>h) (λ_ _ _ _ h=>h) λ_ _ _ _ _ e h=>h.go e
theorem QgW{m:MT}{α:Type}{k:Bool->G->Res α}{σ3:S3}{g:G}(R:Rep K ca μ σ3 g σ H){P:Res α->Hp->List Addr->Prop}(hp:P ((m σ3 g).bind k) H μ)(hst:∀H μ,¬P .stuck H μ)(hra:∀e g H μ,P (.raise e g) H μ->RaP K ca Φ σ H μ e g)(hgo:∀r H μ H' μ',Ext K μ H μ' H'->P r H μ->P r H' μ'):
  upT K ca Φ m σ H λb H1=>∃g1 μ1,Ext K μ H μ1 H1/\Rep K ca μ1 σ3 g1 σ H1/\P (k b g1) H1 μ1:=by
 refine⟨σ3,g,μ,R,?_⟩;cases hm:m σ3 g with
 |ok d g1 =>rw[hm]at hp;exact λH1 μ1 e1 r1=>⟨g1,μ1,e1,R.go e1 r1,hgo _ _ _ _ _ e1 hp⟩
 |raise e g1=>rw[hm]at hp;exact hra _ _ _ _ hp|stuck=>rw[hm]at hp;exact(hst _ _ hp).elim
theorem QoU(R:Rep K ca μ σ3 g σ H)(hp:Post K ca Φ σ Q H μ ((m σ3 g).bind k)):
  upT K ca Φ m σ H λb H1=>∃g1 μ1,Ext K μ H μ1 H1/\Rep K ca μ1 σ3 g1 σ H1/\Post K ca Φ σ Q H1 μ1 (k b g1):=QgW (P:=λr H μ=>Post K ca Φ σ Q H μ r) R hp (λ_ _ h=>h) (λ_ _ _ _ h=>h) λ_ _ _ _ _ e h=>h.go e
theorem QiX(R:Rep K ca μ σ3 g σ H)(hp:PostT K ca Φ σ Q H μ ((m σ3 g).bind k)):
  upT K ca Φ m σ H λb H1=>∃g1 μ1,Ext K μ H μ1 H1/\Rep K ca μ1 σ3 g1 σ H1/\PostT K ca Φ σ Q H1 μ1 (k b g1):=QgW (P:=λr H μ=>PostT K ca Φ σ Q H μ r) R hp (λ_ _ h=>h) (λ_ _ _ _ h=>h) λ_ _ _ _ _ e h=>h.go e
theorem QgX{m:MA}{α:Type}{k:List D->G->Res α}{σ3:S3}{g:G}(R:Rep K ca μ σ3 g σ H){P:Res α->Hp->List Addr->Prop}(hp:P ((m σ3 g).bind k) H μ)(hst:∀H μ,¬P .stuck H μ)(hra:∀e g H μ,P (.raise e g) H μ->RaP K ca Φ σ H μ e g)(hgo:∀r H μ H' μ',Ext K μ H μ' H'->P r H μ->P r H' μ'):
  upA K ca Φ m σ H λxs H1=>∃ds g1 μ1,Ext K μ H μ1 H1/\Rep K ca μ1 σ3 g1 σ H1/\Dens K μ1 H1 xs ds/\P (k ds g1) H1 μ1:=by
 refine⟨σ3,g,μ,R,?_⟩;cases hm:m σ3 g with
 |ok d g1 =>rw[hm]at hp;exact λv H1 μ1 e1 r1 d1=>⟨d,g1,μ1,e1,R.go e1 r1,d1,hgo _ _ _ _ _ e1 hp⟩
 |raise e g1=>rw[hm]at hp;exact hra _ _ _ _ hp|stuck=>rw[hm]at hp;exact(hst _ _ hp).elim
theorem QdA(R:Rep K ca μ σ3 g σ H)(hp:Post K ca Φ σ Q H μ ((m σ3 g).bind k)):
  upA K ca Φ m σ H λxs H1=>∃ds g1 μ1,Ext K μ H μ1 H1/\Rep K ca μ1 σ3 g1 σ H1/\Dens K μ1 H1 xs ds/\Post K ca Φ σ Q H1 μ1 (k ds g1):=QgX (P:=λr H μ=>Post K ca Φ σ Q H μ r) R hp (λ_ _ h=>h) (λ_ _ _ _ h=>h) λ_ _ _ _ _ e h=>h.go e
theorem Ql9(R:Rep K ca μ σ3 g σ H)(hp:PostA K ca Φ σ Q H μ ((m σ3 g).bind k)):
  upA K ca Φ m σ H λxs H1=>∃ds g1 μ1,Ext K μ H μ1 H1/\Rep K ca μ1 σ3 g1 σ H1/\Dens K μ1 H1 xs ds/\PostA K ca Φ σ Q H1 μ1 (k ds g1):=QgX (P:=λr H μ=>PostA K ca Φ σ Q H μ r) R hp (λ_ _ h=>h) (λ_ _ _ _ h=>h) λ_ _ _ _ _ e h=>h.go e
theorem Q2(h:up K ca Φ m σ H Q)(i:∀x H1,Q x H1->Q' x H1):up K ca Φ m σ H Q':=by
 obtain⟨σ3,g,μ,R,p⟩:=h;refine⟨σ3,g,μ,R,?_⟩;cases hm:m σ3 g with
 |ok d g1=>rw[hm]at p;exact λv H1 μ1 e r q=>i _ _ (p v H1 μ1 e r q)
 |raise e g1=>rw[hm]at p;exact p|stuck=>rw[hm]at p;exact p
theorem Qcr(h:upT K ca Φ m σ H Q)(i:∀x H1,Q x H1->Q' x H1):upT K ca Φ m σ H Q':=by
 obtain⟨σ3,g,μ,R,p⟩:=h;refine⟨σ3,g,μ,R,?_⟩;cases hm:m σ3 g with
 |ok d g1=>rw[hm]at p;exact λH1 μ1 e r=>i _ _ (p H1 μ1 e r)
 |raise e g1=>rw[hm]at p;exact p|stuck=>rw[hm]at p;exact p
theorem Jd(h:upA K ca Φ m σ H Q)(i:∀x H1,Q x H1->Q' x H1):upA K ca Φ m σ H Q':=by
 obtain⟨σ3,g,μ,R,p⟩:=h;refine⟨σ3,g,μ,R,?_⟩;cases hm:m σ3 g with
 |ok d g1=>rw[hm]at p;exact λv H1 μ1 e r q=>i _ _ (p v H1 μ1 e r q)
 |raise e g1=>rw[hm]at p;exact p|stuck=>rw[hm]at p;exact p
end
theorem Zi(h:PE X e t)(i:∀σ H Q,t' σ H Q->t σ H Q):PE X e t':=λpins s σ H Q I q=>h pins s σ H Q I (i σ H Q q)
theorem Qf0(h:PT X e t)(i:∀σ H Q,t' σ H Q->t σ H Q):PT X e t':=λpins s σ H Q I q=>h pins s σ H Q I (i σ H Q q)
theorem QiY(h:PW X e t)(i:∀σ H Q,t' σ H Q->t σ H Q):PW X e t':=λw pins s σ H Q I q=>h w pins s σ H Q I (i σ H Q q)
theorem QiZ(h:PA X e t)(i:∀σ H Q,t' σ H Q->t σ H Q):PA X e t':=λp pins s σ H Q I q=>h p pins s σ H Q I (i σ H Q q)
theorem YI(h:PS X e t)(i:∀D σ H,t' D σ H->t D σ H):PS X e t':=λpins s σ H D I q=>h pins s σ H D I (i D σ H q)
theorem QgY(h:PSs X e t)(i:∀D σ H,t' D σ H->t D σ H):PSs X e t':=λpins s σ H D I q=>h pins s σ H D I (i D σ H q)
section
variable{X:Cx}{ca:Nat->Addr}{a b c e:Expr}{es rest:List Expr}{ma mb me:ME}{tc ta tb:MT}{mr:MA}{pos:Pos}
theorem Qb(i:Nat){x:Str}(hN:X.N[i]?=some x:=by rfl)(hv:Vis X.env.scope x:=by first|exact Or.inl rfl|exact Or.inr (Or.inl rfl)|exact Or.inr (Or.inr rfl))(hd:(x==("__debug__" : Str))=false:=by decide)(hcd:(x==("__classdict__" : Str))=false:=by decide):PE3 ca X (.Name x pos) (mVar i):=
 λpn Φ=>Zi (Qn9 (X:=xat X ca pn Φ) hN hv hd hcd) λσ H Q hQ=>by
  obtain⟨σ3,g,μ,R,p⟩:=hQ;unfold mVar at p;cases e:σ3[i]? with
  |none=>rw[e]at p;exact p.elim|some o=>
   cases o with
   |none=>rw[e]at p;exact p.elim|some d =>rw[e]at p;obtain⟨v,h1,h2⟩:=R.st i d e;exact⟨v,h1,p v H μ .refl R.g h2⟩
theorem Qi0(h:∀pn Φ,PE (xat X ca pn Φ) e (tC v))(hd:∀K μ H,Den K μ H v d):PE3 ca X e (mLit d):=λpn Φ=>Zi (h pn Φ) λ_ H _ ⟨_,_,μ,R,p⟩=>p v H μ .refl R.g (hd _ _ _)
theorem Qi  : PE3 ca X (.Constant (.int i) j pos) (mLit (.int i)):=Qi0 (λ_ _=>Qoa) λ_ _ _=>.int i
theorem Yw  : PE3 ca X (.Constant (.str x) j pos) (mLit (.str x)):=Qi0 (λ_ _=>Qoc) λ_ _ _=>.str x
theorem r_bl  : PE3 ca X (.Constant (.bool x) j pos) (mLit (.bl x)):=Qi0 (λ_ _=>QpR) λ_ _ _=>.bl x
theorem Qbv:PE3 ca X (.Constant .none j pos) (mLit .non):=Qi0 (λ_ _=>Qob) λ_ _ _=>.non
theorem Qma(hm:X.mg x=some u)(r:RelV v u)(hd':∀K μ H,Den K μ H v d)(hg:Gl X x:=by rfl)(hd:(x==("__debug__" : Str))=false:=by decide):PE3 ca X (.Name x pos) (mLit d):=Qi0 (λpn Φ=>QmJ (X:=xat X ca pn Φ) hg hm r hd) hd'
def Jc(K:Frag)(ca:Nat->Addr)(r:R2)(f:D->D->G->Res D):Prop:=∀(Φ:XS)(σ:L2.St)(H:Hp)(μ:List Addr)(g:G)(x y:V)(dx dy:D)(Q:VK),GRep K ca μ H g->Den K μ H x dx->Den K μ H y dy->Post K ca Φ σ Q H μ (f dx dy g)->r x y H Q
theorem QgZ{K:Frag}{Φ:XS}{r:R2}{f:D->D->G->Res D}(hp:Jc K ca r f)(σ:L2.St)(H:Hp)(Q:VK)(h:up K ca Φ (mOp2 f ma mb) σ H Q):tOp r (up K ca Φ ma) (up K ca Φ mb) σ H Q:=by obtain⟨σ3,g,μ,R,p⟩:=h;refine Q2 (Ju R p) λx H1 ⟨dx,g1,μ1,e1,R1,q1,p1⟩=>?_;refine Q2 (Ju R1 p1) λy H2 ⟨dy,g2,μ2,e2,R2,q2,p2⟩=>?_;exact hp Φ σ H2 μ2 g2 x y dx dy Q R2.g (q1.mono e2) q2 p2
theorem QhT(ho:∀pn Φ,OpR (xat X ca pn Φ) (binaryOp op) r)(hp:Jc X.K ca r f)(ha:PE3 ca X a ma)(hb:PE3 ca X b mb):PE3 ca X (.BinOp a op b pos) (mOp2 f ma mb):=λpn Φ=>Zi (Qp1 (ho pn Φ) (ha pn Φ) (hb pn Φ)) (QgZ hp)
theorem Qi1(ho:∀pn Φ,OpR (xat X ca pn Φ) (compareOp op) r)(hp:Jc X.K ca r f)(ha:PE3 ca X a ma)(hb:PE3 ca X b mb)(hm:behindInMarks op b=false):PE3 ca X (.Compare a [op] [b] pos) (mOp2 f ma mb):=λpn Φ=>Zi (QmT (ho pn Φ) (ha pn Φ) (hb pn Φ) hm) (QgZ hp)
theorem r_ix(ho:∀pn Φ,IxR (xat X ca pn Φ) r)(hp:Jc X.K ca r f)(ha:PE3 ca X a ma)(hb:PE3 ca X b mb)(hs:QdX b:=by exact λ_ _=>rfl):PE3 ca X (.Subscript a b pos) (mOp2 f ma mb):=λpn Φ=>Zi (Qp8 (ho pn Φ) (ha pn Φ) (hb pn Φ) hs) (QgZ hp)
theorem r_un{op:UnaryOp}{r:V->Hp->VK->Prop}{f:D->G->Res D}(ho:∀pn Φ,UnR (xat X ca pn Φ) (unaryOp op) r)(hp:∀(Φ:XS) (σ:L2.St) (H:Hp) (μ:List Addr) (g:G) (x:V) (dx:D) (Q:VK),GRep X.K ca μ H g->Den X.K μ H x dx->Post X.K ca Φ σ Q H μ (f dx g)->r x H Q)(ha:PE3 ca X a ma):PE3 ca X (.UnaryOp op a pos) (mOp1 f ma):=λpn Φ=>Zi (Qp2 (ho pn Φ) (ha pn Φ)) λσ H Q ⟨σ3,g,μ,R,p⟩=>Q2 (Ju R p) λx H1 ⟨dx,g1,μ1,e1,R1,q1,p1⟩=>hp Φ σ H1 μ1 g1 x dx Q R1.g q1 p1
theorem Qh:PA3 ca X [] mNil:=λpn Φ=>QiZ (QgR (X:=xat X ca pn Φ)) λ_ H _ ⟨_,_,μ,R,p⟩=>p [] H μ .refl R.g .nil
theorem Jv(ha:PE3 ca X e me)(hr:PA3 ca X es mr)(hs:starEach (e::es) X.env=(false,eval e X.env)::starEach es X.env:=by rfl):PA3 ca X (e::es) (Qa me mr):=λpn Φ=>QiZ (QaN (X:=xat X ca pn Φ) (ha pn Φ) (hr pn Φ) hs) λσ H Q ⟨σ3,g,μ,R,p⟩=>Q2 (Qm8 R p) λx H1 ⟨d,g1,μ1,e1,R1,q1,p1⟩=>
  Jd (Ql9 R1 p1) λxs H2 ⟨ds,g2,μ2,e2,R2,q2,p2⟩=>p2 (x::xs) H2 μ2 .refl R2.g (.cons (q1.mono e2) q2)
theorem Zu(ha:PE3 ca X a ma)(he:∀whole,isTrue a X.env whole=(do let v <-whole;standAt a.pos;holding [v] (truthy v)):=by intro _;rfl):PT3 ca X a (Ql ma):=
 λpn Φ=>Qf0 (Qod (X:=xat X ca pn Φ) (ha pn Φ) he) λσ H Q ⟨σ3,g,μ,R,p⟩=>Q2 (QoT R p) λx H1 hQ=>by
  obtain⟨d,g1,μ1,e1,R1,q1,p1⟩:=hQ;cases q1 with
  |bl b=>exact⟨b,rfl,p1 H1 μ1 .refl R1.g⟩|_=>exact p1.elim
theorem JI(ho:∀pn Φ,OpR (xat X ca pn Φ) (compareOp op) r)(hp:Jc X.K ca r f)(ha:PE3 ca X a ma)(hb:PE3 ca X b mb)(hm:behindInMarks op b=false):PT3 ca X (.Compare a [op] [b] pos) (Ql (mOp2 f ma mb)):=
 λpn Φ=>Qf0 (QmU (ho pn Φ) (ha pn Φ) (hb pn Φ) hm) λσ H Q hQ=>by
  obtain⟨σ3,g,μ,R,p⟩:=hQ;have q:up X.K ca Φ (mOp2 f ma mb) σ H λx H'=>∃k,x=.bl k/\Q k H':=Q2 (QoT R p) λx H1 hQ=>by
   obtain⟨d,g1,μ1,e1,R1,q1,p1⟩:=hQ;cases q1 with
   |bl b=>exact⟨b,rfl,p1 H1 μ1 .refl R1.g⟩|_=>exact p1.elim
  exact QgZ hp σ H _ q
theorem Zx(ha:PT3 ca X a ta):PT3 ca X (.UnaryOp .Not a pos) (Q9 ta):=λpn Φ=>Qf0 (Qog (X:=xat X ca pn Φ) (ha pn Φ)) λσ H Q ⟨σ3,g,μ,R,p⟩=>Qcr (QiX R p) λb H1 ⟨g1,μ1,e1,R1,p1⟩=>p1 H1 μ1 .refl R1.g
theorem Qi2(ha:PT3 ca X a ta):PW3 ca X (.BoolOp .And [a] pos) ta:=λpn Φ=>QmK (X:=xat X ca pn Φ) (ha pn Φ)
theorem J5(ha:PT3 ca X a ta):PW3 ca X (.BoolOp .Or [a] pos) ta:=λpn Φ=>Qoe (X:=xat X ca pn Φ) (ha pn Φ)
theorem Qmb(ha:PT3 ca X a ta)(hb:PW3 ca X (.BoolOp .And (b::rest) pos) tb):PW3 ca X (.BoolOp .And (a::b::rest) pos) (QfY ta tb):=
 λpn Φ=>QiY (Qof (X:=xat X ca pn Φ) (ha pn Φ) (hb pn Φ)) λσ H Q ⟨σ3,g,μ,R,p⟩=>Qcr (QiX R p) λb H1 hQ=>by
  obtain⟨g1,μ1,e1,R1,p1⟩:=hQ;cases b with
  |true=>rw[Uj rfl]at p1 ⊢;exact⟨σ3,g1,μ1,R1,p1⟩|false=>rw[Uo Uk]at p1 ⊢;exact p1 H1 μ1 .refl R1.g
theorem Qa1(ha:PT3 ca X a ta)(hb:PW3 ca X (.BoolOp .Or (b::rest) pos) tb):PW3 ca X (.BoolOp .Or (a::b::rest) pos) (mOrT ta tb):=
 λpn Φ=>QiY (QpS (X:=xat X ca pn Φ) (ha pn Φ) (hb pn Φ)) λσ H Q ⟨σ3,g,μ,R,p⟩=>Qcr (QiX R p) λb H1 hQ=>by
  obtain⟨g1,μ1,e1,R1,p1⟩:=hQ;cases b with
  |true=>rw[Uj rfl]at p1 ⊢;exact p1 H1 μ1 .refl R1.g|false=>rw[Uo Uk]at p1 ⊢;exact⟨σ3,g1,μ1,R1,p1⟩
theorem r_w(h:PW3 ca X e ta):PT3 ca X e ta:=λpn Φ=>(h pn Φ).pt
theorem Qqe(ha:PE3 ca X a ma):PE3 ca X (.UnaryOp .Not a pos) (mNot ma):=
 λpn Φ=>Zi (Qoj (X:=xat X ca pn Φ) (ha pn Φ)) λσ H Q ⟨σ3,g,μ,R,p⟩=>Q2 (Ju R p) λx H1 hQ=>by
  obtain⟨d,g1,μ1,e1,R1,q1,p1⟩:=hQ;cases q1 with
  |bl b=>exact⟨b,rfl,p1 _ H1 μ1 .refl R1.g (.bl _)⟩|_=>exact p1.elim
theorem Qd4(ha:PE3 ca X a ma):PE3 ca X (.BoolOp op [a] pos) ma:=λpn Φ=>Qoh (X:=xat X ca pn Φ) (ha pn Φ)
theorem QcI(ha:PE3 ca X a ma)(hb:PE3 ca X (.BoolOp .And (b::rest) pos) mb):PE3 ca X (.BoolOp .And (a::b::rest) pos) (mAnd ma mb):=
 λpn Φ=>Zi (Qoi (X:=xat X ca pn Φ) (ha pn Φ) (hb pn Φ)) λσ H Q ⟨σ3,g,μ,R,p⟩=>Q2 (Ju R p) λx H1 hQ=>by
  obtain⟨d,g1,μ1,e1,R1,q1,p1⟩:=hQ;cases q1 with
  |bl b=>
   refine⟨b,rfl,?_⟩;cases b with
   |true=>rw[Uj rfl];exact⟨σ3,g1,μ1,R1,p1⟩|false=>rw[Uo Uk];exact p1 _ H1 μ1 .refl R1.g (.bl _)
  |_=>exact p1.elim
theorem Qi3(hc:PT3 ca X c tc)(ha:PE3 ca X a ma)(hb:PE3 ca X b mb):PE3 ca X (.IfExp c a b pos) (mIfE tc ma mb):=
 λpn Φ=>Zi (QkQ (X:=xat X ca pn Φ) (hc pn Φ) (ha pn Φ) (hb pn Φ)) λσ H Q ⟨σ3,g,μ,R,p⟩=>Qcr (QoU R p) λb H1 hQ=>by
  obtain⟨g1,μ1,e1,R1,p1⟩:=hQ;cases b with
  |true=>rw[Uj rfl]at p1 ⊢;exact⟨σ3,g1,μ1,R1,p1⟩|false=>rw[Uo Uk]at p1 ⊢;exact⟨σ3,g1,μ1,R1,p1⟩
theorem Yk:SZ<=sizeLine:=by rw[Tn];decide
theorem Dens.sz{K:Frag}{μ:List Addr}{H:Hp}{vs:List V}{ds:List D}(h:Dens K μ H vs ds)(z:ds.length<=SZ):vs.length<=sizeLine:=by rw[h.length];exact Ue z Yk
theorem QJ(h:PA3 ca X es mr):PE3 ca X (.Tuple es k pos) (mOpA pTup mr):=
 λpn Φ=>Zi (Ql1 (X:=xat X ca pn Φ) (h pn Φ)) λσ H Q ⟨σ3,g,μ,R,p⟩=>Jd (QdA R p) λxs H1 hQ=>by
  obtain⟨ds,g1,μ1,e1,R1,q1,p1⟩:=hQ;unfold pTup at p1;by_cases z:ds.length<=SZ
  ·rw[Uj z]at p1;exact⟨q1.sz z,λt ht=>p1 _ _ μ1 (Zo ht) (R1.g.new ht) (.tup (.of Qr) (q1.mono (Zo ht)))⟩
  ·rw[Uo z]at p1;exact p1.elim
theorem Zb(h:PA3 ca X es mr):PE3 ca X (.List es pos) (mOpA newL mr):=
 λpn Φ=>Zi (QoB (X:=xat X ca pn Φ) (h pn Φ)) λσ H Q ⟨σ3,g,μ,R,p⟩=>Jd (QdA R p) λxs H1 hQ=>by
  obtain⟨ds,g1,μ1,e1,R1,q1,p1⟩:=hQ;unfold newL at p1;by_cases z:ds.length<=SZ
  ·rw[Uj z]at p1;refine⟨q1.sz z,λt ht=>p1 _ _ (μ1++[t]) (QD ht) (R1.g.push ht ⟨xs,Qr,q1.mono (QD ht)⟩) (.ref ?_)⟩;rw[<-R1.g.len];simp
  ·rw[Uo z]at p1;exact p1.elim
end
end L3
namespace L3
open PySem PySem.Spec PyProof.Rows L2
section
variable{X:Cx}{ca:Nat->Addr}{pins:LAO}{σ:L2.St}{H:Hp}{s:Shared}{a:Addr}{x:Xc}{E:VP}
theorem QoV(I:Inv (xat X ca pn Φ) pins σ H s):Inv (xon X pn) pins σ H s:=(Inv.wish I λ_ _=>False)
theorem Qi4(I:Inv X pins σ H s)(hb:s.heap.get? b=none)(hn:H' b=none):FpW X pins H' b:=by
 refine⟨hn,λz=>?_,λz=>?_,?_,λx c e z=>?_,λp hp z=>?_⟩
 ·obtain⟨m,⟨o,_,_,ho,_⟩,_⟩:=I.loc;rw[z,ho]at hb;cases hb
 ·obtain⟨_,o,ho,_⟩:=I.funs.mem z;rw[ho]at hb;cases hb
 ·by_cases hx:b∈X.ex
  ·exact .inl hx
  ·refine .inr ?_;cases q:X.s₀.heap.get? b with
   |none=>rfl|some o =>obtain⟨o',e'⟩:=I.base.there b o q hx;rw[e']at hb;cases hb
 ·obtain⟨v,o,ho,_⟩:=I.cell x c e;rw[z,hb]at ho;cases ho
 ·rw[<-z,(I.pin p hp).1]at hb;cases hb
theorem Qi5{H':Hp}{h':Heap}{g':Array GenState}{t':Nat}{d':Drawn}{ch:List Addr}(I:Inv X pins σ H s)(hch:∀b∈ch,(b∈X.ex\/X.s₀.heap.get? b=none)/\b≠X.env.locals/\(∀x c,X.env.cells.lookup x=some c->c≠b)/\∀p∈X.pn++pins,p.1≠b)(keep:∀b o,b≠X.env.locals->b∉X.fs->b∉ch->s.heap.get? b=some o->H b=none->h'.get? b=some o)(slot:∀b o,b≠X.env.locals->b∈X.fs->b∉ch->s.heap.get? b=some o->H b=none->∃sl,h'.get? b=some {o with slots:=sl})(free:∀b o,b∉ch->s.heap.get? b=some o->H b=none->H' b=none)(there:∀b o,b∉ch->s.heap.get? b=some o->∃o',h'.get? b=some o')(tups:∀b xs,H b=some (.tup xs)->H' b=some (.tup xs))(frzs:∀b o u,H b=some (.frz o u)->H' b=some (.frz o u))(tbls:∀b ps,H b=some (.tbl ps)->∃more,H' b=some (.tbl (ps++more)))(ns:∀m,s.heap.Ns X.env.locals m->h'.Ns X.env.locals m)(hok:HOk X.prog X.w H' h')(hg:AllBare g'):
  Inv X pins σ H' {s with heap:=h',gens:=g',drawn:=d',toks:=t'}:=by
 have neL:∀b o,X.s₀.heap.get? b=some o->b≠X.env.locals:=λb o e=>UP (Ux (Uw e) I.ok.above);have neC:∀b o,X.s₀.heap.get? b=some o->b∉X.ex->b∉ch:=λb o e hx hb=>by
  rcases(hch b hb).1 with z|z
  ·exact hx z
  ·rw[z]at e;cases e
 have cellK:∀x c,X.env.cells.lookup x=some c->∀v,s.heap.IsCell c v->h'.IsCell c v:=λx c e v hQ=>by
  obtain⟨o,ho,hd⟩:=hQ;have nch:c∉ch:=λz=>(hch c z).2.2.1 x c e rfl;by_cases hc:c∈X.fs
  ·obtain⟨sl,q⟩:=slot c o (I.cne x c e) hc nch ho (I.freeC x c e);exact⟨_,q,hd⟩
  ·exact⟨o,keep c o (I.cne x c e) hc nch ho (I.freeC x c e),hd⟩
 refine⟨I.ok,I.os,hg,⟨λb o e n hb hx=>?_,λb o e n hb hx=>?_,λb o e n hx=>?_,λb o e hx=>?_,λb xs e=>tups b xs (I.base.tups b xs e),λb o xs e=>frzs b o xs (I.base.frzs b o xs e),λb ps e=>?_⟩,?_,λx c e=>?_,?_,λx c e=>?_,λp hp=>?_,hok,I.len⟩
 ·exact keep b o (neL b o e) hb (neC b o e hx) (I.base.keep b o e n hb hx) (I.base.free b o e n hx)
 ·obtain⟨sl,e1⟩:=I.base.slot b o e n hb hx;obtain⟨sl',e2⟩:=slot b _ (neL b o e) hb (neC b o e hx) e1 (I.base.free b o e n hx);exact⟨sl',e2⟩
 ·obtain⟨o',e1⟩:=I.base.there b o e hx;exact free b o' (neC b o e hx) e1 (I.base.free b o e n hx)
 ·obtain⟨o',e1⟩:=I.base.there b o e hx;exact there b o' (neC b o e hx) e1
 ·obtain⟨m1,e1⟩:=I.base.tbls b ps e;obtain⟨m2,e2⟩:=tbls b _ e1;exact⟨m1++m2,by rw[e2,Wz]⟩
 ·obtain⟨m,hn,hl⟩:=I.loc;refine⟨m,ns m hn,λi x v e1 e2 e3=>?_⟩;obtain⟨u,r,l⟩:=hl i x v e1 e2 e3;refine⟨u,r,?_⟩;rcases l with l|⟨k,c,e,z⟩
  ·exact .inl l
  ·exact .inr ⟨k,c,e,cellK x c e _ z⟩
 ·obtain⟨v,z⟩:=I.cell x c e;exact⟨v,cellK x c e v z⟩
 ·obtain⟨m,⟨o,_,_,ho,_⟩,_⟩:=I.loc;exact free _ o (λz=>(hch _ z).2.1 rfl) ho I.free
 ·obtain⟨v,o,ho,hd⟩:=I.cell x c e;exact free c o (λz=>(hch c z).2.2.1 x c e rfl) ho (I.freeC x c e)
 ·obtain⟨e,n,ne,nf,d⟩:=I.pin p hp;have nch:p.1∉ch:=λz=>(hch p.1 z).2.2.2 p hp rfl;exact⟨keep p.1 p.2 ne nf nch e n,free p.1 p.2 nch e n,ne,nf,d⟩
theorem Qg0{ch:List Addr}{h':Heap}(I:Inv X pins σ H s)(hch:∀b∈ch,FpW X pins H b)(keep:∀b o,b∉ch->b≠X.env.locals->b∉X.fs->s.heap.get? b=some o->h'.get? b=some o)(slot:∀b o,b∉ch->s.heap.get? b=some o->∃sl,h'.get? b=some {o with slots:=sl}):Inv X pins σ H {s with heap:=h'}:=by
 have nl:X.env.locals∉ch:=λz=>(hch _ z).2.1 rfl;have nt:∀b v,H b=some v->b∉ch:=λb v e z=>by rw[(hch b z).1]at e;cases e
 have nf:∀b v,H b=some v->b∉X.fs:=λb v e z=>by obtain⟨_,o,ho,_⟩:=I.ok.funs.mem z;have:=I.base.free b o ho (I.ok.frf b z) λq=>I.ok.exfs b q z;rw[this]at e;cases e
 have nL:∀b v,H b=some v->b≠X.env.locals:=λb v e z=>by rw[z,I.free]at e;cases e
 refine Qi5 (h':=h') (H':=H) (g':=s.gens) (t':=s.toks) (d':=s.drawn) (ch:=ch) I (λb hb=>⟨(hch b hb).2.2.2.1,(hch b hb).2.1,(hch b hb).2.2.2.2.1,(hch b hb).2.2.2.2.2⟩) (λb o h1 h2 h3 e _=>keep b o h3 h1 h2 e) (λb o _ _ h3 e _=>slot b o h3 e)
  (λb o _ _ n=>n) (λb o h e=>let ⟨sl,q⟩:=slot b o h e;⟨_,q⟩) (λb v e=>e) (λb o v e=>e) (λb ps e=>⟨#[],by rw[e];simp⟩) (λm hm=>?_) (λb v e=>?_) I.bare
 ·obtain⟨o,es,ep,ho,rr⟩:=hm;obtain⟨sl,q⟩:=slot _ o nl ho;exact⟨_,es,ep,q,rr⟩
 ·refine(I.hok b v e).stay (λc' v' hc' q=>?_) (λc' q=>q) λc' xs' q=>q;rcases hc' with rfl|hc'
  ·exact keep _ _ (nt _ _ e) (nL _ _ e) (nf _ _ e) q
  ·exact keep _ _ (nt _ _ hc') (nL _ _ hc') (nf _ _ hc') q
def FlN(X:Cx)(ca:Nat->Addr)(a:Addr)(x:Xc)(H:Hp)(h:Heap):Prop:=FpW X [] H a/\x.2=none/\∃oe vs T oT ts,h.get? a=some oe/\XOb ca x oe/\oe.data=.fields vs/\vs[1]?=some (.ref T)/\T≠a/\FpW X [] H T/\h.get? T=some oT/\oT.data=.fields ts/\ts[3]?=some (rawInt X.env.locals)
def FlT(X:Cx)(ca:Nat->Addr)(a:Addr)(x:Xc)(H:Hp)(h:Heap):Prop:=FpW X [] H a/\x.2=none/\∃oe vs T oT ts,h.get? a=some oe/\XOb ca x oe/\oe.data=.fields vs/\vs[1]?=some (.ref T)/\T≠a/\FpW X [] H T/\h.get? T=some oT/\oT.data=.fields ts/\3<ts.size
theorem FlN.t(f:FlN X ca a x H h):FlT X ca a x H h:=by obtain⟨f1,f2,oe,vs,T,oT,ts,e1,e2,e3,e4,e5,e6,e7,e8,e9⟩:=f;exact⟨f1,f2,oe,vs,T,oT,ts,e1,e2,e3,e4,e5,e6,e7,e8,(To.mp e9).1⟩
theorem FlN.fl(f:FlN X ca a x H h):Fl X ca a x H h:=by obtain⟨f1,f2,oe,vs,T,oT,ts,e1,e2,e3,e4,e5,e6,e7,e8,e9⟩:=f;exact⟨f1,f2,oe,vs,e1,e2,e3,(To.mp e4).1,.inr ⟨T,oT,ts,e4,e5,e6,e7,e8,(To.mp e9).1,.inr e9⟩⟩
theorem QdB{h:Heap}{b:Addr}{o:Obj}{ts:Array Value}(i:Nat)(v:Value)(e:h.get? b=some o)(d:o.data=.fields ts):
  (h.update b (Obj.mapFields (·.setIfInBounds i v))).get? b=some (o.mapFields (·.setIfInBounds i v))/\(o.mapFields (·.setIfInBounds i v)).data=.fields (ts.setIfInBounds i v)/\(o.mapFields (·.setIfInBounds i v)).cls=o.cls:=⟨Rq _ e (Obj.isFreed_of_fields (RF d _)),RF d _,Obj.cls_mapFields _ _⟩
theorem Qg1{base:Heap}{env:Env}{outer:List Env}{L:Addr}{oe:Obj}{vs:Array Value}{head:Value}{hn:Bool}{M:Model}{A:Around}{Q:Unit->Shared->Prop}(hfr:A.frames=some (env::outer))(hl:s.heap.FunFrames base (env::outer))(hf:env.frame=some L)(he:s.heap.get? a=some oe)(hd:oe.data=.fields vs)(hsz:1<vs.size)(ha:a∉(env::outer).filterMap (·.frame))(k:∀h₁ (cells:Array Value),Heap.SlotsOnly ((env::outer).filterMap (·.frame)) s.heap h₁->cells[3]?=some (rawInt L)->Q () {s with heap:=(h₁.push {cls:=.type "traceback",dict:=none,data:=.fields cells}).update a (Obj.mapFields (·.setIfInBounds 1 (.ref h₁.objs.size)))}):
  wpAny M A (do let fv <-frameOf env;let pl <-entryPlaceOf L hn;let b <-EntryCells.newEntry head fv .none (rawInt L) .none pl;setField (.ref a) 1 b) Q E s:=by
 refine Ua (wpAny_frameOf_fun hfr hl hf λh₁ so=>Ua (wpAny_entryPlaceOf λpl hpl=>?_));unfold EntryCells.newEntry newFields;refine Ua (UZ ?_ (hpl.sizeOk5 _ _ _ _ _));have e1:h₁.get? a=some oe:=(so.2.1 a ha).trans he;refine RU (Ug _ e1) hd hsz (k h₁ _ so ?_);first
  | (simp;done)
  | (rcases hpl with rfl|⟨_,_,_,_,_,_,_,rfl⟩<;>simp)
theorem Qi6{M:Model}{Q:Unit->Shared->Prop}(I:Inv X [] σ H s)(hk:X.stack=X.env::X.outer)(hf:X.env.frame=some X.env.locals)(fl:Fl X ca a x H s.heap)(k:∀h',Inv X [] σ H {s with heap:=h'}->FlN X ca a x H h'->Q () {s with heap:=h'}):wpAny M X.A (noteFrame (.ref a) X.env) Q E s:=by
 obtain⟨fp,ln,oe,vs,he,hc,hd,hsz,hv⟩:=fl;have hfr:X.A.frames=some (X.env::X.outer):=by rw[<-hk];exact I.ok.frames
 have hst:s.heap.FunFrames X.base (X.env::X.outer):=by rw[<-hk];exact I.stack
 have hfs:(X.env::X.outer).filterMap (·.frame)=X.env.locals::X.fs:=by rw[TU,hf];rfl
 have ha:a∉(X.env::X.outer).filterMap (·.frame):=by
  rw[hfs];intro z;rcases Uv.mp z with z|z
  ·exact fp.2.1 z
  ·exact fp.2.2.1 z
 -- an entry is laid over a heap that differs from s at ch alone
 have fin:∀(h0 h₁:Heap)(cells:Array Value)(ch:List Addr),(∀b∈ch,FpW X [] H b)->(∀b o,b∉ch->s.heap.get? b=some o->h0.get? b=some o)->h0.objs.size=s.heap.objs.size->h0.get? a=some oe->Heap.SlotsOnly ((X.env::X.outer).filterMap (·.frame)) h0 h₁->cells[3]?=some (rawInt X.env.locals)->Q () {s with heap:=(h₁.push {cls:=.type "traceback",dict:=none,data:=.fields cells}).update a (Obj.mapFields (·.setIfInBounds 1 (.ref h₁.objs.size)))}:=by
  intro h0 h₁ cells ch hch hk0 hz he0 so hcl;have e1:h₁.get? a=some oe:=(so.2.1 a ha).trans he0;obtain⟨u1,u2,u3⟩:=QdB 1 (.ref h₁.objs.size) (Ug {cls:=.type "traceback",dict:=none,data:=.fields cells} e1) hd;have hTa:h₁.objs.size≠a:=Nat.ne_of_gt (Uw e1);have oth:∀b o,b≠a->h₁.get? b=some o->((h₁.push {cls:=.type "traceback",dict:=none,data:=.fields cells}).update a (Obj.mapFields (·.setIfInBounds 1 (.ref h₁.objs.size)))).get? b=some o:=λb o hb e=>
   (Ti _ _ (Ne.symm hb)).trans (Ug _ e)
  refine k _ (Qg0 (ch:=a::ch) I (λb hb=>?_) (λb o h1 h2 h3 e=>?_) λb o h1 e=>?_) ⟨fp,ln,_,_,h₁.objs.size,_,cells,u1,hc.map _,u2,by simp[hsz],hTa,?_,(Ti _ _ (Ne.symm hTa)).trans (UA _ rfl),rfl,hcl⟩
  ·rcases Uv.mp hb with e|e
   ·rw[e];exact fp
   ·exact hch b e
  ·refine oth b o (λz=>h1 (by rw[z];exact Us)) ?_;rw[so.2.1 b (by rw[hfs];intro z;rcases Uv.mp z with z|z;(· exact h2 z);exact h3 z)];exact hk0 b o (λz=>h1 (Ut _ z)) e
  ·obtain⟨sl,q⟩:=so.2.2 b o (hk0 b o (λz=>h1 (Ut _ z)) e);exact⟨sl,oth b _ (λz=>h1 (by rw[z];exact Us)) q⟩
  ·refine Qi4 I (Heap.get?_none_of_le ?_) (I.hok.fresh ?_)<;>rw[so.1,hz]<;>exact Um _
 unfold noteFrame;simp only[hf];rcases hv with hv|⟨T,oT,ts,hv,hTa,fT,hT,hdT,hs3,h3⟩
 ·refine Ua (Rb he hd hv ?_);rw[Uo (by decide)];exact Qg1 hfr hst hf he hd hsz ha λh₁ cells so hcl=>fin s.heap h₁ cells [] (by simp) (λ_ _ _ e=>e) rfl he so hcl
 ·refine Ua (Rb he hd hv ?_);rw[Uj (show(Value.ref T != Value.none)=true from by simp)];rcases h3 with h3|h3
  ·refine Ua (Rb hT hdT h3 ?_);rw[Uo (show ¬((Value.none==rawInt X.env.locals)=true) from by simp[rawInt])];refine Ua (RU hT hdT hs3 ?_);have oth:∀b o,b≠T->s.heap.get? b=some o->(s.heap.update T (Obj.mapFields (·.setIfInBounds 3 Value.none))).get? b=some o:=λb o hb e=>(Ti _ _ (Ne.symm hb)).trans e;have kp:∀b o,s.heap.get? b=some o->(∀vs,o.data≠.fields vs)->(s.heap.update T (Obj.mapFields (·.setIfInBounds 3 Value.none))).get? b=some o:=λb o e n=>oth b o (λz=>by rw[z,hT]at e;cases e;exact n _ hdT) e;refine Qg1 (s:={s with heap:=s.heap.update T (Obj.mapFields (·.setIfInBounds 3 Value.none))}) hfr (hst.of_keeps λb o e n=>⟨o,kp b o e n,rfl⟩) hf (oth a oe (Ne.symm hTa) he) hd hsz ha λh₁ cells so hcl=>?_;exact fin _ h₁ cells [T] (λb hb=>by rw[Uf.mp hb];exact fT) (λb o hb e=>oth b o (λz=>hb (by simp[z])) e) (Heap.size_after_update ..) (oth a oe (Ne.symm hTa) he) so hcl
  ·refine Ua (Rb hT hdT h3 ?_);rw[Uj (show(rawInt X.env.locals==rawInt X.env.locals)=true from by simp)];exact Ud (k s.heap I ⟨fp,ln,oe,vs,T,oT,ts,he,hc,hd,hv,hTa,fT,hT,hdT,h3⟩)
theorem Qe7{M:Model}{A:Around}{Q:Unit->Shared->Prop}{fo:Option Addr}(I:Inv X [] σ H s)(fl:FlT X ca a x H s.heap)(k:∀h' T oT ts oe vs,Inv X [] σ H {s with heap:=h'}->h'.get? a=some oe->XOb ca x oe->oe.data=.fields vs->vs[1]?=some (.ref T)->T≠a->FpW X [] H T->h'.get? T=some oT->oT.data=.fields ts->3<ts.size->ts[3]?=some (fo.elim Value.none λf=>rawInt f)->Q () {s with heap:=h'}):wpAny M A (setFlight (.ref a) fo) Q E s:=by
  obtain⟨fp,ln,oe,vs,T,oT,ts,he,hc,hd,hv,hTa,fT,hT,hdT,hs3⟩:=fl;unfold setFlight;refine Ua (Rb he hd hv ?_);rw[Uj (show(Value.ref T != Value.none)=true from by simp)];have oth:∀b o,b≠T->s.heap.get? b=some o->(s.heap.update T (Obj.mapFields (·.setIfInBounds 3 (fo.elim Value.none λf=>rawInt f)))).get? b=some o:=λb o hb e=>(Ti _ _ (Ne.symm hb)).trans e;obtain⟨u1,u2,u3⟩:=QdB 3 (fo.elim Value.none λf=>rawInt f) hT hdT;refine RU hT hdT hs3 (k _ T _ _ oe vs (Qg0 (ch:=[T]) I (λb hb=>by rw[Uf.mp hb];exact fT) (λb o h1 _ _ e=>oth b o (λz=>h1 (by simp[z])) e) λb o h1 e=>⟨o.slots,oth b o (λz=>h1 (by simp[z])) e⟩)
    (oth a oe (Ne.symm hTa) he) hc hd hv hTa fT u1 u2 (by simpa using hs3) (by simp[hs3]))
theorem Qmc(hk:X.stack=X.env::X.outer)(hf:X.env.frame=some X.env.locals)(pn:LAO)(Φ:XS):PassesOwn (model X.prog X.w) X.A X.env (xat X ca pn Φ).xe:=by rintro v s ⟨a,x,σ,H,rfl,I,fl,q⟩;refine Qi6 (X:=xon X pn) I hk hf fl λh1 I1 f1=>?_;unfold cameBackBy;obtain⟨fp,ln,oe,vs,T,oT,ts,he,hc,hd,hv,hTa,fT,hT,hdT,h3⟩:=id f1;refine Ua (Rb he hd hv ?_);rw[Uo (show ¬((Value.ref T==Value.none)=true) from by simp)];refine Qe7 (X:=xon X pn) (fo:=X.env.frame) I1 f1.t λh2 T oT ts oe vs I2 a1 a2 a3 a4 a5 a6 a7 a8 a9 a10=>?_;rw[hf]at a10;exact⟨a,x,σ,H,rfl,I2,FlN.fl ⟨fp,ln,oe,vs,T,oT,ts,a1,a2,a3,a4,a5,a6,a7,a8,a10⟩,q⟩
end
def CXW(P:Program)(w:World)(ca:Nat->Addr):CXT:=λouter H s E v s'=>∃(a:Addr)(x:Xc)(H':Hp),v=.ref a/\s'.os=s.os/\AllBare s'.gens/\Un (frs outer) [] H H' s.heap s'.heap/\HOk P w H' s'.heap/\x.2=none/\(∃oe vs T oT ts,s.heap.get? a=none/\H' a=none/\s'.heap.get? a=some oe/\XOb ca x oe/\oe.data=.fields vs/\vs[1]?=some (.ref T)/\T≠a/\s.heap.get? T=none/\H' T=none/\s'.heap.get? T=some oT/\oT.data=.fields ts/\ts[3]?=some .none)/\E (.int x.1 0) x.2 H'
section
variable{P:Program}{w:World}{K:Frag}{mg:SOV}{base:Heap}{ca:Nat->Addr}
theorem Qk8{N:List Str}{qual:Str}{scope:Scope}{f:Addr}{cd:Value}{A:Around}{outer:List Env}{s s':Shared}{H:Hp}{E:XK}{v:Value}(h:XE (xon (cxOf (CXW P w ca) P w K mg base N qual scope f cd A outer s H E) []) ca (λx _ H'=>E (.int x.1 0) x.2 H') v s'):(cxOf (CXW P w ca) P w K mg base N qual scope f cd A outer s H E).xe v s':=by
 obtain⟨a,x,σ,H',rfl,I,fl,q⟩:=h;show wpAny _ _ (leaving _ (.ref a)) _ _ s';unfold leaving;refine Ua (Qi6 I rfl rfl fl λh1 I1 f1=>?_);obtain⟨fp,ln,_⟩:=id f1;refine Qe7 (fo:=none) I1 f1.t λh2 T oT ts oe vs I2 a1 a2 a3 a4 a5 a6 a7 a8 a9 a10=>?_;refine⟨a,x,H',rfl,I2.os,I2.bare,I2.base,I2.hok,ln,⟨oe,vs,T,oT,ts,?_,fp.1,a1,a2,a3,a4,a5,?_,a6.1,a7,a8,a10⟩,q⟩
 ·rcases fp.2.2.2.1 with z|z
  ·exact absurd (show a∈([]:List Addr) from z) (by simp)
  ·exact z
 ·rcases a6.2.2.2.1 with z|z
  ·exact absurd (show T∈([]:List Addr) from z) (by simp)
  ·exact z
end
section
variable{X:Cx}{ca:Nat->Addr}{pn:LAO}{Φ:XS}
theorem Qi7(I:Inv (xat X ca pn Φ) pins σ H s)(h:CXW X.prog X.w ca X.stack H s (λc l H'=>∀x:Xc,c=.int x.1 0->l=x.2->Φ x σ H') v s'):(xat X ca pn Φ).xe v s':=by obtain⟨a,x,H',rfl,os,bare,un,hok,ln,⟨oe,vs,T,oT,ts,e1,e2,e3,e4,e5,e6,e7,e8,e9,e10,e11,e12⟩,q⟩:=h;have I0:Inv (xon X pn) [] σ H s:=(QoV I).pins_of λp hp=>absurd hp (by simp);have I1:Inv (xon X pn) [] σ H' s':=Inv.call' (ch:=[]) I0 os un hok bare λb z=>absurd z (by simp);refine⟨a,x,σ,H',rfl,I1,⟨Qi4 I0 e1 e2,ln,oe,vs,e3,e4,e5,(To.mp e6).1,.inr ⟨T,oT,ts,e6,e7,Qi4 I0 e8 e9,e10,e11,(To.mp e12).1,.inl e12⟩⟩,q x rfl rfl⟩
end
end L3
namespace L3
open PySem PySem.Spec PyProof.Rows L2
section
variable{X:Cx}{ca:Nat->Addr}{a b c e:Expr}{st:Stmt}{sts rest:List Stmt}{ma mb me:ME}{tc:MT}{m m':MS}{pos:Pos}
theorem QM:PSs3 ca X [] Q5:=λpn Φ=>QgY (QmL (X:=xat X ca pn Φ)) λ_ σ H ⟨_,_,μ,R,p⟩=>p σ H μ .refl R
theorem QoW{K:Frag}{Φ:XS}(E:Ends)(σ:L2.St)(H:Hp)(h:upS K ca Φ (mSeq m m') E σ H):tSeq (upS K ca Φ m) (upS K ca Φ m') E σ H:=by
 obtain⟨σ3,g,μ,R,p⟩:=h;refine⟨σ3,g,μ,R,?_⟩;unfold mSeq at p;cases hm:m σ3 g with
 |nx σ1 g1 =>rw[hm]at p;exact λσ' H' μ' e' R'=>⟨σ1,g1,μ',R',PostS.go e' p⟩
 |rt d g1=>rw[hm]at p;exact p|bk _ _=>rw[hm]at p;exact p|ct _ _=>rw[hm]at p;exact p|raise _ _ _=>rw[hm]at p;exact p|stuck=>rw[hm]at p;exact p
theorem Qe(h1:PS3 ca X st m)(h2:PSs3 ca X rest m'):PSs3 ca X (st::rest) (mSeq m m'):=λpn Φ=>QgY (QkR (X:=xat X ca pn Φ) (h1 pn Φ) (h2 pn Φ)) QoW
theorem Qj(h1:PS3 ca X st m):PSs3 ca X [st] m:=λpn Φ=>QmM (X:=xat X ca pn Φ) (h1 pn Φ)
theorem QcJ:PS3 ca X st QbZ:=λpn Φ=>YI (QkS (X:=xat X ca pn Φ)) λ_ _ _ ⟨_,_,_,_,p⟩=>p
theorem Yh(he:PE3 ca X e me)(hs:swapsWith e none pos.line X.env=pure false:=by rfl):PS3 ca X (.Expr e pos) (Yu me):=
 λpn Φ=>YI (QmN (X:=xat X ca pn Φ) (he pn Φ) hs) λE σ H ⟨σ3,g,μ,R,p⟩=>⟨σ3,g,μ,R,by
  unfold Yu at p;cases hm:me σ3 g with
  |ok d g1=>rw[hm]at p;exact λv H' μ' e' r' _=>p σ H' μ' e' (R.go e' r')
  |raise _ _=>rw[hm]at p;exact RaP.stmt R p|stuck=>rw[hm]at p;exact p⟩
theorem QG(he:PE3 ca X e me):PS3 ca X (.Return (some e) pos) (mRet me):=
 λpn Φ=>YI (Qok (X:=xat X ca pn Φ) (he pn Φ)) λE σ H ⟨σ3,g,μ,R,p⟩=>⟨σ3,g,μ,R,by
  unfold mRet at p;cases hm:me σ3 g with
  |ok d g1=>rw[hm]at p;exact p|raise _ _=>rw[hm]at p;exact RaP.stmt R p|stuck=>rw[hm]at p;exact p⟩
theorem QoX:PS3 ca X (.Return none pos) Qm7:=λpn Φ=>YI (QmO (X:=xat X ca pn Φ)) λ_ σ H ⟨_,_,μ,R,p⟩=>p .non H μ .refl R.g .non
theorem r_if(hc:PT3 ca X c tc)(ha:PSs3 ca X sa m)(hb:PSs3 ca X sb m'):PS3 ca X (.If c sa sb pos) (mIf tc m m'):=
 λpn Φ=>YI (QpY (X:=xat X ca pn Φ) (hc pn Φ) (ha pn Φ) (hb pn Φ)) λE σ H ⟨σ3,g,μ,R,p⟩=>⟨σ3,g,μ,R,by
  unfold mIf at p;cases hm:tc σ3 g with
  |ok d g1=>
   rw[hm]at p;cases d with
   |true=>exact λH' μ' e' r'=>by show(if true=true then _ else _);rw[Uj rfl];exact⟨σ3,g1,μ',R.go e' r',PostS.go e' (by simpa using p)⟩
   |false=>exact λH' μ' e' r'=>by show(if false=true then _ else _);rw[Uo Uk];exact⟨σ3,g1,μ',R.go e' r',PostS.go e' (by simpa using p)⟩
  |raise _ _=>rw[hm]at p;exact RaP.stmt R p|stuck=>rw[hm]at p;exact p⟩
def upG(K:Frag)(ca:Nat->Addr)(f:MG):TG:=λv σ H Q=>∃σ3 g μ d σ3',Rep K ca μ σ3 g σ H/\Den K μ H v d/\f d σ3=some σ3'/\∀σ',Rep K ca μ σ3' g σ' H->Q σ' H
def PG3(ca:Nat->Addr)(X:Cx)(tg:Expr)(f:MG):Prop:=∀pn Φ,PG (xat X ca pn Φ) tg (upG X.K ca f)
theorem Qi8(h:PG X tg t)(i:∀v σ H Q,t' v σ H Q->t v σ H Q):PG X tg t':=λpins s σ H x u Q I r q=>h pins s σ H x u Q I r (i x σ H Q q)
theorem Rep.set{K:Frag}{μ:List Addr}{σ3:S3}{g:G}{σ:L2.St}{H:Hp}{v:V}{d:D}(R:Rep K ca μ σ3 g σ H)(h:Den K μ H v d)(i:Nat):Rep K ca μ (σ3.set i (some d)) g (σ.set i (some v)) H:=by
 refine⟨R.g,by rw[UG,UG,R.len],λj x hx=>?_⟩;by_cases e:j=i
 ·subst e;have hl:j<σ3.length:=by have:=(Ul.mp hx).1;simpa using this
  rw[UU hl]at hx;cases hx;exact⟨v,by rw[UU (by rw[R.len];exact hl)],h⟩
 ·rw[Uc (Ne.symm e)]at hx;obtain⟨w,h1,h2⟩:=R.st j x hx;exact⟨w,by rw[Uc (Ne.symm e)];exact h1,h2⟩
theorem Qx(i:Nat){x:Str}(hN:X.N.Nodup)(hi:X.N[i]?=some x:=by rfl)(hx:Loc X.env.scope x:=by first|exact Or.inl rfl|exact Or.inr rfl)(hf:X.fn x=true\/X.env.scope.names.lookup x=some .local:=by first|exact .inl rfl|exact .inr rfl):PG3 ca X (.Name x pos) (gSet i):=
 λpn Φ=>Qi8 (QmP (X:=xat X ca pn Φ) hN hi hx hf) λv σ H Q hQ=>by obtain⟨σ3,g,μ,d,σ3',R,q,e,k⟩:=hQ;cases e;exact k _ (R.set q i)
def upGs(K:Frag)(ca:Nat->Addr)(fs:List MG):TGs:=λvs σ H Q=>∃σ3 g μ ds σ3',Rep K ca μ σ3 g σ H/\Dens K μ H vs ds/\QhS fs ds σ3=some σ3'/\∀σ',Rep K ca μ σ3' g σ' H->Q σ' H
def PGs3(ca:Nat->Addr)(X:Cx)(tgs:List Expr)(fs:List MG):Prop:=∀pn Φ,PGs (xat X ca pn Φ) tgs (upGs X.K ca fs)
theorem Qg2(h:PGs X tg t)(i:∀v σ H Q,t' v σ H Q->t v σ H Q):PGs X tg t':=λpins s σ H xs us Q I r q=>h pins s σ H xs us Q I r (i xs σ H Q q)
theorem Qg3:PGs3 ca X [] []:=λpn Φ=>Qg2 (QmQ (X:=xat X ca pn Φ)) λvs σ H Q hQ=>by
 obtain⟨σ3,g,μ,ds,σ3',R,q,e,k⟩:=hQ;cases q with
 |nil=>cases e;exact⟨rfl,k _ R⟩|cons _ _=>cases e
theorem ZL{es:List Expr}{f:MG}{fs:List MG}(h1:PG3 ca X e f)(h2:PGs3 ca X es fs)(hs:(assignEach (e::es) X.env).map (·.2)=assign e X.env::(assignEach es X.env).map (·.2):=by rfl):PGs3 ca X (e::es) (f::fs):=
 λpn Φ=>Qg2 (QkT (X:=xat X ca pn Φ) (h1 pn Φ) (h2 pn Φ) hs) λvs σ H Q hQ=>by
  obtain⟨σ3,g,μ,ds,σ3',R,q,e,k⟩:=hQ;cases q with
  |nil=>cases e|@cons v d vs ds q1 q2=>
   unfold QhS at e;cases hf:f d σ3 with
   |none=>rw[hf]at e;cases e|some σ4 =>rw[hf]at e;exact⟨v,vs,rfl,σ3,g,μ,d,σ4,R,q1,hf,λσ' R'=>⟨σ4,g,μ,ds,σ3',R',q2,e,k⟩⟩
theorem Qe8:∀{fs:List MG}{ds:List D}{σ σ':S3},QhS fs ds σ=some σ'->ds.length=fs.length
 |[],[],_,_,_=>rfl|[],_::_,_,_,h=>by cases h
 |_::_,[],_,_,h=>by cases h
 |f::fs,d::ds,σ,σ',h=>by
  unfold QhS at h;cases hf:f d σ with
  |none=>rw[hf]at h;cases h|some σ4 =>rw[hf]at h;rw[Uy,Uy,Qe8 (fs:=fs) h]
theorem Qg4{es:List Expr}{k:Nat}{fs:List MG}(hc:X.calm=true)(h:PGs3 ca X es fs)(hn:(assignEach es X.env).length=fs.length:=by rfl)(hst:(assignEach es X.env).findIdx? (·.1)=none:=by rfl):PG3 ca X (.Tuple es k pos) (QiW fs):=
 λpn Φ=>Qi8 (Qon (X:=xat X ca pn Φ) hc (h pn Φ) hn hst) λv σ H Q hQ=>by
  obtain⟨σ3,g,μ,d,σ3',R,q,e,kk⟩:=hQ;cases q with
  |@tup a vs ds ht hs =>exact⟨a,vs,rfl,ht,hs.length.trans (Qe8 e),σ3,g,μ,ds,σ3',R,hs,e,kk⟩|_=>cases e
theorem QoY{K:Frag}{Φ:XS}{f:MG}(E:Ends)(σ:L2.St)(H:Hp)(h:upS K ca Φ (mAsg f me) E σ H):tAsg (up K ca Φ me) (upG K ca f) E σ H:=by
 obtain⟨σ3,g,μ,R,p⟩:=h;refine⟨σ3,g,μ,R,?_⟩;unfold mAsg at p;cases hm:me σ3 g with
 |ok d g1=>
  rw[hm]at p;dsimp only at p;intro v H' μ' e' r' q';cases hf:f d σ3 with
  |none=>rw[hf]at p;exact p.elim|some σ4 =>rw[hf]at p;exact⟨σ3,g1,μ',d,σ4,R.go e' r',q',hf,λσ' R'=>p σ' H' μ' e' R'⟩
 |raise _ _=>rw[hm]at p;exact RaP.stmt R p|stuck=>rw[hm]at p;exact p
theorem Qk9{tg:Expr}{f:MG}(he:PE3 ca X e me)(hg:PG3 ca X tg f)(hs:swapsWithSole [tg] e pos.line X.env=pure false:=by rfl)(hw:swappedStores [tg] e X.env=pure none:=by rfl)(h1:(assignEach [tg] X.env).map (·.2)=[assign tg X.env]:=by rfl):PS3 ca X (.Assign [tg] e pos) (mAsg f me):=λpn Φ=>YI (Qiw (X:=xat X ca pn Φ) (he pn Φ) (hg pn Φ) hs hw h1) QoY
theorem Qqf(i:Nat){x:Str}{pos':Pos}(hN:X.N.Nodup)(he:PE3 ca X e me)(hi:X.N[i]?=some x:=by rfl)(hx:Loc X.env.scope x:=by first|exact Or.inl rfl|exact Or.inr rfl)(hs:swapsWith e (some (.Name x pos')) pos.line X.env=pure false:=by rfl)(hf:X.fn x=true\/X.env.scope.names.lookup x=some .local:=by first|exact .inl rfl|exact .inr rfl):
  PS3 ca X (.Assign [.Name x pos'] e pos) (mAsg (gSet i) me):=
 λpn Φ=>YI (Qoo (X:=xat X ca pn Φ) hN hi hx (he pn Φ) hs hf) λE σ H h=>by
  obtain⟨σ3,g,μ,R,p⟩:=h;refine⟨σ3,g,μ,R,?_⟩;unfold mAsg gSet at p;cases hm:me σ3 g with
  |ok d g1 =>rw[hm]at p;exact λv H' μ' e' r' q'=>p _ H' μ' e' ((R.go e' r').set q' i)
  |raise _ _=>rw[hm]at p;exact RaP.stmt R p|stuck=>rw[hm]at p;exact p
structure FldOk(K:Frag)(ca:Nat->Addr)(cs:List Nat)(f:Str):Prop where
 cl:∀c∈cs,Cls K (ca c)
 no:∀c∈cs,NoAttr K (ca c) f
theorem FRel.look{K:Frag}{μ:List Addr}{H:Hp}{f:Str}{d:D}:∀{fv:List (Str×V)}{fs:List (Str×D)},FRel K μ H fv fs->fs.lookup f=some d->∃v,fv.lookup f=some v/\Den K μ H v d
 |_,_,.nil,h=>by cases h
 | (k,v)::r,(k',d')::r',.cons ⟨e,q⟩ t,h=>by
  have e:k=k':=e;subst e;cases hb:f==k with
  |true =>simp only[List.lookup,hb]at h ⊢;cases h;exact⟨v,rfl,q⟩|false =>simp only[List.lookup,hb]at h ⊢;exact FRel.look t h
theorem FRel.no{K:Frag}{μ:List Addr}{H:Hp}{f:Str}:∀{fv:List (Str×V)}{fs:List (Str×D)},FRel K μ H fv fs->fs.lookup f=Option.none->fv.lookup f=Option.none
 |_,_,.nil,_=>rfl| (k,v)::r,(k',d')::r',.cons ⟨e,q⟩ t,h=>by
  have e:k=k':=e;subst e;cases hb:f==k with
  |true=>simp only[List.lookup,hb]at h;cases h|false =>simp only[List.lookup,hb]at h ⊢;exact FRel.no t h
theorem FRel.put{K:Frag}{μ:List Addr}{H:Hp}{f:Str}{v:V}{d:D}(q:Den K μ H v d):∀{fv:List (Str×V)}{fs:List (Str×D)},FRel K μ H fv fs->FRel K μ H (putF f v fv) (putG f d fs)
 |_,_,.nil=>.cons ⟨rfl,q⟩ .nil| (k,w)::r,(k',d')::r',.cons ⟨e,z⟩ t=>by
  have e:k=k':=e;subst e;show FRel K μ H (if k=f then (k,v)::r else (k,w)::putF f v r) (if k=f then (k,d)::r' else (k,d')::putG f d r');by_cases h:k=f
  ·rw[Uj h,Uj h];exact .cons ⟨rfl,q⟩ t
  ·rw[Uo h,Uo h];exact .cons ⟨rfl,z⟩ (FRel.put q t)
theorem Zv{cs:List Nat}{f:Str}(he:PE3 ca X e me)(ok:FldOk X.K ca cs f)(hb:attributeBase e f X.env (eval e X.env)=eval e X.env:=by rfl):PE3 ca X (.Attribute e f pos) (QH cs f me):=
 λpn Φ=>Zi (Qoz (X:=xat X ca pn Φ) (he pn Φ) hb) λσ H Q ⟨σ3,g,μ,R,p⟩=>Q2 (Ju R p) λx H1 hQ=>by
  obtain⟨d,g1,μ1,e1,R1,q1,p1⟩:=hQ;cases q1 with
  |@ref n a hn=>
   dsimp only at p1;cases hg:g1[n]? with
   |none=>rw[hg]at p1;exact p1.elim|some o=>
    rw[hg]at p1;obtain⟨a',ha',ob⟩:=R1.g.addr hg;rw[hn]at ha';cases ha';cases o with
    |ins c fs=>
     dsimp only at p1;obtain⟨dx,fv,hH,fr⟩:=ob;by_cases hc:c∈cs
     ·rw[Uj hc]at p1;cases hl:fs.lookup f with
      |none=>rw[hl]at p1;exact p1.elim|some y =>rw[hl]at p1;obtain⟨v,h1,h2⟩:=fr.look hl;exact⟨a,ca c,dx,fv,v,rfl,hH,ok.cl c hc,ok.no c hc,h1,p1 v H1 μ1 .refl R1.g h2⟩
     ·rw[Uo hc]at p1;exact p1.elim
    |_=>exact p1.elim
  |_=>exact p1.elim
theorem YW(ho:PE3 ca X o mo)(he:PE3 ca X e me)(ok:FldOk X.K ca cs f)(hs:swapsWith e (some (.Attribute o f pos')) pos.line X.env=pure false:=by rfl):
  PS3 ca X (.Assign [.Attribute o f pos'] e pos) (Zt cs f mo me):=
 λpn Φ=>YI (QoA (X:=xat X ca pn Φ) (ho pn Φ) (he pn Φ) hs) λE σ H ⟨σ3,g,μ,R,p⟩=>⟨σ3,g,μ,R,by
  unfold Zt at p;cases hm:me σ3 g with
  |ok y g1=>
   rw[hm]at p;dsimp only at p;intro vy H1 μ1 e1 r1 q1;refine⟨σ3,g1,μ1,R.go e1 r1,?_⟩;cases hm2:mo σ3 g1 with
   |ok d g2=>
    rw[hm2]at p;intro vx H2 μ2 e2 r2 q2;cases q2 with
    |@ref n a hn=>
     dsimp only at p;cases hg:g2[n]? with
     |none=>rw[hg]at p;exact p.elim|some ob=>
      rw[hg]at p;obtain⟨a',ha',orp⟩:=r2.addr hg;rw[hn]at ha';cases ha';cases ob with
      |ins c fs=>
       dsimp only at p;obtain⟨dx,fv,hH,fr⟩:=orp;by_cases hc:c∈cs/\fs.length<100
       ·rw[Uj hc]at p;have fl:fv.length=fs.length:=Paired.length fr;refine⟨a,ca c,dx,fv,rfl,hH,ok.cl c hc.1,ok.no c hc.1,by omega,?_⟩;have ex:Ext X.K μ2 H2 μ2 (upd H2 a (.ins (ca c) dx (putF f vy fv))):=Ya hH (by intro _ z;cases z) (by intro _ _ z;cases z);refine p σ _ μ2 ((e1.trans e2).trans ex) ((R.go (e1.trans e2) r2).go ex ?_);exact r2.set hn hH (by intro _ z;cases z) (by intro _ _ z;cases z) ⟨dx,_,Qr,FRel.put ((q1.mono e2).mono ex) (fr.mono ex)⟩
       ·rw[Uo hc]at p;exact p.elim
      |_=>exact p.elim
    |_=>exact p.elim
   |raise _ _=>rw[hm2]at p;exact(RaP.stmt R p).go e1|stuck=>rw[hm2]at p;exact p
  |raise _ _=>rw[hm]at p;exact RaP.stmt R p|stuck=>rw[hm]at p;exact p⟩
theorem Qm9{o i:Expr}{mo mi:ME}{pos':Pos}(ho:PE3 ca X o mo)(hi:PE3 ca X i mi)(he:PE3 ca X e me)(hs:swapsWithSole [.Subscript o i pos'] e pos.line X.env=pure false:=by rfl)(hw:swappedStores [.Subscript o i pos'] e X.env=pure none:=by rfl)(h1:(assignEach [.Subscript o i pos'] X.env).map (·.2)=[assign (.Subscript o i pos') X.env]:=by rfl)(ha:∀v,assign (.Subscript o i pos') X.env v=(do
   let ov <-holding [v] (eval o X.env)
   let iv <-holding [v,ov] (eval i X.env)
   standAt pos'
   holding [v,ov,iv] (setItem ov iv v)
   release [v,ov,iv] []):=by intro _;rfl):PS3 ca X (.Assign [.Subscript o i pos'] e pos) (Qe5 mo mi me):=
 λpn Φ=>YI (Qiw (X:=xat X ca pn Φ) (he pn Φ) (QlZ (X:=xat X ca pn Φ) (ho pn Φ) (hi pn Φ) Qk2 ha) hs hw h1) λE σ H ⟨σ3,g,μ,R,p⟩=>⟨σ3,g,μ,R,by
  unfold Qe5 at p;cases hm:me σ3 g with
  |ok y g1=>
   rw[hm]at p;dsimp only at p;intro vy H1 μ1 e1 r1 q1;refine⟨σ3,g1,μ1,R.go e1 r1,?_⟩;cases hm2:mo σ3 g1 with
   |ok d g2=>
    rw[hm2]at p;intro vx H2 μ2 e2 r2 q2;cases q2 with
    |@ref n a hn=>
     dsimp only at p;refine⟨σ3,g2,μ2,R.go (e1.trans e2) r2,?_⟩;cases hm3:mi σ3 g2 with
     |ok di g3=>
      rw[hm3]at p;intro vi H3 μ3 e3 r3 q3;cases q3 with
      |int k=>
       dsimp only at p;cases hg:g3[n]? with
       |none=>rw[hg]at p;exact p.elim|some ob=>
        rw[hg]at p;obtain⟨a',ha',orp⟩:=r3.addr hg;rw[e3.at hn]at ha';cases ha';cases ob with
        |lst ds=>
         dsimp only at p;obtain⟨vs,hH,q⟩:=orp;cases hj:ixD ds.length k with
         |none=>rw[hj]at p;exact p.elim|some j =>rw[hj]at p;have ex:Ext X.K μ3 H3 μ3 (upd H3 a (.lst (vs.set j vy))):=Ya hH (by intro _ z;cases z) (by intro _ _ z;cases z);refine⟨a,vs,k,j,rfl,rfl,hH,by rw[q.length];exact hj,?_⟩;refine p σ _ μ3 (((e1.trans e2).trans e3).trans ex) ((R.go ((e1.trans e2).trans e3) r3).go ex ?_);exact r3.set (e3.at hn) hH (by intro _ z;cases z) (by intro _ _ z;cases z) ⟨_,Qr,Dens.set (((q1.mono e2).mono e3).mono ex) j (q.mono ex)⟩
        |_=>exact p.elim
      |_=>exact p.elim
     |raise _ _=>rw[hm3]at p;exact(RaP.stmt R p).go (e1.trans e2)|stuck=>rw[hm3]at p;exact p
    |_=>exact p.elim
   |raise _ _=>rw[hm2]at p;exact(RaP.stmt R p).go e1|stuck=>rw[hm2]at p;exact p
  |raise _ _=>rw[hm]at p;exact RaP.stmt R p|stuck=>rw[hm]at p;exact p⟩
def Sim(K:Frag)(ca:Nat->Addr)(μ0:List Addr)(H0:Hp)(src:Src)(J:It):Prop:=
 ∀(i:Nat)(H:Hp)(μ:List Addr)(g:G),Ext K μ0 H0 μ H->GRep K ca μ H g->match src.at' g i with
  |some (some d)=>J.go i H/\∀x H',J.yld i H x H'->Ext K μ H μ H'/\GRep K ca μ H' g/\Den K μ H' x d|some none=>J.stop i H|none=>True
def upI(K:Frag)(ca:Nat->Addr)(Φ:XS)(m:MI):TI:=λσ H R=>∃σ3 g μ,Rep K ca μ σ3 g σ H/\match m σ3 g with
 |.ok src g'=>∀J H' μ',Ext K μ H μ' H'->GRep K ca μ' H' g'->Sim K ca μ' H' src J->R J H'|.raise x g'=>RaP K ca Φ σ H μ x g'|.stuck=>False
def PI3(ca:Nat->Addr)(X:Cx)(tg iter:Expr)(m:MI):Prop:=∀pn Φ,PI (xat X ca pn Φ) tg iter (upI X.K ca Φ m)
theorem JZ(hc:X.calm=true)(hi:PI3 ca X tg iter mi)(hg:PG3 ca X tg f)(hb:PSs3 ca X body m)(hs:∀x,foldedSetIterable iter X.env x=pure x:=by intro _;rfl)(hk:X.stack=X.env::X.outer:=by rfl)(hf:X.env.frame=some X.env.locals:=by rfl):
  PS3 ca X (.For tg iter body [] pos) (mFor mi f m):=
 λpn Φ=>YI (Qoq (X:=xat X ca pn Φ) (Qmc hk hf pn Φ) hc (hi pn Φ) (hg pn Φ) (hb pn Φ) hs) λE σ H ⟨σ3,g,μ,R,p⟩=>⟨σ3,g,μ,R,by
  unfold mFor at p;cases hm:mi σ3 g with
  |ok src g'=>
   rw[hm]at p;dsimp only at p ⊢;intro J H' μ' e' r' sim;refine⟨λi n σ1 H1=>∃σ4 g1 μ1,Ext X.K μ' H' μ1 H1/\Rep X.K ca μ1 σ4 g1 σ1 H1/\PostS X.K ca Φ E H1 μ1 (forL src f m n i σ4 g1),⟨src.top+1,σ3,g',μ',.refl,R.go e' r',p.go e'⟩,?_⟩;rintro i n σ1 H1 ⟨σ4,g1,μ1,e1,R1,p1⟩;have s1:=sim i H1 μ1 g1 e1 R1.g;cases n with
   |zero=>exact p1.elim|succ n=>
    unfold forL at p1;cases ha:src.at' g1 i with
    |none=>rw[ha]at p1;exact p1.elim|some od=>
     rw[ha]at p1 s1;cases od with
     |none=>exact .inl ⟨s1,p1 σ1 H1 μ1 .refl R1⟩|some d=>
      dsimp only at p1 s1;obtain⟨go,yl⟩:=s1;refine .inr ⟨go,λσ2 H2=>∃σ5 g2 μ2,Ext X.K μ' H' μ2 H2/\Rep X.K ca μ2 σ5 g2 σ2 H2/\PostS X.K ca Φ E H2 μ2 (forL src f m n (i+1) σ5 g2),λσ2 H2 z=>⟨n,Tw n,z⟩,λx H2 y=>?_⟩;obtain⟨e2,r2,q2⟩:=yl x H2 y;cases hf:f d σ4 with
      |none=>rw[hf]at p1;exact p1.elim|some σ5=>
       rw[hf]at p1;dsimp only at p1;refine⟨σ4,g1,μ1,d,σ5,R1.go e2 r2,q2,hf,λσ6 R6=>⟨σ5,g1,μ1,R6,?_⟩⟩;cases hb:m σ5 g1 with
       |nx σ7 g7 =>rw[hb]at p1;exact λσ' H3 μ3 e3 R3=>⟨σ7,g7,μ3,(e1.trans e2).trans e3,R3,PostS.go (e2.trans e3) p1⟩
       |ct σ7 g7 =>rw[hb]at p1;exact λσ' H3 μ3 e3 R3=>⟨σ7,g7,μ3,(e1.trans e2).trans e3,R3,PostS.go (e2.trans e3) p1⟩
       |bk σ7 g7 =>rw[hb]at p1;exact λσ' H3 μ3 e3 R3=>p1 σ' H3 μ3 (e2.trans e3) R3
       |rt d7 g7 =>rw[hb]at p1;exact λv H3 μ3 e3 r3 q3=>p1 v H3 μ3 (e2.trans e3) r3 q3
       |raise _ _ _ =>rw[hb]at p1;exact λσ' H3 μ3 e3 R3=>p1 σ' H3 μ3 (e2.trans e3) R3
       |stuck=>rw[hb]at p1;exact p1
  |raise _ _=>rw[hm]at p;exact RaP.stmt R p|stuck=>rw[hm]at p;exact p⟩
theorem Qna(hc:PT3 ca X c tc)(hb:PSs3 ca X body m)(hk:X.stack=X.env::X.outer:=by rfl)(hf:X.env.frame=some X.env.locals:=by rfl):PS3 ca X (.While c body [] pos) (Qe4 tc m):=
 λpn Φ=>YI (QkU (X:=xat X ca pn Φ) (Qmc hk hf pn Φ) (hc pn Φ) (hb pn Φ)) λE σ H hQ=>by
  obtain⟨σ3,g,μ,R,p⟩:=hQ;unfold Qe4 at p;by_cases hh:∃f,Yv tc m f σ3 g≠.stuck
  ·rw[dif_pos hh]at p;generalize hh.choose=k at p;refine⟨λn σ1 H1=>∃σ4 g1 μ1,Ext X.K μ H μ1 H1/\Rep X.K ca μ1 σ4 g1 σ1 H1/\PostS X.K ca Φ E H1 μ1 (Yv tc m n σ4 g1),⟨k,σ3,g,μ,.refl,R,p⟩,?_⟩;rintro n σ1 H1 ⟨σ4,g1,μ1,e1,R1,p1⟩;cases n with
   |zero=>exact p1.elim|succ n=>
    unfold Yv at p1;refine⟨σ4,g1,μ1,R1,?_⟩;cases ht:tc σ4 g1 with
    |ok t g2=>
     rw[ht]at p1;cases t with
     |true=>
      dsimp only at p1;intro H2 μ2 e2 r2;rw[Uj rfl];refine⟨λσ2 H3=>∃σ5 g3 μ3,Ext X.K μ H μ3 H3/\Rep X.K ca μ3 σ5 g3 σ2 H3/\PostS X.K ca Φ E H3 μ3 (Yv tc m n σ5 g3),λσ2 H3 z=>⟨n,Tw n,z⟩,σ4,g2,μ2,R1.go e2 r2,?_⟩;cases hb:m σ4 g2 with
      |nx σ7 g7 =>rw[hb]at p1;exact λσ' H3 μ3 e3 R3=>⟨σ7,g7,μ3,(e1.trans e2).trans e3,R3,PostS.go (e2.trans e3) p1⟩
      |ct σ7 g7 =>rw[hb]at p1;exact λσ' H3 μ3 e3 R3=>⟨σ7,g7,μ3,(e1.trans e2).trans e3,R3,PostS.go (e2.trans e3) p1⟩
      |bk σ7 g7 =>rw[hb]at p1;exact λσ' H3 μ3 e3 R3=>p1 σ' H3 μ3 (e2.trans e3) R3
      |rt d7 g7 =>rw[hb]at p1;exact λv H3 μ3 e3 r3 q3=>p1 v H3 μ3 (e2.trans e3) r3 q3
      |raise _ _ _ =>rw[hb]at p1;exact λσ' H3 μ3 e3 R3=>p1 σ' H3 μ3 (e2.trans e3) R3
      |stuck=>rw[hb]at p1;exact p1
     |false =>intro H2 μ2 e2 r2;rw[Uo Uk];exact p1 σ1 H2 μ2 e2 (R1.go e2 r2)
    |raise _ _=>rw[ht]at p1;exact RaP.stmt R1 p1|stuck=>rw[ht]at p1;exact p1
  ·rw[dif_neg hh]at p;exact p.elim
end
end L3
namespace L3
open PySem PySem.Spec PyProof.Rows L2
def spM(K:Frag)(ca:Nat->Addr)(n:Nat)(F:MF):Sp:=λvs H Q E=>vs.length=n/\∃ds g μ,GRep K ca μ H g/\Dens K μ H vs ds/\match F ds g with
 |.ok d g'=>∀v H' μ',Ext K μ H μ' H'->GRep K ca μ' H' g'->Den K μ' H' v d->Q v H'|.raise x g'=>∀H' μ',Ext K μ H μ' H'->GRep K ca μ' H' g'->E (.int x.1 0) x.2 H'|.stuck=>False
theorem Qi9{K:Frag}{ca:Nat->Addr}{μ:List Addr}{H:Hp}{g:G}{vs:List V}{ds:List D}(N:List Str)(r:GRep K ca μ H g)(q:Dens K μ H vs ds):Rep K ca μ (ds.map some++List.replicate (N.length-vs.length) none) g (L2.start N vs) H:=by
 unfold L2.start;refine⟨r,?_,λi d h=>?_⟩
 ·rw[Uh,Uh,Ub,Ub,q.length,U2,U2]
 ·by_cases hi:i<ds.length
  ·rw[Ui (by simpa using hi),UK]at h;cases hd:ds[i]? with
   |none=>rw[hd]at h;cases h|some d' =>rw[hd]at h;cases h;obtain⟨v,h1,h2⟩:=q.get hd;refine⟨v,?_,h2⟩;rw[Ui (by simpa[q.length]using hi),UK,h1];rfl
  ·rw[UN (by simpa using hi),Rh]at h;split at h<;>cases h
structure FnH(P:Program)(w:World)(K:Frag)(mg:SOV)(base:Heap)(ca:Nat->Addr)(x:Str)(k n:Nat)(F:MF):Prop where
 ex:∃(f:Addr)(fd:FuncData)(ps:List Str),FnOk P w K mg base (CXW P w ca) k f fd ps (spM K ca n F)/\mg x=some (.ref f)/\keepIn K (.ref f)=true/\Binds K fd ps []
 st:∀ds g,ds.length≠n->F ds g=.stuck
structure MtH(P:Program)(w:World)(K:Frag)(mg:SOV)(base:Heap)(ca:Nat->Addr)(c:Nat)(x:Str)(k n:Nat)(F:MF):Prop where
 ex:∃(f:Addr)(fd:FuncData)(ps:List Str),FnOk P w K mg base (CXW P w ca) k f fd ps (spM K ca n F)/\Meth K (ca c) x f/\Cls K (ca c)/\Binds K fd ps []
 st:∀ds g,ds.length≠n->F ds g=.stuck
structure MkH(P:Program)(w:World)(K:Frag)(mg:SOV)(base:Heap)(ca:Nat->Addr)(c:Nat)(x:Str)(k n:Nat)(F:MF):Prop where
 ex:∃(f:Addr)(fd:FuncData)(ps:List Str),FnOk P w K mg base (CXW P w ca) k f fd ps (spM K ca n F)/\Mk K (ca c) f/\mg x=some (.ref (ca c))/\Binds K fd ps []
 st:∀ds g,ds.length≠n->F ds g=.stuck
theorem Qf1(k n:Nat)(m:MS):∀ds g,ds.length≠k->mDef k n m ds g=.stuck:=λds g h=>by unfold mDef;rw[Uo h]
theorem FnH.mono{P:Program}{w:World}{K:Frag}{mg:SOV}{base:Heap}{ca:Nat->Addr}{x:Str}{j k n:Nat}{F:MF}(h:FnH P w K mg base ca x j n F)(hj:j<=k):FnH P w K mg base ca x k n F:=by obtain⟨f,fd,ps,a,b⟩:=h.ex;exact⟨⟨f,fd,ps,a.mono hj,b⟩,h.st⟩
section
variable{P:Program}{w:World}{K:Frag}{mg:SOV}{base:Heap}{ca:Nat->Addr}
theorem Qja{N:List Str}{qual:Str}{scope:Scope}{f:Addr}{cd:Value}{A:Around}{outer:List Env}{s:Shared}{H:Hp}{E:XK}{body:List Stmt}{t:TS}(h:PSs (xat (cxOf (CXW P w ca) P w K mg base N qual scope f cd A outer s H E) ca [] (λx _ H'=>E (.int x.1 0) x.2 H')) body t):PSs (cxOf (CXW P w ca) P w K mg base N qual scope f cd A outer s H E) body t:=λpins s1 σ H1 D I q=>
 Tf (h pins s1 σ H1 D (Inv.wish I _) q) (λ_ _ z=>SP.unwish (X:=cxOf (CXW P w ca) P w K mg base N qual scope f cd A outer s H E) z) λ_ _ z=>Qk8 z
theorem Qla{x qual:Str}{st:Stmt}{f:Addr}{fd:FuncData}{N ps:List Str}{k n j:Nat}{m:MS}(F:Fun K x qual st f fd)(S:FnScope N ps (Qg st))(hj:ps.length=j)(hn:N.length-ps.length=n)(h:∀(cdv:Value) (A:Around) (outer:List Env) (s:Shared) (H:Hp) (E:XK),Room k (A.deeper (envOfC qual (Qg st) s.heap.objs.size f cdv))->PSs3 ca (cxOf (CXW P w ca) P w K mg base N qual (Qg st) f cdv A outer s H E) (YH st) m):FnOk P w K mg base (CXW P w ca) (k+1) f fd ps (spM K ca j (mDef j n m)):=by
 subst hj;obtain⟨oc,od,kV,doc,pm,an,cdv,ct,osl,rfl,lk,hcd⟩:=F.ex;refine QoC lk hcd S (λvs H Q E q=>q.1) λA outer s H vs Q E hr hsp=>?_;obtain⟨hl,ds,g,μ,r,q,p⟩:=hsp;refine⟨_,Qja (h cdv A outer s H E hr [] _),ds.map some++List.replicate n none,g,μ,?_,?_⟩
 ·have z:=Qi9 N r q;rw[hl,hn]at z;exact z
 ·unfold mDef at p;rw[Uj (by rw[<-q.length,hl])]at p;cases hm:m (ds.map some++List.replicate n none) g with
  |nx σ' g'=>rw[hm]at p;exact λσ'' H' μ' e' R'=>p .non H' μ' e' R'.g .non
  |rt d g'=>rw[hm]at p;exact p|bk _ _=>rw[hm]at p;exact p.elim|ct _ _=>rw[hm]at p;exact p.elim|raise _ _ _=>rw[hm]at p;exact λσ'' H' μ' e' R'=>p H' μ' e' R'.g
  |stuck=>rw[hm]at p;exact p.elim
def EK(Φ:XS)(σ:L2.St):XK:=λc l H'=>∀x:Xc,c=.int x.1 0->l=x.2->Φ x σ H'
theorem Qg5(st:∀ds g,ds.length≠n->F ds g=.stuck)(r:GRep K ca μ H g)(q:Dens K μ H vs ds)(p:Post K ca Φ σ Q H μ (F ds g)):spM K ca n F vs H Q (EK Φ σ):=by
 have hl:vs.length=n:=by rw[q.length];apply Decidable.byContradiction;intro h;rw[st ds g h]at p;exact p
 refine⟨hl,ds,g,μ,r,q,?_⟩;cases hF:F ds g with
 |ok d g'=>rw[hF]at p;exact p|raise x g'=>
  rw[hF]at p;intro H' μ' e r' y e1 e2;have:x=y:=by
   obtain⟨a,b⟩:=x;obtain⟨c,d⟩:=y;injection e1 with e1;have e1:(a:Int)=(c:Int):=e1;have e3:a=c:=by omega
   rw[e3,show b=d from e2]
  rw[<-this];exact p H' μ' e r'
 |stuck=>rw[hF]at p;exact p
end
section
variable{X:Cx}{ca:Nat->Addr}{e o:Expr}{es:List Expr}{me mo:ME}{mr:MA}{p pos apos:Pos}{k n:Nat}{F:MF}{pn:LAO}{Φ:XS}
theorem Qjb{f:Addr}{fd:FuncData}{ps:List Str}{pins:LAO}{σ:L2.St}{H:Hp}{s:Shared}{Q:VK}{us:List Value}{vs:List V}(G:FnOk X.prog X.w X.K X.mg X.base (CXW X.prog X.w ca) k f fd ps (spM X.K ca n F))(hr:Room k X.A)(hb:Binds X.K fd ps [])(I:Inv (xat X ca pn Φ) pins σ H s)(r:Vals vs us)(h:spM X.K ca n F vs H Q (EK Φ σ)):wpAny (model X.prog X.w) X.A (call (.ref f) us) (EP (xat X ca pn Φ) pins σ Q) (xat X ca pn Φ).xe s:=by
 have hl:(us++[]).length=ps.length:=by rw[Tu,<-r.length];exact G.len _ _ _ _ h
 have b:=hb s us I.kIn hl;rw[Tu]at b;refine wpAny_call (W7 (G.run X.A X.stack s H ⟨us,[]⟩ us vs Q (EK Φ σ) hr I.env0 b r h) λres s' hq=>?_);cases res with
 |error z=>exact Qi7 I hq|ok fl=>
  cases fl with
  |ret u=>exact I.after hq|_=>exact False.elim hq
theorem Qs{x:Str}(h:FnH X.prog X.w X.K X.mg X.base ca x k n F)(hr:Room k X.A)(ha:PA3 ca X (e::es) mr)(hg:Gl X x:=by rfl)(hdb:(x==("__debug__" : Str))=false:=by decide)(he:starEach (e::es) X.env=(false,eval e X.env)::starEach es X.env:=by rfl)(hpl:(backTo pos (starEach es X.env)).any (·.1)=false:=by rfl):PE3 ca X (.Call (.Name x p) (e::es) [] pos) (Qn F mr):=by obtain⟨f,fd,ps,F1,m1,k1,b1⟩:=h.ex;intro pn Φ pins s σ H Q I ⟨σ3,g,μ,R,q⟩;refine Rl (QdT I hg m1 ?_ hdb);have z:upA X.K ca Φ mr σ H λvs H1=>spM X.K ca n F vs H1 Q (EK Φ σ):=Jd (QdA R q) λxs H1 ⟨ds,g1,μ1,e1,R1,q1,p1⟩=>Qg5 h.st R1.g q1 p1;refine WD (h₀:=X.base) I.ok.mod.kin k1 (thn (ha pn Φ pos pins s σ H _ I z) λus s1 ⟨vs,H1,I1,r,q1⟩=>⟨I1.kIn,?_⟩) he hpl;exact Qjb F1 hr b1 I1 r q1
theorem Qjc{K:Frag}{c:Nat}{m:Str}{σ:L2.St}{H:Hp}{Q:VK}{α:Type}{kk:Nat->G->Res α}{R:Res α->Hp->List Addr->Prop}{d:D}{g:G}{μ:List Addr}{v:V}(r:GRep K ca μ H g)(hst:¬R .stuck H μ)(p:R (match d with
   |.ref i=>(match g[i]? with
    |some (.ins c' fs)=>if c'=c/\fs.lookup m=none then kk i g else .stuck
    |_=>.stuck)
   |_=>.stuck) H μ)(q:Den K μ H v d):∃a dx fv i,d=.ref i/\v=.ref a/\μ[i]?=some a/\H a=some (.ins (ca c) dx fv)/\fv.lookup m=none/\R (kk i g) H μ:=by
 cases q with
 |@ref i a hn=>
  dsimp only at p;cases hg:g[i]? with
  |none=>rw[hg]at p;exact(hst p).elim|some ob=>
   rw[hg]at p;obtain⟨a',ha',orp⟩:=r.addr hg;rw[hn]at ha';cases ha';cases ob with
   |ins c' fs=>
    dsimp only at p;obtain⟨dx,fv,hH,fr⟩:=orp;by_cases hc:c'=c/\fs.lookup m=none
    ·rw[Uj hc]at p;obtain⟨rfl,hl⟩:=hc;exact⟨a,dx,fv,i,rfl,rfl,hn,hH,fr.no hl,p⟩
    ·rw[Uo hc]at p;exact(hst p).elim
   |_=>exact(hst p).elim
 |_=>exact(hst p).elim
theorem YX{c:Nat}{m:Str}{pl:Sem Bool}(h:MtH X.prog X.w X.K X.mg X.base ca c m k n F)(hr:Room k X.A)(ho:PE3 ca X o mo)(ha:PA3 ca X (e::es) mr)(hst:starEach (e::es) X.env=(false,eval e X.env)::starEach es X.env:=by rfl)(hpl:(backTo pos (starEach es X.env)).any (·.1)=false:=by rfl)(ht:eval (.Call (.Attribute o m apos) (e::es) [] pos) X.env=(do
   let ov <-eval o X.env
   standAt apos.atName
   let (f,first) <-holding [ov] (getMethod ov m pl)
   callWith pos f first (backTo pos (starEach (e::es) X.env)) (backToKw pos (keywordEach [] X.env))):=by rfl):PE3 ca X (.Call (.Attribute o m apos) (e::es) [] pos) (ZW c m F mo mr):=by
 obtain⟨f,fd,ps,F1,m1,k1,b1⟩:=h.ex;intro pn Φ pins s σ H Q I ⟨σ3,g,μ,R,q⟩;refine Bj (pl:=pl) (thn (ho pn Φ pins s σ H _ I (Ju R q)) λu s1 ⟨x,H1,I1,rx,d,g1,μ1,e1,R1,q1,p1⟩=>?_) ht;obtain⟨a,dx,fv,i,rfl,rfl,hn,hH,hl,p2⟩:=Qjc (Q:=Q) (σ:=σ) (R:=λr H μ=>Post X.K ca Φ σ Q H μ r) (kk:=λi g=>(mr σ3 g).bind λxs g2=>F (.ref i::xs) g2) R1.g (λz=>z) p1 q1;obtain rfl:u=Value.ref a:=rx;refine Qdx I1 hH k1 m1 hl ?_;have z:upA X.K ca Φ mr σ H1 λvs H2=>spM X.K ca n F (.ref a::vs) H2 Q (EK Φ σ):=Jd (QdA R1 p2) λxs H2 ⟨ds,g2,μ2,e2,R2,q2,p3⟩=>Qg5 h.st R2.g (.cons (.ref (e2.at hn)) q2) p3;refine WD (first:=[.ref a]) (h₀:=X.base) I.ok.mod.kin m1.kp (thn (ha pn Φ pos pins s1 σ H1 _ I1 z) λus s2 ⟨vs,H2,I2,r,q2⟩=>⟨I2.kIn,?_⟩) hst hpl;exact Qjb (us:=.ref a::us) (vs:=.ref a::vs) F1 hr b1 I2 (.cons rfl r) q2
theorem Qf2{c:Nat}{m:Str}{pl:Sem Bool}(h:MtH X.prog X.w X.K X.mg X.base ca c m k n F)(hr:Room k X.A)(ho:PE3 ca X o mo)(ht:eval (.Call (.Attribute o m apos) [] [] pos) X.env=(do
   let ov <-eval o X.env
   standAt apos.atName
   let (f,first) <-holding [ov] (getMethod ov m pl)
   callWith pos f first (backTo pos (starEach [] X.env)) (backToKw pos (keywordEach [] X.env))):=by rfl):PE3 ca X (.Call (.Attribute o m apos) [] [] pos) (ZW c m F mo mNil):=by
 obtain⟨f,fd,ps,F1,m1,k1,b1⟩:=h.ex;intro pn Φ pins s σ H Q I ⟨σ3,g,μ,R,q⟩;refine Bj (pl:=pl) (thn (ho pn Φ pins s σ H _ I (Ju R q)) λu s1 ⟨x,H1,I1,rx,d,g1,μ1,e1,R1,q1,p1⟩=>?_) ht;obtain⟨a,dx,fv,i,rfl,rfl,hn,hH,hl,p2⟩:=Qjc (Q:=Q) (σ:=σ) (R:=λr H μ=>Post X.K ca Φ σ Q H μ r) (kk:=λi g=>(mNil σ3 g).bind λxs g2=>F (.ref i::xs) g2) R1.g (λz=>z) p1 q1;obtain rfl:u=Value.ref a:=rx;refine Qdx I1 hH k1 m1 hl ?_;exact callWith_K0 (first:=[.ref a]) I1.kIn m1.kp (Qjb (us:=[.ref a]) (vs:=[.ref a]) F1 hr b1 I1 (.cons rfl .nil) (Qg5 h.st R1.g (.cons (.ref hn) .nil) p2))
def MkQ(X:Cx)(ca:Nat->Addr)(c n:Nat)(F:MF)(Φ:XS)(σ:L2.St)(Q:VK)(vs:List V)(H1:Hp):Prop:=∀y dy,H1 y=none->H1 dy=none->dy≠y->spM X.K ca n F (.ref y::vs) (upd (upd H1 dy (.own y)) y (.ins (ca c) dy [])) (λv H2=>v=.non/\Q (.ref y) H2) (EK Φ σ)
theorem mk_z{c:Nat}{x:Str}{Φ:XS}{σ:L2.St}{H:Hp}{μ:List Addr}{σ3:S3}{g:G}{Q:VK}(h:MkH X.prog X.w X.K X.mg X.base ca c x k n F)(R:Rep X.K ca μ σ3 g σ H)(q:Post X.K ca Φ σ Q H μ (QaO c F mr σ3 g)):upA X.K ca Φ mr σ H (MkQ X ca c n F Φ σ Q):=
 Jd (QdA R q) λxs H1 ⟨ds,g1,μ1,e1,R1,q1,p1⟩ y dy hy hdy ne=>by
  have hy2:(upd H1 dy (.own y)) y=none:=by rw[QL (Ne.symm ne)];exact hy
  have ex1:Ext X.K μ1 H1 μ1 (upd H1 dy (.own y)):=Zo hdy;have g2:=R1.g.new (o:=.own y) hdy;have ex2:Ext X.K μ1 (upd H1 dy (.own y)) (μ1++[y]) (upd (upd H1 dy (.own y)) y (.ins (ca c) dy [])):=QD hy2;have g3:GRep X.K ca (μ1++[y]) (upd (upd H1 dy (.own y)) y (.ins (ca c) dy [])) (g1++[.ins c []]):=g2.push hy2 ⟨dy,[],Qr,.nil⟩;have ey:(μ1++[y])[g1.length]?=some y:=by rw[<-R1.g.len];simp
  refine Qg5 (Φ:=Φ) (σ:=σ) h.st g3 (.cons (.ref ey) ((q1.mono ex1).mono ex2)) ?_;cases hF:F (D.ref g1.length::ds) (g1++[.ins c []]) with
  |stuck=>rw[hF]at p1;exact p1.elim|raise _ _=>rw[hF]at p1;exact RaP.go (ex1.trans ex2) p1|ok d g4=>
   rw[hF,Res.bind_ok]at p1;intro v H' μ' e' r' q';cases q' with
   |non=>exact⟨rfl,p1 _ H' μ' ((ex1.trans ex2).trans e') r' (.ref (e'.at ey))⟩|_=>exact p1.elim
theorem Qmd{c:Nat}{x:Str}{pn:LAO}{Φ:XS}{pins:LAO}{s1:Shared}{σ:L2.St}{H1:Hp}{vs:List V}{us:List Value}{Q:VK}(h:MkH X.prog X.w X.K X.mg X.base ca c x k n F)(hr:Room (k+1) X.A)(I1:Inv (xat X ca pn Φ) pins σ H1 s1)(r:Vals vs us)(q1:MkQ X ca c n F Φ σ Q vs H1):wpAny (model X.prog X.w) X.A (call (.ref (ca c)) us) (EP (xat X ca pn Φ) pins σ Q) (xat X ca pn Φ).xe s1:=by
 obtain⟨f,fd,ps,F1,m1,k1,b1⟩:=h.ex;have hq:=q1 (s1.heap.objs.size+1) s1.heap.objs.size (I1.hok.fresh (Nat.le_succ _)) (I1.hok.fresh (Um _)) (UP (Tw _));have I2:=Inv.made (C:=ca c) I1;have r2:Vals (V.ref (s1.heap.objs.size+1)::vs) (Value.ref (s1.heap.objs.size+1)::us):=.cons rfl r;have hl:(Value.ref (s1.heap.objs.size+1)::us++[]).length=ps.length:=by have w:=r2.length;rw[F1.len _ _ _ _ hq]at w;rw[Tu];exact w.symm
 have b2:=b1 _ (Value.ref (s1.heap.objs.size+1)::us) I2.kIn hl;rw[Tu]at b2;refine wpAny_call (QkZ (f:=f) I1.kIn m1.makes m1.init (Rv.mp m1.fn) (W7 (F1.run _ X.stack _ _ ⟨Value.ref (s1.heap.objs.size+1)::us,[]⟩ (Value.ref (s1.heap.objs.size+1)::us) _ _ (EK Φ σ) (hr.make (ca c) us [])
  (I2.env0.make (ca c) us []) b2 r2 hq) λres s' hq'=>?_))
 cases res with
 |error z=>exact Qi7 I2 hq'|ok fl=>
  cases fl with
  |ret u =>obtain⟨v,H',I3,rv,ev,q3⟩:=I2.after hq';subst ev;exact⟨rv,⟨V.ref (s1.heap.objs.size+1),H',I3,rfl,q3⟩⟩|_=>exact False.elim hq'
theorem Qme{c:Nat}{x:Str}(h:MkH X.prog X.w X.K X.mg X.base ca c x k n F)(hr:Room (k+1) X.A)(ha:PA3 ca X (e::es) mr)(hg:Gl X x:=by rfl)(hdb:(x==("__debug__" : Str))=false:=by decide)(he:starEach (e::es) X.env=(false,eval e X.env)::starEach es X.env:=by rfl)(hpl:(backTo pos (starEach es X.env)).any (·.1)=false:=by rfl):PE3 ca X (.Call (.Name x p) (e::es) [] pos) (QaO c F mr):=by obtain⟨f,fd,ps,F1,m1,k1,b1⟩:=h.ex;intro pn Φ pins s σ H Q I ⟨σ3,g,μ,R,q⟩;refine Rl (QdT I hg k1 ?_ hdb);exact WD (h₀:=X.base) I.ok.mod.kin m1.kp (thn (ha pn Φ pos pins s σ H _ I (mk_z h R q)) λus s1 ⟨vs,H1,I1,r,q1⟩=>⟨I1.kIn,Qmd h hr I1 r q1⟩) he hpl
theorem Qnb{c:Nat}{x:Str}(h:MkH X.prog X.w X.K X.mg X.base ca c x k n F)(hr:Room (k+1) X.A)(hg:Gl X x:=by rfl)(hdb:(x==("__debug__" : Str))=false:=by decide):PE3 ca X (.Call (.Name x p) [] [] pos) (QaO c F mNil):=by obtain⟨f,fd,ps,F1,m1,k1,b1⟩:=h.ex;intro pn Φ pins s σ H Q I ⟨σ3,g,μ,R,q⟩;refine Rl (QdT I hg k1 ?_ hdb);obtain⟨_,_,μ',R',p'⟩:=mk_z h R q;exact callWith_K0 I.kIn m1.kp (Qmd h hr I .nil (p' [] H μ' .refl R'.g .nil))
end
section
variable{X:Cx}{ca:Nat->Addr}{tg e:Expr}{me:ME}{mr:MA}{p pos:Pos}
theorem Qd5(h:PI X tg iter t)(i:∀σ H R,t' σ H R->t σ H R):PI X tg iter t':=λpins s σ H R I q=>h pins s σ H R I (i σ H R q)
theorem Qjd(K:Frag)(μ:List Addr)(H:Hp)(lo:Int)(n:Nat):Sim K ca μ H (ZI lo n) (Itr lo n):=by
 intro i H1 μ1 g1 e r;unfold ZI;dsimp only;by_cases h:i<n
 ·rw[Uj h];exact⟨h,λx H' y=>by obtain⟨rfl,rfl⟩:=y;exact⟨.refl,r,.int _⟩⟩
 ·rw[Uo h];exact Rw h
theorem Qnc{K:Frag}{μ:List Addr}{H:Hp}{a:Addr}{vs:List V}{ds:List D}(h:SqT K H a vs)(q:Dens K μ H vs ds):Sim K ca μ H ⟨λ_ i=>some ds[i]?,ds.length⟩ (Itt K a):=by
 intro i H1 μ1 g1 e r;dsimp only;cases hd:ds[i]? with
 |none =>refine⟨vs,e.tup _ _ h,?_⟩;rw[q.length];exact Ts.mp hd|some d =>obtain⟨v,h1,h2⟩:=q.get hd;refine⟨⟨vs,v,e.tup _ _ h,h1⟩,λx H' y=>?_⟩;obtain⟨rfl,y⟩:=y;have:=y vs (e.tup _ _ h);rw[h1]at this;cases this;exact⟨.refl,r,h2.mono e⟩
theorem Qnd{K:Frag}{μ:List Addr}{H:Hp}{a:Addr}{n t:Nat}(hn:μ[n]?=some a):Sim K ca μ H ⟨λg i=>(match g[n]? with|some (.lst es)=>some es[i]? | _=>none),t⟩ (Itl K a):=by
 intro i H1 μ1 g1 e r;dsimp only;cases hg:g1[n]? with
 |none=>trivial|some o=>
  cases o with
  |lst ds=>
   dsimp only;obtain⟨a',ha',vs,hH,q⟩:=r.addr hg;rw[e.at hn]at ha';cases ha';cases hd:ds[i]? with
   |none =>refine⟨vs,.of hH,?_⟩;rw[q.length];exact Ts.mp hd|some d =>obtain⟨v,h1,h2⟩:=q.get hd;refine⟨⟨vs,v,.of hH,h1⟩,λx H' y=>?_⟩;obtain⟨rfl,y⟩:=y;have:=y vs (.of hH);rw[h1]at this;cases this;exact⟨.refl,r,h2⟩
  |_=>trivial
theorem QoZ{K:Frag}{μ:List Addr}{H:Hp}{a:Addr}{vs:List V}{ds:List D}(h:SqF K H a vs)(q:Dens K μ H vs ds):Sim K ca μ H ⟨λ_ i=>some ds[i]?,ds.length⟩ (Itl K a):=by
 intro i H1 μ1 g1 e r;dsimp only;have sq:SqL K H1 a vs:=(e.fl _ _ h).sq;cases hd:ds[i]? with
 |none =>refine⟨vs,sq,?_⟩;rw[q.length];exact Ts.mp hd|some d =>obtain⟨v,h1,h2⟩:=q.get hd;refine⟨⟨vs,v,sq,h1⟩,λx H' y=>?_⟩;obtain⟨rfl,y⟩:=y;have:=y vs sq;rw[h1]at this;cases this;exact⟨.refl,r,h2.mono e⟩
theorem Qo0(hl:PE X l tl):PI X tg l (λσ H R=>tl σ H λx H1=>(∃a,x=.ref a/\(∃xs,SqL X.K H1 a xs)/\R (Itl X.K a) H1)\/∃a,x=.ref a/\(∃xs,SqT X.K H1 a xs)/\R (Itt X.K a) H1):=by
 intro pins s σ H R I h;refine thn (hl pins s σ H _ I h) λv s1 ⟨x,H1,I1,r1,q1⟩=>?_;rcases q1 with⟨a,e,⟨xs,hq⟩,q⟩|⟨a,e,⟨xs,hq⟩,q⟩
 ·subst e;cases r1;obtain⟨its,rv,p,hz⟩:=I1.list hq;refine WJ p.isList ?_;refine⟨s1.heap.objs.size,[s1.heap.objs.size],_,_,H1,rfl,I1.kept (t':=s1.toks) λb o e=>Ug _ e,Qix a _,⟨_,UA _ rfl,rfl,rfl⟩,λb hb=>?_,q⟩;have e:b=s1.heap.objs.size:=by simpa using hb
  subst e;exact I1.fpOk (Um _) (I1.hok.fresh (Um _))
 ·subst e;cases r1;obtain⟨its,rv,p,hz⟩:=I1.tuple hq;refine wpAny_pyIter_tuple (show s1.heap.IsTuple a its.toArray from p) ?_;refine⟨s1.heap.objs.size,[s1.heap.objs.size],_,_,H1,rfl,I1.kept (t':=s1.toks) λb o e=>Ug _ e,QhH a _,⟨_,UA _ rfl,rfl,rfl⟩,λb hb=>?_,q⟩;have e:b=s1.heap.objs.size:=by simpa using hb
  subst e;exact I1.fpOk (Um _) (I1.hok.fresh (Um _))
theorem QR(he:PE3 ca X e me):PI3 ca X tg e (Qt me):=
 λpn Φ=>Qd5 (Qo0 (X:=xat X ca pn Φ) (he pn Φ)) λσ H R hQ=>by
  obtain⟨σ3,g,μ,Rp,p⟩:=hQ;unfold Qt at p;refine⟨σ3,g,μ,Rp,?_⟩;cases hm:me σ3 g with
  |raise _ _=>rw[hm]at p;exact p|stuck=>rw[hm]at p;exact p.elim|ok d g1=>
   rw[hm,Res.bind_ok]at p;intro v H1 μ1 e1 r1 q1;unfold JW at p;cases q1 with
   |@tup a vs ds ht hs =>exact .inr ⟨a,rfl,⟨vs,ht⟩,p _ H1 μ1 e1 r1 (Qnc ht hs)⟩|@fl a vs ds ht hs=>exact .inl ⟨a,rfl,⟨vs,ht.sq⟩,p _ H1 μ1 e1 r1 (QoZ ht hs)⟩|@ref n a hn=>
    dsimp only at p;cases hg:g1[n]? with
    |none=>rw[hg]at p;exact p.elim|some o=>
     rw[hg]at p;obtain⟨a',ha',orp⟩:=r1.addr hg;rw[hn]at ha';cases ha';cases o with
     |lst ds=>obtain⟨vs,hH,q⟩:=orp;exact .inl ⟨a,rfl,⟨vs,.of hH⟩,p _ H1 μ1 e1 r1 (Qnd hn)⟩|_=>exact p.elim
   |_=>exact p.elim
theorem Je(hm:X.mg "range"=none)(he:PE3 ca X e me)(hg:Gl X "range":=by rfl)(hs:starEach [e] X.env=[(false,eval e X.env)]:=by rfl):PI3 ca X tg (.Call (.Name "range" p) [e] [] pos) (Q1 me):=
 λpn Φ=>Qd5 (Qiy (X:=xat X ca pn Φ) hg hm (Jv he Qh hs pn Φ) hs) λσ H R hQ=>by
  obtain⟨σ3,g,μ,Rp,p⟩:=hQ;refine⟨σ3,g,μ,Rp,?_⟩;unfold Q1 at p;unfold Qa mNil;cases hm:me σ3 g with
  |raise _ _=>rw[hm]at p;exact p|stuck=>rw[hm]at p;exact p.elim|ok d g1=>
   rw[hm,Res.bind_ok]at p;rw[Res.bind_ok,Res.bind_ok];intro vs H1 μ1 e1 r1 q1;cases q1 with
   |cons h1 h2=>
    cases h2;cases h1 with
    |int j=>
     dsimp only at p;by_cases hj:inR j
     ·rw[Uj hj]at p;exact⟨j,rfl,hj.1,hj.2,p _ H1 μ1 e1 r1 (Qjd X.K μ1 H1 0 j.toNat)⟩
     ·rw[Uo hj]at p;exact p.elim
    |_=>exact p.elim
end
end L3
namespace L3
open PySem PySem.Spec PyProof.Rows L2
def blk(X:Cx)(scope:Scope)(cl:List (Str×Addr))(C:Addr)(Nb:List Str)(s3:Shared)(H3:Hp)(ex:List Addr):Cx:={X with env:=compEnvC scope cl C X.env,N:=Nb,s₀:=s3,H₀:=H3,outer:=X.stack,stack:=X.stack,ex:=ex,fn:=λ_=>false,pn:=[],xe:=λ_ _=>False}
structure BScope(X:Cx)(scope:Scope)(Nb:List Str)(no:Nat)(cap:List Nat):Prop where
 kind:scope.kind=.function
 cell:∀y∈scope.names,y.2≠.cell
 loc:∀y∈scope.names,y.2=.local->scope.names.lookup y.1=some .local
 free:∀y∈scope.names,y.2=.free->X.env.kindOf y.1=some .cell\/X.env.kindOf y.1=some .free
 len:Nb.length=no+cap.length
 cap:∀(j i:Nat),cap[j]?=some i->∃x,Nb[no+j]?=some x/\X.N[i]?=some x/\scope.names.lookup x=some .free/\Vis X.env.scope x/\X.env.kindOf x≠some .local
def clOf(cells:List (Str×Addr)):List (Str×NameKind)->List (Str×Addr)->Option (List (Str×Addr))
 |[],cs=>some cs| (n,k)::r,cs=>if (k==.free)=true then (match cells.lookup n with
  |some a=>clOf cells r ((n,a)::cs)|none=>none) else clOf cells r cs
theorem Qbw:∀(names:List (Str×NameKind))(cs cl:List (Str×Addr)),clOf env.cells names cs=some cl->
  (forIn names cs λ(x:Str×NameKind)(r:List (Str×Addr))=>(match x with
   | (name,kind)=>if (kind==.free)=true then (do let a <-cellOf env name;pure (ForInStep.yield ((name,a)::r))) else pure (ForInStep.yield r):Sem (ForInStep (List (Str×Addr)))))=(pure cl:Sem (List (Str×Addr)))
 |[],cs,cl,h=>by cases h;rfl
 | (n,k)::r,cs,cl,h=>by
  unfold clOf at h;rw[List.forIn_cons];by_cases hk:(k==.free)=true
  ·rw[Uj hk]at h;cases hl:env.cells.lookup n with
   |none=>rw[hl]at h;cases h|some a =>rw[hl]at h;dsimp only at h ⊢;rw[Uj hk];unfold cellOf;rw[hl];exact Qbw r _ cl h
  ·rw[Uo hk]at h;dsimp only;rw[Uo hk];exact Qbw r _ cl h
theorem Qa2(h:clOf env.cells scope.names []=some cl):closureFor scope env=pure cl:=by have q:=Qbw (env:=env) scope.names [] cl h;unfold closureFor;exact TV (λt=>t >>= λr=>(pure r:Sem _)) q
theorem Qa3:∀(names:List (Str×NameKind))(cs:List (Str×Addr)),(∀y∈names,y.2=.free->∃c,cells.lookup y.1=some c)->∃cl,clOf cells names cs=some cl
 |[],cs,_=>⟨cs,rfl⟩| (n,k)::r,cs,h=>by
  unfold clOf;by_cases hk:(k==.free)=true
  ·rw[Uj hk];obtain⟨c,e⟩:=h (n,k) Us (Rv.mp hk);rw[show cells.lookup n=some c from e];exact Qa3 r _ λy hy=>h y (Ut _ hy)
  ·rw[Uo hk];exact Qa3 r _ λy hy=>h y (Ut _ hy)
theorem Jf:∀(names:List (Str×NameKind))(cs cl:List (Str×Addr)),clOf cells names cs=some cl->(∀x c,cs.lookup x=some c->cells.lookup x=some c)->∀x c,cl.lookup x=some c->cells.lookup x=some c
 |[],cs,cl,h,hc=>by cases h;exact hc
 | (n,k)::r,cs,cl,h,hc=>by
  unfold clOf at h;by_cases hk:(k==.free)=true
  ·rw[Uj hk]at h;cases hl:cells.lookup n with
   |none=>rw[hl]at h;cases h|some a=>
    rw[hl]at h;refine Jf r _ cl h λx c e=>?_;by_cases z:x=n
    ·subst z;simp only[List.lookup,beq_self_eq_true]at e;cases e;exact hl
    ·have zb:(x==n)=false:=U9.mpr z;simp only[List.lookup,zb]at e;exact hc x c e
  ·rw[Uo hk]at h;exact Jf r _ cl h hc
theorem Qcs:∀(names:List (Str×NameKind))(cs cl:List (Str×Addr)),clOf cells names cs=some cl->∀x,(x∈names.filterMap λy=>if (y.2==.free)=true then some y.1 else none)\/(∃c,cs.lookup x=some c)->∃c,cl.lookup x=some c
 |[],cs,cl,h,x,hx=>by
  cases h;rcases hx with hx|hx
  ·simp at hx
  ·exact hx
 | (n,k)::r,cs,cl,h,x,hx=>by
  unfold clOf at h;by_cases hk:(k==.free)=true
  ·rw[Uj hk]at h;cases hl:cells.lookup n with
   |none=>rw[hl]at h;cases h|some a=>
    rw[hl]at h;refine Qcs r _ cl h x ?_;by_cases z:x=n
    ·subst z;exact .inr ⟨a,by simp[List.lookup]⟩
    ·have zb:(x==n)=false:=U9.mpr z;rcases hx with hx|⟨c,hx⟩
     ·rw[TU]at hx;simp only[hk,RQ]at hx;rcases Uv.mp hx with e|e
      ·exact absurd e z
      ·exact .inl e
     ·exact .inr ⟨c,by simp only[List.lookup,zb];exact hx⟩
  ·rw[Uo hk]at h;refine Qcs r _ cl h x ?_;rcases hx with hx|hx
   ·rw[TU]at hx;simp only[hk]at hx;exact .inl (by simpa using hx)
   ·exact .inr hx
theorem QcK{names:List (Str×NameKind)}{x:Str}(h:names.lookup x=some .free):x∈names.filterMap λy=>if (y.2==.free)=true then some y.1 else none:=WA.mpr ⟨(x,.free),TW h,by simp⟩
theorem J6{env:Env}:∀{names:List (Str×NameKind)}{x:Str}{k:NameKind},(∀y∈names,y.2≠.cell)->(names.map λ(n,k)=>if (k==NameKind.free&&env.scope.kind==.function&&env.kindOf n==some .cell) then (n,NameKind.cell) else (n,k)).lookup x=some k->(k=.cell\/k=.free)->names.lookup x=some .free
 |[],_,_,_,h,_=>by cases h
 | (n,k0)::r,x,k,hn,h,hk=>by
  have ih:=@J6 env r x k λy hy=>hn y (Ut _ hy);rw[UC]at h;by_cases hc:(k0==NameKind.free&&env.scope.kind==.function&&env.kindOf n==some .cell)=true
  ·have k0f:k0=.free:=by simp only[US]at hc;exact Rv.mp hc.1.1
   dsimp only at h;rw[Uj hc]at h;cases hx:x==n with
   |true=>simp only[List.lookup,hx];rw[k0f]|false=>simp only[List.lookup,hx]at h ⊢;exact ih h hk
  ·dsimp only at h;rw[Uo hc]at h;cases hx:x==n with
   |true=>
    simp only[List.lookup,hx]at h ⊢;cases h;rcases hk with e|e
    ·exact absurd e (hn (n,k0) Us)
    ·rw[e]
   |false=>simp only[List.lookup,hx]at h ⊢;exact ih h hk
theorem Qe9{prog:Program}{w:World}{A:Around}{R:Result->Shared->Prop}{s:Shared}{elt target iter:Expr}{ifs:List Expr}{scope:Scope}{pos:Pos}{it acc:Value}{env:Env}(I:Nat->Shared->Prop)(turn:∀n s,I n s->wpAny (model prog w) A (pyNext it) (λr s₁=>match r with
   |none=>R (.ok .next) s₁|some v=>wpAny (model prog w) A (letOwnedTupleGo target it v) (λ_ s1'=>wpAny (model prog w) A (assign target env v) (λ_ s₂=>
     wpAny (model prog w) A (forIn ifs true λc r=>if r=true then do let ok <-isTrue c env (eval c env);pure (ForInStep.yield ok) else pure (ForInStep.yield r)) (λok s₃=>
      if ok=true then wpAny (model prog w) A (eval elt env) (λx s₄=>
       wpAny (model prog w) A (call (.builtin "list.append") [acc,x]) (λ_ s₅=>∃m,m<n/\I m s₅) (λ_ _=>False) s₄) (λ_ _=>False) s₃
      else ∃m,m<n/\I m s₃) (λ_ _=>False) s₂) (λ_ _=>False) s1') (λ_ _=>False) s₁) (λ_ _=>False) s)(n:Nat)(h:I n s):codeAny (model prog w) A (.compLoop (.ListComp elt [⟨target,iter,ifs,0⟩] scope pos) 0 it acc env) R s:=by
 refine codeAny_loop rfl I (λn s hI=>?_) n h;show wpAny _ A ((compTurn (.ListComp elt [⟨target,iter,ifs,0⟩] scope pos) 0 it acc env).onRaise (λx=>do noteFrame x env;theTreesLotGoes x)) _ _ s;refine wpAny_noted ?_;rw[compTurn_list];refine Ua (WQ (Ua (Tf (turn n s hI) (λr s₁ h₁=>?_) λ_ _ h'=>h'.elim)));cases r with
 |none=>exact Ud h₁|some v=>
  refine Ua (Tf h₁ (λ_ s1' h1'=>?_) λ_ _ h'=>h'.elim);refine Ua (Tf h1' (λ_ s₂ h₂=>Ua (Tf h₂ (λok s₃ h₃=>?_) λ_ _ h'=>h'.elim)) λ_ _ h'=>h'.elim);cases ok with
  |false=>exact Ud ⟨rfl,h₃⟩|true =>exact Ua (Ua (Tf h₃ (λx s₄ h₄=>Ua (Tf h₄ (λ_ s₅ h₅=>Ud (Ud ⟨rfl,h₅⟩)) λ_ _ h'=>h'.elim)) λ_ _ h'=>h'.elim))
theorem Inv.track(I:Inv X pins σ H s)(ha:FpOk X pins H a)(new:ObjOk X.prog X.w (upd H a o) s.heap a o):Inv X pins σ (upd H a o) s:=by
 obtain⟨f0,f1,f2,f3,f4,f5⟩:=ha;have ne:∀b u,H b=some u->b≠a:=λb u e=>QZ e f0;refine I.step (h':=s.heap) (g':=s.gens) (t':=s.toks) (d':=s.drawn) (ch:=[a]) (λb hb=>?_) (λb o _ _ _ e _=>e) (λb o _ _ _ e _=>⟨o.slots,e⟩) (λb o hb e n=>?_) (λb o _ e=>⟨o,e⟩)
  (λb xs e=>by rw[QL (ne b _ e)];exact e) (λb o u e=>by rw[QL (ne b _ e)];exact e) (λb ps e=>⟨#[],by rw[QL (ne b _ e),e];simp⟩) (λ_ h=>h) (λb u e=>?_) I.bare
 ·have e:b=a:=by simpa using hb
  subst e;exact⟨f3,f1,f4,f5⟩
 ·rw[QL (λz=>hb (by simp[z]))];exact n
 ·by_cases hb:b=a
  ·subst hb;rw[Qr]at e;cases e;exact new
  ·rw[QL hb]at e;exact(I.hok b u e).stay (λ_ _ _ q=>q) (λc q=>by rw[QL (ne c _ q)];exact q) λc xs q=>by rw[QL (ne c _ q)];exact q
theorem FpOk.mono(h:FpOk X pins H b)(n:H' b=none):FpOk X pins H' b:=⟨n,h.2⟩
abbrev F0:XS:=λ_ _ _=>False
theorem noX(h:wpAny M A t Q (XE X ca F0) s):wpAny M A t Q (λ_ _=>False) s:=Tf h (λ_ _ z=>z) λ_ _ ⟨_,_,_,_,_,_,_,z⟩=>z
def PIf(ca:Nat->Addr)(X:Cx)(ifs:List Expr)(m:MT):Prop:=∀(pins:LAO)(s:Shared)(σ:L2.St)(H:Hp)(Q:Bool->Hp->Prop),Inv (xat X ca [] F0) pins σ H s->upT X.K ca F0 m σ H Q->wpAny (model X.prog X.w) X.A (forIn ifs true λc r=>if r=true then do let ok <-isTrue c X.env (eval c X.env);pure (ForInStep.yield ok) else pure (ForInStep.yield r)) (TP (xat X ca [] F0) pins σ Q) (λ_ _=>False) s
theorem QaP  : PIf ca X [] Zf:=by intro pins s σ H Q I ⟨_,_,μ,R,p⟩;rw[List.forIn_nil];exact Ud ⟨H,I,p H μ .refl R.g⟩
theorem Qne(h:PT3 ca X c m):PIf ca X [c] m:=by intro pins s σ H Q I q;exact wpAny_tests_one (noX (h [] F0 pins s σ H Q I q))
end L3
namespace L3
open PySem PySem.Spec PyProof.Rows L2
section
variable{X:Cx}{ca:Nat->Addr}{pn:LAO}
theorem Qo1{scope:Scope}{Nb:List Str}{no:Nat}{cap:List Nat}{cl:List (Str×Addr)}{pins:LAO}{σ:L2.St}{H:Hp}{s:Shared}{ex:List Addr}(B:BScope X scope Nb no cap)(hcl:clOf X.env.cells scope.names []=some cl)(I:Inv (xat X ca pn F0) pins σ H s)(hex:∀b∈ex,FpOk (xat X ca pn F0) pins H b)(hlt:∀b∈ex,b<s.heap.objs.size):(xat (blk X scope cl s.heap.objs.size Nb s H ex) ca [] F0).Ok where
 mod:=I.ok.mod
 kind:=B.kind
 glob:=I.ok.glob
 blt:=I.ok.blt
 above:=Um _
 inj:=λx y c h1 h2=>I.ok.inj x y c (Jf _ _ _ hcl (λ_ _ z=>by cases z) x c h1) (Jf _ _ _ hcl (λ_ _ z=>by cases z) y c h2)
 has:=λx hx=>Qcs _ _ _ hcl x (.inl (QcK (by
  rcases hx with hx|hx
  ·exact J6 B.cell hx (.inl rfl)
  ·exact J6 B.cell hx (.inr rfl))))
 cab:=λ_ _ z=>by cases z
 hd:=I.ok.hd
 frames:=I.ok.frames
 stk:=.inl rfl
 exf:=λb hb=>⟨UP (hlt b hb),λx c e z=>(hex b hb).2.2.2.2.1 x c (Jf _ _ _ hcl (λ_ _ z=>by cases z) x c e) z⟩
 bs:=I.bs
 bsz:=Ue I.ok.bsz I.sz
 noex:=λb o e hb=>by
  rcases(hex b hb).2.2.2.1 with z|z
  ·exact I.ok.noex b o e z
  ·exact absurd (Ux (Uw e) (Ue I.ok.bsz z)) (TF _)
 exfs:=λb hb z=>by
  rcases Uv.mp (I.stkSub b z) with e|e
  ·exact(hex b hb).2.1 e
  ·exact(hex b hb).2.2.1 e
 funs:=I.stack
 frf:=I.stkFree
theorem Jw{env:Env}:∀{names:List (Str×NameKind)}{x:Str},names.lookup x=some .free->(names.map λ(n,k)=>if (k==NameKind.free&&env.scope.kind==.function&&env.kindOf n==some .cell) then (n,NameKind.cell) else (n,k)).lookup x=some .local->False
 |[],_,h,_=>by cases h
 | (n,k0)::r,x,h,h'=>by
  have ih:=@Jw env r x;rw[UC]at h';dsimp only at h';by_cases hc:(k0==NameKind.free&&env.scope.kind==.function&&env.kindOf n==some .cell)=true
  ·rw[Uj hc]at h';cases hx:x==n with
   |true=>simp only[List.lookup,hx]at h';cases h'|false=>simp only[List.lookup,hx]at h h';exact ih h h'
  ·rw[Uo hc]at h';cases hx:x==n with
   |true=>simp only[List.lookup,hx]at h h';rw[h']at h;cases h|false=>simp only[List.lookup,hx]at h h';exact ih h h'
theorem Qlb{K:Frag}{ca:Nat->Addr}{μ2:List Addr}{σ3:S3}{g1:G}{σ:L2.St}{H2:Hp}(no:Nat)(cap:List Nat)(R2:Rep K ca μ2 σ3 g1 σ H2):Rep K ca μ2 (capt no cap σ3) g1 (List.replicate no none++cap.map λi=>(σ[i]?).getD none) H2:=by
 refine⟨R2.g,?_,λi d h=>?_⟩
 ·unfold capt;rw[Uh,Uh,U2,U2,Ub,Ub]
 ·unfold capt at h;have hi:no<=i:=by apply Rw;intro hlt;rw[Ui (by simpa using hlt),Rh,Uj hlt]at h;cases h
  rw[UN (by simpa using hi),U2,UK]at h ⊢;cases hcp:cap[i-no]? with
  |none=>rw[hcp]at h;cases h|some j=>
   rw[hcp]at h;have h:(σ3[j]?).getD none=some d:=by simpa using h
   have hs:σ3[j]?=some (some d):=by
    cases z:σ3[j]? with
    |none=>rw[z]at h;cases h|some w=>rw[z]at h;have h:w=some d:=h;rw[h]
   obtain⟨v,h1,h2⟩:=R2.st j d hs;exact⟨v,by simp[h1],h2⟩
theorem Qfa{tg iter elt:Expr}{ifs:List Expr}{scope:Scope}{pos:Pos}{Nb:List Str}{no:Nat}{cap:List Nat}{cl:List (Str×Addr)}{f:MG}{tc:MT}{me:ME}{src:Src}{pins:LAO}{σ:L2.St}{σ3:S3}{H2:Hp}{s2:Shared}{μ2:List Addr}{g1 g2:G}{ds:List D}{it:Addr}{fp:List Addr}{tn:Nat->Heap->Prop}{J:It}{RR:Value->Addr->Result->Shared->Prop}{E:VP}(B:BScope X scope Nb no cap)(hc:X.calm=true)(hb:∀cl C s3 H3 ex,PG3 ca (blk X scope cl C Nb s3 H3 ex) tg f/\PIf ca (blk X scope cl C Nb s3 H3 ex) ifs tc/\PE3 ca (blk X scope cl C Nb s3 H3 ex) elt me)(hcl:clOf X.env.cells scope.names []=some cl)(I2:Inv (xat X ca pn F0) pins σ H2 s2)(T:Turn X.prog X.w X.K tg J fp it tn)(st2:tn 0 s2.heap)(f2:∀b∈fp,FpOk (xat X ca pn F0) pins H2 b)(R2:Rep X.K ca μ2 σ3 g1 σ H2)(sim:Sim X.K ca μ2 H2 src J)(hz:src.top<=SZ)(hL:Z9 src f tc me (src.top+1) 0 (capt no cap σ3) g1 []=.ok ds g2)(fin:∀(D C:Addr) (s':Shared) (H4:Hp) (μ4:List Addr) (accV:List V) (its:List Value) (k:Nat),Inv (xat X ca pn F0) pins σ H4 s'->(∃m,s'.heap.Ns C m)->FpOk (xat X ca pn F0) pins H4 C->FpOk (xat X ca pn F0) pins H4 D->D≠C->s'.heap.get? D=some {cls:=.type "list",data:=.seq its.toArray k}->Vals accV its->accV.length<=sizeLine->Ext X.K μ2 H2 μ4 H4->GRep X.K ca μ4 H4 g2->Dens X.K μ4 H4 accV ds->RR (.ref D) C (.ok .next) s'):
  wpAny (model X.prog X.w) X.A (newList []) (λacc s₃=>wpAny (model X.prog X.w) X.A (newFunctionEnv scope X.env.globals cl [] X.env.qual none .none (some X.env)) (λcenv s₄=>
   codeAny (model X.prog X.w) X.A (.compStart (.ListComp elt [⟨tg,iter,ifs,0⟩] scope pos) 0 (.ref it) acc {cenv with scope:=relabel scope X.env}) (RR acc cenv.locals) s₄) E s₃) E s2:=by
 refine UZ (wpAny_newFunctionEnv B.cell (by intro y hy;simp at hy) (λh₁ hns₁ hsb₁=>?_) B.kind);dsimp only at hns₁ hsb₁ ⊢;generalize hH2:s2.heap.push {cls:=.type "list",dict:=none,data:=.seq ([]:List Value).toArray}=hp at hns₁ hsb₁ ⊢;have hC:hp.objs.size=s2.heap.objs.size+1:=by rw[<-hH2,Bx]
 have I3:Inv (xat X ca pn F0) pins σ H2 {s2 with heap:=hp}:=by rw[<-hH2];exact I2.kept (t':=s2.toks) λb o e=>Ug _ e
 have hD3:hp.get? s2.heap.objs.size=some {cls:=.type "list",data:=.seq ([]:List Value).toArray}:=by rw[<-hH2];exact UA _ rfl
 have fD:FpOk (xat X ca pn F0) pins H2 s2.heap.objs.size:=I2.fpOk (Um _) (I2.hok.fresh (Um _));have fC:FpOk (xat X ca pn F0) pins H2 hp.objs.size:=I3.fpOk (Um _) (I3.hok.fresh (Um _));have fplt:∀b∈fp,b<s2.heap.objs.size:=λb hb=>by obtain⟨o,e,_⟩:=T.obj 0 _ st2 b hb;exact Uw e
 have DnF:s2.heap.objs.size∉fp:=λh=>TF _ (fplt _ h);have DnC:s2.heap.objs.size≠hp.objs.size:=by rw[hC];exact UP (Tw _)
 have exOk:∀b∈s2.heap.objs.size::fp,FpOk (xat X ca pn F0) pins H2 b:=λb hb=>by
  rcases Uv.mp hb with e|e
  ·rw[e];exact fD
  ·exact f2 b e
 have exLt:∀b∈s2.heap.objs.size::fp,b<hp.objs.size:=λb hb=>by
  rcases Uv.mp hb with e|e
  ·rw[e,hC];exact Tw _
  ·rw[hC];exact Nat.lt_succ_of_lt (fplt b e)
 have okb:(xat (blk X scope cl hp.objs.size Nb {s2 with heap:=hp} H2 (s2.heap.objs.size::fp)) ca [] F0).Ok:=Qo1 (s:={s2 with heap:=hp}) B hcl I3 exOk exLt;obtain⟨hgB,hiB,heB⟩:=hb cl hp.objs.size {s2 with heap:=hp} H2 (s2.heap.objs.size::fp);have old:∀b o,hp.get? b=some o->h₁.get? b=some o:=λb o e=>hsb₁.extBut b o (UP (Uw e)) (Ug _ e)
 -- the block's first state
 have Ib:Inv (xat (blk X scope cl hp.objs.size Nb {s2 with heap:=hp} H2 (s2.heap.objs.size::fp)) ca [] F0) [] (List.replicate no none++cap.map λi=>(σ[i]?).getD none) H2 {s2 with heap:=h₁,toks:=s2.toks+([]:List (Str×Value)).length}:=by
  refine⟨okb,rfl,I3.bare,Un.kept old,⟨_,hns₁,λi x v h1 h2 h3=>?_⟩,λx c e=>?_,fC.1,λx c e=>?_,λp hp=>absurd (show p∈([]:LAO) from hp) (by simp),I3.hok.kept old,?_⟩
  ·have hi:no<=i:=by apply Rw;intro hlt;rw[Ui (by simpa using hlt),Rh,Uj hlt]at h2;cases h2
   rw[UN (by simpa using hi),U2,UK]at h2;cases hcp:cap[i-no]? with
   |none=>rw[hcp]at h2;cases h2|some j=>
    rw[hcp]at h2;have h2:(σ[j]?).getD none=some v:=by simpa using h2
    have hs:σ[j]?=some (some v):=by
     cases z:σ[j]? with
     |none=>rw[z]at h2;cases h2|some w=>rw[z]at h2;have h2:w=some v:=h2;rw[h2]
    obtain⟨y,n1,n2,n3,n4,n5⟩:=B.cap (i-no) j hcp;have e0:no+(i-no)=i:=by omega
    rw[e0]at n1;have h1:Nb[i]?=some x:=h1;have hxy:y=x:=Option.some.inj (n1.symm.trans h1);subst hxy;obtain⟨m,hn,hl⟩:=I3.loc;obtain⟨u,ru,lk⟩:=hl j y v n2 hs n4;refine⟨u,ru,.inr ⟨?_,?_⟩⟩
    ·rcases h3 with z|z|z
     ·exact(Jw n3 z).elim
     ·exact .inl z
     ·exact .inr z
    ·rcases lk with⟨k1,_⟩|⟨_,c,k2,k3⟩
     ·exact absurd k1 n5
     ·obtain⟨c',hc'⟩:=Qcs _ _ _ hcl y (.inl (QcK n3));have:=Jf _ _ _ hcl (λ_ _ z=>by cases z) y c' hc';have k2:X.env.cells.lookup y=some c:=k2;have hcc:c'=c:=Option.some.inj (this.symm.trans k2);subst hcc;exact⟨c',hc',k3.keeps old⟩
  ·obtain⟨v,z⟩:=I3.cell x c (Jf _ _ _ hcl (λ_ _ z=>by cases z) x c e);exact⟨v,z.keeps old⟩
  ·exact I3.freeC x c (Jf _ _ _ hcl (λ_ _ z=>by cases z) x c e)
  ·rw[Uh,U2,Ub];exact B.len.symm
 have RbR:=Qlb no cap R2;have eK:(xat (blk X scope cl hp.objs.size Nb {s2 with heap:=hp} H2 (s2.heap.objs.size::fp)) ca [] F0).K=X.K:=rfl;have eP:(xat (blk X scope cl hp.objs.size Nb {s2 with heap:=hp} H2 (s2.heap.objs.size::fp)) ca [] F0).prog=X.prog:=rfl;have eW:(xat (blk X scope cl hp.objs.size Nb {s2 with heap:=hp} H2 (s2.heap.objs.size::fp)) ca [] F0).w=X.w:=rfl;have eA:(xat (blk X scope cl hp.objs.size Nb {s2 with heap:=hp} H2 (s2.heap.objs.size::fp)) ca [] F0).A=X.A:=rfl;have eE:(xat (blk X scope cl hp.objs.size Nb {s2 with heap:=hp} H2 (s2.heap.objs.size::fp)) ca [] F0).env=compEnvC scope cl hp.objs.size X.env:=rfl;have eC:(xat (blk X scope cl hp.objs.size Nb {s2 with heap:=hp} H2 (s2.heap.objs.size::fp)) ca [] F0).calm=true:=hc;have eX:∀b∈s2.heap.objs.size::fp,b∈(xat (blk X scope cl hp.objs.size Nb {s2 with heap:=hp} H2 (s2.heap.objs.size::fp)) ca [] F0).ex:=λb hb=>hb;have eN:∀{pl:LAO}{p:Addr×Obj},p∈(xat (blk X scope cl hp.objs.size Nb {s2 with heap:=hp} H2 (s2.heap.objs.size::fp)) ca [] F0).pn++pl->p∈pl:=λh=>h;have toUn:∀{pl:LAO}{σ':L2.St}{H':Hp}{s':Shared},Inv (xat (blk X scope cl hp.objs.size Nb {s2 with heap:=hp} H2 (s2.heap.objs.size::fp)) ca [] F0) pl σ' H' s'->Un (frs (xat X ca pn F0).stack) (s2.heap.objs.size::fp) H2 H' hp s'.heap:=λI=>I.base;have toOs:∀{pl:LAO}{σ':L2.St}{H':Hp}{s':Shared},Inv (xat (blk X scope cl hp.objs.size Nb {s2 with heap:=hp} H2 (s2.heap.objs.size::fp)) ca [] F0) pl σ' H' s'->s'.os=s2.os:=λI=>I.os;generalize blk X scope cl hp.objs.size Nb {s2 with heap:=hp} H2 (s2.heap.objs.size::fp)=Xb at okb hgB hiB heB Ib eK eP eW eA eE eC eX eN toUn toOs
 -- the iterator's records,through the block
 have FpB:∀{H:Hp}{pl:LAO},(∀b∈fp,H b=none)->(∀p∈pl,p.1∉fp)->∀b∈fp,FpOk (xat Xb ca [] F0) pl H b:=λ{H pl} hn hpl b hb=>by
  have e0:=okb.exf b (eX b (Ut _ hb));refine⟨hn b hb,e0.1,?_,.inl (eX b (Ut _ hb)),e0.2,λp hp z=>?_⟩
  ·exact okb.exfs b (eX b (Ut _ hb))
  ·have hp':p∈pl:=eN hp;exact hpl p hp' (z ▸ hb)
 have FpD:∀{H:Hp},H s2.heap.objs.size=none->FpOk (xat Xb ca [] F0) [] H s2.heap.objs.size:=λ{H} hn=>by
  have e0:=okb.exf s2.heap.objs.size (eX _ Us);refine⟨hn,e0.1,?_,.inl (eX _ Us),e0.2,λp hp=>?_⟩
  ·exact okb.exfs s2.heap.objs.size (eX _ Us)
  ·exact absurd (eN hp) (by simp)
 have st4:tn 0 h₁:=T.keep _ _ _ st2 λb hb o e=>old b o (by rw[<-hH2];exact Ug _ e)
 -- the invariant
 have loop:∀s4:Shared,s4 = {s2 with heap:=h₁,toks:=s2.toks+([]:List (Str×Value)).length}->codeAny (model X.prog X.w) X.A (.compLoop (.ListComp elt [⟨tg,iter,ifs,0⟩] scope pos) 0 (.ref it) (.ref s2.heap.objs.size) (compEnvC scope cl hp.objs.size X.env)) (RR (.ref s2.heap.objs.size) hp.objs.size) s4:=by
  rintro s4 rfl;refine Qe9 (λn s'=>∃(i:Nat)(σ4:S3)(g4:G)(μ4:List Addr)(σ5:L2.St)(H4:Hp)(acc:List D)(accV:List V)(its:List Value)(k:Nat),Inv (xat Xb ca [] F0) [] σ5 H4 s'/\tn i s'.heap/\(∀b∈fp,H4 b=none)/\H4 s2.heap.objs.size=none/\s'.heap.get? s2.heap.objs.size=some {cls:=.type "list",data:=.seq its.toArray k}/\Vals accV its/\Ext X.K μ2 H2 μ4 H4/\Rep X.K ca μ4 σ4 g4 σ5 H4/\Dens X.K μ4 H4 accV acc/\Z9 src f tc me n i σ4 g4 acc=.ok ds g2/\acc.length<=i/\i+n<=SZ+1) ?_ (src.top+1) ⟨0,capt no cap σ3,g1,μ2,_,H2,[],[],[],_,Ib,st4,λb hb=>(f2 b hb).1,fD.1,old _ _ hD3,.nil,.refl,RbR,.nil,hL,Um _,by omega⟩
  rintro n s5 ⟨i,σ4,g4,μ4,σ5,H4,acc,accV,its,k,I5,st5,fr5,frD,hD5,va,e5,R5,da,hl5,ha5,hn5⟩;cases n with
  |zero=>cases hl5|succ n=>
   unfold Z9 at hl5;have s1:=sim i H4 μ4 g4 e5 R5.g;have pinD:Inv (xat Xb ca [] F0) [(s2.heap.objs.size,{cls:=.type "list",data:=.seq its.toArray k})] σ5 H4 s5:=I5.pins_of λp hp=>by rw[Uf.mp hp];have z:=FpD frD;exact⟨hD5,frD,z.2.1,z.2.2.1,λv q=>by cases q⟩
   have nofp:∀p∈[(s2.heap.objs.size,({cls:=.type "list",data:=.seq its.toArray k}:Obj))],p.1∉fp:=λp hp=>by rw[Uf.mp hp];exact DnF
   have getD:∀{σ':L2.St}{H':Hp}{s':Shared}{pl:LAO},Inv (xat Xb ca [] F0) ([(s2.heap.objs.size,({cls:=.type "list",data:=.seq its.toArray k}:Obj))]++pl) σ' H' s'->s'.heap.get? s2.heap.objs.size=some {cls:=.type "list",data:=.seq its.toArray k}/\H' s2.heap.objs.size=none:=λ{σ' H' s' pl} I'=>by have z:=I'.pin (s2.heap.objs.size,{cls:=.type "list",data:=.seq its.toArray k}) (UD _ (TH _ (Uf.mpr rfl)));exact⟨z.1,z.2.1⟩
   cases hat:src.at' g4 i with
   |none=>rw[hat]at hl5;cases hl5|some od=>
    rw[hat]at hl5 s1;cases od with
    |none=>
     cases hl5;have dn:=T.done (xat Xb ca [] F0) eP eW eK eC i _ s5 σ5 H4 (λ_ _=>False) pinD (FpB fr5 nofp) st5 s1;rw[eA]at dn;refine thn dn λr s6 ⟨hr,I6⟩=>?_;subst hr;obtain⟨hD6,frD6⟩:=getD (pl:=[]) (by rw[Tu];exact I6);have un:Un (frs (xat X ca pn F0).stack) (s2.heap.objs.size::fp) H2 H4 hp s6.heap:=toUn I6;have hok:HOk (xat X ca pn F0).prog (xat X ca pn F0).w H4 s6.heap:=by have:=I6.hok;rw[eP,eW]at this;exact this
     have os:s6.os=s2.os:=toOs I6;have I7:Inv (xat X ca pn F0) pins σ H4 s6:=Inv.call' (s':=s6) (ch:=s2.heap.objs.size::fp) I3 os un hok I6.bare λb hb=>⟨(exOk b hb).2.2.2.1,(exOk b hb).2.1,(exOk b hb).2.2.2.2.1,(exOk b hb).2.2.2.2.2⟩;have hCn:H4 hp.objs.size=none:=by have:=I6.free;rw[eE]at this;exact this
     have nsC:∃m,s6.heap.Ns hp.objs.size m:=by obtain⟨m,hm,_⟩:=I6.loc;rw[eE]at hm;exact⟨m,hm⟩
     refine fin _ _ s6 H4 μ4 accV its k I7 nsC (FpOk.mono fC hCn) (FpOk.mono fD frD6) DnC hD6 va ?_ e5 R5.g da;rw[da.length];have:=Yk;omega
    |some d=>
     obtain⟨go,yl⟩:=s1;dsimp only at hl5;cases hf:f d σ4 with
     |none=>rw[hf]at hl5;cases hl5|some σ6=>
      rw[hf]at hl5;dsimp only at hl5;have im:=T.item (xat Xb ca [] F0) eP eW eK eC i _ s5 σ5 H4 (λ_ _=>False) pinD (FpB fr5 nofp) st5 go;rw[eA]at im;refine thn im λr s6 ⟨u,hr,h6⟩=>?_;subst hr;refine thn h6 λ_ s7 ⟨x,H7,I7,r7,y7,st7,fr7⟩=>?_;obtain⟨e7,g7,q7⟩:=yl x H7 y7;have I7':=I7.pinned (FpB fr7 nofp) (T.obj _ _ st7);have R7:=R5.go e7 g7;have asg:=hgB [] F0 _ s7 σ5 H7 x u (λσ' H'=>H'=H7/\Rep X.K ca μ4 σ6 g4 σ' H7) I7' r7 (by have:Xb.K=X.K:=eK;rw[this];exact⟨σ4,g4,μ4,d,σ6,R7,q7,hf,λσ' R'=>⟨rfl,R'⟩⟩);rw[eP,eW,eA,eE]at asg;refine thn (noX asg) λ_ s8 ⟨σ8,H8,I8,e8,R8⟩=>?_;subst e8;cases ht:tc σ6 g4 with
      |raise _ _=>rw[ht]at hl5;cases hl5|stuck=>rw[ht]at hl5;cases hl5|ok b g9=>
       rw[ht]at hl5;have hl5:(if b=true then (match me σ6 g9 with | .ok y g2=>Z9 src f tc me n (i+1) σ6 g2 (acc++[y])|_=>.stuck) else Z9 src f tc me n (i+1) σ6 g9 acc)=.ok ds g2:=hl5;have tst:=hiB _ s8 σ8 _ (λb' H'=>b'=b/\∃μ9,Ext X.K μ4 H8 μ9 H'/\Rep X.K ca μ9 σ6 g9 σ8 H') I8 (by have:Xb.K=X.K:=eK;rw[this];refine⟨σ6,g4,μ4,R8,?_⟩;rw[ht];exact λH' μ' e' r'=>⟨rfl,μ',e',R8.go e' r'⟩);have eP':Xb.prog=X.prog:=eP;have eW':Xb.w=X.w:=eW;have eA':Xb.A=X.A:=eA;have eE':Xb.env=compEnvC scope cl hp.objs.size X.env:=eE;rw[eP',eW',eA',eE']at tst;refine thn tst λok s9 ⟨H9,I9,eb,μ9,e9,R9⟩=>?_;subst eb;have again:∀{σ':L2.St}{H':Hp}{s':Shared},Inv (xat Xb ca [] F0) ([(s2.heap.objs.size,({cls:=.type "list",data:=.seq its.toArray k}:Obj))]++QeQ fp s7.heap) σ' H' s'->Inv (xat Xb ca [] F0) [] σ' H' s'/\tn (i+1) s'.heap/\∀b∈fp,H' b=none:=λ{σ' H' s'} I'=>by refine⟨I'.pins_of λp hp=>absurd hp (by simp),T.keep _ _ _ st7 λb hb o e=>(I'.pin (b,o) (UD _ (UD _ (Qav hb e)))).1,λb hb=>?_⟩;obtain⟨o,e,_⟩:=T.obj _ _ st7 b hb;exact(I'.pin (b,o) (UD _ (UD _ (Qav hb e)))).2.1
       cases ok with
       |false =>rw[Uo Uk]at hl5 ⊢;obtain⟨J1,J2,J3⟩:=again I9;obtain⟨K1,K2⟩:=getD I9;refine⟨n,Tw n,i+1,σ6,g9,μ9,σ8,H9,acc,accV,its,k,J1,J2,J3,K2,K1,va,(e5.trans e7).trans e9,R9,(da.mono e7).mono e9,hl5,by omega,by omega⟩|true=>
        rw[Uj rfl]at hl5 ⊢;cases hm:me σ6 g9 with
        |raise _ _=>rw[hm]at hl5;cases hl5|stuck=>rw[hm]at hl5;cases hl5|ok y g10=>
         rw[hm]at hl5;have hl5:Z9 src f tc me n (i+1) σ6 g10 (acc++[y])=.ok ds g2:=hl5;have el:=heB [] F0 _ s9 σ8 H9 (λvy H'=>∃μ10,Ext X.K μ9 H9 μ10 H'/\Rep X.K ca μ10 σ6 g10 σ8 H'/\Den X.K μ10 H' vy y) I9 (by have:Xb.K=X.K:=eK;rw[this];refine⟨σ6,g9,μ9,R9,?_⟩;rw[hm];exact λv H' μ' e' r' q'=>⟨μ',e',R9.go e' r',q'⟩);rw[eP,eW,eA,eE]at el;refine thn (noX el) λuy s10 ⟨vy,H10,I10,ry,μ10,e10,R10,qy⟩=>?_;obtain⟨K1,K2⟩:=getD I10;obtain⟨J1,J2,J3⟩:=again I10;have hlen:its.length=acc.length:=by rw[<-va.length,da.length]
         refine RL F.slot_list_append ⟨_,K1,rfl⟩ F.entry_list_append (F.args_list_append_2 _ _) (PySem.list_append s2.heap.objs.size its.toArray k uy (by rw[Ur,Tn];have:SZ=1000000:=rfl;omega)) ⟨K1,?_⟩;have up:=PySem.IsL.update K1 (·.push uy);rw[show its.toArray.push uy=(its++[uy]).toArray by simp]at up;have upo:∀b o,b≠s2.heap.objs.size->s10.heap.get? b=some o->(s10.heap.update s2.heap.objs.size (Obj.mapSeq (·.push uy))).get? b=some o:=λb o hb e=>(Ti s10.heap (Obj.mapSeq (·.push uy)) (Ne.symm hb)).trans e;obtain⟨d0,d1,d2,d3,d4,d5⟩:=FpD K2;refine⟨n,Tw n,i+1,σ6,g10,μ10,σ8,H10,acc++[y],accV++[vy],its++[uy],_,J1.turned (t':=s10.toks) upo d0 d1 d3 d4 d5,T.keep _ _ _ J2 λb hb o e=>upo b o (λz=>DnF (z ▸ hb)) e,J3,K2,up,va.append (.cons ry .nil),((e5.trans e7).trans e9).trans e10,R10,((da.mono e7).mono e9).mono e10 |>.append (.cons qy .nil),hl5,by rw[Uh,Tc];omega,by omega⟩
 exact codeAny_compStart_list (loop _ rfl) (T.self _ 0 _ _ _ st4 (loop _ rfl))
end
end L3
namespace L3
open PySem PySem.Spec PyProof.Rows L2
section
variable{X:Cx}{ca:Nat->Addr}
theorem Qlc{K:Frag}{Φ:XS}{σ:L2.St}{Q:VK}{H:Hp}{μ:List Addr}{mi:MI}{no:Nat}{cap:List Nat}{f:MG}{tc:MT}{me:ME}{σ3:S3}{g:G}(p:Post K ca Φ σ Q H μ (Za mi no cap f tc me σ3 g)):
  ∃src g1 ds g2,mi σ3 g=.ok src g1/\src.top<=SZ/\Z9 src f tc me (src.top+1) 0 (capt no cap σ3) g1 []=.ok ds g2/\Post K ca Φ σ Q H μ (.ok (.ref g2.length) (g2++[.lst ds])):=by
 unfold Za at p;cases hm:mi σ3 g with
 |raise _ _=>rw[hm]at p;exact p.elim|stuck=>rw[hm]at p;exact p.elim|ok src g1=>
  rw[hm]at p;dsimp only at p;by_cases hz:src.top<=SZ
  ·rw[Uj hz]at p;cases hL:Z9 src f tc me (src.top+1) 0 (capt no cap σ3) g1 []with
   |raise _ _=>rw[hL]at p;exact p.elim|stuck=>rw[hL]at p;exact p.elim|ok ds g2=>rw[hL]at p;exact⟨src,g1,ds,g2,rfl,hz,hL,p⟩
  ·rw[Uo hz]at p;exact p.elim
theorem YY{tg iter elt:Expr}{ifs:List Expr}{scope:Scope}{pos:Pos}{Nb:List Str}{no:Nat}{cap:List Nat}{mi:MI}{f:MG}{tc:MT}{me:ME}(B:BScope X scope Nb no cap)(hc:X.calm=true)(hi:PI3 ca X tg iter mi)(hb:∀cl C s3 H3 ex,PG3 ca (blk X scope cl C Nb s3 H3 ex) tg f/\PIf ca (blk X scope cl C Nb s3 H3 ex) ifs tc/\PE3 ca (blk X scope cl C Nb s3 H3 ex) elt me)(hs:∀x,foldedSetIterable iter X.env x=pure x:=by intro _;rfl):PE3 ca X (.ListComp elt [⟨tg,iter,ifs,0⟩] scope pos) (Za mi no cap f tc me):=by
 intro pn Φ pins s σ H Q I' ⟨σ3,g,μ,R,p⟩;obtain⟨src,g1,ds,g2,hm,hz,hL,p⟩:=Qlc p;have I:Inv (xat X ca pn F0) pins σ H s:=Inv.wish I' _;suffices hh:wpAny (model X.prog X.w) X.A (eval (.ListComp elt [⟨tg,iter,ifs,0⟩] scope pos) X.env) (EP (xat X ca pn F0) pins σ Q) (λ_ _=>False) s from
  Tf hh (λu s' ⟨v,H',J,r,q⟩=>⟨v,H',Inv.wish J _,r,q⟩) λ_ _ z=>z.elim
 obtain⟨cl,hcl⟩:=Qa3 (cells:=X.env.cells) scope.names [] λy hy hf=>I.ok.has y.1 (B.free y hy hf);rw[eval_ListComp];refine wpAny_comprehension_free (env:=X.env) (use:=none) rfl hs (Qa2 hcl) B.kind B.loc ?_;refine thn (noX (hi pn F0 pins s σ H (λJ H'=>∃μ',Ext X.K μ H μ' H'/\GRep X.K ca μ' H' g1/\Sim X.K ca μ' H' src J) I ⟨σ3,g,μ,R,?_⟩)) λv s1 h1=>thn (noX h1) λitv s2 h2=>?_
 ·rw[hm];exact λJ H' μ' e r sm=>⟨μ',e,r,sm⟩
 ·obtain⟨it,fp,tn,J,H2,e,I2,T,st2,f2,μ2,e2,r2,sim⟩:=h2;subst e;refine Qfa (X:=X) (pn:=pn) (RR:=λacc C=>compPost (model X.prog X.w) X.A (λ_ _=>False) none (EP (xat X ca pn F0) pins σ Q) acc C) B hc hb hcl I2 T st2 f2 (R.go e2 r2) sim hz hL ?_;intro D C s' H4 μ4 accV its k I4 nsC fC fD dc hD va hl e4 r4 da;obtain⟨m,nsC⟩:=nsC;refine⟨m,nsC,λh'' hs''=>?_⟩;have I5:Inv (xat X ca pn F0) pins σ H4 {s' with heap:=h''}:=I4.turned (t':=s'.toks) (λb o hb e=>hs''.extBut b o hb e) fC.1 fC.2.1 fC.2.2.2.1 fC.2.2.2.2.1 fC.2.2.2.2.2;have hD':=hs''.extBut _ _ dc hD;have I6:=Inv.track (o:=.lst accV) I5 fD ⟨hl,its,k,va,hD'⟩;refine⟨.ref D,_,I6,rfl,p _ _ (μ4++[D]) ((e2.trans e4).trans (QD fD.1)) (r4.push fD.1 ⟨accV,Qr,da.mono (QD fD.1)⟩) (.ref ?_)⟩;rw[<-r4.len];simp
theorem QcL(i:Nat){x:Str}{py spos:Pos}{tg iter elt:Expr}{ifs:List Expr}{scope:Scope}{pos:Pos}{Nb:List Str}{no:Nat}{cap:List Nat}{mi:MI}{f:MG}{tc:MT}{me:ME}(hN:X.N.Nodup)(B:BScope X scope Nb no cap)(hc:X.calm=true)(hi:PI3 ca X tg iter mi)(hb:∀cl C s3 H3 ex,PG3 ca (blk X scope cl C Nb s3 H3 ex) tg f/\PIf ca (blk X scope cl C Nb s3 H3 ex) ifs tc/\PE3 ca (blk X scope cl C Nb s3 H3 ex) elt me)(hs:∀x,foldedSetIterable iter X.env x=pure x:=by intro _;rfl)(hn:X.N[i]?=some x:=by rfl)(hx:Loc X.env.scope x:=by first|exact Or.inl rfl|exact Or.inr rfl)(hf:X.fn x=true\/X.env.scope.names.lookup x=some .local:=by first|exact .inl rfl|exact .inr rfl)(hsw:swapsWith (.ListComp elt [⟨tg,iter,ifs,0⟩] scope pos) (some (.Name x py)) spos.line X.env=pure true:=by rfl):
  PS3 ca X (.Assign [.Name x py] (.ListComp elt [⟨tg,iter,ifs,0⟩] scope pos) spos) (mAsg (gSet i) (Za mi no cap f tc me)):=by
 intro pn Φ pins s σ H En I' ⟨σ3,g,μ,R,p⟩;have pp:∃src g1 ds g2,mi σ3 g=.ok src g1/\src.top<=SZ/\Z9 src f tc me (src.top+1) 0 (capt no cap σ3) g1 []=.ok ds g2/\PostS X.K ca Φ En H μ (.nx (σ3.set i (some (.ref g2.length))) (g2++[.lst ds])):=by
  unfold mAsg Za gSet at p;cases hm:mi σ3 g with
  |raise _ _=>rw[hm]at p;exact p.elim|stuck=>rw[hm]at p;exact p.elim|ok src g1=>
   rw[hm]at p;dsimp only at p;by_cases hz:src.top<=SZ
   ·rw[Uj hz]at p;cases hL:Z9 src f tc me (src.top+1) 0 (capt no cap σ3) g1 []with
    |raise _ _=>rw[hL]at p;exact p.elim|stuck=>rw[hL]at p;exact p.elim|ok ds g2=>rw[hL]at p;exact⟨src,g1,ds,g2,rfl,hz,hL,p⟩
   ·rw[Uo hz]at p;exact p.elim
 obtain⟨src,g1,ds,g2,hm,hz,hL,p⟩:=pp;have I:Inv (xat X ca pn F0) pins σ H s:=Inv.wish I' _;suffices hh:wpAny (model X.prog X.w) X.A (exec (.Assign [.Name x py] (.ListComp elt [⟨tg,iter,ifs,0⟩] scope pos) spos) X.env) (SP (xat X ca pn F0) pins En) (λ_ _=>False) s from
  Tf hh (λu s' z=>SP.unwish (X:=xat X ca pn Φ) (E:=(xat X ca pn F0).xe) z) λ_ _ z=>z.elim
 obtain⟨cl,hcl⟩:=Qa3 (cells:=X.env.cells) scope.names [] λy hy hf=>I.ok.has y.1 (B.free y hy hf);rw[exec_Assign_Name_used _ _ _ _ hsw];refine Ua (WQ (Ua ?_));show wpAny _ _ (do let _ <-comprehension (.ListComp elt [⟨tg,iter,ifs,0⟩] scope pos) scope X.env _ (newList []) false (eval iter X.env) (some (assign (.Name x py) X.env))) _ _ s;refine Ua (Tf (wpAny_comprehension_free (env:=X.env) (use:=some (assign (.Name x py) X.env)) (Q:=λ_ s'=>SP (xat X ca pn F0) pins En .next s') rfl hs (Qa2 hcl) B.kind B.loc ?_) (λ_ s' hq=>Ud (Ud hq)) λ_ _ e=>e);refine thn (noX (hi pn F0 pins s σ H (λJ H'=>∃μ',Ext X.K μ H μ' H'/\GRep X.K ca μ' H' g1/\Sim X.K ca μ' H' src J) I ⟨σ3,g,μ,R,?_⟩)) λv s1 h1=>thn (noX h1) λitv s2 h2=>?_
 ·rw[hm];exact λJ H' μ' e r sm=>⟨μ',e,r,sm⟩
 ·obtain⟨it,fp,tn,J,H2,e,I2,T,st2,f2,μ2,e2,r2,sim⟩:=h2;subst e;refine Qfa (X:=X) (pn:=pn) (RR:=λacc C=>compPost (model X.prog X.w) X.A (λ_ _=>False) (some (assign (.Name x py) X.env)) (λ_ s'=>SP (xat X ca pn F0) pins En .next s') acc C) B hc hb hcl I2 T st2 f2 (R.go e2 r2) sim hz hL ?_;intro D C s' H4 μ4 accV its k I4 nsC fC fD dc hD va hl e4 r4 da;obtain⟨m,oC,es,ep,hoC,hdC,kk⟩:=nsC;have I4':Inv (xat X ca pn F0) (pins++[(C,oC)]) σ H4 s':=I4.pins_of λq hq=>by
   rcases Uq.mp hq with z|z
   ·exact I4.pin q (UD _ z)
   ·rw[Uf.mp z];exact⟨hoC,fC.1,fC.2.1,fC.2.2.1,λv w=>by rw[show oC.data=_ from hdC]at w;cases w⟩
  have fD':FpOk (xat X ca pn F0) (pins++[(C,oC)]) H4 D:=⟨fD.1,fD.2.1,fD.2.2.1,fD.2.2.2.1,fD.2.2.2.2.1,λq hq=>by
   rcases Uq.mp hq with z|z
   ·exact fD.2.2.2.2.2 q (TH _ z)
   ·rcases Uq.mp z with z|z
    ·exact fD.2.2.2.2.2 q (UD _ z)
    ·rw[Uf.mp z];exact Ne.symm dc⟩
  have I6:=Inv.track (o:=.lst accV) I4' fD' ⟨hl,its,k,va,hD⟩;show wpAny (model X.prog X.w) X.A (assign (.Name x py) X.env (.ref D)) _ _ s';refine wpAny_assign_Name (QdS (X:=xat X ca pn F0) I6 hN hn hx (v:=.ref D) rfl (λs'' I7=>?_) hf);have pC:=I7.pin (C,oC) (UD _ (UD _ (Uf.mpr rfl)));refine⟨m,⟨oC,es,ep,pC.1,hdC,kk⟩,λh'' hs''=>?_⟩;have I8:Inv (xat X ca pn F0) pins (σ.set i (some (.ref D))) (upd H4 D (.lst accV)) {s'' with heap:=h''}:=(I7.pins_of (pins':=pins) λq hq=>I7.pin q (UD _ (TH _ hq))).turned (t':=s''.toks) (λb o hb e=>hs''.extBut b o hb e) (by rw[QL (Ne.symm dc)];exact fC.1) fC.2.1 fC.2.2.2.1 fC.2.2.2.2.1 fC.2.2.2.2.2
  refine⟨_,_,I8,p _ _ (μ4++[D]) ((e2.trans e4).trans (QD fD.1)) (Rep.set ((R.go (e2.trans e4) r4).go (QD fD.1) (r4.push (o:=.lst accV) (u:=.lst ds) fD.1 ⟨accV,Qr,da.mono (QD fD.1)⟩)) (.ref ?_) i)⟩;rw[<-r4.len];simp
end
end L3
namespace L3
open PySem PySem.Spec PyProof.Rows L2
section
variable{X:Cx}{ca:Nat->Addr}{a b:Expr}{ma mb:ME}{pos:Pos}
theorem Qld:OpR X (binaryOp .Add) (λx y H Q=>∃a b ys,x=.ref a/\y=.ref b/\SqT X.K H a []/\SqT X.K H b ys/\Q (.ref b) H):=by
 intro pins s σ H x y v u Q I rx ry h;obtain⟨a,b,ys,rfl,rfl,ha,hb,q⟩:=h;cases rx;cases ry;obtain⟨us,r1,p1,_⟩:=I.tuple ha;obtain⟨ts,r2,p2,_⟩:=I.tuple hb;cases r1;obtain⟨⟨cls,dd,data,sl⟩,ho,hc,n,hd⟩:=id p1;obtain⟨⟨cls2,dd2,data2,sl2⟩,ho2,hc2,n2,hd2⟩:=id p2;simp only at hc hd hc2 hd2;subst hc hd hc2 hd2;exact concat_meets ⟨_,ho,rfl⟩ ⟨_,ho2,rfl⟩ WX seq_tuple_add RP RG (RB _ _)
   (tuple_addW0 a b _ _ n n2 dd dd2 sl sl2 (by simp)) ⟨ho,ho2,⟨.ref b,H,I,rfl,q⟩⟩
theorem Qle{K:Frag}:Jc K ca (λx y H Q=>(((∃i j,x=.int i/\y=.int j/\Q (.int (i+j)) H)\/QoE K x y H Q)\/rCat x y H Q)\/(∃a b ys,x=.ref a/\y=.ref b/\SqT K H a []/\SqT K H b ys/\Q (.ref b) H)) pAdd:=by
 intro Φ σ H μ g x y dx dy Q r qx qy p;unfold pAdd at p;cases qx with
 |int i=>
  cases qy with
  |int j=>exact .inl (.inl (.inl ⟨i,j,rfl,rfl,p _ H μ .refl r (.int _)⟩))|_=>exact p.elim
 |@tup ax xs dsx hx hsx=>
  cases qy with
  |@tup ay ys dsy hy hsy=>
   dsimp only at p;by_cases z:dsx.length+dsy.length<=SZ
   ·rw[Uj z]at p;by_cases hx0:dsx=[]
    ·subst hx0;cases hsx;exact .inr ⟨ax,ay,ys,rfl,rfl,hx,hy,p _ H μ .refl r (.tup hy hsy)⟩
    ·refine .inl (.inl (.inr ⟨ax,ay,xs,ys,rfl,rfl,hx,hy,?_,by rw[hsx.length,hsy.length];exact Ue z Yk,λe=>?_,λ_ t ht=>p _ _ μ (Zo ht) (r.new ht) (.tup (.of Qr) ((hsx.append hsy).mono (Zo ht)))⟩))
     ·rintro rfl;cases hsx;exact hx0 rfl
     ·subst e;cases hsy;rw[Tu]at p;exact p _ H μ .refl r (.tup hx hsx)
   ·rw[Uo z]at p;exact p.elim
  |_=>exact p.elim
 |@ref n an hn=>
  cases qy with
  |@ref m am hm=>
   dsimp only at p;cases hg:g[n]? with
   |none=>rw[hg]at p;exact p.elim|some o=>
    cases hg2:g[m]? with
    |none=>rw[hg,hg2]at p;cases o<;>exact p.elim|some o2=>
     rw[hg,hg2]at p;obtain⟨a1,ha1,or1⟩:=r.addr hg;obtain⟨a2,ha2,or2⟩:=r.addr hg2;rw[hn]at ha1;cases ha1;rw[hm]at ha2;cases ha2;cases o with
     |lst xs=>
      cases o2 with
      |lst ys=>
       dsimp only at p;obtain⟨vs,hH,q⟩:=or1;obtain⟨ws,hH2,q2⟩:=or2;by_cases z:xs.length+ys.length<=SZ
       ·rw[Uj z]at p;refine .inl (.inr ⟨an,am,vs,ws,rfl,rfl,hH,hH2,by rw[q.length,q2.length];exact Ue z Yk,λt ht=>p _ _ (μ++[t]) (QD ht) (r.push ht ⟨_,Qr,(q.append q2).mono (QD ht)⟩) (.ref ?_)⟩);rw[<-r.len];simp
       ·rw[Uo z]at p;exact p.elim
      |_=>exact p.elim
     |_=>cases o2<;>exact p.elim
  |_=>exact p.elim
 |_=>cases qy<;>exact p.elim
theorem Zy(ha:PE3 ca X a ma)(hb:PE3 ca X b mb):PE3 ca X (.BinOp a .Add b pos) (mOp2 pAdd ma mb):=QhT (λ_ _=>((op_add.or Qm1).or QoL).or Qld) Qle ha hb
theorem Qje{K:Frag}{C:Int->Int->Prop}{h:Int->Int->V}{f:D->D->G->Res D}(hf:∀Φ σ i j g Q H μ,GRep K ca μ H g->Post K ca Φ σ Q H μ (f (.int i) (.int j) g)->C i j/\Q (h i j) H)(hn:∀Φ σ x y g Q H μ,Post K ca Φ σ Q H μ (f x y g)->∃i j,x=.int i/\y=.int j):Jc K ca (rI C h) f:=by intro Φ σ H μ g x y dx dy Q r qx qy p;obtain⟨i,j,rfl,rfl⟩:=hn Φ σ dx dy g Q H μ p;cases qx;cases qy;obtain⟨c,q⟩:=hf Φ σ i j g Q H μ r p;exact⟨i,j,rfl,rfl,c,q⟩
theorem Qg6{K:Frag}{h:Int->Int->V}{f:D->D->G->Res D}(hf:∀Φ σ i j g Q H μ,GRep K ca μ H g->Post K ca Φ σ Q H μ (f (.int i) (.int j) g)->Q (h i j) H)(hn:∀Φ σ x y g Q H μ,Post K ca Φ σ Q H μ (f x y g)->∃i j,x=.int i/\y=.int j):Jc K ca (rI0 h) f:=by intro Φ σ H μ g x y dx dy Q r qx qy p;obtain⟨i,j,rfl,rfl⟩:=hn Φ σ dx dy g Q H μ p;cases qx;cases qy;exact⟨i,j,rfl,rfl,hf Φ σ i j g Q H μ r p⟩
theorem Qct{K:Frag}{f:D->D->G->Res D}(h:∀x y g,(∃i j,x=D.int i/\y=D.int j)\/f x y g=.stuck)(Φ:XS)(σ:L2.St)(x y:D)(g:G)(Q:VK)(H:Hp)(μ:List Addr)(p:Post K ca Φ σ Q H μ (f x y g)):∃i j,x=.int i/\y=.int j:=by
 rcases h x y g with z|z
 ·exact z
 ·rw[z]at p;exact p.elim
theorem Qlf(ha:PE3 ca X a ma)(hb:PE3 ca X b mb):PE3 ca X (.BinOp a .Sub b pos) (mOp2 pSub ma mb):=QhT (λ_ _=>Qor) (Qg6 (λΦ σ i j g Q H μ r p=>p _ H μ .refl r (.int _)) (Qct λx y g=>by cases x<;>cases y<;>first|exact .inl ⟨_,_,rfl,rfl⟩|exact .inr rfl)) ha hb
theorem Yx(ha:PE3 ca X a ma)(hb:PE3 ca X b mb):PE3 ca X (.BinOp a .FloorDiv b pos) (mOp2 Zg ma mb):=
 QhT (λ_ _=>QmR) (Qje (λΦ σ i j g Q H μ r p=>by
  unfold Zg at p;by_cases z:0<j/\j<1073741824
  ·dsimp only at p;rw[Uj z]at p;exact⟨z,p _ H μ .refl r (.int _)⟩
  ·dsimp only at p;rw[Uo z]at p;exact p.elim) (Qct λx y g=>by cases x<;>cases y<;>first|exact .inl ⟨_,_,rfl,rfl⟩|exact .inr rfl)) ha hb
theorem YZ(ha:PE3 ca X a ma)(hb:PE3 ca X b mb):PE3 ca X (.BinOp a .Mod b pos) (mOp2 pMod ma mb):=
 QhT (λ_ _=>Qot) (Qje (λΦ σ i j g Q H μ r p=>by
  unfold pMod at p;by_cases z:0<j
  ·dsimp only at p;rw[Uj z]at p;exact⟨z,p _ H μ .refl r (.int _)⟩
  ·dsimp only at p;rw[Uo z]at p;exact p.elim) (Qct λx y g=>by cases x<;>cases y<;>first|exact .inl ⟨_,_,rfl,rfl⟩|exact .inr rfl)) ha hb
theorem Qlg(ha:PE3 ca X a ma)(hb:PE3 ca X b mb):PE3 ca X (.BinOp a .Mult b pos) (mOp2 pMul ma mb):=
 QhT (λ_ _=>Qos) (λΦ σ H μ g x y dx dy Q r qx qy p=>by
  unfold pMul at p;cases qx with
  |int i=>
   cases qy with
   |int j=>
    dsimp only at p;by_cases z:cM i\/cM j
    ·rw[Uj z]at p;exact⟨i,j,rfl,rfl,z,p _ H μ .refl r (.int _)⟩
    ·rw[Uo z]at p;exact p.elim
   |_=>exact p.elim
  |_=>cases qy<;>exact p.elim) ha hb
theorem Qjf(ha:PE3 ca X a ma):PE3 ca X (.UnaryOp .USub a pos) (mOp1 pNeg ma):=
 r_un (λ_ _=>Qou) (λΦ σ H μ g x dx Q r qx p=>by
  cases qx with
  |int i=>exact⟨i,rfl,p _ H μ .refl r (.int _)⟩|_=>exact p.elim) ha
theorem Qaw{K:Frag}(r:Int->Int->Bool):Jc K ca (rI0 λi j=>.bl (r i j)) (pCmp r):=Qg6 (λΦ σ i j g Q H μ r p=>p _ H μ .refl r (.bl _)) (Qct λx y g=>by cases x<;>cases y<;>first|exact .inl ⟨_,_,rfl,rfl⟩|exact .inr rfl)
theorem r_ge(ha:PE3 ca X a ma)(hb:PE3 ca X b mb):PE3 ca X (.Compare a [.GtE] [b] pos) (mOp2 pGe ma mb):=Qi1 (λ_ _=>Qp4) (Qaw _) ha hb (Qa0 b)
theorem Qo2(ha:PE3 ca X a ma)(hb:PE3 ca X b mb):PT3 ca X (.Compare a [.Lt] [b] pos) (Ql (mOp2 pLt ma mb)):=JI (λ_ _=>Qov) (Qaw _) ha hb (Qa0 b)
theorem Qqg(ha:PE3 ca X a ma)(hb:PE3 ca X b mb):PT3 ca X (.Compare a [.LtE] [b] pos) (Ql (mOp2 pLe ma mb)):=JI (λ_ _=>Qow) (Qaw _) ha hb (Qa0 b)
theorem Qjg(ha:PE3 ca X a ma)(hb:PE3 ca X b mb):PT3 ca X (.Compare a [.Gt] [b] pos) (Ql (mOp2 pGt ma mb)):=JI (λ_ _=>Qp3) (Qaw _) ha hb (Qa0 b)
end
end L3
namespace L3
open PySem PySem.Spec PyProof.Rows L2
section
variable{X:Cx}{ca:Nat->Addr}{pins:LAO}{σ:L2.St}{H:Hp}{s:Shared}{μ:List Addr}{g:G}
theorem Qd6{eq:D->D->Option Bool}:∀(xs ys:List D)(b:Bool),eqGs eq xs ys=some b->∃e:Nat->Bool,(∀(j:Nat)(x y:D),xs[j]?=some x->ys[j]?=some y->eq x y=some (e j))/\b=((List.range (min xs.length ys.length)).all e&&(xs.length==ys.length))
 |[],[],b,h=>by cases h;exact⟨λ_=>true,λj x y h=>by simp at h,by simp⟩
 |[],_::ys,b,h=>by cases h;exact⟨λ_=>true,λj x y h=>by simp at h,by simp⟩
 |_::xs,[],b,h=>by cases h;exact⟨λ_=>true,λj x y _ h=>by simp at h,by simp⟩
 |x::xs,y::ys,b,h=>by
  unfold eqGs at h;cases h1:eq x y with
  |none=>rw[h1]at h;cases h|some c=>
   cases h2:eqGs eq xs ys with
   |none=>rw[h1,h2]at h;cases h|some d=>
    rw[h1,h2]at h;cases h;obtain⟨e,e1,e2⟩:=Qd6 xs ys d h2;refine⟨λj=>match j with|0=>c|j+1=>e j,λj x' y' hx hy=>?_,?_⟩
    ·cases j with
     |zero =>simp at hx hy;subst hx hy;exact h1|succ j =>simp at hx hy;exact e1 j x' y' hx hy
    ·rw[Uy,Uy,Nat.add_min_add_right,List.range_succ_eq_map,RD,List.all_map,e2];simp[Function.comp_def,Bool.and_assoc]
def EqOk(X:Cx)(μ:List Addr)(H:Hp)(A:Around)(s:Shared)(eq:D->D->Option Bool):Prop:=∀(v w:V)(d d':D)(u t:Value)(b:Bool),Den X.K μ H v d->Den X.K μ H w d'->RelV v u->RelV w t->eq d d'=some b->SeqAt.EqAt A s u t b
theorem Qd7{A:Around}{eq:D->D->Option Bool}{vs ws:List V}{ds es:List D}{us ts:List Value}{e:Nat->Bool}(qv:Dens X.K μ H vs ds)(qw:Dens X.K μ H ws es)(rv:Vals vs us)(rw':Vals ws ts)(he:∀(j:Nat) (x y:D),ds[j]?=some x->es[j]?=some y->eq x y=some (e j))(ih:EqOk X μ H A s eq):
  ∀(j:Nat)(h1:j<us.toArray.size)(h2:j<ts.toArray.size),SeqAt.EqAt A s us.toArray[j] ts.toArray[j] (e j):=by
 intro j h1 h2;have l1:j<us.length:=by simpa using h1
 have l2:j<ts.length:=by simpa using h2
 have l3:j<vs.length:=by rw[rv.length];exact l1
 have l4:j<ws.length:=by rw[rw'.length];exact l2
 obtain⟨x,hx,qx⟩:=qv.getV (i:=j) (v:=vs[j]) (by simp[l3]);obtain⟨y,hy,qy⟩:=qw.getV (i:=j) (v:=ws[j]) (by simp[l4]);obtain⟨u,hu,ru⟩:=rv.get (i:=j) (x:=vs[j]) (by simp[l3]);obtain⟨t,ht,rt⟩:=rw'.get (i:=j) (x:=ws[j]) (by simp[l4]);have eu:us.toArray[j]=u:=by
  have:us[j]?=some us[j]:=by simp[l1]
  rw[this]at hu;simpa using hu
 have et:ts.toArray[j]=t:=by
  have:ts[j]?=some ts[j]:=by simp[l2]
  rw[this]at ht;simpa using ht
 rw[eu,et];exact ih _ _ _ _ _ _ _ qx qy ru rt (he j x y hx hy)
theorem Qjh{A:Around}{eq:D->D->Option Bool}{a c:Addr}{vs ws:List V}{ds es:List D}{b:Bool}(hu:A.units<cLine)(I:Inv X pins σ H s)(h1:SqT X.K H a vs)(q1:Dens X.K μ H vs ds)(h2:SqT X.K H c ws)(q2:Dens X.K μ H ws es)(ih:EqOk X μ H A.in1 s eq)(h:eqGs eq ds es=some b):SeqAt.RcAt A s (.ref a) (.ref c) b:=by
 obtain⟨us,r1,p1,_⟩:=I.tuple h1;obtain⟨ts,r2,p2,_⟩:=I.tuple h2;obtain⟨e,e1,e2⟩:=Qd6 ds es b h;have q:=SeqAt.RcAt.tuples (A:=A) p1 p2 hu (e:=e) (Qd7 q1 q2 r1 r2 e1 ih);have l1:us.toArray.size=ds.length:=by rw[Ur,<-r1.length,q1.length]
 have l2:ts.toArray.size=es.length:=by rw[Ur,<-r2.length,q2.length]
 rw[l1,l2]at q;rw[e2];exact q
theorem Qji{A:Around}{eq:D->D->Option Bool}{a c:Addr}{vs ws:List V}{ds es:List D}{b:Bool}(hu:A.units<cLine)(I:Inv X pins σ H s)(h1:H a=some (.lst vs))(q1:Dens X.K μ H vs ds)(h2:H c=some (.lst ws))(q2:Dens X.K μ H ws es)(ih:EqOk X μ H A.in1 s eq)(h:(if ds.length=es.length then eqGs eq ds es else some false)=some b):SeqAt.RcAt A s (.ref a) (.ref c) b/\SeqAt.RcNeAt A s (.ref a) (.ref c) (!b):=by
 obtain⟨us,r1,p1,_⟩:=I.list (.of h1);obtain⟨ts,r2,p2,_⟩:=I.list (.of h2);have l1:us.toArray.size=ds.length:=by rw[Ur,<-r1.length,q1.length]
 have l2:ts.toArray.size=es.length:=by rw[Ur,<-r2.length,q2.length]
 by_cases hl:ds.length=es.length
 ·rw[Uj hl]at h;obtain⟨e,e1,e2⟩:=Qd6 ds es b h;have q:=SeqAt.RcAt.lists (A:=A) p1.isList p2.isList (by rw[l1,l2,hl]) hu (e:=e) (Qd7 q1 q2 r1 r2 e1 ih);have q':=SeqAt.RcNeAt.lists (A:=A) p1.isList p2.isList (by rw[l1,l2,hl]) hu (e:=e) (Qd7 q1 q2 r1 r2 e1 ih);rw[l1]at q q';rw[e2,<-hl,Nat.min_self];exact⟨by simpa using q,by simpa using q'⟩
 ·rw[Uo hl]at h;cases h;exact⟨SeqAt.RcAt.lists_lengths p1.isList p2.isList (by rw[l1,l2];simpa using hl) hu,SeqAt.RcNeAt.lists_lengths p1.isList p2.isList (by rw[l1,l2];simpa using hl) hu⟩
theorem Qf3{eq:D->D->Option Bool}(hf:∀{v:V} {d e:D} {b:Bool},Den X.K μ H v d->Den X.K μ H v e->eq d e=some b->b=true):∀{vs:List V}{ds es:List D}{b:Bool},Dens X.K μ H vs ds->Dens X.K μ H vs es->eqGs eq ds es=some b->b=true
 |[],ds,es,b,a1,a2,a3=>by cases a1;cases a2;cases a3;rfl
 |w::ws,ds,es,b,a1,a2,a3=>by
  cases a1 with
  |cons c1 c2=>cases a2 with
   |cons c3 c4=>
    rename_i x xs y ys;unfold eqGs at a3;cases h1:eq x y with
    |none=>rw[h1]at a3;cases a3|some b1=>
     cases h2:eqGs eq xs ys with
     |none=>rw[h1,h2]at a3;cases a3|some b2 =>rw[h1,h2]at a3;cases a3;rw[hf c1 c3 h1,Qf3 hf c2 c4 h2];rfl
theorem Qd8(I:Inv X pins σ H s):∀(f:Nat){v:V}{d e:D}{b:Bool},Den X.K μ H v d->Den X.K μ H v e->eqI f d e=some b->b=true
 |0,v,d,e,b,h1,h2,h=>by
  cases h1 with
  |int i=>cases h2;cases h;simp|_=>cases h
 |f+1,v,d,e,b,h1,h2,h=>by
  cases h1 with
  |int i=>cases h2;cases h;simp|tup t1 q1=>
   cases h2 with
   |tup t2 q2 =>have ev:=I.tuple_inj t1 t2;subst ev;exact Qf3 (λa b c=>Qd8 I f a b c) q1 q2 h|_=>cases h
  |_=>cases h2<;>cases h
theorem Qjj(I:Inv X pins σ H s):∀(f:Nat){A:Around},A.units+f<cLine->EqOk X μ H A s (eqI f)
 |0,A,hu=>by
  intro v w d e u t b qv qw rv rw' h;cases qv with
  |int i=>
   cases qw with
   |int j=>obtain⟨y,rfl⟩:=rv;obtain⟨z,rfl⟩:=rw';cases h;exact WC _ _ _ _|_=>cases h
  |_=>cases h
 |f+1,A,hu=>by
  intro v w d e u t b qv qw rv rw' h;cases qv with
  |int i=>
   cases qw with
   |int j=>obtain⟨y,rfl⟩:=rv;obtain⟨z,rfl⟩:=rw';cases h;exact WC _ _ _ _|_=>cases h
  |tup h1 q1=>
   cases qw with
   |tup h2 q2=>
    cases rv;cases rw';rename_i a1 vs ds a2 ws es;by_cases ea:a1=a2
    ·subst ea;rw[Qd8 I (f+1) (.tup h1 q1) (.tup h2 q2) h];exact Bb _
    ·exact SeqAt.EqAt.of_refs ea (Qjh (by omega) I h1 q1 h2 q2 (Qjj I f (by show A.units+1+f<cLine;omega)) h)
   |_=>cases h
  |_=>cases qw<;>cases h
theorem Qjk{eq:D->D->Option Bool}{n m:Nat}{a c:Addr}{b:Bool}(r:GRep X.K ca μ H g)(hn:μ[n]?=some a)(hm:μ[m]?=some c)(h:Qdo eq g n m=some b):∃vs ws xs ys,H a=some (.lst vs)/\H c=some (.lst ws)/\Dens X.K μ H vs xs/\Dens X.K μ H ws ys/\(if xs.length=ys.length then eqGs eq xs ys else some false)=some b:=by
 unfold Qdo at h;cases hg:g[n]? with
 |none=>rw[hg]at h;cases h|some o1=>
  cases hg2:g[m]? with
  |none=>rw[hg,hg2]at h;cases o1<;>cases h|some o2=>
   rw[hg,hg2]at h;obtain⟨b1,hb1,ob1⟩:=r.addr hg;obtain⟨b2,hb2,ob2⟩:=r.addr hg2;rw[hn]at hb1;cases hb1;rw[hm]at hb2;cases hb2;cases o1 with
   |lst xs=>
    cases o2 with
    |lst ys =>obtain⟨vs,hH1,q1⟩:=ob1;obtain⟨ws,hH2,q2⟩:=ob2;exact⟨vs,ws,xs,ys,hH1,hH2,q1,q2,h⟩|_=>cases h
   |_=>cases o2<;>cases h
theorem Qo3{A:Around}(I:Inv X pins σ H s)(r:GRep X.K ca μ H g)(hu:A.units+4<cLine):EqOk X μ H A s (eqR g):=by
 intro v w d e u t b qv qw rv rw' h;cases qv with
 |@ref n a hn=>
  cases qw with
  |@ref m c hm=>
   obtain⟨vs,ws,xs,ys,h1,h2,q1,q2,h⟩:=Qjk r hn hm h;cases rv;cases rw';by_cases ea:a=c
   ·subst ea;have ev:vs=ws:=by rw[h1]at h2;cases h2;rfl
    subst ev;rw[Uj (by rw[<-q1.length,<-q2.length])]at h;rw[Qf3 (λa b c=>Qd8 I 2 a b c) q1 q2 h];exact Bb _
   ·exact SeqAt.EqAt.of_refs ea (Qji (by omega) I h1 q1 h2 q2 (Qjj I 2 (by show A.units+1+2<cLine;omega)) h).1
  |_=>cases h
 |_=>cases qw<;>cases h
def rEqI(K:Frag):R2:=λx y H Q=>∃(μ:List Addr)(a c:Addr)(vs ws:List V)(ds es:List D)(b:Bool),x=.ref a/\y=.ref c/\Dens K μ H vs ds/\Dens K μ H ws es/\SqT K H a vs/\SqT K H c ws/\eqGs (eqI 2) ds es=some b/\Q (.bl b) H
theorem Qmf(hu:X.A.units+16<cLine):OpR X (compareOp .Eq) (rEqI X.K):=by intro pins s σ H x y v u Q I rx ry h;obtain⟨μ,a,c,vs,ws,ds,es,b,rfl,rfl,q1,q2,h1,h2,h3,q⟩:=h;cases rx;cases ry;exact(Qjh (A:=X.A) (by omega) I h1 q1 h2 q2 (Qjj I 2 (by show X.A.units+1+2<cLine;omega)) h3) _ _ _ _ ⟨.bl b,H,I,rfl,q⟩
def rNeL(K:Frag)(ca:Nat->Addr):R2:=λx y H Q=>∃(μ:List Addr)(g:G)(n m:Nat)(a c:Addr)(b:Bool),GRep K ca μ H g/\x=.ref a/\y=.ref c/\μ[n]?=some a/\μ[m]?=some c/\Qdo (eqR g) g n m=some b/\Q (.bl (!b)) H
theorem Qo4(hu:X.A.units+16<cLine):OpR X (compareOp .NotEq) (rNeL X.K ca):=by intro pins s σ H x y v u Q I rx ry h;obtain⟨μ,g,n,m,a,c,b,r,rfl,rfl,hn,hm,h,q⟩:=h;obtain⟨vs,ws,xs,ys,h1,h2,q1,q2,h⟩:=Qjk r hn hm h;cases rx;cases ry;exact(Qji (A:=X.A) (by omega) I h1 q1 h2 q2 (Qo3 I r (by show X.A.units+1+4<cLine;omega)) h).2 _ _ _ _ ⟨.bl (!b),H,I,rfl,q⟩
theorem Qjl{K:Frag}:Jc K ca (λx y H Q=>rEq x y H Q\/rEqI K x y H Q) pEq:=by
 intro Φ σ H μ g x y dx dy Q r qx qy p;unfold pEq eqT at p;cases qx with
 |int i=>
  cases qy with
  |int j=>exact .inl ⟨rfl,by rw[QdU];exact p _ H μ .refl r (.bl _)⟩|_=>exact p.elim
 |str i=>
  cases qy with
  |str j=>exact .inl ⟨rfl,by rw[QdV];exact p _ H μ .refl r (.bl _)⟩|_=>exact p.elim
 |bl i=>
  cases qy with
  |bl j=>exact .inl ⟨rfl,by rw[QgQ];exact p _ H μ .refl r (.bl _)⟩|_=>exact p.elim
 |tup h1 q1=>
  cases qy with
  |tup h2 q2=>
   rename_i a vs ds c ws es;dsimp only at p;cases e:eqGs (eqI 2) ds es with
   |none=>rw[e]at p;exact p.elim|some b=>rw[e]at p;exact .inr ⟨μ,a,c,vs,ws,ds,es,b,rfl,rfl,q1,q2,h1,h2,e,p _ H μ .refl r (.bl _)⟩
  |_=>exact p.elim
 |_=>cases qy<;>exact p.elim
theorem Qnf{K:Frag}:Jc K ca (λx y H Q=>rNe x y H Q\/rNeL K ca x y H Q) pNe:=by
 intro Φ σ H μ g x y dx dy Q r qx qy p;unfold pNe neT at p;cases qx with
 |int i=>
  cases qy with
  |int j=>exact .inl ⟨rfl,by rw[QdU];exact p _ H μ .refl r (.bl _)⟩|_=>exact p.elim
 |str i=>
  cases qy with
  |str j=>exact .inl ⟨rfl,by rw[QdV];exact p _ H μ .refl r (.bl _)⟩|_=>exact p.elim
 |bl i=>
  cases qy with
  |bl j=>exact .inl ⟨rfl,by rw[QgQ];exact p _ H μ .refl r (.bl _)⟩|_=>exact p.elim
 |@ref n a hn=>
  cases qy with
  |@ref m c hm=>
   dsimp only at p;cases e:Qdo (eqR g) g n m with
   |none=>rw[e]at p;exact p.elim|some b=>rw[e]at p;exact .inr ⟨μ,g,n,m,a,c,b,r,rfl,rfl,hn,hm,e,p _ H μ .refl r (.bl _)⟩
  |_=>exact p.elim
 |_=>cases qy<;>exact p.elim
end
section
variable{X:Cx}{ca:Nat->Addr}{a b e:Expr}{ma mb me:ME}{pos p:Pos}{k:Nat}
theorem hu16(hr:Room k A):A.units+16<cLine:=by have:=hr.units;omega
theorem r_eq(hr:Room k X.A)(ha:PE3 ca X a ma)(hb:PE3 ca X b mb):PE3 ca X (.Compare a [.Eq] [b] pos) (mOp2 pEq ma mb):=Qi1 (λpn Φ=>op_eq.or (Qmf (X:=xat X ca pn Φ) (hu16 hr))) Qjl ha hb (Qa0 b)
theorem Qbx(hr:Room k X.A)(ha:PE3 ca X a ma)(hb:PE3 ca X b mb):PT3 ca X (.Compare a [.Eq] [b] pos) (Ql (mOp2 pEq ma mb)):=JI (λpn Φ=>op_eq.or (Qmf (X:=xat X ca pn Φ) (hu16 hr))) Qjl ha hb (Qa0 b)
theorem QhU(hr:Room k X.A)(ha:PE3 ca X a ma)(hb:PE3 ca X b mb):PT3 ca X (.Compare a [.NotEq] [b] pos) (Ql (mOp2 pNe ma mb)):=JI (λpn Φ=>op_ne.or (Qo4 (X:=xat X ca pn Φ) (hu16 hr))) Qnf ha hb (Qa0 b)
theorem Qg7{K:Frag}{μ:List Addr}{H:Hp}{x:V}{d:D}(q:Den K μ H x d):decide (x=.non)=isNon d:=by cases q<;>simp[isNon]
theorem Qng{K:Frag}:Jc K ca (λx y H Q=>y=.non/\Q (.bl (decide (x=.non))) H) pIs:=by
 intro Φ σ H μ g x y dx dy Q r qx qy p;cases qy with
 |non=>exact⟨rfl,p _ H μ .refl r (by rw[Qg7 qx];exact .bl _)⟩|_=>exact p.elim
theorem QhV{K:Frag}:Jc K ca (λx y H Q=>y=.non/\Q (.bl (!decide (x=.non))) H) Qe6:=by
 intro Φ σ H μ g x y dx dy Q r qx qy p;cases qy with
 |non=>exact⟨rfl,p _ H μ .refl r (by rw[Qg7 qx];exact .bl _)⟩|_=>exact p.elim
theorem Qjm(ha:PE3 ca X a ma)(hb:PE3 ca X b mb):PT3 ca X (.Compare a [.Is] [b] pos) (Ql (mOp2 pIs ma mb)):=JI (λ_ _=>Qox) Qng ha hb (Qa0 b)
theorem Qlh(ha:PE3 ca X a ma)(hb:PE3 ca X b mb):PT3 ca X (.Compare a [.IsNot] [b] pos) (Ql (mOp2 Qe6 ma mb)):=JI (λ_ _=>QmS) QhV ha hb (Qa0 b)
theorem Qd9{K:Frag}{μ:List Addr}{H:Hp}{vs:List V}{ds:List D}{i:Int}{d:D}(q:Dens K μ H vs ds)(h:atD ds i=some d):∃v,atI vs i=some v/\Den K μ H v d:=by
 unfold atD at h;cases hj:ixD ds.length i with
 |none=>rw[hj]at h;cases h|some j =>rw[hj]at h;obtain⟨v,h1,h2⟩:=q.get (show ds[j]?=some d from h);refine⟨v,?_,h2⟩;unfold atI;rw[q.length,show ixN ds.length i=some j from hj];exact h1
theorem Qnh{K:Frag}:Jc K ca (rIx K) pIx:=by
 intro Φ σ H μ g x y dx dy Q r qx qy p;unfold pIx at p;cases qx with
 |tup ht hs=>
  cases qy with
  |int i=>
   dsimp only at p;rename_i a vs ds;cases h:atD ds i with
   |none=>rw[h]at p;exact p.elim|some d =>rw[h]at p;obtain⟨v,h1,h2⟩:=Qd9 hs h;exact .inr (.inl ⟨a,vs,i,v,rfl,rfl,ht,h1,p v H μ .refl r h2⟩)
  |_=>exact p.elim
 |fl ht hs=>
  cases qy with
  |int i=>
   dsimp only at p;rename_i a vs ds;cases h:atD ds i with
   |none=>rw[h]at p;exact p.elim|some d =>rw[h]at p;obtain⟨v,h1,h2⟩:=Qd9 hs h;exact .inl ⟨a,vs,i,v,rfl,rfl,ht.sq,h1,p v H μ .refl r h2⟩
  |_=>exact p.elim
 |@ref n a hn=>
  cases qy with
  |int i=>
   dsimp only at p;cases hg:g[n]? with
   |none=>rw[hg]at p;exact p.elim|some o=>
    rw[hg]at p;obtain⟨a',ha',ob⟩:=r.addr hg;rw[hn]at ha';cases ha';cases o with
    |lst ds=>
     obtain⟨vs,hH,hs⟩:=ob;dsimp only at p;cases h:atD ds i with
     |none=>rw[h]at p;exact p.elim|some d =>rw[h]at p;obtain⟨v,h1,h2⟩:=Qd9 hs h;exact .inl ⟨a,vs,i,v,rfl,rfl,.of hH,h1,p v H μ .refl r h2⟩
    |_=>exact p.elim
  |_=>exact p.elim
 |str s=>
  cases qy with
  |int i=>
   dsimp only at p;by_cases z:s.length<=SZ
   ·rw[Uj z]at p;cases h:atD s.cps.toList i with
    |none=>rw[h]at p;exact p.elim|some c =>rw[h]at p;exact .inr (.inr ⟨s,i,c,rfl,rfl,Ue z Yk,h,p _ H μ .refl r (.str _)⟩)
   ·rw[Uo z]at p;exact p.elim
  |_=>exact p.elim
 |_=>cases qy<;>exact p.elim
theorem Qm(ha:PE3 ca X a ma)(hb:PE3 ca X b mb)(hs:QdX b:=by exact λ_ _=>rfl):PE3 ca X (.Subscript a b pos) (mOp2 pIx ma mb):=r_ix (λ_ _=>QoG) Qnh ha hb hs
theorem Qjn{x:Str}{id:String}{r:List V->Hp->VK->Prop}{f:D->G->Res D}(hc:∀pn Φ,CallR (xat X ca pn Φ) (.builtin id) r)(hm:X.mg x=none)(hv:bootBuiltins x=some (.builtin id))(hp:∀(Φ:XS) (σ:L2.St) (H:Hp) (μ:List Addr) (g:G) (y:V) (d:D) (Q:VK),GRep X.K ca μ H g->Den X.K μ H y d->Post X.K ca Φ σ Q H μ (f d g)->r [y] H Q)(he:PE3 ca X e me)(hg:Gl X x)(hn:x ≠"__name__")(hdb:(x==("__debug__" : Str))=false)(hs:starEach [e] X.env=[(false,eval e X.env)])(hpl:(backTo pos (starEach [] X.env)).any (·.1)=false):PE3 ca X (.Call (.Name x p) [e] [] pos) (mOp1 f me):=
 λpn Φ=>Zi (Qco (X:=xat X ca pn Φ) (hc pn Φ) hg hm hv (Jv he Qh hs pn Φ) hn hdb hs hpl) λσ H Q hQ=>by
  obtain⟨σ3,g,μ,R,q⟩:=hQ;refine⟨σ3,g,μ,R,?_⟩;unfold mOp1 at q;unfold Qa mNil;cases hm:me σ3 g with
  |raise _ _=>rw[hm]at q;exact q|stuck=>rw[hm]at q;exact q.elim|ok d g1=>
   rw[hm,Res.bind_ok]at q;rw[Res.bind_ok,Res.bind_ok];intro vs H1 μ1 e1 r1 q1;cases q1 with
   |cons h1 h2 =>cases h2;exact hp Φ σ H1 μ1 g1 _ d Q r1 h1 (q.go e1)
end
end L3
namespace L3
open PySem PySem.Spec PyProof.Rows L2
section
variable{X:Cx}{ca:Nat->Addr}{a b e o:Expr}{ma mb me mo:ME}{pos p apos:Pos}{k:Nat}
theorem r_ty{x:Str}{T:String}{r:List V->Hp->VK->Prop}{f:D->G->Res D}(hc:∀pn Φ,CallR (xat X ca pn Φ) (.type T) r)(hm:X.mg x=none)(hv:bootBuiltins x=some (.type T))(hp:∀(Φ:XS) (σ:L2.St) (H:Hp) (μ:List Addr) (g:G) (y:V) (d:D) (Q:VK),GRep X.K ca μ H g->Den X.K μ H y d->Post X.K ca Φ σ Q H μ (f d g)->r [y] H Q)(he:PE3 ca X e me)(hg:Gl X x)(hn:x ≠"__name__")(hdb:(x==("__debug__" : Str))=false)(hs:starEach [e] X.env=[(false,eval e X.env)])(hpl:(backTo pos (starEach [] X.env)).any (·.1)=false):PE3 ca X (.Call (.Name x p) [e] [] pos) (mOp1 f me):=
 λpn Φ=>Zi (QiH (X:=xat X ca pn Φ) (hc pn Φ) hg hm hv (Jv he Qh hs pn Φ) hn hdb hs hpl) λσ H Q hQ=>by
  obtain⟨σ3,g,μ,R,q⟩:=hQ;refine⟨σ3,g,μ,R,?_⟩;unfold mOp1 at q;unfold Qa mNil;cases hm:me σ3 g with
  |raise _ _=>rw[hm]at q;exact q|stuck=>rw[hm]at q;exact q.elim|ok d g1=>
   rw[hm,Res.bind_ok]at q;rw[Res.bind_ok,Res.bind_ok];intro vs H1 μ1 e1 r1 q1;cases q1 with
   |cons h1 h2 =>cases h2;exact hp Φ σ H1 μ1 g1 _ d Q r1 h1 (q.go e1)
theorem Zz(hm:X.mg "len"=none)(he:PE3 ca X e me)(hg:Gl X "len":=by rfl)(hs:starEach [e] X.env=[(false,eval e X.env)]:=by rfl)(hpl:(backTo pos (starEach [] X.env)).any (·.1)=false:=by rfl):
  PE3 ca X (.Call (.Name "len" p) [e] [] pos) (mOp1 pLen me):=
 Qjn (r:=λxs H Q=>∃p ys,xs=[V.ref p]/\(SqL X.K H p ys\/SqT X.K H p ys)/\Q (V.int (ys.length:Int)) H) (λ_ _=>QeW) hm boot_len (λΦ σ H μ g y d Q r q pp=>by
  unfold pLen at pp;cases q with
  |@tup t vs ds ht hs=>exact⟨t,vs,rfl,.inr ht,pp _ H μ .refl r (by rw[hs.length];exact .int _)⟩|@fl t vs ds ht hs=>exact⟨t,vs,rfl,.inl ht.sq,pp _ H μ .refl r (by rw[hs.length];exact .int _)⟩|@ref n t hn=>
   dsimp only at pp;cases hgn:g[n]? with
   |none=>rw[hgn]at pp;exact pp.elim|some ob=>
    rw[hgn]at pp;obtain⟨t',ht',orp⟩:=r.addr hgn;rw[hn]at ht';cases ht';cases ob with
    |lst ds=>obtain⟨vs,hH,q⟩:=orp;exact⟨t,vs,rfl,.inl (.of hH),pp _ H μ .refl r (by rw[q.length];exact .int _)⟩|_=>exact pp.elim
  |_=>exact pp.elim) he hg (by decide) (by decide) hs hpl
theorem Qea(hm:X.mg "tuple"=none)(he:PE3 ca X e me)(hg:Gl X "tuple":=by rfl)(hs:starEach [e] X.env=[(false,eval e X.env)]:=by rfl)(hpl:(backTo pos (starEach [] X.env)).any (·.1)=false:=by rfl):
  PE3 ca X (.Call (.Name "tuple" p) [e] [] pos) (mOp1 Jt me):=
 r_ty (r:=λxs H Q=>∃p ys,xs=[V.ref p]/\((SqL X.K H p ys/\∀l,H l=none->Q (.ref l) (upd H l (.tup ys)))\/(SqT X.K H p ys/\Q (.ref p) H))) (λ_ _=>Qd0) hm boot_tuple (λΦ σ H μ g y d Q r q pp=>by
  unfold Jt at pp;cases q with
  |@tup t vs ds ht hs=>exact⟨t,vs,rfl,.inr ⟨ht,pp _ H μ .refl r (.tup ht hs)⟩⟩|@fl t vs ds ht hs=>exact⟨t,vs,rfl,.inl ⟨ht.sq,λl hl=>pp _ _ μ (Zo hl) (r.new hl) (.tup (.of Qr) (hs.mono (Zo hl)))⟩⟩|@ref n t hn=>
   dsimp only at pp;cases hgn:g[n]? with
   |none=>rw[hgn]at pp;exact pp.elim|some ob=>
    rw[hgn]at pp;obtain⟨t',ht',orp⟩:=r.addr hgn;rw[hn]at ht';cases ht';cases ob with
    |lst ds=>obtain⟨vs,hH,q⟩:=orp;exact⟨t,vs,rfl,.inl ⟨.of hH,λl hl=>pp _ _ μ (Zo hl) (r.new hl) (.tup (.of Qr) (q.mono (Zo hl)))⟩⟩|_=>exact pp.elim
  |_=>exact pp.elim) he hg (by decide) (by decide) hs hpl
theorem Qfb(hm:X.mg "list"=none)(he:PE3 ca X e me)(hg:Gl X "list":=by rfl)(hs:starEach [e] X.env=[(false,eval e X.env)]:=by rfl)(hpl:(backTo pos (starEach [] X.env)).any (·.1)=false:=by rfl):
  PE3 ca X (.Call (.Name "list" p) [e] [] pos) (mOp1 JH me):=
 r_ty (r:=λxs H Q=>∃p ys,xs=[V.ref p]/\(SqL X.K H p ys\/SqT X.K H p ys)/\∀l,H l=none->Q (.ref l) (upd H l (.lst ys))) (λ_ _=>QeX) hm boot_list (λΦ σ H μ g y d Q r q pp=>by
  have el:∀l:Addr,(μ++[l])[g.length]?=some l:=λl=>by rw[<-r.len];simp
  unfold JH at pp;cases q with
  |@fl t vs ds ht hs=>exact⟨t,vs,rfl,.inl ht.sq,λl hl=>pp _ _ (μ++[l]) (QD hl) (r.push hl ⟨vs,Qr,hs.mono (QD hl)⟩) (.ref (el l))⟩|@tup t vs ds ht hs=>exact⟨t,vs,rfl,.inr ht,λl hl=>pp _ _ (μ++[l]) (QD hl) (r.push hl ⟨vs,Qr,hs.mono (QD hl)⟩) (.ref (el l))⟩|@ref n t hn=>
   dsimp only at pp;cases hgn:g[n]? with
   |none=>rw[hgn]at pp;exact pp.elim|some ob=>
    rw[hgn]at pp;obtain⟨t',ht',orp⟩:=r.addr hgn;rw[hn]at ht';cases ht';cases ob with
    |lst ds=>obtain⟨vs,hH,q⟩:=orp;exact⟨t,vs,rfl,.inl (.of hH),λl hl=>pp _ _ (μ++[l]) (QD hl) (r.push hl ⟨vs,Qr,q.mono (QD hl)⟩) (.ref (el l))⟩|_=>exact pp.elim
  |_=>exact pp.elim) he hg (by decide) (by decide) hs hpl
theorem Qni(hm:X.mg "int"=none)(he:PE3 ca X e me)(hg:Gl X "int":=by rfl)(hs:starEach [e] X.env=[(false,eval e X.env)]:=by rfl)(hpl:(backTo pos (starEach [] X.env)).any (·.1)=false:=by rfl):
  PE3 ca X (.Call (.Name "int" p) [e] [] pos) (mOp1 pInt me):=
 r_ty (λ_ _=>QiD) hm boot_int (λΦ σ H μ g y d Q r q pp=>by
  cases q with
  |int i=>exact .inl ⟨i,rfl,pp _ H μ .refl r (.int _)⟩|bl b=>exact .inr ⟨b,rfl,pp _ H μ .refl r (.int _)⟩|_=>exact pp.elim) he hg (by decide) (by decide) hs hpl
theorem Qax(ho:PE3 ca X o mo)(he:PE3 ca X e me)(hbase:attributeBase o "append" X.env (eval o X.env)=eval o X.env:=by rfl)(hfew:((backTo pos (starEach [e] X.env)).all (λx=>!x.1)&&(backToKw pos (keywordEach [] X.env)).all (λx=>x.1.isSome)&&decide ([e].length+([]:List Keyword).length+(if ([]:List Keyword).isEmpty then 0 else 1)<30))=true:=by rfl)(hline:(apos.endLine==pos.line)=true:=by rfl)(hs:starEach [e] X.env=(false,eval e X.env)::starEach [] X.env:=by rfl)(hplain:(backTo pos (starEach [] X.env)).any (·.1)=false:=by rfl):
  PE3 ca X (.Call (.Attribute o "append" apos) [e] [] pos) (Yj mo me):=
 λpn Φ=>Zi (Qk3 (X:=xat X ca pn Φ) TK PySem.F.slot_list_append PySem.F.type_list_append QiL (ho pn Φ) (Jv he Qh hs pn Φ) hbase hfew hline hs hplain) λσ H Q ⟨σ3,g,μ,R,q⟩=>Q2 (Ju R q) λx H1 hQ=>by
  obtain⟨d,g1,μ1,e1,R1,q1,p1⟩:=hQ;cases q1 with
  |@ref n t hn=>
   dsimp only at p1;cases hgn:g1[n]? with
   |none=>rw[hgn]at p1;exact p1.elim|some ob=>
    rw[hgn]at p1;obtain⟨t',ht',orp⟩:=R1.g.addr hgn;rw[hn]at ht';cases ht';cases ob with
    |lst ds0=>
     obtain⟨vs0,hH0,_⟩:=orp;dsimp only at p1;refine⟨.inl ⟨rfl,_,.of hH0⟩,σ3,g1,μ1,R1,?_⟩;unfold Qa mNil;cases hm:me σ3 g1 with
     |raise _ _=>rw[hm]at p1;exact p1|stuck=>rw[hm]at p1;exact p1.elim|ok y g2=>
      rw[hm,Res.bind_ok]at p1;rw[Res.bind_ok,Res.bind_ok];intro vs H2 μ2 e2 r2 q2;cases q2 with
      |@cons vy _ _ _ h1 h2=>
       cases h2;cases hg2:g2[n]? with
       |none=>rw[hg2]at p1;exact p1.elim|some ob2=>
        rw[hg2]at p1;obtain⟨t',ht',orp⟩:=r2.addr hg2;rw[e2.at hn]at ht';cases ht';cases ob2 with
        |lst ds=>
         obtain⟨ws,hH,qs⟩:=orp;dsimp only at p1;by_cases z:ds.length<SZ
         ·rw[Uj z]at p1;have ex:Ext X.K μ2 H2 μ2 (upd H2 t (.lst (ws++[vy]))):=Ya hH (by intro _ z;cases z) (by intro _ _ z;cases z);refine⟨t,ws,_,rfl,rfl,hH,by rw[qs.length];exact Ux z Yk,p1 _ _ μ2 (e2.trans ex) ?_ .non⟩;exact r2.set (e2.at hn) hH (by intro _ z;cases z) (by intro _ _ z;cases z) ⟨_,Qr,(qs.mono ex).append (.cons (h1.mono ex) .nil)⟩
         ·rw[Uo z]at p1;exact p1.elim
        |_=>exact p1.elim
    |_=>exact p1.elim
  |_=>exact p1.elim
theorem Dens.dropLast{K:Frag}{μ:List Addr}{H:Hp}{vs:List V}{ds:List D}(h:Dens K μ H vs ds):Dens K μ H vs.dropLast ds.dropLast:=by rw[Rs,Rs,h.length];exact h.take _
theorem Qqh(ho:PE3 ca X o mo)(hbase:attributeBase o "pop" X.env (eval o X.env)=eval o X.env:=by rfl)(hline:(apos.endLine==pos.line)=true:=by rfl):PE3 ca X (.Call (.Attribute o "pop" apos) [] [] pos) (mOp1 pPop mo):=
 λpn Φ=>Zi (QoI (X:=xat X ca pn Φ) TK Bk Bl QoJ (ho pn Φ) hbase hline) λσ H Q ⟨σ3,g,μ,R,q⟩=>Q2 (Ju R q) λx H1 hQ=>by
  obtain⟨d,g1,μ1,e1,R1,q1,p1⟩:=hQ;unfold pPop at p1;cases q1 with
  |@ref n t hn=>
   dsimp only at p1;cases hgn:g1[n]? with
   |none=>rw[hgn]at p1;exact p1.elim|some ob=>
    rw[hgn]at p1;obtain⟨t',ht',orp⟩:=R1.g.addr hgn;rw[hn]at ht';cases ht';cases ob with
    |lst ds=>
     obtain⟨ws,hH,qs⟩:=orp;dsimp only at p1;cases hl:ds[ds.length-1]? with
     |none=>rw[hl]at p1;exact p1.elim|some y =>rw[hl]at p1;obtain⟨v,h1,h2⟩:=qs.get hl;have ex:Ext X.K μ1 H1 μ1 (upd H1 t (.lst ws.dropLast)):=Ya hH (by intro _ z;cases z) (by intro _ _ z;cases z);refine⟨.inl ⟨rfl,_,.of hH⟩,t,ws,v,rfl,rfl,hH,by rw[qs.length];exact h1,p1 v _ μ1 ex ?_ (h2.mono ex)⟩;exact R1.g.set hn hH (by intro _ z;cases z) (by intro _ _ z;cases z) ⟨_,Qr,(qs.mono ex).dropLast⟩
    |_=>exact p1.elim
  |_=>exact p1.elim
end
end L3
namespace L3
open PySem PySem.Spec PyProof.Rows L2
def IsIt(b:Bool)(h:Heap)(i l:Addr)(k:Nat):Prop:=if b=true then h.IsListIter i l k else h.IsTupleIter i l k
def IsSq(b:Bool)(h:Heap)(l:Addr)(xs:Array Value):Prop:=if b=true then h.IsList l xs else h.IsTuple l xs
theorem IsIt.at(x:IsIt b h i l k)(hk:∀o,h.get? i=some o->h'.get? i=some o):IsIt b h' i l k:=by
 cases b
 ·exact Heap.IsTupleIter.at (show h.IsTupleIter i l k from x) hk
 ·exact Heap.IsListIter.at (show h.IsListIter i l k from x) hk
theorem IsSq.at(x:IsSq b h l xs)(hk:∀o,h.get? l=some o->h'.get? l=some o):IsSq b h' l xs:=by
 cases b
 ·obtain⟨o,e,c⟩:=(show h.IsTuple l xs from x);exact⟨o,hk o e,c⟩
 ·obtain⟨o,e,c⟩:=(show h.IsList l xs from x);exact⟨o,hk o e,c⟩
theorem IsIt.lt(x:IsIt b h i l k):i<h.objs.size:=by
 cases b
 ·obtain⟨o,e,_⟩:=(show h.IsTupleIter i l k from x);exact Uw e
 ·obtain⟨o,e,_⟩:=(show h.IsListIter i l k from x);exact Uw e
theorem IsSq.lt(x:IsSq b h l xs):l<h.objs.size:=by
 cases b
 ·obtain⟨o,e,_⟩:=(show h.IsTuple l xs from x);exact Uw e
 ·obtain⟨o,e,_⟩:=(show h.IsList l xs from x);exact Uw e
section
variable{prog:Program}{w:World}{A:Around}{E:VP}{s:Shared}
theorem IsSq.push(x:IsSq b h l xs)(o:Obj):IsSq b (h.push o) l xs:=x.at λ_ e=>Ug _ e
end
end L3
namespace L3
open PySem PySem.Spec PyProof.Rows L2
def Sq(b:Bool)(K:Frag)(H:Hp)(a:Addr)(xs:List V):Prop:=if b=true then SqL K H a xs else SqT K H a xs
theorem Sq.inj{b:Bool}{X:Cx}{pins:LAO}{σ:L2.St}{H:Hp}{s:Shared}{a:Addr}{xs ys:List V}(I:Inv X pins σ H s)(h:Sq b X.K H a xs)(h':Sq b X.K H a ys):xs=ys:=by
 cases b
 ·exact I.tuple_inj h h'
 ·exact I.list_inj h h'
section
variable{X:Cx}{ca:Nat->Addr}{e1 e2:Expr}{m1 m2:ME}{p pos tp:Pos}{elts:List Expr}{kk:Nat}
theorem Qli{K:Frag}{μ:List Addr}{H:Hp}{g:G}{v:V}{d:D}{b:Bool}{ds:List D}(r:GRep K ca μ H g)(q:Den K μ H v d)(h:QU g d=some (b,ds)):∃a vs,v=.ref a/\Sq b K H a vs/\Dens K μ H vs ds:=by
 cases q with
 |@tup a vs es ht hs=>cases h;exact⟨a,vs,rfl,ht,hs⟩|@fl a vs es ht hs=>cases h;exact⟨a,vs,rfl,ht.sq,hs⟩|@ref n a hn=>
  unfold QU at h;dsimp only at h;cases hg:g[n]? with
  |none=>rw[hg]at h;cases h|some o=>
   rw[hg]at h;obtain⟨a',ha',ob⟩:=r.addr hg;rw[hn]at ha';cases ha';cases o with
   |lst es=>cases h;obtain⟨vs,hH,q⟩:=ob;exact⟨a,vs,rfl,SqL.of hH,q⟩|_=>cases h
 |_=>cases h
end
end L3
namespace L3
open PySem PySem.Spec PyProof.Rows L2
theorem Jm(K:Frag)(t c:Ty):kitOne K (.type t.name) (.type c.name)=some (tyLe t c):=by cases t<;>cases c<;>kernel_rfl
section
variable{X:Cx}{ca:Nat->Addr}{a b c e:Expr}{ma mb mc me:ME}{pos p p2:Pos}{k:Nat}
theorem Qjo(c:Ty):CallR X (.builtin "isinstance") (λxs H Q=>∃x g μ d t,xs=[x,.ty c.name]/\GRep X.K ca μ H g/\Den X.K μ H x d/\tyOf g d=some t/\Q (.bl (tyLe t c)) H):=by
 intro pins s σ H xs us Q I rv h;obtain⟨x,g,μ,d,t,rfl,r,q,ht,qq⟩:=h;obtain⟨u,u2,rfl,ru,ru2⟩:=rv.two;cases ru2;have fin:∀tk,EP X pins σ Q (.bool (tyLe t c)) {s with toks:=tk}:=λtk=>⟨.bl _,H,I.tok tk,rfl,qq⟩;cases q with
 |non=>cases ht;exact Js I ru .non (Jm X.K .non c) fin|bl y=>cases ht;exact Js I ru (.bl y) (Jm X.K .bool c) fin|int y=>cases ht;exact Js I ru (.int y) (Jm X.K .int c) fin|str y=>cases ht;exact Js I ru (.str y) (Jm X.K .str c) fin|@tup a vs ds hq hs =>cases ht;cases ru;obtain⟨its,_,⟨o,h1,h2,_⟩,_⟩:=I.tuple hq;exact U3 WB I.kIn ⟨o,h1,h2⟩ (Jm X.K .tuple c) (λz=>nomatch z) fin|@fl a vs ds hq hs =>cases ht;cases ru;obtain⟨its,_,p,_⟩:=I.list hq.sq;obtain⟨o,h1,h2,_⟩:=p.isList;exact U3 Rt I.kIn ⟨o,h1,h2⟩ (Jm X.K .list c) (λz=>nomatch z) fin|@ref n a hn=>
  unfold tyOf at ht;dsimp only at ht;cases hg:g[n]? with
  |none=>rw[hg]at ht;cases ht|some o=>
   rw[hg]at ht;obtain⟨a',ha',ob⟩:=r.addr hg;rw[hn]at ha';cases ha';cases o with
   |lst ds=>cases ht;obtain⟨vs,hH,_⟩:=ob;exact Js I ru (.lst hH) (Jm X.K .list c) fin|dct ks=>cases ht;obtain⟨kv,hH,_⟩:=ob;exact Js I ru (.dK hH) (Jm X.K .dict c) fin|ins _ _=>cases ht|exc _=>cases ht|dfz _=>cases ht|dcn _ _=>cases ht|dcf _ _=>cases ht
theorem QcM{x:Str}(c:Ty)(hi:X.mg "isinstance"=none)(hm:X.mg x=none)(hv:bootBuiltins x=some (.type c.name))(he:PE3 ca X e me)(hgi:Gl X "isinstance":=by rfl)(hg:Gl X x:=by rfl)(hnm:x ≠"__name__":=by decide)(hdb:(x==("__debug__" : Str))=false:=by decide)(hs:starEach [e,.Name x p2] X.env=(false,eval e X.env)::starEach [.Name x p2] X.env:=by rfl)(hs2:starEach [.Name x p2] X.env=(false,eval (.Name x p2) X.env)::starEach [] X.env:=by rfl)(hpl:(backTo pos (starEach [.Name x p2] X.env)).any (·.1)=false:=by rfl):
  PE3 ca X (.Call (.Name "isinstance" p) [e,.Name x p2] [] pos) (mOp1 (Qbu c) me):=λpn Φ=>Zi (Qco (X:=xat X ca pn Φ) (Qjo (ca:=ca) c) hgi hi boot_isinstance (QaN (X:=xat X ca pn Φ) (he pn Φ) (QaN (X:=xat X ca pn Φ) (QfT (X:=xat X ca pn Φ) (v:=.ty c.name) hg hm hv rfl hnm hdb) QgR hs2) hs) (by decide) (by decide) hs hpl) λσ H Q ⟨σ3,g,μ,R,q⟩=>
  Q2 (Ju R q) λy H1 hQ=>by
   obtain⟨d,g1,μ1,e1,R1,q1,p1⟩:=hQ;unfold Qbu at p1;cases ht:tyOf g1 d with
   |none=>rw[ht]at p1;exact p1.elim|some t=>rw[ht]at p1;exact⟨y,g1,μ1,d,t,rfl,R1.g,q1,ht,p1 _ H1 μ1 .refl R1.g (.bl _)⟩
theorem Qg8{K:Frag}{μ:List Addr}{H:Hp}:∀{vs:List V}{ds:List D}{us:List Value}{b:Bool},Dens K μ H vs ds->Vals vs us->allB ds=some b->∃bs:List Bool,us=bs.map Value.bool/\bs.all id=b
 |_,_,_,b,.nil,.nil,h=>by cases h;exact⟨[],rfl,rfl⟩
 |_,_,_,b,@Dens.cons _ _ _ _ _ _ ds q qs,.cons r rs,h=>by
  cases q with
  |bl c=>
   unfold allB at h;cases hd:allB ds with
   |none=>rw[hd]at h;cases h|some d =>rw[hd]at h;cases h;obtain⟨bs,h1,h2⟩:=Qg8 qs rs hd;cases r;exact⟨c::bs,by rw[h1];rfl,by simp[h2]⟩
  |_=>cases h
theorem Qjp(bs:List Bool):((List.range bs.length).all λi=>(bs[i]?).getD true)=bs.all id:=by
 rw[Tk,UL,UL];constructor
 ·intro h b hb;obtain⟨i,hi,rfl⟩:=List.getElem_of_mem hb;have:=h i (Ru.mpr hi);simpa[hi]using this
 ·intro h i hi;have hi':=Ru.mp hi;have:=h bs[i] (UY hi');simpa[hi']using this
theorem Qjq(hc:X.calm=true):CallR X (.builtin "all") (λxs H Q=>∃p vs ds μ b,xs=[.ref p]/\SqL X.K H p vs/\Dens X.K μ H vs ds/\allB ds=some b/\Q (.bl b) H):=by
 intro pins s σ H xs us Q I rv h;obtain⟨l,vs,ds,μ,b,rfl,hq,q,hb,qq⟩:=h;obtain⟨u,rfl,ru⟩:=rv.one;cases ru;obtain⟨its,rs,pl,_⟩:=I.list hq;obtain⟨bs,rfl,e2⟩:=Qg8 q rs hb;have hl:=pl.isList;have hlt:l<s.heap.objs.size:=by obtain⟨_,e,_⟩:=hl;exact Uw e
 refine call_all_walk (WJ hl ⟨s.heap.objs.size,[s.heap.objs.size,l],[s.heap.objs.size],_,_,_,λi=>(bs[i]?).getD true,rfl,Walks.list (A:=X.A.in1) (show X.A.in1.handled=none from I.ok.hd hc) _ l (UP hlt) _,⟨⟨_,UA _ rfl,rfl,rfl⟩,hl.push _⟩,λi v s' Q' E' hP hQ=>?_,λh' tk hk=>?_⟩)
 ·have hP:(bs.map Value.bool).toArray[i]?=some v:=hP;rw[List.getElem?_toArray,UK]at hP;cases hi:bs[i]? with
  |none=>rw[hi]at hP;cases hP|some c =>rw[hi]at hP;cases hP;simp only[hi,Option.getD_some]at hQ;exact Td hQ
 ·have kept:∀c o,s.heap.get? c=some o->h'.get? c=some o:=λc o e=>hk c o (λhm=>by rw[Uf.mp hm]at e;exact TF _ (Uw e)) (Ug _ e);have ea:((List.range (bs.map Value.bool).toArray.size).all λi=>(bs[i]?).getD true)=b:=by rw[Ur,Ub,Qjp,e2]
  rw[ea];exact⟨.bl b,H,I.kept kept,rfl,qq⟩
theorem QhW(hc:X.calm=true)(hm:X.mg "all"=none)(he:PE3 ca X e me)(hg:Gl X "all":=by rfl)(hs:starEach [e] X.env=[(false,eval e X.env)]:=by rfl)(hpl:(backTo pos (starEach [] X.env)).any (·.1)=false:=by rfl):
  PE3 ca X (.Call (.Name "all" p) [e] [] pos) (mOp1 pAll me):=
 Qjn (r:=λxs H Q=>∃p vs ds μ b,xs=[V.ref p]/\SqL X.K H p vs/\Dens X.K μ H vs ds/\allB ds=some b/\Q (.bl b) H) (λpn Φ=>Qjq (X:=xat X ca pn Φ) hc) hm boot_all (λΦ σ H μ g y d Q r q pp=>by
  unfold pAll at pp;cases q with
  |@ref n t hn=>
   dsimp only at pp;cases hgn:g[n]? with
   |none=>rw[hgn]at pp;exact pp.elim|some ob=>
    rw[hgn]at pp;obtain⟨t',ht',orp⟩:=r.addr hgn;rw[hn]at ht';cases ht';cases ob with
    |lst ds=>
     obtain⟨vs,hH,q⟩:=orp;dsimp only at pp;cases hb:allB ds with
     |none=>rw[hb]at pp;exact pp.elim|some b=>rw[hb]at pp;exact⟨t,vs,ds,μ,b,rfl,.of hH,q,hb,pp _ H μ .refl r (.bl _)⟩
    |_=>exact pp.elim
  |_=>exact pp.elim) he hg (by decide) (by decide) hs hpl
theorem Qlj{K:Frag}{Φ:XS}{r r':R2}{f f':D->D->G->Res D}(h1:Jc K ca r f)(h2:Jc K ca r' f')(σ:L2.St)(H:Hp)(Q:VK)(h:up K ca Φ (Qdz f f' ma mb mc) σ H Q):Ql0 r r' (up K ca Φ ma) (up K ca Φ mb) (up K ca Φ mc) σ H Q:=by
 obtain⟨σ3,g,μ,R,p⟩:=h;refine Q2 (Ju R p) λx H1 ⟨dx,g1,μ1,e1,R1,q1,p1⟩=>?_;refine Q2 (Ju R1 p1) λy H2 ⟨dy,g2,μ2,e2,R2,q2,p2⟩=>?_;refine h1 Φ σ H2 μ2 g2 x y dx dy _ R2.g (q1.mono e2) q2 ?_;cases hf:f dx dy g2 with
 |raise _ _=>rw[hf]at p2;exact p2|stuck=>rw[hf]at p2;exact p2.elim|ok z g3=>
  rw[hf,Res.bind_ok]at p2;intro v H3 μ3 e3 r3 q3;cases q3 with
  |bl t=>
   refine⟨t,rfl,?_⟩;cases t with
   |true =>rw[Uj rfl];dsimp only at p2;refine Q2 (Ju (R2.go e3 r3) (p2.go e3)) λw' H4 ⟨dw,g4,μ4,e4,R4,q4,p4⟩=>?_;exact h2 Φ σ H4 μ4 g4 y w' dy dw Q R4.g ((q2.mono e3).mono e4) q4 p4
   |false =>rw[Uo Uk];exact p2 _ H3 μ3 e3 r3 (.bl _)
  |_=>exact p2.elim
theorem Qo5(ha:PE3 ca X a ma)(hb:PE3 ca X b mb)(hc:PE3 ca X c mc)(hm:lastMarks [.LtE,.Lt] [b,c]=false:=by with_unfolding_all rfl):PE3 ca X (.Compare a [.LtE,.Lt] [b,c] pos) (Qdz pLe pLt ma mb mc):=λpn Φ=>Zi (QkX (X:=xat X ca pn Φ) Qow Qov (ha pn Φ) (hb pn Φ) (hc pn Φ) hm) (Qlj (Qaw _) (Qaw _))
theorem Qmg{K:Frag}{μ:List Addr}{H:Hp}{v:V}{d:D}(q:Den K μ H v d)(h:Qdp d=true):Qdn v=true:=by cases q<;>first|rfl|cases h
theorem Qjr{K:Frag}{μ:List Addr}{H:Hp}:∀{vs:List V}{ds:List D},Dens K μ H vs ds->ds.all Qdp=true->vs.all Qdn=true
 |_,_,.nil,_=>rfl|_,_,.cons q qs,h=>by rw[RD,US]at h ⊢;exact⟨Qmg q h.1,Qjr qs h.2⟩
theorem Qqi{K:Frag}{μ:List Addr}{H:Hp}{v w:V}{d e:D}(q:Den K μ H v d)(q':Den K μ H w e)(h:Qdp d=true)(h':Qdp e=true):eqV v w=eqF d e:=by cases q<;>cases q'<;>first|rfl|cases h|cases h'
theorem Qo6{K:Frag}{μ:List Addr}{H:Hp}{w:V}{e:D}(q':Den K μ H w e)(h':Qdp e=true):∀{vs:List V}{ds:List D},Dens K μ H vs ds->ds.all Qdp=true->(vs.any λy=>eqV y w)=ds.any λd=>eqF d e
 |_,_,.nil,_=>rfl|_,_,.cons q qs,h=>by rw[RD,US]at h;rw[Tr,Tr,Qqi q q' h.1 h',Qo6 q' h' qs h.2]
theorem Qnj{K:Frag}(neg:Bool):Jc K ca (rIn K neg) (pIn neg):=by
 intro Φ σ H μ g x y dx dy Q r qx qy p;unfold pIn at p;cases hs:QU g dy with
 |none=>rw[hs]at p;exact p.elim|some pr=>
  obtain⟨bb,ds⟩:=pr;rw[hs]at p;dsimp only at p;by_cases z:Qdp dx=true/\ds.all Qdp=true
  ·rw[Uj z]at p;obtain⟨a,vs,rfl,sq,qs⟩:=Qli r qy hs;refine⟨a,vs,rfl,?_,Qmg qx z.1,Qjr qs z.2,p _ H μ .refl r ?_⟩
   ·cases bb
    ·exact .inr sq
    ·exact .inl sq
   ·unfold inV;rw[Qo6 qx z.1 qs z.2];cases neg<;>exact .bl _
  ·rw[Uo z]at p;exact p.elim
theorem r_in(ha:PE3 ca X a ma)(hb:PE3 ca X b mb)(hm:behindInMarks .In b=false:=by rfl):PE3 ca X (.Compare a [.In] [b] pos) (mOp2 (pIn false) ma mb):=Qi1 (λ_ _=>QiK) (Qnj false) ha hb hm
end
end L3
namespace L3
open PySem PySem.Spec PyProof.Rows L2
section
variable{prog:Program}{w:World}{A:Around}{E:VP}{s:Shared}
theorem Qby{t sl:Addr}{items:Array Value}{vl vu:Value}{lo hi:Option Int}{Q:VP}(ht:IsTup s.heap t items)(hs:s.heap.IsSliceOf sl vl vu .none)(pl:IsPart vl lo)(pu:IsPart vu hi)(h1:HT.sIx items.size 0 lo=0)(h2:HT.sIx items.size items.size hi=items.size)(h:Q (.ref t) s):wpAny (model prog w) A (getItem (.ref t) (.ref sl)) Q E s:=by
 obtain⟨os,hos,hcs,hds⟩:=id hs;have hTs:s.TypeIs (.ref sl) "slice":=⟨os,hos,hcs⟩;unfold getItem;try with_reducible refine Th ?_
 first|refine Ua (Ud ?_)|skip
 refine Ua (wpAny_sequenceKey ht.typeIs (by decide) ?_);refine Ua (Te (name:=Str.ofString "__getitem__") ht.typeIs U0 (UX U0 ht.typeIs entry_tuple_getitem ?_ (args_tuple_getitem _ _)));show wpAny _ _ (Builtin.Tuple.tupleItemsOf (.ref t) >>= _) _ _ s;refine Ua (tupleItemsOf_ ht (Ua (Ro hTs ?_)));rw[Uj (by decide)];refine Ua (HT.sliceApplied_gen hs pl pu ?_);rw[h1,h2];show wpAny _ _ (if (((0:Nat):Int)==0&&(1:Int)==1&&(items.size-0)==items.size)=true then _ else _) _ _ s;rw[Uj (by simp)];unfold Builtin.Tuple.tupleIsExact;refine Ua (Ua (Ro ht.typeIs (Ud ?_)));rw[Uj (by decide)];exact Ua (Rc (Ud ⟨_,rfl,Ud h⟩))
end
theorem Qlk(n d:Nat)(o:Option Int):HT.sIx n d o=sIxD n d o:=by cases o<;>rfl
theorem Dens.cut{K:Frag}{μ:List Addr}{H:Hp}{vs:List V}{ds:List D}(lo hi:Option Int)(h:Dens K μ H vs ds):Dens K μ H (cutV vs lo hi) (cutD ds lo hi):=by unfold cutV cutD;rw[Qlk,Qlk,h.length];exact(h.drop _).take _
section
variable{X:Cx}{ca:Nat->Addr}{e:Expr}{me:ME}{lo hi:Option Expr}{ml mh:MO}{pos p2:Pos}
theorem Qjs:SlR X (λx lo hi H Q=>∃a xs,x=.ref a/\SqT X.K H a xs/\(HT.sIx xs.length 0 lo=0/\HT.sIx xs.length xs.length hi=xs.length)/\Q (.ref a) H):=by
 intro pins s σ H x v vl vu lo hi sl Q I rx hs pl pu h;obtain⟨a,xs,rfl,hx,hw,q⟩:=h;cases rx;obtain⟨its,r,ht,hz⟩:=I.tuple hx;have hlen:its.toArray.size=xs.length:=by rw[Ur];exact r.length.symm
 refine⟨"tuple",_,U0.lookup,ht.typeIs,?_⟩;exact Qby ht hs pl pu (by rw[hlen];exact hw.1) (by rw[hlen];exact hw.2) ⟨.ref a,H,I,rfl,q⟩
def upO(K:Frag)(ca:Nat->Addr)(Φ:XS)(m:MO):TO:=λσ H Q=>∃σ3 g μ,Rep K ca μ σ3 g σ H/\match m σ3 g with
 |.ok o g'=>∀H' μ',Ext K μ H μ' H'->GRep K ca μ' H' g'->Q o H'|.raise x g'=>RaP K ca Φ σ H μ x g'|.stuck=>False
def PO3(ca:Nat->Addr)(X:Cx)(e:Option Expr)(m:MO):Prop:=∀pn Φ,PO (xat X ca pn Φ) e (upO X.K ca Φ m)
theorem Ze:PO3 ca X none Qw:=λpn Φ pins s σ H Q I ⟨_,_,μ,R,p⟩=>QmZ (X:=xat X ca pn Φ) pins s σ H Q I (p H μ .refl R.g)
theorem YO(he:PE3 ca X e me):PO3 ca X (some e) (Zh me):=λpn Φ pins s σ H Q I hQ=>by
 obtain⟨σ3,g,μ,R,p⟩:=hQ;refine Qm0 (X:=xat X ca pn Φ) (he pn Φ) pins s σ H Q I ⟨σ3,g,μ,R,?_⟩;unfold Zh at p;cases hm:me σ3 g with
 |raise _ _=>rw[hm]at p;exact p|stuck=>rw[hm]at p;exact p|ok d g1=>
  rw[hm,Res.bind_ok]at p;intro v H1 μ1 e1 r1 q1;cases q1 with
  |int i=>exact⟨i,rfl,p H1 μ1 e1 r1⟩|_=>exact p.elim
theorem Qnk(xs:List α)(lo hi:Option Int)(h1:sIxD xs.length 0 lo=0)(h2:sIxD xs.length xs.length hi=xs.length):cutD xs lo hi=xs:=by unfold cutD;rw[h1,h2];simp
theorem ZM(he:PE3 ca X e me)(hl:PO3 ca X lo ml)(hh:PO3 ca X hi mh):PE3 ca X (.Subscript e (.Slice lo hi none p2) pos) (QI me ml mh):=λpn Φ=>
 Zi (Qk1 (X:=xat X ca pn Φ) ((sl_tup.or Qjs).or Qm2) (he pn Φ) (hl pn Φ) (hh pn Φ)) λσ H Q ⟨σ3,g,μ,R,p⟩=>Q2 (Ju R p) λx H1 hQ=>by
  obtain⟨d,g1,μ1,e1,R1,q1,p1⟩:=hQ;refine⟨σ3,g1,μ1,R1,?_⟩;cases hm:ml σ3 g1 with
  |raise _ _=>rw[hm]at p1;exact p1|stuck=>rw[hm]at p1;exact p1|ok l g2=>
   rw[hm,Res.bind_ok]at p1;intro H2 μ2 e2 r2;refine⟨σ3,g2,μ2,R1.go e2 r2,?_⟩;cases hm2:mh σ3 g2 with
   |raise _ _=>rw[hm2]at p1;exact RaP.go e2 p1|stuck=>rw[hm2]at p1;exact p1|ok u g3=>
    rw[hm2,Res.bind_ok]at p1;intro H3 μ3 e3 r3;have p3:=Post.go (e2.trans e3) p1;have q3:=(q1.mono e2).mono e3;unfold Qb0 at p3;cases q3 with
    |@tup a vs ds ht hs=>
     by_cases hw:HT.sIx vs.length 0 l=0/\HT.sIx vs.length vs.length u=vs.length
     ·refine .inl (.inr ⟨a,vs,rfl,ht,hw,p3 _ H3 μ3 .refl r3 ?_⟩);rw[Qnk ds l u (by rw[<-Qlk,<-hs.length];exact hw.1) (by rw[<-Qlk,<-hs.length];exact hw.2)];exact .tup ht hs
     ·exact .inl (.inl ⟨a,vs,rfl,ht,hw,λt ht'=>p3 _ _ μ3 (Zo ht') (r3.new ht') (.tup (.of Qr) ((hs.cut l u).mono (Zo ht')))⟩)
    |@fl a vs ds ht hs =>refine .inr ⟨a,vs,rfl,ht.sq,λt ht'=>p3 _ _ (μ3++[t]) (QD ht') (r3.push ht' ⟨_,Qr,(hs.cut l u).mono (QD ht')⟩) (.ref ?_)⟩;rw[<-r3.len];simp|@ref n a hn=>
     dsimp only at p3;cases hg:g3[n]? with
     |none=>rw[hg]at p3;exact p3.elim|some o=>
      rw[hg]at p3;obtain⟨a',ha',ob⟩:=r3.addr hg;rw[hn]at ha';cases ha';cases o with
      |lst ds =>obtain⟨vs,hH,hs⟩:=ob;refine .inr ⟨a,vs,rfl,.of hH,λt ht'=>p3 _ _ (μ3++[t]) (QD ht') (r3.push ht' ⟨_,Qr,(hs.cut l u).mono (QD ht')⟩) (.ref ?_)⟩;rw[<-r3.len];simp|_=>exact p3.elim
    |_=>exact p3.elim
end
end L3
namespace L3
open PySem PySem.Spec PyProof.Rows L2
end L3
namespace L3
open PySem PySem.Spec PyProof.Rows L2
end L3
namespace L3
open PySem PySem.Spec PyProof.Rows L2
end L3
namespace L3
open PySem PySem.Spec PyProof.Rows L2
def bchk(sc scope:Scope)(N Nb:List Str)(no:Nat)(cap:List Nat):Bool:=decide (scope.kind=.function)&&scope.names.all (λy=>decide (y.2≠.cell))&&scope.names.all (λy=>decide (y.2≠.local)||decide (scope.names.lookup y.1=some .local)) &&
 scope.names.all (λy=>decide (y.2≠.free)||decide (sc.names.lookup y.1=some .cell)||decide (sc.names.lookup y.1=some .free))&&decide (Nb.length=no+cap.length) &&
 (List.range cap.length).all λj=>match cap[j]?,Nb[no+j]? with
  |some i,some x=>decide (N[i]?=some x)&&decide (scope.names.lookup x=some .free)&&(decide (sc.names.lookup x=some .cell)||decide (sc.names.lookup x=some .free))|_,_=>false
theorem QN(hsc:X.env.scope=sc)(hN:X.N=N)(h:bchk sc scope N Nb no cap=true):BScope X scope Nb no cap:=by
 subst hsc hN;unfold bchk at h;simp only[US,TN]at h;obtain⟨⟨⟨⟨⟨h1,h2⟩,h3⟩,h4⟩,h5⟩,h6⟩:=h;rw[UL]at h2 h3 h4 h6;refine⟨h1,λy hy=>UO (h2 y hy),λy hy e=>?_,λy hy e=>?_,h5,λj i hj=>?_⟩
 ·rcases Wq.mp (h3 y hy) with z|z
  ·exact absurd e (UO z)
  ·exact UO z
 ·rcases Wq.mp (h4 y hy) with z|z
  ·rcases Wq.mp z with z|z
   ·exact absurd e (UO z)
   ·exact .inl (UO z)
  ·exact .inr (UO z)
 ·have hl:j<cap.length:=(Ul.mp hj).1;have z:=h6 j (Ru.mpr hl);rw[hj]at z;cases hx:Nb[no+j]? with
  |none=>rw[hx]at z;cases z|some x=>
   rw[hx]at z;simp only[US,Bool.or_eq_true,TN]at z;obtain⟨⟨z1,z2⟩,z3⟩:=z;refine⟨x,rfl,z1,z2,.inr z3,λq=>?_⟩;have q:X.env.scope.names.lookup x=some .local:=q;rcases z3 with z|z
   ·rw[z]at q;cases q
   ·rw[z]at q;cases q
def clsB(K:Frag)(C:Addr):Bool:=plainGet K C Str.empty&&hasDictIn K C&&plainOver K C&&(findIn K (.ref C) "__setattr__"==some (some (.builtin "object.__setattr__")))
theorem Qmh{K:Frag}{C:Addr}(h:clsB K C=true):Cls K C:=by unfold clsB at h;simp only[US,Rv]at h;obtain⟨⟨⟨h1,h2⟩,h3⟩,h4⟩:=h;exact⟨h1,h2,h3,h4⟩
def fldB(K:Frag)(ca:Nat->Addr)(cs:List Nat)(f:Str):Bool:=cs.all λc=>clsB K (ca c)&&(findIn K (.ref (ca c)) f==some none)
theorem QcN{K:Frag}{ca:Nat->Addr}{cs:List Nat}{f:Str}(h:fldB K ca cs f=true):FldOk K ca cs f:=by unfold fldB at h;rw[UL]at h;exact⟨λc hc=>Qmh (Bu.mp (h c hc)).1,λc hc=>Rv.mp (Bu.mp (h c hc)).2⟩
section
variable{X:Cx}{ca:Nat->Addr}{pos:Pos}{x:Str}
theorem Z4(h:∃k,X.mg x=some (.str t k))(hg:Gl X x:=by rfl)(hd:(x==("__debug__" : Str))=false:=by decide):PE3 ca X (.Name x pos) (mLit (.str t)):=by obtain⟨k,h⟩:=h;exact Qma h (v:=.str t) ⟨k,rfl⟩ (λ_ _ _=>.str t) hg hd
theorem Qg9(h:∃k,X.mg x=some (.int i k))(hg:Gl X x:=by rfl)(hd:(x==("__debug__" : Str))=false:=by decide):PE3 ca X (.Name x pos) (mLit (.int i)):=by obtain⟨k,h⟩:=h;exact Qma h (v:=.int i) ⟨k,rfl⟩ (λ_ _ _=>.int i) hg hd
end
theorem Qo7:bootBuiltins "int"=some (.type Ty.int.name):=boot_int
theorem Qjt:bootBuiltins "bool"=some (.type Ty.bool.name):=by decide +kernel
theorem Qcu:bootBuiltins "tuple"=some (.type Ty.tuple.name):=boot_tuple
section
variable{P:Program}{w:World}{K:Frag}{mg:SOV}{base:Heap}{ca:Nat->Addr}
theorem Qo8{F:MF}{H:Hp}{a:Addr}{ns:List Int}(hO:Only H)(hS:SqL K H a (ns.map V.int))(h:∃g',F [.fl (ns.map D.int)] []=.ok (.bl true) g'):spM K ca 1 F [.ref a] H (λv _=>v=.bl true) λ_ _ _=>False:=by
 obtain⟨g',h⟩:=h;have hF:SqF K H a (ns.map V.int):=by
  rcases hS with(h|⟨o,h⟩)|h
  ·rcases hO a with z|⟨o,xs,z⟩
   ·rw[h]at z;cases z
   ·rw[h]at z;cases z
  ·exact .inl ⟨o,h⟩
  ·exact .inr (.inr h)
 refine⟨rfl,[.fl (ns.map D.int)],[],[],⟨rfl,.nil,λn a o h=>by simp at h⟩,.cons (.fl hF (Dens.ints ns)) .nil,?_⟩;rw[h];intro v H' μ' e r q;cases q;rfl
end
end L3
namespace L3
open PySem PySem.Spec
theorem len0(h:us.length=0):us=[]:=List.eq_nil_of_length_eq_zero h
theorem len1(h:us.length=1):∃a0,us=[a0]:=by
 cases us with
 |nil=>cases h|cons a r =>have e:=len0 (Nat.succ.inj h);subst e;exact⟨a,rfl⟩
theorem len2(h:us.length=2):∃a0 a1,us=[a0,a1]:=by
 cases us with
 |nil=>cases h|cons a r =>obtain⟨b0,rfl⟩:=len1 (Nat.succ.inj h);exact⟨a,b0,rfl⟩
theorem len3(h:us.length=3):∃a0 a1 a2,us=[a0,a1,a2]:=by
 cases us with
 |nil=>cases h|cons a r =>obtain⟨b0,b1,rfl⟩:=len2 (Nat.succ.inj h);exact⟨a,b0,b1,rfl⟩
theorem len4(h:us.length=4):∃a0 a1 a2 a3,us=[a0,a1,a2,a3]:=by
 cases us with
 |nil=>cases h|cons a r =>obtain⟨b0,b1,b2,rfl⟩:=len3 (Nat.succ.inj h);exact⟨a,b0,b1,b2,rfl⟩
theorem len5(h:us.length=5):∃a0 a1 a2 a3 a4,us=[a0,a1,a2,a3,a4]:=by
 cases us with
 |nil=>cases h|cons a r =>obtain⟨b0,b1,b2,b3,rfl⟩:=len4 (Nat.succ.inj h);exact⟨a,b0,b1,b2,b3,rfl⟩
def Qmi:Expr->Bool
 |.Starred ..=>false|_=>true
theorem Qju(h:Qmi e=true):starEach (e::es) env=(false,eval e env)::starEach es env:=by cases e<;>first|rfl|exact absurd h Uk
variable{P:Program}{w:World}{K:Frag}{mg:SOV}{base:Heap}{ca:Nat->Addr}{X:L2.Cx}
theorem Qc(ha:PE3 ca X e me)(hr:PA3 ca X es mr)(hs:Qmi e=true:=by rfl):PA3 ca X (e::es) (Qa me mr):=Jv ha hr (Qju hs)
def Qmj:Expr->Bool
 |.ListComp ..=>false|.SetComp ..=>false|.DictComp ..=>false|_=>true
theorem Qnl(h:Qmj e=true):swapsWith e t l env=pure false:=by cases e<;>first|rfl|exact absurd h Uk
theorem QE(i:Nat){x:Str}{pos pos':Pos}{e:Expr}{me:ME}(hN:X.N.Nodup)(he:PE3 ca X e me)(hi:X.N[i]?=some x:=by rfl)(hx:L2.Loc X.env.scope x:=by first|exact Or.inl rfl|exact Or.inr rfl)(hs:Qmj e=true:=by rfl)(hf:X.fn x=true\/X.env.scope.names.lookup x=some .local:=by first|exact .inl rfl|exact .inr rfl):
  PS3 ca X (.Assign [.Name x pos'] e pos) (mAsg (gSet i) me):=Qqf i hN he hi hx (Qnl hs) hf
end L3
namespace L3
open PySem
def insL{α:Type}(xs:List α)(k:Nat)(y:α):List α:=xs.take k++y::xs.drop k
def Qeb(o i e:ME):ME:=λσ g=>(o σ g).bind λx g1=>match x with
 |.ref n=>(match g1[n]? with
  |some (.lst _)=>(i σ g1).bind λz g2=>(e σ g2).bind λy g3=>(match z,g3[n]? with
   |.int k,some (.lst ds)=>if 0<=k/\k<=ds.length/\ds.length<SZ then .ok .non (g3.set n (.lst (insL ds k.toNat y))) else .stuck
   |_,_=>.stuck)
  |_=>.stuck)
 |_=>.stuck
def Qll(o i:ME):ME:=λσ g=>(o σ g).bind λx g1=>match x with
 |.ref n=>(match g1[n]? with
  |some (.lst _)=>(i σ g1).bind λz g2=>(match z,g2[n]? with
   |.int k,some (.lst ds)=>if 0<=k/\k<SZ then (match ds[k.toNat]? with
    |some d=>.ok d (g2.set n (.lst (ds.eraseIdx k.toNat)))|none=>.stuck) else .stuck
   |_,_=>.stuck)
  |_=>.stuck)
 |_=>.stuck
end L3
namespace L3
open PySem PySem.Spec PyProof.Rows L2
section
variable{X:Cx}{ca:Nat->Addr}{a b e o i:Expr}{ma mb me mo mi:ME}{pos p p2 apos:Pos}{k:Nat}
def Qnm:V->List V->Hp->VK->Prop:=λx vs H Q=>∃l xs k y,x=.ref l/\vs=[.int ((k:Nat):Int),y]/\H l=some (.lst xs)/\k<=xs.length/\xs.length<sizeLine/\Q .non (upd H l (.lst (insL xs k y)))
theorem Qjv:MtM X "list.insert" Qnm:=by
 intro pins s σ H x vs v us Q I rx rv h;obtain⟨l,xs,k,y,rfl,rfl,hH,hk,hz,q⟩:=h;cases rx;obtain⟨u,w',rfl,⟨t,rfl⟩,rw'⟩:=Qoy rv;obtain⟨z,its,n,r,hl,e⟩:=I.lstM hH;have hz2:xs.length<16777216:=by rw[<-Tn];exact hz
 have hf:Builtin.List.listFitsIndex ((k:Nat):Int)=true:=fitsIndex_both (by omega) (by omega);have hs0:its.toArray.size<=sizeLine:=by rw[Ur,<-hl];exact RV hz
 have hc0:¬(!Builtin.List.listFitsIndex ((k:Nat):Int))=true:=by rw[hf];decide
 have M:=@PySem.AutoSeq1.list_insert_list_int_val_1 l its.toArray n ((k:Nat):Int) t w' hc0 hs0;refine RL WM ⟨_,e,rfl⟩ PySem.F.entry_list_insert (PySem.F.args_list_insert_3 (.ref l) (.int ((k:Nat):Int) t) w') (by assumption) ?_;refine⟨e,?_⟩;refine⟨.non,_,I.lset (its':=insL its k w') hH e ?_ ((r.take k).append (.cons rw' (r.drop k))) ?_,rfl,q⟩
 ·show((its.toArray.extract 0 (if ((k:Nat):Int)<0 then (((k:Nat):Int)+((its.toArray.size:Nat):Int)).toNat else min ((k:Nat):Int).toNat its.toArray.size)).push w'++its.toArray.extract (if ((k:Nat):Int)<0 then (((k:Nat):Int)+((its.toArray.size:Nat):Int)).toNat else min ((k:Nat):Int).toNat its.toArray.size))=_;rw[Uo (by omega),T9,Ur,Nat.min_eq_left (by omega)];apply Array.toList_inj.mp;simp[insL];exact Rj (by simp)
 ·rw[Uh,Uy,Tx,WY];omega
theorem Dens.insL{K:Frag}{μ:List Addr}{H:Hp}{vs:List V}{ds:List D}{v:V}{d:D}(h:Dens K μ H vs ds)(hd:Den K μ H v d)(k:Nat):Dens K μ H (L3.insL vs k v) (L3.insL ds k d):=(h.take k).append (.cons hd (h.drop k))
theorem Qlm(ho:PE3 ca X o mo)(hi:PE3 ca X i mi)(he:PE3 ca X e me)(hbase:attributeBase o "insert" X.env (eval o X.env)=eval o X.env:=by rfl)(hfew:((backTo pos (starEach [i,e] X.env)).all (λx=>!x.1)&&(backToKw pos (keywordEach [] X.env)).all (λx=>x.1.isSome)&&decide ([i,e].length+([]:List Keyword).length+(if ([]:List Keyword).isEmpty then 0 else 1)<30))=true:=by rfl)(hline:(apos.endLine==pos.line)=true:=by rfl)(hs:starEach [i,e] X.env=(false,eval i X.env)::starEach [e] X.env:=by rfl)(hs2:starEach [e] X.env=(false,eval e X.env)::starEach [] X.env:=by rfl)(hplain:(backTo pos (starEach [e] X.env)).any (·.1)=false:=by rfl):
  PE3 ca X (.Call (.Attribute o "insert" apos) [i,e] [] pos) (Qeb mo mi me):=
 λpn Φ=>Zi (Qk3 (X:=xat X ca pn Φ) TK WM PySem.F.type_list_insert Qjv (ho pn Φ) (Jv hi (Jv he Qh hs2) hs pn Φ) hbase hfew hline hs hplain) λσ H Q ⟨σ3,g,μ,R,q⟩=>Q2 (Ju R q) λx H1 hQ=>by
  obtain⟨d,g1,μ1,e1,R1,q1,p1⟩:=hQ;cases q1 with
  |@ref n t hn=>
   dsimp only at p1;cases hgn:g1[n]? with
   |none=>rw[hgn]at p1;exact p1.elim|some ob=>
    rw[hgn]at p1;obtain⟨t',ht',orp⟩:=R1.g.addr hgn;rw[hn]at ht';cases ht';cases ob with
    |lst ds0=>
     obtain⟨vs0,hH0,_⟩:=orp;dsimp only at p1;refine⟨.inl ⟨rfl,_,.of hH0⟩,σ3,g1,μ1,R1,?_⟩;unfold Qa mNil;cases hmi:mi σ3 g1 with
     |raise _ _=>rw[hmi]at p1;exact p1|stuck=>rw[hmi]at p1;exact p1.elim|ok z g2=>
      rw[hmi,Res.bind_ok]at p1;rw[Res.bind_ok];cases hm:me σ3 g2 with
      |raise _ _=>rw[hm]at p1;exact p1|stuck=>rw[hm]at p1;exact p1.elim|ok y g3=>
       rw[hm,Res.bind_ok]at p1;rw[Res.bind_ok,Res.bind_ok,Res.bind_ok];intro vs H2 μ2 e2 r2 q2;cases q2 with
       |@cons vz _ _ _ hz1 hz2=>
        cases hz2 with
        |@cons vy _ _ _ h1 h2=>
         cases h2;cases hg2:g3[n]? with
         |none=>rw[hg2]at p1;cases z<;>exact p1.elim|some ob2=>
          rw[hg2]at p1;obtain⟨t',ht',orp⟩:=r2.addr hg2;rw[e2.at hn]at ht';cases ht';cases hz1 with
          |int kk=>
           cases ob2 with
           |lst ds=>
            obtain⟨ws,hH,qs⟩:=orp;dsimp only at p1;by_cases zz:0<=kk/\kk<=ds.length/\ds.length<SZ
            ·rw[Uj zz]at p1;have ek:((kk.toNat:Nat):Int)=kk:=by omega
             have ex:Ext X.K μ2 H2 μ2 (upd H2 t (.lst (L3.insL ws kk.toNat vy))):=Ya hH (by intro _ z;cases z) (by intro _ _ z;cases z);refine⟨t,ws,kk.toNat,vy,rfl,by rw[ek],hH,by rw[qs.length];omega,by rw[qs.length];exact Ux zz.2.2 Yk,p1 _ _ μ2 (e2.trans ex) ?_ .non⟩;exact r2.set (e2.at hn) hH (by intro _ z;cases z) (by intro _ _ z;cases z) ⟨_,Qr,Dens.insL (qs.mono ex) (h1.mono ex) _⟩
            ·rw[Uo zz]at p1;exact p1.elim
           |_=>exact p1.elim
          |_=>exact p1.elim
    |_=>exact p1.elim
  |_=>exact p1.elim
theorem Dens.erase{K:Frag}{μ:List Addr}{H:Hp}:∀{vs:List V}{ds:List D}(k:Nat),Dens K μ H vs ds->Dens K μ H (vs.eraseIdx k) (ds.eraseIdx k)
 |_,_,_,.nil=>.nil|_,_,0,.cons _ r=>r|_,_,k+1,.cons a r=>.cons a (Dens.erase k r)
theorem Qo9(ho:PE3 ca X o mo)(hi:PE3 ca X i mi)(hbase:attributeBase o "pop" X.env (eval o X.env)=eval o X.env:=by rfl)(hfew:((backTo pos (starEach [i] X.env)).all (λx=>!x.1)&&(backToKw pos (keywordEach [] X.env)).all (λx=>x.1.isSome)&&decide ([i].length+([]:List Keyword).length+(if ([]:List Keyword).isEmpty then 0 else 1)<30))=true:=by rfl)(hline:(apos.endLine==pos.line)=true:=by rfl)(hs:starEach [i] X.env=(false,eval i X.env)::starEach [] X.env:=by rfl)(hplain:(backTo pos (starEach [] X.env)).any (·.1)=false:=by rfl):
  PE3 ca X (.Call (.Attribute o "pop" apos) [i] [] pos) (Qll mo mi):=
 λpn Φ=>Zi (Qk3 (X:=xat X ca pn Φ) TK Bk Bl Qk5 (ho pn Φ) (Jv hi Qh hs pn Φ) hbase hfew hline hs hplain) λσ H Q ⟨σ3,g,μ,R,q⟩=>Q2 (Ju R q) λx H1 hQ=>by
  obtain⟨d,g1,μ1,e1,R1,q1,p1⟩:=hQ;cases q1 with
  |@ref n t hn=>
   dsimp only at p1;cases hgn:g1[n]? with
   |none=>rw[hgn]at p1;exact p1.elim|some ob=>
    rw[hgn]at p1;obtain⟨t',ht',orp⟩:=R1.g.addr hgn;rw[hn]at ht';cases ht';cases ob with
    |lst ds0=>
     obtain⟨vs0,hH0,_⟩:=orp;dsimp only at p1;refine⟨.inl ⟨rfl,_,.of hH0⟩,σ3,g1,μ1,R1,?_⟩;unfold Qa mNil;cases hmi:mi σ3 g1 with
     |raise _ _=>rw[hmi]at p1;exact p1|stuck=>rw[hmi]at p1;exact p1.elim|ok z g2=>
      rw[hmi,Res.bind_ok]at p1;rw[Res.bind_ok,Res.bind_ok];intro vs H2 μ2 e2 r2 q2;cases q2 with
      |@cons vz _ _ _ hz1 hz2=>
       cases hz2;cases hg2:g2[n]? with
       |none=>rw[hg2]at p1;cases z<;>exact p1.elim|some ob2=>
        rw[hg2]at p1;obtain⟨t',ht',orp⟩:=r2.addr hg2;rw[e2.at hn]at ht';cases ht';cases hz1 with
        |int kk=>
         cases ob2 with
         |lst ds=>
          obtain⟨ws,hH,qs⟩:=orp;dsimp only at p1;by_cases zz:0<=kk/\kk<SZ
          ·rw[Uj zz]at p1;cases hd:ds[kk.toNat]? with
           |none=>rw[hd]at p1;exact p1.elim|some dd=>
            rw[hd]at p1;obtain⟨y,hy,qy⟩:=qs.get hd;have hk:=(Ul.mp hd).1;have hz:(SZ:Int)=1000000:=rfl;have ex:Ext X.K μ2 H2 μ2 (upd H2 t (.lst (ws.eraseIdx kk.toNat))):=Ya hH (by intro _ z;cases z) (by intro _ _ z;cases z);refine⟨t,ws,kk,kk.toNat,y,rfl,rfl,hH,by omega,by omega,?_,hy,p1 _ _ μ2 (e2.trans ex) ?_ (qy.mono ex)⟩
            ·rw[qs.length];have h1:¬kk<0:=by omega
             have h2:kk<ds.length:=by omega
             simp[seqIndex?,h1,h2,zz.1]
            ·exact r2.set (e2.at hn) hH (by intro _ z;cases z) (by intro _ _ z;cases z) ⟨_,Qr,Dens.erase _ (qs.mono ex)⟩
          ·rw[Uo zz]at p1;exact p1.elim
         |_=>exact p1.elim
        |_=>exact p1.elim
    |_=>exact p1.elim
  |_=>exact p1.elim
end
end L3
namespace PySem
open Sem (wp)
namespace F
end F
end PySem
namespace L3
open PySem
end L3
namespace L3
open PySem PySem.Spec PyProof.Rows L2
end L3
namespace L3
open PySem PySem.Spec PyProof.Rows L2
end L3
namespace L2
open PySem PySem.Spec PyProof.Rows
section
variable{κ:Type}[DecidableEq κ]
def valV(kvs:List (κ×V))(k:κ):Option V:=(kvs.find? λkv=>decide (kv.1=k)).map (·.2)
def putK(kvs:List (κ×V))(k:κ)(v:V):List (κ×V):=if (kvs.any λkv=>decide (kv.1=k))=true then kvs.map (λkv=>if kv.1=k then (kv.1,v) else kv) else kvs++[(k,v)]
def Qln(kvs:List (κ×V))(k:κ):List (κ×V):=kvs.filter λkv=>decide (kv.1≠k)
theorem Qha{p:κ×V}{r:List (κ×V)}{k:κ}(e:p.1=k):valV (p::r) k=some p.2:=by simp[valV,Tl,e]
theorem Qhb{p:κ×V}{r:List (κ×V)}{k:κ}(e:¬p.1=k):valV (p::r) k=valV r k:=by simp[valV,Tl,e]
theorem Qf4(kvs:List (κ×V))(k:κ)(v:V):(putK kvs k v).length<=kvs.length+1:=by
 unfold putK;split
 ·rw[Ub];omega
 ·rw[Uh,Uy,Wo];omega
theorem RelO.getD(r:RelO o u)(rd:RelV d d'):RelV (o.getD d) (u.getD d'):=by
 cases o with
 |none=>cases u with
  |none=>exact rd|some _=>exact(show False from r).elim
 |some _=>cases u with
  |none=>exact(show False from r).elim|some _=>exact r
theorem KV.val{kvs:List (κ×V)}{vs:List (κ×Value)}(r:KV kvs vs)(k:κ):RelO (valV kvs k) (valueAt vs k):=by
 unfold KV at r;induction r with
 |nil=>exact True.intro|@cons p q ps qs h t ih=>
  obtain⟨h1,h2⟩:=h;by_cases e:p.1=k
  ·have e':q.1=k:=h1.symm.trans e;have b:valueAt (q::qs) k=some q.2:=by simp[valueAt,Tl,e']
   rw[Qha e,b];exact h2
  ·have e':¬q.1=k:=λz=>e (h1.trans z);have b:valueAt (q::qs) k=valueAt qs k:=by simp[valueAt,Tl,e']
   rw[Qhb e,b];exact ih
theorem KV.any(r:KV kvs vs)(k:κ):(kvs.any λkv=>decide (kv.1=k))=vs.any λkv=>decide (kv.1=k):=by
 unfold KV at r;induction r with
 |nil=>rfl|cons h t ih=>rw[Tr,Tr,ih,h.1]
theorem KV.repl(r:KV kvs vs)(k:κ)(ry:RelV y u):
  KV (kvs.map λkv=>if kv.1=k then (kv.1,y) else kv) (vs.map λkv=>if kv.1=k then (kv.1,u) else kv):=by
 unfold KV at r ⊢;induction r with
 |nil=>exact .nil|@cons p q ps qs h t ih=>
  rw[UC,UC];refine .cons ?_ ih;obtain⟨h1,h2⟩:=h;by_cases e:p.1=k
  ·rw[Uj e,Uj (h1.symm.trans e)];exact⟨h1,ry⟩
  ·rw[Uo e,Uo (λz=>e (h1.trans z))];exact⟨h1,h2⟩
theorem KV.put(r:KV kvs vs)(k:κ)(ry:RelV y u):KV (putK kvs k y) (stored vs k u):=by
 unfold putK stored;rw[r.any k];by_cases e:(vs.any λkv=>decide (kv.1=k))=true
 ·rw[Uj e,Uj e];exact r.repl k ry
 ·rw[Uo e,Uo e];exact By r ⟨rfl,ry⟩
theorem KV.drop(r:KV kvs vs)(k:κ):KV (Qln kvs k) (without vs k):=by
 unfold KV at r ⊢;unfold Qln without;induction r with
 |nil=>exact .nil|@cons p q ps qs h t ih=>
  obtain⟨h1,h2⟩:=h;rw[Tz,Tz];by_cases e:p.1=k
  ·have a:¬decide (p.1≠k)=true:=by simp[e]
   have b:¬decide (q.1≠k)=true:=by simp[h1.symm.trans e]
   rw[Uo a,Uo b];exact ih
  ·have e':¬q.1=k:=λz=>e (h1.trans z);have a:decide (p.1≠k)=true:=by simp[e]
   have b:decide (q.1≠k)=true:=by simp[e']
   rw[Uj a,Uj b];exact .cons ⟨h1,h2⟩ ih
theorem KV.length(r:KV kvs vs):kvs.length=vs.length:=Paired.length r
end
theorem Qpa(r:RelV (kV k) u):(J4 P w).is k u=true:=by
 cases k with
 |inl i=>obtain⟨t,e⟩:=(show ∃t,u=Value.int i t from r);subst e;exact QfR P w i t|inr x=>obtain⟨t,e⟩:=(show ∃t,u=Value.str x t from r);subst e;exact QfS P w x t
section
variable{P:Program}{w:World}{H:Hp}{h:Heap}{a:Addr}
theorem Qqj(ok:HOk P w H h)(e:Rd H a u):ObjOk P w H h a u:=e.ok ok
theorem Qqk(ok:HOk P w H h)(e:Rd H a (.dK kvs)):kvs.length<=sizeLine/\(a==sysModules)=false/\∃vs,KV kvs vs/\h.DictOf (J4 P w) a vs:=
 show ObjOk P w H h a (.dK kvs) from Qqj ok e
theorem Qpb(ok:HOk P w H h)(e:H a=some (.dK kvs)):kvs.length<=sizeLine/\(a==sysModules)=false/\∃vs,KV kvs vs/\h.DictOf (J4 P w) a vs:=Qqk ok (.inl e)
end
section
variable{X:Cx}{pins:LAO}{σ:St}{H:Hp}{s:Shared}{a:Addr}{y v:V}{u r:Value}{o:Option V}{A:Around}{E:VP}
theorem Inv.big(I:Inv X pins σ H s):sysModules<s.heap.objs.size:=by have h:mainGlobals<s.heap.objs.size:=(I.mod.glob.keeps I.bk).lt;exact Nat.lt_trans (by decide) h
theorem Qf5(I:Inv X pins σ H s)(mu:Mut (H a))(hs:Heap.SameBut a s.heap h')(he:∃q,h'.get? a=some q)(new:ObjOk X.prog X.w (upd H a ob) h' a ob):
  Inv X pins σ (upd H a ob) {s with heap:=h',toks:=t'}:=I.write (x:=a) (e:=a) mu (.inl rfl) (λb q hb z=>(hs.2 b hb).trans z) he new
theorem Qpc(z:kvs.length<=sizeLine)(hd:(a==sysModules)=false)(rel:KV kvs vs)(dd:h'.DictOf (J4 P w) a vs):
  ObjOk P w H' h' a (.dK kvs):=⟨z,hd,vs,rel,dd⟩
end
theorem Qec(h:Heap)(hb:sysModules<h.objs.size):ObjOk P w H (h.push {cls:=.type "dict",data:=.dict #[]}) h.objs.size (.dK []):=⟨RM _,U9.mpr (Ne.symm (UP hb)),[],.nil,Heap.DictOf.new h⟩
end L2
namespace L3
open PySem
abbrev DK:=Sum Int Str
def dGet(ks:List (DK×D))(k:DK):Option D:=(ks.find? λp=>decide (p.1=k)).map (·.2)
def dPut(ks:List (DK×D))(k:DK)(v:D):List (DK×D):=if (ks.any λp=>decide (p.1=k))=true then ks.map λp=>if p.1=k then (p.1,v) else p else ks++[(k,v)]
def Qpd(ks:List (DK×D))(k:DK):List (DK×D):=ks.filter λp=>decide (p.1≠k)
end L3
namespace L3
open PySem PySem.Spec PyProof.Rows L2
section
variable{K:Frag}{μ:List Addr}{H:Hp}
theorem KRel.get(r:KRel K μ H kv ks)(k:Key):(valV kv k=none/\dGet ks k=none)\/∃v d,valV kv k=some v/\dGet ks k=some d/\Den K μ H v d:=by
 unfold KRel at r;induction r with
 |nil=>exact .inl ⟨rfl,rfl⟩|@cons p q ps qs h t ih=>
  obtain⟨h1,h2⟩:=h;by_cases e:p.1=k
  ·refine .inr ⟨p.2,q.2,Qha e,?_,h2⟩;unfold dGet;rw[Tl,UB (h1.symm.trans e)];rfl
  ·have e':dGet (q::qs) k=dGet qs k:=by unfold dGet;rw[Tl,Uu (λz=>e (h1.trans z))]
   rw[Qhb e,e'];exact ih
theorem KRel.put(r:KRel K μ H kv ks)(k:Key)(h:Den K μ H v d):KRel K μ H (putK kv k v) (dPut ks k d):=by
 have ha:(kv.any λp=>decide (p.1=k))=ks.any λp=>decide (p.1=k):=by
  unfold KRel at r;induction r with
  |nil=>rfl|cons h t ih=>rw[Tr,Tr,ih,h.1]
 unfold putK dPut;rw[ha];by_cases e:(ks.any λp=>decide (p.1=k))=true
 ·rw[Uj e,Uj e];clear ha e;unfold KRel at r ⊢;induction r with
  |nil=>exact .nil|@cons p q ps qs hp t ih=>
   rw[UC,UC];refine .cons ?_ ih;obtain⟨h1,h2⟩:=hp;by_cases e:p.1=k
   ·rw[Uj e,Uj (h1.symm.trans e)];exact⟨h1,h⟩
   ·rw[Uo e,Uo (λz=>e (h1.trans z))];exact⟨h1,h2⟩
 ·rw[Uo e,Uo e];exact By r ⟨rfl,h⟩
theorem KRel.drop(r:KRel K μ H kv ks)(k:Key):KRel K μ H (Qln kv k) (Qpd ks k):=by
 unfold KRel at r ⊢;unfold Qln Qpd;induction r with
 |nil=>exact .nil|@cons p q ps qs h t ih=>
  obtain⟨h1,h2⟩:=h;rw[Tz,Tz,<-h1];by_cases e:decide (p.1≠k)=true
  ·rw[Uj e,Uj e];exact .cons ⟨h1,h2⟩ ih
  ·rw[Uo e,Uo e];exact ih
end
end L3
namespace L3
open PySem
def Qjw(x y:D)(g:G):Res D:=match x,y with
 |.int i,.int j=>.ok (.int (if j<i then j else i)) g|_,_=>.stuck
def J7(o e:ME):ME:=λσ g=>(o σ g).bind λx g1=>match x with
 |.ref n=>(match g1[n]? with
  |some (.lst _)=>(e σ g1).bind λy g2=>(match y with
   |.ref m=>(match g2[n]?,g2[m]? with
    |some (.lst ds),some (.lst es)=>if n≠m/\ds.length+es.length<=SZ then .ok .non (g2.set n (.lst (ds++es))) else .stuck
    |_,_=>.stuck)
   |_=>.stuck)
  |_=>.stuck)
 |_=>.stuck
end L3
namespace L3
open PySem PySem.Spec PyProof.Rows L2
section
variable{X:Cx}
theorem Qlo:IxR X (λx y H Q=>∃a kvs k v,x=.ref a/\y=kV k/\H a=some (.dK kvs)/\valV kvs k=some v/\Q v H):=by intro value slice pins s σ H x y v u Q I rx ry h hs;obtain⟨a,kvs,k,w,rfl,rfl,e,l,q⟩:=h;cases rx;obtain⟨z,hd,vs,rel,dd⟩:=Qpb I.hok e;obtain⟨w',hw,rw'⟩:=RelO.some_of (v:=w) (o:=valueAt vs k) (by rw[<-l];exact rel.val k);exact tail_any dd.typeIs PySem.F.slot_dict_getitem.lookup (wpAny_getItem_of (Qpa ry) dd.mapOf hw ⟨_,H,I.tok _,rw',q⟩) hs
end
section
variable{X:Cx}{ca:Nat->Addr}{a b e f o:Expr}{ma mb me mf mo:ME}{p pos apos:Pos}
theorem KRel.keys{K:Frag}{μ:List Addr}{H:Hp}{kv:List (Key×V)}{ks:List (Key×D)}(r:KRel K μ H kv ks):kv.map (·.1)=ks.map (·.1):=by
 unfold KRel at r;induction r with
 |nil=>rfl|cons h t ih=>rw[UC,UC,ih,h.1]
theorem Qpe{x:Str}{id:String}{r:List V->Hp->VK->Prop}{h:D->D->G->Res D}(hc:∀pn Φ,CallR (xat X ca pn Φ) (.builtin id) r)(hm:X.mg x=none)(hv:bootBuiltins x=some (.builtin id))(hp:∀(Φ:XS) (σ:L2.St) (H:Hp) (μ:List Addr) (g:G) (y z:V) (d c:D) (Q:VK),GRep X.K ca μ H g->Den X.K μ H y d->Den X.K μ H z c->Post X.K ca Φ σ Q H μ (h d c g)->r [y,z] H Q)(he:PE3 ca X e me)(hf:PE3 ca X f mf)(hg:Gl X x)(hn:x ≠"__name__")(hdb:(x==("__debug__" : Str))=false)(hs:starEach [e,f] X.env=(false,eval e X.env)::starEach [f] X.env)(hs2:starEach [f] X.env=(false,eval f X.env)::starEach [] X.env)(hpl:(backTo pos (starEach [f] X.env)).any (·.1)=false):PE3 ca X (.Call (.Name x p) [e,f] [] pos) (mOp2 h me mf):=
 λpn Φ=>Zi (Qco (X:=xat X ca pn Φ) (hc pn Φ) hg hm hv (Jv he (Jv hf Qh hs2) hs pn Φ) hn hdb hs hpl) λσ H Q hQ=>by
  obtain⟨σ3,g,μ,R,q⟩:=hQ;refine⟨σ3,g,μ,R,?_⟩;unfold mOp2 at q;unfold Qa mNil;cases hm:me σ3 g with
  |raise _ _=>rw[hm]at q;exact q|stuck=>rw[hm]at q;exact q.elim|ok d g1=>
   rw[hm,Res.bind_ok]at q;rw[Res.bind_ok];cases hm2:mf σ3 g1 with
   |raise _ _=>rw[hm2]at q;exact q|stuck=>rw[hm2]at q;exact q.elim|ok c g2=>
    rw[hm2,Res.bind_ok]at q;rw[Res.bind_ok,Res.bind_ok,Res.bind_ok];intro vs H1 μ1 e1 r1 q1;cases q1 with
    |cons h1 h2=>cases h2 with
     |cons h2 h3 =>cases h3;exact hp Φ σ H1 μ1 g2 _ _ d c Q r1 h1 h2 (q.go e1)
theorem Qpf(hc:X.calm=true)(hm:X.mg "min"=none)(he:PE3 ca X e me)(hf:PE3 ca X f mf)(hg:Gl X "min":=by rfl)(hs:starEach [e,f] X.env=(false,eval e X.env)::starEach [f] X.env:=by rfl)(hs2:starEach [f] X.env=(false,eval f X.env)::starEach [] X.env:=by rfl)(hpl:(backTo pos (starEach [f] X.env)).any (·.1)=false:=by rfl):
  PE3 ca X (.Call (.Name "min" p) [e,f] [] pos) (mOp2 Qjw me mf):=
 Qpe (λpn Φ=>QiC (X:=xat X ca pn Φ) hc) hm boot_min (λΦ σ H μ g y z d c Q r q1 q2 pp=>by
  unfold Qjw at pp;cases q1 with
  |int i=>
   cases q2 with
   |int j=>exact⟨i,j,rfl,pp _ H μ .refl r (.int _)⟩|_=>exact pp.elim
  |_=>cases q2<;>exact pp.elim) he hf hg (by decide) (by decide) hs hs2 hpl
theorem Qed(ho:PE3 ca X o mo)(he:PE3 ca X e me)(hbase:attributeBase o "extend" X.env (eval o X.env)=eval o X.env:=by rfl)(hfew:((backTo pos (starEach [e] X.env)).all (λx=>!x.1)&&(backToKw pos (keywordEach [] X.env)).all (λx=>x.1.isSome)&&decide ([e].length+([]:List Keyword).length+(if ([]:List Keyword).isEmpty then 0 else 1)<30))=true:=by rfl)(hline:(apos.endLine==pos.line)=true:=by rfl)(hs:starEach [e] X.env=(false,eval e X.env)::starEach [] X.env:=by rfl)(hplain:(backTo pos (starEach [] X.env)).any (·.1)=false:=by rfl):
  PE3 ca X (.Call (.Attribute o "extend" apos) [e] [] pos) (J7 mo me):=
 λpn Φ=>Zi (Qk3 (X:=xat X ca pn Φ) TK PySem.F.slot_list_extend PySem.F.type_list_extend QiM (ho pn Φ) (Jv he Qh hs pn Φ) hbase hfew hline hs hplain) λσ H Q ⟨σ3,g,μ,R,q⟩=>Q2 (Ju R q) λx H1 hQ=>by
  obtain⟨d,g1,μ1,e1,R1,q1,p1⟩:=hQ;cases q1 with
  |@ref n t hn=>
   dsimp only at p1;cases hgn:g1[n]? with
   |none=>rw[hgn]at p1;exact p1.elim|some ob=>
    rw[hgn]at p1;obtain⟨t',ht',orp⟩:=R1.g.addr hgn;rw[hn]at ht';cases ht';cases ob with
    |lst ds0=>
     obtain⟨vs0,hH0,_⟩:=orp;dsimp only at p1;refine⟨.inl ⟨rfl,_,.of hH0⟩,σ3,g1,μ1,R1,?_⟩;unfold Qa mNil;cases hm:me σ3 g1 with
     |raise _ _=>rw[hm]at p1;exact p1|stuck=>rw[hm]at p1;exact p1.elim|ok y g2=>
      rw[hm,Res.bind_ok]at p1;rw[Res.bind_ok,Res.bind_ok];intro vs H2 μ2 e2 r2 q2;cases q2 with
      |cons h1 h2=>
       cases h2;cases h1 with
       |@ref m c hmm=>
        dsimp only at p1;cases hg2:g2[n]? with
        |none=>rw[hg2]at p1;exact p1.elim|some ob2=>
         cases hg3:g2[m]? with
         |none=>rw[hg2,hg3]at p1;cases ob2<;>exact p1.elim|some ob3=>
          rw[hg2,hg3]at p1;obtain⟨t',ht',orp⟩:=r2.addr hg2;rw[e2.at hn]at ht';cases ht';obtain⟨c',hc',orp3⟩:=r2.addr hg3;rw[hmm]at hc';cases hc';cases ob2 with
          |lst ds=>
           cases ob3 with
           |lst es=>
            obtain⟨ws,hH,qs⟩:=orp;obtain⟨zs,hH3,qz⟩:=orp3;dsimp only at p1;by_cases z:n≠m/\ds.length+es.length<=SZ
            ·rw[Uj z]at p1;have ex:Ext X.K μ2 H2 μ2 (upd H2 t (.lst (ws++zs))):=Ya hH (by intro _ z;cases z) (by intro _ _ z;cases z);refine⟨t,c,ws,zs,rfl,rfl,hH,hH3,by rw[qs.length,qz.length];exact Ue z.2 Yk,p1 _ _ μ2 (e2.trans ex) ?_ .non⟩;exact r2.set (e2.at hn) hH (by intro _ z;cases z) (by intro _ _ z;cases z) ⟨_,Qr,(qs.mono ex).append (qz.mono ex)⟩
            ·rw[Uo z]at p1;exact p1.elim
           |_=>exact p1.elim
          |_=>cases ob3<;>exact p1.elim
       |_=>exact p1.elim
    |_=>exact p1.elim
  |_=>exact p1.elim
end
end L3
namespace L3
open PySem
abbrev SKd:=Sum (List Int) (List Int×Int×Int×List Int)
def nGet(ks:List (SKd×D))(k:SKd):Option D:=(ks.find? λp=>decide (p.1=k)).map (·.2)
def nPut(ks:List (SKd×D))(k:SKd)(v:D):List (SKd×D):=if (nGet ks k).isSome then ks.map λp=>if p.1=k then (p.1,v) else p else ks++[(k,v)]
def JX(τ:Bool):ME:=λ_ g=>.ok (.ref g.length) (g++[.dcn τ []])
def nAt(x y:D)(g:G)(f:List (SKd×D)->SKd->Res D):Res D:=match y with
 |.ref n=>(match g[n]? with
  |some (.dcn τ ks)=>(match skOf τ x with
   |some k=>f ks k|none=>.stuck)
  |_=>.stuck)
 |_=>.stuck
def ZX(x y:D)(g:G):Res D:=nAt x y g λks k=>.ok (.bl (!(nGet ks k).isSome)) g
def Qb1(o k v:ME):MS:=λσ g=>match v σ g with
 |.ok y g1=>(match o σ g1 with
  |.ok (.ref n) g2=>(match k σ g2 with
   |.ok d g3=>(match g3[n]? with
    |some (.dcn τ ks)=>(match skOf τ d with
     |some k=>if ks.length<SZ then .nx σ (g3.set n (.dcn τ (nPut ks k y))) else .stuck
     |none=>.stuck)
    |_=>.stuck)
   |.raise e g'=>.raise e σ g'|_=>.stuck)
  |.raise e g'=>.raise e σ g'|_=>.stuck)
 |.raise e g'=>.raise e σ g'|.stuck=>.stuck
end L3
namespace L3
open PySem PySem.Spec PyProof.Rows L2
section
variable{X:Cx}{pins:LAO}{σ:L2.St}{H:Hp}{s:Shared}{μ:List Addr}
theorem Qlp(I:Inv X pins σ H s)(h:SqT X.K H a vs):∃its,Vals vs its/\NK.Tp s.heap a its:=by obtain⟨its,rv,⟨o,ho,hc,n,hd⟩,_⟩:=I.tuple h;exact⟨its,rv,o,_,n,ho,hc,hd,by simp⟩
theorem Qjx:∀{ds:List D}{vs:List V}{its:List Value}{ks:List Int},Dens X.K μ H vs ds->Vals vs its->rowI ds=some ks->NK.Al ((NK.intV X.prog X.w).is s.heap) ks its
 |[],_,_,_,.nil,.nil,h=>by cases h;exact .nil
 |.int i::r,_,_,ks,.cons q qs,.cons rv rvs,h=>by have h:(rowI r).map (i :: ·)=some ks:=h;obtain⟨js,h1,rfl⟩:=U8.mp h;cases q;obtain⟨t,rfl⟩:=rv;exact .cons (show Value.isInt i (.int i t)=true by simp[Value.isInt]) (Qjx qs rvs h1)
theorem Qf6(I:Inv X pins σ H s)(q:Den X.K μ H v (.tup ds))(rv:RelV v u)(h:rowI ds=some ks):(NK.lstV (NK.intV X.prog X.w)).is s.heap ks u:=by
 cases q with
 |tup ht hs =>cases rv;obtain⟨its,r1,r2⟩:=Qlp I ht;exact⟨_,its,rfl,r2,Qjx hs r1 h⟩
theorem Yl(I:Inv X pins σ H s)(q:Den X.K μ H v d)(rv:RelV v u)(h:skOf τ d=some k):(NK.tagV X.prog X.w τ).is s.heap k u:=by
 unfold skOf at h;split at h
 ·obtain⟨g,h1,rfl⟩:=U8.mp h;exact⟨rfl,Qf6 I q rv h1⟩
 ·rename_i a p' q' b;cases h1:rowI a with
  |none=>rw[h1]at h;cases h|some x=>
   cases h2:rowI b with
   |none=>rw[h1,h2]at h;cases h|some y=>
    rw[h1,h2]at h;cases h;cases q with
    |tup ht hs=>
     cases rv;obtain⟨its,r1,r2⟩:=Qlp I ht;cases hs with
     |cons q1 hs=>cases hs with
      |cons q2 hs=>cases hs with
       |cons q3 hs=>cases hs with
        |cons q4 hs=>
         cases hs;cases q2;cases q3;cases r1 with
         |cons v1 r1=>cases r1 with
          |cons v2 r1=>cases r1 with
           |cons v3 r1=>cases r1 with
            |cons v4 r1 =>cases r1;obtain⟨t2,rfl⟩:=v2;obtain⟨t3,rfl⟩:=v3;exact⟨rfl,_,_,_,_,_,rfl,r2,Qf6 I q1 v1 h1,(show Value.isInt p' (.int p' t2)=true by simp[Value.isInt]),(show Value.isInt q' (.int q' t3)=true by simp[Value.isInt]),Qf6 I q4 v4 h2⟩
 ·cases h
theorem NRel.mem{K:Frag}{τ:Bool}{xs:List (NK.SK×Addr×Value)}{ks:List (NK.SK×D)}(h:NRel K τ μ H xs ks):∀x∈xs,∃d,skOf τ d=some x.1/\Den K μ H (.ref x.2.1) d:=by
 unfold NRel at h;induction h with
 |nil=>intro x hx;cases hx|cons a _ ih=>intro x hx;rcases Uv.mp hx with rfl|z;exact a.2.1;exact ih x z
theorem NRel.get{K:Frag}{τ:Bool}{xs:List (NK.SK×Addr×Value)}{ks:List (NK.SK×D)}(h:NRel K τ μ H xs ks)(k:NK.SK):(atKey xs k=none/\nGet ks k=none)\/∃p d v,atKey xs k=some p/\nGet ks k=some d/\RelV v p.2/\Den K μ H v d:=by
 unfold NRel at h;induction h with
 |nil=>exact .inl ⟨rfl,rfl⟩|@cons x q l1 l2 a _ ih=>
  unfold atKey nGet at ih ⊢;rw[Tl,Tl];obtain⟨e,_,v,r1,r2⟩:=a;by_cases hk:x.1=k
  ·rw[UB hk,UB (e ▸ hk)];exact .inr ⟨_,_,v,rfl,rfl,r1,r2⟩
  ·rw[Uu hk,Uu (λz=>hk (e.trans z))];exact ih
theorem NRel.isSome{K:Frag}{τ:Bool}{xs:List (NK.SK×Addr×Value)}{ks:List (NK.SK×D)}(h:NRel K τ μ H xs ks)(k:NK.SK):(atKey xs k).isSome=(nGet ks k).isSome:=by rcases h.get k with⟨a,b⟩|⟨p,d,v,a,b,_⟩<;>rw[a,b]<;>rfl
theorem NRel.put{K:Frag}{τ:Bool}{xs:List (NK.SK×Addr×Value)}{ks:List (NK.SK×D)}{k:NK.SK}{a:Addr}{u:Value}{v:V}{dk dv:D}(h:NRel K τ μ H xs ks)(hk:skOf τ dk=some k)(hd:Den K μ H (.ref a) dk)(rv:RelV v u)(hv:Den K μ H v dv):NRel K τ μ H (storedH xs k a u) (nPut ks k dv):=by
 have mp:NRel K τ μ H (xs.map (putAt k u)) (ks.map λp=>if p.1=k then (p.1,dv) else p):=by
  unfold NRel at h ⊢;induction h with
  |nil=>exact .nil|@cons x q l1 l2 b _ ih=>
   refine .cons ?_ ih;obtain⟨e,b2,b3⟩:=b;unfold putAt;dsimp only;by_cases z:x.1=k
   ·rw[Uj z,Uj (e ▸ z)];exact⟨e,b2,v,rv,hv⟩
   ·rw[Uo z,Uo (λw=>z (e.trans w))];exact⟨e,b2,b3⟩
 unfold storedH nPut;rw[h.isSome k];split
 ·exact mp
 ·exact By h ⟨rfl,⟨dk,hk,hd⟩,v,rv,hv⟩
theorem Qee{τ:Bool}{t:Addr}{xs:List (NK.SK×Addr×Value)}{ks:List (NK.SK×D)}(I:Inv X pins σ H s)(e:H t=some (ND t xs))(r:NRel X.K τ μ H xs ks)(hn:(xs.map (·.1)).Nodup):s.heap.DictOfH (NK.tagK X.prog X.w τ) t xs:=by obtain⟨⟨o,es,ep,ho,hc,hd,he⟩,_⟩:=(show ObjOk X.prog X.w H s.heap t (.ext (NK.DObj t xs)) from I.hok t _ e);refine⟨o,es,ep,ho,hc,hd,by rw[he];exact NK.ents_eq _ _ _ _,λx hx=>?_,hn⟩;obtain⟨d,h1,h2⟩:=r.mem x hx;exact Yl I h2 rfl h1
theorem Qay{A:Around}{τ:Bool}(hu:A.units+16<cLine):(NK.tagK X.prog X.w τ).room A.in1:=show A.units+1+2<cLine by omega
def rN(K:Frag)(ca:Nat->Addr)(x y:V)(H:Hp)(Q:Bool->G->List Addr->Addr->List (NK.SK×D)->NK.SK->Prop):Prop:=∃(g:G)(μ:List Addr)(dx:D)(n:Nat)(t:Addr)(τ:Bool)(ks:List (NK.SK×D))(k:NK.SK),GRep K ca μ H g/\Den K μ H x dx/\skOf τ dx=some k/\y=.ref t/\μ[n]?=some t/\g[n]?=some (.dcn τ ks)/\Q τ g μ t ks k
theorem QaQ{K:Frag}{τ:Bool}{x:V}{d:D}{k:NK.SK}(q:Den K μ H x d)(h:skOf τ d=some k):∃a,x=.ref a:=by
 unfold skOf at h;split at h
 ·cases q;exact⟨_,rfl⟩
 ·cases q;exact⟨_,rfl⟩
 ·cases h
end
section
variable{X:Cx}{ca:Nat->Addr}
theorem Qjy(hu:X.A.units+16<cLine):OpR X (compareOp .NotIn) (λx y H Q=>rN X.K ca x y H λ_ _ _ _ ks k=>Q (.bl (!(nGet ks k).isSome)) H):=by intro pins s σ H x y v u Q I rx ry h;obtain⟨g,μ,dx,n,t,τ,ks,k,r,q,hk,rfl,hn,hg,hQ⟩:=h;obtain⟨a,rfl⟩:=QaQ q hk;cases rx;cases ry;obtain⟨t',ht',xs,hH,nr,nd,hs⟩:=r.addr hg;rw[hn]at ht';cases ht';refine wpAny_notIn_heap (knd:=NK.tagK X.prog X.w τ) (Qay hu) (Yl I q rfl hk) hs (Qee I hH nr nd) ?_;rw[nr.isSome k];exact⟨.bl _,H,I.tok _,rfl,hQ⟩
theorem Qjz(x:NK.DObj a xs h):ObjOk P w H' h a (ND a xs):=by refine show NK.DObj a xs h/\_ from ⟨x,let ⟨o,_,_,ho,_⟩:=x;⟨o,ho⟩,λh1 h2 y k=>?_⟩;obtain⟨o,es,ep,ho,r⟩:=y;exact⟨o,es,ep,k o ho,r⟩
theorem Qql(hu:X.A.units+16<cLine):PSet X (λo i v H Q=>rN X.K ca i o H λτ _ μ t ks k=>∃dv,Den X.K μ H v dv/\ks.length<SZ/\∀xs',NRel X.K τ μ (upd H t (ND t xs')) xs' (nPut ks k dv)->(xs'.map (·.1)).Nodup->(t==sysModules)=false->Q (upd H t (ND t xs'))):=by intro pins s σ H o i v ov iv u Q I ro ri rv h;obtain⟨g,μ,dx,n,t,τ,ks,k,r,q,hk,rfl,hn,hg,dv,hv,hz,hQ⟩:=h;obtain⟨a,rfl⟩:=QaQ q hk;cases ro;cases ri;obtain⟨t',ht',xs,hH,nr,nd,hs⟩:=r.addr hg;rw[hn]at ht';cases ht';have dd:=Qee I hH nr nd;have hl:xs.length=ks.length:=Paired.length nr;refine wpAny_setItem_heap (hsz:=by rw[hl];exact RV (Ux hz Yk)) (knd:=NK.tagK X.prog X.w τ) (Qay hu) (Yl I q rfl hk) dd λh' dd' hs'=>?_;obtain⟨o,es,ep,ho,hc,hd,he,_,nd'⟩:=dd';have ex:Ext X.K μ H μ (upd H t (ND t (storedH xs k a u))):=Ya hH (λ_ z=>by unfold ND at z;cases z) (λ_ _ z=>by unfold ND at z;cases z);refine⟨_,Qf5 I (by rw[hH];exact True.intro) hs' ⟨o,ho⟩ (Qjz ⟨o,es,ep,ho,hc,hd,by rw[he];exact(NK.ents_eq _ _ _ _).symm⟩),hQ _ ?_ nd' hs⟩;exact(nr.mono ex).put hk (q.mono ex) rv (hv.mono ex)
theorem Qlq:PE X (.Dict [] [] pos) (λ_ H Q=>∀p,H p=none->(p==sysModules)=false->Q (.ref p) (upd H p (ND p []))):=λpins s σ H Q I h=>by obtain⟨_,hd,vs,rel,o,es,ep,ho,hc,hdat,_,hp,_⟩:=(show ObjOk X.prog X.w H _ _ (.dK []) from Qec s.heap I.big);cases rel;have he:es.toList=[]:=RI.mp hp.length;exact wpAny_Dict_empty ⟨.ref s.heap.objs.size,_,I.laid (a:=s.heap.objs.size) (o:=ND s.heap.objs.size []) (t':=s.toks) (λ_ _ q=>Ug _ q) (Um _) (Qjz ⟨o,es,ep,ho,hc,hdat,he⟩),rfl,h _ (I.hok.fresh (Um _)) hd⟩
end
section
variable{X:Cx}{ca:Nat->Addr}{a b o e:Expr}{ma mb mo me:ME}{pos:Pos}{k:Nat}
theorem QcO(τ:Bool):PE3 ca X (.Dict [] [] pos) (JX τ):=λpn Φ=>Zi (Qlq (X:=xat X ca pn Φ)) λσ H Q ⟨σ3,g,μ,R,q⟩=>λt ht hs=>q _ _ (μ++[t]) (QD ht) (R.g.push ht ⟨[],Qr,.nil,.nil,hs⟩) (.ref (by rw[<-R.g.len];simp))
theorem Qpg{K:Frag}{Φ:XS}{σ:L2.St}{H:Hp}{μ:List Addr}{g:G}{x y:V}{dx dy:D}{Q:VK}{f:List (NK.SK×D)->NK.SK->Res D}(r:GRep K ca μ H g)(qx:Den K μ H x dx)(qy:Den K μ H y dy)(p:Post K ca Φ σ Q H μ (nAt dx dy g f)):rN K ca x y H λ_ g' μ' _ ks k=>g'=g/\μ'=μ/\Post K ca Φ σ Q H μ (f ks k):=by
 unfold nAt at p;cases qy with
 |@ref n t hn=>
  dsimp only at p;cases hg:g[n]? with
  |none=>rw[hg]at p;exact p.elim|some ob=>
   rw[hg]at p;cases ob with
   |dcn τ ks=>
    dsimp only at p;cases hk:skOf τ dx with
    |none=>rw[hk]at p;exact p.elim|some k=>rw[hk]at p;exact⟨g,μ,dx,n,t,τ,ks,k,r,qx,hk,rfl,hn,hg,rfl,rfl,p⟩
   |_=>exact p.elim
 |_=>exact p.elim
theorem rN.imp{K:Frag}{x y:V}{H:Hp}{P Q:Bool->G->List Addr->Addr->List (NK.SK×D)->NK.SK->Prop}(h:rN K ca x y H P)(i:∀τ g μ t ks k,GRep K ca μ H g->P τ g μ t ks k->Q τ g μ t ks k):rN K ca x y H Q:=by obtain⟨g,μ,dx,n,t,τ,ks,k,r,q1,q2,q3,q4,q5,q6⟩:=h;exact⟨g,μ,dx,n,t,τ,ks,k,r,q1,q2,q3,q4,q5,i _ _ _ _ _ _ r q6⟩
theorem Qf7{K:Frag}:Jc K ca (λx y H Q=>rN K ca x y H λ_ _ _ _ ks k=>Q (.bl (!(nGet ks k).isSome)) H) ZX:=by intro Φ σ H μ g x y dx dy Q r qx qy p;exact(Qpg r qx qy p).imp λτ g' μ' t ks k r' ⟨e1,e2,p⟩=>by subst e1 e2;exact p _ H μ' .refl r' (.bl _)
theorem Qa4(hr:Room k X.A)(ha:PE3 ca X a ma)(hb:PE3 ca X b mb)(hm:behindInMarks .NotIn b=false:=by rfl):PT3 ca X (.Compare a [.NotIn] [b] pos) (Ql (mOp2 ZX ma mb)):=JI (λpn Φ=>Qjy (X:=xat X ca pn Φ) (by have:=hr.units;show X.A.units+16<cLine;omega)) Qf7 ha hb hm
theorem QjA{i:Expr}{mi:ME}{pos':Pos}(hr:Room k X.A)(ho:PE3 ca X o mo)(hi:PE3 ca X i mi)(he:PE3 ca X e me)(hs:swapsWithSole [.Subscript o i pos'] e pos.line X.env=pure false:=by rfl)(hw:swappedStores [.Subscript o i pos'] e X.env=pure none:=by rfl)(h1:(assignEach [.Subscript o i pos'] X.env).map (·.2)=[assign (.Subscript o i pos') X.env]:=by rfl)(ha:∀v,assign (.Subscript o i pos') X.env v=(do
   let ov <-holding [v] (eval o X.env)
   let iv <-holding [v,ov] (eval i X.env)
   standAt pos'
   holding [v,ov,iv] (setItem ov iv v)
   release [v,ov,iv] []):=by intro _;rfl):PS3 ca X (.Assign [.Subscript o i pos'] e pos) (Qb1 mo mi me):=
 λpn Φ=>YI (Qiw (X:=xat X ca pn Φ) (he pn Φ) (QlZ (X:=xat X ca pn Φ) (ho pn Φ) (hi pn Φ) (Qql (ca:=ca) (by have:=hr.units;show X.A.units+16<cLine;omega)) ha) hs hw h1) λE σ H ⟨σ3,g,μ,R,p⟩=>⟨σ3,g,μ,R,by
  unfold Qb1 at p;cases hm:me σ3 g with
  |ok y g1=>
   rw[hm]at p;dsimp only at p;intro vy H1 μ1 e1 r1 q1;refine⟨σ3,g1,μ1,R.go e1 r1,?_⟩;cases hm2:mo σ3 g1 with
   |ok d g2=>
    rw[hm2]at p;intro vx H2 μ2 e2 r2 q2;cases q2 with
    |@ref n a hn=>
     dsimp only at p;refine⟨σ3,g2,μ2,R.go (e1.trans e2) r2,?_⟩;cases hm3:mi σ3 g2 with
     |ok di g3=>
      rw[hm3]at p;intro vi H3 μ3 e3 r3 q3;dsimp only at p;cases hg:g3[n]? with
      |none=>rw[hg]at p;exact p.elim|some ob=>
       rw[hg]at p;cases ob with
       |dcn τ ks=>
        dsimp only at p;cases hk:skOf τ di with
        |none=>rw[hk]at p;exact p.elim|some k=>
         rw[hk]at p;dsimp only at p;by_cases z:ks.length<SZ
         ·rw[Uj z]at p;refine⟨g3,μ3,di,n,a,τ,ks,k,r3,q3,hk,rfl,e3.at hn,hg,y,(q1.mono e2).mono e3,z,λxs' nr nd hsm=>?_⟩;obtain⟨a',ha',xs,hH,_⟩:=r3.addr hg;rw[e3.at hn]at ha';cases ha';have ex:Ext X.K μ3 H3 μ3 (upd H3 a (ND a xs')):=Ya hH (λ_ z=>by unfold ND at z;cases z) (λ_ _ z=>by unfold ND at z;cases z);refine p σ _ μ3 (((e1.trans e2).trans e3).trans ex) ((R.go ((e1.trans e2).trans e3) r3).go ex ?_);exact r3.set (e3.at hn) hH (λ_ z=>by unfold ND at z;cases z) (λ_ _ z=>by unfold ND at z;cases z) ⟨xs',Qr,nr,nd,hsm⟩
         ·rw[Uo z]at p;exact p.elim
       |_=>exact p.elim
     |raise _ _=>rw[hm3]at p;exact(RaP.stmt R p).go (e1.trans e2)|stuck=>rw[hm3]at p;exact p
    |_=>exact p.elim
   |raise _ _=>rw[hm2]at p;exact(RaP.stmt R p).go e1|stuck=>rw[hm2]at p;exact p
  |raise _ _=>rw[hm]at p;exact RaP.stmt R p|stuck=>rw[hm]at p;exact p⟩
end
end L3
namespace L3
open PySem
def QjB(o k x:ME)(f:Nat->Bool->List (SKd×D)->SKd->D->G->Res D):ME:=λσ g=>(o σ g).bind λa g1=>match a with
 |.ref n=>(match g1[n]? with
  |some (.dcn _ _)=>(k σ g1).bind λy g2=>(x σ g2).bind λz g3=>(match g3[n]? with
   |some (.dcn τ ks)=>(match skOf τ y with
    |some k=>f n τ ks k z g3|none=>.stuck)
   |_=>.stuck)
  |_=>.stuck)
 |_=>.stuck
def Qhc(o k x:ME):ME:=QjB o k x λ_ _ ks k z g=>.ok ((nGet ks k).getD z) g
def Jg(o k x:ME):ME:=QjB o k x λn τ ks k z g=>if ks.length<SZ then (match nGet ks k with
 |some v=>.ok v g|none=>.ok z (g.set n (.dcn τ (ks++[(k,z)])))) else .stuck
end L3
namespace L3
open PySem PySem.Spec PyProof.Rows L2
section
variable{X:Cx}{ca:Nat->Addr}{o e:Expr}{es:List Expr}{to:TE}{t:TA}{name:Str}{apos cpos:Pos}{id:String}{r:V->List V->Hp->VK->Prop}
theorem Qph(slot:Slot "dict" name id)(hty:typeOf (.builtin id)=pure (.type "method_descriptor"))(hm:MtR X id r)(ho:PE X o to)(ha:PA X (e::es) t)(hbase:attributeBase o name X.env (eval o X.env)=eval o X.env)(hfew:((backTo cpos (starEach (e::es) X.env)).all (λx=>!x.1)&&(backToKw cpos (keywordEach [] X.env)).all (λx=>x.1.isSome)
   && decide ((e::es).length+([]:List Keyword).length+(if ([]:List Keyword).isEmpty then 0 else 1)<30))=true)(hline:(apos.endLine==cpos.line)=true)(hs:starEach (e::es) X.env=(false,eval e X.env)::starEach es X.env)(hplain:(backTo cpos (starEach es X.env)).any (·.1)=false):
  PE X (.Call (.Attribute o name apos) (e::es) [] cpos) (λσ H Q=>to σ H λx H1=>(∃p xs,x=.ref p/\H1 p=some (ND p xs))/\t σ H1 λvs H2=>r x vs H2 Q):=by
 intro pins s σ H Q I h;refine wpAny_Call_method_late hbase hfew hline rfl (thn (ho pins s σ H _ I h) λv s1 ⟨x,H1,I1,r1,ty,q1⟩=>?_);obtain⟨p,xs,rfl,hp⟩:=ty;have r1':=r1;cases r1;obtain⟨⟨ob,ens,ep,hob,hc,hd,he⟩,_⟩:=(show ObjOk X.prog X.w H1 s1.heap p (.ext (NK.DObj p xs)) from I1.hok p _ hp);refine⟨"dict",id,WT,slot,hty,⟨ob,hob,hc.1⟩,λa e=>by cases e;exact⟨ob,hob,hc.2.1⟩,?_⟩;have hA:=ha cpos pins s1 σ H1 _ I1 q1;rw[hs]at hA ⊢;refine Ri (by show(false||(backTo cpos (starEach es X.env)).any (·.1))=false;rw[hplain]<;>rfl) (Calls.evalArgs_plain ?_);exact thn hA λus s2 ⟨vs,H2,I2,r2,q2⟩=>hm pins s2 σ H2 _ vs _ us Q I2 r1' r2 q2
abbrev Qpi(K:Frag)(ca:Nat->Addr):V->List V->Hp->VK->Prop:=λx vs H Q=>∃kv dv,vs=[kv,dv]/\rN K ca kv x H λ_ _ μ _ ks k=>(∀d v,nGet ks k=some d->Den K μ H v d->Q v H)/\(nGet ks k=none->Q dv H)
abbrev Qpj(K:Frag)(ca:Nat->Addr):V->List V->Hp->VK->Prop:=λx vs H Q=>∃kv dv,vs=[kv,dv]/\rN K ca kv x H λτ _ μ t ks k=>ks.length<SZ/\(∀d v,nGet ks k=some d->Den K μ H v d->Q v H)/\(nGet ks k=none->∃dd,Den K μ H dv dd/\∀xs',NRel K τ μ (upd H t (ND t xs')) xs' (ks++[(k,dd)])->(xs'.map (·.1)).Nodup->(t==sysModules)=false->Q dv (upd H t (ND t xs')))
theorem Qnn(hu:X.A.units+16<cLine):MtR X "dict.get" (Qpi X.K ca):=by
 intro pins s σ H x vs v us Q I rx rv h;obtain⟨kv,dv,rfl,g,μ,dx,n,t,τ,ks,k,r,q,hk,rfl,hn,hg,hQ,hQ2⟩:=h;obtain⟨a,rfl⟩:=QaQ q hk;cases rx;obtain⟨u1,u2,rfl,ru1,ru2⟩:=rv.two;cases ru1;obtain⟨t',ht',xs,hH,nr,nd,hs⟩:=r.addr hg;rw[hn]at ht';cases ht';have dd:=Qee I hH nr nd;refine Ww Bm dd.typeIs PySem.F.entry_dict_get (PySem.F.args_dict_get_3 _ _ _) (meetsH_dict_get_default (NK.tagK X.prog X.w τ) t a hs u2) ⟨Qay hu,k,xs,Yl I q rfl hk,dd,?_⟩;rcases nr.get k with⟨a1,b1⟩|⟨p,d',v,a1,b1,rv',dv'⟩
 ·rw[a1];exact⟨dv,H,I.tok _,ru2,hQ2 b1⟩
 ·rw[a1];exact⟨v,H,I.tok _,rv',hQ d' v b1 dv'⟩
theorem QjC(hu:X.A.units+16<cLine):MtR X "dict.setdefault" (Qpj X.K ca):=by
 intro pins s σ H x vs v us Q I rx rv h;obtain⟨kv,dv,rfl,g,μ,dx,n,t,τ,ks,k,r,q,hk,rfl,hn,hg,hz0,hQ,hQ2⟩:=h;obtain⟨a,rfl⟩:=QaQ q hk;cases rx;obtain⟨u1,u2,rfl,ru1,ru2⟩:=rv.two;cases ru1;obtain⟨t',ht',xs,hH,nr,nd,hs⟩:=r.addr hg;rw[hn]at ht';cases ht';have dd:=Qee I hH nr nd;have hl:xs.length=ks.length:=Paired.length nr;have hz:xs.length<=sizeLine:=by rw[hl];exact RV (Ux hz0 Yk)
 rcases nr.get k with⟨a1,b1⟩|⟨p,d',v,a1,b1,rv',dv'⟩
 ·obtain⟨de,hde,hQ2⟩:=hQ2 b1;refine Ww Rn dd.typeIs Wh (We _ _ _) (NK.meetsSetDef (knd:=NK.tagK X.prog X.w τ) (d:=t) (a:=a) hs u2) ⟨Qay hu,k,xs,Yl I q rfl hk,dd,hz,(λp hp=>by rw[a1]at hp;cases hp),λ_ h' dd' hs'=>?_⟩;obtain⟨ob,ens,ep,ho,hc,hd,he,_,nd'⟩:=dd';have ex:Ext X.K μ H μ (upd H t (ND t (xs++[(k,a,u2)]))):=Ya hH (λ_ z=>by unfold ND at z;cases z) (λ_ _ z=>by unfold ND at z;cases z);refine⟨dv,_,Qf5 I (by rw[hH];exact True.intro) hs' ⟨ob,ho⟩ (Qjz ⟨ob,ens,ep,ho,hc,hd,by rw[he];exact(NK.ents_eq _ _ _ _).symm⟩),ru2,hQ2 _ ?_ nd' hs⟩;exact By (nr.mono ex) ⟨rfl,⟨dx,hk,q.mono ex⟩,dv,ru2,hde.mono ex⟩
 ·refine Ww Rn dd.typeIs Wh (We _ _ _) (NK.meetsSetDef (knd:=NK.tagK X.prog X.w τ) (d:=t) (a:=a) hs u2) ⟨Qay hu,k,xs,Yl I q rfl hk,dd,hz,(λp' hp=>?_),(λhp=>by rw[a1]at hp;cases hp)⟩;rw[a1]at hp;cases hp;exact⟨v,H,I.tok _,rv',hQ d' v b1 dv'⟩
end
section
variable{X:Cx}{ca:Nat->Addr}{e f o:Expr}{me mf mo:ME}{pos apos:Pos}{k:Nat}
theorem Qhd{id:String}{name:Str}{r:V->List V->Hp->VK->Prop}{F:Nat->Bool->List (NK.SK×D)->NK.SK->D->G->Res D}(slot:Slot "dict" name id)(hty:typeOf (.builtin id)=pure (.type "method_descriptor"))(hm:∀pn Φ,MtR (xat X ca pn Φ) id r)(hF:∀(Φ:XS) (σ:L2.St) (H:Hp) (μ:List Addr) (g:G) (kv dv:V) (y z:D) (n:Nat) (t:Addr) (τ:Bool) (ks:List (NK.SK×D)) (k:NK.SK) (Q:VK),GRep X.K ca μ H g->Den X.K μ H kv y->Den X.K μ H dv z->skOf τ y=some k->μ[n]?=some t->g[n]?=some (.dcn τ ks)->Post X.K ca Φ σ Q H μ (F n τ ks k z g)->r (.ref t) [kv,dv] H Q)(ho:PE3 ca X o mo)(he:PE3 ca X e me)(hf:PE3 ca X f mf)(hbase:attributeBase o name X.env (eval o X.env)=eval o X.env)(hfew:((backTo pos (starEach [e,f] X.env)).all (λx=>!x.1)&&(backToKw pos (keywordEach [] X.env)).all (λx=>x.1.isSome)&&decide ([e,f].length+([]:List Keyword).length+(if ([]:List Keyword).isEmpty then 0 else 1)<30))=true)(hline:(apos.endLine==pos.line)=true)(hs:starEach [e,f] X.env=(false,eval e X.env)::starEach [f] X.env)(hs2:starEach [f] X.env=(false,eval f X.env)::starEach [] X.env)(hplain:(backTo pos (starEach [f] X.env)).any (·.1)=false):
  PE3 ca X (.Call (.Attribute o name apos) [e,f] [] pos) (QjB mo me mf F):=
 λpn Φ=>Zi (Qph (X:=xat X ca pn Φ) slot hty (hm pn Φ) (ho pn Φ) (Jv he (Jv hf Qh hs2) hs pn Φ) hbase hfew hline hs hplain) λσ H Q ⟨σ3,g,μ,R,q⟩=>Q2 (Ju R q) λx H1 hQ=>by
  obtain⟨d,g1,μ1,e1,R1,q1,p1⟩:=hQ;cases q1 with
  |@ref n t hn=>
   dsimp only at p1;cases hgn:g1[n]? with
   |none=>rw[hgn]at p1;exact p1.elim|some ob=>
    rw[hgn]at p1;obtain⟨t',ht',orp⟩:=R1.g.addr hgn;rw[hn]at ht';cases ht';cases ob with
    |dcn τ0 ks0=>
     obtain⟨xs0,hH0,_⟩:=orp;dsimp only at p1;refine⟨⟨t,xs0,rfl,hH0⟩,σ3,g1,μ1,R1,?_⟩;unfold Qa mNil;cases hm:me σ3 g1 with
     |raise _ _=>rw[hm]at p1;exact p1|stuck=>rw[hm]at p1;exact p1.elim|ok y g2=>
      rw[hm,Res.bind_ok]at p1;rw[Res.bind_ok];cases hm2:mf σ3 g2 with
      |raise _ _=>rw[hm2]at p1;exact p1|stuck=>rw[hm2]at p1;exact p1.elim|ok z g3=>
       rw[hm2,Res.bind_ok]at p1;rw[Res.bind_ok,Res.bind_ok,Res.bind_ok];intro vs H2 μ2 e2 r2 q2;cases q2 with
       |cons h1 h2=>cases h2 with
        |cons h2 h3=>
         cases h3;cases hg2:g3[n]? with
         |none=>rw[hg2]at p1;exact p1.elim|some ob2=>
          rw[hg2]at p1;cases ob2 with
          |dcn τ ks=>
           dsimp only at p1;cases hk:skOf τ y with
           |none=>rw[hk]at p1;exact p1.elim|some k =>rw[hk]at p1;exact hF Φ σ H2 μ2 g3 _ _ y z n t τ ks k Q r2 h1 h2 hk (e2.at hn) hg2 (p1.go e2)
          |_=>exact p1.elim
    |_=>exact p1.elim
  |_=>exact p1.elim
theorem QjD(hr:Room k X.A)(ho:PE3 ca X o mo)(he:PE3 ca X e me)(hf:PE3 ca X f mf)(hbase:attributeBase o "get" X.env (eval o X.env)=eval o X.env:=by rfl)(hfew:((backTo pos (starEach [e,f] X.env)).all (λx=>!x.1)&&(backToKw pos (keywordEach [] X.env)).all (λx=>x.1.isSome)&&decide ([e,f].length+([]:List Keyword).length+(if ([]:List Keyword).isEmpty then 0 else 1)<30))=true:=by rfl)(hline:(apos.endLine==pos.line)=true:=by rfl)(hs:starEach [e,f] X.env=(false,eval e X.env)::starEach [f] X.env:=by rfl)(hs2:starEach [f] X.env=(false,eval f X.env)::starEach [] X.env:=by rfl)(hplain:(backTo pos (starEach [f] X.env)).any (·.1)=false:=by rfl):
  PE3 ca X (.Call (.Attribute o "get" apos) [e,f] [] pos) (Qhc mo me mf):=
 Qhd (r:=Qpi X.K ca) Bm PySem.F.type_dict_get (λpn Φ=>Qnn (ca:=ca) (X:=xat X ca pn Φ) (by have:=hr.units;show X.A.units+16<cLine;omega)) (λΦ σ H μ g kv dv y z n t τ ks k Q r q1 q2 hk hn hg p=>by
  refine⟨kv,dv,rfl,g,μ,y,n,t,τ,ks,k,r,q1,hk,rfl,hn,hg,λd v h1 h2=>?_,λh1=>?_⟩
  ·rw[h1]at p;exact p v H μ .refl r h2
  ·rw[h1]at p;exact p dv H μ .refl r q2) ho he hf hbase hfew hline hs hs2 hplain
theorem Qhe(hr:Room k X.A)(ho:PE3 ca X o mo)(he:PE3 ca X e me)(hf:PE3 ca X f mf)(hbase:attributeBase o "setdefault" X.env (eval o X.env)=eval o X.env:=by rfl)(hfew:((backTo pos (starEach [e,f] X.env)).all (λx=>!x.1)&&(backToKw pos (keywordEach [] X.env)).all (λx=>x.1.isSome)&&decide ([e,f].length+([]:List Keyword).length+(if ([]:List Keyword).isEmpty then 0 else 1)<30))=true:=by rfl)(hline:(apos.endLine==pos.line)=true:=by rfl)(hs:starEach [e,f] X.env=(false,eval e X.env)::starEach [f] X.env:=by rfl)(hs2:starEach [f] X.env=(false,eval f X.env)::starEach [] X.env:=by rfl)(hplain:(backTo pos (starEach [f] X.env)).any (·.1)=false:=by rfl):
  PE3 ca X (.Call (.Attribute o "setdefault" apos) [e,f] [] pos) (Jg mo me mf):=
 Qhd (r:=Qpj X.K ca) Rn PySem.F.type_dict_setdefault (λpn Φ=>QjC (ca:=ca) (X:=xat X ca pn Φ) (by have:=hr.units;show X.A.units+16<cLine;omega)) (λΦ σ H μ g kv dv y z n t τ ks k Q r q1 q2 hk hn hg p=>by
  by_cases hz:ks.length<SZ
  ·rw[Uj hz]at p;refine⟨kv,dv,rfl,g,μ,y,n,t,τ,ks,k,r,q1,hk,rfl,hn,hg,hz,λd v h1 h2=>?_,λh1=>⟨z,q2,λxs' nr nd hsm=>?_⟩⟩
   ·rw[h1]at p;exact p v H μ .refl r h2
   ·rw[h1]at p;obtain⟨t',ht',xs,hH,_⟩:=r.addr hg;rw[hn]at ht';cases ht';have ex:Ext X.K μ H μ (upd H t (ND t xs')):=Ya hH (λ_ z=>by unfold ND at z;cases z) (λ_ _ z=>by unfold ND at z;cases z);exact p dv _ μ ex (r.set hn hH (λ_ z=>by unfold ND at z;cases z) (λ_ _ z=>by unfold ND at z;cases z) ⟨xs',Qr,nr,nd,hsm⟩) (q2.mono ex)
  ·rw[Uo hz]at p;exact p.elim) ho he hf hbase hfew hline hs hs2 hplain
end
end L3
namespace L3
open PySem
def dAt(x:D)(g:G)(F:List (SKd×D)->Res D):Res D:=match x with
 |.ref n=>(match g[n]? with
  |some (.dcn _ ks)=>if ks.length<=SZ then F ks else .stuck
  |_=>.stuck)
 |_=>.stuck
def Qef(x:D)(g:G):Res D:=dAt x g λks=>.ok (.int ks.length) g
theorem Qeg:∀{ds:List D}{g:List Int},rowI ds=some g->ds=g.map .int
 |[],_,h=>by cases h;rfl
 |.int i::r,g,h=>by have h:(rowI r).map (i :: ·)=some g:=h;obtain⟨js,h1,h2⟩:=U8.mp h;subst h2;rw[Qeg h1];rfl
theorem Qf8(h:skOf τ d=some k):d=kD k:=by
 unfold skOf at h;split at h
 ·obtain⟨g,h1,rfl⟩:=U8.mp h;rw[Qeg h1];rfl
 ·rename_i a p q b;cases h1:rowI a with
  |none=>rw[h1]at h;cases h|some x=>
   cases h2:rowI b with
   |none=>rw[h1,h2]at h;cases h|some y =>rw[h1,h2]at h;cases h;rw[Qeg h1,Qeg h2];rfl
 ·cases h
end L3
namespace NK
open PySem PyProof.Rows
theorem lenD{prog:Program}{w:World}{A:Around}{E:VP}{s:Shared}{d:Addr}{es:Array DictEntry}{ep:Nat}{Q:VP}(hs:(d==sysModules)=false)(hm:DE s.heap d es ep)(hfit:(es.size:Int)<2^63)(h:Q (.int es.size (s.toks+1)) {s with toks:=s.toks+1+1}):wpAny (model prog w) A (call (.builtin "len") [.ref d]) Q E s:=by
 have hT:=hm.typeIs;obtain⟨o,ho,_,hd⟩:=hm;have me:MeetsIn prog w (Builtin.«dict.__len__» ⟨[.ref d],[]⟩) (λ_ R s'=>s'=s/\R (.ok (.ret (.int es.size s.toks))) {s with toks:=s.toks+1}):=.of_wp λA R s' ⟨e,h⟩=>by subst e;show wpAny _ _ (dictSize d >>= _) _ _ s';unfold dictSize;refine Ua (Ua (T8 ho hd (Ud ?_)));show wpAny _ _ (Builtin.Dict.pendingCount d >>= _) _ _ s';exact Ua (wpAny_pendingCount_other hs (wpAny_ret_mkInt (by rw[Nat.add_zero];exact h)))
 refine Calls.call_function_entry kind_len plain_len entry_len (args_len1 _) ?_;unfold Builtin.«len»;refine Ua (m:=oneArg "len" _) (Ud ?_);refine Ua (m:=callSpecial? (.ref d) (Str.ofString "__len__")) (Te (name:=Str.ofString "__len__") hT F.slot_dict_len (Ww F.slot_dict_len hT F.entry_dict_len (F.args_dict_len_1 _) me ⟨rfl,?_⟩));show wpAny _ _ _ _ _ {s with toks:=s.toks+1};refine Ua (Th (Ud (Ua (wpAny_letGo ?_))));show wpAny _ _ (if ((es.size:Nat):Int)<0 then _ else _) _ _ _;rw[Uo (by omega)];show wpAny _ _ (if ((es.size:Nat):Int)>=2^63 then _ else _) _ _ _;rw[Uo (by omega)];exact Ua (wpAny_mkInt (Ud ⟨_,rfl,h⟩))
end NK
namespace L3
open PySem PySem.Spec PyProof.Rows L2
section
variable{X:Cx}{ca:Nat->Addr}
abbrev rD(K:Frag)(ca:Nat->Addr)(x:V)(H:Hp)(Q:G->List Addr->Addr->List (NK.SK×D)->Prop):Prop:=∃(g:G)(μ:List Addr)(n:Nat)(t:Addr)(τ:Bool)(ks:List (NK.SK×D)),GRep K ca μ H g/\x=.ref t/\μ[n]?=some t/\g[n]?=some (.dcn τ ks)/\ks.length<=SZ/\Q g μ t ks
theorem Qlr(I:Inv X pins σ H s)(e:H t=some (ND t xs)):∃es ep,NK.DE s.heap t es ep/\es.toList=NK.ents xs:=by obtain⟨⟨o,es,ep,ho,hc,hd,he⟩,_⟩:=(show ObjOk X.prog X.w H s.heap t (.ext (NK.DObj t xs)) from I.hok t _ e);exact⟨es,ep,⟨o,ho,hc,hd⟩,he⟩
theorem Qa5{es:Array DictEntry}{xs:List (NK.SK×Addr×Value)}(h:es.toList=NK.ents xs):es.size=xs.length:=by rw[<-Ta,h];unfold NK.ents;rw[Ub]
theorem QjE:CallR X (.builtin "len") (λvs H Q=>∃x,vs=[x]/\rD X.K ca x H λ_ _ _ ks=>Q (.int ks.length) H):=by intro pins s σ H vs us Q I rv h;obtain⟨x,rfl,g,μ,n,t,τ,ks,r,rfl,hn,hg,hz,hQ⟩:=h;obtain⟨u,rfl,ru⟩:=rv.one;cases ru;obtain⟨t',ht',xs,hH,nr,nd,hs⟩:=r.addr hg;rw[hn]at ht';cases ht';obtain⟨es,ep,de,he⟩:=Qlr I hH;have hl:es.size=ks.length:=(Qa5 he).trans (Paired.length nr);have h1:=Qdw;have h2:=Yk;have h3:sizeLine=16777216:=Tn;exact NK.lenD hs de (by omega) ⟨.int ks.length,H,I.tok _,⟨s.toks+1,by rw[hl]⟩,hQ⟩
theorem Qno{K:Frag}{τ:Bool}{μ:List Addr}{H:Hp}{xs:List (NK.SK×Addr×Value)}{ks:List (NK.SK×D)}(h:NRel K τ μ H xs ks):Dens K μ H (xs.map λx=>V.ref x.2.1) (ks.map λp=>kD p.1):=by
 unfold NRel at h;induction h with
 |nil=>exact .nil|cons a _ ih =>obtain⟨e,⟨d,h1,h2⟩,_⟩:=a;refine .cons ?_ ih;dsimp only;rw[<-e,<-Qf8 h1];exact h2
end
section
variable{X:Cx}{ca:Nat->Addr}{e:Expr}{me:ME}{p pos:Pos}
theorem Qpk{K:Frag}{Φ:XS}{σ:L2.St}{H:Hp}{μ:List Addr}{g:G}{y:V}{d:D}{Q:VK}{F:List (NK.SK×D)->Res D}(r:GRep K ca μ H g)(q:Den K μ H y d)(pp:Post K ca Φ σ Q H μ (dAt d g F)):rD K ca y H λg' μ' _ ks=>g'=g/\μ'=μ/\Post K ca Φ σ Q H μ (F ks):=by
 unfold dAt at pp;cases q with
 |@ref n t hn=>
  dsimp only at pp;cases hg:g[n]? with
  |none=>rw[hg]at pp;exact pp.elim|some ob=>
   rw[hg]at pp;cases ob with
   |dcn τ ks=>
    dsimp only at pp;by_cases z:ks.length<=SZ
    ·rw[Uj z]at pp;exact⟨g,μ,n,t,τ,ks,r,rfl,hn,hg,z,rfl,rfl,pp⟩
    ·rw[Uo z]at pp;exact pp.elim
   |_=>exact pp.elim
 |_=>exact pp.elim
theorem Qmk(hm:X.mg "len"=none)(he:PE3 ca X e me)(hg:Gl X "len":=by rfl)(hs:starEach [e] X.env=[(false,eval e X.env)]:=by rfl)(hpl:(backTo pos (starEach [] X.env)).any (·.1)=false:=by rfl):
  PE3 ca X (.Call (.Name "len" p) [e] [] pos) (mOp1 Qef me):=Qjn (r:=λvs H Q=>∃x,vs=[x]/\rD X.K ca x H λ_ _ _ ks=>Q (.int ks.length) H) (λpn Φ=>QjE (X:=xat X ca pn Φ)) hm boot_len (λΦ σ H μ g y d Q r q pp=>by obtain⟨g',μ',n,t,τ,ks,r',a1,a2,a3,a4,e1,e2,p'⟩:=Qpk (F:=λks=>.ok (.int ks.length) g) r q pp;subst e1 e2;exact⟨y,rfl,g',μ',n,t,τ,ks,r',a1,a2,a3,a4,p' _ H μ' .refl r' (.int _)⟩) he hg (by decide) (by decide) hs hpl
end
end L3
namespace L3
open PySem
def lexZ:List Int->List Int->Bool
 |[],[]=>false|[],_::_=>true|_::_,[]=>false|a::x,b::y=>if a=b then lexZ x y else decide (a<b)
def ltK:SKd->SKd->Bool
 |.inl a,.inl b=>lexZ a b|.inr x,.inr y=>if x.1=y.1 then (if x.2.1=y.2.1 then (if x.2.2.1=y.2.2.1 then (if x.2.2.2=y.2.2.2 then false else lexZ x.2.2.2 y.2.2.2) else decide (x.2.2.1<y.2.2.1)) else decide (x.2.1<y.2.1)) else lexZ x.1 y.1
 |.inl _,.inr _=>true|.inr _,.inl _=>false
def insK(k:SKd):List SKd->List SKd
 |[]=>[k]|x::r=>if ltK x k then x::insK k r else k::x::r
def sortK:List SKd->List SKd
 |[]=>[]|k::r=>insK k (sortK r)
def okK:SKd->Bool
 |.inl []=>false|_=>true
def J0(τ:Bool):List D->Option (List SKd)
 |[]=>some []|d::r=>(match skOf τ d,J0 τ r with
  |some k,some ks=>some (k::ks)|_,_=>none)
def srtK(ks:List SKd)(g:G):Res D:=if ks.length<64/\ks.Nodup/\ks.all okK=true then .ok (.ref g.length) (g++[.lst ((sortK ks).map kD)]) else .stuck
def Qcv(x:D)(g:G):Res D:=dAt x g λks=>srtK (ks.map (·.1)) g
def Qcw(x:D)(g:G):Res D:=match x with
 |.ref n=>(match g[n]? with
  |some (.lst ds)=>(match J0 false ds with
   |some ks=>srtK ks g|none=>(match J0 true ds with
    |some ks=>srtK ks g|none=>.stuck))
  |_=>.stuck)
 |_=>.stuck
theorem QcP(k:SKd):∀l,(insK k l).Perm (k::l)
 |[]=>.refl _|x::r=>by
  unfold insK;split
  ·exact((QcP k r).cons x).trans (.swap ..)
  ·exact .refl _
theorem sortK_perm:∀l,(sortK l).Perm l
 |[]=>.refl _|k::r=>(QcP k _).trans ((sortK_perm r).cons k)
theorem QjF(ht:∀x y z,ltK x y=true->ltK y z=true->ltK x z=true)(tot:∀x y:SKd,x≠y->ltK x y=true\/ltK y x=true):∀{l:List SKd},l.Pairwise (λx y=>ltK x y=true)->k∉l->(insK k l).Pairwise (λx y=>ltK x y=true)
 |[],_,_=>by simp[insK]
 |x::r,h,hk=>by
  have h':=Rm.mp h;have hne:x≠k:=λz=>hk (by rw[z];exact Us ..);unfold insK;split
  ·next hx=>
   refine Rm.mpr ⟨λy hy=>?_,QjF ht tot h'.2 λz=>hk (Ut _ z)⟩;rcases Uv.mp ((QcP k r).mem_iff.mp hy) with rfl|hy
   ·exact hx
   ·exact h'.1 y hy
  ·next hx=>
   have hkx:ltK k x=true:=(tot x k hne).resolve_left hx;refine Rm.mpr ⟨λy hy=>?_,h⟩;rcases Uv.mp hy with rfl|hy
   ·exact hkx
   ·exact ht _ _ _ hkx (h'.1 y hy)
theorem sortK_up(ht:∀x y z,ltK x y=true->ltK y z=true->ltK x z=true)(tot:∀x y:SKd,x≠y->ltK x y=true\/ltK y x=true):∀{l:List SKd},l.Nodup->(sortK l).Pairwise (λx y=>ltK x y=true)
 |[],_=>.nil|k::r,h=>by have h':=T5.mp h;exact QjF ht tot (sortK_up ht tot h'.2) λz=>h'.1 ((sortK_perm r).mem_iff.mp z)
theorem up_uniq(hi:∀x,ltK x x=false)(ht:∀x y z,ltK x y=true->ltK y z=true->ltK x z=true):∀{a b:List SKd},a.Perm b->a.Pairwise (λx y=>ltK x y=true)->b.Pairwise (λx y=>ltK x y=true)->a=b
 |[],b,p,_,_=>by rw[List.nil_perm.mp p]
 |x::a,[],p,_,_=>absurd p.symm (by simp)|x::a,y::b,p,h1,h2=>by
  have q1:=Rm.mp h1;have q2:=Rm.mp h2;have e:x=y:=by
   rcases Uv.mp (p.mem_iff.mp (Us ..)) with e|m1
   ·exact e
   ·rcases Uv.mp (p.mem_iff.mpr (Us ..)) with e|m2
    ·exact e.symm
    ·have:=ht _ _ _ (q2.1 x m1) (q1.1 y m2);rw[hi]at this;cases this
  subst e;rw[up_uniq hi ht (List.perm_cons x |>.mp p) q1.2 q2.2]
end L3
namespace NK
open PySem PyProof.Rows
theorem Qeh:∀x y:List Int,L3.lexZ x y=lexL (λa b=>decide (a<b)) x y
 |[],[]=>rfl|[],_::_=>rfl|_::_,[]=>rfl|a::x,b::y=>by unfold L3.lexZ lexL;rw[Qeh x y]
section
variable{prog:Program}{w:World}
abbrev grO:OV (grV prog w):=lstO intO
abbrev ctO:OV (ctV prog w):=Qqc grO intO intO grO
theorem QdC(x y:List Int):L3.ltK (.inl x) (.inl y)=(grO (prog:=prog) (w:=w)).lt x y:=Qeh x y
theorem QdD(x y:List Int×Int×Int×List Int):L3.ltK (.inr x) (.inr y)=(ctO (prog:=prog) (w:=w)).lt x y:=by show L3.ltK (.inr x) (.inr y)=lexO false (Qd2 _ _ _ _ x y);unfold Qd2 L3.ltK;simp only[Qcp];rw[Qeh,Qeh];rfl
def tagO(τ:Bool):OV (tagV prog w τ) where
 lt:=L3.ltK
 rich:=λ{A E s x y u u' Q} hu hx hy hne h=>by
  cases x with
  |inl x=>cases y with
   |inl y=>exact(grO (prog:=prog) (w:=w)).rich (show A.units+1<cLine by have:A.units+2<cLine:=hu;omega) hx.2 hy.2 (λz=>hne (by rw[z])) (by rw[<-QdC];exact h)|inr y=>have:=hx.1;have:=hy.1;simp_all
  |inr x=>cases y with
   |inl y=>have:=hx.1;have:=hy.1;simp_all|inr y=>exact(ctO (prog:=prog) (w:=w)).rich hu hx.2 hy.2 (λz=>hne (by rw[z])) (by rw[<-QdD];exact h)
 irr:=λx=>by
  cases x with
  |inl x=>rw[QdC (prog:=prog) (w:=w)];exact grO.irr x|inr x=>rw[QdD (prog:=prog) (w:=w)];exact ctO.irr x
 tr:=λx y z h1 h2=>by
  cases x with
  |inl x=>cases y with
   |inl y=>cases z with
    |inl z=>rw[QdC (prog:=prog) (w:=w)]at h1 h2 ⊢;exact grO.tr x y z h1 h2|inr z=>rfl
   |inr y=>cases z with
    |inl z=>cases h2|inr z=>rfl
  |inr x=>cases y with
   |inl y=>cases h1|inr y=>cases z with
    |inl z=>cases h2|inr z=>rw[QdD (prog:=prog) (w:=w)]at h1 h2 ⊢;exact ctO.tr x y z h1 h2
 tot:=λx y h=>by
  cases x with
  |inl x=>cases y with
   |inl y=>rw[QdC (prog:=prog) (w:=w),QdC (prog:=prog) (w:=w)];exact grO.tot x y λz=>h (by rw[z])
   |inr y=>exact .inl rfl
  |inr x=>cases y with
   |inl y=>exact .inr rfl|inr y=>rw[QdD (prog:=prog) (w:=w),QdD (prog:=prog) (w:=w)];exact ctO.tot x y λz=>h (by rw[z])
theorem Qpl(hu:A.units+4<cLine)(hx:(tagV prog w τ).is s.heap x u)(hy:(tagV prog w τ).is s.heap y u')(h:Q (L3.ltK x y) s):wpAny (model prog w) A (keyLt' (PyProof.Rows.tuples' (!τ)) u u') Q E s:=by
 cases x with
 |inl x=>cases y with
  |inl y =>obtain⟨rfl,hx⟩:=hx;exact Qk7 hu hx hy.2 (by rw[<-QdC];exact h)|inr y=>have:=hx.1;have:=hy.1;simp_all
 |inr x=>cases y with
  |inl y=>have:=hx.1;have:=hy.1;simp_all|inr y =>obtain⟨rfl,hx⟩:=hx;obtain⟨r,x1,x2,x3,x4,rfl,t1,i1,i2,i3,i4⟩:=hx;obtain⟨r',y1,y2,y3,y4,rfl,t2,j1,j2,j3,j4⟩:=hy.2;refine Qe1 (dep:=1) (os:=Qd2 (prog:=prog) (w:=w) grO intO intO grO x y) (by omega) t1 t2 (.cons (grO.at' (Um _) i1 j1) (.cons (intO.at' (RM _) i2 j2) (.cons (intO.at' (RM _) i3 j3) (.cons (grO.at' (Um _) i4 j4) .nil)))) (λz=>by cases z) ?_;have:lexO (decide ([x1,x2,x3,x4].length<[y1,y2,y3,y4].length)) (Qd2 (prog:=prog) (w:=w) grO intO intO grO x y)=L3.ltK (.inr x) (.inr y):=(QdD (prog:=prog) (w:=w) x y).symm;rw[this];exact h
end
end NK
namespace NK
open PySem PyProof.Rows
section
variable{prog:Program}{w:World}{A:Around}{E:VP}{s:Shared}
open Classical in
def Qnp(h:Heap)(v:Value):Value:=if e:∃u a us,v=.ref a/\Tp h a us/\us.head?=some u then e.choose else v
theorem Qml(ht:Tp h a us)(hu:us.head?=some u):Qnp h (.ref a)=u:=by have e:∃u b us,Value.ref a=.ref b/\Tp h b us/\us.head?=some u:=⟨u,a,us,rfl,ht,hu⟩;unfold Qnp;rw[dif_pos e];obtain⟨b,vs,e1,e2,e3⟩:=e.choose_spec;injection e1 with e1;subst e1;rw[ht.inj e2,e3]at hu;injection hu
theorem QjG(ho:L3.okK k=true)(h:(tagV prog w τ).is s.heap k u):∃a us v,u=.ref a/\Tp s.heap a us/\us.head?=some v/\s.TypeIs v (if τ=true then "tuple" else "int"):=by
 cases k with
 |inl g=>
  obtain⟨rfl,a,us,rfl,t,al⟩:=h;cases al with
  |nil=>cases ho|cons x _ =>obtain⟨t',rfl⟩:=T6 x;exact⟨a,_,_,rfl,t,rfl,BR s _ _⟩
 |inr c =>obtain⟨rfl,r,x,y,z,q,rfl,t,⟨b,us,rfl,t2,_⟩,_⟩:=h;exact⟨r,_,_,rfl,t,rfl,t2.typeIs⟩
theorem Qei(x:(tagV prog w τ).is h k u)(kp:∀b o,h.get? b=some o->h'.get? b=some o):(tagV prog w τ).is h' k u:=(tagV prog w τ).keeps x λb o _ _ e _=>kp b o e
theorem sorted_keys{τ:Bool}{r:Value}{us:List Value}{ks:List SK}{Q:VP}(hu:A.units+16<cLine)(al:Al ((tagV prog w τ).is s.heap) ks us)(hn:ks.Nodup)(ho:ks.all L3.okK=true)(h64:ks.length<64)(hc:∀{R:List Value->Shared->Prop},(∀h' tk,(∀b o,s.heap.get? b=some o->h'.get? b=some o)->R us {s with heap:=h',toks:=tk})->wpAny (model prog w) A.in1 (collect r) R E s)(h:∀(h1 h':Heap) (tk:Nat) (out:Array Value) (e:Nat),(∀b o,s.heap.get? b=some o->h1.get? b=some o)->(∀b o,h1.get? b=some o->h'.get? b=some o)->h'.get? h1.objs.size=some (seqObj "list" out e)->Al ((tagV prog w τ).is s.heap) (L3.sortK ks) out.toList->(∀u∈out.toList,u∈us)->Q (.ref h1.objs.size) {s with heap:=h',toks:=tk}):
  wpAny (model prog w) A (call (.builtin "sorted") [r]) Q E s:=by
 have hall:∀k∈ks,L3.okK k=true:=λk hk=>UL.mp ho k hk;refine QhR (kd:=PyProof.Rows.tuples' (!τ)) (rk:=(tagO (prog:=prog) (w:=w) τ).rk s.heap ks) (vs:=us) (by rw[<-al.len];exact h64) hc (λh' tk kp=>?_) (λh2 h' tk kp Q hq=>?_) λh1 h' tk out e k1 k2 hg hp hup=>?_
 ·exact QoR (tagO τ) al hn λx y u u' _ _ hx hy {E Q} hQ=>Qpl (s:={s with heap:=h',toks:=tk}) (show A.units+1+1+4<cLine by omega) (Qei hx kp) (Qei hy kp) hQ
 ·have fk:∀v∈us,∃a vs x,v=.ref a/\Tp h' a vs/\vs.head?=some x/\Shared.TypeIs {s with heap:=h',toks:=tk} x (if τ=true then "tuple" else "int"):=λv hv=>by obtain⟨k,m,hk⟩:=al.has v hv;exact QjG (s:={s with heap:=h',toks:=tk}) (hall k m) (Qei hk kp)
  refine NZ.kind_tup (fst:=Qnp h') (T:=if τ=true then "tuple" else "int") (λz=>by rw[z]at h2;exact absurd h2 (by decide)) (λv hv=>?_) (λv hv=>?_) ?_
  ·obtain⟨a,vs,x,rfl,t,hx,_⟩:=fk v hv;exact⟨a,vs,rfl,t,by rw[Qml t hx];exact hx⟩
  ·obtain⟨a,vs,x,rfl,t,hx,ty⟩:=fk v hv;rw[Qml t hx];exact ty
  ·cases τ
   ·exact hq
   ·exact hq
 ·obtain⟨ls,l1,l2,l3⟩:=QoS (tagO τ) al hp hup hn;have e1:ls=L3.sortK ks:=L3.up_uniq (tagO (prog:=prog) (w:=w) τ).irr (tagO (prog:=prog) (w:=w) τ).tr (l1.trans (L3.sortK_perm ks).symm) l3 (L3.sortK_up (tagO (prog:=prog) (w:=w) τ).tr (tagO (prog:=prog) (w:=w) τ).tot hn);subst e1;refine h h1 h' tk _ e k1 k2 hg l2 λu hm=>?_;rw[Array.toList_map]at hm;obtain⟨p,hp1,rfl⟩:=UE.mp hm;have:=(TZ.mp hp).mem_iff.mp hp1;rw[WF]at this;obtain⟨q1,q2⟩:=mem_zip_self this;rw[<-q1];exact q2
end
end NK
namespace L3
open PySem PySem.Spec PyProof.Rows L2
section
variable{X:Cx}{ca:Nat->Addr}{pins:LAO}{σ:L2.St}{H:Hp}{s:Shared}{μ:List Addr}
theorem Qfc{τ:Bool}{us:List Value}(hb:∀u∈us,∃a k,u=.ref a/\(NK.tagV X.prog X.w τ).is s.heap k u/\Den X.K μ H (.ref a) (kD k)):∀{ls:List NK.SK}{outs:List Value},NK.Al ((NK.tagV X.prog X.w τ).is s.heap) ls outs->(∀u∈outs,u∈us)->∃ws,Vals ws outs/\Dens X.K μ H ws (ls.map kD)
 |_,_,.nil,_=>⟨[],.nil,.nil⟩|l::ls,u::outs,.cons a b,hm=>by obtain⟨p,k,rfl,h1,h2⟩:=hb u (hm u (Us ..));have e:k=l:=(NK.tagV X.prog X.w τ).inj h1 a;subst e;obtain⟨ws,w1,w2⟩:=Qfc hb b λv hv=>hm v (Ut _ hv);exact⟨.ref p::ws,.cons rfl w1,.cons h2 w2⟩
theorem QcQ{τ:Bool}{r:Value}{us:List Value}{ks:List NK.SK}{Q:VK}(I:Inv X pins σ H s)(hu:X.A.units+16<cLine)(al:NK.Al ((NK.tagV X.prog X.w τ).is s.heap) ks us)(hn:ks.Nodup)(ho:ks.all okK=true)(h64:ks.length<64)(hb:∀u∈us,∃a k,u=.ref a/\(NK.tagV X.prog X.w τ).is s.heap k u/\Den X.K μ H (.ref a) (kD k))(hc:∀{R:List Value->Shared->Prop},(∀h' tk,(∀b o,s.heap.get? b=some o->h'.get? b=some o)->R us {s with heap:=h',toks:=tk})->wpAny (model X.prog X.w) X.A.in1 (collect r) R X.xe s)(h:∀l ws,H l=none->Dens X.K μ H ws ((sortK ks).map kD)->Q (.ref l) (upd H l (.lst ws))):wpAny (model X.prog X.w) X.A (call (.builtin "sorted") [r]) (EP X pins σ Q) X.xe s:=by
 refine NK.sorted_keys hu al hn ho h64 hc λh1 h' tk out e k1 k2 hg l2 hm=>?_;obtain⟨ws,w1,w2⟩:=Qfc hb l2 hm;have I1:Inv X pins σ H {s with heap:=h1,toks:=s.toks}:=I.kept k1;have hl:ws.length<=sizeLine:=by
  have:ws.length=ks.length:=by rw[w2.length,Ub,(sortK_perm ks).length_eq]
  have:=Tn;omega
 exact⟨.ref h1.objs.size,_,I1.laid (a:=h1.objs.size) (o:=.lst ws) (t':=tk) k2 (Um _) (show ObjOk X.prog X.w _ _ _ (.lst ws) from ⟨hl,out.toList,e,w1,by simpa using hg⟩),rfl,h _ ws (I1.hok.fresh (Um _)) w2⟩
end
section
variable{X:Cx}{ca:Nat->Addr}
theorem Qpm{K:Frag}{τ:Bool}{μ:List Addr}{H:Hp}{xs:List (NK.SK×Addr×Value)}{ks:List (NK.SK×D)}(h:NRel K τ μ H xs ks):ks.map (·.1)=xs.map (·.1):=by
 unfold NRel at h;induction h with
 |nil=>rfl|cons a _ ih=>rw[UC,UC,ih,a.1]
theorem QjH  : ∀{xs:List (NK.SK×Addr×Value)},(∀x∈xs,(NK.tagV X.prog X.w τ).is h x.1 (.ref x.2.1))->NK.Al ((NK.tagV X.prog X.w τ).is h) (xs.map (·.1)) (xs.map λx=>Value.ref x.2.1)
 |[],_=>.nil|y::r,hx=>.cons (hx y (Us ..)) (QjH λx hm=>hx x (Ut _ hm))
theorem QhX{es:Array DictEntry}{xs:List (NK.SK×Addr×Value)}{acc:Array Value}(he:es.toList=NK.ents xs)(ha:ItemsOf (λi v=>∃h:i<es.size,v=es[i].key) acc es.size):acc.toList=xs.map λx=>Value.ref x.2.1:=by
 apply List.ext_getElem?;intro j;rw[UK];by_cases hj:j<acc.size
 ·have e0:acc[j]?=some acc[j]:=RY _ j hj;obtain⟨hj',e1⟩:=ha.2 j _ e0;have e2:es.toList[j]?=some es[j]:=by simp[hj']
  rw[he]at e2;unfold NK.ents at e2;rw[UK]at e2;cases hx:xs[j]? with
  |none=>rw[hx]at e2;cases e2|some y =>rw[hx]at e2;injection e2 with e2;rw[T2,e0,e1,<-e2];rfl
 ·have hl:=Qa5 he;have h1:=ha.1;rw[Wb (by rw[Ta];omega),Wb (by omega)];rfl
theorem Qfd(hc:X.calm=true)(hu:X.A.units+16<cLine):CallR X (.builtin "sorted") (λvs H Q=>∃x,vs=[x]/\rD X.K ca x H λ_ μ _ ks=>(ks.map (·.1)).length<64/\(ks.map (·.1)).Nodup/\(ks.map (·.1)).all okK=true/\∀l ws,H l=none->Dens X.K μ H ws ((sortK (ks.map (·.1))).map kD)->Q (.ref l) (upd H l (.lst ws))):=by
 intro pins s σ H vs us Q I rv h;obtain⟨x,rfl,g,μ,n,t,τ,ks,r,rfl,hn,hg,hz,h64,hnd,hok,hQ⟩:=h;obtain⟨u,rfl,ru⟩:=rv.one;cases ru;obtain⟨t',ht',xs,hH,nr,nd,hs⟩:=r.addr hg;rw[hn]at ht';cases ht';obtain⟨es,ep,de,he⟩:=Qlr I hH;have hmem:=nr.mem;have al:NK.Al ((NK.tagV X.prog X.w τ).is s.heap) (ks.map (·.1)) (xs.map λx=>Value.ref x.2.1):=by rw[Qpm nr];exact QjH λx hx=>let ⟨d,h1,h2⟩:=hmem x hx;Yl I h2 rfl h1
 refine QcQ (us:=xs.map λx=>Value.ref x.2.1) I hu al hnd hok h64 (λu hm=>?_) (λ{R} hR=>?_) hQ
 ·obtain⟨y,hy,rfl⟩:=UE.mp hm;obtain⟨d,h1,h2⟩:=hmem y hy;exact⟨_,y.1,rfl,Yl I h2 rfl h1,by rw[<-Qf8 h1];exact h2⟩
 ·have hl:es.size=ks.length:=(Qa5 he).trans (Paired.length nr);have h2:=Yk;refine kdu_collect (NK.srcK (es:=es) (ep:=ep) hs) (I.ok.hd hc) de (by omega) λh' tk acc kp hacc=>?_;rw[QhX he hacc];exact hR h' tk kp
theorem Qej(I:Inv X pins σ H s):∀{ds:List D}{ks:List NK.SK}{vs:List V}{us:List Value},Dens X.K μ H vs ds->Vals vs us->J0 τ ds=some ks->NK.Al ((NK.tagV X.prog X.w τ).is s.heap) ks us/\∀u∈us,∃a k,u=.ref a/\(NK.tagV X.prog X.w τ).is s.heap k u/\Den X.K μ H (.ref a) (kD k)
 |[],_,_,_,.nil,.nil,h=>by cases h;exact⟨.nil,λu hu=>by cases hu⟩
 |d::r,ks,_,_,.cons q qs,.cons rv rvs,h=>by
  unfold J0 at h;cases h1:skOf τ d with
  |none=>rw[h1]at h;cases h|some k=>
   cases h2:J0 τ r with
   |none=>rw[h1,h2]at h;cases h|some ls=>
    rw[h1,h2]at h;cases h;obtain⟨q1,q2⟩:=Qej I qs rvs h2;have ht:=Yl I q rv h1;refine⟨.cons ht q1,λu hu=>?_⟩;rcases Uv.mp hu with rfl|hu
    ·obtain⟨a,e⟩:=QaQ q h1;subst e;cases rv;exact⟨a,k,rfl,ht,by rw[<-Qf8 h1];exact q⟩
    ·exact q2 u hu
theorem Qfe(hu:X.A.units+16<cLine):CallR X (.builtin "sorted") (λvs H Q=>∃(p:Addr)(ys:List V)(ds:List D)(g:G)(μ:List Addr)(τ:Bool)(ks:List NK.SK),vs=[.ref p]/\H p=some (.lst ys)/\GRep X.K ca μ H g/\Dens X.K μ H ys ds/\J0 τ ds=some ks/\ks.length<64/\ks.Nodup/\ks.all okK=true/\∀l ws,H l=none->Dens X.K μ H ws ((sortK ks).map kD)->Q (.ref l) (upd H l (.lst ws))):=by
 intro pins s σ H vs us Q I rv h;obtain⟨p,ys,ds,g,μ,τ,ks,rfl,hH,r,qs,hk,h64,hnd,hok,hQ⟩:=h;obtain⟨u,rfl,ru⟩:=rv.one;cases ru;obtain⟨its,rvs,pl,hz⟩:=I.list (.of hH);obtain⟨al,hb⟩:=Qej I qs rvs hk;have hlen:its.length<=sizeLine:=by rw[<-al.len];have:=Tn;omega
 refine QcQ (us:=its) I hu al hnd hok h64 hb (λ{R} hR=>?_) hQ;exact collect_list pl.isList (hR _ _ λb o e=>(Heap.get?_update_ne _ _ _ _ (UP (Uw e))).trans (Ug _ e)) hlen
end
section
variable{X:Cx}{ca:Nat->Addr}{e:Expr}{me:ME}{p pos:Pos}{k:Nat}
theorem QjI(hr:Room k X.A)(hc:X.calm=true)(hm:X.mg "sorted"=none)(he:PE3 ca X e me)(hg:Gl X "sorted":=by rfl)(hs:starEach [e] X.env=[(false,eval e X.env)]:=by rfl)(hpl:(backTo pos (starEach [] X.env)).any (·.1)=false:=by rfl):
  PE3 ca X (.Call (.Name "sorted" p) [e] [] pos) (mOp1 Qcv me):=
 Qjn (r:=λvs H Q=>∃x,vs=[x]/\rD X.K ca x H λ_ μ _ ks=>(ks.map (·.1)).length<64/\(ks.map (·.1)).Nodup/\(ks.map (·.1)).all okK=true/\∀l ws,H l=none->Dens X.K μ H ws ((sortK (ks.map (·.1))).map kD)->Q (.ref l) (upd H l (.lst ws))) (λpn Φ=>Qfd (X:=xat X ca pn Φ) hc (by have:=hr.units;show X.A.units+16<cLine;omega)) hm boot_sorted (λΦ σ H μ g y d Q r q pp=>by
  obtain⟨g',μ',n,t,τ,ks,r',a1,a2,a3,a4,e1,e2,p'⟩:=Qpk (F:=λks=>srtK (ks.map (·.1)) g) r q pp;subst e1 e2;unfold srtK at p';by_cases z:(ks.map (·.1)).length<64/\(ks.map (·.1)).Nodup/\(ks.map (·.1)).all okK=true
  ·rw[Uj z]at p';exact⟨y,rfl,g',μ',n,t,τ,ks,r',a1,a2,a3,a4,z.1,z.2.1,z.2.2,λl ws hl hw=>p' _ _ (μ'++[l]) (QD hl) (r'.push hl ⟨_,Qr,hw.mono (QD hl)⟩) (.ref (by rw[<-r'.len];simp))⟩
  ·rw[Uo z]at p';exact p'.elim) he hg (by decide) (by decide) hs hpl
end
end L3
namespace L3
open PySem PySem.Spec PyProof.Rows L2
section
variable{X:Cx}{ca:Nat->Addr}{e:Expr}{me:ME}{p pos:Pos}{k:Nat}
theorem QjJ(hr:Room k X.A)(hm:X.mg "sorted"=none)(he:PE3 ca X e me)(hg:Gl X "sorted":=by rfl)(hs:starEach [e] X.env=[(false,eval e X.env)]:=by rfl)(hpl:(backTo pos (starEach [] X.env)).any (·.1)=false:=by rfl):
  PE3 ca X (.Call (.Name "sorted" p) [e] [] pos) (mOp1 Qcw me):=
 Qjn (r:=λvs H Q=>∃(p:Addr)(ys:List V)(ds:List D)(g:G)(μ:List Addr)(τ:Bool)(ks:List NK.SK),vs=[.ref p]/\H p=some (.lst ys)/\GRep X.K ca μ H g/\Dens X.K μ H ys ds/\J0 τ ds=some ks/\ks.length<64/\ks.Nodup/\ks.all okK=true/\∀l ws,H l=none->Dens X.K μ H ws ((sortK ks).map kD)->Q (.ref l) (upd H l (.lst ws))) (λpn Φ=>Qfe (X:=xat X ca pn Φ) (by have:=hr.units;show X.A.units+16<cLine;omega)) hm boot_sorted (λΦ σ H μ g y d Q r q pp=>by
  unfold Qcw at pp;cases q with
  |@ref n t hn=>
   dsimp only at pp;cases hgn:g[n]? with
   |none=>rw[hgn]at pp;exact pp.elim|some ob=>
    rw[hgn]at pp;obtain⟨t',ht',orp⟩:=r.addr hgn;rw[hn]at ht';cases ht';cases ob with
    |lst ds=>
     obtain⟨ys,hH,qs⟩:=orp;dsimp only at pp;have fin:∀(τ:Bool)(ks:List NK.SK),J0 τ ds=some ks->Post X.K ca Φ σ Q H μ (srtK ks g)->∃(p:Addr)(ys:List V)(ds:List D)(g:G)(μ:List Addr)(τ:Bool)(ks:List NK.SK),[V.ref t]=[.ref p]/\H p=some (.lst ys)/\GRep X.K ca μ H g/\Dens X.K μ H ys ds/\J0 τ ds=some ks/\ks.length<64/\ks.Nodup/\ks.all okK=true/\∀l ws,H l=none->Dens X.K μ H ws ((sortK ks).map kD)->Q (.ref l) (upd H l (.lst ws)):=λτ ks hk p'=>by
      unfold srtK at p';by_cases z:ks.length<64/\ks.Nodup/\ks.all okK=true
      ·rw[Uj z]at p';exact⟨t,ys,ds,g,μ,τ,ks,rfl,hH,r,qs,hk,z.1,z.2.1,z.2.2,λl ws hl hw=>p' _ _ (μ++[l]) (QD hl) (r.push hl ⟨_,Qr,hw.mono (QD hl)⟩) (.ref (by rw[<-r.len];simp))⟩
      ·rw[Uo z]at p';exact p'.elim
     cases h0:J0 false ds with
     |some ks=>rw[h0]at pp;exact fin false ks h0 pp|none=>
      rw[h0]at pp;dsimp only at pp;cases h1:J0 true ds with
      |some ks=>rw[h1]at pp;exact fin true ks h1 pp|none=>rw[h1]at pp;exact pp.elim
    |_=>exact pp.elim
  |_=>exact pp.elim) he hg (by decide) (by decide) hs hpl
end
end L3
namespace NK
open PySem PyProof.Rows
theorem Qch:fillsNumberSlot (.type "tuple") "mul"=pure false:=PySem.fillsNumberSlot_seq (id:="tuple.__mul__") (r:=some (.builtin "tuple.__rmul__")) WZ.lookup (by decide +kernel) F.slot_tuple_rmul.lookup (by decide +kernel)
theorem Qff:seqRepeat? (.type "tuple")=pure (some (.builtin "tuple.__mul__")):=by unfold seqRepeat?;rw[PySem.seqSlot_of (T:="tuple") (name:="__mul__") (id:="tuple.__mul__") WZ.lookup (by decide +kernel),PySem.seqSlot_of (T:="tuple") (name:="__rmul__") (id:="tuple.__rmul__") F.slot_tuple_rmul.lookup (by decide +kernel)];rfl
theorem QhY(a:Int)(t:Tok)(l:Addr)(cls:Value)(dd:Option Addr)(items:Array Value)(n:Nat)(sl:Array (Option Value))(hc:cls=.type "tuple"):
  Meets (Builtin.«int.__rmul__» ⟨[.int a t,.ref l],[]⟩) (λ_ R s=>s.heap.get? l=some {cls:=cls,dict:=dd,data:=.seq items n,slots:=sl}/\R (.ok (.ret Value.notImplemented)) s):=
 .of_wp λprog w A R s h=>by subst hc;obtain⟨hp,g,d,tk,os⟩:=s;obtain⟨hl,h⟩:=h;wp_walk;exact⟨_,rfl,h⟩
section
variable{prog:Program}{w:World}{A:Around}{E:VP}{s:Shared}
theorem Qfg(xs:Array Value):∀(m:Nat)(acc:Array Value),((List.replicate m xs).foldl (· ++ ·) acc).size=acc.size+m*xs.size
 |0,acc=>by simp
 |m+1,acc=>by rw[Rg,Bf,Qfg xs m,Array.size_append,Nat.add_mul];omega
theorem Qls{a:Addr}{us:List Value}{n:Int}{t:Tok}{Q:VP}(ht:Tp s.heap a us)(hne:us≠[])(h1:1<=n)(hz:(us.length:Int)*n<=100000)(hq1:n=1->Q (.ref a) s)(hq2:n≠1->Q (.ref s.heap.objs.size) {s with heap:=s.heap.push {cls:=.type "tuple",data:=.seq ((List.replicate n.toNat us.toArray).foldl (· ++ ·) #[])} }):wpAny (model prog w) A (call (.builtin "tuple.__mul__") [.ref a,.int n t]) Q E s:=by
 have hT:=ht.typeIs;obtain⟨o,items,k,ho,hc,hd,rfl⟩:=ht;refine UX WZ hT F.entry_tuple_mul ?_ (F.args_tuple_mul_2 _ _);have hpos:0<items.size:=by
  rcases Nat.eq_zero_or_pos items.size with z|z
  ·exact absurd (by simpa using z) hne
  ·exact z
 have hle:n<=100000:=by rw[Ta]at hz;have:(1:Int)*n<=(items.size:Int)*n:=Int.mul_le_mul_of_nonneg_right (by omega) (by omega);omega
 have hemp:items.isEmpty=false:=by
  cases h:items.isEmpty with
  |false=>rfl|true=>exact absurd hpos (by rw[Array.isEmpty_iff.mp h];decide)
 show wpAny _ _ (asIndex (.int n t) >>= _) _ _ s;refine Ua (m:=asIndex (.int n t)) (wpAny_of_eq (a:=n) rfl ?_);dsimp only;rw[Uo (by simp only[Bool.or_eq_true,TN];omega)];refine Ua (T0 ho hd ?_);rw[hemp];by_cases e:n=1
 ·subst e;rw[Uj (by rfl)];unfold Builtin.Tuple.tupleIsExact;refine Ua (Ua (Ro hT (Ud ?_)));rw[Uj (by rfl)];exact Ua (Rc (Ud ⟨_,rfl,hq1 rfl⟩))
 ·rw[Uo (by simpa using e),Uo (by simp only[BH,TN];omega)];rw[Ta]at hz;rw[Uo (by show ¬((items.size:Int)*n>(2^63-1) / 8);omega)];have hm:Builtin.Tuple.tupleTooMany ((items.size:Int)*n)=false:=by unfold Builtin.Tuple.tupleTooMany;have:=Tn;rw[Uu (by omega)]
  rw[Uo (by rw[hm];exact Uk)];unfold Builtin.Tuple.tupleExact;refine Ua (UZ (Ud ⟨_,rfl,hq2 e⟩) (hd:=by
   have hs:=Qfg items n.toNat #[];have h0:((n.toNat*items.size:Nat):Int)=(items.size:Int)*n:=by rw[Int.natCast_mul,Rz (by omega),Int.mul_comm]
   have:=Tn;have h3:n.toNat*items.size<=100000:=by omega
   simp only[sizeOk,hs];simp;omega))
theorem mul_tup{a:Addr}{us:List Value}{n:Int}{t:Tok}{Q:VP}(ht:Tp s.heap a us)(hne:us≠[])(h1:1<=n)(hz:(us.length:Int)*n<=100000)(hq1:n=1->Q (.ref a) s)(hq2:n≠1->Q (.ref s.heap.objs.size) {s with heap:=s.heap.push {cls:=.type "tuple",data:=.seq ((List.replicate n.toNat us.toArray).foldl (· ++ ·) #[])} }):wpAny (model prog w) A (binaryOp .Mult (.ref a) (.int n t)) Q E s:=by
 have hT:=ht.typeIs;obtain⟨⟨cls,dd,data,sl⟩,items,k,ho,hc,hd,e⟩:=id ht;simp only at hc hd;subst hd;refine wpAny_binaryOp_repeat_ref (T:="tuple") (U:="int") (by decide) hT (λs'=>BR s' n t) Qch F.fills_int_mul F.slot_int_rmul Qff F.slot_int_index.lookup
  (RL F.slot_int_rmul (BR s n t) F.entry_int_rmul (F.args_int_rmul_2 _ _) (QhY n t a cls dd items k sl hc) ⟨ho,rfl,hT,Qls ht hne h1 hz hq1 hq2⟩)
end
end NK
namespace L3
open PySem
def Qdq(x y:D)(g:G):Res D:=match x,y with
 |.tup [d],.int n=>if 1<=n/\n<=1000 then .ok (.tup (List.replicate n.toNat d)) g else .stuck
 |_,_=>.stuck
end L3
namespace L3
open PySem PySem.Spec PyProof.Rows L2
theorem Qhf(u:Value):∀(m:Nat)(acc:List Value),((List.replicate m #[u]).foldl (· ++ ·) acc.toArray)=(acc++List.replicate m u).toArray
 |0,acc=>by simp
 |m+1,acc=>by rw[Rg,Bf,show acc.toArray ++ #[u]=(acc++[u]).toArray by simp,Qhf u m,Rg];simp
theorem Qhg(h:RelV v u):∀m,Vals (List.replicate m v) (List.replicate m u)
 |0=>.nil|m+1=>.cons h (Qhg h m)
theorem Qhh{K:Frag}{μ:List Addr}{H:Hp}{v:V}{d:D}(h:Den K μ H v d):∀m,Dens K μ H (List.replicate m v) (List.replicate m d)
 |0=>.nil|m+1=>.cons h (Qhh h m)
def Qpn(K:Frag):R2:=λx y H Q=>∃a v n,x=.ref a/\y=.int n/\SqT K H a [v]/\1<=n/\n<=1000/\(n=1->Q (.ref a) H)/\(n≠1->∀l,H l=none->Q (.ref l) (upd H l (.tup (List.replicate n.toNat v))))
section
variable{X:Cx}
theorem Qnq:OpR X (binaryOp .Mult) (Qpn X.K):=by intro pins s σ H x y v u Q I rx ry h;obtain⟨a,w,n,rfl,rfl,ha,h1,h2,q1,q2⟩:=h;cases rx;obtain⟨t,rfl⟩:=ry;obtain⟨its,r1,tp⟩:=Qlp I ha;obtain⟨u,rfl,ru⟩:=r1.one;refine NK.mul_tup tp (by simp) h1 (by simp;omega) (λe=>⟨.ref a,H,I,rfl,q1 e⟩) λe=>?_;have ef:=Qhf u n.toNat [];rw[List.nil_append]at ef;have ef:(List.replicate n.toNat [u].toArray).foldl (· ++ ·) #[]=(List.replicate n.toNat u).toArray:=ef;rw[ef];refine⟨.ref s.heap.objs.size,_,I.laid (t':=s.toks) (o:=.tup (List.replicate n.toNat w)) (λb ob q=>Ug _ q) (Um _) ?_,rfl,q2 e _ (I.hok.fresh (Um _))⟩;exact⟨by rw[U2];have:=Tn;omega,_,Qhg ru _,IsTup.new _ _⟩
end
section
variable{X:Cx}{ca:Nat->Addr}{a b:Expr}{ma mb:ME}{pos:Pos}
theorem Qhi(ha:PE3 ca X a ma)(hb:PE3 ca X b mb):PE3 ca X (.BinOp a .Mult b pos) (mOp2 Qdq ma mb):=
 QhT (r:=Qpn X.K) (λpn Φ=>Qnq (X:=xat X ca pn Φ)) (λΦ σ H μ g x y dx dy Q r qx qy p=>by
  unfold Qdq at p;cases qx with
  |@tup ax xs dsx hx hsx=>
   cases qy with
   |int n=>
    cases hsx with
    |nil=>exact p.elim|cons q1 qs=>
     cases qs with
     |nil=>
      dsimp only at p;by_cases z:1<=n/\n<=1000
      ·rw[Uj z]at p;refine⟨ax,_,n,rfl,rfl,hx,z.1,z.2,λe=>?_,λ_ l hl=>p _ _ μ (Zo hl) (r.new hl) (.tup (.of Qr) ((Qhh q1 _).mono (Zo hl)))⟩;subst e;exact p _ H μ .refl r (.tup hx (.cons q1 .nil))
      ·rw[Uo z]at p;exact p.elim
     |cons _ _=>exact p.elim
   |_=>cases hsx with
    |nil=>exact p.elim|cons _ qs=>cases qs<;>exact p.elim
  |_=>exact p.elim) ha hb
end
end L3
namespace L3
open PySem
def Ym(x y:D)(g:G):Res D:=match x,y with
 |.ref n,.str z=>(match g[n]? with
  |some (.dct ks)=>(match dGet ks (.inr z) with
   |some v=>.ok v g|none=>.stuck)
  |_=>.stuck)
 |_,_=>.stuck
end L3
namespace L3
open PySem PySem.Spec PyProof.Rows L2
section
variable{X:Cx}{ca:Nat->Addr}{a b:Expr}{ma mb:ME}{pos:Pos}
theorem QjK{K:Frag}:Jc K ca (λx y H Q=>∃a kvs k v,x=.ref a/\y=kV k/\H a=some (.dK kvs)/\valV kvs k=some v/\Q v H) Ym:=by
 intro Φ σ H μ g x y dx dy Q r qx qy p;unfold Ym at p;cases qx with
 |@ref n t hn=>
  cases qy with
  |str i=>
   dsimp only at p;cases hg:g[n]? with
   |none=>rw[hg]at p;exact p.elim|some ob=>
    rw[hg]at p;obtain⟨t',ht',orp⟩:=r.addr hg;rw[hn]at ht';cases ht';cases ob with
    |dct ks=>
     obtain⟨kv,hH,q⟩:=orp;dsimp only at p;rcases q.get (.inr i) with⟨a,b⟩|⟨v,d,a,b,c⟩
     ·rw[b]at p;exact p.elim
     ·rw[b]at p;exact⟨t,kv,.inr i,v,rfl,rfl,hH,a,p v H μ .refl r c⟩
    |_=>exact p.elim
  |_=>exact p.elim
 |_=>cases qy<;>exact p.elim
theorem J8(ha:PE3 ca X a ma)(hb:PE3 ca X b mb)(hs:QdX b:=by exact λ_ _=>rfl):PE3 ca X (.Subscript a b pos) (mOp2 Ym ma mb):=r_ix (λ_ _=>Qlo) QjK ha hb hs
end
end L3
namespace L3
open PySem
def QjL(f:SKd×D->D)(x:D)(g1:G):Res Src:=match x with
 |.ref n=>(match g1[n]? with
  |some (.dcn τ ks)=>.ok ⟨λ_ i=>some (ks.map f)[i]?,ks.length⟩ (g1.set n (.dcf τ ks))|_=>.stuck)
 |_=>.stuck
def QhZ(f:SKd×D->D)(e:ME):MI:=λσ g=>(e σ g).bind (QjL f)
def mItN:=QhZ λp=>kD p.1
def mItV:=QhZ λp=>p.2
def Qfh(i:Nat)(n:Nat)(cap:List Nat)(t:MG)(c:MT)(e:ME):ME:=λσ g=>match mVar i σ g with
 |.ok (.ref r) _=>(match Za (mItN (mVar i)) n cap t c e σ g with
  |.ok d g'=>(match g[r]?,g'[r]? with
   |some (.dcn _ _),some (.dcf τ ks)=>.ok d (g'.set r (.dcn τ ks))|_,_=>.stuck)
  |_=>.stuck)
 |_=>.stuck
end L3
namespace L3
open PySem PySem.Spec PyProof.Rows L2
section
variable{X:Cx}{ca:Nat->Addr}
def Itn(a:Addr)(o:Obj)(xs:List (NK.SK×Addr×Value))(ws:List V):It:=⟨λi H=>H a=some (.frz o (ND a xs))/\i<xs.length,λi H x H'=>H'=H/\ws[i]?=some x,λi H=>H a=some (.frz o (ND a xs))/\xs.length<=i⟩
theorem QjM:∀{ws:List V}{us:List Value},Vals ws us->∀{i:Nat}{u:Value},us[i]?=some u->∃x,ws[i]?=some x/\RelV x u
 |_,_,.nil,i,u,h=>by cases h
 |_,_,.cons a r,0,u,h=>by cases h;exact⟨_,rfl,a⟩
 |_,_,.cons a r,i+1,u,h=>QjM r h
theorem QjN(I:Inv X pins σ H s)(e:H a=some (.frz o (ND a xs)))(hoe:o.data=.dict es ep):NK.DE s.heap a es ep/\es.toList=NK.ents xs:=by obtain⟨ho,⟨o',es',ep',ho',hc,hd,he⟩,_⟩:=(show ObjOk X.prog X.w H s.heap a (.frz o (.ext (NK.DObj a xs))) from I.hok a _ e);rw[ho]at ho';cases ho';rw[hoe]at hd;cases hd;exact⟨⟨o,ho,hc,hoe⟩,he⟩
theorem Qnr{es:Array DictEntry}{xs:List (NK.SK×Addr×Value)}(h:es.toList=NK.ents xs){i:Nat}(hi:i<es.size)(hx:i<xs.length):es[i].key=.ref xs[i].2.1/\es[i].val=xs[i].2.2:=by
 have e1:es.toList[i]?=some es[i]:=by simp[hi]
 rw[h]at e1;unfold NK.ents at e1;rw[UK,UV hx]at e1;injection e1 with e1;rw[<-e1];exact⟨rfl,rfl⟩
theorem Qmm(b:Bool){P:Program}{w:World}{K:Frag}{tg:Expr}(a it:Addr){o:Obj}{es:Array DictEntry}{ep:Nat}{xs:List (NK.SK×Addr×Value)}{ws:List V}(hoe:o.data=.dict es ep)(hv:Vals ws (xs.map λx=>if b=true then x.2.2 else .ref x.2.1)):Turn P w K tg (Itn a o xs ws) [it] it (λi h=>NK.itIs b h it a i es.size ep) where
 mem:=by simp
 obj:=λi h st b' hb=>by
  have e:b'=it:=by simpa using hb
  subst e;cases b;all_goals
   obtain⟨o,e,c,d⟩:=id st;exact⟨o,e,λv z=>by rw[d]at z;cases z⟩
 keep:=λi h h' st k=>by
  cases b;all_goals
   obtain⟨o,e,c⟩:=id st;exact⟨o,k it (by simp) o e,c⟩
 item:=by
  intro X hP hw hK hc i pins s σ H E I hf st hg;subst hP hw hK;obtain⟨e,hi⟩:=hg;obtain⟨de,he⟩:=QjN I e hoe;obtain⟨f0,f1,f2,f3,f4,f5⟩:=hf it (by simp);have hsz:=Qa5 he;have hi':i<es.size:=by omega
  refine NK.next_item b st de hi' λh' st' sb=>?_;have I1:Inv X pins σ H {s with heap:=h'}:=I.turned (t':=s.toks) (λb o hb e=>(sb.2 b hb).trans e) f0 f1 f3 f4 f5;obtain⟨v,hw,rv⟩:=QjM hv (i:=i) (u:=if b=true then xs[i].2.2 else .ref xs[i].2.1) (by simp[hi]);obtain⟨k1,k2⟩:=Qnr he hi' hi;rw[k1,k2];refine⟨_,rfl,?_⟩;have fin:∃x H',Inv X pins σ H' {s with heap:=h'}/\RelV x (if b=true then xs[i].2.2 else .ref xs[i].2.1)/\(Itn a o xs ws).yld i H x H'/\NK.itIs b h' it a (i+1) es.size ep/\∀b∈[it],H' b=none:=⟨v,H,I1,rv,⟨rfl,hw⟩,st',λb hb=>(hf b hb).1⟩;cases b;all_goals
   obtain⟨ob,e',c,d⟩:=id st';exact QkV (s:={s with heap:=h'}) e' c d (by decide) fin
 done:=by intro X hP hw hK hc i pins s σ H E I hf st hg;subst hP hw hK;obtain⟨e,hi⟩:=hg;obtain⟨de,he⟩:=QjN I e hoe;obtain⟨f0,f1,f2,f3,f4,f5⟩:=hf it (by simp);have hsz:=Qa5 he;exact NK.next_end b (I.ok.hd hc) st de (by omega) λh' eb=>⟨rfl,I.turned (t':=s.toks) (λb o hb e=>eb b o hb e) f0 f1 f3 f4 f5⟩
 self:=λ_ _ _ _ _ st h=>by
  cases b
  ·exact wpAny_pyIter_keyiter st h
  ·exact wpAny_pyIter_valiter st h
theorem QjO(I:Inv X pins σ H s)(e:H a=some (ND a xs))(ho:s.heap.get? a=some o):Inv X pins σ (upd H a (.frz o (ND a xs))) s:=by obtain⟨x,_⟩:=(show ObjOk X.prog X.w H s.heap a (.ext (NK.DObj a xs)) from I.hok a _ e);exact I.write (x:=a) (e:=a) (h':=s.heap) (t':=s.toks) (o:=.frz o (ND a xs)) (by rw[e];trivial) (.inl rfl) (λ_ _ _ h=>h) ⟨o,ho⟩ ⟨ho,Qjz x⟩
theorem Qns{tg l:Expr}{tl:TE}(hl:PE X l tl):PI X tg l (λσ H R=>tl σ H λx H1=>∃a xs ws,x=.ref a/\H1 a=some (ND a xs)/\(a==sysModules)=false/\Vals ws (xs.map λx=>Value.ref x.2.1)/\∀o,R (Itn a o xs ws) (upd H1 a (.frz o (ND a xs)))):=by
 intro pins s σ H R I h;refine thn (hl pins s σ H _ I h) λv s1 ⟨x,H1,I1,r1,q1⟩=>?_;obtain⟨a,xs,ws,rfl,e,hs,hv,q⟩:=q1;cases r1;obtain⟨es,ep,de,he⟩:=Qlr I1 e;obtain⟨o,ho,hc,hd⟩:=id de;have I2:=QjO I1 e ho;refine NK.iterK hs de ?_;refine⟨s1.heap.objs.size,[s1.heap.objs.size],_,_,_,rfl,I2.kept (t':=s1.toks) λb o e=>Ug _ e,Qmm false a _ hd hv,⟨_,UA _ rfl,rfl,rfl⟩,λb hb=>?_,q o⟩;have e:b=s1.heap.objs.size:=by simpa using hb
 subst e;exact I2.fpOk (Um _) (I2.hok.fresh (Um _))
theorem Qnt{tg l:Expr}{tl:TE}{apos cpos:Pos}(hl:PE X l tl)(hbase:attributeBase l "values" X.env (eval l X.env)=eval l X.env)(hline:(apos.endLine==cpos.line)=true):
  PI X tg (.Call (.Attribute l "values" apos) [] [] cpos) (λσ H R=>tl σ H λx H1=>∃a xs ws,x=.ref a/\H1 a=some (ND a xs)/\(a==sysModules)=false/\Vals ws (xs.map λx=>x.2.2)/\∀o,R (Itn a o xs ws) (upd H1 a (.frz o (ND a xs)))):=by
 intro pins s σ H R I h;refine wpAny_Call_method0_late hbase hline (thn (hl pins s σ H _ I h) λv s1 ⟨x,H1,I1,r1,q1⟩=>?_);obtain⟨a,xs,ws,rfl,e,hs,hv,q⟩:=q1;cases r1;obtain⟨es,ep,de,he⟩:=Qlr I1 e;obtain⟨o,ho,hc,hd⟩:=id de;have I2:=QjO I1 e ho;refine⟨"dict","dict.values",WT,WN,rfl,⟨o,ho,hc.1⟩,λa e=>by cases e;exact⟨o,ho,hc.2.1⟩,?_⟩;refine Ri rfl (PySem.evalArgs_none ?_);refine Ww WN de.typeIs PySem.F.entry_dict_values (PySem.F.args_dict_values_1 _) (NK.valuesK hs) ⟨⟨es,ep,de⟩,?_⟩;have kp:∀b ob,s1.heap.get? b=some ob->(s1.heap.push {cls:=.type "dict_values",data:=.fields #[.ref a]}).get? b=some ob:=λb ob e=>Ug _ e;refine NK.iterV (s:={s1 with heap:=s1.heap.push {cls:=.type "dict_values",data:=.fields #[.ref a]} }) ⟨_,UA _ rfl,rfl,rfl⟩ (de.at' λo e=>kp _ _ e) ?_;have I3:Inv X pins σ (upd H1 a (.frz o (ND a xs))) {s1 with heap:=s1.heap.push {cls:=.type "dict_values",data:=.fields #[.ref a]} }:=I2.kept (t':=s1.toks) kp;refine⟨_,[_],_,_,_,rfl,I3.kept (t':=s1.toks) λb o e=>Ug _ e,Qmm true a _ hd hv,⟨_,UA _ rfl,rfl,rfl⟩,λb hb=>?_,q o⟩;have e:b=(s1.heap.push {cls:=.type "dict_values",data:=.fields #[.ref a]}).objs.size:=by simpa using hb
 subst e;exact I3.fpOk (Um _) (I3.hok.fresh (Um _))
end
section
variable{X:Cx}{ca:Nat->Addr}{e tg:Expr}{me:ME}{p pos:Pos}
theorem QjP{K:Frag}{μ:List Addr}{H:Hp}:∀{ws:List V}{ds:List D},Dens K μ H ws ds->∀{i:Nat}{x:V},ws[i]?=some x->∃d,ds[i]?=some d/\Den K μ H x d
 |_,_,.nil,i,u,h=>by cases h
 |_,_,.cons a r,0,u,h=>by cases h;exact⟨_,rfl,a⟩
 |_,_,.cons a r,i+1,u,h=>QjP r h
theorem Qqm{K:Frag}{μ:List Addr}{H:Hp}{a:Addr}{o:Obj}{xs:List (NK.SK×Addr×Value)}{ws:List V}{ds:List D}{n:Nat}(h:H a=some (.frz o (ND a xs)))(hl:xs.length=ds.length)(dn:Dens K μ H ws ds):Sim K ca μ H ⟨λ_ i=>some ds[i]?,n⟩ (Itn a o xs ws):=by
 intro i H1 μ1 g1 e r;dsimp only;have h1:=e.frz _ _ _ h;by_cases hi:i<ds.length
 ·rw[UV hi];exact⟨⟨h1,by omega⟩,λx H' y=>by obtain⟨rfl,y1⟩:=y;obtain⟨d,z1,z2⟩:=QjP dn y1;rw[UV hi]at z1;cases z1;exact⟨.refl,r,z2.mono e⟩⟩
 ·rw[Wb (Rw hi)];exact⟨h1,by omega⟩
theorem Qqn{K:Frag}{τ:Bool}{μ:List Addr}{H:Hp}{xs:List (NK.SK×Addr×Value)}{ks:List (NK.SK×D)}(h:NRel K τ μ H xs ks):∃ws,Vals ws (xs.map λx=>x.2.2)/\Dens K μ H ws (ks.map λp=>p.2):=by
 unfold NRel at h;induction h with
 |nil=>exact⟨[],.nil,.nil⟩|cons a _ ih =>obtain⟨_,_,v,h1,h2⟩:=a;obtain⟨ws,h3,h4⟩:=ih;exact⟨v::ws,.cons h1 h3,.cons h2 h4⟩
theorem Qhj:∀xs:List (NK.SK×Addr×Value),Vals (xs.map λx=>V.ref x.2.1) (xs.map λx=>Value.ref x.2.1)
 |[]=>.nil|_::r=>.cons rfl (Qhj r)
def Qqo(K:Frag)(ca:Nat->Addr)(Φ:XS)(σ:L2.St)(R:It->Hp->Prop)(H:Hp)(μ:List Addr):Res Src->Prop
 |.ok src g'=>∀J H' μ',Ext K μ H μ' H'->GRep K ca μ' H' g'->Sim K ca μ' H' src J->R J H'|.raise x g'=>RaP K ca Φ σ H μ x g'|.stuck=>False
theorem Qmn{K:Frag}{f:NK.SK×D->D}{u:NK.SK×Addr×Value->Value}{R:It->Hp->Prop}{Φ:XS}{σ:L2.St}{H H1:Hp}{μ μ1:List Addr}{g1:G}{v:V}{d:D}(e1:Ext K μ H μ1 H1)(r1:GRep K ca μ1 H1 g1)(q1:Den K μ1 H1 v d)(hS:∀τ μ H xs ks,NRel K τ μ H xs ks->∃ws,Vals ws (xs.map u)/\Dens K μ H ws (ks.map f))(p:Qqo K ca Φ σ R H μ (QjL f d g1)):∃a xs ws,v=.ref a/\H1 a=some (ND a xs)/\(a==sysModules)=false/\Vals ws (xs.map u)/\∀o,R (Itn a o xs ws) (upd H1 a (.frz o (ND a xs))):=by
 unfold QjL at p;cases q1 with
 |@ref n a hn=>
  dsimp only at p;cases hg:g1[n]? with
  |none=>rw[hg]at p;exact p.elim|some ob=>
   rw[hg]at p;obtain⟨a',ha',orp⟩:=r1.addr hg;rw[hn]at ha';cases ha';cases ob with
   |dcn τ ks =>obtain⟨xs,hH,nr,nd,hs⟩:=orp;have ex:∀o,Ext K μ1 H1 μ1 (upd H1 a (.frz o (ND a xs))):=λo=>Ya hH (λ_ z=>by unfold ND at z;cases z) (λ_ _ z=>by unfold ND at z;cases z);obtain⟨ws,hv,dn⟩:=hS _ _ _ _ _ nr;exact⟨a,xs,ws,rfl,hH,hs,hv,λo=>p _ _ μ1 (e1.trans (ex o)) (r1.set hn hH (λ_ z=>by unfold ND at z;cases z) (λ_ _ z=>by unfold ND at z;cases z) ⟨o,xs,Qr,nr.mono (ex o),nd,hs⟩) (Qqm Qr ((Paired.length nr).trans (Ub ..).symm) (dn.mono (ex o)))⟩
   |_=>exact p.elim
 |_=>exact p.elim
theorem Qqp(he:PE3 ca X e me):PI3 ca X tg e (mItN me):=
 λpn Φ=>Qd5 (Qns (X:=xat X ca pn Φ) (he pn Φ)) λσ H R hQ=>by
  obtain⟨σ3,g,μ,Rp,p⟩:=hQ;unfold mItN QhZ at p;refine⟨σ3,g,μ,Rp,?_⟩;cases hm:me σ3 g with
  |raise _ _=>rw[hm]at p;exact p|stuck=>rw[hm]at p;exact p.elim|ok d g1 =>rw[hm,Res.bind_ok]at p;intro v H1 μ1 e1 r1 q1;exact Qmn (Φ:=Φ) (σ:=σ) e1 r1 q1 (λτ μ H xs ks nr=>⟨_,Qhj xs,Qno nr⟩) p
theorem Qqq(he:PE3 ca X e me)(hbase:attributeBase e "values" X.env (eval e X.env)=eval e X.env:=by rfl)(hline:(apos.endLine==cpos.line)=true:=by rfl):PI3 ca X tg (.Call (.Attribute e "values" apos) [] [] cpos) (mItV me):=
 λpn Φ=>Qd5 (Qnt (X:=xat X ca pn Φ) (he pn Φ) hbase hline) λσ H R hQ=>by
  obtain⟨σ3,g,μ,Rp,p⟩:=hQ;unfold mItV QhZ at p;refine⟨σ3,g,μ,Rp,?_⟩;cases hm:me σ3 g with
  |raise _ _=>rw[hm]at p;exact p|stuck=>rw[hm]at p;exact p.elim|ok d g1 =>rw[hm,Res.bind_ok]at p;intro v H1 μ1 e1 r1 q1;exact Qmn (Φ:=Φ) (σ:=σ) e1 r1 q1 (λτ μ H xs ks nr=>Qqn nr) p
end
end L3
namespace L3
open PySem PySem.Spec PyProof.Rows L2
theorem Qqr(I:Inv X pins σ H s)(e:H t=some (.frz o (ND t kv)))(hn:∀o u,X.H₀ t≠some (.frz o u)):Inv X pins σ (upd H t (ND t kv)) s:=by
 obtain⟨ho,hk⟩:=(show ObjOk X.prog X.w H s.heap t (.frz o (ND t kv)) from I.hok t _ e);have ne:∀{b:Addr},H b=none->b≠t:=λh=>(QZ e h).symm;have hu:∀{b:Addr},b≠t->upd H t (ND t kv) b=H b:=λh=>QL h;refine⟨I.ok,I.os,I.bare,⟨I.base.keep,I.base.slot,λb ob h1 h2 h3=>?_,I.base.there,λb xs h=>?_,λb ob u h=>?_,λb ps h=>?_⟩,I.loc,I.cell,?_,λx c h=>?_,λp hp=>?_,?_,I.len⟩
 ·have:=I.base.free b ob h1 h2 h3;rw[hu (ne this)];exact this
 ·have:=I.base.tups b xs h;rw[hu (QdR this e (λz=>by cases z))];exact this
 ·have:=I.base.frzs b ob u h;rw[hu (λz=>by subst z;exact hn _ _ h)];exact this
 ·obtain⟨more,h2⟩:=I.base.tbls b ps h;exact⟨more,by rw[hu (QdR h2 e (λz=>by cases z))];exact h2⟩
 ·rw[hu (ne I.free)];exact I.free
 ·rw[hu (ne (I.freeC x c h))];exact I.freeC x c h
 ·obtain⟨a1,a2,a3⟩:=I.pin p hp;exact⟨a1,by rw[hu (ne a2)];exact a2,a3⟩
 ·intro b u q;by_cases hb:b=t
  ·subst hb;rw[Qr]at q;cases q;exact hk
  ·rw[hu hb]at q;exact(I.hok b u q).stay (λ_ _ _ z=>z) (λc z=>by rw[hu (QdR z e (λz=>by cases z))];exact z) λc xs z=>by rw[hu (QdR z e (λz=>by cases z))];exact z
section
variable{K:Frag}{ca:Nat->Addr}{μ:List Addr}{H H':Hp}
mutual
theorem Den.mv(ft:∀a xs,SqT K H a xs->SqT K H' a xs)(ff:∀a xs,SqF K H a xs->SqF K H' a xs):∀{v:V}{d:D},Den K μ H v d->Den K μ H' v d
 |_,_,.non=>.non|_,_,.bl b=>.bl b|_,_,.int i=>.int i|_,_,.str x=>.str x|_,_,.ref h=>.ref h|_,_,.tup h hs=>.tup (ft _ _ h) (Dens.mv ft ff hs)|_,_,.fl h hs=>.fl (ff _ _ h) (Dens.mv ft ff hs)
theorem Dens.mv(ft:∀a xs,SqT K H a xs->SqT K H' a xs)(ff:∀a xs,SqF K H a xs->SqF K H' a xs):∀{vs:List V}{ds:List D},Dens K μ H vs ds->Dens K μ H' vs ds
 |_,_,.nil=>.nil|_,_,.cons h hs=>.cons (Den.mv ft ff h) (Dens.mv ft ff hs)
end
theorem ORep.mv(ft:∀a xs,SqT K H a xs->SqT K H' a xs)(ff:∀a xs,SqF K H a xs->SqF K H' a xs)(ha:∀u,H a=some u->H' a=some u)(h:ORep K ca μ H a o):ORep K ca μ H' a o:=by
 cases o with
 |lst ds=>obtain⟨vs,h,q⟩:=h;exact⟨vs,ha _ h,q.mv ft ff⟩|ins c fs=>obtain⟨dx,fv,h,q⟩:=h;exact⟨dx,fv,ha _ h,Paired.imp' (λ_ _ q=>⟨q.1,q.2.mv ft ff⟩) q⟩|dct ks=>obtain⟨kv,h,q⟩:=h;exact⟨kv,ha _ h,Paired.imp' (λ_ _ q=>⟨q.1,q.2.mv ft ff⟩) q⟩|exc x=>exact ha _ h|dfz ks=>obtain⟨o,kv,h,q⟩:=h;exact⟨o,kv,ha _ h,Paired.imp' (λ_ _ q=>⟨q.1,q.2.mv ft ff⟩) q⟩|dcf t ks=>obtain⟨o,xs,h,q,r⟩:=h;exact⟨o,xs,ha _ h,Paired.imp' (λ_ _ q=>⟨q.1,let ⟨d,a,b⟩:=q.2.1;⟨d,a,b.mv ft ff⟩,let ⟨v,a,b⟩:=q.2.2;⟨v,a,b.mv ft ff⟩⟩) q,r⟩|dcn t ks=>obtain⟨xs,h,q,r⟩:=h;exact⟨xs,ha _ h,Paired.imp' (λ_ _ q=>⟨q.1,let ⟨d,a,b⟩:=q.2.1;⟨d,a,b.mv ft ff⟩,let ⟨v,a,b⟩:=q.2.2;⟨v,a,b.mv ft ff⟩⟩) q,r⟩
end
section
variable{X:Cx}{ca:Nat->Addr}{E:Expr}{i n:Nat}{cap:List Nat}{t:MG}{c:MT}{e:ME}
theorem Qnu(h:PE3 ca X E (Za (mItN (mVar i)) n cap t c e)):PE3 ca X E (Qfh i n cap t c e):=λpn Φ pins s σ H Q I hq=>by
 obtain⟨σ3,g,μ,R,q⟩:=hq;unfold Qfh at q;cases hm:mVar i σ3 g with
 |raise _ _=>rw[hm]at q;exact q.elim|stuck=>rw[hm]at q;exact q.elim|ok d0 g0=>
  rw[hm]at q;cases d0 with
  |ref r=>
   dsimp only at q;cases hc:Za (mItN (mVar i)) n cap t c e σ3 g with
   |raise _ _=>rw[hc]at q;exact q.elim|stuck=>rw[hc]at q;exact q.elim|ok d g'=>
    rw[hc]at q;dsimp only at q;cases hg:g[r]? with
    |none=>rw[hg]at q;exact q.elim|some ob=>
     cases hg':g'[r]? with
     |none=>rw[hg,hg']at q;cases ob<;>exact q.elim|some ob'=>
      rw[hg,hg']at q;cases ob with
      |dcn τ0 ks0=>
       cases ob' with
       |dcf τ ks=>
        obtain⟨a,ha,kv0,hH0,_⟩:=R.g.addr hg;unfold ND at hH0;have hne:∀o u,X.H₀ a≠some (.frz o u):=λo u z=>by have:=I.base.frzs a o u z;rw[hH0]at this;cases this
        have key:=h pn Φ pins s σ H (λv H'=>∃μ',Ext X.K μ H μ' H'/\GRep X.K ca μ' H' g'/\Den X.K μ' H' v d) I ⟨σ3,g,μ,R,by rw[hc];exact λv H' μ' ex gr dn=>⟨μ',ex,gr,dn⟩⟩;refine Tf key (λv s' hv=>?_) λ_ _ z=>z;obtain⟨x,H',I',rx,μ',ex,gr,dn⟩:=hv;obtain⟨a',ha',o,kv,hH',kr,knd,ksm⟩:=gr.addr hg';rw[ex.at ha]at ha';cases ha';have hu:∀{b:Addr},b≠a->upd H' a (ND a kv) b=H' b:=λh=>QL h;have tups:∀b xs,SqT X.K H' b xs->SqT X.K (upd H' a (ND a kv)) b xs:=λb xs hb=>by
         rcases hb with(z|⟨u,z⟩)|z
         ·exact .inl (.inl (by rw[hu (QdR z hH' (λz=>by cases z))];exact z))
         ·by_cases hb:b=a
          ·subst hb;rw[hH']at z;cases z
          ·exact .inl (.inr ⟨u,by rw[hu hb];exact z⟩)
         ·exact .inr z
        have fls:∀b xs,SqF X.K H' b xs->SqF X.K (upd H' a (ND a kv)) b xs:=λb xs hb=>by
         rcases hb with⟨u,z⟩|z
         ·by_cases hb:b=a
          ·subst hb;rw[hH']at z;cases z
          ·exact .inl ⟨u,by rw[hu hb];exact z⟩
         ·exact .inr z
        have exF:Ext X.K μ H μ' (upd H' a (ND a kv)):=⟨ex.pre,λb xs z=>tups b xs (ex.tup b xs z),λb xs z=>fls b xs (ex.fl b xs z),λb o u z=>by rw[hu (λy=>by subst y;rw[hH0]at z;cases z)];exact ex.frz b o u z⟩;have ar:=ex.at ha;refine⟨x,upd H' a (ND a kv),Qqr I' hH' hne,rx,q x _ μ' exF ⟨by rw[UG];exact gr.len,gr.nd,λm b w h1 h2=>?_⟩ (dn.mv tups fls)⟩;by_cases em:m=r
        ·subst em;rw[ar]at h1;cases h1;rw[UU (Ul.mp hg').1]at h2;cases h2;exact⟨kv,Qr,Paired.imp' (λ_ _ q=>⟨q.1,let ⟨d,a,b⟩:=q.2.1;⟨d,a,b.mv tups fls⟩,let ⟨v,a,b⟩:=q.2.2;⟨v,a,b.mv tups fls⟩⟩) kr,knd,ksm⟩
        ·rw[Uc (Ne.symm em)]at h2;have nb:b≠a:=λz=>by subst z;obtain⟨l1,q1⟩:=Ul.mp h1;obtain⟨l2,q2⟩:=Ul.mp ar;exact em ((WW gr.nd).mp (q1.trans q2.symm))
         exact(gr.obj m b w h1 h2).mv tups fls λu z=>by rw[hu nb];exact z
       |_=>exact q.elim
      |_=>cases ob'<;>exact q.elim
  |_=>exact q.elim
end
end L3
namespace L3
open PySem
def QcR:List D->Option (List (Str×D))
 |[]=>some []|.str k::v::r=>(QcR r).map ((k,v) :: ·)|_=>none
def putS(ks:List (DK×D)):List (Str×D)->List (DK×D)
 |[]=>ks| (k,v)::r=>putS (dPut ks (.inr k) v) r
def Qh0(n:Nat)(ds:List D)(g':G):Res D:=match QcR ds,g'[n]? with
 |some ps,some (.dct [])=>if ps.length<=15 then .ok (.ref n) (g'.set n (.dct (putS [] ps))) else .stuck
 |_,_=>.stuck
def QaK(a:MA):ME:=λσ g=>(a σ (g++[.dct []])).bind (Qh0 g.length)
end L3
namespace L3
open PySem PySem.Spec PyProof.Rows L2
def Qnv(ps:List (Value×Value)):List Value:=ps.flatMap λp=>[p.1,p.2]
def PP(X:Cx)(pos:Pos)(ks:List (Option Expr))(vs:List Expr)(t:TA):Prop:=∀(pins:LAO)(s:Shared)(σ:L2.St)(H:Hp)(Q:List V->Hp->Prop),Inv X pins σ H s->t σ H Q->wpAny (model X.prog X.w) X.A (evalPairs (pairTrees ks vs X.env pos)) (λps s1=>AP X pins σ Q (Qnv ps) s1) X.xe s
def PP3(ca:Nat->Addr)(X:Cx)(pos:Pos)(ks:List (Option Expr))(vs:List Expr)(m:MA):Prop:=∀pn Φ,PP (xat X ca pn Φ) pos ks vs (upA X.K ca Φ m)
section
variable{X:Cx}{ca:Nat->Addr}{pos:Pos}{k v:Expr}{ks:List (Option Expr)}{vs:List Expr}{mk mv:ME}{m:MA}
theorem Qnw(hk:PE X k tk)(hv:PE X v tv)(hr:PP X pos ks vs t):PP X pos (some k::ks) (v::vs) (λσ H Q=>tk σ H λx H1=>tv σ H1 λy H2=>t σ H2 λws H3=>Q (x::y::ws) H3):=by intro pins s σ H Q I h;refine evalPairs_cons (thn (hk pins s σ H _ I h) λkv s1 ⟨x,H1,I1,r1,q1⟩=>?_);refine Ua (thn (hv pins s1 σ H1 _ I1 q1) λvv s2 ⟨y,H2,I2,r2,q2⟩=>Ua (WQ (Ud ?_)));exact thn (hr pins s2 σ H2 _ I2 q2) λps s3 ⟨ws,H3,I3,r3,q3⟩=>⟨x::y::ws,H3,I3,.cons r1 (.cons r2 r3),q3⟩
theorem QjQ:PP3 ca X pos [] [] mNil:=λpn Φ pins s σ H Q I ⟨_,_,μ,R,p⟩=>Ud ⟨[],H,I,.nil,p [] H μ .refl R.g .nil⟩
theorem Qbz(hk:PE3 ca X k mk)(hv:PE3 ca X v mv)(hr:PP3 ca X pos ks vs m):PP3 ca X pos (some k::ks) (v::vs) (Qa mk (Qa mv m)):=λpn Φ pins s σ H Q I ⟨σ3,g,μ,R,p⟩=>Qnw (X:=xat X ca pn Φ) (hk pn Φ) (hv pn Φ) (hr pn Φ) pins s σ H Q I (Q2 (Qm8 R p) λx H1 ⟨d,g1,μ1,e1,R1,q1,p1⟩=>
  Q2 (Qm8 R1 (k:=λy g2=>(m σ3 g2).bind λzs g3=>.ok (d::y::zs) g3) (by
   unfold Qa at p1;cases hm:mv σ3 g1 with
   |raise _ _=>rw[hm]at p1;exact p1|stuck=>rw[hm]at p1;exact p1|ok y g2=>
    rw[hm,Res.bind_ok]at p1;rw[Res.bind_ok];cases hm2:m σ3 g2 with
    |raise _ _=>rw[hm2]at p1;exact p1|stuck=>rw[hm2]at p1;exact p1|ok zs g3=>rw[hm2]at p1;exact p1)) λy H2 ⟨d2,g2,μ2,e2,R2,q2,p2⟩=>
   Jd (Ql9 R2 p2) λxs H3 ⟨ds,g3,μ3,e3,R3,q3,p3⟩=>p3 (x::y::xs) H3 μ3 .refl R3.g (.cons ((q1.mono e2).mono e3) (.cons (q2.mono e3) q3)))
theorem Qnx{t:TA}{F:Addr->HO}(hF:∀(h:Heap) (H:Hp),sysModules<h.objs.size->ObjOk X.prog X.w H (h.push {cls:=.type "dict",data:=.dict #[]}) h.objs.size (F h.objs.size))(hp:PP X pos ks vs t)(hall:ks.all (·.isSome)=true)(hl:ks.length=vs.length)(h0:ks≠[])(hlen:ks.length<=15):
  PE X (.Dict ks vs pos) (λσ H Q=>∀p,H p=none->(p==sysModules)=false->t σ (upd H p (F p)) λws H1=>∀pins s ps,Inv X pins σ H1 s->Vals ws (Qnv ps)->wpAny (model X.prog X.w) X.A (storeAll p ps) (λ_ s2=>EP X pins σ Q (.ref p) s2) X.xe s):=by
 intro pins s σ H Q I h;have hb:(s.heap.objs.size==sysModules)=false:=U9.mpr (Ne.symm (UP I.big));have I1:=I.laid (a:=s.heap.objs.size) (o:=F s.heap.objs.size) (t':=s.toks) (λ_ _ q=>Ug _ q) (Um _) (hF s.heap (upd H s.heap.objs.size (F s.heap.objs.size)) I.big);refine wpAny_Dict_any hall hl h0 hlen ?_;exact thn (hp pins _ σ _ _ I1 (h _ (I.hok.fresh (Um _)) hb)) λps s1 ⟨ws,H1,I2,rv,q⟩=>q pins s1 ps I2 rv
theorem Qpo(hn:μ[n]?=some p):∀(ps:List (Value×Value))(ws:List V)(ds:List D)(prs:List (Str×D))(ks:List (Key×D))(H:Hp)(g:G)(s:Shared)(Q:PUnit->Shared->Prop),Inv X pins σ H s->GRep X.K ca μ H g->g[n]?=some (.dct ks)->Vals ws (Qnv ps)->Dens X.K μ H ws ds->QcR ds=some prs->ks.length+prs.length<=1000->(∀H' s',Inv X pins σ H' s'->Ext X.K μ H μ H'->GRep X.K ca μ H' (g.set n (.dct (putS ks prs)))->Q ⟨⟩ s')->wpAny (model X.prog X.w) A (storeAll p ps) Q E s:=by
 intro ps;induction ps with
 |nil=>
  intro ws ds prs ks H g s Q I r hg rv dn hp _ hQ;cases rv;cases dn;cases hp;unfold storeAll;rw[List.forIn_nil];refine Ud (hQ H s I .refl ?_);show GRep X.K ca μ H (g.set n (.dct ks));have e:g.set n (.dct ks)=g:=by
   refine List.ext_getElem? λi=>?_;by_cases z:i=n
   ·subst z;rw[UU (Ul.mp hg).1,hg]
   ·rw[Uc (Ne.symm z)]
  rw[e];exact r
 |cons x ps ih=>
  intro ws ds prs ks H g s Q I r hg rv dn hp hz hQ;cases rv with
  |cons ra rv=>cases rv with
   |@cons yv _ _ _ rb rv=>
    cases dn with
    |cons da dn=>cases dn with
     |@cons _ db _ _ dbh dn=>
      cases da with
      |str kk=>
       obtain⟨prs',hp',rfl⟩:=U8.mp (show(QcR _).map _=some prs from hp);obtain⟨p',hp2,kv,hH,kr⟩:=r.addr hg;rw[hn]at hp2;cases hp2;obtain⟨z,hd,vs,rel,dd⟩:=Qpb I.hok hH;have hkl:kv.length=ks.length:=Paired.length kr;have hs:sizeLine=16777216:=Tn;rw[Uy]at hz;have hl2:(putK kv (.inr kk) yv).length<=sizeLine:=Ue (Qf4 kv (.inr kk) yv) (by omega);unfold storeAll;rw[List.forIn_cons];refine Ua (Ua (wpAny_dictSet_pairs (hsz:=by rw[<-rel.length];omega) (Qpa (k:=.inr kk) ra) dd λh' dd' hs'=>Ud ?_));have he:∃q,h'.get? p=some q:=let ⟨q,_,_,hq,_⟩:=dd';⟨q,hq⟩;have I1:=Qf5 (t':=s.toks+1) I (by rw[hH];exact True.intro) hs' he (Qpc hl2 hd (rel.put (.inr kk) rb) dd');have ex:Ext X.K μ H μ (upd H p (.dK (putK kv (.inr kk) yv))):=Ya hH (λ_ z=>nomatch z) (λ_ _ z=>nomatch z);have r1:=r.set (u:=.dct (dPut ks (.inr kk) db)) hn hH (λ_ z=>nomatch z) (λ_ _ z=>nomatch z) ⟨_,Qr,(kr.mono ex).put (.inr kk) (dbh.mono ex)⟩;have hlt:n<g.length:=(Ul.mp hg).1;refine ih _ _ prs' (dPut ks (.inr kk) db) _ _ _ Q I1 r1 (by rw[UU hlt]) rv (dn.mono ex) hp' ?_ λH' s' I' ex' r'=>hQ H' s' I' (ex.trans ex') ?_
       ·have:(dPut ks (.inr kk) db).length<=ks.length+1:=by
         unfold dPut;split
         ·rw[Ub];omega
         ·rw[Uh];exact Um _
        omega
       ·rw[Wx]at r';exact r'
      |_=>exact nomatch hp
theorem Qf9(hp:PP3 ca X pos ks vs m)(hall:ks.all (·.isSome)=true:=by rfl)(hl:ks.length=vs.length:=by rfl)(h0:ks≠[]:=by exact λh=>nomatch h)(hlen:ks.length<=15:=by decide):PE3 ca X (.Dict ks vs pos) (QaK m):=
 λpn Φ=>Zi (Qnx (X:=xat X ca pn Φ) (F:=λ_=>.dK []) (λh H hb=>Qec h hb) (hp pn Φ) hall hl h0 hlen) λσ H Q ⟨σ3,g,μ,R,q⟩=>λp hpn hb=>by
  have ex:Ext X.K μ H (μ++[p]) (upd H p (.dK [])):=QD hpn;have R':Rep X.K ca (μ++[p]) σ3 (g++[.dct []]) σ (upd H p (.dK [])):=R.go ex (R.g.push hpn ⟨[],Qr,.nil⟩);refine Jd (QdA R' (k:=Qh0 g.length) (Post.go ex q)) λws H1 hQ=>?_;obtain⟨ds,g1,μ1,e1,R1,q1,p1⟩:=hQ;intro pins s ps I rv;have hn:μ1[g.length]?=some p:=e1.at (by rw[<-R.g.len];simp);unfold Qh0 at p1;cases hd:QcR ds with
  |none=>rw[hd]at p1;exact p1.elim|some prs=>
   rw[hd]at p1;cases hg:g1[g.length]? with
   |none=>rw[hg]at p1;exact p1.elim|some ob=>
    rw[hg]at p1;cases ob with
    |dct kk=>
     cases kk with
     |nil=>
      dsimp only at p1;by_cases z:prs.length<=15
      ·rw[Uj z]at p1;exact Qpo (X:=xat X ca pn Φ) hn ps ws ds prs [] H1 g1 s _ I R1.g hg rv q1 hd (by rw[Wo];omega) λH' s' I' ex' r'=>⟨.ref p,H',I',rfl,p1 (.ref p) H' μ1 ex' r' (.ref hn)⟩
      ·rw[Uo z]at p1;exact p1.elim
     |cons _ _=>exact p1.elim
    |_=>exact p1.elim
end
end L3
namespace L3
open PySem
def pInG(x y:D)(g:G):Res D:=match y,(skOf false x:Option SKd) with
 |.ref n,some (k:SKd)=>(match g[n]? with
  |some (.lst ds)=>(match J0 false ds with
   |some ks=>.ok (.bl (ks.any λc=>decide (c=k))) g|none=>.stuck)
  |_=>.stuck)
 |_,_=>.stuck
end L3
namespace L3
open PySem PySem.Spec PyProof.Rows L2
section
variable{X:Cx}{ca:Nat->Addr}{a b:Expr}{ma mb:ME}{pos:Pos}{j:Nat}
def rInG(K:Frag):R2:=λx y H Q=>∃(p:Addr)(ys:List V)(ds:List D)(μ:List Addr)(dx:D)(k:NK.SK)(ks:List NK.SK),y=.ref p/\H p=some (.lst ys)/\Dens K μ H ys ds/\Den K μ H x dx/\skOf false dx=some k/\J0 false ds=some ks/\Q (.bl (ks.any λc=>decide (c=k))) H
open Classical in
theorem Qmo(inj:∀u x y,R x u->R y u->x=y):∀{ks:List NK.SK}{us:List Value},NK.Al R ks us->us.any (λu=>decide (R k u))=ks.any λc=>decide (c=k)
 |_,_,.nil=>rfl|c::ks,u::us,.cons h t=>by rw[Tr,Tr,Qmo inj t];congr 1;exact U4.mpr ⟨λz=>inj _ _ _ h z,λz=>z ▸ h⟩
open Classical in
theorem QjR{pins:LAO}{σ:L2.St}{H:Hp}{s:Shared}{μ:List Addr}{ks:List NK.SK}{its:List Value}{k:NK.SK}{x:V}{v:Value}{dx:D}(I:Inv X pins σ H s)(hu:X.A.units+16<cLine)(al:NK.Al ((NK.tagV X.prog X.w false).is s.heap) ks its)(qx:Den X.K μ H x dx)(rx:RelV x v)(hk:skOf false dx=some k):
  (∀y,y∈its.toArray->SeqAt.EqAt X.A.in1 s y v (decide ((NK.tagV X.prog X.w false).is s.heap k y)))/\its.toArray.any (λw=>decide ((NK.tagV X.prog X.w false).is s.heap k w))=ks.any λc=>decide (c=k):=by
 have kx:=Yl I qx rx hk;refine⟨λw hw=>?_,?_⟩
 ·obtain⟨c,hc,rc⟩:=NK.Al.has al w (by simpa using hw);intro prog w' E' Q' hq;refine(NK.tagV prog w' false).eqBool (x:=c) (y:=k) (show X.A.units+1+2<cLine by omega) rc kx ?_;have e:decide ((NK.tagV X.prog X.w false).is s.heap k w)=decide (c=k):=U4.mpr ⟨λz=>(NK.tagV X.prog X.w false).inj rc z,λz=>z ▸ rc⟩;rw[e]at hq;exact hq
 ·rw[show its.toArray.any (λw=>decide ((NK.tagV X.prog X.w false).is s.heap k w))=its.any (λw=>decide ((NK.tagV X.prog X.w false).is s.heap k w)) by simp,Qmo (R:=(NK.tagV X.prog X.w false).is s.heap) (λu x y hx hy=>(NK.tagV X.prog X.w false).inj hx hy) al]
open Classical in
theorem Qpp(hu:X.A.units+16<cLine):OpR X (compareOp .In) (rInG X.K):=by intro pins s σ H x y v u Q I rx ry h;obtain⟨p,ys,ds,μ,dx,k,ks,rfl,hH,qs,qx,hk,hks,q⟩:=h;cases ry;obtain⟨its,rvs,pl,hz⟩:=I.list (.of hH);obtain⟨al,_⟩:=Qej I qs rvs hks;obtain⟨h1,h2⟩:=QjR I hu al qx rx hk;refine SeqAt.in_listAt (λw=>decide ((NK.tagV X.prog X.w false).is s.heap k w)) pl.isList h1 ⟨.bl _,H,I,rfl,?_⟩;rw[h2];exact q
theorem Qhk{K:Frag}:Jc K ca (rInG K) pInG:=by
 intro Φ σ H μ g x y dx dy Q r qx qy p;unfold pInG at p;cases qy with
 |@ref n t hn=>
  cases hk:skOf false dx with
  |none=>rw[hk]at p;exact p.elim|some k=>
   rw[hk]at p;dsimp only at p;cases hg:g[n]? with
   |none=>rw[hg]at p;exact p.elim|some ob=>
    rw[hg]at p;obtain⟨t',ht',orp⟩:=r.addr hg;rw[hn]at ht';cases ht';cases ob with
    |lst ds=>
     obtain⟨vs,hH,q⟩:=orp;dsimp only at p;cases hks:J0 false ds with
     |none=>rw[hks]at p;exact p.elim|some ks=>rw[hks]at p;exact⟨t,vs,ds,μ,dx,k,ks,rfl,hH,q,qx,hk,hks,p _ H μ .refl r (.bl _)⟩
    |_=>exact p.elim
 |_=>exact p.elim
theorem Qqs(hr:Room j X.A)(ha:PE3 ca X a ma)(hb:PE3 ca X b mb)(hm:behindInMarks .In b=false:=by rfl):PE3 ca X (.Compare a [.In] [b] pos) (mOp2 pInG ma mb):=Qi1 (λpn Φ=>Qpp (X:=xat X ca pn Φ) (by have:=hr.units;show X.A.units+16<cLine;omega)) Qhk ha hb hm
end
end L3
namespace L3
open PySem
def Y0(x y:D)(g:G):Res D:=(pInG x y g).bind λd g'=>match d with
 |.bl b=>.ok (.bl (!b)) g'|_=>.stuck
def pInF(x y:D)(g:G):Res D:=match y with
 |.ref n=>(match g[n]? with
  |some (.dcf τ ks)=>(match skOf τ x with
   |some k=>.ok (.bl (nGet ks k).isSome) g|none=>.stuck)
  |_=>.stuck)
 |_=>.stuck
def Qa6:List D->Option (List (SKd×D))
 |[]=>some []|.tup [k,v]::r=>(match skOf true k,Qa6 r with
  |some k,some ps=>some ((k,v)::ps)|_,_=>none)
 |_=>none
def Qfi(x:D)(g:G):Res D:=match x with
 |.ref n=>(match g[n]? with
  |some (.lst ds)=>(match Qa6 ds with
   |some ps=>if ps.length<=SZ then .ok (.ref g.length) (g++[.dcn true (ps.foldl (λks p=>nPut ks p.1 p.2) [])]) else .stuck
   |none=>.stuck)
  |_=>.stuck)
 |_=>.stuck
end L3
namespace DT
open PySem PySem.Spec PyProof.Rows
theorem QjS:typeLookup (.type "list") (Str.ofString "keys")=pure none:=by rw[typeLookup_type,builtinLookup_eq_fast];kernel_rfl
theorem QdE:entryFor table "dict.update.loop"=some Builtin.«dict.update.loop»:=entryFor_of_tree (by kernel_rfl)
theorem Qaz:plainId "dict.update.loop"=true:=by decide +kernel
section
variable{prog:Program}{w:World}{A:Around}{E:VP}{s:Shared}
theorem Qpq{a:Addr}{o:Obj}{items:Array Value}{n:Nat}{Q:Option Value->Shared->Prop}(hx:s.heap.get? a=some o)(hc:o.cls=.type "list")(hdat:o.data=.seq items n)(hd:o.dict=none)(hA:A.handled=none)(h:∀h' tk e,Heap.NewExcOf s.heap h' e "AttributeError"->Q none {s with heap:=h',toks:=tk}):wpAny (model prog w) A (getAttr? (.ref a) (Str.ofString "keys")) Q E s:=by
 obtain⟨c,dct,dat,sl⟩:=o;simp only at hc hdat hd;subst hc hdat hd;obtain⟨hp,g,d,tk,os⟩:=s;have hTy:∀tk',(⟨hp,g,d,tk',os⟩:Shared).TypeIs (.ref a) "list":=λ_=>⟨_,hx,rfl⟩;have f1:=sub_AttributeError;have f3:=F.slot_list_getattribute.lookup;have f4:=F.slot_list_getattribute.bind (.ref a);have f5:=am_list_getattr_none;unfold getAttr? getAttrBy? getAttrBy;repeat (any_goals (first|assumption|exact hTy _|((with_reducible show wpAny _ _ (call (Value.builtin "list.__getattribute__") _ _) _ _ _);refine RL F.slot_list_getattribute (hTy _) am_entry_list_getattribute (F.args_list_getattribute_2 _ _) (meets_getattribute_miss_list a items n sl (Str.ofString "keys") _ QjS (by decide) (by size_fits)) ⟨hx,hA,λh' tk' e hx'=>?_⟩)|wp_step))
 obtain⟨t',u',he⟩:=hx'.there;have hq:=h _ tk' _ hx'.of;show wpAny _ _ (getattributeRaised _ _ _ _ _ _ _) _ _ _;unfold getattributeRaised;repeat (any_goals (first|assumption|wp_step))
def putP{K:Type}[DecidableEq K](xs:List (K×Addr×Value))(p:K×Addr×Value):List (K×Addr×Value):=storedH xs p.1 p.2.1 p.2.2
theorem QjT{K:Type}[DecidableEq K]:∀(ps xs:List (K×Addr×Value)),(ps.foldl putP xs).length<=xs.length+ps.length
 |[],xs=>Um _|p::ps,xs=>by
  have h1:=QjT ps (putP xs p);have h2:(putP xs p).length<=xs.length+1:=by
   unfold putP storedH;split
   ·rw[Ub];omega
   ·simp
  rw[Bf,Uy];omega
theorem QjU{K:Type}[DecidableEq K]:∀(ps xs:List (K×Addr×Value)),∀x∈ps.foldl putP xs,∃p,(p∈ps\/p∈xs)/\x.1=p.1/\x.2.1=p.2.1
 |[],xs,x,h=>⟨x,.inr h,rfl,rfl⟩|p::ps,xs,x,h=>by
  obtain⟨q,hq,e1,e2⟩:=QjU ps (putP xs p) x h;rcases hq with hq|hq
  ·exact⟨q,.inl (Ut _ hq),e1,e2⟩
  ·unfold putP storedH at hq;split at hq
   ·obtain⟨y,hy,rfl⟩:=UE.mp hq;refine⟨y,.inr hy,?_⟩;unfold putAt at e1 e2;split at e1
    ·next z=>rw[Uj z]at e2;exact⟨e1,e2⟩
    ·next z=>rw[Uo z]at e2;exact⟨e1,e2⟩
   ·rcases Uq.mp hq with hq|hq
    ·exact⟨q,.inr hq,e1,e2⟩
    ·rw[Uf]at hq;subst hq;exact⟨p,.inl (Us ..),e1,e2⟩
def Raw{K:Type}[DecidableEq K](knd:HeapKind prog w K)(h:Heap)(d:Addr)(xs:List (K×Addr×Value)):Prop:=∃o es ep,h.get? d=some o/\o.ExactDict/\o.data=.dict es ep/\es.toList=xs.map (entryOfKey knd)/\(xs.map (·.1)).Nodup
theorem loop{K:Type}[DecidableEq K]{knd:HeapKind prog w K}{R:Result->Shared->Prop}{d it t:Addr}{items:Array Value}{ps:List (K×Addr×Value)}{res:Value}(hh:A.handled=none)(hr:knd.room A.in1)(hdi:d≠it)(hps:∀(h:Heap),(∀b o,b≠d->b≠it->s.heap.get? b=some o->h.get? b=some o)->h.IsList t items/\∀(i:Nat) (p:K×Addr×Value),ps[i]?=some p->∃b n o,items[i]?=some (.ref b)/\h.get? b=some o/\o.cls=.type "tuple"/\o.data=.seq #[.ref p.2.1,p.2.2] n/\knd.is h p.1 p.2.1)(hl:items.size=ps.length)(hz:ps.length<=sizeLine):∀(k i:Nat)(s':Shared),ps.length-i=k->i<=ps.length->(∀b o,b≠d->b≠it->s.heap.get? b=some o->s'.heap.get? b=some o)->s'.heap.IsListIter it t i->Raw knd s'.heap d ((ps.take i).foldl putP [])->(∀s1:Shared,(∀b o,b≠d->b≠it->s.heap.get? b=some o->s1.heap.get? b=some o)->s1.gens=s'.gens->s1.drawn=s'.drawn->s1.os=s'.os->Raw knd s1.heap d (ps.foldl putP [])->R (.ok (.ret res)) s1)->codeAny (model prog w) A (.builtin "dict.update.loop" ⟨[.ref d,.ref it,rawInt i,res],[]⟩) R s':=by
 intro k;induction k with
 |zero =>intro i s' hk hi kp hit hd hR;refine codeAny_builtin QdE ?_;rw[Around.under_plainId Qaz _];unfold Builtin.«dict.update.loop»;refine Ua (wpAny_pyNext_list_end (show A.in1.handled=none from hh) hit (hps s'.heap kp).1 (W4 (by omega)) λh' eb=>?_);show wpAny _ _ (Builtin.Dict.addKeywords d [] >>= λ_=>ret res) _ _ _;refine Ua (Ud (Ud ?_));refine hR _ (λb o b1 b2 e=>eb b o b2 (kp b o b1 b2 e)) rfl rfl rfl ?_;rw[Rj (by omega)]at hd;obtain⟨o,es,ep,ho,r⟩:=hd;exact⟨o,es,ep,eb d o hdi ho,r⟩|succ k ih=>
  intro i s' hk hi kp hit hd hR;have hlt:i<ps.length:=by omega
  have hp:ps[i]?=some ps[i]:=UV hlt;obtain⟨b,n,o,hb,ho,hc,hdat,hkey⟩:=(hps s'.heap kp).2 i ps[i] hp;refine codeAny_builtin QdE ?_;rw[Around.under_plainId Qaz _];unfold Builtin.«dict.update.loop»;refine Ua (wpAny_pyNext_list_item hit (hps s'.heap kp).1 hb λh1 hit1 sb1=>?_);have kp1:∀b o,b≠d->b≠it->s.heap.get? b=some o->h1.get? b=some o:=λb o b1 b2 e=>sb1.extBut b o b2 (kp b o b1 b2 e);obtain⟨b',n',o',hb',ho',hc',hdat',hkey'⟩:=(hps h1 kp1).2 i ps[i] hp;rw[hb]at hb';cases hb';refine Ua (Th ?_);refine Ua (wpAny_tryCatch ?_);unfold Builtin.Dict.pairItems;have hT:({s' with heap:=h1}:Shared).TypeIs (.ref b) "tuple":=⟨o',ho',hc'⟩;refine Ua (Ro hT ?_);show wpAny _ _ (if ((Value.type "tuple"==Value.type "list")||(Value.type "tuple"==Value.type "tuple"))=true then _ else _) _ _ _;rw[Uj (by decide)];refine Ua (wpAny_seqItems ho' hdat' (Ud ?_));show wpAny _ _ (holding [.ref ps[i].2.1,ps[i].2.2] (dictSet d (.ref ps[i].2.1) ps[i].2.2)) _ _ _;refine Th ?_;have hd1:h1.DictOfH knd d ((ps.take i).foldl putP []):=by obtain⟨o,es,ep,ho,h2,h3,h4,h5⟩:=hd;refine⟨o,es,ep,sb1.extBut d o hdi ho,h2,h3,h4,λx hx=>?_,h5⟩;obtain⟨p,hp',e1,e2⟩:=QjU _ _ x hx;obtain⟨j,hj⟩:=Bs (Bw (hp'.resolve_right (by simp)));obtain⟨_,_,_,_,_,_,_,r⟩:=(hps h1 kp1).2 j p hj;rw[e1,e2];exact r
  have hml:((ps.take i).foldl putP []).length<=sizeLine:=by
   have:=QjT (ps.take i) ([]:List (K×Addr×Value));have h2:(ps.take i).length<=ps.length:=by rw[Tx];omega
   simp only[Wo]at this;omega
  refine wpAny_dictSet_heap (s:={s' with heap:=h1}) (hsz:=hml) hr hkey' hd1 λh2 hd2 sb2=>?_;refine Ud ⟨plainId_quiet Qaz _,?_⟩;have e1:rawInt ((i:Int)+1)=rawInt ((i+1:Nat):Int):=rfl;show codeAny (model prog w) A (.builtin "dict.update.loop" ⟨[.ref d,.ref it,rawInt ((i:Int)+1),res],[]⟩) R _;rw[e1];refine ih (i+1) {s' with heap:=h2,toks:=s'.toks+knd.draws ps[i].1} (by omega) (by omega) (λb o b1 b2 e=>sb2.extBut b o b1 (kp1 b o b1 b2 e)) ?_ ?_ hR
  ·obtain⟨o,e,r⟩:=hit1;exact⟨o,sb2.extBut it o (Ne.symm hdi) e,r⟩
  ·obtain⟨o,es,ep,a1,a2,a3,a4,_,a5⟩:=hd2;rw[List.take_succ,hp,Option.toList_some,List.foldl_append];exact⟨o,es,ep,a1,a2,a3,a4,a5⟩
theorem call_pairs{K:Type}[DecidableEq K]{knd:HeapKind prog w K}{Q:VP}{t:Addr}{o:Obj}{items:Array Value}{n:Nat}{ps:List (K×Addr×Value)}(hh:A.handled=none)(hr:knd.room A.in1.in1)(hx:s.heap.get? t=some o)(hc:o.cls=.type "list")(hdat:o.data=.seq items n)(hdn:o.dict=none)(hps:∀h:Heap,(∀b o,s.heap.get? b=some o->h.get? b=some o)->∀(i:Nat) (p:K×Addr×Value),ps[i]?=some p->∃b n o,items[i]?=some (.ref b)/\h.get? b=some o/\o.cls=.type "tuple"/\o.data=.seq #[.ref p.2.1,p.2.2] n/\knd.is h p.1 p.2.1)(hl:items.size=ps.length)(hz:ps.length<=sizeLine)(h:∀s1:Shared,(∀b o,s.heap.get? b=some o->s1.heap.get? b=some o)->s1.gens=s.gens->s1.drawn=s.drawn->s1.os=s.os->Raw knd s1.heap s.heap.objs.size (ps.foldl putP [])->Q (.ref s.heap.objs.size) s1):
  wpAny (model prog w) A (call (.type "dict") [.ref t]) Q E s:=by
 refine callType_codes (Q₁:=λobj s₁=>obj=.ref s.heap.objs.size/\s₁ = {s with heap:=s.heap.push {cls:=.type "dict",data:=.dict #[]} }) F.kt_called_dict (F.kt_typeCall_dict_1 _) F.entry_dict_init (kt_code_dict_new _ ⟨rfl,rfl⟩) ?_;rintro obj s₁ ⟨rfl,rfl⟩;have hnew:(s.heap.push {cls:=.type "dict",data:=.dict #[]}).DictOfH knd s.heap.objs.size []:=Heap.DictOfH.new s.heap;have htd:t<s.heap.objs.size:=Uw hx;refine⟨hnew.typeIs,F.args_dict_init_2 _ _,?_⟩;unfold Builtin.«dict.__init__»;refine Ua ?_;unfold Builtin.Dict.selfAndRest;refine Ua (Rr hnew.typeIs ?_);show wpAny _ _ (pure (s.heap.objs.size,[Value.ref t])) _ _ _;refine Ud ?_;show wpAny _ _ (Builtin.Dict.updateFrom "dict.__init__" s.heap.objs.size (.ref t) [] .none) _ _ _;unfold Builtin.Dict.updateFrom;have hx1:(s.heap.push {cls:=.type "dict",data:=.dict #[]}).get? t=some o:=Ug _ hx;refine Ua (Ro (T:="list") ⟨o,hx1,hc⟩ ?_);rw[Uj (by decide)];refine Ua (Qpq (s:={s with heap:=s.heap.push {cls:=.type "dict",data:=.dict #[]} }) hx1 hc hdat hdn (show A.in1.handled=none from hh) λh2 tk e hE=>?_);have hx2:h2.get? t=some o:=hE.keeps _ _ hx1;rw[Uj (show(none:Option Value).isNone=true from rfl)];refine Ua (Rc ?_);refine Ua (WJ (s:={s with heap:=h2,toks:=tk}) (items:=items) ⟨o,hx2,hc,n,hdat⟩ ?_);refine Ud ⟨plainId_quiet Qaz _,?_⟩;have hds:s.heap.objs.size<h2.objs.size:=by obtain⟨o',es,ep,ho',r⟩:=hnew;exact Uw (hE.keeps _ _ ho')
 have lift:∀{h3:Heap},(∀b o,b≠s.heap.objs.size->b≠h2.objs.size->(h2.push {cls:=.type "list_iterator",data:=.fields #[.ref t,.int 0 0]}).get? b=some o->h3.get? b=some o)->∀b o,s.heap.get? b=some o->h3.get? b=some o:=λk3 b o e=>by have lt:=Uw e;exact k3 b o (UP lt) (UP (Nat.lt_trans lt hds)) (Ug _ (hE.keeps _ _ (Ug _ e)))
 refine loop (s:={s with heap:=h2.push {cls:=.type "list_iterator",data:=.fields #[.ref t,.int 0 0]},toks:=tk}) (knd:=knd) (d:=s.heap.objs.size) (it:=h2.objs.size) (t:=t) (items:=items) (ps:=ps) (res:=.none) (show A.in1.handled=none from hh) hr (UP hds) (λh3 k3=>⟨⟨o,lift k3 _ _ hx,hc,n,hdat⟩,hps h3 (lift k3)⟩) hl hz ps.length 0 _ (by omega) (by omega) (λb o _ _ e=>e) ⟨_,UA _ rfl,rfl,rfl⟩ ?_ λs1 k1 g1 d1 o1 D1=>⟨rfl,h s1 (lift k1) g1 d1 o1 D1⟩;obtain⟨o',es,ep,ho',a1,a2,a3,_,a4⟩:=hnew;exact⟨o',es,ep,Ug _ (hE.keeps _ _ ho'),a1,a2,a3,a4⟩
end
end DT
namespace L3
open PySem PySem.Spec PyProof.Rows L2
section
variable{X:Cx}{ca:Nat->Addr}{pins:LAO}{σ:L2.St}{H:Hp}{s:Shared}{μ:List Addr}
def Qpr(X:Cx)(h:Heap)(p:NK.SK×Addr×Value)(u:Value):Prop:=∃b,u=.ref b/\NK.Tp h b [.ref p.2.1,p.2.2]/\(NK.tagV X.prog X.w true).is h p.1 (.ref p.2.1)
theorem Qhl(I:Inv X pins σ H s):∀{ds:List D}{vs:List V}{its:List Value}{ps:List (NK.SK×D)},Dens X.K μ H vs ds->Vals vs its->Qa6 ds=some ps->∃xs,NRel X.K true μ H xs ps/\NK.Al (Qpr X s.heap) xs its
 |[],_,_,_,.nil,.nil,h=>by cases h;exact⟨[],.nil,.nil⟩
 |d::ds,_,_,ps,.cons q qs,.cons rv rvs,h=>by
  unfold Qa6 at h;split at h
  ·next e=>cases e
  ·next k v r e=>
   cases e;cases hk:skOf true k with
   |none=>rw[hk]at h;cases h|some kk=>
    cases hp:Qa6 ds with
    |none=>rw[hk,hp]at h;cases h|some ps'=>
     rw[hk,hp]at h;cases h;obtain⟨xs,h1,h2⟩:=Qhl I qs rvs hp;cases q with
     |tup ht hs=>
      cases rv;cases hs with
      |cons q1 hs=>cases hs with
       |cons q2 hs=>
        cases hs;obtain⟨us,r1,r2⟩:=Qlp I ht;cases r1 with
        |cons v1 r1=>cases r1 with
         |cons v2 r1 =>cases r1;obtain⟨a,rfl⟩:=QaQ q1 hk;have kt:=Yl I q1 v1 hk;cases v1;exact⟨(kk,a,_)::xs,.cons ⟨rfl,⟨k,hk,q1⟩,_,v2,q2⟩ h1,.cons ⟨_,rfl,r2,kt⟩ h2⟩
  ·cases h
theorem Qny{xs:List (NK.SK×Addr×Value)}{ps:List (NK.SK×D)}(h:NRel X.K true μ H xs ps):∀{ys:List (NK.SK×Addr×Value)}{ks:List (NK.SK×D)},NRel X.K true μ H ys ks->NRel X.K true μ H (xs.foldl DT.putP ys) (ps.foldl (λks p=>nPut ks p.1 p.2) ks):=by
 unfold NRel at h;induction h with
 |nil=>exact λh=>h
 |@cons x q l1 l2 a _ ih =>intro ys ks h;obtain⟨e,⟨d,h1,h2⟩,v,h3,h4⟩:=a;refine ih (ys:=DT.putP ys x) (ks:=nPut ks q.1 q.2) ?_;rw[<-e];exact NRel.put h h1 h2 h3 h4
theorem Qps{R:NK.SK×Addr×Value->Value->Prop}:∀{xs:List (NK.SK×Addr×Value)}{us:List Value},NK.Al R xs us->∀{i:Nat}{x:NK.SK×Addr×Value},xs[i]?=some x->∃u,us[i]?=some u/\R x u
 |_,_,.nil,i,x,h=>by cases h
 |_,_,.cons a r,0,x,h=>by cases h;exact⟨_,rfl,a⟩
 |_,_,.cons a r,i+1,x,h=>Qps r h
def Qmp(K:Frag):List V->Hp->VK->Prop:=λxs H Q=>∃(t:Addr)(vs:List V)(ds:List D)(μ:List Addr)(ps:List (NK.SK×D)),xs=[.ref t]/\H t=some (.lst vs)/\Dens K μ H vs ds/\Qa6 ds=some ps/\∀p xs',H p=none->(p==sysModules)=false->NRel K true μ H xs' (ps.foldl (λks p=>nPut ks p.1 p.2) [])->(xs'.map (·.1)).Nodup->Q (.ref p) (upd H p (ND p xs'))
theorem Qh1(hc:X.calm=true)(hu:X.A.units+16<cLine):CallR X (.type "dict") (Qmp X.K):=by
 intro pins s σ H xs us Q I rv h;obtain⟨t,vs,ds,μ,ps,rfl,hH,qs,hp,hQ⟩:=h;obtain⟨u,rfl,ru⟩:=rv.one;cases ru;obtain⟨z,its,n,r,hl,e⟩:=I.lstM hH;obtain⟨xs,h1,h2⟩:=Qhl I qs r hp;have hlen:=h2.len;obtain⟨_,hd,_⟩:=(show ObjOk X.prog X.w H _ _ (.dK []) from Qec s.heap I.big);refine DT.call_pairs (knd:=NK.tagK X.prog X.w true) (ps:=xs) (I.ok.hd hc) (show X.A.units+1+1+2<cLine by omega) e rfl rfl rfl (λh k i p hi=>?_) (by rw[Ur];exact hlen.symm) (by omega) λs1 k1 g1 d1 o1 ⟨o,es,ep,a1,a2,a3,a4,a5⟩=>?_
 ·obtain⟨u,hu,b,rfl,⟨o,items,m,t1,t2,t3,t4⟩,tk⟩:=Qps h2 hi;refine⟨b,m,o,by simpa using hu,k _ _ t1,t2,?_,(NK.tagV X.prog X.w true).keeps tk λb o _ _ e _=>k b o e⟩;rw[t3];have:items = #[.ref p.2.1,p.2.2]:=Array.toList_inj.mp t4;rw[this]
 ·obtain⟨hp',g',d',t',o'⟩:=s1;simp only at g1 d1 o1;subst g1 d1 o1;exact⟨.ref s.heap.objs.size,_,I.laid (a:=s.heap.objs.size) (o:=ND s.heap.objs.size _) (t':=t') k1 (Um _) (Qjz ⟨o,es,ep,a1,a2,a3,by rw[a4];exact(NK.ents_eq _ _ _ _).symm⟩),rfl,hQ _ _ (I.hok.fresh (Um _)) hd (Qny h1 .nil) a5⟩
def rF(K:Frag)(ca:Nat->Addr):R2:=λx y H Q=>∃(g:G)(μ:List Addr)(dx:D)(n:Nat)(t:Addr)(τ:Bool)(ks:List (NK.SK×D))(k:NK.SK),GRep K ca μ H g/\Den K μ H x dx/\skOf τ dx=some k/\y=.ref t/\μ[n]?=some t/\g[n]?=some (.dcf τ ks)/\Q (.bl (nGet ks k).isSome) H
theorem Qpt(hu:X.A.units+16<cLine):OpR X (compareOp .In) (rF X.K ca):=by
 intro pins s σ H x y v u Q I rx ry h;obtain⟨g,μ,dx,n,t,τ,ks,k,r,q,hk,rfl,hn,hg,hQ⟩:=h;obtain⟨a,rfl⟩:=QaQ q hk;cases rx;cases ry;obtain⟨t',ht',o,xs,hH,nr,nd,hs⟩:=r.addr hg;rw[hn]at ht';cases ht';obtain⟨_,⟨o,es,ep,ho,hc,hd,he⟩,_⟩:=(show ObjOk X.prog X.w H s.heap t (.frz o (.ext (NK.DObj t xs))) from I.hok t _ hH);refine wpAny_in_heap (knd:=NK.tagK X.prog X.w τ) (Qay hu) (Yl I q rfl hk) hs (xs:=xs) ⟨o,es,ep,ho,hc,hd,by rw[he];exact NK.ents_eq _ _ _ _,λx hx=>?_,nd⟩ ?_
 ·obtain⟨d,h1,h2⟩:=nr.mem x hx;exact Yl I h2 rfl h1
 ·rw[nr.isSome k];exact⟨.bl _,H,I.tok _,rfl,hQ⟩
theorem Qlt{K:Frag}:Jc K ca (rF K ca) pInF:=by
 intro Φ σ H μ g x y dx dy Q r qx qy p;unfold pInF at p;cases qy with
 |@ref n t hn=>
  dsimp only at p;cases hg:g[n]? with
  |none=>rw[hg]at p;exact p.elim|some ob=>
   rw[hg]at p;cases ob with
   |dcf τ ks=>
    dsimp only at p;cases hk:skOf τ dx with
    |none=>rw[hk]at p;exact p.elim|some k=>rw[hk]at p;exact⟨g,μ,dx,n,t,τ,ks,k,r,qx,hk,rfl,hn,hg,p _ H μ .refl r (.bl _)⟩
   |_=>exact p.elim
 |_=>exact p.elim
def QjV(K:Frag):R2:=λx y H Q=>rInG K x y H λv H'=>∃b,v=.bl b/\Q (.bl (!b)) H'
open Classical in
theorem QjW(hu:X.A.units+16<cLine):OpR X (compareOp .NotIn) (QjV X.K):=by intro pins s σ H x y v u Q I rx ry h;obtain⟨p,ys,ds,μ,dx,k,ks,rfl,hH,qs,qx,hk,hks,b,hb,q⟩:=h;cases ry;obtain⟨its,rvs,pl,hz⟩:=I.list (.of hH);obtain⟨al,_⟩:=Qej I qs rvs hks;obtain⟨h1,h2⟩:=QjR I hu al qx rx hk;refine SeqAt.notIn_listAt (λw=>decide ((NK.tagV X.prog X.w false).is s.heap k w)) pl.isList h1 ⟨.bl _,H,I,rfl,?_⟩;rw[h2];cases hb;exact q
theorem Qga{K:Frag}:Jc K ca (QjV K) Y0:=by
 intro Φ σ H μ g x y dx dy Q r qx qy p;unfold Y0 at p;refine Qhk Φ σ H μ g x y dx dy (λv H'=>∃b,v=.bl b/\Q (.bl (!b)) H') r qx qy ?_;cases hi:pInG dx dy g with
 |raise x g'=>rw[hi]at p;exact p|stuck=>rw[hi]at p;exact p|ok d g'=>
  rw[hi,Res.bind_ok]at p;intro v H' μ' e r' q;cases q with
  |bl b=>exact⟨b,rfl,p _ H' μ' e r' (.bl _)⟩|_=>exact p.elim
end
section
variable{X:Cx}{ca:Nat->Addr}{a b e:Expr}{ma mb me:ME}{pos p:Pos}{k:Nat}
theorem Qqt(hr:Room k X.A)(ha:PE3 ca X a ma)(hb:PE3 ca X b mb)(hm:behindInMarks .In b=false:=by rfl):PE3 ca X (.Compare a [.In] [b] pos) (mOp2 pInF ma mb):=Qi1 (λpn Φ=>Qpt (X:=xat X ca pn Φ) (hu16 hr)) Qlt ha hb hm
theorem QcS(hr:Room k X.A)(ha:PE3 ca X a ma)(hb:PE3 ca X b mb)(hm:behindInMarks .NotIn b=false:=by rfl):PT3 ca X (.Compare a [.NotIn] [b] pos) (Ql (mOp2 Y0 ma mb)):=JI (λpn Φ=>QjW (X:=xat X ca pn Φ) (hu16 hr)) Qga ha hb hm
theorem Qnz(hr:Room k X.A)(hc:X.calm=true)(hm:X.mg "dict"=none)(he:PE3 ca X e me)(hg:Gl X "dict":=by rfl)(hs:starEach [e] X.env=[(false,eval e X.env)]:=by rfl)(hpl:(backTo pos (starEach [] X.env)).any (·.1)=false:=by rfl):
  PE3 ca X (.Call (.Name "dict" p) [e] [] pos) (mOp1 Qfi me):=
 r_ty (r:=Qmp X.K) (λpn Φ=>Qh1 (X:=xat X ca pn Φ) hc (hu16 hr)) hm boot_dict (λΦ σ H μ g y d Q r q pp=>by
  unfold Qfi at pp;cases q with
  |@ref n t hn=>
   dsimp only at pp;cases hgn:g[n]? with
   |none=>rw[hgn]at pp;exact pp.elim|some ob=>
    rw[hgn]at pp;obtain⟨t',ht',orp⟩:=r.addr hgn;rw[hn]at ht';cases ht';cases ob with
    |lst ds=>
     obtain⟨vs,hH,qs⟩:=orp;dsimp only at pp;cases hps:Qa6 ds with
     |none=>rw[hps]at pp;exact pp.elim|some ps=>
      rw[hps]at pp;dsimp only at pp;by_cases z:ps.length<=SZ
      ·rw[Uj z]at pp;exact⟨t,vs,ds,μ,ps,rfl,hH,qs,hps,λl xs' hl hs nr nd=>pp _ _ (μ++[l]) (QD hl) (r.push hl ⟨xs',Qr,nr.mono (QD hl),nd,hs⟩) (.ref (by rw[<-r.len];simp))⟩
      ·rw[Uo z]at pp;exact pp.elim
    |_=>exact pp.elim
  |_=>exact pp.elim) he hg (by decide) (by decide) hs hpl
end
end L3
namespace L3
open PySem
def Qb2(x:D)(g:G):Res D:=match tyOf g x with
 |some t=>.ok (.bl (tyLe t .list||tyLe t .tuple)) g|none=>.stuck
end L3
namespace L3
open PySem PySem.Spec PyProof.Rows L2
section
variable{X:Cx}{ca:Nat->Addr}{e:Expr}{me:ME}{pos p p2 tp:Pos}{all cs:List Nat}
theorem J9(K:Frag)(t:Ty):kitAny K (.type t.name) [.type "list",.type "tuple"]=some (tyLe t .list||tyLe t .tuple):=by
 unfold kitAny;rw[show Value.type "list"=.type Ty.list.name from rfl,Jm];cases tyLe t .list with
 |true=>rfl|false =>dsimp only;unfold kitAny;rw[show Value.type "tuple"=.type Ty.tuple.name from rfl,Jm];cases tyLe t .tuple<;>rfl
theorem QnA{h:Heap}{a:Addr}{xs:Array Value}(p:IsTup h a xs):∃dd n sl,h.get? a=some ⟨.type "tuple",dd,.seq xs n,sl⟩:=by obtain⟨⟨cls,dd,data,sl⟩,h1,h2,n,h3⟩:=p;simp only at h2 h3;subst h2 h3;exact⟨dd,n,sl,h1⟩
theorem Qh2:CallR X (.builtin "isinstance") (λxs H Q=>∃x q g μ d t,xs=[x,.ref q]/\SqT X.K H q [.ty "list",.ty "tuple"]/\GRep X.K ca μ H g/\Den X.K μ H x d/\tyOf g d=some t/\Q (.bl (tyLe t .list||tyLe t .tuple)) H):=by
 intro pins s σ H xs us Q I rv h;obtain⟨x,q,g,μ,d,t,rfl,hq,r,qd,ht,qq⟩:=h;obtain⟨u,u2,rfl,ru,ru2⟩:=rv.two;cases ru2;obtain⟨its,r1,p1,_⟩:=I.tuple hq;obtain⟨w1,w2,rfl,a1,a2⟩:=r1.two;cases a1;cases a2;obtain⟨dd,n,sl,ho⟩:=QnA p1;have fin:∀tk,EP X pins σ Q (.bool (tyLe t .list||tyLe t .tuple)) {s with toks:=tk}:=λtk=>⟨.bl _,H,I.tok tk,rfl,qq⟩;cases qd with
 |non=>cases ht;cases (show u=Value.none from ru);exact TQ kitx_none I.kIn True.intro ho (J9 X.K .non) (λz=>nomatch z) fin|bl y=>cases ht;cases (show u=Value.bool y from ru);exact TQ kitx_bool I.kIn True.intro ho (J9 X.K .bool) (λz=>nomatch z) fin|int y=>cases ht;obtain⟨t,q⟩:=(show ∃t,u=Value.int y t from ru);cases q;exact TQ kitx_int I.kIn True.intro ho (J9 X.K .int) (λz=>nomatch z) fin|str y=>cases ht;obtain⟨t,q⟩:=(show ∃t,u=Value.str y t from ru);cases q;exact TQ kitx_str I.kIn True.intro ho (J9 X.K .str) (λz=>nomatch z) fin|@tup a vs ds hq hs =>cases ht;cases ru;obtain⟨its,_,⟨o,h1,h2,_⟩,_⟩:=I.tuple hq;exact TQ WB I.kIn ⟨o,h1,h2⟩ ho (J9 X.K .tuple) (λz=>nomatch z) fin|@fl a vs ds hq hs =>cases ht;cases ru;obtain⟨its,_,p,_⟩:=I.list hq.sq;obtain⟨o,h1,h2,_⟩:=p.isList;exact TQ Rt I.kIn ⟨o,h1,h2⟩ ho (J9 X.K .list) (λz=>nomatch z) fin|@ref n a hn=>
  unfold tyOf at ht;dsimp only at ht;cases hg:g[n]? with
  |none=>rw[hg]at ht;cases ht|some o=>
   rw[hg]at ht;obtain⟨a',ha',ob⟩:=r.addr hg;rw[hn]at ha';cases ha';cases o with
   |lst ds =>cases ht;obtain⟨vs,hH,_⟩:=ob;cases ru;obtain⟨_,_,n,_,h1⟩:=(show ObjOk X.prog X.w H s.heap a (.lst vs) from I.hok a _ hH);exact TQ Rt I.kIn ⟨_,h1,rfl⟩ ho (J9 X.K .list) (λz=>nomatch z) fin|dct ks =>cases ht;obtain⟨kv,hH,_⟩:=ob;cases ru;obtain⟨_,_,vs,_,p⟩:=(show ObjOk X.prog X.w H s.heap a (.dK kv) from I.hok a _ hH);obtain⟨o,es,ep,h1,h2,_⟩:=p;exact TQ WH I.kIn ⟨o,h1,h2.1⟩ ho (J9 X.K .dict) (λz=>nomatch z) fin|_=>cases ht
theorem QjX{k:Nat}{p3:Pos}(hi:X.mg "isinstance"=none)(hl:X.mg "list"=none)(ht:X.mg "tuple"=none)(he:PE3 ca X e me)(hgi:Gl X "isinstance":=by rfl)(hgl:Gl X "list":=by rfl)(hgt:Gl X "tuple":=by rfl)(hs:starEach [e,.Tuple [.Name "list" p2,.Name "tuple" p3] k tp] X.env=(false,eval e X.env)::starEach [.Tuple [.Name "list" p2,.Name "tuple" p3] k tp] X.env:=by rfl)(hs2:starEach [.Tuple [.Name "list" p2,.Name "tuple" p3] k tp] X.env=(false,eval (.Tuple [.Name "list" p2,.Name "tuple" p3] k tp) X.env)::starEach [] X.env:=by rfl)(hs3:starEach [.Name "list" p2,.Name "tuple" p3] X.env=(false,eval (.Name "list" p2) X.env)::starEach [.Name "tuple" p3] X.env:=by rfl)(hs4:starEach [.Name "tuple" p3] X.env=(false,eval (.Name "tuple" p3) X.env)::starEach [] X.env:=by rfl)(hpl:(backTo pos (starEach [.Tuple [.Name "list" p2,.Name "tuple" p3] k tp] X.env)).any (·.1)=false:=by rfl):
  PE3 ca X (.Call (.Name "isinstance" p) [e,.Tuple [.Name "list" p2,.Name "tuple" p3] k tp] [] pos) (mOp1 Qb2 me):=λpn Φ=>Zi (Qco (X:=xat X ca pn Φ) (Qh2 (ca:=ca)) hgi hi boot_isinstance (QaN (X:=xat X ca pn Φ) (he pn Φ) (QaN (X:=xat X ca pn Φ) (Ql1 (X:=xat X ca pn Φ) (QaN (X:=xat X ca pn Φ) (QfT (X:=xat X ca pn Φ) (v:=.ty "list") hgl hl boot_list rfl (by decide) (by decide)) (QaN (X:=xat X ca pn Φ) (QfT (X:=xat X ca pn Φ) (v:=.ty "tuple") hgt ht boot_tuple rfl (by decide) (by decide)) QgR hs4) hs3)) QgR hs2) hs) (by decide) (by decide) hs hpl) λσ H Q ⟨σ3,g,μ,R,q⟩=>
  Q2 (Ju R q) λy H1 hQ=>by
   obtain⟨d,g1,μ1,e1,R1,q1,p1⟩:=hQ;unfold Qb2 at p1;cases ht:tyOf g1 d with
   |none=>rw[ht]at p1;exact p1.elim|some t =>rw[ht]at p1;exact⟨Ue (by decide:2<=SZ) Yk,λq hq=>⟨y,q,g1,μ1,d,t,rfl,.of Qr,R1.g.new hq,q1.mono (Zo hq),ht,p1 _ _ μ1 (Zo hq) (R1.g.new hq) (.bl _)⟩⟩
end
end L3
namespace L3
open PySem
def Qh3:MS:=(mRet (mAnd (mOp1 (Qbu .int) (mVar 0)) (mNot (mOp1 (Qbu .bool) (mVar 0)))))
def Jx:MF:=mDef 1 0 Qh3
def Qh4:MS:=(mRet (mAnd (Qn Jx (Qa (mVar 0) mNil)) (Qdz pLe pLt (mI 0) (mVar 0) (mVar 1))))
def Q0:MF:=mDef 2 0 Qh4
def Qci:MS:=(mRet (mAnd (Qn Jx (Qa (mVar 0) mNil)) (mOp2 pGe (mVar 0) (mI 0))))
def Q7:MF:=mDef 1 0 Qci
def QcT:MS:=(mRet (mIfE (Ql (mOp2 pEq (mVar 0) (mLit (.str "r")))) (mLit (.str "l")) (mLit (.str "r"))))
def Yn:MF:=mDef 1 0 QcT
def Qh5:MS:=(mSeq (mIf (Ql (mOp2 pIs (mVar 0) (mLit .non))) (mRet (mLit (.bl true))) Q5)
 (mSeq (mIf (mOrT (Q9 (Ql (mOp1 (Qbu .tuple) (mVar 0)))) (Ql (mOp2 pNe (mOp1 pLen (mVar 0)) (mI 3)))) (mRet (mLit (.bl false))) Q5)
 (mRet (mAnd (Qn Q0 (Qa (mOp2 pIx (mVar 0) (mI 0)) (Qa (mVar 2) mNil))) (mAnd (mOp2 (pIn false) (mOp2 pIx (mVar 0) (mI 1)) (mOpA pTup (Qa (mLit (.str "l")) (Qa (mLit (.str "r")) mNil)))) (Qn Q0 (Qa (mOp2 pIx (mVar 0) (mI 2)) (Qa (mVar 1) mNil))))))))
def YS:MF:=mDef 3 0 Qh5
def Zj:MS:=(mSeq (mIf (Ql (mOp2 pNe (mOp1 pLen (mVar 3)) (mVar 2))) QbZ Q5)
 (mIf (Q9 (Ql (mOp1 pAll (Za (Qt (mVar 3)) 1 [1,2] (gSet 0) Zf (Qn YS (Qa (mVar 0) (Qa (mVar 1) (Qa (mVar 2) mNil)))))))) QbZ Q5))
def Z5:MS:=(mSeq (mIf (Ql (mOp2 pEq (mOp1 pLen (mVar 0)) (mI 0))) QbZ Q5)
 (mSeq (mAsg (gSet 1) (mOp1 pLen (mVar 0)))
 (mSeq (mAsg (gSet 2) (mOp1 pLen (mOp2 pIx (mVar 0) (mI 0))))
 (mSeq (mIf (Ql (mOp2 pEq (mVar 2) (mI 0))) QbZ Q5)
 (mFor (Qt (mVar 0)) (gSet 3) Zj)))))
def Z6:MF:=mDef 1 3 Z5
def QaL:MS:=(mSeq (mAsg (gSet 2) (mOp1 Jt (Za (Qt (mVar 1)) 1 [] (gSet 0) Zf (mOp1 Jt (mVar 0)))))
 (mSeq (Yu (Qn Z6 (Qa (mVar 2) mNil)))
 (Zt [11] "table" (mVar 0) (mVar 2))))
def ZS:MF:=mDef 2 1 QaL
def Qgb:MS:=(mRet (mOp1 pLen (QH [11] "table" (mVar 0))))
def JJ:MF:=mDef 1 0 Qgb
def Qh6:MS:=(mRet (mOp1 pLen (mOp2 pIx (QH [11] "table" (mVar 0)) (mI 0))))
def QS:MF:=mDef 1 0 Qh6
def QjY:MS:=(mRet (mAnd (mOp1 (Qbu .tuple) (mVar 0)) (mAnd (mOp2 pEq (mOp1 pLen (mVar 0)) (mVar 1)) (mOp1 pAll (Za (Qt (mVar 0)) 1 [2] (gSet 0) Zf (Qn Q0 (Qa (mVar 0) (Qa (mVar 1) mNil))))))))
def Yy:MF:=mDef 3 0 QjY
def Qfj:MS:=(mSeq (mIf (mOrT (Q9 (Ql (mOp1 (Qbu .tuple) (mVar 0)))) (Ql (mOp2 pNe (mOp1 pLen (mVar 0)) (mI 4)))) (mRet (mLit (.bl false))) Q5)
 (mSeq (mIf (mOrT (Q9 (Ql (Qn Q0 (Qa (mOp2 pIx (mVar 0) (mI 1)) (Qa (Qn JJ (Qa (mVar 2) mNil)) mNil))))) (Q9 (Ql (Qn Q0 (Qa (mOp2 pIx (mVar 0) (mI 2)) (Qa (Qn QS (Qa (mVar 2) mNil)) mNil)))))) (mRet (mLit (.bl false))) Q5)
 (mRet (mAnd (Qn Yy (Qa (mOp2 pIx (mVar 0) (mI 0)) (Qa (mVar 1) (Qa (Qn QS (Qa (mVar 2) mNil)) mNil)))) (Qn Yy (Qa (mOp2 pIx (mVar 0) (mI 3)) (Qa (mVar 1) (Qa (Qn QS (Qa (mVar 2) mNil)) mNil))))))))
def ZA:MF:=mDef 3 0 Qfj
def Qgc:MS:=(mRet (mAnd (mOp1 Qb2 (mVar 0)) (mOp1 pAll (Za (Qt (mVar 0)) 1 [1,2] (gSet 0) Zf (Qn Yy (Qa (mVar 0) (Qa (mVar 1) (Qa (mVar 2) mNil))))))))
def ZB:MF:=mDef 3 0 Qgc
def Qaa:MS:=(mSeq (mIf (mOrT (Q9 (Ql (mOp1 (Qbu .tuple) (mVar 1)))) (mOrT (Ql (mOp2 pNe (mOp1 pLen (mVar 1)) (mI 5))) (Ql (mOp2 pNe (mOp2 pIx (mVar 1) (mI 0)) (mLit (.str "wall")))))) (mRet (mLit (.bl false))) Q5)
 (mSeq (mAsg (gSet 2) (mOp2 pIx (mVar 1) (mI 1)))
 (mSeq (mIf (mOrT (Q9 (Ql (Qn Q7 (Qa (mVar 2) mNil)))) (Ql (mOp2 pLt (mVar 2) (mI 1)))) (mRet (mLit (.bl false))) Q5)
 (mSeq (mIf (mOrT (Q9 (Ql (Qn ZB (Qa (mOp2 pIx (mVar 1) (mI 2)) (Qa (mVar 2) (Qa (Qn QS (Qa (mVar 0) mNil)) mNil)))))) (Q9 (Ql (Qn ZB (Qa (mOp2 pIx (mVar 1) (mI 3)) (Qa (mVar 2) (Qa (Qn QS (Qa (mVar 0) mNil)) mNil))))))) (mRet (mLit (.bl false))) Q5)
 (mRet (mAnd (mOp1 Qb2 (mOp2 pIx (mVar 1) (mI 4))) (mOp1 pAll (Za (Qt (mOp2 pIx (mVar 1) (mI 4))) 1 [2,0] (gSet 0) Zf (Qn ZA (Qa (mVar 0) (Qa (mVar 1) (Qa (mVar 2) mNil))))))))))))
def ZC:MF:=mDef 2 1 Qaa
def Qh7:MS:=(mRet (mOp2 pIx (mOp2 pIx (QH [11] "table" (mVar 0)) (mOp2 pIx (mVar 1) (mI 1))) (mOp2 pIx (mVar 1) (mI 2))))
def Yo:MF:=mDef 2 0 Qh7
def Qa7:MS:=(mRet (mIfE (Ql (mOp2 pEq (mOp2 pIx (mVar 0) (mI 1)) (mLit (.str "r")))) (mOp2 pIx (mVar 1) (mI 0)) (mOp2 pIx (mVar 1) (mI 3))))
def Zp:MF:=mDef 2 0 Qa7
def Qb3:MS:=(mRet (mIfE (Ql (mOp2 pEq (mOp2 pIx (mVar 0) (mI 1)) (mLit (.str "r")))) (mOp2 pIx (mVar 1) (mI 3)) (mOp2 pIx (mVar 1) (mI 0))))
def ZD:MF:=mDef 2 0 Qb3
def Jn:MS:=(mSeq (mAsg (gSet 3) (mOp2 pIx (Qn ZD (Qa (mVar 0) (Qa (mVar 1) mNil))) (mI 0)))
 (mSeq (mAsg (gSet 4) (mOp2 pAdd (mOpA pTup (Qa (mOp2 pIx (mVar 0) (mI 0)) mNil)) (QI (Qn Zp (Qa (mVar 0) (Qa (mVar 1) mNil))) Qw (Zh (mOp1 pNeg (mI 1))))))
 (mSeq (mIf (Ql (mOp2 pEq (mOp2 pIx (mVar 0) (mI 1)) (mLit (.str "r")))) (mRet (mOpA pTup (Qa (mVar 4) (Qa (mOp2 pIx (mVar 0) (mI 2)) (Qa (mVar 3) (Qa (mVar 2) mNil)))))) Q5)
 (mRet (mOpA pTup (Qa (mVar 2) (Qa (mOp2 pIx (mVar 0) (mI 2)) (Qa (mVar 3) (Qa (mVar 4) mNil)))))))))
def QW:MF:=mDef 3 2 Jn
def Qfk:MS:=(Zt [14] "by_seen" (mVar 0) (JX false))
def Yz:MF:=mDef 1 0 Qfk
def QbA:MS:=(mRet (Qhc (QH [14] "by_seen" (mVar 0)) (mVar 1) (mOpA newL mNil)))
def QF:MF:=mDef 2 0 QbA
def Qgd:MS:=(mRet (mOp2 pInG (mVar 1) (ZW 14 (Str.ofString "beginning") QF (mVar 0) (Qa (QI (mVar 1) Qw (Zh (mOp1 pNeg (mI 1)))) mNil))))
def QO:MF:=mDef 2 0 Qgd
def ZT:MS:=(mIf (Q9 (Ql (ZW 14 (Str.ofString "has") QO (mVar 0) (Qa (mVar 1) mNil)))) (Yu (Yj (Jg (QH [14] "by_seen" (mVar 0)) (QI (mVar 1) Qw (Zh (mOp1 pNeg (mI 1)))) (mOpA newL mNil)) (mVar 1))) Q5)
def Zc:MF:=mDef 2 0 ZT
def Y1:MS:=(Yu (J7 (mVar 1) (mVar 2)))
def YJ:MS:=(mSeq (mAsg (gSet 1) (mOpA newL mNil))
 (mSeq (mFor (mItV (QH [14] "by_seen" (mVar 0))) (gSet 2) Y1)
 (mRet (mOp1 Qcw (mVar 1)))))
def ZU:MF:=mDef 1 2 YJ
def JK:MS:=(Yu (ZW 14 (Str.ofString "put_in") Zc (mVar 1) (Qa (mVar 2) mNil)))
def Jy:MS:=(mSeq (mAsg (gSet 1) (QaO 14 Yz mNil))
 (mSeq (mFor (Qt (mVar 0)) (gSet 2) JK)
 (mRet (mVar 1))))
def Q8:MF:=mDef 1 2 Jy
def Qh8:MS:=(mSeq (mAsg (gSet 4) (Qn Yo (Qa (mVar 0) (Qa (mVar 3) mNil))))
 (mSeq (mIf (Ql (mOp2 pIs (mVar 4) (mLit .non))) (mRet (mLit (.bl false))) Q5)
 (mSeq (mAsg (gSet 5) (mOp2 pIx (mVar 4) (mI 1)))
 (mSeq (mIf (Q9 (Ql (ZW 14 (Str.ofString "has") QO (mOp2 Ym (mVar 1) (Qn Yn (Qa (mVar 5) mNil))) (Qa (Qn Zp (Qa (mVar 4) (Qa (mVar 3) mNil))) mNil)))) (mRet (mLit (.bl false))) Q5)
 (mSeq (mAsg (gSet 6) (ZW 14 (Str.ofString "beginning") QF (mOp2 Ym (mVar 1) (mVar 5)) (Qa (QI (Qn ZD (Qa (mVar 4) (Qa (mVar 3) mNil))) (Zh (mI 1)) Qw) mNil)))
 (mRet (mOp1 pAll (Za (Qt (mVar 6)) 1 [2,4,3] (gSet 0) Zf (mOp2 pInF (Qn QW (Qa (mVar 2) (Qa (mVar 3) (Qa (mVar 0) mNil)))) (mVar 1))))))))))
def QaA:MF:=mDef 4 3 Qh8
def Qfl:MS:=(mSeq (mIf (mOrT (Q9 (Ql (Qn ZC (Qa (mVar 0) (Qa (mVar 1) mNil))))) (Ql (mOp2 pEq (mOp1 pLen (mOp2 pIx (mVar 1) (mI 4))) (mI 0)))) (mRet (mLit (.bl false))) Q5)
 (mSeq (mAsg (gSet 2) (mOp2 Qdq (mOpA pTup (Qa (mI 0) mNil)) (mOp2 pIx (mVar 1) (mI 1))))
 (mSeq (mAsg (gSet 3) (QaK (Qa (mLit (.str "l")) (Qa (Qn Q8 (Qa (mOp2 pIx (mVar 1) (mI 2)) mNil)) (Qa (mLit (.str "r")) (Qa (Qn Q8 (Qa (mOp2 pIx (mVar 1) (mI 3)) mNil)) mNil))))))
 (mSeq (mAsg (gSet 4) (mOp1 Qfi (Za (Qt (mOp2 pIx (mVar 1) (mI 4))) 1 [] (gSet 0) Zf (mOpA pTup (Qa (mVar 0) (Qa (mLit (.bl true)) mNil))))))
 (mSeq (mIf (mOrT (Q9 (Ql (ZW 14 (Str.ofString "has") QO (mOp2 Ym (mVar 3) (mLit (.str "l"))) (Qa (mVar 2) mNil)))) (mOrT (Q9 (Ql (ZW 14 (Str.ofString "has") QO (mOp2 Ym (mVar 3) (mLit (.str "r"))) (Qa (mVar 2) mNil)))) (Ql (mOp2 ZX (mOpA pTup (Qa (mVar 2) (Qa (mI 0) (Qa (mI 0) (Qa (mVar 2) mNil))))) (mVar 4))))) (mRet (mLit (.bl false))) Q5)
 (mRet (mOp1 pAll (Qfh 4 1 [0,3,4] (gSet 0) Zf (Qn QaA (Qa (mVar 1) (Qa (mVar 2) (Qa (mVar 3) (Qa (mVar 0) mNil)))))))))))))
def YA:MF:=mDef 2 3 Qfl
def ZY:MS:=(mIf (Ql (mOp2 ZX (mVar 1) (QH [15] "contexts" (mVar 0)))) (mSeq (Qb1 (QH [15] "contexts" (mVar 0)) (mVar 1) (mLit (.bl true)))
 (Yu (Yj (QH [15] "pending" (mVar 0)) (mVar 1)))) Q5)
def QP:MF:=mDef 2 0 ZY
def YK:MS:=(mSeq (mAsg (gSet 3) (mOp2 Qdq (mOpA pTup (Qa (mI 0) mNil)) (mVar 2)))
 (mSeq (Zt [15] "machine" (mVar 0) (mVar 1))
 (mSeq (Zt [15] "sides" (mVar 0) (QaK (Qa (mLit (.str "l")) (Qa (Qn Q8 (Qa (mOpA newL (Qa (mVar 3) mNil)) mNil)) (Qa (mLit (.str "r")) (Qa (Qn Q8 (Qa (mOpA newL (Qa (mVar 3) mNil)) mNil)) mNil))))))
 (mSeq (Zt [15] "contexts" (mVar 0) (JX true))
 (mSeq (Zt [15] "pending" (mVar 0) (mOpA newL mNil))
 (mSeq (Zt [15] "asking" (mVar 0) (QaK (Qa (mLit (.str "l")) (Qa (JX false) (Qa (mLit (.str "r")) (Qa (JX false) mNil))))))
 (Yu (ZW 15 (Str.ofString "ask_for") QP (mVar 0) (Qa (mOpA pTup (Qa (mVar 3) (Qa (mI 0) (Qa (mI 0) (Qa (mVar 3) mNil))))) mNil)))))))))
def ZV:MF:=mDef 3 1 YK
def Yb:MS:=(Yu (ZW 15 (Str.ofString "ask_for") QP (mVar 0) (Qa (Qn QW (Qa (Qn Yo (Qa (QH [15] "machine" (mVar 0)) (Qa (mVar 3) mNil))) (Qa (mVar 3) (Qa (mVar 2) mNil)))) mNil)))
def ZN:MS:=(mSeq (mIf (Ql (ZW 14 (Str.ofString "has") QO (mOp2 Ym (QH [15] "sides" (mVar 0)) (mVar 1)) (Qa (mVar 2) mNil))) Qm7 Q5)
 (mSeq (Yu (ZW 14 (Str.ofString "put_in") Zc (mOp2 Ym (QH [15] "sides" (mVar 0)) (mVar 1)) (Qa (mVar 2) mNil)))
 (mFor (Qt (Qhc (mOp2 Ym (QH [15] "asking" (mVar 0)) (mVar 1)) (QI (mVar 2) Qw (Zh (mOp1 pNeg (mI 1)))) (mOpA newL mNil))) (gSet 3) Yb)))
def ZO:MF:=mDef 3 1 ZN
def Yi:MS:=(Yu (ZW 15 (Str.ofString "ask_for") QP (mVar 0) (Qa (Qn QW (Qa (mVar 2) (Qa (mVar 1) (Qa (mVar 5) mNil)))) mNil)))
def Q3:MS:=(mSeq (mAsg (gSet 1) (mOp1 pPop (QH [15] "pending" (mVar 0))))
 (mSeq (mAsg (gSet 2) (Qn Yo (Qa (QH [15] "machine" (mVar 0)) (Qa (mVar 1) mNil))))
 (mSeq (mIf (Ql (mOp2 pIs (mVar 2) (mLit .non))) (mRet (mLit (.bl false))) Q5)
 (mSeq (mAsg (gSet 3) (mOp2 pIx (mVar 2) (mI 1)))
 (mSeq (Yu (ZW 15 (Str.ofString "put_gram") ZO (mVar 0) (Qa (Qn Yn (Qa (mVar 3) mNil)) (Qa (Qn Zp (Qa (mVar 2) (Qa (mVar 1) mNil))) mNil))))
 (mSeq (mAsg (gSet 4) (QI (Qn ZD (Qa (mVar 2) (Qa (mVar 1) mNil))) (Zh (mI 1)) Qw))
 (mSeq (Yu (Yj (Jg (mOp2 Ym (QH [15] "asking" (mVar 0)) (mVar 3)) (mVar 4) (mOpA newL mNil)) (mVar 1)))
 (mSeq (mFor (Qt (ZW 14 (Str.ofString "beginning") QF (mOp2 Ym (QH [15] "sides" (mVar 0)) (mVar 3)) (Qa (mVar 4) mNil))) (gSet 5) Yi)
 (mRet (mLit (.bl true)))))))))))
def QQ:MF:=mDef 1 5 Q3
def QbB:MS:=(mRet (mOpA pTup (Qa (mLit (.str "wall")) (Qa (mVar 1) (Qa (ZW 14 (Str.ofString "in_order") ZU (mOp2 Ym (QH [15] "sides" (mVar 0)) (mLit (.str "l"))) mNil) (Qa (ZW 14 (Str.ofString "in_order") ZU (mOp2 Ym (QH [15] "sides" (mVar 0)) (mLit (.str "r"))) mNil) (Qa (mOp1 Qcv (QH [15] "contexts" (mVar 0))) mNil)))))))
def ZJ:MF:=mDef 2 0 QbB
def ZE:MS:=(mIf (mOrT (Ql (mOp2 pGt (mOp1 Qef (QH [15] "contexts" (mVar 3))) (mVar 2))) (Q9 (Ql (ZW 15 (Str.ofString "went_on") QQ (mVar 3) mNil)))) (mRet (mLit .non)) Q5)
def Qab:MS:=(mSeq (mIf (Ql (mOp2 pLt (mVar 1) (mI 1))) QbZ Q5)
 (mSeq (mAsg (gSet 3) (QaO 15 ZV (Qa (mVar 0) (Qa (mVar 1) mNil))))
 (mSeq (Qe4 (Ql (mOp2 pGt (mOp1 pLen (QH [15] "pending" (mVar 3))) (mI 0))) ZE)
 (mRet (mIfE (Ql (mOp2 pLe (mOp1 Qef (QH [15] "contexts" (mVar 3))) (mVar 2))) (ZW 15 (Str.ofString "paper") ZJ (mVar 3) (Qa (mVar 1) mNil)) (mLit .non))))))
def QcU:MF:=mDef 3 1 Qab
def Qek:MS:=(mSeq (Qe5 (mVar 1) (mI 0) (mOp2 pAdd (mOp2 pIx (mVar 1) (mI 0)) (mI 1)))
 (mSeq (mAsg (gSet 2) (mI 0))
 (mSeq (mIf (Ql (mOp2 pGt (mOp1 pLen (mVar 0)) (mI 0))) (mAsg (gSet 2) (mOp2 pIx (mVar 0) (mOp2 pMod (mOp2 pIx (mVar 1) (mI 0)) (mOp1 pLen (mVar 0))))) Q5)
 (mSeq (mAsg (gSet 3) (mOp2 pMod (mOp2 pMul (mOp2 pAdd (mOp2 pAdd (mOp2 pMod (mVar 2) (mI 2147483647)) (mOp2 pMul (mOp2 pMul (mOp2 pIx (mVar 1) (mI 0)) (mOp2 pIx (mVar 1) (mI 0))) (mI 7919))) (mI 11)) (mI 48271)) (mI 2147483647)))
 (mRet (mOp2 pMod (mOp2 pMul (mVar 3) (mVar 3)) (mI 1999999973)))))))
def Ys:MF:=mDef 2 2 Qek
def ZF:MS:=(mSeq (mAsg (gSet 8) (Qn Ys (Qa (mVar 0) (Qa (mVar 1) mNil))))
 (mSeq (mAsg (gSet 9) (mOpA pTup (Qa (mOp2 pMod (mOp2 Zg (mVar 8) (mI 9)) (mVar 3)) (Qa (mOp2 pIx (mLit (.str "lr")) (mOp2 pMod (mOp2 Zg (mVar 8) (mI 100)) (mI 2))) (Qa (mOp2 pMod (mOp2 Zg (mVar 8) (mI 300)) (mVar 2)) mNil)))))
 (mSeq (mIf (Ql (mOp2 pEq (mOp2 pMod (mVar 8) (mI 9)) (mI 0))) (mAsg (gSet 9) (mLit .non)) Q5)
 (Yu (Yj (mVar 6) (mVar 9))))))
def Jh:MS:=(mSeq (mAsg (gSet 6) (mOpA newL mNil))
 (mSeq (mFor (Q1 (mVar 3)) (gSet 7) ZF)
 (Yu (Yj (mVar 4) (mVar 6)))))
def QcV:MS:=(mSeq (mAsg (gSet 4) (mOpA newL mNil))
 (mSeq (mFor (Q1 (mVar 2)) (gSet 5) Jh)
 (mRet (mVar 4))))
def QcW:MF:=mDef 4 6 QcV
def Jz:MS:=(mSeq (mAsg (QiW [(gSet 4),(gSet 5),(gSet 6),(gSet 7)]) (mVar 1))
 (mSeq (mAsg (gSet 8) (mOp2 pIx (mOp2 pIx (mVar 0) (mVar 5)) (mVar 6)))
 (mSeq (mIf (Ql (mOp2 pIs (mVar 8) (mLit .non))) (mRet (mLit .non)) Q5)
 (mSeq (mIf (Ql (mOp2 pEq (mOp2 pIx (mVar 8) (mI 1)) (mLit (.str "r")))) (mSeq (mAsg (gSet 9) (mOp2 pAdd (mOpA pTup (Qa (mOp2 pIx (mVar 8) (mI 0)) mNil)) (QI (mVar 4) Qw (Zh (mOp2 pSub (mOp1 pLen (mVar 4)) (mI 1))))))
 (mRet (mOpA pTup (Qa (mLit (.str "l")) (Qa (mVar 4) (Qa (Za (Qt (mVar 3)) 1 [9,8,7] (gSet 0) (Ql (mOp2 pEq (QI (mVar 0) Qw (Zh (mOp2 pSub (mOp1 pLen (mVar 0)) (mI 1)))) (QI (mVar 3) (Zh (mI 1)) Qw))) (mOpA pTup (Qa (mVar 1) (Qa (mOp2 pIx (mVar 2) (mI 2)) (Qa (mOp2 pIx (mVar 3) (mI 0)) (Qa (mVar 0) mNil)))))) mNil)))))) Q5)
 (mSeq (mAsg (gSet 9) (mOp2 pAdd (mOpA pTup (Qa (mOp2 pIx (mVar 8) (mI 0)) mNil)) (QI (mVar 7) Qw (Zh (mOp2 pSub (mOp1 pLen (mVar 7)) (mI 1))))))
 (mRet (mOpA pTup (Qa (mLit (.str "r")) (Qa (mVar 7) (Qa (Za (Qt (mVar 2)) 1 [9,8,4] (gSet 0) (Ql (mOp2 pEq (QI (mVar 0) Qw (Zh (mOp2 pSub (mOp1 pLen (mVar 0)) (mI 1)))) (QI (mVar 3) (Zh (mI 1)) Qw))) (mOpA pTup (Qa (mVar 0) (Qa (mOp2 pIx (mVar 2) (mI 2)) (Qa (mOp2 pIx (mVar 3) (mI 0)) (Qa (mVar 1) mNil)))))) mNil))))))))))
def JA:MF:=mDef 4 6 Jz
def Qa8:MS:=(Qb1 (mVar 6) (mVar 7) (mLit (.bl true)))
def Yc:MS:=(mSeq (mAsg (gSet 8) (Qn JA (Qa (mVar 0) (Qa (mVar 7) (Qa (mVar 2) (Qa (mVar 3) mNil))))))
 (mSeq (mIf (Ql (mOp2 pIs (mVar 8) (mLit .non))) (mRet (mLit (.bl false))) Q5)
 (mSeq (mAsg (QiW [(gSet 9),(gSet 10),(gSet 11)]) (mVar 8))
 (mSeq (mIf (Ql (mOp2 Y0 (mVar 10) (mOp2 pIx (mOpA newL (Qa (mVar 2) (Qa (mVar 3) mNil))) (mOp1 pInt (mOp2 pEq (mVar 9) (mLit (.str "r"))))))) (mRet (mLit (.bl false))) Q5)
 (mIf (Ql (mOp2 pGt (mOp1 pLen (Za (Qt (mVar 11)) 1 [6] (gSet 0) (Ql (mOp2 ZX (mVar 0) (mVar 1))) (mVar 0))) (mI 0))) (mRet (mLit (.bl false))) Q5)))))
def Qh9:MS:=(mSeq (mAsg (gSet 5) (mOp2 Qdq (mOpA pTup (Qa (mI 0) mNil)) (mVar 1)))
 (mSeq (mAsg (gSet 6) (JX true))
 (mSeq (mFor (Qt (mVar 4)) (gSet 7) Qa8)
 (mSeq (mIf (mOrT (Ql (mOp2 Y0 (mVar 5) (mVar 2))) (mOrT (Ql (mOp2 Y0 (mVar 5) (mVar 3))) (Ql (mOp2 ZX (mOpA pTup (Qa (mVar 5) (Qa (mI 0) (Qa (mI 0) (Qa (mVar 5) mNil))))) (mVar 6))))) (mRet (mLit (.bl false))) Q5)
 (mSeq (mFor (Qt (mVar 4)) (gSet 7) Yc)
 (mRet (mLit (.bl true))))))))
def QaB:MF:=mDef 5 7 Qh9
def Qb4:MS:=(Yu (J7 (mVar 4) (Za (Q1 (mVar 0)) 1 [5] (gSet 0) Zf (mOp2 pAdd (mVar 1) (mOpA pTup (Qa (mVar 0) mNil))))))
def Qac:MS:=(mSeq (mAsg (gSet 4) (mOpA newL mNil))
 (mSeq (mFor (Qt (mVar 2)) (gSet 5) Qb4)
 (mAsg (gSet 2) (mVar 4))))
def QjZ:MS:=(mSeq (mAsg (gSet 2) (mOpA newL (Qa (mOpA pTup mNil) mNil)))
 (mSeq (mFor (Q1 (mVar 1)) (gSet 3) Qac)
 (mRet (mVar 2))))
def Qa9:MF:=mDef 2 4 QjZ
def Qlu:MS:=(mSeq (mAsg (gSet 3) (Qn YA (Qa (mVar 0) (Qa (mVar 1) mNil))))
 (mRet (mAnd (mOp1 (Qbu .bool) (mVar 3)) (mOp2 pEq (mVar 3) (mVar 2)))))
def Ji:MF:=mDef 3 1 Qlu
def Qb5:MS:=(Yu (Qeb (mVar 3) (mOp2 pMod (Qn Ys (Qa (mVar 0) (Qa (mVar 1) mNil))) (mOp2 pAdd (mOp1 pLen (mVar 3)) (mI 1))) (mVar 4)))
def Qj0:MS:=(mSeq (mAsg (gSet 3) (mOpA newL mNil))
 (mSeq (mFor (Qt (mVar 2)) (gSet 4) Qb5)
 (mRet (mVar 3))))
def Qba:MF:=mDef 3 2 Qj0
def Qge:MS:=(mSeq (mAsg (gSet 4) (Qn Ys (Qa (mVar 0) (Qa (mVar 1) mNil))))
 (mSeq (mAsg (gSet 5) (Za (Qt (QI (mVar 3) (Zh (mI 2)) Qw)) 1 [] (gSet 0) Zf (mOp1 JH (mVar 0))))
 (mSeq (mAsg (gSet 6) (mOp2 pMod (mVar 4) (mI 3)))
 (mSeq (mIf (QfY (Ql (mOp2 pEq (mOp2 pMod (mOp2 Zg (mVar 4) (mI 3)) (mI 2)) (mI 0))) (Ql (mOp2 pGt (mOp1 pLen (mOp2 pIx (mVar 5) (mVar 6))) (mI 0)))) (Yu (Qll (mOp2 pIx (mVar 5) (mVar 6)) (mOp2 pMod (mOp2 Zg (mVar 4) (mI 6)) (mOp1 pLen (mOp2 pIx (mVar 5) (mVar 6)))))) (mSeq (mAsg (gSet 7) (Qn Qa9 (Qa (mOp1 pLen (mOp2 pIx (mVar 2) (mI 0))) (Qa (mOp2 pIx (mVar 3) (mI 1)) mNil))))
 (mSeq (mAsg (gSet 8) (mOp2 pIx (mVar 7) (mOp2 pMod (mOp2 Zg (mVar 4) (mI 6)) (mOp1 pLen (mVar 7)))))
 (mSeq (mAsg (gSet 9) (mOp2 pIx (mVar 7) (mOp2 pMod (mOp2 Zg (mVar 4) (mI 100)) (mOp1 pLen (mVar 7)))))
 (mSeq (mAsg (gSet 10) (mOpA pTup (Qa (mVar 8) (Qa (mOp2 pMod (mOp2 Zg (mVar 4) (mI 1000)) (mOp1 pLen (mVar 2))) (Qa (mOp2 pMod (mOp2 Zg (mVar 4) (mI 3000)) (mOp1 pLen (mOp2 pIx (mVar 2) (mI 0)))) (Qa (mVar 9) mNil))))))
 (Yu (Yj (mOp2 pIx (mVar 5) (mVar 6)) (mOp2 pIx (mOpA newL (Qa (mVar 8) (Qa (mVar 9) (Qa (mVar 10) mNil)))) (mVar 6)))))))))
 (mRet (mOpA pTup (Qa (mLit (.str "wall")) (Qa (mOp2 pIx (mVar 3) (mI 1)) (Qa (mOp2 pIx (mVar 5) (mI 0)) (Qa (mOp2 pIx (mVar 5) (mI 1)) (Qa (mOp2 pIx (mVar 5) (mI 2)) mNil)))))))))))
def QaR:MF:=mDef 4 7 Qge
def Qlv:MS:=(mSeq (mAsg (gSet 4) (Qn Ys (Qa (mVar 0) (Qa (mVar 1) mNil))))
 (mSeq (mAsg (QiW [(gSet 5),(gSet 6),(gSet 7),(gSet 8),(gSet 9)]) (mVar 3))
 (mSeq (mAsg (QiW [(gSet 10),(gSet 11),(gSet 12),(gSet 13)]) (mOp2 pIx (mVar 9) (mOp2 pMod (mOp2 Zg (mVar 4) (mI 12)) (mOp1 pLen (mVar 9)))))
 (mSeq (mAsg (gSet 14) (mOp2 pAdd (mOpA pTup (Qa (mOp1 pLen (mOp2 pIx (mVar 2) (mI 0))) mNil)) (QI (mVar 10) (Zh (mI 1)) Qw)))
 (mSeq (mAsg (gSet 15) (mOpA newL (Qa (mOpA pTup (Qa (mLit (.str "walls")) (Qa (mVar 6) (Qa (mVar 7) (Qa (mVar 8) (Qa (mVar 9) mNil)))))) (Qa (mOpA pTup (Qa (mLit (.str "wall")) (Qa (mOp2 pAdd (mVar 6) (mI 1)) (Qa (mVar 7) (Qa (mVar 8) (Qa (mVar 9) mNil)))))) mNil))))
 (mSeq (mAsg (gSet 15) (mOp2 pAdd (mVar 15) (mOpA newL (Qa (mOpA pTup (Qa (mLit (.str "wall")) (Qa (mVar 6) (Qa (mVar 7) (Qa (mVar 8) mNil))))) (Qa (mOp2 pAdd (mVar 3) (mOpA pTup (Qa (mVar 7) mNil))) (Qa (mOpA pTup (Qa (mLit (.str "wall")) (Qa (mLit (.bl true)) (Qa (mVar 7) (Qa (mVar 8) (Qa (mVar 9) mNil)))))) mNil))))))
 (mSeq (mAsg (gSet 15) (mOp2 pAdd (mVar 15) (mOpA newL (Qa (mOpA pTup (Qa (mLit (.str "wall")) (Qa (mVar 6) (Qa (mOp2 pAdd (mVar 7) (mOpA newL (Qa (mOp2 pAdd (mVar 10) (mOpA pTup (Qa (mI 0) mNil))) mNil))) (Qa (mVar 8) (Qa (mVar 9) mNil)))))) (Qa (mOpA pTup (Qa (mLit (.str "wall")) (Qa (mVar 6) (Qa (mOpA newL mNil) (Qa (mOpA newL mNil) (Qa (mVar 9) mNil)))))) mNil)))))
 (mSeq (mAsg (gSet 15) (mOp2 pAdd (mVar 15) (mOpA newL (Qa (mOpA pTup (Qa (mLit (.str "wall")) (Qa (mVar 6) (Qa (mVar 7) (Qa (mOp2 pAdd (mVar 8) (mOpA newL (Qa (mVar 14) mNil))) (Qa (mVar 9) mNil)))))) (Qa (mOpA pTup (Qa (mLit (.str "wall")) (Qa (mVar 6) (Qa (mLit .non) (Qa (mVar 8) (Qa (mVar 9) mNil)))))) mNil)))))
 (mSeq (mAsg (gSet 15) (mOp2 pAdd (mVar 15) (mOpA newL (Qa (mOpA pTup (Qa (mLit (.str "wall")) (Qa (mVar 6) (Qa (mOp2 pAdd (mVar 7) (mOpA newL (Qa (mOp2 Qdq (mOpA pTup (Qa (mLit (.bl true)) mNil)) (mVar 6)) mNil))) (Qa (mVar 8) (Qa (mVar 9) mNil)))))) (Qa (mOp1 JH (mVar 3)) mNil)))))
 (mSeq (mAsg (gSet 15) (mOp2 pAdd (mVar 15) (mOpA newL (Qa (mOpA pTup (Qa (mLit (.str "wall")) (Qa (mVar 6) (Qa (mVar 7) (Qa (mOp2 pAdd (mVar 8) (mOpA newL (Qa (mOp1 JH (mVar 13)) mNil))) (Qa (mVar 9) mNil)))))) (Qa (mOpA pTup (Qa (mLit (.str "wall")) (Qa (mI 0) (Qa (mOpA newL (Qa (mOpA pTup mNil) mNil)) (Qa (mOpA newL (Qa (mOpA pTup mNil) mNil)) (Qa (mVar 9) mNil)))))) mNil)))))
 (mSeq (mAsg (gSet 16) (mOpA newL (Qa (mOpA pTup (Qa (mVar 10) (Qa (mOp1 pLen (mVar 2)) (Qa (mVar 12) (Qa (mVar 13) mNil))))) (Qa (mOpA pTup (Qa (mVar 10) (Qa (mVar 11) (Qa (mOp1 pNeg (mI 1)) (Qa (mVar 13) mNil))))) (Qa (mOpA pTup (Qa (mVar 10) (Qa (mVar 11) (Qa (mVar 12) mNil)))) (Qa (mOpA pTup (Qa (mVar 10) (Qa (mVar 11) (Qa (mVar 12) (Qa (mLit .non) mNil))))) mNil))))))
 (mSeq (mAsg (gSet 16) (mOp2 pAdd (mVar 16) (mOpA newL (Qa (mOpA pTup (Qa (mVar 10) (Qa (mVar 11) (Qa (mVar 12) (Qa (mOp2 pAdd (mVar 13) (mOpA pTup (Qa (mI 0) mNil))) mNil))))) (Qa (mOpA newL (Qa (mVar 10) (Qa (mVar 11) (Qa (mVar 12) (Qa (mVar 13) mNil))))) (Qa (mOpA pTup (Qa (mVar 14) (Qa (mVar 11) (Qa (mVar 12) (Qa (mVar 13) mNil))))) mNil))))))
 (mSeq (mAsg (gSet 17) (mOp1 Jt (Za (Qt (mVar 10)) 1 [] (gSet 0) Zf (mOp2 pEq (mVar 0) (mI 1)))))
 (mSeq (mAsg (gSet 16) (mOp2 pAdd (mVar 16) (mOpA newL (Qa (mOpA pTup (Qa (mVar 10) (Qa (mOp2 pEq (mVar 11) (mI 1)) (Qa (mVar 12) (Qa (mVar 13) mNil))))) (Qa (mOpA pTup (Qa (mVar 10) (Qa (mVar 11) (Qa (mOp2 pEq (mVar 12) (mI 1)) (Qa (mVar 13) mNil))))) (Qa (mOpA pTup (Qa (mVar 17) (Qa (mVar 11) (Qa (mVar 12) (Qa (mVar 13) mNil))))) mNil))))))
 (mSeq (mAsg (gSet 15) (mOp2 pAdd (mVar 15) (mOpA newL (Qa (mOpA pTup (Qa (mLit (.str "wall")) (Qa (mVar 6) (Qa (mVar 7) (Qa (mVar 8) (Qa (mOp2 pAdd (mVar 9) (mOpA newL (Qa (mOp2 pIx (mVar 16) (mOp2 pMod (mOp2 Zg (mVar 4) (mI 500)) (mI 10))) mNil))) mNil)))))) mNil))))
 (mSeq (mAsg (gSet 18) (mOp2 pIx (mVar 16) (mOp2 pAdd (mI 7) (mOp2 pMod (mOp2 Zg (mVar 4) (mI 5000)) (mI 3)))))
 (mSeq (mAsg (gSet 15) (mOp2 pAdd (mVar 15) (mOpA newL (Qa (mOpA pTup (Qa (mLit (.str "wall")) (Qa (mVar 6) (Qa (mVar 7) (Qa (mVar 8) (Qa (Za (Qt (mVar 9)) 1 [18,9] (gSet 0) Zf (mIfE (Ql (mOp2 pEq (mVar 0) (mOp2 pIx (mVar 2) (mI 0)))) (mVar 1) (mVar 0))) mNil)))))) mNil))))
 (mSeq (mAsg (gSet 15) (mOp2 pAdd (mVar 15) (mOpA newL (Qa (mOpA pTup (Qa (mLit (.str "wall")) (Qa (mVar 6) (Qa (mOp2 pAdd (mOpA newL (Qa (mVar 17) mNil)) (mVar 7)) (Qa (mVar 8) (Qa (mVar 9) mNil)))))) mNil))))
 (mRet (mOp2 pIx (mVar 15) (mOp2 pMod (mOp2 Zg (mVar 4) (mI 20)) (mOp1 pLen (mVar 15)))))))))))))))))))))))
def Qel:MF:=mDef 4 15 Qlv
def Qad:MS:=(mSeq (mAsg (gSet 9) (Qn QaR (Qa (mVar 0) (Qa (mVar 1) (Qa (mVar 3) (Qa (mVar 4) mNil))))))
 (mSeq (mIf (Q9 (Ql (Qn Ji (Qa (mVar 2) (Qa (mVar 9) (Qa (Qn QaB (Qa (mVar 3) (Qa (mOp2 pIx (mVar 9) (mI 1)) (Qa (mOp2 pIx (mVar 9) (mI 2)) (Qa (mOp2 pIx (mVar 9) (mI 3)) (Qa (mOp2 pIx (mVar 9) (mI 4)) mNil)))))) mNil)))))) (mRet (mLit (.bl false))) Q5)
 (mIf (Q9 (Ql (Qn Ji (Qa (mVar 2) (Qa (Qn Qel (Qa (mVar 0) (Qa (mVar 1) (Qa (mVar 3) (Qa (mVar 4) mNil))))) (Qa (mLit (.bl false)) mNil)))))) (mRet (mLit (.bl false))) Q5)))
def Qj1:MS:=(mSeq (mAsg (gSet 5) (Qn QaB (Qa (mVar 3) (Qa (mOp2 pIx (mVar 4) (mI 1)) (Qa (mOp2 pIx (mVar 4) (mI 2)) (Qa (mOp2 pIx (mVar 4) (mI 3)) (Qa (mOp2 pIx (mVar 4) (mI 4)) mNil)))))))
 (mSeq (mAsg (gSet 6) (Za (Qt (QI (mVar 4) (Zh (mI 2)) Qw)) 1 [] (gSet 0) Zf (mOp1 JH (mVar 0))))
 (mSeq (mIf (mOrT (Q9 (Ql (Qn Ji (Qa (mVar 2) (Qa (mVar 4) (Qa (mVar 5) mNil)))))) (Ql (mOp2 pNe (mOpA newL (Qa (mOp2 pIx (mVar 4) (mI 2)) (Qa (mOp2 pIx (mVar 4) (mI 3)) (Qa (mOp2 pIx (mVar 4) (mI 4)) mNil)))) (mVar 6)))) (mRet (mLit (.bl false))) Q5)
 (mSeq (mAsg (gSet 7) (Za (Qt (mVar 6)) 1 [0,1] (gSet 0) Zf (mOp1 Jt (Qn Qba (Qa (mVar 1) (Qa (mVar 2) (Qa (mOp2 pAdd (mVar 0) (QI (mVar 0) Qw (Zh (mI 1)))) mNil)))))))
 (mSeq (mIf (Q9 (Ql (Qn Ji (Qa (mVar 2) (Qa (mOpA pTup (Qa (mLit (.str "wall")) (Qa (mOp2 pIx (mVar 4) (mI 1)) (Qa (mOp2 pIx (mVar 7) (mI 0)) (Qa (mOp2 pIx (mVar 7) (mI 1)) (Qa (mOp2 pIx (mVar 7) (mI 2)) mNil)))))) (Qa (mVar 5) mNil)))))) (mRet (mLit (.bl false))) Q5)
 (mSeq (mFor (Q1 (mI 2)) (gSet 8) Qad)
 (mRet (mLit (.bl true)))))))))
def Qae:MF:=mDef 5 5 Qj1
def QbC:MS:=(Yu (J7 (mVar 6) (Za (Qt (mVar 5)) 1 [7,8,9] (gSet 0) Zf (mOpA pTup (Qa (mVar 1) (Qa (mVar 2) (Qa (mVar 3) (Qa (mVar 0) mNil))))))))
def QbD:MS:=(mFor (Q1 (mOp1 pLen (mOp2 pIx (mVar 3) (mI 0)))) (gSet 9) QbC)
def QbE:MS:=(mFor (Q1 (mOp1 pLen (mVar 3))) (gSet 8) QbD)
def QdF:MS:=(mIf (Q9 (Ql (Qn Ji (Qa (mVar 4) (Qa (mVar 11) (Qa (mLit (.bl false)) mNil)))))) (mRet (mLit (.bl false))) Q5)
def QnB:MS:=(mSeq (mAsg (gSet 2) (Qn Ys (Qa (mVar 0) (Qa (mVar 1) mNil))))
 (mSeq (mAsg (gSet 3) (Qn QcW (Qa (mVar 0) (Qa (mVar 1) (Qa (mOp2 pAdd (mI 1) (mOp2 pMod (mVar 2) (mI 3))) (Qa (mOp2 pAdd (mI 2) (mOp2 Zg (mOp2 pMod (mOp2 Zg (mVar 2) (mI 3)) (mI 3)) (mI 2))) mNil))))))
 (mSeq (mAsg (gSet 4) (QaO 11 ZS (Qa (mVar 3) mNil)))
 (mSeq (mAsg (gSet 5) (Qn Qa9 (Qa (mOp1 pLen (mOp2 pIx (mVar 3) (mI 0))) (Qa (mI 1) mNil))))
 (mSeq (mAsg (gSet 6) (mOpA newL mNil))
 (mSeq (mFor (Qt (mVar 5)) (gSet 7) QbE)
 (mSeq (mIf (Q9 (Ql (Qn Qae (Qa (mVar 0) (Qa (mVar 1) (Qa (mVar 4) (Qa (mVar 3) (Qa (mOpA pTup (Qa (mLit (.str "wall")) (Qa (mI 1) (Qa (mVar 5) (Qa (mOp1 JH (mVar 5)) (Qa (mVar 6) mNil)))))) mNil)))))))) (mRet (mLit (.bl false))) Q5)
 (mSeq (mAsg (gSet 10) (Qn QcU (Qa (mVar 4) (Qa (mOp2 pAdd (mI 1) (mOp2 pMod (mOp2 Zg (mVar 2) (mI 9)) (mI 2))) (Qa (mI 40) mNil)))))
 (mSeq (mIf (QfY (Ql (mOp2 Qe6 (mVar 10) (mLit .non))) (Q9 (Ql (Qn Qae (Qa (mVar 0) (Qa (mVar 1) (Qa (mVar 4) (Qa (mVar 3) (Qa (mVar 10) mNil))))))))) (mRet (mLit (.bl false))) Q5)
 (mSeq (mFor (Qt (mOpA newL (Qa (mLit .non) (Qa (mOpA pTup mNil) (Qa (mLit (.str "wall")) (Qa (mOpA pTup (Qa (mLit (.str "same")) (Qa (mI 0) (Qa (mI 1) mNil)))) (Qa (QH [11] "table" (mVar 4)) (Qa (mOpA pTup (Qa (mLit (.str "wall")) mNil)) (Qa (mI 0) (Qa (mOpA newL (Qa (mLit (.str "wall")) mNil)) mNil)))))))))) (gSet 11) QdF)
 (mRet (mLit (.bl true)))))))))))))
def Qgf:MF:=mDef 2 10 QnB
def Qhm:MS:=(mIf (Q9 (Ql (Qn Qgf (Qa (mVar 0) (Qa (mVar 1) mNil))))) (mRet (mLit (.bl false))) Q5)
def QnC:MS:=(mSeq (mAsg (gSet 1) (mOpA newL (Qa (mI 0) mNil)))
 (mSeq (mFor (Q1 (mOp2 pAdd (mI 1) (mOp2 Qjw (mI 1) (mOp2 Zg (mOp1 pLen (mVar 0)) (mI 20))))) (gSet 2) Qhm)
 (mRet (mLit (.bl true)))))
def Qlw:MF:=mDef 1 2 QnC
end L3
namespace L3
open PySem
structure Keeps(S:List Nat)(g g':G):Prop where
 len:g.length<=g'.length
 at':∀n o,n∉S->g[n]?=some o->g'[n]?=some o
theorem Keeps.refl  : Keeps S g g:=⟨Um _,λ_ _ _ h=>h⟩
theorem Keeps.trans(a:Keeps S g g1)(b:Keeps S g1 g2):Keeps S g g2:=⟨Ue a.len b.len,λn o h e=>b.at' n o h (a.at' n o h e)⟩
theorem Keeps.mono(a:Keeps S g g1)(h:∀n∈S,n∈T):Keeps T g g1:=⟨a.len,λn o q e=>a.at' n o (λz=>q (h n z)) e⟩
theorem Keeps.all(a:Keeps [] g g1):Keeps S g g1:=a.mono (by simp)
theorem Keeps.push(o:GO):Keeps S g (g++[o]):=⟨by simp,λn u _ e=>by have hl:n<g.length:=(Ul.mp e).1;rw[Ui hl];exact e⟩
theorem Keeps.set(n:Nat)(o:GO):Keeps [n] g (g.set n o):=⟨by simp,λm u h e=>by rw[Uc (λz=>h (by simp[z]))];exact e⟩
structure KeepsN(k:Nat)(S:List Nat)(g g':G):Prop where
 len:g.length<=g'.length
 at':∀n o,n<k->n∉S->g[n]?=some o->g'[n]?=some o
theorem KeepsN.refl   : KeepsN k S g g:=⟨Um _,λ_ _ _ _ h=>h⟩
theorem KeepsN.trans(a:KeepsN k S g g1)(b:KeepsN k S g1 g2):KeepsN k S g g2:=⟨Ue a.len b.len,λn o l h e=>b.at' n o l h (a.at' n o l h e)⟩
theorem Keeps.n(a:Keeps S g g1)(h:∀n∈S,n<k->n∈T):KeepsN k T g g1:=⟨a.len,λn o l q e=>a.at' n o (λz=>q (h n z l)) e⟩
theorem KeepsN.mono(a:KeepsN k S g g1)(hj:j<=k)(h:∀n∈S,n<j->n∈T):KeepsN j T g g1:=⟨a.len,λn o l q e=>a.at' n o (by omega) (λz=>q (h n z l)) e⟩
theorem KeepsN.keeps(a:KeepsN g.length S g g1):Keeps S g g1:=⟨a.len,λn o q e=>a.at' n o (Ul.mp e).1 q e⟩
theorem Qo(o:GO):(g++[o])[g.length]?=some o:=by simp
theorem Qy{g:G}{n:Nat}{o:GO}(h:g[n]?=some o):n<g.length:=(Ul.mp h).1
theorem Q6{g:G}{n:Nat}{o u:GO}(h:g[n]?=some o):(g.set n u)[n]?=some u:=by rw[UU (Qy h)]
def Qgg:Out->Prop
 |.rt _ _=>True|.raise _ _ _=>True|.stuck=>True|_=>False
theorem JL{src:Src}{t:MG}{body:MS}{n:Nat}(I:Nat->S3->G->Prop)(R:Out->Prop)(step:∀i σ g,i<n->I i σ g->∃d σ1,src.at' g i=some (some d)/\t d σ=some σ1/\((∃σ2 g2,(body σ1 g=.nx σ2 g2\/body σ1 g=.ct σ2 g2)/\I (i+1) σ2 g2)\/(Qgg (body σ1 g)/\R (body σ1 g))))(stop:∀σ g,I n σ g->src.at' g n=some none):∀(f i:Nat)(σ:S3)(g:G),n-i<f->i<=n->I i σ g->(∃σ' g',forL src t body f i σ g=.nx σ' g'/\I n σ' g')\/(Qgg (forL src t body f i σ g)/\R (forL src t body f i σ g))
 |0,_,_,_,h,_,_=>by omega
 |f+1,i,σ,g,hf,hi,h=>by
  unfold forL;by_cases e:i=n
  ·subst e;rw[stop σ g h];exact .inl ⟨σ,g,rfl,h⟩
  ·obtain⟨d,σ1,h1,h2,h3⟩:=step i σ g (by omega) h;rw[h1];dsimp only;rw[h2];dsimp only;rcases h3 with⟨σ2,g2,h3|h3,h4⟩|⟨h3,h4⟩
   ·rw[h3];exact JL I R step stop f (i+1) σ2 g2 (by omega) (by omega) h4
   ·rw[h3];exact JL I R step stop f (i+1) σ2 g2 (by omega) (by omega) h4
   ·cases hb:body σ1 g with
    |rt d g'=>rw[hb]at h4;exact .inr ⟨trivial,h4⟩|raise x σ' g'=>rw[hb]at h4;exact .inr ⟨trivial,h4⟩|nx _ _=>rw[hb]at h3;exact h3.elim|bk _ _=>rw[hb]at h3;exact h3.elim|ct _ _=>rw[hb]at h3;exact h3.elim|stuck=>rw[hb]at h4;exact .inr ⟨trivial,h4⟩
theorem Y2{t:MG}{body:MS}{lo:Int}{n:Nat}{σ:S3}{g:G}(I:Nat->S3->G->Prop)(h0:I 0 σ g)(step:∀i σ g,i<n->I i σ g->∃σ1 σ2 g2,t (.int (lo+i)) σ=some σ1/\body σ1 g=.nx σ2 g2/\I (i+1) σ2 g2):∃σ' g',forL (ZI lo n) t body (n+1) 0 σ g=.nx σ' g'/\I n σ' g':=by
 have:=JL (src:=ZI lo n) (t:=t) (body:=body) (n:=n) I (λ_=>False) (λi σ g hi h=>by obtain⟨σ1,σ2,g2,a,b,c⟩:=step i σ g hi h;exact⟨.int (lo+i),σ1,by simp[ZI,hi],a,.inl ⟨σ2,g2,.inl b,c⟩⟩) (λσ g _=>by simp[ZI]) (n+1) 0 σ g (by omega) (by omega) h0;rcases this with h|h
 ·exact h
 ·exact h.2.elim
theorem Qj2{t:MG}{body:MS}{ds:List D}{σ:S3}{g:G}(I:Nat->S3->G->Prop)(h0:I 0 σ g)(step:∀i d σ g,ds[i]?=some d->I i σ g->∃σ1 σ2 g2,t d σ=some σ1/\body σ1 g=.nx σ2 g2/\I (i+1) σ2 g2):∃σ' g',forL ⟨λ_ i=>some ds[i]?,ds.length⟩ t body (ds.length+1) 0 σ g=.nx σ' g'/\I ds.length σ' g':=by
 have:=JL (src:=⟨λ_ i=>some ds[i]?,ds.length⟩) (t:=t) (body:=body) (n:=ds.length) I (λ_=>False) (λi σ g hi h=>by obtain⟨σ1,σ2,g2,a,b,c⟩:=step i ds[i] σ g (by simp[hi]) h;exact⟨ds[i],σ1,by simp[hi],a,.inl ⟨σ2,g2,.inl b,c⟩⟩) (λσ g _=>by simp) (ds.length+1) 0 σ g (by omega) (by omega) h0;rcases this with h|h
 ·exact h
 ·exact h.2.elim
theorem Qfm{t:MG}{body:MS}{ds:List D}{σ:S3}{g:G}(I:Nat->S3->G->Prop)(R:Out->Prop)(h0:I 0 σ g)(step:∀i d σ g,ds[i]?=some d->I i σ g->∃σ1,t d σ=some σ1/\((∃σ2 g2,body σ1 g=.nx σ2 g2/\I (i+1) σ2 g2)\/(Qgg (body σ1 g)/\R (body σ1 g)))):
  (∃σ' g',forL ⟨λ_ i=>some ds[i]?,ds.length⟩ t body (ds.length+1) 0 σ g=.nx σ' g'/\I ds.length σ' g')\/(Qgg (forL ⟨λ_ i=>some ds[i]?,ds.length⟩ t body (ds.length+1) 0 σ g)/\R (forL ⟨λ_ i=>some ds[i]?,ds.length⟩ t body (ds.length+1) 0 σ g)):=
 JL (src:=⟨λ_ i=>some ds[i]?,ds.length⟩) (t:=t) (body:=body) (n:=ds.length) I R (λi σ g hi h=>by
  obtain⟨σ1,a,b⟩:=step i ds[i] σ g (by simp[hi]) h;refine⟨ds[i],σ1,by simp[hi],a,?_⟩;rcases b with⟨σ2,g2,b,c⟩|b
  ·exact .inl ⟨σ2,g2,.inl b,c⟩
  ·exact .inr b) (λσ g _=>by simp) (ds.length+1) 0 σ g (by omega) (by omega) h0
theorem Qem{src:Src}{t:MG}{body:MS}{n:Nat}{σ:S3}{g:G}(hn:src.top=n)(I:Nat->S3->G->Prop)(h0:I 0 σ g)(step:∀i σ g,i<n->I i σ g->∃d σ1 σ2 g2,src.at' g i=some (some d)/\t d σ=some σ1/\body σ1 g=.nx σ2 g2/\I (i+1) σ2 g2)(stop:∀σ g,I n σ g->src.at' g n=some none):∃σ' g',forL src t body (src.top+1) 0 σ g=.nx σ' g'/\I n σ' g':=by
 rw[hn];have:=JL (src:=src) (t:=t) (body:=body) (n:=n) I (λ_=>False) (λi σ g hi h=>by obtain⟨d,σ1,σ2,g2,a,b,c,e⟩:=step i σ g hi h;exact⟨d,σ1,a,b,.inl ⟨σ2,g2,.inl c,e⟩⟩) stop (n+1) 0 σ g (by omega) (by omega) h0;rcases this with h|h
 ·exact h
 ·exact h.2.elim
theorem YB{src:Src}{t:MG}{c:MT}{e:ME}{n:Nat}(I:Nat->S3->G->List D->Prop)(step:∀i σ g acc,i<n->I i σ g acc->∃d σ1 g1,src.at' g i=some (some d)/\t d σ=some σ1/\((∃y g2,c σ1 g=.ok true g1/\e σ1 g1=.ok y g2/\I (i+1) σ1 g2 (acc++[y]))\/(c σ1 g=.ok false g1/\I (i+1) σ1 g1 acc)))(stop:∀σ g acc,I n σ g acc->src.at' g n=some none):∀(f i:Nat)(σ:S3)(g:G)(acc:List D),n-i<f->i<=n->I i σ g acc->∃ds σ' g',Z9 src t c e f i σ g acc=.ok ds g'/\I n σ' g' ds
 |0,_,_,_,_,h,_,_=>by omega
 |f+1,i,σ,g,acc,hf,hi,h=>by
  unfold Z9;by_cases q:i=n
  ·subst q;rw[stop σ g acc h];exact⟨acc,σ,g,rfl,h⟩
  ·obtain⟨d,σ1,g1,h1,h2,h3⟩:=step i σ g acc (by omega) h;rw[h1];dsimp only;rw[h2];dsimp only;rcases h3 with⟨y,g2,h3,h4,h5⟩|⟨h3,h5⟩
   ·rw[h3];dsimp only;rw[Uj rfl,h4];exact YB I step stop f (i+1) σ1 g2 _ (by omega) (by omega) h5
   ·rw[h3];dsimp only;rw[Uo Uk];exact YB I step stop f (i+1) σ1 g1 _ (by omega) (by omega) h5
theorem Qia{ds:List D}{e:ME}{no:Nat}{σ:S3}{g:G}{f:D->D}(hz:ds.length<=SZ)(he:∀d∈ds,∀g1,Keeps [] g g1->∃g2,e ((List.replicate (no+1) none++σ).set 0 (some d)) g1=.ok (f d) g2/\Keeps [] g1 g2):
  ∃g',Z9 ⟨λ_ i=>some ds[i]?,ds.length⟩ (gSet 0) Zf e (ds.length+1) 0 (List.replicate (no+1) none++σ) g []=.ok (ds.map f) g'/\Keeps [] g g':=by
 obtain⟨xs,σ',g',h1,h2,h3,h4⟩:=YB (src:=⟨λ_ i=>some ds[i]?,ds.length⟩) (t:=gSet 0) (c:=Zf) (e:=e) (n:=ds.length)
  (λi σ' g1 acc=>acc=(ds.take i).map f/\Keeps [] g g1/\∃u,σ'=(List.replicate (no+1) none++σ).set 0 u) (λi σ' g1 acc hi h=>by
   obtain⟨h1,h2,u,h3⟩:=h;obtain⟨g2,k1,k2⟩:=he ds[i] (UY hi) g1 h2;refine⟨ds[i],_,g1,by simp[hi],rfl,.inl ⟨f ds[i],g2,rfl,?_,?_,h2.trans k2,some ds[i],?_⟩⟩
   ·subst h3;rw[Wx];exact k1
   ·rw[h1,UW hi,Uz];rfl
   ·subst h3;rw[Wx]) (λσ g acc _=>by simp) (ds.length+1) 0 (List.replicate (no+1) none++σ) g [] (by omega) (by omega) ⟨by simp,.refl,none,by simp[Rg]⟩
 refine⟨g',?_,h3⟩;rw[h1,h2,U5]
end L3
namespace L3
open PySem
def Z7(d:D)(n:Int):Bool:=match d with
 |.int i=>decide (0<=i/\i<n)|_=>false
def QdG:D->Bool
 |.int _=>true|.bl _=>true|_=>false
theorem Qhn(g:G)(h:QdG d=true):∃t,tyOf g d=some t:=by
 cases d with
 |int n=>exact⟨_,rfl⟩|bl n=>exact⟨_,rfl⟩|_=>cases h
theorem JM(d:D)(n:Int)(g:G)(t:Ty)(_:tyOf g d=some t)(hp:QdG d=true:=by rfl):Q0 [d,.int n] g=.ok (.bl (Z7 d n)) g:=by
 cases d with
 |int i=>
  have c:Qdz pLe pLt (mI 0) (mVar 0) (mVar 1) [some (.int i),some (.int n)] g=.ok (.bl (decide (0<=i/\i<n))) g:=by
   unfold Qdz;rw[show(mI 0) [some (D.int i),some (D.int n)] g=.ok (.int 0) g from rfl,Res.bind_ok,show mVar 0 [some (D.int i),some (D.int n)] g=.ok (.int i) g from rfl,Res.bind_ok,show pLe (.int 0) (.int i) g=.ok (.bl (decide (0<=i))) g from rfl,Res.bind_ok];by_cases h0:0<=i
   ·rw[UB h0];show Res.ok (D.bl (decide (i<n))) g=_;by_cases h1:i<n
    ·rw[UB h1,UB ⟨h0,h1⟩]
    ·rw[Uu h1,Uu λz=>h1 z.2]
   ·rw[Uu h0,Uu λz=>h0 z.1]
  have a1:Qn Jx (Qa (mVar 0) mNil) [some (.int i),some (.int n)] g=.ok (.bl true) g:=rfl;show(match mRet (mAnd (Qn Jx (Qa (mVar 0) mNil)) (Qdz pLe pLt (mI 0) (mVar 0) (mVar 1))) [some (.int i),some (.int n)] g with
   |.nx _ g'=>Res.ok D.non g'|.rt d g'=>.ok d g'|.raise e _ g'=>.raise e g'|_=>.stuck)=_
  unfold mRet mAnd;rw[a1,Res.bind_ok];dsimp only;rw[Uj rfl,c];rfl
 |bl b=>rfl|_=>cases hp
theorem s_l:Str.ofString "l"=⟨#[108]⟩:=by decide +kernel
theorem s_r:Str.ofString "r"=⟨#[114]⟩:=by decide +kernel
def wayD:D->Bool
 |.str s=>s==⟨#[108]⟩||s==⟨#[114]⟩|_=>false
def entD(d:D)(states signs:Int):Bool:=match d with
 |.non=>true|.tup [a,b,c]=>Z7 a signs&&wayD b&&Z7 c states|_=>false
def thingD(_:G)(d:D):Prop:=d=.non\/∃(i j:Int)(w:Str),d=.tup [.int i,.str w,.int j]
theorem QnD(s:Str)(g:G):pIn false (.str s) (.tup [.str ⟨#[108]⟩,.str ⟨#[114]⟩]) g=.ok (.bl (wayD (.str s))) g:=by show Res.ok (D.bl ((⟨#[108]⟩==s)||((⟨#[114]⟩==s)||false))) g=.ok (.bl ((s==⟨#[108]⟩)||(s==⟨#[114]⟩))) g;rw[show((⟨#[108]⟩:Str)==s)=(s==⟨#[108]⟩) from BEq.comm,show((⟨#[114]⟩:Str)==s)=(s==⟨#[114]⟩) from BEq.comm,BH]
theorem Qgh(d:D)(states signs:Int)(g:G)(h:thingD g d):YS [d,.int states,.int signs] g=.ok (.bl (entD d states signs)) g:=by
 rcases h with rfl|⟨i,j,w,rfl⟩
 ·rfl
 ·have a1:Qn Q0 (Qa (mOp2 pIx (mVar 0) (mI 0)) (Qa (mVar 2) mNil)) [some (.tup [.int i,.str w,.int j]),some (.int states),some (.int signs)] g=.ok (.bl (Z7 (.int i) signs)) g:=JM (.int i) signs g .int rfl;have a3:Qn Q0 (Qa (mOp2 pIx (mVar 0) (mI 2)) (Qa (mVar 1) mNil)) [some (.tup [.int i,.str w,.int j]),some (.int states),some (.int signs)] g=.ok (.bl (Z7 (.int j) states)) g:=JM (.int j) states g .int rfl;have a2:mOp2 (pIn false) (mOp2 pIx (mVar 0) (mI 1)) (mOpA pTup (Qa (mLit (.str "l")) (Qa (mLit (.str "r")) mNil))) [some (.tup [.int i,.str w,.int j]),some (.int states),some (.int signs)] g=.ok (.bl (wayD (.str w))) g:=by rw[s_l,s_r];exact QnD w g
  show(match (mRet (mAnd (Qn Q0 (Qa (mOp2 pIx (mVar 0) (mI 0)) (Qa (mVar 2) mNil))) (mAnd (mOp2 (pIn false) (mOp2 pIx (mVar 0) (mI 1)) (mOpA pTup (Qa (mLit (.str "l")) (Qa (mLit (.str "r")) mNil)))) (Qn Q0 (Qa (mOp2 pIx (mVar 0) (mI 2)) (Qa (mVar 1) mNil)))))) [some (.tup [.int i,.str w,.int j]),some (.int states),some (.int signs)] g with
   |.nx _ g'=>Res.ok D.non g'|.rt d g'=>.ok d g'|.raise e _ g'=>.raise e g'|_=>.stuck)=.ok (.bl (Z7 (.int i) signs&&wayD (.str w)&&Z7 (.int j) states)) g
  unfold mRet mAnd;rw[a1,Res.bind_ok];dsimp only;cases Z7 (.int i) signs
  ·rfl
  ·rw[Uj rfl,a2,Res.bind_ok];dsimp only;cases wayD (.str w)
   ·rfl
   ·rw[Uj rfl,a3];rfl
end L3
namespace L3
open PySem
theorem Keeps.ty(k:Keeps [] g g1)(h:tyOf g d=some t):tyOf g1 d=some t:=by
 cases d with
 |ref n=>
  unfold tyOf at h ⊢;dsimp only at h ⊢;cases hg:g[n]? with
  |none=>rw[hg]at h;cases h|some o=>rw[hg]at h;rw[k.at' n o (by simp) hg];exact h
 |_=>exact h
theorem thingD.mono(_:Keeps [] g g1)(h:thingD g d):thingD g1 d:=h
theorem Qcx(f:α->Bool):∀ts:List α,allB (ts.map λd=>D.bl (f d))=some (ts.all f)
 |[]=>rfl|t::ts=>by simp[allB,Qcx f ts]
def Y3(n m:Nat)(r:List D):Bool:=r.length==m&&r.all λd=>entD d n m
def Qbb(rows:List (List D)):Bool:=match rows with
 |[]=>false|r::_=>r.length != 0&&rows.all (Y3 rows.length r.length)
theorem Qj3(σ:S3)(g:G):QbZ σ g=.stuck:=rfl
theorem eq_int(i j:Int)(g:G):pEq (.int i) (.int j) g=.ok (.bl (i==j)) g:=rfl
theorem ne_int(i j:Int)(g:G):pNe (.int i) (.int j) g=.ok (.bl (!(i==j))) g:=rfl
theorem QnE(n m:Nat)(ts:List D)(x:D)(g:G)(hz:ts.length<=SZ)(h:∀d∈ts,thingD g d):
  ∃g',Keeps [] g g'/\mOp1 pAll (Za (Qt (mVar 3)) 1 [1,2] (gSet 0) Zf (Qn YS (Qa (mVar 0) (Qa (mVar 1) (Qa (mVar 2) mNil))))) [some x,some (.int n),some (.int m),some (.tup ts)] g=.ok (.bl (ts.all λd=>entD d n m)) g':=by
 obtain⟨g1,h1,k1⟩:=Qia (ds:=ts) (e:=Qn YS (Qa (mVar 0) (Qa (mVar 1) (Qa (mVar 2) mNil)))) (no:=0) (σ:=[some (.int n),some (.int m)]) (g:=g) (f:=λd=>.bl (entD d n m)) hz
  (λd hd g1 k=>⟨g1,by simp[Qn,Qa,mNil,mVar,Res.bind,Qgh d n m g1 ((h d hd).mono k)],.refl⟩)
 refine⟨g1++[.lst (ts.map λd=>.bl (entD d n m))],k1.trans (.push _),?_⟩;have h1:Z9 ⟨λ_ i=>some ts[i]?,ts.length⟩ (gSet 0) Zf (Qn YS (Qa (mVar 0) (Qa (mVar 1) (Qa (mVar 2) mNil)))) (ts.length+1) 0 [none,some (.int n),some (.int m)] g []=.ok (ts.map λd=>.bl (entD d n m)) g1:=h1;simp[mOp1,Za,Qt,mVar,Res.bind,JW,hz,capt,h1,pAll,Qcx]
theorem Qlx(n m:Nat)(ts:List D)(x:D)(g:G)(hz:ts.length<=SZ)(h:∀d∈ts,thingD g d):
  ∃g',Keeps [] g g'/\Zj [some x,some (.int n),some (.int m),some (.tup ts)] g=if Y3 n m ts=true then .nx [some x,some (.int n),some (.int m),some (.tup ts)] g' else .stuck:=by
 by_cases hl:ts.length=m
 ·obtain⟨g2,k2,e2⟩:=QnE n m ts x g hz h;refine⟨g2,k2,?_⟩;have hl':((ts.length:Int)==(m:Int))=true:=by simp[hl]
  have gr:Y3 n m ts=ts.all λd=>entD d n m:=by simp[Y3,hl]
  rw[gr];simp only[Zj,mSeq,mIf,Ql,mOp2,mOp1,mVar,Res.bind,TL,TM,pLen,ne_int,hl',TX,UH,Tq,Q5,Q9];simp only[mOp1,Res.bind]at e2;rw[e2];cases (ts.all λd=>entD d n m)<;>simp[QbZ]
 ·refine⟨g,.refl,?_⟩;have hl':((ts.length:Int)==(m:Int))=false:=by simp;omega
  have gr:Y3 n m ts=false:=by
   have:(ts.length==m)=false:=by simp[hl]
   simp only[Y3,this,Bool.false_and]
  rw[gr];simp only[Zj,mSeq,mIf,Ql,mOp2,mOp1,mVar,Res.bind,TL,TM,pLen,ne_int,hl',WE,RQ,Qj3,UH,Tq]
theorem Qen(rows:List (List D))(g:G)(hz:∀r∈rows,r.length<=SZ)(h:∀r∈rows,∀d∈r,thingD g d):
  ∃g',Keeps [] g g'/\Z6 [.tup (rows.map .tup)] g=if Qbb rows=true then .ok .non g' else .stuck:=by
 cases rows with
 |nil=>exact⟨g,.refl,by simp[Z6,mDef,Z5,mSeq,mIf,Ql,mOp2,mOp1,mVar,mLit,Res.bind,pLen,eq_int,Qj3,Qbb]⟩|cons r rest=>
  have e0:¬((rest.length:Int)+1=0):=by omega
  have e1:(0:Int)<(rest.length:Int)+1:=by omega
  by_cases hr:r.length=0
  ·refine⟨g,.refl,?_⟩;simp[Z6,mDef,Z5,mSeq,mIf,Ql,mOp2,mOp1,mVar,mLit,Res.bind,pLen,eq_int,Qj3,Qbb,hr,e0,e1,Q5,mAsg,gSet,pIx,atD,ixD]
  ·have hr':¬((r.length:Int)=0):=by omega
   have hrn:¬r=[]:=λz=>hr (by rw[z];rfl);have hd0:Qbb (r::rest)=(r::rest).all (Y3 (r::rest).length r.length):=by simp[Qbb,hr]
   have loop:=Qfm (t:=gSet 3) (ds:=(r::rest).map D.tup) (σ:=[some (.tup ((r::rest).map .tup)),some (.int (r::rest).length),some (.int r.length),none]) (g:=g) (body:=Zj)
    (λi σ g1=>Keeps [] g g1/\(∃u,σ=[some (.tup ((r::rest).map .tup)),some (.int (r::rest).length),some (.int r.length),u])/\∀x∈(r::rest).take i,Y3 (r::rest).length r.length x=true)
    (λo=>o=.stuck/\∃x∈r::rest,Y3 (r::rest).length r.length x=false) ⟨.refl,⟨none,rfl⟩,by simp⟩ (λi d σ g1 hd ⟨k,⟨u,hσ⟩,hg⟩=>by
     rw[UK]at hd;cases hx:(r::rest)[i]? with
     |none=>rw[hx]at hd;cases hd|some ts=>
      rw[hx]at hd;cases hd;have hm:ts∈r::rest:=UR hx;subst hσ;refine⟨_,rfl,?_⟩;obtain⟨g2,k2,e2⟩:=Qlx (r::rest).length r.length ts (.tup ((r::rest).map .tup)) g1 (hz ts hm) λd hd=>(h ts hm d hd).mono k;simp only[List.set];rw[e2];cases ha:Y3 (r::rest).length r.length ts with
      |true=>
       left;refine⟨_,g2,by rw[Uj rfl],k.trans k2,⟨_,rfl⟩,λx hx'=>?_⟩;rw[List.take_succ,hx]at hx';rcases Uq.mp hx' with z|z
       ·exact hg x z
       ·have:x=ts:=by simpa using z
        rw[this];exact ha
      |false =>right;rw[Uo Uk];exact⟨trivial,rfl,ts,hm,ha⟩)
   have fin:Z5 [some (.tup ((r::rest).map .tup)),none,none,none] g=forL ⟨λ_ i=>some ((r::rest).map D.tup)[i]?,((r::rest).map D.tup).length⟩ (gSet 3) Zj (((r::rest).map D.tup).length+1) 0 [some (.tup ((r::rest).map .tup)),some (.int (r::rest).length),some (.int r.length),none] g:=by simp[Z5,mSeq,mIf,Ql,mOp2,mOp1,mVar,mLit,Res.bind,pLen,eq_int,e0,Q5,mAsg,gSet,pIx,atD,ixD,e1,hr',hrn,mFor,Qt,JW]
   have ap:Z6 [.tup ((r::rest).map .tup)] g=match Z5 [some (.tup ((r::rest).map .tup)),none,none,none] g with
    |.nx _ g'=>.ok .non g'|.rt d g'=>.ok d g'|.raise e _ g'=>.raise e g'|_=>.stuck:=rfl
   rw[ap,fin];rcases loop with⟨σ',g',h1,k1,_,h2⟩|⟨_,h1,x,hx,hg⟩
   ·refine⟨g',k1,?_⟩;have:Qbb (r::rest)=true:=by rw[hd0,UL];intro x hx;exact h2 x (by rw[Ub,U5];exact hx)
    rw[Uj this,h1]
   ·refine⟨g,.refl,?_⟩;have:¬Qbb (r::rest)=true:=by rw[hd0,UL];intro z;rw[z x hx]at hg;cases hg
    rw[Uo this,h1]
end L3
namespace L3
open PySem
theorem Keeps.seq(k:Keeps [] g g1)(h:QU g d=some p):QU g1 d=some p:=by
 cases d with
 |ref n=>
  unfold QU at h ⊢;dsimp only at h ⊢;cases hg:g[n]? with
  |none=>rw[hg]at h;cases h|some o=>rw[hg]at h;rw[k.at' n o (by simp) hg];exact h
 |_=>exact h
theorem Qmq(h:QU g d=some (b,ds)):∃src,JW d g=.ok src g/\src.top=ds.length/\∀g1 i,QU g1 d=some (b,ds)->src.at' g1 i=some ds[i]?:=by
 cases d with
 |tup es=>cases h;exact⟨_,rfl,rfl,λ_ _ _=>rfl⟩|fl es=>cases h;exact⟨_,rfl,rfl,λ_ _ _=>rfl⟩|ref n=>
  unfold QU at h;dsimp only at h;cases hg:g[n]? with
  |none=>rw[hg]at h;cases h|some o=>
   rw[hg]at h;cases o with
   |lst es=>
    cases h;refine⟨_,by unfold JW;dsimp only;rw[hg],rfl,λg1 i h1=>?_⟩;unfold QU at h1;dsimp only at h1 ⊢;cases hg1:g1[n]? with
    |none=>rw[hg1]at h1;cases h1|some o1=>
     rw[hg1]at h1;cases o1 with
     |lst es1=>cases h1;rfl|_=>cases h1
   |_=>cases h
 |_=>cases h
theorem Qly{src:Src}{ds:List D}{e:ME}{no:Nat}{σ:S3}{g:G}{f:D->D}(ht:src.top=ds.length)(hs:∀g1 i,Keeps [] g g1->src.at' g1 i=some ds[i]?)(he:∀d∈ds,∀g1,Keeps [] g g1->∃g2,e ((List.replicate (no+1) none++σ).set 0 (some d)) g1=.ok (f d) g2/\Keeps [] g1 g2):
  ∃g',Z9 src (gSet 0) Zf e (src.top+1) 0 (List.replicate (no+1) none++σ) g []=.ok (ds.map f) g'/\Keeps [] g g':=by
 obtain⟨xs,σ',g',h1,h2,h3,h4⟩:=YB (src:=src) (t:=gSet 0) (c:=Zf) (e:=e) (n:=ds.length)
  (λi σ' g1 acc=>acc=(ds.take i).map f/\Keeps [] g g1/\∃u,σ'=(List.replicate (no+1) none++σ).set 0 u) (λi σ' g1 acc hi h=>by
   obtain⟨h1,h2,u,h3⟩:=h;obtain⟨g2,k1,k2⟩:=he ds[i] (UY hi) g1 h2;refine⟨ds[i],_,g1,by rw[hs g1 i h2];simp[hi],rfl,.inl ⟨f ds[i],g2,rfl,?_,?_,h2.trans k2,some ds[i],?_⟩⟩
   ·subst h3;rw[Wx];exact k1
   ·rw[h1,UW hi,Uz];rfl
   ·subst h3;rw[Wx]) (λσ g1 acc h=>by rw[hs g1 _ h.2.1];simp) (src.top+1) 0 (List.replicate (no+1) none++σ) g [] (by omega) (by omega) ⟨by simp,.refl,none,by simp[Rg]⟩
 refine⟨g',?_,h3⟩;rw[h1,h2,U5]
def rowsOf(g:G)(d:D)(rows:List (List D)):Prop:=∃b ds,QU g d=some (b,ds)/\ds.length=rows.length/\∀(i:Nat) x r,ds[i]?=some x->rows[i]?=some r->∃c,QU g x=some (c,r)
theorem rowsOf.mono(k:Keeps [] g g1)(h:rowsOf g d rows):rowsOf g1 d rows:=by obtain⟨b,ds,h1,h2,h3⟩:=h;exact⟨b,ds,k.seq h1,h2,λi x r hx hr=>let ⟨c,q⟩:=h3 i x r hx hr;⟨c,k.seq q⟩⟩
theorem QcX(h:QU g d=some (b,ds)):Jt d g=.ok (.tup ds) g:=by
 cases d with
 |tup es=>cases h;rfl|fl es=>cases h;rfl|ref n=>
  unfold QU at h;dsimp only at h;cases hg:g[n]? with
  |none=>rw[hg]at h;cases h|some o=>
   rw[hg]at h;cases o with
   |lst es=>cases h;simp[Jt,hg]|_=>cases h
 |_=>cases h
def Y4(rows:List (List D)):GO:=.ins 11 [(Str.ofString "table",.tup (rows.map .tup))]
theorem QnF(m:Nat)(d:D)(rows:List (List D))(g:G)(hm:g[m]?=some (.ins 11 []))(hr:rowsOf g d rows)(hz:∀r∈rows,r.length<=SZ)(hl:rows.length<=SZ)(h:∀r∈rows,∀d∈r,thingD g d):
  ∃g',Keeps [] g g'/\ZS [.ref m,d] g=if Qbb rows=true then .ok .non (g'.set m (Y4 rows)) else .stuck:=by
 obtain⟨b,ds,h1,h2,h3⟩:=hr;obtain⟨src,s1,s2,s3⟩:=Qmq h1;have mp:∀x∈ds,∃c r,QU g x=some (c,r):=λx hx=>by obtain⟨i,hi,rfl⟩:=List.getElem_of_mem hx;obtain⟨c,q⟩:=h3 i ds[i] (rows[i]'(by omega)) (by simp[hi]) (by simp[show i<rows.length by omega]);exact⟨c,_,q⟩
 obtain⟨g1,c1,k1⟩:=Qly (src:=src) (ds:=ds) (e:=mOp1 Jt (mVar 0)) (no:=0) (σ:=[]) (g:=g) (f:=λx=>.tup (((QU g x).map (·.2)).getD [])) s2 (λg1 i k=>s3 g1 i (k.seq h1)) (λx hx g1 k=>by obtain⟨c,r,q⟩:=mp x hx;refine⟨g1,?_,.refl⟩;simp[mOp1,mVar,Res.bind,QcX (k.seq q),q]);have em:(ds.map λx=>D.tup (((QU g x).map (·.2)).getD []))=rows.map .tup:=by
  apply List.ext_getElem
  ·simp[h2]
  ·intro i hi hi';simp only[Ub]at hi hi';obtain⟨c,q⟩:=h3 i ds[i] rows[i] (by simp[hi]) (by simp[hi']);simp[q]
 rw[em]at c1;have c1:Z9 src (gSet 0) Zf (mOp1 Jt (mVar 0)) (src.top+1) 0 [none] g []=.ok (rows.map .tup) g1:=c1;have k2:Keeps [] g (g1++[.lst (rows.map .tup)]):=k1.trans (.push _);obtain⟨g3,k3,c3⟩:=Qen rows (g1++[.lst (rows.map .tup)]) hz λr hr d hd=>(h r hr d hd).mono k2;refine⟨g3,k2.trans k3,?_⟩;have hz2:src.top<=SZ:=by omega
 have hm3:=(k2.trans k3).at' m _ (by simp) hm;simp[ZS,mDef,QaL,mSeq,mAsg,mOp1,Za,Qt,mVar,Res.bind,s1,hz2,capt,c1,Jt,gSet,Yu,Qn,Qa,mNil,c3];by_cases hg:Qbb rows=true
 ·simp[hg,Zt,mVar,hm3,putG,Y4]
 ·simp[hg]
theorem QnG(d:D)(rows:List (List D))(g:G)(hr:rowsOf g d rows)(hz:∀r∈rows,r.length<=SZ)(hl:rows.length<=SZ)(h:∀r∈rows,∀d∈r,thingD g d)(a:MA)(σ:S3)(g0:G)(ha:a σ g0=.ok [d] g):
  ∃g',Keeps [] g g'/\QaO 11 ZS a σ g0=(if Qbb rows=true then .ok (.ref g.length) g' else .stuck)/\(Qbb rows=true->g'[g.length]?=some (Y4 rows)):=by
 have kp:Keeps [] g (g++[.ins 11 []]):=.push _;obtain⟨g',k',e'⟩:=QnF g.length d rows (g++[.ins 11 []]) (Qo _) (hr.mono kp) hz hl λr hr d hd=>(h r hr d hd).mono kp;by_cases hg:Qbb rows=true
 ·rw[Uj hg]at e';refine⟨g'.set g.length (Y4 rows),?_,?_,λ_=>?_⟩
  ·refine⟨by rw[UG];exact Ue kp.len k'.len,λn o _ e=>?_⟩;have hn:n<g.length:=Qy e;rw[Uc (by omega)];exact(kp.trans k').at' n o (by simp) e
  ·simp[QaO,ha,Res.bind,e',hg]
  ·rw[UU];have:=k'.len;simp at this;omega
 ·rw[Uo hg]at e';exact⟨g',kp.trans k',by simp[QaO,ha,Res.bind,e',hg],λz=>absurd z hg⟩
end L3
namespace L3
open PySem
theorem Y5(h:a σ g=.nx σ' g'):mSeq a b σ g=b σ' g':=by unfold mSeq;rw[h]
theorem Zl(h:a σ g=.rt d g'):mSeq a b σ g=.rt d g':=by unfold mSeq;rw[h]
theorem Qq(h:a σ g=.ok d g'):mAsg (gSet i) a σ g=.nx (σ.set i (some d)) g':=by unfold mAsg;rw[h];rfl
theorem Qeo(h:c σ g=.ok true g'):mIf c a b σ g=a σ g':=by unfold mIf;rw[h];rfl
theorem Qfn(h:c σ g=.ok false g'):mIf c a b σ g=b σ g':=by unfold mIf;rw[h];rfl
theorem Qp(h:a σ g=.ok ds g'):Qn f a σ g=f ds g':=by unfold Qn;rw[h];rfl
theorem Zs(h:a σ g=.ok d g'):Yu a σ g=.nx σ g':=by unfold Yu;rw[h]
theorem QX(h:a σ g=.ok d g'):mRet a σ g=.rt d g':=by unfold mRet;rw[h]
theorem Qu(hl:ds.length=k)(h:b (ds.map some++List.replicate n none) g=.rt d g'):mDef k n b ds g=.ok d g':=by unfold mDef;rw[Uj hl,h]
theorem Qpu(ns:List Int)(i:Int)(h:0<ns.length):∃x,atD (ns.map D.int) (i%ns.length)=some (.int x):=by
 have h1:0<=i % (ns.length:Int):=UT _ (by omega);have h2:i % (ns.length:Int)<ns.length:=UJ _ (by omega);have h3:(i % (ns.length:Int)).toNat<ns.length:=by omega
 refine⟨ns[(i % (ns.length:Int)).toNat],?_⟩;unfold atD ixD;rw[Ub,Uj h1,Uj h2];simp[h3]
theorem ix0(h:g[a]?=some (.lst [d])):pIx (.ref a) (.int 0) g=.ok d g:=by unfold pIx;dsimp only;rw[h];rfl
theorem ixfl(h:atD ds i=some d):pIx (.fl ds) (.int i) g=.ok d g:=by unfold pIx;dsimp only;rw[h]
theorem Qj4(c:Int)(x:D)(a:Nat)(k:Int)(g:G)(ga:g[a]?=some (.lst [.int k]))(hk:0<=k)(hk2:k<1000000001):∃m,0<=m/\m<1999999973/\(mSeq (mAsg (gSet 3) (mOp2 pMod (mOp2 pMul (mOp2 pAdd (mOp2 pAdd (mOp2 pMod (mVar 2) (mI 2147483647)) (mOp2 pMul (mOp2 pMul (mOp2 pIx (mVar 1) (mI 0)) (mOp2 pIx (mVar 1) (mI 0))) (mI 7919))) (mI 11)) (mI 48271)) (mI 2147483647)))
      (mRet (mOp2 pMod (mOp2 pMul (mVar 3) (mVar 3)) (mI 1999999973)))) [some x,some (.ref a),some (.int c),none] g=.rt (.int m) g:=by
  have c1:cM k:=⟨by omega,by omega⟩;have c2:cM 7919:=⟨by decide,by decide⟩;have c3:cM 48271:=⟨by decide,by decide⟩;have hr:=UJ ((c%2147483647+k*k*7919+11)*48271) (show(0:Int)<2147483647 by decide);have hr0:=UT ((c%2147483647+k*k*7919+11)*48271) (show(2147483647:Int)≠0 by decide);have c4:cM (((c%2147483647+k*k*7919+11)*48271) % 2147483647):=⟨by omega,by omega⟩;refine⟨((c%2147483647+k*k*7919+11)*48271) % 2147483647*(((c%2147483647+k*k*7919+11)*48271) % 2147483647) % 1999999973,UT _ (by decide),UJ _ (by decide),?_⟩;have e1:(mOp2 pMod (mOp2 pMul (mOp2 pAdd (mOp2 pAdd (mOp2 pMod (mVar 2) (mI 2147483647)) (mOp2 pMul (mOp2 pMul (mOp2 pIx (mVar 1) (mI 0)) (mOp2 pIx (mVar 1) (mI 0))) (mI 7919))) (mI 11)) (mI 48271)) (mI 2147483647)) [some x,some (.ref a),some (.int c),none] g=.ok (.int (((c%2147483647+k*k*7919+11)*48271) % 2147483647)) g:=by simp[mOp2,mVar,mLit,Res.bind,ix0 ga,pMod,pMul,pAdd,c1,c2,c3]
  rw[Y5 (Qq e1)];generalize ((c%2147483647+k*k*7919+11)*48271) % 2147483647=r at c4 ⊢;refine QX ?_;simp[mOp2,mVar,mLit,Res.bind,pMod,pMul,c4]
theorem Qj5(ns:List Int)(a:Nat)(k:Int)(g:G)(hg:g[a]?=some (.lst [.int k]))(hk:0<=k)(hk2:k<1000000000):
  ∃m,0<=m/\m<1999999973/\Ys [.fl (ns.map .int),.ref a] g=.ok (.int m) (g.set a (.lst [.int (k+1)])):=by
 have s1:Qe5 (mVar 1) (mI 0) (mOp2 pAdd (mOp2 pIx (mVar 1) (mI 0)) (mI 1)) [some (.fl (ns.map .int)),some (.ref a),none,none] g=.nx [some (.fl (ns.map .int)),some (.ref a),none,none] (g.set a (.lst [.int (k+1)])):=by simp[Qe5,mOp2,mVar,mLit,Res.bind,ix0 hg,pAdd,hg,ixD]
 have ga:(g.set a (.lst [.int (k+1)]))[a]?=some (.lst [.int (k+1)]):=Q6 hg;generalize g.set a (.lst [.int (k+1)])=g1 at s1 ga ⊢;have s2:mAsg (gSet 2) (mI 0) [some (.fl (ns.map .int)),some (.ref a),none,none] g1=.nx [some (.fl (ns.map .int)),some (.ref a),some (.int 0),none] g1:=rfl;have s3:∃c,mIf (Ql (mOp2 pGt (mOp1 pLen (mVar 0)) (mI 0))) (mAsg (gSet 2) (mOp2 pIx (mVar 0) (mOp2 pMod (mOp2 pIx (mVar 1) (mI 0)) (mOp1 pLen (mVar 0))))) Q5 [some (.fl (ns.map .int)),some (.ref a),some (.int 0),none] g1=.nx [some (.fl (ns.map .int)),some (.ref a),some (.int c),none] g1:=by
  by_cases hl:0<ns.length
  ·obtain⟨x,hx⟩:=Qpu ns (k+1) hl;have hl':(0:Int)<(ns.length:Int):=by omega
   refine⟨x,?_⟩;rw[Qeo (g':=g1) (by simp[Ql,mOp2,mOp1,mVar,mLit,Res.bind,pLen,pGt,pCmp,hl])];refine Qq ?_;simp only[mOp2,mOp1,mVar,mLit,Res.bind,TL,TM,ix0 ga,pLen,pMod,Ub,hl',RQ,ixfl hx]
  ·cases ns with
   |nil=>exact⟨0,rfl⟩|cons x r=>simp at hl
 obtain⟨c,s3⟩:=s3;obtain⟨m,m1,m2,m3⟩:=Qj4 c (.fl (ns.map .int)) a (k+1) g1 ga (by omega) (by omega);refine⟨m,m1,m2,Qu rfl ?_⟩;show Qek [some (.fl (ns.map .int)),some (.ref a),none,none] g=_;unfold Qek;rw[Y5 s1,Y5 s2,Y5 s3,m3]
end L3
namespace L3
open PySem
def entOk(d:D)(n m:Nat):Prop:=d=.non\/∃(i j:Int)(w:Str),d=.tup [.int i,.str w,.int j]/\0<=i/\i<m/\0<=j/\j<n/\(w=⟨#[108]⟩\/w=⟨#[114]⟩)
theorem entOk.ent(h:entOk d n m):entD d n m=true:=by
 rcases h with rfl|⟨i,j,w,rfl,h1,h2,h3,h4,h5⟩
 ·rfl
 ·rcases h5 with rfl|rfl<;>simp[entD,Z7,wayD,h1,h2,h3,h4]
theorem entOk.thing(h:entOk d n m):thingD g d:=by
 rcases h with h|⟨i,j,w,h,_⟩
 ·exact .inl h
 ·exact .inr ⟨i,j,w,h⟩
theorem s_lr:Str.ofString "lr"=⟨#[108,114]⟩:=by decide +kernel
theorem Qqu(i:Int)(g:G):∃w,pIx (.str "lr") (.int (i%2)) g=.ok (.str w) g/\(w=⟨#[108]⟩\/w=⟨#[114]⟩):=by
 rw[s_lr];rcases(by omega:i%2=0\/i%2=1) with e|e
 ·rw[e];exact⟨_,rfl,.inl rfl⟩
 ·rw[e];exact⟨_,rfl,.inr rfl⟩
theorem QcY(hi:σ[i]?=some (some (.ref n)))(hj:σ[j]?=some (some y))(h:g[n]?=some (.lst ds))(hz:ds.length<SZ):
  Yu (Yj (mVar i) (mVar j)) σ g=.nx σ (g.set n (.lst (ds++[y]))):=by
 refine Zs (d:=.non) ?_;simp[Yj,mVar,hi,hj,Res.bind,h,hz]
theorem Qj6(ns:List Int)(a l t:Nat)(k:Int)(n m:Nat)(x5 x7 x8 x9:Option D)(row:List D)(g:G)(hn:0<n)(hm:0<m)(ga:g[a]?=some (.lst [.int k]))(gl:g[l]?=some (.lst row))(hal:a≠l)(hk:0<=k)(hk2:k<1000000000)(hz:row.length<SZ):
  ∃d x8',entOk d n m/\ZF [some (.fl (ns.map .int)),some (.ref a),some (.int n),some (.int m),some (.ref t),x5,some (.ref l),x7,x8,x9] g=.nx [some (.fl (ns.map .int)),some (.ref a),some (.int n),some (.int m),some (.ref t),x5,some (.ref l),x7,x8',some d] ((g.set a (.lst [.int (k+1)])).set l (.lst (row++[d]))):=by
 obtain⟨mm,m1,m2,e⟩:=Qj5 ns a k g ga hk hk2;have gl1:(g.set a (.lst [.int (k+1)]))[l]?=some (.lst row):=by rw[Uc hal];exact gl
 generalize g.set a (.lst [.int (k+1)])=g1 at e gl1 ⊢;obtain⟨w,hw,ww⟩:=Qqu (mm/100) g1;have hm':(0:Int)<m:=by omega
 have hn':(0:Int)<n:=by omega
 have s1:mAsg (gSet 8) (Qn Ys (Qa (mVar 0) (Qa (mVar 1) mNil))) [some (.fl (ns.map .int)),some (.ref a),some (.int n),some (.int m),some (.ref t),x5,some (.ref l),x7,x8,x9] g=.nx [some (.fl (ns.map .int)),some (.ref a),some (.int n),some (.int m),some (.ref t),x5,some (.ref l),x7,some (.int mm),x9] g1:=Qq (by rw[Qp (ds:=[.fl (ns.map .int),.ref a]) (g':=g) rfl];exact e)
 have v2:(mOpA pTup (Qa (mOp2 pMod (mOp2 Zg (mVar 8) (mI 9)) (mVar 3)) (Qa (mOp2 pIx (mLit (.str "lr")) (mOp2 pMod (mOp2 Zg (mVar 8) (mI 100)) (mI 2))) (Qa (mOp2 pMod (mOp2 Zg (mVar 8) (mI 300)) (mVar 2)) mNil)))) [some (.fl (ns.map .int)),some (.ref a),some (.int n),some (.int m),some (.ref t),x5,some (.ref l),x7,some (.int mm),x9] g1=.ok (.tup [.int (mm/9%m),.str w,.int (mm/300%n)]) g1:=by simp[mOpA,Qa,mNil,mOp2,mVar,mLit,Res.bind,Zg,pMod,hm',hn',hw,pTup,SZ,hm,hn]
 have s2:mAsg (gSet 9) (mOpA pTup (Qa (mOp2 pMod (mOp2 Zg (mVar 8) (mI 9)) (mVar 3)) (Qa (mOp2 pIx (mLit (.str "lr")) (mOp2 pMod (mOp2 Zg (mVar 8) (mI 100)) (mI 2))) (Qa (mOp2 pMod (mOp2 Zg (mVar 8) (mI 300)) (mVar 2)) mNil)))) [some (.fl (ns.map .int)),some (.ref a),some (.int n),some (.int m),some (.ref t),x5,some (.ref l),x7,some (.int mm),x9] g1=.nx [some (.fl (ns.map .int)),some (.ref a),some (.int n),some (.int m),some (.ref t),x5,some (.ref l),x7,some (.int mm),some (.tup [.int (mm/9%m),.str w,.int (mm/300%n)])] g1:=Qq v2;have t3:Ql (mOp2 pEq (mOp2 pMod (mVar 8) (mI 9)) (mI 0)) [some (.fl (ns.map .int)),some (.ref a),some (.int n),some (.int m),some (.ref t),x5,some (.ref l),x7,some (.int mm),some (.tup [.int (mm/9%m),.str w,.int (mm/300%n)])] g1=.ok (mm%9==0) g1:=by simp[Ql,mOp2,mVar,mLit,Res.bind,pMod,eq_int]
 unfold ZF;by_cases h9:mm%9=0
 ·refine⟨.non,some (.int mm),.inl rfl,?_⟩;rw[Y5 s1,Y5 s2,Y5 (σ':=[some (.fl (ns.map .int)),some (.ref a),some (.int n),some (.int m),some (.ref t),x5,some (.ref l),x7,some (.int mm),some .non]) (g':=g1) ?_]
  ·exact QcY rfl rfl gl1 hz
  ·rw[Qeo (g':=g1) (t3.trans (by simp[h9]))];rfl
 ·refine⟨.tup [.int (mm/9%m),.str w,.int (mm/300%n)],some (.int mm),.inr ⟨_,_,w,rfl,UT _ (by omega),UJ _ hm',UT _ (by omega),UJ _ hn',ww⟩,?_⟩;rw[Y5 s1,Y5 s2,Y5 (σ':=[some (.fl (ns.map .int)),some (.ref a),some (.int n),some (.int m),some (.ref t),x5,some (.ref l),x7,some (.int mm),some (.tup [.int (mm/9%m),.str w,.int (mm/300%n)])]) (g':=g1) ?_]
  ·exact QcY rfl rfl gl1 hz
  ·rw[Qfn (g':=g1) (t3.trans (by simp[h9]))];rfl
end L3
namespace L3
open PySem
theorem Qdr(h:n<=1000):n<SZ:=Nat.lt_of_le_of_lt h (by decide)
theorem Qb6{n:Nat}(h:n<=1000):inR (n:Int):=by
 have:(n:Int)<=1000:=by exact_mod_cast h
 constructor<;>omega
theorem YC{a:ME}{n:Nat}{σ:S3}{g g':G}(h:a σ g=.ok (.int n) g')(hr:inR (n:Int)):Q1 a σ g=.ok (ZI 0 n) g':=by unfold Q1;rw[h,Res.bind_ok];dsimp only;rw[Uj hr,T9]
theorem JB(h:it σ g=.ok src g'):mFor it t body σ g=forL src t body (src.top+1) 0 σ g':=by unfold mFor;rw[h]
theorem Qlz(ns:List Int)(a l t:Nat)(k:Int)(n m:Nat)(x5 x7 x8 x9:Option D)(g:G)(hn:0<n)(hm:0<m)(hm8:m<=8)(ga:g[a]?=some (.lst [.int k]))(gl:g[l]?=some (.lst []))(hal:a≠l)(hk:0<=k)(hk2:k+m<1000000000):
  ∃row y7 y8 y9 g',mFor (Q1 (mVar 3)) (gSet 7) ZF [some (.fl (ns.map .int)),some (.ref a),some (.int n),some (.int m),some (.ref t),x5,some (.ref l),x7,x8,x9] g=.nx [some (.fl (ns.map .int)),some (.ref a),some (.int n),some (.int m),some (.ref t),x5,some (.ref l),y7,y8,y9] g'/\row.length=m/\(∀d∈row,entOk d n m)/\Keeps [a,l] g g'/\g'[a]?=some (.lst [.int (k+m)])/\g'[l]?=some (.lst row):=by
 have hr:inR (m:Int):=Qb6 (by omega);have hf:mFor (Q1 (mVar 3)) (gSet 7) ZF [some (.fl (ns.map .int)),some (.ref a),some (.int n),some (.int m),some (.ref t),x5,some (.ref l),x7,x8,x9] g=forL (ZI 0 m) (gSet 7) ZF (m+1) 0 [some (.fl (ns.map .int)),some (.ref a),some (.int n),some (.int m),some (.ref t),x5,some (.ref l),x7,x8,x9] g:=JB (YC rfl hr);rw[hf];obtain⟨σ',g',e,row,y7,y8,y9,h1,h2,h3,h4,h5,h6⟩:=Y2 (t:=gSet 7) (body:=ZF) (lo:=0) (n:=m) (σ:=[some (.fl (ns.map .int)),some (.ref a),some (.int n),some (.int m),some (.ref t),x5,some (.ref l),x7,x8,x9]) (g:=g)
  (λi σ g1=>∃row y7 y8 y9,σ=[some (.fl (ns.map .int)),some (.ref a),some (.int n),some (.int m),some (.ref t),x5,some (.ref l),y7,y8,y9]/\row.length=i/\(∀d∈row,entOk d n m)/\Keeps [a,l] g g1/\g1[a]?=some (.lst [.int (k+i)])/\g1[l]?=some (.lst row))
  ⟨[],x7,x8,x9,rfl,rfl,by simp,.refl,by simpa using ga,gl⟩ (λi σ g1 hi ⟨row,y7,y8,y9,h1,h2,h3,h4,h5,h6⟩=>by
   subst h1;obtain⟨d,x8',hd,e⟩:=Qj6 ns a l t (k+i) n m x5 (some (.int (0+i))) y8 y9 row g1 hn hm h5 h6 hal (by omega) (by omega) (Qdr (by omega));refine⟨_,_,_,rfl,e,row++[d],_,x8',_,rfl,by simp[h2],?_,?_,?_,?_⟩
   ·intro x hx;rcases Uq.mp hx with z|z
    ·exact h3 x z
    ·rw[Uf.mp z];exact hd
   ·exact h4.trans (((Keeps.set a _).mono (by simp)).trans ((Keeps.set l _).mono (by simp)))
   ·rw[Uc (Ne.symm hal),Q6 h5];simp;omega
   ·refine Q6 (o:=.lst row) ?_;rw[Uc hal];exact h6)
 exact⟨row,y7,y8,y9,g',by rw[e,h1],h2,h3,h4,h5,h6⟩
end L3
namespace L3
open PySem
theorem om1{a b c:Nat}(h1:a<b)(h2:b<c):a≠c:=by omega
theorem om2{k x:Int}(h1:0<=k)(h2:0<=x):0<=k+x:=by omega
theorem om3{k x:Int}{m:Nat}(h1:k<900000000)(h2:x<=96)(h3:m<=8):k+x+m<1000000000:=by omega
theorem om7{a b c:Nat}{ds:List D}(h2:ds.length=a)(hi:a<b)(h3:b<=12):ds.length<=1000:=by omega
def tabOf(N:Nat)(g:G)(t:Nat)(rows:List (List D)):Prop:=N<=t/\∃ds,g[t]?=some (.lst ds)/\ds.length=rows.length/\∀(i:Nat) x r,ds[i]?=some x->rows[i]?=some r->∃n,x=.ref n/\N<=n/\n≠t/\g[n]?=some (.lst r)
theorem tabOf.rows{N:Nat}{g:G}{t:Nat}{rows:List (List D)}(h:tabOf N g t rows):rowsOf g (.ref t) rows:=by obtain⟨_,ds,h1,h2,h3⟩:=h;refine⟨true,ds,by simp[QU,h1],h2,λi x r hx hr=>?_⟩;obtain⟨n,rfl,_,_,h4⟩:=h3 i x r hx hr;exact⟨true,by simp[QU,h4]⟩
theorem tabOf.mono{N:Nat}{S:List Nat}{g g1:G}{t:Nat}{rows:List (List D)}(h:tabOf N g t rows)(k:Keeps S g g1)(hS:∀n∈S,n<N):tabOf N g1 t rows:=by obtain⟨h0,ds,h1,h2,h3⟩:=h;refine⟨h0,ds,k.at' t _ (λz=>by have:=hS t z;omega) h1,h2,λi x r hx hr=>?_⟩;obtain⟨n,h4,h5,h6,h7⟩:=h3 i x r hx hr;exact⟨n,h4,h5,h6,k.at' n _ (λz=>by have:=hS n z;omega) h7⟩
theorem QlA(ns:List Int)(a:Nat)(k:Int)(n m:Nat)(g:G)(hn:0<n)(hm:0<m)(hn12:n<=12)(hm8:m<=8)(ga:g[a]?=some (.lst [.int k]))(hk:0<=k)(hk2:k<900000000):
  ∃rows g',QcW [.fl (ns.map .int),.ref a,.int n,.int m] g=.ok (.ref g.length) g'/\Keeps [a] g g'/\g'[a]?=some (.lst [.int (k+n*m)])/\tabOf g.length g' g.length rows/\rows.length=n/\(∀r∈rows,r.length=m)/\∀r∈rows,∀d∈r,entOk d n m:=by
 have hr:inR (n:Int):=Qb6 (by omega);have hal:a<g.length:=Qy ga;have hz0:([]:List D).length<=SZ:=by simp
 have s1:mAsg (gSet 4) (mOpA newL mNil) [some (.fl (ns.map .int)),some (.ref a),some (.int n),some (.int m),none,none,none,none,none,none] g=.nx [some (.fl (ns.map .int)),some (.ref a),some (.int n),some (.int m),some (.ref g.length),none,none,none,none,none] (g++[.lst []]):=Qq (by simp[mOpA,mNil,Res.bind,newL])
 have kp:Keeps [a] g (g++[.lst []]):=.push _;have ga1:(g++[.lst []])[a]?=some (.lst [.int k]):=(Keeps.push (S:=[]) (.lst [])).at' a _ (by simp) ga;have gt1:(g++[.lst []])[g.length]?=some (.lst []):=Qo _;have hl1:g.length<(g++[GO.lst []]).length:=by simp
 generalize g++[.lst []]=g1 at s1 kp ga1 gt1 hl1;obtain⟨σ',g',e,ds,rows,y5,y6,y7,y8,y9,h1,h2,h3,h4,h5,h6,h7,h8,h9⟩:=Y2 (t:=gSet 5) (body:=Jh) (lo:=0) (n:=n) (σ:=[some (.fl (ns.map .int)),some (.ref a),some (.int n),some (.int m),some (.ref g.length),none,none,none,none,none]) (g:=g1)
  (λi σ g2=>∃ds rows y5 y6 y7 y8 y9,σ=[some (.fl (ns.map .int)),some (.ref a),some (.int n),some (.int m),some (.ref g.length),y5,y6,y7,y8,y9]/\ds.length=i/\rows.length=i/\Keeps [a,g.length] g1 g2/\g2[a]?=some (.lst [.int (k+i*m)])/\g2[g.length]?=some (.lst ds)/\(∀(i:Nat) x r,ds[i]?=some x->rows[i]?=some r->∃n,x=.ref n/\g.length<n/\g2[n]?=some (.lst r))/\(∀r∈rows,r.length=m)/\∀r∈rows,∀d∈r,entOk d n m)
  ⟨[],[],none,none,none,none,none,rfl,rfl,rfl,.refl,by simpa using ga1,gt1,by simp,by simp,by simp⟩ (λi σ g2 hi ⟨ds,rows,y5,y6,y7,y8,y9,h1,h2,h3,h4,h5,h6,h7,h8,h9⟩=>by
   subst h1;have hl2:g.length<g2.length:=Qy h6;have q1:mAsg (gSet 6) (mOpA newL mNil) [some (.fl (ns.map .int)),some (.ref a),some (.int n),some (.int m),some (.ref g.length),some (.int (0+i)),y6,y7,y8,y9] g2=.nx [some (.fl (ns.map .int)),some (.ref a),some (.int n),some (.int m),some (.ref g.length),some (.int (0+i)),some (.ref g2.length),y7,y8,y9] (g2++[.lst []]):=Qq (by simp[mOpA,mNil,Res.bind,newL])
   have k3:Keeps [] g2 (g2++[.lst []]):=.push _;have gl3:(g2++[.lst []])[g2.length]?=some (.lst []):=Qo _;generalize g2++[.lst []]=g3 at q1 k3 gl3;have him:(i:Int)*m<=96:=by
    have:i*m<=12*8:=Nat.mul_le_mul (by omega) hm8
    exact_mod_cast this
   have him0:(0:Int)<=(i:Int)*m:=Int.mul_nonneg (by omega) (by omega);obtain⟨row,z7,z8,z9,g4,e4,r1,r2,r3,r4,r5⟩:=Qlz ns a g2.length g.length (k+i*m) n m (some (.int (0+i))) y7 y8 y9 g3 hn hm hm8 (k3.at' a _ (by simp) h5) gl3 (om1 hal hl2) (om2 hk him0) (om3 hk2 him hm8);have gt4:g4[g.length]?=some (.lst ds):=r3.at' _ _ (by simp;omega) (k3.at' _ _ (by simp) h6);refine⟨_,[some (.fl (ns.map .int)),some (.ref a),some (.int n),some (.int m),some (.ref g.length),some (.int (0+i)),some (.ref g2.length),z7,z8,z9],g4.set g.length (.lst (ds++[.ref g2.length])),rfl,?_,ds++[.ref g2.length],rows++[row],_,_,z7,z8,z9,rfl,by simp[h2],by simp[h3],?_,?_,?_,?_,?_,?_⟩
   ·show Jh [some (.fl (ns.map .int)),some (.ref a),some (.int n),some (.int m),some (.ref g.length),some (.int (0+i)),y6,y7,y8,y9] g2=_;unfold Jh;rw[Y5 q1,Y5 e4];exact QcY rfl rfl gt4 (Qdr (om7 (c:=0) h2 hi hn12))
   ·refine⟨by rw[UG];exact Ue h4.len (Ue k3.len r3.len),λb o hb eb=>?_⟩;have hb':b≠a/\b≠g.length:=by simpa using hb
    have e2:=h4.at' b o hb eb;have:b<g2.length:=Qy e2;rw[Uc (Ne.symm hb'.2)];exact r3.at' b o (by simp;omega) (k3.at' b o (by simp) e2)
   ·rw[Uc (by omega),r4];have:k+(i:Int)*m+m=k+((i+1:Nat):Int)*m:=by rw[Int.natCast_add,Int.add_mul];simp;omega
    rw[this]
   ·exact Q6 gt4
   ·intro j x r hx hr';have key:∀b o,g.length<b->g2[b]?=some o->(g4.set g.length (.lst (ds++[.ref g2.length])))[b]?=some o:=λb o hb eb=>by have:b<g2.length:=Qy eb;rw[Uc (by omega)];exact r3.at' b o (by simp;omega) (k3.at' b o (by simp) eb)
    by_cases hj:j<i
    ·rw[Ui (by omega)]at hx hr';obtain⟨b,hb1,hb2,hb3⟩:=h7 j x r hx hr';exact⟨b,hb1,hb2,key b _ hb2 hb3⟩
    ·have hji:j=i:=by have:=(Ul.mp hx).1;simp at this;omega
     subst hji;rw[UN (by omega),h2]at hx;rw[UN (by omega),h3]at hr';simp at hx hr';subst hx hr';exact⟨g2.length,rfl,hl2,by rw[Uc (by omega)];exact r5⟩
   ·intro r hr';rcases Uq.mp hr' with z|z
    ·exact h8 r z
    ·rw[Uf.mp z];exact r1
   ·intro r hr';rcases Uq.mp hr' with z|z
    ·exact h9 r z
    ·rw[Uf.mp z];exact r2)
 refine⟨rows,g',?_,?_,h5,⟨Um _,ds,h6,by omega,λi x r hx hr'=>?_⟩,h3,h8,h9⟩
 ·refine Qu rfl ?_;show QcV [some (.fl (ns.map .int)),some (.ref a),some (.int n),some (.int m),none,none,none,none,none,none] g=_;unfold QcV;rw[Y5 s1,Y5 (σ':=σ') (g':=g') ?_]
  ·subst h1;rfl
  ·rw[<-e];exact JB (YC rfl hr)
 ·refine⟨Ue kp.len h4.len,λb o hb eb=>?_⟩;have:b<g.length:=Qy eb;exact h4.at' b o (by simp at hb ⊢;omega) (kp.at' b o hb eb)
 ·obtain⟨b,hb1,hb2,hb3⟩:=h7 i x r hx hr';exact⟨b,hb1,by omega,by omega,hb3⟩
end L3
namespace L3
open PySem
theorem Qf(σ':S3)(g':G)(h:a σ g=.nx σ' g')(h2:b σ' g'=R):mSeq a b σ g=R:=(Y5 h).trans h2
theorem ift(g':G)(h:c σ g=.ok true g')(h2:a σ g'=R):mIf c a b σ g=R:=(Qeo h).trans h2
theorem iff'(g':G)(h:c σ g=.ok false g')(h2:b σ g'=R):mIf c a b σ g=R:=(Qfn h).trans h2
end L3
namespace L3
open PySem
theorem eq_str(s t:Str)(g:G):pEq (.str s) (.str t) g=.ok (.bl (s==t)) g:=rfl
theorem modP(h:0<j):pMod (.int i) (.int j) g=.ok (.int (i%j)) g:=Uj h
theorem divP(h:0<j)(h2:j<=1000000):Zg (.int i) (.int j) g=.ok (.int (i/j)) g:=Uj ⟨h,by omega⟩
theorem Qbc(hl:ds.length=k)(h:b (ds.map some++List.replicate n none) g=.nx σ g'):mDef k n b ds g=.ok .non g':=by unfold mDef;rw[Uj hl,h]
theorem Qk(ha:a σ g=.ok x g1)(hb:b σ g1=.ok y g2)(h:f x y g2=R):mOp2 f a b σ g=R:=by unfold mOp2;rw[ha,Res.bind_ok,hb,Res.bind_ok,h]
theorem QY(ha:a σ g=.ok x g1)(h:f x g1=R):mOp1 f a σ g=R:=by unfold mOp1;rw[ha,Res.bind_ok,h]
theorem Qz(ha:a σ g=.ok (.bl b) g1):Ql a σ g=.ok b g1:=by unfold Ql;rw[ha,Res.bind_ok]
theorem Qd(h:a σ g=.ok x g1)(h2:r σ g1=.ok xs g2):Qa a r σ g=.ok (x::xs) g2:=by unfold Qa;rw[h,Res.bind_ok,h2];rfl
theorem entOk.good(hn:0<n)(hm:0<m)(h1:rows.length=n)(h2:∀r∈rows,r.length=m)(h3:∀r∈rows,∀d∈r,entOk d n m):Qbb rows=true:=by
 cases rows with
 |nil=>simp at h1;omega|cons q rest =>have hq:=h2 q (Us ..);unfold Qbb;rw[US,UL];refine⟨by simp;intro z;rw[z]at hq;simp at hq;omega,λx hx=>?_⟩;unfold Y3;rw[US,UL];exact⟨by simp[h2 x hx,hq],λd hd=>by rw[h1,hq];exact(h3 x hx d hd).ent⟩
theorem QbF(h1:it σ g=.ok src g1)(hz:src.top<=SZ)(hc:capt n cap σ=σ0)(h2:Z9 src t c e (src.top+1) 0 σ0 g1 []=.ok ds g2):Za it n cap t c e σ g=.ok (.ref g2.length) (g2++[.lst ds]):=by simp only[Za,h1,hz,hc,h2,RQ]
theorem Qj7(h1:a σ g=.ok true g1)(h2:b σ g1=.ok true g2):mOrT (Q9 a) (Q9 b) σ g=.ok false g2:=by unfold mOrT Q9;rw[h1,Res.bind_ok,Res.bind_ok];show(if (!true)=true then Res.ok true g1 else _)=_;rw[Uo (by decide),h2];rfl
def srcL(a:Nat)(n:Nat):Src:=⟨λg i=>(match g[a]? with|some (.lst es)=>some es[i]? | _=>none),n⟩
end L3
namespace L3
open PySem
theorem Qpv(h1:a σ g=.ok false g1)(h2:b σ g1=.ok false g2):mOrT a b σ g=.ok false g2:=by unfold mOrT;rw[h1,Res.bind_ok,Uo Uk,h2]
theorem Qho{α:Type}{xs:List α}{i:Nat}{z:α}(h:i<xs.length):xs.getD i z=xs[i]:=by rw[List.getD_eq_getElem?_getD,UV h];rfl
theorem Qaf{t p:Nat}{ds:List D}{d:D}{g:G}(h:g[t]?=some (.lst ds))(hp:ds[p]?=some d):pIx (.ref t) (.int p) g=.ok d g:=by have hl:p<ds.length:=(Ul.mp hp).1;unfold pIx;dsimp only;rw[h];dsimp only;unfold atD ixD;rw[Uj (by omega),Uj (by omega)];simp[hp]
theorem QdH{t:Nat}{i:Int}{ds:List D}{d:D}{g:G}(h:g[t]?=some (.lst ds))(h0:0<=i)(hp:ds[i.toNat]?=some d):pIx (.ref t) (.int i) g=.ok d g:=by
 have e:((i.toNat:Nat):Int)=i:=by omega
 rw[<-e];exact Qaf h hp
theorem QB(h:g[l]?=some (.lst ds)):QU g (.ref l)=some (true,ds):=by unfold QU;dsimp only;rw[h]
end L3
namespace L3
open PySem
@[simp] theorem QqP:mSeq a b σ g=(match a σ g with | .nx σ' g'=>b σ' g'|o=>o):=rfl
@[simp] theorem QqQ  : mAsg (gSet i) a σ g=(match a σ g with | .ok d g'=>.nx (σ.set i (some d)) g' | .raise e g'=>.raise e σ g' | .stuck=>.stuck):=rfl
@[simp] theorem QqU  : mIf c a b σ g=(match c σ g with | .ok t g'=>if t=true then a σ g' else b σ g' | .raise e g'=>.raise e σ g' | .stuck=>.stuck):=rfl
@[simp] theorem QqR:mRet a σ g=(match a σ g with | .ok d g'=>.rt d g' | .raise e g'=>.raise e σ g' | .stuck=>.stuck):=rfl
@[simp] theorem Qqv:Yu a σ g=(match a σ g with | .ok _ g'=>.nx σ g' | .raise e g'=>.raise e σ g' | .stuck=>.stuck):=rfl
@[simp] theorem Qqw:Qm7 σ g=.rt .non g:=rfl
@[simp] theorem Qqx:Q5 σ g=.nx σ g:=rfl
@[simp] theorem Qj8:mVar i σ g=(match σ[i]? with|some (some d)=>.ok d g|_=>.stuck):=rfl
@[simp] theorem Qb7:mLit d σ g=.ok d g:=rfl
@[simp] theorem QqS  : mOp1 f a σ g=(match a σ g with | .ok x g1=>f x g1 | .raise e g'=>.raise e g' | .stuck=>.stuck):=by unfold mOp1 Res.bind;cases a σ g<;>rfl
@[simp] theorem Qmr  : mOp2 f a b σ g=(match a σ g with | .ok x g1=>(match b σ g1 with | .ok y g2=>f x y g2 | .raise e g'=>.raise e g' | .stuck=>.stuck) | .raise e g'=>.raise e g' | .stuck=>.stuck):=by unfold mOp2 Res.bind;cases a σ g with|ok x g1=>dsimp only;cases b σ g1<;>rfl|_=>rfl
@[simp] theorem QcZ:mNil σ g=.ok [] g:=rfl
@[simp] theorem QbG  : Qa a r σ g=(match a σ g with | .ok x g1=>(match r σ g1 with | .ok xs g2=>.ok (x::xs) g2 | .raise e g'=>.raise e g' | .stuck=>.stuck) | .raise e g'=>.raise e g' | .stuck=>.stuck):=by unfold Qa Res.bind;cases a σ g with|ok x g1=>dsimp only;cases r σ g1<;>rfl|_=>rfl
@[simp] theorem Qb8  : mOpA f a σ g=(match a σ g with | .ok x g1=>f x g1 | .raise e g'=>.raise e g' | .stuck=>.stuck):=by unfold mOpA Res.bind;cases a σ g<;>rfl
@[simp] theorem Qqy  : Qn f a σ g=(match a σ g with | .ok x g1=>f x g1 | .raise e g'=>.raise e g' | .stuck=>.stuck):=by unfold Qn Res.bind;cases a σ g<;>rfl
@[simp] theorem QnH:Ql a σ g=(match a σ g with | .ok (.bl b) g1=>.ok b g1 | .raise e g'=>.raise e g'|_=>.stuck):=by unfold Ql Res.bind;cases a σ g with|ok d g1=>cases d<;>rfl|_=>rfl
@[simp] theorem Qj9:QfY a b σ g=(match a σ g with | .ok c g1=>if c=true then b σ g1 else .ok false g1 | .raise e g'=>.raise e g' | .stuck=>.stuck):=by unfold QfY Res.bind;cases a σ g<;>rfl
@[simp] theorem Qhp:mOrT a b σ g=(match a σ g with | .ok c g1=>if c=true then .ok true g1 else b σ g1 | .raise e g'=>.raise e g' | .stuck=>.stuck):=by unfold mOrT Res.bind;cases a σ g<;>rfl
@[simp] theorem Qka:Q9 a σ g=(match a σ g with | .ok c g1=>.ok (!c) g1 | .raise e g'=>.raise e g' | .stuck=>.stuck):=by unfold Q9 Res.bind;cases a σ g<;>rfl
@[simp] theorem Qkb  : mIfE c a b σ g=(match c σ g with | .ok t g1=>if t=true then a σ g1 else b σ g1 | .raise e g'=>.raise e g' | .stuck=>.stuck):=by unfold mIfE Res.bind;cases c σ g<;>rfl
@[simp] theorem Qms:mAnd a b σ g=(match a σ g with | .ok (.bl c) g1=>if c=true then b σ g1 else .ok (.bl false) g1 | .raise e g'=>.raise e g'|_=>.stuck):=by unfold mAnd Res.bind;cases a σ g with|ok d g1=>cases d<;>rfl|_=>rfl
@[simp] theorem Qpw:pAdd (.int i) (.int j) g=.ok (.int (i+j)) g:=rfl
@[simp] theorem Qpx:pSub (.int i) (.int j) g=.ok (.int (i-j)) g:=rfl
@[simp] theorem QqT:pNeg (.int i) g=.ok (.int (-i)) g:=rfl
@[simp] theorem Qpy:pLt (.int i) (.int j) g=.ok (.bl (decide (i<j))) g:=rfl
@[simp] theorem Qqz:pLe (.int i) (.int j) g=.ok (.bl (decide (i<=j))) g:=rfl
@[simp] theorem QlB:pGt (.int i) (.int j) g=.ok (.bl (decide (j<i))) g:=rfl
@[simp] theorem QqV:pGe (.int i) (.int j) g=.ok (.bl (decide (j<=i))) g:=rfl
@[simp] theorem QqA:pEq (.int i) (.int j) g=.ok (.bl (i==j)) g:=rfl
@[simp] theorem Qpz:pNe (.int i) (.int j) g=.ok (.bl (!(i==j))) g:=rfl
theorem Qbd(h:g[n]?=some (.lst ds)):pLen (.ref n) g=.ok (.int ds.length) g:=by simp[pLen,h]
theorem ix_tup{ds:List D}{n:Nat}{d:D}(h:ds[n]?=some d):pIx (.tup ds) (.int n) g=.ok d g:=by obtain⟨this,e⟩:=Ul.mp h;simp[pIx,atD,ixD,this,e]
@[simp] theorem QpA{d:D}{ds:List D}:pIx (.tup (d::ds)) (.int 0) g=.ok d g:=ix_tup (n:=0) rfl
@[simp] theorem Qc0{c d:D}{ds:List D}:pIx (.tup (c::d::ds)) (.int 1) g=.ok d g:=ix_tup (n:=1) rfl
@[simp] theorem Qfo{b c d:D}{ds:List D}:pIx (.tup (b::c::d::ds)) (.int 2) g=.ok d g:=ix_tup (n:=2) rfl
@[simp] theorem Qkc{a b c d:D}{ds:List D}:pIx (.tup (a::b::c::d::ds)) (.int 3) g=.ok d g:=ix_tup (n:=3) rfl
end L3
namespace L3
open PySem
abbrev vR(n:Nat):Option D:=some (.ref n)
abbrev vI(i:Int):Option D:=some (.int i)
abbrev Ct:=List Int×Int×Int×List Int
def gmD(u:List Int):D:=.tup (u.map .int)
abbrev vM(u:List Int):Option D:=some (gmD u)
def ctD(c:Ct):D:=.tup [gmD c.1,.int c.2.1,.int c.2.2.1,gmD c.2.2.2]
theorem Qcy:∀u:List Int,rowI (u.map .int)=some u
 |[]=>rfl|x::u=>by show(rowI (u.map .int)).map (x :: ·)=_;rw[Qcy u];rfl
theorem sk_g(u:List Int):skOf false (gmD u)=some (.inl u):=by show(rowI (u.map .int)).map Sum.inl=_;rw[Qcy];rfl
theorem sk_c(c:Ct):skOf true (ctD c)=some (.inr c):=by obtain⟨l,p,q,r⟩:=c;show(match rowI (l.map .int),rowI (r.map .int) with|some x,some y=>some (Sum.inr (x,p,q,y))|_,_=>none)=_;rw[Qcy,Qcy]
theorem Qc1:∀us:List (List Int),J0 false (us.map gmD)=some (us.map .inl)
 |[]=>rfl|u::us=>by rw[UC];unfold J0;rw[sk_g,Qc1 us];rfl
theorem QlC(ds:List α):cutD ds none (some (-1))=ds.dropLast:=by unfold cutD sIxD;rw[Rs];simp only[List.drop_zero,Nat.sub_zero];rw[Uj (by omega)];congr 1;omega
theorem QlD(ds:List α):cutD ds (some 1) none=ds.tail:=by
 cases ds with
 |nil=>rfl|cons d ds=>
  have e:sIxD (d::ds).length 0 (some 1)=1:=by unfold sIxD;dsimp only;rw[Uo (by omega),Uy];omega
  unfold cutD;rw[e];show List.take (ds.length+1-1) ds=ds;simp
theorem Qkd(ds:List α):cutD ds none (some ((ds.length:Int) - 1))=ds.dropLast:=by
 unfold cutD sIxD;rw[Rs];simp only[List.drop_zero,Nat.sub_zero];cases ds with
 |nil=>rfl|cons d ds =>rw[Uo (by simp)];congr 1;simp only[Uy];omega
def wS(b:Bool):Str:=if b=true then ⟨#[114]⟩ else ⟨#[108]⟩
def enD(i:Int)(b:Bool)(j:Int):D:=.tup [.int i,.str (wS b),.int j]
def entO:D->Option (Int×Bool×Int)
 |.tup [.int i,.str w,.int j]=>some (i,decide (w=⟨#[114]⟩),j)|_=>none
def eAt(rows:List (List D))(p q:Int):D:=(rows.getD p.toNat []).getD q.toNat .non
structure Tb(rows:List (List D))(n m:Nat):Prop where
 ln:rows.length=n
 lm:∀r∈rows,r.length=m
 ok:∀r∈rows,∀d∈r,entOk d n m
theorem Tb.at'{rows:List (List D)}{n m:Nat}(h:Tb rows n m){p q:Int}(h0:0<=p)(h1:p<n)(h2:0<=q)(h3:q<m):∃r,rows[p.toNat]?=some r/\r[q.toNat]?=some (eAt rows p q)/\entOk (eAt rows p q) n m:=by
 have l1:p.toNat<rows.length:=by rw[h.ln];omega
 have hr:rows[p.toNat]∈rows:=UY l1;have l2:q.toNat<rows[p.toNat].length:=by rw[h.lm _ hr];omega
 have e:eAt rows p q=rows[p.toNat][q.toNat]:=by unfold eAt;rw[Qho l1,Qho l2]
 refine⟨rows[p.toNat],by simp[l1],by rw[e];simp[l2],?_⟩;rw[e];exact h.ok _ hr _ (UY l2)
theorem entOk.cases(h:entOk d n m):(d=.non/\entO d=none)\/∃i b j,d=enD i b j/\entO d=some (i,b,j)/\0<=i/\i<m/\0<=j/\j<n:=by
 rcases h with rfl|⟨i,j,w,rfl,h1,h2,h3,h4,rfl|rfl⟩
 ·exact .inl ⟨rfl,rfl⟩
 ·exact .inr ⟨i,false,j,rfl,by unfold entO;rfl,h1,h2,h3,h4⟩
 ·exact .inr ⟨i,true,j,rfl,by unfold entO;rfl,h1,h2,h3,h4⟩
def okG(w m:Nat)(u:List Int):Prop:=u.length=w/\∀x∈u,0<=x/\x<m
def okC(w n m:Nat)(c:Ct):Prop:=okG w m c.1/\(0<=c.2.1/\c.2.1<n)/\(0<=c.2.2.1/\c.2.2.1<m)/\okG w m c.2.2.2
def bhd(b:Bool)(c:Ct):List Int:=if b=true then c.1 else c.2.2.2
def ahd(b:Bool)(c:Ct):List Int:=if b=true then c.2.2.2 else c.1
def nxC(i:Int)(b:Bool)(j:Int)(c:Ct)(u:List Int):Ct:=if b=true then (i::c.1.dropLast,j,c.2.2.2.headD 0,u) else (u,j,c.1.headD 0,i::c.2.2.2.dropLast)
theorem okC.b(h:okC w n m c)(b:Bool):okG w m (bhd b c):=by cases b;exact h.2.2.2;exact h.1
theorem okC.a(h:okC w n m c)(b:Bool):okG w m (ahd b c):=by cases b;exact h.1;exact h.2.2.2
theorem okG.cons{w m:Nat}{u:List Int}{i:Int}(hw:1<=w)(h:okG w m u)(h0:0<=i)(h1:i<m):okG w m (i::u.dropLast):=by
 refine⟨?_,λx hx=>?_⟩
 ·rw[Uy,TJ,h.1];omega
 ·rcases Uv.mp hx with rfl|hx
  ·exact⟨h0,h1⟩
  ·exact h.2 x (Wk _ hx)
theorem okG.head(hw:1<=w)(h:okG w m u):0<=u.headD 0/\u.headD 0<m:=by
 cases u with
 |nil=>have:=h.1;simp at this;omega|cons x r=>exact h.2 x (Us ..)
theorem okC.nx{w n m:Nat}{c:Ct}{i j:Int}{b:Bool}{u:List Int}(hw:1<=w)(h:okC w n m c)(hu:okG w m u)(h0:0<=i)(h1:i<m)(h2:0<=j)(h3:j<n):okC w n m (nxC i b j c u):=by
 cases b with
 |false=>exact⟨hu,⟨h2,h3⟩,h.1.head hw,h.2.2.2.cons hw h0 h1⟩|true=>exact⟨h.1.cons hw h0 h1,⟨h2,h3⟩,h.2.2.2.head hw,hu⟩
theorem wS_r(b:Bool):(wS b==(⟨#[114]⟩:Str))=b:=by cases b<;>decide
theorem eq_w(b:Bool)(g:G):pEq (.str (wS b)) (.str ⟨#[114]⟩) g=.ok (.bl b) g:=by rw[eq_str,wS_r]
theorem Qhq(b:Bool)(g:G):Yn [.str (wS b)] g=.ok (.str (wS !b)) g:=by cases b<;>simp[Yn,QcT,mDef,eq_w,s_l,s_r]<;>rfl
theorem Qc2(i:Int)(b:Bool)(j:Int)(c:Ct)(g:G):Zp [enD i b j,ctD c] g=.ok (gmD (bhd b c)) g:=by cases b<;>simp[Zp,Qa7,mDef,enD,ctD,eq_w,s_r,bhd]
theorem Qep(i:Int)(b:Bool)(j:Int)(c:Ct)(g:G):ZD [enD i b j,ctD c] g=.ok (gmD (ahd b c)) g:=by cases b<;>simp[ZD,Qb3,mDef,enD,ctD,eq_w,s_r,ahd]
@[simp] theorem Zq    : QI a lo hi σ g=(match a σ g with | .ok x g1=>(match lo σ g1 with | .ok l g2=>(match hi σ g2 with | .ok h g3=>Qb0 x l h g3 | .raise e g'=>.raise e g' | .stuck=>.stuck) | .raise e g'=>.raise e g' | .stuck=>.stuck) | .raise e g'=>.raise e g' | .stuck=>.stuck):=by
 unfold QI Res.bind;cases a σ g with
 |ok x g1=>
  dsimp only;cases lo σ g1 with
  |ok l g2 =>dsimp only;cases hi σ g2<;>rfl|_=>rfl
 |_=>rfl
@[simp] theorem Q4  : Qw σ g=.ok none g:=rfl
@[simp] theorem ZZ   : Zh a σ g=(match a σ g with | .ok (.int i) g1=>.ok (some i) g1 | .raise e g'=>.raise e g'|_=>.stuck):=by
 unfold Zh Res.bind;cases a σ g with
 |ok d g1=>cases d<;>rfl|_=>rfl
@[simp] theorem QqW   : Qb0 (.tup ds) lo hi g=.ok (.tup (cutD ds lo hi)) g:=rfl
theorem Qag(u:List Int)(g:G):Qb0 (gmD u) none (some (-1)) g=.ok (gmD u.dropLast) g:=by show Res.ok (D.tup (cutD _ _ _)) g=_;rw[QlC,<-List.map_dropLast];rfl
theorem Qeq(u:List Int)(g:G):Qb0 (gmD u) (some 1) none g=.ok (gmD u.tail) g:=by show Res.ok (D.tup (cutD _ _ _)) g=_;rw[QlD,<-List.map_tail];rfl
theorem QlE(u:List Int)(g:G):Qb0 (gmD u) none (some ((u.length:Int) - 1)) g=.ok (gmD u.dropLast) g:=by have:=Qkd (u.map D.int);rw[Ub]at this;show Res.ok (D.tup (cutD _ _ _)) g=_;rw[this,<-List.map_dropLast];rfl
theorem Qgi(u:List Int)(g:G)(h:1<=u.length):pIx (gmD u) (.int 0) g=.ok (.int (u.headD 0)) g:=by
 cases u with
 |nil=>simp at h|cons x r=>exact QpA
theorem QqB(u:List Int)(g:G):pLen (gmD u) g=.ok (.int u.length) g:=by show Res.ok (D.int ((u.map D.int).length:Nat)) g=_;rw[Ub]
theorem QnI(i:Int)(u:List Int)(g:G)(h:u.length<=1000):pAdd (.tup [.int i]) (gmD u) g=.ok (gmD (i::u)) g:=by show(if _ then _ else _)=_;rw[Uj (by rw[Ub];exact Ue (Nat.add_le_add_left h 1) (by decide))];rfl
@[simp] theorem Qc3(xs:List D)(g:G)(h:xs.length<=100:=by decide):pTup xs g=.ok (.tup xs) g:=Uj (Ue h (by decide))
theorem Qer(i:Int)(b:Bool)(j:Int)(c:Ct)(u:List Int)(g:G)(hw:1<=w)(hw2:w<=100)(h:okC w n m c):QW [enD i b j,ctD c,gmD u] g=.ok (ctD (nxC i b j c u)) g:=by
 have ha:1<=(ahd b c).length:=by rw[(h.a b).1];exact hw
 have hb:(bhd b c).dropLast.length<=1000:=by rw[TJ,(h.b b).1];omega
 refine Qu rfl ?_;show Jn [some (enD i b j),some (ctD c),some (gmD u),none,none] g=_;unfold Jn;refine Qf [some (enD i b j),some (ctD c),some (gmD u),vI ((ahd b c).headD 0),none] g (Qq (Qk (g1:=g) (g2:=g) ((Qp (ds:=[enD i b j,ctD c]) (g':=g) rfl).trans (Qep i b j c g)) rfl (Qgi _ g ha))) ?_;refine Qf [some (enD i b j),some (ctD c),some (gmD u),vI ((ahd b c).headD 0),some (gmD (i::(bhd b c).dropLast))] g (Qq (Qk (x:=.tup [.int i]) (y:=gmD (bhd b c).dropLast) (g1:=g) (g2:=g) (by simp[enD]) ?_ (QnI i _ g hb))) ?_
 ·simp only[Zq,Q4,ZZ];rw[(Qp (ds:=[enD i b j,ctD c]) (g':=g) rfl).trans (Qc2 i b j c g)];exact Qag _ g
 ·cases b<;>simp[enD,eq_w,s_r,ctD,nxC,ahd,bhd]
theorem JN{M:Nat}{rows:List (List D)}{n m w:Nat}{g:G}{c:Ct}(hM:g[M]?=some (Y4 rows))(ht:Tb rows n m)(h:okC w n m c):Yo [.ref M,ctD c] g=.ok (eAt rows c.2.1 c.2.2.1) g:=by
 obtain⟨r,h1,h2,_⟩:=ht.at' h.2.1.1 h.2.1.2 h.2.2.1.1 h.2.2.1.2;have e1:pIx (.tup (rows.map .tup)) (.int c.2.1) g=.ok (.tup r) g:=by have:((c.2.1.toNat:Nat):Int)=c.2.1:=Rz h.2.1.1;rw[<-this];exact ix_tup (by rw[UK,h1];rfl)
 have e2:pIx (.tup r) (.int c.2.2.1) g=.ok (eAt rows c.2.1 c.2.2.1) g:=by
  have:((c.2.2.1.toNat:Nat):Int)=c.2.2.1:=Rz h.2.2.1.1
  conv=>lhs;rw[<-this]
  exact ix_tup h2
 refine Qu rfl (QX (Qk (g1:=g) (g2:=g) (Qk (g1:=g) (g2:=g) (x:=.tup (rows.map .tup)) ?_ ?_ e1) ?_ e2))
 ·unfold QH;refine QY (x:=.ref M) (g1:=g) rfl ?_;dsimp only;rw[hM];show(if 11∈[11] then _ else _)=_;rw[Uj (by decide)];simp[List.lookup]
 ·simp[ctD]
 ·simp[ctD]
end L3
namespace L3
open PySem
inductive Ky where
 |W|S|A|C|P|G (y:Bool)|B (x y:Bool)|L (x y:Bool) (k:List Int)
structure PSt where
 gs:Bool->List (List Int)
 cs:List Ct
 pd:List Ct
 dn:List Ct
abbrev TT3:=Int->Int->Option (Int×Bool×Int)
def JO(T:TT3)(y:Bool)(k:List Int)(c:Ct):Bool:=match T c.2.1 c.2.2.1 with
 |some (_,b,_)=>decide (b=y/\(ahd b c).tail=k)|none=>false
def Qah(T:TT3)(s:PSt):Bool->Bool->List Int->List D
 |false,y,k=>((s.gs y).filter λu=>decide (u.dropLast=k)).map gmD|true,y,k=>(s.dn.filter (JO T y k)).map ctD
def wF(M S C P A:Nat):List (Str×D):=[(Str.ofString "machine",.ref M),(Str.ofString "sides",.ref S),(Str.ofString "contexts",.ref C),(Str.ofString "pending",.ref P),(Str.ofString "asking",.ref A)]
def twoD(a b:Nat):List (DK×D):=[(.inr (wS false),.ref a),(.inr (wS true),.ref b)]
def grF(b:Nat):List (Str×D):=[(Str.ofString "by_seen",.ref b)]
abbrev GK:=Bool->Bool->List (List Int)
def ctn(T:TT3)(M:Nat)(ad:Ky->Nat)(s:PSt)(gk:GK):Ky->GO
 |.W=>.ins 15 (wF M (ad .S) (ad .C) (ad .P) (ad .A))|.S=>.dct (twoD (ad (.G false)) (ad (.G true)))|.A=>.dct (twoD (ad (.B true false)) (ad (.B true true)))|.C=>.dcn true (s.cs.map λc=>(.inr c,.bl true))|.P=>.lst (s.pd.map ctD)|.G y=>.ins 14 (grF (ad (.B false y)))|.B x y=>.dcn false ((gk x y).map λk=>(.inl k,.ref (ad (.L x y k))))|.L x y k=>.lst (Qah T s x y k)
def alo(gk:GK):Ky->Prop
 |.L x y k=>k∈gk x y|_=>True
structure Rp(T:TT3)(g0:G)(M:Nat)(g:G)(ad:Ky->Nat)(s:PSt)(gk:GK):Prop where
 old:Keeps [] g0 g
 at':∀k,alo gk k->g[ad k]?=some (ctn T M ad s gk k)
 ge:∀k,alo gk k->g0.length<=ad k
 inj:∀k k',alo gk k->alo gk k'->ad k=ad k'->k=k'
 nd:∀x y,(gk x y).Nodup
 kg:∀y u,u∈s.gs y->u.dropLast∈gk false y
 ka:∀y c k,c∈s.dn->JO T y k c=true->k∈gk true y
theorem Rp.lt(h:Rp T g0 M g ad s gk)(ha:alo gk k):ad k<g.length:=Qy (h.at' k ha)
theorem Rp.push(h:Rp T g0 M g ad s gk)(o:GO):Rp T g0 M (g++[o]) ad s gk:=⟨h.old.trans (.push o),λk ha=>by rw[Ui (h.lt ha)];exact h.at' k ha,h.ge,h.inj,h.nd,h.kg,h.ka⟩
theorem Rp.set(h:Rp T g0 M g ad s gk)(ha:alo gk k)(hne:∀k',alo gk k'->k'≠k->ctn T M ad s' gk k'=ctn T M ad s gk k')(kg:∀y u,u∈s'.gs y->u.dropLast∈gk false y)(ka:∀y c k,c∈s'.dn->JO T y k c=true->k∈gk true y):Rp T g0 M (g.set (ad k) (ctn T M ad s' gk k)) ad s' gk:=by
 refine⟨⟨by rw[UG];exact h.old.len,λn o hn e=>?_⟩,λk' ha'=>?_,h.ge,h.inj,h.nd,kg,ka⟩
 ·have hl:n<g0.length:=Qy e;have:=h.ge k ha;rw[Uc (by omega)];exact h.old.at' n o hn e
 ·by_cases e:k'=k
  ·subst e;exact Q6 (h.at' k' ha)
  ·rw[Uc (λz=>e (h.inj _ _ ha' ha z.symm)),hne k' ha' e];exact h.at' k' ha'
theorem Qfp(h:Rp T g0 M g ad s gk)(hk:k∉gk x y):Qah T s x y k=[]:=by
 cases x with
 |false =>show List.map _ (List.filter _ _)=[];rw[Rk.mpr λu hu z=>hk (by have:=h.kg y u hu;rw[UO z]at this;exact this)];rfl|true =>show List.map _ (List.filter _ _)=[];rw[Rk.mpr λc hc z=>hk (h.ka y c k hc z)];rfl
theorem Qbe{f:List Int->D}:∀{ks:List (List Int)}{k:List Int},nGet (ks.map λk=>(.inl k,f k)) (.inl k)=if k∈ks then some (f k) else none
 |[],k=>rfl|c::ks,k=>by
  have ih:=Qbe (f:=f) (ks:=ks) (k:=k);unfold nGet at ih ⊢;rw[UC,Tl];by_cases e:c=k
  ·subst e;rw[UB rfl];simp
  ·rw[Uu (λz=>e (Sum.inl.inj z))];dsimp only;rw[ih];simp[Ne.symm e]
def adN(ad:Ky->Nat)(x y:Bool)(k:List Int)(n:Nat):Ky->Nat
 |.L x' y' k'=>if x'=x/\y'=y/\k'=k then n else ad (.L x' y' k')
 |.W=>ad .W | .S=>ad .S | .A=>ad .A | .C=>ad .C | .P=>ad .P | .G y=>ad (.G y) | .B x y=>ad (.B x y)
def gkN(gk:GK)(x y:Bool)(k:List Int):GK:=λx' y'=>if x'=x/\y'=y then gk x' y'++[k] else gk x' y'
theorem mem_gkN  : k'∈gkN gk x y k x' y'↔k'∈gk x' y'\/(x'=x/\y'=y/\k'=k):=by
 unfold gkN;split
 ·next h=>simp[h]
 ·next h=>exact⟨.inl,λz=>z.elim id λw=>absurd ⟨w.1,w.2.1⟩ h⟩
theorem Rp.new(h:Rp T g0 M g ad s gk)(hk:k∉gk x y):Rp T g0 M ((g++[GO.lst []]).set (ad (.B x y)) (GO.dcn false (((gk x y).map λk=>(Sum.inl k,D.ref (ad (.L x y k))))++[(Sum.inl k,D.ref g.length)]))) (adN ad x y k g.length) s (gkN gk x y k):=by
 have hp:=h.push (.lst []);have hB:ad (.B x y)<g.length:=h.lt (k:=.B x y) trivial;have old:∀{k':Ky},alo gk k'->adN ad x y k g.length k'=ad k':=λ{k'} ha=>by
  cases k' with
  |L x' y' k' =>refine Uo ?_;rintro ⟨rfl,rfl,rfl⟩;exact hk ha
  |_=>rfl
 have cas:∀k',alo (gkN gk x y k) k'->alo gk k'\/k'=.L x y k:=λk' ha=>by
  cases k' with
  |L x' y' k'=>
   rcases mem_gkN.mp ha with z|⟨rfl,rfl,rfl⟩
   ·exact .inl z
   ·exact .inr rfl
  |_=>exact .inl trivial
 have newA:adN ad x y k g.length (.L x y k)=g.length:=Uj ⟨rfl,rfl,rfl⟩;have cts:∀k',alo gk k'->k'≠.B x y->ctn T M (adN ad x y k g.length) s (gkN gk x y k) k'=ctn T M ad s gk k':=λk' ha hne=>by
  cases k' with
  |B x' y' =>have hxy:¬(x'=x/\y'=y):=λz=>hne (by rw[z.1,z.2]);show GO.dcn false _=GO.dcn false _;unfold gkN;rw[Uo hxy];congr 1;refine Rf λc hc=>?_;rw[old (k':=.L x' y' c) hc]
  |_=>rfl
 refine⟨⟨by rw[UG];exact hp.old.len,λn o hn e=>?_⟩,λk' ha=>?_,λk' ha=>?_,λk1 k2 h1 h2 e=>?_,λx' y'=>?_,λy' u hu=>mem_gkN.mpr (.inl (h.kg y' u hu)),λy' c k' hc z=>mem_gkN.mpr (.inl (h.ka y' c k' hc z))⟩
 ·have:=h.ge (.B x y) trivial;have hl:n<g0.length:=Qy e;rw[Uc (by omega)];exact hp.old.at' n o hn e
 ·rcases cas k' ha with z|rfl
  ·rw[old z];by_cases e:k'=.B x y
   ·subst e;rw[Q6 (hp.at' (.B x y) trivial)];show some (GO.dcn false _)=some (GO.dcn false _);congr 2;unfold gkN;rw[Uj ⟨rfl,rfl⟩,Uz];congr 1
    ·refine Rf λc hc=>?_;rw[old (k':=.L x y c) hc]
    ·rw[UC,newA];rfl
   ·rw[Uc (λw=>e (h.inj k' (.B x y) z trivial w.symm)),cts k' z e];exact hp.at' k' z
  ·rw[newA,Uc (by omega),Qo];show some (GO.lst [])=some (GO.lst (Qah T s x y k));rw[Qfp h hk]
 ·rcases cas k' ha with z|rfl
  ·rw[old z];exact h.ge k' z
  ·rw[newA];exact h.old.len
 ·rcases cas k1 h1 with z1|rfl<;>rcases cas k2 h2 with z2|rfl
  ·rw[old z1,old z2]at e;exact h.inj _ _ z1 z2 e
  ·rw[old z1,newA]at e;have:=h.lt z1;omega
  ·rw[old z2,newA]at e;have:=h.lt z2;omega
  ·rfl
 ·unfold gkN;split
  ·next hh =>obtain⟨rfl,rfl⟩:=hh;exact T7.mpr ⟨h.nd _ _,by simp,λa ha b hb z=>hk (by rw[Uf.mp hb]at z;rw[<-z];exact ha)⟩
  ·exact h.nd _ _
end L3
namespace L3
open PySem
theorem Z0(ho:o σ g=.ok (.ref n) g)(h:g[n]?=some (.ins c fs))(hc:c∈cs)(hf:fs.lookup f=some d):QH cs f o σ g=.ok d g:=by unfold QH;refine QY ho ?_;dsimp only;rw[h];dsimp only;rw[Uj hc,hf]
theorem QT(ho:o σ g=.ok (.ref n) g1)(h:g1[n]?=some (.ins cc fs))(hm:fs.lookup m=none)(ha:a σ g1=.ok xs g2):ZW cc m f o a σ g=f (.ref n::xs) g2:=by unfold ZW;rw[ho,Res.bind_ok];dsimp only;rw[h];dsimp only;rw[Uj ⟨rfl,hm⟩,ha,Res.bind_ok]
theorem Qai:mOpA newL mNil σ g=.ok (.ref g.length) (g++[.lst []]):=by simp only[Qb8,QcZ];exact Uj (RM _)
theorem QaC(ho:o σ g=.ok (.ref n) g)(h:g[n]?=some (.dcn τ ks))(hk:k σ g=.ok y g)(hx:x σ g=.ok z g1)(h1:g1[n]?=some (.dcn τ ks))(hs:skOf τ y=some kk):QjB o k x f σ g=f n τ ks kk z g1:=by unfold QjB;rw[ho,Res.bind_ok];dsimp only;rw[h];dsimp only;rw[hk,Res.bind_ok,hx,Res.bind_ok,h1];dsimp only;rw[hs]
theorem ZG(h:σ[i]?=some (some d)):mVar i σ g=.ok d g:=by unfold mVar;rw[h]
theorem JC(ho:o σ g=.ok (.ref n) g1)(h:g1[n]?=some (.lst ds))(he:e σ g1=.ok y g1)(hz:ds.length<=1000):Yj o e σ g=.ok .non (g1.set n (.lst (ds++[y]))):=by unfold Yj;rw[ho,Res.bind_ok];dsimp only;rw[h];dsimp only;rw[he,Res.bind_ok,h];dsimp only;rw[Uj (Qdr hz)]
theorem lk1{a:Str}{v:D}{r:List (Str×D)}:List.lookup a ((a,v)::r)=some v:=by simp[List.lookup]
theorem lk2{a b:Str}{v:D}{r:List (Str×D)}(h:(a==b)=false):List.lookup a ((b,v)::r)=List.lookup a r:=by simp[List.lookup,h]
theorem Rp.atG(h:Rp T g0 M g ad s gk)(y:Bool):g[ad (.G y)]?=some (.ins 14 (grF (ad (.B false y)))):=h.at' (.G y) trivial
theorem Rp.atB(h:Rp T g0 M g ad s gk)(x y:Bool):g[ad (.B x y)]?=some (.dcn false ((gk x y).map λk=>(.inl k,.ref (ad (.L x y k))))):=h.at' (.B x y) trivial
theorem Qke(h:Rp T g0 M g ad s gk){y:Bool}{i:Nat}(hv:σ[i]?=some (vR (ad (.G y)))):QH [14] "by_seen" (mVar i) σ g=.ok (.ref (ad (.B false y))) g:=Z0 (ZG hv) (h.atG y) (by decide) lk1
theorem Qmt(h:Rp T g0 M g ad s gk)(ho:o σ g=.ok (.ref (ad (.B x y))) g)(he:e σ g=.ok (gmD k) g):∃a,Qhc o e (mOpA newL mNil) σ g=.ok (.ref a) (g++[.lst []])/\(g++[GO.lst []])[a]?=some (.lst (Qah T s x y k))/\((a=ad (.L x y k)/\k∈gk x y)\/a=g.length):=by
 have hp:=h.push (.lst []);have e1:=QaC (f:=λ_ _ ks k z g=>.ok ((nGet ks k).getD z) g) ho (h.atB x y) he Qai (hp.atB x y) (sk_g k);rw[Qbe]at e1;by_cases hk:k∈gk x y
 ·rw[Uj hk]at e1;exact⟨_,e1,hp.at' (.L x y k) hk,.inl ⟨rfl,hk⟩⟩
 ·rw[Uo hk]at e1;refine⟨_,e1,?_,.inr rfl⟩;rw[Qo,Qfp h hk]
theorem Qfq(h:Rp T g0 M g ad s gk)(hz:(gk x y).length<=1000)(ho:o σ g=.ok (.ref (ad (.B x y))) g)(he:e σ g=.ok (gmD k) g):∃g' ad' gk',Jg o e (mOpA newL mNil) σ g=.ok (.ref (ad' (.L x y k))) g'/\Rp T g0 M g' ad' s gk'/\k∈gk' x y/\(∀k0,alo gk k0->ad' k0=ad k0)/\(gk'=gk\/gk'=gkN gk x y k):=by
 have hp:=h.push (.lst []);have e1:=QaC (f:=λn τ ks k z g=>if ks.length<SZ then (match nGet ks k with|some v=>.ok v g|none=>.ok z (g.set n (.dcn τ (ks++[(k,z)])))) else .stuck) ho (h.atB x y) he Qai (hp.atB x y) (sk_g k);have e1:Jg o e (mOpA newL mNil) σ g=_:=e1;rw[Uj (by rw[Ub];exact Qdr hz),Qbe]at e1;by_cases hk:k∈gk x y
 ·rw[Uj hk]at e1;exact⟨_,ad,gk,e1,hp,hk,λ_ _=>rfl,.inl rfl⟩
 ·rw[Uo hk]at e1;refine⟨_,adN ad x y k g.length,gkN gk x y k,?_,h.new hk,mem_gkN.mpr (.inr ⟨rfl,rfl,rfl⟩),λk0 ha=>?_,.inr rfl⟩
  ·rw[e1,show adN ad x y k g.length (.L x y k)=g.length from Uj ⟨rfl,rfl,rfl⟩]
  ·cases k0 with
   |L x' y' k' =>refine Uo ?_;rintro ⟨rfl,rfl,rfl⟩;exact hk ha
   |_=>rfl
theorem Qb9(h:Rp T g0 M g ad s gk)(y:Bool)(k:List Int):∃a,QF [.ref (ad (.G y)),gmD k] g=.ok (.ref a) (g++[.lst []])/\(g++[GO.lst []])[a]?=some (.lst (Qah T s false y k))/\((a=ad (.L false y k)/\k∈gk false y)\/a=g.length):=by obtain⟨a,h1,h2,h3⟩:=Qmt (σ:=[vR (ad (.G y)),vM k]) h (x:=false) (y:=y) (k:=k) (Qke h (i:=0) rfl) (e:=mVar 1) rfl;exact⟨a,Qu rfl (QX h1),h2,h3⟩
theorem Qfr(b:Nat):(grF b).lookup (Str.ofString "beginning")=none:=by unfold grF;rw[lk2 (by decide +kernel)];rfl
theorem Qfs(b:Nat):(grF b).lookup (Str.ofString "has")=none:=by unfold grF;rw[lk2 (by decide +kernel)];rfl
theorem Qkf(b:Nat):(grF b).lookup (Str.ofString "put_in")=none:=by unfold grF;rw[lk2 (by decide +kernel)];rfl
theorem Qmu(b:Nat):(grF b).lookup (Str.ofString "in_order")=none:=by unfold grF;rw[lk2 (by decide +kernel)];rfl
theorem Qes(u:List Int):∀us:List (List Int),((us.map (Sum.inl:List Int->SKd)).any λc=>decide (c=.inl u))=decide (u∈us)
 |[]=>rfl|v::us=>by
  rw[UC,Tr,Qes u us];by_cases e:v=u
  ·subst e;simp
  ·rw[Uu (λz=>e (Sum.inl.inj z))];simp[Ne.symm e]
theorem Qmv(h:Rp T g0 M g ad s gk)(y:Bool)(u:List Int):QO [.ref (ad (.G y)),gmD u] g=.ok (.bl (decide (u∈s.gs y))) (g++[.lst []]):=by
 obtain⟨a,h1,h2,_⟩:=Qb9 h y u.dropLast;refine Qu rfl (QX (Qk (x:=gmD u) (y:=.ref a) (g1:=g) rfl ((QT (n:=ad (.G y)) (g1:=g) (xs:=[gmD u.dropLast]) (g2:=g) rfl (h.atG y) (Qfr _) ?_).trans h1) ?_))
 ·simp only[QbG,Zq,Q4,ZZ,QcZ];exact TV (λr=>match r with|Res.ok x g1=>Res.ok [x] g1 | .raise e g'=>.raise e g' | .stuck=>.stuck) (Qag u g)
 ·unfold pInG;rw[sk_g];dsimp only;rw[h2];dsimp only;show(match J0 false (((s.gs y).filter λv=>decide (v.dropLast=u.dropLast)).map gmD) with|some ks=>_|none=>_)=_;rw[Qc1];dsimp only;rw[Qes];congr 2;exact U4.mpr (by simp)
end L3
namespace L3
open PySem
theorem Qbf:∀{l m:List α},l.Nodup->(∀x∈l,x∈m)->l.length<=m.length
 |[],_,_,_=>RM _|a::l,m,h,hs=>by
  have h':=T5.mp h;obtain⟨p,q,e⟩:=List.append_of_mem (hs a (Us ..));subst e;have:l.length<=(p++q).length:=Qbf h'.2 λx hx=>by
   have hx':=hs x (Ut _ hx);rcases Uq.mp hx' with z|z
   ·exact Uq.mpr (.inl z)
   ·rcases Uv.mp z with rfl|z
    ·exact absurd hx h'.1
    ·exact Uq.mpr (.inr z)
  simp only[Uh,Uy]at this ⊢;omega
def intR(m:Nat):List Int:=(List.range m).map Int.ofNat
theorem Qet{m:Nat}{x:Int}(h0:0<=x)(h1:x<m):x∈intR m:=UE.mpr ⟨x.toNat,Ru.mpr (by omega),Rz h0⟩
def allG(m:Nat):Nat->List (List Int)
 |0=>[[]]|w+1=>(intR m).flatMap λx=>(allG m w).map (x :: ·)
theorem QaD{m:Nat}:∀{w:Nat}{u:List Int},okG w m u->u∈allG m w
 |0,u,h=>by rw[RI.mp h.1];exact Us ..
 |w+1,[],h=>by have:=h.1;simp at this
 |w+1,x::u,h=>TY.mpr ⟨x,Qet (h.2 x (Us ..)).1 (h.2 x (Us ..)).2,UE.mpr ⟨u,QaD ⟨by have:=h.1;rw[Uy]at this;omega,λy hy=>h.2 y (Ut _ hy)⟩,rfl⟩⟩
def allC(w n m:Nat):List Ct:=(allG m w).flatMap λl=>(intR n).flatMap λp=>(intR m).flatMap λq=>(allG m w).map λr=>(l,p,q,r)
theorem QlF{w n m:Nat}{c:Ct}(h:okC w n m c):c∈allC w n m:=by obtain⟨l,p,q,r⟩:=c;exact TY.mpr ⟨l,QaD h.1,TY.mpr ⟨p,Qet h.2.1.1 h.2.1.2,TY.mpr ⟨q,Qet h.2.2.1.1 h.2.2.1.2,UE.mpr ⟨r,QaD h.2.2.2,rfl⟩⟩⟩⟩
structure Few(w n m:Nat):Prop where
 w1:1<=w
 w3:w<=3
 n1:1<=n
 n3:n<=3
 m2:2<=m
 m3:m<=3
 g:(allG m w).length<=60
 k:(allG m (w-1)).length<=900
 c:(allC w n m).length<=900
structure okS(w n m:Nat)(T:TT3)(s:PSt):Prop where
 g:∀y u,u∈s.gs y->okG w m u
 gn:∀y,(s.gs y).Nodup
 c:∀c∈s.cs,okC w n m c
 cn:s.cs.Nodup
 p:∀c∈s.pd,c∈s.cs
 d:∀c∈s.dn,c∈s.cs/\T c.2.1 c.2.2.1≠none
 l:s.dn.length+s.pd.length<=s.cs.length
def KB(w m:Nat)(gk:GK):Prop:=∀x y k,k∈gk x y->okG (w-1) m k
theorem okS.gl(h:okS w n m T s)(f:Few w n m)(y:Bool):(s.gs y).length<=900:=Ue (Ue (Qbf (h.gn y) λu hu=>QaD (h.g y u hu)) f.g) (by decide)
theorem okS.cl(h:okS w n m T s)(f:Few w n m):s.cs.length<=900:=Ue (Qbf h.cn λc hc=>QlF (h.c c hc)) f.c
theorem okS.contl(h:okS w n m T s)(f:Few w n m)(x y:Bool)(k:List Int):(Qah T s x y k).length<=900:=by
 cases x with
 |false=>exact Ue (by show(List.map _ (List.filter _ _)).length<=_;rw[Ub];exact T3 ..) (h.gl f y)|true=>exact Ue (by show(List.map _ (List.filter _ _)).length<=_;rw[Ub];exact T3 ..) (Ue (Ue (TB _ _) h.l) (h.cl f))
theorem KB.len(h:KB w m gk)(nd:∀x y,(gk x y).Nodup)(f:Few w n m)(x y:Bool):(gk x y).length<=900:=Ue (Qbf (nd x y) λk hk=>QaD (h x y k hk)) f.k
theorem KB.new(h:KB w m gk)(hk:okG (w-1) m k):KB w m (gkN gk x y k):=λx' y' k' hh=>by
 rcases mem_gkN.mp hh with z|⟨_,_,rfl⟩
 ·exact h x' y' k' z
 ·exact hk
theorem okG.init(h:okG w m u):okG (w-1) m u.dropLast:=⟨by rw[TJ,h.1],λx hx=>h.2 x (Wk _ hx)⟩
theorem okG.tail(h:okG w m u):okG (w-1) m u.tail:=⟨by rw[List.length_tail,h.1],λx hx=>h.2 x (List.mem_of_mem_tail hx)⟩
def addG(s:PSt)(y:Bool)(u:List Int):PSt:={s with gs:=λy'=>if y'=y then s.gs y'++[u] else s.gs y'}
def ask(s:PSt)(c:Ct):PSt:=if c∈s.cs then s else {s with cs:=s.cs++[c],pd:=s.pd++[c]}
def askL(s:PSt)(cs:List Ct):PSt:=cs.foldl ask s
def nxT(T:TT3)(c:Ct)(u:List Int):Ct:=match T c.2.1 c.2.2.1 with
 |some (i,b,j)=>nxC i b j c u|none=>c
def Jo(T:TT3)(s:PSt)(y:Bool)(u:List Int):PSt:=if u∈s.gs y then s else askL (addG s y u) ((s.dn.filter (JO T y u.dropLast)).map λc=>nxT T c u)
def Qft(s:PSt)(c:Ct):PSt:={s with dn:=s.dn++[c]}
def popW(s:PSt):PSt:={s with pd:=s.pd.dropLast}
def gF(s:PSt)(b:Bool)(k:List Int):List (List Int):=(s.gs b).filter λu=>decide (u.dropLast=k)
def Qfu(T:TT3)(s:PSt)(c:Ct)(i:Int)(b:Bool)(j:Int):PSt:=
 let s3:=Qft (Jo T (popW s) (!b) (bhd b c)) c
 askL s3 ((gF s3 b (ahd b c).tail).map λu=>nxC i b j c u)
theorem okS.addG(h:okS w n m T s)(hu:okG w m u)(hn:u∉s.gs y):okS w n m T (addG s y u):=by
 refine⟨λy' v hv=>?_,λy'=>?_,h.c,h.cn,h.p,h.d,h.l⟩
 ·have hv:v∈(if y'=y then s.gs y'++[u] else s.gs y'):=hv;split at hv
  ·rcases Uq.mp hv with z|z
   ·exact h.g y' v z
   ·rw[Uf.mp z];exact hu
  ·exact h.g y' v hv
 ·show(if y'=y then s.gs y'++[u] else s.gs y').Nodup;split
  ·next e =>subst e;exact T7.mpr ⟨h.gn _,by simp,λa ha b hb z=>hn (by rw[Uf.mp hb]at z;rw[<-z];exact ha)⟩
  ·exact h.gn _
theorem okS.ask(h:okS w n m T s){c:Ct}(hc:okC w n m c):okS w n m T (ask s c):=by
 unfold L3.ask;split
 ·exact h
 ·next hn=>
  refine⟨h.g,h.gn,λx hx=>?_,?_,λx hx=>?_,λx hx=>⟨Uq.mpr (.inl (h.d x hx).1),(h.d x hx).2⟩,?_⟩
  ·rcases Uq.mp hx with z|z
   ·exact h.c x z
   ·rw[Uf.mp z];exact hc
  ·exact T7.mpr ⟨h.cn,by simp,λa ha b hb z=>hn (by rw[Uf.mp hb]at z;rw[<-z];exact ha)⟩
  ·rcases Uq.mp hx with z|z
   ·exact Uq.mpr (.inl (h.p x z))
   ·exact Uq.mpr (.inr z)
  ·have:=h.l;simp only[Uh,Tc];omega
theorem okS.askL:∀{cs:List Ct}{s:PSt},okS w n m T s->(∀c∈cs,okC w n m c)->okS w n m T (askL s cs)
 |[],_,h,_=>h|c::cs,s,h,hc=>okS.askL (s:=L3.ask s c) (cs:=cs) (h.ask (hc c (Us ..))) λx hx=>hc x (Ut _ hx)
end L3
namespace L3
open PySem
theorem Qgj{t:MG}{body:MS}{a:Nat}{ds:List D}{e:ME}{σ:S3}{g g1:G}(he:e σ g=.ok (.ref a) g1)(hg:g1[a]?=some (.lst ds))(I:Nat->S3->G->Prop)(h0:I 0 σ g1)(hI:∀i σ g,I i σ g->g[a]?=some (.lst ds))(step:∀i d σ g,ds[i]?=some d->I i σ g->∃σ1 σ2 g2,t d σ=some σ1/\body σ1 g=.nx σ2 g2/\I (i+1) σ2 g2):∃σ' g',mFor (Qt e) t body σ g=.nx σ' g'/\I ds.length σ' g':=by
 have es:Qt e σ g=.ok (srcL a ds.length) g1:=by unfold Qt;rw[he,Res.bind_ok];show JW (.ref a) g1=_;unfold JW;dsimp only;rw[hg];rfl
 rw[JB es];refine Qem (src:=srcL a ds.length) (n:=ds.length) rfl I h0 (λi σ g hi h=>?_) λσ g h=>?_
 ·obtain⟨σ1,σ2,g2,h1,h2,h3⟩:=step i ds[i] σ g (by simp[hi]) h;refine⟨ds[i],σ1,σ2,g2,?_,h1,h2,h3⟩;show(match g[a]? with|some (.lst es)=>some es[i]? | _=>none)=_;rw[hI i σ g h];simp[hi]
 ·show(match g[a]? with|some (.lst es)=>some es[ds.length]? | _=>none)=_;rw[hI _ σ g h];simp
theorem Qfv(h:¬(x'=false/\y'=y/\k'=u.dropLast)):Qah T (addG s y u) x' y' k'=Qah T s x' y' k':=by
 cases x' with
 |true=>rfl|false=>
  show List.map _ (List.filter _ (if y'=y then s.gs y'++[u] else s.gs y'))=List.map _ (List.filter _ (s.gs y'));split
  ·next e =>rw[T1,WU (by simp;exact λz=>h ⟨rfl,e,z.symm⟩)];simp
  ·rfl
theorem Qkg  : Qah T (addG s y u) false y u.dropLast=Qah T s false y u.dropLast++[gmD u]:=by show List.map _ (List.filter _ (if y=y then s.gs y++[u] else s.gs y))=List.map _ (List.filter _ (s.gs y))++_;rw[Uj rfl,T1,RJ (by simp),Uz];rfl
theorem Qkh(h:Rp T g0 M g ad s gk)(ok:okS w n m T s)(f:Few w n m)(kb:KB w m gk)(hu:okG w m u)(hn:u∉s.gs y):∃g' ad' gk',Zc [.ref (ad (.G y)),gmD u] g=.ok .non g'/\Rp T g0 M g' ad' (addG s y u) gk'/\KB w m gk'/\(∀k0,alo gk k0->ad' k0=ad k0)/\(∀x y k,k∈gk x y->k∈gk' x y):=by
 have h1:=h.push (.lst []);obtain⟨g2,ad',gk',e1,h2,hk,old,gkc⟩:=Qfq (σ:=[vR (ad (.G y)),vM u]) h1 (o:=QH [14] "by_seen" (mVar 0)) (e:=QI (mVar 1) Qw (Zh (mOp1 pNeg (mI 1)))) (x:=false) (y:=y) (k:=u.dropLast) (Ue (kb.len h.nd f _ _) (by decide)) (Qke h1 (i:=0) rfl) (by simp only[Zq,Q4,ZZ];exact Qag u _);have ha:alo gk' (.L false y u.dropLast):=hk;have hget:=h2.at' (.L false y u.dropLast) ha;have h3:=h2.set (s':=addG s y u) ha (λk' hk' hne=>by
  cases k' with
  |L x' y' k'=>exact TV GO.lst (Qfv λz=>hne (by rw[z.1,z.2.1,z.2.2]))|_=>rfl) (λy' v hv=>by
   have hv:v∈(if y'=y then s.gs y'++[u] else s.gs y'):=hv;split at hv
   ·next e=>
    rcases Uq.mp hv with z|z
    ·exact h2.kg y' v z
    ·rw[Uf.mp z,e];exact hk
   ·exact h2.kg y' v hv) h2.ka
 have ap:=JC (σ:=[vR (ad (.G y)),vM u]) (e:=mVar 1) (y:=gmD u) e1 hget rfl (Ue (ok.contl f false y u.dropLast) (by decide));rw[<-Qkg (T:=T) (s:=s)]at ap;refine⟨_,ad',gk',Qbc (σ:=[vR (ad (.G y)),vM u]) rfl ?_,h3,?_,old,?_⟩
 ·show ZT [vR (ad (.G y)),vM u] g=_;unfold ZT;refine ift (g++[.lst []]) ?_ (Zs (d:=.non) ap);have e2:ZW 14 (Str.ofString "has") QO (mVar 0) (Qa (mVar 1) mNil) [vR (ad (.G y)),vM u] g=.ok (.bl false) (g++[.lst []]):=by rw[QT (n:=ad (.G y)) (g1:=g) (xs:=[gmD u]) (g2:=g) rfl (h.atG y) (Qfs _) rfl,Qmv h y u,Uu hn]
  show Q9 _ [vR (ad (.G y)),vM u] g=_;unfold Q9;rw[Qz e2];rfl
 ·rcases gkc with rfl|rfl
  ·exact kb
  ·exact kb.new hu.init
 ·rcases gkc with rfl|rfl
  ·exact λ_ _ _ z=>z
  ·exact λ_ _ _ z=>mem_gkN.mpr (.inl z)
theorem Qib(M S C P A:Nat):(wF M S C P A).lookup (Str.ofString "machine")=vR M:=lk1
theorem Qhr(M S C P A:Nat):(wF M S C P A).lookup (Str.ofString "sides")=vR S:=by unfold wF;rw[lk2 (by decide +kernel)];exact lk1
theorem Qc4(M S C P A:Nat):(wF M S C P A).lookup (Str.ofString "contexts")=vR C:=by unfold wF;rw[lk2 (by decide +kernel),lk2 (by decide +kernel)];exact lk1
theorem Qic(M S C P A:Nat):(wF M S C P A).lookup (Str.ofString "pending")=vR P:=by unfold wF;rw[lk2 (by decide +kernel),lk2 (by decide +kernel),lk2 (by decide +kernel)];exact lk1
theorem Qki(M S C P A:Nat):(wF M S C P A).lookup (Str.ofString "asking")=vR A:=by unfold wF;rw[lk2 (by decide +kernel),lk2 (by decide +kernel),lk2 (by decide +kernel),lk2 (by decide +kernel)];exact lk1
theorem no_W(M S C P A:Nat)(h1:(x==Str.ofString "machine")=false)(h2:(x==Str.ofString "sides")=false)(h3:(x==Str.ofString "contexts")=false)(h4:(x==Str.ofString "pending")=false)(h5:(x==Str.ofString "asking")=false):(wF M S C P A).lookup x=none:=by unfold wF;rw[lk2 h1,lk2 h2,lk2 h3,lk2 h4,lk2 h5];rfl
theorem Qmw(M S C P A:Nat):(wF M S C P A).lookup (Str.ofString "ask_for")=none:=no_W _ _ _ _ _ (by decide +kernel) (by decide +kernel) (by decide +kernel) (by decide +kernel) (by decide +kernel)
theorem QnJ(M S C P A:Nat):(wF M S C P A).lookup (Str.ofString "put_gram")=none:=no_W _ _ _ _ _ (by decide +kernel) (by decide +kernel) (by decide +kernel) (by decide +kernel) (by decide +kernel)
theorem QnK(M S C P A:Nat):(wF M S C P A).lookup (Str.ofString "went_on")=none:=no_W _ _ _ _ _ (by decide +kernel) (by decide +kernel) (by decide +kernel) (by decide +kernel) (by decide +kernel)
theorem QlG(M S C P A:Nat):(wF M S C P A).lookup (Str.ofString "paper")=none:=no_W _ _ _ _ _ (by decide +kernel) (by decide +kernel) (by decide +kernel) (by decide +kernel) (by decide +kernel)
theorem Rp.atW(h:Rp T g0 M g ad s gk):g[ad .W]?=some (.ins 15 (wF M (ad .S) (ad .C) (ad .P) (ad .A))):=h.at' .W trivial
theorem Rp.atC(h:Rp T g0 M g ad s gk):g[ad .C]?=some (.dcn true (s.cs.map λc=>(.inr c,.bl true))):=h.at' .C trivial
theorem Rp.atP(h:Rp T g0 M g ad s gk):g[ad .P]?=some (.lst (s.pd.map ctD)):=h.at' .P trivial
theorem a_contexts(h:Rp T g0 M g ad s gk)(hv:σ[i]?=some (vR (ad .W))):QH [15] "contexts" (mVar i) σ g=.ok (.ref (ad .C)) g:=Z0 (ZG hv) h.atW (by decide) (Qc4 ..)
theorem a_pending(h:Rp T g0 M g ad s gk)(hv:σ[i]?=some (vR (ad .W))):QH [15] "pending" (mVar i) σ g=.ok (.ref (ad .P)) g:=Z0 (ZG hv) h.atW (by decide) (Qic ..)
theorem a_machine(h:Rp T g0 M g ad s gk)(hv:σ[i]?=some (vR (ad .W))):QH [15] "machine" (mVar i) σ g=.ok (.ref M) g:=Z0 (ZG hv) h.atW (by decide) (Qib ..)
theorem a_sides(h:Rp T g0 M g ad s gk)(hv:σ[i]?=some (vR (ad .W))):QH [15] "sides" (mVar i) σ g=.ok (.ref (ad .S)) g:=Z0 (ZG hv) h.atW (by decide) (Qhr ..)
theorem a_asking(h:Rp T g0 M g ad s gk)(hv:σ[i]?=some (vR (ad .W))):QH [15] "asking" (mVar i) σ g=.ok (.ref (ad .A)) g:=Z0 (ZG hv) h.atW (by decide) (Qki ..)
theorem QaS:∀{cs:List Ct},nGet (cs.map λc=>(Sum.inr c,D.bl true)) (.inr c)=if c∈cs then some (.bl true) else none
 |[]=>rfl|d::cs=>by
  have ih:=QaS (c:=c) (cs:=cs);unfold nGet at ih ⊢;rw[UC,Tl];by_cases e:d=c
  ·subst e;rw[UB rfl];simp
  ·rw[Uu (λz=>e (Sum.inr.inj z))];dsimp only;rw[ih];simp[Ne.symm e]
theorem QdI(h:Rp T g0 M g ad s gk)(ok:okS w n m T s)(f:Few w n m)(c:Ct):∃g',QP [.ref (ad .W),ctD c] g=.ok .non g'/\Rp T g0 M g' ad (ask s c) gk/\(∀a,a≠ad .C->a≠ad .P->g'[a]?=g[a]?):=by
 have e0:Ql (mOp2 ZX (mVar 1) (QH [15] "contexts" (mVar 0))) [vR (ad .W),some (ctD c)] g=.ok (!(if c∈s.cs then some (D.bl true) else none).isSome) g:=by refine Qz (Qk (x:=ctD c) (y:=.ref (ad .C)) (g1:=g) (g2:=g) rfl (a_contexts h rfl) ?_);unfold ZX nAt;dsimp only;rw[h.atC];dsimp only;rw[sk_c];dsimp only;rw[QaS]
 by_cases hc:c∈s.cs
 ·rw[Uj hc]at e0;refine⟨g,Qbc rfl (iff' g e0 rfl),?_,λ_ _ _=>rfl⟩;unfold ask;rw[Uj hc];exact h
 ·rw[Uo hc]at e0;have hne:ad .C≠ad .P:=λz=>by have:=h.inj .C .P trivial trivial z;cases this
  have s1:({s with cs:=s.cs++[c]}:PSt).cs=s.cs++[c]:=rfl;have h1:=h.set (k:=.C) trivial (s':={s with cs:=s.cs++[c]}) (λk' _ hk=>by cases k' with|C=>exact absurd rfl hk|L x y k=>cases x<;>rfl|_=>rfl) h.kg h.ka;have h2:=h1.set (k:=.P) trivial (s':={s with cs:=s.cs++[c],pd:=s.pd++[c]}) (λk' _ hk=>by cases k' with|P=>exact absurd rfl hk|L x y k=>cases x<;>rfl|_=>rfl) h.kg h.ka;refine⟨_,Qbc (σ:=[vR (ad .W),some (ctD c)]) rfl ?_,by unfold ask;rw[Uo hc];exact h2,λa a1 a2=>by rw[Uc (Ne.symm a2),Uc (Ne.symm a1)]⟩;show ZY [vR (ad .W),some (ctD c)] g=_;unfold ZY;refine ift g e0 (Qf [vR (ad .W),some (ctD c)] (g.set (ad .C) (ctn T M ad {s with cs:=s.cs++[c]} gk .C)) ?_ (Zs (d:=.non) ?_))
  ·show Qb1 _ _ _ [vR (ad .W),some (ctD c)] g=_;unfold Qb1;rw[show mLit (.bl true) [vR (ad .W),some (ctD c)] g=.ok (.bl true) g from rfl];dsimp only;rw[a_contexts h rfl];dsimp only;rw[show mVar 1 [vR (ad .W),some (ctD c)] g=.ok (ctD c) g from rfl];dsimp only;rw[h.atC];dsimp only;rw[sk_c];dsimp only;rw[Uj (by rw[Ub];exact Qdr (Ue (ok.cl f) (by decide)))];have:nPut (s.cs.map λc=>(Sum.inr c,D.bl true)) (.inr c) (.bl true)=(s.cs++[c]).map λc=>(Sum.inr c,D.bl true):=by unfold nPut;rw[QaS,Uo hc,Uz];rfl
   rw[this];rfl
  ·refine(JC (o:=QH [15] "pending" (mVar 0)) (e:=mVar 1) (n:=ad .P) (y:=ctD c) (a_pending h1 rfl) h1.atP rfl ?_).trans ?_
   ·rw[Ub];have:=ok.l;have:=ok.cl f;show s.pd.length<=1000;omega
   ·rw[show ctn T M ad {s with cs:=s.cs++[c],pd:=s.pd++[c]} gk .P=.lst (s.pd.map ctD++[ctD c]) by show GO.lst _=_;rw[Uz];rfl]
end L3
namespace L3
open PySem
def TR(rows:List (List D)):TT3:=λp q=>entO (eAt rows p q)
theorem Qc5(h:g[t]?=some (.dct (twoD a b))):Ym (.ref t) (.str (wS y)) g=.ok (.ref (if y=true then b else a)) g:=by unfold Ym;dsimp only;rw[h];dsimp only;cases y<;>rfl
theorem Qkj(h:Rp T g0 M g ad s gk)(hv:σ[i]?=some (vR (ad .W)))(hj:σ[j]?=some (some (.str (wS y)))):mOp2 Ym (QH [15] "sides" (mVar i)) (mVar j) σ g=.ok (.ref (ad (.G y))) g:=by rw[Qk (a_sides h hv) (ZG hj) (Qc5 (h.at' .S trivial))];cases y<;>rfl
theorem Qhs(h:Rp T g0 M g ad s gk)(hv:σ[i]?=some (vR (ad .W)))(hj:σ[j]?=some (some (.str (wS y)))):mOp2 Ym (QH [15] "asking" (mVar i)) (mVar j) σ g=.ok (.ref (ad (.B true y))) g:=by rw[Qk (a_asking h hv) (ZG hj) (Qc5 (h.at' .A trivial))];cases y<;>rfl
theorem Qmx(h:Rp T g0 M g ad s gk)(ha:(a=ad (.L x y k)/\k∈gk x y)\/a=g.length):a≠ad .C/\a≠ad .P:=by
 rcases ha with⟨rfl,hk⟩|rfl
 ·exact⟨λz=>(by have:=h.inj (.L x y k) .C hk trivial z;cases this),λz=>(by have:=h.inj (.L x y k) .P hk trivial z;cases this)⟩
 ·have h1:=h.lt (k:=.C) trivial;have h2:=h.lt (k:=.P) trivial;omega
theorem Qeu(ht:Tb rows n m)(h:okC w n m c)(hT:TR rows c.2.1 c.2.2.1≠none):∃i b j,TR rows c.2.1 c.2.2.1=some (i,b,j)/\eAt rows c.2.1 c.2.2.1=enD i b j/\0<=i/\i<m/\0<=j/\j<n:=by
 obtain⟨r,h1,h2,h3⟩:=ht.at' h.2.1.1 h.2.1.2 h.2.2.1.1 h.2.2.1.2;rcases h3.cases with⟨_,e⟩|⟨i,b,j,e1,e2,e3⟩
 ·exact absurd e hT
 ·exact⟨i,b,j,e2,e1,e3⟩
theorem Qht(h:Rp (TR rows) g0 M g ad s gk)(ok:okS w n m (TR rows) s)(f:Few w n m)(ho:o σ g=.ok (.ref (ad .W)) g)(ha:a σ g=.ok [ctD c] g):∃g',Yu (ZW 15 (Str.ofString "ask_for") QP o a) σ g=.nx σ g'/\Rp (TR rows) g0 M g' ad (ask s c) gk/\(∀a,a≠ad .C->a≠ad .P->g'[a]?=g[a]?):=by obtain⟨g',e1,h1,k1⟩:=QdI h ok f c;exact⟨g',Zs ((QT ho h.atW (Qmw ..) ha).trans e1),h1,k1⟩
theorem Qbg(s:PSt)(cs:List Ct)(c:Ct):askL s (cs++[c])=ask (askL s cs) c:=by unfold askL;rw[List.foldl_append];rfl
theorem YD{α:Type}{l:List α}{i:Nat}{x:α}(h:l[i]?=some x):l.take (i+1)=l.take i++[x]:=by obtain⟨hi,e⟩:=Ul.mp h;rw[UW hi,e]
theorem Qgk(hM:g0[M]?=some (Y4 rows))(ht:Tb rows n m)(h:Rp (TR rows) g0 M g ad s gk)(ok:okS w n m (TR rows) s)(f:Few w n m)(kb:KB w m gk)(y:Bool){u:List Int}(hu:okG w m u):∃g' ad' gk',ZO [.ref (ad .W),.str (wS y),gmD u] g=.ok .non g'/\Rp (TR rows) g0 M g' ad' (Jo (TR rows) s y u) gk'/\okS w n m (TR rows) (Jo (TR rows) s y u)/\KB w m gk'/\(∀k0,alo gk k0->ad' k0=ad k0):=by
 have h1:=h.push (.lst []);have e1:Ql (ZW 14 (Str.ofString "has") QO (mOp2 Ym (QH [15] "sides" (mVar 0)) (mVar 1)) (Qa (mVar 2) mNil)) [vR (ad .W),some (.str (wS y)),vM u,none] g=.ok (decide (u∈s.gs y)) (g++[.lst []]):=Qz ((QT (xs:=[gmD u]) (g2:=g) (Qkj h rfl rfl) (h.atG y) (Qfs _) rfl).trans (Qmv h y u))
 by_cases hn:u∈s.gs y
 ·rw[UB hn]at e1;refine⟨_,ad,gk,Qu rfl (Zl (ift _ e1 rfl)),?_,?_,kb,λ_ _=>rfl⟩
  ·unfold Jo;rw[Uj hn];exact h1
  ·unfold Jo;rw[Uj hn];exact ok
 ·rw[Uu hn]at e1;obtain⟨g2,ad',gk',e2,h2,kb',old,gks⟩:=Qkh h1 ok f kb hu hn;have ok2:=ok.addG hu hn;have oW:ad' .W=ad .W:=old .W trivial;have oG:ad' (.G y)=ad (.G y):=old (.G y) trivial;obtain⟨a,e3,e4,e5⟩:=Qmt (σ:=[vR (ad .W),some (.str (wS y)),vM u,none]) h2 (o:=mOp2 Ym (QH [15] "asking" (mVar 0)) (mVar 1)) (e:=QI (mVar 2) Qw (Zh (mOp1 pNeg (mI 1)))) (x:=true) (y:=y) (k:=u.dropLast) (Qhs h2 (by rw[oW];rfl) rfl) (by simp only[Zq,Q4,ZZ];exact Qag u _);have h3:=h2.push (.lst []);have hne:=Qmx h2 e5;have hL:∀c∈s.dn.filter (JO (TR rows) y u.dropLast),okC w n m c/\∃i j,TR rows c.2.1 c.2.2.1=some (i,y,j)/\eAt rows c.2.1 c.2.2.1=enD i y j/\0<=i/\i<m/\0<=j/\j<n:=λc hc=>by obtain⟨c1,c2⟩:=Tt.mp hc;have okc:=ok.c c (ok.d c c1).1;obtain⟨i,b,j,q1,q2,q3⟩:=Qeu ht okc (ok.d c c1).2;unfold JO at c2;rw[q1]at c2;have:=(UO c2).1;subst this;exact⟨okc,i,j,q1,q2,q3⟩
  obtain⟨σ',g',e6,x3,q1,q2,q3,q4⟩:=Qgj (t:=gSet 3) (body:=Yb) e3 e4 (λi σ' g'=>∃x3,σ'=[vR (ad .W),some (.str (wS y)),vM u,x3]/\Rp (TR rows) g0 M g' ad' (askL (addG s y u) (((s.dn.filter (JO (TR rows) y u.dropLast)).take i).map λc=>nxT (TR rows) c u)) gk'/\okS w n m (TR rows) (askL (addG s y u) (((s.dn.filter (JO (TR rows) y u.dropLast)).take i).map λc=>nxT (TR rows) c u))/\g'[a]?=some (.lst (Qah (TR rows) (addG s y u) true y u.dropLast)))
   ⟨none,rfl,h3,ok2,e4⟩ (λi σ' g' hh=>hh.elim λ_ q=>q.2.2.2) (λi d σ' g' hd hh=>by
    obtain⟨x3,q1,q2,q3,q4⟩:=hh;subst q1;have hd:((s.dn.filter (JO (TR rows) y u.dropLast)).map ctD)[i]?=some d:=hd;rw[UK]at hd;obtain⟨c,hc,rfl⟩:=U8.mp hd;obtain⟨okc,ii,jj,t1,t2,t3,t4,t5,t6⟩:=hL c (UR hc);have nx:nxT (TR rows) c u=nxC ii y jj c u:=by unfold nxT;rw[t1]
    have hM':g'[M]?=some (Y4 rows):=q2.old.at' M _ (by simp) hM;obtain⟨g3,a1,a2,a3⟩:=Qht (σ:=[vR (ad .W),some (.str (wS y)),vM u,some (ctD c)]) q2 q3 f (c:=nxC ii y jj c u) (o:=mVar 0) (a:=Qa (Qn QW (Qa (Qn Yo (Qa (QH [15] "machine" (mVar 0)) (Qa (mVar 3) mNil))) (Qa (mVar 3) (Qa (mVar 2) mNil)))) mNil) (by rw[oW];rfl)
     (Qd ((Qp (ds:=[enD ii y jj,ctD c,gmD u]) (g':=g') (Qd (g1:=g') ((Qp (ds:=[.ref M,ctD c]) (g':=g') (Qd (g1:=g') (a_machine q2 (by rw[oW];rfl)) rfl)).trans (by rw[JN hM' ht okc,t2])) rfl)).trans (Qer ii y jj c u g' f.w1 (Ue f.w3 (by decide)) okc)) rfl)
    rw[<-nx,<-Qbg]at a2;have e7:((s.dn.filter (JO (TR rows) y u.dropLast)).take i).map (λc=>nxT (TR rows) c u)++[nxT (TR rows) c u]=((s.dn.filter (JO (TR rows) y u.dropLast)).take (i+1)).map λc=>nxT (TR rows) c u:=by rw[YD hc,Uz];rfl
    rw[e7]at a2;have ok3:=q3.ask (okc.nx (b:=y) f.w1 hu t3 t4 t5 t6);rw[<-nx,<-Qbg,e7]at ok3;exact⟨_,_,g3,rfl,a1,some (ctD c),rfl,a2,ok3,by rw[a3 a hne.1 hne.2];exact q4⟩)
  have fin:(s.dn.filter (JO (TR rows) y u.dropLast)).take (Qah (TR rows) (addG s y u) true y u.dropLast).length=s.dn.filter (JO (TR rows) y u.dropLast):=Rj (by show _<=(List.map ctD _).length;rw[Ub];exact Um _);rw[fin]at q2 q3;have pe:Jo (TR rows) s y u=askL (addG s y u) ((s.dn.filter (JO (TR rows) y u.dropLast)).map λc=>nxT (TR rows) c u):=Uo hn;refine⟨g',ad',gk',Qbc (σ:=σ') rfl ?_,by rw[pe];exact q2,by rw[pe];exact q3,kb',old⟩;show ZN [vR (ad .W),some (.str (wS y)),vM u,none] g=_;unfold ZN;refine Qf [vR (ad .W),some (.str (wS y)),vM u,none] (g++[.lst []]) (iff' _ e1 rfl) ?_;refine Qf [vR (ad .W),some (.str (wS y)),vM u,none] g2 (Zs (d:=.non) ((QT (xs:=[gmD u]) (g2:=g++[.lst []]) (Qkj h1 rfl rfl) (h1.atG y) (Qkf _) rfl).trans e2)) e6
end L3
namespace L3
open PySem
theorem okS.pop(h:okS w n m T s):okS w n m T (popW s):=⟨h.g,h.gn,h.c,h.cn,λc hc=>h.p c (Wk _ hc),h.d,by have:=h.l;show s.dn.length+s.pd.dropLast.length<=s.cs.length;rw[TJ];omega⟩
theorem okS.done{T:TT3}(h:okS w n m T s){c:Ct}(hc:c∈s.cs)(hT:T c.2.1 c.2.2.1≠none)(hl:s.dn.length+s.pd.length+1<=s.cs.length):okS w n m T (Qft s c):=⟨h.g,h.gn,h.c,h.cn,h.p,λx hx=>by
 rcases Uq.mp hx with z|z
 ·exact h.d x z
 ·rw[Uf.mp z];exact⟨hc,hT⟩,by
 show(s.dn++[c]).length+s.pd.length<=s.cs.length;rw[Uh,Tc];omega⟩
theorem QnL(s:PSt)(c:Ct):(ask s c).dn=s.dn/\(ask s c).gs=s.gs/\(ask s c).cs.length+s.pd.length=s.cs.length+(ask s c).pd.length/\(∀x∈s.cs,x∈(ask s c).cs):=by
 unfold ask;split
 ·exact⟨rfl,rfl,rfl,λ_ z=>z⟩
 ·refine⟨rfl,rfl,?_,λx z=>Uq.mpr (.inl z)⟩;show(s.cs++[c]).length+_=_+(s.pd++[c]).length;rw[Uh,Uh];simp only[Tc];omega
theorem Qcz:∀(cs:List Ct)(s:PSt),(askL s cs).dn=s.dn/\(askL s cs).gs=s.gs/\(askL s cs).cs.length+s.pd.length=s.cs.length+(askL s cs).pd.length/\(∀x∈s.cs,x∈(askL s cs).cs)
 |[],_=>⟨rfl,rfl,rfl,λ_ z=>z⟩|c::cs,s=>by obtain⟨a1,a2,a3,a4⟩:=QnL s c;obtain⟨b1,b2,b3,b4⟩:=Qcz cs (ask s c);show(askL (ask s c) cs).dn=_/\_;refine⟨b1.trans a1,b2.trans a2,?_,λx z=>b4 x (a4 x z)⟩;show(askL (ask s c) cs).cs.length+_=_+(askL (ask s c) cs).pd.length;omega
theorem Qev(T:TT3)(s:PSt)(y:Bool)(u:List Int):(Jo T s y u).dn=s.dn/\(Jo T s y u).cs.length+s.pd.length=s.cs.length+(Jo T s y u).pd.length/\(∀x∈s.cs,x∈(Jo T s y u).cs):=by
 unfold Jo;split
 ·exact⟨rfl,rfl,λ_ z=>z⟩
 ·obtain⟨a1,_,a3,a4⟩:=Qcz ((s.dn.filter (JO T y u.dropLast)).map λc=>nxT T c u) (addG s y u);exact⟨a1,a3,a4⟩
theorem Qfw(h:¬(x'=true/\JO T y' k' c=true)):Qah T (Qft s c) x' y' k'=Qah T s x' y' k':=by
 cases x' with
 |false=>rfl|true =>show List.map _ (List.filter _ (s.dn++[c]))=List.map _ (List.filter _ s.dn);rw[T1,WU λz=>h ⟨rfl,z⟩];simp
theorem Qmy(h:Rp T g0 M g ad s gk)(hp:s.pd=r++[c])(hv:σ[i]?=some (vR (ad .W))):mOp1 pPop (QH [15] "pending" (mVar i)) σ g=.ok (ctD c) (g.set (ad .P) (ctn T M ad (popW s) gk .P)):=by refine QY (a_pending h hv) ?_;unfold pPop;dsimp only;rw[h.atP];dsimp only;rw[hp];simp only[Uz,UC,List.map_nil,Uh,Ub,Tc,Nat.add_sub_cancel];rw[UN (by rw[Ub];exact Um _),Ub,Nat.sub_self];show Res.ok (ctD c) (g.set (ad .P) (GO.lst (r.map ctD++[ctD c]).dropLast))=_;congr 2;show GO.lst _=GO.lst (List.map ctD s.pd.dropLast);rw[hp];simp
theorem Rp.pop(h:Rp T g0 M g ad s gk):Rp T g0 M (g.set (ad .P) (ctn T M ad (popW s) gk .P)) ad (popW s) gk:=h.set (k:=.P) trivial (s':=popW s) (λk' _ hk=>by cases k' with|P=>exact absurd rfl hk|L x y k=>cases x<;>rfl|_=>rfl) h.kg h.ka
theorem Qkk(hM:g0[M]?=some (Y4 rows))(ht:Tb rows n m)(h:Rp (TR rows) g0 M g ad s gk)(ok:okS w n m (TR rows) s)(hp:s.pd=r++[c])(hT:TR rows c.2.1 c.2.2.1=none):∃g',QQ [.ref (ad .W)] g=.ok (.bl false) g'/\Keeps [] g0 g':=by
 have hc:c∈s.cs:=ok.p c (by rw[hp];simp);have okc:=ok.c c hc;have h1:=h.pop;obtain⟨_,_,_,h3⟩:=ht.at' okc.2.1.1 okc.2.1.2 okc.2.2.1.1 okc.2.2.1.2;have en:eAt rows c.2.1 c.2.2.1=.non:=by
  rcases h3.cases with⟨e,_⟩|⟨i,b,j,_,e2,_⟩
  ·exact e
  ·exact absurd (hT.symm.trans e2) (λz=>by cases z)
 refine⟨_,Qu rfl ?_,h1.old⟩;show Q3 [vR (ad .W),none,none,none,none,none] g=_;unfold Q3;refine Qf [vR (ad .W),some (ctD c),none,none,none,none] _ (Qq (Qmy h hp rfl)) ?_;refine Qf [vR (ad .W),some (ctD c),some .non,none,none,none] _ (Qq ((Qp (ds:=[.ref M,ctD c]) (Qd (a_machine h1 rfl) rfl)).trans (by rw[JN (h1.old.at' M _ (by simp) hM) ht okc,en]))) ?_;exact Zl (ift _ (Qz (Qk (x:=.non) (y:=.non) rfl rfl rfl)) rfl)
theorem Qgl(hT:T c.2.1 c.2.2.1=some (i,b,j)):JO T y k c=decide (b=y/\(ahd b c).tail=k):=by unfold JO;rw[hT]
theorem Qkl(hM:g0[M]?=some (Y4 rows))(ht:Tb rows n m)(h:Rp (TR rows) g0 M g ad s gk)(ok:okS w n m (TR rows) s)(f:Few w n m)(kb:KB w m gk){c:Ct}{r:List Ct}(hp:s.pd=r++[c]){i j:Int}{b:Bool}(hT:TR rows c.2.1 c.2.2.1=some (i,b,j)):
  ∃g' ad' gk',QQ [.ref (ad .W)] g=.ok (.bl true) g'/\Rp (TR rows) g0 M g' ad' (Qfu (TR rows) s c i b j) gk'/\okS w n m (TR rows) (Qfu (TR rows) s c i b j)/\KB w m gk'/\ad' .W=ad .W:=by
 have hc:c∈s.cs:=ok.p c (by rw[hp];simp);have okc:=ok.c c hc;have h1:=h.pop;have ok1:=ok.pop;have hTn:TR rows c.2.1 c.2.2.1≠none:=by rw[hT];exact λz=>by cases z
 obtain⟨i',b',j',t1,t2,t3,t4,t5,t6⟩:=Qeu ht okc hTn;rw[hT]at t1;cases t1;have hM1:(g.set (ad .P) (ctn (TR rows) M ad (popW s) gk .P))[M]?=some (Y4 rows):=h1.old.at' M _ (by simp) hM;have oA:=okc.a b
 -- the gram behind
 obtain⟨g2,ad2,gk2,e2,h2,ok2,kb2,old2⟩:=Qgk hM ht h1 ok1 f kb (!b) (okc.b b);have oW2:ad2 .W=ad .W:=old2 .W trivial;obtain⟨l1,l2,l3⟩:=Qev (TR rows) (popW s) (!b) (bhd b c)
 -- asking
 obtain⟨g3,ad3,gk3,e3,h3,hk3,old3,gkc⟩:=Qfq (σ:=[vR (ad .W),some (ctD c),some (enD i b j),some (.str (wS b)),some (gmD (ahd b c).tail),none]) h2 (o:=mOp2 Ym (QH [15] "asking" (mVar 0)) (mVar 3)) (e:=mVar 4) (x:=true) (y:=b) (k:=(ahd b c).tail) (Ue (kb2.len h2.nd f _ _) (by decide)) (Qhs h2 (by rw[oW2];rfl) rfl) rfl;have oW3:ad3 .W=ad .W:=(old3 .W trivial).trans oW2;have kb3:KB w m gk3:=by
  rcases gkc with rfl|rfl
  ·exact kb2
  ·exact kb2.new oA.tail
 have ha3:alo gk3 (.L true b (ahd b c).tail):=hk3;have as1:JO (TR rows) b (ahd b c).tail c=true:=by rw[Qgl hT];simp
 have h4:=h3.set ha3 (s':=Qft (Jo (TR rows) (popW s) (!b) (bhd b c)) c) (λk' hk' hne=>by
  cases k' with
  |L x' y' k' =>refine TV GO.lst (Qfw λz=>hne ?_);obtain⟨z1,z2⟩:=z;rw[Qgl hT]at z2;obtain⟨z3,z4⟩:=UO z2;rw[z1,<-z3,<-z4]|_=>rfl) h3.kg (λy' x k' hx hy=>by
   rcases Uq.mp (show x∈_++[c] from hx) with z|z
   ·exact h3.ka y' x k' z hy
   ·rw[Uf.mp z,Qgl hT]at hy;obtain⟨z3,z4⟩:=UO hy;rw[<-z3,<-z4];exact hk3)
 have ap:=JC (σ:=[vR (ad .W),some (ctD c),some (enD i b j),some (.str (wS b)),some (gmD (ahd b c).tail),none]) (e:=mVar 1) (y:=ctD c) e3 (h3.at' _ ha3) rfl (Ue (ok2.contl f true b _) (by decide));have ce:GO.lst (Qah (TR rows) (Jo (TR rows) (popW s) (!b) (bhd b c)) true b (ahd b c).tail++[ctD c])=ctn (TR rows) M ad3 (Qft (Jo (TR rows) (popW s) (!b) (bhd b c)) c) gk3 (.L true b (ahd b c).tail):=by show _=GO.lst (List.map ctD (List.filter _ (_++[c])));rw[T1,RJ as1,Uz];rfl
 rw[ce]at ap;have ok4:okS w n m (TR rows) (Qft (Jo (TR rows) (popW s) (!b) (bhd b c)) c):=ok2.done (l3 c hc) hTn (by
  rw[l1];have q1:=ok.l;have q2:s.pd.length=s.pd.dropLast.length+1:=by rw[hp];simp
  have q3:(Jo (TR rows) (popW s) (!b) (bhd b c)).cs.length+s.pd.dropLast.length=s.cs.length+(Jo (TR rows) (popW s) (!b) (bhd b c)).pd.length:=l2;show s.dn.length+_+1<=_;omega)
 generalize hs3:Qft (Jo (TR rows) (popW s) (!b) (bhd b c)) c=s3 at h4 ok4 ap;generalize hg4:g3.set (ad3 (.L true b (ahd b c).tail)) (ctn (TR rows) M ad3 s3 gk3 (.L true b (ahd b c).tail))=g4 at h4 ap
 -- the grams ahead
 obtain⟨a,e5,e6,e7⟩:=Qb9 h4 b (ahd b c).tail;have h5:=h4.push (.lst []);have hne:=Qmx h4 e7;have e8:ZW 14 (Str.ofString "beginning") QF (mOp2 Ym (QH [15] "sides" (mVar 0)) (mVar 3)) (Qa (mVar 4) mNil) [vR (ad .W),some (ctD c),some (enD i b j),some (.str (wS b)),some (gmD (ahd b c).tail),none] g4=.ok (.ref a) (g4++[.lst []]):=(QT (xs:=[gmD (ahd b c).tail]) (g2:=g4) (Qkj h4 (by rw[oW3];rfl) rfl) (h4.atG b) (Qfr _) rfl).trans e5;obtain⟨σ',g',e9,x5,q1,q2,q3,q4⟩:=Qgj (t:=gSet 5) (body:=Yi) e8 e6 (λk σ' g'=>∃x5,σ'=[vR (ad .W),some (ctD c),some (enD i b j),some (.str (wS b)),some (gmD (ahd b c).tail),x5]/\Rp (TR rows) g0 M g' ad3 (askL s3 (((gF s3 b (ahd b c).tail).take k).map λu=>nxC i b j c u)) gk3/\okS w n m (TR rows) (askL s3 (((gF s3 b (ahd b c).tail).take k).map λu=>nxC i b j c u))/\g'[a]?=some (.lst (Qah (TR rows) s3 false b (ahd b c).tail)))
  ⟨none,rfl,h5,ok4,e6⟩ (λi σ' g' hh=>hh.elim λ_ q=>q.2.2.2) (λk d σ' g' hd hh=>by
   obtain⟨x5,q1,q2,q3,q4⟩:=hh;subst q1;have hd:((gF s3 b (ahd b c).tail).map gmD)[k]?=some d:=hd;rw[UK]at hd;obtain⟨u,hu,rfl⟩:=U8.mp hd;have oku:okG w m u:=ok4.g b u (Tt.mp (UR hu)).1;obtain⟨g6,a1,a2,a3⟩:=Qht (σ:=[vR (ad .W),some (ctD c),some (enD i b j),some (.str (wS b)),some (gmD (ahd b c).tail),vM u]) q2 q3 f (c:=nxC i b j c u) (o:=mVar 0) (a:=Qa (Qn QW (Qa (mVar 2) (Qa (mVar 1) (Qa (mVar 5) mNil)))) mNil) (by rw[oW3];rfl)
    (Qd ((Qp (ds:=[enD i b j,ctD c,gmD u]) (g':=g') rfl).trans (Qer i b j c u g' f.w1 (Ue f.w3 (by decide)) okc)) rfl)
   rw[<-Qbg]at a2;have e7:(((gF s3 b (ahd b c).tail).take k).map λu=>nxC i b j c u)++[nxC i b j c u]=(((gF s3 b (ahd b c).tail).take (k+1)).map λu=>nxC i b j c u):=by rw[YD hu,Uz];rfl
   rw[e7]at a2;have ok6:=q3.ask (okc.nx (b:=b) f.w1 oku t3 t4 t5 t6);rw[<-Qbg,e7]at ok6;exact⟨_,_,g6,rfl,a1,vM u,rfl,a2,ok6,by rw[a3 a hne.1 hne.2];exact q4⟩)
 have fin:(gF s3 b (ahd b c).tail).take (Qah (TR rows) s3 false b (ahd b c).tail).length=gF s3 b (ahd b c).tail:=Rj (by show _<=(List.map gmD _).length;rw[Ub];exact Um _);rw[fin]at q2 q3;have pe:Qfu (TR rows) s c i b j=askL s3 ((gF s3 b (ahd b c).tail).map λu=>nxC i b j c u):=by unfold Qfu;rw[hs3]
 refine⟨g',ad3,gk3,Qu rfl ?_,by rw[pe];exact q2,by rw[pe];exact q3,kb3,oW3⟩;show Q3 [vR (ad .W),none,none,none,none,none] g=_;unfold Q3;refine Qf [vR (ad .W),some (ctD c),none,none,none,none] _ (Qq (Qmy h hp rfl)) ?_;refine Qf [vR (ad .W),some (ctD c),some (enD i b j),none,none,none] _ (Qq ((Qp (ds:=[.ref M,ctD c]) (Qd (a_machine h1 rfl) rfl)).trans (by rw[JN hM1 ht okc,t2]))) ?_;refine Qf [vR (ad .W),some (ctD c),some (enD i b j),none,none,none] _ (iff' _ (Qz (Qk (x:=enD i b j) (y:=.non) rfl rfl rfl)) rfl) ?_;refine Qf [vR (ad .W),some (ctD c),some (enD i b j),some (.str (wS b)),none,none] _ (Qq (Qk (x:=enD i b j) (y:=.int 1) rfl rfl Qc0)) ?_;refine Qf [vR (ad .W),some (ctD c),some (enD i b j),some (.str (wS b)),none,none] g2 (Zs (d:=.non) ((QT (xs:=[.str (wS !b),gmD (bhd b c)]) rfl h1.atW (QnJ ..) (Qd ((Qp (ds:=[.str (wS b)]) rfl).trans (Qhq b _)) (Qd ((Qp (ds:=[enD i b j,ctD c]) rfl).trans (Qc2 i b j c _)) rfl))).trans e2)) ?_;refine Qf [vR (ad .W),some (ctD c),some (enD i b j),some (.str (wS b)),some (gmD (ahd b c).tail),none] g2 (Qq ?_) ?_
 ·simp only[Zq,Q4,ZZ];rw[(Qp (ds:=[enD i b j,ctD c]) (g':=g2) rfl).trans (Qep i b j c g2)];exact Qeq _ g2
 refine Qf [vR (ad .W),some (ctD c),some (enD i b j),some (.str (wS b)),some (gmD (ahd b c).tail),none] g4 (Zs (d:=.non) ap) ?_;refine Qf σ' g' e9 ?_;exact QX rfl
end L3
namespace L3
open PySem
theorem getx{g l:G}{i:Nat}{o:GO}(h:l[i]?=some o):(g++l)[g.length+i]?=some o:=by rw[UN (TB _ _),WV];exact h
theorem setx{g l:G}{i:Nat}{o:GO}:(g++l).set (g.length+i) o=g++l.set i o:=by rw[List.set_append_right _ _ (TB _ _),WV]
theorem get0  : (g++o::l)[g.length]?=some o:=by simp
theorem set0  : (g++o::l).set g.length u=g++u::l:=by simp
theorem Qbh:Yz [.ref g.length] (g++[.ins 14 []])=.ok .non (g++[.ins 14 (grF (g.length+1)),.dcn false []]):=by
 refine Qbc (σ:=[vR g.length]) rfl ?_;show Zt [14] "by_seen" (mVar 0) (JX false) [vR g.length] (g++[.ins 14 []])=_;unfold Zt JX;dsimp only;rw[show mVar 0 [some (D.ref g.length)] (g++[GO.ins 14 []]++[GO.dcn false []])=.ok (.ref g.length) (g++[GO.ins 14 []]++[GO.dcn false []]) from rfl];dsimp only;rw[UQ,show [GO.ins 14 []]++[GO.dcn false []]=[GO.ins 14 [],.dcn false []] from rfl,get0];dsimp only;rw[Uj ⟨by decide,by decide⟩,set0];have e:(g++[GO.ins 14 []]).length=g.length+1:=by simp
 rw[e];rfl
theorem Qgm{g:G}{t:Nat}{u:List Int}(ht:g[t]?=some (.lst [gmD u])):Q8 [.ref t] g=.ok (.ref g.length) (g++[.ins 14 (grF (g.length+1)),.dcn false [(.inl u.dropLast,.ref (g.length+3))],.lst [],.lst [gmD u]]):=by
 have e1:QaO 14 Yz mNil [vR t,none,none] g=.ok (.ref g.length) (g++[.ins 14 (grF (g.length+1)),.dcn false []]):=by unfold QaO;rw[show mNil [some (D.ref t),none,none] g=.ok [] g from rfl,Res.bind_ok,Qbh,Res.bind_ok]
 have hl:(g++[GO.ins 14 (grF (g.length+1)),.dcn false []]).length=g.length+2:=by simp
 have hl2:(g++[GO.ins 14 (grF (g.length+1)),.dcn false [],.lst []]).length=g.length+3:=by simp
 have beg:QF [.ref g.length,gmD u.dropLast] (g++[.ins 14 (grF (g.length+1)),.dcn false []])=.ok (.ref (g.length+2)) (g++[.ins 14 (grF (g.length+1)),.dcn false [],.lst []]):=by refine Qu rfl (QX ?_);refine(QaC (n:=g.length+1) (τ:=false) (ks:=[]) (y:=gmD u.dropLast) (z:=.ref (g.length+2)) (kk:=.inl u.dropLast) (g1:=g++[.ins 14 (grF (g.length+1)),.dcn false [],.lst []]) (Z0 (n:=g.length) rfl get0 (by decide) lk1) (getx rfl) rfl ?_ (getx rfl) (sk_g _)).trans rfl;rw[Qai];simp[grF]
 have has:QO [.ref g.length,gmD u] (g++[.ins 14 (grF (g.length+1)),.dcn false []])=.ok (.bl false) (g++[.ins 14 (grF (g.length+1)),.dcn false [],.lst []]):=by
  refine Qu rfl (QX (Qk (x:=gmD u) (y:=.ref (g.length+2)) rfl ((QT (n:=g.length) (xs:=[gmD u.dropLast]) rfl get0 (Qfr _) ?_).trans beg) ?_))
  ·simp only[QbG,Zq,Q4,ZZ,QcZ];exact TV (λr=>match r with|Res.ok x g1=>Res.ok [x] g1 | .raise e g'=>.raise e g' | .stuck=>.stuck) (Qag u _)
  ·unfold pInG;rw[sk_g];dsimp only;rw[show g.length+2=g.length+2 from rfl,getx (i:=2) rfl];rfl
 have put:Zc [.ref g.length,gmD u] (g++[.ins 14 (grF (g.length+1)),.dcn false []])=.ok .non (g++[.ins 14 (grF (g.length+1)),.dcn false [(.inl u.dropLast,.ref (g.length+3))],.lst [],.lst [gmD u]]):=by
  refine Qbc (σ:=[vR g.length,vM u]) rfl ?_;show ZT [vR g.length,vM u] _=_;unfold ZT;refine ift (g++[.ins 14 (grF (g.length+1)),.dcn false [],.lst []]) ?_ (Zs (d:=.non) ?_)
  ·unfold Q9;rw[Qz (b:=false) ((QT (n:=g.length) (xs:=[gmD u]) rfl get0 (Qfs _) rfl).trans has)];rfl
  ·have sd:Jg (QH [14] "by_seen" (mVar 0)) (QI (mVar 1) Qw (Zh (mOp1 pNeg (mI 1)))) (mOpA newL mNil) [vR g.length,vM u] (g++[.ins 14 (grF (g.length+1)),.dcn false [],.lst []])=.ok (.ref (g.length+3)) (g++[.ins 14 (grF (g.length+1)),.dcn false [(.inl u.dropLast,.ref (g.length+3))],.lst [],.lst []]):=by
    refine(QaC (n:=g.length+1) (τ:=false) (ks:=[]) (y:=gmD u.dropLast) (z:=.ref (g.length+3)) (kk:=.inl u.dropLast) (g1:=g++[.ins 14 (grF (g.length+1)),.dcn false [],.lst [],.lst []]) (Z0 (n:=g.length) rfl get0 (by decide) lk1) (getx rfl) ?_ ?_ (getx rfl) (sk_g _)).trans ?_
    ·simp only[Zq,Q4,ZZ];exact Qag u _
    ·rw[Qai];simp[grF]
    ·show Res.ok _ ((g++_).set (g.length+1) _)=_;rw[setx];rfl
   rw[JC (n:=g.length+3) (ds:=[]) (y:=gmD u) sd (getx rfl) rfl (by decide),setx];rfl
 refine Qu rfl ?_;show Jy [vR t,none,none] g=_;unfold Jy;refine Qf [vR t,vR g.length,none] _ (Qq e1) ?_;have ht':(g++[GO.ins 14 (grF (g.length+1)),.dcn false []])[t]?=some (.lst [gmD u]):=by rw[Ui (Qy ht)];exact ht
 obtain⟨σ',g',e2,q⟩:=Qgj (t:=gSet 2) (body:=JK) (e:=mVar 0) (σ:=[vR t,vR g.length,none]) (g:=g++[GO.ins 14 (grF (g.length+1)),.dcn false []]) rfl ht' (λi σ' g'=>(i=0/\σ'=[vR t,vR g.length,none]/\g'=g++[.ins 14 (grF (g.length+1)),.dcn false []])\/(i=1/\σ'=[vR t,vR g.length,vM u]/\g'=g++[.ins 14 (grF (g.length+1)),.dcn false [(.inl u.dropLast,.ref (g.length+3))],.lst [],.lst [gmD u]]))
  (.inl ⟨rfl,rfl,rfl⟩) (λi σ' g' hh=>by
   rcases hh with⟨_,_,rfl⟩|⟨_,_,rfl⟩
   ·exact ht'
   ·rw[Ui (Qy ht)];exact ht) (λi d σ' g' hd hh=>by
   rcases hh with⟨rfl,rfl,rfl⟩|⟨rfl,_,_⟩
   ·cases hd;exact⟨_,_,_,rfl,Zs ((QT (n:=g.length) (xs:=[gmD u]) rfl get0 (Qkf _) rfl).trans put),.inr ⟨rfl,rfl,rfl⟩⟩
   ·cases hd)
 rcases q with⟨q,_⟩|⟨_,rfl,rfl⟩
 ·cases q
 ·exact Qf _ _ e2 (QX rfl)
end L3
namespace L3
open PySem
theorem Qid:mLit (.str "l") σ g=.ok (.str (wS false)) g:=by rw[s_l];rfl
theorem Qfx:mLit (.str "r") σ g=.ok (.str (wS true)) g:=by rw[s_r];rfl
theorem Qkm(a b:Nat):putS [] [(wS false,D.ref a),(wS true,.ref b)]=twoD a b:=rfl
theorem Qhu(a b:Nat)(l:G):Qh0 g.length [D.str (wS false),.ref a,.str (wS true),.ref b] (g++GO.dct []::l)=.ok (.ref g.length) (g++GO.dct (twoD a b)::l):=by unfold Qh0;have e:QcR [D.str (wS false),.ref a,.str (wS true),.ref b]=some [(wS false,.ref a),(wS true,.ref b)]:=rfl;rw[e,get0];show(if [(wS false,D.ref a),(wS true,.ref b)].length<=15 then _ else _)=_;rw[Uj (by show 2<=15;decide),Qkm,set0]
theorem QlH(h3:σ[3]?=some (vM b)):QaK (Qa (mLit (.str "l")) (Qa (Qn Q8 (Qa (mOpA newL (Qa (mVar 3) mNil)) mNil)) (Qa (mLit (.str "r")) (Qa (Qn Q8 (Qa (mOpA newL (Qa (mVar 3) mNil)) mNil)) mNil)))) σ g =
  .ok (.ref g.length) (g++[.dct (twoD (g.length+2) (g.length+7)),.lst [gmD b],.ins 14 (grF (g.length+3)),.dcn false [(.inl b.dropLast,.ref (g.length+5))],.lst [],.lst [gmD b],.lst [gmD b],.ins 14 (grF (g.length+8)),.dcn false [(.inl b.dropLast,.ref (g.length+10))],.lst [],.lst [gmD b]]):=by
 have one:∀(l:G),Qn Q8 (Qa (mOpA newL (Qa (mVar 3) mNil)) mNil) σ (g++l)=.ok (.ref (g.length+l.length+1)) (g++(l++[.lst [gmD b],.ins 14 (grF (g.length+l.length+2)),.dcn false [(.inl b.dropLast,.ref (g.length+l.length+4))],.lst [],.lst [gmD b]])):=λl=>by
  have e:Qa (mOpA newL (Qa (mVar 3) mNil)) mNil σ (g++l)=.ok [.ref (g.length+l.length)] (g++l++[.lst [gmD b]]):=by simp only[QbG,Qb8,Qj8,QcZ,h3];rw[show newL [gmD b] (g++l)=.ok (.ref (g++l).length) (g++l++[.lst [gmD b]]) from Uj (by show 1<=_;decide),Uh]
  have hl:(g++l++[GO.lst [gmD b]]).length=g.length+l.length+1:=by simp[Wi]
  rw[Qp e,Qgm (u:=b) (by rw[show g.length+l.length=(g++l).length by simp];exact Qo _),hl];simp
 have a1:=one [.dct []];have a2:=one ([.dct []]++[.lst [gmD b],.ins 14 (grF (g.length+1+2)),.dcn false [(.inl b.dropLast,.ref (g.length+1+4))],.lst [],.lst [gmD b]]);unfold QaK;rw[Qd Qid (Qd a1 (Qd Qfx (Qd a2 rfl))),Res.bind_ok];exact Qhu (g.length+2) (g.length+7) [.lst [gmD b],.ins 14 (grF (g.length+3)),.dcn false [(.inl b.dropLast,.ref (g.length+5))],.lst [],.lst [gmD b],.lst [gmD b],.ins 14 (grF (g.length+8)),.dcn false [(.inl b.dropLast,.ref (g.length+10))],.lst [],.lst [gmD b]]
theorem Qkn:QaK (Qa (mLit (.str "l")) (Qa (JX false) (Qa (mLit (.str "r")) (Qa (JX false) mNil)))) σ g=.ok (.ref g.length) (g++[.dct (twoD (g.length+1) (g.length+2)),.dcn false [],.dcn false []]):=by
 have one:∀(l:G),JX false σ (g++l)=.ok (.ref (g.length+l.length)) (g++(l++[.dcn false []])):=λl=>by unfold JX;simp
 unfold QaK;rw[Qd Qid (Qd (one [.dct []]) (Qd Qfx (Qd (one [.dct [],.dcn false []]) rfl))),Res.bind_ok];exact Qhu (g.length+1) (g.length+2) [.dcn false [],.dcn false []]
theorem setattr_ok(h0:σ[0]?=some (vR n))(hv:v σ g=.ok y g1)(h:g1[n]?=some (.ins 15 fs))(hl:fs.length<100):Zt [15] f (mVar 0) v σ g=.nx σ (g1.set n (.ins 15 (putG f y fs))):=by unfold Zt;rw[hv];dsimp only;rw[ZG h0];dsimp only;rw[h];dsimp only;rw[Uj ⟨by decide,hl⟩]
theorem Qds(h:x≠f):putG f v ((x,y)::r)=(x,y)::putG f v r:=Uo h
def iniS(b:List Int):PSt:=⟨λ_=>[b],[],[],[]⟩
def iniK(b:List Int):GK:=λx _=>if x=true then [] else [b.dropLast]
def iniA(N:Nat):Ky->Nat
 |.W=>N | .S=>N+1 | .A=>N+14 | .C=>N+12 | .P=>N+13|.G y=>if y=true then N+8 else N+3
 |.B x y=>if x=true then (if y=true then N+16 else N+15) else (if y=true then N+9 else N+4)
 |.L _ y _=>if y=true then N+11 else N+6
def iniH(N M:Nat)(b:List Int):G:=[.ins 15 (wF M (N+1) (N+12) (N+13) (N+14)),.dct (twoD (N+3) (N+8)),.lst [gmD b],.ins 14 (grF (N+4)),.dcn false [(.inl b.dropLast,.ref (N+6))],.lst [],.lst [gmD b],.lst [gmD b],.ins 14 (grF (N+9)),.dcn false [(.inl b.dropLast,.ref (N+11))],.lst [],.lst [gmD b],.dcn true [],.lst [],.dct (twoD (N+15) (N+16)),.dcn false [],.dcn false []]
def iniB(b:List Int):Nat->Ky
 |1=>.S|14=>.A|12=>.C|13=>.P|3=>.G false|8=>.G true|4=>.B false false|9=>.B false true|15=>.B true false|16=>.B true true|6=>.L false false b.dropLast|11=>.L false true b.dropLast|_=>.W
theorem Qko(h:alo (iniK b) k):iniB b (iniA 0 k)=k:=by
 cases k with
 |L x y k=>
  cases x
  ·have hk:k=b.dropLast:=Uf.mp h;subst hk;cases y<;>rfl
  ·exact absurd h (by show ¬k∈[];simp)
 |G y=>cases y<;>rfl|B x y=>cases x<;>cases y<;>rfl|_=>rfl
theorem Qkp(N:Nat)(k:Ky):iniA N k=N+iniA 0 k:=by
 cases k with
 |L x y k=>cases y<;>simp[iniA]|G y=>cases y<;>simp[iniA]|B x y=>cases x<;>cases y<;>simp[iniA]|_=>simp[iniA]
theorem Qmz(T:TT3)(g0:G)(M:Nat)(b:List Int):Rp T g0 M (g0++iniH g0.length M b) (iniA g0.length) (iniS b) (iniK b):=by
 refine⟨⟨by simp,λn o _ e=>by rw[Ui (Qy e)];exact e⟩,λk ha=>?_,λk ha=>?_,λk k' ha ha' e=>?_,λx y=>?_,λy u hu=>?_,λy c k hc=>by cases hc⟩
 ·cases k with
  |W=>exact getx (i:=0) rfl|S=>exact getx (i:=1) rfl|A=>exact getx (i:=14) rfl|C=>exact getx (i:=12) rfl|P=>exact getx (i:=13) rfl|G y=>
   cases y
   ·exact getx (i:=3) rfl
   ·exact getx (i:=8) rfl
  |B x y=>
   cases x<;>cases y
   ·exact getx (i:=4) rfl
   ·exact getx (i:=9) rfl
   ·exact getx (i:=15) rfl
   ·exact getx (i:=16) rfl
  |L x y k=>
   cases x
   ·have hk:k=b.dropLast:=Uf.mp ha;subst hk;have e:ctn T M (iniA g0.length) (iniS b) (iniK b) (.L false y b.dropLast)=.lst [gmD b]:=by show GO.lst (List.map gmD (List.filter _ [b]))=_;rw[RJ (by simp)];rfl
    rw[e];cases y
    ·exact getx (i:=6) rfl
    ·exact getx (i:=11) rfl
   ·exact absurd ha (by show ¬k∈[];simp)
 ·cases k with
  |G y=>cases y<;>exact TB _ _|B x y=>cases x<;>cases y<;>exact TB _ _|L x y k=>cases y<;>exact TB _ _|W=>exact Um _|_=>exact TB _ _
 ·rw[Qkp,Qkp _ k']at e;rw[<-Qko ha,<-Qko ha',Nat.add_left_cancel e]
 ·unfold iniK;cases x<;>simp
 ·rw[Uf.mp (show u∈[b] from hu)];exact Uf.mpr rfl
end L3
namespace L3
open PySem
def blG(w:Nat):List Int:=List.replicate w 0
def c00(w:Nat):Ct:=(blG w,0,0,blG w)
theorem Qhv(hm:1<=m):okG w m (blG w):=⟨by simp[blG],λx hx=>by rw[WP hx];omega⟩
section
variable{w n m:Nat}{T:TT3}
theorem QpB(f:Few w n m):okC w n m (c00 w):=⟨Qhv (by have:=f.m2;omega),⟨RN 0,by have:=f.n1;show(0:Int)<n;omega⟩,⟨RN 0,by have:=f.m2;show(0:Int)<m;omega⟩,Qhv (by have:=f.m2;omega)⟩
theorem QmA(f:Few w n m):okS w n m T (iniS (blG w)):=⟨λy u hu=>(by rw[Uf.mp (show u∈[blG w] from hu)];exact Qhv (by have:=f.m2;omega)),λy=>(by show [blG w].Nodup;simp),λc hc=>(by cases hc),.nil,λc hc=>(by cases hc),λc hc=>(by cases hc),Um _⟩
theorem QpC(f:Few w n m):KB w m (iniK (blG w)):=λx y k hk=>by
 cases x
 ·rw[Uf.mp (show k∈[(blG w).dropLast] from hk)];exact(Qhv (by have:=f.m2;omega)).init
 ·exact absurd (show k∈[] from hk) (by simp)
theorem Qgn(g:G)(h1:1<=w)(h2:w<=100):Qdq (.tup [.int 0]) (.int w) g=.ok (gmD (blG w)) g:=by show(if 1<=(w:Int)/\(w:Int)<=1000 then Res.ok (D.tup (List.replicate (w:Int).toNat (.int 0))) g else .stuck)=_;rw[Uj ⟨by omega,by omega⟩];show Res.ok (D.tup (List.replicate w (.int 0))) g=Res.ok (D.tup ((List.replicate w 0).map .int)) g;rw[List.map_replicate]
theorem QlI(f:Few w n m):∃g',ZV [.ref g0.length,.ref M,.int w] (g0++[.ins 15 []])=.ok .non g'/\Rp T g0 M g' (iniA g0.length) (ask (iniS (blG w)) (c00 w)) (iniK (blG w)):=by
 obtain⟨g',e1,h1,_⟩:=QdI (Qmz T g0 M (blG w)) (QmA f) f (c00 w);refine⟨g',Qbc (σ:=[vR g0.length,vR M,vI w,vM (blG w)]) rfl ?_,h1⟩;show YK [vR g0.length,vR M,vI w,none] (g0++[.ins 15 []])=_;unfold YK;refine Qf [vR g0.length,vR M,vI w,vM (blG w)] (g0++[.ins 15 []]) (Qq (Qk (x:=.tup [.int 0]) (y:=.int w) (by simp) rfl (Qgn _ f.w1 (Ue f.w3 (by decide))))) ?_;refine Qf [vR g0.length,vR M,vI w,vM (blG w)] (g0++[.ins 15 [(Str.ofString "machine",.ref M)]]) ((setattr_ok (y:=.ref M) (fs:=[]) rfl rfl get0 (by decide)).trans (by rw[set0];rfl)) ?_;have hl:(g0++[GO.ins 15 [(Str.ofString "machine",D.ref M)]]).length=g0.length+1:=by simp
 refine Qf [vR g0.length,vR M,vI w,vM (blG w)] (g0++[.ins 15 [(Str.ofString "machine",.ref M),(Str.ofString "sides",.ref (g0.length+1))],.dct (twoD (g0.length+3) (g0.length+8)),.lst [gmD (blG w)],.ins 14 (grF (g0.length+4)),.dcn false [(.inl (blG w).dropLast,.ref (g0.length+6))],.lst [],.lst [gmD (blG w)],.lst [gmD (blG w)],.ins 14 (grF (g0.length+9)),.dcn false [(.inl (blG w).dropLast,.ref (g0.length+11))],.lst [],.lst [gmD (blG w)]]) ?_ ?_
 ·refine(setattr_ok (n:=g0.length) (fs:=[(Str.ofString "machine",.ref M)]) rfl (QlH (b:=blG w) rfl) ?_ (by show 1<100;decide)).trans ?_
  ·rw[UQ];exact get0
  ·rw[UQ,hl];show Out.nx _ ((g0++_::_).set g0.length _)=_;rw[set0,Qds (by decide +kernel)];rfl
 have hl2:∀l:G,(g0++l).length=g0.length+l.length:=λl=>by simp
 refine Qf [vR g0.length,vR M,vI w,vM (blG w)] (g0++[.ins 15 [(Str.ofString "machine",.ref M),(Str.ofString "sides",.ref (g0.length+1)),(Str.ofString "contexts",.ref (g0.length+12))],.dct (twoD (g0.length+3) (g0.length+8)),.lst [gmD (blG w)],.ins 14 (grF (g0.length+4)),.dcn false [(.inl (blG w).dropLast,.ref (g0.length+6))],.lst [],.lst [gmD (blG w)],.lst [gmD (blG w)],.ins 14 (grF (g0.length+9)),.dcn false [(.inl (blG w).dropLast,.ref (g0.length+11))],.lst [],.lst [gmD (blG w)],.dcn true []]) ?_ ?_
 ·refine(setattr_ok (n:=g0.length) (fs:=[(Str.ofString "machine",.ref M),(Str.ofString "sides",.ref (g0.length+1))]) rfl rfl ?_ (by show 2<100;decide)).trans ?_
  ·rw[UQ];exact get0
  ·rw[hl2,UQ];show Out.nx _ ((g0++_::_).set g0.length _)=_;rw[set0,Qds (by decide +kernel),Qds (by decide +kernel)];rfl
 refine Qf [vR g0.length,vR M,vI w,vM (blG w)] (g0++[.ins 15 [(Str.ofString "machine",.ref M),(Str.ofString "sides",.ref (g0.length+1)),(Str.ofString "contexts",.ref (g0.length+12)),(Str.ofString "pending",.ref (g0.length+13))],.dct (twoD (g0.length+3) (g0.length+8)),.lst [gmD (blG w)],.ins 14 (grF (g0.length+4)),.dcn false [(.inl (blG w).dropLast,.ref (g0.length+6))],.lst [],.lst [gmD (blG w)],.lst [gmD (blG w)],.ins 14 (grF (g0.length+9)),.dcn false [(.inl (blG w).dropLast,.ref (g0.length+11))],.lst [],.lst [gmD (blG w)],.dcn true [],.lst []]) ?_ ?_
 ·refine(setattr_ok (n:=g0.length) (fs:=[(Str.ofString "machine",.ref M),(Str.ofString "sides",.ref (g0.length+1)),(Str.ofString "contexts",.ref (g0.length+12))]) rfl Qai ?_ (by show 3<100;decide)).trans ?_
  ·rw[UQ];exact get0
  ·rw[hl2,UQ];show Out.nx _ ((g0++_::_).set g0.length _)=_;rw[set0,Qds (by decide +kernel),Qds (by decide +kernel),Qds (by decide +kernel)];rfl
 refine Qf [vR g0.length,vR M,vI w,vM (blG w)] (g0++iniH g0.length M (blG w)) ?_ ?_
 ·refine(setattr_ok (n:=g0.length) (fs:=[(Str.ofString "machine",.ref M),(Str.ofString "sides",.ref (g0.length+1)),(Str.ofString "contexts",.ref (g0.length+12)),(Str.ofString "pending",.ref (g0.length+13))]) rfl Qkn ?_ (by show 4<100;decide)).trans ?_
  ·rw[UQ];exact get0
  ·rw[hl2,UQ];show Out.nx _ ((g0++_::_).set g0.length _)=_;rw[set0,Qds (by decide +kernel),Qds (by decide +kernel),Qds (by decide +kernel),Qds (by decide +kernel)];rfl
 refine Zs (d:=.non) ((QT (n:=g0.length) (xs:=[ctD (c00 w)]) rfl (Qmz T g0 M (blG w)).atW (Qmw ..) ?_).trans e1);refine Qd (x:=ctD (c00 w)) ?_ rfl;simp[ctD,c00]
theorem QlJ(f:Few w n m)(ha:a σ g0=.ok [.ref M,.int w] g0):∃g',QaO 15 ZV a σ g0=.ok (.ref g0.length) g'/\Rp T g0 M g' (iniA g0.length) (ask (iniS (blG w)) (c00 w)) (iniK (blG w)):=by obtain⟨g',e1,h1⟩:=QlI (T:=T) (g0:=g0) (M:=M) f;refine⟨g',?_,h1⟩;unfold QaO;rw[ha,Res.bind_ok,e1,Res.bind_ok]
end
end L3
namespace L3
open PySem
def srt(ks:List SKd):GO:=.lst ((sortK ks).map kD)
theorem QqC(hw:1<=w)(h:okG w m u):okK (.inl u)=true:=by
 cases u with
 |nil=>have:=h.1;simp at this;omega|cons _ _=>rfl
theorem Qkq(h1:ks.length<=60)(h2:ks.Nodup)(h3:∀k∈ks,okK k=true):srtK ks g=.ok (.ref g.length) (g++[srt ks]):=Uj ⟨by omega,h2,UL.mpr h3⟩
theorem Qkr{us:List (List Int)}(h:us.Nodup):(us.map (Sum.inl:List Int->SKd)).Nodup:=WI.mpr (h.imp λh z=>h (Sum.inl.inj z))
theorem Qks{cs:List Ct}(h:cs.Nodup):(cs.map (Sum.inr:Ct->SKd)).Nodup:=WI.mpr (h.imp λh z=>h (Sum.inr.inj z))
theorem Qc6{g:G}{Gr B:Nat}{ks:List (List Int)}{adr:List Int->Nat}{cont:List Int->List (List Int)}{w m:Nat}(hw:1<=w)(hG:g[Gr]?=some (.ins 14 (grF B)))(hB:g[B]?=some (.dcn false (ks.map λk=>(.inl k,.ref (adr k)))))(hL:∀k∈ks,g[adr k]?=some (.lst ((cont k).map gmD)))(hz:(ks.flatMap cont).length<=60)(hn:(ks.flatMap cont).Nodup)(ho:∀u∈ks.flatMap cont,okG w m u):∃a g',ZU [.ref Gr] g=.ok (.ref a) g'/\g'[a]?=some (srt ((ks.flatMap cont).map .inl))/\g.length<=a/\(∀n,n≠B->n<g.length->g'[n]?=g[n]?):=by
 have lB:=Qy hB
 let g1:G:=g++[.lst []]
 let g2:G:=g1.set B (.dcf false (ks.map λk=>(.inl k,.ref (adr k))))
 have e1:mItV (QH [14] "by_seen" (mVar 0)) [vR Gr,vR g.length,none] g1=.ok ⟨λ_ i=>some (ks.map λk=>D.ref (adr k))[i]?,(ks.map λk=>D.ref (adr k)).length⟩ g2:=by unfold mItV QhZ;rw[Z0 (n:=Gr) (d:=.ref B) rfl (by show g1[Gr]?=_;rw[Ui (Qy hG)];exact hG) (by decide) lk1,Res.bind_ok];unfold QjL;dsimp only;rw[show g1[B]?=some (.dcn false (ks.map λk=>(.inl k,.ref (adr k)))) by rw[Ui lB];exact hB];dsimp only;rw[Ra,Ub,Ub];rfl
 obtain⟨σ',g',e2,x2,q1,q2,q3,q4⟩:=Qj2 (t:=gSet 2) (body:=Y1) (ds:=ks.map λk=>D.ref (adr k)) (σ:=[vR Gr,vR g.length,none]) (g:=g2) (λi σ' g'=>∃x2,σ'=[vR Gr,vR g.length,x2]/\g'[g.length]?=some (.lst (((ks.take i).flatMap cont).map gmD))/\(∀n,n≠B->n<g.length->g'[n]?=g[n]?)/\g'.length=g.length+1)
  ⟨none,rfl,by show(g1.set B _)[g.length]?=_;rw[Uc (by omega)];exact Qo _,λn hn hl=>by show(g1.set B _)[n]?=_;rw[Uc (Ne.symm hn),Ui hl],by show(g1.set B _).length=_;rw[UG];show(g++[GO.lst []]).length=_;simp⟩ (λi d σ' g' hd hh=>by
   obtain⟨x2,q1,q2,q3,q4⟩:=hh;subst q1;rw[UK]at hd;obtain⟨k,hk,rfl⟩:=U8.mp hd;have hk':=hL k (UR hk);have lk:=Qy hk';have nB:adr k≠B:=λz=>by rw[z,hB]at hk';cases hk'
   have tl:(ks.take (i+1)).flatMap cont=(ks.take i).flatMap cont++cont k:=by rw[YD hk,Ws];simp
   have len:((ks.take (i+1)).flatMap cont).length<=60:=by
    refine Ue ?_ hz
    conv=>rhs;rw[<-Wc (i+1) ks,Ws]
    rw[Uh];exact TB _ _
   refine⟨_,[vR Gr,vR g.length,vR (adr k)],g'.set g.length (.lst (((ks.take (i+1)).flatMap cont).map gmD)),rfl,Zs (d:=.non) ?_,vR (adr k),rfl,Q6 q2,λn hn hl=>by rw[Uc (by omega)];exact q3 n hn hl,by rw[UG];exact q4⟩;show J7 (mVar 1) (mVar 2) [vR Gr,vR g.length,vR (adr k)] g'=_;unfold J7;rw[show mVar 1 [some (D.ref Gr),vR g.length,vR (adr k)] g'=.ok (.ref g.length) g' from rfl,Res.bind_ok];dsimp only;rw[q2];dsimp only;rw[show mVar 2 [some (D.ref Gr),vR g.length,vR (adr k)] g'=.ok (.ref (adr k)) g' from rfl,Res.bind_ok];dsimp only;rw[q2,q3 _ nB lk,hk'];dsimp only;rw[Uj ⟨by omega,by rw[tl,Uh]at len;rw[Ub,Ub];exact Ue len (by decide)⟩,tl,Uz])
 have fin:ks.take (ks.map λk=>D.ref (adr k)).length=ks:=by rw[Ub];exact U5
 rw[fin]at q2;subst q1;refine⟨g'.length,g'++[srt ((ks.flatMap cont).map .inl)],Qu rfl ?_,Qo _,by omega,λn hn hl=>by rw[Ui (by omega)];exact q3 n hn hl⟩;show YJ [vR Gr,none,none] g=_;unfold YJ;refine Qf [vR Gr,vR g.length,none] g1 (Qq Qai) ?_;refine Qf _ g' ((JB e1).trans e2) (QX (QY (x:=.ref g.length) rfl ?_));unfold Qcw;dsimp only;rw[q2];dsimp only;rw[Qc1];dsimp only;exact Qkq (by rw[Ub];exact hz) (Qkr hn) λk hk=>by obtain⟨u,hu,rfl⟩:=UE.mp hk;exact QqC hw (ho u hu)
theorem QnM(h:Rp T g0 M g ad s gk)(y:Bool)(u:List Int):u∈(gk false y).flatMap (gF s y)↔u∈s.gs y:=by
 rw[TY];constructor
 ·rintro ⟨k,_,hu⟩;exact(Tt.mp hu).1
 ·intro hu;exact⟨u.dropLast,h.kg y u hu,Tt.mpr ⟨hu,by simp⟩⟩
theorem Qc7(h:Rp T g0 M g ad s gk)(ok:okS w n m T s)(y:Bool):((gk false y).flatMap (gF s y)).Nodup:=by
 have nd:=h.nd false y;generalize gk false y=ks at nd;induction ks with
 |nil=>exact .nil|cons k ks ih =>have nd':=T5.mp nd;rw[List.flatMap_cons];refine T7.mpr ⟨(ok.gn y).filter _,ih nd'.2,λa ha b hb z=>?_⟩;subst z;obtain⟨k',hk',hb'⟩:=TY.mp hb;have e1:=UO (Tt.mp ha).2;have e2:=UO (Tt.mp hb').2;exact nd'.1 (by rw[<-e1,e2];exact hk')
theorem Qkt:∀{l:List SKd}{P:List Int->Prop},(∀x∈l,∃u,x=.inl u/\P u)->∃us:List (List Int),l.map kD=us.map gmD/\(∀u∈us,P u)/\us.length=l.length
 |[],_,_=>⟨[],rfl,λ_ h=>(by cases h),rfl⟩|x::l,P,h=>by obtain⟨u,rfl,hu⟩:=h x (Us ..);obtain⟨us,h1,h2,h3⟩:=Qkt (l:=l) (P:=P) λx hx=>h x (Ut _ hx);exact⟨u::us,by rw[UC,UC,h1];rfl,λv hv=>(by rcases Uv.mp hv with rfl|hv;exact hu;exact h2 v hv),by simp[h3]⟩
theorem Qku:∀{l:List SKd}{P:Ct->Prop},(∀x∈l,∃u,x=.inr u/\P u)->∃us:List Ct,l.map kD=us.map ctD/\(∀u∈us,P u)/\us.length=l.length
 |[],_,_=>⟨[],rfl,λ_ h=>(by cases h),rfl⟩|x::l,P,h=>by obtain⟨u,rfl,hu⟩:=h x (Us ..);obtain⟨us,h1,h2,h3⟩:=Qku (l:=l) (P:=P) λx hx=>h x (Ut _ hx);exact⟨u::us,by rw[UC,UC,h1];rfl,λv hv=>(by rcases Uv.mp hv with rfl|hv;exact hu;exact h2 v hv),by simp[h3]⟩
theorem QpD{us:List (List Int)}{P:List Int->Prop}(h:∀u∈us,P u):∃vs:List (List Int),srt (us.map .inl)=.lst (vs.map gmD)/\(∀u∈vs,P u)/\vs.length=us.length:=by
 obtain⟨vs,h1,h2,h3⟩:=Qkt (l:=sortK (us.map .inl)) (P:=P) λx hx=>by obtain⟨u,hu,rfl⟩:=UE.mp ((sortK_perm _).mem_iff.mp hx);exact⟨u,rfl,h u hu⟩
 exact⟨vs,by unfold srt;rw[h1],h2,by rw[h3,(sortK_perm _).length_eq,Ub]⟩
theorem QqD{us:List Ct}{P:Ct->Prop}(h:∀u∈us,P u):∃vs:List Ct,srt (us.map .inr)=.lst (vs.map ctD)/\(∀u∈vs,P u)/\vs.length=us.length:=by
 obtain⟨vs,h1,h2,h3⟩:=Qku (l:=sortK (us.map .inr)) (P:=P) λx hx=>by obtain⟨u,hu,rfl⟩:=UE.mp ((sortK_perm _).mem_iff.mp hx);exact⟨u,rfl,h u hu⟩
 exact⟨vs,by unfold srt;rw[h1],h2,by rw[h3,(sortK_perm _).length_eq,Ub]⟩
abbrev QA(w:Int)(a b c:D):D:=.tup [.str "wall",.int w,a,b,c]
def Wl(g:G)(w:Nat)(d:D)(us vs:List (List Int))(cs:List Ct):Prop:=∃a b c,d=QA w (.ref a) (.ref b) (.ref c)/\g[a]?=some (.lst (us.map gmD))/\g[b]?=some (.lst (vs.map gmD))/\g[c]?=some (.lst (cs.map ctD))
structure okP(w n m:Nat)(us vs:List (List Int))(cs:List Ct):Prop where
 u:∀u∈us,okG w m u
 v:∀u∈vs,okG w m u
 c:∀c∈cs,okC w n m c
 lu:us.length<=500
 lv:vs.length<=500
 lc:cs.length<=500
theorem QlK(h:Rp T g0 M g ad s gk)(ok:okS w n m T s)(f:Few w n m)(hc:s.cs.length<=60):∃d g' us vs cs,ZJ [.ref (ad .W),.int w] g=.ok d g'/\Wl g' w d us vs cs/\okP w n m us vs cs/\cs.length=s.cs.length/\us.length<=60/\vs.length<=60/\Keeps [] g0 g':=by
 have lenG:=h.old.len;have og:∀y,∀u∈(gk false y).flatMap (gF s y),okG w m u:=λy u hu=>ok.g y u ((QnM h y u).mp hu);have zl:∀y,((gk false y).flatMap (gF s y)).length<=60:=λy=>Ue (Qbf (Qc7 h ok y) λu hu=>QaD (og y u hu)) f.g;obtain⟨us,su,ou,lu⟩:=QpD (og false);obtain⟨vs,sv,ov,lv⟩:=QpD (og true);obtain⟨cs,sc,oc,lc⟩:=QqD ok.c;obtain⟨a,g1,e1,a1,a2,a3⟩:=Qc6 (g:=g) (Gr:=ad (.G false)) (B:=ad (.B false false)) (ks:=gk false false) (adr:=λk=>ad (.L false false k)) (cont:=gF s false) f.w1 (h.atG false) (h.atB false false) (λk hk=>h.at' (.L false false k) hk) (zl false) (Qc7 h ok false) (og false);rw[su]at a1;have lg1:g.length<=g1.length:=by have:=Qy a1;omega
 have tr:∀k,alo gk k->k≠.B false false->g1[ad k]?=some (ctn T M ad s gk k):=λk hk hne=>by rw[a3 _ (λz=>hne (h.inj _ (.B false false) hk trivial z)) (h.lt hk)];exact h.at' k hk
 obtain⟨b,g2,e2,b1,b2,b3⟩:=Qc6 (g:=g1) (Gr:=ad (.G true)) (B:=ad (.B false true)) (ks:=gk false true) (adr:=λk=>ad (.L false true k)) (cont:=gF s true) f.w1 (tr (.G true) trivial (λz=>by cases z)) (tr (.B false true) trivial (λz=>by cases z)) (λk hk=>tr (.L false true k) hk (λz=>by cases z)) (zl true) (Qc7 h ok true) (og true);rw[sv]at b1;have lg2:g1.length<=g2.length:=by have:=Qy b1;omega
 have hC:g2[ad .C]?=some (.dcn true (s.cs.map λc=>(.inr c,.bl true))):=by rw[b3 _ (λz=>by have:=h.inj .C (.B false true) trivial trivial z;cases this) (Ux (h.lt (k:=.C) trivial) lg1)];exact tr .C trivial (λz=>by cases z)
 have hBt:ad (.B false true)<g.length:=h.lt (k:=.B false true) trivial;have a1':g2[a]?=some (.lst (us.map gmD)):=by rw[b3 a (by omega) (Qy a1)];exact a1
 have la:=Qy a1;have lb:=Qy b1;refine⟨_,g2++[srt (s.cs.map .inr)],us,vs,cs,Qu rfl (QX ?_),⟨a,b,g2.length,rfl,by rw[Ui (by omega)];exact a1',by rw[Ui lb];exact b1,by rw[<-sc];exact Qo _⟩,⟨ou,ov,oc,by have:=zl false;omega,by have:=zl true;omega,by omega⟩,lc,by have:=zl false;omega,by have:=zl true;omega,⟨by rw[Uh];show g0.length<=_+1;omega,λk o hk e=>?_⟩⟩
 ·have oL:mOp2 Ym (QH [15] "sides" (mVar 0)) (mLit (.str "l")) [vR (ad .W),vI w] g=.ok (.ref (ad (.G false))) g:=Qk (a_sides h rfl) Qid ((Qc5 (y:=false) (h.at' .S trivial)).trans rfl);have hW:g1[ad .W]?=some (.ins 15 (wF M (ad .S) (ad .C) (ad .P) (ad .A))):=tr .W trivial (λz=>by cases z);have oR:mOp2 Ym (QH [15] "sides" (mVar 0)) (mLit (.str "r")) [vR (ad .W),vI w] g1=.ok (.ref (ad (.G true))) g1:=Qk (Z0 (n:=ad .W) rfl hW (by decide) (Qhr ..)) Qfx ((Qc5 (y:=true) (tr .S trivial (λz=>by cases z))).trans rfl);have hW2:g2[ad .W]?=some (.ins 15 (wF M (ad .S) (ad .C) (ad .P) (ad .A))):=by rw[b3 _ (λz=>by have:=h.inj .W (.B false true) trivial trivial z;cases this) (Ux (h.lt (k:=.W) trivial) lg1)];exact hW
  have oC:mOp1 Qcv (QH [15] "contexts" (mVar 0)) [vR (ad .W),vI w] g2=.ok (.ref g2.length) (g2++[srt (s.cs.map .inr)]):=by refine QY (Z0 (n:=ad .W) rfl hW2 (by decide) (Qc4 ..)) ?_;unfold Qcv dAt;dsimp only;rw[hC];dsimp only;rw[Uj (by rw[Ub];exact Ue (ok.cl f) (by decide)),Ra];exact Qkq (by rw[Ub];exact hc) (Qks ok.cn) λk hk=>by obtain⟨u,hu,rfl⟩:=UE.mp hk;rfl
  have:=Qd (x:=.str "wall") (σ:=[vR (ad .W),vI w]) (a:=mLit (.str "wall")) (g:=g) (g1:=g) rfl (Qd (x:=.int w) (a:=mVar 1) (g1:=g) rfl (Qd ((QT (xs:=[]) (g2:=g) oL (h.atG false) (Qmu _) (show mNil _ g=_ from rfl)).trans e1) (Qd ((QT (xs:=[]) (g2:=g1) oR (tr (.G true) trivial (λz=>by cases z)) (Qmu _) (show mNil _ g1=_ from rfl)).trans e2) (Qd oC (show mNil _ _=.ok [] _ from rfl)))));show mOpA pTup _ [vR (ad .W),vI w] g=_;rw[Qb8,this];exact Qc3 _ _ (by show 5<=100;decide)
 ·have hl:=Qy e;have:=h.ge (.B false false) trivial;have:=h.ge (.B false true) trivial;rw[Ui (by omega),b3 k (by omega) (by omega),a3 k (by omega) (by omega)];exact h.old.at' k o hk e
end L3
namespace L3
open PySem
theorem QaE  : ∀(f:Nat)(σ:S3)(g:G),Yv c body f σ g≠.stuck->∀f',f<=f'->Yv c body f' σ g=Yv c body f σ g
 |0,_,_,h,_,_=>absurd rfl h|f+1,σ,g,h,f',hf=>by
  obtain⟨k,rfl⟩:∃k,f'=k+1:=⟨f' - 1,by omega⟩;unfold Yv at h ⊢;cases hc:c σ g with
  |stuck=>rfl|raise e g1=>rfl|ok b g1=>
   cases b with
   |false=>rfl|true=>
    rw[hc]at h;dsimp only at h ⊢;cases hb:body σ g1 with
    |nx σ2 g2=>rw[hb]at h;exact QaE f σ2 g2 h k (by omega)|ct σ2 g2=>rw[hb]at h;exact QaE f σ2 g2 h k (by omega)|bk σ2 g2=>rfl|rt d g2=>rfl|raise e σ2 g2=>rfl|stuck=>rfl
theorem Qhw(h:Yv c body f σ g=R)(hR:R≠.stuck):Qe4 c body σ g=R:=by
 have hx:∃f,Yv c body f σ g≠.stuck:=⟨f,by rw[h];exact hR⟩;unfold Qe4;rw[dif_pos hx];have h1:=hx.choose_spec;rcases Nat.le_total f hx.choose with z|z
 ·rw[QaE f σ g (by rw[h];exact hR) _ z,h]
 ·rw[<-QaE _ σ g h1 f z,h]
end L3
namespace L3
open PySem
theorem Qca(h:Rp T g0 M g ad s gk)(ok:okS w n m T s)(f:Few w n m)(hv:σ[i]?=some (vR (ad .W))):mOp1 Qef (QH [15] "contexts" (mVar i)) σ g=.ok (.int s.cs.length) g:=by refine QY (a_contexts h hv) ?_;unfold Qef dAt;dsimp only;rw[h.atC];dsimp only;rw[Ub,Uj (Ue (ok.cl f) (by decide))]
theorem Qgo(h:Rp T g0 M g ad s gk)(hv:σ[i]?=some (vR (ad .W))):Ql (mOp2 pGt (mOp1 pLen (QH [15] "pending" (mVar i))) (mI 0)) σ g=.ok (decide (s.pd≠[])) g:=by
 refine Qz (Qk (x:=.int (s.pd.map ctD).length) (y:=.int 0) (QY (a_pending h hv) (Qbd h.atP)) rfl ?_);rw[QlB,Ub];congr 2;refine U4.mpr ?_;cases s.pd with
 |nil=>simp|cons _ _=>simp
theorem Qfy(hM:g0[M]?=some (Y4 rows))(ht:Tb rows n m)(f:Few w n m)  : ∀(fuel:Nat)(g:G)(ad:Ky->Nat)(s:PSt)(gk:GK),Rp (TR rows) g0 M g ad s gk->okS w n m (TR rows) s->KB w m gk->s.cs≠[]->ad .W=W->900-s.dn.length<fuel->(∃g',Yv (Ql (mOp2 pGt (mOp1 pLen (QH [15] "pending" (mVar 3))) (mI 0))) ZE fuel [vR M,vI w,vI most,vR W] g=.rt .non g'/\Keeps [] g0 g')\/(∃g' ad' s' gk',Yv (Ql (mOp2 pGt (mOp1 pLen (QH [15] "pending" (mVar 3))) (mI 0))) ZE fuel [vR M,vI w,vI most,vR W] g=.nx [vR M,vI w,vI most,vR W] g'/\Rp (TR rows) g0 M g' ad' s' gk'/\okS w n m (TR rows) s'/\s'.cs≠[]/\ad' .W=W)
 |0,_,_,_,_,_,_,_,_,_,h=>by omega
 |fuel+1,g,ad,s,gk,h,ok,kb,ne,hW,hf=>by
  subst hW;unfold Yv;rw[Qgo h (σ:=[vR M,vI w,vI most,vR (ad .W)]) (i:=3) rfl];by_cases hp:s.pd=[]
  ·rw[Uu (λz=>z hp)];exact .inr ⟨g,ad,s,gk,rfl,h,ok,ne,rfl⟩
  ·rw[UB hp];dsimp only;obtain⟨r,c,hpc⟩:∃r c,s.pd=r++[c]:=⟨_,_,(List.dropLast_concat_getLast hp).symm⟩;have e1:Ql (mOp2 pGt (mOp1 Qef (QH [15] "contexts" (mVar 3))) (mVar 2)) [vR M,vI w,vI most,vR (ad .W)] g=.ok (decide (most<s.cs.length)) g:=Qz (Qk (x:=.int s.cs.length) (y:=.int most) (Qca h ok f rfl) rfl QlB);have eb:∀{t:Bool}{g':G},QQ [.ref (ad .W)] g=.ok (.bl t) g'->decide (most<s.cs.length)=false->ZE [vR M,vI w,vI most,vR (ad .W)] g=if t=true then .nx [vR M,vI w,vI most,vR (ad .W)] g' else .rt .non g':=λ{t g'} he hl=>by
    have e2:mOrT (Ql (mOp2 pGt (mOp1 Qef (QH [15] "contexts" (mVar 3))) (mVar 2))) (Q9 (Ql (ZW 15 (Str.ofString "went_on") QQ (mVar 3) mNil))) [vR M,vI w,vI most,vR (ad .W)] g=.ok (!t) g':=by rw[Qhp,e1,hl];dsimp only;rw[Uo Uk,Qka,Qz ((QT (n:=ad .W) (xs:=[]) (g2:=g) rfl h.atW (QnK ..) rfl).trans he)]
    unfold ZE;cases t
    ·exact ift _ e2 rfl
    ·exact iff' _ e2 rfl
   by_cases hl:most<s.cs.length
   ·have:ZE [vR M,vI w,vI most,vR (ad .W)] g=.rt .non g:=by unfold ZE;refine ift g ?_ rfl;rw[Qhp,e1,UB hl];rfl
    rw[this];exact .inl ⟨g,rfl,h.old⟩
   ·cases hT:TR rows c.2.1 c.2.2.1 with
    |none =>obtain⟨g',e2,k2⟩:=Qkk hM ht h ok hpc hT;rw[eb e2 (Uu hl)];exact .inl ⟨g',rfl,k2⟩|some e=>
     obtain⟨i,b,j⟩:=e;obtain⟨g',ad',gk',e2,h2,ok2,kb2,oW⟩:=Qkl hM ht h ok f kb hpc hT;rw[eb e2 (Uu hl),Uj rfl];have hdn:(Qfu (TR rows) s c i b j).dn=s.dn++[c]:=by unfold Qfu;dsimp only;rw[(Qcz _ _).1];show(Jo (TR rows) (popW s) (!b) (bhd b c)).dn++[c]=_;rw[(Qev _ _ _ _).1];rfl
     have l1:=ok2.l;have l2:=ok2.cl f;rw[hdn,Uh,Tc]at l1;exact Qfy hM ht f fuel g' ad' _ gk' h2 ok2 kb2 (λz=>by
      obtain⟨x,hx⟩:=List.exists_mem_of_ne_nil _ ne;have:x∈(Qfu (TR rows) s c i b j).cs:=by unfold Qfu;exact(Qcz _ (Qft (Jo (TR rows) (popW s) (!b) (bhd b c)) c)).2.2.2 x (show x∈(Jo (TR rows) (popW s) (!b) (bhd b c)).cs from (Qev ..).2.2 x hx)
      rw[z]at this;cases this) oW (by rw[hdn,Uh,Tc];omega)
theorem QnN(hM:g0[M]?=some (Y4 rows))(ht:Tb rows n m)(f:Few w n m)(most:Int)(hmo:most<=60):∃d g',QcU [.ref M,.int w,.int most] g0=.ok d g'/\Keeps [] g0 g'/\(d=.non\/∃us vs cs,Wl g' w d us vs cs/\okP w n m us vs cs/\cs≠[]/\us.length<=60/\vs.length<=60/\cs.length<=60):=by
 obtain⟨g1,e1,h1⟩:=QlJ (T:=TR rows) (g0:=g0) (M:=M) (σ:=[vR M,vI w,vI most,none]) (a:=Qa (mVar 0) (Qa (mVar 1) mNil)) f rfl;have ok1:okS w n m (TR rows) (ask (iniS (blG w)) (c00 w)):=(QmA f).ask (QpB f);have c1:Ql (mOp2 pLt (mVar 1) (mI 1)) [vR M,vI w,vI most,none] g0=.ok false g0:=by refine Qz (Qk (x:=.int w) (y:=.int 1) rfl rfl ?_);rw[Qpy,Uu (by have:=f.w1;omega)]
 rcases Qfy hM ht f (most:=most) (W:=g0.length) 1000 g1 (iniA g0.length) _ _ h1 ok1 (QpC f) (λz=>by cases z) rfl (by omega) with⟨g',e2,k2⟩|⟨g',ad',s',gk',e2,h2,ok2,ne,oW⟩
 ·refine⟨.non,g',Qu rfl ?_,k2,.inl rfl⟩;show Qab [vR M,vI w,vI most,none] g0=_;unfold Qab;refine Qf [vR M,vI w,vI most,none] g0 (iff' _ c1 rfl) ?_;refine Qf [vR M,vI w,vI most,vR g0.length] g1 (Qq e1) ?_;exact Zl (Qhw e2 (λz=>by cases z))
 ·have c2:Ql (mOp2 pLe (mOp1 Qef (QH [15] "contexts" (mVar 3))) (mVar 2)) [vR M,vI w,vI most,vR g0.length] g'=.ok (decide ((s'.cs.length:Int)<=most)) g':=Qz (Qk (x:=.int s'.cs.length) (y:=.int most) (Qca h2 ok2 f (by rw[oW];rfl)) rfl Qqz);have st:∀{R:Out},mRet (mIfE (Ql (mOp2 pLe (mOp1 Qef (QH [15] "contexts" (mVar 3))) (mVar 2))) (ZW 15 (Str.ofString "paper") ZJ (mVar 3) (Qa (mVar 1) mNil)) (mLit .non)) [vR M,vI w,vI most,vR g0.length] g'=R->Qab [vR M,vI w,vI most,none] g0=R:=λ{R} hR=>by unfold Qab;refine Qf [vR M,vI w,vI most,none] g0 (iff' _ c1 rfl) ?_;refine Qf [vR M,vI w,vI most,vR g0.length] g1 (Qq e1) ?_;exact Qf [vR M,vI w,vI most,vR g0.length] g' (Qhw e2 (λz=>by cases z)) hR
  by_cases hl:(s'.cs.length:Int)<=most
  ·obtain⟨d,g2,us,vs,cs,e3,q1,q2,q3,q4,q5,k3⟩:=QlK h2 ok2 f (by omega);rw[oW]at e3;refine⟨_,g2,Qu rfl (st (QX (d:=d) (g':=g2) ?_)),k3,.inr ⟨us,vs,cs,q1,q2,λz=>ne (RI.mp (by rw[<-q3,z];rfl)),q4,q5,by omega⟩⟩;rw[Qkb,c2,UB hl];dsimp only;rw[Uj rfl,QT (n:=g0.length) (xs:=[.int w]) (g2:=g') rfl (by rw[<-oW];exact h2.atW) (QlG ..) rfl,e3]
  ·refine⟨.non,g',Qu rfl (st (QX (d:=.non) (g':=g') ?_)),h2.old,.inl rfl⟩;rw[Qkb,c2,Uu hl];rfl
end L3
namespace L3
open PySem
theorem Qc8(h:QU g0 x=some (b,ds))(k:Keeps [] g0 g):∃src,JW x g=.ok src g/\src.top=ds.length/\∀g1 i,Keeps [] g0 g1->src.at' g1 i=some ds[i]?:=by
 unfold QU at h;cases x with
 |tup xs=>cases h;exact⟨_,rfl,rfl,λ_ _ _=>rfl⟩|fl xs=>cases h;exact⟨_,rfl,rfl,λ_ _ _=>rfl⟩|ref n=>
  dsimp only at h;cases hg:g0[n]? with
  |none=>rw[hg]at h;cases h|some o=>
   rw[hg]at h;cases o with
   |lst xs =>cases h;refine⟨_,by unfold JW;dsimp only;rw[k.at' n _ (by simp) hg],rfl,λg1 i k=>?_⟩;dsimp only;rw[k.at' n _ (by simp) hg]|_=>cases h
 |_=>cases h
theorem Qbi{a e:ME}{σ σc:S3}{g:G}{x:D}{b:Bool}{us:List α}{f F:α->D}{cap:List Nat}(ha:a σ g=.ok x g)(hs:QU g x=some (b,us.map f))(hz:us.length<=SZ)(hc:capt 1 cap σ=none::σc)(he:∀u∈us,∀g1,Keeps [] g g1->∃g2,e (some (f u)::σc) g1=.ok (F u) g2/\Keeps [] g1 g2):∃g',Za (Qt a) 1 cap (gSet 0) Zf e σ g=.ok (.ref g'.length) (g'++[.lst (us.map F)])/\Keeps [] g g':=by
 obtain⟨src,e1,e2,e3⟩:=Qc8 hs .refl;rw[Ub]at e2;obtain⟨xs,σ',g',h1,h2,h3,_⟩:=YB (src:=src) (t:=gSet 0) (c:=Zf) (e:=e) (n:=us.length)
  (λi σ' g1 acc=>acc=(us.take i).map F/\Keeps [] g g1/\∃u,σ'=u::σc) (λi σ' g1 acc hi ⟨h1,h2,u,h3⟩=>by obtain⟨g2,k1,k2⟩:=he us[i] (UY hi) g1 h2;subst h3;exact⟨f us[i],some (f us[i])::σc,g1,by rw[e3 g1 i h2];simp[hi],rfl,.inl ⟨F us[i],g2,rfl,k1,by rw[h1,UW hi,Uz];rfl,h2.trans k2,_,rfl⟩⟩)
  (λσ g1 acc ⟨_,h2,_⟩=>by rw[e3 g1 _ h2];simp) (src.top+1) 0 (none::σc) g [] (by omega) (by omega) ⟨by simp,.refl,none,rfl⟩
 refine⟨g',?_,h3⟩;rw[h2,U5]at h1;exact QbF (src:=src) (by unfold Qt;rw[ha,Res.bind_ok,e1]) (by omega) hc h1
theorem QnO{us:List α}{P:α->Bool}{g:G}:pAll (.ref g.length) (g++[.lst (us.map λd=>.bl (P d))])=.ok (.bl (us.all P)) (g++[.lst (us.map λd=>.bl (P d))]):=by unfold pAll;dsimp only;rw[Qo];dsimp only;rw[Qcx]
theorem all_map{a e:ME}{σ σc:S3}{g:G}{x:D}{b:Bool}{us:List α}{f:α->D}{cap:List Nat}(P:α->Bool)(ha:a σ g=.ok x g)(hs:QU g x=some (b,us.map f))(hz:us.length<=SZ)(hc:capt 1 cap σ=none::σc)(he:∀u∈us,∀g1,Keeps [] g g1->∃g2,e (some (f u)::σc) g1=.ok (.bl (P u)) g2/\Keeps [] g1 g2):∃g',mOp1 pAll (Za (Qt a) 1 cap (gSet 0) Zf e) σ g=.ok (.bl (us.all P)) g'/\Keeps [] g g':=by obtain⟨g',h1,h2⟩:=Qbi (F:=λd=>.bl (P d)) ha hs hz hc he;exact⟨_,QY h1 QnO,h2.trans (.push _)⟩
theorem Qkv{a e:ME}{σ σc:S3}{g:G}{x:D}{b:Bool}{ds:List D}{cap:List Nat}(P:D->Bool)(ha:a σ g=.ok x g)(hs:QU g x=some (b,ds))(hz:ds.length<=SZ)(hc:capt 1 cap σ=none::σc)(he:∀d∈ds,∀g1,Keeps [] g g1->∃g2,e (some d::σc) g1=.ok (.bl (P d)) g2/\Keeps [] g1 g2):∃g',mOp1 pAll (Za (Qt a) 1 cap (gSet 0) Zf e) σ g=.ok (.bl (ds.all P)) g'/\Keeps [] g g':=all_map (f:=λd=>d) (b:=b) P ha (by rw[hs,List.map_id']) hz hc he
theorem Qie(h1:a σ g=.ok (.bl true) g1)(h2:b σ g1=R):mAnd a b σ g=R:=by rw[Qms,h1];exact h2
theorem QlL(h1:a σ g=.ok (.bl false) g1):mAnd a b σ g=.ok (.bl false) g1:=by rw[Qms,h1];rfl
theorem Qcj(h1:a σ g=.ok true g1):mOrT a b σ g=.ok true g1:=by rw[Qhp,h1];rfl
theorem Y6(h1:a σ g=.ok false g1)(h2:b σ g1=R):mOrT a b σ g=R:=by rw[Qhp,h1];exact h2
theorem QC(h1:a σ g=.ok (.bl x) g1):Q9 (Ql a) σ g=.ok (!x) g1:=by rw[Qka,QnH,h1]
theorem QnP(h:tyOf g d=some t)(k:Keeps [] g g1):tyOf g1 d=some t:=by
 cases d with
 |ref n=>
  unfold tyOf at h ⊢;dsimp only at h ⊢;cases hg:g[n]? with
  |none=>rw[hg]at h;cases h|some o=>rw[k.at' n o (by simp) hg];rw[hg]at h;exact h
 |_=>exact h
theorem Qgp(h:tyOf g d=some t)(ht:t≠.tuple):Qbu .tuple d g=.ok (.bl false) g:=by unfold Qbu;rw[h];cases t<;>first|rfl|exact absurd rfl ht
def noT(g:G)(d:D):Prop:=∃t,tyOf g d=some t/\t≠.tuple
theorem noT.keep(h:noT g d)(k:Keeps [] g g1):noT g1 d:=let ⟨t,a,b⟩:=h;⟨t,QnP a k,b⟩
def Zw(W m:Int):D->Bool
 |.tup ds=>((ds.length:Int)==W)&&ds.all λx=>Z7 x m
 |_=>false
def gOk(g:G):D->Prop
 |.tup ds=>(∀x∈ds,QdG x=true)/\ds.length<=1000|d=>noT g d
theorem gOk.keep(h:gOk g d)(k:Keeps [] g g1):gOk g1 d:=by
 cases d with
 |tup ds=>exact h|_=>exact noT.keep h k
theorem QbH(h:gOk g d):∃g',Yy [d,.int W,.int m] g=.ok (.bl (Zw W m d)) g'/\Keeps [] g g':=by
 have no:noT g d->Zw W m d=false->∃g',Yy [d,.int W,.int m] g=.ok (.bl (Zw W m d)) g'/\Keeps [] g g':=λ⟨t,ht,hn⟩ e=>by rw[e];exact⟨g,Qu rfl (QX (QlL (QY (x:=d) (g1:=g) rfl (Qgp ht hn)))),.refl⟩
 cases d with
 |tup ds=>
  obtain⟨g',e,k⟩:=Qkv (a:=mVar 0) (e:=Qn Q0 (Qa (mVar 0) (Qa (mVar 1) mNil))) (cap:=[2]) (σ:=[some (.tup ds),vI W,vI m]) (σc:=[vI m]) (g:=g) (b:=false) (ds:=ds) (λx=>Z7 x m) rfl rfl (Ue h.2 (by decide)) rfl λx hx g1 _=>by obtain⟨t,ht⟩:=Qhn g1 (h.1 x hx);exact⟨g1,JM x m g1 t ht (h.1 x hx),.refl⟩
  cases hl:((ds.length:Int)==W) with
  |true=>exact⟨g',Qu rfl (QX (Qie (g1:=g) rfl (Qie (g1:=g) (by rw[<-hl];rfl) (e.trans (by unfold Zw;dsimp only;rw[hl];rfl))))),k⟩|false=>exact⟨g,Qu rfl (QX (Qie (g1:=g) rfl ((QlL (g1:=g) (by rw[<-hl];rfl)).trans (by unfold Zw;dsimp only;rw[hl];rfl)))),.refl⟩
 |_=>exact no h rfl
theorem Qkw(hM:g[M]?=some (Y4 rows))(ht:Tb rows n m):JJ [.ref M] g=.ok (.int n) g:=by refine Qu rfl (QX (QY (x:=.tup (rows.map .tup)) (g1:=g) (Z0 (n:=M) rfl hM (by decide) lk1) ?_));show Res.ok (D.int (rows.map D.tup).length) g=_;rw[Ub,ht.ln]
theorem Qhx(hM:g[M]?=some (Y4 rows))(ht:Tb rows n m)(hn:1<=n):QS [.ref M] g=.ok (.int m) g:=by obtain⟨r,hr⟩:∃r,rows[0]?=some r:=⟨_,UV (by have:=ht.ln;omega)⟩;refine Qu rfl (QX (QY (x:=.tup r) (g1:=g) (Qk (x:=.tup (rows.map .tup)) (y:=.int (0:Nat)) (Z0 (n:=M) rfl hM (by decide) lk1) rfl (ix_tup (n:=0) (by rw[UK,hr];rfl))) ?_));show Res.ok (D.int r.length) g=_;rw[ht.lm r (UR hr)]
end L3
namespace L3
open PySem
def ctxB(W n m:Int):D->Bool
 |.tup [l,p,q,r]=>Z7 p n&&Z7 q m&&Zw W m l&&Zw W m r|_=>false
def cOk(g:G):D->Prop
 |.tup [l,p,q,r]=>gOk g l/\QdG p=true/\QdG q=true/\gOk g r|.tup _=>True|d=>noT g d
theorem cOk.keep(h:cOk g d)(k:Keeps [] g g1):cOk g1 d:=by
 cases d with
 |tup ds=>
  rcases ds with _|⟨l,_|⟨p,_|⟨q,_|⟨r,_|⟨z,ds⟩⟩⟩⟩⟩<;>try trivial
  exact⟨h.1.keep k,h.2.1,h.2.2.1,h.2.2.2.keep k⟩
 |_=>exact noT.keep h k
theorem QdJ(hx:QdG x=true)(ha:a σ g=.ok x g)(hc:c σ g=.ok (.int N) g):Qn Q0 (Qa a (Qa c mNil)) σ g=.ok (.bl (Z7 x N)) g:=by obtain⟨t,ht⟩:=Qhn g hx;rw[Qp (Qd ha (Qd hc rfl)),JM x N g t ht hx]
theorem Qew(hM:g[M]?=some (Y4 rows))(ht:Tb rows n m)(hn:1<=n)(h:cOk g d):∃g',ZA [d,.int W,.ref M] g=.ok (.bl (ctxB W n m d)) g'/\Keeps [] g g':=by
 have fst:∀{d:D},ctxB W n m d=false->mOrT (Q9 (Ql (mOp1 (Qbu .tuple) (mVar 0)))) (Ql (mOp2 pNe (mOp1 pLen (mVar 0)) (mI 4))) [some d,vI W,vR M] g=.ok true g->∃g',ZA [d,.int W,.ref M] g=.ok (.bl (ctxB W n m d)) g'/\Keeps [] g g':=λ{d} e h=>by rw[e];exact⟨g,Qu rfl (Zl (ift g h rfl)),.refl⟩
 have no:noT g d->ctxB W n m d=false->∃g',ZA [d,.int W,.ref M] g=.ok (.bl (ctxB W n m d)) g'/\Keeps [] g g':=λ⟨t,ht,hn⟩ e=>fst e (Qcj (QC (x:=false) (QY (x:=d) (g1:=g) rfl (Qgp ht hn))));cases d with
 |tup ds=>
  rcases ds with _|⟨l,_|⟨p,_|⟨q,_|⟨r,_|⟨z,ds⟩⟩⟩⟩⟩
  ·exact fst rfl rfl
  ·exact fst rfl rfl
  ·exact fst rfl rfl
  ·exact fst rfl rfl
  ·obtain⟨h1,h2,h3,h4⟩:=h;have st:∀{i:Nat},Qn JJ (Qa (mVar 2) mNil) [some (D.tup [l,p,q,r]),vI W,vR M] g=.ok (.int n) g:=(Qp rfl).trans (Qkw hM ht);have sg:∀{g1:G},Keeps [] g g1->Qn QS (Qa (mVar 2) mNil) [some (D.tup [l,p,q,r]),vI W,vR M] g1=.ok (.int m) g1:=λk=>(Qp rfl).trans (Qhx (k.at' M _ (by simp) hM) ht hn);have b1:=QdJ (a:=mOp2 pIx (mVar 0) (mI 1)) h2 (by simp) (st (i:=0));have b2:=QdJ (a:=mOp2 pIx (mVar 0) (mI 2)) h3 (by simp) (sg .refl);cases x1:Z7 p n with
   |false =>rw[show ctxB W n m (.tup [l,p,q,r])=false by simp[ctxB,x1]];exact⟨g,Qu rfl (Qf _ g (iff' g rfl rfl) (Zl (ift g (Qcj (QC (x:=false) (by rw[<-x1];exact b1))) rfl))),.refl⟩|true=>
    rw[x1]at b1;cases x2:Z7 q m with
    |false =>rw[show ctxB W n m (.tup [l,p,q,r])=false by simp[ctxB,x2]];exact⟨g,Qu rfl (Qf _ g (iff' g rfl rfl) (Zl (ift g (Y6 (QC b1) (QC (x:=false) (by rw[<-x2];exact b2))) rfl))),.refl⟩|true=>
     rw[x2]at b2;obtain⟨g1,e1,k1⟩:=QbH (W:=W) (m:=m) h1;have c1:Qn Yy (Qa (mOp2 pIx (mVar 0) (mI 0)) (Qa (mVar 1) (Qa (Qn QS (Qa (mVar 2) mNil)) mNil))) [some (D.tup [l,p,q,r]),vI W,vR M] g=_:=(Qp (Qd (x:=l) (g1:=g) (by simp) (Qd (x:=.int W) (g1:=g) rfl (Qd (sg .refl) rfl)))).trans e1;cases x3:Zw W m l with
     |false =>rw[show ctxB W n m (.tup [l,p,q,r])=false by simp[ctxB,x3]];exact⟨g1,Qu rfl (Qf _ g (iff' g rfl rfl) (Qf _ g (iff' g (Qj7 (Qz b1) (Qz b2)) rfl) (QX (QlL (by rw[<-x3];exact c1))))),k1⟩|true =>obtain⟨g2,e2,k2⟩:=QbH (W:=W) (m:=m) (h4.keep k1);rw[show ctxB W n m (.tup [l,p,q,r])=Zw W m r by simp[ctxB,x1,x2,x3]];exact⟨g2,Qu rfl (Qf _ g (iff' g rfl rfl) (Qf _ g (iff' g (Qj7 (Qz b1) (Qz b2)) rfl) (QX (Qie (by rw[<-x3];exact c1) ((Qp (Qd (x:=r) (g1:=g1) (by simp) (Qd (x:=.int W) (g1:=g1) rfl (Qd (sg k1) rfl)))).trans e2))))),k1.trans k2⟩
  ·refine fst rfl ?_;have e:Ql (mOp2 pNe (mOp1 pLen (mVar 0)) (mI 4)) [some (D.tup (l::p::q::r::z::ds)),vI W,vR M] g=.ok true g:=by refine Qz (Qk (x:=.int ((l::p::q::r::z::ds).length:Nat)) (y:=.int 4) (g1:=g) (g2:=g) rfl rfl ?_);rw[Qpz];congr 2
   exact Y6 (QC (x:=true) (g1:=g) rfl) e
 |_=>exact no h rfl
def ZK(g:G)(P:D->Bool)(x:D):Bool:=match QU g x with
 |some (_,ds)=>ds.all P|none=>false
def sOk(g:G)(ok:D->Prop)(x:D):Prop:=(∃b ds,QU g x=some (b,ds)/\(∀d∈ds,ok d)/\ds.length<=1000)\/x=.non
theorem Qkx(h:QU g x=some (b,ds)):Qb2 x g=.ok (.bl true) g:=by
 unfold QU at h;cases x with
 |ref n=>
  dsimp only at h;cases hg:g[n]? with
  |none=>rw[hg]at h;cases h|some o=>
   rw[hg]at h;cases o with
   |lst xs=>unfold Qb2 tyOf;dsimp only;rw[hg];rfl|_=>cases h
 |tup xs=>rfl|fl xs=>rfl|_=>cases h
theorem Jj(h:QU g x=some p)(k:Keeps [] g g1):QU g1 x=some p:=by
 cases x with
 |ref n=>
  unfold QU at h ⊢;dsimp only at h ⊢;cases hg:g[n]? with
  |none=>rw[hg]at h;cases h|some o=>rw[k.at' n o (by simp) hg];rw[hg]at h;exact h
 |_=>exact h
theorem Qky(P:D->Bool)(ha:a σ g=.ok x g)(hs:sOk g ok x)(hc:capt 1 cap σ=none::σc)(he:∀d,ok d->∀g1,Keeps [] g g1->∃g2,e (some d::σc) g1=.ok (.bl (P d)) g2/\Keeps [] g1 g2):∃g',mAnd (mOp1 Qb2 a) (mOp1 pAll (Za (Qt a) 1 cap (gSet 0) Zf e)) σ g=.ok (.bl (ZK g P x)) g'/\Keeps [] g g':=by
 rcases hs with⟨b,ds,h1,h2,h3⟩|rfl
 ·obtain⟨g',e1,k⟩:=Qkv P ha h1 (Ue h3 (by decide)) hc λd hd=>he d (h2 d hd);refine⟨g',Qie (QY ha (Qkx h1)) ?_,k⟩;rw[e1];unfold ZK;rw[h1]
 ·exact⟨g,QlL (QY ha rfl),.refl⟩
theorem Qcb(hs:sOk g (gOk g) x):∃g',ZB [x,.int W,.int m] g=.ok (.bl (ZK g (Zw W m) x)) g'/\Keeps [] g g':=by obtain⟨g',e,k⟩:=Qky (a:=mVar 0) (e:=Qn Yy (Qa (mVar 0) (Qa (mVar 1) (Qa (mVar 2) mNil)))) (cap:=[1,2]) (σ:=[some x,vI W,vI m]) (σc:=[vI W,vI m]) (Zw W m) rfl hs rfl λd hd g1 k=>QbH (hd.keep k);exact⟨g',Qu rfl (QX e),k⟩
end L3
namespace L3
open PySem
def NoP(M:Nat)(g:G)(d:D):Prop:=∃g',ZC [.ref M,d] g=.ok (.bl false) g'/\Keeps [] g g'
theorem Qgq(h:mOrT (Q9 (Ql (mOp1 (Qbu .tuple) (mVar 1)))) (mOrT (Ql (mOp2 pNe (mOp1 pLen (mVar 1)) (mI 5))) (Ql (mOp2 pNe (mOp2 pIx (mVar 1) (mI 0)) (mLit (.str "wall"))))) [vR M,some d,none] g=.ok true g):NoP M g d:=⟨g,Qu rfl (Zl (ift g h rfl)),.refl⟩
theorem Qfz(h:noT g d):NoP M g d:=let ⟨_,a,b⟩:=h;Qgq (Qcj (QC (x:=false) (QY (x:=d) (g1:=g) rfl (Qgp a b))))
theorem QbI(h:ds.length≠5):NoP M g (.tup ds):=by refine Qgq (Y6 (QC (x:=true) (g1:=g) rfl) (Qcj (Qz (Qk (x:=.int (ds.length:Nat)) (y:=.int 5) (g1:=g) (g2:=g) rfl rfl ?_))));rw[Qpz];congr 2;simp;omega
theorem QlM(h:(s==Str.ofString "wall")=false):NoP M g (.tup [.str s,x,a,b,c]):=Qgq (Y6 (QC (x:=true) (g1:=g) rfl) (Y6 (g1:=g) rfl (Qz (by show Res.ok (D.bl (!(s==Str.ofString "wall"))) g=_;rw[h];rfl))))
theorem Qkz(W:Int)(g:G):Q7 [.int W] g=.ok (.bl (decide (0<=W))) g:=rfl
theorem Qbj{x a b c:D}{R:Out}(h:(mSeq (mIf (mOrT (Q9 (Ql (Qn Q7 (Qa (mVar 2) mNil)))) (Ql (mOp2 pLt (mVar 2) (mI 1)))) (mRet (mLit (.bl false))) Q5)
 (mSeq (mIf (mOrT (Q9 (Ql (Qn ZB (Qa (mOp2 pIx (mVar 1) (mI 2)) (Qa (mVar 2) (Qa (Qn QS (Qa (mVar 0) mNil)) mNil)))))) (Q9 (Ql (Qn ZB (Qa (mOp2 pIx (mVar 1) (mI 3)) (Qa (mVar 2) (Qa (Qn QS (Qa (mVar 0) mNil)) mNil))))))) (mRet (mLit (.bl false))) Q5)
 (mRet (mAnd (mOp1 Qb2 (mOp2 pIx (mVar 1) (mI 4))) (mOp1 pAll (Za (Qt (mOp2 pIx (mVar 1) (mI 4))) 1 [2,0] (gSet 0) Zf (Qn ZA (Qa (mVar 0) (Qa (mVar 1) (Qa (mVar 2) mNil)))))))))) [vR M,some (.tup [.str "wall",x,a,b,c]),some x] g=R):Qaa [vR M,some (.tup [.str "wall",x,a,b,c]),none] g=R:=by
 refine Qf _ g (iff' g (Y6 (QC (x:=true) (g1:=g) rfl) (Y6 (g1:=g) rfl (Qz ?_))) rfl) (Qf _ g (Qq (d:=x) (g':=g) rfl) h);show Res.ok (D.bl (!(Str.ofString "wall"==Str.ofString "wall"))) g=_;rw[show(Str.ofString "wall"==Str.ofString "wall")=true by simp];rfl
theorem QlN  : NoP M g (.tup [.str "wall",.bl y,a,b,c]):=⟨g,Qu rfl (Qbj (Zl (ift g (Qcj (QC (x:=false) (g1:=g) rfl)) rfl))),.refl⟩
theorem QlO:NoP M g (QA 0 a b c):=⟨g,Qu rfl (Qbj (Zl (ift g (Y6 (QC (x:=true) (g1:=g) rfl) rfl) rfl))),.refl⟩
theorem sOk.up{ok:G->D->Prop}{x:D}(h:sOk g (ok g) x)(hk:∀{d:D},ok g d->ok g1 d)(k:Keeps [] g g1):sOk g1 (ok g1) x:=by
 rcases h with⟨b,ds,h1,h2,h3⟩|h
 ·exact .inl ⟨b,ds,Jj h1 k,λd hd=>hk (h2 d hd),h3⟩
 ·exact .inr h
theorem sOk.all(h:sOk g ok x)(k:Keeps [] g g1)(P:D->Bool):ZK g1 P x=ZK g P x:=by
 rcases h with⟨b,ds,h1,h2,h3⟩|rfl
 ·unfold ZK;rw[h1,Jj h1 k]
 ·rfl
theorem QkA(hM:g[M]?=some (Y4 rows))(ht:Tb rows n m)(hn:1<=n)(hW:1<=W)(ha:sOk g (gOk g) a)(hb:sOk g (gOk g) b)(hc:sOk g (cOk g) c):
  ∃g',ZC [.ref M,QA W a b c] g=.ok (.bl (ZK g (Zw W m) a&&ZK g (Zw W m) b&&ZK g (ctxB W n m) c)) g'/\Keeps [] g g':=by
 have w1:mOrT (Q9 (Ql (Qn Q7 (Qa (mVar 2) mNil)))) (Ql (mOp2 pLt (mVar 2) (mI 1))) [vR M,some (QA W a b c),vI W] g=.ok false g:=Qpv (QC (x:=true) (by show Q7 [.int W] g=_;rw[Qkz,UB (by omega)])) (Qz (Qk (x:=.int W) (y:=.int 1) (g1:=g) (g2:=g) rfl rfl (by rw[Qpy,Uu (by omega)])));have sg:∀{g1:G},Keeps [] g g1->Qn QS (Qa (mVar 0) mNil) [vR M,some (QA W a b c),vI W] g1=.ok (.int m) g1:=λk=>(Qp rfl).trans (Qhx (k.at' M _ (by simp) hM) ht hn);obtain⟨g1,e1,k1⟩:=Qcb (W:=W) (m:=m) ha;have c1:Qn ZB (Qa (mOp2 pIx (mVar 1) (mI 2)) (Qa (mVar 2) (Qa (Qn QS (Qa (mVar 0) mNil)) mNil))) [vR M,some (QA W a b c),vI W] g=_:=(Qp (Qd (x:=a) (g1:=g) (by simp) (Qd (x:=.int W) (g1:=g) rfl (Qd (sg .refl) rfl)))).trans e1;cases x1:ZK g (Zw W m) a with
 |false =>rw[x1]at c1;exact⟨g1,Qu rfl (Qbj (Qf _ g (iff' g w1 rfl) (Zl (ift g1 (Qcj (QC c1)) rfl)))),k1⟩|true=>
  rw[x1]at c1;obtain⟨g2,e2,k2⟩:=Qcb (W:=W) (m:=m) (hb.up (λh=>h.keep k1) k1);rw[hb.all k1]at e2;have c2:Qn ZB (Qa (mOp2 pIx (mVar 1) (mI 3)) (Qa (mVar 2) (Qa (Qn QS (Qa (mVar 0) mNil)) mNil))) [vR M,some (QA W a b c),vI W] g1=_:=(Qp (Qd (x:=b) (g1:=g1) (by simp) (Qd (x:=.int W) (g1:=g1) rfl (Qd (sg k1) rfl)))).trans e2;cases x2:ZK g (Zw W m) b with
  |false =>rw[x2]at c2;exact⟨g2,Qu rfl (Qbj (Qf _ g (iff' g w1 rfl) (Zl (ift g2 (Y6 (QC c1) (QC c2)) rfl)))),k1.trans k2⟩|true =>rw[x2]at c2;have k12:=k1.trans k2;have hM2:=k12.at' M _ (by simp) hM;obtain⟨g3,e3,k3⟩:=Qky (g:=g2) (a:=mOp2 pIx (mVar 1) (mI 4)) (e:=Qn ZA (Qa (mVar 0) (Qa (mVar 1) (Qa (mVar 2) mNil)))) (cap:=[2,0]) (σ:=[vR M,some (QA W a b c),vI W]) (σc:=[vI W,vR M]) (ctxB W n m) (by simp;exact ix_tup (n:=4) rfl) (hc.up (λh=>h.keep k12) k12) rfl λd hd g3 k=>Qew (k.at' M _ (by simp) hM2) ht hn (hd.keep k);rw[hc.all k12]at e3;exact⟨g3,Qu rfl (Qbj (Qf _ g (iff' g w1 rfl) (Qf _ g2 (iff' g2 (Qj7 (Qz c1) (Qz c2)) rfl) (QX e3)))),k12.trans k3⟩
end L3
namespace L3
open PySem
def cont(us:List (List Int))(k:List Int):List (List Int):=us.filter λu=>decide (u.dropLast=k)
structure Gr(N:Nat)(g:G)(us ks:List (List Int))(adr:List Int->Nat):Prop where
 o:g[N]?=some (.ins 14 (grF (N+1)))
 d:g[N+1]?=some (.dcn false (ks.map λk=>(.inl k,.ref (adr k))))
 l:∀k∈ks,g[adr k]?=some (.lst ((cont us k).map gmD))
 ge:∀k∈ks,N+2<=adr k
 inj:∀k∈ks,∀k'∈ks,adr k=adr k'->k=k'
 all:∀u∈us,u.dropLast∈ks
theorem Gr.keep(h:Gr N g us ks adr)(k:Keeps [] g g1):Gr N g1 us ks adr:=⟨k.at' _ _ (by simp) h.o,k.at' _ _ (by simp) h.d,λx hx=>k.at' _ _ (by simp) (h.l x hx),h.ge,h.inj,h.all⟩
theorem Qhy(h:Gr N g us ks adr)(hk:k∉ks):cont us k=[]:=Rk.mpr λu hu z=>hk (UO z ▸ h.all u hu)
theorem QkB(h:Gr N g us ks adr)(hv:σ[i]?=some (vR N)):QH [14] "by_seen" (mVar i) σ g=.ok (.ref (N+1)) g:=Z0 (ZG hv) h.o (by decide) lk1
theorem QmB(h:Gr N g us ks adr)(k:List Int):∃a,QF [.ref N,gmD k] g=.ok (.ref a) (g++[.lst []])/\(g++[GO.lst []])[a]?=some (.lst ((cont us k).map gmD)):=by
 have hp:=h.keep (.push (.lst []));have e1:=QaC (σ:=[vR N,vM k]) (f:=λ_ _ ks k z g=>.ok ((nGet ks k).getD z) g) (QkB h (i:=0) rfl) h.d (k:=mVar 1) rfl Qai hp.d (sk_g k);rw[Qbe]at e1;by_cases hk:k∈ks
 ·rw[Uj hk]at e1;exact⟨_,Qu rfl (QX e1),hp.l k hk⟩
 ·rw[Uo hk]at e1;exact⟨_,Qu rfl (QX e1),by rw[Qo,Qhy h hk];rfl⟩
theorem QmC(h:Gr N g us ks adr)(u:List Int):QO [.ref N,gmD u] g=.ok (.bl (decide (u∈us))) (g++[.lst []]):=by
 obtain⟨a,h1,h2⟩:=QmB h u.dropLast;refine Qu rfl (QX (Qk (x:=gmD u) (y:=.ref a) (g1:=g) rfl ((QT (n:=N) (g1:=g) (xs:=[gmD u.dropLast]) (g2:=g) rfl h.o (Qfr _) ?_).trans h1) ?_))
 ·simp only[QbG,Zq,Q4,ZZ,QcZ];exact TV (λr=>match r with|Res.ok x g1=>Res.ok [x] g1 | .raise e g'=>.raise e g' | .stuck=>.stuck) (Qag u g)
 ·unfold pInG;rw[sk_g];dsimp only;rw[h2];dsimp only;rw[Qc1];dsimp only;rw[Qes];congr 2;exact U4.mpr (by simp[cont])
theorem QfA:cont (us++[u]) k=if u.dropLast=k then cont us k++[u] else cont us k:=by
 unfold cont;rw[T1];split
 ·next e=>simp[e]
 ·next e=>simp[e]
theorem QpE(h:Gr N g us ks adr)(hz:ks.length<=1000)(hl:us.length<=1000)(u:List Int):∃g' vs ks' adr',Zc [.ref N,gmD u] g=.ok .non g'/\Gr N g' vs ks' adr'/\(∀v,v∈vs↔v∈us\/v=u)/\vs.length<=us.length+1/\ks'.length<=ks.length+1/\KeepsN N [] g g':=by
 have h1:=h.keep (.push (.lst []));have e2:ZW 14 (Str.ofString "has") QO (mVar 0) (Qa (mVar 1) mNil) [vR N,vM u] g=.ok (.bl (decide (u∈us))) (g++[.lst []]):=(QT (n:=N) (g1:=g) (xs:=[gmD u]) (g2:=g) rfl h.o (Qfs _) rfl).trans (QmC h u);have kp:KeepsN N [] g (g++[GO.lst []]):=(Keeps.push (S:=[]) _).n (by simp);by_cases hu:u∈us
 ·rw[UB hu]at e2;exact⟨_,us,ks,adr,Qbc (σ:=[vR N,vM u]) rfl (iff' _ (QC e2) rfl),h1,λv=>⟨.inl,λz=>z.elim id λz=>z ▸ hu⟩,by omega,by omega,kp⟩
 rw[Uu hu]at e2;have h2:=h1.keep (.push (.lst []));have lN:N+1<g.length:=Qy h.d;have sd:=QaC (σ:=[vR N,vM u]) (f:=λn τ ks k z g=>if ks.length<SZ then (match nGet ks k with|some v=>.ok v g|none=>.ok z (g.set n (.dcn τ (ks++[(k,z)])))) else .stuck) (QkB h1 (i:=0) rfl) h1.d (k:=QI (mVar 1) Qw (Zh (mOp1 pNeg (mI 1)))) (by simp only[Zq,Q4,ZZ];exact Qag u _) Qai h2.d (sk_g u.dropLast);have sd:Jg (QH [14] "by_seen" (mVar 0)) (QI (mVar 1) Qw (Zh (mOp1 pNeg (mI 1)))) (mOpA newL mNil) [vR N,vM u] (g++[.lst []])=_:=sd;rw[Uj (by rw[Ub];exact Qdr hz),Qbe]at sd;have fin:∀{a:Nat}{g3:G}{ds:List D},Jg (QH [14] "by_seen" (mVar 0)) (QI (mVar 1) Qw (Zh (mOp1 pNeg (mI 1)))) (mOpA newL mNil) [vR N,vM u] (g++[.lst []])=.ok (.ref a) g3->g3[a]?=some (.lst ds)->ds.length<=1000->Zc [.ref N,gmD u] g=.ok .non (g3.set a (.lst (ds++[gmD u]))):=λh1 h2 h3=>Qbc (σ:=[vR N,vM u]) rfl (ift (g++[GO.lst []]) (QC e2) (Zs (d:=.non) (JC h1 h2 rfl h3)));have cl:((cont us u.dropLast).map gmD).length<=1000:=by rw[Ub];exact Ue (T3 ..) hl
 have mem:∀v,v∈us++[u]↔v∈us\/v=u:=λv=>by simp
 by_cases hk:u.dropLast∈ks
 ·rw[Uj hk]at sd;have gk:=h.ge _ hk;refine⟨_,us++[u],ks,adr,fin sd (h2.l _ hk) cl,⟨?_,?_,λk hk'=>?_,h.ge,h.inj,λv hv=>?_⟩,mem,by simp,by omega,kp.trans (((Keeps.push (S:=[]) _).n (by simp)).trans ((Keeps.set _ _).n λn hn=>(by rw[Uf.mp hn];omega)))⟩
  ·rw[Uc (by omega)];exact h2.o
  ·rw[Uc (by omega)];exact h2.d
  ·rw[QfA];by_cases e:u.dropLast=k
   ·rw[Uj e,<-e,Q6 (h2.l _ hk),Uz];rfl
   ·rw[Uo e,Uc λz=>e (h.inj _ hk _ hk' z)];exact h2.l k hk'
  ·rcases Uq.mp hv with z|z
   ·exact h.all v z
   ·rw[Uf.mp z];exact hk
 ·rw[Uo hk]at sd;have ln:(g++[GO.lst []]).length=g.length+1:=by simp
  rw[ln]at sd;have new:((g++[GO.lst []]++[GO.lst []]).set (N+1) (.dcn false ((ks.map λk=>(Sum.inl k,D.ref (adr k)))++[(.inl u.dropLast,.ref (g.length+1))])))[g.length+1]?=some (.lst []):=by rw[Uc (by omega),<-ln];exact Qo _
  have old:∀k∈ks,adr k<g.length+1:=λk hk=>by have:=Qy (h.l k hk);omega
  refine⟨_,us++[u],ks++[u.dropLast],λk=>if k=u.dropLast then g.length+1 else adr k,fin sd new (by decide),⟨?_,?_,λk hk'=>?_,λk hk'=>?_,λk hk1 k' hk2 z=>?_,λv hv=>?_⟩,mem,by simp,by simp,kp.trans (((Keeps.push (S:=[]) _).n (by simp)).trans (((Keeps.set _ _).n λn hn=>(by rw[Uf.mp hn];omega)).trans ((Keeps.set _ _).n λn hn=>(by rw[Uf.mp hn];omega))))⟩
  ·rw[Uc (by omega),Uc (by omega)];exact h2.o
  ·rw[Uc (by omega),Q6 h2.d,Uz];have em:ks.map (λk=>((Sum.inl k:SKd),D.ref (if k=u.dropLast then g.length+1 else adr k)))=ks.map λk=>(.inl k,.ref (adr k)):=Rf λk hk'=>by rw[Uo λz:k=u.dropLast=>hk (z ▸ hk')]
   rw[em];simp
  ·rw[QfA];by_cases e:u.dropLast=k
   ·rw[Uj e,Uj e.symm,Q6 new,<-e,Qhy h hk];rfl
   ·have hk'':k∈ks:=(Uq.mp hk').elim id λz=>absurd (Uf.mp z).symm e;have:=old k hk'';have:=h.ge k hk'';rw[Uo e,Uo (Ne.symm e),Uc (by omega),Uc (by omega)];exact h2.l k hk''
  ·split
   ·omega
   ·next e=>exact h.ge k ((Uq.mp hk').elim id λz=>absurd (Uf.mp z) e)
  ·have mm:∀{k},k∈ks++[u.dropLast]->k≠u.dropLast->k∈ks:=λhk e=>(Uq.mp hk).elim id λz=>absurd (Uf.mp z) e;split at z
   ·next e=>
    split at z
    ·next e'=>rw[e,e']
    ·next e'=>have:=old k' (mm hk2 e');omega
   ·next e=>
    split at z
    ·have:=old k (mm hk1 e);omega
    ·next e'=>exact h.inj k (mm hk1 e) k' (mm hk2 e') z
  ·rcases Uq.mp hv with z|z
   ·exact TH _ (h.all v z)
   ·rw[Uf.mp z];simp
theorem QfB{x:D}{us:List (List Int)}(hs:QU g x=some (b,us.map gmD))(hz:us.length<=1000):∃g' vs ks adr,Q8 [x] g=.ok (.ref g.length) g'/\Gr g.length g' vs ks adr/\(∀u,u∈vs↔u∈us)/\vs.length<=us.length/\Keeps [] g g':=by
 have e1:QaO 14 Yz mNil [some x,none,none] g=.ok (.ref g.length) (g++[.ins 14 (grF (g.length+1)),.dcn false []]):=by unfold QaO;rw[show mNil [some x,none,none] g=.ok [] g from rfl,Res.bind_ok,Qbh,Res.bind_ok]
 have k1:Keeps [] g (g++[.ins 14 (grF (g.length+1)),.dcn false []]):=⟨by simp,λn o _ e=>by rw[Ui (Qy e)];exact e⟩;obtain⟨src,s1,s2,s3⟩:=Qc8 hs k1;rw[Ub]at s2;obtain⟨σ',g',e2,vs,ks,adr,x2,h1,h2,h3,h4,h5,h6⟩:=Qem (t:=gSet 2) (body:=JK) (n:=us.length) (σ:=[some x,vR g.length,none]) (g:=g++[.ins 14 (grF (g.length+1)),.dcn false []]) (src:=src) s2 (λi σ' g'=>∃vs ks adr x2,σ'=[some x,vR g.length,x2]/\Gr g.length g' vs ks adr/\(∀u,u∈vs↔u∈us.take i)/\vs.length<=i/\ks.length<=i/\Keeps [] g g')
  ⟨[],[],λ_=>0,none,rfl,⟨get0,getx rfl,λ_ h=>(by cases h),λ_ h=>(by cases h),λ_ h=>(by cases h),λ_ h=>(by cases h)⟩,λu=>by simp,by simp,by simp,k1⟩ (λi σ' g' hi hh=>by
   obtain⟨vs,ks,adr,x2,h1,h2,h3,h4,h5,h6⟩:=hh;subst h1;obtain⟨g2,vs',ks',adr',a1,a2,a3,a4,a5,a6⟩:=QpE h2 (by omega) (by omega) us[i];exact⟨gmD us[i],_,[some x,vR g.length,vM us[i]],g2,by rw[s3 _ _ h6];simp[hi],rfl,Zs (d:=.non) ((QT (n:=g.length) (g1:=g') (xs:=[gmD us[i]]) (g2:=g') rfl h2.o (Qkf _) rfl).trans a1),vs',ks',adr',vM us[i],rfl,a2,λu=>by rw[a3,h3,YD (UV hi),Uq,Uf],by omega,by omega,((h6.n (by simp)).trans a6).keeps⟩) (λσ g2 hh=>by
   obtain⟨_,_,_,_,_,_,_,_,_,h6⟩:=hh;rw[s3 _ _ h6];simp)
 subst h1;rw[U5]at h3;refine⟨g',vs,ks,adr,Qu rfl ?_,h2,h3,h4,h6⟩;show Jy [some x,none,none] g=_;unfold Jy;exact Qf [some x,vR g.length,none] _ (Qq e1) (Qf _ g' ((JB (src:=src) (by unfold Qt;rw[show mVar 0 [some x,vR g.length,none] (g++[.ins 14 (grF (g.length+1)),.dcn false []])=.ok x _ from rfl,Res.bind_ok,s1])).trans e2) rfl)
end L3
namespace L3
open PySem
def Sds(g:G)(t:Nat)(sd:Bool->List (List Int)):Prop:=∃ad:Bool->Nat,g[t]?=some (.dct (twoD (ad false) (ad true)))/\∀y,∃ks adr,Gr (ad y) g (sd y) ks adr
theorem Sds.keep(h:Sds g t sd)(k:Keeps [] g g1):Sds g1 t sd:=let ⟨ad,h1,h2⟩:=h;⟨ad,k.at' _ _ (by simp) h1,λy=>let ⟨ks,adr,h3⟩:=h2 y;⟨ks,adr,h3.keep k⟩⟩
theorem QpF{ad:Bool->Nat}{a b:ME}{y:Bool}(h:g[t]?=some (.dct (twoD (ad false) (ad true))))(ha:a σ g=.ok (.ref t) g)(hb:b σ g=.ok (.str (wS y)) g):mOp2 Ym a b σ g=.ok (.ref (ad y)) g:=by refine Qk ha hb ((Qc5 h).trans ?_);cases y<;>rfl
theorem Qgr(h:Sds g t sd)(ha:a σ g=.ok (.ref t) g)(hb:b σ g=.ok (.str (wS y)) g)(he:e σ g=.ok (gmD u) g):ZW 14 (Str.ofString "has") QO (mOp2 Ym a b) (Qa e mNil) σ g=.ok (.bl (decide (u∈sd y))) (g++[.lst []]):=by obtain⟨ad,h1,h2⟩:=h;obtain⟨ks,adr,h3⟩:=h2 y;exact(QT (n:=ad y) (g1:=g) (xs:=[gmD u]) (g2:=g) (QpF h1 ha hb) h3.o (Qfs _) (Qd he rfl)).trans (QmC h3 u)
theorem QnQ(h:Sds g t sd)(ha:a σ g=.ok (.ref t) g)(hb:b σ g=.ok (.str (wS y)) g)(he:e σ g=.ok (gmD u) g):∃r,ZW 14 (Str.ofString "beginning") QF (mOp2 Ym a b) (Qa e mNil) σ g=.ok (.ref r) (g++[.lst []])/\(g++[GO.lst []])[r]?=some (.lst ((cont (sd y) u).map gmD)):=by obtain⟨ad,h1,h2⟩:=h;obtain⟨ks,adr,h3⟩:=h2 y;obtain⟨r,h4,h5⟩:=QmB h3 u;exact⟨r,(QT (n:=ad y) (g1:=g) (xs:=[gmD u]) (g2:=g) (QpF h1 ha hb) h3.o (Qfr _) (Qd he rfl)).trans h4,h5⟩
def JP(T:TT3)(sd:Bool->List (List Int))(cs:List Ct)(c:Ct):Bool:=match T c.2.1 c.2.2.1 with
 |none=>false|some (i,b,j)=>decide (bhd b c∈sd (!b))&&(cont (sd b) (ahd b c).tail).all λu=>decide (nxC i b j c u∈cs)
def dcsD(cs:List Ct):List (SKd×D):=cs.map λc=>(.inr c,.bl true)
theorem Qgs(hM:g[M]?=some (Y4 rows))(ht:Tb rows n m)(hw:1<=w)(hw2:w<=100)(okc:okC w n m c)(hs:Sds g t sd)(hl:∀y,(sd y).length<=1000)(hq:g[q]?=some (.dcf true (dcsD cs))):
  ∃g',QaA [.ref M,.ref t,.ref q,ctD c] g=.ok (.bl (JP (TR rows) sd cs c)) g'/\Keeps [] g g':=by
 have e1:mAsg (gSet 4) (Qn Yo (Qa (mVar 0) (Qa (mVar 3) mNil))) [vR M,vR t,vR q,some (ctD c),none,none,none] g=.nx [vR M,vR t,vR q,some (ctD c),some (eAt rows c.2.1 c.2.2.1),none,none] g:=Qq ((Qp rfl).trans (JN hM ht okc));obtain⟨_,_,_,eo⟩:=ht.at' okc.2.1.1 okc.2.1.2 okc.2.2.1.1 okc.2.2.1.2;rcases eo.cases with⟨a1,a2⟩|⟨i,b,j,a1,a2,_⟩
 ·rw[show JP (TR rows) sd cs c=false by unfold JP TR;rw[a2]];rw[a1]at e1;exact⟨g,Qu rfl (Qf _ g e1 (Zl (ift g rfl rfl))),.refl⟩
 ·have hB:JP (TR rows) sd cs c=(decide (bhd b c∈sd (!b))&&(cont (sd b) (ahd b c).tail).all λu=>decide (nxC i b j c u∈cs)):=by unfold JP TR;rw[a2]
  rw[a1]at e1;rw[hB];have c3:∀{x5 x6:Option D}{g1:G},Qn Zp (Qa (mVar 4) (Qa (mVar 3) mNil)) [vR M,vR t,vR q,some (ctD c),some (enD i b j),x5,x6] g1=.ok (gmD (bhd b c)) g1:=(Qp rfl).trans (Qc2 ..);have c4:∀{x5 x6:Option D}{g1:G},QI (Qn ZD (Qa (mVar 4) (Qa (mVar 3) mNil))) (Zh (mI 1)) Qw [vR M,vR t,vR q,some (ctD c),some (enD i b j),x5,x6] g1=.ok (gmD (ahd b c).tail) g1:=λ{x5 x6 g1}=>by simp only[Zq,ZZ,Q4,Qb7];rw[Qp (ds:=[enD i b j,ctD c]) (g':=g1) rfl,Qep];exact Qeq _ _
  have c2:=Qgr (σ:=[vR M,vR t,vR q,some (ctD c),some (enD i b j),some (.str (wS b)),none]) (a:=mVar 1) (b:=Qn Yn (Qa (mVar 5) mNil)) hs rfl ((Qp rfl).trans (Qhq b g)) (c3 (g1:=g));cases x1:decide (bhd b c∈sd (!b)) with
  |false =>rw[x1]at c2;exact⟨_,Qu rfl (Qf _ g e1 (Qf _ g (iff' g rfl rfl) (Qf _ g (Qq (d:=.str (wS b)) (g':=g) rfl) (Zl (ift _ (QC c2) rfl))))),.push _⟩|true =>rw[x1]at c2;have k1:Keeps [] g (g++[GO.lst []]):=.push _;obtain⟨r,c5,c6⟩:=QnQ (σ:=[vR M,vR t,vR q,some (ctD c),some (enD i b j),some (.str (wS b)),none]) (a:=mVar 1) (b:=mVar 5) (hs.keep k1) rfl rfl c4;have k2:=k1.trans (Keeps.push (S:=[]) (GO.lst []));obtain⟨g',c7,k3⟩:=all_map (σ:=[vR M,vR t,vR q,some (ctD c),some (enD i b j),some (.str (wS b)),vR r]) (a:=mVar 6) (e:=mOp2 pInF (Qn QW (Qa (mVar 2) (Qa (mVar 3) (Qa (mVar 0) mNil)))) (mVar 1)) (cap:=[2,4,3]) (σc:=[vR q,some (enD i b j),some (ctD c)]) (λu=>decide (nxC i b j c u∈cs)) (g:=g++[GO.lst []]++[GO.lst []]) rfl (QB c6) (Ue (Ue (T3 ..) (hl b)) (by decide)) rfl λu hu g1 k=>⟨g1,by refine Qk (x:=ctD (nxC i b j c u)) (y:=.ref q) (g1:=g1) (g2:=g1) ((Qp rfl).trans (Qer i b j c u g1 hw hw2 okc)) rfl ?_;unfold pInF;dsimp only;rw[(k2.trans k).at' q _ (by simp) hq];dsimp only;rw[sk_c];dsimp only;rw[show nGet (dcsD cs) (.inr (nxC i b j c u))=_ from QaS];split<;>next h=>simp[h],.refl⟩;refine⟨g',Qu rfl (Qf _ g e1 (Qf _ g (iff' g rfl rfl) (Qf _ g (Qq (d:=.str (wS b)) (g':=g) rfl) (Qf _ _ (iff' _ (QC c2) rfl) (Qf _ _ (Qq c5) (QX ?_)))))),k2.trans k3⟩;rw[Bool.true_and];exact c7
end L3
namespace L3
open PySem
theorem Gr.set(h:Gr N g us ks adr)(hi:i<N)(o:GO):Gr N (g.set i o) us ks adr:=⟨by rw[Uc (by omega)];exact h.o,by rw[Uc (by omega)];exact h.d,λk hk=>by rw[Uc (by have:=h.ge k hk;omega)];exact h.l k hk,h.ge,h.inj,h.all⟩
theorem QkC{ea eb:ME}{x y:D}{us vs:List (List Int)}(ha:∀g1,ea σ g1=.ok x g1)(hb:∀g1,eb σ g1=.ok y g1)(hx:QU g x=some (p,us.map gmD))(hy:QU g y=some (p',vs.map gmD))(hu:us.length<=1000)(hv:vs.length<=1000):
  ∃g' sd,QaK (Qa (mLit (.str "l")) (Qa (Qn Q8 (Qa ea mNil)) (Qa (mLit (.str "r")) (Qa (Qn Q8 (Qa eb mNil)) mNil)))) σ g=.ok (.ref g.length) g'/\Sds g' g.length sd/\(∀u,u∈sd false↔u∈us)/\(∀u,u∈sd true↔u∈vs)/\(∀y,(sd y).length<=1000)/\Keeps [] g g':=by
 have k0:Keeps [] g (g++[GO.dct []]):=.push _;have l0:(g++[GO.dct []]).length=g.length+1:=by simp
 obtain⟨g1,us',ks1,ad1,e1,r1,m1,n1,k1⟩:=QfB (Jj hx k0) hu;obtain⟨g2,vs',ks2,ad2,e2,r2,m2,n2,k2⟩:=QfB (Jj hy (k0.trans k1)) hv;have hd:g2[g.length]?=some (.dct []):=(k1.trans k2).at' _ _ (by simp) (Qo _);have l1:=k1.len;refine⟨g2.set g.length (.dct (twoD (g++[GO.dct []]).length g1.length)),λy=>if y=true then vs' else us',?_,⟨λy=>if y=true then g1.length else (g++[GO.dct []]).length,?_,λy=>?_⟩,m1,m2,λy=>?_,⟨?_,λi o hi e=>?_⟩⟩
 ·unfold QaK;rw[Qd Qid (Qd ((Qp (Qd (ha _) rfl)).trans e1) (Qd Qfx (Qd ((Qp (Qd (hb _) rfl)).trans e2) rfl))),Res.bind_ok];unfold Qh0;rw[show QcR [D.str (wS false),.ref (g++[GO.dct []]).length,.str (wS true),.ref g1.length]=some [(wS false,.ref (g++[GO.dct []]).length),(wS true,.ref g1.length)] from rfl,hd];show(if [(wS false,D.ref (g++[GO.dct []]).length),(wS true,.ref g1.length)].length<=15 then _ else _)=_;rw[Uj (by show 2<=15;decide),Qkm]
 ·exact Q6 hd
 ·cases y with
  |false=>exact⟨ks1,ad1,(r1.keep k2).set (by rw[l0];omega) _⟩|true=>exact⟨ks2,ad2,r2.set (by rw[l0]at l1;omega) _⟩
 ·cases y
  ·exact Ue n1 hu
  ·exact Ue n2 hv
 ·rw[UG];exact(k0.trans (k1.trans k2)).len
 ·have:=Qy e;rw[Uc (by omega)];exact(k0.trans (k1.trans k2)).at' i o hi e
theorem Qhz:∀cs:List Ct,Qa6 (cs.map λc=>.tup [ctD c,.bl true])=some (dcsD cs)
 |[]=>rfl|c::cs=>by rw[UC];unfold Qa6;rw[sk_c,Qhz cs];rfl
theorem QkD(cs:List Ct)(c:Ct):nPut (dcsD cs) (.inr c) (.bl true)=dcsD (if c∈cs then cs else cs++[c]):=by
 unfold nPut;rw[show nGet (dcsD cs) (.inr c)=_ from QaS];by_cases h:c∈cs
 ·rw[Uj h,Uj (show(some (D.bl true)).isSome=true from rfl),Uj h];unfold dcsD;rw[Ra];refine Rf λx _=>?_;show(if (Sum.inr x:SKd)=.inr c then ((Sum.inr x:SKd),D.bl true) else (.inr x,.bl true))=_;split<;>rfl
 ·rw[Uo h,Uo (by simp),Uo h];unfold dcsD;rw[Uz];rfl
theorem QhA:∀(cs acc:List Ct),∃cs',(dcsD cs).foldl (λks p=>nPut ks p.1 p.2) (dcsD acc)=dcsD cs'/\(∀c,c∈cs'↔c∈acc\/c∈cs)/\cs'.length<=acc.length+cs.length
 |[],acc=>⟨acc,rfl,λc=>by simp,by simp⟩|c::cs,acc=>by
  obtain⟨cs',h1,h2,h3⟩:=QhA cs (if c∈acc then acc else acc++[c]);refine⟨cs',?_,λx=>?_,?_⟩
  ·show(dcsD cs).foldl _ (nPut (dcsD acc) (.inr c) (.bl true))=_;rw[QkD];exact h1
  ·rw[h2];split
   ·next h=>simp only[Uv];exact⟨λz=>z.imp id .inr,λz=>z.elim .inl λz=>z.elim (λe=>.inl (e ▸ h)) .inr⟩
   ·simp only[Uq,Uv,U6,RA,or_assoc]
  ·split at h3
   ·simp only[Uy];omega
   ·simp only[Uh,Uy,Wo]at h3 ⊢;omega
theorem QnR{a:ME}{x:D}{cs:List Ct}(ha:a σ g=.ok x g)(hs:QU g x=some (b,cs.map ctD))(hz:cs.length<=1000):∃g' cs',mOp1 Qfi (Za (Qt a) 1 [] (gSet 0) Zf (mOpA pTup (Qa (mVar 0) (Qa (mLit (.bl true)) mNil)))) σ g=.ok (.ref g'.length) (g'++[.dcn true (dcsD cs')])/\(∀c,c∈cs'↔c∈cs)/\cs'.length<=cs.length/\Keeps [] g g':=by obtain⟨g',h1,h2⟩:=Qbi (F:=λc=>.tup [ctD c,.bl true]) (σc:=[]) (cap:=[]) (e:=mOpA pTup (Qa (mVar 0) (Qa (mLit (.bl true)) mNil))) ha hs (Ue hz (by decide)) rfl λc hc g1 k=>⟨g1,rfl,.refl⟩;obtain⟨cs',f1,f2,f3⟩:=QhA cs [];refine⟨g'++[.lst (cs.map λc=>.tup [ctD c,.bl true])],cs',QY h1 ?_,λc=>by rw[f2];simp,by simpa using f3,h2.trans (.push _)⟩;unfold Qfi;dsimp only;rw[Qo];dsimp only;rw[Qhz];dsimp only;rw[Uj (by unfold dcsD;rw[Ub];exact Ue hz (by decide)),show(dcsD cs).foldl (λks p=>nPut ks p.1 p.2) []=dcsD cs' from f1]
theorem QlP(P:Ct->Bool)(hv:σ[i]?=some (vR q))(hq:g[q]?=some (.dcn true (dcsD cs)))(hz:cs.length<=1000)(hc:capt 1 cap σ=none::σc)(he:∀c∈cs,∀g1,Keeps [] (g.set q (.dcf true (dcsD cs))) g1->∃g2,e (some (ctD c)::σc) g1=.ok (.bl (P c)) g2/\Keeps [] g1 g2):
  ∃g',mOp1 pAll (Qfh i 1 cap (gSet 0) Zf e) σ g=.ok (.bl (cs.all P)) g'/\Keeps [] g g':=by
 have ql:=Qy hq;have e1:mItN (mVar i) σ g=.ok ⟨λ_ i=>some (cs.map ctD)[i]?,cs.length⟩ (g.set q (.dcf true (dcsD cs))):=by unfold mItN QhZ;rw[ZG hv,Res.bind_ok];unfold QjL;dsimp only;rw[hq];dsimp only;unfold dcsD;rw[Ra,Ub];rfl
 obtain⟨xs,σ',g',h1,h2,h3,_⟩:=YB (src:=⟨λ_ i=>some (cs.map ctD)[i]?,cs.length⟩) (t:=gSet 0) (c:=Zf) (e:=e) (n:=cs.length)
  (λi σ' g1 acc=>acc=(cs.take i).map (λc=>.bl (P c))/\Keeps [] (g.set q (.dcf true (dcsD cs))) g1/\∃u,σ'=u::σc) (λi σ' g1 acc hi ⟨h1,h2,u,h3⟩=>by obtain⟨g2,k1,k2⟩:=he cs[i] (UY hi) g1 h2;subst h3;exact⟨ctD cs[i],some (ctD cs[i])::σc,g1,by simp[hi],rfl,.inl ⟨.bl (P cs[i]),g2,rfl,k1,by rw[h1,UW hi,Uz];rfl,h2.trans k2,_,rfl⟩⟩)
  (λσ g1 acc _=>by simp) (cs.length+1) 0 (none::σc) (g.set q (.dcf true (dcsD cs))) [] (by omega) (by omega) ⟨by simp,.refl,none,rfl⟩
 rw[h2,U5]at h1;have c1:=QbF (e:=e) (t:=gSet 0) (c:=Zf) e1 (Ue hz (by decide)) hc h1;have lg:=h3.len;rw[UG]at lg;have qF:(g'++[GO.lst (cs.map λc=>.bl (P c))])[q]?=some (.dcf true (dcsD cs)):=by rw[Ui (by omega)];exact h3.at' q _ (by simp) (Q6 hq)
 refine⟨(g'++[GO.lst (cs.map λc=>.bl (P c))]).set q (.dcn true (dcsD cs)),QY (x:=.ref g'.length) (g1:=(g'++[GO.lst (cs.map λc=>.bl (P c))]).set q (.dcn true (dcsD cs))) ?_ ?_,⟨by rw[UG,Uh];omega,λj o hj hg=>?_⟩⟩
 ·unfold Qfh;rw[ZG hv];dsimp only;rw[c1];dsimp only;rw[hq,qF]
 ·unfold pAll;dsimp only;rw[Uc (by omega),Qo];dsimp only;rw[Qcx]
 ·by_cases e:j=q
  ·subst e;rw[hq]at hg;cases hg;exact Q6 qF
  ·rw[Uc (Ne.symm e),Ui (by have:=Qy hg;omega)];exact h3.at' j o hj (by rw[Uc (Ne.symm e)];exact hg)
end L3
namespace L3
open PySem
def sdOf(us vs:List (List Int))(b:Bool):List (List Int):=if b=true then vs else us
def clB(T:TT3)(w:Nat)(us vs:List (List Int))(cs:List Ct):Bool:=decide (blG w∈us)&&(decide (blG w∈vs)&&(decide (c00 w∈cs)&&cs.all (JP T (sdOf us vs) cs)))
theorem QdK(h:∀y u,u∈sd y↔u∈sd' y)(hc:∀c,c∈cs↔c∈cs')(c:Ct):JP T sd cs c=JP T sd' cs' c:=by
 unfold JP;cases T c.2.1 c.2.2.1 with
 |none=>rfl|some e =>dsimp only;rw[Tk];simp only[US,TN,UL,cont,Tt,h,hc]
theorem QkE{cs cs':List α}{P:α->Bool}(hc:∀c,c∈cs↔c∈cs'):cs.all P=cs'.all P:=by rw[Tk];simp only[UL,hc]
theorem QlQ{us us' vs vs':List (List Int)}{cs cs':List Ct}(h1:∀u,u∈us↔u∈us')(h2:∀u,u∈vs↔u∈vs')(h3:∀c,c∈cs↔c∈cs'):clB T w us vs cs=clB T w us' vs' cs':=by unfold clB;rw[QkE h3,U4.mpr (h1 _),U4.mpr (h2 _),U4.mpr (h3 _)];congr 3;exact TV _ (funext λc=>QdK (λy u=>by cases y;exact h1 u;exact h2 u) h3 c)
theorem QbJ(h:okG w m u)(hw:w<=100):gOk g (gmD u):=⟨λx hx=>(by obtain⟨i,_,rfl⟩:=UE.mp hx;rfl),by rw[Ub,h.1];omega⟩
theorem gm_B(h:okG w m u):Zw w m (gmD u)=true:=by unfold Zw gmD;dsimp only;rw[US,UL];refine⟨by simp[h.1],λx hx=>?_⟩;obtain⟨i,hi,rfl⟩:=UE.mp hx;exact UB (h.2 i hi)
theorem QlR(h:okC w n m c)(hw:w<=100):cOk g (ctD c):=⟨QbJ h.1 hw,rfl,rfl,QbJ h.2.2.2 hw⟩
theorem ct_B(h:okC w n m c):ctxB w n m (ctD c)=true:=by show(decide _&&decide _&&_&&_)=true;rw[UB h.2.1,UB h.2.2.1,gm_B h.1,gm_B h.2.2.2];rfl
theorem Qex{us:List α}{f:α->D}{P:D->Bool}{x:D}(h:QU g x=some (b,us.map f))(hP:∀u∈us,P (f u)=true):ZK g P x=true:=by unfold ZK;rw[h];exact UL.mpr λd hd=>by obtain⟨u,hu,rfl⟩:=UE.mp hd;exact hP u hu
theorem Qc9{us:List α}{f:α->D}{ok:D->Prop}{x:D}(h:QU g x=some (b,us.map f))(ho:∀u∈us,ok (f u))(hz:us.length<=1000):sOk g ok x:=.inl ⟨b,_,h,λd hd=>(by obtain⟨u,hu,rfl⟩:=UE.mp hd;exact ho u hu),by rw[Ub];exact hz⟩
theorem QnS(h:QU g x=some (b,ds)):pLen x g=.ok (.int ds.length) g:=by
 unfold QU at h;cases x with
 |ref n=>
  dsimp only at h;cases hg:g[n]? with
  |none=>rw[hg]at h;cases h|some o=>
   rw[hg]at h;cases o with
   |lst xs=>cases h;exact Qbd hg|_=>cases h
 |tup xs=>cases h;rfl|fl xs=>cases h;rfl|_=>cases h
theorem QcA(hM:g[M]?=some (Y4 rows))(ht:Tb rows n m)(hn:1<=n)(hw:1<=w)(hw2:w<=100)(ok:okP w n m us vs cs){a b c:D}(ha:QU g a=some (xa,us.map gmD))(hb:QU g b=some (xb,vs.map gmD))(hc:QU g c=some (xc,cs.map ctD)):
  ∃g',YA [.ref M,QA w a b c] g=.ok (.bl (clB (TR rows) w us vs cs)) g'/\Keeps [] g g':=by
 have lu:=ok.lu;have lv:=ok.lv;have lc:=ok.lc;obtain⟨g1,e1,k1⟩:=QkA (W:=w) hM ht hn (by omega) (Qc9 ha (λu hu=>QbJ (ok.u u hu) hw2) (by omega)) (Qc9 hb (λu hu=>QbJ (ok.v u hu) hw2) (by omega)) (Qc9 hc (λu hu=>QlR (ok.c u hu) hw2) (by omega));rw[Qex ha λu hu=>gm_B (ok.u u hu),Qex hb λu hu=>gm_B (ok.v u hu),Qex hc λu hu=>ct_B (ok.c u hu)]at e1;have hc1:=Jj hc k1;have c1:Ql (mOp2 pEq (mOp1 pLen (mOp2 pIx (mVar 1) (mI 4))) (mI 0)) [vR M,some (QA w a b c),none,none,none] g1=.ok (decide (cs=[])) g1:=by
  refine Qz (Qk (x:=.int cs.length) (y:=.int 0) (g1:=g1) (g2:=g1) (QY (x:=c) (g1:=g1) (by simp;exact ix_tup (n:=4) rfl) (by rw[QnS hc1,Ub])) rfl ?_);rw[QqA];cases cs with
  |nil=>rfl|cons x cs=>congr 2
 have c0:Q9 (Ql (Qn ZC (Qa (mVar 0) (Qa (mVar 1) mNil)))) [vR M,some (QA w a b c),none,none,none] g=.ok false g1:=QC (x:=true) ((Qp rfl).trans e1);by_cases hne:cs=[]
 ·rw[UB hne]at c1;rw[show clB (TR rows) w us vs cs=false by rw[hne];simp[clB]];exact⟨g1,Qu rfl (Zl (ift g1 (Y6 c0 c1) rfl)),k1⟩
 rw[Uu hne]at c1;obtain⟨g2,sd,e2,s2,m1,m2,l2,k2⟩:=QkC (g:=g1) (σ:=[vR M,some (QA w a b c),vM (blG w),none,none]) (ea:=mOp2 pIx (mVar 1) (mI 2)) (eb:=mOp2 pIx (mVar 1) (mI 3)) (λg1=>by simp) (λg1=>by simp) (Jj ha k1) (Jj hb k1) (by omega) (by omega);obtain⟨g3,cs',e3,m3,l3,k3⟩:=QnR (g:=g2) (σ:=[vR M,some (QA w a b c),vM (blG w),vR g1.length,none]) (a:=mOp2 pIx (mVar 1) (mI 4)) (x:=c) (by simp;exact ix_tup (n:=4) rfl) (Jj hc1 k2) (by omega);have k4:Keeps [] g2 (g3++[.dcn true (dcsD cs')]):=k3.trans (.push _);generalize hg4:g3++[GO.dcn true (dcsD cs')]=g4 at k4 e3;have hq4:g4[g3.length]?=some (.dcn true (dcsD cs')):=by rw[<-hg4];exact Qo _
 have s4:=s2.keep k4;have h1:=Qgr (σ:=[vR M,some (QA w a b c),vM (blG w),vR g1.length,vR g3.length]) (a:=mVar 3) (b:=mLit (.str "l")) (e:=mVar 2) (u:=blG w) s4 rfl Qid rfl;have k5:Keeps [] g4 (g4++[GO.lst []]):=.push _;have h2:=Qgr (σ:=[vR M,some (QA w a b c),vM (blG w),vR g1.length,vR g3.length]) (a:=mVar 3) (b:=mLit (.str "r")) (e:=mVar 2) (u:=blG w) (s4.keep k5) rfl Qfx rfl;have k6:Keeps [] g4 (g4++[GO.lst []]++[GO.lst []]):=k5.trans (.push _);have hq6:=k6.at' _ _ (by simp) hq4;have h3:Ql (mOp2 ZX (mOpA pTup (Qa (mVar 2) (Qa (mI 0) (Qa (mI 0) (Qa (mVar 2) mNil))))) (mVar 4)) [vR M,some (QA w a b c),vM (blG w),vR g1.length,vR g3.length] (g4++[GO.lst []]++[GO.lst []])=.ok (!decide (c00 w∈cs)) (g4++[GO.lst []]++[GO.lst []]):=by refine Qz (Qk (x:=ctD (c00 w)) (y:=.ref g3.length) (g1:=g4++[GO.lst []]++[GO.lst []]) (g2:=g4++[GO.lst []]++[GO.lst []]) rfl rfl ?_);unfold ZX nAt;dsimp only;rw[hq6];dsimp only;rw[sk_c];dsimp only;have hm:decide (c00 w∈cs)=decide (c00 w∈cs'):=U4.mpr (m3 _).symm;rw[show nGet (dcsD cs') (.inr (c00 w))=_ from QaS,hm];split<;>next h=>simp[h]
 refine Exists.imp (λ_=>And.imp (λh=>Qu rfl (Qf _ g1 (iff' g1 (Qpv c0 c1) rfl) (Qf _ g1 (Qq (Qk (x:=.tup [.int 0]) (y:=.int w) (g1:=g1) (g2:=g1) rfl rfl (Qgn g1 hw hw2))) (Qf _ g2 (Qq e2) (Qf _ g4 (Qq e3) h))))) id) ?_;have kk:=(k1.trans k2).trans k4;unfold clB;rw[<-U4.mpr (m1 (blG w)),<-U4.mpr (m2 (blG w))];cases x1:decide (blG w∈sd false) with
 |false =>rw[x1]at h1;exact⟨_,Zl (ift _ (Qcj (QC h1)) rfl),kk.trans k5⟩|true=>
  rw[x1]at h1;cases x2:decide (blG w∈sd true) with
  |false =>rw[x2]at h2;exact⟨_,Zl (ift _ (Y6 (QC h1) (Qcj (QC h2))) rfl),kk.trans k6⟩|true=>
   rw[x2]at h2;cases x3:decide (c00 w∈cs) with
   |false =>rw[x3]at h3;exact⟨_,Zl (ift _ (Y6 (QC h1) (Y6 (QC h2) h3)) rfl),kk.trans k6⟩|true=>
    rw[x3]at h3;have lg:=k3.len;have kS:Keeps [] g2 ((g4++[GO.lst []]++[GO.lst []]).set g3.length (.dcf true (dcsD cs'))):=⟨by rw[UG];exact(k4.trans k6).len,λj o hj e=>by rw[Uc (by have:=Qy e;omega)];exact(k4.trans k6).at' j o hj e⟩;obtain⟨g8,e8,k8⟩:=QlP (σ:=[vR M,some (QA w a b c),vM (blG w),vR g1.length,vR g3.length]) (i:=4) (cap:=[0,3,4]) (σc:=[vR M,vR g1.length,vR g3.length]) (e:=Qn QaA (Qa (mVar 1) (Qa (mVar 2) (Qa (mVar 3) (Qa (mVar 0) mNil))))) (JP (TR rows) sd cs') rfl hq6 (by omega) rfl λx hx g7 k=>by exact Qgs (((k1.trans k2).trans (kS.trans k)).at' _ _ (by simp) hM) ht hw hw2 (ok.c x ((m3 x).mp hx)) (s2.keep (kS.trans k)) l2 (k.at' _ _ (by simp) (Q6 hq6))
    refine⟨g8,Qf _ _ (iff' _ (Y6 (QC h1) (Y6 (QC h2) h3)) rfl) (QX ?_),(kk.trans k6).trans k8⟩;refine e8.trans ?_;rw[QkE m3,show JP (TR rows) sd cs'=JP (TR rows) (sdOf us vs) cs from funext λx=>QdK (λy u=>by cases y;exact m1 u;exact m2 u) m3 x];rfl
end L3
namespace L3
open PySem
theorem Qda(f:Nat):∀u v:List Int,eqGs (eqI f) (u.map .int) (v.map .int)=some (decide (u=v))
 |[],[]=>rfl|[],_::_=>rfl|_::_,[]=>rfl|x::u,y::v=>by
  rw[UC,UC];unfold eqGs;rw[show eqI f (.int x) (.int y)=some (x==y) by cases f<;>rfl,Qda f u v];by_cases h:x=y
  ·subst h;simp
  ·simp[h]
theorem eq_g(u v:List Int)(g:G):pEq (gmD u) (gmD v) g=.ok (.bl (decide (u=v))) g:=by unfold pEq eqT gmD;dsimp only;rw[Qda]
theorem QmD(ha:a σ g=.ok (gmD u) g):QI a Qw (Zh (mOp2 pSub (mOp1 pLen a) (mI 1))) σ g=.ok (gmD u.dropLast) g:=by rw[Zq,ha];dsimp only;rw[Q4];dsimp only;rw[ZZ,Qk (QY ha (QqB u g)) (show mLit (.int 1) σ g=.ok (.int 1) g from rfl) Qpx];exact QlE u g
theorem Qey{a e:ME}{c:MT}{σ σc:S3}{g:G}{x:D}{b:Bool}{us:List α}{f F:α->D}{p:α->Bool}{cap:List Nat}(ha:a σ g=.ok x g)(hs:QU g x=some (b,us.map f))(hz:us.length<=SZ)(hc:capt 1 cap σ=none::σc)(he:∀u∈us,c (some (f u)::σc) g=.ok (p u) g/\e (some (f u)::σc) g=.ok (F u) g):Za (Qt a) 1 cap (gSet 0) c e σ g=.ok (.ref g.length) (g++[.lst ((us.filter p).map F)]):=by
 obtain⟨src,e1,e2,e3⟩:=Qc8 hs .refl;rw[Ub]at e2;obtain⟨xs,σ',g',h1,h2,h3,_⟩:=YB (src:=src) (t:=gSet 0) (c:=c) (e:=e) (n:=us.length)
  (λi σ' g1 acc=>acc=((us.take i).filter p).map F/\g1=g/\∃u,σ'=u::σc) (λi σ' g1 acc hi ⟨h1,h2,u,h3⟩=>by
   obtain⟨k1,k2⟩:=he us[i] (UY hi);subst h3 h2;have tk:(us.take (i+1)).filter p=(us.take i).filter p++[us[i]].filter p:=by rw[UW hi,T1]
   refine⟨f us[i],some (f us[i])::σc,g1,by rw[e3 g1 i .refl];simp[hi],rfl,?_⟩;cases hp:p us[i]with
   |true=>exact .inl ⟨F us[i],g1,by rw[k1,hp],k2,by rw[h1,tk,Uz];simp[hp],rfl,_,rfl⟩|false=>exact .inr ⟨by rw[k1,hp],by rw[h1,tk,Uz];simp[hp],rfl,_,rfl⟩)
  (λσ g1 acc ⟨_,h2,_⟩=>by rw[h2,e3 g _ .refl];simp) (src.top+1) 0 (none::σc) g [] (by omega) (by omega) ⟨by simp,rfl,none,rfl⟩
 rw[h2,U5,h3]at h1;exact QbF (src:=src) (by unfold Qt;rw[ha,Res.bind_ok,e1]) (by omega) hc h1
theorem QfC{σ:S3}{i j k:Nat}{p q:Int}(hr:tabOf N g t rows)(ht:Tb rows n m)(h0:0<=p)(h1:p<n)(h2:0<=q)(h3:q<m)(hi:σ[i]?=some (vR t))(hj:σ[j]?=some (vI p))(hk:σ[k]?=some (vI q)):mOp2 pIx (mOp2 pIx (mVar i) (mVar j)) (mVar k) σ g=.ok (eAt rows p q) g:=by
 obtain⟨r,r1,r2,_⟩:=ht.at' h0 h1 h2 h3;obtain⟨_,ds,d1,d2,d3⟩:=hr;have l1:p.toNat<ds.length:=by rw[d2];exact(Ul.mp r1).1
 obtain⟨a,a1,_,_,a2⟩:=d3 p.toNat ds[p.toNat] r (by simp[l1]) r1;exact Qk (Qk (ZG hi) (ZG hj) (QdH d1 h0 (d:=.ref a) (by rw[<-a1];simp[l1]))) (ZG hk) (QdH a2 h2 r2)
theorem Qgt{c:Ct}{x y:D}(hr:tabOf N g t rows)(ht:Tb rows n m)(okc:okC w n m c)(hT:TR rows c.2.1 c.2.2.1=none):JA [.ref t,ctD c,x,y] g=.ok .non g:=by
 obtain⟨l,p,q,r⟩:=c;obtain⟨_,_,_,h3⟩:=ht.at' okc.2.1.1 okc.2.1.2 okc.2.2.1.1 okc.2.2.1.2;have en:eAt rows p q=.non:=by
  rcases h3.cases with⟨e,_⟩|⟨i,b,j,_,e2,_⟩
  ·exact e
  ·exact absurd (hT.symm.trans e2) (λz=>by cases z)
 refine Qu rfl ?_;show Jz [vR t,some (ctD (l,p,q,r)),some x,some y,none,none,none,none,none,none] g=_;unfold Jz;refine Qf [vR t,some (ctD (l,p,q,r)),some x,some y,vM l,vI p,vI q,vM r,none,none] g rfl ?_;refine Qf [vR t,some (ctD (l,p,q,r)),some x,some y,vM l,vI p,vI q,vM r,some .non,none] g (Qq ((QfC hr ht okc.2.1.1 okc.2.1.2 okc.2.2.1.1 okc.2.2.1.2 rfl rfl rfl).trans (by rw[en]))) ?_;exact Zl (ift _ (Qz (Qk (x:=.non) (y:=.non) rfl rfl rfl)) rfl)
theorem Qgu{c:Ct}{i j:Int}{b:Bool}{DD:Bool->Nat}{us:Bool->List (List Int)}(hw:1<=w)(hw2:w<=100)(hr:tabOf N g t rows)(ht:Tb rows n m)(okc:okC w n m c)(hT:TR rows c.2.1 c.2.2.1=some (i,b,j))(hD:∀y,g[DD y]?=some (.lst ((us y).map gmD)))(hz:∀y,(us y).length<=1000):
  JA [.ref t,ctD c,.ref (DD false),.ref (DD true)] g=.ok (.tup [.str (wS !b),gmD (bhd b c),.ref g.length]) (g++[.lst (((cont (us b) (ahd b c).tail).map λu=>nxC i b j c u).map ctD)]):=by
 obtain⟨i',b',j',t1,t2,_⟩:=Qeu ht okc (by rw[hT];exact λz=>by cases z);rw[hT]at t1;cases t1;obtain⟨l,p,q,r⟩:=c;have t2:eAt rows p q=enD i b j:=t2;have ha:1<=(ahd b (l,p,q,r)).length:=by rw[(okc.a b).1];exact hw
 have hb:(bhd b (l,p,q,r)).dropLast.length<=1000:=by rw[TJ,(okc.b b).1];omega
 have cd:∀(u v:List Int)(x1 x2:Option D)(g':G),Ql (mOp2 pEq (QI (mVar 0) Qw (Zh (mOp2 pSub (mOp1 pLen (mVar 0)) (mI 1)))) (QI (mVar 3) (Zh (mI 1)) Qw)) [vM u,x1,x2,vM v] g'=.ok (decide (u.dropLast=v.tail)) g':=λu v x1 x2 g'=>by
  refine Qz (Qk (x:=gmD u.dropLast) (y:=gmD v.tail) (g1:=g') (g2:=g') ?_ ?_ (eq_g _ _ _))
  ·exact QmD rfl
  ·simp only[Zq,Q4,ZZ,Qb7];exact Qeq v g'
 have inner:∀{σ:S3}{k:Nat}{v:List Int},σ[8]?=some (some (enD i b j))->σ[k]?=some (vM v)->v.dropLast.length<=1000->mOp2 pAdd (mOpA pTup (Qa (mOp2 pIx (mVar 8) (mI 0)) mNil)) (QI (mVar k) Qw (Zh (mOp2 pSub (mOp1 pLen (mVar k)) (mI 1)))) σ g=.ok (gmD (i::v.dropLast)) g:=λ{σ k v} h8 hk hl=>by
  refine Qk (x:=.tup [.int i]) (y:=gmD v.dropLast) (g1:=g) (g2:=g) ?_ ?_ (QnI i _ g hl)
  ·simp[h8,enD]
  ·exact QmD (ZG hk)
 refine Qu rfl ?_;show Jz [vR t,some (ctD (l,p,q,r)),vR (DD false),vR (DD true),none,none,none,none,none,none] g=_;unfold Jz;refine Qf [vR t,some (ctD (l,p,q,r)),vR (DD false),vR (DD true),vM l,vI p,vI q,vM r,none,none] g rfl ?_;refine Qf [vR t,some (ctD (l,p,q,r)),vR (DD false),vR (DD true),vM l,vI p,vI q,vM r,some (enD i b j),none] g (Qq ((QfC hr ht okc.2.1.1 okc.2.1.2 okc.2.2.1.1 okc.2.2.1.2 rfl rfl rfl).trans (by rw[t2]))) ?_;refine Qf _ g (iff' _ (Qz (Qk (x:=enD i b j) (y:=.non) rfl rfl rfl)) rfl) ?_;have c1:∀x9,Ql (mOp2 pEq (mOp2 pIx (mVar 8) (mI 1)) (mLit (.str "r"))) [vR t,some (ctD (l,p,q,r)),vR (DD false),vR (DD true),vM l,vI p,vI q,vM r,some (enD i b j),x9] g=.ok b g:=λx9=>Qz (Qk (x:=.str (wS b)) (g1:=g) (g2:=g) (Qk (x:=enD i b j) (y:=.int 1) (g1:=g) (g2:=g) rfl rfl Qc0) Qfx (eq_w b g));cases b with
 |true =>refine Zl (ift _ (c1 none) ?_);refine Qf [vR t,some (ctD (l,p,q,r)),vR (DD false),vR (DD true),vM l,vI p,vI q,vM r,some (enD i true j),vM (i::l.dropLast)] g (Qq (inner rfl rfl hb)) (QX ?_);have cm:=Qey (a:=mVar 3) (f:=gmD) (cap:=[9,8,7]) (c:=Ql (mOp2 pEq (QI (mVar 0) Qw (Zh (mOp2 pSub (mOp1 pLen (mVar 0)) (mI 1)))) (QI (mVar 3) (Zh (mI 1)) Qw))) (e:=mOpA pTup (Qa (mVar 1) (Qa (mOp2 pIx (mVar 2) (mI 2)) (Qa (mOp2 pIx (mVar 3) (mI 0)) (Qa (mVar 0) mNil))))) (σ:=[vR t,some (ctD (l,p,q,r)),vR (DD false),vR (DD true),vM l,vI p,vI q,vM r,some (enD i true j),vM (i::l.dropLast)]) (σc:=[vM (i::l.dropLast),some (enD i true j),vM r]) (p:=λu=>decide (u.dropLast=r.tail)) (F:=λu=>ctD (nxC i true j (l,p,q,r) u)) (g:=g) rfl (QB (hD true)) (Ue (hz true) (by decide)) rfl (λu hu=>⟨cd u r _ _ _,by simp only[Qb8,QbG,Qj8,Qmr,Qb7,QcZ,TM,TL,enD,Qfo];rw[Qgi r _ ha];exact Qc3 _ _ (by show 4<=100;decide)⟩);rw[Qb8,Qd (Qid) (Qd (x:=gmD l) rfl (Qd cm rfl))];dsimp only;rw[Qc3 _ _ (by show 3<=100;decide),Ra];rfl|false =>refine Qf _ g (iff' _ (c1 none) rfl) ?_;refine Qf [vR t,some (ctD (l,p,q,r)),vR (DD false),vR (DD true),vM l,vI p,vI q,vM r,some (enD i false j),vM (i::r.dropLast)] g (Qq (inner rfl rfl hb)) (QX ?_);have cm:=Qey (a:=mVar 2) (f:=gmD) (cap:=[9,8,4]) (c:=Ql (mOp2 pEq (QI (mVar 0) Qw (Zh (mOp2 pSub (mOp1 pLen (mVar 0)) (mI 1)))) (QI (mVar 3) (Zh (mI 1)) Qw))) (e:=mOpA pTup (Qa (mVar 0) (Qa (mOp2 pIx (mVar 2) (mI 2)) (Qa (mOp2 pIx (mVar 3) (mI 0)) (Qa (mVar 1) mNil))))) (σ:=[vR t,some (ctD (l,p,q,r)),vR (DD false),vR (DD true),vM l,vI p,vI q,vM r,some (enD i false j),vM (i::r.dropLast)]) (σc:=[vM (i::r.dropLast),some (enD i false j),vM l]) (p:=λu=>decide (u.dropLast=l.tail)) (F:=λu=>ctD (nxC i false j (l,p,q,r) u)) (g:=g) rfl (QB (hD false)) (Ue (hz false) (by decide)) rfl (λu hu=>⟨cd u l _ _ _,by simp only[Qb8,QbG,Qj8,Qmr,Qb7,QcZ,TM,TL,enD,Qfo];rw[Qgi l _ ha];exact Qc3 _ _ (by show 4<=100;decide)⟩);rw[Qb8,Qd (Qfx) (Qd (x:=gmD r) rfl (Qd cm rfl))];dsimp only;rw[Qc3 _ _ (by show 3<=100;decide),Ra];rfl
end L3
namespace L3
open PySem
theorem Qdb{u:List Int}{us:List (List Int)}{a:Nat}(h:g[a]?=some (.lst (us.map gmD))):Y0 (gmD u) (.ref a) g=.ok (.bl (!decide (u∈us))) g:=by unfold Y0 pInG;rw[sk_g];dsimp only;rw[h];dsimp only;rw[Qc1];dsimp only;rw[Qes];rfl
theorem QhB(h:g[q]?=some (.dcn true (dcsD cs))):ZX (ctD c) (.ref q) g=.ok (.bl (!decide (c∈cs))) g:=by unfold ZX nAt;dsimp only;rw[h];dsimp only;rw[sk_c];dsimp only;rw[show nGet (dcsD cs) (.inr c)=_ from QaS];split<;>next h=>simp[h]
theorem QpG(h:g[q]?=some (.dcn true (dcsD cs)))(ho:o σ g=.ok (.ref q) g)(hk:k σ g=.ok (ctD c) g)(hz:cs.length<=1000):Qb1 o k (mLit (.bl true)) σ g=.nx σ (g.set q (.dcn true (dcsD (if c∈cs then cs else cs++[c])))):=by unfold Qb1;rw[Qb7];dsimp only;rw[ho];dsimp only;rw[hk];dsimp only;rw[h];dsimp only;rw[sk_c];dsimp only;rw[Uj (by unfold dcsD;rw[Ub];exact Qdr hz),QkD]
theorem QdL{t:MG}{body:MS}{a:ME}{x:D}{f:α->D}{us:List α}{σ:S3}{g:G}(ha:a σ g=.ok x g)(hs:QU g0 x=some (b,us.map f))(k0:Keeps [] g0 g)(I:Nat->S3->G->Prop)(R:Out->Prop)(h0:I 0 σ g)(hI:∀i σ g,I i σ g->Keeps [] g0 g)(step:∀i u σ g,us[i]?=some u->I i σ g->∃σ1,t (f u) σ=some σ1/\((∃σ2 g2,body σ1 g=.nx σ2 g2/\I (i+1) σ2 g2)\/(Qgg (body σ1 g)/\R (body σ1 g)))):
  (∃σ' g',mFor (Qt a) t body σ g=.nx σ' g'/\I us.length σ' g')\/(Qgg (mFor (Qt a) t body σ g)/\R (mFor (Qt a) t body σ g)):=by
 obtain⟨src,e1,e2,e3⟩:=Qc8 hs k0;rw[Ub]at e2;rw[JB (src:=src) (g':=g) (by unfold Qt;rw[ha,Res.bind_ok,e1])];refine JL (n:=us.length) I R (λi σ g hi h=>?_) (λσ g h=>by rw[e3 g _ (hI _ _ _ h)];simp) (src.top+1) 0 σ g (by omega) (by omega) h0;obtain⟨σ1,h1,h2⟩:=step i us[i] σ g (by simp[hi]) h;refine⟨f us[i],σ1,by rw[e3 g i (hI _ _ _ h)];simp[hi],h1,?_⟩;rcases h2 with⟨σ2,g2,h2,h3⟩|h2
 ·exact .inl ⟨σ2,g2,.inl h2,h3⟩
 ·exact .inr h2
theorem Qgv{t:MG}{body:MS}{a:ME}{x:D}{f:α->D}{us:List α}{σ:S3}{g:G}(ha:a σ g=.ok x g)(hs:QU g0 x=some (b,us.map f))(k0:Keeps [] g0 g)(I:Nat->S3->G->Prop)(h0:I 0 σ g)(hI:∀i σ g,I i σ g->Keeps [] g0 g)(step:∀i u σ g,us[i]?=some u->I i σ g->∃σ1 σ2 g2,t (f u) σ=some σ1/\body σ1 g=.nx σ2 g2/\I (i+1) σ2 g2):∃σ' g',mFor (Qt a) t body σ g=.nx σ' g'/\I us.length σ' g':=(QdL ha hs k0 I (λ_=>False) h0 hI λi u σ g hu h=>let ⟨σ1,σ2,g2,a,b,c⟩:=step i u σ g hu h;⟨σ1,a,.inl ⟨σ2,g2,b,c⟩⟩).elim id λz=>z.2.elim
theorem Qgw(hr:tabOf N g t rows)(ht:Tb rows n m)(hw:1<=w)(hw2:w<=100)(ok:okP w n m us vs cs){a b c q:Nat}(ha:g[a]?=some (.lst (us.map gmD)))(hb:g[b]?=some (.lst (vs.map gmD)))(hq:g[q]?=some (.dcn true (dcsD cs')))(m3:∀c,c∈cs'↔c∈cs){x:Ct}(hx:x∈cs)(x8 x9 x10 x11:Option D):
  ∃g',Keeps [] g g'/\((JP (TR rows) (sdOf us vs) cs x=true/\∃y8 y9 y10 y11,Yc [vR t,vI w,vR a,vR b,vR c,vM (blG w),vR q,some (ctD x),x8,x9,x10,x11] g=.nx [vR t,vI w,vR a,vR b,vR c,vM (blG w),vR q,some (ctD x),y8,y9,y10,y11] g')\/(JP (TR rows) (sdOf us vs) cs x=false/\Yc [vR t,vI w,vR a,vR b,vR c,vM (blG w),vR q,some (ctD x),x8,x9,x10,x11] g=.rt (.bl false) g')):=by
 have okx:=ok.c x hx;unfold Yc;cases hT:TR rows x.2.1 x.2.2.1 with
 |none =>have e1:=Qgt (x:=.ref a) (y:=.ref b) hr ht okx hT;refine⟨g,.refl,.inr ⟨by unfold JP;rw[hT],?_⟩⟩;exact Qf _ g (Qq ((Qp rfl).trans e1)) (Zl (ift g rfl rfl))|some e=>
  obtain⟨i,y,j⟩:=e;have e1:=Qgu (DD:=λy=>if y=true then b else a) (us:=sdOf us vs) hw hw2 hr ht okx hT (λy=>by cases y;exact ha;exact hb) (λy=>by cases y;exact Ue ok.lu (by decide);exact Ue ok.lv (by decide));have hB:JP (TR rows) (sdOf us vs) cs x=(decide (bhd y x∈sdOf us vs (!y))&&(cont (sdOf us vs y) (ahd y x).tail).all λu=>decide (nxC i y j x u∈cs)):=by unfold JP;rw[hT]
  generalize hL:(cont (sdOf us vs y) (ahd y x).tail).map (λu=>nxC i y j x u)=L at e1;have lL:L.length<=1000:=by
   rw[<-hL,Ub];refine Ue (T3 ..) ?_;cases y
   ·exact Ue ok.lu (by decide)
   ·exact Ue ok.lv (by decide)
  have k1:Keeps [] g (g++[.lst (L.map ctD)]):=.push _;have hr1:=Qo (g:=g) (GO.lst (L.map ctD));generalize hg1:g++[GO.lst (L.map ctD)]=g1 at e1 k1 hr1;have k2:Keeps [] g1 (g1++[.lst [.ref a,.ref b]]):=.push _;have k12:=k1.trans k2;have c2:Ql (mOp2 Y0 (mVar 10) (mOp2 pIx (mOpA newL (Qa (mVar 2) (Qa (mVar 3) mNil))) (mOp1 pInt (mOp2 pEq (mVar 9) (mLit (.str "r")))))) [vR t,vI w,vR a,vR b,vR c,vM (blG w),vR q,some (ctD x),some (.tup [.str (wS !y),gmD (bhd y x),.ref g.length]),some (.str (wS !y)),vM (bhd y x),vR g.length] g1=.ok (!decide (bhd y x∈sdOf us vs (!y))) (g1++[.lst [.ref a,.ref b]]):=by
   refine Qz (Qk (x:=gmD (bhd y x)) (y:=.ref (if y=true then a else b)) (g1:=g1) (g2:=g1++[.lst [.ref a,.ref b]]) rfl (Qk (x:=.ref g1.length) (y:=.int (b2I (!y))) (g1:=g1++[.lst [.ref a,.ref b]]) (g2:=g1++[.lst [.ref a,.ref b]]) rfl (QY (x:=.bl (!y)) (g1:=g1++[.lst [.ref a,.ref b]]) (Qk (x:=.str (wS !y)) rfl Qfx (eq_w _ _)) rfl) ?_) (Qdb ?_))
   ·cases y
    ·exact Qaf (p:=1) (Qo _) rfl
    ·exact Qaf (p:=0) (Qo _) rfl
   ·cases y
    ·exact k12.at' _ _ (by simp) hb
    ·exact k12.at' _ _ (by simp) ha
  have c0:mAsg (gSet 8) (Qn JA (Qa (mVar 0) (Qa (mVar 7) (Qa (mVar 2) (Qa (mVar 3) mNil))))) [vR t,vI w,vR a,vR b,vR c,vM (blG w),vR q,some (ctD x),x8,x9,x10,x11] g=.nx [vR t,vI w,vR a,vR b,vR c,vM (blG w),vR q,some (ctD x),some (.tup [.str (wS !y),gmD (bhd y x),.ref g.length]),x9,x10,x11] g1:=Qq ((Qp rfl).trans e1);rw[hB];cases x1:decide (bhd y x∈sdOf us vs (!y)) with
  |false =>rw[x1]at c2;exact⟨_,k12,.inr ⟨rfl,Qf _ g1 c0 (Qf _ g1 (iff' g1 rfl rfl) (Qf _ g1 rfl (Zl (ift _ c2 rfl))))⟩⟩|true=>
   rw[x1]at c2;have hr2:=k2.at' _ _ (by simp) hr1;have hq2:=k12.at' _ _ (by simp) hq;generalize hg2:g1++[GO.lst [.ref a,.ref b]]=g2 at c2 k2 k12 hr2 hq2;have c3:=Qey (α:=Ct) (us:=L) (f:=ctD) (F:=ctD) (p:=λz=>!decide (z∈cs')) (a:=mVar 11) (c:=Ql (mOp2 ZX (mVar 0) (mVar 1))) (e:=mVar 0) (cap:=[6]) (σ:=[vR t,vI w,vR a,vR b,vR c,vM (blG w),vR q,some (ctD x),some (.tup [.str (wS !y),gmD (bhd y x),.ref g.length]),some (.str (wS !y)),vM (bhd y x),vR g.length]) (σc:=[vR q]) (g:=g2) rfl (QB hr2) (Ue lL (by decide)) rfl λz _=>⟨Qz (Qk (x:=ctD z) (y:=.ref q) (g1:=g2) (g2:=g2) rfl rfl (QhB hq2)),rfl⟩;have hall:((cont (sdOf us vs y) (ahd y x).tail).all λu=>decide (nxC i y j x u∈cs))=decide ((L.filter λz=>!decide (z∈cs'))=[]):=by rw[Tk,TN,Rk,UL,<-hL];simp[m3]
   have c4:Ql (mOp2 pGt (mOp1 pLen (Za (Qt (mVar 11)) 1 [6] (gSet 0) (Ql (mOp2 ZX (mVar 0) (mVar 1))) (mVar 0))) (mI 0)) [vR t,vI w,vR a,vR b,vR c,vM (blG w),vR q,some (ctD x),some (.tup [.str (wS !y),gmD (bhd y x),.ref g.length]),some (.str (wS !y)),vM (bhd y x),vR g.length] g2=.ok (!decide ((L.filter λz=>!decide (z∈cs'))=[])) (g2++[.lst ((L.filter λz=>!decide (z∈cs')).map ctD)]):=by
    refine Qz (Qk (QY c3 (Qbd (Qo _))) rfl ?_);rw[QlB,Ub];congr 2;cases L.filter λz=>!decide (z∈cs') with
    |nil=>rfl|cons _ _=>simp
   have k3:=k12.trans (Keeps.push (S:=[]) (GO.lst ((L.filter λz=>!decide (z∈cs')).map ctD)));rw[hall];cases x2:decide ((L.filter λz=>!decide (z∈cs'))=[]) with
   |true =>rw[x2]at c4;exact⟨_,k3,.inl ⟨rfl,_,_,_,_,Qf _ g1 c0 (Qf _ g1 (iff' g1 rfl rfl) (Qf _ g1 rfl (Qf _ g2 (iff' _ c2 rfl) (iff' _ c4 rfl))))⟩⟩|false =>rw[x2]at c4;exact⟨_,k3,.inr ⟨rfl,Qf _ g1 c0 (Qf _ g1 (iff' g1 rfl rfl) (Qf _ g1 rfl (Qf _ g2 (iff' _ c2 rfl) (ift _ c4 rfl))))⟩⟩
end L3
namespace L3
open PySem
theorem QfD(hr:tabOf N g t rows)(ht:Tb rows n m)(hw:1<=w)(hw2:w<=100)(ok:okP w n m us vs cs)(ha:g[a]?=some (.lst (us.map gmD)))(hb:g[b]?=some (.lst (vs.map gmD)))(hc:g[c]?=some (.lst (cs.map ctD))):
  ∃g',QaB [.ref t,.int w,.ref a,.ref b,.ref c] g=.ok (.bl (clB (TR rows) w us vs cs)) g'/\Keeps [] g g':=by
 have lc:=ok.lc;have k0:Keeps [] g (g++[GO.dcn true []]):=.push _;obtain⟨σ1,g1,e1,x7,cs',h1,h2,h3,h4,h5⟩:=Qgv (us:=cs) (f:=ctD) (t:=gSet 7) (body:=Qa8) (a:=mVar 4) (σ:=[vR t,vI w,vR a,vR b,vR c,vM (blG w),vR g.length,none,none,none,none,none]) (g:=g++[GO.dcn true []]) rfl (QB hc) k0
  (λi σ' g'=>∃x7 cs',σ'=[vR t,vI w,vR a,vR b,vR c,vM (blG w),vR g.length,x7,none,none,none,none]/\g'[g.length]?=some (.dcn true (dcsD cs'))/\(∀c,c∈cs'↔c∈cs.take i)/\cs'.length<=i/\Keeps [] g g') ⟨none,[],rfl,Qo _,λc=>by simp,by simp,k0⟩ (λ_ _ _ ⟨_,_,_,_,_,_,h⟩=>h) (λi x σ' g' hx ⟨x7,cs',h1,h2,h3,h4,h5⟩=>by
   subst h1;have hi:=(Ul.mp hx).1;refine⟨_,[vR t,vI w,vR a,vR b,vR c,vM (blG w),vR g.length,some (ctD x),none,none,none,none],_,rfl,QpG h2 rfl rfl (by omega),some (ctD x),_,rfl,Q6 h2,λz=>?_,?_,⟨by rw[UG];exact h5.len,λj o hj e=>?_⟩⟩
   ·rw[YD hx];split
    ·next h=>rw[h3,Uq,Uf];exact⟨.inl,λz=>z.elim id λe=>e ▸ (h3 x).mp h⟩
    ·rw[Uq,Uq,h3]
   ·split
    ·omega
    ·rw[Uh];exact Nat.succ_le_succ h4
   ·rw[Uc (by have:=Qy e;omega)];exact h5.at' j o hj e)
 subst h1;rw[U5]at h3;have p1:Ql (mOp2 Y0 (mVar 5) (mVar 2)) [vR t,vI w,vR a,vR b,vR c,vM (blG w),vR g.length,x7,none,none,none,none] g1=.ok (!decide (blG w∈us)) g1:=Qz (Qk (x:=gmD (blG w)) (y:=.ref a) (g1:=g1) (g2:=g1) rfl rfl (Qdb (h5.at' _ _ (by simp) ha)));have p2:Ql (mOp2 Y0 (mVar 5) (mVar 3)) [vR t,vI w,vR a,vR b,vR c,vM (blG w),vR g.length,x7,none,none,none,none] g1=.ok (!decide (blG w∈vs)) g1:=Qz (Qk (x:=gmD (blG w)) (y:=.ref b) (g1:=g1) (g2:=g1) rfl rfl (Qdb (h5.at' _ _ (by simp) hb)));have p3:Ql (mOp2 ZX (mOpA pTup (Qa (mVar 5) (Qa (mI 0) (Qa (mI 0) (Qa (mVar 5) mNil))))) (mVar 6)) [vR t,vI w,vR a,vR b,vR c,vM (blG w),vR g.length,x7,none,none,none,none] g1=.ok (!decide (c00 w∈cs)) g1:=Qz (Qk (x:=ctD (c00 w)) (y:=.ref g.length) (g1:=g1) (g2:=g1) rfl rfl (by rw[QhB h2,U4.mpr (h3 _)]));refine Exists.imp (λ_=>And.imp (λh=>Qu rfl (Qf _ g (Qq (Qk (x:=.tup [.int 0]) (y:=.int w) (g1:=g) (g2:=g) rfl rfl (Qgn g hw hw2))) (Qf _ _ (Qq (d:=.ref g.length) (g':=g++[GO.dcn true []]) rfl) (Qf _ g1 e1 h)))) id) ?_;unfold clB;cases x1:decide (blG w∈us) with
 |false =>rw[x1]at p1;exact⟨g1,Zl (ift _ (Qcj p1) rfl),h5⟩|true=>
  rw[x1]at p1;cases x2:decide (blG w∈vs) with
  |false =>rw[x2]at p2;exact⟨g1,Zl (ift _ (Y6 p1 (Qcj p2)) rfl),h5⟩|true=>
   rw[x2]at p2;cases x3:decide (c00 w∈cs) with
   |false =>rw[x3]at p3;exact⟨g1,Zl (ift _ (Y6 p1 (Y6 p2 p3)) rfl),h5⟩|true=>
    rw[x3]at p3;rcases QdL (us:=cs) (f:=ctD) (t:=gSet 7) (body:=Yc) (a:=mVar 4) (σ:=[vR t,vI w,vR a,vR b,vR c,vM (blG w),vR g.length,x7,none,none,none,none]) (g:=g1) (g0:=g1) rfl (QB (h5.at' _ _ (by simp) hc)) .refl
     (λi σ' g'=>(∃x7 x8 x9 x10 x11,σ'=[vR t,vI w,vR a,vR b,vR c,vM (blG w),vR g.length,x7,x8,x9,x10,x11])/\(cs.take i).all (JP (TR rows) (sdOf us vs) cs)=true/\Keeps [] g1 g') (λo=>∃g',o=.rt (.bl false) g'/\Keeps [] g1 g'/\cs.all (JP (TR rows) (sdOf us vs) cs)=false) ⟨⟨_,_,_,_,_,rfl⟩,rfl,.refl⟩ (λ_ _ _ h=>h.2.2) (λi x σ' g' hx ⟨⟨x7,x8,x9,x10,x11,q1⟩,q2,q3⟩=>by
      subst q1;have kk:=h5.trans q3;obtain⟨g2,k2,d⟩:=Qgw (c:=c) (hr.mono kk (by simp)) ht hw hw2 ok (kk.at' _ _ (by simp) ha) (kk.at' _ _ (by simp) hb) (q3.at' _ _ (by simp) h2) h3 (UR hx) x8 x9 x10 x11;refine⟨_,rfl,?_⟩;rcases d with⟨d1,y8,y9,y10,y11,d2⟩|⟨d1,d2⟩
      ·exact .inl ⟨_,g2,d2,⟨_,_,_,_,_,rfl⟩,by rw[YD hx,List.all_append,q2];simp[d1],q3.trans k2⟩
      ·exact .inr ⟨(TV Qgg d2).mpr trivial,g2,d2,q3.trans k2,WK.mpr λz=>by rw[UL.mp z x (UR hx)]at d1;cases d1⟩) with⟨σ2,g2,e2,_,q2,q3⟩|⟨_,g2,e2,q3,q2⟩
    ·rw[U5]at q2;rw[q2];exact⟨g2,Qf _ g1 (iff' _ (Y6 p1 (Y6 p2 p3)) rfl) (Qf _ g2 e2 rfl),h5.trans q3⟩
    ·rw[q2];exact⟨g2,Qf _ g1 (iff' _ (Y6 p1 (Y6 p2 p3)) rfl) (Zl e2),h5.trans q3⟩
end L3
namespace L3
open PySem
theorem Qdc(h:YA [.ref M,d] g=.ok (.bl x) g'):Ji [.ref M,d,.bl x] g=.ok (.bl true) g':=by refine Qu rfl (Qf _ g' (Qq ((Qp rfl).trans h)) (QX (Qie (g1:=g') rfl ?_)));show Res.ok (D.bl (x==x)) g'=_;rw[beq_self_eq_true]
theorem QnT(h:NoP M g d):∃g',Ji [.ref M,d,.bl false] g=.ok (.bl true) g'/\Keeps [] g g':=let ⟨g',h1,h2⟩:=h;⟨g',Qdc (Qu rfl (Zl (ift g' (Qcj (QC (x:=false) ((Qp rfl).trans h1))) rfl))),h2⟩
theorem QmE(ho:o σ g=.ok (.ref n) g)(h0:g[n]?=some (.lst xs))(he:e σ g=.ok (.ref k) g2)(h1:g2[n]?=some (.lst xs))(h2:g2[k]?=some (.lst ys))(hne:n≠k)(hz:xs.length+ys.length<=1000):J7 o e σ g=.ok .non (g2.set n (.lst (xs++ys))):=by unfold J7;rw[ho,Res.bind_ok];dsimp only;rw[h0];dsimp only;rw[he,Res.bind_ok];dsimp only;rw[h1,h2];dsimp only;rw[Uj ⟨hne,Ue hz (by decide)⟩]
theorem Qif{a e:ME}{σ σc:S3}{g:G}{n:Nat}{F:Nat->D}{cap:List Nat}(ha:a σ g=.ok (.int n) g)(hz:n<=1000)(hc:capt 1 cap σ=none::σc)(he:∀i,i<n->e (some (.int i)::σc) g=.ok (F i) g):Za (Q1 a) 1 cap (gSet 0) Zf e σ g=.ok (.ref g.length) (g++[.lst ((List.range n).map F)]):=by
 obtain⟨xs,σ',g',h1,h2,h3,_⟩:=YB (src:=ZI 0 n) (t:=gSet 0) (c:=Zf) (e:=e) (n:=n)
  (λi σ' g1 acc=>acc=(List.range i).map F/\g1=g/\∃u,σ'=u::σc) (λi σ' g1 acc hi ⟨h1,h2,u,h3⟩=>by subst h3 h2;refine⟨.int i,some (.int i)::σc,g1,by simp[ZI,hi],rfl,.inl ⟨F i,g1,rfl,he i hi,by rw[h1,List.range_succ,Uz];rfl,rfl,_,rfl⟩⟩)
  (λσ g1 acc _=>by simp[ZI]) (n+1) 0 (none::σc) g [] (by omega) (by omega) ⟨by simp,rfl,none,rfl⟩
 rw[h2,h3]at h1;exact QbF (src:=ZI 0 n) (YC ha (Qb6 hz)) (Ue hz (by decide)) hc h1
theorem Qgx(u:List Int)(i:Int)(g:G)(h:u.length<=1000):pAdd (gmD u) (.tup [.int i]) g=.ok (gmD (u++[i])) g:=by show(if (u.map D.int).length+1<=SZ then Res.ok (D.tup (u.map D.int++[.int i])) g else .stuck)=_;rw[Uj (by rw[Ub];exact Nat.succ_le_of_lt (Qdr h))];unfold gmD;rw[Uz];rfl
def Qaj(m:Nat)(us:List (List Int)):List (List Int):=us.flatMap λu=>(List.range m).map λi:Nat=>u++[(i:Int)]
theorem QkF(hu:∀u∈us,okG w m u):∀u∈Qaj m us,okG (w+1) m u:=λv hv=>by
 obtain⟨u,h1,h2⟩:=TY.mp hv;obtain⟨i,hi,rfl⟩:=UE.mp h2;have:=Ru.mp hi;refine⟨by rw[Uh,(hu u h1).1];rfl,λx hx=>?_⟩;rcases Uq.mp hx with z|z
 ·exact(hu u h1).2 x z
 ·rw[Uf.mp z];omega
theorem QbK(m:Nat):∀us,(Qaj m us).length=us.length*m
 |[]=>by simp[Qaj]
 |u::us=>by have:=QbK m us;unfold Qaj at this ⊢;rw[List.flatMap_cons,Uh,this,Ub,List.length_range,Uy,Nat.succ_mul];omega
theorem QlS{us:List (List Int)}{r m w:Nat}{x3 x4 x5:Option D}(hr:g[r]?=some (.lst (us.map gmD)))(hu:∀u∈us,u.length<=100)(hz:us.length*m<=1000)(hm:1<=m)(hm2:m<=1000):∃g' x5',Qac [vI m,vI w,vR r,x3,x4,x5] g=.nx [vI m,vI w,vR g.length,x3,vR g.length,x5'] g'/\g'[g.length]?=some (.lst ((Qaj m us).map gmD))/\Keeps [] g g':=by
 have k0:Keeps [] g (g++[GO.lst []]):=.push _;obtain⟨σ1,g1,e1,x5',h1,h2,h3⟩:=Qgv (us:=us) (f:=gmD) (t:=gSet 5) (body:=Qb4) (a:=mVar 2) (σ:=[vI m,vI w,vR r,x3,vR g.length,x5]) (g:=g++[GO.lst []]) rfl (QB hr) k0
  (λi σ' g'=>∃x5',σ'=[vI m,vI w,vR r,x3,vR g.length,x5']/\g'[g.length]?=some (.lst ((Qaj m (us.take i)).map gmD))/\Keeps [] g g') ⟨x5,rfl,Qo _,k0⟩ (λ_ _ _ ⟨_,_,_,h⟩=>h) (λi u σ' g' hx ⟨x5',h1,h2,h3⟩=>by
   subst h1;have hi:=(Ul.mp hx).1;have e2:=Qif (a:=mVar 0) (e:=mOp2 pAdd (mVar 1) (mOpA pTup (Qa (mVar 0) mNil))) (cap:=[5]) (σ:=[vI m,vI w,vR r,x3,vR g.length,vM u]) (σc:=[vM u]) (g:=g') (n:=m) (F:=λi=>gmD (u++[(i:Int)])) rfl hm2 rfl λi _=>Qk (x:=gmD u) (y:=.tup [.int i]) (g1:=g') (g2:=g') rfl rfl (Qgx u i g' (by have:=hu u (UR hx);omega));have kp:Keeps [] g' (g'++[GO.lst ((List.range m).map λi:Nat=>gmD (u++[(i:Int)]))]):=.push _;have lt:=Qy h2;have ln:(Qaj m (us.take (i+1))).map gmD=(Qaj m (us.take i)).map gmD++(List.range m).map λi:Nat=>gmD (u++[(i:Int)]):=by unfold Qaj;rw[YD hx,Ws,Uz,List.flatMap_singleton,Ra];rfl
   have zz:((Qaj m (us.take i)).map gmD).length+((List.range m).map λi:Nat=>gmD (u++[(i:Int)])).length<=1000:=by rw[<-Uh,<-ln,Ub,QbK,Tx];exact Ue (Nat.mul_le_mul_right m (Nat.min_le_right ..)) hz
   refine⟨_,[vI m,vI w,vR r,x3,vR g.length,vM u],_,rfl,Zs (QmE (o:=mVar 4) rfl h2 e2 (kp.at' _ _ (by simp) h2) (Qo _) (by omega) zz),vM u,rfl,by rw[Q6 (kp.at' _ _ (by simp) h2),<-ln],⟨?_,λj o hj e=>?_⟩⟩
   ·rw[UG];exact(h3.trans kp).len
   ·rw[Uc (by have:=Qy e;omega)];exact(h3.trans kp).at' j o hj e)
 subst h1;rw[U5]at h2;exact⟨g1,x5',Qf _ _ (Qq Qai) (Qf _ g1 e1 rfl),h2,h3⟩
theorem QhC{m w:Nat}(hm:1<=m)(hm2:m<=3)(hw2:w<=2):∃(us:List (List Int))(r:Nat)(g':G),Qa9 [.int m,.int w] g=.ok (.ref r) g'/\g'[r]?=some (.lst (us.map gmD))/\(∀u∈us,okG w m u)/\us.length=m^w/\Keeps [] g g'/\g.length<=r:=by
 obtain⟨σ1,g1,e1,us,r,x3,x4,x5,h1,h2,h3,h4,h5,h6⟩:=Y2 (t:=gSet 3) (body:=Qac) (lo:=0) (n:=w) (σ:=[vI m,vI w,vR g.length,none,none,none]) (g:=g++[GO.lst [.tup []]])
  (λi σ' g'=>∃(us:List (List Int))(r:Nat)(x3 x4 x5:Option D),σ'=[vI m,vI w,vR r,x3,x4,x5]/\g'[r]?=some (.lst (us.map gmD))/\(∀u∈us,okG i m u)/\us.length=m^i/\Keeps [] g g'/\g.length<=r) ⟨[[]],g.length,none,none,none,rfl,Qo _,λu hu=>by rw[Uf.mp hu];exact⟨rfl,λx hx=>by cases hx⟩,rfl,.push _,Um _⟩ (λi σ' g' hi ⟨us,r,x3,x4,x5,h1,h2,h3,h4,h5,h6⟩=>by
   subst h1;have zz:us.length*m<=1000:=by rw[h4,<-Nat.pow_succ];exact Ue (Nat.pow_le_pow_left hm2 _) (Ue (Nat.pow_le_pow_right (by decide) (show i+1<=2 by omega)) (by decide))
   obtain⟨g2,x5',e2,q1,q2⟩:=QlS (w:=w) (x3:=vI (0+i)) (x4:=x4) (x5:=x5) h2 (λu hu=>by rw[(h3 u hu).1];omega) zz hm (by omega);exact⟨_,_,g2,rfl,e2,Qaj m us,g'.length,_,_,_,rfl,q1,QkF h3,by rw[QbK,h4,Nat.pow_succ],h5.trans q2,h5.len⟩)
 subst h1;exact⟨us,r,g1,Qu rfl (Qf _ _ (Qq (d:=.ref g.length) (g':=g++[GO.lst [.tup []]]) rfl) (Qf _ g1 ((JB (YC (a:=mVar 1) (n:=w) rfl (Qb6 (by omega)))).trans e1) rfl)),h2,h3,h4,h5,h6⟩
end L3
namespace L3
open PySem
theorem QcB(ha:e σ g=.ok x g1)(hs:JW x g1=.ok src g1):Qt e σ g=.ok src g1:=by unfold Qt;rw[ha,Res.bind_ok,hs]
theorem ZP(k:Keeps [a] g g')(hx:x≠a)(h:g[x]?=some o):g'[x]?=some o:=k.at' x o (by simp[hx]) h
theorem QnU(xs:List α)(k:Nat)(y z:α):z∈insL xs k y↔z∈xs\/z=y:=by unfold insL;rw[Uq,Uv,or_left_comm,<-Uq,Wc,or_comm]
theorem QnV(xs:List α)(k:Nat)(y:α):(insL xs k y).length=xs.length+1:=by unfold insL;have h:=TV List.length (Wc k xs);rw[Uh]at h;rw[Uh,Uy];omega
theorem QnW(f:α->β)(xs:List α)(k:Nat)(y:α):insL (xs.map f) k (f y)=(insL xs k y).map f:=by unfold insL;rw[Uz,UC,List.map_take,List.map_drop]
structure Cn(g:G)(a:Nat)(k:Int):Prop where
 at':g[a]?=some (.lst [.int k])
 k0:0<=k
 k1:k<100000
theorem QhD(ns:List Int)(h:Cn g a k):∃m g',0<=m/\m<1999999973/\Ys [.fl (ns.map .int),.ref a] g=.ok (.int m) g'/\g'[a]?=some (.lst [.int (k+1)])/\Keeps [a] g g'/\g'.length=g.length:=by obtain⟨m,h1,h2,h3⟩:=Qj5 ns a k g h.at' h.k0 (by have:=h.k1;omega);exact⟨m,_,h1,h2,h3,Q6 h.at',.set _ _,UG⟩
theorem QlT{α:Type}{us:List α}{f:α->D}(ns:List Int){r:Nat}(hc:Cn g a k)(hr:g[r]?=some (.lst (us.map f)))(hra:r≠a)(hz:us.length<=1000)(hk:k+us.length<100000):∃(g':G)(ys:List α),Qba [.fl (ns.map .int),.ref a,.ref r] g=.ok (.ref g.length) g'/\g'[g.length]?=some (.lst (ys.map f))/\(∀x,x∈ys↔x∈us)/\ys.length=us.length/\Cn g' a (k+us.length)/\Keeps [a] g g':=by
 have la:=Qy hc.at';have k0:Keeps [a] g (g++[GO.lst []]):=.push _;obtain⟨src,s1,s2,s3⟩:=Qmq (QB (ZP k0 hra hr));rw[Ub]at s2;obtain⟨σ1,g1,e1,ys,x4,h1,h2,h3,h4,h5,h6⟩:=Qem (t:=gSet 4) (body:=Qb5) (src:=src) (n:=us.length) (σ:=[some (.fl (ns.map .int)),vR a,vR r,vR g.length,none]) (g:=g++[GO.lst []]) s2
  (λi σ' g'=>∃(ys:List α)(x4:Option D),σ'=[some (.fl (ns.map .int)),vR a,vR r,vR g.length,x4]/\g'[g.length]?=some (.lst (ys.map f))/\(∀x,x∈ys↔x∈us.take i)/\ys.length=i/\g'[a]?=some (.lst [.int (k+i)])/\Keeps [a] g g') ⟨[],none,rfl,Qo _,λx=>by simp,rfl,by rw[Ui la,hc.at'];simp,k0⟩ (λi σ' g' hi ⟨ys,x4,h1,h2,h3,h4,h5,h6⟩=>by
   subst h1;have hx:us[i]?=some us[i]:=by simp[hi]
   have k00:=hc.k0;obtain⟨m,g2,m0,m1,e2,c2,k2,l2⟩:=QhD ns (⟨h5,by omega,by omega⟩:Cn g' a (k+i));have n2:=ZP k2 (show g.length≠a by omega) h2;have len:(ys.map f).length=i:=by rw[Ub,h4]
   have e3:mOp2 pMod (Qn Ys (Qa (mVar 0) (Qa (mVar 1) mNil))) (mOp2 pAdd (mOp1 pLen (mVar 3)) (mI 1)) [some (.fl (ns.map .int)),vR a,vR r,vR g.length,some (f us[i])] g'=.ok (.int (m % (i+1))) g2:=by refine Qk ((Qp rfl).trans e2) (Qk (x:=.int i) (y:=.int 1) (g1:=g2) (g2:=g2) (QY (x:=.ref g.length) (g1:=g2) rfl (by rw[Qbd n2,len])) rfl rfl) (modP (by omega))
   have b0:=UT m (show(i:Int)+1≠0 by omega);have b1:=UJ m (show(0:Int)<(i:Int)+1 by omega);refine⟨f us[i],_,[some (.fl (ns.map .int)),vR a,vR r,vR g.length,some (f us[i])],g2.set g.length (.lst ((insL ys (m % (i+1)).toNat us[i]).map f)),?_,rfl,Zs (d:=.non) ?_,insL ys (m % (i+1)).toNat us[i],some (f us[i]),rfl,Q6 n2,λx=>?_,by rw[QnV,h4],?_,⟨?_,λj o hj e=>?_⟩⟩
   ·rw[s3 g' i (QB (ZP h6 hra hr))];simp[hi]
   ·show Qeb (mVar 3) _ (mVar 4) [some (.fl (ns.map .int)),vR a,vR r,vR g.length,some (f us[i])] g'=_;unfold Qeb;rw[show mVar 3 [some (D.fl (ns.map .int)),vR a,vR r,vR g.length,some (f us[i])] g'=.ok (.ref g.length) g' from rfl,Res.bind_ok];dsimp only;rw[h2];dsimp only;rw[e3,Res.bind_ok,show mVar 4 [some (D.fl (ns.map .int)),vR a,vR r,vR g.length,some (f us[i])] g2=.ok (f us[i]) g2 from rfl,Res.bind_ok,n2];dsimp only;rw[Uj ⟨b0,by rw[len];omega,by rw[len];exact Ux hi (Ue hz (by decide))⟩,QnW]
   ·rw[QnU,h3,YD hx,Uq,Uf]
   ·rw[Uc (by omega),c2];congr 4;omega
   ·rw[UG];exact(h6.trans k2).len
   ·rw[Uc (by have:=Qy e;omega)];exact(h6.trans k2).at' j o hj e) (λσ g' ⟨_,_,_,_,_,_,_,h6⟩=>by rw[s3 g' _ (QB (ZP h6 hra hr))];simp)
 subst h1;rw[U5]at h3;have k00:=hc.k0;exact⟨g1,ys,Qu rfl (Qf _ _ (Qq Qai) (Qf _ g1 ((JB (QcB (x:=.ref r) rfl s1)).trans e1) rfl)),h2,h3,h4,⟨h5,by omega,hk⟩,h6⟩
end L3
namespace L3
open PySem
theorem QkG{i:Nat}{A B C:Nat}{U V W:List D}{x:Int}(hv:σ[i]?=some (some (QA x (.ref A) (.ref B) (.ref C))))(hA:g[A]?=some (.lst U))(hB:g[B]?=some (.lst V))(hC:g[C]?=some (.lst W)):
  Za (Qt (QI (mVar i) (Zh (mI 2)) Qw)) 1 [] (gSet 0) Zf (mOp1 JH (mVar 0)) σ g=.ok (.ref (g.length+3)) (g++[.lst U,.lst V,.lst W,.lst [.ref g.length,.ref (g.length+1),.ref (g.length+2)]]):=by
 have e0:QI (mVar i) (Zh (mI 2)) Qw σ g=.ok (.tup [.ref A,.ref B,.ref C]) g:=by simp only[Zq,ZZ,Q4,Qb7,ZG hv];rfl
 have one:∀{x:Nat}{X:List D}{l:G},g[x]?=some (.lst X)->mOp1 JH (mVar 0) [some (.ref x)] (g++l)=.ok (.ref (g.length+l.length)) (g++(l++[.lst X])):=λ{x X l} h=>by refine QY (x:=.ref x) (g1:=g++l) rfl ?_;unfold JH;dsimp only;rw[Ui (Qy h),h];dsimp only;rw[Uh,UQ]
 have h1:=one (l:=[]) hA;rw[Tu]at h1;have c:Z9 ⟨λ_ i=>some [D.ref A,.ref B,.ref C][i]?,3⟩ (gSet 0) Zf (mOp1 JH (mVar 0)) 4 0 [none] g []=.ok [.ref g.length,.ref (g.length+1),.ref (g.length+2)] (g++[.lst U,.lst V,.lst W]):=by unfold Z9;show(match mOp1 JH (mVar 0) [some (D.ref A)] g with | .ok y g2=>_|_=>_)=_;rw[h1];unfold Z9;show(match mOp1 JH (mVar 0) [some (D.ref B)] (g++[.lst U]) with | .ok y g2=>_|_=>_)=_;rw[one (l:=[.lst U]) hB];unfold Z9;show(match mOp1 JH (mVar 0) [some (D.ref C)] (g++[.lst U,.lst V]) with | .ok y g2=>_|_=>_)=_;rw[one (l:=[.lst U,.lst V]) hC];rfl
 rw[QbF (QcB e0 rfl) (by show 3<=SZ;decide) rfl c,Uh,UQ];rfl
theorem lt3{s:Int}(h0:0<=s)(h1:s<3):s=0\/s=1\/s=2:=by omega
theorem QkH{g:G}{L:Nat}{s:Int}{X:List D}{w n m:Nat}(hs:s=0\/s=1\/s=2)(ok:okP w n m us vs cs)(hA:g[L]?=some (.lst (us.map gmD)))(hB:g[L+1]?=some (.lst (vs.map gmD)))(hC:g[L+2]?=some (.lst (cs.map ctD)))(h0:s=0->∃us':List (List Int),X=us'.map gmD/\(∀u∈us',okG w m u)/\us'.length<=500)(h1:s=1->∃us':List (List Int),X=us'.map gmD/\(∀u∈us',okG w m u)/\us'.length<=500)(h2:s=2->∃cs':List Ct,X=cs'.map ctD/\(∀c∈cs',okC w n m c)/\cs'.length<=500):
  ∃us' vs' cs',Wl (g.set (L+s.toNat) (.lst X)) w (QA w (.ref L) (.ref (L+1)) (.ref (L+2))) us' vs' cs'/\okP w n m us' vs' cs':=by
 rcases hs with rfl|rfl|rfl
 ·obtain⟨us',rfl,q1,q2⟩:=h0 rfl;exact⟨us',vs,cs,⟨_,_,_,rfl,Q6 hA,(Uc (by simp)).trans hB,(Uc (by simp)).trans hC⟩,⟨q1,ok.v,ok.c,q2,ok.lv,ok.lc⟩⟩
 ·obtain⟨vs',rfl,q1,q2⟩:=h1 rfl;exact⟨us,vs',cs,⟨_,_,_,rfl,(Uc (by simp)).trans hA,Q6 hB,(Uc (by simp)).trans hC⟩,⟨ok.u,q1,ok.c,ok.lu,q2,ok.lc⟩⟩
 ·obtain⟨cs',rfl,q1,q2⟩:=h2 rfl;exact⟨us,vs,cs',⟨_,_,_,rfl,(Uc (by simp)).trans hA,(Uc (by simp)).trans hB,Q6 hC⟩,⟨ok.u,ok.v,q1,ok.lu,ok.lv,q2⟩⟩
def rowD(us vs:List (List Int))(cs:List Ct)(s:Int):List D:=if s=0 then us.map gmD else if s=1 then vs.map gmD else cs.map ctD
theorem Qbk{f:α->D}:∀(us:List α)(i:Nat),(us.map f).eraseIdx i=(us.eraseIdx i).map f
 |[],_=>rfl|_::_,0=>rfl|u::us,i+1=>by rw[UC,RH,RH,UC,Qbk us i]
theorem QnX{o i:ME}{n k:Nat}{X:List D}{d:D}(ho:o σ g=.ok (.ref n) g)(h:g[n]?=some (.lst X))(hi:i σ g=.ok (.int k) g)(hd:X[k]?=some d)(hz:k<=1000):Qll o i σ g=.ok d (g.set n (.lst (X.eraseIdx k))):=by unfold Qll;rw[ho,Res.bind_ok];dsimp only;rw[h];dsimp only;rw[hi,Res.bind_ok,h];dsimp only;rw[Uj ⟨by omega,by have:=Qdr hz;omega⟩,T9,hd]
theorem QhE{x:Int}(h:0<=x):∃k:Nat,x=k:=⟨x.toNat,by omega⟩
theorem Qez{o e:ME}{x:Int}{X:List D}{r:Nat}(ho:∀{g1:G},Keeps [] g g1->o σ g1=.ok (.ref r) g1)(h:g[r]?=some (.lst X))(he:e σ g=.ok (.int x) g)(hz:0<X.length):∃d∈X,mOp2 pIx o (mOp2 pMod e (mOp1 pLen o)) σ g=.ok d g:=by
 have b0:=UT x (show(X.length:Int)≠0 by omega);have b1:=UJ x (show(0:Int)<X.length by omega);have hl:(x%X.length).toNat<X.length:=by omega
 exact⟨X[(x%X.length).toNat],UY hl,Qk (ho .refl) (Qk he (QY (ho .refl) (Qbd h)) (modP (by omega))) (QdH h b0 (by simp[hl]))⟩
theorem Jk{e:ME}{x:Int}{k:Int}(he:e σ g=.ok (.int x) g)(h1:0<k)(h2:k<=1000000):mOp2 Zg e (mLit (.int k)) σ g=.ok (.int (x/k)) g:=Qk he rfl (divP h1 h2)
theorem Qcc{e:ME}{x:Int}{k:Int}(he:e σ g=.ok (.int x) g)(h1:0<k):mOp2 pMod e (mLit (.int k)) σ g=.ok (.int (x%k)) g:=Qk he rfl (modP h1)
theorem Yd{a:MA}{f:List D->G->Res D}(h:a σ g=.ok xs g1)(h2:f xs g1=R):mOpA f a σ g=R:=by rw[Qb8,h];exact h2
theorem QnY{o e:ME}{n:Nat}{X:List D}{y:D}(ho:o σ g=.ok (.ref n) g)(h:g[n]?=some (.lst X))(he:e σ g=.ok y g2)(h2:g2[n]?=some (.lst X))(hz:X.length<=1000):Yj o e σ g=.ok .non (g2.set n (.lst (X++[y]))):=by unfold Yj;rw[ho,Res.bind_ok];dsimp only;rw[h];dsimp only;rw[he,Res.bind_ok,h2];dsimp only;rw[Uj (Qdr hz)]
theorem Qgy{i:Nat}(hr:tabOf N g t rows)(ht:Tb rows n m)(hv:σ[i]?=some (vR t)):mOp1 pLen (mVar i) σ g=.ok (.int n) g:=by obtain⟨_,ds,d1,d2,_⟩:=hr;refine QY (ZG hv) ?_;rw[Qbd d1,d2,ht.ln]
theorem Qbl{i:Nat}(hr:tabOf N g t rows)(ht:Tb rows n m)(hn:1<=n)(hv:σ[i]?=some (vR t)):mOp1 pLen (mOp2 pIx (mVar i) (mI 0)) σ g=.ok (.int m) g:=by
 obtain⟨_,ds,d1,d2,d3⟩:=hr;have l0:0<rows.length:=by rw[ht.ln];omega
 obtain⟨x,a1,_,_,a2⟩:=d3 0 ds[0] rows[0] (by simp[d2,l0]) (by simp[l0]);refine QY (x:=.ref x) (g1:=g) (Qk (x:=.ref t) (y:=.int (0:Nat)) (ZG hv) rfl (Qaf d1 (by rw[<-a1];simp[d2,l0]))) ?_;rw[Qbd a2,ht.lm _ (UY l0)]
theorem Qig(ns:List Int)(hc:Cn g a k)(hr:tabOf N g t rows)(haN:a<N)(ht:Tb rows n m)(f:Few w n m)(hw:w<=2)(W:Wl g w d us vs cs)(ok:okP w n m us vs cs)(lu:us.length<500)(lv:vs.length<500)(lc:cs.length<500):
  ∃d' g' us' vs' cs',QaR [.fl (ns.map .int),.ref a,.ref t,d] g=.ok d' g'/\Wl g' w d' us' vs' cs'/\okP w n m us' vs' cs'/\g'[a]?=some (.lst [.int (k+1)])/\Keeps [a] g g':=by
 obtain⟨A,B,C,rfl,hA,hB,hC⟩:=W;have n1:=f.n1;have m2:=f.m2;have m3:=f.m3;obtain⟨mm,g1,m0,m1,e1,c1,k1,l1⟩:=QhD ns hc;have nA:A≠a:=λz=>by rw[z,hc.at']at hA;cases us with|nil=>cases hA|cons _ _=>cases hA
 have nB:B≠a:=λz=>by rw[z,hc.at']at hB;cases vs with|nil=>cases hB|cons _ _=>cases hB
 have nC:C≠a:=λz=>by rw[z,hc.at']at hC;cases cs with|nil=>cases hC|cons _ _=>cases hC
 have e2:=QkG (i:=3) (σ:=[some (.fl (ns.map .int)),vR a,vR t,some (QA w (.ref A) (.ref B) (.ref C)),vI mm,none,none,none,none,none,none]) rfl (ZP k1 nA hA) (ZP k1 nB hB) (ZP k1 nC hC);have k2:Keeps [] g1 (g1++[.lst (us.map gmD),.lst (vs.map gmD),.lst (cs.map ctD),.lst [.ref g1.length,.ref (g1.length+1),.ref (g1.length+2)]]):=⟨by simp,λj o _ e=>by rw[Ui (Qy e)];exact e⟩;have q0:(g1++[GO.lst (us.map gmD),.lst (vs.map gmD),.lst (cs.map ctD),.lst [.ref g1.length,.ref (g1.length+1),.ref (g1.length+2)]])[g1.length]?=some (.lst (us.map gmD)):=get0;have q1:(g1++[GO.lst (us.map gmD),.lst (vs.map gmD),.lst (cs.map ctD),.lst [.ref g1.length,.ref (g1.length+1),.ref (g1.length+2)]])[g1.length+1]?=some (.lst (vs.map gmD)):=getx rfl;have q2:(g1++[GO.lst (us.map gmD),.lst (vs.map gmD),.lst (cs.map ctD),.lst [.ref g1.length,.ref (g1.length+1),.ref (g1.length+2)]])[g1.length+2]?=some (.lst (cs.map ctD)):=getx rfl;have q3:(g1++[GO.lst (us.map gmD),.lst (vs.map gmD),.lst (cs.map ctD),.lst [.ref g1.length,.ref (g1.length+1),.ref (g1.length+2)]])[g1.length+3]?=some (.lst [.ref g1.length,.ref (g1.length+1),.ref (g1.length+2)]):=getx rfl;generalize g1++[GO.lst (us.map gmD),.lst (vs.map gmD),.lst (cs.map ctD),.lst [.ref g1.length,.ref (g1.length+1),.ref (g1.length+2)]]=g2 at e2 k2 q0 q1 q2 q3;have la:=Qy c1;generalize hL:g1.length=L at e2 q0 q1 q2 q3 la;have k12:Keeps [a] g g2:=k1.trans k2.all;have s0:=UT mm (show(3:Int)≠0 by decide);have hs:=lt3 s0 (UJ mm (show(0:Int)<3 by decide));generalize hsd:mm%3=s at s0 hs;have hX:g2[L+s.toNat]?=some (.lst (rowD us vs cs s)):=by rcases hs with rfl|rfl|rfl;exact q0;exact q1;exact q2
 have lX:(rowD us vs cs s).length<500:=by unfold rowD;split;simpa using lu;split;simpa using lv;simpa using lc
 have idx:∀{gx:G}{x7 x8 x9 x10:Option D},gx[L+3]?=some (.lst [.ref L,.ref (L+1),.ref (L+2)])->mOp2 pIx (mVar 5) (mVar 6) [some (.fl (ns.map .int)),vR a,vR t,some (QA w (.ref A) (.ref B) (.ref C)),vI mm,vR (L+3),vI s,x7,x8,x9,x10] gx=.ok (.ref (L+s.toNat)) gx:=λh=>Qk (x:=.ref (L+3)) (y:=.int s) rfl rfl (QdH h s0 (by rcases hs with rfl|rfl|rfl<;>rfl));have fin:∀{gx:G}{x7 x8 x9 x10:Option D},gx[L+3]?=some (.lst [.ref L,.ref (L+1),.ref (L+2)])->mRet (mOpA pTup (Qa (mLit (.str "wall")) (Qa (mOp2 pIx (mVar 3) (mI 1)) (Qa (mOp2 pIx (mVar 5) (mI 0)) (Qa (mOp2 pIx (mVar 5) (mI 1)) (Qa (mOp2 pIx (mVar 5) (mI 2)) mNil)))))) [some (.fl (ns.map .int)),vR a,vR t,some (QA w (.ref A) (.ref B) (.ref C)),vI mm,vR (L+3),vI s,x7,x8,x9,x10] gx=.rt (QA w (.ref L) (.ref (L+1)) (.ref (L+2))) gx:=λ{gx} _ _ _ _ h=>
  QX (Yd (Qd (g1:=gx) rfl (Qd (g1:=gx) (Qk (x:=QA w (.ref A) (.ref B) (.ref C)) (g1:=gx) rfl rfl Qc0) (Qd (g1:=gx) (Qk (x:=.ref (L+3)) (y:=.int (0:Nat)) (g1:=gx) rfl rfl (Qaf h rfl)) (Qd (g1:=gx) (Qk (x:=.ref (L+3)) (y:=.int (1:Nat)) (g1:=gx) rfl rfl (Qaf h rfl)) (Qd (g1:=gx) (Qk (x:=.ref (L+3)) (y:=.int (2:Nat)) (g1:=gx) rfl rfl (Qaf h rfl)) rfl))))) (Qc3 _ _ (by show 5<=100;decide)))
 have setk:∀{gx:G}{X:List D},Keeps [] g2 gx->Keeps [a] g (gx.set (L+s.toNat) (.lst X))/\(gx.set (L+s.toNat) (.lst X))[a]?=some (.lst [.int (k+1)])/\(gx.set (L+s.toNat) (.lst X))[L+3]?=some (.lst [.ref L,.ref (L+1),.ref (L+2)]):=λ{gx X} kx=>by
  refine⟨⟨by rw[UG];exact(k12.trans kx.all).len,λj o hj e=>?_⟩,?_,?_⟩
  ·rw[Uc (by have:=Qy e;omega)];exact(k12.trans kx.all).at' j o hj e
  ·rw[Uc (by omega)];exact(k2.trans kx).at' _ _ (by simp) c1
  ·rw[Uc (by rcases hs with rfl|rfl|rfl<;>simp)];exact kx.at' _ _ (by simp) q3
 have c2:Ql (mOp2 pEq (mOp2 pMod (mOp2 Zg (mVar 4) (mI 3)) (mI 2)) (mI 0)) [some (.fl (ns.map .int)),vR a,vR t,some (QA w (.ref A) (.ref B) (.ref C)),vI mm,vR (L+3),vI s,none,none,none,none] g2=.ok (mm/3%2==0) g2:=Qz (Qk (Qcc (Jk (x:=mm) rfl (by decide) (by decide)) (by decide)) rfl rfl);have c3:Ql (mOp2 pGt (mOp1 pLen (mOp2 pIx (mVar 5) (mVar 6))) (mI 0)) [some (.fl (ns.map .int)),vR a,vR t,some (QA w (.ref A) (.ref B) (.ref C)),vI mm,vR (L+3),vI s,none,none,none,none] g2=.ok (decide (0<(rowD us vs cs s).length)) g2:=Qz (Qk (QY (idx q3) (Qbd hX)) rfl (by rw[QlB];simp));have c4:∃z,QfY (Ql (mOp2 pEq (mOp2 pMod (mOp2 Zg (mVar 4) (mI 3)) (mI 2)) (mI 0))) (Ql (mOp2 pGt (mOp1 pLen (mOp2 pIx (mVar 5) (mVar 6))) (mI 0))) [some (.fl (ns.map .int)),vR a,vR t,some (QA w (.ref A) (.ref B) (.ref C)),vI mm,vR (L+3),vI s,none,none,none,none] g2=.ok z g2/\(z=true->0<(rowD us vs cs s).length):=by
  rw[Qj9,c2];dsimp only;cases mm/3%2==0 with
  |false=>exact⟨false,rfl,λz=>by cases z⟩|true=>rw[Uj rfl,c3];exact⟨_,rfl,UO⟩
 obtain⟨z,c4,zt⟩:=c4;cases z with
 |true=>
  have hp:=zt rfl;have b0:=UT (mm/6) (show((rowD us vs cs s).length:Int)≠0 by omega);have b1:=UJ (mm/6) (show(0:Int)<(rowD us vs cs s).length by omega);obtain⟨i,hi⟩:=QhE b0;have il:i<(rowD us vs cs s).length:=by omega
  have e3:=QnX (σ:=[some (.fl (ns.map .int)),vR a,vR t,some (QA w (.ref A) (.ref B) (.ref C)),vI mm,vR (L+3),vI s,none,none,none,none]) (idx q3) hX (i:=mOp2 pMod (mOp2 Zg (mVar 4) (mI 6)) (mOp1 pLen (mOp2 pIx (mVar 5) (mVar 6)))) (k:=i) (by rw[<-hi];exact Qk (Jk (x:=mm) rfl (by decide) (by decide)) (QY (idx q3) (Qbd hX)) (modP (by omega))) (d:=(rowD us vs cs s)[i]) (by simp[il]) (by omega);obtain⟨r1,r2,r3⟩:=setk (X:=(rowD us vs cs s).eraseIdx i) .refl;obtain⟨us',vs',cs',w1,w2⟩:=QkH (X:=(rowD us vs cs s).eraseIdx i) hs ok q0 q1 q2 (λz=>⟨us.eraseIdx i,by rw[z];exact Qbk ..,λu hu=>ok.u u (RC hu),Ue (RK ..) ok.lu⟩) (λz=>⟨vs.eraseIdx i,by rw[z];exact Qbk ..,λu hu=>ok.v u (RC hu),Ue (RK ..) ok.lv⟩) (λz=>⟨cs.eraseIdx i,by rw[z];exact Qbk ..,λu hu=>ok.c u (RC hu),Ue (RK ..) ok.lc⟩);exact⟨_,_,us',vs',cs',Qu rfl (Qf _ g1 (Qq ((Qp rfl).trans e1)) (Qf _ g2 (Qq e2) (Qf _ g2 (Qq (by rw[<-hsd];exact Qcc (x:=mm) rfl (by decide))) (Qf _ _ (ift g2 c4 (Zs e3)) (fin r3))))),w1,w2,r2,r1⟩
 |false=>
  obtain⟨gs,r,g3,e3,h3,o3,l3,k3,_⟩:=QhC (g:=g2) (m:=m) (w:=w) (by omega) m3 hw;have hr2:tabOf N g2 t rows:=hr.mono k12 (by simp[haN]);have hr3:tabOf N g3 t rows:=hr2.mono k3 (by simp);have gpos:0<(gs.map gmD).length:=by rw[Ub,l3];exact Nat.pow_pos (by omega)
  obtain⟨d1,m1',p1⟩:=Qez (g:=g3) (σ:=[some (.fl (ns.map .int)),vR a,vR t,some (QA w (.ref A) (.ref B) (.ref C)),vI mm,vR (L+3),vI s,vR r,none,none,none]) (o:=mVar 7) (λ_=>rfl) h3 (e:=mOp2 Zg (mVar 4) (mI 6)) (Jk (x:=mm) rfl (by decide) (by decide)) gpos;obtain⟨u1,hu1,rfl⟩:=UE.mp m1';obtain⟨d2,m2',p2⟩:=Qez (g:=g3) (σ:=[some (.fl (ns.map .int)),vR a,vR t,some (QA w (.ref A) (.ref B) (.ref C)),vI mm,vR (L+3),vI s,vR r,vM u1,none,none]) (o:=mVar 7) (λ_=>rfl) h3 (e:=mOp2 Zg (mVar 4) (mI 100)) (Jk (x:=mm) rfl (by decide) (by decide)) gpos;obtain⟨u2,hu2,rfl⟩:=UE.mp m2';have p0:=UT (mm/1000) (show(n:Int)≠0 by omega);have p1':=UJ (mm/1000) (show(0:Int)<n by omega);have r0:=UT (mm/3000) (show(m:Int)≠0 by omega);have r1':=UJ (mm/3000) (show(0:Int)<m by omega);have p3:mOpA pTup (Qa (mVar 8) (Qa (mOp2 pMod (mOp2 Zg (mVar 4) (mI 1000)) (mOp1 pLen (mVar 2))) (Qa (mOp2 pMod (mOp2 Zg (mVar 4) (mI 3000)) (mOp1 pLen (mOp2 pIx (mVar 2) (mI 0)))) (Qa (mVar 9) mNil)))) [some (.fl (ns.map .int)),vR a,vR t,some (QA w (.ref A) (.ref B) (.ref C)),vI mm,vR (L+3),vI s,vR r,vM u1,vM u2,none] g3=.ok (ctD (u1,mm/1000%n,mm/3000%m,u2)) g3:=Yd (Qd (x:=gmD u1) (g1:=g3) rfl (Qd (Qk (Jk (x:=mm) rfl (by decide) (by decide)) (Qgy hr3 ht rfl) (modP (by omega))) (Qd (Qk (Jk (x:=mm) rfl (by decide) (by decide)) (Qbl hr3 ht n1 rfl) (modP (by omega))) (Qd (x:=gmD u2) (g1:=g3) rfl rfl)))) (Qc3 _ _ (by show 4<=100;decide))
  have okc:okC w n m (u1,mm/1000%n,mm/3000%m,u2):=⟨o3 u1 hu1,⟨p0,p1'⟩,⟨r0,r1'⟩,o3 u2 hu2⟩;have k4:Keeps [] g3 (g3++[GO.lst [gmD u1,gmD u2,ctD (u1,mm/1000%n,mm/3000%m,u2)]]):=.push _;have k34:=k3.trans k4;obtain⟨y,hy,y0,y1,y2⟩:∃y,[gmD u1,gmD u2,ctD (u1,mm/1000%n,mm/3000%m,u2)][s.toNat]?=some y/\(s=0->y=gmD u1)/\(s=1->y=gmD u2)/\(s=2->y=ctD (u1,mm/1000%n,mm/3000%m,u2)):=by
   rcases hs with rfl|rfl|rfl
   ·exact⟨_,rfl,λ_=>rfl,λz=>absurd z (by decide),λz=>absurd z (by decide)⟩
   ·exact⟨_,rfl,λz=>absurd z (by decide),λ_=>rfl,λz=>absurd z (by decide)⟩
   ·exact⟨_,rfl,λz=>absurd z (by decide),λz=>absurd z (by decide),λ_=>rfl⟩
  have e4:=QnY (σ:=[some (.fl (ns.map .int)),vR a,vR t,some (QA w (.ref A) (.ref B) (.ref C)),vI mm,vR (L+3),vI s,vR r,vM u1,vM u2,some (ctD (u1,mm/1000%n,mm/3000%m,u2))]) (idx (k3.at' _ _ (by simp) q3)) (k3.at' _ _ (by simp) hX) (e:=mOp2 pIx (mOpA newL (Qa (mVar 8) (Qa (mVar 9) (Qa (mVar 10) mNil)))) (mVar 6)) (Qk (x:=.ref g3.length) (y:=.int s) (g1:=g3++[GO.lst [gmD u1,gmD u2,ctD (u1,mm/1000%n,mm/3000%m,u2)]]) rfl rfl (QdH (Qo _) s0 hy)) (k34.at' _ _ (by simp) hX) (by omega);obtain⟨r1,r2,r3⟩:=setk (X:=rowD us vs cs s++[y]) k34;obtain⟨us',vs',cs',w1,w2⟩:=QkH (X:=rowD us vs cs s++[y]) hs ok (k34.at' _ _ (by simp) q0) (k34.at' _ _ (by simp) q1) (k34.at' _ _ (by simp) q2) (λz=>⟨us++[u1],by rw[y0 z,z,Uz];rfl,λu hu=>(Uq.mp hu).elim (ok.u u) λz=>by rw[Uf.mp z];exact o3 u1 hu1,by rw[Uh];exact lu⟩) (λz=>⟨vs++[u2],by rw[y1 z,z,Uz];rfl,λu hu=>(Uq.mp hu).elim (ok.v u) λz=>by rw[Uf.mp z];exact o3 u2 hu2,by rw[Uh];exact lv⟩) (λz=>⟨cs++[(u1,mm/1000%n,mm/3000%m,u2)],by rw[y2 z,z,Uz];rfl,λu hu=>(Uq.mp hu).elim (ok.c u) λz=>by rw[Uf.mp z];exact okc,by rw[Uh];exact lc⟩);refine⟨_,_,us',vs',cs',Qu rfl (Qf _ g1 (Qq ((Qp rfl).trans e1)) (Qf _ g2 (Qq e2) (Qf _ g2 (Qq (by rw[<-hsd];exact Qcc (x:=mm) rfl (by decide))) (Qf _ _ (iff' g2 c4 (Qf _ g3 (Qq ((Qp (Qd (Qbl hr2 ht n1 rfl) (Qd (x:=.int w) (g1:=g2) (Qk (x:=QA w (.ref A) (.ref B) (.ref C)) (g1:=g2) rfl rfl Qc0) rfl))).trans e3)) (Qf _ g3 (Qq p1) (Qf _ g3 (Qq p2) (Qf _ g3 (Qq p3) (Zs e4)))))) (fin r3))))),w1,w2,r2,r1⟩
end L3
namespace L3
open PySem
def NPk(M:Nat)(g:G)(d:D):Prop:=∀g1,Keeps [] g g1->∃g',YA [.ref M,d] g1=.ok (.bl false) g'/\Keeps [] g1 g'
theorem NPk.keep(h:NPk M g d)(k:Keeps [] g g1):NPk M g1 d:=λg2 k2=>h g2 (k.trans k2)
theorem NPk.of(h:∀g1,Keeps [] g g1->NoP M g1 d):NPk M g d:=λg1 k=>let ⟨g',h1,h2⟩:=h g1 k;⟨g',Qu rfl (Zl (ift g' (Qcj (QC (x:=false) ((Qp rfl).trans h1))) rfl)),h2⟩
theorem QlU(hM:g[M]?=some (Y4 rows))(ht:Tb rows n m)(hn:1<=n)(hW:1<=W)(ha:sOk g (gOk g) a)(hb:sOk g (gOk g) b)(hc:sOk g (cOk g) c)(h:(ZK g (Zw W m) a&&ZK g (Zw W m) b&&ZK g (ctxB W n m) c)=false):NPk M g (QA W a b c):=.of λg1 k=>by obtain⟨g',e,k'⟩:=QkA (k.at' M _ (by simp) hM) ht hn hW (ha.up (λh=>h.keep k) k) (hb.up (λh=>h.keep k) k) (hc.up (λh=>h.keep k) k);rw[ha.all k,hb.all k,hc.all k,h]at e;exact⟨g',e,k'⟩
theorem Qbm(h:QU g x=some (b,ds))(hd:d∈ds)(hP:P d=false):ZK g P x=false:=by unfold ZK;rw[h];exact WK.mpr λz=>by rw[UL.mp z d hd]at hP;cases hP
theorem QeA(h:QU g x=some (b,ds))(ho:∀d∈ds,ok d)(hz:ds.length<=1000):sOk g ok x:=.inl ⟨b,ds,h,ho,hz⟩
theorem Qgz(h:(u.length:Int)≠W):Zw W m (gmD u)=false:=by unfold Zw gmD;dsimp only;rw[Ub,U9.mpr h];rfl
theorem QeB(hd:d∈ds)(h:Z7 d m=false):Zw W m (.tup ds)=false:=by unfold Zw;dsimp only;rw[Bool.and_eq_false_iff];exact .inr (WK.mpr λz=>by rw[UL.mp z d hd]at h;cases h)
def Sm(M:Nat)(g:G)(p:Nat)(b:Nat):Prop:=∃S,g[p]?=some (.lst S)/\S.length<=b/\0<S.length/\∀d∈S,NPk M g d
theorem Sm.keep(h:Sm M g p b)(k:Keeps [] g g1):Sm M g1 p b:=let ⟨S,h1,h2,h3,h4⟩:=h;⟨S,k.at' _ _ (by simp) h1,h2,h3,λd hd=>(h4 d hd).keep k⟩
theorem QgA(hz:ds.length<=1000):newL ds g=.ok (.ref g.length) (g++[.lst ds]):=Uj (Ue hz (by decide))
theorem Y7(ho:o σ g=.ok (.ref p) g)(hS:g[p]?=some (.lst S))(he:a σ g=.ok ds g1)(k:Keeps [] g g1)(hz:S.length+ds.length<=1000):mOp2 pAdd o (mOpA newL a) σ g=.ok (.ref (g1.length+1)) (g1++[.lst ds,.lst (S++ds)])/\Keeps [] g (g1++[.lst ds,.lst (S++ds)])/\(g1++[GO.lst ds,.lst (S++ds)])[g1.length+1]?=some (.lst (S++ds)):=by refine⟨Qk (x:=.ref p) (y:=.ref g1.length) (g1:=g) (g2:=g1++[.lst ds]) ho (Yd he (QgA (by omega))) ?_,k.trans ⟨by simp,λj o _ e=>by rw[Ui (Qy e)];exact e⟩,getx rfl⟩;unfold pAdd;dsimp only;have k2:Keeps [] g1 (g1++[GO.lst ds]):=.push _;rw[(k.trans k2).at' p _ (by simp) hS,Qo];dsimp only;rw[Uj (Ue hz (by decide)),UQ,Uh];rfl
theorem Sm.row(h:Sm M g p b)(hv:σ[15]?=some (vR p))(he:a σ g=.ok ds g1)(k:Keeps [] g g1)(hd:∀d∈ds,NPk M g1 d)(hz:b+ds.length<=c)(hc:c<=1000):∃g' p',mAsg (gSet 15) (mOp2 pAdd (mVar 15) (mOpA newL a)) σ g=.nx (σ.set 15 (vR p')) g'/\Sm M g' p' c/\Keeps [] g g':=by
 obtain⟨S,h1,h2,h3,h4⟩:=h;obtain⟨e,k2,q⟩:=Y7 (ZG hv) h1 he k (by omega);refine⟨_,_,Qq e,⟨_,q,by rw[Uh];omega,by rw[Uh];omega,λd hd'=>?_⟩,k2⟩;rcases Uq.mp hd' with z|z
 ·exact(h4 d z).keep k2
 ·exact(hd d z).keep ⟨by simp,λj o _ e=>by rw[Ui (Qy e)];exact e⟩
end L3
namespace L3
open PySem
section
structure Bt(g:G)(M t A B C N:Nat)(rows:List (List D))(n m w:Nat)(us vs:List (List Int))(cs:List Ct):Prop where
 hM:g[M]?=some (Y4 rows)
 hr:tabOf N g t rows
 ht:Tb rows n m
 n1:1<=n
 w1:1<=w
 w2:w<=100
 ok:okP w n m us vs cs
 hA:g[A]?=some (.lst (us.map gmD))
 hB:g[B]?=some (.lst (vs.map gmD))
 hC:g[C]?=some (.lst (cs.map ctD))
 lu:us.length<500
 lv:vs.length<500
 lc:cs.length<500
variable{g g1:G}{M t A B C N:Nat}{rows:List (List D)}{n m w:Nat}{us vs:List (List Int)}{cs:List Ct}{ns:List Int}{a:Nat}{mm:Int}{c:Ct}{x15 x16 x17 x18:Option D}
theorem Bt.keep(h:Bt g M t A B C N rows n m w us vs cs)(k:Keeps [] g g1):Bt g1 M t A B C N rows n m w us vs cs:=⟨k.at' _ _ (by simp) h.hM,h.hr.mono k (by simp),h.ht,h.n1,h.w1,h.w2,h.ok,k.at' _ _ (by simp) h.hA,k.at' _ _ (by simp) h.hB,k.at' _ _ (by simp) h.hC,h.lu,h.lv,h.lc⟩
theorem Bt.sA(h:Bt g M t A B C N rows n m w us vs cs):sOk g (gOk g) (.ref A):=Qc9 (QB h.hA) (λu hu=>QbJ (h.ok.u u hu) h.w2) (by have:=h.lu;omega)
theorem Bt.sB(h:Bt g M t A B C N rows n m w us vs cs):sOk g (gOk g) (.ref B):=Qc9 (QB h.hB) (λu hu=>QbJ (h.ok.v u hu) h.w2) (by have:=h.lv;omega)
theorem Bt.sC(h:Bt g M t A B C N rows n m w us vs cs):sOk g (cOk g) (.ref C):=Qc9 (QB h.hC) (λu hu=>QlR (h.ok.c u hu) h.w2) (by have:=h.lc;omega)
theorem Bt.five(h:Bt g M t A B C N rows n m w us vs cs)(hW:1<=W)(hx:sOk g (gOk g) x)(hy:sOk g (gOk g) y)(hz:sOk g (cOk g) z)(f:ZK g (Zw W m) x=false\/ZK g (Zw W m) y=false\/ZK g (ctxB W n m) z=false):NPk M g (QA W x y z):=QlU h.hM h.ht h.n1 hW hx hy hz (by rcases f with f|f|f<;>simp[f])
abbrev Sg(ns:List Int)(a t A B C w m:Nat)(mm:Int)(c:Ct)(x15 x16 x17 x18:Option D):S3:=[some (.fl (ns.map .int)),vR a,vR t,some (QA w (.ref A) (.ref B) (.ref C)),vI mm,some (.str "wall"),vI w,vR A,vR B,vR C,vM c.1,vI c.2.1,vI c.2.2.1,vM c.2.2.2,vM (m::c.1.tail),x15,x16,x17,x18]
theorem QcC(hk:g[k]?=some (.lst (us.map gmD++[d])))(hu:∀u∈us,gOk g (gmD u))(hd:gOk g d)(hP:P d=false)(hz:us.length<500):sOk g (gOk g) (.ref k)/\ZK g P (.ref k)=false:=⟨QeA (QB hk) (λx hx=>(Uq.mp hx).elim (λz=>(by obtain⟨u,h,rfl⟩:=UE.mp z;exact hu u h)) λz=>(by rw[Uf.mp z];exact hd)) (by rw[Uh,Ub];show _+1<=_;omega),Qbm (QB hk) (d:=d) (by simp) hP⟩
theorem QqE(B0:Bt g M t A B C N rows n m w us vs cs)(h:Sm M g p 2):∃g' p',mAsg (gSet 15) (mOp2 pAdd (mVar 15) (mOpA newL (Qa (mOpA pTup (Qa (mLit (.str "wall")) (Qa (mVar 6) (Qa (mVar 7) (Qa (mVar 8) mNil))))) (Qa (mOp2 pAdd (mVar 3) (mOpA pTup (Qa (mVar 7) mNil))) (Qa (mOpA pTup (Qa (mLit (.str "wall")) (Qa (mLit (.bl true)) (Qa (mVar 7) (Qa (mVar 8) (Qa (mVar 9) mNil)))))) mNil))))) (Sg ns a t A B C w m mm c (vR p) x16 x17 x18) g=.nx (Sg ns a t A B C w m mm c (vR p') x16 x17 x18) g'/\Sm M g' p' 5/\Keeps [] g g':=
 h.row (ds:=[.tup [.str "wall",.int w,.ref A,.ref B],.tup [.str "wall",.int w,.ref A,.ref B,.ref C,.ref A],.tup [.str "wall",.bl true,.ref A,.ref B,.ref C]]) rfl rfl .refl (λd hd=>by
  simp only[Uv,U6,RA]at hd;rcases hd with rfl|rfl|rfl
  ·exact .of λ_ _=>QbI (by simp)
  ·exact .of λ_ _=>QbI (by simp)
  ·exact .of λ_ _=>QlN) (by simp) (by decide)
theorem QqF(B0:Bt g M t A B C N rows n m w us vs cs)(okc:okC w n m c)(h:Sm M g p 5):∃g' p',mAsg (gSet 15) (mOp2 pAdd (mVar 15) (mOpA newL (Qa (mOpA pTup (Qa (mLit (.str "wall")) (Qa (mVar 6) (Qa (mOp2 pAdd (mVar 7) (mOpA newL (Qa (mOp2 pAdd (mVar 10) (mOpA pTup (Qa (mI 0) mNil))) mNil))) (Qa (mVar 8) (Qa (mVar 9) mNil)))))) (Qa (mOpA pTup (Qa (mLit (.str "wall")) (Qa (mVar 6) (Qa (mOpA newL mNil) (Qa (mOpA newL mNil) (Qa (mVar 9) mNil)))))) mNil)))) (Sg ns a t A B C w m mm c (vR p) x16 x17 x18) g=.nx (Sg ns a t A B C w m mm c (vR p') x16 x17 x18) g'/\Sm M g' p' 7/\Keeps [] g g':=by
 have hl:=okc.1.1;have w2:=B0.w2;have lu:=B0.lu;obtain⟨e1,k1,q1⟩:=Y7 (g:=g) (σ:=Sg ns a t A B C w m mm c (vR p) x16 x17 x18) (o:=mVar 7) (a:=Qa (mOp2 pAdd (mVar 10) (mOpA pTup (Qa (mI 0) mNil))) mNil) (ds:=[gmD (c.1++[0])]) rfl B0.hA (Qd (Qk (x:=gmD c.1) (y:=.tup [.int 0]) (g1:=g) (g2:=g) rfl rfl (Qgx _ _ _ (by omega))) rfl) .refl (by simp;omega);generalize hg1:g++[GO.lst [gmD (c.1++[0])],.lst (us.map gmD++[gmD (c.1++[0])])]=g1 at e1 k1 q1;have k2:Keeps [] g1 (g1++[GO.lst []]++[GO.lst []]):=(Keeps.push _).trans (.push _);have l2:(g1++[GO.lst []]).length=g1.length+1:=by simp
 have B2:=B0.keep (k1.trans k2);have q2:=k2.at' _ _ (by simp) q1;have r1:(g1++[GO.lst []]++[GO.lst []])[g1.length]?=some (.lst []):=(Keeps.push (S:=[]) _).at' _ _ (by simp) (Qo _);have r2:(g1++[GO.lst []]++[GO.lst []])[g1.length+1]?=some (.lst []):=by rw[<-l2];exact Qo _
 refine h.row (g1:=g1++[GO.lst []]++[GO.lst []]) (ds:=[QA w (.ref (g.length+1)) (.ref B) (.ref C),QA w (.ref g1.length) (.ref (g1.length+1)) (.ref C)]) rfl (Qd (Yd (Qd (g1:=g) rfl (Qd (g1:=g) rfl (Qd e1 (Qd (g1:=g1) rfl (Qd (g1:=g1) rfl rfl))))) rfl) (Qd (Yd (Qd (g1:=g1) rfl (Qd (g1:=g1) rfl (Qd (g1:=g1++[GO.lst []]) rfl (Qd (x:=.ref (g1.length+1)) (g1:=g1++[GO.lst []]++[GO.lst []]) (by rw[<-l2];rfl) (Qd (g1:=g1++[GO.lst []]++[GO.lst []]) rfl rfl))))) rfl) rfl)) (k1.trans k2) (λd hd=>?_) (by simp) (by decide);simp only[Uv,U6,RA]at hd;rcases hd with rfl|rfl
 ·obtain⟨s1,s2⟩:=QcC (P:=Zw w m) q2 (λu hu=>QbJ (B0.ok.u u hu) w2) ⟨λx hx=>(by obtain⟨i,_,rfl⟩:=UE.mp hx;rfl),by simp;omega⟩ (Qgz (by simp;omega)) lu;exact B2.five (by have:=B0.w1;omega) s1 B2.sB B2.sC (.inl s2)
 ·intro g3 k3;have B3:=B2.keep k3;obtain⟨g',e,k⟩:=QcA (us:=[]) (vs:=[]) B3.hM B3.ht B3.n1 B3.w1 B3.w2 ⟨λ_ h=>(by cases h),λ_ h=>(by cases h),B3.ok.c,by simp,by simp,B3.ok.lc⟩ (QB (k3.at' _ _ (by simp) r1)) (QB (k3.at' _ _ (by simp) r2)) (QB B3.hC);exact⟨g',by rw[e];simp[clB],k⟩
theorem QqG(B0:Bt g M t A B C N rows n m w us vs cs)(okc:okC w n m c)(h:Sm M g p 7):∃g' p',mAsg (gSet 15) (mOp2 pAdd (mVar 15) (mOpA newL (Qa (mOpA pTup (Qa (mLit (.str "wall")) (Qa (mVar 6) (Qa (mVar 7) (Qa (mOp2 pAdd (mVar 8) (mOpA newL (Qa (mVar 14) mNil))) (Qa (mVar 9) mNil)))))) (Qa (mOpA pTup (Qa (mLit (.str "wall")) (Qa (mVar 6) (Qa (mLit .non) (Qa (mVar 8) (Qa (mVar 9) mNil)))))) mNil)))) (Sg ns a t A B C w m mm c (vR p) x16 x17 x18) g=.nx (Sg ns a t A B C w m mm c (vR p') x16 x17 x18) g'/\Sm M g' p' 9/\Keeps [] g g':=by
 have hl:=okc.1.1;have w2:=B0.w2;have lv:=B0.lv;obtain⟨e1,k1,q1⟩:=Y7 (g:=g) (σ:=Sg ns a t A B C w m mm c (vR p) x16 x17 x18) (o:=mVar 8) (a:=Qa (mVar 14) mNil) (ds:=[gmD (m::c.1.tail)]) rfl B0.hB rfl .refl (by simp;omega);generalize hg1:g++[GO.lst [gmD (m::c.1.tail)],.lst (vs.map gmD++[gmD (m::c.1.tail)])]=g1 at e1 k1 q1;have B2:=B0.keep k1;have hW:(1:Int)<=w:=by have:=B0.w1;omega
 refine h.row (g1:=g1) (ds:=[QA w (.ref A) (.ref (g.length+1)) (.ref C),QA w .non (.ref B) (.ref C)]) rfl (Qd (Yd (Qd (g1:=g) rfl (Qd (g1:=g) rfl (Qd (g1:=g) rfl (Qd e1 (Qd (g1:=g1) rfl rfl))))) rfl) (Qd (g1:=g1) rfl rfl)) k1 (λd hd=>?_) (by simp) (by decide);simp only[Uv,U6,RA]at hd;rcases hd with rfl|rfl
 ·obtain⟨s1,s2⟩:=QcC (P:=Zw w m) q1 (λu hu=>QbJ (B0.ok.v u hu) w2) ⟨λx hx=>(by obtain⟨i,_,rfl⟩:=UE.mp hx;rfl),by simp;omega⟩ (QeB (d:=.int m) (Us ..) (Uu λz=>by omega)) lv;exact B2.five hW B2.sA s1 B2.sC (.inr (.inl s2))
 ·exact B2.five hW (.inr rfl) B2.sB B2.sC (.inl rfl)
theorem QqH(B0:Bt g M t A B C N rows n m w us vs cs)(h:Sm M g p 9):∃g' p',mAsg (gSet 15) (mOp2 pAdd (mVar 15) (mOpA newL (Qa (mOpA pTup (Qa (mLit (.str "wall")) (Qa (mVar 6) (Qa (mOp2 pAdd (mVar 7) (mOpA newL (Qa (mOp2 Qdq (mOpA pTup (Qa (mLit (.bl true)) mNil)) (mVar 6)) mNil))) (Qa (mVar 8) (Qa (mVar 9) mNil)))))) (Qa (mOp1 JH (mVar 3)) mNil)))) (Sg ns a t A B C w m mm c (vR p) x16 x17 x18) g=.nx (Sg ns a t A B C w m mm c (vR p') x16 x17 x18) g'/\Sm M g' p' 11/\Keeps [] g g':=by
 have w1:=B0.w1;have w2:=B0.w2;have lu:=B0.lu;have hW:(1:Int)<=w:=by omega
 obtain⟨e1,k1,q1⟩:=Y7 (g:=g) (σ:=Sg ns a t A B C w m mm c (vR p) x16 x17 x18) (o:=mVar 7) (a:=Qa (mOp2 Qdq (mOpA pTup (Qa (mLit (.bl true)) mNil)) (mVar 6)) mNil) (ds:=[.tup (List.replicate w (.bl true))]) rfl B0.hA (Qd (Qk (x:=.tup [.bl true]) (y:=.int w) (g1:=g) (g2:=g) rfl rfl (by unfold Qdq;dsimp only;rw[Uj ⟨by omega,by omega⟩,T9])) rfl) .refl (by simp;omega);generalize hg1:g++[GO.lst [.tup (List.replicate w (.bl true))],.lst (us.map gmD++[.tup (List.replicate w (.bl true))])]=g1 at e1 k1 q1;have k2:Keeps [] g1 (g1++[GO.lst [.str "wall",.int w,.ref A,.ref B,.ref C]]):=.push _;have B2:=B0.keep (k1.trans k2);have q2:=k2.at' _ _ (by simp) q1;refine h.row (g1:=g1++[GO.lst [.str "wall",.int w,.ref A,.ref B,.ref C]]) (ds:=[QA w (.ref (g.length+1)) (.ref B) (.ref C),.ref g1.length]) rfl (Qd (Yd (Qd (g1:=g) rfl (Qd (g1:=g) rfl (Qd e1 (Qd (g1:=g1) rfl (Qd (g1:=g1) rfl rfl))))) rfl) (Qd (g1:=g1++[GO.lst [.str "wall",.int w,.ref A,.ref B,.ref C]]) rfl rfl)) (k1.trans k2) (λd hd=>?_) (by simp) (by decide);simp only[Uv,U6,RA]at hd;rcases hd with rfl|rfl
 ·obtain⟨s1,s2⟩:=QcC (P:=Zw w m) q2 (λu hu=>QbJ (B0.ok.u u hu) w2) ⟨λx hx=>(by rw[WP hx];rfl),by simp;omega⟩ (QeB (d:=.bl true) (List.mem_replicate.mpr ⟨by omega,rfl⟩) rfl) lu;exact B2.five hW s1 B2.sB B2.sC (.inl s2)
 ·exact .of λg3 k3=>Qfz ⟨.list,by unfold tyOf;dsimp only;rw[k3.at' _ _ (by simp) (Qo _)],by decide⟩
theorem QqI(B0:Bt g M t A B C N rows n m w us vs cs)(h:Sm M g p 11):∃g' p',mAsg (gSet 15) (mOp2 pAdd (mVar 15) (mOpA newL (Qa (mOpA pTup (Qa (mLit (.str "wall")) (Qa (mVar 6) (Qa (mVar 7) (Qa (mOp2 pAdd (mVar 8) (mOpA newL (Qa (mOp1 JH (mVar 13)) mNil))) (Qa (mVar 9) mNil)))))) (Qa (mOpA pTup (Qa (mLit (.str "wall")) (Qa (mI 0) (Qa (mOpA newL (Qa (mOpA pTup mNil) mNil)) (Qa (mOpA newL (Qa (mOpA pTup mNil) mNil)) (Qa (mVar 9) mNil)))))) mNil)))) (Sg ns a t A B C w m mm c (vR p) x16 x17 x18) g=.nx (Sg ns a t A B C w m mm c (vR p') x16 x17 x18) g'/\Sm M g' p' 13/\Keeps [] g g':=by
 have w2:=B0.w2;have lv:=B0.lv;have hW:(1:Int)<=w:=by have:=B0.w1;omega
 have k0:Keeps [] g (g++[GO.lst (c.2.2.2.map .int)]):=.push _;obtain⟨e1,k1,q1⟩:=Y7 (g:=g) (g1:=g++[GO.lst (c.2.2.2.map .int)]) (σ:=Sg ns a t A B C w m mm c (vR p) x16 x17 x18) (o:=mVar 8) (a:=Qa (mOp1 JH (mVar 13)) mNil) (ds:=[.ref g.length]) rfl B0.hB rfl k0 (by simp;omega);have ql:(g++[GO.lst (c.2.2.2.map .int)])[g.length]?=some (.lst (c.2.2.2.map .int)):=Qo _;have ql:=(show Keeps [] (g++[GO.lst (c.2.2.2.map .int)]) (g++[GO.lst (c.2.2.2.map .int)]++[GO.lst [.ref g.length],.lst (vs.map gmD++[.ref g.length])]) from ⟨by simp,λj o _ e=>by rw[Ui (Qy e)];exact e⟩).at' _ _ (by simp) ql;generalize hg0:(g++[GO.lst (c.2.2.2.map .int)]).length+1=k at e1 q1;generalize hg1:g++[GO.lst (c.2.2.2.map .int)]++[GO.lst [.ref g.length],.lst (vs.map gmD++[.ref g.length])]=g1 at e1 k1 q1 ql;have k2:Keeps [] g1 (g1++[GO.lst [.tup []]]++[GO.lst [.tup []]]):=(Keeps.push _).trans (.push _);have B2:=B0.keep (k1.trans k2);have q2:=k2.at' _ _ (by simp) q1;refine h.row (g1:=g1++[GO.lst [.tup []]]++[GO.lst [.tup []]]) (ds:=[QA w (.ref A) (.ref k) (.ref C),QA 0 (.ref g1.length) (.ref (g1++[GO.lst [.tup []]]).length) (.ref C)]) rfl (Qd (Yd (Qd (g1:=g) rfl (Qd (g1:=g) rfl (Qd (g1:=g) rfl (Qd e1 (Qd (g1:=g1) rfl rfl))))) rfl) (Qd (g1:=g1++[GO.lst [.tup []]]++[GO.lst [.tup []]]) rfl rfl)) (k1.trans k2) (λd hd=>?_) (by simp) (by decide);simp only[Uv,U6,RA]at hd;rcases hd with rfl|rfl
 ·obtain⟨s1,s2⟩:=QcC (P:=Zw w m) q2 (λu hu=>QbJ (B0.ok.v u hu) w2) (d:=.ref g.length) ⟨.list,by unfold tyOf;dsimp only;rw[k2.at' _ _ (by simp) ql],by decide⟩ rfl lv;exact B2.five hW B2.sA s1 B2.sC (.inr (.inl s2))
 ·exact .of λ_ _=>QlO
end
end L3
namespace L3
open PySem
section
def Wr(g:G)(p n m w l:Nat):Prop:=∃X,g[p]?=some (.lst X)/\X.length=l/\∀d∈X,cOk g d/\ctxB w n m d=false
theorem Wr.keep(h:Wr g p n m w l)(k:Keeps [] g g1):Wr g1 p n m w l:=let ⟨X,h1,h2,h3⟩:=h;⟨X,k.at' _ _ (by simp) h1,h2,λd hd=>⟨(h3 d hd).1.keep k,(h3 d hd).2⟩⟩
theorem Wr.row(h:Wr g p n m w l)(hv:σ[16]?=some (vR p))(he:a σ g=.ok ds g1)(k:Keeps [] g g1)(hd:∀d∈ds,cOk g1 d/\ctxB w n m d=false)(hz:l+ds.length<=1000):∃g' p',mAsg (gSet 16) (mOp2 pAdd (mVar 16) (mOpA newL a)) σ g=.nx (σ.set 16 (vR p')) g'/\Wr g' p' n m w (l+ds.length)/\Keeps [] g g':=by
 obtain⟨S,h1,h2,h4⟩:=h;obtain⟨e,k2,q⟩:=Y7 (ZG hv) h1 he k (by omega);refine⟨_,_,Qq e,⟨_,q,by rw[Uh,h2],λd hd'=>?_⟩,k2⟩;rcases Uq.mp hd' with z|z
 ·exact⟨(h4 d z).1.keep k2,(h4 d z).2⟩
 ·exact⟨(hd d z).1.keep ⟨by simp,λj o _ e=>by rw[Ui (Qy e)];exact e⟩,(hd d z).2⟩
theorem Wr.at'{e:ME}{i:Int}(h:Wr g p n m w l)(hv:σ[16]?=some (vR p))(he:e σ g=.ok (.int i) g)(h0:0<=i)(h1:i<l):∃d,mOp2 pIx (mVar 16) e σ g=.ok d g/\cOk g d/\ctxB w n m d=false:=by
 obtain⟨X,q1,q2,q3⟩:=h;have hl:i.toNat<X.length:=by omega
 exact⟨X[i.toNat],Qk (ZG hv) he (QdH q1 h0 (by simp[hl])),q3 _ (UY hl)⟩
variable{g g1:G}{M t A B C N:Nat}{rows:List (List D)}{n m w:Nat}{us vs:List (List Int)}{cs:List Ct}{ns:List Int}{a:Nat}{mm:Int}{c:Ct}{x15 x16 x17 x18:Option D}
theorem QnZ(B0:Bt g M t A B C N rows n m w us vs cs)(okc:okC w n m c):gOk g1 (gmD c.1)/\gOk g1 (gmD c.2.2.2)/\gOk g1 (gmD (m::c.1.tail))/\gOk g1 (gmD (c.2.2.2++[0])):=by have w2:=B0.w2;have l1:=okc.1.1;have l2:=okc.2.2.2.1;exact⟨QbJ okc.1 w2,QbJ okc.2.2.2 w2,⟨λx hx=>(by obtain⟨i,_,rfl⟩:=UE.mp hx;rfl),by simp;omega⟩,⟨λx hx=>(by obtain⟨i,_,rfl⟩:=UE.mp hx;rfl),by simp;omega⟩⟩
theorem QqJ(B0:Bt g M t A B C N rows n m w us vs cs)(okc:okC w n m c):∃g' p',mAsg (gSet 16) (mOpA newL (Qa (mOpA pTup (Qa (mVar 10) (Qa (mOp1 pLen (mVar 2)) (Qa (mVar 12) (Qa (mVar 13) mNil))))) (Qa (mOpA pTup (Qa (mVar 10) (Qa (mVar 11) (Qa (mOp1 pNeg (mI 1)) (Qa (mVar 13) mNil))))) (Qa (mOpA pTup (Qa (mVar 10) (Qa (mVar 11) (Qa (mVar 12) mNil)))) (Qa (mOpA pTup (Qa (mVar 10) (Qa (mVar 11) (Qa (mVar 12) (Qa (mLit .non) mNil))))) mNil))))) (Sg ns a t A B C w m mm c x15 x16 x17 x18) g=.nx (Sg ns a t A B C w m mm c x15 (vR p') x17 x18) g'/\Wr g' p' n m w 4/\Keeps [] g g':=by
 have q:(mOpA pTup (Qa (mVar 10) (Qa (mOp1 pLen (mVar 2)) (Qa (mVar 12) (Qa (mVar 13) mNil))))) (Sg ns a t A B C w m mm c x15 x16 x17 x18) g=.ok (.tup [gmD c.1,.int n,.int c.2.2.1,gmD c.2.2.2]) g:=Yd (Qd (g1:=g) rfl (Qd (Qgy B0.hr B0.ht rfl) (Qd (g1:=g) rfl (Qd (g1:=g) rfl rfl)))) rfl;refine⟨_,_,Qq (Yd (xs:=[.tup [gmD c.1,.int n,.int c.2.2.1,gmD c.2.2.2],.tup [gmD c.1,.int c.2.1,.int (-1),gmD c.2.2.2],.tup [gmD c.1,.int c.2.1,.int c.2.2.1],.tup [gmD c.1,.int c.2.1,.int c.2.2.1,.non]]) (g1:=g) (Qd q (Qd (g1:=g) rfl (Qd (g1:=g) rfl (Qd (g1:=g) rfl rfl)))) rfl),⟨_,Qo _,rfl,λd hd=>?_⟩,.push _⟩;obtain⟨z1,z2,z3,z4⟩:=QnZ (g1:=g++[GO.lst [.tup [gmD c.1,.int n,.int c.2.2.1,gmD c.2.2.2],.tup [gmD c.1,.int c.2.1,.int (-1),gmD c.2.2.2],.tup [gmD c.1,.int c.2.1,.int c.2.2.1],.tup [gmD c.1,.int c.2.1,.int c.2.2.1,.non]]]) B0 okc;simp only[Uv,U6,RA]at hd;rcases hd with rfl|rfl|rfl|rfl
 ·exact⟨⟨z1,rfl,rfl,z2⟩,by simp[ctxB,Z7]⟩
 ·exact⟨⟨z1,rfl,rfl,z2⟩,by simp[ctxB,Z7]⟩
 ·exact⟨trivial,rfl⟩
 ·exact⟨⟨z1,rfl,rfl,⟨_,rfl,by decide⟩⟩,by simp[ctxB,Zw]⟩
theorem QqK(B0:Bt g M t A B C N rows n m w us vs cs)(okc:okC w n m c)(h:Wr g p n m w 4):∃g' p',mAsg (gSet 16) (mOp2 pAdd (mVar 16) (mOpA newL (Qa (mOpA pTup (Qa (mVar 10) (Qa (mVar 11) (Qa (mVar 12) (Qa (mOp2 pAdd (mVar 13) (mOpA pTup (Qa (mI 0) mNil))) mNil))))) (Qa (mOpA newL (Qa (mVar 10) (Qa (mVar 11) (Qa (mVar 12) (Qa (mVar 13) mNil))))) (Qa (mOpA pTup (Qa (mVar 14) (Qa (mVar 11) (Qa (mVar 12) (Qa (mVar 13) mNil))))) mNil))))) (Sg ns a t A B C w m mm c x15 (vR p) x17 x18) g=.nx (Sg ns a t A B C w m mm c x15 (vR p') x17 x18) g'/\Wr g' p' n m w 7/\Keeps [] g g':=by
 have l2:=okc.2.2.2.1;have w2:=B0.w2;have q:(mOpA pTup (Qa (mVar 10) (Qa (mVar 11) (Qa (mVar 12) (Qa (mOp2 pAdd (mVar 13) (mOpA pTup (Qa (mI 0) mNil))) mNil))))) (Sg ns a t A B C w m mm c x15 (vR p) x17 x18) g=.ok (.tup [gmD c.1,.int c.2.1,.int c.2.2.1,gmD (c.2.2.2++[0])]) g:=Yd (Qd (g1:=g) rfl (Qd (g1:=g) rfl (Qd (g1:=g) rfl (Qd (Qk (x:=gmD c.2.2.2) (y:=.tup [.int 0]) (g1:=g) (g2:=g) rfl rfl (Qgx _ _ _ (by omega))) rfl)))) rfl;refine h.row (g1:=g++[GO.lst [gmD c.1,.int c.2.1,.int c.2.2.1,gmD c.2.2.2]]) (ds:=[.tup [gmD c.1,.int c.2.1,.int c.2.2.1,gmD (c.2.2.2++[0])],.ref g.length,.tup [gmD (m::c.1.tail),.int c.2.1,.int c.2.2.1,gmD c.2.2.2]]) rfl (Qd q (Qd (g1:=g++[GO.lst [gmD c.1,.int c.2.1,.int c.2.2.1,gmD c.2.2.2]]) rfl (Qd (g1:=g++[GO.lst [gmD c.1,.int c.2.1,.int c.2.2.1,gmD c.2.2.2]]) rfl rfl))) (.push _) (λd hd=>?_) (by simp);obtain⟨z1,z2,z3,z4⟩:=QnZ (g1:=g++[GO.lst [gmD c.1,.int c.2.1,.int c.2.2.1,gmD c.2.2.2]]) B0 okc;simp only[Uv,U6,RA]at hd;rcases hd with rfl|rfl|rfl
 ·refine⟨⟨z1,rfl,rfl,z4⟩,?_⟩;show(_&&Zw w m (gmD (c.2.2.2++[0])))=false;rw[Qgz (u:=c.2.2.2++[0]) (by simp;omega),RT]
 ·exact⟨⟨.list,by unfold tyOf;dsimp only;rw[Qo],by decide⟩,rfl⟩
 ·refine⟨⟨z3,rfl,rfl,z2⟩,?_⟩;show(_&&Zw w m (gmD (m::c.1.tail))&&_)=false;rw[show Zw w m (gmD (m::c.1.tail))=false from QeB (d:=.int m) (Us ..) (Uu λz=>by omega),RT];rfl
abbrev trD(u:List Int):D:=.tup (u.map λi=>.bl (i==1))
theorem QmF(h:1<=u.length):Zw W m (trD u)=false:=by
 cases u with
 |nil=>cases h|cons i u=>exact QeB (Us ..) rfl
theorem QpH(h:u.length<=1000):gOk g (trD u):=⟨λx hx=>(by obtain⟨i,_,rfl⟩:=UE.mp hx;rfl),by rw[Ub];exact h⟩
theorem QqL(hz:c.1.length<=1000):∃g',mAsg (gSet 17) (mOp1 Jt (Za (Qt (mVar 10)) 1 [] (gSet 0) Zf (mOp2 pEq (mVar 0) (mI 1)))) (Sg ns a t A B C w m mm c x15 x16 x17 x18) g=.nx (Sg ns a t A B C w m mm c x15 x16 (some (trD c.1)) x18) g'/\Keeps [] g g':=by obtain⟨g',e,k⟩:=Qbi (us:=c.1) (f:=D.int) (F:=λi=>.bl (i==1)) (a:=mVar 10) (e:=mOp2 pEq (mVar 0) (mI 1)) (cap:=[]) (σc:=[]) (σ:=Sg ns a t A B C w m mm c x15 x16 x17 x18) (g:=g) (b:=false) (x:=gmD c.1) rfl rfl (Ue hz (by decide)) rfl λi _ g1 _=>⟨g1,rfl,.refl⟩;exact⟨_,Qq (QY e (QcX (QB (Qo _)))),k.trans (.push _)⟩
theorem QpI(B0:Bt g M t A B C N rows n m w us vs cs)(okc:okC w n m c)(h:Wr g p n m w 7):∃g' p',mAsg (gSet 16) (mOp2 pAdd (mVar 16) (mOpA newL (Qa (mOpA pTup (Qa (mVar 10) (Qa (mOp2 pEq (mVar 11) (mI 1)) (Qa (mVar 12) (Qa (mVar 13) mNil))))) (Qa (mOpA pTup (Qa (mVar 10) (Qa (mVar 11) (Qa (mOp2 pEq (mVar 12) (mI 1)) (Qa (mVar 13) mNil))))) (Qa (mOpA pTup (Qa (mVar 17) (Qa (mVar 11) (Qa (mVar 12) (Qa (mVar 13) mNil))))) mNil))))) (Sg ns a t A B C w m mm c x15 (vR p) (some (trD c.1)) x18) g=.nx (Sg ns a t A B C w m mm c x15 (vR p') (some (trD c.1)) x18) g'/\Wr g' p' n m w 10/\Keeps [] g g':=by
 have w1:=B0.w1;have w2:=B0.w2;have l1:=okc.1.1;refine h.row (g1:=g) (ds:=[.tup [gmD c.1,.bl (c.2.1==1),.int c.2.2.1,gmD c.2.2.2],.tup [gmD c.1,.int c.2.1,.bl (c.2.2.1==1),gmD c.2.2.2],.tup [trD c.1,.int c.2.1,.int c.2.2.1,gmD c.2.2.2]]) rfl rfl .refl (λd hd=>?_) (by simp);obtain⟨z1,z2,z3,z4⟩:=QnZ (g1:=g) B0 okc;simp only[Uv,U6,RA]at hd;rcases hd with rfl|rfl|rfl
 ·exact⟨⟨z1,rfl,rfl,z2⟩,rfl⟩
 ·exact⟨⟨z1,rfl,rfl,z2⟩,by simp[ctxB,Z7]⟩
 ·refine⟨⟨QpH (by omega),rfl,rfl,z2⟩,?_⟩;show(_&&Zw w m (trD c.1)&&_)=false;rw[QmF (by omega),RT];rfl
theorem QpJ(B0:Bt g M t A B C N rows n m w us vs cs)(h:Sm M g p 13)(hw:Wr g p2 n m w 10):∃g' p',mAsg (gSet 15) (mOp2 pAdd (mVar 15) (mOpA newL (Qa (mOpA pTup (Qa (mLit (.str "wall")) (Qa (mVar 6) (Qa (mVar 7) (Qa (mVar 8) (Qa (mOp2 pAdd (mVar 9) (mOpA newL (Qa (mOp2 pIx (mVar 16) (mOp2 pMod (mOp2 Zg (mVar 4) (mI 500)) (mI 10))) mNil))) mNil)))))) mNil))) (Sg ns a t A B C w m mm c (vR p) (vR p2) x17 x18) g=.nx (Sg ns a t A B C w m mm c (vR p') (vR p2) x17 x18) g'/\Sm M g' p' 14/\Keeps [] g g':=by
 have lc:=B0.lc;have hW:(1:Int)<=w:=by have:=B0.w1;omega
 obtain⟨d,e0,d1,d2⟩:=hw.at' (σ:=Sg ns a t A B C w m mm c (vR p) (vR p2) x17 x18) rfl (Qcc (Jk (e:=mVar 4) (x:=mm) (k:=500) rfl (by decide) (by decide)) (by decide)) (UT _ (by decide)) (UJ (mm/500) (show(0:Int)<10 by decide));obtain⟨e1,k1,q1⟩:=Y7 (g:=g) (σ:=Sg ns a t A B C w m mm c (vR p) (vR p2) x17 x18) (o:=mVar 9) (a:=Qa (mOp2 pIx (mVar 16) (mOp2 pMod (mOp2 Zg (mVar 4) (mI 500)) (mI 10))) mNil) (ds:=[d]) rfl B0.hC (Qd e0 rfl) .refl (by simp;omega);generalize hg1:g++[GO.lst [d],.lst (cs.map ctD++[d])]=g1 at e1 k1 q1;have B2:=B0.keep k1;refine h.row (g1:=g1) (ds:=[QA w (.ref A) (.ref B) (.ref (g.length+1))]) rfl (Qd (Yd (Qd (g1:=g) rfl (Qd (g1:=g) rfl (Qd (g1:=g) rfl (Qd (g1:=g) rfl (Qd e1 rfl))))) rfl) rfl) k1 (λd' hd=>?_) (by simp) (by decide);rw[Uf.mp hd];exact B2.five hW B2.sA B2.sB (QeA (QB q1) (λx hx=>(Uq.mp hx).elim (λz=>(by obtain⟨u,h,rfl⟩:=UE.mp z;exact QlR (B2.ok.c u h) B2.w2)) λz=>(by rw[Uf.mp z];exact d1.keep k1)) (by simp;omega)) (.inr (.inr (Qbm (QB q1) (d:=d) (by simp) d2)))
theorem QqM(x y:Ct)(g:G):pEq (ctD x) (ctD y) g=.ok (.bl (decide (x=y))) g:=by obtain⟨l,p,q,r⟩:=x;obtain⟨l',p',q',r'⟩:=y;have gm:∀u v:List Int,eqI 2 (gmD u) (gmD v)=some (decide (u=v)):=λu v=>Qda 1 u v;unfold pEq eqT ctD;dsimp only;simp only[eqGs,gm,show eqI 2 (.int p) (.int p')=some (p==p') from rfl,show eqI 2 (.int q) (.int q')=some (q==q') from rfl];congr 2;rw[Tk];simp[and_assoc]
theorem QpK(B0:Bt g M t A B C N rows n m w us vs cs)(hc0:cs[0]?=some c0)(d1:cOk g d)(d2:ctxB w n m d=false)(h:Sm M g p 14):∃g' p',mAsg (gSet 15) (mOp2 pAdd (mVar 15) (mOpA newL (Qa (mOpA pTup (Qa (mLit (.str "wall")) (Qa (mVar 6) (Qa (mVar 7) (Qa (mVar 8) (Qa (Za (Qt (mVar 9)) 1 [18,9] (gSet 0) Zf (mIfE (Ql (mOp2 pEq (mVar 0) (mOp2 pIx (mVar 2) (mI 0)))) (mVar 1) (mVar 0))) mNil)))))) mNil))) (Sg ns a t A B C w m mm c (vR p) x16 x17 (some d)) g=.nx (Sg ns a t A B C w m mm c (vR p') x16 x17 (some d)) g'/\Sm M g' p' 15/\Keeps [] g g':=by
 have lc:=B0.lc;have hW:(1:Int)<=w:=by have:=B0.w1;omega
 obtain⟨g1,e1,k1⟩:=Qbi (us:=cs) (f:=ctD) (F:=λz=>if z=c0 then d else ctD z) (a:=mVar 9) (e:=mIfE (Ql (mOp2 pEq (mVar 0) (mOp2 pIx (mVar 2) (mI 0)))) (mVar 1) (mVar 0)) (cap:=[18,9]) (σc:=[some d,vR C]) (σ:=Sg ns a t A B C w m mm c (vR p) x16 x17 (some d)) (g:=g) rfl (QB B0.hC) (Ue (show cs.length<=1000 by omega) (by decide)) rfl λz _ g1 k=>⟨g1,by
  have e:Ql (mOp2 pEq (mVar 0) (mOp2 pIx (mVar 2) (mI 0))) [some (ctD z),some d,vR C] g1=.ok (decide (z=c0)) g1:=Qz (Qk (x:=ctD z) (y:=ctD c0) (g1:=g1) (g2:=g1) rfl (Qk (x:=.ref C) (y:=.int (0:Nat)) (g1:=g1) (g2:=g1) rfl rfl (Qaf (k.at' _ _ (by simp) B0.hC) (by rw[UK,hc0];rfl))) (QqM ..));rw[Qkb,e];dsimp only;by_cases hz:z=c0
  ·rw[UB hz,Uj rfl,Uj hz];rfl
  ·rw[Uu hz,Uo Uk,Uo hz];rfl,.refl⟩
 have k2:=k1.trans (Keeps.push (S:=[]) (GO.lst (cs.map λz=>if z=c0 then d else ctD z)));have q2:=Qo (g:=g1) (GO.lst (cs.map λz=>if z=c0 then d else ctD z));generalize g1++[GO.lst (cs.map λz=>if z=c0 then d else ctD z)]=g2 at e1 k2 q2;have B2:=B0.keep k2;refine h.row (g1:=g2) (ds:=[QA w (.ref A) (.ref B) (.ref g1.length)]) rfl (Qd (Yd (Qd (g1:=g) rfl (Qd (g1:=g) rfl (Qd (g1:=g) rfl (Qd (g1:=g) rfl (Qd e1 rfl))))) rfl) rfl) k2 (λd' hd=>?_) (by simp) (by decide);rw[Uf.mp hd];refine B2.five hW B2.sA B2.sB (Qc9 (QB q2) (λu hu=>?_) (by omega)) (.inr (.inr (Qbm (QB q2) (d:=d) (UE.mpr ⟨c0,UR hc0,Uj rfl⟩) d2)));split
 ·exact d1.keep k2
 ·exact QlR (B2.ok.c u hu) B2.w2
theorem QpL(B0:Bt g M t A B C N rows n m w us vs cs)(okc:okC w n m c)(h:Sm M g p 15):∃g' p',mAsg (gSet 15) (mOp2 pAdd (mVar 15) (mOpA newL (Qa (mOpA pTup (Qa (mLit (.str "wall")) (Qa (mVar 6) (Qa (mOp2 pAdd (mOpA newL (Qa (mVar 17) mNil)) (mVar 7)) (Qa (mVar 8) (Qa (mVar 9) mNil)))))) mNil))) (Sg ns a t A B C w m mm c (vR p) x16 (some (trD c.1)) x18) g=.nx (Sg ns a t A B C w m mm c (vR p') x16 (some (trD c.1)) x18) g'/\Sm M g' p' 16/\Keeps [] g g':=by
 have lu:=B0.lu;have w2:=B0.w2;have w1:=B0.w1;have l1:=okc.1.1;have hW:(1:Int)<=w:=by omega
 have k1:Keeps [] g (g++[GO.lst [trD c.1]]):=.push _;have e1:mOp2 pAdd (mOpA newL (Qa (mVar 17) mNil)) (mVar 7) (Sg ns a t A B C w m mm c (vR p) x16 (some (trD c.1)) x18) g=.ok (.ref (g++[GO.lst [trD c.1]]).length) (g++[GO.lst [trD c.1]]++[.lst ([trD c.1]++us.map gmD)]):=by refine Qk (x:=.ref g.length) (y:=.ref A) (g1:=g++[GO.lst [trD c.1]]) (g2:=g++[GO.lst [trD c.1]]) rfl rfl ?_;unfold pAdd;dsimp only;rw[Qo,k1.at' _ _ (by simp) B0.hA];dsimp only;rw[Uj (by rw[Ub];show 1+_<=SZ;exact Ue (show 1+us.length<=1000 by omega) (by decide))]
 have k2:=k1.trans (Keeps.push (S:=[]) (GO.lst ([trD c.1]++us.map gmD)));have q2:=Qo (g:=g++[GO.lst [trD c.1]]) (GO.lst ([trD c.1]++us.map gmD));generalize g++[GO.lst [trD c.1]]++[GO.lst ([trD c.1]++us.map gmD)]=g2 at e1 k2 q2;generalize (g++[GO.lst [trD c.1]]).length=r at e1 q2;have B2:=B0.keep k2;refine h.row (g1:=g2) (ds:=[QA w (.ref r) (.ref B) (.ref C)]) rfl (Qd (Yd (Qd (g1:=g) rfl (Qd (g1:=g) rfl (Qd e1 (Qd (g1:=g2) rfl (Qd (g1:=g2) rfl rfl))))) rfl) rfl) k2 (λd' hd=>?_) (by simp) (by decide);rw[Uf.mp hd];exact B2.five hW (QeA (QB q2) (λx hx=>(Uq.mp hx).elim (λz=>(by rw[Uf.mp z];exact QpH (by omega))) λz=>(by obtain⟨u,h,rfl⟩:=UE.mp z;exact QbJ (B2.ok.u u h) w2)) (by simp;omega)) B2.sB B2.sC (.inl (Qbm (QB q2) (d:=trD c.1) (by simp) (QmF (by omega))))
end
end L3
namespace L3
open PySem
theorem Bt.keepA(B0:Bt g M t A B C N rows n m w us vs cs)(ha:g[a]?=some (.lst [.int k]))(haN:a<N)(k1:Keeps [a] g g1):Bt g1 M t A B C N rows n m w us vs cs:=⟨ZP k1 (λz=>by have h:=B0.hM;rw[z,ha]at h;unfold Y4 at h;cases h) B0.hM,B0.hr.mono k1 (by simp[haN]),B0.ht,B0.n1,B0.w1,B0.w2,B0.ok,ZP k1 (λz=>by have h:=B0.hA;rw[z,ha]at h;cases us with|nil=>cases h|cons _ _=>cases h) B0.hA,ZP k1 (λz=>by have h:=B0.hB;rw[z,ha]at h;cases vs with|nil=>cases h|cons _ _=>cases h) B0.hB,ZP k1 (λz=>by have h:=B0.hC;rw[z,ha]at h;cases cs with|nil=>cases h|cons _ _=>cases h) B0.hC,B0.lu,B0.lv,B0.lc⟩
theorem Qn0(h:e σ g=.ok d g')(ht:tg d σ=some σ'):mAsg tg e σ g=.nx σ' g':=by unfold mAsg;rw[h];dsimp only;rw[ht]
theorem Qn1(ns:List Int)(hc:Cn g a k)(haN:a<N)(B0:Bt g M t A B C N rows n m w us vs cs)(ne:cs≠[]):∃d g',Qel [.fl (ns.map .int),.ref a,.ref t,QA w (.ref A) (.ref B) (.ref C)] g=.ok d g'/\NPk M g' d/\g'[a]?=some (.lst [.int (k+1)])/\Keeps [a] g g':=by
 obtain⟨mm,g1,m0,m1,e1,c1,k1,l1⟩:=QhD ns hc;have B1:=B0.keepA hc.at' haN k1;obtain⟨x,hx,e2⟩:=Qez (g:=g1) (σ:=[some (.fl (ns.map .int)),vR a,vR t,some (QA w (.ref A) (.ref B) (.ref C)),vI mm,some (.str "wall"),vI w,vR A,vR B,vR C,none,none,none,none,none,none,none,none,none]) (o:=mVar 9) (λ_=>rfl) B1.hC (e:=mOp2 Zg (mVar 4) (mI 12)) (Jk (x:=mm) rfl (by decide) (by decide)) (by rw[Ub];exact List.length_pos_iff.mpr ne);obtain⟨c,hcc,rfl⟩:=UE.mp hx;have okc:=B1.ok.c c hcc;have hl:=okc.1.1;have w2:=B1.w2;have e3:mAsg (gSet 14) (mOp2 pAdd (mOpA pTup (Qa (mOp1 pLen (mOp2 pIx (mVar 2) (mI 0))) mNil)) (QI (mVar 10) (Zh (mI 1)) Qw)) [some (.fl (ns.map .int)),vR a,vR t,some (QA w (.ref A) (.ref B) (.ref C)),vI mm,some (.str "wall"),vI w,vR A,vR B,vR C,vM c.1,vI c.2.1,vI c.2.2.1,vM c.2.2.2,none,none,none,none,none] g1=.nx (Sg ns a t A B C w m mm c none none none none) g1:=by refine Qq (Qk (x:=.tup [.int m]) (y:=gmD c.1.tail) (g1:=g1) (g2:=g1) (Yd (Qd (Qbl B1.hr B1.ht B1.n1 rfl) rfl) rfl) ?_ (QnI _ _ _ (by rw[List.length_tail];omega)));simp only[Zq,ZZ,Q4,Qb7];exact Qeq _ _
 have cne:c∈cs:=hcc;have e4:mAsg (gSet 15) (mOpA newL (Qa (mOpA pTup (Qa (mLit (.str "walls")) (Qa (mVar 6) (Qa (mVar 7) (Qa (mVar 8) (Qa (mVar 9) mNil)))))) (Qa (mOpA pTup (Qa (mLit (.str "wall")) (Qa (mOp2 pAdd (mVar 6) (mI 1)) (Qa (mVar 7) (Qa (mVar 8) (Qa (mVar 9) mNil)))))) mNil))) (Sg ns a t A B C w m mm c none none none none) g1=.nx (Sg ns a t A B C w m mm c (vR g1.length) none none none) (g1++[.lst [.tup [.str "walls",.int w,.ref A,.ref B,.ref C],QA (w+1) (.ref A) (.ref B) (.ref C)]]):=rfl;have k2:Keeps [] g1 (g1++[GO.lst [.tup [.str "walls",.int w,.ref A,.ref B,.ref C],QA (w+1) (.ref A) (.ref B) (.ref C)]]):=.push _;have s2:Sm M (g1++[GO.lst [.tup [.str "walls",.int w,.ref A,.ref B,.ref C],QA (w+1) (.ref A) (.ref B) (.ref C)]]) g1.length 2:=⟨_,Qo _,by simp,by simp,λd hd=>by
  have B2:=B1.keep k2;simp only[Uv,U6,RA]at hd;rcases hd with rfl|rfl
  ·exact .of λ_ _=>QlM (by decide +kernel)
  ·refine B2.five (by omega) B2.sA B2.sB B2.sC (.inr (.inr (Qbm (QB B2.hC) (UE.mpr ⟨c,hcc,rfl⟩) ?_)));show(_&&Zw (w+1) m (gmD c.1)&&_)=false;rw[Qgz (u:=c.1) (by omega),RT];rfl⟩
 generalize g1++[GO.lst [.tup [.str "walls",.int w,.ref A,.ref B,.ref C],QA (w+1) (.ref A) (.ref B) (.ref C)]]=g2 at e4 k2 s2;generalize hp1:g1.length=p1 at e4 s2;obtain⟨g3,p3,e5,s3,k3⟩:=QqE (ns:=ns) (a:=a) (mm:=mm) (c:=c) (x16:=none) (x17:=none) (x18:=none) (B1.keep k2) s2;have k3:=k2.trans k3;obtain⟨g4,p4,e6,s4,k4⟩:=QqF (ns:=ns) (a:=a) (mm:=mm) (c:=c) (x16:=none) (x17:=none) (x18:=none) (B1.keep k3) okc s3;have k4:=k3.trans k4;obtain⟨g5,p5,e7,s5,k5⟩:=QqG (ns:=ns) (a:=a) (mm:=mm) (c:=c) (x16:=none) (x17:=none) (x18:=none) (B1.keep k4) okc s4;have k5:=k4.trans k5;obtain⟨g6,p6,e8,s6,k6⟩:=QqH (ns:=ns) (a:=a) (mm:=mm) (c:=c) (x16:=none) (x17:=none) (x18:=none) (B1.keep k5) s5;have k6:=k5.trans k6;obtain⟨g7,p7,e9,s7,k7⟩:=QqI (ns:=ns) (a:=a) (mm:=mm) (c:=c) (x16:=none) (x17:=none) (x18:=none) (B1.keep k6) s6;have k7:=k6.trans k7;obtain⟨g8,p8,e10,s8,k8'⟩:=QqJ (ns:=ns) (a:=a) (mm:=mm) (c:=c) (x15:=vR p7) (x16:=none) (x17:=none) (x18:=none) (B1.keep k7) okc;have k8:=k7.trans k8';obtain⟨g9,p9,e11,s9,k9'⟩:=QqK (ns:=ns) (a:=a) (mm:=mm) (c:=c) (x15:=vR p7) (x17:=none) (x18:=none) (B1.keep k8) okc s8;have k9:=k8.trans k9';obtain⟨g10,e12,k10'⟩:=QqL (g:=g9) (ns:=ns) (a:=a) (t:=t) (A:=A) (B:=B) (C:=C) (w:=w) (m:=m) (mm:=mm) (c:=c) (x15:=vR p7) (x16:=vR p9) (x17:=none) (x18:=none) (by omega);have k10:=k9.trans k10';obtain⟨g11,p11,e13,s11,k11'⟩:=QpI (ns:=ns) (a:=a) (mm:=mm) (c:=c) (x15:=vR p7) (x18:=none) (B1.keep k10) okc (s9.keep k10');have k11:=k10.trans k11';obtain⟨g12,p12,e14,s12,k12'⟩:=QpJ (ns:=ns) (a:=a) (mm:=mm) (c:=c) (x17:=some (trD c.1)) (x18:=none) (B1.keep k11) (((s7.keep k8').keep k9').keep (k10'.trans k11')) s11;have k12:=k11.trans k12';obtain⟨d,e15,d1,d2⟩:=(s11.keep k12').at' (σ:=Sg ns a t A B C w m mm c (vR p12) (vR p11) (some (trD c.1)) none) (e:=mOp2 pAdd (mI 7) (mOp2 pMod (mOp2 Zg (mVar 4) (mI 5000)) (mI 3))) (i:=7+mm/5000%3) rfl (Qk (x:=.int 7) (y:=.int (mm/5000%3)) (g1:=g12) (g2:=g12) rfl (Qcc (Jk (e:=mVar 4) (x:=mm) (k:=5000) rfl (by decide) (by decide)) (by decide)) rfl) (by have:=UT (mm/5000) (show(3:Int)≠0 by decide);omega) (by have:=UJ (mm/5000) (show(0:Int)<3 by decide);omega);obtain⟨c0,hc0⟩:∃c0,cs[0]?=some c0:=⟨cs[0]'(List.length_pos_iff.mpr ne),by simp⟩;obtain⟨g13,p13,e16,s13,k13'⟩:=QpK (ns:=ns) (a:=a) (mm:=mm) (c:=c) (x16:=vR p11) (x17:=some (trD c.1)) (B1.keep k12) hc0 d1 d2 s12;have k13:=k12.trans k13';obtain⟨g14,p14,e17,s14,k14'⟩:=QpL (ns:=ns) (a:=a) (mm:=mm) (c:=c) (x16:=vR p11) (x18:=some d) (B1.keep k13) okc s13;have k14:=k13.trans k14';obtain⟨S,q1,q2,q3,q4⟩:=s14;obtain⟨dd,hdd,e18⟩:=Qez (g:=g14) (σ:=Sg ns a t A B C w m mm c (vR p14) (vR p11) (some (trD c.1)) (some d)) (o:=mVar 15) (λ_=>rfl) q1 (e:=mOp2 Zg (mVar 4) (mI 20)) (Jk (x:=mm) rfl (by decide) (by decide)) q3;refine⟨dd,g14,Qu rfl ?_,q4 dd hdd,k14.at' _ _ (by simp) c1,k1.trans k14.all⟩;refine Qf _ g1 (Qq ((Qp rfl).trans e1)) (Qf _ g1 rfl (Qf _ g1 (Qn0 e2 rfl) (Qf _ g1 e3 ?_)));exact Qf _ g2 e4 (Qf _ g3 e5 (Qf _ g4 e6 (Qf _ g5 e7 (Qf _ g6 e8 (Qf _ g7 e9 (Qf _ g8 e10 (Qf _ g9 e11 (Qf _ g10 e12 (Qf _ g11 e13 (Qf _ g12 e14 (Qf _ g12 (Qq e15) (Qf _ g13 e16 (Qf _ g14 e17 (QX e18))))))))))))))
end L3
namespace L3
open PySem
theorem Qn2(ns:List Int)(hc:Cn g a k)(hk:k+2<100000)(haN:a<N)(f:Few w n m)(hw:w<=2)(B0:Bt g M t A B C N rows n m w us vs cs)(ne:cs≠[])(x5 x6 x7 x8 x9:Option D):
  ∃g' x9',Qad [some (.fl (ns.map .int)),vR a,vR M,vR t,some (QA w (.ref A) (.ref B) (.ref C)),x5,x6,x7,x8,x9] g=.nx [some (.fl (ns.map .int)),vR a,vR M,vR t,some (QA w (.ref A) (.ref B) (.ref C)),x5,x6,x7,x8,x9'] g'/\Cn g' a (k+2)/\Keeps [a] g g':=by
 have k00:=hc.k0;obtain⟨d1,g1,us',vs',cs',e1,⟨A',B',C',rfl,hA',hB',hC'⟩,ok',c1,k1⟩:=Qig ns hc B0.hr haN B0.ht f hw ⟨A,B,C,rfl,B0.hA,B0.hB,B0.hC⟩ B0.ok B0.lu B0.lv B0.lc;have B1:=B0.keepA hc.at' haN k1;obtain⟨g2,e2,k2⟩:=QfD B1.hr B1.ht B1.w1 B1.w2 ok' hA' hB' hC';obtain⟨g3,e3,k3⟩:=QcA (k2.at' _ _ (by simp) B1.hM) B1.ht B1.n1 B1.w1 B1.w2 ok' (QB (k2.at' _ _ (by simp) hA')) (QB (k2.at' _ _ (by simp) hB')) (QB (k2.at' _ _ (by simp) hC'));have k23:=k2.trans k3;have c3:Cn g3 a (k+1):=⟨k23.at' _ _ (by simp) c1,by omega,by omega⟩;obtain⟨d4,g4,e4,np,c4,k4⟩:=Qn1 ns c3 haN (B1.keep k23) ne;obtain⟨g5,e5,k5⟩:=np g4 .refl;refine⟨g5,some (QA w (.ref A') (.ref B') (.ref C')),?_,⟨by rw[k5.at' _ _ (by simp) c4];congr 4;omega,by omega,hk⟩,k1.trans (k23.all.trans (k4.trans k5.all))⟩;refine Qf _ g1 (Qq ((Qp rfl).trans e1)) (Qf _ g3 (iff' g3 (QC (x:=true) ((Qp (Qd (g1:=g1) rfl (Qd (g1:=g1) rfl (Qd ((Qp (ds:=[.ref t,.int w,.ref A',.ref B',.ref C']) (g':=g1) ?_).trans e2) rfl)))).trans (Qdc e3))) rfl) ?_)
 ·exact Qd (g1:=g1) rfl (Qd (g1:=g1) (Qk (x:=QA w (.ref A') (.ref B') (.ref C')) (g1:=g1) rfl rfl Qc0) (Qd (g1:=g1) (Qk (x:=QA w (.ref A') (.ref B') (.ref C')) (g1:=g1) rfl rfl Qfo) (Qd (g1:=g1) (Qk (x:=QA w (.ref A') (.ref B') (.ref C')) (g1:=g1) rfl rfl Qkc) (Qd (g1:=g1) (Qk (x:=QA w (.ref A') (.ref B') (.ref C')) (y:=.int (4:Nat)) (g1:=g1) rfl rfl (ix_tup (n:=4) rfl)) rfl))))
 ·exact iff' g5 (QC (x:=true) ((Qp (Qd (g1:=g3) rfl (Qd ((Qp rfl).trans e4) (Qd (x:=.bl false) (g1:=g4) rfl rfl)))).trans (Qdc e5))) rfl
theorem QqN(hv:σ[i]?=some (vR r))(h0:g0[r]?=some (.lst [x0,x1,x2]))(h1:g1[r]?=some (.lst [x0,x1,x2]))(h2:g2[r]?=some (.lst [x0,x1,x2]))(h3:g3[r]?=some (.lst [x0,x1,x2]))(hc:capt 1 cap σ=none::σc)(e0:e (some x0::σc) g0=.ok y0 g1)(e1:e (some x1::σc) g1=.ok y1 g2)(e2:e (some x2::σc) g2=.ok y2 g3):
  Za (Qt (mVar i)) 1 cap (gSet 0) Zf e σ g0=.ok (.ref g3.length) (g3++[.lst [y0,y1,y2]]):=by
 have es:Qt (mVar i) σ g0=.ok (srcL r 3) g0:=QcB (x:=.ref r) (ZG hv) (by unfold JW;dsimp only;rw[h0];rfl);have at':∀{gx:G}(j:Nat),gx[r]?=some (.lst [x0,x1,x2])->(srcL r 3).at' gx j=some [x0,x1,x2][j]?:=λj h=>by unfold srcL;dsimp only;rw[h]
 have c:Z9 (srcL r 3) (gSet 0) Zf e 4 0 (none::σc) g0 []=.ok [y0,y1,y2] g3:=by unfold Z9;rw[at' 0 h0];show(match e (some x0::σc) g0 with | .ok y g2=>_|_=>_)=_;rw[e0];dsimp only;unfold Z9;rw[at' 1 h1];show(match e (some x1::σc) g1 with | .ok y g2=>_|_=>_)=_;rw[e1];dsimp only;unfold Z9;rw[at' 2 h2];show(match e (some x2::σc) g2 with | .ok y g2=>_|_=>_)=_;rw[e2];dsimp only;unfold Z9;rw[at' 3 h3];rfl
 exact QbF es (by show 3<=SZ;decide) hc c
theorem QgB{α:Type}{us:List α}{f:α->D}(ns:List Int){x:Nat}(hc:Cn g a k)(hx:g[x]?=some (.lst (us.map f)))(hxa:x≠a)(hz:us.length<500)(hk:k+500<100000):∃(g':G)(ys:List α)(k':Int),mOp1 Jt (Qn Qba (Qa (mVar 1) (Qa (mVar 2) (Qa (mOp2 pAdd (mVar 0) (QI (mVar 0) Qw (Zh (mI 1)))) mNil)))) [vR x,some (.fl (ns.map .int)),vR a] g=.ok (.tup (ys.map f)) g'/\(∀y,y∈ys↔y∈us)/\ys.length<=500/\Cn g' a k'/\k'<=k+500/\Keeps [a] g g':=by
 have la:=Qy hc.at';have lx:=Qy hx;have k00:=hc.k0;have k2:Keeps [] g (g++[GO.lst ((us.take 1).map f),.lst ((us++us.take 1).map f)]):=⟨by simp,λj o _ e=>by rw[Ui (Qy e)];exact e⟩;have e0:QI (mVar 0) Qw (Zh (mI 1)) [vR x,some (.fl (ns.map .int)),vR a] g=.ok (.ref g.length) (g++[.lst ((us.take 1).map f)]):=by simp only[Zq,ZZ,Q4,Qb7];rw[show mVar 0 [vR x,some (.fl (ns.map .int)),vR a] g=.ok (.ref x) g from rfl];dsimp only;unfold Qb0;dsimp only;rw[hx];dsimp only;rw[show cutD (us.map f) none (some 1)=(us.take 1).map f by cases us<;>simp[cutD,sIxD]]
 have e1:mOp2 pAdd (mVar 0) (QI (mVar 0) Qw (Zh (mI 1))) [vR x,some (.fl (ns.map .int)),vR a] g=.ok (.ref (g.length+1)) (g++[.lst ((us.take 1).map f),.lst ((us++us.take 1).map f)]):=by refine Qk (x:=.ref x) (y:=.ref g.length) (g1:=g) (g2:=g++[.lst ((us.take 1).map f)]) rfl e0 ?_;unfold pAdd;dsimp only;rw[Ui lx,hx,Qo];dsimp only;rw[Uj (by rw[Ub,Ub,Tx];exact Ue (show _<=1000 by omega) (by decide)),UQ,Uh,Uz];rfl
 have q:(g++[GO.lst ((us.take 1).map f),.lst ((us++us.take 1).map f)])[g.length+1]?=some (.lst ((us++us.take 1).map f)):=getx rfl;generalize g++[GO.lst ((us.take 1).map f),.lst ((us++us.take 1).map f)]=g2 at k2 e1 q;have ll:(us++us.take 1).length<=500:=by rw[Uh,Tx];omega
 obtain⟨g3,ys,e3,q3,m3,l3,c3,k3⟩:=QlT ns (⟨k2.at' a _ (by simp) hc.at',k00,hc.k1⟩:Cn g2 a k) q (by omega) (by omega) (by omega);refine⟨g3,ys,_,QY ((Qp (Qd (g1:=g) rfl (Qd (g1:=g) rfl (Qd e1 rfl)))).trans e3) (QcX (QB q3)),λy=>?_,by omega,c3,by omega,k2.all.trans k3⟩;rw[m3,Uq];exact⟨λz=>z.elim id Bw,.inl⟩
end L3
namespace L3
open PySem
theorem QgC:∀{xs:List D},(∀x∈xs,eq x x=some true)->eqGs eq xs xs=some true
 |[],_=>rfl|x::xs,h=>by unfold eqGs;rw[h x (Us ..),QgC λy hy=>h y (Ut _ hy)];rfl
theorem QeC(h1:g[n]?=some (.lst xs))(h2:g[m]?=some (.lst xs))(h:∀x∈xs,eq x x=some true):Qdo eq g n m=some true:=by unfold Qdo;rw[h1,h2];dsimp only;rw[Uj rfl,QgC h]
theorem QkI(u:List Int):eqI 2 (gmD u) (gmD u)=some true:=(Qda 1 u u).trans (by simp)
theorem Qn3(c:Ct):eqI 2 (ctD c) (ctD c)=some true:=QgC λx hx=>by
 have gm:∀u:List Int,eqI 1 (gmD u) (gmD u)=some true:=λu=>(Qda 0 u u).trans (by simp);simp only[Uv,U6,RA]at hx;rcases hx with rfl|rfl|rfl|rfl
 ·exact gm _
 ·show some (_==_)=_;simp
 ·show some (_==_)=_;simp
 ·exact gm _
theorem QeD{us:List α}{f:α->D}(h:∀u,eqI 2 (f u) (f u)=some true):∀x∈us.map f,eqI 2 x x=some true:=λx hx=>by obtain⟨u,_,rfl⟩:=UE.mp hx;exact h u
theorem QhF(ns:List Int)(hc:Cn g a k)(hk:k+2000<100000)(haN:a<N)(f:Few w n m)(hw:w<=2)(B0:Bt g M t A B C N rows n m w us vs cs)(ne:cs≠[]):
  ∃g' k',Qae [.fl (ns.map .int),.ref a,.ref M,.ref t,QA w (.ref A) (.ref B) (.ref C)] g=.ok (.bl true) g'/\Cn g' a k'/\k'<=k+2000/\Keeps [a] g g':=by
 have k00:=hc.k0;obtain⟨g1,e1,k1⟩:=QfD B0.hr B0.ht B0.w1 B0.w2 B0.ok B0.hA B0.hB B0.hC;have B1:=B0.keep k1;generalize hdue:clB (TR rows) w us vs cs=due at e1;have e2:=QkG (i:=4) (σ:=[some (.fl (ns.map .int)),vR a,vR M,vR t,some (QA w (.ref A) (.ref B) (.ref C)),some (.bl due),none,none,none,none]) rfl B1.hA B1.hB B1.hC;have k2:Keeps [] g1 (g1++[.lst (us.map gmD),.lst (vs.map gmD),.lst (cs.map ctD),.lst [.ref g1.length,.ref (g1.length+1),.ref (g1.length+2)]]):=⟨by simp,λj o _ e=>by rw[Ui (Qy e)];exact e⟩;have q0:(g1++[GO.lst (us.map gmD),.lst (vs.map gmD),.lst (cs.map ctD),.lst [.ref g1.length,.ref (g1.length+1),.ref (g1.length+2)]])[g1.length]?=some (.lst (us.map gmD)):=get0;have q1:(g1++[GO.lst (us.map gmD),.lst (vs.map gmD),.lst (cs.map ctD),.lst [.ref g1.length,.ref (g1.length+1),.ref (g1.length+2)]])[g1.length+1]?=some (.lst (vs.map gmD)):=getx rfl;have q2:(g1++[GO.lst (us.map gmD),.lst (vs.map gmD),.lst (cs.map ctD),.lst [.ref g1.length,.ref (g1.length+1),.ref (g1.length+2)]])[g1.length+2]?=some (.lst (cs.map ctD)):=getx rfl;have q3:(g1++[GO.lst (us.map gmD),.lst (vs.map gmD),.lst (cs.map ctD),.lst [.ref g1.length,.ref (g1.length+1),.ref (g1.length+2)]])[g1.length+3]?=some (.lst [.ref g1.length,.ref (g1.length+1),.ref (g1.length+2)]):=getx rfl;have la1:a<g1.length:=Ux (Qy hc.at') k1.len;generalize g1++[GO.lst (us.map gmD),.lst (vs.map gmD),.lst (cs.map ctD),.lst [.ref g1.length,.ref (g1.length+1),.ref (g1.length+2)]]=g2 at e2 k2 q0 q1 q2 q3;generalize g1.length=L at e2 q0 q1 q2 q3 la1;have B2:=B1.keep k2;obtain⟨g3,e3,k3⟩:=QcA B2.hM B2.ht B2.n1 B2.w1 B2.w2 B2.ok (QB B2.hA) (QB B2.hB) (QB B2.hC);rw[hdue]at e3;have k4:Keeps [] g3 (g3++[GO.lst [.ref A,.ref B,.ref C]]):=.push _;have k34:=k3.trans k4;have c4:Ql (mOp2 pNe (mOpA newL (Qa (mOp2 pIx (mVar 4) (mI 2)) (Qa (mOp2 pIx (mVar 4) (mI 3)) (Qa (mOp2 pIx (mVar 4) (mI 4)) mNil)))) (mVar 6)) [some (.fl (ns.map .int)),vR a,vR M,vR t,some (QA w (.ref A) (.ref B) (.ref C)),some (.bl due),vR (L+3),none,none,none] g3=.ok false (g3++[GO.lst [.ref A,.ref B,.ref C]]):=by
  refine Qz (Qk (x:=.ref g3.length) (y:=.ref (L+3)) (g1:=g3++[GO.lst [.ref A,.ref B,.ref C]]) (g2:=g3++[GO.lst [.ref A,.ref B,.ref C]]) (Yd (Qd (g1:=g3) (Qk (x:=QA w (.ref A) (.ref B) (.ref C)) (g1:=g3) rfl rfl Qfo) (Qd (g1:=g3) (Qk (x:=QA w (.ref A) (.ref B) (.ref C)) (g1:=g3) rfl rfl Qkc) (Qd (g1:=g3) (Qk (x:=QA w (.ref A) (.ref B) (.ref C)) (y:=.int (4:Nat)) (g1:=g3) rfl rfl (ix_tup (n:=4) rfl)) rfl))) (QgA (by show 3<=1000;decide))) rfl ?_);have r0:=k34.at' _ _ (by simp) q0;have r1:=k34.at' _ _ (by simp) q1;have r2:=k34.at' _ _ (by simp) q2;have r3:=k34.at' _ _ (by simp) q3;have B4:=B2.keep k34;have hA:=B4.hA;have hB:=B4.hB;have hC:=B4.hC;have rn:=Qo (g:=g3) (GO.lst [.ref A,.ref B,.ref C]);generalize g3++[GO.lst [.ref A,.ref B,.ref C]]=g4 at r0 r1 r2 r3 hA hB hC rn;have key:neT g4 (.ref g3.length) (.ref (L+3))=some true:=by show Qdo (eqR g4) g4 g3.length (L+3)=some true;unfold Qdo;rw[rn,r3];dsimp only;rw[Uj (by simp)];unfold eqGs;rw[show eqR g4 (.ref A) (.ref L)=some true from QeC hA r0 (QeD QkI)];unfold eqGs;rw[show eqR g4 (.ref B) (.ref (L+1))=some true from QeC hB r1 (QeD QkI)];unfold eqGs;rw[show eqR g4 (.ref C) (.ref (L+2))=some true from QeC hC r2 (QeD Qn3)];rfl
  unfold pNe;rw[key];rfl
 generalize g3++[GO.lst [.ref A,.ref B,.ref C]]=g4 at k4 k34 c4;have k04:=(k1.trans k2).trans k34;have r0:=k34.at' _ _ (by simp) q0;have r1:=k34.at' _ _ (by simp) q1;have r2:=k34.at' _ _ (by simp) q2;have r3:=k34.at' _ _ (by simp) q3;obtain⟨g5,us',k5',e5,m5,l5,c5,b5,k5⟩:=QgB ns (⟨k04.at' a _ (by simp) hc.at',k00,hc.k1⟩:Cn g4 a k) r0 (by omega) B0.lu (by omega);obtain⟨g6,vs',k6',e6,m6,l6,c6,b6,k6⟩:=QgB ns c5 (ZP k5 (by omega) r1) (by omega) B0.lv (by omega);obtain⟨g7,cs',k7',e7,m7,l7,c7,b7,k7⟩:=QgB ns c6 (ZP (k5.trans k6) (by omega) r2) (by omega) B0.lc (by omega);have e8:=QqN (i:=6) (σ:=[some (.fl (ns.map .int)),vR a,vR M,vR t,some (QA w (.ref A) (.ref B) (.ref C)),some (.bl due),vR (L+3),none,none,none]) (cap:=[0,1]) (σc:=[some (.fl (ns.map .int)),vR a]) rfl r3 (ZP k5 (by omega) r3) (ZP (k5.trans k6) (by omega) r3) (ZP ((k5.trans k6).trans k7) (by omega) r3) rfl e5 e6 e7;have k8:Keeps [] g7 (g7++[GO.lst [.tup (us'.map gmD),.tup (vs'.map gmD),.tup (cs'.map ctD)]]):=.push _;have q8:=Qo (g:=g7) (GO.lst [.tup (us'.map gmD),.tup (vs'.map gmD),.tup (cs'.map ctD)]);generalize g7++[GO.lst [.tup (us'.map gmD),.tup (vs'.map gmD),.tup (cs'.map ctD)]]=g8 at e8 k8 q8;generalize g7.length=r at e8 q8;have k48:Keeps [a] g4 g8:=((k5.trans k6).trans k7).trans k8.all;have B8:=(B2.keep k34).keepA (k04.at' a _ (by simp) hc.at') haN k48;obtain⟨g9,e9,k9⟩:=QcA (us:=us') (vs:=vs') (cs:=cs') (a:=.tup (us'.map gmD)) (b:=.tup (vs'.map gmD)) (c:=.tup (cs'.map ctD)) B8.hM B8.ht B8.n1 B8.w1 B8.w2 ⟨λu hu=>B0.ok.u u ((m5 u).mp hu),λu hu=>B0.ok.v u ((m6 u).mp hu),λu hu=>B0.ok.c u ((m7 u).mp hu),l5,l6,l7⟩ rfl rfl rfl;rw[QlQ m5 m6 m7,hdue]at e9;have B9:=B8.keep k9;have c9:Cn g9 a k7':=⟨(k8.trans k9).at' _ _ (by simp) c7.at',c7.k0,c7.k1⟩;obtain⟨σ10,g10,e10,x8,x9,h1,h2,h3⟩:=Y2 (t:=gSet 8) (body:=Qad) (lo:=0) (n:=2) (σ:=[some (.fl (ns.map .int)),vR a,vR M,vR t,some (QA w (.ref A) (.ref B) (.ref C)),some (.bl due),vR (L+3),vR r,none,none]) (g:=g9) (λi σ' g'=>∃x8 x9,σ'=[some (.fl (ns.map .int)),vR a,vR M,vR t,some (QA w (.ref A) (.ref B) (.ref C)),some (.bl due),vR (L+3),vR r,x8,x9]/\Cn g' a (k7'+2*i)/\Keeps [a] g9 g') ⟨none,none,rfl,by simpa using c9,.refl⟩ (λi σ' g' hi ⟨x8,x9,h1,h2,h3⟩=>by
  subst h1;obtain⟨g2',x9',t1,t2,t3⟩:=Qn2 ns h2 (by omega) haN f hw (B9.keepA c9.at' haN h3) ne (some (.bl due)) (vR (L+3)) (vR r) (vI (0+i)) x9;refine⟨_,_,g2',rfl,t1,_,_,rfl,?_,h3.trans t3⟩;have:k7'+2*(i:Int)+2=k7'+2*((i+1:Nat):Int):=by omega
  rw[<-this];exact t2)
 subst h1;refine⟨g10,_,Qu rfl ?_,h2,by omega,k04.all.trans (k48.trans (k9.all.trans h3))⟩;refine Qf _ g1 (Qq ((Qp (ds:=[.ref t,.int w,.ref A,.ref B,.ref C]) (g':=g) ?_).trans e1)) (Qf _ g2 (Qq e2) (Qf _ g4 (iff' g4 (Y6 (QC (x:=true) ((Qp rfl).trans (Qdc e3))) c4) rfl) (Qf _ g8 (Qq e8) (Qf _ g9 (iff' g9 (QC (x:=true) ((Qp (ds:=[.ref M,QA w (.tup (us'.map gmD)) (.tup (vs'.map gmD)) (.tup (cs'.map ctD)),.bl due]) (g':=g8) ?_).trans (Qdc e9))) rfl) (Qf _ g10 ((JB (YC (a:=mLit (.int 2)) (n:=2) rfl (Qb6 (by decide)))).trans e10) rfl)))))
 ·exact Qd (g1:=g) rfl (Qd (g1:=g) (Qk (x:=QA w (.ref A) (.ref B) (.ref C)) (g1:=g) rfl rfl Qc0) (Qd (g1:=g) (Qk (x:=QA w (.ref A) (.ref B) (.ref C)) (g1:=g) rfl rfl Qfo) (Qd (g1:=g) (Qk (x:=QA w (.ref A) (.ref B) (.ref C)) (g1:=g) rfl rfl Qkc) (Qd (g1:=g) (Qk (x:=QA w (.ref A) (.ref B) (.ref C)) (y:=.int (4:Nat)) (g1:=g) rfl rfl (ix_tup (n:=4) rfl)) rfl))))
 ·exact Qd (g1:=g8) rfl (Qd (Yd (Qd (g1:=g8) rfl (Qd (g1:=g8) (Qk (x:=QA w (.ref A) (.ref B) (.ref C)) (g1:=g8) rfl rfl Qc0) (Qd (g1:=g8) (Qk (x:=.ref r) (y:=.int (0:Nat)) (g1:=g8) rfl rfl (Qaf q8 rfl)) (Qd (g1:=g8) (Qk (x:=.ref r) (y:=.int (1:Nat)) (g1:=g8) rfl rfl (Qaf q8 rfl)) (Qd (g1:=g8) (Qk (x:=.ref r) (y:=.int (2:Nat)) (g1:=g8) rfl rfl (Qaf q8 rfl)) rfl))))) rfl) (Qd (g1:=g8) rfl rfl))
end L3
namespace L3
open PySem
section
theorem QmG(hn:1<=n)(hn3:n<=3)(hm:m=2\/m=3)(hw:w=1\/w=2):Few w n m:=by
 have hn':n=1\/n=2\/n=3:=by omega
 rcases hn' with rfl|rfl|rfl<;>rcases hm with rfl|rfl<;>rcases hw with rfl|rfl<;>exact⟨by decide,by decide,by decide,by decide,by decide,by decide,by decide +kernel,by decide +kernel,by decide +kernel⟩
variable{ns:List Int}{a t M R X:Nat}{mm:Int}{gs:List (List Int)}{n m N:Nat}{rows:List (List D)}{x10 x11:Option D}
def Cs(g0 g:G)(X n m:Nat)(lo hi:Nat):Prop:=∃cs:List Ct,g[X]?=some (.lst (cs.map ctD))/\(∀c∈cs,okC 1 n m c)/\lo<=cs.length/\cs.length<=hi/\Keeps [] g0 g
abbrev So(ns:List Int)(a:Nat)(mm:Int)(t M R X:Nat)(x7 x8 x9 x10 x11:Option D):S3:=[some (.fl (ns.map .int)),vR a,vI mm,vR t,vR M,vR R,vR X,x7,x8,x9,x10,x11]
theorem QpM{g0 g:G}(hX:g0.length<=X)(hR:g0[R]?=some (.lst (gs.map gmD)))(hg:∀u∈gs,okG 1 m u)(l1:1<=gs.length)(l3:gs.length<=3){u:List Int}(hu:okG 1 m u){p q:Int}(hp:0<=p/\p<n)(hq:0<=q/\q<m)(h:Cs g0 g X n m lo hi)(hz:hi<=200):∃g',QbC (So ns a mm t M R X (vM u) (vI p) (vI q) x10 x11) g=.nx (So ns a mm t M R X (vM u) (vI p) (vI q) x10 x11) g'/\Cs g0 g' X n m (lo+1) (hi+3):=by
 obtain⟨cs,h1,h2,h3,h4,h5⟩:=h;obtain⟨g1,e1,k1⟩:=Qbi (us:=gs) (f:=gmD) (F:=λv=>ctD (u,p,q,v)) (a:=mVar 5) (e:=mOpA pTup (Qa (mVar 1) (Qa (mVar 2) (Qa (mVar 3) (Qa (mVar 0) mNil))))) (cap:=[7,8,9]) (σc:=[vM u,vI p,vI q]) (σ:=So ns a mm t M R X (vM u) (vI p) (vI q) x10 x11) (g:=g) rfl (QB (h5.at' _ _ (by simp) hR)) (Ue (show gs.length<=1000 by omega) (by decide)) rfl λv _ g1 _=>⟨g1,rfl,.refl⟩;have k2:=k1.trans (Keeps.push (S:=[]) (GO.lst (gs.map λv=>ctD (u,p,q,v))));have lX:=Qy h1;have lg:=k1.len;have ex:=QmE (o:=mVar 6) (σ:=So ns a mm t M R X (vM u) (vI p) (vI q) x10 x11) rfl h1 e1 (k2.at' _ _ (by simp) h1) (Qo _) (by omega) (by rw[Ub,Ub];omega);refine⟨_,Zs ex,cs++gs.map (λv=>(u,p,q,v)),by rw[Q6 (k2.at' _ _ (by simp) h1),Uz,Ra];rfl,λc hc=>?_,by rw[Uh,Ub];omega,by rw[Uh,Ub];omega,⟨by rw[UG];exact(h5.trans k2).len,λj o hj e=>by rw[Uc (by have:=Qy e;omega)];exact(h5.trans k2).at' j o hj e⟩⟩;rcases Uq.mp hc with z|z
 ·exact h2 c z
 ·obtain⟨v,hv,rfl⟩:=UE.mp z;exact⟨hu,hp,hq,hg v hv⟩
theorem QpN{g0 g:G}(hX:g0.length<=X)(hr:tabOf N g0 t rows)(ht:Tb rows n m)(hn:1<=n)(m2:1<=m)(m3:m<=3)(hR:g0[R]?=some (.lst (gs.map gmD)))(hg:∀u∈gs,okG 1 m u)(l1:1<=gs.length)(l3:gs.length<=3){u:List Int}(hu:okG 1 m u){p:Int}(hp:0<=p/\p<n){x9:Option D}(h:Cs g0 g X n m lo hi)(hz:hi<=150):∃g' x9',QbD (So ns a mm t M R X (vM u) (vI p) x9 x10 x11) g=.nx (So ns a mm t M R X (vM u) (vI p) x9' x10 x11) g'/\Cs g0 g' X n m (lo+1) (hi+9):=by obtain⟨_,_,_,_,_,k0⟩:=id h;obtain⟨σ',g',e1,x9',h1,h2⟩:=Y2 (t:=gSet 9) (body:=QbC) (lo:=0) (n:=m) (σ:=So ns a mm t M R X (vM u) (vI p) x9 x10 x11) (g:=g) (λi σ' g'=>∃x9',σ'=So ns a mm t M R X (vM u) (vI p) x9' x10 x11/\Cs g0 g' X n m (lo+i) (hi+3*i)) ⟨x9,rfl,h⟩ (λi σ' g' hi' ⟨x9',q1,q2⟩=>by subst q1;obtain⟨g2,a1,a2⟩:=QpM (ns:=ns) (a:=a) (mm:=mm) (t:=t) (M:=M) (x10:=x10) (x11:=x11) hX hR hg l1 l3 hu hp (q:=0+i) ⟨by omega,by omega⟩ q2 (by omega);exact⟨_,_,g2,rfl,a1,_,rfl,a2⟩);subst h1;obtain⟨cs,q1,q2,q3,q4,q5⟩:=h2;exact⟨g',x9',(JB (YC (Qbl (hr.mono k0 (by simp)) ht hn rfl) (Qb6 (by omega)))).trans e1,cs,q1,q2,by omega,by omega,q5⟩
theorem QpO(hX:g0.length<=X)(hr:tabOf N g0 t rows)(ht:Tb rows n m)(hn:1<=n)(n3:n<=3)(m2:1<=m)(m3:m<=3)(hR:g0[R]?=some (.lst (gs.map gmD)))(hg:∀u∈gs,okG 1 m u)(l1:1<=gs.length)(l3:gs.length<=3)(hu:okG 1 m u)(h:Cs g0 g X n m lo hi)(hz:hi<=100):∃g' x8' x9',QbE (So ns a mm t M R X (vM u) x8 x9 x10 x11) g=.nx (So ns a mm t M R X (vM u) x8' x9' x10 x11) g'/\Cs g0 g' X n m (lo+1) (hi+27):=by obtain⟨_,_,_,_,_,k0⟩:=id h;obtain⟨σ',g',e1,x8',x9',h1,h2⟩:=Y2 (t:=gSet 8) (body:=QbD) (lo:=0) (n:=n) (σ:=So ns a mm t M R X (vM u) x8 x9 x10 x11) (g:=g) (λi σ' g'=>∃x8' x9',σ'=So ns a mm t M R X (vM u) x8' x9' x10 x11/\Cs g0 g' X n m (lo+i) (hi+9*i)) ⟨x8,x9,rfl,h⟩ (λi σ' g' hi' ⟨x8',x9',q1,q2⟩=>by subst q1;obtain⟨g2,y9,a1,a2⟩:=QpN (ns:=ns) (a:=a) (mm:=mm) (M:=M) (x9:=x9') (x10:=x10) (x11:=x11) hX hr ht hn m2 m3 hR hg l1 l3 hu (p:=0+i) ⟨by omega,by omega⟩ q2 (by omega);exact⟨_,_,g2,rfl,a1,_,_,rfl,a2⟩);subst h1;obtain⟨cs,q1,q2,q3,q4,q5⟩:=h2;exact⟨g',x8',x9',(JB (YC (Qgy (hr.mono k0 (by simp)) ht rfl) (Qb6 (by omega)))).trans e1,cs,q1,q2,by omega,by omega,q5⟩
theorem Qih(hM:g[M]?=some (Y4 rows))(ht:Tb rows n m)(n3:n<=3)(hx:x∈[D.non,.tup [],.str "wall",.tup [.str "same",.int 0,.int 1],.tup (rows.map .tup),.tup [.str "wall"],.int 0,.ref r])(hr:g[r]?=some (.lst ds)):NoP M g x:=by
 simp only[Uv,U6,RA]at hx;rcases hx with rfl|rfl|rfl|rfl|rfl|rfl|rfl|rfl
 ·exact Qfz ⟨_,rfl,by decide⟩
 ·exact QbI (by simp)
 ·exact Qfz ⟨_,rfl,by decide⟩
 ·exact QbI (by simp)
 ·exact QbI (by rw[Ub,ht.ln];omega)
 ·exact QbI (by simp)
 ·exact Qfz ⟨_,rfl,by decide⟩
 ·exact Qfz ⟨.list,by unfold tyOf;dsimp only;rw[hr],by decide⟩
end
end L3
namespace L3
open PySem
theorem QpP(ns:List Int)(a:Nat)(k:Int)(g:G)(hc:Cn g a k)(hk2:k<50000):∃g' k',Qgf [.fl (ns.map .int),.ref a] g=.ok (.bl true) g'/\Cn g' a k'/\k'<=k+5000:=by
 have k00:=hc.k0;obtain⟨mm,g1,m0,m1,e1,ga1,kk1,l1⟩:=QhD ns hc;have s0:=UT mm (show(3:Int)≠0 by decide);have s1:=UJ mm (show(0:Int)<3 by decide);have t0:=UT (mm/3) (show(3:Int)≠0 by decide);have t1:=UJ (mm/3) (show(0:Int)<3 by decide);have u0:=UT (mm/9) (show(2:Int)≠0 by decide);have u1:=UJ (mm/9) (show(0:Int)<2 by decide);obtain⟨n,hn⟩:∃n:Nat,1+mm%3=(n:Int):=QhE (by omega);obtain⟨m,hm⟩:∃m:Nat,2+mm/3%3/2=(m:Int):=QhE (by omega);obtain⟨w,hw⟩:∃w:Nat,1+mm/9%2=(w:Int):=QhE (by omega);have n1:1<=n:=by omega
 have n3:n<=3:=by omega
 have m23:m=2\/m=3:=by omega
 have w12:w=1\/w=2:=by omega
 have f1:=QmG n1 n3 m23 (w:=1) (.inl rfl);have fw:=QmG n1 n3 m23 w12;obtain⟨rows,g2,e2,k2,ga2,tb,r1,r2,r3⟩:=QlA ns a (k+1) n m g1 (by omega) (by omega) (by omega) (by omega) ga1 (by omega) (by omega);have ht:Tb rows n m:=⟨r1,r2,r3⟩;have nm:(n:Int)*(m:Int)<=9:=by
  have:n*m<=3*3:=Nat.mul_le_mul n3 (by omega)
  exact_mod_cast this
 have nm0:(0:Int)<=(n:Int)*(m:Int):=Int.mul_nonneg (by omega) (by omega);generalize hk':k+1+(n:Int)*(m:Int)=k' at ga2;have la:a<g1.length:=Qy ga1;obtain⟨g3,k3,e3,mach⟩:=QnG (.ref g1.length) rows g2 tb.rows (λr hr=>by rw[r2 r hr];exact Ue (show m<=3 by omega) (by decide)) (by rw[r1];exact Ue n3 (by decide)) (λr hr d hd=>(r3 r hr d hd).thing) (Qa (mVar 3) mNil) [some (.fl (ns.map .int)),vR a,vI mm,vR g1.length,none,none,none,none,none,none,none,none] g2 rfl;have good:=entOk.good (show 0<n by omega) (by omega) r1 r2 r3;rw[Uj good]at e3;have hM:=mach good;generalize g2.length=M at e3 hM;have hr3:tabOf g1.length g3 g1.length rows:=tb.mono k3 (by simp);have ga3:=k3.at' _ _ (by simp) ga2;obtain⟨gs,R,g4,e4,hR,okg,lg,k4,_⟩:=QhC (g:=g3) (m:=m) (w:=1) (by omega) (by omega) (by decide);rw[Nat.pow_one]at lg;have hr4:=hr3.mono k4 (by simp);generalize ht':g1.length=t at e2 e3 hr3 hr4 la;have k5:Keeps [] g4 (g4++[GO.lst []]):=.push _;obtain⟨σ5,g5,e5,x7,x8,x9,h1,cs,q1,q2,q3,q4,q5⟩:=Qgv (us:=gs) (f:=gmD) (t:=gSet 7) (body:=QbE) (a:=mVar 5) (σ:=So ns a mm t M R g4.length none none none none none) (g:=g4++[GO.lst []]) rfl (QB hR) k5
  (λi σ' g'=>∃x7 x8 x9,σ'=So ns a mm t M R g4.length x7 x8 x9 none none/\Cs g4 g' g4.length n m i (27*i)) ⟨none,none,none,rfl,[],Qo _,λ_ h=>(by cases h),by simp,by simp,k5⟩ (λ_ _ _ ⟨_,_,_,_,_,_,_,_,_,h⟩=>h) (λi u σ' g' hu ⟨x7,x8,x9,z1,z2⟩=>by subst z1;have hi:=(Ul.mp hu).1;obtain⟨g6,y8,y9,a1,a2⟩:=QpO (ns:=ns) (a:=a) (mm:=mm) (M:=M) (x8:=x8) (x9:=x9) (x10:=none) (x11:=none) (Um _) hr4 ht n1 n3 (by omega) (by omega) hR okg (by omega) (by omega) (okg u (UR hu)) z2 (by omega);exact⟨_,_,g6,rfl,a1,_,_,_,rfl,a2⟩)
 subst h1;have k45:=(k3.trans k4).trans q5;have k6:Keeps [] g5 (g5++[GO.lst (gs.map gmD)]):=.push _;have hR5:=q5.at' _ _ (by simp) hR;have q6:=Qo (g:=g5) (GO.lst (gs.map gmD));have eL:JH (.ref R) g5=.ok (.ref g5.length) (g5++[.lst (gs.map gmD)]):=by unfold JH;dsimp only;rw[hR5]
 generalize g5++[GO.lst (gs.map gmD)]=g6 at k6 q6 eL;generalize g5.length=R' at q6 eL;have hM6:=((k4.trans q5).trans k6).at' _ _ (by simp) hM;have B6:Bt g6 M t R R' g4.length t rows n m 1 gs gs cs:=⟨hM6,hr4.mono (q5.trans k6) (by simp),ht,n1,by decide,by decide,⟨okg,okg,q2,by omega,by omega,by omega⟩,k6.at' _ _ (by simp) hR5,q6,k6.at' _ _ (by simp) q1,by omega,by omega,by omega⟩;have c6:Cn g6 a k':=⟨((k4.trans q5).trans k6).at' _ _ (by simp) ga3,by omega,by omega⟩;obtain⟨g7,k7',e7,c7,b7,k7⟩:=QhF ns c6 (by omega) la f1 (by decide) B6 (λz=>absurd (show gs.length<=0 by rw[z]at q3;exact q3) (by omega));have B7:=B6.keepA c6.at' la k7;obtain⟨d8,g8,e8,k8,told⟩:=QnN (w:=w) B7.hM B7.ht fw 40 (by decide);have hM8:=k8.at' _ _ (by simp) B7.hM;have c8:Cn g8 a k7':=⟨k8.at' _ _ (by simp) c7.at',c7.k0,c7.k1⟩
 -- the second paper
 obtain⟨g9,k9',c9,b9,hM9,e9⟩:∃g9 k9',Cn g9 a k9'/\k9'<=k7'+2000/\g9[M]?=some (Y4 rows)/\QfY (Ql (mOp2 Qe6 (mVar 10) (mLit .non))) (Q9 (Ql (Qn Qae (Qa (mVar 0) (Qa (mVar 1) (Qa (mVar 4) (Qa (mVar 3) (Qa (mVar 10) mNil)))))))) (So ns a mm t M R g4.length x7 x8 x9 (some d8) none) g8=.ok false g9:=by
  rcases told with rfl|⟨us,vs,cs',⟨A,B,C,rfl,hA,hB,hC⟩,ok,ne,lu,lv,lc⟩
  ·exact⟨g8,k7',c8,by omega,hM8,rfl⟩
  ·have hr8:=B7.hr.mono k8 (by simp);have B8:Bt g8 M t A B C t rows n m w us vs cs':=⟨hM8,hr8,ht,n1,by omega,by omega,ok,hA,hB,hC,by omega,by omega,by omega⟩;obtain⟨g9,k9',e9,c9,b9,k9⟩:=QhF ns c8 (by omega) la fw (by omega) B8 ne;refine⟨g9,k9',c9,b9,(B8.keepA c8.at' la k9).hM,?_⟩;rw[Qj9,show Ql (mOp2 Qe6 (mVar 10) (mLit .non)) (So ns a mm t M R g4.length x7 x8 x9 (some (QA w (.ref A) (.ref B) (.ref C))) none) g8=.ok true g8 from rfl];exact QC (x:=true) ((Qp rfl).trans e9)
 have k10:Keeps [] g9 (g9++[GO.lst [.str "wall"]]):=.push _;have eS:(mOpA newL (Qa (mLit .non) (Qa (mOpA pTup mNil) (Qa (mLit (.str "wall")) (Qa (mOpA pTup (Qa (mLit (.str "same")) (Qa (mI 0) (Qa (mI 1) mNil)))) (Qa (QH [11] "table" (mVar 4)) (Qa (mOpA pTup (Qa (mLit (.str "wall")) mNil)) (Qa (mI 0) (Qa (mOpA newL (Qa (mLit (.str "wall")) mNil)) mNil))))))))) (So ns a mm t M R g4.length x7 x8 x9 (some d8) none) g9=.ok (.ref (g9.length+1)) (g9++[GO.lst [.str "wall"],.lst [.non,.tup [],.str "wall",.tup [.str "same",.int 0,.int 1],.tup (rows.map .tup),.tup [.str "wall"],.int 0,.ref g9.length]]):=by refine Yd (xs:=[.non,.tup [],.str "wall",.tup [.str "same",.int 0,.int 1],.tup (rows.map .tup),.tup [.str "wall"],.int 0,.ref g9.length]) (g1:=g9++[GO.lst [.str "wall"]]) (Qd (g1:=g9) rfl (Qd (g1:=g9) rfl (Qd (g1:=g9) rfl (Qd (g1:=g9) rfl (Qd (Z0 (n:=M) rfl hM9 (by decide) lk1) (Qd (g1:=g9) rfl (Qd (g1:=g9) rfl (Qd (g1:=g9++[GO.lst [.str "wall"]]) rfl rfl)))))))) ?_;rw[QgA (by show 8<=1000;decide),UQ,Uh];rfl
 have kS:Keeps [] g9 (g9++[GO.lst [.str "wall"],.lst [.non,.tup [],.str "wall",.tup [.str "same",.int 0,.int 1],.tup (rows.map .tup),.tup [.str "wall"],.int 0,.ref g9.length]]):=⟨by simp,λj o _ e=>by rw[Ui (Qy e)];exact e⟩;have qS0:(g9++[GO.lst [.str "wall"],.lst [.non,.tup [],.str "wall",.tup [.str "same",.int 0,.int 1],.tup (rows.map .tup),.tup [.str "wall"],.int 0,.ref g9.length]])[g9.length]?=some (.lst [.str "wall"]):=get0;have qS1:(g9++[GO.lst [.str "wall"],.lst [.non,.tup [],.str "wall",.tup [.str "same",.int 0,.int 1],.tup (rows.map .tup),.tup [.str "wall"],.int 0,.ref g9.length]])[g9.length+1]?=some (.lst [.non,.tup [],.str "wall",.tup [.str "same",.int 0,.int 1],.tup (rows.map .tup),.tup [.str "wall"],.int 0,.ref g9.length]):=getx rfl;generalize g9++[GO.lst [.str "wall"],.lst [.non,.tup [],.str "wall",.tup [.str "same",.int 0,.int 1],.tup (rows.map .tup),.tup [.str "wall"],.int 0,.ref g9.length]]=gS at eS kS qS0 qS1;obtain⟨src,z1,z2,z3⟩:=Qc8 (QB qS1) .refl;obtain⟨σ11,g11,e11,x11,h1,k11⟩:=Qem (t:=gSet 11) (body:=QdF) (src:=src) (n:=8) (σ:=So ns a mm t M R g4.length x7 x8 x9 (some d8) none) (g:=gS) z2 (λi σ' g'=>∃x11,σ'=So ns a mm t M R g4.length x7 x8 x9 (some d8) x11/\Keeps [] gS g') ⟨none,rfl,.refl⟩ (λi σ' g' hi ⟨x11,y1,y2⟩=>by subst y1;obtain⟨x,hx⟩:∃x,[D.non,.tup [],.str "wall",.tup [.str "same",.int 0,.int 1],.tup (rows.map .tup),.tup [.str "wall"],.int 0,.ref g9.length][i]?=some x:=⟨_,UV hi⟩;obtain⟨g12,a1,a2⟩:=QnT (Qih ((kS.trans y2).at' _ _ (by simp) hM9) ht n3 (UR hx) (y2.at' _ _ (by simp) qS0));exact⟨x,_,_,g12,by rw[z3 _ _ y2,hx],rfl,iff' g12 (QC (x:=true) ((Qp (Qd (g1:=g') rfl (Qd (x:=x) (g1:=g') rfl (Qd (x:=.bl false) (g1:=g') rfl rfl)))).trans a1)) rfl,_,rfl,y2.trans a2⟩) (λσ g' ⟨_,_,y2⟩=>by rw[z3 _ _ y2];rfl);subst h1;refine⟨g11,k9',Qu rfl ?_,⟨(kS.trans k11).at' _ _ (by simp) c9.at',c9.k0,c9.k1⟩,by omega⟩;refine Qf _ g1 (Qq ((Qp rfl).trans e1)) (Qf _ g2 (Qq ((Qp (ds:=[.fl (ns.map .int),.ref a,.int n,.int m]) (g':=g1) ?_).trans e2)) (Qf _ g3 (Qq e3) (Qf _ g4 (Qq ((Qp (Qd (Qbl hr3 ht n1 rfl) (Qd (x:=.int (1:Nat)) (g1:=g3) rfl rfl))).trans e4)) (Qf _ _ (Qq Qai) (Qf _ g5 e5 (Qf _ g7 (iff' g7 (QC (x:=true) ((Qp (ds:=[.fl (ns.map .int),.ref a,.ref M,.ref t,QA (1:Nat) (.ref R) (.ref R') (.ref g4.length)]) (g':=g6) ?_).trans e7)) rfl) (Qf _ g8 (Qq ((Qp (ds:=[.ref M,.int w,.int 40]) (g':=g7) ?_).trans e8)) (Qf _ g9 (iff' g9 e9 rfl) (Qf _ g11 ((JB (QcB eS z1)).trans e11) rfl)))))))))
 ·exact Qd (g1:=g1) rfl (Qd (g1:=g1) rfl (Qd (x:=.int n) (g1:=g1) (by rw[<-hn];exact Qk (x:=.int 1) rfl (Qcc (e:=mVar 2) (x:=mm) rfl (by decide)) rfl) (Qd (x:=.int m) (g1:=g1) (by rw[<-hm];exact Qk (x:=.int 2) rfl (Jk (Qcc (Jk (e:=mVar 2) (x:=mm) rfl (by decide) (by decide)) (by decide)) (by decide) (by decide)) rfl) rfl)))
 ·exact Qd (g1:=g5) rfl (Qd (g1:=g5) rfl (Qd (g1:=g5) rfl (Qd (g1:=g5) rfl (Qd (Yd (Qd (g1:=g5) rfl (Qd (x:=.int (1:Nat)) (g1:=g5) rfl (Qd (g1:=g5) rfl (Qd (QY (x:=.ref R) (g1:=g5) rfl eL) (Qd (g1:=g6) rfl rfl))))) rfl) rfl))))
 ·exact Qd (g1:=g7) rfl (Qd (x:=.int w) (g1:=g7) (by rw[<-hw];exact Qk (x:=.int 1) rfl (Qcc (Jk (e:=mVar 2) (x:=mm) rfl (by decide) (by decide)) (by decide)) rfl) (Qd (g1:=g7) rfl rfl))
theorem law_true(ns:List Int)(hz:ns.length<=63):∃g',Qlw [.fl (ns.map .int)] []=.ok (.bl true) g':=by
 have lq:∃c:Nat,1<=c/\c<=2/\mOp2 pAdd (mI 1) (mOp2 Qjw (mI 1) (mOp2 Zg (mOp1 pLen (mVar 0)) (mI 20))) [some (.fl (ns.map .int)),vR 0,none] [.lst [.int 0]]=.ok (.int c) [.lst [.int 0]]:=by
  have e1:mOp1 pLen (mVar 0) [some (.fl (ns.map .int)),vR 0,none] [.lst [.int 0]]=.ok (.int ns.length) [.lst [.int 0]]:=QY (x:=.fl (ns.map .int)) rfl (by show Res.ok (D.int ((ns.map D.int).length:Nat)) _=_;rw[Ub]);refine⟨1+min 1 (ns.length/20),by omega,by omega,Qk (x:=.int 1) (y:=.int ((min 1 (ns.length/20):Nat):Int)) (g1:=[.lst [.int 0]]) (g2:=[.lst [.int 0]]) rfl (Qk (x:=.int 1) (y:=.int ((ns.length:Int) / 20)) (g1:=[.lst [.int 0]]) (g2:=[.lst [.int 0]]) rfl (Jk e1 (by decide) (by decide)) ?_) ?_⟩
  ·unfold Qjw;dsimp only;congr 2;split<;>omega
  ·rw[Qpw];rfl
 obtain⟨c,c1,c4,e0⟩:=lq;obtain⟨σ',g',e1,k,_,_,_⟩:=Y2 (t:=gSet 2) (body:=Qhm) (lo:=0) (n:=c) (σ:=[some (.fl (ns.map .int)),vR 0,none]) (g:=[.lst [.int 0]]) (λi σ' g'=>∃(k:Int)(x:Option D),σ'=[some (.fl (ns.map .int)),vR 0,x]/\Cn g' 0 k/\k<=5000*i)
  ⟨0,none,rfl,⟨rfl,by decide,by decide⟩,by decide⟩ (λi σ' g' hi hh=>by obtain⟨k,x,rfl,q1,q3⟩:=hh;obtain⟨g2,k2,a1,a2,a4⟩:=QpP ns 0 k g' q1 (by omega);exact⟨_,[some (.fl (ns.map .int)),vR 0,vI (0+i)],g2,rfl,iff' g2 (QC (x:=true) ((Qp (ds:=[.fl (ns.map .int),.ref 0]) (g':=g') rfl).trans a1)) rfl,k2,vI (0+i),rfl,a2,by omega⟩)
 refine⟨g',Qu rfl ?_⟩;show QnC [some (.fl (ns.map .int)),none,none] []=_;unfold QnC;refine Qf [some (.fl (ns.map .int)),vR 0,none] [.lst [.int 0]] (Qq (by simp[newL,SZ])) ?_;exact Qf σ' g' ((JB (YC e0 (Qb6 (by omega)))).trans e1) (QX rfl)
end L3
namespace V
open PySem PySem.Spec PyProof.Rows L2 L3
theorem Zd{N P:List Str}{sc:Scope}(h1:sc.kind=.function:=by rfl)(h2:sc.isCoroutine=false:=by rfl)(h3:sc.isGenerator=false:=by rfl)(h4:N.Nodup:=by decide +kernel)(h5:N.take P.length=P:=by rfl)(h6:∀x∈P,sc.names.lookup x=some .local\/sc.names.lookup x=some .cell:=by decide +kernel)(h7:∀y∈sc.names,y.2≠.free:=by decide +kernel):FnScope N P sc:=⟨h1,h2,h3,h4,h5,h6,h7⟩
noncomputable def top(i:Nat):Stmt:=PySem.Challenge.pw_tapeproof_k51_papers_of_contexts.main.body.getD i (.Pass ⟨0,0,0,0⟩)
abbrev QbL:Stmt:=top 5
abbrev Qii:List Str:=["value"]
theorem QgD:FnScope Qii ["value"] (Qg QbL):=Zd
abbrev QbM:Stmt:=top 6
abbrev Qij:List Str:=["value","many"]
theorem QgE:FnScope Qij ["value","many"] (Qg QbM):=Zd
abbrev YL:Stmt:=top 7
abbrev Qck:List Str:=["value"]
theorem QbN:FnScope Qck ["value"] (Qg YL):=Zd
abbrev QaT:Stmt:=top 12
abbrev QgF:List Str:=["way"]
theorem QfE:FnScope QgF ["way"] (Qg QaT):=Zd
abbrev QbO:Stmt:=top 13
abbrev Qik:List Str:=["thing","states","signs"]
theorem QgG:FnScope Qik ["thing","states","signs"] (Qg QbO):=Zd
abbrev Jl:Stmt:=top 14
abbrev Qcd:List Str:=["rows","states","signs","row"]
theorem YQ:FnScope Qcd ["rows"] (Qg Jl):=Zd
abbrev Yt:Stmt:=YV (top 15) 0
abbrev QaM:List Str:=["self","table","rows"]
theorem Qak:FnScope QaM ["self","table"] (Qg Yt):=Zd
abbrev QaU:Stmt:=top 16
abbrev QgH:List Str:=["machine"]
theorem QfF:FnScope QgH ["machine"] (Qg QaU):=Zd
abbrev QbP:Stmt:=top 17
abbrev Qil:List Str:=["machine"]
theorem QgI:FnScope Qil ["machine"] (Qg QbP):=Zd
abbrev Qbn:Stmt:=top 20
abbrev QfG:List Str:=["thing","width","signs"]
theorem Qim:FnScope QfG ["thing","width","signs"] (Qg Qbn):=Zd
abbrev Qal:Stmt:=top 21
abbrev QfH:List Str:=["thing","width","machine"]
theorem QeE:FnScope QfH ["thing","width","machine"] (Qg Qal):=Zd
abbrev JQ:Stmt:=top 22
abbrev Qdd:List Str:=["things","width","signs"]
theorem QfI:FnScope Qdd ["things","width","signs"] (Qg JQ):=Zd
abbrev Ye:Stmt:=top 23
abbrev Qam:List Str:=["machine","paper","width"]
theorem JY:FnScope Qam ["machine","paper"] (Qg Ye):=Zd
abbrev QbQ:Stmt:=top 24
abbrev Qin:List Str:=["machine","context"]
theorem QgJ:FnScope Qin ["machine","context"] (Qg QbQ):=Zd
abbrev JR:Stmt:=top 25
abbrev QeF:List Str:=["entry","context"]
theorem Qdt:FnScope QeF ["entry","context"] (Qg JR):=Zd
abbrev Qan:Stmt:=top 26
abbrev QfJ:List Str:=["entry","context"]
theorem QeG:FnScope QfJ ["entry","context"] (Qg Qan):=Zd
abbrev Jp:Stmt:=top 27
abbrev Qdu:List Str:=["entry","context","gram","sign","behind"]
theorem Y8:FnScope Qdu ["entry","context","gram"] (Qg Jp):=Zd
abbrev Qao:Stmt:=YV (top 28) 0
abbrev QfK:List Str:=["self"]
theorem QeH:FnScope QfK ["self"] (Qg Qao):=Zd
abbrev Yp:Stmt:=YV (top 28) 1
abbrev QbR:List Str:=["self","seen"]
theorem Qbo:FnScope QbR ["self","seen"] (Qg Yp):=Zd
abbrev QaV:Stmt:=YV (top 28) 2
abbrev QgK:List Str:=["self","gram"]
theorem QfL:FnScope QgK ["self","gram"] (Qg QaV):=Zd
abbrev Jq:Stmt:=YV (top 28) 3
abbrev Qdv:List Str:=["self","gram"]
theorem Qde:FnScope Qdv ["self","gram"] (Qg Jq):=Zd
abbrev YM:Stmt:=YV (top 28) 4
abbrev Qcl:List Str:=["self","grams","alike"]
theorem Yq:FnScope Qcl ["self"] (Qg YM):=Zd
abbrev QbS:Stmt:=top 29
abbrev Qio:List Str:=["things","grams","gram"]
theorem QaW:FnScope Qio ["things"] (Qg QbS):=Zd
abbrev QaF:Stmt:=top 30
abbrev QdM:List Str:=["machine","sides","contexts","context","entry","way","grams"]
theorem JS:FnScope QdM ["machine","sides","contexts","context"] (Qg QaF):=Zd
abbrev YE:Stmt:=top 31
abbrev Qap:List Str:=["machine","paper","blanks","sides","contexts"]
theorem YR:FnScope Qap ["machine","paper"] (Qg YE):=Zd
abbrev Z1:Stmt:=YV (top 32) 1
abbrev QaX:List Str:=["self","context"]
theorem QaH:FnScope QaX ["self","context"] (Qg Z1):=Zd
abbrev YN:Stmt:=YV (top 32) 0
abbrev Qcm:List Str:=["self","machine","width","blanks"]
theorem JD:FnScope Qcm ["self","machine","width"] (Qg YN):=Zd
abbrev ZQ:Stmt:=YV (top 32) 2
abbrev QaI:List Str:=["self","way","gram","context"]
theorem YF:FnScope QaI ["self","way","gram"] (Qg ZQ):=Zd
abbrev Z2:Stmt:=YV (top 32) 3
abbrev QaY:List Str:=["self","context","entry","way","seen","gram"]
theorem QK:FnScope QaY ["self"] (Qg Z2):=Zd
abbrev Yr:Stmt:=YV (top 32) 4
abbrev QbT:List Str:=["self","width"]
theorem Qbp:FnScope QbT ["self","width"] (Qg Yr):=Zd
abbrev Qdf:Stmt:=top 33
abbrev QkJ:List Str:=["machine","width","most","gathering"]
theorem QdN:FnScope QkJ ["machine","width","most"] (Qg Qdf):=Zd
abbrev QeI:Stmt:=top 35
abbrev QlV:List Str:=["_law_script","_law_at","_law_cell","_law_m"]
theorem Qbq:FnScope QlV ["_law_script","_law_at"] (Qg QeI):=Zd
abbrev Qdg:Stmt:=top 36
abbrev QkK:List Str:=["_law_script","_law_at","_law_states","_law_signs","_law_table_here","_law_k","_law_line","_law_j","_law_m","_law_entry"]
theorem Z8:FnScope QkK ["_law_script","_law_at","_law_states","_law_signs"] (Qg Qdg):=Zd
abbrev JE:Stmt:=top 37
abbrev QbU:List Str:=["_law_table_here","_law_context","_law_lefts","_law_rights","_law_left","_law_state","_law_sign","_law_right","_law_entry","_law_inner"]
theorem ZH:FnScope QbU ["_law_table_here","_law_context","_law_lefts","_law_rights"] (Qg JE):=Zd
abbrev QaG:Stmt:=top 38
abbrev QdO:List Str:=["_law_table_here","_law_width","_law_lefts","_law_rights","_law_contexts","_law_blank","_law_met","_law_context","_law_asked_here","_law_side","_law_gram","_law_later"]
theorem Zr:FnScope QdO ["_law_table_here","_law_width","_law_lefts","_law_rights","_law_contexts"] (Qg QaG):=Zd
abbrev Qbr:Stmt:=top 39
abbrev QfM:List Str:=["_law_signs","_law_width","_law_grams_here","_law_k","_law_longer","_law_gram"]
theorem YT:FnScope QfM ["_law_signs","_law_width"] (Qg Qbr):=Zd
abbrev QeJ:Stmt:=top 40
abbrev QlW:List Str:=["_law_machine","_law_paper","_law_due","_law_found"]
theorem QfN:FnScope QlW ["_law_machine","_law_paper","_law_due"] (Qg QeJ):=Zd
abbrev Qdh:Stmt:=top 41
abbrev QkL:List Str:=["_law_script","_law_at","_law_things","_law_made","_law_thing"]
theorem QbV:FnScope QkL ["_law_script","_law_at","_law_things"] (Qg Qdh):=Zd
abbrev JT:Stmt:=top 42
abbrev Qdi:List Str:=["_law_script","_law_at","_law_table_here","_law_paper","_law_m","_law_rows","_law_spot","_law_grams_here","_law_left","_law_right","_law_context"]
theorem Zm:FnScope Qdi ["_law_script","_law_at","_law_table_here","_law_paper"] (Qg JT):=Zd
abbrev Qbs:Stmt:=top 43
abbrev QeK:List Str:=["_law_script","_law_at","_law_table_here","_law_paper","_law_m","_law_word","_law_width","_law_lefts","_law_rights","_law_contexts","_law_left","_law_state","_law_sign","_law_right","_law_beyond","_law_some","_law_wrong","_law_truths","_law_turn"]
theorem Qv:FnScope QeK ["_law_script","_law_at","_law_table_here","_law_paper"] (Qg Qbs):=Zd
abbrev Qaq:Stmt:=top 44
abbrev Qdj:List Str:=["_law_script","_law_at","_law_machine","_law_table_here","_law_paper","_law_due","_law_kept","_law_rows","_law_turn","_law_other"]
theorem YU:FnScope Qdj ["_law_script","_law_at","_law_machine","_law_table_here","_law_paper"] (Qg Qaq):=Zd
abbrev QeL:Stmt:=top 45
abbrev QkM:List Str:=["_law_script","_law_at","_law_m","_law_table_here","_law_machine","_law_grams_here","_law_contexts","_law_left","_law_state","_law_sign","_law_shut","_law_strange"]
theorem Yf:FnScope QkM ["_law_script","_law_at"] (Qg QeL):=Zd
abbrev QlX:Stmt:=top 46
abbrev QqO:List Str:=["_law_script","_law_at","_law_turn"]
theorem QkN:FnScope QqO ["_law_script"] (Qg QlX):=Zd
def UF(K:Frag)(mg:SOV)(x:Str)(st:Stmt):Prop:=∃f fd,Fun K x x st f fd/\mg x=some (.ref f)
theorem _root_.L2.Room.m{j k:Nat}{A:Around}(h:Room k A)(e:j<=k:=by omega):Room j A:=h.mono e
def UM(K:Frag)(C:Addr)(x q:Str)(st:Stmt):Prop:=∃f fd,Fun K x q st f fd/\Meth K C x f/\Cls K C
def UI(K:Frag)(mg:SOV)(C:Addr)(q c:Str)(st:Stmt):Prop:=∃f fd,Fun K "__init__" q st f fd/\Mk K C f/\mg c=some (.ref C)
abbrev HB(x q:Str)(st:Stmt)(ps:List Str):Prop:=∀(kV doc pm:Value)(an:Option Addr)(cdv ct:Value)(us:List Value),us.length=ps.length->bindArgs (fnOf x q (JG st) (YH st) (Qg st) .none kV doc pm an cdv ct) ⟨us,[]⟩=pure (ps.zip us)
section
variable{P:Program}{w:World}{K:Frag}{mg:SOV}{base:Heap}{ca:Nat->Addr}{x q c:Str}{st:Stmt}{N ps:List Str}{k n j C:Nat}{m:MS}
abbrev HP(P:Program)(w:World)(K:Frag)(mg:SOV)(base:Heap)(ca:Nat->Addr)(q:Str)(st:Stmt)(N:List Str)(k:Nat)(m:MS):Prop:=∀(f:Addr)(cdv:Value)(A:Around)(outer:List Env)(s:Shared)(H:Hp)(E:XK),Room k (A.deeper (envOfC q (Qg st) s.heap.objs.size f cdv))->PSs3 ca (cxOf (CXW P w ca) P w K mg base N q (Qg st) f cdv A outer s H E) (YH st) m
theorem Z3(u:UF K mg x st)(S:FnScope N ps (Qg st))(h:HP P w K mg base ca x st N k m)(hj:ps.length=j:=by rfl)(hn:N.length-ps.length=n:=by rfl)(hb:HB x x st ps:=by intro _ _ _ _ _ _ us hl;first|(obtain⟨_,rfl⟩:=L3.len1 hl;rfl)|(obtain⟨_,_,rfl⟩:=L3.len2 hl;rfl)|(obtain⟨_,_,_,rfl⟩:=L3.len3 hl;rfl)|(obtain⟨_,_,_,_,rfl⟩:=L3.len4 hl;rfl)|(obtain⟨_,_,_,_,_,rfl⟩:=L3.len5 hl;rfl)):FnH P w K mg base ca x (k+1) j (mDef j n m):=by obtain⟨f,fd,F,hm⟩:=u;exact⟨⟨f,fd,ps,Qla F S hj hn (h f),hm,F.kp,F.binds hb⟩,Qf1 _ _ _⟩
theorem QfO(u:UM K (ca C) x q st)(S:FnScope N ps (Qg st))(h:HP P w K mg base ca q st N k m)(hj:ps.length=j:=by rfl)(hn:N.length-ps.length=n:=by rfl)(hb:HB x q st ps:=by intro _ _ _ _ _ _ us hl;first|(obtain⟨_,rfl⟩:=L3.len1 hl;rfl)|(obtain⟨_,_,rfl⟩:=L3.len2 hl;rfl)|(obtain⟨_,_,_,rfl⟩:=L3.len3 hl;rfl)|(obtain⟨_,_,_,_,rfl⟩:=L3.len4 hl;rfl)|(obtain⟨_,_,_,_,_,rfl⟩:=L3.len5 hl;rfl)):MtH P w K mg base ca C x (k+1) j (mDef j n m):=by obtain⟨f,fd,F,hm⟩:=u;exact⟨⟨f,fd,ps,Qla F S hj hn (h f),hm.1,hm.2,F.binds hb⟩,Qf1 _ _ _⟩
theorem Qn4(u:UI K mg (ca C) q c st)(S:FnScope N ps (Qg st))(h:HP P w K mg base ca q st N k m)(hj:ps.length=j:=by rfl)(hn:N.length-ps.length=n:=by rfl)(hb:HB "__init__" q st ps:=by intro _ _ _ _ _ _ us hl;first|(obtain⟨_,rfl⟩:=L3.len1 hl;rfl)|(obtain⟨_,_,rfl⟩:=L3.len2 hl;rfl)|(obtain⟨_,_,_,rfl⟩:=L3.len3 hl;rfl)|(obtain⟨_,_,_,_,rfl⟩:=L3.len4 hl;rfl)|(obtain⟨_,_,_,_,_,rfl⟩:=L3.len5 hl;rfl)):MkH P w K mg base ca C c (k+1) j (mDef j n m):=by obtain⟨f,fd,F,hm⟩:=u;exact⟨⟨f,fd,ps,Qla F S hj hn (h f),hm.1,hm.2,F.binds hb⟩,Qf1 _ _ _⟩
end
structure Zk(K:Frag)(mg:SOV)(ca:Nat->Addr):Prop where
 z_all:mg "all"=none
 z_bool:mg "bool"=none
 z_dict:mg "dict"=none
 z_int:mg "int"=none
 z_isinstance:mg "isinstance"=none
 z_len:mg "len"=none
 z_list:mg "list"=none
 z_min:mg "min"=none
 z_range:mg "range"=none
 z_sorted:mg "sorted"=none
 z_tuple:mg "tuple"=none
 g_BLANK:∃k,mg "BLANK"=some (.int 0 k)
 g_LEFT:∃k,mg "LEFT"=some (.str "l" k)
 g_RIGHT:∃k,mg "RIGHT"=some (.str "r" k)
 g_WALL:∃k,mg "WALL"=some (.str "wall" k)
 a_asking:FldOk K ca [15] "asking"
 a_by_seen:FldOk K ca [14] "by_seen"
 a_contexts:FldOk K ca [15] "contexts"
 a_machine:FldOk K ca [15] "machine"
 a_pending:FldOk K ca [15] "pending"
 a_sides:FldOk K ca [15] "sides"
 a_table:FldOk K ca [11] "table"
 u0:UF K mg "is_whole" QbL
 u1:UF K mg "is_below" QbM
 u2:UF K mg "is_from_nought" YL
 u3:UF K mg "other_way" QaT
 u4:UF K mg "is_entry" QbO
 u5:UF K mg "check_rows" Jl
 u6:UI K mg (ca 11) "Machine.__init__" "Machine" Yt
 u7:UF K mg "states_of" QaU
 u8:UF K mg "signs_of" QbP
 u9:UF K mg "is_gram" Qbn
 u10:UF K mg "is_context" Qal
 u11:UF K mg "are_grams" JQ
 u12:UF K mg "is_wall_paper" Ye
 u13:UF K mg "entry_at" QbQ
 u14:UF K mg "gram_behind" JR
 u15:UF K mg "gram_ahead" Qan
 u16:UF K mg "next_context" Jp
 u17:UI K mg (ca 14) "Grams.__init__" "Grams" Qao
 u18:UM K (ca 14) "beginning" "Grams.beginning" Yp
 u19:UM K (ca 14) "has" "Grams.has" QaV
 u20:UM K (ca 14) "put_in" "Grams.put_in" Jq
 u21:UM K (ca 14) "in_order" "Grams.in_order" YM
 u22:UF K mg "grams_of" QbS
 u23:UF K mg "holds_at" QaF
 u24:UF K mg "wall_taken" YE
 u25:UM K (ca 15) "ask_for" "Gathering.ask_for" Z1
 u26:UI K mg (ca 15) "Gathering.__init__" "Gathering" YN
 u27:UM K (ca 15) "put_gram" "Gathering.put_gram" ZQ
 u28:UM K (ca 15) "went_on" "Gathering.went_on" Z2
 u29:UM K (ca 15) "paper" "Gathering.paper" Yr
 u30:UF K mg "wall_of" Qdf
 u31:UF K mg "_law_next" QeI
 u32:UF K mg "_law_table" Qdg
 u33:UF K mg "_law_behind" JE
 u34:UF K mg "_law_closed" QaG
 u35:UF K mg "_law_grams" Qbr
 u36:UF K mg "_law_told" QeJ
 u37:UF K mg "_law_mixed" Qdh
 u38:UF K mg "_law_changed" JT
 u39:UF K mg "_law_bent" Qbs
 u40:UF K mg "_law_asked" Qaq
 u41:UF K mg "_law_one" QeL
 u42:UF K mg "law" QlX
section
seal PE3 PT3 PW3 PA3 PS3 PSs3 PG3 PI3
variable{P:Program}{w:World}{K:Frag}{mg:SOV}{base:Heap}{ca:Nat->Addr}
theorem Qdk(Z:Zk K mg ca):FnH P w K mg base ca "is_whole" 1 1 Jx:=Z3 Z.u0 QgD λ_ _ _ _ _ _ _ hr=>(Qj (QG (QcI (QcM .int Z.z_isinstance Z.z_int Qo7 (Qb 0)) (Qd4 (Qqe (QcM .bool Z.z_isinstance Z.z_bool Qjt (Qb 0)))))))
theorem Y9(Z:Zk K mg ca):FnH P w K mg base ca "is_below" 2 2 Q0:=Z3 Z.u1 QgE λ_ _ _ _ _ _ _ hr=>(Qj (QG (QcI (Qs (Qdk Z) hr.m (Qc (Qb 0) Qh)) (Qd4 (Qo5 Qi (Qb 0) (Qb 1))))))
theorem QbW(Z:Zk K mg ca):FnH P w K mg base ca "is_from_nought" 2 1 Q7:=Z3 Z.u2 QbN λ_ _ _ _ _ _ _ hr=>(Qj (QG (QcI (Qs (Qdk Z) hr.m (Qc (Qb 0) Qh)) (Qd4 (r_ge (Qb 0) Qi)))))
theorem Qce(Z:Zk K mg ca):FnH P w K mg base ca "other_way" 1 1 Yn:=Z3 Z.u3 QfE λ_ _ _ _ _ _ _ hr=>(Qj (QG (Qi3 (Qbx hr (Qb 0) (Z4 Z.g_RIGHT)) (Z4 Z.g_LEFT) (Z4 Z.g_RIGHT))))
theorem QgL(Z:Zk K mg ca):FnH P w K mg base ca "is_entry" 3 3 YS:=Z3 Z.u4 QgG λ_ _ _ _ _ _ _ hr=>(Qe (r_if (Qjm (Qb 0) Qbv) (Qj (QG r_bl)) QM)
 (Qe (r_if (r_w (Qa1 (Zx (Zu (QcM .tuple Z.z_isinstance Z.z_tuple Qcu (Qb 0)))) (J5 (QhU hr (Zz Z.z_len (Qb 0)) Qi)))) (Qj (QG r_bl)) QM)
 (Qj (QG (QcI (Qs (Y9 Z) hr.m (Qc (Qm (Qb 0) Qi) (Qc (Qb 2) Qh))) (QcI (r_in (Qm (Qb 0) Qi) (QJ (Qc (Z4 Z.g_LEFT) (Qc (Z4 Z.g_RIGHT) Qh)))) (Qd4 (Qs (Y9 Z) hr.m (Qc (Qm (Qb 0) Qi) (Qc (Qb 1) Qh))))))))))
theorem QeM(Z:Zk K mg ca):FnH P w K mg base ca "check_rows" 4 1 Z6:=Z3 Z.u5 YQ λ_ _ _ _ _ _ _ hr=>(Qe (r_if (Qbx hr (Zz Z.z_len (Qb 0)) Qi) (Qj QcJ) QM)
 (Qe (QE 1 YQ.nd (Zz Z.z_len (Qb 0)))
 (Qe (QE 2 YQ.nd (Zz Z.z_len (Qm (Qb 0) Qi)))
 (Qe (r_if (Qbx hr (Qb 2) Qi) (Qj QcJ) QM)
 (Qj (JZ rfl (QR (Qb 0)) (Qx 3 YQ.nd) (Qe (r_if (QhU hr (Zz Z.z_len (Qb 3)) (Qb 2)) (Qj QcJ) QM)
 (Qj (r_if (Zx (Zu (QhW rfl Z.z_all (YY (QN (Nb:=["thing","states","signs"]) (no:=1) (cap:=[1,2]) (N:=Qcd) (sc:=Qg Jl) rfl rfl (by decide +kernel)) rfl (QR (Qb 3)) (λcl C s3 H3 ex=>⟨(Qx 0 (show List.Nodup (["thing","states","signs"]:List Str) by decide +kernel)),QaP,(Qs (QgL Z) hr.m (Qc (Qb 0) (Qc (Qb 1) (Qc (Qb 2) Qh))))⟩))))) (Qj QcJ) QM)))))))))
theorem Qdl(Z:Zk K mg ca):MkH P w K mg base ca 11 "Machine" 5 2 ZS:=Qn4 Z.u6 Qak λ_ _ _ _ _ _ _ hr=>(Qe (QE 2 Qak.nd (Qea Z.z_tuple (YY (QN (Nb:=["row"]) (no:=1) (cap:=[]) (N:=QaM) (sc:=Qg Yt) rfl rfl (by decide +kernel)) rfl (QR (Qb 1)) (λcl C s3 H3 ex=>⟨(Qx 0 (show List.Nodup (["row"]:List Str) by decide +kernel)),QaP,(Qea Z.z_tuple (Qb 0))⟩))))
 (Qe (Yh (Qs (QeM Z) hr.m (Qc (Qb 2) Qh)))
 (Qj (YW (Qb 0) (Qb 2) Z.a_table))))
theorem QfP(Z:Zk K mg ca):FnH P w K mg base ca "states_of" 1 1 JJ:=Z3 Z.u7 QfF λ_ _ _ _ _ _ _ hr=>(Qj (QG (Zz Z.z_len (Zv (Qb 0) Z.a_table))))
theorem Ja(Z:Zk K mg ca):FnH P w K mg base ca "signs_of" 1 1 QS:=Z3 Z.u8 QgI λ_ _ _ _ _ _ _ hr=>(Qj (QG (Zz Z.z_len (Qm (Zv (Qb 0) Z.a_table) Qi))))
theorem QbX(Z:Zk K mg ca):FnH P w K mg base ca "is_gram" 3 3 Yy:=Z3 Z.u9 Qim λ_ _ _ _ _ _ _ hr=>(Qj (QG (QcI (QcM .tuple Z.z_isinstance Z.z_tuple Qcu (Qb 0)) (QcI (r_eq hr (Zz Z.z_len (Qb 0)) (Qb 1)) (Qd4 (QhW rfl Z.z_all (YY (QN (Nb:=["sign","signs"]) (no:=1) (cap:=[2]) (N:=QfG) (sc:=Qg Qbn) rfl rfl (by decide +kernel)) rfl (QR (Qb 0)) (λcl C s3 H3 ex=>⟨(Qx 0 (show List.Nodup (["sign","signs"]:List Str) by decide +kernel)),QaP,(Qs (Y9 Z) hr.m (Qc (Qb 0) (Qc (Qb 1) Qh)))⟩))))))))
theorem QeN(Z:Zk K mg ca):FnH P w K mg base ca "is_context" 4 3 ZA:=Z3 Z.u10 QeE λ_ _ _ _ _ _ _ hr=>(Qe (r_if (r_w (Qa1 (Zx (Zu (QcM .tuple Z.z_isinstance Z.z_tuple Qcu (Qb 0)))) (J5 (QhU hr (Zz Z.z_len (Qb 0)) Qi)))) (Qj (QG r_bl)) QM)
 (Qe (r_if (r_w (Qa1 (Zx (Zu (Qs (Y9 Z) hr.m (Qc (Qm (Qb 0) Qi) (Qc (Qs (QfP Z) hr.m (Qc (Qb 2) Qh)) Qh))))) (J5 (Zx (Zu (Qs (Y9 Z) hr.m (Qc (Qm (Qb 0) Qi) (Qc (Qs (Ja Z) hr.m (Qc (Qb 2) Qh)) Qh)))))))) (Qj (QG r_bl)) QM)
 (Qj (QG (QcI (Qs (QbX Z) hr.m (Qc (Qm (Qb 0) Qi) (Qc (Qb 1) (Qc (Qs (Ja Z) hr.m (Qc (Qb 2) Qh)) Qh)))) (Qd4 (Qs (QbX Z) hr.m (Qc (Qm (Qb 0) Qi) (Qc (Qb 1) (Qc (Qs (Ja Z) hr.m (Qc (Qb 2) Qh)) Qh))))))))))
theorem Qcf(Z:Zk K mg ca):FnH P w K mg base ca "are_grams" 4 3 ZB:=Z3 Z.u11 QfI λ_ _ _ _ _ _ _ hr=>(Qj (QG (QcI (QjX Z.z_isinstance Z.z_list Z.z_tuple (Qb 0)) (Qd4 (QhW rfl Z.z_all (YY (QN (Nb:=["thing","width","signs"]) (no:=1) (cap:=[1,2]) (N:=Qdd) (sc:=Qg JQ) rfl rfl (by decide +kernel)) rfl (QR (Qb 0)) (λcl C s3 H3 ex=>⟨(Qx 0 (show List.Nodup (["thing","width","signs"]:List Str) by decide +kernel)),QaP,(Qs (QbX Z) hr.m (Qc (Qb 0) (Qc (Qb 1) (Qc (Qb 2) Qh))))⟩)))))))
theorem Qcn(Z:Zk K mg ca):FnH P w K mg base ca "is_wall_paper" 5 2 ZC:=Z3 Z.u12 JY λ_ _ _ _ _ _ _ hr=>(Qe (r_if (r_w (Qa1 (Zx (Zu (QcM .tuple Z.z_isinstance Z.z_tuple Qcu (Qb 1)))) (Qa1 (QhU hr (Zz Z.z_len (Qb 1)) Qi) (J5 (QhU hr (Qm (Qb 1) Qi) (Z4 Z.g_WALL)))))) (Qj (QG r_bl)) QM)
 (Qe (QE 2 JY.nd (Qm (Qb 1) Qi))
 (Qe (r_if (r_w (Qa1 (Zx (Zu (Qs (QbW Z) hr.m (Qc (Qb 2) Qh)))) (J5 (Qo2 (Qb 2) Qi)))) (Qj (QG r_bl)) QM)
 (Qe (r_if (r_w (Qa1 (Zx (Zu (Qs (Qcf Z) hr.m (Qc (Qm (Qb 1) Qi) (Qc (Qb 2) (Qc (Qs (Ja Z) hr.m (Qc (Qb 0) Qh)) Qh)))))) (J5 (Zx (Zu (Qs (Qcf Z) hr.m (Qc (Qm (Qb 1) Qi) (Qc (Qb 2) (Qc (Qs (Ja Z) hr.m (Qc (Qb 0) Qh)) Qh))))))))) (Qj (QG r_bl)) QM)
 (Qj (QG (QcI (QjX Z.z_isinstance Z.z_list Z.z_tuple (Qm (Qb 1) Qi)) (Qd4 (QhW rfl Z.z_all (YY (QN (Nb:=["thing","width","machine"]) (no:=1) (cap:=[2,0]) (N:=Qam) (sc:=Qg Ye) rfl rfl (by decide +kernel)) rfl (QR (Qm (Qb 1) Qi)) (λcl C s3 H3 ex=>⟨(Qx 0 (show List.Nodup (["thing","width","machine"]:List Str) by decide +kernel)),QaP,(Qs (QeN Z) hr.m (Qc (Qb 0) (Qc (Qb 1) (Qc (Qb 2) Qh))))⟩)))))))))))
theorem QaZ(Z:Zk K mg ca):FnH P w K mg base ca "entry_at" 1 2 Yo:=Z3 Z.u13 QgJ λ_ _ _ _ _ _ _ hr=>(Qj (QG (Qm (Qm (Zv (Qb 0) Z.a_table) (Qm (Qb 1) Qi)) (Qm (Qb 1) Qi))))
theorem Jr(Z:Zk K mg ca):FnH P w K mg base ca "gram_behind" 1 2 Zp:=Z3 Z.u14 Qdt λ_ _ _ _ _ _ _ hr=>(Qj (QG (Qi3 (Qbx hr (Qm (Qb 0) Qi) (Z4 Z.g_RIGHT)) (Qm (Qb 1) Qi) (Qm (Qb 1) Qi))))
theorem JU(Z:Zk K mg ca):FnH P w K mg base ca "gram_ahead" 1 2 ZD:=Z3 Z.u15 QeG λ_ _ _ _ _ _ _ hr=>(Qj (QG (Qi3 (Qbx hr (Qm (Qb 0) Qi) (Z4 Z.g_RIGHT)) (Qm (Qb 1) Qi) (Qm (Qb 1) Qi))))
theorem Jb(Z:Zk K mg ca):FnH P w K mg base ca "next_context" 2 3 QW:=Z3 Z.u16 Y8 λ_ _ _ _ _ _ _ hr=>(Qe (QE 3 Y8.nd (Qm (Qs (JU Z) hr.m (Qc (Qb 0) (Qc (Qb 1) Qh))) Qi))
 (Qe (QE 4 Y8.nd (Zy (QJ (Qc (Qm (Qb 0) Qi) Qh)) (ZM (Qs (Jr Z) hr.m (Qc (Qb 0) (Qc (Qb 1) Qh))) Ze (YO (Qjf Qi)))))
 (Qe (r_if (Qbx hr (Qm (Qb 0) Qi) (Z4 Z.g_RIGHT)) (Qj (QG (QJ (Qc (Qb 4) (Qc (Qm (Qb 0) Qi) (Qc (Qb 3) (Qc (Qb 2) Qh))))))) QM)
 (Qj (QG (QJ (Qc (Qb 2) (Qc (Qm (Qb 0) Qi) (Qc (Qb 3) (Qc (Qb 4) Qh))))))))))
theorem QeO(Z:Zk K mg ca):MkH P w K mg base ca 14 "Grams" 1 1 Yz:=Qn4 Z.u17 QeH λ_ _ _ _ _ _ _ hr=>(Qj (YW (Qb 0) (QcO false) Z.a_by_seen))
theorem Yg(Z:Zk K mg ca):MtH P w K mg base ca 14 "beginning" 1 2 QF:=QfO Z.u18 Qbo λ_ _ _ _ _ _ _ hr=>(Qj (QG (QjD hr (Zv (Qb 0) Z.a_by_seen) (Qb 1) (Zb Qh))))
theorem YG(Z:Zk K mg ca):MtH P w K mg base ca 14 "has" 2 2 QO:=QfO Z.u19 QfL λ_ _ _ _ _ _ _ hr=>(Qj (QG (Qqs hr (Qb 1) (YX (Yg Z) hr.m (Qb 0) (Qc (ZM (Qb 1) Ze (YO (Qjf Qi))) Qh)))))
theorem Qar(Z:Zk K mg ca):MtH P w K mg base ca 14 "put_in" 3 2 Zc:=QfO Z.u20 Qde λ_ _ _ _ _ _ _ hr=>(Qj (r_if (Zx (Zu (YX (YG Z) hr.m (Qb 0) (Qc (Qb 1) Qh)))) (Qj (Yh (Qax (Qhe hr (Zv (Qb 0) Z.a_by_seen) (ZM (Qb 1) Ze (YO (Qjf Qi))) (Zb Qh)) (Qb 1)))) QM))
theorem JF(Z:Zk K mg ca):MtH P w K mg base ca 14 "in_order" 1 1 ZU:=QfO Z.u21 Yq λ_ _ _ _ _ _ _ hr=>(Qe (QE 1 Yq.nd (Zb Qh))
 (Qe (JZ rfl (Qqq (Zv (Qb 0) Z.a_by_seen)) (Qx 2 Yq.nd) (Qj (Yh (Qed (Qb 1) (Qb 2)))))
 (Qj (QG (QjJ hr Z.z_sorted (Qb 1))))))
theorem JV(Z:Zk K mg ca):FnH P w K mg base ca "grams_of" 4 1 Q8:=Z3 Z.u22 QaW λ_ _ _ _ _ _ _ hr=>(Qe (QE 1 QaW.nd (Qnb (QeO Z) hr.m))
 (Qe (JZ rfl (QR (Qb 0)) (Qx 2 QaW.nd) (Qj (Yh (YX (Qar Z) hr.m (Qb 1) (Qc (Qb 2) Qh)))))
 (Qj (QG (Qb 1)))))
theorem QgM(Z:Zk K mg ca):FnH P w K mg base ca "holds_at" 3 4 QaA:=Z3 Z.u23 JS λ_ _ _ _ _ _ _ hr=>(Qe (QE 4 JS.nd (Qs (QaZ Z) hr.m (Qc (Qb 0) (Qc (Qb 3) Qh))))
 (Qe (r_if (Qjm (Qb 4) Qbv) (Qj (QG r_bl)) QM)
 (Qe (QE 5 JS.nd (Qm (Qb 4) Qi))
 (Qe (r_if (Zx (Zu (YX (YG Z) hr.m (J8 (Qb 1) (Qs (Qce Z) hr.m (Qc (Qb 5) Qh))) (Qc (Qs (Jr Z) hr.m (Qc (Qb 4) (Qc (Qb 3) Qh))) Qh)))) (Qj (QG r_bl)) QM)
 (Qe (QE 6 JS.nd (YX (Yg Z) hr.m (J8 (Qb 1) (Qb 5)) (Qc (ZM (Qs (JU Z) hr.m (Qc (Qb 4) (Qc (Qb 3) Qh))) (YO Qi) Ze) Qh)))
 (Qj (QG (QhW rfl Z.z_all (YY (QN (Nb:=["gram","contexts","entry","context"]) (no:=1) (cap:=[2,4,3]) (N:=QdM) (sc:=Qg QaF) rfl rfl (by decide +kernel)) rfl (QR (Qb 6)) (λcl C s3 H3 ex=>⟨(Qx 0 (show List.Nodup (["gram","contexts","entry","context"]:List Str) by decide +kernel)),QaP,(Qqt hr (Qs (Jb Z) hr.m (Qc (Qb 2) (Qc (Qb 3) (Qc (Qb 0) Qh)))) (Qb 1))⟩))))))))))
theorem QeP(Z:Zk K mg ca):FnH P w K mg base ca "wall_taken" 6 2 YA:=Z3 Z.u24 YR λ_ _ _ _ _ _ _ hr=>(Qe (r_if (r_w (Qa1 (Zx (Zu (Qs (Qcn Z) hr.m (Qc (Qb 0) (Qc (Qb 1) Qh))))) (J5 (Qbx hr (Zz Z.z_len (Qm (Qb 1) Qi)) Qi)))) (Qj (QG r_bl)) QM)
 (Qe (QE 2 YR.nd (Qhi (QJ (Qc (Qg9 Z.g_BLANK) Qh)) (Qm (Qb 1) Qi)))
 (Qe (QE 3 YR.nd (Qf9 (Qbz (Z4 Z.g_LEFT) (Qs (JV Z) hr.m (Qc (Qm (Qb 1) Qi) Qh)) (Qbz (Z4 Z.g_RIGHT) (Qs (JV Z) hr.m (Qc (Qm (Qb 1) Qi) Qh)) QjQ))))
 (Qe (QE 4 YR.nd (Qnz hr rfl Z.z_dict (YY (QN (Nb:=["context"]) (no:=1) (cap:=[]) (N:=Qap) (sc:=Qg YE) rfl rfl (by decide +kernel)) rfl (QR (Qm (Qb 1) Qi)) (λcl C s3 H3 ex=>⟨(Qx 0 (show List.Nodup (["context"]:List Str) by decide +kernel)),QaP,(QJ (Qc (Qb 0) (Qc r_bl Qh)))⟩))))
 (Qe (r_if (r_w (Qa1 (Zx (Zu (YX (YG Z) hr.m (J8 (Qb 3) (Z4 Z.g_LEFT)) (Qc (Qb 2) Qh)))) (Qa1 (Zx (Zu (YX (YG Z) hr.m (J8 (Qb 3) (Z4 Z.g_RIGHT)) (Qc (Qb 2) Qh)))) (J5 (Qa4 hr (QJ (Qc (Qb 2) (Qc Qi (Qc (Qg9 Z.g_BLANK) (Qc (Qb 2) Qh))))) (Qb 4)))))) (Qj (QG r_bl)) QM)
 (Qj (QG (QhW rfl Z.z_all (Qnu (YY (QN (Nb:=["context","machine","sides","contexts"]) (no:=1) (cap:=[0,3,4]) (N:=Qap) (sc:=Qg YE) rfl rfl (by decide +kernel)) rfl (Qqp (Qb 4)) (λcl C s3 H3 ex=>⟨(Qx 0 (show List.Nodup (["context","machine","sides","contexts"]:List Str) by decide +kernel)),QaP,(Qs (QgM Z) hr.m (Qc (Qb 1) (Qc (Qb 2) (Qc (Qb 3) (Qc (Qb 0) Qh)))))⟩)))))))))))
theorem ZR(Z:Zk K mg ca):MtH P w K mg base ca 15 "ask_for" 1 2 QP:=QfO Z.u25 QaH λ_ _ _ _ _ _ _ hr=>(Qj (r_if (Qa4 hr (Qb 1) (Zv (Qb 0) Z.a_contexts)) (Qe (QjA hr (Zv (Qb 0) Z.a_contexts) (Qb 1) r_bl)
 (Qj (Yh (Qax (Zv (Qb 0) Z.a_pending) (Qb 1))))) QM))
theorem QbY(Z:Zk K mg ca):MkH P w K mg base ca 15 "Gathering" 5 3 ZV:=Qn4 Z.u26 JD λ_ _ _ _ _ _ _ hr=>(Qe (QE 3 JD.nd (Qhi (QJ (Qc (Qg9 Z.g_BLANK) Qh)) (Qb 2)))
 (Qe (YW (Qb 0) (Qb 1) Z.a_machine)
 (Qe (YW (Qb 0) (Qf9 (Qbz (Z4 Z.g_LEFT) (Qs (JV Z) hr.m (Qc (Zb (Qc (Qb 3) Qh)) Qh)) (Qbz (Z4 Z.g_RIGHT) (Qs (JV Z) hr.m (Qc (Zb (Qc (Qb 3) Qh)) Qh)) QjQ))) Z.a_sides)
 (Qe (YW (Qb 0) (QcO true) Z.a_contexts)
 (Qe (YW (Qb 0) (Zb Qh) Z.a_pending)
 (Qe (YW (Qb 0) (Qf9 (Qbz (Z4 Z.g_LEFT) (QcO false) (Qbz (Z4 Z.g_RIGHT) (QcO false) QjQ))) Z.a_asking)
 (Qj (Yh (YX (ZR Z) hr.m (Qb 0) (Qc (QJ (Qc (Qb 3) (Qc Qi (Qc (Qg9 Z.g_BLANK) (Qc (Qb 3) Qh))))) Qh))))))))))
theorem Qas(Z:Zk K mg ca):MtH P w K mg base ca 15 "put_gram" 4 3 ZO:=QfO Z.u27 YF λ_ _ _ _ _ _ _ hr=>(Qe (r_if (Zu (YX (YG Z) hr.m (J8 (Zv (Qb 0) Z.a_sides) (Qb 1)) (Qc (Qb 2) Qh))) (Qj QoX) QM)
 (Qe (Yh (YX (Qar Z) hr.m (J8 (Zv (Qb 0) Z.a_sides) (Qb 1)) (Qc (Qb 2) Qh)))
 (Qj (JZ rfl (QR (QjD hr (J8 (Zv (Qb 0) Z.a_asking) (Qb 1)) (ZM (Qb 2) Ze (YO (Qjf Qi))) (Zb Qh))) (Qx 3 YF.nd) (Qj (Yh (YX (ZR Z) hr.m (Qb 0) (Qc (Qs (Jb Z) hr.m (Qc (Qs (QaZ Z) hr.m (Qc (Zv (Qb 0) Z.a_machine) (Qc (Qb 3) Qh))) (Qc (Qb 3) (Qc (Qb 2) Qh)))) Qh))))))))
theorem QaJ(Z:Zk K mg ca):MtH P w K mg base ca 15 "went_on" 5 1 QQ:=QfO Z.u28 QK λ_ _ _ _ _ _ _ hr=>(Qe (QE 1 QK.nd (Qqh (Zv (Qb 0) Z.a_pending)))
 (Qe (QE 2 QK.nd (Qs (QaZ Z) hr.m (Qc (Zv (Qb 0) Z.a_machine) (Qc (Qb 1) Qh))))
 (Qe (r_if (Qjm (Qb 2) Qbv) (Qj (QG r_bl)) QM)
 (Qe (QE 3 QK.nd (Qm (Qb 2) Qi))
 (Qe (Yh (YX (Qas Z) hr.m (Qb 0) (Qc (Qs (Qce Z) hr.m (Qc (Qb 3) Qh)) (Qc (Qs (Jr Z) hr.m (Qc (Qb 2) (Qc (Qb 1) Qh))) Qh))))
 (Qe (QE 4 QK.nd (ZM (Qs (JU Z) hr.m (Qc (Qb 2) (Qc (Qb 1) Qh))) (YO Qi) Ze))
 (Qe (Yh (Qax (Qhe hr (J8 (Zv (Qb 0) Z.a_asking) (Qb 3)) (Qb 4) (Zb Qh)) (Qb 1)))
 (Qe (JZ rfl (QR (YX (Yg Z) hr.m (J8 (Zv (Qb 0) Z.a_sides) (Qb 3)) (Qc (Qb 4) Qh))) (Qx 5 QK.nd) (Qj (Yh (YX (ZR Z) hr.m (Qb 0) (Qc (Qs (Jb Z) hr.m (Qc (Qb 2) (Qc (Qb 1) (Qc (Qb 5) Qh)))) Qh)))))
 (Qj (QG r_bl))))))))))
theorem Qbt(Z:Zk K mg ca):MtH P w K mg base ca 15 "paper" 2 2 ZJ:=QfO Z.u29 Qbp λ_ _ _ _ _ _ _ hr=>(Qj (QG (QJ (Qc (Z4 Z.g_WALL) (Qc (Qb 1) (Qc (Qf2 (JF Z) hr.m (J8 (Zv (Qb 0) Z.a_sides) (Z4 Z.g_LEFT))) (Qc (Qf2 (JF Z) hr.m (J8 (Zv (Qb 0) Z.a_sides) (Z4 Z.g_RIGHT))) (Qc (QjI hr rfl Z.z_sorted (Zv (Qb 0) Z.a_contexts)) Qh))))))))
theorem Qip(Z:Zk K mg ca):FnH P w K mg base ca "wall_of" 7 3 QcU:=Z3 Z.u30 QdN λ_ _ _ _ _ _ _ hr=>(Qe (r_if (Qo2 (Qb 1) Qi) (Qj QcJ) QM)
 (Qe (QE 3 QdN.nd (Qme (QbY Z) hr.m (Qc (Qb 0) (Qc (Qb 1) Qh))))
 (Qe (Qna (Qjg (Zz Z.z_len (Zv (Qb 3) Z.a_pending)) Qi) (Qj (r_if (r_w (Qa1 (Qjg (Qmk Z.z_len (Zv (Qb 3) Z.a_contexts)) (Qb 2)) (J5 (Zx (Zu (Qf2 (QaJ Z) hr.m (Qb 3))))))) (Qj (QG Qbv)) QM)))
 (Qj (QG (Qi3 (Qqg (Qmk Z.z_len (Zv (Qb 3) Z.a_contexts)) (Qb 2)) (YX (Qbt Z) hr.m (Qb 3) (Qc (Qb 1) Qh)) Qbv))))))
theorem Qat(Z:Zk K mg ca):FnH P w K mg base ca "_law_next" 1 2 Ys:=Z3 Z.u31 Qbq λ_ _ _ _ _ _ _ hr=>(Qe (Qm9 (Qb 1) Qi (Zy (Qm (Qb 1) Qi) Qi))
 (Qe (QE 2 Qbq.nd Qi)
 (Qe (r_if (Qjg (Zz Z.z_len (Qb 0)) Qi) (Qj (QE 2 Qbq.nd (Qm (Qb 0) (YZ (Qm (Qb 1) Qi) (Zz Z.z_len (Qb 0)))))) QM)
 (Qe (QE 3 Qbq.nd (YZ (Qlg (Zy (Zy (YZ (Qb 2) Qi) (Qlg (Qlg (Qm (Qb 1) Qi) (Qm (Qb 1) Qi)) Qi)) Qi) Qi) Qi))
 (Qj (QG (YZ (Qlg (Qb 3) (Qb 3)) Qi)))))))
theorem Qiq(Z:Zk K mg ca):FnH P w K mg base ca "_law_table" 2 4 QcW:=Z3 Z.u32 Z8 λ_ _ _ _ _ _ _ hr=>(Qe (QE 4 Z8.nd (Zb Qh))
 (Qe (JZ rfl (Je Z.z_range (Qb 2)) (Qx 5 Z8.nd) (Qe (QE 6 Z8.nd (Zb Qh))
 (Qe (JZ rfl (Je Z.z_range (Qb 3)) (Qx 7 Z8.nd) (Qe (QE 8 Z8.nd (Qs (Qat Z) hr.m (Qc (Qb 0) (Qc (Qb 1) Qh))))
 (Qe (QE 9 Z8.nd (QJ (Qc (YZ (Yx (Qb 8) Qi) (Qb 3)) (Qc (Qm Yw (YZ (Yx (Qb 8) Qi) Qi)) (Qc (YZ (Yx (Qb 8) Qi) (Qb 2)) Qh)))))
 (Qe (r_if (Qbx hr (YZ (Qb 8) Qi) Qi) (Qj (QE 9 Z8.nd Qbv)) QM)
 (Qj (Yh (Qax (Qb 6) (Qb 9))))))))
 (Qj (Yh (Qax (Qb 4) (Qb 6)))))))
 (Qj (QG (Qb 4)))))
theorem QgN(Z:Zk K mg ca):FnH P w K mg base ca "_law_behind" 1 4 JA:=Z3 Z.u33 ZH λ_ _ _ _ _ _ _ hr=>(Qe (Qk9 (Qb 1) (Qg4 rfl (ZL (Qx 4 ZH.nd) (ZL (Qx 5 ZH.nd) (ZL (Qx 6 ZH.nd) (ZL (Qx 7 ZH.nd) Qg3))))))
 (Qe (QE 8 ZH.nd (Qm (Qm (Qb 0) (Qb 5)) (Qb 6)))
 (Qe (r_if (Qjm (Qb 8) Qbv) (Qj (QG Qbv)) QM)
 (Qe (r_if (Qbx hr (Qm (Qb 8) Qi) Yw) (Qe (QE 9 ZH.nd (Zy (QJ (Qc (Qm (Qb 8) Qi) Qh)) (ZM (Qb 4) Ze (YO (Qlf (Zz Z.z_len (Qb 4)) Qi)))))
 (Qj (QG (QJ (Qc Yw (Qc (Qb 4) (Qc (YY (QN (Nb:=["_law_gram","_law_inner","_law_entry","_law_right"]) (no:=1) (cap:=[9,8,7]) (N:=QbU) (sc:=Qg JE) rfl rfl (by decide +kernel)) rfl (QR (Qb 3)) (λcl C s3 H3 ex=>⟨(Qx 0 (show List.Nodup (["_law_gram","_law_inner","_law_entry","_law_right"]:List Str) by decide +kernel)),(Qne (Qbx hr (ZM (Qb 0) Ze (YO (Qlf (Zz Z.z_len (Qb 0)) Qi))) (ZM (Qb 3) (YO Qi) Ze))),(QJ (Qc (Qb 1) (Qc (Qm (Qb 2) Qi) (Qc (Qm (Qb 3) Qi) (Qc (Qb 0) Qh)))))⟩)) Qh))))))) QM)
 (Qe (QE 9 ZH.nd (Zy (QJ (Qc (Qm (Qb 8) Qi) Qh)) (ZM (Qb 7) Ze (YO (Qlf (Zz Z.z_len (Qb 7)) Qi)))))
 (Qj (QG (QJ (Qc Yw (Qc (Qb 7) (Qc (YY (QN (Nb:=["_law_gram","_law_inner","_law_entry","_law_left"]) (no:=1) (cap:=[9,8,4]) (N:=QbU) (sc:=Qg JE) rfl rfl (by decide +kernel)) rfl (QR (Qb 2)) (λcl C s3 H3 ex=>⟨(Qx 0 (show List.Nodup (["_law_gram","_law_inner","_law_entry","_law_left"]:List Str) by decide +kernel)),(Qne (Qbx hr (ZM (Qb 0) Ze (YO (Qlf (Zz Z.z_len (Qb 0)) Qi))) (ZM (Qb 3) (YO Qi) Ze))),(QJ (Qc (Qb 0) (Qc (Qm (Qb 2) Qi) (Qc (Qm (Qb 3) Qi) (Qc (Qb 1) Qh)))))⟩)) Qh)))))))))))
theorem Qdm(Z:Zk K mg ca):FnH P w K mg base ca "_law_closed" 2 5 QaB:=Z3 Z.u34 Zr λ_ _ _ _ _ _ _ hr=>(Qe (QE 5 Zr.nd (Qhi (QJ (Qc Qi Qh)) (Qb 1)))
 (Qe (QE 6 Zr.nd (QcO true))
 (Qe (JZ rfl (QR (Qb 4)) (Qx 7 Zr.nd) (Qj (QjA hr (Qb 6) (Qb 7) r_bl)))
 (Qe (r_if (r_w (Qa1 (QcS hr (Qb 5) (Qb 2)) (Qa1 (QcS hr (Qb 5) (Qb 3)) (J5 (Qa4 hr (QJ (Qc (Qb 5) (Qc Qi (Qc Qi (Qc (Qb 5) Qh))))) (Qb 6)))))) (Qj (QG r_bl)) QM)
 (Qe (JZ rfl (QR (Qb 4)) (Qx 7 Zr.nd) (Qe (QE 8 Zr.nd (Qs (QgN Z) hr.m (Qc (Qb 0) (Qc (Qb 7) (Qc (Qb 2) (Qc (Qb 3) Qh))))))
 (Qe (r_if (Qjm (Qb 8) Qbv) (Qj (QG r_bl)) QM)
 (Qe (Qk9 (Qb 8) (Qg4 rfl (ZL (Qx 9 Zr.nd) (ZL (Qx 10 Zr.nd) (ZL (Qx 11 Zr.nd) Qg3)))))
 (Qe (r_if (QcS hr (Qb 10) (Qm (Zb (Qc (Qb 2) (Qc (Qb 3) Qh))) (Qni Z.z_int (r_eq hr (Qb 9) Yw)))) (Qj (QG r_bl)) QM)
 (Qj (r_if (Qjg (Zz Z.z_len (YY (QN (Nb:=["_law_one_here","_law_met"]) (no:=1) (cap:=[6]) (N:=QdO) (sc:=Qg QaG) rfl rfl (by decide +kernel)) rfl (QR (Qb 11)) (λcl C s3 H3 ex=>⟨(Qx 0 (show List.Nodup (["_law_one_here","_law_met"]:List Str) by decide +kernel)),(Qne (Qa4 hr (Qb 0) (Qb 1))),(Qb 0)⟩))) Qi) (Qj (QG r_bl)) QM)))))))
 (Qj (QG r_bl)))))))
theorem QdP(Z:Zk K mg ca):FnH P w K mg base ca "_law_grams" 1 2 Qa9:=Z3 Z.u35 YT λ_ _ _ _ _ _ _ hr=>(Qe (QE 2 YT.nd (Zb (Qc (QJ Qh) Qh)))
 (Qe (JZ rfl (Je Z.z_range (Qb 1)) (Qx 3 YT.nd) (Qe (QE 4 YT.nd (Zb Qh))
 (Qe (JZ rfl (QR (Qb 2)) (Qx 5 YT.nd) (Qj (Yh (Qed (Qb 4) (YY (QN (Nb:=["_law_sign","_law_gram"]) (no:=1) (cap:=[5]) (N:=QfM) (sc:=Qg Qbr) rfl rfl (by decide +kernel)) rfl (Je Z.z_range (Qb 0)) (λcl C s3 H3 ex=>⟨(Qx 0 (show List.Nodup (["_law_sign","_law_gram"]:List Str) by decide +kernel)),QaP,(Zy (Qb 1) (QJ (Qc (Qb 0) Qh)))⟩))))))
 (Qj (QE 2 YT.nd (Qb 4))))))
 (Qj (QG (Qb 2)))))
theorem Qau(Z:Zk K mg ca):FnH P w K mg base ca "_law_told" 7 3 Ji:=Z3 Z.u36 QfN λ_ _ _ _ _ _ _ hr=>(Qe (QE 3 QfN.nd (Qs (QeP Z) hr.m (Qc (Qb 0) (Qc (Qb 1) Qh))))
 (Qj (QG (QcI (QcM .bool Z.z_isinstance Z.z_bool Qjt (Qb 3)) (Qd4 (r_eq hr (Qb 3) (Qb 2)))))))
theorem Qir(Z:Zk K mg ca):FnH P w K mg base ca "_law_mixed" 2 3 Qba:=Z3 Z.u37 QbV λ_ _ _ _ _ _ _ hr=>(Qe (QE 3 QbV.nd (Zb Qh))
 (Qe (JZ rfl (QR (Qb 2)) (Qx 4 QbV.nd) (Qj (Yh (Qlm (Qb 3) (YZ (Qs (Qat Z) hr.m (Qc (Qb 0) (Qc (Qb 1) Qh))) (Zy (Zz Z.z_len (Qb 3)) Qi)) (Qb 4)))))
 (Qj (QG (Qb 3)))))
theorem QfQ(Z:Zk K mg ca):FnH P w K mg base ca "_law_changed" 2 4 QaR:=Z3 Z.u38 Zm λ_ _ _ _ _ _ _ hr=>(Qe (QE 4 Zm.nd (Qs (Qat Z) hr.m (Qc (Qb 0) (Qc (Qb 1) Qh))))
 (Qe (QcL 5 Zm.nd (QN (Nb:=["_law_row"]) (no:=1) (cap:=[]) (N:=Qdi) (sc:=Qg JT) rfl rfl (by decide +kernel)) rfl (QR (ZM (Qb 3) (YO Qi) Ze)) (λcl C s3 H3 ex=>⟨(Qx 0 (show List.Nodup (["_law_row"]:List Str) by decide +kernel)),QaP,(Qfb Z.z_list (Qb 0))⟩))
 (Qe (QE 6 Zm.nd (YZ (Qb 4) Qi))
 (Qe (r_if (r_w (Qmb (Qbx hr (YZ (Yx (Qb 4) Qi) Qi) Qi) (Qi2 (Qjg (Zz Z.z_len (Qm (Qb 5) (Qb 6))) Qi)))) (Qj (Yh (Qo9 (Qm (Qb 5) (Qb 6)) (YZ (Yx (Qb 4) Qi) (Zz Z.z_len (Qm (Qb 5) (Qb 6))))))) (Qe (QE 7 Zm.nd (Qs (QdP Z) hr.m (Qc (Zz Z.z_len (Qm (Qb 2) Qi)) (Qc (Qm (Qb 3) Qi) Qh))))
 (Qe (QE 8 Zm.nd (Qm (Qb 7) (YZ (Yx (Qb 4) Qi) (Zz Z.z_len (Qb 7)))))
 (Qe (QE 9 Zm.nd (Qm (Qb 7) (YZ (Yx (Qb 4) Qi) (Zz Z.z_len (Qb 7)))))
 (Qe (QE 10 Zm.nd (QJ (Qc (Qb 8) (Qc (YZ (Yx (Qb 4) Qi) (Zz Z.z_len (Qb 2))) (Qc (YZ (Yx (Qb 4) Qi) (Zz Z.z_len (Qm (Qb 2) Qi))) (Qc (Qb 9) Qh))))))
 (Qj (Yh (Qax (Qm (Qb 5) (Qb 6)) (Qm (Zb (Qc (Qb 8) (Qc (Qb 9) (Qc (Qb 10) Qh)))) (Qb 6))))))))))
 (Qj (QG (QJ (Qc Yw (Qc (Qm (Qb 3) Qi) (Qc (Qm (Qb 5) Qi) (Qc (Qm (Qb 5) Qi) (Qc (Qm (Qb 5) Qi) Qh))))))))))))
theorem QkO(Z:Zk K mg ca):FnH P w K mg base ca "_law_bent" 2 4 Qel:=Z3 Z.u39 Qv λ_ _ _ _ _ _ _ hr=>(Qe (QE 4 Qv.nd (Qs (Qat Z) hr.m (Qc (Qb 0) (Qc (Qb 1) Qh))))
 (Qe (Qk9 (Qb 3) (Qg4 rfl (ZL (Qx 5 Qv.nd) (ZL (Qx 6 Qv.nd) (ZL (Qx 7 Qv.nd) (ZL (Qx 8 Qv.nd) (ZL (Qx 9 Qv.nd) Qg3)))))))
 (Qe (Qk9 (Qm (Qb 9) (YZ (Yx (Qb 4) Qi) (Zz Z.z_len (Qb 9)))) (Qg4 rfl (ZL (Qx 10 Qv.nd) (ZL (Qx 11 Qv.nd) (ZL (Qx 12 Qv.nd) (ZL (Qx 13 Qv.nd) Qg3))))))
 (Qe (QE 14 Qv.nd (Zy (QJ (Qc (Zz Z.z_len (Qm (Qb 2) Qi)) Qh)) (ZM (Qb 10) (YO Qi) Ze)))
 (Qe (QE 15 Qv.nd (Zb (Qc (QJ (Qc Yw (Qc (Qb 6) (Qc (Qb 7) (Qc (Qb 8) (Qc (Qb 9) Qh)))))) (Qc (QJ (Qc Yw (Qc (Zy (Qb 6) Qi) (Qc (Qb 7) (Qc (Qb 8) (Qc (Qb 9) Qh)))))) Qh))))
 (Qe (QE 15 Qv.nd (Zy (Qb 15) (Zb (Qc (QJ (Qc Yw (Qc (Qb 6) (Qc (Qb 7) (Qc (Qb 8) Qh))))) (Qc (Zy (Qb 3) (QJ (Qc (Qb 7) Qh))) (Qc (QJ (Qc Yw (Qc r_bl (Qc (Qb 7) (Qc (Qb 8) (Qc (Qb 9) Qh)))))) Qh))))))
 (Qe (QE 15 Qv.nd (Zy (Qb 15) (Zb (Qc (QJ (Qc Yw (Qc (Qb 6) (Qc (Zy (Qb 7) (Zb (Qc (Zy (Qb 10) (QJ (Qc Qi Qh))) Qh))) (Qc (Qb 8) (Qc (Qb 9) Qh)))))) (Qc (QJ (Qc Yw (Qc (Qb 6) (Qc (Zb Qh) (Qc (Zb Qh) (Qc (Qb 9) Qh)))))) Qh)))))
 (Qe (QE 15 Qv.nd (Zy (Qb 15) (Zb (Qc (QJ (Qc Yw (Qc (Qb 6) (Qc (Qb 7) (Qc (Zy (Qb 8) (Zb (Qc (Qb 14) Qh))) (Qc (Qb 9) Qh)))))) (Qc (QJ (Qc Yw (Qc (Qb 6) (Qc Qbv (Qc (Qb 8) (Qc (Qb 9) Qh)))))) Qh)))))
 (Qe (QE 15 Qv.nd (Zy (Qb 15) (Zb (Qc (QJ (Qc Yw (Qc (Qb 6) (Qc (Zy (Qb 7) (Zb (Qc (Qhi (QJ (Qc r_bl Qh)) (Qb 6)) Qh))) (Qc (Qb 8) (Qc (Qb 9) Qh)))))) (Qc (Qfb Z.z_list (Qb 3)) Qh)))))
 (Qe (QE 15 Qv.nd (Zy (Qb 15) (Zb (Qc (QJ (Qc Yw (Qc (Qb 6) (Qc (Qb 7) (Qc (Zy (Qb 8) (Zb (Qc (Qfb Z.z_list (Qb 13)) Qh))) (Qc (Qb 9) Qh)))))) (Qc (QJ (Qc Yw (Qc Qi (Qc (Zb (Qc (QJ Qh) Qh)) (Qc (Zb (Qc (QJ Qh) Qh)) (Qc (Qb 9) Qh)))))) Qh)))))
 (Qe (QE 16 Qv.nd (Zb (Qc (QJ (Qc (Qb 10) (Qc (Zz Z.z_len (Qb 2)) (Qc (Qb 12) (Qc (Qb 13) Qh))))) (Qc (QJ (Qc (Qb 10) (Qc (Qb 11) (Qc (Qjf Qi) (Qc (Qb 13) Qh))))) (Qc (QJ (Qc (Qb 10) (Qc (Qb 11) (Qc (Qb 12) Qh)))) (Qc (QJ (Qc (Qb 10) (Qc (Qb 11) (Qc (Qb 12) (Qc Qbv Qh))))) Qh))))))
 (Qe (QE 16 Qv.nd (Zy (Qb 16) (Zb (Qc (QJ (Qc (Qb 10) (Qc (Qb 11) (Qc (Qb 12) (Qc (Zy (Qb 13) (QJ (Qc Qi Qh))) Qh))))) (Qc (Zb (Qc (Qb 10) (Qc (Qb 11) (Qc (Qb 12) (Qc (Qb 13) Qh))))) (Qc (QJ (Qc (Qb 14) (Qc (Qb 11) (Qc (Qb 12) (Qc (Qb 13) Qh))))) Qh))))))
 (Qe (QE 17 Qv.nd (Qea Z.z_tuple (YY (QN (Nb:=["_law_sign"]) (no:=1) (cap:=[]) (N:=QeK) (sc:=Qg Qbs) rfl rfl (by decide +kernel)) rfl (QR (Qb 10)) (λcl C s3 H3 ex=>⟨(Qx 0 (show List.Nodup (["_law_sign"]:List Str) by decide +kernel)),QaP,(r_eq hr (Qb 0) Qi)⟩))))
 (Qe (QE 16 Qv.nd (Zy (Qb 16) (Zb (Qc (QJ (Qc (Qb 10) (Qc (r_eq hr (Qb 11) Qi) (Qc (Qb 12) (Qc (Qb 13) Qh))))) (Qc (QJ (Qc (Qb 10) (Qc (Qb 11) (Qc (r_eq hr (Qb 12) Qi) (Qc (Qb 13) Qh))))) (Qc (QJ (Qc (Qb 17) (Qc (Qb 11) (Qc (Qb 12) (Qc (Qb 13) Qh))))) Qh))))))
 (Qe (QE 15 Qv.nd (Zy (Qb 15) (Zb (Qc (QJ (Qc Yw (Qc (Qb 6) (Qc (Qb 7) (Qc (Qb 8) (Qc (Zy (Qb 9) (Zb (Qc (Qm (Qb 16) (YZ (Yx (Qb 4) Qi) Qi)) Qh))) Qh)))))) Qh))))
 (Qe (QE 18 Qv.nd (Qm (Qb 16) (Zy Qi (YZ (Yx (Qb 4) Qi) Qi))))
 (Qe (QE 15 Qv.nd (Zy (Qb 15) (Zb (Qc (QJ (Qc Yw (Qc (Qb 6) (Qc (Qb 7) (Qc (Qb 8) (Qc (YY (QN (Nb:=["_law_one_here","_law_turn","_law_contexts"]) (no:=1) (cap:=[18,9]) (N:=QeK) (sc:=Qg Qbs) rfl rfl (by decide +kernel)) rfl (QR (Qb 9)) (λcl C s3 H3 ex=>⟨(Qx 0 (show List.Nodup (["_law_one_here","_law_turn","_law_contexts"]:List Str) by decide +kernel)),QaP,(Qi3 (Qbx hr (Qb 0) (Qm (Qb 2) Qi)) (Qb 1) (Qb 0))⟩)) Qh)))))) Qh))))
 (Qe (QE 15 Qv.nd (Zy (Qb 15) (Zb (Qc (QJ (Qc Yw (Qc (Qb 6) (Qc (Zy (Zb (Qc (Qb 17) Qh)) (Qb 7)) (Qc (Qb 8) (Qc (Qb 9) Qh)))))) Qh))))
 (Qj (QG (Qm (Qb 15) (YZ (Yx (Qb 4) Qi) (Zz Z.z_len (Qb 15))))))))))))))))))))))))
theorem QdQ(Z:Zk K mg ca):FnH P w K mg base ca "_law_asked" 8 5 Qae:=Z3 Z.u40 YU λ_ _ _ _ _ _ _ hr=>(Qe (QE 5 YU.nd (Qs (Qdm Z) hr.m (Qc (Qb 3) (Qc (Qm (Qb 4) Qi) (Qc (Qm (Qb 4) Qi) (Qc (Qm (Qb 4) Qi) (Qc (Qm (Qb 4) Qi) Qh)))))))
 (Qe (QcL 6 YU.nd (QN (Nb:=["_law_row"]) (no:=1) (cap:=[]) (N:=Qdj) (sc:=Qg Qaq) rfl rfl (by decide +kernel)) rfl (QR (ZM (Qb 4) (YO Qi) Ze)) (λcl C s3 H3 ex=>⟨(Qx 0 (show List.Nodup (["_law_row"]:List Str) by decide +kernel)),QaP,(Qfb Z.z_list (Qb 0))⟩))
 (Qe (r_if (r_w (Qa1 (Zx (Zu (Qs (Qau Z) hr.m (Qc (Qb 2) (Qc (Qb 4) (Qc (Qb 5) Qh)))))) (J5 (QhU hr (Zb (Qc (Qm (Qb 4) Qi) (Qc (Qm (Qb 4) Qi) (Qc (Qm (Qb 4) Qi) Qh)))) (Qb 6))))) (Qj (QG r_bl)) QM)
 (Qe (QcL 7 YU.nd (QN (Nb:=["_law_row","_law_script","_law_at"]) (no:=1) (cap:=[0,1]) (N:=Qdj) (sc:=Qg Qaq) rfl rfl (by decide +kernel)) rfl (QR (Qb 6)) (λcl C s3 H3 ex=>⟨(Qx 0 (show List.Nodup (["_law_row","_law_script","_law_at"]:List Str) by decide +kernel)),QaP,(Qea Z.z_tuple (Qs (Qir Z) hr.m (Qc (Qb 1) (Qc (Qb 2) (Qc (Zy (Qb 0) (ZM (Qb 0) Ze (YO Qi))) Qh)))))⟩))
 (Qe (r_if (Zx (Zu (Qs (Qau Z) hr.m (Qc (Qb 2) (Qc (QJ (Qc Yw (Qc (Qm (Qb 4) Qi) (Qc (Qm (Qb 7) Qi) (Qc (Qm (Qb 7) Qi) (Qc (Qm (Qb 7) Qi) Qh)))))) (Qc (Qb 5) Qh)))))) (Qj (QG r_bl)) QM)
 (Qe (JZ rfl (Je Z.z_range Qi) (Qx 8 YU.nd) (Qe (QE 9 YU.nd (Qs (QfQ Z) hr.m (Qc (Qb 0) (Qc (Qb 1) (Qc (Qb 3) (Qc (Qb 4) Qh))))))
 (Qe (r_if (Zx (Zu (Qs (Qau Z) hr.m (Qc (Qb 2) (Qc (Qb 9) (Qc (Qs (Qdm Z) hr.m (Qc (Qb 3) (Qc (Qm (Qb 9) Qi) (Qc (Qm (Qb 9) Qi) (Qc (Qm (Qb 9) Qi) (Qc (Qm (Qb 9) Qi) Qh)))))) Qh)))))) (Qj (QG r_bl)) QM)
 (Qj (r_if (Zx (Zu (Qs (Qau Z) hr.m (Qc (Qb 2) (Qc (Qs (QkO Z) hr.m (Qc (Qb 0) (Qc (Qb 1) (Qc (Qb 3) (Qc (Qb 4) Qh))))) (Qc r_bl Qh)))))) (Qj (QG r_bl)) QM)))))
 (Qj (QG r_bl))))))))
theorem QlY(Z:Zk K mg ca):FnH P w K mg base ca "_law_one" 9 2 Qgf:=Z3 Z.u41 Yf λ_ _ _ _ _ _ _ hr=>(Qe (QE 2 Yf.nd (Qs (Qat Z) hr.m (Qc (Qb 0) (Qc (Qb 1) Qh))))
 (Qe (QE 3 Yf.nd (Qs (Qiq Z) hr.m (Qc (Qb 0) (Qc (Qb 1) (Qc (Zy Qi (YZ (Qb 2) Qi)) (Qc (Zy Qi (Yx (YZ (Yx (Qb 2) Qi) Qi) Qi)) Qh))))))
 (Qe (QE 4 Yf.nd (Qme (Qdl Z) hr.m (Qc (Qb 3) Qh)))
 (Qe (QE 5 Yf.nd (Qs (QdP Z) hr.m (Qc (Zz Z.z_len (Qm (Qb 3) Qi)) (Qc Qi Qh))))
 (Qe (QE 6 Yf.nd (Zb Qh))
 (Qe (JZ rfl (QR (Qb 5)) (Qx 7 Yf.nd) (Qj (JZ rfl (Je Z.z_range (Zz Z.z_len (Qb 3))) (Qx 8 Yf.nd) (Qj (JZ rfl (Je Z.z_range (Zz Z.z_len (Qm (Qb 3) Qi))) (Qx 9 Yf.nd) (Qj (Yh (Qed (Qb 6) (YY (QN (Nb:=["_law_right","_law_left","_law_state","_law_sign"]) (no:=1) (cap:=[7,8,9]) (N:=QkM) (sc:=Qg QeL) rfl rfl (by decide +kernel)) rfl (QR (Qb 5)) (λcl C s3 H3 ex=>⟨(Qx 0 (show List.Nodup (["_law_right","_law_left","_law_state","_law_sign"]:List Str) by decide +kernel)),QaP,(QJ (Qc (Qb 1) (Qc (Qb 2) (Qc (Qb 3) (Qc (Qb 0) Qh)))))⟩))))))))))
 (Qe (r_if (Zx (Zu (Qs (QdQ Z) hr.m (Qc (Qb 0) (Qc (Qb 1) (Qc (Qb 4) (Qc (Qb 3) (Qc (QJ (Qc Yw (Qc Qi (Qc (Qb 5) (Qc (Qfb Z.z_list (Qb 5)) (Qc (Qb 6) Qh)))))) Qh)))))))) (Qj (QG r_bl)) QM)
 (Qe (QE 10 Yf.nd (Qs (Qip Z) hr.m (Qc (Qb 4) (Qc (Zy Qi (YZ (Yx (Qb 2) Qi) Qi)) (Qc Qi Qh)))))
 (Qe (r_if (r_w (Qmb (Qlh (Qb 10) Qbv) (Qi2 (Zx (Zu (Qs (QdQ Z) hr.m (Qc (Qb 0) (Qc (Qb 1) (Qc (Qb 4) (Qc (Qb 3) (Qc (Qb 10) Qh))))))))))) (Qj (QG r_bl)) QM)
 (Qe (JZ rfl (QR (Zb (Qc Qbv (Qc (QJ Qh) (Qc Yw (Qc (QJ (Qc Yw (Qc Qi (Qc Qi Qh)))) (Qc (Zv (Qb 4) Z.a_table) (Qc (QJ (Qc Yw Qh)) (Qc Qi (Qc (Zb (Qc Yw Qh)) Qh)))))))))) (Qx 11 Yf.nd) (Qj (r_if (Zx (Zu (Qs (Qau Z) hr.m (Qc (Qb 4) (Qc (Qb 11) (Qc r_bl Qh)))))) (Qj (QG r_bl)) QM)))
 (Qj (QG r_bl))))))))))))
theorem QpQ(Z:Zk K mg ca){f:Addr}{fd:FuncData}(F:Fun K "law" "law" QlX f fd):FnOk P w K mg base (CXW P w ca) 10 f fd ["_law_script"] (spM K ca 1 Qlw):=Qla F QkN rfl rfl (λcdv A outer s H E hr=>(Qe (QE 1 QkN.nd (Zb (Qc Qi Qh)))
 (Qe (JZ rfl (Je Z.z_range (Zy Qi (Qpf rfl Z.z_min Qi (Yx (Zz Z.z_len (Qb 0)) Qi)))) (Qx 2 QkN.nd) (Qj (r_if (Zx (Zu (Qs (QlY Z) hr.m (Qc (Qb 0) (Qc (Qb 1) Qh))))) (Qj (QG r_bl)) QM)))
 (Qj (QG r_bl)))))
end
end V
namespace V
open PySem PySem.Spec PyProof.Rows L2 L3
def caOf(l:List Nat)(n:Nat):Addr:=l.getD n 0
def FA(K:Frag)(x:Str)(st:Stmt):Prop:=∃(f:Addr)(oc kV dc pm cd ct:Value)(od an:Option Addr)(sl:Array (Option Value)),nsIn K mainGlobals x=some (some (.ref f))/\K.lookup f=some ⟨oc,od,.func (fnOf x x (JG st) (YH st) (Qg st) .none kV dc pm an cd ct),sl⟩/\codeIn K cd x=true/\keepIn K (.ref f)=true
theorem fa_mk{K:Frag}{x:Str}{st:Stmt}{f:Addr}{oc kV dc pm cd ct:Value}{od an:Option Addr}{sl:Array (Option Value)}(a:nsIn K mainGlobals x=some (some (.ref f)))(l:K.lookup f=some ⟨oc,od,.func (fnOf x x (JG st) (YH st) (Qg st) .none kV dc pm an cd ct),sl⟩)(d:codeIn K cd x=true)(k:keepIn K (.ref f)=true):FA K x st:=⟨f,oc,kV,dc,pm,cd,ct,od,an,sl,a,l,d,k⟩
theorem FA.u{K:Frag}{h:Heap}{mg:SOV}{x:Str}{st:Stmt}(a:FA K x st)(X:K.In h)(G:h.Ns mainGlobals mg):UF K mg x st:=by obtain⟨f,oc,kV,dc,pm,cd,ct,od,an,sl,a,l,d,k⟩:=a;exact⟨f,_,QiP l d k,RE X G a⟩
def FM(K:Frag)(C:Addr)(x q:Str)(st:Stmt):Prop:=∃(f:Addr)(oc kV dc pm cd ct:Value)(od an:Option Addr)(sl:Array (Option Value)),findIn K (.ref C) x=some (some (.ref f))/\K.lookup f=some ⟨oc,od,.func (fnOf x q (JG st) (YH st) (Qg st) .none kV dc pm an cd ct),sl⟩/\codeIn K cd q=true/\keepIn K (.ref f)=true/\isFn K (.ref f)=true
theorem fm_mk{K:Frag}{C:Addr}{x q:Str}{st:Stmt}{f:Addr}{oc kV dc pm cd ct:Value}{od an:Option Addr}{sl:Array (Option Value)}(a:findIn K (.ref C) x=some (some (.ref f)))(l:K.lookup f=some ⟨oc,od,.func (fnOf x q (JG st) (YH st) (Qg st) .none kV dc pm an cd ct),sl⟩)(d:codeIn K cd q=true)(k:keepIn K (.ref f)=true)(i:isFn K (.ref f)=true):FM K C x q st:=⟨f,oc,kV,dc,pm,cd,ct,od,an,sl,a,l,d,k,i⟩
theorem FM.m{K:Frag}{C:Addr}{x q:Str}{st:Stmt}(h:FM K C x q st)(w:clsB K C=true):UM K C x q st:=by obtain⟨f,oc,kV,dc,pm,cd,ct,od,an,sl,a,l,d,k,i⟩:=h;exact⟨f,_,QiP l d k,⟨a,i,k⟩,Qmh w⟩
theorem FM.i{K:Frag}{h:Heap}{mg:SOV}{C:Addr}{q cn:Str}{st:Stmt}(u:FM K C "__init__" q st)(X:K.In h)(G:h.Ns mainGlobals mg)(m:makesIn K C=true)(qk:keepIn K (.ref C)=true)(c:nsIn K mainGlobals cn=some (some (.ref C))):UI K mg C q cn st:=by obtain⟨f,oc,kV,dc,pm,cd,ct,od,an,sl,a,l,d,k,i⟩:=u;exact⟨f,_,QiP l d k,⟨m,a,i,qk⟩,RE X G c⟩
theorem z_mk{K:Frag}{h:Heap}{mg:SOV}(X:K.In h)(G:h.Ns mainGlobals mg){C0 C1 C9 C11 C14 C15:Addr}{og_BLANK:_}{og_LEFT:_}{og_RIGHT:_}{og_WALL:_}(c0:nsIn K mainGlobals "TapeError"=some (some (.ref C0)))(c1:nsIn K mainGlobals "NoMachine"=some (some (.ref C1)))(c9:nsIn K mainGlobals "NoWidth"=some (some (.ref C9)))(c11:nsIn K mainGlobals "Machine"=some (some (.ref C11)))(c14:nsIn K mainGlobals "Grams"=some (some (.ref C14)))(c15:nsIn K mainGlobals "Gathering"=some (some (.ref C15)))(a1:FA K "is_whole" QbL)(a2:FA K "is_below" QbM)(a3:FA K "is_from_nought" YL)(a4:FA K "other_way" QaT)(a5:FA K "is_entry" QbO)(a6:FA K "check_rows" Jl)(a7:FA K "states_of" QaU)(a8:FA K "signs_of" QbP)(a9:FA K "is_gram" Qbn)(a10:FA K "is_context" Qal)(a11:FA K "are_grams" JQ)(a12:FA K "is_wall_paper" Ye)(a13:FA K "entry_at" QbQ)(a14:FA K "gram_behind" JR)(a15:FA K "gram_ahead" Qan)(a16:FA K "next_context" Jp)(a17:FA K "grams_of" QbS)(a18:FA K "holds_at" QaF)(a19:FA K "wall_taken" YE)(a20:FA K "wall_of" Qdf)(a21:FA K "_law_next" QeI)(a22:FA K "_law_table" Qdg)(a23:FA K "_law_behind" JE)(a24:FA K "_law_closed" QaG)(a25:FA K "_law_grams" Qbr)(a26:FA K "_law_told" QeJ)(a27:FA K "_law_mixed" Qdh)(a28:FA K "_law_changed" JT)(a29:FA K "_law_bent" Qbs)(a30:FA K "_law_asked" Qaq)(a31:FA K "_law_one" QeL)(a32:FA K "law" QlX)(a33:FM K C11 "__init__" "Machine.__init__" Yt)(m33:makesIn K C11=true)(q33:keepIn K (.ref C11)=true)(a34:FM K C14 "__init__" "Grams.__init__" Qao)(m34:makesIn K C14=true)(q34:keepIn K (.ref C14)=true)(a35:FM K C14 "beginning" "Grams.beginning" Yp)(w14:clsB K C14=true)(a36:FM K C14 "has" "Grams.has" QaV)(a37:FM K C14 "put_in" "Grams.put_in" Jq)(a38:FM K C14 "in_order" "Grams.in_order" YM)(a39:FM K C15 "ask_for" "Gathering.ask_for" Z1)(w15:clsB K C15=true)(a40:FM K C15 "__init__" "Gathering.__init__" YN)(m40:makesIn K C15=true)(q40:keepIn K (.ref C15)=true)(a41:FM K C15 "put_gram" "Gathering.put_gram" ZQ)(a42:FM K C15 "went_on" "Gathering.went_on" Z2)(a43:FM K C15 "paper" "Gathering.paper" Yr)(nz_all:nsIn K mainGlobals "all"=some none)(nz_bool:nsIn K mainGlobals "bool"=some none)(nz_dict:nsIn K mainGlobals "dict"=some none)(nz_int:nsIn K mainGlobals "int"=some none)(nz_isinstance:nsIn K mainGlobals "isinstance"=some none)(nz_len:nsIn K mainGlobals "len"=some none)(nz_list:nsIn K mainGlobals "list"=some none)(nz_min:nsIn K mainGlobals "min"=some none)(nz_range:nsIn K mainGlobals "range"=some none)(nz_sorted:nsIn K mainGlobals "sorted"=some none)(nz_tuple:nsIn K mainGlobals "tuple"=some none)(ng_BLANK:nsIn K mainGlobals "BLANK"=some (some (.int 0 og_BLANK)))(ng_LEFT:nsIn K mainGlobals "LEFT"=some (some (.str "l" og_LEFT)))(ng_RIGHT:nsIn K mainGlobals "RIGHT"=some (some (.str "r" og_RIGHT)))(ng_WALL:nsIn K mainGlobals "WALL"=some (some (.str "wall" og_WALL)))(na_asking:fldB K (caOf [C0,C1,0,0,0,0,0,0,0,C9,0,C11,0,0,C14,C15]) [15] "asking"=true)(na_by_seen:fldB K (caOf [C0,C1,0,0,0,0,0,0,0,C9,0,C11,0,0,C14,C15]) [14] "by_seen"=true)(na_contexts:fldB K (caOf [C0,C1,0,0,0,0,0,0,0,C9,0,C11,0,0,C14,C15]) [15] "contexts"=true)(na_machine:fldB K (caOf [C0,C1,0,0,0,0,0,0,0,C9,0,C11,0,0,C14,C15]) [15] "machine"=true)(na_pending:fldB K (caOf [C0,C1,0,0,0,0,0,0,0,C9,0,C11,0,0,C14,C15]) [15] "pending"=true)(na_sides:fldB K (caOf [C0,C1,0,0,0,0,0,0,0,C9,0,C11,0,0,C14,C15]) [15] "sides"=true)(na_table:fldB K (caOf [C0,C1,0,0,0,0,0,0,0,C9,0,C11,0,0,C14,C15]) [11] "table"=true):Zk K mg (caOf [C0,C1,0,0,0,0,0,0,0,C9,0,C11,0,0,C14,C15]):=⟨U1 X G nz_all,U1 X G nz_bool,U1 X G nz_dict,U1 X G nz_int,U1 X G nz_isinstance,U1 X G nz_len,U1 X G nz_list,U1 X G nz_min,U1 X G nz_range,U1 X G nz_sorted,U1 X G nz_tuple,⟨_,RE X G ng_BLANK⟩,⟨_,RE X G ng_LEFT⟩,⟨_,RE X G ng_RIGHT⟩,⟨_,RE X G ng_WALL⟩,QcN na_asking,QcN na_by_seen,QcN na_contexts,QcN na_machine,QcN na_pending,QcN na_sides,QcN na_table,a1.u X G,a2.u X G,a3.u X G,a4.u X G,a5.u X G,a6.u X G,a33.i X G m33 q33 c11,a7.u X G,a8.u X G,a9.u X G,a10.u X G,a11.u X G,a12.u X G,a13.u X G,a14.u X G,a15.u X G,a16.u X G,a34.i X G m34 q34 c14,a35.m w14,a36.m w14,a37.m w14,a38.m w14,a17.u X G,a18.u X G,a19.u X G,a39.m w15,a40.i X G m40 q40 c15,a41.m w15,a42.m w15,a43.m w15,a20.u X G,a21.u X G,a22.u X G,a23.u X G,a24.u X G,a25.u X G,a26.u X G,a27.u X G,a28.u X G,a29.u X G,a30.u X G,a31.u X G,a32.u X G⟩
theorem walk{l:PySem.W.OpenLaw}{p:Program}{loose:List Str}{XP:SOV->Heap->Prop}{YP:World->Heap->Prop}{d:DefRec}{K:Params->Frag}(C:List Nat)(hn:l.most=some 63)(hdf:d.params.defaults=[])(hd:d.name ="law")(hY:∀(w:World) (h:Heap),YP w h->(K w.params).In h)(F:∀(w:World) (mg:SOV) (h:Heap),(K w.params).In h->h.Ns mainGlobals mg->Zk (K w.params) mg (caOf C))(M:∀ns:List Int,ns.length<=63->∃g',Qlw [.fl (ns.map D.int)] []=.ok (.bl true) g'):PySem.W.WalkO p loose XP YP l.row.toRowW d [] (λf vs=>PySem.call f vs):=by
 refine L2.walk_of (n:=63) (k:=10) (x:="_law_script") (CX:=λw=>CXW l.prog w (caOf C)) (sp:=λw=>spM (K w.params) (caOf C) 1 Qlw) hn (by decide) hdf ⟨rfl,by decide,by decide⟩ hY (λw mg fa h KX G hmg=>?_) (λw H a ns hl hO hS=>Qo8 hO hS (M ns hl)) (λw H s e s' z=>?_)
 ·have Z:=F w mg h KX G;obtain⟨f,fd,Fu,hm⟩:=Z.u42;rw[hd]at hmg;have e:=hmg.symm.trans hm;cases e;refine⟨fd,λs u=>?_,λbase _ _=>QpQ Z Fu⟩;obtain⟨oc,od,kV,doc,pm,an,cdv,ct,osl,rfl,lk,hcd⟩:=Fu.ex;exact .of_eq rfl
 ·obtain⟨_,_,_,_,_,_,_,_,_,_,z⟩:=z;exact z
end V
namespace V
open PySem PySem.W PySem.W.X PySem.Spec PyProof.Rows
theorem walkX_of{as:List Addr}{K:Params->Frag}{n t:Nat}{q:Program}{loose:List Str}{XP:SOV->Heap->Prop}{r:RowW}{d:DefRec}{kwd:List (Str×PySem.Expr)}{run:Value->List Value->Sem Value}(e:∀P,as=(K P).map (·.1))(h:WalkO q loose XP (InK K) r d kwd run):WalkX q loose XP (obsZ as) (valZ K n t) r d kwd run:=λw s₀ s₁ mg mb G y a o pm cd doc dV kV h1 h2 h3 h4 h5 h6 args vals as' L p1 p2 p3 p4 p5=>
  h w s₀ s₁ mg mb G (InK.keeps w _ _ (z_facts e y).2.1 L.keeps) a o pm cd doc dV kV h1 h2 h3 h4 h5 h6 args vals as' p1 p2 p3 p4 p5
end V
noncomputable def PySem.W.Fast.tw5628283085248558902 : PySem.Program := PySem.Challenge.pw_tapeproof_k51_papers_of_contexts
theorem PySem.W.Fast.te5628283085248558902 : PySem.Challenge.pw_tapeproof_k51_papers_of_contexts=PySem.W.Fast.tw5628283085248558902 := rfl
namespace PySem.W.Fast
def tw5478859973442574390:=()
def tw16015840006560158188:=()
def tw2208600939415426420:=()
def tw11548701498516946887:=()
def tw7040727016888619758:=()
def tw3676903240250761352:=()
def tw7759788022932572705:=()
def tw13257414852908748733:=()
def tw10010105088330509006:=()
def tw13760758560029894054:=()
def tw618414573895867116:=()
def tw5324922465349741639:=()
def tw184965165179642059:=()
def tw17797192961606665208:=()
def tw17069516401719271886:=()
def tw18237117510745016164:=()
def tw7090095109896865718:=()
def tw13861538469289426264:=()
def tw13063403226111681802:=()
def tw14073313843807254150:=()
def tw547506062041391576:=()
def tw4583441284428346724:=()
def tw12724402167441391325:=()
def tw15219403588751676383:=()
def tw294779987806959118:=()
def tw17481181663209432614:=()
def tw700066800100065573:=()
def tw10612054683638272904:=()
def tw7683433296826466390:=()
def tw12260470058355281100:=()
def tw1102131722044328531:=()
def tw14592742661913458981:=()
def tw6219452219739868122:=()
def tw9457869228029277209:=()
def tw18156258365452256423:=()
def tw15087465617862045476:=()
def tw3468255007358027374:=()
def tw17330936468611032313:=()
def tw1934898145081564910:=()
def tw6812842415400258267:=()
def tw2145444843455102625:=()
def tw1650665925588000353:=()
def tw13180511965137992091:=()
def tw14378137200398628992:=()
def tw15264708595631138109:=()
def tw3782340313534233667:=()
def tw9595501952930776478:=()
def tw13395964170665579164:=()
def tw3101194336973782510:=()
def tw3558445713719441149:=()
def tw11834803278112086065:=()
def tw6319395405843362628:=()
def tw10774321304978537716:=()
def tw682458038907251244:=()
def tw6537846391680646893:=()
def tw7541887906090373257:=()
def tw13759255154589759781:=()
def tw1045979895531490273:=()
def tw18211618062703982685:=()
def tw6704635665979000157:=()
def tw15969597723468555045:=()
def tw16608208754331404965:=()
def tw11534527948590289287:=()
def tw3888725112378027833:=()
def tw16790202369016564757:=()
def tw3760150860664038089:=()
def tw14455602508333607646:=()
def tw1735806699708315383:=()
def tw12056965623100736268:=()
def tw8685872171154689824:=()
def tw16250914253064916721:=()
def tw17004758884541790044:=()
def tw2173585584987039484:=()
def tw13548710423206547717:=()
def tw18180939302332329808:=()
def tw4906140053464346610:=()
def tw10948007343036902576:=()
def tw13359143142657412195:=()
def tw13498258281515896775:=()
def tw981752432625002522:=()
def tw13236861755400412209:=()
def tw12313812961966708331:=()
def tw1915574615904296968:=()
def tw17764277219507670116:=()
def tw15936357333453591762:=()
def tw16238868874853709696:=()
def tw9581932371753918277:=()
def tw13739619284074477909:=()
def tw17235695850917780322:=()
def tw862951063981669545:=()
def tw11468503260007061011:=()
def tw15164530487139925501:=()
def tw17681832935273907981:=()
def tw1787993163388947267:=()
def tw5899660117668695283:=()
def tw13699843475654251930:=()
def tw7434034064238970145:=()
def tw330521370266436057:=()
def tw11922373553556445770:=()
def tw6119809878299860193:=()
def tw15426638804995623066:=()
def tw14927623630743708675:=()
def tw15119843570883405177:=()
def tw2983990572305510549:=()
def tw16289878865216513949:=()
def tw16819935655243262733:=()
def tw4918476172779069946:=()
def tw18330847549651237555:=()
def tw10966474521410567961:=()
def tw13238506176042807411:=()
def tw6899495145252295055:=()
def tw8614347967248031377:=()
def tw17194362934572044323:=()
def tw1681874956369248548:=()
def tw14355110072943119406:=()
def tw18421541078270164097:=()
def tw8543144447400385586:=()
def tw13725808520763867159:=()
def tw4273488702517753475:=()
def tw4712488168101105985:=()
end PySem.W.Fast
open PySem PySem.W PyProof.Rows
set_option maxRecDepth 100000 in
set_option maxHeartbeats 0 in
theorem PySem.Challenge.cw_tapeproof_k51_papers_of_contexts_holds : PySem.Challenge.rw_tapeproof_k51_papers_of_contexts.Holds := by
  w_on; o_law; z_head; (case hw=>w_witness2)
  k_fill
  refine V.walkX_of (fun P=>?E) (V.walk (l:=PySem.Challenge.rw_tapeproof_k51_papers_of_contexts) [24,37,0,0,0,0,0,0,0,49,0,106,0,0,219,285] rfl rfl rfl (fun w h Y=>Y) ?F L3.law_true)
  case E=>kernel_rfl
  case F =>
    intro w mg h KX G
    refine' V.z_mk KX G ?_ ?_ ?_ ?_ ?_ ?_ ?_ ?_ ?_ ?_ ?_ ?_ ?_ ?_ ?_ ?_ ?_ ?_ ?_ ?_ ?_ ?_ ?_ ?_ ?_ ?_ ?_ ?_ ?_ ?_ ?_ ?_ ?_ ?_ ?_ ?_ ?_ ?_ ?_ ?_ ?_ ?_ ?_ ?_ ?_ ?_ ?_ ?_ ?_ ?_ ?_ ?_ ?_ ?_ ?_ ?_ ?_ ?_ ?_ ?_ ?_ ?_ ?_ ?_ ?_ ?_ ?_ ?_ ?_ ?_ ?_ ?_ ?_ ?_ ?_ ?_ ?_ ?_ ?_
    rotate_right 79
    iterate 6 (focus k_is)
    iterate 32 (focus (refine' V.fa_mk ?_ ?_ ?_ ?_; rotate_right 4; iterate 4 focus k_is))
    iterate 1 (focus (refine' V.fm_mk ?_ ?_ ?_ ?_ ?_; rotate_right 5; iterate 5 focus k_is))
    iterate 2 (focus k_is)
    iterate 1 (focus (refine' V.fm_mk ?_ ?_ ?_ ?_ ?_; rotate_right 5; iterate 5 focus k_is))
    iterate 2 (focus k_is)
    iterate 1 (focus (refine' V.fm_mk ?_ ?_ ?_ ?_ ?_; rotate_right 5; iterate 5 focus k_is))
    iterate 1 (focus kernel_rfl)
    iterate 4 (focus (refine' V.fm_mk ?_ ?_ ?_ ?_ ?_; rotate_right 5; iterate 5 focus k_is))
    iterate 1 (focus kernel_rfl)
    iterate 1 (focus (refine' V.fm_mk ?_ ?_ ?_ ?_ ?_; rotate_right 5; iterate 5 focus k_is))
    iterate 2 (focus k_is)
    iterate 3 (focus (refine' V.fm_mk ?_ ?_ ?_ ?_ ?_; rotate_right 5; iterate 5 focus k_is))
    iterate 15 (focus k_is)
    iterate 7 (focus kernel_rfl)
