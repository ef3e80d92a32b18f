import PyProof.Rows.All
import Wide.All
import OpenK.AllK
import Wide.FinOn
import Lean
import PyProof.EqAt
import PyProof.EqKinds
import PyProof.TupleCall
import PySem.Challenge.RW_tapeproof_k44_grow_not_taken
local macro_rules | `(tactic| omega) => `(tactic| lia)
set_option Elab.async false
set_option linter.all false
set_option maxRecDepth 100000
noncomputable section
abbrev VP:=PySem.Value->PySem.Shared->Prop
abbrev Xw:=List (PySem.Addr×PySem.Obj)
abbrev KB:=PySem.Str->Option PySem.Value
def Ua:=@List.length_map
def Ub:=@PySem.wpAny_bind
def Uc:=@if_pos
def Ud:=@List.mem_cons
def Ue:=@Bool.false_ne_true
def Uf:=@List.mem_singleton
def Ug:=@List.size_toArray
def Uh:=@if_neg
def Ui:=@List.getElem?_eq_some_iff
def Uj:=@List.getElem?_eq_getElem
def Uk:=@PySem.Heap.get?_push_of_some
def Ul:=@List.getElem?_set_ne
def Um:=@Nat.le_refl
def Uo:=@List.length_append
def Up:=@Nat.le_trans
def Uq:=@List.take_succ_eq_append_getElem
def Ur:=@decide_eq_false
def Us:=@PySem.wpAny_pure
def Ut:=@List.getElem?_append_left
def Uu:=@decide_eq_true
def Uv:=@List.all_eq_true
def Uw:=@List.mem_cons_of_mem
def Ux:=@List.getElem?_append_right
def Uy:=@List.length_cons
def Uz:=@PySem.Heap.lt_size
def UA:=@List.getElem?_map
def UB:=@List.map_append
def UC:=@List.mem_cons_self
def UD:=@Bool.and_eq_true
def UE:=@PySem.Heap.get?_push_size
def UG:=@List.mem_append
def UH:=@List.length_set
def UI:=@List.mem_append_right
def UJ:=@of_decide_eq_true
def UK:=@List.getElem_mem
def UL:=@Nat.lt_of_lt_of_le
def UM:=@Int.emod_nonneg
def UN:=@Option.bind_eq_some_iff
def UO:=@List.take_length
def UP:=@Nat.le_of_lt
def UQ:=@List.mem_map
def UR:=@Int.toNat_natCast
def US:=@Option.bind_some
def UT:=@PySem.W.mg_of
def UU:=@List.mem_range
def UV:=@PySem.W.mg_none_of
def UW:=@List.take_append_drop
def UX:=@List.replicate_succ
def UY:=@Nat.ne_of_lt
def UZ:=@List.length_take
def U0:=@List.append_nil
def U1:=@PyProof.Rows.callWith_type1
def U2:=@PyProof.Rows.slot_tuple_getitem
def U3:=@Int.emod_lt_of_pos
def U4:=@List.length_reverse
def U5:=@PySem.W.kia_one
def U6:=@List.map_map
def U7:=@PySem.wpAny_newObj_type
def U8:=@beq_eq_false_iff_ne
def U9:=@List.length_replicate
def Ta:=@Array.getElem?_eq_some_iff
def Tc:=@List.getD_eq_getElem?_getD
def Td:=@List.getElem?_set_self
def Te:=@PySem.Heap.get?_update_other
def Tf:=@List.take_of_length_le
def Tg:=@PySem.builtinLookup_eq_fast
def Th:=@PySem.wpAny_field
def Ti:=@List.map_cons
def Tj:=@Nat.lt_succ_self
def Tl:=@PySem.wpAny_mono
def Tn:=@beq_iff_eq
def To:=@Nat.lt_irrefl
def Tp:=@congrArg
def Tq:=@List.length_pos_iff
def Tr:=@List.drop_eq_getElem_cons
def Ts:=@List.mem_append_left
def Tt:=@Bool.and_false
def Tu:=@List.flatten_cons
def Tv:=@List.filterMap_cons
def Tx:=@Array.length_toList
def Tz:=@PySem.mem_of_lookup
def TB:=@List.length_drop
def TC:=@List.dropLast_eq_take
def TD:=@List.getElem?_eq_none_iff
def TH:=@List.mem_or_eq_of_mem_set
def TJ:=@PySem.wpAny_passesOwn
def TK:=@PySem.typeLookup_type
def TL:=@PySem.W.kia_tup
def TM:=@List.mem_of_mem_take
def TN:=@PySem.wpAny_truthy_bool
def TQ:=@List.reverse_cons
def TR:=@List.map_take
def TU:=@List.getElem?_replicate
def TV:=@PySem.wpAny_callSpecial?_slot
def TW:=@PySem.Obj.data_mapFields
def TX:=@PySem.wpAny_of_eq
def TY:=@Int.zero_add
def TZ:=@Int.natCast_add
def T0:=@Nat.min_eq_left
def T1:=@PySem.Heap.get?_update_self
def T3:=@List.length_singleton
def T4:=@List.getElem?_eq_none
def T5:=@List.all_cons
def T6:=@PySem.W.kitx_list
def T7:=@List.flatMap_cons
def T8:=@List.getElem?_set
def T9:=@List.mem_of_getLast?
def Ra:=@PySem.wpAny_setField
def Rb:=@PySem.wpAny_call_entry
def Rc:=@PySem.call_meets
def Re:=@PySem.F.slot_tuple_mul
def Rf:=@Int.toNat_of_nonneg
def Rg:=@List.getElem_of_mem
def Rh:=@PySem.Heap.SameBut.update
def Ri:=@List.map_congr_left
def Rj:=@PySem.F.args_tuple_add_2
def Rk:=@PySem.wpAny_holding
def Rm:=@List.any_cons
def Rn:=@PySem.wpAny_specialOf
def Ro:=@PySem.wpAny_Call_Name_kw
def Rq:=@Bool.false_eq_true
def Rr:=@List.getElem?_take
def Rs:=@PySem.F.entry_tuple_add
def Rt:=@PySem.F.plainAttrs_list
def Ru:=@List.getElem?_cons_succ
def Rv:=@List.getElem?_cons_zero
def Rw:=@List.filter_cons_of_pos
def Rx:=@List.filter_cons_of_neg
def Ry:=@if_false
def Rz:=@PySem.F.slot_tuple_add
def RA:=@Option.map_eq_some_iff
def RB:=@Bool.false_and
def RC:=@PySem.isSubtype_type
def RD:=@List.set_set
def RE:=@PySem.Obj.isFreed_of_fields
def RF:=@List.getElem?_toArray
def RG:=@List.eq_nil_or_concat
def RH:=@List.length_filter_le
def RI:=@Nat.le_of_not_lt
def RJ:=@PySem.AutoSeq1.idx_int
def RK:=@beq_self_eq_true
def RM:=@List.not_mem_nil
def RN:=@List.mem_of_getElem?
def RO:=@PySem.Around.under_plainId
def RP:=@List.mem_of_mem_drop
def RQ:=@List.map_drop
def RS:=@PySem.sizeLine_eq
def RT:=@Nat.zero_le
def RU:=@List.mem_filter
def RV:=@PySem.wpAny_execs_nil
def RW:=@List.nodup_cons
def RX:=@PySem.SeqAt.EqAt.same
def RY:=@List.any_append
def RZ:=@PySem.W.plainGet_of
def R0:=@if_true
def Wa:=@Bool.or_eq_true_iff
def Wb:=@PySem.wpAny_typeOf
def Wc:=@PySem.Calls.Name_function_global
def Wd:=@PySem.F.excBase_ValueError
def We:=@PySem.SeqAt.EqAt.int_str
def Wf:=@PySem.SeqAt.EqAt.str_int
def Wg:=@List.mem_filterMap
def Wh:=@PySem.W.kitx_tuple
def Wi:=@PySem.F.args_tuple_mul_2
def Wj:=@PySem.W.callWith_K
def Wk:=@List.map_replicate
def Wl:=@List.filter_append
def Wm:=@List.getElem?_drop
def Wn:=@PySem.Heap.size_push
def Wo:=@Nat.mul_le_mul
def Wp:=@LawfulBEq.eq_of_beq
def Wq:=@List.getLast?_eq_getElem?
def Wr:=@List.pairwise_iff_getElem
def Ws:=@List.append_assoc
def Wt:=@PySem.F.entry_tuple_mul
def Wu:=@List.nodup_append
def Wv:=@decide_eq_true_eq
def Ww:=@List.ext_getElem?
def Wx:=@List.map_dropLast
def Wy:=@List.length_range
def Wz:=@Option.isSome_iff_exists
def WB:=@Bool.or_false
def WC:=@List.getElem_inj
def WD:=@PySem.noFill_tuple_add
def WE:=@Option.getD_some
def WF:=@PySem.wpAny_isInstance
def WG:=@List.ext_getElem
def WH:=@Nat.min_eq_right
def WI:=@PySem.W.cellsFrom_some
def WM:=@Array.getElem?_eq_none
def WN:=@List.drop_eq_nil_of_le
def WO:=@List.drop_of_length_le
def WP:=@List.append_eq_nil_iff
def WQ:=@PySem.codeAny_mono
def WR:=@Nat.sub_self
def WS:=@List.of_mem_zip
def WT:=@PySem.wpAny_ite_false
def WU:=@PySem.codeAny_builtin
def WV:=@List.range_succ
def WW:=@PySem.W.methodCall_KW
def Bc:=@List.length_dropLast
def Bd:=@Bool.and_eq_true_iff
def Bf:=@List.mem_of_mem_tail
def By:=@Prod.mk.injEq
def B5:=@Nat.ne_of_gt
open PySem.W (Frag InitBack Looks any_some bind_fn callWith_K callWith_K0 cellsFrom_some clsIn codeIn codeRec_of emptyDict excIn findIn findObj_own fnOf get_value handedIn hasDictIn hideAll hideAll_get hideAll_none hideAll_size instObj isFn isNs_of_in keepIn ki_setAt ki_setBack kia_one kia_tup kitAny kitOne kitx_bool kitx_dict kitx_float kitx_int kitx_list kitx_none kitx_own kitx_str kitx_tuple lookIn looks_clsIn looks_findIn looks_subIn looks_typeIn make_core makesIn makes_of methodCall_KW methodObj method_fn mg_none_of mg_of mroIn nsIn nsMap_none_of_in of_hideAll osa_open plainGet plainGet_of plainOver set_plain specialIn subIn tail_of_in takerIn takesIn typeIn)
namespace L2
open PySem PySem.Spec PyProof.Rows
abbrev Mu:=Sum Int Str
def gZ:Mu->Value->Bool
 |.inl k,v=>Value.isInt k v|.inr x,v=>Value.isStrOf x v
def rO(w:World):Mu->Int
 |.inl k=>hashInt k|.inr x=>hashStr w x
theorem YK:∀{k:Mu}{v:Value},gZ k v=true->(∃i t,k=Sum.inl i/\v=Value.int i t)\/(∃x t,k=Sum.inr x/\v=Value.str x t)
 |.inl i,v,h=>by obtain⟨t,e⟩:=Value.isInt_shape (k:=i) (v:=v) h;exact .inl ⟨i,t,rfl,e⟩
 |.inr x,v,h=>by obtain⟨t,e⟩:=Value.isStrOf_shape (x:=x) (v:=v) h;exact .inr ⟨x,t,rfl,e⟩
theorem iZ(a b:Int):decide ((Sum.inl a:Mu)=Sum.inl b)=(a==b):=by
 by_cases e:a=b
 ·subst e;simp
 ·have h:¬(Sum.inl a:Mu)=Sum.inl b:=λq=>e (Sum.inl.inj q);rw[Ur h];exact(U8.mpr e).symm
theorem jA(a b:Str):decide ((Sum.inr a:Mu)=Sum.inr b)=decide (a=b):=by
 by_cases e:a=b
 ·subst e;simp
 ·have h:¬(Sum.inr a:Mu)=Sum.inr b:=λq=>e (Sum.inr.inj q);rw[Ur h,Ur e]
theorem jB(a:Int)(b:Str):decide ((Sum.inl a:Mu)=Sum.inr b)=false:=Ur (λq=>nomatch q)
theorem jC(a:Str)(b:Int):decide ((Sum.inr a:Mu)=Sum.inl b)=false:=Ur (λq=>nomatch q)
def Pe(prog:Program)(w:World):PySem.KeyKind prog w Mu where
 is:=gZ
 hash:=rO w
 inj:=λv a b ha hb=>by
  rcases YK ha with⟨i,t,rfl,rfl⟩|⟨x,t,rfl,rfl⟩
  ·rcases YK hb with⟨j,u,rfl,e⟩|⟨y,u,rfl,e⟩
   ·injection e with e1 _;rw[e1]
   ·exact nomatch e
  ·rcases YK hb with⟨j,u,rfl,e⟩|⟨y,u,rfl,e⟩
   ·exact nomatch e
   ·injection e with e1 _;rw[e1]
 byValue:=λk v h=>by rcases YK h with⟨i,t,rfl,rfl⟩|⟨x,t,rfl,rfl⟩<;>rfl
 pyHash:=λhv h=>by
  rcases YK hv with⟨i,t,rfl,rfl⟩|⟨x,t,rfl,rfl⟩
  ·exact wpAny_pyHash_int h
  ·exact wpAny_pyHash_str h
 eqBool:=λhu hv h=>by
  rcases YK hu with⟨i,t,rfl,rfl⟩|⟨x,t,rfl,rfl⟩
  ·rcases YK hv with⟨j,u,rfl,rfl⟩|⟨y,u,rfl,rfl⟩
   ·rw[iZ]at h;exact wpAny_eqBool_int h
   ·rw[jB]at h;exact We i t y u _ _ _ _ h
  ·rcases YK hv with⟨j,u,rfl,rfl⟩|⟨y,u,rfl,rfl⟩
   ·rw[jC]at h;exact Wf x t j u _ _ _ _ h
   ·rw[jA]at h;exact wpAny_eqBool_str h
 «strs»:=λk x t v h=>by
  rcases YK h with⟨i,u,rfl,e⟩|⟨y,u,rfl,e⟩
  ·exact nomatch e
  ·injection e with e1 _;subst e1;cases v<;>rfl
inductive V where
 |non|bl (b:Bool)|int (i:Int)|str (x:Str)|byt (b:Array UInt8)|flt (b:UInt64)|ref (a:Addr)|ty (n:String)
 deriving DecidableEq
def RelV:V->Value->Prop
 |.non,u=>u=Value.none|.bl b,u=>u=Value.bool b|.int i,u=>∃t,u=Value.int i t|.str x,u=>∃t,u=Value.str x t|.byt b,u=>∃t,u=Value.bytes b t|.flt b,u=>∃t,u=Value.float b t|.ref a,u=>u=Value.ref a|.ty n,u=>u=Value.type n
abbrev Vals:List V->List Value->Prop:=Paired RelV
theorem Vals.length(r:Vals xs us):xs.length=us.length:=Paired.length r
theorem Vals.get:∀{xs:List V}{us:List Value}{i:Nat}{x:V},Vals xs us->xs[i]?=some x->∃u,us[i]?=some u/\RelV x u
 |_,_,_,_,.nil,e=>by simp at e
 |_,_,0,_,.cons r _,e=>by simp at e;subst e;exact⟨_,rfl,r⟩
 |_,_,i+1,x,.cons _ t,e=>by obtain⟨u,h1,h2⟩:=Vals.get (i:=i) (x:=x) t (by simpa using e);exact⟨u,by simpa using h1,h2⟩
theorem Vals.set(r:RelV x u):∀{xs:List V}{us:List Value}(i:Nat),Vals xs us->Vals (xs.set i x) (us.set i u)
 |_,_,_,.nil=>.nil|_,_,0,.cons _ t=>.cons r t|_,_,i+1,.cons q t=>.cons q (Vals.set r i t)
theorem Vals.append:∀{xs ys:List V}{us ws:List Value},Vals xs us->Vals ys ws->Vals (xs++ys) (us++ws)
 |_,_,_,_,.nil,s=>s|_,_,_,_,.cons r t,s=>.cons r (Vals.append t s)
theorem Vals.take:∀{xs:List V}{us:List Value}(n:Nat),Vals xs us->Vals (xs.take n) (us.take n)
 |_,_,0,_=>.nil|_,_,_+1,.nil=>.nil|_,_,n+1,.cons r t=>.cons r (Vals.take n t)
theorem Vals.drop:∀{xs:List V}{us:List Value}(n:Nat),Vals xs us->Vals (xs.drop n) (us.drop n)
 |_,_,0,r=>r|_,_,_+1,.nil=>.nil|_,_,n+1,.cons _ t=>Vals.drop n t
def RelO:Option V->Option Value->Prop
 |some v,some u=>RelV v u|none,none=>True|_,_=>False
def KV:List (κ×V)->List (κ×Value)->Prop:=Paired λ(p:κ×V)(q:κ×Value)=>p.1=q.1/\RelV p.2 q.2
def kV:Mu->V
 |.inl i=>.int i|.inr x=>.str x
inductive HO where
 /-- a list -/
 |lst (xs:List V)
 /-- a tuple (never changes) -/
 |tup (xs:List V)
 /-- a dict whose keys are ints and texts;one whose keys are tuples of ints and texts (the empty one is both) -/
 |dK (kvs:List (Mu×V))|dT (kvs:List (List Mu×V))
 /-- a set of ints: its members,its size -/
 |set (S:Int->Bool) (n:Nat)
 /-- an instance of the class at C,its dict at dx,its attributes -/
 |ins (C dx:Addr) (fs:List (Str×V))
 /-- the dict of the instance at x -/
 |own (x:Addr)
 /-- the dict of an exception -/
 |xd (fs:List (Str×V))
 /-- a bound method,f of x -/
 |met (f x:Addr)
 /-- a range object lo,lo+1,.. below hi -/
 |rng (lo hi:Int)
 /-- a thing that is known to the object (the script;a dict while a loop walks it): read,never written while it is so -/
 |frz (o:Obj) (u:HO)
 /-- a code object's table -/
 |tbl (ps:Array Value)
 /-- any other thing,by what is true of its one object (a def of one's own: SetO a S n:=HO.ext λh=>..) -/
 |ext (φ:Heap->Prop)
abbrev Hp:=Addr->Option HO
def Ji(H:Hp)(a:Addr)(o:HO):Hp:=λb=>if b=a then some o else H b
theorem Q6   : Ji H a o a=some o:=by unfold Ji;rw[Uc rfl]
theorem Q9(h:b≠a):Ji H a o b=H b:=by unfold Ji;rw[Uh h]
theorem Pf{H:Hp}{a b:Addr}{o u:HO}(h:H a=some o)(h':H b=some u)(d:o≠u):a≠b:=by intro e;subst e;rw[h]at h';exact d (Option.some.inj h')
theorem Z8{H:Hp}{a b:Addr}{o:HO}(h:H a=some o)(h':H b=none):a≠b:=by intro e;subst e;rw[h]at h';cases h'
section
variable(P:Program)(w:World)
def ObjOk(H:Hp)(h:Heap)(a:Addr):HO->Prop
 |.lst xs=>xs.length<=sizeLine/\∃(its:List Value)(n:Nat),Vals xs its/\h.get? a=some {cls:=.type "list",data:=.seq its.toArray n}|.tup xs=>xs.length<=sizeLine/\∃its:List Value,Vals xs its/\IsTup h a its.toArray|.dK kvs=>kvs.length<=sizeLine/\(a==sysModules)=false/\∃vs,KV kvs vs/\h.DictOf (Pe P w) a vs|.dT kvs=>kvs.length<=sizeLine/\(a==sysModules)=false/\∃xs:List (List Mu×Addr×Value),Paired (λ(p:List Mu×V)(q:List Mu×Addr×Value)=>p.1=q.1/\H q.2.1=some (.tup (p.1.map kV))/\RelV p.2 q.2.2) kvs xs/\∃o es ep,h.get? a=some o/\o.ExactDict/\o.data=.dict es ep/\es.toList=xs.map (entryOfKey (tupleKind (Pe P w)))/\(xs.map (·.1)).Nodup
 |.set S n=>h.SetOf (intKind P w) a S n|.ins C dx fs=>H dx=some (.own a)/\fs.length<=1000/\dx≠a/\h.get? a=some (instObj C dx)/\∃mA,h.Ns1 dx mA/\(∀f,RelO (fs.lookup f) (mA f))/\PySem.Within mA (fs.map (·.1))
 |.own _=>∃o,h.get? a=some o|.xd fs=>∃mA,h.Ns1 a mA/\∀f,RelO (fs.lookup f) (mA f)|.rng lo hi=>∃t u v,h.get? a=some {cls:=.type "range",data:=.fields #[.int lo t,.int hi u,.int 1 v]}|.frz o u=>h.get? a=some o/\ObjOk H h a u|.tbl ps=>h.get? a=some {cls:=.none,data:=.fields ps}|.met f x=>h.get? a=some (methodObj (.ref f) (.ref x))|.ext φ=>φ h/\(∃o,h.get? a=some o)/\∀h1 h2:Heap,φ h1->(∀o,h1.get? a=some o->h2.get? a=some o)->φ h2
def HOk(H:Hp)(h:Heap):Prop:=∀a o,H a=some o->ObjOk P w H h a o
end
section
variable{P:Program}{w:World}{H H':Hp}{h h':Heap}{a:Addr}{o:HO}
theorem ObjOk.lt(x:ObjOk P w H h a o):a<h.objs.size:=by
 cases o with
 |lst xs=>obtain⟨_,_,_,_,e⟩:=x;exact Uz e|tup xs=>obtain⟨_,_,_,p⟩:=x;exact p.lt|dK kvs=>obtain⟨_,_,_,_,o,_,_,e,_⟩:=x;exact Uz e|dT kvs=>obtain⟨_,_,_,_,o,_,_,e,_⟩:=x;exact Uz e|set S n=>obtain⟨o,_,_,_,e,_⟩:=x;exact Uz e|ins C dx fs=>obtain⟨_,_,_,e,_⟩:=x;exact Uz e|own y=>obtain⟨_,e⟩:=x;exact Uz e|xd fs=>obtain⟨_,⟨_,_,_,e,_⟩,_⟩:=x;exact Uz e|rng lo hi=>obtain⟨_,_,_,e⟩:=x;exact Uz e|frz ob u=>obtain⟨e,_⟩:=x;exact Uz e|tbl ps=>exact Uz (show h.get? a=some _ from x)|met f y=>exact Uz (show h.get? a=some _ from x)|ext φ=>obtain⟨_,⟨_,e⟩,_⟩:=x;exact Uz e
theorem Paired.mapP  : ∀{l₁:List α}{l₂:List β},Paired F l₁ l₂->(∀a b,F a b->G a b)->Paired G l₁ l₂
 |_,_,.nil,_=>.nil|_,_,.cons r t,f=>.cons (f _ _ r) (Paired.mapP t f)
theorem Paired.imp'(f:∀a b,F a b->G a b)(r:Paired F l₁ l₂):Paired G l₁ l₂:=Paired.mapP r f
theorem ObjOk.stay(x:ObjOk P w H h a o)(k:∀b u,(b=a\/H b=some (.own a))->h.get? b=some u->h'.get? b=some u)(ho:∀b,H b=some (.own a)->H' b=some (.own a))(ht:∀b xs,H b=some (.tup xs)->H' b=some (.tup xs)):ObjOk P w H' h' a o:=by
 induction o with
 |lst xs=>obtain⟨z,its,n,r,e⟩:=x;exact⟨z,its,n,r,k _ _ (.inl rfl) e⟩|tup xs=>obtain⟨z,its,r,ob,e,c⟩:=x;exact⟨z,its,r,ob,k _ _ (.inl rfl) e,c⟩|dK kvs=>obtain⟨z,y,vs,r,ob,es,ep,e,c⟩:=x;exact⟨z,y,vs,r,ob,es,ep,k _ _ (.inl rfl) e,c⟩|dT kvs =>obtain⟨z,y,xs,r,ob,es,ep,e,c⟩:=x;exact⟨z,y,xs,Paired.mapP r λp q z=>⟨z.1,ht _ _ z.2.1,z.2.2⟩,ob,es,ep,k _ _ (.inl rfl) e,c⟩|set S n=>obtain⟨ob,es,ep,t,e,c⟩:=x;exact⟨ob,es,ep,t,k _ _ (.inl rfl) e,c⟩|ins C dx fs =>obtain⟨d,z,ne,e,mA,⟨od,es,ep,e2,c⟩,r⟩:=x;exact⟨ho _ d,z,ne,k _ _ (.inl rfl) e,mA,⟨od,es,ep,k _ _ (.inr d) e2,c⟩,r⟩|own y=>obtain⟨ob,e⟩:=x;exact⟨ob,k _ _ (.inl rfl) e⟩|xd fs=>obtain⟨mA,⟨od,es,ep,e,c⟩,r⟩:=x;exact⟨mA,⟨od,es,ep,k _ _ (.inl rfl) e,c⟩,r⟩|rng lo hi=>obtain⟨t,u,v,e⟩:=x;exact⟨t,u,v,k _ _ (.inl rfl) e⟩|frz ob u ih=>obtain⟨e,q⟩:=x;exact⟨k _ _ (.inl rfl) e,ih q⟩|tbl ps =>have e:h.get? a=some {cls:=.none,data:=.fields ps}:=x;show h'.get? a=some {cls:=.none,data:=.fields ps};exact k a _ (.inl rfl) e|met f y =>have e:h.get? a=some (methodObj (.ref f) (.ref y)):=x;show h'.get? a=some (methodObj (.ref f) (.ref y));exact k a _ (.inl rfl) e|ext φ=>obtain⟨p,⟨o,e⟩,st⟩:=x;exact⟨st _ _ p λo q=>k _ _ (.inl rfl) q,⟨o,k _ _ (.inl rfl) e⟩,st⟩
theorem HOk.lt(x:HOk P w H h)(e:H a=some o):a<h.objs.size:=(x a o e).lt
theorem HOk.fresh(x:HOk P w H h)(e:h.objs.size<=a):H a=none:=by
 cases q:H a with
 |none=>rfl|some u=>exact absurd (UL (x.lt q) e) (To _)
theorem HOk.kept(x:HOk P w H h)(k:∀b u,h.get? b=some u->h'.get? b=some u):HOk P w H h':=λa o e=>
 (x a o e).stay (λb u _ q=>k b u q) (λ_ q=>q) λ_ _ q=>q
theorem HOk.laid(x:HOk P w H h)(k:∀b u,h.get? b=some u->h'.get? b=some u)(hp:h.objs.size<=a)(new:ObjOk P w (Ji H a o) h' a o):HOk P w (Ji H a o) h':=λb u e=>by
 have hn:=x.fresh hp;by_cases hb:b=a
 ·subst hb;rw[Q6]at e;cases e;exact new
 ·rw[Q9 hb]at e;exact(x b u e).stay (λc v _ q=>k c v q) (λc q=>by rw[Q9 (Z8 q hn)];exact q) λc xs q=>by rw[Q9 (Z8 q hn)];exact q
end
def Rd(H:Hp)(a:Addr)(u:HO):Prop:=H a=some u\/∃o,H a=some (.frz o u)
theorem Rd.ok(r:Rd H a u)(x:HOk P w H h):ObjOk P w H h a u:=by
 rcases r with r|⟨o,r⟩
 ·exact x a u r
 ·obtain⟨_,q⟩:=x a _ r;exact q
def qF:Option HO->Prop
 |some (.lst _)=>True|some (.dK _)=>True|some (.dT _)=>True|some (.set _ _)=>True|some (.ins _ _ _)=>True|some (.ext _)=>True|_=>False
theorem HOk.write(ok:HOk P w H h)(mu:qF (H x))(he:e=x\/H e=some (.own x))(k:∀b u,b≠e->h.get? b=some u->h'.get? b=some u)(heo:∃u,h'.get? e=some u)(new:ObjOk P w (Ji H x o') h' x o'):HOk P w (Ji H x o') h':=λb u q=>by
 have nown:∀c y,H c=some (.own y)->c≠x:=λc y r z=>by subst z;rw[r]at mu;exact mu
 have ntup:∀c xs,H c=some (.tup xs)->c≠x:=λc xs r z=>by subst z;rw[r]at mu;exact mu
 by_cases hb:b=x
 ·subst hb;rw[Q6]at q;cases q;exact new
 ·rw[Q9 hb]at q;by_cases hbe:b=e
  ·have q':H b=some (.own x):=by
    rcases he with z|z
    ·exact absurd (hbe.trans z) hb
    ·rw[hbe];exact z
   rw[q]at q';cases q';obtain⟨v,hv⟩:=heo;exact⟨v,by rw[hbe];exact hv⟩
  ·refine(ok b u q).stay (λc v hc r=>k c v ?_ r) (λc r=>by rw[Q9 (nown c b r)];exact r) λc xs r=>by rw[Q9 (ntup c xs r)];exact r
   rcases hc with rfl|hc
   ·exact hbe
   ·rintro rfl;rcases he with z|z
    ·exact nown c b hc z
    ·rw[hc]at z;cases z;exact hb rfl
structure Un(fs ex:List Addr)(H H':Hp)(h h':Heap):Prop where
 keep:∀b o,h.get? b=some o->H b=none->b∉fs->b∉ex->h'.get? b=some o
 slot:∀b o,h.get? b=some o->H b=none->b∈fs->b∉ex->∃sl,h'.get? b=some {o with slots:=sl}
 free:∀b o,h.get? b=some o->H b=none->b∉ex->H' b=none
 there:∀b o,h.get? b=some o->b∉ex->∃o',h'.get? b=some o'
 tups:∀b xs,H b=some (.tup xs)->H' b=some (.tup xs)
 frzs:∀b o u,H b=some (.frz o u)->H' b=some (.frz o u)
 tbls:∀b ps,H b=some (.tbl ps)->∃more,H' b=some (.tbl (ps++more))
section
variable{fs fs' ex ex':List Addr}{H H1 H2:Hp}{h h1 h2 h':Heap}{a x e:Addr}{o:HO}
theorem Un.any(u:Un fs ex H H1 h h1)(q:h.get? b=some ob)(n:H b=none)(hx:b∉ex):∃sl,h1.get? b=some {ob with slots:=sl}:=by
 by_cases hb:b∈fs
 ·exact u.slot b ob q n hb hx
 ·exact⟨ob.slots,u.keep b ob q n hb hx⟩
theorem Un.kept(k:∀b u,h.get? b=some u->h'.get? b=some u):Un fs ex H H h h':=⟨λb ob q _ _ _=>k b ob q,λb ob q _ _ _=>⟨ob.slots,k b ob q⟩,λ_ _ _ n _=>n,λb ob q _=>⟨ob,k b ob q⟩,λ_ _ q=>q,λ_ _ _ q=>q,λ_ ps q=>⟨#[],by rw[q];simp⟩⟩
theorem Un.refl:Un fs ex H H h h:=Un.kept λ_ _ q=>q
theorem Un.laid(k:∀b u,h.get? b=some u->h'.get? b=some u)(hp:h.objs.size<=a)(hn:H a=none):Un fs ex H (Ji H a o) h h' where
 keep:=λb u q _ _ _=>k b u q
 slot:=λb u q _ _ _=>⟨u.slots,k b u q⟩
 free:=λb u q n _=>by rw[Q9 (UY (UL (Uz q) hp))];exact n
 there:=λb u q _=>⟨u,k b u q⟩
 tups:=λb xs q=>by rw[Q9 (Z8 q hn)];exact q
 frzs:=λb u xs q=>by rw[Q9 (Z8 q hn)];exact q
 tbls:=λb ps q=>⟨#[],by rw[Q9 (Z8 q hn),q];simp⟩
theorem Un.write(mu:qF (H x))(he:e=x\/H e=some (.own x))(k:∀b u,b≠e->h.get? b=some u->h'.get? b=some u)(heo:∃u,h'.get? e=some u):Un fs ex H (Ji H x o) h h':=by
 have hx:∀b,H b=none->b≠x:=λb n z=>by subst z;rw[n]at mu;exact mu
 have hb:∀b,H b=none->b≠e:=λb n z=>by
  subst z;rcases he with r|r
  ·exact hx b n r
  ·rw[n]at r;cases r
 have hm:∀b u,H b=some u->¬qF (some u)->b≠x:=λb u q nm z=>by subst z;rw[q]at mu;exact nm mu
 refine⟨λb u q n _ _=>k b u (hb b n) q,λb u q n _ _=>⟨u.slots,k b u (hb b n) q⟩,λb u q n _=>by rw[Q9 (hx b n)];exact n,λb u q _=>?_,λb xs q=>by rw[Q9 (hm b _ q λz=>z)];exact q,λb u xs q=>by rw[Q9 (hm b _ q λz=>z)];exact q,λb ps q=>⟨#[],by rw[Q9 (hm b _ q λz=>z),q];simp⟩⟩
 by_cases hbe:b=e
 ·subst hbe;exact heo
 ·exact⟨u,k b u hbe q⟩
end
def qG(h:Heap)(H:Hp):List Addr:=(List.range h.objs.size).filter λa=>(H a).isSome
def Lm(h:Heap)(H:Hp):Heap:=hideAll h (qG h H)
theorem Sy(h:Heap)(H:Hp):(Lm h H).objs.size=h.objs.size:=hideAll_size _ _
theorem A5(e:h.get? b=some o)(n:H b=none):(Lm h H).get? b=some o:=
 hideAll_get _ e λhm=>by have q:(H b).isSome=true:=(RU.mp hm).2;rw[n]at q;simp at q
theorem cV(e:(Lm h H).get? b=some o):h.get? b=some o/\H b=none:=by
 have e':h.get? b=some o:=of_hideAll (qG h H) e;refine⟨e',?_⟩;cases q:H b with
 |none=>rfl|some x =>have hm:b∈qG h H:=RU.mpr ⟨UU.mpr (Uz e'),by simp[q]⟩;have z:(Lm h H).get? b=none:=hideAll_none (qG h H) hm;rw[z]at e;cases e
def cW(g h:Heap)(L:Addr):List (Addr×Obj):=(List.range h.objs.size).filterMap λa=>if a=L\/(g.get? a).isSome=true then none else (h.get? a).map λo=>(a,o)
def rest(g h:Heap)(L d:Addr):List (Addr×Obj):=(cW g h L).filter λp=>decide (p.1≠d)
structure Mod(K:Frag)(mg:KB)(base:Heap):Prop where
 kin:K.In base
 glob:base.Ns mainGlobals mg
 blt:∃mb,base.Ns builtinsNs mb/\∀x:Str,x ≠"__name__"->mb x=bootBuiltins x
 nolimit:base.NoLimit
/-- the context: a def's body (or a comprehension's block) running. base: fixed through the whole law;s₀,H₀: the entry;outer: the frames whose slots others may change (a def's callers);stack: all frames that run;
   ex: iterators that were made ahead of the entry and are walked here (a comprehension's);fn: the names whose cells were made at the entry (a def: all;a comprehension's block: its own);calm: not within an except suite;pn: pins that every state bears;xe: what is wanted of an exception that leaves the code -/
structure Cx where
 prog:Program
 w:World
 K:Frag
 mg:Str->Option Value
 base:Heap
 A:Around
 N:List Str
 s₀:Shared
 H₀:Hp
 env:Env
 outer:List Env
 stack:List Env
 ex:List Addr
 fn:Str->Bool
 calm:Bool
 pn:List (Addr×Obj)
 xe:Value->Shared->Prop
def Pg(l:List Env):List Addr:=l.filterMap (·.frame)
abbrev Cx.fs(X:Cx):List Addr:=Pg X.outer
def qH(sc:Scope)(x:Str):Prop:=sc.names.lookup x=some .local\/sc.names.lookup x=some .cell\/sc.names.lookup x=some .free
def Loc(sc:Scope)(x:Str):Prop:=sc.names.lookup x=some .local\/sc.names.lookup x=some .cell
def rP(env:Env)(h:Heap)(m:KB)(x:Str)(u:Value):Prop:=(env.kindOf x=some .local/\m x=some u)\/((env.kindOf x=some .cell\/env.kindOf x=some .free)/\∃c,env.cells.lookup x=some c/\h.IsCell c (some u))
structure Cx.Ok(X:Cx):Prop where
 mod:Mod X.K X.mg X.base
 kind:X.env.scope.kind=.function
 glob:X.env.globals=mainGlobals
 blt:X.env.builtins=builtinsNs
 above:X.s₀.heap.objs.size<=X.env.locals
 inj:∀x y c,X.env.cells.lookup x=some c->X.env.cells.lookup y=some c->x=y
 has:∀x,(X.env.kindOf x=some .cell\/X.env.kindOf x=some .free)->∃c,X.env.cells.lookup x=some c
 cab:∀x c,X.fn x=true->X.env.cells.lookup x=some c->X.s₀.heap.objs.size<=c
 hd:X.calm=true->X.A.handled=none
 frames:X.A.frames=some X.stack
 stk:X.stack=X.outer\/(X.stack=X.env::X.outer/\X.env.frame=some X.env.locals)
 exf:∀b∈X.ex,b≠X.env.locals/\∀x c,X.env.cells.lookup x=some c->c≠b
 bs:∀b o,X.base.get? b=some o->X.s₀.heap.get? b=some o/\X.H₀ b=none
 bsz:X.base.objs.size<=X.s₀.heap.objs.size
 noex:∀b o,X.base.get? b=some o->b∉X.ex
 exfs:∀b∈X.ex,b∉X.fs
 funs:X.s₀.heap.FunFrames X.base X.outer
 frf:∀b∈X.fs,X.H₀ b=none
structure Inv(X:Cx)(pins:Xw)(σ:List (Option V))(H:Hp)(s:Shared):Prop where
 ok:X.Ok
 os:s.os=X.s₀.os
 bare:AllBare s.gens
 base:Un X.fs X.ex X.H₀ H X.s₀.heap s.heap
 loc:∃m,s.heap.Ns X.env.locals m/\∀(i:Nat)(x:Str)(v:V),X.N[i]?=some x->σ[i]?=some (some v)->qH X.env.scope x->∃u,RelV v u/\rP X.env s.heap m x u
 cell:∀x c,X.env.cells.lookup x=some c->∃v,s.heap.IsCell c v
 free:H X.env.locals=none
 freeC:∀x c,X.env.cells.lookup x=some c->H c=none
 pin:∀p∈X.pn++pins,s.heap.get? p.1=some p.2/\H p.1=none/\p.1≠X.env.locals/\p.1∉X.fs/\∀v,p.2.data≠.cell v
 hok:HOk X.prog X.w H s.heap
 len:σ.length=X.N.length
section
variable{X:Cx}{pins:Xw}{σ:List (Option V)}{H H':Hp}{s:Shared}{h':Heap}
theorem Cx.Ok.nofr(ok:X.Ok){b:Addr}{o:Obj}(e:X.base.get? b=some o):b∉X.fs:=λhb=>by have:=(ok.funs.mem hb).1;rw[e]at this;cases this
theorem Inv.bs(I:Inv X pins σ H s):∀b o,X.base.get? b=some o->s.heap.get? b=some o/\H b=none:=λb o e=>
 ⟨I.base.keep b o (I.ok.bs b o e).1 (I.ok.bs b o e).2 (I.ok.nofr e) (I.ok.noex b o e),I.base.free b o (I.ok.bs b o e).1 (I.ok.bs b o e).2 (I.ok.noex b o e)⟩
theorem Inv.bk(I:Inv X pins σ H s):∀b o,X.base.get? b=some o->s.heap.get? b=some o:=λb o e=>(I.bs b o e).1
theorem Inv.mod(I:Inv X pins σ H s):Mod X.K X.mg X.base:=I.ok.mod
theorem Inv.kIn(I:Inv X pins σ H s):X.K.In s.heap:=I.ok.mod.kin.keeps I.bk
theorem Inv.lt(I:Inv X pins σ H s):X.env.locals<s.heap.objs.size:=let ⟨_,hn,_⟩:=I.loc;hn.lt
theorem Inv.sz(I:Inv X pins σ H s):X.s₀.heap.objs.size<=s.heap.objs.size:=Up I.ok.above (UP I.lt)
theorem Inv.nofs(I:Inv X pins σ H s)(h:s.heap.objs.size<=a):a∉X.fs:=λhb=>by obtain⟨_,o,ho,_⟩:=I.ok.funs.mem hb;exact absurd (UL (Uz ho) (Up I.sz h)) (To _)
theorem Inv.cne(I:Inv X pins σ H s):∀x c,X.env.cells.lookup x=some c->c≠X.env.locals:=λx c e z=>by obtain⟨v,o,ho,hd⟩:=I.cell x c e;obtain⟨m,⟨o',es,ep,ho',hd',_⟩,_⟩:=I.loc;rw[z,ho']at ho;cases ho;rw[hd']at hd;cases hd
theorem Inv.funs(I:Inv X pins σ H s):s.heap.FunFrames X.base X.outer:=by
 have all:∀(l:List Env),(∀b∈Pg l,b∈X.fs)->X.s₀.heap.FunFrames X.base l->s.heap.FunFrames X.base l:=by
  intro l;induction l with
  |nil=>intro _ _;trivial|cons env r ih =>intro hs hl;obtain⟨hk,⟨L,o,hf,hn,ho,hd⟩,hr⟩:=hl;have hL:L∈X.fs:=hs L (by unfold Pg;rw[Tv,hf];exact UC);obtain⟨sl,e⟩:=I.base.slot L o ho (I.ok.frf L hL) hL λz=>I.ok.exfs L z hL;exact⟨hk,⟨L,_,hf,hn,e,hd⟩,ih (λb hb=>hs b (by unfold Pg;rw[Tv,hf];exact Uw _ hb)) hr⟩
 exact all X.outer (λ_ hb=>hb) I.ok.funs
theorem Inv.stack(I:Inv X pins σ H s):s.heap.FunFrames X.base X.stack:=by
 rcases I.ok.stk with e|⟨e,hf⟩
 ·rw[e];exact I.funs
 ·rw[e];obtain⟨m,hn,_⟩:=I.loc;refine .cons (by rw[I.ok.kind];decide) hf hn ?_ I.funs;exact Heap.get?_none_of_le (Up I.ok.bsz I.ok.above)
theorem Inv.stkSub(I:Inv X pins σ H s):∀b∈Pg X.stack,b∈X.env.locals::X.fs:=λb hb=>by
 rcases I.ok.stk with e|⟨e,hf⟩
 ·rw[e]at hb;exact Uw _ hb
 ·rw[e]at hb;unfold Pg at hb;rw[Tv,hf]at hb;exact hb
theorem Inv.stkFree(I:Inv X pins σ H s):∀b∈Pg X.stack,H b=none:=λb hb=>by
 rcases Ud.mp (I.stkSub b hb) with e|hb
 ·rw[e];exact I.free
 ·obtain⟨_,o,ho,_⟩:=I.ok.funs.mem hb;exact I.base.free b o ho (I.ok.frf b hb) λz=>I.ok.exfs b z hb
theorem Inv.step{g':Array GenState}{t':Nat}{d':Drawn}{ch:List Addr}(I:Inv X pins σ H s)(hch:∀b∈ch,(b∈X.ex\/X.s₀.heap.objs.size<=b)/\b≠X.env.locals/\(∀x c,X.env.cells.lookup x=some c->c≠b)/\∀p∈X.pn++pins,p.1≠b)(keep:∀b o,b≠X.env.locals->b∉X.fs->b∉ch->s.heap.get? b=some o->H b=none->h'.get? b=some o)(slot:∀b o,b≠X.env.locals->b∈X.fs->b∉ch->s.heap.get? b=some o->H b=none->∃sl,h'.get? b=some {o with slots:=sl})(free:∀b o,b∉ch->s.heap.get? b=some o->H b=none->H' b=none)(there:∀b o,b∉ch->s.heap.get? b=some o->∃o',h'.get? b=some o')(tups:∀b xs,H b=some (.tup xs)->H' b=some (.tup xs))(frzs:∀b o u,H b=some (.frz o u)->H' b=some (.frz o u))(tbls:∀b ps,H b=some (.tbl ps)->∃more,H' b=some (.tbl (ps++more)))(ns:∀m,s.heap.Ns X.env.locals m->h'.Ns X.env.locals m)(hok:HOk X.prog X.w H' h')(hg:AllBare g'):
  Inv X pins σ H' {s with heap:=h',gens:=g',drawn:=d',toks:=t'}:=by
 have neL:∀b o,X.s₀.heap.get? b=some o->b≠X.env.locals:=λb o e=>UY (UL (Uz e) I.ok.above);have neC:∀b o,X.s₀.heap.get? b=some o->b∉X.ex->b∉ch:=λb o e hx hb=>by
  rcases(hch b hb).1 with z|z
  ·exact hx z
  ·exact absurd (UL (Uz e) z) (To _)
 have cellK:∀x c,X.env.cells.lookup x=some c->∀v,s.heap.IsCell c v->h'.IsCell c v:=λx c e v ⟨o,ho,hd⟩=>by
  have nch:c∉ch:=λz=>(hch c z).2.2.1 x c e rfl;by_cases hc:c∈X.fs
  ·obtain⟨sl,q⟩:=slot c o (I.cne x c e) hc nch ho (I.freeC x c e);exact⟨_,q,hd⟩
  ·exact⟨o,keep c o (I.cne x c e) hc nch ho (I.freeC x c e),hd⟩
 refine⟨I.ok,I.os,hg,⟨λb o e n hb hx=>?_,λb o e n hb hx=>?_,λb o e n hx=>?_,λb o e hx=>?_,λb xs e=>tups b xs (I.base.tups b xs e),λb o xs e=>frzs b o xs (I.base.frzs b o xs e),λb ps e=>?_⟩,?_,λx c e=>?_,?_,λx c e=>?_,λp hp=>?_,hok,I.len⟩
 ·exact keep b o (neL b o e) hb (neC b o e hx) (I.base.keep b o e n hb hx) (I.base.free b o e n hx)
 ·obtain⟨sl,e1⟩:=I.base.slot b o e n hb hx;obtain⟨sl',e2⟩:=slot b _ (neL b o e) hb (neC b o e hx) e1 (I.base.free b o e n hx);exact⟨sl',e2⟩
 ·obtain⟨o',e1⟩:=I.base.there b o e hx;exact free b o' (neC b o e hx) e1 (I.base.free b o e n hx)
 ·obtain⟨o',e1⟩:=I.base.there b o e hx;exact there b o' (neC b o e hx) e1
 ·obtain⟨m1,e1⟩:=I.base.tbls b ps e;obtain⟨m2,e2⟩:=tbls b _ e1;exact⟨m1++m2,by rw[e2,Array.append_assoc]⟩
 ·obtain⟨m,hn,hl⟩:=I.loc;refine⟨m,ns m hn,λi x v e1 e2 e3=>?_⟩;obtain⟨u,r,l⟩:=hl i x v e1 e2 e3;refine⟨u,r,?_⟩;rcases l with l|⟨k,c,e,z⟩
  ·exact .inl l
  ·exact .inr ⟨k,c,e,cellK x c e _ z⟩
 ·obtain⟨v,z⟩:=I.cell x c e;exact⟨v,cellK x c e v z⟩
 ·obtain⟨m,⟨o,_,_,ho,_⟩,_⟩:=I.loc;exact free _ o (λz=>(hch _ z).2.1 rfl) ho I.free
 ·obtain⟨v,o,ho,hd⟩:=I.cell x c e;exact free c o (λz=>(hch c z).2.2.1 x c e rfl) ho (I.freeC x c e)
 ·obtain⟨e,n,ne,nf,d⟩:=I.pin p hp;have nch:p.1∉ch:=λz=>(hch p.1 z).2.2.2 p hp rfl;exact⟨keep p.1 p.2 ne nf nch e n,free p.1 p.2 nch e n,ne,nf,d⟩
theorem Inv.un(I:Inv X pins σ H s)(u:Un X.fs [] H H' s.heap h')(hok:HOk X.prog X.w H' h'):Inv X pins σ H' {s with heap:=h',toks:=t'}:=by obtain⟨m,⟨o,es,ep,ho,r⟩,_⟩:=id I.loc;obtain⟨sl,hL⟩:=u.any ho I.free (by simp);exact I.step (g':=s.gens) (d':=s.drawn) (ch:=[]) (λ_ z=>nomatch z) (λb o _ hb _ e n=>u.keep b o e n hb (by simp)) (λb o _ hb _ e n=>u.slot b o e n hb (by simp)) (λb o _ e n=>u.free b o e n (by simp)) (λb o _ e=>u.there b o e (by simp)) u.tups u.frzs u.tbls (λm' hm=>by obtain⟨o',es',ep',ho',r'⟩:=hm;rw[ho]at ho';cases ho';exact⟨_,es',ep',hL,r'⟩) hok I.bare
theorem Inv.call{g':Array GenState}{t':Nat}{d':Drawn}{ch:List Addr}(I:Inv X pins σ H s)(u:Un (Pg X.stack) ch H H' s.heap h')(hok:HOk X.prog X.w H' h')(hg:AllBare g')(hch:∀b∈ch,(b∈X.ex\/X.s₀.heap.objs.size<=b)/\b≠X.env.locals/\(∀x c,X.env.cells.lookup x=some c->c≠b)/\∀p∈X.pn++pins,p.1≠b):
  Inv X pins σ H' {s with heap:=h',gens:=g',drawn:=d',toks:=t'}:=by
 obtain⟨m,⟨o,es,ep,ho,r⟩,_⟩:=id I.loc;obtain⟨sl,hL⟩:=u.any ho I.free λz=>(hch _ z).2.1 rfl;exact I.step (ch:=ch) hch (λb o hL hb hc e n=>u.keep b o e n (λz=>(Ud.mp (I.stkSub b z)).elim hL hb) hc) (λb o _ _ hc e n=>u.any e n hc) (λb o hc e n=>u.free b o e n hc) (λb o hc e=>u.there b o e hc) u.tups u.frzs u.tbls (λm' hm=>by obtain⟨o',es',ep',ho',r'⟩:=hm;rw[ho]at ho';cases ho';exact⟨_,es',ep',hL,r'⟩) hok hg
theorem Inv.turned{t':Nat}{it:Addr}(I:Inv X pins σ H s)(k:∀b o,b≠it->s.heap.get? b=some o->h'.get? b=some o)(hn:H it=none)(hL:it≠X.env.locals)(h1:it∈X.ex\/X.s₀.heap.objs.size<=it)(h2:∀x c,X.env.cells.lookup x=some c->c≠it)(h3:∀p∈X.pn++pins,p.1≠it):Inv X pins σ H {s with heap:=h',toks:=t'}:=by
 have nit:∀b u,H b=some u->b≠it:=λb u e z=>by rw[z,hn]at e;cases e
 refine I.step (g':=s.gens) (d':=s.drawn) (ch:=[it]) (λb hb=>?_) (λb o _ _ hc e _=>k b o (λz=>hc (by simp[z])) e) (λb o _ _ hc e _=>⟨o.slots,k b o (λz=>hc (by simp[z])) e⟩) (λ_ _ _ _ n=>n)
  (λb o hc e=>⟨o,k b o (λz=>hc (by simp[z])) e⟩) (λ_ _ e=>e) (λ_ _ _ e=>e) (λb ps e=>⟨#[],by rw[e];simp⟩) (λm hm=>?_) (λb u e=>?_) I.bare
 ·have e:b=it:=by simpa using hb
  subst e;exact⟨h1,hL,h2,h3⟩
 ·obtain⟨o,es,ep,ho,r⟩:=hm;exact⟨o,es,ep,k _ o (Ne.symm hL) ho,r⟩
 ·refine(I.hok b u e).stay (λc v hc q=>k c v ?_ q) (λ_ q=>q) λ_ _ q=>q;rcases hc with z|z
  ·rw[z];exact nit b u e
  ·exact nit c _ z
theorem Inv.tok(I:Inv X pins σ H s)(t:Nat):Inv X pins σ H {s with toks:=t}:=I.un (h':=s.heap) (t':=t) Un.refl I.hok
theorem Inv.kept(I:Inv X pins σ H s)(k:∀b u,s.heap.get? b=some u->h'.get? b=some u):Inv X pins σ H {s with heap:=h',toks:=t'}:=I.un (Un.kept k) (I.hok.kept k)
theorem Inv.laid(I:Inv X pins σ H s)(k:∀b u,s.heap.get? b=some u->h'.get? b=some u)(hp:s.heap.objs.size<=a)(new:ObjOk X.prog X.w (Ji H a o) h' a o):
  Inv X pins σ (Ji H a o) {s with heap:=h',toks:=t'}:=I.un (Un.laid k hp (I.hok.fresh hp)) (I.hok.laid k hp new)
theorem Inv.write{x e:Addr}{o:HO}{t':Nat}(I:Inv X pins σ H s)(mu:qF (H x))(he:e=x\/H e=some (.own x))(k:∀b u,b≠e->s.heap.get? b=some u->h'.get? b=some u)(heo:∃u,h'.get? e=some u)(new:ObjOk X.prog X.w (Ji H x o) h' x o):Inv X pins σ (Ji H x o) {s with heap:=h',toks:=t'}:=I.un (Un.write mu he k heo) (I.hok.write mu he k heo new)
theorem Inv.pins_of(I:Inv X pins σ H s)(h:∀p∈pins',s.heap.get? p.1=some p.2/\H p.1=none/\p.1≠X.env.locals/\p.1∉X.fs/\∀v,p.2.data≠.cell v):Inv X pins' σ H s:=⟨I.ok,I.os,I.bare,I.base,I.loc,I.cell,I.free,I.freeC,λp hp=>(UG.mp hp).elim (λz=>I.pin p (Ts _ z)) (h p),I.hok,I.len⟩
theorem Mw{N:List Str}(hN:N.Nodup){i j:Nat}{x:Str}(a:N[i]?=some x)(b:N[j]?=some x):i=j:=by obtain⟨h1,e1⟩:=Ui.mp a;obtain⟨h2,e2⟩:=Ui.mp b;exact(WC hN).mp (e1.trans e2.symm)
theorem Sz{M:Model}{A:Around}{E:VP}{i:Nat}{x:Str}{v:V}{u:Value}{Q:Unit->Shared->Prop}(I:Inv X pins σ H s)(hN:X.N.Nodup)(hi:X.N[i]?=some x)(hx:Loc X.env.scope x)(r:RelV v u)(h:∀s',Inv X pins (σ.set i (some v)) H s'->(∃a,Heap.SameBut a s.heap s'.heap/\(a=X.env.locals\/X.env.cells.lookup x=some a))->Q () s')(hf:X.fn x=true\/X.env.scope.names.lookup x=some .local:=by first|exact .inl rfl|exact .inr rfl|assumption):wpAny M A (storeName X.env x u) Q E s:=by
 obtain⟨m,hn,hl⟩:=id I.loc;have hcls:(X.env.scope.kind==.class||(X.env.scope.kind==.module&&X.env.locals != X.env.globals))=false:=by rw[I.ok.kind];rfl
 have hiσ:i<σ.length:=by rw[I.len];exact(Ui.mp hi).1
 have cne:=I.cne;have tracked:∀{a:Addr}{h':Heap},(∃o,s.heap.get? a=some o/\H a=none)->Heap.SameBut a s.heap h'->HOk X.prog X.w H h':=λ{a h'} ha hs b ob e=>by
  obtain⟨_,_,hfree⟩:=ha;refine(I.hok b ob e).stay (λc w' hc q=>(hs.2 c ?_).trans q) (λ_ q=>q) λ_ _ q=>q;rintro rfl;rcases hc with rfl|hc
  ·rw[hfree]at e;cases e
  ·rw[hfree]at hc;cases hc
 rcases hx with hk|hk
 ·refine wpAny_storeName_local hk hn (λh' hn' hs=>?_) hcls;obtain⟨oL,_,_,hoL,_⟩:=id hn;refine h _ ⟨I.ok,I.os,I.bare,⟨λb o e n hb hx=>?_,λb o e n hb hx=>?_,I.base.free,λb o e hx=>?_,I.base.tups,I.base.frzs,I.base.tbls⟩,⟨_,hn',λj y v' e1 e2 e3=>?_⟩,λy c e=>?_,I.free,I.freeC,λp hp=>?_,tracked ⟨oL,hoL,I.free⟩ hs,by simpa using I.len⟩ ⟨_,hs,.inl rfl⟩
  ·exact(hs.2 b (UY (UL (Uz e) I.ok.above))).trans (I.base.keep b o e n hb hx)
  ·obtain⟨sl,e1⟩:=I.base.slot b o e n hb hx;exact⟨sl,(hs.2 b (UY (UL (Uz e) I.ok.above))).trans e1⟩
  ·obtain⟨o',e1⟩:=I.base.there b o e hx;exact⟨o',(hs.2 b (UY (UL (Uz e) I.ok.above))).trans e1⟩
  ·by_cases hj:j=i
   ·subst hj;rw[hi]at e1;cases e1;rw[Td hiσ]at e2;cases e2;exact⟨u,r,.inl ⟨hk,by simp⟩⟩
   ·rw[Ul (Ne.symm hj)]at e2;obtain⟨u',r',q⟩:=hl j y v' e1 e2 e3;refine⟨u',r',?_⟩;rcases q with⟨k,e⟩|⟨k,c,e,z⟩
    ·refine .inl ⟨k,?_⟩;have:y≠x:=λe=>hj (Mw hN e1 (e ▸ hi));simp[this,e]
    ·exact .inr ⟨k,c,e,z.sameBut hs (cne y c e)⟩
  ·obtain⟨w',z⟩:=I.cell y c e;exact⟨w',z.sameBut hs (cne y c e)⟩
  ·obtain⟨e,n,ne,nf,d⟩:=I.pin p hp;exact⟨(hs.2 p.1 ne).trans e,n,ne,nf,d⟩
 ·have hfn:X.fn x=true:=by
   rcases hf with z|z
   ·exact z
   ·rw[z]at hk;cases hk
  obtain⟨c,hc⟩:=I.ok.has x (.inl hk);obtain⟨w',z⟩:=I.cell x c hc;refine wpAny_storeName_cell I.ok.kind hk hc z (λh' hc' hs=>?_);obtain⟨oc,hoc,hocd⟩:=id z;refine h {s with heap:=h'} ⟨I.ok,I.os,I.bare,⟨λb o e n hb hx=>?_,λb o e n hb hx=>?_,I.base.free,λb o e hx=>?_,I.base.tups,I.base.frzs,I.base.tbls⟩,⟨m,hn.sameBut hs (Ne.symm (cne x c hc)),λj y v' e1 e2 e3=>?_⟩,λy c' e=>?_,I.free,I.freeC,λp hp=>?_,tracked ⟨oc,hoc,I.freeC x c hc⟩ hs,by simpa using I.len⟩ ⟨c,hs,.inr hc⟩
  ·exact(hs.2 b (UY (UL (Uz e) (I.ok.cab x c hfn hc)))).trans (I.base.keep b o e n hb hx)
  ·obtain⟨sl,e1⟩:=I.base.slot b o e n hb hx;exact⟨sl,(hs.2 b (UY (UL (Uz e) (I.ok.cab x c hfn hc)))).trans e1⟩
  ·obtain⟨o',e1⟩:=I.base.there b o e hx;exact⟨o',(hs.2 b (UY (UL (Uz e) (I.ok.cab x c hfn hc)))).trans e1⟩
  ·by_cases hj:j=i
   ·subst hj;rw[hi]at e1;cases e1;rw[Td hiσ]at e2;cases e2;exact⟨u,r,.inr ⟨.inl hk,c,hc,hc'⟩⟩
   ·rw[Ul (Ne.symm hj)]at e2;obtain⟨u',r',q⟩:=hl j y v' e1 e2 e3;refine⟨u',r',?_⟩;rcases q with q|⟨k,c',e,z'⟩
    ·exact .inl q
    ·refine .inr ⟨k,c',e,z'.sameBut hs ?_⟩;rintro rfl;exact hj (Mw hN e1 (I.ok.inj _ _ _ e hc ▸ hi))
  ·by_cases hcc:c'=c
   ·subst hcc;exact⟨_,hc'⟩
   ·obtain⟨w2,z2⟩:=I.cell y c' e;exact⟨w2,z2.sameBut hs hcc⟩
  ·obtain⟨e,n,ne,nf,d⟩:=I.pin p hp;refine⟨(hs.2 p.1 ?_).trans e,n,ne,nf,d⟩;intro q;rw[q,hoc]at e;have q':oc=p.2:=Option.some.inj e;exact d w' (by rw[<-q'];exact hocd)
theorem GJ{M:Model}{A:Around}{E:VP}{i:Nat}{x:Str}{v:V}{u:Value}{Q:Unit->Shared->Prop}(I:Inv X pins σ H s)(hN:X.N.Nodup)(hi:X.N[i]?=some x)(hx:Loc X.env.scope x)(r:RelV v u)(h:∀s',Inv X pins (σ.set i (some v)) H s'->Q () s')(hf:X.fn x=true\/X.env.scope.names.lookup x=some .local:=by first|exact .inl rfl|exact .inr rfl|assumption):wpAny M A (storeName X.env x u) Q E s:=Sz I hN hi hx r (λs' I' _=>h s' I') hf
theorem Inv.call'{s':Shared}{ch:List Addr}(I:Inv X pins σ H s)(ho:s'.os=s.os)(u:Un (Pg X.stack) ch H H' s.heap s'.heap)(hok:HOk X.prog X.w H' s'.heap)(hg:AllBare s'.gens)(hch:∀b∈ch,(b∈X.ex\/X.s₀.heap.objs.size<=b)/\b≠X.env.locals/\(∀x c,X.env.cells.lookup x=some c->c≠b)/\∀p∈X.pn++pins,p.1≠b):Inv X pins σ H' s':=by obtain⟨h',g',d',t',o'⟩:=s';have e:o'=s.os:=ho;subst e;exact I.call (g':=g') (t':=t') (d':=d') u hok hg hch
end
abbrev XK:=Value->Option Addr->Hp->Prop
abbrev St:=List (Option V)
abbrev VK:=V->Hp->Prop
abbrev TE:=St->Hp->VK->Prop
abbrev TT:=St->Hp->(Bool->Hp->Prop)->Prop
abbrev TA:=St->Hp->(List V->Hp->Prop)->Prop
structure Ends where
 nx:St->Hp->Prop
 rt:VK
 bk:St->Hp->Prop:=λ_ _=>False
 ct:St->Hp->Prop:=λ_ _=>False
abbrev TS:=Ends->St->Hp->Prop
def EP(X:Cx)(pins:Xw)(σ:St)(Q:VK)(u:Value)(s':Shared):Prop:=∃v H',Inv X pins σ H' s'/\RelV v u/\Q v H'
def TP(X:Cx)(pins:Xw)(σ:St)(Q:Bool->Hp->Prop)(b:Bool)(s':Shared):Prop:=∃H',Inv X pins σ H' s'/\Q b H'
def AP(X:Cx)(pins:Xw)(σ:St)(Q:List V->Hp->Prop)(us:List Value)(s':Shared):Prop:=∃vs H',Inv X pins σ H' s'/\Vals vs us/\Q vs H'
def SP(X:Cx)(pins:Xw)(D:Ends)(f:Flow)(s':Shared):Prop:=
 match f with
 |.next=>∃σ' H',Inv X pins σ' H' s'/\D.nx σ' H'|.brk=>∃σ' H',Inv X pins σ' H' s'/\D.bk σ' H'|.cont=>∃σ' H',Inv X pins σ' H' s'/\D.ct σ' H'|.ret u=>∃v σ' H',Inv X pins σ' H' s'/\RelV v u/\D.rt v H'
def PE(X:Cx)(e:Expr)(t:TE):Prop:=∀(pins:Xw)(s:Shared)(σ:St)(H:Hp)(Q:VK),Inv X pins σ H s->t σ H Q->wpAny (model X.prog X.w) X.A (eval e X.env) (EP X pins σ Q) X.xe s
def PT(X:Cx)(e:Expr)(t:TT):Prop:=∀(pins:Xw)(s:Shared)(σ:St)(H:Hp)(Q:Bool->Hp->Prop),Inv X pins σ H s->t σ H Q->wpAny (model X.prog X.w) X.A (isTrue e X.env (eval e X.env)) (TP X pins σ Q) X.xe s
def PW(X:Cx)(e:Expr)(t:TT):Prop:=∀(whole:Sem Value)(pins:Xw)(s:Shared)(σ:St)(H:Hp)(Q:Bool->Hp->Prop),Inv X pins σ H s->t σ H Q->wpAny (model X.prog X.w) X.A (isTrue e X.env whole) (TP X pins σ Q) X.xe s
theorem PW.pt(h:PW X e t):PT X e t:=h _
def PA(X:Cx)(es:List Expr)(t:TA):Prop:=∀(pos:Pos)(pins:Xw)(s:Shared)(σ:St)(H:Hp)(Q:List V->Hp->Prop),Inv X pins σ H s->t σ H Q->wpAny (model X.prog X.w) X.A (spliced (backTo pos (starEach es X.env))) (AP X pins σ Q) X.xe s
def PS(X:Cx)(st:Stmt)(t:TS):Prop:=∀(pins:Xw)(s:Shared)(σ:St)(H:Hp)(D:Ends),Inv X pins σ H s->t D σ H->wpAny (model X.prog X.w) X.A (exec st X.env) (SP X pins D) X.xe s
def Ph(X:Cx)(st:List Stmt)(t:TS):Prop:=∀(pins:Xw)(s:Shared)(σ:St)(H:Hp)(D:Ends),Inv X pins σ H s->t D σ H->wpAny (model X.prog X.w) X.A (execs st X.env) (SP X pins D) X.xe s
theorem Ja(h:wpAny M A t Q E s)(hQ:∀a s,Q a s->Q' a s):wpAny M A t Q' E s:=Tl h hQ λ_ _ x=>x
section
variable{X:Cx}
def rQ(i:Nat):TE:=λσ H Q=>∃v,σ[i]?=some (some v)/\Q v H
def tC(v:V):TE:=λ_ H Q=>Q v H
theorem jD(hN:X.N[i]?=some x)(hv:qH X.env.scope x)(hd:(x==("__debug__" : Str))=false:=by decide)(hcd:(x==("__classdict__" : Str))=false:=by decide):PE X (.Name x pos) (rQ i):=by
 intro pins s σ H Q I h;obtain⟨v,e,h⟩:=h;obtain⟨m,hn,hl⟩:=I.loc;obtain⟨u,r,l⟩:=hl i x v hN e hv;have fin:EP X pins σ Q u s:=⟨v,H,I,r,h⟩;rcases l with⟨hk,hm⟩|⟨hk,c,hc,hcell⟩
 ·exact wpAny_Name (wpAny_loadName_local I.ok.kind hk hn hm fin) hd
 ·rcases hk with hk|hk
  ·exact wpAny_Name (wpAny_loadName_cell I.ok.kind hk hc hcell fin) hd
  ·exact wpAny_Name (wpAny_loadName_free I.ok.kind hk hc hcell fin hcd) hd
theorem jE:PE X (.Constant (.int i) j pos) (tC (.int i)):=λ_ _ _ H _ I h=>wpAny_Constant_int ⟨.int i,H,I.tok _,⟨_,rfl⟩,h⟩
theorem mT:PE X (.Constant (.bool b) j pos) (tC (.bl b)):=λ_ _ _ H _ I h=>Constant_bool ⟨.bl b,H,I,rfl,h⟩
theorem jF:PE X (.Constant .none j pos) (tC .non):=λ_ _ _ H _ I h=>Constant_none ⟨.non,H,I,rfl,h⟩
theorem jG:PE X (.Constant (.str x) j pos) (tC (.str x)):=λ_ _ _ H _ I h=>Calls.Constant_str ⟨.str x,H,I.tok _,⟨_,rfl⟩,h⟩
def Gl(X:Cx)(x:Str):Prop:=X.env.kindOf x=some .globalImplicit
theorem Ex{E:VP}{pins:Xw}{s:Shared}{σ:St}{H:Hp}{x:Str}{u:Value}{pos:Pos}{Q:VP}(I:Inv X pins σ H s)(hg:Gl X x)(hm:X.mg x=some u)(h:Q u s)(hd:(x==("__debug__" : Str))=false:=by decide):wpAny (model X.prog X.w) X.A (eval (.Name x pos) X.env) Q E s:=Wc I.ok.kind hg (Calls.loadGlobal_global (by rw[I.ok.glob];exact I.mod.glob.keeps I.bk) hm h) hd
theorem KC{E:VP}{pins:Xw}{s:Shared}{σ:St}{H:Hp}{x:Str}{u:Value}{pos:Pos}{Q:VP}(I:Inv X pins σ H s)(hg:Gl X x)(hm:X.mg x=none)(hv:bootBuiltins x=some u)(h:Q u s)(hn:x ≠"__name__":=by decide)(hd:(x==("__debug__" : Str))=false:=by decide):wpAny (model X.prog X.w) X.A (eval (.Name x pos) X.env) Q E s:=by obtain⟨mb,h1,h2⟩:=I.mod.blt;exact Wc I.ok.kind hg (Calls.loadGlobal_builtin (by rw[I.ok.glob];exact I.mod.glob.keeps I.bk) hm (by rw[I.ok.blt];exact h1.keeps I.bk) ((h2 x hn).trans hv) h) hd
theorem Pi(hg:Gl X x)(hm:X.mg x=some u)(r:RelV v u)(hd:(x==("__debug__" : Str))=false:=by decide):PE X (.Name x pos) (tC v):=λ_ _ _ H _ I h=>Ex I hg hm ⟨v,H,I,r,h⟩ hd
theorem Ln(hg:Gl X x)(hm:X.mg x=none)(hv:bootBuiltins x=some u)(r:RelV v u)(hn:x ≠"__name__":=by decide)(hd:(x==("__debug__" : Str))=false:=by decide):PE X (.Name x pos) (tC v):=λ_ _ _ H _ I h=>KC I hg hm hv ⟨v,H,I,r,h⟩ hn hd
variable{a b:Expr}{ta tb:TE}{pos:Pos}
def tB(t:TE):TT:=λσ H Q=>t σ H λx H1=>∃c,x=.bl c/\Q c H1
theorem jH(h:PE X e t)(he:∀whole,isTrue e X.env whole=(do let v <-whole;standAt e.pos;holding [v] (truthy v)):=by intro _;rfl):PT X e (tB t):=by intro pins s σ H Q I hw;refine isTrue_plain (Ja (h pins s σ H _ I hw) λv s1 ⟨x,H1,I1,r1,q1⟩=>?_) (he _);obtain⟨d,rfl,q⟩:=q1;cases r1;exact TN ⟨H1,I1,q⟩
variable{tA tB':TT}{rest:List Expr}
def rR(t u:TT):TT:=λσ H Q=>t σ H λc H1=>if c=true then u σ H1 Q else Q false H1
def vY(t u:TT):TT:=λσ H Q=>t σ H λc H1=>if c=true then Q true H1 else u σ H1 Q
def rV(t:TT):TT:=λσ H Q=>t σ H λc H1=>Q (!c) H1
theorem cX(ha:PT X a tA):PW X (.BoolOp .And [a] pos) tA:=by
 intro wh pins s σ H Q I h;refine isTrue_and (Ja (ha pins s σ H Q I h) λc s1 e=>?_);cases c with
 |true=>exact isTrue_and_nil e|false=>exact e
theorem jI(ha:PT X a tA):PW X (.BoolOp .Or [a] pos) tA:=by
 intro wh pins s σ H Q I h;refine isTrue_or (Ja (ha pins s σ H Q I h) λc s1 e=>?_);cases c with
 |false=>exact isTrue_or_nil e|true=>exact e
theorem jJ(ha:PT X a tA)(hb:PW X (.BoolOp .And (b::rest) pos) tB'):PW X (.BoolOp .And (a::b::rest) pos) (rR tA tB'):=by
 intro wh pins s σ H Q I h;refine isTrue_and (Ja (ha pins s σ H _ I h) λc s1 ⟨H1,I1,q1⟩=>?_);cases c with
 |true=>exact hb wh pins s1 σ H1 Q I1 q1|false=>exact⟨H1,I1,q1⟩
theorem mU(ha:PT X a tA)(hb:PW X (.BoolOp .Or (b::rest) pos) tB'):PW X (.BoolOp .Or (a::b::rest) pos) (vY tA tB'):=by
 intro wh pins s σ H Q I h;refine isTrue_or (Ja (ha pins s σ H _ I h) λc s1 ⟨H1,I1,q1⟩=>?_);cases c with
 |true=>exact⟨H1,I1,q1⟩|false=>exact hb wh pins s1 σ H1 Q I1 q1
theorem jK(ha:PT X a tA):PT X (.UnaryOp .Not a pos) (rV tA):=by intro pins s σ H Q I h;exact isTrue_not (ha pins s σ H (λc H1=>Q (!c) H1) I h)
def mV(ta tb:TE):TE:=λσ H Q=>ta σ H λx H1=>∃c,x=.bl c/\if c=true then tb σ H1 Q else Q (.bl false) H1
def mW(ta:TE):TE:=λσ H Q=>ta σ H λx H1=>∃c,x=.bl c/\Q (.bl (!c)) H1
theorem jL(h:PE X a t):PE X (.BoolOp op [a] pos) t:=λpins s σ H Q I hw=>BoolOp_one (h pins s σ H Q I hw)
theorem jM(ha:PE X a ta)(hb:PE X (.BoolOp .And (b::rest) pos) tb):PE X (.BoolOp .And (a::b::rest) pos) (mV ta tb):=by
 intro pins s σ H Q I h;refine BoolOp_and (Ja (ha pins s σ H _ I h) λv s1 ⟨x,H1,I1,r1,q1⟩=>?_);obtain⟨c,rfl,q1⟩:=q1;cases r1;refine TN ?_;cases c with
 |true=>exact hb pins s1 σ H1 Q I1 q1|false=>exact⟨.bl false,H1,I1,rfl,q1⟩
theorem jN(ha:PE X a ta):PE X (.UnaryOp .Not a pos) (mW ta):=by intro pins s σ H Q I h;refine UnaryOp_ (Ja (ha pins s σ H _ I h) λv s1 ⟨x,H1,I1,r1,q1⟩=>?_);obtain⟨c,rfl,q1⟩:=q1;cases r1;exact not_of (TN ⟨.bl (!c),H1,I1,rfl,q1⟩)
def vZ(t:TT)(ta tb:TE):TE:=λσ H Q=>t σ H λc H1=>if c=true then ta σ H1 Q else tb σ H1 Q
theorem A6(hc:PT X c tA)(ha:PE X a ta)(hb:PE X b tb):PE X (.IfExp c a b pos) (vZ tA ta tb):=by
 intro pins s σ H Q I h;refine wpAny_IfExp (Ja (hc pins s σ H _ I h) λd s1 ⟨H1,I1,q1⟩=>?_);cases d with
 |true=>exact ha pins s1 σ H1 Q I1 q1|false=>exact hb pins s1 σ H1 Q I1 q1
end
def SqL(K:Frag)(H:Hp)(a:Addr)(xs:List V):Prop:=Rd H a (.lst xs)\/∃(o:Obj)(its:Array Value)(n:Nat),K.lookup a=some o/\o.cls=.type "list"/\o.dict=none/\o.data=.seq its n/\its.size<=sizeLine/\Vals xs its.toList
def SqT(K:Frag)(H:Hp)(a:Addr)(xs:List V):Prop:=Rd H a (.tup xs)\/∃(o:Obj)(its:Array Value)(n:Nat),K.lookup a=some o/\o.cls=.type "tuple"/\o.data=.seq its n/\its.size<=sizeLine/\Vals xs its.toList
def rW:Value->Option V
 |.none=>some .non|.bool b=>some (.bl b)|.int i _=>some (.int i)|.str x _=>some (.str x)|.bytes b _=>some (.byt b)|.float b _=>some (.flt b)|.ref a=>some (.ref a)|.type n=>some (.ty n)|_=>none
theorem RelV.abs(r:RelV x u):rW u=some x:=by
 cases x with
 |non=>cases r;rfl|bl _=>cases r;rfl|int _=>obtain⟨t,rfl⟩:=r;rfl|str _=>obtain⟨t,rfl⟩:=r;rfl|byt _=>obtain⟨t,rfl⟩:=r;rfl|flt _=>obtain⟨t,rfl⟩:=r;rfl|ref _=>cases r;rfl|ty _=>cases r;rfl
theorem RelV.inj(r:RelV x u)(q:RelV y u):x=y:=Option.some.inj (r.abs.symm.trans q.abs)
theorem Vals.inj:∀{xs ys:List V}{us:List Value},Vals xs us->Vals ys us->xs=ys
 |_,_,_,.nil,.nil=>rfl|_,_,_,.cons r t,.cons r' t'=>by rw[r.inj r',Vals.inj t t']
theorem SqL.of{K:Frag}(h:H a=some (.lst xs)):SqL K H a xs:=.inl (.inl h)
theorem SqT.of{K:Frag}(h:H a=some (.tup xs)):SqT K H a xs:=.inl (.inl h)
theorem Inv.list(I:Inv X pins σ H s)(h:SqL X.K H a xs):∃its:List Value,Vals xs its/\PlainL s.heap a its.toArray/\xs.length<=sizeLine:=by
 rcases h with h|⟨o,its,n,hk,hc,hd,hs,hz,r⟩
 ·obtain⟨z,its,n,r,e⟩:=h.ok I.hok;exact⟨its,r,⟨_,n,e,rfl,rfl,rfl⟩,z⟩
 ·refine⟨its.toList,r,⟨o,n,I.kIn a o hk,hc,hd,by simpa using hs⟩,?_⟩;have e:=r.length;simp only[Tx]at e;omega
theorem Inv.tuple(I:Inv X pins σ H s)(h:SqT X.K H a xs):∃its:List Value,Vals xs its/\IsTup s.heap a its.toArray/\xs.length<=sizeLine:=by
 rcases h with h|⟨o,its,n,hk,hc,hs,hz,r⟩
 ·obtain⟨z,its,r,p⟩:=h.ok I.hok;exact⟨its,r,p,z⟩
 ·refine⟨its.toList,r,⟨o,I.kIn a o hk,hc,n,by simpa using hs⟩,?_⟩;have e:=r.length;simp only[Tx]at e;omega
theorem Inv.list_inj(I:Inv X pins σ H s)(h:SqL X.K H a xs)(h':SqL X.K H a ys):xs=ys:=by
 obtain⟨its,r,⟨o,n,e,_,_,d⟩,_⟩:=I.list h;obtain⟨its',r',⟨o',n',e',_,_,d'⟩,_⟩:=I.list h';rw[e]at e';cases e';rw[d]at d';injection d' with d1 _;have:its=its':=by simpa using Tp Array.toList d1
 subst this;exact r.inj r'
theorem Inv.tuple_inj(I:Inv X pins σ H s)(h:SqT X.K H a xs)(h':SqT X.K H a ys):xs=ys:=by
 obtain⟨its,r,⟨o,e,_,n,d⟩,_⟩:=I.tuple h;obtain⟨its',r',⟨o',e',_,n',d'⟩,_⟩:=I.tuple h';rw[e]at e';cases e';rw[d]at d';injection d' with d1 _;have:its=its':=by simpa using Tp Array.toList d1
 subst this;exact r.inj r'
abbrev Cx.wish(X:Cx)(E:VP):Cx:={X with xe:=E}
abbrev Cx.nox(X:Cx):Cx:=X.wish λ_ _=>False
theorem Cx.Ok.wish{X:Cx}(ok:X.Ok)(E:VP):(X.wish E).Ok:=⟨ok.mod,ok.kind,ok.glob,ok.blt,ok.above,ok.inj,ok.has,ok.cab,ok.hd,ok.frames,ok.stk,ok.exf,ok.bs,ok.bsz,ok.noex,ok.exfs,ok.funs,ok.frf⟩
theorem Cx.Ok.unwish{X:Cx}{E:VP}(ok:(X.wish E).Ok):X.Ok:=⟨ok.mod,ok.kind,ok.glob,ok.blt,ok.above,ok.inj,ok.has,ok.cab,ok.hd,ok.frames,ok.stk,ok.exf,ok.bs,ok.bsz,ok.noex,ok.exfs,ok.funs,ok.frf⟩
section
variable{X:Cx}{pins:Xw}{σ:St}{H:Hp}{s:Shared}{E:VP}
theorem Inv.wish(I:Inv X pins σ H s)(E:VP):Inv (X.wish E) pins σ H s:=⟨I.ok.wish E,I.os,I.bare,I.base,I.loc,I.cell,I.free,I.freeC,I.pin,I.hok,I.len⟩
theorem Inv.unwish(I:Inv (X.wish E) pins σ H s):Inv X pins σ H s:=⟨I.ok.unwish,I.os,I.bare,I.base,I.loc,I.cell,I.free,I.freeC,I.pin,I.hok,I.len⟩
theorem SP.unwish(h:SP (X.wish E) pins D f s'):SP X pins D f s':=by
 cases f with
 |next=>obtain⟨σ',H',I,q⟩:=h;exact⟨σ',H',I.unwish,q⟩|brk=>obtain⟨σ',H',I,q⟩:=h;exact⟨σ',H',I.unwish,q⟩|cont=>obtain⟨σ',H',I,q⟩:=h;exact⟨σ',H',I.unwish,q⟩|ret u=>obtain⟨v,σ',H',I,r,q⟩:=h;exact⟨v,σ',H',I.unwish,r,q⟩
end
section
variable{X:Cx}{st:Stmt}{rest:List Stmt}{t u:TS}{e:Expr}{te:TE}{pos:Pos}
def mX:TS:=λD σ H=>D.nx σ H
def mY(t u:TS):TS:=λD σ H=>t {D with nx:=u D} σ H
theorem Pj:Ph X [] mX:=λ_ _ σ H _ I h=>RV ⟨σ,H,I,h⟩
theorem A7(h1:PS X st t)(h2:Ph X rest u):Ph X (st::rest) (mY t u):=by
 intro pins s σ H D I h;refine wpAny_execs_cons (Ja (h1 pins s σ H {D with nx:=u D} I h) λf s1 q=>?_);cases f with
 |next =>obtain⟨σ',H',I',q⟩:=q;exact h2 pins s1 σ' H' D I' q|ret v=>exact q|brk=>exact q|cont=>exact q
theorem cY(h1:PS X st t):Ph X [st] t:=by
 intro pins s σ H D I h;refine wpAny_execs_cons (Ja (h1 pins s σ H D I h) λf s1 q=>?_);cases f with
 |next=>exact RV q|ret v=>exact q|brk=>exact q|cont=>exact q
theorem Inv.quiet(I:Inv X pins σ H s):interactive X.env=false:=by simp[interactive,I.ok.kind]
def mZ(te:TE):TS:=λD σ H=>te σ H λ_ H1=>D.nx σ H1
theorem cZ(he:PE X e te)(hs:swapsWith e none pos.line X.env=pure false:=by rfl):PS X (.Expr e pos) (mZ te):=by intro pins s σ H D I h;exact wpAny_Expr_any (Ja (he pins s σ H _ I h) λv s1 ⟨x,H1,I1,r1,q1⟩=>⟨σ,H1,I1,q1⟩) I.quiet hs
def rX(te:TE):TS:=λD σ H=>te σ H D.rt
theorem jO(he:PE X e te):PS X (.Return (some e) pos) (rX te):=by intro pins s σ H D I h;exact wpAny_Return_some (Ja (he pins s σ H _ I h) λv s1 ⟨x,H1,I1,r1,q1⟩=>⟨x,σ,H1,I1,r1,q1⟩)
def nA:TS:=λD _ H=>D.rt .non H
theorem dA:PS X (.Return none pos) nA:=λ_ _ σ H _ I h=>wpAny_Return_none ⟨.non,σ,H,I,rfl,h⟩
def rY(c:TT)(t u:TS):TS:=λD σ H=>c σ H λb H1=>if b=true then t D σ H1 else u D σ H1
theorem nB(hc:PT X c tc)(ha:Ph X a t)(hb:Ph X b u):PS X (.If c a b pos) (rY tc t u):=by
 intro pins s σ H D I h;refine wpAny_If (Ja (hc pins s σ H _ I h) λd s1 ⟨H1,I1,q1⟩=>?_);cases d with
 |true=>exact ha pins s1 σ H1 D I1 q1|false=>exact hb pins s1 σ H1 D I1 q1
def jP:TS:=λ_ _ _=>False
theorem A8:PS X st jP:=λ_ _ _ _ _ _ h=>h.elim
end
abbrev TG:=V->St->Hp->(St->Hp->Prop)->Prop
abbrev hG:=List V->St->Hp->(St->Hp->Prop)->Prop
def PG(X:Cx)(target:Expr)(t:TG):Prop:=∀(pins:Xw)(s:Shared)(σ:St)(H:Hp)(v:V)(u:Value)(Q:St->Hp->Prop),Inv X pins σ H s->RelV v u->t v σ H Q->wpAny (model X.prog X.w) X.A (assign target X.env u) (λ_ s'=>∃σ' H',Inv X pins σ' H' s'/\Q σ' H') X.xe s
def jQ(X:Cx)(ts:List Expr)(t:hG):Prop:=∀(pins:Xw)(s:Shared)(σ:St)(H:Hp)(vs:List V)(us:List Value)(Q:St->Hp->Prop),Inv X pins σ H s->Vals vs us->t vs σ H Q->wpAny (model X.prog X.w) X.A (assignInOrder ((assignEach ts X.env).map (·.2)) us) (λ_ s'=>∃σ' H',Inv X pins σ' H' s'/\Q σ' H') X.xe s
abbrev jR:=V->V->V->Hp->(Hp->Prop)->Prop
def nD(X:Cx)(t:jR):Prop:=∀(pins:Xw)(s:Shared)(σ:St)(H:Hp)(o i v:V)(ov iv u:Value)(Q:Hp->Prop),Inv X pins σ H s->RelV o ov->RelV i iv->RelV v u->t o i v H Q->wpAny (model X.prog X.w) X.A (setItem ov iv u) (λ_ s'=>∃H',Inv X pins σ H' s'/\Q H') X.xe s
def hU(i:Nat):TG:=λv σ H Q=>Q (σ.set i (some v)) H
theorem dB(hN:X.N.Nodup)(hi:X.N[i]?=some x)(hx:Loc X.env.scope x)(hf:X.fn x=true\/X.env.scope.names.lookup x=some .local:=by first|exact .inl rfl|exact .inr rfl|assumption):PG X (.Name x pos) (hU i):=by intro pins s σ H v u Q I r h;exact wpAny_assign_Name (GJ I hN hi hx r (λs' I'=>⟨_,H,I',h⟩) hf)
def rZ:hG:=λvs σ H Q=>vs=[]/\Q σ H
def nE(t:TG)(u:hG):hG:=λvs σ H Q=>∃v r,vs=v::r/\t v σ H λσ' H'=>u r σ' H' Q
theorem dC:jQ X [] rZ:=by intro pins s σ H vs us Q I r h;obtain⟨e,h⟩:=h;subst e;cases r;exact assignInOrder_nil ⟨σ,H,I,h⟩
theorem A9{e:Expr}{es:List Expr}{t:TG}{u:hG}(h1:PG X e t)(h2:jQ X es u)(hs:(assignEach (e::es) X.env).map (·.2)=assign e X.env::(assignEach es X.env).map (·.2):=by rfl):jQ X (e::es) (nE t u):=by
 intro pins s σ H vs us Q I r h;obtain⟨v,vr,e1,h⟩:=h;subst e1;cases r with
 |cons r rr =>rw[hs];refine assignInOrder_cons (Ja (h1 pins s σ H _ _ _ I r h) λ_ s1 ⟨σ1,H1,I1,q1⟩=>?_);exact h2 pins s1 σ1 H1 _ _ Q I1 rr q1
def sA(K:Frag)(n:Nat)(t:hG):TG:=λv σ H Q=>∃a xs,v=.ref a/\SqT K H a xs/\xs.length=n/\t xs σ H Q
theorem jS{es:List Expr}{k:Nat}{t:hG}{n:Nat}(hc:X.calm=true)(h:jQ X es t)(hn:(assignEach es X.env).length=n:=by rfl)(hst:(assignEach es X.env).findIdx? (·.1)=none:=by rfl):PG X (.Tuple es k pos) (sA X.K n t):=by intro pins s σ H v u Q I r hw;obtain⟨a,xs,e1,hq,hl,hw⟩:=hw;subst e1;cases r;obtain⟨its,rv,ht,hz⟩:=I.tuple hq;refine assign_Tuple_tuple (I.ok.hd hc) ht (by simp[hn,<-hl,rv.length]) hst λh' hx=>?_;have I1:Inv X pins σ H {s with heap:=h'}:=I.kept (t':=s.toks) λb o e=>hx b o (UY (Uz e)) e;exact h pins _ σ H xs _ Q I1 (by simpa using rv) hw
def sB(to ti:TE)(t:jR):TG:=λv σ H Q=>to σ H λo H1=>ti σ H1 λi H2=>t o i v H2 λH3=>Q σ H3
theorem jT{o i:Expr}{to ti:TE}{t:jR}(ho:PE X o to)(hi:PE X i ti)(hs:nD X t)(ha:∀v,assign (.Subscript o i pos) X.env v=(do
   let ov <-holding [v] (eval o X.env)
   let iv <-holding [v,ov] (eval i X.env)
   standAt pos
   holding [v,ov,iv] (setItem ov iv v)
   release [v,ov,iv] []):=by intro _;rfl):PG X (.Subscript o i pos) (sB to ti t):=by
 intro pins s σ H v u Q I r h;rw[ha];refine Ub (Rk (Ja (ho pins s σ H _ I h) λov s1 ⟨x,H1,I1,r1,q1⟩=>?_));refine Ub (Rk (Ja (hi pins s1 σ H1 _ I1 q1) λiv s2 ⟨y,H2,I2,r2,q2⟩=>?_));refine Ub (wpAny_standAt (Ub (Rk (Ja (hs pins s2 σ H2 x y v ov iv u _ I2 r1 r2 r q2) λ_ s3 ⟨H3,I3,q3⟩=>?_))));exact wpAny_release ⟨σ,H3,I3,q3⟩
def jU(te:TE)(g:TG):TS:=λD σ H=>te σ H λx H1=>g x σ H1 D.nx
theorem Da{tg e:Expr}{te:TE}{g:TG}(he:PE X e te)(hg:PG X tg g)(hs:swapsWithSole [tg] e pos.line X.env=pure false:=by rfl)(hw:swappedStores [tg] e X.env=pure none:=by rfl)(h1:(assignEach [tg] X.env).map (·.2)=[assign tg X.env]:=by rfl):PS X (.Assign [tg] e pos) (jU te g):=by intro pins s σ H D I h;refine wpAny_Assign_stores (Ja (he pins s σ H _ I h) λv s1 ⟨x,H1,I1,r1,q1⟩=>?_) hs hw;rw[h1];exact Ja (hg pins s1 σ H1 x v _ I1 r1 q1) λ_ s2 q=>q
theorem jV(hN:X.N.Nodup)(hi:X.N[i]?=some x)(hx:Loc X.env.scope x)(he:PE X e te)(hs:swapsWith e (some (.Name x pos')) pos.line X.env=pure false:=by rfl)(hf:X.fn x=true\/X.env.scope.names.lookup x=some .local:=by first|exact .inl rfl|exact .inr rfl|assumption):
  PS X (.Assign [.Name x pos'] e pos) (jU te (hU i)):=by
 intro pins s σ H D I h;refine wpAny_Assign_Name (Ja (he pins s σ H _ I h) λv s1 ⟨y,H1,I1,r1,q1⟩=>?_) hs;exact GJ I1 hN hi hx r1 (λs2 I2=>⟨_,H1,I2,q1⟩) hf
def jW(c:TT)(tb:TS):TS:=λD σ H=>∃W:Nat->St->Hp->Prop,(∃m,W m σ H)/\∀m σ H,W m σ H->c σ H λb H1=>if b=true then ∃N:St->Hp->Prop,(∀σ' H',N σ' H'->∃m',m'<m/\W m' σ' H')/\tb {D with nx:=N,ct:=N,bk:=D.nx} σ H1 else D.nx σ H1
theorem Db(hp:PassesOwn (model X.prog X.w) X.A X.env X.xe)(hc:PT X c tc)(hb:Ph X body tb):PS X (.While c body [] pos) (jW tc tb):=by
 intro pins s σ H D I h;obtain⟨W,⟨m0,w0⟩,turn⟩:=h;refine wpAny_While (codeAny_whileLoop (λn s'=>∃σ' H',Inv X pins σ' H' s'/\W n σ' H') ?_ m0 ⟨σ,H,I,w0⟩);rintro n s1 ⟨σ1,H1,I1,w1⟩;refine TJ hp (Ja (hc pins s1 σ1 H1 _ I1 (turn n σ1 H1 w1)) λb s2 ⟨H2,I2,q2⟩=>?_);cases b with
 |true=>
  obtain⟨N,hN,q2⟩:=q2;rw[Uc rfl];refine TJ hp (Ja (hb pins s2 σ1 H2 _ I2 q2) λf s3 q3=>?_);cases f with
  |next =>obtain⟨σ3,H3,I3,n3⟩:=q3;obtain⟨m',hm,w3⟩:=hN σ3 H3 n3;exact⟨m',hm,σ3,H3,I3,w3⟩|cont =>obtain⟨σ3,H3,I3,n3⟩:=q3;obtain⟨m',hm,w3⟩:=hN σ3 H3 n3;exact⟨m',hm,σ3,H3,I3,w3⟩|brk=>exact q3|ret v=>exact q3
 |false =>rw[Uh Ue];exact RV ⟨σ1,H2,I2,q2⟩
structure It where
 go:Nat->Hp->Prop
 yld:Nat->Hp->V->Hp->Prop
 stop:Nat->Hp->Prop
def FpOk(X:Cx)(pins:Xw)(H:Hp)(b:Addr):Prop:=H b=none/\b≠X.env.locals/\b∉X.fs/\(b∈X.ex\/X.s₀.heap.objs.size<=b)/\(∀x c,X.env.cells.lookup x=some c->c≠b)/\∀p∈X.pn++pins,p.1≠b
theorem Inv.fpOk(I:Inv X pins σ H s)(hb:s.heap.objs.size<=b)(hn:H' b=none):FpOk X pins H' b:=by
 refine⟨hn,B5 (UL I.lt hb),I.nofs hb,.inr (Up I.sz hb),λx c e z=>?_,λp hp z=>?_⟩
 ·obtain⟨v,q⟩:=I.cell x c e;exact absurd (UL q.lt (by rw[z];exact hb)) (To _)
 ·exact absurd (UL (Uz (I.pin p hp).1) (by rw[z];exact hb)) (To _)
structure Turn(P:Program)(w:World)(K:Frag)(tg:Expr)(J:It)(fp:List Addr)(it:Addr)(tn:Nat->Heap->Prop):Prop where
 mem:it∈fp
 obj:∀i h,tn i h->∀b∈fp,∃o,h.get? b=some o/\∀v,o.data≠.cell v
 keep:∀i h h',tn i h->(∀b∈fp,∀o,h.get? b=some o->h'.get? b=some o)->tn i h'
 item:∀(X:Cx),X.prog=P->X.w=w->X.K=K->X.calm=true->∀(i:Nat)(pins:Xw)(s:Shared)(σ:St)(H:Hp)(E:VP),Inv X pins σ H s->(∀b∈fp,FpOk X pins H b)->tn i s.heap->J.go i H->wpAny (model P w) X.A (pyNext (.ref it)) (λr s1=>∃u,r=some u/\wpAny (model P w) X.A (letOwnedTupleGo tg (.ref it) u) (λ_ s2=>∃x H',Inv X pins σ H' s2/\RelV x u/\J.yld i H x H'/\tn (i+1) s2.heap/\∀b∈fp,H' b=none) E s1) E s
 done:∀(X:Cx),X.prog=P->X.w=w->X.K=K->X.calm=true->∀(i:Nat)(pins:Xw)(s:Shared)(σ:St)(H:Hp)(E:VP),Inv X pins σ H s->(∀b∈fp,FpOk X pins H b)->tn i s.heap->J.stop i H->wpAny (model P w) X.A (pyNext (.ref it)) (λr s1=>r=none/\Inv X pins σ H s1) E s
 self:∀(A:Around)(i:Nat)(s:Shared)(Q:VP)(E:VP),tn i s.heap->Q (.ref it) s->wpAny (model P w) A (pyIter (.ref it)) Q E s
abbrev TI:=St->Hp->(It->Hp->Prop)->Prop
def vB(X:Cx)(pins:Xw)(σ:St)(tg:Expr)(R:It->Hp->Prop)(itv:Value)(s2:Shared):Prop:=∃(it:Addr)(fp:List Addr)(tn:Nat->Heap->Prop)(J:It)(H':Hp),itv=.ref it/\Inv X pins σ H' s2/\Turn X.prog X.w X.K tg J fp it tn/\tn 0 s2.heap/\(∀b∈fp,FpOk X pins H' b)/\R J H'
def PI(X:Cx)(tg iter:Expr)(wi:TI):Prop:=∀(pins:Xw)(s:Shared)(σ:St)(H:Hp)(R:It->Hp->Prop),Inv X pins σ H s->wi σ H R->wpAny (model X.prog X.w) X.A (eval iter X.env) (λv s1=>wpAny (model X.prog X.w) X.A (pyIter v) (vB X pins σ tg R) X.xe s1) X.xe s
theorem Pk{M:Model}{A:Around}{E:VP}{s:Shared}{tg:Expr}{it:Addr}{u:Value}{o:Obj}{n:String}{vs:Array Value}{Q:Unit->Shared->Prop}(ho:s.heap.get? it=some o)(hc:o.cls=.type n)(hd:o.data=.fields vs)(hn:["enumerate","zip","dict_itemiterator","dict_reverseitemiterator","odict_iterator","itertools.zip_longest","itertools.pairwise"].contains n=false)(hQ:Q () s):wpAny M A (letOwnedTupleGo tg (.ref it) u) Q E s:=by
  unfold letOwnedTupleGo;cases tg<;>first
    |exact Us hQ
    | (cases u<;>first
        |exact Us hQ
        | (refine Ub (wpAny_load ho ?_)
           rw[hc,hd];show wpAny M A (if (["enumerate","zip","dict_itemiterator","dict_reverseitemiterator","odict_iterator","itertools.zip_longest","itertools.pairwise"].contains n&&vs[0]? == some (rawInt _))=true then _ else _) Q E s;rw[Uh (by intro h;rw[hn,RB]at h;cases h)];exact Us hQ))
def qI(K:Frag)(a:Addr):It:=⟨λi H=>∃xs x,SqL K H a xs/\xs[i]?=some x,λi H x H'=>H'=H/\∀xs,SqL K H a xs->xs[i]?=some x,λi H=>∃xs,SqL K H a xs/\xs.length<=i⟩
def sC(K:Frag)(a:Addr):It:=⟨λi H=>∃xs x,SqT K H a xs/\xs[i]?=some x,λi H x H'=>H'=H/\∀xs,SqT K H a xs->xs[i]?=some x,λi H=>∃xs,SqT K H a xs/\xs.length<=i⟩
def nF(lo:Int)(n:Nat):It:=⟨λi _=>i<n,λi H x H'=>H'=H/\x=.int (lo+i),λi _=>n<=i⟩
theorem SA{P:Program}{w:World}{K:Frag}{tg:Expr}(a it:Addr):Turn P w K tg (qI K a) [it] it (λi h=>h.IsListIter it a i) where
 mem:=by simp
 obj:=λi h st b hb=>by
  have e:b=it:=by simpa using hb
  subst e;obtain⟨o,e,c,d⟩:=st;exact⟨o,e,λv z=>by rw[d]at z;cases z⟩
 keep:=λi h h' st k=>st.at λo e=>k it (by simp) o e
 item:=by intro X hP hw hK hc i pins s σ H E I hf st hg;subst hP hw hK;obtain⟨xs,x,hq,hx⟩:=hg;obtain⟨its,rv,p,hz⟩:=I.list hq;obtain⟨u,hu,ru⟩:=rv.get hx;obtain⟨f0,f1,f2,f3,f4,f5⟩:=hf it (by simp);refine wpAny_pyNext_list_item st p.isList (x:=u) (by simpa using hu) λh' st' sb=>?_;have I1:Inv X pins σ H {s with heap:=h'}:=I.turned (t':=s.toks) (λb o hb e=>(sb.2 b hb).trans e) f0 f1 f3 f4 f5;obtain⟨o,e,c,d⟩:=id st';exact⟨u,rfl,Pk (s:={s with heap:=h'}) e c d (by decide) ⟨x,H,I1,ru,⟨rfl,λys hy=>by rw[I.list_inj hy hq];exact hx⟩,st',λb hb=>(hf b hb).1⟩⟩
 done:=by intro X hP hw hK hc i pins s σ H E I hf st hg;subst hP hw hK;obtain⟨xs,hq,hx⟩:=hg;obtain⟨its,rv,p,hz⟩:=I.list hq;obtain⟨f0,f1,f2,f3,f4,f5⟩:=hf it (by simp);have hl:=rv.length;exact wpAny_pyNext_list_end (I.ok.hd hc) st p.isList (by simp;omega) λh' eb=>⟨rfl,I.turned (t':=s.toks) (λb o hb e=>eb b o hb e) f0 f1 f3 f4 f5⟩
 self:=λ_ _ _ _ _ st h=>wpAny_pyIter_listiter st h
theorem NV{P:Program}{w:World}{K:Frag}{tg:Expr}(a it:Addr):Turn P w K tg (sC K a) [it] it (λi h=>h.IsTupleIter it a i) where
 mem:=by simp
 obj:=λi h st b hb=>by
  have e:b=it:=by simpa using hb
  subst e;obtain⟨o,e,c,d⟩:=st;exact⟨o,e,λv z=>by rw[d]at z;cases z⟩
 keep:=λi h h' st k=>st.at λo e=>k it (by simp) o e
 item:=by intro X hP hw hK hc i pins s σ H E I hf st hg;subst hP hw hK;obtain⟨xs,x,hq,hx⟩:=hg;obtain⟨its,rv,p,hz⟩:=I.tuple hq;obtain⟨u,hu,ru⟩:=rv.get hx;obtain⟨f0,f1,f2,f3,f4,f5⟩:=hf it (by simp);refine wpAny_pyNext_tuple_item st (show s.heap.IsTuple a its.toArray from p) (x:=u) (by simpa using hu) λh' st' sb=>?_;have I1:Inv X pins σ H {s with heap:=h'}:=I.turned (t':=s.toks) (λb o hb e=>(sb.2 b hb).trans e) f0 f1 f3 f4 f5;obtain⟨o,e,c,d⟩:=id st';exact⟨u,rfl,Pk (s:={s with heap:=h'}) e c d (by decide) ⟨x,H,I1,ru,⟨rfl,λys hy=>by rw[I.tuple_inj hy hq];exact hx⟩,st',λb hb=>(hf b hb).1⟩⟩
 done:=by intro X hP hw hK hc i pins s σ H E I hf st hg;subst hP hw hK;obtain⟨xs,hq,hx⟩:=hg;obtain⟨its,rv,p,hz⟩:=I.tuple hq;obtain⟨f0,f1,f2,f3,f4,f5⟩:=hf it (by simp);have hl:=rv.length;exact wpAny_pyNext_tuple_end (I.ok.hd hc) st (show s.heap.IsTuple a its.toArray from p) (by simp;omega) λh' eb=>⟨rfl,I.turned (t':=s.toks) (λb o hb e=>eb b o hb e) f0 f1 f3 f4 f5⟩
 self:=λ_ _ _ _ _ st h=>wpAny_pyIter_tupleiter st h
theorem NW{P:Program}{w:World}{K:Frag}{tg:Expr}(it:Addr)(lo:Int)(n:Nat):Turn P w K tg (nF lo n) [it] it (λi h=>IsRangeIter h it (lo+(i:Nat)*1) ((n:Int) - (i:Nat)) 1) where
 mem:=by simp
 obj:=λi h st b hb=>by
  have e:b=it:=by simpa using hb
  subst e;exact⟨_,st,λv z=>by have z':Data.fields _=Data.cell v:=z;cases z'⟩
 keep:=λi h h' st k=>k it (by simp) _ st
 item:=by intro X hP hw hK hc i pins s σ H E I hf st hg;subst hP hw hK;obtain⟨f0,f1,f2,f3,f4,f5⟩:=hf it (by simp);have W:=Walks.range (prog:=X.prog) (w:=X.w) (I.ok.hd hc) it lo 1 n;refine W.item i s _ _ hg st λv h' tk hv st' kk=>?_;obtain⟨t,rfl⟩:=hv;have I1:Inv X pins σ H {s with heap:=h',toks:=tk}:=I.turned (λb o hb e=>kk b o (by simpa using hb) e) f0 f1 f3 f4 f5;refine⟨_,rfl,Pk (s:={s with heap:=h',toks:=tk}) (n:="range_iterator") st' rfl rfl (by decide) ⟨.int (lo+i),H,I1,⟨t,?_⟩,⟨rfl,rfl⟩,st',λb hb=>(hf b hb).1⟩⟩;rw[Int.mul_one]
 done:=by intro X hP hw hK hc i pins s σ H E I hf st hg;subst hP hw hK;obtain⟨f0,f1,f2,f3,f4,f5⟩:=hf it (by simp);exact wpAny_pyNext_range_end (I.ok.hd hc) st (by have:n<=i:=hg;omega) λh' eb=>⟨rfl,I.turned (t':=s.toks) (λb o hb e=>eb b o hb e) f0 f1 f3 f4 f5⟩
 self:=λ_ _ _ _ _ st h=>wpAny_pyIter_rangeiter st h
theorem Mx{pins:Xw}{σ:St}{H:Hp}{s:Shared}{R:It->Hp->Prop}{E:VP}{lo hi:Int}{t u v:Tok}{tk:Nat}(I:Inv X pins σ H s)(h1:-(2^62)<=lo)(h2:lo<2^62)(h3:-(2^62)<=hi)(h4:hi<2^62)(q:R (nF lo (hi-lo).toNat) H):wpAny (model X.prog X.w) X.A (pyIter (.ref s.heap.objs.size)) (vB X pins σ tg R) E {s with heap:=s.heap.push {cls:=.type "range",data:=.fields #[.int lo t,.int hi u,.int 1 v]},toks:=tk}:=by
 refine wpAny_pyIter_range (IsRange.new ..) (small_one h1 h2 h3 h4) ?_;have I1:Inv X pins σ H {s with heap:=s.heap.push {cls:=.type "range",data:=.fields #[.int lo t,.int hi u,.int 1 v]},toks:=tk}:=I.kept λb o e=>Uk _ e;refine⟨(s.heap.push {cls:=.type "range",data:=.fields #[.int lo t,.int hi u,.int 1 v]}).objs.size,[(s.heap.push {cls:=.type "range",data:=.fields #[.int lo t,.int hi u,.int 1 v]}).objs.size],_,_,H,rfl,I1.kept (t':=tk) λb o e=>Uk _ e,NW _ lo (hi-lo).toNat,?_,λb hb=>?_,q⟩
 ·have e1:lo+((0:Nat):Int)*1=lo:=by simp
  have e2:(((hi-lo).toNat:Nat):Int) - ((0:Nat):Int)=Builtin.Range.rangeSize lo hi 1:=by rw[rangeSize_one];split<;>omega
  show IsRangeIter _ _ (lo+((0:Nat):Int)*1) ((((hi-lo).toNat:Nat):Int) - ((0:Nat):Int)) 1;rw[e1,e2];exact UE _ rfl
 ·have e:b=(s.heap.push {cls:=.type "range",data:=.fields #[.int lo t,.int hi u,.int 1 v]}).objs.size:=by simpa using hb
  subst e;exact I1.fpOk (Um _) (I1.hok.fresh (Um _))
def nG(ta:TA):TI:=λσ H R=>ta σ H λvs H1=>∃j:Int,vs=[.int j]/\-(2^62)<=j/\j<2^62/\R (nF 0 j.toNat) H1
def nH(ta:TA):TI:=λσ H R=>ta σ H λvs H1=>∃i j:Int,vs=[.int i,.int j]/\(-(2^62)<=i/\i<2^62/\-(2^62)<=j/\j<2^62)/\R (nF i (j-i).toNat) H1
theorem SB(hg:Gl X "range")(hm:X.mg "range"=none)(ha:PA X [a] ta)(hs:starEach [a] X.env=[(false,eval a X.env)]:=by rfl):PI X tg (.Call (.Name "range" p) [a] [] pos) (nG ta):=by
 intro pins s σ H R I h;refine Call_ (KC I hg hm boot_range (U1 (Ja (ha pos pins s σ H _ I h) λus s1 ⟨vs,H1,I1,r1,q1⟩=>?_) hs rfl));obtain⟨j,e,q1,q2,q⟩:=q1;subst e;cases r1 with
 |cons r rr =>cases rr;obtain⟨t,rfl⟩:=r;exact call_range_1 (Mx I1 (by omega) (by omega) q1 q2 (by simpa using q))
theorem SC(hg:Gl X "range")(hm:X.mg "range"=none)(ha:PA X [a,b] ta)(hs:starEach [a,b] X.env=[(false,eval a X.env),(false,eval b X.env)]:=by rfl)(hs2:starEach [b] X.env=[(false,eval b X.env)]:=by rfl):
  PI X tg (.Call (.Name "range" p) [a,b] [] pos) (nH ta):=by
 intro pins s σ H R I h;refine Call_ (KC I hg hm boot_range (U1 (Ja (ha pos pins s σ H _ I h) λus s1 ⟨vs,H1,I1,r1,q1⟩=>?_) (by rw[hs,hs2]) (by rw[hs2];rfl)));obtain⟨i,j,e,⟨q1,q2,q3,q4⟩,q⟩:=q1;subst e;cases r1 with
 |cons r rr=>
  cases rr with
  |cons r' rr =>cases rr;obtain⟨t,rfl⟩:=r;obtain⟨t',rfl⟩:=r';exact call_range_2 (Mx I1 q1 q2 q3 q4 q)
def sD(wi:TI)(g:TG)(tb:TS):TS:=λD σ H=>wi σ H λJ H1=>∃W:Nat->Nat->St->Hp->Prop,(∃m,W 0 m σ H1)/\∀i m σ H,W i m σ H->(J.stop i H/\D.nx σ H)\/(J.go i H/\∃N:St->Hp->Prop,(∀σ' H',N σ' H'->∃m',m'<m/\W (i+1) m' σ' H')/\∀x H',J.yld i H x H'->g x σ H' λσ2 H2=>tb {D with nx:=N,ct:=N,bk:=D.nx} σ2 H2)
def GK(fp:List Addr)(h:Heap):List (Addr×Obj):=fp.filterMap λb=>(h.get? b).map λo=>(b,o)
theorem KD(hb:b∈fp)(e:h.get? b=some o):(b,o)∈GK fp h:=Wg.mpr ⟨b,hb,by rw[e];rfl⟩
theorem SD(hp:p∈GK fp h):p.1∈fp/\h.get? p.1=some p.2:=by
 obtain⟨b,hb,e⟩:=Wg.mp hp;cases q:h.get? b with
 |none=>rw[q]at e;cases e|some o =>rw[q]at e;have e':(b,o)=p:=Option.some.inj e;subst e';exact⟨hb,q⟩
theorem Inv.pinned(I:Inv X pins σ H s)(hf:∀b∈fp,FpOk X pins H b)(ho:∀b∈fp,∃o,s.heap.get? b=some o/\∀v,o.data≠.cell v):Inv X (pins++GK fp s.heap) σ H s:=
 I.pins_of λp hp=>(UG.mp hp).elim (λz=>I.pin p (UI _ z)) λz=>by obtain⟨hb,e⟩:=SD z;obtain⟨f0,f1,f2,_⟩:=hf p.1 hb;obtain⟨o,e',d⟩:=ho p.1 hb;rw[e]at e';cases e';exact⟨e,f0,f1,f2,d⟩
theorem Inv.unpinned(I:Inv X (pins++pl) σ H s):Inv X pins σ H s:=I.pins_of λp hp=>I.pin p (UI _ (Ts _ hp))
theorem jX{iter:Expr}{body:List Stmt}{wi:TI}{g:TG}{tb:TS}{pos:Pos}(hp:PassesOwn (model X.prog X.w) X.A X.env X.xe)(hc:X.calm=true)(hi:PI X tg iter wi)(hg:PG X tg g)(hb:Ph X body tb)(hs:∀x,foldedSetIterable iter X.env x=pure x:=by intro _;rfl):PS X (.For tg iter body [] pos) (sD wi g tb):=by
 intro pins s σ H D I h;refine wpAny_For (Ja (hi pins s σ H _ I h) λv s1 h1=>Ja h1 λitv s2 h2=>?_) hs;obtain⟨it,fp,tn,J,H2,e,I2,T,st2,f2,W,⟨m0,w0⟩,turn⟩:=h2;subst e
 -- what stays true of the iterator's objects through the loop
 have stat:∀{H':Hp},(∀b∈fp,H' b=none)->∀b∈fp,FpOk X pins H' b:=λhn b hb=>⟨hn b hb,(f2 b hb).2⟩;refine codeAny_forLoop_any (λn s'=>∃i σ' H',Inv X pins σ' H' s'/\tn i s'.heap/\(∀b∈fp,H' b=none)/\W i n σ' H') ?_ m0 ⟨0,σ,H2,I2,st2,λb hb=>(f2 b hb).1,w0⟩;rintro n s3 ⟨i,σ3,H3,I3,st3,fr3,w3⟩;rcases turn i n σ3 H3 w3 with⟨stop,qn⟩|⟨go,N,hN,step⟩
 ·refine TJ hp (Ja (T.done X rfl rfl rfl hc i pins s3 σ3 H3 X.xe I3 (stat fr3) st3 stop) λr s4 ⟨hr,I4⟩=>?_);subst hr;exact RV ⟨σ3,H3,I4,qn⟩
 ·refine TJ hp (Ja (T.item X rfl rfl rfl hc i pins s3 σ3 H3 X.xe I3 (stat fr3) st3 go) λr s4 ⟨u,hr,h4⟩=>?_);subst hr;refine TJ hp (Ja h4 λ_ s5 ⟨x,H5,I5,r5,y5,st5,fr5⟩=>?_);have I5':=I5.pinned (stat fr5) (T.obj _ _ st5);refine TJ hp (Ja (hg _ s5 σ3 H5 x u _ I5' r5 (step x H5 y5)) λ_ s6 ⟨σ6,H6,I6,q6⟩=>?_);refine TJ hp (Ja (hb _ s6 σ6 H6 _ I6 q6) λf s7 q7=>?_);have again:∀{σ7:St}{H7:Hp},Inv X (pins++GK fp s5.heap) σ7 H7 s7->N σ7 H7->∃m,m<n/\∃i σ' H',Inv X pins σ' H' s7/\tn i s7.heap/\(∀b∈fp,H' b=none)/\W i m σ' H':=λ{σ7 H7} I7 n7=>by obtain⟨m',hm,w7⟩:=hN σ7 H7 n7;refine⟨m',hm,i+1,σ7,H7,I7.unpinned,T.keep _ _ _ st5 λb hb o e=>(I7.pin (b,o) (UI _ (UI _ (KD hb e)))).1,λb hb=>?_,w7⟩;obtain⟨o,e,d⟩:=T.obj _ _ st5 b hb;exact(I7.pin (b,o) (UI _ (UI _ (KD hb e)))).2.1
  cases f with
  |next=>obtain⟨σ7,H7,I7,n7⟩:=q7;exact again I7 n7|cont=>obtain⟨σ7,H7,I7,n7⟩:=q7;exact again I7 n7|brk=>obtain⟨σ7,H7,I7,q7⟩:=q7;exact⟨σ7,H7,I7.unpinned,q7⟩|ret v=>obtain⟨x7,σ7,H7,I7,r7,q7⟩:=q7;exact⟨x7,σ7,H7,I7.unpinned,r7,q7⟩
abbrev R2:=V->V->Hp->VK->Prop
def OpR(X:Cx)(f:Value->Value->Sem Value)(r:R2):Prop:=∀(pins:Xw)(s:Shared)(σ:St)(H:Hp)(x y:V)(v u:Value)(Q:VK),Inv X pins σ H s->RelV x v->RelV y u->r x y H Q->wpAny (model X.prog X.w) X.A (f v u) (EP X pins σ Q) X.xe s
def qJ(X:Cx)(f:Value->Sem Value)(r:V->Hp->VK->Prop):Prop:=∀(pins:Xw)(s:Shared)(σ:St)(H:Hp)(x:V)(v:Value)(Q:VK),Inv X pins σ H s->RelV x v->r x H Q->wpAny (model X.prog X.w) X.A (f v) (EP X pins σ Q) X.xe s
def VA(X:Cx)(f:Value)(r:List V->Hp->VK->Prop):Prop:=∀(pins:Xw)(s:Shared)(σ:St)(H:Hp)(xs:List V)(us:List Value)(Q:VK),Inv X pins σ H s->Vals xs us->r xs H Q->wpAny (model X.prog X.w) X.A (call f us) (EP X pins σ Q) X.xe s
def nI(r:R2)(ta tb:TE):TE:=λσ H Q=>ta σ H λx H1=>tb σ H1 λy H2=>r x y H2 Q
def wA(r:V->Hp->VK->Prop)(ta:TE):TE:=λσ H Q=>ta σ H λx H1=>r x H1 Q
def rI(C:Int->Int->Prop)(g:Int->Int->V):R2:=λx y H Q=>∃i j,x=.int i/\y=.int j/\C i j/\Q (g i j) H
def cN(g:Int->Int->V):R2:=λx y H Q=>∃i j,x=.int i/\y=.int j/\Q (g i j) H
def rU(g:Int->V):V->Hp->VK->Prop:=λx H Q=>∃i,x=.int i/\Q (g i) H
theorem jY(ha:PE X a ta)(hb:PE X b tb){pins:Xw}{s:Shared}{σ:St}{H:Hp}{R:V->V->Hp->Prop}(I:Inv X pins σ H s)(h:ta σ H λx H1=>tb σ H1 λy H2=>R x y H2){Q:VP}{f:Value->Value->Sem Value}(hf:∀v u s2 x y H2,Inv X pins σ H2 s2->RelV x v->RelV y u->R x y H2->wpAny (model X.prog X.w) X.A (f v u) Q X.xe s2):
  wpAny (model X.prog X.w) X.A (eval a X.env) (λv s₁=>wpAny (model X.prog X.w) X.A (eval b X.env) (λu s₂=>wpAny (model X.prog X.w) X.A (f v u) Q X.xe s₂) X.xe s₁) X.xe s:=by
 refine Ja (ha pins s σ H _ I h) λv s1 ⟨x,H1,I1,r1,q1⟩=>?_;refine Ja (hb pins s1 σ H1 _ I1 q1) λu s2 ⟨y,H2,I2,r2,q2⟩=>?_;exact hf v u s2 x y H2 I2 r1 r2 q2
theorem nJ(ho:OpR X (binaryOp op) r)(ha:PE X a ta)(hb:PE X b tb):PE X (.BinOp a op b pos) (nI r ta tb):=by intro pins s σ H Q I h;exact wpAny_BinOp (jY ha hb I h λv u s2 x y H2 I2 rx ry q=>ho pins s2 σ H2 x y v u Q I2 rx ry q)
theorem nK(ho:qJ X (unaryOp op) r)(ha:PE X a ta):PE X (.UnaryOp op a pos) (wA r ta):=by intro pins s σ H Q I h;exact UnaryOp_ (Ja (ha pins s σ H _ I h) λv s1 ⟨x,H1,I1,r1,q1⟩=>ho pins s1 σ H1 x v Q I1 r1 q1)
theorem sE{f:Value->Value->Sem Value}{C:Int->Int->Prop}{g:Int->Int->Int}(rule:∀(i j:Int) (t u:Tok) (s:Shared) (Q:VP) (E:VP),C i j->Q (.int (g i j) s.toks) {s with toks:=s.toks+1}->wpAny (model X.prog X.w) X.A (f (.int i t) (.int j u)) Q E s):
  OpR X f (rI C λi j=>.int (g i j)):=by
 intro pins s σ H x y v u Q I rx ry h;obtain⟨i,j,rfl,rfl,hc,q⟩:=h;obtain⟨t,rfl⟩:=rx;obtain⟨t',rfl⟩:=ry;exact rule i j t t' s _ _ hc ⟨.int (g i j),H,I.tok _,⟨_,rfl⟩,q⟩
theorem nM{f:Value->Value->Sem Value}{g:Int->Int->Int}(rule:∀(i j:Int) (t u:Tok) (s:Shared) (Q:VP) (E:VP),Q (.int (g i j) s.toks) {s with toks:=s.toks+1}->wpAny (model X.prog X.w) X.A (f (.int i t) (.int j u)) Q E s):
  OpR X f (cN λi j=>.int (g i j)):=by
 intro pins s σ H x y v u Q I rx ry h;obtain⟨i,j,rfl,rfl,q⟩:=h;obtain⟨t,rfl⟩:=rx;obtain⟨t',rfl⟩:=ry;exact rule i j t t' s _ _ ⟨.int (g i j),H,I.tok _,⟨_,rfl⟩,q⟩
theorem dD{f:Value->Value->Sem Value}{g:Int->Int->Bool}(rule:∀(i j:Int) (t u:Tok) (s:Shared) (Q:VP) (E:VP),Q (.bool (g i j)) s->wpAny (model X.prog X.w) X.A (f (.int i t) (.int j u)) Q E s):
  OpR X f (cN λi j=>.bl (g i j)):=by
 intro pins s σ H x y v u Q I rx ry h;obtain⟨i,j,rfl,rfl,q⟩:=h;obtain⟨t,rfl⟩:=rx;obtain⟨t',rfl⟩:=ry;exact rule i j t t' s _ _ ⟨.bl (g i j),H,I,rfl,q⟩
def sF(i j:Int):Prop:=0<j/\j<1073741824
def CMul(i j:Int):Prop:=(-(2^64)<i/\i<2^64)\/(-(2^64)<j/\j<2^64)
theorem CMul.ok(h:CMul i j):IntMulOk i j:=by
 rcases h with⟨h1,h2⟩|⟨h1,h2⟩
 ·exact .of_left (intBits_le_64 h1 h2)
 ·exact .of_right (intBits_le_64 h1 h2)
theorem op_add:OpR X (binaryOp .Add) (cN λi j=>.int (i+j)):=nM λ_ _ _ _ _ _ _ q=>add_int q
theorem jZ:OpR X (binaryOp .Sub) (cN λi j=>.int (i-j)):=nM λ_ _ _ _ _ _ _ q=>sub_int q
theorem op_mul:OpR X (binaryOp .Mult) (rI CMul λi j=>.int (i*j)):=sE λ_ _ _ _ _ _ _ hc q=>mul_int q hc.ok
theorem dE:OpR X (binaryOp .FloorDiv) (rI sF λi j=>.int (i/j)):=sE λi j _ _ _ _ _ hc q=>by have h1:(0:Int)<j:=hc.1;have h2:j<1073741824:=hc.2;exact floordiv_int (by omega) (by rw[Int.fdiv_eq_ediv_of_nonneg i (by omega)];exact q) (.inl (PyProof.noPylong_small (by omega)))
theorem kA:OpR X (binaryOp .Mod) (rI (λ_ j=>0<j) λi j=>.int (i%j)):=sE λi j _ _ _ _ _ hc q=>by have h1:(0:Int)<j:=hc;exact mod_int' (by omega) (by rw[Int.fmod_eq_emod_of_nonneg i (by omega)];exact q)
theorem wB{f:Value->Sem Value}{g:Int->Int}(rule:∀(i:Int) (t:Tok) (s:Shared) (Q:VP) (E:VP),Q (.int (g i) s.toks) {s with toks:=s.toks+1}->wpAny (model X.prog X.w) X.A (f (.int i t)) Q E s):
  qJ X f (rU λi=>.int (g i)):=by
 intro pins s σ H x v Q I rx h;obtain⟨i,rfl,q⟩:=h;obtain⟨t,rfl⟩:=rx;exact rule i t s _ _ ⟨.int (g i),H,I.tok _,⟨_,rfl⟩,q⟩
theorem kB:qJ X (unaryOp .USub) (rU λi=>.int (-i)):=wB λ_ _ _ _ _ q=>neg_int q
theorem Dc(I:Inv X pins σ H s)(q:Q (.bl k) H)(e:k=k'):EP X pins σ Q (.bool k') s:=by subst e;exact⟨.bl k,H,I,rfl,q⟩
theorem Dd:OpR X (compareOp .Lt) (cN λi j=>.bl (decide (i<j))):=dD λ_ _ _ _ _ _ _ q=>lt_int q
theorem nO:OpR X (compareOp .LtE) (cN λi j=>.bl (decide (i<=j))):=dD λ_ _ _ _ _ _ _ q=>le_int q
theorem hV:OpR X (compareOp .Gt) (cN λi j=>.bl (decide (j<i))):=dD λ_ _ _ _ _ _ _ q=>gt_int q
theorem hW:OpR X (compareOp .GtE) (cN λi j=>.bl (decide (j<=i))):=dD λ_ _ _ _ _ _ _ q=>ge_int q
theorem kC:OpR X (compareOp .Is) (λx y H Q=>y=.non/\Q (.bl (decide (x=.non))) H):=by
 intro pins s σ H x y v u Q I rx ry h;obtain⟨rfl,q⟩:=h;cases ry;refine is_none_gen (Dc I q ?_);cases x<;>first
  | (cases rx;rfl)
  | (obtain⟨t,rfl⟩:=rx;rfl)
theorem dF:OpR X (compareOp .IsNot) (λx y H Q=>y=.non/\Q (.bl (!decide (x=.non))) H):=by
 intro pins s σ H x y v u Q I rx ry h;obtain⟨rfl,q⟩:=h;cases ry;refine isnot_none_gen (Dc I q ?_);cases x<;>first
  | (cases rx;rfl)
  | (obtain⟨t,rfl⟩:=rx;rfl)
theorem OpR.or(h:OpR X f r)(h':OpR X f r'):OpR X f (λx y H Q=>r x y H Q\/r' x y H Q):=by
 intro pins s σ H x y v u Q I rx ry q;rcases q with q|q
 ·exact h pins s σ H x y v u Q I rx ry q
 ·exact h' pins s σ H x y v u Q I rx ry q
theorem XA(b:Expr)(h:op≠.In:=by decide)(h2:op≠.NotIn:=by decide):behindInMarks op b=false:=by
 have e1:(op==CmpOp.In)=false:=by cases op<;>first|rfl|exact absurd rfl h
 have e2:(op==CmpOp.NotIn)=false:=by cases op<;>first|rfl|exact absurd rfl h2
 cases b<;>simp[behindInMarks,e1,e2]
theorem dG(ho:OpR X (compareOp op) r)(ha:PE X a ta)(hb:PE X b tb)(hm:behindInMarks op b=false):PE X (.Compare a [op] [b] pos) (nI r ta tb):=by intro pins s σ H Q I h;exact wpAny_Compare1 (jY ha hb I h λv u s2 x y H2 I2 rx ry q=>ho pins s2 σ H2 x y v u Q I2 rx ry q) hm
def nQ(t:TE):TT:=λσ H Q=>t σ H λx H'=>∃k,x=.bl k/\Q k H'
theorem dH(ho:OpR X (compareOp op) r)(ha:PE X a ta)(hb:PE X b tb)(hm:behindInMarks op b=false):PT X (.Compare a [op] [b] pos) (nQ (nI r ta tb)):=by
 intro pins s σ H Q I h;refine wpAny_isTrue_Compare1 (Ja (ha pins s σ H _ I h) λv s1 ⟨x,H1,I1,r1,q1⟩=>Ja (hb pins s1 σ H1 _ I1 q1) λu s2 ⟨y,H2,I2,r2,q2⟩=>
  Ja (ho pins s2 σ H2 x y v u _ I2 r1 r2 q2) λc s3 ⟨z,H3,I3,r3,k,e,q3⟩=>?_) hm
 subst e;cases r3;exact TN ⟨H3,I3,q3⟩
def De(r r':R2)(ta tb tc:TE):TE:=λσ H Q=>ta σ H λx H1=>tb σ H1 λy H2=>r x y H2 λz H3=>∃k,z=.bl k/\(if k=true then tc σ H3 λw' H4=>r' y w' H4 Q else Q (.bl false) H3)
theorem Df{op op':CmpOp}{r r':R2}(ho:OpR X (compareOp op) r)(ho':OpR X (compareOp op') r')(ha:PE X a ta)(hb:PE X b tb)(hc:PE X c tc)(hm:lastMarks [op,op'] [b,c]=false:=by with_unfolding_all rfl):PE X (.Compare a [op,op'] [b,c] pos) (De r r' ta tb tc):=by
 intro pins s σ H Q I h;refine Compare_chain (Ja (ha pins s σ H _ I h) λv s1 ⟨x,H1,I1,r1,q1⟩=>chain_link (Ja (hb pins s1 σ H1 _ I1 q1) λu s2 ⟨y,H2,I2,r2,q2⟩=>
  Ja (ho pins s2 σ H2 x y v u _ I2 r1 r2 q2) λd s3 ⟨z,H3,I3,r3,k,e,q3⟩=>?_)) hm
 subst e;cases r3;refine TN ?_;cases k with
 |false=>exact ite_ff ⟨.bl false,H3,I3,rfl,q3⟩|true=>exact ite_tt (chain_last (Ja (hc pins s3 σ H3 _ I3 q3) λw' s4 ⟨z',H4,I4,r4,q4⟩=>ho' pins s4 σ H4 y z' u w' Q I4 r2 r4 q4))
theorem BE:(sizeLine:Nat)<2^63:=by rw[RS];decide
theorem My(r:Vals [x] us):∃u,us=[u]/\RelV x u:=by
 cases r with
 |cons r1 r2=>cases r2;exact⟨_,rfl,r1⟩
theorem iA(r:Vals [x,y] us):∃u w',us=[u,w']/\RelV x u/\RelV y w':=by
 cases r with
 |cons r1 r2=>
  cases r2 with
  |cons r3 r4=>cases r4;exact⟨_,_,rfl,r1,r3⟩
theorem SE(hc:X.calm=true):VA X (.builtin "max") (λxs H Q=>∃i j,xs=[.int i,.int j]/\Q (.int (if j>i then j else i)) H):=by
 intro pins s σ H xs us Q I r h;obtain⟨i,j,rfl,q⟩:=h;obtain⟨u,w',rfl,⟨t,rfl⟩,⟨t',rfl⟩⟩:=iA r;refine max_two_ints (I.ok.hd hc) λh' tk k=>⟨_,H,I.kept k,?_,q⟩;by_cases hj:j>i
 ·rw[Uc hj,Uc hj];exact⟨_,rfl⟩
 ·rw[Uh hj,Uh hj];exact⟨_,rfl⟩
theorem SF(hc:X.calm=true):VA X (.builtin "min") (λxs H Q=>∃i j,xs=[.int i,.int j]/\Q (.int (if j<i then j else i)) H):=by
 intro pins s σ H xs us Q I r h;obtain⟨i,j,rfl,q⟩:=h;obtain⟨u,w',rfl,⟨t,rfl⟩,⟨t',rfl⟩⟩:=iA r;refine min_two_ints (I.ok.hd hc) λh' tk k=>⟨_,H,I.kept k,?_,q⟩;by_cases hj:j<i
 ·rw[Uc hj,Uc hj];exact⟨_,rfl⟩
 ·rw[Uh hj,Uh hj];exact⟨_,rfl⟩
theorem SG:VA X (.type "int") (λxs H Q=>(∃i,xs=[.int i]/\Q (.int i) H)\/∃k,xs=[.bl k]/\Q (.int (if k then 1 else 0)) H):=by
 intro pins s σ H xs us Q I r h;rcases h with⟨i,rfl,q⟩|⟨k,rfl,q⟩
 ·obtain⟨u,rfl,t,rfl⟩:=My r;exact call_int_int ⟨.int i,H,I,⟨_,rfl⟩,q⟩
 ·obtain⟨u,rfl,r1⟩:=My r;cases r1;exact call_int_bool ⟨.int (if k then 1 else 0),H,I.tok _,⟨_,rfl⟩,q⟩
structure ObjM(h:Heap)(x dx C:Addr)(mA:KB):Prop where
 obj:h.get? x=some (instObj C dx)
 ns:h.Ns1 dx mA
 ne:dx≠x
theorem SH{h:Heap}{dx:Addr}{mA:KB}(n:h.Ns1 dx mA):∃od,h.get? dx=some od/\∀name,lookIn name od=some (mA name):=by
 obtain⟨o,es,ep,ho,hd,hk,_,hm⟩:=n;refine⟨o,ho,λname=>?_⟩;have e:=hm name;unfold nsFind findBy at e;rw[<-Array.find?_toList]at e;unfold lookIn;rw[hd];dsimp only;split
 ·rename_i y q;rw[q]at e;exact Tp some e
 ·rename_i q;rw[q]at e;have a:es.toList.any (·.refKey)=false:=by rw[List.any_eq_false];intro y hy;obtain⟨z,t,hkey⟩:=hk y (Array.mem_toList_iff.mp hy);simp[DictEntry.refKey,hkey]
  have a':¬es.toList.any (·.refKey)=true:=by rw[a];exact Ue
  rw[Uh a'];exact Tp some e
theorem ObjM.look(I:ObjM h x dx C mA):∃od,PySem.W.InstAt h x (instObj C dx) C (some od)/\∀name,lookIn name od=some (mA name):=
 let ⟨od,ho,hl⟩:=SH I.ns
 ⟨od,⟨I.obj,rfl,rfl,ho⟩,hl⟩
section
variable{prog:Program}{w:World}{A:Around}{E:VP}{s:Shared}{K:Frag}{x dx C f:Addr}{mA:KB}{name:Str}{v:Value}
theorem dI{expr:Bool}{Q:VP}(X:K.In s.heap)(I:ObjM s.heap x dx C mA)(hg:plainGet K C name=true)(hh:hasDictIn K C=true)(ha:findIn K (.ref C) name=some none)(hv:mA name=some v)(hv':handedIn v=true)(h:Q v {s with toks:=s.toks+1}):
  wpAny (model prog w) A (getAttr (.ref x) name expr) Q E s:=by
 obtain⟨od,J,hl⟩:=I.look;exact get_value X J (RZ hg).1 (findObj_own hh ha rfl (by rw[hl,hv])) hv' h
theorem Dg{pl:Sem Bool}{Q:Value×List Value->Shared->Prop}(X:K.In s.heap)(I:ObjM s.heap x dx C mA)(hg:plainGet K C name=true)(hf:findIn K (.ref C) name=some (some (.ref f)))(ht:isFn K (.ref f)=true)(hv:mA name=none)(h:Q (.ref f,[.ref x]) s):
  wpAny (model prog w) A (getMethod (.ref x) name pl) Q E s:=by
 obtain⟨od,J,hl⟩:=I.look;exact method_fn X J (RZ hg).1 (RZ hg).2 hf (Tn.mp ht) (by show(lookIn name od).map (·.isSome)=some false;rw[hl,hv];rfl) h
theorem dJ{ns:List Str}{Q:Unit->Shared->Prop}(X:K.In s.heap)(I:ObjM s.heap x dx C mA)(hs:findIn K (.ref C) "__setattr__"=some (some (.builtin "object.__setattr__")))(hp:plainOver K C=true)(ht:takerIn K C name=some none)(hh:hasDictIn K C=true)(hw:PySem.Within mA ns)(hsz:ns.length<=sizeLine)(h:∀h',ObjM h' x dx C (λy=>if y=name then some v else mA y)->Heap.SameBut dx s.heap h'->Q () {s with heap:=h',toks:=s.toks+2}):
  wpAny (model prog w) A (setAttr (.ref x) name v) Q E s:=by
 obtain⟨od,J,hl⟩:=I.look;refine set_plain X J hs (osa_open (s:={s with toks:=s.toks+1}) (r:=none) X J hp ht λb=>?_);obtain⟨cd,hc,hd'⟩:=any_some hh;have hx:s.heap.get? x=some ⟨.ref C,some dx,.plain,#[]⟩:=I.obj;refine Ub (Us (Ub (Ub (wpAny_loadPart hx (Ub (Looks.here (s:={s with toks:=s.toks+1}) (looks_clsIn X hc) ?_))))));rw[hd'];refine Us (a:=some dx) (Ub (Us (Ub ?_)));refine wpAny_nsSet1 (s:={s with toks:=s.toks+1}) I.ns λh' hn2 hs2=>?_;obtain⟨oD,esD,epD,hoD,hdD,hcD⟩:=hn2.count (PySem.Within.cons name v hw);refine Ub (wpAny_lookBehind hoD (by rw[hdD];exact pastItsLine_dict (Up hcD (by rw[Uy];omega))) ?_);exact Us (h _ ⟨(hs2.2 _ (Ne.symm I.ne)).trans I.obj,hn2,I.ne⟩ hs2)
theorem Dh{R:Result->Shared->Prop}{vs:List Value}{kw:List (Str×Value)}(X:K.In s.heap)(hm:makesIn K C=true)(hi:findIn K (.ref C) "__init__"=some (some (.ref f)))(hf:typeIn K (.ref f)=some (.type "function"))(h:codeAny (model prog w) (A.under (.builtin "type.__call__" ⟨.ref C::vs,kw⟩)) (.call (.ref f) ⟨.ref (s.heap.objs.size+1)::vs,kw⟩) (InitBack (s.heap.objs.size+1) R)
   {s with heap:=(s.heap.push emptyDict).push (instObj C s.heap.objs.size)}):
  codeAny (model prog w) A (.call (.ref C) ⟨vs,kw⟩) R s:=by
 obtain⟨hh,g,d,t,os⟩:=s;exact make_core (makes_of X hm) (looks_findIn X hi) (λself=>bind_fn X self hf) (.inl rfl) h
end
def KE(f:Str)(v:V):List (Str×V)->List (Str×V)
 |[]=>[(f,v)]| (g,x)::r=>if g=f then (g,v)::r else (g,x)::KE f v r
theorem FZ(f g:Str)(v:V):∀fs:List (Str×V),(KE f v fs).lookup g=if g=f then some v else fs.lookup g
 |[]=>by
  show List.lookup g [(f,v)]=_;by_cases h:g=f
  ·have hb:(g==f)=true:=Tn.mpr h;simp only[List.lookup,hb,Uc h]
  ·have hb:(g==f)=false:=U8.mpr h;simp only[List.lookup,hb,Uh h]
 | (k,x)::r=>by
  have ih:=FZ f g v r;rw[show KE f v ((k,x)::r)=(if k=f then (k,v)::r else (k,x)::KE f v r) from rfl];by_cases hk:k=f
  ·rw[Uc hk];by_cases h:g=k
   ·have hb:(g==k)=true:=Tn.mpr h;simp only[List.lookup,hb,Uc (h.trans hk)]
   ·have hb:(g==k)=false:=U8.mpr h;simp only[List.lookup,hb,Uh (λe:g=f=>h (e.trans hk.symm))]
  ·rw[Uh hk];by_cases h:g=k
   ·have hb:(g==k)=true:=Tn.mpr h;simp only[List.lookup,hb,Uh (λe:g=f=>hk (h.symm.trans e))]
   ·have hb:(g==k)=false:=U8.mpr h;simp only[List.lookup,hb];exact ih
theorem Ff(f:Str)(v:V):∀fs:List (Str×V),f∈(KE f v fs).map (·.1)/\∀g,g∈fs.map (·.1)->g∈(KE f v fs).map (·.1)
 |[]=>⟨by simp[KE],λg h=>by simp at h⟩| (k,x)::r=>by
  obtain⟨i1,i2⟩:=Ff f v r;rw[show KE f v ((k,x)::r)=(if k=f then (k,v)::r else (k,x)::KE f v r) from rfl];by_cases hk:k=f
  ·rw[Uc hk];subst hk;exact⟨by simp,λg h=>by simpa using h⟩
  ·rw[Uh hk];refine⟨?_,λg h=>?_⟩
   ·rw[Ti];exact Uw _ i1
   ·rw[Ti]at h ⊢;rcases Ud.mp h with e|e
    ·exact Ud.mpr (.inl e)
    ·exact Uw _ (i2 g e)
theorem F3(f:Str)(v:V):∀fs:List (Str×V),(KE f v fs).length<=fs.length+1
 |[]=>by simp[KE]
 | (k,x)::r=>by
  have ih:=F3 f v r;rw[show KE f v ((k,x)::r)=(if k=f then (k,v)::r else (k,x)::KE f v r) from rfl];by_cases hk:k=f
  ·rw[Uc hk,Uy,Uy];omega
  ·rw[Uh hk,Uy,Uy];omega
theorem RelO.some_of(r:RelO (some v) o):∃u,o=some u/\RelV v u:=by
 cases o with
 |none=>exact(show False from r).elim|some u=>exact⟨u,rfl,r⟩
theorem RelO.none_of(r:RelO none o):o=none:=by
 cases o with
 |none=>rfl|some u=>exact(show False from r).elim
theorem SJ(r:RelV v u):handedIn u=true:=by
 cases v with
 |non=>cases (show u=Value.none from r);rfl|bl b=>cases (show u=Value.bool b from r);rfl|int i=>obtain⟨t,e⟩:=(show ∃t,u=Value.int i t from r);cases e;rfl|str x=>obtain⟨t,e⟩:=(show ∃t,u=Value.str x t from r);cases e;rfl|byt b=>obtain⟨t,e⟩:=(show ∃t,u=Value.bytes b t from r);cases e;rfl|flt b=>obtain⟨t,e⟩:=(show ∃t,u=Value.float b t from r);cases e;rfl|ref a=>cases (show u=Value.ref a from r);rfl|ty n=>cases (show u=Value.type n from r);rfl
theorem Gz(hok:HOk P w H h)(e:H a=some (.ins C dx fs)):∃mA,ObjM h a dx C mA/\(∀f,RelO (fs.lookup f) (mA f))/\PySem.Within mA (fs.map (·.1))/\fs.length<=1000/\H dx=some (.own a):=by obtain⟨d,z,ne,ob,mA,n,r,q⟩:=(show ObjOk P w H h a (.ins C dx fs) from hok a _ e);exact⟨mA,⟨ob,n,ne⟩,r,q,z,d⟩
structure Cls(K:Frag)(C:Addr):Prop where
 pg:plainGet K C Str.empty=true
 hd:hasDictIn K C=true
 po:plainOver K C=true
 sa:findIn K (.ref C) "__setattr__"=some (some (.builtin "object.__setattr__"))
theorem Cls.get{K:Frag}{C:Addr}(c:Cls K C)(f:Str):plainGet K C f=true:=c.pg
def NoAttr(K:Frag)(C:Addr)(f:Str):Prop:=findIn K (.ref C) f=some none
theorem NoAttr.taker{K:Frag}{C:Addr}{f:Str}(n:NoAttr K C f):takerIn K C f=some none:=by unfold takerIn;rw[show findIn K (.ref C) f=some none from n];rfl
structure Meth(K:Frag)(C:Addr)(m:Str)(f:Addr):Prop where
 at_:findIn K (.ref C) m=some (some (.ref f))
 fn:isFn K (.ref f)=true
 kp:keepIn K (.ref f)=true
theorem NX{b:Bool}{Q:VP}(I:Inv X pins σ H s)(e:H a=some (.ins C dx fs))(c:Cls X.K C)(n:NoAttr X.K C f)(l:fs.lookup f=some v)(h:∀u s',Inv X pins σ H s'->RelV v u->Q u s'):wpAny (model X.prog X.w) A (getAttr (.ref a) f b) Q E s:=by obtain⟨mA,O,r,_,_,_⟩:=Gz I.hok e;obtain⟨u,hu,ru⟩:=RelO.some_of (v:=v) (o:=mA f) (by rw[<-l];exact r f);exact dI I.kIn O (c.get f) c.hd n hu (SJ ru) (h u _ (I.tok _) ru)
theorem GL{m:Str}{g:Addr}{pl:Sem Bool}{Q:Value×List Value->Shared->Prop}(I:Inv X pins σ H s)(e:H a=some (.ins C dx fs))(c:Cls X.K C)(k:Meth X.K C m g)(l:fs.lookup m=none)(h:Q (.ref g,[.ref a]) s):wpAny (model X.prog X.w) A (getMethod (.ref a) m pl) Q E s:=by obtain⟨mA,O,r,_,_,_⟩:=Gz I.hok e;have hn:mA m=none:=RelO.none_of (by rw[<-l];exact r m);exact Dg I.kIn O (c.get m) k.at_ k.fn hn h
theorem NY{y:V}{u:Value}{Q:Unit->Shared->Prop}(I:Inv X pins σ H s)(e:H a=some (.ins C dx fs))(c:Cls X.K C)(n:NoAttr X.K C f)(hl:fs.length<1000)(ry:RelV y u)(h:∀s',Inv X pins σ (Ji H a (.ins C dx (KE f y fs))) s'->Q () s'):wpAny (model X.prog X.w) A (setAttr (.ref a) f u) Q E s:=by
 obtain⟨mA,O,r,wi,_,ho⟩:=Gz I.hok e;have hz:(fs.map (·.1)).length<=sizeLine:=by rw[Ua,RS];omega
 refine dJ I.kIn O c.sa c.po n.taker c.hd wi hz λh' O' sb=>h _ ?_;have hd:∃o,h'.get? dx=some o:=let ⟨o,_,_,e',_⟩:=O'.ns;⟨o,e'⟩;refine I.write (x:=a) (e:=dx) (by rw[e];exact True.intro) (.inr ho) (λb q hb z=>(sb.2 b hb).trans z) hd ?_;refine⟨by rw[Q9 O.ne];exact ho,?_,O.ne,O'.obj,_,O'.ns,λg=>?_,λg hg=>?_⟩
 ·have:=F3 f y fs;omega
 ·show RelO ((KE f y fs).lookup g) (if g=f then some u else mA g);rw[FZ];by_cases q:g=f
  ·rw[Uc q,Uc q];exact ry
  ·rw[Uh q,Uh q];exact r g
 ·by_cases q:g=f
  ·rw[q];exact(Ff f y fs).1
  ·refine(Ff f y fs).2 g (wi g λz=>hg ?_);show(if g=f then some u else mA g)=none;rw[Uh q];exact z
theorem Inv.made(I:Inv X pins σ H s):Inv X pins σ (Ji (Ji H s.heap.objs.size (.own (s.heap.objs.size+1))) (s.heap.objs.size+1) (.ins C s.heap.objs.size []))
  {s with heap:=(s.heap.push emptyDict).push (instObj C s.heap.objs.size)}:=by
 have e1:(s.heap.push emptyDict).get? s.heap.objs.size=some emptyDict:=UE s.heap rfl;have e2:((s.heap.push emptyDict).push (instObj C s.heap.objs.size)).get? (s.heap.objs.size+1)=some (instObj C s.heap.objs.size):=by have:=UE (s.heap.push emptyDict) (o:=instObj C s.heap.objs.size) rfl;rwa[Wn]at this
 have e3:(s.heap.push emptyDict).Ns s.heap.objs.size (λ_=>none):=⟨emptyDict,#[],_,e1,rfl,(λe he=>absurd he (by simp)),λ_=>rfl⟩;have I1:=I.laid (a:=s.heap.objs.size) (o:=.own (s.heap.objs.size+1)) (h':=s.heap.push emptyDict) (t':=s.toks) (λb u q=>Uk _ q) (Um _) ⟨_,e1⟩;refine I1.laid (a:=s.heap.objs.size+1) (o:=.ins C s.heap.objs.size []) (t':=s.toks) (λb u q=>Uk _ q) (Nat.le_of_eq (Wn _ _)) ?_;have ne:s.heap.objs.size≠s.heap.objs.size+1:=UY (Tj _);refine⟨by rw[Q9 ne,Q6],RT _,ne,e2,λ_=>none,(Heap.Ns1.of_empty e3).at λo q=>Uk _ q,λ_=>True.intro,λy hy=>absurd rfl hy⟩
theorem dL{prog:Program}{w:World}{env:Env}{e:Expr}{f:Str}{pos:Pos}{s:Shared}{Q:VP}(hb:attributeBase e f env (eval e env)=eval e env)(h:wpAny (model prog w) A (eval e env) (λo s₁=>wpAny (model prog w) A (getAttr o f true) Q E s₁) E s):wpAny (model prog w) A (eval (.Attribute e f pos) env) Q E s:=Attribute_any_ h (by rw[arm_eval_Attribute,hb])
def sG(K:Frag)(ta:TE)(f:Str):TE:=λσ H Q=>ta σ H λx H1=>∃a C dx fs v,x=.ref a/\H1 a=some (.ins C dx fs)/\Cls K C/\NoAttr K C f/\fs.lookup f=some v/\Q v H1
def sH(K:Frag)(ta tv:TE)(f:Str):TS:=λD σ H=>tv σ H λy H1=>ta σ H1 λx H2=>∃a C dx fs,x=.ref a/\H2 a=some (.ins C dx fs)/\Cls K C/\NoAttr K C f/\fs.length<1000/\D.nx σ (Ji H2 a (.ins C dx (KE f y fs)))
theorem kD(he:PE X e ta)(hb:attributeBase e f X.env (eval e X.env)=eval e X.env):PE X (.Attribute e f pos) (sG X.K ta f):=by intro pins s σ H Q I h;refine dL hb (Ja (he pins s σ H _ I h) λu s1 ⟨x,H1,I1,rx,a,C,dx,fs,v,ex,ea,c,n,l,q⟩=>?_);subst ex;obtain rfl:u=Value.ref a:=rx;exact NX I1 ea c n l λu' s2 I2 ru=>⟨v,H1,I2,ru,q⟩
theorem kE(ha:PE X o ta)(hv:PE X value tv)(hs:swapsWith value (some (.Attribute o f pos')) pos.line X.env=pure false):PS X (.Assign [.Attribute o f pos'] value pos) (sH X.K ta tv f):=by intro pins s σ H D I h;refine plainObj_wpAny_Assign_Attribute (Ja (hv pins s σ H _ I h) λu s1 ⟨y,H1,I1,ry,q⟩=>Ja (ha pins s1 σ H1 _ I1 q) λov s2 ⟨x,H2,I2,rx,a,C,dx,fs,ex,ea,c,n,l,q2⟩=>?_) hs;subst ex;obtain rfl:ov=Value.ref a:=rx;exact NY I2 ea c n l ry λs3 I3=>⟨σ,_,I3,q2⟩
inductive TyOf(K:Frag)(H:Hp):V->Value->Prop where
 |non:TyOf K H .non (.type "NoneType")
 |bl (x:Bool):TyOf K H (.bl x) (.type "bool")
 |int (i:Int):TyOf K H (.int i) (.type "int")
 |str (x:Str):TyOf K H (.str x) (.type "str")
 |flt (x:UInt64):TyOf K H (.flt x) (.type "float")
 |lst {a:Addr} {xs:List V} (e:H a=some (.lst xs)):TyOf K H (.ref a) (.type "list")
 |frz {a:Addr} {o:Obj} {xs:List V} (e:H a=some (.frz o (.lst xs))):TyOf K H (.ref a) (.type "list")
 |tup {a:Addr} {xs:List V} (e:H a=some (.tup xs)):TyOf K H (.ref a) (.type "tuple")
 |dK {a:Addr} {kvs:List (Mu×V)} (e:H a=some (.dK kvs)):TyOf K H (.ref a) (.type "dict")
 |dT {a:Addr} {kvs:List (List Mu×V)} (e:H a=some (.dT kvs)):TyOf K H (.ref a) (.type "dict")
 |ins {a C dx:Addr} {fs:List (Str×V)} (e:H a=some (.ins C dx fs)) (cl:Cls K C) (ha:findIn K (.ref C) "__class__"=some (some (.builtin "object.__class__")))
   (hn:specialIn K (.builtin "object.__class__") "__get__"=some (some (.builtin "getset_descriptor.__get__"))) (htk:takesIn K (.builtin "object.__class__")=some true)
   (hm:mroIn K C (.type "object")=some true):TyOf K H (.ref a) (.ref C)
theorem Ki(I:Inv X pins σ H s)(rx:RelV x u)(ty:TyOf X.K H x t)(e:kitOne X.K t c=some b)(h:∀tk,Q (.bool b) {s with toks:=tk}):
  wpAny (model X.prog X.w) A (call (.builtin "isinstance") [u,c]) Q E s:=by
 cases ty with
 |non=>cases (show u=Value.none from rx);exact U5 kitx_none I.kIn True.intro e (λz=>nomatch z) h|bl y=>cases (show u=Value.bool y from rx);exact U5 kitx_bool I.kIn True.intro e (λz=>nomatch z) h|int i=>obtain⟨t,q⟩:=(show ∃t,u=Value.int i t from rx);cases q;exact U5 kitx_int I.kIn True.intro e (λz=>nomatch z) h|str y=>obtain⟨t,q⟩:=(show ∃t,u=Value.str y t from rx);cases q;exact U5 kitx_str I.kIn True.intro e (λz=>nomatch z) h|flt y=>obtain⟨t,q⟩:=(show ∃t,u=Value.float y t from rx);cases q;exact U5 kitx_float I.kIn True.intro e (λz=>nomatch z) h|@lst a xs ea =>cases (show u=Value.ref a from rx);obtain⟨_,_,n,_,h1⟩:=(show ObjOk X.prog X.w H s.heap a (.lst xs) from I.hok a _ ea);exact U5 T6 I.kIn ⟨_,h1,rfl⟩ e (λz=>nomatch z) h|@frz a ob xs ea =>cases (show u=Value.ref a from rx);obtain⟨_,_,_,n,_,h1⟩:=(show ObjOk X.prog X.w H s.heap a (.frz ob (.lst xs)) from I.hok a _ ea);exact U5 T6 I.kIn ⟨_,h1,rfl⟩ e (λz=>nomatch z) h|@tup a xs ea =>cases (show u=Value.ref a from rx);obtain⟨_,_,_,p⟩:=(show ObjOk X.prog X.w H s.heap a (.tup xs) from I.hok a _ ea);obtain⟨o,h1,h2,_⟩:=p;exact U5 Wh I.kIn ⟨o,h1,h2⟩ e (λz=>nomatch z) h|@dK a kvs ea =>cases (show u=Value.ref a from rx);obtain⟨_,_,vs,_,p⟩:=(show ObjOk X.prog X.w H s.heap a (.dK kvs) from I.hok a _ ea);obtain⟨o,es,ep,h1,h2,_⟩:=p;exact U5 kitx_dict I.kIn ⟨o,h1,h2.1⟩ e (λz=>nomatch z) h|@dT a kvs ea =>cases (show u=Value.ref a from rx);obtain⟨_,_,xs,_,o,es,ep,h1,h2,_⟩:=(show ObjOk X.prog X.w H s.heap a (.dT kvs) from I.hok a _ ea);exact U5 kitx_dict I.kIn ⟨o,h1,h2.1⟩ e (λz=>nomatch z) h|@ins a C dx fs ea cl ha hn htk hm =>cases (show u=Value.ref a from rx);obtain⟨mA,O,_⟩:=Gz I.hok ea;obtain⟨od,J,_⟩:=O.look;exact U5 (kitx_own (cl.get _) cl.hd ha hn htk hm) I.kIn J e (λz=>nomatch z) h
structure Room(k:Nat)(A:Around):Prop where
 hd:A.handled=none
 dp:A.depth+3*k+5<recursionLimit
 un:A.units+16*k+200<cLine
theorem Room.mono(r:Room k A)(h:j<=k):Room j A:=⟨r.hd,by have:=r.dp;omega,by have:=r.un;omega⟩
theorem Room.deeper(r:Room (k+1) A)(env:Env):Room k (A.deeper env):=⟨r.hd,by have:=r.dp;show A.depth+1+3*k+5<_;omega,by have:=r.un;show A.units+3+16*k+200<_;omega⟩
theorem NZ{A:Around}{C:Addr}{us:List Value}{kw:List (Str×Value)}:(A.under (.builtin "type.__call__" ⟨.ref C::us,kw⟩)).depth=A.depth+1:=by first|rfl|simp[Around.under,Code.weight,Code.isCreation,Code.isGuard,Code.isCaller,Code.frames,Code.isFrame,guardIds]
theorem N1{A:Around}{C:Addr}{us:List Value}{kw:List (Str×Value)}:(A.under (.builtin "type.__call__" ⟨.ref C::us,kw⟩)).units=A.units+1:=by first|rfl|simp[Around.under,Code.cUnits,Code.frames,Code.isFrame]
theorem Room.make(r:Room (k+1) A)(C:Addr)(us:List Value)(kw:List (Str×Value)):Room k (A.under (.builtin "type.__call__" ⟨.ref C::us,kw⟩)):=⟨r.hd,by have:=r.dp;rw[NZ];omega,by have:=r.un;rw[N1];omega⟩
theorem Room.depth(r:Room k A):A.depth<recursionLimit:=by have:=r.dp;omega
theorem Room.units(r:Room k A):A.units+64<cLine:=by have:=r.un;omega
def sI:TA:=λ_ H Q=>Q [] H
def nR(ta:TE)(tr:TA):TA:=λσ H Q=>ta σ H λx H1=>tr σ H1 λxs H2=>Q (x::xs) H2
theorem Lo:PA X [] sI:=λ_ _ _ _ H Q I h=>Calls.spliced_nil ⟨[],H,I,.nil,h⟩
theorem KF(ha:PE X e te)(hr:PA X es t)(hs:starEach (e::es) X.env=(false,eval e X.env)::starEach es X.env:=by rfl):PA X (e::es) (nR te t):=by intro pos pins s σ H Q I h;rw[hs];show wpAny _ _ (spliced ((false,eval e X.env)::backTo pos (starEach es X.env))) _ _ s;refine Calls.spliced_cons (Ja (ha pins s σ H _ I h) λu s1 ⟨x,H1,I1,r1,q1⟩=>?_);exact Ja (hr pos pins s1 σ H1 _ I1 q1) λus s2 ⟨xs,H2,I2,r2,q2⟩=>⟨x::xs,H2,I2,.cons r1 r2,q2⟩
def sJ(t:TA):TE:=λσ H Q=>t σ H λxs H1=>xs.length<=sizeLine/\∀p,H1 p=none->Q (.ref p) (Ji H1 p (.tup xs))
def sK(t:TA):TE:=λσ H Q=>t σ H λxs H1=>xs.length<=sizeLine/\∀p,H1 p=none->Q (.ref p) (Ji H1 p (.lst xs))
theorem Di(h:PA X es t):PE X (.Tuple es x1 pos) (sJ t):=by intro pins s σ H Q I hq;refine wpAny_Tuple_spliced (Ja (h pos pins s σ H _ I hq) λus s1 ⟨xs,H1,I1,r,z,q⟩=>⟨by rw[<-r.length];exact z,?_⟩);have hf:H1 s1.heap.objs.size=none:=I1.hok.fresh (Um _);refine⟨.ref s1.heap.objs.size,Ji H1 s1.heap.objs.size (.tup xs),I1.laid (t':=s1.toks) (λb u e=>Uk _ e) (Um _) ?_,rfl,q _ hf⟩;exact⟨z,us,r,⟨_,UE _ rfl,rfl,_,rfl⟩⟩
theorem kF(h:PA X es t):PE X (.List es pos) (sK t):=by intro pins s σ H Q I hq;refine wpAny_List_spliced (Ja (h pos pins s σ H _ I hq) λus s1 ⟨xs,H1,I1,r,z,q⟩=>⟨by rw[<-r.length];exact z,?_⟩);have hf:H1 s1.heap.objs.size=none:=I1.hok.fresh (Um _);refine⟨.ref s1.heap.objs.size,Ji H1 s1.heap.objs.size (.lst xs),I1.laid (t':=s1.toks) (λb u e=>Uk _ e) (Um _) ?_,rfl,q _ hf⟩;exact⟨z,us,0,r,UE _ rfl⟩
abbrev Sp:=List V->Hp->VK->XK->Prop
abbrev dM:=List Env->Hp->Shared->XK->Value->Shared->Prop
structure Env0(P:Program)(w:World)(K:Frag)(mg:KB)(base:Heap)(A:Around)(outer:List Env)(s:Shared)(H:Hp):Prop where
 frames:A.frames=some outer
 mod:Mod K mg base
 bs:∀b o,base.get? b=some o->s.heap.get? b=some o/\H b=none
 bsz:base.objs.size<=s.heap.objs.size
 funs:s.heap.FunFrames base outer
 frf:∀b∈Pg outer,H b=none
 hok:HOk P w H s.heap
 bare:AllBare s.gens
def CE(outer:List Env)(P:Program)(w:World)(H:Hp)(s:Shared)(Q:VK)(u:Value)(s':Shared):Prop:=∃v H',s'.os=s.os/\AllBare s'.gens/\Un (Pg outer) [] H H' s.heap s'.heap/\HOk P w H' s'.heap/\RelV v u/\Q v H'
def CR(CX:dM)(outer:List Env)(P:Program)(w:World)(H:Hp)(s:Shared)(Q:VK)(E:XK)(r:Result)(s':Shared):Prop:=
 match r with
 |.ok (.ret u)=>CE outer P w H s Q u s'|.ok _=>False|.error e=>CX outer H s E e s'
structure FnOk(P:Program)(w:World)(K:Frag)(mg:KB)(base:Heap)(CX:dM)(k:Nat)(f:Addr)(fd:FuncData)(ps:List Str)(sp:Sp):Prop where
 len:∀vs H Q E,sp vs H Q E->vs.length=ps.length
 run:∀(A:Around)(outer:List Env)(s:Shared)(H:Hp)(args:Args)(us:List Value)(vs:List V)(Q:VK)(E:XK),Room k A->Env0 P w K mg base A outer s H->BindsTo s fd args (ps.zip us)->Vals vs us->sp vs H Q E->codeAny (model P w) A (.call (.ref f) args) (CR CX outer P w H s Q E) s
theorem Env0.make{P:Program}{w:World}{K:Frag}{mg:KB}{base:Heap}{A:Around}{outer:List Env}{s:Shared}{H:Hp}(e:Env0 P w K mg base A outer s H)(C:Addr)(us:List Value)(kw:List (Str×Value)):
  Env0 P w K mg base (A.under (.builtin "type.__call__" ⟨.ref C::us,kw⟩)) outer s H:=⟨by first|exact e.frames|(simpa[Around.under,Code.envs,Code.isFrame,pushEnvs]using e.frames),e.mod,e.bs,e.bsz,e.funs,e.frf,e.hok,e.bare⟩
theorem Inv.env0(I:Inv X pins σ H s):Env0 X.prog X.w X.K X.mg X.base X.A X.stack s H:=⟨I.ok.frames,I.ok.mod,I.bs,Up I.ok.bsz I.sz,I.stack,I.stkFree,I.hok,I.bare⟩
theorem Inv.after(I:Inv X pins σ H s)(h:CE X.stack X.prog X.w H s Q u s'):EP X pins σ Q u s':=by obtain⟨v,H',os,bare,un,hok,r,q⟩:=h;obtain⟨hh,g,d,t,os'⟩:=s';obtain rfl:os'=s.os:=os;exact⟨v,H',I.call (h':=hh) (g':=g) (d':=d) (t':=t) (ch:=[]) un hok bare (λb z=>absurd z (by simp)),r,q⟩
def Binds(K:Frag)(fd:FuncData)(ps:List Str)(ds:List Value):Prop:=∀(s:Shared)(us:List Value),K.In s.heap->(us++ds).length=ps.length->BindsTo s fd ⟨us,[]⟩ (ps.zip (us++ds))
theorem Binds.all{K:Frag}{fd:FuncData}{ps:List Str}(h:∀us:List Value,us.length=ps.length->bindArgs fd ⟨us,[]⟩=pure (ps.zip us)):Binds K fd ps []:=λs us _ hl=>by rw[U0]at hl ⊢;exact .of_eq (h us hl)
structure Mk(K:Frag)(C f:Addr):Prop where
 makes:makesIn K C=true
 init:findIn K (.ref C) "__init__"=some (some (.ref f))
 fn:isFn K (.ref f)=true
 kp:keepIn K (.ref C)=true
structure FnScope(N P:List Str)(sc:Scope):Prop where
 kind:sc.kind=.function
 co:sc.isCoroutine=false
 gen:sc.isGenerator=false
 nd:N.Nodup
 pre:N.take P.length=P
 par:∀x∈P,sc.names.lookup x=some .local\/sc.names.lookup x=some .cell
 nofree:∀y∈sc.names,y.2≠.free
theorem IF{kindOf:Str->Option NameKind}{x:Str}:∀{binds:List (Str×Value)}{m:KB},(∀v,(x,v)∉binds)->bindL kindOf binds m x=m x
 |[],_,_=>rfl| (n,v)::r,m,h=>by
  unfold bindL;rw[IF λw hw=>h w (Uw _ hw)];split
  ·have:x≠n:=by rintro rfl;exact h v UC
   simp[this]
  ·rfl
theorem IG{kindOf:Str->Option NameKind}{x:Str}:∀{binds:List (Str×Value)}{m:KB},(∀v,(x,v)∉binds)->bindC kindOf binds m x=m x
 |[],_,_=>rfl| (n,v)::r,m,h=>by
  unfold bindC;rw[IG λw hw=>h w (Uw _ hw)];split
  ·rfl
  ·have:x≠n:=by rintro rfl;exact h v UC
   simp[this]
theorem IH{kindOf:Str->Option NameKind}{x:Str}{v:Value}:∀{P:List Str}{vs:List Value}{i:Nat}{m:KB},P.Nodup->P[i]?=some x->vs[i]?=some v->kindOf x=some .local->bindL kindOf (P.zip vs) m x=some v
 |[],_,_,_,_,h,_,_=>by simp at h
 |_::_,[],_,_,_,_,h,_=>by simp at h
 |p::P,w::vs,0,m,nd,h1,h2,hk=>by simp at h1 h2;subst h1;subst h2;show bindL kindOf ((p,w)::P.zip vs) m p=_;unfold bindL;rw[IF λv hv=>(RW.mp nd).1 (WS hv).1,Uc hk];simp
 |p::P,w::vs,i+1,m,nd,h1,h2,hk=>by show bindL kindOf ((p,w)::P.zip vs) m x=_;unfold bindL;exact IH (i:=i) (RW.mp nd).2 (by simpa using h1) (by simpa using h2) hk
theorem II{kindOf:Str->Option NameKind}{x:Str}{v:Value}:∀{P:List Str}{vs:List Value}{i:Nat}{m:KB},P.Nodup->P[i]?=some x->vs[i]?=some v->kindOf x≠some .local->bindC kindOf (P.zip vs) m x=some v
 |[],_,_,_,_,h,_,_=>by simp at h
 |_::_,[],_,_,_,_,h,_=>by simp at h
 |p::P,w::vs,0,m,nd,h1,h2,hk=>by simp at h1 h2;subst h1;subst h2;show bindC kindOf ((p,w)::P.zip vs) m p=_;unfold bindC;rw[IG λv hv=>(RW.mp nd).1 (WS hv).1,Uh hk];simp
 |p::P,w::vs,i+1,m,nd,h1,h2,hk=>by show bindC kindOf ((p,w)::P.zip vs) m x=_;unfold bindC;exact II (i:=i) (RW.mp nd).2 (by simpa using h1) (by simpa using h2) hk
def start(N:List Str)(vs:List V):St:=vs.map some++List.replicate (N.length-vs.length) none
def Gg(CX:dM)(P:Program)(w:World)(K:Frag)(mg:KB)(base:Heap)(N:List Str)(qual:Str)(scope:Scope)(f:Addr)(cd:Value)(A:Around)(outer:List Env)(s:Shared)(H:Hp)(E:XK):Cx where
 prog:=P
 w:=w
 K:=K
 mg:=mg
 base:=base
 A:=A.deeper (envOfC qual scope s.heap.objs.size f cd)
 N:=N
 s₀:=s
 H₀:=H
 env:=envOfC qual scope s.heap.objs.size f cd
 outer:=outer
 stack:=envOfC qual scope s.heap.objs.size f cd::outer
 ex:=[]
 calm:=true
 fn:=λ_=>true
 pn:=[]
 xe:=λe s'=>wpAny (model P w) (A.deeper (envOfC qual scope s.heap.objs.size f cd)) (leaving (envOfC qual scope s.heap.objs.size f cd) e) (λ_ s''=>CX outer H s E e s'') (λe' s''=>CX outer H s E e' s'') s'
theorem Mz{sc:Scope}{n:Nat}{x:Str}(h:sc.names.lookup x=some .cell):∃c,(cellsFrom n sc.names []).lookup x=some c:=by have q:=WI sc.names n [] (.inl h);exact Wz.mp q
theorem SK{CX:dM}{P:Program}{w:World}{K:Frag}{mg:KB}{base:Heap}{N ps:List Str}{qual:Str}{scope:Scope}{f:Addr}{cd:Value}{A:Around}{outer:List Env}{s s1:Shared}{H:Hp}{E:XK}{us:List Value}{vs:List V}(S:FnScope N ps scope)(hd:A.handled=none)(e0:Env0 P w K mg base A outer s H)(hl:vs.length=ps.length)(r:Vals vs us)(x:InCallC s s.heap.objs.size (bindL (envOfC qual scope s.heap.objs.size f cd).kindOf (ps.zip us) λ_=>none) (cellsFrom (s.heap.objs.size+1) scope.names []) (bindC (envOfC qual scope s.heap.objs.size f cd).kindOf (ps.zip us) λ_=>none) s1):
  Inv (Gg CX P w K mg base N qual scope f cd A outer s H E) [] (start N vs) H s1:=by
 have hpl:ps.length<=N.length:=by have:=Tp List.length S.pre;rw[UZ]at this;omega
 obtain⟨h1,tk,rfl,hk⟩:=x.done;have noA:∀b:Addr,b∉(Gg CX P w K mg base N qual scope f cd A outer s H E).ex:=λb z=>absurd (show b∈([]:List Addr) from z) (by simp);refine⟨⟨e0.mod,S.kind,rfl,rfl,Um _,λy z c h1 h2=>?_,λy hy=>?_,λy c _ h=>?_,λ_=>hd,Around.frames_deeper e0.frames,.inr ⟨rfl,rfl⟩,λb z=>absurd z (noA b),e0.bs,e0.bsz,λb _ _=>noA b,λb z=>absurd z (noA b),e0.funs,e0.frf⟩,rfl,e0.bare,Un.kept hk,⟨_,x.toInCall.ns,λi y v h1 h2 h3=>?_⟩,λy c h=>⟨_,x.cell y c h⟩,e0.hok.fresh (Um _),λy c h=>?_,λp hp=>absurd (show p∈([]:Xw) from hp) (by simp),e0.hok.kept hk,?_⟩
 ·exact name_of_addr x.apart (Tz h1) (Tz h2)
 ·have hy:scope.names.lookup y=some .cell\/scope.names.lookup y=some .free:=hy;rcases hy with hy|hy
  ·exact Mz hy
  ·exact absurd rfl (S.nofree _ (Tz hy))
 ·exact UP (x.above y c (Tz h))
 ·have hi:i<vs.length:=by
   unfold start at h2;by_cases hi:i<vs.length
   ·exact hi
   ·rw[Ux (by simpa using hi)]at h2;rw[TU]at h2;split at h2<;>cases h2
  have ha:vs[i]?=some v:=by
   unfold start at h2;rw[Ut (by simpa using hi),UA]at h2;cases e:vs[i]? with
   |none=>rw[e]at h2;cases h2|some a=>rw[e]at h2;cases h2;rfl
  obtain⟨u,hu,rv⟩:=r.get ha;have hp:ps[i]?=some y:=by rw[<-S.pre,List.getElem?_take_of_lt (by omega)];exact h1
  have ndP:ps.Nodup:=by rw[<-S.pre];exact S.nd.sublist (List.take_sublist _ _)
  refine⟨u,rv,?_⟩;rcases S.par y (RN hp) with k|k
  ·exact .inl ⟨k,IH ndP hp hu k⟩
  ·obtain⟨c,e⟩:=Mz (n:=s.heap.objs.size+1) k;refine .inr ⟨.inl k,c,e,?_⟩;have q:=x.cell y c e;rw[II ndP hp hu (by show scope.names.lookup y≠_;rw[k];decide)]at q;exact q
 ·exact e0.hok.fresh (UP (x.above y c (Tz h)))
 ·unfold start;show _=N.length;rw[Uo,Ua,U9];omega
theorem nS{CX:dM}{P:Program}{w:World}{K:Frag}{mg:KB}{base:Heap}{k:Nat}{f:Addr}{name qual:Str}{params:Arguments}{body:List Stmt}{scope:Scope}{dV kV doc pm cdv ct oc:Value}{an od:Option Addr}{osl:Array (Option Value)}{N ps:List Str}{sp:Sp}(lk:K.lookup f=some ⟨oc,od,.func (fnOf name qual params body scope dV kV doc pm an cdv ct),osl⟩)(hcd:codeIn K cdv qual=true)(S:FnScope N ps scope)(len:∀vs H Q E,sp vs H Q E->vs.length=ps.length)(hbody:∀(A:Around) (outer:List Env) (s:Shared) (H:Hp) (vs:List V) (Q:VK) (E:XK),Room k (A.deeper (envOfC qual scope s.heap.objs.size f cdv))->sp vs H Q E->∃t,Ph (Gg CX P w K mg base N qual scope f cdv A outer s H E) body t/\t {nx:=λ_ H'=>Q .non H',rt:=Q} (start N vs) H):
  FnOk P w K mg base CX (k+1) f (fnOf name qual params body scope dV kV doc pm an cdv ct) ps sp:=by
 refine⟨len,λA outer s H args us vs Q E hr e0 hb r hsp=>?_⟩;have hl:=len _ _ _ _ hsp;have KX:K.In s.heap:=e0.mod.kin.keeps λb o e=>(e0.bs b o e).1;have lim:s.heap.NoLimit:=e0.mod.nolimit.keeps λb o e=>(e0.bs b o e).1;have hkind:∀y∈ps.zip us,scope.names.lookup y.1=some .local\/(scope.names.lookup y.1=some .cell/\((cellsFrom (s.heap.objs.size+1) scope.names []).lookup y.1).isSome=true):=λ⟨n,v⟩ hy=>by
  rcases S.par n (WS hy).1 with q|q
  ·exact .inl q
  ·exact .inr ⟨q,WI _ _ _ (.inl q)⟩
 refine codeAny_call_function hr.depth (KX _ _ lk) rfl S.co S.gen rfl (codeRec_of KX hcd) (hb _ _ _ _ ?_);refine wpAny_newFunctionEnv_cells S.kind hkind λenv he s1 x=>?_;subst he;refine⟨lim.keeps x.toInCall.keep,codeAny_func ?_⟩;obtain⟨t,ht,hq⟩:=hbody A outer s H vs Q E (hr.deeper _) hsp;have I:Inv (Gg CX P w K mg base N qual scope f cdv A outer s H E) [] (start N vs) H s1:=SK S hr.hd e0 hl r x;refine Tl (ht [] s1 (start N vs) H _ I hq) (λfl s' hs=>?_) λe s' hs=>hs;have fin:∀{σ':St}{H':Hp}{v:V}{u:Value},Inv (Gg CX P w K mg base N qual scope f cdv A outer s H E) [] σ' H' s'->RelV v u->Q v H'->CE outer P w H s Q u s':=λ{σ' H' v u} J rv q=>⟨v,H',J.os,J.bare,J.base,J.hok,rv,q⟩
 cases fl with
 |ret u =>obtain⟨v,σ',H',J,rv,q⟩:=hs;exact fin J rv q|next =>obtain⟨σ',H',J,q⟩:=hs;exact fin (v:=V.non) (u:=Value.none) J rfl q|brk =>obtain⟨_,_,_,q⟩:=hs;exact False.elim q|cont =>obtain⟨_,_,_,q⟩:=hs;exact False.elim q
section
variable{X:Cx}{x:Str}{p pos:Pos}{e:Expr}{es:List Expr}{t:TA}{id T:String}{r:List V->Hp->VK->Prop}
def vC(r:List V->Hp->VK->Prop)(t:TA):TE:=λσ H Q=>t σ H λvs H1=>r vs H1 Q
theorem Ey(hc:VA X (.builtin id) r)(hg:Gl X x)(hm:X.mg x=none)(hv:bootBuiltins x=some (.builtin id))(ha:PA X (e::es) t)(hn:x ≠"__name__":=by decide)(hdb:(x==("__debug__" : Str))=false:=by decide)(he:starEach (e::es) X.env=(false,eval e X.env)::starEach es X.env:=by rfl)(hpl:(backTo pos (starEach es X.env)).any (·.1)=false:=by rfl):PE X (.Call (.Name x p) (e::es) [] pos) (vC r t):=by intro pins s σ H Q I h;refine Ro (KC I hg hm hv ?_ hn hdb);exact PyProof.Rows.callWith_builtin1 (Ja (ha pos pins s σ H _ I h) λus s1 ⟨vs,H1,I1,r1,q1⟩=>hc pins s1 σ H1 vs us Q I1 r1 q1) he hpl
theorem SL(hc:VA X (.type T) r)(hg:Gl X x)(hm:X.mg x=none)(hv:bootBuiltins x=some (.type T))(ha:PA X (e::es) t)(hn:x ≠"__name__":=by decide)(hdb:(x==("__debug__" : Str))=false:=by decide)(he:starEach (e::es) X.env=(false,eval e X.env)::starEach es X.env:=by rfl)(hpl:(backTo pos (starEach es X.env)).any (·.1)=false:=by rfl):PE X (.Call (.Name x p) (e::es) [] pos) (vC r t):=by intro pins s σ H Q I h;refine Ro (KC I hg hm hv ?_ hn hdb);exact U1 (Ja (ha pos pins s σ H _ I h) λus s1 ⟨vs,H1,I1,r1,q1⟩=>hc pins s1 σ H1 vs us Q I1 r1 q1) he hpl
end
end L2
namespace HT
open PySem PyProof.Rows
theorem cat_tup{t b:Addr}{vs ws:List Value}{Q:VP}(ht:IsTup s.heap t vs.toArray)(hb:IsTup s.heap b ws.toArray)(hv:vs≠[])(h1:ws=[]->Q (.ref t) s)(h2:ws≠[]->Q (.ref s.heap.objs.size) {s with heap:=s.heap.push {cls:=.type "tuple",data:=.seq (vs++ws).toArray} })(hsz:vs.length+ws.length<=sizeLine):wpAny (model prog w) A (binaryOp .Add (.ref t) (.ref b)) Q E s:=by
 obtain⟨⟨cls,dd,data,sl⟩,ho,hc,n,hd⟩:=id ht;obtain⟨⟨cls2,dd2,data2,sl2⟩,ho2,hc2,n2,hd2⟩:=id hb;simp only at hc hd hc2 hd2;subst hc hd hc2 hd2;have e:vs.toArray++ws.toArray=(vs++ws).toArray:=by simp
 by_cases hw:ws=[]
 ·exact concat_meets ⟨_,ho,rfl⟩ ⟨_,ho2,rfl⟩ WD seq_tuple_add Rz Rs (Rj _ _)
   (tuple_addW1 t b vs.toArray ws.toArray n n2 dd dd2 sl sl2 (by simpa using hv) (by simp[hw])) ⟨ho,ho2,h1 hw⟩
 ·refine concat_meets ⟨_,ho,rfl⟩ ⟨_,ho2,rfl⟩ WD seq_tuple_add Rz Rs (Rj _ _)
   (tuple_addW2 t b vs.toArray ws.toArray n n2 dd dd2 sl sl2 (by simpa using hv) (by simpa using hw) (by rw[Ug,Ug];exact hsz)) ⟨ho,ho2,?_⟩
  rw[e];exact h2 hw
def sIx(n d:Nat):Option Int->Nat
 |none=>d|some v=>if v<0 then (v+(n:Int)).toNat else min v.toNat n
theorem kG(n d:Nat)(hd:d<=n)(o:Option Int):sIx n d o<=n:=by
 cases o with
 |none=>exact hd|some v=>
  show(if v<0 then (v+(n:Int)).toNat else min v.toNat n)<=n;by_cases hv:v<0
  ·rw[Uc hv];omega
  ·rw[Uh hv];exact Nat.min_le_right _ _
theorem Pl(v:Int)(n d:Nat):(if v<0 then max (v+(n:Int)) 0 else min v (n:Int))=((sIx n d (some v):Nat):Int):=by
 show(if v<0 then max (v+(n:Int)) 0 else min v (n:Int))=(((if v<0 then (v+(n:Int)).toNat else min v.toNat n):Nat):Int);by_cases hv:v<0
 ·simp only[Uc hv];omega
 ·simp only[Uh hv];omega
theorem N2(lo hi:Option Int)(n:Nat):Builtin.Slice.sliceAdjust lo hi 1 (n:Int)=(((sIx n 0 lo:Nat):Int),((sIx n n hi:Nat):Int)):=by
 have h1:¬((1:Int)<0):=by omega
 unfold Builtin.Slice.sliceAdjust;simp only[h1,Ry];refine Prod.ext ?_ ?_
 ·cases lo with
  |none=>rfl|some v=>exact Pl v n 0
 ·cases hi with
  |none=>rfl|some v=>exact Pl v n n
theorem N3(i j:Nat):Builtin.Slice.slicePlaces (i:Int) (j:Int) 1=j-i:=by
 unfold Builtin.Slice.slicePlaces;have h1:(1:Int)>0:=by omega
 simp only[h1,R0,Int.ediv_one];split<;>omega
theorem GM(p:IsPart v o)(h:Q o s):wpAny (model prog w) A (Builtin.Slice.slicePartIndex v) Q E s:=by
 cases p with
 |none=>exact slicePart_none h|int i t=>exact slicePart_int h
theorem sliceApplied_gen{sl:Addr}{vl vu:Value}{lo hi:Option Int}{n:Nat}{Q:Int×Int×Nat->Shared->Prop}(hs:s.heap.IsSliceOf sl vl vu .none)(pl:IsPart vl lo)(pu:IsPart vu hi)(h:Q (((sIx n 0 lo:Nat):Int),1,sIx n n hi-sIx n 0 lo) s):wpAny (model prog w) A (Builtin.Slice.sliceApplied (.ref sl) (pure (n:Int))) Q E s:=by obtain⟨os,hos,hcs,hds⟩:=id hs;unfold Builtin.Slice.sliceApplied Builtin.Slice.sliceFields;refine Ub (Ub (Th hos hds (x:=vl) rfl (Ub (Th hos hds (x:=vu) rfl (Ub (Th hos hds (x:=.none) rfl (Us ?_)))))));refine Ub (slicePart_none ?_);show wpAny _ _ (if ((1:Int)==0)=true then _ else _) _ _ s;rw[Uh (by decide)];refine Ub (GM pl (Ub (GM pu (Ub (Us ?_)))));show wpAny _ _ (match Builtin.Slice.sliceAdjust lo hi 1 (n:Int) with|(lo,hi)=>pure (lo,(1:Int),Builtin.Slice.slicePlaces lo hi 1)) _ _ s;rw[N2 lo hi n];show wpAny _ _ (pure (((sIx n 0 lo:Nat):Int),(1:Int),Builtin.Slice.slicePlaces ((sIx n 0 lo:Nat):Int) ((sIx n n hi:Nat):Int) 1)) _ _ s;rw[N3];exact Us h
theorem Dj(xs:Array Value)(i k:Nat):((List.range k).filterMap λ(m:Nat)=>xs[((i:Int)+(m:Int)*1).toNat]?).toArray=((xs.toList.drop i).take k).toArray:=by
 have e:(λ(m:Nat)=>xs[((i:Int)+(m:Int)*1).toNat]?)=λm=>xs[i+m]?:=by
  funext m;have:((i:Int)+(m:Int)*1).toNat=i+m:=by omega
  rw[this]
 rw[e];have:=pick_run xs i k;rw[List.filterMap_map]at this;have e2:((λx=>xs[x]?)∘λx=>i+x)=λm=>xs[i+m]?:=rfl;rw[e2]at this;rw[this]
theorem getItem_tuple_cut{t sl:Addr}{items:Array Value}{vl vu:Value}{lo hi:Option Int}{Q:VP}(ht:IsTup s.heap t items)(hs:s.heap.IsSliceOf sl vl vu .none)(pl:IsPart vl lo)(pu:IsPart vu hi)(hw:¬(sIx items.size 0 lo=0/\sIx items.size items.size hi=items.size))(h:Q (.ref s.heap.objs.size) {s with heap:=s.heap.push {cls:=.type "tuple",data:=.seq ((items.toList.drop (sIx items.size 0 lo)).take (sIx items.size items.size hi-sIx items.size 0 lo)).toArray} })(hsz:items.size<=sizeLine):wpAny (model prog w) A (getItem (.ref t) (.ref sl)) Q E s:=by
 have htake:sizeOk (.seq ((items.toList.drop (sIx items.size 0 lo)).take (sIx items.size items.size hi-sIx items.size 0 lo)).toArray):=by show((items.toList.drop (sIx items.size 0 lo)).take (sIx items.size items.size hi-sIx items.size 0 lo)).toArray.size<=sizeLine;rw[Ug,UZ,TB,Tx];omega
 have hj:sIx items.size items.size hi<=items.size:=kG _ _ (Um _) hi;obtain⟨os,hos,hcs,hds⟩:=id hs;have hTs:s.TypeIs (.ref sl) "slice":=⟨os,hos,hcs⟩;unfold getItem;try with_reducible refine Rk ?_
 first|refine Ub (Us ?_)|skip
 refine Ub (wpAny_sequenceKey ht.typeIs (by decide) ?_);refine Ub (TV (name:=Str.ofString "__getitem__") ht.typeIs U2
  (Rb U2 ht.typeIs entry_tuple_getitem ?_ (args_tuple_getitem _ _)))
 show wpAny _ _ (Builtin.Tuple.tupleItemsOf (.ref t) >>= _) _ _ s;refine Ub (tupleItemsOf_ ht ?_);refine Ub (Wb hTs ?_);rw[Uc (by decide)];refine Ub (sliceApplied_gen hs pl pu ?_);have hno:¬((((sIx items.size 0 lo:Nat):Int)==0&&(1:Int)==1&&(sIx items.size items.size hi-sIx items.size 0 lo)==items.size)=true):=by intro q;rw[UD,UD]at q;have q1:((sIx items.size 0 lo:Nat):Int)=0:=Wp q.1.1;have q2:sIx items.size items.size hi-sIx items.size 0 lo=items.size:=Wp q.2;exact hw ⟨by omega,by omega⟩
 show wpAny _ _ (if (((sIx items.size 0 lo:Nat):Int)==0&&(1:Int)==1&&(sIx items.size items.size hi-sIx items.size 0 lo)==items.size)=true then _ else _) _ _ s;rw[Uh hno,Dj];first
  |exact Ub (m:=Builtin.Tuple.tupleExact _) (U7 (Us ⟨_,rfl,Us h⟩) htake)
  |exact Ub (m:=Builtin.Tuple.tupleExact _) (U7 (Ub (Us (Us ⟨_,rfl,Us h⟩))) htake)
  |exact Ub (Ub (m:=Builtin.Tuple.tupleExact _) (U7 (Us (Us ⟨_,rfl,Us h⟩)) htake))
  |exact Ub (Ub (m:=Builtin.Tuple.tupleExact _) (U7 (Us ⟨_,rfl,Us h⟩) htake))
end HT
namespace L2
open PySem PySem.Spec PyProof.Rows
abbrev TO:=St->Hp->(Option Int->Hp->Prop)->Prop
def PO(X:Cx)(e:Option Expr)(t:TO):Prop:=∀(pins:Xw)(s:Shared)(σ:St)(H:Hp)(Q:Option Int->Hp->Prop),Inv X pins σ H s->t σ H Q->wpAny (model X.prog X.w) X.A (evalPart e X.env) (λu s'=>∃o H',Inv X pins σ H' s'/\IsPart u o/\Q o H') X.xe s
def dN:TO:=λ_ H Q=>Q none H
def nT(t:TE):TO:=λσ H Q=>t σ H λx H1=>∃i,x=.int i/\Q (some i) H1
theorem intsAre_of:∀{us:List Value},Vals (ns.map V.int) us->IntsAre us ns:=by
 induction ns with
 |nil=>intro us r;rw[List.map_nil]at r;cases r;exact .nil|cons n ns ih=>
  intro us r;rw[Ti]at r;cases r with
  |cons r1 r2 =>obtain⟨t,e⟩:=r1;subst e;exact .cons n t (ih r2)
section
variable{X:Cx}{e:Expr}{te:TE}{lo hi:Option Expr}{tl th:TO}{pos p2:Pos}
theorem dO:PO X none dN:=by intro pins s σ H Q I h;rw[evalPart_none];exact Us ⟨none,H,I,.none,h⟩
theorem dP(h:PE X e te):PO X (some e) (nT te):=by intro pins s σ H Q I hw;rw[evalPart_some];refine Ja (h pins s σ H _ I hw) λu s1 ⟨x,H1,I1,r1,q1⟩=>?_;obtain⟨i,rfl,q⟩:=q1;obtain⟨t,rfl⟩:=r1;exact⟨some i,H1,I1,.int i t,q⟩
def SlR(X:Cx)(r:V->Option Int->Option Int->Hp->VK->Prop):Prop:=∀(pins:Xw)(s:Shared)(σ:St)(H:Hp)(x:V)(v vl vu:Value)(lo hi:Option Int)(sl:Addr)(Q:VK),Inv X pins σ H s->RelV x v->s.heap.IsSliceOf sl vl vu .none->IsPart vl lo->IsPart vu hi->r x lo hi H Q->∃T id,typeLookup (.type T) "__getitem__"=pure (some (.builtin id))/\s.TypeIs v T/\wpAny (model X.prog X.w) X.A (getItem v (.ref sl)) (EP X pins σ Q) X.xe s
theorem SlR.or(h:SlR X r)(h':SlR X r'):SlR X (λx lo hi H Q=>r x lo hi H Q\/r' x lo hi H Q):=by
 intro pins s σ H x v vl vu lo hi sl Q I rx hs pl pu q;rcases q with q|q
 ·exact h pins s σ H x v vl vu lo hi sl Q I rx hs pl pu q
 ·exact h' pins s σ H x v vl vu lo hi sl Q I rx hs pl pu q
def wC(r:V->Option Int->Option Int->Hp->VK->Prop)(te:TE)(tl th:TO):TE:=λσ H Q=>te σ H λx H1=>tl σ H1 λl H2=>th σ H2 λu H3=>r x l u H3 Q
theorem Dk{r:V->Option Int->Option Int->Hp->VK->Prop}(hr:SlR X r)(he:PE X e te)(hl:PO X lo tl)(hu:PO X hi th):PE X (.Subscript e (.Slice lo hi none p2) pos) (wC r te tl th):=by intro pins s σ H Q I h;refine Subscript_ (Ja (he pins s σ H _ I h) λv s1 ⟨x,H1,I1,r1,q1⟩=>?_);refine wpAny_Slice (Ja (hl pins s1 σ H1 _ I1 q1) λvl s2 ⟨l,H2,I2,pl,q2⟩=>Ja (hu pins s2 σ H2 _ I2 q2) λvu s3 ⟨u,H3,I3,pu,q3⟩=>?_);rw[evalPart_none];refine Us ?_;have I4:Inv X pins σ H3 {s3 with heap:=s3.heap.push {cls:=.type "slice",data:=.fields #[vl,vu,.none]} }:=I3.kept (t':=s3.toks) λb ob q=>Uk _ q;obtain⟨T,id,hT,ht,hg⟩:=hr pins {s3 with heap:=s3.heap.push {cls:=.type "slice",data:=.fields #[vl,vu,.none]} } σ H3 x v vl vu l u s3.heap.objs.size Q I4 r1 (Heap.IsSliceOf.new ..) pl pu q3;show wpAny (model X.prog X.w) X.A (subscriptTail e (.Slice lo hi none p2) v (.ref s3.heap.objs.size)) (EP X pins σ Q) X.xe {s3 with heap:=s3.heap.push {cls:=.type "slice",data:=.fields #[vl,vu,.none]} };exact tail_any (ops:=[.ref s3.heap.objs.size,v]) ht hT hg (by with_unfolding_all rfl)
def MB(xs:List V)(lo hi:Option Int):List V:=(xs.drop (HT.sIx xs.length 0 lo)).take (HT.sIx xs.length xs.length hi-HT.sIx xs.length 0 lo)
theorem F4(xs:List V)(lo hi:Option Int):(MB xs lo hi).length<=xs.length:=by unfold MB;rw[UZ,TB];omega
def sL(K:Frag):V->Option Int->Option Int->Hp->VK->Prop:=λx lo hi H Q=>∃a xs,x=.ref a/\SqT K H a xs/\¬(HT.sIx xs.length 0 lo=0/\HT.sIx xs.length xs.length hi=xs.length)/\∀p,H p=none->Q (.ref p) (Ji H p (.tup (MB xs lo hi)))
theorem sl_tup:SlR X (sL X.K):=by
 intro pins s σ H x v vl vu lo hi sl Q I rx hs pl pu h;obtain⟨a,xs,rfl,hx,hw,q⟩:=h;cases rx;obtain⟨its,r,ht,hz⟩:=I.tuple hx;have hlen:its.toArray.size=xs.length:=by rw[Ug];exact r.length.symm
 refine⟨"tuple",_,U2.lookup,ht.typeIs,?_⟩;refine HT.getItem_tuple_cut ht hs pl pu (by rw[hlen];exact hw) ?_ (by rw[hlen];exact hz);rw[hlen];refine⟨.ref s.heap.objs.size,_,I.laid (t':=s.toks) (o:=.tup (MB xs lo hi)) (λb ob q=>Uk _ q) (Um _) ?_,rfl,q _ (I.hok.fresh (Um _))⟩;exact⟨Up (F4 xs lo hi) hz,_,(r.drop (HT.sIx xs.length 0 lo)).take (HT.sIx xs.length xs.length hi-HT.sIx xs.length 0 lo),IsTup.new _ _⟩
def iB(K:Frag):R2:=λx y H Q=>∃a b xs ys,x=.ref a/\y=.ref b/\SqT K H a xs/\SqT K H b ys/\xs≠[]/\xs.length+ys.length<=sizeLine/\(ys=[]->Q (.ref a) H)/\(ys≠[]->∀p,H p=none->Q (.ref p) (Ji H p (.tup (xs++ys))))
theorem Vals.nil_iff(r:Vals xs us):us=[]↔xs=[]:=by
 cases r with
 |nil=>simp|cons _ _=>simp
theorem dQ:OpR X (binaryOp .Add) (iB X.K):=by intro pins s σ H x y v u Q I rx ry h;obtain⟨a,b,xs,ys,rfl,rfl,ha,hb,hx,hz,q1,q2⟩:=h;cases rx;cases ry;obtain⟨its,r1,p1,_⟩:=I.tuple ha;obtain⟨its2,r2,p2,_⟩:=I.tuple hb;refine HT.cat_tup p1 p2 (λz=>hx (r1.nil_iff.mp z)) (λz=>⟨.ref a,H,I,rfl,q1 (r2.nil_iff.mp z)⟩) (λz=>?_) (by rw[<-r1.length,<-r2.length];exact hz);refine⟨.ref s.heap.objs.size,_,I.laid (t':=s.toks) (o:=.tup (xs++ys)) (λb ob q=>Uk _ q) (Um _) ?_,rfl,q2 (λw=>z (r2.nil_iff.mpr w)) _ (I.hok.fresh (Um _))⟩;exact⟨by rw[Uo];exact hz,_,r1.append r2,IsTup.new _ _⟩
end
def mJ(n:Nat)(i:Int):Option Nat:=if 0<=i then (if i<n then some i.toNat else none) else if -(n:Int)<=i then some (i+n).toNat else none
def kH(xs:List α)(i:Int):Option α:=(mJ xs.length i).bind λj=>xs[j]?
theorem Pm(h:mJ n i=some j):seqIndex? i n=some j/\j<n/\-(n:Int)<=i/\i<n:=by
 unfold mJ at h;by_cases h0:0<=i
 ·rw[Uc h0]at h;by_cases h1:i<n
  ·rw[Uc h1]at h;have e:i.toNat=j:=Option.some.inj h;exact⟨by rw[seqIndex_of h0 h1,e],by omega,by omega,h1⟩
  ·rw[Uh h1]at h;cases h
 ·rw[Uh h0]at h;by_cases h1 : -(n:Int)<=i
  ·rw[Uc h1]at h;have e:(i+n).toNat=j:=Option.some.inj h;exact⟨by rw[seqIndex_neg (by omega) h1,e],by omega,h1,by omega⟩
  ·rw[Uh h1]at h;cases h
theorem Lp(h:kH xs i=some v):∃j,seqIndex? i xs.length=some j/\xs[j]?=some v/\j<xs.length/\-(xs.length:Int)<=i/\i<xs.length:=by
 unfold kH at h;cases e:mJ xs.length i with
 |none=>rw[e]at h;cases h|some j =>rw[e]at h;obtain⟨h1,h2,h3,h4⟩:=Pm e;exact⟨j,h1,h,h2,h3,h4⟩
def Lq(b:Expr):Prop:=∀o i,subscripted b false o i=operate [o,i] (getItem o i)
def IxR(X:Cx)(r:R2):Prop:=∀(value slice:Expr)(pins:Xw)(s:Shared)(σ:St)(H:Hp)(x y:V)(v u:Value)(Q:VK),Inv X pins σ H s->RelV x v->RelV y u->r x y H Q->subscripted slice false v u=operate [v,u] (getItem v u)->wpAny (model X.prog X.w) X.A (subscriptTail value slice v u) (EP X pins σ Q) X.xe s
def vD(X:Cx)(id:String)(r:V->List V->Hp->VK->Prop):Prop:=∀(pins:Xw)(s:Shared)(σ:St)(H:Hp)(x:V)(xs:List V)(v:Value)(us:List Value)(Q:VK),Inv X pins σ H s->RelV x v->Vals xs us->r x xs H Q->wpAny (model X.prog X.w) X.A (call (.builtin id) (v::us)) (EP X pins σ Q) X.xe s
section
variable{X:Cx}{a b:Expr}{ta tb:TE}{pos:Pos}
theorem IxR.or(h:IxR X r)(h':IxR X r'):IxR X (λx y H Q=>r x y H Q\/r' x y H Q):=by
 intro value slice pins s σ H x y v u Q I rx ry q hs;rcases q with q|q
 ·exact h value slice pins s σ H x y v u Q I rx ry q hs
 ·exact h' value slice pins s σ H x y v u Q I rx ry q hs
theorem nU(hr:IxR X r)(ha:PE X a ta)(hb:PE X b tb)(hs:Lq b):PE X (.Subscript a b pos) (nI r ta tb):=by intro pins s σ H Q I h;exact Subscript_ (jY ha hb I h λv u s2 x y H2 I2 rx ry q=>hr a b pins s2 σ H2 x y v u Q I2 rx ry q (hs _ _))
def nV(K:Frag):R2:=λx y H Q=>∃p xs i v,x=.ref p/\y=.int i/\SqL K H p xs/\kH xs i=some v/\Q v H
def nW(K:Frag):R2:=λx y H Q=>∃p xs i v,x=.ref p/\y=.int i/\SqT K H p xs/\kH xs i=some v/\Q v H
def nX:R2:=λx y H Q=>∃z i c,x=.str z/\y=.int i/\z.length<=sizeLine/\kH z.cps.toList i=some c/\Q (.str ⟨#[c]⟩) H
theorem ix_list:IxR X (nV X.K):=by
 intro value slice pins s σ H x y v u Q I rx ry h hs;obtain⟨p,xs,i,z,rfl,rfl,hq,he,q⟩:=h;cases rx;obtain⟨t,rfl⟩:=ry;obtain⟨its,r,pl,hz⟩:=I.list hq;obtain⟨j,h1,h2,h3,h4,h5⟩:=Lp he;obtain⟨w,ew,rw'⟩:=r.get h2;have hl:=r.length;have hn:=BE;have fin:EP X pins σ Q w s:=⟨z,H,I,rw',q⟩;by_cases h0:0<=i
 ·have hj:i.toNat=j:=by rw[seqIndex_of h0 h5]at h1;exact Option.some.inj h1
  exact item_listR pl.isList h0 (by omega) (by rw[hj];simpa using ew) fin hs
 ·have hj:(i+(its.toArray.size:Int)).toNat=j:=by rw[seqIndex_neg (by omega) h4]at h1;rw[Ug,<-hl];exact Option.some.inj h1
  exact subscriptTail_builtinR (x:=w) pl.isList.typeIs slot_list_getitem.lookup
   (wpAny_getItem_list_neg (Q:=λr s'=>r=w/\EP X pins σ Q r s') pl.isList (by omega) (by rw[Ug]<;>omega) (by omega) (by rw[hj];simpa using ew) ⟨rfl,fin⟩) hs
theorem ix_tup:IxR X (nW X.K):=by
 intro value slice pins s σ H x y v u Q I rx ry h hs;obtain⟨p,xs,i,z,rfl,rfl,hq,he,q⟩:=h;cases rx;obtain⟨t,rfl⟩:=ry;obtain⟨its,r,pl,hz⟩:=I.tuple hq;obtain⟨j,h1,h2,h3,h4,h5⟩:=Lp he;obtain⟨w,ew,rw'⟩:=r.get h2;have hl:=r.length;have hn:=BE;have fin:EP X pins σ Q w s:=⟨z,H,I,rw',q⟩;exact subscriptTail_builtinR (x:=w) pl.typeIs slot_tuple_getitem.lookup
  (getItem_tuple (j:=j) (Q:=λr s'=>r=w/\EP X pins σ Q r s') pl (by omega) (by omega) (by rw[Ug,<-hl];exact h1) (by simpa using ew) ⟨rfl,fin⟩) hs
theorem kI:IxR X nX:=by
 intro value slice pins s σ H x y v u Q I rx ry h hs;obtain⟨z,i,c,rfl,rfl,hz,he,q⟩:=h;obtain⟨t,rfl⟩:=rx;obtain⟨t',rfl⟩:=ry;obtain⟨j,h1,h2,h3,h4,h5⟩:=Lp he;have hl:z.cps.toList.length=z.length:=by simp[Str.length]
 rw[hl]at h1 h4 h5;have hn:=BE;exact tail_any (typeIs_str s z t) slot_str_getitem.lookup (getItem_str (c:=c) (by have e1:decide (i < -(2^63:Int))=false:=Ur (by omega);have e2:decide (i>=2^63)=false:=Ur (by omega);rw[e1,e2,WB]) (by rw[h1];simpa using h2) ⟨.str ⟨#[c]⟩,H,I.tok _,⟨_,rfl⟩,q⟩) hs
def vE(K:Frag):R2:=λx y H Q=>nV K x y H Q\/nW K x y H Q\/nX x y H Q
theorem kJ:IxR X (vE X.K):=ix_list.or (ix_tup.or kI)
theorem N4(its:List Value)(n j:Nat)(u:Value):Obj.mapSeq (·.setIfInBounds j u) {cls:=.type "list",data:=.seq its.toArray n} = {cls:=.type "list",data:=.seq (its.set j u).toArray n}:=by simp[Obj.mapSeq]
theorem Inv.lst(I:Inv X pins σ H s)(h:H p=some (.lst xs)):
  ∃(its:List Value)(n:Nat),Vals xs its/\s.heap.get? p=some {cls:=.type "list",data:=.seq its.toArray n}/\xs.length<=sizeLine:=by
 obtain⟨z,its,n,r,e⟩:=I.hok p _ h;exact⟨its,n,r,e,z⟩
theorem Inv.lstUpd{pins:Xw}{σ:St}{H:Hp}{s:Shared}{p:Addr}{xs ys:List V}{its its':List Value}{n n':Nat}{f:Obj->Obj}(I:Inv X pins σ H s)(h:H p=some (.lst xs))(ho:s.heap.get? p=some {cls:=.type "list",data:=.seq its.toArray n})(hf:f {cls:=.type "list",data:=.seq its.toArray n} = {cls:=.type "list",data:=.seq its'.toArray n'})(r:Vals ys its')(hz:ys.length<=sizeLine)(t:Nat):
  Inv X pins σ (Ji H p (.lst ys)) {s with heap:=s.heap.update p f,toks:=t}:=by
 have e:(s.heap.update p f).get? p=some {cls:=.type "list",data:=.seq its'.toArray n'}:=by rw[T1 f ho (by rw[hf]<;>rfl),hf]
 refine I.write (x:=p) (e:=p) (by rw[h];trivial) (.inl rfl) (λb u hb q=>(Te _ _ (Ne.symm hb)).trans q) ⟨_,e⟩ ?_;exact⟨hz,its',n',r,e⟩
def nY:V->V->V->Hp->(Hp->Prop)->Prop:=λo i v H Q=>∃p xs k j,o=.ref p/\i=.int k/\H p=some (.lst xs)/\mJ xs.length k=some j/\Q (Ji H p (.lst (xs.set j v)))
theorem Dl:nD X nY:=by
 intro pins s σ H o i v ov iv u Q I ro ri rv h;obtain⟨p,xs,k,j,rfl,rfl,hp,hj,q⟩:=h;cases ro;obtain⟨t,rfl⟩:=ri;obtain⟨its,n,r,ho,hz⟩:=I.lst hp;obtain⟨h1,h2,h3,h4⟩:=Pm hj;have hl:=r.length;have hn:=BE;have I':Inv X pins σ (Ji H p (.lst (xs.set j v))) {s with heap:=s.heap.update p (Obj.mapSeq (·.setIfInBounds j u))}:=I.lstUpd hp ho (N4 its n j u) (r.set rv j) (by rw[UH];exact hz) s.toks
 by_cases h0:0<=k
 ·have hk:k.toNat=j:=by rw[seqIndex_of h0 h4]at h1;exact Option.some.inj h1
  exact ki_setAt ho h0 (by omega) (by rw[Ug,<-hl];exact h4) (by rw[hk];exact⟨_,I',q⟩)
 ·have hk:(k+(its.toArray.size:Int)).toNat=j:=by rw[seqIndex_neg (by omega) h3]at h1;rw[Ug,<-hl];exact Option.some.inj h1
  exact ki_setBack ho (by omega) (by rw[Ug,<-hl];exact h3) (by omega) (by rw[hk];exact⟨_,I',q⟩)
theorem Lr(lo hi:Option Int)(n:Nat):(sliceBounds lo hi none n).1=((HT.sIx n 0 lo:Nat):Int)/\(sliceBounds lo hi none n).2.1=((HT.sIx n n hi:Nat):Int)/\(sliceBounds lo hi none n).2.2=1:=by
 refine⟨?_,?_,rfl⟩
 ·cases lo with
  |none=>simp[sliceBounds,HT.sIx]|some i=>
   simp only[sliceBounds,HT.sIx,Option.getD_none,show(1:Int)>0 by decide,R0];by_cases h:i<0
   ·simp only[h,R0]<;>omega
   ·simp only[h,Ry]<;>omega
 ·cases hi with
  |none=>simp[sliceBounds,HT.sIx]|some i=>
   simp only[sliceBounds,HT.sIx,Option.getD_none,show(1:Int)>0 by decide,R0];by_cases h:i<0
   ·simp only[h,R0]<;>omega
   ·simp only[h,Ry]<;>omega
theorem HZ(its:List Value)(lo hi:Option Int):slicePick its.toArray lo hi none=((its.drop (HT.sIx its.length 0 lo)).take (HT.sIx its.length its.length hi-HT.sIx its.length 0 lo)).toArray:=by obtain⟨h1,h2,h3⟩:=Lr lo hi its.toArray.size;unfold slicePick;rw[h1,h2,h3];simp only[sliceRange_one,pick_run,Ug]<;>rfl
def sM(K:Frag):V->Option Int->Option Int->Hp->VK->Prop:=λx lo hi H Q=>∃a xs,x=.ref a/\SqL K H a xs/\∀p,H p=none->Q (.ref p) (Ji H p (.lst (MB xs lo hi)))
theorem dR:SlR X (sM X.K):=by intro pins s σ H x v vl vu lo hi sl Q I rx hs pl pu h;obtain⟨a,xs,rfl,hx,q⟩:=h;cases rx;obtain⟨its,r,ht,hz⟩:=I.list hx;have hlen:=r.length;refine⟨"list",_,slot_list_getitem.lookup,ht.isList.typeIs,?_⟩;refine wpAny_getItem_list_slice ht.isList hs pl pu .none (by simp) ?_ (by rw[Ug]<;>omega);rw[HZ,<-hlen];refine⟨.ref s.heap.objs.size,_,I.laid (t':=s.toks) (o:=.lst (MB xs lo hi)) (λb ob q=>Uk _ q) (Um _) ?_,rfl,q _ (I.hok.fresh (Um _))⟩;exact⟨Up (F4 xs lo hi) hz,_,0,(r.drop (HT.sIx xs.length 0 lo)).take (HT.sIx xs.length xs.length hi-HT.sIx xs.length 0 lo),UE _ rfl⟩
def CH:V->Bool
 |.non=>true|.bl _=>true|.int _=>true|.str _=>true|_=>false
def cO:V->V->Bool
 |.non,.non=>true|.bl a,.bl b=>a==b|.bl a,.int b=>(if a then 1 else 0)==b|.int a,.bl b=>a==(if b then 1 else 0)|.int a,.int b=>a==b|.str a,.str b=>a==b|_,_=>false
theorem kK(ry:RelV y u)(rx:RelV x v)(fy:CH y=true)(fx:CH x=true):SeqAt.EqAt A s u v (cO y x):=by
 cases y with
 |non=>
  cases ry;cases x with
  |non=>cases rx;exact RX _|bl b=>cases rx;exact SeqAt.EqAt.none_bool b|int b=>obtain⟨t,rfl⟩:=rx;exact SeqAt.EqAt.none_int b t|str b=>obtain⟨t,rfl⟩:=rx;exact SeqAt.EqAt.none_str b t|_=>exact absurd (show false=true from fx) Ue
 |bl a=>
  cases ry;cases x with
  |non=>cases rx;exact SeqAt.EqAt.bool_none a|bl b=>cases rx;exact SeqAt.EqAt.bool_bool a b|int b=>obtain⟨t,rfl⟩:=rx;exact SeqAt.EqAt.bool_int a b t|str b=>obtain⟨t,rfl⟩:=rx;exact SeqAt.EqAt.bool_str a b t|_=>exact absurd (show false=true from fx) Ue
 |int a=>
  obtain⟨t',rfl⟩:=ry;cases x with
  |non=>cases rx;exact SeqAt.EqAt.int_none a t'|bl b=>cases rx;exact SeqAt.EqAt.int_bool a t' b|int b=>obtain⟨t,rfl⟩:=rx;exact SeqAt.EqAt.int_int a t' b t|str b=>obtain⟨t,rfl⟩:=rx;exact We a t' b t|_=>exact absurd (show false=true from fx) Ue
 |str a=>
  obtain⟨t',rfl⟩:=ry;cases x with
  |non=>cases rx;exact SeqAt.EqAt.str_none a t'|bl b=>cases rx;exact SeqAt.EqAt.str_bool a t' b|int b=>obtain⟨t,rfl⟩:=rx;exact Wf a t' b t|str b=>obtain⟨t,rfl⟩:=rx;exact SeqAt.EqAt.str_str a t' b t|_=>exact absurd (show false=true from fx) Ue
 |_=>exact absurd (show false=true from fy) Ue
def N5(x:V)(u:Value):Bool:=match u with
 |.none=>cO .non x|.bool b=>cO (.bl b) x|.int i _=>cO (.int i) x|.str z _=>cO (.str z) x|_=>false
theorem Dm(r:RelV y u)(f:CH y=true):N5 x u=cO y x:=by
 cases y with
 |non=>cases r;rfl|bl b=>cases r;rfl|int i=>obtain⟨t,rfl⟩:=r;rfl|str z=>obtain⟨t,rfl⟩:=r;rfl|_=>exact absurd (show false=true from f) Ue
theorem Ez:∀{xs:List V}{us:List Value},Vals xs us->xs.all CH=true->us.any (N5 x)=xs.any λy=>cO y x
 |_,_,.nil,_=>rfl|y::xs,u::us,.cons r t,f=>by rw[T5,UD]at f;rw[Rm,Rm,Dm r f.1,Ez t f.2]
theorem BF(rx:RelV x v)(fx:CH x=true):∀{xs:List V}{us:List Value},Vals xs us->xs.all CH=true->∀u∈us,SeqAt.EqAt A s u v (N5 x u)
 |_,_,.nil,_=>λu hu=>by cases hu
 |y::xs,u::us,.cons r t,f=>λu' hu=>by
  rw[T5,UD]at f;rcases Ud.mp hu with rfl|hu
  ·rw[Dm r f.1];exact kK r rx f.1 fx
  ·exact BF rx fx t f.2 u' hu
def inV(x:V)(xs:List V):Bool:=xs.any λy=>cO y x
def sN(K:Frag)(neg:Bool):R2:=λx y H Q=>∃p xs,y=.ref p/\(SqL K H p xs\/SqT K H p xs)/\CH x=true/\xs.all CH=true/\Q (.bl (if neg then !inV x xs else inV x xs)) H
theorem IJ:OpR X (compareOp .In) (sN X.K false):=by
 intro pins s σ H x y v u Q I rx ry h;obtain⟨p,xs,rfl,hq,fx,fs,q⟩:=h;cases ry;rcases hq with hq|hq
 ·obtain⟨its,r,pl,hz⟩:=I.list hq;refine SeqAt.in_listAt (N5 x) pl.isList (λw hw=>BF rx fx r fs w (by simpa using hw)) ⟨.bl _,H,I,rfl,?_⟩;rw[show its.toArray.any (N5 x)=its.any (N5 x) by simp,Ez r fs];exact q
 ·obtain⟨its,r,pl,hz⟩:=I.tuple hq;refine SeqAt.in_tupleAt (N5 x) pl (λw hw=>BF rx fx r fs w (by simpa using hw)) ⟨.bl _,H,I,rfl,?_⟩;rw[show its.toArray.any (N5 x)=its.any (N5 x) by simp,Ez r fs];exact q
theorem Ls:OpR X (compareOp .NotIn) (sN X.K true):=by
 intro pins s σ H x y v u Q I rx ry h;obtain⟨p,xs,rfl,hq,fx,fs,q⟩:=h;cases ry;rcases hq with hq|hq
 ·obtain⟨its,r,pl,hz⟩:=I.list hq;refine SeqAt.notIn_listAt (N5 x) pl.isList (λw hw=>BF rx fx r fs w (by simpa using hw)) ⟨.bl _,H,I,rfl,?_⟩;rw[show its.toArray.any (N5 x)=its.any (N5 x) by simp,Ez r fs];exact q
 ·obtain⟨its,r,pl,hz⟩:=I.tuple hq;refine SeqAt.notIn_tupleAt (N5 x) pl (λw hw=>BF rx fx r fs w (by simpa using hw)) ⟨.bl _,H,I,rfl,?_⟩;rw[show its.toArray.any (N5 x)=its.any (N5 x) by simp,Ez r fs];exact q
theorem Lu:VA X (.builtin "len") (λxs H Q=>∃p ys,xs=[.ref p]/\(SqL X.K H p ys\/SqT X.K H p ys)/\Q (.int ys.length) H):=by
 intro pins s σ H xs us Q I r h;obtain⟨p,ys,rfl,hq,q⟩:=h;obtain⟨u,rfl,rx⟩:=My r;cases rx;have hn:=BE;rcases hq with hq|hq
 ·obtain⟨its,r',pl,hz⟩:=I.list hq;have hlen:=r'.length;exact Calls.call_len_list pl.isList (by simp only[Ug]<;>omega) ⟨.int ys.length,H,I.tok _,⟨s.toks+1,by rw[Ug,hlen]⟩,q⟩
 ·obtain⟨its,r',pl,hz⟩:=I.tuple hq;have hlen:=r'.length;exact len_tuple pl (by simp only[Ug]<;>omega) ⟨.int ys.length,H,I.tok _,⟨s.toks+1,by rw[Ug,hlen]⟩,q⟩
theorem Lv:VA X (.type "list") (λxs H Q=>∃p ys,xs=[.ref p]/\(SqL X.K H p ys\/SqT X.K H p ys)/\∀l,H l=none->Q (.ref l) (Ji H l (.lst ys))):=by
 intro pins s σ H xs us Q I r h;obtain⟨p,ys,rfl,hq,q⟩:=h;obtain⟨u,rfl,rx⟩:=My r;cases rx;have fin:∀(its:List Value),Vals ys its->ys.length<=sizeLine->∀(h':Heap)(c':Nat),(∀b o',s.heap.get? b=some o'->h'.get? b=some o')->h'.get? s.heap.objs.size=some {cls:=.type "list",dict:=none,data:=.seq its.toArray c',slots:=#[]}->EP X pins σ Q (.ref s.heap.objs.size) {s with heap:=h'}:=λits r' hz h' c' kp e=>
  ⟨.ref s.heap.objs.size,_,I.laid (t':=s.toks) kp (Um _) (show ObjOk X.prog X.w _ h' _ (.lst ys) from ⟨hz,its,c',r',e⟩),rfl,q _ (I.hok.fresh (Um _))⟩
 rcases hq with hq|hq
 ·obtain⟨its,r',pl,hz⟩:=I.list hq;have hlen:=r'.length;obtain⟨o,ho,hc,n,hd⟩:=pl.isList;exact call_list_seq p (.inl rfl) ho hc hd (λh' c' kp e=>fin its r' hz h' c' kp e) (by simp only[Ug]<;>omega)
 ·obtain⟨its,r',pl,hz⟩:=I.tuple hq;have hlen:=r'.length;obtain⟨o,ho,hc,n,hd⟩:=pl;exact call_list_seq p (.inr rfl) ho hc hd (λh' c' kp e=>fin its r' hz h' c' kp e) (by simp only[Ug]<;>omega)
theorem Ia:VA X (.type "tuple") (λxs H Q=>∃p ys,xs=[.ref p]/\((SqL X.K H p ys/\∀l,H l=none->Q (.ref l) (Ji H l (.tup ys)))\/(SqT X.K H p ys/\Q (.ref p) H))):=by
 intro pins s σ H xs us Q I r h;obtain⟨p,ys,rfl,h⟩:=h;obtain⟨u,rfl,rx⟩:=My r;cases rx;rcases h with⟨hq,q⟩|⟨hq,q⟩
 ·obtain⟨its,r',pl,hz⟩:=I.list hq;have hlen:=r'.length;refine call_tuple_list pl.isList (λh' kp=>?_) (by simp only[Ug]<;>omega);have I1:Inv X pins σ H {s with heap:=h'}:=I.kept (t':=s.toks) kp;have I2:Inv X pins σ (Ji H h'.objs.size (.tup ys)) {s with heap:=h'.push {cls:=.type "tuple",data:=.seq its.toArray} }:=I1.laid (t':=s.toks) (λb o e=>Uk _ e) (Um _) (show ObjOk X.prog X.w _ _ _ (.tup ys) from ⟨hz,its,r',IsTup.new _ _⟩)
  exact⟨.ref h'.objs.size,_,I2,rfl,q _ (I1.hok.fresh (Um _))⟩
 ·obtain⟨its,r',pl,hz⟩:=I.tuple hq;exact call_tuple_same pl ⟨.ref p,H,I,rfl,q⟩
def sO(K:Frag)(T:String)(x:V)(H:Hp):Prop:=match x with
 |.str _=>T ="str"|.int _=>T ="int"|.ref p=>(T ="list"/\∃xs,SqL K H p xs)\/(T ="tuple"/\∃o,K.lookup p=some o/\o.cls=.type "tuple"/\o.dict=none)\/(T ="dict"/\((∃kvs,H p=some (.dK kvs))\/∃kvs,H p=some (.dT kvs)))\/(T ="set"/\∃S n,H p=some (.set S n))
 |_=>False
theorem Dn(I:Inv X pins σ H s)(r:RelV x v)(ty:sO X.K T x H):
  s.TypeIs v T/\∀a,v=.ref a->∃ob,s.heap.get? a=some ob/\ob.dict=none:=by
 cases x with
 |str z =>obtain⟨t,rfl⟩:=r;cases (show T ="str" from ty);exact⟨typeIs_str s z t,λ_ e=>nomatch e⟩|int i =>obtain⟨t,rfl⟩:=r;cases (show T ="int" from ty);exact⟨typeIs_int s i t,λ_ e=>nomatch e⟩|ref p=>
  cases r;rcases ty with⟨rfl,xs,hq⟩|⟨rfl,o,hk,hc,hd⟩|⟨rfl,hk⟩|⟨rfl,S,n,hk⟩
  ·obtain⟨its,_,pl,_⟩:=I.list hq;refine⟨pl.isList.typeIs,λa e=>?_⟩;cases e;obtain⟨o,n,e,c,hd,_⟩:=pl;exact⟨o,e,hd⟩
  ·refine⟨⟨o,I.kIn p o hk,hc⟩,λa e=>?_⟩;cases e;exact⟨o,I.kIn _ o hk,hd⟩
  ·have z:∃o,s.heap.get? p=some o/\o.ExactDict:=by
    rcases hk with⟨kvs,hk⟩|⟨kvs,hk⟩
    ·obtain⟨_,_,_,_,o,_,_,e,ex,_⟩:=I.hok p _ hk;exact⟨o,e,ex⟩
    ·obtain⟨_,_,_,_,o,_,_,e,ex,_⟩:=I.hok p _ hk;exact⟨o,e,ex⟩
   obtain⟨o,e,ex⟩:=z;refine⟨⟨o,e,ex.1⟩,λa e2=>?_⟩;cases e2;exact⟨o,e,ex.2.1⟩
  ·obtain⟨o,_,_,_,e,ex,_⟩:=I.hok p _ hk;refine⟨⟨o,e,ex.1⟩,λa e2=>?_⟩;cases e2;exact⟨o,e,ex.2.1⟩
 |_=>exact False.elim ty
def sP(K:Frag)(T:String)(r:V->List V->Hp->VK->Prop)(to:TE):TE:=λσ H Q=>to σ H λx H1=>sO K T x H1/\r x [] H1 Q
def wD(K:Frag)(T:String)(r:V->List V->Hp->VK->Prop)(to:TE)(t:TA):TE:=λσ H Q=>to σ H λx H1=>sO K T x H1/\t σ H1 λxs H2=>r x xs H2 Q
variable{o e:Expr}{es:List Expr}{to:TE}{t:TA}{name:Str}{apos cpos:Pos}{T id:String}{r:V->List V->Hp->VK->Prop}
theorem kL(pa:PlainAttrs T)(slot:Slot T name id)(hty:typeOf (.builtin id)=pure (.type "method_descriptor"))(hm:vD X id r)(ho:PE X o to)(hbase:attributeBase o name X.env (eval o X.env)=eval o X.env:=by rfl)(hline:(apos.endLine==cpos.line)=true:=by rfl):PE X (.Call (.Attribute o name apos) [] [] cpos) (sP X.K T r to):=by intro pins s σ H Q I h;refine wpAny_Call_method0_late hbase hline (Ja (ho pins s σ H _ I h) λv s1 ⟨x,H1,I1,r1,ty,q1⟩=>?_);obtain⟨h1,h2⟩:=Dn I1 r1 ty;exact⟨T,id,pa,slot,hty,h1,h2,Calls.callWith_builtin rfl (PySem.evalArgs_none (hm pins s1 σ H1 x [] v [] Q I1 r1 .nil q1))⟩
theorem iC(pa:PlainAttrs T)(slot:Slot T name id)(hty:typeOf (.builtin id)=pure (.type "method_descriptor"))(hm:vD X id r)(ho:PE X o to)(ha:PA X (e::es) t)(hbase:attributeBase o name X.env (eval o X.env)=eval o X.env:=by rfl)(hfew:((backTo cpos (starEach (e::es) X.env)).all (λx=>!x.1)&&(backToKw cpos (keywordEach [] X.env)).all (λx=>x.1.isSome)
   && decide ((e::es).length+([]:List Keyword).length+(if ([]:List Keyword).isEmpty then 0 else 1)<30))=true:=by rfl)(hline:(apos.endLine==cpos.line)=true:=by rfl)(hs:starEach (e::es) X.env=(false,eval e X.env)::starEach es X.env:=by rfl)(hplain:(backTo cpos (starEach es X.env)).any (·.1)=false:=by rfl):
  PE X (.Call (.Attribute o name apos) (e::es) [] cpos) (wD X.K T r to t):=by
 intro pins s σ H Q I h;refine wpAny_Call_method_late hbase hfew hline rfl (Ja (ho pins s σ H _ I h) λv s1 ⟨x,H1,I1,r1,ty,q1⟩=>?_);obtain⟨h1,h2⟩:=Dn I1 r1 ty;refine⟨T,id,pa,slot,hty,h1,h2,?_⟩;have hA:=ha cpos pins s1 σ H1 _ I1 q1;rw[hs]at hA ⊢;refine Calls.callWith_builtin (by show(false||(backTo cpos (starEach es X.env)).any (·.1))=false;rw[hplain]<;>rfl) (Calls.evalArgs_plain ?_);exact Ja hA λus s2 ⟨vs,H2,I2,r2,q2⟩=>hm pins s2 σ H2 x vs v us Q I2 r1 r2 q2
end
def nZ(X:Cx)(id:String)(r:V->List V->Hp->VK->Prop):Prop:=∀(pins:Xw)(s:Shared)(σ:St)(H:Hp)(x:V)(xs:List V)(v:Value)(us:List Value)(Q:VK),Inv X pins σ H s->RelV x v->Vals xs us->r x xs H Q->wpAny (model X.prog X.w) X.A (call (.builtin id) (v::us)) (EP X pins σ Q) X.xe s
theorem Vals.one{us:List Value}(h:Vals [x] us):∃u,us=[u]/\RelV x u:=by rcases h with _|⟨r,_|_⟩;exact⟨_,rfl,r⟩
theorem Vals.two{us:List Value}(h:Vals [x,y] us):∃u v,us=[u,v]/\RelV x u/\RelV y v:=by rcases h with _|⟨r,_|⟨q,_|_⟩⟩;exact⟨_,_,rfl,r,q⟩
theorem Vals.zero:∀{us:List Value},Vals [] us->us=[]
 |_,.nil=>rfl
theorem Vals.dropLast(h:Vals xs us):Vals xs.dropLast us.dropLast:=by
 induction h with
 |nil=>exact .nil|cons r t ih=>
  cases t with
  |nil=>exact .nil|cons q t'=>exact .cons r ih
theorem Vals.rep(h:Vals xs us):∀k:Nat,Vals (List.replicate k xs).flatten (List.replicate k us).flatten
 |0=>.nil|k+1=>by rw[UX,UX,Tu,Tu];exact Vals.append h (Vals.rep h k)
theorem N6(l:List α):l.eraseIdx (l.length-1)=l.dropLast:=by
 induction l with
 |nil=>rfl|cons a r ih=>
  cases r with
  |nil=>rfl|cons b r=>
   have e:(a::b::r).length-1=((b::r).length-1)+1:=by have h1:(a::b::r).length=r.length+2:=rfl;have h2:(b::r).length=r.length+1:=rfl;omega
   rw[e,List.eraseIdx_cons_succ,ih];all_goals rfl
theorem foldl_rep(its:List Value):∀(k:Nat)(acc:List Value),List.foldl (λx1 x2=>x1++x2) acc.toArray (List.replicate k its.toArray)=(acc++(List.replicate k its).flatten).toArray
 |0,acc=>by simp
 |k+1,acc=>by
  have e:acc.toArray++its.toArray=(acc++its).toArray:=by simp
  have e2:(acc++its)++(List.replicate k its).flatten=acc++(List.replicate (k+1) its).flatten:=by rw[UX,Tu,Ws]
  rw[<-e2,<-foldl_rep its k (acc++its),<-e,UX,List.foldl_cons]
theorem Inv.lset{its its':List Value}{n:Nat}{f:Array Value->Array Value}{t':Nat}(I:Inv X pins σ H s)(hH:H l=some (.lst xs))(e:s.heap.get? l=some {cls:=.type "list",data:=.seq its.toArray n})(hf:f its.toArray=its'.toArray)(hv:Vals ys its')(hz:ys.length<=sizeLine):
  Inv X pins σ (Ji H l (.lst ys)) {s with heap:=s.heap.update l (Obj.mapSeq f),toks:=t'}:=by
 have q:=PySem.IsL.update e f;rw[hf]at q;refine I.write (x:=l) (e:=l) (by rw[hH];exact trivial) (.inl rfl) (λb' u hb hu=>(Te s.heap (Obj.mapSeq f) (Ne.symm hb)).trans hu) ⟨_,q⟩ ?_;exact⟨hz,its',_,hv,q⟩
theorem Inv.lnew(I:Inv X pins σ H s)(hv:Vals ys its)(hz:ys.length<=sizeLine):
  Inv X pins σ (Ji H s.heap.objs.size (.lst ys)) {s with heap:=s.heap.push {cls:=.type "list",data:=.seq its.toArray},toks:=t'}:=I.laid (λ_ _ q=>Uk _ q) (Um _) ⟨hz,its,0,hv,UE _ rfl⟩
theorem Inv.fresh(I:Inv X pins σ H s):H s.heap.objs.size=none:=I.hok.fresh (Um _)
theorem Inv.lstM(I:Inv X pins σ H s)(hH:H l=some (.lst xs)):xs.length<=sizeLine/\∃(its:List Value)(n:Nat),Vals xs its/\xs.length=its.length/\s.heap.get? l=some {cls:=.type "list",data:=.seq its.toArray n}:=by obtain⟨z,its,n,r,e⟩:=I.hok l _ hH;exact⟨z,its,n,r,r.length,e⟩
theorem MC(h:n<=sizeLine):Builtin.List.listTooLong n=false:=by unfold Builtin.List.listTooLong;exact Ur (by omega)
def dS:V->List V->Hp->VK->Prop:=λx vs H Q=>∃l xs y,x=.ref l/\vs=[y]/\H l=some (.lst xs)/\xs.length<sizeLine/\Q .non (Ji H l (.lst (xs++[y])))
theorem SM:nZ X "list.append" dS:=by intro pins s σ H x vs v us Q I rx rv h;obtain⟨l,xs,y,rfl,rfl,hH,hz,q⟩:=h;cases rx;obtain⟨u,rfl,ru⟩:=rv.one;obtain⟨z,its,n,r,hl,e⟩:=I.lstM hH;refine Rc F.slot_list_append ⟨_,e,rfl⟩ F.entry_list_append (F.args_list_append_2 _ _) (PySem.list_append l its.toArray n u (by rw[Ug];omega)) ⟨e,?_⟩;refine⟨.non,_,I.lset (its':=its++[u]) hH e (by simp) (r.append (.cons ru .nil)) ?_,rfl,q⟩;rw[Uo,T3];omega
def Pn:V->List V->Hp->VK->Prop:=λx vs H Q=>∃l b xs zs,x=.ref l/\vs=[.ref b]/\H l=some (.lst xs)/\H b=some (.lst zs)/\xs.length+zs.length<=sizeLine/\Q .non (Ji H l (.lst (xs++zs)))
theorem SN:nZ X "list.extend" Pn:=by
 intro pins s σ H x vs v us Q I rx rv h;obtain⟨l,b,xs,zs,rfl,rfl,hH,hB,hz,q⟩:=h;cases rx;obtain⟨u,rfl,ru⟩:=rv.one;cases ru;obtain⟨z,its,n,r,hl,e⟩:=I.lstM hH;obtain⟨z2,its2,n2,r2,hl2,e2⟩:=I.lstM hB;have hsz:its.toArray.size+its2.toArray.size<=sizeLine:=by rw[Ug,Ug];omega
 have hlong:¬(!its.toArray.isEmpty&&Builtin.List.listTooLong (its.toArray.size+its2.toArray.size))=true:=by rw[MC hsz,Tt];exact Ue
 refine Rc F.slot_list_extend ⟨_,e,rfl⟩ F.entry_list_extend (F.args_list_extend_2 _ _)
  (AutoSeq1.list_extend_list_list_0 l its.toArray n b its2.toArray n2 hlong (by rw[Ug];omega) (by omega)) ⟨e,e2,?_⟩
 refine⟨.non,_,I.lset (its':=its++its2) hH e (by simp) (r.append r2) ?_,rfl,q⟩;rw[Uo];omega
def sQ:V->List V->Hp->VK->Prop:=λx vs H Q=>∃l xs y,x=.ref l/\vs=[]/\H l=some (.lst xs)/\xs[xs.length-1]?=some y/\Q y (Ji H l (.lst xs.dropLast))
theorem kM:nZ X "list.pop" sQ:=by
 intro pins s σ H x vs v us Q I rx rv h;obtain⟨l,xs,y,rfl,rfl,hH,hy,q⟩:=h;cases rx;have hus:=rv.zero;subst hus;obtain⟨z,its,n,r,hl,e⟩:=I.lstM hH;obtain⟨u,hu,ru⟩:=r.get hy;have hy':its.toArray[its.toArray.size-1]?=some u:=by show its.toArray[its.length-1]?=some u;rw[<-Array.getElem?_toList,<-hl];exact hu
 refine Rc F.slot_list_pop ⟨_,e,rfl⟩ F.entry_list_pop (F.args_list_pop_1 _) (MeetsSeq.list_pop_last l its.toArray n u hy' (by rw[Ug];omega)) ⟨e,?_⟩;refine⟨y,_,I.lset (its':=its.dropLast) hH e ?_ r.dropLast ?_,ru,q⟩
 ·show its.toArray.eraseIdxIfInBounds (its.toArray.size-1)=its.dropLast.toArray;rw[Ug,List.eraseIdxIfInBounds_toArray,N6]
 ·rw[Bc];omega
def oA:R2:=λx y H Q=>∃l b xs zs,x=.ref l/\y=.ref b/\H l=some (.lst xs)/\H b=some (.lst zs)/\xs.length+zs.length<=sizeLine/\∀p,H p=none->Q (.ref p) (Ji H p (.lst (xs++zs)))
theorem kN:OpR X (binaryOp .Add) oA:=by
 intro pins s σ H x y v u Q I rx ry h;obtain⟨l,b,xs,zs,rfl,rfl,hH,hB,hz,q⟩:=h;cases rx;cases ry;obtain⟨z,its,n,r,hl,e⟩:=I.lstM hH;obtain⟨z2,its2,n2,r2,hl2,e2⟩:=I.lstM hB;refine PySem.P.add_list e e2 ?_ (by rw[Ug,Ug];omega);have ea:its.toArray++its2.toArray=(its++its2).toArray:=by simp
 rw[ea];exact⟨.ref _,_,I.lnew (t':=s.toks) (r.append r2) (by rw[Uo];omega),rfl,q _ I.fresh⟩
theorem dU(xs:List α)(k:Nat):(List.replicate k xs).flatten.length=k*xs.length:=by
 induction k with
 |zero=>simp|succ k ih=>rw[UX,Tu,Uo,ih,Nat.succ_mul,Nat.add_comm]
end L2
namespace Att
open PySem PySem.W PySem.Calls PyProof.Rows
theorem Gh  : ∀(ns:List Int)(vs:List Value),WellAll P h vs (ns.map WData.int)->IntsAre vs ns:=by
 intro ns;induction ns with
 |nil =>intro vs w;rw[List.map_nil]at w;cases w;exact .nil|cons n ns ih=>
  intro vs w;rw[Ti]at w;cases w with
  |cons a b =>cases a;exact .cons _ _ (ih _ b)
theorem SO{l:OpenLaw}{n:Nat}(hn:l.most=some n){P:Params}{h:Heap}{args:List WData}{vals:List Value}(hpre:l.row.toRowW.claim.pre args=true)(hwl:WellAll P h vals args):
  ∃a vs ns,vals=[Value.ref a]/\args=[WData.list (ns.map WData.int)]/\h.get? a=some {cls:=.type "list",data:=.seq vs.toArray}/\IntsAre vs ns/\ns.length<=n:=by
 have hsh:WShape.hasAll [] args [.list .int]=true:=(pre_splitW hpre).1;have hc:l.pre.holds [] {args:=args}=true:=(pre_splitW hpre).2;obtain⟨d,r,rfl,h1,h2⟩:=hasAllW_cons hsh;obtain rfl:=hasAllW_nil h2;obtain⟨xs,rfl,h3⟩:=hasW_list h1;obtain⟨ns,rfl⟩:=items_int h3;have hlen:ns.length<=n:=by
  unfold OpenLaw.pre at hc;have h4:(WTm.not (.lt (.lit (.int (n:Int))) (.len (.arg 0)))).holds [] {args:=[.list (ns.map .int)]}=true:=by have h4:=(holds_andW hc).1;rw[hn]at h4;exact h4
  have h5:=condW_of h4 (w_not (w_lt w_lit (w_len_list (w_arg rfl))));rw[Ua]at h5;refine RI λq=>?_;have q':(n:Int)<((ns.length:Nat):Int):=by omega
  first
   | (rw[Uu q']at h5;exact absurd h5 (by decide))
   | (simp at h5;omega)
 cases hwl with
 |cons w1 w2=>
  cases w2;cases w1 with
  |list ho hall=>exact⟨_,_,ns,rfl,rfl,ho,Gh ns _ hall,hlen⟩
theorem SQ(l:OpenLaw)(args:List WData):l.row.toRowW.claim.post args (.bool true) args=true:=postW_of (r:=l.row.toRowW) (X:=(true==true))
  (show WShape.has [] (.bool true) .bool=true by first|rfl|decide|simp[WShape.has,WShape.arms,WShape.armsAll])
  (show(WTm.eq .res (.lit (.bool true))).value [] {args:=args,res:=some (.bool true),after:=args}=some (.bool (true==true)) from w_eq_bool (w_res rfl) w_lit) rfl
theorem attach_call{l:OpenLaw}{n:Nat}{q:Program}{loose:List Str}{XP:KB->Heap->Prop}{YP:World->Heap->Prop}{d:DefRec}(hn:l.most=some n)(hdf:d.params.defaults=[])(call:∀(w:World) (s₀ s₁:Shared) (mg mb:KB) (fa:Addr) (o:Obj) (pm cd doc:Value) (a:Addr) (vs:List Value) (ns:List Int),Ground q loose [] XP w s₀ mg mb s₁.heap->YP w s₁.heap->s₁.heap.get? fa=some o->o.data=.func (docDef d.name d.params d.body d.scope pm cd doc)->s₁.heap.CodeRec cd d.name->mg d.name=some (.ref fa)->s₁.heap.get? a=some {cls:=.type "list",data:=.seq vs.toArray}->IntsAre vs ns->ns.length<=n->s₁.gens = #[]->codeAny (model l.prog w) callerA (.call (.ref fa) ⟨[.ref a],[]⟩) (λr s'=>r=.ok (.ret (.bool true))/\OldK s₁.heap s'.heap/\s'.os=s₁.os/\AllBare s'.gens) s₁):
  WalkO q loose XP YP l.row.toRowW d [] (λf vs=>PySem.call f vs):=by
 intro w s₀ s₁ mg mb G Y fa o pm cd doc dV kV ho hd hcd hD hmg hg args vals as hpre hlay hrd hwl hlo;obtain rfl:dV=.none:=Dflts.none hD hdf;obtain rfl:kV=.none:=Dflts.noKw hD;obtain⟨a,vs,ns,rfl,rfl,hobj,hints,hlen⟩:=SO hn hpre hwl;refine enter_call (WQ (call w s₀ s₁ mg mb fa o pm cd doc a vs ns G Y ho (fd_plain hd) hcd hmg hobj hints hlen hg) λr s' hq=>?_);obtain⟨rfl,h2,h3,h4⟩:=hq;exact⟨.inl ⟨.bool true,.bool true,[],rfl,λ_=>rfl,.bool true,SQ l _,λ_=>⟨List.Pairwise.nil,λ_ hm=>(nomatch hm)⟩⟩,h2,h3,h4⟩
end Att
namespace L2
open PySem PySem.Spec PyProof.Rows
theorem IK:∀{vs:List Value}{ns:List Int},IntsAre vs ns->Vals (ns.map V.int) vs
 |_,_,.nil=>.nil|_,_,.cons n t h=>.cons ⟨t,rfl⟩ (IK h)
def dW(H:Hp):Prop:=∀b,H b=none\/∃o xs,H b=some (.frz o (.lst xs))
theorem Do{P:Program}{w:World}{K:Frag}{mg mb:KB}{CX:dM}{k:Nat}{fa a:Addr}{fd:FuncData}{x:Str}{sp:Sp}{s₁:Shared}{vs:List Value}{ns:List Int}(KX:K.In s₁.heap)(hns:s₁.heap.Ns mainGlobals mg)(hb:s₁.heap.Ns builtinsNs mb)(hbb:∀x:Str,x ≠"__name__"->mb x=bootBuiltins x)(hlim:s₁.heap.NoLimit)(hg:s₁.gens = #[])(ha:s₁.heap.get? a=some {cls:=.type "list",data:=.seq vs.toArray})(hi:IntsAre vs ns)(hl:ns.length<=sizeLine)(hr:Room k callerA)(F:∀base:Heap,K.In base->base.Ns mainGlobals mg->FnOk P w K mg base CX k fa fd [x] sp)(hbind:∀(s:Shared) (u:Value),BindsTo s fd ⟨[u],[]⟩ [(x,u)])(hsp:∀H:Hp,dW H->SqL K H a (ns.map V.int)->sp [.ref a] H (λv _=>v=.bl true) λ_ _ _=>False)(hCX:∀H e s',CX [] H s₁ (λ_ _ _=>False) e s'->False):
  codeAny (model P w) callerA (.call (.ref fa) ⟨[.ref a],[]⟩) (λr s'=>r=.ok (.ret (.bool true))/\OldK s₁.heap s'.heap/\s'.os=s₁.os/\AllBare s'.gens) s₁:=by
 have rv:=IK hi;have lenV:=hi.length
 -- from an abstract heap in which nothing but the script may be tracked
 have core:∀H:Hp,dW H->SqL K H a (ns.map V.int)->HOk P w H s₁.heap->(∀b,H b≠none->b=a)->(H a≠none->K.lookup a=none)->codeAny (model P w) callerA (.call (.ref fa) ⟨[.ref a],[]⟩) (λr s'=>r=.ok (.ret (.bool true))/\OldK s₁.heap s'.heap/\s'.os=s₁.os/\AllBare s'.gens) s₁:=by
  intro H hO hS hok hA hK;have base_of:∀{b:Addr}{o:Obj},s₁.heap.get? b=some o->H b=none->(Lm s₁.heap H).get? b=some o:=λe n=>A5 e n;have noA:∀{b:Addr}{o:Obj}{es:Array DictEntry}{ep:Nat},s₁.heap.get? b=some o->o.data=.dict es ep->H b=none:=λ{b o es ep} e d=>by
   cases q:H b with
   |none=>rfl|some u =>have e':b=a:=hA b (by rw[q];simp);subst e';rw[ha]at e;cases e;have d':Data.seq vs.toArray _=Data.dict es ep:=d;cases d'
  have nsK:∀{b:Addr}{m:KB},s₁.heap.Ns b m->(Lm s₁.heap H).Ns b m:=λ{b m} ⟨o,es,ep,e,d,r⟩=>⟨o,es,ep,base_of e (noA e d),d,r⟩;have hKb:K.In (Lm s₁.heap H):=λb o e=>base_of (KX b o e) (by
   cases q:H b with
   |none=>rfl|some u =>have e':b=a:=hA b (by rw[q];simp);subst e';rw[hK (by rw[q];simp)]at e;cases e)
  have hM:Mod K mg (Lm s₁.heap H):=⟨hKb,nsK hns,⟨mb,nsK hb,hbb⟩,let ⟨mc,h1,h2⟩:=hlim;⟨mc,nsK h1,h2⟩⟩;have e0:Env0 P w K mg (Lm s₁.heap H) callerA [] s₁ H:=⟨rfl,hM,λb o e=>cV e,Nat.le_of_eq (Sy _ _),trivial,λb hb=>absurd (show b∈([]:List Addr) from hb) (by simp),hok,.of_eq hg⟩;refine WQ ((F _ hKb (nsK hns)).run callerA [] s₁ H ⟨[.ref a],[]⟩ [.ref a] [.ref a] _ _ hr e0 (hbind s₁ (.ref a)) (.cons rfl .nil) (hsp H hO hS)) λr s' h=>?_;cases r with
  |error e=>exact(hCX H e s' h).elim|ok fl=>
   cases fl with
   |next=>exact False.elim h|brk=>exact False.elim h|cont=>exact False.elim h|ret u=>
    obtain⟨v,H',os,bare,un,hok',r',q⟩:=h;have q':v=.bl true:=q;subst q';obtain rfl:u=Value.bool true:=r';refine⟨rfl,OldK.of_keep λb o e=>?_,os,bare⟩;cases q:H b with
    |none=>exact un.keep b o e q (by intro z;exact absurd (show b∈([]:List Addr) from z) (by simp)) (by simp)|some u=>
     rcases hO b with z|⟨ob,xs,z⟩
     ·rw[q]at z;cases z
     ·have z2:=un.frzs b ob _ z;obtain⟨e1,_⟩:=hok b _ z;obtain⟨e2,_⟩:=hok' b _ z2;rw[e]at e1;cases e1;exact e2
 cases hk:K.lookup a with
 |some o=>
  -- the script is one of the module's own objects
  have e:=KX a o hk;rw[ha]at e;cases e;refine core (λ_=>none) (λ_=>.inl rfl) (.inr ⟨_,vs.toArray,_,hk,rfl,rfl,rfl,by rw[Ug,lenV];exact hl,by simpa using rv⟩) (λb u z=>by have z':(none:Option HO)=some u:=z;cases z') (λb z=>absurd rfl z) λz=>absurd rfl z
 |none=>
  refine core (λb=>if b=a then some (.frz {cls:=.type "list",data:=.seq vs.toArray} (.lst (ns.map V.int))) else none) (λb=>?_) (.inl (.inr ⟨{cls:=.type "list",data:=.seq vs.toArray},Uc rfl⟩)) (λb u z=>?_) (λb z=>?_) λ_=>hk
  ·by_cases hb:b=a
   ·exact .inr ⟨_,_,Uc hb⟩
   ·exact .inl (Uh hb)
  ·by_cases hb:b=a
   ·have z':=(Uc hb).symm.trans z;cases z';subst hb;exact⟨ha,by rw[Ua];exact hl,vs,_,rv,ha⟩
   ·have z':=(Uh hb).symm.trans z;cases z'
  ·by_cases hb:b=a
   ·exact hb
   ·exact absurd (Uh hb) z
theorem walk_of{l:PySem.W.OpenLaw}{n k:Nat}{q:Program}{loose:List Str}{XP:KB->Heap->Prop}{YP:World->Heap->Prop}{d:DefRec}{K:Params->Frag}{CX:World->dM}{sp:World->Sp}{x:Str}(hn:l.most=some n)(hn2:n<=sizeLine)(hdf:d.params.defaults=[])(hr:Room k callerA)(hY:∀(w:World) (h:Heap),YP w h->(K w.params).In h)(F:∀(w:World) (mg:KB) (fa:Addr) (h:Heap),(K w.params).In h->h.Ns mainGlobals mg->mg d.name=some (.ref fa)->∃fd:FuncData,(∀(s:Shared) (u:Value),BindsTo s fd ⟨[u],[]⟩ [(x,u)])/\∀base:Heap,(K w.params).In base->base.Ns mainGlobals mg->FnOk l.prog w (K w.params) mg base (CX w) k fa fd [x] (sp w))(hsp:∀(w:World) (H:Hp) (a:Addr) (ns:List Int),ns.length<=n->dW H->SqL (K w.params) H a (ns.map V.int)->sp w [.ref a] H (λv _=>v=.bl true) λ_ _ _=>False)(hCX:∀(w:World) (H:Hp) (s:Shared) (e:Value) (s':Shared),CX w [] H s (λ_ _ _=>False) e s'->False):
  PySem.W.WalkO q loose XP YP l.row.toRowW d [] (λf vs=>PySem.call f vs):=by
 refine Att.attach_call hn hdf λw s₀ s₁ mg mb fa o pm cd doc a vs ns G Y ho hd hcd hmg hobj hints hlen hg=>?_;have KX:=hY w _ Y;obtain⟨fd,hb,hF⟩:=F w mg fa _ KX G.T.g hmg;exact Do KX G.T.g G.T.b G.T.builtins G.T.nolimit hg hobj hints (Up hlen hn2) hr hF hb (λH hO hS=>hsp w H a ns hlen hO hS) λH e s'=>hCX w H s₁ e s'
def XT(s:Stmt)(j:Nat):Stmt:=match s with
 |.ClassDef _ _ _ body _ _ _ _ _ _ _=>body.getD j (.Pass ⟨0,0,0,0⟩)|_=>.Pass ⟨0,0,0,0⟩
def YL(s:Stmt):Arguments:=match s with
 |.FunctionDef _ a _ _ _ _ _ _ _ _=>a|_=>{posonlyargs:=[],args:=[],vararg:=none,kwonlyargs:=[],kw_defaults:=[],kwarg:=none,defaults:=[]}
def Ys(s:Stmt):List Stmt:=match s with
 |.FunctionDef _ _ b _ _ _ _ _ _ _=>b|_=>[]
def Qm(s:Stmt):Scope:=match s with
 |.FunctionDef _ _ _ _ _ _ sc _ _ _=>sc|_=>{kind:=.function,names:=[],isGenerator:=false,isCoroutine:=false}
abbrev wW:dM:=λ_ _ _ _ _ _=>False
structure Fun(K:Frag)(x qual:Str)(st:Stmt)(f:Addr)(fd:FuncData):Prop where
 ex:∃(oc:Value)(od:Option Addr)(kV doc pm:Value)(an:Option Addr)(cdv ct:Value)(osl:Array (Option Value)),fd=fnOf x qual (YL st) (Ys st) (Qm st) .none kV doc pm an cdv ct/\K.lookup f=some ⟨oc,od,.func fd,osl⟩/\codeIn K cdv qual=true
 kp:keepIn K (.ref f)=true
section
variable{P:Program}{w:World}{K:Frag}{mg:KB}{base:Heap}
theorem Fun.binds{x qual:Str}{st:Stmt}{f:Addr}{fd:FuncData}{ps:List Str}(F:Fun K x qual st f fd)(h:∀(kV doc pm:Value) (an:Option Addr) (cdv ct:Value) (us:List Value),us.length=ps.length->bindArgs (fnOf x qual (YL st) (Ys st) (Qm st) .none kV doc pm an cdv ct) ⟨us,[]⟩=pure (ps.zip us)):Binds K fd ps []:=by obtain⟨oc,od,kV,doc,pm,an,cdv,ct,osl,rfl,lk,hcd⟩:=F.ex;exact .all (h kV doc pm an cdv ct)
theorem VB{x qual:Str}{st:Stmt}{f:Addr}{oc:Value}{od an:Option Addr}{osl:Array (Option Value)}{kV doc pm cdv ct:Value}(l:K.lookup f=some ⟨oc,od,.func (fnOf x qual (YL st) (Ys st) (Qm st) .none kV doc pm an cdv ct),osl⟩)(c:codeIn K cdv qual=true)(k:keepIn K (.ref f)=true):Fun K x qual st f (fnOf x qual (YL st) (Ys st) (Qm st) .none kV doc pm an cdv ct):=⟨⟨oc,od,kV,doc,pm,an,cdv,ct,osl,rfl,l,c⟩,k⟩
end
def wE(H H':Hp):Prop:=∀b o,H b=some o->H' b=some o
end L2
set_option maxHeartbeats 4000000
namespace HT
open PySem PySem.Spec PyProof.Rows
set_option maxRecDepth 100000
theorem Fg:fillsNumberSlot (.type "tuple") "mul"=pure false:=PySem.fillsNumberSlot_seq (id:="tuple.__mul__") (r:=some (.builtin "tuple.__rmul__")) Re.lookup (by decide +kernel) F.slot_tuple_rmul.lookup (by decide +kernel)
theorem Lw:seqRepeat? (.type "tuple")=pure (some (.builtin "tuple.__mul__")):=by unfold seqRepeat?;rw[PySem.seqSlot_of (T:="tuple") (name:="__mul__") (id:="tuple.__mul__") Re.lookup (by decide +kernel),PySem.seqSlot_of (T:="tuple") (name:="__rmul__") (id:="tuple.__rmul__") F.slot_tuple_rmul.lookup (by decide +kernel)];rfl
theorem GN(a:Int)(t:Tok)(l:Addr)(items:Array Value)(n:Nat)(dd:Option Addr)(sl):
  Meets (Builtin.«int.__rmul__» ⟨[.int a t,.ref l],[]⟩) (λ_ R s=>s.heap.get? l=some {cls:=.type "tuple",dict:=dd,data:=.seq items n,slots:=sl}/\R (.ok (.ret Value.notImplemented)) s):=
 .of_wp λprog w A R s h=>by obtain⟨hp,g,d,tk,os⟩:=s;obtain⟨hl,h⟩:=h;wp_walk;exact⟨_,rfl,h⟩
theorem N7(l:Addr)(items:Array Value)(n:Nat)(dd:Option Addr)(sl)(k:Int)(t:Tok)(hi:¬items.isEmpty=true)(h1:¬(k==1)=true)(h0:0<k)(hk:k<2^63)(hz:items.size*k.toNat<=sizeLine):
  Meets (Builtin.«tuple.__mul__» ⟨[.ref l,.int k t],[]⟩) (λ_ R s=>s.heap.get? l=some {cls:=.type "tuple",dict:=dd,data:=.seq items n,slots:=sl}/\R (.ok (.ret (Value.ref s.heap.objs.size))) {s with heap:=s.heap.push {cls:=Value.type "tuple",data:=Data.seq (List.foldl (λx1 x2=>x1++x2) #[] (List.replicate k.toNat items))},toks:=s.toks}):=
 .of_wp λprog w A R s h=>by
  obtain⟨hp,g,d,tk,os⟩:=s;obtain⟨hl,h⟩:=h;have f1:=RJ;have hz':(items.size:Int)*k<=(sizeLine:Int):=by
   have e:((items.size*k.toNat:Nat):Int)=(items.size:Int)*k:=by rw[Int.natCast_mul,Rf (by omega)]
   omega
  have hl':((sizeLine:Nat):Int)<=(2^63-1) / 8:=by decide
  have hi':items.isEmpty=false:=by cases h:items.isEmpty<;>simp_all
  have h1':(k==1)=false:=by cases h:(k==1)<;>simp_all
  have hc0:¬(decide (k < -2^63)||decide (k>=2^63))=true:=by rw[Ur (p:=k < -2^63) (by omega),Ur (p:=k>=2^63) (by omega)];exact Ue
  have hc1:¬(items.isEmpty||k==1)=true:=by rw[hi',h1'];exact Ue
  have hc2:¬(decide (k<=0)||items.isEmpty)=true:=by rw[hi',Ur (p:=k<=0) (by omega)];exact Ue
  have hc3:¬(items.size:Int)*k>(2^63-1) / 8:=by omega
  have hc4:¬Builtin.Tuple.tupleTooMany (items.size*k)=true:=by unfold Builtin.Tuple.tupleTooMany;rw[Ur (p:=(items.size:Int)*k>(sizeLine:Int)) (by omega)];exact Ue
  have hsz:(List.foldl (λx1 x2=>x1++x2) #[] (List.replicate k.toNat items)).size<=sizeLine:=by
   have e:∀(m:Nat)(a:Array Value),(List.foldl (λx1 x2=>x1++x2) a (List.replicate m items)).size=a.size+items.size*m:=λm=>by
    induction m with
    |zero=>intro a;simp|succ m ih=>intro a;rw[UX,List.foldl_cons,ih,Array.size_append,Nat.mul_succ];omega
   rw[e];simp;exact hz
  wp_walk
  refine WT (Ur hc0) ?_
  wp_walk using wpAny_loadPart' hl
  refine WT (Ur hc3) ?_
  wp_walk
  exact⟨_,rfl,h⟩
theorem N8(l:Addr)(items:Array Value)(n:Nat)(dd:Option Addr)(sl)(k:Int)(t:Tok)(h1:(items.isEmpty||k==1)=true)(h0:0<=k)(hk:k<2^63):
  Meets (Builtin.«tuple.__mul__» ⟨[.ref l,.int k t],[]⟩) (λ_ R s=>s.heap.get? l=some {cls:=.type "tuple",dict:=dd,data:=.seq items n,slots:=sl}/\R (.ok (.ret (Value.ref l))) {s with heap:=s.heap,toks:=s.toks}):=
 .of_wp λprog w A R s h=>by
  obtain⟨hp,g,d,tk,os⟩:=s;obtain⟨hl,h⟩:=h;have f1:=RJ;have hc0:¬(decide (k < -2^63)||decide (k>=2^63))=true:=by rw[Ur (p:=k < -2^63) (by omega),Ur (p:=k>=2^63) (by omega)];exact Ue
  wp_walk
  refine WT (Ur hc0) ?_
  wp_walk using wpAny_loadPart' hl
  exact⟨_,rfl,h⟩
theorem N9(l:Addr)(items:Array Value)(n:Nat)(dd:Option Addr)(sl)(t:Tok)(hi:¬items.isEmpty=true):
  Meets (Builtin.«tuple.__mul__» ⟨[.ref l,.int 0 t],[]⟩) (λ_ R s=>s.heap.get? l=some {cls:=.type "tuple",dict:=dd,data:=.seq items n,slots:=sl}/\R (.ok (.ret (Value.ref s.heap.objs.size))) {s with heap:=s.heap.push {cls:=Value.type "tuple",data:=Data.seq #[]},toks:=s.toks}):=
 .of_wp λprog w A R s h=>by
  obtain⟨hp,g,d,tk,os⟩:=s;obtain⟨hl,h⟩:=h;have f1:=RJ;have hi':items.isEmpty=false:=by cases h:items.isEmpty<;>simp_all
  have hc1:¬(items.isEmpty||(0:Int)==1)=true:=by rw[hi'];exact Ue
  wp_walk using wpAny_loadPart' hl
  exact⟨_,rfl,h⟩
theorem rep_tup{l:Addr}{its:List Value}{k:Int}{t:Tok}{Q:VP}(ht:IsTup s.heap l its.toArray)(h0:0<=k)(hk:k<2^63)(hz:its.length*k.toNat<=sizeLine)(h1:its=[]\/k=1->Q (.ref l) s)(h2:its≠[]->k≠1->Q (.ref s.heap.objs.size) {s with heap:=s.heap.push {cls:=.type "tuple",data:=.seq (List.replicate k.toNat its).flatten.toArray} }):wpAny (model prog w) A (binaryOp .Mult (.ref l) (.int k t)) Q E s:=by
 obtain⟨⟨cls,dd,data,sl⟩,ho,hc,n,hd⟩:=id ht;simp only at hc hd;subst hc hd;refine wpAny_binaryOp_repeat_ref (T:="tuple") (U:="int") (by decide) ⟨_,ho,rfl⟩ (λs'=>typeIs_int s' k t) Fg F.fills_int_mul F.slot_int_rmul Lw F.slot_int_index.lookup
  (Rc F.slot_int_rmul (typeIs_int s k t) F.entry_int_rmul (F.args_int_rmul_2 _ _) (GN k t l its.toArray n dd sl) ⟨ho,rfl,⟨_,ho,rfl⟩,?_⟩)
 by_cases hc:its=[]\/k=1
 ·refine Rc Re ⟨_,ho,rfl⟩ Wt (Wi _ _) (N8 l its.toArray n dd sl k t ?_ h0 hk) ⟨ho,h1 hc⟩;rcases hc with rfl|rfl
  ·rfl
  ·simp
 ·have hi:its≠[]:=λz=>hc (.inl z);have h3:k≠1:=λz=>hc (.inr z);have hia:¬its.toArray.isEmpty=true:=by simpa using hi
  have f0:∀m:Nat,List.foldl (λx1 x2=>x1++x2) #[] (List.replicate m its.toArray)=(List.replicate m its).flatten.toArray:=λm=>by have:=L2.foldl_rep its m [];rw[List.nil_append]at this;exact this
  by_cases hk0:k=0
  ·subst hk0;exact Rc Re ⟨_,ho,rfl⟩ Wt (Wi _ _) (N9 l its.toArray n dd sl t hia) ⟨ho,h2 hi h3⟩
  ·refine Rc Re ⟨_,ho,rfl⟩ Wt (Wi _ _) (N7 l its.toArray n dd sl k t hia (by simpa using h3) (by omega) hk (by rw[Ug];exact hz)) ⟨ho,?_⟩;rw[f0];exact h2 hi h3
end HT
namespace L2
open PySem PySem.Spec PyProof.Rows
def iE(K:Frag):R2:=λx y H Q=>∃a k xs,x=.ref a/\y=.int k/\SqT K H a xs/\0<=k/\k<2^63/\xs.length*k.toNat<=sizeLine/\(xs=[]\/k=1->Q (.ref a) H)/\(xs≠[]->k≠1->∀p,H p=none->Q (.ref p) (Ji H p (.tup (List.replicate k.toNat xs).flatten)))
theorem dX:OpR X (binaryOp .Mult) (iE X.K):=by intro pins s σ H x y v u Q I rx ry h;obtain⟨a,k,xs,rfl,rfl,ha,h0,hk,hz,q1,q2⟩:=h;cases rx;obtain⟨t,rfl⟩:=ry;obtain⟨its,r1,p1,_⟩:=I.tuple ha;refine HT.rep_tup p1 h0 hk (by rw[<-r1.length];exact hz) (λz=>⟨.ref a,H,I,rfl,q1 (z.imp r1.nil_iff.mp id)⟩) (λz z2=>?_);refine⟨.ref s.heap.objs.size,_,I.laid (t':=s.toks) (o:=.tup (List.replicate k.toNat xs).flatten) (λb ob q=>Uk _ q) (Um _) ?_,rfl,q2 (λw=>z (r1.nil_iff.mpr w)) z2 _ (I.hok.fresh (Um _))⟩;exact⟨by rw[dU,Nat.mul_comm];exact hz,_,r1.rep k.toNat,IsTup.new _ _⟩
end L2
namespace HT
open PySem PySem.Spec PyProof.Rows
set_option maxRecDepth 100000
theorem list_extendT(l:Addr)(items:Array Value)(n:Nat)(b:Addr)(items2:Array Value)(n2:Nat)(dd:Option Addr)(sl)(hs0:¬(!items.isEmpty&&Builtin.List.listTooLong (items.size+items2.size))=true)(hs1:items.size<=sizeLine)(hs2:items.size+items2.size<=sizeLine+1):
  Meets (Builtin.«list.extend» ⟨[.ref l,.ref b],[]⟩) (λ_ R s=>s.heap.get? l=some {cls:=.type "list",dict:=none,data:=.seq items n,slots:=#[]}/\s.heap.get? b=some {cls:=.type "tuple",dict:=dd,data:=.seq items2 n2,slots:=sl}/\R (.ok (.ret Value.none)) {s with heap:=s.heap.update l (Obj.mapSeq λx=>x++items2),toks:=s.toks}):=
 .of_wp λprog w A R s h=>by
  obtain⟨hp,g,d,tk,os⟩:=s;obtain⟨hl,hb,h⟩:=h;have f1:=RJ;have f2:=AutoSeq1.sub_tuple_tuple;have f3:=AutoSeq1.sub_list_list;have f4:=AutoSeq1.sub_tuple_list;have f5:=AutoSeq1.sub_list_tuple;have hz':(items++items2).size<=sizeLine+1:=by rw[Array.size_append];exact hs2
  wp_walk using (wpAny_updateSeq hl rfl (hz:=hs1) (_hz':=hz')),wpAny_loadPart' hl,wpAny_loadPart' hb
  exact⟨_,rfl,h⟩
end HT
namespace L2
open PySem PySem.Spec PyProof.Rows
def MD(K:Frag):V->List V->Hp->VK->Prop:=λx vs H Q=>∃l b xs zs,x=.ref l/\vs=[.ref b]/\H l=some (.lst xs)/\SqT K H b zs/\xs.length+zs.length<=sizeLine/\Q .non (Ji H l (.lst (xs++zs)))
theorem Oa:nZ X "list.extend" (MD X.K):=by
 intro pins s σ H x vs v us Q I rx rv h;obtain⟨l,b,xs,zs,rfl,rfl,hH,hB,hz,q⟩:=h;cases rx;obtain⟨u,rfl,ru⟩:=rv.one;cases ru;obtain⟨z,its,n,r,hl,e⟩:=I.lstM hH;obtain⟨its2,r2,p2,_⟩:=I.tuple hB;obtain⟨⟨cls,dd,data,sl⟩,ho,hc,n2,hd⟩:=id p2;simp only at hc hd;subst hc hd;have hl2:=r2.length;have hsz:its.toArray.size+its2.toArray.size<=sizeLine:=by rw[Ug,Ug];omega
 have hlong:¬(!its.toArray.isEmpty&&Builtin.List.listTooLong (its.toArray.size+its2.toArray.size))=true:=by rw[MC hsz,Tt];exact Ue
 refine Rc F.slot_list_extend ⟨_,e,rfl⟩ F.entry_list_extend (F.args_list_extend_2 _ _)
  (HT.list_extendT l its.toArray n b its2.toArray n2 dd sl hlong (by rw[Ug];omega) (by omega)) ⟨e,ho,?_⟩
 refine⟨.non,_,I.lset (its':=its++its2) hH e (by simp) (r.append r2) ?_,rfl,q⟩;rw[Uo];omega
theorem Ob:nZ X "list.extend" (λx vs H Q=>Pn x vs H Q\/MD X.K x vs H Q):=by
 intro pins s σ H x vs v us Q I rx rv h;rcases h with h|h
 ·exact SN pins s σ H x vs v us Q I rx rv h
 ·exact Oa pins s σ H x vs v us Q I rx rv h
end L2
namespace L3
open PySem
abbrev Xc:=Nat×Option Nat
inductive D where
 |non|bl (b:Bool)|int (i:Int)|str (s:Str)|ref (n:Nat)|tup (ds:List D)|fl (ds:List D)
inductive GO where
 |lst (ds:List D)|ins (c:Nat) (fs:List (Str×D))|exc (x:Xc)
abbrev G:=List GO
abbrev S3:=List (Option D)
inductive Res(α:Type) where
 |ok (a:α) (g:G)|raise (x:Xc) (g:G)|stuck
def Res.bind:Res α->(α->G->Res β)->Res β
 |.ok a g,k=>k a g|.raise e g,_=>.raise e g|.stuck,_=>.stuck
inductive Out where
 |nx (σ:S3) (g:G)|rt (d:D) (g:G)|bk (σ:S3) (g:G)|ct (σ:S3) (g:G)|raise (x:Xc) (σ:S3) (g:G)|stuck
abbrev ME:=S3->G->Res D
abbrev MT:=S3->G->Res Bool
abbrev MA:=S3->G->Res (List D)
abbrev MS:=S3->G->Out
abbrev MF:=List D->G->Res D
theorem Res.bind_ok(a:α)(g:G)(k:α->G->Res β):(Res.ok a g).bind k=k a g:=rfl
def SZ:Nat:=1000000
noncomputable def Qa(i:Nat):ME:=λσ g=>match σ[i]? with
 |some (some d)=>.ok d g|_=>.stuck
noncomputable def Qq(d:D):ME:=λ_ g=>.ok d g
abbrev mI(i:Int):ME:=Qq (.int i)
noncomputable def Qv(f:D->G->Res D)(a:ME):ME:=λσ g=>(a σ g).bind f
noncomputable def Qe(f:D->D->G->Res D)(a b:ME):ME:=λσ g=>(a σ g).bind λx g1=>(b σ g1).bind λy g2=>f x y g2
noncomputable def Qi:MA:=λ_ g=>.ok [] g
noncomputable def Qb(a:ME)(r:MA):MA:=λσ g=>(a σ g).bind λx g1=>(r σ g1).bind λxs g2=>.ok (x::xs) g2
noncomputable def Qt(f:List D->G->Res D)(a:MA):ME:=λσ g=>(a σ g).bind f
noncomputable def Qo(a:ME):MT:=λσ g=>(a σ g).bind λd g1=>match d with
 |.bl b=>.ok b g1|_=>.stuck
noncomputable def YD(a:MT):MT:=λσ g=>(a σ g).bind λb g1=>.ok (!b) g1
noncomputable def Jj(a b:MT):MT:=λσ g=>(a σ g).bind λc g1=>if c=true then b σ g1 else .ok false g1
noncomputable def BG(a b:MT):MT:=λσ g=>(a σ g).bind λc g1=>if c=true then .ok true g1 else b σ g1
noncomputable def oB(a:ME):ME:=λσ g=>(a σ g).bind λd g1=>match d with
 |.bl b=>.ok (.bl (!b)) g1|_=>.stuck
noncomputable def Jx(a b:ME):ME:=λσ g=>(a σ g).bind λd g1=>match d with
 |.bl c=>if c=true then b σ g1 else .ok (.bl false) g1
 |_=>.stuck
noncomputable def X5(c:MT)(a b:ME):ME:=λσ g=>(c σ g).bind λt g1=>if t=true then a σ g1 else b σ g1
noncomputable def Fh(f f':D->D->G->Res D)(a b c:ME):ME:=λσ g=>(a σ g).bind λx g1=>(b σ g1).bind λy g2=>(f x y g2).bind λz g3=>match z with
 |.bl true=>(c σ g3).bind λw g4=>f' y w g4
 |.bl false=>.ok (.bl false) g3|_=>.stuck
noncomputable def QU:MS:=λσ g=>.nx σ g
noncomputable def Qs(a b:MS):MS:=λσ g=>match a σ g with
 |.nx σ' g'=>b σ' g'|o=>o
noncomputable def Zc(a:ME):MS:=λσ g=>match a σ g with
 |.ok _ g'=>.nx σ g'|.raise e g'=>.raise e σ g'|.stuck=>.stuck
noncomputable def Q5(a:ME):MS:=λσ g=>match a σ g with
 |.ok d g'=>.rt d g'|.raise e g'=>.raise e σ g'|.stuck=>.stuck
noncomputable def Dp:MS:=λ_ g=>.rt .non g
noncomputable def YE(c:MT)(a b:MS):MS:=λσ g=>match c σ g with
 |.ok t g'=>if t=true then a σ g' else b σ g'
 |.raise e g'=>.raise e σ g'|.stuck=>.stuck
noncomputable def Oc:MS:=λ_ _=>.stuck
noncomputable def Z4(c:Nat)(a:MA):MS:=λσ g=>match a σ g with
 |.ok ds g'=>if ds.length<=SZ then .raise (c,none) σ g' else .stuck
 |.raise e g'=>.raise e σ g'|.stuck=>.stuck
structure MH where
 cs:List Nat
 no:List Nat
 nm:Option Nat
 suite:MS
def kO(i:Nat):Out->Out
 |.nx σ g=>.nx (σ.set i none) g|.rt d g=>.rt d g|_=>.stuck
def Dq:List MH->Xc->S3->G->Out
 |[],x,σ,g=>.raise x σ g|h::r,x,σ,g=>if x.1∈h.cs then (match h.nm with
  |none=>(match h.suite σ g with
   |.nx σ' g'=>.nx σ' g'|.rt d g'=>.rt d g'|_=>.stuck)
  |some i=>kO i (h.suite (σ.set i (some (.ref g.length))) (g++[.exc x]))) else if x.1∈h.no then Dq r x σ g else .stuck
noncomputable def SR(b:MS)(hs:List MH):MS:=λσ g=>match b σ g with
 |.raise x σ' g'=>Dq hs x σ' g'|o=>o
abbrev MG:=D->S3->Option S3
def Qn(i:Nat):MG:=λd σ=>some (σ.set i (some d))
def IL:List MG->List D->S3->Option S3
 |[],[],σ=>some σ|t::ts,d::ds,σ=>(t d σ).bind λσ'=>IL ts ds σ'
 |_,_,_=>none
def Xd(ts:List MG):MG:=λd σ=>match d with
 |.tup ds=>IL ts ds σ|_=>none
noncomputable def QF(t:MG)(a:ME):MS:=λσ g=>match a σ g with
 |.ok d g'=>(match t d σ with
  |some σ'=>.nx σ' g'|none=>.stuck)
 |.raise e g'=>.raise e σ g'|.stuck=>.stuck
structure Src where
 at':G->Nat->Option (Option D)
 top:Nat
abbrev MI:=S3->G->Res Src
def JH(src:Src)(t:MG)(body:MS):Nat->Nat->S3->G->Out
 |0,_,_,_=>.stuck|f+1,i,σ,g=>match src.at' g i with
  |some (some d)=>(match t d σ with
   |some σ1=>(match body σ1 g with
    |.nx σ2 g2=>JH src t body f (i+1) σ2 g2|.ct σ2 g2=>JH src t body f (i+1) σ2 g2|.bk σ2 g2=>.nx σ2 g2|o=>o)
   |none=>.stuck)
  |some none=>.nx σ g|none=>.stuck
noncomputable def Y1(it:MI)(t:MG)(body:MS):MS:=λσ g=>match it σ g with
 |.ok src g'=>JH src t body (src.top+1) 0 σ g'|.raise e g'=>.raise e σ g'|.stuck=>.stuck
def Jc(c:MT)(body:MS):Nat->S3->G->Out
 |0,_,_=>.stuck|f+1,σ,g=>match c σ g with
  |.ok true g1=>(match body σ g1 with
   |.nx σ2 g2=>Jc c body f σ2 g2|.ct σ2 g2=>Jc c body f σ2 g2|.bk σ2 g2=>.nx σ2 g2|o=>o)
  |.ok false g1=>.nx σ g1|.raise e g1=>.raise e σ g1|.stuck=>.stuck
open Classical in
noncomputable def GP(c:MT)(body:MS):MS:=λσ g=>if h:∃f,Jc c body f σ g≠.stuck then Jc c body h.choose σ g else .stuck
def Jd(src:Src)(t:MG)(c:MT)(e:ME):Nat->Nat->S3->G->List D->Res (List D)
 |0,_,_,_,_=>.stuck|f+1,i,σ,g,acc=>match src.at' g i with
  |some (some d)=>(match t d σ with
   |some σ1=>(match c σ1 g with
    |.ok b g1=>if b=true then (match e σ1 g1 with
     |.ok y g2=>Jd src t c e f (i+1) σ1 g2 (acc++[y])|_=>.stuck) else Jd src t c e f (i+1) σ1 g1 acc
    |_=>.stuck)
   |none=>.stuck)
  |some none=>.ok acc g|none=>.stuck
def CQ(n:Nat)(cap:List Nat)(σ:S3):S3:=List.replicate n none++cap.map λi=>(σ[i]?).getD none
def Ym(ds:List D)(g:G):Res D:=if ds.length<=SZ then .ok (.ref g.length) (g++[.lst ds]) else .stuck
def QC(xs:List D)(g:G):Res D:=if xs.length<=SZ then .ok (.tup xs) g else .stuck
noncomputable def ZQ(it:MI)(n:Nat)(cap:List Nat)(t:MG)(c:MT)(e:ME):ME:=λσ g=>match it σ g with
 |.ok src g1=>if src.top<=SZ then (match Jd src t c e (src.top+1) 0 (CQ n cap σ) g1 []with
  |.ok ds g2=>.ok (.ref g2.length) (g2++[.lst ds])|_=>.stuck) else .stuck
 |_=>.stuck
noncomputable def Yb:MT:=λ_ g=>.ok true g
noncomputable def Zq(k n:Nat)(body:MS):MF:=λds g=>if ds.length=k then (match body (ds.map some++List.replicate n none) g with
 |.nx _ g'=>.ok .non g'|.rt d g'=>.ok d g'|.raise e _ g'=>.raise e g'|_=>.stuck) else .stuck
noncomputable def Qu(f:MF)(a:MA):ME:=λσ g=>(a σ g).bind f
noncomputable def Je(cc:Nat)(m:Str)(f:MF)(o:ME)(a:MA):ME:=λσ g=>(o σ g).bind λx g1=>match x with
 |.ref n=>(match g1[n]? with
  |some (.ins c fs)=>if c=cc/\fs.lookup m=none then (a σ g1).bind λxs g2=>f (.ref n::xs) g2 else .stuck
  |_=>.stuck)
 |_=>.stuck
noncomputable def Bn(c:Nat)(f:MF)(a:MA):ME:=λσ g=>(a σ g).bind λxs g1=>(f (.ref g1.length::xs) (g1++[.ins c []])).bind λd g2=>match d with
 |.non=>.ok (.ref g1.length) g2|_=>.stuck
noncomputable def Zd(cs:List Nat)(f:Str)(o:ME):ME:=Qv (λx g=>match x with
 |.ref n=>(match g[n]? with
  |some (.ins c fs)=>if c∈cs then (match fs.lookup f with
   |some d=>.ok d g|none=>.stuck) else .stuck
  |_=>.stuck)
 |_=>.stuck) o
def YM(f:Str)(v:D):List (Str×D)->List (Str×D)
 |[]=>[(f,v)]| (g,x)::r=>if g=f then (g,v)::r else (g,x)::YM f v r
noncomputable def ZS(cs:List Nat)(f:Str)(o v:ME):MS:=λσ g=>match v σ g with
 |.ok y g1=>(match o σ g1 with
  |.ok (.ref n) g2=>(match g2[n]? with
   |some (.ins c fs)=>if c∈cs/\fs.length<100 then .nx σ (g2.set n (.ins c (YM f y fs))) else .stuck
   |_=>.stuck)
  |.raise e g'=>.raise e σ g'|_=>.stuck)
 |.raise e g'=>.raise e σ g'|.stuck=>.stuck
def GQ(n:Nat)(i:Int):Option Nat:=if 0<=i then (if i<n then some i.toNat else none) else if -(n:Int)<=i then some (i+n).toNat else none
noncomputable def YF(o i v:ME):MS:=λσ g=>match v σ g with
 |.ok y g1=>(match o σ g1 with
  |.ok (.ref n) g2=>(match i σ g2 with
   |.ok (.int k) g3=>(match g3[n]? with
    |some (.lst ds)=>(match GQ ds.length k with
     |some j=>.nx σ (g3.set n (.lst (ds.set j y)))|none=>.stuck)
    |_=>.stuck)
   |.raise e g'=>.raise e σ g'|_=>.stuck)
  |.raise e g'=>.raise e σ g'|_=>.stuck)
 |.raise e g'=>.raise e σ g'|.stuck=>.stuck
def BH(d:D)(g:G):Res Src:=match d with
 |.tup ds=>.ok ⟨λ_ i=>some ds[i]?,ds.length⟩ g|.fl ds=>.ok ⟨λ_ i=>some ds[i]?,ds.length⟩ g|.ref n=>(match g[n]? with
  |some (.lst ds)=>.ok ⟨λg i=>(match g[n]? with|some (.lst es)=>some es[i]? | _=>none),ds.length⟩ g|_=>.stuck)
 |_=>.stuck
noncomputable def QQ(a:ME):MI:=λσ g=>(a σ g).bind BH
def ZH(lo:Int)(n:Nat):Src:=⟨λ_ i=>some (if i<n then some (.int (lo+i)) else none),n⟩
def SS(j:Int):Prop:=-(2^62)<=j/\j<2^62
instance (j:Int):Decidable (SS j):=inferInstanceAs (Decidable (_/\_))
noncomputable def Q4(a:ME):MI:=λσ g=>(a σ g).bind λd g1=>match d with
 |.int j=>if SS j then .ok (ZH 0 j.toNat) g1 else .stuck
 |_=>.stuck
noncomputable def Kj(a b:ME):MI:=λσ g=>(a σ g).bind λd g1=>(b σ g1).bind λd' g2=>match d,d' with
 |.int i,.int j=>if SS i/\SS j then .ok (ZH i (j-i).toNat) g2 else .stuck
 |_,_=>.stuck
def QG(g:G):D->Option (Bool×List D)
 |.tup ds=>some (false,ds)|.fl ds=>some (true,ds)|.ref n=>(match g[n]? with
  |some (.lst ds)=>some (true,ds)|_=>none)
 |_=>none
def QD(x y:D)(g:G):Res D:=match x,y with
 |.int i,.int j=>.ok (.int (i+j)) g|.tup xs,.tup ys=>if xs.length+ys.length<=SZ then .ok (.tup (xs++ys)) g else .stuck
 |.ref n,.ref m=>(match g[n]?,g[m]? with
  |some (.lst xs),some (.lst ys)=>if xs.length+ys.length<=SZ then .ok (.ref g.length) (g++[.lst (xs++ys)]) else .stuck
  |_,_=>.stuck)
 |_,_=>.stuck
def VS(x y:D)(g:G):Res D:=match x,y with
 |.int i,.int j=>.ok (.int (i-j)) g|_,_=>.stuck
def cM(i:Int):Prop:=-(2^64)<i/\i<2^64
instance (j:Int):Decidable (cM j):=inferInstanceAs (Decidable (_/\_))
def Xy(x y:D)(g:G):Res D:=match x,y with
 |.int i,.int j=>if cM i\/cM j then .ok (.int (i*j)) g else .stuck
 |.tup ds,.int k=>if (0<=k/\k<1073741824)/\ds.length*k.toNat<=SZ then .ok (.tup (List.replicate k.toNat ds).flatten) g else .stuck
 |_,_=>.stuck
def Yw(x y:D)(g:G):Res D:=match x,y with
 |.int i,.int j=>if 0<j/\j<1073741824 then .ok (.int (i/j)) g else .stuck
 |_,_=>.stuck
def Z0(x y:D)(g:G):Res D:=match x,y with
 |.int i,.int j=>if 0<j then .ok (.int (i%j)) g else .stuck
 |_,_=>.stuck
def Jy(x:D)(g:G):Res D:=match x with
 |.int i=>.ok (.int (-i)) g|_=>.stuck
def ST(r:Int->Int->Bool)(x y:D)(g:G):Res D:=match x,y with
 |.int i,.int j=>.ok (.bl (r i j)) g|_,_=>.stuck
def Fd:=ST λi j=>decide (i<j)
def mK:=ST λi j=>decide (i<=j)
def Lx:=ST λi j=>decide (j<i)
def dY:=ST λi j=>decide (j<=i)
def oE(b:Bool):Int:=if b then 1 else 0
def Jk(eq:D->D->Option Bool):List D->List D->Option Bool
 |[],[]=>some true|x::xs,y::ys=>(match eq x y,Jk eq xs ys with
  |some a,some b=>some (a&&b)|_,_=>none)
 |_,_=>some false
def SU(g:G)(n:Nat):Option Bool:=match g[n]? with
 |some (.lst _)=>some false|_=>none
def Vk(g:G):Nat->D->D->Option Bool
 |0,_,_=>none|f+1,x,y=>(match x,y with
  |.non,.non=>some true|.bl a,.bl b=>some (a==b)|.int i,.int j=>some (i==j)|.str s,.str t=>some (s==t)|.bl a,.int j=>some (oE a==j)|.int i,.bl b=>some (i==oE b)|.tup xs,.tup ys=>Jk (Vk g f) xs ys|.ref n,.ref m=>(match g[n]?,g[m]? with
   |some (.lst xs),some (.lst ys)=>if xs.length=ys.length then Jk (Vk g f) xs ys else some false
   |_,_=>none)
  |.fl _,_=>none|_,.fl _=>none|.ref n,_=>SU g n|_,.ref m=>SU g m|_,_=>some false)
def Z5(x y:D)(g:G):Res D:=match Vk g 8 x y with
 |some b=>.ok (.bl b) g|none=>.stuck
def EA:List D->Option (List Int)
 |[]=>some []|.int i::r=>(EA r).map (i :: ·)|_::_=>none
def CI(x y:D)(g:G):Res D:=match Vk g 8 x y with
 |some b=>.ok (.bl (!b)) g|none=>.stuck
def isNon:D->Bool
 |.non=>true|_=>false
def cP(x y:D)(g:G):Res D:=match y with
 |.non=>.ok (.bl (isNon x)) g|_=>.stuck
def Ly(x y:D)(g:G):Res D:=match y with
 |.non=>.ok (.bl (!isNon x)) g|_=>.stuck
def VC(xs:List α)(i:Int):Option α:=(GQ xs.length i).bind λj=>xs[j]?
def QB(x y:D)(g:G):Res D:=match x,y with
 |.tup ds,.int i=>(match VC ds i with
  |some d=>.ok d g|none=>.stuck)
 |.fl ds,.int i=>(match VC ds i with
  |some d=>.ok d g|none=>.stuck)
 |.ref n,.int i=>(match g[n]? with
  |some (.lst ds)=>(match VC ds i with
   |some d=>.ok d g|none=>.stuck)
  |_=>.stuck)
 |.str s,.int i=>if s.length<=SZ then (match VC s.cps.toList i with
  |some c=>.ok (.str ⟨#[c]⟩) g|none=>.stuck) else .stuck
 |_,_=>.stuck
def EB(n d:Nat):Option Int->Nat
 |none=>d|some v=>if v<0 then (v+(n:Int)).toNat else min v.toNat n
def Yc(xs:List α)(lo hi:Option Int):List α:=(xs.drop (EB xs.length 0 lo)).take (EB xs.length xs.length hi-EB xs.length 0 lo)
def V6(x:D)(lo hi:Option Int)(g:G):Res D:=match x with
 |.tup ds=>.ok (.tup (Yc ds lo hi)) g|.fl ds=>.ok (.ref g.length) (g++[.lst (Yc ds lo hi)])|.ref n=>(match g[n]? with
  |some (.lst ds)=>.ok (.ref g.length) (g++[.lst (Yc ds lo hi)])|_=>.stuck)
 |_=>.stuck
abbrev MO:=S3->G->Res (Option Int)
noncomputable def QE:MO:=λ_ g=>.ok none g
noncomputable def QZ(a:ME):MO:=λσ g=>(a σ g).bind λd g1=>match d with
 |.int i=>.ok (some i) g1|_=>.stuck
noncomputable def QM(a:ME)(lo hi:MO):ME:=λσ g=>(a σ g).bind λx g1=>(lo σ g1).bind λl g2=>(hi σ g2).bind λh g3=>V6 x l h g3
def Zr(x:D)(g:G):Res D:=match x with
 |.tup ds=>.ok (.int ds.length) g|.fl ds=>.ok (.int ds.length) g|.ref n=>(match g[n]? with
  |some (.lst ds)=>.ok (.int ds.length) g|_=>.stuck)
 |_=>.stuck
def ZT(x:D)(g:G):Res D:=match x with
 |.tup ds=>.ok (.tup ds) g|.fl ds=>.ok (.tup ds) g|.ref n=>(match g[n]? with
  |some (.lst ds)=>.ok (.tup ds) g|_=>.stuck)
 |_=>.stuck
def VT(x:D)(g:G):Res D:=match x with
 |.tup ds=>.ok (.ref g.length) (g++[.lst ds])|.fl ds=>.ok (.ref g.length) (g++[.lst ds])|.ref n=>(match g[n]? with
  |some (.lst ds)=>.ok (.ref g.length) (g++[.lst ds])|_=>.stuck)
 |_=>.stuck
def Od(x:D)(g:G):Res D:=match x with
 |.int i=>.ok (.int i) g|.bl b=>.ok (.int (if b then 1 else 0)) g|_=>.stuck
noncomputable def Zm(o e:ME):ME:=λσ g=>(o σ g).bind λx g1=>match x with
 |.ref n=>(match g1[n]? with
  |some (.lst _)=>(e σ g1).bind λy g2=>(match g2[n]? with
   |some (.lst ds)=>if ds.length<SZ then .ok .non (g2.set n (.lst (ds++[y]))) else .stuck
   |_=>.stuck)
  |_=>.stuck)
 |_=>.stuck
def Ic(x:D)(g:G):Res D:=match x with
 |.ref n=>(match g[n]? with
  |some (.lst ds)=>(match ds[ds.length-1]? with
   |some y=>.ok y (g.set n (.lst ds.dropLast))|none=>.stuck)
  |_=>.stuck)
 |_=>.stuck
inductive Ty where
 |non|bool|int|str|tuple|list|dict
 deriving DecidableEq
def Ty.name:Ty->String
 |.non => "NoneType" |.bool => "bool" |.int => "int" |.str => "str" |.tuple => "tuple" |.list => "list" |.dict => "dict"
def EC(t c:Ty):Bool:=t==c||(t==.bool&&c==.int)
def Gi(g:G):D->Option Ty
 |.non=>some .non|.bl _=>some .bool|.int _=>some .int|.str _=>some .str|.tup _=>some .tuple|.fl _=>some .list|.ref n=>(match g[n]? with
  |some (.lst _)=>some .list|_=>none)
def VU(c:Ty)(x:D)(g:G):Res D:=match Gi g x with
 |some t=>.ok (.bl (EC t c)) g|none=>.stuck
def ED:List D->Option Bool
 |[]=>some true|.bl b::r=>(ED r).map (b && ·)|_::_=>none
def Gj(x:D)(g:G):Res D:=match x with
 |.ref n=>(match g[n]? with
  |some (.lst ds)=>(match ED ds with
   |some b=>.ok (.bl b) g|none=>.stuck)
  |_=>.stuck)
 |_=>.stuck
def Kk:D->Bool
 |.non=>true|.bl _=>true|.int _=>true|.str _=>true|_=>false
def Po(x y:D):Bool:=match x,y with
 |.non,.non=>true|.bl a,.bl b=>a==b|.int i,.int j=>i==j|.str s,.str t=>s==t|.bl a,.int j=>oE a==j|.int i,.bl b=>i==oE b|_,_=>false
def GR(neg:Bool)(x y:D)(g:G):Res D:=match QG g y with
 |some (_,ds)=>if Kk x=true/\ds.all Kk=true then .ok (.bl (if neg=true then !(ds.any λd=>Po d x) else ds.any λd=>Po d x)) g else .stuck
 |none=>.stuck
open PySem.Spec PyProof.Rows L2
def SqF(K:Frag)(H:Hp)(a:Addr)(xs:List V):Prop:=(∃o,H a=some (.frz o (.lst xs)))\/SqL K (λ_=>none) a xs
theorem SqF.sq{K:Frag}{H:Hp}{a:Addr}{xs:List V}(h:SqF K H a xs):SqL K H a xs:=by
 rcases h with⟨o,h⟩|(h|⟨o,h⟩)|h
 ·exact .inl (.inr ⟨o,h⟩)
 ·cases h
 ·cases h
 ·exact .inr h
mutual
inductive Den(K:Frag)(μ:List Addr)(H:Hp):V->D->Prop where
 |non:Den K μ H .non .non
 |bl (b:Bool):Den K μ H (.bl b) (.bl b)
 |int (i:Int):Den K μ H (.int i) (.int i)
 |str (x:Str):Den K μ H (.str x) (.str x)
 |ref {n:Nat} {a:Addr} (h:μ[n]?=some a):Den K μ H (.ref a) (.ref n)
 |tup {a:Addr} {vs:List V} {ds:List D} (h:SqT K H a vs) (hs:Dens K μ H vs ds):Den K μ H (.ref a) (.tup ds)
 |fl {a:Addr} {vs:List V} {ds:List D} (h:SqF K H a vs) (hs:Dens K μ H vs ds):Den K μ H (.ref a) (.fl ds)
inductive Dens(K:Frag)(μ:List Addr)(H:Hp):List V->List D->Prop where
 |nil:Dens K μ H [] []
 |cons {v:V} {d:D} {vs:List V} {ds:List D} (h:Den K μ H v d) (hs:Dens K μ H vs ds):Dens K μ H (v::vs) (d::ds)
end
structure Ext(K:Frag)(μ:List Addr)(H:Hp)(μ':List Addr)(H':Hp):Prop where
 pre:∃t,μ'=μ++t
 tup:∀a xs,SqT K H a xs->SqT K H' a xs
 fl:∀a xs,SqF K H a xs->SqF K H' a xs
 frz:∀a o u,H a=some (.frz o u)->H' a=some (.frz o u)
section
variable{K:Frag}{ca:Nat->Addr}{μ μ' μ'':List Addr}{H H' H'':Hp}
theorem Ext.refl:Ext K μ H μ H:=⟨⟨[],by simp⟩,λ_ _ h=>h,λ_ _ h=>h,λ_ _ _ h=>h⟩
theorem Ext.trans(a:Ext K μ H μ' H')(b:Ext K μ' H' μ'' H''):Ext K μ H μ'' H'':=by obtain⟨t,e⟩:=a.pre;obtain⟨u,f⟩:=b.pre;exact⟨⟨t++u,by rw[f,e,Ws]⟩,λx xs h=>b.tup x xs (a.tup x xs h),λx xs h=>b.fl x xs (a.fl x xs h),λx o u h=>b.frz x o u (a.frz x o u h)⟩
theorem Ext.at(e:Ext K μ H μ' H'){n:Nat}{a:Addr}(h:μ[n]?=some a):μ'[n]?=some a:=by obtain⟨t,rfl⟩:=e.pre;have hl:n<μ.length:=(Ui.mp h).1;rw[Ut hl];exact h
mutual
theorem Den.mono(e:Ext K μ H μ' H'):∀{v:V}{d:D},Den K μ H v d->Den K μ' H' v d
 |_,_,.non=>.non|_,_,.bl b=>.bl b|_,_,.int i=>.int i|_,_,.str x=>.str x|_,_,.ref h=>.ref (e.at h)|_,_,.tup h hs=>.tup (e.tup _ _ h) (Dens.mono e hs)|_,_,.fl h hs=>.fl (e.fl _ _ h) (Dens.mono e hs)
theorem Dens.mono(e:Ext K μ H μ' H'):∀{vs:List V}{ds:List D},Dens K μ H vs ds->Dens K μ' H' vs ds
 |_,_,.nil=>.nil|_,_,.cons h hs=>.cons (Den.mono e h) (Dens.mono e hs)
end
theorem Dens.length:∀{vs:List V}{ds:List D},Dens K μ H vs ds->vs.length=ds.length
 |_,_,.nil=>rfl|_,_,.cons _ t=>by rw[Uy,Uy,Dens.length t]
theorem Dens.get:∀{vs:List V}{ds:List D}{i:Nat}{d:D},Dens K μ H vs ds->ds[i]?=some d->∃v,vs[i]?=some v/\Den K μ H v d
 |_,_,_,_,.nil,e=>by simp at e
 |_,_,0,_,.cons r _,e=>by simp at e;subst e;exact⟨_,rfl,r⟩
 |_,_,i+1,x,.cons _ t,e=>by obtain⟨u,h1,h2⟩:=Dens.get (i:=i) (d:=x) t (by simpa using e);exact⟨u,by simpa using h1,h2⟩
theorem Dens.getV:∀{vs:List V}{ds:List D}{i:Nat}{v:V},Dens K μ H vs ds->vs[i]?=some v->∃d,ds[i]?=some d/\Den K μ H v d
 |_,_,_,_,.nil,e=>by simp at e
 |_,_,0,_,.cons r _,e=>by simp at e;subst e;exact⟨_,rfl,r⟩
 |_,_,i+1,x,.cons _ t,e=>by obtain⟨u,h1,h2⟩:=Dens.getV (i:=i) (v:=x) t (by simpa using e);exact⟨u,by simpa using h1,h2⟩
theorem Dens.append:∀{vs ws:List V}{ds es:List D},Dens K μ H vs ds->Dens K μ H ws es->Dens K μ H (vs++ws) (ds++es)
 |_,_,_,_,.nil,h=>h|_,_,_,_,.cons a b,h=>.cons a (Dens.append b h)
theorem Dens.set{x:V}{u:D}(r:Den K μ H x u):∀{xs:List V}{us:List D}(i:Nat),Dens K μ H xs us->Dens K μ H (xs.set i x) (us.set i u)
 |_,_,_,.nil=>.nil|_,_,0,.cons _ t=>.cons r t|_,_,i+1,.cons q t=>.cons q (Dens.set r i t)
theorem Dens.take:∀{xs:List V}{us:List D}(n:Nat),Dens K μ H xs us->Dens K μ H (xs.take n) (us.take n)
 |_,_,0,_=>.nil|_,_,_+1,.nil=>.nil|_,_,n+1,.cons r t=>.cons r (Dens.take n t)
theorem Dens.drop:∀{xs:List V}{us:List D}(n:Nat),Dens K μ H xs us->Dens K μ H (xs.drop n) (us.drop n)
 |_,_,0,r=>r|_,_,_+1,.nil=>.nil|_,_,n+1,.cons _ t=>Dens.drop n t
theorem Dens.ints(ns:List Int):Dens K μ H (ns.map V.int) (ns.map D.int):=by
 induction ns with
 |nil=>exact .nil|cons n r ih=>exact .cons (.int n) ih
def FRel(K:Frag)(μ:List Addr)(H:Hp):List (Str×V)->List (Str×D)->Prop:=Paired λp q=>p.1=q.1/\Den K μ H p.2 q.2
def XOb(ca:Nat->Addr)(x:Xc)(o:Obj):Prop:=o.cls=.ref (ca x.1)/\o.dict=none
theorem XOb.map(h:XOb ca x o)(f:Array Value->Array Value):XOb ca x (o.mapFields f):=by obtain⟨c,d,dt,sl⟩:=o;cases dt<;>exact h
def XO(ca:Nat->Addr)(a:Addr)(x:Xc):HO:=.ext λh=>∃o vs,h.get? a=some o/\XOb ca x o/\o.data=.fields vs
def ORep(K:Frag)(ca:Nat->Addr)(μ:List Addr)(H:Hp)(a:Addr):GO->Prop
 |.exc x=>H a=some (XO ca a x)|.lst ds=>∃vs,H a=some (.lst vs)/\Dens K μ H vs ds|.ins c fs=>∃dx fv,H a=some (.ins (ca c) dx fv)/\FRel K μ H fv fs
structure GRep(K:Frag)(ca:Nat->Addr)(μ:List Addr)(H:Hp)(g:G):Prop where
 len:μ.length=g.length
 nd:μ.Nodup
 obj:∀(n:Nat)(a:Addr)(o:GO),μ[n]?=some a->g[n]?=some o->ORep K ca μ H a o
structure Rep(K:Frag)(ca:Nat->Addr)(μ:List Addr)(σ3:S3)(g:G)(σ:L2.St)(H:Hp):Prop where
 g:GRep K ca μ H g
 len:σ.length=σ3.length
 st:∀(i:Nat)(d:D),σ3[i]?=some (some d)->∃v,σ[i]?=some (some v)/\Den K μ H v d
theorem FRel.mono(e:Ext K μ H μ' H'){fv:List (Str×V)}{fs:List (Str×D)}(h:FRel K μ H fv fs):FRel K μ' H' fv fs:=Paired.imp' (λ_ _ q=>⟨q.1,q.2.mono e⟩) h
theorem Rep.go{σ3:S3}{g g':G}{σ:L2.St}(r:Rep K ca μ σ3 g σ H)(e:Ext K μ H μ' H')(h:GRep K ca μ' H' g'):Rep K ca μ' σ3 g' σ H':=⟨h,r.len,λi d z=>by obtain⟨v,h1,h2⟩:=r.st i d z;exact⟨v,h1,h2.mono e⟩⟩
theorem GRep.addr{g:G}(r:GRep K ca μ H g){n:Nat}{o:GO}(h:g[n]?=some o):∃a,μ[n]?=some a/\ORep K ca μ H a o:=by
 have hl:n<g.length:=(Ui.mp h).1;have hm:n<μ.length:=by rw[r.len];exact hl
 exact⟨μ[n],by simp[hm],r.obj n _ o (by simp[hm]) h⟩
theorem ORep.is{a:Addr}{o:GO}(h:ORep K ca μ H a o):∃u,H a=some u:=by
 cases o with
 |lst ds=>obtain⟨_,h,_⟩:=h;exact⟨_,h⟩|ins c fs=>obtain⟨_,_,h,_⟩:=h;exact⟨_,h⟩|exc x=>exact⟨_,h⟩
theorem GRep.known{g:G}(r:GRep K ca μ H g){a:Addr}(h:a∈μ):∃u,H a=some u:=by
 obtain⟨n,hn⟩:=List.getElem?_of_mem h;have hl:n<μ.length:=(Ui.mp hn).1;have hg:n<g.length:=by rw[<-r.len];exact hl
 exact(r.obj n a g[n] hn (by simp[hg])).is
theorem ZU{p:Addr}{o:HO}(hp:H p=none):Ext K μ H μ (Ji H p o):=⟨⟨[],by simp⟩,λa xs h=>by
 rcases h with(h|⟨u,h⟩)|h
 ·exact .inl (.inl (by rw[Q9 (Z8 h hp)];exact h))
 ·exact .inl (.inr ⟨u,by rw[Q9 (Z8 h hp)];exact h⟩)
 ·exact .inr h,λa xs h=>by
 rcases h with⟨u,h⟩|h
 ·exact .inl ⟨u,by rw[Q9 (Z8 h hp)];exact h⟩
 ·exact .inr h,λa o u h=>by rw[Q9 (Z8 h hp)];exact h⟩
theorem ORep.mono{a:Addr}{o:GO}(e:Ext K μ H μ' H')(ha:∀u,H a=some u->H' a=some u)(h:ORep K ca μ H a o):ORep K ca μ' H' a o:=by
 cases o with
 |lst ds=>obtain⟨vs,h,q⟩:=h;exact⟨vs,ha _ h,q.mono e⟩|ins c fs=>obtain⟨dx,fv,h,q⟩:=h;exact⟨dx,fv,ha _ h,q.mono e⟩|exc x=>exact ha _ h
theorem GRep.new{g:G}{p:Addr}{o:HO}(r:GRep K ca μ H g)(hp:H p=none):GRep K ca μ (Ji H p o) g:=⟨r.len,r.nd,λn a u h1 h2=>(r.obj n a u h1 h2).mono (ZU hp) λz hz=>by rw[Q9 (Z8 hz hp)];exact hz⟩
theorem ZI{p:Addr}{o:HO}(hp:H p=none):Ext K μ H (μ++[p]) (Ji H p o):=⟨⟨[p],rfl⟩,(ZU (μ:=μ) hp).tup,(ZU (μ:=μ) hp).fl,(ZU (K:=K) (μ:=μ) hp).frz⟩
theorem GRep.push{g:G}{p:Addr}{o:HO}{u:GO}(r:GRep K ca μ H g)(hp:H p=none)(ho:ORep K ca (μ++[p]) (Ji H p o) p u):GRep K ca (μ++[p]) (Ji H p o) (g++[u]):=by
 have nm:p∉μ:=λh=>by obtain⟨z,hz⟩:=r.known h;rw[hp]at hz;cases hz
 refine⟨by rw[Uo,Uo,r.len];rfl,?_,λn a w h1 h2=>?_⟩
 ·rw[Wu];exact⟨r.nd,by simp,λx hx y hy e=>nm (by rw[Uf.mp hy]at e;rw[<-e];exact hx)⟩
 ·by_cases hn:n<g.length
  ·rw[Ut hn]at h2;rw[Ut (by rw[r.len];exact hn)]at h1;exact(r.obj n a w h1 h2).mono (ZI hp) λz hz=>by rw[Q9 (Z8 hz hp)];exact hz
  ·rw[Ux (by omega)]at h2;rw[Ux (by rw[r.len];omega)]at h1;have e0:n-g.length=0:=by have:=(Ui.mp h2).1;simp at this;omega
   rw[e0]at h2;rw[r.len,e0]at h1;simp at h1 h2;subst h1 h2;exact ho
theorem KG{a:Addr}{o o':HO}(h:H a=some o)(no:∀xs,o≠.tup xs)(nf:∀b u,o≠.frz b u):Ext K μ H μ (Ji H a o'):=⟨⟨[],by simp⟩,λb xs hb=>by
 rcases hb with(z|⟨u,z⟩)|z
 ·exact .inl (.inl (by rw[Q9 (Pf z h (Ne.symm (no xs)))];exact z))
 ·exact .inl (.inr ⟨u,by rw[Q9 (Pf z h (Ne.symm (nf u _)))];exact z⟩)
 ·exact .inr z,λb xs hb=>by
 rcases hb with⟨u,z⟩|z
 ·exact .inl ⟨u,by rw[Q9 (Pf z h (Ne.symm (nf u _)))];exact z⟩
 ·exact .inr z,λb u v z=>by rw[Q9 (Pf z h (Ne.symm (nf u v)))];exact z⟩
theorem GRep.set{g:G}{n:Nat}{a:Addr}{o o':HO}{u:GO}(r:GRep K ca μ H g)(hn:μ[n]?=some a)(h:H a=some o)(no:∀xs,o≠.tup xs)(nf:∀b u,o≠.frz b u)(ho:ORep K ca μ (Ji H a o') a u):
  GRep K ca μ (Ji H a o') (g.set n u):=by
 refine⟨by rw[UH,r.len],r.nd,λm b w h1 h2=>?_⟩;by_cases e:m=n
 ·subst e;rw[hn]at h1;cases h1;have hl:m<g.length:=by rw[<-r.len];exact(Ui.mp hn).1
  rw[Td hl]at h2;cases h2;exact ho
 ·rw[Ul (Ne.symm e)]at h2;have nb:b≠a:=λz=>by subst z;have e1:=(Ui.mp h1);have e2:=(Ui.mp hn);obtain⟨l1,q1⟩:=e1;obtain⟨l2,q2⟩:=e2;exact e ((WC r.nd).mp (q1.trans q2.symm))
  exact(r.obj m b w h1 h2).mono (KG h no nf) λz hz=>by rw[Q9 nb];exact hz
abbrev XS:=Xc->L2.St->Hp->Prop
def A1(X:Cx)(pins:Xw)(H:Hp)(b:Addr):Prop:=H b=none/\b≠X.env.locals/\b∉X.fs/\(b∈X.ex\/X.s₀.heap.get? b=none)/\(∀x c,X.env.cells.lookup x=some c->c≠b)/\∀p∈X.pn++pins,p.1≠b
structure Fl(X:Cx)(ca:Nat->Addr)(a:Addr)(x:Xc)(H:Hp)(h:Heap):Prop where
 fp:A1 X [] H a
 ln:x.2=none
 ex:∃oe vs,h.get? a=some oe/\XOb ca x oe/\oe.data=.fields vs/\1<vs.size/\(vs[1]?=some .none\/∃T oT ts,vs[1]?=some (.ref T)/\T≠a/\A1 X [] H T/\h.get? T=some oT/\oT.data=.fields ts/\3<ts.size/\(ts[3]?=some .none\/ts[3]?=some (rawInt X.env.locals)))
def XE(X:Cx)(ca:Nat->Addr)(Φ:XS):Value->Shared->Prop:=λv s=>∃a x σ H,v=.ref a/\Inv X [] σ H s/\Fl X ca a x H s.heap/\Φ x σ H
abbrev Id(X:Cx)(pn:Xw):Cx:={X with pn:=pn,xe:=λ_ _=>False}
abbrev Zi(X:Cx)(ca:Nat->Addr)(pn:Xw)(Φ:XS):Cx:={X with pn:=pn,xe:=XE (Id X pn) ca Φ}
def RaP(K:Frag)(ca:Nat->Addr)(Φ:XS)(σ:L2.St)(H:Hp)(μ:List Addr)(x:Xc)(g':G):Prop:=∀H' μ',Ext K μ H μ' H'->GRep K ca μ' H' g'->Φ x σ H'
def Post(K:Frag)(ca:Nat->Addr)(Φ:XS)(σ:L2.St)(Q:VK)(H:Hp)(μ:List Addr):Res D->Prop
 |.ok d g'=>∀v H' μ',Ext K μ H μ' H'->GRep K ca μ' H' g'->Den K μ' H' v d->Q v H'|.raise x g'=>RaP K ca Φ σ H μ x g'|.stuck=>False
def PostT(K:Frag)(ca:Nat->Addr)(Φ:XS)(σ:L2.St)(Q:Bool->Hp->Prop)(H:Hp)(μ:List Addr):Res Bool->Prop
 |.ok b g'=>∀H' μ',Ext K μ H μ' H'->GRep K ca μ' H' g'->Q b H'|.raise x g'=>RaP K ca Φ σ H μ x g'|.stuck=>False
def PostA(K:Frag)(ca:Nat->Addr)(Φ:XS)(σ:L2.St)(Q:List V->Hp->Prop)(H:Hp)(μ:List Addr):Res (List D)->Prop
 |.ok ds g'=>∀vs H' μ',Ext K μ H μ' H'->GRep K ca μ' H' g'->Dens K μ' H' vs ds->Q vs H'|.raise x g'=>RaP K ca Φ σ H μ x g'|.stuck=>False
def PostS(K:Frag)(ca:Nat->Addr)(Φ:XS)(E:Ends)(H:Hp)(μ:List Addr):Out->Prop
 |.nx σ3 g'=>∀σ' H' μ',Ext K μ H μ' H'->Rep K ca μ' σ3 g' σ' H'->E.nx σ' H'|.bk σ3 g'=>∀σ' H' μ',Ext K μ H μ' H'->Rep K ca μ' σ3 g' σ' H'->E.bk σ' H'|.ct σ3 g'=>∀σ' H' μ',Ext K μ H μ' H'->Rep K ca μ' σ3 g' σ' H'->E.ct σ' H'|.rt d g'=>∀v H' μ',Ext K μ H μ' H'->GRep K ca μ' H' g'->Den K μ' H' v d->E.rt v H'|.raise x σ3 g'=>∀σ' H' μ',Ext K μ H μ' H'->Rep K ca μ' σ3 g' σ' H'->Φ x σ' H'|.stuck=>False
def up(K:Frag)(ca:Nat->Addr)(Φ:XS)(m:ME):TE:=λσ H Q=>∃σ3 g μ,Rep K ca μ σ3 g σ H/\Post K ca Φ σ Q H μ (m σ3 g)
def iF(K:Frag)(ca:Nat->Addr)(Φ:XS)(m:MT):TT:=λσ H Q=>∃σ3 g μ,Rep K ca μ σ3 g σ H/\PostT K ca Φ σ Q H μ (m σ3 g)
def cQ(K:Frag)(ca:Nat->Addr)(Φ:XS)(m:MA):TA:=λσ H Q=>∃σ3 g μ,Rep K ca μ σ3 g σ H/\PostA K ca Φ σ Q H μ (m σ3 g)
def mL(K:Frag)(ca:Nat->Addr)(Φ:XS)(m:MS):TS:=λE σ H=>∃σ3 g μ,Rep K ca μ σ3 g σ H/\PostS K ca Φ E H μ (m σ3 g)
def Za(ca:Nat->Addr)(X:Cx)(e:Expr)(m:ME):Prop:=∀pn Φ,PE (Zi X ca pn Φ) e (up X.K ca Φ m)
def GA(ca:Nat->Addr)(X:Cx)(e:Expr)(m:MT):Prop:=∀pn Φ,PT (Zi X ca pn Φ) e (iF X.K ca Φ m)
def iG(ca:Nat->Addr)(X:Cx)(e:Expr)(m:MT):Prop:=∀pn Φ,PW (Zi X ca pn Φ) e (iF X.K ca Φ m)
def A2(ca:Nat->Addr)(X:Cx)(es:List Expr)(m:MA):Prop:=∀pn Φ,PA (Zi X ca pn Φ) es (cQ X.K ca Φ m)
def Mv(ca:Nat->Addr)(X:Cx)(st:Stmt)(m:MS):Prop:=∀pn Φ,PS (Zi X ca pn Φ) st (mL X.K ca Φ m)
def Fi(ca:Nat->Addr)(X:Cx)(sts:List Stmt)(m:MS):Prop:=∀pn Φ,Ph (Zi X ca pn Φ) sts (mL X.K ca Φ m)
variable{Φ:XS}{σ:L2.St}
theorem RaP.go{x:Xc}{g':G}(e:Ext K μ H μ' H')(h:RaP K ca Φ σ H μ x g'):RaP K ca Φ σ H' μ' x g':=λH2 μ2 e2=>h H2 μ2 (e.trans e2)
theorem Post.go{Q:VK}{r:Res D}(e:Ext K μ H μ' H')(h:Post K ca Φ σ Q H μ r):Post K ca Φ σ Q H' μ' r:=by
 cases r with
 |ok d g'=>exact λv H2 μ2 e2=>h v H2 μ2 (e.trans e2)
 |raise _ _=>exact RaP.go e h|stuck=>exact h
theorem PostT.go{Q:Bool->Hp->Prop}{r:Res Bool}(e:Ext K μ H μ' H')(h:PostT K ca Φ σ Q H μ r):PostT K ca Φ σ Q H' μ' r:=by
 cases r with
 |ok d g'=>exact λH2 μ2 e2=>h H2 μ2 (e.trans e2)
 |raise _ _=>exact RaP.go e h|stuck=>exact h
theorem PostA.go{Q:List V->Hp->Prop}{r:Res (List D)}(e:Ext K μ H μ' H')(h:PostA K ca Φ σ Q H μ r):PostA K ca Φ σ Q H' μ' r:=by
 cases r with
 |ok d g'=>exact λv H2 μ2 e2=>h v H2 μ2 (e.trans e2)
 |raise _ _=>exact RaP.go e h|stuck=>exact h
theorem PostS.go{E:Ends}{r:Out}(e:Ext K μ H μ' H')(h:PostS K ca Φ E H μ r):PostS K ca Φ E H' μ' r:=by
 cases r with
 |nx _ _=>exact λv H2 μ2 e2=>h v H2 μ2 (e.trans e2)
 |bk _ _=>exact λv H2 μ2 e2=>h v H2 μ2 (e.trans e2)
 |ct _ _=>exact λv H2 μ2 e2=>h v H2 μ2 (e.trans e2)
 |rt _ _=>exact λv H2 μ2 e2=>h v H2 μ2 (e.trans e2)
 |raise _ _ _=>exact λv H2 μ2 e2=>h v H2 μ2 (e.trans e2)
 |stuck=>exact h
theorem Post.pure{Q:VK}{g:G}{v:V}{d:D}(h:Post K ca Φ σ Q H μ (.ok d g))(r:GRep K ca μ H g)(q:Den K μ H v d):Q v H:=h v H μ .refl r q
theorem RaP.stmt{x:Xc}{σ3:S3}{g g':G}{E:Ends}(R:Rep K ca μ σ3 g σ H)(h:PostS K ca Φ E H μ (.raise x σ3 g')):RaP K ca Φ σ H μ x g':=λH' μ' e r=>h σ H' μ' e (R.go e r)
theorem Lz{m:ME}{α:Type}{k:D->G->Res α}{σ3:S3}{g:G}(R:Rep K ca μ σ3 g σ H){P:Res α->Hp->List Addr->Prop}(hp:P ((m σ3 g).bind k) H μ)(hst:∀H μ,¬P .stuck H μ)(hra:∀e g H μ,P (.raise e g) H μ->RaP K ca Φ σ H μ e g)(hgo:∀r H μ H' μ',Ext K μ H μ' H'->P r H μ->P r H' μ'):
  up K ca Φ m σ H λx H1=>∃d g1 μ1,Ext K μ H μ1 H1/\Rep K ca μ1 σ3 g1 σ H1/\Den K μ1 H1 x d/\P (k d g1) H1 μ1:=by
 refine⟨σ3,g,μ,R,?_⟩;cases hm:m σ3 g with
 |ok d g1 =>rw[hm]at hp;exact λv H1 μ1 e1 r1 d1=>⟨d,g1,μ1,e1,R.go e1 r1,d1,hgo _ _ _ _ _ e1 hp⟩
 |raise e g1=>rw[hm]at hp;exact hra _ _ _ _ hp|stuck=>rw[hm]at hp;exact(hst _ _ hp).elim
theorem X6{m:ME}{k:D->G->Res D}{σ3:S3}{g:G}{Q:VK}(R:Rep K ca μ σ3 g σ H)(hp:Post K ca Φ σ Q H μ ((m σ3 g).bind k)):
  up K ca Φ m σ H λx H1=>∃d g1 μ1,Ext K μ H μ1 H1/\Rep K ca μ1 σ3 g1 σ H1/\Den K μ1 H1 x d/\Post K ca Φ σ Q H1 μ1 (k d g1):=Lz (P:=λr H μ=>Post K ca Φ σ Q H μ r) R hp (λ_ _ h=>h) (λ_ _ _ _ h=>h) λ_ _ _ _ _ e h=>h.go e
theorem iH{m:ME}{k:D->G->Res Bool}{σ3:S3}{g:G}{Q:Bool->Hp->Prop}(R:Rep K ca μ σ3 g σ H)(hp:PostT K ca Φ σ Q H μ ((m σ3 g).bind k)):
  up K ca Φ m σ H λx H1=>∃d g1 μ1,Ext K μ H μ1 H1/\Rep K ca μ1 σ3 g1 σ H1/\Den K μ1 H1 x d/\PostT K ca Φ σ Q H1 μ1 (k d g1):=Lz (P:=λr H μ=>PostT K ca Φ σ Q H μ r) R hp (λ_ _ h=>h) (λ_ _ _ _ h=>h) λ_ _ _ _ _ e h=>h.go e
theorem oF(R:Rep K ca μ σ3 g σ H)(hp:PostA K ca Φ σ Q H μ ((m σ3 g).bind k)):
  up K ca Φ m σ H λx H1=>∃d g1 μ1,Ext K μ H μ1 H1/\Rep K ca μ1 σ3 g1 σ H1/\Den K μ1 H1 x d/\PostA K ca Φ σ Q H1 μ1 (k d g1):=Lz (P:=λr H μ=>PostA K ca Φ σ Q H μ r) R hp (λ_ _ h=>h) (λ_ _ _ _ h=>h) λ_ _ _ _ _ e h=>h.go e
theorem MJ{m:MT}{α:Type}{k:Bool->G->Res α}{σ3:S3}{g:G}(R:Rep K ca μ σ3 g σ H){P:Res α->Hp->List Addr->Prop}(hp:P ((m σ3 g).bind k) H μ)(hst:∀H μ,¬P .stuck H μ)(hra:∀e g H μ,P (.raise e g) H μ->RaP K ca Φ σ H μ e g)(hgo:∀r H μ H' μ',Ext K μ H μ' H'->P r H μ->P r H' μ'):
  iF K ca Φ m σ H λb H1=>∃g1 μ1,Ext K μ H μ1 H1/\Rep K ca μ1 σ3 g1 σ H1/\P (k b g1) H1 μ1:=by
 refine⟨σ3,g,μ,R,?_⟩;cases hm:m σ3 g with
 |ok d g1 =>rw[hm]at hp;exact λH1 μ1 e1 r1=>⟨g1,μ1,e1,R.go e1 r1,hgo _ _ _ _ _ e1 hp⟩
 |raise e g1=>rw[hm]at hp;exact hra _ _ _ _ hp|stuck=>rw[hm]at hp;exact(hst _ _ hp).elim
theorem kP(R:Rep K ca μ σ3 g σ H)(hp:Post K ca Φ σ Q H μ ((m σ3 g).bind k)):
  iF K ca Φ m σ H λb H1=>∃g1 μ1,Ext K μ H μ1 H1/\Rep K ca μ1 σ3 g1 σ H1/\Post K ca Φ σ Q H1 μ1 (k b g1):=MJ (P:=λr H μ=>Post K ca Φ σ Q H μ r) R hp (λ_ _ h=>h) (λ_ _ _ _ h=>h) λ_ _ _ _ _ e h=>h.go e
theorem Oe(R:Rep K ca μ σ3 g σ H)(hp:PostT K ca Φ σ Q H μ ((m σ3 g).bind k)):
  iF K ca Φ m σ H λb H1=>∃g1 μ1,Ext K μ H μ1 H1/\Rep K ca μ1 σ3 g1 σ H1/\PostT K ca Φ σ Q H1 μ1 (k b g1):=MJ (P:=λr H μ=>PostT K ca Φ σ Q H μ r) R hp (λ_ _ h=>h) (λ_ _ _ _ h=>h) λ_ _ _ _ _ e h=>h.go e
theorem MK{m:MA}{α:Type}{k:List D->G->Res α}{σ3:S3}{g:G}(R:Rep K ca μ σ3 g σ H){P:Res α->Hp->List Addr->Prop}(hp:P ((m σ3 g).bind k) H μ)(hst:∀H μ,¬P .stuck H μ)(hra:∀e g H μ,P (.raise e g) H μ->RaP K ca Φ σ H μ e g)(hgo:∀r H μ H' μ',Ext K μ H μ' H'->P r H μ->P r H' μ'):
  cQ K ca Φ m σ H λxs H1=>∃ds g1 μ1,Ext K μ H μ1 H1/\Rep K ca μ1 σ3 g1 σ H1/\Dens K μ1 H1 xs ds/\P (k ds g1) H1 μ1:=by
 refine⟨σ3,g,μ,R,?_⟩;cases hm:m σ3 g with
 |ok d g1 =>rw[hm]at hp;exact λv H1 μ1 e1 r1 d1=>⟨d,g1,μ1,e1,R.go e1 r1,d1,hgo _ _ _ _ _ e1 hp⟩
 |raise e g1=>rw[hm]at hp;exact hra _ _ _ _ hp|stuck=>rw[hm]at hp;exact(hst _ _ hp).elim
theorem GT(R:Rep K ca μ σ3 g σ H)(hp:Post K ca Φ σ Q H μ ((m σ3 g).bind k)):
  cQ K ca Φ m σ H λxs H1=>∃ds g1 μ1,Ext K μ H μ1 H1/\Rep K ca μ1 σ3 g1 σ H1/\Dens K μ1 H1 xs ds/\Post K ca Φ σ Q H1 μ1 (k ds g1):=MK (P:=λr H μ=>Post K ca Φ σ Q H μ r) R hp (λ_ _ h=>h) (λ_ _ _ _ h=>h) λ_ _ _ _ _ e h=>h.go e
theorem kQ(R:Rep K ca μ σ3 g σ H)(hp:PostA K ca Φ σ Q H μ ((m σ3 g).bind k)):
  cQ K ca Φ m σ H λxs H1=>∃ds g1 μ1,Ext K μ H μ1 H1/\Rep K ca μ1 σ3 g1 σ H1/\Dens K μ1 H1 xs ds/\PostA K ca Φ σ Q H1 μ1 (k ds g1):=MK (P:=λr H μ=>PostA K ca Φ σ Q H μ r) R hp (λ_ _ h=>h) (λ_ _ _ _ h=>h) λ_ _ _ _ _ e h=>h.go e
theorem YB(h:up K ca Φ m σ H Q)(i:∀x H1,Q x H1->Q' x H1):up K ca Φ m σ H Q':=by
 obtain⟨σ3,g,μ,R,p⟩:=h;refine⟨σ3,g,μ,R,?_⟩;cases hm:m σ3 g with
 |ok d g1=>rw[hm]at p;exact λv H1 μ1 e r q=>i _ _ (p v H1 μ1 e r q)
 |raise e g1=>rw[hm]at p;exact p|stuck=>rw[hm]at p;exact p
theorem EE(h:iF K ca Φ m σ H Q)(i:∀x H1,Q x H1->Q' x H1):iF K ca Φ m σ H Q':=by
 obtain⟨σ3,g,μ,R,p⟩:=h;refine⟨σ3,g,μ,R,?_⟩;cases hm:m σ3 g with
 |ok d g1=>rw[hm]at p;exact λH1 μ1 e r=>i _ _ (p H1 μ1 e r)
 |raise e g1=>rw[hm]at p;exact p|stuck=>rw[hm]at p;exact p
theorem Kl(h:cQ K ca Φ m σ H Q)(i:∀x H1,Q x H1->Q' x H1):cQ K ca Φ m σ H Q':=by
 obtain⟨σ3,g,μ,R,p⟩:=h;refine⟨σ3,g,μ,R,?_⟩;cases hm:m σ3 g with
 |ok d g1=>rw[hm]at p;exact λv H1 μ1 e r q=>i _ _ (p v H1 μ1 e r q)
 |raise e g1=>rw[hm]at p;exact p|stuck=>rw[hm]at p;exact p
end
theorem Yt(h:PE X e t)(i:∀σ H Q,t' σ H Q->t σ H Q):PE X e t':=λpins s σ H Q I q=>h pins s σ H Q I (i σ H Q q)
theorem LA(h:PT X e t)(i:∀σ H Q,t' σ H Q->t σ H Q):PT X e t':=λpins s σ H Q I q=>h pins s σ H Q I (i σ H Q q)
theorem Pp(h:PW X e t)(i:∀σ H Q,t' σ H Q->t σ H Q):PW X e t':=λw pins s σ H Q I q=>h w pins s σ H Q I (i σ H Q q)
theorem Pq(h:PA X e t)(i:∀σ H Q,t' σ H Q->t σ H Q):PA X e t':=λp pins s σ H Q I q=>h p pins s σ H Q I (i σ H Q q)
theorem Xe(h:PS X e t)(i:∀D σ H,t' D σ H->t D σ H):PS X e t':=λpins s σ H D I q=>h pins s σ H D I (i D σ H q)
theorem ML(h:Ph X e t)(i:∀D σ H,t' D σ H->t D σ H):Ph X e t':=λpins s σ H D I q=>h pins s σ H D I (i D σ H q)
section
variable{X:Cx}{ca:Nat->Addr}{a b c e:Expr}{es rest:List Expr}{ma mb me:ME}{tc ta tb:MT}{mr:MA}{pos:Pos}
theorem Qc(i:Nat){x:Str}(hN:X.N[i]?=some x:=by rfl)(hv:qH X.env.scope x:=by first|exact Or.inl rfl|exact Or.inr (Or.inl rfl)|exact Or.inr (Or.inr rfl))(hd:(x==("__debug__" : Str))=false:=by decide)(hcd:(x==("__classdict__" : Str))=false:=by decide):Za ca X (.Name x pos) (Qa i):=
 λpn Φ=>Yt (jD (X:=Zi X ca pn Φ) hN hv hd hcd) λσ H Q hQ=>by
  obtain⟨σ3,g,μ,R,p⟩:=hQ;unfold Qa at p;cases e:σ3[i]? with
  |none=>rw[e]at p;exact p.elim|some o=>
   cases o with
   |none=>rw[e]at p;exact p.elim|some d =>rw[e]at p;obtain⟨v,h1,h2⟩:=R.st i d e;exact⟨v,h1,p v H μ .refl R.g h2⟩
theorem MM(h:∀pn Φ,PE (Zi X ca pn Φ) e (tC v))(hd:∀K μ H,Den K μ H v d):Za ca X e (Qq d):=λpn Φ=>Yt (h pn Φ) λ_ H _ ⟨_,_,μ,R,p⟩=>p v H μ .refl R.g (hd _ _ _)
theorem Qf  : Za ca X (.Constant (.int i) j pos) (Qq (.int i)):=MM (λ_ _=>jE) λ_ _ _=>.int i
theorem QO  : Za ca X (.Constant (.str x) j pos) (Qq (.str x)):=MM (λ_ _=>jG) λ_ _ _=>.str x
theorem Km  : Za ca X (.Constant (.bool x) j pos) (Qq (.bl x)):=MM (λ_ _=>mT) λ_ _ _=>.bl x
theorem Jl:Za ca X (.Constant .none j pos) (Qq .non):=MM (λ_ _=>jF) λ_ _ _=>.non
theorem Dr(hm:X.mg x=some u)(r:RelV v u)(hd':∀K μ H,Den K μ H v d)(hg:Gl X x:=by rfl)(hd:(x==("__debug__" : Str))=false:=by decide):Za ca X (.Name x pos) (Qq d):=MM (λpn Φ=>Pi (X:=Zi X ca pn Φ) hg hm r hd) hd'
def JK(K:Frag)(ca:Nat->Addr)(r:R2)(f:D->D->G->Res D):Prop:=∀(Φ:XS)(σ:L2.St)(H:Hp)(μ:List Addr)(g:G)(x y:V)(dx dy:D)(Q:VK),GRep K ca μ H g->Den K μ H x dx->Den K μ H y dy->Post K ca Φ σ Q H μ (f dx dy g)->r x y H Q
theorem LB{K:Frag}{Φ:XS}{r:R2}{f:D->D->G->Res D}(hp:JK K ca r f)(σ:L2.St)(H:Hp)(Q:VK)(h:up K ca Φ (Qe f ma mb) σ H Q):nI r (up K ca Φ ma) (up K ca Φ mb) σ H Q:=by obtain⟨σ3,g,μ,R,p⟩:=h;refine YB (X6 R p) λx H1 hZ=>?_;obtain⟨dx,g1,μ1,e1,R1,q1,p1⟩:=hZ;refine YB (X6 R1 p1) λy H2 hZ=>?_;obtain⟨dy,g2,μ2,e2,R2,q2,p2⟩:=hZ;exact hp Φ σ H2 μ2 g2 x y dx dy Q R2.g (q1.mono e2) q2 p2
theorem MN(ho:∀pn Φ,OpR (Zi X ca pn Φ) (binaryOp op) r)(hp:JK X.K ca r f)(ha:Za ca X a ma)(hb:Za ca X b mb):Za ca X (.BinOp a op b pos) (Qe f ma mb):=λpn Φ=>Yt (nJ (ho pn Φ) (ha pn Φ) (hb pn Φ)) (LB hp)
theorem GU(ho:∀pn Φ,OpR (Zi X ca pn Φ) (compareOp op) r)(hp:JK X.K ca r f)(ha:Za ca X a ma)(hb:Za ca X b mb)(hm:behindInMarks op b=false):Za ca X (.Compare a [op] [b] pos) (Qe f ma mb):=λpn Φ=>Yt (dG (ho pn Φ) (ha pn Φ) (hb pn Φ) hm) (LB hp)
theorem sR(ho:∀pn Φ,IxR (Zi X ca pn Φ) r)(hp:JK X.K ca r f)(ha:Za ca X a ma)(hb:Za ca X b mb)(hs:Lq b:=by exact λ_ _=>rfl):Za ca X (.Subscript a b pos) (Qe f ma mb):=λpn Φ=>Yt (nU (ho pn Φ) (ha pn Φ) (hb pn Φ) hs) (LB hp)
theorem sT{op:UnaryOp}{r:V->Hp->VK->Prop}{f:D->G->Res D}(ho:∀pn Φ,qJ (Zi X ca pn Φ) (unaryOp op) r)(hp:∀(Φ:XS) (σ:L2.St) (H:Hp) (μ:List Addr) (g:G) (x:V) (dx:D) (Q:VK),GRep X.K ca μ H g->Den X.K μ H x dx->Post X.K ca Φ σ Q H μ (f dx g)->r x H Q)(ha:Za ca X a ma):Za ca X (.UnaryOp op a pos) (Qv f ma):=λpn Φ=>Yt (nK (ho pn Φ) (ha pn Φ)) λσ H Q ⟨σ3,g,μ,R,p⟩=>YB (X6 R p) λx H1 ⟨dx,g1,μ1,e1,R1,q1,p1⟩=>hp Φ σ H1 μ1 g1 x dx Q R1.g q1 p1
theorem Qh:A2 ca X [] Qi:=λpn Φ=>Pq (Lo (X:=Zi X ca pn Φ)) λ_ H _ ⟨_,_,μ,R,p⟩=>p [] H μ .refl R.g .nil
theorem XB(ha:Za ca X e me)(hr:A2 ca X es mr)(hs:starEach (e::es) X.env=(false,eval e X.env)::starEach es X.env:=by rfl):A2 ca X (e::es) (Qb me mr):=λpn Φ=>Pq (KF (X:=Zi X ca pn Φ) (ha pn Φ) (hr pn Φ) hs) λσ H Q ⟨σ3,g,μ,R,p⟩=>YB (oF R p) λx H1 ⟨d,g1,μ1,e1,R1,q1,p1⟩=>
  Kl (kQ R1 p1) λxs H2 ⟨ds,g2,μ2,e2,R2,q2,p2⟩=>p2 (x::xs) H2 μ2 .refl R2.g (.cons (q1.mono e2) q2)
theorem Y2(ha:Za ca X a ma)(he:∀whole,isTrue a X.env whole=(do let v <-whole;standAt a.pos;holding [v] (truthy v)):=by intro _;rfl):GA ca X a (Qo ma):=
 λpn Φ=>LA (jH (X:=Zi X ca pn Φ) (ha pn Φ) he) λσ H Q ⟨σ3,g,μ,R,p⟩=>YB (iH R p) λx H1 hQ=>by
  obtain⟨d,g1,μ1,e1,R1,q1,p1⟩:=hQ;cases q1 with
  |bl b=>exact⟨b,rfl,p1 H1 μ1 .refl R1.g⟩|_=>exact p1.elim
theorem XU(ho:∀pn Φ,OpR (Zi X ca pn Φ) (compareOp op) r)(hp:JK X.K ca r f)(ha:Za ca X a ma)(hb:Za ca X b mb)(hm:behindInMarks op b=false):GA ca X (.Compare a [op] [b] pos) (Qo (Qe f ma mb)):=
 λpn Φ=>LA (dH (ho pn Φ) (ha pn Φ) (hb pn Φ) hm) λσ H Q hQ=>by
  obtain⟨σ3,g,μ,R,p⟩:=hQ;have q:up X.K ca Φ (Qe f ma mb) σ H λx H'=>∃k,x=.bl k/\Q k H':=YB (iH R p) λx H1 hQ=>by
   obtain⟨d,g1,μ1,e1,R1,q1,p1⟩:=hQ;cases q1 with
   |bl b=>exact⟨b,rfl,p1 H1 μ1 .refl R1.g⟩|_=>exact p1.elim
  exact LB hp σ H _ q
theorem Xf(ha:GA ca X a ta):GA ca X (.UnaryOp .Not a pos) (YD ta):=λpn Φ=>LA (jK (X:=Zi X ca pn Φ) (ha pn Φ)) λσ H Q ⟨σ3,g,μ,R,p⟩=>EE (Oe R p) λb H1 ⟨g1,μ1,e1,R1,p1⟩=>p1 H1 μ1 .refl R1.g
theorem Co(ha:GA ca X a ta):iG ca X (.BoolOp .And [a] pos) ta:=λpn Φ=>cX (X:=Zi X ca pn Φ) (ha pn Φ)
theorem CS(ha:GA ca X a ta):iG ca X (.BoolOp .Or [a] pos) ta:=λpn Φ=>jI (X:=Zi X ca pn Φ) (ha pn Φ)
theorem Fj(ha:GA ca X a ta)(hb:iG ca X (.BoolOp .And (b::rest) pos) tb):iG ca X (.BoolOp .And (a::b::rest) pos) (Jj ta tb):=
 λpn Φ=>Pp (jJ (X:=Zi X ca pn Φ) (ha pn Φ) (hb pn Φ)) λσ H Q ⟨σ3,g,μ,R,p⟩=>EE (Oe R p) λb H1 hQ=>by
  obtain⟨g1,μ1,e1,R1,p1⟩:=hQ;cases b with
  |true=>rw[Uc rfl]at p1 ⊢;exact⟨σ3,g1,μ1,R1,p1⟩|false=>rw[Uh Ue]at p1 ⊢;exact p1 H1 μ1 .refl R1.g
theorem EF(ha:GA ca X a ta)(hb:iG ca X (.BoolOp .Or (b::rest) pos) tb):iG ca X (.BoolOp .Or (a::b::rest) pos) (BG ta tb):=
 λpn Φ=>Pp (mU (X:=Zi X ca pn Φ) (ha pn Φ) (hb pn Φ)) λσ H Q ⟨σ3,g,μ,R,p⟩=>EE (Oe R p) λb H1 hQ=>by
  obtain⟨g1,μ1,e1,R1,p1⟩:=hQ;cases b with
  |true=>rw[Uc rfl]at p1 ⊢;exact p1 H1 μ1 .refl R1.g|false=>rw[Uh Ue]at p1 ⊢;exact⟨σ3,g1,μ1,R1,p1⟩
theorem SV(h:iG ca X e ta):GA ca X e ta:=λpn Φ=>(h pn Φ).pt
theorem oG(ha:Za ca X a ma):Za ca X (.UnaryOp .Not a pos) (oB ma):=
 λpn Φ=>Yt (jN (X:=Zi X ca pn Φ) (ha pn Φ)) λσ H Q ⟨σ3,g,μ,R,p⟩=>YB (X6 R p) λx H1 hQ=>by
  obtain⟨d,g1,μ1,e1,R1,q1,p1⟩:=hQ;cases q1 with
  |bl b=>exact⟨b,rfl,p1 _ H1 μ1 .refl R1.g (.bl _)⟩|_=>exact p1.elim
theorem CJ(ha:Za ca X a ma):Za ca X (.BoolOp op [a] pos) ma:=λpn Φ=>jL (X:=Zi X ca pn Φ) (ha pn Φ)
theorem VD(ha:Za ca X a ma)(hb:Za ca X (.BoolOp .And (b::rest) pos) mb):Za ca X (.BoolOp .And (a::b::rest) pos) (Jx ma mb):=
 λpn Φ=>Yt (jM (X:=Zi X ca pn Φ) (ha pn Φ) (hb pn Φ)) λσ H Q ⟨σ3,g,μ,R,p⟩=>YB (X6 R p) λx H1 hQ=>by
  obtain⟨d,g1,μ1,e1,R1,q1,p1⟩:=hQ;cases q1 with
  |bl b=>
   refine⟨b,rfl,?_⟩;cases b with
   |true=>rw[Uc rfl];exact⟨σ3,g1,μ1,R1,p1⟩|false=>rw[Uh Ue];exact p1 _ H1 μ1 .refl R1.g (.bl _)
  |_=>exact p1.elim
theorem Vl(hc:GA ca X c tc)(ha:Za ca X a ma)(hb:Za ca X b mb):Za ca X (.IfExp c a b pos) (X5 tc ma mb):=
 λpn Φ=>Yt (A6 (X:=Zi X ca pn Φ) (hc pn Φ) (ha pn Φ) (hb pn Φ)) λσ H Q ⟨σ3,g,μ,R,p⟩=>EE (kP R p) λb H1 hQ=>by
  obtain⟨g1,μ1,e1,R1,p1⟩:=hQ;cases b with
  |true=>rw[Uc rfl]at p1 ⊢;exact⟨σ3,g1,μ1,R1,p1⟩|false=>rw[Uh Ue]at p1 ⊢;exact⟨σ3,g1,μ1,R1,p1⟩
theorem XV:SZ<=sizeLine:=by rw[RS];decide
theorem Dens.sz{K:Frag}{μ:List Addr}{H:Hp}{vs:List V}{ds:List D}(h:Dens K μ H vs ds)(z:ds.length<=SZ):vs.length<=sizeLine:=by rw[h.length];exact Up z XV
theorem Qz(h:A2 ca X es mr):Za ca X (.Tuple es k pos) (Qt QC mr):=
 λpn Φ=>Yt (Di (X:=Zi X ca pn Φ) (h pn Φ)) λσ H Q ⟨σ3,g,μ,R,p⟩=>Kl (GT R p) λxs H1 hQ=>by
  obtain⟨ds,g1,μ1,e1,R1,q1,p1⟩:=hQ;unfold QC at p1;by_cases z:ds.length<=SZ
  ·rw[Uc z]at p1;exact⟨q1.sz z,λt ht=>p1 _ _ μ1 (ZU ht) (R1.g.new ht) (.tup (.of Q6) (q1.mono (ZU ht)))⟩
  ·rw[Uh z]at p1;exact p1.elim
theorem Yn(h:A2 ca X es mr):Za ca X (.List es pos) (Qt Ym mr):=
 λpn Φ=>Yt (kF (X:=Zi X ca pn Φ) (h pn Φ)) λσ H Q ⟨σ3,g,μ,R,p⟩=>Kl (GT R p) λxs H1 hQ=>by
  obtain⟨ds,g1,μ1,e1,R1,q1,p1⟩:=hQ;unfold Ym at p1;by_cases z:ds.length<=SZ
  ·rw[Uc z]at p1;refine⟨q1.sz z,λt ht=>p1 _ _ (μ1++[t]) (ZI ht) (R1.g.push ht ⟨xs,Q6,q1.mono (ZI ht)⟩) (.ref ?_)⟩;rw[<-R1.g.len];simp
  ·rw[Uh z]at p1;exact p1.elim
end
end L3
namespace L3
open PySem PySem.Spec PyProof.Rows L2
section
variable{X:Cx}{ca:Nat->Addr}{pins:Xw}{σ:L2.St}{H:Hp}{s:Shared}{a:Addr}{x:Xc}{E:VP}
theorem Ds(I:Inv (Zi X ca pn Φ) pins σ H s):Inv (Id X pn) pins σ H s:=(Inv.wish I λ_ _=>False)
theorem LC(I:Inv X pins σ H s)(hb:s.heap.get? b=none)(hn:H' b=none):A1 X pins H' b:=by
 refine⟨hn,λz=>?_,λz=>?_,?_,λx c e z=>?_,λp hp z=>?_⟩
 ·obtain⟨m,⟨o,_,_,ho,_⟩,_⟩:=I.loc;rw[z,ho]at hb;cases hb
 ·obtain⟨_,o,ho,_⟩:=I.funs.mem z;rw[ho]at hb;cases hb
 ·by_cases hx:b∈X.ex
  ·exact .inl hx
  ·refine .inr ?_;cases q:X.s₀.heap.get? b with
   |none=>rfl|some o =>obtain⟨o',e'⟩:=I.base.there b o q hx;rw[e']at hb;cases hb
 ·obtain⟨v,o,ho,_⟩:=I.cell x c e;rw[z,hb]at ho;cases ho
 ·rw[<-z,(I.pin p hp).1]at hb;cases hb
theorem SW{H':Hp}{h':Heap}{g':Array GenState}{t':Nat}{d':Drawn}{ch:List Addr}(I:Inv X pins σ H s)(hch:∀b∈ch,(b∈X.ex\/X.s₀.heap.get? b=none)/\b≠X.env.locals/\(∀x c,X.env.cells.lookup x=some c->c≠b)/\∀p∈X.pn++pins,p.1≠b)(keep:∀b o,b≠X.env.locals->b∉X.fs->b∉ch->s.heap.get? b=some o->H b=none->h'.get? b=some o)(slot:∀b o,b≠X.env.locals->b∈X.fs->b∉ch->s.heap.get? b=some o->H b=none->∃sl,h'.get? b=some {o with slots:=sl})(free:∀b o,b∉ch->s.heap.get? b=some o->H b=none->H' b=none)(there:∀b o,b∉ch->s.heap.get? b=some o->∃o',h'.get? b=some o')(tups:∀b xs,H b=some (.tup xs)->H' b=some (.tup xs))(frzs:∀b o u,H b=some (.frz o u)->H' b=some (.frz o u))(tbls:∀b ps,H b=some (.tbl ps)->∃more,H' b=some (.tbl (ps++more)))(ns:∀m,s.heap.Ns X.env.locals m->h'.Ns X.env.locals m)(hok:HOk X.prog X.w H' h')(hg:AllBare g'):
  Inv X pins σ H' {s with heap:=h',gens:=g',drawn:=d',toks:=t'}:=by
 have neL:∀b o,X.s₀.heap.get? b=some o->b≠X.env.locals:=λb o e=>UY (UL (Uz e) I.ok.above);have neC:∀b o,X.s₀.heap.get? b=some o->b∉X.ex->b∉ch:=λb o e hx hb=>by
  rcases(hch b hb).1 with z|z
  ·exact hx z
  ·rw[z]at e;cases e
 have cellK:∀x c,X.env.cells.lookup x=some c->∀v,s.heap.IsCell c v->h'.IsCell c v:=λx c e v hQ=>by
  obtain⟨o,ho,hd⟩:=hQ;have nch:c∉ch:=λz=>(hch c z).2.2.1 x c e rfl;by_cases hc:c∈X.fs
  ·obtain⟨sl,q⟩:=slot c o (I.cne x c e) hc nch ho (I.freeC x c e);exact⟨_,q,hd⟩
  ·exact⟨o,keep c o (I.cne x c e) hc nch ho (I.freeC x c e),hd⟩
 refine⟨I.ok,I.os,hg,⟨λb o e n hb hx=>?_,λb o e n hb hx=>?_,λb o e n hx=>?_,λb o e hx=>?_,λb xs e=>tups b xs (I.base.tups b xs e),λb o xs e=>frzs b o xs (I.base.frzs b o xs e),λb ps e=>?_⟩,?_,λx c e=>?_,?_,λx c e=>?_,λp hp=>?_,hok,I.len⟩
 ·exact keep b o (neL b o e) hb (neC b o e hx) (I.base.keep b o e n hb hx) (I.base.free b o e n hx)
 ·obtain⟨sl,e1⟩:=I.base.slot b o e n hb hx;obtain⟨sl',e2⟩:=slot b _ (neL b o e) hb (neC b o e hx) e1 (I.base.free b o e n hx);exact⟨sl',e2⟩
 ·obtain⟨o',e1⟩:=I.base.there b o e hx;exact free b o' (neC b o e hx) e1 (I.base.free b o e n hx)
 ·obtain⟨o',e1⟩:=I.base.there b o e hx;exact there b o' (neC b o e hx) e1
 ·obtain⟨m1,e1⟩:=I.base.tbls b ps e;obtain⟨m2,e2⟩:=tbls b _ e1;exact⟨m1++m2,by rw[e2,Array.append_assoc]⟩
 ·obtain⟨m,hn,hl⟩:=I.loc;refine⟨m,ns m hn,λi x v e1 e2 e3=>?_⟩;obtain⟨u,r,l⟩:=hl i x v e1 e2 e3;refine⟨u,r,?_⟩;rcases l with l|⟨k,c,e,z⟩
  ·exact .inl l
  ·exact .inr ⟨k,c,e,cellK x c e _ z⟩
 ·obtain⟨v,z⟩:=I.cell x c e;exact⟨v,cellK x c e v z⟩
 ·obtain⟨m,⟨o,_,_,ho,_⟩,_⟩:=I.loc;exact free _ o (λz=>(hch _ z).2.1 rfl) ho I.free
 ·obtain⟨v,o,ho,hd⟩:=I.cell x c e;exact free c o (λz=>(hch c z).2.2.1 x c e rfl) ho (I.freeC x c e)
 ·obtain⟨e,n,ne,nf,d⟩:=I.pin p hp;have nch:p.1∉ch:=λz=>(hch p.1 z).2.2.2 p hp rfl;exact⟨keep p.1 p.2 ne nf nch e n,free p.1 p.2 nch e n,ne,nf,d⟩
theorem MP{ch:List Addr}{h':Heap}(I:Inv X pins σ H s)(hch:∀b∈ch,A1 X pins H b)(keep:∀b o,b∉ch->b≠X.env.locals->b∉X.fs->s.heap.get? b=some o->h'.get? b=some o)(slot:∀b o,b∉ch->s.heap.get? b=some o->∃sl,h'.get? b=some {o with slots:=sl}):Inv X pins σ H {s with heap:=h'}:=by
 have nl:X.env.locals∉ch:=λz=>(hch _ z).2.1 rfl;have nt:∀b v,H b=some v->b∉ch:=λb v e z=>by rw[(hch b z).1]at e;cases e
 have nf:∀b v,H b=some v->b∉X.fs:=λb v e z=>by obtain⟨_,o,ho,_⟩:=I.ok.funs.mem z;have:=I.base.free b o ho (I.ok.frf b z) λq=>I.ok.exfs b q z;rw[this]at e;cases e
 have nL:∀b v,H b=some v->b≠X.env.locals:=λb v e z=>by rw[z,I.free]at e;cases e
 refine SW (h':=h') (H':=H) (g':=s.gens) (t':=s.toks) (d':=s.drawn) (ch:=ch) I (λb hb=>⟨(hch b hb).2.2.2.1,(hch b hb).2.1,(hch b hb).2.2.2.2.1,(hch b hb).2.2.2.2.2⟩) (λb o h1 h2 h3 e _=>keep b o h3 h1 h2 e) (λb o _ _ h3 e _=>slot b o h3 e)
  (λb o _ _ n=>n) (λb o h e=>let ⟨sl,q⟩:=slot b o h e;⟨_,q⟩) (λb v e=>e) (λb o v e=>e) (λb ps e=>⟨#[],by rw[e];simp⟩) (λm hm=>?_) (λb v e=>?_) I.bare
 ·obtain⟨o,es,ep,ho,rr⟩:=hm;obtain⟨sl,q⟩:=slot _ o nl ho;exact⟨_,es,ep,q,rr⟩
 ·refine(I.hok b v e).stay (λc' v' hc' q=>?_) (λc' q=>q) λc' xs' q=>q;rcases hc' with rfl|hc'
  ·exact keep _ _ (nt _ _ e) (nL _ _ e) (nf _ _ e) q
  ·exact keep _ _ (nt _ _ hc') (nL _ _ hc') (nf _ _ hc') q
def FlN(X:Cx)(ca:Nat->Addr)(a:Addr)(x:Xc)(H:Hp)(h:Heap):Prop:=A1 X [] H a/\x.2=none/\∃oe vs T oT ts,h.get? a=some oe/\XOb ca x oe/\oe.data=.fields vs/\vs[1]?=some (.ref T)/\T≠a/\A1 X [] H T/\h.get? T=some oT/\oT.data=.fields ts/\ts[3]?=some (rawInt X.env.locals)
def qK(X:Cx)(ca:Nat->Addr)(a:Addr)(x:Xc)(H:Hp)(h:Heap):Prop:=A1 X [] H a/\x.2=none/\∃oe vs T oT ts,h.get? a=some oe/\XOb ca x oe/\oe.data=.fields vs/\vs[1]?=some (.ref T)/\T≠a/\A1 X [] H T/\h.get? T=some oT/\oT.data=.fields ts/\3<ts.size
theorem FlN.t(f:FlN X ca a x H h):qK X ca a x H h:=by obtain⟨f1,f2,oe,vs,T,oT,ts,e1,e2,e3,e4,e5,e6,e7,e8,e9⟩:=f;exact⟨f1,f2,oe,vs,T,oT,ts,e1,e2,e3,e4,e5,e6,e7,e8,(Ta.mp e9).1⟩
theorem FlN.fl(f:FlN X ca a x H h):Fl X ca a x H h:=by obtain⟨f1,f2,oe,vs,T,oT,ts,e1,e2,e3,e4,e5,e6,e7,e8,e9⟩:=f;exact⟨f1,f2,oe,vs,e1,e2,e3,(Ta.mp e4).1,.inr ⟨T,oT,ts,e4,e5,e6,e7,e8,(Ta.mp e9).1,.inr e9⟩⟩
theorem GV{h:Heap}{b:Addr}{o:Obj}{ts:Array Value}(i:Nat)(v:Value)(e:h.get? b=some o)(d:o.data=.fields ts):
  (h.update b (Obj.mapFields (·.setIfInBounds i v))).get? b=some (o.mapFields (·.setIfInBounds i v))/\(o.mapFields (·.setIfInBounds i v)).data=.fields (ts.setIfInBounds i v)/\(o.mapFields (·.setIfInBounds i v)).cls=o.cls:=⟨T1 _ e (RE (TW d _)),TW d _,Obj.cls_mapFields _ _⟩
theorem MQ{base:Heap}{env:Env}{outer:List Env}{L:Addr}{oe:Obj}{vs:Array Value}{head:Value}{hn:Bool}{M:Model}{A:Around}{Q:Unit->Shared->Prop}(hfr:A.frames=some (env::outer))(hl:s.heap.FunFrames base (env::outer))(hf:env.frame=some L)(he:s.heap.get? a=some oe)(hd:oe.data=.fields vs)(hsz:1<vs.size)(ha:a∉(env::outer).filterMap (·.frame))(k:∀h₁ (cells:Array Value),Heap.SlotsOnly ((env::outer).filterMap (·.frame)) s.heap h₁->cells[3]?=some (rawInt L)->Q () {s with heap:=(h₁.push {cls:=.type "traceback",dict:=none,data:=.fields cells}).update a (Obj.mapFields (·.setIfInBounds 1 (.ref h₁.objs.size)))}):
  wpAny M A (do let fv <-frameOf env;let pl <-entryPlaceOf L hn;let b <-EntryCells.newEntry head fv .none (rawInt L) .none pl;setField (.ref a) 1 b) Q E s:=by
 refine Ub (wpAny_frameOf_fun hfr hl hf λh₁ so=>Ub (wpAny_entryPlaceOf λpl hpl=>?_));unfold EntryCells.newEntry newFields;refine Ub (U7 ?_ (hpl.sizeOk5 _ _ _ _ _));have e1:h₁.get? a=some oe:=(so.2.1 a ha).trans he;refine Ra (Uk _ e1) hd hsz (k h₁ _ so ?_);first
  | (simp;done)
  | (rcases hpl with rfl|⟨_,_,_,_,_,_,_,rfl⟩<;>simp)
theorem LD{M:Model}{Q:Unit->Shared->Prop}(I:Inv X [] σ H s)(hk:X.stack=X.env::X.outer)(hf:X.env.frame=some X.env.locals)(fl:Fl X ca a x H s.heap)(k:∀h',Inv X [] σ H {s with heap:=h'}->FlN X ca a x H h'->Q () {s with heap:=h'}):wpAny M X.A (noteFrame (.ref a) X.env) Q E s:=by
 obtain⟨fp,ln,oe,vs,he,hc,hd,hsz,hv⟩:=fl;have hfr:X.A.frames=some (X.env::X.outer):=by rw[<-hk];exact I.ok.frames
 have hst:s.heap.FunFrames X.base (X.env::X.outer):=by rw[<-hk];exact I.stack
 have hfs:(X.env::X.outer).filterMap (·.frame)=X.env.locals::X.fs:=by rw[Tv,hf];rfl
 have ha:a∉(X.env::X.outer).filterMap (·.frame):=by
  rw[hfs];intro z;rcases Ud.mp z with z|z
  ·exact fp.2.1 z
  ·exact fp.2.2.1 z
 -- an entry is laid over a heap that differs from s at ch alone
 have fin:∀(h0 h₁:Heap)(cells:Array Value)(ch:List Addr),(∀b∈ch,A1 X [] H b)->(∀b o,b∉ch->s.heap.get? b=some o->h0.get? b=some o)->h0.objs.size=s.heap.objs.size->h0.get? a=some oe->Heap.SlotsOnly ((X.env::X.outer).filterMap (·.frame)) h0 h₁->cells[3]?=some (rawInt X.env.locals)->Q () {s with heap:=(h₁.push {cls:=.type "traceback",dict:=none,data:=.fields cells}).update a (Obj.mapFields (·.setIfInBounds 1 (.ref h₁.objs.size)))}:=by
  intro h0 h₁ cells ch hch hk0 hz he0 so hcl;have e1:h₁.get? a=some oe:=(so.2.1 a ha).trans he0;obtain⟨u1,u2,u3⟩:=GV 1 (.ref h₁.objs.size) (Uk {cls:=.type "traceback",dict:=none,data:=.fields cells} e1) hd;have hTa:h₁.objs.size≠a:=B5 (Uz e1);have oth:∀b o,b≠a->h₁.get? b=some o->((h₁.push {cls:=.type "traceback",dict:=none,data:=.fields cells}).update a (Obj.mapFields (·.setIfInBounds 1 (.ref h₁.objs.size)))).get? b=some o:=λb o hb e=>
   (Te _ _ (Ne.symm hb)).trans (Uk _ e)
  refine k _ (MP (ch:=a::ch) I (λb hb=>?_) (λb o h1 h2 h3 e=>?_) λb o h1 e=>?_) ⟨fp,ln,_,_,h₁.objs.size,_,cells,u1,hc.map _,u2,by simp[hsz],hTa,?_,(Te _ _ (Ne.symm hTa)).trans (UE _ rfl),rfl,hcl⟩
  ·rcases Ud.mp hb with e|e
   ·rw[e];exact fp
   ·exact hch b e
  ·refine oth b o (λz=>h1 (by rw[z];exact UC)) ?_;rw[so.2.1 b (by rw[hfs];intro z;rcases Ud.mp z with z|z;(· exact h2 z);exact h3 z)];exact hk0 b o (λz=>h1 (Uw _ z)) e
  ·obtain⟨sl,q⟩:=so.2.2 b o (hk0 b o (λz=>h1 (Uw _ z)) e);exact⟨sl,oth b _ (λz=>h1 (by rw[z];exact UC)) q⟩
  ·refine LC I (Heap.get?_none_of_le ?_) (I.hok.fresh ?_)<;>rw[so.1,hz]<;>exact Um _
 unfold noteFrame;simp only[hf];rcases hv with hv|⟨T,oT,ts,hv,hTa,fT,hT,hdT,hs3,h3⟩
 ·refine Ub (Th he hd hv ?_);rw[Uh (by decide)];exact MQ hfr hst hf he hd hsz ha λh₁ cells so hcl=>fin s.heap h₁ cells [] (by simp) (λ_ _ _ e=>e) rfl he so hcl
 ·refine Ub (Th he hd hv ?_);rw[Uc (show(Value.ref T != Value.none)=true from by simp)];rcases h3 with h3|h3
  ·refine Ub (Th hT hdT h3 ?_);rw[Uh (show ¬((Value.none==rawInt X.env.locals)=true) from by simp[rawInt])];refine Ub (Ra hT hdT hs3 ?_);have oth:∀b o,b≠T->s.heap.get? b=some o->(s.heap.update T (Obj.mapFields (·.setIfInBounds 3 Value.none))).get? b=some o:=λb o hb e=>(Te _ _ (Ne.symm hb)).trans e;have kp:∀b o,s.heap.get? b=some o->(∀vs,o.data≠.fields vs)->(s.heap.update T (Obj.mapFields (·.setIfInBounds 3 Value.none))).get? b=some o:=λb o e n=>oth b o (λz=>by rw[z,hT]at e;cases e;exact n _ hdT) e;refine MQ (s:={s with heap:=s.heap.update T (Obj.mapFields (·.setIfInBounds 3 Value.none))}) hfr (hst.of_keeps λb o e n=>⟨o,kp b o e n,rfl⟩) hf (oth a oe (Ne.symm hTa) he) hd hsz ha λh₁ cells so hcl=>?_;exact fin _ h₁ cells [T] (λb hb=>by rw[Uf.mp hb];exact fT) (λb o hb e=>oth b o (λz=>hb (by simp[z])) e) (Heap.size_after_update ..) (oth a oe (Ne.symm hTa) he) so hcl
  ·refine Ub (Th hT hdT h3 ?_);rw[Uc (show(rawInt X.env.locals==rawInt X.env.locals)=true from by simp)];exact Us (k s.heap I ⟨fp,ln,oe,vs,T,oT,ts,he,hc,hd,hv,hTa,fT,hT,hdT,h3⟩)
theorem Ko{M:Model}{A:Around}{Q:Unit->Shared->Prop}{fo:Option Addr}(I:Inv X [] σ H s)(fl:qK X ca a x H s.heap)(k:∀h' T oT ts oe vs,Inv X [] σ H {s with heap:=h'}->h'.get? a=some oe->XOb ca x oe->oe.data=.fields vs->vs[1]?=some (.ref T)->T≠a->A1 X [] H T->h'.get? T=some oT->oT.data=.fields ts->3<ts.size->ts[3]?=some (fo.elim Value.none λf=>rawInt f)->Q () {s with heap:=h'}):wpAny M A (setFlight (.ref a) fo) Q E s:=by
  obtain⟨fp,ln,oe,vs,T,oT,ts,he,hc,hd,hv,hTa,fT,hT,hdT,hs3⟩:=fl;unfold setFlight;refine Ub (Th he hd hv ?_);rw[Uc (show(Value.ref T != Value.none)=true from by simp)];have oth:∀b o,b≠T->s.heap.get? b=some o->(s.heap.update T (Obj.mapFields (·.setIfInBounds 3 (fo.elim Value.none λf=>rawInt f)))).get? b=some o:=λb o hb e=>(Te _ _ (Ne.symm hb)).trans e;obtain⟨u1,u2,u3⟩:=GV 3 (fo.elim Value.none λf=>rawInt f) hT hdT;refine Ra hT hdT hs3 (k _ T _ _ oe vs (MP (ch:=[T]) I (λb hb=>by rw[Uf.mp hb];exact fT) (λb o h1 _ _ e=>oth b o (λz=>h1 (by simp[z])) e) λb o h1 e=>⟨o.slots,oth b o (λz=>h1 (by simp[z])) e⟩)
    (oth a oe (Ne.symm hTa) he) hc hd hv hTa fT u1 u2 (by simpa using hs3) (by simp[hs3]))
theorem Dt(hk:X.stack=X.env::X.outer)(hf:X.env.frame=some X.env.locals)(pn:Xw)(Φ:XS):PassesOwn (model X.prog X.w) X.A X.env (Zi X ca pn Φ).xe:=by rintro v s ⟨a,x,σ,H,rfl,I,fl,q⟩;refine LD (X:=Id X pn) I hk hf fl λh1 I1 f1=>?_;unfold cameBackBy;obtain⟨fp,ln,oe,vs,T,oT,ts,he,hc,hd,hv,hTa,fT,hT,hdT,h3⟩:=id f1;refine Ub (Th he hd hv ?_);rw[Uh (show ¬((Value.ref T==Value.none)=true) from by simp)];refine Ko (X:=Id X pn) (fo:=X.env.frame) I1 f1.t λh2 T oT ts oe vs I2 a1 a2 a3 a4 a5 a6 a7 a8 a9 a10=>?_;rw[hf]at a10;exact⟨a,x,σ,H,rfl,I2,FlN.fl ⟨fp,ln,oe,vs,T,oT,ts,a1,a2,a3,a4,a5,a6,a7,a8,a10⟩,q⟩
end
def Of(P:Program)(w:World)(ca:Nat->Addr):dM:=λouter H s E v s'=>∃(a:Addr)(x:Xc)(H':Hp),v=.ref a/\s'.os=s.os/\AllBare s'.gens/\Un (Pg outer) [] H H' s.heap s'.heap/\HOk P w H' s'.heap/\x.2=none/\(∃oe vs T oT ts,s.heap.get? a=none/\H' a=none/\s'.heap.get? a=some oe/\XOb ca x oe/\oe.data=.fields vs/\vs[1]?=some (.ref T)/\T≠a/\s.heap.get? T=none/\H' T=none/\s'.heap.get? T=some oT/\oT.data=.fields ts/\ts[3]?=some .none)/\E (.int x.1 0) x.2 H'
section
variable{P:Program}{w:World}{K:Frag}{mg:KB}{base:Heap}{ca:Nat->Addr}
theorem Du{N:List Str}{qual:Str}{scope:Scope}{f:Addr}{cd:Value}{A:Around}{outer:List Env}{s s':Shared}{H:Hp}{E:XK}{v:Value}(h:XE (Id (Gg (Of P w ca) P w K mg base N qual scope f cd A outer s H E) []) ca (λx _ H'=>E (.int x.1 0) x.2 H') v s'):(Gg (Of P w ca) P w K mg base N qual scope f cd A outer s H E).xe v s':=by
 obtain⟨a,x,σ,H',rfl,I,fl,q⟩:=h;show wpAny _ _ (leaving _ (.ref a)) _ _ s';unfold leaving;refine Ub (LD I rfl rfl fl λh1 I1 f1=>?_);obtain⟨fp,ln,_⟩:=id f1;refine Ko (fo:=none) I1 f1.t λh2 T oT ts oe vs I2 a1 a2 a3 a4 a5 a6 a7 a8 a9 a10=>?_;refine⟨a,x,H',rfl,I2.os,I2.bare,I2.base,I2.hok,ln,⟨oe,vs,T,oT,ts,?_,fp.1,a1,a2,a3,a4,a5,?_,a6.1,a7,a8,a10⟩,q⟩
 ·rcases fp.2.2.2.1 with z|z
  ·exact absurd (show a∈([]:List Addr) from z) (by simp)
  ·exact z
 ·rcases a6.2.2.2.1 with z|z
  ·exact absurd (show T∈([]:List Addr) from z) (by simp)
  ·exact z
end
theorem Ps(I:Inv (Zi X ca pn Φ) pins σ H s)(h:Of X.prog X.w ca X.stack H s (λc l H'=>∀x:Xc,c=.int x.1 0->l=x.2->Φ x σ H') v s'):(Zi X ca pn Φ).xe v s':=by obtain⟨a,x,H',rfl,os,bare,un,hok,ln,⟨oe,vs,T,oT,ts,e1,e2,e3,e4,e5,e6,e7,e8,e9,e10,e11,e12⟩,q⟩:=h;have I0:Inv (Id X pn) [] σ H s:=(Ds I).pins_of λp hp=>absurd hp (by simp);have I1:Inv (Id X pn) [] σ H' s':=Inv.call' (ch:=[]) I0 os un hok bare λb z=>absurd z (by simp);refine⟨a,x,σ,H',rfl,I1,⟨LC I0 e1 e2,ln,oe,vs,e3,e4,e5,(Ta.mp e6).1,.inr ⟨T,oT,ts,e6,e7,LC I0 e8 e9,e10,e11,(Ta.mp e12).1,.inl e12⟩⟩,q x rfl rfl⟩
section
variable{X:Cx}{ca:Nat->Addr}{a b c e:Expr}{st:Stmt}{sts rest:List Stmt}{ma mb me:ME}{tc:MT}{m m':MS}{pos:Pos}
theorem QN:Fi ca X [] QU:=λpn Φ=>ML (Pj (X:=Zi X ca pn Φ)) λ_ σ H ⟨_,_,μ,R,p⟩=>p σ H μ .refl R
theorem kR{K:Frag}{Φ:XS}(E:Ends)(σ:L2.St)(H:Hp)(h:mL K ca Φ (Qs m m') E σ H):mY (mL K ca Φ m) (mL K ca Φ m') E σ H:=by
 obtain⟨σ3,g,μ,R,p⟩:=h;refine⟨σ3,g,μ,R,?_⟩;unfold Qs at p;cases hm:m σ3 g with
 |nx σ1 g1 =>rw[hm]at p;exact λσ' H' μ' e' R'=>⟨σ1,g1,μ',R',PostS.go e' p⟩
 |rt d g1=>rw[hm]at p;exact p|bk _ _=>rw[hm]at p;exact p|ct _ _=>rw[hm]at p;exact p|raise _ _ _=>rw[hm]at p;exact p|stuck=>rw[hm]at p;exact p
theorem Qg(h1:Mv ca X st m)(h2:Fi ca X rest m'):Fi ca X (st::rest) (Qs m m'):=λpn Φ=>ML (A7 (X:=Zi X ca pn Φ) (h1 pn Φ) (h2 pn Φ)) kR
theorem Qk(h1:Mv ca X st m):Fi ca X [st] m:=λpn Φ=>cY (X:=Zi X ca pn Φ) (h1 pn Φ)
theorem Pt:Mv ca X st Oc:=λpn Φ=>Xe (A8 (X:=Zi X ca pn Φ)) λ_ _ _ ⟨_,_,_,_,p⟩=>p
theorem ZN(he:Za ca X e me)(hs:swapsWith e none pos.line X.env=pure false:=by rfl):Mv ca X (.Expr e pos) (Zc me):=
 λpn Φ=>Xe (cZ (X:=Zi X ca pn Φ) (he pn Φ) hs) λE σ H ⟨σ3,g,μ,R,p⟩=>⟨σ3,g,μ,R,by
  unfold Zc at p;cases hm:me σ3 g with
  |ok d g1=>rw[hm]at p;exact λv H' μ' e' r' _=>p σ H' μ' e' (R.go e' r')
  |raise _ _=>rw[hm]at p;exact RaP.stmt R p|stuck=>rw[hm]at p;exact p⟩
theorem QP(he:Za ca X e me):Mv ca X (.Return (some e) pos) (Q5 me):=
 λpn Φ=>Xe (jO (X:=Zi X ca pn Φ) (he pn Φ)) λE σ H ⟨σ3,g,μ,R,p⟩=>⟨σ3,g,μ,R,by
  unfold Q5 at p;cases hm:me σ3 g with
  |ok d g1=>rw[hm]at p;exact p|raise _ _=>rw[hm]at p;exact RaP.stmt R p|stuck=>rw[hm]at p;exact p⟩
theorem kS:Mv ca X (.Return none pos) Dp:=λpn Φ=>Xe (dA (X:=Zi X ca pn Φ)) λ_ σ H ⟨_,_,μ,R,p⟩=>p .non H μ .refl R.g .non
theorem ZA(hc:GA ca X c tc)(ha:Fi ca X sa m)(hb:Fi ca X sb m'):Mv ca X (.If c sa sb pos) (YE tc m m'):=
 λpn Φ=>Xe (nB (X:=Zi X ca pn Φ) (hc pn Φ) (ha pn Φ) (hb pn Φ)) λE σ H ⟨σ3,g,μ,R,p⟩=>⟨σ3,g,μ,R,by
  unfold YE at p;cases hm:tc σ3 g with
  |ok d g1=>
   rw[hm]at p;cases d with
   |true=>exact λH' μ' e' r'=>by show(if true=true then _ else _);rw[Uc rfl];exact⟨σ3,g1,μ',R.go e' r',PostS.go e' (by simpa using p)⟩
   |false=>exact λH' μ' e' r'=>by show(if false=true then _ else _);rw[Uh Ue];exact⟨σ3,g1,μ',R.go e' r',PostS.go e' (by simpa using p)⟩
  |raise _ _=>rw[hm]at p;exact RaP.stmt R p|stuck=>rw[hm]at p;exact p⟩
def vG(K:Frag)(ca:Nat->Addr)(f:MG):TG:=λv σ H Q=>∃σ3 g μ d σ3',Rep K ca μ σ3 g σ H/\Den K μ H v d/\f d σ3=some σ3'/\∀σ',Rep K ca μ σ3' g σ' H->Q σ' H
def dZ(ca:Nat->Addr)(X:Cx)(tg:Expr)(f:MG):Prop:=∀pn Φ,PG (Zi X ca pn Φ) tg (vG X.K ca f)
theorem Pu(h:PG X tg t)(i:∀v σ H Q,t' v σ H Q->t v σ H Q):PG X tg t':=λpins s σ H x u Q I r q=>h pins s σ H x u Q I r (i x σ H Q q)
theorem Rep.set{K:Frag}{μ:List Addr}{σ3:S3}{g:G}{σ:L2.St}{H:Hp}{v:V}{d:D}(R:Rep K ca μ σ3 g σ H)(h:Den K μ H v d)(i:Nat):Rep K ca μ (σ3.set i (some d)) g (σ.set i (some v)) H:=by
 refine⟨R.g,by rw[UH,UH,R.len],λj x hx=>?_⟩;by_cases e:j=i
 ·subst e;have hl:j<σ3.length:=by have:=(Ui.mp hx).1;simpa using this
  rw[Td hl]at hx;cases hx;exact⟨v,by rw[Td (by rw[R.len];exact hl)],h⟩
 ·rw[Ul (Ne.symm e)]at hx;obtain⟨w,h1,h2⟩:=R.st j x hx;exact⟨w,by rw[Ul (Ne.symm e)];exact h1,h2⟩
theorem QT(i:Nat){x:Str}(hN:X.N.Nodup)(hi:X.N[i]?=some x:=by rfl)(hx:Loc X.env.scope x:=by first|exact Or.inl rfl|exact Or.inr rfl)(hf:X.fn x=true\/X.env.scope.names.lookup x=some .local:=by first|exact .inl rfl|exact .inr rfl):dZ ca X (.Name x pos) (Qn i):=
 λpn Φ=>Pu (dB (X:=Zi X ca pn Φ) hN hi hx hf) λv σ H Q hQ=>by obtain⟨σ3,g,μ,d,σ3',R,q,e,k⟩:=hQ;cases e;exact k _ (R.set q i)
def sU(K:Frag)(ca:Nat->Addr)(fs:List MG):hG:=λvs σ H Q=>∃σ3 g μ ds σ3',Rep K ca μ σ3 g σ H/\Dens K μ H vs ds/\IL fs ds σ3=some σ3'/\∀σ',Rep K ca μ σ3' g σ' H->Q σ' H
def eB(ca:Nat->Addr)(X:Cx)(tgs:List Expr)(fs:List MG):Prop:=∀pn Φ,jQ (Zi X ca pn Φ) tgs (sU X.K ca fs)
theorem MR(h:jQ X tg t)(i:∀v σ H Q,t' v σ H Q->t v σ H Q):jQ X tg t':=λpins s σ H xs us Q I r q=>h pins s σ H xs us Q I r (i xs σ H Q q)
theorem KH:eB ca X [] []:=λpn Φ=>MR (dC (X:=Zi X ca pn Φ)) λvs σ H Q hQ=>by
 obtain⟨σ3,g,μ,ds,σ3',R,q,e,k⟩:=hQ;cases q with
 |nil=>cases e;exact⟨rfl,k _ R⟩|cons _ _=>cases e
theorem ZV{es:List Expr}{f:MG}{fs:List MG}(h1:dZ ca X e f)(h2:eB ca X es fs)(hs:(assignEach (e::es) X.env).map (·.2)=assign e X.env::(assignEach es X.env).map (·.2):=by rfl):eB ca X (e::es) (f::fs):=
 λpn Φ=>MR (A9 (X:=Zi X ca pn Φ) (h1 pn Φ) (h2 pn Φ) hs) λvs σ H Q hQ=>by
  obtain⟨σ3,g,μ,ds,σ3',R,q,e,k⟩:=hQ;cases q with
  |nil=>cases e|@cons v d vs ds q1 q2=>
   unfold IL at e;cases hf:f d σ3 with
   |none=>rw[hf]at e;cases e|some σ4 =>rw[hf]at e;exact⟨v,vs,rfl,σ3,g,μ,d,σ4,R,q1,hf,λσ' R'=>⟨σ4,g,μ,ds,σ3',R',q2,e,k⟩⟩
theorem IM:∀{fs:List MG}{ds:List D}{σ σ':S3},IL fs ds σ=some σ'->ds.length=fs.length
 |[],[],_,_,_=>rfl|[],_::_,_,_,h=>by cases h
 |_::_,[],_,_,h=>by cases h
 |f::fs,d::ds,σ,σ',h=>by
  unfold IL at h;cases hf:f d σ with
  |none=>rw[hf]at h;cases h|some σ4 =>rw[hf]at h;rw[Uy,Uy,IM (fs:=fs) h]
theorem KI{es:List Expr}{k:Nat}{fs:List MG}(hc:X.calm=true)(h:eB ca X es fs)(hn:(assignEach es X.env).length=fs.length:=by rfl)(hst:(assignEach es X.env).findIdx? (·.1)=none:=by rfl):dZ ca X (.Tuple es k pos) (Xd fs):=
 λpn Φ=>Pu (jS (X:=Zi X ca pn Φ) hc (h pn Φ) hn hst) λv σ H Q hQ=>by
  obtain⟨σ3,g,μ,d,σ3',R,q,e,kk⟩:=hQ;cases q with
  |@tup a vs ds ht hs =>exact⟨a,vs,rfl,ht,hs.length.trans (IM e),σ3,g,μ,ds,σ3',R,hs,e,kk⟩|_=>cases e
theorem kT{K:Frag}{Φ:XS}{f:MG}(E:Ends)(σ:L2.St)(H:Hp)(h:mL K ca Φ (QF f me) E σ H):jU (up K ca Φ me) (vG K ca f) E σ H:=by
 obtain⟨σ3,g,μ,R,p⟩:=h;refine⟨σ3,g,μ,R,?_⟩;unfold QF at p;cases hm:me σ3 g with
 |ok d g1=>
  rw[hm]at p;dsimp only at p;intro v H' μ' e' r' q';cases hf:f d σ3 with
  |none=>rw[hf]at p;exact p.elim|some σ4 =>rw[hf]at p;exact⟨σ3,g1,μ',d,σ4,R.go e' r',q',hf,λσ' R'=>p σ' H' μ' e' R'⟩
 |raise _ _=>rw[hm]at p;exact RaP.stmt R p|stuck=>rw[hm]at p;exact p
theorem Dv{tg:Expr}{f:MG}(he:Za ca X e me)(hg:dZ ca X tg f)(hs:swapsWithSole [tg] e pos.line X.env=pure false:=by rfl)(hw:swappedStores [tg] e X.env=pure none:=by rfl)(h1:(assignEach [tg] X.env).map (·.2)=[assign tg X.env]:=by rfl):Mv ca X (.Assign [tg] e pos) (QF f me):=λpn Φ=>Xe (Da (X:=Zi X ca pn Φ) (he pn Φ) (hg pn Φ) hs hw h1) kT
theorem oH(i:Nat){x:Str}{pos':Pos}(hN:X.N.Nodup)(he:Za ca X e me)(hi:X.N[i]?=some x:=by rfl)(hx:Loc X.env.scope x:=by first|exact Or.inl rfl|exact Or.inr rfl)(hs:swapsWith e (some (.Name x pos')) pos.line X.env=pure false:=by rfl)(hf:X.fn x=true\/X.env.scope.names.lookup x=some .local:=by first|exact .inl rfl|exact .inr rfl):
  Mv ca X (.Assign [.Name x pos'] e pos) (QF (Qn i) me):=
 λpn Φ=>Xe (jV (X:=Zi X ca pn Φ) hN hi hx (he pn Φ) hs hf) λE σ H h=>by
  obtain⟨σ3,g,μ,R,p⟩:=h;refine⟨σ3,g,μ,R,?_⟩;unfold QF Qn at p;cases hm:me σ3 g with
  |ok d g1 =>rw[hm]at p;exact λv H' μ' e' r' q'=>p _ H' μ' e' ((R.go e' r').set q' i)
  |raise _ _=>rw[hm]at p;exact RaP.stmt R p|stuck=>rw[hm]at p;exact p
structure FldOk(K:Frag)(ca:Nat->Addr)(cs:List Nat)(f:Str):Prop where
 cl:∀c∈cs,Cls K (ca c)
 no:∀c∈cs,NoAttr K (ca c) f
theorem FRel.look{K:Frag}{μ:List Addr}{H:Hp}{f:Str}{d:D}:∀{fv:List (Str×V)}{fs:List (Str×D)},FRel K μ H fv fs->fs.lookup f=some d->∃v,fv.lookup f=some v/\Den K μ H v d
 |_,_,.nil,h=>by cases h
 | (k,v)::r,(k',d')::r',.cons ⟨e,q⟩ t,h=>by
  have e:k=k':=e;subst e;cases hb:f==k with
  |true =>simp only[List.lookup,hb]at h ⊢;cases h;exact⟨v,rfl,q⟩|false =>simp only[List.lookup,hb]at h ⊢;exact FRel.look t h
theorem FRel.no{K:Frag}{μ:List Addr}{H:Hp}{f:Str}:∀{fv:List (Str×V)}{fs:List (Str×D)},FRel K μ H fv fs->fs.lookup f=Option.none->fv.lookup f=Option.none
 |_,_,.nil,_=>rfl| (k,v)::r,(k',d')::r',.cons ⟨e,q⟩ t,h=>by
  have e:k=k':=e;subst e;cases hb:f==k with
  |true=>simp only[List.lookup,hb]at h;cases h|false =>simp only[List.lookup,hb]at h ⊢;exact FRel.no t h
theorem FRel.put{K:Frag}{μ:List Addr}{H:Hp}{f:Str}{v:V}{d:D}(q:Den K μ H v d):∀{fv:List (Str×V)}{fs:List (Str×D)},FRel K μ H fv fs->FRel K μ H (KE f v fv) (YM f d fs)
 |_,_,.nil=>.cons ⟨rfl,q⟩ .nil| (k,w)::r,(k',d')::r',.cons ⟨e,z⟩ t=>by
  have e:k=k':=e;subst e;show FRel K μ H (if k=f then (k,v)::r else (k,w)::KE f v r) (if k=f then (k,d)::r' else (k,d')::YM f d r');by_cases h:k=f
  ·rw[Uc h,Uc h];exact .cons ⟨rfl,q⟩ t
  ·rw[Uh h,Uh h];exact .cons ⟨rfl,z⟩ (FRel.put q t)
theorem ZW{cs:List Nat}{f:Str}(he:Za ca X e me)(ok:FldOk X.K ca cs f)(hb:attributeBase e f X.env (eval e X.env)=eval e X.env:=by rfl):Za ca X (.Attribute e f pos) (Zd cs f me):=
 λpn Φ=>Yt (kD (X:=Zi X ca pn Φ) (he pn Φ) hb) λσ H Q ⟨σ3,g,μ,R,p⟩=>YB (X6 R p) λx H1 hQ=>by
  obtain⟨d,g1,μ1,e1,R1,q1,p1⟩:=hQ;cases q1 with
  |@ref n a hn=>
   dsimp only at p1;cases hg:g1[n]? with
   |none=>rw[hg]at p1;exact p1.elim|some o=>
    rw[hg]at p1;obtain⟨a',ha',ob⟩:=R1.g.addr hg;rw[hn]at ha';cases ha';cases o with
    |ins c fs=>
     dsimp only at p1;obtain⟨dx,fv,hH,fr⟩:=ob;by_cases hc:c∈cs
     ·rw[Uc hc]at p1;cases hl:fs.lookup f with
      |none=>rw[hl]at p1;exact p1.elim|some y =>rw[hl]at p1;obtain⟨v,h1,h2⟩:=fr.look hl;exact⟨a,ca c,dx,fv,v,rfl,hH,ok.cl c hc,ok.no c hc,h1,p1 v H1 μ1 .refl R1.g h2⟩
     ·rw[Uh hc]at p1;exact p1.elim
    |_=>exact p1.elim
  |_=>exact p1.elim
theorem Jz(ho:Za ca X o mo)(he:Za ca X e me)(ok:FldOk X.K ca cs f)(hs:swapsWith e (some (.Attribute o f pos')) pos.line X.env=pure false:=by rfl):
  Mv ca X (.Assign [.Attribute o f pos'] e pos) (ZS cs f mo me):=
 λpn Φ=>Xe (kE (X:=Zi X ca pn Φ) (ho pn Φ) (he pn Φ) hs) λE σ H ⟨σ3,g,μ,R,p⟩=>⟨σ3,g,μ,R,by
  unfold ZS at p;cases hm:me σ3 g with
  |ok y g1=>
   rw[hm]at p;dsimp only at p;intro vy H1 μ1 e1 r1 q1;refine⟨σ3,g1,μ1,R.go e1 r1,?_⟩;cases hm2:mo σ3 g1 with
   |ok d g2=>
    rw[hm2]at p;intro vx H2 μ2 e2 r2 q2;cases q2 with
    |@ref n a hn=>
     dsimp only at p;cases hg:g2[n]? with
     |none=>rw[hg]at p;exact p.elim|some ob=>
      rw[hg]at p;obtain⟨a',ha',orp⟩:=r2.addr hg;rw[hn]at ha';cases ha';cases ob with
      |ins c fs=>
       dsimp only at p;obtain⟨dx,fv,hH,fr⟩:=orp;by_cases hc:c∈cs/\fs.length<100
       ·rw[Uc hc]at p;have fl:fv.length=fs.length:=Paired.length fr;refine⟨a,ca c,dx,fv,rfl,hH,ok.cl c hc.1,ok.no c hc.1,by omega,?_⟩;have ex:Ext X.K μ2 H2 μ2 (Ji H2 a (.ins (ca c) dx (KE f vy fv))):=KG hH (by intro _ z;cases z) (by intro _ _ z;cases z);refine p σ _ μ2 ((e1.trans e2).trans ex) ((R.go (e1.trans e2) r2).go ex ?_);exact r2.set hn hH (by intro _ z;cases z) (by intro _ _ z;cases z) ⟨dx,_,Q6,FRel.put ((q1.mono e2).mono ex) (fr.mono ex)⟩
       ·rw[Uh hc]at p;exact p.elim
      |_=>exact p.elim
    |_=>exact p.elim
   |raise _ _=>rw[hm2]at p;exact(RaP.stmt R p).go e1|stuck=>rw[hm2]at p;exact p
  |raise _ _=>rw[hm]at p;exact RaP.stmt R p|stuck=>rw[hm]at p;exact p⟩
theorem XW{o i:Expr}{mo mi:ME}{pos':Pos}(ho:Za ca X o mo)(hi:Za ca X i mi)(he:Za ca X e me)(hs:swapsWithSole [.Subscript o i pos'] e pos.line X.env=pure false:=by rfl)(hw:swappedStores [.Subscript o i pos'] e X.env=pure none:=by rfl)(h1:(assignEach [.Subscript o i pos'] X.env).map (·.2)=[assign (.Subscript o i pos') X.env]:=by rfl)(ha:∀v,assign (.Subscript o i pos') X.env v=(do
   let ov <-holding [v] (eval o X.env)
   let iv <-holding [v,ov] (eval i X.env)
   standAt pos'
   holding [v,ov,iv] (setItem ov iv v)
   release [v,ov,iv] []):=by intro _;rfl):Mv ca X (.Assign [.Subscript o i pos'] e pos) (YF mo mi me):=
 λpn Φ=>Xe (Da (X:=Zi X ca pn Φ) (he pn Φ) (jT (X:=Zi X ca pn Φ) (ho pn Φ) (hi pn Φ) Dl ha) hs hw h1) λE σ H ⟨σ3,g,μ,R,p⟩=>⟨σ3,g,μ,R,by
  unfold YF at p;cases hm:me σ3 g with
  |ok y g1=>
   rw[hm]at p;dsimp only at p;intro vy H1 μ1 e1 r1 q1;refine⟨σ3,g1,μ1,R.go e1 r1,?_⟩;cases hm2:mo σ3 g1 with
   |ok d g2=>
    rw[hm2]at p;intro vx H2 μ2 e2 r2 q2;cases q2 with
    |@ref n a hn=>
     dsimp only at p;refine⟨σ3,g2,μ2,R.go (e1.trans e2) r2,?_⟩;cases hm3:mi σ3 g2 with
     |ok di g3=>
      rw[hm3]at p;intro vi H3 μ3 e3 r3 q3;cases q3 with
      |int k=>
       dsimp only at p;cases hg:g3[n]? with
       |none=>rw[hg]at p;exact p.elim|some ob=>
        rw[hg]at p;obtain⟨a',ha',orp⟩:=r3.addr hg;rw[e3.at hn]at ha';cases ha';cases ob with
        |lst ds=>
         dsimp only at p;obtain⟨vs,hH,q⟩:=orp;cases hj:GQ ds.length k with
         |none=>rw[hj]at p;exact p.elim|some j =>rw[hj]at p;have ex:Ext X.K μ3 H3 μ3 (Ji H3 a (.lst (vs.set j vy))):=KG hH (by intro _ z;cases z) (by intro _ _ z;cases z);refine⟨a,vs,k,j,rfl,rfl,hH,by rw[q.length];exact hj,?_⟩;refine p σ _ μ3 (((e1.trans e2).trans e3).trans ex) ((R.go ((e1.trans e2).trans e3) r3).go ex ?_);exact r3.set (e3.at hn) hH (by intro _ z;cases z) (by intro _ _ z;cases z) ⟨_,Q6,Dens.set (((q1.mono e2).mono e3).mono ex) j (q.mono ex)⟩
        |_=>exact p.elim
      |_=>exact p.elim
     |raise _ _=>rw[hm3]at p;exact(RaP.stmt R p).go (e1.trans e2)|stuck=>rw[hm3]at p;exact p
    |_=>exact p.elim
   |raise _ _=>rw[hm2]at p;exact(RaP.stmt R p).go e1|stuck=>rw[hm2]at p;exact p
  |raise _ _=>rw[hm]at p;exact RaP.stmt R p|stuck=>rw[hm]at p;exact p⟩
def cR(K:Frag)(ca:Nat->Addr)(μ0:List Addr)(H0:Hp)(src:Src)(J:It):Prop:=
 ∀(i:Nat)(H:Hp)(μ:List Addr)(g:G),Ext K μ0 H0 μ H->GRep K ca μ H g->match src.at' g i with
  |some (some d)=>J.go i H/\∀x H',J.yld i H x H'->Ext K μ H μ H'/\GRep K ca μ H' g/\Den K μ H' x d|some none=>J.stop i H|none=>True
def wF(K:Frag)(ca:Nat->Addr)(Φ:XS)(m:MI):TI:=λσ H R=>∃σ3 g μ,Rep K ca μ σ3 g σ H/\match m σ3 g with
 |.ok src g'=>∀J H' μ',Ext K μ H μ' H'->GRep K ca μ' H' g'->cR K ca μ' H' src J->R J H'|.raise x g'=>RaP K ca Φ σ H μ x g'|.stuck=>False
def eD(ca:Nat->Addr)(X:Cx)(tg iter:Expr)(m:MI):Prop:=∀pn Φ,PI (Zi X ca pn Φ) tg iter (wF X.K ca Φ m)
theorem Jm(hc:X.calm=true)(hi:eD ca X tg iter mi)(hg:dZ ca X tg f)(hb:Fi ca X body m)(hs:∀x,foldedSetIterable iter X.env x=pure x:=by intro _;rfl)(hk:X.stack=X.env::X.outer:=by rfl)(hf:X.env.frame=some X.env.locals:=by rfl):
  Mv ca X (.For tg iter body [] pos) (Y1 mi f m):=
 λpn Φ=>Xe (jX (X:=Zi X ca pn Φ) (Dt hk hf pn Φ) hc (hi pn Φ) (hg pn Φ) (hb pn Φ) hs) λE σ H ⟨σ3,g,μ,R,p⟩=>⟨σ3,g,μ,R,by
  unfold Y1 at p;cases hm:mi σ3 g with
  |ok src g'=>
   rw[hm]at p;dsimp only at p ⊢;intro J H' μ' e' r' sim;refine⟨λi n σ1 H1=>∃σ4 g1 μ1,Ext X.K μ' H' μ1 H1/\Rep X.K ca μ1 σ4 g1 σ1 H1/\PostS X.K ca Φ E H1 μ1 (JH src f m n i σ4 g1),⟨src.top+1,σ3,g',μ',.refl,R.go e' r',p.go e'⟩,?_⟩;rintro i n σ1 H1 ⟨σ4,g1,μ1,e1,R1,p1⟩;have s1:=sim i H1 μ1 g1 e1 R1.g;cases n with
   |zero=>exact p1.elim|succ n=>
    unfold JH at p1;cases ha:src.at' g1 i with
    |none=>rw[ha]at p1;exact p1.elim|some od=>
     rw[ha]at p1 s1;cases od with
     |none=>exact .inl ⟨s1,p1 σ1 H1 μ1 .refl R1⟩|some d=>
      dsimp only at p1 s1;obtain⟨go,yl⟩:=s1;refine .inr ⟨go,λσ2 H2=>∃σ5 g2 μ2,Ext X.K μ' H' μ2 H2/\Rep X.K ca μ2 σ5 g2 σ2 H2/\PostS X.K ca Φ E H2 μ2 (JH src f m n (i+1) σ5 g2),λσ2 H2 z=>⟨n,Tj n,z⟩,λx H2 y=>?_⟩;obtain⟨e2,r2,q2⟩:=yl x H2 y;cases hf:f d σ4 with
      |none=>rw[hf]at p1;exact p1.elim|some σ5=>
       rw[hf]at p1;dsimp only at p1;refine⟨σ4,g1,μ1,d,σ5,R1.go e2 r2,q2,hf,λσ6 R6=>⟨σ5,g1,μ1,R6,?_⟩⟩;cases hb:m σ5 g1 with
       |nx σ7 g7 =>rw[hb]at p1;exact λσ' H3 μ3 e3 R3=>⟨σ7,g7,μ3,(e1.trans e2).trans e3,R3,PostS.go (e2.trans e3) p1⟩
       |ct σ7 g7 =>rw[hb]at p1;exact λσ' H3 μ3 e3 R3=>⟨σ7,g7,μ3,(e1.trans e2).trans e3,R3,PostS.go (e2.trans e3) p1⟩
       |bk σ7 g7 =>rw[hb]at p1;exact λσ' H3 μ3 e3 R3=>p1 σ' H3 μ3 (e2.trans e3) R3
       |rt d7 g7 =>rw[hb]at p1;exact λv H3 μ3 e3 r3 q3=>p1 v H3 μ3 (e2.trans e3) r3 q3
       |raise _ _ _ =>rw[hb]at p1;exact λσ' H3 μ3 e3 R3=>p1 σ' H3 μ3 (e2.trans e3) R3
       |stuck=>rw[hb]at p1;exact p1
  |raise _ _=>rw[hm]at p;exact RaP.stmt R p|stuck=>rw[hm]at p;exact p⟩
theorem eF(hc:GA ca X c tc)(hb:Fi ca X body m)(hk:X.stack=X.env::X.outer:=by rfl)(hf:X.env.frame=some X.env.locals:=by rfl):Mv ca X (.While c body [] pos) (GP tc m):=
 λpn Φ=>Xe (Db (X:=Zi X ca pn Φ) (Dt hk hf pn Φ) (hc pn Φ) (hb pn Φ)) λE σ H hQ=>by
  obtain⟨σ3,g,μ,R,p⟩:=hQ;unfold GP at p;by_cases hh:∃f,Jc tc m f σ3 g≠.stuck
  ·rw[dif_pos hh]at p;generalize hh.choose=k at p;refine⟨λn σ1 H1=>∃σ4 g1 μ1,Ext X.K μ H μ1 H1/\Rep X.K ca μ1 σ4 g1 σ1 H1/\PostS X.K ca Φ E H1 μ1 (Jc tc m n σ4 g1),⟨k,σ3,g,μ,.refl,R,p⟩,?_⟩;rintro n σ1 H1 ⟨σ4,g1,μ1,e1,R1,p1⟩;cases n with
   |zero=>exact p1.elim|succ n=>
    unfold Jc at p1;refine⟨σ4,g1,μ1,R1,?_⟩;cases ht:tc σ4 g1 with
    |ok t g2=>
     rw[ht]at p1;cases t with
     |true=>
      dsimp only at p1;intro H2 μ2 e2 r2;rw[Uc rfl];refine⟨λσ2 H3=>∃σ5 g3 μ3,Ext X.K μ H μ3 H3/\Rep X.K ca μ3 σ5 g3 σ2 H3/\PostS X.K ca Φ E H3 μ3 (Jc tc m n σ5 g3),λσ2 H3 z=>⟨n,Tj n,z⟩,σ4,g2,μ2,R1.go e2 r2,?_⟩;cases hb:m σ4 g2 with
      |nx σ7 g7 =>rw[hb]at p1;exact λσ' H3 μ3 e3 R3=>⟨σ7,g7,μ3,(e1.trans e2).trans e3,R3,PostS.go (e2.trans e3) p1⟩
      |ct σ7 g7 =>rw[hb]at p1;exact λσ' H3 μ3 e3 R3=>⟨σ7,g7,μ3,(e1.trans e2).trans e3,R3,PostS.go (e2.trans e3) p1⟩
      |bk σ7 g7 =>rw[hb]at p1;exact λσ' H3 μ3 e3 R3=>p1 σ' H3 μ3 (e2.trans e3) R3
      |rt d7 g7 =>rw[hb]at p1;exact λv H3 μ3 e3 r3 q3=>p1 v H3 μ3 (e2.trans e3) r3 q3
      |raise _ _ _ =>rw[hb]at p1;exact λσ' H3 μ3 e3 R3=>p1 σ' H3 μ3 (e2.trans e3) R3
      |stuck=>rw[hb]at p1;exact p1
     |false =>intro H2 μ2 e2 r2;rw[Uh Ue];exact p1 σ1 H2 μ2 e2 (R1.go e2 r2)
    |raise _ _=>rw[ht]at p1;exact RaP.stmt R1 p1|stuck=>rw[ht]at p1;exact p1
  ·rw[dif_neg hh]at p;exact p.elim
end
def SX(K:Frag)(ca:Nat->Addr)(n:Nat)(F:MF):Sp:=λvs H Q E=>vs.length=n/\∃ds g μ,GRep K ca μ H g/\Dens K μ H vs ds/\match F ds g with
 |.ok d g'=>∀v H' μ',Ext K μ H μ' H'->GRep K ca μ' H' g'->Den K μ' H' v d->Q v H'|.raise x g'=>∀H' μ',Ext K μ H μ' H'->GRep K ca μ' H' g'->E (.int x.1 0) x.2 H'|.stuck=>False
theorem SY{K:Frag}{ca:Nat->Addr}{μ:List Addr}{H:Hp}{g:G}{vs:List V}{ds:List D}(N:List Str)(r:GRep K ca μ H g)(q:Dens K μ H vs ds):Rep K ca μ (ds.map some++List.replicate (N.length-vs.length) none) g (L2.start N vs) H:=by
 unfold L2.start;refine⟨r,?_,λi d h=>?_⟩
 ·rw[Uo,Uo,Ua,Ua,q.length,U9,U9]
 ·by_cases hi:i<ds.length
  ·rw[Ut (by simpa using hi),UA]at h;cases hd:ds[i]? with
   |none=>rw[hd]at h;cases h|some d' =>rw[hd]at h;cases h;obtain⟨v,h1,h2⟩:=q.get hd;refine⟨v,?_,h2⟩;rw[Ut (by simpa[q.length]using hi),UA,h1];rfl
  ·rw[Ux (by simpa using hi),TU]at h;split at h<;>cases h
structure FnH(P:Program)(w:World)(K:Frag)(mg:KB)(base:Heap)(ca:Nat->Addr)(x:Str)(k n:Nat)(F:MF):Prop where
 ex:∃(f:Addr)(fd:FuncData)(ps:List Str),FnOk P w K mg base (Of P w ca) k f fd ps (SX K ca n F)/\mg x=some (.ref f)/\keepIn K (.ref f)=true/\Binds K fd ps []
 st:∀ds g,ds.length≠n->F ds g=.stuck
structure MtH(P:Program)(w:World)(K:Frag)(mg:KB)(base:Heap)(ca:Nat->Addr)(c:Nat)(x:Str)(k n:Nat)(F:MF):Prop where
 ex:∃(f:Addr)(fd:FuncData)(ps:List Str),FnOk P w K mg base (Of P w ca) k f fd ps (SX K ca n F)/\Meth K (ca c) x f/\Cls K (ca c)/\Binds K fd ps []
 st:∀ds g,ds.length≠n->F ds g=.stuck
structure MkH(P:Program)(w:World)(K:Frag)(mg:KB)(base:Heap)(ca:Nat->Addr)(c:Nat)(x:Str)(k n:Nat)(F:MF):Prop where
 ex:∃(f:Addr)(fd:FuncData)(ps:List Str),FnOk P w K mg base (Of P w ca) k f fd ps (SX K ca n F)/\Mk K (ca c) f/\mg x=some (.ref (ca c))/\Binds K fd ps []
 st:∀ds g,ds.length≠n->F ds g=.stuck
theorem Xg(k n:Nat)(m:MS):∀ds g,ds.length≠k->Zq k n m ds g=.stuck:=λds g h=>by unfold Zq;rw[Uh h]
section
variable{P:Program}{w:World}{K:Frag}{mg:KB}{base:Heap}{ca:Nat->Addr}
theorem S0{N:List Str}{qual:Str}{scope:Scope}{f:Addr}{cd:Value}{A:Around}{outer:List Env}{s:Shared}{H:Hp}{E:XK}{body:List Stmt}{t:TS}(h:Ph (Zi (Gg (Of P w ca) P w K mg base N qual scope f cd A outer s H E) ca [] (λx _ H'=>E (.int x.1 0) x.2 H')) body t):Ph (Gg (Of P w ca) P w K mg base N qual scope f cd A outer s H E) body t:=λpins s1 σ H1 D I q=>
 Tl (h pins s1 σ H1 D (Inv.wish I _) q) (λ_ _ z=>SP.unwish (X:=Gg (Of P w ca) P w K mg base N qual scope f cd A outer s H E) z) λ_ _ z=>Du z
theorem Bp{x qual:Str}{st:Stmt}{f:Addr}{fd:FuncData}{N ps:List Str}{k n j:Nat}{m:MS}(F:Fun K x qual st f fd)(S:FnScope N ps (Qm st))(hj:ps.length=j)(hn:N.length-ps.length=n)(h:∀(cdv:Value) (A:Around) (outer:List Env) (s:Shared) (H:Hp) (E:XK),Room k (A.deeper (envOfC qual (Qm st) s.heap.objs.size f cdv))->Fi ca (Gg (Of P w ca) P w K mg base N qual (Qm st) f cdv A outer s H E) (Ys st) m):FnOk P w K mg base (Of P w ca) (k+1) f fd ps (SX K ca j (Zq j n m)):=by
 subst hj;obtain⟨oc,od,kV,doc,pm,an,cdv,ct,osl,rfl,lk,hcd⟩:=F.ex;refine nS lk hcd S (λvs H Q E q=>q.1) λA outer s H vs Q E hr hsp=>?_;obtain⟨hl,ds,g,μ,r,q,p⟩:=hsp;refine⟨_,S0 (h cdv A outer s H E hr [] _),ds.map some++List.replicate n none,g,μ,?_,?_⟩
 ·have z:=SY N r q;rw[hl,hn]at z;exact z
 ·unfold Zq at p;rw[Uc (by rw[<-q.length,hl])]at p;cases hm:m (ds.map some++List.replicate n none) g with
  |nx σ' g'=>rw[hm]at p;exact λσ'' H' μ' e' R'=>p .non H' μ' e' R'.g .non
  |rt d g'=>rw[hm]at p;exact p|bk _ _=>rw[hm]at p;exact p.elim|ct _ _=>rw[hm]at p;exact p.elim|raise _ _ _=>rw[hm]at p;exact λσ'' H' μ' e' R'=>p H' μ' e' R'.g
  |stuck=>rw[hm]at p;exact p.elim
def EK(Φ:XS)(σ:L2.St):XK:=λc l H'=>∀x:Xc,c=.int x.1 0->l=x.2->Φ x σ H'
theorem LE(st:∀ds g,ds.length≠n->F ds g=.stuck)(r:GRep K ca μ H g)(q:Dens K μ H vs ds)(p:Post K ca Φ σ Q H μ (F ds g)):SX K ca n F vs H Q (EK Φ σ):=by
 have hl:vs.length=n:=by rw[q.length];apply Decidable.byContradiction;intro h;rw[st ds g h]at p;exact p
 refine⟨hl,ds,g,μ,r,q,?_⟩;cases hF:F ds g with
 |ok d g'=>rw[hF]at p;exact p|raise x g'=>
  rw[hF]at p;intro H' μ' e r' y e1 e2;have:x=y:=by
   obtain⟨a,b⟩:=x;obtain⟨c,d⟩:=y;injection e1 with e1;have e1:(a:Int)=(c:Int):=e1;have e3:a=c:=by omega
   rw[e3,show b=d from e2]
  rw[<-this];exact p H' μ' e r'
 |stuck=>rw[hF]at p;exact p
end
theorem Og{f:Addr}{fd:FuncData}{ps:List Str}{pins:Xw}{σ:L2.St}{H:Hp}{s:Shared}{Q:VK}{us:List Value}{vs:List V}(G:FnOk X.prog X.w X.K X.mg X.base (Of X.prog X.w ca) k f fd ps (SX X.K ca n F))(hr:Room k X.A)(hb:Binds X.K fd ps [])(I:Inv (Zi X ca pn Φ) pins σ H s)(r:Vals vs us)(h:SX X.K ca n F vs H Q (EK Φ σ)):wpAny (model X.prog X.w) X.A (call (.ref f) us) (EP (Zi X ca pn Φ) pins σ Q) (Zi X ca pn Φ).xe s:=by
 have hl:(us++[]).length=ps.length:=by rw[U0,<-r.length];exact G.len _ _ _ _ h
 have b:=hb s us I.kIn hl;rw[U0]at b;refine wpAny_call (WQ (G.run X.A X.stack s H ⟨us,[]⟩ us vs Q (EK Φ σ) hr I.env0 b r h) λres s' hq=>?_);cases res with
 |error z=>exact Ps I hq|ok fl=>
  cases fl with
  |ret u=>exact I.after hq|_=>exact False.elim hq
theorem QA{x:Str}(h:FnH X.prog X.w X.K X.mg X.base ca x k n F)(hr:Room k X.A)(ha:A2 ca X (e::es) mr)(hg:Gl X x:=by rfl)(hdb:(x==("__debug__" : Str))=false:=by decide)(he:starEach (e::es) X.env=(false,eval e X.env)::starEach es X.env:=by rfl)(hpl:(backTo pos (starEach es X.env)).any (·.1)=false:=by rfl):Za ca X (.Call (.Name x p) (e::es) [] pos) (Qu F mr):=by obtain⟨f,fd,ps,F1,m1,k1,b1⟩:=h.ex;intro pn Φ pins s σ H Q I ⟨σ3,g,μ,R,q⟩;refine Ro (Ex I hg m1 ?_ hdb);have z:cQ X.K ca Φ mr σ H λvs H1=>SX X.K ca n F vs H1 Q (EK Φ σ):=Kl (GT R q) λxs H1 ⟨ds,g1,μ1,e1,R1,q1,p1⟩=>LE h.st R1.g q1 p1;refine Wj (h₀:=X.base) I.ok.mod.kin k1 (Ja (ha pn Φ pos pins s σ H _ I z) λus s1 ⟨vs,H1,I1,r,q1⟩=>⟨I1.kIn,?_⟩) he hpl;exact Og F1 hr b1 I1 r q1
theorem Pv{K:Frag}{c:Nat}{m:Str}{σ:L2.St}{H:Hp}{Q:VK}{α:Type}{kk:Nat->G->Res α}{R:Res α->Hp->List Addr->Prop}{d:D}{g:G}{μ:List Addr}{v:V}(r:GRep K ca μ H g)(hst:¬R .stuck H μ)(p:R (match d with
   |.ref i=>(match g[i]? with
    |some (.ins c' fs)=>if c'=c/\fs.lookup m=none then kk i g else .stuck
    |_=>.stuck)
   |_=>.stuck) H μ)(q:Den K μ H v d):∃a dx fv i,d=.ref i/\v=.ref a/\μ[i]?=some a/\H a=some (.ins (ca c) dx fv)/\fv.lookup m=none/\R (kk i g) H μ:=by
 cases q with
 |@ref i a hn=>
  dsimp only at p;cases hg:g[i]? with
  |none=>rw[hg]at p;exact(hst p).elim|some ob=>
   rw[hg]at p;obtain⟨a',ha',orp⟩:=r.addr hg;rw[hn]at ha';cases ha';cases ob with
   |ins c' fs=>
    dsimp only at p;obtain⟨dx,fv,hH,fr⟩:=orp;by_cases hc:c'=c/\fs.lookup m=none
    ·rw[Uc hc]at p;obtain⟨rfl,hl⟩:=hc;exact⟨a,dx,fv,i,rfl,rfl,hn,hH,fr.no hl,p⟩
    ·rw[Uh hc]at p;exact(hst p).elim
   |_=>exact(hst p).elim
 |_=>exact(hst p).elim
theorem Dw{c:Nat}{m:Str}{pl:Sem Bool}(h:MtH X.prog X.w X.K X.mg X.base ca c m k n F)(hr:Room k X.A)(ho:Za ca X o mo)(ha:A2 ca X (e::es) mr)(hst:starEach (e::es) X.env=(false,eval e X.env)::starEach es X.env:=by rfl)(hpl:(backTo pos (starEach es X.env)).any (·.1)=false:=by rfl)(ht:eval (.Call (.Attribute o m apos) (e::es) [] pos) X.env=(do
   let ov <-eval o X.env
   standAt apos.atName
   let (f,first) <-holding [ov] (getMethod ov m pl)
   callWith pos f first (backTo pos (starEach (e::es) X.env)) (backToKw pos (keywordEach [] X.env))):=by rfl):Za ca X (.Call (.Attribute o m apos) (e::es) [] pos) (Je c m F mo mr):=by
 obtain⟨f,fd,ps,F1,m1,k1,b1⟩:=h.ex;intro pn Φ pins s σ H Q I ⟨σ3,g,μ,R,q⟩;refine WW (pl:=pl) (Ja (ho pn Φ pins s σ H _ I (X6 R q)) λu s1 hZ=>?_) ht;obtain⟨x,H1,I1,rx,d,g1,μ1,e1,R1,q1,p1⟩:=hZ;obtain⟨a,dx,fv,i,rfl,rfl,hn,hH,hl,p2⟩:=Pv (Q:=Q) (σ:=σ) (R:=λr H μ=>Post X.K ca Φ σ Q H μ r) (kk:=λi g=>(mr σ3 g).bind λxs g2=>F (.ref i::xs) g2) R1.g (λz=>z) p1 q1;obtain rfl:u=Value.ref a:=rx;refine GL I1 hH k1 m1 hl ?_;have z:cQ X.K ca Φ mr σ H1 λvs H2=>SX X.K ca n F (.ref a::vs) H2 Q (EK Φ σ):=Kl (GT R1 p2) λxs H2 ⟨ds,g2,μ2,e2,R2,q2,p3⟩=>LE h.st R2.g (.cons (.ref (e2.at hn)) q2) p3;refine Wj (first:=[.ref a]) (h₀:=X.base) I.ok.mod.kin m1.kp (Ja (ha pn Φ pos pins s1 σ H1 _ I1 z) λus s2 ⟨vs,H2,I2,r,q2⟩=>⟨I2.kIn,?_⟩) hst hpl;exact Og (us:=.ref a::us) (vs:=.ref a::vs) F1 hr b1 I2 (.cons rfl r) q2
theorem VV{c:Nat}{m:Str}{pl:Sem Bool}(h:MtH X.prog X.w X.K X.mg X.base ca c m k n F)(hr:Room k X.A)(ho:Za ca X o mo)(ht:eval (.Call (.Attribute o m apos) [] [] pos) X.env=(do
   let ov <-eval o X.env
   standAt apos.atName
   let (f,first) <-holding [ov] (getMethod ov m pl)
   callWith pos f first (backTo pos (starEach [] X.env)) (backToKw pos (keywordEach [] X.env))):=by rfl):Za ca X (.Call (.Attribute o m apos) [] [] pos) (Je c m F mo Qi):=by
 obtain⟨f,fd,ps,F1,m1,k1,b1⟩:=h.ex;intro pn Φ pins s σ H Q I ⟨σ3,g,μ,R,q⟩;refine WW (pl:=pl) (Ja (ho pn Φ pins s σ H _ I (X6 R q)) λu s1 hZ=>?_) ht;obtain⟨x,H1,I1,rx,d,g1,μ1,e1,R1,q1,p1⟩:=hZ;obtain⟨a,dx,fv,i,rfl,rfl,hn,hH,hl,p2⟩:=Pv (Q:=Q) (σ:=σ) (R:=λr H μ=>Post X.K ca Φ σ Q H μ r) (kk:=λi g=>(Qi σ3 g).bind λxs g2=>F (.ref i::xs) g2) R1.g (λz=>z) p1 q1;obtain rfl:u=Value.ref a:=rx;refine GL I1 hH k1 m1 hl ?_;exact callWith_K0 (first:=[.ref a]) I1.kIn m1.kp (Og (us:=[.ref a]) (vs:=[.ref a]) F1 hr b1 I1 (.cons rfl .nil) (LE h.st R1.g (.cons (.ref hn) .nil) p2))
def vH(X:Cx)(ca:Nat->Addr)(c n:Nat)(F:MF)(Φ:XS)(σ:L2.St)(Q:VK)(vs:List V)(H1:Hp):Prop:=∀y dy,H1 y=none->H1 dy=none->dy≠y->SX X.K ca n F (.ref y::vs) (Ji (Ji H1 dy (.own y)) y (.ins (ca c) dy [])) (λv H2=>v=.non/\Q (.ref y) H2) (EK Φ σ)
theorem sV(h:MkH X.prog X.w X.K X.mg X.base ca c x k n F)(R:Rep X.K ca μ σ3 g σ H)(q:Post X.K ca Φ σ Q H μ (Bn c F mr σ3 g)):cQ X.K ca Φ mr σ H (vH X ca c n F Φ σ Q):=
 Kl (GT R q) λxs H1 ⟨ds,g1,μ1,e1,R1,q1,p1⟩ y dy hy hdy ne=>by
  have hy2:(Ji H1 dy (.own y)) y=none:=by rw[Q9 (Ne.symm ne)];exact hy
  have ex1:Ext X.K μ1 H1 μ1 (Ji H1 dy (.own y)):=ZU hdy;have g2:=R1.g.new (o:=.own y) hdy;have ex2:Ext X.K μ1 (Ji H1 dy (.own y)) (μ1++[y]) (Ji (Ji H1 dy (.own y)) y (.ins (ca c) dy [])):=ZI hy2;have g3:GRep X.K ca (μ1++[y]) (Ji (Ji H1 dy (.own y)) y (.ins (ca c) dy [])) (g1++[.ins c []]):=g2.push hy2 ⟨dy,[],Q6,.nil⟩;have ey:(μ1++[y])[g1.length]?=some y:=by rw[<-R1.g.len];simp
  refine LE (Φ:=Φ) (σ:=σ) h.st g3 (.cons (.ref ey) ((q1.mono ex1).mono ex2)) ?_;cases hF:F (D.ref g1.length::ds) (g1++[.ins c []]) with
  |stuck=>rw[hF]at p1;exact p1.elim|raise _ _=>rw[hF]at p1;exact RaP.go (ex1.trans ex2) p1|ok d g4=>
   rw[hF,Res.bind_ok]at p1;intro v H' μ' e' r' q';cases q' with
   |non=>exact⟨rfl,p1 _ H' μ' ((ex1.trans ex2).trans e') r' (.ref (e'.at ey))⟩|_=>exact p1.elim
theorem kU(h:MkH X.prog X.w X.K X.mg X.base ca c x k n F)(hr:Room (k+1) X.A)(I1:Inv (Zi X ca pn Φ) pins σ H1 s1)(r:Vals vs us)(q1:vH X ca c n F Φ σ Q vs H1):wpAny (model X.prog X.w) X.A (call (.ref (ca c)) us) (EP (Zi X ca pn Φ) pins σ Q) (Zi X ca pn Φ).xe s1:=by
 obtain⟨f,fd,ps,F1,m1,k1,b1⟩:=h.ex;have hq:=q1 (s1.heap.objs.size+1) s1.heap.objs.size (I1.hok.fresh (Nat.le_succ _)) (I1.hok.fresh (Um _)) (UY (Tj _));have I2:=Inv.made (C:=ca c) I1;have r2:Vals (V.ref (s1.heap.objs.size+1)::vs) (Value.ref (s1.heap.objs.size+1)::us):=.cons rfl r;have hl:(Value.ref (s1.heap.objs.size+1)::us++[]).length=ps.length:=by have w:=r2.length;rw[F1.len _ _ _ _ hq]at w;rw[U0];exact w.symm
 have b2:=b1 _ (Value.ref (s1.heap.objs.size+1)::us) I2.kIn hl;rw[U0]at b2;refine wpAny_call (Dh (f:=f) I1.kIn m1.makes m1.init (Tn.mp m1.fn) (WQ (F1.run _ X.stack _ _ ⟨Value.ref (s1.heap.objs.size+1)::us,[]⟩ (Value.ref (s1.heap.objs.size+1)::us) _ _ (EK Φ σ) (hr.make (ca c) us [])
  (I2.env0.make (ca c) us []) b2 r2 hq) λres s' hq'=>?_))
 cases res with
 |error z=>exact Ps I2 hq'|ok fl=>
  cases fl with
  |ret u =>obtain⟨v,H',I3,rv,ev,q3⟩:=I2.after hq';subst ev;exact⟨rv,⟨V.ref (s1.heap.objs.size+1),H',I3,rfl,q3⟩⟩|_=>exact False.elim hq'
theorem LF{c:Nat}{x:Str}(h:MkH X.prog X.w X.K X.mg X.base ca c x k n F)(hr:Room (k+1) X.A)(ha:A2 ca X (e::es) mr)(hg:Gl X x:=by rfl)(hdb:(x==("__debug__" : Str))=false:=by decide)(he:starEach (e::es) X.env=(false,eval e X.env)::starEach es X.env:=by rfl)(hpl:(backTo pos (starEach es X.env)).any (·.1)=false:=by rfl):Za ca X (.Call (.Name x p) (e::es) [] pos) (Bn c F mr):=by obtain⟨f,fd,ps,F1,m1,k1,b1⟩:=h.ex;intro pn Φ pins s σ H Q I ⟨σ3,g,μ,R,q⟩;refine Ro (Ex I hg k1 ?_ hdb);exact Wj (h₀:=X.base) I.ok.mod.kin m1.kp (Ja (ha pn Φ pos pins s σ H _ I (sV h R q)) λus s1 ⟨vs,H1,I1,r,q1⟩=>⟨I1.kIn,kU h hr I1 r q1⟩) he hpl
section
variable{X:Cx}{ca:Nat->Addr}{tg e:Expr}{me:ME}{mr:MA}{p pos:Pos}
theorem EG(h:PI X tg iter t)(i:∀σ H R,t' σ H R->t σ H R):PI X tg iter t':=λpins s σ H R I q=>h pins s σ H R I (i σ H R q)
theorem IN(K:Frag)(μ:List Addr)(H:Hp)(lo:Int)(n:Nat):cR K ca μ H (ZH lo n) (nF lo n):=by
 intro i H1 μ1 g1 e r;unfold ZH;dsimp only;by_cases h:i<n
 ·rw[Uc h];exact⟨h,λx H' y=>by obtain⟨rfl,rfl⟩:=y;exact⟨.refl,r,.int _⟩⟩
 ·rw[Uh h];exact RI h
theorem eG{K:Frag}{μ:List Addr}{H:Hp}{a:Addr}{vs:List V}{ds:List D}(h:SqT K H a vs)(q:Dens K μ H vs ds):cR K ca μ H ⟨λ_ i=>some ds[i]?,ds.length⟩ (sC K a):=by
 intro i H1 μ1 g1 e r;dsimp only;cases hd:ds[i]? with
 |none =>refine⟨vs,e.tup _ _ h,?_⟩;rw[q.length];exact TD.mp hd|some d =>obtain⟨v,h1,h2⟩:=q.get hd;refine⟨⟨vs,v,e.tup _ _ h,h1⟩,λx H' y=>?_⟩;obtain⟨rfl,y⟩:=y;have:=y vs (e.tup _ _ h);rw[h1]at this;cases this;exact⟨.refl,r,h2.mono e⟩
theorem eH{K:Frag}{μ:List Addr}{H:Hp}{a:Addr}{n t:Nat}(hn:μ[n]?=some a):cR K ca μ H ⟨λg i=>(match g[n]? with|some (.lst es)=>some es[i]? | _=>none),t⟩ (qI K a):=by
 intro i H1 μ1 g1 e r;dsimp only;cases hg:g1[n]? with
 |none=>trivial|some o=>
  cases o with
  |lst ds=>
   dsimp only;obtain⟨a',ha',vs,hH,q⟩:=r.addr hg;rw[e.at hn]at ha';cases ha';cases hd:ds[i]? with
   |none =>refine⟨vs,.of hH,?_⟩;rw[q.length];exact TD.mp hd|some d =>obtain⟨v,h1,h2⟩:=q.get hd;refine⟨⟨vs,v,.of hH,h1⟩,λx H' y=>?_⟩;obtain⟨rfl,y⟩:=y;have:=y vs (.of hH);rw[h1]at this;cases this;exact⟨.refl,r,h2⟩
  |_=>trivial
theorem kW{K:Frag}{μ:List Addr}{H:Hp}{a:Addr}{vs:List V}{ds:List D}(h:SqF K H a vs)(q:Dens K μ H vs ds):cR K ca μ H ⟨λ_ i=>some ds[i]?,ds.length⟩ (qI K a):=by
 intro i H1 μ1 g1 e r;dsimp only;have sq:SqL K H1 a vs:=(e.fl _ _ h).sq;cases hd:ds[i]? with
 |none =>refine⟨vs,sq,?_⟩;rw[q.length];exact TD.mp hd|some d =>obtain⟨v,h1,h2⟩:=q.get hd;refine⟨⟨vs,v,sq,h1⟩,λx H' y=>?_⟩;obtain⟨rfl,y⟩:=y;have:=y vs sq;rw[h1]at this;cases this;exact⟨.refl,r,h2.mono e⟩
theorem kX(hl:PE X l tl):PI X tg l (λσ H R=>tl σ H λx H1=>(∃a,x=.ref a/\(∃xs,SqL X.K H1 a xs)/\R (qI X.K a) H1)\/∃a,x=.ref a/\(∃xs,SqT X.K H1 a xs)/\R (sC X.K a) H1):=by
 intro pins s σ H R I h;refine Ja (hl pins s σ H _ I h) λv s1 ⟨x,H1,I1,r1,q1⟩=>?_;rcases q1 with⟨a,e,⟨xs,hq⟩,q⟩|⟨a,e,⟨xs,hq⟩,q⟩
 ·subst e;cases r1;obtain⟨its,rv,p,hz⟩:=I1.list hq;refine wpAny_pyIter_list p.isList ?_;refine⟨s1.heap.objs.size,[s1.heap.objs.size],_,_,H1,rfl,I1.kept (t':=s1.toks) λb o e=>Uk _ e,SA a _,⟨_,UE _ rfl,rfl,rfl⟩,λb hb=>?_,q⟩;have e:b=s1.heap.objs.size:=by simpa using hb
  subst e;exact I1.fpOk (Um _) (I1.hok.fresh (Um _))
 ·subst e;cases r1;obtain⟨its,rv,p,hz⟩:=I1.tuple hq;refine wpAny_pyIter_tuple (show s1.heap.IsTuple a its.toArray from p) ?_;refine⟨s1.heap.objs.size,[s1.heap.objs.size],_,_,H1,rfl,I1.kept (t':=s1.toks) λb o e=>Uk _ e,NV a _,⟨_,UE _ rfl,rfl,rfl⟩,λb hb=>?_,q⟩;have e:b=s1.heap.objs.size:=by simpa using hb
  subst e;exact I1.fpOk (Um _) (I1.hok.fresh (Um _))
theorem ZM(he:Za ca X e me):eD ca X tg e (QQ me):=
 λpn Φ=>EG (kX (X:=Zi X ca pn Φ) (he pn Φ)) λσ H R hQ=>by
  obtain⟨σ3,g,μ,Rp,p⟩:=hQ;unfold QQ at p;refine⟨σ3,g,μ,Rp,?_⟩;cases hm:me σ3 g with
  |raise _ _=>rw[hm]at p;exact p|stuck=>rw[hm]at p;exact p.elim|ok d g1=>
   rw[hm,Res.bind_ok]at p;intro v H1 μ1 e1 r1 q1;unfold BH at p;cases q1 with
   |@tup a vs ds ht hs =>exact .inr ⟨a,rfl,⟨vs,ht⟩,p _ H1 μ1 e1 r1 (eG ht hs)⟩|@fl a vs ds ht hs=>exact .inl ⟨a,rfl,⟨vs,ht.sq⟩,p _ H1 μ1 e1 r1 (kW ht hs)⟩|@ref n a hn=>
    dsimp only at p;cases hg:g1[n]? with
    |none=>rw[hg]at p;exact p.elim|some o=>
     rw[hg]at p;obtain⟨a',ha',orp⟩:=r1.addr hg;rw[hn]at ha';cases ha';cases o with
     |lst ds=>obtain⟨vs,hH,q⟩:=orp;exact .inl ⟨a,rfl,⟨vs,.of hH⟩,p _ H1 μ1 e1 r1 (eH hn)⟩|_=>exact p.elim
   |_=>exact p.elim
theorem YW(hm:X.mg "range"=none)(he:Za ca X e me)(hg:Gl X "range":=by rfl)(hs:starEach [e] X.env=[(false,eval e X.env)]:=by rfl):eD ca X tg (.Call (.Name "range" p) [e] [] pos) (Q4 me):=
 λpn Φ=>EG (SB (X:=Zi X ca pn Φ) hg hm (XB he Qh hs pn Φ) hs) λσ H R hQ=>by
  obtain⟨σ3,g,μ,Rp,p⟩:=hQ;refine⟨σ3,g,μ,Rp,?_⟩;unfold Q4 at p;unfold Qb Qi;cases hm:me σ3 g with
  |raise _ _=>rw[hm]at p;exact p|stuck=>rw[hm]at p;exact p.elim|ok d g1=>
   rw[hm,Res.bind_ok]at p;rw[Res.bind_ok,Res.bind_ok];intro vs H1 μ1 e1 r1 q1;cases q1 with
   |cons h1 h2=>
    cases h2;cases h1 with
    |int j=>
     dsimp only at p;by_cases hj:SS j
     ·rw[Uc hj]at p;exact⟨j,rfl,hj.1,hj.2,p _ H1 μ1 e1 r1 (IN X.K μ1 H1 0 j.toNat)⟩
     ·rw[Uh hj]at p;exact p.elim
    |_=>exact p.elim
theorem Dx{e2:Expr}{me2:ME}(hm:X.mg "range"=none)(he:Za ca X e me)(he2:Za ca X e2 me2)(hg:Gl X "range":=by rfl)(hs:starEach [e,e2] X.env=[(false,eval e X.env),(false,eval e2 X.env)]:=by rfl)(hs2:starEach [e2] X.env=[(false,eval e2 X.env)]:=by rfl)(hs3:starEach [e,e2] X.env=(false,eval e X.env)::starEach [e2] X.env:=by rfl):eD ca X tg (.Call (.Name "range" p) [e,e2] [] pos) (Kj me me2):=
 λpn Φ=>EG (SC (X:=Zi X ca pn Φ) hg hm (XB he (XB he2 Qh hs2) hs3 pn Φ) hs hs2) λσ H R hQ=>by
  obtain⟨σ3,g,μ,Rp,p⟩:=hQ;refine⟨σ3,g,μ,Rp,?_⟩;unfold Kj at p;unfold Qb Qi;cases hm:me σ3 g with
  |raise _ _=>rw[hm]at p;exact p|stuck=>rw[hm]at p;exact p.elim|ok d g1=>
   rw[hm,Res.bind_ok]at p;rw[Res.bind_ok];cases hm2:me2 σ3 g1 with
   |raise _ _=>rw[hm2]at p;exact p|stuck=>rw[hm2]at p;exact p.elim|ok d2 g2=>
    rw[hm2,Res.bind_ok]at p;rw[Res.bind_ok,Res.bind_ok,Res.bind_ok];intro vs H1 μ1 e1 r1 q1;cases q1 with
    |cons h1 h2=>
     cases h2 with
     |cons h2 h3=>
      cases h3;cases h1 with
      |int i=>
       cases h2 with
       |int j=>
        dsimp only at p;by_cases hj:SS i/\SS j
        ·rw[Uc hj]at p;exact⟨i,j,rfl,⟨hj.1.1,hj.1.2,hj.2.1,hj.2.2⟩,p _ H1 μ1 e1 r1 (IN X.K μ1 H1 i (j-i).toNat)⟩
        ·rw[Uh hj]at p;exact p.elim
       |_=>exact p.elim
      |_=>cases h2<;>exact p.elim
end
def GW(X:Cx)(scope:Scope)(cl:List (Str×Addr))(C:Addr)(Nb:List Str)(s3:Shared)(H3:Hp)(ex:List Addr):Cx:={X with env:=compEnvC scope cl C X.env,N:=Nb,s₀:=s3,H₀:=H3,outer:=X.stack,stack:=X.stack,ex:=ex,fn:=λ_=>false,pn:=[],xe:=λ_ _=>False}
structure BScope(X:Cx)(scope:Scope)(Nb:List Str)(no:Nat)(cap:List Nat):Prop where
 kind:scope.kind=.function
 cell:∀y∈scope.names,y.2≠.cell
 loc:∀y∈scope.names,y.2=.local->scope.names.lookup y.1=some .local
 free:∀y∈scope.names,y.2=.free->X.env.kindOf y.1=some .cell\/X.env.kindOf y.1=some .free
 len:Nb.length=no+cap.length
 cap:∀(j i:Nat),cap[j]?=some i->∃x,Nb[no+j]?=some x/\X.N[i]?=some x/\scope.names.lookup x=some .free/\qH X.env.scope x/\X.env.kindOf x≠some .local
def Fk(cells:List (Str×Addr)):List (Str×NameKind)->List (Str×Addr)->Option (List (Str×Addr))
 |[],cs=>some cs| (n,k)::r,cs=>if (k==.free)=true then (match cells.lookup n with
  |some a=>Fk cells r ((n,a)::cs)|none=>none) else Fk cells r cs
theorem CT:∀(names:List (Str×NameKind))(cs cl:List (Str×Addr)),Fk env.cells names cs=some cl->
  (forIn names cs λ(x:Str×NameKind)(r:List (Str×Addr))=>(match x with
   | (name,kind)=>if (kind==.free)=true then (do let a <-cellOf env name;pure (ForInStep.yield ((name,a)::r))) else pure (ForInStep.yield r):Sem (ForInStep (List (Str×Addr)))))=(pure cl:Sem (List (Str×Addr)))
 |[],cs,cl,h=>by cases h;rfl
 | (n,k)::r,cs,cl,h=>by
  unfold Fk at h;rw[List.forIn_cons];by_cases hk:(k==.free)=true
  ·rw[Uc hk]at h;cases hl:env.cells.lookup n with
   |none=>rw[hl]at h;cases h|some a =>rw[hl]at h;dsimp only at h ⊢;rw[Uc hk];unfold cellOf;rw[hl];exact CT r _ cl h
  ·rw[Uh hk]at h;dsimp only;rw[Uh hk];exact CT r _ cl h
theorem CK(h:Fk env.cells scope.names []=some cl):closureFor scope env=pure cl:=by have q:=CT (env:=env) scope.names [] cl h;unfold closureFor;exact Tp (λt=>t >>= λr=>(pure r:Sem _)) q
theorem Cp:∀(names:List (Str×NameKind))(cs:List (Str×Addr)),(∀y∈names,y.2=.free->∃c,cells.lookup y.1=some c)->∃cl,Fk cells names cs=some cl
 |[],cs,_=>⟨cs,rfl⟩| (n,k)::r,cs,h=>by
  unfold Fk;by_cases hk:(k==.free)=true
  ·rw[Uc hk];obtain⟨c,e⟩:=h (n,k) UC (Tn.mp hk);rw[show cells.lookup n=some c from e];exact Cp r _ λy hy=>h y (Uw _ hy)
  ·rw[Uh hk];exact Cp r _ λy hy=>h y (Uw _ hy)
theorem X7:∀(names:List (Str×NameKind))(cs cl:List (Str×Addr)),Fk cells names cs=some cl->(∀x c,cs.lookup x=some c->cells.lookup x=some c)->∀x c,cl.lookup x=some c->cells.lookup x=some c
 |[],cs,cl,h,hc=>by cases h;exact hc
 | (n,k)::r,cs,cl,h,hc=>by
  unfold Fk at h;by_cases hk:(k==.free)=true
  ·rw[Uc hk]at h;cases hl:cells.lookup n with
   |none=>rw[hl]at h;cases h|some a=>
    rw[hl]at h;refine X7 r _ cl h λx c e=>?_;by_cases z:x=n
    ·subst z;simp only[List.lookup,RK]at e;cases e;exact hl
    ·have zb:(x==n)=false:=U8.mpr z;simp only[List.lookup,zb]at e;exact hc x c e
  ·rw[Uh hk]at h;exact X7 r _ cl h hc
theorem EH:∀(names:List (Str×NameKind))(cs cl:List (Str×Addr)),Fk cells names cs=some cl->∀x,(x∈names.filterMap λy=>if (y.2==.free)=true then some y.1 else none)\/(∃c,cs.lookup x=some c)->∃c,cl.lookup x=some c
 |[],cs,cl,h,x,hx=>by
  cases h;rcases hx with hx|hx
  ·simp at hx
  ·exact hx
 | (n,k)::r,cs,cl,h,x,hx=>by
  unfold Fk at h;by_cases hk:(k==.free)=true
  ·rw[Uc hk]at h;cases hl:cells.lookup n with
   |none=>rw[hl]at h;cases h|some a=>
    rw[hl]at h;refine EH r _ cl h x ?_;by_cases z:x=n
    ·subst z;exact .inr ⟨a,by simp[List.lookup]⟩
    ·have zb:(x==n)=false:=U8.mpr z;rcases hx with hx|⟨c,hx⟩
     ·rw[Tv]at hx;simp only[hk,R0]at hx;rcases Ud.mp hx with e|e
      ·exact absurd e z
      ·exact .inl e
     ·exact .inr ⟨c,by simp only[List.lookup,zb];exact hx⟩
  ·rw[Uh hk]at h;refine EH r _ cl h x ?_;rcases hx with hx|hx
   ·rw[Tv]at hx;simp only[hk]at hx;exact .inl (by simpa using hx)
   ·exact .inr hx
theorem F5{names:List (Str×NameKind)}{x:Str}(h:names.lookup x=some .free):x∈names.filterMap λy=>if (y.2==.free)=true then some y.1 else none:=Wg.mpr ⟨(x,.free),Tz h,by simp⟩
theorem KJ{env:Env}:∀{names:List (Str×NameKind)}{x:Str}{k:NameKind},(∀y∈names,y.2≠.cell)->(names.map λ(n,k)=>if (k==NameKind.free&&env.scope.kind==.function&&env.kindOf n==some .cell) then (n,NameKind.cell) else (n,k)).lookup x=some k->(k=.cell\/k=.free)->names.lookup x=some .free
 |[],_,_,_,h,_=>by cases h
 | (n,k0)::r,x,k,hn,h,hk=>by
  have ih:=@KJ env r x k λy hy=>hn y (Uw _ hy);rw[Ti]at h;by_cases hc:(k0==NameKind.free&&env.scope.kind==.function&&env.kindOf n==some .cell)=true
  ·have k0f:k0=.free:=by simp only[UD]at hc;exact Tn.mp hc.1.1
   dsimp only at h;rw[Uc hc]at h;cases hx:x==n with
   |true=>simp only[List.lookup,hx];rw[k0f]|false=>simp only[List.lookup,hx]at h ⊢;exact ih h hk
  ·dsimp only at h;rw[Uh hc]at h;cases hx:x==n with
   |true=>
    simp only[List.lookup,hx]at h ⊢;cases h;rcases hk with e|e
    ·exact absurd e (hn (n,k0) UC)
    ·rw[e]
   |false=>simp only[List.lookup,hx]at h ⊢;exact ih h hk
theorem LG{prog:Program}{w:World}{A:Around}{R:Result->Shared->Prop}{s:Shared}{elt target iter:Expr}{ifs:List Expr}{scope:Scope}{pos:Pos}{it acc:Value}{env:Env}(I:Nat->Shared->Prop)(turn:∀n s,I n s->wpAny (model prog w) A (pyNext it) (λr s₁=>match r with
   |none=>R (.ok .next) s₁|some v=>wpAny (model prog w) A (letOwnedTupleGo target it v) (λ_ s1'=>wpAny (model prog w) A (assign target env v) (λ_ s₂=>
     wpAny (model prog w) A (forIn ifs true λc r=>if r=true then do let ok <-isTrue c env (eval c env);pure (ForInStep.yield ok) else pure (ForInStep.yield r)) (λok s₃=>
      if ok=true then wpAny (model prog w) A (eval elt env) (λx s₄=>
       wpAny (model prog w) A (call (.builtin "list.append") [acc,x]) (λ_ s₅=>∃m,m<n/\I m s₅) (λ_ _=>False) s₄) (λ_ _=>False) s₃
      else ∃m,m<n/\I m s₃) (λ_ _=>False) s₂) (λ_ _=>False) s1') (λ_ _=>False) s₁) (λ_ _=>False) s)(n:Nat)(h:I n s):codeAny (model prog w) A (.compLoop (.ListComp elt [⟨target,iter,ifs,0⟩] scope pos) 0 it acc env) R s:=by
 refine codeAny_loop rfl I (λn s hI=>?_) n h;show wpAny _ A ((compTurn (.ListComp elt [⟨target,iter,ifs,0⟩] scope pos) 0 it acc env).onRaise (λx=>do noteFrame x env;theTreesLotGoes x)) _ _ s;refine wpAny_noted ?_;rw[compTurn_list];refine Ub (wpAny_standAt (Ub (Tl (turn n s hI) (λr s₁ h₁=>?_) λ_ _ h'=>h'.elim)));cases r with
 |none=>exact Us h₁|some v=>
  refine Ub (Tl h₁ (λ_ s1' h1'=>?_) λ_ _ h'=>h'.elim);refine Ub (Tl h1' (λ_ s₂ h₂=>Ub (Tl h₂ (λok s₃ h₃=>?_) λ_ _ h'=>h'.elim)) λ_ _ h'=>h'.elim);cases ok with
  |false=>exact Us ⟨rfl,h₃⟩|true =>exact Ub (Ub (Tl h₃ (λx s₄ h₄=>Ub (Tl h₄ (λ_ s₅ h₅=>Us (Us ⟨rfl,h₅⟩)) λ_ _ h'=>h'.elim)) λ_ _ h'=>h'.elim))
theorem Inv.track(I:Inv X pins σ H s)(ha:FpOk X pins H a)(new:ObjOk X.prog X.w (Ji H a o) s.heap a o):Inv X pins σ (Ji H a o) s:=by
 obtain⟨f0,f1,f2,f3,f4,f5⟩:=ha;have ne:∀b u,H b=some u->b≠a:=λb u e=>Z8 e f0;refine I.step (h':=s.heap) (g':=s.gens) (t':=s.toks) (d':=s.drawn) (ch:=[a]) (λb hb=>?_) (λb o _ _ _ e _=>e) (λb o _ _ _ e _=>⟨o.slots,e⟩) (λb o hb e n=>?_) (λb o _ e=>⟨o,e⟩)
  (λb xs e=>by rw[Q9 (ne b _ e)];exact e) (λb o u e=>by rw[Q9 (ne b _ e)];exact e) (λb ps e=>⟨#[],by rw[Q9 (ne b _ e),e];simp⟩) (λ_ h=>h) (λb u e=>?_) I.bare
 ·have e:b=a:=by simpa using hb
  subst e;exact⟨f3,f1,f4,f5⟩
 ·rw[Q9 (λz=>hb (by simp[z]))];exact n
 ·by_cases hb:b=a
  ·subst hb;rw[Q6]at e;cases e;exact new
  ·rw[Q9 hb]at e;exact(I.hok b u e).stay (λ_ _ _ q=>q) (λc q=>by rw[Q9 (ne c _ q)];exact q) λc xs q=>by rw[Q9 (ne c _ q)];exact q
theorem FpOk.mono(h:FpOk X pins H b)(n:H' b=none):FpOk X pins H' b:=⟨n,h.2⟩
abbrev F0:XS:=λ_ _ _=>False
theorem iI(h:wpAny M A t Q (XE X ca F0) s):wpAny M A t Q (λ_ _=>False) s:=Tl h (λ_ _ z=>z) λ_ _ ⟨_,_,_,_,_,_,_,z⟩=>z
def oI(ca:Nat->Addr)(X:Cx)(ifs:List Expr)(m:MT):Prop:=∀(pins:Xw)(s:Shared)(σ:L2.St)(H:Hp)(Q:Bool->Hp->Prop),Inv (Zi X ca [] F0) pins σ H s->iF X.K ca F0 m σ H Q->wpAny (model X.prog X.w) X.A (forIn ifs true λc r=>if r=true then do let ok <-isTrue c X.env (eval c X.env);pure (ForInStep.yield ok) else pure (ForInStep.yield r)) (TP (Zi X ca [] F0) pins σ Q) (λ_ _=>False) s
theorem Bq  : oI ca X [] Yb:=by intro pins s σ H Q I ⟨_,_,μ,R,p⟩;rw[List.forIn_nil];exact Us ⟨H,I,p H μ .refl R.g⟩
theorem IO(h:GA ca X c m):oI ca X [c] m:=by intro pins s σ H Q I q;exact wpAny_tests_one (iI (h [] F0 pins s σ H Q I q))
section
variable{X:Cx}{ca:Nat->Addr}{pn:Xw}
theorem kY{scope:Scope}{Nb:List Str}{no:Nat}{cap:List Nat}{cl:List (Str×Addr)}{pins:Xw}{σ:L2.St}{H:Hp}{s:Shared}{ex:List Addr}(B:BScope X scope Nb no cap)(hcl:Fk X.env.cells scope.names []=some cl)(I:Inv (Zi X ca pn F0) pins σ H s)(hex:∀b∈ex,FpOk (Zi X ca pn F0) pins H b)(hlt:∀b∈ex,b<s.heap.objs.size):(Zi (GW X scope cl s.heap.objs.size Nb s H ex) ca [] F0).Ok where
 mod:=I.ok.mod
 kind:=B.kind
 glob:=I.ok.glob
 blt:=I.ok.blt
 above:=Um _
 inj:=λx y c h1 h2=>I.ok.inj x y c (X7 _ _ _ hcl (λ_ _ z=>by cases z) x c h1) (X7 _ _ _ hcl (λ_ _ z=>by cases z) y c h2)
 has:=λx hx=>EH _ _ _ hcl x (.inl (F5 (by
  rcases hx with hx|hx
  ·exact KJ B.cell hx (.inl rfl)
  ·exact KJ B.cell hx (.inr rfl))))
 cab:=λ_ _ z=>by cases z
 hd:=I.ok.hd
 frames:=I.ok.frames
 stk:=.inl rfl
 exf:=λb hb=>⟨UY (hlt b hb),λx c e z=>(hex b hb).2.2.2.2.1 x c (X7 _ _ _ hcl (λ_ _ z=>by cases z) x c e) z⟩
 bs:=I.bs
 bsz:=Up I.ok.bsz I.sz
 noex:=λb o e hb=>by
  rcases(hex b hb).2.2.2.1 with z|z
  ·exact I.ok.noex b o e z
  ·exact absurd (UL (Uz e) (Up I.ok.bsz z)) (To _)
 exfs:=λb hb z=>by
  rcases Ud.mp (I.stkSub b z) with e|e
  ·exact(hex b hb).2.1 e
  ·exact(hex b hb).2.2.1 e
 funs:=I.stack
 frf:=I.stkFree
theorem VW{env:Env}:∀{names:List (Str×NameKind)}{x:Str},names.lookup x=some .free->(names.map λ(n,k)=>if (k==NameKind.free&&env.scope.kind==.function&&env.kindOf n==some .cell) then (n,NameKind.cell) else (n,k)).lookup x=some .local->False
 |[],_,h,_=>by cases h
 | (n,k0)::r,x,h,h'=>by
  have ih:=@VW env r x;rw[Ti]at h';dsimp only at h';by_cases hc:(k0==NameKind.free&&env.scope.kind==.function&&env.kindOf n==some .cell)=true
  ·rw[Uc hc]at h';cases hx:x==n with
   |true=>simp only[List.lookup,hx]at h';cases h'|false=>simp only[List.lookup,hx]at h h';exact ih h h'
  ·rw[Uh hc]at h';cases hx:x==n with
   |true=>simp only[List.lookup,hx]at h h';rw[h']at h;cases h|false=>simp only[List.lookup,hx]at h h';exact ih h h'
theorem Dy{K:Frag}{ca:Nat->Addr}{μ2:List Addr}{σ3:S3}{g1:G}{σ:L2.St}{H2:Hp}(no:Nat)(cap:List Nat)(R2:Rep K ca μ2 σ3 g1 σ H2):Rep K ca μ2 (CQ no cap σ3) g1 (List.replicate no none++cap.map λi=>(σ[i]?).getD none) H2:=by
 refine⟨R2.g,?_,λi d h=>?_⟩
 ·unfold CQ;rw[Uo,Uo,U9,U9,Ua,Ua]
 ·unfold CQ at h;have hi:no<=i:=by apply RI;intro hlt;rw[Ut (by simpa using hlt),TU,Uc hlt]at h;cases h
  rw[Ux (by simpa using hi),U9,UA]at h ⊢;cases hcp:cap[i-no]? with
  |none=>rw[hcp]at h;cases h|some j=>
   rw[hcp]at h;have h:(σ3[j]?).getD none=some d:=by simpa using h
   have hs:σ3[j]?=some (some d):=by
    cases z:σ3[j]? with
    |none=>rw[z]at h;cases h|some w=>rw[z]at h;have h:w=some d:=h;rw[h]
   obtain⟨v,h1,h2⟩:=R2.st j d hs;exact⟨v,by simp[h1],h2⟩
theorem IP{tg iter elt:Expr}{ifs:List Expr}{scope:Scope}{pos:Pos}{Nb:List Str}{no:Nat}{cap:List Nat}{cl:List (Str×Addr)}{f:MG}{tc:MT}{me:ME}{src:Src}{pins:Xw}{σ:L2.St}{σ3:S3}{H2:Hp}{s2:Shared}{μ2:List Addr}{g1 g2:G}{ds:List D}{it:Addr}{fp:List Addr}{tn:Nat->Heap->Prop}{J:It}{RR:Value->Addr->Result->Shared->Prop}{E:VP}(B:BScope X scope Nb no cap)(hc:X.calm=true)(hb:∀cl C s3 H3 ex,dZ ca (GW X scope cl C Nb s3 H3 ex) tg f/\oI ca (GW X scope cl C Nb s3 H3 ex) ifs tc/\Za ca (GW X scope cl C Nb s3 H3 ex) elt me)(hcl:Fk X.env.cells scope.names []=some cl)(I2:Inv (Zi X ca pn F0) pins σ H2 s2)(T:Turn X.prog X.w X.K tg J fp it tn)(st2:tn 0 s2.heap)(f2:∀b∈fp,FpOk (Zi X ca pn F0) pins H2 b)(R2:Rep X.K ca μ2 σ3 g1 σ H2)(sim:cR X.K ca μ2 H2 src J)(hz:src.top<=SZ)(hL:Jd src f tc me (src.top+1) 0 (CQ no cap σ3) g1 []=.ok ds g2)(fin:∀(D C:Addr) (s':Shared) (H4:Hp) (μ4:List Addr) (accV:List V) (its:List Value) (k:Nat),Inv (Zi X ca pn F0) pins σ H4 s'->(∃m,s'.heap.Ns C m)->FpOk (Zi X ca pn F0) pins H4 C->FpOk (Zi X ca pn F0) pins H4 D->D≠C->s'.heap.get? D=some {cls:=.type "list",data:=.seq its.toArray k}->Vals accV its->accV.length<=sizeLine->Ext X.K μ2 H2 μ4 H4->GRep X.K ca μ4 H4 g2->Dens X.K μ4 H4 accV ds->RR (.ref D) C (.ok .next) s'):
  wpAny (model X.prog X.w) X.A (newList []) (λacc s₃=>wpAny (model X.prog X.w) X.A (newFunctionEnv scope X.env.globals cl [] X.env.qual none .none (some X.env)) (λcenv s₄=>
   codeAny (model X.prog X.w) X.A (.compStart (.ListComp elt [⟨tg,iter,ifs,0⟩] scope pos) 0 (.ref it) acc {cenv with scope:=relabel scope X.env}) (RR acc cenv.locals) s₄) E s₃) E s2:=by
 refine U7 (wpAny_newFunctionEnv B.cell (by intro y hy;simp at hy) (λh₁ hns₁ hsb₁=>?_) B.kind);dsimp only at hns₁ hsb₁ ⊢;generalize hH2:s2.heap.push {cls:=.type "list",dict:=none,data:=.seq ([]:List Value).toArray}=hp at hns₁ hsb₁ ⊢;have hC:hp.objs.size=s2.heap.objs.size+1:=by rw[<-hH2,Wn]
 have I3:Inv (Zi X ca pn F0) pins σ H2 {s2 with heap:=hp}:=by rw[<-hH2];exact I2.kept (t':=s2.toks) λb o e=>Uk _ e
 have hD3:hp.get? s2.heap.objs.size=some {cls:=.type "list",data:=.seq ([]:List Value).toArray}:=by rw[<-hH2];exact UE _ rfl
 have fD:FpOk (Zi X ca pn F0) pins H2 s2.heap.objs.size:=I2.fpOk (Um _) (I2.hok.fresh (Um _));have fC:FpOk (Zi X ca pn F0) pins H2 hp.objs.size:=I3.fpOk (Um _) (I3.hok.fresh (Um _));have fplt:∀b∈fp,b<s2.heap.objs.size:=λb hb=>by obtain⟨o,e,_⟩:=T.obj 0 _ st2 b hb;exact Uz e
 have DnF:s2.heap.objs.size∉fp:=λh=>To _ (fplt _ h);have DnC:s2.heap.objs.size≠hp.objs.size:=by rw[hC];exact UY (Tj _)
 have exOk:∀b∈s2.heap.objs.size::fp,FpOk (Zi X ca pn F0) pins H2 b:=λb hb=>by
  rcases Ud.mp hb with e|e
  ·rw[e];exact fD
  ·exact f2 b e
 have exLt:∀b∈s2.heap.objs.size::fp,b<hp.objs.size:=λb hb=>by
  rcases Ud.mp hb with e|e
  ·rw[e,hC];exact Tj _
  ·rw[hC];exact Nat.lt_succ_of_lt (fplt b e)
 have okb:(Zi (GW X scope cl hp.objs.size Nb {s2 with heap:=hp} H2 (s2.heap.objs.size::fp)) ca [] F0).Ok:=kY (s:={s2 with heap:=hp}) B hcl I3 exOk exLt;obtain⟨hgB,hiB,heB⟩:=hb cl hp.objs.size {s2 with heap:=hp} H2 (s2.heap.objs.size::fp);have old:∀b o,hp.get? b=some o->h₁.get? b=some o:=λb o e=>hsb₁.extBut b o (UY (Uz e)) (Uk _ e)
 -- the block's first state
 have Ib:Inv (Zi (GW X scope cl hp.objs.size Nb {s2 with heap:=hp} H2 (s2.heap.objs.size::fp)) ca [] F0) [] (List.replicate no none++cap.map λi=>(σ[i]?).getD none) H2 {s2 with heap:=h₁,toks:=s2.toks+([]:List (Str×Value)).length}:=by
  refine⟨okb,rfl,I3.bare,Un.kept old,⟨_,hns₁,λi x v h1 h2 h3=>?_⟩,λx c e=>?_,fC.1,λx c e=>?_,λp hp=>absurd (show p∈([]:Xw) from hp) (by simp),I3.hok.kept old,?_⟩
  ·have hi:no<=i:=by apply RI;intro hlt;rw[Ut (by simpa using hlt),TU,Uc hlt]at h2;cases h2
   rw[Ux (by simpa using hi),U9,UA]at h2;cases hcp:cap[i-no]? with
   |none=>rw[hcp]at h2;cases h2|some j=>
    rw[hcp]at h2;have h2:(σ[j]?).getD none=some v:=by simpa using h2
    have hs:σ[j]?=some (some v):=by
     cases z:σ[j]? with
     |none=>rw[z]at h2;cases h2|some w=>rw[z]at h2;have h2:w=some v:=h2;rw[h2]
    obtain⟨y,n1,n2,n3,n4,n5⟩:=B.cap (i-no) j hcp;have e0:no+(i-no)=i:=by omega
    rw[e0]at n1;have h1:Nb[i]?=some x:=h1;have hxy:y=x:=Option.some.inj (n1.symm.trans h1);subst hxy;obtain⟨m,hn,hl⟩:=I3.loc;obtain⟨u,ru,lk⟩:=hl j y v n2 hs n4;refine⟨u,ru,.inr ⟨?_,?_⟩⟩
    ·rcases h3 with z|z|z
     ·exact(VW n3 z).elim
     ·exact .inl z
     ·exact .inr z
    ·rcases lk with⟨k1,_⟩|⟨_,c,k2,k3⟩
     ·exact absurd k1 n5
     ·obtain⟨c',hc'⟩:=EH _ _ _ hcl y (.inl (F5 n3));have:=X7 _ _ _ hcl (λ_ _ z=>by cases z) y c' hc';have k2:X.env.cells.lookup y=some c:=k2;have hcc:c'=c:=Option.some.inj (this.symm.trans k2);subst hcc;exact⟨c',hc',k3.keeps old⟩
  ·obtain⟨v,z⟩:=I3.cell x c (X7 _ _ _ hcl (λ_ _ z=>by cases z) x c e);exact⟨v,z.keeps old⟩
  ·exact I3.freeC x c (X7 _ _ _ hcl (λ_ _ z=>by cases z) x c e)
  ·rw[Uo,U9,Ua];exact B.len.symm
 have RbR:=Dy no cap R2;have eK:(Zi (GW X scope cl hp.objs.size Nb {s2 with heap:=hp} H2 (s2.heap.objs.size::fp)) ca [] F0).K=X.K:=rfl;have eP:(Zi (GW X scope cl hp.objs.size Nb {s2 with heap:=hp} H2 (s2.heap.objs.size::fp)) ca [] F0).prog=X.prog:=rfl;have eW:(Zi (GW X scope cl hp.objs.size Nb {s2 with heap:=hp} H2 (s2.heap.objs.size::fp)) ca [] F0).w=X.w:=rfl;have eA:(Zi (GW X scope cl hp.objs.size Nb {s2 with heap:=hp} H2 (s2.heap.objs.size::fp)) ca [] F0).A=X.A:=rfl;have eE:(Zi (GW X scope cl hp.objs.size Nb {s2 with heap:=hp} H2 (s2.heap.objs.size::fp)) ca [] F0).env=compEnvC scope cl hp.objs.size X.env:=rfl;have eC:(Zi (GW X scope cl hp.objs.size Nb {s2 with heap:=hp} H2 (s2.heap.objs.size::fp)) ca [] F0).calm=true:=hc;have eX:∀b∈s2.heap.objs.size::fp,b∈(Zi (GW X scope cl hp.objs.size Nb {s2 with heap:=hp} H2 (s2.heap.objs.size::fp)) ca [] F0).ex:=λb hb=>hb;have eN:∀{pl:Xw}{p:Addr×Obj},p∈(Zi (GW X scope cl hp.objs.size Nb {s2 with heap:=hp} H2 (s2.heap.objs.size::fp)) ca [] F0).pn++pl->p∈pl:=λh=>h;have toUn:∀{pl:Xw}{σ':L2.St}{H':Hp}{s':Shared},Inv (Zi (GW X scope cl hp.objs.size Nb {s2 with heap:=hp} H2 (s2.heap.objs.size::fp)) ca [] F0) pl σ' H' s'->Un (Pg (Zi X ca pn F0).stack) (s2.heap.objs.size::fp) H2 H' hp s'.heap:=λI=>I.base;have toOs:∀{pl:Xw}{σ':L2.St}{H':Hp}{s':Shared},Inv (Zi (GW X scope cl hp.objs.size Nb {s2 with heap:=hp} H2 (s2.heap.objs.size::fp)) ca [] F0) pl σ' H' s'->s'.os=s2.os:=λI=>I.os;generalize GW X scope cl hp.objs.size Nb {s2 with heap:=hp} H2 (s2.heap.objs.size::fp)=Xb at okb hgB hiB heB Ib eK eP eW eA eE eC eX eN toUn toOs
 -- the iterator's records,through the block
 have FpB:∀{H:Hp}{pl:Xw},(∀b∈fp,H b=none)->(∀p∈pl,p.1∉fp)->∀b∈fp,FpOk (Zi Xb ca [] F0) pl H b:=λ{H pl} hn hpl b hb=>by
  have e0:=okb.exf b (eX b (Uw _ hb));refine⟨hn b hb,e0.1,?_,.inl (eX b (Uw _ hb)),e0.2,λp hp z=>?_⟩
  ·exact okb.exfs b (eX b (Uw _ hb))
  ·have hp':p∈pl:=eN hp;exact hpl p hp' (z ▸ hb)
 have FpD:∀{H:Hp},H s2.heap.objs.size=none->FpOk (Zi Xb ca [] F0) [] H s2.heap.objs.size:=λ{H} hn=>by
  have e0:=okb.exf s2.heap.objs.size (eX _ UC);refine⟨hn,e0.1,?_,.inl (eX _ UC),e0.2,λp hp=>?_⟩
  ·exact okb.exfs s2.heap.objs.size (eX _ UC)
  ·exact absurd (eN hp) (by simp)
 have st4:tn 0 h₁:=T.keep _ _ _ st2 λb hb o e=>old b o (by rw[<-hH2];exact Uk _ e)
 -- the invariant
 have loop:∀s4:Shared,s4 = {s2 with heap:=h₁,toks:=s2.toks+([]:List (Str×Value)).length}->codeAny (model X.prog X.w) X.A (.compLoop (.ListComp elt [⟨tg,iter,ifs,0⟩] scope pos) 0 (.ref it) (.ref s2.heap.objs.size) (compEnvC scope cl hp.objs.size X.env)) (RR (.ref s2.heap.objs.size) hp.objs.size) s4:=by
  rintro s4 rfl;obtain⟨P,hP⟩:∃P:Nat->Shared->Prop,∀n s',P n s'↔∃(i:Nat)(σ4:S3)(g4:G)(μ4:List Addr)(σ5:L2.St)(H4:Hp)(acc:List D)(accV:List V)(its:List Value)(k:Nat),Inv (Zi Xb ca [] F0) [] σ5 H4 s'/\tn i s'.heap/\(∀b∈fp,H4 b=none)/\H4 s2.heap.objs.size=none/\s'.heap.get? s2.heap.objs.size=some {cls:=.type "list",data:=.seq its.toArray k}/\Vals accV its/\Ext X.K μ2 H2 μ4 H4/\Rep X.K ca μ4 σ4 g4 σ5 H4/\Dens X.K μ4 H4 accV acc/\Jd src f tc me n i σ4 g4 acc=.ok ds g2/\acc.length<=i/\i+n<=SZ+1:=⟨_,λ_ _=>Iff.rfl⟩
  refine LG P ?_ (src.top+1) ((hP _ _).2 ⟨0,CQ no cap σ3,g1,μ2,_,H2,[],[],[],_,Ib,st4,λb hb=>(f2 b hb).1,fD.1,old _ _ hD3,.nil,.refl,RbR,.nil,hL,Um _,by omega⟩);rintro n s5 h5;obtain⟨i,σ4,g4,μ4,σ5,H4,acc,accV,its,k,I5,st5,fr5,frD,hD5,va,e5,R5,da,hl5,ha5,hn5⟩:=(hP _ _).1 h5;cases n with
  |zero=>cases hl5|succ n=>
   unfold Jd at hl5;have s1:=sim i H4 μ4 g4 e5 R5.g;have pinD:Inv (Zi Xb ca [] F0) [(s2.heap.objs.size,{cls:=.type "list",data:=.seq its.toArray k})] σ5 H4 s5:=I5.pins_of λp hp=>by rw[Uf.mp hp];have z:=FpD frD;exact⟨hD5,frD,z.2.1,z.2.2.1,λv q=>by cases q⟩
   have nofp:∀p∈[(s2.heap.objs.size,({cls:=.type "list",data:=.seq its.toArray k}:Obj))],p.1∉fp:=λp hp=>by rw[Uf.mp hp];exact DnF
   have getD:∀{σ':L2.St}{H':Hp}{s':Shared}{pl:Xw},Inv (Zi Xb ca [] F0) ([(s2.heap.objs.size,({cls:=.type "list",data:=.seq its.toArray k}:Obj))]++pl) σ' H' s'->s'.heap.get? s2.heap.objs.size=some {cls:=.type "list",data:=.seq its.toArray k}/\H' s2.heap.objs.size=none:=λ{σ' H' s' pl} I'=>by have z:=I'.pin (s2.heap.objs.size,{cls:=.type "list",data:=.seq its.toArray k}) (UI _ (Ts _ (Uf.mpr rfl)));exact⟨z.1,z.2.1⟩
   cases hat:src.at' g4 i with
   |none=>rw[hat]at hl5;cases hl5|some od=>
    rw[hat]at hl5 s1;cases od with
    |none=>
     cases hl5;have dn:=T.done (Zi Xb ca [] F0) eP eW eK eC i _ s5 σ5 H4 (λ_ _=>False) pinD (FpB fr5 nofp) st5 s1;rw[eA]at dn;refine Ja dn λr s6 ⟨hr,I6⟩=>?_;subst hr;obtain⟨hD6,frD6⟩:=getD (pl:=[]) (by rw[U0];exact I6);have un:Un (Pg (Zi X ca pn F0).stack) (s2.heap.objs.size::fp) H2 H4 hp s6.heap:=toUn I6;have hok:HOk (Zi X ca pn F0).prog (Zi X ca pn F0).w H4 s6.heap:=by have:=I6.hok;rw[eP,eW]at this;exact this
     have os:s6.os=s2.os:=toOs I6;have I7:Inv (Zi X ca pn F0) pins σ H4 s6:=Inv.call' (s':=s6) (ch:=s2.heap.objs.size::fp) I3 os un hok I6.bare λb hb=>⟨(exOk b hb).2.2.2.1,(exOk b hb).2.1,(exOk b hb).2.2.2.2.1,(exOk b hb).2.2.2.2.2⟩;have hCn:H4 hp.objs.size=none:=by have:=I6.free;rw[eE]at this;exact this
     have nsC:∃m,s6.heap.Ns hp.objs.size m:=by obtain⟨m,hm,_⟩:=I6.loc;rw[eE]at hm;exact⟨m,hm⟩
     refine fin _ _ s6 H4 μ4 accV its k I7 nsC (FpOk.mono fC hCn) (FpOk.mono fD frD6) DnC hD6 va ?_ e5 R5.g da;rw[da.length];have:=XV;omega
    |some d=>
     obtain⟨go,yl⟩:=s1;dsimp only at hl5;cases hf:f d σ4 with
     |none=>rw[hf]at hl5;cases hl5|some σ6=>
      rw[hf]at hl5;dsimp only at hl5;have im:=T.item (Zi Xb ca [] F0) eP eW eK eC i _ s5 σ5 H4 (λ_ _=>False) pinD (FpB fr5 nofp) st5 go;rw[eA]at im;refine Ja im λr s6 ⟨u,hr,h6⟩=>?_;subst hr;refine Ja h6 λ_ s7 hZ=>?_;obtain⟨x,H7,I7,r7,y7,st7,fr7⟩:=hZ;obtain⟨e7,g7,q7⟩:=yl x H7 y7;have I7':=I7.pinned (FpB fr7 nofp) (T.obj _ _ st7);have R7:=R5.go e7 g7;have asg:=hgB [] F0 _ s7 σ5 H7 x u (λσ' H'=>H'=H7/\Rep X.K ca μ4 σ6 g4 σ' H7) I7' r7 (by have:Xb.K=X.K:=eK;rw[this];exact⟨σ4,g4,μ4,d,σ6,R7,q7,hf,λσ' R'=>⟨rfl,R'⟩⟩);rw[eP,eW,eA,eE]at asg;refine Ja (iI asg) λ_ s8 ⟨σ8,H8,I8,e8,R8⟩=>?_;subst e8;cases ht:tc σ6 g4 with
      |raise _ _=>rw[ht]at hl5;cases hl5|stuck=>rw[ht]at hl5;cases hl5|ok b g9=>
       rw[ht]at hl5;have hl5:(if b=true then (match me σ6 g9 with | .ok y g2=>Jd src f tc me n (i+1) σ6 g2 (acc++[y])|_=>.stuck) else Jd src f tc me n (i+1) σ6 g9 acc)=.ok ds g2:=hl5;have tst:=hiB _ s8 σ8 _ (λb' H'=>b'=b/\∃μ9,Ext X.K μ4 H8 μ9 H'/\Rep X.K ca μ9 σ6 g9 σ8 H') I8 (by have:Xb.K=X.K:=eK;rw[this];refine⟨σ6,g4,μ4,R8,?_⟩;rw[ht];exact λH' μ' e' r'=>⟨rfl,μ',e',R8.go e' r'⟩);have eP':Xb.prog=X.prog:=eP;have eW':Xb.w=X.w:=eW;have eA':Xb.A=X.A:=eA;have eE':Xb.env=compEnvC scope cl hp.objs.size X.env:=eE;rw[eP',eW',eA',eE']at tst;refine Ja tst λok s9 hZ=>?_;obtain⟨H9,I9,eb,μ9,e9,R9⟩:=hZ;subst eb;have again:∀{σ':L2.St}{H':Hp}{s':Shared},Inv (Zi Xb ca [] F0) ([(s2.heap.objs.size,({cls:=.type "list",data:=.seq its.toArray k}:Obj))]++GK fp s7.heap) σ' H' s'->Inv (Zi Xb ca [] F0) [] σ' H' s'/\tn (i+1) s'.heap/\∀b∈fp,H' b=none:=λ{σ' H' s'} I'=>by refine⟨I'.pins_of λp hp=>absurd hp (by simp),T.keep _ _ _ st7 λb hb o e=>(I'.pin (b,o) (UI _ (UI _ (KD hb e)))).1,λb hb=>?_⟩;obtain⟨o,e,_⟩:=T.obj _ _ st7 b hb;exact(I'.pin (b,o) (UI _ (UI _ (KD hb e)))).2.1
       cases ok with
       |false =>rw[Uh Ue]at hl5 ⊢;obtain⟨J1,J2,J3⟩:=again I9;obtain⟨K1,K2⟩:=getD I9;refine⟨n,Tj n,(hP _ _).2 ⟨i+1,σ6,g9,μ9,σ8,H9,acc,accV,its,k,J1,J2,J3,K2,K1,va,(e5.trans e7).trans e9,R9,(da.mono e7).mono e9,hl5,by omega,by omega⟩⟩|true=>
        rw[Uc rfl]at hl5 ⊢;cases hm:me σ6 g9 with
        |raise _ _=>rw[hm]at hl5;cases hl5|stuck=>rw[hm]at hl5;cases hl5|ok y g10=>
         rw[hm]at hl5;have hl5:Jd src f tc me n (i+1) σ6 g10 (acc++[y])=.ok ds g2:=hl5;have el:=heB [] F0 _ s9 σ8 H9 (λvy H'=>∃μ10,Ext X.K μ9 H9 μ10 H'/\Rep X.K ca μ10 σ6 g10 σ8 H'/\Den X.K μ10 H' vy y) I9 (by have:Xb.K=X.K:=eK;rw[this];refine⟨σ6,g9,μ9,R9,?_⟩;rw[hm];exact λv H' μ' e' r' q'=>⟨μ',e',R9.go e' r',q'⟩);rw[eP,eW,eA,eE]at el;refine Ja (iI el) λuy s10 hZ=>?_;obtain⟨vy,H10,I10,ry,μ10,e10,R10,qy⟩:=hZ;obtain⟨K1,K2⟩:=getD I10;obtain⟨J1,J2,J3⟩:=again I10;have hlen:its.length=acc.length:=by rw[<-va.length,da.length]
         refine Rc F.slot_list_append ⟨_,K1,rfl⟩ F.entry_list_append (F.args_list_append_2 _ _) (PySem.list_append s2.heap.objs.size its.toArray k uy (by rw[Ug,RS];have:SZ=1000000:=rfl;omega)) ⟨K1,?_⟩;have up:=PySem.IsL.update K1 (·.push uy);rw[show its.toArray.push uy=(its++[uy]).toArray by simp]at up;have upo:∀b o,b≠s2.heap.objs.size->s10.heap.get? b=some o->(s10.heap.update s2.heap.objs.size (Obj.mapSeq (·.push uy))).get? b=some o:=λb o hb e=>(Te s10.heap (Obj.mapSeq (·.push uy)) (Ne.symm hb)).trans e;obtain⟨d0,d1,d2,d3,d4,d5⟩:=FpD K2;refine⟨n,Tj n,(hP _ _).2 ⟨i+1,σ6,g10,μ10,σ8,H10,acc++[y],accV++[vy],its++[uy],_,J1.turned (t':=s10.toks) upo d0 d1 d3 d4 d5,T.keep _ _ _ J2 λb hb o e=>upo b o (λz=>DnF (z ▸ hb)) e,J3,K2,up,va.append (.cons ry .nil),((e5.trans e7).trans e9).trans e10,R10,((da.mono e7).mono e9).mono e10 |>.append (.cons qy .nil),hl5,by rw[Uo,T3];omega,by omega⟩⟩
 exact codeAny_compStart_list (loop _ rfl) (T.self _ 0 _ _ _ st4 (loop _ rfl))
end
section
variable{X:Cx}{ca:Nat->Addr}
theorem Dz{K:Frag}{Φ:XS}{σ:L2.St}{Q:VK}{H:Hp}{μ:List Addr}{mi:MI}{no:Nat}{cap:List Nat}{f:MG}{tc:MT}{me:ME}{σ3:S3}{g:G}(p:Post K ca Φ σ Q H μ (ZQ mi no cap f tc me σ3 g)):
  ∃src g1 ds g2,mi σ3 g=.ok src g1/\src.top<=SZ/\Jd src f tc me (src.top+1) 0 (CQ no cap σ3) g1 []=.ok ds g2/\Post K ca Φ σ Q H μ (.ok (.ref g2.length) (g2++[.lst ds])):=by
 unfold ZQ at p;cases hm:mi σ3 g with
 |raise _ _=>rw[hm]at p;exact p.elim|stuck=>rw[hm]at p;exact p.elim|ok src g1=>
  rw[hm]at p;dsimp only at p;by_cases hz:src.top<=SZ
  ·rw[Uc hz]at p;cases hL:Jd src f tc me (src.top+1) 0 (CQ no cap σ3) g1 []with
   |raise _ _=>rw[hL]at p;exact p.elim|stuck=>rw[hL]at p;exact p.elim|ok ds g2=>rw[hL]at p;exact⟨src,g1,ds,g2,rfl,hz,hL,p⟩
  ·rw[Uh hz]at p;exact p.elim
theorem XC{tg iter elt:Expr}{ifs:List Expr}{scope:Scope}{pos:Pos}{Nb:List Str}{no:Nat}{cap:List Nat}{mi:MI}{f:MG}{tc:MT}{me:ME}(B:BScope X scope Nb no cap)(hc:X.calm=true)(hi:eD ca X tg iter mi)(hb:∀cl C s3 H3 ex,dZ ca (GW X scope cl C Nb s3 H3 ex) tg f/\oI ca (GW X scope cl C Nb s3 H3 ex) ifs tc/\Za ca (GW X scope cl C Nb s3 H3 ex) elt me)(hs:∀x,foldedSetIterable iter X.env x=pure x:=by intro _;rfl):Za ca X (.ListComp elt [⟨tg,iter,ifs,0⟩] scope pos) (ZQ mi no cap f tc me):=by
 intro pn Φ pins s σ H Q I' ⟨σ3,g,μ,R,p⟩;obtain⟨src,g1,ds,g2,hm,hz,hL,p⟩:=Dz p;have I:Inv (Zi X ca pn F0) pins σ H s:=Inv.wish I' _;suffices hh:wpAny (model X.prog X.w) X.A (eval (.ListComp elt [⟨tg,iter,ifs,0⟩] scope pos) X.env) (EP (Zi X ca pn F0) pins σ Q) (λ_ _=>False) s from
  Tl hh (λu s' ⟨v,H',J,r,q⟩=>⟨v,H',Inv.wish J _,r,q⟩) λ_ _ z=>z.elim
 obtain⟨cl,hcl⟩:=Cp (cells:=X.env.cells) scope.names [] λy hy hf=>I.ok.has y.1 (B.free y hy hf);rw[eval_ListComp];refine wpAny_comprehension_free (env:=X.env) (use:=none) rfl hs (CK hcl) B.kind B.loc ?_;refine Ja (iI (hi pn F0 pins s σ H (λJ H'=>∃μ',Ext X.K μ H μ' H'/\GRep X.K ca μ' H' g1/\cR X.K ca μ' H' src J) I ⟨σ3,g,μ,R,?_⟩)) λv s1 h1=>Ja (iI h1) λitv s2 h2=>?_
 ·rw[hm];exact λJ H' μ' e r sm=>⟨μ',e,r,sm⟩
 ·obtain⟨it,fp,tn,J,H2,e,I2,T,st2,f2,μ2,e2,r2,sim⟩:=h2;subst e;refine IP (X:=X) (pn:=pn) (RR:=λacc C=>compPost (model X.prog X.w) X.A (λ_ _=>False) none (EP (Zi X ca pn F0) pins σ Q) acc C) B hc hb hcl I2 T st2 f2 (R.go e2 r2) sim hz hL ?_;intro D C s' H4 μ4 accV its k I4 nsC fC fD dc hD va hl e4 r4 da;obtain⟨m,nsC⟩:=nsC;refine⟨m,nsC,λh'' hs''=>?_⟩;have I5:Inv (Zi X ca pn F0) pins σ H4 {s' with heap:=h''}:=I4.turned (t':=s'.toks) (λb o hb e=>hs''.extBut b o hb e) fC.1 fC.2.1 fC.2.2.2.1 fC.2.2.2.2.1 fC.2.2.2.2.2;have hD':=hs''.extBut _ _ dc hD;have I6:=Inv.track (o:=.lst accV) I5 fD ⟨hl,its,k,va,hD'⟩;refine⟨.ref D,_,I6,rfl,p _ _ (μ4++[D]) ((e2.trans e4).trans (ZI fD.1)) (r4.push fD.1 ⟨accV,Q6,da.mono (ZI fD.1)⟩) (.ref ?_)⟩;rw[<-r4.len];simp
theorem Kp(i:Nat){x:Str}{py spos:Pos}{tg iter elt:Expr}{ifs:List Expr}{scope:Scope}{pos:Pos}{Nb:List Str}{no:Nat}{cap:List Nat}{mi:MI}{f:MG}{tc:MT}{me:ME}(hN:X.N.Nodup)(B:BScope X scope Nb no cap)(hc:X.calm=true)(hi:eD ca X tg iter mi)(hb:∀cl C s3 H3 ex,dZ ca (GW X scope cl C Nb s3 H3 ex) tg f/\oI ca (GW X scope cl C Nb s3 H3 ex) ifs tc/\Za ca (GW X scope cl C Nb s3 H3 ex) elt me)(hs:∀x,foldedSetIterable iter X.env x=pure x:=by intro _;rfl)(hn:X.N[i]?=some x:=by rfl)(hx:Loc X.env.scope x:=by first|exact Or.inl rfl|exact Or.inr rfl)(hf:X.fn x=true\/X.env.scope.names.lookup x=some .local:=by first|exact .inl rfl|exact .inr rfl)(hsw:swapsWith (.ListComp elt [⟨tg,iter,ifs,0⟩] scope pos) (some (.Name x py)) spos.line X.env=pure true:=by rfl):
  Mv ca X (.Assign [.Name x py] (.ListComp elt [⟨tg,iter,ifs,0⟩] scope pos) spos) (QF (Qn i) (ZQ mi no cap f tc me)):=by
 intro pn Φ pins s σ H En I' ⟨σ3,g,μ,R,p⟩;have pp:∃src g1 ds g2,mi σ3 g=.ok src g1/\src.top<=SZ/\Jd src f tc me (src.top+1) 0 (CQ no cap σ3) g1 []=.ok ds g2/\PostS X.K ca Φ En H μ (.nx (σ3.set i (some (.ref g2.length))) (g2++[.lst ds])):=by
  unfold QF ZQ Qn at p;cases hm:mi σ3 g with
  |raise _ _=>rw[hm]at p;exact p.elim|stuck=>rw[hm]at p;exact p.elim|ok src g1=>
   rw[hm]at p;dsimp only at p;by_cases hz:src.top<=SZ
   ·rw[Uc hz]at p;cases hL:Jd src f tc me (src.top+1) 0 (CQ no cap σ3) g1 []with
    |raise _ _=>rw[hL]at p;exact p.elim|stuck=>rw[hL]at p;exact p.elim|ok ds g2=>rw[hL]at p;exact⟨src,g1,ds,g2,rfl,hz,hL,p⟩
   ·rw[Uh hz]at p;exact p.elim
 obtain⟨src,g1,ds,g2,hm,hz,hL,p⟩:=pp;have I:Inv (Zi X ca pn F0) pins σ H s:=Inv.wish I' _;suffices hh:wpAny (model X.prog X.w) X.A (exec (.Assign [.Name x py] (.ListComp elt [⟨tg,iter,ifs,0⟩] scope pos) spos) X.env) (SP (Zi X ca pn F0) pins En) (λ_ _=>False) s from
  Tl hh (λu s' z=>SP.unwish (X:=Zi X ca pn Φ) (E:=(Zi X ca pn F0).xe) z) λ_ _ z=>z.elim
 obtain⟨cl,hcl⟩:=Cp (cells:=X.env.cells) scope.names [] λy hy hf=>I.ok.has y.1 (B.free y hy hf);rw[exec_Assign_Name_used _ _ _ _ hsw];refine Ub (wpAny_standAt (Ub ?_));show wpAny _ _ (do let _ <-comprehension (.ListComp elt [⟨tg,iter,ifs,0⟩] scope pos) scope X.env _ (newList []) false (eval iter X.env) (some (assign (.Name x py) X.env))) _ _ s;refine Ub (Tl (wpAny_comprehension_free (env:=X.env) (use:=some (assign (.Name x py) X.env)) (Q:=λ_ s'=>SP (Zi X ca pn F0) pins En .next s') rfl hs (CK hcl) B.kind B.loc ?_) (λ_ s' hq=>Us (Us hq)) λ_ _ e=>e);refine Ja (iI (hi pn F0 pins s σ H (λJ H'=>∃μ',Ext X.K μ H μ' H'/\GRep X.K ca μ' H' g1/\cR X.K ca μ' H' src J) I ⟨σ3,g,μ,R,?_⟩)) λv s1 h1=>Ja (iI h1) λitv s2 h2=>?_
 ·rw[hm];exact λJ H' μ' e r sm=>⟨μ',e,r,sm⟩
 ·obtain⟨it,fp,tn,J,H2,e,I2,T,st2,f2,μ2,e2,r2,sim⟩:=h2;subst e;refine IP (X:=X) (pn:=pn) (RR:=λacc C=>compPost (model X.prog X.w) X.A (λ_ _=>False) (some (assign (.Name x py) X.env)) (λ_ s'=>SP (Zi X ca pn F0) pins En .next s') acc C) B hc hb hcl I2 T st2 f2 (R.go e2 r2) sim hz hL ?_;intro D C s' H4 μ4 accV its k I4 nsC fC fD dc hD va hl e4 r4 da;obtain⟨m,oC,es,ep,hoC,hdC,kk⟩:=nsC;have I4':Inv (Zi X ca pn F0) (pins++[(C,oC)]) σ H4 s':=I4.pins_of λq hq=>by
   rcases UG.mp hq with z|z
   ·exact I4.pin q (UI _ z)
   ·rw[Uf.mp z];exact⟨hoC,fC.1,fC.2.1,fC.2.2.1,λv w=>by rw[show oC.data=_ from hdC]at w;cases w⟩
  have fD':FpOk (Zi X ca pn F0) (pins++[(C,oC)]) H4 D:=⟨fD.1,fD.2.1,fD.2.2.1,fD.2.2.2.1,fD.2.2.2.2.1,λq hq=>by
   rcases UG.mp hq with z|z
   ·exact fD.2.2.2.2.2 q (Ts _ z)
   ·rcases UG.mp z with z|z
    ·exact fD.2.2.2.2.2 q (UI _ z)
    ·rw[Uf.mp z];exact Ne.symm dc⟩
  have I6:=Inv.track (o:=.lst accV) I4' fD' ⟨hl,its,k,va,hD⟩;show wpAny (model X.prog X.w) X.A (assign (.Name x py) X.env (.ref D)) _ _ s';refine wpAny_assign_Name (GJ (X:=Zi X ca pn F0) I6 hN hn hx (v:=.ref D) rfl (λs'' I7=>?_) hf);have pC:=I7.pin (C,oC) (UI _ (UI _ (Uf.mpr rfl)));refine⟨m,⟨oC,es,ep,pC.1,hdC,kk⟩,λh'' hs''=>?_⟩;have I8:Inv (Zi X ca pn F0) pins (σ.set i (some (.ref D))) (Ji H4 D (.lst accV)) {s'' with heap:=h''}:=(I7.pins_of (pins':=pins) λq hq=>I7.pin q (UI _ (Ts _ hq))).turned (t':=s''.toks) (λb o hb e=>hs''.extBut b o hb e) (by rw[Q9 (Ne.symm dc)];exact fC.1) fC.2.1 fC.2.2.2.1 fC.2.2.2.2.1 fC.2.2.2.2.2
  refine⟨_,_,I8,p _ _ (μ4++[D]) ((e2.trans e4).trans (ZI fD.1)) (Rep.set ((R.go (e2.trans e4) r4).go (ZI fD.1) (r4.push (o:=.lst accV) (u:=.lst ds) fD.1 ⟨accV,Q6,da.mono (ZI fD.1)⟩)) (.ref ?_) i)⟩;rw[<-r4.len];simp
end
section
variable{X:Cx}{ca:Nat->Addr}{a b:Expr}{ma mb:ME}{pos:Pos}
theorem DA:OpR X (binaryOp .Add) (λx y H Q=>∃a b ys,x=.ref a/\y=.ref b/\SqT X.K H a []/\SqT X.K H b ys/\Q (.ref b) H):=by
 intro pins s σ H x y v u Q I rx ry h;obtain⟨a,b,ys,rfl,rfl,ha,hb,q⟩:=h;cases rx;cases ry;obtain⟨us,r1,p1,_⟩:=I.tuple ha;obtain⟨ts,r2,p2,_⟩:=I.tuple hb;cases r1;obtain⟨⟨cls,dd,data,sl⟩,ho,hc,n,hd⟩:=id p1;obtain⟨⟨cls2,dd2,data2,sl2⟩,ho2,hc2,n2,hd2⟩:=id p2;simp only at hc hd hc2 hd2;subst hc hd hc2 hd2;exact concat_meets ⟨_,ho,rfl⟩ ⟨_,ho2,rfl⟩ WD seq_tuple_add Rz Rs (Rj _ _)
   (tuple_addW0 a b _ _ n n2 dd dd2 sl sl2 (by simp)) ⟨ho,ho2,⟨.ref b,H,I,rfl,q⟩⟩
theorem DB{K:Frag}:JK K ca (λx y H Q=>(((∃i j,x=.int i/\y=.int j/\Q (.int (i+j)) H)\/iB K x y H Q)\/oA x y H Q)\/(∃a b ys,x=.ref a/\y=.ref b/\SqT K H a []/\SqT K H b ys/\Q (.ref b) H)) QD:=by
 intro Φ σ H μ g x y dx dy Q r qx qy p;unfold QD at p;cases qx with
 |int i=>
  cases qy with
  |int j=>exact .inl (.inl (.inl ⟨i,j,rfl,rfl,p _ H μ .refl r (.int _)⟩))|_=>exact p.elim
 |@tup ax xs dsx hx hsx=>
  cases qy with
  |@tup ay ys dsy hy hsy=>
   dsimp only at p;by_cases z:dsx.length+dsy.length<=SZ
   ·rw[Uc z]at p;by_cases hx0:dsx=[]
    ·subst hx0;cases hsx;exact .inr ⟨ax,ay,ys,rfl,rfl,hx,hy,p _ H μ .refl r (.tup hy hsy)⟩
    ·refine .inl (.inl (.inr ⟨ax,ay,xs,ys,rfl,rfl,hx,hy,?_,by rw[hsx.length,hsy.length];exact Up z XV,λe=>?_,λ_ t ht=>p _ _ μ (ZU ht) (r.new ht) (.tup (.of Q6) ((hsx.append hsy).mono (ZU ht)))⟩))
     ·rintro rfl;cases hsx;exact hx0 rfl
     ·subst e;cases hsy;rw[U0]at p;exact p _ H μ .refl r (.tup hx hsx)
   ·rw[Uh z]at p;exact p.elim
  |_=>exact p.elim
 |@ref n an hn=>
  cases qy with
  |@ref m am hm=>
   dsimp only at p;cases hg:g[n]? with
   |none=>rw[hg]at p;exact p.elim|some o=>
    cases hg2:g[m]? with
    |none=>rw[hg,hg2]at p;cases o<;>exact p.elim|some o2=>
     rw[hg,hg2]at p;obtain⟨a1,ha1,or1⟩:=r.addr hg;obtain⟨a2,ha2,or2⟩:=r.addr hg2;rw[hn]at ha1;cases ha1;rw[hm]at ha2;cases ha2;cases o with
     |lst xs=>
      cases o2 with
      |lst ys=>
       dsimp only at p;obtain⟨vs,hH,q⟩:=or1;obtain⟨ws,hH2,q2⟩:=or2;by_cases z:xs.length+ys.length<=SZ
       ·rw[Uc z]at p;refine .inl (.inr ⟨an,am,vs,ws,rfl,rfl,hH,hH2,by rw[q.length,q2.length];exact Up z XV,λt ht=>p _ _ (μ++[t]) (ZI ht) (r.push ht ⟨_,Q6,(q.append q2).mono (ZI ht)⟩) (.ref ?_)⟩);rw[<-r.len];simp
       ·rw[Uh z]at p;exact p.elim
      |_=>exact p.elim
     |_=>cases o2<;>exact p.elim
  |_=>exact p.elim
 |_=>cases qy<;>exact p.elim
theorem QL(ha:Za ca X a ma)(hb:Za ca X b mb):Za ca X (.BinOp a .Add b pos) (Qe QD ma mb):=MN (λ_ _=>((op_add.or dQ).or kN).or DA) DB ha hb
theorem Pw{K:Frag}{C:Int->Int->Prop}{h:Int->Int->V}{f:D->D->G->Res D}(hf:∀Φ σ i j g Q H μ,GRep K ca μ H g->Post K ca Φ σ Q H μ (f (.int i) (.int j) g)->C i j/\Q (h i j) H)(hn:∀Φ σ x y g Q H μ,Post K ca Φ σ Q H μ (f x y g)->∃i j,x=.int i/\y=.int j):JK K ca (rI C h) f:=by intro Φ σ H μ g x y dx dy Q r qx qy p;obtain⟨i,j,rfl,rfl⟩:=hn Φ σ dx dy g Q H μ p;cases qx;cases qy;obtain⟨c,q⟩:=hf Φ σ i j g Q H μ r p;exact⟨i,j,rfl,rfl,c,q⟩
theorem MU{K:Frag}{h:Int->Int->V}{f:D->D->G->Res D}(hf:∀Φ σ i j g Q H μ,GRep K ca μ H g->Post K ca Φ σ Q H μ (f (.int i) (.int j) g)->Q (h i j) H)(hn:∀Φ σ x y g Q H μ,Post K ca Φ σ Q H μ (f x y g)->∃i j,x=.int i/\y=.int j):JK K ca (cN h) f:=by intro Φ σ H μ g x y dx dy Q r qx qy p;obtain⟨i,j,rfl,rfl⟩:=hn Φ σ dx dy g Q H μ p;cases qx;cases qy;exact⟨i,j,rfl,rfl,hf Φ σ i j g Q H μ r p⟩
theorem EI{K:Frag}{f:D->D->G->Res D}(h:∀x y g,(∃i j,x=D.int i/\y=D.int j)\/f x y g=.stuck)(Φ:XS)(σ:L2.St)(x y:D)(g:G)(Q:VK)(H:Hp)(μ:List Addr)(p:Post K ca Φ σ Q H μ (f x y g)):∃i j,x=.int i/\y=.int j:=by
 rcases h x y g with z|z
 ·exact z
 ·rw[z]at p;exact p.elim
theorem VX(ha:Za ca X a ma)(hb:Za ca X b mb):Za ca X (.BinOp a .Sub b pos) (Qe VS ma mb):=MN (λ_ _=>jZ) (MU (λΦ σ i j g Q H μ r p=>p _ H μ .refl r (.int _)) (EI λx y g=>by cases x<;>cases y<;>first|exact .inl ⟨_,_,rfl,rfl⟩|exact .inr rfl)) ha hb
theorem Y3(ha:Za ca X a ma)(hb:Za ca X b mb):Za ca X (.BinOp a .FloorDiv b pos) (Qe Yw ma mb):=
 MN (λ_ _=>dE) (Pw (λΦ σ i j g Q H μ r p=>by
  unfold Yw at p;by_cases z:0<j/\j<1073741824
  ·dsimp only at p;rw[Uc z]at p;exact⟨z,p _ H μ .refl r (.int _)⟩
  ·dsimp only at p;rw[Uh z]at p;exact p.elim) (EI λx y g=>by cases x<;>cases y<;>first|exact .inl ⟨_,_,rfl,rfl⟩|exact .inr rfl)) ha hb
theorem Yh(ha:Za ca X a ma)(hb:Za ca X b mb):Za ca X (.BinOp a .Mod b pos) (Qe Z0 ma mb):=
 MN (λ_ _=>kA) (Pw (λΦ σ i j g Q H μ r p=>by
  unfold Z0 at p;by_cases z:0<j
  ·dsimp only at p;rw[Uc z]at p;exact⟨z,p _ H μ .refl r (.int _)⟩
  ·dsimp only at p;rw[Uh z]at p;exact p.elim) (EI λx y g=>by cases x<;>cases y<;>first|exact .inl ⟨_,_,rfl,rfl⟩|exact .inr rfl)) ha hb
theorem Dens.rep{K:Frag}{μ:List Addr}{H:Hp}{vs:List V}{ds:List D}(h:Dens K μ H vs ds):∀k:Nat,Dens K μ H (List.replicate k vs).flatten (List.replicate k ds).flatten
 |0=>.nil|k+1=>by rw[UX,UX,Tu,Tu];exact h.append (Dens.rep h k)
theorem DC{K:Frag}:JK K ca (λx y H Q=>(∃i j,x=.int i/\y=.int j/\(cM i\/cM j)/\Q (.int (i*j)) H)\/iE K x y H Q) Xy:=by
 intro Φ σ H μ g x y dx dy Q r qx qy p;unfold Xy at p;cases qx with
 |int i=>
  cases qy with
  |int j=>
   dsimp only at p;by_cases z:cM i\/cM j
   ·rw[Uc z]at p;exact .inl ⟨i,j,rfl,rfl,z,p _ H μ .refl r (.int _)⟩
   ·rw[Uh z]at p;exact p.elim
  |_=>exact p.elim
 |@tup ax xs ds hx hsx=>
  cases qy with
  |int k=>
   dsimp only at p;by_cases z:(0<=k/\k<1073741824)/\ds.length*k.toNat<=SZ
   ·rw[Uc z]at p;refine .inr ⟨ax,k,xs,rfl,rfl,hx,z.1.1,by omega,by rw[hsx.length];exact Up z.2 XV,λe=>?_,λ_ _ t ht=>p _ _ μ (ZU ht) (r.new ht) (.tup (.of Q6) ((hsx.rep k.toNat).mono (ZU ht)))⟩;have e2:(List.replicate k.toNat ds).flatten=ds:=by
     rcases e with e|e
     ·subst e;cases hsx;simp
     ·subst e;simp
    rw[e2]at p;exact p _ H μ .refl r (.tup hx hsx)
   ·rw[Uh z]at p;exact p.elim
  |_=>exact p.elim
 |_=>cases qy<;>exact p.elim
theorem BI(ha:Za ca X a ma)(hb:Za ca X b mb):Za ca X (.BinOp a .Mult b pos) (Qe Xy ma mb):=MN (λ_ _=>op_mul.or dX) DC ha hb
theorem J4(ha:Za ca X a ma):Za ca X (.UnaryOp .USub a pos) (Qv Jy ma):=
 sT (λ_ _=>kB) (λΦ σ H μ g x dx Q r qx p=>by
  cases qx with
  |int i=>exact⟨i,rfl,p _ H μ .refl r (.int _)⟩|_=>exact p.elim) ha
theorem X8{K:Frag}(r:Int->Int->Bool):JK K ca (cN λi j=>.bl (r i j)) (ST r):=MU (λΦ σ i j g Q H μ r p=>p _ H μ .refl r (.bl _)) (EI λx y g=>by cases x<;>cases y<;>first|exact .inl ⟨_,_,rfl,rfl⟩|exact .inr rfl)
theorem sW(ha:Za ca X a ma)(hb:Za ca X b mb):Za ca X (.Compare a [.Lt] [b] pos) (Qe Fd ma mb):=GU (λ_ _=>Dd) (X8 _) ha hb (XA b)
theorem kZ(ha:Za ca X a ma)(hb:Za ca X b mb):Za ca X (.Compare a [.Gt] [b] pos) (Qe Lx ma mb):=GU (λ_ _=>hV) (X8 _) ha hb (XA b)
theorem sX(ha:Za ca X a ma)(hb:Za ca X b mb):Za ca X (.Compare a [.GtE] [b] pos) (Qe dY ma mb):=GU (λ_ _=>hW) (X8 _) ha hb (XA b)
theorem F6(ha:Za ca X a ma)(hb:Za ca X b mb):GA ca X (.Compare a [.Lt] [b] pos) (Qo (Qe Fd ma mb)):=XU (λ_ _=>Dd) (X8 _) ha hb (XA b)
theorem Px(ha:Za ca X a ma)(hb:Za ca X b mb):GA ca X (.Compare a [.Gt] [b] pos) (Qo (Qe Lx ma mb)):=XU (λ_ _=>hV) (X8 _) ha hb (XA b)
theorem Py(ha:Za ca X a ma)(hb:Za ca X b mb):GA ca X (.Compare a [.GtE] [b] pos) (Qo (Qe dY ma mb)):=XU (λ_ _=>hW) (X8 _) ha hb (XA b)
end
section
variable{X:Cx}{ca:Nat->Addr}{pins:Xw}{σ:L2.St}{H:Hp}{s:Shared}{μ:List Addr}{g:G}
theorem BJ:∀(xs ys:List D)(b:Bool),Jk eq xs ys=some b->∃e:Nat->Bool,(∀(j:Nat)(x y:D),xs[j]?=some x->ys[j]?=some y->eq x y=some (e j))/\b=((List.range (min xs.length ys.length)).all e&&(xs.length==ys.length))
 |[],[],b,h=>by cases h;exact⟨λ_=>true,λj x y h=>by simp at h,by simp⟩
 |[],_::ys,b,h=>by cases h;exact⟨λ_=>true,λj x y h=>by simp at h,by simp⟩
 |_::xs,[],b,h=>by cases h;exact⟨λ_=>true,λj x y _ h=>by simp at h,by simp⟩
 |x::xs,y::ys,b,h=>by
  unfold Jk at h;cases h1:eq x y with
  |none=>rw[h1]at h;cases h|some c=>
   cases h2:Jk eq xs ys with
   |none=>rw[h1,h2]at h;cases h|some d=>
    rw[h1,h2]at h;cases h;obtain⟨e,e1,e2⟩:=BJ xs ys d h2;refine⟨λj=>match j with|0=>c|j+1=>e j,λj x' y' hx hy=>?_,?_⟩
    ·cases j with
     |zero =>simp at hx hy;subst hx hy;exact h1|succ j =>simp at hx hy;exact e1 j x' y' hx hy
    ·rw[Uy,Uy,Nat.add_min_add_right,List.range_succ_eq_map,T5,List.all_map,e2];simp[Function.comp_def,Bool.and_assoc]
theorem EJ{A:Around}{eq:D->D->Option Bool}{vs ws:List V}{ds es:List D}{us ts:List Value}{e:Nat->Bool}(qv:Dens X.K μ H vs ds)(qw:Dens X.K μ H ws es)(rv:Vals vs us)(rw':Vals ws ts)(he:∀(j:Nat) (x y:D),ds[j]?=some x->es[j]?=some y->eq x y=some (e j))(ih:∀{v w:V} {d d':D} {u t:Value} {b:Bool},Den X.K μ H v d->Den X.K μ H w d'->RelV v u->RelV w t->eq d d'=some b->SeqAt.EqAt A s u t b):
  ∀(j:Nat)(h1:j<us.toArray.size)(h2:j<ts.toArray.size),SeqAt.EqAt A s us.toArray[j] ts.toArray[j] (e j):=by
 intro j h1 h2;have l1:j<us.length:=by simpa using h1
 have l2:j<ts.length:=by simpa using h2
 have l3:j<vs.length:=by rw[rv.length];exact l1
 have l4:j<ws.length:=by rw[rw'.length];exact l2
 obtain⟨x,hx,qx⟩:=qv.getV (i:=j) (v:=vs[j]) (by simp[l3]);obtain⟨y,hy,qy⟩:=qw.getV (i:=j) (v:=ws[j]) (by simp[l4]);obtain⟨u,hu,ru⟩:=rv.get (i:=j) (x:=vs[j]) (by simp[l3]);obtain⟨t,ht,rt⟩:=rw'.get (i:=j) (x:=ws[j]) (by simp[l4]);have eu:us.toArray[j]=u:=by
  have:us[j]?=some us[j]:=by simp[l1]
  rw[this]at hu;simpa using hu
 have et:ts.toArray[j]=t:=by
  have:ts[j]?=some ts[j]:=by simp[l2]
  rw[this]at ht;simpa using ht
 rw[eu,et];exact ih qx qy ru rt (he j x y hx hy)
theorem Pz{A:Around}{eq:D->D->Option Bool}{a c:Addr}{vs ws:List V}{ds es:List D}{b:Bool}(hu:A.units<cLine)(I:Inv X pins σ H s)(h1:SqT X.K H a vs)(q1:Dens X.K μ H vs ds)(h2:SqT X.K H c ws)(q2:Dens X.K μ H ws es)(ih:∀{v w:V} {d d':D} {u t:Value} {b:Bool},Den X.K μ H v d->Den X.K μ H w d'->RelV v u->RelV w t->eq d d'=some b->SeqAt.EqAt A.in1 s u t b)(h:Jk eq ds es=some b):SeqAt.RcAt A s (.ref a) (.ref c) b:=by
 obtain⟨us,r1,p1,_⟩:=I.tuple h1;obtain⟨ts,r2,p2,_⟩:=I.tuple h2;obtain⟨e,e1,e2⟩:=BJ ds es b h;have q:=SeqAt.RcAt.tuples (A:=A) p1 p2 hu (e:=e) (EJ q1 q2 r1 r2 e1 ih);have l1:us.toArray.size=ds.length:=by rw[Ug,<-r1.length,q1.length]
 have l2:ts.toArray.size=es.length:=by rw[Ug,<-r2.length,q2.length]
 rw[l1,l2]at q;rw[e2];exact q
theorem PB{A:Around}{eq:D->D->Option Bool}{a c:Addr}{vs ws:List V}{ds es:List D}{b:Bool}(hu:A.units<cLine)(I:Inv X pins σ H s)(h1:SqL X.K H a vs)(q1:Dens X.K μ H vs ds)(h2:SqL X.K H c ws)(q2:Dens X.K μ H ws es)(ih:∀{v w:V} {d d':D} {u t:Value} {b:Bool},Den X.K μ H v d->Den X.K μ H w d'->RelV v u->RelV w t->eq d d'=some b->SeqAt.EqAt A.in1 s u t b)(h:(if ds.length=es.length then Jk eq ds es else some false)=some b):SeqAt.RcAt A s (.ref a) (.ref c) b:=by
 obtain⟨us,r1,p1,_⟩:=I.list h1;obtain⟨ts,r2,p2,_⟩:=I.list h2;have l1:us.toArray.size=ds.length:=by rw[Ug,<-r1.length,q1.length]
 have l2:ts.toArray.size=es.length:=by rw[Ug,<-r2.length,q2.length]
 by_cases hl:ds.length=es.length
 ·rw[Uc hl]at h;obtain⟨e,e1,e2⟩:=BJ ds es b h;have q:=SeqAt.RcAt.lists (A:=A) p1.isList p2.isList (by rw[l1,l2,hl]) hu (e:=e) (EJ q1 q2 r1 r2 e1 ih);rw[l1]at q;rw[e2,<-hl,Nat.min_self];simpa using q
 ·rw[Uh hl]at h;cases h;exact SeqAt.RcAt.lists_lengths p1.isList p2.isList (by rw[l1,l2];simpa using hl) hu
theorem GX(I:Inv X pins σ H s)(r:GRep X.K ca μ H g):∀(f:Nat){v:V}{d e:D}{b:Bool},Den X.K μ H v d->Den X.K μ H v e->Vk g f d e=some b->b=true
 |0,v,d,e,b,h1,h2,h=>by cases h
 |f+1,v,d,e,b,h1,h2,h=>by
  have key:∀{vs:List V}{ds es:List D}{b:Bool},Dens X.K μ H vs ds->Dens X.K μ H vs es->Jk (Vk g f) ds es=some b->b=true:=by
   intro vs;induction vs with
   |nil=>intro ds es b a1 a2 a3;cases a1;cases a2;cases a3;rfl|cons w ws ih=>
    intro ds es b a1 a2 a3;cases a1 with
    |cons c1 c2=>cases a2 with
     |cons c3 c4=>
      rename_i x xs y ys;unfold Jk at a3;cases h1:Vk g f x y with
      |none=>rw[h1]at a3;cases a3|some b1=>
       cases h2:Jk (Vk g f) xs ys with
       |none=>rw[h1,h2]at a3;cases a3|some b2 =>rw[h1,h2]at a3;cases a3;rw[GX I r f c1 c3 h1,ih c2 c4 h2];rfl
  have hidx:∀{n m:Nat}{a:Addr},μ[n]?=some a->μ[m]?=some a->n=m:=λ{n m a} x1 x2=>by obtain⟨l1,e1⟩:=Ui.mp x1;obtain⟨l2,e2⟩:=Ui.mp x2;exact(WC r.nd).mp (e1.trans e2.symm)
  cases h1 with
  |non=>cases h2;cases h;rfl|bl a=>cases h2;cases h;simp|int i=>cases h2;cases h;simp|str i=>cases h2;cases h;simp|tup t1 q1=>
   cases h2 with
   |tup t2 q2 =>have ev:=I.tuple_inj t1 t2;subst ev;exact key q1 q2 h|ref hm =>
    exfalso;unfold Vk at h;dsimp only[SU]at h;rename_i m;cases hg:g[m]? with
    |none=>rw[hg]at h;cases h|some o=>
     cases o with
     |lst xs =>obtain⟨b2,hb2,ob2⟩:=r.addr hg;rw[hm]at hb2;cases hb2;obtain⟨vs,hH,_⟩:=ob2;obtain⟨_,_,p1,_⟩:=I.tuple t1;obtain⟨_,_,p2,_⟩:=I.list (.of hH);exact SeqAt.ne_of_list_tuple p2.isList p1 rfl|_=>rw[hg]at h;cases h
   |_=>cases h
  |@ref n a hn=>
   cases h2 with
   |@ref m _ hm=>
    have e:=hidx hn hm;subst e;unfold Vk at h;dsimp only at h;cases hg:g[n]? with
    |none=>rw[hg]at h;cases h|some o=>
     rw[hg]at h;cases o with
     |lst xs =>dsimp only at h;rw[Uc rfl]at h;obtain⟨b2,hb2,ob2⟩:=r.addr hg;rw[hn]at hb2;cases hb2;obtain⟨vs,hH,q⟩:=ob2;exact key q q h|_=>cases h
   |tup t2 q2=>
    exfalso;unfold Vk at h;dsimp only[SU]at h;cases hg:g[n]? with
    |none=>rw[hg]at h;cases h|some o=>
     cases o with
     |lst xs =>obtain⟨b2,hb2,ob2⟩:=r.addr hg;rw[hn]at hb2;cases hb2;obtain⟨vs,hH,_⟩:=ob2;obtain⟨_,_,p1,_⟩:=I.tuple t2;obtain⟨_,_,p2,_⟩:=I.list (.of hH);exact SeqAt.ne_of_list_tuple p2.isList p1 rfl|_=>rw[hg]at h;cases h
   |_=>cases h
  |fl _ _=>cases e<;>cases h
theorem ZO(r:GRep X.K ca μ H g)(I:Inv X pins σ H s)(hn:μ[n]?=some a)(h:SU g n=some b):b=false/\∃items,s.heap.IsList a items:=by
 unfold SU at h;cases hg:g[n]? with
 |none=>rw[hg]at h;cases h|some o=>
  rw[hg]at h;cases o with
  |lst xs =>cases h;obtain⟨b2,hb2,ob2⟩:=r.addr hg;rw[hn]at hb2;cases hb2;obtain⟨vs,hH,_⟩:=ob2;obtain⟨us,_,p2,_⟩:=I.list (.of hH);exact⟨rfl,_,p2.isList⟩|_=>cases h
theorem GY(r:GRep X.K ca μ H g){f n m:Nat}{a c:Addr}{b:Bool}(hn:μ[n]?=some a)(hm:μ[m]?=some c)(h:Vk g (f+1) (.ref n) (.ref m)=some b):
  ∃vs ws ds es,SqL X.K H a vs/\Dens X.K μ H vs ds/\SqL X.K H c ws/\Dens X.K μ H ws es/\(if ds.length=es.length then Jk (Vk g f) ds es else some false)=some b:=by
 unfold Vk at h;dsimp only at h;cases hg:g[n]? with
 |none=>rw[hg]at h;cases h|some o1=>
  cases hg2:g[m]? with
  |none=>rw[hg,hg2]at h;cases o1<;>cases h|some o2=>
   rw[hg,hg2]at h;obtain⟨b1,hb1,ob1⟩:=r.addr hg;obtain⟨b2,hb2,ob2⟩:=r.addr hg2;rw[hn]at hb1;cases hb1;rw[hm]at hb2;cases hb2;cases o1 with
   |lst xs=>
    cases o2 with
    |lst ys =>obtain⟨vs,hH1,q1⟩:=ob1;obtain⟨ws,hH2,q2⟩:=ob2;exact⟨vs,ws,xs,ys,.of hH1,q1,.of hH2,q2,h⟩|_=>cases h
   |_=>cases o2<;>cases h
theorem GZ(I:Inv X pins σ H s)(r:GRep X.K ca μ H g):∀(f:Nat){A:Around}{v w:V}{d e:D}{u t:Value}{b:Bool},A.units+f<cLine->Den X.K μ H v d->Den X.K μ H w e->RelV v u->RelV w t->Vk g f d e=some b->SeqAt.EqAt A s u t b
 |0,A,v,w,d,e,u,t,b,hu,qv,qw,rv,rw',h=>by cases h
 |f+1,A,v,w,d,e,u,t,b,hu,qv,qw,rv,rw',h=>by
  have hu':A.units<cLine:=by omega
  cases qv with
  |non=>
   cases rv;cases qw with
   |non=>cases rw';cases h;exact RX _|bl c=>cases rw';cases h;exact SeqAt.EqAt.none_bool _|int j=>obtain⟨z,rfl⟩:=rw';cases h;exact SeqAt.EqAt.none_int _ _|str j=>obtain⟨z,rfl⟩:=rw';cases h;exact SeqAt.EqAt.none_str _ _|tup h2 q2=>cases rw';cases h;obtain⟨_,_,p2,_⟩:=I.tuple h2;exact SeqAt.EqAt.none_tuple p2 hu'|ref hm=>cases rw';obtain⟨rfl,_,p⟩:=ZO r I hm h;exact SeqAt.EqAt.none_list p hu'|fl _ _=>cases h
  |bl a=>
   cases rv;cases qw with
   |non=>cases rw';cases h;exact SeqAt.EqAt.bool_none _|bl c=>cases rw';cases h;exact SeqAt.EqAt.bool_bool _ _|int j=>obtain⟨z,rfl⟩:=rw';cases h;exact SeqAt.EqAt.bool_int _ _ _|str j=>obtain⟨z,rfl⟩:=rw';cases h;exact SeqAt.EqAt.bool_str _ _ _|tup h2 q2=>cases rw';cases h;obtain⟨_,_,p2,_⟩:=I.tuple h2;exact SeqAt.EqAt.bool_tuple _ p2 hu'|ref hm=>cases rw';obtain⟨rfl,_,p⟩:=ZO r I hm h;exact SeqAt.EqAt.bool_list _ p hu'|fl _ _=>cases h
  |int i=>
   obtain⟨y,rfl⟩:=rv;cases qw with
   |non=>cases rw';cases h;exact SeqAt.EqAt.int_none _ _|bl c=>cases rw';cases h;exact SeqAt.EqAt.int_bool _ _ _|int j=>obtain⟨z,rfl⟩:=rw';cases h;exact SeqAt.EqAt.int_int _ _ _ _|str j=>obtain⟨z,rfl⟩:=rw';cases h;exact We _ _ _ _|tup h2 q2=>cases rw';cases h;obtain⟨_,_,p2,_⟩:=I.tuple h2;exact SeqAt.EqAt.int_tuple _ _ p2 hu'|ref hm=>cases rw';obtain⟨rfl,_,p⟩:=ZO r I hm h;exact SeqAt.EqAt.int_list _ _ p hu'|fl _ _=>cases h
  |str i=>
   obtain⟨y,rfl⟩:=rv;cases qw with
   |non=>cases rw';cases h;exact SeqAt.EqAt.str_none _ _|bl c=>cases rw';cases h;exact SeqAt.EqAt.str_bool _ _ _|int j=>obtain⟨z,rfl⟩:=rw';cases h;exact Wf _ _ _ _|str j=>obtain⟨z,rfl⟩:=rw';cases h;exact SeqAt.EqAt.str_str _ _ _ _|tup h2 q2=>cases rw';cases h;obtain⟨_,_,p2,_⟩:=I.tuple h2;exact SeqAt.EqAt.str_tuple _ _ p2 hu'|ref hm=>cases rw';obtain⟨rfl,_,p⟩:=ZO r I hm h;exact SeqAt.EqAt.str_list _ _ p hu'|fl _ _=>cases h
  |@tup a1 vs ds h1 q1=>
   cases rv;obtain⟨_,_,p1,_⟩:=id (I.tuple h1);cases qw with
   |non=>cases rw';cases h;exact SeqAt.EqAt.tuple_none p1 hu'|bl c=>cases rw';cases h;exact SeqAt.EqAt.tuple_bool _ p1 hu'|int j=>obtain⟨z,rfl⟩:=rw';cases h;exact SeqAt.EqAt.tuple_int _ _ p1 hu'|str j=>obtain⟨z,rfl⟩:=rw';cases h;exact SeqAt.EqAt.tuple_str _ _ p1 hu'|@tup a2 ws es h2 q2=>
    cases rw';by_cases ea:a1=a2
    ·subst ea;rw[GX I r (f+1) (.tup h1 q1) (.tup h2 q2) h];exact RX _
    ·exact SeqAt.EqAt.of_refs ea (Pz hu' I h1 q1 h2 q2 (λa1 a2 a3 a4 a5=>GZ I r f (by show A.units+1+f<cLine;omega) a1 a2 a3 a4 a5) h)
   |ref hm=>cases rw';obtain⟨rfl,_,p⟩:=ZO r I hm h;exact SeqAt.EqAt.tuple_list p1 p hu'|fl _ _=>cases h
  |@ref n a hn=>
   cases rv;cases qw with
   |non=>cases rw';obtain⟨rfl,_,p⟩:=ZO r I hn h;exact SeqAt.EqAt.list_none p hu'|bl c=>cases rw';obtain⟨rfl,_,p⟩:=ZO r I hn h;exact SeqAt.EqAt.list_bool _ p hu'|int j=>obtain⟨z,rfl⟩:=rw';obtain⟨rfl,_,p⟩:=ZO r I hn h;exact SeqAt.EqAt.list_int _ _ p hu'|str j=>obtain⟨z,rfl⟩:=rw';obtain⟨rfl,_,p⟩:=ZO r I hn h;exact SeqAt.EqAt.list_str _ _ p hu'|tup h2 q2=>cases rw';obtain⟨_,_,p2,_⟩:=I.tuple h2;obtain⟨rfl,_,p⟩:=ZO r I hn h;exact SeqAt.EqAt.list_tuple p p2 hu'|@ref m c hm=>
    cases rw';by_cases ea:a=c
    ·subst ea;rw[GX I r (f+1) (.ref hn) (.ref hm) h];exact RX _
    ·obtain⟨vs,ws,ds,es,h1,q1,h2,q2,h⟩:=GY r hn hm h;exact SeqAt.EqAt.of_refs ea (PB hu' I h1 q1 h2 q2 (λa1 a2 a3 a4 a5=>GZ I r f (by show A.units+1+f<cLine;omega) a1 a2 a3 a4 a5) h)
   |fl _ _=>cases h
  |fl _ _=>cases e<;>cases h
def eI(K:Frag)(ca:Nat->Addr)(neg:Bool):R2:=λx y H Q=>∃(μ:List Addr)(g:G)(d e:D)(b:Bool),GRep K ca μ H g/\Den K μ H x d/\Den K μ H y e/\Vk g 8 d e=some b/\Q (.bl (if neg=true then !b else b)) H
theorem DD(hu:X.A.units+16<cLine):OpR X (compareOp .Eq) (eI X.K ca false):=by
 intro pins s σ H x y u t Q I rv rw' hh;obtain⟨μ,g,d,e,b,r,qv,qw,h,q⟩:=hh;have hu':X.A.units<cLine:=by omega
 have ih:∀{v w:V}{d d':D}{u t:Value}{b:Bool},Den X.K μ H v d->Den X.K μ H w d'->RelV v u->RelV w t->Vk g 7 d d'=some b->SeqAt.EqAt X.A.in1 s u t b:=λa1 a2 a3 a4 a5=>GZ I r 7 (by show X.A.units+1+7<cLine;omega) a1 a2 a3 a4 a5;have go:SeqAt.RcAt X.A s u t (b):=by
  cases qv with
  |non=>
   cases rv;cases qw with
   |non=>cases rw';cases h;exact SeqAt.RcAt.none_none|bl c=>cases rw';cases h;exact SeqAt.RcAt.none_bool _|int j=>obtain⟨z,rfl⟩:=rw';cases h;exact SeqAt.RcAt.none_int _ _|str j=>obtain⟨z,rfl⟩:=rw';cases h;exact SeqAt.RcAt.none_str _ _|tup h2 q2=>cases rw';cases h;obtain⟨_,_,p2,_⟩:=I.tuple h2;exact SeqAt.RcAt.none_tuple p2 hu'|ref hm=>cases rw';obtain⟨rfl,_,p⟩:=ZO r I hm h;exact SeqAt.RcAt.none_list p hu'|fl _ _=>cases h
  |bl a=>
   cases rv;cases qw with
   |non=>cases rw';cases h;exact SeqAt.RcAt.bool_none _|bl c=>cases rw';cases h;exact SeqAt.RcAt.bool_bool _ _|int j=>obtain⟨z,rfl⟩:=rw';cases h;exact SeqAt.RcAt.bool_int _ _ _|str j=>obtain⟨z,rfl⟩:=rw';cases h;exact SeqAt.RcAt.bool_str _ _ _|tup h2 q2=>cases rw';cases h;obtain⟨_,_,p2,_⟩:=I.tuple h2;exact SeqAt.RcAt.bool_tuple _ p2 hu'|ref hm=>cases rw';obtain⟨rfl,_,p⟩:=ZO r I hm h;exact SeqAt.RcAt.bool_list _ p hu'|fl _ _=>cases h
  |int i=>
   obtain⟨y,rfl⟩:=rv;cases qw with
   |non=>cases rw';cases h;exact SeqAt.RcAt.int_none _ _|bl c=>cases rw';cases h;exact SeqAt.RcAt.int_bool _ _ _|int j=>obtain⟨z,rfl⟩:=rw';cases h;exact SeqAt.RcAt.int_int _ _ _ _|str j=>obtain⟨z,rfl⟩:=rw';cases h;exact SeqAt.RcAt.int_str _ _ _ _|tup h2 q2=>cases rw';cases h;obtain⟨_,_,p2,_⟩:=I.tuple h2;exact SeqAt.RcAt.int_tuple _ _ p2 hu'|ref hm=>cases rw';obtain⟨rfl,_,p⟩:=ZO r I hm h;exact SeqAt.RcAt.int_list _ _ p hu'|fl _ _=>cases h
  |str i=>
   obtain⟨y,rfl⟩:=rv;cases qw with
   |non=>cases rw';cases h;exact SeqAt.RcAt.str_none _ _|bl c=>cases rw';cases h;exact SeqAt.RcAt.str_bool _ _ _|int j=>obtain⟨z,rfl⟩:=rw';cases h;exact SeqAt.RcAt.str_int _ _ _ _|str j=>obtain⟨z,rfl⟩:=rw';cases h;exact SeqAt.RcAt.str_str _ _ _ _|tup h2 q2=>cases rw';cases h;obtain⟨_,_,p2,_⟩:=I.tuple h2;exact SeqAt.RcAt.str_tuple _ _ p2 hu'|ref hm=>cases rw';obtain⟨rfl,_,p⟩:=ZO r I hm h;exact SeqAt.RcAt.str_list _ _ p hu'|fl _ _=>cases h
  |tup h1 q1=>
   cases rv;obtain⟨_,_,p1,_⟩:=id (I.tuple h1);cases qw with
   |non=>cases rw';cases h;exact SeqAt.RcAt.tuple_none p1 hu'|bl c=>cases rw';cases h;exact SeqAt.RcAt.tuple_bool _ p1 hu'|int j=>obtain⟨z,rfl⟩:=rw';cases h;exact SeqAt.RcAt.tuple_int _ _ p1 hu'|str j=>obtain⟨z,rfl⟩:=rw';cases h;exact SeqAt.RcAt.tuple_str _ _ p1 hu'|tup h2 q2=>cases rw';exact Pz hu' I h1 q1 h2 q2 ih h|ref hm=>cases rw';obtain⟨rfl,_,p⟩:=ZO r I hm h;exact SeqAt.RcAt.tuple_list p1 p hu'|fl _ _=>cases h
  |@ref n a hn=>
   cases rv;cases qw with
   |non=>cases rw';obtain⟨rfl,_,p⟩:=ZO r I hn h;exact SeqAt.RcAt.list_none p hu'|bl c=>cases rw';obtain⟨rfl,_,p⟩:=ZO r I hn h;exact SeqAt.RcAt.list_bool _ p hu'|int j=>obtain⟨z,rfl⟩:=rw';obtain⟨rfl,_,p⟩:=ZO r I hn h;exact SeqAt.RcAt.list_int _ _ p hu'|str j=>obtain⟨z,rfl⟩:=rw';obtain⟨rfl,_,p⟩:=ZO r I hn h;exact SeqAt.RcAt.list_str _ _ p hu'|tup h2 q2=>cases rw';obtain⟨_,_,p2,_⟩:=I.tuple h2;obtain⟨rfl,_,p⟩:=ZO r I hn h;exact SeqAt.RcAt.list_tuple p p2 hu'|@ref m c hm =>cases rw';obtain⟨vs,ws,ds,es,h1,q1,h2,q2,h⟩:=GY r hn hm h;exact PB hu' I h1 q1 h2 q2 ih h|fl _ _=>cases h
  |fl _ _=>cases e<;>cases h
 exact go _ _ _ _ ⟨.bl _,H,I,rfl,q⟩
theorem S4{A:Around}{eq:D->D->Option Bool}{a c:Addr}{vs ws:List V}{ds es:List D}{b:Bool}(hu:A.units<cLine)(I:Inv X pins σ H s)(h1:SqL X.K H a vs)(q1:Dens X.K μ H vs ds)(h2:SqL X.K H c ws)(q2:Dens X.K μ H ws es)(ih:∀{v w:V} {d d':D} {u t:Value} {b:Bool},Den X.K μ H v d->Den X.K μ H w d'->RelV v u->RelV w t->eq d d'=some b->SeqAt.EqAt A.in1 s u t b)(h:(if ds.length=es.length then Jk eq ds es else some false)=some b):SeqAt.RcNeAt A s (.ref a) (.ref c) (!b):=by
 obtain⟨us,r1,p1,_⟩:=I.list h1;obtain⟨ts,r2,p2,_⟩:=I.list h2;have l1:us.toArray.size=ds.length:=by rw[Ug,<-r1.length,q1.length]
 have l2:ts.toArray.size=es.length:=by rw[Ug,<-r2.length,q2.length]
 by_cases hl:ds.length=es.length
 ·rw[Uc hl]at h;obtain⟨e,e1,e2⟩:=BJ ds es b h;have q:=SeqAt.RcNeAt.lists (A:=A) p1.isList p2.isList (by rw[l1,l2,hl]) hu (e:=e) (EJ q1 q2 r1 r2 e1 ih);rw[l1]at q;rw[e2,<-hl,Nat.min_self];simpa using q
 ·rw[Uh hl]at h;cases h;exact SeqAt.RcNeAt.lists_lengths p1.isList p2.isList (by rw[l1,l2];simpa using hl) hu
theorem S5{A:Around}{eq:D->D->Option Bool}{a c:Addr}{vs ws:List V}{ds es:List D}{b:Bool}(hu:A.units<cLine)(I:Inv X pins σ H s)(h1:SqT X.K H a vs)(q1:Dens X.K μ H vs ds)(h2:SqT X.K H c ws)(q2:Dens X.K μ H ws es)(ih:∀{v w:V} {d d':D} {u t:Value} {b:Bool},Den X.K μ H v d->Den X.K μ H w d'->RelV v u->RelV w t->eq d d'=some b->SeqAt.EqAt A.in1 s u t b)(h:Jk eq ds es=some b):SeqAt.RcNeAt A s (.ref a) (.ref c) (!b):=by
 obtain⟨us,r1,p1,_⟩:=I.tuple h1;obtain⟨ts,r2,p2,_⟩:=I.tuple h2;obtain⟨e,e1,e2⟩:=BJ ds es b h;have q:=SeqAt.RcNeAt.tuples (A:=A) p1 p2 hu (e:=e) (EJ q1 q2 r1 r2 e1 ih);have l1:us.toArray.size=ds.length:=by rw[Ug,<-r1.length,q1.length]
 have l2:ts.toArray.size=es.length:=by rw[Ug,<-r2.length,q2.length]
 rw[l1,l2]at q;rw[e2];exact q
theorem lA(hu:X.A.units+16<cLine):OpR X (compareOp .NotEq) (eI X.K ca true):=by
 intro pins s σ H x y u t Q I rv rw' hh;obtain⟨μ,g,d,e,b,r,qv,qw,h,q⟩:=hh;have hu':X.A.units<cLine:=by omega
 have ih:∀{v w:V}{d d':D}{u t:Value}{b:Bool},Den X.K μ H v d->Den X.K μ H w d'->RelV v u->RelV w t->Vk g 7 d d'=some b->SeqAt.EqAt X.A.in1 s u t b:=λa1 a2 a3 a4 a5=>GZ I r 7 (by show X.A.units+1+7<cLine;omega) a1 a2 a3 a4 a5;have go:SeqAt.RcNeAt X.A s u t (!b):=by
  cases qv with
  |non=>
   cases rv;cases qw with
   |non=>cases rw';cases h;exact SeqAt.RcNeAt.none_none|bl c=>cases rw';cases h;exact SeqAt.RcNeAt.none_bool _|int j=>obtain⟨z,rfl⟩:=rw';cases h;exact SeqAt.RcNeAt.none_int _ _|str j=>obtain⟨z,rfl⟩:=rw';cases h;exact SeqAt.RcNeAt.none_str _ _|tup h2 q2=>cases rw';cases h;obtain⟨_,_,p2,_⟩:=I.tuple h2;exact SeqAt.RcNeAt.none_tuple p2 hu'|ref hm=>cases rw';obtain⟨rfl,_,p⟩:=ZO r I hm h;exact SeqAt.RcNeAt.none_list p hu'|fl _ _=>cases h
  |bl a=>
   cases rv;cases qw with
   |non=>cases rw';cases h;exact SeqAt.RcNeAt.bool_none _|bl c=>cases rw';cases h;exact SeqAt.RcNeAt.bool_bool _ _|int j=>obtain⟨z,rfl⟩:=rw';cases h;exact SeqAt.RcNeAt.bool_int _ _ _|str j=>obtain⟨z,rfl⟩:=rw';cases h;exact SeqAt.RcNeAt.bool_str _ _ _|tup h2 q2=>cases rw';cases h;obtain⟨_,_,p2,_⟩:=I.tuple h2;exact SeqAt.RcNeAt.bool_tuple _ p2 hu'|ref hm=>cases rw';obtain⟨rfl,_,p⟩:=ZO r I hm h;exact SeqAt.RcNeAt.bool_list _ p hu'|fl _ _=>cases h
  |int i=>
   obtain⟨y,rfl⟩:=rv;cases qw with
   |non=>cases rw';cases h;exact SeqAt.RcNeAt.int_none _ _|bl c=>cases rw';cases h;exact SeqAt.RcNeAt.int_bool _ _ _|int j=>obtain⟨z,rfl⟩:=rw';cases h;exact SeqAt.RcNeAt.int_int _ _ _ _|str j=>obtain⟨z,rfl⟩:=rw';cases h;exact SeqAt.RcNeAt.int_str _ _ _ _|tup h2 q2=>cases rw';cases h;obtain⟨_,_,p2,_⟩:=I.tuple h2;exact SeqAt.RcNeAt.int_tuple _ _ p2 hu'|ref hm=>cases rw';obtain⟨rfl,_,p⟩:=ZO r I hm h;exact SeqAt.RcNeAt.int_list _ _ p hu'|fl _ _=>cases h
  |str i=>
   obtain⟨y,rfl⟩:=rv;cases qw with
   |non=>cases rw';cases h;exact SeqAt.RcNeAt.str_none _ _|bl c=>cases rw';cases h;exact SeqAt.RcNeAt.str_bool _ _ _|int j=>obtain⟨z,rfl⟩:=rw';cases h;exact SeqAt.RcNeAt.str_int _ _ _ _|str j=>obtain⟨z,rfl⟩:=rw';cases h;exact SeqAt.RcNeAt.str_str _ _ _ _|tup h2 q2=>cases rw';cases h;obtain⟨_,_,p2,_⟩:=I.tuple h2;exact SeqAt.RcNeAt.str_tuple _ _ p2 hu'|ref hm=>cases rw';obtain⟨rfl,_,p⟩:=ZO r I hm h;exact SeqAt.RcNeAt.str_list _ _ p hu'|fl _ _=>cases h
  |tup h1 q1=>
   cases rv;obtain⟨_,_,p1,_⟩:=id (I.tuple h1);cases qw with
   |non=>cases rw';cases h;exact SeqAt.RcNeAt.tuple_none p1 hu'|bl c=>cases rw';cases h;exact SeqAt.RcNeAt.tuple_bool _ p1 hu'|int j=>obtain⟨z,rfl⟩:=rw';cases h;exact SeqAt.RcNeAt.tuple_int _ _ p1 hu'|str j=>obtain⟨z,rfl⟩:=rw';cases h;exact SeqAt.RcNeAt.tuple_str _ _ p1 hu'|tup h2 q2=>cases rw';exact S5 hu' I h1 q1 h2 q2 ih h|ref hm=>cases rw';obtain⟨rfl,_,p⟩:=ZO r I hm h;exact SeqAt.RcNeAt.tuple_list p1 p hu'|fl _ _=>cases h
  |@ref n a hn=>
   cases rv;cases qw with
   |non=>cases rw';obtain⟨rfl,_,p⟩:=ZO r I hn h;exact SeqAt.RcNeAt.list_none p hu'|bl c=>cases rw';obtain⟨rfl,_,p⟩:=ZO r I hn h;exact SeqAt.RcNeAt.list_bool _ p hu'|int j=>obtain⟨z,rfl⟩:=rw';obtain⟨rfl,_,p⟩:=ZO r I hn h;exact SeqAt.RcNeAt.list_int _ _ p hu'|str j=>obtain⟨z,rfl⟩:=rw';obtain⟨rfl,_,p⟩:=ZO r I hn h;exact SeqAt.RcNeAt.list_str _ _ p hu'|tup h2 q2=>cases rw';obtain⟨_,_,p2,_⟩:=I.tuple h2;obtain⟨rfl,_,p⟩:=ZO r I hn h;exact SeqAt.RcNeAt.list_tuple p p2 hu'|@ref m c hm =>cases rw';obtain⟨vs,ws,ds,es,h1,q1,h2,q2,h⟩:=GY r hn hm h;exact S4 hu' I h1 q1 h2 q2 ih h|fl _ _=>cases h
  |fl _ _=>cases e<;>cases h
 exact go _ _ _ _ ⟨.bl _,H,I,rfl,q⟩
theorem PC{K:Frag}:JK K ca (eI K ca false) Z5:=by
 intro Φ σ H μ g x y dx dy Q r qx qy p;unfold Z5 at p;cases h:Vk g 8 dx dy with
 |none=>rw[h]at p;exact p.elim|some b=>rw[h]at p;exact⟨μ,g,dx,dy,b,r,qx,qy,h,p _ H μ .refl r (.bl _)⟩
theorem eJ{K:Frag}:JK K ca (eI K ca true) CI:=by
 intro Φ σ H μ g x y dx dy Q r qx qy p;unfold CI at p;cases h:Vk g 8 dx dy with
 |none=>rw[h]at p;exact p.elim|some b=>rw[h]at p;exact⟨μ,g,dx,dy,b,r,qx,qy,h,p _ H μ .refl r (.bl _)⟩
end
section
variable{X:Cx}{ca:Nat->Addr}{a b e:Expr}{ma mb me:ME}{pos p:Pos}{k:Nat}
theorem eM(hr:Room k A):A.units+16<cLine:=by have:=hr.units;omega
theorem Fm(hr:Room k X.A)(ha:Za ca X a ma)(hb:Za ca X b mb):Za ca X (.Compare a [.Eq] [b] pos) (Qe Z5 ma mb):=GU (λpn Φ=>DD (X:=Zi X ca pn Φ) (eM hr)) PC ha hb (XA b)
theorem ZJ(hr:Room k X.A)(ha:Za ca X a ma)(hb:Za ca X b mb):GA ca X (.Compare a [.Eq] [b] pos) (Qo (Qe Z5 ma mb)):=XU (λpn Φ=>DD (X:=Zi X ca pn Φ) (eM hr)) PC ha hb (XA b)
theorem Kq(hr:Room k X.A)(ha:Za ca X a ma)(hb:Za ca X b mb):GA ca X (.Compare a [.NotEq] [b] pos) (Qo (Qe CI ma mb)):=XU (λpn Φ=>lA (X:=Zi X ca pn Φ) (eM hr)) eJ ha hb (XA b)
theorem MV{K:Frag}{μ:List Addr}{H:Hp}{x:V}{d:D}(q:Den K μ H x d):decide (x=.non)=isNon d:=by cases q<;>simp[isNon]
theorem eO{K:Frag}:JK K ca (λx y H Q=>y=.non/\Q (.bl (decide (x=.non))) H) cP:=by
 intro Φ σ H μ g x y dx dy Q r qx qy p;cases qy with
 |non=>exact⟨rfl,p _ H μ .refl r (by rw[MV qx];exact .bl _)⟩|_=>exact p.elim
theorem Oh{K:Frag}:JK K ca (λx y H Q=>y=.non/\Q (.bl (!decide (x=.non))) H) Ly:=by
 intro Φ σ H μ g x y dx dy Q r qx qy p;cases qy with
 |non=>exact⟨rfl,p _ H μ .refl r (by rw[MV qx];exact .bl _)⟩|_=>exact p.elim
theorem G0(ha:Za ca X a ma)(hb:Za ca X b mb):GA ca X (.Compare a [.Is] [b] pos) (Qo (Qe cP ma mb)):=XU (λ_ _=>kC) eO ha hb (XA b)
theorem DE(ha:Za ca X a ma)(hb:Za ca X b mb):GA ca X (.Compare a [.IsNot] [b] pos) (Qo (Qe Ly ma mb)):=XU (λ_ _=>dF) Oh ha hb (XA b)
theorem G1{K:Frag}{μ:List Addr}{H:Hp}{vs:List V}{ds:List D}{i:Int}{d:D}(q:Dens K μ H vs ds)(h:VC ds i=some d):∃v,kH vs i=some v/\Den K μ H v d:=by
 unfold VC at h;cases hj:GQ ds.length i with
 |none=>rw[hj]at h;cases h|some j =>rw[hj]at h;obtain⟨v,h1,h2⟩:=q.get (show ds[j]?=some d from h);refine⟨v,?_,h2⟩;unfold kH;rw[q.length,show mJ ds.length i=some j from hj];exact h1
theorem eQ{K:Frag}:JK K ca (vE K) QB:=by
 intro Φ σ H μ g x y dx dy Q r qx qy p;unfold QB at p;cases qx with
 |tup ht hs=>
  cases qy with
  |int i=>
   dsimp only at p;rename_i a vs ds;cases h:VC ds i with
   |none=>rw[h]at p;exact p.elim|some d =>rw[h]at p;obtain⟨v,h1,h2⟩:=G1 hs h;exact .inr (.inl ⟨a,vs,i,v,rfl,rfl,ht,h1,p v H μ .refl r h2⟩)
  |_=>exact p.elim
 |fl ht hs=>
  cases qy with
  |int i=>
   dsimp only at p;rename_i a vs ds;cases h:VC ds i with
   |none=>rw[h]at p;exact p.elim|some d =>rw[h]at p;obtain⟨v,h1,h2⟩:=G1 hs h;exact .inl ⟨a,vs,i,v,rfl,rfl,ht.sq,h1,p v H μ .refl r h2⟩
  |_=>exact p.elim
 |@ref n a hn=>
  cases qy with
  |int i=>
   dsimp only at p;cases hg:g[n]? with
   |none=>rw[hg]at p;exact p.elim|some o=>
    rw[hg]at p;obtain⟨a',ha',ob⟩:=r.addr hg;rw[hn]at ha';cases ha';cases o with
    |lst ds=>
     obtain⟨vs,hH,hs⟩:=ob;dsimp only at p;cases h:VC ds i with
     |none=>rw[h]at p;exact p.elim|some d =>rw[h]at p;obtain⟨v,h1,h2⟩:=G1 hs h;exact .inl ⟨a,vs,i,v,rfl,rfl,.of hH,h1,p v H μ .refl r h2⟩
    |_=>exact p.elim
  |_=>exact p.elim
 |str s=>
  cases qy with
  |int i=>
   dsimp only at p;by_cases z:s.length<=SZ
   ·rw[Uc z]at p;cases h:VC s.cps.toList i with
    |none=>rw[h]at p;exact p.elim|some c =>rw[h]at p;exact .inr (.inr ⟨s,i,c,rfl,rfl,Up z XV,h,p _ H μ .refl r (.str _)⟩)
   ·rw[Uh z]at p;exact p.elim
  |_=>exact p.elim
 |_=>cases qy<;>exact p.elim
theorem Qj(ha:Za ca X a ma)(hb:Za ca X b mb)(hs:Lq b:=by exact λ_ _=>rfl):Za ca X (.Subscript a b pos) (Qe QB ma mb):=sR (λ_ _=>kJ) eQ ha hb hs
theorem DF{x:Str}{id:String}{r:List V->Hp->VK->Prop}{f:D->G->Res D}(hc:∀pn Φ,VA (Zi X ca pn Φ) (.builtin id) r)(hm:X.mg x=none)(hv:bootBuiltins x=some (.builtin id))(hp:∀(Φ:XS) (σ:L2.St) (H:Hp) (μ:List Addr) (g:G) (y:V) (d:D) (Q:VK),GRep X.K ca μ H g->Den X.K μ H y d->Post X.K ca Φ σ Q H μ (f d g)->r [y] H Q)(he:Za ca X e me)(hg:Gl X x)(hn:x ≠"__name__")(hdb:(x==("__debug__" : Str))=false)(hs:starEach [e] X.env=[(false,eval e X.env)])(hpl:(backTo pos (starEach [] X.env)).any (·.1)=false):Za ca X (.Call (.Name x p) [e] [] pos) (Qv f me):=
 λpn Φ=>Yt (Ey (X:=Zi X ca pn Φ) (hc pn Φ) hg hm hv (XB he Qh hs pn Φ) hn hdb hs hpl) λσ H Q hQ=>by
  obtain⟨σ3,g,μ,R,q⟩:=hQ;refine⟨σ3,g,μ,R,?_⟩;unfold Qv at q;unfold Qb Qi;cases hm:me σ3 g with
  |raise _ _=>rw[hm]at q;exact q|stuck=>rw[hm]at q;exact q.elim|ok d g1=>
   rw[hm,Res.bind_ok]at q;rw[Res.bind_ok,Res.bind_ok];intro vs H1 μ1 e1 r1 q1;cases q1 with
   |cons h1 h2 =>cases h2;exact hp Φ σ H1 μ1 g1 _ d Q r1 h1 (q.go e1)
end
theorem lB{x:Str}{T:String}{r:List V->Hp->VK->Prop}{f:D->G->Res D}(hc:∀pn Φ,VA (Zi X ca pn Φ) (.type T) r)(hm:X.mg x=none)(hv:bootBuiltins x=some (.type T))(hp:∀(Φ:XS) (σ:L2.St) (H:Hp) (μ:List Addr) (g:G) (y:V) (d:D) (Q:VK),GRep X.K ca μ H g->Den X.K μ H y d->Post X.K ca Φ σ Q H μ (f d g)->r [y] H Q)(he:Za ca X e me)(hg:Gl X x)(hn:x ≠"__name__")(hdb:(x==("__debug__" : Str))=false)(hs:starEach [e] X.env=[(false,eval e X.env)])(hpl:(backTo pos (starEach [] X.env)).any (·.1)=false):Za ca X (.Call (.Name x p) [e] [] pos) (Qv f me):=
 λpn Φ=>Yt (SL (X:=Zi X ca pn Φ) (hc pn Φ) hg hm hv (XB he Qh hs pn Φ) hn hdb hs hpl) λσ H Q hQ=>by
  obtain⟨σ3,g,μ,R,q⟩:=hQ;refine⟨σ3,g,μ,R,?_⟩;unfold Qv at q;unfold Qb Qi;cases hm:me σ3 g with
  |raise _ _=>rw[hm]at q;exact q|stuck=>rw[hm]at q;exact q.elim|ok d g1=>
   rw[hm,Res.bind_ok]at q;rw[Res.bind_ok,Res.bind_ok];intro vs H1 μ1 e1 r1 q1;cases q1 with
   |cons h1 h2 =>cases h2;exact hp Φ σ H1 μ1 g1 _ d Q r1 h1 (q.go e1)
theorem Z1(hm:X.mg "len"=none)(he:Za ca X e me)(hg:Gl X "len":=by rfl)(hs:starEach [e] X.env=[(false,eval e X.env)]:=by rfl)(hpl:(backTo pos (starEach [] X.env)).any (·.1)=false:=by rfl):
  Za ca X (.Call (.Name "len" p) [e] [] pos) (Qv Zr me):=
 DF (r:=λxs H Q=>∃p ys,xs=[V.ref p]/\(SqL X.K H p ys\/SqT X.K H p ys)/\Q (V.int (ys.length:Int)) H) (λ_ _=>Lu) hm boot_len (λΦ σ H μ g y d Q r q pp=>by
  unfold Zr at pp;cases q with
  |@tup t vs ds ht hs=>exact⟨t,vs,rfl,.inr ht,pp _ H μ .refl r (by rw[hs.length];exact .int _)⟩|@fl t vs ds ht hs=>exact⟨t,vs,rfl,.inl ht.sq,pp _ H μ .refl r (by rw[hs.length];exact .int _)⟩|@ref n t hn=>
   dsimp only at pp;cases hgn:g[n]? with
   |none=>rw[hgn]at pp;exact pp.elim|some ob=>
    rw[hgn]at pp;obtain⟨t',ht',orp⟩:=r.addr hgn;rw[hn]at ht';cases ht';cases ob with
    |lst ds=>obtain⟨vs,hH,q⟩:=orp;exact⟨t,vs,rfl,.inl (.of hH),pp _ H μ .refl r (by rw[q.length];exact .int _)⟩|_=>exact pp.elim
  |_=>exact pp.elim) he hg (by decide) (by decide) hs hpl
theorem JP(hm:X.mg "tuple"=none)(he:Za ca X e me)(hg:Gl X "tuple":=by rfl)(hs:starEach [e] X.env=[(false,eval e X.env)]:=by rfl)(hpl:(backTo pos (starEach [] X.env)).any (·.1)=false:=by rfl):
  Za ca X (.Call (.Name "tuple" p) [e] [] pos) (Qv ZT me):=
 lB (r:=λxs H Q=>∃p ys,xs=[V.ref p]/\((SqL X.K H p ys/\∀l,H l=none->Q (.ref l) (Ji H l (.tup ys)))\/(SqT X.K H p ys/\Q (.ref p) H))) (λ_ _=>Ia) hm boot_tuple (λΦ σ H μ g y d Q r q pp=>by
  unfold ZT at pp;cases q with
  |@tup t vs ds ht hs=>exact⟨t,vs,rfl,.inr ⟨ht,pp _ H μ .refl r (.tup ht hs)⟩⟩|@fl t vs ds ht hs=>exact⟨t,vs,rfl,.inl ⟨ht.sq,λl hl=>pp _ _ μ (ZU hl) (r.new hl) (.tup (.of Q6) (hs.mono (ZU hl)))⟩⟩|@ref n t hn=>
   dsimp only at pp;cases hgn:g[n]? with
   |none=>rw[hgn]at pp;exact pp.elim|some ob=>
    rw[hgn]at pp;obtain⟨t',ht',orp⟩:=r.addr hgn;rw[hn]at ht';cases ht';cases ob with
    |lst ds=>obtain⟨vs,hH,q⟩:=orp;exact⟨t,vs,rfl,.inl ⟨.of hH,λl hl=>pp _ _ μ (ZU hl) (r.new hl) (.tup (.of Q6) (q.mono (ZU hl)))⟩⟩|_=>exact pp.elim
  |_=>exact pp.elim) he hg (by decide) (by decide) hs hpl
theorem Fn(hm:X.mg "list"=none)(he:Za ca X e me)(hg:Gl X "list":=by rfl)(hs:starEach [e] X.env=[(false,eval e X.env)]:=by rfl)(hpl:(backTo pos (starEach [] X.env)).any (·.1)=false:=by rfl):
  Za ca X (.Call (.Name "list" p) [e] [] pos) (Qv VT me):=
 lB (r:=λxs H Q=>∃p ys,xs=[V.ref p]/\(SqL X.K H p ys\/SqT X.K H p ys)/\∀l,H l=none->Q (.ref l) (Ji H l (.lst ys))) (λ_ _=>Lv) hm boot_list (λΦ σ H μ g y d Q r q pp=>by
  have el:∀l:Addr,(μ++[l])[g.length]?=some l:=λl=>by rw[<-r.len];simp
  unfold VT at pp;cases q with
  |@fl t vs ds ht hs=>exact⟨t,vs,rfl,.inl ht.sq,λl hl=>pp _ _ (μ++[l]) (ZI hl) (r.push hl ⟨vs,Q6,hs.mono (ZI hl)⟩) (.ref (el l))⟩|@tup t vs ds ht hs=>exact⟨t,vs,rfl,.inr ht,λl hl=>pp _ _ (μ++[l]) (ZI hl) (r.push hl ⟨vs,Q6,hs.mono (ZI hl)⟩) (.ref (el l))⟩|@ref n t hn=>
   dsimp only at pp;cases hgn:g[n]? with
   |none=>rw[hgn]at pp;exact pp.elim|some ob=>
    rw[hgn]at pp;obtain⟨t',ht',orp⟩:=r.addr hgn;rw[hn]at ht';cases ht';cases ob with
    |lst ds=>obtain⟨vs,hH,q⟩:=orp;exact⟨t,vs,rfl,.inl (.of hH),λl hl=>pp _ _ (μ++[l]) (ZI hl) (r.push hl ⟨vs,Q6,q.mono (ZI hl)⟩) (.ref (el l))⟩|_=>exact pp.elim
  |_=>exact pp.elim) he hg (by decide) (by decide) hs hpl
theorem LH(hm:X.mg "int"=none)(he:Za ca X e me)(hg:Gl X "int":=by rfl)(hs:starEach [e] X.env=[(false,eval e X.env)]:=by rfl)(hpl:(backTo pos (starEach [] X.env)).any (·.1)=false:=by rfl):
  Za ca X (.Call (.Name "int" p) [e] [] pos) (Qv Od me):=
 lB (λ_ _=>SG) hm boot_int (λΦ σ H μ g y d Q r q pp=>by
  cases q with
  |int i=>exact .inl ⟨i,rfl,pp _ H μ .refl r (.int _)⟩|bl b=>exact .inr ⟨b,rfl,pp _ H μ .refl r (.int _)⟩|_=>exact pp.elim) he hg (by decide) (by decide) hs hpl
theorem Yy(ho:Za ca X o mo)(he:Za ca X e me)(hbase:attributeBase o "append" X.env (eval o X.env)=eval o X.env:=by rfl)(hfew:((backTo pos (starEach [e] X.env)).all (λx=>!x.1)&&(backToKw pos (keywordEach [] X.env)).all (λx=>x.1.isSome)&&decide ([e].length+([]:List Keyword).length+(if ([]:List Keyword).isEmpty then 0 else 1)<30))=true:=by rfl)(hline:(apos.endLine==pos.line)=true:=by rfl)(hs:starEach [e] X.env=(false,eval e X.env)::starEach [] X.env:=by rfl)(hplain:(backTo pos (starEach [] X.env)).any (·.1)=false:=by rfl):
  Za ca X (.Call (.Attribute o "append" apos) [e] [] pos) (Zm mo me):=
 λpn Φ=>Yt (iC (X:=Zi X ca pn Φ) Rt PySem.F.slot_list_append PySem.F.type_list_append SM (ho pn Φ) (XB he Qh hs pn Φ) hbase hfew hline hs hplain) λσ H Q ⟨σ3,g,μ,R,q⟩=>YB (X6 R q) λx H1 hQ=>by
  obtain⟨d,g1,μ1,e1,R1,q1,p1⟩:=hQ;cases q1 with
  |@ref n t hn=>
   dsimp only at p1;cases hgn:g1[n]? with
   |none=>rw[hgn]at p1;exact p1.elim|some ob=>
    rw[hgn]at p1;obtain⟨t',ht',orp⟩:=R1.g.addr hgn;rw[hn]at ht';cases ht';cases ob with
    |lst ds0=>
     obtain⟨vs0,hH0,_⟩:=orp;dsimp only at p1;refine⟨.inl ⟨rfl,_,.of hH0⟩,σ3,g1,μ1,R1,?_⟩;unfold Qb Qi;cases hm:me σ3 g1 with
     |raise _ _=>rw[hm]at p1;exact p1|stuck=>rw[hm]at p1;exact p1.elim|ok y g2=>
      rw[hm,Res.bind_ok]at p1;rw[Res.bind_ok,Res.bind_ok];intro vs H2 μ2 e2 r2 q2;cases q2 with
      |@cons vy _ _ _ h1 h2=>
       cases h2;cases hg2:g2[n]? with
       |none=>rw[hg2]at p1;exact p1.elim|some ob2=>
        rw[hg2]at p1;obtain⟨t',ht',orp⟩:=r2.addr hg2;rw[e2.at hn]at ht';cases ht';cases ob2 with
        |lst ds=>
         obtain⟨ws,hH,qs⟩:=orp;dsimp only at p1;by_cases z:ds.length<SZ
         ·rw[Uc z]at p1;have ex:Ext X.K μ2 H2 μ2 (Ji H2 t (.lst (ws++[vy]))):=KG hH (by intro _ z;cases z) (by intro _ _ z;cases z);refine⟨t,ws,_,rfl,rfl,hH,by rw[qs.length];exact UL z XV,p1 _ _ μ2 (e2.trans ex) ?_ .non⟩;exact r2.set (e2.at hn) hH (by intro _ z;cases z) (by intro _ _ z;cases z) ⟨_,Q6,(qs.mono ex).append (.cons (h1.mono ex) .nil)⟩
         ·rw[Uh z]at p1;exact p1.elim
        |_=>exact p1.elim
    |_=>exact p1.elim
  |_=>exact p1.elim
theorem Dens.dropLast{K:Frag}{μ:List Addr}{H:Hp}{vs:List V}{ds:List D}(h:Dens K μ H vs ds):Dens K μ H vs.dropLast ds.dropLast:=by rw[TC,TC,h.length];exact h.take _
theorem DG(ho:Za ca X o mo)(hbase:attributeBase o "pop" X.env (eval o X.env)=eval o X.env:=by rfl)(hline:(apos.endLine==pos.line)=true:=by rfl):Za ca X (.Call (.Attribute o "pop" apos) [] [] pos) (Qv Ic mo):=
 λpn Φ=>Yt (kL (X:=Zi X ca pn Φ) Rt PySem.F.slot_list_pop PySem.F.type_list_pop kM (ho pn Φ) hbase hline) λσ H Q ⟨σ3,g,μ,R,q⟩=>YB (X6 R q) λx H1 hQ=>by
  obtain⟨d,g1,μ1,e1,R1,q1,p1⟩:=hQ;unfold Ic at p1;cases q1 with
  |@ref n t hn=>
   dsimp only at p1;cases hgn:g1[n]? with
   |none=>rw[hgn]at p1;exact p1.elim|some ob=>
    rw[hgn]at p1;obtain⟨t',ht',orp⟩:=R1.g.addr hgn;rw[hn]at ht';cases ht';cases ob with
    |lst ds=>
     obtain⟨ws,hH,qs⟩:=orp;dsimp only at p1;cases hl:ds[ds.length-1]? with
     |none=>rw[hl]at p1;exact p1.elim|some y =>rw[hl]at p1;obtain⟨v,h1,h2⟩:=qs.get hl;have ex:Ext X.K μ1 H1 μ1 (Ji H1 t (.lst ws.dropLast)):=KG hH (by intro _ z;cases z) (by intro _ _ z;cases z);refine⟨.inl ⟨rfl,_,.of hH⟩,t,ws,v,rfl,rfl,hH,by rw[qs.length];exact h1,p1 v _ μ1 ex ?_ (h2.mono ex)⟩;exact R1.g.set hn hH (by intro _ z;cases z) (by intro _ _ z;cases z) ⟨_,Q6,(qs.mono ex).dropLast⟩
    |_=>exact p1.elim
  |_=>exact p1.elim
def wG(b:Bool)(h:Heap)(i l:Addr)(k:Nat):Prop:=if b=true then h.IsListIter i l k else h.IsTupleIter i l k
def wH(b:Bool)(h:Heap)(l:Addr)(xs:Array Value):Prop:=if b=true then h.IsList l xs else h.IsTuple l xs
def Sq(b:Bool)(K:Frag)(H:Hp)(a:Addr)(xs:List V):Prop:=if b=true then SqL K H a xs else SqT K H a xs
theorem Sq.inj{b:Bool}{X:Cx}{pins:Xw}{σ:L2.St}{H:Hp}{s:Shared}{a:Addr}{xs ys:List V}(I:Inv X pins σ H s)(h:Sq b X.K H a xs)(h':Sq b X.K H a ys):xs=ys:=by
 cases b
 ·exact I.tuple_inj h h'
 ·exact I.list_inj h h'
section
variable{X:Cx}{ca:Nat->Addr}{e1 e2:Expr}{m1 m2:ME}{p pos tp:Pos}{elts:List Expr}{kk:Nat}
theorem VE{K:Frag}{μ:List Addr}{H:Hp}{g:G}{v:V}{d:D}{b:Bool}{ds:List D}(r:GRep K ca μ H g)(q:Den K μ H v d)(h:QG g d=some (b,ds)):∃a vs,v=.ref a/\Sq b K H a vs/\Dens K μ H vs ds:=by
 cases q with
 |@tup a vs es ht hs=>cases h;exact⟨a,vs,rfl,ht,hs⟩|@fl a vs es ht hs=>cases h;exact⟨a,vs,rfl,ht.sq,hs⟩|@ref n a hn=>
  unfold QG at h;dsimp only at h;cases hg:g[n]? with
  |none=>rw[hg]at h;cases h|some o=>
   rw[hg]at h;obtain⟨a',ha',ob⟩:=r.addr hg;rw[hn]at ha';cases ha';cases o with
   |lst es=>cases h;obtain⟨vs,hH,q⟩:=ob;exact⟨a,vs,rfl,SqL.of hH,q⟩|_=>cases h
 |_=>cases h
theorem G2{K:Frag}{μ:List Addr}{H:Hp}{g g':G}{μ':List Addr}{H':Hp}{d:D}{v:V}{b b':Bool}{ds ds':List D}(h:QG g d=some (b,ds))(h':QG g' d=some (b',ds')):b=b':=by
 unfold QG at h h';cases d with
 |tup es=>cases h;cases h';rfl|fl es=>cases h;cases h';rfl|ref n=>
  dsimp only at h h';have k1:b=true:=by
   cases hg:g[n]? with
   |none=>rw[hg]at h;cases h|some o=>rw[hg]at h;cases o<;>cases h<;>rfl
  have k2:b'=true:=by
   cases hg:g'[n]? with
   |none=>rw[hg]at h';cases h'|some o=>rw[hg]at h';cases o<;>cases h'<;>rfl
  rw[k1,k2]
 |_=>cases h
end
theorem Vn(K:Frag)(t c:Ty):kitOne K (.type t.name) (.type c.name)=some (EC t c):=by cases t<;>cases c<;>kernel_rfl
section
variable{X:Cx}{ca:Nat->Addr}{a b c e:Expr}{ma mb mc me:ME}{pos p p2:Pos}{k:Nat}
theorem S6(c:Ty):VA X (.builtin "isinstance") (λxs H Q=>∃x g μ d t,xs=[x,.ty c.name]/\GRep X.K ca μ H g/\Den X.K μ H x d/\Gi g d=some t/\Q (.bl (EC t c)) H):=by
 intro pins s σ H xs us Q I rv h;obtain⟨x,g,μ,d,t,rfl,r,q,ht,qq⟩:=h;obtain⟨u,u2,rfl,ru,ru2⟩:=rv.two;cases ru2;have fin:∀tk,EP X pins σ Q (.bool (EC t c)) {s with toks:=tk}:=λtk=>⟨.bl _,H,I.tok tk,rfl,qq⟩;cases q with
 |non=>cases ht;exact Ki I ru .non (Vn X.K .non c) fin|bl y=>cases ht;exact Ki I ru (.bl y) (Vn X.K .bool c) fin|int y=>cases ht;exact Ki I ru (.int y) (Vn X.K .int c) fin|str y=>cases ht;exact Ki I ru (.str y) (Vn X.K .str c) fin|@tup a vs ds hq hs =>cases ht;cases ru;obtain⟨its,_,⟨o,h1,h2,_⟩,_⟩:=I.tuple hq;exact U5 Wh I.kIn ⟨o,h1,h2⟩ (Vn X.K .tuple c) (λz=>nomatch z) fin|@fl a vs ds hq hs =>cases ht;cases ru;obtain⟨its,_,p,_⟩:=I.list hq.sq;obtain⟨o,h1,h2,_⟩:=p.isList;exact U5 T6 I.kIn ⟨o,h1,h2⟩ (Vn X.K .list c) (λz=>nomatch z) fin|@ref n a hn=>
  unfold Gi at ht;dsimp only at ht;cases hg:g[n]? with
  |none=>rw[hg]at ht;cases ht|some o=>
   rw[hg]at ht;obtain⟨a',ha',ob⟩:=r.addr hg;rw[hn]at ha';cases ha';cases o with
   |lst ds=>cases ht;obtain⟨vs,hH,_⟩:=ob;exact Ki I ru (.lst hH) (Vn X.K .list c) fin|ins _ _=>cases ht|exc _=>cases ht
theorem BK{x:Str}(c:Ty)(hi:X.mg "isinstance"=none)(hm:X.mg x=none)(hv:bootBuiltins x=some (.type c.name))(he:Za ca X e me)(hgi:Gl X "isinstance":=by rfl)(hg:Gl X x:=by rfl)(hnm:x ≠"__name__":=by decide)(hdb:(x==("__debug__" : Str))=false:=by decide)(hs:starEach [e,.Name x p2] X.env=(false,eval e X.env)::starEach [.Name x p2] X.env:=by rfl)(hs2:starEach [.Name x p2] X.env=(false,eval (.Name x p2) X.env)::starEach [] X.env:=by rfl)(hpl:(backTo pos (starEach [.Name x p2] X.env)).any (·.1)=false:=by rfl):
  Za ca X (.Call (.Name "isinstance" p) [e,.Name x p2] [] pos) (Qv (VU c) me):=λpn Φ=>Yt (Ey (X:=Zi X ca pn Φ) (S6 (ca:=ca) c) hgi hi boot_isinstance (KF (X:=Zi X ca pn Φ) (he pn Φ) (KF (X:=Zi X ca pn Φ) (Ln (X:=Zi X ca pn Φ) (v:=.ty c.name) hg hm hv rfl hnm hdb) Lo hs2) hs) (by decide) (by decide) hs hpl) λσ H Q ⟨σ3,g,μ,R,q⟩=>
  YB (X6 R q) λy H1 hQ=>by
   obtain⟨d,g1,μ1,e1,R1,q1,p1⟩:=hQ;unfold VU at p1;cases ht:Gi g1 d with
   |none=>rw[ht]at p1;exact p1.elim|some t=>rw[ht]at p1;exact⟨y,g1,μ1,d,t,rfl,R1.g,q1,ht,p1 _ H1 μ1 .refl R1.g (.bl _)⟩
theorem MW{K:Frag}{μ:List Addr}{H:Hp}:∀{vs:List V}{ds:List D}{us:List Value}{b:Bool},Dens K μ H vs ds->Vals vs us->ED ds=some b->∃bs:List Bool,us=bs.map Value.bool/\bs.all id=b
 |_,_,_,b,.nil,.nil,h=>by cases h;exact⟨[],rfl,rfl⟩
 |_,_,_,b,@Dens.cons _ _ _ _ _ _ ds q qs,.cons r rs,h=>by
  cases q with
  |bl c=>
   unfold ED at h;cases hd:ED ds with
   |none=>rw[hd]at h;cases h|some d =>rw[hd]at h;cases h;obtain⟨bs,h1,h2⟩:=MW qs rs hd;cases r;exact⟨c::bs,by rw[h1];rfl,by simp[h2]⟩
  |_=>cases h
theorem S7(bs:List Bool):((List.range bs.length).all λi=>(bs[i]?).getD true)=bs.all id:=by
 rw[Bool.eq_iff_iff,Uv,Uv];constructor
 ·intro h b hb;obtain⟨i,hi,rfl⟩:=Rg hb;have:=h i (UU.mpr hi);simpa[hi]using this
 ·intro h i hi;have hi':=UU.mp hi;have:=h bs[i] (UK hi');simpa[hi']using this
theorem S8(hc:X.calm=true):VA X (.builtin "all") (λxs H Q=>∃p vs ds μ b,xs=[.ref p]/\SqL X.K H p vs/\Dens X.K μ H vs ds/\ED ds=some b/\Q (.bl b) H):=by
 intro pins s σ H xs us Q I rv h;obtain⟨l,vs,ds,μ,b,rfl,hq,q,hb,qq⟩:=h;obtain⟨u,rfl,ru⟩:=rv.one;cases ru;obtain⟨its,rs,pl,_⟩:=I.list hq;obtain⟨bs,rfl,e2⟩:=MW q rs hb;have hl:=pl.isList;have hlt:l<s.heap.objs.size:=by obtain⟨_,e,_⟩:=hl;exact Uz e
 refine call_all_walk (wpAny_pyIter_list hl ⟨s.heap.objs.size,[s.heap.objs.size,l],[s.heap.objs.size],_,_,_,λi=>(bs[i]?).getD true,rfl,Walks.list (A:=X.A.in1) (show X.A.in1.handled=none from I.ok.hd hc) _ l (UY hlt) _,⟨⟨_,UE _ rfl,rfl,rfl⟩,hl.push _⟩,λi v s' Q' E' hP hQ=>?_,λh' tk hk=>?_⟩)
 ·have hP:(bs.map Value.bool).toArray[i]?=some v:=hP;rw[RF,UA]at hP;cases hi:bs[i]? with
  |none=>rw[hi]at hP;cases hP|some c =>rw[hi]at hP;cases hP;simp only[hi,WE]at hQ;exact TN hQ
 ·have kept:∀c o,s.heap.get? c=some o->h'.get? c=some o:=λc o e=>hk c o (λhm=>by rw[Uf.mp hm]at e;exact To _ (Uz e)) (Uk _ e);have ea:((List.range (bs.map Value.bool).toArray.size).all λi=>(bs[i]?).getD true)=b:=by rw[Ug,Ua,S7,e2]
  rw[ea];exact⟨.bl b,H,I.kept kept,rfl,qq⟩
theorem DH(hc:X.calm=true)(hm:X.mg "all"=none)(he:Za ca X e me)(hg:Gl X "all":=by rfl)(hs:starEach [e] X.env=[(false,eval e X.env)]:=by rfl)(hpl:(backTo pos (starEach [] X.env)).any (·.1)=false:=by rfl):
  Za ca X (.Call (.Name "all" p) [e] [] pos) (Qv Gj me):=
 DF (r:=λxs H Q=>∃p vs ds μ b,xs=[V.ref p]/\SqL X.K H p vs/\Dens X.K μ H vs ds/\ED ds=some b/\Q (.bl b) H) (λpn Φ=>S8 (X:=Zi X ca pn Φ) hc) hm boot_all (λΦ σ H μ g y d Q r q pp=>by
  unfold Gj at pp;cases q with
  |@ref n t hn=>
   dsimp only at pp;cases hgn:g[n]? with
   |none=>rw[hgn]at pp;exact pp.elim|some ob=>
    rw[hgn]at pp;obtain⟨t',ht',orp⟩:=r.addr hgn;rw[hn]at ht';cases ht';cases ob with
    |lst ds=>
     obtain⟨vs,hH,q⟩:=orp;dsimp only at pp;cases hb:ED ds with
     |none=>rw[hb]at pp;exact pp.elim|some b=>rw[hb]at pp;exact⟨t,vs,ds,μ,b,rfl,.of hH,q,hb,pp _ H μ .refl r (.bl _)⟩
    |_=>exact pp.elim
  |_=>exact pp.elim) he hg (by decide) (by decide) hs hpl
theorem DI{K:Frag}{Φ:XS}{r r':R2}{f f':D->D->G->Res D}(h1:JK K ca r f)(h2:JK K ca r' f')(σ:L2.St)(H:Hp)(Q:VK)(h:up K ca Φ (Fh f f' ma mb mc) σ H Q):De r r' (up K ca Φ ma) (up K ca Φ mb) (up K ca Φ mc) σ H Q:=by
 obtain⟨σ3,g,μ,R,p⟩:=h;refine YB (X6 R p) λx H1 hZ=>?_;obtain⟨dx,g1,μ1,e1,R1,q1,p1⟩:=hZ;refine YB (X6 R1 p1) λy H2 hZ=>?_;obtain⟨dy,g2,μ2,e2,R2,q2,p2⟩:=hZ;refine h1 Φ σ H2 μ2 g2 x y dx dy _ R2.g (q1.mono e2) q2 ?_;cases hf:f dx dy g2 with
 |raise _ _=>rw[hf]at p2;exact p2|stuck=>rw[hf]at p2;exact p2.elim|ok z g3=>
  rw[hf,Res.bind_ok]at p2;intro v H3 μ3 e3 r3 q3;cases q3 with
  |bl t=>
   refine⟨t,rfl,?_⟩;cases t with
   |true =>rw[Uc rfl];dsimp only at p2;refine YB (X6 (R2.go e3 r3) (p2.go e3)) λw' H4 ⟨dw,g4,μ4,e4,R4,q4,p4⟩=>?_;exact h2 Φ σ H4 μ4 g4 y w' dy dw Q R4.g ((q2.mono e3).mono e4) q4 p4
   |false =>rw[Uh Ue];exact p2 _ H3 μ3 e3 r3 (.bl _)
  |_=>exact p2.elim
theorem lC(ha:Za ca X a ma)(hb:Za ca X b mb)(hc:Za ca X c mc)(hm:lastMarks [.LtE,.Lt] [b,c]=false:=by with_unfolding_all rfl):Za ca X (.Compare a [.LtE,.Lt] [b,c] pos) (Fh mK Fd ma mb mc):=λpn Φ=>Yt (Df (X:=Zi X ca pn Φ) nO Dd (ha pn Φ) (hb pn Φ) (hc pn Φ) hm) (DI (X8 _) (X8 _))
theorem DJ{K:Frag}{μ:List Addr}{H:Hp}{v:V}{d:D}(q:Den K μ H v d)(h:Kk d=true):CH v=true:=by cases q<;>first|rfl|cases h
theorem PD{K:Frag}{μ:List Addr}{H:Hp}:∀{vs:List V}{ds:List D},Dens K μ H vs ds->ds.all Kk=true->vs.all CH=true
 |_,_,.nil,_=>rfl|_,_,.cons q qs,h=>by rw[T5,UD]at h ⊢;exact⟨DJ q h.1,PD qs h.2⟩
theorem oJ{K:Frag}{μ:List Addr}{H:Hp}{v w:V}{d e:D}(q:Den K μ H v d)(q':Den K μ H w e)(h:Kk d=true)(h':Kk e=true):cO v w=Po d e:=by cases q<;>cases q'<;>first|rfl|cases h|cases h'
theorem iJ{K:Frag}{μ:List Addr}{H:Hp}{w:V}{e:D}(q':Den K μ H w e)(h':Kk e=true):∀{vs:List V}{ds:List D},Dens K μ H vs ds->ds.all Kk=true->(vs.any λy=>cO y w)=ds.any λd=>Po d e
 |_,_,.nil,_=>rfl|_,_,.cons q qs,h=>by rw[T5,UD]at h;rw[Rm,Rm,oJ q q' h.1 h',iJ q' h' qs h.2]
theorem LI{K:Frag}(neg:Bool):JK K ca (sN K neg) (GR neg):=by
 intro Φ σ H μ g x y dx dy Q r qx qy p;unfold GR at p;cases hs:QG g dy with
 |none=>rw[hs]at p;exact p.elim|some pr=>
  obtain⟨bb,ds⟩:=pr;rw[hs]at p;dsimp only at p;by_cases z:Kk dx=true/\ds.all Kk=true
  ·rw[Uc z]at p;obtain⟨a,vs,rfl,sq,qs⟩:=VE r qy hs;refine⟨a,vs,rfl,?_,DJ qx z.1,PD qs z.2,p _ H μ .refl r ?_⟩
   ·cases bb
    ·exact .inr sq
    ·exact .inl sq
   ·unfold inV;rw[iJ qx z.1 qs z.2];cases neg<;>exact .bl _
  ·rw[Uh z]at p;exact p.elim
theorem sY(ha:Za ca X a ma)(hb:Za ca X b mb)(hm:behindInMarks .In b=false:=by rfl):Za ca X (.Compare a [.In] [b] pos) (Qe (GR false) ma mb):=GU (λ_ _=>IJ) (LI false) ha hb hm
theorem DK(ha:Za ca X a ma)(hb:Za ca X b mb)(hm:behindInMarks .In b=false:=by rfl):GA ca X (.Compare a [.In] [b] pos) (Qo (Qe (GR false) ma mb)):=XU (λ_ _=>IJ) (LI false) ha hb hm
theorem G3(ha:Za ca X a ma)(hb:Za ca X b mb)(hm:behindInMarks .NotIn b=false:=by rfl):GA ca X (.Compare a [.NotIn] [b] pos) (Qo (Qe (GR true) ma mb)):=XU (λ_ _=>Ls) (LI true) ha hb hm
end
theorem EL{t sl:Addr}{items:Array Value}{vl vu:Value}{lo hi:Option Int}{Q:VP}(ht:IsTup s.heap t items)(hs:s.heap.IsSliceOf sl vl vu .none)(pl:IsPart vl lo)(pu:IsPart vu hi)(h1:HT.sIx items.size 0 lo=0)(h2:HT.sIx items.size items.size hi=items.size)(h:Q (.ref t) s):wpAny (model prog w) A (getItem (.ref t) (.ref sl)) Q E s:=by
 obtain⟨os,hos,hcs,hds⟩:=id hs;have hTs:s.TypeIs (.ref sl) "slice":=⟨os,hos,hcs⟩;unfold getItem;try with_reducible refine Rk ?_
 first|refine Ub (Us ?_)|skip
 refine Ub (wpAny_sequenceKey ht.typeIs (by decide) ?_);refine Ub (TV (name:=Str.ofString "__getitem__") ht.typeIs U2 (Rb U2 ht.typeIs entry_tuple_getitem ?_ (args_tuple_getitem _ _)));show wpAny _ _ (Builtin.Tuple.tupleItemsOf (.ref t) >>= _) _ _ s;refine Ub (tupleItemsOf_ ht (Ub (Wb hTs ?_)));rw[Uc (by decide)];refine Ub (HT.sliceApplied_gen hs pl pu ?_);rw[h1,h2];show wpAny _ _ (if (((0:Nat):Int)==0&&(1:Int)==1&&(items.size-0)==items.size)=true then _ else _) _ _ s;rw[Uc (by simp)];unfold Builtin.Tuple.tupleIsExact;refine Ub (Ub (Wb ht.typeIs (Us ?_)));rw[Uc (by decide)];exact Ub (wpAny_rule (Us ⟨_,rfl,Us h⟩))
theorem PF(n d:Nat)(o:Option Int):HT.sIx n d o=EB n d o:=by cases o<;>rfl
theorem Dens.cut{K:Frag}{μ:List Addr}{H:Hp}{vs:List V}{ds:List D}(lo hi:Option Int)(h:Dens K μ H vs ds):Dens K μ H (MB vs lo hi) (Yc ds lo hi):=by unfold MB Yc;rw[PF,PF,h.length];exact(h.drop _).take _
section
variable{X:Cx}{ca:Nat->Addr}{e:Expr}{me:ME}{lo hi:Option Expr}{ml mh:MO}{pos p2:Pos}
theorem S9:SlR X (λx lo hi H Q=>∃a xs,x=.ref a/\SqT X.K H a xs/\(HT.sIx xs.length 0 lo=0/\HT.sIx xs.length xs.length hi=xs.length)/\Q (.ref a) H):=by
 intro pins s σ H x v vl vu lo hi sl Q I rx hs pl pu h;obtain⟨a,xs,rfl,hx,hw,q⟩:=h;cases rx;obtain⟨its,r,ht,hz⟩:=I.tuple hx;have hlen:its.toArray.size=xs.length:=by rw[Ug];exact r.length.symm
 refine⟨"tuple",_,U2.lookup,ht.typeIs,?_⟩;exact EL ht hs pl pu (by rw[hlen];exact hw.1) (by rw[hlen];exact hw.2) ⟨.ref a,H,I,rfl,q⟩
def wI(K:Frag)(ca:Nat->Addr)(Φ:XS)(m:MO):TO:=λσ H Q=>∃σ3 g μ,Rep K ca μ σ3 g σ H/\match m σ3 g with
 |.ok o g'=>∀H' μ',Ext K μ H μ' H'->GRep K ca μ' H' g'->Q o H'|.raise x g'=>RaP K ca Φ σ H μ x g'|.stuck=>False
def qL(ca:Nat->Addr)(X:Cx)(e:Option Expr)(m:MO):Prop:=∀pn Φ,PO (Zi X ca pn Φ) e (wI X.K ca Φ m)
theorem QY:qL ca X none QE:=λpn Φ pins s σ H Q I ⟨_,_,μ,R,p⟩=>dO (X:=Zi X ca pn Φ) pins s σ H Q I (p H μ .refl R.g)
theorem Zs(he:Za ca X e me):qL ca X (some e) (QZ me):=λpn Φ pins s σ H Q I hQ=>by
 obtain⟨σ3,g,μ,R,p⟩:=hQ;refine dP (X:=Zi X ca pn Φ) (he pn Φ) pins s σ H Q I ⟨σ3,g,μ,R,?_⟩;unfold QZ at p;cases hm:me σ3 g with
 |raise _ _=>rw[hm]at p;exact p|stuck=>rw[hm]at p;exact p|ok d g1=>
  rw[hm,Res.bind_ok]at p;intro v H1 μ1 e1 r1 q1;cases q1 with
  |int i=>exact⟨i,rfl,p H1 μ1 e1 r1⟩|_=>exact p.elim
theorem eR(xs:List α)(lo hi:Option Int)(h1:EB xs.length 0 lo=0)(h2:EB xs.length xs.length hi=xs.length):Yc xs lo hi=xs:=by unfold Yc;rw[h1,h2];simp
theorem Q8(he:Za ca X e me)(hl:qL ca X lo ml)(hh:qL ca X hi mh):Za ca X (.Subscript e (.Slice lo hi none p2) pos) (QM me ml mh):=λpn Φ=>
 Yt (Dk (X:=Zi X ca pn Φ) ((sl_tup.or S9).or dR) (he pn Φ) (hl pn Φ) (hh pn Φ)) λσ H Q ⟨σ3,g,μ,R,p⟩=>YB (X6 R p) λx H1 hQ=>by
  obtain⟨d,g1,μ1,e1,R1,q1,p1⟩:=hQ;refine⟨σ3,g1,μ1,R1,?_⟩;cases hm:ml σ3 g1 with
  |raise _ _=>rw[hm]at p1;exact p1|stuck=>rw[hm]at p1;exact p1|ok l g2=>
   rw[hm,Res.bind_ok]at p1;intro H2 μ2 e2 r2;refine⟨σ3,g2,μ2,R1.go e2 r2,?_⟩;cases hm2:mh σ3 g2 with
   |raise _ _=>rw[hm2]at p1;exact RaP.go e2 p1|stuck=>rw[hm2]at p1;exact p1|ok u g3=>
    rw[hm2,Res.bind_ok]at p1;intro H3 μ3 e3 r3;have p3:=Post.go (e2.trans e3) p1;have q3:=(q1.mono e2).mono e3;unfold V6 at p3;cases q3 with
    |@tup a vs ds ht hs=>
     by_cases hw:HT.sIx vs.length 0 l=0/\HT.sIx vs.length vs.length u=vs.length
     ·refine .inl (.inr ⟨a,vs,rfl,ht,hw,p3 _ H3 μ3 .refl r3 ?_⟩);rw[eR ds l u (by rw[<-PF,<-hs.length];exact hw.1) (by rw[<-PF,<-hs.length];exact hw.2)];exact .tup ht hs
     ·exact .inl (.inl ⟨a,vs,rfl,ht,hw,λt ht'=>p3 _ _ μ3 (ZU ht') (r3.new ht') (.tup (.of Q6) ((hs.cut l u).mono (ZU ht')))⟩)
    |@fl a vs ds ht hs =>refine .inr ⟨a,vs,rfl,ht.sq,λt ht'=>p3 _ _ (μ3++[t]) (ZI ht') (r3.push ht' ⟨_,Q6,(hs.cut l u).mono (ZI ht')⟩) (.ref ?_)⟩;rw[<-r3.len];simp|@ref n a hn=>
     dsimp only at p3;cases hg:g3[n]? with
     |none=>rw[hg]at p3;exact p3.elim|some o=>
      rw[hg]at p3;obtain⟨a',ha',ob⟩:=r3.addr hg;rw[hn]at ha';cases ha';cases o with
      |lst ds =>obtain⟨vs,hH,hs⟩:=ob;refine .inr ⟨a,vs,rfl,.of hH,λt ht'=>p3 _ _ (μ3++[t]) (ZI ht') (r3.push ht' ⟨_,Q6,(hs.cut l u).mono (ZI ht')⟩) (.ref ?_)⟩;rw[<-r3.len];simp|_=>exact p3.elim
    |_=>exact p3.elim
end
abbrev mM:List Value:=[.type "ValueError",.type "Exception",.type "BaseException",.type "object"]
section
variable{K:Frag}{C:Addr}{x:Str}{mg:KB}{h:Heap}
theorem eT(X:K.In h)(e:mg x=some (.ref C))(q:excIn K C mM "ValueError.__new__"=true):OwnCls x C mM "ValueError.__new__" mg h:=by
 refine⟨e,?_⟩;unfold excIn at q;split at q
 ·rename_i dd cd sl ho;split at q
  ·rename_i C' bm k0 k1 k2 k3 n k5 hm hs;simp only[UD,Tn,Bool.not_eq_true']at q;obtain⟨⟨⟨⟨⟨rfl,rfl⟩,hdel⟩,ht⟩,hok⟩,hni⟩:=q;obtain⟨nm,bs,mro,ns,qn,hd,sn,sub,ab,col,del⟩:=cd;dsimp only at hm hdel hok hni;subst hm hdel;have hsl:sl = #[k0,k1,k2,k3,some (.builtin "ValueError.__new__"),k5]:=by obtain⟨l⟩:=sl;simp only at hs;rw[hs]
   subst hsl;exact⟨bm,ns,nm,qn,bs,hd,sn,sub,ab,col,dd,k0,k1,k2,k3,k5,_,X _ _ ho,.of_isNs (isNs_of_in X hok),nsMap_none_of_in X hok hni,tail_of_in X ht⟩
  ·cases q
 ·cases q
end
theorem Inv.there'(I:Inv X pins σ H s)(h:H a=some o):∃u,s.heap.get? a=some u:=by
 have:=I.hok a o h;cases o with
 |lst xs=>obtain⟨_,_,_,_,e⟩:=this;exact⟨_,e⟩|tup xs=>obtain⟨_,_,_,u,e,_⟩:=this;exact⟨u,e⟩|dK kvs=>obtain⟨_,_,_,_,u,_,_,e,_⟩:=this;exact⟨u,e⟩|dT kvs=>obtain⟨_,_,_,_,u,_,_,e,_⟩:=this;exact⟨u,e⟩|set S n=>obtain⟨u,_,_,_,e,_⟩:=this;exact⟨u,e⟩|ins C dx fs=>obtain⟨_,_,_,e,_⟩:=this;exact⟨_,e⟩|own y=>exact this|xd fs=>obtain⟨_,⟨_,_,_,e,_⟩,_⟩:=this;exact⟨_,e⟩|met f x=>exact⟨_,this⟩|rng lo hi=>obtain⟨_,_,_,e⟩:=this;exact⟨_,e⟩|frz u v=>exact⟨_,this.1⟩|tbl ps=>exact⟨_,this⟩|ext φ=>exact this.2.1
structure RaH(K:Frag)(mg:KB)(ca:Nat->Addr)(c:Nat)(x:Str):Prop where
 at':mg x=some (.ref (ca c))
 ex:excIn K (ca c) mM "ValueError.__new__"=true
theorem Z6(h:RaH X.K X.mg ca c x)(hh:X.A.handled=none)(ha:A2 ca X (e::es) mr)(hg:Gl X x:=by rfl)(hdb:(x==("__debug__" : Str))=false:=by decide)(he:starEach (e::es) X.env=(false,eval e X.env)::starEach es X.env:=by rfl)(hpl:(backTo cpos (starEach es X.env)).any (·.1)=false:=by rfl):Mv ca X (.Raise (some (.Call (.Name x np) (e::es) [] cpos)) none pos) (Z4 c mr):=by
 intro pn Φ pins s σ H En I ⟨σ3,g,μ,R,p⟩;obtain⟨bm,N,nm,q,bs,hdct,sn,sub,ab,col,dd,k0,k1,k2,k3,k5,mN,hC,hN,hni,T⟩:=(eT (h:=X.base) I.ok.mod.kin h.at' h.ex).obj;refine wpAny_Raise_call_subT (C:=ca c) (nm:=nm) (q:=q) (N:=N) (bs:=bs) (bm:=bm) (hdct:=hdct) (sn:=sn) (sub:=sub) (ab:=ab) (col:=col) (dd:=dd) (k0:=k0) (k1:=k1) (k2:=k2) (k3:=k3) (k5:=k5)
  Wd (mN:=mN) (T.hasType Wd.hasBase) hh ?_ hni (Ex I hg h.at' ⟨rfl,?_⟩ hdb)
 ·show(backTo cpos (starEach (e::es) X.env)).any (·.1)=false;rw[he];show(false||(backTo cpos (starEach es X.env)).any (·.1))=false;rw[hpl];rfl
 ·have z:cQ X.K ca Φ mr σ H λvs H1=>vs.length<=sizeLine/\Φ (c,none) σ H1:=by
   refine⟨σ3,g,μ,R,?_⟩;unfold Z4 at p;cases hm:mr σ3 g with
   |raise _ _=>rw[hm]at p;exact RaP.stmt R p|stuck=>rw[hm]at p;exact p|ok ds g1=>
    rw[hm]at p;dsimp only at p;intro vs H1 μ1 e1 r1 q1;by_cases hz:ds.length<=SZ
    ·rw[Uc hz]at p;exact⟨q1.sz hz,p σ H1 μ1 e1 (R.go e1 r1)⟩
    ·rw[Uh hz]at p;exact p.elim
  have az:=ha pn Φ cpos pins s σ H _ I z;have he':starEach (e::es) (Zi X ca pn Φ).env=(false,eval e X.env)::starEach es X.env:=he;show wpAny _ _ (evalArgs (.ref (ca c)) true (backTo cpos (starEach (e::es) X.env)) []) _ _ s;rw[he']at az;rw[he];refine Calls.evalArgs_plain (Tl az (λus s2 ⟨vs,H1,I1,r1,hz,hΦ⟩=>⟨rfl,by rw[<-r1.length];exact hz,I1.bk _ _ hC,hN.keeps I1.bk,T.keeps I1.bk,λh' ea hm=>?_⟩) λ_ _ y=>y);have I2:Inv (Id X pn) [] σ H1 s2:=(Ds I1).pins_of λp hp=>absurd hp (by simp);have I3:Inv (Id X pn) [] σ H1 {s2 with heap:=h'}:=I2.kept (t':=s2.toks) hm.keeps;have hn:H1 ea=none:=by
   cases hq:H1 ea with
   |none=>rfl|some o =>obtain⟨o',ho'⟩:=Inv.there' I2 hq;rw[hm.new]at ho';cases ho'
  obtain⟨t,ht,_⟩:=hm.there;exact⟨ea,(c,none),σ,H1,rfl,I3,⟨LC I2 hm.new hn,rfl,_,_,ht,⟨rfl,rfl⟩,rfl,by simp,.inl rfl⟩,hΦ⟩
structure CatX(K:Frag)(ca:Nat->Addr)(C:Addr)(cs no:List Nat):Prop where
 ci:(clsIn K C).isSome=true
 ty:typeIn K (.ref C)=some (.type "type")
 sb:subIn K (.ref C) (.type "BaseException")=some true
 yes:∀c∈cs,subIn K (.ref (ca c)) (.ref C)=some true
 no':∀c∈no,subIn K (.ref (ca c)) (.ref C)=some false
section
variable{prog:Program}{w:World}{A:Around}{E:VP}{s:Shared}{K:Frag}{ca:Nat->Addr}{C D e:Addr}{oe:Obj}{cs no:List Nat}{b:Bool}
theorem Aa(X:K.In s.heap)(F:CatX K ca C cs no)(hx:s.heap.get? e=some oe)(hc:oe.cls=.ref D)(hs:subIn K (.ref D) (.ref C)=some b)(h:Q b s):wpAny (model prog w) A (excMatches (.ref e) (.ref C)) Q E s:=by
 obtain⟨hh,g,d,t,os⟩:=s;have L0:=looks_typeIn (M:=model prog w) X F.ty;have L1:=looks_subIn (M:=model prog w) X F.sb;have L2:=looks_subIn (M:=model prog w) X hs;have L3:Looks (model prog w) hh (isType (.ref C)) true:=by
  obtain⟨cd,hc⟩:=Wz.mp F.ci;unfold clsIn at hc;split at hc
  ·rename_i c' d' cd' sl' ho;intro A' Q' E' s' k q;unfold isType loadHead;exact Ub (wpAny_loadPart (k _ _ (X _ _ ho)) (Us q))
  ·cases hc
 have f:=tc_notTuple;unfold excMatches isInstance;refine Ub (Ub (L0.at (TX f ?_)));simp only[Rq,Ry];refine Ub (Us ?_);simp only[List.forIn_cons,List.forIn_nil];unfold isExcClass;refine Ub (Ub (Ub (Ub (L3.at ?_))));rw[Uc rfl];refine L1.at ?_;simp only[Bool.not_true,Rq,Ry];refine Us (Us ?_);have L4:Looks (model prog w) hh (typeOf (.ref e)) (.ref D):=hc ▸ (Looks.ld hx).andThen .now;refine Ub (L4.at (Ub (Ub (Ub (L2.at ?_)))));cases b with
 |true=>rw[Uc rfl];exact Us (Us (Us h))|false=>rw[Uh Ue];exact Us (Us (Us h))
end
abbrev qN(X:Cx)(v:Value):Cx:={X with A:=X.A.mark (some v),calm:=false}
theorem DL(v:Value)(I:Inv X pins σ H s):Inv (qN X v) pins σ H s:=⟨⟨I.ok.mod,I.ok.kind,I.ok.glob,I.ok.blt,I.ok.above,I.ok.inj,I.ok.has,I.ok.cab,(λz=>by cases z),I.ok.frames,I.ok.stk,I.ok.exf,I.ok.bs,I.ok.bsz,I.ok.noex,I.ok.exfs,I.ok.funs,I.ok.frf⟩,I.os,I.bare,I.base,I.loc,I.cell,I.free,I.freeC,I.pin,I.hok,I.len⟩
theorem MX(h:X.calm=true->X.A.handled=none)(I:Inv (qN X v) pins σ H s):Inv X pins σ H s:=⟨⟨I.ok.mod,I.ok.kind,I.ok.glob,I.ok.blt,I.ok.above,I.ok.inj,I.ok.has,I.ok.cab,h,I.ok.frames,I.ok.stk,I.ok.exf,I.ok.bs,I.ok.bsz,I.ok.noex,I.ok.exfs,I.ok.funs,I.ok.frf⟩,I.os,I.bare,I.base,I.loc,I.cell,I.free,I.freeC,I.pin,I.hok,I.len⟩
section
variable{X:Cx}{ca:Nat->Addr}{body suite:List Stmt}{b0:Stmt}{mb mc:MS}{np hpos pos:Pos}{C:Addr}{cs no:List Nat}{T n:Str}
theorem lD{Y:Cx}{pn pins:Xw}{E E':VP}{σ:L2.St}{H:Hp}{s:Shared}(I:Inv {Y with pn:=pn,xe:=E} pins σ H s):Inv {Y with pn:=pn++pins,xe:=E'} [] σ H s:=⟨⟨I.ok.mod,I.ok.kind,I.ok.glob,I.ok.blt,I.ok.above,I.ok.inj,I.ok.has,I.ok.cab,I.ok.hd,I.ok.frames,I.ok.stk,I.ok.exf,I.ok.bs,I.ok.bsz,I.ok.noex,I.ok.exfs,I.ok.funs,I.ok.frf⟩,I.os,I.bare,I.base,I.loc,I.cell,I.free,I.freeC,λp hp=>I.pin p (by rw[U0]at hp;exact hp),I.hok,I.len⟩
theorem CU{Y:Cx}{pn pins:Xw}{E E':VP}{σ:L2.St}{H:Hp}{s:Shared}(I:Inv {Y with pn:=pn++pins,xe:=E} [] σ H s):Inv {Y with pn:=pn,xe:=E'} pins σ H s:=⟨⟨I.ok.mod,I.ok.kind,I.ok.glob,I.ok.blt,I.ok.above,I.ok.inj,I.ok.has,I.ok.cab,I.ok.hd,I.ok.frames,I.ok.stk,I.ok.exf,I.ok.bs,I.ok.bsz,I.ok.noex,I.ok.exfs,I.ok.funs,I.ok.frf⟩,I.os,I.bare,I.base,I.loc,I.cell,I.free,I.freeC,λp hp=>I.pin p (by rw[U0];exact hp),I.hok,I.len⟩
theorem PH{pn:Xw}{σ:L2.St}{H:Hp}{s:Shared}{a:Addr}{x:Xc}{oe:Obj}{R:Result->Shared->Prop}{b:Bool}(I:Inv (Id X pn) [] σ H s)(hT:X.mg T=some (.ref C))(F:CatX X.K ca C cs no)(he:s.heap.get? a=some oe)(ho:XOb ca x oe)(hs:subIn X.K (.ref (ca x.1)) (.ref C)=some b)(hg:Gl X T)(hdb:(T==("__debug__" : Str))=false)(h:R (.ok (if b then .brk else .next)) s):
  codeAny (model X.prog X.w) (X.A.mark (some (.ref a))) (.handlers (.ref a) [.ExceptHandler (some (.Name T np)) none [] hpos] X.env) R s:=codeAny_handlers_test (Ex (X:=qN (Id X pn) (.ref a)) (DL _ I) hg hT (Aa I.kIn F he ho.1 hs h) hdb)
theorem eU{pn pins:Xw}{Φ:XS}{σ:L2.St}{H:Hp}{s:Shared}{a:Addr}{x:Xc}{Q:Flow->Shared->Prop}(hf:X.env.frame=some X.env.locals)(I:Inv (Id X (pn++pins)) [] σ H s)(fl:qK (Id X (pn++pins)) ca a x H s.heap)(h:Φ x σ H):
  wpAny (model X.prog X.w) X.A (handleBy (.ref a) X.env []) Q (Zi X ca pn Φ).xe s:=by
 refine wpAny_handleBy_nil ?_;unfold PySem.passOn;obtain⟨fp,ln,oe,vs,T,oT,ts,he,hc,hd,hv,hTa,fT,hT,hdT,hs3⟩:=id fl;refine Ub (Th he hd hv ?_);rw[Uh (show ¬((Value.ref T==Value.none)=true) from by simp)];refine Ub (Ko (fo:=X.env.frame) I fl λh2 T oT ts oe vs I2 a1 a2 a3 a4 a5 a6 a7 a8 a9 a10=>wpAny_throw ?_);rw[hf]at a10;have dn:∀{b:Addr},A1 (Id X (pn++pins)) [] H b->A1 (Id X pn) [] H b:=λz=>⟨z.1,z.2.1,z.2.2.1,z.2.2.2.1,z.2.2.2.2.1,λp hp=>z.2.2.2.2.2 p (by rw[U0]at hp ⊢;exact Ts _ hp)⟩;exact⟨a,x,σ,H,rfl,(CU (Y:=X) I2).pins_of λp hp=>absurd hp (by simp),FlN.fl ⟨dn fp,ln,oe,vs,T,oT,ts,a1,a2,a3,a4,a5,dn a6,a7,a8,a10⟩,h⟩
def qO(ca:Nat->Addr)(X:Cx)(hl:List ExceptHandler)(hs:List MH):Prop:=∀(pn pins:Xw)(Φ:XS)(En:Ends)(σ:L2.St)(H:Hp)(s:Shared)(a:Addr)(x:Xc)(σ3:S3)(g:G)(μ:List Addr),(X.calm=true->X.A.handled=none)->Inv (Id X (pn++pins)) [] σ H s->qK (Id X (pn++pins)) ca a x H s.heap->Rep X.K ca μ σ3 g σ H->PostS X.K ca Φ En H μ (Dq hs x σ3 g)->wpAny (model X.prog X.w) X.A (handleBy (.ref a) X.env hl) (SP (Zi X ca pn Φ) pins En) (Zi X ca pn Φ).xe s
theorem lE(hf:X.env.frame=some X.env.locals:=by rfl):qO ca X [] []:=λpn pins Φ En σ H s a x σ3 g μ hcalm I fl R p=>eU hf I fl (p σ H μ .refl R)
theorem oK{hs:List MH}{h0:ExceptHandler}{hr:List ExceptHandler}(hb:Fi ca X body mb)(hh:qO ca X (h0::hr) hs)(hk:X.stack=X.env::X.outer:=by rfl)(hf:X.env.frame=some X.env.locals:=by rfl):Mv ca X (.Try body (h0::hr) [] [] pos) (SR mb hs):=by
 intro pn Φ pins s σ H En I ⟨σ3,g,μ,R,p⟩;refine wpAny_Try_except ?_;have p1:PostS X.K ca (λx σ' H'=>∃σ4 g4 μ4,Rep X.K ca μ4 σ4 g4 σ' H'/\PostS X.K ca Φ En H' μ4 (Dq hs x σ4 g4)) En H μ (mb σ3 g):=by
  unfold SR at p;cases hm:mb σ3 g with
  |nx _ _=>rw[hm]at p;exact p|rt _ _=>rw[hm]at p;exact p|bk _ _=>rw[hm]at p;exact p|ct _ _=>rw[hm]at p;exact p|raise x σ' g'=>rw[hm]at p;exact λσ4 H' μ' e R'=>⟨σ',g',μ',R',PostS.go e p⟩
  |stuck=>rw[hm]at p;exact p
 refine Tl (hb (pn++pins) _ [] s σ H En (lD (Y:=X) I) ⟨σ3,g,μ,R,p1⟩) (λf s1 h1=>?_) λv s1 h1=>?_
 ·cases f with
  |next=>obtain⟨σ',H',J,q⟩:=h1;exact Pj (X:=Zi X ca pn Φ) pins s1 σ' H' En (CU (Y:=X) J) q|brk=>obtain⟨σ',H',J,q⟩:=h1;exact⟨σ',H',CU (Y:=X) J,q⟩|cont=>obtain⟨σ',H',J,q⟩:=h1;exact⟨σ',H',CU (Y:=X) J,q⟩|ret u=>obtain⟨v,σ',H',J,r,q⟩:=h1;exact⟨v,σ',H',CU (Y:=X) J,r,q⟩
 ·obtain⟨a,x,σ',H',rfl,I1,fl,σ4,g4,μ4,R4,p4⟩:=h1;refine LD (X:=Id X (pn++pins)) I1 hk hf fl λh2 I2 f2=>?_;refine Ko (X:=Id X (pn++pins)) (fo:=none) I2 f2.t λh3 T oT ts oe vs I3 a1 a2 a3 a4 a5 a6 a7 a8 a9 a10=>?_;exact hh pn pins Φ En σ' H' _ a x σ4 g4 μ4 I.ok.hd I3 ⟨f2.1,f2.2.1,oe,vs,T,oT,ts,a1,a2,a3,a4,a5,a6,a7,a8,a9⟩ R4 p4
theorem DM{hl':List ExceptHandler}{hs:List MH}(hT:X.mg T=some (.ref C)/\CatX X.K ca C cs no)(hc:∀a,Fi ca (qN X (.ref a)) (b0::suite) mc)(hrest:qO ca X hl' hs)(hg:Gl X T:=by rfl)(hdb:(T==("__debug__" : Str))=false:=by decide):
  qO ca X (.ExceptHandler (some (.Name T np)) none (b0::suite) hpos::hl') (⟨cs,no,none,mc⟩::hs):=by
 intro pn pins Φ En σ H s a x σ3 g μ hcalm I fl R p;obtain⟨fp,ln,oe,vs,Tb,oT,ts,he,hox,hd,hv,hTa,fT,hTT,hdT,hs3⟩:=id fl;unfold Dq at p;by_cases hx:x.1∈cs
 ·rw[Uc hx]at p;dsimp only at p;refine wpAny_handleBy_cons (PH I hT.1 hT.2 he hox (hT.2.yes _ hx) hg hdb ?_) (by intro q;cases q);refine codeAny_handlers_suite ?_;refine Ko (fo:=none) I fl λh2 T2 oT2 ts2 oe2 vs2 I2 b1 b2 b3 b4 b5 b6 b7 b8 b9 b10=>?_;have hcc:=hc a (pn++pins) F0 [] {s with heap:=h2} σ H {nx:=En.nx,rt:=En.rt} (Inv.wish (DL (.ref a) I2) _) ⟨_,_,_,R,by
   cases hm:mc σ3 g with
   |nx σ5 g5=>rw[hm]at p;exact p|rt d g5=>rw[hm]at p;exact p|bk _ _=>rw[hm]at p;exact p.elim|ct _ _=>rw[hm]at p;exact p.elim|raise _ _ _=>rw[hm]at p;exact p.elim|stuck=>rw[hm]at p;exact p.elim⟩
  refine Tl (iI hcc) (λf s5 h5=>?_) λ_ _ z=>z.elim;cases f with
  |next =>obtain⟨σ',H',J,q⟩:=h5;exact⟨σ',H',CU (Y:=X) (MX (X:=Id X (pn++pins)) (v:=.ref a) hcalm (Inv.wish J _)),q⟩|ret u =>obtain⟨v,σ',H',J,r,q⟩:=h5;exact⟨v,σ',H',CU (Y:=X) (MX (X:=Id X (pn++pins)) (v:=.ref a) hcalm (Inv.wish J _)),r,q⟩|brk=>obtain⟨_,_,_,q⟩:=h5;exact q.elim|cont=>obtain⟨_,_,_,q⟩:=h5;exact q.elim
 ·rw[Uh hx]at p;by_cases hn:x.1∈no
  ·rw[Uc hn]at p;refine wpAny_handleBy_cons (PH I hT.1 hT.2 he hox (hT.2.no' _ hn) hg hdb ?_) (by intro q;cases q);exact hrest pn pins Φ En σ H s a x σ3 g μ hcalm I fl R p
  ·rw[Uh hn]at p;exact p.elim
end
def oM(sc scope:Scope)(N Nb:List Str)(no:Nat)(cap:List Nat):Bool:=decide (scope.kind=.function)&&scope.names.all (λy=>decide (y.2≠.cell))&&scope.names.all (λy=>decide (y.2≠.local)||decide (scope.names.lookup y.1=some .local)) &&
 scope.names.all (λy=>decide (y.2≠.free)||decide (sc.names.lookup y.1=some .cell)||decide (sc.names.lookup y.1=some .free))&&decide (Nb.length=no+cap.length) &&
 (List.range cap.length).all λj=>match cap[j]?,Nb[no+j]? with
  |some i,some x=>decide (N[i]?=some x)&&decide (scope.names.lookup x=some .free)&&(decide (sc.names.lookup x=some .cell)||decide (sc.names.lookup x=some .free))|_,_=>false
theorem ZG(hsc:X.env.scope=sc)(hN:X.N=N)(h:oM sc scope N Nb no cap=true):BScope X scope Nb no cap:=by
 subst hsc hN;unfold oM at h;simp only[UD,Wv]at h;obtain⟨⟨⟨⟨⟨h1,h2⟩,h3⟩,h4⟩,h5⟩,h6⟩:=h;rw[Uv]at h2 h3 h4 h6;refine⟨h1,λy hy=>UJ (h2 y hy),λy hy e=>?_,λy hy e=>?_,h5,λj i hj=>?_⟩
 ·rcases Wa.mp (h3 y hy) with z|z
  ·exact absurd e (UJ z)
  ·exact UJ z
 ·rcases Wa.mp (h4 y hy) with z|z
  ·rcases Wa.mp z with z|z
   ·exact absurd e (UJ z)
   ·exact .inl (UJ z)
  ·exact .inr (UJ z)
 ·have hl:j<cap.length:=(Ui.mp hj).1;have z:=h6 j (UU.mpr hl);rw[hj]at z;cases hx:Nb[no+j]? with
  |none=>rw[hx]at z;cases z|some x=>
   rw[hx]at z;simp only[UD,Bool.or_eq_true,Wv]at z;obtain⟨⟨z1,z2⟩,z3⟩:=z;refine⟨x,rfl,z1,z2,.inr z3,λq=>?_⟩;have q:X.env.scope.names.lookup x=some .local:=q;rcases z3 with z|z
   ·rw[z]at q;cases q
   ·rw[z]at q;cases q
def eV(K:Frag)(ca:Nat->Addr)(C:Addr)(cs no:List Nat):Bool:=(clsIn K C).isSome&&(typeIn K (.ref C)==some (.type "type"))&&(subIn K (.ref C) (.type "BaseException")==some true) &&
 cs.all (λc=>subIn K (.ref (ca c)) (.ref C)==some true)&&no.all λc=>subIn K (.ref (ca c)) (.ref C)==some false
theorem DN{K:Frag}{ca:Nat->Addr}{C:Addr}{cs no:List Nat}(h:eV K ca C cs no=true):CatX K ca C cs no:=by unfold eV at h;simp only[UD,Tn,Uv]at h;obtain⟨⟨⟨⟨h1,h2⟩,h3⟩,h4⟩,h5⟩:=h;exact⟨h1,h2,h3,h4,h5⟩
def G4(K:Frag)(C:Addr):Bool:=plainGet K C Str.empty&&hasDictIn K C&&plainOver K C&&(findIn K (.ref C) "__setattr__"==some (some (.builtin "object.__setattr__")))
theorem KK{K:Frag}{C:Addr}(h:G4 K C=true):Cls K C:=by unfold G4 at h;simp only[UD,Tn]at h;obtain⟨⟨⟨h1,h2⟩,h3⟩,h4⟩:=h;exact⟨h1,h2,h3,h4⟩
def Oi(K:Frag)(ca:Nat->Addr)(cs:List Nat)(f:Str):Bool:=cs.all λc=>G4 K (ca c)&&(findIn K (.ref (ca c)) f==some none)
theorem G5{K:Frag}{ca:Nat->Addr}{cs:List Nat}{f:Str}(h:Oi K ca cs f=true):FldOk K ca cs f:=by unfold Oi at h;rw[Uv]at h;exact⟨λc hc=>KK (Bd.mp (h c hc)).1,λc hc=>Tn.mp (Bd.mp (h c hc)).2⟩
theorem Zu(h:∃k,X.mg x=some (.str t k))(hg:Gl X x:=by rfl)(hd:(x==("__debug__" : Str))=false:=by decide):Za ca X (.Name x pos) (Qq (.str t)):=by obtain⟨k,h⟩:=h;exact Dr h (v:=.str t) ⟨k,rfl⟩ (λ_ _ _=>.str t) hg hd
theorem CV(h:∃k,X.mg x=some (.int i k))(hg:Gl X x:=by rfl)(hd:(x==("__debug__" : Str))=false:=by decide):Za ca X (.Name x pos) (Qq (.int i)):=by obtain⟨k,h⟩:=h;exact Dr h (v:=.int i) ⟨k,rfl⟩ (λ_ _ _=>.int i) hg hd
theorem lF:bootBuiltins "int"=some (.type Ty.int.name):=boot_int
theorem eY:bootBuiltins "bool"=some (.type Ty.bool.name):=by decide +kernel
theorem Kr:bootBuiltins "tuple"=some (.type Ty.tuple.name):=boot_tuple
section
variable{P:Program}{w:World}{K:Frag}{mg:KB}{base:Heap}{ca:Nat->Addr}
theorem lG{F:MF}{H:Hp}{a:Addr}{ns:List Int}(hO:dW H)(hS:SqL K H a (ns.map V.int))(h:∃g',F [.fl (ns.map D.int)] []=.ok (.bl true) g'):SX K ca 1 F [.ref a] H (λv _=>v=.bl true) λ_ _ _=>False:=by
 obtain⟨g',h⟩:=h;have hF:SqF K H a (ns.map V.int):=by
  rcases hS with(h|⟨o,h⟩)|h
  ·rcases hO a with z|⟨o,xs,z⟩
   ·rw[h]at z;cases z
   ·rw[h]at z;cases z
  ·exact .inl ⟨o,h⟩
  ·exact .inr (.inr h)
 refine⟨rfl,[.fl (ns.map D.int)],[],[],⟨rfl,.nil,λn a o h=>by simp at h⟩,.cons (.fl hF (Dens.ints ns)) .nil,?_⟩;rw[h];intro v H' μ' e r q;cases q;rfl
end
end L3
namespace L3
open PySem PySem.Spec
theorem sZ(h:us.length=0):us=[]:=List.eq_nil_of_length_eq_zero h
theorem len1(h:us.length=1):∃a0,us=[a0]:=by
 cases us with
 |nil=>cases h|cons a r =>have e:=sZ (Nat.succ.inj h);subst e;exact⟨a,rfl⟩
theorem len2(h:us.length=2):∃a0 a1,us=[a0,a1]:=by
 cases us with
 |nil=>cases h|cons a r =>obtain⟨b0,rfl⟩:=len1 (Nat.succ.inj h);exact⟨a,b0,rfl⟩
theorem len3(h:us.length=3):∃a0 a1 a2,us=[a0,a1,a2]:=by
 cases us with
 |nil=>cases h|cons a r =>obtain⟨b0,b1,rfl⟩:=len2 (Nat.succ.inj h);exact⟨a,b0,b1,rfl⟩
theorem len4(h:us.length=4):∃a0 a1 a2 a3,us=[a0,a1,a2,a3]:=by
 cases us with
 |nil=>cases h|cons a r =>obtain⟨b0,b1,b2,rfl⟩:=len3 (Nat.succ.inj h);exact⟨a,b0,b1,b2,rfl⟩
theorem len5(h:us.length=5):∃a0 a1 a2 a3 a4,us=[a0,a1,a2,a3,a4]:=by
 cases us with
 |nil=>cases h|cons a r =>obtain⟨b0,b1,b2,b3,rfl⟩:=len4 (Nat.succ.inj h);exact⟨a,b0,b1,b2,b3,rfl⟩
def DO:Expr->Bool
 |.Starred ..=>false|_=>true
theorem Ab(h:DO e=true):starEach (e::es) env=(false,eval e env)::starEach es env:=by cases e<;>first|rfl|exact absurd h Ue
theorem Qd(ha:Za ca X e me)(hr:A2 ca X es mr)(hs:DO e=true:=by rfl):A2 ca X (e::es) (Qb me mr):=XB ha hr (Ab hs)
def DP:Expr->Bool
 |.ListComp ..=>false|.SetComp ..=>false|.DictComp ..=>false|_=>true
theorem eZ(h:DP e=true):swapsWith e t l env=pure false:=by cases e<;>first|rfl|exact absurd h Ue
theorem QH(i:Nat){x:Str}{pos pos':Pos}{e:Expr}{me:ME}(hN:X.N.Nodup)(he:Za ca X e me)(hi:X.N[i]?=some x:=by rfl)(hx:L2.Loc X.env.scope x:=by first|exact Or.inl rfl|exact Or.inr rfl)(hs:DP e=true:=by rfl)(hf:X.fn x=true\/X.env.scope.names.lookup x=some .local:=by first|exact .inl rfl|exact .inr rfl):
  Mv ca X (.Assign [.Name x pos'] e pos) (QF (Qn i) me):=oH i hN he hi hx (eZ hs) hf
end L3
namespace PySem
namespace F
theorem IQ:Manifest.owners.lookup (String.ofList ['d','e','s','r','e','v','e','r'].reverse)=some Manifest.sig_reversed:=by kernel_rfl
theorem slot_rev_next:Slot "reversed" "__next__" "reversed.__next__" :=.of (owner:="reversed") (n:="__next__") (by rw[TK,Tg];kernel_rfl) (by decide +kernel) (by decide +kernel) (by decide +kernel)
  (by first|exact .inl (by decide +kernel)|exact .inr (by decide +kernel)) (by rw[RC];kernel_rfl)
theorem entry_rev_next:entryFor table "reversed.__next__"=some Builtin.«reversed.__next__»:=entryFor_of_tree (by kernel_rfl)
theorem args_rev_next_1(a:Value):argsOk "reversed.__next__" ⟨[a],[]⟩:=by unfold argsOk;rw[signature?_of (id:="reversed.__next__") (n:=['_','_','t','x','e','n','_','_']) (o:=['d','e','s','r','e','v','e','r']) (by kernel_rfl) IQ];kernel_rfl
theorem slot_rev_iter:Slot "reversed" "__iter__" "reversed.__iter__" :=.of (owner:="reversed") (n:="__iter__") (by rw[TK,Tg];kernel_rfl) (by decide +kernel) (by decide +kernel) (by decide +kernel)
  (by first|exact .inl (by decide +kernel)|exact .inr (by decide +kernel)) (by rw[RC];kernel_rfl)
theorem args_rev_iter_1(a:Value):argsOk "reversed.__iter__" ⟨[a],[]⟩:=by unfold argsOk;rw[signature?_of (id:="reversed.__iter__") (n:=['_','_','r','e','t','i','_','_']) (o:=['d','e','s','r','e','v','e','r']) (by kernel_rfl) IQ];kernel_rfl
theorem entry_rev_iter:entryFor table "reversed.__iter__"=some Builtin.«dict_keyiterator.__iter__»:=entryFor_alias (id':="dict_keyiterator.__iter__") (by kernel_rfl) (by first|rfl|decide +kernel|(unfold String.splitOn;simp +decide [String.splitOnAux])) (by decide +kernel) (by kernel_rfl)
theorem Ie:Slot "reversed" "__init__" "object.__init__" :=.of (owner:="object") (n:="__init__") (by rw[TK,Tg];kernel_rfl) (by decide +kernel) (by decide +kernel) (by decide +kernel)
  (by first|exact .inl (by decide +kernel)|exact .inr (by decide +kernel)) (by rw[RC];kernel_rfl)
theorem called_rev:TypeCalled "reversed" "reversed.__new__" "object.__init__" :=⟨by decide +kernel,by decide +kernel,⟨_,_,mro_reversed⟩,made_reversed,by decide +kernel,sub_reversed_self,Ie⟩
theorem no_tuple_reversed:typeLookup (.type "tuple") "__reversed__"=pure none:=by rw[TK,Tg];kernel_rfl
theorem tuple_getitem:typeLookup (.type "tuple") "__getitem__"=pure (some (.builtin "tuple.__getitem__")):=by rw[TK,Tg];kernel_rfl
theorem tuple_dict:isSubtype (.type "tuple") (.type "dict")=pure false:=by rw[RC];kernel_rfl
end F
end PySem
namespace L3
open PySem PySem.Spec PyProof.Rows PySem.Calls
section
variable{prog:Program}{w:World}{A:Around}{E:VP}{s:Shared}
def Oj(l:Addr)(i:Int):Obj:={cls:=.type "reversed",data:=.fields #[.ref l,rawInt i]}
def IsRevT(h:Heap)(a l:Addr)(i:Int):Prop:=∃o,h.get? a=some o/\o.cls=.type "reversed"/\o.data=.fields #[.ref l,rawInt i]
theorem IsRevT.typeIs{a l:Addr}{i:Int}(x:IsRevT s.heap a l i):s.TypeIs (.ref a) "reversed":=let ⟨o,ho,hc,_⟩:=x;⟨o,ho,hc⟩
theorem IsRevT.at(x:IsRevT h a l i)(e:∀o,h.get? a=some o->h'.get? a=some o):IsRevT h' a l i:=let ⟨o,ho,r⟩:=x;⟨o,e _ ho,r⟩
theorem Ol(l:Addr)(items:Array Value):MeetsIn prog w (Builtin.«reversed.__new__» ⟨[.type "reversed",.ref l],[]⟩) (λA R s=>IsTup s.heap l items/\(items.size:Int)<2^63/\∀tk,R (.ok (.ret (.ref s.heap.objs.size))) {s with heap:=s.heap.push (Oj l ((items.size:Int) - 1)),toks:=tk}):=by
 intro A R s ⟨hl,hz,h⟩;unfold Builtin.«reversed.__new__»;refine Ub (TX (newClass_reversed _) ?_);try dsimp only
 refine Ub (TX (a:=()) (by first|rfl|kernel_rfl) ?_);refine Ub (TX (a:=()) (by first|rfl|kernel_rfl) ?_);try dsimp only
 refine Ub (Rn hl.typeIs F.no_tuple_reversed ?_);try dsimp only
 refine Ub (show wpAny _ _ (isInstance (.ref l) (.type "dict") >>= _) _ _ _ from Ub (WF hl.typeIs F.tuple_dict ?_));try dsimp only
 rw[Uh Ue];refine Ub (Rn hl.typeIs F.tuple_getitem ?_);try dsimp only
 rw[Uc (by decide)];refine Us ?_;rw[Uh (by decide)];refine Ub (len_tuple hl hz ?_);refine Ub (TX (a:=some (items.size:Int)) (by rfl) ?_);try dsimp only
 refine Ub (show wpAny _ _ (newObj (.type "reversed") (.fields #[Value.ref l,rawInt ((items.size:Int) - 1)])) _ _ _ from U7 ?_ (by size_fits));exact Us (h _)
theorem CF{l:Addr}{items:Array Value}{Q:VP}(hl:IsTup s.heap l items)(hz:(items.size:Int)<2^63)(h:∀tk,Q (.ref s.heap.objs.size) {s with heap:=s.heap.push (Oj l ((items.size:Int) - 1)),toks:=tk}):wpAny (model prog w) A (call (.type "reversed") [.ref l]) Q E s:=callType_newIn F.called_rev (by decide) (F.typeCall_reversed_1 _) (F.newCall_reversed_1 _) (λobj=>F.args_object_init_2 obj _) F.entry_reversed_new (Ol l items) ⟨hl,hz,λtk=>⟨⟨_,UE _ rfl,rfl⟩,h tk⟩⟩
theorem F9{it l:Addr}{i:Int}{Q:VP}(hit:IsRevT s.heap it l i)(h:Q (.ref it) s):wpAny (model prog w) A (pyIter (.ref it)) Q E s:=by refine wpAny_pyIter_slot hit.typeIs F.slot_rev_iter (Rb F.slot_rev_iter hit.typeIs F.entry_rev_iter ?_ (F.args_rev_iter_1 _));show wpAny _ _ (ret (.ref it)) _ _ s;exact Us ⟨_,rfl, "reversed",_,hit.typeIs,F.slot_rev_next.lookup,h⟩
theorem Fo{it l:Addr}{i:Nat}{items:Array Value}{x:Value}{Q:Option Value->Shared->Prop}(hit:IsRevT s.heap it l (i:Int))(hl:IsTup s.heap l items)(hx:items[i]?=some x)(hz:(items.size:Int)<2^63)(hQ:∀h' tk,IsRevT h' it l ((i:Int) - 1)->Heap.SameBut it s.heap h'->Q (some x) {s with heap:=h',toks:=tk}):wpAny (model prog w) A (pyNext (.ref it)) Q E s:=by
 obtain⟨o,ho,hc,hd⟩:=id hit;have hi:i<items.size:=(Ta.mp hx).1;unfold pyNext;refine Ub (wpAny_attempt (TV (name:=Str.ofString "__next__") hit.typeIs F.slot_rev_next
  (Rb F.slot_rev_next hit.typeIs F.entry_rev_next ?_ (F.args_rev_next_1 _))))
 unfold Builtin.«reversed.__next__»;refine Ub (TX (a:=(Value.ref it,[])) rfl ?_);try dsimp only
 refine Ub (Th ho hd (x:=.ref l) rfl ?_);refine Ub (Th ho hd (x:=rawInt (i:Int)) rfl ?_);show wpAny _ _ (if (i:Int)<0 then _ else _) _ _ s;rw[Uh (by omega)];refine Ub (Rn hl.typeIs F.tuple_getitem ?_);try dsimp only
 rw[Uh (by decide)];refine Ub (wpAny_mkInt ?_);refine Ub (wpAny_attempt (getItem_tuple (k:=(i:Int)) (j:=i) (x:=x) (items:=items) hl (by omega) (by omega) ?_ hx ?_))
 ·unfold seqIndex?;have e0:¬((i:Int)<0):=by omega
  simp only[e0,Ry];simp;exact hi
 try dsimp only
 refine Ub (Th ho hd (x:=rawInt (i:Int)) rfl ?_);try dsimp only
 refine Ub (Ra ho hd (by simp) ?_);first
 |refine Us ⟨x,rfl,Us (hQ _ _ ?_ (Rh ..))⟩
 |refine Ub (Us (Us ⟨x,rfl,Us (hQ _ _ ?_ (Rh ..))⟩))
 exact⟨_,T1 _ ho (RE (TW hd _)),(Obj.cls_mapFields ..).trans hc,by rw[TW hd];simp⟩
theorem Gk{it l:Addr}{Q:Option Value->Shared->Prop}(hh:A.handled=none)(hit:IsRevT s.heap it l (-1))(hQ:∀h' tk,Heap.ExtBut it s.heap h'->Q none {s with heap:=h',toks:=tk}):wpAny (model prog w) A (pyNext (.ref it)) Q E s:=by
 obtain⟨o,ho,hc,hd⟩:=id hit;unfold pyNext;refine Ub (wpAny_attempt (TV (name:=Str.ofString "__next__") hit.typeIs F.slot_rev_next
  (Rb F.slot_rev_next hit.typeIs F.entry_rev_next ?_ (F.args_rev_next_1 _))))
 unfold Builtin.«reversed.__next__»;refine Ub (TX (a:=(Value.ref it,[])) rfl ?_);try dsimp only
 refine Ub (Th ho hd (x:=.ref l) rfl ?_);refine Ub (Th ho hd (x:=rawInt (-1)) rfl ?_);show wpAny _ _ (if (-1:Int)<0 then _ else _) _ _ s;rw[Uc (by decide)];refine Ub (wpAny_rule ?_);refine Ub (show wpAny _ _ (setField (.ref it) 1 (rawInt (-1)) >>= λ_=>setField (.ref it) 0 .none) _ _ _ from Ub (Ra ho hd (by simp) ?_));have hd1:=TW hd (·.setIfInBounds 1 (rawInt (-1)));have ho1:=T1 _ ho (RE hd1);have sb1:Heap.SameBut it s.heap (s.heap.update it (Obj.mapFields (·.setIfInBounds 1 (rawInt (-1))))):=Rh ..;generalize s.heap.update it (Obj.mapFields (·.setIfInBounds 1 (rawInt (-1))))=h1 at ho1 sb1 ⊢;refine Ra (s:={s with heap:=h1}) ho1 hd1 (by simp) ?_;have sb2:Heap.SameBut it h1 (h1.update it (Obj.mapFields (·.setIfInBounds 0 Value.none))):=Rh ..;generalize h1.update it (Obj.mapFields (·.setIfInBounds 0 Value.none))=h2 at sb2 ⊢;first
 |show wpAny _ _ (newExc (.type "StopIteration") [] >>= _) _ _ _
 | (refine Ub ?_;show wpAny _ _ (newExc (.type "StopIteration") [] >>= _) _ _ _)
 refine Ub ?_;simp only[newExc,newTuple];refine Ub (U7 ?_ (by size_fits));refine Ub (m:=firstArgMember _ _) (TX (a:=Value.none) (by first|rfl|(simp only[firstArgMember];rfl)) ?_);refine U7 ?_ (by size_fits);simp only[raiseNew];refine Ub (wpAny_handled ?_);first|rw[show A.in1.handled=none from hh]|rw[hh]
 refine Ub (Us (wpAny_throw ?_));refine Ub (WF (T:="StopIteration") (b:=true) ⟨_,UE _ rfl,rfl⟩ isSubtype_stop ?_);exact Us (hQ _ _ λb o hb e=>(((Heap.ExtBut.refl _ _).push _).push _) b o hb (sb2.extBut b o hb (sb1.extBut b o hb e)))
end
end L3
namespace L3
open PySem PySem.Spec PyProof.Rows L2
def Om(d:D)(g:G):Res Src:=match QG g d with
 |some (false,ds)=>.ok ⟨λg i=>if i=ds.length then some none else if i<ds.length then (match QG g d with
  |some (_,es)=>if es.length=ds.length then some es[ds.length-1-i]? else none
  |none=>none) else none,ds.length⟩ g
 |_=>.stuck
def Fp(a:ME):MI:=λσ g=>(a σ g).bind Om
def tD(b:Bool)(K:Frag)(a:Addr)(n:Nat):It:=⟨λi H=>∃xs x,Sq b K H a xs/\xs.length=n/\i<n/\xs[n-1-i]?=some x,λi H x H'=>H'=H/\∀xs,Sq b K H a xs->xs[n-1-i]?=some x,λi _=>i=n⟩
theorem Ac{P:Program}{w:World}{K:Frag}{tg:Expr}(a it:Addr)(n:Nat):Turn P w K tg (tD false K a n) [it] it (λi h=>IsRevT h it a ((n:Int) - 1 - (i:Int))) where
 mem:=by simp
 obj:=λi h st b hb=>by
  have e:b=it:=by simpa using hb
  subst e;obtain⟨o,e,c,d⟩:=st;exact⟨o,e,λv z=>by rw[d]at z;cases z⟩
 keep:=λi h h' st k=>st.at λo e=>k it (by simp) o e
 item:=by
  intro X hP hw hK hc i pins s σ H E I hf st hg;subst hP hw hK;obtain⟨xs,x,hq,hn,hi,hx⟩:=hg;obtain⟨its,rv,p,hz⟩:=I.tuple (show SqT X.K H a xs from hq);obtain⟨u,hu,ru⟩:=rv.get hx;have hl:=rv.length;have h63:=BE;obtain⟨f0,f1,f2,f3,f4,f5⟩:=hf it (by simp);have e:(n:Int) - 1 - (i:Int)=((n-1-i:Nat):Int):=by omega
  rw[e]at st;refine Fo st p (x:=u) (by simpa using hu) (by simp only[Ug]<;>omega) λh' tk st' sb=>?_;have I1:Inv X pins σ H {s with heap:=h',toks:=tk}:=I.turned (t':=tk) (λb o hb e=>(sb.2 b hb).trans e) f0 f1 f3 f4 f5;obtain⟨o,eo,c,d⟩:=id st';have e2:((n-1-i:Nat):Int) - 1=(n:Int) - 1 - ((i+1:Nat):Int):=by omega
  rw[e2]at st';exact⟨u,rfl,Pk (s:={s with heap:=h',toks:=tk}) eo c d (by decide) ⟨x,H,I1,ru,⟨rfl,λys hy=>by rw[I.tuple_inj hy hq];exact hx⟩,st',λb hb=>(hf b hb).1⟩⟩
 done:=by
  intro X hP hw hK hc i pins s σ H E I hf st hg;subst hP hw hK;have hg:i=n:=hg;subst hg;have e:(i:Int) - 1 - (i:Int) = -1:=by omega
  rw[e]at st;obtain⟨f0,f1,f2,f3,f4,f5⟩:=hf it (by simp);exact Gk (I.ok.hd hc) st λh' tk eb=>⟨rfl,I.turned (t':=tk) (λb o hb e=>eb b o hb e) f0 f1 f3 f4 f5⟩
 self:=λ_ _ _ _ _ st h=>F9 st h
theorem lH{ta:TA}(hg:Gl X "reversed")(hm:X.mg "reversed"=none)(ha:PA X [e] ta)(hs:starEach [e] X.env=[(false,eval e X.env)]):
  PI X tg (.Call (.Name "reversed" p) [e] [] pos) (λσ H R=>ta σ H λvs H1=>∃a xs,vs=[.ref a]/\SqT X.K H1 a xs/\R (tD false X.K a xs.length) H1):=by
 intro pins s σ H R I h;refine Call_ (KC I hg hm boot_reversed (U1 (Ja (ha pos pins s σ H _ I h) λus s1 ⟨vs,H1,I1,r1,q1⟩=>?_) hs rfl));obtain⟨a,xs,rfl,hq,q⟩:=q1;cases r1 with
 |cons r rr=>
  cases rr;cases r;have h63:=BE;have fp:∀c∈[s1.heap.objs.size],FpOk X pins H1 c:=λc hc=>by
   have e:c=s1.heap.objs.size:=by simpa using hc
   subst e;exact I1.fpOk (Um _) (I1.hok.fresh (Um _))
  obtain⟨its,rv,pl,hz⟩:=I1.tuple hq;have hl:=rv.length;refine CF pl (by simp only[Ug]<;>omega) λtk=>?_;have ho:({s1 with heap:=s1.heap.push (Oj a ((its.toArray.size:Int) - 1)),toks:=tk}:Shared).heap.get? s1.heap.objs.size=some (Oj a ((its.toArray.size:Int) - 1)):=UE _ rfl;have st:IsRevT (s1.heap.push (Oj a ((its.toArray.size:Int) - 1))) s1.heap.objs.size a ((xs.length:Int) - 1 - ((0:Nat):Int)):=⟨_,UE _ rfl,rfl,by simp[Oj,hl]⟩;refine F9 (s:={s1 with heap:=s1.heap.push (Oj a ((its.toArray.size:Int) - 1)),toks:=tk}) st ?_;exact⟨s1.heap.objs.size,[s1.heap.objs.size],_,_,H1,rfl,I1.kept (t':=tk) λb o e=>Uk _ e,Ac a _ xs.length,st,fp,q⟩
theorem fA{K:Frag}{μ:List Addr}{H:Hp}{g:G}{a:Addr}{d:D}{b:Bool}{ds:List D}{n:Nat}(q:Den K μ H (.ref a) d)(h:QG g d=some (b,ds))(hn:n=ds.length):
  cR K ca μ H ⟨λg i=>if i=ds.length then some none else if i<ds.length then (match QG g d with
  |some (_,es)=>if es.length=ds.length then some es[ds.length-1-i]? else none
  |none=>none) else none,ds.length⟩ (tD b K a n):=by
 subst hn;intro i H1 μ1 g1 ex r;dsimp only;by_cases h1:i=ds.length
 ·rw[Uc h1];exact h1
 ·rw[Uh h1];by_cases h2:i<ds.length
  ·rw[Uc h2];cases k1:QG g1 d with
   |none=>trivial|some p1=>
    obtain⟨c1,es⟩:=p1;dsimp only;by_cases h3:es.length=ds.length
    ·rw[Uc h3];have f1:=G2 (K:=K) (μ:=μ) (H:=H) (μ':=μ) (H':=H) (v:=.ref a) h k1;subst f1;obtain⟨z1,vs,w1,s1,d1s⟩:=VE r (q.mono ex) k1;cases w1;have hx:es[ds.length-1-i]?=some (es[ds.length-1-i]'(by omega)):=by simp[show ds.length-1-i<es.length by omega]
     rw[hx];obtain⟨vx,hvx,qx⟩:=d1s.get hx;have hvl:=d1s.length;refine⟨⟨vs,vx,s1,by omega,h2,hvx⟩,λx H' yl=>?_⟩;obtain⟨rfl,u1⟩:=yl;have:=u1 vs s1;rw[hvx]at this;cases this;exact⟨.refl,r,qx⟩
    ·rw[Uh h3];trivial
  ·rw[Uh h2];trivial
theorem PJ(hm:X.mg "reversed"=none)(he:Za ca X e me)(hg:Gl X "reversed":=by rfl)(hs:starEach [e] X.env=[(false,eval e X.env)]:=by rfl):eD ca X tg (.Call (.Name "reversed" p) [e] [] pos) (Fp me):=
 λpn Φ=>EG (lH (X:=Zi X ca pn Φ) hg hm (XB he Qh hs pn Φ) hs) λσ H R hQ=>by
  obtain⟨σ3,g,μ,Rp,q⟩:=hQ;refine⟨σ3,g,μ,Rp,?_⟩;unfold Fp at q;unfold Qb Qi;cases hm1:me σ3 g with
  |raise _ _=>rw[hm1]at q;exact q|stuck=>rw[hm1]at q;exact q.elim|ok d g1=>
   rw[hm1,Res.bind_ok]at q;rw[Res.bind_ok,Res.bind_ok];intro vs H1 μ1 ex r1 q1;unfold Om at q;cases hs1:QG g1 d with
   |none=>rw[hs1]at q;exact q.elim|some p1=>
    obtain⟨b,ds⟩:=p1;rw[hs1]at q;cases b with
    |true=>exact q.elim|false=>
     cases q1 with
     |@cons v _ _ _ n1 q1 =>cases q1;obtain⟨a,ws,rfl,sq,dn⟩:=VE r1 n1 hs1;exact⟨a,ws,rfl,sq,q _ H1 μ1 ex r1 (fA n1 hs1 dn.length)⟩
end L3
namespace L3
open PySem
def LJ(d:D)(g:G):Res Src:=match QG g d with
 |some (true,ds)=>.ok ⟨λg i=>(match QG g d with
  |some (_,es)=>(match es[i]? with
   |some x=>some (some (.tup [.int i,x]))|none=>some none)
  |none=>none),ds.length⟩ g
 |_=>.stuck
def Cq(a:ME):MI:=λσ g=>(a σ g).bind LJ
open PySem.Spec PyProof.Rows L2
def tE(K:Frag)(a:Addr):It:=⟨λi H=>∃xs x,SqL K H a xs/\xs[i]?=some x,λi H v H'=>∃p x,H p=none/\v=.ref p/\H'=Ji H p (.tup [.int (i:Int),x])/\∀xs,SqL K H a xs->xs[i]?=some x,λi H=>∃xs,SqL K H a xs/\xs.length<=i⟩
def tF(e it l:Addr)(i:Nat)(h:Heap):Prop:=(∃old,IsEnum h e it (i:Int) old)/\h.IsListIter it l i
theorem Ad{P:Program}{w:World}{K:Frag}{elts:List Expr}{kk:Nat}{tp:Pos}(e it l:Addr)(hei:e≠it):
  Turn P w K (.Tuple elts kk tp) (tE K l) [e,it] e (tF e it l) where
 mem:=by simp
 obj:=λi h st b hb=>by
  obtain⟨⟨old,hE⟩,hI⟩:=st;have hb':b=e\/b=it:=by simpa using hb
  rcases hb' with rfl|rfl
  ·exact⟨_,hE,λv q=>by cases q⟩
  ·obtain⟨o,eo,c,d⟩:=hI;exact⟨o,eo,λv z=>by rw[d]at z;cases z⟩
 keep:=λi h h' st k=>by obtain⟨⟨old,hE⟩,hI⟩:=st;exact⟨⟨old,k e (by simp) _ hE⟩,hI.at λo x=>k it (by simp) o x⟩
 item:=by
  intro X hP hw hK hc i pins s σ H E I hf st hg;subst hP hw hK;obtain⟨xs,x,q1,hx⟩:=hg;obtain⟨its,r1,p1,hz1⟩:=I.list q1;obtain⟨u,hu,ru⟩:=r1.get hx;obtain⟨⟨old,hE⟩,hI⟩:=st;have fe:=hf e (by simp);have fi:=hf it (by simp);refine wpAny_pyNext_enum_item hE hI p1.isList (x:=u) (by simpa using hu) hei λh' ho hit' hT hsz hk=>?_;have hp:H s.heap.objs.size=none:=I.hok.fresh (Um _);have inC:∀b,b∈[e,it]->FpOk X pins H b:=λb hb=>hf b hb;have hk':∀b o,b∉[e,it]->s.heap.get? b=some o->h'.get? b=some o:=λb o hb ee=>hk b o (λq=>hb (by simp[q])) (λq=>hb (by simp[q])) ee;have nC:∀b v,H b=some v->b∉[e,it]:=λb v ee hb=>by rw[(inC b hb).1]at ee;cases ee
  have nP:∀b v,H b=some v->b≠s.heap.objs.size:=λb v ee=>Z8 ee hp;have I1:Inv X pins σ (Ji H s.heap.objs.size (.tup [.int (i:Int),x])) {s with heap:=h',toks:=s.toks+1}:=by
   refine I.step (g':=s.gens) (t':=s.toks+1) (d':=s.drawn) (ch:=[e,it]) (λb hb=>⟨(inC b hb).2.2.2.1,(inC b hb).2.1,(inC b hb).2.2.2.2.1,(inC b hb).2.2.2.2.2⟩) (λb o _ _ hb ee _=>hk' b o hb ee) (λb o _ _ hb ee _=>⟨o.slots,hk' b o hb ee⟩)
    (λb o hb ee n=>by rw[Q9 (UY (Uz ee))];exact n) (λb o hb ee=>⟨o,hk' b o hb ee⟩) (λb v ee=>by rw[Q9 (nP b _ ee)];exact ee) (λb o v ee=>by rw[Q9 (nP b _ ee)];exact ee) (λb ps ee=>⟨#[],by rw[Q9 (nP b _ ee),ee];simp⟩)
    (λm hm=>?_) (λb v ee=>?_) I.bare
   ·obtain⟨o,es,ep,hoo,rr⟩:=hm;exact⟨o,es,ep,hk' _ o (λhb=>(inC _ hb).2.1 rfl) hoo,rr⟩
   ·by_cases hb:b=s.heap.objs.size
    ·subst hb;rw[Q6]at ee;cases ee;exact⟨by rw[RS];show 2<=16777216;decide,[.int (i:Int) s.toks,u],.cons ⟨_,rfl⟩ (.cons ru .nil),⟨_,hT,rfl,_,rfl⟩⟩
    ·rw[Q9 hb]at ee;refine(I.hok b v ee).stay (λc' v' hc' q=>?_) (λc' q=>by rw[Q9 (nP c' _ q)];exact q) λc' xs' q=>by rw[Q9 (nP c' _ q)];exact q
     rcases hc' with rfl|hc'
     ·exact hk' _ _ (nC _ _ ee) q
     ·exact hk' _ _ (nC _ _ hc') q
  refine⟨_,rfl,wpAny_letOwnedTupleGo_enum (s:={s with heap:=h',toks:=s.toks+1}) ho λh'' hE'' hs''=>?_⟩;have hpe:s.heap.objs.size≠e:=B5 (Uz hE);have I2:Inv X pins σ (Ji H s.heap.objs.size (.tup [.int (i:Int),x])) {s with heap:=h'',toks:=s.toks+1}:=Inv.turned (s:={s with heap:=h',toks:=s.toks+1}) (t':=s.toks+1) I1 (λb o hb ee=>hs''.extBut b o hb ee) (by rw[Q9 (Ne.symm hpe)];exact fe.1) fe.2.1 fe.2.2.2.1 fe.2.2.2.2.1 fe.2.2.2.2.2;have e2:(i:Int)+1=((i+1:Nat):Int):=by omega
  rw[e2]at hE'';refine⟨.ref s.heap.objs.size,_,I2,rfl,⟨_,x,hp,rfl,rfl,λxs' q=>by rw[I.list_inj q q1];exact hx⟩,⟨⟨_,hE''⟩,hit'.at λo ee=>hs''.extBut _ o (Ne.symm hei) ee⟩,λb hb=>?_⟩;have lt:b<s.heap.objs.size:=by
   have hb':b=e\/b=it:=by simpa using hb
   rcases hb' with rfl|rfl
   ·exact Uz hE
   ·obtain⟨o,eo,_⟩:=hI;exact Uz eo
  rw[Q9 (UY lt)];exact(hf b hb).1
 done:=by intro X hP hw hK hc i pins s σ H E I hf st hg;subst hP hw hK;obtain⟨xs,q1,hl⟩:=hg;obtain⟨its,r1,p1,hz1⟩:=I.list q1;have hlen:=r1.length;obtain⟨⟨old,hE⟩,hI⟩:=st;obtain⟨f0,f1,f2,f3,f4,f5⟩:=hf it (by simp);exact wpAny_pyNext_enum_end (I.ok.hd hc) hE hI p1.isList (WM (by simp;omega)) λh' eb=>⟨rfl,I.turned (t':=s.toks) (λb o hb ee=>eb b o hb ee) f0 f1 f3 f4 f5⟩
 self:=λ_ _ _ _ _ st h=>by obtain⟨⟨old,hE⟩,_⟩:=st;exact wpAny_pyIter_enum hE h
theorem fB{ta:TA}(hg:Gl X "enumerate")(hm:X.mg "enumerate"=none)(ha:PA X [e1] ta)(hs:starEach [e1] X.env=[(false,eval e1 X.env)]):
  PI X (.Tuple elts kk tp) (.Call (.Name "enumerate" p) [e1] [] pos) (λσ H R=>ta σ H λvs H1=>∃a xs,vs=[.ref a]/\SqL X.K H1 a xs/\R (tE X.K a) H1):=by
 intro pins s σ H R I h;refine Call_ (KC I hg hm boot_enumerate (U1 (Ja (ha pos pins s σ H _ I h) λus s1 ⟨vs,H1,I1,r1,q1⟩=>?_) hs rfl));obtain⟨a,xs,rfl,hq,q⟩:=q1;cases r1 with
 |cons ru rr=>
  cases rr;cases ru;obtain⟨its,v1,p1,hz⟩:=I1.list hq;refine call_enumerate_list p1.isList λh' hE hI hsz hk=>wpAny_pyIter_enum hE ?_;have I2:Inv X pins σ H1 {s1 with heap:=h'}:=I1.kept (t':=s1.toks) hk;refine⟨s1.heap.objs.size+1,_,_,_,H1,rfl,I2,Ad _ s1.heap.objs.size a (Nat.succ_ne_self _),⟨⟨_,hE⟩,hI⟩,λb hb=>?_,q⟩;have hb':b=s1.heap.objs.size+1\/b=s1.heap.objs.size:=by simpa using hb
  have hle:s1.heap.objs.size<=b:=by rcases hb' with h|h<;>rw[h]<;>first|exact Um _|exact Nat.le_add_right _ _
  exact I1.fpOk hle (I1.hok.fresh hle)
theorem DQ{K:Frag}{μ:List Addr}{H:Hp}{g:G}{v1:V}{d1:D}{xs:List D}{t:Nat}(q1:Den K μ H v1 d1)(h1:QG g d1=some (true,xs)){a1:Addr}(e1:v1=.ref a1):
  cR K ca μ H ⟨λg i=>(match QG g d1 with
  |some (_,es)=>(match es[i]? with
   |some x=>some (some (.tup [.int i,x]))|none=>some none)
  |none=>none),t⟩ (tE K a1):=by
 intro i H1 μ1 g1 ex r;dsimp only;cases k1:QG g1 d1 with
 |none=>trivial|some p1=>
  obtain⟨c1,xs1⟩:=p1;have f1:=G2 (K:=K) (μ:=μ) (H:=H) (μ':=μ) (H':=H) (v:=v1) h1 k1;subst f1;obtain⟨z1,vs,w1,s1,d1s⟩:=VE r (q1.mono ex) k1;rw[e1]at w1;cases w1;dsimp only;cases hx:xs1[i]? with
  |none =>refine⟨vs,s1,?_⟩;rw[d1s.length];exact TD.mp hx|some x =>obtain⟨vx,hvx,qx⟩:=d1s.get hx;refine⟨⟨vs,vx,s1,hvx⟩,λv H' yl=>?_⟩;obtain⟨pp,x',hp,rfl,rfl,u1⟩:=yl;have:=u1 vs s1;rw[hvx]at this;cases this;exact⟨ZU hp,r.new hp,.tup (.of Q6) (.cons (.int _) (.cons (qx.mono (ZU hp)) .nil))⟩
theorem DR(hm:X.mg "enumerate"=none)(h1:Za ca X e1 m1)(hg:Gl X "enumerate":=by rfl)(hs:starEach [e1] X.env=[(false,eval e1 X.env)]:=by rfl):eD ca X (.Tuple elts kk tp) (.Call (.Name "enumerate" p) [e1] [] pos) (Cq m1):=
 λpn Φ=>EG (fB (X:=Zi X ca pn Φ) hg hm (XB h1 Qh hs pn Φ) hs) λσ H R hQ=>by
  obtain⟨σ3,g,μ,Rp,q⟩:=hQ;refine⟨σ3,g,μ,Rp,?_⟩;unfold Cq at q;unfold Qb Qi;cases hm1:m1 σ3 g with
  |raise _ _=>rw[hm1]at q;exact q|stuck=>rw[hm1]at q;exact q.elim|ok d1 g1=>
   rw[hm1,Res.bind_ok]at q;rw[Res.bind_ok,Res.bind_ok];intro vs H1 μ1 ex r1 q1;unfold LJ at q;cases hs1:QG g1 d1 with
   |none=>rw[hs1]at q;exact q.elim|some p1=>
    obtain⟨b,ds⟩:=p1;rw[hs1]at q;cases b with
    |false=>exact q.elim|true=>
     cases q1 with
     |@cons v _ _ _ n1 q1 =>cases q1;obtain⟨a,ws,rfl,sq,dn⟩:=VE r1 n1 hs1;exact⟨a,ws,rfl,sq,q _ H1 μ1 ex r1 (DQ n1 hs1 rfl)⟩
end L3
namespace PySem
open Sem (wp)
namespace F
theorem nolen_lri:typeLookup (.type "list_reverseiterator") "__len__"=pure none:=by rw[TK,Tg];kernel_rfl
theorem hint_lri:typeLookup (.type "list_reverseiterator") "__length_hint__"=pure (some (.builtin "list_reverseiterator.__length_hint__")):=by rw[TK,Tg];kernel_rfl
end F
theorem EM{Q:List Value->Shared->Prop}(W:WalksS prog w A.in1 I fp wr G n P St)(hT:∀i s,St i s->s.TypeIs (.ref I) "list_reverseiterator")(hst:St 0 s)(hfp:∀b∈fp,b<s.heap.objs.size)(hI:I∈fp)(hQ:∀s' acc,Moved wr G s s'->ItemsOf P acc n->Q acc.toList s')(hn:n<=sizeLine):wpAny (model prog w) A (collect (.ref I)) Q E s:=by
 have hSf:s.heap.objs.size∉fp:=λhm=>To _ (hfp _ hm);have hSI:s.heap.objs.size≠I:=λe=>hSf (e ▸ hI);unfold collect;refine Ub (wpAny_runValue (WU F.entry_proto_collect ?_));rw[RO F.plain_proto_collect _];show wpAny _ A.in1 (newList [] >>= λl=>again (.builtin "list.__iadd__" ⟨[l,.ref I],[]⟩)) _ _ s;refine Ub (U7 ?_);refine Us ⟨plainId_quiet F.plain_list_iadd _,WU F.entry_list_iadd ?_⟩;rw[RO F.plain_list_iadd _];have hst₁:=W.frame 0 s (s.heap.push {cls:=.type "list",data:=.seq ([]:List Value).toArray}) s.toks hst (Um _) λb _ o e=>Uk _ e;have hS₁:(s.heap.push {cls:=.type "list",data:=.seq ([]:List Value).toArray}).get? s.heap.objs.size=some {cls:=.type "list",data:=.seq ([]:List Value).toArray}:=UE _ rfl;have h1:Builtin.List.listSameRef (.ref s.heap.objs.size) (.ref I)=false:=by simp[Builtin.List.listSameRef,hSI]
 show wpAny _ A.in1 (Builtin.List.listExtendWith (.ref s.heap.objs.size) (.ref I) (.ref s.heap.objs.size)) _ _ _;unfold Builtin.List.listExtendWith;refine Ub (Wb (hT 0 _ hst₁) ?_);rw[Uh (by rw[h1];decide)];refine Ub (W.self 0 _ _ _ hst₁ ?_);refine Ub (Rk ?_);unfold Builtin.List.listLengthHint;refine Ub (Rn (hT 0 _ hst₁) F.nolen_lri ?_);show wpAny _ A.in1 (specialOf (Value.ref I) (Str.ofString "__length_hint__") >>= _) _ _ _;refine Ub (Rn (hT 0 _ hst₁) F.hint_lri ?_)
 (generalize hid:("list_reverseiterator.__length_hint__" : String)=id0;(fail_if_success (clear hid id0));wp_delta;rw[show splitId id0=some ("list_reverseiterator","__length_hint__") from by subst hid;decide +kernel];subst hid)
 refine Ub (WF (b:=true) (hT 0 _ hst₁) (by rw[RC];kernel_rfl) ?_);refine Us ?_;rw[Uh (by decide)];refine Us ⟨plainId_quiet F.plain_extend_loop _,codeAny_extend_loopS W hn _ hSf _ n 0 _ _ _ rfl (RT _) hst₁ hS₁ (ItemsOf.nil P) λs' acc' c' hm hS' hacc=>?_⟩;show wpAny _ A (load s.heap.objs.size >>= _) _ _ s';refine Ub (wpAny_load hS' ?_);exact Us (hQ s' acc' (Moved.drop_new (o:={cls:=.type "list",data:=.seq ([]:List Value).toArray}) (tk:=s.toks) hm (Um _)) hacc)
theorem CW{Q₁:VP}(W:WalksS prog w A.in1.in1 I fp wr G n P St)(hT:∀i s,St i s->s.TypeIs (.ref I) "list_reverseiterator")(hst:St 0 s)(hfp:∀b∈fp,b<s.heap.objs.size)(hI:I∈fp)(h:∀s' acc,Moved wr G s s'->ItemsOf P acc n->Q₁ (.ref s'.heap.objs.size) {s' with heap:=s'.heap.push {cls:=.type "tuple",data:=.seq acc} })(hsz:n<=sizeLine):
  codeAny (model prog w) A (.call (.builtin "tuple.__new__") ⟨[.type "tuple",.ref I],[]⟩) (wants Q₁ E) s:=by
 refine codeAny_of_tree ?_;show wpAny _ A.in1 (do checkBuiltinCall "tuple.__new__" ⟨[.type "tuple",.ref I],[]⟩;again (.builtin "tuple.__new__" ⟨[.type "tuple",.ref I],[]⟩)) _ _ s;refine Ub (TX (F.newCall_tuple_1 _) (Us ⟨plainId_quiet F.plain_tuple_new _,WU F.entry_tuple_new ?_⟩));rw[RO F.plain_tuple_new _];have hsub:=sub_tuple_self;have hinit:=init_tuple_lookup;have hmh:=madeHere_tuple;have hTI:=hT 0 s hst
 wp_walk using Wb hTI,EM (hn:=hsz) W hT hst hfp hI
 intro s' acc hm hacc;show wpAny _ _ (Builtin.Tuple.tupleExact acc.toList.toArray >>= λv=>ret v) _ _ _;unfold Builtin.Tuple.tupleExact;refine Ub (U7 ?_ (by show acc.toList.toArray.size<=sizeLine;simp only[Array.toArray_toList];rw[hacc.1];exact hsz));refine Us ?_;have e:acc.toList.toArray=acc:=by simp
 rw[e];exact h s' acc hm hacc
theorem G6{Q:VP}(W:WalksS prog w A.in1.in1.in1 I fp wr G n P St)(hT:∀i s,St i s->s.TypeIs (.ref I) "list_reverseiterator")(hst:St 0 s)(hfp:∀b∈fp,b<s.heap.objs.size)(hI:I∈fp)(hQ:∀s' acc,Moved wr G s s'->ItemsOf P acc n->Q (.ref s'.heap.objs.size) {s' with heap:=s'.heap.push {cls:=.type "tuple",data:=.seq acc} })(hsz:n<=sizeLine):
  wpAny (model prog w) A (call (.type "tuple") [.ref I]) Q E s:=by
 refine callType_codes (Q₁:=λobj s₁=>s₁.TypeIs obj "tuple"/\Q obj s₁) F.called_tuple (F.typeCall_tuple_1 _) F.entry_object_init
  (CW (hsz:=hsz) W hT hst hfp hI λs' acc hm hacc=>⟨⟨_,UE _ rfl,rfl⟩,hQ s' acc hm hacc⟩) λobj s₁ h₁=>?_
 exact⟨h₁.1,F.args_object_init_2 obj _,object_init_meets F.called_tuple.init.lookup F.called_tuple.made (by decide) prog w A.in1 _ s₁ ⟨h₁.1,rfl,h₁.2⟩⟩
theorem G7{l:Addr}{its:List Value}{Q:VP}(hh:A.handled=none)(hne:l≠I)(hit:s.heap.IsRevIter I l ((its.toArray.size:Int) - 1))(hl:s.heap.IsList l its.toArray)(hsz:its.toArray.size<=sizeLine)(hQ:∀(h':Heap) (tk:Nat),(∀b o,b≠I->s.heap.get? b=some o->h'.get? b=some o)->Q (.ref h'.objs.size) {s with heap:=h'.push {cls:=.type "tuple",data:=.seq its.reverse.toArray},toks:=tk}):
  wpAny (model prog w) A (call (.type "tuple") [.ref I]) Q E s:=by
 refine G6 (Walks.listRev (A:=A.in1.in1.in1) hh I l hne its.toArray).toS (λ_ _ st=>st.2.1.typeIs) ⟨RT _,by simpa using hit,hl⟩ (λb hb=>?_) (by simp) (λs' acc hm ha=>?_) hsz
 ·obtain⟨o,ho,_⟩:=hit;obtain⟨o',ho',_⟩:=hl;rcases Ud.mp hb with rfl|hb
  ·exact Uz ho
  ·rw[Uf.mp hb];exact Uz ho'
 ·have e:acc=its.reverse.toArray:=by
   apply Array.ext_getElem?;intro i;by_cases hi:i<its.length
   ·have h1:acc[i]?=some (acc[i]'(by rw[ha.1];simpa using hi)):=Array.getElem?_eq_getElem _;have h2:=ha.2 i _ h1;rw[h1,<-h2];simp only[Ug,RF,List.getElem?_reverse hi]
   ·have hs:acc.size=its.length:=by rw[ha.1];simp
    rw[WM (by omega),RF,T4 (by simp;omega)]
  subst e;have e2:s' = {s with heap:=s'.heap,toks:=s'.toks}:=by have a1:=hm.gens;have a2:=hm.drawn;have a3:=hm.os;cases s';cases s;simp only at a1 a2 a3 ⊢;subst a1 a2 a3;rfl
  have:=hQ s'.heap s'.toks λb o hb e=>hm.heap b o (by simpa using hb) e;rw[e2];exact this
end PySem
namespace L3
open PySem
def Vx(x:D)(g:G):Res D:=match QG g x with
 |some (true,ds)=>.ok (.tup ds.reverse) g|_=>.stuck
open PySem.Spec PyProof.Rows L2
theorem MY:∀{xs:List V}{us:List Value},Vals xs us->Vals xs.reverse us.reverse
 |_,_,.nil=>.nil|_,_,.cons h t=>by rw[TQ,TQ];exact(MY t).append (.cons h .nil)
theorem Dens.rev{K:Frag}{μ:List Addr}{H:Hp}:∀{vs:List V}{ds:List D},Dens K μ H vs ds->Dens K μ H vs.reverse ds.reverse
 |_,_,.nil=>.nil|_,_,.cons h t=>by rw[TQ,TQ];exact(Dens.rev t).append (.cons h .nil)
theorem Ae{ta:TA}(hs0:starEach [.Call (.Name "reversed" p2) [e] [] pos2] X.env=[(false,eval (.Call (.Name "reversed" p2) [e] [] pos2) X.env)])(hg:Gl X "tuple")(hm:X.mg "tuple"=none)(hg2:Gl X "reversed")(hm2:X.mg "reversed"=none)(ha:PA X [e] ta)(hs:starEach [e] X.env=[(false,eval e X.env)])(hc:X.calm=true):
  PE X (.Call (.Name "tuple" p) [.Call (.Name "reversed" p2) [e] [] pos2] [] pos) (λσ H Q=>ta σ H λvs H1=>∃a xs,vs=[.ref a]/\SqL X.K H1 a xs/\∀l,H1 l=none->Q (.ref l) (Ji H1 l (.tup xs.reverse))):=by
 intro pins s σ H Q I h;refine Call_ (KC I hg hm boot_tuple (U1 ?_ hs0 rfl));rw[hs0];show wpAny _ _ (spliced ((false,eval (.Call (.Name "reversed" p2) [e] [] pos2) X.env)::[])) _ _ s;refine Calls.spliced_cons (Call_ (KC I hg2 hm2 boot_reversed (U1 (Ja (ha pos2 pins s σ H _ I h) λus s1 hv=>?_) hs rfl)));obtain⟨vs,H1,I1,r1,a,xs,rfl,hq,q⟩:=hv;cases r1 with
 |cons r rr=>
  cases rr;cases r;have h63:=BE;obtain⟨its,rv,pl,hz⟩:=I1.list hq;have hl:=rv.length;obtain⟨f0,f1,f2,f3,f4,f5⟩:=I1.fpOk (Um _) (I1.hok.fresh (Um _));refine call_reversed_list pl.isList (Calls.spliced_nil ?_);have I2:Inv X pins σ H1 {s1 with heap:=s1.heap.push (revObj a ((its.toArray.size:Int) - 1))}:=I1.kept (t':=s1.toks) λb o e=>Uk _ e;have ll:a≠s1.heap.objs.size:=λz=>by obtain⟨o,ho,_⟩:=pl.isList;exact absurd (Uz ho) (by rw[z];exact To _)
  refine G7 (I:=s1.heap.objs.size) (l:=a) (its:=its) (s:={s1 with heap:=s1.heap.push (revObj a ((its.toArray.size:Int) - 1))}) (I1.ok.hd hc) ll ⟨_,UE _ rfl,rfl,rfl⟩ (pl.isList.at λo e=>Uk _ e) (by simp only[Ug];omega) λh' tk kp=>?_;have I3:Inv X pins σ H1 {s1 with heap:=h',toks:=tk}:=I2.turned (t':=tk) (λb o hb e=>kp b o hb e) f0 f1 f3 f4 f5;refine⟨.ref h'.objs.size,_,I3.laid (t':=tk) (λb o e=>Uk _ e) (Um _) (show ObjOk X.prog X.w _ _ _ (.tup xs.reverse) from ⟨by rw[U4];exact hz,its.reverse,MY rv,IsTup.new _ _⟩),rfl,q _ (I3.hok.fresh (Um _))⟩
theorem On(hc:X.calm=true)(hm:X.mg "tuple"=none)(hm2:X.mg "reversed"=none)(he:Za ca X e me)(hs0:starEach [.Call (.Name "reversed" p2) [e] [] pos2] X.env=[(false,eval (.Call (.Name "reversed" p2) [e] [] pos2) X.env)]:=by rfl)(hg:Gl X "tuple":=by rfl)(hg2:Gl X "reversed":=by rfl)(hs:starEach [e] X.env=[(false,eval e X.env)]:=by rfl):
  Za ca X (.Call (.Name "tuple" p) [.Call (.Name "reversed" p2) [e] [] pos2] [] pos) (Qv Vx me):=
 λpn Φ=>Yt (Ae (X:=Zi X ca pn Φ) hs0 hg hm hg2 hm2 (XB he Qh hs pn Φ) hs hc) λσ H Q hQ=>by
  obtain⟨σ3,g,μ,R,q⟩:=hQ;refine⟨σ3,g,μ,R,?_⟩;unfold Qv at q;unfold Qb Qi;cases hm:me σ3 g with
  |raise _ _=>rw[hm]at q;exact q|stuck=>rw[hm]at q;exact q.elim|ok d g1=>
   rw[hm,Res.bind_ok]at q;rw[Res.bind_ok,Res.bind_ok];intro vs H1 μ1 e1 r1 q1;cases q1 with
   |@cons v _ _ _ h1 h2=>
    cases h2;unfold Vx at q;cases hs1:QG g1 d with
    |none=>rw[hs1]at q;exact q.elim|some p1=>
     obtain⟨b,ds⟩:=p1;rw[hs1]at q;cases b with
     |false=>exact q.elim|true =>obtain⟨a,ws,rfl,sq,dn⟩:=VE r1 h1 hs1;exact⟨a,ws,rfl,sq,λl hl=>q _ _ μ1 (e1.trans (ZU hl)) (r1.new hl) (.tup (.of Q6) (dn.rev.mono (ZU hl)))⟩
def Oo(K:Frag):Nat->Value->D->Bool
 |0,_,_=>false|f+1,u,d=>match u,d with
  |.none,.non=>true|.int i _,.int j=>i==j|.str i _,.str j=>i==j|.ref a,.tup ds=>(match K.lookup a with
   |some ⟨.type t,_,.seq its _,_⟩=>t =="tuple"&&decide (its.size<=63)&&decide (its.toList.length=ds.length)&&(its.toList.zip ds).all λp=>Oo K f p.1 p.2
   |_=>false)
  |_,_=>false
theorem PK{K:Frag}:∀{us:List Value}{ds:List D},us.length=ds.length->(∀p∈us.zip ds,∃v,RelV v p.1/\∀μ H,Den K μ H v p.2)->∃vs,Vals vs us/\∀μ H,Dens K μ H vs ds
 |[],[],_,_=>⟨[],.nil,λ_ _=>.nil⟩|[],_::_,h,_=>nomatch h
 |_::_,[],h,_=>nomatch h
 |u::us,d::ds,h,k=>by obtain⟨v,r,q⟩:=k (u,d) (by simp);obtain⟨vs,rs,qs⟩:=PK (us:=us) (ds:=ds) (by simpa using h) λp hp=>k p (by simp[hp]);exact⟨v::vs,.cons r rs,λμ H=>.cons (q μ H) (qs μ H)⟩
theorem G8{K:Frag}:∀(f:Nat)(u:Value)(d:D),Oo K f u d=true->∃v,RelV v u/\∀μ H,Den K μ H v d
 |0,_,_,h=>nomatch h
 |f+1,u,d,h=>by
  unfold Oo at h;split at h
  ·exact⟨.non,rfl,λ_ _=>.non⟩
  ·rename_i i t j;have e:i=j:=Tn.mp h;subst e;exact⟨.int i,⟨t,rfl⟩,λ_ _=>.int i⟩
  ·rename_i i t j;have e:i=j:=Tn.mp h;subst e;exact⟨.str i,⟨t,rfl⟩,λ_ _=>.str i⟩
  ·rename_i a ds;split at h
   ·rename_i t dd its n sl hk;simp only[UD,Tn,Wv,Uv]at h;obtain⟨⟨⟨h1,h2⟩,h3⟩,h4⟩:=h;subst h1;obtain⟨vs,rs,qs⟩:=PK h3 λp hp=>G8 f p.1 p.2 (h4 p hp);exact⟨.ref a,rfl,λμ H=>.tup (.inr ⟨_,its,n,hk,rfl,rfl,Up h2 (by rw[RS];decide),rs⟩) (qs μ H)⟩
   ·cases h
  ·cases h
theorem EN(h:∃u v,X.mg x=some u/\RelV v u/\∀μ H,Den X.K μ H v d)(hg:Gl X x:=by rfl)(hd:(x==("__debug__" : Str))=false:=by decide):Za ca X (.Name x pos) (Qq d):=by obtain⟨u,v,hm,r,q⟩:=h;exact λpn Φ=>Yt (Pi (X:=Zi X ca pn Φ) hg hm r hd) λ_ H _ z=>by obtain⟨_,_,μ,R,p⟩:=z;exact p v H μ .refl R.g (q _ _)
end L3
namespace L3
open PySem
def EO:List Int->Option Int
 |[]=>none|i::r=>(match EO r with
  |none=>some i|some j=>some (if i<j then j else i))
def G9(x:D)(g:G):Res D:=match x with
 |.tup ds=>(match EA ds with
  |some is=>(match EO is with
   |some i=>.ok (.int i) g|none=>.stuck)
  |none=>.stuck)
 |_=>.stuck
theorem Ha:∀{is:List Int}{M:Int},EO is=some M->M∈is/\∀a∈is,a<=M
 |[],_,h=>by cases h
 |i::r,M,h=>by
  unfold EO at h;cases hr:EO r with
  |none=>
   rw[hr]at h;cases h;cases r with
   |nil=>exact⟨UC ..,λa ha=>by rw[Uf.mp ha];exact Int.le_refl _⟩|cons j r'=>
    unfold EO at hr;cases h2:EO r' with
    |none=>rw[h2]at hr;cases hr|some k=>rw[h2]at hr;cases hr
  |some j=>
   rw[hr]at h;dsimp only at h;obtain⟨q1,q2⟩:=Ha hr;by_cases z:i<j
   ·rw[Uc z]at h;cases h;exact⟨Uw _ q1,λa ha=>by
     rcases Ud.mp ha with e|e
     ·omega
     ·exact q2 a e⟩
   ·rw[Uh z]at h;cases h;exact⟨UC ..,λa ha=>by
     rcases Ud.mp ha with e|e
     ·omega
     ·have:=q2 a e;omega⟩
open PySem.Spec PyProof.Rows L2
theorem Op{prog:Program}{w:World}{A:Around}{E:VP}{s:Shared}{l:Addr}{xs:Array (Int×Tok)}{Q:VP}(hh:A.handled=none)(hl:s.heap.IsTuple l (intItems xs))(hne:0<xs.size)(h:∀v h' tk,(intItems xs)[argBest (λi j=>decide (numAt xs i>numAt xs j)) (xs.size-1)]?=some v->(∀b o,s.heap.get? b=some o->h'.get? b=some o)->Q v {s with heap:=h',toks:=tk}):
  wpAny (model prog w) A (call (.builtin "max") [.ref l]) Q E s:=by
 have hlt:l<s.heap.objs.size:=by obtain⟨_,e,_⟩:=hl;exact Uz e
 refine call_max_walk (wpAny_pyIter_tuple hl ?_);refine⟨_,[_,l],[_],_,_,_,_,rfl,Walks.tuple (A:=A.in1) hh _ l (UY hlt) (intItems xs),⟨⟨_,UE _ rfl,rfl,rfl⟩,hl.push _⟩,λc hc=>?_,by simpa[intItems]using hne,CmpOf.ints_gt (numAt xs) (λ_ _=>intItems_at),λv h' tk hP hk=>?_⟩
 ·show c<(s.heap.push _).objs.size;rw[Wn];rcases Ud.mp hc with rfl|hc
  ·exact Tj _
  ·rcases Ud.mp hc with rfl|hc
   ·exact Nat.lt_succ_of_lt hlt
   ·cases hc
 ·refine h v h' tk (by simpa[intItems]using hP) λb o e=>hk b o (λhm=>?_) (Uk _ e);rcases Ud.mp hm with e1|hm
  ·exact absurd (e1 ▸ Uz e) (To _)
  ·cases hm
section
variable{X:Cx}{ca:Nat->Addr}{e:Expr}{me:ME}{pos p:Pos}
theorem IR{K:Frag}{μ:List Addr}{H:Hp}:∀{vs:List V}{ds:List D}{ns:List Int},Dens K μ H vs ds->EA ds=some ns->vs=ns.map V.int
 |_,_,ns,.nil,h=>by cases h;rfl
 |_,_,ns,.cons (ds:=ds) h1 h2,h=>by
  cases h1 with
  |int i=>
   unfold EA at h;cases hr:EA ds with
   |none=>rw[hr]at h;cases h|some ms=>rw[hr]at h;cases h;rw[Ti,IR h2 hr]
  |_=>cases h
theorem intsAre_of:∀{ns:List Int}{us:List Value},Vals (ns.map V.int) us->IntsAre us ns
 |[],_,h=>by cases h;exact .nil
 |n::ns,_,h=>by
  cases h with
  |cons h1 h2 =>obtain⟨t,rfl⟩:=h1;exact .cons n t (intsAre_of h2)
theorem Af(hc:X.calm=true):VA X (.builtin "max") (λxs H Q=>∃(a:Addr)(ns:List Int)(M:Int),xs=[.ref a]/\SqT X.K H a (ns.map V.int)/\EO ns=some M/\Q (.int M) H):=by
 intro pins s σ H xs us Q I rv h;obtain⟨a,ns,M,rfl,hq,hM,q⟩:=h;obtain⟨u,rfl,ru⟩:=rv.one;cases ru;obtain⟨its,r,pl,hz⟩:=I.tuple hq;have hi:=intsAre_of r;obtain⟨m1,m2⟩:=Ha hM;obtain⟨xs,hxs⟩:=hi.allInts.items;have hl:=pl;rw[hxs]at hl;have hns:numsOf (intItems xs).toList=ns:=by rw[<-hxs];exact hi.numsOf
 rw[nums_intItems]at hns;have hlen:xs.size=ns.length:=by rw[<-hns,Ua,Tx]
 have hsz:0<xs.size:=by rw[hlen];exact List.length_pos_of_mem m1
 refine Op (I.ok.hd hc) hl hsz λv h' tk hv hk=>?_;obtain⟨t,rfl⟩:=intItems_at hv;obtain⟨h1,h2⟩:=argBest_gt (numAt xs) (xs.size-1);have e:numAt xs (argBest (λi j=>decide (numAt xs i>numAt xs j)) (xs.size-1))=M:=by
  have b1:numAt xs (argBest (λi j=>decide (numAt xs i>numAt xs j)) (xs.size-1))∈ns:=by rw[<-hns,numAt_eq];exact getD_mem (by rw[Ua,Tx];omega)
  have b2:numAt xs (argBest (λi j=>decide (numAt xs i>numAt xs j)) (xs.size-1))>=M:=by rw[<-hns]at m1;obtain⟨j,hj,e⟩:=mem_getD m1;rw[Ua,Tx]at hj;rw[<-e,<-numAt_eq];exact h2 j (by omega)
  have b3:=m2 _ b1;omega
 exact⟨.int M,H,I.kept hk,⟨t,by rw[<-e]⟩,q⟩
theorem lI(hc:X.calm=true)(hm:X.mg "max"=none)(he:Za ca X e me)(hg:Gl X "max":=by rfl)(hs:starEach [e] X.env=[(false,eval e X.env)]:=by rfl)(hpl:(backTo pos (starEach [] X.env)).any (·.1)=false:=by rfl):
  Za ca X (.Call (.Name "max" p) [e] [] pos) (Qv G9 me):=
 DF (r:=λxs H Q=>∃(a:Addr)(ns:List Int)(M:Int),xs=[V.ref a]/\SqT X.K H a (ns.map V.int)/\EO ns=some M/\Q (.int M) H) (λpn Φ=>Af (X:=Zi X ca pn Φ) hc) hm boot_max (λΦ σ H μ g y d Q r q pp=>by
  unfold G9 at pp;cases q with
  |tup ht hs=>
   dsimp only at pp;rename_i t vs ds;cases hi:EA ds with
   |none=>rw[hi]at pp;exact pp.elim|some is=>
    rw[hi]at pp;dsimp only at pp;cases hz:EO is with
    |none=>rw[hz]at pp;exact pp.elim|some M =>rw[hz]at pp;have ew:=IR hs hi;subst ew;exact⟨t,is,M,rfl,ht,hz,pp _ H μ .refl r (.int _)⟩
  |_=>exact pp.elim) he hg (by decide) (by decide) hs hpl
end
end L3
namespace L3
open PySem
def IS(x y:D)(g:G):Res D:=match x,y with
 |.int i,.int j=>.ok (.int (if j<i then j else i)) g|_,_=>.stuck
def PL(x y:D)(g:G):Res D:=match x,y with
 |.int i,.int j=>.ok (.int (if i<j then j else i)) g|_,_=>.stuck
def GB(o e:ME):ME:=λσ g=>(o σ g).bind λx g1=>match x with
 |.ref n=>(match g1[n]? with
  |some (.lst _)=>(e σ g1).bind λy g2=>(match y with
   |.ref m=>(match g2[n]?,g2[m]? with
    |some (.lst ds),some (.lst es)=>if n≠m/\ds.length+es.length<=SZ then .ok .non (g2.set n (.lst (ds++es))) else .stuck
    |_,_=>.stuck)
   |.tup es=>(match g2[n]? with
    |some (.lst ds)=>if ds.length+es.length<=SZ then .ok .non (g2.set n (.lst (ds++es))) else .stuck
    |_=>.stuck)
   |_=>.stuck)
  |_=>.stuck)
 |_=>.stuck
open PySem.Spec PyProof.Rows L2
theorem DS{x:Str}{id:String}{r:List V->Hp->VK->Prop}{h:D->D->G->Res D}(hc:∀pn Φ,VA (Zi X ca pn Φ) (.builtin id) r)(hm:X.mg x=none)(hv:bootBuiltins x=some (.builtin id))(hp:∀(Φ:XS) (σ:L2.St) (H:Hp) (μ:List Addr) (g:G) (y z:V) (d c:D) (Q:VK),GRep X.K ca μ H g->Den X.K μ H y d->Den X.K μ H z c->Post X.K ca Φ σ Q H μ (h d c g)->r [y,z] H Q)(he:Za ca X e me)(hf:Za ca X f mf)(hg:Gl X x)(hn:x ≠"__name__")(hdb:(x==("__debug__" : Str))=false)(hs:starEach [e,f] X.env=(false,eval e X.env)::starEach [f] X.env)(hs2:starEach [f] X.env=(false,eval f X.env)::starEach [] X.env)(hpl:(backTo pos (starEach [f] X.env)).any (·.1)=false):Za ca X (.Call (.Name x p) [e,f] [] pos) (Qe h me mf):=
 λpn Φ=>Yt (Ey (X:=Zi X ca pn Φ) (hc pn Φ) hg hm hv (XB he (XB hf Qh hs2) hs pn Φ) hn hdb hs hpl) λσ H Q hQ=>by
  obtain⟨σ3,g,μ,R,q⟩:=hQ;refine⟨σ3,g,μ,R,?_⟩;unfold Qe at q;unfold Qb Qi;cases hm:me σ3 g with
  |raise _ _=>rw[hm]at q;exact q|stuck=>rw[hm]at q;exact q.elim|ok d g1=>
   rw[hm,Res.bind_ok]at q;rw[Res.bind_ok];cases hm2:mf σ3 g1 with
   |raise _ _=>rw[hm2]at q;exact q|stuck=>rw[hm2]at q;exact q.elim|ok c g2=>
    rw[hm2,Res.bind_ok]at q;rw[Res.bind_ok,Res.bind_ok,Res.bind_ok];intro vs H1 μ1 e1 r1 q1;cases q1 with
    |cons h1 h2=>cases h2 with
     |cons h2 h3 =>cases h3;exact hp Φ σ H1 μ1 g2 _ _ d c Q r1 h1 h2 (q.go e1)
theorem DT(hc:X.calm=true)(hm:X.mg "min"=none)(he:Za ca X e me)(hf:Za ca X f mf)(hg:Gl X "min":=by rfl)(hs:starEach [e,f] X.env=(false,eval e X.env)::starEach [f] X.env:=by rfl)(hs2:starEach [f] X.env=(false,eval f X.env)::starEach [] X.env:=by rfl)(hpl:(backTo pos (starEach [f] X.env)).any (·.1)=false:=by rfl):
  Za ca X (.Call (.Name "min" p) [e,f] [] pos) (Qe IS me mf):=
 DS (λpn Φ=>SF (X:=Zi X ca pn Φ) hc) hm boot_min (λΦ σ H μ g y z d c Q r q1 q2 pp=>by
  unfold IS at pp;cases q1 with
  |int i=>
   cases q2 with
   |int j=>exact⟨i,j,rfl,pp _ H μ .refl r (.int _)⟩|_=>exact pp.elim
  |_=>cases q2<;>exact pp.elim) he hf hg (by decide) (by decide) hs hs2 hpl
theorem lJ(hc:X.calm=true)(hm:X.mg "max"=none)(he:Za ca X e me)(hf:Za ca X f mf)(hg:Gl X "max":=by rfl)(hs:starEach [e,f] X.env=(false,eval e X.env)::starEach [f] X.env:=by rfl)(hs2:starEach [f] X.env=(false,eval f X.env)::starEach [] X.env:=by rfl)(hpl:(backTo pos (starEach [f] X.env)).any (·.1)=false:=by rfl):
  Za ca X (.Call (.Name "max" p) [e,f] [] pos) (Qe PL me mf):=
 DS (λpn Φ=>SE (X:=Zi X ca pn Φ) hc) hm boot_max (λΦ σ H μ g y z d c Q r q1 q2 pp=>by
  unfold PL at pp;cases q1 with
  |int i=>
   cases q2 with
   |int j=>exact⟨i,j,rfl,pp _ H μ .refl r (.int _)⟩|_=>exact pp.elim
  |_=>cases q2<;>exact pp.elim) he hf hg (by decide) (by decide) hs hs2 hpl
theorem DU(ho:Za ca X o mo)(he:Za ca X e me)(hbase:attributeBase o "extend" X.env (eval o X.env)=eval o X.env:=by rfl)(hfew:((backTo pos (starEach [e] X.env)).all (λx=>!x.1)&&(backToKw pos (keywordEach [] X.env)).all (λx=>x.1.isSome)&&decide ([e].length+([]:List Keyword).length+(if ([]:List Keyword).isEmpty then 0 else 1)<30))=true:=by rfl)(hline:(apos.endLine==pos.line)=true:=by rfl)(hs:starEach [e] X.env=(false,eval e X.env)::starEach [] X.env:=by rfl)(hplain:(backTo pos (starEach [] X.env)).any (·.1)=false:=by rfl):
  Za ca X (.Call (.Attribute o "extend" apos) [e] [] pos) (GB mo me):=
 λpn Φ=>Yt (iC (X:=Zi X ca pn Φ) Rt PySem.F.slot_list_extend PySem.F.type_list_extend Ob (ho pn Φ) (XB he Qh hs pn Φ) hbase hfew hline hs hplain) λσ H Q ⟨σ3,g,μ,R,q⟩=>YB (X6 R q) λx H1 hQ=>by
  obtain⟨d,g1,μ1,e1,R1,q1,p1⟩:=hQ;cases q1 with
  |@ref n t hn=>
   dsimp only at p1;cases hgn:g1[n]? with
   |none=>rw[hgn]at p1;exact p1.elim|some ob=>
    rw[hgn]at p1;obtain⟨t',ht',orp⟩:=R1.g.addr hgn;rw[hn]at ht';cases ht';cases ob with
    |lst ds0=>
     obtain⟨vs0,hH0,_⟩:=orp;dsimp only at p1;refine⟨.inl ⟨rfl,_,.of hH0⟩,σ3,g1,μ1,R1,?_⟩;unfold Qb Qi;cases hm:me σ3 g1 with
     |raise _ _=>rw[hm]at p1;exact p1|stuck=>rw[hm]at p1;exact p1.elim|ok y g2=>
      rw[hm,Res.bind_ok]at p1;rw[Res.bind_ok,Res.bind_ok];intro vs H2 μ2 e2 r2 q2;cases q2 with
      |cons h1 h2=>
       cases h2;cases h1 with
       |@ref m c hmm=>
        dsimp only at p1;cases hg2:g2[n]? with
        |none=>rw[hg2]at p1;exact p1.elim|some ob2=>
         cases hg3:g2[m]? with
         |none=>rw[hg2,hg3]at p1;cases ob2<;>exact p1.elim|some ob3=>
          rw[hg2,hg3]at p1;obtain⟨t',ht',orp⟩:=r2.addr hg2;rw[e2.at hn]at ht';cases ht';obtain⟨c',hc',orp3⟩:=r2.addr hg3;rw[hmm]at hc';cases hc';cases ob2 with
          |lst ds=>
           cases ob3 with
           |lst es=>
            obtain⟨ws,hH,qs⟩:=orp;obtain⟨zs,hH3,qz⟩:=orp3;dsimp only at p1;by_cases z:n≠m/\ds.length+es.length<=SZ
            ·rw[Uc z]at p1;have ex:Ext X.K μ2 H2 μ2 (Ji H2 t (.lst (ws++zs))):=KG hH (by intro _ z;cases z) (by intro _ _ z;cases z);refine .inl ⟨t,c,ws,zs,rfl,rfl,hH,hH3,by rw[qs.length,qz.length];exact Up z.2 XV,p1 _ _ μ2 (e2.trans ex) ?_ .non⟩;exact r2.set (e2.at hn) hH (by intro _ z;cases z) (by intro _ _ z;cases z) ⟨_,Q6,(qs.mono ex).append (qz.mono ex)⟩
            ·rw[Uh z]at p1;exact p1.elim
           |_=>exact p1.elim
          |_=>cases ob3<;>exact p1.elim
       |@tup c zs es hc qz=>
        dsimp only at p1;cases hg2:g2[n]? with
        |none=>rw[hg2]at p1;exact p1.elim|some ob2=>
         rw[hg2]at p1;obtain⟨t',ht',orp⟩:=r2.addr hg2;rw[e2.at hn]at ht';cases ht';cases ob2 with
         |lst ds=>
          obtain⟨ws,hH,qs⟩:=orp;dsimp only at p1;by_cases z:ds.length+es.length<=SZ
          ·rw[Uc z]at p1;have ex:Ext X.K μ2 H2 μ2 (Ji H2 t (.lst (ws++zs))):=KG hH (by intro _ z;cases z) (by intro _ _ z;cases z);refine .inr ⟨t,c,ws,zs,rfl,rfl,hH,hc,by rw[qs.length,qz.length];exact Up z XV,p1 _ _ μ2 (e2.trans ex) ?_ .non⟩;exact r2.set (e2.at hn) hH (by intro _ z;cases z) (by intro _ _ z;cases z) ⟨_,Q6,(qs.mono ex).append (qz.mono ex)⟩
          ·rw[Uh z]at p1;exact p1.elim
         |_=>exact p1.elim
       |_=>exact p1.elim
    |_=>exact p1.elim
  |_=>exact p1.elim
end L3
namespace L3
open PySem
def Vc(x:D)(g:G):Res D:=match Gi g x with
 |some t=>.ok (.bl (EC t .list||EC t .tuple)) g|none=>.stuck
open PySem.Spec PyProof.Rows L2
theorem KL(K:Frag)(t:Ty):kitAny K (.type t.name) [.type "list",.type "tuple"]=some (EC t .list||EC t .tuple):=by
 unfold kitAny;rw[show Value.type "list"=.type Ty.list.name from rfl,Vn];cases EC t .list with
 |true=>rfl|false =>dsimp only;unfold kitAny;rw[show Value.type "tuple"=.type Ty.tuple.name from rfl,Vn];cases EC t .tuple<;>rfl
theorem fE(p:IsTup h a xs):∃dd n sl,h.get? a=some ⟨.type "tuple",dd,.seq xs n,sl⟩:=by obtain⟨⟨cls,dd,data,sl⟩,h1,h2,n,h3⟩:=p;simp only at h2 h3;subst h2 h3;exact⟨dd,n,sl,h1⟩
theorem Oq:VA X (.builtin "isinstance") (λxs H Q=>∃x q g μ d t,xs=[x,.ref q]/\SqT X.K H q [.ty "list",.ty "tuple"]/\GRep X.K ca μ H g/\Den X.K μ H x d/\Gi g d=some t/\Q (.bl (EC t .list||EC t .tuple)) H):=by
 intro pins s σ H xs us Q I rv h;obtain⟨x,q,g,μ,d,t,rfl,hq,r,qd,ht,qq⟩:=h;obtain⟨u,u2,rfl,ru,ru2⟩:=rv.two;cases ru2;obtain⟨its,r1,p1,_⟩:=I.tuple hq;obtain⟨w1,w2,rfl,a1,a2⟩:=r1.two;cases a1;cases a2;obtain⟨dd,n,sl,ho⟩:=fE p1;have fin:∀tk,EP X pins σ Q (.bool (EC t .list||EC t .tuple)) {s with toks:=tk}:=λtk=>⟨.bl _,H,I.tok tk,rfl,qq⟩;cases qd with
 |non=>cases ht;cases (show u=Value.none from ru);exact TL kitx_none I.kIn True.intro ho (KL X.K .non) (λz=>nomatch z) fin|bl y=>cases ht;cases (show u=Value.bool y from ru);exact TL kitx_bool I.kIn True.intro ho (KL X.K .bool) (λz=>nomatch z) fin|int y=>cases ht;obtain⟨t,q⟩:=(show ∃t,u=Value.int y t from ru);cases q;exact TL kitx_int I.kIn True.intro ho (KL X.K .int) (λz=>nomatch z) fin|str y=>cases ht;obtain⟨t,q⟩:=(show ∃t,u=Value.str y t from ru);cases q;exact TL kitx_str I.kIn True.intro ho (KL X.K .str) (λz=>nomatch z) fin|@tup a vs ds hq hs =>cases ht;cases ru;obtain⟨its,_,⟨o,h1,h2,_⟩,_⟩:=I.tuple hq;exact TL Wh I.kIn ⟨o,h1,h2⟩ ho (KL X.K .tuple) (λz=>nomatch z) fin|@fl a vs ds hq hs =>cases ht;cases ru;obtain⟨its,_,p,_⟩:=I.list hq.sq;obtain⟨o,h1,h2,_⟩:=p.isList;exact TL T6 I.kIn ⟨o,h1,h2⟩ ho (KL X.K .list) (λz=>nomatch z) fin|@ref n a hn=>
  unfold Gi at ht;dsimp only at ht;cases hg:g[n]? with
  |none=>rw[hg]at ht;cases ht|some o=>
   rw[hg]at ht;obtain⟨a',ha',ob⟩:=r.addr hg;rw[hn]at ha';cases ha';cases o with
   |lst ds =>cases ht;obtain⟨vs,hH,_⟩:=ob;cases ru;obtain⟨_,_,n,_,h1⟩:=(show ObjOk X.prog X.w H s.heap a (.lst vs) from I.hok a _ hH);exact TL T6 I.kIn ⟨_,h1,rfl⟩ ho (KL X.K .list) (λz=>nomatch z) fin|ins _ _=>cases ht|exc _=>cases ht
theorem PM{k:Nat}{p3:Pos}(hi:X.mg "isinstance"=none)(hl:X.mg "list"=none)(ht:X.mg "tuple"=none)(he:Za ca X e me)(hgi:Gl X "isinstance":=by rfl)(hgl:Gl X "list":=by rfl)(hgt:Gl X "tuple":=by rfl)(hs:starEach [e,.Tuple [.Name "list" p2,.Name "tuple" p3] k tp] X.env=(false,eval e X.env)::starEach [.Tuple [.Name "list" p2,.Name "tuple" p3] k tp] X.env:=by rfl)(hs2:starEach [.Tuple [.Name "list" p2,.Name "tuple" p3] k tp] X.env=(false,eval (.Tuple [.Name "list" p2,.Name "tuple" p3] k tp) X.env)::starEach [] X.env:=by rfl)(hs3:starEach [.Name "list" p2,.Name "tuple" p3] X.env=(false,eval (.Name "list" p2) X.env)::starEach [.Name "tuple" p3] X.env:=by rfl)(hs4:starEach [.Name "tuple" p3] X.env=(false,eval (.Name "tuple" p3) X.env)::starEach [] X.env:=by rfl)(hpl:(backTo pos (starEach [.Tuple [.Name "list" p2,.Name "tuple" p3] k tp] X.env)).any (·.1)=false:=by rfl):
  Za ca X (.Call (.Name "isinstance" p) [e,.Tuple [.Name "list" p2,.Name "tuple" p3] k tp] [] pos) (Qv Vc me):=λpn Φ=>Yt (Ey (X:=Zi X ca pn Φ) (Oq (ca:=ca)) hgi hi boot_isinstance (KF (X:=Zi X ca pn Φ) (he pn Φ) (KF (X:=Zi X ca pn Φ) (Di (X:=Zi X ca pn Φ) (KF (X:=Zi X ca pn Φ) (Ln (X:=Zi X ca pn Φ) (v:=.ty "list") hgl hl boot_list rfl (by decide) (by decide)) (KF (X:=Zi X ca pn Φ) (Ln (X:=Zi X ca pn Φ) (v:=.ty "tuple") hgt ht boot_tuple rfl (by decide) (by decide)) Lo hs4) hs3)) Lo hs2) hs) (by decide) (by decide) hs hpl) λσ H Q ⟨σ3,g,μ,R,q⟩=>
  YB (X6 R q) λy H1 hQ=>by
   obtain⟨d,g1,μ1,e1,R1,q1,p1⟩:=hQ;unfold Vc at p1;cases ht:Gi g1 d with
   |none=>rw[ht]at p1;exact p1.elim|some t =>rw[ht]at p1;exact⟨Up (by decide:2<=SZ) XV,λq hq=>⟨y,q,g1,μ1,d,t,rfl,.of Q6,R1.g.new hq,q1.mono (ZU hq),ht,p1 _ _ μ1 (ZU hq) (R1.g.new hq) (.bl _)⟩⟩
end L3
namespace L3
open PySem
def fF(x y:D)(g:G):Res D:=match x,y with
 |.bl a,.bl b=>.ok (.bl (a==b)) g|_,_=>.stuck
def IT(x y:D)(g:G):Res D:=match x,y with
 |.bl a,.bl b=>.ok (.bl (a != b)) g|_,_=>.stuck
open PySem.Spec PyProof.Rows L2
theorem lK:OpR X (compareOp .Is) (λx y H Q=>∃a b,x=.bl a/\y=.bl b/\Q (.bl (a==b)) H):=by intro pins s σ H x y v u Q I rx ry h;obtain⟨a,b,rfl,rfl,q⟩:=h;cases rx;cases ry;exact is_bool ⟨.bl (a==b),H,I,rfl,q⟩
theorem DV{K:Frag}:JK K ca (λx y H Q=>∃a b,x=.bl a/\y=.bl b/\Q (.bl (a==b)) H) fF:=by
 intro Φ σ H μ g x y dx dy Q r qx qy p;unfold fF at p;cases qx with
 |bl a=>cases qy with
  |bl b=>exact⟨a,b,rfl,rfl,p _ H μ .refl r (.bl _)⟩|_=>exact p.elim
 |_=>exact p.elim
theorem oN(ha:Za ca X a ma)(hb:Za ca X b mb):Za ca X (.Compare a [.Is] [b] pos) (Qe fF ma mb):=GU (λ_ _=>lK) DV ha hb (XA b)
theorem fG:OpR X (compareOp .IsNot) (λx y H Q=>∃a b,x=.bl a/\y=.bl b/\Q (.bl (a != b)) H):=by intro pins s σ H x y v u Q I rx ry h;obtain⟨a,b,rfl,rfl,q⟩:=h;cases rx;cases ry;exact isnot_bool ⟨.bl (a != b),H,I,rfl,q⟩
theorem Ag{K:Frag}:JK K ca (λx y H Q=>∃a b,x=.bl a/\y=.bl b/\Q (.bl (a != b)) H) IT:=by
 intro Φ σ H μ g x y dx dy Q r qx qy p;unfold IT at p;cases qx with
 |bl a=>cases qy with
  |bl b=>exact⟨a,b,rfl,rfl,p _ H μ .refl r (.bl _)⟩|_=>exact p.elim
 |_=>exact p.elim
theorem LK(ha:Za ca X a ma)(hb:Za ca X b mb):GA ca X (.Compare a [.IsNot] [b] pos) (Qo (Qe IT ma mb)):=XU (λ_ _=>fG) Ag ha hb (XA b)
end L3
namespace L3
open PySem
def fH(g:G)(x:D):List D->Option Bool
 |[]=>some false|d::r=>(match Vk g 7 d x,fH g x r with
  |some a,some b=>some (a||b)|_,_=>none)
def Fq(x y:D)(g:G):Res D:=match QG g y with
 |some (_,ds)=>(match fH g x ds with
  |some b=>.ok (.bl b) g|none=>.stuck)
 |none=>.stuck
open PySem.Spec PyProof.Rows L2
theorem DW(I:Inv X pins σ H s)(r:GRep X.K ca μ H g)(hu:X.A.units+16<cLine)(qx:Den X.K μ H x d)(rx:RelV x t):∀{vs:List V}{ds:List D}{us:List Value}{b:Bool},Dens X.K μ H vs ds->Vals vs us->fH g d ds=some b->(∀u∈us,SeqAt.EqAt X.A.in1 s u t true\/SeqAt.EqAt X.A.in1 s u t false)/\(b=true->∃u∈us,SeqAt.EqAt X.A.in1 s u t true)/\(b=false->∀u∈us,SeqAt.EqAt X.A.in1 s u t false)
 |_,_,_,_,.nil,.nil,h=>⟨λu hu=>(by cases hu),λz=>(by cases h;cases z),λ_ u hu=>(by cases hu)⟩|_,_,_,b,.cons (ds:=ds) (d:=e) q qs,.cons rv rvs,h=>by
  unfold fH at h;cases h1:Vk g 7 e d with
  |none=>rw[h1]at h;cases h|some a=>
   cases h2:fH g d ds with
   |none=>rw[h1,h2]at h;cases h|some c=>
    rw[h1,h2]at h;cases h;obtain⟨i1,i2,i3⟩:=DW I r hu qx rx qs rvs h2;have e1:=GZ I r 7 (A:=X.A.in1) (by show X.A.units+1+7<cLine;omega) q qx rv rx h1;refine⟨λu hu'=>?_,λz=>?_,λz u hu'=>?_⟩
    ·rcases Ud.mp hu' with rfl|w
     ·cases a
      ·exact .inr e1
      ·exact .inl e1
     ·exact i1 u w
    ·cases a with
     |true=>exact⟨_,UC,e1⟩|false=>obtain⟨u,w,z⟩:=i2 z;exact⟨u,Uw _ w,z⟩
    ·rw[Bool.or_eq_false_iff]at z;rw[z.1]at e1;rcases Ud.mp hu' with rfl|w
     ·exact e1
     ·exact i3 z.2 u w
def oO(K:Frag)(ca:Nat->Addr):R2:=λx y H Q=>∃(μ:List Addr)(g:G)(d:D)(p:Addr)(xs:List V)(ds:List D)(c:Bool),GRep K ca μ H g/\Den K μ H x d/\y=.ref p/\(SqL K H p xs\/SqT K H p xs)/\Dens K μ H xs ds/\fH g d ds=some c/\Q (.bl c) H
section
variable{X:Cx}{ca:Nat->Addr}{a b:Expr}{ma mb:ME}{pos:Pos}{k:Nat}
theorem lN(hu:X.A.units+16<cLine):OpR X (compareOp .In) (oO X.K ca):=by
 intro pins s σ H x y v u Q I rx ry h;obtain⟨μ,g,d,p,xs,ds,c,r,qx,rfl,hq,qs,hi,q⟩:=h;cases ry
 classical
 have go:∀its:List Value,Vals xs its->∃P:Value->Bool,(∀y,y∈its.toArray->SeqAt.EqAt X.A.in1 s y v (P y))/\its.toArray.any P=c:=λits rv=>by
  obtain⟨i1,i2,i3⟩:=DW I r hu qx rx qs rv hi;cases c with
  |false=>exact⟨λ_=>false,λy hy=>i3 rfl y (by simpa using hy),by simp⟩|true=>
   refine⟨λy=>decide (SeqAt.EqAt X.A.in1 s y v true),λy hy=>?_,?_⟩
   ·show SeqAt.EqAt X.A.in1 s y v (decide (SeqAt.EqAt X.A.in1 s y v true));by_cases z:SeqAt.EqAt X.A.in1 s y v true
    ·rw[Uu z];exact z
    ·rw[Ur z];exact(i1 y (by simpa using hy)).resolve_left z
   ·obtain⟨w,hw,z⟩:=i2 rfl;rw[show its.toArray.any (λy=>decide (SeqAt.EqAt X.A.in1 s y v true))=its.any (λy=>decide (SeqAt.EqAt X.A.in1 s y v true)) by simp];exact List.any_eq_true.mpr ⟨w,hw,Uu z⟩
 rcases hq with hq|hq
 ·obtain⟨its,rv,pl,_⟩:=I.list hq;obtain⟨P,g1,g2⟩:=go its rv;refine SeqAt.in_listAt _ pl.isList g1 ⟨.bl _,H,I,rfl,?_⟩;rw[g2];exact q
 ·obtain⟨its,rv,pl,_⟩:=I.tuple hq;obtain⟨P,g1,g2⟩:=go its rv;refine SeqAt.in_tupleAt _ pl g1 ⟨.bl _,H,I,rfl,?_⟩;rw[g2];exact q
theorem DX{K:Frag}:JK K ca (oO K ca) Fq:=by
 intro Φ σ H μ g x y dx dy Q r qx qy p;unfold Fq at p;cases hs:QG g dy with
 |none=>rw[hs]at p;exact p.elim|some pr=>
  obtain⟨bb,ds⟩:=pr;rw[hs]at p;dsimp only at p;cases z:fH g dx ds with
  |none=>rw[z]at p;exact p.elim|some c=>
   rw[z]at p;obtain⟨a,vs,rfl,sq,qs⟩:=VE r qy hs;refine⟨μ,g,dx,a,vs,ds,c,r,qx,rfl,?_,qs,z,p _ H μ .refl r (.bl _)⟩;cases bb
   ·exact .inr sq
   ·exact .inl sq
theorem oP(hr:Room k X.A)(ha:Za ca X a ma)(hb:Za ca X b mb)(hm:behindInMarks .In b=false:=by rfl):Za ca X (.Compare a [.In] [b] pos) (Qe Fq ma mb):=GU (λpn Φ=>lN (X:=Zi X ca pn Φ) (eM hr)) DX ha hb hm
end
end L3
namespace L3
open PySem
def Os:MS:=(Q5 (Jx (Qv (VU .int) (Qa 0)) (oB (Qv (VU .bool) (Qa 0)))))
def VF:MF:=Zq 1 0 Os
def Ot:MS:=(Q5 (Jx (Qu VF (Qb (Qa 0) Qi)) (Fh mK Fd (mI 0) (Qa 0) (Qa 1))))
def ZD:MF:=Zq 2 0 Ot
def Ou:MS:=(Qs (YE (Qo (Qe cP (Qa 0) (Qq .non))) (Q5 (Qq (.bl true))) QU)
 (Qs (YE (BG (YD (Qo (Qv (VU .tuple) (Qa 0)))) (Qo (Qe CI (Qv Zr (Qa 0)) (mI 3)))) (Q5 (Qq (.bl false))) QU)
 (Q5 (Jx (Qu ZD (Qb (Qe QB (Qa 0) (mI 0)) (Qb (Qa 2) Qi))) (Jx (Qe (GR false) (Qe QB (Qa 0) (mI 1)) (Qt QC (Qb (Qq (.str "l")) (Qb (Qq (.str "r")) Qi)))) (Qu ZD (Qb (Qe QB (Qa 0) (mI 2)) (Qb (Qa 1) Qi))))))))
def XD:MF:=Zq 3 0 Ou
def YG:MS:=(Qs (YE (Qo (Qe CI (Qv Zr (Qa 3)) (Qa 2))) (Z4 1 (Qb (Qq (.str "each state has one entry for each sign")) Qi)) QU)
 (YE (YD (Qo (Qv Gj (ZQ (QQ (Qa 3)) 1 [1,2] (Qn 0) Yb (Qu XD (Qb (Qa 0) (Qb (Qa 1) (Qb (Qa 2) Qi)))))))) (Z4 1 (Qb (Qq (.str "an entry is None or a tuple of a sign, a way and a state of the machine")) Qi)) QU))
def JA:MS:=(Qs (YE (Qo (Qe Z5 (Qv Zr (Qa 0)) (mI 0))) (Z4 1 (Qb (Qq (.str "a machine has at least one state")) Qi)) QU)
 (Qs (QF (Qn 1) (Qv Zr (Qa 0)))
 (Qs (QF (Qn 2) (Qv Zr (Qe QB (Qa 0) (mI 0))))
 (Qs (YE (Qo (Qe Z5 (Qa 2) (mI 0))) (Z4 1 (Qb (Qq (.str "a machine has at least one sign")) Qi)) QU)
 (Y1 (QQ (Qa 0)) (Qn 3) YG)))))
def JB:MF:=Zq 1 3 JA
def BL:MS:=(Qs (QF (Qn 2) (Qv ZT (ZQ (QQ (Qa 1)) 1 [] (Qn 0) Yb (Qv ZT (Qa 0)))))
 (Qs (Zc (Qu JB (Qb (Qa 2) Qi)))
 (ZS [11,12] "table" (Qa 0) (Qa 2))))
def Yf:MF:=Zq 2 1 BL
def Hb:MS:=(Qs (YF (Qa 1) (mI 0) (Qe QD (Qe QB (Qa 1) (mI 0)) (mI 1)))
 (Qs (QF (Qn 2) (mI 0))
 (Qs (YE (Qo (Qe Lx (Qv Zr (Qa 0)) (mI 0))) (QF (Qn 2) (Qe QB (Qa 0) (Qe Z0 (Qe QB (Qa 1) (mI 0)) (Qv Zr (Qa 0))))) QU)
 (Qs (QF (Qn 3) (Qe Z0 (Qe Xy (Qe QD (Qe QD (Qe Z0 (Qa 2) (mI 2147483647)) (Qe Xy (Qe Xy (Qe QB (Qa 1) (mI 0)) (Qe QB (Qa 1) (mI 0))) (mI 7919))) (mI 11)) (mI 48271)) (mI 2147483647)))
 (Q5 (Qe Z0 (Qe Xy (Qa 3) (Qa 3)) (mI 1999999973)))))))
def Xh:MF:=Zq 2 2 Hb
def Y4:MS:=(Qs (QF (Qn 8) (Qu Xh (Qb (Qa 0) (Qb (Qa 1) Qi))))
 (Qs (QF (Qn 9) (Qt QC (Qb (Qe Z0 (Qe Yw (Qa 8) (mI 9)) (Qa 3)) (Qb (Qe QB (Qq (.str "lr")) (Qe Z0 (Qe Yw (Qa 8) (mI 100)) (mI 2))) (Qb (Qe Z0 (Qe Yw (Qa 8) (mI 300)) (Qa 2)) Qi)))))
 (Qs (YE (Qo (Qe Z5 (Qe Z0 (Qa 8) (mI 9)) (mI 0))) (QF (Qn 9) (Qq .non)) QU)
 (Zc (Zm (Qa 6) (Qa 9))))))
def Vo:MS:=(Qs (QF (Qn 6) (Qt Ym Qi))
 (Qs (Y1 (Q4 (Qa 3)) (Qn 7) Y4)
 (Zc (Zm (Qa 4) (Qa 6)))))
def Fr:MS:=(Qs (QF (Qn 4) (Qt Ym Qi))
 (Qs (Y1 (Q4 (Qa 2)) (Qn 5) Vo)
 (Q5 (Qa 4))))
def Fs:MF:=Zq 4 6 Fr
def Jn:MS:=(Qs (YF (Qe QB (Qa 9) (mI 1)) (Qe QD (mI 2) (Qa 10)) (Qt QC (Qb (Qe QD (Qa 5) (Qa 10)) (Qb (Qq (.str "r")) (Qb (mI 1) Qi)))))
 (Qs (YF (Qe QB (Qa 9) (mI 2)) (Qe QD (mI 2) (Qa 10)) (Qt QC (Qb (Qe QD (mI 2) (Qa 10)) (Qb (Qq (.str "l")) (Qb (mI 2) Qi)))))
 (YF (Qe QB (Qa 9) (mI 2)) (Qe QD (Qa 5) (Qa 10)) (Qt QC (Qb (Qe QD (mI 2) (Qa 10)) (Qb (Qq (.str "l")) (Qb (mI 2) Qi)))))))
def Jo:MS:=(Qs (QF (Qn 11) (Qt QC (Qb (Qe QD (mI 2) (Qe QB (Qa 7) (Qa 10))) (Qb (Qq (.str "r")) (Qb (Qe QD (mI 3) (Qa 10)) Qi)))))
 (Qs (YE (Qo (Qe Z5 (Qe QD (Qa 10) (mI 1)) (Qa 3))) (QF (Qn 11) (Qt QC (Qb (Qe QD (mI 2) (Qe QB (Qa 7) (Qa 10))) (Qb (Qq (.str "l")) (Qb (mI 2) Qi))))) QU)
 (YF (Qe QB (Qa 9) (Qe QB (Qt Ym (Qb (mI 1) (Qb (Qe QD (mI 2) (Qa 10)) Qi))) (Qv Od (Qe Lx (Qa 10) (mI 0))))) (mI 0) (Qa 11))))
def BM:MS:=(Qs (QF (Qn 2) (Qu Xh (Qb (Qa 0) (Qb (Qa 1) Qi))))
 (Qs (QF (Qn 3) (Qe QD (mI 1) (Qe Z0 (Qa 2) (mI 4))))
 (Qs (QF (Qn 4) (Qe QD (mI 1) (Qe Z0 (Qe Yw (Qa 2) (mI 4)) (Qe IS (mI 3) (Qa 3)))))
 (Qs (QF (Qn 5) (Qe QD (mI 2) (Qe Xy (Qa 4) (Qe Z0 (Qe Yw (Qa 2) (mI 16)) (mI 2)))))
 (Qs (QF (Qn 6) (Qu Xh (Qb (Qa 0) (Qb (Qa 1) Qi))))
 (Qs (QF (Qn 7) (ZQ (Q4 (Qa 3)) 1 [4,6] (Qn 0) Yb (Qe Z0 (Qe Yw (Qa 2) (Qe QD (Qe Xy (Qe Xy (mI 7) (Qa 0)) (Qa 0)) (mI 1))) (Qa 1))))
 (Qs (QF (Qn 8) (Qe QD (Qe QD (Qa 5) (Qa 4)) (Qe Xy (Qv Od (Qe Fd (Qe QD (Qa 5) (Qa 4)) (mI 8))) (Qe Z0 (Qe Yw (Qa 2) (mI 32)) (mI 2)))))
 (Qs (QF (Qn 9) (Qu Fs (Qb (Qa 0) (Qb (Qa 1) (Qb (Qe QD (Qe QD (mI 2) (Qa 3)) (Qe Z0 (Qe Yw (Qa 2) (mI 64)) (mI 3))) (Qb (Qa 8) Qi))))))
 (Qs (YF (Qe QB (Qa 9) (mI 0)) (mI 0) (Qt QC (Qb (mI 1) (Qb (Qq (.str "r")) (Qb (mI 1) Qi)))))
 (Qs (YF (Qe QB (Qa 9) (mI 2)) (mI 1) (Qt QC (Qb (mI 1) (Qb (Qq (.str "r")) (Qb (mI 1) Qi)))))
 (Qs (Y1 (Q4 (Qa 4)) (Qn 10) Jn)
 (Qs (Y1 (Q4 (Qa 3)) (Qn 10) Jo)
 (Qs (QF (Qn 12) (ZQ (Q4 (Qe VS (Qe Xy (mI 2) (Qa 3)) (mI 1))) 1 [] (Qn 0) Yb (Qt QC (Qb (Qq (.str "step")) Qi))))
 (Qs (QF (Qn 13) (Qe QD (Qe QD (Qt Ym (Qb (Qt QC (Qb (Qq (.str "over")) Qi)) Qi)) (Qa 12)) (Qt Ym (Qb (Qt QC (Qb (Qq (.str "over")) Qi)) (Qb (Qt QC (Qb (Qq (.str "step")) Qi)) (Qb (Qt QC (Qb (Qq (.str "draw")) (Qb (Qq (.str "r")) (Qb (Qa 3) Qi)))) Qi))))))
 (Q5 (Qt QC (Qb (Qa 9) (Qb (Qv ZT (ZQ (QQ (Qa 7)) 1 [] (Qn 0) Yb (Qe QD (mI 2) (Qa 0)))) (Qb (Qa 13) Qi)))))))))))))))))))
def BN:MF:=Zq 2 12 BM
def Y5:MS:=(Qs (YE (Qo (Qe Z5 (Qe QB (Qa 4) (mI 0)) (Qq (.str "step")))) (QF (Qn 3) (Qe QD (Qa 3) (mI 1))) QU)
 (YE (Qo (Qe Z5 (Qe QB (Qa 4) (mI 0)) (Qq (.str "over")))) (QF (Qn 3) (Qe QD (Qa 3) (Qe Xy (Qa 1) (Qa 2)))) QU))
def Vd:MS:=(Qs (QF (Qn 3) (mI 0))
 (Qs (Y1 (QQ (Qa 0)) (Qn 4) Y5)
 (Q5 (Qa 3))))
def Z2:MF:=Zq 3 2 Vd
def Vp:MS:=(QF (Qn 4) (Qe QD (Qa 4) (Qu Z2 (Qb (Qa 0) (Qb (Qa 2) (Qb (Qa 5) Qi))))))
def Fv:MS:=(Qs (QF (Qn 4) (mI 1))
 (Qs (Y1 (Q4 (Qa 3)) (Qn 5) Vp)
 (Q5 (Qe QD (Qa 4) (Qu Z2 (Qb (Qa 1) (Qb (Qa 2) (Qb (Qa 3) Qi))))))))
def Fw:MF:=Zq 4 2 Fv
def JI:MS:=(Qs (YE (Qo (Qe Z5 (Qe QB (Qa 0) (mI 1)) (Qq (.str "r")))) (Q5 (Qt QC (Qb (Qe QB (Qa 0) (mI 0)) (Qb (Qq (.str "r")) (Qb (Qe QB (Qa 0) (mI 2)) (Qb (Qe QD (Qa 1) (QM (Qe QB (Qa 0) (mI 3)) (QZ (mI 1)) QE)) Qi)))))) QU)
 (Q5 (Qt QC (Qb (Qe QB (Qa 0) (mI 0)) (Qb (Qq (.str "l")) (Qb (Qe QD (QM (Qe QB (Qa 0) (mI 2)) QE (QZ (Qv Jy (mI 1)))) (Qa 1)) (Qb (Qe QB (Qa 0) (mI 3)) Qi)))))))
def Yo:MF:=Zq 2 0 JI
def IU:MS:=(Qs (QF (Qn 4) (Qu Yo (Qb (Qa 0) (Qb (Qt QC Qi) Qi))))
 (Qs (YE (Qo (Qe Z5 (Qa 2) (Qq (.str "r")))) (Q5 (Qt QC (Qb (Qa 1) (Qb (Qa 2) (Qb (Qe QD (Qe QB (Qa 4) (mI 2)) (Qt QC (Qb (Qa 3) Qi))) (Qb (Qe QB (Qa 4) (mI 3)) Qi)))))) QU)
 (Q5 (Qt QC (Qb (Qa 1) (Qb (Qa 2) (Qb (Qe QB (Qa 4) (mI 2)) (Qb (Qe QD (Qt QC (Qb (Qa 3) Qi)) (Qe QB (Qa 4) (mI 3))) Qi))))))))
def Ks:MF:=Zq 4 1 IU
def V7:MS:=(Qs (QF (Qn 1) (X5 (Qo (Qe Z5 (Qe QB (Qa 0) (mI 1)) (Qq (.str "r")))) (QM (Qe QB (Qa 0) (mI 3)) QE (QZ (mI 1))) (QM (Qe QB (Qa 0) (mI 2)) (QZ (Qv Jy (mI 1))) QE)))
 (Q5 (X5 (Qo (Qe Lx (Qv Zr (Qa 1)) (mI 0))) (Qe QB (Qa 1) (mI 0)) (Qq .non))))
def YT:MF:=Zq 1 1 V7
def KM:MS:=(Qs (QF (Qn 1) (Qu YT (Qb (Qa 0) Qi)))
 (Qs (YE (BG (Qo (Qe cP (Qa 1) (Qq .non))) (Qo (Qe CI (Qe QB (Qa 1) (mI 0)) (Qq (.str "many"))))) (Z4 8 (Qb (Qq (.str "the next token is no many")) Qi)) QU)
 (Q5 (Qa 1))))
def Xi:MF:=Zq 1 1 KM
def ZB:MS:=(Qs (QF (Qn 8) (Qe QB (Qe QB (Zd [11,12] "table" (Qa 0)) (Qa 6)) (Qe QB (Qa 4) (Qa 5))))
 (Qs (YE (Qo (Qe cP (Qa 8) (Qq .non))) (Q5 (Qq .non)) QU)
 (Qs (YF (Qa 4) (Qa 5) (Qe QB (Qa 8) (mI 0)))
 (Qs (QF (Qn 5) (X5 (Qo (Qe Z5 (Qe QB (Qa 8) (mI 1)) (Qq (.str "r")))) (Qe QD (Qa 5) (mI 1)) (Qe VS (Qa 5) (mI 1))))
 (Qs (QF (Qn 6) (Qe QB (Qa 8) (mI 2)))
 (YE (YD (Qo (Qu ZD (Qb (Qa 5) (Qb (Qv Zr (Qa 4)) Qi))))) (Q5 (X5 (Jj (Qo (Qe Z5 (Qe QB (Qa 8) (mI 1)) (Qa 2))) (Qo (Qe Z5 (Qa 6) (Qa 1)))) (Qv ZT (Qa 4)) (Qq .non))) QU))))))
def CL:MS:=(Qs (QF (Qn 4) (Qv VT (Qa 3)))
 (Qs (QF (Qn 5) (X5 (Qo (Qe Z5 (Qa 2) (Qq (.str "r")))) (mI 0) (Qe VS (Qv Zr (Qa 4)) (mI 1))))
 (Qs (QF (Qn 6) (Qa 1))
 (Qs (Y1 (Q4 (mI 1000)) (Qn 7) ZB)
 (Q5 (Qq .non))))))
def V8:MF:=Zq 4 5 CL
def Vq:MS:=(Qs (QF (Qn 2) (Qu Xi (Qb (Qa 1) Qi)))
 (Qs (QF (Qn 3) (Qu V8 (Qb (Qa 0) (Qb (Qe QB (Qa 1) (mI 0)) (Qb (Qe QB (Qa 1) (mI 1)) (Qb (Qe QB (Qa 2) (mI 1)) Qi))))))
 (Qs (YE (Qo (Qe cP (Qa 3) (Qq .non))) (Z4 8 (Qb (Qq (.str "the machine does not go over the word")) Qi)) QU)
 (Q5 (Qu Ks (Qb (Qa 1) (Qb (Qe QB (Qa 1) (mI 0)) (Qb (Qe QB (Qa 1) (mI 1)) (Qb (Qt QC (Qb (Qq (.str "many")) (Qb (Qa 3) (Qb (Qe QB (Qa 2) (mI 2)) Qi)))) Qi)))))))))
def YN:MF:=Zq 2 2 Vq
def JV:MS:=(Qs (QF (Qn 3) (Qt QC (Qb (Qt QC (Qb (Qq (.str "one")) (Qb (mI 0) Qi))) Qi)))
 (Qs (YE (Qo (Qe Z5 (Qa 1) (Qq (.str "pad")))) (Q5 (X5 (Qo (Qe Z5 (Qa 2) (Qq (.str "l")))) (Qe QD (Qa 3) (Qa 0)) (Qe QD (Qa 0) (Qa 3)))) QU)
 (Qs (YE (Qo (Qe CI (Qa 1) (Qq (.str "trim")))) (Z4 8 (Qb (Qq (.str "there is no such move of a list")) Qi)) QU)
 (Qs (YE (Qo (Qe CI (X5 (Qo (Qe Z5 (Qa 2) (Qq (.str "l")))) (QM (Qa 0) QE (QZ (mI 1))) (QM (Qa 0) (QZ (Qv Jy (mI 1))) QE)) (Qa 3))) (Z4 8 (Qb (Qq (.str "the outermost token is no one of the blank")) Qi)) QU)
 (Q5 (X5 (Qo (Qe Z5 (Qa 2) (Qq (.str "l")))) (QM (Qa 0) (QZ (mI 1)) QE) (QM (Qa 0) QE (QZ (Qv Jy (mI 1))))))))))
def ZL:MF:=Zq 3 1 JV
def Yl:MS:=(Qs (YE (YD (Qo (Qu ZD (Qb (Qa 2) (Qb (Qv Zr (Qa 0)) Qi))))) (Z4 8 (Qb (Qq (.str "the list has no such token")) Qi)) QU)
 (Qs (QF (Qn 3) (X5 (Qo (Qe Z5 (Qa 1) (Qq (.str "l")))) (Qa 2) (Qe VS (Qe VS (Qv Zr (Qa 0)) (mI 1)) (Qa 2))))
 (Qs (YE (Qo (Qe CI (Qe QB (Qe QB (Qa 0) (Qa 3)) (mI 0)) (Qq (.str "many")))) (Z4 8 (Qb (Qq (.str "the token is no many")) Qi)) QU)
 (Q5 (Qa 3)))))
def Zy:MF:=Zq 3 1 Yl
def Ah:MS:=(Q5 (Qv ZT (ZQ (QQ (Qa 0)) 1 [] (Qn 0) Yb (Qt QC (Qb (Qq (.str "one")) (Qb (Qa 0) Qi))))))
def Fx:MF:=Zq 1 0 Ah
def BO:MS:=(Q5 (X5 (Qo (Qe Z5 (Qe QB (Qa 0) (mI 0)) (Qq (.str "one")))) (Qa 0) (Qt QC (Qb (Qq (.str "many")) (Qb (Qe QB (Qa 0) (mI 1)) (Qb (Qe QD (Qe QB (Qa 0) (mI 2)) (mI 1)) Qi))))))
def Yz:MF:=Zq 1 0 BO
def YO:MS:=(Qs (QF (Qn 3) (Qe QB (Qa 0) (Qa 1)))
 (Qs (QF (Qn 4) (X5 (Qo (Qa 2)) (Qe QD (Qa 1) (mI 1)) (Qe VS (Qa 1) (Qv Zr (Qe QB (Qa 3) (mI 1))))))
 (Qs (QF (Qn 5) (Qe QD (Qa 4) (Qv Zr (Qe QB (Qa 3) (mI 1)))))
 (Qs (YE (BG (Qo (Qe Fd (Qa 4) (mI 0))) (Qo (Qe CI (QM (Qa 0) (QZ (Qa 4)) (QZ (Qa 5))) (Qu Fx (Qb (Qe QB (Qa 3) (mI 1)) Qi))))) (Z4 8 (Qb (Qq (.str "the ones next to the many are not its word")) Qi)) QU)
 (Q5 (Qe QD (Qe QD (QM (Qa 0) QE (QZ (Qe IS (Qa 4) (Qa 1)))) (Qt QC (Qb (Qu Yz (Qb (Qa 3) Qi)) Qi))) (QM (Qa 0) (QZ (Qe PL (Qa 5) (Qe QD (Qa 1) (mI 1)))) QE)))))))
def Zw:MF:=Zq 3 3 YO
def X9:MS:=(Qs (QF (Qn 4) (Qu Zy (Qb (Qa 0) (Qb (Qa 2) (Qb (Qa 3) Qi)))))
 (Qs (YE (Qo (Qe (GR false) (Qa 1) (Qt QC (Qb (Qq (.str "join")) (Qb (Qq (.str "draw")) Qi))))) (Q5 (Qu Zw (Qb (Qa 0) (Qb (Qa 4) (Qb (Qe Z5 (Qe Z5 (Qa 1) (Qq (.str "join"))) (Qe Z5 (Qa 2) (Qq (.str "l")))) Qi))))) QU)
 (Qs (YE (Qo (Qe (GR false) (Qa 1) (Qt QC (Qb (Qq (.str "roll")) (Qb (Qq (.str "back")) Qi))))) Oc QU)
 (Z4 8 (Qb (Qq (.str "there is no such move of a many")) Qi)))))
def YQ:MF:=Zq 4 1 X9
def Zj:MS:=(Qs (YE (BG (YD (Qo (Qv (VU .tuple) (Qa 1)))) (BG (Qo (Qe (GR true) (Qv Zr (Qa 1)) (Qt QC (Qb (mI 2) (Qb (mI 3) Qi))))) (Qo (Qe (GR true) (Qe QB (Qa 1) (mI 1)) (Qt QC (Qb (Qq (.str "l")) (Qb (Qq (.str "r")) Qi))))))) (Z4 8 (Qb (Qq (.str "there is no such move")) Qi)) QU)
 (Qs (QF (Qn 2) (Qe QB (Qa 1) (mI 1)))
 (Qs (QF (Qn 3) (X5 (Qo (Qe Z5 (Qa 2) (Qq (.str "l")))) (Qe QB (Qa 0) (mI 2)) (Qe QB (Qa 0) (mI 3))))
 (Qs (YE (Qo (Qe Z5 (Qv Zr (Qa 1)) (mI 2))) (QF (Qn 4) (Qu ZL (Qb (Qa 3) (Qb (Qe QB (Qa 1) (mI 0)) (Qb (Qa 2) Qi))))) (QF (Qn 4) (Qu YQ (Qb (Qa 3) (Qb (Qe QB (Qa 1) (mI 0)) (Qb (Qa 2) (Qb (Qe QB (Qa 1) (mI 2)) Qi)))))))
 (Qs (YE (Qo (Qe Z5 (Qa 2) (Qq (.str "l")))) (Q5 (Qt QC (Qb (Qe QB (Qa 0) (mI 0)) (Qb (Qe QB (Qa 0) (mI 1)) (Qb (Qa 4) (Qb (Qe QB (Qa 0) (mI 3)) Qi)))))) QU)
 (Q5 (Qt QC (Qb (Qe QB (Qa 0) (mI 0)) (Qb (Qe QB (Qa 0) (mI 1)) (Qb (Qe QB (Qa 0) (mI 2)) (Qb (Qa 4) Qi)))))))))))
def QV:MF:=Zq 2 3 Zj
def KN:MS:=(Qs (QF (Qn 2) (Qu YT (Qb (Qa 1) Qi)))
 (Qs (YE (Jj (Qo (Qe Ly (Qa 2) (Qq .non))) (Qo (Qe Z5 (Qe QB (Qa 2) (mI 0)) (Qq (.str "many"))))) (Z4 8 (Qb (Qq (.str "the cell to be read is no one")) Qi)) QU)
 (Qs (QF (Qn 3) (Qe QB (Qe QB (Zd [11,12] "table" (Qa 0)) (Qe QB (Qa 1) (mI 0))) (X5 (Qo (Qe cP (Qa 2) (Qq .non))) (mI 0) (Qe QB (Qa 2) (mI 1)))))
 (Qs (YE (Qo (Qe cP (Qa 3) (Qq .non))) (Z4 8 (Qb (Qq (.str "the machine stops there")) Qi)) QU)
 (Q5 (Qu Ks (Qb (Qa 1) (Qb (Qe QB (Qa 3) (mI 2)) (Qb (Qe QB (Qa 3) (mI 1)) (Qb (Qt QC (Qb (Qq (.str "one")) (Qb (Qe QB (Qa 3) (mI 0)) Qi))) Qi))))))))))
def Y6:MF:=Zq 2 2 KN
def Y7:MS:=(Qs (YE (Qo (Qe Z5 (Qa 2) (Qq (.tup [(.str "step")])))) (Q5 (Qu Y6 (Qb (Qa 0) (Qb (Qa 1) Qi)))) QU)
 (Qs (YE (Qo (Qe Z5 (Qa 2) (Qq (.tup [(.str "over")])))) (Q5 (Qu YN (Qb (Qa 0) (Qb (Qa 1) Qi)))) QU)
 (Qs (YE (Qo (Qe Z5 (Qa 2) (Qq (.tup [(.str "open")])))) Oc QU)
 (Q5 (Qu QV (Qb (Qa 1) (Qb (Qa 2) Qi)))))))
def QR:MF:=Zq 3 0 Y7
def Fy:MS:=(Q5 (Jx (Qu VF (Qb (Qa 0) Qi)) (Qe dY (Qa 0) (mI 0))))
def QJ:MF:=Zq 1 0 Fy
def Ai:MS:=(Q5 (Jx (Qv (VU .tuple) (Qa 0)) (Jx (Qe Lx (Qv Zr (Qa 0)) (mI 0)) (Qv Gj (ZQ (QQ (Qa 0)) 1 [] (Qn 0) Yb (Qu QJ (Qb (Qa 0) Qi)))))))
def Vy:MF:=Zq 1 0 Ai
def Y8:MS:=(Qs (YE (YD (Qo (Qv (VU .tuple) (Qa 0)))) (Q5 (Qq (.bl false))) QU)
 (Qs (YE (Qo (Qe Z5 (Qv Zr (Qa 0)) (mI 2))) (Q5 (Jx (Qe Z5 (Qe QB (Qa 0) (mI 0)) (Qq (.str "one"))) (Qu QJ (Qb (Qe QB (Qa 0) (mI 1)) Qi)))) QU)
 (Q5 (Jx (Qe Z5 (Qv Zr (Qa 0)) (mI 3)) (Jx (Qe Z5 (Qe QB (Qa 0) (mI 0)) (Qq (.str "many"))) (Jx (Qu Vy (Qb (Qe QB (Qa 0) (mI 1)) Qi)) (Qu QJ (Qb (Qe QB (Qa 0) (mI 2)) Qi))))))))
def Jp:MF:=Zq 1 0 Y8
def Hc:MS:=(YE (BG (YD (Qo (Qv Vc (Qa 0)))) (YD (Qo (Qv Gj (ZQ (QQ (Qa 0)) 1 [] (Qn 0) Yb (Qu Jp (Qb (Qa 0) Qi))))))) (Z4 7 (Qb (Qq (.str "the machine stands between two lists of tokens")) Qi)) QU)
def QS:MF:=Zq 1 0 Hc
def Yd:MS:=(Qs (YE (BG (YD (Qo (Qv (VU .tuple) (Qa 0)))) (Qo (Qe CI (Qv Zr (Qa 0)) (mI 4)))) (Z4 7 (Qb (Qq (.str "a shape is a state, a facing and two lists")) Qi)) QU)
 (Qs (YE (YD (Qo (Qu QJ (Qb (Qe QB (Qa 0) (mI 0)) Qi)))) (Z4 7 (Qb (Qq (.str "the state is a whole number from nought on")) Qi)) QU)
 (Qs (YE (Qo (Qe (GR true) (Qe QB (Qa 0) (mI 1)) (Qt QC (Qb (Qq (.str "l")) (Qb (Qq (.str "r")) Qi))))) (Z4 7 (Qb (Qq (.str "the machine faces l or r")) Qi)) QU)
 (Qs (Zc (Qu QS (Qb (Qe QB (Qa 0) (mI 2)) Qi)))
 (Zc (Qu QS (Qb (Qe QB (Qa 0) (mI 3)) Qi)))))))
def Yx:MF:=Zq 1 0 Yd
def CY:MS:=(Q5 (X5 (Qo (Qe Z5 (Qe QB (Qa 0) (mI 0)) (Qq (.str "one")))) (Qt QC (Qb (Qe QB (Qa 0) (mI 1)) Qi)) (Qe QB (Qa 0) (mI 1))))
def XF:MF:=Zq 1 0 CY
def Hd:MS:=(Q5 (Qv Zr (Qe QB (Zd [11,12] "table" (Qa 0)) (mI 0))))
def KO:MF:=Zq 1 0 Hd
def Ga:MS:=(Q5 (Qv Zr (Zd [11,12] "table" (Qa 0))))
def VY:MF:=Zq 1 0 Ga
def Yp:MS:=(YE (Qo (Qe dY (Qv G9 (Qu XF (Qb (Qa 4) Qi))) (Qa 2))) (Z4 7 (Qb (Qq (.str "a sign is not the machine's")) Qi)) QU)
def Yq:MS:=(Y1 (QQ (Qa 3)) (Qn 4) Yp)
def Z9:MS:=(Qs (Zc (Qu Yx (Qb (Qa 1) Qi)))
 (Qs (YE (Qo (Qe dY (Qe QB (Qa 1) (mI 0)) (Qu VY (Qb (Qa 0) Qi)))) (Z4 7 (Qb (Qq (.str "the state is not the machine's")) Qi)) QU)
 (Qs (QF (Qn 2) (Qu KO (Qb (Qa 0) Qi)))
 (Y1 (QQ (QM (Qa 1) (QZ (mI 2)) QE)) (Qn 3) Yq))))
def Q0:MF:=Zq 2 3 Z9
def V9:MS:=(Q5 (Qt QC (Qb (Qe QB (Qa 0) (mI 0)) (Qb (Qe QB (Qa 0) (mI 1)) (Qb (Qv ZT (Qe QB (Qa 0) (mI 2))) (Qb (Qv ZT (Qe QB (Qa 0) (mI 3))) Qi))))))
def ZR:MF:=Zq 1 0 V9
def PN:MS:=(Qs (Zc (Qu Q0 (Qb (Qa 0) (Qb (Qa 1) Qi))))
 (Q5 (Qu QR (Qb (Qa 0) (Qb (Qu ZR (Qb (Qa 1) Qi)) (Qb (Qa 2) Qi))))))
def GC:MF:=Zq 3 0 PN
def Xj:MS:=(QF (Qn 8) (Qu GC (Qb (Bn 11 Yf (Qb (Qa 2) Qi)) (Qb (Qa 8) (Qb (Qa 9) Qi)))))
def Xk:MS:=(Qs (QF (Qn 12) (Qe Z0 (Qu Xh (Qb (Qa 0) (Qb (Qa 1) Qi))) (Qe QD (Qv Zr (Qa 10)) (mI 1))))
 (Qs (QF (Qn 13) (Qe QB (Qq (.str "lr")) (Qe Z0 (Qe Yw (Qa 5) (mI 180)) (mI 2))))
 (QF (Qn 10) (Qe QD (Qe QD (QM (Qa 10) QE (QZ (Qa 12))) (Qt Ym (Qb (Qt QC (Qb (Qq (.str "pad")) (Qb (Qa 13) Qi))) (Qb (Qt QC (Qb (Qq (.str "trim")) (Qb (Qa 13) Qi))) Qi)))) (QM (Qa 10) (QZ (Qa 12)) QE)))))
def Xl:MS:=(Qs (QF (Qn 17) (Qu Z2 (Qb (QM (Qa 4) (QZ (Qa 7)) QE) (Qb (Qv Zr (Qa 3)) (Qb (Qe QD (Qa 6) (Qa 16)) Qi)))))
 (Zc (Zm (Qa 15) (Qe QD (Qa 17) (Qu Z2 (Qb (QM (Qa 4) QE (QZ (Qa 7))) (Qb (Qv Zr (Qa 3)) (Qb (Qe QD (Qe QD (Qa 6) (Qa 16)) (mI 1)) Qi))))))))
def Fz:MS:=(Qs (QF (Qn 5) (Qu Xh (Qb (Qa 0) (Qb (Qa 1) Qi))))
 (Qs (QF (Qn 6) (Qe Z0 (Qa 5) (mI 4)))
 (Qs (QF (Qn 7) (Qe Z0 (Qe Yw (Qa 5) (mI 4)) (Qv Zr (Qa 4))))
 (Qs (QF (Qn 8) (Qt QC (Qb (mI 1) (Qb (Qq (.str "r")) (Qb (Qt QC (Qb (Qt QC (Qb (Qq (.str "one")) (Qb (mI 1) Qi))) Qi)) (Qb (Qt QC (Qb (Qt QC (Qb (Qq (.str "many")) (Qb (Qa 3) (Qb (Qa 6) Qi)))) Qi)) Qi))))))
 (Qs (Y1 (QQ (QM (Qa 4) QE (QZ (Qa 7)))) (Qn 9) Xj)
 (Qs (QF (Qn 10) (Qe QD (QM (Qa 4) (QZ (Qa 7)) QE) (QM (Qa 4) QE (QZ (Qa 7)))))
 (Qs (Y1 (Q4 (Qe Z0 (Qe Yw (Qa 5) (mI 60)) (mI 3))) (Qn 11) Xk)
 (Qs (QF (Qn 14) (Qu Fw (Qb (Qa 4) (Qb (QM (Qa 4) QE (QZ (Qa 7))) (Qb (Qv Zr (Qa 3)) (Qb (Qa 6) Qi))))))
 (Qs (QF (Qn 15) (Qt Ym Qi))
 (Qs (Y1 (Q4 (mI 4)) (Qn 16) Xl)
 (Q5 (Qt QC (Qb (Qt QC (Qb (Qq (.str "grow")) (Qb (Qa 14) (Qb (Qa 8) (Qb (Qa 10) Qi))))) (Qb (Qa 15) Qi))))))))))))))
def Cr:MF:=Zq 5 13 Fz
def WA:MS:=(Qs (QF (Xd [(Qn 2),(Qn 3),(Qn 4),(Qn 5)]) (Qa 1))
 (Qs (QF (Qn 6) (Qt Ym (Qb (Qt QC (Qb (Qq (.str "one")) Qi)) (Qb (Qt QC (Qb (Qq (.str "one")) (Qb (Qv Jy (mI 1)) Qi))) (Qb (Qt QC (Qb (Qq (.str "many")) (Qb (Qt QC Qi) (Qb (mI 0) Qi)))) (Qb (Qt QC (Qb (Qq (.str "many")) (Qb (Qt QC (Qb (mI 0) Qi)) (Qb (Qv Jy (mI 1)) Qi)))) (Qb (Qt QC (Qb (Qq (.str "many")) (Qb (Qt Ym (Qb (mI 0) Qi)) (Qb (mI 0) Qi)))) (Qb (Qt QC (Qb (Qq (.str "two")) (Qb (mI 0) Qi))) (Qb (Qq .non) Qi)))))))))
 (Qs (QF (Qn 6) (Qe QD (Qa 6) (Qt Ym (Qb (Qt QC (Qb (Qq (.str "many")) (Qb (Qt QC (Qb (mI 0) Qi)) Qi))) (Qb (Qt QC (Qb (Qq (.str "one")) (Qb (Qq (.str "0")) Qi))) (Qb (Qt QC (Qb (Qq (.str "many")) (Qb (Qt QC (Qb (mI 0) (Qb (Qv Jy (mI 1)) Qi))) (Qb (mI 1) Qi)))) (Qb (Qt Ym (Qb (Qq (.str "one")) (Qb (mI 0) Qi))) (Qb (Qt QC Qi) (Qb (Qq (.str "one")) (Qb (Qt QC (Qb (Qq (.str "one")) (Qb (mI 0) (Qb (mI 0) Qi)))) (Qb (mI 5) Qi)))))))))))
 (Qs (QF (Qn 7) (Qe QB (Qa 6) (Qe Z0 (Qe Yw (Qa 0) (mI 9)) (mI 15))))
 (Qs (QF (Qn 8) (Qe Z0 (Qe Yw (Qa 0) (mI 135)) (Qe QD (Qv Zr (Qa 4)) (mI 1))))
 (Qs (YE (Qo (Qe Z5 (Qe Z0 (Qa 0) (mI 9)) (mI 0))) (Q5 (Qt QC (Qb (Qv Jy (mI 1)) (Qb (Qa 3) (Qb (Qa 4) (Qb (Qa 5) Qi)))))) QU)
 (Qs (YE (Qo (Qe Z5 (Qe Z0 (Qa 0) (mI 9)) (mI 1))) (Q5 (Qt QC (Qb (Qa 2) (Qb (Qe QB (Qt Ym (Qb (Qq (.str "")) (Qb (Qq (.str "x")) (Qb (Qq (.str "rl")) (Qb (Qq .non) Qi))))) (Qe Z0 (Qe Yw (Qa 0) (mI 9)) (mI 4))) (Qb (Qa 4) (Qb (Qa 5) Qi)))))) QU)
 (Qs (YE (Qo (Qe Z5 (Qe Z0 (Qa 0) (mI 9)) (mI 2))) (Q5 (Qt QC (Qb (Qa 2) (Qb (Qa 3) (Qb (Qq .non) (Qb (Qa 5) Qi)))))) QU)
 (Qs (YE (Qo (Qe Z5 (Qe Z0 (Qa 0) (mI 9)) (mI 3))) (Q5 (Qe QB (Qt Ym (Qb (Qt QC (Qb (Qa 2) (Qb (Qa 3) (Qb (Qa 4) Qi)))) (Qb (Qt Ym (Qb (Qa 2) (Qb (Qa 3) (Qb (Qa 4) (Qb (Qa 5) Qi))))) (Qb (Qq .non) (Qb (Qt QC (Qb (Qa 2) (Qb (Qa 3) (Qb (Qa 4) (Qb (Qa 5) (Qb (mI 0) Qi)))))) Qi))))) (Qe Z0 (Qe Yw (Qa 0) (mI 9)) (mI 4)))) QU)
 (Qs (YE (Qo (Qe Z5 (Qe Z0 (Qa 0) (mI 9)) (mI 4))) (Q5 (Qt QC (Qb (Qa 2) (Qb (Qa 3) (Qb (Qa 4) (Qb (Qq (.str "one")) Qi)))))) QU)
 (Qs (YE (Qo (Qe Z5 (Qe Z0 (Qa 0) (mI 9)) (mI 5))) (Q5 (Qt QC (Qb (Qq .non) (Qb (Qa 3) (Qb (Qa 4) (Qb (Qa 5) Qi)))))) QU)
 (Qs (YE (Qo (Qe Z5 (Qe Z0 (Qa 0) (mI 9)) (mI 6))) (Q5 (Qt QC (Qb (Qa 2) (Qb (Qa 3) (Qb (Qa 4) (Qb (Qe QD (Qv VT (Qa 5)) (Qt Ym (Qb (Qa 7) Qi))) Qi)))))) QU)
 (Q5 (Qt QC (Qb (Qa 2) (Qb (Qa 3) (Qb (Qe QD (Qe QD (Qv VT (QM (Qa 4) QE (QZ (Qa 8)))) (Qt Ym (Qb (Qa 7) Qi))) (Qv VT (QM (Qa 4) (QZ (Qa 8)) QE))) (Qb (Qa 5) Qi))))))))))))))))))
def WJ:MF:=Zq 2 7 WA
def Vr:MS:=(Qs (YE (Qo (Qe Z5 (Qe QB (Qa 4) (mI 0)) (Qq (.str "many")))) (QF (Qn 4) (Qt QC (Qb (Qq (.str "many")) (Qb (Qe QB (Qa 4) (mI 1)) (Qb (Qe QD (Qe QB (Qa 4) (mI 2)) (mI 1)) Qi))))) QU)
 (Zc (Zm (Qa 3) (Qa 4))))
def KP:MS:=(Qs (QF (Qn 3) (Qt Ym Qi))
 (Qs (Y1 (QQ (Qa 2)) (Qn 4) Vr)
 (Zc (Zm (Qa 1) (Qv ZT (Qa 3))))))
def FB:MS:=(Qs (QF (Qn 1) (Qt Ym Qi))
 (Qs (Y1 (QQ (QM (Qa 0) (QZ (mI 2)) QE)) (Qn 2) KP)
 (Q5 (Qe QD (QM (Qa 0) QE (QZ (mI 2))) (Qv ZT (Qa 1))))))
def FC:MF:=Zq 1 4 FB
def XX:MS:=(Qs (QF (Qn 4) (Qe QB (Qe QB (Qa 0) (Qa 2)) (Qa 3)))
 (YE (Qo (Qe (GR false) (Qe QB (Qa 4) (Qv Jy (mI 1))) (Qt QC (Qb (mI 0) (Qb (mI 1) Qi))))) (Qs (QF (Qn 5) (Qe QD (Qe QD (QM (Qe QB (Qa 0) (Qa 2)) QE (QZ (Qa 3))) (Qt QC (Qb (Qe QD (QM (Qa 4) QE (QZ (Qv Jy (mI 1)))) (Qt QC (Qb (Qe Z5 (Qe QB (Qa 4) (Qv Jy (mI 1))) (mI 1)) Qi))) Qi))) (QM (Qe QB (Qa 0) (Qa 2)) (QZ (Qe QD (Qa 3) (mI 1))) QE)))
 (Zc (Zm (Qa 1) (Qe QD (Qe QD (QM (Qa 0) QE (QZ (Qa 2))) (Qt QC (Qb (Qa 5) Qi))) (QM (Qa 0) (QZ (Qe QD (Qa 2) (mI 1))) QE))))) QU))
def XY:MS:=(Y1 (Q4 (Qv Zr (Qe QB (Qa 0) (Qa 2)))) (Qn 3) XX)
def CZ:MS:=(Qs (QF (Qn 1) (Qt Ym Qi))
 (Qs (YE (Qo (Qe Fd (Qe QB (Qa 0) (mI 0)) (mI 2))) (Zc (Zm (Qa 1) (Qe QD (Qt QC (Qb (Qe Z5 (Qe QB (Qa 0) (mI 0)) (mI 1)) Qi)) (QM (Qa 0) (QZ (mI 1)) QE)))) QU)
 (Qs (Y1 (Kj (mI 2) (mI 4)) (Qn 2) XY)
 (Q5 (Qa 1)))))
def C3:MF:=Zq 1 5 CZ
def XZ:MS:=(YE (Jj (Qo (Qe Z5 (Qv Zr (Qe QB (Qa 8) (Qa 14))) (mI 3))) (Qo (Qe Fd (Qe QB (Qe QB (Qa 8) (Qa 14)) (mI 2)) (mI 2)))) (Zc (Zm (Qa 10) (Qt QC (Qb (Qa 5) (Qb (Qa 6) (Qb (Qa 7) (Qb (Qe QD (Qe QD (QM (Qa 8) QE (QZ (Qa 14))) (Qt Ym (Qb (Qe QD (QM (Qe QB (Qa 8) (Qa 14)) QE (QZ (mI 2))) (Qt QC (Qb (Qe Z5 (Qe QB (Qe QB (Qa 8) (Qa 14)) (mI 2)) (mI 1)) Qi))) Qi))) (QM (Qa 8) (QZ (Qe QD (Qa 14) (mI 1))) QE)) Qi))))))) QU)
def C4:MS:=(Qs (QF (Qn 4) (Qu Xh (Qb (Qa 0) (Qb (Qa 1) Qi))))
 (Qs (QF (Xd [(Qn 5),(Qn 6),(Qn 7),(Qn 8)]) (Qa 2))
 (Qs (QF (Qn 9) (ZQ (QQ (Qa 8)) 1 [] (Qn 0) (Qo (Qe CI (Qe QB (Qa 0) (mI 0)) (Qq (.str "step")))) (Qa 0)))
 (Qs (QF (Qn 10) (Qt Ym (Qb (Qt QC (Qb (Qa 5) (Qb (Qa 6) (Qb (Qa 7) (Qb (Qt Ym Qi) Qi))))) (Qb (Qt QC (Qb (Qa 5) (Qb (Qa 6) (Qb (Qa 7) (Qb (Qa 9) Qi))))) (Qb (Qt QC (Qb (Qa 5) (Qb (Qa 6) (Qb (Qa 7) (Qb (QM (Qa 8) QE (QZ (Qv Jy (mI 1)))) Qi))))) Qi)))))
 (Qs (QF (Qn 11) (Qe QB (Qt Ym (Qb (Qq .non) (Qb (Qt QC (Qb (Qq (.str "stop")) Qi)) (Qb (Qt QC Qi) (Qb (Qq (.str "step")) (Qb (Qt QC (Qb (Qq (.str "join")) (Qb (Qq (.str "l")) Qi))) (Qb (Qt QC (Qb (Qq (.str "step")) (Qb (mI 0) Qi))) (Qb (Qt QC (Qb (Qq (.str "trim")) (Qb (Qq (.str "x")) Qi))) (Qb (mI 0) Qi))))))))) (Qe Z0 (Qa 4) (mI 8))))
 (Qs (Zc (Zm (Qa 10) (Qt QC (Qb (Qa 5) (Qb (Qa 6) (Qb (Qa 7) (Qb (Qe QD (Qa 8) (Qt Ym (Qb (Qa 11) Qi))) Qi)))))))
 (Qs (QF (Qn 10) (Qe QD (Qa 10) (Qt Ym (Qb (Qt QC (Qb (Qa 5) (Qb (Qe QD (Qa 6) (mI 1)) (Qb (Qa 7) (Qb (Qa 8) Qi))))) (Qb (Qt QC (Qb (Qa 5) (Qb (Qe VS (Qa 6) (mI 1)) (Qb (Qa 7) (Qb (Qa 8) Qi))))) (Qb (Qt QC (Qb (Qa 5) (Qb (Qv Jy (Qa 6)) (Qb (Qa 7) (Qb (Qa 8) Qi))))) Qi))))))
 (Qs (QF (Qn 10) (Qe QD (Qa 10) (Qt Ym (Qb (Qt QC (Qb (Qa 5) (Qb (Qe QB (Qt Ym (Qb (Qq .non) (Qb (Qq (.str "1")) (Qb (Qq (.bl true)) (Qb (Qt QC (Qb (mI 1) Qi)) Qi))))) (Qe Z0 (Qe Yw (Qa 4) (mI 8)) (mI 4))) (Qb (Qa 7) (Qb (Qa 8) Qi))))) Qi))))
 (Qs (QF (Qn 12) (Qe QD (Qt QC (Qb (Qe Z0 (Qe QD (Qe QD (Qe QB (Qa 7) (mI 0)) (mI 1)) (Qe Z0 (Qe Yw (Qa 4) (mI 32)) (Qe VS (Qa 3) (mI 1)))) (Qa 3)) Qi)) (QM (Qa 7) (QZ (mI 1)) QE)))
 (Qs (QF (Qn 13) (Qt QC (Qb (Qe QB (Qa 7) (mI 0)) (Qb (Qe QB (Qq (.str "rl")) (Qv Od (Qe Z5 (Qe QB (Qa 7) (mI 1)) (Qq (.str "r"))))) (Qb (Qe QB (Qa 7) (mI 2)) (Qb (Qe QB (Qa 7) (mI 3)) Qi))))))
 (Qs (QF (Qn 10) (Qe QD (Qa 10) (ZQ (QQ (Qt Ym (Qb (Qa 12) (Qb (Qa 13) (Qb (Qu FC (Qb (Qa 7) Qi)) Qi))))) 1 [5,6,8] (Qn 0) Yb (Qt QC (Qb (Qa 1) (Qb (Qa 2) (Qb (Qa 0) (Qb (Qa 3) Qi))))))))
 (Qs (QF (Qn 10) (Qe QD (Qa 10) (ZQ (QQ (Qu C3 (Qb (Qa 7) Qi))) 1 [5,6,8] (Qn 0) Yb (Qt QC (Qb (Qa 1) (Qb (Qa 2) (Qb (Qa 0) (Qb (Qa 3) Qi))))))))
 (Qs (Y1 (Q4 (Qv Zr (Qa 8))) (Qn 14) XZ)
 (Qs (Zc (Zm (Qa 10) (Qt QC (Qb (Qa 5) (Qb (Qa 6) (Qb (Qu WJ (Qb (Qe Yw (Qa 4) (mI 64)) (Qb (Qa 7) Qi))) (Qb (Qa 8) Qi)))))))
 (Qs (QF (Qn 10) (Qe QD (Qa 10) (Qt Ym (Qb (Qt QC (Qb (Qa 5) (Qb (Qa 6) (Qb (Qa 7) (Qb (Qq .non) Qi))))) (Qb (Qt QC (Qb (Qa 5) (Qb (Qa 6) (Qb (Qa 7) (Qb (Qq (.str "step")) Qi))))) (Qb (Qt QC (Qb (Qa 5) (Qb (Qa 6) (Qb (Qa 7) Qi)))) (Qb (Qt QC Qi) Qi)))))))
 (Q5 (Qe QD (Qa 10) (Qt Ym (Qb (Qt QC (Qb (Qa 5) (Qb (Qa 6) (Qb (Qa 7) (Qb (Qa 8) (Qb (mI 0) Qi)))))) (Qb (Qt QC (Qb (Qq (.str "grown")) (Qb (Qa 6) (Qb (Qa 7) (Qb (Qa 8) Qi))))) (Qb (Qv VT (Qa 2)) (Qb (Qq .non) (Qb (Qq (.str "grow")) (Qb (mI 7) Qi))))))))))))))))))))))))
def C5:MF:=Zq 4 11 C4
def Ya:MS:=(QF (Qn 3) (Qu QR (Qb (Qa 0) (Qb (Qa 3) (Qb (Qa 4) Qi)))))
def Ye:MS:=(Qs (Zc (Qu Q0 (Qb (Qa 0) (Qb (Qa 1) Qi))))
 (Qs (QF (Qn 3) (Qu ZR (Qb (Qa 1) Qi)))
 (Qs (Y1 (QQ (Qa 2)) (Qn 4) Ya)
 (Q5 (Qa 3)))))
def Zz:MF:=Zq 3 2 Ye
def BP:MS:=(Qs (ZS [11,12] "table" (Qa 0) (Zd [11,12] "table" (Qa 1)))
 (Qs (ZS [12] "state" (Qa 0) (Qe QB (Qa 2) (mI 0)))
 (Qs (ZS [12] "place" (Qa 0) (Qe QB (Qa 2) (mI 1)))
 (Qs (ZS [12] "left_marks" (Qa 0) (ZQ (QQ (Qe QB (Qa 2) (mI 2))) 2 [0] (Xd [(Qn 0),(Qn 1)]) (Qo (Qe Fd (Qa 0) (Zd [12] "place" (Qa 2)))) (Qt QC (Qb (Qa 0) (Qb (Qa 1) Qi)))))
 (ZS [12] "right_marks" (Qa 0) (ZQ (Fp (Qe QB (Qa 2) (mI 2))) 2 [0] (Xd [(Qn 0),(Qn 1)]) (Qo (Qe dY (Qa 0) (Zd [12] "place" (Qa 2)))) (Qt QC (Qb (Qa 0) (Qb (Qa 1) Qi)))))))))
def VZ:MF:=Zq 3 0 BP
def EQ:MS:=(Q5 (Jx (Qe Lx (Qv Zr (Zd [12] "right_marks" (Qa 0))) (mI 0)) (Qe Z5 (Qe QB (Qe QB (Zd [12] "right_marks" (Qa 0)) (Qv Jy (mI 1))) (mI 0)) (Zd [12] "place" (Qa 0)))))
def ZF:MF:=Zq 1 0 EQ
def KQ:MS:=(Qs (QF (Qn 1) (X5 (Qo (Je 12 "is_on_mark" ZF (Qa 0) Qi)) (Qe QB (Qe QB (Zd [12] "right_marks" (Qa 0)) (Qv Jy (mI 1))) (mI 1)) (mI 0)))
 (Q5 (Qe QB (Qe QB (Zd [11,12] "table" (Qa 0)) (Zd [12] "state" (Qa 0))) (Qa 1))))
def Vs:MF:=Zq 1 1 KQ
def VG:MS:=(Qs (ZS [12] "place" (Qa 0) (Qe VS (Zd [12] "place" (Qa 0)) (mI 1)))
 (YE (Jj (Qo (Qe Lx (Qv Zr (Zd [12] "left_marks" (Qa 0))) (mI 0))) (Qo (Qe Z5 (Qe QB (Qe QB (Zd [12] "left_marks" (Qa 0)) (Qv Jy (mI 1))) (mI 0)) (Zd [12] "place" (Qa 0))))) (Zc (Zm (Zd [12] "right_marks" (Qa 0)) (Qv Ic (Zd [12] "left_marks" (Qa 0))))) QU))
def Xm:MF:=Zq 1 0 VG
def Ve:MS:=(Qs (YE (Qo (Je 12 "is_on_mark" ZF (Qa 0) Qi)) (Zc (Zm (Zd [12] "left_marks" (Qa 0)) (Qv Ic (Zd [12] "right_marks" (Qa 0))))) QU)
 (ZS [12] "place" (Qa 0) (Qe QD (Zd [12] "place" (Qa 0)) (mI 1))))
def JQ:MF:=Zq 1 0 Ve
def Xn:MS:=(Qs (YE (Qo (Je 12 "is_on_mark" ZF (Qa 0) Qi)) (Zc (Qv Ic (Zd [12] "right_marks" (Qa 0)))) QU)
 (YE (Qo (Qe CI (Qa 1) (mI 0))) (Zc (Zm (Zd [12] "right_marks" (Qa 0)) (Qt QC (Qb (Zd [12] "place" (Qa 0)) (Qb (Qa 1) Qi))))) QU))
def Vt:MF:=Zq 2 0 Xn
def Jq:MS:=(Qs (QF (Qn 1) (Je 12 "entry" Vs (Qa 0) Qi))
 (Qs (YE (Qo (Qe cP (Qa 1) (Qq .non))) (Q5 (Qq (.bl false))) QU)
 (Qs (Zc (Je 12 "write" Vt (Qa 0) (Qb (Qe QB (Qa 1) (mI 0)) Qi)))
 (Qs (YE (Qo (Qe Z5 (Qe QB (Qa 1) (mI 1)) (Qq (.str "r")))) (Zc (Je 12 "go_right" JQ (Qa 0) Qi)) (Zc (Je 12 "go_left" Xm (Qa 0) Qi)))
 (Qs (ZS [12] "state" (Qa 0) (Qe QB (Qa 1) (mI 2)))
 (Q5 (Qq (.bl true))))))))
def ZX:MF:=Zq 1 1 Jq
def WK:MS:=(QF (Qn 2) (Qe QD (Qa 2) (mI 1)))
def C6:MS:=(Qs (QF (Qn 2) (mI 0))
 (Qs (GP (Jj (Qo (Qe Fd (Qa 2) (Qa 1))) (Qo (Je 12 "stepped" ZX (Qa 0) Qi))) WK)
 (Q5 (Qa 2))))
def C9:MF:=Zq 2 1 C6
def MZ:MS:=(Q5 (Qt QC (Qb (Zd [12] "state" (Qa 0)) (Qb (Zd [12] "place" (Qa 0)) (Qb (Qe QD (Qv ZT (Zd [12] "left_marks" (Qa 0))) (Qv Vx (Zd [12] "right_marks" (Qa 0)))) Qi)))))
def BQ:MF:=Zq 1 0 MZ
def X0:MS:=(YE (Qo (Qe Z5 (Qe QB (Qa 3) (mI 0)) (Qq (.str "one")))) (Zc (Zm (Qa 2) (Qe QB (Qa 3) (mI 1)))) (Zc (GB (Qa 2) (Qe Xy (Qe QB (Qa 3) (mI 1)) (Qe QD (Qa 1) (Qe QB (Qa 3) (mI 2)))))))
def Ea:MS:=(Qs (QF (Qn 2) (Qt Ym Qi))
 (Qs (Y1 (QQ (Qa 0)) (Qn 3) X0)
 (Q5 (Qa 2))))
def KR:MF:=Zq 2 2 Ea
def Eb:MS:=(Qs (Zc (Qu Yx (Qb (Qa 0) Qi)))
 (Qs (YE (YD (Qo (Qu QJ (Qb (Qa 1) Qi)))) (Z4 7 (Qb (Qq (.str "the count is a whole number from nought on")) Qi)) QU)
 (Qs (QF (Qn 2) (Qu KR (Qb (Qe QB (Qa 0) (mI 2)) (Qb (Qa 1) Qi))))
 (Qs (QF (Qn 3) (Qe QD (Qa 2) (Qu KR (Qb (Qe QB (Qa 0) (mI 3)) (Qb (Qa 1) Qi)))))
 (Qs (QF (Qn 4) (ZQ (Cq (Qa 3)) 2 [2] (Xd [(Qn 0),(Qn 1)]) (Qo (Qe CI (Qa 1) (mI 0))) (Qt QC (Qb (Qe VS (Qa 0) (Qv Zr (Qa 2))) (Qb (Qa 1) Qi)))))
 (Q5 (Qt QC (Qb (Qe QB (Qa 0) (mI 0)) (Qb (X5 (Qo (Qe Z5 (Qe QB (Qa 0) (mI 1)) (Qq (.str "r")))) (mI 0) (Qv Jy (mI 1))) (Qb (Qv ZT (Qa 4)) Qi))))))))))
def Ec:MF:=Zq 2 3 Eb
def JL:MS:=(Qs (YE (Qo (Qe Fd (Qa 2) (mI 1))) Dp QU)
 (YE (Jj (Qo (Qe Lx (Qv Zr (Qa 0)) (mI 0))) (Qo (Qe Z5 (Qe QB (Qe QB (Qa 0) (Qv Jy (mI 1))) (mI 0)) (Qa 1)))) (YF (Qa 0) (Qv Jy (mI 1)) (Qt QC (Qb (Qa 1) (Qb (Qe QD (Qe QB (Qe QB (Qa 0) (Qv Jy (mI 1))) (mI 1)) (Qa 2)) Qi)))) (Zc (Zm (Qa 0) (Qt QC (Qb (Qa 1) (Qb (Qa 2) Qi)))))))
def X1:MF:=Zq 3 0 JL
def Vu:MS:=(Qs (Zc (Qu X1 (Qb (Qa 1) (Qb (mI 0) (Qb (Qe VS (Qa 3) (Qa 2)) Qi)))))
 (Qs (Zc (Qu X1 (Qb (Qa 1) (Qb (Qa 4) (Qb (mI 1) Qi)))))
 (QF (Qn 2) (Qe QD (Qa 3) (mI 1)))))
def FD:MS:=(Qs (QF (Qn 1) (Qt Ym Qi))
 (Qs (QF (Qn 2) (mI 0))
 (Qs (Y1 (QQ (Qa 0)) (Xd [(Qn 3),(Qn 4)]) Vu)
 (Q5 (Qa 1)))))
def Cs:MF:=Zq 1 4 FD
def VH:MS:=(Qs (QF (Qn 1) (Qe QB (Qa 0) (mI 1)))
 (Qs (QF (Qn 2) (Qu Cs (Qb (ZQ (Fp (Qe QB (Qa 0) (mI 2))) 2 [1] (Xd [(Qn 0),(Qn 1)]) (Qo (Qe Fd (Qa 0) (Qa 2))) (Qt QC (Qb (Qe VS (Qe VS (Qa 2) (mI 1)) (Qa 0)) (Qb (Qa 1) Qi)))) Qi)))
 (Qs (QF (Qn 3) (Qu Cs (Qb (ZQ (QQ (Qe QB (Qa 0) (mI 2))) 2 [1] (Xd [(Qn 0),(Qn 1)]) (Qo (Qe dY (Qa 0) (Qa 2))) (Qt QC (Qb (Qe VS (Qa 0) (Qa 2)) (Qb (Qa 1) Qi)))) Qi)))
 (Q5 (Qt QC (Qb (Qe QB (Qa 0) (mI 0)) (Qb (Qa 2) (Qb (Qa 3) Qi))))))))
def Xo:MF:=Zq 1 3 VH
def Ed:MS:=(Qs (QF (Qn 3) (Bn 12 VZ (Qb (Qa 0) (Qb (Qq (.tup [(.int 0),(.int 0),(.tup [])])) Qi))))
 (Qs (YE (Qo (Qe Fd (Je 12 "run" C9 (Qa 3) (Qb (Qa 1) Qi)) (Qa 1))) (Q5 (Qq (.bl false))) QU)
 (Q5 (Qe Z5 (Qu Xo (Qb (Je 12 "shot" BQ (Qa 3) Qi) Qi)) (Qu Xo (Qb (Qu Ec (Qb (Qa 2) (Qb (mI 0) Qi))) Qi))))))
def JW:MF:=Zq 3 1 Ed
def Z3:MS:=(Qs (YE (BG (YD (Qo (Qv (VU .tuple) (Qa 0)))) (BG (Qo (Qe CI (Qv Zr (Qa 0)) (mI 4))) (Qo (Qe CI (Qe QB (Qa 0) (mI 0)) (Qq (.str "grow")))))) (Q5 (Qq (.bl false))) QU)
 (Q5 (Jx (Qu QJ (Qb (Qe QB (Qa 0) (mI 1)) Qi)) (Qv Vc (Qe QB (Qa 0) (mI 3))))))
def Ze:MF:=Zq 1 0 Z3
def Gm:MS:=(Q5 (Qv ZT (ZQ (QQ (Qa 0)) 1 [] (Qn 0) Yb (Qu Yz (Qb (Qa 0) Qi)))))
def JR:MF:=Zq 1 0 Gm
def He:MS:=(Qs (Zc (Qu Yx (Qb (Qa 0) Qi)))
 (Q5 (Qt QC (Qb (Qe QB (Qa 0) (mI 0)) (Qb (Qe QB (Qa 0) (mI 1)) (Qb (Qu JR (Qb (Qe QB (Qa 0) (mI 2)) Qi)) (Qb (Qu JR (Qb (Qe QB (Qa 0) (mI 3)) Qi)) Qi)))))))
def Kt:MF:=Zq 1 0 He
def YR:MS:=(Qs (YE (YD (Qo (Qu Ze (Qb (Qa 1) Qi)))) (Q5 (Qq (.bl false))) QU)
 (Qs (QF (Qn 2) (Qe QB (Qa 1) (mI 2)))
 (Qs (SR (QF (Qn 3) (Qu Zz (Qb (Qa 0) (Qb (Qa 2) (Qb (Qe QB (Qa 1) (mI 3)) Qi))))) [⟨[7],[0,1,8],none,(Q5 (Qq (.bl false)))⟩,⟨[8],[0,1,7],none,(Q5 (Qq (.bl false)))⟩])
 (Q5 (Jx (Qe Fq (Qq (.tup [(.str "step")])) (Qe QB (Qa 1) (mI 3))) (Jx (Qe Z5 (Qa 3) (Qu Kt (Qb (Qa 2) Qi))) (Qu JW (Qb (Qa 0) (Qb (Qe QB (Qa 1) (mI 1)) (Qb (Qa 2) Qi))))))))))
def ZY:MF:=Zq 2 2 YR
def KS:MS:=(YE (Qo (Qe IT (Qu ZY (Qb (Qa 6) (Qb (Qa 7) Qi))) (Qq (.bl false)))) (Q5 (Qq (.bl false))) QU)
def FE:MS:=(Qs (QF (Xd [(Qn 2),(Qn 3),(Qn 4)]) (Qu BN (Qb (Qa 0) (Qb (Qa 1) Qi))))
 (Qs (QF (Qn 5) (Qe QB (Qu Cr (Qb (Qa 0) (Qb (Qa 1) (Qb (Qa 2) (Qb (Qa 3) (Qb (Qa 4) Qi)))))) (mI 0)))
 (Qs (QF (Qn 6) (Bn 11 Yf (Qb (Qa 2) Qi)))
 (Qs (YE (Qo (Qe IT (Qu ZY (Qb (Qa 6) (Qb (Qa 5) Qi))) (Qq (.bl true)))) (Q5 (Qq (.bl false))) QU)
 (Qs (Y1 (QQ (Qu C5 (Qb (Qa 0) (Qb (Qa 1) (Qb (Qa 5) (Qb (Qv Zr (Qa 2)) Qi)))))) (Qn 7) KS)
 (Qs (QF (Qn 8) (ZQ (QQ (Qa 2)) 1 [] (Qn 0) Yb (Qv VT (Qa 0))))
 (Qs (YF (Qe QB (Qa 8) (mI 2)) (mI 1) (Qq .non))
 (Qs (YE (Qo (Qe IT (Qu ZY (Qb (Bn 11 Yf (Qb (Qa 8) Qi)) (Qb (Qa 5) Qi))) (Qq (.bl false)))) (Q5 (Qq (.bl false))) QU)
 (Q5 (Qe fF (Qu ZY (Qb (Qa 6) (Qb (Qa 5) Qi))) (Qq (.bl true))))))))))))
def FF:MF:=Zq 2 7 FE
def Hf:MS:=(YE (YD (Qo (Qu FF (Qb (Qa 0) (Qb (Qa 1) Qi))))) (Q5 (Qq (.bl false))) QU)
def DY:MS:=(Qs (QF (Qn 1) (Qt Ym (Qb (mI 0) Qi)))
 (Qs (Y1 (Q4 (Qe QD (mI 1) (Qe Yw (Qv Zr (QM (Qa 0) QE (QZ (mI 60)))) (mI 40)))) (Qn 2) Hf)
 (Q5 (Qq (.bl true)))))
def PP:MF:=Zq 1 2 DY
abbrev vI(x:Int):Option D:=some (.int x)
abbrev vR(x:Nat):Option D:=some (.ref x)
abbrev vT(x:List D):Option D:=some (.tup x)
abbrev vF(x:List Int):Option D:=some (.fl (x.map .int))
abbrev vL(x:List D):Option GO:=some (.lst x)
structure Keeps(S:List Nat)(g g':G):Prop where
 len:g.length<=g'.length
 at':∀n o,n∉S->g[n]?=some o->g'[n]?=some o
theorem Keeps.a{i:Nat}(k:Keeps [] g g')(h:g[i]?=some o):g'[i]?=some o:=k.at' i o (by simp) h
theorem Keeps.refl  : Keeps S g g:=⟨Um _,λ_ _ _ h=>h⟩
theorem Keeps.trans(a:Keeps S g g1)(b:Keeps S g1 g2):Keeps S g g2:=⟨Up a.len b.len,λn o h e=>b.at' n o h (a.at' n o h e)⟩
theorem Keeps.mono(a:Keeps S g g1)(h:∀n∈S,n∈T):Keeps T g g1:=⟨a.len,λn o q e=>a.at' n o (λz=>q (h n z)) e⟩
theorem Keeps.all(a:Keeps [] g g1):Keeps S g g1:=a.mono (by simp)
theorem Keeps.push(o:GO):Keeps S g (g++[o]):=⟨by simp,λn u _ e=>by have hl:n<g.length:=(Ui.mp e).1;rw[Ut hl];exact e⟩
theorem Keeps.set(n:Nat)(o:GO):Keeps [n] g (g.set n o):=⟨by simp,λm u h e=>by rw[Ul (λz=>h (by simp[z]))];exact e⟩
structure KeepsN(k:Nat)(S:List Nat)(g g':G):Prop where
 len:g.length<=g'.length
 at':∀n o,n<k->n∉S->g[n]?=some o->g'[n]?=some o
theorem Qp(o:GO):(g++[o])[g.length]?=some o:=by simp
theorem Zf{g:G}{n:Nat}{o:GO}(h:g[n]?=some o):n<g.length:=(Ui.mp h).1
theorem Zt{g:G}{n:Nat}{o u:GO}(h:g[n]?=some o):(g.set n u)[n]?=some u:=by rw[Td (Zf h)]
def PQ:Out->Prop
 |.rt _ _=>True|.raise _ _ _=>True|_=>False
theorem VI(I:Nat->S3->G->Prop)(R:Out->Prop)(step:∀i σ g,i<n->I i σ g->∃d σ1,src.at' g i=some (some d)/\t d σ=some σ1/\((∃σ2 g2,(body σ1 g=.nx σ2 g2\/body σ1 g=.ct σ2 g2)/\I (i+1) σ2 g2)\/(PQ (body σ1 g)/\R (body σ1 g))))(stop:∀σ g,I n σ g->src.at' g n=some none):∀(f i:Nat)(σ:S3)(g:G),n-i<f->i<=n->I i σ g->(∃σ' g',JH src t body f i σ g=.nx σ' g'/\I n σ' g')\/(PQ (JH src t body f i σ g)/\R (JH src t body f i σ g))
 |0,_,_,_,h,_,_=>by omega
 |f+1,i,σ,g,hf,hi,h=>by
  unfold JH;by_cases e:i=n
  ·subst e;rw[stop σ g h];exact .inl ⟨σ,g,rfl,h⟩
  ·obtain⟨d,σ1,h1,h2,h3⟩:=step i σ g (by omega) h;rw[h1];dsimp only;rw[h2];dsimp only;rcases h3 with⟨σ2,g2,h3|h3,h4⟩|⟨h3,h4⟩
   ·rw[h3];exact VI I R step stop f (i+1) σ2 g2 (by omega) (by omega) h4
   ·rw[h3];exact VI I R step stop f (i+1) σ2 g2 (by omega) (by omega) h4
   ·cases hb:body σ1 g with
    |rt d g'=>rw[hb]at h4;exact .inr ⟨trivial,h4⟩|raise x σ' g'=>rw[hb]at h4;exact .inr ⟨trivial,h4⟩|nx _ _=>rw[hb]at h3;exact h3.elim|bk _ _=>rw[hb]at h3;exact h3.elim|ct _ _=>rw[hb]at h3;exact h3.elim|stuck=>rw[hb]at h3;exact h3.elim
theorem Jb(I:Nat->S3->G->Prop)(h0:I 0 σ g)(step:∀i σ g,i<n->I i σ g->∃σ1 σ2 g2,t (.int (lo+i)) σ=some σ1/\body σ1 g=.nx σ2 g2/\I (i+1) σ2 g2):∃σ' g',JH (ZH lo n) t body (n+1) 0 σ g=.nx σ' g'/\I n σ' g':=by
 have:=VI (src:=ZH lo n) (t:=t) (body:=body) (n:=n) I (λ_=>False) (λi σ g hi h=>by obtain⟨σ1,σ2,g2,a,b,c⟩:=step i σ g hi h;exact⟨.int (lo+i),σ1,by simp[ZH,hi],a,.inl ⟨σ2,g2,.inl b,c⟩⟩) (λσ g _=>by simp[ZH]) (n+1) 0 σ g (by omega) (by omega) h0;rcases this with h|h
 ·exact h
 ·exact h.2.elim
theorem LL{t:MG}{body:MS}{ds:List D}{σ:S3}{g:G}(I:Nat->S3->G->Prop)(R:Out->Prop)(h0:I 0 σ g)(step:∀i d σ g,ds[i]?=some d->I i σ g->∃σ1,t d σ=some σ1/\((∃σ2 g2,body σ1 g=.nx σ2 g2/\I (i+1) σ2 g2)\/(PQ (body σ1 g)/\R (body σ1 g)))):
  (∃σ' g',JH ⟨λ_ i=>some ds[i]?,ds.length⟩ t body (ds.length+1) 0 σ g=.nx σ' g'/\I ds.length σ' g')\/(PQ (JH ⟨λ_ i=>some ds[i]?,ds.length⟩ t body (ds.length+1) 0 σ g)/\R (JH ⟨λ_ i=>some ds[i]?,ds.length⟩ t body (ds.length+1) 0 σ g)):=
 VI (src:=⟨λ_ i=>some ds[i]?,ds.length⟩) (t:=t) (body:=body) (n:=ds.length) I R (λi σ g hi h=>by
  obtain⟨σ1,a,b⟩:=step i ds[i] σ g (by simp[hi]) h;refine⟨ds[i],σ1,by simp[hi],a,?_⟩;rcases b with⟨σ2,g2,b,c⟩|b
  ·exact .inl ⟨σ2,g2,.inl b,c⟩
  ·exact .inr b) (λσ g _=>by simp) (ds.length+1) 0 σ g (by omega) (by omega) h0
theorem KT(hn:src.top=n)(I:Nat->S3->G->Prop)(h0:I 0 σ g)(step:∀i σ g,i<n->I i σ g->∃d σ1 σ2 g2,src.at' g i=some (some d)/\t d σ=some σ1/\body σ1 g=.nx σ2 g2/\I (i+1) σ2 g2)(stop:∀σ g,I n σ g->src.at' g n=some none):∃σ' g',JH src t body (src.top+1) 0 σ g=.nx σ' g'/\I n σ' g':=by
 rw[hn];have:=VI (src:=src) (t:=t) (body:=body) (n:=n) I (λ_=>False) (λi σ g hi h=>by obtain⟨d,σ1,σ2,g2,a,b,c,e⟩:=step i σ g hi h;exact⟨d,σ1,a,b,.inl ⟨σ2,g2,.inl c,e⟩⟩) stop (n+1) 0 σ g (by omega) (by omega) h0;rcases this with h|h
 ·exact h
 ·exact h.2.elim
theorem YH(I:Nat->S3->G->List D->Prop)(step:∀i σ g acc,i<n->I i σ g acc->∃d σ1 g1,src.at' g i=some (some d)/\t d σ=some σ1/\((∃y g2,c σ1 g=.ok true g1/\e σ1 g1=.ok y g2/\I (i+1) σ1 g2 (acc++[y]))\/(c σ1 g=.ok false g1/\I (i+1) σ1 g1 acc)))(stop:∀σ g acc,I n σ g acc->src.at' g n=some none):∀(f i:Nat)(σ:S3)(g:G)(acc:List D),n-i<f->i<=n->I i σ g acc->∃ds σ' g',Jd src t c e f i σ g acc=.ok ds g'/\I n σ' g' ds
 |0,_,_,_,_,h,_,_=>by omega
 |f+1,i,σ,g,acc,hf,hi,h=>by
  unfold Jd;by_cases q:i=n
  ·subst q;rw[stop σ g acc h];exact⟨acc,σ,g,rfl,h⟩
  ·obtain⟨d,σ1,g1,h1,h2,h3⟩:=step i σ g acc (by omega) h;rw[h1];dsimp only;rw[h2];dsimp only;rcases h3 with⟨y,g2,h3,h4,h5⟩|⟨h3,h5⟩
   ·rw[h3];dsimp only;rw[Uc rfl,h4];exact YH I step stop f (i+1) σ1 g2 _ (by omega) (by omega) h5
   ·rw[h3];dsimp only;rw[Uh Ue];exact YH I step stop f (i+1) σ1 g1 _ (by omega) (by omega) h5
theorem Ov{ds:List D}{e:ME}{no:Nat}{σ:S3}{g:G}{f:D->D}(hz:ds.length<=SZ)(he:∀d∈ds,∀g1,Keeps [] g g1->∃g2,e ((List.replicate (no+1) none++σ).set 0 (some d)) g1=.ok (f d) g2/\Keeps [] g1 g2):
  ∃g',Jd ⟨λ_ i=>some ds[i]?,ds.length⟩ (Qn 0) Yb e (ds.length+1) 0 (List.replicate (no+1) none++σ) g []=.ok (ds.map f) g'/\Keeps [] g g':=by
 obtain⟨xs,σ',g',h1,h2,h3,h4⟩:=YH (src:=⟨λ_ i=>some ds[i]?,ds.length⟩) (t:=Qn 0) (c:=Yb) (e:=e) (n:=ds.length)
  (λi σ' g1 acc=>acc=(ds.take i).map f/\Keeps [] g g1/\∃u,σ'=(List.replicate (no+1) none++σ).set 0 u) (λi σ' g1 acc hi h=>by
   obtain⟨h1,h2,u,h3⟩:=h;obtain⟨g2,k1,k2⟩:=he ds[i] (UK hi) g1 h2;refine⟨ds[i],_,g1,by simp[hi],rfl,.inl ⟨f ds[i],g2,rfl,?_,?_,h2.trans k2,some ds[i],?_⟩⟩
   ·subst h3;rw[RD];exact k1
   ·rw[h1,Uq hi,UB];rfl
   ·subst h3;rw[RD]) (λσ g acc _=>by simp) (ds.length+1) 0 (List.replicate (no+1) none++σ) g [] (by omega) (by omega) ⟨by simp,.refl,none,by simp[UX]⟩
 refine⟨g',?_,h3⟩;rw[h1,h2,UO]
def XG(d:D)(n:Int):Bool:=match d with
 |.int i=>decide (0<=i/\i<n)|_=>false
def lO:D->Bool
 |.int _=>true|_=>false
theorem Va(d:D)(n:Int)(g:G)(t:Ty)(_:Gi g d=some t)(hp:lO d=true:=by rfl):ZD [d,.int n] g=.ok (.bl (XG d n)) g:=by
 cases d with
 |int i=>
  have c:Fh mK Fd (mI 0) (Qa 0) (Qa 1) [vI i,vI n] g=.ok (.bl (decide (0<=i/\i<n))) g:=by
   unfold Fh;rw[show(mI 0) [vI i,vI n] g=.ok (.int 0) g from rfl,Res.bind_ok,show Qa 0 [vI i,vI n] g=.ok (.int i) g from rfl,Res.bind_ok,show mK (.int 0) (.int i) g=.ok (.bl (decide (0<=i))) g from rfl,Res.bind_ok];by_cases h0:0<=i
   ·rw[Uu h0];show Res.ok (D.bl (decide (i<n))) g=_;by_cases h1:i<n
    ·rw[Uu h1,Uu ⟨h0,h1⟩]
    ·rw[Ur h1,Ur λz=>h1 z.2]
   ·rw[Ur h0,Ur λz=>h0 z.1]
  have a1:Qu VF (Qb (Qa 0) Qi) [vI i,vI n] g=.ok (.bl true) g:=rfl;show(match Q5 (Jx (Qu VF (Qb (Qa 0) Qi)) (Fh mK Fd (mI 0) (Qa 0) (Qa 1))) [vI i,vI n] g with
   |.nx _ g'=>Res.ok D.non g'|.rt d g'=>.ok d g'|.raise e _ g'=>.raise e g'|_=>.stuck)=_
  unfold Q5 Jx;rw[a1,Res.bind_ok];dsimp only;rw[Uc rfl,c];rfl
 |_=>cases hp
theorem lP:Str.ofString "l"=⟨#[108]⟩:=by decide +kernel
theorem cS:Str.ofString "r"=⟨#[114]⟩:=by decide +kernel
def Aj:D->Bool
 |.str s=>s==⟨#[108]⟩||s==⟨#[114]⟩|_=>false
def Ig(d:D)(states signs:Int):Bool:=match d with
 |.non=>true|.tup [a,b,c]=>XG a signs&&Aj b&&XG c states|_=>false
def thingD(_:G)(d:D):Prop:=d=.non\/∃(i j:Int)(w:Str),d=.tup [.int i,.str w,.int j]
theorem fI(s:Str)(g:G):GR false (.str s) (.tup [.str ⟨#[108]⟩,.str ⟨#[114]⟩]) g=.ok (.bl (Aj (.str s))) g:=by show Res.ok (D.bl ((⟨#[108]⟩==s)||((⟨#[114]⟩==s)||false))) g=.ok (.bl ((s==⟨#[108]⟩)||(s==⟨#[114]⟩))) g;rw[show((⟨#[108]⟩:Str)==s)=(s==⟨#[108]⟩) from BEq.comm,show((⟨#[114]⟩:Str)==s)=(s==⟨#[114]⟩) from BEq.comm,WB]
theorem M0(d:D)(states signs:Int)(g:G)(h:thingD g d):XD [d,.int states,.int signs] g=.ok (.bl (Ig d states signs)) g:=by
 rcases h with rfl|⟨i,j,w,rfl⟩
 ·rfl
 ·have a1:Qu ZD (Qb (Qe QB (Qa 0) (mI 0)) (Qb (Qa 2) Qi)) [vT [.int i,.str w,.int j],vI states,vI signs] g=.ok (.bl (XG (.int i) signs)) g:=Va (.int i) signs g .int rfl;have a3:Qu ZD (Qb (Qe QB (Qa 0) (mI 2)) (Qb (Qa 1) Qi)) [vT [.int i,.str w,.int j],vI states,vI signs] g=.ok (.bl (XG (.int j) states)) g:=Va (.int j) states g .int rfl;have a2:Qe (GR false) (Qe QB (Qa 0) (mI 1)) (Qt QC (Qb (Qq (.str "l")) (Qb (Qq (.str "r")) Qi))) [vT [.int i,.str w,.int j],vI states,vI signs] g=.ok (.bl (Aj (.str w))) g:=by rw[lP,cS];exact fI w g
  show(match (Q5 (Jx (Qu ZD (Qb (Qe QB (Qa 0) (mI 0)) (Qb (Qa 2) Qi))) (Jx (Qe (GR false) (Qe QB (Qa 0) (mI 1)) (Qt QC (Qb (Qq (.str "l")) (Qb (Qq (.str "r")) Qi)))) (Qu ZD (Qb (Qe QB (Qa 0) (mI 2)) (Qb (Qa 1) Qi)))))) [vT [.int i,.str w,.int j],vI states,vI signs] g with
   |.nx _ g'=>Res.ok D.non g'|.rt d g'=>.ok d g'|.raise e _ g'=>.raise e g'|_=>.stuck)=.ok (.bl (XG (.int i) signs&&Aj (.str w)&&XG (.int j) states)) g
  unfold Q5 Jx;rw[a1,Res.bind_ok];dsimp only;cases XG (.int i) signs
  ·rfl
  ·rw[Uc rfl,a2,Res.bind_ok];dsimp only;cases Aj (.str w)
   ·rfl
   ·rw[Uc rfl,a3];rfl
theorem thingD.mono(_:Keeps [] g g1)(h:thingD g d):thingD g1 d:=h
theorem M1(f:α->Bool):∀ts:List α,ED (ts.map λd=>D.bl (f d))=some (ts.all f)
 |[]=>rfl|t::ts=>by simp[ED,M1 f ts]
def Xp(n m:Nat)(r:List D):Bool:=r.length==m&&r.all λd=>Ig d n m
def V0(rows:List (List D)):Bool:=match rows with
 |[]=>false|r::_=>r.length != 0&&rows.all (Xp rows.length r.length)
theorem Hg(c:Nat)(t:Str)(σ:S3)(g:G):Z4 c (Qb (Qq (.str t)) Qi) σ g=.raise (c,none) σ g:=by simp[Z4,Qb,Qq,Qi,Res.bind,SZ]
theorem eq_int(i j:Int)(g:G):Z5 (.int i) (.int j) g=.ok (.bl (i==j)) g:=rfl
theorem ne_int(i j:Int)(g:G):CI (.int i) (.int j) g=.ok (.bl (!(i==j))) g:=rfl
theorem fJ(n m:Nat)(ts:List D)(x:D)(g:G)(hz:ts.length<=SZ)(h:∀d∈ts,thingD g d):
  ∃g',Keeps [] g g'/\Qv Gj (ZQ (QQ (Qa 3)) 1 [1,2] (Qn 0) Yb (Qu XD (Qb (Qa 0) (Qb (Qa 1) (Qb (Qa 2) Qi))))) [some x,vI n,vI m,vT ts] g=.ok (.bl (ts.all λd=>Ig d n m)) g':=by
 obtain⟨g1,h1,k1⟩:=Ov (ds:=ts) (e:=Qu XD (Qb (Qa 0) (Qb (Qa 1) (Qb (Qa 2) Qi)))) (no:=0) (σ:=[vI n,vI m]) (g:=g) (f:=λd=>.bl (Ig d n m)) hz
  (λd hd g1 k=>⟨g1,by simp[Qu,Qb,Qi,Qa,Res.bind,M0 d n m g1 ((h d hd).mono k)],.refl⟩)
 refine⟨g1++[.lst (ts.map λd=>.bl (Ig d n m))],k1.trans (.push _),?_⟩;have h1:Jd ⟨λ_ i=>some ts[i]?,ts.length⟩ (Qn 0) Yb (Qu XD (Qb (Qa 0) (Qb (Qa 1) (Qb (Qa 2) Qi)))) (ts.length+1) 0 [none,vI n,vI m] g []=.ok (ts.map λd=>.bl (Ig d n m)) g1:=h1;simp[Qv,ZQ,QQ,Qa,Res.bind,BH,hz,CQ,h1,Gj,M1]
theorem DZ(n m:Nat)(ts:List D)(x:D)(g:G)(hz:ts.length<=SZ)(h:∀d∈ts,thingD g d):
  ∃g',Keeps [] g g'/\YG [some x,vI n,vI m,vT ts] g=if Xp n m ts=true then .nx [some x,vI n,vI m,vT ts] g' else .raise (1,none) [some x,vI n,vI m,vT ts] g':=by
 by_cases hl:ts.length=m
 ·obtain⟨g2,k2,e2⟩:=fJ n m ts x g hz h;refine⟨g2,k2,?_⟩;have hl':((ts.length:Int)==(m:Int))=true:=by simp[hl]
  have gr:Xp n m ts=ts.all λd=>Ig d n m:=by simp[Xp,hl]
  rw[gr];simp only[YG,Qs,YE,Qo,Qe,Qv,Qa,Res.bind,Ru,Rv,Zr,ne_int,hl',Bool.not_true,Rq,Ry,QU,YD];simp only[Qv,Res.bind]at e2;rw[e2];cases (ts.all λd=>Ig d n m)<;>simp[Z4,Qb,Qq,Qi,Res.bind,SZ]
 ·refine⟨g,.refl,?_⟩;have hl':((ts.length:Int)==(m:Int))=false:=by simp;omega
  have gr:Xp n m ts=false:=by
   have:(ts.length==m)=false:=by simp[hl]
   simp only[Xp,this,RB]
  rw[gr];simp only[YG,Qs,YE,Qo,Qe,Qv,Qa,Res.bind,Ru,Rv,Zr,ne_int,hl',Bool.not_false,R0,Hg,Rq,Ry]
theorem Ih(rows:List (List D))(g:G)(hz:∀r∈rows,r.length<=SZ)(h:∀r∈rows,∀d∈r,thingD g d):
  ∃g',Keeps [] g g'/\JB [.tup (rows.map .tup)] g=if V0 rows=true then .ok .non g' else .raise (1,none) g':=by
 cases rows with
 |nil=>exact⟨g,.refl,by simp[JB,Zq,JA,Qs,YE,Qo,Qe,Qv,Qa,Qq,Res.bind,Zr,eq_int,Hg,V0]⟩|cons r rest=>
  have e0:¬((rest.length:Int)+1=0):=by omega
  have e1:(0:Int)<(rest.length:Int)+1:=by omega
  by_cases hr:r.length=0
  ·refine⟨g,.refl,?_⟩;simp[JB,Zq,JA,Qs,YE,Qo,Qe,Qv,Qa,Qq,Res.bind,Zr,eq_int,Hg,V0,hr,e0,e1,QU,QF,Qn,QB,VC,GQ]
  ·have hr':¬((r.length:Int)=0):=by omega
   have hrn:¬r=[]:=λz=>hr (by rw[z];rfl);have hd0:V0 (r::rest)=(r::rest).all (Xp (r::rest).length r.length):=by simp[V0,hr]
   have loop:=LL (t:=Qn 3) (ds:=(r::rest).map D.tup) (σ:=[vT ((r::rest).map .tup),vI ((r::rest).length),vI r.length,none]) (g:=g) (body:=YG)
    (λi σ g1=>Keeps [] g g1/\(∃u,σ=[vT ((r::rest).map .tup),vI ((r::rest).length),vI r.length,u])/\∀x∈(r::rest).take i,Xp (r::rest).length r.length x=true)
    (λo=>∃σ' g1,o=.raise (1,none) σ' g1/\Keeps [] g g1/\∃x∈r::rest,Xp (r::rest).length r.length x=false) ⟨.refl,⟨none,rfl⟩,by simp⟩ (λi d σ g1 hd hQ=>by
     obtain⟨k,⟨u,hσ⟩,hg⟩:=hQ;rw[UA]at hd;cases hx:(r::rest)[i]? with
     |none=>rw[hx]at hd;cases hd|some ts=>
      rw[hx]at hd;cases hd;have hm:ts∈r::rest:=RN hx;subst hσ;refine⟨_,rfl,?_⟩;obtain⟨g2,k2,e2⟩:=DZ (r::rest).length r.length ts (.tup ((r::rest).map .tup)) g1 (hz ts hm) λd hd=>(h ts hm d hd).mono k;simp only[List.set];rw[e2];cases ha:Xp (r::rest).length r.length ts with
      |true=>
       left;refine⟨_,g2,by rw[Uc rfl],k.trans k2,⟨_,rfl⟩,λx hx'=>?_⟩;rw[List.take_succ,hx]at hx';rcases UG.mp hx' with z|z
       ·exact hg x z
       ·have:x=ts:=by simpa using z
        rw[this];exact ha
      |false =>right;rw[Uh Ue];exact⟨trivial,_,g2,rfl,k.trans k2,ts,hm,ha⟩)
   have fin:JA [vT ((r::rest).map .tup),none,none,none] g=JH ⟨λ_ i=>some ((r::rest).map D.tup)[i]?,((r::rest).map D.tup).length⟩ (Qn 3) YG (((r::rest).map D.tup).length+1) 0 [vT ((r::rest).map .tup),vI ((r::rest).length),vI r.length,none] g:=by simp[JA,Qs,YE,Qo,Qe,Qv,Qa,Qq,Res.bind,Zr,eq_int,e0,QU,QF,Qn,QB,VC,GQ,e1,hr',hrn,Y1,QQ,BH]
   have ap:JB [.tup ((r::rest).map .tup)] g=match JA [vT ((r::rest).map .tup),none,none,none] g with
    |.nx _ g'=>.ok .non g'|.rt d g'=>.ok d g'|.raise e _ g'=>.raise e g'|_=>.stuck:=rfl
   rw[ap,fin];rcases loop with⟨σ',g',h1,k1,_,h2⟩|⟨_,σ',g',h1,k1,x,hx,hg⟩
   ·refine⟨g',k1,?_⟩;have:V0 (r::rest)=true:=by rw[hd0,Uv];intro x hx;exact h2 x (by rw[Ua,UO];exact hx)
    rw[Uc this,h1]
   ·refine⟨g',k1,?_⟩;have:¬V0 (r::rest)=true:=by rw[hd0,Uv];intro z;rw[z x hx]at hg;cases hg
    rw[Uh this,h1]
theorem Keeps.seq(k:Keeps [] g g1)(h:QG g d=some p):QG g1 d=some p:=by
 cases d with
 |ref n=>
  unfold QG at h ⊢;dsimp only at h ⊢;cases hg:g[n]? with
  |none=>rw[hg]at h;cases h|some o=>rw[hg]at h;rw[k.at' n o (by simp) hg];exact h
 |_=>exact h
theorem Xq(h:QG g d=some (b,ds)):∃src,BH d g=.ok src g/\src.top=ds.length/\∀g1 i,QG g1 d=some (b,ds)->src.at' g1 i=some ds[i]?:=by
 cases d with
 |tup es=>cases h;exact⟨_,rfl,rfl,λ_ _ _=>rfl⟩|fl es=>cases h;exact⟨_,rfl,rfl,λ_ _ _=>rfl⟩|ref n=>
  unfold QG at h;dsimp only at h;cases hg:g[n]? with
  |none=>rw[hg]at h;cases h|some o=>
   rw[hg]at h;cases o with
   |lst es=>
    cases h;refine⟨_,by unfold BH;dsimp only;rw[hg],rfl,λg1 i h1=>?_⟩;unfold QG at h1;dsimp only at h1 ⊢;cases hg1:g1[n]? with
    |none=>rw[hg1]at h1;cases h1|some o1=>
     rw[hg1]at h1;cases o1 with
     |lst es1=>cases h1;rfl|_=>cases h1
   |_=>cases h
 |_=>cases h
theorem D0{src:Src}{ds:List D}{e:ME}{no:Nat}{σ:S3}{g:G}{f:D->D}(ht:src.top=ds.length)(hs:∀g1 i,Keeps [] g g1->src.at' g1 i=some ds[i]?)(he:∀d∈ds,∀g1,Keeps [] g g1->∃g2,e ((List.replicate (no+1) none++σ).set 0 (some d)) g1=.ok (f d) g2/\Keeps [] g1 g2):
  ∃g',Jd src (Qn 0) Yb e (src.top+1) 0 (List.replicate (no+1) none++σ) g []=.ok (ds.map f) g'/\Keeps [] g g':=by
 obtain⟨xs,σ',g',h1,h2,h3,h4⟩:=YH (src:=src) (t:=Qn 0) (c:=Yb) (e:=e) (n:=ds.length)
  (λi σ' g1 acc=>acc=(ds.take i).map f/\Keeps [] g g1/\∃u,σ'=(List.replicate (no+1) none++σ).set 0 u) (λi σ' g1 acc hi h=>by
   obtain⟨h1,h2,u,h3⟩:=h;obtain⟨g2,k1,k2⟩:=he ds[i] (UK hi) g1 h2;refine⟨ds[i],_,g1,by rw[hs g1 i h2];simp[hi],rfl,.inl ⟨f ds[i],g2,rfl,?_,?_,h2.trans k2,some ds[i],?_⟩⟩
   ·subst h3;rw[RD];exact k1
   ·rw[h1,Uq hi,UB];rfl
   ·subst h3;rw[RD]) (λσ g1 acc h=>by rw[hs g1 _ h.2.1];simp) (src.top+1) 0 (List.replicate (no+1) none++σ) g [] (by omega) (by omega) ⟨by simp,.refl,none,by simp[UX]⟩
 refine⟨g',?_,h3⟩;rw[h1,h2,UO]
def rowsOf(g:G)(d:D)(rows:List (List D)):Prop:=∃b ds,QG g d=some (b,ds)/\ds.length=rows.length/\∀(i:Nat) x r,ds[i]?=some x->rows[i]?=some r->∃c,QG g x=some (c,r)
theorem rowsOf.mono(k:Keeps [] g g1)(h:rowsOf g d rows):rowsOf g1 d rows:=by obtain⟨b,ds,h1,h2,h3⟩:=h;exact⟨b,ds,k.seq h1,h2,λi x r hx hr=>let ⟨c,q⟩:=h3 i x r hx hr;⟨c,k.seq q⟩⟩
theorem J5(h:QG g d=some (b,ds)):ZT d g=.ok (.tup ds) g:=by
 cases d with
 |tup es=>cases h;rfl|fl es=>cases h;rfl|ref n=>
  unfold QG at h;dsimp only at h;cases hg:g[n]? with
  |none=>rw[hg]at h;cases h|some o=>
   rw[hg]at h;cases o with
   |lst es=>cases h;simp[ZT,hg]|_=>cases h
 |_=>cases h
def ZK(rows:List (List D)):GO:=.ins 11 [("table",.tup (rows.map .tup))]
theorem fK(m:Nat)(d:D)(rows:List (List D))(g:G)(hm:g[m]?=some (.ins 11 []))(hr:rowsOf g d rows)(hz:∀r∈rows,r.length<=SZ)(hl:rows.length<=SZ)(h:∀r∈rows,∀d∈r,thingD g d):
  ∃g',Keeps [] g g'/\Yf [.ref m,d] g=if V0 rows=true then .ok .non (g'.set m (ZK rows)) else .raise (1,none) g':=by
 obtain⟨b,ds,h1,h2,h3⟩:=hr;obtain⟨src,s1,s2,s3⟩:=Xq h1;have mp:∀x∈ds,∃c r,QG g x=some (c,r):=λx hx=>by obtain⟨i,hi,rfl⟩:=Rg hx;obtain⟨c,q⟩:=h3 i ds[i] (rows[i]'(by omega)) (by simp[hi]) (by simp[show i<rows.length by omega]);exact⟨c,_,q⟩
 obtain⟨g1,c1,k1⟩:=D0 (src:=src) (ds:=ds) (e:=Qv ZT (Qa 0)) (no:=0) (σ:=[]) (g:=g) (f:=λx=>.tup (((QG g x).map (·.2)).getD [])) s2 (λg1 i k=>s3 g1 i (k.seq h1)) (λx hx g1 k=>by obtain⟨c,r,q⟩:=mp x hx;refine⟨g1,?_,.refl⟩;simp[Qv,Qa,Res.bind,J5 (k.seq q),q]);have em:(ds.map λx=>D.tup (((QG g x).map (·.2)).getD []))=rows.map .tup:=by
  apply WG
  ·simp[h2]
  ·intro i hi hi';simp only[Ua]at hi hi';obtain⟨c,q⟩:=h3 i ds[i] rows[i] (by simp[hi]) (by simp[hi']);simp[q]
 rw[em]at c1;have c1:Jd src (Qn 0) Yb (Qv ZT (Qa 0)) (src.top+1) 0 [none] g []=.ok (rows.map .tup) g1:=c1;have k2:Keeps [] g (g1++[.lst (rows.map .tup)]):=k1.trans (.push _);obtain⟨g3,k3,c3⟩:=Ih rows (g1++[.lst (rows.map .tup)]) hz λr hr d hd=>(h r hr d hd).mono k2;refine⟨g3,k2.trans k3,?_⟩;have hz2:src.top<=SZ:=by omega
 have hm3:=(k2.trans k3).at' m _ (by simp) hm;simp[Yf,Zq,BL,Qs,QF,Qv,ZQ,QQ,Qa,Res.bind,s1,hz2,CQ,c1,ZT,Qn,Zc,Qu,Qb,Qi,c3];by_cases hg:V0 rows=true
 ·simp[hg,ZS,Qa,hm3,YM,ZK]
 ·simp[hg]
theorem fL(d:D)(rows:List (List D))(g:G)(hr:rowsOf g d rows)(hz:∀r∈rows,r.length<=SZ)(hl:rows.length<=SZ)(h:∀r∈rows,∀d∈r,thingD g d)(a:MA)(σ:S3)(g0:G)(ha:a σ g0=.ok [d] g):
  ∃g',Keeps [] g g'/\Bn 11 Yf a σ g0=(if V0 rows=true then .ok (.ref g.length) g' else .raise (1,none) g')/\(V0 rows=true->g'[g.length]?=some (ZK rows)):=by
 have kp:Keeps [] g (g++[.ins 11 []]):=.push _;obtain⟨g',k',e'⟩:=fK g.length d rows (g++[.ins 11 []]) (Qp _) (hr.mono kp) hz hl λr hr d hd=>(h r hr d hd).mono kp;by_cases hg:V0 rows=true
 ·rw[Uc hg]at e';refine⟨g'.set g.length (ZK rows),?_,?_,λ_=>?_⟩
  ·refine⟨by rw[UH];exact Up kp.len k'.len,λn o _ e=>?_⟩;have hn:n<g.length:=Zf e;rw[Ul (by omega)];exact(kp.trans k').at' n o (by simp) e
  ·simp[Bn,ha,Res.bind,e',hg]
  ·rw[Td];have:=k'.len;simp at this;omega
 ·rw[Uh hg]at e';exact⟨g',kp.trans k',by simp[Bn,ha,Res.bind,e',hg],λz=>absurd z hg⟩
theorem JX(h:a σ g=.nx σ' g'):Qs a b σ g=b σ' g':=by unfold Qs;rw[h]
theorem BR(h:a σ g=.rt d g'):Qs a b σ g=.rt d g':=by unfold Qs;rw[h]
theorem Ak(h:a σ g=.raise x σ' g'):Qs a b σ g=.raise x σ' g':=by unfold Qs;rw[h]
theorem QK(h:a σ g=.ok d g'):QF (Qn i) a σ g=.nx (σ.set i (some d)) g':=by unfold QF;rw[h];rfl
theorem Hh(h:c σ g=.ok true g'):YE c a b σ g=a σ g':=by unfold YE;rw[h];rfl
theorem IV(h:c σ g=.ok false g'):YE c a b σ g=b σ g':=by unfold YE;rw[h];rfl
theorem Qw(h:a σ g=.ok ds g'):Qu f a σ g=f ds g':=by unfold Qu;rw[h];rfl
theorem Yu(h:a σ g=.ok d g'):Zc a σ g=.nx σ g':=by unfold Zc;rw[h]
theorem ZP(h:a σ g=.ok d g'):Q5 a σ g=.rt d g':=by unfold Q5;rw[h]
theorem Zb(hl:ds.length=k)(h:b (ds.map some++List.replicate n none) g=.rt d g'):Zq k n b ds g=.ok d g':=by unfold Zq;rw[Uc hl,h]
theorem lQ(ns:List Int)(i:Int)(h:0<ns.length):∃x,VC (ns.map D.int) (i%ns.length)=some (.int x):=by
 have h1:0<=i % (ns.length:Int):=UM _ (by omega);have h2:i % (ns.length:Int)<ns.length:=U3 _ (by omega);have h3:(i % (ns.length:Int)).toNat<ns.length:=by omega
 refine⟨ns[(i % (ns.length:Int)).toNat],?_⟩;unfold VC GQ;rw[Ua,Uc h1,Uc h2];simp[h3]
theorem tG(h:g[a]?=vL [d]):QB (.ref a) (.int 0) g=.ok d g:=by unfold QB;dsimp only;rw[h];rfl
theorem tH(h:VC ds i=some d):QB (.fl ds) (.int i) g=.ok d g:=by unfold QB;dsimp only;rw[h]
theorem Al(c:Int)(x:D)(a:Nat)(k:Int)(g:G)(ga:g[a]?=vL [.int k])(hk:0<=k)(hk2:k<1000000001):∃m,0<=m/\m<1999999973/\(Qs (QF (Qn 3) (Qe Z0 (Qe Xy (Qe QD (Qe QD (Qe Z0 (Qa 2) (mI 2147483647)) (Qe Xy (Qe Xy (Qe QB (Qa 1) (mI 0)) (Qe QB (Qa 1) (mI 0))) (mI 7919))) (mI 11)) (mI 48271)) (mI 2147483647)))
      (Q5 (Qe Z0 (Qe Xy (Qa 3) (Qa 3)) (mI 1999999973)))) [some x,vR a,vI c,none] g=.rt (.int m) g:=by
  have c1:cM k:=⟨by omega,by omega⟩;have c2:cM 7919:=⟨by decide,by decide⟩;have c3:cM 48271:=⟨by decide,by decide⟩;have hr:=U3 ((c%2147483647+k*k*7919+11)*48271) (show(0:Int)<2147483647 by decide);have hr0:=UM ((c%2147483647+k*k*7919+11)*48271) (show(2147483647:Int)≠0 by decide);have c4:cM (((c%2147483647+k*k*7919+11)*48271) % 2147483647):=⟨by omega,by omega⟩;refine⟨((c%2147483647+k*k*7919+11)*48271) % 2147483647*(((c%2147483647+k*k*7919+11)*48271) % 2147483647) % 1999999973,UM _ (by decide),U3 _ (by decide),?_⟩;have e1:(Qe Z0 (Qe Xy (Qe QD (Qe QD (Qe Z0 (Qa 2) (mI 2147483647)) (Qe Xy (Qe Xy (Qe QB (Qa 1) (mI 0)) (Qe QB (Qa 1) (mI 0))) (mI 7919))) (mI 11)) (mI 48271)) (mI 2147483647)) [some x,vR a,vI c,none] g=.ok (.int (((c%2147483647+k*k*7919+11)*48271) % 2147483647)) g:=by simp[Qe,Qa,Qq,Res.bind,tG ga,Z0,Xy,QD,c1,c2,c3]
  rw[JX (QK e1)];generalize ((c%2147483647+k*k*7919+11)*48271) % 2147483647=r at c4 ⊢;refine ZP ?_;simp[Qe,Qa,Qq,Res.bind,Z0,Xy,c4]
theorem Ct(ns:List Int)(a:Nat)(k:Int)(g:G)(hg:g[a]?=vL [.int k])(hk:0<=k)(hk2:k<1000000000):
  ∃m,0<=m/\m<1999999973/\Xh [.fl (ns.map .int),.ref a] g=.ok (.int m) (g.set a (.lst [.int (k+1)])):=by
 have s1:YF (Qa 1) (mI 0) (Qe QD (Qe QB (Qa 1) (mI 0)) (mI 1)) [vF ns,vR a,none,none] g=.nx [vF ns,vR a,none,none] (g.set a (.lst [.int (k+1)])):=by simp[YF,Qe,Qa,Qq,Res.bind,tG hg,QD,hg,GQ]
 have ga:(g.set a (.lst [.int (k+1)]))[a]?=vL [.int (k+1)]:=Zt hg;generalize g.set a (.lst [.int (k+1)])=g1 at s1 ga ⊢;have s2:QF (Qn 2) (mI 0) [vF ns,vR a,none,none] g1=.nx [vF ns,vR a,vI 0,none] g1:=rfl;have s3:∃c,YE (Qo (Qe Lx (Qv Zr (Qa 0)) (mI 0))) (QF (Qn 2) (Qe QB (Qa 0) (Qe Z0 (Qe QB (Qa 1) (mI 0)) (Qv Zr (Qa 0))))) QU [vF ns,vR a,vI 0,none] g1=.nx [vF ns,vR a,vI c,none] g1:=by
  by_cases hl:0<ns.length
  ·obtain⟨x,hx⟩:=lQ ns (k+1) hl;have hl':(0:Int)<(ns.length:Int):=by omega
   refine⟨x,?_⟩;rw[Hh (g':=g1) (by simp[Qo,Qe,Qv,Qa,Qq,Res.bind,Zr,Lx,ST,hl])];refine QK ?_;simp only[Qe,Qv,Qa,Qq,Res.bind,Ru,Rv,tG ga,Zr,Z0,Ua,hl',R0,tH hx]
  ·cases ns with
   |nil=>exact⟨0,rfl⟩|cons x r=>simp at hl
 obtain⟨c,s3⟩:=s3;obtain⟨m,m1,m2,m3⟩:=Al c (.fl (ns.map .int)) a (k+1) g1 ga (by omega) (by omega);refine⟨m,m1,m2,Zb rfl ?_⟩;show Hb [vF ns,vR a,none,none] g=_;unfold Hb;rw[JX s1,JX s2,JX s3,m3]
def entOk(d:D)(n m:Nat):Prop:=d=.non\/∃(i j:Int)(w:Str),d=.tup [.int i,.str w,.int j]/\0<=i/\i<m/\0<=j/\j<n/\(w=⟨#[108]⟩\/w=⟨#[114]⟩)
theorem entOk.ent(h:entOk d n m):Ig d n m=true:=by
 rcases h with rfl|⟨i,j,w,rfl,h1,h2,h3,h4,h5⟩
 ·rfl
 ·rcases h5 with rfl|rfl<;>simp[Ig,XG,Aj,h1,h2,h3,h4]
theorem entOk.thing(h:entOk d n m):thingD g d:=by
 rcases h with h|⟨i,j,w,h,_⟩
 ·exact .inl h
 ·exact .inr ⟨i,j,w,h⟩
theorem oQ:Str.ofString "lr"=⟨#[108,114]⟩:=by decide +kernel
theorem oR(i:Int)(g:G):∃w,QB (.str "lr") (.int (i%2)) g=.ok (.str w) g/\(w=⟨#[108]⟩\/w=⟨#[114]⟩):=by
 rw[oQ];rcases(by omega:i%2=0\/i%2=1) with e|e
 ·rw[e];exact⟨_,rfl,.inl rfl⟩
 ·rw[e];exact⟨_,rfl,.inr rfl⟩
theorem FG(hi:σ[i]?=some (some (.ref n)))(hj:σ[j]?=some (some y))(h:g[n]?=vL ds)(hz:ds.length<SZ):
  Zc (Zm (Qa i) (Qa j)) σ g=.nx σ (g.set n (.lst (ds++[y]))):=by
 refine Yu (d:=.non) ?_;simp[Zm,Qa,hi,hj,Res.bind,h,hz]
theorem Am(ns:List Int)(a l t:Nat)(k:Int)(n m:Nat)(x5 x7 x8 x9:Option D)(row:List D)(g:G)(hn:0<n)(hm:0<m)(ga:g[a]?=vL [.int k])(gl:g[l]?=vL row)(hal:a≠l)(hk:0<=k)(hk2:k<1000000000)(hz:row.length<SZ):
  ∃d x8',entOk d n m/\Y4 [vF ns,vR a,vI n,vI m,vR t,x5,vR l,x7,x8,x9] g=.nx [vF ns,vR a,vI n,vI m,vR t,x5,vR l,x7,x8',some d] ((g.set a (.lst [.int (k+1)])).set l (.lst (row++[d]))):=by
 obtain⟨mm,m1,m2,e⟩:=Ct ns a k g ga hk hk2;have gl1:(g.set a (.lst [.int (k+1)]))[l]?=vL row:=by rw[Ul hal];exact gl
 generalize g.set a (.lst [.int (k+1)])=g1 at e gl1 ⊢;obtain⟨w,hw,ww⟩:=oR (mm/100) g1;have hm':(0:Int)<m:=by omega
 have hn':(0:Int)<n:=by omega
 have s1:QF (Qn 8) (Qu Xh (Qb (Qa 0) (Qb (Qa 1) Qi))) [vF ns,vR a,vI n,vI m,vR t,x5,vR l,x7,x8,x9] g=.nx [vF ns,vR a,vI n,vI m,vR t,x5,vR l,x7,vI mm,x9] g1:=QK (by rw[Qw (ds:=[.fl (ns.map .int),.ref a]) (g':=g) rfl];exact e)
 have v2:(Qt QC (Qb (Qe Z0 (Qe Yw (Qa 8) (mI 9)) (Qa 3)) (Qb (Qe QB (Qq (.str "lr")) (Qe Z0 (Qe Yw (Qa 8) (mI 100)) (mI 2))) (Qb (Qe Z0 (Qe Yw (Qa 8) (mI 300)) (Qa 2)) Qi)))) [vF ns,vR a,vI n,vI m,vR t,x5,vR l,x7,vI mm,x9] g1=.ok (.tup [.int (mm/9%m),.str w,.int (mm/300%n)]) g1:=by simp[Qt,Qb,Qi,Qe,Qa,Qq,Res.bind,Yw,Z0,hm',hn',hw,QC,SZ,hm,hn]
 have s2:QF (Qn 9) (Qt QC (Qb (Qe Z0 (Qe Yw (Qa 8) (mI 9)) (Qa 3)) (Qb (Qe QB (Qq (.str "lr")) (Qe Z0 (Qe Yw (Qa 8) (mI 100)) (mI 2))) (Qb (Qe Z0 (Qe Yw (Qa 8) (mI 300)) (Qa 2)) Qi)))) [vF ns,vR a,vI n,vI m,vR t,x5,vR l,x7,vI mm,x9] g1=.nx [vF ns,vR a,vI n,vI m,vR t,x5,vR l,x7,vI mm,vT [.int (mm/9%m),.str w,.int (mm/300%n)]] g1:=QK v2;have t3:Qo (Qe Z5 (Qe Z0 (Qa 8) (mI 9)) (mI 0)) [vF ns,vR a,vI n,vI m,vR t,x5,vR l,x7,vI mm,vT [.int (mm/9%m),.str w,.int (mm/300%n)]] g1=.ok (mm%9==0) g1:=by simp[Qo,Qe,Qa,Qq,Res.bind,Z0,eq_int]
 unfold Y4;by_cases h9:mm%9=0
 ·refine⟨.non,vI mm,.inl rfl,?_⟩;rw[JX s1,JX s2,JX (σ':=[vF ns,vR a,vI n,vI m,vR t,x5,vR l,x7,vI mm,some .non]) (g':=g1) ?_]
  ·exact FG rfl rfl gl1 hz
  ·rw[Hh (g':=g1) (t3.trans (by simp[h9]))];rfl
 ·refine⟨.tup [.int (mm/9%m),.str w,.int (mm/300%n)],vI mm,.inr ⟨_,_,w,rfl,UM _ (by omega),U3 _ hm',UM _ (by omega),U3 _ hn',ww⟩,?_⟩;rw[JX s1,JX s2,JX (σ':=[vF ns,vR a,vI n,vI m,vR t,x5,vR l,x7,vI mm,vT [.int (mm/9%m),.str w,.int (mm/300%n)]]) (g':=g1) ?_]
  ·exact FG rfl rfl gl1 hz
  ·rw[IV (g':=g1) (t3.trans (by simp[h9]))];rfl
theorem Jr(h:n<=1000):n<SZ:=Nat.lt_of_le_of_lt h (by decide)
theorem Xr{n:Nat}(h:n<=1000):SS (n:Int):=by
 have:(n:Int)<=1000:=by exact_mod_cast h
 constructor<;>omega
theorem YI{a:ME}{n:Nat}{σ:S3}{g g':G}(h:a σ g=.ok (.int n) g')(hr:SS (n:Int)):Q4 a σ g=.ok (ZH 0 n) g':=by unfold Q4;rw[h,Res.bind_ok];dsimp only;rw[Uc hr,UR]
theorem Yv(h:it σ g=.ok src g'):Y1 it t body σ g=JH src t body (src.top+1) 0 σ g':=by unfold Y1;rw[h]
theorem D1(ns:List Int)(a l t:Nat)(k:Int)(n m:Nat)(x5 x7 x8 x9:Option D)(g:G)(hn:0<n)(hm:0<m)(hm8:m<=8)(ga:g[a]?=vL [.int k])(gl:g[l]?=vL [])(hal:a≠l)(hk:0<=k)(hk2:k+m<1000000000):
  ∃row y7 y8 y9 g',Y1 (Q4 (Qa 3)) (Qn 7) Y4 [vF ns,vR a,vI n,vI m,vR t,x5,vR l,x7,x8,x9] g=.nx [vF ns,vR a,vI n,vI m,vR t,x5,vR l,y7,y8,y9] g'/\row.length=m/\(∀d∈row,entOk d n m)/\Keeps [a,l] g g'/\g'[a]?=vL [.int (k+m)]/\g'[l]?=vL row:=by
 have hr:SS (m:Int):=Xr (by omega);have hf:Y1 (Q4 (Qa 3)) (Qn 7) Y4 [vF ns,vR a,vI n,vI m,vR t,x5,vR l,x7,x8,x9] g=JH (ZH 0 m) (Qn 7) Y4 (m+1) 0 [vF ns,vR a,vI n,vI m,vR t,x5,vR l,x7,x8,x9] g:=Yv (YI rfl hr);rw[hf];obtain⟨σ',g',e,row,y7,y8,y9,h1,h2,h3,h4,h5,h6⟩:=Jb (t:=Qn 7) (body:=Y4) (lo:=0) (n:=m) (σ:=[vF ns,vR a,vI n,vI m,vR t,x5,vR l,x7,x8,x9]) (g:=g)
  (λi σ g1=>∃row y7 y8 y9,σ=[vF ns,vR a,vI n,vI m,vR t,x5,vR l,y7,y8,y9]/\row.length=i/\(∀d∈row,entOk d n m)/\Keeps [a,l] g g1/\g1[a]?=vL [.int (k+i)]/\g1[l]?=vL row)
  ⟨[],x7,x8,x9,rfl,rfl,by simp,.refl,by simpa using ga,gl⟩ (λi σ g1 hi hI=>by
   obtain⟨row,y7,y8,y9,rfl,h2,h3,h4,h5,h6⟩:=hI;obtain⟨d,x8',hd,e⟩:=Am ns a l t (k+i) n m x5 (some (.int (0+i))) y8 y9 row g1 hn hm h5 h6 hal (by omega) (by omega) (Jr (by omega));refine⟨_,_,_,rfl,e,row++[d],_,x8',_,rfl,by simp[h2],?_,?_,?_,?_⟩
   ·intro x hx;rcases UG.mp hx with z|z
    ·exact h3 x z
    ·rw[Uf.mp z];exact hd
   ·exact h4.trans (((Keeps.set a _).mono (by simp)).trans ((Keeps.set l _).mono (by simp)))
   ·rw[Ul (Ne.symm hal),Zt h5];simp;omega
   ·refine Zt (o:=.lst row) ?_;rw[Ul hal];exact h6)
 exact⟨row,y7,y8,y9,g',by rw[e,h1],h2,h3,h4,h5,h6⟩
theorem wJ{a b c:Nat}(h1:a<b)(h2:b<c):a≠c:=by omega
theorem wK{k x:Int}(h1:0<=k)(h2:0<=x):0<=k+x:=by omega
theorem wL{k x:Int}{m:Nat}(h1:k<900000000)(h2:x<=96)(h3:m<=8):k+x+m<1000000000:=by omega
theorem wM{a b c:Nat}{ds:List D}(h2:ds.length=a)(hi:a<b)(h3:b<=12):ds.length<=1000:=by omega
def tabOf(N:Nat)(g:G)(t:Nat)(rows:List (List D)):Prop:=N<=t/\∃ds,g[t]?=vL ds/\ds.length=rows.length/\∀(i:Nat) x r,ds[i]?=some x->rows[i]?=some r->∃n,x=.ref n/\N<=n/\n≠t/\g[n]?=vL r
theorem tabOf.rows{N:Nat}{g:G}{t:Nat}{rows:List (List D)}(h:tabOf N g t rows):rowsOf g (.ref t) rows:=by obtain⟨_,ds,h1,h2,h3⟩:=h;refine⟨true,ds,by simp[QG,h1],h2,λi x r hx hr=>?_⟩;obtain⟨n,rfl,_,_,h4⟩:=h3 i x r hx hr;exact⟨true,by simp[QG,h4]⟩
theorem tabOf.mono{N:Nat}{S:List Nat}{g g1:G}{t:Nat}{rows:List (List D)}(h:tabOf N g t rows)(k:Keeps S g g1)(hS:∀n∈S,n<N):tabOf N g1 t rows:=by obtain⟨h0,ds,h1,h2,h3⟩:=h;refine⟨h0,ds,k.at' t _ (λz=>by have:=hS t z;omega) h1,h2,λi x r hx hr=>?_⟩;obtain⟨n,h4,h5,h6,h7⟩:=h3 i x r hx hr;exact⟨n,h4,h5,h6,k.at' n _ (λz=>by have:=hS n z;omega) h7⟩
structure TI(g g1:G)(a:Nat)(k:Int)(n m i:Nat)(g2:G)(ds:List D)(rows:List (List D)):Prop where
 h2:ds.length=i
 h3:rows.length=i
 h4:Keeps [a,g.length] g1 g2
 h5:g2[a]?=vL [.int (k+i*m)]
 h6:g2[g.length]?=vL ds
 h7:∀(i:Nat) x r,ds[i]?=some x->rows[i]?=some r->∃n,x=.ref n/\g.length<n/\g2[n]?=vL r
 h8:∀r∈rows,r.length=m
 h9:∀r∈rows,∀d∈r,entOk d n m
 h10:ds.Nodup
theorem D2(ns:List Int)(a:Nat)(k:Int)(n m:Nat)(g:G)(hn:0<n)(hm:0<m)(hn12:n<=12)(hm8:m<=8)(ga:g[a]?=vL [.int k])(hk:0<=k)(hk2:k<900000000):
  ∃rows g',Fs [.fl (ns.map .int),.ref a,.int n,.int m] g=.ok (.ref g.length) g'/\Keeps [a] g g'/\g'[a]?=vL [.int (k+n*m)]/\tabOf g.length g' g.length rows/\rows.length=n/\(∀r∈rows,r.length=m)/\(∀r∈rows,∀d∈r,entOk d n m)/\∃ds,g'[g.length]?=vL ds/\ds.Nodup:=by
 have hr:SS (n:Int):=Xr (by omega);have hal:a<g.length:=Zf ga;have hz0:([]:List D).length<=SZ:=by simp
 have s1:QF (Qn 4) (Qt Ym Qi) [vF ns,vR a,vI n,vI m,none,none,none,none,none,none] g=.nx [vF ns,vR a,vI n,vI m,vR g.length,none,none,none,none,none] (g++[.lst []]):=QK (by simp[Qt,Qi,Res.bind,Ym])
 have kp:Keeps [a] g (g++[.lst []]):=.push _;have ga1:(g++[.lst []])[a]?=vL [.int k]:=(Keeps.push (S:=[]) (.lst [])).at' a _ (by simp) ga;have gt1:(g++[.lst []])[g.length]?=vL []:=Qp _;have hl1:g.length<(g++[GO.lst []]).length:=by simp
 generalize g++[.lst []]=g1 at s1 kp ga1 gt1 hl1;obtain⟨σ',g',e,ds,rows,y5,y6,y7,y8,y9,h1,I⟩:=Jb (t:=Qn 5) (body:=Vo) (lo:=0) (n:=n) (σ:=[vF ns,vR a,vI n,vI m,vR g.length,none,none,none,none,none]) (g:=g1)
  (λi σ g2=>∃ds rows y5 y6 y7 y8 y9,σ=[vF ns,vR a,vI n,vI m,vR g.length,y5,y6,y7,y8,y9]/\TI g g1 a k n m i g2 ds rows)
  ⟨[],[],none,none,none,none,none,rfl,rfl,rfl,.refl,by simpa using ga1,gt1,by simp,by simp,by simp,.nil⟩ (λi σ g2 hi hI=>by
   obtain⟨ds,rows,y5,y6,y7,y8,y9,rfl,I⟩:=hI;have h2:=I.h2;have h3:=I.h3;have hl2:g.length<g2.length:=Zf I.h6;have q1:QF (Qn 6) (Qt Ym Qi) [vF ns,vR a,vI n,vI m,vR g.length,vI (0+i),y6,y7,y8,y9] g2=.nx [vF ns,vR a,vI n,vI m,vR g.length,vI (0+i),vR g2.length,y7,y8,y9] (g2++[.lst []]):=QK (by simp[Qt,Qi,Res.bind,Ym])
   have k3:Keeps [] g2 (g2++[.lst []]):=.push _;have gl3:(g2++[.lst []])[g2.length]?=vL []:=Qp _;generalize g2++[.lst []]=g3 at q1 k3 gl3;have him:(i:Int)*m<=96:=by
    have:i*m<=12*8:=Wo (by omega) hm8
    exact_mod_cast this
   have him0:(0:Int)<=(i:Int)*m:=Int.mul_nonneg (by omega) (by omega);obtain⟨row,z7,z8,z9,g4,e4,r1,r2,r3,r4,r5⟩:=D1 ns a g2.length g.length (k+i*m) n m (some (.int (0+i))) y7 y8 y9 g3 hn hm hm8 (k3.at' a _ (by simp) I.h5) gl3 (wJ hal hl2) (wK hk him0) (wL hk2 him hm8);have gt4:g4[g.length]?=vL ds:=r3.at' _ _ (by simp;omega) (k3.a I.h6);refine⟨_,[vF ns,vR a,vI n,vI m,vR g.length,vI (0+i),vR g2.length,z7,z8,z9],g4.set g.length (.lst (ds++[.ref g2.length])),rfl,?_,ds++[.ref g2.length],rows++[row],_,_,z7,z8,z9,rfl,by simp[h2],by simp[h3],?_,?_,?_,?_,?_,?_,?_⟩
   ·show Vo [vF ns,vR a,vI n,vI m,vR g.length,vI (0+i),y6,y7,y8,y9] g2=_;unfold Vo;rw[JX q1,JX e4];exact FG rfl rfl gt4 (Jr (wM (c:=0) h2 hi hn12))
   ·refine⟨by rw[UH];exact Up I.h4.len (Up k3.len r3.len),λb o hb eb=>?_⟩;have hb':b≠a/\b≠g.length:=by simpa using hb
    have e2:=I.h4.at' b o hb eb;have:b<g2.length:=Zf e2;rw[Ul (Ne.symm hb'.2)];exact r3.at' b o (by simp;omega) (k3.at' b o (by simp) e2)
   ·rw[Ul (by omega),r4];have:k+(i:Int)*m+m=k+((i+1:Nat):Int)*m:=by rw[TZ,Int.add_mul];simp;omega
    rw[this]
   ·exact Zt gt4
   ·intro j x r hx hr';have key:∀b o,g.length<b->g2[b]?=some o->(g4.set g.length (.lst (ds++[.ref g2.length])))[b]?=some o:=λb o hb eb=>by have:b<g2.length:=Zf eb;rw[Ul (by omega)];exact r3.at' b o (by simp;omega) (k3.at' b o (by simp) eb)
    by_cases hj:j<i
    ·rw[Ut (by omega)]at hx hr';obtain⟨b,hb1,hb2,hb3⟩:=I.h7 j x r hx hr';exact⟨b,hb1,hb2,key b _ hb2 hb3⟩
    ·have hji:j=i:=by have:=(Ui.mp hx).1;simp at this;omega
     subst hji;rw[Ux (by omega),h2]at hx;rw[Ux (by omega),h3]at hr';simp at hx hr';subst hx hr';exact⟨g2.length,rfl,hl2,by rw[Ul (by omega)];exact r5⟩
   ·intro r hr';rcases UG.mp hr' with z|z
    ·exact I.h8 r z
    ·rw[Uf.mp z];exact r1
   ·intro r hr';rcases UG.mp hr' with z|z
    ·exact I.h9 r z
    ·rw[Uf.mp z];exact r2
   ·rw[Wu];refine⟨I.h10,by simp,λx hx y hy=>?_⟩;rw[Uf.mp hy];obtain⟨j,hj,rfl⟩:=Rg hx;obtain⟨b,q1,q2,q3⟩:=I.h7 j ds[j] (rows[j]'(by omega)) (by simp[hj]) (by simp[show j<rows.length by omega]);have:=Zf q3;rw[q1];intro z;cases z;omega)
 refine⟨rows,g',?_,?_,I.h5,⟨Um _,ds,I.h6,by rw[I.h2,I.h3],λi x r hx hr'=>?_⟩,I.h3,I.h8,I.h9,ds,I.h6,I.h10⟩
 ·refine Zb rfl ?_;show Fr [vF ns,vR a,vI n,vI m,none,none,none,none,none,none] g=_;unfold Fr;rw[JX s1,JX (σ':=σ') (g':=g') ?_]
  ·subst h1;rfl
  ·rw[<-e];exact Yv (YI rfl hr)
 ·refine⟨Up kp.len I.h4.len,λb o hb eb=>?_⟩;have:b<g.length:=Zf eb;exact I.h4.at' b o (by simp at hb ⊢;omega) (kp.at' b o hb eb)
 ·obtain⟨b,hb1,hb2,hb3⟩:=I.h7 i x r hx hr';exact⟨b,hb1,by omega,by omega,hb3⟩
theorem Qr(σ':S3)(g':G)(h:a σ g=.nx σ' g')(h2:b σ' g'=R):Qs a b σ g=R:=(JX h).trans h2
theorem Fe(g':G)(h:c σ g=.ok true g')(h2:a σ g'=R):YE c a b σ g=R:=(Hh h).trans h2
theorem Jh(g':G)(h:c σ g=.ok false g')(h2:b σ g'=R):YE c a b σ g=R:=(IV h).trans h2
theorem Ku(h0:-1000000<=i)(h1:i<=1000000):cM i:=⟨by omega,by omega⟩
theorem fM(h:cM i):Xy (.int i) (.int j) g=.ok (.int (i*j)) g:=Uc (.inl h)
theorem oS(h:cM j):Xy (.int i) (.int j) g=.ok (.int (i*j)) g:=Uc (.inr h)
theorem KU(h:0<j):Z0 (.int i) (.int j) g=.ok (.int (i%j)) g:=Uc h
theorem Ee(h:0<j)(h2:j<=1000000):Yw (.int i) (.int j) g=.ok (.int (i/j)) g:=Uc ⟨h,by omega⟩
theorem BS(hl:ds.length=k)(h:b (ds.map some++List.replicate n none) g=.nx σ g'):Zq k n b ds g=.ok .non g':=by unfold Zq;rw[Uc hl,h]
theorem Yi(hl:ds.length=k)(h:b (ds.map some++List.replicate n none) g=.raise x σ g'):Zq k n b ds g=.raise x g':=by unfold Zq;rw[Uc hl,h]
theorem Ql(ha:a σ g=.ok x g1)(hb:b σ g1=.ok y g2)(h:f x y g2=R):Qe f a b σ g=R:=by unfold Qe;rw[ha,Res.bind_ok,hb,Res.bind_ok,h]
theorem ZC(ha:a σ g=.ok x g1)(h:f x g1=R):Qv f a σ g=R:=by unfold Qv;rw[ha,Res.bind_ok,h]
theorem Q3(ha:a σ g=.ok (.bl b) g1):Qo a σ g=.ok b g1:=by unfold Qo;rw[ha,Res.bind_ok]
theorem Qx(h:a σ g=.ok x g1)(h2:r σ g1=.ok xs g2):Qb a r σ g=.ok (x::xs) g2:=by unfold Qb;rw[h,Res.bind_ok,h2];rfl
theorem J6(ho:o σ g=.ok (.ref n) g)(h:g[n]?=vL ds)(he:e σ g=.ok y g)(hz:ds.length<SZ):
  Zc (Zm o e) σ g=.nx σ (g.set n (.lst (ds++[y]))):=by
 refine Yu (d:=.non) ?_;simp[Zm,ho,he,Res.bind,h,hz]
theorem An{src:Src}{ds:List D}{e:ME}{g:G}{σc:S3}{rows':List (List D)}(ht:src.top=ds.length)(hs:∀g1 i,Keeps [] g g1->src.at' g1 i=some ds[i]?)(hlen:rows'.length=ds.length)(he:∀(i:Nat) d r,ds[i]?=some d->rows'[i]?=some r->∀g1,Keeps [] g g1->e (some d::σc) g1=.ok (.ref g1.length) (g1++[.lst r])):
  ∃(ls:List Nat)(g':G),Jd src (Qn 0) Yb e (src.top+1) 0 (none::σc) g []=.ok (ls.map .ref) g'/\Keeps [] g g'/\ls.length=rows'.length/\ls.Nodup/\∀(i n:Nat) r,ls[i]?=some n->rows'[i]?=some r->g.length<=n/\n<g'.length/\g'[n]?=vL r:=by
 obtain⟨xs,σ',g',h1,ls,h2,h3,h4,h5,h6,_⟩:=YH (src:=src) (t:=Qn 0) (c:=Yb) (e:=e) (n:=ds.length)
  (λi σ' g1 acc=>∃ls:List Nat,acc=ls.map D.ref/\ls.length=i/\ls.Nodup/\Keeps [] g g1/\(∀(j n:Nat),ls[j]?=some n->g.length<=n/\n<g1.length/\∀r,rows'[j]?=some r->g1[n]?=vL r)/\∃u,σ'=u::σc) (λi σ' g1 acc hi hI=>by
   obtain⟨ls,h1,h2,h3,h4,h5,u,rfl⟩:=hI;have hr:rows'[i]?=some (rows'[i]'(by omega)):=by simp[hlen,hi]
   have e1:=he i ds[i] _ (by simp[hi]) hr g1 h4;refine⟨ds[i],some ds[i]::σc,g1,by rw[hs g1 i h4];simp[hi],rfl,.inl ⟨.ref g1.length,g1++[.lst (rows'[i]'(by omega))],rfl,e1,ls++[g1.length],by simp[h1],by simp[h2],?_,h4.trans (.push _),?_,_,rfl⟩⟩
   ·rw[Wu];refine⟨h3,by simp,λa ha b hb=>?_⟩;obtain⟨j,hj,rfl⟩:=Rg ha;have:=(h5 j ls[j] (by simp[hj])).2.1;have:b=g1.length:=by simpa using hb
    omega
   ·intro j n hn;by_cases hj:j<ls.length
    ·rw[Ut hj]at hn;obtain⟨q1,q2,q3⟩:=h5 j n hn;exact⟨q1,by simp;omega,λr hr=>(Keeps.push (S:=[]) _).at' n _ (by simp) (q3 r hr)⟩
    ·have hj':j=i:=by have:=(Ui.mp hn).1;simp at this;omega
     subst hj';rw[Ux (by omega),h2]at hn;simp at hn;subst hn;exact⟨h4.len,by simp,λr hr'=>by rw[hr]at hr';cases hr';exact Qp _⟩) (λσ g1 acc hI=>by obtain⟨ls,h1,h2,h3,h4,_⟩:=hI;rw[hs g1 _ h4];simp) (src.top+1) 0 (none::σc) g [] (by omega) (by omega) ⟨[],rfl,rfl,.nil,.refl,by simp,none,rfl⟩
 subst h2;exact⟨ls,g',h1,h5,by omega,h4,λi n r hn hr=>let ⟨q1,q2,q3⟩:=h6 i n hn;⟨q1,q2,q3 r hr⟩⟩
theorem entOk.good(hn:0<n)(hm:0<m)(h1:rows.length=n)(h2:∀r∈rows,r.length=m)(h3:∀r∈rows,∀d∈r,entOk d n m):V0 rows=true:=by
 cases rows with
 |nil=>simp at h1;omega|cons q rest =>have hq:=h2 q (UC ..);unfold V0;rw[UD,Uv];refine⟨by simp;intro z;rw[z]at hq;simp at hq;omega,λx hx=>?_⟩;unfold Xp;rw[UD,Uv];exact⟨by simp[h2 x hx,hq],λd hd=>by rw[h1,hq];exact(h3 x hx d hd).ent⟩
theorem JC(h1:it σ g=.ok src g1)(hz:src.top<=SZ)(hc:CQ n cap σ=σ0)(h2:Jd src t c e (src.top+1) 0 σ0 g1 []=.ok ds g2):ZQ it n cap t c e σ g=.ok (.ref g2.length) (g2++[.lst ds]):=by simp only[ZQ,h1,hz,hc,h2,R0]
theorem KY(hv:σ[i]?=some (some (.ref M)))(h:g[M]?=some (ZK rows)):Zd [11,12] "table" (Qa i) σ g=.ok (.tup (rows.map .tup)) g:=by simp[Zd,Qv,Qa,hv,Res.bind,h,ZK]
theorem FH(h1:a σ g=.ok true g1):YD a σ g=.ok false g1:=by unfold YD;rw[h1];rfl
def oU(a:Nat)(n:Nat):Src:=⟨λg i=>(match g[a]? with|some (.lst es)=>some es[i]? | _=>none),n⟩
section
variable{P:D->G->Prop}{a b c rest:MS}{σ σ':S3}
def Rts(P:D->G->Prop)(b:MS)(σ:S3)(g:G):Prop:=∃d g',b σ g=.rt d g'/\P d g'
theorem Rts.sq(h:a σ g=.nx σ' g1)(k:Rts P b σ' g1):Rts P (Qs a b) σ g:=
 let ⟨d,g',e,p⟩:=k
 ⟨d,g',Qr _ _ h e,p⟩
theorem Rts.or(h:t σ g=.ok x g)(h1:x=true->Rts P a σ g)(h2:x=false->Rts P rest σ g):Rts P (Qs (YE t a QU) rest) σ g:=by
 cases x with
 |true=>obtain⟨d,g',e,p⟩:=h1 rfl;exact⟨d,g',BR (Fe g h e),p⟩|false=>obtain⟨d,g',e,p⟩:=h2 rfl;exact⟨d,g',Qr _ _ (Jh g h rfl) e,p⟩
theorem LM(h:∀Q:D->G->Prop,(∀d g',P d g'->Q d g')->Rts Q b σ g):Rts P b σ g:=h P λ_ _ h=>h
end
@[simp] theorem tI:Qs a b σ g=(match a σ g with | .nx σ' g'=>b σ' g'|o=>o):=rfl
@[simp] theorem tJ  : QF (Qn i) a σ g=(match a σ g with | .ok d g'=>.nx (σ.set i (some d)) g' | .raise e g'=>.raise e σ g' | .stuck=>.stuck):=rfl
@[simp] theorem vJ  : YE c a b σ g=(match c σ g with | .ok t g'=>if t=true then a σ g' else b σ g' | .raise e g'=>.raise e σ g' | .stuck=>.stuck):=rfl
@[simp] theorem tK:Q5 a σ g=(match a σ g with | .ok d g'=>.rt d g' | .raise e g'=>.raise e σ g' | .stuck=>.stuck):=rfl
@[simp] theorem qP:Zc a σ g=(match a σ g with | .ok _ g'=>.nx σ g' | .raise e g'=>.raise e σ g' | .stuck=>.stuck):=rfl
@[simp] theorem qQ:Dp σ g=.rt .non g:=rfl
@[simp] theorem qR:QU σ g=.nx σ g:=rfl
@[simp] theorem tM:Qa i σ g=(match σ[i]? with|some (some d)=>.ok d g|_=>.stuck):=rfl
@[simp] theorem tN:Qq d σ g=.ok d g:=rfl
@[simp] theorem tO  : Qv f a σ g=(match a σ g with | .ok x g1=>f x g1 | .raise e g'=>.raise e g' | .stuck=>.stuck):=by unfold Qv Res.bind;cases a σ g<;>rfl
@[simp] theorem tP  : Qe f a b σ g=(match a σ g with | .ok x g1=>(match b σ g1 with | .ok y g2=>f x y g2 | .raise e g'=>.raise e g' | .stuck=>.stuck) | .raise e g'=>.raise e g' | .stuck=>.stuck):=by unfold Qe Res.bind;cases a σ g with|ok x g1=>dsimp only;cases b σ g1<;>rfl|_=>rfl
@[simp] theorem tQ:Qi σ g=.ok [] g:=rfl
@[simp] theorem qS  : Qb a r σ g=(match a σ g with | .ok x g1=>(match r σ g1 with | .ok xs g2=>.ok (x::xs) g2 | .raise e g'=>.raise e g' | .stuck=>.stuck) | .raise e g'=>.raise e g' | .stuck=>.stuck):=by unfold Qb Res.bind;cases a σ g with|ok x g1=>dsimp only;cases r σ g1<;>rfl|_=>rfl
@[simp] theorem tS  : Qt f a σ g=(match a σ g with | .ok x g1=>f x g1 | .raise e g'=>.raise e g' | .stuck=>.stuck):=by unfold Qt Res.bind;cases a σ g<;>rfl
@[simp] theorem qT  : Qu f a σ g=(match a σ g with | .ok x g1=>f x g1 | .raise e g'=>.raise e g' | .stuck=>.stuck):=by unfold Qu Res.bind;cases a σ g<;>rfl
@[simp] theorem qU:Qo a σ g=(match a σ g with | .ok (.bl b) g1=>.ok b g1 | .raise e g'=>.raise e g'|_=>.stuck):=by unfold Qo Res.bind;cases a σ g with|ok d g1=>cases d<;>rfl|_=>rfl
@[simp] theorem qV:Jj a b σ g=(match a σ g with | .ok c g1=>if c=true then b σ g1 else .ok false g1 | .raise e g'=>.raise e g' | .stuck=>.stuck):=by unfold Jj Res.bind;cases a σ g<;>rfl
@[simp] theorem tT:BG a b σ g=(match a σ g with | .ok c g1=>if c=true then .ok true g1 else b σ g1 | .raise e g'=>.raise e g' | .stuck=>.stuck):=by unfold BG Res.bind;cases a σ g<;>rfl
@[simp] theorem qW:YD a σ g=(match a σ g with | .ok c g1=>.ok (!c) g1 | .raise e g'=>.raise e g' | .stuck=>.stuck):=by unfold YD Res.bind;cases a σ g<;>rfl
@[simp] theorem tU  : X5 c a b σ g=(match c σ g with | .ok t g1=>if t=true then a σ g1 else b σ g1 | .raise e g'=>.raise e g' | .stuck=>.stuck):=by unfold X5 Res.bind;cases c σ g<;>rfl
@[simp] theorem tV:Jx a b σ g=(match a σ g with | .ok (.bl c) g1=>if c=true then b σ g1 else .ok (.bl false) g1 | .raise e g'=>.raise e g'|_=>.stuck):=by unfold Jx Res.bind;cases a σ g with|ok d g1=>cases d<;>rfl|_=>rfl
@[simp] theorem tW:QD (.int i) (.int j) g=.ok (.int (i+j)) g:=rfl
@[simp] theorem tX:VS (.int i) (.int j) g=.ok (.int (i-j)) g:=rfl
@[simp] theorem tY:Jy (.int i) g=.ok (.int (-i)) g:=rfl
@[simp] theorem vK:Fd (.int i) (.int j) g=.ok (.bl (decide (i<j))) g:=rfl
@[simp] theorem vM:mK (.int i) (.int j) g=.ok (.bl (decide (i<=j))) g:=rfl
@[simp] theorem vN:Lx (.int i) (.int j) g=.ok (.bl (decide (j<i))) g:=rfl
@[simp] theorem vO:dY (.int i) (.int j) g=.ok (.bl (decide (j<=i))) g:=rfl
@[simp] theorem vP:Z5 (.int i) (.int j) g=.ok (.bl (i==j)) g:=rfl
@[simp] theorem vQ:CI (.int i) (.int j) g=.ok (.bl (!(i==j))) g:=rfl
theorem ix_tup{ds:List D}{n:Nat}{d:D}(h:ds[n]?=some d):QB (.tup ds) (.int n) g=.ok d g:=by obtain⟨this,e⟩:=Ui.mp h;simp[QB,VC,GQ,this,e]
@[simp] theorem tZ{d:D}{ds:List D}:QB (.tup (d::ds)) (.int 0) g=.ok d g:=ix_tup (n:=0) rfl
@[simp] theorem uA{c d:D}{ds:List D}:QB (.tup (c::d::ds)) (.int 1) g=.ok d g:=ix_tup (n:=1) rfl
@[simp] theorem uB{b c d:D}{ds:List D}:QB (.tup (b::c::d::ds)) (.int 2) g=.ok d g:=ix_tup (n:=2) rfl
@[simp] theorem uC{a b c d:D}{ds:List D}:QB (.tup (a::b::c::d::ds)) (.int 3) g=.ok d g:=ix_tup (n:=3) rfl
theorem iK:Str.ofString "one"=⟨#[111,110,101]⟩:=by decide +kernel
theorem D3:Str.ofString "many"=⟨#[109,97,110,121]⟩:=by decide +kernel
theorem Hi:(Str.ofString "many"==Str.ofString "one")=false:=by rw[iK,D3];rfl
theorem D4:(Str.ofString "one"==Str.ofString "many")=false:=by rw[iK,D3];rfl
theorem JM(s:Str):(s==s)=true:=RK s
inductive Tk where
 |one (s:Int)|many (w:List Int) (k:Int)
def Qy:Tk->D
 |.one s=>.tup [.str "one",.int s]|.many w k=>.tup [.str "many",.tup (w.map .int),.int k]
def Xz:Tk->Prop
 |.one s=>0<=s|.many w k=>w≠[]/\(∀x∈w,0<=x)/\0<=k/\w.length<=20/\k<=12
def Ow(c:Nat):Tk->List Int
 |.one s=>[s]|.many w k=>(List.replicate (c+k.toNat) w).flatten
def Zx(c:Nat)(ts:List Tk):List Int:=ts.flatMap (Ow c)
theorem M3(w:List Int):∀k:Nat,(List.replicate k w).flatten.length=k*w.length
 |0=>by simp
 |k+1=>by rw[UX,Tu,Uo,M3 w k,Nat.succ_mul,Nat.add_comm]
theorem Hj(h:Xz t)(hc:c<=4):(Ow c t).length<=320:=by
 cases t with
 |one s=>show 1<=320;decide|many w k =>obtain⟨_,_,h3,h4,h5⟩:=h;show(List.replicate (c+k.toNat) w).flatten.length<=320;rw[M3];exact Up (Wo (show c+k.toNat<=16 by omega) h4) (by decide)
theorem KZ(hc:c<=4):∀{ts:List Tk},(∀t∈ts,Xz t)->(Zx c ts).length<=320*ts.length
 |[],_=>Um _|t::r,h=>by have ih:=KZ hc (ts:=r) λx hx=>h x (Uw _ hx);have h1:=Hj (h t (UC ..)) hc;unfold Zx at ih ⊢;rw[T7,Uo,Uy];omega
theorem WL(h:n<=100000):n<SZ:=Nat.lt_of_le_of_lt h (by decide)
theorem XH(i:Int)(g:G):QJ [.int i] g=.ok (.bl (decide (0<=i))) g:=rfl
theorem Ao(w:List Int):ED (w.map λi=>D.bl (decide (0<=i)))=some (w.all λi=>decide (0<=i)):=by
 induction w with
 |nil=>rfl|cons i r ih=>show(ED (r.map λi=>D.bl (decide (0<=i)))).map (decide (0<=i) && ·)=_;rw[ih];rfl
theorem ER{ds:List D}{e:ME}{g:G}{F:D->D}(hz:ds.length<=100000)(he:∀d∈ds,∀g1,Keeps [] g g1->∃g2,e [some d] g1=.ok (F d) g2/\Keeps [] g1 g2){src:Src}(htop:src.top=ds.length)(hs:∀g1 i,Keeps [] g g1->src.at' g1 i=some ds[i]?):
  ∃g',Jd src (Qn 0) Yb e (src.top+1) 0 [none] g []=.ok (ds.map F) g'/\Keeps [] g g':=by
 obtain⟨xs,σ',g',h1,h2,h3,_⟩:=YH (src:=src) (t:=Qn 0) (c:=Yb) (e:=e) (n:=ds.length)
  (λi σ' g1 acc=>acc=(ds.take i).map F/\Keeps [] g g1/\∃u,σ'=[u]) (λi σ' g1 acc hi hQ=>by obtain⟨q1,q2,u,q3⟩:=hQ;subst q3;obtain⟨g2,k1,k2⟩:=he ds[i] (UK hi) g1 q2;refine⟨ds[i],[some ds[i]],g1,by rw[hs g1 i q2];simp[hi],rfl,.inl ⟨F ds[i],g2,rfl,k1,?_,q2.trans k2,_,rfl⟩⟩;rw[q1,Uq hi,UB];rfl) (λσ g1 acc hQ=>by rw[hs g1 _ hQ.2.1];simp) (src.top+1) 0 [none] g [] (by omega) (by omega) ⟨rfl,.refl,none,rfl⟩
 rw[UO]at h2;subst h2;exact⟨g',h1,h3⟩
theorem Xs(h:a σ g=.ok (.bl true) g1)(h2:b σ g1=R):Jx a b σ g=R:=by unfold Jx;rw[h,Res.bind_ok];exact h2
theorem BT(h:a σ g=.ok (.bl false) g1):Jx a b σ g=.ok (.bl false) g1:=by unfold Jx;rw[h,Res.bind_ok];rfl
theorem LN(w:List Int)(g:G)(hz:w.length<=1000):∃g',Vy [.tup (w.map .int)] g=.ok (.bl (decide (w≠[])&&w.all λi=>decide (0<=i))) g'/\Keeps [] g g':=by
 obtain⟨g1,c1,k1⟩:=ER (ds:=w.map D.int) (e:=Qu QJ (Qb (Qa 0) Qi)) (g:=g) (F:=λd=>match d with | .int i=>.bl (decide (0<=i))|_=>.non) (src:=⟨λ_ i=>some (w.map D.int)[i]?,(w.map D.int).length⟩) (by rw[Ua];omega) (λd hd g1 _=>by obtain⟨i,_,rfl⟩:=UQ.mp hd;exact⟨g1,rfl,.refl⟩) rfl (λ_ _ _=>rfl);have c2:=JC (it:=QQ (Qa 0)) (n:=1) (cap:=[]) (σ:=[vT (w.map .int)]) (σ0:=[none]) (g:=g) rfl (by show(w.map D.int).length<=SZ;rw[Ua];exact UP (WL (by omega))) rfl c1;rw[U6]at c2;have hall:Qv Gj (ZQ (QQ (Qa 0)) 1 [] (Qn 0) Yb (Qu QJ (Qb (Qa 0) Qi))) [vT (w.map .int)] g=.ok (.bl (w.all λi=>decide (0<=i))) (g1++[.lst (w.map ((λd=>match d with | .int i=>.bl (decide (0<=i))|_=>.non)∘D.int))]):=ZC c2 (by unfold Gj;dsimp only;rw[Qp];dsimp only;rw[show(w.map ((λd=>match d with | .int i=>D.bl (decide (0<=i))|_=>.non)∘D.int))=w.map λi=>D.bl (decide (0<=i)) from rfl,Ao]);have hl:Qe Lx (Qv Zr (Qa 0)) (mI 0) [vT (w.map .int)] g=.ok (.bl (decide ((0:Int)<((w.map D.int).length:Nat)))) g:=rfl;rw[Ua]at hl;have kk:Keeps [] g (g1++[.lst (w.map ((λd=>match d with | .int i=>.bl (decide (0<=i))|_=>.non)∘D.int))]):=k1.trans (.push _);generalize g1++[.lst (w.map ((λd=>match d with | .int i=>.bl (decide (0<=i))|_=>.non)∘D.int))]=g2 at hall kk;by_cases hw:w=[]
 ·subst hw;exact⟨g,rfl,.refl⟩
 ·have:0<w.length:=Tq.mpr hw;rw[Uu (by omega)]at hl;rw[Uu hw,Bool.true_and];exact⟨g2,Zb rfl (ZP (Xs (g1:=g) rfl (Xs hl hall))),kk⟩
def TokR(g:G)(d:D)(b:Bool):Prop:=∀g1,Keeps [] g g1->∃g2,Jp [d] g1=.ok (.bl b) g2/\Keeps [] g1 g2
theorem TokR.mono(h:TokR g d b)(k:Keeps [] g g'):TokR g' d b:=λg1 k1=>h g1 (k.trans k1)
theorem Ox(s t:Str)(g:G):Z5 (.str s) (.str t) g=.ok (.bl (s==t)) g:=rfl
theorem Cu(x:Str)(y:D)(b:Bool)(g:G)(h:∀g1,QJ [y] g1=.ok (.bl b) g1):TokR g (.tup [.str x,y]) ((x==Str.ofString "one")&&b):=λg1 _=>by
 refine⟨g1,Zb rfl ?_,.refl⟩;show Y8 [vT [.str x,y]] g1=_;unfold Y8;refine Qr [vT [.str x,y]] g1 rfl (BR (Fe g1 rfl (ZP ?_)));have e1:Qe Z5 (Qe QB (Qa 0) (mI 0)) (Qq (.str "one")) [vT [.str x,y]] g1=.ok (.bl (x==Str.ofString "one")) g1:=rfl;cases hx:(x==Str.ofString "one") with
 |true=>rw[hx]at e1;exact Xs e1 (by rw[Qw (ds:=[y]) (g':=g1) rfl];exact h g1)|false=>rw[hx]at e1;exact BT e1
theorem ES(x:Str)(v:D)(k:Int)(b:Bool)(g:G)(h:∀g1,Keeps [] g g1->∃g2,Vy [v] g1=.ok (.bl b) g2/\Keeps [] g1 g2):TokR g (.tup [.str x,v,.int k]) ((x==Str.ofString "many")&&(b&&decide (0<=k))):=λg1 k1=>by
 have e1:Qe Z5 (Qe QB (Qa 0) (mI 0)) (Qq (.str "many")) [vT [.str x,v,.int k]] g1=.ok (.bl (x==Str.ofString "many")) g1:=rfl;obtain⟨g2,e2,k2⟩:=h g1 k1;have e2':Qu Vy (Qb (Qe QB (Qa 0) (mI 1)) Qi) [vT [.str x,v,.int k]] g1=.ok (.bl b) g2:=by rw[Qw (ds:=[v]) (g':=g1) rfl];exact e2
 have e3:Qu QJ (Qb (Qe QB (Qa 0) (mI 2)) Qi) [vT [.str x,v,.int k]] g2=.ok (.bl (decide (0<=k))) g2:=rfl;have hh:∀R g3,Jx (Qe Z5 (Qe QB (Qa 0) (mI 0)) (Qq (.str "many"))) (Jx (Qu Vy (Qb (Qe QB (Qa 0) (mI 1)) Qi)) (Qu QJ (Qb (Qe QB (Qa 0) (mI 2)) Qi))) [vT [.str x,v,.int k]] g1=.ok R g3->Jp [.tup [.str x,v,.int k]] g1=.ok R g3:=λR g3 hR=>by refine Zb rfl ?_;show Y8 [vT [.str x,v,.int k]] g1=_;unfold Y8;exact Qr [vT [.str x,v,.int k]] g1 rfl (Qr [vT [.str x,v,.int k]] g1 rfl (ZP (Xs rfl hR)))
 cases hx:(x==Str.ofString "many") with
 |false=>rw[hx]at e1;exact⟨g1,hh _ _ (BT e1),.refl⟩|true=>
  rw[hx]at e1;refine⟨g2,hh _ _ (Xs e1 ?_),k2⟩;cases b with
  |false=>exact BT e2'|true=>exact Xs e2' e3
theorem VJ(h:Xz t)(g:G):TokR g (Qy t) true:=by
 cases t with
 |one s =>have:=Cu (Str.ofString "one") (.int s) (decide (0<=s)) g λ_=>rfl;rw[JM,Uu (show 0<=s from h)]at this;exact this
 |many w k =>obtain⟨h1,h2,h3,h4,_⟩:=h;have:=ES (Str.ofString "many") (.tup (w.map .int)) k _ g λg1 _=>LN w g1 (by omega);rw[JM,Uu h1,Uu h3,Uv.mpr λx hx=>Uu (h2 x hx)]at this;exact this
theorem QI(h:QG g x=some p)(k:Keeps [] g g1):QG g1 x=some p:=by
 cases x with
 |ref n=>
  unfold QG at h ⊢;dsimp only at h ⊢;cases hg:g[n]? with
  |none=>rw[hg]at h;cases h|some o =>rw[hg]at h;rw[k.a hg];exact h
 |_=>exact h
theorem Hl(h:QG g x=some (b,xs)):Gi g x=some (if b then .list else .tuple):=by
 cases x with
 |ref n=>
  unfold QG at h;unfold Gi;dsimp only at h ⊢;cases hg:g[n]? with
  |none=>rw[hg]at h;cases h|some o=>
   rw[hg]at h;cases o with
   |lst ds=>cases h;rfl|_=>cases h
 |tup ds=>cases h;rfl|fl ds=>cases h;rfl|_=>cases h
theorem fN(bs:List Bool):ED (bs.map D.bl)=some (bs.all id):=by
 induction bs with
 |nil=>rfl|cons b r ih=>show(ED (r.map D.bl)).map (b && ·)=_;rw[ih];rfl
def oV(F:D->Bool)(d:D):D:=.bl (F d)
theorem Vf(F:D->Bool)(h:QG g x=some (b,ds))(hz:ds.length<=1000)(hF:∀d∈ds,TokR g d (F d)):
  ∃g',Keeps [] g g'/\((ds.all F=true/\QS [x] g=.ok .non g')\/(ds.all F=false/\QS [x] g=.raise (7,none) g')):=by
 obtain⟨src,s1,s2,s3⟩:=Xq h;obtain⟨g1,c1,k1⟩:=ER (ds:=ds) (e:=Qu Jp (Qb (Qa 0) Qi)) (g:=g) (F:=oV F) (src:=src) (by omega) (λd hd g1 k=>by obtain⟨g2,e,k2⟩:=hF d hd g1 k;exact⟨g2,by rw[Qw (ds:=[d]) (g':=g1) rfl];exact e,k2⟩) s2 (λg1 i k=>s3 g1 i (QI h k));have c2:=JC (it:=QQ (Qa 0)) (n:=1) (cap:=[]) (σ:=[some x]) (t:=Qn 0) (c:=Yb) (σ0:=[none]) (g:=g) (by unfold QQ;rw[show Qa 0 [some x] g=.ok x g from rfl,Res.bind_ok];exact s1) (by rw[s2];exact UP (WL (by omega))) rfl c1;have hm:ds.map (oV F)=(ds.map F).map D.bl:=by rw[U6];rfl
 rw[hm]at c2;have hall:Qv Gj (ZQ (QQ (Qa 0)) 1 [] (Qn 0) Yb (Qu Jp (Qb (Qa 0) Qi))) [some x] g=.ok (.bl (ds.all F)) (g1++[.lst ((ds.map F).map D.bl)]):=ZC c2 (by unfold Gj;dsimp only;rw[Qp];dsimp only;rw[fN,List.all_map];rfl);have kk:Keeps [] g (g1++[.lst ((ds.map F).map D.bl)]):=k1.trans (.push _);generalize g1++[GO.lst ((ds.map F).map D.bl)]=g2 at hall kk;have hsq:Qo (Qv Vc (Qa 0)) [some x] g=.ok true g:=Q3 (ZC (x:=x) (g1:=g) rfl (by unfold Vc;rw[Hl h];cases b<;>rfl));have ht:∀v,ds.all F=v->BG (YD (Qo (Qv Vc (Qa 0)))) (YD (Qo (Qv Gj (ZQ (QQ (Qa 0)) 1 [] (Qn 0) Yb (Qu Jp (Qb (Qa 0) Qi)))))) [some x] g=.ok (!v) g2:=λv hv=>by unfold BG;rw[FH hsq,Res.bind_ok,Uh Ue];unfold YD;rw[Q3 hall,hv];rfl
 refine⟨g2,kk,?_⟩;cases hv:ds.all F with
 |true=>exact .inl ⟨rfl,BS (σ:=[some x]) rfl (Jh g2 (ht _ hv) rfl)⟩|false=>exact .inr ⟨rfl,Yi (σ:=[some x]) rfl (Fe g2 (ht _ hv) rfl)⟩
def lrS(f:Str):Prop:=f=Str.ofString "l"\/f=Str.ofString "r"
theorem YU(h:a σ g=.raise x σ' g'):Qs a b σ g=.raise x σ' g':=by unfold Qs;rw[h]
theorem Cv(h:a σ g=.raise x g'):Zc a σ g=.raise x σ g':=by unfold Zc;rw[h]
theorem D5(hx:Kk x=true):GR true x (.tup [.str "l",.str "r"]) g=.ok (.bl (!(Po (.str "l") x||(Po (.str "r") x||false)))) g:=by unfold GR QG;dsimp only;rw[Uc ⟨hx,rfl⟩];rfl
theorem VL(h0:0<=st)(hf:GR true f (.tup [.str "l",.str "r"]) g=.ok (.bl false) g)(Q:Out)(hQ:Qs (Zc (Qu QS (Qb (Qe QB (Qa 0) (mI 2)) Qi))) (Zc (Qu QS (Qb (Qe QB (Qa 0) (mI 3)) Qi))) [vT [.int st,f,L,R]] g=Q):Yd [vT [.int st,f,L,R]] g=Q:=by unfold Yd;have t2:Qo (Qu QJ (Qb (Qe QB (Qa 0) (mI 0)) Qi)) [vT [.int st,f,L,R]] g=.ok true g:=Q3 (by rw[Qw (ds:=[.int st]) (g':=g) rfl,XH,Uu h0]);exact Qr [vT [.int st,f,L,R]] g rfl (Qr [vT [.int st,f,L,R]] g (Jh g (FH t2) rfl) (Qr [vT [.int st,f,L,R]] g (Jh g (Q3 (Ql (x:=f) (g1:=g) (g2:=g) rfl rfl hf)) rfl) hQ))
theorem M4(h:lrS f)(g:G):GR true (.str f) (.tup [.str "l",.str "r"]) g=.ok (.bl false) g:=by
 rw[D5 rfl];rcases h with rfl|rfl
 ·show Res.ok (D.bl (!((Str.ofString "l"==Str.ofString "l")||_))) g=_;rw[JM];rfl
 ·show Res.ok (D.bl (!(_||((Str.ofString "r"==Str.ofString "r")||false)))) g=_;rw[JM,Bool.true_or,Bool.or_true];rfl
theorem BU(F:D->Bool)(h0:0<=st)(hf:lrS f)(hL:QG g L=some (b,ds))(hR:QG g R=some (b',es))(hz:ds.length<=1000)(hz':es.length<=1000)(tL:∀d∈ds,TokR g d (F d))(tR:∀d∈es,TokR g d (F d)):
  ∃g',Keeps [] g g'/\((ds.all F=true/\es.all F=true/\Yx [.tup [.int st,.str f,L,R]] g=.ok .non g')\/(¬(ds.all F=true/\es.all F=true)/\Yx [.tup [.int st,.str f,L,R]] g=.raise (7,none) g')):=by
 obtain⟨g1,k1,h1⟩:=Vf F hL hz tL;have c1:Qu QS (Qb (Qe QB (Qa 0) (mI 2)) Qi) [vT [.int st,.str f,L,R]] g=QS [L] g:=Qw rfl;rcases h1 with⟨a1,e1⟩|⟨a1,e1⟩
 ·obtain⟨g2,k2,h2⟩:=Vf F (QI hR k1) hz' (λd hd=>(tR d hd).mono k1);have c2:Qu QS (Qb (Qe QB (Qa 0) (mI 3)) Qi) [vT [.int st,.str f,L,R]] g1=QS [R] g1:=Qw rfl;refine⟨g2,k1.trans k2,?_⟩;rcases h2 with⟨a2,e2⟩|⟨a2,e2⟩
  ·exact .inl ⟨a1,a2,BS rfl (VL h0 (M4 hf g) _ (Qr _ g1 (Yu (c1.trans e1)) (Yu (c2.trans e2))))⟩
  ·exact .inr ⟨λz=>by rw[a2]at z;exact Ue z.2,Yi rfl (VL h0 (M4 hf g) _ (Qr _ g1 (Yu (c1.trans e1)) (Cv (c2.trans e2))))⟩
 ·exact⟨g1,k1,.inr ⟨λz=>by rw[a1]at z;exact Ue z.1,Yi rfl (VL h0 (M4 hf g) _ (YU (Cv (c1.trans e1))))⟩⟩
theorem fO(h0:0<=k)(hk:k<=1000)(hz:w.length*k.toNat<=100000):Xy (.tup (w.map .int)) (.int k) g=.ok (.tup ((List.replicate k.toNat w).flatten.map .int)) g:=by unfold Xy;dsimp only;rw[Uc ⟨⟨h0,by omega⟩,by rw[Ua];exact UP (WL hz)⟩,List.map_flatten,Wk]
theorem Oy(ho:o σ g=.ok (.ref n) g)(h:g[n]?=vL xs)(he:e σ g=.ok (.tup ys) g)(hz:xs.length+ys.length<=100000):
  Zc (GB o e) σ g=.nx σ (g.set n (.lst (xs++ys))):=by
 refine Yu (d:=.non) ?_;unfold GB;rw[ho,Res.bind_ok];dsimp only;rw[h];dsimp only;rw[he,Res.bind_ok];dsimp only;rw[h];dsimp only;rw[Uc (UP (WL hz))]
theorem Oz(ho:o σ g=.ok (.ref n) g)(h:g[n]?=vL ds)(he:e σ g=.ok y g)(hz:ds.length<=100000):Zc (Zm o e) σ g=.nx σ (g.set n (.lst (ds++[y]))):=J6 ho h he (WL hz)
theorem YS(h1:g[a]?=vL xs)(h2:g[b]?=vL ys)(hz:xs.length+ys.length<=100000):QD (.ref a) (.ref b) g=.ok (.ref g.length) (g++[.lst (xs++ys)]):=by unfold QD;dsimp only;rw[h1,h2];dsimp only;rw[Uc (UP (WL hz))]
def uD(d:D):Bool:=true
theorem LO(ts:List Tk):(ts.map Qy).all uD=true:=Uv.mpr λ_ _=>rfl
theorem Hm{st:Int}{f:Str}{L R:D}{g:G}{b b':Bool}{tl tr:List Tk}(h0:0<=st)(hf:lrS f)(hL:QG g L=some (b,tl.map Qy))(hR:QG g R=some (b',tr.map Qy))(ol:∀t∈tl,Xz t)(or':∀t∈tr,Xz t)(zl:tl.length<=140)(zr:tr.length<=140):
  ∃g',Yx [.tup [.int st,.str f,L,R]] g=.ok .non g'/\Keeps [] g g':=by
 obtain⟨g',k,h⟩:=BU uD h0 hf hL hR (by rw[Ua];omega) (by rw[Ua];omega) (λd hd=>by
  obtain⟨t,ht,rfl⟩:=UQ.mp hd;exact VJ (ol t ht) g) (λd hd=>by
  obtain⟨t,ht,rfl⟩:=UQ.mp hd;exact VJ (or' t ht) g)
 rcases h with⟨_,_,e⟩|⟨z,_⟩
 ·exact⟨g',e,k⟩
 ·exact absurd ⟨LO tl,LO tr⟩ z
theorem Y9(h:a σ g=.ok xs g1)(h2:f xs g1=R):Qt f a σ g=R:=by unfold Qt;rw[h,Res.bind_ok,h2]
theorem Hn{t p:Nat}{ds:List D}{d:D}{g:G}(h:g[t]?=vL ds)(hp:ds[p]?=some d):QB (.ref t) (.int p) g=.ok d g:=by have:=(Ui.mp hp).1;unfold QB;dsimp only;rw[h];dsimp only;unfold VC GQ;rw[Uc (by omega),Uc (by omega)];simp[hp]
theorem Ef{t:Nat}{i:Int}{ds:List D}{d:D}{g:G}(h:g[t]?=vL ds)(h0:0<=i)(hp:ds[i.toNat]?=some d):QB (.ref t) (.int i) g=.ok d g:=by
 have e:((i.toNat:Nat):Int)=i:=by omega
 rw[<-e];exact Hn h hp
theorem K0  : ∀(f:Nat)(σ:S3)(g:G),Jc c body f σ g≠.stuck->∀f',f<=f'->Jc c body f' σ g=Jc c body f σ g
 |0,_,_,h,_,_=>absurd rfl h|f+1,σ,g,h,f',hf=>by
  obtain⟨k,rfl⟩:∃k,f'=k+1:=⟨f' - 1,by omega⟩;unfold Jc at h ⊢;cases hc:c σ g with
  |stuck=>rfl|raise e g1=>rfl|ok b g1=>
   cases b with
   |false=>rfl|true=>
    rw[hc]at h;dsimp only at h ⊢;cases hb:body σ g1 with
    |nx σ2 g2=>rw[hb]at h;exact K0 f σ2 g2 h k (by omega)|ct σ2 g2=>rw[hb]at h;exact K0 f σ2 g2 h k (by omega)|bk σ2 g2=>rfl|rt d g2=>rfl|raise e σ2 g2=>rfl|stuck=>rfl
theorem D6(h:Jc c body f σ g=R)(hR:R≠.stuck):GP c body σ g=R:=by
 have hx:∃f,Jc c body f σ g≠.stuck:=⟨f,by rw[h];exact hR⟩;unfold GP;rw[dif_pos hx];have h1:=hx.choose_spec;rcases Nat.le_total f hx.choose with z|z
 ·rw[K0 f σ g (by rw[h];exact hR) _ z,h]
 ·rw[<-K0 _ σ g h1 f z,h]
theorem M5   : ∀t∈Yc xs lo hi,t∈xs:=λt ht=>RP (TM ht)
theorem M6   : (Yc xs lo hi).length<=xs.length:=by unfold Yc;rw[UZ,TB];omega
def TkK(K n:Nat):Tk->Prop
 |.one s=>0<=s/\s<n|.many w k=>w≠[]/\(∀x∈w,0<=x/\x<n)/\0<=k/\w.length<=20/\k<=K
abbrev wX:=TkK 4
theorem TkK.ok(h:TkK K n t)(hK:K<=12):Xz t:=by
 cases t with
 |one s=>exact h.1|many w k=>exact⟨h.1,λx hx=>(h.2.1 x hx).1,h.2.2.1,h.2.2.2.1,by have:=h.2.2.2.2;omega⟩
theorem TkK.up(h:TkK K n t):TkK (K+1) n t:=by
 cases t with
 |one s=>exact h|many w k=>exact⟨h.1,h.2.1,h.2.2.1,h.2.2.2.1,by have:=h.2.2.2.2;omega⟩
theorem ET(h:QG g x=some (b,xs)):Zr x g=.ok (.int xs.length) g:=by
 cases x with
 |ref n=>
  unfold QG at h;unfold Zr;dsimp only at h ⊢;cases hg:g[n]? with
  |none=>rw[hg]at h;cases h|some o=>
   rw[hg]at h;cases o with
   |lst ds=>cases h;rfl|_=>cases h
 |tup ds=>cases h;rfl|fl ds=>cases h;rfl|_=>cases h
@[simp] theorem uE   : Zq k n b ds g=if ds.length=k then (match b (ds.map some++List.replicate n none) g with | .nx _ g'=>.ok .non g' | .rt d g'=>.ok d g' | .raise e _ g'=>.raise e g'|_=>.stuck) else .stuck:=rfl
@[simp] theorem mO:QE σ g=.ok none g:=rfl
@[simp] theorem qX:QZ a σ g=(match a σ g with | .ok (.int i) g1=>.ok (some i) g1 | .raise e g'=>.raise e g'|_=>.stuck):=by unfold QZ Res.bind;cases a σ g with|ok d g1=>cases d<;>rfl|_=>rfl
@[simp] theorem oW  : QM a lo hi σ g=(match a σ g with
 |.ok x g1=>(match lo σ g1 with
  |.ok l g2=>(match hi σ g2 with | .ok h g3=>V6 x l h g3 | .raise e g'=>.raise e g' | .stuck=>.stuck)|.raise e g'=>.raise e g' | .stuck=>.stuck)
 |.raise e g'=>.raise e g' | .stuck=>.stuck):=by
 unfold QM Res.bind;cases a σ g with
 |ok x g1=>dsimp only;cases lo σ g1 with
  |ok l g2=>dsimp only;cases hi σ g2<;>rfl|_=>rfl
 |_=>rfl
@[simp] theorem oX  : Z4 c (Qb (Qq (.str t)) Qi) σ g=.raise (c,none) σ g:=Hg _ _ _ _
@[simp] theorem mP  : V6 (.tup ds) lo hi g=.ok (.tup (Yc ds lo hi)) g:=rfl
@[simp] theorem qY:Zr (.tup ds) g=.ok (.int ds.length) g:=rfl
@[simp] theorem qZ:ZT (.tup ds) g=.ok (.tup ds) g:=rfl
@[simp] theorem vS:cP x .non g=.ok (.bl (isNon x)) g:=rfl
@[simp] theorem oY:Ly x .non g=.ok (.bl (!isNon x)) g:=rfl
@[simp] theorem uF:Z5 (.str s) (.str t) g=.ok (.bl (s==t)) g:=rfl
@[simp] theorem uG:CI (.str s) (.str t) g=.ok (.bl (!(s==t))) g:=rfl
@[simp] theorem uH:Z5 (.bl a) (.bl b) g=.ok (.bl (a==b)) g:=rfl
@[simp] theorem uI:CI (.bl a) (.bl b) g=.ok (.bl (!(a==b))) g:=rfl
@[simp] theorem rA:Od (.bl b) g=.ok (.int (if b then 1 else 0)) g:=rfl
@[simp] theorem rB:QC [] g=.ok (.tup []) g:=rfl
@[simp] theorem rC:QC [a] g=.ok (.tup [a]) g:=rfl
@[simp] theorem rD:QC [a,b] g=.ok (.tup [a,b]) g:=rfl
@[simp] theorem rE:QC [a,b,c] g=.ok (.tup [a,b,c]) g:=rfl
@[simp] theorem rF:QC [a,b,c,d] g=.ok (.tup [a,b,c,d]) g:=rfl
@[simp] theorem rG:Ym [a,b] g=.ok (.ref g.length) (g++[.lst [a,b]]):=rfl
@[simp] theorem uJ:QB (.ref g.length) (.int 0) (g++[.lst ds])=(match VC ds 0 with|some d=>.ok d (g++[.lst ds])|none=>.stuck):=by unfold QB;dsimp only;rw[Qp];try rfl
@[simp] theorem uK:QB (.ref g.length) (.int 1) (g++[.lst ds])=(match VC ds 1 with|some d=>.ok d (g++[.lst ds])|none=>.stuck):=by unfold QB;dsimp only;rw[Qp];try rfl
@[simp] theorem wY   : VC (a::xs) 0=some a:=by simp[VC,GQ]
@[simp] theorem wZ   : VC (a::b::xs) 1=some b:=by
 have:(1:Int)<(xs.length:Int)+1+1:=by omega
 simp[VC,GQ,this]
@[simp] theorem xA   : VC (a::b::c::xs) 2=some c:=by
 have:(2:Int)<(xs.length:Int)+1+1+1:=by omega
 simp[VC,GQ,this]
@[simp] theorem xB   : VC (a::b::c::d::xs) 3=some d:=by
 have:(3:Int)<(xs.length:Int)+1+1+1+1:=by omega
 simp[VC,GQ,this]
@[simp] theorem xC   : VC (xs++[a]) (-1)=some a:=by
 have:(-1+((xs.length:Int)+1)).toNat=xs.length:=by omega
 have h:(1:Int)<=(xs.length:Int)+1:=by omega
 simp[VC,GQ,this,h]
theorem iL{α:Type}{xs:List α}{n:Nat}{d:α}(h:xs[n]?=some d):VC xs n=some d:=by have:=(Ui.mp h).1;unfold VC GQ;rw[Uc (by omega),Uc (by omega)];simp[h]
@[simp] theorem uL  : QB (.tup ds) (.int i) g=(match VC ds i with|some d=>.ok d g|none=>.stuck):=rfl
theorem Br(h:xs.length+ys.length<=100000):QD (.tup xs) (.tup ys) g=.ok (.tup (xs++ys)) g:=by unfold QD;dsimp only;rw[Uc (UP (WL h))]
@[simp] theorem oZ   : Yc (xs++[d]) (some (-1)) none=[d]:=by
 have:(-1+((xs.length:Int)+1)).toNat=xs.length:=by omega
 simp[Yc,EB,this]
@[simp] theorem rH  : Yc ([]:List α) a b=[]:=by simp[Yc]
@[simp] theorem mQ   : Yc (d::xs) none (some 1)=[d]:=by
 have:min 1 (xs.length+1)=1:=by omega
 simp[Yc,EB,this]
@[simp] theorem pA  : Yc xs (some 1) none=xs.tail:=by
 cases xs with
 |nil=>simp|cons a r=>
  have:min 1 (r.length+1)=1:=by omega
  simp[Yc,EB,this]
@[simp] theorem pB  : Yc xs none (some (-1))=xs.dropLast:=by
 have:(-1+(xs.length:Int)).toNat=xs.length-1:=by omega
 simp[Yc,EB,this,TC]
theorem LP(n:Nat):Yc xs none (some (n:Int))=xs.take n:=by
 have:¬((n:Int)<0):=by omega
 simp[Yc,EB,this,List.take_eq_take_iff]
theorem EU(n:Nat):Yc xs (some (n:Int)) none=xs.drop n:=by
 have:¬((n:Int)<0):=by omega
 simp only[Yc,EB,this,Ry,UR];rw[Tf (by rw[TB];omega)];by_cases h:n<=xs.length
 ·rw[T0 h]
 ·rw[WH (by omega),List.drop_length,WN (by omega)]
def fc(b:Bool):Str:=if b then Str.ofString "r" else Str.ofString "l"
theorem vU:(Str.ofString "l"==Str.ofString "r")=false:=by rw[lP,cS];rfl
theorem wN:(Str.ofString "r"==Str.ofString "l")=false:=by rw[lP,cS];rfl
@[simp] theorem M7:(fc b==Str.ofString "r")=b:=by cases b;exact vU;exact JM _
@[simp] theorem uM:(fc b==Str.ofString "l")=!b:=by cases b;exact JM _;exact wN
@[simp] theorem pD:(fc a==fc b)=(a==b):=by cases b;rw[show fc false=Str.ofString "l" from rfl,uM];cases a<;>rfl;rw[show fc true=Str.ofString "r" from rfl,M7];cases a<;>rfl
theorem lrS.fc(h:lrS f):∃b,f=fc b:=by
 rcases h with rfl|rfl
 ·exact⟨false,rfl⟩
 ·exact⟨true,rfl⟩
theorem fc.lr(b:Bool):lrS (fc b):=by cases b;exact .inl rfl;exact .inr rfl
@[simp] theorem vV:Str.ofString "r"=fc true:=rfl
@[simp] theorem vW:Str.ofString "l"=fc false:=rfl
def Jf(st:Int)(b:Bool)(L R:List D):D:=.tup [.int st,.str (fc b),.tup L,.tup R]
def pE(b:Bool)(L R:List D):Option D:=if b then R.head? else L.getLast?
def iM(b:Bool)(L:List D):List D:=if b then L else L.dropLast
def iN(b:Bool)(R:List D):List D:=if b then R.tail else R
theorem BV    : YT [Jf st b L R] g=.ok ((pE b L R).getD .non) g:=by
 cases b
 ·rcases RG L with rfl|⟨L,d,rfl⟩<;>simp[YT,V7,Jf,pE]
 ·cases R<;>simp[YT,V7,Jf,pE]
theorem M8(hz:L.length+R.length+X.length<=10000):Yo [Jf st b L R,.tup X] g=.ok (if b then Jf st b L (X++R.tail) else Jf st b (L.dropLast++X) R) g:=by
 cases b
 ·simp[Yo,JI,Jf,Br (g:=g) (xs:=L.dropLast) (ys:=X) (by simp;omega)]
 ·simp[Yo,JI,Jf,Br (g:=g) (xs:=X) (ys:=R.tail) (by simp;omega)]
def Gn(b:Bool)(L R:List D)(s:Int)(w:Bool)(t:D):D:=if w then Jf s w (iM b L++[t]) (iN b R) else Jf s w (iM b L) (t::iN b R)
theorem PR(hz:L.length+R.length<=1000):Ks [Jf st b L R,.int s,.str (fc w),t] g=.ok (Gn b L R s w t) g:=by have e:=M8 (st:=st) (b:=b) (L:=L) (R:=R) (X:=[]) (g:=g) (by simp;omega);have a1:QD (.tup (iM b L)) (.tup [t]) g=.ok (.tup (iM b L++[t])) g:=Br (by unfold iM;split<;>simp<;>omega);have a2:QD (.tup [t]) (.tup (iN b R)) g=.ok (.tup (t::iN b R)) g:=Br (by unfold iN;split<;>simp<;>omega);unfold iM at a1;unfold iN at a2;cases b<;>cases w<;>simp[Jf]at e a1 a2<;>simp[Ks,IU,Jf,e,Gn,a1,a2,iM,iN]
@[simp] theorem rJ  : QF (Xd [Qn i,Qn j,Qn k]) a σ g=(match a σ g with | .ok (.tup [x,y,z]) g'=>.nx (((σ.set i (some x)).set j (some y)).set k (some z)) g' | .ok _ _=>.stuck | .raise e g'=>.raise e σ g' | .stuck=>.stuck):=by
 unfold QF;cases a σ g with
 |ok d g'=>cases d with
  |tup ds=>match ds with
   |[]=>rfl|[_]=>rfl|[_,_]=>rfl|[_,_,_]=>rfl|_::_::_::_::_=>rfl
  |_=>rfl
 |_=>rfl
@[simp] theorem rK  : QF (Xd [Qn i,Qn j,Qn k,Qn l]) a σ g=(match a σ g with | .ok (.tup [x,y,z,w]) g'=>.nx ((((σ.set i (some x)).set j (some y)).set k (some z)).set l (some w)) g' | .ok _ _=>.stuck | .raise e g'=>.raise e σ g' | .stuck=>.stuck):=by
 unfold QF;cases a σ g with
 |ok d g'=>cases d with
  |tup ds=>match ds with
   |[]=>rfl|[_]=>rfl|[_,_]=>rfl|[_,_,_]=>rfl|[_,_,_,_]=>rfl|_::_::_::_::_::_=>rfl
  |_=>rfl
 |_=>rfl
@[simp] theorem wO:(Str.ofString "one"==Str.ofString "many")=false:=D4
@[simp] theorem wP:(Str.ofString "many"==Str.ofString "one")=false:=Hi
@[simp] theorem wQ{s:Str}:(s==s)=true:=JM s
@[simp] theorem uN:isNon (Qy t)=false:=by cases t<;>rfl
def Ap(b:Bool)(L R:List Tk):Option Tk:=if b then R.head? else L.getLast?
theorem PU  : pE b (L.map Qy) (R.map Qy)=(Ap b L R).map Qy:=by cases b<;>simp[pE,Ap]
theorem GD{b:Bool}{L R:List Tk}{t:Tk}{P:Tk->Prop}(h:Ap b L R=some t)(hL:∀t∈L,P t)(hR:∀t∈R,P t):P t:=by
 cases b
 ·exact hL t (T9 h)
 ·exact hR t (List.mem_of_head? h)
structure Tbl(rows:List (List D))(n m:Nat):Prop where
 n0:0<n
 m0:0<m
 len:rows.length=n
 row:∀r∈rows,r.length=m
 ent:∀r∈rows,∀d∈r,entOk d n m
abbrev En:=Option (Int×Bool×Int)
def fP:En->D
 |none=>.non|some (a,w,s)=>.tup [.int a,.str (fc w),.int s]
def A3:D->En
 |.tup [.int a,.str w,.int s]=>some (a,w==Str.ofString "r",s)|_=>none
def en(rows:List (List D))(st s:Int):En:=A3 (((rows[st.toNat]?.getD [])[s.toNat]?).getD .non)
theorem fQ(h:entOk d n m):d=fP (A3 d)/\∀a w s,A3 d=some (a,w,s)->(0<=a/\a<m)/\0<=s/\s<n:=by
 rcases h with rfl|⟨i,j,w,rfl,h1,h2,h3,h4,h5⟩
 ·exact⟨rfl,λa w s h=>by cases h⟩
 ·refine⟨?_,λa w s h=>by cases h;exact⟨⟨h1,h2⟩,h3,h4⟩⟩;rcases h5 with rfl|rfl
  ·rw[<-lP];show _=fP (some (i,(fc false==Str.ofString "r"),j));rw[M7];rfl
  ·rw[<-cS];show _=fP (some (i,(fc true==Str.ofString "r"),j));rw[M7];rfl
theorem Tbl.at'{rows:List (List D)}{n m:Nat}(h:Tbl rows n m){st s:Int}(h0:0<=st)(h1:st<n)(h2:0<=s)(h3:s<m):
  ∃r,rows[st.toNat]?=some r/\r[s.toNat]?=some (fP (en rows st s))/\∀a w s',en rows st s=some (a,w,s')->(0<=a/\a<m)/\0<=s'/\s'<n:=by
 have hl:=h.len;have e1:rows[st.toNat]?=some rows[st.toNat]:=Uj (by omega);have hr:=UK (l:=rows) (n:=st.toNat) (by omega);have hm:=h.row _ hr;have e2:(rows[st.toNat])[s.toNat]?=some ((rows[st.toNat])[s.toNat]):=Uj (by omega);obtain⟨q1,q2⟩:=fQ (h.ent _ hr _ (UK (l:=rows[st.toNat]) (n:=s.toNat) (by omega)));have e3:en rows st s=A3 ((rows[st.toNat])[s.toNat]):=by unfold en;rw[e1,WE,e2,WE]
 exact⟨_,e1,by rw[e3,<-q1];exact e2,by rw[e3];exact q2⟩
theorem Tbl.prog{rows:List (List D)}{n m:Nat}(h:Tbl rows n m){st s:Int}(h0:0<=st)(h1:st<n)(h2:0<=s)(h3:s<m):∃r,VC (rows.map D.tup) st=some (.tup r)/\VC r s=some (fP (en rows st s)):=by
 obtain⟨r,e1,e2,_⟩:=h.at' h0 h1 h2 h3;have a1:((st.toNat:Nat):Int)=st:=by omega
 have a2:((s.toNat:Nat):Int)=s:=by omega
 refine⟨r,?_,?_⟩
 ·rw[<-a1];exact iL (by rw[UA,e1];rfl)
 ·rw[<-a2];exact iL e2
def cT(rows:List (List D))(st:Int)(b:Bool)(L R:List Tk)(s:Int):Option D:=(en rows st s).map λe=>Gn b (L.map Qy) (R.map Qy) e.2.2 e.2.1 (Qy (.one e.1))
def VM(rows:List (List D))(st:Int)(b:Bool)(L R:List Tk):Option D:=match Ap b L R with
 |none=>cT rows st b L R 0|some (.one s)=>cT rows st b L R s|some (.many _ _)=>none
def Pr(o:Option D)(g:G):Res D:=match o with
 |some d=>.ok d g|none=>.raise (8,none) g
@[simp] theorem rL:isNon (fP e)=e.isNone:=by cases e<;>rfl
section
variable{rows:List (List D)}{n m K:Nat}{st:Int}{b:Bool}{L R:List Tk}{g:G}
theorem JN{M:Nat}(hM:g[M]?=some (ZK rows))(hT:Tbl rows n m)(h0:0<=st)(h1:st<n)(hL:∀t∈L,TkK K m t)(hR:∀t∈R,TkK K m t)(hz:L.length+R.length<=1000):
  Y6 [.ref M,Jf st b (L.map Qy) (R.map Qy)] g=Pr (VM rows st b L R) g:=by
 have e1:=BV (st:=st) (b:=b) (L:=L.map Qy) (R:=R.map Qy) (g:=g);rw[PU]at e1;have fin:∀{s:Int}{x:D},(x=.non/\s=0\/x=Qy (.one s))->0<=s->s<m->YT [Jf st b (L.map Qy) (R.map Qy)] g=.ok x g->Y6 [.ref M,Jf st b (L.map Qy) (R.map Qy)] g=Pr (cT rows st b L R s) g:=λ{s x} hx h2 h3 e=>by
  obtain⟨r,k1,k2⟩:=hT.prog h0 h1 h2 h3;have hb:KN [vR M,some (Jf st b (L.map Qy) (R.map Qy)),none,none] g=_:=Qr [vR M,some (Jf st b (L.map Qy) (R.map Qy)),some x,none] g (QK ((Qw (ds:=[Jf st b (L.map Qy) (R.map Qy)]) (g':=g) rfl).trans e)) (Qr _ g (Jh g (by rcases hx with⟨rfl,rfl⟩|rfl<;>simp[isNon,Qy]) rfl) (Qr _ g (QK (d:=fP (en rows st s)) (Ql (x:=.tup r) (y:=.int s) (g1:=g) (g2:=g) (Ql (x:=.tup (rows.map .tup)) (y:=.int st) (g1:=g) (g2:=g) (KY rfl hM) rfl (by simp[k1])) (by rcases hx with⟨rfl,rfl⟩|rfl<;>simp[isNon,Qy]) (by simp[k2]))) rfl));unfold cT;cases he:en rows st s with
  |none=>rw[he]at hb;exact Yi rfl (hb.trans (Ak (Fe g rfl (Hg _ _ _ _))))|some y=>obtain⟨a,w,z⟩:=y;rw[he]at hb;exact Zb rfl (hb.trans (Qr _ g (Jh g rfl rfl) (ZP ((Qw (ds:=[Jf st b (L.map Qy) (R.map Qy),.int z,.str (fc w),Qy (.one a)]) (g':=g) rfl).trans (PR (by simp;omega))))))
 unfold VM;cases ha:Ap b L R with
 |none=>rw[ha]at e1;exact fin (.inl ⟨rfl,rfl⟩) (by omega) (by have:=hT.m0;omega) e1|some t=>
  rw[ha]at e1;have ht:=GD ha hL hR;cases t with
  |many w k=>simp only[Jf]at e1 ⊢;simp[Y6,KN,e1,isNon,Pr,Qy]|one s=>exact fin (.inr rfl) ht.1 ht.2 e1
end
def ones(w:List Int):List D:=w.map λs=>Qy (.one s)
theorem Aq(h:it σ g=.ok (.tup (w.map .int)) g)(hz:w.length<=1000):Qv ZT (ZQ (QQ it) 1 [] (Qn 0) Yb (Qt QC (Qb (Qq (.str "one")) (Qb (Qa 0) Qi)))) σ g=.ok (.tup (ones w)) (g++[.lst (ones w)]):=by
 obtain⟨xs,σ',g3,c1,c2,c3,_⟩:=YH (src:=⟨λ_ i=>some (w.map D.int)[i]?,(w.map D.int).length⟩) (t:=Qn 0) (c:=Yb) (e:=Qt QC (Qb (Qq (.str "one")) (Qb (Qa 0) Qi))) (n:=w.length)
  (λi σ' g4 acc=>acc=(ones w).take i/\g4=g/\∃u,σ'=[u]) (λi σ' g4 acc hi hQ=>by obtain⟨q1,q2,u,q3⟩:=hQ;subst q2 q3;refine⟨.int w[i],[vI (w[i])],g4,by simp[hi],rfl,.inl ⟨Qy (.one w[i]),g4,rfl,rfl,?_,rfl,_,rfl⟩⟩;rw[q1,Uq (by unfold ones;simpa using hi)];simp[ones]) (λσ g1 acc _=>by simp) ((w.map D.int).length+1) 0 [none] g [] (by simp) (by omega) ⟨rfl,rfl,none,rfl⟩
 subst c3;rw[Tf (by simp[ones])]at c2;subst c2;refine ZC (JC (n:=1) (cap:=[]) (σ0:=[none]) (g1:=g3) (src:=⟨λ_ i=>some (w.map D.int)[i]?,(w.map D.int).length⟩) (by unfold QQ;rw[h];rfl) (by show(w.map D.int).length<=SZ;rw[Ua];exact UP (Jr hz)) rfl c1) ?_;unfold ZT;dsimp only;rw[Qp]
theorem Ho(hz:w.length<=1000):Fx [.tup (w.map .int)] g=.ok (.tup (ones w)) (g++[.lst (ones w)]):=Zb rfl (ZP (Aq (it:=Qa 0) (σ:=[vT (w.map .int)]) rfl hz))
theorem Ii:Xi [Jf st b (L.map Qy) (R.map Qy)] g=(match Ap b L R with|some (.many w k)=>.ok (Qy (.many w k)) g|_=>.raise (8,none) g):=by
 have e1:=BV (st:=st) (b:=b) (L:=L.map Qy) (R:=R.map Qy) (g:=g);rw[PU]at e1;cases ha:Ap b L R with
 |none=>rw[ha]at e1;simp[Xi,KM,e1,isNon]|some t=>rw[ha]at e1;cases t<;>simp[Xi,KM,e1,isNon,Qy]
theorem Keeps.new(k:Keeps [] g0 g)(h:g0.length<=l):Keeps [] g0 (g.set l o):=⟨by rw[UH];exact k.len,λi u _ e=>by have:=Zf e;rw[Ul (by omega)];exact k.a e⟩
def pn(p:Int)(w:Bool):Int:=if w then p+1 else p-1
def Hq(rows:List (List D)):Nat->List Int->Int->Int->Option (List Int×Int×Bool)
 |0,_,_,_=>none|f+1,c,p,cur=>match en rows cur (c[p.toNat]?.getD 0) with
  |none=>none|some (a,w,s)=>if 0<=pn p w/\pn p w<c.length then Hq rows f (c.set p.toNat a) (pn p w) s else some (c.set p.toNat a,s,w)
def D7(st:Int)(b:Bool):Option (List Int×Int×Bool)->Option (List Int)
 |some (c,s,w)=>if (w==b&&s==st)=true then some c else none
 |none=>none
def iD:Option (List Int)->D
 |some c=>.tup (c.map .int)|none=>.non
def OA(b:Bool)(w:List Int):Int:=if b then 0 else (w.length:Int) - 1
theorem wR{g:G}{l:Nat}{c:List Int}{p:Int}(hl:g[l]?=vL (c.map .int))(h0:0<=p)(h1:p<c.length):QB (.ref l) (.int p) g=.ok (.int (c[p.toNat]?.getD 0)) g:=Ef hl h0 (by rw[UA,Uj (show p.toNat<c.length by omega)];rfl)
theorem uO{g:G}{l:Nat}{c:List Int}{p a:Int}{σ:S3}{o i v:ME}(hl:g[l]?=vL (c.map .int))(h0:0<=p)(h1:p<c.length)(hv:v σ g=.ok (.int a) g)(ho:o σ g=.ok (.ref l) g)(hi:i σ g=.ok (.int p) g):YF o i v σ g=.nx σ (g.set l (.lst ((c.set p.toNat a).map .int))):=by unfold YF;rw[hv];dsimp only;rw[ho];dsimp only;rw[hi];dsimp only;rw[hl];dsimp only;unfold GQ;rw[Uc h0,Uc (by rw[Ua];exact h1)];dsimp only;rw[List.map_set]
section
variable{rows:List (List D)}{n m K:Nat}{st:Int}{b:Bool}{g0:G}
theorem LQ{m:Nat}{c:List Int}{p:Nat}{a:Int}(h:∀x∈c,0<=x/\x<(m:Int))(ha:0<=a/\a<(m:Int)):∀x∈c.set p a,0<=x/\x<(m:Int):=λx hx=>by
 rcases TH hx with z|z
 ·exact h x z
 ·rw[z];exact ha
theorem D8{m:Nat}{c:List Int}{p:Int}(h:∀x∈c,0<=x/\x<(m:Int))(h0:0<=p)(h1:p<c.length):0<=c[p.toNat]?.getD 0/\c[p.toNat]?.getD 0<(m:Int):=by have e:c[p.toNat]?=some c[p.toNat]:=Uj (by omega);rw[e];exact h _ (UK _)
abbrev fR(M:Nat)(st:Int)(b:Bool)(W:Option D)(l:Nat)(p s:Int)(x y:Option D):S3:=[vR M,vI st,some (.str (fc b)),W,vR l,vI p,vI s,x,y]
theorem PV{M l:Nat}{W:Option D}(hM:g0[M]?=some (ZK rows))(hT:Tbl rows n m)(hl0:g0.length<=l):∀(f i:Nat)(c:List Int)(p cur:Int)(x7 x8:Option D)(g:G),i+f=1000->Keeps [] g0 g->g[l]?=vL (c.map .int)->(∀x∈c,0<=x/\x<(m:Int))->0<=cur->cur<n->0<=p->p<c.length->∃g',Keeps [] g0 g'/\(JH (ZH 0 1000) (Qn 7) ZB (f+1) i (fR M st b W l p cur x7 x8) g=.rt (iD (D7 st b (Hq rows f c p cur))) g'\/(Hq rows f c p cur=none/\∃σ',JH (ZH 0 1000) (Qn 7) ZB (f+1) i (fR M st b W l p cur x7 x8) g=.nx σ' g'))
 |0,i,c,p,cur,x7,x8,g,hf,k,gl,hc,h0,h1,h2,h3=>by
  have:¬i<1000:=by omega
  exact⟨g,k,.inr ⟨rfl,_,by unfold JH;simp only[ZH,this,Ry];rfl⟩⟩
 |f+1,i,c,p,cur,x7,x8,g,hf,k,gl,hc,h0,h1,h2,h3=>by
  have hi:i<1000:=by omega
  obtain⟨y0,y1⟩:=D8 hc h2 h3;obtain⟨r,k1,k2⟩:=hT.prog h0 h1 y0 y1;obtain⟨_,_,_,bd⟩:=hT.at' h0 h1 y0 y1;have k3:=wR gl h2 h3;unfold JH Hq;simp only[ZH,hi,R0];generalize c[p.toNat]?.getD 0=y at k2 k3 bd;have hA:∀i σ,σ[i]?=some (some (.ref M))->Zd [11,12] "table" (Qa i) σ g=.ok (.tup (rows.map .tup)) g:=λi σ h=>KY h (k.a hM);cases he:en rows cur y with
  |none =>rw[he]at k2;exact⟨g,k,.inl (by simp[Qn,ZB,hA,k1,k2,k3,fP,isNon,D7,iD])⟩|some e=>
   obtain⟨a,w,s⟩:=e;obtain⟨ba,bs⟩:=bd _ _ _ he;rw[he]at k2;have hS:∀σ,σ[4]?=some (some (.ref l))->σ[5]?=some (some (.int p))->σ[8]?=some (some (.tup [.int a,.str (fc w),.int s]))->YF (Qa 4) (Qa 5) (Qe QB (Qa 8) (mI 0)) σ g=.nx σ (g.set l (.lst ((c.set p.toNat a).map .int))):=λσ q1 q2 q3=>uO gl h2 h3 (by simp[q3]) (by simp[q1]) (by simp[q2]);have kn:Keeps [] g0 (g.set l (.lst ((c.set p.toNat a).map .int))):=k.new hl0;have gn:(g.set l (.lst ((c.set p.toNat a).map .int)))[l]?=vL ((c.set p.toNat a).map .int):=Zt gl;generalize g.set l (.lst ((c.set p.toNat a).map .int))=g2 at hS kn gn;have hlen:Zr (.ref l) g2=.ok (.int c.length) g2:=by simp[Zr,gn]
   have htup:ZT (.ref l) g2=.ok (.tup ((c.set p.toNat a).map .int)) g2:=by simp[ZT,gn]
   have hpw:(if w then p+1 else p-1)=pn p w:=rfl;have hb:=Va (.int (pn p w)) c.length g2 .int rfl;have key:∀R,(if 0<=pn p w/\pn p w<c.length then Out.nx (fR M st b W l (pn p w) s (vI (0+i)) (vT [.int a,.str (fc w),.int s])) g2 else .rt (iD (D7 st b (some (c.set p.toNat a,s,w)))) g2)=R->ZB (fR M st b W l p cur (vI (0+i)) x8) g=R:=λR hR=>by
    subst hR;unfold ZB;refine Qr _ g (QK (d:=.tup [.int a,.str (fc w),.int s]) (Ql (x:=.tup r) (y:=.int y) (g1:=g) (g2:=g) (Ql (x:=.tup (rows.map .tup)) (y:=.int cur) (g1:=g) (g2:=g) (hA 0 _ rfl) rfl (by simp[k1])) (Ql rfl rfl k3) (by simp[k2,fP]))) ?_;refine Qr _ g (Jh g rfl rfl) (Qr _ g2 (hS _ rfl rfl rfl) (Qr _ g2 (QK (d:=.int (pn p w)) (g':=g2) ?_) (Qr _ g2 rfl ?_)))
    ·unfold X5;rw[Q3 (Ql (x:=.str (fc w)) (y:=.str "r") (g1:=g2) (g2:=g2) rfl rfl (Ox _ _ _)),Res.bind_ok,M7];cases w<;>rfl
    have ht:=Q3 ((Qw (σ:=fR M st b W l (pn p w) s (vI (0+i)) (vT [.int a,.str (fc w),.int s])) (a:=Qb (Qa 5) (Qb (Qv Zr (Qa 4)) Qi)) (ds:=[.int (pn p w),.int c.length]) (g:=g2) (g':=g2) (Qx rfl (Qx (ZC rfl hlen) rfl))).trans hb);by_cases hin:0<=pn p w/\pn p w<c.length
    ·rw[Uc hin];rw[show XG (.int (pn p w)) c.length=true from Uu hin]at ht;exact Jh g2 (FH ht) rfl
    ·rw[Uh hin];rw[show XG (.int (pn p w)) c.length=false from Ur hin]at ht;refine Fe g2 (Tp (Res.bind · λb g=>.ok (!b) g) ht) (ZP ?_);have ha:Jj (Qo (Qe Z5 (Qe QB (Qa 8) (mI 1)) (Qa 2))) (Qo (Qe Z5 (Qa 6) (Qa 1))) (fR M st b W l (pn p w) s (vI (0+i)) (vT [.int a,.str (fc w),.int s])) g2=.ok (w==b&&s==st) g2:=by unfold Jj;rw[Q3 (Ql (x:=.str (fc w)) (y:=.str (fc b)) (g1:=g2) (g2:=g2) rfl rfl (Ox _ _ _)),Res.bind_ok,pD];cases w==b<;>rfl
     unfold X5;refine(Tp (Res.bind · _) ha).trans ?_;show _=Res.ok (iD (if (w==b&&s==st)=true then some (c.set p.toNat a) else none)) g2;rw[Res.bind_ok];cases w==b&&s==st
     ·rfl
     ·exact ZC rfl htup
   dsimp only[Qn];by_cases hin:0<=pn p w/\pn p w<c.length
   ·have hb1:=key _ rfl;rw[Uc hin]at hb1 ⊢;obtain⟨g',q1,q2⟩:=PV hM hT hl0 f (i+1) (c.set p.toNat a) (pn p w) s (some (.int (0+i))) (some (.tup [.int a,.str (fc w),.int s])) g2 (by omega) kn gn (LQ hc ba) bs.1 bs.2 hin.1 (by rw[UH];exact hin.2);refine⟨g',q1,?_⟩;simp only[List.set_cons_succ,List.set_cons_zero];rw[hb1];exact q2
   ·have hb1:=key _ rfl;rw[Uh hin]at hb1 ⊢;refine⟨g2,kn,.inl ?_⟩;simp only[List.set_cons_succ,List.set_cons_zero];rw[hb1]
theorem Hr(hM:g0[M]?=some (ZK rows))(hT:Tbl rows n m)(h0:0<=st)(h1:st<n)(hw:w≠[])(hc:∀x∈w,0<=x/\x<(m:Int)):
  ∃g',Keeps [] g0 g'/\V8 [.ref M,.int st,.str (fc b),.tup (w.map .int)] g0=.ok (iD (D7 st b (Hq rows 1000 w (OA b w) st))) g':=by
 have hl:0<w.length:=Tq.mpr hw;have kn:Keeps [] g0 (g0++[.lst (w.map .int)]):=.push _;obtain⟨g',q1,q2⟩:=PV (st:=st) (b:=b) (W:=some (.tup (w.map .int))) hM hT (Um _) 1000 0 w (OA b w) st none none _ rfl kn (Qp _) hc h0 h1 (by unfold OA;split<;>omega) (by unfold OA;split<;>omega);have hlen:Zr (.ref g0.length) (g0++[.lst (w.map .int)])=.ok (.int w.length) (g0++[.lst (w.map .int)]):=by unfold Zr;dsimp only;rw[Qp];simp
 have hfor:Y1 (Q4 (mI 1000)) (Qn 7) ZB (fR M st b (vT (w.map .int)) g0.length (OA b w) st none none) (g0++[.lst (w.map .int)])=JH (ZH 0 1000) (Qn 7) ZB 1001 0 (fR M st b (vT (w.map .int)) g0.length (OA b w) st none none) (g0++[.lst (w.map .int)]):=Yv (YI (n:=1000) rfl (Xr (by omega)));have hpre:∀R,Qs (Y1 (Q4 (mI 1000)) (Qn 7) ZB) (Q5 (Qq .non)) (fR M st b (vT (w.map .int)) g0.length (OA b w) st none none) (g0++[.lst (w.map .int)])=R->CL [vR M,vI st,some (.str (fc b)),vT (w.map .int),none,none,none,none,none] g0=R:=λR hR=>by refine Qr _ (g0++[.lst (w.map .int)]) rfl (Qr [vR M,vI st,some (.str (fc b)),vT (w.map .int),vR g0.length,vI (OA b w),none,none,none] (g0++[.lst (w.map .int)]) ?_ (Qr _ (g0++[.lst (w.map .int)]) rfl hR));cases b<;>simp[OA,hlen]
 refine⟨g',q1,Zb rfl (hpre _ ?_)⟩;rcases q2 with q2|⟨q3,σ',q2⟩
 ·exact BR (hfor.trans q2)
 ·rw[q3];exact Qr σ' g' (hfor.trans q2) rfl
def BW(rows:List (List D))(st:Int)(b:Bool)(L R:List Tk):Option D:=match Ap b L R with
 |some (.many w k)=>(D7 st b (Hq rows 1000 w (OA b w) st)).map λc=>Gn b (L.map Qy) (R.map Qy) st b (Qy (.many c k))
 |_=>none
theorem X2(hM:g0[M]?=some (ZK rows))(hT:Tbl rows n m)(h0:0<=st)(h1:st<n)(hL:∀t∈L,TkK K m t)(hR:∀t∈R,TkK K m t)(hz:L.length+R.length<=1000):
  ∃g',Keeps [] g0 g'/\YN [.ref M,Jf st b (L.map Qy) (R.map Qy)] g0=Pr (BW rows st b L R) g':=by
 have e1:=Ii (st:=st) (b:=b) (L:=L) (R:=R) (g:=g0);unfold BW;cases ha:Ap b L R with
 |none=>rw[ha]at e1;exact⟨g0,.refl,by simp[YN,Vq,e1,Pr]⟩|some t=>
  have ht:=GD ha hL hR;rw[ha]at e1;cases t with
  |one s=>exact⟨g0,.refl,by simp[YN,Vq,e1,Pr]⟩|many w k =>obtain⟨g',q1,q2⟩:=Hr (b:=b) hM hT h0 h1 ht.1 ht.2.1;have G:=λt=>PR (st:=st) (s:=st) (b:=b) (w:=b) (L:=L.map Qy) (R:=R.map Qy) (t:=t) (g:=g') (by simp;omega);simp only[Jf]at e1 G ⊢;refine⟨g',q1,?_⟩;cases ho:D7 st b (Hq rows 1000 w (OA b w) st)<;>rw[ho]at q2<;>simp[iD]at q2<;>simp[YN,Vq,e1,Pr,Qy,q2,isNon,G]
end
def pq:Nat->D->Bool
 |0,_=>false|f+1,d=>match d with
  |.int _=>true|.str _=>true|.tup ds=>decide (ds.length<=100000)&&ds.all (pq f)|_=>false
theorem iO(g:G)(k:Nat):∀(f:Nat)(d:D),pq f d=true->Vk g (f+k) d d=some true
 |0,_,h=>absurd h Ue|f+1,d,h=>by
  rw[show f+1+k=f+k+1 by omega];cases d with
  |int i=>show some (i==i)=some true;rw[RK]|str s=>show some (s==s)=some true;rw[RK]|tup ds=>
   have h':(decide (ds.length<=100000)&&ds.all (pq f))=true:=h;rw[UD]at h';have:∀es:List D,es.all (pq f)=true->Jk (Vk g (f+k)) es es=some true:=λes=>by
    induction es with
    |nil=>exact λ_=>rfl
    |cons x xs ih =>intro hx;rw[T5,UD]at hx;unfold Jk;rw[iO g k f x hx.1,ih hx.2];rfl
   exact this ds h'.2
  |_=>exact absurd h Ue
theorem BX(hz:ds.length<=100000)(h:∀x∈ds,pq f x=true):pq (f+1) (.tup ds)=true:=by show(decide (ds.length<=100000)&&ds.all (pq f))=true;rw[Uu hz,Uv.mpr h];rfl
theorem lS(f:Nat){w:List Int}(hz:w.length<=100000):pq (f+2) (.tup (w.map .int))=true:=BX (by rw[Ua];exact hz) λd hd=>by obtain⟨i,_,rfl⟩:=UQ.mp hd;rfl
theorem fS(hz:w.length<=1000):pq 3 (Qy (.many w k))=true:=BX (by simp) λx hx=>by
 rcases Ud.mp hx with rfl|hx
 ·rfl
 rcases Ud.mp hx with rfl|hx
 ·exact lS 0 (by omega)
 ·rw[Uf.mp hx];rfl
theorem pF(h:TkK K m t):pq 3 (Qy t)=true:=by
 cases t with
 |one s=>rfl|many w k=>exact fS (by have:=h.2.2.2.1;omega)
theorem LR{m K:Nat}{T:List Tk}(h:∀t∈T,TkK K m t):∀x∈T.map Qy,pq 3 x=true:=λx hx=>by obtain⟨t,ht,rfl⟩:=UQ.mp hx;exact pF (h t ht)
def isO:List Tk->List Int->Bool
 |[],[]=>true|.one s::X,z::w=>(s==z)&&isO X w|_,_=>false
theorem OB(g:G)(f:Nat):∀(X:List Tk)(w:List Int),Jk (Vk g (f+2)) (X.map Qy) (ones w)=some (isO X w)
 |[],[]=>rfl|[],_::_=>rfl|.one s::X,z::w=>by have ih:=OB g f X w;show Jk (Vk g (f+2)) (Qy (.one s)::X.map Qy) (Qy (.one z)::ones w)=some ((s==z)&&isO X w);unfold Jk;rw[ih];simp[Qy,Vk,Jk]
 |.many v k::X,z::w=>by have ih:=OB g f X w;show Jk (Vk g (f+2)) (Qy (.many v k)::X.map Qy) (Qy (.one z)::ones w)=some false;unfold Jk;rw[ih];simp[Qy,Vk,Jk]
 |.one _::_,[]=>rfl|.many _ _::_,[]=>rfl
theorem LS   : CI (.tup (X.map Qy)) (.tup (ones w)) g=.ok (.bl (!isO X w)) g:=by unfold CI;rw[show Vk g 8 (.tup (X.map Qy)) (.tup (ones w))=Jk (Vk g 7) (X.map Qy) (ones w) from rfl,OB g 5]
theorem PX(a n:Nat):Yc xs (some (a:Int)) (some ((a:Int)+n))=(xs.drop a).take n:=by
 have h1:¬((a:Int)<0):=by omega
 have h2:¬((a:Int)+n<0):=by omega
 have h3:((a:Int)+n).toNat=a+n:=by omega
 simp only[Yc,EB,h1,h2,Ry,UR,h3];by_cases h:a<=xs.length
 ·rw[T0 h];by_cases h':a+n<=xs.length
  ·rw[T0 h',Nat.add_sub_cancel_left]
  ·rw[WH (by omega),Tf (by rw[TB];omega),Tf (by rw[TB];omega)]
 ·rw[WH (show xs.length<=a by omega),List.drop_length,WN (show xs.length<=a by omega)];simp
section
variable{m K:Nat}{T:List Tk}{p:Nat}{w:List Int}{k:Int}
@[simp] theorem uP  : IS (.int i) (.int j) g=.ok (.int (if j<i then j else i)) g:=rfl
@[simp] theorem uQ  : PL (.int i) (.int j) g=.ok (.int (if i<j then j else i)) g:=rfl
theorem IW:Yz [Qy (.many w k)] g=.ok (Qy (.many w (k+1))) g:=by simp[Yz,BO,Qy]
def TOp(K m:Nat)(T:List Tk)(o:Option D):Prop:=∀d,o=some d->∃T':List Tk,d=.tup (T'.map Qy)/\T'.length<=T.length+1/\∀t∈T',TkK (K+1) m t
theorem TOp.none:TOp K m T none:=λd h=>by cases h
theorem Ar(hp:T[p]?=some (.many w k))(hT:∀t∈T,TkK K m t)(hz:T.length<=140):∃o:Option D,(∀g,∃g',Keeps [] g g'/\Zw [.tup (T.map Qy),.int p,.bl true] g=Pr o g')/\TOp K m T o:=by
 have hw:=hT _ (RN hp);have hwl:=hw.2.2.2.1;have hix:VC (T.map Qy) p=some (Qy (.many w k)):=iL (by rw[UA,hp];rfl);have e2:=λg=>Ho (w:=w) (g:=g) (by omega);have hup:TkK (K+1) m (.many w (k+1)):=⟨hw.1,hw.2.1,by have:=hw.2.2.1;omega,hwl,by have:=hw.2.2.2.2;omega⟩;have hcut:Yc (T.map Qy) (some ((p:Int)+1)) (some ((p:Int)+1+w.length))=((T.drop (p+1)).take w.length).map Qy:=by rw[show(p:Int)+1=((p+1:Nat):Int) by omega,PX,<-RQ,<-TR]
 have hc1:Yc (T.map Qy) none (some (p:Int))=(T.take p).map Qy:=by rw[LP,<-TR]
 have hc2:Yc (T.map Qy) (some ((p:Int)+1+w.length)) none=(T.drop (p+1+w.length)).map Qy:=by rw[show(p:Int)+1+w.length=((p+1+w.length:Nat):Int) by omega,EU,<-RQ]
 have h1:(p:Int)<p+1:=by omega
 have h2:¬((p:Int)+1<0):=by omega
 have h3:¬((p:Int)+1+w.length<p+1):=by omega
 have hne:=λg=>LS (X:=(T.drop (p+1)).take w.length) (w:=w) (g:=g);have z1:((T.take p).map Qy).length+((T.drop (p+1+w.length)).map Qy).length<=140:=by simp;omega
 generalize ((T.drop (p+1)).take w.length).map Qy=X at hcut hne;generalize hA:(T.take p).map Qy=A at hc1 z1;generalize hB:(T.drop (p+1+w.length)).map Qy=B at hc2 z1;cases hb:isO ((T.drop (p+1)).take w.length) w with
 |false =>rw[hb]at hne;exact⟨none,λg=>⟨g++[.lst (ones w)],.push _,by simp[Zw,YO,hix,Pr,Qy,h2,e2,hcut,hne]⟩,.none⟩|true=>
  rw[hb]at hne;refine⟨some (.tup (A++Qy (.many w (k+1))::B)),λg=>⟨g++[.lst (ones w)],.push _,?_⟩,λd hd=>?_⟩
  ·have a1:=Br (g:=g++[.lst (ones w)]) (xs:=A) (ys:=[Qy (.many w (k+1))]) (by simp;omega);have a2:=Br (g:=g++[.lst (ones w)]) (xs:=A++[Qy (.many w (k+1))]) (ys:=B) (by simp;omega);have r1:=IW (w:=w) (k:=k) (g:=g++[.lst (ones w)]);simp[Qy]at a1 a2 r1;simp[Zw,YO,hix,Pr,Qy,h1,h2,h3,e2,hcut,hne,hc1,hc2,a1,a2,r1]
  ·cases hd;refine⟨T.take p++.many w (k+1)::T.drop (p+1+w.length),by rw[<-hA,<-hB];simp,by simp;omega,λt ht=>?_⟩;rcases UG.mp ht with z|z
   ·exact(hT t (TM z)).up
   rcases Ud.mp z with rfl|z
   ·exact hup
   ·exact(hT t (RP z)).up
end
section
variable{m K:Nat}{T:List Tk}{p:Nat}{w:List Int}{k:Int}
theorem PY(h0:0<=i)(h1:i<n):ZD [.int i,.int n] g=.ok (.bl true) g:=by rw[Va (.int i) n g .int rfl,show XG (.int i) n=true from Uu ⟨h0,h1⟩]
theorem fU(h:¬(0<=i/\i<n)):ZD [.int i,.int n] g=.ok (.bl false) g:=by rw[Va (.int i) n g .int rfl,show XG (.int i) n=false from Ur h]
theorem OC(T:List Tk)(a:Nat):(∃(p:Nat)(w:List Int)(k:Int),T[p]?=some (.many w k)/\(∀g,Zy [.tup (T.map Qy),.str (fc true),.int a] g=.ok (.int p) g))\/(∀g,Zy [.tup (T.map Qy),.str (fc true),.int a] g=.raise (8,none) g):=by
 by_cases h:a<T.length
 ·have hb':∀g,ZD [.int a,.int T.length] g=.ok (.bl true) g:=λg=>PY (by omega) (by omega);have ht:=Uj (l:=T) (i:=T.length-1-a) (by omega);have hix:VC (T.map Qy) ((T.length-1-a:Nat):Int)=some (Qy T[T.length-1-a]):=iL (by rw[UA,ht];rfl);rw[show((T.length-1-a:Nat):Int)=(T.length:Int) - 1-a by omega]at hix;generalize T[T.length-1-a]=t at ht hix;cases t with
  |one z=>exact .inr λg=>by simp[Zy,Yl,hb',hix,Qy]
  |many w k=>exact .inl ⟨_,w,k,ht,λg=>by rw[show((T.length-1-a:Nat):Int)=(T.length:Int) - 1-a by omega];simp[Zy,Yl,hb',hix,Qy]⟩
 ·have hb':∀g,ZD [.int a,.int T.length] g=.ok (.bl false) g:=λg=>fU (by omega);exact .inr λg=>by simp[Zy,Yl,hb']
end
theorem PZ:(Str.ofString "back"==Str.ofString "draw")=false/\(Str.ofString "back"==Str.ofString "join")=false/\(Str.ofString "back"==Str.ofString "roll")=false/\(Str.ofString "draw"==Str.ofString "back")=false/\(Str.ofString "draw"==Str.ofString "join")=false/\(Str.ofString "draw"==Str.ofString "roll")=false/\(Str.ofString "join"==Str.ofString "back")=false/\(Str.ofString "join"==Str.ofString "draw")=false/\(Str.ofString "join"==Str.ofString "roll")=false/\(Str.ofString "pad"==Str.ofString "trim")=false/\(Str.ofString "pad"==Str.ofString "step")=false/\(Str.ofString "pad"==Str.ofString "over")=false/\(Str.ofString "trim"==Str.ofString "over")=false/\(Str.ofString "draw"==Str.ofString "over")=false/\(Str.ofString "trim"==Str.ofString "step")=false/\(Str.ofString "over"==Str.ofString "step")=false/\(Str.ofString "draw"==Str.ofString "step")=false/\(Str.ofString "roll"==Str.ofString "back")=false/\(Str.ofString "roll"==Str.ofString "draw")=false/\(Str.ofString "roll"==Str.ofString "join")=false/\(Str.ofString "trim"==Str.ofString "pad")=false:=by decide +kernel
@[simp] theorem uR  : GR neg (.str s) (.tup [.str a,.str b]) g=.ok (.bl (if neg=true then !((a==s)||(b==s)) else ((a==s)||(b==s)))) g:=by show Res.ok (D.bl (if neg=true then !((a==s)||((b==s)||false)) else ((a==s)||((b==s)||false)))) g=_;rw[WB]
@[simp] theorem rM  : GR neg (.int i) (.tup [.int 2,.int 3]) g=.ok (.bl (if neg=true then !((2==i)||(3==i)) else ((2==i)||(3==i)))) g:=by show Res.ok (D.bl (if neg=true then !((2==i)||((3==i)||false)) else ((2==i)||((3==i)||false)))) g=_;rw[WB]
@[simp] theorem uS:VU .tuple (.tup ds) g=.ok (.bl true) g:=rfl
theorem As(hT:∀t∈T,TkK K m t)(hz:T.length<=140)(a:Nat):∃o:Option D,(∀g,∃g',Keeps [] g g'/\YQ [.tup (T.map Qy),.str "draw",.str (fc true),.int a] g=Pr o g')/\TOp K m T o:=by
 rcases OC T a with⟨p,w,k,hp,e1⟩|e1
 ·obtain⟨o,b1,b3⟩:=Ar hp hT hz;refine⟨o,λg=>?_,b3⟩;obtain⟨g',k1,q⟩:=b1 g;refine⟨g',k1,?_⟩;cases o<;>simp[Pr]at q<;>simp[YQ,X9,e1,PZ,q,Pr]
 ·exact⟨none,λg=>⟨g,.refl,by simp[YQ,X9,e1,Pr]⟩,.none⟩
def eS(pad:Bool):Str:=if pad then Str.ofString "pad" else Str.ofString "trim"
theorem D9(hm:0<m)(hT:∀t∈T,TkK K m t)(hz:T.length<=140)(pad s:Bool):∃o:Option D,(∀g,ZL [.tup (T.map Qy),.str (eS pad),.str (fc s)] g=Pr o g)/\TOp K m T o:=by
 cases pad
 ·have key:∀(t:Tk)(X:List Tk),(s=true/\T=X++[t]\/s=false/\T=t::X)->∃o:Option D,(∀g,ZL [.tup (T.map Qy),.str (eS false),.str (fc s)] g=Pr o g)/\TOp K m T o:=λt X h=>by
   have hn:∀g,CI (.tup [Qy t]) (.tup [.tup [.str "one",.int 0]]) g=.ok (.bl (!isO [t] [0])) g:=λg=>LS (X:=[t]) (w:=[0]) (g:=g);refine⟨if isO [t] [0] then some (.tup (X.map Qy)) else none,λg=>?_,λd hd=>?_⟩
   ·rcases h with⟨rfl,rfl⟩|⟨rfl,rfl⟩<;>cases hb:isO [t] [0]<;>rw[hb]at hn<;>simp[ZL,JV,eS,PZ,hn,Pr]
   ·split at hd
    ·cases hd;have:∀x∈X,x∈T:=λx hx=>by rcases h with⟨_,rfl⟩|⟨_,rfl⟩<;>simp[hx]
     exact⟨X,rfl,by rcases h with⟨_,rfl⟩|⟨_,rfl⟩<;>simp<;>omega,λt ht=>(hT t (this t ht)).up⟩
    ·cases hd
  have nil:T=[]->∃o:Option D,(∀g,ZL [.tup (T.map Qy),.str (eS false),.str (fc s)] g=Pr o g)/\TOp K m T o:=λh=>by subst h;have n0:∀g,CI (.tup []) (.tup [.tup [.str "one",.int 0]]) g=.ok (.bl true) g:=λg=>rfl;exact⟨none,λg=>by cases s<;>simp[ZL,JV,eS,PZ,Pr,n0],.none⟩
  cases s
  ·cases T with
   |nil=>exact nil rfl|cons t X=>exact key t X (.inr ⟨rfl,rfl⟩)
  ·rcases RG T with h|⟨X,t,h⟩
   ·exact nil h
   ·exact key t X (.inl ⟨rfl,by rw[h];simp⟩)
 ·have a1:∀(g:G) x,QD (.tup (T.map Qy)) (.tup [x]) g=.ok (.tup (T.map Qy++[x])) g:=λg x=>Br (by simp;omega);have a2:∀(g:G) x,QD (.tup [x]) (.tup (T.map Qy)) g=.ok (.tup (x::T.map Qy)) g:=λg x=>Br (by simp;omega);refine⟨some (.tup ((if s then T++[.one 0] else .one 0::T).map Qy)),λg=>?_,λd hd=>?_⟩
  ·cases s<;>simp[ZL,JV,eS,a1,a2,Pr,Qy]
  ·cases hd;refine⟨_,rfl,by cases s<;>simp,λt ht=>?_⟩;cases s<;>simp at ht<;>rcases ht with z|z<;>first|exact(hT t z).up|(rw[z];exact⟨by omega,by omega⟩)
def tp(l r:Nat->Int)(x:Int):Int:=if x<0 then l (-1-x).toNat else r x.toNat
def Ij(b:Bool):Int:=if b then 0 else -1
def put(F:Int->Int)(p a:Int):Int->Int:=λx=>if x=p then a else F x
abbrev Cg:=Int×Int×(Int->Int)
def wS(rows:List (List D))(u v:Cg):Prop:=∃a w,en rows u.1 (u.2.2 u.2.1)=some (a,w,v.1)/\v.2.1=pn u.2.1 w/\v.2.2=put u.2.2 u.2.1 a
inductive Rin(rows:List (List D))(lo hi:Int):Nat->Cg->Cg->Prop where
 |nil (u:Cg):Rin rows lo hi 0 u u
 |cons {n:Nat} {u v w:Cg} (h1:lo<=u.2.1/\u.2.1<hi) (h2:wS rows u v) (h3:Rin rows lo hi n v w):Rin rows lo hi (n+1) u w
def Sg(F:Int->Int)(q:Int)(A:List Int):Prop:=∀i:Nat,i<A.length->F (q+i)=A[i]?.getD 0
theorem aA(h:D7 st b o=some c):o=some (c,st,b):=by
 unfold D7 at h;split at h
 ·split at h
  ·rename_i h2;rw[UD]at h2;cases h;rw[Wp h2.1,Wp h2.2]
  ·cases h
 ·cases h
def tL(b:Bool)(L:List Tk):List Tk:=if b then L else L.dropLast
def tR(b:Bool)(R:List Tk):List Tk:=if b then R.tail else R
theorem P0    : Gn b (L.map Qy) (R.map Qy) s w (Qy t)=Jf s w ((if w then tL b L++[t] else tL b L).map Qy) ((if w then tR b R else t::tR b R).map Qy):=by cases b<;>cases w<;>simp[Gn,iM,iN,tL,tR]
end L3
namespace L3
abbrev HY:=List (Int×Int)
def XI(side:HY)(sg c:Int):HY:=if c<1 then side
 else match side.getLast? with
  |some p=>if p.1=sg then side.dropLast++[(sg,p.2+c)] else side++[(sg,c)]
  |none=>side++[(sg,c)]
def Vm:List (Int×Int)->HY->Int->HY×Int
 |[],side,re=>(side,re)|q::r,side,re=>Vm r (XI (XI side 0 (q.1-re)) q.2 1) (q.1+1)
theorem M9(a:HY)(p:Int×Int):(a++[p]).getLast?=some p:=by simp
theorem aB(a:HY)(p:Int×Int):(a++[p]).dropLast=a:=by simp
theorem FI(side:HY):side=[]\/∃a p,side=a++[p]:=by
 rcases RG side with h|⟨a,p,h⟩
 ·exact .inl h
 ·exact .inr ⟨a,p,by rw[h,List.concat_eq_append]⟩
theorem Hs(h:1<=c):XI [] sg c=[(sg,c)]:=by unfold XI;rw[Uh (by omega)];rfl
theorem LT(h:c<1):XI side sg c=side:=by unfold XI;rw[Uc h]
theorem LU(h:1<=c):XI (a++[(sg,k)]) sg c=a++[(sg,k+c)]:=by unfold XI;rw[Uh (by omega),M9];dsimp only;rw[Uc rfl,aB]
theorem LV(h:1<=c)(hn:p.1≠sg):XI (a++[p]) sg c=a++[p]++[(sg,c)]:=by unfold XI;rw[Uh (by omega),M9];dsimp only;rw[Uh hn]
def LW(here:Int)(M:List (Int×Int)):List (Int×Int):=M.filter λp=>decide (p.1<here)
def EV(here:Int)(M:List (Int×Int)):List (Int×Int):=M.filter λp=>decide (here<=p.1)
def Kv(here:Int)(M:List (Int×Int)):List (Int×Int):=(LW here M).reverse.map λp=>(here-1-p.1,p.2)
def Xt(here:Int)(M:List (Int×Int)):List (Int×Int):=(EV here M).map λp=>(p.1-here,p.2)
def IX(here:Int)(M:List (Int×Int)):HY:=(Vm (Kv here M) [] 0).1
def FJ(here:Int)(M:List (Int×Int)):HY:=(Vm (Xt here M) [] 0).1
open PySem
def JS(p:Int×Int):D:=.tup [.int p.1,.int p.2]
def JY(side:HY):List D:=side.map JS
theorem Ht(a b:HY):JY (a++b)=JY a++JY b:=UB
theorem Na(a:HY):(JY a).length=a.length:=Ua _
theorem Nc(n:Nat):GQ (n+1) (-1)=some n:=by unfold GQ;rw[Uh (by omega),Uc (by omega)];congr 1;omega
theorem P1(h:g[s]?=vL (xs++[d])):QB (.ref s) (.int (-1)) g=.ok d g:=by unfold QB;dsimp only;rw[h];dsimp only;unfold VC;rw[Uo,T3,Nc];simp
theorem OD(hv:v σ g=.ok y g)(ho:o σ g=.ok (.ref s) g)(hi:i σ g=.ok (.int (-1)) g)(h:g[s]?=vL (xs++[d])):YF o i v σ g=.nx σ (g.set s (.lst (xs++[y]))):=by unfold YF;rw[hv];dsimp only;rw[ho];dsimp only;rw[hi];dsimp only;rw[h];dsimp only;rw[Uo,T3,Nc];dsimp only;rw[List.set_append_right _ _ (Um _),WR];rfl
theorem aC{g:G}{s:Nat}{o:GO}(h:g[s]?=some o):g.set s o=g:=by
 refine Ww λi=>?_;by_cases z:s=i
 ·subst z;rw[Zt h,h]
 ·rw[Ul z]
theorem LX(h1:A σ g=.ok true g):Jj A B σ g=B σ g:=by unfold Jj;rw[h1,Res.bind_ok,Uc rfl]
theorem GE(h1:A σ g=.ok false g):Jj A B σ g=.ok false g:=by unfold Jj;rw[h1,Res.bind_ok,Uh Ue]
theorem aD{s:Nat}{side:HY}{sg c:Int}{g:G}(hs:g[s]?=vL (JY side))(hz:side.length<900):X1 [.ref s,.int sg,.int c] g=.ok .non (g.set s (.lst (JY (XI side sg c)))):=by
 by_cases hc:c<1
 ·rw[LT hc,aC hs];refine Zb rfl ?_;show JL [vR s,vI sg,vI c] g=_;unfold JL;have t:Qo (Qe Fd (Qa 2) (mI 1)) [vR s,vI sg,vI c] g=.ok (decide (c<1)) g:=rfl;rw[Uu hc]at t;exact BR (Fe g t rfl)
 ·refine BS (σ:=[vR s,vI sg,vI c]) rfl ?_;show JL [vR s,vI sg,vI c] g=_;unfold JL;have t:Qo (Qe Fd (Qa 2) (mI 1)) [vR s,vI sg,vI c] g=.ok (decide (c<1)) g:=rfl;rw[Ur hc]at t;refine Qr _ g (Jh g t rfl) ?_;have app:Zc (Zm (Qa 0) (Qt QC (Qb (Qa 1) (Qb (Qa 2) Qi)))) [vR s,vI sg,vI c] g=.nx [vR s,vI sg,vI c] (g.set s (.lst (JY side++[JS (sg,c)]))):=J6 rfl hs rfl (Jr (by rw[Na];omega));have t1:Qo (Qe Lx (Qv Zr (Qa 0)) (mI 0)) [vR s,vI sg,vI c] g=.ok (decide ((0:Int)<((JY side).length:Int))) g:=Q3 (Ql (x:=.int (JY side).length) (y:=.int 0) (g1:=g) (g2:=g) (ZC (x:=.ref s) (g1:=g) rfl (by unfold Zr;dsimp only;rw[hs])) rfl rfl);rw[Na]at t1;rcases FI side with rfl|⟨a,p,rfl⟩
  ·rw[Ur (by simp)]at t1;rw[Hs (by omega)];exact Jh g (GE t1) app
  ·rw[Uu (by simp)]at t1;have hs':g[s]?=vL (JY a++[JS p]):=by rw[hs,Ht];rfl
   have t2:Qo (Qe Z5 (Qe QB (Qe QB (Qa 0) (Qv Jy (mI 1))) (mI 0)) (Qa 1)) [vR s,vI sg,vI c] g=.ok (p.1==sg) g:=Q3 (Ql (x:=.int p.1) (y:=.int sg) (g1:=g) (g2:=g) (Ql (x:=JS p) (y:=.int 0) (g1:=g) (g2:=g) (Ql (x:=.ref s) (y:=.int (-1)) (g1:=g) (g2:=g) rfl rfl (P1 hs')) rfl rfl) rfl rfl);by_cases hp:p.1=sg
   ·obtain⟨y,k⟩:=p;have hp:y=sg:=hp;subst hp;rw[LU (by omega),Ht];refine Fe g (by rw[LX t1,t2];simp) (OD ?_ rfl rfl hs');have e:Qe QD (Qe QB (Qe QB (Qa 0) (Qv Jy (mI 1))) (mI 1)) (Qa 2) [vR s,vI y,vI c] g=.ok (.int (k+c)) g:=Ql (x:=.int k) (y:=.int c) (g1:=g) (g2:=g) (Ql (x:=JS (y,k)) (y:=.int 1) (g1:=g) (g2:=g) (Ql (x:=.ref s) (y:=.int (-1)) (g1:=g) (g2:=g) rfl rfl (P1 hs')) rfl rfl) rfl rfl;unfold Qt;rw[Qx (x:=.int y) (xs:=[.int (k+c)]) (g1:=g) (g2:=g) rfl (Qx e rfl),Res.bind_ok];rfl
   ·rw[LV (by omega) hp,Ht (a++[p])];exact Jh g (by rw[LX t1,t2,beq_false_of_ne hp]) app
theorem Hu(side:HY)(sg c:Int):(XI side sg c).length<=side.length+1:=by
 by_cases hc:c<1
 ·rw[LT hc];omega
 ·rcases FI side with rfl|⟨a,p,rfl⟩
  ·rw[Hs (by omega)];simp
  ·by_cases hp:p.1=sg
   ·obtain⟨y,k⟩:=p;have hp:y=sg:=hp;subst hp;rw[LU (by omega)];simp
   ·rw[LV (by omega) hp];simp
theorem Eg:∀(l:List (Int×Int))(q:Int×Int)(side:HY)(re:Int),Vm (l++[q]) side re=(XI (XI (Vm l side re).1 0 (q.1 - (Vm l side re).2)) q.2 1,q.1+1)
 |[],_,_,_=>rfl|x::l,q,side,re=>Eg l q _ _
theorem IY:∀(l:List (Int×Int))(side:HY)(re:Int),(Vm l side re).1.length<=side.length+2*l.length
 |[],side,re=>Um _|q::l,side,re=>by unfold Vm;have h1:=Hu side 0 (q.1-re);have h2:=Hu (XI side 0 (q.1-re)) q.2 1;have h3:=IY l (XI (XI side 0 (q.1-re)) q.2 1) (q.1+1);rw[Uy];omega
theorem Au(hs:g[s]?=vL (JY side))(hz:side.length<800):
  Vu [x0,vR s,vI re,vI o,vI sg] g=.nx [x0,vR s,vI (o+1),vI o,vI sg] (g.set s (.lst (JY (XI (XI side 0 (o-re)) sg 1)))):=by
 have e1:=aD (sg:=0) (c:=o-re) hs (by omega);have h1:(g.set s (.lst (JY (XI side 0 (o-re)))))[s]?=vL (JY (XI side 0 (o-re))):=Zt hs;have hz1:=Hu side 0 (o-re);have e2:=aD (sg:=sg) (c:=1) h1 (by omega);rw[RD]at e2;unfold Vu;refine Qr _ _ (Yu (d:=.non) (by rw[Qw (ds:=[.ref s,.int 0,.int (o-re)]) (g':=g) rfl];exact e1)) ?_;exact Qr _ _ (Yu (d:=.non) (by rw[Qw (ds:=[.ref s,.int sg,.int 1]) (g':=g.set s (.lst (JY (XI side 0 (o-re))))) rfl];exact e2)) rfl
theorem P2(ha:g[a]?=vL (l.map JS))(hl:l.length<=300):∃s g',Cs [.ref a] g=.ok (.ref s) g'/\g.length<=s/\g'[s]?=vL (JY (Vm l [] 0).1)/\Keeps [] g g':=by
 have k0:Keeps [] g (g++[.lst []]):=.push _;have p0:(g++[GO.lst []])[g.length]?=vL []:=Qp _;have ha1:=k0.a ha;have hal:=Zf ha;have hit:QQ (Qa 0) [vR a,vR g.length,vI 0,none,none] (g++[.lst []])=.ok (oU a l.length) (g++[.lst []]):=by unfold QQ;rw[show Qa 0 [vR a,vR g.length,vI 0,none,none] (g++[.lst []])=.ok (.ref a) (g++[.lst []]) from rfl,Res.bind_ok];unfold BH;dsimp only;rw[ha1];dsimp only;rw[Ua];rfl
 obtain⟨σ',g2,e2,⟨y2,y3,y4,i1,i5⟩,i2,i3⟩:=KT (src:=oU a l.length) (t:=Xd [Qn 3,Qn 4]) (body:=Vu) (n:=l.length) (σ:=[vR a,vR g.length,vI 0,none,none]) (g:=g++[.lst []]) rfl
  (λi σ g2=>(∃y2 y3 y4,σ=[vR a,vR g.length,vI y2,y3,y4]/\y2=(Vm (l.take i) [] 0).2)/\Keeps [g.length] (g++[.lst []]) g2/\g2[g.length]?=vL (JY (Vm (l.take i) [] 0).1)) ⟨⟨0,none,none,rfl,rfl⟩,.refl,p0⟩ (λi σ g2 hi hQ=>by
   obtain⟨⟨y2,y3,y4,i1,i5⟩,i2,i3⟩:=hQ;subst i1;have hle:=IY (l.take i) [] 0;rw[UZ,List.length_nil]at hle;have ht:=Au (s:=g.length) (re:=y2) (o:=l[i].1) (sg:=l[i].2) (x0:=some (.ref a)) i3 (by omega);have htk:l.take (i+1)=l.take i++[l[i]]:=by rw[Uq hi]
   rw[i5,show XI (XI (Vm (l.take i) [] 0).1 0 (l[i].1 - (Vm (l.take i) [] 0).2)) l[i].2 1=(Vm (l.take (i+1)) [] 0).1 by rw[htk,Eg]]at ht;refine⟨JS l[i],[vR a,vR g.length,vI y2,vI (l[i].1),vI (l[i].2)],_,_,?_,rfl,by rw[i5];exact ht,⟨_,_,_,rfl,by rw[htk,Eg]⟩,i2.trans (.set _ _),Zt i3⟩;show(match g2[a]? with|some (.lst es)=>some es[i]? | _=>none)=_;rw[i2.at' _ _ (λz=>by have:=Uf.mp z;omega) ha1];simp[hi]) (λσ g2 hQ=>by
   obtain⟨_,i2,_⟩:=hQ;show(match g2[a]? with|some (.lst es)=>some es[l.length]? | _=>none)=_;rw[i2.at' _ _ (λz=>by have:=Uf.mp z;omega) ha1];simp)
 subst i1;rw[UO]at i3;refine⟨g.length,g2,Zb rfl ?_,Um _,i3,⟨Up k0.len i2.len,λj o _ h=>i2.at' _ _ (λz=>by have:=Zf h;have:=Uf.mp z;omega) (k0.a h)⟩⟩;show FD [vR a,none,none,none,none] g=_;unfold FD;exact Qr [vR a,vR g.length,none,none,none] (g++[.lst []]) (QK rfl) (Qr [vR a,vR g.length,vI 0,none,none] (g++[.lst []]) rfl (Qr _ g2 ((Yv hit).trans e2) rfl))
theorem IZ{src:Src}{c:MT}{e:ME}{z:Option D}{xs:List (Int×Int)}{n:Nat}{g:G}(hn:n=xs.length)(P:Int×Int->Bool)(f:Int×Int->D)(hat:∀i (h:i<xs.length),src.at' g i=some (some (JS xs[i])))(hend:src.at' g xs.length=some none)(hc:∀p:Int×Int,c [vI p.1,vI p.2,z] g=.ok (P p) g)(he:∀p:Int×Int,e [vI p.1,vI p.2,z] g=.ok (f p) g):
  Jd src (Xd [Qn 0,Qn 1]) c e (n+1) 0 [none,none,z] g []=.ok ((xs.filter P).map f) g:=by
 subst hn;obtain⟨ds,σ',g',h1,h2,h3,_⟩:=YH (src:=src) (t:=Xd [Qn 0,Qn 1]) (c:=c) (e:=e) (n:=xs.length)
  (λi σ g' acc=>acc=((xs.take i).filter P).map f/\g'=g/\∃u v,σ=[u,v,z]) (λi σ g' acc hi hQ=>by
   obtain⟨q1,q2,u,v,q3⟩:=hQ;subst q2 q3;have htk:xs.take (i+1)=xs.take i++[xs[i]]:=Uq hi;refine⟨JS xs[i],[vI (xs[i].1),vI (xs[i].2),z],g',hat i hi,rfl,?_⟩;cases hp:P xs[i]with
   |true =>refine .inl ⟨f xs[i],g',by rw[hc,hp],he _,?_,rfl,_,_,rfl⟩;rw[htk,Wl,UB,q1,Rw hp];rfl|false =>refine .inr ⟨by rw[hc,hp],?_,rfl,_,_,rfl⟩;rw[htk,Wl,UB,q1,Rx (by rw[hp];exact Ue)];simp) (λσ g' acc hQ=>by rw[hQ.2.1];exact hend) (xs.length+1) 0 [none,none,z] g [] (by omega) (by omega) ⟨rfl,rfl,none,none,rfl⟩
 rw[UO]at h2;rw[h1,h2,h3]
def BY(st here:Int)(M:List (Int×Int)):D:=.tup [.int st,.int here,.tup (M.map JS)]
theorem aE(here:Int)(M:List (Int×Int)):((M.reverse.filter λp=>decide (p.1<here)).map λp=>JS (here-1-p.1,p.2))=(Kv here M).map JS:=by unfold Kv LW;rw[U6,List.filter_reverse];rfl
theorem Av(here:Int)(M:List (Int×Int)):((M.filter λp=>decide (here<=p.1)).map λp=>JS (p.1-here,p.2))=(Xt here M).map JS:=by unfold Xt EV;rw[U6];rfl
theorem Aw(here:Int)(M:List (Int×Int)):(Kv here M).length<=M.length:=by unfold Kv LW;rw[Ua,U4];exact RH _ _
theorem OE(here:Int)(M:List (Int×Int)):(Xt here M).length<=M.length:=by unfold Xt EV;rw[Ua];exact RH _ _
theorem EW(hM:M.length<=300):∃a b g',Xo [BY st here M] g=.ok (.tup [.int st,.ref a,.ref b]) g'/\g.length<=a/\a<b/\g'[a]?=vL (JY (IX here M))/\g'[b]?=vL (JY (FJ here M))/\Keeps [] g g':=by
 -- the left side
 have hlen:(M.map JS).length=M.length:=Ua _;have s1:Om (.tup (M.map JS)) g=.ok ⟨λg i=>if i=(M.map JS).length then some none else if i<(M.map JS).length then (match QG g (.tup (M.map JS)) with
  |some (_,es)=>if es.length=(M.map JS).length then some es[(M.map JS).length-1-i]? else none
  |none=>none) else none,(M.map JS).length⟩ g:=rfl
 have c1:=IZ (src:=⟨λg i=>if i=(M.map JS).length then some none else if i<(M.map JS).length then (match QG g (.tup (M.map JS)) with
  |some (_,es)=>if es.length=(M.map JS).length then some es[(M.map JS).length-1-i]? else none
  |none=>none) else none,(M.map JS).length⟩) (c:=Qo (Qe Fd (Qa 0) (Qa 2))) (e:=Qt QC (Qb (Qe VS (Qe VS (Qa 2) (mI 1)) (Qa 0)) (Qb (Qa 1) Qi))) (z:=some (.int here)) (xs:=M.reverse) (n:=(M.map JS).length) (g:=g) (by simp) (λp=>decide (p.1<here)) (λp=>JS (here-1-p.1,p.2)) (λi h=>by
   rw[U4]at h;show(if i=(M.map JS).length then some none else if i<(M.map JS).length then (if (M.map JS).length=(M.map JS).length then some (M.map JS)[(M.map JS).length-1-i]? else none) else none)=_;rw[Uh (by omega),Uc (by omega),Uc rfl,hlen,UA,Uj (by omega),List.getElem_reverse];rfl) (by
   rw[U4];show(if M.length=(M.map JS).length then some none else _)=_;rw[Uc hlen.symm]) (λp=>rfl) (λp=>rfl)
 rw[aE]at c1;have e1:=JC (it:=Fp (Qe QB (Qa 0) (mI 2))) (n:=2) (cap:=[1]) (σ:=[some (BY st here M),vI here,none,none]) (g:=g) (σ0:=[none,none,vI here]) s1 (UP (Jr (by show(M.map JS).length<=1000;omega))) rfl c1;have k1:Keeps [] g (g++[.lst ((Kv here M).map JS)]):=.push _;have p1:(g++[GO.lst ((Kv here M).map JS)])[g.length]?=vL ((Kv here M).map JS):=Qp _;generalize hg1:g++[GO.lst ((Kv here M).map JS)]=g1 at e1 k1 p1;have hl1:=Aw here M;obtain⟨a,g2,e2,ha2,hs2,k2⟩:=P2 p1 (by omega)
 -- the right side
 have c3:=IZ (src:=⟨λ_ i=>some (M.map JS)[i]?,(M.map JS).length⟩) (c:=Qo (Qe dY (Qa 0) (Qa 2))) (e:=Qt QC (Qb (Qe VS (Qa 0) (Qa 2)) (Qb (Qa 1) Qi))) (z:=some (.int here)) (xs:=M) (n:=(M.map JS).length) (g:=g2) (by simp) (λp=>decide (here<=p.1)) (λp=>JS (p.1-here,p.2)) (λi h=>by
   show some (M.map JS)[i]?=_;rw[UA,Uj h];rfl) (by
   show some (M.map JS)[M.length]?=_;rw[T4 (by omega)]) (λp=>rfl) (λp=>rfl)
 rw[Av]at c3;have e3:=JC (it:=QQ (Qe QB (Qa 0) (mI 2))) (n:=2) (cap:=[1]) (σ:=[some (BY st here M),vI here,vR a,none]) (g:=g2) (σ0:=[none,none,vI here]) (src:=⟨λ_ i=>some (M.map JS)[i]?,(M.map JS).length⟩) rfl (UP (Jr (by show(M.map JS).length<=1000;omega))) rfl c3;have k3:Keeps [] g2 (g2++[.lst ((Xt here M).map JS)]):=.push _;have p3:(g2++[GO.lst ((Xt here M).map JS)])[g2.length]?=vL ((Xt here M).map JS):=Qp _;have hg2:g2.length<=(g2++[GO.lst ((Xt here M).map JS)]).length:=k3.len;generalize g2++[GO.lst ((Xt here M).map JS)]=g3 at e3 k3 p3 hg2;have hl3:=OE here M;obtain⟨b,g4,e4,hb4,hs4,k4⟩:=P2 p3 (by omega);have hal:=Zf hs2;refine⟨a,b,g4,Zb rfl ?_,Up k1.len ha2,by omega,(k3.trans k4).a hs2,hs4,k1.trans (k2.trans (k3.trans k4))⟩;show VH [some (BY st here M),none,none,none] g=_;unfold VH;refine Qr [some (BY st here M),vI here,none,none] g rfl ?_;refine Qr [some (BY st here M),vI here,vR a,none] g2 (QK (by rw[Qw (Qx e1 rfl)];exact e2)) ?_;exact Qr [some (BY st here M),vI here,vR a,vR b] g4 (QK (by rw[Qw (Qx e3 rfl)];exact e4)) rfl
def JZ:Tk->Tk
 |.one s=>.one s|.many w k=>.many w (k+1)
theorem Nd{c r:Nat}{t:Tk}{A:List Int}{x0:Option D}{g:G}(ht:Xz t)(hc:c<=4)(hr:g[r]?=vL (A.map .int))(hz:A.length<=32000):
  X0 [x0,vI c,vR r,some (Qy t)] g=.nx [x0,vI c,vR r,some (Qy t)] (g.set r (.lst ((A++Ow c t).map .int))):=by
 have hcl:=Hj ht hc;unfold X0;cases t with
 |one s =>have t1:Qo (Qe Z5 (Qe QB (Qa 3) (mI 0)) (Qq (.str "one"))) [x0,vI c,vR r,some (Qy (.one s))] g=.ok (Str.ofString "one"==Str.ofString "one") g:=rfl;rw[JM]at t1;refine(Fe g t1 (Oz (y:=.int s) rfl hr rfl (by rw[Ua];omega))).trans ?_;rw[UB];rfl|many w k=>
  have t1:Qo (Qe Z5 (Qe QB (Qa 3) (mI 0)) (Qq (.str "one"))) [x0,vI c,vR r,some (Qy (.many w k))] g=.ok (Str.ofString "many"==Str.ofString "one") g:=rfl;rw[Hi]at t1;obtain⟨h1,h2,h3,h4,h5⟩:=ht;have ek:((c:Int)+k).toNat=c+k.toNat:=by omega
  have hcl':(List.replicate (c+k.toNat) w).flatten.length<=320:=hcl;have hm:Qe Xy (Qe QB (Qa 3) (mI 1)) (Qe QD (Qa 1) (Qe QB (Qa 3) (mI 2))) [x0,vI c,vR r,some (Qy (.many w k))] g=.ok (.tup ((List.replicate (c+k.toNat) w).flatten.map .int)) g:=by rw[<-ek];refine Ql (x:=.tup (w.map .int)) (y:=.int (c+k)) (g1:=g) (g2:=g) rfl rfl (fO (by omega) (by omega) ?_);rw[ek];exact Up (Wo h4 (show c+k.toNat<=25 by omega)) (by decide)
  refine(Jh g t1 (Oy rfl hr hm (by rw[Ua,Ua];omega))).trans ?_;rw[UB];rfl
theorem Gb{x:D}{b:Bool}{ts:List Tk}{c:Nat}{g:G}(hx:QG g x=some (b,ts.map Qy))(hok:∀t∈ts,Xz t)(hc:c<=4)(hl:ts.length<=60):
  ∃r g',KR [x,.int c] g=.ok (.ref r) g'/\g.length<=r/\g'[r]?=vL ((Zx c ts).map .int)/\Keeps [] g g':=by
 have k0:Keeps [] g (g++[.lst []]):=.push _;have p0:(g++[GO.lst []])[g.length]?=vL []:=Qp _;have hx0:=QI hx k0;obtain⟨src,s1,s2,s3⟩:=Xq hx0;have hnot:∀g1,Keeps [g.length] (g++[.lst []]) g1->QG g1 x=some (b,ts.map Qy):=λg1 k=>by
  cases x with
  |ref n=>
   unfold QG at hx ⊢;dsimp only at hx ⊢;cases hg:g[n]? with
   |none=>rw[hg]at hx;cases hx|some o =>rw[hg]at hx;have:=Zf hg;rw[k.at' _ _ (λz=>by have:=Uf.mp z;omega) (k0.a hg)];exact hx
  |_=>exact hx
 have hlen:src.top=ts.length:=by rw[s2,Ua]
 obtain⟨σ',g2,e2,⟨y3,i1⟩,i2,i3⟩:=KT (src:=src) (t:=Qn 3) (body:=X0) (n:=ts.length) (σ:=[some x,vI c,vR g.length,none]) (g:=g++[.lst []]) hlen
  (λi σ g2=>(∃y3,σ=[some x,vI c,vR g.length,y3])/\Keeps [g.length] (g++[.lst []]) g2/\g2[g.length]?=vL ((Zx c (ts.take i)).map .int)) ⟨⟨none,rfl⟩,.refl,p0⟩ (λi σ g2 hi hQ=>by
   obtain⟨⟨y3,i1⟩,i2,i3⟩:=hQ;subst i1;have htk:ts.take (i+1)=ts.take i++[ts[i]]:=Uq hi;have hA:(Zx c (ts.take i)).length<=32000:=by have:=KZ hc (ts:=ts.take i) λt ht=>hok t (TM ht);rw[UZ]at this;have:320*min i ts.length<=320*60:=Nat.mul_le_mul_left _ (by omega);omega
   refine⟨Qy ts[i],_,_,_,by rw[s3 g2 i (hnot g2 i2),UA,Uj hi];rfl,rfl,Nd (hok _ (UK hi)) hc i3 hA,⟨_,rfl⟩,i2.trans (.set _ _),?_⟩;rw[Zt i3,htk];unfold Zx;rw[List.flatMap_append];simp) (λσ g2 hQ=>by rw[s3 g2 _ (hnot g2 hQ.2.1),T4 (by rw[Ua];exact Um _)])
 subst i1;rw[UO]at i3;refine⟨g.length,g2,Zb rfl ?_,Um _,i3,⟨Up k0.len i2.len,λj o _ h=>i2.at' _ _ (λz=>by have:=Zf h;have:=Uf.mp z;omega) (k0.a h)⟩⟩;show Ea [some x,vI c,none,none] g=_;unfold Ea;refine Qr [some x,vI c,vR g.length,none] (g++[.lst []]) (QK rfl) (Qr _ g2 ((Yv ?_).trans e2) rfl);unfold QQ;rw[show Qa 0 [some x,vI c,vR g.length,none] (g++[.lst []])=.ok x (g++[.lst []]) from rfl,Res.bind_ok];exact s1
def QW:List Int->Int->List (Int×Int)
 |[],_=>[]|s::r,p=>if s≠0 then (p,s)::QW r (p+1) else QW r (p+1)
theorem BZ(s:Int):∀(A:List Int)(p:Int),QW (A++[s]) p=QW A p++(if s≠0 then [(p+A.length,s)] else [])
 |[],p=>by
  show(if s≠0 then [(p,s)] else [])=if s≠0 then [(p+((0:Nat):Int),s)] else []
  rw[show p+((0:Nat):Int)=p by omega]
 |a::r,p=>by
  have ih:=BZ s r (p+1);have e:p+1+(r.length:Int)=p+((a::r).length:Nat):=by rw[Uy];omega
  rw[e]at ih;show(if a≠0 then (p,a)::QW (r++[s]) (p+1) else QW (r++[s]) (p+1))=(if a≠0 then (p,a)::QW r (p+1) else QW r (p+1))++_;rw[ih];by_cases h:a≠0
  ·rw[Uc h,Uc h];rfl
  ·rw[Uh h,Uh h]
theorem Eh:∀(A:List Int)(p:Int),(QW A p).length<=A.length
 |[],_=>Um _|a::r,p=>by
  have:=Eh r (p+1);unfold QW;split
  ·rw[Uy,Uy];omega
  ·rw[Uy];omega
def aF(st:Int)(f:Str)(c:Nat)(L R:List Tk):D:=.tup [.int st,.int (if (f==Str.ofString "r")=true then 0 else -1),.tup ((QW (Zx c L++Zx c R) (-((Zx c L).length:Int))).map JS)]
def rS:Str:=⟨#[114]⟩
theorem QX(h:g[l]?=vL ds):QG g (.ref l)=some (true,ds):=by unfold QG;dsimp only;rw[h]
theorem Ax(hq:g[q]?=vL (row.map .int))(hl:g[l]?=vL A)(hn:A.length=n)(hz:row.length<=50000):
  ZQ (Cq (Qa 3)) 2 [2] (Xd [(Qn 0),(Qn 1)]) (Qo (Qe CI (Qa 1) (mI 0))) (Qt QC (Qb (Qe VS (Qa 0) (Qv Zr (Qa 2))) (Qb (Qa 1) Qi))) [x0,x1,vR l,vR q,x4] g=.ok (.ref g.length) (g++[.lst ((QW row (-(n:Int))).map JS)]):=by
 have hs:QG g (.ref q)=some (true,row.map .int):=QX hq;have hlen:(row.map D.int).length=row.length:=Ua _;have hit:Cq (Qa 3) [x0,x1,vR l,vR q,x4] g=.ok ⟨λg i=>(match QG g (.ref q) with
  |some (_,es)=>(match es[i]? with
   |some x=>some (some (.tup [.int i,x]))|none=>some none)
  |none=>none),(row.map D.int).length⟩ g:=by
  unfold Cq;rw[show Qa 3 [x0,x1,vR l,vR q,x4] g=.ok (.ref q) g from rfl,Res.bind_ok];unfold LJ;rw[hs];try rfl
 refine JC (σ0:=[none,none,vR l]) hit (by show(row.map D.int).length<=SZ;exact UP (WL (by omega))) rfl ?_;obtain⟨xs,σ',g3,c1,c2,c3,_⟩:=YH (src:=⟨λg i=>(match QG g (.ref q) with
  |some (_,es)=>(match es[i]? with
   |some x=>some (some (.tup [.int i,x]))|none=>some none)
  |none=>none),(row.map D.int).length⟩) (t:=Xd [Qn 0,Qn 1]) (c:=Qo (Qe CI (Qa 1) (mI 0))) (e:=Qt QC (Qb (Qe VS (Qa 0) (Qv Zr (Qa 2))) (Qb (Qa 1) Qi))) (n:=row.length)
  (λi σ' g4 acc=>acc=(QW (row.take i) (-(n:Int))).map JS/\g4=g/\∃u v,σ'=[u,v,vR l]) (λi σ' g4 acc hi hQ=>by
   obtain⟨q1,q2,u,v,q3⟩:=hQ;subst q2 q3;have htk:row.take (i+1)=row.take i++[row[i]]:=Uq hi;have hlt:(row.take i).length=i:=by rw[UZ];omega
   have hsn:=BZ row[i] (row.take i) (-(n:Int));rw[hlt,<-htk]at hsn;have t1:Qo (Qe CI (Qa 1) (mI 0)) [vI i,vI (row[i]),vR l] g4=.ok (!(row[i]==0)) g4:=rfl;refine⟨.tup [.int i,.int row[i]],[vI i,vI (row[i]),vR l],g4,?_,rfl,?_⟩
   ·dsimp only;rw[hs];dsimp only;rw[UA,Uj hi];rfl
   ·by_cases hz0:row[i]=0
    ·rw[Tn.mpr hz0]at t1;refine .inr ⟨t1,?_,rfl,_,_,rfl⟩;rw[hsn,Uh (λz=>z hz0),U0];exact q1
    ·rw[U8.mpr hz0]at t1;refine .inl ⟨JS (-(n:Int)+i,row[i]),g4,t1,?_,?_,rfl,_,_,rfl⟩
     ·refine Y9 (Qx (g1:=g4) (Ql (x:=.int i) (y:=.int n) (g1:=g4) (g2:=g4) rfl (ZC (x:=.ref l) (g1:=g4) rfl (by unfold Zr;dsimp only;rw[hl];dsimp only;rw[hn])) ?_) (Qx (g1:=g4) rfl rfl)) rfl;show Res.ok (D.int ((i:Int) - n)) g4=_;rw[show(i:Int) - n = -(n:Int)+i by omega]
     ·rw[hsn,Uc hz0,UB,q1];rfl) (λσ g4 acc hQ=>by
   dsimp only;rw[hQ.2.1,hs];dsimp only;rw[T4 (by rw[hlen];exact Um _)]) ((row.map D.int).length+1) 0 [none,none,vR l] g [] (by omega) (by omega) ⟨rfl,rfl,none,none,rfl⟩
 rw[UO]at c2;subst c2 c3;exact c1
theorem Nf{st:Int}{f:Str}{L R:D}{g:G}{b b':Bool}{tl tr:List Tk}{c:Nat}(h0:0<=st)(hf:lrS f)(hL:QG g L=some (b,tl.map Qy))(hR:QG g R=some (b',tr.map Qy))(ol:∀t∈tl,Xz t)(or':∀t∈tr,Xz t)(zl:tl.length<=40)(zr:tr.length<=40)(hc:c<=4):
  ∃g',Ec [.tup [.int st,.str f,L,R],.int c] g=.ok (aF st f c tl tr) g'/\Keeps [] g g':=by
 obtain⟨g1,e1,k1⟩:=Hm h0 hf hL hR ol or' (by omega) (by omega);obtain⟨r1,g2,e2,hr1,p2,k2⟩:=Gb (QI hL k1) ol hc (by omega);obtain⟨r2,g3,e3,hr2,p3,k3⟩:=Gb (QI hR (k1.trans k2)) or' hc (by omega);have p2':=k3.a p2;have l1:=KZ hc ol;have l2:=KZ hc or';have hb1:500*tl.length<=20000:=by omega
 have hb2:500*tr.length<=20000:=by omega
 have k4:Keeps [] g3 (g3++[.lst ((Zx c tl).map .int++(Zx c tr).map .int)]):=.push _;have p4:(g3++[GO.lst ((Zx c tl).map .int++(Zx c tr).map .int)])[g3.length]?=vL ((Zx c tl).map .int++(Zx c tr).map .int):=Qp _;have e4:=YS p2' p3 (by rw[Ua,Ua];omega);have p2'':=k4.a p2';generalize g3++[GO.lst ((Zx c tl).map .int++(Zx c tr).map .int)]=g4 at k4 p4 e4 p2'';rw[<-UB]at p4;have e5:=Ax (n:=(Zx c tl).length) (x0:=some (.tup [.int st,.str f,L,R])) (x1:=some (.int c)) (x4:=none) p4 p2'' (Ua _) (by rw[Uo];omega);have k5:Keeps [] g4 (g4++[.lst ((QW (Zx c tl++Zx c tr) (-((Zx c tl).length:Int))).map JS)]):=.push _;have p5:(g4++[GO.lst ((QW (Zx c tl++Zx c tr) (-((Zx c tl).length:Int))).map JS)])[g4.length]?=vL ((QW (Zx c tl++Zx c tr) (-((Zx c tl).length:Int))).map JS):=Qp _;generalize hg5:g4++[GO.lst ((QW (Zx c tl++Zx c tr) (-((Zx c tl).length:Int))).map JS)]=g5 at e5 k5 p5;refine⟨g5,Zb rfl ?_,k1.trans (k2.trans (k3.trans (k4.trans k5)))⟩;show Eb [vT [.int st,.str f,L,R],vI c,none,none,none] g=_;unfold Eb;have t2:Qo (Qu QJ (Qb (Qa 1) Qi)) [vT [.int st,.str f,L,R],vI c,none,none,none] g1=.ok true g1:=Q3 (by rw[Qw (ds:=[.int c]) (g':=g1) rfl,XH,Uu (by omega)]);refine Qr _ g1 (Yu (by rw[Qw (ds:=[.tup [.int st,.str f,L,R]]) (g':=g) rfl];exact e1)) (Qr _ g1 (Jh g1 (FH t2) rfl) ?_);refine Qr [vT [.int st,.str f,L,R],vI c,vR r1,none,none] g2 (QK (by rw[Qw (ds:=[L,.int c]) (g':=g1) rfl];exact e2)) ?_;refine Qr [vT [.int st,.str f,L,R],vI c,vR r1,vR g3.length,none] g4 (QK (Ql (x:=.ref r1) (y:=.ref r2) (g1:=g2) (g2:=g3) rfl (by rw[Qw (ds:=[R,.int c]) (g':=g2) rfl];exact e3) e4)) ?_;refine Qr _ g5 (QK e5) (ZP ?_);have t3:Qo (Qe Z5 (Qe QB (Qa 0) (mI 1)) (Qq (.str "r"))) [vT [.int st,.str f,L,R],vI c,vR r1,vR g3.length,vR g4.length] g5=.ok (f==Str.ofString "r") g5:=rfl;have e6:X5 (Qo (Qe Z5 (Qe QB (Qa 0) (mI 1)) (Qq (.str "r")))) (mI 0) (Qv Jy (mI 1)) [vT [.int st,.str f,L,R],vI c,vR r1,vR g3.length,vR g4.length] g5=.ok (.int (if (f==Str.ofString "r")=true then 0 else -1)) g5:=by unfold X5;rw[t3,Res.bind_ok];cases (f==Str.ofString "r")<;>rfl
 exact Y9 (Qx (g1:=g5) rfl (Qx e6 (Qx (ZC (x:=.ref g4.length) (g1:=g5) rfl (by unfold ZT;dsimp only;rw[p5])) rfl))) rfl
def Vv(st:Int)(f:Str)(L R:List Tk):D:=.tup [.int st,.str f,.tup ((L.map JZ).map Qy),.tup ((R.map JZ).map Qy)]
theorem Go(t:Tk)(g:G):Yz [Qy t] g=.ok (Qy (JZ t)) g:=by
 refine Zb rfl (ZP ?_);show X5 _ (Qa 0) _ [some (Qy t)] g=_;unfold X5;cases t with
 |one s =>rw[show Qo (Qe Z5 (Qe QB (Qa 0) (mI 0)) (Qq (.str "one"))) [some (Qy (.one s))] g=.ok (Str.ofString "one"==Str.ofString "one") g from rfl,JM,Res.bind_ok];rfl|many w k =>rw[show Qo (Qe Z5 (Qe QB (Qa 0) (mI 0)) (Qq (.str "one"))) [some (Qy (.many w k))] g=.ok (Str.ofString "many"==Str.ofString "one") g from rfl,Hi,Res.bind_ok];rfl
def OF(d:D):D:=match d with
 |.tup [.str x,v,.int k]=>.tup [.str x,v,.int (k+1)]|d=>d
theorem La(t:Tk):OF (Qy t)=Qy (JZ t):=by cases t<;>rfl
theorem Kw{x:D}{b:Bool}{ts:List Tk}{g:G}(hx:QG g x=some (b,ts.map Qy))(hz:ts.length<=1000):∃g',JR [x] g=.ok (.tup ((ts.map JZ).map Qy)) g'/\Keeps [] g g':=by
 obtain⟨src,s1,s2,s3⟩:=Xq hx;obtain⟨g1,c1,k1⟩:=ER (ds:=ts.map Qy) (e:=Qu Yz (Qb (Qa 0) Qi)) (g:=g) (F:=OF) (src:=src) (by rw[Ua];omega) (λd hd g1 k=>by obtain⟨t,_,rfl⟩:=UQ.mp hd;exact⟨g1,by rw[Qw (ds:=[Qy t]) (g':=g1) rfl,Go,La],.refl⟩) s2 (λg1 i k=>s3 g1 i (QI hx k));have c2:=JC (it:=QQ (Qa 0)) (n:=1) (cap:=[]) (σ:=[some x]) (t:=Qn 0) (c:=Yb) (σ0:=[none]) (g:=g) (by unfold QQ;rw[show Qa 0 [some x] g=.ok x g from rfl,Res.bind_ok];exact s1) (by rw[s2,Ua];exact UP (WL (by omega))) rfl c1;have hm:(ts.map Qy).map OF=(ts.map JZ).map Qy:=by rw[U6,U6];exact Ri λt _=>La t
 rw[hm]at c2;refine⟨_,Zb rfl (ZP (ZC c2 ?_)),k1.trans (.push (.lst ((ts.map JZ).map Qy)))⟩;unfold ZT;dsimp only;rw[Qp]
theorem Ei(h0:0<=st)(hf:lrS f)(hL:QG g L=some (b,tl.map Qy))(hR:QG g R=some (b',tr.map Qy))(ol:∀t∈tl,Xz t)(or':∀t∈tr,Xz t)(zl:tl.length<=40)(zr:tr.length<=40):
  ∃g',Kt [.tup [.int st,.str f,L,R]] g=.ok (Vv st f tl tr) g'/\Keeps [] g g':=by
 obtain⟨g1,e1,k1⟩:=Hm h0 hf hL hR ol or' (by omega) (by omega);obtain⟨g2,e2,k2⟩:=Kw (QI hL k1) (by omega);obtain⟨g3,e3,k3⟩:=Kw (QI hR (k1.trans k2)) (by omega);refine⟨g3,Zb rfl ?_,k1.trans (k2.trans k3)⟩;show He [vT [.int st,.str f,L,R]] g=_;unfold He;refine Qr _ g1 (Yu (by rw[Qw (ds:=[.tup [.int st,.str f,L,R]]) (g':=g) rfl];exact e1)) (ZP ?_);exact Y9 (Qx (g1:=g1) rfl (Qx (g1:=g1) rfl (Qx (g1:=g2) (by rw[Qw (ds:=[L]) (g':=g1) rfl];exact e2) (Qx (g1:=g3) (by rw[Qw (ds:=[R]) (g':=g2) rfl];exact e3) rfl)))) rfl
def Kx(t s p l r:D):List (Str×D):=[("table",t),("state",s),("place",p),("left_marks",l),("right_marks",r)]
theorem aG(t s p l r:D):(Kx t s p l r).lookup (Str.ofString "table")=some t:=rfl
theorem aH(t s p l r:D):(Kx t s p l r).lookup (Str.ofString "state")=some s:=rfl
theorem aI(t s p l r v:D):YM "state" v (Kx t s p l r)=Kx t v p l r:=rfl
theorem aJ(t s p l r:D):(Kx t s p l r).lookup (Str.ofString "place")=some p:=rfl
theorem aK(t s p l r v:D):YM "place" v (Kx t s p l r)=Kx t s v l r:=rfl
theorem Ik(t s p l r:D):(Kx t s p l r).lookup (Str.ofString "left_marks")=some l:=rfl
theorem Hv(t s p l r:D):(Kx t s p l r).lookup (Str.ofString "right_marks")=some r:=rfl
def KA(L:List (Int×Nat)):List D:=L.map λp=>D.tup [.int p.1,.int (p.2:Nat)]
def B0(rows:List (List D))(st:Nat)(pl:Int)(l r:Nat):GO:=.ins 12 (Kx (.tup (rows.map .tup)) (.int st) (.int pl) (.ref l) (.ref r))
structure WRep(rows:List (List D))(w l r:Nat)(g:G)(st:Nat)(pl:Int)(L R:List (Int×Nat)):Prop where
 w':g[w]?=some (B0 rows st pl l r)
 l':g[l]?=vL (KA L)
 r':g[r]?=vL (KA R)
 wl:w≠l
 wr:w≠r
 lr:l≠r
theorem EX(hv:σ[i]?=some (some (.ref w)))(h:g[w]?=some (.ins c fs))(hc:c∈cs)(hf:fs.lookup f=some d):Zd cs f (Qa i) σ g=.ok d g:=by unfold Zd Qv Qa;rw[hv];dsimp only;rw[Res.bind_ok];dsimp only;rw[h];dsimp only;rw[Uc hc,hf]
theorem WRep.place(W:WRep rows w l r g st pl L R)(hv:σ[i]?=some (some (.ref w))):Zd [12] "place" (Qa i) σ g=.ok (.int pl) g:=EX hv W.w' (by simp) (aJ ..)
theorem WRep.state(W:WRep rows w l r g st pl L R)(hv:σ[i]?=some (some (.ref w))):Zd [12] "state" (Qa i) σ g=.ok (.int st) g:=EX hv W.w' (by simp) (aH ..)
theorem WRep.table(W:WRep rows w l r g st pl L R)(hv:σ[i]?=some (some (.ref w))):Zd [11,12] "table" (Qa i) σ g=.ok (.tup (rows.map .tup)) g:=EX hv W.w' (by simp) (aG ..)
theorem WRep.left(W:WRep rows w l r g st pl L R)(hv:σ[i]?=some (some (.ref w))):Zd [12] "left_marks" (Qa i) σ g=.ok (.ref l) g:=EX hv W.w' (by simp) (Ik ..)
theorem WRep.right(W:WRep rows w l r g st pl L R)(hv:σ[i]?=some (some (.ref w))):Zd [12] "right_marks" (Qa i) σ g=.ok (.ref r) g:=EX hv W.w' (by simp) (Hv ..)
theorem V1(hv:σ[i]?=some (some (.ref w)))(h:g[w]?=some (.ins 12 fs))(hm:fs.lookup m=none)(ha:a σ g=.ok xs g2):Je 12 m f (Qa i) a σ g=f (.ref w::xs) g2:=by unfold Je Qa;rw[hv];dsimp only;rw[Res.bind_ok];dsimp only;rw[h];dsimp only;rw[Uc ⟨rfl,hm⟩,ha,Res.bind_ok]
def Zh(L:List (Int×Nat))(x:Int):Option Nat:=match L.getLast? with
 |some (y,s)=>if y=x then some s else none
 |none=>none
theorem K4(L:List (Int×Nat)):(KA L).length=L.length:=by simp[KA]
theorem aL(h:L.getLast?=some p):VC (KA L) (-1)=some (.tup [.int p.1,.int (p.2:Nat)]):=by
 have hne:L≠[]:=λz=>by rw[z]at h;cases h
 have hpos:0<L.length:=Tq.mpr hne;unfold VC GQ;rw[Uh (by decide),K4,Uc (by omega)];show(KA L)[((-1:Int)+(L.length:Int)).toNat]?=_;rw[show((-1:Int)+(L.length:Int)).toNat=L.length-1 by omega];rw[Wq]at h;simp[KA,h]
theorem aM(h:L.getLast?=none):L=[]:=by simpa using h
theorem aN(ha:a σ g=.ok (.ref x) g)(hx:g[x]?=vL (KA L)):Qe Lx (Qv Zr a) (mI 0) σ g=.ok (.bl (decide (0<L.length))) g:=by refine Ql (x:=.int L.length) (g1:=g) (ZC ha (by simp[Zr,hx,K4])) rfl ?_;show Res.ok (D.bl (decide ((0:Int)<(L.length:Int)))) g=_;rw[show decide ((0:Int)<(L.length:Int))=decide (0<L.length) from decide_eq_decide.mpr (by omega)]
theorem Hw(ha:a σ g=.ok (.ref x) g)(hx:g[x]?=vL (KA L))(h:L.getLast?=some p)(hk:k=0\/k=1):Qe QB (Qe QB a (Qv Jy (mI 1))) (Qq (.int k)) σ g=.ok (.int (if k=0 then p.1 else (p.2:Nat))) g:=by
 refine Ql (x:=.tup [.int p.1,.int (p.2:Nat)]) (g1:=g) (Ql (x:=.ref x) (y:=.int (-1)) (g1:=g) (g2:=g) ha rfl ?_) rfl ?_
 ·unfold QB;dsimp only;rw[hx];dsimp only;rw[aL h]
 ·rcases hk with rfl|rfl<;>rfl
theorem P3(ha:a σ g=.ok (.ref x) g)(hx:g[x]?=vL (KA L))(hb:b σ g=.ok (.int y) g):
  Jx (Qe Lx (Qv Zr a) (mI 0)) (Qe Z5 (Qe QB (Qe QB a (Qv Jy (mI 1))) (mI 0)) b) σ g=.ok (.bl (Zh L y).isSome) g:=by
 unfold Jx;rw[aN ha hx,Res.bind_ok];dsimp only;cases h:L.getLast? with
 |none =>have:=aM h;subst this;rfl|some p=>
  have hne:L≠[]:=λz=>by rw[z]at h;cases h
  rw[Uu (Tq.mpr hne),Uc rfl,Ql (Hw ha hx h (.inl rfl)) hb rfl,Uc rfl,eq_int];unfold Zh;rw[h];obtain⟨z,s⟩:=p;dsimp only;by_cases e:z=y
  ·rw[Uc e,e];simp
  ·rw[Uh e,U8.mpr e];rfl
theorem OG(W:WRep rows w l r g st pl L R):ZF [.ref w] g=.ok (.bl (Zh R pl).isSome) g:=Zb rfl (ZP (P3 (W.right rfl) W.r' (W.place rfl)))
theorem EY(W:WRep rows w l r g st pl L R)(hv:σ[i]?=some (some (.ref w))):Qo (Je 12 "is_on_mark" ZF (Qa i) Qi) σ g=.ok (Zh R pl).isSome g:=Q3 (by rw[V1 hv W.w' rfl rfl];exact OG W)
theorem aO(W:WRep rows w l r g st pl L R)(hr:rows[st]?=some row)(hd:row[(Zh R pl).getD 0]?=some d):Vs [.ref w] g=.ok d g:=by
 have hst:st<rows.length:=(Ui.mp hr).1;have hs:(Zh R pl).getD 0<row.length:=(Ui.mp hd).1;refine Zb rfl ?_;show KQ [vR w,none] g=_;unfold KQ;refine Qr [vR w,vI ((Zh R pl).getD 0:Nat)] g (QK ?_) (ZP ?_)
 ·unfold X5;rw[EY W rfl,Res.bind_ok];cases h:Zh R pl with
  |none=>rfl|some s=>
   have hl:R.getLast?=some (pl,s):=by
    unfold Zh at h;cases hq:R.getLast? with
    |none=>rw[hq]at h;cases h|some p=>
     obtain⟨z,s'⟩:=p;rw[hq]at h;dsimp only at h;by_cases e:z=pl
     ·rw[Uc e]at h;cases h;rw[e]
     ·rw[Uh e]at h;cases h
   rw[show(some s).isSome=true from rfl,Uc rfl,Hw (W.right rfl) W.r' hl (.inr rfl)];rfl
 ·have e1:QB (.tup (rows.map .tup)) (.int st) g=.ok (.tup row) g:=by unfold QB;dsimp only;unfold VC GQ;rw[Uc (by omega),Uc (by simp;omega)];simp[hr]
  have e2:QB (.tup row) (.int ((Zh R pl).getD 0:Nat)) g=.ok d g:=by unfold QB;dsimp only;unfold VC GQ;rw[Uc (by omega),Uc (by omega)];simp[hd]
  exact Ql (Ql (W.table rfl) (W.state rfl) e1) rfl e2
theorem Cw(h:Zh R pl=some s):R.getLast?=some (pl,s):=by
 unfold Zh at h;cases hq:R.getLast? with
 |none=>rw[hq]at h;cases h|some p=>
  obtain⟨z,s'⟩:=p;rw[hq]at h;dsimp only at h;by_cases e:z=pl
  ·rw[Uc e]at h;cases h;rw[e]
  ·rw[Uh e]at h;cases h
theorem P4(ha:a σ g=.ok (.ref x) g)(hx:g[x]?=vL (KA L))(h:L.getLast?=some p):Qv Ic a σ g=.ok (.tup [.int p.1,.int (p.2:Nat)]) (g.set x (.lst (KA L.dropLast))):=by
 refine ZC ha ?_;unfold Ic;dsimp only;rw[hx];dsimp only;have e:(KA L)[(KA L).length-1]?=some (.tup [.int p.1,.int (p.2:Nat)]):=by rw[Wq]at h;rw[K4];simp[KA,h]
 rw[e];dsimp only;have:(KA L).dropLast=KA L.dropLast:=by simp[KA,Wx]
 rw[this]
theorem Ng(L:List (Int×Nat))(x:Int)(s:Nat):KA L++[.tup [.int x,.int s]]=KA (L++[(x,s)]):=by simp[KA]
theorem WRep.setR(W:WRep rows w l r g st pl L R):WRep rows w l r (g.set r (.lst (KA R'))) st pl L R':=⟨by rw[Ul (Ne.symm W.wr)];exact W.w',by rw[Ul (Ne.symm W.lr)];exact W.l',Zt W.r',W.wl,W.wr,W.lr⟩
theorem WRep.setL(W:WRep rows w l r g st pl L R):WRep rows w l r (g.set l (.lst (KA L'))) st pl L' R:=⟨by rw[Ul (Ne.symm W.wl)];exact W.w',Zt W.l',by rw[Ul W.lr];exact W.r',W.wl,W.wr,W.lr⟩
theorem WRep.setW(W:WRep rows w l r g st pl L R):WRep rows w l r (g.set w (B0 rows st' pl' l r)) st' pl' L R:=⟨Zt W.w',by rw[Ul W.wl];exact W.l',by rw[Ul W.wr];exact W.r',W.wl,W.wr,W.lr⟩
abbrev KW(w l r:Nat)(g g':G):Prop:=Keeps [w,l,r] g g'
theorem K7(h:x=w\/x=l\/x=r):KW w l r g (g.set x o):=(Keeps.set x o).mono λn hn=>by rw[Uf.mp hn];rcases h with rfl|rfl|rfl<;>simp
def YV(R:List (Int×Nat))(pl:Int):List (Int×Nat):=if (Zh R pl).isSome=true then R.dropLast else R
def Il(R:List (Int×Nat))(pl:Int)(s:Nat):List (Int×Nat):=YV R pl++(if s=0 then [] else [(pl,s)])
theorem aP{s:Nat}(W:WRep rows w l r g st pl L R)(hz:R.length<1000):∃g',Vt [.ref w,.int s] g=.ok .non g'/\WRep rows w l r g' st pl L (Il R pl s)/\KW w l r g g':=by
 have a1:∃g1,YE (Qo (Je 12 "is_on_mark" ZF (Qa 0) Qi)) (Zc (Qv Ic (Zd [12] "right_marks" (Qa 0)))) QU [vR w,vI s] g=.nx [vR w,vI s] g1/\WRep rows w l r g1 st pl L (YV R pl)/\KW w l r g g1:=by
  unfold YV;cases h:Zh R pl with
  |none=>exact⟨g,Jh g ((EY W rfl).trans (by rw[h];rfl)) rfl,by simpa using W,.refl⟩|some s'=>exact⟨_,Fe g ((EY W rfl).trans (by rw[h];rfl)) (Yu (P4 (W.right rfl) W.r' (Cw h))),by simpa using W.setR,K7 (.inr (.inr rfl))⟩
 obtain⟨g1,e1,W1,k1⟩:=a1;have hz1:(YV R pl).length<1000:=by
  unfold YV;split
  ·rw[Bc];omega
  ·exact hz
 by_cases hs:s=0
 ·refine⟨g1,BS (σ:=[vR w,vI s]) rfl ?_,by unfold Il;rw[Uc hs,U0];exact W1,k1⟩;show Xn [vR w,vI s] g=_;unfold Xn;exact Qr _ _ e1 (Jh g1 (Q3 (Ql (x:=.int s) (y:=.int 0) (g1:=g1) (g2:=g1) rfl rfl (by rw[ne_int,hs];rfl))) rfl)
 ·refine⟨g1.set r (.lst (KA (YV R pl++[(pl,s)]))),BS (σ:=[vR w,vI s]) rfl ?_,by unfold Il;rw[Uh hs];exact W1.setR,k1.trans (K7 (.inr (.inr rfl)))⟩;show Xn [vR w,vI s] g=_;unfold Xn;refine Qr _ _ e1 (Fe g1 (Q3 (Ql (x:=.int s) (y:=.int 0) (g1:=g1) (g2:=g1) rfl rfl (by rw[ne_int,U8.mpr (by omega)];rfl))) ?_);rw[<-Ng];refine J6 (W1.right rfl) W1.r' ?_ (Jr (by rw[K4];omega));have:(Qb (Zd [12] "place" (Qa 0)) (Qb (Qa 1) Qi)) [vR w,vI s] g1=.ok [.int pl,.int s] g1:=Qx (W1.place rfl) rfl;unfold Qt;rw[this,Res.bind_ok];rfl
theorem Nh(W:WRep rows w l r g st pl L R)(hv:σ[0]?=some (some (.ref w)))(he:e σ g=.ok (.int v) g):ZS [12] "place" (Qa 0) e σ g=.nx σ (g.set w (B0 rows st v l r)):=by unfold ZS Qa;rw[he];dsimp only;rw[hv];dsimp only;rw[W.w'];unfold B0;dsimp only;rw[Uc ⟨by simp,by simp[Kx]⟩,aK]
theorem aQ(W:WRep rows w l r g st pl L R)(hv:σ[0]?=some (some (.ref w)))(he:e σ g=.ok (.int v) g):ZS [12] "state" (Qa 0) e σ g=.nx σ (g.set w (B0 rows v pl l r)):=by unfold ZS Qa;rw[he];dsimp only;rw[hv];dsimp only;rw[W.w'];unfold B0;dsimp only;rw[Uc ⟨by simp,by simp[Kx]⟩,aI]
def J7(L:List (Int×Nat))(x:Int):Option Nat->List (Int×Nat)
 |some s=>L++[(x,s)]|none=>L
theorem Ni(ho:o σ g=.ok (.ref x) g)(ha:a σ g=.ok (.ref y) g)(hx:g[x]?=vL (KA A))(hy:g[y]?=vL (KA B))(hxy:x≠y)(h:B.getLast?=some p)(hz:A.length<1000):
  Zc (Zm o (Qv Ic a)) σ g=.nx σ ((g.set y (.lst (KA B.dropLast))).set x (.lst (KA (A++[p])))):=by
 refine Yu (d:=.non) ?_;have hx1:(g.set y (.lst (KA B.dropLast)))[x]?=vL (KA A):=by rw[Ul (Ne.symm hxy)];exact hx
 have hz':(KA A).length<SZ:=Jr (by rw[K4];omega);unfold Zm;rw[ho,Res.bind_ok];dsimp only;rw[hx];dsimp only;rw[P4 ha hy h,Res.bind_ok];rw[hx1];dsimp only;rw[Uc hz',Ng]
theorem Nj(W:WRep rows w l r g st pl L R)(hz:L.length<1000):∃g',JQ [.ref w] g=.ok .non g'/\WRep rows w l r g' st (pl+1) (J7 L pl (Zh R pl)) (YV R pl)/\KW w l r g g':=by
 have a1:∃g1,YE (Qo (Je 12 "is_on_mark" ZF (Qa 0) Qi)) (Zc (Zm (Zd [12] "left_marks" (Qa 0)) (Qv Ic (Zd [12] "right_marks" (Qa 0))))) QU [vR w] g=.nx [vR w] g1/\WRep rows w l r g1 st pl (J7 L pl (Zh R pl)) (YV R pl)/\KW w l r g g1:=by
  unfold YV;cases h:Zh R pl with
  |none=>exact⟨g,Jh g ((EY W rfl).trans (by rw[h];rfl)) rfl,by simpa[J7]using W,.refl⟩|some s'=>exact⟨_,Fe g ((EY W rfl).trans (by rw[h];rfl)) (Ni (W.left rfl) (W.right rfl) W.l' W.r' W.lr (Cw h) hz),by simpa[J7]using (W.setR (R':=R.dropLast)).setL,(K7 (.inr (.inr rfl))).trans (K7 (.inr (.inl rfl)))⟩
 obtain⟨g1,e1,W1,k1⟩:=a1;refine⟨_,BS (σ:=[vR w]) rfl ?_,W1.setW,k1.trans (K7 (.inl rfl))⟩;show Ve [vR w] g=_;unfold Ve;exact Qr _ _ e1 (Nh W1 rfl (Ql (W1.place rfl) rfl rfl))
theorem OH(W:WRep rows w l r g st pl L R)(hz:R.length<1000):∃g',Xm [.ref w] g=.ok .non g'/\WRep rows w l r g' st (pl-1) (YV L (pl-1)) (J7 R (pl-1) (Zh L (pl-1)))/\KW w l r g g':=by
 have W1:WRep rows w l r (g.set w (B0 rows st (pl-1) l r)) st (pl-1) L R:=W.setW;have k1:KW w l r g (g.set w (B0 rows st (pl-1) l r)):=K7 (.inl rfl);have e1:ZS [12] "place" (Qa 0) (Qe VS (Zd [12] "place" (Qa 0)) (mI 1)) [vR w] g=.nx [vR w] (g.set w (B0 rows st (pl-1) l r)):=Nh W rfl (Ql (W.place rfl) rfl rfl);generalize g.set w (B0 rows st (pl-1) l r)=g1 at W1 k1 e1;have t1:Jj (Qo (Qe Lx (Qv Zr (Zd [12] "left_marks" (Qa 0))) (mI 0))) (Qo (Qe Z5 (Qe QB (Qe QB (Zd [12] "left_marks" (Qa 0)) (Qv Jy (mI 1))) (mI 0)) (Zd [12] "place" (Qa 0)))) [vR w] g1=.ok (Zh L (pl-1)).isSome g1:=by
  have:=P3 (σ:=[vR w]) (W1.left (i:=0) rfl) W1.l' (W1.place (i:=0) rfl);unfold Jx at this;unfold Jj Qo;rw[aN (W1.left rfl) W1.l',Res.bind_ok]at this ⊢;dsimp only at this ⊢;rw[Res.bind_ok];by_cases hp:0<L.length
  ·rw[Uu hp,Uc rfl]at this ⊢;rw[this,Res.bind_ok]
  ·rw[Ur hp,Uh Ue]at this ⊢;injection this with a b;injection a with a;rw[<-a]
 have a2:∃g2,VG [vR w] g=.nx [vR w] g2/\WRep rows w l r g2 st (pl-1) (YV L (pl-1)) (J7 R (pl-1) (Zh L (pl-1)))/\KW w l r g g2:=by
  unfold VG YV;cases h:Zh L (pl-1) with
  |none=>exact⟨g1,Qr _ _ e1 (Jh g1 (t1.trans (by rw[h];rfl)) rfl),by simpa[J7]using W1,k1⟩|some s'=>exact⟨_,Qr _ _ e1 (Fe g1 (t1.trans (by rw[h];rfl)) (Ni (W1.right rfl) (W1.left rfl) W1.r' W1.l' (Ne.symm W1.lr) (Cw h) hz)),by simpa[J7]using (W1.setL (L':=L.dropLast)).setR,k1.trans ((K7 (.inr (.inl rfl))).trans (K7 (.inr (.inr rfl))))⟩
 obtain⟨g2,e2,W2,k2⟩:=a2;exact⟨g2,BS rfl e2,W2,k2⟩
def fV(d:D)(pl:Int)(L R:List (Int×Nat)):Option (Nat×Int×List (Int×Nat)×List (Int×Nat)):=match d with
 |.tup [.int a,.str y,.int b]=>some (if y=rS then (b.toNat,pl+1,J7 L pl (Zh (Il R pl a.toNat) pl),YV (Il R pl a.toNat) pl) else (b.toNat,pl-1,YV L (pl-1),J7 (Il R pl a.toNat) (pl-1) (Zh L (pl-1))))|_=>none
theorem P5(R:List (Int×Nat))(pl:Int)(s:Nat):(Il R pl s).length<=R.length+1:=by unfold Il YV;rw[Uo];split<;>split<;>simp<;>omega
theorem OI{row:List D}{d:D}{n m:Nat}(W:WRep rows w l r g st pl L R)(hr:rows[st]?=some row)(hd:row[(Zh R pl).getD 0]?=some d)(ho:entOk d n m)(hzL:L.length<900)(hzR:R.length<900):
  (d=.non/\ZX [.ref w] g=.ok (.bl false) g)\/∃st' pl' L' R' g',fV d pl L R=some (st',pl',L',R')/\ZX [.ref w] g=.ok (.bl true) g'/\WRep rows w l r g' st' pl' L' R'/\KW w l r g g':=by
 have e0:QF (Qn 1) (Je 12 "entry" Vs (Qa 0) Qi) [vR w,none] g=.nx [vR w,some d] g:=QK (by rw[V1 rfl W.w' rfl rfl];exact aO W hr hd);rcases ho with rfl|⟨a,b,y,rfl,a1,a2,b1,b2,yy⟩
 ·refine .inl ⟨rfl,Zb rfl ?_⟩;show Jq [vR w,none] g=_;unfold Jq;exact Qr _ _ e0 (BR (Fe g rfl rfl))
 ·right;obtain⟨g1,e1,W1,k1⟩:=aP (s:=a.toNat) W (by omega);have ea:((a.toNat:Nat):Int)=a:=by omega
  have eb:((b.toNat:Nat):Int)=b:=by omega
  rw[ea]at e1;have hl1:=P5 R pl a.toNat;have hw:Zc (Je 12 "write" Vt (Qa 0) (Qb (Qe QB (Qa 1) (mI 0)) Qi)) [vR w,vT [.int a,.str y,.int b]] g=.nx [vR w,vT [.int a,.str y,.int b]] g1:=Yu (d:=.non) (by rw[V1 rfl W.w' rfl (xs:=[.int a]) (g2:=g) rfl];exact e1);have fin:∀{pl' L' R' g2},YE (Qo (Qe Z5 (Qe QB (Qa 1) (mI 1)) (Qq (.str "r")))) (Zc (Je 12 "go_right" JQ (Qa 0) Qi)) (Zc (Je 12 "go_left" Xm (Qa 0) Qi)) [vR w,vT [.int a,.str y,.int b]] g1=.nx [vR w,vT [.int a,.str y,.int b]] g2->WRep rows w l r g2 st pl' L' R'->KW w l r g1 g2->∃g',ZX [.ref w] g=.ok (.bl true) g'/\WRep rows w l r g' b.toNat pl' L' R'/\KW w l r g g':=λ{pl' L' R' g2} h W2 k2=>by refine⟨g2.set w (B0 rows b.toNat pl' l r),Zb rfl ?_,W2.setW,(k1.trans k2).trans (K7 (.inl rfl))⟩;show Jq [vR w,none] g=_;unfold Jq;refine Qr _ _ e0 (Qr _ g (Jh g rfl rfl) (Qr _ _ hw (Qr _ _ h (Qr _ _ (aQ W2 rfl ?_) rfl))));rw[eb];rfl
  have t:Qo (Qe Z5 (Qe QB (Qa 1) (mI 1)) (Qq (.str "r"))) [vR w,vT [.int a,.str y,.int b]] g1=.ok (y==rS) g1:=by rw[cS];exact Q3 (Ql (x:=.str y) (Ql rfl rfl rfl) rfl rfl)
  by_cases hy:y=rS
  ·obtain⟨g2,e2,W2,k2⟩:=Nj W1 (by omega);obtain⟨g',e3,W3,k3⟩:=fin (Fe g1 (t.trans (by simp[hy])) (Yu (d:=.non) (by rw[V1 rfl W1.w' rfl rfl];exact e2))) W2 k2;exact⟨_,_,_,_,g',by unfold fV;dsimp only;rw[Uc hy],e3,W3,k3⟩
  ·obtain⟨g2,e2,W2,k2⟩:=OH W1 (by omega);obtain⟨g',e3,W3,k3⟩:=fin (Jh g1 (t.trans (by simp[hy])) (Yu (d:=.non) (by rw[V1 rfl W1.w' rfl rfl];exact e2))) W2 k2;exact⟨_,_,_,_,g',by unfold fV;dsimp only;rw[Uh hy],e3,W3,k3⟩
structure Cf where
 st:Nat
 pl:Int
 L:List (Int×Nat)
 R:List (Int×Nat)
def Hx(rows:List (List D))(s c:Nat):Option D:=(rows[s]?).bind λr=>r[c]?
def B1(rows:List (List D))(c:Cf):Option Cf:=((Hx rows c.st ((Zh c.R c.pl).getD 0)).bind λd=>fV d c.pl c.L c.R).map λx=>⟨x.1,x.2.1,x.2.2.1,x.2.2.2⟩
def WX(rows:List (List D)):Nat->Cf->Cf×Nat
 |0,c=>(c,0)|k+1,c=>match B1 rows c with
  |none=>(c,0)|some c'=>((WX rows k c').1,(WX rows k c').2+1)
theorem Lb{rows:List (List D)}{k:Nat}{c c':Cf}(h:B1 rows c=some c'):WX rows (k+1) c=((WX rows k c').1,(WX rows k c').2+1):=by show(match B1 rows c with|none=>(c,0)|some c'=>((WX rows k c').1,(WX rows k c').2+1))=_;rw[h]
theorem Ay{rows:List (List D)}{k:Nat}{c:Cf}(h:B1 rows c=none):WX rows (k+1) c=(c,0):=by show(match B1 rows c with|none=>(c,0)|some c'=>((WX rows k c').1,(WX rows k c').2+1))=_;rw[h]
structure OkC(n m:Nat)(c:Cf):Prop where
 st:c.st<n
 L:∀p∈c.L,p.2<m
 R:∀p∈c.R,p.2<m
theorem OkC.sg{n m:Nat}{c:Cf}(h:OkC n m c)(hm:0<m):(Zh c.R c.pl).getD 0<m:=by
 cases e:Zh c.R c.pl with
 |none=>exact hm|some s=>exact h.R _ (T9 (Cw e))
theorem LY{R:List (Int×Nat)}{x:Int}{p:Int×Nat}(h:p∈YV R x):p∈R:=by
 unfold YV at h;split at h
 ·exact List.dropLast_subset _ h
 ·exact h
theorem P6{L:List (Int×Nat)}{x:Int}{o:Option Nat}{p:Int×Nat}(h:p∈J7 L x o):p∈L\/o=some p.2:=by
 cases o with
 |none=>exact .inl h|some s=>
  rcases UG.mp h with z|z
  ·exact .inl z
  ·rw[Uf.mp z];exact .inr rfl
theorem fW{R:List (Int×Nat)}{x:Int}{s:Nat}{p:Int×Nat}(h:p∈Il R x s):p∈R\/p=(x,s):=by
 unfold Il at h;rcases UG.mp h with z|z
 ·exact .inl (LY z)
 ·split at z
  ·cases z
  ·exact .inr (Uf.mp z)
theorem fX{rows:List (List D)}{n m:Nat}{c c':Cf}{d:D}(h:OkC n m c)(ho:entOk d n m)(hg:(fV d c.pl c.L c.R).map (λx=>(⟨x.1,x.2.1,x.2.2.1,x.2.2.2⟩:Cf))=some c'):OkC n m c'/\c'.L.length+c'.R.length<=c.L.length+c.R.length+1:=by
 rcases ho with rfl|⟨a,b,y,rfl,a1,a2,b1,b2,yy⟩
 ·cases hg
 ·have hw:∀p∈Il c.R c.pl a.toNat,p.2<m:=λp hp=>by
   rcases fW hp with z|z
   ·exact h.R p z
   ·rw[z];show a.toNat<m;omega
  have hwl:=P5 c.R c.pl a.toNat;have lens:∀(A B:List (Int×Nat))(x:Int),(J7 A x (Zh B x)).length+(YV B x).length=A.length+B.length:=λA B x=>by
   unfold YV;cases e:Zh B x with
   |none=>simp[J7]|some s=>
    have hne:B≠[]:=λz=>by rw[z]at e;cases e
    have:=Tq.mpr hne;simp[J7];omega
  unfold fV at hg;dsimp only at hg;by_cases hy:y=rS
  ·rw[Uc hy]at hg;cases hg;refine⟨⟨by show b.toNat<n;omega,λp hp=>?_,λp hp=>hw p (LY hp)⟩,by have:=lens c.L (Il c.R c.pl a.toNat) c.pl;show(J7 c.L c.pl (Zh (Il c.R c.pl a.toNat) c.pl)).length+(YV (Il c.R c.pl a.toNat) c.pl).length<=_;omega⟩;rcases P6 hp with z|z
   ·exact h.L p z
   ·exact hw (c.pl,p.2) (T9 (Cw z))
  ·rw[Uh hy]at hg;cases hg;refine⟨⟨by show b.toNat<n;omega,λp hp=>h.L p (LY hp),λp hp=>?_⟩,by have:=lens (Il c.R c.pl a.toNat) c.L (c.pl-1);show(YV c.L (c.pl-1)).length+(J7 (Il c.R c.pl a.toNat) (c.pl-1) (Zh c.L (c.pl-1))).length<=_;omega⟩;rcases P6 hp with z|z
   ·exact hw p z
   ·exact h.L (c.pl-1,p.2) (T9 (Cw z))
structure Tb(rows:List (List D))(n m:Nat):Prop where
 n0:0<n
 m0:0<m
 n12:n<=12
 m8:m<=8
 len:rows.length=n
 row:∀r∈rows,r.length=m
 ent:∀r∈rows,∀d∈r,entOk d n m
theorem Tb.at{rows:List (List D)}{n m s c:Nat}(T:Tb rows n m)(hs:s<n)(hc:c<m):∃row d,rows[s]?=some row/\row[c]?=some d/\entOk d n m/\Hx rows s c=some d:=by
 have h1:s<rows.length:=by rw[T.len];exact hs
 have hm:=UK h1;have h2:c<rows[s].length:=by rw[T.row _ hm];exact hc
 refine⟨rows[s],rows[s][c],by simp,by simp,T.ent _ hm _ (UK h2),?_⟩;unfold Hx;simp[h1,h2]
def Az(rows:List (List D))(w l r:Nat)(g:G)(c:Cf):Prop:=WRep rows w l r g c.st c.pl c.L c.R
theorem Nk{rows:List (List D)}{n m w l r:Nat}{steps:Int}(T:Tb rows n m):∀(k:Nat)(c:Cf)(g:G)(done:Int),done+k=steps->OkC n m c->c.L.length+c.R.length+k<800->Az rows w l r g c->∃g',Jc (Jj (Qo (Qe Fd (Qa 2) (Qa 1))) (Qo (Je 12 "stepped" ZX (Qa 0) Qi))) WK (k+1) [vR w,vI steps,vI done] g=.nx [vR w,vI steps,vI (done+(WX rows k c).2)] g'/\Az rows w l r g' (WX rows k c).1/\KW w l r g g'/\OkC n m (WX rows k c).1
 |0,c,g,done,hd,ho,hz,W=>by
  refine⟨g,?_,W,.refl,ho⟩;unfold Jc;have t:Jj (Qo (Qe Fd (Qa 2) (Qa 1))) (Qo (Je 12 "stepped" ZX (Qa 0) Qi)) [vR w,vI steps,vI done] g=.ok false g:=by have:Qo (Qe Fd (Qa 2) (Qa 1)) [vR w,vI steps,vI done] g=.ok (decide (done<steps)) g:=rfl;unfold Jj;rw[this,Res.bind_ok,Ur (by omega)];rfl
  rw[t];simp[WX]
 |k+1,c,g,done,hd,ho,hz,W=>by
  obtain⟨row,d,hr,hdd,hent,hat⟩:=T.at ho.st (ho.sg T.m0);have lt:Qo (Qe Fd (Qa 2) (Qa 1)) [vR w,vI steps,vI done] g=.ok true g:=by have:Qo (Qe Fd (Qa 2) (Qa 1)) [vR w,vI steps,vI done] g=.ok (decide (done<steps)) g:=rfl;rw[this,Uu (by omega)]
  have tt:∀b g1,ZX [.ref w] g=.ok (.bl b) g1->Jj (Qo (Qe Fd (Qa 2) (Qa 1))) (Qo (Je 12 "stepped" ZX (Qa 0) Qi)) [vR w,vI steps,vI done] g=.ok b g1:=λb g1 h=>by unfold Jj;rw[lt,Res.bind_ok,Uc rfl];exact Q3 (by rw[V1 rfl W.w' rfl rfl];exact h)
  rcases OI W hr hdd hent (by omega) (by omega) with⟨rfl,e⟩|⟨st',pl',L',R',g1,eg,e,W1,k1⟩
  ·have hs:B1 rows c=none:=by unfold B1;rw[hat];rfl
   rw[Ay hs];refine⟨g,?_,W,.refl,ho⟩;unfold Jc;rw[tt false g e];simp
  ·have hs:B1 rows c=some ⟨st',pl',L',R'⟩:=by unfold B1;rw[hat];show(fV d c.pl c.L c.R).map _=_;rw[eg];rfl
   obtain⟨ho',hl'⟩:=fX (rows:=rows) ho hent (c':=⟨st',pl',L',R'⟩) (by rw[eg];rfl);obtain⟨g2,e2,W2,k2,o2⟩:=Nk (w:=w) (l:=l) (r:=r) (steps:=steps) T k ⟨st',pl',L',R'⟩ g1 (done+1) (by omega) ho' (by show L'.length+R'.length+k<800;have:L'.length+R'.length<=c.L.length+c.R.length+1:=hl';omega) W1;rw[Lb hs];refine⟨g2,?_,W2,k1.trans k2,o2⟩;unfold Jc;rw[tt true g1 e];have eb:WK [vR w,vI steps,vI done] g1=.nx [vR w,vI steps,vI (done+1)] g1:=rfl;dsimp only;rw[eb];dsimp only;rw[e2];rw[show done+1+((WX rows k ⟨st',pl',L',R'⟩).2:Int)=done+(((WX rows k ⟨st',pl',L',R'⟩).2+1:Nat):Int) by omega]
theorem lT{rows:List (List D)}{n m w l r k:Nat}{c:Cf}{g:G}(T:Tb rows n m)(ho:OkC n m c)(hz:c.L.length+c.R.length+k<800)(W:Az rows w l r g c):
  ∃g',C9 [.ref w,.int k] g=.ok (.int (WX rows k c).2) g'/\Az rows w l r g' (WX rows k c).1/\KW w l r g g'/\OkC n m (WX rows k c).1:=by
 obtain⟨g',e,W',k',o'⟩:=Nk (w:=w) (l:=l) (r:=r) (steps:=k) T k c g 0 (by omega) ho hz W;rw[TY]at e;refine⟨g',Zb rfl ?_,W',k',o'⟩;show C6 [vR w,vI k,none] g=_;unfold C6;exact Qr [vR w,vI k,vI 0] g rfl (Qr _ g' (D6 e (by intro z;cases z)) rfl)
def aR(c:Cf):D:=.tup [.int c.st,.int c.pl,.tup (KA (c.L++c.R.reverse))]
theorem fY{rows:List (List D)}{w l r:Nat}{c:Cf}{g:G}(hz:c.L.length+c.R.length<=1000)(W:Az rows w l r g c):BQ [.ref w] g=.ok (aR c) g:=by
 refine Zb rfl (ZP ?_);have hz':(KA c.L).length+((KA c.R).reverse).length<=SZ:=UP (Jr (by rw[U4,K4,K4];exact hz));have e1:Qe QD (Qv ZT (Zd [12] "left_marks" (Qa 0))) (Qv Vx (Zd [12] "right_marks" (Qa 0))) [vR w] g=.ok (.tup (KA (c.L++c.R.reverse))) g:=by
  refine Ql (x:=.tup (KA c.L)) (y:=.tup (KA c.R).reverse) (g1:=g) (g2:=g) (ZC (W.left rfl) (by simp[ZT,W.l'])) (ZC (W.right rfl) ?_) ?_
  ·unfold Vx;rw[QX W.r']
  ·unfold QD;dsimp only;rw[Uc hz'];simp[KA,List.map_reverse]
 have e2:(Qb (Zd [12] "state" (Qa 0)) (Qb (Zd [12] "place" (Qa 0)) (Qb (Qe QD (Qv ZT (Zd [12] "left_marks" (Qa 0))) (Qv Vx (Zd [12] "right_marks" (Qa 0)))) Qi))) [vR w] g=.ok [.int c.st,.int c.pl,.tup (KA (c.L++c.R.reverse))] g:=Qx (W.state rfl) (Qx (W.place rfl) (Qx e1 rfl));unfold Qt;show(Qb _ _ [vR w] g).bind QC=_;rw[e2,Res.bind_ok];rfl
def c0:Cf:=⟨0,0,[],[]⟩
def Bs:D:=.tup [.int 0,.int 0,.tup []]
theorem fZ(t s p l r:D):YM "right_marks" r (YM "left_marks" l (YM "place" p (YM "state" s (YM "table" t []))))=Kx t s p l r:=rfl
theorem VN(he:e σ g=.ok v g1)(hv:σ[0]?=some (some (.ref w)))(h:g1[w]?=some (.ins c fs))(hc:c∈cs)(hl:fs.length<100):ZS cs f (Qa 0) e σ g=.nx σ (g1.set w (.ins c (YM f v fs))):=by unfold ZS Qa;rw[he];dsimp only;rw[hv];dsimp only;rw[h];dsimp only;rw[Uc ⟨hc,hl⟩]
theorem EZ(f:Str)(v:D):∀fs:List (Str×D),(YM f v fs).length<=fs.length+1
 |[]=>by simp[YM]
 | (k,x)::r=>by
  unfold YM;split
  ·simp
  ·have:=EZ f v r;simp;omega
theorem Nl(h1:it σ g=.ok src g)(h2:src.top=0)(h3:src.at' g 0=some none):ZQ it n cap t c e σ g=.ok (.ref g.length) (g++[.lst []]):=by refine JC h1 (by rw[h2];exact RT _) rfl ?_;rw[h2];unfold Jd;rw[h3]
theorem AA(ha:a σ g0=.ok [.ref M,Bs] g)(hM:g[M]?=some (ZK rows)):
  ∃w l r g',Bn 12 VZ a σ g0=.ok (.ref w) g'/\Az rows w l r g' c0/\Keeps [] g g'/\g.length<=w/\g.length<=l/\g.length<=r:=by
 have kp:Keeps [] g (g++[.ins 12 []]):=.push _;have gw:(g++[.ins 12 []])[g.length]?=some (.ins 12 []):=Qp _;have hMl:M<g.length:=Zf hM;have hl1:(g++[GO.ins 12 []]).length=g.length+1:=by simp
 generalize hw:g.length=w at gw hMl hl1;have kp':=kp;generalize hg1:g++[GO.ins 12 []]=g1 at gw kp hl1;have hM1:=kp.a hM;have σl:∀x:S3,x=[vR w,vR M,some Bs]->x[0]?=some (some (.ref w)):=λx h=>by rw[h];rfl
 -- table
 have e1:=VN (cs:=[11,12]) (f:="table") (e:=Zd [11,12] "table" (Qa 1)) (σ:=[vR w,vR M,some Bs]) (KY rfl hM1) rfl gw (by simp) (by simp);have k1:Keeps [w] g1 (g1.set w (.ins 12 (YM "table" (.tup (rows.map .tup)) []))):=.set _ _;have gw1:(g1.set w (.ins 12 (YM "table" (.tup (rows.map .tup)) [])))[w]?=some (.ins 12 (YM "table" (.tup (rows.map .tup)) [])):=Zt gw;have hl2:(g1.set w (.ins 12 (YM "table" (.tup (rows.map .tup)) []))).length=w+1:=by rw[UH];exact hl1
 generalize g1.set w (.ins 12 (YM "table" (.tup (rows.map .tup)) []))=g2 at e1 k1 gw1 hl2;have b1:=EZ (Str.ofString "table") (.tup (rows.map .tup)) [];generalize hf1:YM "table" (.tup (rows.map .tup)) []=f1 at gw1 b1
 -- state
 have e2:=VN (cs:=[12]) (f:="state") (e:=Qe QB (Qa 2) (mI 0)) (σ:=[vR w,vR M,some Bs]) (g:=g2) (g1:=g2) (v:=.int 0) rfl rfl gw1 (by simp) (by simp at b1;omega);have k2:Keeps [w] g2 (g2.set w (.ins 12 (YM "state" (.int 0) f1))):=.set _ _;have gw2:(g2.set w (.ins 12 (YM "state" (.int 0) f1)))[w]?=some (.ins 12 (YM "state" (.int 0) f1)):=Zt gw1;have hl3:(g2.set w (.ins 12 (YM "state" (.int 0) f1))).length=w+1:=by rw[UH];exact hl2
 generalize g2.set w (.ins 12 (YM "state" (.int 0) f1))=g3 at e2 k2 gw2 hl3;have b2:=EZ (Str.ofString "state") (.int 0) f1;generalize hf2:YM "state" (.int 0) f1=f2 at gw2 b2
 -- place
 have e3:=VN (cs:=[12]) (f:="place") (e:=Qe QB (Qa 2) (mI 1)) (σ:=[vR w,vR M,some Bs]) (g:=g3) (g1:=g3) (v:=.int 0) rfl rfl gw2 (by simp) (by simp at b1;omega);have k3:Keeps [w] g3 (g3.set w (.ins 12 (YM "place" (.int 0) f2))):=.set _ _;have gw3:(g3.set w (.ins 12 (YM "place" (.int 0) f2)))[w]?=some (.ins 12 (YM "place" (.int 0) f2)):=Zt gw2;have hl4:(g3.set w (.ins 12 (YM "place" (.int 0) f2))).length=w+1:=by rw[UH];exact hl3
 generalize g3.set w (.ins 12 (YM "place" (.int 0) f2))=g4 at e3 k3 gw3 hl4;have b3:=EZ (Str.ofString "place") (.int 0) f2;generalize hf3:YM "place" (.int 0) f2=f3 at gw3 b3
 -- left_marks
 have ec:∀{c:MT}{e:ME}(g:G),ZQ (QQ (Qe QB (Qa 2) (mI 2))) 2 [0] (Xd [(Qn 0),(Qn 1)]) c e [vR w,vR M,some Bs] g=.ok (.ref g.length) (g++[.lst []]):=λ{c e} g=>Nl (src:=⟨λ_ i=>some ([]:List D)[i]?,0⟩) rfl rfl rfl;have er:∀{c:MT}{e:ME}(g:G),ZQ (Fp (Qe QB (Qa 2) (mI 2))) 2 [0] (Xd [(Qn 0),(Qn 1)]) c e [vR w,vR M,some Bs] g=.ok (.ref g.length) (g++[.lst []]):=λ{c e} g=>Nl rfl rfl rfl;have k5:Keeps [] g4 (g4++[.lst []]):=.push _;have gl5:(g4++[.lst []])[w+1]?=vL []:=by rw[<-hl4];exact Qp _
 have gw5:=k5.a gw3;have hl5:(g4++[GO.lst []]).length=w+2:=by rw[Uo,hl4];rfl
 have e4:=λ(c:MT)(e:ME)=>VN (cs:=[12]) (f:="left_marks") (σ:=[vR w,vR M,some Bs]) (ec (c:=c) (e:=e) g4) rfl gw5 (by simp) (by simp at b1;omega);rw[hl4]at e4;generalize g4++[GO.lst []]=g5 at k5 gl5 gw5 hl5 e4;have k6:Keeps [w] g5 (g5.set w (.ins 12 (YM "left_marks" (.ref (w+1)) f3))):=.set _ _;have gw6:(g5.set w (.ins 12 (YM "left_marks" (.ref (w+1)) f3)))[w]?=some (.ins 12 (YM "left_marks" (.ref (w+1)) f3)):=Zt gw5;have gl6:=k6.at' (w+1) _ (by simp) gl5;have hl6:(g5.set w (.ins 12 (YM "left_marks" (.ref (w+1)) f3))).length=w+2:=by rw[UH];exact hl5
 generalize g5.set w (.ins 12 (YM "left_marks" (.ref (w+1)) f3))=g6 at k6 gw6 gl6 hl6 e4;have b4:=EZ (Str.ofString "left_marks") (.ref (w+1)) f3;generalize hf4:YM "left_marks" (.ref (w+1)) f3=f4 at gw6 b4
 -- right_marks
 have k7:Keeps [] g6 (g6++[.lst []]):=.push _;have gr7:(g6++[.lst []])[w+2]?=vL []:=by rw[<-hl6];exact Qp _
 have gw7:=k7.a gw6;have gl7:=k7.a gl6;have e5:=λ(c:MT)(e:ME)=>VN (cs:=[12]) (f:="right_marks") (σ:=[vR w,vR M,some Bs]) (er (c:=c) (e:=e) g6) rfl gw7 (by simp) (by simp at b1;omega);rw[hl6]at e5;generalize g6++[GO.lst []]=g7 at k7 gr7 gw7 gl7 e5;have k8:Keeps [w] g7 (g7.set w (.ins 12 (YM "right_marks" (.ref (w+2)) f4))):=.set _ _;refine⟨w,w+1,w+2,g7.set w (.ins 12 (YM "right_marks" (.ref (w+2)) f4)),?_,⟨?_,k8.at' _ _ (by simp) gl7,k8.at' _ _ (by simp) gr7,by omega,by omega,by omega⟩,?_,by omega,by omega,by omega⟩
 ·have:VZ [.ref w,.ref M,Bs] g1=.ok .non (g7.set w (.ins 12 (YM "right_marks" (.ref (w+2)) f4))):=by refine BS (σ:=[vR w,vR M,some Bs]) rfl ?_;show BP [vR w,vR M,some Bs] g1=_;unfold BP;exact Qr _ _ e1 (Qr _ _ e2 (Qr _ _ e3 (Qr _ _ (e4 _ _) (e5 _ _))))
  unfold Bn;rw[ha,Res.bind_ok,hw,hg1,this,Res.bind_ok]
 ·rw[Zt gw7,<-hf4,<-hf3,<-hf2,<-hf1,fZ];rfl
 ·have kk:Keeps [w] g1 (g7.set w (.ins 12 (YM "right_marks" (.ref (w+2)) f4))):=k1.trans (k2.trans (k3.trans (k5.all.trans (k6.trans (k7.all.trans k8)))));refine⟨Up kp.len kk.len,λb o hb eb=>?_⟩;have:b<w:=by rw[<-hw];exact Zf eb
  exact kk.at' b o (by simp;omega) (kp.at' b o hb eb)
theorem wT(T:Tb rows n m):OkC n m c0:=⟨T.n0,λp hp=>(RM hp).elim,λp hp=>(RM hp).elim⟩
theorem KW.old(k:KW w l r g g')(k0:Keeps [] g0 g)(h1:g0.length<=w)(h2:g0.length<=l)(h3:g0.length<=r):Keeps [] g0 g':=⟨Up k0.len k.len,λb o hb eb=>by have:b<g0.length:=Zf eb;exact k.at' b o (by simp;omega) (k0.at' b o hb eb)⟩
end L3
namespace L3
abbrev Zp:=Nat×List Nat×List Nat
def AB(n st s:Nat):Option (Nat×Bool×Nat):=if s=0 then (if st=0 then some (1,true,1) else if st=1 then some (2,decide (1<n),if 1<n then 3 else 2) else if 3<=st/\st<n+2 then some (st,decide (st<n+1),if st<n+1 then st+1 else 2) else none)
 else if s=1 then (if st=2 then some (1,true,1) else none)
 else if s<n+2 then (if st=1 then some (s+n,true,1) else if st=2 then some (s,false,2) else none)
 else if s<2*n+2 then (if st=2 then some (s-n,false,2) else none) else none
def Lc(n:Nat)(z:Zp):Option Zp:=match AB n z.1 (z.2.2.headD 0),z.2.1 with
 |some (a,true,s),l=>some (s,a::l,z.2.2.tail)|some (a,false,s),x::l=>some (s,l,x::a::z.2.2.tail)|_,_=>none
def FK(n:Nat):Nat->Zp->Option Zp
 |0,z=>some z|k+1,z=>(Lc n z).bind (FK n k)
inductive At where
 |one (s:Nat)|many (far:Bool) (k:Nat)
 deriving DecidableEq
def cU(n:Nat)(far:Bool):List Nat:=(List.range n).map λi=>i+2+(if far then n else 0)
def gA(n c:Nat):At->List Nat
 |.one s=>[s]|.many far k=>(List.replicate (c+k) (cU n far)).flatten
def Zg(n c:Nat)(ts:List At):List Nat:=ts.flatMap (gA n c)
abbrev Sa:=Nat×Bool×List At×List At
def Q7(n e t:Nat):Sa:=if t=0 then (1,true,[.one 1],[.many false e])
 else if t=1 then (1,true,[.one 1,.many true e],[])
 else if t<n+1 then (t+1,true,[.one 1,.many true e]++((List.range (t-1)).map λi=>.one (i+2)),[])
 else if t<2*n+1 then (2,false,[.one 1,.many true e]++((List.range (2*n-t)).map λi=>.one (i+2)),((List.range (t-n)).map λi=>.one (i+2+(2*n-t))))
 else if t=2*n+1 then (2,false,[.one 1],.many false e::((List.range n).map λi=>.one (i+2)))
 else (1,true,[.one 1],.many false e::((List.range n).map λi=>.one (i+2)))
def Ej(n c:Nat)(s:Sa):Zp:=
 let l:=(Zg n c s.2.2.1).reverse
 let r:=Zg n c s.2.2.2
 if s.2.1=true then (s.1,l,r) else (s.1,l.tail,l.headD 0::r)
def Kh(n t c:Nat):Nat:=if t=0 then 0 else if t<=2*n then n*c+(t-1) else if t=2*n+1 then 2*n*c+(2*n-1) else 2*n*c+2*n
def Vb(n t:Nat):Nat->Nat
 |0=>1+Kh n t 0|e+1=>Vb n t e+(Kh n (2*n+3) e-Kh n t e)+Kh n t (e+1)
open PySem
def ph(nw fw:List Int)(s:Nat):Int:=([0,1]++nw++fw).getD s 0
structure Bo(rows:List (List D))(n:Nat)(nw fw:List Int):Prop where
 n0:0<n
 n4:n<=4
 nl:nw.length=n
 fl:fw.length=n
 pos:∀s,s≠0->s<2*n+2->0<ph nw fw s
 ent:∀st s a w st',AB n st s=some (a,w,st')->en rows st (ph nw fw s)=some (ph nw fw a,w,(st':Int))
theorem P7(h:AB n st s=some (a,w,st'))(n0:0<n):a≠0/\a<2*n+2/\(st'<n+2/\st'≠0):=by
 unfold AB at h;split at h
 ·split at h
  ·cases h;omega
  ·split at h
   ·cases h;split<;>omega
   ·split at h
    ·cases h;split<;>omega
    ·cases h
 ·split at h
  ·split at h
   ·cases h;omega
   ·cases h
  ·split at h
   ·split at h
    ·cases h;omega
    ·split at h
     ·cases h;omega
     ·cases h
   ·split at h
    ·split at h
     ·cases h;omega
     ·cases h
    ·cases h
def OkZ(n:Nat)(z:Zp):Prop:=(∀x∈z.2.1,x≠0/\x<2*n+2)/\(∀x∈z.2.2,x≠0/\x<2*n+2)/\z.1<n+2
theorem B2(h:Lc n z=some z'):∃a w s,AB n z.1 (z.2.2.headD 0)=some (a,w,s)/\((w=true/\z'=(s,a::z.2.1,z.2.2.tail))\/∃x l,w=false/\z.2.1=x::l/\z'=(s,l,x::a::z.2.2.tail)):=by
 obtain⟨st,L,R⟩:=z;unfold Lc at h;dsimp only at h ⊢;cases e:AB n st (R.headD 0) with
 |none=>rw[e]at h;cases L<;>cases h|some v=>
  obtain⟨a,w,s⟩:=v;rw[e]at h;cases w with
  |true=>cases h;exact⟨a,true,s,rfl,.inl ⟨rfl,rfl⟩⟩|false=>cases L with
   |nil=>cases h|cons x l=>cases h;exact⟨a,false,s,rfl,.inr ⟨x,l,rfl,rfl,rfl⟩⟩
theorem OkZ.step(o:OkZ n z)(n0:0<n)(h:Lc n z=some z'):OkZ n z':=by
 obtain⟨st,L,R⟩:=z;obtain⟨a,w,s,e,h⟩:=B2 h;obtain⟨a0,a1,s1,_⟩:=P7 e n0;obtain⟨o1,o2,o3⟩:=o;dsimp only at *;have ot:∀x∈R.tail,x≠0/\x<2*n+2:=λx hx=>o2 x (Bf hx);rcases h with⟨_,rfl⟩|⟨x,l,_,rfl,rfl⟩
 ·refine⟨λy hy=>?_,ot,s1⟩;rcases Ud.mp hy with rfl|hy
  ·exact⟨a0,a1⟩
  ·exact o1 y hy
 ·refine⟨λy hy=>o1 y (Uw _ hy),λy hy=>?_,s1⟩;rcases Ud.mp hy with rfl|hy
  ·exact o1 _ UC
  ·rcases Ud.mp hy with rfl|hy
   ·exact⟨a0,a1⟩
   ·exact ot y hy
def BA(nw fw:List Int)(d:Int):List Nat->Int->List (Int×Nat)
 |[],_=>[]|x::r,p=>BA nw fw d r (p+d)++[(p,(ph nw fw x).toNat)]
def aS(nw fw:List Int)(z:Zp)(p:Int):Cf:=⟨z.1,p,BA nw fw (-1) z.2.1 (p-1),BA nw fw 1 z.2.2 p⟩
theorem Cy   : Zh (L++[(p,s)]) p=some s:=by unfold Zh;rw[List.getLast?_concat];exact Uc rfl
theorem Hy   : YV (L++[(p,s)]) p=L:=by unfold YV;rw[Cy];simp
theorem aT(R:List Nat)(p:Int):(Zh (BA nw fw 1 R p) p).getD 0=(ph nw fw (R.headD 0)).toNat:=by
 cases R with
 |nil=>rfl|cons x r=>unfold BA;rw[Cy];rfl
theorem gB(R:List Nat)(p:Int):YV (BA nw fw 1 R p) p=BA nw fw 1 R.tail (p+1):=by
 cases R with
 |nil=>rfl|cons x r=>exact Hy
theorem pG{st s:Nat}{a b:Int}{w:Bool}(h:en rows st s=some (a,w,b)):∃y,Hx rows st s=some (.tup [.int a,.str y,.int b])/\(y==Str.ofString "r")=w:=by
 unfold en at h;unfold Hx;rw[UR,UR]at h;cases e:rows[st]? with
 |none=>rw[e]at h;cases h|some r=>
  rw[e]at h;have h:A3 (r[s]?.getD .non)=some (a,w,b):=h;rw[US];cases e':r[s]? with
  |none=>rw[e']at h;cases h|some d=>
   rw[e']at h;have h:A3 d=some (a,w,b):=h;unfold A3 at h;split at h
   ·cases h;exact⟨_,rfl,rfl⟩
   ·cases h
theorem AC(B:Bo rows n nw fw)(o:OkZ n z)(h:Lc n z=some z')(p:Int):∃p',B1 rows (aS nw fw z p)=some (aS nw fw z' p'):=by
 obtain⟨st,L,R⟩:=z;obtain⟨a,w,s,e,h⟩:=B2 h;obtain⟨a0,a1,_,_⟩:=P7 e B.n0;have he:=B.ent _ _ _ _ _ e;have hs:0<=ph nw fw (R.headD 0):=by
  cases R with
  |nil=>exact Int.le_refl 0|cons x r=>have:=o.2.1 x UC;exact Int.le_of_lt (B.pos x this.1 this.2)
 have he:en rows st ((ph nw fw (R.headD 0)).toNat:Nat)=some (ph nw fw a,w,(s:Int)):=by rw[Rf hs];exact he
 obtain⟨y,e1,e2⟩:=pG he;have ha:=B.pos a a0 a1;have hw:Il (BA nw fw 1 R p) p (ph nw fw a).toNat=BA nw fw 1 (a::R.tail) p:=by unfold Il;rw[gB,Uh (by omega)];rfl
 have el:Hx rows (aS nw fw (st,L,R) p).st ((Zh (aS nw fw (st,L,R) p).R (aS nw fw (st,L,R) p).pl).getD 0)=some (.tup [.int (ph nw fw a),.str y,.int s]):=by show Hx rows st ((Zh (BA nw fw 1 R p) p).getD 0)=_;rw[aT];exact e1
 unfold B1;rw[el,US];have gl:fV (.tup [.int (ph nw fw a),.str y,.int s]) p (BA nw fw (-1) L (p-1)) (BA nw fw 1 R p)=some (if y=rS then ((s:Int).toNat,p+1,J7 (BA nw fw (-1) L (p-1)) p (Zh (Il (BA nw fw 1 R p) p (ph nw fw a).toNat) p),YV (Il (BA nw fw 1 R p) p (ph nw fw a).toNat) p) else ((s:Int).toNat,p-1,YV (BA nw fw (-1) L (p-1)) (p-1),J7 (Il (BA nw fw 1 R p) p (ph nw fw a).toNat) (p-1) (Zh (BA nw fw (-1) L (p-1)) (p-1)))):=rfl;show ∃p',((fV (.tup [.int (ph nw fw a),.str y,.int s]) p (BA nw fw (-1) L (p-1)) (BA nw fw 1 R p)).map _)=_;rw[gl,hw,Option.map_some,UR];rcases h with⟨rfl,rfl⟩|⟨x,l,rfl,hl,rfl⟩
 ·have hy:y=rS:=by have:=Wp e2;rw[this,cS];rfl
  rw[Uc hy];refine⟨p+1,Tp some ?_⟩;show(⟨s,p+1,J7 _ p (Zh (BA nw fw 1 R.tail (p+1)++[(p,_)]) p),YV (BA nw fw 1 R.tail (p+1)++[(p,_)]) p⟩:Cf)=_;rw[Cy,Hy];show _=(⟨s,p+1,BA nw fw (-1) (a::L) (p+1-1),_⟩:Cf);rw[show p+1-1=p by omega];show _=(⟨s,p+1,BA nw fw (-1) L (p + -1)++[(p,_)],_⟩:Cf);rfl
 ·have hl:L=x::l:=hl;subst hl;have hy:y≠rS:=λz=>by rw[z]at e2;rw[cS]at e2;exact absurd e2 (by decide)
  rw[Uh hy];refine⟨p-1,Tp some ?_⟩;show(⟨s,p-1,YV (BA nw fw (-1) l (p-1 + -1)++[(p-1,_)]) (p-1),J7 _ (p-1) (Zh (BA nw fw (-1) l (p-1 + -1)++[(p-1,_)]) (p-1))⟩:Cf)=_;rw[Cy,Hy];show _=(⟨s,p-1,_,BA nw fw 1 (a::R.tail) (p-1+1)++[(p-1,_)]⟩:Cf);rw[show p-1+1=p by omega];rfl
theorem Nm(B:Bo rows n nw fw):∀(k:Nat){z z':Zp}(p:Int),OkZ n z->FK n k z=some z'->∃p',WX rows k (aS nw fw z p)=(aS nw fw z' p',k)/\OkZ n z'
 |0,_,_,p,o,h=>by cases h;exact⟨p,rfl,o⟩
 |k+1,z,z',p,o,h=>by unfold FK at h;obtain⟨y,h1,h2⟩:=UN.mp h;obtain⟨q,e1⟩:=AC B o h1 p;obtain⟨p',e2,o'⟩:=Nm B k q (o.step B.n0 h1) h2;exact⟨p',by rw[Lb e1,e2],o'⟩
theorem Hz:∀(A B:List Int)(p:Int),QW (A++B) p=QW A p++QW B (p+A.length)
 |[],B,p=>by show QW B p=QW B (p+((0:Nat):Int));rw[show p+((0:Nat):Int)=p by omega]
 |a::r,B,p=>by
  have ih:=Hz r B (p+1);rw[show p+1+(r.length:Int)=p+((a::r).length:Nat) by rw[Uy];omega]at ih;show(if a≠0 then (p,a)::QW (r++B) (p+1) else QW (r++B) (p+1))=(if a≠0 then (p,a)::QW r (p+1) else QW r (p+1))++_;rw[ih];by_cases h:a≠0
  ·rw[Uc h,Uc h];rfl
  ·rw[Uh h,Uh h]
theorem E0(d:Int):∀(A:List Int)(p:Int),QW A (p+d)=(QW A p).map λq=>(q.1+d,q.2)
 |[],_=>rfl|a::r,p=>by
  have ih:=E0 d r (p+1);rw[show p+1+d=p+d+1 by omega]at ih;show(if a≠0 then (p+d,a)::QW r (p+d+1) else QW r (p+d+1))=((if a≠0 then (p,a)::QW r (p+1) else QW r (p+1))).map _;rw[ih];by_cases h:a≠0
  ·rw[Uc h,Uc h];rfl
  ·rw[Uh h,Uh h]
theorem OJ(d h:Int)(M:List (Int×Int)):IX (h+d) (M.map λq=>(q.1+d,q.2))=IX h M:=by
 unfold IX;have:Kv (h+d) (M.map λq=>(q.1+d,q.2))=Kv h M:=by
  unfold Kv LW;rw[List.filter_map,<-List.map_reverse,U6];have e:((λp:Int×Int=>decide (p.1<h+d))∘λq:Int×Int=>(q.1+d,q.2))=λp=>decide (p.1<h):=by funext p;simp
  rw[e];refine Ri λp _=>?_;show(h+d-1 - (p.1+d),p.2)=(h-1-p.1,p.2);rw[show h+d-1 - (p.1+d)=h-1-p.1 by omega]
 rw[this]
theorem Nn(d h:Int)(M:List (Int×Int)):FJ (h+d) (M.map λq=>(q.1+d,q.2))=FJ h M:=by
 unfold FJ;have:Xt (h+d) (M.map λq=>(q.1+d,q.2))=Xt h M:=by
  unfold Xt EV;rw[List.filter_map,U6];have e:((λp:Int×Int=>decide (h+d<=p.1))∘λq:Int×Int=>(q.1+d,q.2))=λp=>decide (h<=p.1):=by funext p;simp
  rw[e];refine Ri λp _=>?_;show(p.1+d - (h+d),p.2)=(p.1-h,p.2);rw[show p.1+d - (h+d)=p.1-h by omega]
 rw[this]
def A4(p:Int×Nat):Int×Int:=(p.1,(p.2:Int))
theorem iP(h:∀s,s≠0->s<2*n+2->0<ph nw fw s):∀(R:List Nat)(p:Int),(∀x∈R,x≠0/\x<2*n+2)->(BA nw fw 1 R p).reverse.map A4=QW (R.map (ph nw fw)) p
 |[],_,_=>rfl|x::r,p,o=>by
  have hx:=o x UC;have h1:=h x hx.1 hx.2;show(BA nw fw 1 r (p+1)++[(p,(ph nw fw x).toNat)]).reverse.map A4=if ph nw fw x≠0 then (p,ph nw fw x)::QW (r.map (ph nw fw)) (p+1) else _
  rw[Uc (by omega),<-iP h r (p+1) λy hy=>o y (Uw _ hy),List.reverse_append];show A4 (p,(ph nw fw x).toNat)::_=_;unfold A4;rw[Rf (Int.le_of_lt h1)];rfl
theorem iQ(h:∀s,s≠0->s<2*n+2->0<ph nw fw s):∀(L:List Nat)(p:Int),(∀x∈L,x≠0/\x<2*n+2)->(BA nw fw (-1) L (p-1)).map A4=QW ((L.reverse).map (ph nw fw)) (p-L.length)
 |[],_,_=>rfl|x::r,p,o=>by have hx:=o x UC;have h1:=h x hx.1 hx.2;show(BA nw fw (-1) r (p-1 + -1)++[(p-1,(ph nw fw x).toNat)]).map A4=_;rw[TQ,UB,UB,show([x].map (ph nw fw))=[ph nw fw x] from rfl,BZ,Uc (by omega),Ua,U4,Uy,show p-1 + -1=p-1-1 by omega,iQ h r (p-1) λy hy=>o y (Uw _ hy)];rw[show p-1 - (r.length:Int)=p - ((r.length+1:Nat):Int) by omega];show _++[A4 (p-1,(ph nw fw x).toNat)]=_;unfold A4;rw[Rf (Int.le_of_lt h1),show p - ((r.length+1:Nat):Int)+(r.length:Int)=p-1 by omega]
theorem AD(h:∀s,s≠0->s<2*n+2->0<ph nw fw s)(o:OkZ n z)(p:Int):((aS nw fw z p).L++(aS nw fw z p).R.reverse).map A4=QW ((z.2.1.reverse++z.2.2).map (ph nw fw)) (p-z.2.1.length):=by rw[UB];show(BA nw fw (-1) z.2.1 (p-1)).map A4++(BA nw fw 1 z.2.2 p).reverse.map A4=_;rw[iQ h _ _ o.1,iP h _ _ o.2.1,UB,Hz,Ua,U4,show p - (z.2.1.length:Int)+(z.2.1.length:Int)=p by omega]
theorem E1(h:s.2.1=false->Zg n c s.2.2.1≠[]):(Ej n c s).1=s.1/\(Ej n c s).2.1.reverse++(Ej n c s).2.2=Zg n c s.2.2.1++Zg n c s.2.2.2/\((Ej n c s).2.1.length:Int)=(Zg n c s.2.2.1).length+Ij s.2.1:=by
 obtain⟨st,b,L,R⟩:=s;unfold Ej;dsimp only at h ⊢;cases b with
 |true=>rw[Uc rfl];simp[Ij]|false=>
  rw[Uh Ue];cases e:(Zg n c L).reverse with
  |nil=>exact absurd (List.reverse_eq_nil_iff.mp e) (h rfl)|cons x r=>
   have e2:Zg n c L=r.reverse++[x]:=by rw[<-List.reverse_reverse (Zg n c L),e,TQ]
   rw[e2];refine⟨rfl,by simp,?_⟩;simp[Ij];omega
theorem AE(h:Lc n z=some z'):z'.2.1.length+z'.2.2.length<=z.2.1.length+z.2.2.length+1:=by
 obtain⟨st,L,R⟩:=z;obtain⟨a,w,s,e,h⟩:=B2 h;rcases h with⟨_,rfl⟩|⟨x,l,_,hl,rfl⟩
 ·dsimp only;rw[Uy,List.length_tail];omega
 ·dsimp only at hl ⊢;rw[hl,Uy,Uy,Uy,List.length_tail];omega
theorem HA:∀(k:Nat){z z':Zp},FK n k z=some z'->z'.2.1.length+z'.2.2.length<=z.2.1.length+z.2.2.length+k
 |0,_,_,h=>by cases h;omega
 |k+1,z,z',h=>by unfold FK at h;obtain⟨y,h1,h2⟩:=UN.mp h;have:=AE h1;have:=HA k h2;omega
def rT(nw fw:List Int):At->Tk
 |.one s=>.one (ph nw fw s)|.many far k=>.many (if far then fw else nw) k
theorem LZ  : ∀(R:List Nat)(p:Int),(BA nw fw d R p).length=R.length
 |[],_=>rfl|x::r,p=>by show(BA nw fw d r (p+d)++[_]).length=_;rw[Uo,LZ r];rfl
theorem aU(h1:nw.length=n)(h2:fw.length=n)(far:Bool):(cU n far).map (ph nw fw)=if far then fw else nw:=by
 unfold cU;rw[U6];cases far with
 |false =>refine WG (by simp[h1]) λi h _=>?_;simp at h;simp[ph,Tc];rw[Ut (by omega)];simp[h1,h]
 |true =>refine WG (by simp[h2]) λi h _=>?_;simp at h;simp only[List.getElem_map,List.getElem_range,Function.comp,R0,ph,Tc];rw[Ux (by simp;omega)];simp[h1,h2,h,show i+2+n - (n+2)=i by omega]
theorem HB(B:Bo rows n nw fw)(c:Nat):∀ts:List At,Zx c (ts.map (rT nw fw))=(Zg n c ts).map (ph nw fw)
 |[]=>rfl|t::r=>by
  have ih:=HB B c r;unfold Zx Zg at ih ⊢;rw[Ti,T7,T7,UB,ih];refine Tp (· ++ _) ?_;cases t with
  |one s=>rfl|many far k =>show(List.replicate (c+((k:Nat):Int).toNat) (if far then fw else nw)).flatten=((List.replicate (c+k) (cU n far)).flatten).map _;rw[List.map_flatten,Wk,aU B.nl B.fl,UR]
theorem lU(c:Cf):aR c=BY c.st c.pl ((c.L++c.R.reverse).map A4):=by unfold aR BY KA;rw[U6];rfl
theorem pH    : aF st (fc b) c L R=BY st (Ij b) (QW (Zx c L++Zx c R) (-((Zx c L).length:Int))):=by unfold aF BY;rw[M7];cases b<;>rfl
def Ld:HY->Int
 |[]=>0|p::r=>(if p.1=0 then 0 else p.2)+Ld r
theorem GF:∀a b:HY,Ld (a++b)=Ld a+Ld b
 |[],b=>by show Ld b=0+Ld b;omega
 |p::r,b=>by show _+Ld (r++b)=_+Ld r+Ld b;rw[GF r b];omega
theorem P8(side:HY)(sg c:Int):Ld (XI side sg c)=Ld side+if c<1\/sg=0 then 0 else c:=by
 by_cases hc:c<1
 ·rw[LT hc,Uc (.inl hc)];omega
 have hc':1<=c:=by omega
 rcases FI side with rfl|⟨a,p,rfl⟩
 ·rw[Hs hc'];show(if sg=0 then 0 else c)+0=0+_;by_cases hs:sg=0
  ·rw[Uc hs,Uc (.inr hs)]
  ·rw[Uh hs,Uh (by omega)];omega
 ·by_cases hp:p.1=sg
  ·obtain⟨p1,p2⟩:=p;dsimp only at hp;subst hp;rw[LU hc',GF,GF];show _+((if p1=0 then 0 else p2+c)+0)=_+((if p1=0 then 0 else p2)+0)+_;by_cases hs:p1=0
   ·rw[Uc hs,Uc hs,Uc (.inr hs)];omega
   ·rw[Uh hs,Uh hs,Uh (by omega)];omega
  ·rw[LV hc' hp,GF];show _+((if sg=0 then 0 else c)+0)=_;by_cases hs:sg=0
   ·rw[Uc hs,Uc (.inr hs)];omega
   ·rw[Uh hs,Uh (by omega)];omega
theorem HC:∀(l:List (Int×Int))(side:HY)(re:Int),(∀q∈l,q.2≠0)->Ld (Vm l side re).1=Ld side+l.length
 |[],side,re,_=>by show Ld side=Ld side+((0:Nat):Int);omega
 |q::r,side,re,h=>by show Ld (Vm r (XI (XI side 0 (q.1-re)) q.2 1) (q.1+1)).1=_;rw[HC r _ _ λx hx=>h x (Uw _ hx),P8,P8,Uc (show q.1-re<1\/(0:Int)=0 from .inr rfl),Uh (show ¬((1:Int)<1\/q.2=0) by have:=h q UC;omega),Uy];omega
theorem L5:∀(A:List Int)(p:Int),∀q∈QW A p,q.2≠0
 |[],_,q,h=>by cases h
 |s::r,p,q,h=>by
  unfold QW at h;by_cases hs:s≠0
  ·rw[Uc hs]at h;rcases Ud.mp h with rfl|h
   ·exact hs
   ·exact L5 r _ q h
  ·rw[Uh hs]at h;exact L5 r _ q h
theorem No(h:Int)(A:List Int)(p:Int):Ld (IX h (QW A p))=(LW h (QW A p)).length:=by
 unfold IX;rw[HC _ _ _ λq hq=>?_]
 ·unfold Kv;rw[Ua,U4];show 0+_=_;omega
 ·obtain⟨x,hx,rfl⟩:=UQ.mp hq;exact L5 A p x (RU.mp (List.mem_reverse.mp hx)).1
theorem Le(h:Int)(A:List Int)(p:Int):Ld (FJ h (QW A p))=(EV h (QW A p)).length:=by
 unfold FJ;rw[HC _ _ _ λq hq=>?_]
 ·unfold Xt;rw[Ua];show 0+_=_;omega
 ·obtain⟨x,hx,rfl⟩:=UQ.mp hq;exact L5 A p x (RU.mp hx).1
theorem iR:∀(A:List Int)(p h:Int),(∀x∈A,x≠0)->h<=p->((LW h (QW A p)).length:Int)=0/\((EV h (QW A p)).length:Int)=A.length
 |[],_,_,_,_=>⟨rfl,rfl⟩|s::r,p,h,hA,hp=>by obtain⟨i1,i2⟩:=iR r (p+1) h (λx hx=>hA x (Uw _ hx)) (by omega);unfold QW;rw[Uc (hA s UC)];unfold LW EV at *;rw[Rx (by simp;omega),Rw (by simp;omega),Uy,Uy];exact⟨i1,by omega⟩
theorem OK:∀(A:List Int)(p h:Int),(∀x∈A,x≠0)->p<=h->h<=p+A.length->((LW h (QW A p)).length:Int)=h-p/\((EV h (QW A p)).length:Int)=p+A.length-h
 |[],p,h,_,h1,h2=>by
  have:h=p:=by simp at h2;omega
  subst this;exact⟨by show(0:Int)=_;omega,by show(0:Int)=h+(0:Nat) - h;omega⟩
 |s::r,p,h,hA,h1,h2=>by
  rw[Uy]at h2;by_cases hp:p=h
  ·obtain⟨i1,i2⟩:=iR (s::r) p h hA (by omega);rw[i1,i2];omega
  ·obtain⟨i1,i2⟩:=OK r (p+1) h (λx hx=>hA x (Uw _ hx)) (by omega) (by omega);unfold QW;rw[Uc (hA s UC)];unfold LW EV at *;rw[Rw (by simp;omega),Rx (by simp;omega),Uy,Uy];omega
theorem AF(h1:g[a]?=vL (JY A))(h2:g[a']?=vL (JY A'))(h3:g[b]?=vL (JY B))(h4:g[b']?=vL (JY B')):∃c,Z5 (.tup [.int st,.ref a,.ref b]) (.tup [.int st',.ref a',.ref b']) g=.ok (.bl c) g/\(c=true->st=st'/\A=A'/\B=B')/\(st=st'/\A=A'/\B=B'->c=true):=by
 have key:∀C C':HY,∃c,Jk (Vk g 6) (JY C) (JY C')=some c/\(c=true↔C=C'):=λC=>by
  induction C with
  |nil=>
   intro C';cases C' with
   |nil=>exact⟨true,rfl,by simp⟩|cons=>exact⟨false,rfl,by simp⟩
  |cons x r ih=>
   intro C';cases C' with
   |nil=>exact⟨false,rfl,by simp⟩|cons y r'=>
    obtain⟨c,e,i⟩:=ih r';refine⟨((x.1==y.1)&&((x.2==y.2)&&true))&&c,?_,?_⟩
    ·show(match some ((x.1==y.1)&&((x.2==y.2)&&true)),Jk (Vk g 6) (JY r) (JY r') with|some a,some b=>some (a&&b)|_,_=>none)=_;rw[e]
    ·simp[i,Prod.ext_iff]
 have r:∀{x y:Nat}{C C':HY},g[x]?=vL (JY C)->g[y]?=vL (JY C')->∃c,Vk g 7 (.ref x) (.ref y)=some c/\(c=true↔C=C'):=λ{x y C C'} hx hy=>by
  obtain⟨c,e,i⟩:=key C C';by_cases hl:(JY C).length=(JY C').length
  ·refine⟨c,?_,i⟩;show(match g[x]?,g[y]? with|some (.lst xs),some (.lst ys)=>if xs.length=ys.length then Jk (Vk g 6) xs ys else some false|_,_=>none)=_;rw[hx,hy];dsimp only;rw[Uc hl,e]
  ·refine⟨false,?_,(λe=>by cases e),λe=>absurd (by rw[e]) hl⟩;show(match g[x]?,g[y]? with|some (.lst xs),some (.lst ys)=>if xs.length=ys.length then Jk (Vk g 6) xs ys else some false|_,_=>none)=_;rw[hx,hy];dsimp only;rw[Uh hl]
 obtain⟨c1,e1,i1⟩:=r h1 h2;obtain⟨c2,e2,i2⟩:=r h3 h4;refine⟨(st==st')&&(c1&&(c2&&true)),?_,by simp[i1,i2],by simp[i1,i2]⟩
 ·unfold Z5;have e:Vk g 8 (.tup [.int st,.ref a,.ref b]) (.tup [.int st',.ref a',.ref b'])=some ((st==st')&&(c1&&(c2&&true))):=by show(match some (st==st'),(match Vk g 7 (.ref a) (.ref a'),(match Vk g 7 (.ref b) (.ref b'),some true with|some a,some b=>some (a&&b)|_,_=>none) with|some a,some b=>some (a&&b)|_,_=>none) with|some a,some b=>some (a&&b)|_,_=>none)=_;rw[e1,e2]
  rw[e]
section
variable{rows:List (List D)}{n:Nat}{nw fw:List Int}
theorem Lf(B:Bo rows n nw fw)(T:Tb rows N m)(hM:g[M]?=some (ZK rows))(hk:k<250)(hz:FK n k (0,[],[])=some z)(h0:0<=st)(hL:QG g L=some (b1,(la.map (rT nw fw)).map Qy))(hR:QG g R=some (b2,(ra.map (rT nw fw)).map Qy))(ol:∀t∈la.map (rT nw fw),Xz t)(or':∀t∈ra.map (rT nw fw),Xz t)(zl:la.length<=30)(zr:ra.length<=30)(hlen:(Zg n 0 la++Zg n 0 ra).length<=300):
  ∃c g',JW [.ref M,.int k,.tup [.int st,.str (fc f),L,R]] g=.ok (.bl c) g'/\Keeps [] g g'/\((z.1:Int)=st->z.2.1.reverse++z.2.2=Zg n 0 la++Zg n 0 ra->(z.2.1.length:Int)=(Zg n 0 la).length+Ij f->c=true)/\((∀x∈Zg n 0 la++Zg n 0 ra,x≠0/\x<2*n+2)->Zg n 0 la≠[]->c=true->(z.1:Int)=st/\(z.2.1.length:Int)=(Zg n 0 la).length+Ij f/\z.2.1.length+z.2.2.length=(Zg n 0 la).length+(Zg n 0 ra).length):=by
 obtain⟨w,l,r,g1,e1,W1,k1,h1,h2,h3⟩:=AA (a:=Qb (Qa 0) (Qb (Qq (.tup [(.int 0),(.int 0),(.tup [])])) Qi)) (σ:=[vR M,vI k,vT [.int st,.str (fc f),L,R],none]) (g0:=g) (g:=g) rfl hM;obtain⟨g2,e2,W2,k2,_⟩:=lT (k:=k) T (wT T) (show 0+0+k<800 by omega) W1;obtain⟨p,rc,oz⟩:=Nm B k (z:=(0,[],[])) 0 ⟨(λx h=>by cases h),(λx h=>by cases h),Nat.succ_pos _⟩ hz;have rc:WX rows k c0=(aS nw fw z p,k):=rc;rw[rc]at e2 W2;have hln:=HA k hz;have K2:=k2.old k1 h1 h2 h3;have lL:=LZ (nw:=nw) (fw:=fw) (d:=-1) z.2.1 (p-1);have lR:=LZ (nw:=nw) (fw:=fw) (d:=1) z.2.2 p;have hl0:z.2.1.length+z.2.2.length<=k:=by simpa using hln
 have e3:=fY (c:=aS nw fw z p) (show(BA nw fw (-1) _ (p-1)).length+(BA nw fw 1 _ p).length<=1000 by omega) W2;rw[lU,AD B.pos oz]at e3;have hrl:((z.2.1.reverse++z.2.2).map (ph nw fw)).length=z.2.1.length+z.2.2.length:=by simp
 obtain⟨a,b,g3,e4,a1,a2,a3,a4,k4⟩:=EW (st:=(z.1:Int)) (here:=p) (M:=QW ((z.2.1.reverse++z.2.2).map (ph nw fw)) (p-z.2.1.length)) (g:=g2) (by have:=Eh ((z.2.1.reverse++z.2.2).map (ph nw fw)) (p-z.2.1.length);omega);obtain⟨g4,e5,k5⟩:=Nf (st:=st) (f:=fc f) (L:=L) (R:=R) (g:=g3) (c:=0) h0 (fc.lr _) (QI hL (K2.trans k4)) (QI hR (K2.trans k4)) ol or' (by rw[Ua];omega) (by rw[Ua];omega) (by omega);rw[pH,HB B 0 la,HB B 0 ra,<-UB,Ua]at e5;obtain⟨a',b',g5,e6,a1',a2',a3',a4',k6⟩:=EW (st:=st) (here:=Ij f) (M:=QW ((Zg n 0 la++Zg n 0 ra).map (ph nw fw)) (-((Zg n 0 la).length:Int))) (g:=g4) (by have:=Eh ((Zg n 0 la++Zg n 0 ra).map (ph nw fw)) (-((Zg n 0 la).length:Int));rw[Ua]at this;omega);have k56:=k5.trans k6;obtain⟨c,e7,i7,j7⟩:=AF (st:=(z.1:Int)) (st':=st) (k56.a a3) a3' (k56.a a4) a4';refine⟨c,g5,Zb rfl ?_,K2.trans (k4.trans k56),λq1 q2 q3=>j7 ?_,λhnz hne hc=>?_⟩
 ·show Ed [vR M,vI k,vT [.int st,.str (fc f),L,R],none] g=_;unfold Ed;refine Qr _ g1 (QK e1) ?_;refine Qr _ g2 (Jh g2 (Q3 (Ql (x:=.int k) (y:=.int k) (g1:=g2) (g2:=g2) ((V1 (w:=w) rfl W1.w' rfl (xs:=[.int k]) rfl).trans e2) rfl (by show Res.ok (D.bl (decide ((k:Int)<k))) g2=_;rw[Ur (Int.lt_irrefl _)]))) rfl) ?_;refine ZP (Ql (g1:=g3) (g2:=g5) ?_ ?_ e7)
  ·rw[Qw (Qx ((V1 (w:=w) rfl W2.w' rfl (xs:=[]) rfl).trans e3) rfl)];exact e4
  ·rw[Qw (Qx ((Qw (ds:=[.tup [.int st,.str (fc f),L,R],.int 0]) (g':=g3) rfl).trans e5) rfl)];exact e6
 ·have sh:QW ((Zg n 0 la++Zg n 0 ra).map (ph nw fw)) (p-z.2.1.length)=(QW ((Zg n 0 la++Zg n 0 ra).map (ph nw fw)) (-((Zg n 0 la).length:Int))).map λq=>(q.1+(p-Ij f),q.2):=by rw[<-E0,q3];congr 1;omega
  have hp:Ij f+(p-Ij f)=p:=by omega
  have l1:=OJ (p-Ij f) (Ij f) (QW ((Zg n 0 la++Zg n 0 ra).map (ph nw fw)) (-((Zg n 0 la).length:Int)));have l2:=Nn (p-Ij f) (Ij f) (QW ((Zg n 0 la++Zg n 0 ra).map (ph nw fw)) (-((Zg n 0 la).length:Int)));rw[hp,<-sh]at l1 l2;rw[q2];exact⟨q1,l1,l2⟩
 ·obtain⟨q1,q2,q3⟩:=i7 hc;have n1:∀x∈(z.2.1.reverse++z.2.2).map (ph nw fw),x≠0:=λx hx=>by
   obtain⟨y,hy,rfl⟩:=UQ.mp hx;have hy:y≠0/\y<2*n+2:=by
    rcases UG.mp hy with q|q
    ·exact oz.1 y (List.mem_reverse.mp q)
    ·exact oz.2.1 y q
   have:=B.pos y hy.1 hy.2;omega
  have n2:∀x∈(Zg n 0 la++Zg n 0 ra).map (ph nw fw),x≠0:=λx hx=>by obtain⟨y,hy,rfl⟩:=UQ.mp hx;have:=B.pos y (hnz y hy).1 (hnz y hy).2;omega
  have hp:=Tq.mpr hne;have hpl : -1<=Ij f/\Ij f<=0:=by unfold Ij;cases f<;>simp
  obtain⟨c1,c2⟩:=OK _ (p-z.2.1.length) p n1 (by omega) (by rw[hrl];omega);obtain⟨c3,c4⟩:=OK _ (-((Zg n 0 la).length:Int)) (Ij f) n2 (by omega) (by rw[Ua,Uo];omega);have d1:=Tp Ld q2;have d2:=Tp Ld q3;rw[No,No]at d1;rw[Le,Le]at d2;rw[hrl]at c2;rw[Ua,Uo]at c4;exact⟨q1,by omega,by omega⟩
end
inductive Mo where
 |step|over|draw|ends (pad s:Bool)
def Q1(n:Nat):Mo->D
 |.step=>.tup [.str "step"]|.over=>.tup [.str "over"]|.draw=>.tup [.str "draw",.str (fc true),.int n]|.ends pad s=>.tup [.str (eS pad),.str (fc s)]
def L6(n:Nat):At->Bool
 |.one x=>decide (x<2*n+2)|.many _ k=>decide (k<=6)
def BD(n b:Nat)(s:Sa):Bool:=decide (s.1<n+2)&&(decide (s.2.2.1.length<=b)&&(decide (s.2.2.2.length<=b)&&(s.2.2.1.all (L6 n)&&s.2.2.2.all (L6 n))))
def P9(s:Sa):Option At:=if s.2.1 then s.2.2.2.head? else s.2.2.1.getLast?
def goA(s:Sa)(st:Nat)(w:Bool)(t:At):Sa:=
 let l:=if s.2.1 then s.2.2.1 else s.2.2.1.dropLast
 let r:=if s.2.1 then s.2.2.2.tail else s.2.2.2
 (st,w,if w then l++[t] else l,if w then r else t::r)
def Np(n:Nat)(s:Sa):Mo->Option Sa
 |.step=>(match P9 s with
  |some (.many _ _)=>none|some (.one x)=>(AB n s.1 x).map λe=>goA s e.2.2 e.2.1 (.one e.1)
  |none=>(AB n s.1 0).map λe=>goA s e.2.2 e.2.1 (.one e.1))
 |.over=>(match P9 s with
  |some (.many far k)=>if s.1=1/\s.2.1=true/\far=false then some (goA s 1 true (.many true k)) else if s.1=2/\s.2.1=false/\far=true then some (goA s 2 false (.many false k)) else none
  |_=>none)
 |.draw=>(match s.2.2.2 with
  |.many false k::r=>if r=(cU n false).map .one then some (s.1,s.2.1,s.2.2.1,[.many false (k+1)]) else none
  |_=>none)
 |.ends true sd=>some (if sd then (s.1,s.2.1,s.2.2.1,s.2.2.2++[.one 0]) else (s.1,s.2.1,.one 0::s.2.2.1,s.2.2.2))|.ends false sd=>if sd then (if s.2.2.2.getLast?=some (.one 0) then some (s.1,s.2.1,s.2.2.1,s.2.2.2.dropLast) else none) else (if s.2.2.1.head?=some (.one 0) then some (s.1,s.2.1,s.2.2.1.tail,s.2.2.2) else none)
def GG(n b:Nat)(s:Sa)(m:Mo):Option Sa:=match Np n s m with
 |some s'=>if BD n b s'=true then some s' else none
 |none=>none
def CM(n b:Nat):Sa->List Mo->Option Sa
 |s,[]=>some s|s,m::r=>(GG n b s m).bind λs'=>CM n b s' r
def Zv(n:Nat):List Mo:=[.over]++List.replicate (2*n-1) .step++[.over,.step,.draw]
def uT:Bool:=(List.range 4).all λk=>(List.range 4).all λe=>(List.range (2*k+5)).all λt=>
 BD (k+1) 10 (Q7 (k+1) e t)&&decide (CM (k+1) 10 (Q7 (k+1) e 0) ((Zv (k+1)).take t)=some (Q7 (k+1) e t)/\CM (k+1) 10 (Q7 (k+1) e t) ((Zv (k+1)).drop t++(Zv (k+1)).take t)=some (Q7 (k+1) (e+1) t))
theorem lV:uT=true:=by decide +kernel
theorem B3(h:GG n b s m=some s'):Np n s m=some s'/\BD n b s'=true:=by
 unfold GG at h;cases e:Np n s m with
 |none=>rw[e]at h;cases h|some x=>
  rw[e]at h;dsimp only at h;by_cases hx:BD n b x=true
  ·rw[Uc hx]at h;cases h;exact⟨rfl,hx⟩
  ·rw[Uh hx]at h;cases h
theorem HD(h:Np n s m=some s')(h2:BD n b s'=true):GG n b s m=some s':=by unfold GG;rw[h];exact Uc h2
theorem okA_iff  : BD n b s=true↔s.1<n+2/\s.2.2.1.length<=b/\s.2.2.2.length<=b/\(∀t∈s.2.2.1,L6 n t=true)/\∀t∈s.2.2.2,L6 n t=true:=by unfold BD;simp
theorem E2(h:BD n b s=true):BD n (b+1) s=true:=by rw[okA_iff]at h ⊢;exact⟨h.1,by omega,by omega,h.2.2.2⟩
theorem B4:∀(r:List Mo){s s':Sa},CM n b s r=some s'->CM n (b+1) s r=some s'
 |[],_,_,h=>h|m::r,s,s',h=>by unfold CM at h ⊢;obtain⟨y,h1,h2⟩:=UN.mp h;obtain⟨h3,h4⟩:=B3 h1;rw[HD h3 (E2 h4)];exact B4 r h2
theorem JD:∀(r r':List Mo)(s:Sa),CM n b s (r++r')=(CM n b s r).bind λx=>CM n b x r'
 |[],_,_=>rfl|m::r,r',s=>by
  show(GG n b s m).bind _=((GG n b s m).bind _).bind _;cases GG n b s m with
  |none=>rfl|some x=>exact JD r r' x
theorem Tm:∀(r:List Mo){s s':Sa},BD n b s=true->CM n b s r=some s'->BD n b s'=true
 |[],_,_,o,h=>by cases h;exact o
 |m::r,s,s',o,h=>by unfold CM at h;obtain⟨y,h1,h2⟩:=UN.mp h;exact Tm r (B3 h1).2 h2
theorem Sb(o:BD n b s=true)(r r':List Mo)(sd:Bool)(h:CM n b s (r++r')=some s'):CM n (b+1) s (r++.ends true sd::.ends false sd::r')=some s':=by
 rw[JD]at h;obtain⟨y,h1,h2⟩:=UN.mp h;rw[JD,B4 _ h1,US];have oy:=okA_iff.mp (Tm r o h1);obtain⟨st,w,L,R⟩:=y;dsimp only at oy;have z0:L6 n (.one 0)=true:=by unfold L6;simp
 cases sd with
 |true=>
  have e1:GG n (b+1) (st,w,L,R) (.ends true true)=some (st,w,L,R++[.one 0]):=HD rfl (okA_iff.mpr ⟨oy.1,by dsimp only;omega,by simp;omega,oy.2.2.2.1,λt ht=>by
   rcases UG.mp ht with z|z
   ·exact oy.2.2.2.2 t z
   ·rw[Uf.mp z];exact z0⟩)
  have e2:GG n (b+1) (st,w,L,R++[.one 0]) (.ends false true)=some (st,w,L,R):=HD (by unfold Np;simp) (E2 (okA_iff.mpr oy));show(GG n (b+1) (st,w,L,R) (.ends true true)).bind (λx=>(GG n (b+1) x (.ends false true)).bind _)=_;rw[e1,US,e2,US];exact B4 _ h2
 |false=>
  have e1:GG n (b+1) (st,w,L,R) (.ends true false)=some (st,w,.one 0::L,R):=HD rfl (okA_iff.mpr ⟨oy.1,by simp;omega,by dsimp only;omega,λt ht=>by
   rcases Ud.mp ht with z|z
   ·rw[z];exact z0
   ·exact oy.2.2.2.1 t z,oy.2.2.2.2⟩)
  have e2:GG n (b+1) (st,w,.one 0::L,R) (.ends false false)=some (st,w,L,R):=HD (by unfold Np;simp) (E2 (okA_iff.mpr oy));show(GG n (b+1) (st,w,L,R) (.ends true false)).bind (λx=>(GG n (b+1) x (.ends false false)).bind _)=_;rw[e1,US,e2,US];exact B4 _ h2
structure Rl(rows:List (List D))(n N m:Nat)(nw fw:List Int):Prop where
 B:Bo rows n nw fw
 T:Tbl rows N m
 nN:n+2<=N
 rng:∀x,x<2*n+2->0<=ph nw fw x/\ph nw fw x<m
def Yr(nw fw:List Int)(s:Sa):D:=Jf s.1 s.2.1 ((s.2.2.1.map (rT nw fw)).map Qy) ((s.2.2.2.map (rT nw fw)).map Qy)
section
variable{rows:List (List D)}{n N m:Nat}{nw fw:List Int}
theorem Rl.wd(h:Rl rows n N m nw fw)(far:Bool):∀x∈(if far then fw else nw),0<=x/\x<m:=λx hx=>by rw[<-aU h.B.nl h.B.fl]at hx;obtain⟨s,hs,rfl⟩:=UQ.mp hx;unfold cU at hs;obtain⟨i,hi,rfl⟩:=UQ.mp hs;have:=UU.mp hi;exact h.rng _ (by cases far<;>simp<;>omega)
theorem Rl.tk(h:Rl rows n N m nw fw)(ht:L6 n t=true):TkK 6 m (rT nw fw t):=by
 cases t with
 |one x=>exact h.rng x (UJ ht)|many far k=>
  have hk:k<=6:=UJ ht;have hn:=h.B.n0;have hn4:=h.B.n4;have h1:=h.B.nl;have h2:=h.B.fl;have hl:(if far then fw else nw).length=n:=by cases far<;>simp[h1,h2]
  exact⟨λe=>by rw[e]at hl;simp at hl;omega,h.wd far,by omega,by omega,by omega⟩
theorem Rl.tks(h:Rl rows n N m nw fw){L:List At}(hL:∀t∈L,L6 n t=true):∀t∈L.map (rT nw fw),TkK 6 m t:=λt ht=>by obtain⟨x,hx,rfl⟩:=UQ.mp ht;exact h.tk (hL x hx)
theorem pI(h:Bo rows n nw fw)(hi:i<n):ph nw fw (i+2)=nw[i]?.getD 0/\ph nw fw (i+2+n)=fw[i]?.getD 0:=by
 have h1:=h.nl;have h2:=h.fl;constructor
 ·simp[ph,Tc];rw[Ut (by omega)]
 ·simp only[ph,Tc];rw[Ux (by simp;omega)];simp[h1,show i+2+n - (n+2)=i by omega]
theorem aV(s:Sa):Ap s.2.1 (s.2.2.1.map (rT nw fw)) (s.2.2.2.map (rT nw fw))=(P9 s).map (rT nw fw):=by obtain⟨st,b,L,R⟩:=s;cases b<;>simp[Ap,P9]
theorem aW(s:Sa)(st:Nat)(w:Bool)(t:At):Gn s.2.1 ((s.2.2.1.map (rT nw fw)).map Qy) ((s.2.2.2.map (rT nw fw)).map Qy) st w (Qy (rT nw fw t))=Yr nw fw (goA s st w t):=by obtain⟨st0,b,L,R⟩:=s;rw[P0];unfold Yr goA tL tR;cases b<;>cases w<;>simp[Wx]
theorem aX{f w:List Int}{j:Nat}(hf:j<=f.length):(f.take j++w.drop j)[j]?=w[j]?:=by rw[Ux (by rw[UZ];omega),UZ,T0 hf,WR,Wm,Nat.add_zero]
theorem Sc{f w:List Int}{j:Nat}(hf:j<f.length)(hw:f.length=w.length):(f.take j++w.drop j).set j (f[j]?.getD 0)=f.take (j+1)++w.drop (j+1):=by
 refine Ww λi=>?_;rw[T8];by_cases h:j=i
 ·subst h;rw[Uc rfl,Uc (by simp;omega),Ut (by simp;omega),Rr,Uc (by omega),Uj hf];rfl
 ·rw[Uh h];by_cases h2:i<j
  ·rw[Ut (by simp;omega),Ut (by simp;omega),Rr,Uc h2,Rr,Uc (by omega)]
  ·rw[Ux (by simp;omega),Ux (by simp;omega),UZ,UZ,T0 (by omega),T0 (by omega),Wm,Wm];congr 1;omega
theorem iS(h:Bo rows n nw fw):∀(d f j:Nat),j+d=n->0<d->d<=f->Hq rows f (fw.take j++nw.drop j) j 1=some (fw,1,true)
 |0,_,_,_,h0,_=>by omega
 |d+1,0,_,_,_,hf=>by omega
 |d+1,f+1,j,hj,_,hf=>by
  have h1:=h.nl;have h2:=h.fl;obtain⟨p1,p2⟩:=pI h (show j<n by omega);have e:=h.ent 1 (j+2) (j+2+n) true 1 (by unfold AB;rw[Uh (by omega),Uh (by omega),Uc (by omega),Uc rfl]);rw[p1,p2]at e;unfold Hq;rw[UR,aX (by omega)];have e:en rows 1 (nw[j]?.getD 0)=some (fw[j]?.getD 0,true,1):=e;rw[e];dsimp only;rw[Sc (by omega) (by omega)];have hl:(fw.take j++nw.drop j).length=n:=by simp;omega
  rw[hl];show(if 0<=(j:Int)+1/\(j:Int)+1<n then Hq rows f _ ((j:Int)+1) 1 else _)=_;by_cases hd:d=0
  ·rw[Uh (by omega),Tf (by omega),WO (by omega),U0]
  ·rw[Uc (by omega)];exact iS h d f (j+1) (by omega) (by omega) (by omega)
theorem iT(h:Bo rows n nw fw):∀(j f:Nat),j<n->j<f->Hq rows f (fw.take (j+1)++nw.drop (j+1)) j 2=some (nw,2,false)
 |_,0,_,hf=>by omega
 |j,f+1,hj,hf=>by
  have h1:=h.nl;have h2:=h.fl;obtain⟨p1,p2⟩:=pI h hj;have e:=h.ent 2 (j+2+n) (j+2) false 2 (by unfold AB;rw[Uh (by omega),Uh (by omega),Uh (by omega),Uc (by omega),Uc rfl,show j+2+n-n=j+2 by omega]);rw[p1,p2]at e;have c1:(fw.take (j+1)++nw.drop (j+1))[j]?=fw[j]?:=by rw[Ut (by simp;omega),Rr,Uc (by omega)]
  have c2:(fw.take (j+1)++nw.drop (j+1)).set j (nw[j]?.getD 0)=fw.take j++nw.drop j:=by
   rw[<-Sc (f:=fw) (w:=nw) (j:=j) (by omega) (by omega),RD];refine Ww λi=>?_;rw[T8];by_cases hi:j=i
   ·subst hi;rw[Uc rfl,Uc (by simp;omega),aX (by omega),Uj (show j<nw.length by omega)];rfl
   ·rw[Uh hi]
  unfold Hq;rw[UR,c1];have e:en rows 2 (fw[j]?.getD 0)=some (nw[j]?.getD 0,false,2):=e;rw[e];dsimp only;rw[c2];have hl:(fw.take (j+1)++nw.drop (j+1)).length=n:=by simp;omega
  rw[hl];show(if 0<=(j:Int) - 1/\(j:Int) - 1<n then Hq rows f _ ((j:Int) - 1) 2 else _)=_;cases j with
  |zero=>rw[Uh (by omega)];rfl|succ i =>rw[Uc (by omega),show((i+1:Nat):Int) - 1=(i:Nat) by omega];exact iT h i f (by omega) (by omega)
end
theorem gC(hw:w.length<=20)(g:G):YQ [.tup ((.many w k::w.map Tk.one).map Qy),.str "draw",.str (fc true),.int w.length] g=.ok (.tup [Qy (.many w (k+1))]) (g++[.lst (ones w)]):=by
 have hl:((Tk.many w k::w.map Tk.one).map Qy).length=w.length+1:=by simp
 have hb:ZD [.int w.length,.int (w.length+1)] g=.ok (.bl true) g:=PY (by omega) (by omega);have e1:Zy [.tup ((.many w k::w.map Tk.one).map Qy),.str (fc true),.int w.length] g=.ok (.int 0) g:=by simp[Zy,Yl,hb,Qy,show((w.length:Int)+1-1-w.length)=0 by omega]
 have e2:=Ho (w:=w) (g:=g) (by omega);have hcut:Yc ((Tk.many w k::w.map Tk.one).map Qy) (some 1) (some (1+(w.length:Int)))=(w.map Tk.one).map Qy:=by rw[show(1:Int)=((1:Nat):Int) from rfl,PX,Ti,List.drop_succ_cons,List.drop_zero,Tf (by simp)]
 have hne:=LS (X:=w.map Tk.one) (w:=w) (g:=g++[.lst (ones w)]);have hO:∀w:List Int,isO (w.map Tk.one) w=true:=λw=>by
  induction w with
  |nil=>rfl|cons x r ih=>simp[isO,ih]
 rw[hO]at hne;have hc1:Yc ((Tk.many w k::w.map Tk.one).map Qy) none (some 0)=[]:=by rw[show(0:Int)=((0:Nat):Int) from rfl,LP];rfl
 have hc2:Yc ((Tk.many w k::w.map Tk.one).map Qy) (some (1+(w.length:Int))) none=[]:=by rw[show 1+(w.length:Int)=((1+w.length:Nat):Int) by omega,EU];simp;omega
 have h3:¬(1+(w.length:Int)<1):=by omega
 have a1:=Br (g:=g++[.lst (ones w)]) (xs:=[]) (ys:=[Qy (.many w (k+1))]) (by simp);have a2:=Br (g:=g++[.lst (ones w)]) (xs:=[Qy (.many w (k+1))]) (ys:=[]) (by simp);have r1:=IW (w:=w) (k:=k) (g:=g++[.lst (ones w)]);simp[Qy]at a1 a2 r1;have e3:Zw [.tup ((.many w k::w.map Tk.one).map Qy),.int 0,.bl true] g=.ok (.tup [Qy (.many w (k+1))]) (g++[.lst (ones w)]):=by
  generalize hT:(Tk.many w k::w.map Tk.one).map Qy=T at hcut hc1 hc2;have hix:VC T 0=some (Qy (.many w k)):=by rw[<-hT];exact iL (n:=0) rfl
  generalize (w.map Tk.one).map Qy=X at hcut hne;simp[Zw,YO,hix,Qy,h3,e2,hcut,hne,hc1,hc2,a1,a2,r1]
 generalize (Tk.many w k::w.map Tk.one).map Qy=T at e1 e3;simp[YQ,X9,e1,e3,PZ]
theorem lW(hz:T.length<=140)(s:Bool)(g:G):ZL [.tup (T.map Qy),.str "pad",.str (fc s)] g=.ok (.tup ((if s then T++[.one 0] else .one 0::T).map Qy)) g:=by have a1:∀x,QD (.tup (T.map Qy)) (.tup [x]) g=.ok (.tup (T.map Qy++[x])) g:=λx=>Br (by simp;omega);have a2:∀x,QD (.tup [x]) (.tup (T.map Qy)) g=.ok (.tup (x::T.map Qy)) g:=λx=>Br (by simp;omega);cases s<;>simp[ZL,JV,PZ,a1,a2,Qy]
theorem Sd(s:Bool)(h:T=if s then X++[.one 0] else .one 0::X)(g:G):ZL [.tup (T.map Qy),.str "trim",.str (fc s)] g=.ok (.tup (X.map Qy)) g:=by have hn:CI (.tup [Qy (.one 0)]) (.tup [.tup [.str "one",.int 0]]) g=.ok (.bl (!isO [.one 0] [0])) g:=LS (X:=[.one 0]) (w:=[0]) (g:=g);have hn:CI (.tup [.tup [.str "one",.int 0]]) (.tup [.tup [.str "one",.int 0]]) g=.ok (.bl false) g:=hn;subst h;cases s<;>simp[ZL,JV,PZ,hn,Qy]
@[simp] theorem rN  : Z5 (.tup [.str s]) (.tup [.str t]) g=.ok (.bl (s==t)) g:=by simp[Z5,Vk,Jk]
@[simp] theorem L7  : Z5 (.tup [.str s,.str u]) (.tup [.str t]) g=.ok (.bl false) g:=by simp[Z5,Vk,Jk]
@[simp] theorem L8   : Z5 (.tup [.str s,.str u,.int i]) (.tup [.str t]) g=.ok (.bl false) g:=by simp[Z5,Vk,Jk]
section
variable{M n:Nat}{d mv:D}{g g':G}{st:Int}{b s:Bool}{L R:List D}{o:Option D}{w:Str}
theorem am_step:QR [.ref M,d,Q1 n .step] g=Y6 [.ref M,d] g:=by cases hr:Y6 [.ref M,d] g<;>simp[QR,Y7,Q1,hr]
theorem am_over:QR [.ref M,d,Q1 n .over] g=YN [.ref M,d] g:=by cases hr:YN [.ref M,d] g<;>simp[QR,Y7,Q1,hr,PZ]
theorem Ba(h:∀s,Z5 mv (.tup [.str s]) g=.ok (.bl false) g):QR [.ref M,d,mv] g=QV [d,mv] g:=by cases hr:QV [d,mv] g<;>simp[QR,Y7,h,hr]
def OL(st:Int)(b s:Bool)(L R:List D)(o:Option D):Option D:=o.map λd=>if s then .tup [.int st,.str (fc b),.tup L,d] else .tup [.int st,.str (fc b),d,.tup R]
theorem Se(h:ZL [.tup (if s then R else L),.str w,.str (fc s)] g=Pr o g'):QV [Jf st b L R,.tup [.str w,.str (fc s)]] g=Pr (OL st b s L R o) g':=by cases s<;>cases o<;>simp[Pr]at h<;>simp[QV,Zj,Pr,Jf,h,OL]
theorem Nq(h:YQ [.tup R,.str w,.str (fc true),.int a] g=Pr o g'):QV [Jf st b L R,.tup [.str w,.str (fc true),.int a]] g=Pr (OL st b true L R o) g':=by cases o<;>simp[Pr]at h<;>simp[QV,Zj,Pr,Jf,h,OL]
end
def aY(rows:List (List D))(n:Nat)(nw fw:List Int)(s:Sa)(mv:Mo)(s':Sa):Prop:=∀g M,g[M]?=some (ZK rows)->∃g',Keeps [] g g'/\QR [.ref M,Yr nw fw s,Q1 n mv] g=.ok (Yr nw fw s') g'
theorem gD(h:Rl rows n N m nw fw)(ha:P9 (st,w,L,R)=some (.one x)\/P9 (st,w,L,R)=none/\x=0)(he:AB n st x=some (a,v,st')):VM rows st w (L.map (rT nw fw)) (R.map (rT nw fw))=some (Yr nw fw (goA (st,w,L,R) st' v (.one a))):=by
 have en':=h.B.ent _ _ _ _ _ he;have hg:=aW (nw:=nw) (fw:=fw) (st,w,L,R) st' v (.one a);have ah:=aV (nw:=nw) (fw:=fw) (st,w,L,R);dsimp only at hg ah;unfold VM;rw[ah];rcases ha with ha|⟨ha,rfl⟩
 ·rw[ha];show(en rows st (ph nw fw x)).map _=_;rw[en',<-hg];rfl
 ·rw[ha];have en':en rows st 0=_:=en';show(en rows st 0).map _=_;rw[en',<-hg];rfl
theorem gE(h:Rl rows n N m nw fw)(hb:b<=100)(o:BD n b s=true)(hr:Np n s .step=some s'):aY rows n nw fw s .step s':=λg M hM=>by
 obtain⟨st,w,L,R⟩:=s;obtain⟨o1,o2,o3,o4,o5⟩:=okA_iff.mp o;have hN:=h.nN;dsimp only at o1 o2 o3 o4 o5;have e:=JN (st:=(st:Int)) (b:=w) hM h.T (by omega) (by omega) (h.tks o4) (h.tks o5) (by simp;omega);have key:VM rows st w (L.map (rT nw fw)) (R.map (rT nw fw))=some (Yr nw fw s'):=by
  have one:∀x,(P9 (st,w,L,R)=some (.one x)\/P9 (st,w,L,R)=none/\x=0)->(AB n st x).map (λe=>goA (st,w,L,R) e.2.2 e.2.1 (.one e.1))=some s'->VM rows st w (L.map (rT nw fw)) (R.map (rT nw fw))=some (Yr nw fw s'):=λx hx hs=>by obtain⟨⟨a,v,st'⟩,he,hs⟩:=RA.mp hs;rw[gD h hx he,<-hs]
  unfold Np at hr;dsimp only at hr;cases ha:P9 (st,w,L,R) with
  |none=>rw[ha]at hr;exact one 0 (.inr ⟨ha,rfl⟩) hr|some t=>cases t with
   |one x=>rw[ha]at hr;exact one x (.inl ha) hr|many _ _=>rw[ha]at hr;cases hr
 rw[key]at e;exact⟨g,.refl,am_step.trans e⟩
theorem gF(h:Rl rows n N m nw fw)(hb:b<=100)(o:BD n b s=true)(hr:Np n s .over=some s'):aY rows n nw fw s .over s':=λg M hM=>by
 obtain⟨st,w,L,R⟩:=s;obtain⟨o1,o2,o3,o4,o5⟩:=okA_iff.mp o;have hN:=h.nN;dsimp only at o1 o2 o3 o4 o5;obtain⟨g',k1,e⟩:=X2 (st:=(st:Int)) (b:=w) hM h.T (by omega) (by omega) (h.tks o4) (h.tks o5) (by simp;omega);have q:BW rows st w (L.map (rT nw fw)) (R.map (rT nw fw))=some (Yr nw fw s'):=by
  have ah:=aV (nw:=nw) (fw:=fw) (st,w,L,R);unfold Np at hr;dsimp only at hr ah;unfold BW;rw[ah];cases ha:P9 (st,w,L,R) with
  |none=>rw[ha]at hr;cases hr|some t=>cases t with
   |one x=>rw[ha]at hr;cases hr|many far k=>
    rw[ha]at hr;dsimp only at hr;have h1:=h.B.nl;have h2:=h.B.fl;have hn:=h.B.n0;have hn4:=h.B.n4;by_cases c1:st=1/\w=true/\far=false
    ·rw[Uc c1]at hr;obtain⟨rfl,rfl,rfl⟩:=c1;have gr:=iS h.B n 1000 0 (by omega) hn (by omega);have gr:Hq rows 1000 nw 0 1=some (fw,1,true):=by simpa using gr
     have hg:=aW (nw:=nw) (fw:=fw) (1,true,L,R) 1 true (.many true k);rw[Option.some.inj hr]at hg;show(D7 1 true (Hq rows 1000 nw 0 1)).map _=_;rw[gr];exact Tp some hg
    ·rw[Uh c1]at hr;by_cases c2:st=2/\w=false/\far=true
     ·rw[Uc c2]at hr;obtain⟨rfl,rfl,rfl⟩:=c2;have gr:=iT h.B (n-1) 1000 (by omega) (by omega);rw[show n-1+1=n by omega,Tf (by omega),WO (by omega),U0,show((n-1:Nat):Int)=(fw.length:Int) - 1 by omega]at gr;have hg:=aW (nw:=nw) (fw:=fw) (2,false,L,R) 2 false (.many false k);rw[Option.some.inj hr]at hg;show(D7 2 false (Hq rows 1000 fw ((fw.length:Int) - 1) 2)).map _=_;rw[gr];exact Tp some hg
     ·rw[Uh c2]at hr;cases hr
 rw[q]at e;exact⟨g',k1,am_over.trans e⟩
theorem gG(h:Rl rows n N m nw fw)(hr:Np n s .draw=some s'):aY rows n nw fw s .draw s':=λg M hM=>by
 obtain⟨st,w,L,R⟩:=s;unfold Np at hr;dsimp only at hr;split at hr
 ·rename_i k r;by_cases c:r=(cU n false).map .one
  ·rw[Uc c]at hr;have hr:=Option.some.inj hr;subst hr c;have h1:=h.B.nl;have hn4:=h.B.n4;have hw:(cU n false).map (ph nw fw)=nw:=aU h.B.nl h.B.fl false;have e:=gC (w:=nw) (k:=k) (by omega) g;have hmp:(At.many false k::(cU n false).map .one).map (rT nw fw)=.many nw k::nw.map Tk.one:=by rw[Ti,U6];refine Tp (Tk.many nw k :: ·) ?_;rw[<-hw,U6,hw];rfl
   refine⟨g++[.lst (ones nw)],.push _,?_⟩;unfold Yr;dsimp only;rw[hmp];rw[h1]at e;generalize (Tk.many nw k::nw.map Tk.one).map Qy=T at e;exact(Ba λs=>L8).trans (Nq (o:=some (.tup [Qy (.many nw ((k:Int)+1))])) e)
  ·rw[Uh c]at hr;cases hr
 ·cases hr
theorem gH(h:Rl rows n N m nw fw)(hb:b<=100)(o:BD n b s=true)(hr:Np n s (.ends pad sd)=some s'):aY rows n nw fw s (.ends pad sd) s':=λg M hM=>by
 obtain⟨st,w,L,R⟩:=s;obtain⟨o1,o2,o3,o4,o5⟩:=okA_iff.mp o;dsimp only at o2 o3;refine⟨g,.refl,?_⟩;have p0:Qy (rT nw fw (.one 0))=Qy (.one 0):=rfl;have put:∀X:List D,ZL [.tup (((if sd then R else L).map (rT nw fw)).map Qy),.str (eS pad),.str (fc sd)] g=.ok (.tup X) g->QR [.ref M,Jf st w ((L.map (rT nw fw)).map Qy) ((R.map (rT nw fw)).map Qy),Q1 n (.ends pad sd)] g=.ok (if sd then Jf st w ((L.map (rT nw fw)).map Qy) X else Jf st w X ((R.map (rT nw fw)).map Qy)) g:=λX e=>by
  refine((Ba λs=>L7).trans (Se (g':=g) (o:=some (.tup X)) (L:=(L.map (rT nw fw)).map Qy) (R:=(R.map (rT nw fw)).map Qy) ?_)).trans ?_
  ·cases sd<;>exact e
  ·cases sd<;>rfl
 cases pad with
 |true =>have hr:=Option.some.inj hr;have e:=lW (T:=(if sd then R else L).map (rT nw fw)) (by cases sd<;>simp<;>omega) sd g;refine(put _ e).trans ?_;subst hr;cases sd<;>simp[Yr,p0]|false=>
  cases sd with
  |true=>
   have hr:(if R.getLast?=some (.one 0) then some (st,w,L,R.dropLast) else none)=some s':=hr;by_cases c:R.getLast?=some (.one 0)
   ·rw[Uc c]at hr;have hr:=Option.some.inj hr;obtain⟨X,hX⟩:∃X,R=X++[.one 0]:=List.getLast?_eq_some_iff.mp c;subst hX hr;have e:=Sd (T:=(X++[At.one 0]).map (rT nw fw)) (X:=X.map (rT nw fw)) true (by rw[UB];rfl) g;refine(put _ e).trans ?_;simp[Yr]
   ·rw[Uh c]at hr;cases hr
  |false=>
   have hr:(if L.head?=some (.one 0) then some (st,w,L.tail,R) else none)=some s':=hr;by_cases c:L.head?=some (.one 0)
   ·rw[Uc c]at hr;have hr:=Option.some.inj hr;cases L with
    |nil=>cases c|cons y X =>have c:y=.one 0:=Option.some.inj c;subst c hr;have e:=Sd (T:=(At.one 0::X).map (rT nw fw)) (X:=X.map (rT nw fw)) false rfl g;refine(put _ e).trans ?_;simp[Yr]
   ·rw[Uh c]at hr;cases hr
theorem Sf(h:Rl rows n N m nw fw)(hb:b<=100)(o:BD n b s=true)(hm:GG n b s mv=some s'):aY rows n nw fw s mv s':=by
 have hr:=(B3 hm).1;cases mv with
 |step=>exact gE h hb o hr|over=>exact gF h hb o hr|draw=>exact gG h hr|ends pad sd=>exact gH h hb o hr
def aZ(m:Nat):Tk->Bool
 |.one s=>decide (s<m)|.many w _=>w.all λx=>decide (x<m)
theorem Nr:∀w:List Int,EA (w.map .int)=some w
 |[]=>rfl|i::r=>by show(EA (r.map .int)).map (i :: ·)=_;rw[Nr r];rfl
theorem AG:∀{w:List Int},w≠[]->∃M,EO w=some M
 |[],h=>absurd rfl h|i::r,_=>by unfold EO;cases EO r<;>exact⟨_,rfl⟩
section
variable{rows:List (List D)}{n m K:Nat}{g:G}
theorem AH(h:Xz t):∃M:Int,(∀(x0 x1 x2 x3:Option D)(g:G),Qv G9 (Qu XF (Qb (Qa 4) Qi)) [x0,x1,x2,x3,some (Qy t)] g=.ok (.int M) g)/\(aZ m t=decide (M<m)):=by
 cases t with
 |one s=>exact⟨s,λx0 x1 x2 x3 g=>by simp[XF,CY,Qy,G9,EA,EO],rfl⟩|many w k=>
  obtain⟨M,hM⟩:=AG h.1;obtain⟨q1,q2⟩:=Ha hM;refine⟨M,λx0 x1 x2 x3 g=>by simp[XF,CY,Qy,G9,Nr,hM],?_⟩;by_cases hm:M<m
  ·rw[Uu hm];exact Uv.mpr λx hx=>Uu (by have:=q2 x hx;omega)
  ·rw[Ur hm];exact List.all_eq_false.mpr ⟨M,q1,by simpa using hm⟩
theorem bA(h:Xz t)(x0 x1 x3:Option D):Yp [x0,x1,vI m,x3,some (Qy t)] g=if aZ m t=true then .nx [x0,x1,vI m,x3,some (Qy t)] g else .raise (7,none) [x0,x1,vI m,x3,some (Qy t)] g:=by
 obtain⟨M,e,q⟩:=AH (m:=m) h;have e':=e x0 x1 (some (.int m)) x3 g;unfold Yp;rw[q];generalize Qv G9 (Qu XF (Qb (Qa 4) Qi))=Q at e';by_cases hm:M<m
 ·have:¬((m:Int)<=M):=by omega
  simp[e',hm,this]
 ·have:(m:Int)<=M:=by omega
  simp[e',hm,this]
theorem Nt{xs:D}{c:Bool}{T:List Tk}(hs:QG g xs=some (c,T.map Qy))(hT:∀t∈T,Xz t)(x0 x1 x4:Option D):∃y,Yq [x0,x1,vI m,some xs,x4] g=if T.all (aZ m)=true then .nx [x0,x1,vI m,some xs,y] g else .raise (7,none) [x0,x1,vI m,some xs,y] g:=by
 obtain⟨src,s1,s2,s3⟩:=Xq hs;rw[Ua]at s2;have e0:Yq [x0,x1,vI m,some xs,x4] g=JH src (Qn 4) Yp (src.top+1) 0 [x0,x1,vI m,some xs,x4] g:=Yv (by unfold QQ;rw[show Qa 3 [x0,x1,vI m,some xs,x4] g=.ok xs g from rfl,Res.bind_ok];exact s1);have:=VI (src:=src) (t:=Qn 4) (body:=Yp) (n:=T.length) (λi σ g'=>g'=g/\(∃y,σ=[x0,x1,vI m,some xs,y])/\(T.take i).all (aZ m)=true) (λo=>∃y,o=.raise (7,none) [x0,x1,vI m,some xs,y] g/\T.all (aZ m)=false) (λi σ g' hi hQ=>by
  obtain⟨rfl,⟨y,rfl⟩,q⟩:=hQ;refine⟨Qy T[i],[x0,x1,vI m,some xs,some (Qy T[i])],by rw[s3 _ _ hs];simp[hi],rfl,?_⟩;rw[bA (hT _ (UK hi))];by_cases hb:aZ m T[i]=true
  ·rw[Uc hb];exact .inl ⟨_,_,.inl rfl,rfl,⟨_,rfl⟩,by rw[Uq hi,List.all_append,q];simp[hb]⟩
  ·rw[Uh hb];exact .inr ⟨trivial,_,rfl,List.all_eq_false.mpr ⟨T[i],UK hi,hb⟩⟩) (λσ g' hQ=>by rw[hQ.1,s3 _ _ hs];simp) (src.top+1) 0 [x0,x1,vI m,some xs,x4] g (by omega) (by omega) ⟨rfl,⟨_,rfl⟩,rfl⟩
 rw[e0];rcases this with⟨σ',g',h1,rfl,⟨y,rfl⟩,h3⟩|⟨_,y,h1,h2⟩
 ·rw[UO]at h3;exact⟨y,by rw[h1,Uc h3]⟩
 ·exact⟨y,by rw[h1,h2];rfl⟩
theorem bB{M:Nat}{st:Int}{b:Bool}{L R:D}{c c':Bool}{tl tr:List Tk}(hM:g[M]?=some (ZK rows))(hT:Tbl rows n m)(h0:0<=st)(hL:QG g L=some (c,tl.map Qy))(hR:QG g R=some (c',tr.map Qy))(ol:∀t∈tl,Xz t)(or':∀t∈tr,Xz t)(zl:tl.length<=140)(zr:tr.length<=140):
  ∃g',Keeps [] g g'/\Q0 [.ref M,.tup [.int st,.str (fc b),L,R]] g=if st<n/\tl.all (aZ m)=true/\tr.all (aZ m)=true then .ok .non g' else .raise (7,none) g':=by
 obtain⟨g1,e1,k1⟩:=Hm h0 (fc.lr b) hL hR ol or' zl zr;refine⟨g1,k1,?_⟩;have hM1:=k1.a hM;have hA:∀i σ,σ[i]?=some (some (.ref M))->Zd [11,12] "table" (Qa i) σ g1=.ok (.tup (rows.map .tup)) g1:=λi σ h=>KY h hM1;have hn:=hT.len;have hr:∃r rest,rows=r::rest:=by
  cases rows with
  |nil=>have:=hT.n0;simp at hn;omega|cons r rest=>exact⟨r,rest,rfl⟩
 obtain⟨r,rest,hr⟩:=hr;have hrm:r.length=m:=hT.row r (by rw[hr];simp);have st1:VY [.ref M] g1=.ok (.int n) g1:=by simp[VY,Ga,hA,hn]
 have sg1:KO [.ref M] g1=.ok (.int m) g1:=by rw[hr]at hA;simp[KO,Hd,hA,hrm]
 obtain⟨y1,l1⟩:=Nt (m:=m) (QI hL k1) ol (some (.ref M)) (some (.tup [.int st,.str (fc b),L,R])) none;obtain⟨y2,l2⟩:=Nt (m:=m) (QI hR k1) or' (some (.ref M)) (some (.tup [.int st,.str (fc b),L,R])) y1;have hcut:Yc [.int st,.str (fc b),L,R] (some 2) none=[L,R]:=rfl;have hfor:Y1 (QQ (QM (Qa 1) (QZ (mI 2)) QE)) (Qn 3) Yq [vR M,vT [.int st,.str (fc b),L,R],vI m,none,none] g1=JH ⟨λ_ i=>some [L,R][i]?,2⟩ (Qn 3) Yq 3 0 [vR M,vT [.int st,.str (fc b),L,R],vI m,none,none] g1:=Yv rfl;by_cases hs:st<n
 ·have hs':¬((n:Int)<=st):=by omega
  by_cases q1:tl.all (aZ m)=true
  ·by_cases q2:tr.all (aZ m)=true
   ·rw[Uc q1]at l1;rw[Uc q2]at l2;rw[Uc ⟨hs,q1,q2⟩];simp[Q0,Z9,e1,st1,sg1,hs',hfor,JH,Qn,l1,l2]
   ·rw[Uc q1]at l1;rw[Uh q2]at l2;rw[Uh λz=>q2 z.2.2];simp[Q0,Z9,e1,st1,sg1,hs',hfor,JH,Qn,l1,l2]
  ·rw[Uh q1]at l1;rw[Uh λz=>q1 z.2.1];simp[Q0,Z9,e1,st1,sg1,hs',hfor,JH,Qn,l1]
 ·have hs':(n:Int)<=st:=by omega
  rw[Uh λz=>hs z.1];simp[Q0,Z9,e1,st1,hs']
theorem L9{T:List Tk}(h:∀t∈T,TkK K m t):T.all (aZ m)=true:=Uv.mpr λt ht=>by
 have:=h t ht;cases t with
 |one s=>exact Uu this.2|many w k=>exact Uv.mpr λx hx=>Uu (this.2.1 x hx).2
end
def ShIn(nw fw:List Int)(g:G)(s:Sa)(d:D):Prop:=∃L R b b',d=.tup [.int s.1,.str (fc s.2.1),L,R]/\QG g L=some (b,(s.2.2.1.map (rT nw fw)).map Qy)/\QG g R=some (b',(s.2.2.2.map (rT nw fw)).map Qy)
theorem ShIn.sh(g:G)(s:Sa):ShIn nw fw g s (Yr nw fw s):=⟨_,_,false,false,rfl,rfl,rfl⟩
theorem OM(h:Rl rows n N m nw fw)(hb:b<=100)(o:BD n b s=true)(hM:g[M]?=some (ZK rows))(hd:ShIn nw fw g s d):∃g1,Keeps [] g g1/\Q0 [.ref M,d] g=.ok .non g1/\ZR [d] g1=.ok (Yr nw fw s) g1:=by obtain⟨o1,o2,o3,o4,o5⟩:=okA_iff.mp o;obtain⟨L,R,c,c',rfl,hL,hR⟩:=hd;have hN:=h.nN;obtain⟨g1,k1,e⟩:=bB (b:=s.2.1) hM h.T (show(0:Int)<=(s.1:Int) by omega) hL hR (λt ht=>(h.tks o4 t ht).ok (by decide)) (λt ht=>(h.tks o5 t ht).ok (by decide)) (by rw[Ua];omega) (by rw[Ua];omega);rw[Uc ⟨by omega,L9 (h.tks o4),L9 (h.tks o5)⟩]at e;have p1:=J5 (QI hL k1);have p2:=J5 (QI hR k1);exact⟨g1,k1,e,by simp[ZR,V9,p1,p2,Yr,Jf]⟩
theorem bC(h:Rl rows n N m nw fw)(hb:b<=100)(o:BD n b s=true)(hM:g[M]?=some (ZK rows))(hd:ShIn nw fw g s d)(hm:GG n b s mv=some s'):∃g',Keeps [] g g'/\GC [.ref M,d,Q1 n mv] g=.ok (Yr nw fw s') g':=by obtain⟨g1,k1,e1,e2⟩:=OM h hb o hM hd;obtain⟨g2,k2,e3⟩:=Sf h hb o hm g1 M (k1.a hM);exact⟨g2,k1.trans k2,by simp[GC,PN,e1,e2,e3]⟩
theorem Nu(h:Rl rows n N m nw fw)(hb:b<=100)(o:BD n b s=true)(hM:g[M]?=some (ZK rows))(hd:ShIn nw fw g s d)(hy:QG g y=some (c,ms.map (Q1 n)))(hm:CM n b s ms=some s'):∃g',Keeps [] g g'/\Zz [.ref M,d,y] g=.ok (Yr nw fw s') g':=by
 obtain⟨g1,k1,e1,e2⟩:=OM h hb o hM hd;have hy1:=QI hy k1;obtain⟨src,s1,s2,s3⟩:=Xq hy1;rw[Ua]at s2;obtain⟨σ',g2,e3,k2,x,x4,hx,rfl⟩:=KT (src:=src) (t:=Qn 4) (body:=Ya) (n:=ms.length) (σ:=[vR M,some d,some y,some (Yr nw fw s),none]) (g:=g1) s2
  (λi σ g'=>Keeps [] g1 g'/\∃x x4,CM n b s (ms.take i)=some x/\σ=[vR M,some d,some y,some (Yr nw fw x),x4]) ⟨.refl,s,none,rfl,rfl⟩ (λi σ g' hi hQ=>by
   obtain⟨k,x,x4,hx,rfl⟩:=hQ;have hs:CM n b s (ms.take i++ms.drop i)=some s':=by rw[UW];exact hm
   rw[JD,hx,US,Tr hi]at hs;obtain⟨z,hz,_⟩:=UN.mp hs;obtain⟨g2,k2,e⟩:=Sf h hb (Tm _ o hx) hz g' M (k.a (k1.a hM));refine⟨Q1 n ms[i],[vR M,some d,some y,some (Yr nw fw x),some (Q1 n ms[i])],[vR M,some d,some y,some (Yr nw fw z),some (Q1 n ms[i])],g2,by rw[s3 _ _ (QI hy1 k)];simp[hi],rfl,?_,k.trans k2,z,_,?_,rfl⟩
   ·unfold Ya;exact QK ((Qw (ds:=[.ref M,Yr nw fw x,Q1 n ms[i]]) (g':=g') rfl).trans e)
   ·rw[Uq hi,JD,hx,US];show(GG n b x ms[i]).bind _=_;rw[hz];rfl) (λσ g' hQ=>by rw[s3 _ _ (QI hy1 hQ.1)];simp)
 rw[UO,hm]at hx;cases hx;refine⟨g2,k1.trans k2,Zb rfl ?_⟩;show Ye [vR M,some d,some y,none,none] g=_;unfold Ye;refine Qr [vR M,some d,some y,none,none] g1 (by simp[e1]) ?_;refine Qr [vR M,some d,some y,some (Yr nw fw s),none] g1 (QK ((Qw (ds:=[d]) (g':=g1) rfl).trans e2)) ?_;refine Qr _ g2 ((Yv (src:=src) (g':=g1) (by unfold QQ;rw[show Qa 2 [vR M,some d,some y,some (Yr nw fw s),none] g1=.ok y g1 from rfl,Res.bind_ok];exact s1)).trans e3) rfl
def isSt:Mo->Bool
 |.step=>true|_=>false
def AI:At->At
 |.one s=>.one s|.many f k=>.many f (k+1)
def E3(s:Sa):Sa:=(s.1,s.2.1,s.2.2.1.map AI,s.2.2.2.map AI)
theorem pJ(g:G)(mv:Mo):Vk g 7 (Q1 n mv) (.tup [.str "step"])=some (isSt mv):=by
 cases mv with
 |ends pad s=>cases pad<;>simp[Q1,Vk,Jk,PZ,isSt,eS]|_=>simp[Q1,Vk,Jk,PZ,isSt]
theorem Sh(g:G):∀ms:List Mo,fH g (.tup [.str "step"]) (ms.map (Q1 n))=some (ms.any isSt)
 |[]=>rfl|mv::r=>by show(match Vk g 7 (Q1 n mv) (.tup [.str "step"]),fH g (.tup [.str "step"]) (r.map (Q1 n)) with|some a,some b=>some (a||b)|_,_=>none)=_;rw[pJ,Sh g r];rfl
theorem Lg(L:List At):(L.map (rT nw fw)).map JZ=(L.map AI).map (rT nw fw):=by
 rw[U6,U6];refine Ri λt _=>?_;cases t with
 |one s=>rfl|many f k=>show Tk.many _ ((k:Int)+1)=Tk.many _ ((k+1:Nat):Int);rw[TZ];rfl
theorem gI(h:Rl rows n N m nw fw)(hb:b<=100)(o:BD n b s=true)(g:G):Z5 (Yr nw fw s) (Yr nw fw s) g=.ok (.bl true) g:=by
 obtain⟨o1,o2,o3,o4,o5⟩:=okA_iff.mp o;have p1:pq 4 (.tup ((s.2.2.1.map (rT nw fw)).map Qy))=true:=BX (by simp;omega) (LR (h.tks o4));have p2:pq 4 (.tup ((s.2.2.2.map (rT nw fw)).map Qy))=true:=BX (by simp;omega) (LR (h.tks o5));have p3:pq 5 (Yr nw fw s)=true:=BX (by simp) λx hx=>by
  simp only[Ud,RM,or_false]at hx;rcases hx with rfl|rfl|rfl|rfl
  ·rfl
  ·rfl
  ·exact p1
  ·exact p2
 unfold Z5;rw[show(8:Nat)=5+3 from rfl,iO g 3 5 _ p3]
theorem Nv(h:Rl rows n N m nw fw)(T:Tb rows N m)(hb:b<=30)(o:BD n b s=true)(hM:g[M]?=some (ZK rows))(hd:ShIn nw fw g s d)(hy:QG g y=some (c,ms.map (Q1 n)))(hm:CM n b s ms=some (E3 s))(hst:ms.any isSt=true)(hk:k<250)(hz:FK n k (0,[],[])=some (Ej n 0 s))(hne:s.2.1=false->Zg n 0 s.2.2.1≠[]):
  ∃g',Keeps [] g g'/\ZY [.ref M,.tup [.str "grow",.int k,d,y]] g=.ok (.bl true) g':=by
 obtain⟨o1,o2,o3,o4,o5⟩:=okA_iff.mp o;obtain⟨g1,k1,e1⟩:=Nu h (by omega) o hM hd hy hm;obtain⟨L,R,c1,c2,hd',hL,hR⟩:=hd;subst hd';obtain⟨g2,e2,k2⟩:=Ei (f:=fc s.2.1) (st:=(s.1:Int)) (by omega) (fc.lr _) (QI hL k1) (QI hR k1) (λt ht=>(h.tks o4 t ht).ok (by decide)) (λt ht=>(h.tks o5 t ht).ok (by decide)) (by rw[Ua];omega) (by rw[Ua];omega);have er:Vv s.1 (fc s.2.1) (s.2.2.1.map (rT nw fw)) (s.2.2.2.map (rT nw fw))=Yr nw fw (E3 s):=by unfold Vv Yr E3 Jf;rw[Lg,Lg]
 rw[er]at e2;have k12:=k1.trans k2;obtain⟨q1,q2,q3⟩:=E1 (n:=n) (c:=0) hne;have hl0:(Ej n 0 s).2.1.length+(Ej n 0 s).2.2.length<=k:=by simpa using HA k hz
 obtain⟨cb,g3,e3,k3,ic,_⟩:=Lf (f:=s.2.1) (st:=(s.1:Int)) (g:=g2) (L:=L) (R:=R) h.B T (k12.a hM) hk hz (by omega) (QI hL k12) (QI hR k12) (λt ht=>(h.tks o4 t ht).ok (by decide)) (λt ht=>(h.tks o5 t ht).ok (by decide)) (by omega) (by omega) (by rw[<-q2,Uo,U4];omega);rw[ic (by rw[q1]) q2 q3]at e3;have os':=Tm ms o hm;have eq:=gI h (by omega) os' g2;have gp:Ze [.tup [.str "grow",.int k,.tup [.int s.1,.str (fc s.2.1),L,R],y]] g=.ok (.bl true) g:=by
  have w1:=XH k g;rw[Uu (show(0:Int)<=(k:Int) by omega)]at w1;have w2:Vc y g=.ok (.bl true) g:=by unfold Vc;rw[Hl hy];cases c<;>rfl
  simp[Ze,Z3,w1,w2]
 have ein:Fq (.tup [.str "step"]) y g1=.ok (.bl true) g1:=by unfold Fq;rw[QI hy k1];dsimp only;rw[Sh,hst]
 refine⟨g3,k12.trans k3,Zb rfl ?_⟩;show YR [vR M,vT [.str "grow",.int k,.tup [.int s.1,.str (fc s.2.1),L,R],y],none,none] g=_;generalize hS:D.tup [.int s.1,.str (fc s.2.1),L,R]=S at e1 e2 e3 gp ⊢;unfold YR;refine Qr [vR M,vT [.str "grow",.int k,S,y],none,none] g (by simp[gp]) ?_;refine Qr [vR M,vT [.str "grow",.int k,S,y],some S,none] g (by simp) ?_;refine Qr [vR M,vT [.str "grow",.int k,S,y],some S,some (Yr nw fw (E3 s))] g1 (by unfold SR;rw[show QF (Qn 3) (Qu Zz (Qb (Qa 0) (Qb (Qa 2) (Qb (Qe QB (Qa 1) (mI 3)) Qi)))) [vR M,vT [.str "grow",.int k,S,y],some S,none] g=.nx [vR M,vT [.str "grow",.int k,S,y],some S,some (Yr nw fw (E3 s))] g1 from QK ((Qw (ds:=[.ref M,S,y]) (g':=g) rfl).trans e1)]) ?_;refine ZP (Xs (Ql (x:=.tup [.str "step"]) (y:=y) (g1:=g1) (g2:=g1) rfl rfl ein) (Xs (Ql (x:=Yr nw fw (E3 s)) (y:=Yr nw fw (E3 s)) (g1:=g1) (g2:=g2) rfl ((Qw (ds:=[S]) (g':=g1) rfl).trans e2) eq) ((Qw (ds:=[.ref M,.int k,S]) (g':=g2) rfl).trans e3)))
def wr(rows:List (List D))(p q:Nat)(d:D):List (List D):=rows.set p ((rows[p]?.getD []).set q d)
structure Tw(N:Nat)(g:G)(t:Nat)(rows:List (List D))(n m:Nat):Prop where
 tab:tabOf N g t rows
 nd:∃ds,g[t]?=vL ds/\ds.Nodup
 T:Tbl rows n m
theorem Tw.mono(h:Tw N g t rows n m)(k:Keeps S g g1)(hS:∀x∈S,x<N):Tw N g1 t rows n m:=by obtain⟨ds,e,nd⟩:=h.nd;exact⟨h.tab.mono k hS,⟨ds,k.at' _ _ (λz=>by have:=hS t z;have:=h.tab.1;omega) e,nd⟩,h.T⟩
theorem Tbl.wr(h:Tbl rows n m)(hp:p<n)(hd:entOk d n m):Tbl (wr rows p q d) n m:=by
 have hp':p<rows.length:=by rw[h.len];exact hp
 have hr:rows[p]?.getD []=rows[p]:=by rw[Uj hp'];rfl
 refine⟨h.n0,h.m0,by unfold L3.wr;rw[UH,h.len],λr hr'=>?_,λr hr' x hx=>?_⟩
 ·rcases TH hr' with z|z
  ·exact h.row r z
  ·rw[z,UH,hr];exact h.row _ (UK hp')
 ·rcases TH hr' with z|z
  ·exact h.ent r z x hx
  ·rw[z,hr]at hx;rcases TH hx with y|y
   ·exact h.ent _ (UK hp') x y
   ·rw[y];exact hd
theorem E4(h:Tbl rows n m)(hp:p<n)(hq:q<m)(st s:Nat):en (wr rows p q d) st s=if st=p/\s=q then A3 d else en rows st s:=by
 have hp':p<rows.length:=by rw[h.len];exact hp
 have hr:rows[p]?.getD []=rows[p]:=by rw[Uj hp'];rfl
 have hl:=h.row _ (UK hp');unfold en wr;rw[UR,UR,T8,hr];by_cases h1:p=st
 ·subst h1;rw[Uc rfl,Uc hp'];show A3 ((((rows[p]).set q d)[s]?).getD .non)=_;rw[T8];by_cases h2:q=s
  ·subst h2;rw[Uc rfl,Uc (by omega),Uc ⟨rfl,rfl⟩];rfl
  ·rw[Uh h2,Uh (λz=>h2 z.2.symm),hr]
 ·rw[Uh h1,Uh (λz=>h1 z.1.symm)]
theorem Tw.put(h:Tw N g' t rows n m)(hp:p<n)(hq:q<m)(hd:entOk d n m)(hv:v σ g=.ok d g)(ho:∀x,QB (.ref t) (.int p) g'=.ok (.ref x) g'->o σ g=.ok (.ref x) g')(hi:i σ g'=.ok (.int q) g'):
  ∃x,YF o i v σ g=.nx σ (g'.set x (.lst ((rows[p]?.getD []).set q d)))/\N<=x/\Tw N (g'.set x (.lst ((rows[p]?.getD []).set q d))) t (wr rows p q d) n m:=by
 have hp':p<rows.length:=by rw[h.T.len];exact hp
 have hr:rows[p]?.getD []=rows[p]:=by rw[Uj hp'];rfl
 have hl:=h.T.row _ (UK hp');obtain⟨hN,ds,e1,e2,e3⟩:=h.tab;obtain⟨ds',e4,nd⟩:=h.nd;rw[e1]at e4;cases e4;have hpd:p<ds.length:=by omega
 obtain⟨x,q1,q2,q3,q4⟩:=e3 p ds[p] rows[p] (by simp[hpd]) (by simp[hp']);have hix:=Hn (p:=p) e1 (show ds[p]?=some (.ref x) by rw[Uj hpd,q1]);refine⟨x,?_,q2,⟨⟨hN,ds,?_,by unfold wr;rw[UH];exact e2,λj y r hy hr'=>?_⟩,⟨ds,?_,nd⟩,h.T.wr hp hd⟩⟩
 ·unfold YF;rw[hv];dsimp only;rw[ho x hix];dsimp only;rw[hi];dsimp only;rw[q4];dsimp only;unfold GQ;rw[Uc (by omega),Uc (by omega),hr];rfl
 ·rw[Ul q3];exact e1
 ·unfold wr at hr';rw[hr,T8]at hr';rw[hr];by_cases hj:p=j
  ·subst hj;rw[Uc rfl,Uc hp']at hr';cases hr';rw[Uj hpd,q1]at hy;cases hy;exact⟨x,rfl,q2,q3,Zt q4⟩
  ·rw[Uh hj]at hr';obtain⟨y',w1,w2,w3,w4⟩:=e3 j y r hy hr';refine⟨y',w1,w2,w3,?_⟩;have hne:x≠y':=λz=>by
    subst z;have hjl:=(Ui.mp hy).1;have h2:ds[j]=ds[p]:=by rw[Uj hjl]at hy;rw[Option.some.inj hy,w1,q1]
    rcases Nat.lt_or_gt_of_ne hj with z|z
    ·exact Wr.mp nd p j hpd hjl z h2.symm
    ·exact Wr.mp nd j p hjl hpd z h2
   rw[Ul hne];exact w4
 ·rw[Ul q3];exact e1
structure KpN(N:Nat)(g g':G):Prop where
 len:g.length<=g'.length
 at':∀b o,b<N->g[b]?=some o->g'[b]?=some o
theorem KpN.refl  : KpN N g g:=⟨Um _,λ_ _ _ h=>h⟩
theorem KpN.trans(h:KpN N a b)(h':KpN N b c):KpN N a c:=⟨Up h.len h'.len,λx o hx e=>h'.at' x o hx (h.at' x o hx e)⟩
theorem KpN.set(h:N<=x):KpN N g (g.set x o):=⟨by rw[UH];exact Um _,λb o' hb e=>by rw[Ul (by omega)];exact e⟩
theorem KpN.of(k:Keeps [] g g'):KpN N g g':=⟨k.len,λb o _ e=>k.at' b o (by simp) e⟩
theorem Si:A3 (.tup [.int a,.str "r",.int b])=some (a,true,b):=by show some (a,(Str.ofString "r"==Str.ofString "r"),b)=_;rw[JM]
theorem iU:A3 (.tup [.int a,.str "l",.int b])=some (a,false,b):=by show some (a,(Str.ofString "l"==Str.ofString "r"),b)=_;rw[vU]
theorem Sj{a b:Int}{n m:Nat}(h1:0<=a)(h2:a<m)(h3:0<=b)(h4:b<n):entOk (.tup [.int a,.str "r",.int b]) n m:=.inr ⟨a,b,_,rfl,h1,h2,h3,h4,.inr cS⟩
theorem bD{a b:Int}{n m:Nat}(h1:0<=a)(h2:a<m)(h3:0<=b)(h4:b<n):entOk (.tup [.int a,.str "l",.int b]) n m:=.inr ⟨a,b,_,rfl,h1,h2,h3,h4,.inl lP⟩
structure Ft(rows:List (List D))(fo i:Nat):Prop where
 a:en rows (0:Nat) (0:Nat)=some (1,true,1)
 b:en rows (2:Nat) (1:Nat)=some (1,true,1)
 c:∀j,j<i->en rows (1:Nat) (2+j:Nat)=some (((fo+j:Nat):Int),true,1)/\en rows (2:Nat) (2+j:Nat)=some (((2+j:Nat):Int),false,2)/\en rows (2:Nat) (fo+j:Nat)=some (((2+j:Nat):Int),false,2)
theorem Tw.puts(h:Tw N g' t rows n m)(hp:p<n)(hq:q<m)(hd:entOk d n m)(hv:v σ g=.ok d g)(ho:∀x,QB (.ref t) (.int p) g'=.ok (.ref x) g'->o σ g=.ok (.ref x) g')(hi:i σ g'=.ok (.int q) g'):
  ∃g2,YF o i v σ g=.nx σ g2/\KpN N g' g2/\Tw N g2 t (wr rows p q d) n m:=by
 obtain⟨x,e,hx,W⟩:=h.put hp hq hd hv ho hi;exact⟨_,e,.set hx,W⟩
theorem pK{rows:List (List D)}{g:G}{i:Nat}(W:Tw N g t rows n m)(F:Ft rows fo i)(hi:i<l)(hl:l<=3)(hfo:fo=2\/fo=2+l)(hm:fo+l<=m)(hn:3<=n)(nn:Nat):
  ∃rows' g',Jn [x0,x1,x2,vI nn,vI l,vI fo,x6,vR wl,x8,vR t,vI i,x11,x12,x13] g=.nx [x0,x1,x2,vI nn,vI l,vI fo,x6,vR wl,x8,vR t,vI i,x11,x12,x13] g'/\KpN N g g'/\Tw N g' t rows' n m/\Ft rows' fo (i+1):=by
 generalize hσ:[x0,x1,x2,vI nn,vI l,vI fo,x6,vR wl,x8,vR t,vI i,x11,x12,x13]=σ;have v9:Qa 9 σ=λg=>.ok (.ref t) g:=by rw[<-hσ];rfl
 have v10:Qa 10 σ=λg=>.ok (.int i) g:=by rw[<-hσ];rfl
 have v5:Qa 5 σ=λg=>.ok (.int fo) g:=by rw[<-hσ];rfl
 have ix:∀(k:Int)(g:G) x,QB (.ref t) (.int k) g=.ok (.ref x) g->Qe QB (Qa 9) (Qq (.int k)) σ g=.ok (.ref x) g:=λk g x hx=>Ql (by rw[v9]) rfl hx;have i2:∀g,Qe QD (mI 2) (Qa 10) σ g=.ok (.int (2+i:Nat)) g:=λg=>Ql (x:=.int 2) (y:=.int i) rfl (by rw[v10]) rfl;have i5:∀g,Qe QD (Qa 5) (Qa 10) σ g=.ok (.int (fo+i:Nat)) g:=λg=>Ql (x:=.int fo) (y:=.int i) (by rw[v5]) (by rw[v10]) rfl;obtain⟨g1,e1,k1,W1⟩:=W.puts (p:=1) (q:=2+i) (g:=g) (d:=.tup [.int (fo+i:Nat),.str "r",.int 1]) (σ:=σ)
  (o:=Qe QB (Qa 9) (mI 1)) (i:=Qe QD (mI 2) (Qa 10)) (v:=Qt QC (Qb (Qe QD (Qa 5) (Qa 10)) (Qb (Qq (.str "r")) (Qb (mI 1) Qi))))
  (by omega) (by omega) (Sj (by omega) (by omega) (by omega) (by omega)) (Y9 (Qx (i5 g) rfl) rfl) (λx hx=>ix 1 g x hx) (i2 g)
 obtain⟨g2,e2,k2,W2⟩:=W1.puts (p:=2) (q:=2+i) (g:=g1) (d:=.tup [.int (2+i:Nat),.str "l",.int 2]) (σ:=σ)
  (o:=Qe QB (Qa 9) (mI 2)) (i:=Qe QD (mI 2) (Qa 10)) (v:=Qt QC (Qb (Qe QD (mI 2) (Qa 10)) (Qb (Qq (.str "l")) (Qb (mI 2) Qi))))
  (by omega) (by omega) (bD (by omega) (by omega) (by omega) (by omega)) (Y9 (Qx (i2 g1) rfl) rfl) (λx hx=>ix 2 g1 x hx) (i2 g1)
 obtain⟨g3,e3,k3,W3⟩:=W2.puts (p:=2) (q:=fo+i) (g:=g2) (d:=.tup [.int (2+i:Nat),.str "l",.int 2]) (σ:=σ)
  (o:=Qe QB (Qa 9) (mI 2)) (i:=Qe QD (Qa 5) (Qa 10)) (v:=Qt QC (Qb (Qe QD (mI 2) (Qa 10)) (Qb (Qq (.str "l")) (Qb (mI 2) Qi))))
  (by omega) (by omega) (bD (by omega) (by omega) (by omega) (by omega)) (Y9 (Qx (i2 g2) rfl) rfl) (λx hx=>ix 2 g2 x hx) (i5 g2)
 have en3:∀st s:Nat,en (wr (wr (wr rows 1 (2+i) (.tup [.int (fo+i:Nat),.str "r",.int 1])) 2 (2+i) (.tup [.int (2+i:Nat),.str "l",.int 2])) 2 (fo+i) (.tup [.int (2+i:Nat),.str "l",.int 2])) st s=if st=2/\s=fo+i then some (((2+i:Nat):Int),false,2) else if st=2/\s=2+i then some (((2+i:Nat):Int),false,2) else if st=1/\s=2+i then some (((fo+i:Nat):Int),true,1) else en rows st s:=λst s=>by rw[E4 W2.T (by omega) (by omega),E4 W1.T (by omega) (by omega),E4 W.T (by omega) (by omega),iU,Si]
 refine⟨_,g3,?_,k1.trans (k2.trans k3),W3,⟨?_,?_,λj hj=>?_⟩⟩
 ·unfold Jn;exact Qr σ g1 e1 (Qr σ g2 e2 e3)
 ·rw[en3,Uh (by omega),Uh (by omega),Uh (by omega)];exact F.a
 ·rw[en3,Uh (by omega),Uh (by omega),Uh (by omega)];exact F.b
 ·by_cases h:j=i
  ·subst h;refine⟨?_,?_,?_⟩
   ·rw[en3,Uh (by omega),Uh (by omega),Uc ⟨rfl,rfl⟩]
   ·rw[en3];by_cases z:2+j=fo+j
    ·rw[Uc ⟨rfl,z⟩]
    ·rw[Uh (by omega),Uc ⟨rfl,rfl⟩]
   ·rw[en3,Uc ⟨rfl,rfl⟩]
  ·obtain⟨f1,f2,f3⟩:=F.c j (by omega);refine⟨?_,?_,?_⟩
   ·rw[en3,Uh (by omega),Uh (by omega),Uh (by omega)];exact f1
   ·rw[en3,Uh (by omega),Uh (by omega),Uh (by omega)];exact f2
   ·rw[en3,Uh (by omega),Uh (by omega),Uh (by omega)];exact f3
def Ch(rows:List (List D))(w:List Int)(nn i:Nat):Prop:=∀k,k<i->en rows (if k=0 then 1 else 2+k:Nat) (0:Nat)=some (2+w[k]?.getD 0,decide (k+1<nn),((if k+1<nn then 3+k else 2:Nat):Int))
theorem pL(W:Tw N g t rows n m)(F:Ft rows fo l)(C:Ch rows w nn i)(hw:g[wl]?=vL (w.map .int))(hwl:wl<N)(hwn:w.length=nn)(hr:∀x∈w,0<=x/\x+2<m)(hi:i<nn)(hfo:2<=fo)(hn:nn+2<=n)(n0:0<nn)(hm:2<=m):
  ∃rows' g' y11,Jo [x0,x1,x2,vI nn,vI l,vI fo,x6,vR wl,x8,vR t,vI i,x11,x12,x13] g=.nx [x0,x1,x2,vI nn,vI l,vI fo,x6,vR wl,x8,vR t,vI i,y11,x12,x13] g'/\KpN N g g'/\Tw N g' t rows' n m/\Ft rows' fo l/\Ch rows' w nn (i+1):=by
 have hwi:(w.map D.int)[i]?=some (.int (w[i]?.getD 0)):=by rw[UA,Uj (show i<w.length by omega)];rfl
 have hx:=hr (w[i]?.getD 0) (by rw[Uj (show i<w.length by omega)];exact UK _);generalize hwv:w[i]?.getD 0=v at hwi hx;have e7:∀y11,Qe QD (mI 2) (Qe QB (Qa 7) (Qa 10)) [x0,x1,x2,vI nn,vI l,vI fo,x6,vR wl,x8,vR t,vI i,y11,x12,x13] g=.ok (.int (2+v)) g:=λy11=>Ql (x:=.int 2) (y:=.int v) rfl (Ql (x:=.ref wl) (y:=.int i) (g1:=g) (g2:=g) rfl rfl (Hn hw hwi)) rfl;have ed:∃d,A3 d=some (2+v,decide (i+1<nn),((if i+1<nn then 3+i else 2:Nat):Int))/\entOk d n m/\∀(b:MS)(R:Out),b [x0,x1,x2,vI nn,vI l,vI fo,x6,vR wl,x8,vR t,vI i,some d,x12,x13] g=R->Qs (QF (Qn 11) (Qt QC (Qb (Qe QD (mI 2) (Qe QB (Qa 7) (Qa 10))) (Qb (Qq (.str "r")) (Qb (Qe QD (mI 3) (Qa 10)) Qi))))) (Qs (YE (Qo (Qe Z5 (Qe QD (Qa 10) (mI 1)) (Qa 3))) (QF (Qn 11) (Qt QC (Qb (Qe QD (mI 2) (Qe QB (Qa 7) (Qa 10))) (Qb (Qq (.str "l")) (Qb (mI 2) Qi))))) QU) b) [x0,x1,x2,vI nn,vI l,vI fo,x6,vR wl,x8,vR t,vI i,x11,x12,x13] g=R:=by
  have a1:QF (Qn 11) (Qt QC (Qb (Qe QD (mI 2) (Qe QB (Qa 7) (Qa 10))) (Qb (Qq (.str "r")) (Qb (Qe QD (mI 3) (Qa 10)) Qi)))) [x0,x1,x2,vI nn,vI l,vI fo,x6,vR wl,x8,vR t,vI i,x11,x12,x13] g=.nx [x0,x1,x2,vI nn,vI l,vI fo,x6,vR wl,x8,vR t,vI i,vT [.int (2+v),.str "r",.int (3+i)],x12,x13] g:=QK (Y9 (Qx (e7 _) rfl) rfl);have t1:Qo (Qe Z5 (Qe QD (Qa 10) (mI 1)) (Qa 3)) [x0,x1,x2,vI nn,vI l,vI fo,x6,vR wl,x8,vR t,vI i,vT [.int (2+v),.str "r",.int (3+i)],x12,x13] g=.ok ((i:Int)+1==nn) g:=rfl;by_cases h:i+1<nn
  ·refine⟨.tup [.int (2+v),.str "r",.int (3+i)],?_,Sj (by omega) (by omega) (by omega) (by omega),λb R hb=>?_⟩
   ·rw[Si,Uu h,Uc h];rfl
   ·refine Qr _ g a1 (Qr _ g (Jh g (t1.trans ?_) rfl) hb);rw[beq_false_of_ne (by omega)]
  ·refine⟨.tup [.int (2+v),.str "l",.int 2],?_,bD (by omega) (by omega) (by omega) (by omega),λb R hb=>?_⟩
   ·rw[iU,Ur h,Uh h];rfl
   ·refine Qr _ g a1 (Qr _ g (Fe g (t1.trans ?_) (QK (Y9 (Qx (e7 _) rfl) rfl))) hb);rw[show((i:Int)+1==nn)=true from Tn.mpr (by omega)]
 obtain⟨d,d1,d2,d3⟩:=ed;have kp:Keeps [] g (g++[.lst [.int 1,.int (2+i)]]):=.push _;have gl:(g++[GO.lst [.int 1,.int (2+i)]])[g.length]?=vL [.int 1,.int (2+i)]:=Qp _;have eL:Qt Ym (Qb (mI 1) (Qb (Qe QD (mI 2) (Qa 10)) Qi)) [x0,x1,x2,vI nn,vI l,vI fo,x6,vR wl,x8,vR t,vI i,some d,x12,x13] g=.ok (.ref g.length) (g++[.lst [.int 1,.int (2+i)]]):=rfl;generalize g++[GO.lst [.int 1,.int (2+i)]]=g1 at kp gl eL;have W1:=W.mono kp (by simp);have hp:∃p:Nat,p=(if i=0 then 1 else 2+i):=⟨_,rfl⟩;obtain⟨p,hp⟩:=hp;have ei:Qe QB (Qt Ym (Qb (mI 1) (Qb (Qe QD (mI 2) (Qa 10)) Qi))) (Qv Od (Qe Lx (Qa 10) (mI 0))) [x0,x1,x2,vI nn,vI l,vI fo,x6,vR wl,x8,vR t,vI i,some d,x12,x13] g=.ok (.int p) g1:=by
  refine Ql (x:=.ref g.length) (y:=.int (oE (decide ((0:Int)<i)))) (g1:=g1) (g2:=g1) eL rfl ?_;by_cases h:i=0
  ·rw[Ur (by omega)];rw[hp,Uc h];exact Hn (p:=0) gl rfl
  ·rw[Uu (by omega)];rw[hp,Uh h];exact Hn (p:=1) gl rfl
 have pn':p<n:=by rw[hp];split<;>omega
 obtain⟨g2,e2,k2,W2⟩:=W1.puts (p:=p) (q:=0) (g:=g) (d:=d) (σ:=[x0,x1,x2,vI nn,vI l,vI fo,x6,vR wl,x8,vR t,vI i,some d,x12,x13])
  (o:=Qe QB (Qa 9) (Qe QB (Qt Ym (Qb (mI 1) (Qb (Qe QD (mI 2) (Qa 10)) Qi))) (Qv Od (Qe Lx (Qa 10) (mI 0))))) (i:=Qq (.int 0)) (v:=Qa 11)
  pn' (by omega) d2 rfl (λx hx=>Ql (x:=.ref t) (g1:=g) rfl ei hx) rfl
 have en1:∀st s:Nat,en (wr rows p 0 d) st s=if st=p/\s=0 then some (2+v,decide (i+1<nn),((if i+1<nn then 3+i else 2:Nat):Int)) else en rows st s:=λst s=>by rw[E4 W.T pn' (by omega),d1]
 have hp1:p≠0/\p≠2:=by rw[hp];split<;>omega
 refine⟨_,g2,some d,?_,(KpN.of kp).trans k2,W2,⟨?_,?_,λj hj=>?_⟩,λk hk=>?_⟩
 ·unfold Jo;exact d3 _ _ e2
 ·rw[en1,Uh (by omega)];exact F.a
 ·rw[en1,Uh (by omega)];exact F.b
 ·obtain⟨f1,f2,f3⟩:=F.c j hj;exact⟨by rw[en1,Uh (by omega)];exact f1,by rw[en1,Uh (by omega)];exact f2,by rw[en1,Uh (by omega)];exact f3⟩
 ·rw[en1];by_cases h:k=i
  ·subst h;rw[Uc ⟨hp.symm,rfl⟩,hwv]
  ·rw[Uh (λz=>by rw[hp]at z;have:=z.1;split at this<;>split at this<;>omega)];exact C k (by omega)
theorem pM(h1:nw.length=n)(hi:i<n):ph nw fw (i+2)=nw[i]?.getD 0/\ph nw fw (i+2+n)=fw[i]?.getD 0:=by
 constructor
 ·simp[ph,Tc];rw[Ut (by omega)]
 ·simp only[ph,Tc];rw[Ux (by simp;omega)];simp[h1,show i+2+n - (n+2)=i by omega]
theorem pN(T:Tbl rows N m)(F:Ft rows fo l)(C:Ch rows w n n)(n0:0<n)(n4:n<=4)(hw:w.length=n)(hr:∀x∈w,0<=x/\x<l)(hfo:fo=2\/fo=2+l)(hm:fo+l<=m)(hN:n+2<=N):Rl rows n N m (w.map (2 + ·)) (w.map ((fo:Int) + ·)):=by
 have pa:∀i,i<n->ph (w.map (2 + ·)) (w.map ((fo:Int) + ·)) (i+2)=2+w[i]?.getD 0/\ph (w.map (2 + ·)) (w.map ((fo:Int) + ·)) (i+2+n)=fo+w[i]?.getD 0/\0<=w[i]?.getD 0/\w[i]?.getD 0<l:=λi hi=>by
  obtain⟨p1,p2⟩:=pM (nw:=w.map (2 + ·)) (fw:=w.map ((fo:Int) + ·)) (n:=n) (i:=i) (by rw[Ua,hw]) hi;have hi':i<w.length:=by omega
  have:=hr w[i] (UK hi');rw[p1,p2,UA,UA,Uj hi'];exact⟨rfl,rfl,this⟩
 generalize hnw:w.map (2 + ·)=nw at pa ⊢;generalize hfw:w.map ((fo:Int) + ·)=fw at pa ⊢;have p0:ph nw fw 0=0:=rfl;have p1:ph nw fw 1=1:=rfl;have sp:∀s,2<=s->s<2*n+2->∃i,i<n/\(s=i+2\/s=i+2+n):=λs h1 h2=>by
  by_cases h:s<n+2
  ·exact⟨s-2,by omega,.inl (by omega)⟩
  ·exact⟨s-2-n,by omega,.inr (by omega)⟩
 have rng:∀x,x<2*n+2->(0<=ph nw fw x/\ph nw fw x<m)/\(x≠0->0<ph nw fw x):=λx hx=>by
  by_cases h0:x=0
  ·subst h0;rw[p0];exact⟨by omega,λz=>absurd rfl z⟩
  ·by_cases h1:x=1
   ·subst h1;rw[p1];exact⟨by omega,λ_=>by omega⟩
   ·obtain⟨i,hi,e⟩:=sp x (by omega) hx;obtain⟨q1,q2,q3,q4⟩:=pa i hi;rcases e with rfl|rfl
    ·rw[q1];exact⟨by omega,λ_=>by omega⟩
    ·rw[q2];exact⟨by omega,λ_=>by omega⟩
 refine⟨⟨n0,n4,by rw[<-hnw,Ua,hw],by rw[<-hfw,Ua,hw],λs h1 h2=>(rng s h2).2 h1,λst s a v st' h=>?_⟩,T,hN,λx hx=>(rng x hx).1⟩;unfold AB at h;split at h
 ·rename_i hs;subst hs;rw[p0];split at h
  ·rename_i hst;subst hst;cases h;exact F.a
  ·split at h
   ·rename_i hst;subst hst;cases h;have c:=C 0 n0;rw[Uc rfl]at c;rw[(pa 0 n0).1];refine c.trans ?_;rw[Nat.zero_add]
   ·split at h
    ·rename_i hst;cases h;have c:=C (st-2) (by omega);rw[Uh (by omega),show 2+(st-2)=st by omega,show st-2+1=st-1 by omega]at c;have q:=(pa (st-2) (by omega)).1;rw[show st-2+2=st by omega]at q;rw[q];refine c.trans ?_;by_cases z:st<n+1
     ·rw[Uu z,Uc z,Uu (show st-1<n by omega),Uc (by omega),show 3+(st-2)=st+1 by omega]
     ·rw[Ur z,Uh z,Ur (show ¬st-1<n by omega),Uh (by omega)]
    ·cases h
 ·split at h
  ·rename_i hs;subst hs;rw[p1];split at h
   ·rename_i hst;subst hst;cases h;exact F.b
   ·cases h
  ·split at h
   ·obtain⟨q1,q2,q3,q4⟩:=pa (s-2) (by omega);rw[show s-2+2=s by omega]at q1 q2;obtain⟨f1,f2,_⟩:=F.c (w[s-2]?.getD 0).toNat (by omega);have ez:((2+(w[s-2]?.getD 0).toNat:Nat):Int)=2+w[s-2]?.getD 0:=by omega
    have ey:((fo+(w[s-2]?.getD 0).toNat:Nat):Int)=fo+w[s-2]?.getD 0:=by omega
    rw[ez]at f1 f2;rw[ey]at f1;rw[q1];split at h
    ·rename_i hst;subst hst;cases h;rw[q2];exact f1
    ·split at h
     ·rename_i hst;subst hst;cases h;rw[q1];exact f2
     ·cases h
   ·split at h
    ·obtain⟨q1,q2,q3,q4⟩:=pa (s-2-n) (by omega);rw[show s-2-n+2+n=s by omega]at q2;rw[show s-2-n+2=s-n by omega]at q1;obtain⟨_,_,f3⟩:=F.c (w[s-2-n]?.getD 0).toNat (by omega);have ez:((2+(w[s-2-n]?.getD 0).toNat:Nat):Int)=2+w[s-2-n]?.getD 0:=by omega
     have ey:((fo+(w[s-2-n]?.getD 0).toNat:Nat):Int)=fo+w[s-2-n]?.getD 0:=by omega
     rw[ez,ey]at f3;rw[q2];split at h
     ·rename_i hst;subst hst;cases h;rw[q1];exact f3
     ·cases h
    ·cases h
theorem Nw{it e:ME}{cap:List Nat}{σ σc:S3}{g:G}{c:Nat}(F:Nat->D)(hit:it σ g=.ok (.int c) g)(hc:c<=1000)(hcap:CQ 1 cap σ=none::σc)(he:∀i,i<c->e (some (.int i)::σc) g=.ok (F i) g):ZQ (Q4 it) 1 cap (Qn 0) Yb e σ g=.ok (.ref g.length) (g++[.lst ((List.range c).map F)]):=by
 obtain⟨xs,σ',g3,c1,c2,c3,_⟩:=YH (src:=ZH 0 c) (t:=Qn 0) (c:=Yb) (e:=e) (n:=c)
  (λi σ' g4 acc=>acc=(List.range i).map F/\g4=g/\∃u,σ'=u::σc) (λi σ' g4 acc hi hQ=>by obtain⟨q1,q2,u,q3⟩:=hQ;subst q2 q3;refine⟨.int (0+i),some (.int (0+i))::σc,g4,by simp[ZH,hi],rfl,.inl ⟨F i,g4,rfl,by rw[TY];exact he i hi,by rw[q1,WV,UB];rfl,rfl,_,rfl⟩⟩) (λσ g4 acc _=>by simp[ZH]) (c+1) 0 (none::σc) g [] (by omega) (by omega) ⟨rfl,rfl,none,rfl⟩
 subst c2 c3;exact JC (n:=1) (cap:=cap) (σ0:=none::σc) (YI (n:=c) hit (Xr hc)) (UP (Jr hc)) hcap c1
theorem pO(n:Nat)(hn:0<n):[Q1 n .over]++(List.range (2*n-1)).map (λ_=>Q1 n .step)++[Q1 n .over,Q1 n .step,Q1 n .draw]=(Zv n).map (Q1 n):=by unfold Zv;rw[UB,UB,Wk,List.map_const',Wy];rfl
theorem wU{g:G}{t N n m l fo wl nn:Nat}{x0 x1 x2 x6 x8 x10 x11 x12 x13:Option D}{rows:List (List D)}(W:Tw N g t rows n m)(F:Ft rows fo 0)(hl:l<=3)(hfo:fo=2\/fo=2+l)(hm:fo+l<=m)(hn:3<=n):
  ∃rows' g' y10,Y1 (Q4 (Qa 4)) (Qn 10) Jn [x0,x1,x2,vI nn,vI l,vI fo,x6,vR wl,x8,vR t,x10,x11,x12,x13] g=.nx [x0,x1,x2,vI nn,vI l,vI fo,x6,vR wl,x8,vR t,y10,x11,x12,x13] g'/\KpN N g g'/\Tw N g' t rows' n m/\Ft rows' fo l:=by
 obtain⟨σ',g',e,rows',y10,rfl,k,W',F'⟩:=Jb (t:=Qn 10) (body:=Jn) (lo:=0) (n:=l) (σ:=[x0,x1,x2,vI nn,vI l,vI fo,x6,vR wl,x8,vR t,x10,x11,x12,x13]) (g:=g)
  (λi σ g'=>∃rows' y10,σ=[x0,x1,x2,vI nn,vI l,vI fo,x6,vR wl,x8,vR t,y10,x11,x12,x13]/\KpN N g g'/\Tw N g' t rows' n m/\Ft rows' fo i) ⟨rows,x10,rfl,.refl,W,F⟩ (λi σ g1 hi hQ=>by obtain⟨rows1,y,rfl,k1,W1,F1⟩:=hQ;obtain⟨rows2,g2,e2,k2,W2,F2⟩:=pK (x0:=x0) (x1:=x1) (x2:=x2) (x6:=x6) (x8:=x8) (x11:=x11) (x12:=x12) (x13:=x13) (wl:=wl) W1 F1 hi hl hfo hm hn nn;refine⟨[x0,x1,x2,vI nn,vI l,vI fo,x6,vR wl,x8,vR t,vI (0+i),x11,x12,x13],_,g2,rfl,by rw[TY];exact e2,rows2,_,rfl,k1.trans k2,W2,F2⟩)
 exact⟨rows',g',y10,(Yv (YI (n:=l) rfl (Xr (by omega)))).trans e,k,W',F'⟩
theorem wV{g:G}{t N n m l fo wl nn:Nat}{x0 x1 x2 x6 x8 x10 x11 x12 x13:Option D}{rows:List (List D)}{w:List Int}(W:Tw N g t rows n m)(F:Ft rows fo l)(hw:g[wl]?=vL (w.map .int))(hwl:wl<N)(hwn:w.length=nn)(hr:∀x∈w,0<=x/\x+2<m)(hfo:2<=fo)(hn:nn+2<=n)(n0:0<nn)(n4:nn<=4)(hm:2<=m):
  ∃rows' g' y10 y11,Y1 (Q4 (Qa 3)) (Qn 10) Jo [x0,x1,x2,vI nn,vI l,vI fo,x6,vR wl,x8,vR t,x10,x11,x12,x13] g=.nx [x0,x1,x2,vI nn,vI l,vI fo,x6,vR wl,x8,vR t,y10,y11,x12,x13] g'/\KpN N g g'/\Tw N g' t rows' n m/\Ft rows' fo l/\Ch rows' w nn nn:=by
 obtain⟨σ',g',e,rows',y10,y11,rfl,k,W',F',C'⟩:=Jb (t:=Qn 10) (body:=Jo) (lo:=0) (n:=nn) (σ:=[x0,x1,x2,vI nn,vI l,vI fo,x6,vR wl,x8,vR t,x10,x11,x12,x13]) (g:=g)
  (λi σ g'=>∃rows' y10 y11,σ=[x0,x1,x2,vI nn,vI l,vI fo,x6,vR wl,x8,vR t,y10,y11,x12,x13]/\KpN N g g'/\Tw N g' t rows' n m/\Ft rows' fo l/\Ch rows' w nn i) ⟨rows,x10,x11,rfl,.refl,W,F,λk hk=>by omega⟩ (λi σ g1 hi hQ=>by obtain⟨rows1,y,y',rfl,k1,W1,F1,C1⟩:=hQ;obtain⟨rows2,g2,y11,e2,k2,W2,F2,C2⟩:=pL (x0:=x0) (x1:=x1) (x2:=x2) (x6:=x6) (x8:=x8) (x11:=y') (x12:=x12) (x13:=x13) W1 F1 C1 (k1.at' _ _ hwl hw) hwl hwn hr hi hfo hn n0 hm;refine⟨[x0,x1,x2,vI nn,vI l,vI fo,x6,vR wl,x8,vR t,vI (0+i),y',x12,x13],_,g2,rfl,by rw[TY];exact e2,rows2,_,_,rfl,k1.trans k2,W2,F2,C2⟩)
 exact⟨rows',g',y10,y11,(Yv (YI (n:=nn) rfl (Xr (by omega)))).trans e,k,W',F',C'⟩
theorem E5(k:Keeps [a] g g1)(k2:KpN N g1 g2)(hN:g.length<=N):Keeps [a] g g2:=⟨Up k.len k2.len,λb o hb e=>k2.at' b o (by have:=Zf e;omega) (k.at' b o hb e)⟩
theorem ON(ns:List Int)(ga:g[a]?=vL [.int k])(hk:0<=k)(hk2:k<800000000):
  ∃(n N m:Nat)(nw fw:List Int)(rows:List (List D))(t q:Nat)(k':Int)(g':G),BN [.fl (ns.map .int),.ref a] g=.ok (.tup [.ref t,.tup (nw.map .int),.ref q]) g'/\Keeps [a] g g'/\g'[a]?=vL [.int k']/\(k<=k'/\k'<=k+100)/\Rl rows n N m nw fw/\Tb rows N m/\tabOf g.length g' t rows/\g'[q]?=vL ((Zv n).map (Q1 n))/\g.length<=q:=by
 suffices h:Rts (λd g'=>∃(n N m:Nat)(nw fw:List Int)(rows:List (List D))(t q:Nat)(k':Int),d=.tup [.ref t,.tup (nw.map .int),.ref q]/\Keeps [a] g g'/\g'[a]?=vL [.int k']/\(k<=k'/\k'<=k+100)/\Rl rows n N m nw fw/\Tb rows N m/\tabOf g.length g' t rows/\g'[q]?=vL ((Zv n).map (Q1 n))/\g.length<=q) BM [vF ns,vR a,none,none,none,none,none,none,none,none,none,none,none,none] g by obtain⟨_,g',e,n,N,m,nw,fw,rows,t,q,k',rfl,h⟩:=h;exact⟨n,N,m,nw,fw,rows,t,q,k',g',Zb rfl e,h⟩
 refine LM λQ hQ=>?_;unfold BM;obtain⟨z,z0,z1,e1⟩:=Ct ns a k g ga hk (by omega);refine .sq (QK ((Qw (ds:=[.fl (ns.map .int),.ref a]) (g':=g) rfl).trans e1)) ?_;have k1:Keeps [a] g (g.set a (.lst [.int (k+1)])):=.set _ _;have ga1:(g.set a (.lst [.int (k+1)]))[a]?=vL [.int (k+1)]:=Zt ga;have hal:a<g.length:=Zf ga;have gl1:(g.set a (.lst [.int (k+1)])).length=g.length:=UH ..;generalize g.set a (.lst [.int (k+1)])=g1 at k1 ga1 gl1 ⊢;obtain⟨n,hn⟩:∃n:Nat,(n:Int)=1+z%4:=⟨(1+z%4).toNat,by omega⟩;refine .sq (QK (d:=.int n) (by rw[hn];exact Ql (x:=.int 1) (y:=.int (z%4)) (g1:=g1) (g2:=g1) rfl (Ql rfl rfl (KU (by decide))) rfl)) ?_;obtain⟨mn,m1,m2,m3,hmin⟩:∃mn:Int,1<=mn/\mn<=3/\mn<=n/\IS (.int 3) (.int n)=λg=>.ok (.int mn) g:=by
  by_cases c:(n:Int)<3
  ·exact⟨n,by omega,by omega,by omega,by funext g;show Res.ok (D.int (if (n:Int)<3 then (n:Int) else 3)) g=_;rw[Uc c]⟩
  ·exact⟨3,by omega,by omega,by omega,by funext g;show Res.ok (D.int (if (n:Int)<3 then (n:Int) else 3)) g=_;rw[Uh c]⟩
 have l0:=UM (z/4) (show mn≠0 by omega);have l1:=U3 (z/4) (show 0<mn by omega);obtain⟨l,hl⟩:∃l:Nat,(l:Int)=1+z/4%mn:=⟨(1+z/4%mn).toNat,by omega⟩;refine .sq (QK (d:=.int l) (by rw[hl];exact Ql (x:=.int 1) (y:=.int (z/4%mn)) (g1:=g1) (g2:=g1) rfl (Ql (Ql rfl rfl (Ee (by decide) (by decide))) (Ql (x:=.int 3) (y:=.int n) (g1:=g1) (g2:=g1) rfl rfl (by rw[hmin])) (KU (by omega))) rfl)) ?_;obtain⟨fo,hfo,hfo'⟩:∃fo:Nat,(fo:Int)=2+l*(z/16%2)/\(fo=2\/fo=2+l):=by
  rcases(by omega:z/16%2=0\/z/16%2=1) with c|c
  ·exact⟨2,by rw[c];simp,.inl rfl⟩
  ·exact⟨2+l,by rw[c];simp,.inr rfl⟩
 refine .sq (QK (d:=.int fo) (by rw[hfo];exact Ql (x:=.int 2) (y:=.int (l*(z/16%2))) (g1:=g1) (g2:=g1) rfl (Ql (x:=.int l) (y:=.int (z/16%2)) (g1:=g1) (g2:=g1) rfl (Ql (Ql rfl rfl (Ee (by decide) (by decide))) rfl (KU (by decide))) (fM (Ku (by omega) (by omega)))) rfl)) ?_;obtain⟨u,u0,u1,e2⟩:=Ct ns a (k+1) g1 ga1 (by omega) (by omega);rw[show k+1+1=k+2 by omega]at e2;refine .sq (QK ((Qw (ds:=[.fl (ns.map .int),.ref a]) (g':=g1) rfl).trans e2)) ?_;have k2:Keeps [a] g1 (g1.set a (.lst [.int (k+2)])):=.set _ _;have ga2:(g1.set a (.lst [.int (k+2)]))[a]?=vL [.int (k+2)]:=Zt ga1;have gl2:(g1.set a (.lst [.int (k+2)])).length=g1.length:=UH ..;generalize g1.set a (.lst [.int (k+2)])=g2 at k2 ga2 gl2 ⊢
 -- the word
 refine .sq (QK (Nw (σc:=[vI l,vI u]) (c:=n) (λi=>.int (u / (7*i*i+1) % l)) rfl (by omega) rfl (λi hi=>by
  have hii:0<=7*(i:Int)*i/\7*(i:Int)*i<=100:=by rcases(by omega:i=0\/i=1\/i=2\/i=3) with rfl|rfl|rfl|rfl<;>decide
  exact Ql (x:=.int (u / (7*i*i+1))) (y:=.int l) (g1:=g2) (g2:=g2) (Ql (x:=.int u) (y:=.int (7*i*i+1)) (g1:=g2) (g2:=g2) rfl (Ql (x:=.int (7*i*i)) (y:=.int 1) (g1:=g2) (g2:=g2) (Ql (x:=.int (7*i)) (y:=.int i) (g1:=g2) (g2:=g2) (Ql rfl rfl (fM (Ku (by omega) (by omega)))) rfl (oS (Ku (by omega) (by omega)))) rfl rfl) (Ee (by omega) (by omega))) rfl (KU (by omega))))) ?_
 obtain⟨w,hw⟩:∃w:List Int,w=(List.range n).map λi:Nat=>u / (7*(i:Int)*i+1) % l:=⟨_,rfl⟩;rw[show(List.range n).map (λi:Nat=>D.int (u / (7*(i:Int)*i+1) % l))=w.map .int by rw[hw,U6];rfl];have wlen:w.length=n:=by rw[hw,Ua,Wy]
 have wrng:∀x∈w,0<=x/\x<l:=λx hx=>by rw[hw]at hx;obtain⟨i,_,rfl⟩:=UQ.mp hx;exact⟨UM _ (by omega),U3 _ (by omega)⟩
 clear hw;have k3:Keeps [a] g2 (g2++[.lst (w.map .int)]):=.push _;have gw3:(g2++[GO.lst (w.map .int)])[g2.length]?=vL (w.map .int):=Qp _;have ga3:(g2++[GO.lst (w.map .int)])[a]?=vL [.int (k+2)]:=(Keeps.push (S:=[]) _).a ga2;have gl3:(g2++[GO.lst (w.map .int)]).length=g2.length+1:=by simp
 generalize g2++[GO.lst (w.map .int)]=g3 at k3 gw3 ga3 gl3 ⊢;obtain⟨sg,hsg,hsg1,hsg2⟩:∃sg:Nat,(sg:Int)=(fo:Int)+l+(if decide ((fo:Int)+l<8)=true then 1 else 0)*(z/32%2)/\fo+l<=sg/\sg<=8:=by
  by_cases c:(fo:Int)+l<8
  ·rw[Uu c,Uc rfl,Int.one_mul];exact⟨((fo:Int)+l+z/32%2).toNat,by omega,by omega,by omega⟩
  ·rw[Ur c,Uh Ue,Int.zero_mul];exact⟨fo+l,by omega,by omega,by omega⟩
 refine .sq (QK (d:=.int sg) (by rw[hsg];exact Ql (x:=.int (fo+l)) (y:=.int ((if decide ((fo:Int)+l<8)=true then 1 else 0)*(z/32%2))) (g1:=g3) (g2:=g3) rfl (Ql (x:=.int (if decide ((fo:Int)+l<8)=true then 1 else 0)) (y:=.int (z/32%2)) (g1:=g3) (g2:=g3) rfl (Ql (Ql rfl rfl (Ee (by decide) (by decide))) rfl (KU (by decide))) (oS (Ku (by omega) (by omega)))) rfl)) ?_;obtain⟨N,hN⟩:∃N:Nat,(N:Int)=2+n+z/64%3:=⟨(2+n+z/64%3).toNat,by omega⟩;obtain⟨rows0,g4,e4,k4,ga4,ht4,n4,m4,en4,nd4⟩:=D2 ns a (k+2) N sg g3 (by omega) (by omega) (by omega) (by omega) ga3 (by omega) (by omega);refine .sq (QK ((Qw (ds:=[.fl (ns.map .int),.ref a,.int N,.int sg]) (g':=g3) (Qx (g1:=g3) rfl (Qx (g1:=g3) rfl (Qx (g1:=g3) (by rw[hN];exact Ql (x:=.int (2+n)) (y:=.int (z/64%3)) (g1:=g3) (g2:=g3) rfl (Ql (Ql rfl rfl (Ee (by decide) (by decide))) rfl (KU (by decide))) rfl) rfl)))).trans e4)) ?_;have W4:Tw g3.length g4 g3.length rows0 N sg:=⟨ht4,nd4,⟨by omega,by omega,n4,m4,en4⟩⟩;have hNs:(N:Int)*sg<=64:=by
  have:N*sg<=8*8:=Wo (by omega) (by omega)
  exact_mod_cast this
 have hNs0:(0:Int)<=(N:Int)*sg:=Int.mul_nonneg (by omega) (by omega);have hal4:a<g3.length:=by omega
 -- the marked cell
 have ix:∀(k:Int)(g:G) x,QB (.ref g3.length) (.int k) g=.ok (.ref x) g->Qe QB (Qa 9) (Qq (.int k)) [vF ns,vR a,vI z,vI n,vI l,vI fo,vI u,vR g2.length,vI sg,vR g3.length,none,none,none,none] g=.ok (.ref x) g:=λk g x hx=>Ql rfl rfl hx;obtain⟨g5,e5,k5,W5⟩:=W4.puts (p:=0) (q:=0) (i:=Qq (.int 0)) (v:=Qt QC (Qb (mI 1) (Qb (Qq (.str "r")) (Qb (mI 1) Qi)))) (by omega) (by omega) (Sj (by omega) (by omega) (by omega) (by omega)) rfl (λx hx=>ix 0 g4 x hx) rfl;refine .sq e5 ?_;obtain⟨g6,e6,k6,W6⟩:=W5.puts (p:=2) (q:=1) (i:=Qq (.int 1)) (v:=Qt QC (Qb (mI 1) (Qb (Qq (.str "r")) (Qb (mI 1) Qi)))) (by omega) (by omega) (Sj (by omega) (by omega) (by omega) (by omega)) rfl (λx hx=>ix 2 g5 x hx) rfl;refine .sq e6 ?_;have F0:Ft (wr (wr rows0 0 0 (.tup [.int 1,.str "r",.int 1])) 2 1 (.tup [.int 1,.str "r",.int 1])) fo 0:=⟨by rw[E4 W5.T (by omega) (by omega),Uh (by omega),E4 W4.T (by omega) (by omega),Uc ⟨rfl,rfl⟩,Si],by rw[E4 W5.T (by omega) (by omega),Uc ⟨rfl,rfl⟩,Si],λj hj=>by omega⟩
 obtain⟨rows1,g7,y10,e7,k7,W7,F7⟩:=wU (x0:=some (D.fl (ns.map .int))) (x1:=some (.ref a)) (x2:=some (.int z)) (x6:=some (.int u)) (x8:=some (.int sg)) (x10:=none) (x11:=none) (x12:=none) (x13:=none) (wl:=g2.length) (nn:=n) W6 F0 (l:=l) (by omega) hfo' (by omega) (by omega);refine .sq e7 ?_;have gw7:=k7.at' _ _ (by omega) (k6.at' _ _ (by omega) (k5.at' _ _ (by omega) (k4.at' _ _ (by simp;omega) gw3)));obtain⟨rows2,g8,z10,z11,e8,k8,W8,F8,C8⟩:=wV (x0:=some (D.fl (ns.map .int))) (x1:=some (.ref a)) (x2:=some (.int z)) (x6:=some (.int u)) (x8:=some (.int sg)) (x10:=y10) (x11:=none) (x12:=none) (x13:=none) (wl:=g2.length) (nn:=n) (w:=w) W7 F7 gw7 (by omega) wlen (λx hx=>by have:=wrng x hx;omega) (by omega) (by omega) (by omega) (by omega) (by omega);refine .sq e8 ?_;have RL:=pN W8.T F8 C8 (by omega) (by omega) wlen wrng hfo' (by omega) (by omega);have K8:Keeps [a] g g8:=E5 (E5 (E5 (E5 (k1.trans (k2.trans (k3.trans k4))) k5 (by omega)) k6 (by omega)) k7 (by omega)) k8 (by omega);have ga8:g8[a]?=vL [.int (k+2+N*sg)]:=k8.at' _ _ hal4 (k7.at' _ _ hal4 (k6.at' _ _ hal4 (k5.at' _ _ hal4 ga4)));have gw8:=k8.at' _ _ (by omega) gw7;have gl8:g3.length<=g8.length:=Up k4.len (Up k5.len (Up k6.len (Up k7.len k8.len)));have ht8:=W8.tab;refine .sq (QK (Nw (σc:=[]) (c:=2*n-1) (λ_=>Q1 n .step) (Ql (x:=.int (2*n)) (y:=.int 1) (g1:=g8) (g2:=g8) (Ql rfl rfl (fM (Ku (by omega) (by omega)))) rfl (by show Res.ok (D.int (2*(n:Int) - 1)) g8=_;rw[show 2*(n:Int) - 1=((2*n-1:Nat):Int) by omega])) (by omega) rfl (λi hi=>rfl))) ?_;have k9:Keeps [] g8 (g8++[.lst ((List.range (2*n-1)).map λ_=>Q1 n .step)]):=.push _;have p9:(g8++[GO.lst ((List.range (2*n-1)).map λ_=>Q1 n .step)])[g8.length]?=vL ((List.range (2*n-1)).map λ_=>Q1 n .step):=Qp _;obtain⟨sts,hst9⟩:∃sts,(List.range (2*n-1)).map (λ_=>Q1 n .step)=sts:=⟨_,rfl⟩;rw[hst9]at k9 p9 ⊢;generalize g8++[GO.lst sts]=g9 at k9 p9 ⊢;have slen:sts.length=2*n-1:=by rw[<-hst9,Ua,Wy]
 have k10:Keeps [] g9 (g9++[.lst [Q1 n .over]]):=.push _;have a11:=YS (Qp (g:=g9) (.lst [Q1 n .over])) (k10.a p9) (by rw[slen];simp;omega);have k11:Keeps [] (g9++[.lst [Q1 n .over]]) (g9++[.lst [Q1 n .over]]++[.lst ([Q1 n .over]++sts)]):=.push _;have k12:Keeps [] (g9++[.lst [Q1 n .over]]++[.lst ([Q1 n .over]++sts)]) (g9++[.lst [Q1 n .over]]++[.lst ([Q1 n .over]++sts)]++[.lst [Q1 n .over,Q1 n .step,Q1 n .draw]]):=.push _;have a13:=YS (k12.a (Qp _)) (Qp _) (by rw[Uo,slen];simp;omega);rw[<-hst9,pO n (by omega),hst9]at a13;refine .sq (QK (Ql (Ql rfl rfl a11) rfl a13)) ?_;have k12:=k9.trans (k10.trans (k11.trans k12));generalize g9++[GO.lst [Q1 n .over]]++[.lst ([Q1 n .over]++sts)]++[.lst [Q1 n .over,Q1 n .step,Q1 n .draw]]=g12 at k12 ⊢;have k13:Keeps [] g12 (g12++[.lst ((Zv n).map (Q1 n))]):=.push _;have p13:(g12++[GO.lst ((Zv n).map (Q1 n))])[g12.length]?=vL ((Zv n).map (Q1 n)):=Qp _;generalize g12++[GO.lst ((Zv n).map (Q1 n))]=g13 at k13 p13 ⊢;have K13:Keeps [] g8 g13:=k12.trans k13;have gw13:=K13.a gw8;obtain⟨src,q1,q2,q3⟩:=Xq (QX gw13);obtain⟨g14,c14,k14⟩:=ER (ds:=w.map D.int) (e:=Qe QD (mI 2) (Qa 0)) (g:=g13) (F:=λd=>match d with | .int x=>.int (2+x)|_=>.non) (src:=src) (by rw[Ua];omega) (λd hd g1 k=>by obtain⟨x,_,rfl⟩:=UQ.mp hd;exact⟨g1,rfl,.refl⟩) q2 (λg1 i k=>q3 g1 i (QX (k.a gw13)));have hmw:(w.map D.int).map (λd=>match d with | .int x=>D.int (2+x)|_=>.non)=(w.map (2 + ·)).map .int:=by rw[U6,U6];rfl
 rw[hmw]at c14;have k15:Keeps [] g13 (g14++[.lst ((w.map (2 + ·)).map .int)]):=k14.trans (.push _);have K15:=K13.trans k15;refine⟨_,g14++[.lst ((w.map (2 + ·)).map .int)],ZP (Y9 (Qx (x:=.ref g3.length) (g1:=g13) rfl (Qx (ZC (JC (σ0:=[none]) (g1:=g13) ?_ ?_ rfl c14) (J5 (QX (Qp _)))) (Qx (x:=.ref g12.length) (g1:=g14++[.lst ((w.map (2 + ·)).map .int)]) rfl rfl))) rfl),hQ _ _ ⟨n,N,sg,w.map (2 + ·),w.map ((fo:Int) + ·),rows2,g3.length,g12.length,k+2+N*sg,rfl,K8.trans ⟨K15.len,λb o hb e=>K15.at' b o (by simp) e⟩,K15.a ga8,by omega,RL,⟨by omega,by omega,by omega,by omega,W8.T.len,W8.T.row,W8.T.ent⟩,⟨by have:=ht8.1;omega,(ht8.mono K15 (by simp)).2.imp λds h=>⟨h.1,h.2.1,λi x r hx hr=>by obtain⟨y,h1,h2,h3⟩:=h.2.2 i x r hx hr;exact⟨y,h1,by omega,h3⟩⟩⟩,k15.a p13,by have:=k12.len;omega⟩⟩
 ·exact q1
 ·rw[q2,Ua];exact UP (Jr (by omega))
def uU(n c:Nat):Mo->Nat
 |.step=>1|.over=>n*c|_=>0
def Sk(n c:Nat)(ms:List Mo):Nat:=(ms.map (uU n c)).sum
def uV:Bool:=(List.range 4).all λk=>(List.range (2*k+5)).all λt=>(List.range 9).all λc=>decide (Sk (k+1) c ((Zv (k+1)).take t)=Kh (k+1) t c/\Sk (k+1) c ((Zv (k+1)).drop t)=Kh (k+1) (2*(k+1)+3) c-Kh (k+1) t c/\Sk (k+1) c (Zv (k+1))=Kh (k+1) (2*(k+1)+3) c)&&decide (c<4->1+((List.range c).map λd=>Kh (k+1) (2*(k+1)+3) d).sum+Kh (k+1) t c=Vb (k+1) t c)
theorem pP:uV=true:=by decide +kernel
theorem Sl(n0:0<n)(n4:n<=4)(ht:t<2*n+3)(hc:c<9):(Sk n c ((Zv n).take t)=Kh n t c/\Sk n c ((Zv n).drop t)=Kh n (2*n+3) c-Kh n t c/\Sk n c (Zv n)=Kh n (2*n+3) c)/\(c<4->1+((List.range c).map λd=>Kh n (2*n+3) d).sum+Kh n t c=Vb n t c):=by have h:=Uv.mp (Uv.mp (Uv.mp pP (n-1) (UU.mpr (by omega))) t (UU.mpr (by omega))) c (UU.mpr hc);rw[UD,show n-1+1=n by omega]at h;exact⟨UJ h.1,UJ h.2⟩
theorem iV(n:Nat)(mv:Mo):∃s rest,Q1 n mv=.tup (.str s::rest)/\(s==Str.ofString "step")=isSt mv/\(s==Str.ofString "over")=(match mv with | .over=>true|_=>false):=by
 cases mv with
 |ends pad sd=>cases pad<;>exact⟨_,_,rfl,by simp[eS,PZ,isSt],by simp[eS,PZ]⟩|step=>exact⟨_,_,rfl,by simp[isSt],by decide +kernel⟩|over=>exact⟨_,_,rfl,by simp[PZ,isSt],by simp⟩|draw=>exact⟨_,_,rfl,by simp[PZ,isSt],by simp[PZ]⟩
theorem Sm{n n' c:Nat}{y:D}{b:Bool}{ms:List Mo}{g:G}(hy:QG g y=some (b,ms.map (Q1 n')))(hn:n<=4)(hc:c<=20):Z2 [y,.int n,.int c] g=.ok (.int (Sk n c ms)) g:=by
 obtain⟨src,s1,s2,s3⟩:=Xq hy;rw[Ua]at s2;obtain⟨σ',g2,e3,k2,x4,rfl⟩:=KT (src:=src) (t:=Qn 4) (body:=Y5) (n:=ms.length) (σ:=[some y,vI n,vI c,vI 0,none]) (g:=g) s2
  (λi σ g'=>g'=g/\∃x4,σ=[some y,vI n,vI c,vI (Sk n c (ms.take i)),x4]) ⟨rfl,none,rfl⟩ (λi σ g' hi hQ=>by
   obtain⟨rfl,x4,rfl⟩:=hQ;obtain⟨s,rest,hm,h1,h2⟩:=iV n' ms[i];have hr:Sk n c (ms.take (i+1))=Sk n c (ms.take i)+uU n c ms[i]:=by unfold Sk;rw[Uq hi,UB,List.sum_append];simp
   refine⟨Q1 n' ms[i],_,[some y,vI n,vI c,vI (Sk n c (ms.take (i+1))),some (Q1 n' ms[i])],g',by rw[s3 _ _ hy];simp[hi],rfl,?_,rfl,_,rfl⟩;show Y5 [some y,vI n,vI c,vI (Sk n c (ms.take i)),some (Q1 n' ms[i])] g'=_;rw[hm,hr];have hz:∀v:Int,Qe QB (Qa 4) (mI 0) [some y,vI n,vI c,vI v,vT (.str s::rest)] g'=.ok (.str s) g':=λv=>Ql (x:=.tup (.str s::rest)) (y:=.int 0) (g1:=g') (g2:=g') rfl rfl (by show(match VC (.str s::rest) 0 with|some d=>Res.ok d g'|none=>.stuck)=_;rw[show VC (D.str s::rest) 0=some (.str s) from iL (n:=0) rfl]);have t1:∀v:Int,Qo (Qe Z5 (Qe QB (Qa 4) (mI 0)) (Qq (.str "step"))) [some y,vI n,vI c,vI v,vT (.str s::rest)] g'=.ok (s==Str.ofString "step") g':=λv=>Q3 (Ql (hz v) rfl (Ox ..));have t2:∀v:Int,Qo (Qe Z5 (Qe QB (Qa 4) (mI 0)) (Qq (.str "over"))) [some y,vI n,vI c,vI v,vT (.str s::rest)] g'=.ok (s==Str.ofString "over") g':=λv=>Q3 (Ql (hz v) rfl (Ox ..));rw[h1]at t1;rw[h2]at t2;generalize (Sk n c (ms.take i))=v0;unfold Y5;cases hmv:ms[i]with
   |step=>rw[hmv]at t1 t2;exact Qr _ g' (Fe g' (t1 _) (QK rfl)) (Jh g' (t2 _) rfl)|over =>rw[hmv]at t1 t2;refine Qr _ g' (Jh g' (t1 _) rfl) (Fe g' (t2 _) ?_);refine QK (Ql (x:=.int v0) (y:=.int (n*c)) (g1:=g') (g2:=g') rfl (Ql rfl rfl (fM (Ku (by omega) (by omega)))) ?_);show Res.ok (D.int ((v0:Int)+n*c)) g'=_;unfold uU;rw[show((v0:Int)+n*c)=((v0+n*c:Nat):Int) by rw[TZ,Int.natCast_mul]]|draw=>rw[hmv]at t1 t2;exact Qr _ g' (Jh g' (t1 _) rfl) (Jh g' (t2 _) rfl)|ends pad sd=>rw[hmv]at t1 t2;exact Qr _ g' (Jh g' (t1 _) rfl) (Jh g' (t2 _) rfl)) (λσ g' hQ=>by rw[hQ.1,s3 _ _ hy];simp)
 subst k2;rw[UO]at e3;refine Zb rfl ?_;show Vd [some y,vI n,vI c,none,none] g2=_;unfold Vd;refine Qr [some y,vI n,vI c,vI 0,none] g2 rfl ?_;exact Qr _ g2 ((Yv (src:=src) (g':=g2) (by unfold QQ;rw[show Qa 0 [some y,vI n,vI c,vI 0,none] g2=.ok y g2 from rfl,Res.bind_ok];exact s1)).trans e3) rfl
theorem OO(T:Tb rows n m)(ht:tabOf N g t rows)(he:e σ g0=.ok [.ref t] g):∃g',Keeps [] g g'/\Bn 11 Yf e σ g0=.ok (.ref g.length) g'/\g'[g.length]?=some (ZK rows):=by have n0:=T.n0;have m0:=T.m0;have n12:=T.n12;have m8:=T.m8;have hgood:=entOk.good T.n0 T.m0 T.len T.row T.ent;obtain⟨g2,kp2,e2,hM2⟩:=fL (.ref t) rows g ht.rows (λr hr=>by rw[T.row r hr];exact UP (Jr (by omega))) (by rw[T.len];exact UP (Jr (by omega))) (λr hr d hd=>(T.ent r hr d hd).thing) e σ g0 he;rw[Uc hgood]at e2;exact⟨g2,kp2,e2,hM2 hgood⟩
theorem Lh{o i:ME}{σ:S3}{g:G}{q t:Nat}{ds:List D}(ho:o σ g=.ok (.ref q) g)(hi:i σ g=.ok (.int t) g)(h:g[q]?=vL ds):QM o QE (QZ i) σ g=.ok (.ref g.length) (g++[.lst (ds.take t)]):=by unfold QM QE QZ;rw[ho,Res.bind_ok,Res.bind_ok,hi,Res.bind_ok,Res.bind_ok];unfold V6;dsimp only;rw[h];dsimp only;rw[LP]
theorem GH{o i:ME}{σ:S3}{g:G}{q t:Nat}{ds:List D}(ho:o σ g=.ok (.ref q) g)(hi:i σ g=.ok (.int t) g)(h:g[q]?=vL ds):QM o (QZ i) QE σ g=.ok (.ref g.length) (g++[.lst (ds.drop t)]):=by unfold QM QE QZ;rw[ho,Res.bind_ok,hi,Res.bind_ok,Res.bind_ok,Res.bind_ok];unfold V6;dsimp only;rw[h];dsimp only;rw[EU]
theorem bE{n t e q:Nat}{y:D}{b:Bool}{g:G}(n0:0<n)(n4:n<=4)(ht:t<2*n+3)(he:e<4)(hq:g[q]?=vL ((Zv n).map (Q1 n)))(hy:QG g y=some (b,((Zv n).take t).map (Q1 n))):Fw [.ref q,y,.int n,.int e] g=.ok (.int (Vb n t e)) g:=by
 obtain⟨σ',g2,e3,k2,x5,rfl⟩:=Jb (t:=Qn 5) (body:=Vp) (lo:=0) (n:=e) (σ:=[vR q,some y,vI n,vI e,vI 1,none]) (g:=g)
  (λi σ g'=>g'=g/\∃x5,σ=[vR q,some y,vI n,vI e,vI (1+((List.range i).map λd=>Kh n (2*n+3) d).sum:Nat),x5]) ⟨rfl,none,rfl⟩ (λi σ g' hi hQ=>by obtain⟨rfl,x5,rfl⟩:=hQ;have r:=Sm (n:=n) (c:=i) (QX hq) n4 (by omega);rw[(Sl n0 n4 ht (show i<9 by omega)).1.2.2]at r;refine⟨_,[vR q,some y,vI n,vI e,vI (1+((List.range (i+1)).map λd=>Kh n (2*n+3) d).sum:Nat),vI (0+i)],g',rfl,?_,rfl,_,rfl⟩;show Vp [vR q,some y,vI n,vI e,vI (1+((List.range i).map λd=>Kh n (2*n+3) d).sum:Nat),vI (0+i)] g'=_;rw[TY];unfold Vp;refine(QK (Ql (y:=.int (Kh n (2*n+3) i)) (g1:=g') (g2:=g') rfl ((Qw (ds:=[.ref q,.int n,.int i]) (g':=g') rfl).trans r) rfl)).trans ?_;rw[WV,UB,List.sum_append];show Out.nx [_,_,_,_,vI (((1+((List.range i).map λd=>Kh n (2*n+3) d).sum:Nat):Int)+(Kh n (2*n+3) i:Nat)),_] g'=_;congr 4;simp;omega)
 subst k2;have r:=Sm (n:=n) (c:=e) hy n4 (by omega);obtain⟨c1,c2⟩:=Sl n0 n4 ht (show e<9 by omega);rw[c1.1]at r;refine Zb rfl ?_;show Fv [vR q,some y,vI n,vI e,none,none] g2=_;unfold Fv;refine Qr [vR q,some y,vI n,vI e,vI 1,none] g2 rfl ?_;refine Qr _ g2 ((Yv (YI (n:=e) rfl (Xr (by omega)))).trans e3) ?_;refine(ZP (Ql (y:=.int (Kh n t e)) (g1:=g2) (g2:=g2) rfl ((Qw (ds:=[y,.int n,.int e]) (g':=g2) rfl).trans r) rfl)).trans ?_;rw[<-c2 he];show Out.rt (D.int (((1+((List.range e).map λd=>Kh n (2*n+3) d).sum:Nat):Int)+(Kh n t e:Nat))) g2=_;rw[TZ (1+_)]
theorem pQ(i:Int)(g:G):∃f,lrS f/\QB (.str "lr") (.int (i%2)) g=.ok (.str f) g:=by
 rw[oQ];rcases(by omega:i%2=0\/i%2=1) with e|e
 ·rw[e];refine⟨Str.ofString "l",.inl rfl,?_⟩;rw[lP];unfold QB;dsimp only;rw[Uc (by decide)];rfl
 ·rw[e];refine⟨Str.ofString "r",.inr rfl,?_⟩;rw[cS];unfold QB;dsimp only;rw[Uc (by decide)];rfl
theorem bF(n0:0<n)(n4:n<=4)(he:e<4)(ht:t<2*n+3):BD n 10 (Q7 n e t)=true/\CM n 10 (Q7 n e 0) ((Zv n).take t)=some (Q7 n e t)/\CM n 10 (Q7 n e t) ((Zv n).drop t++(Zv n).take t)=some (Q7 n (e+1) t):=by have h:=Uv.mp (Uv.mp (Uv.mp lV (n-1) (UU.mpr (by omega))) e (UU.mpr he)) t (UU.mpr (by omega));rw[UD,show n-1+1=n by omega]at h;exact⟨h.1,UJ h.2⟩
theorem pR(h:Rl rows n N m nw fw)(T:Tb rows N m)(ht:tabOf N0 g tt rows)(he:e<4)(htn:t<2*n+3)(hy:QG g y=some (b,((Zv n).take t).map (Q1 n))):
  ∃g' x9,Keeps [] g g'/\∀(it:MI)(g0:G),(∀src,BH y g=.ok src g->it [x0,x1,vR tt,x3,x4,x5,x6,x7,some (Yr nw fw (Q7 n e 0)),none,x10,x11,x12,x13,x14,x15,x16,x17] g0=.ok src g)->Y1 it (Qn 9) Xj [x0,x1,vR tt,x3,x4,x5,x6,x7,some (Yr nw fw (Q7 n e 0)),none,x10,x11,x12,x13,x14,x15,x16,x17] g0=.nx [x0,x1,vR tt,x3,x4,x5,x6,x7,some (Yr nw fw (Q7 n e t)),x9,x10,x11,x12,x13,x14,x15,x16,x17] g':=by
 have n0:=h.B.n0;have n4:=h.B.n4;have o0:=(bF n0 n4 he (show 0<2*n+3 by omega)).1;have hm:=(bF n0 n4 he htn).2.1;obtain⟨src,s1,s2,s3⟩:=Xq hy;generalize (Zv n).take t=ms at hm hy s2 s3;rw[Ua]at s2;obtain⟨σ',g2,e3,k2,x,x9,hx,rfl⟩:=KT (src:=src) (t:=Qn 9) (body:=Xj) (n:=ms.length) (σ:=[x0,x1,vR tt,x3,x4,x5,x6,x7,some (Yr nw fw (Q7 n e 0)),none,x10,x11,x12,x13,x14,x15,x16,x17]) (g:=g) s2
  (λi σ g'=>Keeps [] g g'/\∃x x9,CM n 10 (Q7 n e 0) (ms.take i)=some x/\σ=[x0,x1,vR tt,x3,x4,x5,x6,x7,some (Yr nw fw x),x9,x10,x11,x12,x13,x14,x15,x16,x17]) ⟨.refl,_,none,rfl,rfl⟩ (λi σ g' hi hQ=>by
   obtain⟨k,x,x9,hx,rfl⟩:=hQ;have hs:CM n 10 (Q7 n e 0) (ms.take i++ms.drop i)=some (Q7 n e t):=by rw[UW];exact hm
   rw[JD,hx,US,Tr hi]at hs;obtain⟨z,hz,_⟩:=UN.mp hs;obtain⟨g1,k1,e1,hM⟩:=OO (g0:=g') (g:=g') (σ:=[x0,x1,vR tt,x3,x4,x5,x6,x7,some (Yr nw fw x),some (Q1 n ms[i]),x10,x11,x12,x13,x14,x15,x16,x17]) (e:=Qb (Qa 2) Qi) T (ht.mono k (by simp)) rfl;obtain⟨g3,k3,e4⟩:=bC h (b:=10) (d:=Yr nw fw x) (by omega) (Tm _ o0 hx) hM (ShIn.sh _ _) hz;refine⟨Q1 n ms[i],_,[x0,x1,vR tt,x3,x4,x5,x6,x7,some (Yr nw fw z),some (Q1 n ms[i]),x10,x11,x12,x13,x14,x15,x16,x17],g3,by rw[s3 _ _ (QI hy k)];simp[hi],rfl,?_,k.trans (k1.trans k3),z,_,?_,rfl⟩
   ·show Xj [x0,x1,vR tt,x3,x4,x5,x6,x7,some (Yr nw fw x),some (Q1 n ms[i]),x10,x11,x12,x13,x14,x15,x16,x17] g'=_;unfold Xj;exact QK ((Qw (Qx e1 (Qx (g1:=g1) rfl (Qx (g1:=g1) rfl rfl)))).trans e4)
   ·rw[Uq hi,JD,hx,US];show(GG n 10 x ms[i]).bind _=_;rw[hz];rfl) (λσ g' hQ=>by rw[s3 _ _ (QI hy hQ.1)];simp)
 rw[UO,hm]at hx;cases hx;exact⟨g2,x9,k2,λit g0 hit=>(Yv (hit src s1)).trans e3⟩
def SOk(n b:Nat)(s:Sa)(ms:List Mo):Prop:=∃r1 r2 x,ms=r1++.step::r2/\CM n b s r1=some x/\x.1=2/\P9 x=some (.one 1)
theorem SOk.ins(o:BD n b s=true)(h:SOk n b s ms)(sp:Nat)(sd:Bool):SOk n (b+1) s (ms.take sp++.ends true sd::.ends false sd::ms.drop sp):=by
 obtain⟨r1,r2,x,rfl,h1,h2⟩:=h;by_cases hs:sp<=r1.length
 ·refine⟨r1.take sp++.ends true sd::.ends false sd::r1.drop sp,r2,x,?_,Sb o _ _ sd (by rw[UW];exact h1),h2⟩;rw[List.take_append_of_le_length hs,List.drop_append_of_le_length hs];simp
 ·obtain⟨j,hj⟩:∃j,sp=r1.length+(j+1):=⟨sp-r1.length-1,by omega⟩;refine⟨r1,r2.take j++.ends true sd::.ends false sd::r2.drop j,x,?_,B4 _ h1,h2⟩;rw[hj,List.take_length_add_append,List.drop_length_add_append];simp
def E6(n e t b:Nat)(ms:List Mo):Prop:=CM n b (Q7 n e t) ms=some (Q7 n (e+1) t)/\ms.any isSt=true/\ms.length<=13+2*b/\SOk n b (Q7 n e t) ms
theorem pS(ns:List Int)(o:BD n b (Q7 n e t)=true)(hb:b<=12)(R:E6 n e t b ms)(ga:g[a]?=vL [.int k])(hk:0<=k)(hk2:k<900000000)(hr:g[r]?=vL (ms.map (Q1 n))):
  ∃r' ms' y12 y13 g',Xk [vF ns,vR a,x2,x3,x4,vI z,x6,x7,x8,x9,vR r,x11,x12,x13,x14,x15,x16,x17] g=.nx [vF ns,vR a,x2,x3,x4,vI z,x6,x7,x8,x9,vR r',x11,y12,y13,x14,x15,x16,x17] g'/\Keeps [a] g g'/\g'[a]?=vL [.int (k+1)]/\E6 n e t (b+1) ms'/\g'[r']?=vL (ms'.map (Q1 n)):=by
 obtain⟨m,m0,m1,e1⟩:=Ct ns a k g ga hk (by omega);have hra:r≠a:=λz=>by
  subst z;rw[ga]at hr;have:=GO.lst.inj (Option.some.inj hr);cases ms with
  |nil=>cases this|cons x xs=>cases x<;>cases this
 have k1:Keeps [a] g (g.set a (.lst [.int (k+1)])):=.set _ _;have ga1:(g.set a (.lst [.int (k+1)]))[a]?=vL [.int (k+1)]:=Zt ga;have hr1:(g.set a (.lst [.int (k+1)]))[r]?=vL (ms.map (Q1 n)):=by rw[Ul (Ne.symm hra)];exact hr
 generalize g.set a (.lst [.int (k+1)])=g1 at e1 k1 ga1 hr1;have p0:=UM m (show(ms.length:Int)+1≠0 by omega);have p1:=U3 m (show 0<(ms.length:Int)+1 by omega);obtain⟨sp,hsp⟩:∃sp:Nat,(sp:Int)=m % (ms.length+1):=⟨(m % (ms.length+1)).toNat,by omega⟩;obtain⟨f,hf,e2⟩:=pQ (z/180) g1;obtain⟨sd,rfl⟩:=hf.fc;have k2:Keeps [] g1 (g1++[.lst ((ms.map (Q1 n)).take sp)]):=.push _;have p2:(g1++[GO.lst ((ms.map (Q1 n)).take sp)])[g1.length]?=vL ((ms.map (Q1 n)).take sp):=Qp _;have s2:=Lh (o:=Qa 10) (i:=Qa 12) (σ:=[vF ns,vR a,x2,x3,x4,vI z,x6,x7,x8,x9,vR r,x11,vI sp,some (.str (fc sd)),x14,x15,x16,x17]) rfl rfl hr1;generalize g1++[GO.lst ((ms.map (Q1 n)).take sp)]=g2 at k2 p2 s2;have k3:Keeps [] g2 (g2++[.lst [Q1 n (.ends true sd),Q1 n (.ends false sd)]]):=.push _;have p3:(g2++[GO.lst [Q1 n (.ends true sd),Q1 n (.ends false sd)]])[g2.length]?=vL [Q1 n (.ends true sd),Q1 n (.ends false sd)]:=Qp _;have e3:Qt Ym (Qb (Qt QC (Qb (Qq (.str "pad")) (Qb (Qa 13) Qi))) (Qb (Qt QC (Qb (Qq (.str "trim")) (Qb (Qa 13) Qi))) Qi)) [vF ns,vR a,x2,x3,x4,vI z,x6,x7,x8,x9,vR r,x11,vI sp,some (.str (fc sd)),x14,x15,x16,x17] g2=.ok (.ref g2.length) (g2++[.lst [Q1 n (.ends true sd),Q1 n (.ends false sd)]]):=rfl;generalize g2++[GO.lst [Q1 n (.ends true sd),Q1 n (.ends false sd)]]=g3 at k3 p3 e3;have hl:=R.2.2.1;have a4:=YS (k3.a p2) p3 (by simp;omega);have k4:Keeps [] g3 (g3++[.lst ((ms.map (Q1 n)).take sp++[Q1 n (.ends true sd),Q1 n (.ends false sd)])]):=.push _;have p4:(g3++[GO.lst ((ms.map (Q1 n)).take sp++[Q1 n (.ends true sd),Q1 n (.ends false sd)])])[g3.length]?=vL ((ms.map (Q1 n)).take sp++[Q1 n (.ends true sd),Q1 n (.ends false sd)]):=Qp _;generalize g3++[GO.lst ((ms.map (Q1 n)).take sp++[Q1 n (.ends true sd),Q1 n (.ends false sd)])]=g4 at a4 k4 p4;have hr4:=(k2.trans (k3.trans k4)).a hr1;have s5:=GH (o:=Qa 10) (i:=Qa 12) (σ:=[vF ns,vR a,x2,x3,x4,vI z,x6,x7,x8,x9,vR r,x11,vI sp,some (.str (fc sd)),x14,x15,x16,x17]) rfl rfl hr4;have k5:Keeps [] g4 (g4++[.lst ((ms.map (Q1 n)).drop sp)]):=.push _;have p5:(g4++[GO.lst ((ms.map (Q1 n)).drop sp)])[g4.length]?=vL ((ms.map (Q1 n)).drop sp):=Qp _;generalize g4++[GO.lst ((ms.map (Q1 n)).drop sp)]=g5 at k5 p5 s5;have a6:=YS (k5.a p4) p5 (by simp;omega);have hD:((ms.map (Q1 n)).take sp++[Q1 n (.ends true sd),Q1 n (.ends false sd)])++(ms.map (Q1 n)).drop sp=(ms.take sp++.ends true sd::.ends false sd::ms.drop sp).map (Q1 n):=by simp[TR,RQ]
 rw[hD]at a6;have k6:Keeps [] g5 (g5++[.lst ((ms.take sp++.ends true sd::.ends false sd::ms.drop sp).map (Q1 n))]):=.push _;have p6:(g5++[GO.lst ((ms.take sp++.ends true sd::.ends false sd::ms.drop sp).map (Q1 n))])[g5.length]?=vL ((ms.take sp++.ends true sd::.ends false sd::ms.drop sp).map (Q1 n)):=Qp _;generalize g5++[GO.lst ((ms.take sp++.ends true sd::.ends false sd::ms.drop sp).map (Q1 n))]=g6 at a6 k6 p6;have K:=k2.trans (k3.trans (k4.trans (k5.trans k6)));refine⟨g5.length,ms.take sp++.ends true sd::.ends false sd::ms.drop sp,vI sp,some (.str (fc sd)),g6,?_,k1.trans ⟨K.len,λb o _ h=>K.at' b o (by simp) h⟩,K.a ga1,⟨Sb o _ _ sd (by rw[UW];exact R.1),?_,?_,R.2.2.2.ins o sp sd⟩,p6⟩
 ·unfold Xk;refine Qr [vF ns,vR a,x2,x3,x4,vI z,x6,x7,x8,x9,vR r,x11,vI sp,x13,x14,x15,x16,x17] g1 (by rw[hsp];refine QK (Ql (x:=.int m) (y:=.int (ms.length+1)) (g1:=g1) (g2:=g1) ((Qw (ds:=[.fl (ns.map .int),.ref a]) (g':=g) rfl).trans e1) (Ql (x:=.int ms.length) (y:=.int 1) (g1:=g1) (g2:=g1) (ZC (x:=.ref r) (g1:=g1) rfl ?_) rfl rfl) (KU (by omega)));rw[ET (QX hr1),Ua]) ?_;refine Qr [vF ns,vR a,x2,x3,x4,vI z,x6,x7,x8,x9,vR r,x11,vI sp,some (.str (fc sd)),x14,x15,x16,x17] g1 (QK (Ql (x:=.str "lr") (y:=.int (z/180%2)) (g1:=g1) (g2:=g1) rfl (Ql (x:=.int (z/180)) (y:=.int 2) (g1:=g1) (g2:=g1) (Ql rfl rfl (Ee (by decide) (by decide))) rfl (KU (by decide))) e2)) ?_;exact QK (Ql (x:=.ref g3.length) (y:=.ref g4.length) (g1:=g4) (g2:=g5) (Ql (x:=.ref g1.length) (y:=.ref g2.length) (g1:=g2) (g2:=g3) s2 e3 a4) s5 a6)
 ·have h:=R.2.1;rw[<-UW sp ms,RY]at h;rw[RY,Rm,Rm];simpa[isSt]using h
 ·simp;omega
def iW(n t c:Nat):Nat:=Kh n (2*n+3) c-Kh n t c+Kh n t (c+1)
theorem bG(ho:o σ g=.ok (.ref n) g)(h:g[n]?=vL ds)(he:e σ g=.ok y g2)(h2:g2[n]?=vL ds)(hz:ds.length<SZ):
  Zc (Zm o e) σ g=.nx σ (g2.set n (.lst (ds++[y]))):=by
 refine Yu (d:=.non) ?_;simp[Zm,ho,he,Res.bind,h,h2,hz]
theorem pT{q e t r i:Nat}{w:List Int}{x0 x1 x2 x5 x8 x9 x10 x11 x12 x13 x14 x17:Option D}{ds:List D}{g:G}(n0:0<n)(n4:n<=4)(hw:w.length=n)(he:e<4)(ht:t<2*n+3)(hi:i<4)(hq:g[q]?=vL ((Zv n).map (Q1 n)))(hr:g[r]?=vL ds)(hds:ds.length<=100):
  ∃y17 g',Xl [x0,x1,x2,vT (w.map .int),vR q,x5,vI e,vI t,x8,x9,x10,x11,x12,x13,x14,vR r,vI i,x17] g=.nx [x0,x1,x2,vT (w.map .int),vR q,x5,vI e,vI t,x8,x9,x10,x11,x12,x13,x14,vR r,vI i,y17] g'/\Keeps [r] g g'/\g'[r]?=vL (ds++[.int (iW n t (e+i))]):=by
 have k1:Keeps [] g (g++[.lst (((Zv n).map (Q1 n)).drop t)]):=.push _;have p1:(g++[GO.lst (((Zv n).map (Q1 n)).drop t)])[g.length]?=vL (((Zv n).map (Q1 n)).drop t):=Qp _;have s1:=GH (o:=Qa 4) (i:=Qa 7) (σ:=[x0,x1,x2,vT (w.map .int),vR q,x5,vI e,vI t,x8,x9,x10,x11,x12,x13,x14,vR r,vI i,x17]) rfl rfl hq;generalize g++[GO.lst (((Zv n).map (Q1 n)).drop t)]=g1 at k1 p1 s1;have r1:=Sm (n:=n) (n':=n) (c:=e+i) (ms:=(Zv n).drop t) (y:=.ref g.length) (b:=true) (g:=g1) (by rw[QX p1,RQ]) n4 (by omega);rw[(Sl n0 n4 ht (show e+i<9 by omega)).1.2.1]at r1;have hlen:∀(σ:S3)(g:G),σ[3]?=some (some (.tup (w.map .int)))->Qv Zr (Qa 3) σ g=.ok (.int n) g:=λσ g h=>ZC (x:=.tup (w.map .int)) (g1:=g) (by unfold Qa;rw[h]) (by show Res.ok (D.int (w.map D.int).length) g=_;rw[Ua,hw]);have a1:QF (Qn 17) (Qu Z2 (Qb (QM (Qa 4) (QZ (Qa 7)) QE) (Qb (Qv Zr (Qa 3)) (Qb (Qe QD (Qa 6) (Qa 16)) Qi)))) [x0,x1,x2,vT (w.map .int),vR q,x5,vI e,vI t,x8,x9,x10,x11,x12,x13,x14,vR r,vI i,x17] g=.nx [x0,x1,x2,vT (w.map .int),vR q,x5,vI e,vI t,x8,x9,x10,x11,x12,x13,x14,vR r,vI i,vI (Kh n (2*n+3) (e+i) - Kh n t (e+i):Nat)] g1:=QK ((Qw (Qx s1 (Qx (g1:=g1) (hlen _ g1 rfl) (Qx (x:=.int ((e+i:Nat):Int)) (g1:=g1) rfl rfl)))).trans r1)
 have hq1:=k1.a hq;have hr1:=k1.a hr;have k2:Keeps [] g1 (g1++[.lst (((Zv n).map (Q1 n)).take t)]):=.push _;have p2:(g1++[GO.lst (((Zv n).map (Q1 n)).take t)])[g1.length]?=vL (((Zv n).map (Q1 n)).take t):=Qp _;have s2:=Lh (o:=Qa 4) (i:=Qa 7) (σ:=[x0,x1,x2,vT (w.map .int),vR q,x5,vI e,vI t,x8,x9,x10,x11,x12,x13,x14,vR r,vI i,vI (Kh n (2*n+3) (e+i) - Kh n t (e+i):Nat)]) rfl rfl hq1;generalize g1++[GO.lst (((Zv n).map (Q1 n)).take t)]=g2 at k2 p2 s2;have r2:=Sm (n:=n) (n':=n) (c:=e+i+1) (ms:=(Zv n).take t) (y:=.ref g1.length) (b:=true) (g:=g2) (by rw[QX p2,TR]) n4 (by omega);rw[(Sl n0 n4 ht (show e+i+1<9 by omega)).1.1]at r2;have hr2:=k2.a hr1;have ev:Qe QD (Qa 17) (Qu Z2 (Qb (QM (Qa 4) QE (QZ (Qa 7))) (Qb (Qv Zr (Qa 3)) (Qb (Qe QD (Qe QD (Qa 6) (Qa 16)) (mI 1)) Qi)))) [x0,x1,x2,vT (w.map .int),vR q,x5,vI e,vI t,x8,x9,x10,x11,x12,x13,x14,vR r,vI i,vI (Kh n (2*n+3) (e+i) - Kh n t (e+i):Nat)] g1=.ok (.int (iW n t (e+i))) g2:=by refine Ql (x:=.int (Kh n (2*n+3) (e+i) - Kh n t (e+i):Nat)) (y:=.int (Kh n t (e+i+1))) (g1:=g1) (g2:=g2) rfl ((Qw (Qx s2 (Qx (g1:=g2) (hlen _ g2 rfl) (Qx (x:=.int ((e+i+1:Nat):Int)) (g1:=g2) rfl rfl)))).trans r2) ?_;show Res.ok (D.int (((Kh n (2*n+3) (e+i) - Kh n t (e+i):Nat):Int)+(Kh n t (e+i+1):Nat))) g2=_;unfold iW;rw[TZ]
 refine⟨some (.int (Kh n (2*n+3) (e+i) - Kh n t (e+i):Nat)),g2.set r (.lst (ds++[.int (iW n t (e+i))])),?_,?_,Zt hr2⟩
 ·unfold Xl;exact Qr _ g1 a1 (bG rfl hr1 ev hr2 (Jr (by omega)))
 ·exact(k1.trans k2).all.trans (.set _ _)
section
variable{rows:List (List D)}{n N m:Nat}{nw fw:List Int}
theorem gJ(n:Nat)(n0:0<n):(Zv n).length=2*n+3:=by unfold Zv;simp;omega
theorem lX(ns:List Int){a e t r c:Nat}{z k:Int}{x2 x3 x4 x6 x7 x8 x9 x11 x12 x13 x14 x15 x16 x17:Option D}{ms:List Mo}{g:G}(o:BD n 10 (Q7 n e t)=true)(hc:c<=2)(R:E6 n e t 10 ms)(ga:g[a]?=vL [.int k])(hk:0<=k)(hk2:k<800000000)(hr:g[r]?=vL (ms.map (Q1 n))){it:MI}(hit:it [vF ns,vR a,x2,x3,x4,vI z,x6,x7,x8,x9,vR r,x11,x12,x13,x14,x15,x16,x17] g=.ok (ZH 0 c) g):
  ∃r' ms' y11 y12 y13 g',Y1 it (Qn 11) Xk [vF ns,vR a,x2,x3,x4,vI z,x6,x7,x8,x9,vR r,x11,x12,x13,x14,x15,x16,x17] g=.nx [vF ns,vR a,x2,x3,x4,vI z,x6,x7,x8,x9,vR r',y11,y12,y13,x14,x15,x16,x17] g'/\Keeps [a] g g'/\g'[a]?=vL [.int (k+c)]/\BD n (10+c) (Q7 n e t)=true/\E6 n e t (10+c) ms'/\g'[r']?=vL (ms'.map (Q1 n)):=by
 obtain⟨σ',g',e3,r',ms',y11,y12,y13,rfl,k2,ga2,o2,R2,hr2⟩:=Jb (t:=Qn 11) (body:=Xk) (lo:=0) (n:=c) (σ:=[vF ns,vR a,x2,x3,x4,vI z,x6,x7,x8,x9,vR r,x11,x12,x13,x14,x15,x16,x17]) (g:=g)
  (λi σ g'=>∃r' ms' y11 y12 y13,σ=[vF ns,vR a,x2,x3,x4,vI z,x6,x7,x8,x9,vR r',y11,y12,y13,x14,x15,x16,x17]/\Keeps [a] g g'/\g'[a]?=vL [.int (k+i)]/\BD n (10+i) (Q7 n e t)=true/\E6 n e t (10+i) ms'/\g'[r']?=vL (ms'.map (Q1 n))) ⟨r,ms,x11,x12,x13,rfl,.refl,by simpa using ga,o,R,hr⟩ (λi σ g1 hi hQ=>by obtain⟨r1,ms1,y11,y12,y13,rfl,k1,ga1,o1,R1,hr1⟩:=hQ;obtain⟨r2,ms2,z12,z13,g2,e2,k2,ga2,R2,hr2⟩:=pS (x2:=x2) (x3:=x3) (x4:=x4) (z:=z) (x6:=x6) (x7:=x7) (x8:=x8) (x9:=x9) (x11:=some (.int (0+i))) (x12:=y12) (x13:=y13) (x14:=x14) (x15:=x15) (x16:=x16) (x17:=x17) ns o1 (by omega) R1 ga1 (by omega) (by omega) hr1;refine⟨_,_,g2,rfl,e2,r2,ms2,_,z12,z13,rfl,k1.trans k2,?_,E2 o1,R2,hr2⟩;rw[ga2,show k+(i:Int)+1=k+((i+1:Nat):Int) by omega])
 exact⟨r',ms',y11,y12,y13,g',(Yv hit).trans e3,k2,ga2,o2,R2,hr2⟩
theorem lY{q e t r:Nat}{w:List Int}{x0 x1 x2 x5 x8 x9 x10 x11 x12 x13 x14 x16 x17:Option D}{g:G}(n0:0<n)(n4:n<=4)(hw:w.length=n)(he:e<4)(ht:t<2*n+3)(hq:g[q]?=vL ((Zv n).map (Q1 n)))(hr:g[r]?=vL [])(hqr:q≠r):
  ∃y16 y17 g',Y1 (Q4 (mI 4)) (Qn 16) Xl [x0,x1,x2,vT (w.map .int),vR q,x5,vI e,vI t,x8,x9,x10,x11,x12,x13,x14,vR r,x16,x17] g=.nx [x0,x1,x2,vT (w.map .int),vR q,x5,vI e,vI t,x8,x9,x10,x11,x12,x13,x14,vR r,y16,y17] g'/\Keeps [r] g g'/\g'[r]?=vL ((List.range 4).map λc=>.int (iW n t (e+c))):=by
 obtain⟨σ',g',e3,y16,y17,rfl,k2,hr2⟩:=Jb (t:=Qn 16) (body:=Xl) (lo:=0) (n:=4) (σ:=[x0,x1,x2,vT (w.map .int),vR q,x5,vI e,vI t,x8,x9,x10,x11,x12,x13,x14,vR r,x16,x17]) (g:=g)
  (λi σ g'=>∃y16 y17,σ=[x0,x1,x2,vT (w.map .int),vR q,x5,vI e,vI t,x8,x9,x10,x11,x12,x13,x14,vR r,y16,y17]/\Keeps [r] g g'/\g'[r]?=vL ((List.range i).map λc=>.int (iW n t (e+c)))) ⟨x16,x17,rfl,.refl,hr⟩ (λi σ g1 hi hQ=>by obtain⟨y16,y17,rfl,k1,hr1⟩:=hQ;obtain⟨z17,g2,e2,k2,hr2⟩:=pT (x0:=x0) (x1:=x1) (x2:=x2) (x5:=x5) (x8:=x8) (x9:=x9) (x10:=x10) (x11:=x11) (x12:=x12) (x13:=x13) (x14:=x14) (x17:=y17) n0 n4 hw he ht hi (k1.at' _ _ (by simpa using hqr) hq) hr1 (by simp;omega);refine⟨[x0,x1,x2,vT (w.map .int),vR q,x5,vI e,vI t,x8,x9,x10,x11,x12,x13,x14,vR r,vI (0+i),y17],_,g2,rfl,by rw[TY];exact e2,_,_,rfl,k1.trans k2,?_⟩;rw[hr2,WV,UB];rfl)
 exact⟨y16,y17,g',(Yv (YI (n:=4) rfl (Xr (by omega)))).trans e3,k2,hr2⟩
end
def vX(n b:Nat)(s:Sa)(ms:List Mo)(i:Nat):Bool:=(match ms[i]? with|some .step=>true|_=>false)&&(match CM n b s (ms.take i) with|some x=>decide (x.1=2/\P9 x=some (.one 1))|none=>false)
def uW:Bool:=(List.range 4).all λk=>(List.range 4).all λe=>(List.range (2*k+5)).all λt=>(List.range 20).any (vX (k+1) 10 (Q7 (k+1) e t) ((Zv (k+1)).drop t++(Zv (k+1)).take t))
theorem pU:uW=true:=by decide +kernel
theorem pV(n0:0<n)(n4:n<=4)(he:e<4)(ht:t<2*n+3):SOk n 10 (Q7 n e t) ((Zv n).drop t++(Zv n).take t):=by
 have h:=Uv.mp (Uv.mp (Uv.mp pU (n-1) (UU.mpr (by omega))) e (UU.mpr he)) t (UU.mpr (by omega));rw[show n-1+1=n by omega]at h;generalize (Zv n).drop t++(Zv n).take t=ms at h ⊢;obtain⟨i,_,h⟩:=List.any_eq_true.mp h;unfold vX at h;rw[UD]at h;obtain⟨h1,h2⟩:=h;cases h3:ms[i]? with
 |none=>rw[h3]at h1;cases h1|some mv=>
  rw[h3]at h1;cases mv with
  |step=>
   cases h4:CM n 10 (Q7 n e t) (ms.take i) with
   |none=>rw[h4]at h2;cases h2|some x =>rw[h4]at h2;refine⟨ms.take i,ms.drop (i+1),x,?_,h4,(UJ h2).1,(UJ h2).2⟩;obtain⟨hi,h3⟩:=Ui.mp h3;rw[<-h3,<-Tr hi,UW]
  |_=>cases h1
section
variable{rows:List (List D)}{n N m:Nat}{nw fw:List Int}
theorem bH(h:Rl rows n N m nw fw)(T:Tb rows N m)(ns:List Int)(ga:g[a]?=vL [.int k])(hk:0<=k)(hk2:k<700000000)(ht:tabOf N0 g tt rows)(haN:a<N0)(hq:g[q]?=vL ((Zv n).map (Q1 n)))(hqa:q≠a):
  ∃(e t b:Nat)(ms:List Mo)(r rd:Nat)(k':Int)(g':G),e<4/\t<2*n+3/\b<=12/\Cr [.fl (ns.map .int),.ref a,.ref tt,.tup (nw.map .int),.ref q] g=.ok (.tup [.tup [.str "grow",.int (Vb n t e),Yr nw fw (Q7 n e t),.ref r],.ref rd]) g'/\Keeps [a] g g'/\g'[a]?=vL [.int k']/\(k<=k'/\k'<=k+3)/\BD n b (Q7 n e t)=true/\E6 n e t b ms/\g'[r]?=vL (ms.map (Q1 n))/\g'[rd]?=vL ((List.range 4).map λc=>.int (iW n t (e+c))):=by
 suffices hs:Rts (λd g'=>∃(e t b:Nat)(ms:List Mo)(r rd:Nat)(k':Int),e<4/\t<2*n+3/\b<=12/\d=.tup [.tup [.str "grow",.int (Vb n t e),Yr nw fw (Q7 n e t),.ref r],.ref rd]/\Keeps [a] g g'/\g'[a]?=vL [.int k']/\(k<=k'/\k'<=k+3)/\BD n b (Q7 n e t)=true/\E6 n e t b ms/\g'[r]?=vL (ms.map (Q1 n))/\g'[rd]?=vL ((List.range 4).map λc=>.int (iW n t (e+c)))) Fz [vF ns,vR a,vR tt,vT (nw.map .int),vR q,none,none,none,none,none,none,none,none,none,none,none,none,none] g by obtain⟨_,g',eq,e,t,b,ms,r,rd,k',h1,h2,h3,rfl,hs⟩:=hs;exact⟨e,t,b,ms,r,rd,k',g',h1,h2,h3,Zb rfl eq,hs⟩
 have n0:=h.B.n0;have n4:=h.B.n4;have nl:=h.B.nl;have hml:=gJ n n0;refine LM λQ hQ=>?_;unfold Fz;obtain⟨z,z0,z1,e1⟩:=Ct ns a k g ga hk (by omega);refine .sq (QK ((Qw (ds:=[.fl (ns.map .int),.ref a]) (g':=g) rfl).trans e1)) ?_;have k1:Keeps [a] g (g.set a (.lst [.int (k+1)])):=.set _ _;have ga1:(g.set a (.lst [.int (k+1)]))[a]?=vL [.int (k+1)]:=Zt ga;have hq1:(g.set a (.lst [.int (k+1)]))[q]?=vL ((Zv n).map (Q1 n)):=by rw[Ul (Ne.symm hqa)];exact hq
 have ht1:=ht.mono k1 (by simpa using haN);generalize g.set a (.lst [.int (k+1)])=g1 at k1 ga1 hq1 ht1 ⊢;obtain⟨e,he⟩:∃e:Nat,(e:Int)=z%4:=⟨(z%4).toNat,by omega⟩;refine .sq (QK (d:=.int e) (by rw[he];exact Ql rfl rfl (KU (by decide)))) ?_;have t0:=UM (z/4) (show(2*(n:Int)+3)≠0 by omega);have t1:=U3 (z/4) (show 0<2*(n:Int)+3 by omega);obtain⟨t,htt⟩:∃t:Nat,(t:Int)=z/4 % (2*n+3):=⟨(z/4 % (2*n+3)).toNat,by omega⟩;refine .sq (QK (d:=.int t) (by rw[htt];refine Ql (x:=.int (z/4)) (y:=.int (2*n+3)) (g1:=g1) (g2:=g1) (Ql rfl rfl (Ee (by decide) (by decide))) (ZC (x:=.ref q) (g1:=g1) rfl ?_) (KU (by omega));rw[ET (QX hq1),Ua,hml];rfl)) ?_;have he4:e<4:=by omega
 have ht3:t<2*n+3:=by omega
 obtain⟨c,hc⟩:∃c:Nat,(c:Int)=z/60%3:=⟨(z/60%3).toNat,by omega⟩;obtain⟨o,_,hrow⟩:=bF n0 n4 he4 ht3
 -- the shape
 refine .sq (QK (d:=Yr nw fw (Q7 n e 0)) (g':=g1) rfl) ?_;have k2:Keeps [] g1 (g1++[.lst (((Zv n).map (Q1 n)).take t)]):=.push _;obtain⟨g3,x9,k3,e3⟩:=pR (x0:=some (.fl (ns.map .int))) (x1:=some (.ref a)) (x3:=some (.tup (nw.map .int))) (x4:=some (.ref q)) (x5:=some (.int z)) (x6:=some (.int e)) (x7:=some (.int t)) (x10:=none) (x11:=none) (x12:=none) (x13:=none) (x14:=none) (x15:=none) (x16:=none) (x17:=none) (y:=.ref g1.length) (b:=true) h T (ht1.mono k2 (by simp)) he4 ht3 (by rw[QX (Qp _),TR]);refine .sq (e3 _ g1 (λsrc hs=>by unfold QQ;rw[Lh (t:=t) rfl rfl hq1,Res.bind_ok];exact hs)) ?_;have K3:=k2.trans k3;have hq3:=K3.a hq1
 -- the row
 have k4:Keeps [] g3 (g3++[.lst (((Zv n).map (Q1 n)).drop t)]):=.push _;have k5:Keeps [] (g3++[.lst (((Zv n).map (Q1 n)).drop t)]) (g3++[.lst (((Zv n).map (Q1 n)).drop t)]++[.lst (((Zv n).map (Q1 n)).take t)]):=.push _;have a6:=YS (k5.a (Qp _)) (Qp _) (by simp;omega);have s5:=Lh (o:=Qa 4) (i:=Qa 7) (t:=t) (σ:=[vF ns,vR a,vR tt,vT (nw.map .int),vR q,vI z,vI e,vI t,some (Yr nw fw (Q7 n e t)),x9,none,none,none,none,none,none,none,none]) rfl rfl (k4.a hq3);refine .sq (QK (Ql (GH (t:=t) rfl rfl hq3) s5 a6)) ?_;rw[show((Zv n).map (Q1 n)).drop t++((Zv n).map (Q1 n)).take t=((Zv n).drop t++(Zv n).take t).map (Q1 n) by rw[UB,RQ,TR]];have K5:=K3.trans (k4.trans k5);generalize g3++[GO.lst (((Zv n).map (Q1 n)).drop t)]++[.lst (((Zv n).map (Q1 n)).take t)]=g5 at K5 ⊢;have k6:Keeps [] g5 (g5++[.lst (((Zv n).drop t++(Zv n).take t).map (Q1 n))]):=.push _;have p6:(g5++[GO.lst (((Zv n).drop t++(Zv n).take t).map (Q1 n))])[g5.length]?=vL (((Zv n).drop t++(Zv n).take t).map (Q1 n)):=Qp _;generalize g5++[GO.lst (((Zv n).drop t++(Zv n).take t).map (Q1 n))]=g6 at k6 p6 ⊢;have K6:=K5.trans k6;have hst:(Zv n).any isSt=true:=by unfold Zv;simp[isSt]
 have R6:E6 n e t 10 ((Zv n).drop t++(Zv n).take t):=⟨hrow,by rw[<-UW t (Zv n),RY]at hst;rw[RY,Bool.or_comm];exact hst,by rw[Uo,TB,UZ];omega,pV n0 n4 he4 ht3⟩;obtain⟨r,ms,y11,y12,y13,g7,e7,k7,ga7,o7,R7,hr7⟩:=lX (c:=c) (z:=z) (x2:=some (.ref tt)) (x3:=some (.tup (nw.map .int))) (x4:=some (.ref q)) (x6:=some (.int e)) (x7:=some (.int t)) (x8:=some (Yr nw fw (Q7 n e t))) (x9:=x9) (x11:=none) (x12:=none) (x13:=none) (x14:=none) (x15:=none) (x16:=none) (x17:=none) (it:=Q4 (Qe Z0 (Qe Yw (Qa 5) (mI 60)) (mI 3))) ns o (by omega) R6 (K6.a ga1) (by omega) (by omega) p6 (YI (n:=c) (by rw[hc];exact Ql (x:=.int (z/60)) (y:=.int 3) (g1:=g6) (g2:=g6) (Ql rfl rfl (Ee (by decide) (by decide))) rfl (KU (by decide))) (Xr (by omega)));refine .sq e7 ?_;have hq7:=k7.at' _ _ (by simpa using hqa) (K6.a hq1)
 -- the start
 have k8:Keeps [] g7 (g7++[.lst (((Zv n).map (Q1 n)).take t)]):=.push _;have hq8:=k8.a hq7;have s8:=Lh (o:=Qa 4) (i:=Qa 7) (t:=t) (σ:=[vF ns,vR a,vR tt,vT (nw.map .int),vR q,vI z,vI e,vI t,some (Yr nw fw (Q7 n e t)),x9,vR r,y11,y12,y13,none,none,none,none]) rfl rfl hq7;refine .sq (QK ((Qw (Qx (g1:=g7) rfl (Qx s8 (Qx (ZC (x:=.tup (nw.map .int)) rfl (by show Res.ok (D.int (nw.map D.int).length) _=_;rw[Ua,nl])) (Qx rfl rfl))))).trans (bE (y:=.ref g7.length) (b:=true) n0 n4 ht3 he4 hq8 (by rw[QX (Qp _),TR])))) ?_;generalize g7++[GO.lst (((Zv n).map (Q1 n)).take t)]=g8 at k8 hq8 ⊢;refine .sq (QK (d:=.ref g8.length) (g':=g8++[.lst []]) rfl) ?_;have K9:=k8.trans (.push (.lst []));have hql:q<g8.length:=Zf hq8;obtain⟨y16,y17,g10,e10,k10,p10⟩:=lY (x0:=some (.fl (ns.map .int))) (x1:=some (.ref a)) (x2:=some (.ref tt)) (x5:=some (.int z)) (x8:=some (Yr nw fw (Q7 n e t))) (x9:=x9) (x10:=some (.ref r)) (x11:=y11) (x12:=y12) (x13:=y13) (x14:=some (.int (Vb n t e))) (x16:=none) (x17:=none) n0 n4 nl he4 ht3 (K9.a hq7) (Qp _) (by omega);refine .sq e10 ?_;have hal:a<g8.length:=Zf (k8.a ga7);have hrl:r<g8.length:=Zf (k8.a hr7);refine⟨_,g10,ZP rfl,hQ _ _ ⟨e,t,10+c,ms,r,g8.length,k+1+c,he4,ht3,by omega,rfl,?_,k10.at' _ _ (by simp;omega) (K9.a ga7),by omega,o7,R7,k10.at' _ _ (by simp;omega) (K9.a hr7),p10⟩⟩;refine k1.trans ⟨Up K6.len (Up k7.len (Up K9.len k10.len)),λb o hb e=>?_⟩;have w7:=k7.at' b o hb (K6.at' b o (by simp) e);exact k10.at' b o (by have:=Zf (k8.at' b o (by simp) w7);simp;omega) (K9.at' b o (by simp) w7)
end
section
variable{rows:List (List D)}{n N m K:Nat}{st:Int}{b:Bool}{L R:List Tk}
theorem Tbl.rng{s a s1:Int}{w:Bool}(h:Tbl rows N m)(h0:0<=st)(h1:st<N)(h2:0<=s)(h3:s<m)(he:en rows st s=some (a,w,s1)):(0<=a/\a<m)/\0<=s1/\s1<N:=by obtain⟨_,_,_,bd⟩:=h.at' h0 h1 h2 h3;exact bd _ _ _ he
theorem Sn(hT:Tbl rows N m):∀(f:Nat)(c:List Int)(p cur:Int)(c':List Int)(s:Int)(v:Bool),Hq rows f c p cur=some (c',s,v)->0<=cur->cur<N->0<=p->p<c.length->(∀x∈c,0<=x/\x<(m:Int))->c'.length=c.length/\∀x∈c',0<=x/\x<(m:Int)
 |0,_,_,_,_,_,_,h,_,_,_,_,_=>by cases h
 |f+1,c,p,cur,c',s,v,h,q0,q1,q2,q3,hc=>by
  obtain⟨y0,y1⟩:=D8 hc q2 q3;unfold Hq at h;cases he:en rows cur (c[p.toNat]?.getD 0) with
  |none=>rw[he]at h;cases h|some e=>
   obtain⟨a,w,s1⟩:=e;rw[he]at h;dsimp only at h;obtain⟨r1,r2⟩:=hT.rng q0 q1 y0 y1 he;by_cases hin:0<=pn p w/\pn p w<c.length
   ·rw[Uc hin]at h;have:=Sn hT f _ _ _ _ _ _ h r2.1 r2.2 hin.1 (by rw[UH];exact hin.2) (LQ hc r1);rw[UH]at this;exact this
   ·rw[Uh hin]at h;cases h;exact⟨UH ..,LQ hc r1⟩
def GS(N m K l:Nat)(d:D):Prop:=∃(st:Int)(b:Bool)(L R:List Tk),d=Jf st b (L.map Qy) (R.map Qy)/\(0<=st/\st<N)/\(∀t∈L,TkK K m t)/\(∀t∈R,TkK K m t)/\L.length<=l/\R.length<=l
theorem So{l:Nat}{w:Bool}{s:Int}{t:Tk}{d:D}(hs:0<=s/\s<N)(ht:TkK K m t)(hL:∀t∈L,TkK K m t)(hR:∀t∈R,TkK K m t)(zL:L.length<=l)(zR:R.length<=l)(hd:Gn b (L.map Qy) (R.map Qy) s w (Qy t)=d):GS N m (K+1) (l+1) d:=by
 have p1:∀t∈tL b L,TkK K m t:=λt ht=>hL t (by
  unfold tL at ht;cases b
  ·rw[Uh Ue,TC]at ht;exact TM ht
  ·exact ht)
 have q1:∀t∈tR b R,TkK K m t:=λt ht=>hR t (by
  unfold tR at ht;cases b
  ·exact ht
  ·exact Bf ht)
 have p2:(tL b L).length<=L.length:=by unfold tL;cases b<;>simp
 have q2:(tR b R).length<=R.length:=by unfold tR;cases b<;>simp
 refine⟨s,w,_,_,by rw[<-hd,P0],hs,λu hu=>?_,λu hu=>?_,?_,?_⟩
 ·cases w
  ·exact(p1 u hu).up
  ·rcases UG.mp hu with z|z
   ·exact(p1 u z).up
   ·rw[Uf.mp z];exact ht.up
 ·cases w
  ·rcases Ud.mp hu with rfl|z
   ·exact ht.up
   ·exact(q1 u z).up
  ·exact(q1 u hu).up
 ·cases w<;>simp<;>omega
 ·cases w<;>simp<;>omega
theorem bI(h0:0<=st/\st<N)(hL:∀t∈L,TkK K m t)(hR:∀t∈R,TkK K m t)(zL:L.length<=l)(zR:R.length<=l)(ho:TOp K m (if s then R else L) o)(hd:OL st b s (L.map Qy) (R.map Qy) o=some d):GS N m (K+1) (l+1) d:=by
 cases hq:o with
 |none=>rw[hq]at hd;cases hd|some e=>
  obtain⟨T',rfl,z,k1⟩:=ho e hq;rw[hq]at hd;cases s
  ·cases hd;exact⟨st,b,T',R,rfl,h0,k1,λt ht=>(hR t ht).up,by simp at z;omega,by omega⟩
  ·cases hd;exact⟨st,b,L,T',rfl,h0,λt ht=>(hL t ht).up,k1,by omega,by simp at z;omega⟩
theorem gK{l:Nat}{d:D}(hT:Tbl rows N m)(hd:GS N m K l d)(hl:l<=140)(mv:Mo):∃o:Option D,(∀g M,g[M]?=some (ZK rows)->∃g',Keeps [] g g'/\QR [.ref M,d,Q1 n mv] g=Pr o g')/\∀d',o=some d'->GS N m (K+1) (l+1) d':=by
 obtain⟨st,b,L,R,rfl,⟨h0,h1⟩,hL,hR,zL,zR⟩:=hd;cases mv with
 |step=>
  refine⟨VM rows st b L R,λg M hM=>⟨g,.refl,?_⟩,λd hd=>?_⟩
  ·exact am_step.trans (JN (b:=b) hM hT h0 h1 hL hR (by omega))
  ·have hs:∀s:Int,0<=s->s<m->cT rows st b L R s=some d->_:=λs s0 s1 h=>by
    unfold cT at h;cases he:en rows st s with
    |none=>rw[he]at h;cases h|some e =>obtain⟨a,w,s1⟩:=e;rw[he]at h;obtain⟨r1,r2⟩:=hT.rng h0 h1 s0 (by omega) he;exact So (t:=.one a) r2 r1 hL hR zL zR (Option.some.inj h)
   unfold VM at hd;split at hd
   ·exact hs 0 (by omega) (by have:=hT.m0;omega) hd
   ·rename_i s ha;have ht:=GD ha hL hR;exact hs s ht.1 ht.2 hd
   ·cases hd
 |over=>
  refine⟨BW rows st b L R,λg M hM=>?_,λd hd=>?_⟩
  ·obtain⟨g',k,e⟩:=X2 (b:=b) hM hT h0 h1 hL hR (by omega);exact⟨g',k,am_over.trans e⟩
  ·unfold BW at hd;split at hd
   ·rename_i w k ha;have ht:=GD ha hL hR;cases ho:D7 st b (Hq rows 1000 w (OA b w) st) with
    |none=>rw[ho]at hd;cases hd|some w' =>rw[ho]at hd;have hl:=Tq.mpr ht.1;obtain⟨l1,l2⟩:=Sn hT _ _ _ _ _ _ _ (aA ho) h0 h1 (by unfold OA;split<;>omega) (by unfold OA;split<;>omega) ht.2.1;exact So (t:=.many w' k) ⟨h0,h1⟩ ⟨by intro z;rw[z]at l1;simp at l1;omega,l2,ht.2.2.1,by rw[l1];exact ht.2.2.2.1,ht.2.2.2.2⟩ hL hR zL zR (Option.some.inj hd)
   ·cases hd
 |ends pad s =>obtain⟨o,e1,e2⟩:=D9 (T:=if s then R else L) (m:=m) hT.m0 (by cases s;exact hL;exact hR) (by cases s<;>simp<;>omega) pad s;refine⟨OL st b s (L.map Qy) (R.map Qy) o,λg M hM=>⟨g,.refl,?_⟩,λd hd=>bI ⟨h0,h1⟩ hL hR zL zR e2 hd⟩;exact(Ba λs=>L7).trans (Se (by have e:=e1 g;cases s<;>exact e))|draw =>obtain⟨o,e1,e2⟩:=As (T:=R) (m:=m) hR (by omega) n;refine⟨OL st b true (L.map Qy) (R.map Qy) o,λg M hM=>?_,λd hd=>bI (s:=true) ⟨h0,h1⟩ hL hR zL zR e2 hd⟩;obtain⟨g',k,e⟩:=e1 g;exact⟨g',k,(Ba λs=>L8).trans (Nq e)⟩
end
section
variable{rows:List (List D)}{n N m:Nat}
theorem bJ{g:G}{S:D}{st:Int}{b:Bool}{L R:D}{c c':Bool}{tl tr:List Tk}{M K:Nat}(hM:g[M]?=some (ZK rows))(hT:Tbl rows N m)(hK:K<=12)(hS:S=.tup [.int st,.str (fc b),L,R])(h0:0<=st/\st<N)(hL:QG g L=some (c,tl.map Qy))(hR:QG g R=some (c',tr.map Qy))(ol:∀t∈tl,TkK K m t)(or':∀t∈tr,TkK K m t)(zl:tl.length<=140)(zr:tr.length<=140):
  ∃g1,Keeps [] g g1/\Q0 [.ref M,S] g=.ok .non g1/\ZR [S] g1=.ok (Jf st b (tl.map Qy) (tr.map Qy)) g1:=by
 subst hS;obtain⟨g1,k1,e⟩:=bB (b:=b) hM hT h0.1 hL hR (λt ht=>(ol t ht).ok hK) (λt ht=>(or' t ht).ok hK) zl zr;rw[Uc ⟨h0.2,L9 ol,L9 or'⟩]at e;have p1:=J5 (QI hL k1);have p2:=J5 (QI hR k1);exact⟨g1,k1,e,by simp[ZR,V9,p1,p2,Jf]⟩
theorem Ma(hy:QG g y=some (c,ms))(I:Nat->D->Prop)(h0:I 0 d0)(k1:Keeps [] g g1)(e1:Q0 [.ref M,S] g=.ok .non g1)(e2:ZR [S] g1=.ok d0 g1)(step:∀(i:Nat) (d mv:D) (g':G),Keeps [] g g'->ms[i]?=some mv->I i d->∃g2,Keeps [] g' g2/\(QR [.ref M,d,mv] g'=.raise (8,none) g2\/∃d',QR [.ref M,d,mv] g'=.ok d' g2/\I (i+1) d')):
  ∃g',Keeps [] g g'/\(Zz [.ref M,S,y] g=.raise (8,none) g'\/∃d',Zz [.ref M,S,y] g=.ok d' g'/\I ms.length d'):=by
 have hy1:=QI hy k1;obtain⟨src,s1,s2,s3⟩:=Xq hy1;have s1':QQ (Qa 2) [vR M,some S,some y,some d0,none] g1=.ok src g1:=by unfold QQ;rw[show Qa 2 [vR M,some S,some y,some d0,none] g1=.ok y g1 from rfl,Res.bind_ok];exact s1
 have:=VI (src:=src) (t:=Qn 4) (body:=Ya) (n:=ms.length) (λi σ g'=>Keeps [] g1 g'/\∃d x4,σ=[vR M,some S,some y,some d,x4]/\I i d) (λo=>∃σ g',o=.raise (8,none) σ g'/\Keeps [] g1 g') (λi σ g' hi hQ=>by
  obtain⟨k,d,x4,rfl,hI⟩:=hQ;have hmv:ms[i]?=some ms[i]:=Uj hi;obtain⟨g2,k2,e⟩:=step i d ms[i] g' (k1.trans k) hmv hI;refine⟨ms[i],[vR M,some S,some y,some d,some ms[i]],by rw[s3 _ _ (QI hy1 k)];simp[hi],rfl,?_⟩;rcases e with e|⟨d',e,hI'⟩
  ·refine .inr ⟨?_,?_⟩
   ·unfold Ya QF;rw[(Qw (ds:=[.ref M,d,ms[i]]) (g':=g') rfl).trans e];trivial
   ·unfold Ya QF;rw[(Qw (ds:=[.ref M,d,ms[i]]) (g':=g') rfl).trans e];exact⟨_,_,rfl,k.trans k2⟩
  ·refine .inl ⟨[vR M,some S,some y,some d',some ms[i]],g2,.inl ?_,k.trans k2,d',_,rfl,hI'⟩;unfold Ya;exact QK ((Qw (ds:=[.ref M,d,ms[i]]) (g':=g') rfl).trans e)) (λσ g' hQ=>by rw[s3 _ _ (QI hy1 hQ.1)];simp) (src.top+1) 0 [vR M,some S,some y,some d0,none] g1 (by omega) (by omega) ⟨.refl,d0,none,rfl,h0⟩
 have q1:Zc (Qu Q0 (Qb (Qa 0) (Qb (Qa 1) Qi))) [vR M,some S,some y,none,none] g=.nx [vR M,some S,some y,none,none] g1:=Yu ((Qw (ds:=[.ref M,S]) (g':=g) rfl).trans e1);have q2:QF (Qn 3) (Qu ZR (Qb (Qa 1) Qi)) [vR M,some S,some y,none,none] g1=.nx [vR M,some S,some y,some d0,none] g1:=QK ((Qw (ds:=[S]) (g':=g1) rfl).trans e2);rcases this with⟨σ',g',h1,k2,d',x4,rfl,hI⟩|⟨_,σ',g',h1,k2⟩
 ·refine⟨g',k1.trans k2,.inr ⟨d',Zb rfl ?_,hI⟩⟩;show Ye [vR M,some S,some y,none,none] g=_;unfold Ye;exact Qr _ g1 q1 (Qr _ g1 q2 (Qr _ g' ((Yv s1').trans h1) rfl))
 ·refine⟨g',k1.trans k2,.inl ?_⟩;refine Yi rfl (σ:=σ') ?_;show Ye [vR M,some S,some y,none,none] g=_;unfold Ye;exact Qr _ g1 q1 (Qr _ g1 q2 (YU ((Yv s1').trans h1)))
theorem AJ{M K l:Nat}{g g1:G}{S y d0:D}{c:Bool}{ms:List Mo}(hM:g[M]?=some (ZK rows))(hT:Tbl rows N m)(k1:Keeps [] g g1)(e1:Q0 [.ref M,S] g=.ok .non g1)(e2:ZR [S] g1=.ok d0 g1)(h0:GS N m K l d0)(hl:l+ms.length<=140)(hy:QG g y=some (c,ms.map (Q1 n))):
  ∃g',Keeps [] g g'/\(Zz [.ref M,S,y] g=.raise (8,none) g'\/∃d',Zz [.ref M,S,y] g=.ok d' g'/\GS N m (K+ms.length) (l+ms.length) d'):=by
 have:=Ma (M:=M) (S:=S) hy (λi d=>i<=ms.length->GS N m (K+i) (l+i) d) (λ_=>h0) k1 e1 e2 (λi d mv g' k hmv hI=>by
  have hi:=(Ui.mp hmv).1;rw[Ua]at hi;rw[UA,Uj hi]at hmv;cases hmv;obtain⟨o,p,q⟩:=gK (n:=n) hT (hI (by omega)) (by omega) ms[i];obtain⟨g2,k2,e⟩:=p g' M (k.a hM);refine⟨g2,k2,?_⟩;cases o with
  |none=>exact .inl e|some d'=>exact .inr ⟨d',e,λ_=>q d' rfl⟩)
 rw[Ua]at this;obtain⟨g',k,e⟩:=this;exact⟨g',k,e.imp id λ⟨d',e,h⟩=>⟨d',e,h (Um _)⟩⟩
end
theorem bK(g:G)(k:Nat):∀(f:Nat)(d d':D),pq f d=true->pq f d'=true->∃c,Vk g (f+k) d d'=some c/\(c=true->d=d')
 |0,_,_,h,_=>absurd h Ue|f+1,d,d',h,h'=>by
  rw[show f+1+k=f+k+1 by omega];cases d with
  |int i=>
   cases d' with
   |int j=>exact⟨_,rfl,λe=>by rw[Wp e]⟩|str s=>exact⟨_,rfl,λe=>by cases e⟩|tup ds=>exact⟨_,rfl,λe=>by cases e⟩|_=>exact absurd h' Ue
  |str i=>
   cases d' with
   |str j=>exact⟨_,rfl,λe=>by rw[Wp e]⟩|int s=>exact⟨_,rfl,λe=>by cases e⟩|tup ds=>exact⟨_,rfl,λe=>by cases e⟩|_=>exact absurd h' Ue
  |tup ds=>
   cases d' with
   |str j=>exact⟨_,rfl,λe=>by cases e⟩|int s=>exact⟨_,rfl,λe=>by cases e⟩|tup ds'=>
    have h1:(decide (ds.length<=100000)&&ds.all (pq f))=true:=h;have h2:(decide (ds'.length<=100000)&&ds'.all (pq f))=true:=h';rw[UD]at h1 h2;have:∀es es':List D,es.all (pq f)=true->es'.all (pq f)=true->∃c,Jk (Vk g (f+k)) es es'=some c/\(c=true->es=es'):=λes=>by
     induction es with
     |nil=>
      intro es' _ _;cases es' with
      |nil=>exact⟨true,rfl,λ_=>rfl⟩|cons=>exact⟨false,rfl,λe=>by cases e⟩
     |cons x xs ih=>
      intro es' q1 q2;cases es' with
      |nil=>exact⟨false,rfl,λe=>by cases e⟩|cons y ys =>rw[T5,UD]at q1 q2;obtain⟨c1,e1,i1⟩:=bK g k f x y q1.1 q2.1;obtain⟨c2,e2,i2⟩:=ih ys q1.2 q2.2;refine⟨c1&&c2,by unfold Jk;rw[e1,e2],λe=>?_⟩;rw[UD]at e;rw[i1 e.1,i2 e.2]
    obtain⟨c,e,i⟩:=this ds ds' h1.2 h2.2;exact⟨c,e,λq=>by rw[i q]⟩
   |_=>exact absurd h' Ue
  |_=>exact absurd h Ue
theorem bL(g:G)(h:pq 5 d=true)(h':pq 5 d'=true):∃c,Z5 d d' g=.ok (.bl c) g/\(c=true->d=d'):=by obtain⟨c,e,i⟩:=bK g 3 5 d d' h h';exact⟨c,by unfold Z5;rw[show(8:Nat)=5+3 from rfl,e],i⟩
abbrev Xx(k:Int)(S y:D):D:=.tup [.str "grow",.int k,S,y]
def TF(M:Nat)(P:D)(g:G):Prop:=∃g',Keeps [] g g'/\ZY [.ref M,P] g=.ok (.bl false) g'
theorem Bb{k:Nat}{S y:D}{c:Bool}{ms:List D}{g:G}(hy:QG g y=some (c,ms)):Ze [Xx k S y] g=.ok (.bl true) g:=by
 have w1:=XH k g;rw[Uu (show(0:Int)<=(k:Int) by omega)]at w1;have w2:Vc y g=.ok (.bl true) g:=by unfold Vc;rw[Hl hy];cases c<;>rfl
 simp[Ze,Z3,w1,w2]
theorem JO(h:Ze [P] g=.ok (.bl false) g):TF M P g:=⟨g,.refl,by simp[ZY,YR,h]⟩
theorem E7(gp:Ze [Xx k S y] g=.ok (.bl true) g)(hx:x=7\/x=8)(k1:Keeps [] g g')(e:Zz [.ref M,S,y] g=.raise (x,none) g'):TF M (Xx k S y) g:=by
 refine⟨g',k1,Zb rfl ?_⟩;show YR [vR M,some (Xx k S y),none,none] g=_;unfold YR;refine Qr [vR M,some (Xx k S y),none,none] g (by simp[gp]) ?_;refine Qr [vR M,some (Xx k S y),some S,none] g (by simp) ?_;have e':QF (Qn 3) (Qu Zz (Qb (Qa 0) (Qb (Qa 2) (Qb (Qe QB (Qa 1) (mI 3)) Qi)))) [vR M,some (Xx k S y),some S,none] g=.raise (x,none) [vR M,some (Xx k S y),some S,none] g':=by unfold QF;rw[(Qw (ds:=[.ref M,S,y]) (g':=g) rfl).trans e]
 refine BR ?_;unfold SR;rw[e'];rcases hx with rfl|rfl<;>rfl
theorem OP(gp:Ze [Xx k S y] g=.ok (.bl true) g)(k1:Keeps [] g g1)(e1:Zz [.ref M,S,y] g=.ok d' g1)(hin:Fq (.tup [.str "step"]) y g1=.ok (.bl sb) g1)(H:sb=false\/∃r g2 eb,Keeps [] g1 g2/\Kt [S] g1=.ok r g2/\Z5 d' r g2=.ok (.bl eb) g2/\(eb=false\/∃g3,Keeps [] g2 g3/\JW [.ref M,.int k,S] g2=.ok (.bl false) g3)):TF M (Xx k S y) g:=by
 have fin:∀g',Keeps [] g1 g'->Jx (Qe Fq (Qq (.tup [(.str "step")])) (Qe QB (Qa 1) (mI 3))) (Jx (Qe Z5 (Qa 3) (Qu Kt (Qb (Qa 2) Qi))) (Qu JW (Qb (Qa 0) (Qb (Qe QB (Qa 1) (mI 1)) (Qb (Qa 2) Qi))))) [vR M,some (Xx k S y),some S,some d'] g1=.ok (.bl false) g'->TF M (Xx k S y) g:=λg' k2 e=>by refine⟨g',k1.trans k2,Zb rfl ?_⟩;show YR [vR M,some (Xx k S y),none,none] g=_;unfold YR;refine Qr [vR M,some (Xx k S y),none,none] g (by simp[gp]) ?_;refine Qr [vR M,some (Xx k S y),some S,none] g (by simp) ?_;refine Qr [vR M,some (Xx k S y),some S,some d'] g1 (by unfold SR;rw[show QF (Qn 3) (Qu Zz (Qb (Qa 0) (Qb (Qa 2) (Qb (Qe QB (Qa 1) (mI 3)) Qi)))) [vR M,some (Xx k S y),some S,none] g=.nx [vR M,some (Xx k S y),some S,some d'] g1 from QK ((Qw (ds:=[.ref M,S,y]) (g':=g) rfl).trans e1)]) ?_;exact ZP e
 have q1:∀b,sb=b->Qe Fq (Qq (.tup [(.str "step")])) (Qe QB (Qa 1) (mI 3)) [vR M,some (Xx k S y),some S,some d'] g1=.ok (.bl b) g1:=λb hb=>Ql (x:=.tup [.str "step"]) (y:=y) (g1:=g1) (g2:=g1) rfl rfl (hb ▸ hin);rcases H with H|⟨r,g2,eb,k2,e2,e3,H⟩
 ·exact fin g1 .refl (BT (q1 _ H))
 ·have q2:∀b,eb=b->Qe Z5 (Qa 3) (Qu Kt (Qb (Qa 2) Qi)) [vR M,some (Xx k S y),some S,some d'] g1=.ok (.bl b) g2:=λb hb=>Ql (x:=d') (y:=r) (g1:=g1) (g2:=g2) rfl ((Qw (ds:=[S]) (g':=g1) rfl).trans e2) (hb ▸ e3);cases hs:sb with
  |false=>exact fin g1 .refl (BT (q1 _ hs))|true=>
   cases hb:eb with
   |false=>exact fin g2 k2 (Xs (q1 _ hs) (BT (q2 _ hb)))|true=>
    rcases H with H|⟨g3,k3,e4⟩
    ·rw[hb]at H;cases H
    ·exact fin g3 (k2.trans k3) (Xs (q1 _ hs) (Xs (q2 _ hb) ((Qw (ds:=[.ref M,.int k,S]) (g':=g2) rfl).trans e4)))
section
variable{rows:List (List D)}{n N m:Nat}{nw fw:List Int}
theorem bM(h:Rl rows n N m nw fw)(T:Tb rows N m)(hM:g[M]?=some (ZK rows))(hk:k<250)(hz:FK n k (0,[],[])=some z)(h0:0<=st)(hL:QG g L=some (b1,(la.map (rT nw fw)).map Qy))(hR:QG g R=some (b2,(ra.map (rT nw fw)).map Qy))(ol:∀t∈la,L6 n t=true)(or':∀t∈ra,L6 n t=true)(zl:la.length<=30)(zr:ra.length<=30)(hnz:∀x∈Zg n 0 la++Zg n 0 ra,x≠0/\x<2*n+2)(hf:Zg n 0 la≠[])(hlen:(Zg n 0 la++Zg n 0 ra).length<=300)(hne:(z.1:Int)≠st\/(z.2.1.length:Int)≠(Zg n 0 la).length+Ij f\/z.2.1.length+z.2.2.length≠(Zg n 0 la).length+(Zg n 0 ra).length):
  ∃g',Keeps [] g g'/\JW [.ref M,.int k,.tup [.int st,.str (fc f),L,R]] g=.ok (.bl false) g':=by
 obtain⟨c,g',e,k',_,i⟩:=Lf (f:=f) h.B T hM hk hz h0 hL hR (λt ht=>(h.tks ol t ht).ok (by decide)) (λt ht=>(h.tks or' t ht).ok (by decide)) zl zr hlen;have i:=i hnz hf;cases c with
 |false=>exact⟨g',k',e⟩|true=>obtain⟨q1,q2,q3⟩:=i rfl;omega
end
def Sr(g:G)(x:D):Prop:=∀g1,Keeps [] g g1->∃g2,Keeps [] g1 g2/\Yx [x] g1=.raise (7,none) g2
theorem TokR.uniq(h1:TokR g d true)(h2:TokR g d false):False:=by obtain⟨a,e1,_⟩:=h1 g .refl;obtain⟨b,e2,_⟩:=h2 g .refl;rw[e1]at e2;cases e2
open Classical in
theorem GI(h0:0<=st)(hf:lrS f)(hL:QG g L=some (b,ds))(hR:QG g R=some (b',es))(hz:ds.length<=1000)(hz':es.length<=1000)(tL:∀d∈ds,TokR g d true\/TokR g d false)(tR:∀d∈es,TokR g d true\/TokR g d false)(hb:∃d,(d∈ds\/d∈es)/\TokR g d false):Sr g (.tup [.int st,.str f,L,R]):=λg1 k1=>by
 have ok:∀d,(TokR g d true\/TokR g d false)->TokR g1 d (decide (TokR g d true)):=λd h=>by
  rcases h with h|h
  ·rw[Uu h];exact h.mono k1
  ·rw[Ur λz=>z.uniq h];exact h.mono k1
 obtain⟨g2,k2,h⟩:=BU (λd=>decide (TokR g d true)) h0 hf (QI hL k1) (QI hR k1) hz hz' (λd hd=>ok d (tL d hd)) (λd hd=>ok d (tR d hd));rcases h with⟨a1,a2,_⟩|⟨_,e⟩
 ·obtain⟨d,hd,hf⟩:=hb;rcases hd with hd|hd
  ·exact absurd hf λz=>(UJ (Uv.mp a1 d hd)).uniq z
  ·exact absurd hf λz=>(UJ (Uv.mp a2 d hd)).uniq z
 ·exact⟨g2,k2,e⟩
theorem OQ(h:∀g1,QJ [x] g1=.ok (.bl false) g1):Sr g (.tup [x,f,L,R]):=λg1 _=>by
 refine⟨g1,.refl,Yi (σ:=[vT [x,f,L,R]]) rfl ?_⟩;show Yd [vT [x,f,L,R]] g1=_;unfold Yd;have t:YD (Qo (Qu QJ (Qb (Qe QB (Qa 0) (mI 0)) Qi))) [vT [x,f,L,R]] g1=.ok true g1:=by unfold YD;rw[Q3 (b:=false) (g1:=g1) (by rw[Qw (ds:=[x]) (g':=g1) rfl];exact h g1)];rfl
 exact Qr [vT [x,f,L,R]] g1 rfl (YU (Fe g1 t rfl))
theorem bN(h0:0<=st)(hx:Kk f=true)(hl:Po (.str "l") f=false)(hr:Po (.str "r") f=false):Sr g (.tup [.int st,f,L,R]):=λg1 _=>by refine⟨g1,.refl,Yi (σ:=[vT [.int st,f,L,R]]) rfl ?_⟩;show Yd [vT [.int st,f,L,R]] g1=_;unfold Yd;have t2:Qo (Qu QJ (Qb (Qe QB (Qa 0) (mI 0)) Qi)) [vT [.int st,f,L,R]] g1=.ok true g1:=Q3 (by rw[Qw (ds:=[.int st]) (g':=g1) rfl,XH,Uu h0]);have t3:=D5 (g:=g1) hx;rw[hl,hr]at t3;exact Qr [vT [.int st,f,L,R]] g1 rfl (Qr [vT [.int st,f,L,R]] g1 (Jh g1 (FH t2) rfl) (YU (Fe g1 (Q3 (Ql (x:=f) (g1:=g1) (g2:=g1) rfl rfl t3)) rfl)))
theorem bO(h0:0<=st)(hf:lrS f):Sr g (.tup [.int st,.str f,.non,R]):=λg1 _=>by have c1:Qu QS (Qb (Qe QB (Qa 0) (mI 2)) Qi) [vT [.int st,.str f,.non,R]] g1=QS [.non] g1:=Qw rfl;have e:QS [.non] g1=.raise (7,none) g1:=rfl;exact⟨g1,.refl,Yi (σ:=[vT [.int st,.str f,.non,R]]) rfl (VL h0 (M4 hf g1) _ (YU (Cv (c1.trans e))))⟩
theorem AK{st:Int}{f:Str}{L:D}{g:G}{b:Bool}{ts:List Tk}{s:Str}(h0:0<=st)(hf:lrS f)(hL:QG g L=some (b,ts.map Qy))(ol:∀t∈ts,Xz t)(zl:ts.length<=60):Sr g (.tup [.int st,.str f,L,.str s]):=λg1 k1=>by
 have c1:Qu QS (Qb (Qe QB (Qa 0) (mI 2)) Qi) [vT [.int st,.str f,L,.str s]] g1=QS [L] g1:=Qw rfl;obtain⟨g2,k2,h⟩:=Vf uD (QI hL k1) (by rw[Ua];omega) (λd hd=>by obtain⟨t,ht,rfl⟩:=UQ.mp hd;exact VJ (ol t ht) g1);rcases h with⟨_,e1⟩|⟨z,_⟩
 ·have c2:Qu QS (Qb (Qe QB (Qa 0) (mI 3)) Qi) [vT [.int st,.str f,L,.str s]] g2=QS [.str s] g2:=Qw rfl;have e:QS [.str s] g2=.raise (7,none) g2:=rfl;exact⟨g2,k2,Yi (σ:=[vT [.int st,.str f,L,.str s]]) rfl (VL h0 (M4 hf g1) _ (Qr _ g2 (Yu (c1.trans e1)) (Cv (c2.trans e))))⟩
 ·rw[LO]at z;cases z
theorem AL  : Sr g (.tup [x,y,z]):=λg1 _=>⟨g1,.refl,rfl⟩
theorem bP  : Sr g (.tup [x,y,z,u,v]):=λg1 _=>⟨g1,.refl,rfl⟩
theorem bQ:Sr g .non:=λg1 _=>⟨g1,.refl,rfl⟩
theorem E8(h:g[n]?=vL ds):VU .tuple (.ref n) g=.ok (.bl false) g:=by unfold VU Gi;dsimp only;rw[h];rfl
theorem bR(h:g[n]?=vL ds):Sr g (.ref n):=λg1 k=>by refine⟨g1,.refl,Yi (σ:=[vR n]) rfl ?_⟩;show Yd [vR n] g1=_;unfold Yd;refine YU (Fe g1 ?_ rfl);unfold BG YD;rw[Q3 (ZC (x:=.ref n) (g1:=g1) rfl (E8 (k.a h)))];rfl
theorem pW:(Str.ofString "two"==Str.ofString "one")=false:=by decide +kernel
theorem bS(h:g[n]?=vL ds):TokR g (.ref n) false:=λg1 k=>by refine⟨g1,Zb rfl ?_,.refl⟩;show Y8 [vR n] g1=_;unfold Y8;refine BR (Fe g1 ?_ rfl);unfold YD;rw[Q3 (ZC (x:=.ref n) (g1:=g1) rfl (E8 (k.a h)))];rfl
theorem bT(h:g[n]?=vL ds):TokR g (.tup [.str x,.ref n,.int j]) false:=by have:=ES x (.ref n) j false g λg1 k=>⟨g1,Zb rfl (ZP (BT (ZC (x:=.ref n) (g1:=g1) rfl (E8 (k.a h))))),.refl⟩;rw[RB,Tt]at this;exact this
def HE(p:Nat):List D:=[.tup [.str "one"],.tup [.str "one",.int (-1)],.tup [.str "many",.tup [],.int 0],.tup [.str "many",.tup [.int 0],.int (-1)],.tup [.str "many",.ref p,.int 0],.tup [.str "two",.int 0],.non]
def Mb(p:Nat):List D:=[.tup [.str "many",.tup [.int 0]],.tup [.str "one",.str "0"],.tup [.str "many",.tup [.int 0,.int (-1)],.int 1],.ref p,.tup [],.str "one",.tup [.str "one",.int 0,.int 0],.int 5]
theorem gL(h:g[p]?=vL xs)(h':g[p']?=vL ys):∀d∈HE p++Mb p',TokR g d false:=by
 have r:∀(d:D),(∀g1,Jp [d] g1=.ok (.bl false) g1)->TokR g d false:=λd h g1 _=>⟨g1,h g1,.refl⟩;have w:∀(v:List Int)(j:Int),v.length<=1000->(((decide (v≠[])&&v.all λi=>decide (0<=i))&&decide (0<=j))=false)->TokR g (.tup [.str "many",.tup (v.map .int),.int j]) false:=λv j hv hb=>by have:=ES (Str.ofString "many") (.tup (v.map .int)) j _ g λg1 _=>LN v g1 hv;rw[hb,Tt]at this;exact this
 have o1:=Cu (Str.ofString "one") (.int (-1)) false g λ_=>rfl;have o5:=Cu (Str.ofString "two") (.int 0) true g λ_=>rfl;have o7:=Cu (Str.ofString "many") (.tup [.int 0]) false g λ_=>rfl;have o8:=Cu (Str.ofString "one") (.str "0") false g λ_=>rfl;have o13:=ES (Str.ofString "one") (.int 0) 0 false g λg1 _=>⟨g1,rfl,.refl⟩;rw[Tt]at o1 o7 o8;rw[pW,RB]at o5;rw[RB,Tt]at o13;intro d hd;rcases UG.mp hd with hd|hd
 ·rcases Ud.mp hd with rfl|hd
  ·exact r _ λ_=>rfl
  rcases Ud.mp hd with rfl|hd
  ·exact o1
  rcases Ud.mp hd with rfl|hd
  ·exact w [] 0 (by simp) rfl
  rcases Ud.mp hd with rfl|hd
  ·exact w [0] (-1) (by simp) rfl
  rcases Ud.mp hd with rfl|hd
  ·exact bT h
  rcases Ud.mp hd with rfl|hd
  ·exact o5
  ·rw[Uf.mp hd];exact r _ λ_=>rfl
 ·rcases Ud.mp hd with rfl|hd
  ·exact o7
  rcases Ud.mp hd with rfl|hd
  ·exact o8
  rcases Ud.mp hd with rfl|hd
  ·exact w [0,-1] 1 (by simp) rfl
  rcases Ud.mp hd with rfl|hd
  ·exact bS h'
  rcases Ud.mp hd with rfl|hd
  ·exact r _ λ_=>rfl
  rcases Ud.mp hd with rfl|hd
  ·exact r _ λ_=>rfl
  rcases Ud.mp hd with rfl|hd
  ·exact o13
  ·rw[Uf.mp hd];exact r _ λ_=>rfl
theorem HF(h:QG g x=some (b,xs)):VT x g=.ok (.ref g.length) (g++[.lst xs]):=by
 cases x with
 |ref n=>
  unfold QG at h;unfold VT;dsimp only at h ⊢;cases hg:g[n]? with
  |none=>rw[hg]at h;cases h|some o=>
   rw[hg]at h;cases o with
   |lst ds=>cases h;rfl|_=>cases h
 |tup ds=>cases h;rfl|fl ds=>cases h;rfl|_=>cases h
theorem gM(h:QG g x=some (b,xs))(lo hi:Option Int):∃y b' g1,V6 x lo hi g=.ok y g1/\Keeps [] g g1/\QG g1 y=some (b',Yc xs lo hi):=by
 cases x with
 |ref n=>
  unfold QG at h;dsimp only at h;cases hg:g[n]? with
  |none=>rw[hg]at h;cases h|some o=>
   rw[hg]at h;cases o with
   |lst ds =>cases h;refine⟨.ref g.length,true,g++[.lst (Yc xs lo hi)],?_,.push _,QX (Qp _)⟩;unfold V6;dsimp only;rw[hg]|_=>cases h
 |tup ds=>cases h;exact⟨.tup (Yc xs lo hi),false,g,rfl,.refl,rfl⟩|fl ds=>cases h;exact⟨.ref g.length,true,g++[.lst (Yc xs lo hi)],rfl,.push _,QX (Qp _)⟩|_=>cases h
theorem Nx(h:QG g x=some (b,xs))(hv:σ[i]?=some (some x))(hl:∀h,lo σ h=.ok l h)(hu:∀h,hi σ h=.ok u h):∃z g',Qv VT (QM (Qa i) lo hi) σ g=.ok (.ref z) g'/\Keeps [] g g'/\g'[z]?=vL (Yc xs l u):=by obtain⟨y,b',g1,e,k,s⟩:=gM h l u;refine⟨g1.length,g1++[.lst (Yc xs l u)],ZC (x:=y) (g1:=g1) ?_ (HF s),k.trans (.push _),Qp _⟩;unfold QM;rw[show Qa i σ g=.ok x g by unfold Qa;rw[hv],Res.bind_ok,hl,Res.bind_ok,hu,Res.bind_ok,e]
theorem bU{α:Type}{xs:List α}{i:Int}(h0:0<=i)(h1:i<xs.length):∃d,xs[i.toNat]?=some d/\d∈xs:=⟨xs[i.toNat]'(by omega),by simp,UK _⟩
theorem OR(s:Str)(h:s=Str.ofString ""\/s=Str.ofString "x"\/s=Str.ofString "rl"):(Str.ofString "l"==s)=false/\(Str.ofString "r"==s)=false:=by rcases h with rfl|rfl|rfl<;>exact⟨by decide +kernel,by decide +kernel⟩
def pX(N:Nat)(g:G)(x:D):Prop:=∀g1,(∀(i:Nat) o,N<=i->g[i]?=some o->g1[i]?=some o)->Sr g1 x
theorem gN{st q:Int}{f:Str}{L R:D}{g:G}{b b':Bool}{tl tr:List Tk}(q0:0<=q)(h0:0<=st)(hf:lrS f)(hL:∀g,QG g L=some (b,tl.map Qy))(hR:∀g,QG g R=some (b',tr.map Qy))(ol:∀t∈tl,Xz t)(or':∀t∈tr,Xz t)(zl:tl.length<=40)(zr:tr.length<=40):
  ∃x g',WJ [.int q,.tup [.int st,.str f,L,R]] g=.ok x g'/\Keeps [] g g'/\pX g.length g' x:=by
 suffices h:Rts (λx g'=>Keeps [] g g'/\pX g.length g' x) WA [vI q,vT [.int st,.str f,L,R],none,none,none,none,none,none,none] g by obtain⟨x,g',e,h⟩:=h;exact⟨x,g',Zb rfl e,h⟩
 have gl:∀{ts:List Tk},(∀t∈ts,Xz t)->∀{g':G}(d:D),d∈ts.map Qy->TokR g' d true:=by intro ts h g' d hd;obtain⟨t,ht,rfl⟩:=UQ.mp hd;exact VJ (h t ht) g'
 refine LM λQ hQ=>?_;unfold WA;refine .sq (σ':=[vI q,vT [.int st,.str f,L,R],vI st,some (.str f),some L,some R,none,none,none]) (g1:=g) rfl ?_
 -- the fifteen
 refine .sq (QK (d:=.ref (g++[GO.lst [.int 0]]).length) (g':=g++[.lst [.int 0]]++[.lst (HE g.length)]) rfl) ?_;have k1:Keeps [] g (g++[.lst [.int 0]]):=.push _;have p1:(g++[GO.lst [.int 0]])[g.length]?=vL [.int 0]:=Qp _;generalize ha:g.length=a at p1 hQ ⊢;generalize g++[GO.lst [.int 0]]=g1 at p1 k1 ⊢;have k2:Keeps [] g1 (g1++[.lst (HE a)]):=.push _;have p2:(g1++[GO.lst (HE a)])[g1.length]?=vL (HE a):=Qp _;generalize g1.length=n7 at p2 ⊢;generalize g1++[GO.lst (HE a)]=g2 at p2 k2 ⊢;have k3:Keeps [] g2 (g2++[.lst [.str "one",.int 0]]):=.push _;have p3:(g2++[GO.lst [.str "one",.int 0]])[g2.length]?=vL [.str "one",.int 0]:=Qp _;have hc:a<=g2.length:=by rw[<-ha];exact Up k1.len k2.len
 have k4:Keeps [] (g2++[.lst [.str "one",.int 0]]) (g2++[.lst [.str "one",.int 0]]++[.lst (Mb g2.length)]):=.push _;refine .sq (QK (Ql (x:=.ref n7) (y:=.ref (g2++[GO.lst [.str "one",.int 0]]).length) (g1:=g2) (g2:=g2++[.lst [.str "one",.int 0]]++[.lst (Mb g2.length)]) rfl rfl (YS (k4.a (k3.a p2)) (Qp _) (by show 7+8<=100000;decide)))) ?_;have p3:=k4.a p3;have k4:=k3.trans k4;generalize g2.length=c at p3 hc k4 ⊢;generalize g2++[GO.lst [.str "one",.int 0]]++[.lst (Mb c)]=g4 at p3 k4 ⊢;have k5:Keeps [] g4 (g4++[.lst (HE a++Mb c)]):=.push _;have p5:(g4++[GO.lst (HE a++Mb c)])[g4.length]?=vL (HE a++Mb c):=Qp _;generalize g4.length=n15 at p5 ⊢;generalize g4++[GO.lst (HE a++Mb c)]=g5 at p5 k5 ⊢;have kk:Keeps [] g g5:=k1.trans (k2.trans (k4.trans k5));have pa5:=k5.a (k4.a (k2.a p1));have pc5:=k5.a p3;have a5:a<=g5.length:=by rw[<-ha];exact kk.len
 clear k1 k2 k3 k4 k5 p1 p2 p3 ha;obtain⟨tk,tk1,tk2⟩:=bU (xs:=HE a++Mb c) (i:=q/9%15) (UM _ (by decide)) (by show q/9%15<((15:Nat):Int);omega);have tkX:∀{g' g1:G},Keeps [] g5 g'->(∀(i:Nat) o,a<=i->g'[i]?=some o->g1[i]?=some o)->TokR g1 tk false:=λk hk=>gL (hk _ _ (Um _) (k.a pa5)) (hk _ _ hc (k.a pc5)) tk tk2;refine .sq (QK (Ql (x:=.ref n15) (y:=.int (q/9%15)) (g1:=g5) (g2:=g5) rfl (Ql (Ql rfl rfl (Ee (by decide) (by decide))) rfl (KU (by decide))) (Ef p5 (UM _ (by decide)) tk1))) ?_;refine .sq (QK (Ql (x:=.int (q/135)) (y:=.int ((tl.length:Int)+1)) (g1:=g5) (g2:=g5) (Ql rfl rfl (Ee (by decide) (by decide))) (Ql (x:=.int tl.length) (y:=.int 1) (g1:=g5) (g2:=g5) (ZC (x:=L) (g1:=g5) rfl (by rw[ET (hL g5),Ua])) rfl rfl) (KU (by omega)))) ?_;generalize q/135 % ((tl.length:Int)+1)=sp;have q4:∀h:G,Qe Z0 (Qe Yw (Qa 0) (mI 9)) (mI 4) [vI q,vT [.int st,.str f,L,R],vI st,some (.str f),some L,some R,vR n15,some tk,vI sp] h=.ok (.int (q/9%4)) h:=λh=>Ql (Ql rfl rfl (Ee (by decide) (by decide))) rfl (KU (by decide));have tst:∀v:Int,Qo (Qe Z5 (Qe Z0 (Qa 0) (mI 9)) (Qq (.int v))) [vI q,vT [.int st,.str f,L,R],vI st,some (.str f),some L,some R,vR n15,some tk,vI sp] g5=.ok (q%9==v) g5:=λv=>Q3 (Ql (Ql rfl rfl (KU (by decide))) rfl rfl);refine .or (tst 0) (λ_=>⟨.tup [.int (-1),.str f,L,R],g5,rfl,hQ _ _ ⟨kk,λ_ _=>OQ λ_=>rfl⟩⟩) λ_=>?_;refine .or (tst 1) (λ_=>?_) λ_=>?_
 ·obtain⟨d,d1,d2⟩:=bU (xs:=[D.str "",.str "x",.str "rl",.non]) (i:=q/9%4) (UM _ (by decide)) (by show q/9%4<((4:Nat):Int);omega);have hb:Kk d=true/\Po (.str "l") d=false/\Po (.str "r") d=false:=by
   rcases Ud.mp d2 with rfl|d2
   ·exact⟨rfl,OR _ (.inl rfl)⟩
   rcases Ud.mp d2 with rfl|d2
   ·exact⟨rfl,OR _ (.inr (.inl rfl))⟩
   rcases Ud.mp d2 with rfl|d2
   ·exact⟨rfl,OR _ (.inr (.inr rfl))⟩
   ·rw[Uf.mp d2];exact⟨rfl,rfl,rfl⟩
  exact⟨.tup [.int st,d,L,R],_,ZP (Y9 (Qx (g1:=g5) rfl (Qx (Ql (x:=.ref g5.length) rfl (q4 _) (Ef (Qp _) (UM _ (by decide)) d1)) rfl)) rfl),hQ _ _ ⟨kk.trans (.push _),λ_ _=>bN h0 hb.1 hb.2.1 hb.2.2⟩⟩
 refine .or (tst 2) (λ_=>⟨.tup [.int st,.str f,.non,R],g5,rfl,hQ _ _ ⟨kk,λ_ _=>bO h0 hf⟩⟩) λ_=>?_;refine .or (tst 3) (λ_=>?_) λ_=>?_
 ·obtain⟨d,d1,d2⟩:=bU (xs:=[D.tup [.int st,.str f,L],.ref g5.length,.non,.tup [.int st,.str f,L,R,.int 0]]) (i:=q/9%4) (UM _ (by decide)) (by show q/9%4<((4:Nat):Int);omega);refine⟨d,g5++[.lst [.int st,.str f,L,R]]++[.lst [.tup [.int st,.str f,L],.ref g5.length,.non,.tup [.int st,.str f,L,R,.int 0]]],ZP (Ql (x:=.ref (g5++[GO.lst [.int st,.str f,L,R]]).length) rfl (q4 _) (Ef (Qp _) (UM _ (by decide)) d1)),hQ _ _ ⟨kk.trans ((Keeps.push _).trans (.push _)),λg1 hk=>?_⟩⟩;rcases Ud.mp d2 with rfl|d2
  ·exact AL
  rcases Ud.mp d2 with rfl|d2
  ·exact bR (hk _ _ a5 ((Keeps.push (S:=[]) _).a (Qp _)))
  rcases Ud.mp d2 with rfl|d2
  ·exact bQ
  ·rw[Uf.mp d2];exact bP
 refine .or (tst 4) (λ_=>⟨.tup [.int st,.str f,L,.str "one"],g5,rfl,hQ _ _ ⟨kk,λg1 _=>AK h0 hf (hL g1) ol (by omega)⟩⟩) λ_=>?_;refine .or (tst 5) (λ_=>⟨.tup [.non,.str f,L,R],g5,rfl,hQ _ _ ⟨kk,λ_ _=>OQ λ_=>rfl⟩⟩) λ_=>?_;refine .or (tst 6) (λ_=>?_) λ_=>?_
 ·have k7:Keeps [] (g5++[.lst (tr.map Qy)]) (g5++[.lst (tr.map Qy)]++[.lst [tk]]):=.push _;have ec:=YS (k7.a (Qp _)) (Qp _) (by rw[Ua];simp;omega);have k58:Keeps [] g5 (g5++[.lst (tr.map Qy)]++[.lst [tk]]++[.lst (tr.map Qy++[tk])]):=(Keeps.push _).trans (k7.trans (.push _));refine⟨_,_,ZP (Y9 (Qx (g1:=g5) rfl (Qx (g1:=g5) rfl (Qx (g1:=g5) rfl (Qx (Ql (ZC (x:=R) (g1:=g5) rfl (HF (hR g5))) rfl ec) rfl)))) rfl),hQ _ _ ⟨kk.trans k58,λg1 hk=>GI h0 hf (hL g1) (QX (hk _ _ (Up a5 (by simp)) (Qp _))) (by rw[Ua];omega) (by simp;omega) (λd hd=>.inl (gl ol d hd)) (λd hd=>?_) ⟨tk,.inr (by simp),tkX k58 hk⟩⟩⟩;rcases UG.mp hd with z|z
  ·exact .inl (gl or' d z)
  ·rw[Uf.mp z];exact .inr (tkX k58 hk)
 ·obtain⟨z1,g6,e8,k6,r1⟩:=Nx (σ:=[vI q,vT [.int st,.str f,L,R],vI st,some (.str f),some L,some R,vR n15,some tk,vI sp]) (i:=4) (lo:=QE) (hi:=QZ (Qa 8)) (l:=none) (u:=some sp) (hL g5) rfl (λ_=>rfl) (λ_=>rfl);have u1:=M6 (xs:=tl.map Qy) (lo:=none) (hi:=some sp);have u2:=M6 (xs:=tl.map Qy) (lo:=some sp) (hi:=none);have m1:=M5 (xs:=tl.map Qy) (lo:=none) (hi:=some sp);have m2:=M5 (xs:=tl.map Qy) (lo:=some sp) (hi:=none);rw[Ua]at u1 u2;have k7:Keeps [] g6 (g6++[.lst [tk]]):=.push _;have ec:=YS (k7.a r1) (Qp _) (by simp;omega);have k8:Keeps [] g6 (g6++[.lst [tk]]++[.lst (Yc (tl.map Qy) none (some sp)++[tk])]):=k7.trans (.push _);obtain⟨z2,g9,e9,k9,r2⟩:=Nx (σ:=[vI q,vT [.int st,.str f,L,R],vI st,some (.str f),some L,some R,vR n15,some tk,vI sp]) (i:=4) (lo:=QZ (Qa 8)) (hi:=QE) (l:=some sp) (u:=none) (hL (g6++[.lst [tk]]++[.lst (Yc (tl.map Qy) none (some sp)++[tk])])) rfl (λ_=>rfl) (λ_=>rfl);have ed:=YS (k9.a (Qp _)) r2 (by simp;omega);have k10:Keeps [] g5 (g9++[.lst (Yc (tl.map Qy) none (some sp)++[tk]++Yc (tl.map Qy) (some sp) none)]):=k6.trans (k8.trans (k9.trans (.push _)));have lm:=Up a5 (Up k6.len (Up k8.len k9.len));refine⟨_,_,ZP (Y9 (Qx (g1:=g5) rfl (Qx (g1:=g5) rfl (Qx (Ql (Ql e8 rfl ec) e9 ed) (Qx rfl rfl)))) rfl),hQ _ _ ⟨kk.trans k10,λg1 hk=>GI h0 hf (QX (hk _ _ lm (Qp _))) (hR g1) (by simp;omega) (by rw[Ua];omega) (λd hd=>?_) (λd hd=>.inl (gl or' d hd)) ⟨tk,.inl (by simp),tkX k10 hk⟩⟩⟩;rcases UG.mp hd with z|z
  ·rcases UG.mp z with z|z
   ·exact .inl (gl ol d (m1 d z))
   ·rw[Uf.mp z];exact .inr (tkX k10 hk)
  ·exact .inl (gl ol d (m2 d z))
section
variable{rows:List (List D)}{n N m:Nat}{nw fw:List Int}
theorem bV{M k:Nat}{S y:D}{c:Bool}{ms:List D}{g:G}(hy:QG g y=some (c,ms))(hB:Sr g S):TF M (Xx k S y) g:=by obtain⟨g1,k1,e⟩:=hB g .refl;refine E7 (Bb hy) (.inl rfl) k1 (Yi rfl (σ:=[vR M,some S,some y,none,none]) ?_);show Ye [vR M,some S,some y,none,none] g=_;unfold Ye;refine YU (Cv ((Qw (ds:=[.ref M,S]) (g':=g) rfl).trans (Yi rfl (σ:=[vR M,some S,none,none,none]) ?_)));show Z9 [vR M,some S,none,none,none] g=_;unfold Z9;exact YU (Cv ((Qw (ds:=[S]) (g':=g) rfl).trans e))
theorem GS.pq(h:GS N m K l d)(hl:l<=140):pq 5 d=true:=by
 obtain⟨st,b,L,R,rfl,_,hL,hR,zL,zR⟩:=h;have p1:L3.pq 4 (.tup (L.map Qy))=true:=BX (by simp;omega) (LR hL);have p2:L3.pq 4 (.tup (R.map Qy))=true:=BX (by simp;omega) (LR hR);exact BX (by simp) λx hx=>by
  simp only[Ud,RM,or_false]at hx;rcases hx with rfl|rfl|rfl|rfl
  ·rfl
  ·rfl
  ·exact p1
  ·exact p2
theorem AM(h:Rl rows n N m nw fw){st:Int}{f:Bool}{la ra:List At}(h0:0<=st/\st<N)(ol:∀t∈la,L6 n t=true)(or':∀t∈ra,L6 n t=true)(zl:la.length<=30)(zr:ra.length<=30):GS N m 7 30 (Vv st (fc f) (la.map (rT nw fw)) (ra.map (rT nw fw))):=by
 have r:∀{L:List At},(∀t∈L,L6 n t=true)->∀t∈(L.map (rT nw fw)).map JZ,TkK 7 m t:=λ{L} o t ht=>by
  obtain⟨u,hu,rfl⟩:=UQ.mp ht;have:=h.tks o u hu;cases u with
  |one s=>exact this|many w k=>exact⟨this.1,this.2.1,by have:=this.2.2.1;show 0<=k+1;omega,this.2.2.2.1,by have:=this.2.2.2.2;show k+1<=_;omega⟩
 exact⟨st,f,_,_,rfl,h0,r ol,r or',by simp;omega,by simp;omega⟩
theorem bW(h:Rl rows n N m nw fw){M k:Nat}{g:G}{st:Int}{f:Bool}{la ra:List At}{L R y:D}{b1 b2 c:Bool}{ms:List Mo}(hM:g[M]?=some (ZK rows))(h0:0<=st/\st<N)(hL:QG g L=some (b1,(la.map (rT nw fw)).map Qy))(hR:QG g R=some (b2,(ra.map (rT nw fw)).map Qy))(ol:∀t∈la,L6 n t=true)(or':∀t∈ra,L6 n t=true)(zl:la.length<=30)(zr:ra.length<=30)(hy:QG g y=some (c,ms.map (Q1 n)))(hms:ms.length<=100)(H:ms.any isSt=false\/∀g',Keeps [] g g'->∃g3,Keeps [] g' g3/\JW [.ref M,.int k,.tup [.int st,.str (fc f),L,R]] g'=.ok (.bl false) g3):TF M (Xx k (.tup [.int st,.str (fc f),L,R]) y) g:=by
 have o1:=h.tks ol;have o2:=h.tks or';obtain⟨g1,k1,e1,e2⟩:=bJ (b:=f) hM h.T (by decide:6<=12) rfl h0 hL hR o1 o2 (by simp;omega) (by simp;omega);have hg:GS N m 6 30 (Jf st f ((la.map (rT nw fw)).map Qy) ((ra.map (rT nw fw)).map Qy)):=⟨st,f,_,_,rfl,h0,o1,o2,by simp;omega,by simp;omega⟩;obtain⟨g2,k2,e3⟩:=AJ hM h.T k1 e1 e2 hg (by omega) hy;rcases e3 with e3|⟨d',e3,hd'⟩
 ·exact E7 (Bb hy) (.inr rfl) k2 e3
 have ein:Fq (.tup [.str "step"]) y g2=.ok (.bl (ms.any isSt)) g2:=by unfold Fq;rw[QI hy k2];dsimp only;rw[Sh]
 rcases H with H|H
 ·exact OP (Bb hy) k2 e3 ein (.inl H)
 obtain⟨g3,e4,k3⟩:=Ei (f:=fc f) (st:=st) h0.1 (fc.lr _) (QI hL k2) (QI hR k2) (λt ht=>(o1 t ht).ok (by decide)) (λt ht=>(o2 t ht).ok (by decide)) (by rw[Ua];omega) (by rw[Ua];omega);obtain⟨eb,e5,_⟩:=bL g3 (hd'.pq (by omega)) ((AM (f:=f) h h0 ol or' zl zr).pq (by omega));obtain⟨g4,k4,e6⟩:=H g3 (k2.trans k3);exact OP (Bb hy) k2 e3 ein (.inr ⟨_,g3,eb,k3,e4,e5,.inr ⟨g4,k4,e6⟩⟩)
end
def Ss(s:Sa):Bool×Nat×Nat:=(s.2.1,s.2.2.1.length,s.2.2.2.length)
theorem pY(n0:0<n)(h:GG n b s mv=some s'):Ss s≠Ss s':=by
 have h:=(B3 h).1;obtain⟨st,f,L,R⟩:=s;have Gn:∀st' w t,goA (st,f,L,R) st' w t=s'->(f=false->L≠[])->Ss (st,f,L,R)≠Ss s':=λst' w t e hl=>by subst e;unfold goA Ss;intro z;simp only[By]at z;obtain⟨z1,z2,z3⟩:=z;cases f<;>cases w<;>simp at z1 z2 z3
 have hah:∀x,P9 (st,f,L,R)=some x->(f=false->L≠[]):=λx hx hf hL=>by subst hf;subst hL;cases hx
 cases mv with
 |step=>
  unfold Np at h;dsimp only at h;split at h
  ·cases h
  ·rename_i x hx;obtain⟨e,_,h⟩:=RA.mp h;exact Gn _ _ _ h (hah _ hx)
  ·rename_i hx;obtain⟨e,_,h⟩:=RA.mp h;subst h;unfold goA Ss;intro z;simp only[By]at z;obtain⟨z1,z2,z3⟩:=z;obtain⟨e1,w,e2⟩:=e;unfold P9 at hx;cases f<;>cases w<;>simp at z1 z2 z3 hx
 |over=>
  unfold Np at h;dsimp only at h;split at h
  ·rename_i far k hx;split at h
   ·rename_i hc;exact Gn _ _ _ (Option.some.inj h) (hah _ hx)
   ·split at h
    ·exact Gn _ _ _ (Option.some.inj h) (hah _ hx)
    ·cases h
  ·cases h
 |draw=>
  unfold Np at h;dsimp only at h;split at h
  ·rename_i k r;split at h
   ·rename_i hr;cases h;unfold Ss cU at *;intro z;simp only[By]at z;have:=z.2.2;rw[hr]at this;simp at this;omega
   ·cases h
  ·cases h
 |ends pad sd=>
  cases pad<;>cases sd<;>unfold Np at h<;>dsimp only at h
  ·rw[Uh Ue]at h;split at h
   ·rename_i hx;cases h;unfold Ss;cases L with
    |nil=>cases hx|cons=>simp
   ·cases h
  ·rw[Uc rfl]at h;split at h
   ·rename_i hx;cases h;unfold Ss;cases R with
    |nil=>cases hx|cons=>simp
   ·cases h
  ·cases h;simp[Ss]
  ·cases h;simp[Ss]
section
variable{rows:List (List D)}{n N m:Nat}{nw fw:List Int}
theorem pZ(h:Ss s≠Ss s'):Yr nw fw s≠Yr nw fw s':=λe=>by
 apply h;unfold Yr Jf at e;injection e with e;injection e with _ e;injection e with e1 e;injection e with e2 e;injection e with e3 _;injection e2 with e2;injection e3 with e3;injection e1 with e1;have l1:=Tp List.length e2;have l2:=Tp List.length e3;simp only[Ua]at l1 l2;unfold Ss;rw[l1,l2,show s.2.1=s'.2.1 from ?_];have:(fc s.2.1==Str.ofString "r")=(fc s'.2.1==Str.ofString "r"):=by rw[e1]
 rw[M7,M7]at this;exact this
theorem gO(h:Rl rows n N m nw fw){M k b:Nat}{g:G}{s:Sa}{y:D}{c:Bool}{ms:List Mo}(hb:b<=30)(o:BD n b s=true)(hM:g[M]?=some (ZK rows))(hm:CM n b s ms=some (E3 s))(hne:ms≠[])(hy:QG g y=some (c,ms.dropLast.map (Q1 n))):TF M (Xx k (Yr nw fw s) y) g:=by
 obtain⟨ms0,mv,rfl⟩:∃ms0 mv,ms=ms0++[mv]:=⟨ms.dropLast,ms.getLast hne,(List.dropLast_concat_getLast hne).symm⟩;rw[List.dropLast_concat]at hy;rw[JD]at hm;obtain⟨x,h1,h2⟩:=UN.mp hm;obtain⟨x',h2,h3⟩:=UN.mp h2;cases h3;obtain⟨o1,o2,o3,o4,o5⟩:=okA_iff.mp o;obtain⟨g1,k1,e1⟩:=Nu h (by omega) o hM (ShIn.sh g s) hy h1;have ein:Fq (.tup [.str "step"]) y g1=.ok (.bl (ms0.any isSt)) g1:=by unfold Fq;rw[QI hy k1];dsimp only;rw[Sh]
 have gsx:∀{z:Sa},BD n b z=true->pq 5 (Yr nw fw z)=true:=λ{z} oz=>by obtain⟨q1,q2,q3,q4,q5⟩:=okA_iff.mp oz;have:=h.nN;exact GS.pq (N:=N) (m:=m) (K:=6) (l:=30) ⟨z.1,z.2.1,_,_,rfl,⟨by omega,by omega⟩,h.tks q4,h.tks q5,by simp;omega,by simp;omega⟩ (by omega)
 obtain⟨g2,e2,k2⟩:=Ei (f:=fc s.2.1) (st:=(s.1:Int)) (L:=.tup ((s.2.2.1.map (rT nw fw)).map Qy)) (R:=.tup ((s.2.2.2.map (rT nw fw)).map Qy)) (g:=g1) (by omega) (fc.lr _) rfl rfl (λt ht=>(h.tks o4 t ht).ok (by decide)) (λt ht=>(h.tks o5 t ht).ok (by decide)) (by rw[Ua];omega) (by rw[Ua];omega);have er:Vv s.1 (fc s.2.1) (s.2.2.1.map (rT nw fw)) (s.2.2.2.map (rT nw fw))=Yr nw fw (E3 s):=by unfold Vv Yr E3 Jf;rw[Lg,Lg]
 rw[er]at e2;obtain⟨eb,e3,i3⟩:=bL g2 (gsx (Tm _ o h1)) (gsx (B3 h2).2);refine OP (Bb hy) k1 e1 ein (.inr ⟨_,g2,eb,k2,e2,e3,.inl ?_⟩);cases hb:eb with
 |false=>rfl|true=>exact absurd (i3 hb) (pZ (pY h.B.n0 h2))
theorem Li(h:Rl rows n N m nw fw){M k b:Nat}{g:G}{s x:Sa}{y mv:D}{c:Bool}{ms:List Mo}{rest:List D}(hb:b<=100)(o:BD n b s=true)(hM:g[M]?=some (ZK rows))(hm:CM n b s ms=some x)(hy:QG g y=some (c,ms.map (Q1 n)++mv::rest))(hmv:∀g',Keeps [] g g'->∃g2,Keeps [] g' g2/\QR [.ref M,Yr nw fw x,mv] g'=.raise (8,none) g2):TF M (Xx k (Yr nw fw s) y) g:=by
 obtain⟨g1,k1,e1,e2⟩:=OM h hb o hM (ShIn.sh g s);obtain⟨g2,k2,e⟩:=Ma (M:=M) hy (λi d=>i<=ms.length/\∃z,CM n b s (ms.take i)=some z/\d=Yr nw fw z) ⟨RT _,s,rfl,rfl⟩ k1 e1 e2 (λi d v g' k hv hI=>by
  obtain⟨hi,z,hz,rfl⟩:=hI;by_cases he:i=ms.length
  ·subst he;rw[UO,hm]at hz;cases hz;rw[Ux (by simp),Ua,WR]at hv;cases hv;obtain⟨g2,k2,e⟩:=hmv g' k;exact⟨g2,k2,.inl e⟩
  ·have hi':i<ms.length:=by omega
   rw[Ut (by simpa using hi'),UA,Uj hi']at hv;cases hv;have hs:CM n b s (ms.take i++ms.drop i)=some x:=by rw[UW];exact hm
   rw[JD,hz,US,Tr hi']at hs;obtain⟨z',hz',_⟩:=UN.mp hs;obtain⟨g2,k2,e⟩:=Sf h hb (Tm _ o hz) hz' g' M (k.a hM);refine⟨g2,k2,.inr ⟨_,e,by omega,z',?_,rfl⟩⟩;rw[Uq hi',JD,hz,US];show(GG n b z ms[i]).bind _=_;rw[hz'];rfl)
 rcases e with e|⟨d,_,hI,_⟩
 ·exact E7 (Bb hy) (.inr rfl) k2 e
 ·simp at hI;omega
end
def Im:List D:=[.non,.tup [.str "stop"],.tup [],.str "step",.tup [.str "join",.str "l"],.tup [.str "step",.int 0],.tup [.str "trim",.str "x"],.int 0]
theorem lZ:(Str.ofString "stop"==Str.ofString "step")=false/\(Str.ofString "stop"==Str.ofString "over")=false/\(Str.ofString "stop"==Str.ofString "open")=false/\(Str.ofString "join"==Str.ofString "pad")=false/\(Str.ofString "join"==Str.ofString "trim")=false/\(Str.ofString "l"==Str.ofString "x")=false/\(Str.ofString "r"==Str.ofString "x")=false:=by decide +kernel
section
variable{st:Int}{b:Bool}{L R:List D}{g:G}{M:Nat}
theorem iX  : Z5 (.tup [.str a,x]) (.tup [.str s]) g=.ok (.bl false) g:=by unfold Z5;rw[show Vk g 8 (.tup [.str a,x]) (.tup [.str s])=some ((a==s)&&false) from rfl,Tt]
theorem Cz(h1:∀s,Z5 mv (.tup [.str s]) g=.ok (.bl false) g)(h:∀S:D,QV [S,mv] g=.raise (8,none) g):QR [.ref M,Jf st b L R,mv] g=.raise (8,none) g:=by exact(Ba h1).trans (h _)
theorem mB(h:mv∈Im):QR [.ref M,Jf st b L R,mv] g=.raise (8,none) g:=by
 obtain⟨q1,q2,q3,q4,q5,q6,q7⟩:=lZ;unfold Im at h;rcases Ud.mp h with rfl|h
 ·exact Cz (λ_=>rfl) λ_=>rfl
 rcases Ud.mp h with rfl|h
 ·simp[QR,Y7,QV,Zj,q1,q2,q3]
 rcases Ud.mp h with rfl|h
 ·exact Cz (λ_=>rfl) λ_=>rfl
 rcases Ud.mp h with rfl|h
 ·exact Cz (λ_=>rfl) λ_=>rfl
 rcases Ud.mp h with rfl|h
 ·simp[QR,Y7,QV,Zj,ZL,JV,q4,q5,Jf]
 rcases Ud.mp h with rfl|h
 ·exact Cz (λs=>iX) λ_=>rfl
 rcases Ud.mp h with rfl|h
 ·refine Cz (λs=>iX) (λS=>?_);have t3:=D5 (g:=g) (x:=.str "x") rfl;rw[show Po (.str "l") (.str "x")=false from q6,show Po (.str "r") (.str "x")=false from q7]at t3;refine Yi (σ:=[some S,vT [.str "trim",.str "x"],none,none,none]) rfl ?_;show Zj [some S,vT [.str "trim",.str "x"],none,none,none] g=_;unfold Zj;refine YU (Fe g ?_ rfl);unfold BG;rw[show YD (Qo (Qv (VU .tuple) (Qa 1))) [some S,vT [.str "trim",.str "x"],none,none,none] g=.ok false g from rfl,Res.bind_ok,Uh Ue,show Qo (Qe (GR true) (Qv Zr (Qa 1)) (Qt QC (Qb (mI 2) (Qb (mI 3) Qi)))) [some S,vT [.str "trim",.str "x"],none,none,none] g=.ok false g from rfl,Res.bind_ok,Uh Ue];exact Q3 (Ql (x:=.str "x") (g1:=g) (g2:=g) rfl rfl t3)
 ·rw[Uf.mp h];exact Cz (λ_=>rfl) λ_=>rfl
theorem gP:QR [.ref M,Jf st b L R,.tup [.str "draw",.str (fc true),.bl true]] g=.raise (8,none) g:=by
 have hb:ZD [.bl true,.int R.length] g=.ok (.bl false) g:=rfl;have e3:∀s,Z5 (.tup [.str "draw",.str (fc true),.bl true]) (.tup [.str s]) g=.ok (.bl false) g:=λs=>by unfold Z5;rw[show Vk g 8 (.tup [.str "draw",.str (fc true),.bl true]) (.tup [.str s])=some ((Str.ofString "draw"==s)&&false) from rfl,Tt]
 have hp:Zy [.tup R,.str (fc true),.bl true] g=.raise (8,none) g:=by refine Yi (σ:=[vT R,some (.str (fc true)),some (.bl true),none]) rfl ?_;show Yl [vT R,some (.str (fc true)),some (.bl true),none] g=_;unfold Yl;refine YU (Fe g ?_ rfl);unfold YD;rw[Q3 ((Qw (ds:=[.bl true,.int R.length]) (g':=g) rfl).trans hb)];rfl
 simp[QR,Y7,e3,QV,Zj,Jf,YQ,X9,hp]
end
theorem gQ(h:g[q]?=vL ds):TF M (.ref q) g:=JO (by refine Zb rfl ?_;show Z3 [vR q] g=_;unfold Z3;refine BR (Fe g ?_ rfl);unfold BG YD;rw[Q3 (ZC (x:=.ref q) (g1:=g) rfl (E8 h))];rfl)
section
variable{M:Nat}{g:G}{k:Int}{S y:D}
theorem mC:TF M .non g:=JO rfl
theorem mD:TF M (.str s) g:=JO rfl
theorem mE:TF M (.int i) g:=JO rfl
theorem uX:TF M (.tup []) g:=JO rfl
theorem uY:TF M (.tup [x,y,z]) g:=JO rfl
theorem uZ:TF M (.tup [x,y,z,u,v]) g:=JO rfl
theorem gR:TF M (.tup [.str "grown",u,v,w]) g:=JO (by
 have q:(Str.ofString "grown"==Str.ofString "grow")=false:=by decide +kernel
 simp[Ze,Z3,q])
theorem Ny(h:QJ [x] g=.ok (.bl false) g):TF M (.tup [.str "grow",x,S,y]) g:=JO (by simp[Ze,Z3,h])
theorem mF(h:k<0):TF M (Xx k S y) g:=Ny (by rw[XH,Ur (by omega)])
theorem Nz{k:Nat}(h:Vc y g=.ok (.bl false) g):TF M (Xx k S y) g:=JO (by have w1:=XH k g;rw[Uu (show(0:Int)<=(k:Int) by omega)]at w1;simp[Ze,Z3,w1,h])
end
theorem bX(c:Bool)(g:G):TokR g (.tup [.str "one",.bl c]) false:=by
 have:=Cu (Str.ofString "one") (.bl c) false g λ_=>by cases c<;>rfl
 rwa[Tt]at this
theorem AN{w:List Int}(c:Bool)(g:G)(hw:w.length<=1000):TokR g (.tup [.str "many",.tup (w.map .int),.bl c]) false:=λg1 k1=>by
 obtain⟨g2,e,k2⟩:=LN w g1 hw;refine⟨g2,Zb rfl ?_,k2⟩;show Y8 [vT [.str "many",.tup (w.map .int),.bl c]] g1=_;unfold Y8;refine Qr [vT [.str "many",.tup (w.map .int),.bl c]] g1 rfl (Qr [vT [.str "many",.tup (w.map .int),.bl c]] g1 rfl (ZP (Xs (g1:=g1) rfl (Xs (g1:=g1) (Ql (x:=.str "many") (y:=.str "many") (g1:=g1) (g2:=g1) rfl rfl (by simp)) ?_))));have hf:∀g3,QJ [.bl c] g3=.ok (.bl false) g3:=λ_=>by cases c<;>rfl
 cases hb:(decide (w≠[])&&w.all λi=>decide (0<=i)) with
 |false=>rw[hb]at e;exact BT ((Qw (ds:=[.tup (w.map .int)]) (g':=g1) rfl).trans e)|true=>rw[hb]at e;exact Xs ((Qw (ds:=[.tup (w.map .int)]) (g':=g1) rfl).trans e) ((Qw (ds:=[.bl c]) (g':=g2) rfl).trans (hf g2))
theorem NA(h:xs.length+ys.length<=100000):QD (.tup xs) (.tup ys) g=.ok (.tup (xs++ys)) g:=by unfold QD;dsimp only;rw[Uc (UP (WL h))]
theorem Su(h:src.at' g i=some (some d))(ht:t d σ=some σ1)(hb:body σ1 g=.nx σ2 g2):JH src t body (f+1) i σ g=JH src t body f (i+1) σ2 g2:=by rw[JH,h];dsimp only;rw[ht];dsimp only;rw[hb]
theorem bY(h:src.at' g i=some none):JH src t body (f+1) i σ g=.nx σ g:=by rw[JH,h]
def mR:Tk->D
 |.one s=>.tup [.str "one",.bl (s==1)]|.many w k=>.tup [.str "many",.tup (w.map .int),.bl (k==1)]
theorem Sv(h:Xz t)(g:G):TokR g (mR t) false:=by
 cases t with
 |one s=>exact bX _ g|many w k=>exact AN _ g (by have:=h.2.2.2.1;omega)
def OS(ps:List D):Prop:=∀p∈ps,∀g,Sr g p
section
variable{S:D}{q j:Nat}{T:List Tk}{mk:D->D}
theorem gS(hq:g[q]?=vL ps)(hB:OS ps)(hz:ps.length<=1000)(hT:∀t∈T,Xz t)(zT:T.length<=100)(hi:i<T.length)(hJ:∀g,QB S (.int j) g=.ok (.tup (T.map Qy)) g)(hS:∀X x3 x4 g,Qe QD (Qe QD (QM (Qa 0) QE (QZ (Qa 2))) (Qt QC (Qb (Qa 5) Qi))) (QM (Qa 0) (QZ (Qe QD (Qa 2) (mI 1))) QE) [some S,vR q,vI j,x3,x4,some X] g=.ok (mk X) g)(hM:∀ds g,(∀d∈ds,TokR g d true\/TokR g d false)->(∃d∈ds,TokR g d false)->ds.length<=1000->Sr g (mk (.tup ds)))(x4 x5:Option D):
  ∃y4 y5 ps' g',XX [some S,vR q,vI j,vI i,x4,x5] g=.nx [some S,vR q,vI j,vI i,y4,y5] g'/\Keeps [q] g g'/\g'[q]?=vL ps'/\OS ps'/\ps'.length<=ps.length+1:=by
 have ht:(T.map Qy)[i]?=some (Qy T[i]):=by rw[UA,Uj hi];rfl
 have a1:QF (Qn 4) (Qe QB (Qe QB (Qa 0) (Qa 2)) (Qa 3)) [some S,vR q,vI j,vI i,x4,x5] g=.nx [some S,vR q,vI j,vI i,some (Qy T[i]),x5] g:=QK (Ql (x:=.tup (T.map Qy)) (y:=.int i) (g1:=g) (g2:=g) (Ql rfl rfl (hJ g)) rfl (by show(match VC (T.map Qy) i with|some d=>Res.ok d g|none=>.stuck)=_;rw[iL ht]));have hok:=hT _ (UK hi);obtain⟨v,e2⟩:∃v:Int,∀g,QB (Qy T[i]) (.int (-1)) g=.ok (.int v) g/\mR T[i]=(match Qy T[i]with | .tup ds=>.tup (ds.dropLast++[.bl (v==1)])|_=>.non):=by
  cases T[i]with
  |one s=>exact⟨s,λg=>⟨rfl,rfl⟩⟩|many w k=>exact⟨k,λg=>⟨rfl,rfl⟩⟩
 have ev:∀g x5,Qe QB (Qa 4) (Qv Jy (mI 1)) [some S,vR q,vI j,vI i,some (Qy T[i]),x5] g=.ok (.int v) g:=λg x5=>Ql (x:=Qy T[i]) (y:=.int (-1)) (g1:=g) (g2:=g) rfl rfl (e2 g).1;have tin:Qo (Qe (GR false) (Qe QB (Qa 4) (Qv Jy (mI 1))) (Qt QC (Qb (mI 0) (Qb (mI 1) Qi)))) [some S,vR q,vI j,vI i,some (Qy T[i]),x5] g=.ok ([D.int 0,.int 1].any λd=>Po d (.int v)) g:=Q3 (Ql (x:=.int v) (y:=.tup [.int 0,.int 1]) (g1:=g) (g2:=g) (ev g x5) rfl rfl);unfold XX;cases hv:[D.int 0,.int 1].any λd=>Po d (.int v) with
 |false =>rw[hv]at tin;exact⟨_,_,ps,g,Qr _ g a1 (Jh g tin rfl),.refl,hq,hB,by omega⟩|true=>
  rw[hv]at tin;have c1:∀x5,QM (Qe QB (Qa 0) (Qa 2)) QE (QZ (Qa 3)) [some S,vR q,vI j,vI i,some (Qy T[i]),x5] g=.ok (.tup ((T.map Qy).take i)) g:=λx5=>by unfold QM QE QZ;rw[show Qe QB (Qa 0) (Qa 2) [some S,vR q,vI j,vI i,some (Qy T[i]),x5] g=.ok (.tup (T.map Qy)) g from Ql rfl rfl (hJ g),Res.bind_ok,Res.bind_ok];show Res.ok (D.tup (Yc (T.map Qy) none (some (i:Int)))) g=_;rw[LP]
  have c3:∀x5,QM (Qe QB (Qa 0) (Qa 2)) (QZ (Qe QD (Qa 3) (mI 1))) QE [some S,vR q,vI j,vI i,some (Qy T[i]),x5] g=.ok (.tup ((T.map Qy).drop (i+1))) g:=λx5=>by unfold QM QE QZ;rw[show Qe QB (Qa 0) (Qa 2) [some S,vR q,vI j,vI i,some (Qy T[i]),x5] g=.ok (.tup (T.map Qy)) g from Ql rfl rfl (hJ g),Res.bind_ok];show Res.ok (D.tup (Yc (T.map Qy) (some ((i:Int)+1)) none)) g=_;rw[show(i:Int)+1=((i+1:Nat):Int) by omega,EU]
  have c2:∀x5,Qe QD (QM (Qa 4) QE (QZ (Qv Jy (mI 1)))) (Qt QC (Qb (Qe Z5 (Qe QB (Qa 4) (Qv Jy (mI 1))) (mI 1)) Qi)) [some S,vR q,vI j,vI i,some (Qy T[i]),x5] g=.ok (mR T[i]) g:=λx5=>by
   have:=ev g x5;cases hti:T[i]with
   |one s=>rfl|many w k=>rfl
  have ct:QF (Qn 5) (Qe QD (Qe QD (QM (Qe QB (Qa 0) (Qa 2)) QE (QZ (Qa 3))) (Qt QC (Qb (Qe QD (QM (Qa 4) QE (QZ (Qv Jy (mI 1)))) (Qt QC (Qb (Qe Z5 (Qe QB (Qa 4) (Qv Jy (mI 1))) (mI 1)) Qi))) Qi))) (QM (Qe QB (Qa 0) (Qa 2)) (QZ (Qe QD (Qa 3) (mI 1))) QE)) [some S,vR q,vI j,vI i,some (Qy T[i]),x5] g=.nx [some S,vR q,vI j,vI i,some (Qy T[i]),vT ((T.map Qy).take i++[mR T[i]]++(T.map Qy).drop (i+1))] g:=QK (Ql (Ql (c1 x5) (Y9 (Qx (c2 x5) rfl) rfl) (NA (by simp;omega))) (c3 x5) (NA (by simp;omega)))
  refine⟨_,_,ps++[mk (.tup ((T.map Qy).take i++[mR T[i]]++(T.map Qy).drop (i+1)))],_,Qr _ g a1 (Fe g tin (Qr _ g ct (J6 (ds:=ps) rfl hq (hS _ _ _ _) (Jr (by omega))))),.set _ _,Zt hq,λp hp=>?_,by simp⟩;rcases UG.mp hp with z|z
  ·exact hB p z
  ·rw[Uf.mp z];intro g';refine hM _ g' (λd hd=>?_) ⟨mR T[i],by simp,Sv hok g'⟩ (by simp;omega);have gd:∀d∈T.map Qy,TokR g' d true:=λd hd=>by obtain⟨t,ht,rfl⟩:=UQ.mp hd;exact VJ (hT t ht) g'
   rcases UG.mp hd with z|z
   ·rcases UG.mp z with z|z
    ·exact .inl (gd d (TM z))
    ·rw[Uf.mp z];exact .inr (Sv hok g')
   ·exact .inl (gd d (RP z))
theorem bZ(hq:g[q]?=vL ps)(hB:OS ps)(hz:ps.length<=200)(hT:∀t∈T,Xz t)(zT:T.length<=100)(hJ:∀g,QB S (.int j) g=.ok (.tup (T.map Qy)) g)(hS:∀X x3 x4 g,Qe QD (Qe QD (QM (Qa 0) QE (QZ (Qa 2))) (Qt QC (Qb (Qa 5) Qi))) (QM (Qa 0) (QZ (Qe QD (Qa 2) (mI 1))) QE) [some S,vR q,vI j,x3,x4,some X] g=.ok (mk X) g)(hM:∀ds g,(∀d∈ds,TokR g d true\/TokR g d false)->(∃d∈ds,TokR g d false)->ds.length<=1000->Sr g (mk (.tup ds)))(x3 x4 x5:Option D):
  ∃y3 y4 y5 ps' g',XY [some S,vR q,vI j,x3,x4,x5] g=.nx [some S,vR q,vI j,y3,y4,y5] g'/\Keeps [q] g g'/\g'[q]?=vL ps'/\OS ps'/\ps'.length<=ps.length+T.length:=by
 obtain⟨σ',g',e,⟨y3,y4,y5,rfl⟩,k,ps',q1,q2,q3⟩:=Jb (t:=Qn 3) (body:=XX) (lo:=0) (n:=T.length) (σ:=[some S,vR q,vI j,x3,x4,x5]) (g:=g)
  (λi σ g'=>(∃y3 y4 y5,σ=[some S,vR q,vI j,y3,y4,y5])/\Keeps [q] g g'/\∃ps',g'[q]?=vL ps'/\OS ps'/\ps'.length<=ps.length+i) ⟨⟨_,_,_,rfl⟩,.refl,ps,hq,hB,by omega⟩ (λi σ g1 hi hQ=>by obtain⟨⟨y3,y4,y5,rfl⟩,k,ps1,q1,q2,q3⟩:=hQ;obtain⟨z4,z5,ps2,g2,e2,k2,r1,r2,r3⟩:=gS q1 q2 (by omega) hT zT hi hJ hS hM y4 y5;exact⟨_,_,g2,rfl,by rw[TY];exact e2,⟨_,_,_,rfl⟩,k.trans k2,ps2,r1,r2,by omega⟩)
 refine⟨y3,y4,y5,ps',g',?_,k,q1,q2,q3⟩;unfold XY;refine(Yv (YI (n:=T.length) (ZC (x:=.tup (T.map Qy)) (g1:=g) (Ql rfl rfl (hJ g)) ?_) (Xr (by omega)))).trans e;show Res.ok (D.int (T.map Qy).length) g=_;rw[Ua]
end
theorem AO{st:Int}{f:Bool}{L R:List Tk}{g:G}(h0:0<=st)(hL:∀t∈L,Xz t)(hR:∀t∈R,Xz t)(zL:L.length<=60)(zR:R.length<=60):
  ∃q ps g',C3 [Jf st f (L.map Qy) (R.map Qy)] g=.ok (.ref q) g'/\Keeps [] g g'/\g'[q]?=vL ps/\OS ps/\ps.length<=200:=by
 have k1:Keeps [] g (g++[.lst []]):=.push _;have p1:(g++[GO.lst []])[g.length]?=vL []:=Qp _;have e1:QF (Qn 1) (Qt Ym Qi) [some (Jf st f (L.map Qy) (R.map Qy)),none,none,none,none,none] g=.nx [some (Jf st f (L.map Qy) (R.map Qy)),vR g.length,none,none,none,none] (g++[.lst []]):=rfl;generalize hq:g.length=q at e1 p1;generalize g++[GO.lst []]=g1 at e1 p1 k1;obtain⟨ps1,g2,e2,k2,p2,b2,z2⟩:∃ps1 g2,YE (Qo (Qe Fd (Qe QB (Qa 0) (mI 0)) (mI 2))) (Zc (Zm (Qa 1) (Qe QD (Qt QC (Qb (Qe Z5 (Qe QB (Qa 0) (mI 0)) (mI 1)) Qi)) (QM (Qa 0) (QZ (mI 1)) QE)))) QU [some (Jf st f (L.map Qy) (R.map Qy)),vR q,none,none,none,none] g1=.nx [some (Jf st f (L.map Qy) (R.map Qy)),vR q,none,none,none,none] g2/\Keeps [q] g1 g2/\g2[q]?=vL ps1/\OS ps1/\ps1.length<=1:=by
  have t:Qo (Qe Fd (Qe QB (Qa 0) (mI 0)) (mI 2)) [some (Jf st f (L.map Qy) (R.map Qy)),vR q,none,none,none,none] g1=.ok (decide (st<2)) g1:=rfl;by_cases c:st<2
  ·rw[Uu c]at t;refine⟨[.tup [.bl (st==1),.str (fc f),.tup (L.map Qy),.tup (R.map Qy)]],_,Fe g1 t (J6 (ds:=[]) (y:=.tup [.bl (st==1),.str (fc f),.tup (L.map Qy),.tup (R.map Qy)]) rfl p1 rfl (Jr (by simp))),.set _ _,Zt p1,λp hp g'=>?_,by simp⟩;rw[Uf.mp hp];exact OQ λ_=>by cases st==1<;>rfl
  ·rw[Ur c]at t;exact⟨[],g1,Jh g1 t rfl,.refl,p1,(λp hp=>by cases hp),by simp⟩
 have tokL:∀g d,d∈L.map Qy->TokR g d true:=λg d hd=>by obtain⟨t,ht,rfl⟩:=UQ.mp hd;exact VJ (hL t ht) g
 have tokR:∀g d,d∈R.map Qy->TokR g d true:=λg d hd=>by obtain⟨t,ht,rfl⟩:=UQ.mp hd;exact VJ (hR t ht) g
 obtain⟨y3,y4,y5,ps3,g3,e3,k3,p3,b3,z3⟩:=bZ (S:=Jf st f (L.map Qy) (R.map Qy)) (j:=2) (mk:=λX=>.tup [.int st,.str (fc f),X,.tup (R.map Qy)]) p2 b2 (by omega) hL (by omega) (λ_=>rfl) (λX x3 x4 g=>rfl) (λds g h1 h2 hz=>GI h0 (fc.lr f) rfl rfl hz (by simp;omega) h1 (λd hd=>.inl (tokR g d hd)) (by obtain⟨d,hd,h⟩:=h2;exact⟨d,.inl hd,h⟩)) none none none;obtain⟨w3,w4,w5,ps4,g4,e4,k4,p4,b4,z4⟩:=bZ (S:=Jf st f (L.map Qy) (R.map Qy)) (j:=3) (mk:=λX=>.tup [.int st,.str (fc f),.tup (L.map Qy),X]) p3 b3 (by omega) hR (by omega) (λ_=>rfl) (λX x3 x4 g=>rfl) (λds g h1 h2 hz=>GI h0 (fc.lr f) rfl rfl (by simp;omega) hz (λd hd=>.inl (tokL g d hd)) h1 (by obtain⟨d,hd,h⟩:=h2;exact⟨d,.inr hd,h⟩)) y3 y4 y5;have ef:Y1 (Kj (mI 2) (mI 4)) (Qn 2) XY [some (Jf st f (L.map Qy) (R.map Qy)),vR q,none,none,none,none] g2=.nx [some (Jf st f (L.map Qy) (R.map Qy)),vR q,vI 3,w3,w4,w5] g4:=by
  have hr:Kj (mI 2) (mI 4) [some (Jf st f (L.map Qy) (R.map Qy)),vR q,none,none,none,none] g2=.ok (ZH 2 2) g2:=by show(if SS 2/\SS 4 then Res.ok (ZH 2 ((4-2:Int)).toNat) g2 else .stuck)=_;rw[Uc ⟨Xr (n:=2) (by omega),Xr (n:=4) (by omega)⟩];rfl
  refine(Yv hr).trans ((Su (f:=2) rfl rfl e3).trans ((Su (f:=1) rfl rfl e4).trans (bY (f:=0) rfl)))
 refine⟨q,ps4,g4,Zb rfl ?_,?_,p4,b4,by omega⟩
 ·show CZ [some (Jf st f (L.map Qy) (R.map Qy)),none,none,none,none,none] g=_;unfold CZ;exact Qr _ g1 e1 (Qr _ g2 e2 (Qr _ g4 ef (ZP rfl)))
 ·have K:=k2.trans (k3.trans k4);exact⟨Up k1.len K.len,λi o _ h=>K.at' i o (by have:=Zf h;simp;omega) (k1.a h)⟩
theorem gT(hr:g[r]?=vL A)(hz:A.length<=500):
  ∃y,Vr [x0,x1,x2,vR r,some (Qy t)] g=.nx [x0,x1,x2,vR r,y] (g.set r (.lst (A++[Qy (JZ t)]))):=by
 have q1:(Str.ofString "one"==Str.ofString "many")=false:=by decide +kernel
 have q2:(Str.ofString "many"==Str.ofString "many")=true:=by decide +kernel
 unfold Vr;cases t with
 |one s=>exact⟨_,Qr [x0,x1,x2,vR r,some (Qy (.one s))] g (Jh g (Q3 (Ql (x:=.str "one") (y:=.str "many") (g1:=g) (g2:=g) rfl rfl (by rw[Ox,q1]))) rfl) (J6 (ds:=A) (y:=Qy (.one s)) rfl hr rfl (Jr (by omega)))⟩|many w k=>exact⟨_,Qr [x0,x1,x2,vR r,some (Qy (.many w (k+1)))] g (Fe g (Q3 (Ql (x:=.str "many") (y:=.str "many") (g1:=g) (g2:=g) rfl rfl (by rw[Ox,q2]))) rfl) (J6 (ds:=A) (y:=Qy (.many w (k+1))) rfl hr rfl (Jr (by omega)))⟩
theorem cA{T:List Tk}{p:Nat}{P:List D}{g:G}{x0 x3 x4:Option D}(hp:g[p]?=vL P)(zP:P.length<=10)(zT:T.length<=100):
  ∃y3 y4 g',KP [x0,vR p,vT (T.map Qy),x3,x4] g=.nx [x0,vR p,vT (T.map Qy),y3,y4] g'/\Keeps [p] g g'/\g'[p]?=vL (P++[.tup ((T.map JZ).map Qy)]):=by
 have k1:Keeps [] g (g++[.lst []]):=.push _;have p1:(g++[GO.lst []])[g.length]?=vL []:=Qp _;have hpl:=Zf hp;have e1:QF (Qn 3) (Qt Ym Qi) [x0,vR p,vT (T.map Qy),x3,x4] g=.nx [x0,vR p,vT (T.map Qy),vR g.length,x4] (g++[.lst []]):=rfl;have hp1:=k1.a hp;generalize hr:g.length=r at e1 p1 hpl;generalize g++[GO.lst []]=g1 at e1 p1 k1 hp1;obtain⟨σ',g2,e2,⟨y,rfl⟩,k2,p2⟩:=KT (src:=⟨λ_ i=>some (T.map Qy)[i]?,(T.map Qy).length⟩) (t:=Qn 4) (body:=Vr) (n:=T.length) (σ:=[x0,vR p,vT (T.map Qy),vR r,x4]) (g:=g1) (Ua _)
  (λi σ g'=>(∃y,σ=[x0,vR p,vT (T.map Qy),vR r,y])/\Keeps [r] g1 g'/\g'[r]?=vL (((T.take i).map JZ).map Qy)) ⟨⟨_,rfl⟩,.refl,p1⟩ (λi σ g' hi hQ=>by obtain⟨⟨y,rfl⟩,k,p'⟩:=hQ;obtain⟨z,e⟩:=gT (t:=T[i]) (x0:=x0) (x1:=some (.ref p)) (x2:=some (.tup (T.map Qy))) p' (by simp;omega);refine⟨Qy T[i],_,_,_,by show some (T.map Qy)[i]?=_;rw[UA,Uj hi];rfl,rfl,e,⟨_,rfl⟩,k.trans (.set _ _),(Zt p').trans ?_⟩;rw[Uq hi,UB,UB];rfl) (λσ g' hQ=>by show some (T.map Qy)[T.length]?=_;simp)
 rw[UO]at p2;have hp2:=k2.at' p _ (by simp;omega) hp1;refine⟨some (.ref r),y,_,?_,?_,Zt hp2⟩
 ·unfold KP;exact Qr _ g1 e1 (Qr _ g2 ((Yv rfl).trans e2) (J6 (ds:=P) (y:=.tup ((T.map JZ).map Qy)) rfl hp2 (ZC (x:=.ref r) (g1:=g2) rfl (J5 (QX p2))) (Jr (by omega))))
 ·refine⟨by rw[UH];exact Up k1.len k2.len,λi o hi h=>?_⟩;rw[Ul (by simpa[eq_comm]using hi)];exact k2.at' i o (by have:=Zf h;simp;omega) (k1.a h)
theorem cB{st:Int}{f:Bool}{L R:List Tk}{g:G}(zL:L.length<=60)(zR:R.length<=60):∃g',FC [Jf st f (L.map Qy) (R.map Qy)] g=.ok (Vv st (fc f) L R) g'/\Keeps [] g g':=by
 have k1:Keeps [] g (g++[.lst []]):=.push _;have p1:(g++[GO.lst []])[g.length]?=vL []:=Qp _;have e1:QF (Qn 1) (Qt Ym Qi) [some (Jf st f (L.map Qy) (R.map Qy)),none,none,none,none] g=.nx [some (Jf st f (L.map Qy) (R.map Qy)),vR g.length,none,none,none] (g++[.lst []]):=rfl;generalize hq:g.length=q at e1 p1;generalize g++[GO.lst []]=g1 at e1 p1 k1;obtain⟨y3,y4,g2,e2,k2,p2⟩:=cA (T:=L) (x0:=some (Jf st f (L.map Qy) (R.map Qy))) (x3:=none) (x4:=none) p1 (by simp) (by omega);obtain⟨z3,z4,g3,e3,k3,p3⟩:=cA (T:=R) (x0:=some (Jf st f (L.map Qy) (R.map Qy))) (x3:=y3) (x4:=y4) p2 (by simp) (by omega);have hs:QQ (QM (Qa 0) (QZ (mI 2)) QE) [some (Jf st f (L.map Qy) (R.map Qy)),vR q,none,none,none] g1=.ok ⟨λ_ i=>some [D.tup (L.map Qy),.tup (R.map Qy)][i]?,2⟩ g1:=rfl;refine⟨g3,Zb rfl ?_,?_⟩
 ·show FB [some (Jf st f (L.map Qy) (R.map Qy)),none,none,none,none] g=_;unfold FB;refine Qr _ g1 e1 (Qr [some (Jf st f (L.map Qy) (R.map Qy)),vR q,vT (R.map Qy),z3,z4] g3 ((Yv hs).trans ((Su (f:=2) rfl rfl e2).trans ((Su (f:=1) rfl rfl e3).trans (bY (f:=0) rfl)))) ?_);exact ZP (Ql (x:=.tup [.int st,.str (fc f)]) (y:=.tup [.tup ((L.map JZ).map Qy),.tup ((R.map JZ).map Qy)]) (g1:=g3) (g2:=g3) rfl (ZC (x:=.ref q) (g1:=g3) rfl (J5 (QX p3))) rfl)
 ·have K:=k2.trans k3;exact⟨Up k1.len K.len,λi o _ h=>K.at' i o (by have:=Zf h;simp;omega) (k1.a h)⟩
def iY(n:Nat)(s:Sa):Bool:=(Zg n 0 s.2.2.1++Zg n 0 s.2.2.2).all λx=>decide (x≠0/\x<2*n+2)
def AQ(n k l:Nat):Bool:=match FK n k (0,[],[]) with
 |some z=>decide (z.2.1.length≠l)|none=>false
def vA:Bool:=(List.range 4).all λk=>(List.range (2*k+5)).all λt=>(List.range 4).all λe=>
 decide (1<=Vb (k+1) t e/\Vb (k+1) t e<240/\Zg (k+1) 0 (Q7 (k+1) e t).2.2.1≠[]/\E3 (Q7 (k+1) e t)=Q7 (k+1) (e+1) t/\FK (k+1) (Vb (k+1) t e) (0,[],[])=some (Ej (k+1) 0 (Q7 (k+1) e t))/\BD (k+1) 10 (Q7 (k+1) (e+1) t)=true)&&(iY (k+1) (Q7 (k+1) e t)&&(iY (k+1) (Q7 (k+1) (e+1) t)&&(AQ (k+1) (Vb (k+1) t e+1) (Ej (k+1) 0 (Q7 (k+1) e t)).2.1.length&&(AQ (k+1) (Vb (k+1) t e-1) (Ej (k+1) 0 (Q7 (k+1) e t)).2.1.length &&
 decide ((Zg (k+1) 0 (Q7 (k+1) e t).2.2.1).length+(Zg (k+1) 0 (Q7 (k+1) e t).2.2.2).length<(Zg (k+1) 0 (Q7 (k+1) (e+1) t).2.2.1).length+(Zg (k+1) 0 (Q7 (k+1) (e+1) t).2.2.2).length/\(Zg (k+1) 0 (Q7 (k+1) (e+1) t).2.2.1).length+(Zg (k+1) 0 (Q7 (k+1) (e+1) t).2.2.2).length<=300)))))
theorem qA:vA=true:=by decide +kernel
structure Hk(n e t:Nat):Prop where
 k1:1<=Vb n t e
 k2:Vb n t e<240
 lne:Zg n 0 (Q7 n e t).2.2.1≠[]
 rai:E3 (Q7 n e t)=Q7 n (e+1) t
 run:FK n (Vb n t e) (0,[],[])=some (Ej n 0 (Q7 n e t))
 ok1:BD n 10 (Q7 n (e+1) t)=true
 nz:∀x∈Zg n 0 (Q7 n e t).2.2.1++Zg n 0 (Q7 n e t).2.2.2,x≠0/\x<2*n+2
 nz1:∀x∈Zg n 0 (Q7 n (e+1) t).2.2.1++Zg n 0 (Q7 n (e+1) t).2.2.2,x≠0/\x<2*n+2
 up:AQ n (Vb n t e+1) (Ej n 0 (Q7 n e t)).2.1.length=true
 dn:AQ n (Vb n t e-1) (Ej n 0 (Q7 n e t)).2.1.length=true
 len:(Zg n 0 (Q7 n e t).2.2.1).length+(Zg n 0 (Q7 n e t).2.2.2).length<(Zg n 0 (Q7 n (e+1) t).2.2.1).length+(Zg n 0 (Q7 n (e+1) t).2.2.2).length/\(Zg n 0 (Q7 n (e+1) t).2.2.1).length+(Zg n 0 (Q7 n (e+1) t).2.2.2).length<=300
theorem qB(n0:0<n)(n4:n<=4)(he:e<4)(ht:t<2*n+3):Hk n e t:=by have h:=Uv.mp (Uv.mp (Uv.mp qA (n-1) (UU.mpr (by omega))) t (UU.mpr (by omega))) e (UU.mpr he);rw[show n-1+1=n by omega]at h;simp only[UD]at h;obtain⟨h1,h2,h3,h4,h5,h6⟩:=h;obtain⟨a1,a2,a3,a4,a5,a6⟩:=UJ h1;exact⟨a1,a2,a3,a4,a5,a6,λx hx=>UJ (Uv.mp h2 x hx),λx hx=>UJ (Uv.mp h3 x hx),h4,h5,UJ h6⟩
def Pap(M:Nat)(g:G)(q:Nat)(p:D):Prop:=∃C:Nat->GO->Prop,(∀g',(∀i o,C i o->g'[i]?=some o)->TF M p g')/\∀i o,C i o->g[i]?=some o/\i≠q
theorem Pap.mv(h:Pap M g q p)(k:Keeps [q] g g1)(hq:q1=q\/g.length<=q1):Pap M g1 q1 p:=by
 obtain⟨C,h1,h2⟩:=h;refine⟨C,h1,λi o hc=>⟨k.at' i o (by simpa using (h2 i o hc).2) (h2 i o hc).1,?_⟩⟩;rcases hq with rfl|hq
 ·exact(h2 i o hc).2
 ·have:=Zf (h2 i o hc).1;omega
theorem Pap.any(h:∀g',TF M p g'):Pap M g q p:=⟨λ_ _=>False,λg' _=>h g',λ_ _ z=>z.elim⟩
theorem Pap.one(ha:g[a]?=some x)(q1:a≠q)(h:∀g',g'[a]?=some x->TF M p g'):Pap M g q p:=⟨λi o=>i=a/\o=x,λg' hc=>h g' (hc _ _ ⟨rfl,rfl⟩),λi o ⟨h1,h2⟩=>by subst h1;subst h2;exact⟨ha,q1⟩⟩
theorem Pap.two(ha:g[a]?=some x)(hb:g[b]?=some y)(q1:a≠q)(q2:b≠q)(h:∀g',g'[a]?=some x->g'[b]?=some y->TF M p g'):Pap M g q p:=⟨λi o=>(i=a/\o=x)\/(i=b/\o=y),λg' hc=>h g' (hc _ _ (.inl ⟨rfl,rfl⟩)) (hc _ _ (.inr ⟨rfl,rfl⟩)),λi o hc=>by
 rcases hc with⟨h1,h2⟩|⟨h1,h2⟩
 ·subst h1;subst h2;exact⟨ha,q1⟩
 ·subst h1;subst h2;exact⟨hb,q2⟩⟩
structure Kn(rows:List (List D))(n N m:Nat)(nw fw:List Int)(e t b:Nat)(ms:List Mo):Prop where
 h:Rl rows n N m nw fw
 T:Tb rows N m
 he:e<4
 ht:t<2*n+3
 hb:b<=12
 o:BD n b (Q7 n e t)=true
 R:E6 n e t b ms
section
variable{rows:List (List D)}{n N m:Nat}{nw fw:List Int}{e t b:Nat}{ms:List Mo}{M q:Nat}{g:G}
theorem Kn.hk(k:Kn rows n N m nw fw e t b ms):Hk n e t:=qB k.h.B.n0 k.h.B.n4 k.he k.ht
theorem Kn.sh(k:Kn rows n N m nw fw e t b ms):(Q7 n e t).1<N/\(Q7 n e t).2.2.1.length<=12/\(Q7 n e t).2.2.2.length<=12/\(∀x∈(Q7 n e t).2.2.1,L6 n x=true)/\∀x∈(Q7 n e t).2.2.2,L6 n x=true:=by obtain⟨o1,o2,o3,o4,o5⟩:=okA_iff.mp k.o;have:=k.h.nN;have:=k.hb;exact⟨by omega,by omega,by omega,o4,o5⟩
theorem Kn.ml(k:Kn rows n N m nw fw e t b ms):ms.length<=40:=by have:=k.R.2.2.1;have:=k.hb;omega
theorem Kn.rt(k:Kn rows n N m nw fw e t b ms):CM n b (Q7 n e t) ms=some (E3 (Q7 n e t)):=by rw[k.hk.rai];exact k.R.1
theorem Kn.idle(k:Kn rows n N m nw fw e t b ms)(cM:g[M]?=some (ZK rows)){y:Nat}{ms':List Mo}(cy:g[y]?=vL (ms'.map (Q1 n)))(qM:M≠q)(qy:y≠q)(hl:ms'.length<=100)(hs:ms'.any isSt=false):Pap M g q (Xx (Vb n t e) (Yr nw fw (Q7 n e t)) (.ref y)):=
 .two cM cy qM qy λg' c1 c2=>by obtain⟨s1,s2,s3,s4,s5⟩:=k.sh;exact bW (f:=(Q7 n e t).2.1) (la:=(Q7 n e t).2.2.1) (ra:=(Q7 n e t).2.2.2) k.h c1 ⟨by omega,by omega⟩ rfl rfl s4 s5 (by omega) (by omega) (QX c2) hl (.inl hs)
theorem Kn.far(k:Kn rows n N m nw fw e t b ms)(cM:g[M]?=some (ZK rows)){r:Nat}(cr:g[r]?=vL (ms.map (Q1 n)))(qM:M≠q)(qr:r≠q){kk:Nat}{z:Zp}{st:Int}{f:Bool}{la ra:List At}(hz:FK n kk (0,[],[])=some z)(hk:kk<250)(h0:0<=st/\st<N)(ol:∀t∈la,L6 n t=true)(or':∀t∈ra,L6 n t=true)(zl:la.length<=30)(zr:ra.length<=30)(hnz:∀x∈Zg n 0 la++Zg n 0 ra,x≠0/\x<2*n+2)(hf:Zg n 0 la≠[])(hlen:(Zg n 0 la).length+(Zg n 0 ra).length<=300)(hne:(z.1:Int)≠st\/(z.2.1.length:Int)≠(Zg n 0 la).length+Ij f\/z.2.1.length+z.2.2.length≠(Zg n 0 la).length+(Zg n 0 ra).length):Pap M g q (Xx kk (Jf st f ((la.map (rT nw fw)).map Qy) ((ra.map (rT nw fw)).map Qy)) (.ref r)):=.two cM cr qM qr λg' c1 c2=>bW (f:=f) (la:=la) (ra:=ra) k.h c1 h0 rfl rfl ol or' zl zr (QX c2) (by have:=k.ml;omega) (.inr λg'' k''=>bM k.h k.T (k''.a c1) hk hz h0.1 rfl rfl ol or' zl zr hnz hf (by rw[Uo];exact hlen) hne)
theorem Kn.start(k:Kn rows n N m nw fw e t b ms)(cM:g[M]?=some (ZK rows))(cr:g[r]?=vL (ms.map (Q1 n)))(qM:M≠q)(qr:r≠q)(hk:kk=Vb n t e+1\/kk=Vb n t e-1):Pap M g q (Xx kk (Yr nw fw (Q7 n e t)) (.ref r)):=by
 obtain⟨s1,s2,s3,s4,s5⟩:=k.sh;have H:=k.hk;have hd:AQ n kk (Ej n 0 (Q7 n e t)).2.1.length=true:=by rcases hk with rfl|rfl;exact H.up;exact H.dn
 unfold AQ at hd;cases hz:FK n kk (0,[],[]) with
 |none=>rw[hz]at hd;cases hd|some z =>rw[hz]at hd;have hd:=UJ hd;have q3:=(E1 (n:=n) (c:=0) (s:=Q7 n e t) λ_=>H.lne).2.2;have:=H.k2;have hl:=H.len;exact k.far (f:=(Q7 n e t).2.1) cM cr qM qr hz (by omega) ⟨by omega,by omega⟩ s4 s5 (by omega) (by omega) H.nz H.lne (by omega) (.inr (.inl (by rw[<-q3];omega)))
theorem Kn.other(k:Kn rows n N m nw fw e t b ms)(cM:g[M]?=some (ZK rows)){r:Nat}(cr:g[r]?=vL (ms.map (Q1 n)))(qM:M≠q)(qr:r≠q){st:Int}(h0:0<=st/\st<N)(hs:st≠(Q7 n e t).1):Pap M g q (Xx (Vb n t e) (Jf st (Q7 n e t).2.1 (((Q7 n e t).2.2.1.map (rT nw fw)).map Qy) (((Q7 n e t).2.2.2.map (rT nw fw)).map Qy)) (.ref r)):=by obtain⟨s1,s2,s3,s4,s5⟩:=k.sh;have H:=k.hk;have q1:=(E1 (n:=n) (c:=0) (s:=Q7 n e t) λ_=>H.lne).1;have:=H.k2;have hl:=H.len;exact k.far cM cr qM qr H.run (by omega) h0 s4 s5 (by omega) (by omega) H.nz H.lne (by omega) (.inl (by rw[q1];exact λz=>hs z.symm))
theorem Kn.about(k:Kn rows n N m nw fw e t b ms)(cM:g[M]?=some (ZK rows))(cr:g[r]?=vL (ms.map (Q1 n)))(qM:M≠q)(qr:r≠q):Pap M g q (Xx (Vb n t e) (Jf (Q7 n e t).1 (!(Q7 n e t).2.1) (((Q7 n e t).2.2.1.map (rT nw fw)).map Qy) (((Q7 n e t).2.2.2.map (rT nw fw)).map Qy)) (.ref r)):=by obtain⟨s1,s2,s3,s4,s5⟩:=k.sh;have H:=k.hk;have q3:=(E1 (n:=n) (c:=0) (s:=Q7 n e t) λ_=>H.lne).2.2;have:=H.k2;have hl:=H.len;refine k.far cM cr qM qr H.run (by omega) ⟨by omega,by omega⟩ s4 s5 (by omega) (by omega) H.nz H.lne (by omega) (.inr (.inl ?_));rw[q3];unfold Ij;cases (Q7 n e t).2.1<;>simp<;>omega
theorem Kn.extra(k:Kn rows n N m nw fw e t b ms)(cM:g[M]?=some (ZK rows))(cr:g[r]?=vL (ms.map (Q1 n)))(qM:M≠q)(qr:r≠q):Pap M g q (Xx (Vb n t e) (Yr nw fw (Q7 n (e+1) t)) (.ref r)):=by
 have H:=k.hk;obtain⟨o1,o2,o3,o4,o5⟩:=okA_iff.mp H.ok1;obtain⟨_,q2,_⟩:=E1 (n:=n) (c:=0) (s:=Q7 n e t) λ_=>H.lne;have q2:=Tp List.length q2;rw[Uo,Uo,U4]at q2;have:=H.k2;have hl:=H.len;have:=k.h.nN;have hle:Zg n 0 (Q7 n (e+1) t).2.2.1≠[]:=by
  have:(Q7 n (e+1) t).2.2.1=(Q7 n e t).2.2.1.map AI:=by rw[<-H.rai];rfl
  intro z;apply H.lne;rw[this]at z;cases hL:(Q7 n e t).2.2.1 with
  |nil=>rfl|cons x xs=>
   rw[hL]at z;unfold Zg at z ⊢;rw[Ti,T7,WP]at z;have hx:∀y:At,gA n 0 (AI y)=[]->gA n 0 y=[]:=λy hy=>by
    cases y with
    |one s=>cases hy|many f k =>unfold AI gA at *;dsimp only at hy;rw[show 0+(k+1)=(0+k)+1 by omega,List.replicate_succ',List.flatten_append,WP]at hy;exact hy.1
   rw[T7,hx x z.1,List.nil_append];have z2:=z.2;rw[List.flatMap_eq_nil_iff]at z2 ⊢;exact λy hy=>hx y (z2 _ (List.mem_map_of_mem hy))
 exact k.far (f:=(Q7 n (e+1) t).2.1) (la:=(Q7 n (e+1) t).2.2.1) (ra:=(Q7 n (e+1) t).2.2.2) cM cr qM qr H.run (by omega) ⟨by omega,by omega⟩ o4 o5 (by omega) (by omega) H.nz1 hle hl.2 (.inr (.inr (by omega)))
theorem Kn.drop(k:Kn rows n N m nw fw e t b ms)(cM:g[M]?=some (ZK rows))(cy:g[y]?=vL (ms.dropLast.map (Q1 n)))(qM:M≠q)(qy:y≠q):Pap M g q (Xx (Vb n t e) (Yr nw fw (Q7 n e t)) (.ref y)):=.two cM cy qM qy λg' c1 c2=>gO k.h (by have:=k.hb;omega) k.o c1 k.rt (λz=>by have:=k.R.2.1;rw[z]at this;cases this) (QX c2)
theorem Kn.odd(k:Kn rows n N m nw fw e t b ms)(cM:g[M]?=some (ZK rows))(hx:x∈Im)(cy:g[y]?=vL (ms.map (Q1 n)++[x]))(qM:M≠q)(qy:y≠q):Pap M g q (Xx (Vb n t e) (Yr nw fw (Q7 n e t)) (.ref y)):=.two cM cy qM qy λg' c1 c2=>Li k.h (by have:=k.hb;omega) k.o c1 k.rt (QX c2) λg'' _=>⟨g'',.refl,mB hx⟩
theorem Kn.true1(k:Kn rows n N m nw fw e t b ms)(cM:g[M]?=some (ZK rows))(hi:i<ms.length)(cy:g[y]?=vL ((ms.take i).map (Q1 n)++.tup [.str "draw",.str (fc true),.bl true]::rest))(qM:M≠q)(qy:y≠q):Pap M g q (Xx (Vb n t e) (Yr nw fw (Q7 n e t)) (.ref y)):=
 .two cM cy qM qy λg' c1 c2=>by have h:=k.rt;rw[<-UW i ms,JD]at h;obtain⟨x,h1,_⟩:=UN.mp h;exact Li k.h (by have:=k.hb;omega) k.o c1 h1 (QX c2) λg'' _=>⟨g'',.refl,gP⟩
end
theorem mG(xs:List α):Yc xs none (some (-1))=xs.dropLast:=by
 have h:EB xs.length xs.length (some (-1))=xs.length-1:=by show(if (-1:Int)<0 then ((-1:Int)+(xs.length:Int)).toNat else min (-1:Int).toNat xs.length)=_;rw[Uc (by decide)];omega
 unfold Yc;rw[h,TC];rfl
theorem WY(h1:A σ g=.ok a g1)(h2:B σ g1=.ok b g2)(h3:C σ g2=.ok c g3)(h4:E σ g3=.ok d g4):Qt QC (Qb A (Qb B (Qb C (Qb E Qi)))) σ g=.ok (.tup [a,b,c,d]) g4:=Y9 (Qx h1 (Qx h2 (Qx h3 (Qx h4 rfl)))) rfl
theorem cC(h1:A σ g=.ok a g1)(h2:B σ g1=.ok b g2)(h3:C σ g2=.ok c g3):Qt Ym (Qb A (Qb B (Qb C Qi))) σ g=.ok (.ref g3.length) (g3++[.lst [a,b,c]]):=Y9 (Qx h1 (Qx h2 (Qx h3 rfl))) rfl
theorem gU{n r:Nat}{ms:List Mo}{σ:S3}{g:G}(hr:g[r]?=vL (ms.map (Q1 n)))(hz:ms.length<=1000)(hv:Qa 8 σ g=.ok (.ref r) g):
  ZQ (QQ (Qa 8)) 1 [] (Qn 0) (Qo (Qe CI (Qe QB (Qa 0) (mI 0)) (Qq (.str "step")))) (Qa 0) σ g=.ok (.ref g.length) (g++[.lst ((ms.filter λm=>!isSt m).map (Q1 n))]):=by
 obtain⟨src,s1,s2,s3⟩:=Xq (QX hr);rw[Ua]at s2;obtain⟨xs,σ',g',c1,⟨u,rfl⟩,rfl,rfl⟩:=YH (src:=src) (t:=Qn 0) (c:=Qo (Qe CI (Qe QB (Qa 0) (mI 0)) (Qq (.str "step")))) (e:=Qa 0) (n:=ms.length)
  (λi σ g1 acc=>(∃u,σ=[u])/\g1=g/\acc=((ms.take i).filter λm=>!isSt m).map (Q1 n)) (λi σ g1 acc hi hQ=>by
   obtain⟨⟨u,rfl⟩,rfl,rfl⟩:=hQ;obtain⟨s,rest,hm,h1,_⟩:=iV n ms[i];have ht:Qo (Qe CI (Qe QB (Qa 0) (mI 0)) (Qq (.str "step"))) [some (Q1 n ms[i])] g1=.ok (!isSt ms[i]) g1:=by rw[<-h1];refine Q3 (Ql (x:=.str s) (y:=.str "step") (g1:=g1) (g2:=g1) (Ql (x:=Q1 n ms[i]) (y:=.int 0) (g1:=g1) (g2:=g1) rfl rfl ?_) rfl rfl);rw[hm];show(match VC (.str s::rest) 0 with|some d=>Res.ok d g1|none=>.stuck)=_;rw[show VC (D.str s::rest) 0=some (.str s) from iL (n:=0) rfl]
   refine⟨Q1 n ms[i],[some (Q1 n ms[i])],g1,by rw[s3 _ _ (QX hr)];simp[hi],rfl,?_⟩;rw[Uq hi,Wl,UB];cases hs:isSt ms[i]with
   |true =>rw[hs]at ht;exact .inr ⟨ht,⟨_,rfl⟩,rfl,by simp[hs]⟩|false =>rw[hs]at ht;exact .inl ⟨_,g1,ht,rfl,⟨_,rfl⟩,rfl,by simp[hs]⟩) (λσ g1 acc hQ=>by rw[hQ.2.1,s3 _ _ (QX hr)];simp) (src.top+1) 0 [none] g [] (by omega) (by omega) ⟨⟨none,rfl⟩,rfl,rfl⟩
 rw[UO]at c1;exact JC (n:=1) (cap:=[]) (σ0:=[none]) (g1:=g') (src:=src) (by unfold QQ;rw[hv,Res.bind_ok];exact s1) (by rw[s2];exact UP (Jr hz)) rfl c1
theorem NB(hit:it σ g=.ok (.ref l) g1)(hl:g1[l]?=vL xs)(hz:xs.length<=1000)(hc:CQ 1 [5,6,8] σ=[none,some (.str "grow"),vI k,vR r]):
  ZQ (QQ it) 1 [5,6,8] (Qn 0) Yb (Qt QC (Qb (Qa 1) (Qb (Qa 2) (Qb (Qa 0) (Qb (Qa 3) Qi))))) σ g=.ok (.ref g1.length) (g1++[.lst (xs.map λx=>Xx k x (.ref r))]):=by
 obtain⟨src,s1,s2,s3⟩:=Xq (QX hl);obtain⟨ys,σ',g',c1,⟨u,rfl⟩,rfl,rfl⟩:=YH (src:=src) (t:=Qn 0) (c:=Yb) (e:=Qt QC (Qb (Qa 1) (Qb (Qa 2) (Qb (Qa 0) (Qb (Qa 3) Qi))))) (n:=xs.length)
  (λi σ g2 acc=>(∃u,σ=[u,some (.str "grow"),vI k,vR r])/\g2=g1/\acc=(xs.take i).map λx=>Xx k x (.ref r)) (λi σ g2 acc hi hQ=>by obtain⟨⟨u,rfl⟩,rfl,rfl⟩:=hQ;refine⟨xs[i],[some xs[i],some (.str "grow"),vI k,vR r],g2,by rw[s3 _ _ (QX hl)];simp[hi],rfl,.inl ⟨Xx k xs[i] (.ref r),g2,rfl,rfl,⟨_,rfl⟩,rfl,?_⟩⟩;rw[Uq hi,UB];rfl) (λσ g2 acc hQ=>by rw[hQ.2.1,s3 _ _ (QX hl)];simp) (src.top+1) 0 [none,some (.str "grow"),vI k,vR r] g1 [] (by omega) (by omega) ⟨⟨none,rfl⟩,rfl,rfl⟩
 rw[UO]at c1;exact JC (n:=1) (g1:=g') (src:=src) (by unfold QQ;rw[hit,Res.bind_ok];exact s1) (by rw[s2];exact UP (Jr hz)) hc c1
structure SI(M:Nat)(g0 g:G)(q:Nat)(ps:List D):Prop where
 cq:g[q]?=vL ps
 all:∀p∈ps,Pap M g q p
 z:ps.length<=900
 K:Keeps [] g0 g
 q0:g0.length<=q
section
variable{M:Nat}{g0 g g1:G}{q y:Nat}{ps ps2:List D}{σ:S3}{E:ME}{p:D}
theorem SI.ext(I:SI M g0 g q ps)(hσ:Qa 10 σ g=.ok (.ref q) g)(hE:E σ g=.ok (.ref y) g1)(k1:Keeps [] g g1)(cy:g1[y]?=vL ps2)(hp:∀p∈ps2,Pap M g1 q p)(hz:ps.length+ps2.length<=900):
  Qe QD (Qa 10) E σ g=.ok (.ref g1.length) (g1++[.lst (ps++ps2)])/\SI M g0 (g1++[.lst (ps++ps2)]) g1.length (ps++ps2):=by
 have cq1:=k1.a I.cq;refine⟨Ql hσ hE (YS cq1 cy (by omega)),Qp _,λp h=>?_,by rw[Uo];exact hz,I.K.trans (k1.trans (.push _)),Up I.K.len k1.len⟩;rcases UG.mp h with h|h
 ·exact((I.all p h).mv k1.all (.inl rfl)).mv (.push _) (.inr (Um _))
 ·exact(hp p h).mv (.push _) (.inr (Um _))
theorem SI.app(I:SI M g0 g q ps)(hσ:Qa 10 σ g=.ok (.ref q) g)(hE:E σ g=.ok p g1)(k1:Keeps [] g g1)(hp:Pap M g1 q p)(hz:ps.length+1<=900):
  Zc (Zm (Qa 10) E) σ g=.nx σ (g1.set q (.lst (ps++[p])))/\SI M g0 (g1.set q (.lst (ps++[p]))) q (ps++[p]):=by
 have cq1:=k1.a I.cq;refine⟨Yu (d:=.non) ?_,Zt cq1,λu h=>?_,by simpa using hz,⟨?_,λi o _ h=>?_⟩,I.q0⟩
 ·unfold Zm;rw[hσ,Res.bind_ok];dsimp only;rw[I.cq];dsimp only;rw[hE,Res.bind_ok,cq1];dsimp only;rw[Uc (Jr (by omega))]
 ·have ks:Keeps [q] g1 (g1.set q (.lst (ps++[p]))):=.set _ _;rcases UG.mp h with h|h
  ·exact((I.all u h).mv k1.all (.inl rfl)).mv ks (.inl rfl)
  ·rw[Uf.mp h];exact hp.mv ks (.inl rfl)
 ·rw[UH];exact Up I.K.len k1.len
 ·have:=Zf h;have:=I.q0;rw[Ul (by omega)];exact k1.a (I.K.a h)
end
abbrev sS(ns:List Int)(a:Nat)(N z k:Int)(S:D)(r:Nat)(x9 x10 x11 x12 x13 x14:Option D):S3:=[vF ns,vR a,some (Xx k S (.ref r)),vI N,vI z,some (.str "grow"),vI k,some S,vR r,x9,x10,x11,x12,x13,x14]
section
variable{rows:List (List D)}{n N m:Nat}{nw fw:List Int}{e t b:Nat}{ms:List Mo}{M r:Nat}{g0:G}
theorem Sw(I:SI M g0 g q ps)(h:c σ g=.ok false g):∃ps' g',YE c A QU σ g=.nx σ g'/\SI M g0 g' q ps'/\ps'.length<=ps.length+1:=⟨ps,g,Jh g h rfl,I,Nat.le_succ _⟩
theorem gV(kn:Kn rows n N m nw fw e t b ms)(cM:g0[M]?=some (ZK rows))(cr:g0[r]?=vL (ms.map (Q1 n))){q i:Nat}{σ:S3}{ps:List D}{g:G}(h5:∀g,Qa 5 σ g=.ok (.str "grow") g)(h6:∀g,Qa 6 σ g=.ok (.int (Vb n t e:Nat)) g)(h7:∀g,Qa 7 σ g=.ok (Yr nw fw (Q7 n e t)) g)(h8:∀g,Qa 8 σ g=.ok (.ref r) g)(h10:∀g,Qa 10 σ g=.ok (.ref q) g)(h14:∀g,Qa 14 σ g=.ok (.int i) g)(I:SI M g0 g q ps)(hi:i<ms.length)(hz:ps.length+1<=900):
  ∃ps' g',XZ σ g=.nx σ g'/\SI M g0 g' q ps'/\ps'.length<=ps.length+1:=by
 have cr1:=I.K.a cr;have hix:∀g1:G,Keeps [] g g1->Qe QB (Qa 8) (Qa 14) σ g1=.ok (Q1 n ms[i]) g1:=λg1 k=>Ql (h8 _) (h14 _) (Ef (k.a cr1) (by omega) (by rw[UR,UA,Uj hi];rfl));unfold XZ;have hlen:∀l:Nat,Zr (Q1 n ms[i]) g=.ok (.int l) g->Qo (Qe Z5 (Qv Zr (Qe QB (Qa 8) (Qa 14))) (mI 3)) σ g=.ok ((l:Int)==3) g:=λl h=>Q3 (Ql (ZC (hix g .refl) h) rfl rfl);cases hmv:ms[i]with
 |step=>rw[hmv]at hlen;exact Sw I (GE (hlen 1 rfl))|over=>rw[hmv]at hlen;exact Sw I (GE (hlen 1 rfl))|ends pad sd=>rw[hmv]at hlen;exact Sw I (GE (hlen 2 rfl))|draw=>
  rw[hmv]at hix hlen;have hn:∀g1:G,Keeps [] g g1->Qe QB (Qe QB (Qa 8) (Qa 14)) (mI 2) σ g1=.ok (.int n) g1:=λg1 k=>Ql (hix g1 k) rfl rfl;have t4:=(LX (hlen 3 rfl)).trans (Q3 (Ql (f:=Fd) (b:=Qq (.int 2)) (hn g .refl) rfl rfl));by_cases h1:n=1
  ·have t4:Jj _ _ σ g=.ok true g:=t4.trans (Tp (Res.ok · g) (Uu (by omega)));have k1:Keeps [] g (g++[.lst ((ms.map (Q1 n)).take i)]):=.push _;have p1:(g++[GO.lst ((ms.map (Q1 n)).take i)])[g.length]?=vL ((ms.map (Q1 n)).take i):=Qp _;have s1:=Lh (h8 g) (h14 g) cr1;generalize g++[GO.lst ((ms.map (Q1 n)).take i)]=g1 at k1 p1 s1;obtain⟨dT,hT⟩:∃dT,dT=D.tup [.str "draw",.str (fc true),.bl true]:=⟨_,rfl⟩;have k2:Keeps [] g1 (g1++[.lst [dT]]):=.push _;have a3:=YS (k2.a p1) (Qp _) (by have:=kn.ml;simp;omega);have s2:Qt Ym (Qb (Qe QD (QM (Qe QB (Qa 8) (Qa 14)) QE (QZ (mI 2))) (Qt QC (Qb (Qe Z5 (Qe QB (Qe QB (Qa 8) (Qa 14)) (mI 2)) (mI 1)) Qi))) Qi) σ g1=.ok (.ref g1.length) (g1++[.lst [dT]]):=Y9 (Qx (Ql (x:=.tup [.str "draw",.str (fc true)]) (y:=.tup [.bl true]) (g2:=g1) (by unfold QM;rw[hix g1 k1,Res.bind_ok];rfl) (Y9 (Qx (Ql (hn g1 k1) rfl (by rw[h1];rfl)) rfl) rfl) (by rw[hT];rfl)) rfl) rfl;generalize g1++[GO.lst [dT]]=g2 at k2 a3 s2;have k3:Keeps [] g2 (g2++[.lst ((ms.map (Q1 n)).take i++[dT])]):=.push _;have p3:(g2++[GO.lst ((ms.map (Q1 n)).take i++[dT])])[g2.length]?=vL ((ms.map (Q1 n)).take i++[dT]):=Qp _;generalize g2++[GO.lst ((ms.map (Q1 n)).take i++[dT])]=g3 at k3 p3 a3;have k3:=k1.trans (k2.trans k3);have s4:=GH (t:=i+1) (h8 g3) (Ql (f:=QD) (b:=Qq (.int 1)) (h14 _) rfl rfl) (k3.a cr1);have k4:Keeps [] g3 (g3++[.lst ((ms.map (Q1 n)).drop (i+1))]):=.push _;have a5:=YS (k4.a p3) (Qp _) (by have:=kn.ml;simp;omega);have k5:=k3.trans (k4.trans (.push (.lst ((ms.map (Q1 n)).take i++[dT]++(ms.map (Q1 n)).drop (i+1)))));obtain⟨e1,I1⟩:=I.app (h10 g) (WY (h5 _) (h6 _) (h7 _) (Ql (Ql s1 s2 a3) s4 a5)) k5 (kn.true1 (k5.a (I.K.a cM)) hi (rest:=(ms.map (Q1 n)).drop (i+1)) (by rw[Qp,TR,Ws,hT];rfl) (by have:=Zf cM;have:=I.q0;omega) (by have:=Zf I.cq;have:=k3.len;simp;omega)) hz;exact⟨_,_,Fe g t4 e1,I1,by simp⟩
  ·exact Sw I (t4.trans (Tp (Res.ok · g) (Ur (by have:=kn.h.B.n0;omega))))
end
section
variable{P:D->G->Prop}{a b rest:MS}{σ σ':S3}
theorem SI.go(I:SI M g0 g q ps)(hE:E σ g=.ok (.ref y) g1)(k1:Keeps [] g g1)(cy:g1[y]?=vL ps2)(hp:∀p∈ps2,Pap M g1 q p)(c:Nat)(hz:ps.length+ps2.length<=c)(next:∀g2 q2 ps3,SI M g0 g2 q2 ps3->ps3.length<=c->Rts P rest (σ.set 10 (some (.ref q2))) g2)(hc:c<=900:=by decide)(hσ:Qa 10 σ g=.ok (.ref q) g:=by rfl):Rts P (Qs (QF (Qn 10) (Qe QD (Qa 10) E)) rest) σ g:=
 let ⟨e,I2⟩:=I.ext hσ hE k1 cy hp (Up hz hc)
 Rts.sq (QK e) (next _ _ _ I2 (by rw[Uo];exact hz))
theorem SI.goA(I:SI M g0 g q ps)(hE:E σ g=.ok p g1)(k1:Keeps [] g g1)(hp:Pap M g1 q p)(hz:ps.length+1<=900)(next:∀g2 ps3,SI M g0 g2 q ps3->ps3.length=ps.length+1->Rts P rest σ g2)(hσ:Qa 10 σ g=.ok (.ref q) g:=by rfl):Rts P (Qs (Zc (Zm (Qa 10) E)) rest) σ g:=
 let ⟨e,I2⟩:=I.app hσ hE k1 hp hz
 Rts.sq e (next _ _ I2 (by simp))
theorem SI.keep(I:SI M g0 g q ps)(k:Keeps [] g g1):SI M g0 g1 q ps:=⟨k.a I.cq,λp hp=>(I.all p hp).mv k.all (.inl rfl),I.z,I.K.trans k,I.q0⟩
end
theorem qC(f:Bool)(g:G):QB (.str "rl") (.int (if f then 1 else 0)) g=.ok (.str (fc (!f))) g:=by
 have h:Str.ofString "rl"=⟨#[114,108]⟩:=by decide +kernel
 rw[h];cases f
 ·show(if (2:Nat)<=SZ then Res.ok (D.str ⟨#[114]⟩) g else .stuck)=_;rw[Uc (by decide),<-cS];rfl
 ·show(if (2:Nat)<=SZ then Res.ok (D.str ⟨#[108]⟩) g else .stuck)=_;rw[Uc (by decide),<-lP];rfl
theorem cD{s d N:Int}(h0:0<=s)(h1:s<N)(h2:0<=d)(h3:d<N-1):(0<=(s+1+d) % N/\(s+1+d) % N<N)/\(s+1+d) % N≠s:=by
 refine⟨⟨UM _ (by omega),U3 _ (by omega)⟩,?_⟩;by_cases c:s+1+d<N
 ·rw[Int.emod_eq_of_lt (by omega) c];omega
 ·have:(s+1+d) % N=s+1+d-N:=by rw[<-Int.sub_emod_right,Int.emod_eq_of_lt (by omega) (by omega)]
  rw[this];omega
section
variable{rows:List (List D)}{n N m:Nat}{nw fw:List Int}{e t b:Nat}{ms:List Mo}{M r:Nat}
theorem AR(ns:List Int){a:Nat}{kc:Int}{g:G}(kn:Kn rows n N m nw fw e t b ms)(cM:g[M]?=some (ZK rows))(cr:g[r]?=vL (ms.map (Q1 n)))(ga:g[a]?=vL [.int kc])(hk:0<=kc)(hk2:kc<900000000)(hMa:M≠a)(hra:r≠a):
  ∃q ps g',C5 [.fl (ns.map .int),.ref a,Xx (Vb n t e:Nat) (Yr nw fw (Q7 n e t)) (.ref r),.int N] g=.ok (.ref q) g'/\Keeps [a] g g'/\g'[a]?=vL [.int (kc+1)]/\g'[q]?=vL ps/\(∀p∈ps,Pap M g' q p)/\ps.length<=900:=by
 have H:=kn.hk;have hml:=kn.ml;obtain⟨s1,s2,s3,s4,s5⟩:=kn.sh;have hN3:3<=N:=by have:=kn.h.nN;have:=kn.h.B.n0;omega
 obtain⟨z,z0,z1,e1⟩:=Ct ns a kc g ga hk (by omega);have kp0:Keeps [a] g (g.set a (.lst [.int (kc+1)])):=.set _ _;have ga0:(g.set a (.lst [.int (kc+1)]))[a]?=vL [.int (kc+1)]:=Zt ga;have cM0:=kp0.at' _ _ (by simpa using hMa) cM;have cr0:=kp0.at' _ _ (by simpa using hra) cr;generalize g.set a (.lst [.int (kc+1)])=g0 at e1 kp0 ga0 cM0 cr0;have lM:=Zf cM0;have lr:=Zf cr0;have hk1:=H.k1;have hE:Rts (λd g'=>∃q ps,d=.ref q/\SI M g0 g' q ps) C4 [vF ns,vR a,some (Xx (Vb n t e:Nat) (Yr nw fw (Q7 n e t)) (.ref r)),vI N,none,none,none,none,none,none,none,none,none,none,none] g:=by
  refine LM λQ hQ=>?_;unfold C4;refine .sq (QK ((Qw (ds:=[.fl (ns.map .int),.ref a]) (g':=g) rfl).trans e1)) ?_;refine .sq (σ':=sS ns a N z (Vb n t e:Nat) (Yr nw fw (Q7 n e t)) r none none none none none none) (g1:=g0) rfl ?_;have k3:Keeps [] g0 (g0++[.lst ((ms.filter λm=>!isSt m).map (Q1 n))]):=.push _;have c3:(g0++[GO.lst ((ms.filter λm=>!isSt m).map (Q1 n))])[g0.length]?=vL ((ms.filter λm=>!isSt m).map (Q1 n)):=Qp _;refine .sq (QK (gU cr0 (by omega) rfl)) ?_;generalize g0++[GO.lst ((ms.filter λm=>!isSt m).map (Q1 n))]=g3 at k3 c3 ⊢;have k4:Keeps [] g3 (g3++[.lst []]):=.push _;have c4:(g3++[GO.lst []])[g3.length]?=vL []:=Qp _;have l4:=Zf c3;refine .sq (QK (cC (g1:=g3++[.lst []]) (g2:=g3++[.lst []]) (g3:=g3++[.lst []]++[.lst (ms.map (Q1 n)).dropLast]) (b:=Xx (Vb n t e:Nat) (Yr nw fw (Q7 n e t)) (.ref g0.length)) (WY rfl rfl rfl rfl) rfl (WY rfl rfl rfl (by show V6 (.ref r) none (some (-1)) (g3++[.lst []])=_;unfold V6;dsimp only;rw[k4.a (k3.a cr0)];dsimp only;rw[mG])))) ?_;generalize hy4:g3.length=y4 at c4 l4 ⊢;generalize g3++[GO.lst []]=g4 at k4 c4 ⊢;have k5:Keeps [] g4 (g4++[.lst (ms.map (Q1 n)).dropLast]):=.push _;have c5:(g4++[GO.lst (ms.map (Q1 n)).dropLast])[g4.length]?=vL ((ms.map (Q1 n)).dropLast):=Qp _;have l5:=Zf c4;generalize hy5:g4.length=y5 at c5 l5 ⊢;generalize g4++[GO.lst (ms.map (Q1 n)).dropLast]=g5 at k5 c5 ⊢;have l6:=Zf c5;have k35:=k3.trans (k4.trans k5);have I:SI M g0 (g5++[.lst [Xx (Vb n t e:Nat) (Yr nw fw (Q7 n e t)) (.ref y4),Xx (Vb n t e:Nat) (Yr nw fw (Q7 n e t)) (.ref g0.length),Xx (Vb n t e:Nat) (Yr nw fw (Q7 n e t)) (.ref y5)]]) g5.length [Xx (Vb n t e:Nat) (Yr nw fw (Q7 n e t)) (.ref y4),Xx (Vb n t e:Nat) (Yr nw fw (Q7 n e t)) (.ref g0.length),Xx (Vb n t e:Nat) (Yr nw fw (Q7 n e t)) (.ref y5)]:=by
   refine⟨Qp _,λp hp=>?_,by simp,k35.trans (.push _),by omega⟩;have ks:∀{i:Nat}{o:GO}{x:GO},g5[i]?=some o->(g5++[x])[i]?=some o:=λh=>(Keeps.push (S:=[]) _).a h;have cM6:=k35.a cM0;rcases Ud.mp hp with rfl|hp
   ·exact kn.idle (ms':=[]) (ks cM6) (ks (k5.a c4)) (by omega) (by omega) (by simp) rfl
   rcases Ud.mp hp with rfl|hp
   ·exact kn.idle (ks cM6) (ks (k5.a (k4.a c3))) (by omega) (by omega) (Up (RH _ _) (by omega)) (by simp)
   ·rw[Uf.mp hp];exact kn.drop (ks cM6) (by rw[Wx];exact ks c5) (by omega) (by omega)
  generalize hps:[Xx (Vb n t e:Nat) (Yr nw fw (Q7 n e t)) (.ref y4),Xx (Vb n t e:Nat) (Yr nw fw (Q7 n e t)) (.ref g0.length),Xx (Vb n t e:Nat) (Yr nw fw (Q7 n e t)) (.ref y5)]=ps at I ⊢;have zs:ps.length=3:=by rw[<-hps];rfl
  generalize g5++[GO.lst ps]=h6 at I ⊢;generalize g5.length=q at I ⊢;generalize g0.length=y3;clear hps k3 c3 k4 c4 k5 c5 k35 l4 l5 l6
  -- a thing that is no move behind them
  obtain⟨x,hx1,hx2⟩:=bU (xs:=Im) (i:=z%8) (UM _ (by decide)) (by show z%8<((8:Nat):Int);omega);have c7:(h6++[GO.lst Im])[h6.length]?=vL Im:=Qp _;refine .sq (QK (Ql (x:=.ref h6.length) (y:=.int (z%8)) (g1:=h6++[.lst Im]) (g2:=h6++[.lst Im]) rfl (Ql rfl rfl (KU (by decide))) (Ef c7 (UM _ (by decide)) hx1))) ?_;replace I:=I.keep (g1:=h6++[.lst Im]) (.push _);generalize h6++[GO.lst Im]=h7 at I ⊢;have cMr:∀{g g1:G}{q:Nat}{ps:List D},SI M g0 g q ps->Keeps [] g g1->(g1[M]?=some (ZK rows)/\g1[r]?=vL (ms.map (Q1 n)))/\M≠q/\r≠q:=λI k=>⟨⟨k.a (I.K.a cM0),k.a (I.K.a cr0)⟩,by have:=I.q0;omega,by have:=I.q0;omega⟩;have k8:Keeps [] h7 (h7++[.lst [x]]):=.push _;have a8:=YS (k8.a (cMr I .refl).1.2) (Qp _) (by simp;omega);have k9:Keeps [] (h7++[.lst [x]]) (h7++[.lst [x]]++[.lst (ms.map (Q1 n)++[x])]):=.push _;have lq:=Zf (k8.a I.cq);refine I.goA (WY rfl rfl rfl (Ql (x:=.ref r) (g1:=h7) rfl rfl a8)) (k8.trans k9) (kn.odd (cMr I (k8.trans k9)).1.1 hx2 (Qp _) (cMr I .refl).2.1 (by omega)) (by omega) λh9 ps9 I9 z9=>?_;clear k8 a8 k9 lq I c7
  -- other starts
  refine I9.go (cC (WY rfl rfl rfl rfl) (WY rfl rfl rfl rfl) (WY rfl rfl rfl rfl)) (.push _) (Qp _) (λp hp=>by
   obtain⟨⟨cM',cr'⟩,qM,qr⟩:=cMr I9 (.push (.lst [Xx ((Vb n t e:Nat)+1) (Yr nw fw (Q7 n e t)) (.ref r),Xx ((Vb n t e:Nat) - 1) (Yr nw fw (Q7 n e t)) (.ref r),Xx (-(Vb n t e:Nat)) (Yr nw fw (Q7 n e t)) (.ref r)]));rcases Ud.mp hp with rfl|hp
   ·have:=kn.start (kk:=Vb n t e+1) cM' cr' qM qr (.inl rfl);rwa[TZ]at this
   rcases Ud.mp hp with rfl|hp
   ·have:=kn.start (kk:=Vb n t e-1) cM' cr' qM qr (.inr rfl);rwa[Int.natCast_sub hk1]at this
   ·rw[Uf.mp hp];exact .any λg'=>mF (by omega)) 7 (by simp;omega) λh10 q10 ps10 I10 z10=>?_
  -- a start that is none
  obtain⟨v,hv1,hv2⟩:=bU (xs:=[D.non,.str "1",.bl true,.tup [.int 1]]) (i:=z/8%4) (UM _ (by decide)) (by show z/8%4<((4:Nat):Int);omega);refine I10.go (Y9 (Qx (WY (b:=v) (g2:=h10++[.lst [.non,.str "1",.bl true,.tup [.int 1]]]) rfl (Ql (x:=.ref h10.length) (y:=.int (z/8%4)) (g1:=h10++[.lst [.non,.str "1",.bl true,.tup [.int 1]]]) (g2:=h10++[.lst [.non,.str "1",.bl true,.tup [.int 1]]]) rfl (Ql (Ql rfl rfl (Ee (by decide) (by decide))) rfl (KU (by decide))) (Ef (Qp _) (UM _ (by decide)) hv1)) rfl rfl) rfl) rfl) ((Keeps.push _).trans (.push _)) (Qp _) (λp hp=>by
   rw[Uf.mp hp];refine .any λg'=>Ny ?_;rcases Ud.mp hv2 with rfl|hv2
   ·rfl
   rcases Ud.mp hv2 with rfl|hv2
   ·rfl
   rcases Ud.mp hv2 with rfl|hv2
   ·rfl
   ·rw[Uf.mp hv2];rfl) 8 (by simp;omega) λh12 q12 ps12 I12 z12=>?_
  -- another state,the other facing
  have d0:=UM (z/32) (show((N:Int) - 1)≠0 by omega);have d1:=U3 (z/32) (show 0<(N:Int) - 1 by omega);obtain⟨o1,o2⟩:=cD (s:=(Q7 n e t).1) (d:=z/32 % ((N:Int) - 1)) (N:=N) (by omega) (by omega) d0 d1;refine .sq (QK (d:=Jf (((Q7 n e t).1+1+z/32 % ((N:Int) - 1)) % N) (Q7 n e t).2.1 (((Q7 n e t).2.2.1.map (rT nw fw)).map Qy) (((Q7 n e t).2.2.2.map (rT nw fw)).map Qy)) (g':=h12) (Ql (x:=.tup [.int (((Q7 n e t).1+1+z/32 % ((N:Int) - 1)) % N)]) (g1:=h12) (g2:=h12) (Y9 (Qx (Ql (x:=.int ((Q7 n e t).1+1+z/32 % ((N:Int) - 1))) (y:=.int N) (g1:=h12) (g2:=h12) (Ql (x:=.int ((Q7 n e t).1+1)) (y:=.int (z/32 % ((N:Int) - 1))) (g1:=h12) (g2:=h12) rfl (Ql (x:=.int (z/32)) (y:=.int ((N:Int) - 1)) (g1:=h12) (g2:=h12) (Ql rfl rfl (Ee (by decide) (by decide))) rfl (KU (by omega))) rfl) rfl (KU (by omega))) rfl) rfl) rfl rfl)) ?_;generalize ((Q7 n e t).1+1+z/32 % ((N:Int) - 1)) % N=st' at o1 o2 ⊢;refine .sq (QK (d:=Jf (Q7 n e t).1 (!(Q7 n e t).2.1) (((Q7 n e t).2.2.1.map (rT nw fw)).map Qy) (((Q7 n e t).2.2.2.map (rT nw fw)).map Qy)) (g':=h12) (WY (g1:=h12) (g2:=h12) (g3:=h12) rfl (Ql (x:=.str "rl") (y:=.int (if (Q7 n e t).2.1 then 1 else 0)) (g1:=h12) (g2:=h12) rfl (ZC (x:=.bl (Q7 n e t).2.1) (g1:=h12) (Ql (x:=.str (fc (Q7 n e t).2.1)) (y:=.str "r") (g1:=h12) (g2:=h12) rfl rfl (by rw[Ox,M7])) rfl) (qC _ _)) rfl rfl)) ?_;obtain⟨S1,hS1⟩:∃S1,Jf st' (Q7 n e t).2.1 (((Q7 n e t).2.2.1.map (rT nw fw)).map Qy) (((Q7 n e t).2.2.2.map (rT nw fw)).map Qy)=S1:=⟨_,rfl⟩;obtain⟨S2,hS2⟩:∃S2,Jf (Q7 n e t).1 (!(Q7 n e t).2.1) (((Q7 n e t).2.2.1.map (rT nw fw)).map Qy) (((Q7 n e t).2.2.2.map (rT nw fw)).map Qy)=S2:=⟨_,rfl⟩;rw[hS1,hS2]
  -- an extra more
  obtain⟨h13,e15,k15⟩:=cB (st:=((Q7 n e t).1:Int)) (f:=(Q7 n e t).2.1) (L:=(Q7 n e t).2.2.1.map (rT nw fw)) (R:=(Q7 n e t).2.2.2.map (rT nw fw)) (g:=h12) (by rw[Ua];omega) (by rw[Ua];omega);have er:Vv (Q7 n e t).1 (fc (Q7 n e t).2.1) ((Q7 n e t).2.2.1.map (rT nw fw)) ((Q7 n e t).2.2.2.map (rT nw fw))=Yr nw fw (Q7 n (e+1) t):=by rw[<-H.rai];unfold Vv Yr E3 Jf;rw[Lg,Lg]
  rw[er]at e15;have k17:Keeps [] h12 (h13++[.lst [S1,S2,Yr nw fw (Q7 n (e+1) t)]]++[.lst ([S1,S2,Yr nw fw (Q7 n (e+1) t)].map λx=>Xx (Vb n t e:Nat) x (.ref r))]):=k15.trans ((Keeps.push _).trans (.push _));refine I12.go (NB (cC (g1:=h12) (g2:=h12) rfl rfl ((Qw (ds:=[Yr nw fw (Q7 n e t)]) (g':=h12) rfl).trans e15)) (Qp _) (by simp) rfl) k17 (Qp _) (λp hp=>by
   obtain⟨⟨cM',cr'⟩,qM,qr⟩:=cMr I12 k17;rcases Ud.mp hp with rfl|hp
   ·have:=kn.other cM' cr' qM qr o1 o2;rw[hS1]at this;exact this
   rcases Ud.mp hp with rfl|hp
   ·have:=kn.about cM' cr' qM qr;rw[hS2]at this;exact this
   ·rw[Uf.mp hp];exact kn.extra cM' cr' qM qr) 11 (by simp;omega) λh18 q18 ps18 I18 z18=>?_
  clear k17
  -- True and False in the shape
  obtain⟨y19,xs,h19,e19,k19,c19,hxs,zxs⟩:=AO (st:=((Q7 n e t).1:Int)) (f:=(Q7 n e t).2.1) (L:=(Q7 n e t).2.2.1.map (rT nw fw)) (R:=(Q7 n e t).2.2.2.map (rT nw fw)) (g:=h18) (by omega) (λu hu=>(kn.h.tks s4 u hu).ok (by decide)) (λu hu=>(kn.h.tks s5 u hu).ok (by decide)) (by rw[Ua];omega) (by rw[Ua];omega);have k20:Keeps [] h18 (h19++[.lst (xs.map λx=>Xx (Vb n t e:Nat) x (.ref r))]):=k19.trans (.push _);refine I18.go (NB ((Qw (ds:=[Yr nw fw (Q7 n e t)]) (g':=h18) rfl).trans e19) c19 (by omega) rfl) k20 (Qp _) (λp hp=>by obtain⟨u,hu,rfl⟩:=UQ.mp hp;exact .one (cMr I18 k20).1.2 (cMr I18 k20).2.2 λg' c=>bV (QX c) (hxs u hu g')) 220 (by simp;omega) λh21 q21 ps21 I21 z21=>?_;clear k20
  -- the draws
  obtain⟨σ',h22,e22,⟨x14,rfl⟩,ps22,I22,z22⟩:=Jb (t:=Qn 14) (body:=XZ) (lo:=0) (n:=ms.length) (σ:=sS ns a N z (Vb n t e:Nat) (Yr nw fw (Q7 n e t)) r (some (.ref y3)) (some (.ref q21)) (some x) (some S1) (some S2) none) (g:=h21)
   (λi σ g'=>(∃x14,σ=sS ns a N z (Vb n t e:Nat) (Yr nw fw (Q7 n e t)) r (some (.ref y3)) (some (.ref q21)) (some x) (some S1) (some S2) x14)/\∃ps',SI M g0 g' q21 ps'/\ps'.length<=220+i) ⟨⟨none,rfl⟩,ps21,I21,by omega⟩ (λi σ g' hi hQ=>by obtain⟨⟨x14,rfl⟩,ps',I',z'⟩:=hQ;obtain⟨ps2,g2,e2,I2,z2⟩:=gV (i:=i) (σ:=sS ns a N z (Vb n t e:Nat) (Yr nw fw (Q7 n e t)) r (some (.ref y3)) (some (.ref q21)) (some x) (some S1) (some S2) (some (.int i))) kn cM0 cr0 (λ_=>rfl) (λ_=>rfl) (λ_=>rfl) (λ_=>rfl) (λ_=>rfl) (λ_=>rfl) I' hi (by omega);exact⟨_,_,g2,rfl,by rw[TY];exact e2,⟨_,rfl⟩,ps2,I2,by omega⟩)
  refine .sq ((Yv (YI (n:=ms.length) (ZC (x:=.ref r) (g1:=h21) rfl (by rw[ET (QX (cMr I21 .refl).1.2),Ua])) (Xr (by omega)))).trans e22) ?_
  -- a shape that is none
  obtain⟨w,h23,e23,k23,b23⟩:=gN (st:=((Q7 n e t).1:Int)) (q:=z/64) (f:=fc (Q7 n e t).2.1) (L:=.tup (((Q7 n e t).2.2.1.map (rT nw fw)).map Qy)) (R:=.tup (((Q7 n e t).2.2.2.map (rT nw fw)).map Qy)) (g:=h22) (by omega) (by omega) (fc.lr _) (λ_=>rfl) (λ_=>rfl) (λu hu=>(kn.h.tks s4 u hu).ok (by decide)) (λu hu=>(kn.h.tks s5 u hu).ok (by decide)) (by rw[Ua];omega) (by rw[Ua];omega);have lq21:=Zf I22.cq;refine I22.goA (WY (g2:=h22) (g3:=h23) rfl rfl ((Qw (ds:=[.int (z/64),Yr nw fw (Q7 n e t)]) (g':=h22) (Qx (Ql rfl rfl (Ee (by decide) (by decide))) rfl)).trans e23) rfl) k23
   ⟨λi o=>(i=r/\o=.lst (ms.map (Q1 n)))\/(h22.length<=i/\h23[i]?=some o),λg' hc=>bV (QX (hc _ _ (.inl ⟨rfl,rfl⟩))) (b23 g' λi o hi h=>hc i o (.inr ⟨hi,h⟩)),λi o hc=>by
    rcases hc with⟨h1,h2⟩|⟨h1,h2⟩
    ·subst h1;subst h2;exact⟨(cMr I22 k23).1.2,(cMr I22 k23).2.2⟩
    ·exact⟨h2,by omega⟩⟩ (by omega) λh24 ps24 I24 z24=>?_
  -- papers that are none
  refine I24.go rfl (.push _) (Qp _) (λp hp=>by
   rcases Ud.mp hp with rfl|hp
   ·exact .any λg'=>Nz rfl
   rcases Ud.mp hp with rfl|hp
   ·exact .any λg'=>Nz rfl
   rcases Ud.mp hp with rfl|hp
   ·exact .any λg'=>uY
   ·rw[Uf.mp hp];exact .any λg'=>uX) 310 (by simp;omega) λh25 q25 ps25 I25 z25=>?_
  have l26:=Zf I25.cq;obtain⟨e27,I27⟩:=I25.ext (σ:=sS ns a N z (Vb n t e:Nat) (Yr nw fw (Q7 n e t)) r (some (.ref y3)) (some (.ref q25)) (some x) (some S1) (some S2) x14) (E:=Qt Ym (Qb (Qt QC (Qb (Qa 5) (Qb (Qa 6) (Qb (Qa 7) (Qb (Qa 8) (Qb (mI 0) Qi)))))) (Qb (Qt QC (Qb (Qq (.str "grown")) (Qb (Qa 6) (Qb (Qa 7) (Qb (Qa 8) Qi))))) (Qb (Qv VT (Qa 2)) (Qb (Qq .non) (Qb (Qq (.str "grow")) (Qb (mI 7) Qi))))))) rfl rfl ((Keeps.push _).trans (.push _)) (Qp _) (λp hp=>by
   rcases Ud.mp hp with rfl|hp
   ·exact .any λg'=>uZ
   rcases Ud.mp hp with rfl|hp
   ·exact .any λg'=>gR
   rcases Ud.mp hp with rfl|hp
   ·exact .one ((Keeps.push (S:=[]) _).a (Qp _)) (by omega) λg' c=>gQ c
   rcases Ud.mp hp with rfl|hp
   ·exact .any λg'=>mC
   rcases Ud.mp hp with rfl|hp
   ·exact .any λg'=>mD
   ·rw[Uf.mp hp];exact .any λg'=>mE) (by simp;omega)
  exact⟨_,_,ZP e27,hQ _ _ ⟨_,_,rfl,I27⟩⟩
 obtain⟨_,g',eb,q,ps,rfl,I⟩:=hE;exact⟨q,ps,g',Zb rfl eb,kp0.trans I.K.all,I.K.a ga0,I.cq,I.all,I.z⟩
end
section
variable{rows rows2:List (List D)}{n N m:Nat}{nw fw:List Int}
def mS(rows2 rows:List (List D)):Prop:=∀st s,en rows2 st s=none\/en rows2 st s=en rows st s
theorem qD(T:Tbl rows N m)(h2:2<N)(h1:1<m):mS (wr rows 2 1 .non) rows/\en (wr rows 2 1 .non) 2 1=none:=by
 refine⟨λst s=>?_,E4 (d:=.non) T h2 h1 2 1⟩;have e:=E4 (d:=.non) T h2 h1 st.toNat s.toNat;have c:∀R:List (List D),en R (st.toNat:Int) (s.toNat:Int)=en R st s:=λR=>by unfold en;rw[UR,UR]
 rw[c,c]at e;rw[e];split
 ·exact .inl rfl
 ·exact .inr rfl
theorem cE(h:mS rows2 rows):∀(f:Nat)(c:List Int)(p cur:Int),Hq rows2 f c p cur=none\/Hq rows2 f c p cur=Hq rows f c p cur
 |0,_,_,_=>.inl rfl|f+1,c,p,cur=>by
  unfold Hq;rcases h cur (c[p.toNat]?.getD 0) with e|e
  ·rw[e];exact .inl rfl
  ·rw[e];cases en rows cur (c[p.toNat]?.getD 0) with
   |none=>exact .inl rfl|some v=>
    obtain⟨a,w,s⟩:=v;dsimp only;split
    ·exact cE h f _ _ _
    ·exact .inr rfl
theorem cF(h:mS rows2 rows)(st:Int)(b:Bool)(L R:List Tk):VM rows2 st b L R=none\/VM rows2 st b L R=VM rows st b L R:=by
 have hs:∀s,cT rows2 st b L R s=none\/cT rows2 st b L R s=cT rows st b L R s:=λs=>by
  unfold cT;rcases h st s with e|e
  ·rw[e];exact .inl rfl
  ·rw[e];exact .inr rfl
 unfold VM;cases Ap b L R with
 |none=>exact hs 0|some t=>cases t with
  |one s=>exact hs s|many w k=>exact .inl rfl
theorem cG(h:mS rows2 rows)(st:Int)(b:Bool)(L R:List Tk):BW rows2 st b L R=none\/BW rows2 st b L R=BW rows st b L R:=by
 unfold BW;cases Ap b L R with
 |none=>exact .inl rfl|some t=>cases t with
  |one s=>exact .inl rfl|many w k=>
   dsimp only;rcases cE h 1000 w (OA b w) st with e|e
   ·rw[e];exact .inl rfl
   ·rw[e];exact .inr rfl
theorem gW(h:Rl rows n N m nw fw)(T2:Tbl rows2 N m)(le:mS rows2 rows){b M M2:Nat}{s s':Sa}{mv:Mo}{g:G}(hb:b<=100)(o:BD n b s=true)(hm:GG n b s mv=some s')(c1:g[M]?=some (ZK rows))(c2:g[M2]?=some (ZK rows2)):
  ∃g',Keeps [] g g'/\(QR [.ref M2,Yr nw fw s,Q1 n mv] g=.raise (8,none) g'\/QR [.ref M2,Yr nw fw s,Q1 n mv] g=.ok (Yr nw fw s') g'):=by
 obtain⟨g1,k1,e1⟩:=Sf h hb o hm g M c1;have oo:=okA_iff.mp o;have hN:=h.nN;obtain⟨st,w,L,R⟩:=s;obtain⟨o1,o2,o3,o4,o5⟩:=oo;dsimp only at o1 o2 o3 o4 o5;cases mv with
 |step=>
  have p1:=JN (st:=(st:Int)) (b:=w) c1 h.T (by omega) (by omega) (h.tks o4) (h.tks o5) (by simp;omega);have p2:=JN (st:=(st:Int)) (b:=w) c2 T2 (by omega) (by omega) (h.tks o4) (h.tks o5) (by simp;omega);refine⟨g,.refl,?_⟩;rw[am_step]at e1;have e1:=p1.symm.trans e1;rcases cF le st w (L.map (rT nw fw)) (R.map (rT nw fw)) with q|q
  ·rw[q]at p2;exact .inl (am_step.trans p2)
  ·rw[q]at p2;cases hq:VM rows st w (L.map (rT nw fw)) (R.map (rT nw fw)) with
   |none=>rw[hq]at p2;exact .inl (am_step.trans p2)|some d =>rw[hq]at p2 e1;injection e1 with e1 _;rw[e1]at p2;exact .inr (am_step.trans p2)
 |over=>
  obtain⟨g2,k2,p1⟩:=X2 (st:=(st:Int)) (b:=w) c1 h.T (by omega) (by omega) (h.tks o4) (h.tks o5) (by simp;omega);obtain⟨g3,k3,p2⟩:=X2 (st:=(st:Int)) (b:=w) c2 T2 (by omega) (by omega) (h.tks o4) (h.tks o5) (by simp;omega);refine⟨g3,k3,?_⟩;rw[am_over]at e1;have e1:=p1.symm.trans e1;rcases cG le st w (L.map (rT nw fw)) (R.map (rT nw fw)) with q|q
  ·rw[q]at p2;exact .inl (am_over.trans p2)
  ·rw[q]at p2;cases hq:BW rows st w (L.map (rT nw fw)) (R.map (rT nw fw)) with
   |none=>rw[hq]at p2;exact .inl (am_over.trans p2)|some d =>rw[hq]at p2 e1;injection e1 with e1 _;rw[e1]at p2;exact .inr (am_over.trans p2)
 |draw =>have he:∀s,Z5 (Q1 n .draw) (.tup [.str s]) g=.ok (.bl false) g:=λs=>L8;rw[Ba he]at e1;exact⟨g1,k1,.inr ((Ba he).trans e1)⟩
 |ends pad sd =>have he:∀s,Z5 (Q1 n (.ends pad sd)) (.tup [.str s]) g=.ok (.bl false) g:=λs=>L7;rw[Ba he]at e1;exact⟨g1,k1,.inr ((Ba he).trans e1)⟩
theorem gX{e t b:Nat}{ms:List Mo}(kn:Kn rows n N m nw fw e t b ms)(T2:Tbl rows2 N m)(le:mS rows2 rows)(h21:en rows2 2 1=none){M M2 k r:Nat}{g:G}(c1:g[M]?=some (ZK rows))(c2:g[M2]?=some (ZK rows2))(cr:g[r]?=vL (ms.map (Q1 n))):TF M2 (Xx k (Yr nw fw (Q7 n e t)) (.ref r)) g:=by
 have hb:=kn.hb;obtain⟨s1,s2,s3,s4,s5⟩:=kn.sh;obtain⟨r1,r2,x,hms,h1,hx1,hx2⟩:=kn.R.2.2.2;obtain⟨g1,k1,e1,e2⟩:=bJ (S:=Yr nw fw (Q7 n e t)) (st:=((Q7 n e t).1:Int)) (b:=(Q7 n e t).2.1) c2 T2 (by decide:6<=12) rfl ⟨by omega,by omega⟩ rfl rfl (kn.h.tks s4) (kn.h.tks s5) (by simp;omega) (by simp;omega);obtain⟨g2,k2,e3⟩:=Ma (M:=M2) (QX cr) (λi d=>i<=r1.length/\∃z,CM n b (Q7 n e t) (r1.take i)=some z/\d=Yr nw fw z) ⟨RT _,Q7 n e t,rfl,rfl⟩ k1 e1 e2 (λi d v g' k' hv hI=>by
  obtain⟨hi,z,hz,rfl⟩:=hI;have c1':=k'.a c1;have c2':=k'.a c2;rw[hms,UB,Ti]at hv;by_cases he:i=r1.length
  ·subst he;rw[UO,h1]at hz;cases hz;rw[Ux (by simp),Ua,WR]at hv;cases hv;have oz:=okA_iff.mp (Tm _ kn.o h1);obtain⟨st,w,L,R⟩:=x;obtain⟨o1,o2,o3,o4,o5⟩:=oz;have hx1:st=2:=hx1;subst hx1;dsimp only at o1 o2 o3 o4 o5;have hN:=kn.h.nN;have p2:=JN (st:=((2:Nat):Int)) (b:=w) c2' T2 (by omega) (by omega) (kn.h.tks o4) (kn.h.tks o5) (by simp;omega);have ah:=aV (nw:=nw) (fw:=fw) (2,w,L,R);rw[hx2]at ah;have q:VM rows2 ((2:Nat):Int) w (L.map (rT nw fw)) (R.map (rT nw fw))=none:=by unfold VM;rw[ah];show(en rows2 2 1).map _=none;rw[h21];rfl
   rw[q]at p2;exact⟨g',.refl,.inl (am_step.trans p2)⟩
  ·have hi':i<r1.length:=by omega
   rw[Ut (by simpa using hi'),UA,Uj hi']at hv;cases hv;have hs:CM n b (Q7 n e t) (r1.take i++r1.drop i)=some x:=by rw[UW];exact h1
   rw[JD,hz,US,Tr hi']at hs;obtain⟨z',hz',_⟩:=UN.mp hs;obtain⟨g2,k2,e⟩:=gW kn.h T2 le (by omega) (Tm _ kn.o hz) hz' c1' c2';refine⟨g2,k2,e.imp id λe=>⟨_,e,by omega,z',?_,rfl⟩⟩;rw[Uq hi',JD,hz,US];show(GG n b z r1[i]).bind _=_;rw[hz'];rfl)
 rcases e3 with e|⟨d,_,hI,_⟩
 ·exact E7 (Bb (QX cr)) (.inr rfl) k2 e
 ·rw[hms]at hI;simp at hI;omega
end
theorem cH(T:Tb rows n m)(ht:tabOf N0 g tt rows)(hv:Qa 2 σ g=.ok (.ref tt) g):
  ∃q g',ZQ (QQ (Qa 2)) 1 [] (Qn 0) Yb (Qv VT (Qa 0)) σ g=.ok (.ref q) g'/\Keeps [] g g'/\Tw g.length g' q rows n m:=by
 obtain⟨_,ds,t1,t2,t3⟩:=ht;obtain⟨src,s1,s2,s3⟩:=Xq (QX t1);obtain⟨ls,g1,c1,k1,l1,nd,p1⟩:=An (src:=src) (ds:=ds) (e:=Qv VT (Qa 0)) (g:=g) (σc:=[]) (rows':=rows) s2 (λg1 i k=>s3 g1 i (QX (k.a t1))) t2.symm (λi d r hd hr g1 k=>by obtain⟨x,rfl,_,_,h⟩:=t3 i d r hd hr;exact ZC (x:=.ref x) (g1:=g1) rfl (HF (QX (k.a h))));have c2:=JC (it:=QQ (Qa 2)) (n:=1) (cap:=[]) (σ:=σ) (σ0:=[none]) (g:=g) (src:=src) (by unfold QQ;rw[hv,Res.bind_ok];exact s1) (by rw[s2,t2,T.len];exact UP (Jr (by have:=T.n12;omega))) rfl c1;refine⟨g1.length,_,c2,k1.trans (.push _),⟨⟨k1.len,ls.map .ref,Qp _,by rw[Ua,l1],λi x r hx hr=>?_⟩,⟨ls.map .ref,Qp _,?_⟩,⟨T.n0,T.m0,T.len,T.row,T.ent⟩⟩⟩
 ·rw[UA]at hx;cases hi:ls[i]? with
  |none=>rw[hi]at hx;cases hx|some j =>rw[hi]at hx;cases hx;obtain⟨q1,q2,q3⟩:=p1 i j r hi hr;exact⟨j,rfl,q1,by omega,(Keeps.push (S:=[]) _).a q3⟩
 ·rw[List.nodup_iff_pairwise_ne]at nd ⊢;rw[List.pairwise_map];exact nd.imp λh z=>h (by cases z;rfl)
theorem AS(ns:List Int)(ga:g[a]?=vL [.int k])(hk:0<=k)(hk2:k<400000000):
  ∃k' g',FF [.fl (ns.map .int),.ref a] g=.ok (.bl true) g'/\k<=k'/\k'<=k+200/\g'[a]?=vL [.int k']:=by
 obtain⟨n,N,m,nw,fw,rows,tt,q,k1,g1,e1,kp1,ga1,b1,h,T,ht1,hq1,hqg⟩:=ON ns ga hk (by omega);have al:=Zf ga;obtain⟨e,t,b,ms,r,rd,k2,g2,he,htn,hb,e2,kp2,ga2,b2,o,R,hr2,hrd2⟩:=bH h T ns ga1 (by omega) (by omega) ht1 al hq1 (by omega);have ht2:=ht1.mono kp2 (by simpa using al);have kn:Kn rows n N m nw fw e t b ms:=⟨h,T,he,htn,hb,o,R⟩;have H:=kn.hk;obtain⟨P,hP⟩:∃P,P=Xx (Vb n t e:Nat) (Yr nw fw (Q7 n e t)) (.ref r):=⟨_,rfl⟩;have e2':Qe QB (Qu Cr (Qb (Qa 0) (Qb (Qa 1) (Qb (Qa 2) (Qb (Qa 3) (Qb (Qa 4) Qi)))))) (mI 0) [vF ns,vR a,vR tt,vT (nw.map .int),vR q,none,none,none,none] g1=.ok P g2:=by rw[hP];exact Ql (y:=.int 0) (g2:=g2) ((Qw (ds:=[.fl (ns.map .int),.ref a,.ref tt,.tup (nw.map .int),.ref q]) (g':=g1) rfl).trans e2) rfl rfl
 obtain⟨g3,kp3,e3,hM3⟩:=OO (e:=Qb (Qa 2) Qi) (σ:=[vF ns,vR a,vR tt,vT (nw.map .int),vR q,some P,none,none,none]) (g0:=g2) T ht2 rfl;generalize g2.length=M at e3 hM3;have ga3:=kp3.a ga2;have hr3:=kp3.a hr2;have ne:∀{i:Nat}{x:GO},g3[i]?=some x->x≠.lst [.int k2]->i≠a:=λhi hx z=>by subst z;rw[ga3]at hi;cases hi;exact hx rfl
 have hMa:M≠a:=ne hM3 (by intro z;cases z);have hra:r≠a:=ne hr3 λz=>by
  have:=R.2.1;cases ms with
  |nil=>cases this|cons x xs=>cases x<;>cases z
 have hne:(Q7 n e t).2.1=false->Zg n 0 (Q7 n e t).2.2.1≠[]:=λ_=>H.lne;obtain⟨g4,kp4,e4⟩:=Nv h T (by omega) o hM3 (ShIn.sh g3 (Q7 n e t)) (QX hr3) kn.rt R.2.1 (by have:=H.k2;omega) H.run hne;have e4:ZY [.ref M,P] g3=.ok (.bl true) g4:=by rw[hP];exact e4
 have hM4:=kp4.a hM3;have hr4:=kp4.a hr3;obtain⟨q5,ps,g5,e5,kp5,ga5,c5,pa5,z5⟩:=AR ns kn hM4 hr4 (kp4.a ga3) (by omega) (by omega) hMa hra;rw[<-hP]at e5;have ht4:=(ht2.mono kp3 (by simp)).mono kp4 (by simp);have hN:Qv Zr (Qa 2) [vF ns,vR a,vR tt,vT (nw.map .int),vR q,some P,vR M,none,none] g4=.ok (.int N) g4:=by obtain⟨_,ds,t1,t2,_⟩:=ht4;exact ZC (x:=.ref tt) (g1:=g4) rfl (by rw[ET (QX t1),t2,T.len])
 have hM5:=kp5.at' M _ (by simpa using hMa) hM4;have hr5:=kp5.at' r _ (by simpa using hra) hr4;have ht5:=ht4.mono kp5 (by simpa using al);obtain⟨src,s1,s2,s3⟩:=Xq (QX c5);obtain⟨σ',g6,e6,⟨x7,rfl⟩,kp6⟩:=KT (src:=src) (t:=Qn 7) (body:=KS) (n:=ps.length) (σ:=[vF ns,vR a,vR tt,vT (nw.map .int),vR q,some P,vR M,none,none]) (g:=g5) s2
  (λi σ g'=>(∃x7,σ=[vF ns,vR a,vR tt,vT (nw.map .int),vR q,some P,vR M,x7,none])/\Keeps [] g5 g') ⟨⟨none,rfl⟩,.refl⟩ (λi σ g' hi hQ=>by obtain⟨⟨x7,rfl⟩,k'⟩:=hQ;obtain⟨C,hC1,hC2⟩:=pa5 _ (UK hi);obtain⟨g2',k2',e'⟩:=hC1 g' λi o hc=>k'.a (hC2 i o hc).1;refine⟨ps[i],_,[vF ns,vR a,vR tt,vT (nw.map .int),vR q,some P,vR M,some ps[i],none],g2',by rw[s3 _ _ (QX (k'.a c5))];simp[hi],rfl,?_,⟨_,rfl⟩,k'.trans k2'⟩;unfold KS;exact Jh g2' (Q3 (Ql (x:=.bl false) (y:=.bl false) (g1:=g2') (g2:=g2') ((Qw (ds:=[.ref M,ps[i]]) (g':=g') rfl).trans e') rfl rfl)) rfl) (λσ g' hQ=>by rw[s3 _ _ (QX (hQ.2.a c5))];simp)
 have hM6:=kp6.a hM5;have hr6:=kp6.a hr5;have ga6:=kp6.a ga5
 -- the stopped machine
 obtain⟨q7,g7,e7,kp7,tw7⟩:=cH (σ:=[vF ns,vR a,vR tt,vT (nw.map .int),vR q,some P,vR M,x7,none]) T (ht5.mono kp6 (by simp)) rfl;have hN2:2<N:=by have:=h.nN;have:=h.B.n0;omega
 have hm1:1<m:=by have:=(h.rng 1 (by omega)).2;have e:ph nw fw 1=1:=rfl;rw[e]at this;omega
 obtain⟨x,e8,lx,tw8⟩:=tw7.put (p:=2) (q:=1) (d:=.non) (σ:=[vF ns,vR a,vR tt,vT (nw.map .int),vR q,some P,vR M,x7,vR q7]) (o:=Qe QB (Qa 8) (mI 2)) (i:=Qq (.int 1)) (v:=Qq .non) (g:=g7) hN2 hm1 (.inl rfl) rfl (λx hx=>Ql (x:=.ref q7) (y:=.int 2) (g1:=g7) (g2:=g7) rfl rfl hx) rfl;have kp8:Keeps [] g6 (g7.set x (.lst ((rows[2]?.getD []).set 1 .non))):=⟨by rw[UH];exact kp7.len,λi o _ hi=>by have:=Zf hi;rw[Ul (by omega)];exact kp7.a hi⟩;generalize g7.set x (.lst ((rows[2]?.getD []).set 1 .non))=g8 at e8 tw8 kp8;have T2:Tb (wr rows 2 1 .non) N m:=⟨tw8.T.n0,tw8.T.m0,T.n12,T.m8,tw8.T.len,tw8.T.row,tw8.T.ent⟩;obtain⟨g9,kp9,e9,hM9⟩:=OO (e:=Qb (Qa 8) Qi) (σ:=[vF ns,vR a,vR tt,vT (nw.map .int),vR q,some P,vR M,x7,vR q7]) (g0:=g8) T2 tw8.tab rfl;generalize g8.length=M2 at e9 hM9;have K9:=kp8.trans kp9;obtain⟨le,h21⟩:=qD h.T hN2 hm1;obtain⟨g10,kp10,e10⟩:=gX (k:=Vb n t e) kn tw8.T le h21 (K9.a hM6) hM9 (K9.a hr6);have e10:ZY [.ref M2,P] g9=.ok (.bl false) g10:=by rw[hP];exact e10
 have K10:=K9.trans kp10;obtain⟨g11,kp11,e11⟩:=Nv h T (by omega) o (K10.a hM6) (ShIn.sh g10 (Q7 n e t)) (QX (K10.a hr6)) kn.rt R.2.1 (by have:=H.k2;omega) H.run hne;have e11:ZY [.ref M,P] g10=.ok (.bl true) g11:=by rw[hP];exact e11
 refine⟨k2+1,g11,Zb rfl ?_,by omega,by omega,kp11.a (K10.a ga6)⟩;show FE [vF ns,vR a,none,none,none,none,none,none,none] g=_;unfold FE;refine Qr [vF ns,vR a,vR tt,vT (nw.map .int),vR q,none,none,none,none] g1 (by unfold QF;rw[(Qw (ds:=[.fl (ns.map .int),.ref a]) (g':=g) rfl).trans e1];rfl) ?_;refine Qr [vF ns,vR a,vR tt,vT (nw.map .int),vR q,some P,none,none,none] g2 (QK e2') ?_;refine Qr [vF ns,vR a,vR tt,vT (nw.map .int),vR q,some P,vR M,none,none] g3 (QK e3) ?_;refine Qr _ g4 (Jh g4 (Q3 (Ql (x:=.bl true) (y:=.bl true) (g1:=g4) (g2:=g4) ((Qw (ds:=[.ref M,P]) (g':=g3) rfl).trans e4) rfl rfl)) rfl) ?_;refine Qr _ g6 ((Yv (src:=src) (g':=g5) (by unfold QQ;rw[(Qw (ds:=[.fl (ns.map .int),.ref a,P,.int N]) (g':=g4) (Qx (g1:=g4) rfl (Qx (g1:=g4) rfl (Qx (g1:=g4) rfl (Qx hN rfl))))).trans e5,Res.bind_ok];exact s1)).trans e6) ?_;refine Qr _ g7 (QK e7) ?_;refine Qr _ g8 e8 ?_;refine Qr _ g10 (Jh g10 (Q3 (Ql (x:=.bl false) (y:=.bl false) (g1:=g10) (g2:=g10) ((Qw (ds:=[.ref M2,P]) (g':=g9) (Qx e9 rfl)).trans e10) rfl rfl)) rfl) ?_;exact ZP (Ql (x:=.bl true) (y:=.bl true) (g1:=g11) (g2:=g11) ((Qw (ds:=[.ref M,P]) (g':=g10) rfl).trans e11) rfl rfl)
theorem law_true(ns:List Int)(hn:ns.length<=63):∃g',PP [.fl (ns.map .int)] []=.ok (.bl true) g':=by
 have hc:(Yc (ns.map D.int) none (some 60)).length<=60:=by unfold Yc;rw[UZ];show min (min (60:Int).toNat (ns.map D.int).length-0) _<=60;have:(60:Int).toNat=60:=rfl;omega
 generalize hm:(Yc (ns.map D.int) none (some 60)).length=m at hc;have e1:Qe QD (mI 1) (Qe Yw (Qv Zr (QM (Qa 0) QE (QZ (mI 60)))) (mI 40)) [vF ns,vR 0,none] [.lst [.int 0]]=.ok (.int ((1+m/40:Nat):Int)) [.lst [.int 0],.lst (Yc (ns.map D.int) none (some 60))]:=by
  have el:Qv Zr (QM (Qa 0) QE (QZ (mI 60))) [vF ns,vR 0,none] [.lst [.int 0]]=.ok (.int m) [.lst [.int 0],.lst (Yc (ns.map D.int) none (some 60))]:=by rw[<-hm];rfl
  refine Ql (x:=.int 1) (y:=.int ((m:Int) / 40)) (g1:=[.lst [.int 0]]) rfl (Ql el rfl (Ee (by decide) (by decide))) ?_;show Res.ok (D.int (1+(m:Int) / 40)) _=_;rw[show(1+(m:Int) / 40)=((1+m/40:Nat):Int) by omega]
 obtain⟨σ',g',e2,⟨y,i1⟩,k',i2,i3,i4⟩:=Jb (t:=Qn 2) (body:=Hf) (lo:=0) (n:=1+m/40) (σ:=[vF ns,vR 0,none]) (g:=[.lst [.int 0],.lst (Yc (ns.map D.int) none (some 60))])
  (λi σ g=>(∃y,σ=[vF ns,vR 0,y])/\∃k:Int,g[0]?=vL [.int k]/\0<=k/\k<=200*i) ⟨⟨none,rfl⟩,0,rfl,by omega,by omega⟩ (λi σ g hi hQ=>by obtain⟨⟨y,i1⟩,k,i2,i3,i4⟩:=hQ;subst i1;obtain⟨k',g',e,b1,b2,b3⟩:=AS ns i2 i3 (by omega);refine⟨[vF ns,vR 0,vI (0+i)],[vF ns,vR 0,vI (0+i)],g',rfl,?_,⟨_,rfl⟩,k',b3,by omega,by omega⟩;unfold Hf;exact Jh g' (FH (Q3 (by rw[Qw (ds:=[.fl (ns.map .int),.ref 0]) (g':=g) rfl];exact e))) rfl)
 subst i1;refine⟨g',Zb rfl ?_⟩;show DY [vF ns,none,none] []=_;unfold DY;exact Qr [vF ns,vR 0,none] [.lst [.int 0]] rfl (Qr _ g' ((Yv (YI e1 (Xr (by omega)))).trans e2) rfl)
end L3
namespace V
open PySem PySem.Spec PyProof.Rows L2 L3
theorem Q2{N P:List Str}{sc:Scope}(h1:sc.kind=.function:=by rfl)(h2:sc.isCoroutine=false:=by rfl)(h3:sc.isGenerator=false:=by rfl)(h4:N.Nodup:=by decide +kernel)(h5:N.take P.length=P:=by rfl)(h6:∀x∈P,sc.names.lookup x=some .local\/sc.names.lookup x=some .cell:=by decide +kernel)(h7:∀y∈sc.names,y.2≠.free:=by decide +kernel):FnScope N P sc:=⟨h1,h2,h3,h4,h5,h6,h7⟩
noncomputable def top(i:Nat):Stmt:=PySem.Challenge.pw_tapeproof_k44_grow_not_taken.main.body.getD i (.Pass ⟨0,0,0,0⟩)
abbrev Ek:Stmt:=top 6
abbrev OT:List Str:=["value"]
theorem NC:FnScope OT ["value"] (Qm Ek):=Q2
abbrev El:Stmt:=top 7
abbrev OU:List Str:=["value","many"]
theorem ND:FnScope OU ["value","many"] (Qm El):=Q2
abbrev Em:Stmt:=top 13
abbrev OV:List Str:=["thing","states","signs"]
theorem NE:FnScope OV ["thing","states","signs"] (Qm Em):=Q2
abbrev Vw:Stmt:=top 14
abbrev E9:List Str:=["rows","states","signs","row"]
theorem X3:FnScope E9 ["rows"] (Qm Vw):=Q2
abbrev YA:Stmt:=XT (top 15) 0
abbrev B6:List Str:=["self","table","rows"]
theorem Bt:FnScope B6 ["self","table"] (Qm YA):=Q2
abbrev HG:Stmt:=top 68
abbrev cI:List Str:=["_law_script","_law_at","_law_cell","_law_m"]
theorem CA:FnScope cI ["_law_script","_law_at"] (Qm HG):=Q2
abbrev FL:Stmt:=top 69
abbrev AT:List Str:=["_law_script","_law_at","_law_states","_law_signs","_law_table_here","_law_k","_law_line","_law_j","_law_m","_law_entry"]
theorem Js:FnScope AT ["_law_script","_law_at","_law_states","_law_signs"] (Qm FL):=Q2
abbrev J8:Stmt:=top 70
abbrev V2:List Str:=["_law_script","_law_at","_law_m","_law_many","_law_letters","_law_far","_law_turn","_law_word","_law_signs","_law_table_here","_law_k","_law_entry","_law_steps","_law_moves"]
theorem Zn:FnScope V2 ["_law_script","_law_at"] (Qm J8):=Q2
abbrev Vg:Stmt:=top 71
abbrev Gp:List Str:=["_law_moves","_law_size","_law_count","_law_steps","_law_move"]
theorem YX:FnScope Gp ["_law_moves","_law_size","_law_count"] (Qm Vg):=Q2
abbrev FM:Stmt:=top 72
abbrev AU:List Str:=["_law_moves","_law_ahead","_law_size","_law_extra_here","_law_steps","_law_count"]
theorem Be:FnScope AU ["_law_moves","_law_ahead","_law_size","_law_extra_here"] (Qm FM):=Q2
abbrev JJ:Stmt:=top 49
abbrev CG:List Str:=["shape","tokens"]
theorem B7:FnScope CG ["shape","tokens"] (Qm JJ):=Q2
abbrev FN:Stmt:=top 50
abbrev AV:List Str:=["shape","state","way","token","rest"]
theorem HH:FnScope AV ["shape","state","way","token"] (Qm FN):=Q2
abbrev WZ:Stmt:=top 47
abbrev Io:List Str:=["shape","tokens"]
theorem B8:FnScope Io ["shape"] (Qm WZ):=Q2
abbrev Bg:Stmt:=top 48
abbrev Mc:List Str:=["shape","token"]
theorem CN:FnScope Mc ["shape"] (Qm Bg):=Q2
abbrev W0:Stmt:=top 52
abbrev Ip:List Str:=["machine","state","facing","word","cells","at","current","step","entry"]
theorem Yg:FnScope Ip ["machine","state","facing","word"] (Qm W0):=Q2
abbrev Bh:Stmt:=top 53
abbrev Md:List Str:=["machine","shape","many","word"]
theorem W9:FnScope Md ["machine","shape"] (Qm Bh):=Q2
abbrev Eo:Stmt:=top 58
abbrev OW:List Str:=["tokens","word","side","blank"]
theorem Gc:FnScope OW ["tokens","word","side"] (Qm Eo):=Q2
abbrev Vh:Stmt:=top 55
abbrev Gq:List Str:=["tokens","side","at","place"]
theorem Ky:FnScope Gq ["tokens","side","at"] (Qm Vh):=Q2
abbrev CB:Stmt:=top 46
abbrev Lj:List Str:=["word"]
theorem OX:FnScope Lj ["word"] (Qm CB):=Q2
abbrev VO:Stmt:=top 30
abbrev HI:List Str:=["token"]
theorem Gr:FnScope HI ["token"] (Qm VO):=Q2
abbrev Jt:Stmt:=top 56
abbrev B9:List Str:=["tokens","place","rightwards","many","first","behind"]
theorem YC:FnScope B9 ["tokens","place","rightwards"] (Qm Jt):=Q2
abbrev Ca:Stmt:=top 59
abbrev NF:List Str:=["tokens","word","side","at","place"]
theorem Fa:FnScope NF ["tokens","word","side","at"] (Qm Ca):=Q2
abbrev Ju:Stmt:=top 60
abbrev Cb:List Str:=["shape","move","side","tokens","put"]
theorem Z7:FnScope Cb ["shape","move"] (Qm Ju):=Q2
abbrev Bi:Stmt:=top 51
abbrev Me:List Str:=["machine","shape","token","entry"]
theorem Ka:FnScope Me ["machine","shape"] (Qm Bi):=Q2
abbrev Bj:Stmt:=top 61
abbrev Mf:List Str:=["machine","shape","move"]
theorem Iq:FnScope Mf ["machine","shape","move"] (Qm Bj):=Q2
abbrev XJ:Stmt:=top 8
abbrev FO:List Str:=["value"]
theorem Fb:FnScope FO ["value"] (Qm XJ):=Q2
abbrev CC:Stmt:=top 24
abbrev Lk:List Str:=["thing"]
theorem OY:FnScope Lk ["thing"] (Qm CC):=Q2
abbrev Ep:Stmt:=top 25
abbrev OZ:List Str:=["thing"]
theorem NG:FnScope OZ ["thing"] (Qm Ep):=Q2
abbrev Xu:Stmt:=top 26
abbrev Cc:List Str:=["tokens"]
theorem Gs:FnScope Cc ["tokens"] (Qm Xu):=Q2
abbrev Kb:Stmt:=top 27
abbrev Ir:List Str:=["shape"]
theorem HJ:FnScope Ir ["shape"] (Qm Kb):=Q2
abbrev Er:Stmt:=top 43
abbrev O0:List Str:=["token"]
theorem NH:FnScope O0 ["token"] (Qm Er):=Q2
abbrev Es:Stmt:=top 17
abbrev O1:List Str:=["machine"]
theorem NI:FnScope O1 ["machine"] (Qm Es):=Q2
abbrev Cd:Stmt:=top 16
abbrev NJ:List Str:=["machine"]
theorem Mg:FnScope NJ ["machine"] (Qm Cd):=Q2
abbrev XL:Stmt:=top 44
abbrev FP:List Str:=["machine","shape","signs","tokens","token"]
theorem Jg:FnScope FP ["machine","shape"] (Qm XL):=Q2
abbrev Kc:Stmt:=top 45
abbrev Iu:List Str:=["shape"]
theorem HK:FnScope Iu ["shape"] (Qm Kc):=Q2
abbrev Mh:Stmt:=top 62
abbrev gY:List Str:=["machine","shape","move"]
theorem cJ:FnScope gY ["machine","shape","move"] (Qm Mh):=Q2
abbrev FQ:Stmt:=top 73
abbrev AW:List Str:=["_law_script","_law_at","_law_table_here","_law_word","_law_moves","_law_m","_law_extra_here","_law_turn","_law_shape","_law_move","_law_row","_law_k","_law_spot","_law_side","_law_start_here","_law_rounds","_law_count","_law_more"]
theorem ZE:FnScope AW ["_law_script","_law_at","_law_table_here","_law_word","_law_moves"] (Qm FQ):=Q2
abbrev Kd:Stmt:=top 74
abbrev Iv:List Str:=["_law_m","_law_shape","_law_state","_law_facing","_law_left","_law_right","_law_bad","_law_token","_law_spot"]
theorem ZZ:FnScope Iv ["_law_m","_law_shape"] (Qm Kd):=Q2
abbrev FR:Stmt:=top 75
abbrev AX:List Str:=["_law_shape","_law_made","_law_tokens","_law_row","_law_token"]
theorem XM:FnScope AX ["_law_shape"] (Qm FR):=Q2
abbrev Et:Stmt:=top 76
abbrev O2:List Str:=["_law_shape","_law_some","_law_j","_law_k","_law_token","_law_tokens"]
theorem J9:FnScope O2 ["_law_shape"] (Qm Et):=Q2
abbrev XN:Stmt:=top 77
abbrev Bk:List Str:=["_law_script","_law_at","_law_paper_here","_law_states","_law_m","_law_kind","_law_start_here","_law_shape","_law_row","_law_idle","_law_some","_law_strange","_law_other","_law_turned_about","_law_k"]
theorem Zl:FnScope Bk ["_law_script","_law_at","_law_paper_here","_law_states"] (Qm XN):=Q2
abbrev Ke:Stmt:=top 63
abbrev Iw:List Str:=["machine","shape","moves","behind","move"]
theorem Xv:FnScope Iw ["machine","shape","moves"] (Qm Ke):=Q2
abbrev Y0:Stmt:=XT (top 20) 0
abbrev Ce:List Str:=["self","machine","shot"]
theorem Mi:FnScope Ce ["self","machine","shot"] (Qm Y0):=Q2
abbrev Yj:Stmt:=XT (top 20) 1
abbrev Fc:List Str:=["self"]
theorem Eu:FnScope Fc ["self"] (Qm Yj):=Q2
abbrev JE:Stmt:=XT (top 20) 2
abbrev Mj:List Str:=["self","sign"]
theorem CO:FnScope Mj ["self"] (Qm JE):=Q2
abbrev YY:Stmt:=XT (top 20) 5
abbrev HL:List Str:=["self"]
theorem Gu:FnScope HL ["self"] (Qm YY):=Q2
abbrev YJ:Stmt:=XT (top 20) 4
abbrev Gv:List Str:=["self"]
theorem FS:FnScope Gv ["self"] (Qm YJ):=Q2
abbrev JF:Stmt:=XT (top 20) 3
abbrev Ml:List Str:=["self","sign"]
theorem Ix:FnScope Ml ["self","sign"] (Qm JF):=Q2
abbrev YZ:Stmt:=XT (top 20) 6
abbrev HM:List Str:=["self","entry"]
theorem Bu:FnScope HM ["self"] (Qm YZ):=Q2
abbrev XQ:Stmt:=XT (top 20) 7
abbrev O3:List Str:=["self","steps","done"]
theorem Ci:FnScope O3 ["self","steps"] (Qm XQ):=Q2
abbrev Xa:Stmt:=XT (top 20) 8
abbrev NK:List Str:=["self"]
theorem Mm:FnScope NK ["self"] (Qm Xa):=Q2
abbrev Ev:Stmt:=top 28
abbrev O4:List Str:=["tokens","count","cells","token"]
theorem Cj:FnScope O4 ["tokens","count"] (Qm Ev):=Q2
abbrev Bl:Stmt:=top 29
abbrev HN:List Str:=["shape","count","left","cells","marks"]
theorem V3:FnScope HN ["shape","count"] (Qm Bl):=Q2
abbrev Kf:Stmt:=top 34
abbrev Iy:List Str:=["side","sign","count"]
theorem HP:FnScope Iy ["side","sign","count"] (Qm Kf):=Q2
abbrev FT:Stmt:=top 35
abbrev AY:List Str:=["cells","side","reached","offset","sign"]
theorem XR:FnScope AY ["cells"] (Qm FT):=Q2
abbrev Jv:Stmt:=top 36
abbrev VQ:List Str:=["shot","here","left","right"]
theorem JT:FnScope VQ ["shot"] (Qm Jv):=Q2
abbrev Ew:Stmt:=top 65
abbrev O5:List Str:=["machine","start","shape","walk"]
theorem Gd:FnScope O5 ["machine","start","shape"] (Qm Ew):=Q2
abbrev Vi:Stmt:=top 64
abbrev Gw:List Str:=["paper"]
theorem FU:FnScope Gw ["paper"] (Qm Vi):=Q2
abbrev JU:Stmt:=top 31
abbrev Bv:List Str:=["tokens"]
theorem FV:FnScope Bv ["tokens"] (Qm JU):=Q2
abbrev HQ:Stmt:=top 32
abbrev cK:List Str:=["shape"]
theorem AZ:FnScope cK ["shape"] (Qm HQ):=Q2
abbrev Bm:Stmt:=top 66
abbrev Mn:List Str:=["machine","paper","shape","behind"]
theorem Kg:FnScope Mn ["machine","paper"] (Qm Bm):=Q2
abbrev CD:Stmt:=top 78
abbrev Ll:List Str:=["_law_script","_law_at","_law_table_here","_law_word","_law_moves","_law_paper_here","_law_machine","_law_one","_law_stopped"]
theorem Jw:FnScope Ll ["_law_script","_law_at"] (Qm CD):=Q2
abbrev Sx:Stmt:=top 79
abbrev qE:List Str:=["_law_script","_law_at","_law_k"]
theorem O6:FnScope qE ["_law_script"] (Qm Sx):=Q2
def UF(K:Frag)(mg:KB)(x:Str)(st:Stmt):Prop:=∃f fd,Fun K x x st f fd/\mg x=some (.ref f)
theorem _root_.L2.Room.m{j k:Nat}{A:Around}(h:Room k A)(e:j<=k:=by omega):Room j A:=h.mono e
theorem Zo{P:Program}{w:World}{K:Frag}{mg:KB}{base:Heap}{ca:Nat->Addr}{x:Str}{st:Stmt}{N ps:List Str}{k n j:Nat}{m:MS}(u:UF K mg x st)(S:FnScope N ps (Qm st))(h:∀(f:Addr) (cdv:Value) (A:Around) (outer:List Env) (s:Shared) (H:Hp) (E:XK),Room k (A.deeper (envOfC x (Qm st) s.heap.objs.size f cdv))->Fi ca (Gg (Of P w ca) P w K mg base N x (Qm st) f cdv A outer s H E) (Ys st) m)(hj:ps.length=j:=by rfl)(hn:N.length-ps.length=n:=by rfl)(hb:∀(kV doc pm:Value) (an:Option Addr) (cdv ct:Value) (us:List Value),us.length=ps.length->bindArgs (fnOf x x (YL st) (Ys st) (Qm st) .none kV doc pm an cdv ct) ⟨us,[]⟩=pure (ps.zip us):=by intro _ _ _ _ _ _ us hl;first|(obtain⟨_,rfl⟩:=L3.len1 hl;rfl)|(obtain⟨_,_,rfl⟩:=L3.len2 hl;rfl)|(obtain⟨_,_,_,rfl⟩:=L3.len3 hl;rfl)|(obtain⟨_,_,_,_,rfl⟩:=L3.len4 hl;rfl)|(obtain⟨_,_,_,_,_,rfl⟩:=L3.len5 hl;rfl)):FnH P w K mg base ca x (k+1) j (Zq j n m):=by obtain⟨f,fd,F,hm⟩:=u;exact⟨⟨f,fd,ps,Bp F S hj hn (h f),hm,F.kp,F.binds hb⟩,Xg _ _ _⟩
structure Zk(K:Frag)(mg:KB)(ca:Nat->Addr):Prop where
 z_all:mg "all"=none
 z_bool:mg "bool"=none
 z_enumerate:mg "enumerate"=none
 z_int:mg "int"=none
 z_isinstance:mg "isinstance"=none
 z_len:mg "len"=none
 z_list:mg "list"=none
 z_max:mg "max"=none
 z_min:mg "min"=none
 z_range:mg "range"=none
 z_reversed:mg "reversed"=none
 z_tuple:mg "tuple"=none
 g_BLANK:∃k,mg "BLANK"=some (.int 0 k)
 g_FIRST_SHOT:∃u v,mg "FIRST_SHOT"=some u/\L2.RelV v u/\∀μ H,Den K μ H v (.tup [(.int 0),(.int 0),(.tup [])])
 g_GROW:∃k,mg "GROW"=some (.str "grow" k)
 g_LEFT:∃k,mg "LEFT"=some (.str "l" k)
 g_MANY:∃k,mg "MANY"=some (.str "many" k)
 g_MOST_STEPS_OVER:∃k,mg "MOST_STEPS_OVER"=some (.int 1000 k)
 g_ONE:∃k,mg "ONE"=some (.str "one" k)
 g_OPEN:∃u v,mg "OPEN"=some u/\L2.RelV v u/\∀μ H,Den K μ H v (.tup [(.str "open")])
 g_OVER:∃u v,mg "OVER"=some u/\L2.RelV v u/\∀μ H,Den K μ H v (.tup [(.str "over")])
 g_RIGHT:∃k,mg "RIGHT"=some (.str "r" k)
 g_STEP:∃u v,mg "STEP"=some u/\L2.RelV v u/\∀μ H,Den K μ H v (.tup [(.str "step")])
 t_NoMove:mg "NoMove"=some (.ref (ca 8))/\CatX K ca (ca 8) [8] [0,1,7]
 t_NoShape:mg "NoShape"=some (.ref (ca 7))/\CatX K ca (ca 7) [7] [0,1,8]
 e_NoMachine:RaH K mg ca 1 "NoMachine"
 e_NoMove:RaH K mg ca 8 "NoMove"
 e_NoShape:RaH K mg ca 7 "NoShape"
 a_left_marks:FldOk K ca [12] "left_marks"
 a_place:FldOk K ca [12] "place"
 a_right_marks:FldOk K ca [12] "right_marks"
 a_state:FldOk K ca [12] "state"
 a_table:FldOk K ca [11,12] "table"
 u0:UF K mg "is_whole" Ek
 u1:UF K mg "is_below" El
 u2:UF K mg "is_entry" Em
 u3:UF K mg "check_rows" Vw
 u4:∃f fd,Fun K "__init__" "Machine.__init__" YA f fd/\Mk K (ca 11) f/\mg "Machine"=some (.ref (ca 11))
 u5:UF K mg "_law_next" HG
 u6:UF K mg "_law_table" FL
 u7:UF K mg "_law_bouncer" J8
 u8:UF K mg "_law_round_steps" Vg
 u9:UF K mg "_law_start" FM
 u10:UF K mg "in_place_of_ahead" JJ
 u11:UF K mg "gone_on" FN
 u12:UF K mg "token_ahead" WZ
 u13:UF K mg "many_ahead" Bg
 u14:UF K mg "word_behind" W0
 u15:UF K mg "after_over" Bh
 u16:UF K mg "with_end" Eo
 u17:UF K mg "place_of_many" Vh
 u18:UF K mg "ones_of" CB
 u19:UF K mg "raised_token" VO
 u20:UF K mg "with_ones_taken_in" Jt
 u21:UF K mg "with_many" Ca
 u22:UF K mg "after_put_together" Ju
 u23:UF K mg "after_step" Bi
 u24:UF K mg "after_move" Bj
 u25:UF K mg "is_from_nought" XJ
 u26:UF K mg "is_word" CC
 u27:UF K mg "is_token" Ep
 u28:UF K mg "check_tokens" Xu
 u29:UF K mg "check_shape" Kb
 u30:UF K mg "signs_in" Er
 u31:UF K mg "signs_of" Es
 u32:UF K mg "states_of" Cd
 u33:UF K mg "check_shape_of" XL
 u34:UF K mg "with_tuples" Kc
 u35:UF K mg "moved" Mh
 u36:UF K mg "_law_paper" FQ
 u37:UF K mg "_law_bad_shape" Kd
 u38:UF K mg "_law_extra" FR
 u39:UF K mg "_law_truths" Et
 u40:UF K mg "_law_spoilt" XN
 u41:UF K mg "after_moves" Ke
 u42:∃f fd,Fun K "__init__" "Walk.__init__" Y0 f fd/\Mk K (ca 12) f/\mg "Walk"=some (.ref (ca 12))
 u43:∃f fd,Fun K "is_on_mark" "Walk.is_on_mark" Yj f fd/\Meth K (ca 12) "is_on_mark" f/\Cls K (ca 12)
 u44:∃f fd,Fun K "entry" "Walk.entry" JE f fd/\Meth K (ca 12) "entry" f/\Cls K (ca 12)
 u45:∃f fd,Fun K "go_left" "Walk.go_left" YY f fd/\Meth K (ca 12) "go_left" f/\Cls K (ca 12)
 u46:∃f fd,Fun K "go_right" "Walk.go_right" YJ f fd/\Meth K (ca 12) "go_right" f/\Cls K (ca 12)
 u47:∃f fd,Fun K "write" "Walk.write" JF f fd/\Meth K (ca 12) "write" f/\Cls K (ca 12)
 u48:∃f fd,Fun K "stepped" "Walk.stepped" YZ f fd/\Meth K (ca 12) "stepped" f/\Cls K (ca 12)
 u49:∃f fd,Fun K "run" "Walk.run" XQ f fd/\Meth K (ca 12) "run" f/\Cls K (ca 12)
 u50:∃f fd,Fun K "shot" "Walk.shot" Xa f fd/\Meth K (ca 12) "shot" f/\Cls K (ca 12)
 u51:UF K mg "cells_of" Ev
 u52:UF K mg "laid_out" Bl
 u53:UF K mg "add_stretch" Kf
 u54:UF K mg "side_of" FT
 u55:UF K mg "stretches_of" Jv
 u56:UF K mg "comes_to" Ew
 u57:UF K mg "is_grow_paper" Vi
 u58:UF K mg "raised_tokens" JU
 u59:UF K mg "raised" HQ
 u60:UF K mg "takes_grow" Bm
 u61:UF K mg "_law_round" CD
 u62:UF K mg "law" Sx
section
seal Za GA iG A2 Mv Fi dZ eD
variable{P:Program}{w:World}{K:Frag}{mg:KB}{base:Heap}{ca:Nat->Addr}
theorem Ge(Z:Zk K mg ca):FnH P w K mg base ca "is_whole" 1 1 VF:=Zo Z.u0 NC λ_ _ _ _ _ _ _ hr=>(Qk (QP (VD (BK .int Z.z_isinstance Z.z_int lF (Qc 0)) (CJ (oG (BK .bool Z.z_isinstance Z.z_bool eY (Qc 0)))))))
theorem V4(Z:Zk K mg ca):FnH P w K mg base ca "is_below" 2 2 ZD:=Zo Z.u1 ND λ_ _ _ _ _ _ _ hr=>(Qk (QP (VD (QA (Ge Z) hr.m (Qd (Qc 0) Qh)) (CJ (lC Qf (Qc 0) (Qc 1))))))
theorem NL(Z:Zk K mg ca):FnH P w K mg base ca "is_entry" 3 3 XD:=Zo Z.u2 NE λ_ _ _ _ _ _ _ hr=>(Qg (ZA (G0 (Qc 0) Jl) (Qk (QP Km)) QN)
 (Qg (ZA (SV (EF (Xf (Y2 (BK .tuple Z.z_isinstance Z.z_tuple Kr (Qc 0)))) (CS (Kq hr (Z1 Z.z_len (Qc 0)) Qf)))) (Qk (QP Km)) QN)
 (Qk (QP (VD (QA (V4 Z) hr.m (Qd (Qj (Qc 0) Qf) (Qd (Qc 2) Qh))) (VD (sY (Qj (Qc 0) Qf) (Qz (Qd (Zu Z.g_LEFT) (Qd (Zu Z.g_RIGHT) Qh)))) (CJ (QA (V4 Z) hr.m (Qd (Qj (Qc 0) Qf) (Qd (Qc 1) Qh))))))))))
theorem Iz(Z:Zk K mg ca):FnH P w K mg base ca "check_rows" 4 1 JB:=Zo Z.u3 X3 λ_ _ _ _ _ _ _ hr=>(Qg (ZA (ZJ hr (Z1 Z.z_len (Qc 0)) Qf) (Qk (Z6 Z.e_NoMachine hr.hd (Qd QO Qh))) QN)
 (Qg (QH 1 X3.nd (Z1 Z.z_len (Qc 0)))
 (Qg (QH 2 X3.nd (Z1 Z.z_len (Qj (Qc 0) Qf)))
 (Qg (ZA (ZJ hr (Qc 2) Qf) (Qk (Z6 Z.e_NoMachine hr.hd (Qd QO Qh))) QN)
 (Qk (Jm rfl (ZM (Qc 0)) (QT 3 X3.nd) (Qg (ZA (Kq hr (Z1 Z.z_len (Qc 3)) (Qc 2)) (Qk (Z6 Z.e_NoMachine hr.hd (Qd QO Qh))) QN)
 (Qk (ZA (Xf (Y2 (DH rfl Z.z_all (XC (ZG (Nb:=["thing","states","signs"]) (no:=1) (cap:=[1,2]) (N:=E9) (sc:=Qm Vw) rfl rfl (by decide +kernel)) rfl (ZM (Qc 3)) (λcl C s3 H3 ex=>⟨(QT 0 (show List.Nodup (["thing","states","signs"]:List Str) by decide +kernel)),Bq,(QA (NL Z) hr.m (Qd (Qc 0) (Qd (Qc 1) (Qd (Qc 2) Qh))))⟩))))) (Qk (Z6 Z.e_NoMachine hr.hd (Qd QO Qh))) QN)))))))))
theorem Vj(Z:Zk K mg ca):MkH P w K mg base ca 11 "Machine" 5 2 Yf:=by
 obtain⟨f,fd,F,hm⟩:=Z.u4;exact⟨⟨f,fd,["self","table"],Bp F Bt rfl rfl (λcdv A outer s H E hr=>(Qg (QH 2 Bt.nd (JP Z.z_tuple (XC (ZG (Nb:=["row"]) (no:=1) (cap:=[]) (N:=B6) (sc:=Qm YA) rfl rfl (by decide +kernel)) rfl (ZM (Qc 1)) (λcl C s3 H3 ex=>⟨(QT 0 (show List.Nodup (["row"]:List Str) by decide +kernel)),Bq,(JP Z.z_tuple (Qc 0))⟩))))
 (Qg (ZN (QA (Iz Z) hr.m (Qd (Qc 2) Qh)))
 (Qk (Jz (Qc 0) (Qc 2) Z.a_table))))),hm.1,hm.2,F.binds (ps:=["self","table"]) (λ_ _ _ _ _ _ us hl=>by obtain⟨_,_,rfl⟩:=L3.len2 hl;rfl)⟩,Xg _ _ _⟩
theorem Vz(Z:Zk K mg ca):FnH P w K mg base ca "_law_next" 1 2 Xh:=Zo Z.u5 CA λ_ _ _ _ _ _ _ hr=>(Qg (XW (Qc 1) Qf (QL (Qj (Qc 1) Qf) Qf))
 (Qg (QH 2 CA.nd Qf)
 (Qg (ZA (Px (Z1 Z.z_len (Qc 0)) Qf) (Qk (QH 2 CA.nd (Qj (Qc 0) (Yh (Qj (Qc 1) Qf) (Z1 Z.z_len (Qc 0)))))) QN)
 (Qg (QH 3 CA.nd (Yh (BI (QL (QL (Yh (Qc 2) Qf) (BI (BI (Qj (Qc 1) Qf) (Qj (Qc 1) Qf)) Qf)) Qf) Qf) Qf))
 (Qk (QP (Yh (BI (Qc 3) (Qc 3)) Qf)))))))
theorem O7(Z:Zk K mg ca):FnH P w K mg base ca "_law_table" 2 4 Fs:=Zo Z.u6 Js λ_ _ _ _ _ _ _ hr=>(Qg (QH 4 Js.nd (Yn Qh))
 (Qg (Jm rfl (YW Z.z_range (Qc 2)) (QT 5 Js.nd) (Qg (QH 6 Js.nd (Yn Qh))
 (Qg (Jm rfl (YW Z.z_range (Qc 3)) (QT 7 Js.nd) (Qg (QH 8 Js.nd (QA (Vz Z) hr.m (Qd (Qc 0) (Qd (Qc 1) Qh))))
 (Qg (QH 9 Js.nd (Qz (Qd (Yh (Y3 (Qc 8) Qf) (Qc 3)) (Qd (Qj QO (Yh (Y3 (Qc 8) Qf) Qf)) (Qd (Yh (Y3 (Qc 8) Qf) (Qc 2)) Qh)))))
 (Qg (ZA (ZJ hr (Yh (Qc 8) Qf) Qf) (Qk (QH 9 Js.nd Jl)) QN)
 (Qk (ZN (Yy (Qc 6) (Qc 9))))))))
 (Qk (ZN (Yy (Qc 4) (Qc 6)))))))
 (Qk (QP (Qc 4)))))
theorem Mp(Z:Zk K mg ca):FnH P w K mg base ca "_law_bouncer" 3 2 BN:=Zo Z.u7 Zn λ_ _ _ _ _ _ _ hr=>(Qg (QH 2 Zn.nd (QA (Vz Z) hr.m (Qd (Qc 0) (Qd (Qc 1) Qh))))
 (Qg (QH 3 Zn.nd (QL Qf (Yh (Qc 2) Qf)))
 (Qg (QH 4 Zn.nd (QL Qf (Yh (Y3 (Qc 2) Qf) (DT rfl Z.z_min Qf (Qc 3)))))
 (Qg (QH 5 Zn.nd (QL Qf (BI (Qc 4) (Yh (Y3 (Qc 2) Qf) Qf))))
 (Qg (QH 6 Zn.nd (QA (Vz Z) hr.m (Qd (Qc 0) (Qd (Qc 1) Qh))))
 (Qg (Kp 7 Zn.nd (ZG (Nb:=["_law_k","_law_letters","_law_turn"]) (no:=1) (cap:=[4,6]) (N:=V2) (sc:=Qm J8) rfl rfl (by decide +kernel)) rfl (YW Z.z_range (Qc 3)) (λcl C s3 H3 ex=>⟨(QT 0 (show List.Nodup (["_law_k","_law_letters","_law_turn"]:List Str) by decide +kernel)),Bq,(Yh (Y3 (Qc 2) (QL (BI (BI Qf (Qc 0)) (Qc 0)) Qf)) (Qc 1))⟩))
 (Qg (QH 8 Zn.nd (QL (QL (Qc 5) (Qc 4)) (BI (LH Z.z_int (sW (QL (Qc 5) (Qc 4)) Qf)) (Yh (Y3 (Qc 2) Qf) Qf))))
 (Qg (QH 9 Zn.nd (QA (O7 Z) hr.m (Qd (Qc 0) (Qd (Qc 1) (Qd (QL (QL Qf (Qc 3)) (Yh (Y3 (Qc 2) Qf) Qf)) (Qd (Qc 8) Qh))))))
 (Qg (XW (Qj (Qc 9) Qf) Qf (Qz (Qd Qf (Qd QO (Qd Qf Qh)))))
 (Qg (XW (Qj (Qc 9) Qf) Qf (Qz (Qd Qf (Qd QO (Qd Qf Qh)))))
 (Qg (Jm rfl (YW Z.z_range (Qc 4)) (QT 10 Zn.nd) (Qg (XW (Qj (Qc 9) Qf) (QL Qf (Qc 10)) (Qz (Qd (QL (Qc 5) (Qc 10)) (Qd QO (Qd Qf Qh)))))
 (Qg (XW (Qj (Qc 9) Qf) (QL Qf (Qc 10)) (Qz (Qd (QL Qf (Qc 10)) (Qd QO (Qd Qf Qh)))))
 (Qk (XW (Qj (Qc 9) Qf) (QL (Qc 5) (Qc 10)) (Qz (Qd (QL Qf (Qc 10)) (Qd QO (Qd Qf Qh)))))))))
 (Qg (Jm rfl (YW Z.z_range (Qc 3)) (QT 10 Zn.nd) (Qg (QH 11 Zn.nd (Qz (Qd (QL Qf (Qj (Qc 7) (Qc 10))) (Qd QO (Qd (QL Qf (Qc 10)) Qh)))))
 (Qg (ZA (ZJ hr (QL (Qc 10) Qf) (Qc 3)) (Qk (QH 11 Zn.nd (Qz (Qd (QL Qf (Qj (Qc 7) (Qc 10))) (Qd QO (Qd Qf Qh)))))) QN)
 (Qk (XW (Qj (Qc 9) (Qj (Yn (Qd Qf (Qd (QL Qf (Qc 10)) Qh))) (LH Z.z_int (kZ (Qc 10) Qf)))) Qf (Qc 11))))))
 (Qg (Kp 12 Zn.nd (ZG (Nb:=["_law_k"]) (no:=1) (cap:=[]) (N:=V2) (sc:=Qm J8) rfl rfl (by decide +kernel)) rfl (YW Z.z_range (VX (BI Qf (Qc 3)) Qf)) (λcl C s3 H3 ex=>⟨(QT 0 (show List.Nodup (["_law_k"]:List Str) by decide +kernel)),Bq,(Qz (Qd QO Qh))⟩))
 (Qg (QH 13 Zn.nd (QL (QL (Yn (Qd (Qz (Qd QO Qh)) Qh)) (Qc 12)) (Yn (Qd (Qz (Qd QO Qh)) (Qd (Qz (Qd QO Qh)) (Qd (Qz (Qd QO (Qd QO (Qd (Qc 3) Qh)))) Qh))))))
 (Qk (QP (Qz (Qd (Qc 9) (Qd (JP Z.z_tuple (XC (ZG (Nb:=["_law_k"]) (no:=1) (cap:=[]) (N:=V2) (sc:=Qm J8) rfl rfl (by decide +kernel)) rfl (ZM (Qc 7)) (λcl C s3 H3 ex=>⟨(QT 0 (show List.Nodup (["_law_k"]:List Str) by decide +kernel)),Bq,(QL Qf (Qc 0))⟩))) (Qd (Qc 13) Qh))))))))))))))))))))
theorem JG(Z:Zk K mg ca):FnH P w K mg base ca "_law_round_steps" 1 3 Z2:=Zo Z.u8 YX λ_ _ _ _ _ _ _ hr=>(Qg (QH 3 YX.nd Qf)
 (Qg (Jm rfl (ZM (Qc 0)) (QT 4 YX.nd) (Qg (ZA (ZJ hr (Qj (Qc 4) Qf) QO) (Qk (QH 3 YX.nd (QL (Qc 3) Qf))) QN)
 (Qk (ZA (ZJ hr (Qj (Qc 4) Qf) QO) (Qk (QH 3 YX.nd (QL (Qc 3) (BI (Qc 1) (Qc 2))))) QN))))
 (Qk (QP (Qc 3)))))
theorem O8(Z:Zk K mg ca):FnH P w K mg base ca "_law_start" 2 4 Fw:=Zo Z.u9 Be λ_ _ _ _ _ _ _ hr=>(Qg (QH 4 Be.nd Qf)
 (Qg (Jm rfl (YW Z.z_range (Qc 3)) (QT 5 Be.nd) (Qk (QH 4 Be.nd (QL (Qc 4) (QA (JG Z) hr.m (Qd (Qc 0) (Qd (Qc 2) (Qd (Qc 5) Qh))))))))
 (Qk (QP (QL (Qc 4) (QA (JG Z) hr.m (Qd (Qc 1) (Qd (Qc 2) (Qd (Qc 3) Qh)))))))))
theorem Ck(Z:Zk K mg ca):FnH P w K mg base ca "in_place_of_ahead" 1 2 Yo:=Zo Z.u10 B7 λ_ _ _ _ _ _ _ hr=>(Qg (ZA (ZJ hr (Qj (Qc 0) Qf) (Zu Z.g_RIGHT)) (Qk (QP (Qz (Qd (Qj (Qc 0) Qf) (Qd (Zu Z.g_RIGHT) (Qd (Qj (Qc 0) Qf) (Qd (QL (Qc 1) (Q8 (Qj (Qc 0) Qf) (Zs Qf) QY)) Qh))))))) QN)
 (Qk (QP (Qz (Qd (Qj (Qc 0) Qf) (Qd (Zu Z.g_LEFT) (Qd (QL (Q8 (Qj (Qc 0) Qf) QY (Zs (J4 Qf))) (Qc 1)) (Qd (Qj (Qc 0) Qf) Qh))))))))
theorem HR(Z:Zk K mg ca):FnH P w K mg base ca "gone_on" 2 4 Ks:=Zo Z.u11 HH λ_ _ _ _ _ _ _ hr=>(Qg (QH 4 HH.nd (QA (Ck Z) hr.m (Qd (Qc 0) (Qd (Qz Qh) Qh))))
 (Qg (ZA (ZJ hr (Qc 2) (Zu Z.g_RIGHT)) (Qk (QP (Qz (Qd (Qc 1) (Qd (Qc 2) (Qd (QL (Qj (Qc 4) Qf) (Qz (Qd (Qc 3) Qh))) (Qd (Qj (Qc 4) Qf) Qh))))))) QN)
 (Qk (QP (Qz (Qd (Qc 1) (Qd (Qc 2) (Qd (Qj (Qc 4) Qf) (Qd (QL (Qz (Qd (Qc 3) Qh)) (Qj (Qc 4) Qf)) Qh)))))))))
theorem Cl(Z:Zk K mg ca):FnH P w K mg base ca "token_ahead" 1 1 YT:=Zo Z.u12 B8 λ_ _ _ _ _ _ _ hr=>(Qg (QH 1 B8.nd (Vl (ZJ hr (Qj (Qc 0) Qf) (Zu Z.g_RIGHT)) (Q8 (Qj (Qc 0) Qf) QY (Zs Qf)) (Q8 (Qj (Qc 0) Qf) (Zs (J4 Qf)) QY)))
 (Qk (QP (Vl (Px (Z1 Z.z_len (Qc 1)) Qf) (Qj (Qc 1) Qf) Jl))))
theorem IA(Z:Zk K mg ca):FnH P w K mg base ca "many_ahead" 2 1 Xi:=Zo Z.u13 CN λ_ _ _ _ _ _ _ hr=>(Qg (QH 1 CN.nd (QA (Cl Z) hr.m (Qd (Qc 0) Qh)))
 (Qg (ZA (SV (EF (G0 (Qc 1) Jl) (CS (Kq hr (Qj (Qc 1) Qf) (Zu Z.g_MANY))))) (Qk (Z6 Z.e_NoMove hr.hd (Qd QO Qh))) QN)
 (Qk (QP (Qc 1)))))
theorem HS(Z:Zk K mg ca):FnH P w K mg base ca "word_behind" 3 4 V8:=Zo Z.u14 Yg λ_ _ _ _ _ _ _ hr=>(Qg (QH 4 Yg.nd (Fn Z.z_list (Qc 3)))
 (Qg (QH 5 Yg.nd (Vl (ZJ hr (Qc 2) (Zu Z.g_RIGHT)) Qf (VX (Z1 Z.z_len (Qc 4)) Qf)))
 (Qg (QH 6 Yg.nd (Qc 1))
 (Qg (Jm rfl (YW Z.z_range (CV Z.g_MOST_STEPS_OVER)) (QT 7 Yg.nd) (Qg (QH 8 Yg.nd (Qj (Qj (ZW (Qc 0) Z.a_table) (Qc 6)) (Qj (Qc 4) (Qc 5))))
 (Qg (ZA (G0 (Qc 8) Jl) (Qk (QP Jl)) QN)
 (Qg (XW (Qc 4) (Qc 5) (Qj (Qc 8) Qf))
 (Qg (QH 5 Yg.nd (Vl (ZJ hr (Qj (Qc 8) Qf) (Zu Z.g_RIGHT)) (QL (Qc 5) Qf) (VX (Qc 5) Qf)))
 (Qg (QH 6 Yg.nd (Qj (Qc 8) Qf))
 (Qk (ZA (Xf (Y2 (QA (V4 Z) hr.m (Qd (Qc 5) (Qd (Z1 Z.z_len (Qc 4)) Qh))))) (Qk (QP (Vl (SV (Fj (ZJ hr (Qj (Qc 8) Qf) (Qc 2)) (Co (ZJ hr (Qc 6) (Qc 1))))) (JP Z.z_tuple (Qc 4)) Jl))) QN))))))))
 (Qk (QP Jl))))))
theorem IB(Z:Zk K mg ca):FnH P w K mg base ca "after_over" 4 2 YN:=Zo Z.u15 W9 λ_ _ _ _ _ _ _ hr=>(Qg (QH 2 W9.nd (QA (IA Z) hr.m (Qd (Qc 1) Qh)))
 (Qg (QH 3 W9.nd (QA (HS Z) hr.m (Qd (Qc 0) (Qd (Qj (Qc 1) Qf) (Qd (Qj (Qc 1) Qf) (Qd (Qj (Qc 2) Qf) Qh))))))
 (Qg (ZA (G0 (Qc 3) Jl) (Qk (Z6 Z.e_NoMove hr.hd (Qd QO Qh))) QN)
 (Qk (QP (QA (HR Z) hr.m (Qd (Qc 1) (Qd (Qj (Qc 1) Qf) (Qd (Qj (Qc 1) Qf) (Qd (Qz (Qd (Zu Z.g_MANY) (Qd (Qc 3) (Qd (Qj (Qc 2) Qf) Qh)))) Qh))))))))))
theorem NM(Z:Zk K mg ca):FnH P w K mg base ca "with_end" 1 3 ZL:=Zo Z.u16 Gc λ_ _ _ _ _ _ _ hr=>(Qg (QH 3 Gc.nd (Qz (Qd (Qz (Qd (Zu Z.g_ONE) (Qd (CV Z.g_BLANK) Qh))) Qh)))
 (Qg (ZA (ZJ hr (Qc 1) QO) (Qk (QP (Vl (ZJ hr (Qc 2) (Zu Z.g_LEFT)) (QL (Qc 3) (Qc 0)) (QL (Qc 0) (Qc 3))))) QN)
 (Qg (ZA (Kq hr (Qc 1) QO) (Qk (Z6 Z.e_NoMove hr.hd (Qd QO Qh))) QN)
 (Qg (ZA (Kq hr (Vl (ZJ hr (Qc 2) (Zu Z.g_LEFT)) (Q8 (Qc 0) QY (Zs Qf)) (Q8 (Qc 0) (Zs (J4 Qf)) QY)) (Qc 3)) (Qk (Z6 Z.e_NoMove hr.hd (Qd QO Qh))) QN)
 (Qk (QP (Vl (ZJ hr (Qc 2) (Zu Z.g_LEFT)) (Q8 (Qc 0) (Zs Qf) QY) (Q8 (Qc 0) QY (Zs (J4 Qf))))))))))
theorem FW(Z:Zk K mg ca):FnH P w K mg base ca "place_of_many" 3 3 Zy:=Zo Z.u17 Ky λ_ _ _ _ _ _ _ hr=>(Qg (ZA (Xf (Y2 (QA (V4 Z) hr.m (Qd (Qc 2) (Qd (Z1 Z.z_len (Qc 0)) Qh))))) (Qk (Z6 Z.e_NoMove hr.hd (Qd QO Qh))) QN)
 (Qg (QH 3 Ky.nd (Vl (ZJ hr (Qc 1) (Zu Z.g_LEFT)) (Qc 2) (VX (VX (Z1 Z.z_len (Qc 0)) Qf) (Qc 2))))
 (Qg (ZA (Kq hr (Qj (Qj (Qc 0) (Qc 3)) Qf) (Zu Z.g_MANY)) (Qk (Z6 Z.e_NoMove hr.hd (Qd QO Qh))) QN)
 (Qk (QP (Qc 3))))))
theorem O9(Z:Zk K mg ca):FnH P w K mg base ca "ones_of" 1 1 Fx:=Zo Z.u18 OX λ_ _ _ _ _ _ _ hr=>(Qk (QP (JP Z.z_tuple (XC (ZG (Nb:=["sign"]) (no:=1) (cap:=[]) (N:=Lj) (sc:=Qm CB) rfl rfl (by decide +kernel)) rfl (ZM (Qc 0)) (λcl C s3 H3 ex=>⟨(QT 0 (show List.Nodup (["sign"]:List Str) by decide +kernel)),Bq,(Qz (Qd (Zu Z.g_ONE) (Qd (Qc 0) Qh)))⟩)))))
theorem Bw(Z:Zk K mg ca):FnH P w K mg base ca "raised_token" 1 1 Yz:=Zo Z.u19 Gr λ_ _ _ _ _ _ _ hr=>(Qk (QP (Vl (ZJ hr (Qj (Qc 0) Qf) (Zu Z.g_ONE)) (Qc 0) (Qz (Qd (Zu Z.g_MANY) (Qd (Qj (Qc 0) Qf) (Qd (QL (Qj (Qc 0) Qf) Qf) Qh)))))))
theorem BB(Z:Zk K mg ca):FnH P w K mg base ca "with_ones_taken_in" 2 3 Zw:=Zo Z.u20 YC λ_ _ _ _ _ _ _ hr=>(Qg (QH 3 YC.nd (Qj (Qc 0) (Qc 1)))
 (Qg (QH 4 YC.nd (Vl (Y2 (Qc 2)) (QL (Qc 1) Qf) (VX (Qc 1) (Z1 Z.z_len (Qj (Qc 3) Qf)))))
 (Qg (QH 5 YC.nd (QL (Qc 4) (Z1 Z.z_len (Qj (Qc 3) Qf))))
 (Qg (ZA (SV (EF (F6 (Qc 4) Qf) (CS (Kq hr (Q8 (Qc 0) (Zs (Qc 4)) (Zs (Qc 5))) (QA (O9 Z) hr.m (Qd (Qj (Qc 3) Qf) Qh)))))) (Qk (Z6 Z.e_NoMove hr.hd (Qd QO Qh))) QN)
 (Qk (QP (QL (QL (Q8 (Qc 0) QY (Zs (DT rfl Z.z_min (Qc 4) (Qc 1)))) (Qz (Qd (QA (Bw Z) hr.m (Qd (Qc 3) Qh)) Qh))) (Q8 (Qc 0) (Zs (lJ rfl Z.z_max (Qc 5) (QL (Qc 1) Qf))) QY))))))))
theorem Mq(Z:Zk K mg ca):FnH P w K mg base ca "with_many" 4 4 YQ:=Zo Z.u21 Fa λ_ _ _ _ _ _ _ hr=>(Qg (QH 4 Fa.nd (QA (FW Z) hr.m (Qd (Qc 0) (Qd (Qc 2) (Qd (Qc 3) Qh)))))
 (Qg (ZA (DK (Qc 1) (Qz (Qd QO (Qd QO Qh)))) (Qk (QP (QA (BB Z) hr.m (Qd (Qc 0) (Qd (Qc 4) (Qd (Fm hr (Fm hr (Qc 1) QO) (Fm hr (Qc 2) (Zu Z.g_LEFT))) Qh)))))) QN)
 (Qg (ZA (DK (Qc 1) (Qz (Qd QO (Qd QO Qh)))) (Qk Pt) QN)
 (Qk (Z6 Z.e_NoMove hr.hd (Qd QO Qh))))))
theorem BC(Z:Zk K mg ca):FnH P w K mg base ca "after_put_together" 5 2 QV:=Zo Z.u22 Z7 λ_ _ _ _ _ _ _ hr=>(Qg (ZA (SV (EF (Xf (Y2 (BK .tuple Z.z_isinstance Z.z_tuple Kr (Qc 1)))) (EF (G3 (Z1 Z.z_len (Qc 1)) (Qz (Qd Qf (Qd Qf Qh)))) (CS (G3 (Qj (Qc 1) Qf) (Qz (Qd (Zu Z.g_LEFT) (Qd (Zu Z.g_RIGHT) Qh)))))))) (Qk (Z6 Z.e_NoMove hr.hd (Qd QO Qh))) QN)
 (Qg (QH 2 Z7.nd (Qj (Qc 1) Qf))
 (Qg (QH 3 Z7.nd (Vl (ZJ hr (Qc 2) (Zu Z.g_LEFT)) (Qj (Qc 0) Qf) (Qj (Qc 0) Qf)))
 (Qg (ZA (ZJ hr (Z1 Z.z_len (Qc 1)) Qf) (Qk (QH 4 Z7.nd (QA (NM Z) hr.m (Qd (Qc 3) (Qd (Qj (Qc 1) Qf) (Qd (Qc 2) Qh)))))) (Qk (QH 4 Z7.nd (QA (Mq Z) hr.m (Qd (Qc 3) (Qd (Qj (Qc 1) Qf) (Qd (Qc 2) (Qd (Qj (Qc 1) Qf) Qh))))))))
 (Qg (ZA (ZJ hr (Qc 2) (Zu Z.g_LEFT)) (Qk (QP (Qz (Qd (Qj (Qc 0) Qf) (Qd (Qj (Qc 0) Qf) (Qd (Qc 4) (Qd (Qj (Qc 0) Qf) Qh))))))) QN)
 (Qk (QP (Qz (Qd (Qj (Qc 0) Qf) (Qd (Qj (Qc 0) Qf) (Qd (Qj (Qc 0) Qf) (Qd (Qc 4) Qh))))))))))))
theorem IC(Z:Zk K mg ca):FnH P w K mg base ca "after_step" 3 2 Y6:=Zo Z.u23 Ka λ_ _ _ _ _ _ _ hr=>(Qg (QH 2 Ka.nd (QA (Cl Z) hr.m (Qd (Qc 1) Qh)))
 (Qg (ZA (SV (Fj (DE (Qc 2) Jl) (Co (ZJ hr (Qj (Qc 2) Qf) (Zu Z.g_MANY))))) (Qk (Z6 Z.e_NoMove hr.hd (Qd QO Qh))) QN)
 (Qg (QH 3 Ka.nd (Qj (Qj (ZW (Qc 0) Z.a_table) (Qj (Qc 1) Qf)) (Vl (G0 (Qc 2) Jl) (CV Z.g_BLANK) (Qj (Qc 2) Qf))))
 (Qg (ZA (G0 (Qc 3) Jl) (Qk (Z6 Z.e_NoMove hr.hd (Qd QO Qh))) QN)
 (Qk (QP (QA (HR Z) hr.m (Qd (Qc 1) (Qd (Qj (Qc 3) Qf) (Qd (Qj (Qc 3) Qf) (Qd (Qz (Qd (Zu Z.g_ONE) (Qd (Qj (Qc 3) Qf) Qh))) Qh)))))))))))
theorem CP(Z:Zk K mg ca):FnH P w K mg base ca "after_move" 6 3 QR:=Zo Z.u24 Iq λ_ _ _ _ _ _ _ hr=>(Qg (ZA (ZJ hr (Qc 2) (EN Z.g_STEP)) (Qk (QP (QA (IC Z) hr.m (Qd (Qc 0) (Qd (Qc 1) Qh))))) QN)
 (Qg (ZA (ZJ hr (Qc 2) (EN Z.g_OVER)) (Qk (QP (QA (IB Z) hr.m (Qd (Qc 0) (Qd (Qc 1) Qh))))) QN)
 (Qg (ZA (ZJ hr (Qc 2) (EN Z.g_OPEN)) (Qk Pt) QN)
 (Qk (QP (QA (BC Z) hr.m (Qd (Qc 1) (Qd (Qc 2) Qh))))))))
theorem Yk(Z:Zk K mg ca):FnH P w K mg base ca "is_from_nought" 2 1 QJ:=Zo Z.u25 Fb λ_ _ _ _ _ _ _ hr=>(Qk (QP (VD (QA (Ge Z) hr.m (Qd (Qc 0) Qh)) (CJ (sX (Qc 0) Qf)))))
theorem Pa(Z:Zk K mg ca):FnH P w K mg base ca "is_word" 3 1 Vy:=Zo Z.u26 OY λ_ _ _ _ _ _ _ hr=>(Qk (QP (VD (BK .tuple Z.z_isinstance Z.z_tuple Kr (Qc 0)) (VD (kZ (Z1 Z.z_len (Qc 0)) Qf) (CJ (DH rfl Z.z_all (XC (ZG (Nb:=["sign"]) (no:=1) (cap:=[]) (N:=Lk) (sc:=Qm CC) rfl rfl (by decide +kernel)) rfl (ZM (Qc 0)) (λcl C s3 H3 ex=>⟨(QT 0 (show List.Nodup (["sign"]:List Str) by decide +kernel)),Bq,(QA (Yk Z) hr.m (Qd (Qc 0) Qh))⟩))))))))
theorem NN(Z:Zk K mg ca):FnH P w K mg base ca "is_token" 4 1 Jp:=Zo Z.u27 NG λ_ _ _ _ _ _ _ hr=>(Qg (ZA (Xf (Y2 (BK .tuple Z.z_isinstance Z.z_tuple Kr (Qc 0)))) (Qk (QP Km)) QN)
 (Qg (ZA (ZJ hr (Z1 Z.z_len (Qc 0)) Qf) (Qk (QP (VD (Fm hr (Qj (Qc 0) Qf) (Zu Z.g_ONE)) (CJ (QA (Yk Z) hr.m (Qd (Qj (Qc 0) Qf) Qh)))))) QN)
 (Qk (QP (VD (Fm hr (Z1 Z.z_len (Qc 0)) Qf) (VD (Fm hr (Qj (Qc 0) Qf) (Zu Z.g_MANY)) (VD (QA (Pa Z) hr.m (Qd (Qj (Qc 0) Qf) Qh)) (CJ (QA (Yk Z) hr.m (Qd (Qj (Qc 0) Qf) Qh))))))))))
theorem Bx(Z:Zk K mg ca):FnH P w K mg base ca "check_tokens" 5 1 QS:=Zo Z.u28 Gs λ_ _ _ _ _ _ _ hr=>(Qk (ZA (SV (EF (Xf (Y2 (PM Z.z_isinstance Z.z_list Z.z_tuple (Qc 0)))) (CS (Xf (Y2 (DH rfl Z.z_all (XC (ZG (Nb:=["thing"]) (no:=1) (cap:=[]) (N:=Cc) (sc:=Qm Xu) rfl rfl (by decide +kernel)) rfl (ZM (Qc 0)) (λcl C s3 H3 ex=>⟨(QT 0 (show List.Nodup (["thing"]:List Str) by decide +kernel)),Bq,(QA (NN Z) hr.m (Qd (Qc 0) Qh))⟩)))))))) (Qk (Z6 Z.e_NoShape hr.hd (Qd QO Qh))) QN))
theorem VR(Z:Zk K mg ca):FnH P w K mg base ca "check_shape" 6 1 Yx:=Zo Z.u29 HJ λ_ _ _ _ _ _ _ hr=>(Qg (ZA (SV (EF (Xf (Y2 (BK .tuple Z.z_isinstance Z.z_tuple Kr (Qc 0)))) (CS (Kq hr (Z1 Z.z_len (Qc 0)) Qf)))) (Qk (Z6 Z.e_NoShape hr.hd (Qd QO Qh))) QN)
 (Qg (ZA (Xf (Y2 (QA (Yk Z) hr.m (Qd (Qj (Qc 0) Qf) Qh)))) (Qk (Z6 Z.e_NoShape hr.hd (Qd QO Qh))) QN)
 (Qg (ZA (G3 (Qj (Qc 0) Qf) (Qz (Qd (Zu Z.g_LEFT) (Qd (Zu Z.g_RIGHT) Qh)))) (Qk (Z6 Z.e_NoShape hr.hd (Qd QO Qh))) QN)
 (Qg (ZN (QA (Bx Z) hr.m (Qd (Qj (Qc 0) Qf) Qh)))
 (Qk (ZN (QA (Bx Z) hr.m (Qd (Qj (Qc 0) Qf) Qh))))))))
theorem NO(Z:Zk K mg ca):FnH P w K mg base ca "signs_in" 1 1 XF:=Zo Z.u30 NH λ_ _ _ _ _ _ _ hr=>(Qk (QP (Vl (ZJ hr (Qj (Qc 0) Qf) (Zu Z.g_ONE)) (Qz (Qd (Qj (Qc 0) Qf) Qh)) (Qj (Qc 0) Qf))))
theorem NP(Z:Zk K mg ca):FnH P w K mg base ca "signs_of" 1 1 KO:=Zo Z.u31 NI λ_ _ _ _ _ _ _ hr=>(Qk (QP (Z1 Z.z_len (Qj (ZW (Qc 0) Z.a_table) Qf))))
theorem Mr(Z:Zk K mg ca):FnH P w K mg base ca "states_of" 1 1 VY:=Zo Z.u32 Mg λ_ _ _ _ _ _ _ hr=>(Qk (QP (Z1 Z.z_len (ZW (Qc 0) Z.a_table))))
theorem V5(Z:Zk K mg ca):FnH P w K mg base ca "check_shape_of" 7 2 Q0:=Zo Z.u33 Jg λ_ _ _ _ _ _ _ hr=>(Qg (ZN (QA (VR Z) hr.m (Qd (Qc 1) Qh)))
 (Qg (ZA (Py (Qj (Qc 1) Qf) (QA (Mr Z) hr.m (Qd (Qc 0) Qh))) (Qk (Z6 Z.e_NoShape hr.hd (Qd QO Qh))) QN)
 (Qg (QH 2 Jg.nd (QA (NP Z) hr.m (Qd (Qc 0) Qh)))
 (Qk (Jm rfl (ZM (Q8 (Qc 1) (Zs Qf) QY)) (QT 3 Jg.nd) (Qk (Jm rfl (ZM (Qc 3)) (QT 4 Jg.nd) (Qk (ZA (Py (lI rfl Z.z_max (QA (NO Z) hr.m (Qd (Qc 4) Qh))) (Qc 2)) (Qk (Z6 Z.e_NoShape hr.hd (Qd QO Qh))) QN)))))))))
theorem Cm(Z:Zk K mg ca):FnH P w K mg base ca "with_tuples" 1 1 ZR:=Zo Z.u34 HK λ_ _ _ _ _ _ _ hr=>(Qk (QP (Qz (Qd (Qj (Qc 0) Qf) (Qd (Qj (Qc 0) Qf) (Qd (JP Z.z_tuple (Qj (Qc 0) Qf)) (Qd (JP Z.z_tuple (Qj (Qc 0) Qf)) Qh)))))))
theorem cL(Z:Zk K mg ca):FnH P w K mg base ca "moved" 8 3 GC:=Zo Z.u35 cJ λ_ _ _ _ _ _ _ hr=>(Qg (ZN (QA (V5 Z) hr.m (Qd (Qc 0) (Qd (Qc 1) Qh))))
 (Qk (QP (QA (CP Z) hr.m (Qd (Qc 0) (Qd (QA (Cm Z) hr.m (Qd (Qc 1) Qh)) (Qd (Qc 2) Qh)))))))
theorem Pb(Z:Zk K mg ca):FnH P w K mg base ca "_law_paper" 9 5 Cr:=Zo Z.u36 ZE λ_ _ _ _ _ _ _ hr=>(Qg (QH 5 ZE.nd (QA (Vz Z) hr.m (Qd (Qc 0) (Qd (Qc 1) Qh))))
 (Qg (QH 6 ZE.nd (Yh (Qc 5) Qf))
 (Qg (QH 7 ZE.nd (Yh (Y3 (Qc 5) Qf) (Z1 Z.z_len (Qc 4))))
 (Qg (QH 8 ZE.nd (Qz (Qd Qf (Qd QO (Qd (Qz (Qd (Qz (Qd QO (Qd Qf Qh))) Qh)) (Qd (Qz (Qd (Qz (Qd QO (Qd (Qc 3) (Qd (Qc 6) Qh)))) Qh)) Qh))))))
 (Qg (Jm rfl (ZM (Q8 (Qc 4) QY (Zs (Qc 7)))) (QT 9 ZE.nd) (Qk (QH 8 ZE.nd (QA (cL Z) hr.m (Qd (LF (Vj Z) hr.m (Qd (Qc 2) Qh)) (Qd (Qc 8) (Qd (Qc 9) Qh)))))))
 (Qg (QH 10 ZE.nd (QL (Q8 (Qc 4) (Zs (Qc 7)) QY) (Q8 (Qc 4) QY (Zs (Qc 7)))))
 (Qg (Jm rfl (YW Z.z_range (Yh (Y3 (Qc 5) Qf) Qf)) (QT 11 ZE.nd) (Qg (QH 12 ZE.nd (Yh (QA (Vz Z) hr.m (Qd (Qc 0) (Qd (Qc 1) Qh))) (QL (Z1 Z.z_len (Qc 10)) Qf)))
 (Qg (QH 13 ZE.nd (Qj QO (Yh (Y3 (Qc 5) Qf) Qf)))
 (Qk (QH 10 ZE.nd (QL (QL (Q8 (Qc 10) QY (Zs (Qc 12))) (Yn (Qd (Qz (Qd QO (Qd (Qc 13) Qh))) (Qd (Qz (Qd QO (Qd (Qc 13) Qh))) Qh)))) (Q8 (Qc 10) (Zs (Qc 12)) QY)))))))
 (Qg (QH 14 ZE.nd (QA (O8 Z) hr.m (Qd (Qc 4) (Qd (Q8 (Qc 4) QY (Zs (Qc 7))) (Qd (Z1 Z.z_len (Qc 3)) (Qd (Qc 6) Qh))))))
 (Qg (QH 15 ZE.nd (Yn Qh))
 (Qg (Jm rfl (YW Z.z_range Qf) (QT 16 ZE.nd) (Qg (QH 17 ZE.nd (QA (JG Z) hr.m (Qd (Q8 (Qc 4) (Zs (Qc 7)) QY) (Qd (Z1 Z.z_len (Qc 3)) (Qd (QL (Qc 6) (Qc 16)) Qh)))))
 (Qk (ZN (Yy (Qc 15) (QL (Qc 17) (QA (JG Z) hr.m (Qd (Q8 (Qc 4) QY (Zs (Qc 7))) (Qd (Z1 Z.z_len (Qc 3)) (Qd (QL (QL (Qc 6) (Qc 16)) Qf) Qh))))))))))
 (Qk (QP (Qz (Qd (Qz (Qd QO (Qd (Qc 14) (Qd (Qc 8) (Qd (Qc 10) Qh))))) (Qd (Qc 15) Qh)))))))))))))))
theorem HU(Z:Zk K mg ca):FnH P w K mg base ca "_law_bad_shape" 1 2 WJ:=Zo Z.u37 ZZ λ_ _ _ _ _ _ _ hr=>(Qg (Dv (Qc 1) (KI rfl (ZV (QT 2 ZZ.nd) (ZV (QT 3 ZZ.nd) (ZV (QT 4 ZZ.nd) (ZV (QT 5 ZZ.nd) KH))))))
 (Qg (QH 6 ZZ.nd (Yn (Qd (Qz (Qd QO Qh)) (Qd (Qz (Qd QO (Qd (J4 Qf) Qh))) (Qd (Qz (Qd QO (Qd (Qz Qh) (Qd Qf Qh)))) (Qd (Qz (Qd QO (Qd (Qz (Qd Qf Qh)) (Qd (J4 Qf) Qh)))) (Qd (Qz (Qd QO (Qd (Yn (Qd Qf Qh)) (Qd Qf Qh)))) (Qd (Qz (Qd QO (Qd Qf Qh))) (Qd Jl Qh)))))))))
 (Qg (QH 6 ZZ.nd (QL (Qc 6) (Yn (Qd (Qz (Qd QO (Qd (Qz (Qd Qf Qh)) Qh))) (Qd (Qz (Qd QO (Qd QO Qh))) (Qd (Qz (Qd QO (Qd (Qz (Qd Qf (Qd (J4 Qf) Qh))) (Qd Qf Qh)))) (Qd (Yn (Qd QO (Qd Qf Qh))) (Qd (Qz Qh) (Qd QO (Qd (Qz (Qd QO (Qd Qf (Qd Qf Qh)))) (Qd Qf Qh)))))))))))
 (Qg (QH 7 ZZ.nd (Qj (Qc 6) (Yh (Y3 (Qc 0) Qf) Qf)))
 (Qg (QH 8 ZZ.nd (Yh (Y3 (Qc 0) Qf) (QL (Z1 Z.z_len (Qc 4)) Qf)))
 (Qg (ZA (ZJ hr (Yh (Qc 0) Qf) Qf) (Qk (QP (Qz (Qd (J4 Qf) (Qd (Qc 3) (Qd (Qc 4) (Qd (Qc 5) Qh))))))) QN)
 (Qg (ZA (ZJ hr (Yh (Qc 0) Qf) Qf) (Qk (QP (Qz (Qd (Qc 2) (Qd (Qj (Yn (Qd QO (Qd QO (Qd QO (Qd Jl Qh))))) (Yh (Y3 (Qc 0) Qf) Qf)) (Qd (Qc 4) (Qd (Qc 5) Qh))))))) QN)
 (Qg (ZA (ZJ hr (Yh (Qc 0) Qf) Qf) (Qk (QP (Qz (Qd (Qc 2) (Qd (Qc 3) (Qd Jl (Qd (Qc 5) Qh))))))) QN)
 (Qg (ZA (ZJ hr (Yh (Qc 0) Qf) Qf) (Qk (QP (Qj (Yn (Qd (Qz (Qd (Qc 2) (Qd (Qc 3) (Qd (Qc 4) Qh)))) (Qd (Yn (Qd (Qc 2) (Qd (Qc 3) (Qd (Qc 4) (Qd (Qc 5) Qh))))) (Qd Jl (Qd (Qz (Qd (Qc 2) (Qd (Qc 3) (Qd (Qc 4) (Qd (Qc 5) (Qd Qf Qh)))))) Qh))))) (Yh (Y3 (Qc 0) Qf) Qf)))) QN)
 (Qg (ZA (ZJ hr (Yh (Qc 0) Qf) Qf) (Qk (QP (Qz (Qd (Qc 2) (Qd (Qc 3) (Qd (Qc 4) (Qd QO Qh))))))) QN)
 (Qg (ZA (ZJ hr (Yh (Qc 0) Qf) Qf) (Qk (QP (Qz (Qd Jl (Qd (Qc 3) (Qd (Qc 4) (Qd (Qc 5) Qh))))))) QN)
 (Qg (ZA (ZJ hr (Yh (Qc 0) Qf) Qf) (Qk (QP (Qz (Qd (Qc 2) (Qd (Qc 3) (Qd (Qc 4) (Qd (QL (Fn Z.z_list (Qc 5)) (Yn (Qd (Qc 7) Qh))) Qh))))))) QN)
 (Qk (QP (Qz (Qd (Qc 2) (Qd (Qc 3) (Qd (QL (QL (Fn Z.z_list (Q8 (Qc 4) QY (Zs (Qc 8)))) (Yn (Qd (Qc 7) Qh))) (Fn Z.z_list (Q8 (Qc 4) (Zs (Qc 8)) QY))) (Qd (Qc 5) Qh)))))))))))))))))))
theorem Pc(Z:Zk K mg ca):FnH P w K mg base ca "_law_extra" 1 1 FC:=Zo Z.u38 XM λ_ _ _ _ _ _ _ hr=>(Qg (QH 1 XM.nd (Yn Qh))
 (Qg (Jm rfl (ZM (Q8 (Qc 0) (Zs Qf) QY)) (QT 2 XM.nd) (Qg (QH 3 XM.nd (Yn Qh))
 (Qg (Jm rfl (ZM (Qc 2)) (QT 4 XM.nd) (Qg (ZA (ZJ hr (Qj (Qc 4) Qf) QO) (Qk (QH 4 XM.nd (Qz (Qd QO (Qd (Qj (Qc 4) Qf) (Qd (QL (Qj (Qc 4) Qf) Qf) Qh)))))) QN)
 (Qk (ZN (Yy (Qc 3) (Qc 4))))))
 (Qk (ZN (Yy (Qc 1) (JP Z.z_tuple (Qc 3))))))))
 (Qk (QP (QL (Q8 (Qc 0) QY (Zs Qf)) (JP Z.z_tuple (Qc 1)))))))
theorem NQ(Z:Zk K mg ca):FnH P w K mg base ca "_law_truths" 1 1 C3:=Zo Z.u39 J9 λ_ _ _ _ _ _ _ hr=>(Qg (QH 1 J9.nd (Yn Qh))
 (Qg (ZA (F6 (Qj (Qc 0) Qf) Qf) (Qk (ZN (Yy (Qc 1) (QL (Qz (Qd (Fm hr (Qj (Qc 0) Qf) Qf) Qh)) (Q8 (Qc 0) (Zs Qf) QY))))) QN)
 (Qg (Jm rfl (Dx Z.z_range Qf Qf) (QT 2 J9.nd) (Qk (Jm rfl (YW Z.z_range (Z1 Z.z_len (Qj (Qc 0) (Qc 2)))) (QT 3 J9.nd) (Qg (QH 4 J9.nd (Qj (Qj (Qc 0) (Qc 2)) (Qc 3)))
 (Qk (ZA (DK (Qj (Qc 4) (J4 Qf)) (Qz (Qd Qf (Qd Qf Qh)))) (Qg (QH 5 J9.nd (QL (QL (Q8 (Qj (Qc 0) (Qc 2)) QY (Zs (Qc 3))) (Qz (Qd (QL (Q8 (Qc 4) QY (Zs (J4 Qf))) (Qz (Qd (Fm hr (Qj (Qc 4) (J4 Qf)) Qf) Qh))) Qh))) (Q8 (Qj (Qc 0) (Qc 2)) (Zs (QL (Qc 3) Qf)) QY)))
 (Qk (ZN (Yy (Qc 1) (QL (QL (Q8 (Qc 0) QY (Zs (Qc 2))) (Qz (Qd (Qc 5) Qh))) (Q8 (Qc 0) (Zs (QL (Qc 2) Qf)) QY)))))) QN))))))
 (Qk (QP (Qc 1))))))
theorem NR(Z:Zk K mg ca):FnH P w K mg base ca "_law_spoilt" 2 4 C5:=Zo Z.u40 Zl λ_ _ _ _ _ _ _ hr=>(Qg (QH 4 Zl.nd (QA (Vz Z) hr.m (Qd (Qc 0) (Qd (Qc 1) Qh))))
 (Qg (Dv (Qc 2) (KI rfl (ZV (QT 5 Zl.nd) (ZV (QT 6 Zl.nd) (ZV (QT 7 Zl.nd) (ZV (QT 8 Zl.nd) KH))))))
 (Qg (Kp 9 Zl.nd (ZG (Nb:=["_law_move"]) (no:=1) (cap:=[]) (N:=Bk) (sc:=Qm XN) rfl rfl (by decide +kernel)) rfl (ZM (Qc 8)) (λcl C s3 H3 ex=>⟨(QT 0 (show List.Nodup (["_law_move"]:List Str) by decide +kernel)),(IO (Kq hr (Qj (Qc 0) Qf) QO)),(Qc 0)⟩))
 (Qg (QH 10 Zl.nd (Yn (Qd (Qz (Qd (Qc 5) (Qd (Qc 6) (Qd (Qc 7) (Qd (Yn Qh) Qh))))) (Qd (Qz (Qd (Qc 5) (Qd (Qc 6) (Qd (Qc 7) (Qd (Qc 9) Qh))))) (Qd (Qz (Qd (Qc 5) (Qd (Qc 6) (Qd (Qc 7) (Qd (Q8 (Qc 8) QY (Zs (J4 Qf))) Qh))))) Qh)))))
 (Qg (QH 11 Zl.nd (Qj (Yn (Qd Jl (Qd (Qz (Qd QO Qh)) (Qd (Qz Qh) (Qd QO (Qd (Qz (Qd QO (Qd QO Qh))) (Qd (Qz (Qd QO (Qd Qf Qh))) (Qd (Qz (Qd QO (Qd QO Qh))) (Qd Qf Qh))))))))) (Yh (Qc 4) Qf)))
 (Qg (ZN (Yy (Qc 10) (Qz (Qd (Qc 5) (Qd (Qc 6) (Qd (Qc 7) (Qd (QL (Qc 8) (Yn (Qd (Qc 11) Qh))) Qh)))))))
 (Qg (QH 10 Zl.nd (QL (Qc 10) (Yn (Qd (Qz (Qd (Qc 5) (Qd (QL (Qc 6) Qf) (Qd (Qc 7) (Qd (Qc 8) Qh))))) (Qd (Qz (Qd (Qc 5) (Qd (VX (Qc 6) Qf) (Qd (Qc 7) (Qd (Qc 8) Qh))))) (Qd (Qz (Qd (Qc 5) (Qd (J4 (Qc 6)) (Qd (Qc 7) (Qd (Qc 8) Qh))))) Qh))))))
 (Qg (QH 10 Zl.nd (QL (Qc 10) (Yn (Qd (Qz (Qd (Qc 5) (Qd (Qj (Yn (Qd Jl (Qd QO (Qd Km (Qd (Qz (Qd Qf Qh)) Qh))))) (Yh (Y3 (Qc 4) Qf) Qf)) (Qd (Qc 7) (Qd (Qc 8) Qh))))) Qh))))
 (Qg (QH 12 Zl.nd (QL (Qz (Qd (Yh (QL (QL (Qj (Qc 7) Qf) Qf) (Yh (Y3 (Qc 4) Qf) (VX (Qc 3) Qf))) (Qc 3)) Qh)) (Q8 (Qc 7) (Zs Qf) QY)))
 (Qg (QH 13 Zl.nd (Qz (Qd (Qj (Qc 7) Qf) (Qd (Qj QO (LH Z.z_int (Fm hr (Qj (Qc 7) Qf) QO))) (Qd (Qj (Qc 7) Qf) (Qd (Qj (Qc 7) Qf) Qh))))))
 (Qg (QH 10 Zl.nd (QL (Qc 10) (XC (ZG (Nb:=["_law_one","_law_kind","_law_start_here","_law_row"]) (no:=1) (cap:=[5,6,8]) (N:=Bk) (sc:=Qm XN) rfl rfl (by decide +kernel)) rfl (ZM (Yn (Qd (Qc 12) (Qd (Qc 13) (Qd (QA (Pc Z) hr.m (Qd (Qc 7) Qh)) Qh))))) (λcl C s3 H3 ex=>⟨(QT 0 (show List.Nodup (["_law_one","_law_kind","_law_start_here","_law_row"]:List Str) by decide +kernel)),Bq,(Qz (Qd (Qc 1) (Qd (Qc 2) (Qd (Qc 0) (Qd (Qc 3) Qh)))))⟩))))
 (Qg (QH 10 Zl.nd (QL (Qc 10) (XC (ZG (Nb:=["_law_one","_law_kind","_law_start_here","_law_row"]) (no:=1) (cap:=[5,6,8]) (N:=Bk) (sc:=Qm XN) rfl rfl (by decide +kernel)) rfl (ZM (QA (NQ Z) hr.m (Qd (Qc 7) Qh))) (λcl C s3 H3 ex=>⟨(QT 0 (show List.Nodup (["_law_one","_law_kind","_law_start_here","_law_row"]:List Str) by decide +kernel)),Bq,(Qz (Qd (Qc 1) (Qd (Qc 2) (Qd (Qc 0) (Qd (Qc 3) Qh)))))⟩))))
 (Qg (Jm rfl (YW Z.z_range (Z1 Z.z_len (Qc 8))) (QT 14 Zl.nd) (Qk (ZA (SV (Fj (ZJ hr (Z1 Z.z_len (Qj (Qc 8) (Qc 14))) Qf) (Co (F6 (Qj (Qj (Qc 8) (Qc 14)) Qf) Qf)))) (Qk (ZN (Yy (Qc 10) (Qz (Qd (Qc 5) (Qd (Qc 6) (Qd (Qc 7) (Qd (QL (QL (Q8 (Qc 8) QY (Zs (Qc 14))) (Yn (Qd (QL (Q8 (Qj (Qc 8) (Qc 14)) QY (Zs Qf)) (Qz (Qd (Fm hr (Qj (Qj (Qc 8) (Qc 14)) Qf) Qf) Qh))) Qh))) (Q8 (Qc 8) (Zs (QL (Qc 14) Qf)) QY)) Qh)))))))) QN)))
 (Qg (ZN (Yy (Qc 10) (Qz (Qd (Qc 5) (Qd (Qc 6) (Qd (QA (HU Z) hr.m (Qd (Y3 (Qc 4) Qf) (Qd (Qc 7) Qh))) (Qd (Qc 8) Qh)))))))
 (Qg (QH 10 Zl.nd (QL (Qc 10) (Yn (Qd (Qz (Qd (Qc 5) (Qd (Qc 6) (Qd (Qc 7) (Qd Jl Qh))))) (Qd (Qz (Qd (Qc 5) (Qd (Qc 6) (Qd (Qc 7) (Qd QO Qh))))) (Qd (Qz (Qd (Qc 5) (Qd (Qc 6) (Qd (Qc 7) Qh)))) (Qd (Qz Qh) Qh)))))))
 (Qk (QP (QL (Qc 10) (Yn (Qd (Qz (Qd (Qc 5) (Qd (Qc 6) (Qd (Qc 7) (Qd (Qc 8) (Qd Qf Qh)))))) (Qd (Qz (Qd QO (Qd (Qc 6) (Qd (Qc 7) (Qd (Qc 8) Qh))))) (Qd (Fn Z.z_list (Qc 2)) (Qd Jl (Qd QO (Qd Qf Qh)))))))))))))))))))))))))
theorem HV(Z:Zk K mg ca):FnH P w K mg base ca "after_moves" 8 3 Zz:=Zo Z.u41 Xv λ_ _ _ _ _ _ _ hr=>(Qg (ZN (QA (V5 Z) hr.m (Qd (Qc 0) (Qd (Qc 1) Qh))))
 (Qg (QH 3 Xv.nd (QA (Cm Z) hr.m (Qd (Qc 1) Qh)))
 (Qg (Jm rfl (ZM (Qc 2)) (QT 4 Xv.nd) (Qk (QH 3 Xv.nd (QA (CP Z) hr.m (Qd (Qc 0) (Qd (Qc 3) (Qd (Qc 4) Qh)))))))
 (Qk (QP (Qc 3))))))
theorem Ms(Z:Zk K mg ca):MkH P w K mg base ca 12 "Walk" 1 3 VZ:=by
 obtain⟨f,fd,F,hm⟩:=Z.u42;exact⟨⟨f,fd,["self","machine","shot"],Bp F Mi rfl rfl (λcdv A outer s H E hr=>(Qg (Jz (Qc 0) (ZW (Qc 1) Z.a_table) Z.a_table)
 (Qg (Jz (Qc 0) (Qj (Qc 2) Qf) Z.a_state)
 (Qg (Jz (Qc 0) (Qj (Qc 2) Qf) Z.a_place)
 (Qg (Jz (Qc 0) (XC (ZG (Nb:=["place","sign","self"]) (no:=2) (cap:=[0]) (N:=Ce) (sc:=Qm Y0) rfl rfl (by decide +kernel)) rfl (ZM (Qj (Qc 2) Qf)) (λcl C s3 H3 ex=>⟨(KI rfl (ZV (QT 0 (show List.Nodup (["place","sign","self"]:List Str) by decide +kernel)) (ZV (QT 1 (show List.Nodup (["place","sign","self"]:List Str) by decide +kernel)) KH))),(IO (F6 (Qc 0) (ZW (Qc 2) Z.a_place))),(Qz (Qd (Qc 0) (Qd (Qc 1) Qh)))⟩)) Z.a_left_marks)
 (Qk (Jz (Qc 0) (XC (ZG (Nb:=["place","sign","self"]) (no:=2) (cap:=[0]) (N:=Ce) (sc:=Qm Y0) rfl rfl (by decide +kernel)) rfl (PJ Z.z_reversed (Qj (Qc 2) Qf)) (λcl C s3 H3 ex=>⟨(KI rfl (ZV (QT 0 (show List.Nodup (["place","sign","self"]:List Str) by decide +kernel)) (ZV (QT 1 (show List.Nodup (["place","sign","self"]:List Str) by decide +kernel)) KH))),(IO (Py (Qc 0) (ZW (Qc 2) Z.a_place))),(Qz (Qd (Qc 0) (Qd (Qc 1) Qh)))⟩)) Z.a_right_marks))))))),hm.1,hm.2,F.binds (ps:=["self","machine","shot"]) (λ_ _ _ _ _ _ us hl=>by obtain⟨_,_,_,rfl⟩:=L3.len3 hl;rfl)⟩,Xg _ _ _⟩
theorem J0(Z:Zk K mg ca):MtH P w K mg base ca 12 "is_on_mark" 1 1 ZF:=by obtain⟨f,fd,F,hm⟩:=Z.u43;exact⟨⟨f,fd,["self"],Bp F Eu rfl rfl (λcdv A outer s H E hr=>(Qk (QP (VD (kZ (Z1 Z.z_len (ZW (Qc 0) Z.a_right_marks)) Qf) (CJ (Fm hr (Qj (Qj (ZW (Qc 0) Z.a_right_marks) (J4 Qf)) Qf) (ZW (Qc 0) Z.a_place))))))),hm.1,hm.2,F.binds (ps:=["self"]) (λ_ _ _ _ _ _ us hl=>by obtain⟨_,rfl⟩:=L3.len1 hl;rfl)⟩,Xg _ _ _⟩
theorem ID(Z:Zk K mg ca):MtH P w K mg base ca 12 "entry" 2 1 Vs:=by
 obtain⟨f,fd,F,hm⟩:=Z.u44;exact⟨⟨f,fd,["self"],Bp F CO rfl rfl (λcdv A outer s H E hr=>(Qg (QH 1 CO.nd (Vl (Y2 (VV (J0 Z) hr.m (Qc 0))) (Qj (Qj (ZW (Qc 0) Z.a_right_marks) (J4 Qf)) Qf) (CV Z.g_BLANK)))
 (Qk (QP (Qj (Qj (ZW (Qc 0) Z.a_table) (ZW (Qc 0) Z.a_state)) (Qc 1)))))),hm.1,hm.2,F.binds (ps:=["self"]) (λ_ _ _ _ _ _ us hl=>by obtain⟨_,rfl⟩:=L3.len1 hl;rfl)⟩,Xg _ _ _⟩
theorem Gx(Z:Zk K mg ca):MtH P w K mg base ca 12 "go_left" 1 1 Xm:=by
 obtain⟨f,fd,F,hm⟩:=Z.u45;exact⟨⟨f,fd,["self"],Bp F Gu rfl rfl (λcdv A outer s H E hr=>(Qg (Jz (Qc 0) (VX (ZW (Qc 0) Z.a_place) Qf) Z.a_place)
 (Qk (ZA (SV (Fj (Px (Z1 Z.z_len (ZW (Qc 0) Z.a_left_marks)) Qf) (Co (ZJ hr (Qj (Qj (ZW (Qc 0) Z.a_left_marks) (J4 Qf)) Qf) (ZW (Qc 0) Z.a_place))))) (Qk (ZN (Yy (ZW (Qc 0) Z.a_right_marks) (DG (ZW (Qc 0) Z.a_left_marks))))) QN)))),hm.1,hm.2,F.binds (ps:=["self"]) (λ_ _ _ _ _ _ us hl=>by obtain⟨_,rfl⟩:=L3.len1 hl;rfl)⟩,Xg _ _ _⟩
theorem FX(Z:Zk K mg ca):MtH P w K mg base ca 12 "go_right" 2 1 JQ:=by
 obtain⟨f,fd,F,hm⟩:=Z.u46;exact⟨⟨f,fd,["self"],Bp F FS rfl rfl (λcdv A outer s H E hr=>(Qg (ZA (Y2 (VV (J0 Z) hr.m (Qc 0))) (Qk (ZN (Yy (ZW (Qc 0) Z.a_left_marks) (DG (ZW (Qc 0) Z.a_right_marks))))) QN)
 (Qk (Jz (Qc 0) (QL (ZW (Qc 0) Z.a_place) Qf) Z.a_place)))),hm.1,hm.2,F.binds (ps:=["self"]) (λ_ _ _ _ _ _ us hl=>by obtain⟨_,rfl⟩:=L3.len1 hl;rfl)⟩,Xg _ _ _⟩
theorem IE(Z:Zk K mg ca):MtH P w K mg base ca 12 "write" 2 2 Vt:=by
 obtain⟨f,fd,F,hm⟩:=Z.u47;exact⟨⟨f,fd,["self","sign"],Bp F Ix rfl rfl (λcdv A outer s H E hr=>(Qg (ZA (Y2 (VV (J0 Z) hr.m (Qc 0))) (Qk (ZN (DG (ZW (Qc 0) Z.a_right_marks)))) QN)
 (Qk (ZA (Kq hr (Qc 1) (CV Z.g_BLANK)) (Qk (ZN (Yy (ZW (Qc 0) Z.a_right_marks) (Qz (Qd (ZW (Qc 0) Z.a_place) (Qd (Qc 1) Qh)))))) QN)))),hm.1,hm.2,F.binds (ps:=["self","sign"]) (λ_ _ _ _ _ _ us hl=>by obtain⟨_,_,rfl⟩:=L3.len2 hl;rfl)⟩,Xg _ _ _⟩
theorem Gy(Z:Zk K mg ca):MtH P w K mg base ca 12 "stepped" 3 1 ZX:=by
 obtain⟨f,fd,F,hm⟩:=Z.u48;exact⟨⟨f,fd,["self"],Bp F Bu rfl rfl (λcdv A outer s H E hr=>(Qg (QH 1 Bu.nd (VV (ID Z) hr.m (Qc 0)))
 (Qg (ZA (G0 (Qc 1) Jl) (Qk (QP Km)) QN)
 (Qg (ZN (Dw (IE Z) hr.m (Qc 0) (Qd (Qj (Qc 1) Qf) Qh)))
 (Qg (ZA (ZJ hr (Qj (Qc 1) Qf) (Zu Z.g_RIGHT)) (Qk (ZN (VV (FX Z) hr.m (Qc 0)))) (Qk (ZN (VV (Gx Z) hr.m (Qc 0)))))
 (Qg (Jz (Qc 0) (Qj (Qc 1) Qf) Z.a_state)
 (Qk (QP Km)))))))),hm.1,hm.2,F.binds (ps:=["self"]) (λ_ _ _ _ _ _ us hl=>by obtain⟨_,rfl⟩:=L3.len1 hl;rfl)⟩,Xg _ _ _⟩
theorem NS(Z:Zk K mg ca):MtH P w K mg base ca 12 "run" 4 2 C9:=by
 obtain⟨f,fd,F,hm⟩:=Z.u49;exact⟨⟨f,fd,["self","steps"],Bp F Ci rfl rfl (λcdv A outer s H E hr=>(Qg (QH 2 Ci.nd Qf)
 (Qg (eF (SV (Fj (F6 (Qc 2) (Qc 1)) (Co (Y2 (VV (Gy Z) hr.m (Qc 0)))))) (Qk (QH 2 Ci.nd (QL (Qc 2) Qf))))
 (Qk (QP (Qc 2)))))),hm.1,hm.2,F.binds (ps:=["self","steps"]) (λ_ _ _ _ _ _ us hl=>by obtain⟨_,_,rfl⟩:=L3.len2 hl;rfl)⟩,Xg _ _ _⟩
theorem Mt(Z:Zk K mg ca):MtH P w K mg base ca 12 "shot" 1 1 BQ:=by obtain⟨f,fd,F,hm⟩:=Z.u50;exact⟨⟨f,fd,["self"],Bp F Mm rfl rfl (λcdv A outer s H E hr=>(Qk (QP (Qz (Qd (ZW (Qc 0) Z.a_state) (Qd (ZW (Qc 0) Z.a_place) (Qd (QL (JP Z.z_tuple (ZW (Qc 0) Z.a_left_marks)) (On rfl Z.z_tuple Z.z_reversed (ZW (Qc 0) Z.a_right_marks))) Qh))))))),hm.1,hm.2,F.binds (ps:=["self"]) (λ_ _ _ _ _ _ us hl=>by obtain⟨_,rfl⟩:=L3.len1 hl;rfl)⟩,Xg _ _ _⟩
theorem Gf(Z:Zk K mg ca):FnH P w K mg base ca "cells_of" 1 2 KR:=Zo Z.u51 Cj λ_ _ _ _ _ _ _ hr=>(Qg (QH 2 Cj.nd (Yn Qh))
 (Qg (Jm rfl (ZM (Qc 0)) (QT 3 Cj.nd) (Qk (ZA (ZJ hr (Qj (Qc 3) Qf) (Zu Z.g_ONE)) (Qk (ZN (Yy (Qc 2) (Qj (Qc 3) Qf)))) (Qk (ZN (DU (Qc 2) (BI (Qj (Qc 3) Qf) (QL (Qc 1) (Qj (Qc 3) Qf)))))))))
 (Qk (QP (Qc 2)))))
theorem NT(Z:Zk K mg ca):FnH P w K mg base ca "laid_out" 7 2 Ec:=Zo Z.u52 V3 λ_ _ _ _ _ _ _ hr=>(Qg (ZN (QA (VR Z) hr.m (Qd (Qc 0) Qh)))
 (Qg (ZA (Xf (Y2 (QA (Yk Z) hr.m (Qd (Qc 1) Qh)))) (Qk (Z6 Z.e_NoShape hr.hd (Qd QO Qh))) QN)
 (Qg (QH 2 V3.nd (QA (Gf Z) hr.m (Qd (Qj (Qc 0) Qf) (Qd (Qc 1) Qh))))
 (Qg (QH 3 V3.nd (QL (Qc 2) (QA (Gf Z) hr.m (Qd (Qj (Qc 0) Qf) (Qd (Qc 1) Qh)))))
 (Qg (Kp 4 V3.nd (ZG (Nb:=["at","sign","left"]) (no:=2) (cap:=[2]) (N:=HN) (sc:=Qm Bl) rfl rfl (by decide +kernel)) rfl (DR Z.z_enumerate (Qc 3)) (λcl C s3 H3 ex=>⟨(KI rfl (ZV (QT 0 (show List.Nodup (["at","sign","left"]:List Str) by decide +kernel)) (ZV (QT 1 (show List.Nodup (["at","sign","left"]:List Str) by decide +kernel)) KH))),(IO (Kq hr (Qc 1) (CV Z.g_BLANK))),(Qz (Qd (VX (Qc 0) (Z1 Z.z_len (Qc 2))) (Qd (Qc 1) Qh)))⟩))
 (Qk (QP (Qz (Qd (Qj (Qc 0) Qf) (Qd (Vl (ZJ hr (Qj (Qc 0) Qf) (Zu Z.g_RIGHT)) Qf (J4 Qf)) (Qd (JP Z.z_tuple (Qc 4)) Qh)))))))))))
theorem Cn(Z:Zk K mg ca):FnH P w K mg base ca "add_stretch" 1 3 X1:=Zo Z.u53 HP λ_ _ _ _ _ _ _ hr=>(Qg (ZA (F6 (Qc 2) Qf) (Qk kS) QN)
 (Qk (ZA (SV (Fj (Px (Z1 Z.z_len (Qc 0)) Qf) (Co (ZJ hr (Qj (Qj (Qc 0) (J4 Qf)) Qf) (Qc 1))))) (Qk (XW (Qc 0) (J4 Qf) (Qz (Qd (Qc 1) (Qd (QL (Qj (Qj (Qc 0) (J4 Qf)) Qf) (Qc 2)) Qh))))) (Qk (ZN (Yy (Qc 0) (Qz (Qd (Qc 1) (Qd (Qc 2) Qh)))))))))
theorem HW(Z:Zk K mg ca):FnH P w K mg base ca "side_of" 2 1 Cs:=Zo Z.u54 XR λ_ _ _ _ _ _ _ hr=>(Qg (QH 1 XR.nd (Yn Qh))
 (Qg (QH 2 XR.nd Qf)
 (Qg (Jm rfl (ZM (Qc 0)) (KI rfl (ZV (QT 3 XR.nd) (ZV (QT 4 XR.nd) KH))) (Qg (ZN (QA (Cn Z) hr.m (Qd (Qc 1) (Qd (CV Z.g_BLANK) (Qd (VX (Qc 3) (Qc 2)) Qh)))))
 (Qg (ZN (QA (Cn Z) hr.m (Qd (Qc 1) (Qd (Qc 4) (Qd Qf Qh)))))
 (Qk (QH 2 XR.nd (QL (Qc 3) Qf))))))
 (Qk (QP (Qc 1))))))
theorem Bz(Z:Zk K mg ca):FnH P w K mg base ca "stretches_of" 3 1 Xo:=Zo Z.u55 JT λ_ _ _ _ _ _ _ hr=>(Qg (QH 1 JT.nd (Qj (Qc 0) Qf))
 (Qg (QH 2 JT.nd (QA (HW Z) hr.m (Qd (XC (ZG (Nb:=["place","sign","here"]) (no:=2) (cap:=[1]) (N:=VQ) (sc:=Qm Jv) rfl rfl (by decide +kernel)) rfl (PJ Z.z_reversed (Qj (Qc 0) Qf)) (λcl C s3 H3 ex=>⟨(KI rfl (ZV (QT 0 (show List.Nodup (["place","sign","here"]:List Str) by decide +kernel)) (ZV (QT 1 (show List.Nodup (["place","sign","here"]:List Str) by decide +kernel)) KH))),(IO (F6 (Qc 0) (Qc 2))),(Qz (Qd (VX (VX (Qc 2) Qf) (Qc 0)) (Qd (Qc 1) Qh)))⟩)) Qh)))
 (Qg (QH 3 JT.nd (QA (HW Z) hr.m (Qd (XC (ZG (Nb:=["place","sign","here"]) (no:=2) (cap:=[1]) (N:=VQ) (sc:=Qm Jv) rfl rfl (by decide +kernel)) rfl (ZM (Qj (Qc 0) Qf)) (λcl C s3 H3 ex=>⟨(KI rfl (ZV (QT 0 (show List.Nodup (["place","sign","here"]:List Str) by decide +kernel)) (ZV (QT 1 (show List.Nodup (["place","sign","here"]:List Str) by decide +kernel)) KH))),(IO (Py (Qc 0) (Qc 2))),(Qz (Qd (VX (Qc 0) (Qc 2)) (Qd (Qc 1) Qh)))⟩)) Qh)))
 (Qk (QP (Qz (Qd (Qj (Qc 0) Qf) (Qd (Qc 2) (Qd (Qc 3) Qh)))))))))
theorem NU(Z:Zk K mg ca):FnH P w K mg base ca "comes_to" 8 3 JW:=Zo Z.u56 Gd λ_ _ _ _ _ _ _ hr=>(Qg (QH 3 Gd.nd (LF (Ms Z) hr.m (Qd (Qc 0) (Qd (EN Z.g_FIRST_SHOT) Qh))))
 (Qg (ZA (F6 (Dw (NS Z) hr.m (Qc 3) (Qd (Qc 1) Qh)) (Qc 1)) (Qk (QP Km)) QN)
 (Qk (QP (Fm hr (QA (Bz Z) hr.m (Qd (VV (Mt Z) hr.m (Qc 3)) Qh)) (QA (Bz Z) hr.m (Qd (QA (NT Z) hr.m (Qd (Qc 2) (Qd Qf Qh))) Qh)))))))
theorem FY(Z:Zk K mg ca):FnH P w K mg base ca "is_grow_paper" 3 1 Ze:=Zo Z.u57 FU λ_ _ _ _ _ _ _ hr=>(Qg (ZA (SV (EF (Xf (Y2 (BK .tuple Z.z_isinstance Z.z_tuple Kr (Qc 0)))) (EF (Kq hr (Z1 Z.z_len (Qc 0)) Qf) (CS (Kq hr (Qj (Qc 0) Qf) (Zu Z.g_GROW)))))) (Qk (QP Km)) QN)
 (Qk (QP (VD (QA (Yk Z) hr.m (Qd (Qj (Qc 0) Qf) Qh)) (CJ (PM Z.z_isinstance Z.z_list Z.z_tuple (Qj (Qc 0) Qf)))))))
theorem Kz(Z:Zk K mg ca):FnH P w K mg base ca "raised_tokens" 2 1 JR:=Zo Z.u58 FV λ_ _ _ _ _ _ _ hr=>(Qk (QP (JP Z.z_tuple (XC (ZG (Nb:=["token"]) (no:=1) (cap:=[]) (N:=Bv) (sc:=Qm JU) rfl rfl (by decide +kernel)) rfl (ZM (Qc 0)) (λcl C s3 H3 ex=>⟨(QT 0 (show List.Nodup (["token"]:List Str) by decide +kernel)),Bq,(QA (Bw Z) hr.m (Qd (Qc 0) Qh))⟩)))))
theorem A0(Z:Zk K mg ca):FnH P w K mg base ca "raised" 7 1 Kt:=Zo Z.u59 AZ λ_ _ _ _ _ _ _ hr=>(Qg (ZN (QA (VR Z) hr.m (Qd (Qc 0) Qh)))
 (Qk (QP (Qz (Qd (Qj (Qc 0) Qf) (Qd (Qj (Qc 0) Qf) (Qd (QA (Kz Z) hr.m (Qd (Qj (Qc 0) Qf) Qh)) (Qd (QA (Kz Z) hr.m (Qd (Qj (Qc 0) Qf) Qh)) Qh))))))))
theorem X4(Z:Zk K mg ca):FnH P w K mg base ca "takes_grow" 9 2 ZY:=Zo Z.u60 Kg λ_ _ _ _ _ _ _ hr=>(Qg (ZA (Xf (Y2 (QA (FY Z) hr.m (Qd (Qc 1) Qh)))) (Qk (QP Km)) QN)
 (Qg (QH 2 Kg.nd (Qj (Qc 1) Qf))
 (Qg (oK (Qk (QH 3 Kg.nd (QA (HV Z) hr.m (Qd (Qc 0) (Qd (Qc 2) (Qd (Qj (Qc 1) Qf) Qh)))))) (DM Z.t_NoShape (λa=>(Qk (QP Km))) (DM Z.t_NoMove (λa=>(Qk (QP Km))) lE)))
 (Qk (QP (VD (oP hr (EN Z.g_STEP) (Qj (Qc 1) Qf)) (VD (Fm hr (Qc 3) (QA (A0 Z) hr.m (Qd (Qc 2) Qh))) (CJ (QA (NU Z) hr.m (Qd (Qc 0) (Qd (Qj (Qc 1) Qf) (Qd (Qc 2) Qh))))))))))))
theorem Pd(Z:Zk K mg ca):FnH P w K mg base ca "_law_round" 10 2 FF:=Zo Z.u61 Jw λ_ _ _ _ _ _ _ hr=>(Qg (Dv (QA (Mp Z) hr.m (Qd (Qc 0) (Qd (Qc 1) Qh))) (KI rfl (ZV (QT 2 Jw.nd) (ZV (QT 3 Jw.nd) (ZV (QT 4 Jw.nd) KH)))))
 (Qg (QH 5 Jw.nd (Qj (QA (Pb Z) hr.m (Qd (Qc 0) (Qd (Qc 1) (Qd (Qc 2) (Qd (Qc 3) (Qd (Qc 4) Qh)))))) Qf))
 (Qg (QH 6 Jw.nd (LF (Vj Z) hr.m (Qd (Qc 2) Qh)))
 (Qg (ZA (LK (QA (X4 Z) hr.m (Qd (Qc 6) (Qd (Qc 5) Qh))) Km) (Qk (QP Km)) QN)
 (Qg (Jm rfl (ZM (QA (NR Z) hr.m (Qd (Qc 0) (Qd (Qc 1) (Qd (Qc 5) (Qd (Z1 Z.z_len (Qc 2)) Qh)))))) (QT 7 Jw.nd) (Qk (ZA (LK (QA (X4 Z) hr.m (Qd (Qc 6) (Qd (Qc 7) Qh))) Km) (Qk (QP Km)) QN)))
 (Qg (Kp 8 Jw.nd (ZG (Nb:=["_law_line"]) (no:=1) (cap:=[]) (N:=Ll) (sc:=Qm CD) rfl rfl (by decide +kernel)) rfl (ZM (Qc 2)) (λcl C s3 H3 ex=>⟨(QT 0 (show List.Nodup (["_law_line"]:List Str) by decide +kernel)),Bq,(Fn Z.z_list (Qc 0))⟩))
 (Qg (XW (Qj (Qc 8) Qf) Qf Jl)
 (Qg (ZA (LK (QA (X4 Z) hr.m (Qd (LF (Vj Z) hr.m (Qd (Qc 8) Qh)) (Qd (Qc 5) Qh))) Km) (Qk (QP Km)) QN)
 (Qk (QP (oN (QA (X4 Z) hr.m (Qd (Qc 6) (Qd (Qc 5) Qh))) Km)))))))))))
theorem mH(Z:Zk K mg ca){f:Addr}{fd:FuncData}(F:Fun K "law" "law" Sx f fd):FnOk P w K mg base (Of P w ca) 11 f fd ["_law_script"] (SX K ca 1 PP):=Bp F O6 rfl rfl (λcdv A outer s H E hr=>(Qg (QH 1 O6.nd (Yn (Qd Qf Qh)))
 (Qg (Jm rfl (YW Z.z_range (QL Qf (Y3 (Z1 Z.z_len (Q8 (Qc 0) QY (Zs Qf))) Qf))) (QT 2 O6.nd) (Qk (ZA (Xf (Y2 (QA (Pd Z) hr.m (Qd (Qc 0) (Qd (Qc 1) Qh))))) (Qk (QP Km)) QN)))
 (Qk (QP Km)))))
end
def HX(l:List Nat)(n:Nat):Addr:=l.getD n 0
def FA(K:Frag)(x:Str)(st:Stmt):Prop:=∃(f:Addr)(oc kV dc pm cd ct:Value)(od an:Option Addr)(sl:Array (Option Value)),nsIn K mainGlobals x=some (some (.ref f))/\K.lookup f=some ⟨oc,od,.func (fnOf x x (YL st) (Ys st) (Qm st) .none kV dc pm an cd ct),sl⟩/\codeIn K cd x=true/\keepIn K (.ref f)=true
theorem fa_mk{K:Frag}{x:Str}{st:Stmt}{f:Addr}{oc kV dc pm cd ct:Value}{od an:Option Addr}{sl:Array (Option Value)}(a:nsIn K mainGlobals x=some (some (.ref f)))(l:K.lookup f=some ⟨oc,od,.func (fnOf x x (YL st) (Ys st) (Qm st) .none kV dc pm an cd ct),sl⟩)(d:codeIn K cd x=true)(k:keepIn K (.ref f)=true):FA K x st:=⟨f,oc,kV,dc,pm,cd,ct,od,an,sl,a,l,d,k⟩
theorem FA.u{K:Frag}{h:Heap}{mg:KB}{x:Str}{st:Stmt}(a:FA K x st)(X:K.In h)(G:h.Ns mainGlobals mg):UF K mg x st:=by obtain⟨f,oc,kV,dc,pm,cd,ct,od,an,sl,a,l,d,k⟩:=a;exact⟨f,_,VB l d k,UT X G a⟩
theorem z_mk{K:Frag}{h:Heap}{mg:KB}(X:K.In h)(G:h.Ns mainGlobals mg){C0 C1 C7 C8 C11 C12:Addr}{oc54 kV54 dc54 pm54 cd54 ct54:Value}{od54 an54:Option Addr}{sl54:Array (Option Value)}{f54:Addr}{oc55 kV55 dc55 pm55 cd55 ct55:Value}{od55 an55:Option Addr}{sl55:Array (Option Value)}{f55:Addr}{oc56 kV56 dc56 pm56 cd56 ct56:Value}{od56 an56:Option Addr}{sl56:Array (Option Value)}{f56:Addr}{oc57 kV57 dc57 pm57 cd57 ct57:Value}{od57 an57:Option Addr}{sl57:Array (Option Value)}{f57:Addr}{oc58 kV58 dc58 pm58 cd58 ct58:Value}{od58 an58:Option Addr}{sl58:Array (Option Value)}{f58:Addr}{oc59 kV59 dc59 pm59 cd59 ct59:Value}{od59 an59:Option Addr}{sl59:Array (Option Value)}{f59:Addr}{oc60 kV60 dc60 pm60 cd60 ct60:Value}{od60 an60:Option Addr}{sl60:Array (Option Value)}{f60:Addr}{oc61 kV61 dc61 pm61 cd61 ct61:Value}{od61 an61:Option Addr}{sl61:Array (Option Value)}{f61:Addr}{oc62 kV62 dc62 pm62 cd62 ct62:Value}{od62 an62:Option Addr}{sl62:Array (Option Value)}{f62:Addr}{oc63 kV63 dc63 pm63 cd63 ct63:Value}{od63 an63:Option Addr}{sl63:Array (Option Value)}{f63:Addr}{og_BLANK:_}{og_FIRST_SHOT:Addr}{og_GROW:_}{og_LEFT:_}{og_MANY:_}{og_MOST_STEPS_OVER:_}{og_ONE:_}{og_OPEN:Addr}{og_OVER:Addr}{og_RIGHT:_}{og_STEP:Addr}(c0:nsIn K mainGlobals "TapeError"=some (some (.ref C0)))(c1:nsIn K mainGlobals "NoMachine"=some (some (.ref C1)))(c7:nsIn K mainGlobals "NoShape"=some (some (.ref C7)))(c8:nsIn K mainGlobals "NoMove"=some (some (.ref C8)))(c11:nsIn K mainGlobals "Machine"=some (some (.ref C11)))(c12:nsIn K mainGlobals "Walk"=some (some (.ref C12)))(a1:FA K "is_whole" Ek)(a2:FA K "is_below" El)(a3:FA K "is_entry" Em)(a4:FA K "check_rows" Vw)(a5:FA K "_law_next" HG)(a6:FA K "_law_table" FL)(a7:FA K "_law_bouncer" J8)(a8:FA K "_law_round_steps" Vg)(a9:FA K "_law_start" FM)(a10:FA K "in_place_of_ahead" JJ)(a11:FA K "gone_on" FN)(a12:FA K "token_ahead" WZ)(a13:FA K "many_ahead" Bg)(a14:FA K "word_behind" W0)(a15:FA K "after_over" Bh)(a16:FA K "with_end" Eo)(a17:FA K "place_of_many" Vh)(a18:FA K "ones_of" CB)(a19:FA K "raised_token" VO)(a20:FA K "with_ones_taken_in" Jt)(a21:FA K "with_many" Ca)(a22:FA K "after_put_together" Ju)(a23:FA K "after_step" Bi)(a24:FA K "after_move" Bj)(a25:FA K "is_from_nought" XJ)(a26:FA K "is_word" CC)(a27:FA K "is_token" Ep)(a28:FA K "check_tokens" Xu)(a29:FA K "check_shape" Kb)(a30:FA K "signs_in" Er)(a31:FA K "signs_of" Es)(a32:FA K "states_of" Cd)(a33:FA K "check_shape_of" XL)(a34:FA K "with_tuples" Kc)(a35:FA K "moved" Mh)(a36:FA K "_law_paper" FQ)(a37:FA K "_law_bad_shape" Kd)(a38:FA K "_law_extra" FR)(a39:FA K "_law_truths" Et)(a40:FA K "_law_spoilt" XN)(a41:FA K "after_moves" Ke)(a42:FA K "cells_of" Ev)(a43:FA K "laid_out" Bl)(a44:FA K "add_stretch" Kf)(a45:FA K "side_of" FT)(a46:FA K "stretches_of" Jv)(a47:FA K "comes_to" Ew)(a48:FA K "is_grow_paper" Vi)(a49:FA K "raised_tokens" JU)(a50:FA K "raised" HQ)(a51:FA K "takes_grow" Bm)(a52:FA K "_law_round" CD)(a53:FA K "law" Sx)(a54:findIn K (.ref C11) "__init__"=some (some (.ref f54)))(l54:K.lookup f54=some ⟨oc54,od54,.func (fnOf "__init__" "Machine.__init__" (YL YA) (Ys YA) (Qm YA) .none kV54 dc54 pm54 an54 cd54 ct54),sl54⟩)(d54:codeIn K cd54 "Machine.__init__"=true)(k54:keepIn K (.ref f54)=true)(i54:isFn K (.ref f54)=true)(m54:makesIn K C11=true)(q54:keepIn K (.ref C11)=true)(a55:findIn K (.ref C12) "__init__"=some (some (.ref f55)))(l55:K.lookup f55=some ⟨oc55,od55,.func (fnOf "__init__" "Walk.__init__" (YL Y0) (Ys Y0) (Qm Y0) .none kV55 dc55 pm55 an55 cd55 ct55),sl55⟩)(d55:codeIn K cd55 "Walk.__init__"=true)(k55:keepIn K (.ref f55)=true)(i55:isFn K (.ref f55)=true)(m55:makesIn K C12=true)(q55:keepIn K (.ref C12)=true)(a56:findIn K (.ref C12) "is_on_mark"=some (some (.ref f56)))(l56:K.lookup f56=some ⟨oc56,od56,.func (fnOf "is_on_mark" "Walk.is_on_mark" (YL Yj) (Ys Yj) (Qm Yj) .none kV56 dc56 pm56 an56 cd56 ct56),sl56⟩)(d56:codeIn K cd56 "Walk.is_on_mark"=true)(k56:keepIn K (.ref f56)=true)(i56:isFn K (.ref f56)=true)(w56:G4 K C12=true)(a57:findIn K (.ref C12) "entry"=some (some (.ref f57)))(l57:K.lookup f57=some ⟨oc57,od57,.func (fnOf "entry" "Walk.entry" (YL JE) (Ys JE) (Qm JE) .none kV57 dc57 pm57 an57 cd57 ct57),sl57⟩)(d57:codeIn K cd57 "Walk.entry"=true)(k57:keepIn K (.ref f57)=true)(i57:isFn K (.ref f57)=true)(w57:G4 K C12=true)(a58:findIn K (.ref C12) "go_left"=some (some (.ref f58)))(l58:K.lookup f58=some ⟨oc58,od58,.func (fnOf "go_left" "Walk.go_left" (YL YY) (Ys YY) (Qm YY) .none kV58 dc58 pm58 an58 cd58 ct58),sl58⟩)(d58:codeIn K cd58 "Walk.go_left"=true)(k58:keepIn K (.ref f58)=true)(i58:isFn K (.ref f58)=true)(w58:G4 K C12=true)(a59:findIn K (.ref C12) "go_right"=some (some (.ref f59)))(l59:K.lookup f59=some ⟨oc59,od59,.func (fnOf "go_right" "Walk.go_right" (YL YJ) (Ys YJ) (Qm YJ) .none kV59 dc59 pm59 an59 cd59 ct59),sl59⟩)(d59:codeIn K cd59 "Walk.go_right"=true)(k59:keepIn K (.ref f59)=true)(i59:isFn K (.ref f59)=true)(w59:G4 K C12=true)(a60:findIn K (.ref C12) "write"=some (some (.ref f60)))(l60:K.lookup f60=some ⟨oc60,od60,.func (fnOf "write" "Walk.write" (YL JF) (Ys JF) (Qm JF) .none kV60 dc60 pm60 an60 cd60 ct60),sl60⟩)(d60:codeIn K cd60 "Walk.write"=true)(k60:keepIn K (.ref f60)=true)(i60:isFn K (.ref f60)=true)(w60:G4 K C12=true)(a61:findIn K (.ref C12) "stepped"=some (some (.ref f61)))(l61:K.lookup f61=some ⟨oc61,od61,.func (fnOf "stepped" "Walk.stepped" (YL YZ) (Ys YZ) (Qm YZ) .none kV61 dc61 pm61 an61 cd61 ct61),sl61⟩)(d61:codeIn K cd61 "Walk.stepped"=true)(k61:keepIn K (.ref f61)=true)(i61:isFn K (.ref f61)=true)(w61:G4 K C12=true)(a62:findIn K (.ref C12) "run"=some (some (.ref f62)))(l62:K.lookup f62=some ⟨oc62,od62,.func (fnOf "run" "Walk.run" (YL XQ) (Ys XQ) (Qm XQ) .none kV62 dc62 pm62 an62 cd62 ct62),sl62⟩)(d62:codeIn K cd62 "Walk.run"=true)(k62:keepIn K (.ref f62)=true)(i62:isFn K (.ref f62)=true)(w62:G4 K C12=true)(a63:findIn K (.ref C12) "shot"=some (some (.ref f63)))(l63:K.lookup f63=some ⟨oc63,od63,.func (fnOf "shot" "Walk.shot" (YL Xa) (Ys Xa) (Qm Xa) .none kV63 dc63 pm63 an63 cd63 ct63),sl63⟩)(d63:codeIn K cd63 "Walk.shot"=true)(k63:keepIn K (.ref f63)=true)(i63:isFn K (.ref f63)=true)(w63:G4 K C12=true)(nz_all:nsIn K mainGlobals "all"=some none)(nz_bool:nsIn K mainGlobals "bool"=some none)(nz_enumerate:nsIn K mainGlobals "enumerate"=some none)(nz_int:nsIn K mainGlobals "int"=some none)(nz_isinstance:nsIn K mainGlobals "isinstance"=some none)(nz_len:nsIn K mainGlobals "len"=some none)(nz_list:nsIn K mainGlobals "list"=some none)(nz_max:nsIn K mainGlobals "max"=some none)(nz_min:nsIn K mainGlobals "min"=some none)(nz_range:nsIn K mainGlobals "range"=some none)(nz_reversed:nsIn K mainGlobals "reversed"=some none)(nz_tuple:nsIn K mainGlobals "tuple"=some none)(ng_BLANK:nsIn K mainGlobals "BLANK"=some (some (.int 0 og_BLANK)))(ng_FIRST_SHOT:nsIn K mainGlobals "FIRST_SHOT"=some (some (.ref og_FIRST_SHOT)))(mg_FIRST_SHOT:Oo K 9 (.ref og_FIRST_SHOT) (.tup [(.int 0),(.int 0),(.tup [])])=true)(ng_GROW:nsIn K mainGlobals "GROW"=some (some (.str "grow" og_GROW)))(ng_LEFT:nsIn K mainGlobals "LEFT"=some (some (.str "l" og_LEFT)))(ng_MANY:nsIn K mainGlobals "MANY"=some (some (.str "many" og_MANY)))(ng_MOST_STEPS_OVER:nsIn K mainGlobals "MOST_STEPS_OVER"=some (some (.int 1000 og_MOST_STEPS_OVER)))(ng_ONE:nsIn K mainGlobals "ONE"=some (some (.str "one" og_ONE)))(ng_OPEN:nsIn K mainGlobals "OPEN"=some (some (.ref og_OPEN)))(mg_OPEN:Oo K 9 (.ref og_OPEN) (.tup [(.str "open")])=true)(ng_OVER:nsIn K mainGlobals "OVER"=some (some (.ref og_OVER)))(mg_OVER:Oo K 9 (.ref og_OVER) (.tup [(.str "over")])=true)(ng_RIGHT:nsIn K mainGlobals "RIGHT"=some (some (.str "r" og_RIGHT)))(ng_STEP:nsIn K mainGlobals "STEP"=some (some (.ref og_STEP)))(mg_STEP:Oo K 9 (.ref og_STEP) (.tup [(.str "step")])=true)(nt_NoMove:eV K (HX [C0,C1,0,0,0,0,0,C7,C8,0,0,C11,C12]) C8 [8] [0,1,7]=true)(nt_NoShape:eV K (HX [C0,C1,0,0,0,0,0,C7,C8,0,0,C11,C12]) C7 [7] [0,1,8]=true)(ne_NoMachine:excIn K C1 mM "ValueError.__new__"=true)(ne_NoMove:excIn K C8 mM "ValueError.__new__"=true)(ne_NoShape:excIn K C7 mM "ValueError.__new__"=true)(na_left_marks:Oi K (HX [C0,C1,0,0,0,0,0,C7,C8,0,0,C11,C12]) [12] "left_marks"=true)(na_place:Oi K (HX [C0,C1,0,0,0,0,0,C7,C8,0,0,C11,C12]) [12] "place"=true)(na_right_marks:Oi K (HX [C0,C1,0,0,0,0,0,C7,C8,0,0,C11,C12]) [12] "right_marks"=true)(na_state:Oi K (HX [C0,C1,0,0,0,0,0,C7,C8,0,0,C11,C12]) [12] "state"=true)(na_table:Oi K (HX [C0,C1,0,0,0,0,0,C7,C8,0,0,C11,C12]) [11,12] "table"=true):Zk K mg (HX [C0,C1,0,0,0,0,0,C7,C8,0,0,C11,C12]):=⟨UV X G nz_all,UV X G nz_bool,UV X G nz_enumerate,UV X G nz_int,UV X G nz_isinstance,UV X G nz_len,UV X G nz_list,UV X G nz_max,UV X G nz_min,UV X G nz_range,UV X G nz_reversed,UV X G nz_tuple,⟨_,UT X G ng_BLANK⟩,(G8 9 _ _ mg_FIRST_SHOT).elim λv h=>⟨_,v,UT X G ng_FIRST_SHOT,h.1,h.2⟩,⟨_,UT X G ng_GROW⟩,⟨_,UT X G ng_LEFT⟩,⟨_,UT X G ng_MANY⟩,⟨_,UT X G ng_MOST_STEPS_OVER⟩,⟨_,UT X G ng_ONE⟩,(G8 9 _ _ mg_OPEN).elim λv h=>⟨_,v,UT X G ng_OPEN,h.1,h.2⟩,(G8 9 _ _ mg_OVER).elim λv h=>⟨_,v,UT X G ng_OVER,h.1,h.2⟩,⟨_,UT X G ng_RIGHT⟩,(G8 9 _ _ mg_STEP).elim λv h=>⟨_,v,UT X G ng_STEP,h.1,h.2⟩,⟨UT X G c8,DN nt_NoMove⟩,⟨UT X G c7,DN nt_NoShape⟩,⟨UT X G c1,ne_NoMachine⟩,⟨UT X G c8,ne_NoMove⟩,⟨UT X G c7,ne_NoShape⟩,G5 na_left_marks,G5 na_place,G5 na_right_marks,G5 na_state,G5 na_table,a1.u X G,a2.u X G,a3.u X G,a4.u X G,⟨f54,_,VB (st:=YA) l54 d54 k54,⟨m54,a54,i54,q54⟩,UT X G c11⟩,a5.u X G,a6.u X G,a7.u X G,a8.u X G,a9.u X G,a10.u X G,a11.u X G,a12.u X G,a13.u X G,a14.u X G,a15.u X G,a16.u X G,a17.u X G,a18.u X G,a19.u X G,a20.u X G,a21.u X G,a22.u X G,a23.u X G,a24.u X G,a25.u X G,a26.u X G,a27.u X G,a28.u X G,a29.u X G,a30.u X G,a31.u X G,a32.u X G,a33.u X G,a34.u X G,a35.u X G,a36.u X G,a37.u X G,a38.u X G,a39.u X G,a40.u X G,a41.u X G,⟨f55,_,VB (st:=Y0) l55 d55 k55,⟨m55,a55,i55,q55⟩,UT X G c12⟩,⟨f56,_,VB (st:=Yj) l56 d56 k56,⟨a56,i56,k56⟩,KK w56⟩,⟨f57,_,VB (st:=JE) l57 d57 k57,⟨a57,i57,k57⟩,KK w57⟩,⟨f58,_,VB (st:=YY) l58 d58 k58,⟨a58,i58,k58⟩,KK w58⟩,⟨f59,_,VB (st:=YJ) l59 d59 k59,⟨a59,i59,k59⟩,KK w59⟩,⟨f60,_,VB (st:=JF) l60 d60 k60,⟨a60,i60,k60⟩,KK w60⟩,⟨f61,_,VB (st:=YZ) l61 d61 k61,⟨a61,i61,k61⟩,KK w61⟩,⟨f62,_,VB (st:=XQ) l62 d62 k62,⟨a62,i62,k62⟩,KK w62⟩,⟨f63,_,VB (st:=Xa) l63 d63 k63,⟨a63,i63,k63⟩,KK w63⟩,a42.u X G,a43.u X G,a44.u X G,a45.u X G,a46.u X G,a47.u X G,a48.u X G,a49.u X G,a50.u X G,a51.u X G,a52.u X G,a53.u X G⟩
theorem walk{l:PySem.W.OpenLaw}{p:Program}{loose:List Str}{XP:KB->Heap->Prop}{YP:World->Heap->Prop}{d:DefRec}{K:Params->Frag}(C:List Nat)(hn:l.most=some 63)(hdf:d.params.defaults=[])(hd:d.name ="law")(hY:∀(w:World) (h:Heap),YP w h->(K w.params).In h)(F:∀(w:World) (mg:KB) (h:Heap),(K w.params).In h->h.Ns mainGlobals mg->Zk (K w.params) mg (HX C))(M:∀ns:List Int,ns.length<=63->∃g',PP [.fl (ns.map D.int)] []=.ok (.bl true) g'):PySem.W.WalkO p loose XP YP l.row.toRowW d [] (λf vs=>PySem.call f vs):=by
 refine L2.walk_of (n:=63) (k:=11) (x:="_law_script") (CX:=λw=>Of l.prog w (HX C)) (sp:=λw=>SX (K w.params) (HX C) 1 PP) hn (by decide) hdf ⟨rfl,by decide,by decide⟩ hY (λw mg fa h KX G hmg=>?_) (λw H a ns hl hO hS=>lG hO hS (M ns hl)) (λw H s e s' z=>?_)
 ·have Z:=F w mg h KX G;obtain⟨f,fd,Fu,hm⟩:=Z.u62;rw[hd]at hmg;have e:=hmg.symm.trans hm;cases e;refine⟨fd,λs u=>?_,λbase _ _=>mH Z Fu⟩;obtain⟨oc,od,kV,doc,pm,an,cdv,ct,osl,rfl,lk,hcd⟩:=Fu.ex;exact .of_eq rfl
 ·obtain⟨_,_,_,_,_,_,_,_,_,_,z⟩:=z;exact z
end V
namespace V
open PySem PySem.W PySem.W.X PySem.Spec PyProof.Rows
theorem walkX_of{as:List Addr}{K:Params->Frag}{n t:Nat}{q:Program}{loose:List Str}{XP:KB->Heap->Prop}{r:RowW}{d:DefRec}{kwd:List (Str×PySem.Expr)}{run:Value->List Value->Sem Value}(e:∀P,as=(K P).map (·.1))(h:WalkO q loose XP (InK K) r d kwd run):WalkX q loose XP (obsZ as) (valZ K n t) r d kwd run:=λw s₀ s₁ mg mb G y a o pm cd doc dV kV h1 h2 h3 h4 h5 h6 args vals as' L p1 p2 p3 p4 p5=>
  h w s₀ s₁ mg mb G (InK.keeps w _ _ (z_facts e y).2.1 L.keeps) a o pm cd doc dV kV h1 h2 h3 h4 h5 h6 args vals as' p1 p2 p3 p4 p5
end V
noncomputable def PySem.W.Fast.tw7842425708542645596 : PySem.Program := PySem.Challenge.pw_tapeproof_k44_grow_not_taken
theorem PySem.W.Fast.te7842425708542645596 : PySem.Challenge.pw_tapeproof_k44_grow_not_taken=PySem.W.Fast.tw7842425708542645596 := rfl
namespace PySem.W.Fast
def tw16450425481634030697:=()
def tw20784381336897017:=()
def tw9036849244012188964:=()
def tw13125724053627409120:=()
def tw3843219299619250000:=()
def tw17221790583284149783:=()
def tw1106909381202069879:=()
def tw2447379092706438250:=()
def tw13856232269584946990:=()
def tw16970975790549151728:=()
def tw18259782775587646723:=()
def tw13793941011629471610:=()
def tw17679088050327513681:=()
def tw10253343869067578034:=()
def tw11222302094113200388:=()
def tw2487088809443997955:=()
def tw16168113588791808909:=()
def tw17602077891055284045:=()
def tw16002016791718487773:=()
def tw1912452842195494243:=()
def tw18273300317383925862:=()
def tw10997035768447138669:=()
def tw10839334619884079742:=()
def tw17189044839044617519:=()
def tw13900351564385350551:=()
def tw11806583737422633167:=()
def tw8857054879738441250:=()
def tw7367211894522421035:=()
def tw1428162025988573905:=()
def tw11366979319645777625:=()
def tw13674177404847489884:=()
def tw13876129968212456681:=()
def tw2019389617533517467:=()
def tw8324381259044355831:=()
def tw2354084634627661453:=()
def tw2178250873258337658:=()
def tw6776887203574353492:=()
def tw5373095514523985608:=()
def tw17773211539322093941:=()
def tw13428141274945814596:=()
def tw13956110792163340602:=()
def tw11793386925335149191:=()
def tw4683239236371692185:=()
def tw14274587672504396633:=()
def tw4493166340561645332:=()
def tw897656824330592075:=()
def tw8642002396629180242:=()
def tw12817754272462059847:=()
def tw876849696110431113:=()
def tw3151467928797408866:=()
def tw17266307468717945101:=()
def tw7513479839390231550:=()
def tw7299299271667811720:=()
def tw3122720966036817033:=()
def tw9910611845720220727:=()
def tw14553413789180069040:=()
def tw14931049378307670104:=()
def tw15615676127068208818:=()
def tw9097942551109285512:=()
def tw5459815259053801057:=()
def tw15499872717622934157:=()
def tw6222622090399038757:=()
def tw5465992949659034699:=()
def tw17189386386688943099:=()
def tw6008883282907442684:=()
def tw9988656570722273063:=()
def tw11956707174955357050:=()
def tw2065705090976812725:=()
def tw12989291961320895623:=()
def tw5328277162274625079:=()
def tw2854447629785502176:=()
def tw14966160796502455955:=()
def tw9688196792187387754:=()
def tw10608333777422056458:=()
def tw2494322570666634679:=()
def tw15106803247201187702:=()
def tw13157151121355461289:=()
def tw14342557496464858716:=()
def tw5747598207653604353:=()
def tw7339389728818611659:=()
def tw14497366081048046860:=()
def tw7624549829196570973:=()
def tw14071285945997285137:=()
def tw6787315046227455820:=()
def tw5295364900136136225:=()
def tw10864590822800203686:=()
def tw5630570545243229219:=()
def tw11154294834293577973:=()
def tw17830992921918835829:=()
def tw2383311595095361180:=()
def tw4319621697958165392:=()
def tw4589391914287939550:=()
def tw17660170080216205310:=()
def tw5351331164120070736:=()
def tw7737773773974660309:=()
def tw16624356710640491811:=()
def tw11841397144356882098:=()
def tw15930222366788761824:=()
def tw2194121625060084045:=()
def tw16165806867633456232:=()
def tw7926083322057749311:=()
def tw11068253899663756108:=()
def tw15844134128027049081:=()
def tw16399483031550718262:=()
def tw12227178910849433640:=()
def tw13176735692695632221:=()
def tw7923358194341567825:=()
def tw8590868637873691642:=()
def tw9698428290563396687:=()
def tw9170510725008055479:=()
def tw1607676472302754397:=()
def tw11521615571813280259:=()
def tw2862805152268536299:=()
def tw7608896258784353032:=()
def tw6681148645830207986:=()
def tw10558008181429587035:=()
def tw5092930394937775936:=()
def tw7636286115654697074:=()
def tw5818050609328679068:=()
def tw7115284815179106747:=()
def tw17909292741852544094:=()
def tw16582063177279785043:=()
def tw8934477623330727780:=()
def tw9046847488706644998:=()
def tw2542894405520425335:=()
def tw233151794625657279:=()
def tw12655465528076101841:=()
def tw1613042574621841785:=()
def tw9845181064233220727:=()
def tw3806590222233142932:=()
def tw9272614618159899579:=()
def tw15606752796972591491:=()
def tw9078594219792195675:=()
def tw12680682136724180957:=()
def tw6973750879828053099:=()
def tw434897867099780659:=()
def tw4063368028693737298:=()
def tw14061490467082191359:=()
def tw8278247029485863736:=()
def tw15708589382063461399:=()
def tw10551359067478121830:=()
def tw17237762038153315308:=()
def tw6721844864419859112:=()
def tw17540194440768347272:=()
def tw6970244514051172110:=()
def tw16002357380696567663:=()
def tw7135237318736300441:=()
def tw301386675833079606:=()
def tw8206283621989371532:=()
def tw15779234641634803990:=()
def tw367579324636144692:=()
def tw12970452387868398976:=()
def tw16835807116846846066:=()
def tw1927077148866465644:=()
def tw15985597416913378808:=()
def tw5933045199068517060:=()
def tw10644066272237747227:=()
def tw9449254090092864832:=()
end PySem.W.Fast
open PySem PySem.W PyProof.Rows
set_option maxRecDepth 100000 in
set_option maxHeartbeats 0 in
theorem PySem.Challenge.cw_tapeproof_k44_grow_not_taken_holds : PySem.Challenge.rw_tapeproof_k44_grow_not_taken.Holds := by
  w_on; o_law; z_head; (case hw=>w_witness2)
  k_fill
  refine V.walkX_of (fun P=>?E) (V.walk (l:=PySem.Challenge.rw_tapeproof_k44_grow_not_taken) [24,37,0,0,0,0,0,49,61,0,0,111,202] rfl rfl rfl (fun w h Y=>Y) ?F L3.law_true)
  case E=>kernel_rfl
  case F =>
    intro w mg h KX G
    refine' V.z_mk KX G ..
    rotate_right 158
    iterate 6 (focus k_is)
    iterate 53 (focus (refine' V.fa_mk ?_ ?_ ?_ ?_; rotate_right 4; iterate 4 focus k_is))
    iterate 19 (focus k_is)
    iterate 1 (focus kernel_rfl)
    iterate 5 (focus k_is)
    iterate 1 (focus kernel_rfl)
    iterate 5 (focus k_is)
    iterate 1 (focus kernel_rfl)
    iterate 5 (focus k_is)
    iterate 1 (focus kernel_rfl)
    iterate 5 (focus k_is)
    iterate 1 (focus kernel_rfl)
    iterate 5 (focus k_is)
    iterate 1 (focus kernel_rfl)
    iterate 5 (focus k_is)
    iterate 1 (focus kernel_rfl)
    iterate 5 (focus k_is)
    iterate 1 (focus kernel_rfl)
    iterate 14 (focus k_is)
    iterate 1 (focus kernel_rfl)
    iterate 6 (focus k_is)
    iterate 1 (focus kernel_rfl)
    iterate 1 (focus k_is)
    iterate 1 (focus kernel_rfl)
    iterate 2 (focus k_is)
    iterate 3 (focus kernel_rfl)
    iterate 3 (focus k_exc)
    iterate 5 (focus kernel_rfl)
