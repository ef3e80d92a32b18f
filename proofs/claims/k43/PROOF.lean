import PyProof.Rows.All
import Wide.All
import OpenK.AllK
import Wide.FinOn
import Lean
import PyProof.EqAt
import PyProof.EqKinds
import PyProof.TupleCall
import PySem.Challenge.RW_tapeproof_k43_grow_taken
local macro_rules | `(tactic| omega) => `(tactic| lia)
set_option Elab.async false
set_option linter.all false
set_option maxRecDepth 100000
noncomputable section
abbrev VP:=PySem.Value->PySem.Shared->Prop
abbrev Js:=List (PySem.Addr×PySem.Obj)
abbrev VX:=PySem.Str->Option PySem.Value
def Ua:=@List.length_map
def Ub:=@if_pos
def Uc:=@PySem.wpAny_bind
def Ud:=@if_neg
def Ue:=@List.size_toArray
def Uf:=@Bool.false_ne_true
def Ug:=@PySem.Heap.get?_push_of_some
def Uh:=@List.getElem?_set_ne
def Ui:=@Nat.le_refl
def Uj:=@List.getElem?_eq_some_iff
def Uk:=@List.getElem?_eq_getElem
def Ul:=@decide_eq_false
def Um:=@Nat.le_trans
def Uo:=@decide_eq_true
def Up:=@PySem.wpAny_pure
def Uq:=@List.getElem?_append_left
def Ur:=@List.mem_singleton
def Us:=@List.length_append
def Ut:=@PySem.Heap.lt_size
def Uu:=@List.all_eq_true
def Uv:=@List.mem_cons_of_mem
def Uw:=@List.getElem?_append_right
def Ux:=@List.take_succ_eq_append_getElem
def Uy:=@List.getElem?_map
def Uz:=@List.length_cons
def UA:=@PySem.Heap.get?_push_size
def UB:=@List.mem_cons_self
def UC:=@List.map_append
def UD:=@List.mem_append_right
def UE:=@List.mem_cons
def UG:=@Bool.and_eq_true
def UH:=@Nat.lt_of_lt_of_le
def UI:=@List.getElem_mem
def UJ:=@List.length_set
def UK:=@Int.emod_lt_of_pos
def UL:=@List.map_cons
def UM:=@List.mem_range
def UN:=@of_decide_eq_true
def UO:=@Nat.le_of_lt
def UP:=@List.find?_cons
def UQ:=@PySem.W.mg_of
def UR:=@Nat.ne_of_lt
def US:=@Int.toNat_natCast
def UT:=@Int.emod_nonneg
def UU:=@PySem.W.mg_none_of
def UV:=@List.replicate_succ
def UW:=@List.length_take
def UX:=@List.take_length
def UY:=@List.append_nil
def UZ:=@PyProof.Rows.slot_tuple_getitem
def U0:=@beq_eq_false_iff_ne
def U1:=@List.getD_eq_getElem?_getD
def U2:=@Option.bind_eq_some_iff
def U3:=@PySem.W.kia_one
def U4:=@List.map_map
def U5:=@PySem.wpAny_newObj_type
def U6:=@List.mem_append
def U7:=@List.length_reverse
def U8:=@Option.bind_some
def U9:=@List.length_replicate
def Ta:=@List.getElem?_eq_none
def Tc:=@PyProof.Rows.callWith_type1
def Td:=@PySem.wpAny_mono
def Te:=@List.mem_map
def Tf:=@Array.getElem?_eq_some_iff
def Tg:=@List.getElem?_set_self
def Th:=@PySem.Heap.get?_update_other
def Ti:=@List.take_of_length_le
def Tj:=@List.getElem?_eq_none_iff
def Tl:=@PySem.builtinLookup_eq_fast
def Tn:=@PySem.wpAny_field
def To:=@List.any_cons
def Tq:=@Nat.lt_succ_self
def Tr:=@beq_iff_eq
def Ts:=@List.reverse_cons
def Tt:=@Nat.lt_irrefl
def Tu:=@List.mem_append_left
def Tv:=@List.flatten_cons
def Tx:=@PySem.W.kia_tup
def Tz:=@List.filterMap_cons
def TB:=@Array.length_toList
def TC:=@PySem.mem_of_lookup
def TD:=@Option.map_eq_some_iff
def TF:=@Int.zero_add
def TH:=@List.filter_cons
def TJ:=@List.take_append_drop
def TK:=@List.mem_or_eq_of_mem_set
def TL:=@PySem.wpAny_passesOwn
def TM:=@PySem.typeLookup_type
def TN:=@PySem.wpAny_truthy_bool
def TQ:=@congrArg
def TR:=@List.length_pos_iff
def TU:=@List.getElem?_replicate
def TV:=@PySem.wpAny_callSpecial?_slot
def TW:=@List.length_drop
def TX:=@Nat.le_of_not_lt
def TY:=@PySem.Obj.data_mapFields
def TZ:=@Bool.false_eq_true
def T0:=@PySem.wpAny_of_eq
def T1:=@Nat.min_eq_left
def T3:=@PySem.Heap.get?_update_self
def T4:=@List.length_singleton
def T5:=@List.length_filter_le
def T6:=@PySem.W.kitx_list
def T7:=@List.getElem?_set
def T8:=@List.mem_of_getLast?
def T9:=@PySem.wpAny_setField
def Ra:=@PySem.wpAny_call_entry
def Rb:=@PySem.call_meets
def Rc:=@PySem.F.slot_tuple_mul
def Re:=@if_false
def Rf:=@Int.toNat_of_nonneg
def Rh:=@List.getElem_of_mem
def Ri:=@PySem.Heap.SameBut.update
def Rj:=@List.map_congr_left
def Rk:=@PySem.F.args_tuple_add_2
def Rm:=@PySem.wpAny_holding
def Rn:=@List.all_cons
def Ro:=@List.nodup_cons
def Rq:=@PySem.wpAny_specialOf
def Rr:=@Int.natCast_add
def Rs:=@PySem.wpAny_Call_Name_kw
def Rt:=@List.getElem?_take
def Ru:=@PySem.F.entry_tuple_add
def Rv:=@PySem.F.plainAttrs_list
def Rw:=@List.getElem?_cons_succ
def Rx:=@List.getElem?_cons_zero
def Ry:=@PySem.sizeLine_eq
def Rz:=@PySem.F.slot_tuple_add
def RA:=@List.nodup_append
def RB:=@decide_eq_true_eq
def RC:=@PySem.isSubtype_type
def RD:=@Nat.mul_le_mul
def RE:=@List.set_set
def RF:=@PySem.Obj.isFreed_of_fields
def RG:=@List.dropLast_eq_take
def RH:=@List.getElem?_toArray
def RI:=@if_true
def RJ:=@PySem.AutoSeq1.idx_int
def RK:=@beq_self_eq_true
def RM:=@PySem.Around.under_plainId
def RN:=@List.map_take
def RO:=@Nat.zero_le
def RP:=@PySem.wpAny_execs_nil
def RQ:=@PySem.SeqAt.EqAt.same
def RS:=@beq_false_of_ne
def RT:=@List.any_append
def RU:=@PySem.W.plainGet_of
def RV:=@Bool.or_eq_true_iff
def RW:=@PySem.wpAny_typeOf
def RX:=@PySem.Calls.Name_function_global
def RY:=@PySem.F.excBase_ValueError
def RZ:=@PySem.SeqAt.EqAt.int_str
def R0:=@PySem.SeqAt.EqAt.str_int
def Wa:=@Array.append_assoc
def Wb:=@List.mem_filterMap
def Wc:=@PySem.W.kitx_tuple
def Wd:=@PySem.F.args_tuple_mul_2
def We:=@PySem.W.callWith_K
def Wf:=@List.map_replicate
def Wg:=@List.getElem?_drop
def Wh:=@PySem.Heap.size_push
def Wi:=@List.getLast?_eq_getElem?
def Wj:=@List.drop_eq_getElem_cons
def Wk:=@List.pairwise_iff_getElem
def Wl:=@PySem.W.kitx_dict
def Wm:=@List.append_assoc
def Wn:=@PySem.F.entry_tuple_mul
def Wo:=@List.flatMap_cons
def Wp:=@List.ext_getElem?
def Wq:=@List.length_range
def Wr:=@Option.isSome_iff_exists
def Wt:=@Bool.or_false
def Wu:=@PySem.F.plainAttrs_dict
def Wv:=@Nat.add_sub_cancel_left
def Ww:=@List.getElem_inj
def Wx:=@PySem.noFill_tuple_add
def Wy:=@Option.getD_some
def Wz:=@PySem.wpAny_isInstance
def WA:=@List.ext_getElem
def WB:=@Nat.min_eq_right
def WC:=@List.map_reverse
def WD:=@List.not_mem_nil
def WE:=@PySem.W.cellsFrom_some
def WI:=@Array.getElem?_eq_none
def WJ:=@List.length_pos_of_mem
def WK:=@List.drop_eq_nil_of_le
def WL:=@List.drop_of_length_le
def WM:=@PySem.codeAny_mono
def WN:=@List.of_mem_zip
def WO:=@PySem.wpAny_ite_false
def WP:=@PySem.codeAny_builtin
def WQ:=@List.range_succ
def WR:=@PySem.W.methodCall_KW
def WS:=@List.getElem?_reverse
def WT:=@PySem.F.slot_dict_pop
def WU:=@PySem.F.slot_dict_get
def WV:=@List.eq_nil_or_concat
def WX:=@List.mem_of_getElem?
def Bc:=@List.length_dropLast
def Bd:=@Bool.and_eq_true_iff
def Bf:=@List.mem_of_mem_take
def BA:=@List.map_drop
def B6:=@Nat.ne_of_gt
open PySem.W (Frag InitBack Looks any_some bind_fn callWith_K callWith_K0 cellsFrom_some clsIn codeIn codeRec_of emptyDict excIn findIn findObj_own fnOf get_value handedIn hasDictIn hideAll hideAll_get hideAll_none hideAll_size instObj isFn isNs_of_in keepIn ki_setAt ki_setBack kia_one kia_tup kitAny kitOne kitx_bool kitx_dict kitx_float kitx_int kitx_list kitx_none kitx_own kitx_str kitx_tuple lookIn looks_clsIn looks_findIn looks_subIn looks_typeIn make_core makesIn makes_of methodCall_KW methodObj method_fn mg_none_of mg_of mroIn nsIn nsMap_none_of_in of_hideAll osa_open plainGet plainGet_of plainOver set_plain specialIn subIn tail_of_in takerIn takesIn typeIn)
namespace L2
open PySem PySem.Spec PyProof.Rows
abbrev Bh:=Sum Int Str
def Gk:Bh->Value->Bool
 |.inl k,v=>Value.isInt k v|.inr x,v=>Value.isStrOf x v
def sD(w:World):Bh->Int
 |.inl k=>hashInt k|.inr x=>hashStr w x
theorem Ya:∀{k:Bh}{v:Value},Gk k v=true->(∃i t,k=Sum.inl i/\v=Value.int i t)\/(∃x t,k=Sum.inr x/\v=Value.str x t)
 |.inl i,v,h=>by obtain⟨t,e⟩:=Value.isInt_shape (k:=i) (v:=v) h;exact .inl ⟨i,t,rfl,e⟩
 |.inr x,v,h=>by obtain⟨t,e⟩:=Value.isStrOf_shape (x:=x) (v:=v) h;exact .inr ⟨x,t,rfl,e⟩
theorem Su(i:Int)(t:Tok):Gk (.inl i) (.int i t)=true:=by simp[Gk,Value.isInt]
theorem Sv(x:Str)(t:Tok):Gk (.inr x) (.str x t)=true:=by simp[Gk,Value.isStrOf]
theorem jA(a b:Int):decide ((Sum.inl a:Bh)=Sum.inl b)=(a==b):=by
 by_cases e:a=b
 ·subst e;simp
 ·have h:¬(Sum.inl a:Bh)=Sum.inl b:=λq=>e (Sum.inl.inj q);rw[Ul h];exact(U0.mpr e).symm
theorem jB(a b:Str):decide ((Sum.inr a:Bh)=Sum.inr b)=decide (a=b):=by
 by_cases e:a=b
 ·subst e;simp
 ·have h:¬(Sum.inr a:Bh)=Sum.inr b:=λq=>e (Sum.inr.inj q);rw[Ul h,Ul e]
theorem jC(a:Int)(b:Str):decide ((Sum.inl a:Bh)=Sum.inr b)=false:=Ul (λq=>nomatch q)
theorem jD(a:Str)(b:Int):decide ((Sum.inr a:Bh)=Sum.inl b)=false:=Ul (λq=>nomatch q)
def Jy(prog:Program)(w:World):PySem.KeyKind prog w Bh where
 is:=Gk
 hash:=sD w
 inj:=λv a b ha hb=>by
  rcases Ya ha with⟨i,t,rfl,rfl⟩|⟨x,t,rfl,rfl⟩
  ·rcases Ya hb with⟨j,u,rfl,e⟩|⟨y,u,rfl,e⟩
   ·injection e with e1 _;rw[e1]
   ·exact nomatch e
  ·rcases Ya hb with⟨j,u,rfl,e⟩|⟨y,u,rfl,e⟩
   ·exact nomatch e
   ·injection e with e1 _;rw[e1]
 byValue:=λk v h=>by rcases Ya h with⟨i,t,rfl,rfl⟩|⟨x,t,rfl,rfl⟩<;>rfl
 pyHash:=λhv h=>by
  rcases Ya hv with⟨i,t,rfl,rfl⟩|⟨x,t,rfl,rfl⟩
  ·exact wpAny_pyHash_int h
  ·exact wpAny_pyHash_str h
 eqBool:=λhu hv h=>by
  rcases Ya hu with⟨i,t,rfl,rfl⟩|⟨x,t,rfl,rfl⟩
  ·rcases Ya hv with⟨j,u,rfl,rfl⟩|⟨y,u,rfl,rfl⟩
   ·rw[jA]at h;exact wpAny_eqBool_int h
   ·rw[jC]at h;exact RZ i t y u _ _ _ _ h
  ·rcases Ya hv with⟨j,u,rfl,rfl⟩|⟨y,u,rfl,rfl⟩
   ·rw[jD]at h;exact R0 x t j u _ _ _ _ h
   ·rw[jB]at h;exact wpAny_eqBool_str h
 «strs»:=λk x t v h=>by
  rcases Ya h with⟨i,u,rfl,e⟩|⟨y,u,rfl,e⟩
  ·exact nomatch e
  ·injection e with e1 _;subst e1;cases v<;>rfl
theorem Mb(prog:Program)(w:World)(i:Int)(t:Tok):(Jy prog w).is (.inl i) (.int i t)=true:=Su i t
theorem Mc(prog:Program)(w:World)(x:Str)(t:Tok):(Jy prog w).is (.inr x) (.str x t)=true:=Sv x t
inductive V where
 |non|bl (b:Bool)|int (i:Int)|str (x:Str)|byt (b:Array UInt8)|flt (b:UInt64)|ref (a:Addr)|ty (n:String)
 deriving DecidableEq
def RelV:V->Value->Prop
 |.non,u=>u=Value.none|.bl b,u=>u=Value.bool b|.int i,u=>∃t,u=Value.int i t|.str x,u=>∃t,u=Value.str x t|.byt b,u=>∃t,u=Value.bytes b t|.flt b,u=>∃t,u=Value.float b t|.ref a,u=>u=Value.ref a|.ty n,u=>u=Value.type n
abbrev Vals:List V->List Value->Prop:=Paired RelV
theorem Vals.length(r:Vals xs us):xs.length=us.length:=Paired.length r
theorem Vals.get:∀{xs:List V}{us:List Value}{i:Nat}{x:V},Vals xs us->xs[i]?=some x->∃u,us[i]?=some u/\RelV x u
 |_,_,_,_,.nil,e=>by simp at e
 |_,_,0,_,.cons r _,e=>by simp at e;subst e;exact⟨_,rfl,r⟩
 |_,_,i+1,x,.cons _ t,e=>by obtain⟨u,h1,h2⟩:=Vals.get (i:=i) (x:=x) t (by simpa using e);exact⟨u,by simpa using h1,h2⟩
theorem Vals.set(r:RelV x u):∀{xs:List V}{us:List Value}(i:Nat),Vals xs us->Vals (xs.set i x) (us.set i u)
 |_,_,_,.nil=>.nil|_,_,0,.cons _ t=>.cons r t|_,_,i+1,.cons q t=>.cons q (Vals.set r i t)
theorem Vals.append:∀{xs ys:List V}{us ws:List Value},Vals xs us->Vals ys ws->Vals (xs++ys) (us++ws)
 |_,_,_,_,.nil,s=>s|_,_,_,_,.cons r t,s=>.cons r (Vals.append t s)
theorem Vals.take:∀{xs:List V}{us:List Value}(n:Nat),Vals xs us->Vals (xs.take n) (us.take n)
 |_,_,0,_=>.nil|_,_,_+1,.nil=>.nil|_,_,n+1,.cons r t=>.cons r (Vals.take n t)
theorem Vals.drop:∀{xs:List V}{us:List Value}(n:Nat),Vals xs us->Vals (xs.drop n) (us.drop n)
 |_,_,0,r=>r|_,_,_+1,.nil=>.nil|_,_,n+1,.cons _ t=>Vals.drop n t
theorem Vals.none_of:∀{xs:List V}{us:List Value}{i:Nat},Vals xs us->xs[i]?=none->us[i]?=none:=λ{xs us i} r e=>by have h1:=r.length;have h2:xs.length<=i:=Tj.mp e;exact Tj.mpr (by omega)
def RelO:Option V->Option Value->Prop
 |some v,some u=>RelV v u|none,none=>True|_,_=>False
def KV:List (κ×V)->List (κ×Value)->Prop:=Paired λ(p:κ×V)(q:κ×Value)=>p.1=q.1/\RelV p.2 q.2
def kV:Bh->V
 |.inl i=>.int i|.inr x=>.str x
inductive HO where
 /-- a list -/
 |lst (xs:List V)
 /-- a tuple (never changes) -/
 |tup (xs:List V)
 /-- a dict whose keys are ints and texts;one whose keys are tuples of ints and texts (the empty one is both) -/
 |dK (kvs:List (Bh×V))|dT (kvs:List (List Bh×V))
 /-- a set of ints: its members,its size -/
 |set (S:Int->Bool) (n:Nat)
 /-- an instance of the class at C,its dict at dx,its attributes -/
 |ins (C dx:Addr) (fs:List (Str×V))
 /-- the dict of the instance at x -/
 |own (x:Addr)
 /-- the dict of an exception -/
 |xd (fs:List (Str×V))
 /-- a bound method,f of x -/
 |met (f x:Addr)
 /-- a range object lo,lo+1,.. below hi -/
 |rng (lo hi:Int)
 /-- a thing that is known to the object (the script;a dict while a loop walks it): read,never written while it is so -/
 |frz (o:Obj) (u:HO)
 /-- a code object's table -/
 |tbl (ps:Array Value)
 /-- any other thing,by what is true of its one object (a def of one's own: SetO a S n:=HO.ext λh=>..) -/
 |ext (φ:Heap->Prop)
abbrev Hp:=Addr->Option HO
def YD(H:Hp)(a:Addr)(o:HO):Hp:=λb=>if b=a then some o else H b
theorem QN   : YD H a o a=some o:=by unfold YD;rw[Ub rfl]
theorem QZ(h:b≠a):YD H a o b=H b:=by unfold YD;rw[Ud h]
theorem O3{H:Hp}{a b:Addr}{o u:HO}(h:H a=some o)(h':H b=some u)(d:o≠u):a≠b:=by intro e;subst e;rw[h]at h';exact d (Option.some.inj h')
theorem ZN{H:Hp}{a b:Addr}{o:HO}(h:H a=some o)(h':H b=none):a≠b:=by intro e;subst e;rw[h]at h';cases h'
section
variable(P:Program)(w:World)
def ObjOk(H:Hp)(h:Heap)(a:Addr):HO->Prop
 |.lst xs=>xs.length<=sizeLine/\∃(its:List Value)(n:Nat),Vals xs its/\h.get? a=some {cls:=.type "list",data:=.seq its.toArray n}|.tup xs=>xs.length<=sizeLine/\∃its:List Value,Vals xs its/\IsTup h a its.toArray|.dK kvs=>kvs.length<=sizeLine/\(a==sysModules)=false/\∃vs,KV kvs vs/\h.DictOf (Jy P w) a vs|.dT kvs=>kvs.length<=sizeLine/\(a==sysModules)=false/\∃xs:List (List Bh×Addr×Value),Paired (λ(p:List Bh×V)(q:List Bh×Addr×Value)=>p.1=q.1/\H q.2.1=some (.tup (p.1.map kV))/\RelV p.2 q.2.2) kvs xs/\∃o es ep,h.get? a=some o/\o.ExactDict/\o.data=.dict es ep/\es.toList=xs.map (entryOfKey (tupleKind (Jy P w)))/\(xs.map (·.1)).Nodup
 |.set S n=>h.SetOf (intKind P w) a S n|.ins C dx fs=>H dx=some (.own a)/\fs.length<=1000/\dx≠a/\h.get? a=some (instObj C dx)/\∃mA,h.Ns1 dx mA/\(∀f,RelO (fs.lookup f) (mA f))/\PySem.Within mA (fs.map (·.1))
 |.own _=>∃o,h.get? a=some o|.xd fs=>∃mA,h.Ns1 a mA/\∀f,RelO (fs.lookup f) (mA f)|.rng lo hi=>∃t u v,h.get? a=some {cls:=.type "range",data:=.fields #[.int lo t,.int hi u,.int 1 v]}|.frz o u=>h.get? a=some o/\ObjOk H h a u|.tbl ps=>h.get? a=some {cls:=.none,data:=.fields ps}|.met f x=>h.get? a=some (methodObj (.ref f) (.ref x))|.ext φ=>φ h/\(∃o,h.get? a=some o)/\∀h1 h2:Heap,φ h1->(∀o,h1.get? a=some o->h2.get? a=some o)->φ h2
def HOk(H:Hp)(h:Heap):Prop:=∀a o,H a=some o->ObjOk P w H h a o
end
section
variable{P:Program}{w:World}{H H':Hp}{h h':Heap}{a:Addr}{o:HO}
theorem ObjOk.lt(x:ObjOk P w H h a o):a<h.objs.size:=by
 cases o with
 |lst xs=>obtain⟨_,_,_,_,e⟩:=x;exact Ut e|tup xs=>obtain⟨_,_,_,p⟩:=x;exact p.lt|dK kvs=>obtain⟨_,_,_,_,o,_,_,e,_⟩:=x;exact Ut e|dT kvs=>obtain⟨_,_,_,_,o,_,_,e,_⟩:=x;exact Ut e|set S n=>obtain⟨o,_,_,_,e,_⟩:=x;exact Ut e|ins C dx fs=>obtain⟨_,_,_,e,_⟩:=x;exact Ut e|own y=>obtain⟨_,e⟩:=x;exact Ut e|xd fs=>obtain⟨_,⟨_,_,_,e,_⟩,_⟩:=x;exact Ut e|rng lo hi=>obtain⟨_,_,_,e⟩:=x;exact Ut e|frz ob u=>obtain⟨e,_⟩:=x;exact Ut e|tbl ps=>exact Ut (show h.get? a=some _ from x)|met f y=>exact Ut (show h.get? a=some _ from x)|ext φ=>obtain⟨_,⟨_,e⟩,_⟩:=x;exact Ut e
theorem Paired.mapP  : ∀{l₁:List α}{l₂:List β},Paired F l₁ l₂->(∀a b,F a b->G a b)->Paired G l₁ l₂
 |_,_,.nil,_=>.nil|_,_,.cons r t,f=>.cons (f _ _ r) (Paired.mapP t f)
theorem Paired.imp'(f:∀a b,F a b->G a b)(r:Paired F l₁ l₂):Paired G l₁ l₂:=Paired.mapP r f
theorem ObjOk.stay(x:ObjOk P w H h a o)(k:∀b u,(b=a\/H b=some (.own a))->h.get? b=some u->h'.get? b=some u)(ho:∀b,H b=some (.own a)->H' b=some (.own a))(ht:∀b xs,H b=some (.tup xs)->H' b=some (.tup xs)):ObjOk P w H' h' a o:=by
 induction o with
 |lst xs=>obtain⟨z,its,n,r,e⟩:=x;exact⟨z,its,n,r,k _ _ (.inl rfl) e⟩|tup xs=>obtain⟨z,its,r,ob,e,c⟩:=x;exact⟨z,its,r,ob,k _ _ (.inl rfl) e,c⟩|dK kvs=>obtain⟨z,y,vs,r,ob,es,ep,e,c⟩:=x;exact⟨z,y,vs,r,ob,es,ep,k _ _ (.inl rfl) e,c⟩|dT kvs =>obtain⟨z,y,xs,r,ob,es,ep,e,c⟩:=x;exact⟨z,y,xs,Paired.mapP r λp q z=>⟨z.1,ht _ _ z.2.1,z.2.2⟩,ob,es,ep,k _ _ (.inl rfl) e,c⟩|set S n=>obtain⟨ob,es,ep,t,e,c⟩:=x;exact⟨ob,es,ep,t,k _ _ (.inl rfl) e,c⟩|ins C dx fs =>obtain⟨d,z,ne,e,mA,⟨od,es,ep,e2,c⟩,r⟩:=x;exact⟨ho _ d,z,ne,k _ _ (.inl rfl) e,mA,⟨od,es,ep,k _ _ (.inr d) e2,c⟩,r⟩|own y=>obtain⟨ob,e⟩:=x;exact⟨ob,k _ _ (.inl rfl) e⟩|xd fs=>obtain⟨mA,⟨od,es,ep,e,c⟩,r⟩:=x;exact⟨mA,⟨od,es,ep,k _ _ (.inl rfl) e,c⟩,r⟩|rng lo hi=>obtain⟨t,u,v,e⟩:=x;exact⟨t,u,v,k _ _ (.inl rfl) e⟩|frz ob u ih=>obtain⟨e,q⟩:=x;exact⟨k _ _ (.inl rfl) e,ih q⟩|tbl ps =>have e:h.get? a=some {cls:=.none,data:=.fields ps}:=x;show h'.get? a=some {cls:=.none,data:=.fields ps};exact k a _ (.inl rfl) e|met f y =>have e:h.get? a=some (methodObj (.ref f) (.ref y)):=x;show h'.get? a=some (methodObj (.ref f) (.ref y));exact k a _ (.inl rfl) e|ext φ=>obtain⟨p,⟨o,e⟩,st⟩:=x;exact⟨st _ _ p λo q=>k _ _ (.inl rfl) q,⟨o,k _ _ (.inl rfl) e⟩,st⟩
theorem HOk.lt(x:HOk P w H h)(e:H a=some o):a<h.objs.size:=(x a o e).lt
theorem HOk.fresh(x:HOk P w H h)(e:h.objs.size<=a):H a=none:=by
 cases q:H a with
 |none=>rfl|some u=>exact absurd (UH (x.lt q) e) (Tt _)
theorem HOk.kept(x:HOk P w H h)(k:∀b u,h.get? b=some u->h'.get? b=some u):HOk P w H h':=λa o e=>
 (x a o e).stay (λb u _ q=>k b u q) (λ_ q=>q) λ_ _ q=>q
theorem HOk.laid(x:HOk P w H h)(k:∀b u,h.get? b=some u->h'.get? b=some u)(hp:h.objs.size<=a)(new:ObjOk P w (YD H a o) h' a o):HOk P w (YD H a o) h':=λb u e=>by
 have hn:=x.fresh hp;by_cases hb:b=a
 ·subst hb;rw[QN]at e;cases e;exact new
 ·rw[QZ hb]at e;exact(x b u e).stay (λc v _ q=>k c v q) (λc q=>by rw[QZ (ZN q hn)];exact q) λc xs q=>by rw[QZ (ZN q hn)];exact q
end
def Rd(H:Hp)(a:Addr)(u:HO):Prop:=H a=some u\/∃o,H a=some (.frz o u)
theorem Rd.of(h:H a=some u):Rd H a u:=.inl h
theorem Rd.ok(r:Rd H a u)(x:HOk P w H h):ObjOk P w H h a u:=by
 rcases r with r|⟨o,r⟩
 ·exact x a u r
 ·obtain⟨_,q⟩:=x a _ r;exact q
def nA:Option HO->Prop
 |some (.lst _)=>True|some (.dK _)=>True|some (.dT _)=>True|some (.set _ _)=>True|some (.ins _ _ _)=>True|some (.ext _)=>True|_=>False
theorem HOk.write(ok:HOk P w H h)(mu:nA (H x))(he:e=x\/H e=some (.own x))(k:∀b u,b≠e->h.get? b=some u->h'.get? b=some u)(heo:∃u,h'.get? e=some u)(new:ObjOk P w (YD H x o') h' x o'):HOk P w (YD H x o') h':=λb u q=>by
 have nown:∀c y,H c=some (.own y)->c≠x:=λc y r z=>by subst z;rw[r]at mu;exact mu
 have ntup:∀c xs,H c=some (.tup xs)->c≠x:=λc xs r z=>by subst z;rw[r]at mu;exact mu
 by_cases hb:b=x
 ·subst hb;rw[QN]at q;cases q;exact new
 ·rw[QZ hb]at q;by_cases hbe:b=e
  ·have q':H b=some (.own x):=by
    rcases he with z|z
    ·exact absurd (hbe.trans z) hb
    ·rw[hbe];exact z
   rw[q]at q';cases q';obtain⟨v,hv⟩:=heo;exact⟨v,by rw[hbe];exact hv⟩
  ·refine(ok b u q).stay (λc v hc r=>k c v ?_ r) (λc r=>by rw[QZ (nown c b r)];exact r) λc xs r=>by rw[QZ (ntup c xs r)];exact r
   rcases hc with rfl|hc
   ·exact hbe
   ·rintro rfl;rcases he with z|z
    ·exact nown c b hc z
    ·rw[hc]at z;cases z;exact hb rfl
structure Un(fs ex:List Addr)(H H':Hp)(h h':Heap):Prop where
 keep:∀b o,h.get? b=some o->H b=none->b∉fs->b∉ex->h'.get? b=some o
 slot:∀b o,h.get? b=some o->H b=none->b∈fs->b∉ex->∃sl,h'.get? b=some {o with slots:=sl}
 free:∀b o,h.get? b=some o->H b=none->b∉ex->H' b=none
 there:∀b o,h.get? b=some o->b∉ex->∃o',h'.get? b=some o'
 tups:∀b xs,H b=some (.tup xs)->H' b=some (.tup xs)
 frzs:∀b o u,H b=some (.frz o u)->H' b=some (.frz o u)
 tbls:∀b ps,H b=some (.tbl ps)->∃more,H' b=some (.tbl (ps++more))
section
variable{fs fs' ex ex':List Addr}{H H1 H2:Hp}{h h1 h2 h':Heap}{a x e:Addr}{o:HO}
theorem Un.any(u:Un fs ex H H1 h h1)(q:h.get? b=some ob)(n:H b=none)(hx:b∉ex):∃sl,h1.get? b=some {ob with slots:=sl}:=by
 by_cases hb:b∈fs
 ·exact u.slot b ob q n hb hx
 ·exact⟨ob.slots,u.keep b ob q n hb hx⟩
theorem Un.trans(a:Un fs ex H H1 h h1)(b:Un fs ex H1 H2 h1 h2):Un fs ex H H2 h h2 where
 keep:=λc ob q n hc hx=>b.keep c ob (a.keep c ob q n hc hx) (a.free c ob q n hx) hc hx
 slot:=λc ob q n hc hx=>by obtain⟨sl,e1⟩:=a.slot c ob q n hc hx;obtain⟨sl',e2⟩:=b.slot c _ e1 (a.free c ob q n hx) hc hx;exact⟨sl',e2⟩
 free:=λc ob q n hx=>by obtain⟨o',e1⟩:=a.there c ob q hx;exact b.free c o' e1 (a.free c ob q n hx) hx
 there:=λc ob q hx=>by obtain⟨o',e1⟩:=a.there c ob q hx;exact b.there c o' e1 hx
 tups:=λc xs q=>b.tups c xs (a.tups c xs q)
 frzs:=λc ob xs q=>b.frzs c ob xs (a.frzs c ob xs q)
 tbls:=λc ps q=>by obtain⟨m1,e1⟩:=a.tbls c ps q;obtain⟨m2,e2⟩:=b.tbls c _ e1;exact⟨m1++m2,by rw[e2,Wa]⟩
theorem Un.kept(k:∀b u,h.get? b=some u->h'.get? b=some u):Un fs ex H H h h':=⟨λb ob q _ _ _=>k b ob q,λb ob q _ _ _=>⟨ob.slots,k b ob q⟩,λ_ _ _ n _=>n,λb ob q _=>⟨ob,k b ob q⟩,λ_ _ q=>q,λ_ _ _ q=>q,λ_ ps q=>⟨#[],by rw[q];simp⟩⟩
theorem Un.refl:Un fs ex H H h h:=Un.kept λ_ _ q=>q
theorem Un.laid(k:∀b u,h.get? b=some u->h'.get? b=some u)(hp:h.objs.size<=a)(hn:H a=none):Un fs ex H (YD H a o) h h' where
 keep:=λb u q _ _ _=>k b u q
 slot:=λb u q _ _ _=>⟨u.slots,k b u q⟩
 free:=λb u q n _=>by rw[QZ (UR (UH (Ut q) hp))];exact n
 there:=λb u q _=>⟨u,k b u q⟩
 tups:=λb xs q=>by rw[QZ (ZN q hn)];exact q
 frzs:=λb u xs q=>by rw[QZ (ZN q hn)];exact q
 tbls:=λb ps q=>⟨#[],by rw[QZ (ZN q hn),q];simp⟩
theorem Un.write(mu:nA (H x))(he:e=x\/H e=some (.own x))(k:∀b u,b≠e->h.get? b=some u->h'.get? b=some u)(heo:∃u,h'.get? e=some u):Un fs ex H (YD H x o) h h':=by
 have hx:∀b,H b=none->b≠x:=λb n z=>by subst z;rw[n]at mu;exact mu
 have hb:∀b,H b=none->b≠e:=λb n z=>by
  subst z;rcases he with r|r
  ·exact hx b n r
  ·rw[n]at r;cases r
 have hm:∀b u,H b=some u->¬nA (some u)->b≠x:=λb u q nm z=>by subst z;rw[q]at mu;exact nm mu
 refine⟨λb u q n _ _=>k b u (hb b n) q,λb u q n _ _=>⟨u.slots,k b u (hb b n) q⟩,λb u q n _=>by rw[QZ (hx b n)];exact n,λb u q _=>?_,λb xs q=>by rw[QZ (hm b _ q λz=>z)];exact q,λb u xs q=>by rw[QZ (hm b _ q λz=>z)];exact q,λb ps q=>⟨#[],by rw[QZ (hm b _ q λz=>z),q];simp⟩⟩
 by_cases hbe:b=e
 ·subst hbe;exact heo
 ·exact⟨u,k b u hbe q⟩
theorem Un.mono(u:Un fs ex H H1 h h1)(hs:∀b∈fs,b∈fs')(hx:∀b∈ex,b∈ex'):Un fs' ex' H H1 h h1:=⟨λb ob q n hb he=>u.keep b ob q n (λz=>hb (hs b z)) λz=>he (hx b z),λ_ _ q n _ he=>u.any q n λz=>he (hx _ z),λb ob q n he=>u.free b ob q n λz=>he (hx b z),λb ob q he=>u.there b ob q λz=>he (hx b z),u.tups,u.frzs,u.tbls⟩
end
def qP(h:Heap)(H:Hp):List Addr:=(List.range h.objs.size).filter λa=>(H a).isSome
def La(h:Heap)(H:Hp):Heap:=hideAll h (qP h H)
theorem Sw(h:Heap)(H:Hp):(La h H).objs.size=h.objs.size:=hideAll_size _ _
theorem A1(e:h.get? b=some o)(n:H b=none):(La h H).get? b=some o:=
 hideAll_get _ e λhm=>by have q:(H b).isSome=true:=(List.mem_filter.mp hm).2;rw[n]at q;simp at q
theorem cN(e:(La h H).get? b=some o):h.get? b=some o/\H b=none:=by
 have e':h.get? b=some o:=of_hideAll (qP h H) e;refine⟨e',?_⟩;cases q:H b with
 |none=>rfl|some x =>have hm:b∈qP h H:=List.mem_filter.mpr ⟨UM.mpr (Ut e'),by simp[q]⟩;have z:(La h H).get? b=none:=hideAll_none (qP h H) hm;rw[z]at e;cases e
def cO(g h:Heap)(L:Addr):List (Addr×Obj):=(List.range h.objs.size).filterMap λa=>if a=L\/(g.get? a).isSome=true then none else (h.get? a).map λo=>(a,o)
def rest(g h:Heap)(L d:Addr):List (Addr×Obj):=(cO g h L).filter λp=>decide (p.1≠d)
structure Mod(K:Frag)(mg:VX)(base:Heap):Prop where
 kin:K.In base
 glob:base.Ns mainGlobals mg
 blt:∃mb,base.Ns builtinsNs mb/\∀x:Str,x ≠"__name__"->mb x=bootBuiltins x
 nolimit:base.NoLimit
/-- the context: a def's body (or a comprehension's block) running. base: fixed through the whole law;s₀,H₀: the entry;outer: the frames whose slots others may change (a def's callers);stack: all frames that run;
   ex: iterators that were made ahead of the entry and are walked here (a comprehension's);fn: the names whose cells were made at the entry (a def: all;a comprehension's block: its own);calm: not within an except suite;pn: pins that every state bears;xe: what is wanted of an exception that leaves the code -/
structure Cx where
 prog:Program
 w:World
 K:Frag
 mg:Str->Option Value
 base:Heap
 A:Around
 N:List Str
 s₀:Shared
 H₀:Hp
 env:Env
 outer:List Env
 stack:List Env
 ex:List Addr
 fn:Str->Bool
 calm:Bool
 pn:List (Addr×Obj)
 xe:Value->Shared->Prop
def O4(l:List Env):List Addr:=l.filterMap (·.frame)
abbrev Cx.fs(X:Cx):List Addr:=O4 X.outer
def qQ(sc:Scope)(x:Str):Prop:=sc.names.lookup x=some .local\/sc.names.lookup x=some .cell\/sc.names.lookup x=some .free
def Loc(sc:Scope)(x:Str):Prop:=sc.names.lookup x=some .local\/sc.names.lookup x=some .cell
def sE(env:Env)(h:Heap)(m:VX)(x:Str)(u:Value):Prop:=(env.kindOf x=some .local/\m x=some u)\/((env.kindOf x=some .cell\/env.kindOf x=some .free)/\∃c,env.cells.lookup x=some c/\h.IsCell c (some u))
structure Cx.Ok(X:Cx):Prop where
 mod:Mod X.K X.mg X.base
 kind:X.env.scope.kind=.function
 glob:X.env.globals=mainGlobals
 blt:X.env.builtins=builtinsNs
 above:X.s₀.heap.objs.size<=X.env.locals
 inj:∀x y c,X.env.cells.lookup x=some c->X.env.cells.lookup y=some c->x=y
 has:∀x,(X.env.kindOf x=some .cell\/X.env.kindOf x=some .free)->∃c,X.env.cells.lookup x=some c
 cab:∀x c,X.fn x=true->X.env.cells.lookup x=some c->X.s₀.heap.objs.size<=c
 hd:X.calm=true->X.A.handled=none
 frames:X.A.frames=some X.stack
 stk:X.stack=X.outer\/(X.stack=X.env::X.outer/\X.env.frame=some X.env.locals)
 exf:∀b∈X.ex,b≠X.env.locals/\∀x c,X.env.cells.lookup x=some c->c≠b
 bs:∀b o,X.base.get? b=some o->X.s₀.heap.get? b=some o/\X.H₀ b=none
 bsz:X.base.objs.size<=X.s₀.heap.objs.size
 noex:∀b o,X.base.get? b=some o->b∉X.ex
 exfs:∀b∈X.ex,b∉X.fs
 funs:X.s₀.heap.FunFrames X.base X.outer
 frf:∀b∈X.fs,X.H₀ b=none
structure Inv(X:Cx)(pins:Js)(σ:List (Option V))(H:Hp)(s:Shared):Prop where
 ok:X.Ok
 os:s.os=X.s₀.os
 bare:AllBare s.gens
 base:Un X.fs X.ex X.H₀ H X.s₀.heap s.heap
 loc:∃m,s.heap.Ns X.env.locals m/\∀(i:Nat)(x:Str)(v:V),X.N[i]?=some x->σ[i]?=some (some v)->qQ X.env.scope x->∃u,RelV v u/\sE X.env s.heap m x u
 cell:∀x c,X.env.cells.lookup x=some c->∃v,s.heap.IsCell c v
 free:H X.env.locals=none
 freeC:∀x c,X.env.cells.lookup x=some c->H c=none
 pin:∀p∈X.pn++pins,s.heap.get? p.1=some p.2/\H p.1=none/\p.1≠X.env.locals/\p.1∉X.fs/\∀v,p.2.data≠.cell v
 hok:HOk X.prog X.w H s.heap
 len:σ.length=X.N.length
section
variable{X:Cx}{pins:Js}{σ:List (Option V)}{H H':Hp}{s:Shared}{h':Heap}
theorem Cx.Ok.nofr(ok:X.Ok){b:Addr}{o:Obj}(e:X.base.get? b=some o):b∉X.fs:=λhb=>by have:=(ok.funs.mem hb).1;rw[e]at this;cases this
theorem Inv.bs(I:Inv X pins σ H s):∀b o,X.base.get? b=some o->s.heap.get? b=some o/\H b=none:=λb o e=>
 ⟨I.base.keep b o (I.ok.bs b o e).1 (I.ok.bs b o e).2 (I.ok.nofr e) (I.ok.noex b o e),I.base.free b o (I.ok.bs b o e).1 (I.ok.bs b o e).2 (I.ok.noex b o e)⟩
theorem Inv.bk(I:Inv X pins σ H s):∀b o,X.base.get? b=some o->s.heap.get? b=some o:=λb o e=>(I.bs b o e).1
theorem Inv.mod(I:Inv X pins σ H s):Mod X.K X.mg X.base:=I.ok.mod
theorem Inv.kIn(I:Inv X pins σ H s):X.K.In s.heap:=I.ok.mod.kin.keeps I.bk
theorem Inv.nolimit(I:Inv X pins σ H s):s.heap.NoLimit:=I.ok.mod.nolimit.keeps I.bk
theorem Inv.fr(I:Inv X pins σ H s):∃m,Fr X.base X.env.locals s.heap m:=
 let ⟨m,hn,_⟩:=I.loc
 ⟨m,hn,I.bk,Um I.ok.bsz I.ok.above⟩
theorem Inv.lt(I:Inv X pins σ H s):X.env.locals<s.heap.objs.size:=let ⟨_,hn,_⟩:=I.loc;hn.lt
theorem Inv.sz(I:Inv X pins σ H s):X.s₀.heap.objs.size<=s.heap.objs.size:=Um I.ok.above (UO I.lt)
theorem Inv.nofs(I:Inv X pins σ H s)(h:s.heap.objs.size<=a):a∉X.fs:=λhb=>by obtain⟨_,o,ho,_⟩:=I.ok.funs.mem hb;exact absurd (UH (Ut ho) (Um I.sz h)) (Tt _)
theorem Inv.cne(I:Inv X pins σ H s):∀x c,X.env.cells.lookup x=some c->c≠X.env.locals:=λx c e z=>by obtain⟨v,o,ho,hd⟩:=I.cell x c e;obtain⟨m,⟨o',es,ep,ho',hd',_⟩,_⟩:=I.loc;rw[z,ho']at ho;cases ho;rw[hd']at hd;cases hd
theorem Inv.funs(I:Inv X pins σ H s):s.heap.FunFrames X.base X.outer:=by
 have all:∀(l:List Env),(∀b∈O4 l,b∈X.fs)->X.s₀.heap.FunFrames X.base l->s.heap.FunFrames X.base l:=by
  intro l;induction l with
  |nil=>intro _ _;trivial|cons env r ih =>intro hs hl;obtain⟨hk,⟨L,o,hf,hn,ho,hd⟩,hr⟩:=hl;have hL:L∈X.fs:=hs L (by unfold O4;rw[Tz,hf];exact UB);obtain⟨sl,e⟩:=I.base.slot L o ho (I.ok.frf L hL) hL λz=>I.ok.exfs L z hL;exact⟨hk,⟨L,_,hf,hn,e,hd⟩,ih (λb hb=>hs b (by unfold O4;rw[Tz,hf];exact Uv _ hb)) hr⟩
 exact all X.outer (λ_ hb=>hb) I.ok.funs
theorem Inv.stack(I:Inv X pins σ H s):s.heap.FunFrames X.base X.stack:=by
 rcases I.ok.stk with e|⟨e,hf⟩
 ·rw[e];exact I.funs
 ·rw[e];obtain⟨m,hn,_⟩:=I.loc;refine .cons (by rw[I.ok.kind];decide) hf hn ?_ I.funs;exact Heap.get?_none_of_le (Um I.ok.bsz I.ok.above)
theorem Inv.stkSub(I:Inv X pins σ H s):∀b∈O4 X.stack,b∈X.env.locals::X.fs:=λb hb=>by
 rcases I.ok.stk with e|⟨e,hf⟩
 ·rw[e]at hb;exact Uv _ hb
 ·rw[e]at hb;unfold O4 at hb;rw[Tz,hf]at hb;exact hb
theorem Inv.stkFree(I:Inv X pins σ H s):∀b∈O4 X.stack,H b=none:=λb hb=>by
 rcases UE.mp (I.stkSub b hb) with e|hb
 ·rw[e];exact I.free
 ·obtain⟨_,o,ho,_⟩:=I.ok.funs.mem hb;exact I.base.free b o ho (I.ok.frf b hb) λz=>I.ok.exfs b z hb
theorem Inv.step{g':Array GenState}{t':Nat}{d':Drawn}{ch:List Addr}(I:Inv X pins σ H s)(hch:∀b∈ch,(b∈X.ex\/X.s₀.heap.objs.size<=b)/\b≠X.env.locals/\(∀x c,X.env.cells.lookup x=some c->c≠b)/\∀p∈X.pn++pins,p.1≠b)(keep:∀b o,b≠X.env.locals->b∉X.fs->b∉ch->s.heap.get? b=some o->H b=none->h'.get? b=some o)(slot:∀b o,b≠X.env.locals->b∈X.fs->b∉ch->s.heap.get? b=some o->H b=none->∃sl,h'.get? b=some {o with slots:=sl})(free:∀b o,b∉ch->s.heap.get? b=some o->H b=none->H' b=none)(there:∀b o,b∉ch->s.heap.get? b=some o->∃o',h'.get? b=some o')(tups:∀b xs,H b=some (.tup xs)->H' b=some (.tup xs))(frzs:∀b o u,H b=some (.frz o u)->H' b=some (.frz o u))(tbls:∀b ps,H b=some (.tbl ps)->∃more,H' b=some (.tbl (ps++more)))(ns:∀m,s.heap.Ns X.env.locals m->h'.Ns X.env.locals m)(hok:HOk X.prog X.w H' h')(hg:AllBare g'):
  Inv X pins σ H' {s with heap:=h',gens:=g',drawn:=d',toks:=t'}:=by
 have neL:∀b o,X.s₀.heap.get? b=some o->b≠X.env.locals:=λb o e=>UR (UH (Ut e) I.ok.above);have neC:∀b o,X.s₀.heap.get? b=some o->b∉X.ex->b∉ch:=λb o e hx hb=>by
  rcases(hch b hb).1 with z|z
  ·exact hx z
  ·exact absurd (UH (Ut e) z) (Tt _)
 have cellK:∀x c,X.env.cells.lookup x=some c->∀v,s.heap.IsCell c v->h'.IsCell c v:=λx c e v ⟨o,ho,hd⟩=>by
  have nch:c∉ch:=λz=>(hch c z).2.2.1 x c e rfl;by_cases hc:c∈X.fs
  ·obtain⟨sl,q⟩:=slot c o (I.cne x c e) hc nch ho (I.freeC x c e);exact⟨_,q,hd⟩
  ·exact⟨o,keep c o (I.cne x c e) hc nch ho (I.freeC x c e),hd⟩
 refine⟨I.ok,I.os,hg,⟨λb o e n hb hx=>?_,λb o e n hb hx=>?_,λb o e n hx=>?_,λb o e hx=>?_,λb xs e=>tups b xs (I.base.tups b xs e),λb o xs e=>frzs b o xs (I.base.frzs b o xs e),λb ps e=>?_⟩,?_,λx c e=>?_,?_,λx c e=>?_,λp hp=>?_,hok,I.len⟩
 ·exact keep b o (neL b o e) hb (neC b o e hx) (I.base.keep b o e n hb hx) (I.base.free b o e n hx)
 ·obtain⟨sl,e1⟩:=I.base.slot b o e n hb hx;obtain⟨sl',e2⟩:=slot b _ (neL b o e) hb (neC b o e hx) e1 (I.base.free b o e n hx);exact⟨sl',e2⟩
 ·obtain⟨o',e1⟩:=I.base.there b o e hx;exact free b o' (neC b o e hx) e1 (I.base.free b o e n hx)
 ·obtain⟨o',e1⟩:=I.base.there b o e hx;exact there b o' (neC b o e hx) e1
 ·obtain⟨m1,e1⟩:=I.base.tbls b ps e;obtain⟨m2,e2⟩:=tbls b _ e1;exact⟨m1++m2,by rw[e2,Wa]⟩
 ·obtain⟨m,hn,hl⟩:=I.loc;refine⟨m,ns m hn,λi x v e1 e2 e3=>?_⟩;obtain⟨u,r,l⟩:=hl i x v e1 e2 e3;refine⟨u,r,?_⟩;rcases l with l|⟨k,c,e,z⟩
  ·exact .inl l
  ·exact .inr ⟨k,c,e,cellK x c e _ z⟩
 ·obtain⟨v,z⟩:=I.cell x c e;exact⟨v,cellK x c e v z⟩
 ·obtain⟨m,⟨o,_,_,ho,_⟩,_⟩:=I.loc;exact free _ o (λz=>(hch _ z).2.1 rfl) ho I.free
 ·obtain⟨v,o,ho,hd⟩:=I.cell x c e;exact free c o (λz=>(hch c z).2.2.1 x c e rfl) ho (I.freeC x c e)
 ·obtain⟨e,n,ne,nf,d⟩:=I.pin p hp;have nch:p.1∉ch:=λz=>(hch p.1 z).2.2.2 p hp rfl;exact⟨keep p.1 p.2 ne nf nch e n,free p.1 p.2 nch e n,ne,nf,d⟩
theorem Inv.un(I:Inv X pins σ H s)(u:Un X.fs [] H H' s.heap h')(hok:HOk X.prog X.w H' h'):Inv X pins σ H' {s with heap:=h',toks:=t'}:=by obtain⟨m,⟨o,es,ep,ho,r⟩,_⟩:=id I.loc;obtain⟨sl,hL⟩:=u.any ho I.free (by simp);exact I.step (g':=s.gens) (d':=s.drawn) (ch:=[]) (λ_ z=>nomatch z) (λb o _ hb _ e n=>u.keep b o e n hb (by simp)) (λb o _ hb _ e n=>u.slot b o e n hb (by simp)) (λb o _ e n=>u.free b o e n (by simp)) (λb o _ e=>u.there b o e (by simp)) u.tups u.frzs u.tbls (λm' hm=>by obtain⟨o',es',ep',ho',r'⟩:=hm;rw[ho]at ho';cases ho';exact⟨_,es',ep',hL,r'⟩) hok I.bare
theorem Inv.call{g':Array GenState}{t':Nat}{d':Drawn}{ch:List Addr}(I:Inv X pins σ H s)(u:Un (O4 X.stack) ch H H' s.heap h')(hok:HOk X.prog X.w H' h')(hg:AllBare g')(hch:∀b∈ch,(b∈X.ex\/X.s₀.heap.objs.size<=b)/\b≠X.env.locals/\(∀x c,X.env.cells.lookup x=some c->c≠b)/\∀p∈X.pn++pins,p.1≠b):
  Inv X pins σ H' {s with heap:=h',gens:=g',drawn:=d',toks:=t'}:=by
 obtain⟨m,⟨o,es,ep,ho,r⟩,_⟩:=id I.loc;obtain⟨sl,hL⟩:=u.any ho I.free λz=>(hch _ z).2.1 rfl;exact I.step (ch:=ch) hch (λb o hL hb hc e n=>u.keep b o e n (λz=>(UE.mp (I.stkSub b z)).elim hL hb) hc) (λb o _ _ hc e n=>u.any e n hc) (λb o hc e n=>u.free b o e n hc) (λb o hc e=>u.there b o e hc) u.tups u.frzs u.tbls (λm' hm=>by obtain⟨o',es',ep',ho',r'⟩:=hm;rw[ho]at ho';cases ho';exact⟨_,es',ep',hL,r'⟩) hok hg
theorem Inv.turned{t':Nat}{it:Addr}(I:Inv X pins σ H s)(k:∀b o,b≠it->s.heap.get? b=some o->h'.get? b=some o)(hn:H it=none)(hL:it≠X.env.locals)(h1:it∈X.ex\/X.s₀.heap.objs.size<=it)(h2:∀x c,X.env.cells.lookup x=some c->c≠it)(h3:∀p∈X.pn++pins,p.1≠it):Inv X pins σ H {s with heap:=h',toks:=t'}:=by
 have nit:∀b u,H b=some u->b≠it:=λb u e z=>by rw[z,hn]at e;cases e
 refine I.step (g':=s.gens) (d':=s.drawn) (ch:=[it]) (λb hb=>?_) (λb o _ _ hc e _=>k b o (λz=>hc (by simp[z])) e) (λb o _ _ hc e _=>⟨o.slots,k b o (λz=>hc (by simp[z])) e⟩) (λ_ _ _ _ n=>n)
  (λb o hc e=>⟨o,k b o (λz=>hc (by simp[z])) e⟩) (λ_ _ e=>e) (λ_ _ _ e=>e) (λb ps e=>⟨#[],by rw[e];simp⟩) (λm hm=>?_) (λb u e=>?_) I.bare
 ·have e:b=it:=by simpa using hb
  subst e;exact⟨h1,hL,h2,h3⟩
 ·obtain⟨o,es,ep,ho,r⟩:=hm;exact⟨o,es,ep,k _ o (Ne.symm hL) ho,r⟩
 ·refine(I.hok b u e).stay (λc v hc q=>k c v ?_ q) (λ_ q=>q) λ_ _ q=>q;rcases hc with z|z
  ·rw[z];exact nit b u e
  ·exact nit c _ z
theorem Inv.tok(I:Inv X pins σ H s)(t:Nat):Inv X pins σ H {s with toks:=t}:=I.un (h':=s.heap) (t':=t) Un.refl I.hok
theorem Inv.kept(I:Inv X pins σ H s)(k:∀b u,s.heap.get? b=some u->h'.get? b=some u):Inv X pins σ H {s with heap:=h',toks:=t'}:=I.un (Un.kept k) (I.hok.kept k)
theorem Inv.laid(I:Inv X pins σ H s)(k:∀b u,s.heap.get? b=some u->h'.get? b=some u)(hp:s.heap.objs.size<=a)(new:ObjOk X.prog X.w (YD H a o) h' a o):
  Inv X pins σ (YD H a o) {s with heap:=h',toks:=t'}:=I.un (Un.laid k hp (I.hok.fresh hp)) (I.hok.laid k hp new)
theorem Inv.write{x e:Addr}{o:HO}{t':Nat}(I:Inv X pins σ H s)(mu:nA (H x))(he:e=x\/H e=some (.own x))(k:∀b u,b≠e->s.heap.get? b=some u->h'.get? b=some u)(heo:∃u,h'.get? e=some u)(new:ObjOk X.prog X.w (YD H x o) h' x o):Inv X pins σ (YD H x o) {s with heap:=h',toks:=t'}:=I.un (Un.write mu he k heo) (I.hok.write mu he k heo new)
theorem Inv.pins_of(I:Inv X pins σ H s)(h:∀p∈pins',s.heap.get? p.1=some p.2/\H p.1=none/\p.1≠X.env.locals/\p.1∉X.fs/\∀v,p.2.data≠.cell v):Inv X pins' σ H s:=⟨I.ok,I.os,I.bare,I.base,I.loc,I.cell,I.free,I.freeC,λp hp=>(U6.mp hp).elim (λz=>I.pin p (Tu _ z)) (h p),I.hok,I.len⟩
theorem Md{N:List Str}(hN:N.Nodup){i j:Nat}{x:Str}(a:N[i]?=some x)(b:N[j]?=some x):i=j:=by obtain⟨h1,e1⟩:=Uj.mp a;obtain⟨h2,e2⟩:=Uj.mp b;exact(Ww hN).mp (e1.trans e2.symm)
theorem Sx{M:Model}{A:Around}{E:VP}{i:Nat}{x:Str}{v:V}{u:Value}{Q:Unit->Shared->Prop}(I:Inv X pins σ H s)(hN:X.N.Nodup)(hi:X.N[i]?=some x)(hx:Loc X.env.scope x)(r:RelV v u)(h:∀s',Inv X pins (σ.set i (some v)) H s'->(∃a,Heap.SameBut a s.heap s'.heap/\(a=X.env.locals\/X.env.cells.lookup x=some a))->Q () s')(hf:X.fn x=true\/X.env.scope.names.lookup x=some .local:=by first|exact .inl rfl|exact .inr rfl|assumption):wpAny M A (storeName X.env x u) Q E s:=by
 obtain⟨m,hn,hl⟩:=id I.loc;have hcls:(X.env.scope.kind==.class||(X.env.scope.kind==.module&&X.env.locals != X.env.globals))=false:=by rw[I.ok.kind];rfl
 have hiσ:i<σ.length:=by rw[I.len];exact(Uj.mp hi).1
 have cne:=I.cne;have tracked:∀{a:Addr}{h':Heap},(∃o,s.heap.get? a=some o/\H a=none)->Heap.SameBut a s.heap h'->HOk X.prog X.w H h':=λ{a h'} ha hs b ob e=>by
  obtain⟨_,_,hfree⟩:=ha;refine(I.hok b ob e).stay (λc w' hc q=>(hs.2 c ?_).trans q) (λ_ q=>q) λ_ _ q=>q;rintro rfl;rcases hc with rfl|hc
  ·rw[hfree]at e;cases e
  ·rw[hfree]at hc;cases hc
 rcases hx with hk|hk
 ·refine wpAny_storeName_local hk hn (λh' hn' hs=>?_) hcls;obtain⟨oL,_,_,hoL,_⟩:=id hn;refine h _ ⟨I.ok,I.os,I.bare,⟨λb o e n hb hx=>?_,λb o e n hb hx=>?_,I.base.free,λb o e hx=>?_,I.base.tups,I.base.frzs,I.base.tbls⟩,⟨_,hn',λj y v' e1 e2 e3=>?_⟩,λy c e=>?_,I.free,I.freeC,λp hp=>?_,tracked ⟨oL,hoL,I.free⟩ hs,by simpa using I.len⟩ ⟨_,hs,.inl rfl⟩
  ·exact(hs.2 b (UR (UH (Ut e) I.ok.above))).trans (I.base.keep b o e n hb hx)
  ·obtain⟨sl,e1⟩:=I.base.slot b o e n hb hx;exact⟨sl,(hs.2 b (UR (UH (Ut e) I.ok.above))).trans e1⟩
  ·obtain⟨o',e1⟩:=I.base.there b o e hx;exact⟨o',(hs.2 b (UR (UH (Ut e) I.ok.above))).trans e1⟩
  ·by_cases hj:j=i
   ·subst hj;rw[hi]at e1;cases e1;rw[Tg hiσ]at e2;cases e2;exact⟨u,r,.inl ⟨hk,by simp⟩⟩
   ·rw[Uh (Ne.symm hj)]at e2;obtain⟨u',r',q⟩:=hl j y v' e1 e2 e3;refine⟨u',r',?_⟩;rcases q with⟨k,e⟩|⟨k,c,e,z⟩
    ·refine .inl ⟨k,?_⟩;have:y≠x:=λe=>hj (Md hN e1 (e ▸ hi));simp[this,e]
    ·exact .inr ⟨k,c,e,z.sameBut hs (cne y c e)⟩
  ·obtain⟨w',z⟩:=I.cell y c e;exact⟨w',z.sameBut hs (cne y c e)⟩
  ·obtain⟨e,n,ne,nf,d⟩:=I.pin p hp;exact⟨(hs.2 p.1 ne).trans e,n,ne,nf,d⟩
 ·have hfn:X.fn x=true:=by
   rcases hf with z|z
   ·exact z
   ·rw[z]at hk;cases hk
  obtain⟨c,hc⟩:=I.ok.has x (.inl hk);obtain⟨w',z⟩:=I.cell x c hc;refine wpAny_storeName_cell I.ok.kind hk hc z (λh' hc' hs=>?_);obtain⟨oc,hoc,hocd⟩:=id z;refine h {s with heap:=h'} ⟨I.ok,I.os,I.bare,⟨λb o e n hb hx=>?_,λb o e n hb hx=>?_,I.base.free,λb o e hx=>?_,I.base.tups,I.base.frzs,I.base.tbls⟩,⟨m,hn.sameBut hs (Ne.symm (cne x c hc)),λj y v' e1 e2 e3=>?_⟩,λy c' e=>?_,I.free,I.freeC,λp hp=>?_,tracked ⟨oc,hoc,I.freeC x c hc⟩ hs,by simpa using I.len⟩ ⟨c,hs,.inr hc⟩
  ·exact(hs.2 b (UR (UH (Ut e) (I.ok.cab x c hfn hc)))).trans (I.base.keep b o e n hb hx)
  ·obtain⟨sl,e1⟩:=I.base.slot b o e n hb hx;exact⟨sl,(hs.2 b (UR (UH (Ut e) (I.ok.cab x c hfn hc)))).trans e1⟩
  ·obtain⟨o',e1⟩:=I.base.there b o e hx;exact⟨o',(hs.2 b (UR (UH (Ut e) (I.ok.cab x c hfn hc)))).trans e1⟩
  ·by_cases hj:j=i
   ·subst hj;rw[hi]at e1;cases e1;rw[Tg hiσ]at e2;cases e2;exact⟨u,r,.inr ⟨.inl hk,c,hc,hc'⟩⟩
   ·rw[Uh (Ne.symm hj)]at e2;obtain⟨u',r',q⟩:=hl j y v' e1 e2 e3;refine⟨u',r',?_⟩;rcases q with q|⟨k,c',e,z'⟩
    ·exact .inl q
    ·refine .inr ⟨k,c',e,z'.sameBut hs ?_⟩;rintro rfl;exact hj (Md hN e1 (I.ok.inj _ _ _ e hc ▸ hi))
  ·by_cases hcc:c'=c
   ·subst hcc;exact⟨_,hc'⟩
   ·obtain⟨w2,z2⟩:=I.cell y c' e;exact⟨w2,z2.sameBut hs hcc⟩
  ·obtain⟨e,n,ne,nf,d⟩:=I.pin p hp;refine⟨(hs.2 p.1 ?_).trans e,n,ne,nf,d⟩;intro q;rw[q,hoc]at e;have q':oc=p.2:=Option.some.inj e;exact d w' (by rw[<-q'];exact hocd)
theorem Gm{M:Model}{A:Around}{E:VP}{i:Nat}{x:Str}{v:V}{u:Value}{Q:Unit->Shared->Prop}(I:Inv X pins σ H s)(hN:X.N.Nodup)(hi:X.N[i]?=some x)(hx:Loc X.env.scope x)(r:RelV v u)(h:∀s',Inv X pins (σ.set i (some v)) H s'->Q () s')(hf:X.fn x=true\/X.env.scope.names.lookup x=some .local:=by first|exact .inl rfl|exact .inr rfl|assumption):wpAny M A (storeName X.env x u) Q E s:=Sx I hN hi hx r (λs' I' _=>h s' I') hf
theorem Inv.call'{s':Shared}{ch:List Addr}(I:Inv X pins σ H s)(ho:s'.os=s.os)(u:Un (O4 X.stack) ch H H' s.heap s'.heap)(hok:HOk X.prog X.w H' s'.heap)(hg:AllBare s'.gens)(hch:∀b∈ch,(b∈X.ex\/X.s₀.heap.objs.size<=b)/\b≠X.env.locals/\(∀x c,X.env.cells.lookup x=some c->c≠b)/\∀p∈X.pn++pins,p.1≠b):Inv X pins σ H' s':=by obtain⟨h',g',d',t',o'⟩:=s';have e:o'=s.os:=ho;subst e;exact I.call (g':=g') (t':=t') (d':=d') u hok hg hch
end
abbrev XK:=Value->Option Addr->Hp->Prop
abbrev St:=List (Option V)
abbrev VK:=V->Hp->Prop
abbrev TE:=St->Hp->VK->Prop
abbrev TT:=St->Hp->(Bool->Hp->Prop)->Prop
abbrev TA:=St->Hp->(List V->Hp->Prop)->Prop
structure Ends where
 nx:St->Hp->Prop
 rt:VK
 bk:St->Hp->Prop:=λ_ _=>False
 ct:St->Hp->Prop:=λ_ _=>False
abbrev TS:=Ends->St->Hp->Prop
def EP(X:Cx)(pins:Js)(σ:St)(Q:VK)(u:Value)(s':Shared):Prop:=∃v H',Inv X pins σ H' s'/\RelV v u/\Q v H'
def TP(X:Cx)(pins:Js)(σ:St)(Q:Bool->Hp->Prop)(b:Bool)(s':Shared):Prop:=∃H',Inv X pins σ H' s'/\Q b H'
def AP(X:Cx)(pins:Js)(σ:St)(Q:List V->Hp->Prop)(us:List Value)(s':Shared):Prop:=∃vs H',Inv X pins σ H' s'/\Vals vs us/\Q vs H'
def SP(X:Cx)(pins:Js)(D:Ends)(f:Flow)(s':Shared):Prop:=
 match f with
 |.next=>∃σ' H',Inv X pins σ' H' s'/\D.nx σ' H'|.brk=>∃σ' H',Inv X pins σ' H' s'/\D.bk σ' H'|.cont=>∃σ' H',Inv X pins σ' H' s'/\D.ct σ' H'|.ret u=>∃v σ' H',Inv X pins σ' H' s'/\RelV v u/\D.rt v H'
def PE(X:Cx)(e:Expr)(t:TE):Prop:=∀(pins:Js)(s:Shared)(σ:St)(H:Hp)(Q:VK),Inv X pins σ H s->t σ H Q->wpAny (model X.prog X.w) X.A (eval e X.env) (EP X pins σ Q) X.xe s
def PT(X:Cx)(e:Expr)(t:TT):Prop:=∀(pins:Js)(s:Shared)(σ:St)(H:Hp)(Q:Bool->Hp->Prop),Inv X pins σ H s->t σ H Q->wpAny (model X.prog X.w) X.A (isTrue e X.env (eval e X.env)) (TP X pins σ Q) X.xe s
def PW(X:Cx)(e:Expr)(t:TT):Prop:=∀(whole:Sem Value)(pins:Js)(s:Shared)(σ:St)(H:Hp)(Q:Bool->Hp->Prop),Inv X pins σ H s->t σ H Q->wpAny (model X.prog X.w) X.A (isTrue e X.env whole) (TP X pins σ Q) X.xe s
theorem PW.pt(h:PW X e t):PT X e t:=h _
def PA(X:Cx)(es:List Expr)(t:TA):Prop:=∀(pos:Pos)(pins:Js)(s:Shared)(σ:St)(H:Hp)(Q:List V->Hp->Prop),Inv X pins σ H s->t σ H Q->wpAny (model X.prog X.w) X.A (spliced (backTo pos (starEach es X.env))) (AP X pins σ Q) X.xe s
def PS(X:Cx)(st:Stmt)(t:TS):Prop:=∀(pins:Js)(s:Shared)(σ:St)(H:Hp)(D:Ends),Inv X pins σ H s->t D σ H->wpAny (model X.prog X.w) X.A (exec st X.env) (SP X pins D) X.xe s
def PSs(X:Cx)(st:List Stmt)(t:TS):Prop:=∀(pins:Js)(s:Shared)(σ:St)(H:Hp)(D:Ends),Inv X pins σ H s->t D σ H->wpAny (model X.prog X.w) X.A (execs st X.env) (SP X pins D) X.xe s
theorem YR(h:wpAny M A t Q E s)(hQ:∀a s,Q a s->Q' a s):wpAny M A t Q' E s:=Td h hQ λ_ _ x=>x
section
variable{X:Cx}
def sF(i:Nat):TE:=λσ H Q=>∃v,σ[i]?=some (some v)/\Q v H
def tC(v:V):TE:=λ_ H Q=>Q v H
theorem jE(hN:X.N[i]?=some x)(hv:qQ X.env.scope x)(hd:(x==("__debug__" : Str))=false:=by decide)(hcd:(x==("__classdict__" : Str))=false:=by decide):PE X (.Name x pos) (sF i):=by
 intro pins s σ H Q I h;obtain⟨v,e,h⟩:=h;obtain⟨m,hn,hl⟩:=I.loc;obtain⟨u,r,l⟩:=hl i x v hN e hv;have fin:EP X pins σ Q u s:=⟨v,H,I,r,h⟩;rcases l with⟨hk,hm⟩|⟨hk,c,hc,hcell⟩
 ·exact wpAny_Name (wpAny_loadName_local I.ok.kind hk hn hm fin) hd
 ·rcases hk with hk|hk
  ·exact wpAny_Name (wpAny_loadName_cell I.ok.kind hk hc hcell fin) hd
  ·exact wpAny_Name (wpAny_loadName_free I.ok.kind hk hc hcell fin hcd) hd
theorem jF:PE X (.Constant (.int i) j pos) (tC (.int i)):=λ_ _ _ H _ I h=>wpAny_Constant_int ⟨.int i,H,I.tok _,⟨_,rfl⟩,h⟩
theorem nB:PE X (.Constant (.bool b) j pos) (tC (.bl b)):=λ_ _ _ H _ I h=>Constant_bool ⟨.bl b,H,I,rfl,h⟩
theorem jG:PE X (.Constant .none j pos) (tC .non):=λ_ _ _ H _ I h=>Constant_none ⟨.non,H,I,rfl,h⟩
theorem jH:PE X (.Constant (.str x) j pos) (tC (.str x)):=λ_ _ _ H _ I h=>Calls.Constant_str ⟨.str x,H,I.tok _,⟨_,rfl⟩,h⟩
def Gl(X:Cx)(x:Str):Prop:=X.env.kindOf x=some .globalImplicit
theorem C9{E:VP}{pins:Js}{s:Shared}{σ:St}{H:Hp}{x:Str}{u:Value}{pos:Pos}{Q:VP}(I:Inv X pins σ H s)(hg:Gl X x)(hm:X.mg x=some u)(h:Q u s)(hd:(x==("__debug__" : Str))=false:=by decide):wpAny (model X.prog X.w) X.A (eval (.Name x pos) X.env) Q E s:=RX I.ok.kind hg (Calls.loadGlobal_global (by rw[I.ok.glob];exact I.mod.glob.keeps I.bk) hm h) hd
theorem Bi{E:VP}{pins:Js}{s:Shared}{σ:St}{H:Hp}{x:Str}{u:Value}{pos:Pos}{Q:VP}(I:Inv X pins σ H s)(hg:Gl X x)(hm:X.mg x=none)(hv:bootBuiltins x=some u)(h:Q u s)(hn:x ≠"__name__":=by decide)(hd:(x==("__debug__" : Str))=false:=by decide):wpAny (model X.prog X.w) X.A (eval (.Name x pos) X.env) Q E s:=by obtain⟨mb,h1,h2⟩:=I.mod.blt;exact RX I.ok.kind hg (Calls.loadGlobal_builtin (by rw[I.ok.glob];exact I.mod.glob.keeps I.bk) hm (by rw[I.ok.blt];exact h1.keeps I.bk) ((h2 x hn).trans hv) h) hd
theorem O5(hg:Gl X x)(hm:X.mg x=some u)(r:RelV v u)(hd:(x==("__debug__" : Str))=false:=by decide):PE X (.Name x pos) (tC v):=λ_ _ _ H _ I h=>C9 I hg hm ⟨v,H,I,r,h⟩ hd
theorem Lb(hg:Gl X x)(hm:X.mg x=none)(hv:bootBuiltins x=some u)(r:RelV v u)(hn:x ≠"__name__":=by decide)(hd:(x==("__debug__" : Str))=false:=by decide):PE X (.Name x pos) (tC v):=λ_ _ _ H _ I h=>Bi I hg hm hv ⟨v,H,I,r,h⟩ hn hd
variable{a b:Expr}{ta tb:TE}{pos:Pos}
def tB(t:TE):TT:=λσ H Q=>t σ H λx H1=>∃c,x=.bl c/\Q c H1
theorem jI(h:PE X e t)(he:∀whole,isTrue e X.env whole=(do let v <-whole;standAt e.pos;holding [v] (truthy v)):=by intro _;rfl):PT X e (tB t):=by intro pins s σ H Q I hw;refine isTrue_plain (YR (h pins s σ H _ I hw) λv s1 ⟨x,H1,I1,r1,q1⟩=>?_) (he _);obtain⟨d,rfl,q⟩:=q1;cases r1;exact TN ⟨H1,I1,q⟩
variable{tA tB':TT}{rest:List Expr}
def sG(t u:TT):TT:=λσ H Q=>t σ H λc H1=>if c=true then u σ H1 Q else Q false H1
def wE(t u:TT):TT:=λσ H Q=>t σ H λc H1=>if c=true then Q true H1 else u σ H1 Q
def sH(t:TT):TT:=λσ H Q=>t σ H λc H1=>Q (!c) H1
theorem cP(ha:PT X a tA):PW X (.BoolOp .And [a] pos) tA:=by
 intro wh pins s σ H Q I h;refine isTrue_and (YR (ha pins s σ H Q I h) λc s1 e=>?_);cases c with
 |true=>exact isTrue_and_nil e|false=>exact e
theorem jJ(ha:PT X a tA):PW X (.BoolOp .Or [a] pos) tA:=by
 intro wh pins s σ H Q I h;refine isTrue_or (YR (ha pins s σ H Q I h) λc s1 e=>?_);cases c with
 |false=>exact isTrue_or_nil e|true=>exact e
theorem jK(ha:PT X a tA)(hb:PW X (.BoolOp .And (b::rest) pos) tB'):PW X (.BoolOp .And (a::b::rest) pos) (sG tA tB'):=by
 intro wh pins s σ H Q I h;refine isTrue_and (YR (ha pins s σ H _ I h) λc s1 ⟨H1,I1,q1⟩=>?_);cases c with
 |true=>exact hb wh pins s1 σ H1 Q I1 q1|false=>exact⟨H1,I1,q1⟩
theorem nD(ha:PT X a tA)(hb:PW X (.BoolOp .Or (b::rest) pos) tB'):PW X (.BoolOp .Or (a::b::rest) pos) (wE tA tB'):=by
 intro wh pins s σ H Q I h;refine isTrue_or (YR (ha pins s σ H _ I h) λc s1 ⟨H1,I1,q1⟩=>?_);cases c with
 |true=>exact⟨H1,I1,q1⟩|false=>exact hb wh pins s1 σ H1 Q I1 q1
theorem jL(ha:PT X a tA):PT X (.UnaryOp .Not a pos) (sH tA):=by intro pins s σ H Q I h;exact isTrue_not (ha pins s σ H (λc H1=>Q (!c) H1) I h)
def nE(ta tb:TE):TE:=λσ H Q=>ta σ H λx H1=>∃c,x=.bl c/\if c=true then tb σ H1 Q else Q (.bl false) H1
def nF(ta:TE):TE:=λσ H Q=>ta σ H λx H1=>∃c,x=.bl c/\Q (.bl (!c)) H1
theorem jM(h:PE X a t):PE X (.BoolOp op [a] pos) t:=λpins s σ H Q I hw=>BoolOp_one (h pins s σ H Q I hw)
theorem jN(ha:PE X a ta)(hb:PE X (.BoolOp .And (b::rest) pos) tb):PE X (.BoolOp .And (a::b::rest) pos) (nE ta tb):=by
 intro pins s σ H Q I h;refine BoolOp_and (YR (ha pins s σ H _ I h) λv s1 ⟨x,H1,I1,r1,q1⟩=>?_);obtain⟨c,rfl,q1⟩:=q1;cases r1;refine TN ?_;cases c with
 |true=>exact hb pins s1 σ H1 Q I1 q1|false=>exact⟨.bl false,H1,I1,rfl,q1⟩
theorem jO(ha:PE X a ta):PE X (.UnaryOp .Not a pos) (nF ta):=by intro pins s σ H Q I h;refine UnaryOp_ (YR (ha pins s σ H _ I h) λv s1 ⟨x,H1,I1,r1,q1⟩=>?_);obtain⟨c,rfl,q1⟩:=q1;cases r1;exact not_of (TN ⟨.bl (!c),H1,I1,rfl,q1⟩)
def wF(t:TT)(ta tb:TE):TE:=λσ H Q=>t σ H λc H1=>if c=true then ta σ H1 Q else tb σ H1 Q
theorem A2(hc:PT X c tA)(ha:PE X a ta)(hb:PE X b tb):PE X (.IfExp c a b pos) (wF tA ta tb):=by
 intro pins s σ H Q I h;refine wpAny_IfExp (YR (hc pins s σ H _ I h) λd s1 ⟨H1,I1,q1⟩=>?_);cases d with
 |true=>exact ha pins s1 σ H1 Q I1 q1|false=>exact hb pins s1 σ H1 Q I1 q1
end
def SqL(K:Frag)(H:Hp)(a:Addr)(xs:List V):Prop:=Rd H a (.lst xs)\/∃(o:Obj)(its:Array Value)(n:Nat),K.lookup a=some o/\o.cls=.type "list"/\o.dict=none/\o.data=.seq its n/\its.size<=sizeLine/\Vals xs its.toList
def SqT(K:Frag)(H:Hp)(a:Addr)(xs:List V):Prop:=Rd H a (.tup xs)\/∃(o:Obj)(its:Array Value)(n:Nat),K.lookup a=some o/\o.cls=.type "tuple"/\o.data=.seq its n/\its.size<=sizeLine/\Vals xs its.toList
def sI:Value->Option V
 |.none=>some .non|.bool b=>some (.bl b)|.int i _=>some (.int i)|.str x _=>some (.str x)|.bytes b _=>some (.byt b)|.float b _=>some (.flt b)|.ref a=>some (.ref a)|.type n=>some (.ty n)|_=>none
theorem RelV.abs(r:RelV x u):sI u=some x:=by
 cases x with
 |non=>cases r;rfl|bl _=>cases r;rfl|int _=>obtain⟨t,rfl⟩:=r;rfl|str _=>obtain⟨t,rfl⟩:=r;rfl|byt _=>obtain⟨t,rfl⟩:=r;rfl|flt _=>obtain⟨t,rfl⟩:=r;rfl|ref _=>cases r;rfl|ty _=>cases r;rfl
theorem RelV.inj(r:RelV x u)(q:RelV y u):x=y:=Option.some.inj (r.abs.symm.trans q.abs)
theorem Vals.inj:∀{xs ys:List V}{us:List Value},Vals xs us->Vals ys us->xs=ys
 |_,_,_,.nil,.nil=>rfl|_,_,_,.cons r t,.cons r' t'=>by rw[r.inj r',Vals.inj t t']
theorem SqL.of{K:Frag}(h:H a=some (.lst xs)):SqL K H a xs:=.inl (.inl h)
theorem SqT.of{K:Frag}(h:H a=some (.tup xs)):SqT K H a xs:=.inl (.inl h)
theorem Inv.list(I:Inv X pins σ H s)(h:SqL X.K H a xs):∃its:List Value,Vals xs its/\PlainL s.heap a its.toArray/\xs.length<=sizeLine:=by
 rcases h with h|⟨o,its,n,hk,hc,hd,hs,hz,r⟩
 ·obtain⟨z,its,n,r,e⟩:=h.ok I.hok;exact⟨its,r,⟨_,n,e,rfl,rfl,rfl⟩,z⟩
 ·refine⟨its.toList,r,⟨o,n,I.kIn a o hk,hc,hd,by simpa using hs⟩,?_⟩;have e:=r.length;simp only[TB]at e;omega
theorem Inv.tuple(I:Inv X pins σ H s)(h:SqT X.K H a xs):∃its:List Value,Vals xs its/\IsTup s.heap a its.toArray/\xs.length<=sizeLine:=by
 rcases h with h|⟨o,its,n,hk,hc,hs,hz,r⟩
 ·obtain⟨z,its,r,p⟩:=h.ok I.hok;exact⟨its,r,p,z⟩
 ·refine⟨its.toList,r,⟨o,I.kIn a o hk,hc,n,by simpa using hs⟩,?_⟩;have e:=r.length;simp only[TB]at e;omega
theorem Inv.list_inj(I:Inv X pins σ H s)(h:SqL X.K H a xs)(h':SqL X.K H a ys):xs=ys:=by
 obtain⟨its,r,⟨o,n,e,_,_,d⟩,_⟩:=I.list h;obtain⟨its',r',⟨o',n',e',_,_,d'⟩,_⟩:=I.list h';rw[e]at e';cases e';rw[d]at d';injection d' with d1 _;have:its=its':=by simpa using TQ Array.toList d1
 subst this;exact r.inj r'
theorem Inv.tuple_inj(I:Inv X pins σ H s)(h:SqT X.K H a xs)(h':SqT X.K H a ys):xs=ys:=by
 obtain⟨its,r,⟨o,e,_,n,d⟩,_⟩:=I.tuple h;obtain⟨its',r',⟨o',e',_,n',d'⟩,_⟩:=I.tuple h';rw[e]at e';cases e';rw[d]at d';injection d' with d1 _;have:its=its':=by simpa using TQ Array.toList d1
 subst this;exact r.inj r'
abbrev Cx.wish(X:Cx)(E:VP):Cx:={X with xe:=E}
abbrev Cx.nox(X:Cx):Cx:=X.wish λ_ _=>False
theorem Cx.Ok.wish{X:Cx}(ok:X.Ok)(E:VP):(X.wish E).Ok:=⟨ok.mod,ok.kind,ok.glob,ok.blt,ok.above,ok.inj,ok.has,ok.cab,ok.hd,ok.frames,ok.stk,ok.exf,ok.bs,ok.bsz,ok.noex,ok.exfs,ok.funs,ok.frf⟩
theorem Cx.Ok.unwish{X:Cx}{E:VP}(ok:(X.wish E).Ok):X.Ok:=⟨ok.mod,ok.kind,ok.glob,ok.blt,ok.above,ok.inj,ok.has,ok.cab,ok.hd,ok.frames,ok.stk,ok.exf,ok.bs,ok.bsz,ok.noex,ok.exfs,ok.funs,ok.frf⟩
section
variable{X:Cx}{pins:Js}{σ:St}{H:Hp}{s:Shared}{E:VP}
theorem Inv.wish(I:Inv X pins σ H s)(E:VP):Inv (X.wish E) pins σ H s:=⟨I.ok.wish E,I.os,I.bare,I.base,I.loc,I.cell,I.free,I.freeC,I.pin,I.hok,I.len⟩
theorem Inv.unwish(I:Inv (X.wish E) pins σ H s):Inv X pins σ H s:=⟨I.ok.unwish,I.os,I.bare,I.base,I.loc,I.cell,I.free,I.freeC,I.pin,I.hok,I.len⟩
theorem SP.unwish(h:SP (X.wish E) pins D f s'):SP X pins D f s':=by
 cases f with
 |next=>obtain⟨σ',H',I,q⟩:=h;exact⟨σ',H',I.unwish,q⟩|brk=>obtain⟨σ',H',I,q⟩:=h;exact⟨σ',H',I.unwish,q⟩|cont=>obtain⟨σ',H',I,q⟩:=h;exact⟨σ',H',I.unwish,q⟩|ret u=>obtain⟨v,σ',H',I,r,q⟩:=h;exact⟨v,σ',H',I.unwish,r,q⟩
theorem PE.nox(h:PE X.nox e t):PE X e t:=λpins s σ H Q I hw=>
 Td (h pins s σ H Q (I.wish _) hw) (λ_ _ ⟨v,H',I',r,q⟩=>⟨v,H',I'.unwish,r,q⟩) λ_ _ z=>False.elim z
theorem PT.nox(h:PT X.nox e t):PT X e t:=λpins s σ H Q I hw=>
 Td (h pins s σ H Q (I.wish _) hw) (λ_ _ ⟨H',I',q⟩=>⟨H',I'.unwish,q⟩) λ_ _ z=>False.elim z
theorem PSs.nox{st:List Stmt}{t:TS}(h:PSs X.nox st t):PSs X st t:=λpins s σ H D I hw=>
 Td (h pins s σ H D (I.wish _) hw) (λ_ _ q=>q.unwish) λ_ _ z=>False.elim z
end
section
variable{X:Cx}{st:Stmt}{rest:List Stmt}{t u:TS}{e:Expr}{te:TE}{pos:Pos}
def nG:TS:=λD σ H=>D.nx σ H
def nH(t u:TS):TS:=λD σ H=>t {D with nx:=u D} σ H
theorem O6:PSs X [] nG:=λ_ _ σ H _ I h=>RP ⟨σ,H,I,h⟩
theorem A3(h1:PS X st t)(h2:PSs X rest u):PSs X (st::rest) (nH t u):=by
 intro pins s σ H D I h;refine wpAny_execs_cons (YR (h1 pins s σ H {D with nx:=u D} I h) λf s1 q=>?_);cases f with
 |next =>obtain⟨σ',H',I',q⟩:=q;exact h2 pins s1 σ' H' D I' q|ret v=>exact q|brk=>exact q|cont=>exact q
theorem cQ(h1:PS X st t):PSs X [st] t:=by
 intro pins s σ H D I h;refine wpAny_execs_cons (YR (h1 pins s σ H D I h) λf s1 q=>?_);cases f with
 |next=>exact RP q|ret v=>exact q|brk=>exact q|cont=>exact q
theorem Inv.quiet(I:Inv X pins σ H s):interactive X.env=false:=by simp[interactive,I.ok.kind]
def nI(te:TE):TS:=λD σ H=>te σ H λ_ H1=>D.nx σ H1
theorem cS(he:PE X e te)(hs:swapsWith e none pos.line X.env=pure false:=by rfl):PS X (.Expr e pos) (nI te):=by intro pins s σ H D I h;exact wpAny_Expr_any (YR (he pins s σ H _ I h) λv s1 ⟨x,H1,I1,r1,q1⟩=>⟨σ,H1,I1,q1⟩) I.quiet hs
def sJ(te:TE):TS:=λD σ H=>te σ H D.rt
theorem jP(he:PE X e te):PS X (.Return (some e) pos) (sJ te):=by intro pins s σ H D I h;exact wpAny_Return_some (YR (he pins s σ H _ I h) λv s1 ⟨x,H1,I1,r1,q1⟩=>⟨x,σ,H1,I1,r1,q1⟩)
def nJ:TS:=λD _ H=>D.rt .non H
theorem cT:PS X (.Return none pos) nJ:=λ_ _ σ H _ I h=>wpAny_Return_none ⟨.non,σ,H,I,rfl,h⟩
def sK(c:TT)(t u:TS):TS:=λD σ H=>c σ H λb H1=>if b=true then t D σ H1 else u D σ H1
theorem nK(hc:PT X c tc)(ha:PSs X a t)(hb:PSs X b u):PS X (.If c a b pos) (sK tc t u):=by
 intro pins s σ H D I h;refine wpAny_If (YR (hc pins s σ H _ I h) λd s1 ⟨H1,I1,q1⟩=>?_);cases d with
 |true=>exact ha pins s1 σ H1 D I1 q1|false=>exact hb pins s1 σ H1 D I1 q1
end
abbrev TG:=V->St->Hp->(St->Hp->Prop)->Prop
abbrev hG:=List V->St->Hp->(St->Hp->Prop)->Prop
def PG(X:Cx)(target:Expr)(t:TG):Prop:=∀(pins:Js)(s:Shared)(σ:St)(H:Hp)(v:V)(u:Value)(Q:St->Hp->Prop),Inv X pins σ H s->RelV v u->t v σ H Q->wpAny (model X.prog X.w) X.A (assign target X.env u) (λ_ s'=>∃σ' H',Inv X pins σ' H' s'/\Q σ' H') X.xe s
def jQ(X:Cx)(ts:List Expr)(t:hG):Prop:=∀(pins:Js)(s:Shared)(σ:St)(H:Hp)(vs:List V)(us:List Value)(Q:St->Hp->Prop),Inv X pins σ H s->Vals vs us->t vs σ H Q->wpAny (model X.prog X.w) X.A (assignInOrder ((assignEach ts X.env).map (·.2)) us) (λ_ s'=>∃σ' H',Inv X pins σ' H' s'/\Q σ' H') X.xe s
abbrev jR:=V->V->V->Hp->(Hp->Prop)->Prop
def jS(X:Cx)(t:jR):Prop:=∀(pins:Js)(s:Shared)(σ:St)(H:Hp)(o i v:V)(ov iv u:Value)(Q:Hp->Prop),Inv X pins σ H s->RelV o ov->RelV i iv->RelV v u->t o i v H Q->wpAny (model X.prog X.w) X.A (setItem ov iv u) (λ_ s'=>∃H',Inv X pins σ H' s'/\Q H') X.xe s
def hJ(i:Nat):TG:=λv σ H Q=>Q (σ.set i (some v)) H
theorem cU(hN:X.N.Nodup)(hi:X.N[i]?=some x)(hx:Loc X.env.scope x)(hf:X.fn x=true\/X.env.scope.names.lookup x=some .local:=by first|exact .inl rfl|exact .inr rfl|assumption):PG X (.Name x pos) (hJ i):=by intro pins s σ H v u Q I r h;exact wpAny_assign_Name (Gm I hN hi hx r (λs' I'=>⟨_,H,I',h⟩) hf)
def sL:hG:=λvs σ H Q=>vs=[]/\Q σ H
def nM(t:TG)(u:hG):hG:=λvs σ H Q=>∃v r,vs=v::r/\t v σ H λσ' H'=>u r σ' H' Q
theorem cV:jQ X [] sL:=by intro pins s σ H vs us Q I r h;obtain⟨e,h⟩:=h;subst e;cases r;exact assignInOrder_nil ⟨σ,H,I,h⟩
theorem A4{e:Expr}{es:List Expr}{t:TG}{u:hG}(h1:PG X e t)(h2:jQ X es u)(hs:(assignEach (e::es) X.env).map (·.2)=assign e X.env::(assignEach es X.env).map (·.2):=by rfl):jQ X (e::es) (nM t u):=by
 intro pins s σ H vs us Q I r h;obtain⟨v,vr,e1,h⟩:=h;subst e1;cases r with
 |cons r rr =>rw[hs];refine assignInOrder_cons (YR (h1 pins s σ H _ _ _ I r h) λ_ s1 ⟨σ1,H1,I1,q1⟩=>?_);exact h2 pins s1 σ1 H1 _ _ Q I1 rr q1
def sM(K:Frag)(n:Nat)(t:hG):TG:=λv σ H Q=>∃a xs,v=.ref a/\SqT K H a xs/\xs.length=n/\t xs σ H Q
theorem jT{es:List Expr}{k:Nat}{t:hG}{n:Nat}(hc:X.calm=true)(h:jQ X es t)(hn:(assignEach es X.env).length=n:=by rfl)(hst:(assignEach es X.env).findIdx? (·.1)=none:=by rfl):PG X (.Tuple es k pos) (sM X.K n t):=by intro pins s σ H v u Q I r hw;obtain⟨a,xs,e1,hq,hl,hw⟩:=hw;subst e1;cases r;obtain⟨its,rv,ht,hz⟩:=I.tuple hq;refine assign_Tuple_tuple (I.ok.hd hc) ht (by simp[hn,<-hl,rv.length]) hst λh' hx=>?_;have I1:Inv X pins σ H {s with heap:=h'}:=I.kept (t':=s.toks) λb o e=>hx b o (UR (Ut e)) e;exact h pins _ σ H xs _ Q I1 (by simpa using rv) hw
def sN(to ti:TE)(t:jR):TG:=λv σ H Q=>to σ H λo H1=>ti σ H1 λi H2=>t o i v H2 λH3=>Q σ H3
theorem A5{o i:Expr}{to ti:TE}{t:jR}(ho:PE X o to)(hi:PE X i ti)(hs:jS X t)(ha:∀v,assign (.Subscript o i pos) X.env v=(do
   let ov <-holding [v] (eval o X.env)
   let iv <-holding [v,ov] (eval i X.env)
   standAt pos
   holding [v,ov,iv] (setItem ov iv v)
   release [v,ov,iv] []):=by intro _;rfl):PG X (.Subscript o i pos) (sN to ti t):=by
 intro pins s σ H v u Q I r h;rw[ha];refine Uc (Rm (YR (ho pins s σ H _ I h) λov s1 ⟨x,H1,I1,r1,q1⟩=>?_));refine Uc (Rm (YR (hi pins s1 σ H1 _ I1 q1) λiv s2 ⟨y,H2,I2,r2,q2⟩=>?_));refine Uc (wpAny_standAt (Uc (Rm (YR (hs pins s2 σ H2 x y v ov iv u _ I2 r1 r2 r q2) λ_ s3 ⟨H3,I3,q3⟩=>?_))));exact wpAny_release ⟨σ,H3,I3,q3⟩
def jU(te:TE)(g:TG):TS:=λD σ H=>te σ H λx H1=>g x σ H1 D.nx
theorem NN{tg e:Expr}{te:TE}{g:TG}(he:PE X e te)(hg:PG X tg g)(hs:swapsWithSole [tg] e pos.line X.env=pure false:=by rfl)(hw:swappedStores [tg] e X.env=pure none:=by rfl)(h1:(assignEach [tg] X.env).map (·.2)=[assign tg X.env]:=by rfl):PS X (.Assign [tg] e pos) (jU te g):=by intro pins s σ H D I h;refine wpAny_Assign_stores (YR (he pins s σ H _ I h) λv s1 ⟨x,H1,I1,r1,q1⟩=>?_) hs hw;rw[h1];exact YR (hg pins s1 σ H1 x v _ I1 r1 q1) λ_ s2 q=>q
theorem jV(hN:X.N.Nodup)(hi:X.N[i]?=some x)(hx:Loc X.env.scope x)(he:PE X e te)(hs:swapsWith e (some (.Name x pos')) pos.line X.env=pure false:=by rfl)(hf:X.fn x=true\/X.env.scope.names.lookup x=some .local:=by first|exact .inl rfl|exact .inr rfl|assumption):
  PS X (.Assign [.Name x pos'] e pos) (jU te (hJ i)):=by
 intro pins s σ H D I h;refine wpAny_Assign_Name (YR (he pins s σ H _ I h) λv s1 ⟨y,H1,I1,r1,q1⟩=>?_) hs;exact Gm I1 hN hi hx r1 (λs2 I2=>⟨_,H1,I2,q1⟩) hf
def jW(c:TT)(tb:TS):TS:=λD σ H=>∃W:Nat->St->Hp->Prop,(∃m,W m σ H)/\∀m σ H,W m σ H->c σ H λb H1=>if b=true then ∃N:St->Hp->Prop,(∀σ' H',N σ' H'->∃m',m'<m/\W m' σ' H')/\tb {D with nx:=N,ct:=N,bk:=D.nx} σ H1 else D.nx σ H1
theorem A6(hp:PassesOwn (model X.prog X.w) X.A X.env X.xe)(hc:PT X c tc)(hb:PSs X body tb):PS X (.While c body [] pos) (jW tc tb):=by
 intro pins s σ H D I h;obtain⟨W,⟨m0,w0⟩,turn⟩:=h;refine wpAny_While (codeAny_whileLoop (λn s'=>∃σ' H',Inv X pins σ' H' s'/\W n σ' H') ?_ m0 ⟨σ,H,I,w0⟩);rintro n s1 ⟨σ1,H1,I1,w1⟩;refine TL hp (YR (hc pins s1 σ1 H1 _ I1 (turn n σ1 H1 w1)) λb s2 ⟨H2,I2,q2⟩=>?_);cases b with
 |true=>
  obtain⟨N,hN,q2⟩:=q2;rw[Ub rfl];refine TL hp (YR (hb pins s2 σ1 H2 _ I2 q2) λf s3 q3=>?_);cases f with
  |next =>obtain⟨σ3,H3,I3,n3⟩:=q3;obtain⟨m',hm,w3⟩:=hN σ3 H3 n3;exact⟨m',hm,σ3,H3,I3,w3⟩|cont =>obtain⟨σ3,H3,I3,n3⟩:=q3;obtain⟨m',hm,w3⟩:=hN σ3 H3 n3;exact⟨m',hm,σ3,H3,I3,w3⟩|brk=>exact q3|ret v=>exact q3
 |false =>rw[Ud Uf];exact RP ⟨σ1,H2,I2,q2⟩
structure It where
 go:Nat->Hp->Prop
 yld:Nat->Hp->V->Hp->Prop
 stop:Nat->Hp->Prop
def FpOk(X:Cx)(pins:Js)(H:Hp)(b:Addr):Prop:=H b=none/\b≠X.env.locals/\b∉X.fs/\(b∈X.ex\/X.s₀.heap.objs.size<=b)/\(∀x c,X.env.cells.lookup x=some c->c≠b)/\∀p∈X.pn++pins,p.1≠b
theorem Inv.fpOk(I:Inv X pins σ H s)(hb:s.heap.objs.size<=b)(hn:H' b=none):FpOk X pins H' b:=by
 refine⟨hn,B6 (UH I.lt hb),I.nofs hb,.inr (Um I.sz hb),λx c e z=>?_,λp hp z=>?_⟩
 ·obtain⟨v,q⟩:=I.cell x c e;exact absurd (UH q.lt (by rw[z];exact hb)) (Tt _)
 ·exact absurd (UH (Ut (I.pin p hp).1) (by rw[z];exact hb)) (Tt _)
structure Turn(P:Program)(w:World)(K:Frag)(tg:Expr)(J:It)(fp:List Addr)(it:Addr)(tn:Nat->Heap->Prop):Prop where
 mem:it∈fp
 obj:∀i h,tn i h->∀b∈fp,∃o,h.get? b=some o/\∀v,o.data≠.cell v
 keep:∀i h h',tn i h->(∀b∈fp,∀o,h.get? b=some o->h'.get? b=some o)->tn i h'
 item:∀(X:Cx),X.prog=P->X.w=w->X.K=K->X.calm=true->∀(i:Nat)(pins:Js)(s:Shared)(σ:St)(H:Hp)(E:VP),Inv X pins σ H s->(∀b∈fp,FpOk X pins H b)->tn i s.heap->J.go i H->wpAny (model P w) X.A (pyNext (.ref it)) (λr s1=>∃u,r=some u/\wpAny (model P w) X.A (letOwnedTupleGo tg (.ref it) u) (λ_ s2=>∃x H',Inv X pins σ H' s2/\RelV x u/\J.yld i H x H'/\tn (i+1) s2.heap/\∀b∈fp,H' b=none) E s1) E s
 done:∀(X:Cx),X.prog=P->X.w=w->X.K=K->X.calm=true->∀(i:Nat)(pins:Js)(s:Shared)(σ:St)(H:Hp)(E:VP),Inv X pins σ H s->(∀b∈fp,FpOk X pins H b)->tn i s.heap->J.stop i H->wpAny (model P w) X.A (pyNext (.ref it)) (λr s1=>r=none/\Inv X pins σ H s1) E s
 self:∀(A:Around)(i:Nat)(s:Shared)(Q:VP)(E:VP),tn i s.heap->Q (.ref it) s->wpAny (model P w) A (pyIter (.ref it)) Q E s
abbrev TI:=St->Hp->(It->Hp->Prop)->Prop
def vL(X:Cx)(pins:Js)(σ:St)(tg:Expr)(R:It->Hp->Prop)(itv:Value)(s2:Shared):Prop:=∃(it:Addr)(fp:List Addr)(tn:Nat->Heap->Prop)(J:It)(H':Hp),itv=.ref it/\Inv X pins σ H' s2/\Turn X.prog X.w X.K tg J fp it tn/\tn 0 s2.heap/\(∀b∈fp,FpOk X pins H' b)/\R J H'
def PI(X:Cx)(tg iter:Expr)(wi:TI):Prop:=∀(pins:Js)(s:Shared)(σ:St)(H:Hp)(R:It->Hp->Prop),Inv X pins σ H s->wi σ H R->wpAny (model X.prog X.w) X.A (eval iter X.env) (λv s1=>wpAny (model X.prog X.w) X.A (pyIter v) (vL X pins σ tg R) X.xe s1) X.xe s
theorem Me{M:Model}{A:Around}{E:VP}{s:Shared}{tg:Expr}{it:Addr}{u:Value}{o:Obj}{n:String}{vs:Array Value}{Q:Unit->Shared->Prop}(ho:s.heap.get? it=some o)(hc:o.cls=.type n)(hd:o.data=.fields vs)(hn:["enumerate","zip","dict_itemiterator","dict_reverseitemiterator","odict_iterator","itertools.zip_longest","itertools.pairwise"].contains n=false)(hQ:Q () s):wpAny M A (letOwnedTupleGo tg (.ref it) u) Q E s:=by
  unfold letOwnedTupleGo;cases tg<;>first
    |exact Up hQ
    | (cases u<;>first
        |exact Up hQ
        | (refine Uc (wpAny_load ho ?_)
           rw[hc,hd];show wpAny M A (if (["enumerate","zip","dict_itemiterator","dict_reverseitemiterator","odict_iterator","itertools.zip_longest","itertools.pairwise"].contains n&&vs[0]? == some (rawInt _))=true then _ else _) Q E s;rw[Ud (by intro h;rw[hn,Bool.false_and]at h;cases h)];exact Up hQ))
def qR(K:Frag)(a:Addr):It:=⟨λi H=>∃xs x,SqL K H a xs/\xs[i]?=some x,λi H x H'=>H'=H/\∀xs,SqL K H a xs->xs[i]?=some x,λi H=>∃xs,SqL K H a xs/\xs.length<=i⟩
def sO(K:Frag)(a:Addr):It:=⟨λi H=>∃xs x,SqT K H a xs/\xs[i]?=some x,λi H x H'=>H'=H/\∀xs,SqT K H a xs->xs[i]?=some x,λi H=>∃xs,SqT K H a xs/\xs.length<=i⟩
def qS(lo:Int)(n:Nat):It:=⟨λi _=>i<n,λi H x H'=>H'=H/\x=.int (lo+i),λi _=>n<=i⟩
theorem Sy{P:Program}{w:World}{K:Frag}{tg:Expr}(a it:Addr):Turn P w K tg (qR K a) [it] it (λi h=>h.IsListIter it a i) where
 mem:=by simp
 obj:=λi h st b hb=>by
  have e:b=it:=by simpa using hb
  subst e;obtain⟨o,e,c,d⟩:=st;exact⟨o,e,λv z=>by rw[d]at z;cases z⟩
 keep:=λi h h' st k=>st.at λo e=>k it (by simp) o e
 item:=by intro X hP hw hK hc i pins s σ H E I hf st hg;subst hP hw hK;obtain⟨xs,x,hq,hx⟩:=hg;obtain⟨its,rv,p,hz⟩:=I.list hq;obtain⟨u,hu,ru⟩:=rv.get hx;obtain⟨f0,f1,f2,f3,f4,f5⟩:=hf it (by simp);refine wpAny_pyNext_list_item st p.isList (x:=u) (by simpa using hu) λh' st' sb=>?_;have I1:Inv X pins σ H {s with heap:=h'}:=I.turned (t':=s.toks) (λb o hb e=>(sb.2 b hb).trans e) f0 f1 f3 f4 f5;obtain⟨o,e,c,d⟩:=id st';exact⟨u,rfl,Me (s:={s with heap:=h'}) e c d (by decide) ⟨x,H,I1,ru,⟨rfl,λys hy=>by rw[I.list_inj hy hq];exact hx⟩,st',λb hb=>(hf b hb).1⟩⟩
 done:=by intro X hP hw hK hc i pins s σ H E I hf st hg;subst hP hw hK;obtain⟨xs,hq,hx⟩:=hg;obtain⟨its,rv,p,hz⟩:=I.list hq;obtain⟨f0,f1,f2,f3,f4,f5⟩:=hf it (by simp);have hl:=rv.length;exact wpAny_pyNext_list_end (I.ok.hd hc) st p.isList (by simp;omega) λh' eb=>⟨rfl,I.turned (t':=s.toks) (λb o hb e=>eb b o hb e) f0 f1 f3 f4 f5⟩
 self:=λ_ _ _ _ _ st h=>wpAny_pyIter_listiter st h
theorem NO{P:Program}{w:World}{K:Frag}{tg:Expr}(a it:Addr):Turn P w K tg (sO K a) [it] it (λi h=>h.IsTupleIter it a i) where
 mem:=by simp
 obj:=λi h st b hb=>by
  have e:b=it:=by simpa using hb
  subst e;obtain⟨o,e,c,d⟩:=st;exact⟨o,e,λv z=>by rw[d]at z;cases z⟩
 keep:=λi h h' st k=>st.at λo e=>k it (by simp) o e
 item:=by intro X hP hw hK hc i pins s σ H E I hf st hg;subst hP hw hK;obtain⟨xs,x,hq,hx⟩:=hg;obtain⟨its,rv,p,hz⟩:=I.tuple hq;obtain⟨u,hu,ru⟩:=rv.get hx;obtain⟨f0,f1,f2,f3,f4,f5⟩:=hf it (by simp);refine wpAny_pyNext_tuple_item st (show s.heap.IsTuple a its.toArray from p) (x:=u) (by simpa using hu) λh' st' sb=>?_;have I1:Inv X pins σ H {s with heap:=h'}:=I.turned (t':=s.toks) (λb o hb e=>(sb.2 b hb).trans e) f0 f1 f3 f4 f5;obtain⟨o,e,c,d⟩:=id st';exact⟨u,rfl,Me (s:={s with heap:=h'}) e c d (by decide) ⟨x,H,I1,ru,⟨rfl,λys hy=>by rw[I.tuple_inj hy hq];exact hx⟩,st',λb hb=>(hf b hb).1⟩⟩
 done:=by intro X hP hw hK hc i pins s σ H E I hf st hg;subst hP hw hK;obtain⟨xs,hq,hx⟩:=hg;obtain⟨its,rv,p,hz⟩:=I.tuple hq;obtain⟨f0,f1,f2,f3,f4,f5⟩:=hf it (by simp);have hl:=rv.length;exact wpAny_pyNext_tuple_end (I.ok.hd hc) st (show s.heap.IsTuple a its.toArray from p) (by simp;omega) λh' eb=>⟨rfl,I.turned (t':=s.toks) (λb o hb e=>eb b o hb e) f0 f1 f3 f4 f5⟩
 self:=λ_ _ _ _ _ st h=>wpAny_pyIter_tupleiter st h
theorem NP{P:Program}{w:World}{K:Frag}{tg:Expr}(it:Addr)(lo:Int)(n:Nat):Turn P w K tg (qS lo n) [it] it (λi h=>IsRangeIter h it (lo+(i:Nat)*1) ((n:Int) - (i:Nat)) 1) where
 mem:=by simp
 obj:=λi h st b hb=>by
  have e:b=it:=by simpa using hb
  subst e;exact⟨_,st,λv z=>by have z':Data.fields _=Data.cell v:=z;cases z'⟩
 keep:=λi h h' st k=>k it (by simp) _ st
 item:=by intro X hP hw hK hc i pins s σ H E I hf st hg;subst hP hw hK;obtain⟨f0,f1,f2,f3,f4,f5⟩:=hf it (by simp);have W:=Walks.range (prog:=X.prog) (w:=X.w) (I.ok.hd hc) it lo 1 n;refine W.item i s _ _ hg st λv h' tk hv st' kk=>?_;obtain⟨t,rfl⟩:=hv;have I1:Inv X pins σ H {s with heap:=h',toks:=tk}:=I.turned (λb o hb e=>kk b o (by simpa using hb) e) f0 f1 f3 f4 f5;refine⟨_,rfl,Me (s:={s with heap:=h',toks:=tk}) (n:="range_iterator") st' rfl rfl (by decide) ⟨.int (lo+i),H,I1,⟨t,?_⟩,⟨rfl,rfl⟩,st',λb hb=>(hf b hb).1⟩⟩;rw[Int.mul_one]
 done:=by intro X hP hw hK hc i pins s σ H E I hf st hg;subst hP hw hK;obtain⟨f0,f1,f2,f3,f4,f5⟩:=hf it (by simp);exact wpAny_pyNext_range_end (I.ok.hd hc) st (by have:n<=i:=hg;omega) λh' eb=>⟨rfl,I.turned (t':=s.toks) (λb o hb e=>eb b o hb e) f0 f1 f3 f4 f5⟩
 self:=λ_ _ _ _ _ st h=>wpAny_pyIter_rangeiter st h
theorem A7{pins:Js}{σ:St}{H:Hp}{s:Shared}{R:It->Hp->Prop}{E:VP}{lo hi:Int}{t u v:Tok}{tk:Nat}(I:Inv X pins σ H s)(h1:-(2^62)<=lo)(h2:lo<2^62)(h3:-(2^62)<=hi)(h4:hi<2^62)(q:R (qS lo (hi-lo).toNat) H):wpAny (model X.prog X.w) X.A (pyIter (.ref s.heap.objs.size)) (vL X pins σ tg R) E {s with heap:=s.heap.push {cls:=.type "range",data:=.fields #[.int lo t,.int hi u,.int 1 v]},toks:=tk}:=by
 refine wpAny_pyIter_range (IsRange.new ..) (small_one h1 h2 h3 h4) ?_;have I1:Inv X pins σ H {s with heap:=s.heap.push {cls:=.type "range",data:=.fields #[.int lo t,.int hi u,.int 1 v]},toks:=tk}:=I.kept λb o e=>Ug _ e;refine⟨(s.heap.push {cls:=.type "range",data:=.fields #[.int lo t,.int hi u,.int 1 v]}).objs.size,[(s.heap.push {cls:=.type "range",data:=.fields #[.int lo t,.int hi u,.int 1 v]}).objs.size],_,_,H,rfl,I1.kept (t':=tk) λb o e=>Ug _ e,NP _ lo (hi-lo).toNat,?_,λb hb=>?_,q⟩
 ·have e1:lo+((0:Nat):Int)*1=lo:=by simp
  have e2:(((hi-lo).toNat:Nat):Int) - ((0:Nat):Int)=Builtin.Range.rangeSize lo hi 1:=by rw[rangeSize_one];split<;>omega
  show IsRangeIter _ _ (lo+((0:Nat):Int)*1) ((((hi-lo).toNat:Nat):Int) - ((0:Nat):Int)) 1;rw[e1,e2];exact UA _ rfl
 ·have e:b=(s.heap.push {cls:=.type "range",data:=.fields #[.int lo t,.int hi u,.int 1 v]}).objs.size:=by simpa using hb
  subst e;exact I1.fpOk (Ui _) (I1.hok.fresh (Ui _))
def nO(ta:TA):TI:=λσ H R=>ta σ H λvs H1=>∃j:Int,vs=[.int j]/\-(2^62)<=j/\j<2^62/\R (qS 0 j.toNat) H1
theorem Sz(hg:Gl X "range")(hm:X.mg "range"=none)(ha:PA X [a] ta)(hs:starEach [a] X.env=[(false,eval a X.env)]:=by rfl):PI X tg (.Call (.Name "range" p) [a] [] pos) (nO ta):=by
 intro pins s σ H R I h;refine Call_ (Bi I hg hm boot_range (Tc (YR (ha pos pins s σ H _ I h) λus s1 ⟨vs,H1,I1,r1,q1⟩=>?_) hs rfl));obtain⟨j,e,q1,q2,q⟩:=q1;subst e;cases r1 with
 |cons r rr =>cases rr;obtain⟨t,rfl⟩:=r;exact call_range_1 (A7 I1 (by omega) (by omega) q1 q2 (by simpa using q))
def sP(wi:TI)(g:TG)(tb:TS):TS:=λD σ H=>wi σ H λJ H1=>∃W:Nat->Nat->St->Hp->Prop,(∃m,W 0 m σ H1)/\∀i m σ H,W i m σ H->(J.stop i H/\D.nx σ H)\/(J.go i H/\∃N:St->Hp->Prop,(∀σ' H',N σ' H'->∃m',m'<m/\W (i+1) m' σ' H')/\∀x H',J.yld i H x H'->g x σ H' λσ2 H2=>tb {D with nx:=N,ct:=N,bk:=D.nx} σ2 H2)
def Gn(fp:List Addr)(h:Heap):List (Addr×Obj):=fp.filterMap λb=>(h.get? b).map λo=>(b,o)
theorem Kl(hb:b∈fp)(e:h.get? b=some o):(b,o)∈Gn fp h:=Wb.mpr ⟨b,hb,by rw[e];rfl⟩
theorem SA(hp:p∈Gn fp h):p.1∈fp/\h.get? p.1=some p.2:=by
 obtain⟨b,hb,e⟩:=Wb.mp hp;cases q:h.get? b with
 |none=>rw[q]at e;cases e|some o =>rw[q]at e;have e':(b,o)=p:=Option.some.inj e;subst e';exact⟨hb,q⟩
theorem Inv.pinned(I:Inv X pins σ H s)(hf:∀b∈fp,FpOk X pins H b)(ho:∀b∈fp,∃o,s.heap.get? b=some o/\∀v,o.data≠.cell v):Inv X (pins++Gn fp s.heap) σ H s:=
 I.pins_of λp hp=>(U6.mp hp).elim (λz=>I.pin p (UD _ z)) λz=>by obtain⟨hb,e⟩:=SA z;obtain⟨f0,f1,f2,_⟩:=hf p.1 hb;obtain⟨o,e',d⟩:=ho p.1 hb;rw[e]at e';cases e';exact⟨e,f0,f1,f2,d⟩
theorem Inv.unpinned(I:Inv X (pins++pl) σ H s):Inv X pins σ H s:=I.pins_of λp hp=>I.pin p (UD _ (Tu _ hp))
theorem jX{iter:Expr}{body:List Stmt}{wi:TI}{g:TG}{tb:TS}{pos:Pos}(hp:PassesOwn (model X.prog X.w) X.A X.env X.xe)(hc:X.calm=true)(hi:PI X tg iter wi)(hg:PG X tg g)(hb:PSs X body tb)(hs:∀x,foldedSetIterable iter X.env x=pure x:=by intro _;rfl):PS X (.For tg iter body [] pos) (sP wi g tb):=by
 intro pins s σ H D I h;refine wpAny_For (YR (hi pins s σ H _ I h) λv s1 h1=>YR h1 λitv s2 h2=>?_) hs;obtain⟨it,fp,tn,J,H2,e,I2,T,st2,f2,W,⟨m0,w0⟩,turn⟩:=h2;subst e
 -- what stays true of the iterator's objects through the loop
 have stat:∀{H':Hp},(∀b∈fp,H' b=none)->∀b∈fp,FpOk X pins H' b:=λhn b hb=>⟨hn b hb,(f2 b hb).2⟩;refine codeAny_forLoop_any (λn s'=>∃i σ' H',Inv X pins σ' H' s'/\tn i s'.heap/\(∀b∈fp,H' b=none)/\W i n σ' H') ?_ m0 ⟨0,σ,H2,I2,st2,λb hb=>(f2 b hb).1,w0⟩;rintro n s3 ⟨i,σ3,H3,I3,st3,fr3,w3⟩;rcases turn i n σ3 H3 w3 with⟨stop,qn⟩|⟨go,N,hN,step⟩
 ·refine TL hp (YR (T.done X rfl rfl rfl hc i pins s3 σ3 H3 X.xe I3 (stat fr3) st3 stop) λr s4 ⟨hr,I4⟩=>?_);subst hr;exact RP ⟨σ3,H3,I4,qn⟩
 ·refine TL hp (YR (T.item X rfl rfl rfl hc i pins s3 σ3 H3 X.xe I3 (stat fr3) st3 go) λr s4 ⟨u,hr,h4⟩=>?_);subst hr;refine TL hp (YR h4 λ_ s5 ⟨x,H5,I5,r5,y5,st5,fr5⟩=>?_);have I5':=I5.pinned (stat fr5) (T.obj _ _ st5);refine TL hp (YR (hg _ s5 σ3 H5 x u _ I5' r5 (step x H5 y5)) λ_ s6 ⟨σ6,H6,I6,q6⟩=>?_);refine TL hp (YR (hb _ s6 σ6 H6 _ I6 q6) λf s7 q7=>?_);have again:∀{σ7:St}{H7:Hp},Inv X (pins++Gn fp s5.heap) σ7 H7 s7->N σ7 H7->∃m,m<n/\∃i σ' H',Inv X pins σ' H' s7/\tn i s7.heap/\(∀b∈fp,H' b=none)/\W i m σ' H':=λ{σ7 H7} I7 n7=>by obtain⟨m',hm,w7⟩:=hN σ7 H7 n7;refine⟨m',hm,i+1,σ7,H7,I7.unpinned,T.keep _ _ _ st5 λb hb o e=>(I7.pin (b,o) (UD _ (UD _ (Kl hb e)))).1,λb hb=>?_,w7⟩;obtain⟨o,e,d⟩:=T.obj _ _ st5 b hb;exact(I7.pin (b,o) (UD _ (UD _ (Kl hb e)))).2.1
  cases f with
  |next=>obtain⟨σ7,H7,I7,n7⟩:=q7;exact again I7 n7|cont=>obtain⟨σ7,H7,I7,n7⟩:=q7;exact again I7 n7|brk=>obtain⟨σ7,H7,I7,q7⟩:=q7;exact⟨σ7,H7,I7.unpinned,q7⟩|ret v=>obtain⟨x7,σ7,H7,I7,r7,q7⟩:=q7;exact⟨x7,σ7,H7,I7.unpinned,r7,q7⟩
abbrev R2:=V->V->Hp->VK->Prop
def OpR(X:Cx)(f:Value->Value->Sem Value)(r:R2):Prop:=∀(pins:Js)(s:Shared)(σ:St)(H:Hp)(x y:V)(v u:Value)(Q:VK),Inv X pins σ H s->RelV x v->RelV y u->r x y H Q->wpAny (model X.prog X.w) X.A (f v u) (EP X pins σ Q) X.xe s
def qT(X:Cx)(f:Value->Sem Value)(r:V->Hp->VK->Prop):Prop:=∀(pins:Js)(s:Shared)(σ:St)(H:Hp)(x:V)(v:Value)(Q:VK),Inv X pins σ H s->RelV x v->r x H Q->wpAny (model X.prog X.w) X.A (f v) (EP X pins σ Q) X.xe s
def CallR(X:Cx)(f:Value)(r:List V->Hp->VK->Prop):Prop:=∀(pins:Js)(s:Shared)(σ:St)(H:Hp)(xs:List V)(us:List Value)(Q:VK),Inv X pins σ H s->Vals xs us->r xs H Q->wpAny (model X.prog X.w) X.A (call f us) (EP X pins σ Q) X.xe s
def nQ(r:R2)(ta tb:TE):TE:=λσ H Q=>ta σ H λx H1=>tb σ H1 λy H2=>r x y H2 Q
def wG(r:V->Hp->VK->Prop)(ta:TE):TE:=λσ H Q=>ta σ H λx H1=>r x H1 Q
def rI(C:Int->Int->Prop)(g:Int->Int->V):R2:=λx y H Q=>∃i j,x=.int i/\y=.int j/\C i j/\Q (g i j) H
def cH(g:Int->Int->V):R2:=λx y H Q=>∃i j,x=.int i/\y=.int j/\Q (g i j) H
def rU(g:Int->V):V->Hp->VK->Prop:=λx H Q=>∃i,x=.int i/\Q (g i) H
theorem jY(ha:PE X a ta)(hb:PE X b tb){pins:Js}{s:Shared}{σ:St}{H:Hp}{R:V->V->Hp->Prop}(I:Inv X pins σ H s)(h:ta σ H λx H1=>tb σ H1 λy H2=>R x y H2){Q:VP}{f:Value->Value->Sem Value}(hf:∀v u s2 x y H2,Inv X pins σ H2 s2->RelV x v->RelV y u->R x y H2->wpAny (model X.prog X.w) X.A (f v u) Q X.xe s2):
  wpAny (model X.prog X.w) X.A (eval a X.env) (λv s₁=>wpAny (model X.prog X.w) X.A (eval b X.env) (λu s₂=>wpAny (model X.prog X.w) X.A (f v u) Q X.xe s₂) X.xe s₁) X.xe s:=by
 refine YR (ha pins s σ H _ I h) λv s1 ⟨x,H1,I1,r1,q1⟩=>?_;refine YR (hb pins s1 σ H1 _ I1 q1) λu s2 ⟨y,H2,I2,r2,q2⟩=>?_;exact hf v u s2 x y H2 I2 r1 r2 q2
theorem nR(ho:OpR X (binaryOp op) r)(ha:PE X a ta)(hb:PE X b tb):PE X (.BinOp a op b pos) (nQ r ta tb):=by intro pins s σ H Q I h;exact wpAny_BinOp (jY ha hb I h λv u s2 x y H2 I2 rx ry q=>ho pins s2 σ H2 x y v u Q I2 rx ry q)
theorem nS(ho:qT X (unaryOp op) r)(ha:PE X a ta):PE X (.UnaryOp op a pos) (wG r ta):=by intro pins s σ H Q I h;exact UnaryOp_ (YR (ha pins s σ H _ I h) λv s1 ⟨x,H1,I1,r1,q1⟩=>ho pins s1 σ H1 x v Q I1 r1 q1)
theorem sQ{f:Value->Value->Sem Value}{C:Int->Int->Prop}{g:Int->Int->Int}(rule:∀(i j:Int) (t u:Tok) (s:Shared) (Q:VP) (E:VP),C i j->Q (.int (g i j) s.toks) {s with toks:=s.toks+1}->wpAny (model X.prog X.w) X.A (f (.int i t) (.int j u)) Q E s):
  OpR X f (rI C λi j=>.int (g i j)):=by
 intro pins s σ H x y v u Q I rx ry h;obtain⟨i,j,rfl,rfl,hc,q⟩:=h;obtain⟨t,rfl⟩:=rx;obtain⟨t',rfl⟩:=ry;exact rule i j t t' s _ _ hc ⟨.int (g i j),H,I.tok _,⟨_,rfl⟩,q⟩
theorem nT{f:Value->Value->Sem Value}{g:Int->Int->Int}(rule:∀(i j:Int) (t u:Tok) (s:Shared) (Q:VP) (E:VP),Q (.int (g i j) s.toks) {s with toks:=s.toks+1}->wpAny (model X.prog X.w) X.A (f (.int i t) (.int j u)) Q E s):
  OpR X f (cH λi j=>.int (g i j)):=by
 intro pins s σ H x y v u Q I rx ry h;obtain⟨i,j,rfl,rfl,q⟩:=h;obtain⟨t,rfl⟩:=rx;obtain⟨t',rfl⟩:=ry;exact rule i j t t' s _ _ ⟨.int (g i j),H,I.tok _,⟨_,rfl⟩,q⟩
theorem cW{f:Value->Value->Sem Value}{g:Int->Int->Bool}(rule:∀(i j:Int) (t u:Tok) (s:Shared) (Q:VP) (E:VP),Q (.bool (g i j)) s->wpAny (model X.prog X.w) X.A (f (.int i t) (.int j u)) Q E s):
  OpR X f (cH λi j=>.bl (g i j)):=by
 intro pins s σ H x y v u Q I rx ry h;obtain⟨i,j,rfl,rfl,q⟩:=h;obtain⟨t,rfl⟩:=rx;obtain⟨t',rfl⟩:=ry;exact rule i j t t' s _ _ ⟨.bl (g i j),H,I,rfl,q⟩
def sS(i j:Int):Prop:=0<j/\j<1073741824
def CMul(i j:Int):Prop:=(-(2^64)<i/\i<2^64)\/(-(2^64)<j/\j<2^64)
theorem CMul.ok(h:CMul i j):IntMulOk i j:=by
 rcases h with⟨h1,h2⟩|⟨h1,h2⟩
 ·exact .of_left (intBits_le_64 h1 h2)
 ·exact .of_right (intBits_le_64 h1 h2)
theorem op_add:OpR X (binaryOp .Add) (cH λi j=>.int (i+j)):=nT λ_ _ _ _ _ _ _ q=>add_int q
theorem jZ:OpR X (binaryOp .Sub) (cH λi j=>.int (i-j)):=nT λ_ _ _ _ _ _ _ q=>sub_int q
theorem op_mul:OpR X (binaryOp .Mult) (rI CMul λi j=>.int (i*j)):=sQ λ_ _ _ _ _ _ _ hc q=>mul_int q hc.ok
theorem cX:OpR X (binaryOp .FloorDiv) (rI sS λi j=>.int (i/j)):=sQ λi j _ _ _ _ _ hc q=>by have h1:(0:Int)<j:=hc.1;have h2:j<1073741824:=hc.2;exact floordiv_int (by omega) (by rw[Int.fdiv_eq_ediv_of_nonneg i (by omega)];exact q) (.inl (PyProof.noPylong_small (by omega)))
theorem kA:OpR X (binaryOp .Mod) (rI (λ_ j=>0<j) λi j=>.int (i%j)):=sQ λi j _ _ _ _ _ hc q=>by have h1:(0:Int)<j:=hc;exact mod_int' (by omega) (by rw[Int.fmod_eq_emod_of_nonneg i (by omega)];exact q)
theorem wH{f:Value->Sem Value}{g:Int->Int}(rule:∀(i:Int) (t:Tok) (s:Shared) (Q:VP) (E:VP),Q (.int (g i) s.toks) {s with toks:=s.toks+1}->wpAny (model X.prog X.w) X.A (f (.int i t)) Q E s):
  qT X f (rU λi=>.int (g i)):=by
 intro pins s σ H x v Q I rx h;obtain⟨i,rfl,q⟩:=h;obtain⟨t,rfl⟩:=rx;exact rule i t s _ _ ⟨.int (g i),H,I.tok _,⟨_,rfl⟩,q⟩
theorem kB:qT X (unaryOp .USub) (rU λi=>.int (-i)):=wH λ_ _ _ _ _ q=>neg_int q
theorem A8(I:Inv X pins σ H s)(q:Q (.bl k) H)(e:k=k'):EP X pins σ Q (.bool k') s:=by subst e;exact⟨.bl k,H,I,rfl,q⟩
theorem A9:OpR X (compareOp .Lt) (cH λi j=>.bl (decide (i<j))):=cW λ_ _ _ _ _ _ _ q=>lt_int q
theorem nU:OpR X (compareOp .LtE) (cH λi j=>.bl (decide (i<=j))):=cW λ_ _ _ _ _ _ _ q=>le_int q
theorem hU:OpR X (compareOp .Gt) (cH λi j=>.bl (decide (j<i))):=cW λ_ _ _ _ _ _ _ q=>gt_int q
theorem hV:OpR X (compareOp .GtE) (cH λi j=>.bl (decide (j<=i))):=cW λ_ _ _ _ _ _ _ q=>ge_int q
theorem kC:OpR X (compareOp .Is) (λx y H Q=>y=.non/\Q (.bl (decide (x=.non))) H):=by
 intro pins s σ H x y v u Q I rx ry h;obtain⟨rfl,q⟩:=h;cases ry;refine is_none_gen (A8 I q ?_);cases x<;>first
  | (cases rx;rfl)
  | (obtain⟨t,rfl⟩:=rx;rfl)
theorem cY:OpR X (compareOp .IsNot) (λx y H Q=>y=.non/\Q (.bl (!decide (x=.non))) H):=by
 intro pins s σ H x y v u Q I rx ry h;obtain⟨rfl,q⟩:=h;cases ry;refine isnot_none_gen (A8 I q ?_);cases x<;>first
  | (cases rx;rfl)
  | (obtain⟨t,rfl⟩:=rx;rfl)
theorem OpR.or(h:OpR X f r)(h':OpR X f r'):OpR X f (λx y H Q=>r x y H Q\/r' x y H Q):=by
 intro pins s σ H x y v u Q I rx ry q;rcases q with q|q
 ·exact h pins s σ H x y v u Q I rx ry q
 ·exact h' pins s σ H x y v u Q I rx ry q
theorem Xm(b:Expr)(h:op≠.In:=by decide)(h2:op≠.NotIn:=by decide):behindInMarks op b=false:=by
 have e1:(op==CmpOp.In)=false:=by cases op<;>first|rfl|exact absurd rfl h
 have e2:(op==CmpOp.NotIn)=false:=by cases op<;>first|rfl|exact absurd rfl h2
 cases b<;>simp[behindInMarks,e1,e2]
theorem cZ(ho:OpR X (compareOp op) r)(ha:PE X a ta)(hb:PE X b tb)(hm:behindInMarks op b=false):PE X (.Compare a [op] [b] pos) (nQ r ta tb):=by intro pins s σ H Q I h;exact wpAny_Compare1 (jY ha hb I h λv u s2 x y H2 I2 rx ry q=>ho pins s2 σ H2 x y v u Q I2 rx ry q) hm
def nV(t:TE):TT:=λσ H Q=>t σ H λx H'=>∃k,x=.bl k/\Q k H'
theorem dA(ho:OpR X (compareOp op) r)(ha:PE X a ta)(hb:PE X b tb)(hm:behindInMarks op b=false):PT X (.Compare a [op] [b] pos) (nV (nQ r ta tb)):=by
 intro pins s σ H Q I h;refine wpAny_isTrue_Compare1 (YR (ha pins s σ H _ I h) λv s1 ⟨x,H1,I1,r1,q1⟩=>YR (hb pins s1 σ H1 _ I1 q1) λu s2 ⟨y,H2,I2,r2,q2⟩=>
  YR (ho pins s2 σ H2 x y v u _ I2 r1 r2 q2) λc s3 ⟨z,H3,I3,r3,k,e,q3⟩=>?_) hm
 subst e;cases r3;exact TN ⟨H3,I3,q3⟩
def Da(r r':R2)(ta tb tc:TE):TE:=λσ H Q=>ta σ H λx H1=>tb σ H1 λy H2=>r x y H2 λz H3=>∃k,z=.bl k/\(if k=true then tc σ H3 λw' H4=>r' y w' H4 Q else Q (.bl false) H3)
theorem Db{op op':CmpOp}{r r':R2}(ho:OpR X (compareOp op) r)(ho':OpR X (compareOp op') r')(ha:PE X a ta)(hb:PE X b tb)(hc:PE X c tc)(hm:lastMarks [op,op'] [b,c]=false:=by with_unfolding_all rfl):PE X (.Compare a [op,op'] [b,c] pos) (Da r r' ta tb tc):=by
 intro pins s σ H Q I h;refine Compare_chain (YR (ha pins s σ H _ I h) λv s1 ⟨x,H1,I1,r1,q1⟩=>chain_link (YR (hb pins s1 σ H1 _ I1 q1) λu s2 ⟨y,H2,I2,r2,q2⟩=>
  YR (ho pins s2 σ H2 x y v u _ I2 r1 r2 q2) λd s3 ⟨z,H3,I3,r3,k,e,q3⟩=>?_)) hm
 subst e;cases r3;refine TN ?_;cases k with
 |false=>exact ite_ff ⟨.bl false,H3,I3,rfl,q3⟩|true=>exact ite_tt (chain_last (YR (hc pins s3 σ H3 _ I3 q3) λw' s4 ⟨z',H4,I4,r4,q4⟩=>ho' pins s4 σ H4 y z' u w' Q I4 r2 r4 q4))
theorem Bj:(sizeLine:Nat)<2^63:=by rw[Ry];decide
theorem Mf(r:Vals [x] us):∃u,us=[u]/\RelV x u:=by
 cases r with
 |cons r1 r2=>cases r2;exact⟨_,rfl,r1⟩
theorem hW(r:Vals [x,y] us):∃u w',us=[u,w']/\RelV x u/\RelV y w':=by
 cases r with
 |cons r1 r2=>
  cases r2 with
  |cons r3 r4=>cases r4;exact⟨_,_,rfl,r1,r3⟩
theorem SB(hc:X.calm=true):CallR X (.builtin "max") (λxs H Q=>∃i j,xs=[.int i,.int j]/\Q (.int (if j>i then j else i)) H):=by
 intro pins s σ H xs us Q I r h;obtain⟨i,j,rfl,q⟩:=h;obtain⟨u,w',rfl,⟨t,rfl⟩,⟨t',rfl⟩⟩:=hW r;refine max_two_ints (I.ok.hd hc) λh' tk k=>⟨_,H,I.kept k,?_,q⟩;by_cases hj:j>i
 ·rw[Ub hj,Ub hj];exact⟨_,rfl⟩
 ·rw[Ud hj,Ud hj];exact⟨_,rfl⟩
theorem SC(hc:X.calm=true):CallR X (.builtin "min") (λxs H Q=>∃i j,xs=[.int i,.int j]/\Q (.int (if j<i then j else i)) H):=by
 intro pins s σ H xs us Q I r h;obtain⟨i,j,rfl,q⟩:=h;obtain⟨u,w',rfl,⟨t,rfl⟩,⟨t',rfl⟩⟩:=hW r;refine min_two_ints (I.ok.hd hc) λh' tk k=>⟨_,H,I.kept k,?_,q⟩;by_cases hj:j<i
 ·rw[Ub hj,Ub hj];exact⟨_,rfl⟩
 ·rw[Ud hj,Ud hj];exact⟨_,rfl⟩
theorem SD:CallR X (.type "int") (λxs H Q=>(∃i,xs=[.int i]/\Q (.int i) H)\/∃k,xs=[.bl k]/\Q (.int (if k then 1 else 0)) H):=by
 intro pins s σ H xs us Q I r h;rcases h with⟨i,rfl,q⟩|⟨k,rfl,q⟩
 ·obtain⟨u,rfl,t,rfl⟩:=Mf r;exact call_int_int ⟨.int i,H,I,⟨_,rfl⟩,q⟩
 ·obtain⟨u,rfl,r1⟩:=Mf r;cases r1;exact call_int_bool ⟨.int (if k then 1 else 0),H,I.tok _,⟨_,rfl⟩,q⟩
structure ObjM(h:Heap)(x dx C:Addr)(mA:VX):Prop where
 obj:h.get? x=some (instObj C dx)
 ns:h.Ns1 dx mA
 ne:dx≠x
theorem SE{h:Heap}{dx:Addr}{mA:VX}(n:h.Ns1 dx mA):∃od,h.get? dx=some od/\∀name,lookIn name od=some (mA name):=by
 obtain⟨o,es,ep,ho,hd,hk,_,hm⟩:=n;refine⟨o,ho,λname=>?_⟩;have e:=hm name;unfold nsFind findBy at e;rw[<-Array.find?_toList]at e;unfold lookIn;rw[hd];dsimp only;split
 ·rename_i y q;rw[q]at e;exact TQ some e
 ·rename_i q;rw[q]at e;have a:es.toList.any (·.refKey)=false:=by rw[List.any_eq_false];intro y hy;obtain⟨z,t,hkey⟩:=hk y (Array.mem_toList_iff.mp hy);simp[DictEntry.refKey,hkey]
  have a':¬es.toList.any (·.refKey)=true:=by rw[a];exact Uf
  rw[Ud a'];exact TQ some e
theorem ObjM.look(I:ObjM h x dx C mA):∃od,PySem.W.InstAt h x (instObj C dx) C (some od)/\∀name,lookIn name od=some (mA name):=
 let ⟨od,ho,hl⟩:=SE I.ns
 ⟨od,⟨I.obj,rfl,rfl,ho⟩,hl⟩
section
variable{prog:Program}{w:World}{A:Around}{E:VP}{s:Shared}{K:Frag}{x dx C f:Addr}{mA:VX}{name:Str}{v:Value}
theorem dB{expr:Bool}{Q:VP}(X:K.In s.heap)(I:ObjM s.heap x dx C mA)(hg:plainGet K C name=true)(hh:hasDictIn K C=true)(ha:findIn K (.ref C) name=some none)(hv:mA name=some v)(hv':handedIn v=true)(h:Q v {s with toks:=s.toks+1}):
  wpAny (model prog w) A (getAttr (.ref x) name expr) Q E s:=by
 obtain⟨od,J,hl⟩:=I.look;exact get_value X J (RU hg).1 (findObj_own hh ha rfl (by rw[hl,hv])) hv' h
theorem Dc{pl:Sem Bool}{Q:Value×List Value->Shared->Prop}(X:K.In s.heap)(I:ObjM s.heap x dx C mA)(hg:plainGet K C name=true)(hf:findIn K (.ref C) name=some (some (.ref f)))(ht:isFn K (.ref f)=true)(hv:mA name=none)(h:Q (.ref f,[.ref x]) s):
  wpAny (model prog w) A (getMethod (.ref x) name pl) Q E s:=by
 obtain⟨od,J,hl⟩:=I.look;exact method_fn X J (RU hg).1 (RU hg).2 hf (Tr.mp ht) (by show(lookIn name od).map (·.isSome)=some false;rw[hl,hv];rfl) h
theorem dC{ns:List Str}{Q:Unit->Shared->Prop}(X:K.In s.heap)(I:ObjM s.heap x dx C mA)(hs:findIn K (.ref C) "__setattr__"=some (some (.builtin "object.__setattr__")))(hp:plainOver K C=true)(ht:takerIn K C name=some none)(hh:hasDictIn K C=true)(hw:PySem.Within mA ns)(hsz:ns.length<=sizeLine)(h:∀h',ObjM h' x dx C (λy=>if y=name then some v else mA y)->Heap.SameBut dx s.heap h'->Q () {s with heap:=h',toks:=s.toks+2}):
  wpAny (model prog w) A (setAttr (.ref x) name v) Q E s:=by
 obtain⟨od,J,hl⟩:=I.look;refine set_plain X J hs (osa_open (s:={s with toks:=s.toks+1}) (r:=none) X J hp ht λb=>?_);obtain⟨cd,hc,hd'⟩:=any_some hh;have hx:s.heap.get? x=some ⟨.ref C,some dx,.plain,#[]⟩:=I.obj;refine Uc (Up (Uc (Uc (wpAny_loadPart hx (Uc (Looks.here (s:={s with toks:=s.toks+1}) (looks_clsIn X hc) ?_))))));rw[hd'];refine Up (a:=some dx) (Uc (Up (Uc ?_)));refine wpAny_nsSet1 (s:={s with toks:=s.toks+1}) I.ns λh' hn2 hs2=>?_;obtain⟨oD,esD,epD,hoD,hdD,hcD⟩:=hn2.count (PySem.Within.cons name v hw);refine Uc (wpAny_lookBehind hoD (by rw[hdD];exact pastItsLine_dict (Um hcD (by rw[Uz];omega))) ?_);exact Up (h _ ⟨(hs2.2 _ (Ne.symm I.ne)).trans I.obj,hn2,I.ne⟩ hs2)
theorem Dd{R:Result->Shared->Prop}{vs:List Value}{kw:List (Str×Value)}(X:K.In s.heap)(hm:makesIn K C=true)(hi:findIn K (.ref C) "__init__"=some (some (.ref f)))(hf:typeIn K (.ref f)=some (.type "function"))(h:codeAny (model prog w) (A.under (.builtin "type.__call__" ⟨.ref C::vs,kw⟩)) (.call (.ref f) ⟨.ref (s.heap.objs.size+1)::vs,kw⟩) (InitBack (s.heap.objs.size+1) R)
   {s with heap:=(s.heap.push emptyDict).push (instObj C s.heap.objs.size)}):
  codeAny (model prog w) A (.call (.ref C) ⟨vs,kw⟩) R s:=by
 obtain⟨hh,g,d,t,os⟩:=s;exact make_core (makes_of X hm) (looks_findIn X hi) (λself=>bind_fn X self hf) (.inl rfl) h
end
def Km(f:Str)(v:V):List (Str×V)->List (Str×V)
 |[]=>[(f,v)]| (g,x)::r=>if g=f then (g,v)::r else (g,x)::Km f v r
theorem FD(f g:Str)(v:V):∀fs:List (Str×V),(Km f v fs).lookup g=if g=f then some v else fs.lookup g
 |[]=>by
  show List.lookup g [(f,v)]=_;by_cases h:g=f
  ·have hb:(g==f)=true:=Tr.mpr h;simp only[List.lookup,hb,Ub h]
  ·have hb:(g==f)=false:=U0.mpr h;simp only[List.lookup,hb,Ud h]
 | (k,x)::r=>by
  have ih:=FD f g v r;rw[show Km f v ((k,x)::r)=(if k=f then (k,v)::r else (k,x)::Km f v r) from rfl];by_cases hk:k=f
  ·rw[Ub hk];by_cases h:g=k
   ·have hb:(g==k)=true:=Tr.mpr h;simp only[List.lookup,hb,Ub (h.trans hk)]
   ·have hb:(g==k)=false:=U0.mpr h;simp only[List.lookup,hb,Ud (λe:g=f=>h (e.trans hk.symm))]
  ·rw[Ud hk];by_cases h:g=k
   ·have hb:(g==k)=true:=Tr.mpr h;simp only[List.lookup,hb,Ud (λe:g=f=>hk (h.symm.trans e))]
   ·have hb:(g==k)=false:=U0.mpr h;simp only[List.lookup,hb];exact ih
theorem EQ(f:Str)(v:V):∀fs:List (Str×V),f∈(Km f v fs).map (·.1)/\∀g,g∈fs.map (·.1)->g∈(Km f v fs).map (·.1)
 |[]=>⟨by simp[Km],λg h=>by simp at h⟩| (k,x)::r=>by
  obtain⟨i1,i2⟩:=EQ f v r;rw[show Km f v ((k,x)::r)=(if k=f then (k,v)::r else (k,x)::Km f v r) from rfl];by_cases hk:k=f
  ·rw[Ub hk];subst hk;exact⟨by simp,λg h=>by simpa using h⟩
  ·rw[Ud hk];refine⟨?_,λg h=>?_⟩
   ·rw[UL];exact Uv _ i1
   ·rw[UL]at h ⊢;rcases UE.mp h with e|e
    ·exact UE.mpr (.inl e)
    ·exact Uv _ (i2 g e)
theorem FE(f:Str)(v:V):∀fs:List (Str×V),(Km f v fs).length<=fs.length+1
 |[]=>by simp[Km]
 | (k,x)::r=>by
  have ih:=FE f v r;rw[show Km f v ((k,x)::r)=(if k=f then (k,v)::r else (k,x)::Km f v r) from rfl];by_cases hk:k=f
  ·rw[Ub hk,Uz,Uz];omega
  ·rw[Ud hk,Uz,Uz];omega
theorem RelO.some_of(r:RelO (some v) o):∃u,o=some u/\RelV v u:=by
 cases o with
 |none=>exact(show False from r).elim|some u=>exact⟨u,rfl,r⟩
theorem RelO.none_of(r:RelO none o):o=none:=by
 cases o with
 |none=>rfl|some u=>exact(show False from r).elim
theorem SF(r:RelV v u):handedIn u=true:=by
 cases v with
 |non=>cases (show u=Value.none from r);rfl|bl b=>cases (show u=Value.bool b from r);rfl|int i=>obtain⟨t,e⟩:=(show ∃t,u=Value.int i t from r);cases e;rfl|str x=>obtain⟨t,e⟩:=(show ∃t,u=Value.str x t from r);cases e;rfl|byt b=>obtain⟨t,e⟩:=(show ∃t,u=Value.bytes b t from r);cases e;rfl|flt b=>obtain⟨t,e⟩:=(show ∃t,u=Value.float b t from r);cases e;rfl|ref a=>cases (show u=Value.ref a from r);rfl|ty n=>cases (show u=Value.type n from r);rfl
theorem Gd(hok:HOk P w H h)(e:H a=some (.ins C dx fs)):∃mA,ObjM h a dx C mA/\(∀f,RelO (fs.lookup f) (mA f))/\PySem.Within mA (fs.map (·.1))/\fs.length<=1000/\H dx=some (.own a):=by obtain⟨d,z,ne,ob,mA,n,r,q⟩:=(show ObjOk P w H h a (.ins C dx fs) from hok a _ e);exact⟨mA,⟨ob,n,ne⟩,r,q,z,d⟩
structure Cls(K:Frag)(C:Addr):Prop where
 pg:plainGet K C Str.empty=true
 hd:hasDictIn K C=true
 po:plainOver K C=true
 sa:findIn K (.ref C) "__setattr__"=some (some (.builtin "object.__setattr__"))
theorem Cls.get{K:Frag}{C:Addr}(c:Cls K C)(f:Str):plainGet K C f=true:=c.pg
def NoAttr(K:Frag)(C:Addr)(f:Str):Prop:=findIn K (.ref C) f=some none
theorem NoAttr.taker{K:Frag}{C:Addr}{f:Str}(n:NoAttr K C f):takerIn K C f=some none:=by unfold takerIn;rw[show findIn K (.ref C) f=some none from n];rfl
structure Meth(K:Frag)(C:Addr)(m:Str)(f:Addr):Prop where
 at_:findIn K (.ref C) m=some (some (.ref f))
 fn:isFn K (.ref f)=true
 kp:keepIn K (.ref f)=true
theorem NQ{b:Bool}{Q:VP}(I:Inv X pins σ H s)(e:H a=some (.ins C dx fs))(c:Cls X.K C)(n:NoAttr X.K C f)(l:fs.lookup f=some v)(h:∀u s',Inv X pins σ H s'->RelV v u->Q u s'):wpAny (model X.prog X.w) A (getAttr (.ref a) f b) Q E s:=by obtain⟨mA,O,r,_,_,_⟩:=Gd I.hok e;obtain⟨u,hu,ru⟩:=RelO.some_of (v:=v) (o:=mA f) (by rw[<-l];exact r f);exact dB I.kIn O (c.get f) c.hd n hu (SF ru) (h u _ (I.tok _) ru)
theorem Go{m:Str}{g:Addr}{pl:Sem Bool}{Q:Value×List Value->Shared->Prop}(I:Inv X pins σ H s)(e:H a=some (.ins C dx fs))(c:Cls X.K C)(k:Meth X.K C m g)(l:fs.lookup m=none)(h:Q (.ref g,[.ref a]) s):wpAny (model X.prog X.w) A (getMethod (.ref a) m pl) Q E s:=by obtain⟨mA,O,r,_,_,_⟩:=Gd I.hok e;have hn:mA m=none:=RelO.none_of (by rw[<-l];exact r m);exact Dc I.kIn O (c.get m) k.at_ k.fn hn h
theorem NR{y:V}{u:Value}{Q:Unit->Shared->Prop}(I:Inv X pins σ H s)(e:H a=some (.ins C dx fs))(c:Cls X.K C)(n:NoAttr X.K C f)(hl:fs.length<1000)(ry:RelV y u)(h:∀s',Inv X pins σ (YD H a (.ins C dx (Km f y fs))) s'->Q () s'):wpAny (model X.prog X.w) A (setAttr (.ref a) f u) Q E s:=by
 obtain⟨mA,O,r,wi,_,ho⟩:=Gd I.hok e;have hz:(fs.map (·.1)).length<=sizeLine:=by rw[Ua,Ry];omega
 refine dC I.kIn O c.sa c.po n.taker c.hd wi hz λh' O' sb=>h _ ?_;have hd:∃o,h'.get? dx=some o:=let ⟨o,_,_,e',_⟩:=O'.ns;⟨o,e'⟩;refine I.write (x:=a) (e:=dx) (by rw[e];exact True.intro) (.inr ho) (λb q hb z=>(sb.2 b hb).trans z) hd ?_;refine⟨by rw[QZ O.ne];exact ho,?_,O.ne,O'.obj,_,O'.ns,λg=>?_,λg hg=>?_⟩
 ·have:=FE f y fs;omega
 ·show RelO ((Km f y fs).lookup g) (if g=f then some u else mA g);rw[FD];by_cases q:g=f
  ·rw[Ub q,Ub q];exact ry
  ·rw[Ud q,Ud q];exact r g
 ·by_cases q:g=f
  ·rw[q];exact(EQ f y fs).1
  ·refine(EQ f y fs).2 g (wi g λz=>hg ?_);show(if g=f then some u else mA g)=none;rw[Ud q];exact z
theorem Inv.made(I:Inv X pins σ H s):Inv X pins σ (YD (YD H s.heap.objs.size (.own (s.heap.objs.size+1))) (s.heap.objs.size+1) (.ins C s.heap.objs.size []))
  {s with heap:=(s.heap.push emptyDict).push (instObj C s.heap.objs.size)}:=by
 have e1:(s.heap.push emptyDict).get? s.heap.objs.size=some emptyDict:=UA s.heap rfl;have e2:((s.heap.push emptyDict).push (instObj C s.heap.objs.size)).get? (s.heap.objs.size+1)=some (instObj C s.heap.objs.size):=by have:=UA (s.heap.push emptyDict) (o:=instObj C s.heap.objs.size) rfl;rwa[Wh]at this
 have e3:(s.heap.push emptyDict).Ns s.heap.objs.size (λ_=>none):=⟨emptyDict,#[],_,e1,rfl,(λe he=>absurd he (by simp)),λ_=>rfl⟩;have I1:=I.laid (a:=s.heap.objs.size) (o:=.own (s.heap.objs.size+1)) (h':=s.heap.push emptyDict) (t':=s.toks) (λb u q=>Ug _ q) (Ui _) ⟨_,e1⟩;refine I1.laid (a:=s.heap.objs.size+1) (o:=.ins C s.heap.objs.size []) (t':=s.toks) (λb u q=>Ug _ q) (Nat.le_of_eq (Wh _ _)) ?_;have ne:s.heap.objs.size≠s.heap.objs.size+1:=UR (Tq _);refine⟨by rw[QZ ne,QN],RO _,ne,e2,λ_=>none,(Heap.Ns1.of_empty e3).at λo q=>Ug _ q,λ_=>True.intro,λy hy=>absurd rfl hy⟩
theorem dD{prog:Program}{w:World}{env:Env}{e:Expr}{f:Str}{pos:Pos}{s:Shared}{Q:VP}(hb:attributeBase e f env (eval e env)=eval e env)(h:wpAny (model prog w) A (eval e env) (λo s₁=>wpAny (model prog w) A (getAttr o f true) Q E s₁) E s):wpAny (model prog w) A (eval (.Attribute e f pos) env) Q E s:=Attribute_any_ h (by rw[arm_eval_Attribute,hb])
def sT(K:Frag)(ta:TE)(f:Str):TE:=λσ H Q=>ta σ H λx H1=>∃a C dx fs v,x=.ref a/\H1 a=some (.ins C dx fs)/\Cls K C/\NoAttr K C f/\fs.lookup f=some v/\Q v H1
def sU(K:Frag)(ta tv:TE)(f:Str):TS:=λD σ H=>tv σ H λy H1=>ta σ H1 λx H2=>∃a C dx fs,x=.ref a/\H2 a=some (.ins C dx fs)/\Cls K C/\NoAttr K C f/\fs.length<1000/\D.nx σ (YD H2 a (.ins C dx (Km f y fs)))
theorem kD(he:PE X e ta)(hb:attributeBase e f X.env (eval e X.env)=eval e X.env):PE X (.Attribute e f pos) (sT X.K ta f):=by intro pins s σ H Q I h;refine dD hb (YR (he pins s σ H _ I h) λu s1 ⟨x,H1,I1,rx,a,C,dx,fs,v,ex,ea,c,n,l,q⟩=>?_);subst ex;obtain rfl:u=Value.ref a:=rx;exact NQ I1 ea c n l λu' s2 I2 ru=>⟨v,H1,I2,ru,q⟩
theorem kE(ha:PE X o ta)(hv:PE X value tv)(hs:swapsWith value (some (.Attribute o f pos')) pos.line X.env=pure false):PS X (.Assign [.Attribute o f pos'] value pos) (sU X.K ta tv f):=by intro pins s σ H D I h;refine plainObj_wpAny_Assign_Attribute (YR (hv pins s σ H _ I h) λu s1 ⟨y,H1,I1,ry,q⟩=>YR (ha pins s1 σ H1 _ I1 q) λov s2 ⟨x,H2,I2,rx,a,C,dx,fs,ex,ea,c,n,l,q2⟩=>?_) hs;subst ex;obtain rfl:ov=Value.ref a:=rx;exact NR I2 ea c n l ry λs3 I3=>⟨σ,_,I3,q2⟩
inductive TyOf(K:Frag)(H:Hp):V->Value->Prop where
 |non:TyOf K H .non (.type "NoneType")
 |bl (x:Bool):TyOf K H (.bl x) (.type "bool")
 |int (i:Int):TyOf K H (.int i) (.type "int")
 |str (x:Str):TyOf K H (.str x) (.type "str")
 |flt (x:UInt64):TyOf K H (.flt x) (.type "float")
 |lst {a:Addr} {xs:List V} (e:H a=some (.lst xs)):TyOf K H (.ref a) (.type "list")
 |frz {a:Addr} {o:Obj} {xs:List V} (e:H a=some (.frz o (.lst xs))):TyOf K H (.ref a) (.type "list")
 |tup {a:Addr} {xs:List V} (e:H a=some (.tup xs)):TyOf K H (.ref a) (.type "tuple")
 |dK {a:Addr} {kvs:List (Bh×V)} (e:H a=some (.dK kvs)):TyOf K H (.ref a) (.type "dict")
 |dT {a:Addr} {kvs:List (List Bh×V)} (e:H a=some (.dT kvs)):TyOf K H (.ref a) (.type "dict")
 |ins {a C dx:Addr} {fs:List (Str×V)} (e:H a=some (.ins C dx fs)) (cl:Cls K C) (ha:findIn K (.ref C) "__class__"=some (some (.builtin "object.__class__")))
   (hn:specialIn K (.builtin "object.__class__") "__get__"=some (some (.builtin "getset_descriptor.__get__"))) (htk:takesIn K (.builtin "object.__class__")=some true)
   (hm:mroIn K C (.type "object")=some true):TyOf K H (.ref a) (.ref C)
theorem Vg(I:Inv X pins σ H s)(rx:RelV x u)(ty:TyOf X.K H x t)(e:kitOne X.K t c=some b)(h:∀tk,Q (.bool b) {s with toks:=tk}):
  wpAny (model X.prog X.w) A (call (.builtin "isinstance") [u,c]) Q E s:=by
 cases ty with
 |non=>cases (show u=Value.none from rx);exact U3 kitx_none I.kIn True.intro e (λz=>nomatch z) h|bl y=>cases (show u=Value.bool y from rx);exact U3 kitx_bool I.kIn True.intro e (λz=>nomatch z) h|int i=>obtain⟨t,q⟩:=(show ∃t,u=Value.int i t from rx);cases q;exact U3 kitx_int I.kIn True.intro e (λz=>nomatch z) h|str y=>obtain⟨t,q⟩:=(show ∃t,u=Value.str y t from rx);cases q;exact U3 kitx_str I.kIn True.intro e (λz=>nomatch z) h|flt y=>obtain⟨t,q⟩:=(show ∃t,u=Value.float y t from rx);cases q;exact U3 kitx_float I.kIn True.intro e (λz=>nomatch z) h|@lst a xs ea =>cases (show u=Value.ref a from rx);obtain⟨_,_,n,_,h1⟩:=(show ObjOk X.prog X.w H s.heap a (.lst xs) from I.hok a _ ea);exact U3 T6 I.kIn ⟨_,h1,rfl⟩ e (λz=>nomatch z) h|@frz a ob xs ea =>cases (show u=Value.ref a from rx);obtain⟨_,_,_,n,_,h1⟩:=(show ObjOk X.prog X.w H s.heap a (.frz ob (.lst xs)) from I.hok a _ ea);exact U3 T6 I.kIn ⟨_,h1,rfl⟩ e (λz=>nomatch z) h|@tup a xs ea =>cases (show u=Value.ref a from rx);obtain⟨_,_,_,p⟩:=(show ObjOk X.prog X.w H s.heap a (.tup xs) from I.hok a _ ea);obtain⟨o,h1,h2,_⟩:=p;exact U3 Wc I.kIn ⟨o,h1,h2⟩ e (λz=>nomatch z) h|@dK a kvs ea =>cases (show u=Value.ref a from rx);obtain⟨_,_,vs,_,p⟩:=(show ObjOk X.prog X.w H s.heap a (.dK kvs) from I.hok a _ ea);obtain⟨o,es,ep,h1,h2,_⟩:=p;exact U3 Wl I.kIn ⟨o,h1,h2.1⟩ e (λz=>nomatch z) h|@dT a kvs ea =>cases (show u=Value.ref a from rx);obtain⟨_,_,xs,_,o,es,ep,h1,h2,_⟩:=(show ObjOk X.prog X.w H s.heap a (.dT kvs) from I.hok a _ ea);exact U3 Wl I.kIn ⟨o,h1,h2.1⟩ e (λz=>nomatch z) h|@ins a C dx fs ea cl ha hn htk hm =>cases (show u=Value.ref a from rx);obtain⟨mA,O,_⟩:=Gd I.hok ea;obtain⟨od,J,_⟩:=O.look;exact U3 (kitx_own (cl.get _) cl.hd ha hn htk hm) I.kIn J e (λz=>nomatch z) h
structure Room(k:Nat)(A:Around):Prop where
 hd:A.handled=none
 dp:A.depth+3*k+5<recursionLimit
 un:A.units+16*k+200<cLine
theorem Room.mono(r:Room k A)(h:j<=k):Room j A:=⟨r.hd,by have:=r.dp;omega,by have:=r.un;omega⟩
theorem Room.deeper(r:Room (k+1) A)(env:Env):Room k (A.deeper env):=⟨r.hd,by have:=r.dp;show A.depth+1+3*k+5<_;omega,by have:=r.un;show A.units+3+16*k+200<_;omega⟩
theorem Room.in1(r:Room (k+1) A):Room k A.in1:=⟨r.hd,by have:=r.dp;show A.depth+3*k+5<_;omega,by have:=r.un;show A.units+1+16*k+200<_;omega⟩
theorem NS{A:Around}{C:Addr}{us:List Value}{kw:List (Str×Value)}:(A.under (.builtin "type.__call__" ⟨.ref C::us,kw⟩)).depth=A.depth+1:=by first|rfl|simp[Around.under,Code.weight,Code.isCreation,Code.isGuard,Code.isCaller,Code.frames,Code.isFrame,guardIds]
theorem NT{A:Around}{C:Addr}{us:List Value}{kw:List (Str×Value)}:(A.under (.builtin "type.__call__" ⟨.ref C::us,kw⟩)).units=A.units+1:=by first|rfl|simp[Around.under,Code.cUnits,Code.frames,Code.isFrame]
theorem Room.make(r:Room (k+1) A)(C:Addr)(us:List Value)(kw:List (Str×Value)):Room k (A.under (.builtin "type.__call__" ⟨.ref C::us,kw⟩)):=⟨r.hd,by have:=r.dp;rw[NS];omega,by have:=r.un;rw[NT];omega⟩
theorem Room.depth(r:Room k A):A.depth<recursionLimit:=by have:=r.dp;omega
theorem Room.units(r:Room k A):A.units+64<cLine:=by have:=r.un;omega
def sV:TA:=λ_ H Q=>Q [] H
def nW(ta:TE)(tr:TA):TA:=λσ H Q=>ta σ H λx H1=>tr σ H1 λxs H2=>Q (x::xs) H2
theorem Lc:PA X [] sV:=λ_ _ _ _ H Q I h=>Calls.spliced_nil ⟨[],H,I,.nil,h⟩
theorem Kn(ha:PE X e te)(hr:PA X es t)(hs:starEach (e::es) X.env=(false,eval e X.env)::starEach es X.env:=by rfl):PA X (e::es) (nW te t):=by intro pos pins s σ H Q I h;rw[hs];show wpAny _ _ (spliced ((false,eval e X.env)::backTo pos (starEach es X.env))) _ _ s;refine Calls.spliced_cons (YR (ha pins s σ H _ I h) λu s1 ⟨x,H1,I1,r1,q1⟩=>?_);exact YR (hr pos pins s1 σ H1 _ I1 q1) λus s2 ⟨xs,H2,I2,r2,q2⟩=>⟨x::xs,H2,I2,.cons r1 r2,q2⟩
def sW(t:TA):TE:=λσ H Q=>t σ H λxs H1=>xs.length<=sizeLine/\∀p,H1 p=none->Q (.ref p) (YD H1 p (.tup xs))
def sX(t:TA):TE:=λσ H Q=>t σ H λxs H1=>xs.length<=sizeLine/\∀p,H1 p=none->Q (.ref p) (YD H1 p (.lst xs))
theorem De(h:PA X es t):PE X (.Tuple es x1 pos) (sW t):=by intro pins s σ H Q I hq;refine wpAny_Tuple_spliced (YR (h pos pins s σ H _ I hq) λus s1 ⟨xs,H1,I1,r,z,q⟩=>⟨by rw[<-r.length];exact z,?_⟩);have hf:H1 s1.heap.objs.size=none:=I1.hok.fresh (Ui _);refine⟨.ref s1.heap.objs.size,YD H1 s1.heap.objs.size (.tup xs),I1.laid (t':=s1.toks) (λb u e=>Ug _ e) (Ui _) ?_,rfl,q _ hf⟩;exact⟨z,us,r,⟨_,UA _ rfl,rfl,_,rfl⟩⟩
theorem kF(h:PA X es t):PE X (.List es pos) (sX t):=by intro pins s σ H Q I hq;refine wpAny_List_spliced (YR (h pos pins s σ H _ I hq) λus s1 ⟨xs,H1,I1,r,z,q⟩=>⟨by rw[<-r.length];exact z,?_⟩);have hf:H1 s1.heap.objs.size=none:=I1.hok.fresh (Ui _);refine⟨.ref s1.heap.objs.size,YD H1 s1.heap.objs.size (.lst xs),I1.laid (t':=s1.toks) (λb u e=>Ug _ e) (Ui _) ?_,rfl,q _ hf⟩;exact⟨z,us,0,r,UA _ rfl⟩
abbrev Sp:=List V->Hp->VK->XK->Prop
abbrev Df:=List Env->Hp->Shared->XK->Value->Shared->Prop
structure Env0(P:Program)(w:World)(K:Frag)(mg:VX)(base:Heap)(A:Around)(outer:List Env)(s:Shared)(H:Hp):Prop where
 frames:A.frames=some outer
 mod:Mod K mg base
 bs:∀b o,base.get? b=some o->s.heap.get? b=some o/\H b=none
 bsz:base.objs.size<=s.heap.objs.size
 funs:s.heap.FunFrames base outer
 frf:∀b∈O4 outer,H b=none
 hok:HOk P w H s.heap
 bare:AllBare s.gens
def CE(outer:List Env)(P:Program)(w:World)(H:Hp)(s:Shared)(Q:VK)(u:Value)(s':Shared):Prop:=∃v H',s'.os=s.os/\AllBare s'.gens/\Un (O4 outer) [] H H' s.heap s'.heap/\HOk P w H' s'.heap/\RelV v u/\Q v H'
def CR(CX:Df)(outer:List Env)(P:Program)(w:World)(H:Hp)(s:Shared)(Q:VK)(E:XK)(r:Result)(s':Shared):Prop:=
 match r with
 |.ok (.ret u)=>CE outer P w H s Q u s'|.ok _=>False|.error e=>CX outer H s E e s'
structure FnOk(P:Program)(w:World)(K:Frag)(mg:VX)(base:Heap)(CX:Df)(k:Nat)(f:Addr)(fd:FuncData)(ps:List Str)(sp:Sp):Prop where
 len:∀vs H Q E,sp vs H Q E->vs.length=ps.length
 run:∀(A:Around)(outer:List Env)(s:Shared)(H:Hp)(args:Args)(us:List Value)(vs:List V)(Q:VK)(E:XK),Room k A->Env0 P w K mg base A outer s H->BindsTo s fd args (ps.zip us)->Vals vs us->sp vs H Q E->codeAny (model P w) A (.call (.ref f) args) (CR CX outer P w H s Q E) s
theorem FnOk.mono{P:Program}{w:World}{K:Frag}{mg:VX}{base:Heap}{CX:Df}{j k:Nat}{f:Addr}{fd:FuncData}{ps:List Str}{sp:Sp}(F:FnOk P w K mg base CX j f fd ps sp)(h:j<=k):
  FnOk P w K mg base CX k f fd ps sp:=⟨F.len,λA outer s H args us vs Q E hr=>F.run A outer s H args us vs Q E (hr.mono h)⟩
theorem FnOk.imp{P:Program}{w:World}{K:Frag}{mg:VX}{base:Heap}{CX:Df}{k:Nat}{f:Addr}{fd:FuncData}{ps:List Str}{sp sp':Sp}(F:FnOk P w K mg base CX k f fd ps sp)(h:∀vs H Q E,sp' vs H Q E->sp vs H Q E):FnOk P w K mg base CX k f fd ps sp':=⟨λvs H Q E q=>F.len vs H Q E (h _ _ _ _ q),λA outer s H args us vs Q E hr he hb hv hs=>F.run A outer s H args us vs Q E hr he hb hv (h _ _ _ _ hs)⟩
theorem Env0.make{P:Program}{w:World}{K:Frag}{mg:VX}{base:Heap}{A:Around}{outer:List Env}{s:Shared}{H:Hp}(e:Env0 P w K mg base A outer s H)(C:Addr)(us:List Value)(kw:List (Str×Value)):
  Env0 P w K mg base (A.under (.builtin "type.__call__" ⟨.ref C::us,kw⟩)) outer s H:=⟨by first|exact e.frames|(simpa[Around.under,Code.envs,Code.isFrame,pushEnvs]using e.frames),e.mod,e.bs,e.bsz,e.funs,e.frf,e.hok,e.bare⟩
theorem Env0.in1{P:Program}{w:World}{K:Frag}{mg:VX}{base:Heap}{A:Around}{outer:List Env}{s:Shared}{H:Hp}(e:Env0 P w K mg base A outer s H):
  Env0 P w K mg base A.in1 outer s H:=⟨e.frames,e.mod,e.bs,e.bsz,e.funs,e.frf,e.hok,e.bare⟩
theorem Inv.env0(I:Inv X pins σ H s):Env0 X.prog X.w X.K X.mg X.base X.A X.stack s H:=⟨I.ok.frames,I.ok.mod,I.bs,Um I.ok.bsz I.sz,I.stack,I.stkFree,I.hok,I.bare⟩
theorem Inv.after(I:Inv X pins σ H s)(h:CE X.stack X.prog X.w H s Q u s'):EP X pins σ Q u s':=by obtain⟨v,H',os,bare,un,hok,r,q⟩:=h;obtain⟨hh,g,d,t,os'⟩:=s';obtain rfl:os'=s.os:=os;exact⟨v,H',I.call (h':=hh) (g':=g) (d':=d) (t':=t) (ch:=[]) un hok bare (λb z=>absurd z (by simp)),r,q⟩
def Binds(K:Frag)(fd:FuncData)(ps:List Str)(ds:List Value):Prop:=∀(s:Shared)(us:List Value),K.In s.heap->(us++ds).length=ps.length->BindsTo s fd ⟨us,[]⟩ (ps.zip (us++ds))
theorem Binds.all{K:Frag}{fd:FuncData}{ps:List Str}(h:∀us:List Value,us.length=ps.length->bindArgs fd ⟨us,[]⟩=pure (ps.zip us)):Binds K fd ps []:=λs us _ hl=>by rw[UY]at hl ⊢;exact .of_eq (h us hl)
structure Mk(K:Frag)(C f:Addr):Prop where
 makes:makesIn K C=true
 init:findIn K (.ref C) "__init__"=some (some (.ref f))
 fn:isFn K (.ref f)=true
 kp:keepIn K (.ref C)=true
structure FnScope(N P:List Str)(sc:Scope):Prop where
 kind:sc.kind=.function
 co:sc.isCoroutine=false
 gen:sc.isGenerator=false
 nd:N.Nodup
 pre:N.take P.length=P
 par:∀x∈P,sc.names.lookup x=some .local\/sc.names.lookup x=some .cell
 nofree:∀y∈sc.names,y.2≠.free
theorem Iv{kindOf:Str->Option NameKind}{x:Str}:∀{binds:List (Str×Value)}{m:VX},(∀v,(x,v)∉binds)->bindL kindOf binds m x=m x
 |[],_,_=>rfl| (n,v)::r,m,h=>by
  unfold bindL;rw[Iv λw hw=>h w (Uv _ hw)];split
  ·have:x≠n:=by rintro rfl;exact h v UB
   simp[this]
  ·rfl
theorem Iw{kindOf:Str->Option NameKind}{x:Str}:∀{binds:List (Str×Value)}{m:VX},(∀v,(x,v)∉binds)->bindC kindOf binds m x=m x
 |[],_,_=>rfl| (n,v)::r,m,h=>by
  unfold bindC;rw[Iw λw hw=>h w (Uv _ hw)];split
  ·rfl
  ·have:x≠n:=by rintro rfl;exact h v UB
   simp[this]
theorem Ix{kindOf:Str->Option NameKind}{x:Str}{v:Value}:∀{P:List Str}{vs:List Value}{i:Nat}{m:VX},P.Nodup->P[i]?=some x->vs[i]?=some v->kindOf x=some .local->bindL kindOf (P.zip vs) m x=some v
 |[],_,_,_,_,h,_,_=>by simp at h
 |_::_,[],_,_,_,_,h,_=>by simp at h
 |p::P,w::vs,0,m,nd,h1,h2,hk=>by simp at h1 h2;subst h1;subst h2;show bindL kindOf ((p,w)::P.zip vs) m p=_;unfold bindL;rw[Iv λv hv=>(Ro.mp nd).1 (WN hv).1,Ub hk];simp
 |p::P,w::vs,i+1,m,nd,h1,h2,hk=>by show bindL kindOf ((p,w)::P.zip vs) m x=_;unfold bindL;exact Ix (i:=i) (Ro.mp nd).2 (by simpa using h1) (by simpa using h2) hk
theorem Iy{kindOf:Str->Option NameKind}{x:Str}{v:Value}:∀{P:List Str}{vs:List Value}{i:Nat}{m:VX},P.Nodup->P[i]?=some x->vs[i]?=some v->kindOf x≠some .local->bindC kindOf (P.zip vs) m x=some v
 |[],_,_,_,_,h,_,_=>by simp at h
 |_::_,[],_,_,_,_,h,_=>by simp at h
 |p::P,w::vs,0,m,nd,h1,h2,hk=>by simp at h1 h2;subst h1;subst h2;show bindC kindOf ((p,w)::P.zip vs) m p=_;unfold bindC;rw[Iw λv hv=>(Ro.mp nd).1 (WN hv).1,Ud hk];simp
 |p::P,w::vs,i+1,m,nd,h1,h2,hk=>by show bindC kindOf ((p,w)::P.zip vs) m x=_;unfold bindC;exact Iy (i:=i) (Ro.mp nd).2 (by simpa using h1) (by simpa using h2) hk
def start(N:List Str)(vs:List V):St:=vs.map some++List.replicate (N.length-vs.length) none
def ER(CX:Df)(P:Program)(w:World)(K:Frag)(mg:VX)(base:Heap)(N:List Str)(qual:Str)(scope:Scope)(f:Addr)(cd:Value)(A:Around)(outer:List Env)(s:Shared)(H:Hp)(E:XK):Cx where
 prog:=P
 w:=w
 K:=K
 mg:=mg
 base:=base
 A:=A.deeper (envOfC qual scope s.heap.objs.size f cd)
 N:=N
 s₀:=s
 H₀:=H
 env:=envOfC qual scope s.heap.objs.size f cd
 outer:=outer
 stack:=envOfC qual scope s.heap.objs.size f cd::outer
 ex:=[]
 calm:=true
 fn:=λ_=>true
 pn:=[]
 xe:=λe s'=>wpAny (model P w) (A.deeper (envOfC qual scope s.heap.objs.size f cd)) (leaving (envOfC qual scope s.heap.objs.size f cd) e) (λ_ s''=>CX outer H s E e s'') (λe' s''=>CX outer H s E e' s'') s'
theorem Mg{sc:Scope}{n:Nat}{x:Str}(h:sc.names.lookup x=some .cell):∃c,(cellsFrom n sc.names []).lookup x=some c:=by have q:=WE sc.names n [] (.inl h);exact Wr.mp q
theorem SG{CX:Df}{P:Program}{w:World}{K:Frag}{mg:VX}{base:Heap}{N ps:List Str}{qual:Str}{scope:Scope}{f:Addr}{cd:Value}{A:Around}{outer:List Env}{s s1:Shared}{H:Hp}{E:XK}{us:List Value}{vs:List V}(S:FnScope N ps scope)(hd:A.handled=none)(e0:Env0 P w K mg base A outer s H)(hl:vs.length=ps.length)(r:Vals vs us)(x:InCallC s s.heap.objs.size (bindL (envOfC qual scope s.heap.objs.size f cd).kindOf (ps.zip us) λ_=>none) (cellsFrom (s.heap.objs.size+1) scope.names []) (bindC (envOfC qual scope s.heap.objs.size f cd).kindOf (ps.zip us) λ_=>none) s1):
  Inv (ER CX P w K mg base N qual scope f cd A outer s H E) [] (start N vs) H s1:=by
 have hpl:ps.length<=N.length:=by have:=TQ List.length S.pre;rw[UW]at this;omega
 obtain⟨h1,tk,rfl,hk⟩:=x.done;have noA:∀b:Addr,b∉(ER CX P w K mg base N qual scope f cd A outer s H E).ex:=λb z=>absurd (show b∈([]:List Addr) from z) (by simp);refine⟨⟨e0.mod,S.kind,rfl,rfl,Ui _,λy z c h1 h2=>?_,λy hy=>?_,λy c _ h=>?_,λ_=>hd,Around.frames_deeper e0.frames,.inr ⟨rfl,rfl⟩,λb z=>absurd z (noA b),e0.bs,e0.bsz,λb _ _=>noA b,λb z=>absurd z (noA b),e0.funs,e0.frf⟩,rfl,e0.bare,Un.kept hk,⟨_,x.toInCall.ns,λi y v h1 h2 h3=>?_⟩,λy c h=>⟨_,x.cell y c h⟩,e0.hok.fresh (Ui _),λy c h=>?_,λp hp=>absurd (show p∈([]:Js) from hp) (by simp),e0.hok.kept hk,?_⟩
 ·exact name_of_addr x.apart (TC h1) (TC h2)
 ·have hy:scope.names.lookup y=some .cell\/scope.names.lookup y=some .free:=hy;rcases hy with hy|hy
  ·exact Mg hy
  ·exact absurd rfl (S.nofree _ (TC hy))
 ·exact UO (x.above y c (TC h))
 ·have hi:i<vs.length:=by
   unfold start at h2;by_cases hi:i<vs.length
   ·exact hi
   ·rw[Uw (by simpa using hi)]at h2;rw[TU]at h2;split at h2<;>cases h2
  have ha:vs[i]?=some v:=by
   unfold start at h2;rw[Uq (by simpa using hi),Uy]at h2;cases e:vs[i]? with
   |none=>rw[e]at h2;cases h2|some a=>rw[e]at h2;cases h2;rfl
  obtain⟨u,hu,rv⟩:=r.get ha;have hp:ps[i]?=some y:=by rw[<-S.pre,List.getElem?_take_of_lt (by omega)];exact h1
  have ndP:ps.Nodup:=by rw[<-S.pre];exact S.nd.sublist (List.take_sublist _ _)
  refine⟨u,rv,?_⟩;rcases S.par y (WX hp) with k|k
  ·exact .inl ⟨k,Ix ndP hp hu k⟩
  ·obtain⟨c,e⟩:=Mg (n:=s.heap.objs.size+1) k;refine .inr ⟨.inl k,c,e,?_⟩;have q:=x.cell y c e;rw[Iy ndP hp hu (by show scope.names.lookup y≠_;rw[k];decide)]at q;exact q
 ·exact e0.hok.fresh (UO (x.above y c (TC h)))
 ·unfold start;show _=N.length;rw[Us,Ua,U9];omega
theorem hZ{CX:Df}{P:Program}{w:World}{K:Frag}{mg:VX}{base:Heap}{k:Nat}{f:Addr}{name qual:Str}{params:Arguments}{body:List Stmt}{scope:Scope}{dV kV doc pm cdv ct oc:Value}{an od:Option Addr}{osl:Array (Option Value)}{N ps:List Str}{sp:Sp}(lk:K.lookup f=some ⟨oc,od,.func (fnOf name qual params body scope dV kV doc pm an cdv ct),osl⟩)(hcd:codeIn K cdv qual=true)(S:FnScope N ps scope)(len:∀vs H Q E,sp vs H Q E->vs.length=ps.length)(hbody:∀(A:Around) (outer:List Env) (s:Shared) (H:Hp) (vs:List V) (Q:VK) (E:XK),Room k (A.deeper (envOfC qual scope s.heap.objs.size f cdv))->sp vs H Q E->∃t,PSs (ER CX P w K mg base N qual scope f cdv A outer s H E) body t/\t {nx:=λ_ H'=>Q .non H',rt:=Q} (start N vs) H):
  FnOk P w K mg base CX (k+1) f (fnOf name qual params body scope dV kV doc pm an cdv ct) ps sp:=by
 refine⟨len,λA outer s H args us vs Q E hr e0 hb r hsp=>?_⟩;have hl:=len _ _ _ _ hsp;have KX:K.In s.heap:=e0.mod.kin.keeps λb o e=>(e0.bs b o e).1;have lim:s.heap.NoLimit:=e0.mod.nolimit.keeps λb o e=>(e0.bs b o e).1;have hkind:∀y∈ps.zip us,scope.names.lookup y.1=some .local\/(scope.names.lookup y.1=some .cell/\((cellsFrom (s.heap.objs.size+1) scope.names []).lookup y.1).isSome=true):=λ⟨n,v⟩ hy=>by
  rcases S.par n (WN hy).1 with q|q
  ·exact .inl q
  ·exact .inr ⟨q,WE _ _ _ (.inl q)⟩
 refine codeAny_call_function hr.depth (KX _ _ lk) rfl S.co S.gen rfl (codeRec_of KX hcd) (hb _ _ _ _ ?_);refine wpAny_newFunctionEnv_cells S.kind hkind λenv he s1 x=>?_;subst he;refine⟨lim.keeps x.toInCall.keep,codeAny_func ?_⟩;obtain⟨t,ht,hq⟩:=hbody A outer s H vs Q E (hr.deeper _) hsp;have I:Inv (ER CX P w K mg base N qual scope f cdv A outer s H E) [] (start N vs) H s1:=SG S hr.hd e0 hl r x;refine Td (ht [] s1 (start N vs) H _ I hq) (λfl s' hs=>?_) λe s' hs=>hs;have fin:∀{σ':St}{H':Hp}{v:V}{u:Value},Inv (ER CX P w K mg base N qual scope f cdv A outer s H E) [] σ' H' s'->RelV v u->Q v H'->CE outer P w H s Q u s':=λ{σ' H' v u} J rv q=>⟨v,H',J.os,J.bare,J.base,J.hok,rv,q⟩
 cases fl with
 |ret u =>obtain⟨v,σ',H',J,rv,q⟩:=hs;exact fin J rv q|next =>obtain⟨σ',H',J,q⟩:=hs;exact fin (v:=V.non) (u:=Value.none) J rfl q|brk =>obtain⟨_,_,_,q⟩:=hs;exact False.elim q|cont =>obtain⟨_,_,_,q⟩:=hs;exact False.elim q
section
variable{X:Cx}{x:Str}{p pos:Pos}{e:Expr}{es:List Expr}{t:TA}{id T:String}{r:List V->Hp->VK->Prop}
def vM(r:List V->Hp->VK->Prop)(t:TA):TE:=λσ H Q=>t σ H λvs H1=>r vs H1 Q
theorem Ea(hc:CallR X (.builtin id) r)(hg:Gl X x)(hm:X.mg x=none)(hv:bootBuiltins x=some (.builtin id))(ha:PA X (e::es) t)(hn:x ≠"__name__":=by decide)(hdb:(x==("__debug__" : Str))=false:=by decide)(he:starEach (e::es) X.env=(false,eval e X.env)::starEach es X.env:=by rfl)(hpl:(backTo pos (starEach es X.env)).any (·.1)=false:=by rfl):PE X (.Call (.Name x p) (e::es) [] pos) (vM r t):=by intro pins s σ H Q I h;refine Rs (Bi I hg hm hv ?_ hn hdb);exact PyProof.Rows.callWith_builtin1 (YR (ha pos pins s σ H _ I h) λus s1 ⟨vs,H1,I1,r1,q1⟩=>hc pins s1 σ H1 vs us Q I1 r1 q1) he hpl
theorem SH(hc:CallR X (.type T) r)(hg:Gl X x)(hm:X.mg x=none)(hv:bootBuiltins x=some (.type T))(ha:PA X (e::es) t)(hn:x ≠"__name__":=by decide)(hdb:(x==("__debug__" : Str))=false:=by decide)(he:starEach (e::es) X.env=(false,eval e X.env)::starEach es X.env:=by rfl)(hpl:(backTo pos (starEach es X.env)).any (·.1)=false:=by rfl):PE X (.Call (.Name x p) (e::es) [] pos) (vM r t):=by intro pins s σ H Q I h;refine Rs (Bi I hg hm hv ?_ hn hdb);exact Tc (YR (ha pos pins s σ H _ I h) λus s1 ⟨vs,H1,I1,r1,q1⟩=>hc pins s1 σ H1 vs us Q I1 r1 q1) he hpl
end
end L2
namespace HT
open PySem PyProof.Rows
theorem cat_tup{t b:Addr}{vs ws:List Value}{Q:VP}(ht:IsTup s.heap t vs.toArray)(hb:IsTup s.heap b ws.toArray)(hv:vs≠[])(h1:ws=[]->Q (.ref t) s)(h2:ws≠[]->Q (.ref s.heap.objs.size) {s with heap:=s.heap.push {cls:=.type "tuple",data:=.seq (vs++ws).toArray} })(hsz:vs.length+ws.length<=sizeLine):wpAny (model prog w) A (binaryOp .Add (.ref t) (.ref b)) Q E s:=by
 obtain⟨⟨cls,dd,data,sl⟩,ho,hc,n,hd⟩:=id ht;obtain⟨⟨cls2,dd2,data2,sl2⟩,ho2,hc2,n2,hd2⟩:=id hb;simp only at hc hd hc2 hd2;subst hc hd hc2 hd2;have e:vs.toArray++ws.toArray=(vs++ws).toArray:=by simp
 by_cases hw:ws=[]
 ·exact concat_meets ⟨_,ho,rfl⟩ ⟨_,ho2,rfl⟩ Wx seq_tuple_add Rz Ru (Rk _ _)
   (tuple_addW1 t b vs.toArray ws.toArray n n2 dd dd2 sl sl2 (by simpa using hv) (by simp[hw])) ⟨ho,ho2,h1 hw⟩
 ·refine concat_meets ⟨_,ho,rfl⟩ ⟨_,ho2,rfl⟩ Wx seq_tuple_add Rz Ru (Rk _ _)
   (tuple_addW2 t b vs.toArray ws.toArray n n2 dd dd2 sl sl2 (by simpa using hv) (by simpa using hw) (by rw[Ue,Ue];exact hsz)) ⟨ho,ho2,?_⟩
  rw[e];exact h2 hw
def sIx(n d:Nat):Option Int->Nat
 |none=>d|some v=>if v<0 then (v+(n:Int)).toNat else min v.toNat n
theorem kG(n d:Nat)(hd:d<=n)(o:Option Int):sIx n d o<=n:=by
 cases o with
 |none=>exact hd|some v=>
  show(if v<0 then (v+(n:Int)).toNat else min v.toNat n)<=n;by_cases hv:v<0
  ·rw[Ub hv];omega
  ·rw[Ud hv];exact Nat.min_le_right _ _
theorem O7(v:Int)(n d:Nat):(if v<0 then max (v+(n:Int)) 0 else min v (n:Int))=((sIx n d (some v):Nat):Int):=by
 show(if v<0 then max (v+(n:Int)) 0 else min v (n:Int))=(((if v<0 then (v+(n:Int)).toNat else min v.toNat n):Nat):Int);by_cases hv:v<0
 ·simp only[Ub hv];omega
 ·simp only[Ud hv];omega
theorem NU(lo hi:Option Int)(n:Nat):Builtin.Slice.sliceAdjust lo hi 1 (n:Int)=(((sIx n 0 lo:Nat):Int),((sIx n n hi:Nat):Int)):=by
 have h1:¬((1:Int)<0):=by omega
 unfold Builtin.Slice.sliceAdjust;simp only[h1,Re];refine Prod.ext ?_ ?_
 ·cases lo with
  |none=>rfl|some v=>exact O7 v n 0
 ·cases hi with
  |none=>rfl|some v=>exact O7 v n n
theorem NV(i j:Nat):Builtin.Slice.slicePlaces (i:Int) (j:Int) 1=j-i:=by
 unfold Builtin.Slice.slicePlaces;have h1:(1:Int)>0:=by omega
 simp only[h1,RI,Int.ediv_one];split<;>omega
theorem Gp(p:IsPart v o)(h:Q o s):wpAny (model prog w) A (Builtin.Slice.slicePartIndex v) Q E s:=by
 cases p with
 |none=>exact slicePart_none h|int i t=>exact slicePart_int h
theorem sliceApplied_gen{sl:Addr}{vl vu:Value}{lo hi:Option Int}{n:Nat}{Q:Int×Int×Nat->Shared->Prop}(hs:s.heap.IsSliceOf sl vl vu .none)(pl:IsPart vl lo)(pu:IsPart vu hi)(h:Q (((sIx n 0 lo:Nat):Int),1,sIx n n hi-sIx n 0 lo) s):wpAny (model prog w) A (Builtin.Slice.sliceApplied (.ref sl) (pure (n:Int))) Q E s:=by obtain⟨os,hos,hcs,hds⟩:=id hs;unfold Builtin.Slice.sliceApplied Builtin.Slice.sliceFields;refine Uc (Uc (Tn hos hds (x:=vl) rfl (Uc (Tn hos hds (x:=vu) rfl (Uc (Tn hos hds (x:=.none) rfl (Up ?_)))))));refine Uc (slicePart_none ?_);show wpAny _ _ (if ((1:Int)==0)=true then _ else _) _ _ s;rw[Ud (by decide)];refine Uc (Gp pl (Uc (Gp pu (Uc (Up ?_)))));show wpAny _ _ (match Builtin.Slice.sliceAdjust lo hi 1 (n:Int) with|(lo,hi)=>pure (lo,(1:Int),Builtin.Slice.slicePlaces lo hi 1)) _ _ s;rw[NU lo hi n];show wpAny _ _ (pure (((sIx n 0 lo:Nat):Int),(1:Int),Builtin.Slice.slicePlaces ((sIx n 0 lo:Nat):Int) ((sIx n n hi:Nat):Int) 1)) _ _ s;rw[NV];exact Up h
theorem Dg(xs:Array Value)(i k:Nat):((List.range k).filterMap λ(m:Nat)=>xs[((i:Int)+(m:Int)*1).toNat]?).toArray=((xs.toList.drop i).take k).toArray:=by
 have e:(λ(m:Nat)=>xs[((i:Int)+(m:Int)*1).toNat]?)=λm=>xs[i+m]?:=by
  funext m;have:((i:Int)+(m:Int)*1).toNat=i+m:=by omega
  rw[this]
 rw[e];have:=pick_run xs i k;rw[List.filterMap_map]at this;have e2:((λx=>xs[x]?)∘λx=>i+x)=λm=>xs[i+m]?:=rfl;rw[e2]at this;rw[this]
theorem getItem_tuple_cut{t sl:Addr}{items:Array Value}{vl vu:Value}{lo hi:Option Int}{Q:VP}(ht:IsTup s.heap t items)(hs:s.heap.IsSliceOf sl vl vu .none)(pl:IsPart vl lo)(pu:IsPart vu hi)(hw:¬(sIx items.size 0 lo=0/\sIx items.size items.size hi=items.size))(h:Q (.ref s.heap.objs.size) {s with heap:=s.heap.push {cls:=.type "tuple",data:=.seq ((items.toList.drop (sIx items.size 0 lo)).take (sIx items.size items.size hi-sIx items.size 0 lo)).toArray} })(hsz:items.size<=sizeLine):wpAny (model prog w) A (getItem (.ref t) (.ref sl)) Q E s:=by
 have htake:sizeOk (.seq ((items.toList.drop (sIx items.size 0 lo)).take (sIx items.size items.size hi-sIx items.size 0 lo)).toArray):=by show((items.toList.drop (sIx items.size 0 lo)).take (sIx items.size items.size hi-sIx items.size 0 lo)).toArray.size<=sizeLine;rw[Ue,UW,TW,TB];omega
 have hj:sIx items.size items.size hi<=items.size:=kG _ _ (Ui _) hi;obtain⟨os,hos,hcs,hds⟩:=id hs;have hTs:s.TypeIs (.ref sl) "slice":=⟨os,hos,hcs⟩;unfold getItem;try with_reducible refine Rm ?_
 first|refine Uc (Up ?_)|skip
 refine Uc (wpAny_sequenceKey ht.typeIs (by decide) ?_);refine Uc (TV (name:=Str.ofString "__getitem__") ht.typeIs UZ
  (Ra UZ ht.typeIs entry_tuple_getitem ?_ (args_tuple_getitem _ _)))
 show wpAny _ _ (Builtin.Tuple.tupleItemsOf (.ref t) >>= _) _ _ s;refine Uc (tupleItemsOf_ ht ?_);refine Uc (RW hTs ?_);rw[Ub (by decide)];refine Uc (sliceApplied_gen hs pl pu ?_);have hno:¬((((sIx items.size 0 lo:Nat):Int)==0&&(1:Int)==1&&(sIx items.size items.size hi-sIx items.size 0 lo)==items.size)=true):=by intro q;rw[UG,UG]at q;have q1:((sIx items.size 0 lo:Nat):Int)=0:=eq_of_beq q.1.1;have q2:sIx items.size items.size hi-sIx items.size 0 lo=items.size:=eq_of_beq q.2;exact hw ⟨by omega,by omega⟩
 show wpAny _ _ (if (((sIx items.size 0 lo:Nat):Int)==0&&(1:Int)==1&&(sIx items.size items.size hi-sIx items.size 0 lo)==items.size)=true then _ else _) _ _ s;rw[Ud hno,Dg];first
  |exact Uc (m:=Builtin.Tuple.tupleExact _) (U5 (Up ⟨_,rfl,Up h⟩) htake)
  |exact Uc (m:=Builtin.Tuple.tupleExact _) (U5 (Uc (Up (Up ⟨_,rfl,Up h⟩))) htake)
  |exact Uc (Uc (m:=Builtin.Tuple.tupleExact _) (U5 (Up (Up ⟨_,rfl,Up h⟩)) htake))
  |exact Uc (Uc (m:=Builtin.Tuple.tupleExact _) (U5 (Up ⟨_,rfl,Up h⟩) htake))
end HT
namespace L2
open PySem PySem.Spec PyProof.Rows
abbrev TO:=St->Hp->(Option Int->Hp->Prop)->Prop
def PO(X:Cx)(e:Option Expr)(t:TO):Prop:=∀(pins:Js)(s:Shared)(σ:St)(H:Hp)(Q:Option Int->Hp->Prop),Inv X pins σ H s->t σ H Q->wpAny (model X.prog X.w) X.A (evalPart e X.env) (λu s'=>∃o H',Inv X pins σ H' s'/\IsPart u o/\Q o H') X.xe s
def dE:TO:=λ_ H Q=>Q none H
def nX(t:TE):TO:=λσ H Q=>t σ H λx H1=>∃i,x=.int i/\Q (some i) H1
theorem intsAre_of:∀{us:List Value},Vals (ns.map V.int) us->IntsAre us ns:=by
 induction ns with
 |nil=>intro us r;rw[List.map_nil]at r;cases r;exact .nil|cons n ns ih=>
  intro us r;rw[UL]at r;cases r with
  |cons r1 r2 =>obtain⟨t,e⟩:=r1;subst e;exact .cons n t (ih r2)
section
variable{X:Cx}{e:Expr}{te:TE}{lo hi:Option Expr}{tl th:TO}{pos p2:Pos}
theorem dF:PO X none dE:=by intro pins s σ H Q I h;rw[evalPart_none];exact Up ⟨none,H,I,.none,h⟩
theorem dG(h:PE X e te):PO X (some e) (nX te):=by intro pins s σ H Q I hw;rw[evalPart_some];refine YR (h pins s σ H _ I hw) λu s1 ⟨x,H1,I1,r1,q1⟩=>?_;obtain⟨i,rfl,q⟩:=q1;obtain⟨t,rfl⟩:=r1;exact⟨some i,H1,I1,.int i t,q⟩
def SlR(X:Cx)(r:V->Option Int->Option Int->Hp->VK->Prop):Prop:=∀(pins:Js)(s:Shared)(σ:St)(H:Hp)(x:V)(v vl vu:Value)(lo hi:Option Int)(sl:Addr)(Q:VK),Inv X pins σ H s->RelV x v->s.heap.IsSliceOf sl vl vu .none->IsPart vl lo->IsPart vu hi->r x lo hi H Q->∃T id,typeLookup (.type T) "__getitem__"=pure (some (.builtin id))/\s.TypeIs v T/\wpAny (model X.prog X.w) X.A (getItem v (.ref sl)) (EP X pins σ Q) X.xe s
theorem SlR.or(h:SlR X r)(h':SlR X r'):SlR X (λx lo hi H Q=>r x lo hi H Q\/r' x lo hi H Q):=by
 intro pins s σ H x v vl vu lo hi sl Q I rx hs pl pu q;rcases q with q|q
 ·exact h pins s σ H x v vl vu lo hi sl Q I rx hs pl pu q
 ·exact h' pins s σ H x v vl vu lo hi sl Q I rx hs pl pu q
def wI(r:V->Option Int->Option Int->Hp->VK->Prop)(te:TE)(tl th:TO):TE:=λσ H Q=>te σ H λx H1=>tl σ H1 λl H2=>th σ H2 λu H3=>r x l u H3 Q
theorem Dh{r:V->Option Int->Option Int->Hp->VK->Prop}(hr:SlR X r)(he:PE X e te)(hl:PO X lo tl)(hu:PO X hi th):PE X (.Subscript e (.Slice lo hi none p2) pos) (wI r te tl th):=by intro pins s σ H Q I h;refine Subscript_ (YR (he pins s σ H _ I h) λv s1 ⟨x,H1,I1,r1,q1⟩=>?_);refine wpAny_Slice (YR (hl pins s1 σ H1 _ I1 q1) λvl s2 ⟨l,H2,I2,pl,q2⟩=>YR (hu pins s2 σ H2 _ I2 q2) λvu s3 ⟨u,H3,I3,pu,q3⟩=>?_);rw[evalPart_none];refine Up ?_;have I4:Inv X pins σ H3 {s3 with heap:=s3.heap.push {cls:=.type "slice",data:=.fields #[vl,vu,.none]} }:=I3.kept (t':=s3.toks) λb ob q=>Ug _ q;obtain⟨T,id,hT,ht,hg⟩:=hr pins {s3 with heap:=s3.heap.push {cls:=.type "slice",data:=.fields #[vl,vu,.none]} } σ H3 x v vl vu l u s3.heap.objs.size Q I4 r1 (Heap.IsSliceOf.new ..) pl pu q3;show wpAny (model X.prog X.w) X.A (subscriptTail e (.Slice lo hi none p2) v (.ref s3.heap.objs.size)) (EP X pins σ Q) X.xe {s3 with heap:=s3.heap.push {cls:=.type "slice",data:=.fields #[vl,vu,.none]} };exact tail_any (ops:=[.ref s3.heap.objs.size,v]) ht hT hg (by with_unfolding_all rfl)
def Mh(xs:List V)(lo hi:Option Int):List V:=(xs.drop (HT.sIx xs.length 0 lo)).take (HT.sIx xs.length xs.length hi-HT.sIx xs.length 0 lo)
theorem FF(xs:List V)(lo hi:Option Int):(Mh xs lo hi).length<=xs.length:=by unfold Mh;rw[UW,TW];omega
def sY(K:Frag):V->Option Int->Option Int->Hp->VK->Prop:=λx lo hi H Q=>∃a xs,x=.ref a/\SqT K H a xs/\¬(HT.sIx xs.length 0 lo=0/\HT.sIx xs.length xs.length hi=xs.length)/\∀p,H p=none->Q (.ref p) (YD H p (.tup (Mh xs lo hi)))
theorem sl_tup:SlR X (sY X.K):=by
 intro pins s σ H x v vl vu lo hi sl Q I rx hs pl pu h;obtain⟨a,xs,rfl,hx,hw,q⟩:=h;cases rx;obtain⟨its,r,ht,hz⟩:=I.tuple hx;have hlen:its.toArray.size=xs.length:=by rw[Ue];exact r.length.symm
 refine⟨"tuple",_,UZ.lookup,ht.typeIs,?_⟩;refine HT.getItem_tuple_cut ht hs pl pu (by rw[hlen];exact hw) ?_ (by rw[hlen];exact hz);rw[hlen];refine⟨.ref s.heap.objs.size,_,I.laid (t':=s.toks) (o:=.tup (Mh xs lo hi)) (λb ob q=>Ug _ q) (Ui _) ?_,rfl,q _ (I.hok.fresh (Ui _))⟩;exact⟨Um (FF xs lo hi) hz,_,(r.drop (HT.sIx xs.length 0 lo)).take (HT.sIx xs.length xs.length hi-HT.sIx xs.length 0 lo),IsTup.new _ _⟩
def iA(K:Frag):R2:=λx y H Q=>∃a b xs ys,x=.ref a/\y=.ref b/\SqT K H a xs/\SqT K H b ys/\xs≠[]/\xs.length+ys.length<=sizeLine/\(ys=[]->Q (.ref a) H)/\(ys≠[]->∀p,H p=none->Q (.ref p) (YD H p (.tup (xs++ys))))
theorem Vals.nil_iff(r:Vals xs us):us=[]↔xs=[]:=by
 cases r with
 |nil=>simp|cons _ _=>simp
theorem dH:OpR X (binaryOp .Add) (iA X.K):=by intro pins s σ H x y v u Q I rx ry h;obtain⟨a,b,xs,ys,rfl,rfl,ha,hb,hx,hz,q1,q2⟩:=h;cases rx;cases ry;obtain⟨its,r1,p1,_⟩:=I.tuple ha;obtain⟨its2,r2,p2,_⟩:=I.tuple hb;refine HT.cat_tup p1 p2 (λz=>hx (r1.nil_iff.mp z)) (λz=>⟨.ref a,H,I,rfl,q1 (r2.nil_iff.mp z)⟩) (λz=>?_) (by rw[<-r1.length,<-r2.length];exact hz);refine⟨.ref s.heap.objs.size,_,I.laid (t':=s.toks) (o:=.tup (xs++ys)) (λb ob q=>Ug _ q) (Ui _) ?_,rfl,q2 (λw=>z (r2.nil_iff.mpr w)) _ (I.hok.fresh (Ui _))⟩;exact⟨by rw[Us];exact hz,_,r1.append r2,IsTup.new _ _⟩
end
def mR(n:Nat)(i:Int):Option Nat:=if 0<=i then (if i<n then some i.toNat else none) else if -(n:Int)<=i then some (i+n).toNat else none
def kH(xs:List α)(i:Int):Option α:=(mR xs.length i).bind λj=>xs[j]?
theorem O8(h:mR n i=some j):seqIndex? i n=some j/\j<n/\-(n:Int)<=i/\i<n:=by
 unfold mR at h;by_cases h0:0<=i
 ·rw[Ub h0]at h;by_cases h1:i<n
  ·rw[Ub h1]at h;have e:i.toNat=j:=Option.some.inj h;exact⟨by rw[seqIndex_of h0 h1,e],by omega,by omega,h1⟩
  ·rw[Ud h1]at h;cases h
 ·rw[Ud h0]at h;by_cases h1 : -(n:Int)<=i
  ·rw[Ub h1]at h;have e:(i+n).toNat=j:=Option.some.inj h;exact⟨by rw[seqIndex_neg (by omega) h1,e],by omega,h1,by omega⟩
  ·rw[Ud h1]at h;cases h
theorem Ld(h:kH xs i=some v):∃j,seqIndex? i xs.length=some j/\xs[j]?=some v/\j<xs.length/\-(xs.length:Int)<=i/\i<xs.length:=by
 unfold kH at h;cases e:mR xs.length i with
 |none=>rw[e]at h;cases h|some j =>rw[e]at h;obtain⟨h1,h2,h3,h4⟩:=O8 e;exact⟨j,h1,h,h2,h3,h4⟩
def Ge(b:Expr):Prop:=∀o i,subscripted b false o i=operate [o,i] (getItem o i)
def IxR(X:Cx)(r:R2):Prop:=∀(value slice:Expr)(pins:Js)(s:Shared)(σ:St)(H:Hp)(x y:V)(v u:Value)(Q:VK),Inv X pins σ H s->RelV x v->RelV y u->r x y H Q->subscripted slice false v u=operate [v,u] (getItem v u)->wpAny (model X.prog X.w) X.A (subscriptTail value slice v u) (EP X pins σ Q) X.xe s
def MtR(X:Cx)(id:String)(r:V->List V->Hp->VK->Prop):Prop:=∀(pins:Js)(s:Shared)(σ:St)(H:Hp)(x:V)(xs:List V)(v:Value)(us:List Value)(Q:VK),Inv X pins σ H s->RelV x v->Vals xs us->r x xs H Q->wpAny (model X.prog X.w) X.A (call (.builtin id) (v::us)) (EP X pins σ Q) X.xe s
section
variable{X:Cx}{a b:Expr}{ta tb:TE}{pos:Pos}
theorem IxR.or(h:IxR X r)(h':IxR X r'):IxR X (λx y H Q=>r x y H Q\/r' x y H Q):=by
 intro value slice pins s σ H x y v u Q I rx ry q hs;rcases q with q|q
 ·exact h value slice pins s σ H x y v u Q I rx ry q hs
 ·exact h' value slice pins s σ H x y v u Q I rx ry q hs
theorem MtR.or{id:String}{r r':V->List V->Hp->VK->Prop}(h:MtR X id r)(h':MtR X id r'):MtR X id (λx xs H Q=>r x xs H Q\/r' x xs H Q):=by
 intro pins s σ H x xs v us Q I rx rs q;rcases q with q|q
 ·exact h pins s σ H x xs v us Q I rx rs q
 ·exact h' pins s σ H x xs v us Q I rx rs q
theorem nY(hr:IxR X r)(ha:PE X a ta)(hb:PE X b tb)(hs:Ge b):PE X (.Subscript a b pos) (nQ r ta tb):=by intro pins s σ H Q I h;exact Subscript_ (jY ha hb I h λv u s2 x y H2 I2 rx ry q=>hr a b pins s2 σ H2 x y v u Q I2 rx ry q (hs _ _))
def nZ(K:Frag):R2:=λx y H Q=>∃p xs i v,x=.ref p/\y=.int i/\SqL K H p xs/\kH xs i=some v/\Q v H
def oA(K:Frag):R2:=λx y H Q=>∃p xs i v,x=.ref p/\y=.int i/\SqT K H p xs/\kH xs i=some v/\Q v H
def oB:R2:=λx y H Q=>∃z i c,x=.str z/\y=.int i/\z.length<=sizeLine/\kH z.cps.toList i=some c/\Q (.str ⟨#[c]⟩) H
theorem ix_list:IxR X (nZ X.K):=by
 intro value slice pins s σ H x y v u Q I rx ry h hs;obtain⟨p,xs,i,z,rfl,rfl,hq,he,q⟩:=h;cases rx;obtain⟨t,rfl⟩:=ry;obtain⟨its,r,pl,hz⟩:=I.list hq;obtain⟨j,h1,h2,h3,h4,h5⟩:=Ld he;obtain⟨w,ew,rw'⟩:=r.get h2;have hl:=r.length;have hn:=Bj;have fin:EP X pins σ Q w s:=⟨z,H,I,rw',q⟩;by_cases h0:0<=i
 ·have hj:i.toNat=j:=by rw[seqIndex_of h0 h5]at h1;exact Option.some.inj h1
  exact item_listR pl.isList h0 (by omega) (by rw[hj];simpa using ew) fin hs
 ·have hj:(i+(its.toArray.size:Int)).toNat=j:=by rw[seqIndex_neg (by omega) h4]at h1;rw[Ue,<-hl];exact Option.some.inj h1
  exact subscriptTail_builtinR (x:=w) pl.isList.typeIs slot_list_getitem.lookup
   (wpAny_getItem_list_neg (Q:=λr s'=>r=w/\EP X pins σ Q r s') pl.isList (by omega) (by rw[Ue]<;>omega) (by omega) (by rw[hj];simpa using ew) ⟨rfl,fin⟩) hs
theorem ix_tup:IxR X (oA X.K):=by
 intro value slice pins s σ H x y v u Q I rx ry h hs;obtain⟨p,xs,i,z,rfl,rfl,hq,he,q⟩:=h;cases rx;obtain⟨t,rfl⟩:=ry;obtain⟨its,r,pl,hz⟩:=I.tuple hq;obtain⟨j,h1,h2,h3,h4,h5⟩:=Ld he;obtain⟨w,ew,rw'⟩:=r.get h2;have hl:=r.length;have hn:=Bj;have fin:EP X pins σ Q w s:=⟨z,H,I,rw',q⟩;exact subscriptTail_builtinR (x:=w) pl.typeIs slot_tuple_getitem.lookup
  (getItem_tuple (j:=j) (Q:=λr s'=>r=w/\EP X pins σ Q r s') pl (by omega) (by omega) (by rw[Ue,<-hl];exact h1) (by simpa using ew) ⟨rfl,fin⟩) hs
theorem kI:IxR X oB:=by
 intro value slice pins s σ H x y v u Q I rx ry h hs;obtain⟨z,i,c,rfl,rfl,hz,he,q⟩:=h;obtain⟨t,rfl⟩:=rx;obtain⟨t',rfl⟩:=ry;obtain⟨j,h1,h2,h3,h4,h5⟩:=Ld he;have hl:z.cps.toList.length=z.length:=by simp[Str.length]
 rw[hl]at h1 h4 h5;have hn:=Bj;exact tail_any (typeIs_str s z t) slot_str_getitem.lookup (getItem_str (c:=c) (by have e1:decide (i < -(2^63:Int))=false:=Ul (by omega);have e2:decide (i>=2^63)=false:=Ul (by omega);rw[e1,e2,Wt]) (by rw[h1];simpa using h2) ⟨.str ⟨#[c]⟩,H,I.tok _,⟨_,rfl⟩,q⟩) hs
def vN(K:Frag):R2:=λx y H Q=>nZ K x y H Q\/oA K x y H Q\/oB x y H Q
theorem kJ:IxR X (vN X.K):=ix_list.or (ix_tup.or kI)
theorem NW(its:List Value)(n j:Nat)(u:Value):Obj.mapSeq (·.setIfInBounds j u) {cls:=.type "list",data:=.seq its.toArray n} = {cls:=.type "list",data:=.seq (its.set j u).toArray n}:=by simp[Obj.mapSeq]
theorem Inv.lst(I:Inv X pins σ H s)(h:H p=some (.lst xs)):
  ∃(its:List Value)(n:Nat),Vals xs its/\s.heap.get? p=some {cls:=.type "list",data:=.seq its.toArray n}/\xs.length<=sizeLine:=by
 obtain⟨z,its,n,r,e⟩:=I.hok p _ h;exact⟨its,n,r,e,z⟩
theorem Inv.lstUpd{pins:Js}{σ:St}{H:Hp}{s:Shared}{p:Addr}{xs ys:List V}{its its':List Value}{n n':Nat}{f:Obj->Obj}(I:Inv X pins σ H s)(h:H p=some (.lst xs))(ho:s.heap.get? p=some {cls:=.type "list",data:=.seq its.toArray n})(hf:f {cls:=.type "list",data:=.seq its.toArray n} = {cls:=.type "list",data:=.seq its'.toArray n'})(r:Vals ys its')(hz:ys.length<=sizeLine)(t:Nat):
  Inv X pins σ (YD H p (.lst ys)) {s with heap:=s.heap.update p f,toks:=t}:=by
 have e:(s.heap.update p f).get? p=some {cls:=.type "list",data:=.seq its'.toArray n'}:=by rw[T3 f ho (by rw[hf]<;>rfl),hf]
 refine I.write (x:=p) (e:=p) (by rw[h];trivial) (.inl rfl) (λb u hb q=>(Th _ _ (Ne.symm hb)).trans q) ⟨_,e⟩ ?_;exact⟨hz,its',n',r,e⟩
def oE:V->V->V->Hp->(Hp->Prop)->Prop:=λo i v H Q=>∃p xs k j,o=.ref p/\i=.int k/\H p=some (.lst xs)/\mR xs.length k=some j/\Q (YD H p (.lst (xs.set j v)))
theorem Di:jS X oE:=by
 intro pins s σ H o i v ov iv u Q I ro ri rv h;obtain⟨p,xs,k,j,rfl,rfl,hp,hj,q⟩:=h;cases ro;obtain⟨t,rfl⟩:=ri;obtain⟨its,n,r,ho,hz⟩:=I.lst hp;obtain⟨h1,h2,h3,h4⟩:=O8 hj;have hl:=r.length;have hn:=Bj;have I':Inv X pins σ (YD H p (.lst (xs.set j v))) {s with heap:=s.heap.update p (Obj.mapSeq (·.setIfInBounds j u))}:=I.lstUpd hp ho (NW its n j u) (r.set rv j) (by rw[UJ];exact hz) s.toks
 by_cases h0:0<=k
 ·have hk:k.toNat=j:=by rw[seqIndex_of h0 h4]at h1;exact Option.some.inj h1
  exact ki_setAt ho h0 (by omega) (by rw[Ue,<-hl];exact h4) (by rw[hk];exact⟨_,I',q⟩)
 ·have hk:(k+(its.toArray.size:Int)).toNat=j:=by rw[seqIndex_neg (by omega) h3]at h1;rw[Ue,<-hl];exact Option.some.inj h1
  exact ki_setBack ho (by omega) (by rw[Ue,<-hl];exact h3) (by omega) (by rw[hk];exact⟨_,I',q⟩)
theorem Le(lo hi:Option Int)(n:Nat):(sliceBounds lo hi none n).1=((HT.sIx n 0 lo:Nat):Int)/\(sliceBounds lo hi none n).2.1=((HT.sIx n n hi:Nat):Int)/\(sliceBounds lo hi none n).2.2=1:=by
 refine⟨?_,?_,rfl⟩
 ·cases lo with
  |none=>simp[sliceBounds,HT.sIx]|some i=>
   simp only[sliceBounds,HT.sIx,Option.getD_none,show(1:Int)>0 by decide,RI];by_cases h:i<0
   ·simp only[h,RI]<;>omega
   ·simp only[h,Re]<;>omega
 ·cases hi with
  |none=>simp[sliceBounds,HT.sIx]|some i=>
   simp only[sliceBounds,HT.sIx,Option.getD_none,show(1:Int)>0 by decide,RI];by_cases h:i<0
   ·simp only[h,RI]<;>omega
   ·simp only[h,Re]<;>omega
theorem HN(its:List Value)(lo hi:Option Int):slicePick its.toArray lo hi none=((its.drop (HT.sIx its.length 0 lo)).take (HT.sIx its.length its.length hi-HT.sIx its.length 0 lo)).toArray:=by obtain⟨h1,h2,h3⟩:=Le lo hi its.toArray.size;unfold slicePick;rw[h1,h2,h3];simp only[sliceRange_one,pick_run,Ue]<;>rfl
def sZ(K:Frag):V->Option Int->Option Int->Hp->VK->Prop:=λx lo hi H Q=>∃a xs,x=.ref a/\SqL K H a xs/\∀p,H p=none->Q (.ref p) (YD H p (.lst (Mh xs lo hi)))
theorem dI:SlR X (sZ X.K):=by intro pins s σ H x v vl vu lo hi sl Q I rx hs pl pu h;obtain⟨a,xs,rfl,hx,q⟩:=h;cases rx;obtain⟨its,r,ht,hz⟩:=I.list hx;have hlen:=r.length;refine⟨"list",_,slot_list_getitem.lookup,ht.isList.typeIs,?_⟩;refine wpAny_getItem_list_slice ht.isList hs pl pu .none (by simp) ?_ (by rw[Ue]<;>omega);rw[HN,<-hlen];refine⟨.ref s.heap.objs.size,_,I.laid (t':=s.toks) (o:=.lst (Mh xs lo hi)) (λb ob q=>Ug _ q) (Ui _) ?_,rfl,q _ (I.hok.fresh (Ui _))⟩;exact⟨Um (FF xs lo hi) hz,_,0,(r.drop (HT.sIx xs.length 0 lo)).take (HT.sIx xs.length xs.length hi-HT.sIx xs.length 0 lo),UA _ rfl⟩
def Cl:V->Bool
 |.non=>true|.bl _=>true|.int _=>true|.str _=>true|_=>false
def cI:V->V->Bool
 |.non,.non=>true|.bl a,.bl b=>a==b|.bl a,.int b=>(if a then 1 else 0)==b|.int a,.bl b=>a==(if b then 1 else 0)|.int a,.int b=>a==b|.str a,.str b=>a==b|_,_=>false
theorem kK(ry:RelV y u)(rx:RelV x v)(fy:Cl y=true)(fx:Cl x=true):SeqAt.EqAt A s u v (cI y x):=by
 cases y with
 |non=>
  cases ry;cases x with
  |non=>cases rx;exact RQ _|bl b=>cases rx;exact SeqAt.EqAt.none_bool b|int b=>obtain⟨t,rfl⟩:=rx;exact SeqAt.EqAt.none_int b t|str b=>obtain⟨t,rfl⟩:=rx;exact SeqAt.EqAt.none_str b t|_=>exact absurd (show false=true from fx) Uf
 |bl a=>
  cases ry;cases x with
  |non=>cases rx;exact SeqAt.EqAt.bool_none a|bl b=>cases rx;exact SeqAt.EqAt.bool_bool a b|int b=>obtain⟨t,rfl⟩:=rx;exact SeqAt.EqAt.bool_int a b t|str b=>obtain⟨t,rfl⟩:=rx;exact SeqAt.EqAt.bool_str a b t|_=>exact absurd (show false=true from fx) Uf
 |int a=>
  obtain⟨t',rfl⟩:=ry;cases x with
  |non=>cases rx;exact SeqAt.EqAt.int_none a t'|bl b=>cases rx;exact SeqAt.EqAt.int_bool a t' b|int b=>obtain⟨t,rfl⟩:=rx;exact SeqAt.EqAt.int_int a t' b t|str b=>obtain⟨t,rfl⟩:=rx;exact RZ a t' b t|_=>exact absurd (show false=true from fx) Uf
 |str a=>
  obtain⟨t',rfl⟩:=ry;cases x with
  |non=>cases rx;exact SeqAt.EqAt.str_none a t'|bl b=>cases rx;exact SeqAt.EqAt.str_bool a t' b|int b=>obtain⟨t,rfl⟩:=rx;exact R0 a t' b t|str b=>obtain⟨t,rfl⟩:=rx;exact SeqAt.EqAt.str_str a t' b t|_=>exact absurd (show false=true from fx) Uf
 |_=>exact absurd (show false=true from fy) Uf
def NX(x:V)(u:Value):Bool:=match u with
 |.none=>cI .non x|.bool b=>cI (.bl b) x|.int i _=>cI (.int i) x|.str z _=>cI (.str z) x|_=>false
theorem Dj(r:RelV y u)(f:Cl y=true):NX x u=cI y x:=by
 cases y with
 |non=>cases r;rfl|bl b=>cases r;rfl|int i=>obtain⟨t,rfl⟩:=r;rfl|str z=>obtain⟨t,rfl⟩:=r;rfl|_=>exact absurd (show false=true from f) Uf
theorem Eb:∀{xs:List V}{us:List Value},Vals xs us->xs.all Cl=true->us.any (NX x)=xs.any λy=>cI y x
 |_,_,.nil,_=>rfl|y::xs,u::us,.cons r t,f=>by rw[Rn,UG]at f;rw[To,To,Dj r f.1,Eb t f.2]
theorem Bk(rx:RelV x v)(fx:Cl x=true):∀{xs:List V}{us:List Value},Vals xs us->xs.all Cl=true->∀u∈us,SeqAt.EqAt A s u v (NX x u)
 |_,_,.nil,_=>λu hu=>by cases hu
 |y::xs,u::us,.cons r t,f=>λu' hu=>by
  rw[Rn,UG]at f;rcases UE.mp hu with rfl|hu
  ·rw[Dj r f.1];exact kK r rx f.1 fx
  ·exact Bk rx fx t f.2 u' hu
def inV(x:V)(xs:List V):Bool:=xs.any λy=>cI y x
def tD(K:Frag)(neg:Bool):R2:=λx y H Q=>∃p xs,y=.ref p/\(SqL K H p xs\/SqT K H p xs)/\Cl x=true/\xs.all Cl=true/\Q (.bl (if neg then !inV x xs else inV x xs)) H
theorem Iz:OpR X (compareOp .In) (tD X.K false):=by
 intro pins s σ H x y v u Q I rx ry h;obtain⟨p,xs,rfl,hq,fx,fs,q⟩:=h;cases ry;rcases hq with hq|hq
 ·obtain⟨its,r,pl,hz⟩:=I.list hq;refine SeqAt.in_listAt (NX x) pl.isList (λw hw=>Bk rx fx r fs w (by simpa using hw)) ⟨.bl _,H,I,rfl,?_⟩;rw[show its.toArray.any (NX x)=its.any (NX x) by simp,Eb r fs];exact q
 ·obtain⟨its,r,pl,hz⟩:=I.tuple hq;refine SeqAt.in_tupleAt (NX x) pl (λw hw=>Bk rx fx r fs w (by simpa using hw)) ⟨.bl _,H,I,rfl,?_⟩;rw[show its.toArray.any (NX x)=its.any (NX x) by simp,Eb r fs];exact q
theorem Lf:OpR X (compareOp .NotIn) (tD X.K true):=by
 intro pins s σ H x y v u Q I rx ry h;obtain⟨p,xs,rfl,hq,fx,fs,q⟩:=h;cases ry;rcases hq with hq|hq
 ·obtain⟨its,r,pl,hz⟩:=I.list hq;refine SeqAt.notIn_listAt (NX x) pl.isList (λw hw=>Bk rx fx r fs w (by simpa using hw)) ⟨.bl _,H,I,rfl,?_⟩;rw[show its.toArray.any (NX x)=its.any (NX x) by simp,Eb r fs];exact q
 ·obtain⟨its,r,pl,hz⟩:=I.tuple hq;refine SeqAt.notIn_tupleAt (NX x) pl (λw hw=>Bk rx fx r fs w (by simpa using hw)) ⟨.bl _,H,I,rfl,?_⟩;rw[show its.toArray.any (NX x)=its.any (NX x) by simp,Eb r fs];exact q
theorem Lg:CallR X (.builtin "len") (λxs H Q=>∃p ys,xs=[.ref p]/\(SqL X.K H p ys\/SqT X.K H p ys)/\Q (.int ys.length) H):=by
 intro pins s σ H xs us Q I r h;obtain⟨p,ys,rfl,hq,q⟩:=h;obtain⟨u,rfl,rx⟩:=Mf r;cases rx;have hn:=Bj;rcases hq with hq|hq
 ·obtain⟨its,r',pl,hz⟩:=I.list hq;have hlen:=r'.length;exact Calls.call_len_list pl.isList (by simp only[Ue]<;>omega) ⟨.int ys.length,H,I.tok _,⟨s.toks+1,by rw[Ue,hlen]⟩,q⟩
 ·obtain⟨its,r',pl,hz⟩:=I.tuple hq;have hlen:=r'.length;exact len_tuple pl (by simp only[Ue]<;>omega) ⟨.int ys.length,H,I.tok _,⟨s.toks+1,by rw[Ue,hlen]⟩,q⟩
theorem CallR.or(h:CallR X f r)(h':CallR X f r'):CallR X f (λxs H Q=>r xs H Q\/r' xs H Q):=by
 intro pins s σ H xs us Q I rs q;rcases q with q|q
 ·exact h pins s σ H xs us Q I rs q
 ·exact h' pins s σ H xs us Q I rs q
theorem Lh:CallR X (.type "list") (λxs H Q=>∃p ys,xs=[.ref p]/\(SqL X.K H p ys\/SqT X.K H p ys)/\∀l,H l=none->Q (.ref l) (YD H l (.lst ys))):=by
 intro pins s σ H xs us Q I r h;obtain⟨p,ys,rfl,hq,q⟩:=h;obtain⟨u,rfl,rx⟩:=Mf r;cases rx;have fin:∀(its:List Value),Vals ys its->ys.length<=sizeLine->∀(h':Heap)(c':Nat),(∀b o',s.heap.get? b=some o'->h'.get? b=some o')->h'.get? s.heap.objs.size=some {cls:=.type "list",dict:=none,data:=.seq its.toArray c',slots:=#[]}->EP X pins σ Q (.ref s.heap.objs.size) {s with heap:=h'}:=λits r' hz h' c' kp e=>
  ⟨.ref s.heap.objs.size,_,I.laid (t':=s.toks) kp (Ui _) (show ObjOk X.prog X.w _ h' _ (.lst ys) from ⟨hz,its,c',r',e⟩),rfl,q _ (I.hok.fresh (Ui _))⟩
 rcases hq with hq|hq
 ·obtain⟨its,r',pl,hz⟩:=I.list hq;have hlen:=r'.length;obtain⟨o,ho,hc,n,hd⟩:=pl.isList;exact call_list_seq p (.inl rfl) ho hc hd (λh' c' kp e=>fin its r' hz h' c' kp e) (by simp only[Ue]<;>omega)
 ·obtain⟨its,r',pl,hz⟩:=I.tuple hq;have hlen:=r'.length;obtain⟨o,ho,hc,n,hd⟩:=pl;exact call_list_seq p (.inr rfl) ho hc hd (λh' c' kp e=>fin its r' hz h' c' kp e) (by simp only[Ue]<;>omega)
theorem HP:CallR X (.type "tuple") (λxs H Q=>∃p ys,xs=[.ref p]/\((SqL X.K H p ys/\∀l,H l=none->Q (.ref l) (YD H l (.tup ys)))\/(SqT X.K H p ys/\Q (.ref p) H))):=by
 intro pins s σ H xs us Q I r h;obtain⟨p,ys,rfl,h⟩:=h;obtain⟨u,rfl,rx⟩:=Mf r;cases rx;rcases h with⟨hq,q⟩|⟨hq,q⟩
 ·obtain⟨its,r',pl,hz⟩:=I.list hq;have hlen:=r'.length;refine call_tuple_list pl.isList (λh' kp=>?_) (by simp only[Ue]<;>omega);have I1:Inv X pins σ H {s with heap:=h'}:=I.kept (t':=s.toks) kp;have I2:Inv X pins σ (YD H h'.objs.size (.tup ys)) {s with heap:=h'.push {cls:=.type "tuple",data:=.seq its.toArray} }:=I1.laid (t':=s.toks) (λb o e=>Ug _ e) (Ui _) (show ObjOk X.prog X.w _ _ _ (.tup ys) from ⟨hz,its,r',IsTup.new _ _⟩)
  exact⟨.ref h'.objs.size,_,I2,rfl,q _ (I1.hok.fresh (Ui _))⟩
 ·obtain⟨its,r',pl,hz⟩:=I.tuple hq;exact call_tuple_same pl ⟨.ref p,H,I,rfl,q⟩
def tE(K:Frag)(T:String)(x:V)(H:Hp):Prop:=match x with
 |.str _=>T ="str"|.int _=>T ="int"|.ref p=>(T ="list"/\∃xs,SqL K H p xs)\/(T ="tuple"/\∃o,K.lookup p=some o/\o.cls=.type "tuple"/\o.dict=none)\/(T ="dict"/\((∃kvs,H p=some (.dK kvs))\/∃kvs,H p=some (.dT kvs)))\/(T ="set"/\∃S n,H p=some (.set S n))
 |_=>False
theorem Dk(I:Inv X pins σ H s)(r:RelV x v)(ty:tE X.K T x H):
  s.TypeIs v T/\∀a,v=.ref a->∃ob,s.heap.get? a=some ob/\ob.dict=none:=by
 cases x with
 |str z =>obtain⟨t,rfl⟩:=r;cases (show T ="str" from ty);exact⟨typeIs_str s z t,λ_ e=>nomatch e⟩|int i =>obtain⟨t,rfl⟩:=r;cases (show T ="int" from ty);exact⟨typeIs_int s i t,λ_ e=>nomatch e⟩|ref p=>
  cases r;rcases ty with⟨rfl,xs,hq⟩|⟨rfl,o,hk,hc,hd⟩|⟨rfl,hk⟩|⟨rfl,S,n,hk⟩
  ·obtain⟨its,_,pl,_⟩:=I.list hq;refine⟨pl.isList.typeIs,λa e=>?_⟩;cases e;obtain⟨o,n,e,c,hd,_⟩:=pl;exact⟨o,e,hd⟩
  ·refine⟨⟨o,I.kIn p o hk,hc⟩,λa e=>?_⟩;cases e;exact⟨o,I.kIn _ o hk,hd⟩
  ·have z:∃o,s.heap.get? p=some o/\o.ExactDict:=by
    rcases hk with⟨kvs,hk⟩|⟨kvs,hk⟩
    ·obtain⟨_,_,_,_,o,_,_,e,ex,_⟩:=I.hok p _ hk;exact⟨o,e,ex⟩
    ·obtain⟨_,_,_,_,o,_,_,e,ex,_⟩:=I.hok p _ hk;exact⟨o,e,ex⟩
   obtain⟨o,e,ex⟩:=z;refine⟨⟨o,e,ex.1⟩,λa e2=>?_⟩;cases e2;exact⟨o,e,ex.2.1⟩
  ·obtain⟨o,_,_,_,e,ex,_⟩:=I.hok p _ hk;refine⟨⟨o,e,ex.1⟩,λa e2=>?_⟩;cases e2;exact⟨o,e,ex.2.1⟩
 |_=>exact False.elim ty
def tF(K:Frag)(T:String)(r:V->List V->Hp->VK->Prop)(to:TE):TE:=λσ H Q=>to σ H λx H1=>tE K T x H1/\r x [] H1 Q
def wJ(K:Frag)(T:String)(r:V->List V->Hp->VK->Prop)(to:TE)(t:TA):TE:=λσ H Q=>to σ H λx H1=>tE K T x H1/\t σ H1 λxs H2=>r x xs H2 Q
variable{o e:Expr}{es:List Expr}{to:TE}{t:TA}{name:Str}{apos cpos:Pos}{T id:String}{r:V->List V->Hp->VK->Prop}
theorem kL(pa:PlainAttrs T)(slot:Slot T name id)(hty:typeOf (.builtin id)=pure (.type "method_descriptor"))(hm:MtR X id r)(ho:PE X o to)(hbase:attributeBase o name X.env (eval o X.env)=eval o X.env:=by rfl)(hline:(apos.endLine==cpos.line)=true:=by rfl):PE X (.Call (.Attribute o name apos) [] [] cpos) (tF X.K T r to):=by intro pins s σ H Q I h;refine wpAny_Call_method0_late hbase hline (YR (ho pins s σ H _ I h) λv s1 ⟨x,H1,I1,r1,ty,q1⟩=>?_);obtain⟨h1,h2⟩:=Dk I1 r1 ty;exact⟨T,id,pa,slot,hty,h1,h2,Calls.callWith_builtin rfl (PySem.evalArgs_none (hm pins s1 σ H1 x [] v [] Q I1 r1 .nil q1))⟩
theorem O9(pa:PlainAttrs T)(slot:Slot T name id)(hty:typeOf (.builtin id)=pure (.type "method_descriptor"))(hm:MtR X id r)(ho:PE X o to)(ha:PA X (e::es) t)(hbase:attributeBase o name X.env (eval o X.env)=eval o X.env:=by rfl)(hfew:((backTo cpos (starEach (e::es) X.env)).all (λx=>!x.1)&&(backToKw cpos (keywordEach [] X.env)).all (λx=>x.1.isSome)
   && decide ((e::es).length+([]:List Keyword).length+(if ([]:List Keyword).isEmpty then 0 else 1)<30))=true:=by rfl)(hline:(apos.endLine==cpos.line)=true:=by rfl)(hs:starEach (e::es) X.env=(false,eval e X.env)::starEach es X.env:=by rfl)(hplain:(backTo cpos (starEach es X.env)).any (·.1)=false:=by rfl):
  PE X (.Call (.Attribute o name apos) (e::es) [] cpos) (wJ X.K T r to t):=by
 intro pins s σ H Q I h;refine wpAny_Call_method_late hbase hfew hline rfl (YR (ho pins s σ H _ I h) λv s1 ⟨x,H1,I1,r1,ty,q1⟩=>?_);obtain⟨h1,h2⟩:=Dk I1 r1 ty;refine⟨T,id,pa,slot,hty,h1,h2,?_⟩;have hA:=ha cpos pins s1 σ H1 _ I1 q1;rw[hs]at hA ⊢;refine Calls.callWith_builtin (by show(false||(backTo cpos (starEach es X.env)).any (·.1))=false;rw[hplain]<;>rfl) (Calls.evalArgs_plain ?_);exact YR hA λus s2 ⟨vs,H2,I2,r2,q2⟩=>hm pins s2 σ H2 x vs v us Q I2 r1 r2 q2
end
def oF(X:Cx)(id:String)(r:V->List V->Hp->VK->Prop):Prop:=∀(pins:Js)(s:Shared)(σ:St)(H:Hp)(x:V)(xs:List V)(v:Value)(us:List Value)(Q:VK),Inv X pins σ H s->RelV x v->Vals xs us->r x xs H Q->wpAny (model X.prog X.w) X.A (call (.builtin id) (v::us)) (EP X pins σ Q) X.xe s
theorem Vals.one:∀{x:V}{us:List Value},Vals [x] us->∃u,us=[u]/\RelV x u
 |_,_,.cons r .nil=>⟨_,rfl,r⟩
theorem Vals.two:∀{x y:V}{us:List Value},Vals [x,y] us->∃u v,us=[u,v]/\RelV x u/\RelV y v
 |_,_,_,.cons r (.cons q .nil)=>⟨_,_,rfl,r,q⟩
theorem Vals.zero:∀{us:List Value},Vals [] us->us=[]
 |_,.nil=>rfl
theorem Vals.dropLast(h:Vals xs us):Vals xs.dropLast us.dropLast:=by
 induction h with
 |nil=>exact .nil|cons r t ih=>
  cases t with
  |nil=>exact .nil|cons q t'=>exact .cons r ih
theorem Vals.eraseIdx:∀{xs:List V}{us:List Value}(i:Nat),Vals xs us->Vals (xs.eraseIdx i) (us.eraseIdx i)
 |_,_,_,.nil=>.nil|_,_,0,.cons _ t=>t|_,_,i+1,.cons r t=>.cons r (Vals.eraseIdx i t)
theorem Vals.reverse(h:Vals xs us):Vals xs.reverse us.reverse:=by
 induction h with
 |nil=>exact .nil|cons r t ih=>rw[Ts,Ts];exact Vals.append ih (.cons r .nil)
theorem Vals.rep(h:Vals xs us):∀k:Nat,Vals (List.replicate k xs).flatten (List.replicate k us).flatten
 |0=>.nil|k+1=>by rw[UV,UV,Tv,Tv];exact Vals.append h (Vals.rep h k)
theorem NY(l:List α):l.eraseIdx (l.length-1)=l.dropLast:=by
 induction l with
 |nil=>rfl|cons a r ih=>
  cases r with
  |nil=>rfl|cons b r=>
   have e:(a::b::r).length-1=((b::r).length-1)+1:=by have h1:(a::b::r).length=r.length+2:=rfl;have h2:(b::r).length=r.length+1:=rfl;omega
   rw[e,List.eraseIdx_cons_succ,ih];all_goals rfl
theorem foldl_rep(its:List Value):∀(k:Nat)(acc:List Value),List.foldl (λx1 x2=>x1++x2) acc.toArray (List.replicate k its.toArray)=(acc++(List.replicate k its).flatten).toArray
 |0,acc=>by simp
 |k+1,acc=>by
  have e:acc.toArray++its.toArray=(acc++its).toArray:=by simp
  have e2:(acc++its)++(List.replicate k its).flatten=acc++(List.replicate (k+1) its).flatten:=by rw[UV,Tv,Wm]
  rw[<-e2,<-foldl_rep its k (acc++its),<-e,UV,List.foldl_cons]
theorem Inv.lset{its its':List Value}{n:Nat}{f:Array Value->Array Value}{t':Nat}(I:Inv X pins σ H s)(hH:H l=some (.lst xs))(e:s.heap.get? l=some {cls:=.type "list",data:=.seq its.toArray n})(hf:f its.toArray=its'.toArray)(hv:Vals ys its')(hz:ys.length<=sizeLine):
  Inv X pins σ (YD H l (.lst ys)) {s with heap:=s.heap.update l (Obj.mapSeq f),toks:=t'}:=by
 have q:=PySem.IsL.update e f;rw[hf]at q;refine I.write (x:=l) (e:=l) (by rw[hH];exact trivial) (.inl rfl) (λb' u hb hu=>(Th s.heap (Obj.mapSeq f) (Ne.symm hb)).trans hu) ⟨_,q⟩ ?_;exact⟨hz,its',_,hv,q⟩
theorem Inv.lnew(I:Inv X pins σ H s)(hv:Vals ys its)(hz:ys.length<=sizeLine):
  Inv X pins σ (YD H s.heap.objs.size (.lst ys)) {s with heap:=s.heap.push {cls:=.type "list",data:=.seq its.toArray},toks:=t'}:=I.laid (λ_ _ q=>Ug _ q) (Ui _) ⟨hz,its,0,hv,UA _ rfl⟩
theorem Inv.fresh(I:Inv X pins σ H s):H s.heap.objs.size=none:=I.hok.fresh (Ui _)
theorem Inv.lstM(I:Inv X pins σ H s)(hH:H l=some (.lst xs)):xs.length<=sizeLine/\∃(its:List Value)(n:Nat),Vals xs its/\xs.length=its.length/\s.heap.get? l=some {cls:=.type "list",data:=.seq its.toArray n}:=by obtain⟨z,its,n,r,e⟩:=I.hok l _ hH;exact⟨z,its,n,r,r.length,e⟩
theorem Mi(h:n<=sizeLine):Builtin.List.listTooLong n=false:=by unfold Builtin.List.listTooLong;exact Ul (by omega)
def dJ:V->List V->Hp->VK->Prop:=λx vs H Q=>∃l xs y,x=.ref l/\vs=[y]/\H l=some (.lst xs)/\xs.length<sizeLine/\Q .non (YD H l (.lst (xs++[y])))
theorem SI:oF X "list.append" dJ:=by intro pins s σ H x vs v us Q I rx rv h;obtain⟨l,xs,y,rfl,rfl,hH,hz,q⟩:=h;cases rx;obtain⟨u,rfl,ru⟩:=rv.one;obtain⟨z,its,n,r,hl,e⟩:=I.lstM hH;refine Rb F.slot_list_append ⟨_,e,rfl⟩ F.entry_list_append (F.args_list_append_2 _ _) (PySem.list_append l its.toArray n u (by rw[Ue];omega)) ⟨e,?_⟩;refine⟨.non,_,I.lset (its':=its++[u]) hH e (by simp) (r.append (.cons ru .nil)) ?_,rfl,q⟩;rw[Us,T4];omega
def Pa:V->List V->Hp->VK->Prop:=λx vs H Q=>∃l b xs zs,x=.ref l/\vs=[.ref b]/\H l=some (.lst xs)/\H b=some (.lst zs)/\xs.length+zs.length<=sizeLine/\Q .non (YD H l (.lst (xs++zs)))
theorem SJ:oF X "list.extend" Pa:=by
 intro pins s σ H x vs v us Q I rx rv h;obtain⟨l,b,xs,zs,rfl,rfl,hH,hB,hz,q⟩:=h;cases rx;obtain⟨u,rfl,ru⟩:=rv.one;cases ru;obtain⟨z,its,n,r,hl,e⟩:=I.lstM hH;obtain⟨z2,its2,n2,r2,hl2,e2⟩:=I.lstM hB;have hsz:its.toArray.size+its2.toArray.size<=sizeLine:=by rw[Ue,Ue];omega
 have hlong:¬(!its.toArray.isEmpty&&Builtin.List.listTooLong (its.toArray.size+its2.toArray.size))=true:=by rw[Mi hsz,Bool.and_false];exact Uf
 refine Rb F.slot_list_extend ⟨_,e,rfl⟩ F.entry_list_extend (F.args_list_extend_2 _ _)
  (AutoSeq1.list_extend_list_list_0 l its.toArray n b its2.toArray n2 hlong (by rw[Ue];omega) (by omega)) ⟨e,e2,?_⟩
 refine⟨.non,_,I.lset (its':=its++its2) hH e (by simp) (r.append r2) ?_,rfl,q⟩;rw[Us];omega
def tG:V->List V->Hp->VK->Prop:=λx vs H Q=>∃l xs y,x=.ref l/\vs=[]/\H l=some (.lst xs)/\xs[xs.length-1]?=some y/\Q y (YD H l (.lst xs.dropLast))
theorem kM:oF X "list.pop" tG:=by
 intro pins s σ H x vs v us Q I rx rv h;obtain⟨l,xs,y,rfl,rfl,hH,hy,q⟩:=h;cases rx;have hus:=rv.zero;subst hus;obtain⟨z,its,n,r,hl,e⟩:=I.lstM hH;obtain⟨u,hu,ru⟩:=r.get hy;have hy':its.toArray[its.toArray.size-1]?=some u:=by show its.toArray[its.length-1]?=some u;rw[<-Array.getElem?_toList,<-hl];exact hu
 refine Rb F.slot_list_pop ⟨_,e,rfl⟩ F.entry_list_pop (F.args_list_pop_1 _) (MeetsSeq.list_pop_last l its.toArray n u hy' (by rw[Ue];omega)) ⟨e,?_⟩;refine⟨y,_,I.lset (its':=its.dropLast) hH e ?_ r.dropLast ?_,ru,q⟩
 ·show its.toArray.eraseIdxIfInBounds (its.toArray.size-1)=its.dropLast.toArray;rw[Ue,List.eraseIdxIfInBounds_toArray,NY]
 ·rw[Bc];omega
def oG:R2:=λx y H Q=>∃l b xs zs,x=.ref l/\y=.ref b/\H l=some (.lst xs)/\H b=some (.lst zs)/\xs.length+zs.length<=sizeLine/\∀p,H p=none->Q (.ref p) (YD H p (.lst (xs++zs)))
theorem kN:OpR X (binaryOp .Add) oG:=by
 intro pins s σ H x y v u Q I rx ry h;obtain⟨l,b,xs,zs,rfl,rfl,hH,hB,hz,q⟩:=h;cases rx;cases ry;obtain⟨z,its,n,r,hl,e⟩:=I.lstM hH;obtain⟨z2,its2,n2,r2,hl2,e2⟩:=I.lstM hB;refine PySem.P.add_list e e2 ?_ (by rw[Ue,Ue];omega);have ea:its.toArray++its2.toArray=(its++its2).toArray:=by simp
 rw[ea];exact⟨.ref _,_,I.lnew (t':=s.toks) (r.append r2) (by rw[Us];omega),rfl,q _ I.fresh⟩
theorem dL(xs:List α)(k:Nat):(List.replicate k xs).flatten.length=k*xs.length:=by
 induction k with
 |zero=>simp|succ k ih=>rw[UV,Tv,Us,ih,Nat.succ_mul,Nat.add_comm]
end L2
namespace Att
open PySem PySem.W PySem.Calls PyProof.Rows
theorem FU  : ∀(ns:List Int)(vs:List Value),WellAll P h vs (ns.map WData.int)->IntsAre vs ns:=by
 intro ns;induction ns with
 |nil =>intro vs w;rw[List.map_nil]at w;cases w;exact .nil|cons n ns ih=>
  intro vs w;rw[UL]at w;cases w with
  |cons a b =>cases a;exact .cons _ _ (ih _ b)
theorem SK{l:OpenLaw}{n:Nat}(hn:l.most=some n){P:Params}{h:Heap}{args:List WData}{vals:List Value}(hpre:l.row.toRowW.claim.pre args=true)(hwl:WellAll P h vals args):
  ∃a vs ns,vals=[Value.ref a]/\args=[WData.list (ns.map WData.int)]/\h.get? a=some {cls:=.type "list",data:=.seq vs.toArray}/\IntsAre vs ns/\ns.length<=n:=by
 have hsh:WShape.hasAll [] args [.list .int]=true:=(pre_splitW hpre).1;have hc:l.pre.holds [] {args:=args}=true:=(pre_splitW hpre).2;obtain⟨d,r,rfl,h1,h2⟩:=hasAllW_cons hsh;obtain rfl:=hasAllW_nil h2;obtain⟨xs,rfl,h3⟩:=hasW_list h1;obtain⟨ns,rfl⟩:=items_int h3;have hlen:ns.length<=n:=by
  unfold OpenLaw.pre at hc;have h4:(WTm.not (.lt (.lit (.int (n:Int))) (.len (.arg 0)))).holds [] {args:=[.list (ns.map .int)]}=true:=by have h4:=(holds_andW hc).1;rw[hn]at h4;exact h4
  have h5:=condW_of h4 (w_not (w_lt w_lit (w_len_list (w_arg rfl))));rw[Ua]at h5;refine TX λq=>?_;have q':(n:Int)<((ns.length:Nat):Int):=by omega
  first
   | (rw[Uo q']at h5;exact absurd h5 (by decide))
   | (simp at h5;omega)
 cases hwl with
 |cons w1 w2=>
  cases w2;cases w1 with
  |list ho hall=>exact⟨_,_,ns,rfl,rfl,ho,FU ns _ hall,hlen⟩
theorem SL(l:OpenLaw)(args:List WData):l.row.toRowW.claim.post args (.bool true) args=true:=postW_of (r:=l.row.toRowW) (X:=(true==true))
  (show WShape.has [] (.bool true) .bool=true by first|rfl|decide|simp[WShape.has,WShape.arms,WShape.armsAll])
  (show(WTm.eq .res (.lit (.bool true))).value [] {args:=args,res:=some (.bool true),after:=args}=some (.bool (true==true)) from w_eq_bool (w_res rfl) w_lit) rfl
theorem attach_call{l:OpenLaw}{n:Nat}{q:Program}{loose:List Str}{XP:VX->Heap->Prop}{YP:World->Heap->Prop}{d:DefRec}(hn:l.most=some n)(hdf:d.params.defaults=[])(call:∀(w:World) (s₀ s₁:Shared) (mg mb:VX) (fa:Addr) (o:Obj) (pm cd doc:Value) (a:Addr) (vs:List Value) (ns:List Int),Ground q loose [] XP w s₀ mg mb s₁.heap->YP w s₁.heap->s₁.heap.get? fa=some o->o.data=.func (docDef d.name d.params d.body d.scope pm cd doc)->s₁.heap.CodeRec cd d.name->mg d.name=some (.ref fa)->s₁.heap.get? a=some {cls:=.type "list",data:=.seq vs.toArray}->IntsAre vs ns->ns.length<=n->s₁.gens = #[]->codeAny (model l.prog w) callerA (.call (.ref fa) ⟨[.ref a],[]⟩) (λr s'=>r=.ok (.ret (.bool true))/\OldK s₁.heap s'.heap/\s'.os=s₁.os/\AllBare s'.gens) s₁):
  WalkO q loose XP YP l.row.toRowW d [] (λf vs=>PySem.call f vs):=by
 intro w s₀ s₁ mg mb G Y fa o pm cd doc dV kV ho hd hcd hD hmg hg args vals as hpre hlay hrd hwl hlo;obtain rfl:dV=.none:=Dflts.none hD hdf;obtain rfl:kV=.none:=Dflts.noKw hD;obtain⟨a,vs,ns,rfl,rfl,hobj,hints,hlen⟩:=SK hn hpre hwl;refine enter_call (WM (call w s₀ s₁ mg mb fa o pm cd doc a vs ns G Y ho (fd_plain hd) hcd hmg hobj hints hlen hg) λr s' hq=>?_);obtain⟨rfl,h2,h3,h4⟩:=hq;exact⟨.inl ⟨.bool true,.bool true,[],rfl,λ_=>rfl,.bool true,SL l _,λ_=>⟨List.Pairwise.nil,λ_ hm=>(nomatch hm)⟩⟩,h2,h3,h4⟩
end Att
namespace L2
open PySem PySem.Spec PyProof.Rows
theorem IA:∀{vs:List Value}{ns:List Int},IntsAre vs ns->Vals (ns.map V.int) vs
 |_,_,.nil=>.nil|_,_,.cons n t h=>.cons ⟨t,rfl⟩ (IA h)
def dM(H:Hp):Prop:=∀b,H b=none\/∃o xs,H b=some (.frz o (.lst xs))
theorem Dl{P:Program}{w:World}{K:Frag}{mg mb:VX}{CX:Df}{k:Nat}{fa a:Addr}{fd:FuncData}{x:Str}{sp:Sp}{s₁:Shared}{vs:List Value}{ns:List Int}(KX:K.In s₁.heap)(hns:s₁.heap.Ns mainGlobals mg)(hb:s₁.heap.Ns builtinsNs mb)(hbb:∀x:Str,x ≠"__name__"->mb x=bootBuiltins x)(hlim:s₁.heap.NoLimit)(hg:s₁.gens = #[])(ha:s₁.heap.get? a=some {cls:=.type "list",data:=.seq vs.toArray})(hi:IntsAre vs ns)(hl:ns.length<=sizeLine)(hr:Room k callerA)(F:∀base:Heap,K.In base->base.Ns mainGlobals mg->FnOk P w K mg base CX k fa fd [x] sp)(hbind:∀(s:Shared) (u:Value),BindsTo s fd ⟨[u],[]⟩ [(x,u)])(hsp:∀H:Hp,dM H->SqL K H a (ns.map V.int)->sp [.ref a] H (λv _=>v=.bl true) λ_ _ _=>False)(hCX:∀H e s',CX [] H s₁ (λ_ _ _=>False) e s'->False):
  codeAny (model P w) callerA (.call (.ref fa) ⟨[.ref a],[]⟩) (λr s'=>r=.ok (.ret (.bool true))/\OldK s₁.heap s'.heap/\s'.os=s₁.os/\AllBare s'.gens) s₁:=by
 have rv:=IA hi;have lenV:=hi.length
 -- from an abstract heap in which nothing but the script may be tracked
 have core:∀H:Hp,dM H->SqL K H a (ns.map V.int)->HOk P w H s₁.heap->(∀b,H b≠none->b=a)->(H a≠none->K.lookup a=none)->codeAny (model P w) callerA (.call (.ref fa) ⟨[.ref a],[]⟩) (λr s'=>r=.ok (.ret (.bool true))/\OldK s₁.heap s'.heap/\s'.os=s₁.os/\AllBare s'.gens) s₁:=by
  intro H hO hS hok hA hK;have base_of:∀{b:Addr}{o:Obj},s₁.heap.get? b=some o->H b=none->(La s₁.heap H).get? b=some o:=λe n=>A1 e n;have noA:∀{b:Addr}{o:Obj}{es:Array DictEntry}{ep:Nat},s₁.heap.get? b=some o->o.data=.dict es ep->H b=none:=λ{b o es ep} e d=>by
   cases q:H b with
   |none=>rfl|some u =>have e':b=a:=hA b (by rw[q];simp);subst e';rw[ha]at e;cases e;have d':Data.seq vs.toArray _=Data.dict es ep:=d;cases d'
  have nsK:∀{b:Addr}{m:VX},s₁.heap.Ns b m->(La s₁.heap H).Ns b m:=λ{b m} ⟨o,es,ep,e,d,r⟩=>⟨o,es,ep,base_of e (noA e d),d,r⟩;have hKb:K.In (La s₁.heap H):=λb o e=>base_of (KX b o e) (by
   cases q:H b with
   |none=>rfl|some u =>have e':b=a:=hA b (by rw[q];simp);subst e';rw[hK (by rw[q];simp)]at e;cases e)
  have hM:Mod K mg (La s₁.heap H):=⟨hKb,nsK hns,⟨mb,nsK hb,hbb⟩,let ⟨mc,h1,h2⟩:=hlim;⟨mc,nsK h1,h2⟩⟩;have e0:Env0 P w K mg (La s₁.heap H) callerA [] s₁ H:=⟨rfl,hM,λb o e=>cN e,Nat.le_of_eq (Sw _ _),trivial,λb hb=>absurd (show b∈([]:List Addr) from hb) (by simp),hok,.of_eq hg⟩;refine WM ((F _ hKb (nsK hns)).run callerA [] s₁ H ⟨[.ref a],[]⟩ [.ref a] [.ref a] _ _ hr e0 (hbind s₁ (.ref a)) (.cons rfl .nil) (hsp H hO hS)) λr s' h=>?_;cases r with
  |error e=>exact(hCX H e s' h).elim|ok fl=>
   cases fl with
   |next=>exact False.elim h|brk=>exact False.elim h|cont=>exact False.elim h|ret u=>
    obtain⟨v,H',os,bare,un,hok',r',q⟩:=h;have q':v=.bl true:=q;subst q';obtain rfl:u=Value.bool true:=r';refine⟨rfl,OldK.of_keep λb o e=>?_,os,bare⟩;cases q:H b with
    |none=>exact un.keep b o e q (by intro z;exact absurd (show b∈([]:List Addr) from z) (by simp)) (by simp)|some u=>
     rcases hO b with z|⟨ob,xs,z⟩
     ·rw[q]at z;cases z
     ·have z2:=un.frzs b ob _ z;obtain⟨e1,_⟩:=hok b _ z;obtain⟨e2,_⟩:=hok' b _ z2;rw[e]at e1;cases e1;exact e2
 cases hk:K.lookup a with
 |some o=>
  -- the script is one of the module's own objects
  have e:=KX a o hk;rw[ha]at e;cases e;refine core (λ_=>none) (λ_=>.inl rfl) (.inr ⟨_,vs.toArray,_,hk,rfl,rfl,rfl,by rw[Ue,lenV];exact hl,by simpa using rv⟩) (λb u z=>by have z':(none:Option HO)=some u:=z;cases z') (λb z=>absurd rfl z) λz=>absurd rfl z
 |none=>
  refine core (λb=>if b=a then some (.frz {cls:=.type "list",data:=.seq vs.toArray} (.lst (ns.map V.int))) else none) (λb=>?_) (.inl (.inr ⟨{cls:=.type "list",data:=.seq vs.toArray},Ub rfl⟩)) (λb u z=>?_) (λb z=>?_) λ_=>hk
  ·by_cases hb:b=a
   ·exact .inr ⟨_,_,Ub hb⟩
   ·exact .inl (Ud hb)
  ·by_cases hb:b=a
   ·have z':=(Ub hb).symm.trans z;cases z';subst hb;exact⟨ha,by rw[Ua];exact hl,vs,_,rv,ha⟩
   ·have z':=(Ud hb).symm.trans z;cases z'
  ·by_cases hb:b=a
   ·exact hb
   ·exact absurd (Ud hb) z
theorem walk_of{l:PySem.W.OpenLaw}{n k:Nat}{q:Program}{loose:List Str}{XP:VX->Heap->Prop}{YP:World->Heap->Prop}{d:DefRec}{K:Params->Frag}{CX:World->Df}{sp:World->Sp}{x:Str}(hn:l.most=some n)(hn2:n<=sizeLine)(hdf:d.params.defaults=[])(hr:Room k callerA)(hY:∀(w:World) (h:Heap),YP w h->(K w.params).In h)(F:∀(w:World) (mg:VX) (fa:Addr) (h:Heap),(K w.params).In h->h.Ns mainGlobals mg->mg d.name=some (.ref fa)->∃fd:FuncData,(∀(s:Shared) (u:Value),BindsTo s fd ⟨[u],[]⟩ [(x,u)])/\∀base:Heap,(K w.params).In base->base.Ns mainGlobals mg->FnOk l.prog w (K w.params) mg base (CX w) k fa fd [x] (sp w))(hsp:∀(w:World) (H:Hp) (a:Addr) (ns:List Int),ns.length<=n->dM H->SqL (K w.params) H a (ns.map V.int)->sp w [.ref a] H (λv _=>v=.bl true) λ_ _ _=>False)(hCX:∀(w:World) (H:Hp) (s:Shared) (e:Value) (s':Shared),CX w [] H s (λ_ _ _=>False) e s'->False):
  PySem.W.WalkO q loose XP YP l.row.toRowW d [] (λf vs=>PySem.call f vs):=by
 refine Att.attach_call hn hdf λw s₀ s₁ mg mb fa o pm cd doc a vs ns G Y ho hd hcd hmg hobj hints hlen hg=>?_;have KX:=hY w _ Y;obtain⟨fd,hb,hF⟩:=F w mg fa _ KX G.T.g hmg;exact Dl KX G.T.g G.T.b G.T.builtins G.T.nolimit hg hobj hints (Um hlen hn2) hr hF hb (λH hO hS=>hsp w H a ns hlen hO hS) λH e s'=>hCX w H s₁ e s'
def Xy(s:Stmt)(j:Nat):Stmt:=match s with
 |.ClassDef _ _ _ body _ _ _ _ _ _ _=>body.getD j (.Pass ⟨0,0,0,0⟩)|_=>.Pass ⟨0,0,0,0⟩
def Yk(s:Stmt):Arguments:=match s with
 |.FunctionDef _ a _ _ _ _ _ _ _ _=>a|_=>{posonlyargs:=[],args:=[],vararg:=none,kwonlyargs:=[],kw_defaults:=[],kwarg:=none,defaults:=[]}
def ZZ(s:Stmt):List Stmt:=match s with
 |.FunctionDef _ _ b _ _ _ _ _ _ _=>b|_=>[]
def Qk(s:Stmt):Scope:=match s with
 |.FunctionDef _ _ _ _ _ _ sc _ _ _=>sc|_=>{kind:=.function,names:=[],isGenerator:=false,isCoroutine:=false}
abbrev vO:Df:=λ_ _ _ _ _ _=>False
structure Fun(K:Frag)(x qual:Str)(st:Stmt)(f:Addr)(fd:FuncData):Prop where
 ex:∃(oc:Value)(od:Option Addr)(kV doc pm:Value)(an:Option Addr)(cdv ct:Value)(osl:Array (Option Value)),fd=fnOf x qual (Yk st) (ZZ st) (Qk st) .none kV doc pm an cdv ct/\K.lookup f=some ⟨oc,od,.func fd,osl⟩/\codeIn K cdv qual=true
 kp:keepIn K (.ref f)=true
section
variable{P:Program}{w:World}{K:Frag}{mg:VX}{base:Heap}
theorem Fun.ok{x qual:Str}{st:Stmt}{f:Addr}{fd:FuncData}{N ps:List Str}{k:Nat}{sp:Sp}(F:Fun K x qual st f fd)(S:FnScope N ps (Qk st))(len:∀vs H Q E,sp vs H Q E->vs.length=ps.length)(hbody:∀(cdv:Value) (A:Around) (outer:List Env) (s:Shared) (H:Hp) (vs:List V) (Q:VK) (E:XK),Room k (A.deeper (envOfC qual (Qk st) s.heap.objs.size f cdv))->sp vs H Q E->∃t,PSs (ER vO P w K mg base N qual (Qk st) f cdv A outer s H E).nox (ZZ st) t/\t {nx:=λ_ H'=>Q .non H',rt:=Q} (start N vs) H):FnOk P w K mg base vO (k+1) f fd ps sp:=by
 obtain⟨oc,od,kV,doc,pm,an,cdv,ct,osl,rfl,lk,hcd⟩:=F.ex;refine hZ lk hcd S len λA outer s H vs Q E hr hsp=>?_;obtain⟨t,h,q⟩:=hbody cdv A outer s H vs Q E hr hsp;exact⟨t,h.nox,q⟩
theorem Fun.binds{x qual:Str}{st:Stmt}{f:Addr}{fd:FuncData}{ps:List Str}(F:Fun K x qual st f fd)(h:∀(kV doc pm:Value) (an:Option Addr) (cdv ct:Value) (us:List Value),us.length=ps.length->bindArgs (fnOf x qual (Yk st) (ZZ st) (Qk st) .none kV doc pm an cdv ct) ⟨us,[]⟩=pure (ps.zip us)):Binds K fd ps []:=by obtain⟨oc,od,kV,doc,pm,an,cdv,ct,osl,rfl,lk,hcd⟩:=F.ex;exact .all (h kV doc pm an cdv ct)
theorem Vk{x qual:Str}{st:Stmt}{f:Addr}{oc:Value}{od an:Option Addr}{osl:Array (Option Value)}{kV doc pm cdv ct:Value}(l:K.lookup f=some ⟨oc,od,.func (fnOf x qual (Yk st) (ZZ st) (Qk st) .none kV doc pm an cdv ct),osl⟩)(c:codeIn K cdv qual=true)(k:keepIn K (.ref f)=true):Fun K x qual st f (fnOf x qual (Yk st) (ZZ st) (Qk st) .none kV doc pm an cdv ct):=⟨⟨oc,od,kV,doc,pm,an,cdv,ct,osl,rfl,l,c⟩,k⟩
end
def Same(H H':Hp):Prop:=∀b o,H b=some o->H' b=some o
theorem Same.refl(H:Hp):Same H H:=λ_ _ h=>h
theorem Same.trans(a:Same H H1)(b:Same H1 H2):Same H H2:=λc o h=>b c o (a c o h)
theorem Same.free(e:Same H H')(h:H' l=Option.none):H l=Option.none:=by
 cases q:H l with
 |none=>rfl|some o =>rw[e l o q]at h;cases h
theorem Same.seq{K:Frag}{H H':Hp}{a:Addr}{xs:List V}(e:Same H H')(h:SqL K H a xs):SqL K H' a xs:=by
 rcases h with(h|⟨o,h⟩)|h
 ·exact .inl (.inl (e _ _ h))
 ·exact .inl (.inr ⟨o,e _ _ h⟩)
 ·exact .inr h
end L2
set_option maxHeartbeats 4000000
namespace HT
open PySem PySem.Spec PyProof.Rows
set_option maxRecDepth 100000
theorem ES:fillsNumberSlot (.type "tuple") "mul"=pure false:=PySem.fillsNumberSlot_seq (id:="tuple.__mul__") (r:=some (.builtin "tuple.__rmul__")) Rc.lookup (by decide +kernel) F.slot_tuple_rmul.lookup (by decide +kernel)
theorem Li:seqRepeat? (.type "tuple")=pure (some (.builtin "tuple.__mul__")):=by unfold seqRepeat?;rw[PySem.seqSlot_of (T:="tuple") (name:="__mul__") (id:="tuple.__mul__") Rc.lookup (by decide +kernel),PySem.seqSlot_of (T:="tuple") (name:="__rmul__") (id:="tuple.__rmul__") F.slot_tuple_rmul.lookup (by decide +kernel)];rfl
theorem Gq(a:Int)(t:Tok)(l:Addr)(items:Array Value)(n:Nat)(dd:Option Addr)(sl):
  Meets (Builtin.«int.__rmul__» ⟨[.int a t,.ref l],[]⟩) (λ_ R s=>s.heap.get? l=some {cls:=.type "tuple",dict:=dd,data:=.seq items n,slots:=sl}/\R (.ok (.ret Value.notImplemented)) s):=
 .of_wp λprog w A R s h=>by obtain⟨hp,g,d,tk,os⟩:=s;obtain⟨hl,h⟩:=h;wp_walk;exact⟨_,rfl,h⟩
theorem NZ(l:Addr)(items:Array Value)(n:Nat)(dd:Option Addr)(sl)(k:Int)(t:Tok)(hi:¬items.isEmpty=true)(h1:¬(k==1)=true)(h0:0<k)(hk:k<2^63)(hz:items.size*k.toNat<=sizeLine):
  Meets (Builtin.«tuple.__mul__» ⟨[.ref l,.int k t],[]⟩) (λ_ R s=>s.heap.get? l=some {cls:=.type "tuple",dict:=dd,data:=.seq items n,slots:=sl}/\R (.ok (.ret (Value.ref s.heap.objs.size))) {s with heap:=s.heap.push {cls:=Value.type "tuple",data:=Data.seq (List.foldl (λx1 x2=>x1++x2) #[] (List.replicate k.toNat items))},toks:=s.toks}):=
 .of_wp λprog w A R s h=>by
  obtain⟨hp,g,d,tk,os⟩:=s;obtain⟨hl,h⟩:=h;have f1:=RJ;have hz':(items.size:Int)*k<=(sizeLine:Int):=by
   have e:((items.size*k.toNat:Nat):Int)=(items.size:Int)*k:=by rw[Int.natCast_mul,Rf (by omega)]
   omega
  have hl':((sizeLine:Nat):Int)<=(2^63-1) / 8:=by decide
  have hi':items.isEmpty=false:=by cases h:items.isEmpty<;>simp_all
  have h1':(k==1)=false:=by cases h:(k==1)<;>simp_all
  have hc0:¬(decide (k < -2^63)||decide (k>=2^63))=true:=by rw[Ul (p:=k < -2^63) (by omega),Ul (p:=k>=2^63) (by omega)];exact Uf
  have hc1:¬(items.isEmpty||k==1)=true:=by rw[hi',h1'];exact Uf
  have hc2:¬(decide (k<=0)||items.isEmpty)=true:=by rw[hi',Ul (p:=k<=0) (by omega)];exact Uf
  have hc3:¬(items.size:Int)*k>(2^63-1) / 8:=by omega
  have hc4:¬Builtin.Tuple.tupleTooMany (items.size*k)=true:=by unfold Builtin.Tuple.tupleTooMany;rw[Ul (p:=(items.size:Int)*k>(sizeLine:Int)) (by omega)];exact Uf
  have hsz:(List.foldl (λx1 x2=>x1++x2) #[] (List.replicate k.toNat items)).size<=sizeLine:=by
   have e:∀(m:Nat)(a:Array Value),(List.foldl (λx1 x2=>x1++x2) a (List.replicate m items)).size=a.size+items.size*m:=λm=>by
    induction m with
    |zero=>intro a;simp|succ m ih=>intro a;rw[UV,List.foldl_cons,ih,Array.size_append,Nat.mul_succ];omega
   rw[e];simp;exact hz
  wp_walk
  refine WO (Ul hc0) ?_
  wp_walk using wpAny_loadPart' hl
  refine WO (Ul hc3) ?_
  wp_walk
  exact⟨_,rfl,h⟩
theorem N1(l:Addr)(items:Array Value)(n:Nat)(dd:Option Addr)(sl)(k:Int)(t:Tok)(h1:(items.isEmpty||k==1)=true)(h0:0<=k)(hk:k<2^63):
  Meets (Builtin.«tuple.__mul__» ⟨[.ref l,.int k t],[]⟩) (λ_ R s=>s.heap.get? l=some {cls:=.type "tuple",dict:=dd,data:=.seq items n,slots:=sl}/\R (.ok (.ret (Value.ref l))) {s with heap:=s.heap,toks:=s.toks}):=
 .of_wp λprog w A R s h=>by
  obtain⟨hp,g,d,tk,os⟩:=s;obtain⟨hl,h⟩:=h;have f1:=RJ;have hc0:¬(decide (k < -2^63)||decide (k>=2^63))=true:=by rw[Ul (p:=k < -2^63) (by omega),Ul (p:=k>=2^63) (by omega)];exact Uf
  wp_walk
  refine WO (Ul hc0) ?_
  wp_walk using wpAny_loadPart' hl
  exact⟨_,rfl,h⟩
theorem N2(l:Addr)(items:Array Value)(n:Nat)(dd:Option Addr)(sl)(t:Tok)(hi:¬items.isEmpty=true):
  Meets (Builtin.«tuple.__mul__» ⟨[.ref l,.int 0 t],[]⟩) (λ_ R s=>s.heap.get? l=some {cls:=.type "tuple",dict:=dd,data:=.seq items n,slots:=sl}/\R (.ok (.ret (Value.ref s.heap.objs.size))) {s with heap:=s.heap.push {cls:=Value.type "tuple",data:=Data.seq #[]},toks:=s.toks}):=
 .of_wp λprog w A R s h=>by
  obtain⟨hp,g,d,tk,os⟩:=s;obtain⟨hl,h⟩:=h;have f1:=RJ;have hi':items.isEmpty=false:=by cases h:items.isEmpty<;>simp_all
  have hc1:¬(items.isEmpty||(0:Int)==1)=true:=by rw[hi'];exact Uf
  wp_walk using wpAny_loadPart' hl
  exact⟨_,rfl,h⟩
section
variable{prog:Program}{w:World}{A:Around}{E:VP}{s:Shared}
theorem rep_tup{l:Addr}{its:List Value}{k:Int}{t:Tok}{Q:VP}(ht:IsTup s.heap l its.toArray)(h0:0<=k)(hk:k<2^63)(hz:its.length*k.toNat<=sizeLine)(h1:its=[]\/k=1->Q (.ref l) s)(h2:its≠[]->k≠1->Q (.ref s.heap.objs.size) {s with heap:=s.heap.push {cls:=.type "tuple",data:=.seq (List.replicate k.toNat its).flatten.toArray} }):wpAny (model prog w) A (binaryOp .Mult (.ref l) (.int k t)) Q E s:=by
 obtain⟨⟨cls,dd,data,sl⟩,ho,hc,n,hd⟩:=id ht;simp only at hc hd;subst hc hd;refine wpAny_binaryOp_repeat_ref (T:="tuple") (U:="int") (by decide) ⟨_,ho,rfl⟩ (λs'=>typeIs_int s' k t) ES F.fills_int_mul F.slot_int_rmul Li F.slot_int_index.lookup
  (Rb F.slot_int_rmul (typeIs_int s k t) F.entry_int_rmul (F.args_int_rmul_2 _ _) (Gq k t l its.toArray n dd sl) ⟨ho,rfl,⟨_,ho,rfl⟩,?_⟩)
 by_cases hc:its=[]\/k=1
 ·refine Rb Rc ⟨_,ho,rfl⟩ Wn (Wd _ _) (N1 l its.toArray n dd sl k t ?_ h0 hk) ⟨ho,h1 hc⟩;rcases hc with rfl|rfl
  ·rfl
  ·simp
 ·have hi:its≠[]:=λz=>hc (.inl z);have h3:k≠1:=λz=>hc (.inr z);have hia:¬its.toArray.isEmpty=true:=by simpa using hi
  have f0:∀m:Nat,List.foldl (λx1 x2=>x1++x2) #[] (List.replicate m its.toArray)=(List.replicate m its).flatten.toArray:=λm=>by have:=L2.foldl_rep its m [];rw[List.nil_append]at this;exact this
  by_cases hk0:k=0
  ·subst hk0;exact Rb Rc ⟨_,ho,rfl⟩ Wn (Wd _ _) (N2 l its.toArray n dd sl t hia) ⟨ho,h2 hi h3⟩
  ·refine Rb Rc ⟨_,ho,rfl⟩ Wn (Wd _ _) (NZ l its.toArray n dd sl k t hia (by simpa using h3) (by omega) hk (by rw[Ue];exact hz)) ⟨ho,?_⟩;rw[f0];exact h2 hi h3
end
end HT
namespace L2
open PySem PySem.Spec PyProof.Rows
section
variable{X:Cx}
def iB(K:Frag):R2:=λx y H Q=>∃a k xs,x=.ref a/\y=.int k/\SqT K H a xs/\0<=k/\k<2^63/\xs.length*k.toNat<=sizeLine/\(xs=[]\/k=1->Q (.ref a) H)/\(xs≠[]->k≠1->∀p,H p=none->Q (.ref p) (YD H p (.tup (List.replicate k.toNat xs).flatten)))
theorem dN:OpR X (binaryOp .Mult) (iB X.K):=by intro pins s σ H x y v u Q I rx ry h;obtain⟨a,k,xs,rfl,rfl,ha,h0,hk,hz,q1,q2⟩:=h;cases rx;obtain⟨t,rfl⟩:=ry;obtain⟨its,r1,p1,_⟩:=I.tuple ha;refine HT.rep_tup p1 h0 hk (by rw[<-r1.length];exact hz) (λz=>⟨.ref a,H,I,rfl,q1 (z.imp r1.nil_iff.mp id)⟩) (λz z2=>?_);refine⟨.ref s.heap.objs.size,_,I.laid (t':=s.toks) (o:=.tup (List.replicate k.toNat xs).flatten) (λb ob q=>Ug _ q) (Ui _) ?_,rfl,q2 (λw=>z (r1.nil_iff.mpr w)) z2 _ (I.hok.fresh (Ui _))⟩;exact⟨by rw[dL,Nat.mul_comm];exact hz,_,r1.rep k.toNat,IsTup.new _ _⟩
end
end L2
namespace HT
open PySem PySem.Spec PyProof.Rows
set_option maxRecDepth 100000
theorem list_extendT(l:Addr)(items:Array Value)(n:Nat)(b:Addr)(items2:Array Value)(n2:Nat)(dd:Option Addr)(sl)(hs0:¬(!items.isEmpty&&Builtin.List.listTooLong (items.size+items2.size))=true)(hs1:items.size<=sizeLine)(hs2:items.size+items2.size<=sizeLine+1):
  Meets (Builtin.«list.extend» ⟨[.ref l,.ref b],[]⟩) (λ_ R s=>s.heap.get? l=some {cls:=.type "list",dict:=none,data:=.seq items n,slots:=#[]}/\s.heap.get? b=some {cls:=.type "tuple",dict:=dd,data:=.seq items2 n2,slots:=sl}/\R (.ok (.ret Value.none)) {s with heap:=s.heap.update l (Obj.mapSeq λx=>x++items2),toks:=s.toks}):=
 .of_wp λprog w A R s h=>by
  obtain⟨hp,g,d,tk,os⟩:=s;obtain⟨hl,hb,h⟩:=h;have f1:=RJ;have f2:=AutoSeq1.sub_tuple_tuple;have f3:=AutoSeq1.sub_list_list;have f4:=AutoSeq1.sub_tuple_list;have f5:=AutoSeq1.sub_list_tuple;have hz':(items++items2).size<=sizeLine+1:=by rw[Array.size_append];exact hs2
  wp_walk using (wpAny_updateSeq hl rfl (hz:=hs1) (_hz':=hz')),wpAny_loadPart' hl,wpAny_loadPart' hb
  exact⟨_,rfl,h⟩
end HT
namespace L2
open PySem PySem.Spec PyProof.Rows
section
variable{X:Cx}
def Mj(K:Frag):V->List V->Hp->VK->Prop:=λx vs H Q=>∃l b xs zs,x=.ref l/\vs=[.ref b]/\H l=some (.lst xs)/\SqT K H b zs/\xs.length+zs.length<=sizeLine/\Q .non (YD H l (.lst (xs++zs)))
theorem N3:oF X "list.extend" (Mj X.K):=by
 intro pins s σ H x vs v us Q I rx rv h;obtain⟨l,b,xs,zs,rfl,rfl,hH,hB,hz,q⟩:=h;cases rx;obtain⟨u,rfl,ru⟩:=rv.one;cases ru;obtain⟨z,its,n,r,hl,e⟩:=I.lstM hH;obtain⟨its2,r2,p2,_⟩:=I.tuple hB;obtain⟨⟨cls,dd,data,sl⟩,ho,hc,n2,hd⟩:=id p2;simp only at hc hd;subst hc hd;have hl2:=r2.length;have hsz:its.toArray.size+its2.toArray.size<=sizeLine:=by rw[Ue,Ue];omega
 have hlong:¬(!its.toArray.isEmpty&&Builtin.List.listTooLong (its.toArray.size+its2.toArray.size))=true:=by rw[Mi hsz,Bool.and_false];exact Uf
 refine Rb F.slot_list_extend ⟨_,e,rfl⟩ F.entry_list_extend (F.args_list_extend_2 _ _)
  (HT.list_extendT l its.toArray n b its2.toArray n2 dd sl hlong (by rw[Ue];omega) (by omega)) ⟨e,ho,?_⟩
 refine⟨.non,_,I.lset (its':=its++its2) hH e (by simp) (r.append r2) ?_,rfl,q⟩;rw[Us];omega
theorem N4:oF X "list.extend" (λx vs H Q=>Pa x vs H Q\/Mj X.K x vs H Q):=by
 intro pins s σ H x vs v us Q I rx rv h;rcases h with h|h
 ·exact SJ pins s σ H x vs v us Q I rx rv h
 ·exact N3 pins s σ H x vs v us Q I rx rv h
end
end L2
namespace L3
open PySem
abbrev Xc:=Nat×Option Nat
inductive D where
 |non|bl (b:Bool)|int (i:Int)|str (s:Str)|ref (n:Nat)|tup (ds:List D)|fl (ds:List D)
inductive GO where
 |lst (ds:List D)|ins (c:Nat) (fs:List (Str×D))|dct (kvs:List (Sum Int Str×D))|exc (x:Xc)|dfz (kvs:List (Sum Int Str×D))
abbrev G:=List GO
abbrev S3:=List (Option D)
inductive Res(α:Type) where
 |ok (a:α) (g:G)|raise (x:Xc) (g:G)|stuck
def Res.bind{α β:Type}:Res α->(α->G->Res β)->Res β
 |.ok a g,k=>k a g|.raise e g,_=>.raise e g|.stuck,_=>.stuck
inductive Out where
 |nx (σ:S3) (g:G)|rt (d:D) (g:G)|bk (σ:S3) (g:G)|ct (σ:S3) (g:G)|raise (x:Xc) (σ:S3) (g:G)|stuck
abbrev ME:=S3->G->Res D
abbrev MT:=S3->G->Res Bool
abbrev MA:=S3->G->Res (List D)
abbrev MS:=S3->G->Out
abbrev MF:=List D->G->Res D
theorem Res.bind_ok{α β:Type}(a:α)(g:G)(k:α->G->Res β):(Res.ok a g).bind k=k a g:=rfl
def SZ:Nat:=1000000
noncomputable def Qa(i:Nat):ME:=λσ g=>match σ[i]? with
 |some (some d)=>.ok d g|_=>.stuck
noncomputable def Qp(d:D):ME:=λ_ g=>.ok d g
abbrev mI(i:Int):ME:=Qp (.int i)
noncomputable def Qu(f:D->G->Res D)(a:ME):ME:=λσ g=>(a σ g).bind f
noncomputable def Qd(f:D->D->G->Res D)(a b:ME):ME:=λσ g=>(a σ g).bind λx g1=>(b σ g1).bind λy g2=>f x y g2
noncomputable def Ql:MA:=λ_ g=>.ok [] g
noncomputable def Qc(a:ME)(r:MA):MA:=λσ g=>(a σ g).bind λx g1=>(r σ g1).bind λxs g2=>.ok (x::xs) g2
noncomputable def QA(f:List D->G->Res D)(a:MA):ME:=λσ g=>(a σ g).bind f
noncomputable def Qn(a:ME):MT:=λσ g=>(a σ g).bind λd g1=>match d with
 |.bl b=>.ok b g1|_=>.stuck
noncomputable def Yq(a:MT):MT:=λσ g=>(a σ g).bind λb g1=>.ok (!b) g1
noncomputable def JR(a b:MT):MT:=λσ g=>(a σ g).bind λc g1=>if c=true then b σ g1 else .ok false g1
noncomputable def Ko(a b:MT):MT:=λσ g=>(a σ g).bind λc g1=>if c=true then .ok true g1 else b σ g1
noncomputable def oH(a:ME):ME:=λσ g=>(a σ g).bind λd g1=>match d with
 |.bl b=>.ok (.bl (!b)) g1|_=>.stuck
noncomputable def Jt(a b:ME):ME:=λσ g=>(a σ g).bind λd g1=>match d with
 |.bl c=>if c=true then b σ g1 else .ok (.bl false) g1
 |_=>.stuck
noncomputable def Xn(c:MT)(a b:ME):ME:=λσ g=>(c σ g).bind λt g1=>if t=true then a σ g1 else b σ g1
noncomputable def ET(f f':D->D->G->Res D)(a b c:ME):ME:=λσ g=>(a σ g).bind λx g1=>(b σ g1).bind λy g2=>(f x y g2).bind λz g3=>match z with
 |.bl true=>(c σ g3).bind λw g4=>f' y w g4
 |.bl false=>.ok (.bl false) g3|_=>.stuck
noncomputable def QI:MS:=λσ g=>.nx σ g
noncomputable def Qq(a b:MS):MS:=λσ g=>match a σ g with
 |.nx σ' g'=>b σ' g'|o=>o
noncomputable def Zf(a:ME):MS:=λσ g=>match a σ g with
 |.ok _ g'=>.nx σ g'|.raise e g'=>.raise e σ g'|.stuck=>.stuck
noncomputable def QU(a:ME):MS:=λσ g=>match a σ g with
 |.ok d g'=>.rt d g'|.raise e g'=>.raise e σ g'|.stuck=>.stuck
noncomputable def Dm:MS:=λ_ g=>.rt .non g
noncomputable def Ye(c:MT)(a b:MS):MS:=λσ g=>match c σ g with
 |.ok t g'=>if t=true then a σ g' else b σ g'
 |.raise e g'=>.raise e σ g'|.stuck=>.stuck
noncomputable def Zy(c:Nat)(a:MA):MS:=λσ g=>match a σ g with
 |.ok ds g'=>if ds.length<=SZ then .raise (c,none) σ g' else .stuck
 |.raise e g'=>.raise e σ g'|.stuck=>.stuck
structure MH where
 cs:List Nat
 no:List Nat
 nm:Option Nat
 suite:MS
def kO(i:Nat):Out->Out
 |.nx σ g=>.nx (σ.set i none) g|.rt d g=>.rt d g|_=>.stuck
def Dn:List MH->Xc->S3->G->Out
 |[],x,σ,g=>.raise x σ g|h::r,x,σ,g=>if x.1∈h.cs then (match h.nm with
  |none=>(match h.suite σ g with
   |.nx σ' g'=>.nx σ' g'|.rt d g'=>.rt d g'|_=>.stuck)
  |some i=>kO i (h.suite (σ.set i (some (.ref g.length))) (g++[.exc x]))) else if x.1∈h.no then Dn r x σ g else .stuck
noncomputable def dO(b:MS)(hs:List MH):MS:=λσ g=>match b σ g with
 |.raise x σ' g'=>Dn hs x σ' g'|o=>o
abbrev MG:=D->S3->Option S3
def Qm(i:Nat):MG:=λd σ=>some (σ.set i (some d))
def IB:List MG->List D->S3->Option S3
 |[],[],σ=>some σ|t::ts,d::ds,σ=>(t d σ).bind λσ'=>IB ts ds σ'
 |_,_,_=>none
def Ju(ts:List MG):MG:=λd σ=>match d with
 |.tup ds=>IB ts ds σ|_=>none
noncomputable def Qy(t:MG)(a:ME):MS:=λσ g=>match a σ g with
 |.ok d g'=>(match t d σ with
  |some σ'=>.nx σ' g'|none=>.stuck)
 |.raise e g'=>.raise e σ g'|.stuck=>.stuck
structure Src where
 at':G->Nat->Option (Option D)
 top:Nat
abbrev MI:=S3->G->Res Src
def JQ(src:Src)(t:MG)(body:MS):Nat->Nat->S3->G->Out
 |0,_,_,_=>.stuck|f+1,i,σ,g=>match src.at' g i with
  |some (some d)=>(match t d σ with
   |some σ1=>(match body σ1 g with
    |.nx σ2 g2=>JQ src t body f (i+1) σ2 g2|.ct σ2 g2=>JQ src t body f (i+1) σ2 g2|.bk σ2 g2=>.nx σ2 g2|o=>o)
   |none=>.stuck)
  |some none=>.nx σ g|none=>.stuck
noncomputable def YF(it:MI)(t:MG)(body:MS):MS:=λσ g=>match it σ g with
 |.ok src g'=>JQ src t body (src.top+1) 0 σ g'|.raise e g'=>.raise e σ g'|.stuck=>.stuck
def YU(c:MT)(body:MS):Nat->S3->G->Out
 |0,_,_=>.stuck|f+1,σ,g=>match c σ g with
  |.ok true g1=>(match body σ g1 with
   |.nx σ2 g2=>YU c body f σ2 g2|.ct σ2 g2=>YU c body f σ2 g2|.bk σ2 g2=>.nx σ2 g2|o=>o)
  |.ok false g1=>.nx σ g1|.raise e g1=>.raise e σ g1|.stuck=>.stuck
open Classical in
noncomputable def Gr(c:MT)(body:MS):MS:=λσ g=>if h:∃f,YU c body f σ g≠.stuck then YU c body h.choose σ g else .stuck
def YW(src:Src)(t:MG)(c:MT)(e:ME):Nat->Nat->S3->G->List D->Res (List D)
 |0,_,_,_,_=>.stuck|f+1,i,σ,g,acc=>match src.at' g i with
  |some (some d)=>(match t d σ with
   |some σ1=>(match c σ1 g with
    |.ok b g1=>if b=true then (match e σ1 g1 with
     |.ok y g2=>YW src t c e f (i+1) σ1 g2 (acc++[y])|_=>.stuck) else YW src t c e f (i+1) σ1 g1 acc
    |_=>.stuck)
   |none=>.stuck)
  |some none=>.ok acc g|none=>.stuck
def Ec(n:Nat)(cap:List Nat)(σ:S3):S3:=List.replicate n none++cap.map λi=>(σ[i]?).getD none
def JS(ds:List D)(g:G):Res D:=if ds.length<=SZ then .ok (.ref g.length) (g++[.lst ds]) else .stuck
def QO(xs:List D)(g:G):Res D:=if xs.length<=SZ then .ok (.tup xs) g else .stuck
noncomputable def ZK(it:MI)(n:Nat)(cap:List Nat)(t:MG)(c:MT)(e:ME):ME:=λσ g=>match it σ g with
 |.ok src g1=>if src.top<=SZ then (match YW src t c e (src.top+1) 0 (Ec n cap σ) g1 []with
  |.ok ds g2=>.ok (.ref g2.length) (g2++[.lst ds])|_=>.stuck) else .stuck
 |_=>.stuck
noncomputable def ZV:MT:=λ_ g=>.ok true g
noncomputable def Q6(k n:Nat)(body:MS):MF:=λds g=>if ds.length=k then (match body (ds.map some++List.replicate n none) g with
 |.nx _ g'=>.ok .non g'|.rt d g'=>.ok d g'|.raise e _ g'=>.raise e g'|_=>.stuck) else .stuck
noncomputable def Qs(f:MF)(a:MA):ME:=λσ g=>(a σ g).bind f
noncomputable def YX(cc:Nat)(m:Str)(f:MF)(o:ME)(a:MA):ME:=λσ g=>(o σ g).bind λx g1=>match x with
 |.ref n=>(match g1[n]? with
  |some (.ins c fs)=>if c=cc/\fs.lookup m=none then (a σ g1).bind λxs g2=>f (.ref n::xs) g2 else .stuck
  |_=>.stuck)
 |_=>.stuck
noncomputable def Bl(c:Nat)(f:MF)(a:MA):ME:=λσ g=>(a σ g).bind λxs g1=>(f (.ref g1.length::xs) (g1++[.ins c []])).bind λd g2=>match d with
 |.non=>.ok (.ref g1.length) g2|_=>.stuck
noncomputable def QY(cs:List Nat)(f:Str)(o:ME):ME:=Qu (λx g=>match x with
 |.ref n=>(match g[n]? with
  |some (.ins c fs)=>if c∈cs then (match fs.lookup f with
   |some d=>.ok d g|none=>.stuck) else .stuck
  |_=>.stuck)
 |_=>.stuck) o
def Yl(f:Str)(v:D):List (Str×D)->List (Str×D)
 |[]=>[(f,v)]| (g,x)::r=>if g=f then (g,v)::r else (g,x)::Yl f v r
noncomputable def ZC(cs:List Nat)(f:Str)(o v:ME):MS:=λσ g=>match v σ g with
 |.ok y g1=>(match o σ g1 with
  |.ok (.ref n) g2=>(match g2[n]? with
   |some (.ins c fs)=>if c∈cs/\fs.length<100 then .nx σ (g2.set n (.ins c (Yl f y fs))) else .stuck
   |_=>.stuck)
  |.raise e g'=>.raise e σ g'|_=>.stuck)
 |.raise e g'=>.raise e σ g'|.stuck=>.stuck
def Gf(n:Nat)(i:Int):Option Nat:=if 0<=i then (if i<n then some i.toNat else none) else if -(n:Int)<=i then some (i+n).toNat else none
noncomputable def ZO(o i v:ME):MS:=λσ g=>match v σ g with
 |.ok y g1=>(match o σ g1 with
  |.ok (.ref n) g2=>(match i σ g2 with
   |.ok (.int k) g3=>(match g3[n]? with
    |some (.lst ds)=>(match Gf ds.length k with
     |some j=>.nx σ (g3.set n (.lst (ds.set j y)))|none=>.stuck)
    |_=>.stuck)
   |.raise e g'=>.raise e σ g'|_=>.stuck)
  |.raise e g'=>.raise e σ g'|_=>.stuck)
 |.raise e g'=>.raise e σ g'|.stuck=>.stuck
def Bm(d:D)(g:G):Res Src:=match d with
 |.tup ds=>.ok ⟨λ_ i=>some ds[i]?,ds.length⟩ g|.fl ds=>.ok ⟨λ_ i=>some ds[i]?,ds.length⟩ g|.ref n=>(match g[n]? with
  |some (.lst ds)=>.ok ⟨λg i=>(match g[n]? with|some (.lst es)=>some es[i]? | _=>none),ds.length⟩ g|_=>.stuck)
 |_=>.stuck
noncomputable def QQ(a:ME):MI:=λσ g=>(a σ g).bind Bm
def Zu(lo:Int)(n:Nat):Src:=⟨λ_ i=>some (if i<n then some (.int (lo+i)) else none),n⟩
def iC(j:Int):Prop:=-(2^62)<=j/\j<2^62
instance (j:Int):Decidable (iC j):=inferInstanceAs (Decidable (_/\_))
noncomputable def QJ(a:ME):MI:=λσ g=>(a σ g).bind λd g1=>match d with
 |.int j=>if iC j then .ok (Zu 0 j.toNat) g1 else .stuck
 |_=>.stuck
def QF(g:G):D->Option (Bool×List D)
 |.tup ds=>some (false,ds)|.fl ds=>some (true,ds)|.ref n=>(match g[n]? with
  |some (.lst ds)=>some (true,ds)|_=>none)
 |_=>none
def QC(x y:D)(g:G):Res D:=match x,y with
 |.int i,.int j=>.ok (.int (i+j)) g|.tup xs,.tup ys=>if xs.length+ys.length<=SZ then .ok (.tup (xs++ys)) g else .stuck
 |.ref n,.ref m=>(match g[n]?,g[m]? with
  |some (.lst xs),some (.lst ys)=>if xs.length+ys.length<=SZ then .ok (.ref g.length) (g++[.lst (xs++ys)]) else .stuck
  |_,_=>.stuck)
 |_,_=>.stuck
def XJ(x y:D)(g:G):Res D:=match x,y with
 |.int i,.int j=>.ok (.int (i-j)) g|_,_=>.stuck
def cM(i:Int):Prop:=-(2^64)<i/\i<2^64
instance (j:Int):Decidable (cM j):=inferInstanceAs (Decidable (_/\_))
def JG(x y:D)(g:G):Res D:=match x,y with
 |.int i,.int j=>if cM i\/cM j then .ok (.int (i*j)) g else .stuck
 |.tup ds,.int k=>if (0<=k/\k<1073741824)/\ds.length*k.toNat<=SZ then .ok (.tup (List.replicate k.toNat ds).flatten) g else .stuck
 |_,_=>.stuck
def Yw(x y:D)(g:G):Res D:=match x,y with
 |.int i,.int j=>if 0<j/\j<1073741824 then .ok (.int (i/j)) g else .stuck
 |_,_=>.stuck
def Yg(x y:D)(g:G):Res D:=match x,y with
 |.int i,.int j=>if 0<j then .ok (.int (i%j)) g else .stuck
 |_,_=>.stuck
def X4(x:D)(g:G):Res D:=match x with
 |.int i=>.ok (.int (-i)) g|_=>.stuck
def SM(r:Int->Int->Bool)(x y:D)(g:G):Res D:=match x,y with
 |.int i,.int j=>.ok (.bl (r i j)) g|_,_=>.stuck
def FV:=SM λi j=>decide (i<j)
def mS:=SM λi j=>decide (i<=j)
def Lj:=SM λi j=>decide (j<i)
def dP:=SM λi j=>decide (j<=i)
def oI(b:Bool):Int:=if b then 1 else 0
def YQ(eq:D->D->Option Bool):List D->List D->Option Bool
 |[],[]=>some true|x::xs,y::ys=>(match eq x y,YQ eq xs ys with
  |some a,some b=>some (a&&b)|_,_=>none)
 |_,_=>some false
def SN(g:G)(n:Nat):Option Bool:=match g[n]? with
 |some (.lst _)=>some false|_=>none
def Xz(g:G):Nat->D->D->Option Bool
 |0,_,_=>none|f+1,x,y=>(match x,y with
  |.non,.non=>some true|.bl a,.bl b=>some (a==b)|.int i,.int j=>some (i==j)|.str s,.str t=>some (s==t)|.bl a,.int j=>some (oI a==j)|.int i,.bl b=>some (i==oI b)|.tup xs,.tup ys=>YQ (Xz g f) xs ys|.ref n,.ref m=>(match g[n]?,g[m]? with
   |some (.lst xs),some (.lst ys)=>if xs.length=ys.length then YQ (Xz g f) xs ys else some false
   |_,_=>none)
  |.fl _,_=>none|_,.fl _=>none|.ref n,_=>SN g n|_,.ref m=>SN g m|_,_=>some false)
def Z8(x y:D)(g:G):Res D:=match Xz g 8 x y with
 |some b=>.ok (.bl b) g|none=>.stuck
def Ed:List D->Option (List Int)
 |[]=>some []|.int i::r=>(Ed r).map (i :: ·)|_::_=>none
def Ci(x y:D)(g:G):Res D:=match Xz g 8 x y with
 |some b=>.ok (.bl (!b)) g|none=>.stuck
def isNon:D->Bool
 |.non=>true|_=>false
def Do(x y:D)(g:G):Res D:=match y with
 |.non=>.ok (.bl (isNon x)) g|_=>.stuck
def Lk(x y:D)(g:G):Res D:=match y with
 |.non=>.ok (.bl (!isNon x)) g|_=>.stuck
def VF{α:Type}(xs:List α)(i:Int):Option α:=(Gf xs.length i).bind λj=>xs[j]?
def Qv(x y:D)(g:G):Res D:=match x,y with
 |.tup ds,.int i=>(match VF ds i with
  |some d=>.ok d g|none=>.stuck)
 |.fl ds,.int i=>(match VF ds i with
  |some d=>.ok d g|none=>.stuck)
 |.ref n,.int i=>(match g[n]? with
  |some (.lst ds)=>(match VF ds i with
   |some d=>.ok d g|none=>.stuck)
  |_=>.stuck)
 |.str s,.int i=>if s.length<=SZ then (match VF s.cps.toList i with
  |some c=>.ok (.str ⟨#[c]⟩) g|none=>.stuck) else .stuck
 |_,_=>.stuck
def EU(n d:Nat):Option Int->Nat
 |none=>d|some v=>if v<0 then (v+(n:Int)).toNat else min v.toNat n
def Y9{α:Type}(xs:List α)(lo hi:Option Int):List α:=(xs.drop (EU xs.length 0 lo)).take (EU xs.length xs.length hi-EU xs.length 0 lo)
def EV(x:D)(lo hi:Option Int)(g:G):Res D:=match x with
 |.tup ds=>.ok (.tup (Y9 ds lo hi)) g|.fl ds=>.ok (.ref g.length) (g++[.lst (Y9 ds lo hi)])|.ref n=>(match g[n]? with
  |some (.lst ds)=>.ok (.ref g.length) (g++[.lst (Y9 ds lo hi)])|_=>.stuck)
 |_=>.stuck
abbrev MO:=S3->G->Res (Option Int)
noncomputable def QV:MO:=λ_ g=>.ok none g
noncomputable def Zv(a:ME):MO:=λσ g=>(a σ g).bind λd g1=>match d with
 |.int i=>.ok (some i) g1|_=>.stuck
noncomputable def Q7(a:ME)(lo hi:MO):ME:=λσ g=>(a σ g).bind λx g1=>(lo σ g1).bind λl g2=>(hi σ g2).bind λh g3=>EV x l h g3
def Zg(x:D)(g:G):Res D:=match x with
 |.tup ds=>.ok (.int ds.length) g|.fl ds=>.ok (.int ds.length) g|.ref n=>(match g[n]? with
  |some (.lst ds)=>.ok (.int ds.length) g|_=>.stuck)
 |_=>.stuck
def Zw(x:D)(g:G):Res D:=match x with
 |.tup ds=>.ok (.tup ds) g|.fl ds=>.ok (.tup ds) g|.ref n=>(match g[n]? with
  |some (.lst ds)=>.ok (.tup ds) g|_=>.stuck)
 |_=>.stuck
def KO(x:D)(g:G):Res D:=match x with
 |.tup ds=>.ok (.ref g.length) (g++[.lst ds])|.fl ds=>.ok (.ref g.length) (g++[.lst ds])|.ref n=>(match g[n]? with
  |some (.lst ds)=>.ok (.ref g.length) (g++[.lst ds])|_=>.stuck)
 |_=>.stuck
def Ll(x:D)(g:G):Res D:=match x with
 |.int i=>.ok (.int i) g|.bl b=>.ok (.int (if b then 1 else 0)) g|_=>.stuck
noncomputable def ZT(o e:ME):ME:=λσ g=>(o σ g).bind λx g1=>match x with
 |.ref n=>(match g1[n]? with
  |some (.lst _)=>(e σ g1).bind λy g2=>(match g2[n]? with
   |some (.lst ds)=>if ds.length<SZ then .ok .non (g2.set n (.lst (ds++[y]))) else .stuck
   |_=>.stuck)
  |_=>.stuck)
 |_=>.stuck
def HQ(x:D)(g:G):Res D:=match x with
 |.ref n=>(match g[n]? with
  |some (.lst ds)=>(match ds[ds.length-1]? with
   |some y=>.ok y (g.set n (.lst ds.dropLast))|none=>.stuck)
  |_=>.stuck)
 |_=>.stuck
inductive Ty where
 |non|bool|int|str|tuple|list|dict
 deriving DecidableEq
def Ty.name:Ty->String
 |.non => "NoneType" |.bool => "bool" |.int => "int" |.str => "str" |.tuple => "tuple" |.list => "list" |.dict => "dict"
def Ee(t c:Ty):Bool:=t==c||(t==.bool&&c==.int)
def Ef(g:G):D->Option Ty
 |.non=>some .non|.bl _=>some .bool|.int _=>some .int|.str _=>some .str|.tup _=>some .tuple|.fl _=>some .list|.ref n=>(match g[n]? with
  |some (.lst _)=>some .list|some (.dct _)=>some .dict|_=>none)
def Bn(c:Ty)(x:D)(g:G):Res D:=match Ef g x with
 |some t=>.ok (.bl (Ee t c)) g|none=>.stuck
def Cu:List D->Option Bool
 |[]=>some true|.bl b::r=>(Cu r).map (b && ·)|_::_=>none
def Eg(x:D)(g:G):Res D:=match x with
 |.ref n=>(match g[n]? with
  |some (.lst ds)=>(match Cu ds with
   |some b=>.ok (.bl b) g|none=>.stuck)
  |_=>.stuck)
 |_=>.stuck
def Bp:D->Bool
 |.non=>true|.bl _=>true|.int _=>true|.str _=>true|_=>false
def mT(x y:D):Bool:=match x,y with
 |.non,.non=>true|.bl a,.bl b=>a==b|.int i,.int j=>i==j|.str s,.str t=>s==t|.bl a,.int j=>oI a==j|.int i,.bl b=>i==oI b|_,_=>false
def IC(neg:Bool)(x y:D)(g:G):Res D:=match QF g y with
 |some (_,ds)=>if Bp x=true/\ds.all Bp=true then .ok (.bl (if neg=true then !(ds.any λd=>mT d x) else ds.any λd=>mT d x)) g else .stuck
 |none=>.stuck
open PySem.Spec PyProof.Rows L2
def SqF(K:Frag)(H:Hp)(a:Addr)(xs:List V):Prop:=(∃o,H a=some (.frz o (.lst xs)))\/SqL K (λ_=>none) a xs
theorem SqF.sq{K:Frag}{H:Hp}{a:Addr}{xs:List V}(h:SqF K H a xs):SqL K H a xs:=by
 rcases h with⟨o,h⟩|(h|⟨o,h⟩)|h
 ·exact .inl (.inr ⟨o,h⟩)
 ·cases h
 ·cases h
 ·exact .inr h
mutual
inductive Den(K:Frag)(μ:List Addr)(H:Hp):V->D->Prop where
 |non:Den K μ H .non .non
 |bl (b:Bool):Den K μ H (.bl b) (.bl b)
 |int (i:Int):Den K μ H (.int i) (.int i)
 |str (x:Str):Den K μ H (.str x) (.str x)
 |ref {n:Nat} {a:Addr} (h:μ[n]?=some a):Den K μ H (.ref a) (.ref n)
 |tup {a:Addr} {vs:List V} {ds:List D} (h:SqT K H a vs) (hs:Dens K μ H vs ds):Den K μ H (.ref a) (.tup ds)
 |fl {a:Addr} {vs:List V} {ds:List D} (h:SqF K H a vs) (hs:Dens K μ H vs ds):Den K μ H (.ref a) (.fl ds)
inductive Dens(K:Frag)(μ:List Addr)(H:Hp):List V->List D->Prop where
 |nil:Dens K μ H [] []
 |cons {v:V} {d:D} {vs:List V} {ds:List D} (h:Den K μ H v d) (hs:Dens K μ H vs ds):Dens K μ H (v::vs) (d::ds)
end
structure Ext(K:Frag)(μ:List Addr)(H:Hp)(μ':List Addr)(H':Hp):Prop where
 pre:∃t,μ'=μ++t
 tup:∀a xs,SqT K H a xs->SqT K H' a xs
 fl:∀a xs,SqF K H a xs->SqF K H' a xs
 frz:∀a o u,H a=some (.frz o u)->H' a=some (.frz o u)
section
variable{K:Frag}{ca:Nat->Addr}{μ μ' μ'':List Addr}{H H' H'':Hp}
theorem Ext.refl:Ext K μ H μ H:=⟨⟨[],by simp⟩,λ_ _ h=>h,λ_ _ h=>h,λ_ _ _ h=>h⟩
theorem Ext.trans(a:Ext K μ H μ' H')(b:Ext K μ' H' μ'' H''):Ext K μ H μ'' H'':=by obtain⟨t,e⟩:=a.pre;obtain⟨u,f⟩:=b.pre;exact⟨⟨t++u,by rw[f,e,Wm]⟩,λx xs h=>b.tup x xs (a.tup x xs h),λx xs h=>b.fl x xs (a.fl x xs h),λx o u h=>b.frz x o u (a.frz x o u h)⟩
theorem Ext.at(e:Ext K μ H μ' H'){n:Nat}{a:Addr}(h:μ[n]?=some a):μ'[n]?=some a:=by obtain⟨t,rfl⟩:=e.pre;have hl:n<μ.length:=(Uj.mp h).1;rw[Uq hl];exact h
mutual
theorem Den.mono(e:Ext K μ H μ' H'):∀{v:V}{d:D},Den K μ H v d->Den K μ' H' v d
 |_,_,.non=>.non|_,_,.bl b=>.bl b|_,_,.int i=>.int i|_,_,.str x=>.str x|_,_,.ref h=>.ref (e.at h)|_,_,.tup h hs=>.tup (e.tup _ _ h) (Dens.mono e hs)|_,_,.fl h hs=>.fl (e.fl _ _ h) (Dens.mono e hs)
theorem Dens.mono(e:Ext K μ H μ' H'):∀{vs:List V}{ds:List D},Dens K μ H vs ds->Dens K μ' H' vs ds
 |_,_,.nil=>.nil|_,_,.cons h hs=>.cons (Den.mono e h) (Dens.mono e hs)
end
theorem Dens.length:∀{vs:List V}{ds:List D},Dens K μ H vs ds->vs.length=ds.length
 |_,_,.nil=>rfl|_,_,.cons _ t=>by rw[Uz,Uz,Dens.length t]
theorem Dens.get:∀{vs:List V}{ds:List D}{i:Nat}{d:D},Dens K μ H vs ds->ds[i]?=some d->∃v,vs[i]?=some v/\Den K μ H v d
 |_,_,_,_,.nil,e=>by simp at e
 |_,_,0,_,.cons r _,e=>by simp at e;subst e;exact⟨_,rfl,r⟩
 |_,_,i+1,x,.cons _ t,e=>by obtain⟨u,h1,h2⟩:=Dens.get (i:=i) (d:=x) t (by simpa using e);exact⟨u,by simpa using h1,h2⟩
theorem Dens.getV:∀{vs:List V}{ds:List D}{i:Nat}{v:V},Dens K μ H vs ds->vs[i]?=some v->∃d,ds[i]?=some d/\Den K μ H v d
 |_,_,_,_,.nil,e=>by simp at e
 |_,_,0,_,.cons r _,e=>by simp at e;subst e;exact⟨_,rfl,r⟩
 |_,_,i+1,x,.cons _ t,e=>by obtain⟨u,h1,h2⟩:=Dens.getV (i:=i) (v:=x) t (by simpa using e);exact⟨u,by simpa using h1,h2⟩
theorem Dens.append:∀{vs ws:List V}{ds es:List D},Dens K μ H vs ds->Dens K μ H ws es->Dens K μ H (vs++ws) (ds++es)
 |_,_,_,_,.nil,h=>h|_,_,_,_,.cons a b,h=>.cons a (Dens.append b h)
theorem Dens.set{x:V}{u:D}(r:Den K μ H x u):∀{xs:List V}{us:List D}(i:Nat),Dens K μ H xs us->Dens K μ H (xs.set i x) (us.set i u)
 |_,_,_,.nil=>.nil|_,_,0,.cons _ t=>.cons r t|_,_,i+1,.cons q t=>.cons q (Dens.set r i t)
theorem Dens.take:∀{xs:List V}{us:List D}(n:Nat),Dens K μ H xs us->Dens K μ H (xs.take n) (us.take n)
 |_,_,0,_=>.nil|_,_,_+1,.nil=>.nil|_,_,n+1,.cons r t=>.cons r (Dens.take n t)
theorem Dens.drop:∀{xs:List V}{us:List D}(n:Nat),Dens K μ H xs us->Dens K μ H (xs.drop n) (us.drop n)
 |_,_,0,r=>r|_,_,_+1,.nil=>.nil|_,_,n+1,.cons _ t=>Dens.drop n t
theorem Dens.ints(ns:List Int):Dens K μ H (ns.map V.int) (ns.map D.int):=by
 induction ns with
 |nil=>exact .nil|cons n r ih=>exact .cons (.int n) ih
def FRel(K:Frag)(μ:List Addr)(H:Hp):List (Str×V)->List (Str×D)->Prop:=Paired λp q=>p.1=q.1/\Den K μ H p.2 q.2
def KRel(K:Frag)(μ:List Addr)(H:Hp):List (Bh×V)->List (Bh×D)->Prop:=Paired λp q=>p.1=q.1/\Den K μ H p.2 q.2
def XOb(ca:Nat->Addr)(x:Xc)(o:Obj):Prop:=o.cls=.ref (ca x.1)/\o.dict=none
theorem XOb.map{ca:Nat->Addr}{x:Xc}{o:Obj}(h:XOb ca x o)(f:Array Value->Array Value):XOb ca x (o.mapFields f):=by obtain⟨c,d,dt,sl⟩:=o;cases dt<;>exact h
def XO(ca:Nat->Addr)(a:Addr)(x:Xc):HO:=.ext λh=>∃o vs,h.get? a=some o/\XOb ca x o/\o.data=.fields vs
def ORep(K:Frag)(ca:Nat->Addr)(μ:List Addr)(H:Hp)(a:Addr):GO->Prop
 |.dct ks=>∃kv,H a=some (.dK kv)/\KRel K μ H kv ks|.exc x=>H a=some (XO ca a x)|.dfz ks=>∃o kv,H a=some (.frz o (.dK kv))/\KRel K μ H kv ks|.lst ds=>∃vs,H a=some (.lst vs)/\Dens K μ H vs ds|.ins c fs=>∃dx fv,H a=some (.ins (ca c) dx fv)/\FRel K μ H fv fs
structure GRep(K:Frag)(ca:Nat->Addr)(μ:List Addr)(H:Hp)(g:G):Prop where
 len:μ.length=g.length
 nd:μ.Nodup
 obj:∀(n:Nat)(a:Addr)(o:GO),μ[n]?=some a->g[n]?=some o->ORep K ca μ H a o
structure Rep(K:Frag)(ca:Nat->Addr)(μ:List Addr)(σ3:S3)(g:G)(σ:L2.St)(H:Hp):Prop where
 g:GRep K ca μ H g
 len:σ.length=σ3.length
 st:∀(i:Nat)(d:D),σ3[i]?=some (some d)->∃v,σ[i]?=some (some v)/\Den K μ H v d
theorem FRel.mono(e:Ext K μ H μ' H'){fv:List (Str×V)}{fs:List (Str×D)}(h:FRel K μ H fv fs):FRel K μ' H' fv fs:=Paired.imp' (λ_ _ q=>⟨q.1,q.2.mono e⟩) h
theorem KRel.mono(e:Ext K μ H μ' H'){fv:List (Bh×V)}{fs:List (Bh×D)}(h:KRel K μ H fv fs):KRel K μ' H' fv fs:=Paired.imp' (λ_ _ q=>⟨q.1,q.2.mono e⟩) h
theorem Rep.go{σ3:S3}{g g':G}{σ:L2.St}(r:Rep K ca μ σ3 g σ H)(e:Ext K μ H μ' H')(h:GRep K ca μ' H' g'):Rep K ca μ' σ3 g' σ H':=⟨h,r.len,λi d z=>by obtain⟨v,h1,h2⟩:=r.st i d z;exact⟨v,h1,h2.mono e⟩⟩
theorem GRep.addr{g:G}(r:GRep K ca μ H g){n:Nat}{o:GO}(h:g[n]?=some o):∃a,μ[n]?=some a/\ORep K ca μ H a o:=by
 have hl:n<g.length:=(Uj.mp h).1;have hm:n<μ.length:=by rw[r.len];exact hl
 exact⟨μ[n],by simp[hm],r.obj n _ o (by simp[hm]) h⟩
theorem ORep.is{a:Addr}{o:GO}(h:ORep K ca μ H a o):∃u,H a=some u:=by
 cases o with
 |lst ds=>obtain⟨_,h,_⟩:=h;exact⟨_,h⟩|ins c fs=>obtain⟨_,_,h,_⟩:=h;exact⟨_,h⟩|dct ks=>obtain⟨_,h,_⟩:=h;exact⟨_,h⟩|exc x=>exact⟨_,h⟩|dfz ks=>obtain⟨_,_,h,_⟩:=h;exact⟨_,h⟩
theorem GRep.known{g:G}(r:GRep K ca μ H g){a:Addr}(h:a∈μ):∃u,H a=some u:=by
 obtain⟨n,hn⟩:=List.getElem?_of_mem h;have hl:n<μ.length:=(Uj.mp hn).1;have hg:n<g.length:=by rw[<-r.len];exact hl
 exact(r.obj n a g[n] hn (by simp[hg])).is
theorem ZD{p:Addr}{o:HO}(hp:H p=none):Ext K μ H μ (YD H p o):=⟨⟨[],by simp⟩,λa xs h=>by
 rcases h with(h|⟨u,h⟩)|h
 ·exact .inl (.inl (by rw[QZ (ZN h hp)];exact h))
 ·exact .inl (.inr ⟨u,by rw[QZ (ZN h hp)];exact h⟩)
 ·exact .inr h,λa xs h=>by
 rcases h with⟨u,h⟩|h
 ·exact .inl ⟨u,by rw[QZ (ZN h hp)];exact h⟩
 ·exact .inr h,λa o u h=>by rw[QZ (ZN h hp)];exact h⟩
theorem ORep.mono{a:Addr}{o:GO}(e:Ext K μ H μ' H')(ha:∀u,H a=some u->H' a=some u)(h:ORep K ca μ H a o):ORep K ca μ' H' a o:=by
 cases o with
 |lst ds=>obtain⟨vs,h,q⟩:=h;exact⟨vs,ha _ h,q.mono e⟩|ins c fs=>obtain⟨dx,fv,h,q⟩:=h;exact⟨dx,fv,ha _ h,q.mono e⟩|dct ks=>obtain⟨kv,h,q⟩:=h;exact⟨kv,ha _ h,q.mono e⟩|exc x=>exact ha _ h|dfz ks=>obtain⟨o,kv,h,q⟩:=h;exact⟨o,kv,ha _ h,q.mono e⟩
theorem GRep.new{g:G}{p:Addr}{o:HO}(r:GRep K ca μ H g)(hp:H p=none):GRep K ca μ (YD H p o) g:=⟨r.len,r.nd,λn a u h1 h2=>(r.obj n a u h1 h2).mono (ZD hp) λz hz=>by rw[QZ (ZN hz hp)];exact hz⟩
theorem Zr{p:Addr}{o:HO}(hp:H p=none):Ext K μ H (μ++[p]) (YD H p o):=⟨⟨[p],rfl⟩,(ZD (μ:=μ) hp).tup,(ZD (μ:=μ) hp).fl,(ZD (K:=K) (μ:=μ) hp).frz⟩
theorem GRep.push{g:G}{p:Addr}{o:HO}{u:GO}(r:GRep K ca μ H g)(hp:H p=none)(ho:ORep K ca (μ++[p]) (YD H p o) p u):GRep K ca (μ++[p]) (YD H p o) (g++[u]):=by
 have nm:p∉μ:=λh=>by obtain⟨z,hz⟩:=r.known h;rw[hp]at hz;cases hz
 refine⟨by rw[Us,Us,r.len];rfl,?_,λn a w h1 h2=>?_⟩
 ·rw[RA];exact⟨r.nd,by simp,λx hx y hy e=>nm (by rw[Ur.mp hy]at e;rw[<-e];exact hx)⟩
 ·by_cases hn:n<g.length
  ·rw[Uq hn]at h2;rw[Uq (by rw[r.len];exact hn)]at h1;exact(r.obj n a w h1 h2).mono (Zr hp) λz hz=>by rw[QZ (ZN hz hp)];exact hz
  ·rw[Uw (by omega)]at h2;rw[Uw (by rw[r.len];omega)]at h1;have e0:n-g.length=0:=by have:=(Uj.mp h2).1;simp at this;omega
   rw[e0]at h2;rw[r.len,e0]at h1;simp at h1 h2;subst h1 h2;exact ho
theorem XA{a:Addr}{o o':HO}(h:H a=some o)(no:∀xs,o≠.tup xs)(nf:∀b u,o≠.frz b u):Ext K μ H μ (YD H a o'):=⟨⟨[],by simp⟩,λb xs hb=>by
 rcases hb with(z|⟨u,z⟩)|z
 ·exact .inl (.inl (by rw[QZ (O3 z h (Ne.symm (no xs)))];exact z))
 ·exact .inl (.inr ⟨u,by rw[QZ (O3 z h (Ne.symm (nf u _)))];exact z⟩)
 ·exact .inr z,λb xs hb=>by
 rcases hb with⟨u,z⟩|z
 ·exact .inl ⟨u,by rw[QZ (O3 z h (Ne.symm (nf u _)))];exact z⟩
 ·exact .inr z,λb u v z=>by rw[QZ (O3 z h (Ne.symm (nf u v)))];exact z⟩
theorem GRep.set{g:G}{n:Nat}{a:Addr}{o o':HO}{u:GO}(r:GRep K ca μ H g)(hn:μ[n]?=some a)(h:H a=some o)(no:∀xs,o≠.tup xs)(nf:∀b u,o≠.frz b u)(ho:ORep K ca μ (YD H a o') a u):
  GRep K ca μ (YD H a o') (g.set n u):=by
 refine⟨by rw[UJ,r.len],r.nd,λm b w h1 h2=>?_⟩;by_cases e:m=n
 ·subst e;rw[hn]at h1;cases h1;have hl:m<g.length:=by rw[<-r.len];exact(Uj.mp hn).1
  rw[Tg hl]at h2;cases h2;exact ho
 ·rw[Uh (Ne.symm e)]at h2;have nb:b≠a:=λz=>by subst z;have e1:=(Uj.mp h1);have e2:=(Uj.mp hn);obtain⟨l1,q1⟩:=e1;obtain⟨l2,q2⟩:=e2;exact e ((Ww r.nd).mp (q1.trans q2.symm))
  exact(r.obj m b w h1 h2).mono (XA h no nf) λz hz=>by rw[QZ nb];exact hz
abbrev XS:=Xc->L2.St->Hp->Prop
def AV(X:Cx)(pins:Js)(H:Hp)(b:Addr):Prop:=H b=none/\b≠X.env.locals/\b∉X.fs/\(b∈X.ex\/X.s₀.heap.get? b=none)/\(∀x c,X.env.cells.lookup x=some c->c≠b)/\∀p∈X.pn++pins,p.1≠b
structure Fl(X:Cx)(ca:Nat->Addr)(a:Addr)(x:Xc)(H:Hp)(h:Heap):Prop where
 fp:AV X [] H a
 ln:x.2=none
 ex:∃oe vs,h.get? a=some oe/\XOb ca x oe/\oe.data=.fields vs/\1<vs.size/\(vs[1]?=some .none\/∃T oT ts,vs[1]?=some (.ref T)/\T≠a/\AV X [] H T/\h.get? T=some oT/\oT.data=.fields ts/\3<ts.size/\(ts[3]?=some .none\/ts[3]?=some (rawInt X.env.locals)))
def XE(X:Cx)(ca:Nat->Addr)(Φ:XS):Value->Shared->Prop:=λv s=>∃a x σ H,v=.ref a/\Inv X [] σ H s/\Fl X ca a x H s.heap/\Φ x σ H
abbrev HR(X:Cx)(pn:Js):Cx:={X with pn:=pn,xe:=λ_ _=>False}
abbrev Q5(X:Cx)(ca:Nat->Addr)(pn:Js)(Φ:XS):Cx:={X with pn:=pn,xe:=XE (HR X pn) ca Φ}
def RaP(K:Frag)(ca:Nat->Addr)(Φ:XS)(σ:L2.St)(H:Hp)(μ:List Addr)(x:Xc)(g':G):Prop:=∀H' μ',Ext K μ H μ' H'->GRep K ca μ' H' g'->Φ x σ H'
def Post(K:Frag)(ca:Nat->Addr)(Φ:XS)(σ:L2.St)(Q:VK)(H:Hp)(μ:List Addr):Res D->Prop
 |.ok d g'=>∀v H' μ',Ext K μ H μ' H'->GRep K ca μ' H' g'->Den K μ' H' v d->Q v H'|.raise x g'=>RaP K ca Φ σ H μ x g'|.stuck=>False
def PostT(K:Frag)(ca:Nat->Addr)(Φ:XS)(σ:L2.St)(Q:Bool->Hp->Prop)(H:Hp)(μ:List Addr):Res Bool->Prop
 |.ok b g'=>∀H' μ',Ext K μ H μ' H'->GRep K ca μ' H' g'->Q b H'|.raise x g'=>RaP K ca Φ σ H μ x g'|.stuck=>False
def PostA(K:Frag)(ca:Nat->Addr)(Φ:XS)(σ:L2.St)(Q:List V->Hp->Prop)(H:Hp)(μ:List Addr):Res (List D)->Prop
 |.ok ds g'=>∀vs H' μ',Ext K μ H μ' H'->GRep K ca μ' H' g'->Dens K μ' H' vs ds->Q vs H'|.raise x g'=>RaP K ca Φ σ H μ x g'|.stuck=>False
def PostS(K:Frag)(ca:Nat->Addr)(Φ:XS)(E:Ends)(H:Hp)(μ:List Addr):Out->Prop
 |.nx σ3 g'=>∀σ' H' μ',Ext K μ H μ' H'->Rep K ca μ' σ3 g' σ' H'->E.nx σ' H'|.bk σ3 g'=>∀σ' H' μ',Ext K μ H μ' H'->Rep K ca μ' σ3 g' σ' H'->E.bk σ' H'|.ct σ3 g'=>∀σ' H' μ',Ext K μ H μ' H'->Rep K ca μ' σ3 g' σ' H'->E.ct σ' H'|.rt d g'=>∀v H' μ',Ext K μ H μ' H'->GRep K ca μ' H' g'->Den K μ' H' v d->E.rt v H'|.raise x σ3 g'=>∀σ' H' μ',Ext K μ H μ' H'->Rep K ca μ' σ3 g' σ' H'->Φ x σ' H'|.stuck=>False
def up(K:Frag)(ca:Nat->Addr)(Φ:XS)(m:ME):TE:=λσ H Q=>∃σ3 g μ,Rep K ca μ σ3 g σ H/\Post K ca Φ σ Q H μ (m σ3 g)
def iE(K:Frag)(ca:Nat->Addr)(Φ:XS)(m:MT):TT:=λσ H Q=>∃σ3 g μ,Rep K ca μ σ3 g σ H/\PostT K ca Φ σ Q H μ (m σ3 g)
def cJ(K:Frag)(ca:Nat->Addr)(Φ:XS)(m:MA):TA:=λσ H Q=>∃σ3 g μ,Rep K ca μ σ3 g σ H/\PostA K ca Φ σ Q H μ (m σ3 g)
def mU(K:Frag)(ca:Nat->Addr)(Φ:XS)(m:MS):TS:=λE σ H=>∃σ3 g μ,Rep K ca μ σ3 g σ H/\PostS K ca Φ E H μ (m σ3 g)
def QW(ca:Nat->Addr)(X:Cx)(e:Expr)(m:ME):Prop:=∀pn Φ,PE (Q5 X ca pn Φ) e (up X.K ca Φ m)
def Gg(ca:Nat->Addr)(X:Cx)(e:Expr)(m:MT):Prop:=∀pn Φ,PT (Q5 X ca pn Φ) e (iE X.K ca Φ m)
def iF(ca:Nat->Addr)(X:Cx)(e:Expr)(m:MT):Prop:=∀pn Φ,PW (Q5 X ca pn Φ) e (iE X.K ca Φ m)
def AW(ca:Nat->Addr)(X:Cx)(es:List Expr)(m:MA):Prop:=∀pn Φ,PA (Q5 X ca pn Φ) es (cJ X.K ca Φ m)
def L9(ca:Nat->Addr)(X:Cx)(st:Stmt)(m:MS):Prop:=∀pn Φ,PS (Q5 X ca pn Φ) st (mU X.K ca Φ m)
def EW(ca:Nat->Addr)(X:Cx)(sts:List Stmt)(m:MS):Prop:=∀pn Φ,PSs (Q5 X ca pn Φ) sts (mU X.K ca Φ m)
variable{Φ:XS}{σ:L2.St}
theorem RaP.go{x:Xc}{g':G}(e:Ext K μ H μ' H')(h:RaP K ca Φ σ H μ x g'):RaP K ca Φ σ H' μ' x g':=λH2 μ2 e2=>h H2 μ2 (e.trans e2)
theorem Post.go{Q:VK}{r:Res D}(e:Ext K μ H μ' H')(h:Post K ca Φ σ Q H μ r):Post K ca Φ σ Q H' μ' r:=by
 cases r with
 |ok d g'=>exact λv H2 μ2 e2=>h v H2 μ2 (e.trans e2)
 |raise _ _=>exact RaP.go e h|stuck=>exact h
theorem PostT.go{Q:Bool->Hp->Prop}{r:Res Bool}(e:Ext K μ H μ' H')(h:PostT K ca Φ σ Q H μ r):PostT K ca Φ σ Q H' μ' r:=by
 cases r with
 |ok d g'=>exact λH2 μ2 e2=>h H2 μ2 (e.trans e2)
 |raise _ _=>exact RaP.go e h|stuck=>exact h
theorem PostA.go{Q:List V->Hp->Prop}{r:Res (List D)}(e:Ext K μ H μ' H')(h:PostA K ca Φ σ Q H μ r):PostA K ca Φ σ Q H' μ' r:=by
 cases r with
 |ok d g'=>exact λv H2 μ2 e2=>h v H2 μ2 (e.trans e2)
 |raise _ _=>exact RaP.go e h|stuck=>exact h
theorem PostS.go{E:Ends}{r:Out}(e:Ext K μ H μ' H')(h:PostS K ca Φ E H μ r):PostS K ca Φ E H' μ' r:=by
 cases r with
 |nx _ _=>exact λv H2 μ2 e2=>h v H2 μ2 (e.trans e2)
 |bk _ _=>exact λv H2 μ2 e2=>h v H2 μ2 (e.trans e2)
 |ct _ _=>exact λv H2 μ2 e2=>h v H2 μ2 (e.trans e2)
 |rt _ _=>exact λv H2 μ2 e2=>h v H2 μ2 (e.trans e2)
 |raise _ _ _=>exact λv H2 μ2 e2=>h v H2 μ2 (e.trans e2)
 |stuck=>exact h
theorem Post.pure{Q:VK}{g:G}{v:V}{d:D}(h:Post K ca Φ σ Q H μ (.ok d g))(r:GRep K ca μ H g)(q:Den K μ H v d):Q v H:=h v H μ .refl r q
theorem RaP.stmt{x:Xc}{σ3:S3}{g g':G}{E:Ends}(R:Rep K ca μ σ3 g σ H)(h:PostS K ca Φ E H μ (.raise x σ3 g')):RaP K ca Φ σ H μ x g':=λH' μ' e r=>h σ H' μ' e (R.go e r)
theorem Lm{m:ME}{α:Type}{k:D->G->Res α}{σ3:S3}{g:G}(R:Rep K ca μ σ3 g σ H){P:Res α->Hp->List Addr->Prop}(hp:P ((m σ3 g).bind k) H μ)(hst:∀H μ,¬P .stuck H μ)(hra:∀e g H μ,P (.raise e g) H μ->RaP K ca Φ σ H μ e g)(hgo:∀r H μ H' μ',Ext K μ H μ' H'->P r H μ->P r H' μ'):
  up K ca Φ m σ H λx H1=>∃d g1 μ1,Ext K μ H μ1 H1/\Rep K ca μ1 σ3 g1 σ H1/\Den K μ1 H1 x d/\P (k d g1) H1 μ1:=by
 refine⟨σ3,g,μ,R,?_⟩;cases hm:m σ3 g with
 |ok d g1 =>rw[hm]at hp;exact λv H1 μ1 e1 r1 d1=>⟨d,g1,μ1,e1,R.go e1 r1,d1,hgo _ _ _ _ _ e1 hp⟩
 |raise e g1=>rw[hm]at hp;exact hra _ _ _ _ hp|stuck=>rw[hm]at hp;exact(hst _ _ hp).elim
theorem JT{m:ME}{k:D->G->Res D}{σ3:S3}{g:G}{Q:VK}(R:Rep K ca μ σ3 g σ H)(hp:Post K ca Φ σ Q H μ ((m σ3 g).bind k)):
  up K ca Φ m σ H λx H1=>∃d g1 μ1,Ext K μ H μ1 H1/\Rep K ca μ1 σ3 g1 σ H1/\Den K μ1 H1 x d/\Post K ca Φ σ Q H1 μ1 (k d g1):=Lm (P:=λr H μ=>Post K ca Φ σ Q H μ r) R hp (λ_ _ h=>h) (λ_ _ _ _ h=>h) λ_ _ _ _ _ e h=>h.go e
theorem iG{m:ME}{k:D->G->Res Bool}{σ3:S3}{g:G}{Q:Bool->Hp->Prop}(R:Rep K ca μ σ3 g σ H)(hp:PostT K ca Φ σ Q H μ ((m σ3 g).bind k)):
  up K ca Φ m σ H λx H1=>∃d g1 μ1,Ext K μ H μ1 H1/\Rep K ca μ1 σ3 g1 σ H1/\Den K μ1 H1 x d/\PostT K ca Φ σ Q H1 μ1 (k d g1):=Lm (P:=λr H μ=>PostT K ca Φ σ Q H μ r) R hp (λ_ _ h=>h) (λ_ _ _ _ h=>h) λ_ _ _ _ _ e h=>h.go e
theorem oJ{m:ME}{k:D->G->Res (List D)}{σ3:S3}{g:G}{Q:List V->Hp->Prop}(R:Rep K ca μ σ3 g σ H)(hp:PostA K ca Φ σ Q H μ ((m σ3 g).bind k)):
  up K ca Φ m σ H λx H1=>∃d g1 μ1,Ext K μ H μ1 H1/\Rep K ca μ1 σ3 g1 σ H1/\Den K μ1 H1 x d/\PostA K ca Φ σ Q H1 μ1 (k d g1):=Lm (P:=λr H μ=>PostA K ca Φ σ Q H μ r) R hp (λ_ _ h=>h) (λ_ _ _ _ h=>h) λ_ _ _ _ _ e h=>h.go e
theorem Ml{m:MT}{α:Type}{k:Bool->G->Res α}{σ3:S3}{g:G}(R:Rep K ca μ σ3 g σ H){P:Res α->Hp->List Addr->Prop}(hp:P ((m σ3 g).bind k) H μ)(hst:∀H μ,¬P .stuck H μ)(hra:∀e g H μ,P (.raise e g) H μ->RaP K ca Φ σ H μ e g)(hgo:∀r H μ H' μ',Ext K μ H μ' H'->P r H μ->P r H' μ'):
  iE K ca Φ m σ H λb H1=>∃g1 μ1,Ext K μ H μ1 H1/\Rep K ca μ1 σ3 g1 σ H1/\P (k b g1) H1 μ1:=by
 refine⟨σ3,g,μ,R,?_⟩;cases hm:m σ3 g with
 |ok d g1 =>rw[hm]at hp;exact λH1 μ1 e1 r1=>⟨g1,μ1,e1,R.go e1 r1,hgo _ _ _ _ _ e1 hp⟩
 |raise e g1=>rw[hm]at hp;exact hra _ _ _ _ hp|stuck=>rw[hm]at hp;exact(hst _ _ hp).elim
theorem kP{m:MT}{k:Bool->G->Res D}{σ3:S3}{g:G}{Q:VK}(R:Rep K ca μ σ3 g σ H)(hp:Post K ca Φ σ Q H μ ((m σ3 g).bind k)):
  iE K ca Φ m σ H λb H1=>∃g1 μ1,Ext K μ H μ1 H1/\Rep K ca μ1 σ3 g1 σ H1/\Post K ca Φ σ Q H1 μ1 (k b g1):=Ml (P:=λr H μ=>Post K ca Φ σ Q H μ r) R hp (λ_ _ h=>h) (λ_ _ _ _ h=>h) λ_ _ _ _ _ e h=>h.go e
theorem N5{m:MT}{k:Bool->G->Res Bool}{σ3:S3}{g:G}{Q:Bool->Hp->Prop}(R:Rep K ca μ σ3 g σ H)(hp:PostT K ca Φ σ Q H μ ((m σ3 g).bind k)):
  iE K ca Φ m σ H λb H1=>∃g1 μ1,Ext K μ H μ1 H1/\Rep K ca μ1 σ3 g1 σ H1/\PostT K ca Φ σ Q H1 μ1 (k b g1):=Ml (P:=λr H μ=>PostT K ca Φ σ Q H μ r) R hp (λ_ _ h=>h) (λ_ _ _ _ h=>h) λ_ _ _ _ _ e h=>h.go e
theorem Mm{m:MA}{α:Type}{k:List D->G->Res α}{σ3:S3}{g:G}(R:Rep K ca μ σ3 g σ H){P:Res α->Hp->List Addr->Prop}(hp:P ((m σ3 g).bind k) H μ)(hst:∀H μ,¬P .stuck H μ)(hra:∀e g H μ,P (.raise e g) H μ->RaP K ca Φ σ H μ e g)(hgo:∀r H μ H' μ',Ext K μ H μ' H'->P r H μ->P r H' μ'):
  cJ K ca Φ m σ H λxs H1=>∃ds g1 μ1,Ext K μ H μ1 H1/\Rep K ca μ1 σ3 g1 σ H1/\Dens K μ1 H1 xs ds/\P (k ds g1) H1 μ1:=by
 refine⟨σ3,g,μ,R,?_⟩;cases hm:m σ3 g with
 |ok d g1 =>rw[hm]at hp;exact λv H1 μ1 e1 r1 d1=>⟨d,g1,μ1,e1,R.go e1 r1,d1,hgo _ _ _ _ _ e1 hp⟩
 |raise e g1=>rw[hm]at hp;exact hra _ _ _ _ hp|stuck=>rw[hm]at hp;exact(hst _ _ hp).elim
theorem Gs{m:MA}{k:List D->G->Res D}{σ3:S3}{g:G}{Q:VK}(R:Rep K ca μ σ3 g σ H)(hp:Post K ca Φ σ Q H μ ((m σ3 g).bind k)):
  cJ K ca Φ m σ H λxs H1=>∃ds g1 μ1,Ext K μ H μ1 H1/\Rep K ca μ1 σ3 g1 σ H1/\Dens K μ1 H1 xs ds/\Post K ca Φ σ Q H1 μ1 (k ds g1):=Mm (P:=λr H μ=>Post K ca Φ σ Q H μ r) R hp (λ_ _ h=>h) (λ_ _ _ _ h=>h) λ_ _ _ _ _ e h=>h.go e
theorem kQ{m:MA}{k:List D->G->Res (List D)}{σ3:S3}{g:G}{Q:List V->Hp->Prop}(R:Rep K ca μ σ3 g σ H)(hp:PostA K ca Φ σ Q H μ ((m σ3 g).bind k)):
  cJ K ca Φ m σ H λxs H1=>∃ds g1 μ1,Ext K μ H μ1 H1/\Rep K ca μ1 σ3 g1 σ H1/\Dens K μ1 H1 xs ds/\PostA K ca Φ σ Q H1 μ1 (k ds g1):=Mm (P:=λr H μ=>PostA K ca Φ σ Q H μ r) R hp (λ_ _ h=>h) (λ_ _ _ _ h=>h) λ_ _ _ _ _ e h=>h.go e
theorem Z0{m:ME}{Q Q':VK}(h:up K ca Φ m σ H Q)(i:∀x H1,Q x H1->Q' x H1):up K ca Φ m σ H Q':=by
 obtain⟨σ3,g,μ,R,p⟩:=h;refine⟨σ3,g,μ,R,?_⟩;cases hm:m σ3 g with
 |ok d g1=>rw[hm]at p;exact λv H1 μ1 e r q=>i _ _ (p v H1 μ1 e r q)
 |raise e g1=>rw[hm]at p;exact p|stuck=>rw[hm]at p;exact p
theorem Eh{m:MT}{Q Q':Bool->Hp->Prop}(h:iE K ca Φ m σ H Q)(i:∀x H1,Q x H1->Q' x H1):iE K ca Φ m σ H Q':=by
 obtain⟨σ3,g,μ,R,p⟩:=h;refine⟨σ3,g,μ,R,?_⟩;cases hm:m σ3 g with
 |ok d g1=>rw[hm]at p;exact λH1 μ1 e r=>i _ _ (p H1 μ1 e r)
 |raise e g1=>rw[hm]at p;exact p|stuck=>rw[hm]at p;exact p
theorem W0{m:MA}{Q Q':List V->Hp->Prop}(h:cJ K ca Φ m σ H Q)(i:∀x H1,Q x H1->Q' x H1):cJ K ca Φ m σ H Q':=by
 obtain⟨σ3,g,μ,R,p⟩:=h;refine⟨σ3,g,μ,R,?_⟩;cases hm:m σ3 g with
 |ok d g1=>rw[hm]at p;exact λv H1 μ1 e r q=>i _ _ (p v H1 μ1 e r q)
 |raise e g1=>rw[hm]at p;exact p|stuck=>rw[hm]at p;exact p
end
theorem ZP{X:Cx}{e:Expr}{t t':TE}(h:PE X e t)(i:∀σ H Q,t' σ H Q->t σ H Q):PE X e t':=λpins s σ H Q I q=>h pins s σ H Q I (i σ H Q q)
theorem Ln{X:Cx}{e:Expr}{t t':TT}(h:PT X e t)(i:∀σ H Q,t' σ H Q->t σ H Q):PT X e t':=λpins s σ H Q I q=>h pins s σ H Q I (i σ H Q q)
theorem Pb{X:Cx}{e:Expr}{t t':TT}(h:PW X e t)(i:∀σ H Q,t' σ H Q->t σ H Q):PW X e t':=λw pins s σ H Q I q=>h w pins s σ H Q I (i σ H Q q)
theorem Pc{X:Cx}{e:List Expr}{t t':TA}(h:PA X e t)(i:∀σ H Q,t' σ H Q->t σ H Q):PA X e t':=λp pins s σ H Q I q=>h p pins s σ H Q I (i σ H Q q)
theorem JU{X:Cx}{e:Stmt}{t t':TS}(h:PS X e t)(i:∀D σ H,t' D σ H->t D σ H):PS X e t':=λpins s σ H D I q=>h pins s σ H D I (i D σ H q)
theorem Mn{X:Cx}{e:List Stmt}{t t':TS}(h:PSs X e t)(i:∀D σ H,t' D σ H->t D σ H):PSs X e t':=λpins s σ H D I q=>h pins s σ H D I (i D σ H q)
section
variable{X:Cx}{ca:Nat->Addr}{a b c e:Expr}{es rest:List Expr}{ma mb me:ME}{tc ta tb:MT}{mr:MA}{pos:Pos}
theorem Qb(i:Nat){x:Str}(hN:X.N[i]?=some x:=by rfl)(hv:qQ X.env.scope x:=by first|exact Or.inl rfl|exact Or.inr (Or.inl rfl)|exact Or.inr (Or.inr rfl))(hd:(x==("__debug__" : Str))=false:=by decide)(hcd:(x==("__classdict__" : Str))=false:=by decide):QW ca X (.Name x pos) (Qa i):=
 λpn Φ=>ZP (jE (X:=Q5 X ca pn Φ) hN hv hd hcd) λσ H Q hQ=>by
  obtain⟨σ3,g,μ,R,p⟩:=hQ;unfold Qa at p;cases e:σ3[i]? with
  |none=>rw[e]at p;exact p.elim|some o=>
   cases o with
   |none=>rw[e]at p;exact p.elim|some d =>rw[e]at p;obtain⟨v,h1,h2⟩:=R.st i d e;exact⟨v,h1,p v H μ .refl R.g h2⟩
theorem Mp{v:V}{d:D}(h:∀pn Φ,PE (Q5 X ca pn Φ) e (tC v))(hd:∀K μ H,Den K μ H v d):QW ca X e (Qp d):=λpn Φ=>ZP (h pn Φ) λ_ H _ ⟨_,_,μ,R,p⟩=>p v H μ .refl R.g (hd _ _ _)
theorem Qg{i:Int}{j:Nat}:QW ca X (.Constant (.int i) j pos) (Qp (.int i)):=Mp (λ_ _=>jF) λ_ _ _=>.int i
theorem Q0{x:Str}{j:Nat}:QW ca X (.Constant (.str x) j pos) (Qp (.str x)):=Mp (λ_ _=>jH) λ_ _ _=>.str x
theorem Vl{x:Bool}{j:Nat}:QW ca X (.Constant (.bool x) j pos) (Qp (.bl x)):=Mp (λ_ _=>nB) λ_ _ _=>.bl x
theorem VG{j:Nat}:QW ca X (.Constant .none j pos) (Qp .non):=Mp (λ_ _=>jG) λ_ _ _=>.non
theorem Dp{x:Str}{v:V}{u:Value}{d:D}(hm:X.mg x=some u)(r:RelV v u)(hd':∀K μ H,Den K μ H v d)(hg:Gl X x:=by rfl)(hd:(x==("__debug__" : Str))=false:=by decide):QW ca X (.Name x pos) (Qp d):=Mp (λpn Φ=>O5 (X:=Q5 X ca pn Φ) hg hm r hd) hd'
def Jk(K:Frag)(ca:Nat->Addr)(r:R2)(f:D->D->G->Res D):Prop:=∀(Φ:XS)(σ:L2.St)(H:Hp)(μ:List Addr)(g:G)(x y:V)(dx dy:D)(Q:VK),GRep K ca μ H g->Den K μ H x dx->Den K μ H y dy->Post K ca Φ σ Q H μ (f dx dy g)->r x y H Q
theorem Lo{K:Frag}{Φ:XS}{r:R2}{f:D->D->G->Res D}(hp:Jk K ca r f)(σ:L2.St)(H:Hp)(Q:VK)(h:up K ca Φ (Qd f ma mb) σ H Q):nQ r (up K ca Φ ma) (up K ca Φ mb) σ H Q:=by obtain⟨σ3,g,μ,R,p⟩:=h;refine Z0 (JT R p) λx H1 ⟨dx,g1,μ1,e1,R1,q1,p1⟩=>?_;refine Z0 (JT R1 p1) λy H2 ⟨dy,g2,μ2,e2,R2,q2,p2⟩=>?_;exact hp Φ σ H2 μ2 g2 x y dx dy Q R2.g (q1.mono e2) q2 p2
theorem Mq{op:Operator}{r:R2}{f:D->D->G->Res D}(ho:∀pn Φ,OpR (Q5 X ca pn Φ) (binaryOp op) r)(hp:Jk X.K ca r f)(ha:QW ca X a ma)(hb:QW ca X b mb):QW ca X (.BinOp a op b pos) (Qd f ma mb):=λpn Φ=>ZP (nR (ho pn Φ) (ha pn Φ) (hb pn Φ)) (Lo hp)
theorem Gu{op:CmpOp}{r:R2}{f:D->D->G->Res D}(ho:∀pn Φ,OpR (Q5 X ca pn Φ) (compareOp op) r)(hp:Jk X.K ca r f)(ha:QW ca X a ma)(hb:QW ca X b mb)(hm:behindInMarks op b=false):QW ca X (.Compare a [op] [b] pos) (Qd f ma mb):=λpn Φ=>ZP (cZ (ho pn Φ) (ha pn Φ) (hb pn Φ) hm) (Lo hp)
theorem oK{r:R2}{f:D->D->G->Res D}(ho:∀pn Φ,IxR (Q5 X ca pn Φ) r)(hp:Jk X.K ca r f)(ha:QW ca X a ma)(hb:QW ca X b mb)(hs:Ge b:=by exact λ_ _=>rfl):QW ca X (.Subscript a b pos) (Qd f ma mb):=λpn Φ=>ZP (nY (ho pn Φ) (ha pn Φ) (hb pn Φ) hs) (Lo hp)
theorem tH{op:UnaryOp}{r:V->Hp->VK->Prop}{f:D->G->Res D}(ho:∀pn Φ,qT (Q5 X ca pn Φ) (unaryOp op) r)(hp:∀(Φ:XS) (σ:L2.St) (H:Hp) (μ:List Addr) (g:G) (x:V) (dx:D) (Q:VK),GRep X.K ca μ H g->Den X.K μ H x dx->Post X.K ca Φ σ Q H μ (f dx g)->r x H Q)(ha:QW ca X a ma):QW ca X (.UnaryOp op a pos) (Qu f ma):=λpn Φ=>ZP (nS (ho pn Φ) (ha pn Φ)) λσ H Q ⟨σ3,g,μ,R,p⟩=>Z0 (JT R p) λx H1 ⟨dx,g1,μ1,e1,R1,q1,p1⟩=>hp Φ σ H1 μ1 g1 x dx Q R1.g q1 p1
theorem Qj:AW ca X [] Ql:=λpn Φ=>Pc (Lc (X:=Q5 X ca pn Φ)) λ_ H _ ⟨_,_,μ,R,p⟩=>p [] H μ .refl R.g .nil
theorem JV(ha:QW ca X e me)(hr:AW ca X es mr)(hs:starEach (e::es) X.env=(false,eval e X.env)::starEach es X.env:=by rfl):AW ca X (e::es) (Qc me mr):=λpn Φ=>Pc (Kn (X:=Q5 X ca pn Φ) (ha pn Φ) (hr pn Φ) hs) λσ H Q ⟨σ3,g,μ,R,p⟩=>Z0 (oJ R p) λx H1 ⟨d,g1,μ1,e1,R1,q1,p1⟩=>
  W0 (kQ R1 p1) λxs H2 ⟨ds,g2,μ2,e2,R2,q2,p2⟩=>p2 (x::xs) H2 μ2 .refl R2.g (.cons (q1.mono e2) q2)
theorem ZW(ha:QW ca X a ma)(he:∀whole,isTrue a X.env whole=(do let v <-whole;standAt a.pos;holding [v] (truthy v)):=by intro _;rfl):Gg ca X a (Qn ma):=
 λpn Φ=>Ln (jI (X:=Q5 X ca pn Φ) (ha pn Φ) he) λσ H Q ⟨σ3,g,μ,R,p⟩=>Z0 (iG R p) λx H1 hQ=>by
  obtain⟨d,g1,μ1,e1,R1,q1,p1⟩:=hQ;cases q1 with
  |bl b=>exact⟨b,rfl,p1 H1 μ1 .refl R1.g⟩|_=>exact p1.elim
theorem XB{op:CmpOp}{r:R2}{f:D->D->G->Res D}(ho:∀pn Φ,OpR (Q5 X ca pn Φ) (compareOp op) r)(hp:Jk X.K ca r f)(ha:QW ca X a ma)(hb:QW ca X b mb)(hm:behindInMarks op b=false):Gg ca X (.Compare a [op] [b] pos) (Qn (Qd f ma mb)):=
 λpn Φ=>Ln (dA (ho pn Φ) (ha pn Φ) (hb pn Φ) hm) λσ H Q hQ=>by
  obtain⟨σ3,g,μ,R,p⟩:=hQ;have q:up X.K ca Φ (Qd f ma mb) σ H λx H'=>∃k,x=.bl k/\Q k H':=Z0 (iG R p) λx H1 hQ=>by
   obtain⟨d,g1,μ1,e1,R1,q1,p1⟩:=hQ;cases q1 with
   |bl b=>exact⟨b,rfl,p1 H1 μ1 .refl R1.g⟩|_=>exact p1.elim
  exact Lo hp σ H _ q
theorem YV(ha:Gg ca X a ta):Gg ca X (.UnaryOp .Not a pos) (Yq ta):=λpn Φ=>Ln (jL (X:=Q5 X ca pn Φ) (ha pn Φ)) λσ H Q ⟨σ3,g,μ,R,p⟩=>Eh (N5 R p) λb H1 ⟨g1,μ1,e1,R1,p1⟩=>p1 H1 μ1 .refl R1.g
theorem Ei(ha:Gg ca X a ta):iF ca X (.BoolOp .And [a] pos) ta:=λpn Φ=>cP (X:=Q5 X ca pn Φ) (ha pn Φ)
theorem VY(ha:Gg ca X a ta):iF ca X (.BoolOp .Or [a] pos) ta:=λpn Φ=>jJ (X:=Q5 X ca pn Φ) (ha pn Φ)
theorem Gv(ha:Gg ca X a ta)(hb:iF ca X (.BoolOp .And (b::rest) pos) tb):iF ca X (.BoolOp .And (a::b::rest) pos) (JR ta tb):=
 λpn Φ=>Pb (jK (X:=Q5 X ca pn Φ) (ha pn Φ) (hb pn Φ)) λσ H Q ⟨σ3,g,μ,R,p⟩=>Eh (N5 R p) λb H1 hQ=>by
  obtain⟨g1,μ1,e1,R1,p1⟩:=hQ;cases b with
  |true=>rw[Ub rfl]at p1 ⊢;exact⟨σ3,g1,μ1,R1,p1⟩|false=>rw[Ud Uf]at p1 ⊢;exact p1 H1 μ1 .refl R1.g
theorem KP(ha:Gg ca X a ta)(hb:iF ca X (.BoolOp .Or (b::rest) pos) tb):iF ca X (.BoolOp .Or (a::b::rest) pos) (Ko ta tb):=
 λpn Φ=>Pb (nD (X:=Q5 X ca pn Φ) (ha pn Φ) (hb pn Φ)) λσ H Q ⟨σ3,g,μ,R,p⟩=>Eh (N5 R p) λb H1 hQ=>by
  obtain⟨g1,μ1,e1,R1,p1⟩:=hQ;cases b with
  |true=>rw[Ub rfl]at p1 ⊢;exact p1 H1 μ1 .refl R1.g|false=>rw[Ud Uf]at p1 ⊢;exact⟨σ3,g1,μ1,R1,p1⟩
theorem N6(h:iF ca X e ta):Gg ca X e ta:=λpn Φ=>(h pn Φ).pt
theorem oM(ha:QW ca X a ma):QW ca X (.UnaryOp .Not a pos) (oH ma):=
 λpn Φ=>ZP (jO (X:=Q5 X ca pn Φ) (ha pn Φ)) λσ H Q ⟨σ3,g,μ,R,p⟩=>Z0 (JT R p) λx H1 hQ=>by
  obtain⟨d,g1,μ1,e1,R1,q1,p1⟩:=hQ;cases q1 with
  |bl b=>exact⟨b,rfl,p1 _ H1 μ1 .refl R1.g (.bl _)⟩|_=>exact p1.elim
theorem Cm{op:BoolOp}(ha:QW ca X a ma):QW ca X (.BoolOp op [a] pos) ma:=λpn Φ=>jM (X:=Q5 X ca pn Φ) (ha pn Φ)
theorem Vm(ha:QW ca X a ma)(hb:QW ca X (.BoolOp .And (b::rest) pos) mb):QW ca X (.BoolOp .And (a::b::rest) pos) (Jt ma mb):=
 λpn Φ=>ZP (jN (X:=Q5 X ca pn Φ) (ha pn Φ) (hb pn Φ)) λσ H Q ⟨σ3,g,μ,R,p⟩=>Z0 (JT R p) λx H1 hQ=>by
  obtain⟨d,g1,μ1,e1,R1,q1,p1⟩:=hQ;cases q1 with
  |bl b=>
   refine⟨b,rfl,?_⟩;cases b with
   |true=>rw[Ub rfl];exact⟨σ3,g1,μ1,R1,p1⟩|false=>rw[Ud Uf];exact p1 _ H1 μ1 .refl R1.g (.bl _)
  |_=>exact p1.elim
theorem JW(hc:Gg ca X c tc)(ha:QW ca X a ma)(hb:QW ca X b mb):QW ca X (.IfExp c a b pos) (Xn tc ma mb):=
 λpn Φ=>ZP (A2 (X:=Q5 X ca pn Φ) (hc pn Φ) (ha pn Φ) (hb pn Φ)) λσ H Q ⟨σ3,g,μ,R,p⟩=>Eh (kP R p) λb H1 hQ=>by
  obtain⟨g1,μ1,e1,R1,p1⟩:=hQ;cases b with
  |true=>rw[Ub rfl]at p1 ⊢;exact⟨σ3,g1,μ1,R1,p1⟩|false=>rw[Ud Uf]at p1 ⊢;exact⟨σ3,g1,μ1,R1,p1⟩
theorem JX:SZ<=sizeLine:=by rw[Ry];decide
theorem Dens.sz{K:Frag}{μ:List Addr}{H:Hp}{vs:List V}{ds:List D}(h:Dens K μ H vs ds)(z:ds.length<=SZ):vs.length<=sizeLine:=by rw[h.length];exact Um z JX
theorem QP{k:Nat}(h:AW ca X es mr):QW ca X (.Tuple es k pos) (QA QO mr):=
 λpn Φ=>ZP (De (X:=Q5 X ca pn Φ) (h pn Φ)) λσ H Q ⟨σ3,g,μ,R,p⟩=>W0 (Gs R p) λxs H1 hQ=>by
  obtain⟨ds,g1,μ1,e1,R1,q1,p1⟩:=hQ;unfold QO at p1;by_cases z:ds.length<=SZ
  ·rw[Ub z]at p1;exact⟨q1.sz z,λt ht=>p1 _ _ μ1 (ZD ht) (R1.g.new ht) (.tup (.of QN) (q1.mono (ZD ht)))⟩
  ·rw[Ud z]at p1;exact p1.elim
theorem W9(h:AW ca X es mr):QW ca X (.List es pos) (QA JS mr):=
 λpn Φ=>ZP (kF (X:=Q5 X ca pn Φ) (h pn Φ)) λσ H Q ⟨σ3,g,μ,R,p⟩=>W0 (Gs R p) λxs H1 hQ=>by
  obtain⟨ds,g1,μ1,e1,R1,q1,p1⟩:=hQ;unfold JS at p1;by_cases z:ds.length<=SZ
  ·rw[Ub z]at p1;refine⟨q1.sz z,λt ht=>p1 _ _ (μ1++[t]) (Zr ht) (R1.g.push ht ⟨xs,QN,q1.mono (Zr ht)⟩) (.ref ?_)⟩;rw[<-R1.g.len];simp
  ·rw[Ud z]at p1;exact p1.elim
end
end L3
namespace L3
open PySem PySem.Spec PyProof.Rows L2
section
variable{X:Cx}{ca:Nat->Addr}{pins:Js}{σ:L2.St}{H:Hp}{s:Shared}{a:Addr}{x:Xc}{E:VP}
theorem Dq(I:Inv (Q5 X ca pn Φ) pins σ H s):Inv (HR X pn) pins σ H s:=(Inv.wish I λ_ _=>False)
theorem Lp(I:Inv X pins σ H s)(hb:s.heap.get? b=none)(hn:H' b=none):AV X pins H' b:=by
 refine⟨hn,λz=>?_,λz=>?_,?_,λx c e z=>?_,λp hp z=>?_⟩
 ·obtain⟨m,⟨o,_,_,ho,_⟩,_⟩:=I.loc;rw[z,ho]at hb;cases hb
 ·obtain⟨_,o,ho,_⟩:=I.funs.mem z;rw[ho]at hb;cases hb
 ·by_cases hx:b∈X.ex
  ·exact .inl hx
  ·refine .inr ?_;cases q:X.s₀.heap.get? b with
   |none=>rfl|some o =>obtain⟨o',e'⟩:=I.base.there b o q hx;rw[e']at hb;cases hb
 ·obtain⟨v,o,ho,_⟩:=I.cell x c e;rw[z,hb]at ho;cases ho
 ·rw[<-z,(I.pin p hp).1]at hb;cases hb
theorem SO{H':Hp}{h':Heap}{g':Array GenState}{t':Nat}{d':Drawn}{ch:List Addr}(I:Inv X pins σ H s)(hch:∀b∈ch,(b∈X.ex\/X.s₀.heap.get? b=none)/\b≠X.env.locals/\(∀x c,X.env.cells.lookup x=some c->c≠b)/\∀p∈X.pn++pins,p.1≠b)(keep:∀b o,b≠X.env.locals->b∉X.fs->b∉ch->s.heap.get? b=some o->H b=none->h'.get? b=some o)(slot:∀b o,b≠X.env.locals->b∈X.fs->b∉ch->s.heap.get? b=some o->H b=none->∃sl,h'.get? b=some {o with slots:=sl})(free:∀b o,b∉ch->s.heap.get? b=some o->H b=none->H' b=none)(there:∀b o,b∉ch->s.heap.get? b=some o->∃o',h'.get? b=some o')(tups:∀b xs,H b=some (.tup xs)->H' b=some (.tup xs))(frzs:∀b o u,H b=some (.frz o u)->H' b=some (.frz o u))(tbls:∀b ps,H b=some (.tbl ps)->∃more,H' b=some (.tbl (ps++more)))(ns:∀m,s.heap.Ns X.env.locals m->h'.Ns X.env.locals m)(hok:HOk X.prog X.w H' h')(hg:AllBare g'):
  Inv X pins σ H' {s with heap:=h',gens:=g',drawn:=d',toks:=t'}:=by
 have neL:∀b o,X.s₀.heap.get? b=some o->b≠X.env.locals:=λb o e=>UR (UH (Ut e) I.ok.above);have neC:∀b o,X.s₀.heap.get? b=some o->b∉X.ex->b∉ch:=λb o e hx hb=>by
  rcases(hch b hb).1 with z|z
  ·exact hx z
  ·rw[z]at e;cases e
 have cellK:∀x c,X.env.cells.lookup x=some c->∀v,s.heap.IsCell c v->h'.IsCell c v:=λx c e v hQ=>by
  obtain⟨o,ho,hd⟩:=hQ;have nch:c∉ch:=λz=>(hch c z).2.2.1 x c e rfl;by_cases hc:c∈X.fs
  ·obtain⟨sl,q⟩:=slot c o (I.cne x c e) hc nch ho (I.freeC x c e);exact⟨_,q,hd⟩
  ·exact⟨o,keep c o (I.cne x c e) hc nch ho (I.freeC x c e),hd⟩
 refine⟨I.ok,I.os,hg,⟨λb o e n hb hx=>?_,λb o e n hb hx=>?_,λb o e n hx=>?_,λb o e hx=>?_,λb xs e=>tups b xs (I.base.tups b xs e),λb o xs e=>frzs b o xs (I.base.frzs b o xs e),λb ps e=>?_⟩,?_,λx c e=>?_,?_,λx c e=>?_,λp hp=>?_,hok,I.len⟩
 ·exact keep b o (neL b o e) hb (neC b o e hx) (I.base.keep b o e n hb hx) (I.base.free b o e n hx)
 ·obtain⟨sl,e1⟩:=I.base.slot b o e n hb hx;obtain⟨sl',e2⟩:=slot b _ (neL b o e) hb (neC b o e hx) e1 (I.base.free b o e n hx);exact⟨sl',e2⟩
 ·obtain⟨o',e1⟩:=I.base.there b o e hx;exact free b o' (neC b o e hx) e1 (I.base.free b o e n hx)
 ·obtain⟨o',e1⟩:=I.base.there b o e hx;exact there b o' (neC b o e hx) e1
 ·obtain⟨m1,e1⟩:=I.base.tbls b ps e;obtain⟨m2,e2⟩:=tbls b _ e1;exact⟨m1++m2,by rw[e2,Wa]⟩
 ·obtain⟨m,hn,hl⟩:=I.loc;refine⟨m,ns m hn,λi x v e1 e2 e3=>?_⟩;obtain⟨u,r,l⟩:=hl i x v e1 e2 e3;refine⟨u,r,?_⟩;rcases l with l|⟨k,c,e,z⟩
  ·exact .inl l
  ·exact .inr ⟨k,c,e,cellK x c e _ z⟩
 ·obtain⟨v,z⟩:=I.cell x c e;exact⟨v,cellK x c e v z⟩
 ·obtain⟨m,⟨o,_,_,ho,_⟩,_⟩:=I.loc;exact free _ o (λz=>(hch _ z).2.1 rfl) ho I.free
 ·obtain⟨v,o,ho,hd⟩:=I.cell x c e;exact free c o (λz=>(hch c z).2.2.1 x c e rfl) ho (I.freeC x c e)
 ·obtain⟨e,n,ne,nf,d⟩:=I.pin p hp;have nch:p.1∉ch:=λz=>(hch p.1 z).2.2.2 p hp rfl;exact⟨keep p.1 p.2 ne nf nch e n,free p.1 p.2 nch e n,ne,nf,d⟩
theorem Mr{ch:List Addr}{h':Heap}(I:Inv X pins σ H s)(hch:∀b∈ch,AV X pins H b)(keep:∀b o,b∉ch->b≠X.env.locals->b∉X.fs->s.heap.get? b=some o->h'.get? b=some o)(slot:∀b o,b∉ch->s.heap.get? b=some o->∃sl,h'.get? b=some {o with slots:=sl}):Inv X pins σ H {s with heap:=h'}:=by
 have nl:X.env.locals∉ch:=λz=>(hch _ z).2.1 rfl;have nt:∀b v,H b=some v->b∉ch:=λb v e z=>by rw[(hch b z).1]at e;cases e
 have nf:∀b v,H b=some v->b∉X.fs:=λb v e z=>by obtain⟨_,o,ho,_⟩:=I.ok.funs.mem z;have:=I.base.free b o ho (I.ok.frf b z) λq=>I.ok.exfs b q z;rw[this]at e;cases e
 have nL:∀b v,H b=some v->b≠X.env.locals:=λb v e z=>by rw[z,I.free]at e;cases e
 refine SO (h':=h') (H':=H) (g':=s.gens) (t':=s.toks) (d':=s.drawn) (ch:=ch) I (λb hb=>⟨(hch b hb).2.2.2.1,(hch b hb).2.1,(hch b hb).2.2.2.2.1,(hch b hb).2.2.2.2.2⟩) (λb o h1 h2 h3 e _=>keep b o h3 h1 h2 e) (λb o _ _ h3 e _=>slot b o h3 e)
  (λb o _ _ n=>n) (λb o h e=>let ⟨sl,q⟩:=slot b o h e;⟨_,q⟩) (λb v e=>e) (λb o v e=>e) (λb ps e=>⟨#[],by rw[e];simp⟩) (λm hm=>?_) (λb v e=>?_) I.bare
 ·obtain⟨o,es,ep,ho,rr⟩:=hm;obtain⟨sl,q⟩:=slot _ o nl ho;exact⟨_,es,ep,q,rr⟩
 ·refine(I.hok b v e).stay (λc' v' hc' q=>?_) (λc' q=>q) λc' xs' q=>q;rcases hc' with rfl|hc'
  ·exact keep _ _ (nt _ _ e) (nL _ _ e) (nf _ _ e) q
  ·exact keep _ _ (nt _ _ hc') (nL _ _ hc') (nf _ _ hc') q
def FlN(X:Cx)(ca:Nat->Addr)(a:Addr)(x:Xc)(H:Hp)(h:Heap):Prop:=AV X [] H a/\x.2=none/\∃oe vs T oT ts,h.get? a=some oe/\XOb ca x oe/\oe.data=.fields vs/\vs[1]?=some (.ref T)/\T≠a/\AV X [] H T/\h.get? T=some oT/\oT.data=.fields ts/\ts[3]?=some (rawInt X.env.locals)
def qU(X:Cx)(ca:Nat->Addr)(a:Addr)(x:Xc)(H:Hp)(h:Heap):Prop:=AV X [] H a/\x.2=none/\∃oe vs T oT ts,h.get? a=some oe/\XOb ca x oe/\oe.data=.fields vs/\vs[1]?=some (.ref T)/\T≠a/\AV X [] H T/\h.get? T=some oT/\oT.data=.fields ts/\3<ts.size
theorem FlN.t(f:FlN X ca a x H h):qU X ca a x H h:=by obtain⟨f1,f2,oe,vs,T,oT,ts,e1,e2,e3,e4,e5,e6,e7,e8,e9⟩:=f;exact⟨f1,f2,oe,vs,T,oT,ts,e1,e2,e3,e4,e5,e6,e7,e8,(Tf.mp e9).1⟩
theorem FlN.fl(f:FlN X ca a x H h):Fl X ca a x H h:=by obtain⟨f1,f2,oe,vs,T,oT,ts,e1,e2,e3,e4,e5,e6,e7,e8,e9⟩:=f;exact⟨f1,f2,oe,vs,e1,e2,e3,(Tf.mp e4).1,.inr ⟨T,oT,ts,e4,e5,e6,e7,e8,(Tf.mp e9).1,.inr e9⟩⟩
theorem Gw{h:Heap}{b:Addr}{o:Obj}{ts:Array Value}(i:Nat)(v:Value)(e:h.get? b=some o)(d:o.data=.fields ts):
  (h.update b (Obj.mapFields (·.setIfInBounds i v))).get? b=some (o.mapFields (·.setIfInBounds i v))/\(o.mapFields (·.setIfInBounds i v)).data=.fields (ts.setIfInBounds i v)/\(o.mapFields (·.setIfInBounds i v)).cls=o.cls:=⟨T3 _ e (RF (TY d _)),TY d _,Obj.cls_mapFields _ _⟩
theorem Ms{base:Heap}{env:Env}{outer:List Env}{L:Addr}{oe:Obj}{vs:Array Value}{head:Value}{hn:Bool}{M:Model}{A:Around}{Q:Unit->Shared->Prop}(hfr:A.frames=some (env::outer))(hl:s.heap.FunFrames base (env::outer))(hf:env.frame=some L)(he:s.heap.get? a=some oe)(hd:oe.data=.fields vs)(hsz:1<vs.size)(ha:a∉(env::outer).filterMap (·.frame))(k:∀h₁ (cells:Array Value),Heap.SlotsOnly ((env::outer).filterMap (·.frame)) s.heap h₁->cells[3]?=some (rawInt L)->Q () {s with heap:=(h₁.push {cls:=.type "traceback",dict:=none,data:=.fields cells}).update a (Obj.mapFields (·.setIfInBounds 1 (.ref h₁.objs.size)))}):
  wpAny M A (do let fv <-frameOf env;let pl <-entryPlaceOf L hn;let b <-EntryCells.newEntry head fv .none (rawInt L) .none pl;setField (.ref a) 1 b) Q E s:=by
 refine Uc (wpAny_frameOf_fun hfr hl hf λh₁ so=>Uc (wpAny_entryPlaceOf λpl hpl=>?_));unfold EntryCells.newEntry newFields;refine Uc (U5 ?_ (hpl.sizeOk5 _ _ _ _ _));have e1:h₁.get? a=some oe:=(so.2.1 a ha).trans he;refine T9 (Ug _ e1) hd hsz (k h₁ _ so ?_);first
  | (simp;done)
  | (rcases hpl with rfl|⟨_,_,_,_,_,_,_,rfl⟩<;>simp)
theorem Lq{M:Model}{Q:Unit->Shared->Prop}(I:Inv X [] σ H s)(hk:X.stack=X.env::X.outer)(hf:X.env.frame=some X.env.locals)(fl:Fl X ca a x H s.heap)(k:∀h',Inv X [] σ H {s with heap:=h'}->FlN X ca a x H h'->Q () {s with heap:=h'}):wpAny M X.A (noteFrame (.ref a) X.env) Q E s:=by
 obtain⟨fp,ln,oe,vs,he,hc,hd,hsz,hv⟩:=fl;have hfr:X.A.frames=some (X.env::X.outer):=by rw[<-hk];exact I.ok.frames
 have hst:s.heap.FunFrames X.base (X.env::X.outer):=by rw[<-hk];exact I.stack
 have hfs:(X.env::X.outer).filterMap (·.frame)=X.env.locals::X.fs:=by rw[Tz,hf];rfl
 have ha:a∉(X.env::X.outer).filterMap (·.frame):=by
  rw[hfs];intro z;rcases UE.mp z with z|z
  ·exact fp.2.1 z
  ·exact fp.2.2.1 z
 -- an entry is laid over a heap that differs from s at ch alone
 have fin:∀(h0 h₁:Heap)(cells:Array Value)(ch:List Addr),(∀b∈ch,AV X [] H b)->(∀b o,b∉ch->s.heap.get? b=some o->h0.get? b=some o)->h0.objs.size=s.heap.objs.size->h0.get? a=some oe->Heap.SlotsOnly ((X.env::X.outer).filterMap (·.frame)) h0 h₁->cells[3]?=some (rawInt X.env.locals)->Q () {s with heap:=(h₁.push {cls:=.type "traceback",dict:=none,data:=.fields cells}).update a (Obj.mapFields (·.setIfInBounds 1 (.ref h₁.objs.size)))}:=by
  intro h0 h₁ cells ch hch hk0 hz he0 so hcl;have e1:h₁.get? a=some oe:=(so.2.1 a ha).trans he0;obtain⟨u1,u2,u3⟩:=Gw 1 (.ref h₁.objs.size) (Ug {cls:=.type "traceback",dict:=none,data:=.fields cells} e1) hd;have hTa:h₁.objs.size≠a:=B6 (Ut e1);have oth:∀b o,b≠a->h₁.get? b=some o->((h₁.push {cls:=.type "traceback",dict:=none,data:=.fields cells}).update a (Obj.mapFields (·.setIfInBounds 1 (.ref h₁.objs.size)))).get? b=some o:=λb o hb e=>
   (Th _ _ (Ne.symm hb)).trans (Ug _ e)
  refine k _ (Mr (ch:=a::ch) I (λb hb=>?_) (λb o h1 h2 h3 e=>?_) λb o h1 e=>?_) ⟨fp,ln,_,_,h₁.objs.size,_,cells,u1,hc.map _,u2,by simp[hsz],hTa,?_,(Th _ _ (Ne.symm hTa)).trans (UA _ rfl),rfl,hcl⟩
  ·rcases UE.mp hb with e|e
   ·rw[e];exact fp
   ·exact hch b e
  ·refine oth b o (λz=>h1 (by rw[z];exact UB)) ?_;rw[so.2.1 b (by rw[hfs];intro z;rcases UE.mp z with z|z;(· exact h2 z);exact h3 z)];exact hk0 b o (λz=>h1 (Uv _ z)) e
  ·obtain⟨sl,q⟩:=so.2.2 b o (hk0 b o (λz=>h1 (Uv _ z)) e);exact⟨sl,oth b _ (λz=>h1 (by rw[z];exact UB)) q⟩
  ·refine Lp I (Heap.get?_none_of_le ?_) (I.hok.fresh ?_)<;>rw[so.1,hz]<;>exact Ui _
 unfold noteFrame;simp only[hf];rcases hv with hv|⟨T,oT,ts,hv,hTa,fT,hT,hdT,hs3,h3⟩
 ·refine Uc (Tn he hd hv ?_);rw[Ud (by decide)];exact Ms hfr hst hf he hd hsz ha λh₁ cells so hcl=>fin s.heap h₁ cells [] (by simp) (λ_ _ _ e=>e) rfl he so hcl
 ·refine Uc (Tn he hd hv ?_);rw[Ub (show(Value.ref T != Value.none)=true from by simp)];rcases h3 with h3|h3
  ·refine Uc (Tn hT hdT h3 ?_);rw[Ud (show ¬((Value.none==rawInt X.env.locals)=true) from by simp[rawInt])];refine Uc (T9 hT hdT hs3 ?_);have oth:∀b o,b≠T->s.heap.get? b=some o->(s.heap.update T (Obj.mapFields (·.setIfInBounds 3 Value.none))).get? b=some o:=λb o hb e=>(Th _ _ (Ne.symm hb)).trans e;have kp:∀b o,s.heap.get? b=some o->(∀vs,o.data≠.fields vs)->(s.heap.update T (Obj.mapFields (·.setIfInBounds 3 Value.none))).get? b=some o:=λb o e n=>oth b o (λz=>by rw[z,hT]at e;cases e;exact n _ hdT) e;refine Ms (s:={s with heap:=s.heap.update T (Obj.mapFields (·.setIfInBounds 3 Value.none))}) hfr (hst.of_keeps λb o e n=>⟨o,kp b o e n,rfl⟩) hf (oth a oe (Ne.symm hTa) he) hd hsz ha λh₁ cells so hcl=>?_;exact fin _ h₁ cells [T] (λb hb=>by rw[Ur.mp hb];exact fT) (λb o hb e=>oth b o (λz=>hb (by simp[z])) e) (Heap.size_after_update ..) (oth a oe (Ne.symm hTa) he) so hcl
  ·refine Uc (Tn hT hdT h3 ?_);rw[Ub (show(rawInt X.env.locals==rawInt X.env.locals)=true from by simp)];exact Up (k s.heap I ⟨fp,ln,oe,vs,T,oT,ts,he,hc,hd,hv,hTa,fT,hT,hdT,h3⟩)
theorem Ka{M:Model}{A:Around}{Q:Unit->Shared->Prop}{fo:Option Addr}(I:Inv X [] σ H s)(fl:qU X ca a x H s.heap)(k:∀h' T oT ts oe vs,Inv X [] σ H {s with heap:=h'}->h'.get? a=some oe->XOb ca x oe->oe.data=.fields vs->vs[1]?=some (.ref T)->T≠a->AV X [] H T->h'.get? T=some oT->oT.data=.fields ts->3<ts.size->ts[3]?=some (fo.elim Value.none λf=>rawInt f)->Q () {s with heap:=h'}):wpAny M A (setFlight (.ref a) fo) Q E s:=by
  obtain⟨fp,ln,oe,vs,T,oT,ts,he,hc,hd,hv,hTa,fT,hT,hdT,hs3⟩:=fl;unfold setFlight;refine Uc (Tn he hd hv ?_);rw[Ub (show(Value.ref T != Value.none)=true from by simp)];have oth:∀b o,b≠T->s.heap.get? b=some o->(s.heap.update T (Obj.mapFields (·.setIfInBounds 3 (fo.elim Value.none λf=>rawInt f)))).get? b=some o:=λb o hb e=>(Th _ _ (Ne.symm hb)).trans e;obtain⟨u1,u2,u3⟩:=Gw 3 (fo.elim Value.none λf=>rawInt f) hT hdT;refine T9 hT hdT hs3 (k _ T _ _ oe vs (Mr (ch:=[T]) I (λb hb=>by rw[Ur.mp hb];exact fT) (λb o h1 _ _ e=>oth b o (λz=>h1 (by simp[z])) e) λb o h1 e=>⟨o.slots,oth b o (λz=>h1 (by simp[z])) e⟩)
    (oth a oe (Ne.symm hTa) he) hc hd hv hTa fT u1 u2 (by simpa using hs3) (by simp[hs3]))
theorem Dr(hk:X.stack=X.env::X.outer)(hf:X.env.frame=some X.env.locals)(pn:Js)(Φ:XS):PassesOwn (model X.prog X.w) X.A X.env (Q5 X ca pn Φ).xe:=by rintro v s ⟨a,x,σ,H,rfl,I,fl,q⟩;refine Lq (X:=HR X pn) I hk hf fl λh1 I1 f1=>?_;unfold cameBackBy;obtain⟨fp,ln,oe,vs,T,oT,ts,he,hc,hd,hv,hTa,fT,hT,hdT,h3⟩:=id f1;refine Uc (Tn he hd hv ?_);rw[Ud (show ¬((Value.ref T==Value.none)=true) from by simp)];refine Ka (X:=HR X pn) (fo:=X.env.frame) I1 f1.t λh2 T oT ts oe vs I2 a1 a2 a3 a4 a5 a6 a7 a8 a9 a10=>?_;rw[hf]at a10;exact⟨a,x,σ,H,rfl,I2,FlN.fl ⟨fp,ln,oe,vs,T,oT,ts,a1,a2,a3,a4,a5,a6,a7,a8,a10⟩,q⟩
end
def N7(P:Program)(w:World)(ca:Nat->Addr):Df:=λouter H s E v s'=>∃(a:Addr)(x:Xc)(H':Hp),v=.ref a/\s'.os=s.os/\AllBare s'.gens/\Un (O4 outer) [] H H' s.heap s'.heap/\HOk P w H' s'.heap/\x.2=none/\(∃oe vs T oT ts,s.heap.get? a=none/\H' a=none/\s'.heap.get? a=some oe/\XOb ca x oe/\oe.data=.fields vs/\vs[1]?=some (.ref T)/\T≠a/\s.heap.get? T=none/\H' T=none/\s'.heap.get? T=some oT/\oT.data=.fields ts/\ts[3]?=some .none)/\E (.int x.1 0) x.2 H'
section
variable{P:Program}{w:World}{K:Frag}{mg:VX}{base:Heap}{ca:Nat->Addr}
theorem Ds{N:List Str}{qual:Str}{scope:Scope}{f:Addr}{cd:Value}{A:Around}{outer:List Env}{s s':Shared}{H:Hp}{E:XK}{v:Value}(h:XE (HR (ER (N7 P w ca) P w K mg base N qual scope f cd A outer s H E) []) ca (λx _ H'=>E (.int x.1 0) x.2 H') v s'):(ER (N7 P w ca) P w K mg base N qual scope f cd A outer s H E).xe v s':=by
 obtain⟨a,x,σ,H',rfl,I,fl,q⟩:=h;show wpAny _ _ (leaving _ (.ref a)) _ _ s';unfold leaving;refine Uc (Lq I rfl rfl fl λh1 I1 f1=>?_);obtain⟨fp,ln,_⟩:=id f1;refine Ka (fo:=none) I1 f1.t λh2 T oT ts oe vs I2 a1 a2 a3 a4 a5 a6 a7 a8 a9 a10=>?_;refine⟨a,x,H',rfl,I2.os,I2.bare,I2.base,I2.hok,ln,⟨oe,vs,T,oT,ts,?_,fp.1,a1,a2,a3,a4,a5,?_,a6.1,a7,a8,a10⟩,q⟩
 ·rcases fp.2.2.2.1 with z|z
  ·exact absurd (show a∈([]:List Addr) from z) (by simp)
  ·exact z
 ·rcases a6.2.2.2.1 with z|z
  ·exact absurd (show T∈([]:List Addr) from z) (by simp)
  ·exact z
end
section
variable{X:Cx}{ca:Nat->Addr}{pn:Js}{Φ:XS}
theorem Pd(I:Inv (Q5 X ca pn Φ) pins σ H s)(h:N7 X.prog X.w ca X.stack H s (λc l H'=>∀x:Xc,c=.int x.1 0->l=x.2->Φ x σ H') v s'):(Q5 X ca pn Φ).xe v s':=by obtain⟨a,x,H',rfl,os,bare,un,hok,ln,⟨oe,vs,T,oT,ts,e1,e2,e3,e4,e5,e6,e7,e8,e9,e10,e11,e12⟩,q⟩:=h;have I0:Inv (HR X pn) [] σ H s:=(Dq I).pins_of λp hp=>absurd hp (by simp);have I1:Inv (HR X pn) [] σ H' s':=Inv.call' (ch:=[]) I0 os un hok bare λb z=>absurd z (by simp);refine⟨a,x,σ,H',rfl,I1,⟨Lp I0 e1 e2,ln,oe,vs,e3,e4,e5,(Tf.mp e6).1,.inr ⟨T,oT,ts,e6,e7,Lp I0 e8 e9,e10,e11,(Tf.mp e12).1,.inl e12⟩⟩,q x rfl rfl⟩
end
section
variable{X:Cx}{ca:Nat->Addr}{a b c e:Expr}{st:Stmt}{sts rest:List Stmt}{ma mb me:ME}{tc:MT}{m m':MS}{pos:Pos}
theorem QB:EW ca X [] QI:=λpn Φ=>Mn (O6 (X:=Q5 X ca pn Φ)) λ_ σ H ⟨_,_,μ,R,p⟩=>p σ H μ .refl R
theorem kR{K:Frag}{Φ:XS}(E:Ends)(σ:L2.St)(H:Hp)(h:mU K ca Φ (Qq m m') E σ H):nH (mU K ca Φ m) (mU K ca Φ m') E σ H:=by
 obtain⟨σ3,g,μ,R,p⟩:=h;refine⟨σ3,g,μ,R,?_⟩;unfold Qq at p;cases hm:m σ3 g with
 |nx σ1 g1 =>rw[hm]at p;exact λσ' H' μ' e' R'=>⟨σ1,g1,μ',R',PostS.go e' p⟩
 |rt d g1=>rw[hm]at p;exact p|bk _ _=>rw[hm]at p;exact p|ct _ _=>rw[hm]at p;exact p|raise _ _ _=>rw[hm]at p;exact p|stuck=>rw[hm]at p;exact p
theorem Qf(h1:L9 ca X st m)(h2:EW ca X rest m'):EW ca X (st::rest) (Qq m m'):=λpn Φ=>Mn (A3 (X:=Q5 X ca pn Φ) (h1 pn Φ) (h2 pn Φ)) kR
theorem Qi(h1:L9 ca X st m):EW ca X [st] m:=λpn Φ=>cQ (X:=Q5 X ca pn Φ) (h1 pn Φ)
theorem Z3(he:QW ca X e me)(hs:swapsWith e none pos.line X.env=pure false:=by rfl):L9 ca X (.Expr e pos) (Zf me):=
 λpn Φ=>JU (cS (X:=Q5 X ca pn Φ) (he pn Φ) hs) λE σ H ⟨σ3,g,μ,R,p⟩=>⟨σ3,g,μ,R,by
  unfold Zf at p;cases hm:me σ3 g with
  |ok d g1=>rw[hm]at p;exact λv H' μ' e' r' _=>p σ H' μ' e' (R.go e' r')
  |raise _ _=>rw[hm]at p;exact RaP.stmt R p|stuck=>rw[hm]at p;exact p⟩
theorem QD(he:QW ca X e me):L9 ca X (.Return (some e) pos) (QU me):=
 λpn Φ=>JU (jP (X:=Q5 X ca pn Φ) (he pn Φ)) λE σ H ⟨σ3,g,μ,R,p⟩=>⟨σ3,g,μ,R,by
  unfold QU at p;cases hm:me σ3 g with
  |ok d g1=>rw[hm]at p;exact p|raise _ _=>rw[hm]at p;exact RaP.stmt R p|stuck=>rw[hm]at p;exact p⟩
theorem kS:L9 ca X (.Return none pos) Dm:=λpn Φ=>JU (cT (X:=Q5 X ca pn Φ)) λ_ σ H ⟨_,_,μ,R,p⟩=>p .non H μ .refl R.g .non
theorem Zj(hc:Gg ca X c tc)(ha:EW ca X sa m)(hb:EW ca X sb m'):L9 ca X (.If c sa sb pos) (Ye tc m m'):=
 λpn Φ=>JU (nK (X:=Q5 X ca pn Φ) (hc pn Φ) (ha pn Φ) (hb pn Φ)) λE σ H ⟨σ3,g,μ,R,p⟩=>⟨σ3,g,μ,R,by
  unfold Ye at p;cases hm:tc σ3 g with
  |ok d g1=>
   rw[hm]at p;cases d with
   |true=>exact λH' μ' e' r'=>by show(if true=true then _ else _);rw[Ub rfl];exact⟨σ3,g1,μ',R.go e' r',PostS.go e' (by simpa using p)⟩
   |false=>exact λH' μ' e' r'=>by show(if false=true then _ else _);rw[Ud Uf];exact⟨σ3,g1,μ',R.go e' r',PostS.go e' (by simpa using p)⟩
  |raise _ _=>rw[hm]at p;exact RaP.stmt R p|stuck=>rw[hm]at p;exact p⟩
def vP(K:Frag)(ca:Nat->Addr)(f:MG):TG:=λv σ H Q=>∃σ3 g μ d σ3',Rep K ca μ σ3 g σ H/\Den K μ H v d/\f d σ3=some σ3'/\∀σ',Rep K ca μ σ3' g σ' H->Q σ' H
def dQ(ca:Nat->Addr)(X:Cx)(tg:Expr)(f:MG):Prop:=∀pn Φ,PG (Q5 X ca pn Φ) tg (vP X.K ca f)
theorem Pe(h:PG X tg t)(i:∀v σ H Q,t' v σ H Q->t v σ H Q):PG X tg t':=λpins s σ H x u Q I r q=>h pins s σ H x u Q I r (i x σ H Q q)
theorem Rep.set{K:Frag}{μ:List Addr}{σ3:S3}{g:G}{σ:L2.St}{H:Hp}{v:V}{d:D}(R:Rep K ca μ σ3 g σ H)(h:Den K μ H v d)(i:Nat):Rep K ca μ (σ3.set i (some d)) g (σ.set i (some v)) H:=by
 refine⟨R.g,by rw[UJ,UJ,R.len],λj x hx=>?_⟩;by_cases e:j=i
 ·subst e;have hl:j<σ3.length:=by have:=(Uj.mp hx).1;simpa using this
  rw[Tg hl]at hx;cases hx;exact⟨v,by rw[Tg (by rw[R.len];exact hl)],h⟩
 ·rw[Uh (Ne.symm e)]at hx;obtain⟨w,h1,h2⟩:=R.st j x hx;exact⟨w,by rw[Uh (Ne.symm e)];exact h1,h2⟩
theorem QG(i:Nat){x:Str}(hN:X.N.Nodup)(hi:X.N[i]?=some x:=by rfl)(hx:Loc X.env.scope x:=by first|exact Or.inl rfl|exact Or.inr rfl)(hf:X.fn x=true\/X.env.scope.names.lookup x=some .local:=by first|exact .inl rfl|exact .inr rfl):dQ ca X (.Name x pos) (Qm i):=
 λpn Φ=>Pe (cU (X:=Q5 X ca pn Φ) hN hi hx hf) λv σ H Q hQ=>by obtain⟨σ3,g,μ,d,σ3',R,q,e,k⟩:=hQ;cases e;exact k _ (R.set q i)
def tI(K:Frag)(ca:Nat->Addr)(fs:List MG):hG:=λvs σ H Q=>∃σ3 g μ ds σ3',Rep K ca μ σ3 g σ H/\Dens K μ H vs ds/\IB fs ds σ3=some σ3'/\∀σ',Rep K ca μ σ3' g σ' H->Q σ' H
def dR(ca:Nat->Addr)(X:Cx)(tgs:List Expr)(fs:List MG):Prop:=∀pn Φ,jQ (Q5 X ca pn Φ) tgs (tI X.K ca fs)
theorem Mt(h:jQ X tg t)(i:∀v σ H Q,t' v σ H Q->t v σ H Q):jQ X tg t':=λpins s σ H xs us Q I r q=>h pins s σ H xs us Q I r (i xs σ H Q q)
theorem Vn:dR ca X [] []:=λpn Φ=>Mt (cV (X:=Q5 X ca pn Φ)) λvs σ H Q hQ=>by
 obtain⟨σ3,g,μ,ds,σ3',R,q,e,k⟩:=hQ;cases q with
 |nil=>cases e;exact⟨rfl,k _ R⟩|cons _ _=>cases e
theorem Zi{es:List Expr}{f:MG}{fs:List MG}(h1:dQ ca X e f)(h2:dR ca X es fs)(hs:(assignEach (e::es) X.env).map (·.2)=assign e X.env::(assignEach es X.env).map (·.2):=by rfl):dR ca X (e::es) (f::fs):=
 λpn Φ=>Mt (A4 (X:=Q5 X ca pn Φ) (h1 pn Φ) (h2 pn Φ) hs) λvs σ H Q hQ=>by
  obtain⟨σ3,g,μ,ds,σ3',R,q,e,k⟩:=hQ;cases q with
  |nil=>cases e|@cons v d vs ds q1 q2=>
   unfold IB at e;cases hf:f d σ3 with
   |none=>rw[hf]at e;cases e|some σ4 =>rw[hf]at e;exact⟨v,vs,rfl,σ3,g,μ,d,σ4,R,q1,hf,λσ' R'=>⟨σ4,g,μ,ds,σ3',R',q2,e,k⟩⟩
theorem ID:∀{fs:List MG}{ds:List D}{σ σ':S3},IB fs ds σ=some σ'->ds.length=fs.length
 |[],[],_,_,_=>rfl|[],_::_,_,_,h=>by cases h
 |_::_,[],_,_,h=>by cases h
 |f::fs,d::ds,σ,σ',h=>by
  unfold IB at h;cases hf:f d σ with
  |none=>rw[hf]at h;cases h|some σ4 =>rw[hf]at h;rw[Uz,Uz,ID (fs:=fs) h]
theorem Vo{es:List Expr}{k:Nat}{fs:List MG}(hc:X.calm=true)(h:dR ca X es fs)(hn:(assignEach es X.env).length=fs.length:=by rfl)(hst:(assignEach es X.env).findIdx? (·.1)=none:=by rfl):dQ ca X (.Tuple es k pos) (Ju fs):=
 λpn Φ=>Pe (jT (X:=Q5 X ca pn Φ) hc (h pn Φ) hn hst) λv σ H Q hQ=>by
  obtain⟨σ3,g,μ,d,σ3',R,q,e,kk⟩:=hQ;cases q with
  |@tup a vs ds ht hs =>exact⟨a,vs,rfl,ht,hs.length.trans (ID e),σ3,g,μ,ds,σ3',R,hs,e,kk⟩|_=>cases e
theorem kT{K:Frag}{Φ:XS}{f:MG}(E:Ends)(σ:L2.St)(H:Hp)(h:mU K ca Φ (Qy f me) E σ H):jU (up K ca Φ me) (vP K ca f) E σ H:=by
 obtain⟨σ3,g,μ,R,p⟩:=h;refine⟨σ3,g,μ,R,?_⟩;unfold Qy at p;cases hm:me σ3 g with
 |ok d g1=>
  rw[hm]at p;dsimp only at p;intro v H' μ' e' r' q';cases hf:f d σ3 with
  |none=>rw[hf]at p;exact p.elim|some σ4 =>rw[hf]at p;exact⟨σ3,g1,μ',d,σ4,R.go e' r',q',hf,λσ' R'=>p σ' H' μ' e' R'⟩
 |raise _ _=>rw[hm]at p;exact RaP.stmt R p|stuck=>rw[hm]at p;exact p
theorem Mu{tg:Expr}{f:MG}(he:QW ca X e me)(hg:dQ ca X tg f)(hs:swapsWithSole [tg] e pos.line X.env=pure false:=by rfl)(hw:swappedStores [tg] e X.env=pure none:=by rfl)(h1:(assignEach [tg] X.env).map (·.2)=[assign tg X.env]:=by rfl):L9 ca X (.Assign [tg] e pos) (Qy f me):=λpn Φ=>JU (NN (X:=Q5 X ca pn Φ) (he pn Φ) (hg pn Φ) hs hw h1) kT
theorem oN(i:Nat){x:Str}{pos':Pos}(hN:X.N.Nodup)(he:QW ca X e me)(hi:X.N[i]?=some x:=by rfl)(hx:Loc X.env.scope x:=by first|exact Or.inl rfl|exact Or.inr rfl)(hs:swapsWith e (some (.Name x pos')) pos.line X.env=pure false:=by rfl)(hf:X.fn x=true\/X.env.scope.names.lookup x=some .local:=by first|exact .inl rfl|exact .inr rfl):
  L9 ca X (.Assign [.Name x pos'] e pos) (Qy (Qm i) me):=
 λpn Φ=>JU (jV (X:=Q5 X ca pn Φ) hN hi hx (he pn Φ) hs hf) λE σ H h=>by
  obtain⟨σ3,g,μ,R,p⟩:=h;refine⟨σ3,g,μ,R,?_⟩;unfold Qy Qm at p;cases hm:me σ3 g with
  |ok d g1 =>rw[hm]at p;exact λv H' μ' e' r' q'=>p _ H' μ' e' ((R.go e' r').set q' i)
  |raise _ _=>rw[hm]at p;exact RaP.stmt R p|stuck=>rw[hm]at p;exact p
structure FldOk(K:Frag)(ca:Nat->Addr)(cs:List Nat)(f:Str):Prop where
 cl:∀c∈cs,Cls K (ca c)
 no:∀c∈cs,NoAttr K (ca c) f
theorem FRel.look{K:Frag}{μ:List Addr}{H:Hp}{f:Str}{d:D}:∀{fv:List (Str×V)}{fs:List (Str×D)},FRel K μ H fv fs->fs.lookup f=some d->∃v,fv.lookup f=some v/\Den K μ H v d
 |_,_,.nil,h=>by cases h
 | (k,v)::r,(k',d')::r',.cons ⟨e,q⟩ t,h=>by
  have e:k=k':=e;subst e;cases hb:f==k with
  |true =>simp only[List.lookup,hb]at h ⊢;cases h;exact⟨v,rfl,q⟩|false =>simp only[List.lookup,hb]at h ⊢;exact FRel.look t h
theorem FRel.no{K:Frag}{μ:List Addr}{H:Hp}{f:Str}:∀{fv:List (Str×V)}{fs:List (Str×D)},FRel K μ H fv fs->fs.lookup f=Option.none->fv.lookup f=Option.none
 |_,_,.nil,_=>rfl| (k,v)::r,(k',d')::r',.cons ⟨e,q⟩ t,h=>by
  have e:k=k':=e;subst e;cases hb:f==k with
  |true=>simp only[List.lookup,hb]at h;cases h|false =>simp only[List.lookup,hb]at h ⊢;exact FRel.no t h
theorem FRel.put{K:Frag}{μ:List Addr}{H:Hp}{f:Str}{v:V}{d:D}(q:Den K μ H v d):∀{fv:List (Str×V)}{fs:List (Str×D)},FRel K μ H fv fs->FRel K μ H (Km f v fv) (Yl f d fs)
 |_,_,.nil=>.cons ⟨rfl,q⟩ .nil| (k,w)::r,(k',d')::r',.cons ⟨e,z⟩ t=>by
  have e:k=k':=e;subst e;show FRel K μ H (if k=f then (k,v)::r else (k,w)::Km f v r) (if k=f then (k,d)::r' else (k,d')::Yl f d r');by_cases h:k=f
  ·rw[Ub h,Ub h];exact .cons ⟨rfl,q⟩ t
  ·rw[Ud h,Ud h];exact .cons ⟨rfl,z⟩ (FRel.put q t)
theorem Zz{cs:List Nat}{f:Str}(he:QW ca X e me)(ok:FldOk X.K ca cs f)(hb:attributeBase e f X.env (eval e X.env)=eval e X.env:=by rfl):QW ca X (.Attribute e f pos) (QY cs f me):=
 λpn Φ=>ZP (kD (X:=Q5 X ca pn Φ) (he pn Φ) hb) λσ H Q ⟨σ3,g,μ,R,p⟩=>Z0 (JT R p) λx H1 hQ=>by
  obtain⟨d,g1,μ1,e1,R1,q1,p1⟩:=hQ;cases q1 with
  |@ref n a hn=>
   dsimp only at p1;cases hg:g1[n]? with
   |none=>rw[hg]at p1;exact p1.elim|some o=>
    rw[hg]at p1;obtain⟨a',ha',ob⟩:=R1.g.addr hg;rw[hn]at ha';cases ha';cases o with
    |ins c fs=>
     dsimp only at p1;obtain⟨dx,fv,hH,fr⟩:=ob;by_cases hc:c∈cs
     ·rw[Ub hc]at p1;cases hl:fs.lookup f with
      |none=>rw[hl]at p1;exact p1.elim|some y =>rw[hl]at p1;obtain⟨v,h1,h2⟩:=fr.look hl;exact⟨a,ca c,dx,fv,v,rfl,hH,ok.cl c hc,ok.no c hc,h1,p1 v H1 μ1 .refl R1.g h2⟩
     ·rw[Ud hc]at p1;exact p1.elim
    |_=>exact p1.elim
  |_=>exact p1.elim
theorem Ja(ho:QW ca X o mo)(he:QW ca X e me)(ok:FldOk X.K ca cs f)(hs:swapsWith e (some (.Attribute o f pos')) pos.line X.env=pure false:=by rfl):
  L9 ca X (.Assign [.Attribute o f pos'] e pos) (ZC cs f mo me):=
 λpn Φ=>JU (kE (X:=Q5 X ca pn Φ) (ho pn Φ) (he pn Φ) hs) λE σ H ⟨σ3,g,μ,R,p⟩=>⟨σ3,g,μ,R,by
  unfold ZC at p;cases hm:me σ3 g with
  |ok y g1=>
   rw[hm]at p;dsimp only at p;intro vy H1 μ1 e1 r1 q1;refine⟨σ3,g1,μ1,R.go e1 r1,?_⟩;cases hm2:mo σ3 g1 with
   |ok d g2=>
    rw[hm2]at p;intro vx H2 μ2 e2 r2 q2;cases q2 with
    |@ref n a hn=>
     dsimp only at p;cases hg:g2[n]? with
     |none=>rw[hg]at p;exact p.elim|some ob=>
      rw[hg]at p;obtain⟨a',ha',orp⟩:=r2.addr hg;rw[hn]at ha';cases ha';cases ob with
      |ins c fs=>
       dsimp only at p;obtain⟨dx,fv,hH,fr⟩:=orp;by_cases hc:c∈cs/\fs.length<100
       ·rw[Ub hc]at p;have fl:fv.length=fs.length:=Paired.length fr;refine⟨a,ca c,dx,fv,rfl,hH,ok.cl c hc.1,ok.no c hc.1,by omega,?_⟩;have ex:Ext X.K μ2 H2 μ2 (YD H2 a (.ins (ca c) dx (Km f vy fv))):=XA hH (by intro _ z;cases z) (by intro _ _ z;cases z);refine p σ _ μ2 ((e1.trans e2).trans ex) ((R.go (e1.trans e2) r2).go ex ?_);exact r2.set hn hH (by intro _ z;cases z) (by intro _ _ z;cases z) ⟨dx,_,QN,FRel.put ((q1.mono e2).mono ex) (fr.mono ex)⟩
       ·rw[Ud hc]at p;exact p.elim
      |_=>exact p.elim
    |_=>exact p.elim
   |raise _ _=>rw[hm2]at p;exact(RaP.stmt R p).go e1|stuck=>rw[hm2]at p;exact p
  |raise _ _=>rw[hm]at p;exact RaP.stmt R p|stuck=>rw[hm]at p;exact p⟩
theorem JY{o i:Expr}{mo mi:ME}{pos':Pos}(ho:QW ca X o mo)(hi:QW ca X i mi)(he:QW ca X e me)(hs:swapsWithSole [.Subscript o i pos'] e pos.line X.env=pure false:=by rfl)(hw:swappedStores [.Subscript o i pos'] e X.env=pure none:=by rfl)(h1:(assignEach [.Subscript o i pos'] X.env).map (·.2)=[assign (.Subscript o i pos') X.env]:=by rfl)(ha:∀v,assign (.Subscript o i pos') X.env v=(do
   let ov <-holding [v] (eval o X.env)
   let iv <-holding [v,ov] (eval i X.env)
   standAt pos'
   holding [v,ov,iv] (setItem ov iv v)
   release [v,ov,iv] []):=by intro _;rfl):L9 ca X (.Assign [.Subscript o i pos'] e pos) (ZO mo mi me):=
 λpn Φ=>JU (NN (X:=Q5 X ca pn Φ) (he pn Φ) (A5 (X:=Q5 X ca pn Φ) (ho pn Φ) (hi pn Φ) Di ha) hs hw h1) λE σ H ⟨σ3,g,μ,R,p⟩=>⟨σ3,g,μ,R,by
  unfold ZO at p;cases hm:me σ3 g with
  |ok y g1=>
   rw[hm]at p;dsimp only at p;intro vy H1 μ1 e1 r1 q1;refine⟨σ3,g1,μ1,R.go e1 r1,?_⟩;cases hm2:mo σ3 g1 with
   |ok d g2=>
    rw[hm2]at p;intro vx H2 μ2 e2 r2 q2;cases q2 with
    |@ref n a hn=>
     dsimp only at p;refine⟨σ3,g2,μ2,R.go (e1.trans e2) r2,?_⟩;cases hm3:mi σ3 g2 with
     |ok di g3=>
      rw[hm3]at p;intro vi H3 μ3 e3 r3 q3;cases q3 with
      |int k=>
       dsimp only at p;cases hg:g3[n]? with
       |none=>rw[hg]at p;exact p.elim|some ob=>
        rw[hg]at p;obtain⟨a',ha',orp⟩:=r3.addr hg;rw[e3.at hn]at ha';cases ha';cases ob with
        |lst ds=>
         dsimp only at p;obtain⟨vs,hH,q⟩:=orp;cases hj:Gf ds.length k with
         |none=>rw[hj]at p;exact p.elim|some j =>rw[hj]at p;have ex:Ext X.K μ3 H3 μ3 (YD H3 a (.lst (vs.set j vy))):=XA hH (by intro _ z;cases z) (by intro _ _ z;cases z);refine⟨a,vs,k,j,rfl,rfl,hH,by rw[q.length];exact hj,?_⟩;refine p σ _ μ3 (((e1.trans e2).trans e3).trans ex) ((R.go ((e1.trans e2).trans e3) r3).go ex ?_);exact r3.set (e3.at hn) hH (by intro _ z;cases z) (by intro _ _ z;cases z) ⟨_,QN,Dens.set (((q1.mono e2).mono e3).mono ex) j (q.mono ex)⟩
        |_=>exact p.elim
      |_=>exact p.elim
     |raise _ _=>rw[hm3]at p;exact(RaP.stmt R p).go (e1.trans e2)|stuck=>rw[hm3]at p;exact p
    |_=>exact p.elim
   |raise _ _=>rw[hm2]at p;exact(RaP.stmt R p).go e1|stuck=>rw[hm2]at p;exact p
  |raise _ _=>rw[hm]at p;exact RaP.stmt R p|stuck=>rw[hm]at p;exact p⟩
def Dt(K:Frag)(ca:Nat->Addr)(μ0:List Addr)(H0:Hp)(src:Src)(J:It):Prop:=
 ∀(i:Nat)(H:Hp)(μ:List Addr)(g:G),Ext K μ0 H0 μ H->GRep K ca μ H g->match src.at' g i with
  |some (some d)=>J.go i H/\∀x H',J.yld i H x H'->Ext K μ H μ H'/\GRep K ca μ H' g/\Den K μ H' x d|some none=>J.stop i H|none=>True
def wK(K:Frag)(ca:Nat->Addr)(Φ:XS)(m:MI):TI:=λσ H R=>∃σ3 g μ,Rep K ca μ σ3 g σ H/\match m σ3 g with
 |.ok src g'=>∀J H' μ',Ext K μ H μ' H'->GRep K ca μ' H' g'->Dt K ca μ' H' src J->R J H'|.raise x g'=>RaP K ca Φ σ H μ x g'|.stuck=>False
def dS(ca:Nat->Addr)(X:Cx)(tg iter:Expr)(m:MI):Prop:=∀pn Φ,PI (Q5 X ca pn Φ) tg iter (wK X.K ca Φ m)
theorem YZ(hc:X.calm=true)(hi:dS ca X tg iter mi)(hg:dQ ca X tg f)(hb:EW ca X body m)(hs:∀x,foldedSetIterable iter X.env x=pure x:=by intro _;rfl)(hk:X.stack=X.env::X.outer:=by rfl)(hf:X.env.frame=some X.env.locals:=by rfl):
  L9 ca X (.For tg iter body [] pos) (YF mi f m):=
 λpn Φ=>JU (jX (X:=Q5 X ca pn Φ) (Dr hk hf pn Φ) hc (hi pn Φ) (hg pn Φ) (hb pn Φ) hs) λE σ H ⟨σ3,g,μ,R,p⟩=>⟨σ3,g,μ,R,by
  unfold YF at p;cases hm:mi σ3 g with
  |ok src g'=>
   rw[hm]at p;dsimp only at p ⊢;intro J H' μ' e' r' sim;refine⟨λi n σ1 H1=>∃σ4 g1 μ1,Ext X.K μ' H' μ1 H1/\Rep X.K ca μ1 σ4 g1 σ1 H1/\PostS X.K ca Φ E H1 μ1 (JQ src f m n i σ4 g1),⟨src.top+1,σ3,g',μ',.refl,R.go e' r',p.go e'⟩,?_⟩;rintro i n σ1 H1 ⟨σ4,g1,μ1,e1,R1,p1⟩;have s1:=sim i H1 μ1 g1 e1 R1.g;cases n with
   |zero=>exact p1.elim|succ n=>
    unfold JQ at p1;cases ha:src.at' g1 i with
    |none=>rw[ha]at p1;exact p1.elim|some od=>
     rw[ha]at p1 s1;cases od with
     |none=>exact .inl ⟨s1,p1 σ1 H1 μ1 .refl R1⟩|some d=>
      dsimp only at p1 s1;obtain⟨go,yl⟩:=s1;refine .inr ⟨go,λσ2 H2=>∃σ5 g2 μ2,Ext X.K μ' H' μ2 H2/\Rep X.K ca μ2 σ5 g2 σ2 H2/\PostS X.K ca Φ E H2 μ2 (JQ src f m n (i+1) σ5 g2),λσ2 H2 z=>⟨n,Tq n,z⟩,λx H2 y=>?_⟩;obtain⟨e2,r2,q2⟩:=yl x H2 y;cases hf:f d σ4 with
      |none=>rw[hf]at p1;exact p1.elim|some σ5=>
       rw[hf]at p1;dsimp only at p1;refine⟨σ4,g1,μ1,d,σ5,R1.go e2 r2,q2,hf,λσ6 R6=>⟨σ5,g1,μ1,R6,?_⟩⟩;cases hb:m σ5 g1 with
       |nx σ7 g7 =>rw[hb]at p1;exact λσ' H3 μ3 e3 R3=>⟨σ7,g7,μ3,(e1.trans e2).trans e3,R3,PostS.go (e2.trans e3) p1⟩
       |ct σ7 g7 =>rw[hb]at p1;exact λσ' H3 μ3 e3 R3=>⟨σ7,g7,μ3,(e1.trans e2).trans e3,R3,PostS.go (e2.trans e3) p1⟩
       |bk σ7 g7 =>rw[hb]at p1;exact λσ' H3 μ3 e3 R3=>p1 σ' H3 μ3 (e2.trans e3) R3
       |rt d7 g7 =>rw[hb]at p1;exact λv H3 μ3 e3 r3 q3=>p1 v H3 μ3 (e2.trans e3) r3 q3
       |raise _ _ _ =>rw[hb]at p1;exact λσ' H3 μ3 e3 R3=>p1 σ' H3 μ3 (e2.trans e3) R3
       |stuck=>rw[hb]at p1;exact p1
  |raise _ _=>rw[hm]at p;exact RaP.stmt R p|stuck=>rw[hm]at p;exact p⟩
theorem dU(hc:Gg ca X c tc)(hb:EW ca X body m)(hk:X.stack=X.env::X.outer:=by rfl)(hf:X.env.frame=some X.env.locals:=by rfl):L9 ca X (.While c body [] pos) (Gr tc m):=
 λpn Φ=>JU (A6 (X:=Q5 X ca pn Φ) (Dr hk hf pn Φ) (hc pn Φ) (hb pn Φ)) λE σ H hQ=>by
  obtain⟨σ3,g,μ,R,p⟩:=hQ;unfold Gr at p;by_cases hh:∃f,YU tc m f σ3 g≠.stuck
  ·rw[dif_pos hh]at p;generalize hh.choose=k at p;refine⟨λn σ1 H1=>∃σ4 g1 μ1,Ext X.K μ H μ1 H1/\Rep X.K ca μ1 σ4 g1 σ1 H1/\PostS X.K ca Φ E H1 μ1 (YU tc m n σ4 g1),⟨k,σ3,g,μ,.refl,R,p⟩,?_⟩;rintro n σ1 H1 ⟨σ4,g1,μ1,e1,R1,p1⟩;cases n with
   |zero=>exact p1.elim|succ n=>
    unfold YU at p1;refine⟨σ4,g1,μ1,R1,?_⟩;cases ht:tc σ4 g1 with
    |ok t g2=>
     rw[ht]at p1;cases t with
     |true=>
      dsimp only at p1;intro H2 μ2 e2 r2;rw[Ub rfl];refine⟨λσ2 H3=>∃σ5 g3 μ3,Ext X.K μ H μ3 H3/\Rep X.K ca μ3 σ5 g3 σ2 H3/\PostS X.K ca Φ E H3 μ3 (YU tc m n σ5 g3),λσ2 H3 z=>⟨n,Tq n,z⟩,σ4,g2,μ2,R1.go e2 r2,?_⟩;cases hb:m σ4 g2 with
      |nx σ7 g7 =>rw[hb]at p1;exact λσ' H3 μ3 e3 R3=>⟨σ7,g7,μ3,(e1.trans e2).trans e3,R3,PostS.go (e2.trans e3) p1⟩
      |ct σ7 g7 =>rw[hb]at p1;exact λσ' H3 μ3 e3 R3=>⟨σ7,g7,μ3,(e1.trans e2).trans e3,R3,PostS.go (e2.trans e3) p1⟩
      |bk σ7 g7 =>rw[hb]at p1;exact λσ' H3 μ3 e3 R3=>p1 σ' H3 μ3 (e2.trans e3) R3
      |rt d7 g7 =>rw[hb]at p1;exact λv H3 μ3 e3 r3 q3=>p1 v H3 μ3 (e2.trans e3) r3 q3
      |raise _ _ _ =>rw[hb]at p1;exact λσ' H3 μ3 e3 R3=>p1 σ' H3 μ3 (e2.trans e3) R3
      |stuck=>rw[hb]at p1;exact p1
     |false =>intro H2 μ2 e2 r2;rw[Ud Uf];exact p1 σ1 H2 μ2 e2 (R1.go e2 r2)
    |raise _ _=>rw[ht]at p1;exact RaP.stmt R1 p1|stuck=>rw[ht]at p1;exact p1
  ·rw[dif_neg hh]at p;exact p.elim
end
def SQ(K:Frag)(ca:Nat->Addr)(n:Nat)(F:MF):Sp:=λvs H Q E=>vs.length=n/\∃ds g μ,GRep K ca μ H g/\Dens K μ H vs ds/\match F ds g with
 |.ok d g'=>∀v H' μ',Ext K μ H μ' H'->GRep K ca μ' H' g'->Den K μ' H' v d->Q v H'|.raise x g'=>∀H' μ',Ext K μ H μ' H'->GRep K ca μ' H' g'->E (.int x.1 0) x.2 H'|.stuck=>False
theorem SR{K:Frag}{ca:Nat->Addr}{μ:List Addr}{H:Hp}{g:G}{vs:List V}{ds:List D}(N:List Str)(r:GRep K ca μ H g)(q:Dens K μ H vs ds):Rep K ca μ (ds.map some++List.replicate (N.length-vs.length) none) g (L2.start N vs) H:=by
 unfold L2.start;refine⟨r,?_,λi d h=>?_⟩
 ·rw[Us,Us,Ua,Ua,q.length,U9,U9]
 ·by_cases hi:i<ds.length
  ·rw[Uq (by simpa using hi),Uy]at h;cases hd:ds[i]? with
   |none=>rw[hd]at h;cases h|some d' =>rw[hd]at h;cases h;obtain⟨v,h1,h2⟩:=q.get hd;refine⟨v,?_,h2⟩;rw[Uq (by simpa[q.length]using hi),Uy,h1];rfl
  ·rw[Uw (by simpa using hi),TU]at h;split at h<;>cases h
structure FnH(P:Program)(w:World)(K:Frag)(mg:VX)(base:Heap)(ca:Nat->Addr)(x:Str)(k n:Nat)(F:MF):Prop where
 ex:∃(f:Addr)(fd:FuncData)(ps:List Str),FnOk P w K mg base (N7 P w ca) k f fd ps (SQ K ca n F)/\mg x=some (.ref f)/\keepIn K (.ref f)=true/\Binds K fd ps []
 st:∀ds g,ds.length≠n->F ds g=.stuck
structure MtH(P:Program)(w:World)(K:Frag)(mg:VX)(base:Heap)(ca:Nat->Addr)(c:Nat)(x:Str)(k n:Nat)(F:MF):Prop where
 ex:∃(f:Addr)(fd:FuncData)(ps:List Str),FnOk P w K mg base (N7 P w ca) k f fd ps (SQ K ca n F)/\Meth K (ca c) x f/\Cls K (ca c)/\Binds K fd ps []
 st:∀ds g,ds.length≠n->F ds g=.stuck
structure MkH(P:Program)(w:World)(K:Frag)(mg:VX)(base:Heap)(ca:Nat->Addr)(c:Nat)(x:Str)(k n:Nat)(F:MF):Prop where
 ex:∃(f:Addr)(fd:FuncData)(ps:List Str),FnOk P w K mg base (N7 P w ca) k f fd ps (SQ K ca n F)/\Mk K (ca c) f/\mg x=some (.ref (ca c))/\Binds K fd ps []
 st:∀ds g,ds.length≠n->F ds g=.stuck
theorem JZ(k n:Nat)(m:MS):∀ds g,ds.length≠k->Q6 k n m ds g=.stuck:=λds g h=>by unfold Q6;rw[Ud h]
theorem FnH.mono{P:Program}{w:World}{K:Frag}{mg:VX}{base:Heap}{ca:Nat->Addr}{x:Str}{j k n:Nat}{F:MF}(h:FnH P w K mg base ca x j n F)(hj:j<=k):FnH P w K mg base ca x k n F:=by obtain⟨f,fd,ps,a,b⟩:=h.ex;exact⟨⟨f,fd,ps,a.mono hj,b⟩,h.st⟩
section
variable{P:Program}{w:World}{K:Frag}{mg:VX}{base:Heap}{ca:Nat->Addr}
theorem SS{N:List Str}{qual:Str}{scope:Scope}{f:Addr}{cd:Value}{A:Around}{outer:List Env}{s:Shared}{H:Hp}{E:XK}{body:List Stmt}{t:TS}(h:PSs (Q5 (ER (N7 P w ca) P w K mg base N qual scope f cd A outer s H E) ca [] (λx _ H'=>E (.int x.1 0) x.2 H')) body t):PSs (ER (N7 P w ca) P w K mg base N qual scope f cd A outer s H E) body t:=λpins s1 σ H1 D I q=>
 Td (h pins s1 σ H1 D (Inv.wish I _) q) (λ_ _ z=>SP.unwish (X:=ER (N7 P w ca) P w K mg base N qual scope f cd A outer s H E) z) λ_ _ z=>Ds z
theorem KQ{x qual:Str}{st:Stmt}{f:Addr}{fd:FuncData}{N ps:List Str}{k n j:Nat}{m:MS}(F:Fun K x qual st f fd)(S:FnScope N ps (Qk st))(hj:ps.length=j)(hn:N.length-ps.length=n)(h:∀(cdv:Value) (A:Around) (outer:List Env) (s:Shared) (H:Hp) (E:XK),Room k (A.deeper (envOfC qual (Qk st) s.heap.objs.size f cdv))->EW ca (ER (N7 P w ca) P w K mg base N qual (Qk st) f cdv A outer s H E) (ZZ st) m):FnOk P w K mg base (N7 P w ca) (k+1) f fd ps (SQ K ca j (Q6 j n m)):=by
 subst hj;obtain⟨oc,od,kV,doc,pm,an,cdv,ct,osl,rfl,lk,hcd⟩:=F.ex;refine hZ lk hcd S (λvs H Q E q=>q.1) λA outer s H vs Q E hr hsp=>?_;obtain⟨hl,ds,g,μ,r,q,p⟩:=hsp;refine⟨_,SS (h cdv A outer s H E hr [] _),ds.map some++List.replicate n none,g,μ,?_,?_⟩
 ·have z:=SR N r q;rw[hl,hn]at z;exact z
 ·unfold Q6 at p;rw[Ub (by rw[<-q.length,hl])]at p;cases hm:m (ds.map some++List.replicate n none) g with
  |nx σ' g'=>rw[hm]at p;exact λσ'' H' μ' e' R'=>p .non H' μ' e' R'.g .non
  |rt d g'=>rw[hm]at p;exact p|bk _ _=>rw[hm]at p;exact p.elim|ct _ _=>rw[hm]at p;exact p.elim|raise _ _ _=>rw[hm]at p;exact λσ'' H' μ' e' R'=>p H' μ' e' R'.g
  |stuck=>rw[hm]at p;exact p.elim
def EK(Φ:XS)(σ:L2.St):XK:=λc l H'=>∀x:Xc,c=.int x.1 0->l=x.2->Φ x σ H'
theorem Lr(st:∀ds g,ds.length≠n->F ds g=.stuck)(r:GRep K ca μ H g)(q:Dens K μ H vs ds)(p:Post K ca Φ σ Q H μ (F ds g)):SQ K ca n F vs H Q (EK Φ σ):=by
 have hl:vs.length=n:=by rw[q.length];apply Decidable.byContradiction;intro h;rw[st ds g h]at p;exact p
 refine⟨hl,ds,g,μ,r,q,?_⟩;cases hF:F ds g with
 |ok d g'=>rw[hF]at p;exact p|raise x g'=>
  rw[hF]at p;intro H' μ' e r' y e1 e2;have:x=y:=by
   obtain⟨a,b⟩:=x;obtain⟨c,d⟩:=y;injection e1 with e1;have e1:(a:Int)=(c:Int):=e1;have e3:a=c:=by omega
   rw[e3,show b=d from e2]
  rw[<-this];exact p H' μ' e r'
 |stuck=>rw[hF]at p;exact p
end
section
variable{X:Cx}{ca:Nat->Addr}{e o:Expr}{es:List Expr}{me mo:ME}{mr:MA}{p pos apos:Pos}{k n:Nat}{F:MF}{pn:Js}{Φ:XS}
theorem N8{f:Addr}{fd:FuncData}{ps:List Str}{pins:Js}{σ:L2.St}{H:Hp}{s:Shared}{Q:VK}{us:List Value}{vs:List V}(G:FnOk X.prog X.w X.K X.mg X.base (N7 X.prog X.w ca) k f fd ps (SQ X.K ca n F))(hr:Room k X.A)(hb:Binds X.K fd ps [])(I:Inv (Q5 X ca pn Φ) pins σ H s)(r:Vals vs us)(h:SQ X.K ca n F vs H Q (EK Φ σ)):wpAny (model X.prog X.w) X.A (call (.ref f) us) (EP (Q5 X ca pn Φ) pins σ Q) (Q5 X ca pn Φ).xe s:=by
 have hl:(us++[]).length=ps.length:=by rw[UY,<-r.length];exact G.len _ _ _ _ h
 have b:=hb s us I.kIn hl;rw[UY]at b;refine wpAny_call (WM (G.run X.A X.stack s H ⟨us,[]⟩ us vs Q (EK Φ σ) hr I.env0 b r h) λres s' hq=>?_);cases res with
 |error z=>exact Pd I hq|ok fl=>
  cases fl with
  |ret u=>exact I.after hq|_=>exact False.elim hq
theorem Qt{x:Str}(h:FnH X.prog X.w X.K X.mg X.base ca x k n F)(hr:Room k X.A)(ha:AW ca X (e::es) mr)(hg:Gl X x:=by rfl)(hdb:(x==("__debug__" : Str))=false:=by decide)(he:starEach (e::es) X.env=(false,eval e X.env)::starEach es X.env:=by rfl)(hpl:(backTo pos (starEach es X.env)).any (·.1)=false:=by rfl):QW ca X (.Call (.Name x p) (e::es) [] pos) (Qs F mr):=by obtain⟨f,fd,ps,F1,m1,k1,b1⟩:=h.ex;intro pn Φ pins s σ H Q I ⟨σ3,g,μ,R,q⟩;refine Rs (C9 I hg m1 ?_ hdb);have z:cJ X.K ca Φ mr σ H λvs H1=>SQ X.K ca n F vs H1 Q (EK Φ σ):=W0 (Gs R q) λxs H1 ⟨ds,g1,μ1,e1,R1,q1,p1⟩=>Lr h.st R1.g q1 p1;refine We (h₀:=X.base) I.ok.mod.kin k1 (YR (ha pn Φ pos pins s σ H _ I z) λus s1 ⟨vs,H1,I1,r,q1⟩=>⟨I1.kIn,?_⟩) he hpl;exact N8 F1 hr b1 I1 r q1
theorem Pf{K:Frag}{c:Nat}{m:Str}{σ:L2.St}{H:Hp}{Q:VK}{α:Type}{kk:Nat->G->Res α}{R:Res α->Hp->List Addr->Prop}{d:D}{g:G}{μ:List Addr}{v:V}(r:GRep K ca μ H g)(hst:¬R .stuck H μ)(p:R (match d with
   |.ref i=>(match g[i]? with
    |some (.ins c' fs)=>if c'=c/\fs.lookup m=none then kk i g else .stuck
    |_=>.stuck)
   |_=>.stuck) H μ)(q:Den K μ H v d):∃a dx fv i,d=.ref i/\v=.ref a/\μ[i]?=some a/\H a=some (.ins (ca c) dx fv)/\fv.lookup m=none/\R (kk i g) H μ:=by
 cases q with
 |@ref i a hn=>
  dsimp only at p;cases hg:g[i]? with
  |none=>rw[hg]at p;exact(hst p).elim|some ob=>
   rw[hg]at p;obtain⟨a',ha',orp⟩:=r.addr hg;rw[hn]at ha';cases ha';cases ob with
   |ins c' fs=>
    dsimp only at p;obtain⟨dx,fv,hH,fr⟩:=orp;by_cases hc:c'=c/\fs.lookup m=none
    ·rw[Ub hc]at p;obtain⟨rfl,hl⟩:=hc;exact⟨a,dx,fv,i,rfl,rfl,hn,hH,fr.no hl,p⟩
    ·rw[Ud hc]at p;exact(hst p).elim
   |_=>exact(hst p).elim
 |_=>exact(hst p).elim
theorem Du{c:Nat}{m:Str}{pl:Sem Bool}(h:MtH X.prog X.w X.K X.mg X.base ca c m k n F)(hr:Room k X.A)(ho:QW ca X o mo)(ha:AW ca X (e::es) mr)(hst:starEach (e::es) X.env=(false,eval e X.env)::starEach es X.env:=by rfl)(hpl:(backTo pos (starEach es X.env)).any (·.1)=false:=by rfl)(ht:eval (.Call (.Attribute o m apos) (e::es) [] pos) X.env=(do
   let ov <-eval o X.env
   standAt apos.atName
   let (f,first) <-holding [ov] (getMethod ov m pl)
   callWith pos f first (backTo pos (starEach (e::es) X.env)) (backToKw pos (keywordEach [] X.env))):=by rfl):QW ca X (.Call (.Attribute o m apos) (e::es) [] pos) (YX c m F mo mr):=by
 obtain⟨f,fd,ps,F1,m1,k1,b1⟩:=h.ex;intro pn Φ pins s σ H Q I ⟨σ3,g,μ,R,q⟩;refine WR (pl:=pl) (YR (ho pn Φ pins s σ H _ I (JT R q)) λu s1 ⟨x,H1,I1,rx,d,g1,μ1,e1,R1,q1,p1⟩=>?_) ht;obtain⟨a,dx,fv,i,rfl,rfl,hn,hH,hl,p2⟩:=Pf (Q:=Q) (σ:=σ) (R:=λr H μ=>Post X.K ca Φ σ Q H μ r) (kk:=λi g=>(mr σ3 g).bind λxs g2=>F (.ref i::xs) g2) R1.g (λz=>z) p1 q1;obtain rfl:u=Value.ref a:=rx;refine Go I1 hH k1 m1 hl ?_;have z:cJ X.K ca Φ mr σ H1 λvs H2=>SQ X.K ca n F (.ref a::vs) H2 Q (EK Φ σ):=W0 (Gs R1 p2) λxs H2 ⟨ds,g2,μ2,e2,R2,q2,p3⟩=>Lr h.st R2.g (.cons (.ref (e2.at hn)) q2) p3;refine We (first:=[.ref a]) (h₀:=X.base) I.ok.mod.kin m1.kp (YR (ha pn Φ pos pins s1 σ H1 _ I1 z) λus s2 ⟨vs,H2,I2,r,q2⟩=>⟨I2.kIn,?_⟩) hst hpl;exact N8 (us:=.ref a::us) (vs:=.ref a::vs) F1 hr b1 I2 (.cons rfl r) q2
theorem VH{c:Nat}{m:Str}{pl:Sem Bool}(h:MtH X.prog X.w X.K X.mg X.base ca c m k n F)(hr:Room k X.A)(ho:QW ca X o mo)(ht:eval (.Call (.Attribute o m apos) [] [] pos) X.env=(do
   let ov <-eval o X.env
   standAt apos.atName
   let (f,first) <-holding [ov] (getMethod ov m pl)
   callWith pos f first (backTo pos (starEach [] X.env)) (backToKw pos (keywordEach [] X.env))):=by rfl):QW ca X (.Call (.Attribute o m apos) [] [] pos) (YX c m F mo Ql):=by
 obtain⟨f,fd,ps,F1,m1,k1,b1⟩:=h.ex;intro pn Φ pins s σ H Q I ⟨σ3,g,μ,R,q⟩;refine WR (pl:=pl) (YR (ho pn Φ pins s σ H _ I (JT R q)) λu s1 ⟨x,H1,I1,rx,d,g1,μ1,e1,R1,q1,p1⟩=>?_) ht;obtain⟨a,dx,fv,i,rfl,rfl,hn,hH,hl,p2⟩:=Pf (Q:=Q) (σ:=σ) (R:=λr H μ=>Post X.K ca Φ σ Q H μ r) (kk:=λi g=>(Ql σ3 g).bind λxs g2=>F (.ref i::xs) g2) R1.g (λz=>z) p1 q1;obtain rfl:u=Value.ref a:=rx;refine Go I1 hH k1 m1 hl ?_;exact callWith_K0 (first:=[.ref a]) I1.kIn m1.kp (N8 (us:=[.ref a]) (vs:=[.ref a]) F1 hr b1 I1 (.cons rfl .nil) (Lr h.st R1.g (.cons (.ref hn) .nil) p2))
def vQ(X:Cx)(ca:Nat->Addr)(c n:Nat)(F:MF)(Φ:XS)(σ:L2.St)(Q:VK)(vs:List V)(H1:Hp):Prop:=∀y dy,H1 y=none->H1 dy=none->dy≠y->SQ X.K ca n F (.ref y::vs) (YD (YD H1 dy (.own y)) y (.ins (ca c) dy [])) (λv H2=>v=.non/\Q (.ref y) H2) (EK Φ σ)
theorem tJ{c:Nat}{x:Str}{Φ:XS}{σ:L2.St}{H:Hp}{μ:List Addr}{σ3:S3}{g:G}{Q:VK}(h:MkH X.prog X.w X.K X.mg X.base ca c x k n F)(R:Rep X.K ca μ σ3 g σ H)(q:Post X.K ca Φ σ Q H μ (Bl c F mr σ3 g)):cJ X.K ca Φ mr σ H (vQ X ca c n F Φ σ Q):=
 W0 (Gs R q) λxs H1 ⟨ds,g1,μ1,e1,R1,q1,p1⟩ y dy hy hdy ne=>by
  have hy2:(YD H1 dy (.own y)) y=none:=by rw[QZ (Ne.symm ne)];exact hy
  have ex1:Ext X.K μ1 H1 μ1 (YD H1 dy (.own y)):=ZD hdy;have g2:=R1.g.new (o:=.own y) hdy;have ex2:Ext X.K μ1 (YD H1 dy (.own y)) (μ1++[y]) (YD (YD H1 dy (.own y)) y (.ins (ca c) dy [])):=Zr hy2;have g3:GRep X.K ca (μ1++[y]) (YD (YD H1 dy (.own y)) y (.ins (ca c) dy [])) (g1++[.ins c []]):=g2.push hy2 ⟨dy,[],QN,.nil⟩;have ey:(μ1++[y])[g1.length]?=some y:=by rw[<-R1.g.len];simp
  refine Lr (Φ:=Φ) (σ:=σ) h.st g3 (.cons (.ref ey) ((q1.mono ex1).mono ex2)) ?_;cases hF:F (D.ref g1.length::ds) (g1++[.ins c []]) with
  |stuck=>rw[hF]at p1;exact p1.elim|raise _ _=>rw[hF]at p1;exact RaP.go (ex1.trans ex2) p1|ok d g4=>
   rw[hF,Res.bind_ok]at p1;intro v H' μ' e' r' q';cases q' with
   |non=>exact⟨rfl,p1 _ H' μ' ((ex1.trans ex2).trans e') r' (.ref (e'.at ey))⟩|_=>exact p1.elim
theorem kU{c:Nat}{x:Str}{pn:Js}{Φ:XS}{pins:Js}{s1:Shared}{σ:L2.St}{H1:Hp}{vs:List V}{us:List Value}{Q:VK}(h:MkH X.prog X.w X.K X.mg X.base ca c x k n F)(hr:Room (k+1) X.A)(I1:Inv (Q5 X ca pn Φ) pins σ H1 s1)(r:Vals vs us)(q1:vQ X ca c n F Φ σ Q vs H1):wpAny (model X.prog X.w) X.A (call (.ref (ca c)) us) (EP (Q5 X ca pn Φ) pins σ Q) (Q5 X ca pn Φ).xe s1:=by
 obtain⟨f,fd,ps,F1,m1,k1,b1⟩:=h.ex;have hq:=q1 (s1.heap.objs.size+1) s1.heap.objs.size (I1.hok.fresh (Nat.le_succ _)) (I1.hok.fresh (Ui _)) (UR (Tq _));have I2:=Inv.made (C:=ca c) I1;have r2:Vals (V.ref (s1.heap.objs.size+1)::vs) (Value.ref (s1.heap.objs.size+1)::us):=.cons rfl r;have hl:(Value.ref (s1.heap.objs.size+1)::us++[]).length=ps.length:=by have w:=r2.length;rw[F1.len _ _ _ _ hq]at w;rw[UY];exact w.symm
 have b2:=b1 _ (Value.ref (s1.heap.objs.size+1)::us) I2.kIn hl;rw[UY]at b2;refine wpAny_call (Dd (f:=f) I1.kIn m1.makes m1.init (Tr.mp m1.fn) (WM (F1.run _ X.stack _ _ ⟨Value.ref (s1.heap.objs.size+1)::us,[]⟩ (Value.ref (s1.heap.objs.size+1)::us) _ _ (EK Φ σ) (hr.make (ca c) us [])
  (I2.env0.make (ca c) us []) b2 r2 hq) λres s' hq'=>?_))
 cases res with
 |error z=>exact Pd I2 hq'|ok fl=>
  cases fl with
  |ret u =>obtain⟨v,H',I3,rv,ev,q3⟩:=I2.after hq';subst ev;exact⟨rv,⟨V.ref (s1.heap.objs.size+1),H',I3,rfl,q3⟩⟩|_=>exact False.elim hq'
theorem N9{c:Nat}{x:Str}(h:MkH X.prog X.w X.K X.mg X.base ca c x k n F)(hr:Room (k+1) X.A)(ha:AW ca X (e::es) mr)(hg:Gl X x:=by rfl)(hdb:(x==("__debug__" : Str))=false:=by decide)(he:starEach (e::es) X.env=(false,eval e X.env)::starEach es X.env:=by rfl)(hpl:(backTo pos (starEach es X.env)).any (·.1)=false:=by rfl):QW ca X (.Call (.Name x p) (e::es) [] pos) (Bl c F mr):=by obtain⟨f,fd,ps,F1,m1,k1,b1⟩:=h.ex;intro pn Φ pins s σ H Q I ⟨σ3,g,μ,R,q⟩;refine Rs (C9 I hg k1 ?_ hdb);exact We (h₀:=X.base) I.ok.mod.kin m1.kp (YR (ha pn Φ pos pins s σ H _ I (tJ h R q)) λus s1 ⟨vs,H1,I1,r,q1⟩=>⟨I1.kIn,kU h hr I1 r q1⟩) he hpl
end
section
variable{X:Cx}{ca:Nat->Addr}{tg e:Expr}{me:ME}{mr:MA}{p pos:Pos}
theorem Ej(h:PI X tg iter t)(i:∀σ H R,t' σ H R->t σ H R):PI X tg iter t':=λpins s σ H R I q=>h pins s σ H R I (i σ H R q)
theorem ST(K:Frag)(μ:List Addr)(H:Hp)(lo:Int)(n:Nat):Dt K ca μ H (Zu lo n) (qS lo n):=by
 intro i H1 μ1 g1 e r;unfold Zu;dsimp only;by_cases h:i<n
 ·rw[Ub h];exact⟨h,λx H' y=>by obtain⟨rfl,rfl⟩:=y;exact⟨.refl,r,.int _⟩⟩
 ·rw[Ud h];exact TX h
theorem dW{K:Frag}{μ:List Addr}{H:Hp}{a:Addr}{vs:List V}{ds:List D}(h:SqT K H a vs)(q:Dens K μ H vs ds):Dt K ca μ H ⟨λ_ i=>some ds[i]?,ds.length⟩ (sO K a):=by
 intro i H1 μ1 g1 e r;dsimp only;cases hd:ds[i]? with
 |none =>refine⟨vs,e.tup _ _ h,?_⟩;rw[q.length];exact Tj.mp hd|some d =>obtain⟨v,h1,h2⟩:=q.get hd;refine⟨⟨vs,v,e.tup _ _ h,h1⟩,λx H' y=>?_⟩;obtain⟨rfl,y⟩:=y;have:=y vs (e.tup _ _ h);rw[h1]at this;cases this;exact⟨.refl,r,h2.mono e⟩
theorem dX{K:Frag}{μ:List Addr}{H:Hp}{a:Addr}{n t:Nat}(hn:μ[n]?=some a):Dt K ca μ H ⟨λg i=>(match g[n]? with|some (.lst es)=>some es[i]? | _=>none),t⟩ (qR K a):=by
 intro i H1 μ1 g1 e r;dsimp only;cases hg:g1[n]? with
 |none=>trivial|some o=>
  cases o with
  |lst ds=>
   dsimp only;obtain⟨a',ha',vs,hH,q⟩:=r.addr hg;rw[e.at hn]at ha';cases ha';cases hd:ds[i]? with
   |none =>refine⟨vs,.of hH,?_⟩;rw[q.length];exact Tj.mp hd|some d =>obtain⟨v,h1,h2⟩:=q.get hd;refine⟨⟨vs,v,.of hH,h1⟩,λx H' y=>?_⟩;obtain⟨rfl,y⟩:=y;have:=y vs (.of hH);rw[h1]at this;cases this;exact⟨.refl,r,h2⟩
  |_=>trivial
theorem kW{K:Frag}{μ:List Addr}{H:Hp}{a:Addr}{vs:List V}{ds:List D}(h:SqF K H a vs)(q:Dens K μ H vs ds):Dt K ca μ H ⟨λ_ i=>some ds[i]?,ds.length⟩ (qR K a):=by
 intro i H1 μ1 g1 e r;dsimp only;have sq:SqL K H1 a vs:=(e.fl _ _ h).sq;cases hd:ds[i]? with
 |none =>refine⟨vs,sq,?_⟩;rw[q.length];exact Tj.mp hd|some d =>obtain⟨v,h1,h2⟩:=q.get hd;refine⟨⟨vs,v,sq,h1⟩,λx H' y=>?_⟩;obtain⟨rfl,y⟩:=y;have:=y vs sq;rw[h1]at this;cases this;exact⟨.refl,r,h2.mono e⟩
theorem kX(hl:PE X l tl):PI X tg l (λσ H R=>tl σ H λx H1=>(∃a,x=.ref a/\(∃xs,SqL X.K H1 a xs)/\R (qR X.K a) H1)\/∃a,x=.ref a/\(∃xs,SqT X.K H1 a xs)/\R (sO X.K a) H1):=by
 intro pins s σ H R I h;refine YR (hl pins s σ H _ I h) λv s1 ⟨x,H1,I1,r1,q1⟩=>?_;rcases q1 with⟨a,e,⟨xs,hq⟩,q⟩|⟨a,e,⟨xs,hq⟩,q⟩
 ·subst e;cases r1;obtain⟨its,rv,p,hz⟩:=I1.list hq;refine wpAny_pyIter_list p.isList ?_;refine⟨s1.heap.objs.size,[s1.heap.objs.size],_,_,H1,rfl,I1.kept (t':=s1.toks) λb o e=>Ug _ e,Sy a _,⟨_,UA _ rfl,rfl,rfl⟩,λb hb=>?_,q⟩;have e:b=s1.heap.objs.size:=by simpa using hb
  subst e;exact I1.fpOk (Ui _) (I1.hok.fresh (Ui _))
 ·subst e;cases r1;obtain⟨its,rv,p,hz⟩:=I1.tuple hq;refine wpAny_pyIter_tuple (show s1.heap.IsTuple a its.toArray from p) ?_;refine⟨s1.heap.objs.size,[s1.heap.objs.size],_,_,H1,rfl,I1.kept (t':=s1.toks) λb o e=>Ug _ e,NO a _,⟨_,UA _ rfl,rfl,rfl⟩,λb hb=>?_,q⟩;have e:b=s1.heap.objs.size:=by simpa using hb
  subst e;exact I1.fpOk (Ui _) (I1.hok.fresh (Ui _))
theorem Z9(he:QW ca X e me):dS ca X tg e (QQ me):=
 λpn Φ=>Ej (kX (X:=Q5 X ca pn Φ) (he pn Φ)) λσ H R hQ=>by
  obtain⟨σ3,g,μ,Rp,p⟩:=hQ;unfold QQ at p;refine⟨σ3,g,μ,Rp,?_⟩;cases hm:me σ3 g with
  |raise _ _=>rw[hm]at p;exact p|stuck=>rw[hm]at p;exact p.elim|ok d g1=>
   rw[hm,Res.bind_ok]at p;intro v H1 μ1 e1 r1 q1;unfold Bm at p;cases q1 with
   |@tup a vs ds ht hs =>exact .inr ⟨a,rfl,⟨vs,ht⟩,p _ H1 μ1 e1 r1 (dW ht hs)⟩|@fl a vs ds ht hs=>exact .inl ⟨a,rfl,⟨vs,ht.sq⟩,p _ H1 μ1 e1 r1 (kW ht hs)⟩|@ref n a hn=>
    dsimp only at p;cases hg:g1[n]? with
    |none=>rw[hg]at p;exact p.elim|some o=>
     rw[hg]at p;obtain⟨a',ha',orp⟩:=r1.addr hg;rw[hn]at ha';cases ha';cases o with
     |lst ds=>obtain⟨vs,hH,q⟩:=orp;exact .inl ⟨a,rfl,⟨vs,.of hH⟩,p _ H1 μ1 e1 r1 (dX hn)⟩|_=>exact p.elim
   |_=>exact p.elim
theorem Z5(hm:X.mg "range"=none)(he:QW ca X e me)(hg:Gl X "range":=by rfl)(hs:starEach [e] X.env=[(false,eval e X.env)]:=by rfl):dS ca X tg (.Call (.Name "range" p) [e] [] pos) (QJ me):=
 λpn Φ=>Ej (Sz (X:=Q5 X ca pn Φ) hg hm (JV he Qj hs pn Φ) hs) λσ H R hQ=>by
  obtain⟨σ3,g,μ,Rp,p⟩:=hQ;refine⟨σ3,g,μ,Rp,?_⟩;unfold QJ at p;unfold Qc Ql;cases hm:me σ3 g with
  |raise _ _=>rw[hm]at p;exact p|stuck=>rw[hm]at p;exact p.elim|ok d g1=>
   rw[hm,Res.bind_ok]at p;rw[Res.bind_ok,Res.bind_ok];intro vs H1 μ1 e1 r1 q1;cases q1 with
   |cons h1 h2=>
    cases h2;cases h1 with
    |int j=>
     dsimp only at p;by_cases hj:iC j
     ·rw[Ub hj]at p;exact⟨j,rfl,hj.1,hj.2,p _ H1 μ1 e1 r1 (ST X.K μ1 H1 0 j.toNat)⟩
     ·rw[Ud hj]at p;exact p.elim
    |_=>exact p.elim
end
def Gx(X:Cx)(scope:Scope)(cl:List (Str×Addr))(C:Addr)(Nb:List Str)(s3:Shared)(H3:Hp)(ex:List Addr):Cx:={X with env:=compEnvC scope cl C X.env,N:=Nb,s₀:=s3,H₀:=H3,outer:=X.stack,stack:=X.stack,ex:=ex,fn:=λ_=>false,pn:=[],xe:=λ_ _=>False}
structure BScope(X:Cx)(scope:Scope)(Nb:List Str)(no:Nat)(cap:List Nat):Prop where
 kind:scope.kind=.function
 cell:∀y∈scope.names,y.2≠.cell
 loc:∀y∈scope.names,y.2=.local->scope.names.lookup y.1=some .local
 free:∀y∈scope.names,y.2=.free->X.env.kindOf y.1=some .cell\/X.env.kindOf y.1=some .free
 len:Nb.length=no+cap.length
 cap:∀(j i:Nat),cap[j]?=some i->∃x,Nb[no+j]?=some x/\X.N[i]?=some x/\scope.names.lookup x=some .free/\qQ X.env.scope x/\X.env.kindOf x≠some .local
def EX(cells:List (Str×Addr)):List (Str×NameKind)->List (Str×Addr)->Option (List (Str×Addr))
 |[],cs=>some cs| (n,k)::r,cs=>if (k==.free)=true then (match cells.lookup n with
  |some a=>EX cells r ((n,a)::cs)|none=>none) else EX cells r cs
theorem Cv:∀(names:List (Str×NameKind))(cs cl:List (Str×Addr)),EX env.cells names cs=some cl->
  (forIn names cs λ(x:Str×NameKind)(r:List (Str×Addr))=>(match x with
   | (name,kind)=>if (kind==.free)=true then (do let a <-cellOf env name;pure (ForInStep.yield ((name,a)::r))) else pure (ForInStep.yield r):Sem (ForInStep (List (Str×Addr)))))=(pure cl:Sem (List (Str×Addr)))
 |[],cs,cl,h=>by cases h;rfl
 | (n,k)::r,cs,cl,h=>by
  unfold EX at h;rw[List.forIn_cons];by_cases hk:(k==.free)=true
  ·rw[Ub hk]at h;cases hl:env.cells.lookup n with
   |none=>rw[hl]at h;cases h|some a =>rw[hl]at h;dsimp only at h ⊢;rw[Ub hk];unfold cellOf;rw[hl];exact Cv r _ cl h
  ·rw[Ud hk]at h;dsimp only;rw[Ud hk];exact Cv r _ cl h
theorem Cn(h:EX env.cells scope.names []=some cl):closureFor scope env=pure cl:=by have q:=Cv (env:=env) scope.names [] cl h;unfold closureFor;exact TQ (λt=>t >>= λr=>(pure r:Sem _)) q
theorem B1:∀(names:List (Str×NameKind))(cs:List (Str×Addr)),(∀y∈names,y.2=.free->∃c,cells.lookup y.1=some c)->∃cl,EX cells names cs=some cl
 |[],cs,_=>⟨cs,rfl⟩| (n,k)::r,cs,h=>by
  unfold EX;by_cases hk:(k==.free)=true
  ·rw[Ub hk];obtain⟨c,e⟩:=h (n,k) UB (Tr.mp hk);rw[show cells.lookup n=some c from e];exact B1 r _ λy hy=>h y (Uv _ hy)
  ·rw[Ud hk];exact B1 r _ λy hy=>h y (Uv _ hy)
theorem XL:∀(names:List (Str×NameKind))(cs cl:List (Str×Addr)),EX cells names cs=some cl->(∀x c,cs.lookup x=some c->cells.lookup x=some c)->∀x c,cl.lookup x=some c->cells.lookup x=some c
 |[],cs,cl,h,hc=>by cases h;exact hc
 | (n,k)::r,cs,cl,h,hc=>by
  unfold EX at h;by_cases hk:(k==.free)=true
  ·rw[Ub hk]at h;cases hl:cells.lookup n with
   |none=>rw[hl]at h;cases h|some a=>
    rw[hl]at h;refine XL r _ cl h λx c e=>?_;by_cases z:x=n
    ·subst z;simp only[List.lookup,RK]at e;cases e;exact hl
    ·have zb:(x==n)=false:=U0.mpr z;simp only[List.lookup,zb]at e;exact hc x c e
  ·rw[Ud hk]at h;exact XL r _ cl h hc
theorem Ek:∀(names:List (Str×NameKind))(cs cl:List (Str×Addr)),EX cells names cs=some cl->∀x,(x∈names.filterMap λy=>if (y.2==.free)=true then some y.1 else none)\/(∃c,cs.lookup x=some c)->∃c,cl.lookup x=some c
 |[],cs,cl,h,x,hx=>by
  cases h;rcases hx with hx|hx
  ·simp at hx
  ·exact hx
 | (n,k)::r,cs,cl,h,x,hx=>by
  unfold EX at h;by_cases hk:(k==.free)=true
  ·rw[Ub hk]at h;cases hl:cells.lookup n with
   |none=>rw[hl]at h;cases h|some a=>
    rw[hl]at h;refine Ek r _ cl h x ?_;by_cases z:x=n
    ·subst z;exact .inr ⟨a,by simp[List.lookup]⟩
    ·have zb:(x==n)=false:=U0.mpr z;rcases hx with hx|⟨c,hx⟩
     ·rw[Tz]at hx;simp only[hk,RI]at hx;rcases UE.mp hx with e|e
      ·exact absurd e z
      ·exact .inl e
     ·exact .inr ⟨c,by simp only[List.lookup,zb];exact hx⟩
  ·rw[Ud hk]at h;refine Ek r _ cl h x ?_;rcases hx with hx|hx
   ·rw[Tz]at hx;simp only[hk]at hx;exact .inl (by simpa using hx)
   ·exact .inr hx
theorem FG{names:List (Str×NameKind)}{x:Str}(h:names.lookup x=some .free):x∈names.filterMap λy=>if (y.2==.free)=true then some y.1 else none:=Wb.mpr ⟨(x,.free),TC h,by simp⟩
theorem Kp{env:Env}:∀{names:List (Str×NameKind)}{x:Str}{k:NameKind},(∀y∈names,y.2≠.cell)->(names.map λ(n,k)=>if (k==NameKind.free&&env.scope.kind==.function&&env.kindOf n==some .cell) then (n,NameKind.cell) else (n,k)).lookup x=some k->(k=.cell\/k=.free)->names.lookup x=some .free
 |[],_,_,_,h,_=>by cases h
 | (n,k0)::r,x,k,hn,h,hk=>by
  have ih:=@Kp env r x k λy hy=>hn y (Uv _ hy);rw[UL]at h;by_cases hc:(k0==NameKind.free&&env.scope.kind==.function&&env.kindOf n==some .cell)=true
  ·have k0f:k0=.free:=by simp only[UG]at hc;exact Tr.mp hc.1.1
   dsimp only at h;rw[Ub hc]at h;cases hx:x==n with
   |true=>simp only[List.lookup,hx];rw[k0f]|false=>simp only[List.lookup,hx]at h ⊢;exact ih h hk
  ·dsimp only at h;rw[Ud hc]at h;cases hx:x==n with
   |true=>
    simp only[List.lookup,hx]at h ⊢;cases h;rcases hk with e|e
    ·exact absurd e (hn (n,k0) UB)
    ·rw[e]
   |false=>simp only[List.lookup,hx]at h ⊢;exact ih h hk
theorem Ls{prog:Program}{w:World}{A:Around}{R:Result->Shared->Prop}{s:Shared}{elt target iter:Expr}{ifs:List Expr}{scope:Scope}{pos:Pos}{it acc:Value}{env:Env}(I:Nat->Shared->Prop)(turn:∀n s,I n s->wpAny (model prog w) A (pyNext it) (λr s₁=>match r with
   |none=>R (.ok .next) s₁|some v=>wpAny (model prog w) A (letOwnedTupleGo target it v) (λ_ s1'=>wpAny (model prog w) A (assign target env v) (λ_ s₂=>
     wpAny (model prog w) A (forIn ifs true λc r=>if r=true then do let ok <-isTrue c env (eval c env);pure (ForInStep.yield ok) else pure (ForInStep.yield r)) (λok s₃=>
      if ok=true then wpAny (model prog w) A (eval elt env) (λx s₄=>
       wpAny (model prog w) A (call (.builtin "list.append") [acc,x]) (λ_ s₅=>∃m,m<n/\I m s₅) (λ_ _=>False) s₄) (λ_ _=>False) s₃
      else ∃m,m<n/\I m s₃) (λ_ _=>False) s₂) (λ_ _=>False) s1') (λ_ _=>False) s₁) (λ_ _=>False) s)(n:Nat)(h:I n s):codeAny (model prog w) A (.compLoop (.ListComp elt [⟨target,iter,ifs,0⟩] scope pos) 0 it acc env) R s:=by
 refine codeAny_loop rfl I (λn s hI=>?_) n h;show wpAny _ A ((compTurn (.ListComp elt [⟨target,iter,ifs,0⟩] scope pos) 0 it acc env).onRaise (λx=>do noteFrame x env;theTreesLotGoes x)) _ _ s;refine wpAny_noted ?_;rw[compTurn_list];refine Uc (wpAny_standAt (Uc (Td (turn n s hI) (λr s₁ h₁=>?_) λ_ _ h'=>h'.elim)));cases r with
 |none=>exact Up h₁|some v=>
  refine Uc (Td h₁ (λ_ s1' h1'=>?_) λ_ _ h'=>h'.elim);refine Uc (Td h1' (λ_ s₂ h₂=>Uc (Td h₂ (λok s₃ h₃=>?_) λ_ _ h'=>h'.elim)) λ_ _ h'=>h'.elim);cases ok with
  |false=>exact Up ⟨rfl,h₃⟩|true =>exact Uc (Uc (Td h₃ (λx s₄ h₄=>Uc (Td h₄ (λ_ s₅ h₅=>Up (Up ⟨rfl,h₅⟩)) λ_ _ h'=>h'.elim)) λ_ _ h'=>h'.elim))
theorem Inv.track(I:Inv X pins σ H s)(ha:FpOk X pins H a)(new:ObjOk X.prog X.w (YD H a o) s.heap a o):Inv X pins σ (YD H a o) s:=by
 obtain⟨f0,f1,f2,f3,f4,f5⟩:=ha;have ne:∀b u,H b=some u->b≠a:=λb u e=>ZN e f0;refine I.step (h':=s.heap) (g':=s.gens) (t':=s.toks) (d':=s.drawn) (ch:=[a]) (λb hb=>?_) (λb o _ _ _ e _=>e) (λb o _ _ _ e _=>⟨o.slots,e⟩) (λb o hb e n=>?_) (λb o _ e=>⟨o,e⟩)
  (λb xs e=>by rw[QZ (ne b _ e)];exact e) (λb o u e=>by rw[QZ (ne b _ e)];exact e) (λb ps e=>⟨#[],by rw[QZ (ne b _ e),e];simp⟩) (λ_ h=>h) (λb u e=>?_) I.bare
 ·have e:b=a:=by simpa using hb
  subst e;exact⟨f3,f1,f4,f5⟩
 ·rw[QZ (λz=>hb (by simp[z]))];exact n
 ·by_cases hb:b=a
  ·subst hb;rw[QN]at e;cases e;exact new
  ·rw[QZ hb]at e;exact(I.hok b u e).stay (λ_ _ _ q=>q) (λc q=>by rw[QZ (ne c _ q)];exact q) λc xs q=>by rw[QZ (ne c _ q)];exact q
theorem FpOk.mono(h:FpOk X pins H b)(n:H' b=none):FpOk X pins H' b:=⟨n,h.2⟩
abbrev F0:XS:=λ_ _ _=>False
theorem iH(h:wpAny M A t Q (XE X ca F0) s):wpAny M A t Q (λ_ _=>False) s:=Td h (λ_ _ z=>z) λ_ _ ⟨_,_,_,_,_,_,_,z⟩=>z
def oO(ca:Nat->Addr)(X:Cx)(ifs:List Expr)(m:MT):Prop:=∀(pins:Js)(s:Shared)(σ:L2.St)(H:Hp)(Q:Bool->Hp->Prop),Inv (Q5 X ca [] F0) pins σ H s->iE X.K ca F0 m σ H Q->wpAny (model X.prog X.w) X.A (forIn ifs true λc r=>if r=true then do let ok <-isTrue c X.env (eval c X.env);pure (ForInStep.yield ok) else pure (ForInStep.yield r)) (TP (Q5 X ca [] F0) pins σ Q) (λ_ _=>False) s
theorem Bq  : oO ca X [] ZV:=by intro pins s σ H Q I ⟨_,_,μ,R,p⟩;rw[List.forIn_nil];exact Up ⟨H,I,p H μ .refl R.g⟩
theorem Mv(h:Gg ca X c m):oO ca X [c] m:=by intro pins s σ H Q I q;exact wpAny_tests_one (iH (h [] F0 pins s σ H Q I q))
section
variable{X:Cx}{ca:Nat->Addr}{pn:Js}
theorem kY{scope:Scope}{Nb:List Str}{no:Nat}{cap:List Nat}{cl:List (Str×Addr)}{pins:Js}{σ:L2.St}{H:Hp}{s:Shared}{ex:List Addr}(B:BScope X scope Nb no cap)(hcl:EX X.env.cells scope.names []=some cl)(I:Inv (Q5 X ca pn F0) pins σ H s)(hex:∀b∈ex,FpOk (Q5 X ca pn F0) pins H b)(hlt:∀b∈ex,b<s.heap.objs.size):(Q5 (Gx X scope cl s.heap.objs.size Nb s H ex) ca [] F0).Ok where
 mod:=I.ok.mod
 kind:=B.kind
 glob:=I.ok.glob
 blt:=I.ok.blt
 above:=Ui _
 inj:=λx y c h1 h2=>I.ok.inj x y c (XL _ _ _ hcl (λ_ _ z=>by cases z) x c h1) (XL _ _ _ hcl (λ_ _ z=>by cases z) y c h2)
 has:=λx hx=>Ek _ _ _ hcl x (.inl (FG (by
  rcases hx with hx|hx
  ·exact Kp B.cell hx (.inl rfl)
  ·exact Kp B.cell hx (.inr rfl))))
 cab:=λ_ _ z=>by cases z
 hd:=I.ok.hd
 frames:=I.ok.frames
 stk:=.inl rfl
 exf:=λb hb=>⟨UR (hlt b hb),λx c e z=>(hex b hb).2.2.2.2.1 x c (XL _ _ _ hcl (λ_ _ z=>by cases z) x c e) z⟩
 bs:=I.bs
 bsz:=Um I.ok.bsz I.sz
 noex:=λb o e hb=>by
  rcases(hex b hb).2.2.2.1 with z|z
  ·exact I.ok.noex b o e z
  ·exact absurd (UH (Ut e) (Um I.ok.bsz z)) (Tt _)
 exfs:=λb hb z=>by
  rcases UE.mp (I.stkSub b z) with e|e
  ·exact(hex b hb).2.1 e
  ·exact(hex b hb).2.2.1 e
 funs:=I.stack
 frf:=I.stkFree
theorem VI{env:Env}:∀{names:List (Str×NameKind)}{x:Str},names.lookup x=some .free->(names.map λ(n,k)=>if (k==NameKind.free&&env.scope.kind==.function&&env.kindOf n==some .cell) then (n,NameKind.cell) else (n,k)).lookup x=some .local->False
 |[],_,h,_=>by cases h
 | (n,k0)::r,x,h,h'=>by
  have ih:=@VI env r x;rw[UL]at h';dsimp only at h';by_cases hc:(k0==NameKind.free&&env.scope.kind==.function&&env.kindOf n==some .cell)=true
  ·rw[Ub hc]at h';cases hx:x==n with
   |true=>simp only[List.lookup,hx]at h';cases h'|false=>simp only[List.lookup,hx]at h h';exact ih h h'
  ·rw[Ud hc]at h';cases hx:x==n with
   |true=>simp only[List.lookup,hx]at h h';rw[h']at h;cases h|false=>simp only[List.lookup,hx]at h h';exact ih h h'
theorem Dv{K:Frag}{ca:Nat->Addr}{μ2:List Addr}{σ3:S3}{g1:G}{σ:L2.St}{H2:Hp}(no:Nat)(cap:List Nat)(R2:Rep K ca μ2 σ3 g1 σ H2):Rep K ca μ2 (Ec no cap σ3) g1 (List.replicate no none++cap.map λi=>(σ[i]?).getD none) H2:=by
 refine⟨R2.g,?_,λi d h=>?_⟩
 ·unfold Ec;rw[Us,Us,U9,U9,Ua,Ua]
 ·unfold Ec at h;have hi:no<=i:=by apply TX;intro hlt;rw[Uq (by simpa using hlt),TU,Ub hlt]at h;cases h
  rw[Uw (by simpa using hi),U9,Uy]at h ⊢;cases hcp:cap[i-no]? with
  |none=>rw[hcp]at h;cases h|some j=>
   rw[hcp]at h;have h:(σ3[j]?).getD none=some d:=by simpa using h
   have hs:σ3[j]?=some (some d):=by
    cases z:σ3[j]? with
    |none=>rw[z]at h;cases h|some w=>rw[z]at h;have h:w=some d:=h;rw[h]
   obtain⟨v,h1,h2⟩:=R2.st j d hs;exact⟨v,by simp[h1],h2⟩
theorem IE{tg iter elt:Expr}{ifs:List Expr}{scope:Scope}{pos:Pos}{Nb:List Str}{no:Nat}{cap:List Nat}{cl:List (Str×Addr)}{f:MG}{tc:MT}{me:ME}{src:Src}{pins:Js}{σ:L2.St}{σ3:S3}{H2:Hp}{s2:Shared}{μ2:List Addr}{g1 g2:G}{ds:List D}{it:Addr}{fp:List Addr}{tn:Nat->Heap->Prop}{J:It}{RR:Value->Addr->Result->Shared->Prop}{E:VP}(B:BScope X scope Nb no cap)(hc:X.calm=true)(hb:∀cl C s3 H3 ex,dQ ca (Gx X scope cl C Nb s3 H3 ex) tg f/\oO ca (Gx X scope cl C Nb s3 H3 ex) ifs tc/\QW ca (Gx X scope cl C Nb s3 H3 ex) elt me)(hcl:EX X.env.cells scope.names []=some cl)(I2:Inv (Q5 X ca pn F0) pins σ H2 s2)(T:Turn X.prog X.w X.K tg J fp it tn)(st2:tn 0 s2.heap)(f2:∀b∈fp,FpOk (Q5 X ca pn F0) pins H2 b)(R2:Rep X.K ca μ2 σ3 g1 σ H2)(sim:Dt X.K ca μ2 H2 src J)(hz:src.top<=SZ)(hL:YW src f tc me (src.top+1) 0 (Ec no cap σ3) g1 []=.ok ds g2)(fin:∀(D C:Addr) (s':Shared) (H4:Hp) (μ4:List Addr) (accV:List V) (its:List Value) (k:Nat),Inv (Q5 X ca pn F0) pins σ H4 s'->(∃m,s'.heap.Ns C m)->FpOk (Q5 X ca pn F0) pins H4 C->FpOk (Q5 X ca pn F0) pins H4 D->D≠C->s'.heap.get? D=some {cls:=.type "list",data:=.seq its.toArray k}->Vals accV its->accV.length<=sizeLine->Ext X.K μ2 H2 μ4 H4->GRep X.K ca μ4 H4 g2->Dens X.K μ4 H4 accV ds->RR (.ref D) C (.ok .next) s'):
  wpAny (model X.prog X.w) X.A (newList []) (λacc s₃=>wpAny (model X.prog X.w) X.A (newFunctionEnv scope X.env.globals cl [] X.env.qual none .none (some X.env)) (λcenv s₄=>
   codeAny (model X.prog X.w) X.A (.compStart (.ListComp elt [⟨tg,iter,ifs,0⟩] scope pos) 0 (.ref it) acc {cenv with scope:=relabel scope X.env}) (RR acc cenv.locals) s₄) E s₃) E s2:=by
 refine U5 (wpAny_newFunctionEnv B.cell (by intro y hy;simp at hy) (λh₁ hns₁ hsb₁=>?_) B.kind);dsimp only at hns₁ hsb₁ ⊢;generalize hH2:s2.heap.push {cls:=.type "list",dict:=none,data:=.seq ([]:List Value).toArray}=hp at hns₁ hsb₁ ⊢;have hC:hp.objs.size=s2.heap.objs.size+1:=by rw[<-hH2,Wh]
 have I3:Inv (Q5 X ca pn F0) pins σ H2 {s2 with heap:=hp}:=by rw[<-hH2];exact I2.kept (t':=s2.toks) λb o e=>Ug _ e
 have hD3:hp.get? s2.heap.objs.size=some {cls:=.type "list",data:=.seq ([]:List Value).toArray}:=by rw[<-hH2];exact UA _ rfl
 have fD:FpOk (Q5 X ca pn F0) pins H2 s2.heap.objs.size:=I2.fpOk (Ui _) (I2.hok.fresh (Ui _));have fC:FpOk (Q5 X ca pn F0) pins H2 hp.objs.size:=I3.fpOk (Ui _) (I3.hok.fresh (Ui _));have fplt:∀b∈fp,b<s2.heap.objs.size:=λb hb=>by obtain⟨o,e,_⟩:=T.obj 0 _ st2 b hb;exact Ut e
 have DnF:s2.heap.objs.size∉fp:=λh=>Tt _ (fplt _ h);have DnC:s2.heap.objs.size≠hp.objs.size:=by rw[hC];exact UR (Tq _)
 have exOk:∀b∈s2.heap.objs.size::fp,FpOk (Q5 X ca pn F0) pins H2 b:=λb hb=>by
  rcases UE.mp hb with e|e
  ·rw[e];exact fD
  ·exact f2 b e
 have exLt:∀b∈s2.heap.objs.size::fp,b<hp.objs.size:=λb hb=>by
  rcases UE.mp hb with e|e
  ·rw[e,hC];exact Tq _
  ·rw[hC];exact Nat.lt_succ_of_lt (fplt b e)
 have okb:(Q5 (Gx X scope cl hp.objs.size Nb {s2 with heap:=hp} H2 (s2.heap.objs.size::fp)) ca [] F0).Ok:=kY (s:={s2 with heap:=hp}) B hcl I3 exOk exLt;obtain⟨hgB,hiB,heB⟩:=hb cl hp.objs.size {s2 with heap:=hp} H2 (s2.heap.objs.size::fp);have old:∀b o,hp.get? b=some o->h₁.get? b=some o:=λb o e=>hsb₁.extBut b o (UR (Ut e)) (Ug _ e)
 -- the block's first state
 have Ib:Inv (Q5 (Gx X scope cl hp.objs.size Nb {s2 with heap:=hp} H2 (s2.heap.objs.size::fp)) ca [] F0) [] (List.replicate no none++cap.map λi=>(σ[i]?).getD none) H2 {s2 with heap:=h₁,toks:=s2.toks+([]:List (Str×Value)).length}:=by
  refine⟨okb,rfl,I3.bare,Un.kept old,⟨_,hns₁,λi x v h1 h2 h3=>?_⟩,λx c e=>?_,fC.1,λx c e=>?_,λp hp=>absurd (show p∈([]:Js) from hp) (by simp),I3.hok.kept old,?_⟩
  ·have hi:no<=i:=by apply TX;intro hlt;rw[Uq (by simpa using hlt),TU,Ub hlt]at h2;cases h2
   rw[Uw (by simpa using hi),U9,Uy]at h2;cases hcp:cap[i-no]? with
   |none=>rw[hcp]at h2;cases h2|some j=>
    rw[hcp]at h2;have h2:(σ[j]?).getD none=some v:=by simpa using h2
    have hs:σ[j]?=some (some v):=by
     cases z:σ[j]? with
     |none=>rw[z]at h2;cases h2|some w=>rw[z]at h2;have h2:w=some v:=h2;rw[h2]
    obtain⟨y,n1,n2,n3,n4,n5⟩:=B.cap (i-no) j hcp;have e0:no+(i-no)=i:=by omega
    rw[e0]at n1;have h1:Nb[i]?=some x:=h1;have hxy:y=x:=Option.some.inj (n1.symm.trans h1);subst hxy;obtain⟨m,hn,hl⟩:=I3.loc;obtain⟨u,ru,lk⟩:=hl j y v n2 hs n4;refine⟨u,ru,.inr ⟨?_,?_⟩⟩
    ·rcases h3 with z|z|z
     ·exact(VI n3 z).elim
     ·exact .inl z
     ·exact .inr z
    ·rcases lk with⟨k1,_⟩|⟨_,c,k2,k3⟩
     ·exact absurd k1 n5
     ·obtain⟨c',hc'⟩:=Ek _ _ _ hcl y (.inl (FG n3));have:=XL _ _ _ hcl (λ_ _ z=>by cases z) y c' hc';have k2:X.env.cells.lookup y=some c:=k2;have hcc:c'=c:=Option.some.inj (this.symm.trans k2);subst hcc;exact⟨c',hc',k3.keeps old⟩
  ·obtain⟨v,z⟩:=I3.cell x c (XL _ _ _ hcl (λ_ _ z=>by cases z) x c e);exact⟨v,z.keeps old⟩
  ·exact I3.freeC x c (XL _ _ _ hcl (λ_ _ z=>by cases z) x c e)
  ·rw[Us,U9,Ua];exact B.len.symm
 have RbR:=Dv no cap R2;have eK:(Q5 (Gx X scope cl hp.objs.size Nb {s2 with heap:=hp} H2 (s2.heap.objs.size::fp)) ca [] F0).K=X.K:=rfl;have eP:(Q5 (Gx X scope cl hp.objs.size Nb {s2 with heap:=hp} H2 (s2.heap.objs.size::fp)) ca [] F0).prog=X.prog:=rfl;have eW:(Q5 (Gx X scope cl hp.objs.size Nb {s2 with heap:=hp} H2 (s2.heap.objs.size::fp)) ca [] F0).w=X.w:=rfl;have eA:(Q5 (Gx X scope cl hp.objs.size Nb {s2 with heap:=hp} H2 (s2.heap.objs.size::fp)) ca [] F0).A=X.A:=rfl;have eE:(Q5 (Gx X scope cl hp.objs.size Nb {s2 with heap:=hp} H2 (s2.heap.objs.size::fp)) ca [] F0).env=compEnvC scope cl hp.objs.size X.env:=rfl;have eC:(Q5 (Gx X scope cl hp.objs.size Nb {s2 with heap:=hp} H2 (s2.heap.objs.size::fp)) ca [] F0).calm=true:=hc;have eX:∀b∈s2.heap.objs.size::fp,b∈(Q5 (Gx X scope cl hp.objs.size Nb {s2 with heap:=hp} H2 (s2.heap.objs.size::fp)) ca [] F0).ex:=λb hb=>hb;have eN:∀{pl:Js}{p:Addr×Obj},p∈(Q5 (Gx X scope cl hp.objs.size Nb {s2 with heap:=hp} H2 (s2.heap.objs.size::fp)) ca [] F0).pn++pl->p∈pl:=λh=>h;have toUn:∀{pl:Js}{σ':L2.St}{H':Hp}{s':Shared},Inv (Q5 (Gx X scope cl hp.objs.size Nb {s2 with heap:=hp} H2 (s2.heap.objs.size::fp)) ca [] F0) pl σ' H' s'->Un (O4 (Q5 X ca pn F0).stack) (s2.heap.objs.size::fp) H2 H' hp s'.heap:=λI=>I.base;have toOs:∀{pl:Js}{σ':L2.St}{H':Hp}{s':Shared},Inv (Q5 (Gx X scope cl hp.objs.size Nb {s2 with heap:=hp} H2 (s2.heap.objs.size::fp)) ca [] F0) pl σ' H' s'->s'.os=s2.os:=λI=>I.os;generalize Gx X scope cl hp.objs.size Nb {s2 with heap:=hp} H2 (s2.heap.objs.size::fp)=Xb at okb hgB hiB heB Ib eK eP eW eA eE eC eX eN toUn toOs
 -- the iterator's records,through the block
 have FpB:∀{H:Hp}{pl:Js},(∀b∈fp,H b=none)->(∀p∈pl,p.1∉fp)->∀b∈fp,FpOk (Q5 Xb ca [] F0) pl H b:=λ{H pl} hn hpl b hb=>by
  have e0:=okb.exf b (eX b (Uv _ hb));refine⟨hn b hb,e0.1,?_,.inl (eX b (Uv _ hb)),e0.2,λp hp z=>?_⟩
  ·exact okb.exfs b (eX b (Uv _ hb))
  ·have hp':p∈pl:=eN hp;exact hpl p hp' (z ▸ hb)
 have FpD:∀{H:Hp},H s2.heap.objs.size=none->FpOk (Q5 Xb ca [] F0) [] H s2.heap.objs.size:=λ{H} hn=>by
  have e0:=okb.exf s2.heap.objs.size (eX _ UB);refine⟨hn,e0.1,?_,.inl (eX _ UB),e0.2,λp hp=>?_⟩
  ·exact okb.exfs s2.heap.objs.size (eX _ UB)
  ·exact absurd (eN hp) (by simp)
 have st4:tn 0 h₁:=T.keep _ _ _ st2 λb hb o e=>old b o (by rw[<-hH2];exact Ug _ e)
 -- the invariant
 have loop:∀s4:Shared,s4 = {s2 with heap:=h₁,toks:=s2.toks+([]:List (Str×Value)).length}->codeAny (model X.prog X.w) X.A (.compLoop (.ListComp elt [⟨tg,iter,ifs,0⟩] scope pos) 0 (.ref it) (.ref s2.heap.objs.size) (compEnvC scope cl hp.objs.size X.env)) (RR (.ref s2.heap.objs.size) hp.objs.size) s4:=by
  rintro s4 rfl;refine Ls (λn s'=>∃(i:Nat)(σ4:S3)(g4:G)(μ4:List Addr)(σ5:L2.St)(H4:Hp)(acc:List D)(accV:List V)(its:List Value)(k:Nat),Inv (Q5 Xb ca [] F0) [] σ5 H4 s'/\tn i s'.heap/\(∀b∈fp,H4 b=none)/\H4 s2.heap.objs.size=none/\s'.heap.get? s2.heap.objs.size=some {cls:=.type "list",data:=.seq its.toArray k}/\Vals accV its/\Ext X.K μ2 H2 μ4 H4/\Rep X.K ca μ4 σ4 g4 σ5 H4/\Dens X.K μ4 H4 accV acc/\YW src f tc me n i σ4 g4 acc=.ok ds g2/\acc.length<=i/\i+n<=SZ+1) ?_ (src.top+1) ⟨0,Ec no cap σ3,g1,μ2,_,H2,[],[],[],_,Ib,st4,λb hb=>(f2 b hb).1,fD.1,old _ _ hD3,.nil,.refl,RbR,.nil,hL,Ui _,by omega⟩
  rintro n s5 ⟨i,σ4,g4,μ4,σ5,H4,acc,accV,its,k,I5,st5,fr5,frD,hD5,va,e5,R5,da,hl5,ha5,hn5⟩;cases n with
  |zero=>cases hl5|succ n=>
   unfold YW at hl5;have s1:=sim i H4 μ4 g4 e5 R5.g;have pinD:Inv (Q5 Xb ca [] F0) [(s2.heap.objs.size,{cls:=.type "list",data:=.seq its.toArray k})] σ5 H4 s5:=I5.pins_of λp hp=>by rw[Ur.mp hp];have z:=FpD frD;exact⟨hD5,frD,z.2.1,z.2.2.1,λv q=>by cases q⟩
   have nofp:∀p∈[(s2.heap.objs.size,({cls:=.type "list",data:=.seq its.toArray k}:Obj))],p.1∉fp:=λp hp=>by rw[Ur.mp hp];exact DnF
   have getD:∀{σ':L2.St}{H':Hp}{s':Shared}{pl:Js},Inv (Q5 Xb ca [] F0) ([(s2.heap.objs.size,({cls:=.type "list",data:=.seq its.toArray k}:Obj))]++pl) σ' H' s'->s'.heap.get? s2.heap.objs.size=some {cls:=.type "list",data:=.seq its.toArray k}/\H' s2.heap.objs.size=none:=λ{σ' H' s' pl} I'=>by have z:=I'.pin (s2.heap.objs.size,{cls:=.type "list",data:=.seq its.toArray k}) (UD _ (Tu _ (Ur.mpr rfl)));exact⟨z.1,z.2.1⟩
   cases hat:src.at' g4 i with
   |none=>rw[hat]at hl5;cases hl5|some od=>
    rw[hat]at hl5 s1;cases od with
    |none=>
     cases hl5;have dn:=T.done (Q5 Xb ca [] F0) eP eW eK eC i _ s5 σ5 H4 (λ_ _=>False) pinD (FpB fr5 nofp) st5 s1;rw[eA]at dn;refine YR dn λr s6 ⟨hr,I6⟩=>?_;subst hr;obtain⟨hD6,frD6⟩:=getD (pl:=[]) (by rw[UY];exact I6);have un:Un (O4 (Q5 X ca pn F0).stack) (s2.heap.objs.size::fp) H2 H4 hp s6.heap:=toUn I6;have hok:HOk (Q5 X ca pn F0).prog (Q5 X ca pn F0).w H4 s6.heap:=by have:=I6.hok;rw[eP,eW]at this;exact this
     have os:s6.os=s2.os:=toOs I6;have I7:Inv (Q5 X ca pn F0) pins σ H4 s6:=Inv.call' (s':=s6) (ch:=s2.heap.objs.size::fp) I3 os un hok I6.bare λb hb=>⟨(exOk b hb).2.2.2.1,(exOk b hb).2.1,(exOk b hb).2.2.2.2.1,(exOk b hb).2.2.2.2.2⟩;have hCn:H4 hp.objs.size=none:=by have:=I6.free;rw[eE]at this;exact this
     have nsC:∃m,s6.heap.Ns hp.objs.size m:=by obtain⟨m,hm,_⟩:=I6.loc;rw[eE]at hm;exact⟨m,hm⟩
     refine fin _ _ s6 H4 μ4 accV its k I7 nsC (FpOk.mono fC hCn) (FpOk.mono fD frD6) DnC hD6 va ?_ e5 R5.g da;rw[da.length];have:=JX;omega
    |some d=>
     obtain⟨go,yl⟩:=s1;dsimp only at hl5;cases hf:f d σ4 with
     |none=>rw[hf]at hl5;cases hl5|some σ6=>
      rw[hf]at hl5;dsimp only at hl5;have im:=T.item (Q5 Xb ca [] F0) eP eW eK eC i _ s5 σ5 H4 (λ_ _=>False) pinD (FpB fr5 nofp) st5 go;rw[eA]at im;refine YR im λr s6 ⟨u,hr,h6⟩=>?_;subst hr;refine YR h6 λ_ s7 ⟨x,H7,I7,r7,y7,st7,fr7⟩=>?_;obtain⟨e7,g7,q7⟩:=yl x H7 y7;have I7':=I7.pinned (FpB fr7 nofp) (T.obj _ _ st7);have R7:=R5.go e7 g7;have asg:=hgB [] F0 _ s7 σ5 H7 x u (λσ' H'=>H'=H7/\Rep X.K ca μ4 σ6 g4 σ' H7) I7' r7 (by have:Xb.K=X.K:=eK;rw[this];exact⟨σ4,g4,μ4,d,σ6,R7,q7,hf,λσ' R'=>⟨rfl,R'⟩⟩);rw[eP,eW,eA,eE]at asg;refine YR (iH asg) λ_ s8 ⟨σ8,H8,I8,e8,R8⟩=>?_;subst e8;cases ht:tc σ6 g4 with
      |raise _ _=>rw[ht]at hl5;cases hl5|stuck=>rw[ht]at hl5;cases hl5|ok b g9=>
       rw[ht]at hl5;have hl5:(if b=true then (match me σ6 g9 with | .ok y g2=>YW src f tc me n (i+1) σ6 g2 (acc++[y])|_=>.stuck) else YW src f tc me n (i+1) σ6 g9 acc)=.ok ds g2:=hl5;have tst:=hiB _ s8 σ8 _ (λb' H'=>b'=b/\∃μ9,Ext X.K μ4 H8 μ9 H'/\Rep X.K ca μ9 σ6 g9 σ8 H') I8 (by have:Xb.K=X.K:=eK;rw[this];refine⟨σ6,g4,μ4,R8,?_⟩;rw[ht];exact λH' μ' e' r'=>⟨rfl,μ',e',R8.go e' r'⟩);have eP':Xb.prog=X.prog:=eP;have eW':Xb.w=X.w:=eW;have eA':Xb.A=X.A:=eA;have eE':Xb.env=compEnvC scope cl hp.objs.size X.env:=eE;rw[eP',eW',eA',eE']at tst;refine YR tst λok s9 ⟨H9,I9,eb,μ9,e9,R9⟩=>?_;subst eb;have again:∀{σ':L2.St}{H':Hp}{s':Shared},Inv (Q5 Xb ca [] F0) ([(s2.heap.objs.size,({cls:=.type "list",data:=.seq its.toArray k}:Obj))]++Gn fp s7.heap) σ' H' s'->Inv (Q5 Xb ca [] F0) [] σ' H' s'/\tn (i+1) s'.heap/\∀b∈fp,H' b=none:=λ{σ' H' s'} I'=>by refine⟨I'.pins_of λp hp=>absurd hp (by simp),T.keep _ _ _ st7 λb hb o e=>(I'.pin (b,o) (UD _ (UD _ (Kl hb e)))).1,λb hb=>?_⟩;obtain⟨o,e,_⟩:=T.obj _ _ st7 b hb;exact(I'.pin (b,o) (UD _ (UD _ (Kl hb e)))).2.1
       cases ok with
       |false =>rw[Ud Uf]at hl5 ⊢;obtain⟨J1,J2,J3⟩:=again I9;obtain⟨K1,K2⟩:=getD I9;refine⟨n,Tq n,i+1,σ6,g9,μ9,σ8,H9,acc,accV,its,k,J1,J2,J3,K2,K1,va,(e5.trans e7).trans e9,R9,(da.mono e7).mono e9,hl5,by omega,by omega⟩|true=>
        rw[Ub rfl]at hl5 ⊢;cases hm:me σ6 g9 with
        |raise _ _=>rw[hm]at hl5;cases hl5|stuck=>rw[hm]at hl5;cases hl5|ok y g10=>
         rw[hm]at hl5;have hl5:YW src f tc me n (i+1) σ6 g10 (acc++[y])=.ok ds g2:=hl5;have el:=heB [] F0 _ s9 σ8 H9 (λvy H'=>∃μ10,Ext X.K μ9 H9 μ10 H'/\Rep X.K ca μ10 σ6 g10 σ8 H'/\Den X.K μ10 H' vy y) I9 (by have:Xb.K=X.K:=eK;rw[this];refine⟨σ6,g9,μ9,R9,?_⟩;rw[hm];exact λv H' μ' e' r' q'=>⟨μ',e',R9.go e' r',q'⟩);rw[eP,eW,eA,eE]at el;refine YR (iH el) λuy s10 ⟨vy,H10,I10,ry,μ10,e10,R10,qy⟩=>?_;obtain⟨K1,K2⟩:=getD I10;obtain⟨J1,J2,J3⟩:=again I10;have hlen:its.length=acc.length:=by rw[<-va.length,da.length]
         refine Rb F.slot_list_append ⟨_,K1,rfl⟩ F.entry_list_append (F.args_list_append_2 _ _) (PySem.list_append s2.heap.objs.size its.toArray k uy (by rw[Ue,Ry];have:SZ=1000000:=rfl;omega)) ⟨K1,?_⟩;have up:=PySem.IsL.update K1 (·.push uy);rw[show its.toArray.push uy=(its++[uy]).toArray by simp]at up;have upo:∀b o,b≠s2.heap.objs.size->s10.heap.get? b=some o->(s10.heap.update s2.heap.objs.size (Obj.mapSeq (·.push uy))).get? b=some o:=λb o hb e=>(Th s10.heap (Obj.mapSeq (·.push uy)) (Ne.symm hb)).trans e;obtain⟨d0,d1,d2,d3,d4,d5⟩:=FpD K2;refine⟨n,Tq n,i+1,σ6,g10,μ10,σ8,H10,acc++[y],accV++[vy],its++[uy],_,J1.turned (t':=s10.toks) upo d0 d1 d3 d4 d5,T.keep _ _ _ J2 λb hb o e=>upo b o (λz=>DnF (z ▸ hb)) e,J3,K2,up,va.append (.cons ry .nil),((e5.trans e7).trans e9).trans e10,R10,((da.mono e7).mono e9).mono e10 |>.append (.cons qy .nil),hl5,by rw[Us,T4];omega,by omega⟩
 exact codeAny_compStart_list (loop _ rfl) (T.self _ 0 _ _ _ st4 (loop _ rfl))
end
section
variable{X:Cx}{ca:Nat->Addr}
theorem Dw{K:Frag}{Φ:XS}{σ:L2.St}{Q:VK}{H:Hp}{μ:List Addr}{mi:MI}{no:Nat}{cap:List Nat}{f:MG}{tc:MT}{me:ME}{σ3:S3}{g:G}(p:Post K ca Φ σ Q H μ (ZK mi no cap f tc me σ3 g)):
  ∃src g1 ds g2,mi σ3 g=.ok src g1/\src.top<=SZ/\YW src f tc me (src.top+1) 0 (Ec no cap σ3) g1 []=.ok ds g2/\Post K ca Φ σ Q H μ (.ok (.ref g2.length) (g2++[.lst ds])):=by
 unfold ZK at p;cases hm:mi σ3 g with
 |raise _ _=>rw[hm]at p;exact p.elim|stuck=>rw[hm]at p;exact p.elim|ok src g1=>
  rw[hm]at p;dsimp only at p;by_cases hz:src.top<=SZ
  ·rw[Ub hz]at p;cases hL:YW src f tc me (src.top+1) 0 (Ec no cap σ3) g1 []with
   |raise _ _=>rw[hL]at p;exact p.elim|stuck=>rw[hL]at p;exact p.elim|ok ds g2=>rw[hL]at p;exact⟨src,g1,ds,g2,rfl,hz,hL,p⟩
  ·rw[Ud hz]at p;exact p.elim
theorem Xo{tg iter elt:Expr}{ifs:List Expr}{scope:Scope}{pos:Pos}{Nb:List Str}{no:Nat}{cap:List Nat}{mi:MI}{f:MG}{tc:MT}{me:ME}(B:BScope X scope Nb no cap)(hc:X.calm=true)(hi:dS ca X tg iter mi)(hb:∀cl C s3 H3 ex,dQ ca (Gx X scope cl C Nb s3 H3 ex) tg f/\oO ca (Gx X scope cl C Nb s3 H3 ex) ifs tc/\QW ca (Gx X scope cl C Nb s3 H3 ex) elt me)(hs:∀x,foldedSetIterable iter X.env x=pure x:=by intro _;rfl):QW ca X (.ListComp elt [⟨tg,iter,ifs,0⟩] scope pos) (ZK mi no cap f tc me):=by
 intro pn Φ pins s σ H Q I' ⟨σ3,g,μ,R,p⟩;obtain⟨src,g1,ds,g2,hm,hz,hL,p⟩:=Dw p;have I:Inv (Q5 X ca pn F0) pins σ H s:=Inv.wish I' _;suffices hh:wpAny (model X.prog X.w) X.A (eval (.ListComp elt [⟨tg,iter,ifs,0⟩] scope pos) X.env) (EP (Q5 X ca pn F0) pins σ Q) (λ_ _=>False) s from
  Td hh (λu s' ⟨v,H',J,r,q⟩=>⟨v,H',Inv.wish J _,r,q⟩) λ_ _ z=>z.elim
 obtain⟨cl,hcl⟩:=B1 (cells:=X.env.cells) scope.names [] λy hy hf=>I.ok.has y.1 (B.free y hy hf);rw[eval_ListComp];refine wpAny_comprehension_free (env:=X.env) (use:=none) rfl hs (Cn hcl) B.kind B.loc ?_;refine YR (iH (hi pn F0 pins s σ H (λJ H'=>∃μ',Ext X.K μ H μ' H'/\GRep X.K ca μ' H' g1/\Dt X.K ca μ' H' src J) I ⟨σ3,g,μ,R,?_⟩)) λv s1 h1=>YR (iH h1) λitv s2 h2=>?_
 ·rw[hm];exact λJ H' μ' e r sm=>⟨μ',e,r,sm⟩
 ·obtain⟨it,fp,tn,J,H2,e,I2,T,st2,f2,μ2,e2,r2,sim⟩:=h2;subst e;refine IE (X:=X) (pn:=pn) (RR:=λacc C=>compPost (model X.prog X.w) X.A (λ_ _=>False) none (EP (Q5 X ca pn F0) pins σ Q) acc C) B hc hb hcl I2 T st2 f2 (R.go e2 r2) sim hz hL ?_;intro D C s' H4 μ4 accV its k I4 nsC fC fD dc hD va hl e4 r4 da;obtain⟨m,nsC⟩:=nsC;refine⟨m,nsC,λh'' hs''=>?_⟩;have I5:Inv (Q5 X ca pn F0) pins σ H4 {s' with heap:=h''}:=I4.turned (t':=s'.toks) (λb o hb e=>hs''.extBut b o hb e) fC.1 fC.2.1 fC.2.2.2.1 fC.2.2.2.2.1 fC.2.2.2.2.2;have hD':=hs''.extBut _ _ dc hD;have I6:=Inv.track (o:=.lst accV) I5 fD ⟨hl,its,k,va,hD'⟩;refine⟨.ref D,_,I6,rfl,p _ _ (μ4++[D]) ((e2.trans e4).trans (Zr fD.1)) (r4.push fD.1 ⟨accV,QN,da.mono (Zr fD.1)⟩) (.ref ?_)⟩;rw[<-r4.len];simp
theorem EY(i:Nat){x:Str}{py spos:Pos}{tg iter elt:Expr}{ifs:List Expr}{scope:Scope}{pos:Pos}{Nb:List Str}{no:Nat}{cap:List Nat}{mi:MI}{f:MG}{tc:MT}{me:ME}(hN:X.N.Nodup)(B:BScope X scope Nb no cap)(hc:X.calm=true)(hi:dS ca X tg iter mi)(hb:∀cl C s3 H3 ex,dQ ca (Gx X scope cl C Nb s3 H3 ex) tg f/\oO ca (Gx X scope cl C Nb s3 H3 ex) ifs tc/\QW ca (Gx X scope cl C Nb s3 H3 ex) elt me)(hs:∀x,foldedSetIterable iter X.env x=pure x:=by intro _;rfl)(hn:X.N[i]?=some x:=by rfl)(hx:Loc X.env.scope x:=by first|exact Or.inl rfl|exact Or.inr rfl)(hf:X.fn x=true\/X.env.scope.names.lookup x=some .local:=by first|exact .inl rfl|exact .inr rfl)(hsw:swapsWith (.ListComp elt [⟨tg,iter,ifs,0⟩] scope pos) (some (.Name x py)) spos.line X.env=pure true:=by rfl):
  L9 ca X (.Assign [.Name x py] (.ListComp elt [⟨tg,iter,ifs,0⟩] scope pos) spos) (Qy (Qm i) (ZK mi no cap f tc me)):=by
 intro pn Φ pins s σ H En I' ⟨σ3,g,μ,R,p⟩;have pp:∃src g1 ds g2,mi σ3 g=.ok src g1/\src.top<=SZ/\YW src f tc me (src.top+1) 0 (Ec no cap σ3) g1 []=.ok ds g2/\PostS X.K ca Φ En H μ (.nx (σ3.set i (some (.ref g2.length))) (g2++[.lst ds])):=by
  unfold Qy ZK Qm at p;cases hm:mi σ3 g with
  |raise _ _=>rw[hm]at p;exact p.elim|stuck=>rw[hm]at p;exact p.elim|ok src g1=>
   rw[hm]at p;dsimp only at p;by_cases hz:src.top<=SZ
   ·rw[Ub hz]at p;cases hL:YW src f tc me (src.top+1) 0 (Ec no cap σ3) g1 []with
    |raise _ _=>rw[hL]at p;exact p.elim|stuck=>rw[hL]at p;exact p.elim|ok ds g2=>rw[hL]at p;exact⟨src,g1,ds,g2,rfl,hz,hL,p⟩
   ·rw[Ud hz]at p;exact p.elim
 obtain⟨src,g1,ds,g2,hm,hz,hL,p⟩:=pp;have I:Inv (Q5 X ca pn F0) pins σ H s:=Inv.wish I' _;suffices hh:wpAny (model X.prog X.w) X.A (exec (.Assign [.Name x py] (.ListComp elt [⟨tg,iter,ifs,0⟩] scope pos) spos) X.env) (SP (Q5 X ca pn F0) pins En) (λ_ _=>False) s from
  Td hh (λu s' z=>SP.unwish (X:=Q5 X ca pn Φ) (E:=(Q5 X ca pn F0).xe) z) λ_ _ z=>z.elim
 obtain⟨cl,hcl⟩:=B1 (cells:=X.env.cells) scope.names [] λy hy hf=>I.ok.has y.1 (B.free y hy hf);rw[exec_Assign_Name_used _ _ _ _ hsw];refine Uc (wpAny_standAt (Uc ?_));show wpAny _ _ (do let _ <-comprehension (.ListComp elt [⟨tg,iter,ifs,0⟩] scope pos) scope X.env _ (newList []) false (eval iter X.env) (some (assign (.Name x py) X.env))) _ _ s;refine Uc (Td (wpAny_comprehension_free (env:=X.env) (use:=some (assign (.Name x py) X.env)) (Q:=λ_ s'=>SP (Q5 X ca pn F0) pins En .next s') rfl hs (Cn hcl) B.kind B.loc ?_) (λ_ s' hq=>Up (Up hq)) λ_ _ e=>e);refine YR (iH (hi pn F0 pins s σ H (λJ H'=>∃μ',Ext X.K μ H μ' H'/\GRep X.K ca μ' H' g1/\Dt X.K ca μ' H' src J) I ⟨σ3,g,μ,R,?_⟩)) λv s1 h1=>YR (iH h1) λitv s2 h2=>?_
 ·rw[hm];exact λJ H' μ' e r sm=>⟨μ',e,r,sm⟩
 ·obtain⟨it,fp,tn,J,H2,e,I2,T,st2,f2,μ2,e2,r2,sim⟩:=h2;subst e;refine IE (X:=X) (pn:=pn) (RR:=λacc C=>compPost (model X.prog X.w) X.A (λ_ _=>False) (some (assign (.Name x py) X.env)) (λ_ s'=>SP (Q5 X ca pn F0) pins En .next s') acc C) B hc hb hcl I2 T st2 f2 (R.go e2 r2) sim hz hL ?_;intro D C s' H4 μ4 accV its k I4 nsC fC fD dc hD va hl e4 r4 da;obtain⟨m,oC,es,ep,hoC,hdC,kk⟩:=nsC;have I4':Inv (Q5 X ca pn F0) (pins++[(C,oC)]) σ H4 s':=I4.pins_of λq hq=>by
   rcases U6.mp hq with z|z
   ·exact I4.pin q (UD _ z)
   ·rw[Ur.mp z];exact⟨hoC,fC.1,fC.2.1,fC.2.2.1,λv w=>by rw[show oC.data=_ from hdC]at w;cases w⟩
  have fD':FpOk (Q5 X ca pn F0) (pins++[(C,oC)]) H4 D:=⟨fD.1,fD.2.1,fD.2.2.1,fD.2.2.2.1,fD.2.2.2.2.1,λq hq=>by
   rcases U6.mp hq with z|z
   ·exact fD.2.2.2.2.2 q (Tu _ z)
   ·rcases U6.mp z with z|z
    ·exact fD.2.2.2.2.2 q (UD _ z)
    ·rw[Ur.mp z];exact Ne.symm dc⟩
  have I6:=Inv.track (o:=.lst accV) I4' fD' ⟨hl,its,k,va,hD⟩;show wpAny (model X.prog X.w) X.A (assign (.Name x py) X.env (.ref D)) _ _ s';refine wpAny_assign_Name (Gm (X:=Q5 X ca pn F0) I6 hN hn hx (v:=.ref D) rfl (λs'' I7=>?_) hf);have pC:=I7.pin (C,oC) (UD _ (UD _ (Ur.mpr rfl)));refine⟨m,⟨oC,es,ep,pC.1,hdC,kk⟩,λh'' hs''=>?_⟩;have I8:Inv (Q5 X ca pn F0) pins (σ.set i (some (.ref D))) (YD H4 D (.lst accV)) {s'' with heap:=h''}:=(I7.pins_of (pins':=pins) λq hq=>I7.pin q (UD _ (Tu _ hq))).turned (t':=s''.toks) (λb o hb e=>hs''.extBut b o hb e) (by rw[QZ (Ne.symm dc)];exact fC.1) fC.2.1 fC.2.2.2.1 fC.2.2.2.2.1 fC.2.2.2.2.2
  refine⟨_,_,I8,p _ _ (μ4++[D]) ((e2.trans e4).trans (Zr fD.1)) (Rep.set ((R.go (e2.trans e4) r4).go (Zr fD.1) (r4.push (o:=.lst accV) (u:=.lst ds) fD.1 ⟨accV,QN,da.mono (Zr fD.1)⟩)) (.ref ?_) i)⟩;rw[<-r4.len];simp
end
section
variable{X:Cx}{ca:Nat->Addr}{a b:Expr}{ma mb:ME}{pos:Pos}
theorem Dx:OpR X (binaryOp .Add) (λx y H Q=>∃a b ys,x=.ref a/\y=.ref b/\SqT X.K H a []/\SqT X.K H b ys/\Q (.ref b) H):=by
 intro pins s σ H x y v u Q I rx ry h;obtain⟨a,b,ys,rfl,rfl,ha,hb,q⟩:=h;cases rx;cases ry;obtain⟨us,r1,p1,_⟩:=I.tuple ha;obtain⟨ts,r2,p2,_⟩:=I.tuple hb;cases r1;obtain⟨⟨cls,dd,data,sl⟩,ho,hc,n,hd⟩:=id p1;obtain⟨⟨cls2,dd2,data2,sl2⟩,ho2,hc2,n2,hd2⟩:=id p2;simp only at hc hd hc2 hd2;subst hc hd hc2 hd2;exact concat_meets ⟨_,ho,rfl⟩ ⟨_,ho2,rfl⟩ Wx seq_tuple_add Rz Ru (Rk _ _)
   (tuple_addW0 a b _ _ n n2 dd dd2 sl sl2 (by simp)) ⟨ho,ho2,⟨.ref b,H,I,rfl,q⟩⟩
theorem Dy{K:Frag}:Jk K ca (λx y H Q=>(((∃i j,x=.int i/\y=.int j/\Q (.int (i+j)) H)\/iA K x y H Q)\/oG x y H Q)\/(∃a b ys,x=.ref a/\y=.ref b/\SqT K H a []/\SqT K H b ys/\Q (.ref b) H)) QC:=by
 intro Φ σ H μ g x y dx dy Q r qx qy p;unfold QC at p;cases qx with
 |int i=>
  cases qy with
  |int j=>exact .inl (.inl (.inl ⟨i,j,rfl,rfl,p _ H μ .refl r (.int _)⟩))|_=>exact p.elim
 |@tup ax xs dsx hx hsx=>
  cases qy with
  |@tup ay ys dsy hy hsy=>
   dsimp only at p;by_cases z:dsx.length+dsy.length<=SZ
   ·rw[Ub z]at p;by_cases hx0:dsx=[]
    ·subst hx0;cases hsx;exact .inr ⟨ax,ay,ys,rfl,rfl,hx,hy,p _ H μ .refl r (.tup hy hsy)⟩
    ·refine .inl (.inl (.inr ⟨ax,ay,xs,ys,rfl,rfl,hx,hy,?_,by rw[hsx.length,hsy.length];exact Um z JX,λe=>?_,λ_ t ht=>p _ _ μ (ZD ht) (r.new ht) (.tup (.of QN) ((hsx.append hsy).mono (ZD ht)))⟩))
     ·rintro rfl;cases hsx;exact hx0 rfl
     ·subst e;cases hsy;rw[UY]at p;exact p _ H μ .refl r (.tup hx hsx)
   ·rw[Ud z]at p;exact p.elim
  |_=>exact p.elim
 |@ref n an hn=>
  cases qy with
  |@ref m am hm=>
   dsimp only at p;cases hg:g[n]? with
   |none=>rw[hg]at p;exact p.elim|some o=>
    cases hg2:g[m]? with
    |none=>rw[hg,hg2]at p;cases o<;>exact p.elim|some o2=>
     rw[hg,hg2]at p;obtain⟨a1,ha1,or1⟩:=r.addr hg;obtain⟨a2,ha2,or2⟩:=r.addr hg2;rw[hn]at ha1;cases ha1;rw[hm]at ha2;cases ha2;cases o with
     |lst xs=>
      cases o2 with
      |lst ys=>
       dsimp only at p;obtain⟨vs,hH,q⟩:=or1;obtain⟨ws,hH2,q2⟩:=or2;by_cases z:xs.length+ys.length<=SZ
       ·rw[Ub z]at p;refine .inl (.inr ⟨an,am,vs,ws,rfl,rfl,hH,hH2,by rw[q.length,q2.length];exact Um z JX,λt ht=>p _ _ (μ++[t]) (Zr ht) (r.push ht ⟨_,QN,(q.append q2).mono (Zr ht)⟩) (.ref ?_)⟩);rw[<-r.len];simp
       ·rw[Ud z]at p;exact p.elim
      |_=>exact p.elim
     |_=>cases o2<;>exact p.elim
  |_=>exact p.elim
 |_=>cases qy<;>exact p.elim
theorem QL(ha:QW ca X a ma)(hb:QW ca X b mb):QW ca X (.BinOp a .Add b pos) (Qd QC ma mb):=Mq (λ_ _=>((op_add.or dH).or kN).or Dx) Dy ha hb
theorem Pg{K:Frag}{C:Int->Int->Prop}{h:Int->Int->V}{f:D->D->G->Res D}(hf:∀Φ σ i j g Q H μ,GRep K ca μ H g->Post K ca Φ σ Q H μ (f (.int i) (.int j) g)->C i j/\Q (h i j) H)(hn:∀Φ σ x y g Q H μ,Post K ca Φ σ Q H μ (f x y g)->∃i j,x=.int i/\y=.int j):Jk K ca (rI C h) f:=by intro Φ σ H μ g x y dx dy Q r qx qy p;obtain⟨i,j,rfl,rfl⟩:=hn Φ σ dx dy g Q H μ p;cases qx;cases qy;obtain⟨c,q⟩:=hf Φ σ i j g Q H μ r p;exact⟨i,j,rfl,rfl,c,q⟩
theorem Mw{K:Frag}{h:Int->Int->V}{f:D->D->G->Res D}(hf:∀Φ σ i j g Q H μ,GRep K ca μ H g->Post K ca Φ σ Q H μ (f (.int i) (.int j) g)->Q (h i j) H)(hn:∀Φ σ x y g Q H μ,Post K ca Φ σ Q H μ (f x y g)->∃i j,x=.int i/\y=.int j):Jk K ca (cH h) f:=by intro Φ σ H μ g x y dx dy Q r qx qy p;obtain⟨i,j,rfl,rfl⟩:=hn Φ σ dx dy g Q H μ p;cases qx;cases qy;exact⟨i,j,rfl,rfl,hf Φ σ i j g Q H μ r p⟩
theorem El{K:Frag}{f:D->D->G->Res D}(h:∀x y g,(∃i j,x=D.int i/\y=D.int j)\/f x y g=.stuck)(Φ:XS)(σ:L2.St)(x y:D)(g:G)(Q:VK)(H:Hp)(μ:List Addr)(p:Post K ca Φ σ Q H μ (f x y g)):∃i j,x=.int i/\y=.int j:=by
 rcases h x y g with z|z
 ·exact z
 ·rw[z]at p;exact p.elim
theorem X3(ha:QW ca X a ma)(hb:QW ca X b mb):QW ca X (.BinOp a .Sub b pos) (Qd XJ ma mb):=Mq (λ_ _=>jZ) (Mw (λΦ σ i j g Q H μ r p=>p _ H μ .refl r (.int _)) (El λx y g=>by cases x<;>cases y<;>first|exact .inl ⟨_,_,rfl,rfl⟩|exact .inr rfl)) ha hb
theorem Xp(ha:QW ca X a ma)(hb:QW ca X b mb):QW ca X (.BinOp a .FloorDiv b pos) (Qd Yw ma mb):=
 Mq (λ_ _=>cX) (Pg (λΦ σ i j g Q H μ r p=>by
  unfold Yw at p;by_cases z:0<j/\j<1073741824
  ·dsimp only at p;rw[Ub z]at p;exact⟨z,p _ H μ .refl r (.int _)⟩
  ·dsimp only at p;rw[Ud z]at p;exact p.elim) (El λx y g=>by cases x<;>cases y<;>first|exact .inl ⟨_,_,rfl,rfl⟩|exact .inr rfl)) ha hb
theorem Jv(ha:QW ca X a ma)(hb:QW ca X b mb):QW ca X (.BinOp a .Mod b pos) (Qd Yg ma mb):=
 Mq (λ_ _=>kA) (Pg (λΦ σ i j g Q H μ r p=>by
  unfold Yg at p;by_cases z:0<j
  ·dsimp only at p;rw[Ub z]at p;exact⟨z,p _ H μ .refl r (.int _)⟩
  ·dsimp only at p;rw[Ud z]at p;exact p.elim) (El λx y g=>by cases x<;>cases y<;>first|exact .inl ⟨_,_,rfl,rfl⟩|exact .inr rfl)) ha hb
theorem Dens.rep{K:Frag}{μ:List Addr}{H:Hp}{vs:List V}{ds:List D}(h:Dens K μ H vs ds):∀k:Nat,Dens K μ H (List.replicate k vs).flatten (List.replicate k ds).flatten
 |0=>.nil|k+1=>by rw[UV,UV,Tv,Tv];exact h.append (Dens.rep h k)
theorem Dz{K:Frag}:Jk K ca (λx y H Q=>(∃i j,x=.int i/\y=.int j/\(cM i\/cM j)/\Q (.int (i*j)) H)\/iB K x y H Q) JG:=by
 intro Φ σ H μ g x y dx dy Q r qx qy p;unfold JG at p;cases qx with
 |int i=>
  cases qy with
  |int j=>
   dsimp only at p;by_cases z:cM i\/cM j
   ·rw[Ub z]at p;exact .inl ⟨i,j,rfl,rfl,z,p _ H μ .refl r (.int _)⟩
   ·rw[Ud z]at p;exact p.elim
  |_=>exact p.elim
 |@tup ax xs ds hx hsx=>
  cases qy with
  |int k=>
   dsimp only at p;by_cases z:(0<=k/\k<1073741824)/\ds.length*k.toNat<=SZ
   ·rw[Ub z]at p;refine .inr ⟨ax,k,xs,rfl,rfl,hx,z.1.1,by omega,by rw[hsx.length];exact Um z.2 JX,λe=>?_,λ_ _ t ht=>p _ _ μ (ZD ht) (r.new ht) (.tup (.of QN) ((hsx.rep k.toNat).mono (ZD ht)))⟩;have e2:(List.replicate k.toNat ds).flatten=ds:=by
     rcases e with e|e
     ·subst e;cases hsx;simp
     ·subst e;simp
    rw[e2]at p;exact p _ H μ .refl r (.tup hx hsx)
   ·rw[Ud z]at p;exact p.elim
  |_=>exact p.elim
 |_=>cases qy<;>exact p.elim
theorem Br(ha:QW ca X a ma)(hb:QW ca X b mb):QW ca X (.BinOp a .Mult b pos) (Qd JG ma mb):=Mq (λ_ _=>op_mul.or dN) Dz ha hb
theorem Vp(ha:QW ca X a ma):QW ca X (.UnaryOp .USub a pos) (Qu X4 ma):=
 tH (λ_ _=>kB) (λΦ σ H μ g x dx Q r qx p=>by
  cases qx with
  |int i=>exact⟨i,rfl,p _ H μ .refl r (.int _)⟩|_=>exact p.elim) ha
theorem XM{K:Frag}(r:Int->Int->Bool):Jk K ca (cH λi j=>.bl (r i j)) (SM r):=Mw (λΦ σ i j g Q H μ r p=>p _ H μ .refl r (.bl _)) (El λx y g=>by cases x<;>cases y<;>first|exact .inl ⟨_,_,rfl,rfl⟩|exact .inr rfl)
theorem tK(ha:QW ca X a ma)(hb:QW ca X b mb):QW ca X (.Compare a [.Lt] [b] pos) (Qd FV ma mb):=Gu (λ_ _=>A9) (XM _) ha hb (Xm b)
theorem kZ(ha:QW ca X a ma)(hb:QW ca X b mb):QW ca X (.Compare a [.Gt] [b] pos) (Qd Lj ma mb):=Gu (λ_ _=>hU) (XM _) ha hb (Xm b)
theorem tM(ha:QW ca X a ma)(hb:QW ca X b mb):QW ca X (.Compare a [.GtE] [b] pos) (Qd dP ma mb):=Gu (λ_ _=>hV) (XM _) ha hb (Xm b)
theorem FH(ha:QW ca X a ma)(hb:QW ca X b mb):Gg ca X (.Compare a [.Lt] [b] pos) (Qn (Qd FV ma mb)):=XB (λ_ _=>A9) (XM _) ha hb (Xm b)
theorem Ph(ha:QW ca X a ma)(hb:QW ca X b mb):Gg ca X (.Compare a [.Gt] [b] pos) (Qn (Qd Lj ma mb)):=XB (λ_ _=>hU) (XM _) ha hb (Xm b)
theorem Pi(ha:QW ca X a ma)(hb:QW ca X b mb):Gg ca X (.Compare a [.GtE] [b] pos) (Qn (Qd dP ma mb)):=XB (λ_ _=>hV) (XM _) ha hb (Xm b)
end
section
variable{X:Cx}{ca:Nat->Addr}{pins:Js}{σ:L2.St}{H:Hp}{s:Shared}{μ:List Addr}{g:G}
theorem Bs{eq:D->D->Option Bool}:∀(xs ys:List D)(b:Bool),YQ eq xs ys=some b->∃e:Nat->Bool,(∀(j:Nat)(x y:D),xs[j]?=some x->ys[j]?=some y->eq x y=some (e j))/\b=((List.range (min xs.length ys.length)).all e&&(xs.length==ys.length))
 |[],[],b,h=>by cases h;exact⟨λ_=>true,λj x y h=>by simp at h,by simp⟩
 |[],_::ys,b,h=>by cases h;exact⟨λ_=>true,λj x y h=>by simp at h,by simp⟩
 |_::xs,[],b,h=>by cases h;exact⟨λ_=>true,λj x y _ h=>by simp at h,by simp⟩
 |x::xs,y::ys,b,h=>by
  unfold YQ at h;cases h1:eq x y with
  |none=>rw[h1]at h;cases h|some c=>
   cases h2:YQ eq xs ys with
   |none=>rw[h1,h2]at h;cases h|some d=>
    rw[h1,h2]at h;cases h;obtain⟨e,e1,e2⟩:=Bs xs ys d h2;refine⟨λj=>match j with|0=>c|j+1=>e j,λj x' y' hx hy=>?_,?_⟩
    ·cases j with
     |zero =>simp at hx hy;subst hx hy;exact h1|succ j =>simp at hx hy;exact e1 j x' y' hx hy
    ·rw[Uz,Uz,Nat.add_min_add_right,List.range_succ_eq_map,Rn,List.all_map,e2];simp[Function.comp_def,Bool.and_assoc]
theorem Em{A:Around}{eq:D->D->Option Bool}{vs ws:List V}{ds es:List D}{us ts:List Value}{e:Nat->Bool}(qv:Dens X.K μ H vs ds)(qw:Dens X.K μ H ws es)(rv:Vals vs us)(rw':Vals ws ts)(he:∀(j:Nat) (x y:D),ds[j]?=some x->es[j]?=some y->eq x y=some (e j))(ih:∀{v w:V} {d d':D} {u t:Value} {b:Bool},Den X.K μ H v d->Den X.K μ H w d'->RelV v u->RelV w t->eq d d'=some b->SeqAt.EqAt A s u t b):
  ∀(j:Nat)(h1:j<us.toArray.size)(h2:j<ts.toArray.size),SeqAt.EqAt A s us.toArray[j] ts.toArray[j] (e j):=by
 intro j h1 h2;have l1:j<us.length:=by simpa using h1
 have l2:j<ts.length:=by simpa using h2
 have l3:j<vs.length:=by rw[rv.length];exact l1
 have l4:j<ws.length:=by rw[rw'.length];exact l2
 obtain⟨x,hx,qx⟩:=qv.getV (i:=j) (v:=vs[j]) (by simp[l3]);obtain⟨y,hy,qy⟩:=qw.getV (i:=j) (v:=ws[j]) (by simp[l4]);obtain⟨u,hu,ru⟩:=rv.get (i:=j) (x:=vs[j]) (by simp[l3]);obtain⟨t,ht,rt⟩:=rw'.get (i:=j) (x:=ws[j]) (by simp[l4]);have eu:us.toArray[j]=u:=by
  have:us[j]?=some us[j]:=by simp[l1]
  rw[this]at hu;simpa using hu
 have et:ts.toArray[j]=t:=by
  have:ts[j]?=some ts[j]:=by simp[l2]
  rw[this]at ht;simpa using ht
 rw[eu,et];exact ih qx qy ru rt (he j x y hx hy)
theorem Pj{A:Around}{eq:D->D->Option Bool}{a c:Addr}{vs ws:List V}{ds es:List D}{b:Bool}(hu:A.units<cLine)(I:Inv X pins σ H s)(h1:SqT X.K H a vs)(q1:Dens X.K μ H vs ds)(h2:SqT X.K H c ws)(q2:Dens X.K μ H ws es)(ih:∀{v w:V} {d d':D} {u t:Value} {b:Bool},Den X.K μ H v d->Den X.K μ H w d'->RelV v u->RelV w t->eq d d'=some b->SeqAt.EqAt A.in1 s u t b)(h:YQ eq ds es=some b):SeqAt.RcAt A s (.ref a) (.ref c) b:=by
 obtain⟨us,r1,p1,_⟩:=I.tuple h1;obtain⟨ts,r2,p2,_⟩:=I.tuple h2;obtain⟨e,e1,e2⟩:=Bs ds es b h;have q:=SeqAt.RcAt.tuples (A:=A) p1 p2 hu (e:=e) (Em q1 q2 r1 r2 e1 ih);have l1:us.toArray.size=ds.length:=by rw[Ue,<-r1.length,q1.length]
 have l2:ts.toArray.size=es.length:=by rw[Ue,<-r2.length,q2.length]
 rw[l1,l2]at q;rw[e2];exact q
theorem Pk{A:Around}{eq:D->D->Option Bool}{a c:Addr}{vs ws:List V}{ds es:List D}{b:Bool}(hu:A.units<cLine)(I:Inv X pins σ H s)(h1:SqL X.K H a vs)(q1:Dens X.K μ H vs ds)(h2:SqL X.K H c ws)(q2:Dens X.K μ H ws es)(ih:∀{v w:V} {d d':D} {u t:Value} {b:Bool},Den X.K μ H v d->Den X.K μ H w d'->RelV v u->RelV w t->eq d d'=some b->SeqAt.EqAt A.in1 s u t b)(h:(if ds.length=es.length then YQ eq ds es else some false)=some b):SeqAt.RcAt A s (.ref a) (.ref c) b:=by
 obtain⟨us,r1,p1,_⟩:=I.list h1;obtain⟨ts,r2,p2,_⟩:=I.list h2;have l1:us.toArray.size=ds.length:=by rw[Ue,<-r1.length,q1.length]
 have l2:ts.toArray.size=es.length:=by rw[Ue,<-r2.length,q2.length]
 by_cases hl:ds.length=es.length
 ·rw[Ub hl]at h;obtain⟨e,e1,e2⟩:=Bs ds es b h;have q:=SeqAt.RcAt.lists (A:=A) p1.isList p2.isList (by rw[l1,l2,hl]) hu (e:=e) (Em q1 q2 r1 r2 e1 ih);rw[l1]at q;rw[e2,<-hl,Nat.min_self];simpa using q
 ·rw[Ud hl]at h;cases h;exact SeqAt.RcAt.lists_lengths p1.isList p2.isList (by rw[l1,l2];simpa using hl) hu
theorem Gy(I:Inv X pins σ H s)(r:GRep X.K ca μ H g):∀(f:Nat){v:V}{d e:D}{b:Bool},Den X.K μ H v d->Den X.K μ H v e->Xz g f d e=some b->b=true
 |0,v,d,e,b,h1,h2,h=>by cases h
 |f+1,v,d,e,b,h1,h2,h=>by
  have key:∀{vs:List V}{ds es:List D}{b:Bool},Dens X.K μ H vs ds->Dens X.K μ H vs es->YQ (Xz g f) ds es=some b->b=true:=by
   intro vs;induction vs with
   |nil=>intro ds es b a1 a2 a3;cases a1;cases a2;cases a3;rfl|cons w ws ih=>
    intro ds es b a1 a2 a3;cases a1 with
    |cons c1 c2=>cases a2 with
     |cons c3 c4=>
      rename_i x xs y ys;unfold YQ at a3;cases h1:Xz g f x y with
      |none=>rw[h1]at a3;cases a3|some b1=>
       cases h2:YQ (Xz g f) xs ys with
       |none=>rw[h1,h2]at a3;cases a3|some b2 =>rw[h1,h2]at a3;cases a3;rw[Gy I r f c1 c3 h1,ih c2 c4 h2];rfl
  have hidx:∀{n m:Nat}{a:Addr},μ[n]?=some a->μ[m]?=some a->n=m:=λ{n m a} x1 x2=>by obtain⟨l1,e1⟩:=Uj.mp x1;obtain⟨l2,e2⟩:=Uj.mp x2;exact(Ww r.nd).mp (e1.trans e2.symm)
  cases h1 with
  |non=>cases h2;cases h;rfl|bl a=>cases h2;cases h;simp|int i=>cases h2;cases h;simp|str i=>cases h2;cases h;simp|tup t1 q1=>
   cases h2 with
   |tup t2 q2 =>have ev:=I.tuple_inj t1 t2;subst ev;exact key q1 q2 h|ref hm =>
    exfalso;unfold Xz at h;dsimp only[SN]at h;rename_i m;cases hg:g[m]? with
    |none=>rw[hg]at h;cases h|some o=>
     cases o with
     |lst xs =>obtain⟨b2,hb2,ob2⟩:=r.addr hg;rw[hm]at hb2;cases hb2;obtain⟨vs,hH,_⟩:=ob2;obtain⟨_,_,p1,_⟩:=I.tuple t1;obtain⟨_,_,p2,_⟩:=I.list (.of hH);exact SeqAt.ne_of_list_tuple p2.isList p1 rfl|_=>rw[hg]at h;cases h
   |_=>cases h
  |@ref n a hn=>
   cases h2 with
   |@ref m _ hm=>
    have e:=hidx hn hm;subst e;unfold Xz at h;dsimp only at h;cases hg:g[n]? with
    |none=>rw[hg]at h;cases h|some o=>
     rw[hg]at h;cases o with
     |lst xs =>dsimp only at h;rw[Ub rfl]at h;obtain⟨b2,hb2,ob2⟩:=r.addr hg;rw[hn]at hb2;cases hb2;obtain⟨vs,hH,q⟩:=ob2;exact key q q h|_=>cases h
   |tup t2 q2=>
    exfalso;unfold Xz at h;dsimp only[SN]at h;cases hg:g[n]? with
    |none=>rw[hg]at h;cases h|some o=>
     cases o with
     |lst xs =>obtain⟨b2,hb2,ob2⟩:=r.addr hg;rw[hn]at hb2;cases hb2;obtain⟨vs,hH,_⟩:=ob2;obtain⟨_,_,p1,_⟩:=I.tuple t2;obtain⟨_,_,p2,_⟩:=I.list (.of hH);exact SeqAt.ne_of_list_tuple p2.isList p1 rfl|_=>rw[hg]at h;cases h
   |_=>cases h
  |fl _ _=>cases e<;>cases h
theorem ZA(r:GRep X.K ca μ H g)(I:Inv X pins σ H s){n:Nat}{a:Addr}{b:Bool}(hn:μ[n]?=some a)(h:SN g n=some b):b=false/\∃items,s.heap.IsList a items:=by
 unfold SN at h;cases hg:g[n]? with
 |none=>rw[hg]at h;cases h|some o=>
  rw[hg]at h;cases o with
  |lst xs =>cases h;obtain⟨b2,hb2,ob2⟩:=r.addr hg;rw[hn]at hb2;cases hb2;obtain⟨vs,hH,_⟩:=ob2;obtain⟨us,_,p2,_⟩:=I.list (.of hH);exact⟨rfl,_,p2.isList⟩|_=>cases h
theorem Gz(r:GRep X.K ca μ H g){f n m:Nat}{a c:Addr}{b:Bool}(hn:μ[n]?=some a)(hm:μ[m]?=some c)(h:Xz g (f+1) (.ref n) (.ref m)=some b):
  ∃vs ws ds es,SqL X.K H a vs/\Dens X.K μ H vs ds/\SqL X.K H c ws/\Dens X.K μ H ws es/\(if ds.length=es.length then YQ (Xz g f) ds es else some false)=some b:=by
 unfold Xz at h;dsimp only at h;cases hg:g[n]? with
 |none=>rw[hg]at h;cases h|some o1=>
  cases hg2:g[m]? with
  |none=>rw[hg,hg2]at h;cases o1<;>cases h|some o2=>
   rw[hg,hg2]at h;obtain⟨b1,hb1,ob1⟩:=r.addr hg;obtain⟨b2,hb2,ob2⟩:=r.addr hg2;rw[hn]at hb1;cases hb1;rw[hm]at hb2;cases hb2;cases o1 with
   |lst xs=>
    cases o2 with
    |lst ys =>obtain⟨vs,hH1,q1⟩:=ob1;obtain⟨ws,hH2,q2⟩:=ob2;exact⟨vs,ws,xs,ys,.of hH1,q1,.of hH2,q2,h⟩|_=>cases h
   |_=>cases o2<;>cases h
theorem GA(I:Inv X pins σ H s)(r:GRep X.K ca μ H g):∀(f:Nat){A:Around}{v w:V}{d e:D}{u t:Value}{b:Bool},A.units+f<cLine->Den X.K μ H v d->Den X.K μ H w e->RelV v u->RelV w t->Xz g f d e=some b->SeqAt.EqAt A s u t b
 |0,A,v,w,d,e,u,t,b,hu,qv,qw,rv,rw',h=>by cases h
 |f+1,A,v,w,d,e,u,t,b,hu,qv,qw,rv,rw',h=>by
  have hu':A.units<cLine:=by omega
  cases qv with
  |non=>
   cases rv;cases qw with
   |non=>cases rw';cases h;exact RQ _|bl c=>cases rw';cases h;exact SeqAt.EqAt.none_bool _|int j=>obtain⟨z,rfl⟩:=rw';cases h;exact SeqAt.EqAt.none_int _ _|str j=>obtain⟨z,rfl⟩:=rw';cases h;exact SeqAt.EqAt.none_str _ _|tup h2 q2=>cases rw';cases h;obtain⟨_,_,p2,_⟩:=I.tuple h2;exact SeqAt.EqAt.none_tuple p2 hu'|ref hm=>cases rw';obtain⟨rfl,_,p⟩:=ZA r I hm h;exact SeqAt.EqAt.none_list p hu'|fl _ _=>cases h
  |bl a=>
   cases rv;cases qw with
   |non=>cases rw';cases h;exact SeqAt.EqAt.bool_none _|bl c=>cases rw';cases h;exact SeqAt.EqAt.bool_bool _ _|int j=>obtain⟨z,rfl⟩:=rw';cases h;exact SeqAt.EqAt.bool_int _ _ _|str j=>obtain⟨z,rfl⟩:=rw';cases h;exact SeqAt.EqAt.bool_str _ _ _|tup h2 q2=>cases rw';cases h;obtain⟨_,_,p2,_⟩:=I.tuple h2;exact SeqAt.EqAt.bool_tuple _ p2 hu'|ref hm=>cases rw';obtain⟨rfl,_,p⟩:=ZA r I hm h;exact SeqAt.EqAt.bool_list _ p hu'|fl _ _=>cases h
  |int i=>
   obtain⟨y,rfl⟩:=rv;cases qw with
   |non=>cases rw';cases h;exact SeqAt.EqAt.int_none _ _|bl c=>cases rw';cases h;exact SeqAt.EqAt.int_bool _ _ _|int j=>obtain⟨z,rfl⟩:=rw';cases h;exact SeqAt.EqAt.int_int _ _ _ _|str j=>obtain⟨z,rfl⟩:=rw';cases h;exact RZ _ _ _ _|tup h2 q2=>cases rw';cases h;obtain⟨_,_,p2,_⟩:=I.tuple h2;exact SeqAt.EqAt.int_tuple _ _ p2 hu'|ref hm=>cases rw';obtain⟨rfl,_,p⟩:=ZA r I hm h;exact SeqAt.EqAt.int_list _ _ p hu'|fl _ _=>cases h
  |str i=>
   obtain⟨y,rfl⟩:=rv;cases qw with
   |non=>cases rw';cases h;exact SeqAt.EqAt.str_none _ _|bl c=>cases rw';cases h;exact SeqAt.EqAt.str_bool _ _ _|int j=>obtain⟨z,rfl⟩:=rw';cases h;exact R0 _ _ _ _|str j=>obtain⟨z,rfl⟩:=rw';cases h;exact SeqAt.EqAt.str_str _ _ _ _|tup h2 q2=>cases rw';cases h;obtain⟨_,_,p2,_⟩:=I.tuple h2;exact SeqAt.EqAt.str_tuple _ _ p2 hu'|ref hm=>cases rw';obtain⟨rfl,_,p⟩:=ZA r I hm h;exact SeqAt.EqAt.str_list _ _ p hu'|fl _ _=>cases h
  |@tup a1 vs ds h1 q1=>
   cases rv;obtain⟨_,_,p1,_⟩:=id (I.tuple h1);cases qw with
   |non=>cases rw';cases h;exact SeqAt.EqAt.tuple_none p1 hu'|bl c=>cases rw';cases h;exact SeqAt.EqAt.tuple_bool _ p1 hu'|int j=>obtain⟨z,rfl⟩:=rw';cases h;exact SeqAt.EqAt.tuple_int _ _ p1 hu'|str j=>obtain⟨z,rfl⟩:=rw';cases h;exact SeqAt.EqAt.tuple_str _ _ p1 hu'|@tup a2 ws es h2 q2=>
    cases rw';by_cases ea:a1=a2
    ·subst ea;rw[Gy I r (f+1) (.tup h1 q1) (.tup h2 q2) h];exact RQ _
    ·exact SeqAt.EqAt.of_refs ea (Pj hu' I h1 q1 h2 q2 (λa1 a2 a3 a4 a5=>GA I r f (by show A.units+1+f<cLine;omega) a1 a2 a3 a4 a5) h)
   |ref hm=>cases rw';obtain⟨rfl,_,p⟩:=ZA r I hm h;exact SeqAt.EqAt.tuple_list p1 p hu'|fl _ _=>cases h
  |@ref n a hn=>
   cases rv;cases qw with
   |non=>cases rw';obtain⟨rfl,_,p⟩:=ZA r I hn h;exact SeqAt.EqAt.list_none p hu'|bl c=>cases rw';obtain⟨rfl,_,p⟩:=ZA r I hn h;exact SeqAt.EqAt.list_bool _ p hu'|int j=>obtain⟨z,rfl⟩:=rw';obtain⟨rfl,_,p⟩:=ZA r I hn h;exact SeqAt.EqAt.list_int _ _ p hu'|str j=>obtain⟨z,rfl⟩:=rw';obtain⟨rfl,_,p⟩:=ZA r I hn h;exact SeqAt.EqAt.list_str _ _ p hu'|tup h2 q2=>cases rw';obtain⟨_,_,p2,_⟩:=I.tuple h2;obtain⟨rfl,_,p⟩:=ZA r I hn h;exact SeqAt.EqAt.list_tuple p p2 hu'|@ref m c hm=>
    cases rw';by_cases ea:a=c
    ·subst ea;rw[Gy I r (f+1) (.ref hn) (.ref hm) h];exact RQ _
    ·obtain⟨vs,ws,ds,es,h1,q1,h2,q2,h⟩:=Gz r hn hm h;exact SeqAt.EqAt.of_refs ea (Pk hu' I h1 q1 h2 q2 (λa1 a2 a3 a4 a5=>GA I r f (by show A.units+1+f<cLine;omega) a1 a2 a3 a4 a5) h)
   |fl _ _=>cases h
  |fl _ _=>cases e<;>cases h
def dY(K:Frag)(ca:Nat->Addr)(neg:Bool):R2:=λx y H Q=>∃(μ:List Addr)(g:G)(d e:D)(b:Bool),GRep K ca μ H g/\Den K μ H x d/\Den K μ H y e/\Xz g 8 d e=some b/\Q (.bl (if neg=true then !b else b)) H
theorem DA(hu:X.A.units+16<cLine):OpR X (compareOp .Eq) (dY X.K ca false):=by
 intro pins s σ H x y u t Q I rv rw' hh;obtain⟨μ,g,d,e,b,r,qv,qw,h,q⟩:=hh;have hu':X.A.units<cLine:=by omega
 have ih:∀{v w:V}{d d':D}{u t:Value}{b:Bool},Den X.K μ H v d->Den X.K μ H w d'->RelV v u->RelV w t->Xz g 7 d d'=some b->SeqAt.EqAt X.A.in1 s u t b:=λa1 a2 a3 a4 a5=>GA I r 7 (by show X.A.units+1+7<cLine;omega) a1 a2 a3 a4 a5;have go:SeqAt.RcAt X.A s u t (b):=by
  cases qv with
  |non=>
   cases rv;cases qw with
   |non=>cases rw';cases h;exact SeqAt.RcAt.none_none|bl c=>cases rw';cases h;exact SeqAt.RcAt.none_bool _|int j=>obtain⟨z,rfl⟩:=rw';cases h;exact SeqAt.RcAt.none_int _ _|str j=>obtain⟨z,rfl⟩:=rw';cases h;exact SeqAt.RcAt.none_str _ _|tup h2 q2=>cases rw';cases h;obtain⟨_,_,p2,_⟩:=I.tuple h2;exact SeqAt.RcAt.none_tuple p2 hu'|ref hm=>cases rw';obtain⟨rfl,_,p⟩:=ZA r I hm h;exact SeqAt.RcAt.none_list p hu'|fl _ _=>cases h
  |bl a=>
   cases rv;cases qw with
   |non=>cases rw';cases h;exact SeqAt.RcAt.bool_none _|bl c=>cases rw';cases h;exact SeqAt.RcAt.bool_bool _ _|int j=>obtain⟨z,rfl⟩:=rw';cases h;exact SeqAt.RcAt.bool_int _ _ _|str j=>obtain⟨z,rfl⟩:=rw';cases h;exact SeqAt.RcAt.bool_str _ _ _|tup h2 q2=>cases rw';cases h;obtain⟨_,_,p2,_⟩:=I.tuple h2;exact SeqAt.RcAt.bool_tuple _ p2 hu'|ref hm=>cases rw';obtain⟨rfl,_,p⟩:=ZA r I hm h;exact SeqAt.RcAt.bool_list _ p hu'|fl _ _=>cases h
  |int i=>
   obtain⟨y,rfl⟩:=rv;cases qw with
   |non=>cases rw';cases h;exact SeqAt.RcAt.int_none _ _|bl c=>cases rw';cases h;exact SeqAt.RcAt.int_bool _ _ _|int j=>obtain⟨z,rfl⟩:=rw';cases h;exact SeqAt.RcAt.int_int _ _ _ _|str j=>obtain⟨z,rfl⟩:=rw';cases h;exact SeqAt.RcAt.int_str _ _ _ _|tup h2 q2=>cases rw';cases h;obtain⟨_,_,p2,_⟩:=I.tuple h2;exact SeqAt.RcAt.int_tuple _ _ p2 hu'|ref hm=>cases rw';obtain⟨rfl,_,p⟩:=ZA r I hm h;exact SeqAt.RcAt.int_list _ _ p hu'|fl _ _=>cases h
  |str i=>
   obtain⟨y,rfl⟩:=rv;cases qw with
   |non=>cases rw';cases h;exact SeqAt.RcAt.str_none _ _|bl c=>cases rw';cases h;exact SeqAt.RcAt.str_bool _ _ _|int j=>obtain⟨z,rfl⟩:=rw';cases h;exact SeqAt.RcAt.str_int _ _ _ _|str j=>obtain⟨z,rfl⟩:=rw';cases h;exact SeqAt.RcAt.str_str _ _ _ _|tup h2 q2=>cases rw';cases h;obtain⟨_,_,p2,_⟩:=I.tuple h2;exact SeqAt.RcAt.str_tuple _ _ p2 hu'|ref hm=>cases rw';obtain⟨rfl,_,p⟩:=ZA r I hm h;exact SeqAt.RcAt.str_list _ _ p hu'|fl _ _=>cases h
  |tup h1 q1=>
   cases rv;obtain⟨_,_,p1,_⟩:=id (I.tuple h1);cases qw with
   |non=>cases rw';cases h;exact SeqAt.RcAt.tuple_none p1 hu'|bl c=>cases rw';cases h;exact SeqAt.RcAt.tuple_bool _ p1 hu'|int j=>obtain⟨z,rfl⟩:=rw';cases h;exact SeqAt.RcAt.tuple_int _ _ p1 hu'|str j=>obtain⟨z,rfl⟩:=rw';cases h;exact SeqAt.RcAt.tuple_str _ _ p1 hu'|tup h2 q2=>cases rw';exact Pj hu' I h1 q1 h2 q2 ih h|ref hm=>cases rw';obtain⟨rfl,_,p⟩:=ZA r I hm h;exact SeqAt.RcAt.tuple_list p1 p hu'|fl _ _=>cases h
  |@ref n a hn=>
   cases rv;cases qw with
   |non=>cases rw';obtain⟨rfl,_,p⟩:=ZA r I hn h;exact SeqAt.RcAt.list_none p hu'|bl c=>cases rw';obtain⟨rfl,_,p⟩:=ZA r I hn h;exact SeqAt.RcAt.list_bool _ p hu'|int j=>obtain⟨z,rfl⟩:=rw';obtain⟨rfl,_,p⟩:=ZA r I hn h;exact SeqAt.RcAt.list_int _ _ p hu'|str j=>obtain⟨z,rfl⟩:=rw';obtain⟨rfl,_,p⟩:=ZA r I hn h;exact SeqAt.RcAt.list_str _ _ p hu'|tup h2 q2=>cases rw';obtain⟨_,_,p2,_⟩:=I.tuple h2;obtain⟨rfl,_,p⟩:=ZA r I hn h;exact SeqAt.RcAt.list_tuple p p2 hu'|@ref m c hm =>cases rw';obtain⟨vs,ws,ds,es,h1,q1,h2,q2,h⟩:=Gz r hn hm h;exact Pk hu' I h1 q1 h2 q2 ih h|fl _ _=>cases h
  |fl _ _=>cases e<;>cases h
 exact go _ _ _ _ ⟨.bl _,H,I,rfl,q⟩
theorem SU{A:Around}{eq:D->D->Option Bool}{a c:Addr}{vs ws:List V}{ds es:List D}{b:Bool}(hu:A.units<cLine)(I:Inv X pins σ H s)(h1:SqL X.K H a vs)(q1:Dens X.K μ H vs ds)(h2:SqL X.K H c ws)(q2:Dens X.K μ H ws es)(ih:∀{v w:V} {d d':D} {u t:Value} {b:Bool},Den X.K μ H v d->Den X.K μ H w d'->RelV v u->RelV w t->eq d d'=some b->SeqAt.EqAt A.in1 s u t b)(h:(if ds.length=es.length then YQ eq ds es else some false)=some b):SeqAt.RcNeAt A s (.ref a) (.ref c) (!b):=by
 obtain⟨us,r1,p1,_⟩:=I.list h1;obtain⟨ts,r2,p2,_⟩:=I.list h2;have l1:us.toArray.size=ds.length:=by rw[Ue,<-r1.length,q1.length]
 have l2:ts.toArray.size=es.length:=by rw[Ue,<-r2.length,q2.length]
 by_cases hl:ds.length=es.length
 ·rw[Ub hl]at h;obtain⟨e,e1,e2⟩:=Bs ds es b h;have q:=SeqAt.RcNeAt.lists (A:=A) p1.isList p2.isList (by rw[l1,l2,hl]) hu (e:=e) (Em q1 q2 r1 r2 e1 ih);rw[l1]at q;rw[e2,<-hl,Nat.min_self];simpa using q
 ·rw[Ud hl]at h;cases h;exact SeqAt.RcNeAt.lists_lengths p1.isList p2.isList (by rw[l1,l2];simpa using hl) hu
theorem SV{A:Around}{eq:D->D->Option Bool}{a c:Addr}{vs ws:List V}{ds es:List D}{b:Bool}(hu:A.units<cLine)(I:Inv X pins σ H s)(h1:SqT X.K H a vs)(q1:Dens X.K μ H vs ds)(h2:SqT X.K H c ws)(q2:Dens X.K μ H ws es)(ih:∀{v w:V} {d d':D} {u t:Value} {b:Bool},Den X.K μ H v d->Den X.K μ H w d'->RelV v u->RelV w t->eq d d'=some b->SeqAt.EqAt A.in1 s u t b)(h:YQ eq ds es=some b):SeqAt.RcNeAt A s (.ref a) (.ref c) (!b):=by
 obtain⟨us,r1,p1,_⟩:=I.tuple h1;obtain⟨ts,r2,p2,_⟩:=I.tuple h2;obtain⟨e,e1,e2⟩:=Bs ds es b h;have q:=SeqAt.RcNeAt.tuples (A:=A) p1 p2 hu (e:=e) (Em q1 q2 r1 r2 e1 ih);have l1:us.toArray.size=ds.length:=by rw[Ue,<-r1.length,q1.length]
 have l2:ts.toArray.size=es.length:=by rw[Ue,<-r2.length,q2.length]
 rw[l1,l2]at q;rw[e2];exact q
theorem lA(hu:X.A.units+16<cLine):OpR X (compareOp .NotEq) (dY X.K ca true):=by
 intro pins s σ H x y u t Q I rv rw' hh;obtain⟨μ,g,d,e,b,r,qv,qw,h,q⟩:=hh;have hu':X.A.units<cLine:=by omega
 have ih:∀{v w:V}{d d':D}{u t:Value}{b:Bool},Den X.K μ H v d->Den X.K μ H w d'->RelV v u->RelV w t->Xz g 7 d d'=some b->SeqAt.EqAt X.A.in1 s u t b:=λa1 a2 a3 a4 a5=>GA I r 7 (by show X.A.units+1+7<cLine;omega) a1 a2 a3 a4 a5;have go:SeqAt.RcNeAt X.A s u t (!b):=by
  cases qv with
  |non=>
   cases rv;cases qw with
   |non=>cases rw';cases h;exact SeqAt.RcNeAt.none_none|bl c=>cases rw';cases h;exact SeqAt.RcNeAt.none_bool _|int j=>obtain⟨z,rfl⟩:=rw';cases h;exact SeqAt.RcNeAt.none_int _ _|str j=>obtain⟨z,rfl⟩:=rw';cases h;exact SeqAt.RcNeAt.none_str _ _|tup h2 q2=>cases rw';cases h;obtain⟨_,_,p2,_⟩:=I.tuple h2;exact SeqAt.RcNeAt.none_tuple p2 hu'|ref hm=>cases rw';obtain⟨rfl,_,p⟩:=ZA r I hm h;exact SeqAt.RcNeAt.none_list p hu'|fl _ _=>cases h
  |bl a=>
   cases rv;cases qw with
   |non=>cases rw';cases h;exact SeqAt.RcNeAt.bool_none _|bl c=>cases rw';cases h;exact SeqAt.RcNeAt.bool_bool _ _|int j=>obtain⟨z,rfl⟩:=rw';cases h;exact SeqAt.RcNeAt.bool_int _ _ _|str j=>obtain⟨z,rfl⟩:=rw';cases h;exact SeqAt.RcNeAt.bool_str _ _ _|tup h2 q2=>cases rw';cases h;obtain⟨_,_,p2,_⟩:=I.tuple h2;exact SeqAt.RcNeAt.bool_tuple _ p2 hu'|ref hm=>cases rw';obtain⟨rfl,_,p⟩:=ZA r I hm h;exact SeqAt.RcNeAt.bool_list _ p hu'|fl _ _=>cases h
  |int i=>
   obtain⟨y,rfl⟩:=rv;cases qw with
   |non=>cases rw';cases h;exact SeqAt.RcNeAt.int_none _ _|bl c=>cases rw';cases h;exact SeqAt.RcNeAt.int_bool _ _ _|int j=>obtain⟨z,rfl⟩:=rw';cases h;exact SeqAt.RcNeAt.int_int _ _ _ _|str j=>obtain⟨z,rfl⟩:=rw';cases h;exact SeqAt.RcNeAt.int_str _ _ _ _|tup h2 q2=>cases rw';cases h;obtain⟨_,_,p2,_⟩:=I.tuple h2;exact SeqAt.RcNeAt.int_tuple _ _ p2 hu'|ref hm=>cases rw';obtain⟨rfl,_,p⟩:=ZA r I hm h;exact SeqAt.RcNeAt.int_list _ _ p hu'|fl _ _=>cases h
  |str i=>
   obtain⟨y,rfl⟩:=rv;cases qw with
   |non=>cases rw';cases h;exact SeqAt.RcNeAt.str_none _ _|bl c=>cases rw';cases h;exact SeqAt.RcNeAt.str_bool _ _ _|int j=>obtain⟨z,rfl⟩:=rw';cases h;exact SeqAt.RcNeAt.str_int _ _ _ _|str j=>obtain⟨z,rfl⟩:=rw';cases h;exact SeqAt.RcNeAt.str_str _ _ _ _|tup h2 q2=>cases rw';cases h;obtain⟨_,_,p2,_⟩:=I.tuple h2;exact SeqAt.RcNeAt.str_tuple _ _ p2 hu'|ref hm=>cases rw';obtain⟨rfl,_,p⟩:=ZA r I hm h;exact SeqAt.RcNeAt.str_list _ _ p hu'|fl _ _=>cases h
  |tup h1 q1=>
   cases rv;obtain⟨_,_,p1,_⟩:=id (I.tuple h1);cases qw with
   |non=>cases rw';cases h;exact SeqAt.RcNeAt.tuple_none p1 hu'|bl c=>cases rw';cases h;exact SeqAt.RcNeAt.tuple_bool _ p1 hu'|int j=>obtain⟨z,rfl⟩:=rw';cases h;exact SeqAt.RcNeAt.tuple_int _ _ p1 hu'|str j=>obtain⟨z,rfl⟩:=rw';cases h;exact SeqAt.RcNeAt.tuple_str _ _ p1 hu'|tup h2 q2=>cases rw';exact SV hu' I h1 q1 h2 q2 ih h|ref hm=>cases rw';obtain⟨rfl,_,p⟩:=ZA r I hm h;exact SeqAt.RcNeAt.tuple_list p1 p hu'|fl _ _=>cases h
  |@ref n a hn=>
   cases rv;cases qw with
   |non=>cases rw';obtain⟨rfl,_,p⟩:=ZA r I hn h;exact SeqAt.RcNeAt.list_none p hu'|bl c=>cases rw';obtain⟨rfl,_,p⟩:=ZA r I hn h;exact SeqAt.RcNeAt.list_bool _ p hu'|int j=>obtain⟨z,rfl⟩:=rw';obtain⟨rfl,_,p⟩:=ZA r I hn h;exact SeqAt.RcNeAt.list_int _ _ p hu'|str j=>obtain⟨z,rfl⟩:=rw';obtain⟨rfl,_,p⟩:=ZA r I hn h;exact SeqAt.RcNeAt.list_str _ _ p hu'|tup h2 q2=>cases rw';obtain⟨_,_,p2,_⟩:=I.tuple h2;obtain⟨rfl,_,p⟩:=ZA r I hn h;exact SeqAt.RcNeAt.list_tuple p p2 hu'|@ref m c hm =>cases rw';obtain⟨vs,ws,ds,es,h1,q1,h2,q2,h⟩:=Gz r hn hm h;exact SU hu' I h1 q1 h2 q2 ih h|fl _ _=>cases h
  |fl _ _=>cases e<;>cases h
 exact go _ _ _ _ ⟨.bl _,H,I,rfl,q⟩
theorem Pl{K:Frag}:Jk K ca (dY K ca false) Z8:=by
 intro Φ σ H μ g x y dx dy Q r qx qy p;unfold Z8 at p;cases h:Xz g 8 dx dy with
 |none=>rw[h]at p;exact p.elim|some b=>rw[h]at p;exact⟨μ,g,dx,dy,b,r,qx,qy,h,p _ H μ .refl r (.bl _)⟩
theorem dZ{K:Frag}:Jk K ca (dY K ca true) Ci:=by
 intro Φ σ H μ g x y dx dy Q r qx qy p;unfold Ci at p;cases h:Xz g 8 dx dy with
 |none=>rw[h]at p;exact p.elim|some b=>rw[h]at p;exact⟨μ,g,dx,dy,b,r,qx,qy,h,p _ H μ .refl r (.bl _)⟩
end
section
variable{X:Cx}{ca:Nat->Addr}{a b e:Expr}{ma mb me:ME}{pos p:Pos}{k:Nat}
theorem eB{A:Around}(hr:Room k A):A.units+16<cLine:=by have:=hr.units;omega
theorem Cw(hr:Room k X.A)(ha:QW ca X a ma)(hb:QW ca X b mb):QW ca X (.Compare a [.Eq] [b] pos) (Qd Z8 ma mb):=Gu (λpn Φ=>DA (X:=Q5 X ca pn Φ) (eB hr)) Pl ha hb (Xm b)
theorem ZH(hr:Room k X.A)(ha:QW ca X a ma)(hb:QW ca X b mb):Gg ca X (.Compare a [.Eq] [b] pos) (Qn (Qd Z8 ma mb)):=XB (λpn Φ=>DA (X:=Q5 X ca pn Φ) (eB hr)) Pl ha hb (Xm b)
theorem XN(hr:Room k X.A)(ha:QW ca X a ma)(hb:QW ca X b mb):Gg ca X (.Compare a [.NotEq] [b] pos) (Qn (Qd Ci ma mb)):=XB (λpn Φ=>lA (X:=Q5 X ca pn Φ) (eB hr)) dZ ha hb (Xm b)
theorem Mx{K:Frag}{μ:List Addr}{H:Hp}{x:V}{d:D}(q:Den K μ H x d):decide (x=.non)=isNon d:=by cases q<;>simp[isNon]
theorem eD{K:Frag}:Jk K ca (λx y H Q=>y=.non/\Q (.bl (decide (x=.non))) H) Do:=by
 intro Φ σ H μ g x y dx dy Q r qx qy p;cases qy with
 |non=>exact⟨rfl,p _ H μ .refl r (by rw[Mx qx];exact .bl _)⟩|_=>exact p.elim
theorem Oa{K:Frag}:Jk K ca (λx y H Q=>y=.non/\Q (.bl (!decide (x=.non))) H) Lk:=by
 intro Φ σ H μ g x y dx dy Q r qx qy p;cases qy with
 |non=>exact⟨rfl,p _ H μ .refl r (by rw[Mx qx];exact .bl _)⟩|_=>exact p.elim
theorem FI(ha:QW ca X a ma)(hb:QW ca X b mb):Gg ca X (.Compare a [.Is] [b] pos) (Qn (Qd Do ma mb)):=XB (λ_ _=>kC) eD ha hb (Xm b)
theorem DB(ha:QW ca X a ma)(hb:QW ca X b mb):Gg ca X (.Compare a [.IsNot] [b] pos) (Qn (Qd Lk ma mb)):=XB (λ_ _=>cY) Oa ha hb (Xm b)
theorem GB{K:Frag}{μ:List Addr}{H:Hp}{vs:List V}{ds:List D}{i:Int}{d:D}(q:Dens K μ H vs ds)(h:VF ds i=some d):∃v,kH vs i=some v/\Den K μ H v d:=by
 unfold VF at h;cases hj:Gf ds.length i with
 |none=>rw[hj]at h;cases h|some j =>rw[hj]at h;obtain⟨v,h1,h2⟩:=q.get (show ds[j]?=some d from h);refine⟨v,?_,h2⟩;unfold kH;rw[q.length,show mR ds.length i=some j from hj];exact h1
theorem eF{K:Frag}:Jk K ca (vN K) Qv:=by
 intro Φ σ H μ g x y dx dy Q r qx qy p;unfold Qv at p;cases qx with
 |tup ht hs=>
  cases qy with
  |int i=>
   dsimp only at p;rename_i a vs ds;cases h:VF ds i with
   |none=>rw[h]at p;exact p.elim|some d =>rw[h]at p;obtain⟨v,h1,h2⟩:=GB hs h;exact .inr (.inl ⟨a,vs,i,v,rfl,rfl,ht,h1,p v H μ .refl r h2⟩)
  |_=>exact p.elim
 |fl ht hs=>
  cases qy with
  |int i=>
   dsimp only at p;rename_i a vs ds;cases h:VF ds i with
   |none=>rw[h]at p;exact p.elim|some d =>rw[h]at p;obtain⟨v,h1,h2⟩:=GB hs h;exact .inl ⟨a,vs,i,v,rfl,rfl,ht.sq,h1,p v H μ .refl r h2⟩
  |_=>exact p.elim
 |@ref n a hn=>
  cases qy with
  |int i=>
   dsimp only at p;cases hg:g[n]? with
   |none=>rw[hg]at p;exact p.elim|some o=>
    rw[hg]at p;obtain⟨a',ha',ob⟩:=r.addr hg;rw[hn]at ha';cases ha';cases o with
    |lst ds=>
     obtain⟨vs,hH,hs⟩:=ob;dsimp only at p;cases h:VF ds i with
     |none=>rw[h]at p;exact p.elim|some d =>rw[h]at p;obtain⟨v,h1,h2⟩:=GB hs h;exact .inl ⟨a,vs,i,v,rfl,rfl,.of hH,h1,p v H μ .refl r h2⟩
    |_=>exact p.elim
  |_=>exact p.elim
 |str s=>
  cases qy with
  |int i=>
   dsimp only at p;by_cases z:s.length<=SZ
   ·rw[Ub z]at p;cases h:VF s.cps.toList i with
    |none=>rw[h]at p;exact p.elim|some c =>rw[h]at p;exact .inr (.inr ⟨s,i,c,rfl,rfl,Um z JX,h,p _ H μ .refl r (.str _)⟩)
   ·rw[Ud z]at p;exact p.elim
  |_=>exact p.elim
 |_=>cases qy<;>exact p.elim
theorem Qh(ha:QW ca X a ma)(hb:QW ca X b mb)(hs:Ge b:=by exact λ_ _=>rfl):QW ca X (.Subscript a b pos) (Qd Qv ma mb):=oK (λ_ _=>kJ) eF ha hb hs
theorem Pm{x:Str}{id:String}{r:List V->Hp->VK->Prop}{f:D->G->Res D}(hc:∀pn Φ,CallR (Q5 X ca pn Φ) (.builtin id) r)(hm:X.mg x=none)(hv:bootBuiltins x=some (.builtin id))(hp:∀(Φ:XS) (σ:L2.St) (H:Hp) (μ:List Addr) (g:G) (y:V) (d:D) (Q:VK),GRep X.K ca μ H g->Den X.K μ H y d->Post X.K ca Φ σ Q H μ (f d g)->r [y] H Q)(he:QW ca X e me)(hg:Gl X x)(hn:x ≠"__name__")(hdb:(x==("__debug__" : Str))=false)(hs:starEach [e] X.env=[(false,eval e X.env)])(hpl:(backTo pos (starEach [] X.env)).any (·.1)=false):QW ca X (.Call (.Name x p) [e] [] pos) (Qu f me):=
 λpn Φ=>ZP (Ea (X:=Q5 X ca pn Φ) (hc pn Φ) hg hm hv (JV he Qj hs pn Φ) hn hdb hs hpl) λσ H Q hQ=>by
  obtain⟨σ3,g,μ,R,q⟩:=hQ;refine⟨σ3,g,μ,R,?_⟩;unfold Qu at q;unfold Qc Ql;cases hm:me σ3 g with
  |raise _ _=>rw[hm]at q;exact q|stuck=>rw[hm]at q;exact q.elim|ok d g1=>
   rw[hm,Res.bind_ok]at q;rw[Res.bind_ok,Res.bind_ok];intro vs H1 μ1 e1 r1 q1;cases q1 with
   |cons h1 h2 =>cases h2;exact hp Φ σ H1 μ1 g1 _ d Q r1 h1 (q.go e1)
end
theorem lB{x:Str}{T:String}{r:List V->Hp->VK->Prop}{f:D->G->Res D}(hc:∀pn Φ,CallR (Q5 X ca pn Φ) (.type T) r)(hm:X.mg x=none)(hv:bootBuiltins x=some (.type T))(hp:∀(Φ:XS) (σ:L2.St) (H:Hp) (μ:List Addr) (g:G) (y:V) (d:D) (Q:VK),GRep X.K ca μ H g->Den X.K μ H y d->Post X.K ca Φ σ Q H μ (f d g)->r [y] H Q)(he:QW ca X e me)(hg:Gl X x)(hn:x ≠"__name__")(hdb:(x==("__debug__" : Str))=false)(hs:starEach [e] X.env=[(false,eval e X.env)])(hpl:(backTo pos (starEach [] X.env)).any (·.1)=false):QW ca X (.Call (.Name x p) [e] [] pos) (Qu f me):=
 λpn Φ=>ZP (SH (X:=Q5 X ca pn Φ) (hc pn Φ) hg hm hv (JV he Qj hs pn Φ) hn hdb hs hpl) λσ H Q hQ=>by
  obtain⟨σ3,g,μ,R,q⟩:=hQ;refine⟨σ3,g,μ,R,?_⟩;unfold Qu at q;unfold Qc Ql;cases hm:me σ3 g with
  |raise _ _=>rw[hm]at q;exact q|stuck=>rw[hm]at q;exact q.elim|ok d g1=>
   rw[hm,Res.bind_ok]at q;rw[Res.bind_ok,Res.bind_ok];intro vs H1 μ1 e1 r1 q1;cases q1 with
   |cons h1 h2 =>cases h2;exact hp Φ σ H1 μ1 g1 _ d Q r1 h1 (q.go e1)
theorem ZS(hm:X.mg "len"=none)(he:QW ca X e me)(hg:Gl X "len":=by rfl)(hs:starEach [e] X.env=[(false,eval e X.env)]:=by rfl)(hpl:(backTo pos (starEach [] X.env)).any (·.1)=false:=by rfl):
  QW ca X (.Call (.Name "len" p) [e] [] pos) (Qu Zg me):=
 Pm (r:=λxs H Q=>∃p ys,xs=[V.ref p]/\(SqL X.K H p ys\/SqT X.K H p ys)/\Q (V.int (ys.length:Int)) H) (λ_ _=>Lg) hm boot_len (λΦ σ H μ g y d Q r q pp=>by
  unfold Zg at pp;cases q with
  |@tup t vs ds ht hs=>exact⟨t,vs,rfl,.inr ht,pp _ H μ .refl r (by rw[hs.length];exact .int _)⟩|@fl t vs ds ht hs=>exact⟨t,vs,rfl,.inl ht.sq,pp _ H μ .refl r (by rw[hs.length];exact .int _)⟩|@ref n t hn=>
   dsimp only at pp;cases hgn:g[n]? with
   |none=>rw[hgn]at pp;exact pp.elim|some ob=>
    rw[hgn]at pp;obtain⟨t',ht',orp⟩:=r.addr hgn;rw[hn]at ht';cases ht';cases ob with
    |lst ds=>obtain⟨vs,hH,q⟩:=orp;exact⟨t,vs,rfl,.inl (.of hH),pp _ H μ .refl r (by rw[q.length];exact .int _)⟩|_=>exact pp.elim
  |_=>exact pp.elim) he hg (by decide) (by decide) hs hpl
theorem J0(hm:X.mg "tuple"=none)(he:QW ca X e me)(hg:Gl X "tuple":=by rfl)(hs:starEach [e] X.env=[(false,eval e X.env)]:=by rfl)(hpl:(backTo pos (starEach [] X.env)).any (·.1)=false:=by rfl):
  QW ca X (.Call (.Name "tuple" p) [e] [] pos) (Qu Zw me):=
 lB (r:=λxs H Q=>∃p ys,xs=[V.ref p]/\((SqL X.K H p ys/\∀l,H l=none->Q (.ref l) (YD H l (.tup ys)))\/(SqT X.K H p ys/\Q (.ref p) H))) (λ_ _=>HP) hm boot_tuple (λΦ σ H μ g y d Q r q pp=>by
  unfold Zw at pp;cases q with
  |@tup t vs ds ht hs=>exact⟨t,vs,rfl,.inr ⟨ht,pp _ H μ .refl r (.tup ht hs)⟩⟩|@fl t vs ds ht hs=>exact⟨t,vs,rfl,.inl ⟨ht.sq,λl hl=>pp _ _ μ (ZD hl) (r.new hl) (.tup (.of QN) (hs.mono (ZD hl)))⟩⟩|@ref n t hn=>
   dsimp only at pp;cases hgn:g[n]? with
   |none=>rw[hgn]at pp;exact pp.elim|some ob=>
    rw[hgn]at pp;obtain⟨t',ht',orp⟩:=r.addr hgn;rw[hn]at ht';cases ht';cases ob with
    |lst ds=>obtain⟨vs,hH,q⟩:=orp;exact⟨t,vs,rfl,.inl ⟨.of hH,λl hl=>pp _ _ μ (ZD hl) (r.new hl) (.tup (.of QN) (q.mono (ZD hl)))⟩⟩|_=>exact pp.elim
  |_=>exact pp.elim) he hg (by decide) (by decide) hs hpl
theorem GC(hm:X.mg "list"=none)(he:QW ca X e me)(hg:Gl X "list":=by rfl)(hs:starEach [e] X.env=[(false,eval e X.env)]:=by rfl)(hpl:(backTo pos (starEach [] X.env)).any (·.1)=false:=by rfl):
  QW ca X (.Call (.Name "list" p) [e] [] pos) (Qu KO me):=
 lB (r:=λxs H Q=>∃p ys,xs=[V.ref p]/\(SqL X.K H p ys\/SqT X.K H p ys)/\∀l,H l=none->Q (.ref l) (YD H l (.lst ys))) (λ_ _=>Lh) hm boot_list (λΦ σ H μ g y d Q r q pp=>by
  have el:∀l:Addr,(μ++[l])[g.length]?=some l:=λl=>by rw[<-r.len];simp
  unfold KO at pp;cases q with
  |@fl t vs ds ht hs=>exact⟨t,vs,rfl,.inl ht.sq,λl hl=>pp _ _ (μ++[l]) (Zr hl) (r.push hl ⟨vs,QN,hs.mono (Zr hl)⟩) (.ref (el l))⟩|@tup t vs ds ht hs=>exact⟨t,vs,rfl,.inr ht,λl hl=>pp _ _ (μ++[l]) (Zr hl) (r.push hl ⟨vs,QN,hs.mono (Zr hl)⟩) (.ref (el l))⟩|@ref n t hn=>
   dsimp only at pp;cases hgn:g[n]? with
   |none=>rw[hgn]at pp;exact pp.elim|some ob=>
    rw[hgn]at pp;obtain⟨t',ht',orp⟩:=r.addr hgn;rw[hn]at ht';cases ht';cases ob with
    |lst ds=>obtain⟨vs,hH,q⟩:=orp;exact⟨t,vs,rfl,.inl (.of hH),λl hl=>pp _ _ (μ++[l]) (Zr hl) (r.push hl ⟨vs,QN,q.mono (Zr hl)⟩) (.ref (el l))⟩|_=>exact pp.elim
  |_=>exact pp.elim) he hg (by decide) (by decide) hs hpl
theorem Gh(hm:X.mg "int"=none)(he:QW ca X e me)(hg:Gl X "int":=by rfl)(hs:starEach [e] X.env=[(false,eval e X.env)]:=by rfl)(hpl:(backTo pos (starEach [] X.env)).any (·.1)=false:=by rfl):
  QW ca X (.Call (.Name "int" p) [e] [] pos) (Qu Ll me):=
 lB (λ_ _=>SD) hm boot_int (λΦ σ H μ g y d Q r q pp=>by
  cases q with
  |int i=>exact .inl ⟨i,rfl,pp _ H μ .refl r (.int _)⟩|bl b=>exact .inr ⟨b,rfl,pp _ H μ .refl r (.int _)⟩|_=>exact pp.elim) he hg (by decide) (by decide) hs hpl
theorem J4(ho:QW ca X o mo)(he:QW ca X e me)(hbase:attributeBase o "append" X.env (eval o X.env)=eval o X.env:=by rfl)(hfew:((backTo pos (starEach [e] X.env)).all (λx=>!x.1)&&(backToKw pos (keywordEach [] X.env)).all (λx=>x.1.isSome)&&decide ([e].length+([]:List Keyword).length+(if ([]:List Keyword).isEmpty then 0 else 1)<30))=true:=by rfl)(hline:(apos.endLine==pos.line)=true:=by rfl)(hs:starEach [e] X.env=(false,eval e X.env)::starEach [] X.env:=by rfl)(hplain:(backTo pos (starEach [] X.env)).any (·.1)=false:=by rfl):
  QW ca X (.Call (.Attribute o "append" apos) [e] [] pos) (ZT mo me):=
 λpn Φ=>ZP (O9 (X:=Q5 X ca pn Φ) Rv PySem.F.slot_list_append PySem.F.type_list_append SI (ho pn Φ) (JV he Qj hs pn Φ) hbase hfew hline hs hplain) λσ H Q ⟨σ3,g,μ,R,q⟩=>Z0 (JT R q) λx H1 hQ=>by
  obtain⟨d,g1,μ1,e1,R1,q1,p1⟩:=hQ;cases q1 with
  |@ref n t hn=>
   dsimp only at p1;cases hgn:g1[n]? with
   |none=>rw[hgn]at p1;exact p1.elim|some ob=>
    rw[hgn]at p1;obtain⟨t',ht',orp⟩:=R1.g.addr hgn;rw[hn]at ht';cases ht';cases ob with
    |lst ds0=>
     obtain⟨vs0,hH0,_⟩:=orp;dsimp only at p1;refine⟨.inl ⟨rfl,_,.of hH0⟩,σ3,g1,μ1,R1,?_⟩;unfold Qc Ql;cases hm:me σ3 g1 with
     |raise _ _=>rw[hm]at p1;exact p1|stuck=>rw[hm]at p1;exact p1.elim|ok y g2=>
      rw[hm,Res.bind_ok]at p1;rw[Res.bind_ok,Res.bind_ok];intro vs H2 μ2 e2 r2 q2;cases q2 with
      |@cons vy _ _ _ h1 h2=>
       cases h2;cases hg2:g2[n]? with
       |none=>rw[hg2]at p1;exact p1.elim|some ob2=>
        rw[hg2]at p1;obtain⟨t',ht',orp⟩:=r2.addr hg2;rw[e2.at hn]at ht';cases ht';cases ob2 with
        |lst ds=>
         obtain⟨ws,hH,qs⟩:=orp;dsimp only at p1;by_cases z:ds.length<SZ
         ·rw[Ub z]at p1;have ex:Ext X.K μ2 H2 μ2 (YD H2 t (.lst (ws++[vy]))):=XA hH (by intro _ z;cases z) (by intro _ _ z;cases z);refine⟨t,ws,_,rfl,rfl,hH,by rw[qs.length];exact UH z JX,p1 _ _ μ2 (e2.trans ex) ?_ .non⟩;exact r2.set (e2.at hn) hH (by intro _ z;cases z) (by intro _ _ z;cases z) ⟨_,QN,(qs.mono ex).append (.cons (h1.mono ex) .nil)⟩
         ·rw[Ud z]at p1;exact p1.elim
        |_=>exact p1.elim
    |_=>exact p1.elim
  |_=>exact p1.elim
theorem Dens.dropLast{K:Frag}{μ:List Addr}{H:Hp}{vs:List V}{ds:List D}(h:Dens K μ H vs ds):Dens K μ H vs.dropLast ds.dropLast:=by rw[RG,RG,h.length];exact h.take _
theorem DC(ho:QW ca X o mo)(hbase:attributeBase o "pop" X.env (eval o X.env)=eval o X.env:=by rfl)(hline:(apos.endLine==pos.line)=true:=by rfl):QW ca X (.Call (.Attribute o "pop" apos) [] [] pos) (Qu HQ mo):=
 λpn Φ=>ZP (kL (X:=Q5 X ca pn Φ) Rv PySem.F.slot_list_pop PySem.F.type_list_pop kM (ho pn Φ) hbase hline) λσ H Q ⟨σ3,g,μ,R,q⟩=>Z0 (JT R q) λx H1 hQ=>by
  obtain⟨d,g1,μ1,e1,R1,q1,p1⟩:=hQ;unfold HQ at p1;cases q1 with
  |@ref n t hn=>
   dsimp only at p1;cases hgn:g1[n]? with
   |none=>rw[hgn]at p1;exact p1.elim|some ob=>
    rw[hgn]at p1;obtain⟨t',ht',orp⟩:=R1.g.addr hgn;rw[hn]at ht';cases ht';cases ob with
    |lst ds=>
     obtain⟨ws,hH,qs⟩:=orp;dsimp only at p1;cases hl:ds[ds.length-1]? with
     |none=>rw[hl]at p1;exact p1.elim|some y =>rw[hl]at p1;obtain⟨v,h1,h2⟩:=qs.get hl;have ex:Ext X.K μ1 H1 μ1 (YD H1 t (.lst ws.dropLast)):=XA hH (by intro _ z;cases z) (by intro _ _ z;cases z);refine⟨.inl ⟨rfl,_,.of hH⟩,t,ws,v,rfl,rfl,hH,by rw[qs.length];exact h1,p1 v _ μ1 ex ?_ (h2.mono ex)⟩;exact R1.g.set hn hH (by intro _ z;cases z) (by intro _ _ z;cases z) ⟨_,QN,(qs.mono ex).dropLast⟩
    |_=>exact p1.elim
  |_=>exact p1.elim
def IsIt(b:Bool)(h:Heap)(i l:Addr)(k:Nat):Prop:=if b=true then h.IsListIter i l k else h.IsTupleIter i l k
def IsSq(b:Bool)(h:Heap)(l:Addr)(xs:Array Value):Prop:=if b=true then h.IsList l xs else h.IsTuple l xs
theorem IsIt.at(x:IsIt b h i l k)(hk:∀o,h.get? i=some o->h'.get? i=some o):IsIt b h' i l k:=by
 cases b
 ·exact Heap.IsTupleIter.at (show h.IsTupleIter i l k from x) hk
 ·exact Heap.IsListIter.at (show h.IsListIter i l k from x) hk
theorem IsSq.at(x:IsSq b h l xs)(hk:∀o,h.get? l=some o->h'.get? l=some o):IsSq b h' l xs:=by
 cases b
 ·obtain⟨o,e,c⟩:=(show h.IsTuple l xs from x);exact⟨o,hk o e,c⟩
 ·obtain⟨o,e,c⟩:=(show h.IsList l xs from x);exact⟨o,hk o e,c⟩
theorem IsIt.lt(x:IsIt b h i l k):i<h.objs.size:=by
 cases b
 ·obtain⟨o,e,_⟩:=(show h.IsTupleIter i l k from x);exact Ut e
 ·obtain⟨o,e,_⟩:=(show h.IsListIter i l k from x);exact Ut e
theorem IsSq.lt(x:IsSq b h l xs):l<h.objs.size:=by
 cases b
 ·obtain⟨o,e,_⟩:=(show h.IsTuple l xs from x);exact Ut e
 ·obtain⟨o,e,_⟩:=(show h.IsList l xs from x);exact Ut e
theorem IsSq.push(x:IsSq b h l xs)(o:Obj):IsSq b (h.push o) l xs:=x.at λ_ e=>Ug _ e
def Sq(b:Bool)(K:Frag)(H:Hp)(a:Addr)(xs:List V):Prop:=if b=true then SqL K H a xs else SqT K H a xs
theorem Sq.inj{b:Bool}{X:Cx}{pins:Js}{σ:L2.St}{H:Hp}{s:Shared}{a:Addr}{xs ys:List V}(I:Inv X pins σ H s)(h:Sq b X.K H a xs)(h':Sq b X.K H a ys):xs=ys:=by
 cases b
 ·exact I.tuple_inj h h'
 ·exact I.list_inj h h'
section
variable{X:Cx}{ca:Nat->Addr}{e1 e2:Expr}{m1 m2:ME}{p pos tp:Pos}{elts:List Expr}{kk:Nat}
theorem Vq{K:Frag}{μ:List Addr}{H:Hp}{g:G}{v:V}{d:D}{b:Bool}{ds:List D}(r:GRep K ca μ H g)(q:Den K μ H v d)(h:QF g d=some (b,ds)):∃a vs,v=.ref a/\Sq b K H a vs/\Dens K μ H vs ds:=by
 cases q with
 |@tup a vs es ht hs=>cases h;exact⟨a,vs,rfl,ht,hs⟩|@fl a vs es ht hs=>cases h;exact⟨a,vs,rfl,ht.sq,hs⟩|@ref n a hn=>
  unfold QF at h;dsimp only at h;cases hg:g[n]? with
  |none=>rw[hg]at h;cases h|some o=>
   rw[hg]at h;obtain⟨a',ha',ob⟩:=r.addr hg;rw[hn]at ha';cases ha';cases o with
   |lst es=>cases h;obtain⟨vs,hH,q⟩:=ob;exact⟨a,vs,rfl,SqL.of hH,q⟩|_=>cases h
 |_=>cases h
theorem GD{K:Frag}{μ:List Addr}{H:Hp}{g g':G}{μ':List Addr}{H':Hp}{d:D}{v:V}{b b':Bool}{ds ds':List D}(h:QF g d=some (b,ds))(h':QF g' d=some (b',ds')):b=b':=by
 unfold QF at h h';cases d with
 |tup es=>cases h;cases h';rfl|fl es=>cases h;cases h';rfl|ref n=>
  dsimp only at h h';have k1:b=true:=by
   cases hg:g[n]? with
   |none=>rw[hg]at h;cases h|some o=>rw[hg]at h;cases o<;>cases h<;>rfl
  have k2:b'=true:=by
   cases hg:g'[n]? with
   |none=>rw[hg]at h';cases h'|some o=>rw[hg]at h';cases o<;>cases h'<;>rfl
  rw[k1,k2]
 |_=>cases h
end
theorem XC(K:Frag)(t c:Ty):kitOne K (.type t.name) (.type c.name)=some (Ee t c):=by cases t<;>cases c<;>kernel_rfl
section
variable{X:Cx}{ca:Nat->Addr}{a b c e:Expr}{ma mb mc me:ME}{pos p p2:Pos}{k:Nat}
theorem SW(c:Ty):CallR X (.builtin "isinstance") (λxs H Q=>∃x g μ d t,xs=[x,.ty c.name]/\GRep X.K ca μ H g/\Den X.K μ H x d/\Ef g d=some t/\Q (.bl (Ee t c)) H):=by
 intro pins s σ H xs us Q I rv h;obtain⟨x,g,μ,d,t,rfl,r,q,ht,qq⟩:=h;obtain⟨u,u2,rfl,ru,ru2⟩:=rv.two;cases ru2;have fin:∀tk,EP X pins σ Q (.bool (Ee t c)) {s with toks:=tk}:=λtk=>⟨.bl _,H,I.tok tk,rfl,qq⟩;cases q with
 |non=>cases ht;exact Vg I ru .non (XC X.K .non c) fin|bl y=>cases ht;exact Vg I ru (.bl y) (XC X.K .bool c) fin|int y=>cases ht;exact Vg I ru (.int y) (XC X.K .int c) fin|str y=>cases ht;exact Vg I ru (.str y) (XC X.K .str c) fin|@tup a vs ds hq hs =>cases ht;cases ru;obtain⟨its,_,⟨o,h1,h2,_⟩,_⟩:=I.tuple hq;exact U3 Wc I.kIn ⟨o,h1,h2⟩ (XC X.K .tuple c) (λz=>nomatch z) fin|@fl a vs ds hq hs =>cases ht;cases ru;obtain⟨its,_,p,_⟩:=I.list hq.sq;obtain⟨o,h1,h2,_⟩:=p.isList;exact U3 T6 I.kIn ⟨o,h1,h2⟩ (XC X.K .list c) (λz=>nomatch z) fin|@ref n a hn=>
  unfold Ef at ht;dsimp only at ht;cases hg:g[n]? with
  |none=>rw[hg]at ht;cases ht|some o=>
   rw[hg]at ht;obtain⟨a',ha',ob⟩:=r.addr hg;rw[hn]at ha';cases ha';cases o with
   |lst ds=>cases ht;obtain⟨vs,hH,_⟩:=ob;exact Vg I ru (.lst hH) (XC X.K .list c) fin|dct ks=>cases ht;obtain⟨kv,hH,_⟩:=ob;exact Vg I ru (.dK hH) (XC X.K .dict c) fin|ins _ _=>cases ht|exc _=>cases ht|dfz _=>cases ht
theorem Bt{x:Str}(c:Ty)(hi:X.mg "isinstance"=none)(hm:X.mg x=none)(hv:bootBuiltins x=some (.type c.name))(he:QW ca X e me)(hgi:Gl X "isinstance":=by rfl)(hg:Gl X x:=by rfl)(hnm:x ≠"__name__":=by decide)(hdb:(x==("__debug__" : Str))=false:=by decide)(hs:starEach [e,.Name x p2] X.env=(false,eval e X.env)::starEach [.Name x p2] X.env:=by rfl)(hs2:starEach [.Name x p2] X.env=(false,eval (.Name x p2) X.env)::starEach [] X.env:=by rfl)(hpl:(backTo pos (starEach [.Name x p2] X.env)).any (·.1)=false:=by rfl):
  QW ca X (.Call (.Name "isinstance" p) [e,.Name x p2] [] pos) (Qu (Bn c) me):=λpn Φ=>ZP (Ea (X:=Q5 X ca pn Φ) (SW (ca:=ca) c) hgi hi boot_isinstance (Kn (X:=Q5 X ca pn Φ) (he pn Φ) (Kn (X:=Q5 X ca pn Φ) (Lb (X:=Q5 X ca pn Φ) (v:=.ty c.name) hg hm hv rfl hnm hdb) Lc hs2) hs) (by decide) (by decide) hs hpl) λσ H Q ⟨σ3,g,μ,R,q⟩=>
  Z0 (JT R q) λy H1 hQ=>by
   obtain⟨d,g1,μ1,e1,R1,q1,p1⟩:=hQ;unfold Bn at p1;cases ht:Ef g1 d with
   |none=>rw[ht]at p1;exact p1.elim|some t=>rw[ht]at p1;exact⟨y,g1,μ1,d,t,rfl,R1.g,q1,ht,p1 _ H1 μ1 .refl R1.g (.bl _)⟩
theorem My{K:Frag}{μ:List Addr}{H:Hp}:∀{vs:List V}{ds:List D}{us:List Value}{b:Bool},Dens K μ H vs ds->Vals vs us->Cu ds=some b->∃bs:List Bool,us=bs.map Value.bool/\bs.all id=b
 |_,_,_,b,.nil,.nil,h=>by cases h;exact⟨[],rfl,rfl⟩
 |_,_,_,b,@Dens.cons _ _ _ _ _ _ ds q qs,.cons r rs,h=>by
  cases q with
  |bl c=>
   unfold Cu at h;cases hd:Cu ds with
   |none=>rw[hd]at h;cases h|some d =>rw[hd]at h;cases h;obtain⟨bs,h1,h2⟩:=My qs rs hd;cases r;exact⟨c::bs,by rw[h1];rfl,by simp[h2]⟩
  |_=>cases h
theorem SX(bs:List Bool):((List.range bs.length).all λi=>(bs[i]?).getD true)=bs.all id:=by
 rw[Bool.eq_iff_iff,Uu,Uu];constructor
 ·intro h b hb;obtain⟨i,hi,rfl⟩:=Rh hb;have:=h i (UM.mpr hi);simpa[hi]using this
 ·intro h i hi;have hi':=UM.mp hi;have:=h bs[i] (UI hi');simpa[hi']using this
theorem SY(hc:X.calm=true):CallR X (.builtin "all") (λxs H Q=>∃p vs ds μ b,xs=[.ref p]/\SqL X.K H p vs/\Dens X.K μ H vs ds/\Cu ds=some b/\Q (.bl b) H):=by
 intro pins s σ H xs us Q I rv h;obtain⟨l,vs,ds,μ,b,rfl,hq,q,hb,qq⟩:=h;obtain⟨u,rfl,ru⟩:=rv.one;cases ru;obtain⟨its,rs,pl,_⟩:=I.list hq;obtain⟨bs,rfl,e2⟩:=My q rs hb;have hl:=pl.isList;have hlt:l<s.heap.objs.size:=by obtain⟨_,e,_⟩:=hl;exact Ut e
 refine call_all_walk (wpAny_pyIter_list hl ⟨s.heap.objs.size,[s.heap.objs.size,l],[s.heap.objs.size],_,_,_,λi=>(bs[i]?).getD true,rfl,Walks.list (A:=X.A.in1) (show X.A.in1.handled=none from I.ok.hd hc) _ l (UR hlt) _,⟨⟨_,UA _ rfl,rfl,rfl⟩,hl.push _⟩,λi v s' Q' E' hP hQ=>?_,λh' tk hk=>?_⟩)
 ·have hP:(bs.map Value.bool).toArray[i]?=some v:=hP;rw[RH,Uy]at hP;cases hi:bs[i]? with
  |none=>rw[hi]at hP;cases hP|some c =>rw[hi]at hP;cases hP;simp only[hi,Wy]at hQ;exact TN hQ
 ·have kept:∀c o,s.heap.get? c=some o->h'.get? c=some o:=λc o e=>hk c o (λhm=>by rw[Ur.mp hm]at e;exact Tt _ (Ut e)) (Ug _ e);have ea:((List.range (bs.map Value.bool).toArray.size).all λi=>(bs[i]?).getD true)=b:=by rw[Ue,Ua,SX,e2]
  rw[ea];exact⟨.bl b,H,I.kept kept,rfl,qq⟩
theorem Pn(hc:X.calm=true)(hm:X.mg "all"=none)(he:QW ca X e me)(hg:Gl X "all":=by rfl)(hs:starEach [e] X.env=[(false,eval e X.env)]:=by rfl)(hpl:(backTo pos (starEach [] X.env)).any (·.1)=false:=by rfl):
  QW ca X (.Call (.Name "all" p) [e] [] pos) (Qu Eg me):=
 Pm (r:=λxs H Q=>∃p vs ds μ b,xs=[V.ref p]/\SqL X.K H p vs/\Dens X.K μ H vs ds/\Cu ds=some b/\Q (.bl b) H) (λpn Φ=>SY (X:=Q5 X ca pn Φ) hc) hm boot_all (λΦ σ H μ g y d Q r q pp=>by
  unfold Eg at pp;cases q with
  |@ref n t hn=>
   dsimp only at pp;cases hgn:g[n]? with
   |none=>rw[hgn]at pp;exact pp.elim|some ob=>
    rw[hgn]at pp;obtain⟨t',ht',orp⟩:=r.addr hgn;rw[hn]at ht';cases ht';cases ob with
    |lst ds=>
     obtain⟨vs,hH,q⟩:=orp;dsimp only at pp;cases hb:Cu ds with
     |none=>rw[hb]at pp;exact pp.elim|some b=>rw[hb]at pp;exact⟨t,vs,ds,μ,b,rfl,.of hH,q,hb,pp _ H μ .refl r (.bl _)⟩
    |_=>exact pp.elim
  |_=>exact pp.elim) he hg (by decide) (by decide) hs hpl
theorem DD{K:Frag}{Φ:XS}{r r':R2}{f f':D->D->G->Res D}(h1:Jk K ca r f)(h2:Jk K ca r' f')(σ:L2.St)(H:Hp)(Q:VK)(h:up K ca Φ (ET f f' ma mb mc) σ H Q):Da r r' (up K ca Φ ma) (up K ca Φ mb) (up K ca Φ mc) σ H Q:=by
 obtain⟨σ3,g,μ,R,p⟩:=h;refine Z0 (JT R p) λx H1 ⟨dx,g1,μ1,e1,R1,q1,p1⟩=>?_;refine Z0 (JT R1 p1) λy H2 ⟨dy,g2,μ2,e2,R2,q2,p2⟩=>?_;refine h1 Φ σ H2 μ2 g2 x y dx dy _ R2.g (q1.mono e2) q2 ?_;cases hf:f dx dy g2 with
 |raise _ _=>rw[hf]at p2;exact p2|stuck=>rw[hf]at p2;exact p2.elim|ok z g3=>
  rw[hf,Res.bind_ok]at p2;intro v H3 μ3 e3 r3 q3;cases q3 with
  |bl t=>
   refine⟨t,rfl,?_⟩;cases t with
   |true =>rw[Ub rfl];dsimp only at p2;refine Z0 (JT (R2.go e3 r3) (p2.go e3)) λw' H4 ⟨dw,g4,μ4,e4,R4,q4,p4⟩=>?_;exact h2 Φ σ H4 μ4 g4 y w' dy dw Q R4.g ((q2.mono e3).mono e4) q4 p4
   |false =>rw[Ud Uf];exact p2 _ H3 μ3 e3 r3 (.bl _)
  |_=>exact p2.elim
theorem lC(ha:QW ca X a ma)(hb:QW ca X b mb)(hc:QW ca X c mc)(hm:lastMarks [.LtE,.Lt] [b,c]=false:=by with_unfolding_all rfl):QW ca X (.Compare a [.LtE,.Lt] [b,c] pos) (ET mS FV ma mb mc):=λpn Φ=>ZP (Db (X:=Q5 X ca pn Φ) nU A9 (ha pn Φ) (hb pn Φ) (hc pn Φ) hm) (DD (XM _) (XM _))
theorem DE{K:Frag}{μ:List Addr}{H:Hp}{v:V}{d:D}(q:Den K μ H v d)(h:Bp d=true):Cl v=true:=by cases q<;>first|rfl|cases h
theorem Po{K:Frag}{μ:List Addr}{H:Hp}:∀{vs:List V}{ds:List D},Dens K μ H vs ds->ds.all Bp=true->vs.all Cl=true
 |_,_,.nil,_=>rfl|_,_,.cons q qs,h=>by rw[Rn,UG]at h ⊢;exact⟨DE q h.1,Po qs h.2⟩
theorem oP{K:Frag}{μ:List Addr}{H:Hp}{v w:V}{d e:D}(q:Den K μ H v d)(q':Den K μ H w e)(h:Bp d=true)(h':Bp e=true):cI v w=mT d e:=by cases q<;>cases q'<;>first|rfl|cases h|cases h'
theorem iI{K:Frag}{μ:List Addr}{H:Hp}{w:V}{e:D}(q':Den K μ H w e)(h':Bp e=true):∀{vs:List V}{ds:List D},Dens K μ H vs ds->ds.all Bp=true->(vs.any λy=>cI y w)=ds.any λd=>mT d e
 |_,_,.nil,_=>rfl|_,_,.cons q qs,h=>by rw[Rn,UG]at h;rw[To,To,oP q q' h.1 h',iI q' h' qs h.2]
theorem Lu{K:Frag}(neg:Bool):Jk K ca (tD K neg) (IC neg):=by
 intro Φ σ H μ g x y dx dy Q r qx qy p;unfold IC at p;cases hs:QF g dy with
 |none=>rw[hs]at p;exact p.elim|some pr=>
  obtain⟨bb,ds⟩:=pr;rw[hs]at p;dsimp only at p;by_cases z:Bp dx=true/\ds.all Bp=true
  ·rw[Ub z]at p;obtain⟨a,vs,rfl,sq,qs⟩:=Vq r qy hs;refine⟨a,vs,rfl,?_,DE qx z.1,Po qs z.2,p _ H μ .refl r ?_⟩
   ·cases bb
    ·exact .inr sq
    ·exact .inl sq
   ·unfold inV;rw[iI qx z.1 qs z.2];cases neg<;>exact .bl _
  ·rw[Ud z]at p;exact p.elim
theorem tN(ha:QW ca X a ma)(hb:QW ca X b mb)(hm:behindInMarks .In b=false:=by rfl):QW ca X (.Compare a [.In] [b] pos) (Qd (IC false) ma mb):=Gu (λ_ _=>Iz) (Lu false) ha hb hm
theorem iJ(ha:QW ca X a ma)(hb:QW ca X b mb)(hm:behindInMarks .In b=false:=by rfl):Gg ca X (.Compare a [.In] [b] pos) (Qn (Qd (IC false) ma mb)):=XB (λ_ _=>Iz) (Lu false) ha hb hm
theorem GE(ha:QW ca X a ma)(hb:QW ca X b mb)(hm:behindInMarks .NotIn b=false:=by rfl):Gg ca X (.Compare a [.NotIn] [b] pos) (Qn (Qd (IC true) ma mb)):=XB (λ_ _=>Lf) (Lu true) ha hb hm
end
section
variable{prog:Program}{w:World}{A:Around}{E:VP}{s:Shared}
theorem Eo{t sl:Addr}{items:Array Value}{vl vu:Value}{lo hi:Option Int}{Q:VP}(ht:IsTup s.heap t items)(hs:s.heap.IsSliceOf sl vl vu .none)(pl:IsPart vl lo)(pu:IsPart vu hi)(h1:HT.sIx items.size 0 lo=0)(h2:HT.sIx items.size items.size hi=items.size)(h:Q (.ref t) s):wpAny (model prog w) A (getItem (.ref t) (.ref sl)) Q E s:=by
 obtain⟨os,hos,hcs,hds⟩:=id hs;have hTs:s.TypeIs (.ref sl) "slice":=⟨os,hos,hcs⟩;unfold getItem;try with_reducible refine Rm ?_
 first|refine Uc (Up ?_)|skip
 refine Uc (wpAny_sequenceKey ht.typeIs (by decide) ?_);refine Uc (TV (name:=Str.ofString "__getitem__") ht.typeIs UZ (Ra UZ ht.typeIs entry_tuple_getitem ?_ (args_tuple_getitem _ _)));show wpAny _ _ (Builtin.Tuple.tupleItemsOf (.ref t) >>= _) _ _ s;refine Uc (tupleItemsOf_ ht (Uc (RW hTs ?_)));rw[Ub (by decide)];refine Uc (HT.sliceApplied_gen hs pl pu ?_);rw[h1,h2];show wpAny _ _ (if (((0:Nat):Int)==0&&(1:Int)==1&&(items.size-0)==items.size)=true then _ else _) _ _ s;rw[Ub (by simp)];unfold Builtin.Tuple.tupleIsExact;refine Uc (Uc (RW ht.typeIs (Up ?_)));rw[Ub (by decide)];exact Uc (wpAny_rule (Up ⟨_,rfl,Up h⟩))
end
theorem Pp(n d:Nat)(o:Option Int):HT.sIx n d o=EU n d o:=by cases o<;>rfl
theorem Dens.cut{K:Frag}{μ:List Addr}{H:Hp}{vs:List V}{ds:List D}(lo hi:Option Int)(h:Dens K μ H vs ds):Dens K μ H (Mh vs lo hi) (Y9 ds lo hi):=by unfold Mh Y9;rw[Pp,Pp,h.length];exact(h.drop _).take _
section
variable{X:Cx}{ca:Nat->Addr}{e:Expr}{me:ME}{lo hi:Option Expr}{ml mh:MO}{pos p2:Pos}
theorem S0:SlR X (λx lo hi H Q=>∃a xs,x=.ref a/\SqT X.K H a xs/\(HT.sIx xs.length 0 lo=0/\HT.sIx xs.length xs.length hi=xs.length)/\Q (.ref a) H):=by
 intro pins s σ H x v vl vu lo hi sl Q I rx hs pl pu h;obtain⟨a,xs,rfl,hx,hw,q⟩:=h;cases rx;obtain⟨its,r,ht,hz⟩:=I.tuple hx;have hlen:its.toArray.size=xs.length:=by rw[Ue];exact r.length.symm
 refine⟨"tuple",_,UZ.lookup,ht.typeIs,?_⟩;exact Eo ht hs pl pu (by rw[hlen];exact hw.1) (by rw[hlen];exact hw.2) ⟨.ref a,H,I,rfl,q⟩
def wL(K:Frag)(ca:Nat->Addr)(Φ:XS)(m:MO):TO:=λσ H Q=>∃σ3 g μ,Rep K ca μ σ3 g σ H/\match m σ3 g with
 |.ok o g'=>∀H' μ',Ext K μ H μ' H'->GRep K ca μ' H' g'->Q o H'|.raise x g'=>RaP K ca Φ σ H μ x g'|.stuck=>False
def qV(ca:Nat->Addr)(X:Cx)(e:Option Expr)(m:MO):Prop:=∀pn Φ,PO (Q5 X ca pn Φ) e (wL X.K ca Φ m)
theorem Za:qV ca X none QV:=λpn Φ pins s σ H Q I ⟨_,_,μ,R,p⟩=>dF (X:=Q5 X ca pn Φ) pins s σ H Q I (p H μ .refl R.g)
theorem ZJ(he:QW ca X e me):qV ca X (some e) (Zv me):=λpn Φ pins s σ H Q I hQ=>by
 obtain⟨σ3,g,μ,R,p⟩:=hQ;refine dG (X:=Q5 X ca pn Φ) (he pn Φ) pins s σ H Q I ⟨σ3,g,μ,R,?_⟩;unfold Zv at p;cases hm:me σ3 g with
 |raise _ _=>rw[hm]at p;exact p|stuck=>rw[hm]at p;exact p|ok d g1=>
  rw[hm,Res.bind_ok]at p;intro v H1 μ1 e1 r1 q1;cases q1 with
  |int i=>exact⟨i,rfl,p H1 μ1 e1 r1⟩|_=>exact p.elim
theorem eG(xs:List α)(lo hi:Option Int)(h1:EU xs.length 0 lo=0)(h2:EU xs.length xs.length hi=xs.length):Y9 xs lo hi=xs:=by unfold Y9;rw[h1,h2];simp
theorem Zn(he:QW ca X e me)(hl:qV ca X lo ml)(hh:qV ca X hi mh):QW ca X (.Subscript e (.Slice lo hi none p2) pos) (Q7 me ml mh):=λpn Φ=>
 ZP (Dh (X:=Q5 X ca pn Φ) ((sl_tup.or S0).or dI) (he pn Φ) (hl pn Φ) (hh pn Φ)) λσ H Q ⟨σ3,g,μ,R,p⟩=>Z0 (JT R p) λx H1 hQ=>by
  obtain⟨d,g1,μ1,e1,R1,q1,p1⟩:=hQ;refine⟨σ3,g1,μ1,R1,?_⟩;cases hm:ml σ3 g1 with
  |raise _ _=>rw[hm]at p1;exact p1|stuck=>rw[hm]at p1;exact p1|ok l g2=>
   rw[hm,Res.bind_ok]at p1;intro H2 μ2 e2 r2;refine⟨σ3,g2,μ2,R1.go e2 r2,?_⟩;cases hm2:mh σ3 g2 with
   |raise _ _=>rw[hm2]at p1;exact RaP.go e2 p1|stuck=>rw[hm2]at p1;exact p1|ok u g3=>
    rw[hm2,Res.bind_ok]at p1;intro H3 μ3 e3 r3;have p3:=Post.go (e2.trans e3) p1;have q3:=(q1.mono e2).mono e3;unfold EV at p3;cases q3 with
    |@tup a vs ds ht hs=>
     by_cases hw:HT.sIx vs.length 0 l=0/\HT.sIx vs.length vs.length u=vs.length
     ·refine .inl (.inr ⟨a,vs,rfl,ht,hw,p3 _ H3 μ3 .refl r3 ?_⟩);rw[eG ds l u (by rw[<-Pp,<-hs.length];exact hw.1) (by rw[<-Pp,<-hs.length];exact hw.2)];exact .tup ht hs
     ·exact .inl (.inl ⟨a,vs,rfl,ht,hw,λt ht'=>p3 _ _ μ3 (ZD ht') (r3.new ht') (.tup (.of QN) ((hs.cut l u).mono (ZD ht')))⟩)
    |@fl a vs ds ht hs =>refine .inr ⟨a,vs,rfl,ht.sq,λt ht'=>p3 _ _ (μ3++[t]) (Zr ht') (r3.push ht' ⟨_,QN,(hs.cut l u).mono (Zr ht')⟩) (.ref ?_)⟩;rw[<-r3.len];simp|@ref n a hn=>
     dsimp only at p3;cases hg:g3[n]? with
     |none=>rw[hg]at p3;exact p3.elim|some o=>
      rw[hg]at p3;obtain⟨a',ha',ob⟩:=r3.addr hg;rw[hn]at ha';cases ha';cases o with
      |lst ds =>obtain⟨vs,hH,hs⟩:=ob;refine .inr ⟨a,vs,rfl,.of hH,λt ht'=>p3 _ _ (μ3++[t]) (Zr ht') (r3.push ht' ⟨_,QN,(hs.cut l u).mono (Zr ht')⟩) (.ref ?_)⟩;rw[<-r3.len];simp|_=>exact p3.elim
    |_=>exact p3.elim
end
abbrev mV:List Value:=[.type "ValueError",.type "Exception",.type "BaseException",.type "object"]
section
variable{K:Frag}{C:Addr}{x:Str}{mg:VX}{h:Heap}
theorem eH(X:K.In h)(e:mg x=some (.ref C))(q:excIn K C mV "ValueError.__new__"=true):OwnCls x C mV "ValueError.__new__" mg h:=by
 refine⟨e,?_⟩;unfold excIn at q;split at q
 ·rename_i dd cd sl ho;split at q
  ·rename_i C' bm k0 k1 k2 k3 n k5 hm hs;simp only[UG,Tr,Bool.not_eq_true']at q;obtain⟨⟨⟨⟨⟨rfl,rfl⟩,hdel⟩,ht⟩,hok⟩,hni⟩:=q;obtain⟨nm,bs,mro,ns,qn,hd,sn,sub,ab,col,del⟩:=cd;dsimp only at hm hdel hok hni;subst hm hdel;have hsl:sl = #[k0,k1,k2,k3,some (.builtin "ValueError.__new__"),k5]:=by obtain⟨l⟩:=sl;simp only at hs;rw[hs]
   subst hsl;exact⟨bm,ns,nm,qn,bs,hd,sn,sub,ab,col,dd,k0,k1,k2,k3,k5,_,X _ _ ho,.of_isNs (isNs_of_in X hok),nsMap_none_of_in X hok hni,tail_of_in X ht⟩
  ·cases q
 ·cases q
end
theorem Inv.there'(I:Inv X pins σ H s)(h:H a=some o):∃u,s.heap.get? a=some u:=by
 have:=I.hok a o h;cases o with
 |lst xs=>obtain⟨_,_,_,_,e⟩:=this;exact⟨_,e⟩|tup xs=>obtain⟨_,_,_,u,e,_⟩:=this;exact⟨u,e⟩|dK kvs=>obtain⟨_,_,_,_,u,_,_,e,_⟩:=this;exact⟨u,e⟩|dT kvs=>obtain⟨_,_,_,_,u,_,_,e,_⟩:=this;exact⟨u,e⟩|set S n=>obtain⟨u,_,_,_,e,_⟩:=this;exact⟨u,e⟩|ins C dx fs=>obtain⟨_,_,_,e,_⟩:=this;exact⟨_,e⟩|own y=>exact this|xd fs=>obtain⟨_,⟨_,_,_,e,_⟩,_⟩:=this;exact⟨_,e⟩|met f x=>exact⟨_,this⟩|rng lo hi=>obtain⟨_,_,_,e⟩:=this;exact⟨_,e⟩|frz u v=>exact⟨_,this.1⟩|tbl ps=>exact⟨_,this⟩|ext φ=>exact this.2.1
structure RaH(K:Frag)(mg:VX)(ca:Nat->Addr)(c:Nat)(x:Str):Prop where
 at':mg x=some (.ref (ca c))
 ex:excIn K (ca c) mV "ValueError.__new__"=true
theorem Zx(h:RaH X.K X.mg ca c x)(hh:X.A.handled=none)(ha:AW ca X (e::es) mr)(hg:Gl X x:=by rfl)(hdb:(x==("__debug__" : Str))=false:=by decide)(he:starEach (e::es) X.env=(false,eval e X.env)::starEach es X.env:=by rfl)(hpl:(backTo cpos (starEach es X.env)).any (·.1)=false:=by rfl):L9 ca X (.Raise (some (.Call (.Name x np) (e::es) [] cpos)) none pos) (Zy c mr):=by
 intro pn Φ pins s σ H En I ⟨σ3,g,μ,R,p⟩;obtain⟨bm,N,nm,q,bs,hdct,sn,sub,ab,col,dd,k0,k1,k2,k3,k5,mN,hC,hN,hni,T⟩:=(eH (h:=X.base) I.ok.mod.kin h.at' h.ex).obj;refine wpAny_Raise_call_subT (C:=ca c) (nm:=nm) (q:=q) (N:=N) (bs:=bs) (bm:=bm) (hdct:=hdct) (sn:=sn) (sub:=sub) (ab:=ab) (col:=col) (dd:=dd) (k0:=k0) (k1:=k1) (k2:=k2) (k3:=k3) (k5:=k5)
  RY (mN:=mN) (T.hasType RY.hasBase) hh ?_ hni (C9 I hg h.at' ⟨rfl,?_⟩ hdb)
 ·show(backTo cpos (starEach (e::es) X.env)).any (·.1)=false;rw[he];show(false||(backTo cpos (starEach es X.env)).any (·.1))=false;rw[hpl];rfl
 ·have z:cJ X.K ca Φ mr σ H λvs H1=>vs.length<=sizeLine/\Φ (c,none) σ H1:=by
   refine⟨σ3,g,μ,R,?_⟩;unfold Zy at p;cases hm:mr σ3 g with
   |raise _ _=>rw[hm]at p;exact RaP.stmt R p|stuck=>rw[hm]at p;exact p|ok ds g1=>
    rw[hm]at p;dsimp only at p;intro vs H1 μ1 e1 r1 q1;by_cases hz:ds.length<=SZ
    ·rw[Ub hz]at p;exact⟨q1.sz hz,p σ H1 μ1 e1 (R.go e1 r1)⟩
    ·rw[Ud hz]at p;exact p.elim
  have az:=ha pn Φ cpos pins s σ H _ I z;have he':starEach (e::es) (Q5 X ca pn Φ).env=(false,eval e X.env)::starEach es X.env:=he;show wpAny _ _ (evalArgs (.ref (ca c)) true (backTo cpos (starEach (e::es) X.env)) []) _ _ s;rw[he']at az;rw[he];refine Calls.evalArgs_plain (Td az (λus s2 ⟨vs,H1,I1,r1,hz,hΦ⟩=>⟨rfl,by rw[<-r1.length];exact hz,I1.bk _ _ hC,hN.keeps I1.bk,T.keeps I1.bk,λh' ea hm=>?_⟩) λ_ _ y=>y);have I2:Inv (HR X pn) [] σ H1 s2:=(Dq I1).pins_of λp hp=>absurd hp (by simp);have I3:Inv (HR X pn) [] σ H1 {s2 with heap:=h'}:=I2.kept (t':=s2.toks) hm.keeps;have hn:H1 ea=none:=by
   cases hq:H1 ea with
   |none=>rfl|some o =>obtain⟨o',ho'⟩:=Inv.there' I2 hq;rw[hm.new]at ho';cases ho'
  obtain⟨t,ht,_⟩:=hm.there;exact⟨ea,(c,none),σ,H1,rfl,I3,⟨Lp I2 hm.new hn,rfl,_,_,ht,⟨rfl,rfl⟩,rfl,by simp,.inl rfl⟩,hΦ⟩
structure CatX(K:Frag)(ca:Nat->Addr)(C:Addr)(cs no:List Nat):Prop where
 ci:(clsIn K C).isSome=true
 ty:typeIn K (.ref C)=some (.type "type")
 sb:subIn K (.ref C) (.type "BaseException")=some true
 yes:∀c∈cs,subIn K (.ref (ca c)) (.ref C)=some true
 no':∀c∈no,subIn K (.ref (ca c)) (.ref C)=some false
section
variable{prog:Program}{w:World}{A:Around}{E:VP}{s:Shared}{K:Frag}{ca:Nat->Addr}{C D e:Addr}{oe:Obj}{cs no:List Nat}{b:Bool}
theorem S4(X:K.In s.heap)(F:CatX K ca C cs no)(hx:s.heap.get? e=some oe)(hc:oe.cls=.ref D)(hs:subIn K (.ref D) (.ref C)=some b)(h:Q b s):wpAny (model prog w) A (excMatches (.ref e) (.ref C)) Q E s:=by
 obtain⟨hh,g,d,t,os⟩:=s;have L0:=looks_typeIn (M:=model prog w) X F.ty;have L1:=looks_subIn (M:=model prog w) X F.sb;have L2:=looks_subIn (M:=model prog w) X hs;have L3:Looks (model prog w) hh (isType (.ref C)) true:=by
  obtain⟨cd,hc⟩:=Wr.mp F.ci;unfold clsIn at hc;split at hc
  ·rename_i c' d' cd' sl' ho;intro A' Q' E' s' k q;unfold isType loadHead;exact Uc (wpAny_loadPart (k _ _ (X _ _ ho)) (Up q))
  ·cases hc
 have f:=tc_notTuple;unfold excMatches isInstance;refine Uc (Uc (L0.at (T0 f ?_)));simp only[TZ,Re];refine Uc (Up ?_);simp only[List.forIn_cons,List.forIn_nil];unfold isExcClass;refine Uc (Uc (Uc (Uc (L3.at ?_))));rw[Ub rfl];refine L1.at ?_;simp only[Bool.not_true,TZ,Re];refine Up (Up ?_);have L4:Looks (model prog w) hh (typeOf (.ref e)) (.ref D):=hc ▸ (Looks.ld hx).andThen .now;refine Uc (L4.at (Uc (Uc (Uc (L2.at ?_)))));cases b with
 |true=>rw[Ub rfl];exact Up (Up (Up h))|false=>rw[Ud Uf];exact Up (Up (Up h))
end
abbrev qW(X:Cx)(v:Value):Cx:={X with A:=X.A.mark (some v),calm:=false}
theorem DF(v:Value)(I:Inv X pins σ H s):Inv (qW X v) pins σ H s:=⟨⟨I.ok.mod,I.ok.kind,I.ok.glob,I.ok.blt,I.ok.above,I.ok.inj,I.ok.has,I.ok.cab,(λz=>by cases z),I.ok.frames,I.ok.stk,I.ok.exf,I.ok.bs,I.ok.bsz,I.ok.noex,I.ok.exfs,I.ok.funs,I.ok.frf⟩,I.os,I.bare,I.base,I.loc,I.cell,I.free,I.freeC,I.pin,I.hok,I.len⟩
theorem Mz(h:X.calm=true->X.A.handled=none)(I:Inv (qW X v) pins σ H s):Inv X pins σ H s:=⟨⟨I.ok.mod,I.ok.kind,I.ok.glob,I.ok.blt,I.ok.above,I.ok.inj,I.ok.has,I.ok.cab,h,I.ok.frames,I.ok.stk,I.ok.exf,I.ok.bs,I.ok.bsz,I.ok.noex,I.ok.exfs,I.ok.funs,I.ok.frf⟩,I.os,I.bare,I.base,I.loc,I.cell,I.free,I.freeC,I.pin,I.hok,I.len⟩
section
variable{X:Cx}{ca:Nat->Addr}{body suite:List Stmt}{b0:Stmt}{mb mc:MS}{np hpos pos:Pos}{C:Addr}{cs no:List Nat}{T n:Str}
theorem lD{Y:Cx}{pn pins:Js}{E E':VP}{σ:L2.St}{H:Hp}{s:Shared}(I:Inv {Y with pn:=pn,xe:=E} pins σ H s):Inv {Y with pn:=pn++pins,xe:=E'} [] σ H s:=⟨⟨I.ok.mod,I.ok.kind,I.ok.glob,I.ok.blt,I.ok.above,I.ok.inj,I.ok.has,I.ok.cab,I.ok.hd,I.ok.frames,I.ok.stk,I.ok.exf,I.ok.bs,I.ok.bsz,I.ok.noex,I.ok.exfs,I.ok.funs,I.ok.frf⟩,I.os,I.bare,I.base,I.loc,I.cell,I.free,I.freeC,λp hp=>I.pin p (by rw[UY]at hp;exact hp),I.hok,I.len⟩
theorem Cy{Y:Cx}{pn pins:Js}{E E':VP}{σ:L2.St}{H:Hp}{s:Shared}(I:Inv {Y with pn:=pn++pins,xe:=E} [] σ H s):Inv {Y with pn:=pn,xe:=E'} pins σ H s:=⟨⟨I.ok.mod,I.ok.kind,I.ok.glob,I.ok.blt,I.ok.above,I.ok.inj,I.ok.has,I.ok.cab,I.ok.hd,I.ok.frames,I.ok.stk,I.ok.exf,I.ok.bs,I.ok.bsz,I.ok.noex,I.ok.exfs,I.ok.funs,I.ok.frf⟩,I.os,I.bare,I.base,I.loc,I.cell,I.free,I.freeC,λp hp=>I.pin p (by rw[UY];exact hp),I.hok,I.len⟩
theorem Pq{pn:Js}{σ:L2.St}{H:Hp}{s:Shared}{a:Addr}{x:Xc}{oe:Obj}{R:Result->Shared->Prop}{b:Bool}(I:Inv (HR X pn) [] σ H s)(hT:X.mg T=some (.ref C))(F:CatX X.K ca C cs no)(he:s.heap.get? a=some oe)(ho:XOb ca x oe)(hs:subIn X.K (.ref (ca x.1)) (.ref C)=some b)(hg:Gl X T)(hdb:(T==("__debug__" : Str))=false)(h:R (.ok (if b then .brk else .next)) s):
  codeAny (model X.prog X.w) (X.A.mark (some (.ref a))) (.handlers (.ref a) [.ExceptHandler (some (.Name T np)) none [] hpos] X.env) R s:=codeAny_handlers_test (C9 (X:=qW (HR X pn) (.ref a)) (DF _ I) hg hT (S4 I.kIn F he ho.1 hs h) hdb)
theorem eI{pn pins:Js}{Φ:XS}{σ:L2.St}{H:Hp}{s:Shared}{a:Addr}{x:Xc}{Q:Flow->Shared->Prop}(hf:X.env.frame=some X.env.locals)(I:Inv (HR X (pn++pins)) [] σ H s)(fl:qU (HR X (pn++pins)) ca a x H s.heap)(h:Φ x σ H):
  wpAny (model X.prog X.w) X.A (handleBy (.ref a) X.env []) Q (Q5 X ca pn Φ).xe s:=by
 refine wpAny_handleBy_nil ?_;unfold PySem.passOn;obtain⟨fp,ln,oe,vs,T,oT,ts,he,hc,hd,hv,hTa,fT,hT,hdT,hs3⟩:=id fl;refine Uc (Tn he hd hv ?_);rw[Ud (show ¬((Value.ref T==Value.none)=true) from by simp)];refine Uc (Ka (fo:=X.env.frame) I fl λh2 T oT ts oe vs I2 a1 a2 a3 a4 a5 a6 a7 a8 a9 a10=>wpAny_throw ?_);rw[hf]at a10;have dn:∀{b:Addr},AV (HR X (pn++pins)) [] H b->AV (HR X pn) [] H b:=λz=>⟨z.1,z.2.1,z.2.2.1,z.2.2.2.1,z.2.2.2.2.1,λp hp=>z.2.2.2.2.2 p (by rw[UY]at hp ⊢;exact Tu _ hp)⟩;exact⟨a,x,σ,H,rfl,(Cy (Y:=X) I2).pins_of λp hp=>absurd hp (by simp),FlN.fl ⟨dn fp,ln,oe,vs,T,oT,ts,a1,a2,a3,a4,a5,dn a6,a7,a8,a10⟩,h⟩
def qX(ca:Nat->Addr)(X:Cx)(hl:List ExceptHandler)(hs:List MH):Prop:=∀(pn pins:Js)(Φ:XS)(En:Ends)(σ:L2.St)(H:Hp)(s:Shared)(a:Addr)(x:Xc)(σ3:S3)(g:G)(μ:List Addr),(X.calm=true->X.A.handled=none)->Inv (HR X (pn++pins)) [] σ H s->qU (HR X (pn++pins)) ca a x H s.heap->Rep X.K ca μ σ3 g σ H->PostS X.K ca Φ En H μ (Dn hs x σ3 g)->wpAny (model X.prog X.w) X.A (handleBy (.ref a) X.env hl) (SP (Q5 X ca pn Φ) pins En) (Q5 X ca pn Φ).xe s
theorem lE(hf:X.env.frame=some X.env.locals:=by rfl):qX ca X [] []:=λpn pins Φ En σ H s a x σ3 g μ hcalm I fl R p=>eI hf I fl (p σ H μ .refl R)
theorem oQ{hs:List MH}{h0:ExceptHandler}{hr:List ExceptHandler}(hb:EW ca X body mb)(hh:qX ca X (h0::hr) hs)(hk:X.stack=X.env::X.outer:=by rfl)(hf:X.env.frame=some X.env.locals:=by rfl):L9 ca X (.Try body (h0::hr) [] [] pos) (dO mb hs):=by
 intro pn Φ pins s σ H En I ⟨σ3,g,μ,R,p⟩;refine wpAny_Try_except ?_;have p1:PostS X.K ca (λx σ' H'=>∃σ4 g4 μ4,Rep X.K ca μ4 σ4 g4 σ' H'/\PostS X.K ca Φ En H' μ4 (Dn hs x σ4 g4)) En H μ (mb σ3 g):=by
  unfold dO at p;cases hm:mb σ3 g with
  |nx _ _=>rw[hm]at p;exact p|rt _ _=>rw[hm]at p;exact p|bk _ _=>rw[hm]at p;exact p|ct _ _=>rw[hm]at p;exact p|raise x σ' g'=>rw[hm]at p;exact λσ4 H' μ' e R'=>⟨σ',g',μ',R',PostS.go e p⟩
  |stuck=>rw[hm]at p;exact p
 refine Td (hb (pn++pins) _ [] s σ H En (lD (Y:=X) I) ⟨σ3,g,μ,R,p1⟩) (λf s1 h1=>?_) λv s1 h1=>?_
 ·cases f with
  |next=>obtain⟨σ',H',J,q⟩:=h1;exact O6 (X:=Q5 X ca pn Φ) pins s1 σ' H' En (Cy (Y:=X) J) q|brk=>obtain⟨σ',H',J,q⟩:=h1;exact⟨σ',H',Cy (Y:=X) J,q⟩|cont=>obtain⟨σ',H',J,q⟩:=h1;exact⟨σ',H',Cy (Y:=X) J,q⟩|ret u=>obtain⟨v,σ',H',J,r,q⟩:=h1;exact⟨v,σ',H',Cy (Y:=X) J,r,q⟩
 ·obtain⟨a,x,σ',H',rfl,I1,fl,σ4,g4,μ4,R4,p4⟩:=h1;refine Lq (X:=HR X (pn++pins)) I1 hk hf fl λh2 I2 f2=>?_;refine Ka (X:=HR X (pn++pins)) (fo:=none) I2 f2.t λh3 T oT ts oe vs I3 a1 a2 a3 a4 a5 a6 a7 a8 a9 a10=>?_;exact hh pn pins Φ En σ' H' _ a x σ4 g4 μ4 I.ok.hd I3 ⟨f2.1,f2.2.1,oe,vs,T,oT,ts,a1,a2,a3,a4,a5,a6,a7,a8,a9⟩ R4 p4
theorem DG{hl':List ExceptHandler}{hs:List MH}(hT:X.mg T=some (.ref C)/\CatX X.K ca C cs no)(hc:∀a,EW ca (qW X (.ref a)) (b0::suite) mc)(hrest:qX ca X hl' hs)(hg:Gl X T:=by rfl)(hdb:(T==("__debug__" : Str))=false:=by decide):
  qX ca X (.ExceptHandler (some (.Name T np)) none (b0::suite) hpos::hl') (⟨cs,no,none,mc⟩::hs):=by
 intro pn pins Φ En σ H s a x σ3 g μ hcalm I fl R p;obtain⟨fp,ln,oe,vs,Tb,oT,ts,he,hox,hd,hv,hTa,fT,hTT,hdT,hs3⟩:=id fl;unfold Dn at p;by_cases hx:x.1∈cs
 ·rw[Ub hx]at p;dsimp only at p;refine wpAny_handleBy_cons (Pq I hT.1 hT.2 he hox (hT.2.yes _ hx) hg hdb ?_) (by intro q;cases q);refine codeAny_handlers_suite ?_;refine Ka (fo:=none) I fl λh2 T2 oT2 ts2 oe2 vs2 I2 b1 b2 b3 b4 b5 b6 b7 b8 b9 b10=>?_;have hcc:=hc a (pn++pins) F0 [] {s with heap:=h2} σ H {nx:=En.nx,rt:=En.rt} (Inv.wish (DF (.ref a) I2) _) ⟨_,_,_,R,by
   cases hm:mc σ3 g with
   |nx σ5 g5=>rw[hm]at p;exact p|rt d g5=>rw[hm]at p;exact p|bk _ _=>rw[hm]at p;exact p.elim|ct _ _=>rw[hm]at p;exact p.elim|raise _ _ _=>rw[hm]at p;exact p.elim|stuck=>rw[hm]at p;exact p.elim⟩
  refine Td (iH hcc) (λf s5 h5=>?_) λ_ _ z=>z.elim;cases f with
  |next =>obtain⟨σ',H',J,q⟩:=h5;exact⟨σ',H',Cy (Y:=X) (Mz (X:=HR X (pn++pins)) (v:=.ref a) hcalm (Inv.wish J _)),q⟩|ret u =>obtain⟨v,σ',H',J,r,q⟩:=h5;exact⟨v,σ',H',Cy (Y:=X) (Mz (X:=HR X (pn++pins)) (v:=.ref a) hcalm (Inv.wish J _)),r,q⟩|brk=>obtain⟨_,_,_,q⟩:=h5;exact q.elim|cont=>obtain⟨_,_,_,q⟩:=h5;exact q.elim
 ·rw[Ud hx]at p;by_cases hn:x.1∈no
  ·rw[Ub hn]at p;refine wpAny_handleBy_cons (Pq I hT.1 hT.2 he hox (hT.2.no' _ hn) hg hdb ?_) (by intro q;cases q);exact hrest pn pins Φ En σ H s a x σ3 g μ hcalm I fl R p
  ·rw[Ud hn]at p;exact p.elim
end
def oS(sc scope:Scope)(N Nb:List Str)(no:Nat)(cap:List Nat):Bool:=decide (scope.kind=.function)&&scope.names.all (λy=>decide (y.2≠.cell))&&scope.names.all (λy=>decide (y.2≠.local)||decide (scope.names.lookup y.1=some .local)) &&
 scope.names.all (λy=>decide (y.2≠.free)||decide (sc.names.lookup y.1=some .cell)||decide (sc.names.lookup y.1=some .free))&&decide (Nb.length=no+cap.length) &&
 (List.range cap.length).all λj=>match cap[j]?,Nb[no+j]? with
  |some i,some x=>decide (N[i]?=some x)&&decide (scope.names.lookup x=some .free)&&(decide (sc.names.lookup x=some .cell)||decide (sc.names.lookup x=some .free))|_,_=>false
theorem ZF(hsc:X.env.scope=sc)(hN:X.N=N)(h:oS sc scope N Nb no cap=true):BScope X scope Nb no cap:=by
 subst hsc hN;unfold oS at h;simp only[UG,RB]at h;obtain⟨⟨⟨⟨⟨h1,h2⟩,h3⟩,h4⟩,h5⟩,h6⟩:=h;rw[Uu]at h2 h3 h4 h6;refine⟨h1,λy hy=>UN (h2 y hy),λy hy e=>?_,λy hy e=>?_,h5,λj i hj=>?_⟩
 ·rcases RV.mp (h3 y hy) with z|z
  ·exact absurd e (UN z)
  ·exact UN z
 ·rcases RV.mp (h4 y hy) with z|z
  ·rcases RV.mp z with z|z
   ·exact absurd e (UN z)
   ·exact .inl (UN z)
  ·exact .inr (UN z)
 ·have hl:j<cap.length:=(Uj.mp hj).1;have z:=h6 j (UM.mpr hl);rw[hj]at z;cases hx:Nb[no+j]? with
  |none=>rw[hx]at z;cases z|some x=>
   rw[hx]at z;simp only[UG,Bool.or_eq_true,RB]at z;obtain⟨⟨z1,z2⟩,z3⟩:=z;refine⟨x,rfl,z1,z2,.inr z3,λq=>?_⟩;have q:X.env.scope.names.lookup x=some .local:=q;rcases z3 with z|z
   ·rw[z]at q;cases q
   ·rw[z]at q;cases q
def eJ(K:Frag)(ca:Nat->Addr)(C:Addr)(cs no:List Nat):Bool:=(clsIn K C).isSome&&(typeIn K (.ref C)==some (.type "type"))&&(subIn K (.ref C) (.type "BaseException")==some true) &&
 cs.all (λc=>subIn K (.ref (ca c)) (.ref C)==some true)&&no.all λc=>subIn K (.ref (ca c)) (.ref C)==some false
theorem DH{K:Frag}{ca:Nat->Addr}{C:Addr}{cs no:List Nat}(h:eJ K ca C cs no=true):CatX K ca C cs no:=by unfold eJ at h;simp only[UG,Tr,Uu]at h;obtain⟨⟨⟨⟨h1,h2⟩,h3⟩,h4⟩,h5⟩:=h;exact⟨h1,h2,h3,h4,h5⟩
def GF(K:Frag)(C:Addr):Bool:=plainGet K C Str.empty&&hasDictIn K C&&plainOver K C&&(findIn K (.ref C) "__setattr__"==some (some (.builtin "object.__setattr__")))
theorem Kq{K:Frag}{C:Addr}(h:GF K C=true):Cls K C:=by unfold GF at h;simp only[UG,Tr]at h;obtain⟨⟨⟨h1,h2⟩,h3⟩,h4⟩:=h;exact⟨h1,h2,h3,h4⟩
def Ob(K:Frag)(ca:Nat->Addr)(cs:List Nat)(f:Str):Bool:=cs.all λc=>GF K (ca c)&&(findIn K (.ref (ca c)) f==some none)
theorem GG{K:Frag}{ca:Nat->Addr}{cs:List Nat}{f:Str}(h:Ob K ca cs f=true):FldOk K ca cs f:=by unfold Ob at h;rw[Uu]at h;exact⟨λc hc=>Kq (Bd.mp (h c hc)).1,λc hc=>Tr.mp (Bd.mp (h c hc)).2⟩
theorem Q2(h:∃k,X.mg x=some (.str t k))(hg:Gl X x:=by rfl)(hd:(x==("__debug__" : Str))=false:=by decide):QW ca X (.Name x pos) (Qp (.str t)):=by obtain⟨k,h⟩:=h;exact Dp h (v:=.str t) ⟨k,rfl⟩ (λ_ _ _=>.str t) hg hd
theorem Cz(h:∃k,X.mg x=some (.int i k))(hg:Gl X x:=by rfl)(hd:(x==("__debug__" : Str))=false:=by decide):QW ca X (.Name x pos) (Qp (.int i)):=by obtain⟨k,h⟩:=h;exact Dp h (v:=.int i) ⟨k,rfl⟩ (λ_ _ _=>.int i) hg hd
theorem lF:bootBuiltins "int"=some (.type Ty.int.name):=boot_int
theorem eM:bootBuiltins "bool"=some (.type Ty.bool.name):=by decide +kernel
theorem Kb:bootBuiltins "tuple"=some (.type Ty.tuple.name):=boot_tuple
section
variable{P:Program}{w:World}{K:Frag}{mg:VX}{base:Heap}{ca:Nat->Addr}
theorem lG{F:MF}{H:Hp}{a:Addr}{ns:List Int}(hO:dM H)(hS:SqL K H a (ns.map V.int))(h:∃g',F [.fl (ns.map D.int)] []=.ok (.bl true) g'):SQ K ca 1 F [.ref a] H (λv _=>v=.bl true) λ_ _ _=>False:=by
 obtain⟨g',h⟩:=h;have hF:SqF K H a (ns.map V.int):=by
  rcases hS with(h|⟨o,h⟩)|h
  ·rcases hO a with z|⟨o,xs,z⟩
   ·rw[h]at z;cases z
   ·rw[h]at z;cases z
  ·exact .inl ⟨o,h⟩
  ·exact .inr (.inr h)
 refine⟨rfl,[.fl (ns.map D.int)],[],[],⟨rfl,.nil,λn a o h=>by simp at h⟩,.cons (.fl hF (Dens.ints ns)) .nil,?_⟩;rw[h];intro v H' μ' e r q;cases q;rfl
end
end L3
namespace L3
open PySem PySem.Spec
theorem tO(h:us.length=0):us=[]:=List.eq_nil_of_length_eq_zero h
theorem len1(h:us.length=1):∃a0,us=[a0]:=by
 cases us with
 |nil=>cases h|cons a r =>have e:=tO (Nat.succ.inj h);subst e;exact⟨a,rfl⟩
theorem len2(h:us.length=2):∃a0 a1,us=[a0,a1]:=by
 cases us with
 |nil=>cases h|cons a r =>obtain⟨b0,rfl⟩:=len1 (Nat.succ.inj h);exact⟨a,b0,rfl⟩
theorem len3(h:us.length=3):∃a0 a1 a2,us=[a0,a1,a2]:=by
 cases us with
 |nil=>cases h|cons a r =>obtain⟨b0,b1,rfl⟩:=len2 (Nat.succ.inj h);exact⟨a,b0,b1,rfl⟩
theorem len4(h:us.length=4):∃a0 a1 a2 a3,us=[a0,a1,a2,a3]:=by
 cases us with
 |nil=>cases h|cons a r =>obtain⟨b0,b1,b2,rfl⟩:=len3 (Nat.succ.inj h);exact⟨a,b0,b1,b2,rfl⟩
theorem len5(h:us.length=5):∃a0 a1 a2 a3 a4,us=[a0,a1,a2,a3,a4]:=by
 cases us with
 |nil=>cases h|cons a r =>obtain⟨b0,b1,b2,b3,rfl⟩:=len4 (Nat.succ.inj h);exact⟨a,b0,b1,b2,b3,rfl⟩
def DI:Expr->Bool
 |.Starred ..=>false|_=>true
theorem S5(h:DI e=true):starEach (e::es) env=(false,eval e env)::starEach es env:=by cases e<;>first|rfl|exact absurd h Uf
theorem Qe(ha:QW ca X e me)(hr:AW ca X es mr)(hs:DI e=true:=by rfl):AW ca X (e::es) (Qc me mr):=JV ha hr (S5 hs)
def DJ:Expr->Bool
 |.ListComp ..=>false|.SetComp ..=>false|.DictComp ..=>false|_=>true
theorem eO(h:DJ e=true):swapsWith e t l env=pure false:=by cases e<;>first|rfl|exact absurd h Uf
theorem Qx(i:Nat){x:Str}{pos pos':Pos}{e:Expr}{me:ME}(hN:X.N.Nodup)(he:QW ca X e me)(hi:X.N[i]?=some x:=by rfl)(hx:L2.Loc X.env.scope x:=by first|exact Or.inl rfl|exact Or.inr rfl)(hs:DJ e=true:=by rfl)(hf:X.fn x=true\/X.env.scope.names.lookup x=some .local:=by first|exact .inl rfl|exact .inr rfl):
  L9 ca X (.Assign [.Name x pos'] e pos) (Qy (Qm i) me):=oN i hN he hi hx (eO hs) hf
end L3
namespace PySem
namespace F
theorem IF:Manifest.owners.lookup (String.ofList ['d','e','s','r','e','v','e','r'].reverse)=some Manifest.sig_reversed:=by kernel_rfl
theorem slot_rev_next:Slot "reversed" "__next__" "reversed.__next__" :=.of (owner:="reversed") (n:="__next__") (by rw[TM,Tl];kernel_rfl) (by decide +kernel) (by decide +kernel) (by decide +kernel)
  (by first|exact .inl (by decide +kernel)|exact .inr (by decide +kernel)) (by rw[RC];kernel_rfl)
theorem entry_rev_next:entryFor table "reversed.__next__"=some Builtin.«reversed.__next__»:=entryFor_of_tree (by kernel_rfl)
theorem args_rev_next_1(a:Value):argsOk "reversed.__next__" ⟨[a],[]⟩:=by unfold argsOk;rw[signature?_of (id:="reversed.__next__") (n:=['_','_','t','x','e','n','_','_']) (o:=['d','e','s','r','e','v','e','r']) (by kernel_rfl) IF];kernel_rfl
theorem slot_rev_iter:Slot "reversed" "__iter__" "reversed.__iter__" :=.of (owner:="reversed") (n:="__iter__") (by rw[TM,Tl];kernel_rfl) (by decide +kernel) (by decide +kernel) (by decide +kernel)
  (by first|exact .inl (by decide +kernel)|exact .inr (by decide +kernel)) (by rw[RC];kernel_rfl)
theorem args_rev_iter_1(a:Value):argsOk "reversed.__iter__" ⟨[a],[]⟩:=by unfold argsOk;rw[signature?_of (id:="reversed.__iter__") (n:=['_','_','r','e','t','i','_','_']) (o:=['d','e','s','r','e','v','e','r']) (by kernel_rfl) IF];kernel_rfl
theorem entry_rev_iter:entryFor table "reversed.__iter__"=some Builtin.«dict_keyiterator.__iter__»:=entryFor_alias (id':="dict_keyiterator.__iter__") (by kernel_rfl) (by first|rfl|decide +kernel|(unfold String.splitOn;simp +decide [String.splitOnAux])) (by decide +kernel) (by kernel_rfl)
theorem HS:Slot "reversed" "__init__" "object.__init__" :=.of (owner:="object") (n:="__init__") (by rw[TM,Tl];kernel_rfl) (by decide +kernel) (by decide +kernel) (by decide +kernel)
  (by first|exact .inl (by decide +kernel)|exact .inr (by decide +kernel)) (by rw[RC];kernel_rfl)
theorem called_rev:TypeCalled "reversed" "reversed.__new__" "object.__init__" :=⟨by decide +kernel,by decide +kernel,⟨_,_,mro_reversed⟩,made_reversed,by decide +kernel,sub_reversed_self,HS⟩
theorem no_tuple_reversed:typeLookup (.type "tuple") "__reversed__"=pure none:=by rw[TM,Tl];kernel_rfl
theorem tuple_getitem:typeLookup (.type "tuple") "__getitem__"=pure (some (.builtin "tuple.__getitem__")):=by rw[TM,Tl];kernel_rfl
theorem tuple_dict:isSubtype (.type "tuple") (.type "dict")=pure false:=by rw[RC];kernel_rfl
end F
end PySem
namespace L3
open PySem PySem.Spec PyProof.Rows PySem.Calls
section
variable{prog:Program}{w:World}{A:Around}{E:VP}{s:Shared}
def Oc(l:Addr)(i:Int):Obj:={cls:=.type "reversed",data:=.fields #[.ref l,rawInt i]}
def IsRevT(h:Heap)(a l:Addr)(i:Int):Prop:=∃o,h.get? a=some o/\o.cls=.type "reversed"/\o.data=.fields #[.ref l,rawInt i]
theorem IsRevT.typeIs{a l:Addr}{i:Int}(x:IsRevT s.heap a l i):s.TypeIs (.ref a) "reversed":=let ⟨o,ho,hc,_⟩:=x;⟨o,ho,hc⟩
theorem IsRevT.at(x:IsRevT h a l i)(e:∀o,h.get? a=some o->h'.get? a=some o):IsRevT h' a l i:=let ⟨o,ho,r⟩:=x;⟨o,e _ ho,r⟩
theorem Od(l:Addr)(items:Array Value):MeetsIn prog w (Builtin.«reversed.__new__» ⟨[.type "reversed",.ref l],[]⟩) (λA R s=>IsTup s.heap l items/\(items.size:Int)<2^63/\∀tk,R (.ok (.ret (.ref s.heap.objs.size))) {s with heap:=s.heap.push (Oc l ((items.size:Int) - 1)),toks:=tk}):=by
 intro A R s ⟨hl,hz,h⟩;unfold Builtin.«reversed.__new__»;refine Uc (T0 (newClass_reversed _) ?_);try dsimp only
 refine Uc (T0 (a:=()) (by first|rfl|kernel_rfl) ?_);refine Uc (T0 (a:=()) (by first|rfl|kernel_rfl) ?_);try dsimp only
 refine Uc (Rq hl.typeIs F.no_tuple_reversed ?_);try dsimp only
 refine Uc (show wpAny _ _ (isInstance (.ref l) (.type "dict") >>= _) _ _ _ from Uc (Wz hl.typeIs F.tuple_dict ?_));try dsimp only
 rw[Ud Uf];refine Uc (Rq hl.typeIs F.tuple_getitem ?_);try dsimp only
 rw[Ub (by decide)];refine Up ?_;rw[Ud (by decide)];refine Uc (len_tuple hl hz ?_);refine Uc (T0 (a:=some (items.size:Int)) (by rfl) ?_);try dsimp only
 refine Uc (show wpAny _ _ (newObj (.type "reversed") (.fields #[Value.ref l,rawInt ((items.size:Int) - 1)])) _ _ _ from U5 ?_ (by size_fits));exact Up (h _)
theorem Cj{l:Addr}{items:Array Value}{Q:VP}(hl:IsTup s.heap l items)(hz:(items.size:Int)<2^63)(h:∀tk,Q (.ref s.heap.objs.size) {s with heap:=s.heap.push (Oc l ((items.size:Int) - 1)),toks:=tk}):wpAny (model prog w) A (call (.type "reversed") [.ref l]) Q E s:=callType_newIn F.called_rev (by decide) (F.typeCall_reversed_1 _) (F.newCall_reversed_1 _) (λobj=>F.args_object_init_2 obj _) F.entry_reversed_new (Od l items) ⟨hl,hz,λtk=>⟨⟨_,UA _ rfl,rfl⟩,h tk⟩⟩
theorem FJ{it l:Addr}{i:Int}{Q:VP}(hit:IsRevT s.heap it l i)(h:Q (.ref it) s):wpAny (model prog w) A (pyIter (.ref it)) Q E s:=by refine wpAny_pyIter_slot hit.typeIs F.slot_rev_iter (Ra F.slot_rev_iter hit.typeIs F.entry_rev_iter ?_ (F.args_rev_iter_1 _));show wpAny _ _ (ret (.ref it)) _ _ s;exact Up ⟨_,rfl, "reversed",_,hit.typeIs,F.slot_rev_next.lookup,h⟩
theorem EZ{it l:Addr}{i:Nat}{items:Array Value}{x:Value}{Q:Option Value->Shared->Prop}(hit:IsRevT s.heap it l (i:Int))(hl:IsTup s.heap l items)(hx:items[i]?=some x)(hz:(items.size:Int)<2^63)(hQ:∀h' tk,IsRevT h' it l ((i:Int) - 1)->Heap.SameBut it s.heap h'->Q (some x) {s with heap:=h',toks:=tk}):wpAny (model prog w) A (pyNext (.ref it)) Q E s:=by
 obtain⟨o,ho,hc,hd⟩:=id hit;have hi:i<items.size:=(Tf.mp hx).1;unfold pyNext;refine Uc (wpAny_attempt (TV (name:=Str.ofString "__next__") hit.typeIs F.slot_rev_next
  (Ra F.slot_rev_next hit.typeIs F.entry_rev_next ?_ (F.args_rev_next_1 _))))
 unfold Builtin.«reversed.__next__»;refine Uc (T0 (a:=(Value.ref it,[])) rfl ?_);try dsimp only
 refine Uc (Tn ho hd (x:=.ref l) rfl ?_);refine Uc (Tn ho hd (x:=rawInt (i:Int)) rfl ?_);show wpAny _ _ (if (i:Int)<0 then _ else _) _ _ s;rw[Ud (by omega)];refine Uc (Rq hl.typeIs F.tuple_getitem ?_);try dsimp only
 rw[Ud (by decide)];refine Uc (wpAny_mkInt ?_);refine Uc (wpAny_attempt (getItem_tuple (k:=(i:Int)) (j:=i) (x:=x) (items:=items) hl (by omega) (by omega) ?_ hx ?_))
 ·unfold seqIndex?;have e0:¬((i:Int)<0):=by omega
  simp only[e0,Re];simp;exact hi
 try dsimp only
 refine Uc (Tn ho hd (x:=rawInt (i:Int)) rfl ?_);try dsimp only
 refine Uc (T9 ho hd (by simp) ?_);first
 |refine Up ⟨x,rfl,Up (hQ _ _ ?_ (Ri ..))⟩
 |refine Uc (Up (Up ⟨x,rfl,Up (hQ _ _ ?_ (Ri ..))⟩))
 exact⟨_,T3 _ ho (RF (TY hd _)),(Obj.cls_mapFields ..).trans hc,by rw[TY hd];simp⟩
theorem FW{it l:Addr}{Q:Option Value->Shared->Prop}(hh:A.handled=none)(hit:IsRevT s.heap it l (-1))(hQ:∀h' tk,Heap.ExtBut it s.heap h'->Q none {s with heap:=h',toks:=tk}):wpAny (model prog w) A (pyNext (.ref it)) Q E s:=by
 obtain⟨o,ho,hc,hd⟩:=id hit;unfold pyNext;refine Uc (wpAny_attempt (TV (name:=Str.ofString "__next__") hit.typeIs F.slot_rev_next
  (Ra F.slot_rev_next hit.typeIs F.entry_rev_next ?_ (F.args_rev_next_1 _))))
 unfold Builtin.«reversed.__next__»;refine Uc (T0 (a:=(Value.ref it,[])) rfl ?_);try dsimp only
 refine Uc (Tn ho hd (x:=.ref l) rfl ?_);refine Uc (Tn ho hd (x:=rawInt (-1)) rfl ?_);show wpAny _ _ (if (-1:Int)<0 then _ else _) _ _ s;rw[Ub (by decide)];refine Uc (wpAny_rule ?_);refine Uc (show wpAny _ _ (setField (.ref it) 1 (rawInt (-1)) >>= λ_=>setField (.ref it) 0 .none) _ _ _ from Uc (T9 ho hd (by simp) ?_));have hd1:=TY hd (·.setIfInBounds 1 (rawInt (-1)));have ho1:=T3 _ ho (RF hd1);have sb1:Heap.SameBut it s.heap (s.heap.update it (Obj.mapFields (·.setIfInBounds 1 (rawInt (-1))))):=Ri ..;generalize s.heap.update it (Obj.mapFields (·.setIfInBounds 1 (rawInt (-1))))=h1 at ho1 sb1 ⊢;refine T9 (s:={s with heap:=h1}) ho1 hd1 (by simp) ?_;have sb2:Heap.SameBut it h1 (h1.update it (Obj.mapFields (·.setIfInBounds 0 Value.none))):=Ri ..;generalize h1.update it (Obj.mapFields (·.setIfInBounds 0 Value.none))=h2 at sb2 ⊢;first
 |show wpAny _ _ (newExc (.type "StopIteration") [] >>= _) _ _ _
 | (refine Uc ?_;show wpAny _ _ (newExc (.type "StopIteration") [] >>= _) _ _ _)
 refine Uc ?_;simp only[newExc,newTuple];refine Uc (U5 ?_ (by size_fits));refine Uc (m:=firstArgMember _ _) (T0 (a:=Value.none) (by first|rfl|(simp only[firstArgMember];rfl)) ?_);refine U5 ?_ (by size_fits);simp only[raiseNew];refine Uc (wpAny_handled ?_);first|rw[show A.in1.handled=none from hh]|rw[hh]
 refine Uc (Up (wpAny_throw ?_));refine Uc (Wz (T:="StopIteration") (b:=true) ⟨_,UA _ rfl,rfl⟩ isSubtype_stop ?_);exact Up (hQ _ _ λb o hb e=>(((Heap.ExtBut.refl _ _).push _).push _) b o hb (sb2.extBut b o hb (sb1.extBut b o hb e)))
end
end L3
namespace L3
open PySem PySem.Spec PyProof.Rows L2
def Oe(d:D)(g:G):Res Src:=match QF g d with
 |some (false,ds)=>.ok ⟨λg i=>if i=ds.length then some none else if i<ds.length then (match QF g d with
  |some (_,es)=>if es.length=ds.length then some es[ds.length-1-i]? else none
  |none=>none) else none,ds.length⟩ g
 |_=>.stuck
def E0(a:ME):MI:=λσ g=>(a σ g).bind Oe
def tP(b:Bool)(K:Frag)(a:Addr)(n:Nat):It:=⟨λi H=>∃xs x,Sq b K H a xs/\xs.length=n/\i<n/\xs[n-1-i]?=some x,λi H x H'=>H'=H/\∀xs,Sq b K H a xs->xs[n-1-i]?=some x,λi _=>i=n⟩
theorem S6{P:Program}{w:World}{K:Frag}{tg:Expr}(a it:Addr)(n:Nat):Turn P w K tg (tP false K a n) [it] it (λi h=>IsRevT h it a ((n:Int) - 1 - (i:Int))) where
 mem:=by simp
 obj:=λi h st b hb=>by
  have e:b=it:=by simpa using hb
  subst e;obtain⟨o,e,c,d⟩:=st;exact⟨o,e,λv z=>by rw[d]at z;cases z⟩
 keep:=λi h h' st k=>st.at λo e=>k it (by simp) o e
 item:=by
  intro X hP hw hK hc i pins s σ H E I hf st hg;subst hP hw hK;obtain⟨xs,x,hq,hn,hi,hx⟩:=hg;obtain⟨its,rv,p,hz⟩:=I.tuple (show SqT X.K H a xs from hq);obtain⟨u,hu,ru⟩:=rv.get hx;have hl:=rv.length;have h63:=Bj;obtain⟨f0,f1,f2,f3,f4,f5⟩:=hf it (by simp);have e:(n:Int) - 1 - (i:Int)=((n-1-i:Nat):Int):=by omega
  rw[e]at st;refine EZ st p (x:=u) (by simpa using hu) (by simp only[Ue]<;>omega) λh' tk st' sb=>?_;have I1:Inv X pins σ H {s with heap:=h',toks:=tk}:=I.turned (t':=tk) (λb o hb e=>(sb.2 b hb).trans e) f0 f1 f3 f4 f5;obtain⟨o,eo,c,d⟩:=id st';have e2:((n-1-i:Nat):Int) - 1=(n:Int) - 1 - ((i+1:Nat):Int):=by omega
  rw[e2]at st';exact⟨u,rfl,Me (s:={s with heap:=h',toks:=tk}) eo c d (by decide) ⟨x,H,I1,ru,⟨rfl,λys hy=>by rw[I.tuple_inj hy hq];exact hx⟩,st',λb hb=>(hf b hb).1⟩⟩
 done:=by
  intro X hP hw hK hc i pins s σ H E I hf st hg;subst hP hw hK;have hg:i=n:=hg;subst hg;have e:(i:Int) - 1 - (i:Int) = -1:=by omega
  rw[e]at st;obtain⟨f0,f1,f2,f3,f4,f5⟩:=hf it (by simp);exact FW (I.ok.hd hc) st λh' tk eb=>⟨rfl,I.turned (t':=tk) (λb o hb e=>eb b o hb e) f0 f1 f3 f4 f5⟩
 self:=λ_ _ _ _ _ st h=>FJ st h
theorem lH{ta:TA}(hg:Gl X "reversed")(hm:X.mg "reversed"=none)(ha:PA X [e] ta)(hs:starEach [e] X.env=[(false,eval e X.env)]):
  PI X tg (.Call (.Name "reversed" p) [e] [] pos) (λσ H R=>ta σ H λvs H1=>∃a xs,vs=[.ref a]/\SqT X.K H1 a xs/\R (tP false X.K a xs.length) H1):=by
 intro pins s σ H R I h;refine Call_ (Bi I hg hm boot_reversed (Tc (YR (ha pos pins s σ H _ I h) λus s1 ⟨vs,H1,I1,r1,q1⟩=>?_) hs rfl));obtain⟨a,xs,rfl,hq,q⟩:=q1;cases r1 with
 |cons r rr=>
  cases rr;cases r;have h63:=Bj;have fp:∀c∈[s1.heap.objs.size],FpOk X pins H1 c:=λc hc=>by
   have e:c=s1.heap.objs.size:=by simpa using hc
   subst e;exact I1.fpOk (Ui _) (I1.hok.fresh (Ui _))
  obtain⟨its,rv,pl,hz⟩:=I1.tuple hq;have hl:=rv.length;refine Cj pl (by simp only[Ue]<;>omega) λtk=>?_;have ho:({s1 with heap:=s1.heap.push (Oc a ((its.toArray.size:Int) - 1)),toks:=tk}:Shared).heap.get? s1.heap.objs.size=some (Oc a ((its.toArray.size:Int) - 1)):=UA _ rfl;have st:IsRevT (s1.heap.push (Oc a ((its.toArray.size:Int) - 1))) s1.heap.objs.size a ((xs.length:Int) - 1 - ((0:Nat):Int)):=⟨_,UA _ rfl,rfl,by simp[Oc,hl]⟩;refine FJ (s:={s1 with heap:=s1.heap.push (Oc a ((its.toArray.size:Int) - 1)),toks:=tk}) st ?_;exact⟨s1.heap.objs.size,[s1.heap.objs.size],_,_,H1,rfl,I1.kept (t':=tk) λb o e=>Ug _ e,S6 a _ xs.length,st,fp,q⟩
theorem eQ{K:Frag}{μ:List Addr}{H:Hp}{g:G}{a:Addr}{d:D}{b:Bool}{ds:List D}{n:Nat}(q:Den K μ H (.ref a) d)(h:QF g d=some (b,ds))(hn:n=ds.length):
  Dt K ca μ H ⟨λg i=>if i=ds.length then some none else if i<ds.length then (match QF g d with
  |some (_,es)=>if es.length=ds.length then some es[ds.length-1-i]? else none
  |none=>none) else none,ds.length⟩ (tP b K a n):=by
 subst hn;intro i H1 μ1 g1 ex r;dsimp only;by_cases h1:i=ds.length
 ·rw[Ub h1];exact h1
 ·rw[Ud h1];by_cases h2:i<ds.length
  ·rw[Ub h2];cases k1:QF g1 d with
   |none=>trivial|some p1=>
    obtain⟨c1,es⟩:=p1;dsimp only;by_cases h3:es.length=ds.length
    ·rw[Ub h3];have f1:=GD (K:=K) (μ:=μ) (H:=H) (μ':=μ) (H':=H) (v:=.ref a) h k1;subst f1;obtain⟨z1,vs,w1,s1,d1s⟩:=Vq r (q.mono ex) k1;cases w1;have hx:es[ds.length-1-i]?=some (es[ds.length-1-i]'(by omega)):=by simp[show ds.length-1-i<es.length by omega]
     rw[hx];obtain⟨vx,hvx,qx⟩:=d1s.get hx;have hvl:=d1s.length;refine⟨⟨vs,vx,s1,by omega,h2,hvx⟩,λx H' yl=>?_⟩;obtain⟨rfl,u1⟩:=yl;have:=u1 vs s1;rw[hvx]at this;cases this;exact⟨.refl,r,qx⟩
    ·rw[Ud h3];trivial
  ·rw[Ud h2];trivial
theorem Ps(hm:X.mg "reversed"=none)(he:QW ca X e me)(hg:Gl X "reversed":=by rfl)(hs:starEach [e] X.env=[(false,eval e X.env)]:=by rfl):dS ca X tg (.Call (.Name "reversed" p) [e] [] pos) (E0 me):=
 λpn Φ=>Ej (lH (X:=Q5 X ca pn Φ) hg hm (JV he Qj hs pn Φ) hs) λσ H R hQ=>by
  obtain⟨σ3,g,μ,Rp,q⟩:=hQ;refine⟨σ3,g,μ,Rp,?_⟩;unfold E0 at q;unfold Qc Ql;cases hm1:me σ3 g with
  |raise _ _=>rw[hm1]at q;exact q|stuck=>rw[hm1]at q;exact q.elim|ok d g1=>
   rw[hm1,Res.bind_ok]at q;rw[Res.bind_ok,Res.bind_ok];intro vs H1 μ1 ex r1 q1;unfold Oe at q;cases hs1:QF g1 d with
   |none=>rw[hs1]at q;exact q.elim|some p1=>
    obtain⟨b,ds⟩:=p1;rw[hs1]at q;cases b with
    |true=>exact q.elim|false=>
     cases q1 with
     |@cons v _ _ _ n1 q1 =>cases q1;obtain⟨a,ws,rfl,sq,dn⟩:=Vq r1 n1 hs1;exact⟨a,ws,rfl,sq,q _ H1 μ1 ex r1 (eQ n1 hs1 dn.length)⟩
end L3
namespace L3
open PySem
def Lv(d:D)(g:G):Res Src:=match QF g d with
 |some (true,ds)=>.ok ⟨λg i=>(match QF g d with
  |some (_,es)=>(match es[i]? with
   |some x=>some (some (.tup [.int i,x]))|none=>some none)
  |none=>none),ds.length⟩ g
 |_=>.stuck
def B2(a:ME):MI:=λσ g=>(a σ g).bind Lv
open PySem.Spec PyProof.Rows L2
def tQ(K:Frag)(a:Addr):It:=⟨λi H=>∃xs x,SqL K H a xs/\xs[i]?=some x,λi H v H'=>∃p x,H p=none/\v=.ref p/\H'=YD H p (.tup [.int (i:Int),x])/\∀xs,SqL K H a xs->xs[i]?=some x,λi H=>∃xs,SqL K H a xs/\xs.length<=i⟩
def tS(e it l:Addr)(i:Nat)(h:Heap):Prop:=(∃old,IsEnum h e it (i:Int) old)/\h.IsListIter it l i
theorem S7{P:Program}{w:World}{K:Frag}{elts:List Expr}{kk:Nat}{tp:Pos}(e it l:Addr)(hei:e≠it):
  Turn P w K (.Tuple elts kk tp) (tQ K l) [e,it] e (tS e it l) where
 mem:=by simp
 obj:=λi h st b hb=>by
  obtain⟨⟨old,hE⟩,hI⟩:=st;have hb':b=e\/b=it:=by simpa using hb
  rcases hb' with rfl|rfl
  ·exact⟨_,hE,λv q=>by cases q⟩
  ·obtain⟨o,eo,c,d⟩:=hI;exact⟨o,eo,λv z=>by rw[d]at z;cases z⟩
 keep:=λi h h' st k=>by obtain⟨⟨old,hE⟩,hI⟩:=st;exact⟨⟨old,k e (by simp) _ hE⟩,hI.at λo x=>k it (by simp) o x⟩
 item:=by
  intro X hP hw hK hc i pins s σ H E I hf st hg;subst hP hw hK;obtain⟨xs,x,q1,hx⟩:=hg;obtain⟨its,r1,p1,hz1⟩:=I.list q1;obtain⟨u,hu,ru⟩:=r1.get hx;obtain⟨⟨old,hE⟩,hI⟩:=st;have fe:=hf e (by simp);have fi:=hf it (by simp);refine wpAny_pyNext_enum_item hE hI p1.isList (x:=u) (by simpa using hu) hei λh' ho hit' hT hsz hk=>?_;have hp:H s.heap.objs.size=none:=I.hok.fresh (Ui _);have inC:∀b,b∈[e,it]->FpOk X pins H b:=λb hb=>hf b hb;have hk':∀b o,b∉[e,it]->s.heap.get? b=some o->h'.get? b=some o:=λb o hb ee=>hk b o (λq=>hb (by simp[q])) (λq=>hb (by simp[q])) ee;have nC:∀b v,H b=some v->b∉[e,it]:=λb v ee hb=>by rw[(inC b hb).1]at ee;cases ee
  have nP:∀b v,H b=some v->b≠s.heap.objs.size:=λb v ee=>ZN ee hp;have I1:Inv X pins σ (YD H s.heap.objs.size (.tup [.int (i:Int),x])) {s with heap:=h',toks:=s.toks+1}:=by
   refine I.step (g':=s.gens) (t':=s.toks+1) (d':=s.drawn) (ch:=[e,it]) (λb hb=>⟨(inC b hb).2.2.2.1,(inC b hb).2.1,(inC b hb).2.2.2.2.1,(inC b hb).2.2.2.2.2⟩) (λb o _ _ hb ee _=>hk' b o hb ee) (λb o _ _ hb ee _=>⟨o.slots,hk' b o hb ee⟩)
    (λb o hb ee n=>by rw[QZ (UR (Ut ee))];exact n) (λb o hb ee=>⟨o,hk' b o hb ee⟩) (λb v ee=>by rw[QZ (nP b _ ee)];exact ee) (λb o v ee=>by rw[QZ (nP b _ ee)];exact ee) (λb ps ee=>⟨#[],by rw[QZ (nP b _ ee),ee];simp⟩)
    (λm hm=>?_) (λb v ee=>?_) I.bare
   ·obtain⟨o,es,ep,hoo,rr⟩:=hm;exact⟨o,es,ep,hk' _ o (λhb=>(inC _ hb).2.1 rfl) hoo,rr⟩
   ·by_cases hb:b=s.heap.objs.size
    ·subst hb;rw[QN]at ee;cases ee;exact⟨by rw[Ry];show 2<=16777216;decide,[.int (i:Int) s.toks,u],.cons ⟨_,rfl⟩ (.cons ru .nil),⟨_,hT,rfl,_,rfl⟩⟩
    ·rw[QZ hb]at ee;refine(I.hok b v ee).stay (λc' v' hc' q=>?_) (λc' q=>by rw[QZ (nP c' _ q)];exact q) λc' xs' q=>by rw[QZ (nP c' _ q)];exact q
     rcases hc' with rfl|hc'
     ·exact hk' _ _ (nC _ _ ee) q
     ·exact hk' _ _ (nC _ _ hc') q
  refine⟨_,rfl,wpAny_letOwnedTupleGo_enum (s:={s with heap:=h',toks:=s.toks+1}) ho λh'' hE'' hs''=>?_⟩;have hpe:s.heap.objs.size≠e:=B6 (Ut hE);have I2:Inv X pins σ (YD H s.heap.objs.size (.tup [.int (i:Int),x])) {s with heap:=h'',toks:=s.toks+1}:=Inv.turned (s:={s with heap:=h',toks:=s.toks+1}) (t':=s.toks+1) I1 (λb o hb ee=>hs''.extBut b o hb ee) (by rw[QZ (Ne.symm hpe)];exact fe.1) fe.2.1 fe.2.2.2.1 fe.2.2.2.2.1 fe.2.2.2.2.2;have e2:(i:Int)+1=((i+1:Nat):Int):=by omega
  rw[e2]at hE'';refine⟨.ref s.heap.objs.size,_,I2,rfl,⟨_,x,hp,rfl,rfl,λxs' q=>by rw[I.list_inj q q1];exact hx⟩,⟨⟨_,hE''⟩,hit'.at λo ee=>hs''.extBut _ o (Ne.symm hei) ee⟩,λb hb=>?_⟩;have lt:b<s.heap.objs.size:=by
   have hb':b=e\/b=it:=by simpa using hb
   rcases hb' with rfl|rfl
   ·exact Ut hE
   ·obtain⟨o,eo,_⟩:=hI;exact Ut eo
  rw[QZ (UR lt)];exact(hf b hb).1
 done:=by intro X hP hw hK hc i pins s σ H E I hf st hg;subst hP hw hK;obtain⟨xs,q1,hl⟩:=hg;obtain⟨its,r1,p1,hz1⟩:=I.list q1;have hlen:=r1.length;obtain⟨⟨old,hE⟩,hI⟩:=st;obtain⟨f0,f1,f2,f3,f4,f5⟩:=hf it (by simp);exact wpAny_pyNext_enum_end (I.ok.hd hc) hE hI p1.isList (WI (by simp;omega)) λh' eb=>⟨rfl,I.turned (t':=s.toks) (λb o hb ee=>eb b o hb ee) f0 f1 f3 f4 f5⟩
 self:=λ_ _ _ _ _ st h=>by obtain⟨⟨old,hE⟩,_⟩:=st;exact wpAny_pyIter_enum hE h
theorem eR{ta:TA}(hg:Gl X "enumerate")(hm:X.mg "enumerate"=none)(ha:PA X [e1] ta)(hs:starEach [e1] X.env=[(false,eval e1 X.env)]):
  PI X (.Tuple elts kk tp) (.Call (.Name "enumerate" p) [e1] [] pos) (λσ H R=>ta σ H λvs H1=>∃a xs,vs=[.ref a]/\SqL X.K H1 a xs/\R (tQ X.K a) H1):=by
 intro pins s σ H R I h;refine Call_ (Bi I hg hm boot_enumerate (Tc (YR (ha pos pins s σ H _ I h) λus s1 ⟨vs,H1,I1,r1,q1⟩=>?_) hs rfl));obtain⟨a,xs,rfl,hq,q⟩:=q1;cases r1 with
 |cons ru rr=>
  cases rr;cases ru;obtain⟨its,v1,p1,hz⟩:=I1.list hq;refine call_enumerate_list p1.isList λh' hE hI hsz hk=>wpAny_pyIter_enum hE ?_;have I2:Inv X pins σ H1 {s1 with heap:=h'}:=I1.kept (t':=s1.toks) hk;refine⟨s1.heap.objs.size+1,_,_,_,H1,rfl,I2,S7 _ s1.heap.objs.size a (Nat.succ_ne_self _),⟨⟨_,hE⟩,hI⟩,λb hb=>?_,q⟩;have hb':b=s1.heap.objs.size+1\/b=s1.heap.objs.size:=by simpa using hb
  have hle:s1.heap.objs.size<=b:=by rcases hb' with h|h<;>rw[h]<;>first|exact Ui _|exact Nat.le_add_right _ _
  exact I1.fpOk hle (I1.hok.fresh hle)
theorem DL{K:Frag}{μ:List Addr}{H:Hp}{g:G}{v1:V}{d1:D}{xs:List D}{t:Nat}(q1:Den K μ H v1 d1)(h1:QF g d1=some (true,xs)){a1:Addr}(e1:v1=.ref a1):
  Dt K ca μ H ⟨λg i=>(match QF g d1 with
  |some (_,es)=>(match es[i]? with
   |some x=>some (some (.tup [.int i,x]))|none=>some none)
  |none=>none),t⟩ (tQ K a1):=by
 intro i H1 μ1 g1 ex r;dsimp only;cases k1:QF g1 d1 with
 |none=>trivial|some p1=>
  obtain⟨c1,xs1⟩:=p1;have f1:=GD (K:=K) (μ:=μ) (H:=H) (μ':=μ) (H':=H) (v:=v1) h1 k1;subst f1;obtain⟨z1,vs,w1,s1,d1s⟩:=Vq r (q1.mono ex) k1;rw[e1]at w1;cases w1;dsimp only;cases hx:xs1[i]? with
  |none =>refine⟨vs,s1,?_⟩;rw[d1s.length];exact Tj.mp hx|some x =>obtain⟨vx,hvx,qx⟩:=d1s.get hx;refine⟨⟨vs,vx,s1,hvx⟩,λv H' yl=>?_⟩;obtain⟨pp,x',hp,rfl,rfl,u1⟩:=yl;have:=u1 vs s1;rw[hvx]at this;cases this;exact⟨ZD hp,r.new hp,.tup (.of QN) (.cons (.int _) (.cons (qx.mono (ZD hp)) .nil))⟩
theorem DM(hm:X.mg "enumerate"=none)(h1:QW ca X e1 m1)(hg:Gl X "enumerate":=by rfl)(hs:starEach [e1] X.env=[(false,eval e1 X.env)]:=by rfl):dS ca X (.Tuple elts kk tp) (.Call (.Name "enumerate" p) [e1] [] pos) (B2 m1):=
 λpn Φ=>Ej (eR (X:=Q5 X ca pn Φ) hg hm (JV h1 Qj hs pn Φ) hs) λσ H R hQ=>by
  obtain⟨σ3,g,μ,Rp,q⟩:=hQ;refine⟨σ3,g,μ,Rp,?_⟩;unfold B2 at q;unfold Qc Ql;cases hm1:m1 σ3 g with
  |raise _ _=>rw[hm1]at q;exact q|stuck=>rw[hm1]at q;exact q.elim|ok d1 g1=>
   rw[hm1,Res.bind_ok]at q;rw[Res.bind_ok,Res.bind_ok];intro vs H1 μ1 ex r1 q1;unfold Lv at q;cases hs1:QF g1 d1 with
   |none=>rw[hs1]at q;exact q.elim|some p1=>
    obtain⟨b,ds⟩:=p1;rw[hs1]at q;cases b with
    |false=>exact q.elim|true=>
     cases q1 with
     |@cons v _ _ _ n1 q1 =>cases q1;obtain⟨a,ws,rfl,sq,dn⟩:=Vq r1 n1 hs1;exact⟨a,ws,rfl,sq,q _ H1 μ1 ex r1 (DL n1 hs1 rfl)⟩
end L3
namespace PySem
open Sem (wp)
namespace F
theorem nolen_lri:typeLookup (.type "list_reverseiterator") "__len__"=pure none:=by rw[TM,Tl];kernel_rfl
theorem hint_lri:typeLookup (.type "list_reverseiterator") "__length_hint__"=pure (some (.builtin "list_reverseiterator.__length_hint__")):=by rw[TM,Tl];kernel_rfl
end F
theorem Ep{Q:List Value->Shared->Prop}(W:WalksS prog w A.in1 I fp wr G n P St)(hT:∀i s,St i s->s.TypeIs (.ref I) "list_reverseiterator")(hst:St 0 s)(hfp:∀b∈fp,b<s.heap.objs.size)(hI:I∈fp)(hQ:∀s' acc,Moved wr G s s'->ItemsOf P acc n->Q acc.toList s')(hn:n<=sizeLine):wpAny (model prog w) A (collect (.ref I)) Q E s:=by
 have hSf:s.heap.objs.size∉fp:=λhm=>Tt _ (hfp _ hm);have hSI:s.heap.objs.size≠I:=λe=>hSf (e ▸ hI);unfold collect;refine Uc (wpAny_runValue (WP F.entry_proto_collect ?_));rw[RM F.plain_proto_collect _];show wpAny _ A.in1 (newList [] >>= λl=>again (.builtin "list.__iadd__" ⟨[l,.ref I],[]⟩)) _ _ s;refine Uc (U5 ?_);refine Up ⟨plainId_quiet F.plain_list_iadd _,WP F.entry_list_iadd ?_⟩;rw[RM F.plain_list_iadd _];have hst₁:=W.frame 0 s (s.heap.push {cls:=.type "list",data:=.seq ([]:List Value).toArray}) s.toks hst (Ui _) λb _ o e=>Ug _ e;have hS₁:(s.heap.push {cls:=.type "list",data:=.seq ([]:List Value).toArray}).get? s.heap.objs.size=some {cls:=.type "list",data:=.seq ([]:List Value).toArray}:=UA _ rfl;have h1:Builtin.List.listSameRef (.ref s.heap.objs.size) (.ref I)=false:=by simp[Builtin.List.listSameRef,hSI]
 show wpAny _ A.in1 (Builtin.List.listExtendWith (.ref s.heap.objs.size) (.ref I) (.ref s.heap.objs.size)) _ _ _;unfold Builtin.List.listExtendWith;refine Uc (RW (hT 0 _ hst₁) ?_);rw[Ud (by rw[h1];decide)];refine Uc (W.self 0 _ _ _ hst₁ ?_);refine Uc (Rm ?_);unfold Builtin.List.listLengthHint;refine Uc (Rq (hT 0 _ hst₁) F.nolen_lri ?_);show wpAny _ A.in1 (specialOf (Value.ref I) (Str.ofString "__length_hint__") >>= _) _ _ _;refine Uc (Rq (hT 0 _ hst₁) F.hint_lri ?_)
 (generalize hid:("list_reverseiterator.__length_hint__" : String)=id0;(fail_if_success (clear hid id0));wp_delta;rw[show splitId id0=some ("list_reverseiterator","__length_hint__") from by subst hid;decide +kernel];subst hid)
 refine Uc (Wz (b:=true) (hT 0 _ hst₁) (by rw[RC];kernel_rfl) ?_);refine Up ?_;rw[Ud (by decide)];refine Up ⟨plainId_quiet F.plain_extend_loop _,codeAny_extend_loopS W hn _ hSf _ n 0 _ _ _ rfl (RO _) hst₁ hS₁ (ItemsOf.nil P) λs' acc' c' hm hS' hacc=>?_⟩;show wpAny _ A (load s.heap.objs.size >>= _) _ _ s';refine Uc (wpAny_load hS' ?_);exact Up (hQ s' acc' (Moved.drop_new (o:={cls:=.type "list",data:=.seq ([]:List Value).toArray}) (tk:=s.toks) hm (Ui _)) hacc)
theorem CA{Q₁:VP}(W:WalksS prog w A.in1.in1 I fp wr G n P St)(hT:∀i s,St i s->s.TypeIs (.ref I) "list_reverseiterator")(hst:St 0 s)(hfp:∀b∈fp,b<s.heap.objs.size)(hI:I∈fp)(h:∀s' acc,Moved wr G s s'->ItemsOf P acc n->Q₁ (.ref s'.heap.objs.size) {s' with heap:=s'.heap.push {cls:=.type "tuple",data:=.seq acc} })(hsz:n<=sizeLine):
  codeAny (model prog w) A (.call (.builtin "tuple.__new__") ⟨[.type "tuple",.ref I],[]⟩) (wants Q₁ E) s:=by
 refine codeAny_of_tree ?_;show wpAny _ A.in1 (do checkBuiltinCall "tuple.__new__" ⟨[.type "tuple",.ref I],[]⟩;again (.builtin "tuple.__new__" ⟨[.type "tuple",.ref I],[]⟩)) _ _ s;refine Uc (T0 (F.newCall_tuple_1 _) (Up ⟨plainId_quiet F.plain_tuple_new _,WP F.entry_tuple_new ?_⟩));rw[RM F.plain_tuple_new _];have hsub:=sub_tuple_self;have hinit:=init_tuple_lookup;have hmh:=madeHere_tuple;have hTI:=hT 0 s hst
 wp_walk using RW hTI,Ep (hn:=hsz) W hT hst hfp hI
 intro s' acc hm hacc;show wpAny _ _ (Builtin.Tuple.tupleExact acc.toList.toArray >>= λv=>ret v) _ _ _;unfold Builtin.Tuple.tupleExact;refine Uc (U5 ?_ (by show acc.toList.toArray.size<=sizeLine;simp only[Array.toArray_toList];rw[hacc.1];exact hsz));refine Up ?_;have e:acc.toList.toArray=acc:=by simp
 rw[e];exact h s' acc hm hacc
theorem GH{Q:VP}(W:WalksS prog w A.in1.in1.in1 I fp wr G n P St)(hT:∀i s,St i s->s.TypeIs (.ref I) "list_reverseiterator")(hst:St 0 s)(hfp:∀b∈fp,b<s.heap.objs.size)(hI:I∈fp)(hQ:∀s' acc,Moved wr G s s'->ItemsOf P acc n->Q (.ref s'.heap.objs.size) {s' with heap:=s'.heap.push {cls:=.type "tuple",data:=.seq acc} })(hsz:n<=sizeLine):
  wpAny (model prog w) A (call (.type "tuple") [.ref I]) Q E s:=by
 refine callType_codes (Q₁:=λobj s₁=>s₁.TypeIs obj "tuple"/\Q obj s₁) F.called_tuple (F.typeCall_tuple_1 _) F.entry_object_init
  (CA (hsz:=hsz) W hT hst hfp hI λs' acc hm hacc=>⟨⟨_,UA _ rfl,rfl⟩,hQ s' acc hm hacc⟩) λobj s₁ h₁=>?_
 exact⟨h₁.1,F.args_object_init_2 obj _,object_init_meets F.called_tuple.init.lookup F.called_tuple.made (by decide) prog w A.in1 _ s₁ ⟨h₁.1,rfl,h₁.2⟩⟩
theorem GI{l:Addr}{its:List Value}{Q:VP}(hh:A.handled=none)(hne:l≠I)(hit:s.heap.IsRevIter I l ((its.toArray.size:Int) - 1))(hl:s.heap.IsList l its.toArray)(hsz:its.toArray.size<=sizeLine)(hQ:∀(h':Heap) (tk:Nat),(∀b o,b≠I->s.heap.get? b=some o->h'.get? b=some o)->Q (.ref h'.objs.size) {s with heap:=h'.push {cls:=.type "tuple",data:=.seq its.reverse.toArray},toks:=tk}):
  wpAny (model prog w) A (call (.type "tuple") [.ref I]) Q E s:=by
 refine GH (Walks.listRev (A:=A.in1.in1.in1) hh I l hne its.toArray).toS (λ_ _ st=>st.2.1.typeIs) ⟨RO _,by simpa using hit,hl⟩ (λb hb=>?_) (by simp) (λs' acc hm ha=>?_) hsz
 ·obtain⟨o,ho,_⟩:=hit;obtain⟨o',ho',_⟩:=hl;rcases UE.mp hb with rfl|hb
  ·exact Ut ho
  ·rw[Ur.mp hb];exact Ut ho'
 ·have e:acc=its.reverse.toArray:=by
   apply Array.ext_getElem?;intro i;by_cases hi:i<its.length
   ·have h1:acc[i]?=some (acc[i]'(by rw[ha.1];simpa using hi)):=Array.getElem?_eq_getElem _;have h2:=ha.2 i _ h1;rw[h1,<-h2];simp only[Ue,RH,WS hi]
   ·have hs:acc.size=its.length:=by rw[ha.1];simp
    rw[WI (by omega),RH,Ta (by simp;omega)]
  subst e;have e2:s' = {s with heap:=s'.heap,toks:=s'.toks}:=by have a1:=hm.gens;have a2:=hm.drawn;have a3:=hm.os;cases s';cases s;simp only at a1 a2 a3 ⊢;subst a1 a2 a3;rfl
  have:=hQ s'.heap s'.toks λb o hb e=>hm.heap b o (by simpa using hb) e;rw[e2];exact this
end PySem
namespace L3
open PySem
def Vh(x:D)(g:G):Res D:=match QF g x with
 |some (true,ds)=>.ok (.tup ds.reverse) g|_=>.stuck
open PySem.Spec PyProof.Rows L2
theorem MB:∀{xs:List V}{us:List Value},Vals xs us->Vals xs.reverse us.reverse
 |_,_,.nil=>.nil|_,_,.cons h t=>by rw[Ts,Ts];exact(MB t).append (.cons h .nil)
theorem Dens.rev{K:Frag}{μ:List Addr}{H:Hp}:∀{vs:List V}{ds:List D},Dens K μ H vs ds->Dens K μ H vs.reverse ds.reverse
 |_,_,.nil=>.nil|_,_,.cons h t=>by rw[Ts,Ts];exact(Dens.rev t).append (.cons h .nil)
theorem S8{ta:TA}(hs0:starEach [.Call (.Name "reversed" p2) [e] [] pos2] X.env=[(false,eval (.Call (.Name "reversed" p2) [e] [] pos2) X.env)])(hg:Gl X "tuple")(hm:X.mg "tuple"=none)(hg2:Gl X "reversed")(hm2:X.mg "reversed"=none)(ha:PA X [e] ta)(hs:starEach [e] X.env=[(false,eval e X.env)])(hc:X.calm=true):
  PE X (.Call (.Name "tuple" p) [.Call (.Name "reversed" p2) [e] [] pos2] [] pos) (λσ H Q=>ta σ H λvs H1=>∃a xs,vs=[.ref a]/\SqL X.K H1 a xs/\∀l,H1 l=none->Q (.ref l) (YD H1 l (.tup xs.reverse))):=by
 intro pins s σ H Q I h;refine Call_ (Bi I hg hm boot_tuple (Tc ?_ hs0 rfl));rw[hs0];show wpAny _ _ (spliced ((false,eval (.Call (.Name "reversed" p2) [e] [] pos2) X.env)::[])) _ _ s;refine Calls.spliced_cons (Call_ (Bi I hg2 hm2 boot_reversed (Tc (YR (ha pos2 pins s σ H _ I h) λus s1 hv=>?_) hs rfl)));obtain⟨vs,H1,I1,r1,a,xs,rfl,hq,q⟩:=hv;cases r1 with
 |cons r rr=>
  cases rr;cases r;have h63:=Bj;obtain⟨its,rv,pl,hz⟩:=I1.list hq;have hl:=rv.length;obtain⟨f0,f1,f2,f3,f4,f5⟩:=I1.fpOk (Ui _) (I1.hok.fresh (Ui _));refine call_reversed_list pl.isList (Calls.spliced_nil ?_);have I2:Inv X pins σ H1 {s1 with heap:=s1.heap.push (revObj a ((its.toArray.size:Int) - 1))}:=I1.kept (t':=s1.toks) λb o e=>Ug _ e;have ll:a≠s1.heap.objs.size:=λz=>by obtain⟨o,ho,_⟩:=pl.isList;exact absurd (Ut ho) (by rw[z];exact Tt _)
  refine GI (I:=s1.heap.objs.size) (l:=a) (its:=its) (s:={s1 with heap:=s1.heap.push (revObj a ((its.toArray.size:Int) - 1))}) (I1.ok.hd hc) ll ⟨_,UA _ rfl,rfl,rfl⟩ (pl.isList.at λo e=>Ug _ e) (by simp only[Ue];omega) λh' tk kp=>?_;have I3:Inv X pins σ H1 {s1 with heap:=h',toks:=tk}:=I2.turned (t':=tk) (λb o hb e=>kp b o hb e) f0 f1 f3 f4 f5;refine⟨.ref h'.objs.size,_,I3.laid (t':=tk) (λb o e=>Ug _ e) (Ui _) (show ObjOk X.prog X.w _ _ _ (.tup xs.reverse) from ⟨by rw[U7];exact hz,its.reverse,MB rv,IsTup.new _ _⟩),rfl,q _ (I3.hok.fresh (Ui _))⟩
theorem Of(hc:X.calm=true)(hm:X.mg "tuple"=none)(hm2:X.mg "reversed"=none)(he:QW ca X e me)(hs0:starEach [.Call (.Name "reversed" p2) [e] [] pos2] X.env=[(false,eval (.Call (.Name "reversed" p2) [e] [] pos2) X.env)]:=by rfl)(hg:Gl X "tuple":=by rfl)(hg2:Gl X "reversed":=by rfl)(hs:starEach [e] X.env=[(false,eval e X.env)]:=by rfl):
  QW ca X (.Call (.Name "tuple" p) [.Call (.Name "reversed" p2) [e] [] pos2] [] pos) (Qu Vh me):=
 λpn Φ=>ZP (S8 (X:=Q5 X ca pn Φ) hs0 hg hm hg2 hm2 (JV he Qj hs pn Φ) hs hc) λσ H Q hQ=>by
  obtain⟨σ3,g,μ,R,q⟩:=hQ;refine⟨σ3,g,μ,R,?_⟩;unfold Qu at q;unfold Qc Ql;cases hm:me σ3 g with
  |raise _ _=>rw[hm]at q;exact q|stuck=>rw[hm]at q;exact q.elim|ok d g1=>
   rw[hm,Res.bind_ok]at q;rw[Res.bind_ok,Res.bind_ok];intro vs H1 μ1 e1 r1 q1;cases q1 with
   |@cons v _ _ _ h1 h2=>
    cases h2;unfold Vh at q;cases hs1:QF g1 d with
    |none=>rw[hs1]at q;exact q.elim|some p1=>
     obtain⟨b,ds⟩:=p1;rw[hs1]at q;cases b with
     |false=>exact q.elim|true =>obtain⟨a,ws,rfl,sq,dn⟩:=Vq r1 h1 hs1;exact⟨a,ws,rfl,sq,λl hl=>q _ _ μ1 (e1.trans (ZD hl)) (r1.new hl) (.tup (.of QN) (dn.rev.mono (ZD hl)))⟩
def Og(K:Frag):Nat->Value->D->Bool
 |0,_,_=>false|f+1,u,d=>match u,d with
  |.none,.non=>true|.int i _,.int j=>i==j|.str i _,.str j=>i==j|.ref a,.tup ds=>(match K.lookup a with
   |some ⟨.type t,_,.seq its _,_⟩=>t =="tuple"&&decide (its.size<=63)&&decide (its.toList.length=ds.length)&&(its.toList.zip ds).all λp=>Og K f p.1 p.2
   |_=>false)
  |_,_=>false
theorem Pt{K:Frag}:∀{us:List Value}{ds:List D},us.length=ds.length->(∀p∈us.zip ds,∃v,RelV v p.1/\∀μ H,Den K μ H v p.2)->∃vs,Vals vs us/\∀μ H,Dens K μ H vs ds
 |[],[],_,_=>⟨[],.nil,λ_ _=>.nil⟩|[],_::_,h,_=>nomatch h
 |_::_,[],h,_=>nomatch h
 |u::us,d::ds,h,k=>by obtain⟨v,r,q⟩:=k (u,d) (by simp);obtain⟨vs,rs,qs⟩:=Pt (us:=us) (ds:=ds) (by simpa using h) λp hp=>k p (by simp[hp]);exact⟨v::vs,.cons r rs,λμ H=>.cons (q μ H) (qs μ H)⟩
theorem GJ{K:Frag}:∀(f:Nat)(u:Value)(d:D),Og K f u d=true->∃v,RelV v u/\∀μ H,Den K μ H v d
 |0,_,_,h=>nomatch h
 |f+1,u,d,h=>by
  unfold Og at h;split at h
  ·exact⟨.non,rfl,λ_ _=>.non⟩
  ·rename_i i t j;have e:i=j:=Tr.mp h;subst e;exact⟨.int i,⟨t,rfl⟩,λ_ _=>.int i⟩
  ·rename_i i t j;have e:i=j:=Tr.mp h;subst e;exact⟨.str i,⟨t,rfl⟩,λ_ _=>.str i⟩
  ·rename_i a ds;split at h
   ·rename_i t dd its n sl hk;simp only[UG,Tr,RB,Uu]at h;obtain⟨⟨⟨h1,h2⟩,h3⟩,h4⟩:=h;subst h1;obtain⟨vs,rs,qs⟩:=Pt h3 λp hp=>GJ f p.1 p.2 (h4 p hp);exact⟨.ref a,rfl,λμ H=>.tup (.inr ⟨_,its,n,hk,rfl,rfl,Um h2 (by rw[Ry];decide),rs⟩) (qs μ H)⟩
   ·cases h
  ·cases h
theorem Er(h:∃u v,X.mg x=some u/\RelV v u/\∀μ H,Den X.K μ H v d)(hg:Gl X x:=by rfl)(hd:(x==("__debug__" : Str))=false:=by decide):QW ca X (.Name x pos) (Qp d):=by obtain⟨u,v,hm,r,q⟩:=h;exact λpn Φ=>ZP (O5 (X:=Q5 X ca pn Φ) hg hm r hd) λ_ H _ z=>by obtain⟨_,_,μ,R,p⟩:=z;exact p v H μ .refl R.g (q _ _)
end L3
namespace L2
open PySem PySem.Spec PyProof.Rows
section
variable{κ:Type}[DecidableEq κ]
def E1(kvs:List (κ×V))(k:κ):Option V:=(kvs.find? λkv=>decide (kv.1=k)).map (·.2)
def Lw(kvs:List (κ×V))(k:κ)(v:V):List (κ×V):=if (kvs.any λkv=>decide (kv.1=k))=true then kvs.map (λkv=>if kv.1=k then (kv.1,v) else kv) else kvs++[(k,v)]
def FK(kvs:List (κ×V))(k:κ):List (κ×V):=kvs.filter λkv=>decide (kv.1≠k)
theorem MC{p:κ×V}{r:List (κ×V)}{k:κ}(e:p.1=k):E1 (p::r) k=some p.2:=by simp[E1,UP,e]
theorem MD{p:κ×V}{r:List (κ×V)}{k:κ}(e:¬p.1=k):E1 (p::r) k=E1 r k:=by simp[E1,UP,e]
theorem MJ(kvs:List (κ×V))(k:κ)(v:V):(Lw kvs k v).length<=kvs.length+1:=by
 unfold Lw;split
 ·rw[Ua];omega
 ·rw[Us,Uz,List.length_nil];omega
theorem RelO.getD(r:RelO o u)(rd:RelV d d'):RelV (o.getD d) (u.getD d'):=by
 cases o with
 |none=>cases u with
  |none=>exact rd|some _=>exact(show False from r).elim
 |some _=>cases u with
  |none=>exact(show False from r).elim|some _=>exact r
theorem KV.val{kvs:List (κ×V)}{vs:List (κ×Value)}(r:KV kvs vs)(k:κ):RelO (E1 kvs k) (valueAt vs k):=by
 unfold KV at r;induction r with
 |nil=>exact True.intro|@cons p q ps qs h t ih=>
  obtain⟨h1,h2⟩:=h;by_cases e:p.1=k
  ·have e':q.1=k:=h1.symm.trans e;have b:valueAt (q::qs) k=some q.2:=by simp[valueAt,UP,e']
   rw[MC e,b];exact h2
  ·have e':¬q.1=k:=λz=>e (h1.trans z);have b:valueAt (q::qs) k=valueAt qs k:=by simp[valueAt,UP,e']
   rw[MD e,b];exact ih
theorem KV.any(r:KV kvs vs)(k:κ):(kvs.any λkv=>decide (kv.1=k))=vs.any λkv=>decide (kv.1=k):=by
 unfold KV at r;induction r with
 |nil=>rfl|cons h t ih=>rw[To,To,ih,h.1]
theorem KV.repl(r:KV kvs vs)(k:κ)(ry:RelV y u):
  KV (kvs.map λkv=>if kv.1=k then (kv.1,y) else kv) (vs.map λkv=>if kv.1=k then (kv.1,u) else kv):=by
 unfold KV at r ⊢;induction r with
 |nil=>exact .nil|@cons p q ps qs h t ih=>
  rw[UL,UL];refine .cons ?_ ih;obtain⟨h1,h2⟩:=h;by_cases e:p.1=k
  ·rw[Ub e,Ub (h1.symm.trans e)];exact⟨h1,ry⟩
  ·rw[Ud e,Ud (λz=>e (h1.trans z))];exact⟨h1,h2⟩
theorem KV.put(r:KV kvs vs)(k:κ)(ry:RelV y u):KV (Lw kvs k y) (stored vs k u):=by
 unfold Lw stored;rw[r.any k];by_cases e:(vs.any λkv=>decide (kv.1=k))=true
 ·rw[Ub e,Ub e];exact r.repl k ry
 ·rw[Ud e,Ud e];exact Paired.snoc r ⟨rfl,ry⟩
theorem KV.drop(r:KV kvs vs)(k:κ):KV (FK kvs k) (without vs k):=by
 unfold KV at r ⊢;unfold FK without;induction r with
 |nil=>exact .nil|@cons p q ps qs h t ih=>
  obtain⟨h1,h2⟩:=h;rw[TH,TH];by_cases e:p.1=k
  ·have a:¬decide (p.1≠k)=true:=by simp[e]
   have b:¬decide (q.1≠k)=true:=by simp[h1.symm.trans e]
   rw[Ud a,Ud b];exact ih
  ·have e':¬q.1=k:=λz=>e (h1.trans z);have a:decide (p.1≠k)=true:=by simp[e]
   have b:decide (q.1≠k)=true:=by simp[e']
   rw[Ub a,Ub b];exact .cons ⟨h1,h2⟩ ih
theorem KV.length(r:KV kvs vs):kvs.length=vs.length:=Paired.length r
theorem DN(kvs:List (κ×V))(k:κ):(FK kvs k).length<=kvs.length:=T5 _ _
end
theorem Pu(r:RelV (kV k) u):(Jy P w).is k u=true:=by
 cases k with
 |inl i=>obtain⟨t,e⟩:=(show ∃t,u=Value.int i t from r);subst e;exact Mb P w i t|inr x=>obtain⟨t,e⟩:=(show ∃t,u=Value.str x t from r);subst e;exact Mc P w x t
theorem oU(ok:HOk P w H h)(e:Rd H a u):ObjOk P w H h a u:=e.ok ok
theorem iK(ok:HOk P w H h)(e:Rd H a (.dK kvs)):kvs.length<=sizeLine/\(a==sysModules)=false/\∃vs,KV kvs vs/\h.DictOf (Jy P w) a vs:=
 show ObjOk P w H h a (.dK kvs) from oU ok e
theorem IG(ok:HOk P w H h)(e:H a=some (.dK kvs)):kvs.length<=sizeLine/\(a==sysModules)=false/\∃vs,KV kvs vs/\h.DictOf (Jy P w) a vs:=iK ok (.inl e)
theorem Inv.big(I:Inv X pins σ H s):sysModules<s.heap.objs.size:=by have h:mainGlobals<s.heap.objs.size:=(I.mod.glob.keeps I.bk).lt;exact Nat.lt_trans (by decide) h
theorem Pv(I:Inv X pins σ H s)(mu:nA (H a))(hs:Heap.SameBut a s.heap h')(he:∃q,h'.get? a=some q)(new:ObjOk X.prog X.w (YD H a ob) h' a ob):
  Inv X pins σ (YD H a ob) {s with heap:=h',toks:=t'}:=I.write (x:=a) (e:=a) mu (.inl rfl) (λb q hb z=>(hs.2 b hb).trans z) he new
theorem DO(z:kvs.length<=sizeLine)(hd:(a==sysModules)=false)(rel:KV kvs vs)(dd:h'.DictOf (Jy P w) a vs):
  ObjOk P w H' h' a (.dK kvs):=⟨z,hd,vs,rel,dd⟩
theorem oV{v:V}{more:List Value}{Q:VP}(I:Inv X pins σ H s)(e:H a=some (.dK kvs))(ry:RelV (kV k) u)(l:E1 kvs k=some v)(hm:more=[]\/∃x,more=[x])(h:∀w' s',Inv X pins σ (YD H a (.dK (FK kvs k))) s'->RelV v w'->Q w' s'):wpAny (model X.prog X.w) A (call (.builtin "dict.pop") (.ref a::u::more)) Q E s:=by
 obtain⟨z,hd,vs,rel,dd⟩:=IG I.hok e;obtain⟨w',hw,rw'⟩:=RelO.some_of (v:=v) (o:=valueAt vs k) (by rw[<-l];exact rel.val k);have hp:(keyPart u).isSome=true:=by
  cases k with
  |inl i=>obtain⟨t,q⟩:=(show ∃t,u=Value.int i t from ry);subst q;rfl|inr x=>obtain⟨t,q⟩:=(show ∃t,u=Value.str x t from ry);subst q;rfl
 have ha:argsOk "dict.pop" ⟨.ref a::u::more,[]⟩:=by
  rcases hm with q|⟨x,q⟩
  ·subst q;exact PySem.F.args_dict_pop_2 _ _
  ·subst q;exact PySem.F.args_dict_pop_3 _ _ _
 refine call_meetsIn WT dd.typeIs PySem.F.entry_dict_pop ha (meets_dict_pop_there (Jy X.prog X.w) a (Pu ry) more hm hp)
  ⟨vs,w',dd,by rw[<-rel.length];exact z,hw,λh' dd' hs=>h w' _ ?_ rw'⟩
 have he:∃q,h'.get? a=some q:=let ⟨q,_,_,hq,_⟩:=dd';⟨q,hq⟩;exact Pv I (by rw[e];exact True.intro) hs he (DO (Um (DN kvs k) z) hd (rel.drop k) dd')
theorem DP(h:Heap)(hb:sysModules<h.objs.size):ObjOk P w H (h.push {cls:=.type "dict",data:=.dict #[]}) h.objs.size (.dK []):=⟨RO _,U0.mpr (Ne.symm (UR hb)),[],.nil,Heap.DictOf.new h⟩
def lI:TE:=λ_ H Q=>∀p,H p=none->Q (.ref p) (YD H p (.dK []))
theorem DQ:PE X (.Dict [] [] pos) lI:=λpins s σ H Q I h=>
 wpAny_Dict_empty ⟨.ref s.heap.objs.size,_,I.laid (a:=s.heap.objs.size) (o:=.dK []) (t':=s.toks) (λ_ _ q=>Ug _ q) (Ui _) (DP s.heap I.big),rfl,h _ (I.hok.fresh (Ui _))⟩
end L2
namespace L3
open PySem
def Es:List Int->Option Int
 |[]=>none|i::r=>(match Es r with
  |none=>some i|some j=>some (if i<j then j else i))
def GK(x:D)(g:G):Res D:=match x with
 |.tup ds=>(match Ed ds with
  |some is=>(match Es is with
   |some i=>.ok (.int i) g|none=>.stuck)
  |none=>.stuck)
 |_=>.stuck
theorem GL:∀{is:List Int}{M:Int},Es is=some M->M∈is/\∀a∈is,a<=M
 |[],_,h=>by cases h
 |i::r,M,h=>by
  unfold Es at h;cases hr:Es r with
  |none=>
   rw[hr]at h;cases h;cases r with
   |nil=>exact⟨UB ..,λa ha=>by rw[Ur.mp ha];exact Int.le_refl _⟩|cons j r'=>
    unfold Es at hr;cases h2:Es r' with
    |none=>rw[h2]at hr;cases hr|some k=>rw[h2]at hr;cases hr
  |some j=>
   rw[hr]at h;dsimp only at h;obtain⟨q1,q2⟩:=GL hr;by_cases z:i<j
   ·rw[Ub z]at h;cases h;exact⟨Uv _ q1,λa ha=>by
     rcases UE.mp ha with e|e
     ·omega
     ·exact q2 a e⟩
   ·rw[Ud z]at h;cases h;exact⟨UB ..,λa ha=>by
     rcases UE.mp ha with e|e
     ·omega
     ·have:=q2 a e;omega⟩
open PySem.Spec PyProof.Rows L2
theorem Oh{prog:Program}{w:World}{A:Around}{E:VP}{s:Shared}{l:Addr}{xs:Array (Int×Tok)}{Q:VP}(hh:A.handled=none)(hl:s.heap.IsTuple l (intItems xs))(hne:0<xs.size)(h:∀v h' tk,(intItems xs)[argBest (λi j=>decide (numAt xs i>numAt xs j)) (xs.size-1)]?=some v->(∀b o,s.heap.get? b=some o->h'.get? b=some o)->Q v {s with heap:=h',toks:=tk}):
  wpAny (model prog w) A (call (.builtin "max") [.ref l]) Q E s:=by
 have hlt:l<s.heap.objs.size:=by obtain⟨_,e,_⟩:=hl;exact Ut e
 refine call_max_walk (wpAny_pyIter_tuple hl ?_);refine⟨_,[_,l],[_],_,_,_,_,rfl,Walks.tuple (A:=A.in1) hh _ l (UR hlt) (intItems xs),⟨⟨_,UA _ rfl,rfl,rfl⟩,hl.push _⟩,λc hc=>?_,by simpa[intItems]using hne,CmpOf.ints_gt (numAt xs) (λ_ _=>intItems_at),λv h' tk hP hk=>?_⟩
 ·show c<(s.heap.push _).objs.size;rw[Wh];rcases UE.mp hc with rfl|hc
  ·exact Tq _
  ·rcases UE.mp hc with rfl|hc
   ·exact Nat.lt_succ_of_lt hlt
   ·cases hc
 ·refine h v h' tk (by simpa[intItems]using hP) λb o e=>hk b o (λhm=>?_) (Ug _ e);rcases UE.mp hm with e1|hm
  ·exact absurd (e1 ▸ Ut e) (Tt _)
  ·cases hm
section
variable{X:Cx}{ca:Nat->Addr}{e:Expr}{me:ME}{pos p:Pos}
theorem IH{K:Frag}{μ:List Addr}{H:Hp}:∀{vs:List V}{ds:List D}{ns:List Int},Dens K μ H vs ds->Ed ds=some ns->vs=ns.map V.int
 |_,_,ns,.nil,h=>by cases h;rfl
 |_,_,ns,.cons (ds:=ds) h1 h2,h=>by
  cases h1 with
  |int i=>
   unfold Ed at h;cases hr:Ed ds with
   |none=>rw[hr]at h;cases h|some ms=>rw[hr]at h;cases h;rw[UL,IH h2 hr]
  |_=>cases h
theorem intsAre_of:∀{ns:List Int}{us:List Value},Vals (ns.map V.int) us->IntsAre us ns
 |[],_,h=>by cases h;exact .nil
 |n::ns,_,h=>by
  cases h with
  |cons h1 h2 =>obtain⟨t,rfl⟩:=h1;exact .cons n t (intsAre_of h2)
theorem S9(hc:X.calm=true):CallR X (.builtin "max") (λxs H Q=>∃(a:Addr)(ns:List Int)(M:Int),xs=[.ref a]/\SqT X.K H a (ns.map V.int)/\Es ns=some M/\Q (.int M) H):=by
 intro pins s σ H xs us Q I rv h;obtain⟨a,ns,M,rfl,hq,hM,q⟩:=h;obtain⟨u,rfl,ru⟩:=rv.one;cases ru;obtain⟨its,r,pl,hz⟩:=I.tuple hq;have hi:=intsAre_of r;obtain⟨m1,m2⟩:=GL hM;obtain⟨xs,hxs⟩:=hi.allInts.items;have hl:=pl;rw[hxs]at hl;have hns:numsOf (intItems xs).toList=ns:=by rw[<-hxs];exact hi.numsOf
 rw[nums_intItems]at hns;have hlen:xs.size=ns.length:=by rw[<-hns,Ua,TB]
 have hsz:0<xs.size:=by rw[hlen];exact WJ m1
 refine Oh (I.ok.hd hc) hl hsz λv h' tk hv hk=>?_;obtain⟨t,rfl⟩:=intItems_at hv;obtain⟨h1,h2⟩:=argBest_gt (numAt xs) (xs.size-1);have e:numAt xs (argBest (λi j=>decide (numAt xs i>numAt xs j)) (xs.size-1))=M:=by
  have b1:numAt xs (argBest (λi j=>decide (numAt xs i>numAt xs j)) (xs.size-1))∈ns:=by rw[<-hns,numAt_eq];exact getD_mem (by rw[Ua,TB];omega)
  have b2:numAt xs (argBest (λi j=>decide (numAt xs i>numAt xs j)) (xs.size-1))>=M:=by rw[<-hns]at m1;obtain⟨j,hj,e⟩:=mem_getD m1;rw[Ua,TB]at hj;rw[<-e,<-numAt_eq];exact h2 j (by omega)
  have b3:=m2 _ b1;omega
 exact⟨.int M,H,I.kept hk,⟨t,by rw[<-e]⟩,q⟩
theorem lJ(hc:X.calm=true)(hm:X.mg "max"=none)(he:QW ca X e me)(hg:Gl X "max":=by rfl)(hs:starEach [e] X.env=[(false,eval e X.env)]:=by rfl)(hpl:(backTo pos (starEach [] X.env)).any (·.1)=false:=by rfl):
  QW ca X (.Call (.Name "max" p) [e] [] pos) (Qu GK me):=
 Pm (r:=λxs H Q=>∃(a:Addr)(ns:List Int)(M:Int),xs=[V.ref a]/\SqT X.K H a (ns.map V.int)/\Es ns=some M/\Q (.int M) H) (λpn Φ=>S9 (X:=Q5 X ca pn Φ) hc) hm boot_max (λΦ σ H μ g y d Q r q pp=>by
  unfold GK at pp;cases q with
  |tup ht hs=>
   dsimp only at pp;rename_i t vs ds;cases hi:Ed ds with
   |none=>rw[hi]at pp;exact pp.elim|some is=>
    rw[hi]at pp;dsimp only at pp;cases hz:Es is with
    |none=>rw[hz]at pp;exact pp.elim|some M =>rw[hz]at pp;have ew:=IH hs hi;subst ew;exact⟨t,is,M,rfl,ht,hz,pp _ H μ .refl r (.int _)⟩
  |_=>exact pp.elim) he hg (by decide) (by decide) hs hpl
end
end L3
namespace L3
open PySem
abbrev DK:=Sum Int Str
def Jm(ks:List (DK×D))(k:DK):Option D:=(ks.find? λp=>decide (p.1=k)).map (·.2)
def Bu(ks:List (DK×D))(k:DK)(v:D):List (DK×D):=if (ks.any λp=>decide (p.1=k))=true then ks.map λp=>if p.1=k then (p.1,v) else p else ks++[(k,v)]
def Bv(ks:List (DK×D))(k:DK):List (DK×D):=ks.filter λp=>decide (p.1≠k)
def MK:ME:=λ_ g=>.ok (.ref g.length) (g++[.dct []])
def Bw(o k x:ME):ME:=λσ g=>(o σ g).bind λa g1=>match a with
 |.ref n=>(match g1[n]? with
  |some (.dct _)=>(k σ g1).bind λy g2=>(x σ g2).bind λz g3=>(match y with
   |.int i=>(match g3[n]? with
    |some (.dct ks)=>.ok ((Jm ks (.inl i)).getD z) g3|_=>.stuck)
   |_=>.stuck)
  |_=>.stuck)
 |_=>.stuck
def ML(o k:ME):ME:=λσ g=>(o σ g).bind λa g1=>match a with
 |.ref n=>(match g1[n]? with
  |some (.dct _)=>(k σ g1).bind λy g2=>(match y with
   |.int i=>(match g2[n]? with
    |some (.dct ks)=>(match Jm ks (.inl i) with
     |some v=>.ok v (g2.set n (.dct (Bv ks (.inl i))))|none=>.stuck)
    |_=>.stuck)
   |_=>.stuck)
  |_=>.stuck)
 |_=>.stuck
def GM(o k v:ME):MS:=λσ g=>match v σ g with
 |.ok y g1=>(match o σ g1 with
  |.ok (.ref n) g2=>(match k σ g2 with
   |.ok (.int i) g3=>(match g3[n]? with
    |some (.dct ks)=>if ks.length<SZ then .nx σ (g3.set n (.dct (Bu ks (.inl i) y))) else .stuck
    |_=>.stuck)
   |.raise e g'=>.raise e σ g'|_=>.stuck)
  |.raise e g'=>.raise e σ g'|_=>.stuck)
 |.raise e g'=>.raise e σ g'|.stuck=>.stuck
open PySem.Spec PyProof.Rows L2
section
variable{K:Frag}{μ:List Addr}{H:Hp}
theorem KRel.get(r:KRel K μ H kv ks)(k:Bh):(E1 kv k=none/\Jm ks k=none)\/∃v d,E1 kv k=some v/\Jm ks k=some d/\Den K μ H v d:=by
 unfold KRel at r;induction r with
 |nil=>exact .inl ⟨rfl,rfl⟩|@cons p q ps qs h t ih=>
  obtain⟨h1,h2⟩:=h;by_cases e:p.1=k
  ·refine .inr ⟨p.2,q.2,MC e,?_,h2⟩;unfold Jm;rw[UP,Uo (h1.symm.trans e)];rfl
  ·have e':Jm (q::qs) k=Jm qs k:=by unfold Jm;rw[UP,Ul (λz=>e (h1.trans z))]
   rw[MD e,e'];exact ih
theorem KRel.put(r:KRel K μ H kv ks)(k:Bh)(h:Den K μ H v d):KRel K μ H (Lw kv k v) (Bu ks k d):=by
 have ha:(kv.any λp=>decide (p.1=k))=ks.any λp=>decide (p.1=k):=by
  unfold KRel at r;induction r with
  |nil=>rfl|cons h t ih=>rw[To,To,ih,h.1]
 unfold Lw Bu;rw[ha];by_cases e:(ks.any λp=>decide (p.1=k))=true
 ·rw[Ub e,Ub e];clear ha e;unfold KRel at r ⊢;induction r with
  |nil=>exact .nil|@cons p q ps qs hp t ih=>
   rw[UL,UL];refine .cons ?_ ih;obtain⟨h1,h2⟩:=hp;by_cases e:p.1=k
   ·rw[Ub e,Ub (h1.symm.trans e)];exact⟨h1,h⟩
   ·rw[Ud e,Ud (λz=>e (h1.trans z))];exact⟨h1,h2⟩
 ·rw[Ud e,Ud e];exact Paired.snoc r ⟨rfl,h⟩
theorem KRel.drop(r:KRel K μ H kv ks)(k:Bh):KRel K μ H (FK kv k) (Bv ks k):=by
 unfold KRel at r ⊢;unfold FK Bv;induction r with
 |nil=>exact .nil|@cons p q ps qs h t ih=>
  obtain⟨h1,h2⟩:=h;rw[TH,TH,<-h1];by_cases e:decide (p.1≠k)=true
  ·rw[Ub e,Ub e];exact .cons ⟨h1,h2⟩ ih
  ·rw[Ud e,Ud e];exact ih
end
section
variable{X:Cx}
theorem DR:MtR X "dict.get" (λx vs H Q=>∃a kvs k d,x=.ref a/\vs=[kV k,d]/\H a=some (.dK kvs)/\Q ((E1 kvs k).getD d) H):=by
 intro pins s σ H x vs v us Q I rx rv h;obtain⟨a,kvs,k,d,rfl,rfl,e,q⟩:=h;cases rx;cases rv with
 |cons ry r2=>cases r2 with
  |cons rd r3 =>cases r3;obtain⟨z,hd,vs,rel,dd⟩:=IG I.hok e;exact call_meetsIn WU dd.typeIs PySem.F.entry_dict_get (PySem.F.args_dict_get_3 _ _ _) (meets_dict_get_default (Jy X.prog X.w) a (Pu ry) hd _) ⟨_,dd.mapOf,_,H,I.tok _,(rel.val k).getD rd,q⟩
theorem eT:MtR X "dict.pop" (λx vs H Q=>∃a kvs k v,x=.ref a/\vs=[kV k]/\H a=some (.dK kvs)/\E1 kvs k=some v/\Q v (YD H a (.dK (FK kvs k)))):=by intro pins s σ H x vs v us Q I rx rv h;obtain⟨a,kvs,k,w,rfl,rfl,e,l,q⟩:=h;cases rx;obtain⟨u,rfl,ru⟩:=rv.one;exact oV I e ru l (.inl rfl) λw' s' I' rw'=>⟨_,_,I',rw',q⟩
theorem DS:jS X (λo i v H Q=>∃a kvs k,o=.ref a/\i=kV k/\H a=some (.dK kvs)/\kvs.length<sizeLine/\Q (YD H a (.dK (Lw kvs k v)))):=by
 intro pins s σ H o i v ov iv u Q I ro ri rv h;obtain⟨a,kvs,k,rfl,rfl,e,l,q⟩:=h;cases ro;obtain⟨z,hd,vs,rel,dd⟩:=IG I.hok e;have hz:vs.length<=sizeLine:=by rw[<-rel.length];exact z
 have hl:(Lw kvs k v).length<=sizeLine:=by have:=MJ kvs k v;omega
 refine wpAny_setItem_pairs (hsz:=hz) (Pu ri) dd λh' dd' hs=>?_;have he:∃q,h'.get? a=some q:=let ⟨q,_,_,hq,_⟩:=dd';⟨q,hq⟩;exact⟨_,Pv I (by rw[e];exact True.intro) hs he (DO hl hd (rel.put k rv) dd'),q⟩
end
section
variable{X:Cx}{ca:Nat->Addr}{o e f:Expr}{mo me mf:ME}{p pos apos:Pos}
theorem DT:QW ca X (.Dict [] [] pos) MK:=λpn Φ=>ZP (DQ (X:=Q5 X ca pn Φ)) λσ H Q ⟨σ3,g,μ,R,q⟩=>λt ht=>q _ _ (μ++[t]) (Zr ht) (R.g.push ht ⟨[],QN,.nil⟩) (.ref (by rw[<-R.g.len];simp))
theorem Pw(ho:QW ca X o mo)(he:QW ca X e me)(hf:QW ca X f mf)(hbase:attributeBase o "get" X.env (eval o X.env)=eval o X.env:=by rfl)(hfew:((backTo pos (starEach [e,f] X.env)).all (λx=>!x.1)&&(backToKw pos (keywordEach [] X.env)).all (λx=>x.1.isSome)&&decide ([e,f].length+([]:List Keyword).length+(if ([]:List Keyword).isEmpty then 0 else 1)<30))=true:=by rfl)(hline:(apos.endLine==pos.line)=true:=by rfl)(hs:starEach [e,f] X.env=(false,eval e X.env)::starEach [f] X.env:=by rfl)(hs2:starEach [f] X.env=(false,eval f X.env)::starEach [] X.env:=by rfl)(hplain:(backTo pos (starEach [f] X.env)).any (·.1)=false:=by rfl):
  QW ca X (.Call (.Attribute o "get" apos) [e,f] [] pos) (Bw mo me mf):=
 λpn Φ=>ZP (O9 (X:=Q5 X ca pn Φ) Wu WU PySem.F.type_dict_get DR (ho pn Φ) (JV he (JV hf Qj hs2) hs pn Φ) hbase hfew hline hs hplain) λσ H Q ⟨σ3,g,μ,R,q⟩=>Z0 (JT R q) λx H1 hQ=>by
  obtain⟨d,g1,μ1,e1,R1,q1,p1⟩:=hQ;cases q1 with
  |@ref n t hn=>
   dsimp only at p1;cases hgn:g1[n]? with
   |none=>rw[hgn]at p1;exact p1.elim|some ob=>
    rw[hgn]at p1;obtain⟨t',ht',orp⟩:=R1.g.addr hgn;rw[hn]at ht';cases ht';cases ob with
    |dct ks0=>
     obtain⟨kv0,hH0,_⟩:=orp;dsimp only at p1;refine⟨.inr (.inr (.inl ⟨rfl,.inl ⟨_,hH0⟩⟩)),σ3,g1,μ1,R1,?_⟩;unfold Qc Ql;cases hm:me σ3 g1 with
     |raise _ _=>rw[hm]at p1;exact p1|stuck=>rw[hm]at p1;exact p1.elim|ok y g2=>
      rw[hm,Res.bind_ok]at p1;rw[Res.bind_ok];cases hm2:mf σ3 g2 with
      |raise _ _=>rw[hm2]at p1;exact p1|stuck=>rw[hm2]at p1;exact p1.elim|ok z g3=>
       rw[hm2,Res.bind_ok]at p1;rw[Res.bind_ok,Res.bind_ok,Res.bind_ok];intro vs H2 μ2 e2 r2 q2;cases q2 with
       |cons h1 h2=>cases h2 with
        |cons h2 h3=>
         cases h3;cases h1 with
         |int i=>
          dsimp only at p1;cases hg2:g3[n]? with
          |none=>rw[hg2]at p1;exact p1.elim|some ob2=>
           rw[hg2]at p1;obtain⟨t',ht',orp⟩:=r2.addr hg2;rw[e2.at hn]at ht';cases ht';cases ob2 with
           |dct ks=>
            obtain⟨kv,hH,qs⟩:=orp;dsimp only at p1;refine⟨t,kv,.inl i,_,rfl,rfl,hH,p1 _ _ μ2 e2 r2 ?_⟩;rcases qs.get (.inl i) with⟨a,b⟩|⟨v,d,a,b,c⟩
            ·rw[a,b];exact h2
            ·rw[a,b];exact c
           |_=>exact p1.elim
         |_=>exact p1.elim
    |_=>exact p1.elim
  |_=>exact p1.elim
theorem lK(ho:QW ca X o mo)(he:QW ca X e me)(hbase:attributeBase o "pop" X.env (eval o X.env)=eval o X.env:=by rfl)(hfew:((backTo pos (starEach [e] X.env)).all (λx=>!x.1)&&(backToKw pos (keywordEach [] X.env)).all (λx=>x.1.isSome)&&decide ([e].length+([]:List Keyword).length+(if ([]:List Keyword).isEmpty then 0 else 1)<30))=true:=by rfl)(hline:(apos.endLine==pos.line)=true:=by rfl)(hs:starEach [e] X.env=(false,eval e X.env)::starEach [] X.env:=by rfl)(hplain:(backTo pos (starEach [] X.env)).any (·.1)=false:=by rfl):
  QW ca X (.Call (.Attribute o "pop" apos) [e] [] pos) (ML mo me):=
 λpn Φ=>ZP (O9 (X:=Q5 X ca pn Φ) Wu WT PySem.F.type_dict_pop eT (ho pn Φ) (JV he Qj hs pn Φ) hbase hfew hline hs hplain) λσ H Q ⟨σ3,g,μ,R,q⟩=>Z0 (JT R q) λx H1 hQ=>by
  obtain⟨d,g1,μ1,e1,R1,q1,p1⟩:=hQ;cases q1 with
  |@ref n t hn=>
   dsimp only at p1;cases hgn:g1[n]? with
   |none=>rw[hgn]at p1;exact p1.elim|some ob=>
    rw[hgn]at p1;obtain⟨t',ht',orp⟩:=R1.g.addr hgn;rw[hn]at ht';cases ht';cases ob with
    |dct ks0=>
     obtain⟨kv0,hH0,_⟩:=orp;dsimp only at p1;refine⟨.inr (.inr (.inl ⟨rfl,.inl ⟨_,hH0⟩⟩)),σ3,g1,μ1,R1,?_⟩;unfold Qc Ql;cases hm:me σ3 g1 with
     |raise _ _=>rw[hm]at p1;exact p1|stuck=>rw[hm]at p1;exact p1.elim|ok y g2=>
      rw[hm,Res.bind_ok]at p1;rw[Res.bind_ok,Res.bind_ok];intro vs H2 μ2 e2 r2 q2;cases q2 with
      |cons h1 h2=>
       cases h2;cases h1 with
       |int i=>
        dsimp only at p1;cases hg2:g2[n]? with
        |none=>rw[hg2]at p1;exact p1.elim|some ob2=>
         rw[hg2]at p1;obtain⟨t',ht',orp⟩:=r2.addr hg2;rw[e2.at hn]at ht';cases ht';cases ob2 with
         |dct ks=>
          obtain⟨kv,hH,qs⟩:=orp;dsimp only at p1;rcases qs.get (.inl i) with⟨a,b⟩|⟨v,d,a,b,c⟩
          ·rw[b]at p1;exact p1.elim
          ·rw[b]at p1;have ex:Ext X.K μ2 H2 μ2 (YD H2 t (.dK (FK kv (.inl i)))):=XA hH (by intro _ z;cases z) (by intro _ _ z;cases z);refine⟨t,kv,.inl i,v,rfl,rfl,hH,a,p1 _ _ μ2 (e2.trans ex) ?_ (c.mono ex)⟩;exact r2.set (e2.at hn) hH (by intro _ z;cases z) (by intro _ _ z;cases z) ⟨_,QN,(qs.mono ex).drop _⟩
         |_=>exact p1.elim
       |_=>exact p1.elim
    |_=>exact p1.elim
  |_=>exact p1.elim
theorem DU{i:Expr}{mi:ME}{pos':Pos}(ho:QW ca X o mo)(hi:QW ca X i mi)(he:QW ca X e me)(hs:swapsWithSole [.Subscript o i pos'] e pos.line X.env=pure false:=by rfl)(hw:swappedStores [.Subscript o i pos'] e X.env=pure none:=by rfl)(h1:(assignEach [.Subscript o i pos'] X.env).map (·.2)=[assign (.Subscript o i pos') X.env]:=by rfl)(ha:∀v,assign (.Subscript o i pos') X.env v=(do
   let ov <-holding [v] (eval o X.env)
   let iv <-holding [v,ov] (eval i X.env)
   standAt pos'
   holding [v,ov,iv] (setItem ov iv v)
   release [v,ov,iv] []):=by intro _;rfl):L9 ca X (.Assign [.Subscript o i pos'] e pos) (GM mo mi me):=
 λpn Φ=>JU (NN (X:=Q5 X ca pn Φ) (he pn Φ) (A5 (X:=Q5 X ca pn Φ) (ho pn Φ) (hi pn Φ) DS ha) hs hw h1) λE σ H ⟨σ3,g,μ,R,p⟩=>⟨σ3,g,μ,R,by
  unfold GM at p;cases hm:me σ3 g with
  |ok y g1=>
   rw[hm]at p;dsimp only at p;intro vy H1 μ1 e1 r1 q1;refine⟨σ3,g1,μ1,R.go e1 r1,?_⟩;cases hm2:mo σ3 g1 with
   |ok d g2=>
    rw[hm2]at p;intro vx H2 μ2 e2 r2 q2;cases q2 with
    |@ref n a hn=>
     dsimp only at p;refine⟨σ3,g2,μ2,R.go (e1.trans e2) r2,?_⟩;cases hm3:mi σ3 g2 with
     |ok di g3=>
      rw[hm3]at p;intro vi H3 μ3 e3 r3 q3;cases q3 with
      |int k=>
       dsimp only at p;cases hg:g3[n]? with
       |none=>rw[hg]at p;exact p.elim|some ob=>
        rw[hg]at p;obtain⟨a',ha',orp⟩:=r3.addr hg;rw[e3.at hn]at ha';cases ha';cases ob with
        |dct ks=>
         dsimp only at p;obtain⟨kv,hH,q⟩:=orp;by_cases z:ks.length<SZ
         ·rw[Ub z]at p;have ex:Ext X.K μ3 H3 μ3 (YD H3 a (.dK (Lw kv (.inl k) vy))):=XA hH (by intro _ z;cases z) (by intro _ _ z;cases z);refine⟨a,kv,.inl k,rfl,rfl,hH,by rw[Paired.length q];exact UH z JX,?_⟩;refine p σ _ μ3 (((e1.trans e2).trans e3).trans ex) ((R.go ((e1.trans e2).trans e3) r3).go ex ?_);exact r3.set (e3.at hn) hH (by intro _ z;cases z) (by intro _ _ z;cases z) ⟨_,QN,(q.mono ex).put _ (((q1.mono e2).mono e3).mono ex)⟩
         ·rw[Ud z]at p;exact p.elim
        |_=>exact p.elim
      |_=>exact p.elim
     |raise _ _=>rw[hm3]at p;exact(RaP.stmt R p).go (e1.trans e2)|stuck=>rw[hm3]at p;exact p
    |_=>exact p.elim
   |raise _ _=>rw[hm2]at p;exact(RaP.stmt R p).go e1|stuck=>rw[hm2]at p;exact p
  |raise _ _=>rw[hm]at p;exact RaP.stmt R p|stuck=>rw[hm]at p;exact p⟩
end
end L3
namespace L3
open PySem
def II(x y:D)(g:G):Res D:=match x,y with
 |.int i,.int j=>.ok (.int (if j<i then j else i)) g|_,_=>.stuck
def Px(x y:D)(g:G):Res D:=match x,y with
 |.int i,.int j=>.ok (.int (if i<j then j else i)) g|_,_=>.stuck
def Gi(o e:ME):ME:=λσ g=>(o σ g).bind λx g1=>match x with
 |.ref n=>(match g1[n]? with
  |some (.lst _)=>(e σ g1).bind λy g2=>(match y with
   |.ref m=>(match g2[n]?,g2[m]? with
    |some (.lst ds),some (.lst es)=>if n≠m/\ds.length+es.length<=SZ then .ok .non (g2.set n (.lst (ds++es))) else .stuck
    |_,_=>.stuck)
   |.tup es=>(match g2[n]? with
    |some (.lst ds)=>if ds.length+es.length<=SZ then .ok .non (g2.set n (.lst (ds++es))) else .stuck
    |_=>.stuck)
   |_=>.stuck)
  |_=>.stuck)
 |_=>.stuck
def YG:List (DK×D)->Option (List Int)
 |[]=>some []| (.inl i,_)::r=>(YG r).map (i :: ·)|_::_=>none
open PySem.Spec PyProof.Rows L2
section
variable{X:Cx}
theorem eU{i:Int}{v:Value}(h:Gk (.inl i) v=true):∃t,v=.int i t:=by
 rcases Ya h with⟨j,t,e1,e2⟩|⟨x,t,e1,e2⟩
 ·cases e1;exact⟨t,e2⟩
 ·cases e1
theorem Py{kvs:List (Bh×V)}{vs:List (Bh×Value)}(rel:KV kvs vs):kvs.map (·.1)=vs.map (·.1):=by
 unfold KV at rel;induction rel with
 |nil=>rfl|cons h t ih=>rw[UL,UL,ih,h.1]
end
section
variable{X:Cx}{ca:Nat->Addr}{a b e f o:Expr}{ma mb me mf mo:ME}{p pos apos:Pos}
theorem KRel.keys{K:Frag}{μ:List Addr}{H:Hp}{kv:List (Bh×V)}{ks:List (Bh×D)}(r:KRel K μ H kv ks):kv.map (·.1)=ks.map (·.1):=by
 unfold KRel at r;induction r with
 |nil=>rfl|cons h t ih=>rw[UL,UL,ih,h.1]
theorem IJ:∀{ks:List (Bh×D)}{is:List Int},YG ks=some is->ks.map (·.1)=is.map Sum.inl
 |[],_,h=>by cases h;rfl
 | (.inl i,_)::r,is,h=>by have h:(YG r).map (i :: ·)=some is:=h;obtain⟨js,h1,h2⟩:=TD.mp h;subst h2;rw[UL,UL,IJ h1]
theorem DV{x:Str}{id:String}{r:List V->Hp->VK->Prop}{h:D->D->G->Res D}(hc:∀pn Φ,CallR (Q5 X ca pn Φ) (.builtin id) r)(hm:X.mg x=none)(hv:bootBuiltins x=some (.builtin id))(hp:∀(Φ:XS) (σ:L2.St) (H:Hp) (μ:List Addr) (g:G) (y z:V) (d c:D) (Q:VK),GRep X.K ca μ H g->Den X.K μ H y d->Den X.K μ H z c->Post X.K ca Φ σ Q H μ (h d c g)->r [y,z] H Q)(he:QW ca X e me)(hf:QW ca X f mf)(hg:Gl X x)(hn:x ≠"__name__")(hdb:(x==("__debug__" : Str))=false)(hs:starEach [e,f] X.env=(false,eval e X.env)::starEach [f] X.env)(hs2:starEach [f] X.env=(false,eval f X.env)::starEach [] X.env)(hpl:(backTo pos (starEach [f] X.env)).any (·.1)=false):QW ca X (.Call (.Name x p) [e,f] [] pos) (Qd h me mf):=
 λpn Φ=>ZP (Ea (X:=Q5 X ca pn Φ) (hc pn Φ) hg hm hv (JV he (JV hf Qj hs2) hs pn Φ) hn hdb hs hpl) λσ H Q hQ=>by
  obtain⟨σ3,g,μ,R,q⟩:=hQ;refine⟨σ3,g,μ,R,?_⟩;unfold Qd at q;unfold Qc Ql;cases hm:me σ3 g with
  |raise _ _=>rw[hm]at q;exact q|stuck=>rw[hm]at q;exact q.elim|ok d g1=>
   rw[hm,Res.bind_ok]at q;rw[Res.bind_ok];cases hm2:mf σ3 g1 with
   |raise _ _=>rw[hm2]at q;exact q|stuck=>rw[hm2]at q;exact q.elim|ok c g2=>
    rw[hm2,Res.bind_ok]at q;rw[Res.bind_ok,Res.bind_ok,Res.bind_ok];intro vs H1 μ1 e1 r1 q1;cases q1 with
    |cons h1 h2=>cases h2 with
     |cons h2 h3 =>cases h3;exact hp Φ σ H1 μ1 g2 _ _ d c Q r1 h1 h2 (q.go e1)
theorem DW(hc:X.calm=true)(hm:X.mg "min"=none)(he:QW ca X e me)(hf:QW ca X f mf)(hg:Gl X "min":=by rfl)(hs:starEach [e,f] X.env=(false,eval e X.env)::starEach [f] X.env:=by rfl)(hs2:starEach [f] X.env=(false,eval f X.env)::starEach [] X.env:=by rfl)(hpl:(backTo pos (starEach [f] X.env)).any (·.1)=false:=by rfl):
  QW ca X (.Call (.Name "min" p) [e,f] [] pos) (Qd II me mf):=
 DV (λpn Φ=>SC (X:=Q5 X ca pn Φ) hc) hm boot_min (λΦ σ H μ g y z d c Q r q1 q2 pp=>by
  unfold II at pp;cases q1 with
  |int i=>
   cases q2 with
   |int j=>exact⟨i,j,rfl,pp _ H μ .refl r (.int _)⟩|_=>exact pp.elim
  |_=>cases q2<;>exact pp.elim) he hf hg (by decide) (by decide) hs hs2 hpl
theorem lM(hc:X.calm=true)(hm:X.mg "max"=none)(he:QW ca X e me)(hf:QW ca X f mf)(hg:Gl X "max":=by rfl)(hs:starEach [e,f] X.env=(false,eval e X.env)::starEach [f] X.env:=by rfl)(hs2:starEach [f] X.env=(false,eval f X.env)::starEach [] X.env:=by rfl)(hpl:(backTo pos (starEach [f] X.env)).any (·.1)=false:=by rfl):
  QW ca X (.Call (.Name "max" p) [e,f] [] pos) (Qd Px me mf):=
 DV (λpn Φ=>SB (X:=Q5 X ca pn Φ) hc) hm boot_max (λΦ σ H μ g y z d c Q r q1 q2 pp=>by
  unfold Px at pp;cases q1 with
  |int i=>
   cases q2 with
   |int j=>exact⟨i,j,rfl,pp _ H μ .refl r (.int _)⟩|_=>exact pp.elim
  |_=>cases q2<;>exact pp.elim) he hf hg (by decide) (by decide) hs hs2 hpl
theorem DX(ho:QW ca X o mo)(he:QW ca X e me)(hbase:attributeBase o "extend" X.env (eval o X.env)=eval o X.env:=by rfl)(hfew:((backTo pos (starEach [e] X.env)).all (λx=>!x.1)&&(backToKw pos (keywordEach [] X.env)).all (λx=>x.1.isSome)&&decide ([e].length+([]:List Keyword).length+(if ([]:List Keyword).isEmpty then 0 else 1)<30))=true:=by rfl)(hline:(apos.endLine==pos.line)=true:=by rfl)(hs:starEach [e] X.env=(false,eval e X.env)::starEach [] X.env:=by rfl)(hplain:(backTo pos (starEach [] X.env)).any (·.1)=false:=by rfl):
  QW ca X (.Call (.Attribute o "extend" apos) [e] [] pos) (Gi mo me):=
 λpn Φ=>ZP (O9 (X:=Q5 X ca pn Φ) Rv PySem.F.slot_list_extend PySem.F.type_list_extend N4 (ho pn Φ) (JV he Qj hs pn Φ) hbase hfew hline hs hplain) λσ H Q ⟨σ3,g,μ,R,q⟩=>Z0 (JT R q) λx H1 hQ=>by
  obtain⟨d,g1,μ1,e1,R1,q1,p1⟩:=hQ;cases q1 with
  |@ref n t hn=>
   dsimp only at p1;cases hgn:g1[n]? with
   |none=>rw[hgn]at p1;exact p1.elim|some ob=>
    rw[hgn]at p1;obtain⟨t',ht',orp⟩:=R1.g.addr hgn;rw[hn]at ht';cases ht';cases ob with
    |lst ds0=>
     obtain⟨vs0,hH0,_⟩:=orp;dsimp only at p1;refine⟨.inl ⟨rfl,_,.of hH0⟩,σ3,g1,μ1,R1,?_⟩;unfold Qc Ql;cases hm:me σ3 g1 with
     |raise _ _=>rw[hm]at p1;exact p1|stuck=>rw[hm]at p1;exact p1.elim|ok y g2=>
      rw[hm,Res.bind_ok]at p1;rw[Res.bind_ok,Res.bind_ok];intro vs H2 μ2 e2 r2 q2;cases q2 with
      |cons h1 h2=>
       cases h2;cases h1 with
       |@ref m c hmm=>
        dsimp only at p1;cases hg2:g2[n]? with
        |none=>rw[hg2]at p1;exact p1.elim|some ob2=>
         cases hg3:g2[m]? with
         |none=>rw[hg2,hg3]at p1;cases ob2<;>exact p1.elim|some ob3=>
          rw[hg2,hg3]at p1;obtain⟨t',ht',orp⟩:=r2.addr hg2;rw[e2.at hn]at ht';cases ht';obtain⟨c',hc',orp3⟩:=r2.addr hg3;rw[hmm]at hc';cases hc';cases ob2 with
          |lst ds=>
           cases ob3 with
           |lst es=>
            obtain⟨ws,hH,qs⟩:=orp;obtain⟨zs,hH3,qz⟩:=orp3;dsimp only at p1;by_cases z:n≠m/\ds.length+es.length<=SZ
            ·rw[Ub z]at p1;have ex:Ext X.K μ2 H2 μ2 (YD H2 t (.lst (ws++zs))):=XA hH (by intro _ z;cases z) (by intro _ _ z;cases z);refine .inl ⟨t,c,ws,zs,rfl,rfl,hH,hH3,by rw[qs.length,qz.length];exact Um z.2 JX,p1 _ _ μ2 (e2.trans ex) ?_ .non⟩;exact r2.set (e2.at hn) hH (by intro _ z;cases z) (by intro _ _ z;cases z) ⟨_,QN,(qs.mono ex).append (qz.mono ex)⟩
            ·rw[Ud z]at p1;exact p1.elim
           |_=>exact p1.elim
          |_=>cases ob3<;>exact p1.elim
       |@tup c zs es hc qz=>
        dsimp only at p1;cases hg2:g2[n]? with
        |none=>rw[hg2]at p1;exact p1.elim|some ob2=>
         rw[hg2]at p1;obtain⟨t',ht',orp⟩:=r2.addr hg2;rw[e2.at hn]at ht';cases ht';cases ob2 with
         |lst ds=>
          obtain⟨ws,hH,qs⟩:=orp;dsimp only at p1;by_cases z:ds.length+es.length<=SZ
          ·rw[Ub z]at p1;have ex:Ext X.K μ2 H2 μ2 (YD H2 t (.lst (ws++zs))):=XA hH (by intro _ z;cases z) (by intro _ _ z;cases z);refine .inr ⟨t,c,ws,zs,rfl,rfl,hH,hc,by rw[qs.length,qz.length];exact Um z JX,p1 _ _ μ2 (e2.trans ex) ?_ .non⟩;exact r2.set (e2.at hn) hH (by intro _ z;cases z) (by intro _ _ z;cases z) ⟨_,QN,(qs.mono ex).append (qz.mono ex)⟩
          ·rw[Ud z]at p1;exact p1.elim
         |_=>exact p1.elim
       |_=>exact p1.elim
    |_=>exact p1.elim
  |_=>exact p1.elim
end
end L3
namespace L3
open PySem
def Kr(x:D)(g:G):Res D:=match Ef g x with
 |some t=>.ok (.bl (Ee t .list||Ee t .tuple)) g|none=>.stuck
open PySem.Spec PyProof.Rows L2
section
variable{X:Cx}{ca:Nat->Addr}{e:Expr}{me:ME}{pos p p2 tp:Pos}{all cs:List Nat}
theorem VJ(K:Frag)(t:Ty):kitAny K (.type t.name) [.type "list",.type "tuple"]=some (Ee t .list||Ee t .tuple):=by
 unfold kitAny;rw[show Value.type "list"=.type Ty.list.name from rfl,XC];cases Ee t .list with
 |true=>rfl|false =>dsimp only;unfold kitAny;rw[show Value.type "tuple"=.type Ty.tuple.name from rfl,XC];cases Ee t .tuple<;>rfl
theorem eV{h:Heap}{a:Addr}{xs:Array Value}(p:IsTup h a xs):∃dd n sl,h.get? a=some ⟨.type "tuple",dd,.seq xs n,sl⟩:=by obtain⟨⟨cls,dd,data,sl⟩,h1,h2,n,h3⟩:=p;simp only at h2 h3;subst h2 h3;exact⟨dd,n,sl,h1⟩
theorem Oi:CallR X (.builtin "isinstance") (λxs H Q=>∃x q g μ d t,xs=[x,.ref q]/\SqT X.K H q [.ty "list",.ty "tuple"]/\GRep X.K ca μ H g/\Den X.K μ H x d/\Ef g d=some t/\Q (.bl (Ee t .list||Ee t .tuple)) H):=by
 intro pins s σ H xs us Q I rv h;obtain⟨x,q,g,μ,d,t,rfl,hq,r,qd,ht,qq⟩:=h;obtain⟨u,u2,rfl,ru,ru2⟩:=rv.two;cases ru2;obtain⟨its,r1,p1,_⟩:=I.tuple hq;obtain⟨w1,w2,rfl,a1,a2⟩:=r1.two;cases a1;cases a2;obtain⟨dd,n,sl,ho⟩:=eV p1;have fin:∀tk,EP X pins σ Q (.bool (Ee t .list||Ee t .tuple)) {s with toks:=tk}:=λtk=>⟨.bl _,H,I.tok tk,rfl,qq⟩;cases qd with
 |non=>cases ht;cases (show u=Value.none from ru);exact Tx kitx_none I.kIn True.intro ho (VJ X.K .non) (λz=>nomatch z) fin|bl y=>cases ht;cases (show u=Value.bool y from ru);exact Tx kitx_bool I.kIn True.intro ho (VJ X.K .bool) (λz=>nomatch z) fin|int y=>cases ht;obtain⟨t,q⟩:=(show ∃t,u=Value.int y t from ru);cases q;exact Tx kitx_int I.kIn True.intro ho (VJ X.K .int) (λz=>nomatch z) fin|str y=>cases ht;obtain⟨t,q⟩:=(show ∃t,u=Value.str y t from ru);cases q;exact Tx kitx_str I.kIn True.intro ho (VJ X.K .str) (λz=>nomatch z) fin|@tup a vs ds hq hs =>cases ht;cases ru;obtain⟨its,_,⟨o,h1,h2,_⟩,_⟩:=I.tuple hq;exact Tx Wc I.kIn ⟨o,h1,h2⟩ ho (VJ X.K .tuple) (λz=>nomatch z) fin|@fl a vs ds hq hs =>cases ht;cases ru;obtain⟨its,_,p,_⟩:=I.list hq.sq;obtain⟨o,h1,h2,_⟩:=p.isList;exact Tx T6 I.kIn ⟨o,h1,h2⟩ ho (VJ X.K .list) (λz=>nomatch z) fin|@ref n a hn=>
  unfold Ef at ht;dsimp only at ht;cases hg:g[n]? with
  |none=>rw[hg]at ht;cases ht|some o=>
   rw[hg]at ht;obtain⟨a',ha',ob⟩:=r.addr hg;rw[hn]at ha';cases ha';cases o with
   |lst ds =>cases ht;obtain⟨vs,hH,_⟩:=ob;cases ru;obtain⟨_,_,n,_,h1⟩:=(show ObjOk X.prog X.w H s.heap a (.lst vs) from I.hok a _ hH);exact Tx T6 I.kIn ⟨_,h1,rfl⟩ ho (VJ X.K .list) (λz=>nomatch z) fin|dct ks =>cases ht;obtain⟨kv,hH,_⟩:=ob;cases ru;obtain⟨_,_,vs,_,p⟩:=(show ObjOk X.prog X.w H s.heap a (.dK kv) from I.hok a _ hH);obtain⟨o,es,ep,h1,h2,_⟩:=p;exact Tx Wl I.kIn ⟨o,h1,h2.1⟩ ho (VJ X.K .dict) (λz=>nomatch z) fin|ins _ _=>cases ht|exc _=>cases ht|dfz _=>cases ht
theorem Pz{k:Nat}{p3:Pos}(hi:X.mg "isinstance"=none)(hl:X.mg "list"=none)(ht:X.mg "tuple"=none)(he:QW ca X e me)(hgi:Gl X "isinstance":=by rfl)(hgl:Gl X "list":=by rfl)(hgt:Gl X "tuple":=by rfl)(hs:starEach [e,.Tuple [.Name "list" p2,.Name "tuple" p3] k tp] X.env=(false,eval e X.env)::starEach [.Tuple [.Name "list" p2,.Name "tuple" p3] k tp] X.env:=by rfl)(hs2:starEach [.Tuple [.Name "list" p2,.Name "tuple" p3] k tp] X.env=(false,eval (.Tuple [.Name "list" p2,.Name "tuple" p3] k tp) X.env)::starEach [] X.env:=by rfl)(hs3:starEach [.Name "list" p2,.Name "tuple" p3] X.env=(false,eval (.Name "list" p2) X.env)::starEach [.Name "tuple" p3] X.env:=by rfl)(hs4:starEach [.Name "tuple" p3] X.env=(false,eval (.Name "tuple" p3) X.env)::starEach [] X.env:=by rfl)(hpl:(backTo pos (starEach [.Tuple [.Name "list" p2,.Name "tuple" p3] k tp] X.env)).any (·.1)=false:=by rfl):
  QW ca X (.Call (.Name "isinstance" p) [e,.Tuple [.Name "list" p2,.Name "tuple" p3] k tp] [] pos) (Qu Kr me):=λpn Φ=>ZP (Ea (X:=Q5 X ca pn Φ) (Oi (ca:=ca)) hgi hi boot_isinstance (Kn (X:=Q5 X ca pn Φ) (he pn Φ) (Kn (X:=Q5 X ca pn Φ) (De (X:=Q5 X ca pn Φ) (Kn (X:=Q5 X ca pn Φ) (Lb (X:=Q5 X ca pn Φ) (v:=.ty "list") hgl hl boot_list rfl (by decide) (by decide)) (Kn (X:=Q5 X ca pn Φ) (Lb (X:=Q5 X ca pn Φ) (v:=.ty "tuple") hgt ht boot_tuple rfl (by decide) (by decide)) Lc hs4) hs3)) Lc hs2) hs) (by decide) (by decide) hs hpl) λσ H Q ⟨σ3,g,μ,R,q⟩=>
  Z0 (JT R q) λy H1 hQ=>by
   obtain⟨d,g1,μ1,e1,R1,q1,p1⟩:=hQ;unfold Kr at p1;cases ht:Ef g1 d with
   |none=>rw[ht]at p1;exact p1.elim|some t =>rw[ht]at p1;exact⟨Um (by decide:2<=SZ) JX,λq hq=>⟨y,q,g1,μ1,d,t,rfl,.of QN,R1.g.new hq,q1.mono (ZD hq),ht,p1 _ _ μ1 (ZD hq) (R1.g.new hq) (.bl _)⟩⟩
end
end L3
namespace L3
open PySem
def FL(x:D)(g:G):Res D:=match x with
 |.ref n=>(match g[n]? with
  |some (.dct ks)=>.ok (.int ks.length) g|_=>.stuck)
 |_=>.stuck
def Et(e:ME):MI:=λσ g=>(e σ g).bind λx g1=>match x with
 |.ref n=>(match g1[n]? with
  |some (.dct ks)=>(match YG ks with
   |some is=>.ok ⟨λ_ i=>some (is.map D.int)[i]?,is.length⟩ (g1.set n (.dfz ks))|none=>.stuck)
  |_=>.stuck)
 |_=>.stuck
def GN(x y:D)(g:G):Res D:=match x,y with
 |.ref n,.int i=>(match g[n]? with
  |some (.dfz ks)=>(match Jm ks (.inl i) with
   |some v=>.ok v g|none=>.stuck)
  |_=>.stuck)
 |_,_=>.stuck
open PySem.Spec PyProof.Rows L2
section
variable{X:Cx}
theorem Aa:CallR X (.builtin "len") (λxs H Q=>∃p kvs,xs=[.ref p]/\H p=some (.dK kvs)/\Q (.int kvs.length) H):=by intro pins s σ H xs us Q I rv h;obtain⟨a,kvs,rfl,e,q⟩:=h;obtain⟨u,rfl,ru⟩:=rv.one;cases ru;obtain⟨z,hd,vs,rel,dd⟩:=IG I.hok e;have hs:sizeLine=16777216:=Ry;rw[rel.length]at q z;exact call_len_dict hd dd (by omega) ⟨.int _,H,I.tok _,⟨_,rfl⟩,q⟩
theorem eY:IxR X (λx y H Q=>∃a o kvs k v,x=.ref a/\y=kV k/\H a=some (.frz o (.dK kvs))/\E1 kvs k=some v/\Q v H):=by intro value slice pins s σ H x y v u Q I rx ry h hs;obtain⟨a,o,kvs,k,w,rfl,rfl,e,l,q⟩:=h;cases rx;obtain⟨z,hd,vs,rel,dd⟩:=iK I.hok (.inr ⟨o,e⟩);obtain⟨w',hw,rw'⟩:=RelO.some_of (v:=w) (o:=valueAt vs k) (by rw[<-l];exact rel.val k);exact tail_any dd.typeIs PySem.F.slot_dict_getitem.lookup (wpAny_getItem_of (Pu ry) dd.mapOf hw ⟨_,H,I.tok _,rw',q⟩) hs
def tT(a:Addr)(o:Obj)(kvs:List (Bh×V))(is:List Int):It:=⟨λi H=>H a=some (.frz o (.dK kvs))/\i<is.length,λi H x H'=>H'=H/\∃k,is[i]?=some k/\x=.int k,λi H=>H a=some (.frz o (.dK kvs))/\is.length<=i⟩
theorem DY{pins:Js}{σ:L2.St}{H:Hp}{s:Shared}{a:Addr}{o:Obj}{es:Array DictEntry}{ep:Nat}{kvs:List (Bh×V)}{is:List Int}(I:Inv X pins σ H s)(e:H a=some (.frz o (.dK kvs)))(hoe:o.data=.dict es ep)(hk:kvs.map (·.1)=is.map Sum.inl):∃vs,s.heap.DictAt (Jy X.prog X.w) a vs ep/\vs.map (·.1)=is.map Sum.inl/\vs.length=is.length:=by
 obtain⟨ho,z,hd,vs,rel,dd⟩:=(show ObjOk X.prog X.w H s.heap a (.frz o (.dK kvs)) from I.hok a _ e);obtain⟨o',es',ep',ho',r1,r2,r3⟩:=dd;rw[ho]at ho';cases ho';rw[hoe]at r2;cases r2;have hl:vs.map (·.1)=is.map Sum.inl:=by rw[<-Py rel,hk]
 exact⟨vs,⟨o,es,ho,r1,hoe,r3⟩,hl,by have:=TQ List.length hl;simpa using this⟩
theorem Ab{P:Program}{w:World}{K:Frag}{tg:Expr}(a it:Addr){o:Obj}{es:Array DictEntry}{ep:Nat}{kvs:List (Bh×V)}{is:List Int}(hoe:o.data=.dict es ep)(hk:kvs.map (·.1)=is.map Sum.inl):Turn P w K tg (tT a o kvs is) [it] it (λi h=>h.IsKeyIter it a i is.length ep) where
 mem:=by simp
 obj:=λi h st b hb=>by
  have e:b=it:=by simpa using hb
  subst e;obtain⟨o,e,c,d⟩:=st;exact⟨o,e,λv z=>by rw[d]at z;cases z⟩
 keep:=λi h h' st k=>by obtain⟨o,e,c⟩:=st;exact⟨o,k it (by simp) o e,c⟩
 item:=by
  intro X hP hw hK hc i pins s σ H E I hf st hg;subst hP hw hK;obtain⟨e,hi⟩:=hg;obtain⟨vs,da,hks,hl⟩:=DY I e hoe hk;obtain⟨f0,f1,f2,f3,f4,f5⟩:=hf it (by simp);have hx:vs[i]?=some (vs[i]'(by omega)):=by simp[hl,hi]
  rw[<-hl]at st;refine wpAny_pyNext_dict_item (k:=(vs[i]'(by omega)).1) (v:=(vs[i]'(by omega)).2) st da hx λkey h' hkey st' sb=>?_;have I1:Inv X pins σ H {s with heap:=h'}:=I.turned (t':=s.toks) (λb o hb e=>(sb.2 b hb).trans e) f0 f1 f3 f4 f5;have h1:(vs.map (·.1))[i]?=some (vs[i]'(by omega)).1:=by rw[Uy,hx];rfl
  rw[hks,Uy,Uk hi]at h1;have h1:Sum.inl is[i]=(vs[i]'(by omega)).1:=Option.some.inj h1;rw[<-h1]at hkey;rw[hl]at st';obtain⟨ob,e',c,d⟩:=id st';exact⟨key,rfl,Me (s:={s with heap:=h'}) e' c d (by decide) ⟨.int is[i],H,I1,eU hkey,⟨rfl,is[i],by simp[hi],rfl⟩,st',λb hb=>(hf b hb).1⟩⟩
 done:=by intro X hP hw hK hc i pins s σ H E I hf st hg;subst hP hw hK;obtain⟨e,hi⟩:=hg;obtain⟨vs,da,hks,hl⟩:=DY I e hoe hk;obtain⟨f0,f1,f2,f3,f4,f5⟩:=hf it (by simp);rw[<-hl]at st;exact wpAny_pyNext_dict_end (I.ok.hd hc) st da (by simp;omega) λh' eb=>⟨rfl,I.turned (t':=s.toks) (λb o hb e=>eb b o hb e) f0 f1 f3 f4 f5⟩
 self:=λ_ _ _ _ _ st h=>wpAny_pyIter_keyiter st h
theorem lN{pins:Js}{σ:L2.St}{H:Hp}{s:Shared}{a:Addr}{o:Obj}{kvs:List (Bh×V)}(I:Inv X pins σ H s)(e:H a=some (.dK kvs))(ho:s.heap.get? a=some o):Inv X pins σ (YD H a (.frz o (.dK kvs))) s:=by obtain⟨z,hd,vs,rel,dd⟩:=IG I.hok e;exact I.write (x:=a) (e:=a) (h':=s.heap) (t':=s.toks) (o:=.frz o (.dK kvs)) (by rw[e];trivial) (.inl rfl) (λ_ _ _ h=>h) ⟨o,ho⟩ ⟨ho,z,hd,vs,rel,dd⟩
theorem eZ{tg l:Expr}{tl:TE}(hl:PE X l tl):PI X tg l (λσ H R=>tl σ H λx H1=>∃a kvs is,x=.ref a/\H1 a=some (.dK kvs)/\kvs.map (·.1)=is.map Sum.inl/\∀o,R (tT a o kvs is) (YD H1 a (.frz o (.dK kvs)))):=by
 intro pins s σ H R I h;refine YR (hl pins s σ H _ I h) λv s1 ⟨x,H1,I1,r1,q1⟩=>?_;obtain⟨a,kvs,is,rfl,e,hk,q⟩:=q1;cases r1;obtain⟨z,hd,vs,rel,dd⟩:=IG I1.hok e;obtain⟨o,es,ep,ho,r1,r2,r3⟩:=id dd;have I2:=lN I1 e ho;have hlen:vs.length=is.length:=by have:=TQ List.length ((Py rel).symm.trans hk);simpa using this
 refine wpAny_pyIter_dict hd (⟨o,es,ho,r1,r2,r3⟩:s1.heap.DictAt (Jy X.prog X.w) a vs ep) ?_;refine⟨s1.heap.objs.size,[s1.heap.objs.size],_,_,_,rfl,I2.kept (t':=s1.toks) λb o e=>Ug _ e,Ab a _ r2 hk,⟨_,UA _ rfl,rfl,by rw[hlen];rfl⟩,λb hb=>?_,q o⟩;have e:b=s1.heap.objs.size:=by simpa using hb
 subst e;exact I2.fpOk (Ui _) (I2.hok.fresh (Ui _))
end
section
variable{X:Cx}{ca:Nat->Addr}{a b e tg:Expr}{ma mb me:ME}{p pos:Pos}
theorem DZ(hm:X.mg "len"=none)(he:QW ca X e me)(hg:Gl X "len":=by rfl)(hs:starEach [e] X.env=[(false,eval e X.env)]:=by rfl)(hpl:(backTo pos (starEach [] X.env)).any (·.1)=false:=by rfl):
  QW ca X (.Call (.Name "len" p) [e] [] pos) (Qu FL me):=
 Pm (r:=λxs H Q=>∃p kvs,xs=[V.ref p]/\H p=some (.dK kvs)/\Q (V.int (kvs.length:Int)) H) (λ_ _=>Aa) hm boot_len (λΦ σ H μ g y d Q r q pp=>by
  unfold FL at pp;cases q with
  |@ref n t hn=>
   dsimp only at pp;cases hgn:g[n]? with
   |none=>rw[hgn]at pp;exact pp.elim|some ob=>
    rw[hgn]at pp;obtain⟨t',ht',orp⟩:=r.addr hgn;rw[hn]at ht';cases ht';cases ob with
    |dct ks=>
     obtain⟨kv,hH,q⟩:=orp;have hl:kv.length=ks.length:=by have:=TQ List.length q.keys;simpa using this
     exact⟨t,kv,rfl,hH,pp _ H μ .refl r (by rw[hl];exact .int _)⟩
    |_=>exact pp.elim
  |_=>exact pp.elim) he hg (by decide) (by decide) hs hpl
theorem Ac{K:Frag}:Jk K ca (λx y H Q=>∃a o kvs k v,x=.ref a/\y=kV k/\H a=some (.frz o (.dK kvs))/\E1 kvs k=some v/\Q v H) GN:=by
 intro Φ σ H μ g x y dx dy Q r qx qy p;unfold GN at p;cases qx with
 |@ref n t hn=>
  cases qy with
  |int i=>
   dsimp only at p;cases hg:g[n]? with
   |none=>rw[hg]at p;exact p.elim|some ob=>
    rw[hg]at p;obtain⟨t',ht',orp⟩:=r.addr hg;rw[hn]at ht';cases ht';cases ob with
    |dfz ks=>
     obtain⟨o,kv,hH,q⟩:=orp;dsimp only at p;rcases q.get (.inl i) with⟨a,b⟩|⟨v,d,a,b,c⟩
     ·rw[b]at p;exact p.elim
     ·rw[b]at p;exact⟨t,o,kv,.inl i,v,rfl,rfl,hH,a,p v H μ .refl r c⟩
    |_=>exact p.elim
  |_=>exact p.elim
 |_=>cases qy<;>exact p.elim
theorem lO(ha:QW ca X a ma)(hb:QW ca X b mb)(hs:Ge b:=by exact λ_ _=>rfl):QW ca X (.Subscript a b pos) (Qd GN ma mb):=oK (λ_ _=>eY) Ac ha hb hs
theorem D0{K:Frag}{μ:List Addr}{H:Hp}{a:Addr}{o:Obj}{kvs:List (Bh×V)}{is:List Int}(h:H a=some (.frz o (.dK kvs))):Dt K ca μ H ⟨λ_ i=>some (is.map D.int)[i]?,is.length⟩ (tT a o kvs is):=by
 intro i H1 μ1 g1 e r;dsimp only;have h1:=e.frz _ _ _ h;by_cases hi:i<is.length
 ·rw[Uy,Uk hi];exact⟨⟨h1,hi⟩,λx H' y=>by obtain⟨rfl,k,y1,rfl⟩:=y;rw[Uk hi]at y1;cases y1;exact⟨.refl,r,.int _⟩⟩
 ·rw[Uy,Ta (TX hi)];exact⟨h1,TX hi⟩
theorem D1(he:QW ca X e me):dS ca X tg e (Et me):=
 λpn Φ=>Ej (eZ (X:=Q5 X ca pn Φ) (he pn Φ)) λσ H R hQ=>by
  obtain⟨σ3,g,μ,Rp,p⟩:=hQ;unfold Et at p;refine⟨σ3,g,μ,Rp,?_⟩;cases hm:me σ3 g with
  |raise _ _=>rw[hm]at p;exact p|stuck=>rw[hm]at p;exact p.elim|ok d g1=>
   rw[hm,Res.bind_ok]at p;intro v H1 μ1 e1 r1 q1;cases q1 with
   |@ref n a hn=>
    dsimp only at p;cases hg:g1[n]? with
    |none=>rw[hg]at p;exact p.elim|some ob=>
     rw[hg]at p;obtain⟨a',ha',orp⟩:=r1.addr hg;rw[hn]at ha';cases ha';cases ob with
     |dct ks=>
      obtain⟨kv,hH,q⟩:=orp;dsimp only at p;cases hk:YG ks with
      |none=>rw[hk]at p;exact p.elim|some is =>rw[hk]at p;have ex:∀o,Ext X.K μ1 H1 μ1 (YD H1 a (.frz o (.dK kv))):=λo=>XA hH (λ_ z=>nomatch z) (λ_ _ z=>nomatch z);exact⟨a,kv,is,rfl,hH,q.keys.trans (IJ hk),λo=>p _ _ μ1 (e1.trans (ex o)) (r1.set hn hH (λ_ z=>nomatch z) (λ_ _ z=>nomatch z) ⟨o,kv,QN,q.mono (ex o)⟩) (D0 QN)⟩
     |_=>exact p.elim
   |_=>exact p.elim
end
end L3
namespace L3
open PySem
def fA(x y:D)(g:G):Res D:=match x,y with
 |.bl a,.bl b=>.ok (.bl (a==b)) g|_,_=>.stuck
def MM(x y:D)(g:G):Res D:=match x,y with
 |.bl a,.bl b=>.ok (.bl (a != b)) g|_,_=>.stuck
open PySem.Spec PyProof.Rows L2
section
variable{X:Cx}{ca:Nat->Addr}{a b:Expr}{ma mb:ME}{pos:Pos}
theorem lP:OpR X (compareOp .Is) (λx y H Q=>∃a b,x=.bl a/\y=.bl b/\Q (.bl (a==b)) H):=by intro pins s σ H x y v u Q I rx ry h;obtain⟨a,b,rfl,rfl,q⟩:=h;cases rx;cases ry;exact is_bool ⟨.bl (a==b),H,I,rfl,q⟩
theorem D2{K:Frag}:Jk K ca (λx y H Q=>∃a b,x=.bl a/\y=.bl b/\Q (.bl (a==b)) H) fA:=by
 intro Φ σ H μ g x y dx dy Q r qx qy p;unfold fA at p;cases qx with
 |bl a=>cases qy with
  |bl b=>exact⟨a,b,rfl,rfl,p _ H μ .refl r (.bl _)⟩|_=>exact p.elim
 |_=>exact p.elim
theorem oW(ha:QW ca X a ma)(hb:QW ca X b mb):QW ca X (.Compare a [.Is] [b] pos) (Qd fA ma mb):=Gu (λ_ _=>lP) D2 ha hb (Xm b)
theorem fB:OpR X (compareOp .IsNot) (λx y H Q=>∃a b,x=.bl a/\y=.bl b/\Q (.bl (a != b)) H):=by intro pins s σ H x y v u Q I rx ry h;obtain⟨a,b,rfl,rfl,q⟩:=h;cases rx;cases ry;exact isnot_bool ⟨.bl (a != b),H,I,rfl,q⟩
theorem Ad{K:Frag}:Jk K ca (λx y H Q=>∃a b,x=.bl a/\y=.bl b/\Q (.bl (a != b)) H) MM:=by
 intro Φ σ H μ g x y dx dy Q r qx qy p;unfold MM at p;cases qx with
 |bl a=>cases qy with
  |bl b=>exact⟨a,b,rfl,rfl,p _ H μ .refl r (.bl _)⟩|_=>exact p.elim
 |_=>exact p.elim
theorem PB(ha:QW ca X a ma)(hb:QW ca X b mb):Gg ca X (.Compare a [.IsNot] [b] pos) (Qn (Qd MM ma mb)):=XB (λ_ _=>fB) Ad ha hb (Xm b)
end
end L3
namespace L3
open PySem
def fE(g:G)(x:D):List D->Option Bool
 |[]=>some false|d::r=>(match Xz g 7 d x,fE g x r with
  |some a,some b=>some (a||b)|_,_=>none)
def Ae(x y:D)(g:G):Res D:=match QF g y with
 |some (_,ds)=>if fE g x ds=some true then .ok (.bl true) g else .stuck
 |none=>.stuck
open PySem.Spec PyProof.Rows L2
section
variable{X:Cx}{pins:Js}{σ:L2.St}{H:Hp}{s:Shared}{μ:List Addr}{g:G}{ca:Nat->Addr}
theorem D3(I:Inv X pins σ H s)(r:GRep X.K ca μ H g)(hu:X.A.units+16<cLine){x:V}{t:Value}{d:D}(qx:Den X.K μ H x d)(rx:RelV x t):∀{vs:List V}{ds:List D}{us:List Value}{b:Bool},Dens X.K μ H vs ds->Vals vs us->fE g d ds=some b->(∀u∈us,SeqAt.EqAt X.A.in1 s u t true\/SeqAt.EqAt X.A.in1 s u t false)/\(b=true->∃u∈us,SeqAt.EqAt X.A.in1 s u t true)
 |_,_,_,_,.nil,.nil,h=>⟨λu hu=>(by cases hu),λz=>(by cases h;cases z)⟩|_,_,_,b,.cons (ds:=ds) (d:=e) q qs,.cons rv rvs,h=>by
  unfold fE at h;cases h1:Xz g 7 e d with
  |none=>rw[h1]at h;cases h|some a=>
   cases h2:fE g d ds with
   |none=>rw[h1,h2]at h;cases h|some c=>
    rw[h1,h2]at h;cases h;obtain⟨i1,i2⟩:=D3 I r hu qx rx qs rvs h2;have e1:=GA I r 7 (A:=X.A.in1) (by show X.A.units+1+7<cLine;omega) q qx rv rx h1;refine⟨λu hu'=>?_,λz=>?_⟩
    ·rcases UE.mp hu' with rfl|w
     ·cases a
      ·exact .inr e1
      ·exact .inl e1
     ·exact i1 u w
    ·cases a with
     |true=>exact⟨_,UB,e1⟩|false=>obtain⟨u,w,z⟩:=i2 z;exact⟨u,Uv _ w,z⟩
end
def oX(K:Frag)(ca:Nat->Addr):R2:=λx y H Q=>∃(μ:List Addr)(g:G)(d:D)(p:Addr)(xs:List V)(ds:List D),GRep K ca μ H g/\Den K μ H x d/\y=.ref p/\(SqL K H p xs\/SqT K H p xs)/\Dens K μ H xs ds/\fE g d ds=some true/\Q (.bl true) H
section
variable{X:Cx}{ca:Nat->Addr}{a b:Expr}{ma mb:ME}{pos:Pos}{k:Nat}
theorem lQ(hu:X.A.units+16<cLine):OpR X (compareOp .In) (oX X.K ca):=by
 intro pins s σ H x y v u Q I rx ry h;obtain⟨μ,g,d,p,xs,ds,r,qx,rfl,hq,qs,hi,q⟩:=h;cases ry
 classical
 have go:∀its:List Value,Vals xs its->(∀y,y∈its.toArray->SeqAt.EqAt X.A.in1 s y v (decide (SeqAt.EqAt X.A.in1 s y v true)))/\its.toArray.any (λy=>decide (SeqAt.EqAt X.A.in1 s y v true))=true:=λits rv=>by
  obtain⟨i1,i2⟩:=D3 I r hu qx rx qs rv hi;refine⟨λy hy=>?_,?_⟩
  ·by_cases z:SeqAt.EqAt X.A.in1 s y v true
   ·rw[Uo z];exact z
   ·rw[Ul z];exact(i1 y (by simpa using hy)).resolve_left z
  ·obtain⟨w,hw,z⟩:=i2 rfl;rw[show its.toArray.any (λy=>decide (SeqAt.EqAt X.A.in1 s y v true))=its.any (λy=>decide (SeqAt.EqAt X.A.in1 s y v true)) by simp];exact List.any_eq_true.mpr ⟨w,hw,Uo z⟩
 rcases hq with hq|hq
 ·obtain⟨its,rv,pl,_⟩:=I.list hq;obtain⟨g1,g2⟩:=go its rv;refine SeqAt.in_listAt _ pl.isList g1 ⟨.bl _,H,I,rfl,?_⟩;rw[g2];exact q
 ·obtain⟨its,rv,pl,_⟩:=I.tuple hq;obtain⟨g1,g2⟩:=go its rv;refine SeqAt.in_tupleAt _ pl g1 ⟨.bl _,H,I,rfl,?_⟩;rw[g2];exact q
theorem D4{K:Frag}:Jk K ca (oX K ca) Ae:=by
 intro Φ σ H μ g x y dx dy Q r qx qy p;unfold Ae at p;cases hs:QF g dy with
 |none=>rw[hs]at p;exact p.elim|some pr=>
  obtain⟨bb,ds⟩:=pr;rw[hs]at p;dsimp only at p;by_cases z:fE g dx ds=some true
  ·rw[Ub z]at p;obtain⟨a,vs,rfl,sq,qs⟩:=Vq r qy hs;refine⟨μ,g,dx,a,vs,ds,r,qx,rfl,?_,qs,z,p _ H μ .refl r (.bl _)⟩;cases bb
   ·exact .inr sq
   ·exact .inl sq
  ·rw[Ud z]at p;exact p.elim
theorem oY(hr:Room k X.A)(ha:QW ca X a ma)(hb:QW ca X b mb)(hm:behindInMarks .In b=false:=by rfl):QW ca X (.Compare a [.In] [b] pos) (Qd Ae ma mb):=Gu (λpn Φ=>lQ (X:=Q5 X ca pn Φ) (eB hr)) D4 ha hb hm
end
end L3
namespace L3
open PySem
def Oj:MS:=(QU (Jt (Qu (Bn .int) (Qa 0)) (oH (Qu (Bn .bool) (Qa 0)))))
def Vr:MF:=Q6 1 0 Oj
def Ol:MS:=(QU (Jt (Qs Vr (Qc (Qa 0) Ql)) (ET mS FV (mI 0) (Qa 0) (Qa 1))))
def ZQ:MF:=Q6 2 0 Ol
def Om:MS:=(Qq (Ye (Qn (Qd Do (Qa 0) (Qp .non))) (QU (Qp (.bl true))) QI)
 (Qq (Ye (Ko (Yq (Qn (Qu (Bn .tuple) (Qa 0)))) (Qn (Qd Ci (Qu Zg (Qa 0)) (mI 3)))) (QU (Qp (.bl false))) QI)
 (QU (Jt (Qs ZQ (Qc (Qd Qv (Qa 0) (mI 0)) (Qc (Qa 2) Ql))) (Jt (Qd (IC false) (Qd Qv (Qa 0) (mI 1)) (QA QO (Qc (Qp (.str "l")) (Qc (Qp (.str "r")) Ql)))) (Qs ZQ (Qc (Qd Qv (Qa 0) (mI 2)) (Qc (Qa 1) Ql))))))))
def Xq:MF:=Q6 3 0 Om
def Yh:MS:=(Qq (Ye (Qn (Qd Ci (Qu Zg (Qa 3)) (Qa 2))) (Zy 1 (Qc (Qp (.str "each state has one entry for each sign")) Ql)) QI)
 (Ye (Yq (Qn (Qu Eg (ZK (QQ (Qa 3)) 1 [1,2] (Qm 0) ZV (Qs Xq (Qc (Qa 0) (Qc (Qa 1) (Qc (Qa 2) Ql)))))))) (Zy 1 (Qc (Qp (.str "an entry is None or a tuple of a sign, a way and a state of the machine")) Ql)) QI))
def Jb:MS:=(Qq (Ye (Qn (Qd Z8 (Qu Zg (Qa 0)) (mI 0))) (Zy 1 (Qc (Qp (.str "a machine has at least one state")) Ql)) QI)
 (Qq (Qy (Qm 1) (Qu Zg (Qa 0)))
 (Qq (Qy (Qm 2) (Qu Zg (Qd Qv (Qa 0) (mI 0))))
 (Qq (Ye (Qn (Qd Z8 (Qa 2) (mI 0))) (Zy 1 (Qc (Qp (.str "a machine has at least one sign")) Ql)) QI)
 (YF (QQ (Qa 0)) (Qm 3) Yh)))))
def Jc:MF:=Q6 1 3 Jb
def Bx:MS:=(Qq (Qy (Qm 2) (Qu Zw (ZK (QQ (Qa 1)) 1 [] (Qm 0) ZV (Qu Zw (Qa 0)))))
 (Qq (Zf (Qs Jc (Qc (Qa 2) Ql)))
 (ZC [11,12] "table" (Qa 0) (Qa 2))))
def Yb:MF:=Q6 2 1 Bx
def GP:MS:=(Qq (ZO (Qa 1) (mI 0) (Qd QC (Qd Qv (Qa 1) (mI 0)) (mI 1)))
 (Qq (Qy (Qm 2) (mI 0))
 (Qq (Ye (Qn (Qd Lj (Qu Zg (Qa 0)) (mI 0))) (Qy (Qm 2) (Qd Qv (Qa 0) (Qd Yg (Qd Qv (Qa 1) (mI 0)) (Qu Zg (Qa 0))))) QI)
 (Qq (Qy (Qm 3) (Qd Yg (Qd JG (Qd QC (Qd QC (Qd Yg (Qa 2) (mI 2147483647)) (Qd JG (Qd JG (Qd Qv (Qa 1) (mI 0)) (Qd Qv (Qa 1) (mI 0))) (mI 7919))) (mI 11)) (mI 48271)) (mI 2147483647)))
 (QU (Qd Yg (Qd JG (Qa 3) (Qa 3)) (mI 1999999973)))))))
def J5:MF:=Q6 2 2 GP
def YI:MS:=(Qq (Qy (Qm 8) (Qs J5 (Qc (Qa 0) (Qc (Qa 1) Ql))))
 (Qq (Qy (Qm 9) (QA QO (Qc (Qd Yg (Qd Yw (Qa 8) (mI 9)) (Qa 3)) (Qc (Qd Qv (Qp (.str "lr")) (Qd Yg (Qd Yw (Qa 8) (mI 100)) (mI 2))) (Qc (Qd Yg (Qd Yw (Qa 8) (mI 300)) (Qa 2)) Ql)))))
 (Qq (Ye (Qn (Qd Z8 (Qd Yg (Qa 8) (mI 9)) (mI 0))) (Qy (Qm 9) (Qp .non)) QI)
 (Zf (ZT (Qa 6) (Qa 9))))))
def X5:MS:=(Qq (Qy (Qm 6) (QA JS Ql))
 (Qq (YF (QJ (Qa 3)) (Qm 7) YI)
 (Zf (ZT (Qa 4) (Qa 6)))))
def E2:MS:=(Qq (Qy (Qm 4) (QA JS Ql))
 (Qq (YF (QJ (Qa 2)) (Qm 5) X5)
 (QU (Qa 4))))
def E3:MF:=Q6 4 6 E2
def Y0:MS:=(Qq (ZO (Qd Qv (Qa 9) (mI 1)) (Qd QC (mI 2) (Qa 10)) (QA QO (Qc (Qd QC (Qa 5) (Qa 10)) (Qc (Qp (.str "r")) (Qc (mI 1) Ql)))))
 (Qq (ZO (Qd Qv (Qa 9) (mI 2)) (Qd QC (mI 2) (Qa 10)) (QA QO (Qc (Qd QC (mI 2) (Qa 10)) (Qc (Qp (.str "l")) (Qc (mI 2) Ql)))))
 (ZO (Qd Qv (Qa 9) (mI 2)) (Qd QC (Qa 5) (Qa 10)) (QA QO (Qc (Qd QC (mI 2) (Qa 10)) (Qc (Qp (.str "l")) (Qc (mI 2) Ql)))))))
def Y1:MS:=(Qq (Qy (Qm 11) (QA QO (Qc (Qd QC (mI 2) (Qd Qv (Qa 7) (Qa 10))) (Qc (Qp (.str "r")) (Qc (Qd QC (mI 3) (Qa 10)) Ql)))))
 (Qq (Ye (Qn (Qd Z8 (Qd QC (Qa 10) (mI 1)) (Qa 3))) (Qy (Qm 11) (QA QO (Qc (Qd QC (mI 2) (Qd Qv (Qa 7) (Qa 10))) (Qc (Qp (.str "l")) (Qc (mI 2) Ql))))) QI)
 (ZO (Qd Qv (Qa 9) (Qd Qv (QA JS (Qc (mI 1) (Qc (Qd QC (mI 2) (Qa 10)) Ql))) (Qu Ll (Qd Lj (Qa 10) (mI 0))))) (mI 0) (Qa 11))))
def By:MS:=(Qq (Qy (Qm 2) (Qs J5 (Qc (Qa 0) (Qc (Qa 1) Ql))))
 (Qq (Qy (Qm 3) (Qd QC (mI 1) (Qd Yg (Qa 2) (mI 4))))
 (Qq (Qy (Qm 4) (Qd QC (mI 1) (Qd Yg (Qd Yw (Qa 2) (mI 4)) (Qd II (mI 3) (Qa 3)))))
 (Qq (Qy (Qm 5) (Qd QC (mI 2) (Qd JG (Qa 4) (Qd Yg (Qd Yw (Qa 2) (mI 16)) (mI 2)))))
 (Qq (Qy (Qm 6) (Qs J5 (Qc (Qa 0) (Qc (Qa 1) Ql))))
 (Qq (Qy (Qm 7) (ZK (QJ (Qa 3)) 1 [4,6] (Qm 0) ZV (Qd Yg (Qd Yw (Qa 2) (Qd QC (Qd JG (Qd JG (mI 7) (Qa 0)) (Qa 0)) (mI 1))) (Qa 1))))
 (Qq (Qy (Qm 8) (Qd QC (Qd QC (Qa 5) (Qa 4)) (Qd JG (Qu Ll (Qd FV (Qd QC (Qa 5) (Qa 4)) (mI 8))) (Qd Yg (Qd Yw (Qa 2) (mI 32)) (mI 2)))))
 (Qq (Qy (Qm 9) (Qs E3 (Qc (Qa 0) (Qc (Qa 1) (Qc (Qd QC (Qd QC (mI 2) (Qa 3)) (Qd Yg (Qd Yw (Qa 2) (mI 64)) (mI 3))) (Qc (Qa 8) Ql))))))
 (Qq (ZO (Qd Qv (Qa 9) (mI 0)) (mI 0) (QA QO (Qc (mI 1) (Qc (Qp (.str "r")) (Qc (mI 1) Ql)))))
 (Qq (ZO (Qd Qv (Qa 9) (mI 2)) (mI 1) (QA QO (Qc (mI 1) (Qc (Qp (.str "r")) (Qc (mI 1) Ql)))))
 (Qq (YF (QJ (Qa 4)) (Qm 10) Y0)
 (Qq (YF (QJ (Qa 3)) (Qm 10) Y1)
 (Qq (Qy (Qm 12) (ZK (QJ (Qd XJ (Qd JG (mI 2) (Qa 3)) (mI 1))) 1 [] (Qm 0) ZV (QA QO (Qc (Qp (.str "step")) Ql))))
 (Qq (Qy (Qm 13) (Qd QC (Qd QC (QA JS (Qc (QA QO (Qc (Qp (.str "over")) Ql)) Ql)) (Qa 12)) (QA JS (Qc (QA QO (Qc (Qp (.str "over")) Ql)) (Qc (QA QO (Qc (Qp (.str "step")) Ql)) (Qc (QA QO (Qc (Qp (.str "draw")) (Qc (Qp (.str "r")) (Qc (Qa 3) Ql)))) Ql))))))
 (QU (QA QO (Qc (Qa 9) (Qc (Qu Zw (ZK (QQ (Qa 7)) 1 [] (Qm 0) ZV (Qd QC (mI 2) (Qa 0)))) (Qc (Qa 13) Ql)))))))))))))))))))
def Bz:MF:=Q6 2 12 By
def D5:MS:=(Qq (Qy (Qm 2) (Qd Qv (Qd Qv (Qa 0) (Qd Qv (Qa 1) (mI 0))) (Bw (Qd Qv (Qa 1) (mI 2)) (Qd Qv (Qa 1) (mI 1)) (mI 0))))
 (Qq (Ye (Qn (Qd Do (Qa 2) (Qp .non))) (QU (Qp (.bl false))) QI)
 (Qq (GM (Qd Qv (Qa 1) (mI 2)) (Qd Qv (Qa 1) (mI 1)) (Qd Qv (Qa 2) (mI 0)))
 (Qq (Ye (Qn (Qd Z8 (Qd Qv (Qa 2) (mI 0)) (mI 0))) (Zf (ML (Qd Qv (Qa 1) (mI 2)) (Qd Qv (Qa 1) (mI 1)))) QI)
 (Qq (ZO (Qa 1) (mI 0) (Qd Qv (Qa 2) (mI 2)))
 (Qq (ZO (Qa 1) (mI 1) (Qd QC (Qd Qv (Qa 1) (mI 1)) (Qd Qv (QA JS (Qc (Qu X4 (mI 1)) (Qc (mI 1) Ql))) (Qu Ll (Qd Z8 (Qd Qv (Qa 2) (mI 1)) (Qp (.str "r")))))))
 (QU (Qp (.bl true)))))))))
def GQ:MF:=Q6 2 1 D5
def CB:MS:=(Qq (Qy (Ju [(Qm 2),(Qm 3),(Qm 4),(Qm 5)]) (Qa 0))
 (Qq (Ye (Qn (Qd Z8 (Qd Yg (Qa 1) (mI 2)) (mI 0))) (Qy (Qm 5) (Qu Zw (Qa 5))) QI)
 (Qq (Ye (Qn (Qd Z8 (Qd Yg (Qd Yw (Qa 1) (mI 2)) (mI 2)) (mI 0))) (Qy (Qm 4) (QA QO (Qc (Qd Qv (Qa 4) (mI 0)) (Qc (Qd Qv (Qa 4) (mI 1)) (Qc (Qu KO (Qd Qv (Qa 4) (mI 2))) (Qc (Qu KO (Qd Qv (Qa 4) (mI 3))) Ql)))))) QI)
 (QU (QA QO (Qc (Qa 2) (Qc (Qa 3) (Qc (Qa 4) (Qc (Qa 5) Ql)))))))))
def CC:MF:=Q6 2 4 CB
def YJ:MS:=(Qq (Ye (Qn (Qd Z8 (Qd Qv (Qa 4) (mI 0)) (Qp (.str "step")))) (Qy (Qm 3) (Qd QC (Qa 3) (mI 1))) QI)
 (Ye (Qn (Qd Z8 (Qd Qv (Qa 4) (mI 0)) (Qp (.str "over")))) (Qy (Qm 3) (Qd QC (Qa 3) (Qd JG (Qa 1) (Qa 2)))) QI))
def XW:MS:=(Qq (Qy (Qm 3) (mI 0))
 (Qq (YF (QQ (Qa 0)) (Qm 4) YJ)
 (QU (Qa 3))))
def ZI:MF:=Q6 3 2 XW
def X6:MS:=(Qy (Qm 4) (Qd QC (Qa 4) (Qs ZI (Qc (Qa 0) (Qc (Qa 2) (Qc (Qa 5) Ql))))))
def E4:MS:=(Qq (Qy (Qm 4) (mI 1))
 (Qq (YF (QJ (Qa 3)) (Qm 5) X6)
 (QU (Qd QC (Qa 4) (Qs ZI (Qc (Qa 1) (Qc (Qa 2) (Qc (Qa 3) Ql))))))))
def E5:MF:=Q6 4 2 E4
def Jn:MS:=(Qq (Ye (Qn (Qd Z8 (Qd Qv (Qa 0) (mI 1)) (Qp (.str "r")))) (QU (QA QO (Qc (Qd Qv (Qa 0) (mI 0)) (Qc (Qp (.str "r")) (Qc (Qd Qv (Qa 0) (mI 2)) (Qc (Qd QC (Qa 1) (Q7 (Qd Qv (Qa 0) (mI 3)) (Zv (mI 1)) QV)) Ql)))))) QI)
 (QU (QA QO (Qc (Qd Qv (Qa 0) (mI 0)) (Qc (Qp (.str "l")) (Qc (Qd QC (Q7 (Qd Qv (Qa 0) (mI 2)) QV (Zv (Qu X4 (mI 1)))) (Qa 1)) (Qc (Qd Qv (Qa 0) (mI 3)) Ql)))))))
def ZG:MF:=Q6 2 0 Jn
def VZ:MS:=(Qq (Qy (Qm 1) (Xn (Qn (Qd Z8 (Qd Qv (Qa 0) (mI 1)) (Qp (.str "r")))) (Q7 (Qd Qv (Qa 0) (mI 3)) QV (Zv (mI 1))) (Q7 (Qd Qv (Qa 0) (mI 2)) (Zv (Qu X4 (mI 1))) QV)))
 (QU (Xn (Qn (Qd Lj (Qu Zg (Qa 1)) (mI 0))) (Qd Qv (Qa 1) (mI 0)) (Qp .non))))
def YS:MF:=Q6 1 1 VZ
def Ks:MS:=(Qq (Qy (Qm 1) (Qs YS (Qc (Qa 0) Ql)))
 (Qq (Ye (Ko (Qn (Qd Do (Qa 1) (Qp .non))) (Qn (Qd Ci (Qd Qv (Qa 1) (mI 0)) (Qp (.str "many"))))) (Zy 8 (Qc (Qp (.str "the next token is no many")) Ql)) QI)
 (QU (Qa 1))))
def Jd:MF:=Q6 1 1 Ks
def Af:MS:=(QU (Qu Zw (ZK (QQ (Qa 0)) 1 [] (Qm 0) ZV (QA QO (Qc (Qp (.str "one")) (Qc (Qa 0) Ql))))))
def B3:MF:=Q6 1 0 Af
def Lx:MS:=(Qq (Qy (Qm 1) (Qs Jd (Qc (Qa 0) Ql)))
 (Qq (Ye (Qn (Qd FV (Qd Qv (Qa 1) (mI 2)) (mI 1))) (Zy 8 (Qc (Qp (.str "the many has no extra")) Ql)) QI)
 (Qq (Qy (Qm 2) (QA QO (Qc (QA QO (Qc (Qp (.str "many")) (Qc (Qd Qv (Qa 1) (mI 1)) (Qc (Qd XJ (Qd Qv (Qa 1) (mI 2)) (mI 1)) Ql)))) Ql)))
 (Qq (Qy (Qm 3) (Qs B3 (Qc (Qd Qv (Qa 1) (mI 1)) Ql)))
 (QU (Qs ZG (Qc (Qa 0) (Qc (Xn (Qn (Qd Z8 (Qd Qv (Qa 0) (mI 1)) (Qp (.str "r")))) (Qd QC (Qa 3) (Qa 2)) (Qd QC (Qa 2) (Qa 3))) Ql))))))))
def Eu:MF:=Q6 1 3 Lx
def IK:MS:=(Qq (Qy (Qm 4) (Qs ZG (Qc (Qa 0) (Qc (QA QO Ql) Ql))))
 (Qq (Ye (Qn (Qd Z8 (Qa 2) (Qp (.str "r")))) (QU (QA QO (Qc (Qa 1) (Qc (Qa 2) (Qc (Qd QC (Qd Qv (Qa 4) (mI 2)) (QA QO (Qc (Qa 3) Ql))) (Qc (Qd Qv (Qa 4) (mI 3)) Ql)))))) QI)
 (QU (QA QO (Qc (Qa 1) (Qc (Qa 2) (Qc (Qd Qv (Qa 4) (mI 2)) (Qc (Qd QC (QA QO (Qc (Qa 3) Ql)) (Qd Qv (Qa 4) (mI 3))) Ql))))))))
def Kc:MF:=Q6 4 1 IK
def Zd:MS:=(Qq (Qy (Qm 8) (Qd Qv (Qd Qv (QY [11,12] "table" (Qa 0)) (Qa 6)) (Qd Qv (Qa 4) (Qa 5))))
 (Qq (Ye (Qn (Qd Do (Qa 8) (Qp .non))) (QU (Qp .non)) QI)
 (Qq (ZO (Qa 4) (Qa 5) (Qd Qv (Qa 8) (mI 0)))
 (Qq (Qy (Qm 5) (Xn (Qn (Qd Z8 (Qd Qv (Qa 8) (mI 1)) (Qp (.str "r")))) (Qd QC (Qa 5) (mI 1)) (Qd XJ (Qa 5) (mI 1))))
 (Qq (Qy (Qm 6) (Qd Qv (Qa 8) (mI 2)))
 (Ye (Yq (Qn (Qs ZQ (Qc (Qa 5) (Qc (Qu Zg (Qa 4)) Ql))))) (QU (Xn (JR (Qn (Qd Z8 (Qd Qv (Qa 8) (mI 1)) (Qa 2))) (Qn (Qd Z8 (Qa 6) (Qa 1)))) (Qu Zw (Qa 4)) (Qp .non))) QI))))))
def Co:MS:=(Qq (Qy (Qm 4) (Qu KO (Qa 3)))
 (Qq (Qy (Qm 5) (Xn (Qn (Qd Z8 (Qa 2) (Qp (.str "r")))) (mI 0) (Qd XJ (Qu Zg (Qa 4)) (mI 1))))
 (Qq (Qy (Qm 6) (Qa 1))
 (Qq (YF (QJ (mI 1000)) (Qm 7) Zd)
 (QU (Qp .non))))))
def V0:MF:=Q6 4 5 Co
def X7:MS:=(Qq (Qy (Qm 2) (Qs Jd (Qc (Qa 1) Ql)))
 (Qq (Qy (Qm 3) (Qs V0 (Qc (Qa 0) (Qc (Qd Qv (Qa 1) (mI 0)) (Qc (Qd Qv (Qa 1) (mI 1)) (Qc (Qd Qv (Qa 2) (mI 1)) Ql))))))
 (Qq (Ye (Qn (Qd Do (Qa 3) (Qp .non))) (Zy 8 (Qc (Qp (.str "the machine does not go over the word")) Ql)) QI)
 (QU (Qs Kc (Qc (Qa 1) (Qc (Qd Qv (Qa 1) (mI 0)) (Qc (Qd Qv (Qa 1) (mI 1)) (Qc (QA QO (Qc (Qp (.str "many")) (Qc (Qa 3) (Qc (Qd Qv (Qa 2) (mI 2)) Ql)))) Ql)))))))))
def YK:MF:=Q6 2 2 X7
def CD:MS:=(Qq (Qy (Qm 3) (QA QO (Qc (QA QO (Qc (Qp (.str "one")) (Qc (mI 0) Ql))) Ql)))
 (Qq (Ye (Qn (Qd Z8 (Qa 1) (Qp (.str "pad")))) (QU (Xn (Qn (Qd Z8 (Qa 2) (Qp (.str "l")))) (Qd QC (Qa 3) (Qa 0)) (Qd QC (Qa 0) (Qa 3)))) QI)
 (Qq (Ye (Qn (Qd Ci (Qa 1) (Qp (.str "trim")))) (Zy 8 (Qc (Qp (.str "there is no such move of a list")) Ql)) QI)
 (Qq (Ye (Qn (Qd Ci (Xn (Qn (Qd Z8 (Qa 2) (Qp (.str "l")))) (Q7 (Qa 0) QV (Zv (mI 1))) (Q7 (Qa 0) (Zv (Qu X4 (mI 1))) QV)) (Qa 3))) (Zy 8 (Qc (Qp (.str "the outermost token is no one of the blank")) Ql)) QI)
 (QU (Xn (Qn (Qd Z8 (Qa 2) (Qp (.str "l")))) (Q7 (Qa 0) (Zv (mI 1)) QV) (Q7 (Qa 0) QV (Zv (Qu X4 (mI 1))))))))))
def YL:MF:=Q6 3 1 CD
def KR:MS:=(Qq (Ye (Yq (Qn (Qs ZQ (Qc (Qa 2) (Qc (Qu Zg (Qa 0)) Ql))))) (Zy 8 (Qc (Qp (.str "the list has no such token")) Ql)) QI)
 (Qq (Qy (Qm 3) (Xn (Qn (Qd Z8 (Qa 1) (Qp (.str "l")))) (Qa 2) (Qd XJ (Qd XJ (Qu Zg (Qa 0)) (mI 1)) (Qa 2))))
 (Qq (Ye (Qn (Qd Ci (Qd Qv (Qd Qv (Qa 0) (Qa 3)) (mI 0)) (Qp (.str "many")))) (Zy 8 (Qc (Qp (.str "the token is no many")) Ql)) QI)
 (QU (Qa 3)))))
def Jz:MF:=Q6 3 1 KR
def Kd:MS:=(Qq (Qy (Qm 3) (Qd Qv (Qa 0) (Qa 1)))
 (Qq (Qy (Qm 4) (Qd Qv (Qa 3) (mI 1)))
 (Qq (Qy (Qm 5) (Xn (Qn (Qa 2)) (Qd Qv (Qa 4) (Qu X4 (mI 1))) (Qd Qv (Qa 4) (mI 0))))
 (Qq (Qy (Qm 6) (Xn (Qn (Qa 2)) (Qd XJ (Qa 1) (mI 1)) (Qd QC (Qa 1) (mI 1))))
 (Qq (Ye (Ko (Yq (Qn (Qs ZQ (Qc (Qa 6) (Qc (Qu Zg (Qa 0)) Ql))))) (Qn (Qd Ci (Qd Qv (Qa 0) (Qa 6)) (QA QO (Qc (Qp (.str "one")) (Qc (Qa 5) Ql)))))) (Zy 8 (Qc (Qp (.str "the one next to the many is not its word's sign")) Ql)) QI)
 (Qq (Ye (Qn (Qa 2)) (Qq (Qy (Qm 7) (QA QO (Qc (Qp (.str "many")) (Qc (Qd QC (QA QO (Qc (Qa 5) Ql)) (Q7 (Qa 4) QV (Zv (Qu X4 (mI 1))))) (Qc (Qd Qv (Qa 3) (mI 2)) Ql)))))
 (QU (Qd QC (Qd QC (Q7 (Qa 0) QV (Zv (Qa 6))) (QA QO (Qc (Qa 7) (Qc (Qd Qv (Qa 0) (Qa 6)) Ql)))) (Q7 (Qa 0) (Zv (Qd QC (Qa 1) (mI 1))) QV)))) QI)
 (Qq (Qy (Qm 7) (QA QO (Qc (Qp (.str "many")) (Qc (Qd QC (Q7 (Qa 4) (Zv (mI 1)) QV) (QA QO (Qc (Qa 5) Ql))) (Qc (Qd Qv (Qa 3) (mI 2)) Ql)))))
 (QU (Qd QC (Qd QC (Q7 (Qa 0) QV (Zv (Qa 1))) (QA QO (Qc (Qd Qv (Qa 0) (Qa 6)) (Qc (Qa 7) Ql)))) (Q7 (Qa 0) (Zv (Qd QC (Qa 6) (mI 1))) QV))))))))))
def JL:MF:=Q6 3 5 Kd
def BB:MS:=(QU (Xn (Qn (Qd Z8 (Qd Qv (Qa 0) (mI 0)) (Qp (.str "one")))) (Qa 0) (QA QO (Qc (Qp (.str "many")) (Qc (Qd Qv (Qa 0) (mI 1)) (Qc (Qd QC (Qd Qv (Qa 0) (mI 2)) (mI 1)) Ql))))))
def Yc:MF:=Q6 1 0 BB
def XQ:MS:=(Qq (Qy (Qm 3) (Qd Qv (Qa 0) (Qa 1)))
 (Qq (Qy (Qm 4) (Xn (Qn (Qa 2)) (Qd QC (Qa 1) (mI 1)) (Qd XJ (Qa 1) (Qu Zg (Qd Qv (Qa 3) (mI 1))))))
 (Qq (Qy (Qm 5) (Qd QC (Qa 4) (Qu Zg (Qd Qv (Qa 3) (mI 1)))))
 (Qq (Ye (Ko (Qn (Qd FV (Qa 4) (mI 0))) (Qn (Qd Ci (Q7 (Qa 0) (Zv (Qa 4)) (Zv (Qa 5))) (Qs B3 (Qc (Qd Qv (Qa 3) (mI 1)) Ql))))) (Zy 8 (Qc (Qp (.str "the ones next to the many are not its word")) Ql)) QI)
 (QU (Qd QC (Qd QC (Q7 (Qa 0) QV (Zv (Qd II (Qa 4) (Qa 1)))) (QA QO (Qc (Qs Yc (Qc (Qa 3) Ql)) Ql))) (Q7 (Qa 0) (Zv (Qd Px (Qa 5) (Qd QC (Qa 1) (mI 1)))) QV)))))))
def Ym:MF:=Q6 3 3 XQ
def FM:MS:=(Qq (Qy (Qm 4) (Qs Jz (Qc (Qa 0) (Qc (Qa 2) (Qc (Qa 3) Ql)))))
 (Qq (Ye (Qn (Qd (IC false) (Qa 1) (QA QO (Qc (Qp (.str "join")) (Qc (Qp (.str "draw")) Ql))))) (QU (Qs Ym (Qc (Qa 0) (Qc (Qa 4) (Qc (Qd Z8 (Qd Z8 (Qa 1) (Qp (.str "join"))) (Qd Z8 (Qa 2) (Qp (.str "l")))) Ql))))) QI)
 (Qq (Ye (Qn (Qd (IC false) (Qa 1) (QA QO (Qc (Qp (.str "roll")) (Qc (Qp (.str "back")) Ql))))) (QU (Qs JL (Qc (Qa 0) (Qc (Qa 4) (Qc (Qd Z8 (Qd Z8 (Qa 1) (Qp (.str "roll"))) (Qd Z8 (Qa 2) (Qp (.str "l")))) Ql))))) QI)
 (Zy 8 (Qc (Qp (.str "there is no such move of a many")) Ql)))))
def VL:MF:=Q6 4 1 FM
def Yn:MS:=(Qq (Ye (Ko (Yq (Qn (Qu (Bn .tuple) (Qa 1)))) (Ko (Qn (Qd (IC true) (Qu Zg (Qa 1)) (QA QO (Qc (mI 2) (Qc (mI 3) Ql))))) (Qn (Qd (IC true) (Qd Qv (Qa 1) (mI 1)) (QA QO (Qc (Qp (.str "l")) (Qc (Qp (.str "r")) Ql))))))) (Zy 8 (Qc (Qp (.str "there is no such move")) Ql)) QI)
 (Qq (Qy (Qm 2) (Qd Qv (Qa 1) (mI 1)))
 (Qq (Qy (Qm 3) (Xn (Qn (Qd Z8 (Qa 2) (Qp (.str "l")))) (Qd Qv (Qa 0) (mI 2)) (Qd Qv (Qa 0) (mI 3))))
 (Qq (Ye (Qn (Qd Z8 (Qu Zg (Qa 1)) (mI 2))) (Qy (Qm 4) (Qs YL (Qc (Qa 3) (Qc (Qd Qv (Qa 1) (mI 0)) (Qc (Qa 2) Ql))))) (Qy (Qm 4) (Qs VL (Qc (Qa 3) (Qc (Qd Qv (Qa 1) (mI 0)) (Qc (Qa 2) (Qc (Qd Qv (Qa 1) (mI 2)) Ql)))))))
 (Qq (Ye (Qn (Qd Z8 (Qa 2) (Qp (.str "l")))) (QU (QA QO (Qc (Qd Qv (Qa 0) (mI 0)) (Qc (Qd Qv (Qa 0) (mI 1)) (Qc (Qa 4) (Qc (Qd Qv (Qa 0) (mI 3)) Ql)))))) QI)
 (QU (QA QO (Qc (Qd Qv (Qa 0) (mI 0)) (Qc (Qd Qv (Qa 0) (mI 1)) (Qc (Qd Qv (Qa 0) (mI 2)) (Qc (Qa 4) Ql)))))))))))
def ZX:MF:=Q6 2 3 Yn
def X8:MS:=(Qq (Qy (Qm 2) (Qs YS (Qc (Qa 1) Ql)))
 (Qq (Ye (JR (Qn (Qd Lk (Qa 2) (Qp .non))) (Qn (Qd Z8 (Qd Qv (Qa 2) (mI 0)) (Qp (.str "many"))))) (Zy 8 (Qc (Qp (.str "the cell to be read is no one")) Ql)) QI)
 (Qq (Qy (Qm 3) (Qd Qv (Qd Qv (QY [11,12] "table" (Qa 0)) (Qd Qv (Qa 1) (mI 0))) (Xn (Qn (Qd Do (Qa 2) (Qp .non))) (mI 0) (Qd Qv (Qa 2) (mI 1)))))
 (Qq (Ye (Qn (Qd Do (Qa 3) (Qp .non))) (Zy 8 (Qc (Qp (.str "the machine stops there")) Ql)) QI)
 (QU (Qs Kc (Qc (Qa 1) (Qc (Qd Qv (Qa 3) (mI 2)) (Qc (Qd Qv (Qa 3) (mI 1)) (Qc (QA QO (Qc (Qp (.str "one")) (Qc (Qd Qv (Qa 3) (mI 0)) Ql))) Ql))))))))))
def YM:MF:=Q6 2 2 X8
def Je:MS:=(Qq (Ye (Qn (Qd Z8 (Qa 2) (Qp (.tup [(.str "step")])))) (QU (Qs YM (Qc (Qa 0) (Qc (Qa 1) Ql)))) QI)
 (Qq (Ye (Qn (Qd Z8 (Qa 2) (Qp (.tup [(.str "over")])))) (QU (Qs YK (Qc (Qa 0) (Qc (Qa 1) Ql)))) QI)
 (Qq (Ye (Qn (Qd Z8 (Qa 2) (Qp (.tup [(.str "open")])))) (QU (Qs Eu (Qc (Qa 1) Ql))) QI)
 (QU (Qs ZX (Qc (Qa 1) (Qc (Qa 2) Ql)))))))
def ZU:MF:=Q6 3 0 Je
def E6:MS:=(QU (Jt (Qs Vr (Qc (Qa 0) Ql)) (Qd dP (Qa 0) (mI 0))))
def QM:MF:=Q6 1 0 E6
def Ag:MS:=(QU (Jt (Qu (Bn .tuple) (Qa 0)) (Jt (Qd Lj (Qu Zg (Qa 0)) (mI 0)) (Qu Eg (ZK (QQ (Qa 0)) 1 [] (Qm 0) ZV (Qs QM (Qc (Qa 0) Ql)))))))
def Vi:MF:=Q6 1 0 Ag
def Vs:MS:=(Qq (Ye (Yq (Qn (Qu (Bn .tuple) (Qa 0)))) (QU (Qp (.bl false))) QI)
 (Qq (Ye (Qn (Qd Z8 (Qu Zg (Qa 0)) (mI 2))) (QU (Jt (Qd Z8 (Qd Qv (Qa 0) (mI 0)) (Qp (.str "one"))) (Qs QM (Qc (Qd Qv (Qa 0) (mI 1)) Ql)))) QI)
 (QU (Jt (Qd Z8 (Qu Zg (Qa 0)) (mI 3)) (Jt (Qd Z8 (Qd Qv (Qa 0) (mI 0)) (Qp (.str "many"))) (Jt (Qs Vi (Qc (Qd Qv (Qa 0) (mI 1)) Ql)) (Qs QM (Qc (Qd Qv (Qa 0) (mI 2)) Ql))))))))
def JH:MF:=Q6 1 0 Vs
def GR:MS:=(Ye (Ko (Yq (Qn (Qu Kr (Qa 0)))) (Yq (Qn (Qu Eg (ZK (QQ (Qa 0)) 1 [] (Qm 0) ZV (Qs JH (Qc (Qa 0) Ql))))))) (Zy 7 (Qc (Qp (.str "the machine stands between two lists of tokens")) Ql)) QI)
def Zl:MF:=Q6 1 0 GR
def V1:MS:=(Qq (Ye (Ko (Yq (Qn (Qu (Bn .tuple) (Qa 0)))) (Qn (Qd Ci (Qu Zg (Qa 0)) (mI 4)))) (Zy 7 (Qc (Qp (.str "a shape is a state, a facing and two lists")) Ql)) QI)
 (Qq (Ye (Yq (Qn (Qs QM (Qc (Qd Qv (Qa 0) (mI 0)) Ql)))) (Zy 7 (Qc (Qp (.str "the state is a whole number from nought on")) Ql)) QI)
 (Qq (Ye (Qn (Qd (IC true) (Qd Qv (Qa 0) (mI 1)) (QA QO (Qc (Qp (.str "l")) (Qc (Qp (.str "r")) Ql))))) (Zy 7 (Qc (Qp (.str "the machine faces l or r")) Ql)) QI)
 (Qq (Zf (Qs Zl (Qc (Qd Qv (Qa 0) (mI 2)) Ql)))
 (Zf (Qs Zl (Qc (Qd Qv (Qa 0) (mI 3)) Ql)))))))
def Yo:MF:=Q6 1 0 V1
def CF:MS:=(QU (Xn (Qn (Qd Z8 (Qd Qv (Qa 0) (mI 0)) (Qp (.str "one")))) (QA QO (Qc (Qd Qv (Qa 0) (mI 1)) Ql)) (Qd Qv (Qa 0) (mI 1))))
def Xr:MF:=Q6 1 0 CF
def GS:MS:=(QU (Qu Zg (Qd Qv (QY [11,12] "table" (Qa 0)) (mI 0))))
def Kt:MF:=Q6 1 0 GS
def FN:MS:=(QU (Qu Zg (QY [11,12] "table" (Qa 0))))
def VM:MF:=Q6 1 0 FN
def Z6:MS:=(Ye (Qn (Qd dP (Qu GK (Qs Xr (Qc (Qa 4) Ql))) (Qa 2))) (Zy 7 (Qc (Qp (.str "a sign is not the machine's")) Ql)) QI)
def Z7:MS:=(YF (QQ (Qa 3)) (Qm 4) Z6)
def Yx:MS:=(Qq (Zf (Qs Yo (Qc (Qa 1) Ql)))
 (Qq (Ye (Qn (Qd dP (Qd Qv (Qa 1) (mI 0)) (Qs VM (Qc (Qa 0) Ql)))) (Zy 7 (Qc (Qp (.str "the state is not the machine's")) Ql)) QI)
 (Qq (Qy (Qm 2) (Qs Kt (Qc (Qa 0) Ql)))
 (YF (QQ (Q7 (Qa 1) (Zv (mI 2)) QV)) (Qm 3) Z7))))
def Zo:MF:=Q6 2 3 Yx
def Cp:MS:=(QU (QA QO (Qc (Qd Qv (Qa 0) (mI 0)) (Qc (Qd Qv (Qa 0) (mI 1)) (Qc (Qu Zw (Qd Qv (Qa 0) (mI 2))) (Qc (Qu Zw (Qd Qv (Qa 0) (mI 3))) Ql))))))
def Jw:MF:=Q6 1 0 Cp
def PC:MS:=(Qq (Zf (Qs Zo (Qc (Qa 0) (Qc (Qa 1) Ql))))
 (QU (Qs ZU (Qc (Qa 0) (Qc (Qs Jw (Qc (Qa 1) Ql)) (Qc (Qa 2) Ql))))))
def Gj:MF:=Q6 3 0 PC
def J6:MS:=(Qy (Qm 8) (Qs Gj (Qc (Bl 11 Yb (Qc (Qa 2) Ql)) (Qc (Qa 8) (Qc (Qa 9) Ql)))))
def J7:MS:=(Qq (Qy (Qm 12) (Qd Yg (Qs J5 (Qc (Qa 0) (Qc (Qa 1) Ql))) (Qd QC (Qu Zg (Qa 10)) (mI 1))))
 (Qq (Qy (Qm 13) (Qd Qv (Qp (.str "lr")) (Qd Yg (Qd Yw (Qa 5) (mI 180)) (mI 2))))
 (Qy (Qm 10) (Qd QC (Qd QC (Q7 (Qa 10) QV (Zv (Qa 12))) (QA JS (Qc (QA QO (Qc (Qp (.str "pad")) (Qc (Qa 13) Ql))) (Qc (QA QO (Qc (Qp (.str "trim")) (Qc (Qa 13) Ql))) Ql)))) (Q7 (Qa 10) (Zv (Qa 12)) QV)))))
def J8:MS:=(Qq (Qy (Qm 17) (Qs ZI (Qc (Q7 (Qa 4) (Zv (Qa 7)) QV) (Qc (Qu Zg (Qa 3)) (Qc (Qd QC (Qa 6) (Qa 16)) Ql)))))
 (Zf (ZT (Qa 15) (Qd QC (Qa 17) (Qs ZI (Qc (Q7 (Qa 4) QV (Zv (Qa 7))) (Qc (Qu Zg (Qa 3)) (Qc (Qd QC (Qd QC (Qa 6) (Qa 16)) (mI 1)) Ql))))))))
def E7:MS:=(Qq (Qy (Qm 5) (Qs J5 (Qc (Qa 0) (Qc (Qa 1) Ql))))
 (Qq (Qy (Qm 6) (Qd Yg (Qa 5) (mI 4)))
 (Qq (Qy (Qm 7) (Qd Yg (Qd Yw (Qa 5) (mI 4)) (Qu Zg (Qa 4))))
 (Qq (Qy (Qm 8) (QA QO (Qc (mI 1) (Qc (Qp (.str "r")) (Qc (QA QO (Qc (QA QO (Qc (Qp (.str "one")) (Qc (mI 1) Ql))) Ql)) (Qc (QA QO (Qc (QA QO (Qc (Qp (.str "many")) (Qc (Qa 3) (Qc (Qa 6) Ql)))) Ql)) Ql))))))
 (Qq (YF (QQ (Q7 (Qa 4) QV (Zv (Qa 7)))) (Qm 9) J6)
 (Qq (Qy (Qm 10) (Qd QC (Q7 (Qa 4) (Zv (Qa 7)) QV) (Q7 (Qa 4) QV (Zv (Qa 7)))))
 (Qq (YF (QJ (Qd Yg (Qd Yw (Qa 5) (mI 60)) (mI 3))) (Qm 11) J7)
 (Qq (Qy (Qm 14) (Qs E5 (Qc (Qa 4) (Qc (Q7 (Qa 4) QV (Zv (Qa 7))) (Qc (Qu Zg (Qa 3)) (Qc (Qa 6) Ql))))))
 (Qq (Qy (Qm 15) (QA JS Ql))
 (Qq (YF (QJ (mI 4)) (Qm 16) J8)
 (QU (QA QO (Qc (QA QO (Qc (Qp (.str "grow")) (Qc (Qa 14) (Qc (Qa 8) (Qc (Qa 10) Ql))))) (Qc (Qa 15) Ql))))))))))))))
def E8:MF:=Q6 5 13 E7
def Ku:MS:=(Qy (Qm 2) (Qd QC (Qa 2) (Qu KO (Qd Qv (Qa 3) (mI 1)))))
def X9:MS:=(Ye (Qn (Qd Z8 (Qd Qv (Qa 3) (mI 0)) (Qp (.str "one")))) (Zf (ZT (Qa 2) (Qd Qv (Qa 3) (mI 1)))) (YF (QJ (Qd QC (Qa 1) (Qd Qv (Qa 3) (mI 2)))) (Qm 4) Ku))
def E9:MS:=(Qq (Qy (Qm 2) (QA JS Ql))
 (Qq (YF (QQ (Qa 0)) (Qm 3) X9)
 (QU (Qa 2))))
def B4:MF:=Q6 2 3 E9
def XR:MS:=(Ye (Qn (Qd Ci (Qd Qv (Qa 7) (Qa 9)) (mI 0))) (GM (Qa 8) (Qd XJ (Qa 9) (Qu Zg (Qa 6))) (Qd Qv (Qa 7) (Qa 9))) QI)
def MN:MS:=(Qq (Qy (Ju [(Qm 2),(Qm 3),(Qm 4),(Qm 5)]) (Qa 0))
 (Qq (Qy (Qm 6) (Qs B4 (Qc (Qa 4) (Qc (Qa 1) Ql))))
 (Qq (Qy (Qm 7) (Qd QC (Qa 6) (Qs B4 (Qc (Qa 5) (Qc (Qa 1) Ql)))))
 (Qq (Qy (Qm 8) MK)
 (Qq (YF (QJ (Qu Zg (Qa 7))) (Qm 9) XR)
 (QU (QA QO (Qc (Qa 2) (Qc (Qu X4 (Qu Ll (Qd Z8 (Qa 3) (Qp (.str "l"))))) (Qc (Qa 8) Ql))))))))))
def GT:MF:=Q6 2 8 MN
def GU:MS:=(Qq (Qy (Ju [(Qm 3),(Qm 4),(Qm 5)]) (Qs GT (Qc (Qa 1) (Qc (Qa 2) Ql))))
 (Qq (Qy (Qm 6) (Qd XJ (Qd Qv (Qa 0) (mI 1)) (Qa 4)))
 (Qq (Ye (Ko (Qn (Qd Ci (Qd Qv (Qa 0) (mI 0)) (Qa 3))) (Qn (Qd Ci (Qu FL (Qd Qv (Qa 0) (mI 2))) (Qu FL (Qa 5))))) (QU (Qp (.bl false))) QI)
 (QU (Qu Eg (ZK (Et (Qa 5)) 1 [5,6,0] (Qm 0) ZV (Qd Z8 (Bw (Qd Qv (Qa 3) (mI 2)) (Qd QC (Qa 0) (Qa 2)) (mI 0)) (Qd GN (Qa 1) (Qa 0)))))))))
def Vt:MF:=Q6 3 4 GU
def Xs:MS:=(Qy (Qm 3) (Qs ZU (Qc (Qa 0) (Qc (Qa 3) (Qc (Qa 4) Ql)))))
def V2:MS:=(Qq (Zf (Qs Zo (Qc (Qa 0) (Qc (Qa 1) Ql))))
 (Qq (Qy (Qm 3) (Qs Jw (Qc (Qa 1) Ql)))
 (Qq (YF (QQ (Qa 2)) (Qm 4) Xs)
 (QU (Qa 3)))))
def XD:MF:=Q6 3 2 V2
def BC:MS:=(Qq (ZC [11,12] "table" (Qa 0) (QY [11,12] "table" (Qa 1)))
 (Qq (ZC [12] "state" (Qa 0) (Qd Qv (Qa 2) (mI 0)))
 (Qq (ZC [12] "place" (Qa 0) (Qd Qv (Qa 2) (mI 1)))
 (Qq (ZC [12] "left_marks" (Qa 0) (ZK (QQ (Qd Qv (Qa 2) (mI 2))) 2 [0] (Ju [(Qm 0),(Qm 1)]) (Qn (Qd FV (Qa 0) (QY [12] "place" (Qa 2)))) (QA QO (Qc (Qa 0) (Qc (Qa 1) Ql)))))
 (ZC [12] "right_marks" (Qa 0) (ZK (E0 (Qd Qv (Qa 2) (mI 2))) 2 [0] (Ju [(Qm 0),(Qm 1)]) (Qn (Qd dP (Qa 0) (QY [12] "place" (Qa 2)))) (QA QO (Qc (Qa 0) (Qc (Qa 1) Ql)))))))))
def VN:MF:=Q6 3 0 BC
def Ev:MS:=(QU (Jt (Qd Lj (Qu Zg (QY [12] "right_marks" (Qa 0))) (mI 0)) (Qd Z8 (Qd Qv (Qd Qv (QY [12] "right_marks" (Qa 0)) (Qu X4 (mI 1))) (mI 0)) (QY [12] "place" (Qa 0)))))
def Zt:MF:=Q6 1 0 Ev
def Kv:MS:=(Qq (Qy (Qm 1) (Xn (Qn (YX 12 "is_on_mark" Zt (Qa 0) Ql)) (Qd Qv (Qd Qv (QY [12] "right_marks" (Qa 0)) (Qu X4 (mI 1))) (mI 1)) (mI 0)))
 (QU (Qd Qv (Qd Qv (QY [11,12] "table" (Qa 0)) (QY [12] "state" (Qa 0))) (Qa 1))))
def Va:MF:=Q6 1 1 Kv
def Vu:MS:=(Qq (ZC [12] "place" (Qa 0) (Qd XJ (QY [12] "place" (Qa 0)) (mI 1)))
 (Ye (JR (Qn (Qd Lj (Qu Zg (QY [12] "left_marks" (Qa 0))) (mI 0))) (Qn (Qd Z8 (Qd Qv (Qd Qv (QY [12] "left_marks" (Qa 0)) (Qu X4 (mI 1))) (mI 0)) (QY [12] "place" (Qa 0))))) (Zf (ZT (QY [12] "right_marks" (Qa 0)) (Qu HQ (QY [12] "left_marks" (Qa 0))))) QI))
def J9:MF:=Q6 1 0 Vu
def XX:MS:=(Qq (Ye (Qn (YX 12 "is_on_mark" Zt (Qa 0) Ql)) (Zf (ZT (QY [12] "left_marks" (Qa 0)) (Qu HQ (QY [12] "right_marks" (Qa 0))))) QI)
 (ZC [12] "place" (Qa 0) (Qd QC (QY [12] "place" (Qa 0)) (mI 1))))
def JA:MF:=Q6 1 0 XX
def Xa:MS:=(Qq (Ye (Qn (YX 12 "is_on_mark" Zt (Qa 0) Ql)) (Zf (Qu HQ (QY [12] "right_marks" (Qa 0)))) QI)
 (Ye (Qn (Qd Ci (Qa 1) (mI 0))) (Zf (ZT (QY [12] "right_marks" (Qa 0)) (QA QO (Qc (QY [12] "place" (Qa 0)) (Qc (Qa 1) Ql))))) QI))
def Vb:MF:=Q6 2 0 Xa
def Y2:MS:=(Qq (Qy (Qm 1) (YX 12 "entry" Va (Qa 0) Ql))
 (Qq (Ye (Qn (Qd Do (Qa 1) (Qp .non))) (QU (Qp (.bl false))) QI)
 (Qq (Zf (YX 12 "write" Vb (Qa 0) (Qc (Qd Qv (Qa 1) (mI 0)) Ql)))
 (Qq (Ye (Qn (Qd Z8 (Qd Qv (Qa 1) (mI 1)) (Qp (.str "r")))) (Zf (YX 12 "go_right" JA (Qa 0) Ql)) (Zf (YX 12 "go_left" J9 (Qa 0) Ql)))
 (Qq (ZC [12] "state" (Qa 0) (Qd Qv (Qa 1) (mI 2)))
 (QU (Qp (.bl true))))))))
def ZE:MF:=Q6 1 1 Y2
def V3:MS:=(Qy (Qm 2) (Qd QC (Qa 2) (mI 1)))
def CG:MS:=(Qq (Qy (Qm 2) (mI 0))
 (Qq (Gr (JR (Qn (Qd FV (Qa 2) (Qa 1))) (Qn (YX 12 "stepped" ZE (Qa 0) Ql))) V3)
 (QU (Qa 2))))
def CH:MF:=Q6 2 1 CG
def MP:MS:=(QU (QA QO (Qc (QY [12] "state" (Qa 0)) (Qc (QY [12] "place" (Qa 0)) (Qc (Qd QC (Qu Zw (QY [12] "left_marks" (Qa 0))) (Qu Vh (QY [12] "right_marks" (Qa 0)))) Ql)))))
def BD:MF:=Q6 1 0 MP
def XF:MS:=(Ye (Qn (Qd Z8 (Qd Qv (Qa 3) (mI 0)) (Qp (.str "one")))) (Zf (ZT (Qa 2) (Qd Qv (Qa 3) (mI 1)))) (Zf (Gi (Qa 2) (Qd JG (Qd Qv (Qa 3) (mI 1)) (Qd QC (Qa 1) (Qd Qv (Qa 3) (mI 2)))))))
def CI:MS:=(Qq (Qy (Qm 2) (QA JS Ql))
 (Qq (YF (QQ (Qa 0)) (Qm 3) XF)
 (QU (Qa 2))))
def Kw:MF:=Q6 2 2 CI
def CJ:MS:=(Qq (Zf (Qs Yo (Qc (Qa 0) Ql)))
 (Qq (Ye (Yq (Qn (Qs QM (Qc (Qa 1) Ql)))) (Zy 7 (Qc (Qp (.str "the count is a whole number from nought on")) Ql)) QI)
 (Qq (Qy (Qm 2) (Qs Kw (Qc (Qd Qv (Qa 0) (mI 2)) (Qc (Qa 1) Ql))))
 (Qq (Qy (Qm 3) (Qd QC (Qa 2) (Qs Kw (Qc (Qd Qv (Qa 0) (mI 3)) (Qc (Qa 1) Ql)))))
 (Qq (Qy (Qm 4) (ZK (B2 (Qa 3)) 2 [2] (Ju [(Qm 0),(Qm 1)]) (Qn (Qd Ci (Qa 1) (mI 0))) (QA QO (Qc (Qd XJ (Qa 0) (Qu Zg (Qa 2))) (Qc (Qa 1) Ql)))))
 (QU (QA QO (Qc (Qd Qv (Qa 0) (mI 0)) (Qc (Xn (Qn (Qd Z8 (Qd Qv (Qa 0) (mI 1)) (Qp (.str "r")))) (mI 0) (Qu X4 (mI 1))) (Qc (Qu Zw (Qa 4)) Ql))))))))))
def CK:MF:=Q6 2 3 CJ
def Jx:MS:=(Qq (Ye (Qn (Qd FV (Qa 2) (mI 1))) Dm QI)
 (Ye (JR (Qn (Qd Lj (Qu Zg (Qa 0)) (mI 0))) (Qn (Qd Z8 (Qd Qv (Qd Qv (Qa 0) (Qu X4 (mI 1))) (mI 0)) (Qa 1)))) (ZO (Qa 0) (Qu X4 (mI 1)) (QA QO (Qc (Qa 1) (Qc (Qd QC (Qd Qv (Qd Qv (Qa 0) (Qu X4 (mI 1))) (mI 1)) (Qa 2)) Ql)))) (Zf (ZT (Qa 0) (QA QO (Qc (Qa 1) (Qc (Qa 2) Ql)))))))
def XG:MF:=Q6 3 0 Jx
def Vc:MS:=(Qq (Zf (Qs XG (Qc (Qa 1) (Qc (mI 0) (Qc (Qd XJ (Qa 3) (Qa 2)) Ql)))))
 (Qq (Zf (Qs XG (Qc (Qa 1) (Qc (Qa 4) (Qc (mI 1) Ql)))))
 (Qy (Qm 2) (Qd QC (Qa 3) (mI 1)))))
def Fa:MS:=(Qq (Qy (Qm 1) (QA JS Ql))
 (Qq (Qy (Qm 2) (mI 0))
 (Qq (YF (QQ (Qa 0)) (Ju [(Qm 3),(Qm 4)]) Vc)
 (QU (Qa 1)))))
def B5:MF:=Q6 1 4 Fa
def Vv:MS:=(Qq (Qy (Qm 1) (Qd Qv (Qa 0) (mI 1)))
 (Qq (Qy (Qm 2) (Qs B5 (Qc (ZK (E0 (Qd Qv (Qa 0) (mI 2))) 2 [1] (Ju [(Qm 0),(Qm 1)]) (Qn (Qd FV (Qa 0) (Qa 2))) (QA QO (Qc (Qd XJ (Qd XJ (Qa 2) (mI 1)) (Qa 0)) (Qc (Qa 1) Ql)))) Ql)))
 (Qq (Qy (Qm 3) (Qs B5 (Qc (ZK (QQ (Qd Qv (Qa 0) (mI 2))) 2 [1] (Ju [(Qm 0),(Qm 1)]) (Qn (Qd dP (Qa 0) (Qa 2))) (QA QO (Qc (Qd XJ (Qa 0) (Qa 2)) (Qc (Qa 1) Ql)))) Ql)))
 (QU (QA QO (Qc (Qd Qv (Qa 0) (mI 0)) (Qc (Qa 2) (Qc (Qa 3) Ql))))))))
def Xd:MF:=Q6 1 3 Vv
def CL:MS:=(Qq (Qy (Qm 3) (Bl 12 VN (Qc (Qa 0) (Qc (Qp (.tup [(.int 0),(.int 0),(.tup [])])) Ql))))
 (Qq (Ye (Qn (Qd FV (YX 12 "run" CH (Qa 3) (Qc (Qa 1) Ql)) (Qa 1))) (QU (Qp (.bl false))) QI)
 (QU (Qd Z8 (Qs Xd (Qc (YX 12 "shot" BD (Qa 3) Ql) Ql)) (Qs Xd (Qc (Qs CK (Qc (Qa 2) (Qc (mI 0) Ql))) Ql))))))
def CM:MF:=Q6 3 1 CL
def KS:MS:=(Qq (Ye (Ko (Yq (Qn (Qu (Bn .tuple) (Qa 0)))) (Ko (Qn (Qd Ci (Qu Zg (Qa 0)) (mI 4))) (Qn (Qd Ci (Qd Qv (Qa 0) (mI 0)) (Qp (.str "grow")))))) (QU (Qp (.bl false))) QI)
 (QU (Jt (Qs QM (Qc (Qd Qv (Qa 0) (mI 1)) Ql)) (Qu Kr (Qd Qv (Qa 0) (mI 3))))))
def JB:MF:=Q6 1 0 KS
def FX:MS:=(QU (Qu Zw (ZK (QQ (Qa 0)) 1 [] (Qm 0) ZV (Qs Yc (Qc (Qa 0) Ql)))))
def JC:MF:=Q6 1 0 FX
def GV:MS:=(Qq (Zf (Qs Yo (Qc (Qa 0) Ql)))
 (QU (QA QO (Qc (Qd Qv (Qa 0) (mI 0)) (Qc (Qd Qv (Qa 0) (mI 1)) (Qc (Qs JC (Qc (Qd Qv (Qa 0) (mI 2)) Ql)) (Qc (Qs JC (Qc (Qd Qv (Qa 0) (mI 3)) Ql)) Ql)))))))
def GW:MF:=Q6 1 0 GV
def Kx:MS:=(Qq (Ye (Yq (Qn (Qs JB (Qc (Qa 1) Ql)))) (QU (Qp (.bl false))) QI)
 (Qq (Qy (Qm 2) (Qd Qv (Qa 1) (mI 2)))
 (Qq (dO (Qy (Qm 3) (Qs XD (Qc (Qa 0) (Qc (Qa 2) (Qc (Qd Qv (Qa 1) (mI 3)) Ql))))) [⟨[7],[0,1,8],none,(QU (Qp (.bl false)))⟩,⟨[8],[0,1,7],none,(QU (Qp (.bl false)))⟩])
 (QU (Jt (Qd Ae (Qp (.tup [(.str "step")])) (Qd Qv (Qa 1) (mI 3))) (Jt (Qd Z8 (Qa 3) (Qs GW (Qc (Qa 2) Ql))) (Qs CM (Qc (Qa 0) (Qc (Qd Qv (Qa 1) (mI 1)) (Qc (Qa 2) Ql))))))))))
def Xe:MF:=Q6 2 2 Kx
def Vd:MS:=(Ye (Yq (Qn (Qs GQ (Qc (Qa 2) (Qc (Qa 9) Ql))))) (QU (Qp (.bl false))) QI)
def Ly:MS:=(Ye (Yq (Qn (Qs GQ (Qc (Qa 2) (Qc (Qa 9) Ql))))) (QU (Qp (.bl false))) QI)
def Xf:MS:=(Qq (Ye (Yq (Qn (Qs Vt (Qc (Qa 9) (Qc (Qd Qv (Qa 5) (mI 2)) (Qc (Qa 11) Ql)))))) (QU (Qp (.bl false))) QI)
 (Ye (Qn (Qd FV (Qa 11) (mI 4))) (YF (QJ (Qd Qv (Qa 6) (Qa 11))) (Qm 10) Ly) QI))
def Fb:MS:=(Qq (Qy (Ju [(Qm 2),(Qm 3),(Qm 4)]) (Qs Bz (Qc (Qa 0) (Qc (Qa 1) Ql))))
 (Qq (Qy (Ju [(Qm 5),(Qm 6)]) (Qs E8 (Qc (Qa 0) (Qc (Qa 1) (Qc (Qa 2) (Qc (Qa 3) (Qc (Qa 4) Ql)))))))
 (Qq (Qy (Qm 7) (Bl 11 Yb (Qc (Qa 2) Ql)))
 (Qq (Qy (Qm 8) (Qs CC (Qc (Qa 5) (Qc (Qs J5 (Qc (Qa 0) (Qc (Qa 1) Ql))) Ql))))
 (Qq (Ye (Ko (Qn (Qd MM (Qs Xe (Qc (Qa 7) (Qc (Qa 8) Ql))) (Qp (.bl true)))) (Qn (Qd MM (Qs Xe (Qc (Qa 7) (Qc (Qa 5) Ql))) (Qp (.bl true))))) (QU (Qp (.bl false))) QI)
 (Qq (Qy (Qm 9) (QA JS (Qc (mI 0) (Qc (mI 0) (Qc MK Ql)))))
 (Qq (YF (QJ (Qd Qv (Qa 5) (mI 1))) (Qm 10) Vd)
 (Qq (YF (QJ (mI 5)) (Qm 11) Xf)
 (Qq (Ye (Qn (Qd Ci (ZK (QQ (QY [11,12] "table" (Qa 7))) 1 [] (Qm 0) ZV (Qu KO (Qa 0))) (Qa 2))) (QU (Qp (.bl false))) QI)
 (QU (Qd fA (Qs Xe (Qc (Qa 7) (Qc (Qa 8) Ql))) (Qp (.bl true)))))))))))))
def Fc:MF:=Q6 2 10 Fb
def GX:MS:=(Ye (Yq (Qn (Qs Fc (Qc (Qa 0) (Qc (Qa 1) Ql))))) (QU (Qp (.bl false))) QI)
def D6:MS:=(Qq (Qy (Qm 1) (QA JS (Qc (mI 0) Ql)))
 (Qq (YF (QJ (Qd QC (mI 1) (Qd Yw (Qu Zg (Q7 (Qa 0) QV (Zv (mI 60)))) (mI 40)))) (Qm 2) GX)
 (QU (Qp (.bl true)))))
def PD:MF:=Q6 1 2 D6
structure Keeps(S:List Nat)(g g':G):Prop where
 len:g.length<=g'.length
 at':∀n o,n∉S->g[n]?=some o->g'[n]?=some o
theorem Keeps.refl{S:List Nat}{g:G}:Keeps S g g:=⟨Ui _,λ_ _ _ h=>h⟩
theorem Keeps.trans{S:List Nat}{g g1 g2:G}(a:Keeps S g g1)(b:Keeps S g1 g2):Keeps S g g2:=⟨Um a.len b.len,λn o h e=>b.at' n o h (a.at' n o h e)⟩
theorem Keeps.mono{S T:List Nat}{g g1:G}(a:Keeps S g g1)(h:∀n∈S,n∈T):Keeps T g g1:=⟨a.len,λn o q e=>a.at' n o (λz=>q (h n z)) e⟩
theorem Keeps.all{S:List Nat}{g g1:G}(a:Keeps [] g g1):Keeps S g g1:=a.mono (by simp)
theorem Keeps.push{S:List Nat}{g:G}(o:GO):Keeps S g (g++[o]):=⟨by simp,λn u _ e=>by have hl:n<g.length:=(Uj.mp e).1;rw[Uq hl];exact e⟩
theorem Keeps.set{g:G}(n:Nat)(o:GO):Keeps [n] g (g.set n o):=⟨by simp,λm u h e=>by rw[Uh (λz=>h (by simp[z]))];exact e⟩
structure KeepsN(k:Nat)(S:List Nat)(g g':G):Prop where
 len:g.length<=g'.length
 at':∀n o,n<k->n∉S->g[n]?=some o->g'[n]?=some o
theorem KeepsN.refl{k:Nat}{S:List Nat}{g:G}:KeepsN k S g g:=⟨Ui _,λ_ _ _ _ h=>h⟩
theorem KeepsN.trans{k:Nat}{S:List Nat}{g g1 g2:G}(a:KeepsN k S g g1)(b:KeepsN k S g1 g2):KeepsN k S g g2:=⟨Um a.len b.len,λn o l h e=>b.at' n o l h (a.at' n o l h e)⟩
theorem Keeps.n{k:Nat}{S T:List Nat}{g g1:G}(a:Keeps S g g1)(h:∀n∈S,n<k->n∈T):KeepsN k T g g1:=⟨a.len,λn o l q e=>a.at' n o (λz=>q (h n z l)) e⟩
theorem KeepsN.mono{j k:Nat}{S T:List Nat}{g g1:G}(a:KeepsN k S g g1)(hj:j<=k)(h:∀n∈S,n<j->n∈T):KeepsN j T g g1:=⟨a.len,λn o l q e=>a.at' n o (by omega) (λz=>q (h n z l)) e⟩
theorem KeepsN.keeps{S:List Nat}{g g1:G}(a:KeepsN g.length S g g1):Keeps S g g1:=⟨a.len,λn o q e=>a.at' n o (Uj.mp e).1 q e⟩
theorem Qw{g:G}(o:GO):(g++[o])[g.length]?=some o:=by simp
theorem ZB{g:G}{n:Nat}{o:GO}(h:g[n]?=some o):n<g.length:=(Uj.mp h).1
theorem Zb{g:G}{n:Nat}{o u:GO}(h:g[n]?=some o):(g.set n u)[n]?=some u:=by rw[Tg (ZB h)]
def PF:Out->Prop
 |.rt _ _=>True|.raise _ _ _=>True|_=>False
theorem Ke{src:Src}{t:MG}{body:MS}{n:Nat}(I:Nat->S3->G->Prop)(R:Out->Prop)(step:∀i σ g,i<n->I i σ g->∃d σ1,src.at' g i=some (some d)/\t d σ=some σ1/\((∃σ2 g2,(body σ1 g=.nx σ2 g2\/body σ1 g=.ct σ2 g2)/\I (i+1) σ2 g2)\/(PF (body σ1 g)/\R (body σ1 g))))(stop:∀σ g,I n σ g->src.at' g n=some none):∀(f i:Nat)(σ:S3)(g:G),n-i<f->i<=n->I i σ g->(∃σ' g',JQ src t body f i σ g=.nx σ' g'/\I n σ' g')\/(PF (JQ src t body f i σ g)/\R (JQ src t body f i σ g))
 |0,_,_,_,h,_,_=>by omega
 |f+1,i,σ,g,hf,hi,h=>by
  unfold JQ;by_cases e:i=n
  ·subst e;rw[stop σ g h];exact .inl ⟨σ,g,rfl,h⟩
  ·obtain⟨d,σ1,h1,h2,h3⟩:=step i σ g (by omega) h;rw[h1];dsimp only;rw[h2];dsimp only;rcases h3 with⟨σ2,g2,h3|h3,h4⟩|⟨h3,h4⟩
   ·rw[h3];exact Ke I R step stop f (i+1) σ2 g2 (by omega) (by omega) h4
   ·rw[h3];exact Ke I R step stop f (i+1) σ2 g2 (by omega) (by omega) h4
   ·cases hb:body σ1 g with
    |rt d g'=>rw[hb]at h4;exact .inr ⟨trivial,h4⟩|raise x σ' g'=>rw[hb]at h4;exact .inr ⟨trivial,h4⟩|nx _ _=>rw[hb]at h3;exact h3.elim|bk _ _=>rw[hb]at h3;exact h3.elim|ct _ _=>rw[hb]at h3;exact h3.elim|stuck=>rw[hb]at h3;exact h3.elim
theorem Yi{t:MG}{body:MS}{lo:Int}{n:Nat}{σ:S3}{g:G}(I:Nat->S3->G->Prop)(h0:I 0 σ g)(step:∀i σ g,i<n->I i σ g->∃σ1 σ2 g2,t (.int (lo+i)) σ=some σ1/\body σ1 g=.nx σ2 g2/\I (i+1) σ2 g2):∃σ' g',JQ (Zu lo n) t body (n+1) 0 σ g=.nx σ' g'/\I n σ' g':=by
 have:=Ke (src:=Zu lo n) (t:=t) (body:=body) (n:=n) I (λ_=>False) (λi σ g hi h=>by obtain⟨σ1,σ2,g2,a,b,c⟩:=step i σ g hi h;exact⟨.int (lo+i),σ1,by simp[Zu,hi],a,.inl ⟨σ2,g2,.inl b,c⟩⟩) (λσ g _=>by simp[Zu]) (n+1) 0 σ g (by omega) (by omega) h0;rcases this with h|h
 ·exact h
 ·exact h.2.elim
theorem Lz{t:MG}{body:MS}{ds:List D}{σ:S3}{g:G}(I:Nat->S3->G->Prop)(R:Out->Prop)(h0:I 0 σ g)(step:∀i d σ g,ds[i]?=some d->I i σ g->∃σ1,t d σ=some σ1/\((∃σ2 g2,body σ1 g=.nx σ2 g2/\I (i+1) σ2 g2)\/(PF (body σ1 g)/\R (body σ1 g)))):
  (∃σ' g',JQ ⟨λ_ i=>some ds[i]?,ds.length⟩ t body (ds.length+1) 0 σ g=.nx σ' g'/\I ds.length σ' g')\/(PF (JQ ⟨λ_ i=>some ds[i]?,ds.length⟩ t body (ds.length+1) 0 σ g)/\R (JQ ⟨λ_ i=>some ds[i]?,ds.length⟩ t body (ds.length+1) 0 σ g)):=
 Ke (src:=⟨λ_ i=>some ds[i]?,ds.length⟩) (t:=t) (body:=body) (n:=ds.length) I R (λi σ g hi h=>by
  obtain⟨σ1,a,b⟩:=step i ds[i] σ g (by simp[hi]) h;refine⟨ds[i],σ1,by simp[hi],a,?_⟩;rcases b with⟨σ2,g2,b,c⟩|b
  ·exact .inl ⟨σ2,g2,.inl b,c⟩
  ·exact .inr b) (λσ g _=>by simp) (ds.length+1) 0 σ g (by omega) (by omega) h0
theorem B7{src:Src}{t:MG}{body:MS}{n:Nat}{σ:S3}{g:G}(hn:src.top=n)(I:Nat->S3->G->Prop)(h0:I 0 σ g)(step:∀i σ g,i<n->I i σ g->∃d σ1 σ2 g2,src.at' g i=some (some d)/\t d σ=some σ1/\body σ1 g=.nx σ2 g2/\I (i+1) σ2 g2)(stop:∀σ g,I n σ g->src.at' g n=some none):∃σ' g',JQ src t body (src.top+1) 0 σ g=.nx σ' g'/\I n σ' g':=by
 rw[hn];have:=Ke (src:=src) (t:=t) (body:=body) (n:=n) I (λ_=>False) (λi σ g hi h=>by obtain⟨d,σ1,σ2,g2,a,b,c,e⟩:=step i σ g hi h;exact⟨d,σ1,a,b,.inl ⟨σ2,g2,.inl c,e⟩⟩) stop (n+1) 0 σ g (by omega) (by omega) h0;rcases this with h|h
 ·exact h
 ·exact h.2.elim
theorem YT{src:Src}{t:MG}{c:MT}{e:ME}{n:Nat}(I:Nat->S3->G->List D->Prop)(step:∀i σ g acc,i<n->I i σ g acc->∃d σ1 g1,src.at' g i=some (some d)/\t d σ=some σ1/\((∃y g2,c σ1 g=.ok true g1/\e σ1 g1=.ok y g2/\I (i+1) σ1 g2 (acc++[y]))\/(c σ1 g=.ok false g1/\I (i+1) σ1 g1 acc)))(stop:∀σ g acc,I n σ g acc->src.at' g n=some none):∀(f i:Nat)(σ:S3)(g:G)(acc:List D),n-i<f->i<=n->I i σ g acc->∃ds σ' g',YW src t c e f i σ g acc=.ok ds g'/\I n σ' g' ds
 |0,_,_,_,_,h,_,_=>by omega
 |f+1,i,σ,g,acc,hf,hi,h=>by
  unfold YW;by_cases q:i=n
  ·subst q;rw[stop σ g acc h];exact⟨acc,σ,g,rfl,h⟩
  ·obtain⟨d,σ1,g1,h1,h2,h3⟩:=step i σ g acc (by omega) h;rw[h1];dsimp only;rw[h2];dsimp only;rcases h3 with⟨y,g2,h3,h4,h5⟩|⟨h3,h5⟩
   ·rw[h3];dsimp only;rw[Ub rfl,h4];exact YT I step stop f (i+1) σ1 g2 _ (by omega) (by omega) h5
   ·rw[h3];dsimp only;rw[Ud Uf];exact YT I step stop f (i+1) σ1 g1 _ (by omega) (by omega) h5
theorem On{ds:List D}{e:ME}{no:Nat}{σ:S3}{g:G}{f:D->D}(hz:ds.length<=SZ)(he:∀d∈ds,∀g1,Keeps [] g g1->∃g2,e ((List.replicate (no+1) none++σ).set 0 (some d)) g1=.ok (f d) g2/\Keeps [] g1 g2):
  ∃g',YW ⟨λ_ i=>some ds[i]?,ds.length⟩ (Qm 0) ZV e (ds.length+1) 0 (List.replicate (no+1) none++σ) g []=.ok (ds.map f) g'/\Keeps [] g g':=by
 obtain⟨xs,σ',g',h1,h2,h3,h4⟩:=YT (src:=⟨λ_ i=>some ds[i]?,ds.length⟩) (t:=Qm 0) (c:=ZV) (e:=e) (n:=ds.length)
  (λi σ' g1 acc=>acc=(ds.take i).map f/\Keeps [] g g1/\∃u,σ'=(List.replicate (no+1) none++σ).set 0 u) (λi σ' g1 acc hi h=>by
   obtain⟨h1,h2,u,h3⟩:=h;obtain⟨g2,k1,k2⟩:=he ds[i] (UI hi) g1 h2;refine⟨ds[i],_,g1,by simp[hi],rfl,.inl ⟨f ds[i],g2,rfl,?_,?_,h2.trans k2,some ds[i],?_⟩⟩
   ·subst h3;rw[RE];exact k1
   ·rw[h1,Ux hi,UC];rfl
   ·subst h3;rw[RE]) (λσ g acc _=>by simp) (ds.length+1) 0 (List.replicate (no+1) none++σ) g [] (by omega) (by omega) ⟨by simp,.refl,none,by simp[UV]⟩
 refine⟨g',?_,h3⟩;rw[h1,h2,UX]
def XY(d:D)(n:Int):Bool:=match d with
 |.int i=>decide (0<=i/\i<n)|_=>false
def lS:D->Bool
 |.int _=>true|_=>false
theorem VO(d:D)(n:Int)(g:G)(t:Ty)(_:Ef g d=some t)(hp:lS d=true:=by rfl):ZQ [d,.int n] g=.ok (.bl (XY d n)) g:=by
 cases d with
 |int i=>
  have c:ET mS FV (mI 0) (Qa 0) (Qa 1) [some (.int i),some (.int n)] g=.ok (.bl (decide (0<=i/\i<n))) g:=by
   unfold ET;rw[show(mI 0) [some (D.int i),some (D.int n)] g=.ok (.int 0) g from rfl,Res.bind_ok,show Qa 0 [some (D.int i),some (D.int n)] g=.ok (.int i) g from rfl,Res.bind_ok,show mS (.int 0) (.int i) g=.ok (.bl (decide (0<=i))) g from rfl,Res.bind_ok];by_cases h0:0<=i
   ·rw[Uo h0];show Res.ok (D.bl (decide (i<n))) g=_;by_cases h1:i<n
    ·rw[Uo h1,Uo ⟨h0,h1⟩]
    ·rw[Ul h1,Ul λz=>h1 z.2]
   ·rw[Ul h0,Ul λz=>h0 z.1]
  have a1:Qs Vr (Qc (Qa 0) Ql) [some (.int i),some (.int n)] g=.ok (.bl true) g:=rfl;show(match QU (Jt (Qs Vr (Qc (Qa 0) Ql)) (ET mS FV (mI 0) (Qa 0) (Qa 1))) [some (.int i),some (.int n)] g with
   |.nx _ g'=>Res.ok D.non g'|.rt d g'=>.ok d g'|.raise e _ g'=>.raise e g'|_=>.stuck)=_
  unfold QU Jt;rw[a1,Res.bind_ok];dsimp only;rw[Ub rfl,c];rfl
 |_=>cases hp
theorem mW:Str.ofString "l"=⟨#[108]⟩:=by decide +kernel
theorem fF:Str.ofString "r"=⟨#[114]⟩:=by decide +kernel
def Ah:D->Bool
 |.str s=>s==⟨#[108]⟩||s==⟨#[114]⟩|_=>false
def HU(d:D)(states signs:Int):Bool:=match d with
 |.non=>true|.tup [a,b,c]=>XY a signs&&Ah b&&XY c states|_=>false
def thingD(_:G)(d:D):Prop:=d=.non\/∃(i j:Int)(w:Str),d=.tup [.int i,.str w,.int j]
theorem fG(s:Str)(g:G):IC false (.str s) (.tup [.str ⟨#[108]⟩,.str ⟨#[114]⟩]) g=.ok (.bl (Ah (.str s))) g:=by show Res.ok (D.bl ((⟨#[108]⟩==s)||((⟨#[114]⟩==s)||false))) g=.ok (.bl ((s==⟨#[108]⟩)||(s==⟨#[114]⟩))) g;rw[show((⟨#[108]⟩:Str)==s)=(s==⟨#[108]⟩) from BEq.comm,show((⟨#[114]⟩:Str)==s)=(s==⟨#[114]⟩) from BEq.comm,Wt]
theorem MQ(d:D)(states signs:Int)(g:G)(h:thingD g d):Xq [d,.int states,.int signs] g=.ok (.bl (HU d states signs)) g:=by
 rcases h with rfl|⟨i,j,w,rfl⟩
 ·rfl
 ·have a1:Qs ZQ (Qc (Qd Qv (Qa 0) (mI 0)) (Qc (Qa 2) Ql)) [some (.tup [.int i,.str w,.int j]),some (.int states),some (.int signs)] g=.ok (.bl (XY (.int i) signs)) g:=VO (.int i) signs g .int rfl;have a3:Qs ZQ (Qc (Qd Qv (Qa 0) (mI 2)) (Qc (Qa 1) Ql)) [some (.tup [.int i,.str w,.int j]),some (.int states),some (.int signs)] g=.ok (.bl (XY (.int j) states)) g:=VO (.int j) states g .int rfl;have a2:Qd (IC false) (Qd Qv (Qa 0) (mI 1)) (QA QO (Qc (Qp (.str "l")) (Qc (Qp (.str "r")) Ql))) [some (.tup [.int i,.str w,.int j]),some (.int states),some (.int signs)] g=.ok (.bl (Ah (.str w))) g:=by rw[mW,fF];exact fG w g
  show(match (QU (Jt (Qs ZQ (Qc (Qd Qv (Qa 0) (mI 0)) (Qc (Qa 2) Ql))) (Jt (Qd (IC false) (Qd Qv (Qa 0) (mI 1)) (QA QO (Qc (Qp (.str "l")) (Qc (Qp (.str "r")) Ql)))) (Qs ZQ (Qc (Qd Qv (Qa 0) (mI 2)) (Qc (Qa 1) Ql)))))) [some (.tup [.int i,.str w,.int j]),some (.int states),some (.int signs)] g with
   |.nx _ g'=>Res.ok D.non g'|.rt d g'=>.ok d g'|.raise e _ g'=>.raise e g'|_=>.stuck)=.ok (.bl (XY (.int i) signs&&Ah (.str w)&&XY (.int j) states)) g
  unfold QU Jt;rw[a1,Res.bind_ok];dsimp only;cases XY (.int i) signs
  ·rfl
  ·rw[Ub rfl,a2,Res.bind_ok];dsimp only;cases Ah (.str w)
   ·rfl
   ·rw[Ub rfl,a3];rfl
theorem Keeps.ty{g g1:G}(k:Keeps [] g g1){d:D}{t:Ty}(h:Ef g d=some t):Ef g1 d=some t:=by
 cases d with
 |ref n=>
  unfold Ef at h ⊢;dsimp only at h ⊢;cases hg:g[n]? with
  |none=>rw[hg]at h;cases h|some o=>rw[hg]at h;rw[k.at' n o (by simp) hg];exact h
 |_=>exact h
theorem thingD.mono{g g1:G}{d:D}(_:Keeps [] g g1)(h:thingD g d):thingD g1 d:=h
theorem MR{α:Type}(f:α->Bool):∀ts:List α,Cu (ts.map λd=>D.bl (f d))=some (ts.all f)
 |[]=>rfl|t::ts=>by simp[Cu,MR f ts]
def Xg(n m:Nat)(r:List D):Bool:=r.length==m&&r.all λd=>HU d n m
def VQ(rows:List (List D)):Bool:=match rows with
 |[]=>false|r::_=>r.length != 0&&rows.all (Xg rows.length r.length)
theorem LA(c:Nat)(t:Str)(σ:S3)(g:G):Zy c (Qc (Qp (.str t)) Ql) σ g=.raise (c,none) σ g:=by simp[Zy,Qc,Qp,Ql,Res.bind,SZ]
theorem eq_int(i j:Int)(g:G):Z8 (.int i) (.int j) g=.ok (.bl (i==j)) g:=rfl
theorem ne_int(i j:Int)(g:G):Ci (.int i) (.int j) g=.ok (.bl (!(i==j))) g:=rfl
theorem fH(n m:Nat)(ts:List D)(x:D)(g:G)(hz:ts.length<=SZ)(h:∀d∈ts,thingD g d):
  ∃g',Keeps [] g g'/\Qu Eg (ZK (QQ (Qa 3)) 1 [1,2] (Qm 0) ZV (Qs Xq (Qc (Qa 0) (Qc (Qa 1) (Qc (Qa 2) Ql))))) [some x,some (.int n),some (.int m),some (.tup ts)] g=.ok (.bl (ts.all λd=>HU d n m)) g':=by
 obtain⟨g1,h1,k1⟩:=On (ds:=ts) (e:=Qs Xq (Qc (Qa 0) (Qc (Qa 1) (Qc (Qa 2) Ql)))) (no:=0) (σ:=[some (.int n),some (.int m)]) (g:=g) (f:=λd=>.bl (HU d n m)) hz
  (λd hd g1 k=>⟨g1,by simp[Qs,Qc,Ql,Qa,Res.bind,MQ d n m g1 ((h d hd).mono k)],.refl⟩)
 refine⟨g1++[.lst (ts.map λd=>.bl (HU d n m))],k1.trans (.push _),?_⟩;have h1:YW ⟨λ_ i=>some ts[i]?,ts.length⟩ (Qm 0) ZV (Qs Xq (Qc (Qa 0) (Qc (Qa 1) (Qc (Qa 2) Ql)))) (ts.length+1) 0 [none,some (.int n),some (.int m)] g []=.ok (ts.map λd=>.bl (HU d n m)) g1:=h1;simp[Qu,ZK,QQ,Qa,Res.bind,Bm,hz,Ec,h1,Eg,MR]
theorem D7(n m:Nat)(ts:List D)(x:D)(g:G)(hz:ts.length<=SZ)(h:∀d∈ts,thingD g d):
  ∃g',Keeps [] g g'/\Yh [some x,some (.int n),some (.int m),some (.tup ts)] g=if Xg n m ts=true then .nx [some x,some (.int n),some (.int m),some (.tup ts)] g' else .raise (1,none) [some x,some (.int n),some (.int m),some (.tup ts)] g':=by
 by_cases hl:ts.length=m
 ·obtain⟨g2,k2,e2⟩:=fH n m ts x g hz h;refine⟨g2,k2,?_⟩;have hl':((ts.length:Int)==(m:Int))=true:=by simp[hl]
  have gr:Xg n m ts=ts.all λd=>HU d n m:=by simp[Xg,hl]
  rw[gr];simp only[Yh,Qq,Ye,Qn,Qd,Qu,Qa,Res.bind,Rw,Rx,Zg,ne_int,hl',Bool.not_true,TZ,Re,QI,Yq];simp only[Qu,Res.bind]at e2;rw[e2];cases (ts.all λd=>HU d n m)<;>simp[Zy,Qc,Qp,Ql,Res.bind,SZ]
 ·refine⟨g,.refl,?_⟩;have hl':((ts.length:Int)==(m:Int))=false:=by simp;omega
  have gr:Xg n m ts=false:=by
   have:(ts.length==m)=false:=by simp[hl]
   simp only[Xg,this,Bool.false_and]
  rw[gr];simp only[Yh,Qq,Ye,Qn,Qd,Qu,Qa,Res.bind,Rw,Rx,Zg,ne_int,hl',Bool.not_false,RI,LA,TZ,Re]
theorem HV(rows:List (List D))(g:G)(hz:∀r∈rows,r.length<=SZ)(h:∀r∈rows,∀d∈r,thingD g d):
  ∃g',Keeps [] g g'/\Jc [.tup (rows.map .tup)] g=if VQ rows=true then .ok .non g' else .raise (1,none) g':=by
 cases rows with
 |nil=>exact⟨g,.refl,by simp[Jc,Q6,Jb,Qq,Ye,Qn,Qd,Qu,Qa,Qp,Res.bind,Zg,eq_int,LA,VQ]⟩|cons r rest=>
  have e0:¬((rest.length:Int)+1=0):=by omega
  have e1:(0:Int)<(rest.length:Int)+1:=by omega
  by_cases hr:r.length=0
  ·refine⟨g,.refl,?_⟩;simp[Jc,Q6,Jb,Qq,Ye,Qn,Qd,Qu,Qa,Qp,Res.bind,Zg,eq_int,LA,VQ,hr,e0,e1,QI,Qy,Qm,Qv,VF,Gf]
  ·have hr':¬((r.length:Int)=0):=by omega
   have hrn:¬r=[]:=λz=>hr (by rw[z];rfl);have hd0:VQ (r::rest)=(r::rest).all (Xg (r::rest).length r.length):=by simp[VQ,hr]
   have loop:=Lz (t:=Qm 3) (ds:=(r::rest).map D.tup) (σ:=[some (.tup ((r::rest).map .tup)),some (.int (r::rest).length),some (.int r.length),none]) (g:=g) (body:=Yh)
    (λi σ g1=>Keeps [] g g1/\(∃u,σ=[some (.tup ((r::rest).map .tup)),some (.int (r::rest).length),some (.int r.length),u])/\∀x∈(r::rest).take i,Xg (r::rest).length r.length x=true)
    (λo=>∃σ' g1,o=.raise (1,none) σ' g1/\Keeps [] g g1/\∃x∈r::rest,Xg (r::rest).length r.length x=false) ⟨.refl,⟨none,rfl⟩,by simp⟩ (λi d σ g1 hd hQ=>by
     obtain⟨k,⟨u,hσ⟩,hg⟩:=hQ;rw[Uy]at hd;cases hx:(r::rest)[i]? with
     |none=>rw[hx]at hd;cases hd|some ts=>
      rw[hx]at hd;cases hd;have hm:ts∈r::rest:=WX hx;subst hσ;refine⟨_,rfl,?_⟩;obtain⟨g2,k2,e2⟩:=D7 (r::rest).length r.length ts (.tup ((r::rest).map .tup)) g1 (hz ts hm) λd hd=>(h ts hm d hd).mono k;simp only[List.set];rw[e2];cases ha:Xg (r::rest).length r.length ts with
      |true=>
       left;refine⟨_,g2,by rw[Ub rfl],k.trans k2,⟨_,rfl⟩,λx hx'=>?_⟩;rw[List.take_succ,hx]at hx';rcases U6.mp hx' with z|z
       ·exact hg x z
       ·have:x=ts:=by simpa using z
        rw[this];exact ha
      |false =>right;rw[Ud Uf];exact⟨trivial,_,g2,rfl,k.trans k2,ts,hm,ha⟩)
   have fin:Jb [some (.tup ((r::rest).map .tup)),none,none,none] g=JQ ⟨λ_ i=>some ((r::rest).map D.tup)[i]?,((r::rest).map D.tup).length⟩ (Qm 3) Yh (((r::rest).map D.tup).length+1) 0 [some (.tup ((r::rest).map .tup)),some (.int (r::rest).length),some (.int r.length),none] g:=by simp[Jb,Qq,Ye,Qn,Qd,Qu,Qa,Qp,Res.bind,Zg,eq_int,e0,QI,Qy,Qm,Qv,VF,Gf,e1,hr',hrn,YF,QQ,Bm]
   have ap:Jc [.tup ((r::rest).map .tup)] g=match Jb [some (.tup ((r::rest).map .tup)),none,none,none] g with
    |.nx _ g'=>.ok .non g'|.rt d g'=>.ok d g'|.raise e _ g'=>.raise e g'|_=>.stuck:=rfl
   rw[ap,fin];rcases loop with⟨σ',g',h1,k1,_,h2⟩|⟨_,σ',g',h1,k1,x,hx,hg⟩
   ·refine⟨g',k1,?_⟩;have:VQ (r::rest)=true:=by rw[hd0,Uu];intro x hx;exact h2 x (by rw[Ua,UX];exact hx)
    rw[Ub this,h1]
   ·refine⟨g',k1,?_⟩;have:¬VQ (r::rest)=true:=by rw[hd0,Uu];intro z;rw[z x hx]at hg;cases hg
    rw[Ud this,h1]
theorem Keeps.seq{g g1:G}(k:Keeps [] g g1){d:D}{p:Bool×List D}(h:QF g d=some p):QF g1 d=some p:=by
 cases d with
 |ref n=>
  unfold QF at h ⊢;dsimp only at h ⊢;cases hg:g[n]? with
  |none=>rw[hg]at h;cases h|some o=>rw[hg]at h;rw[k.at' n o (by simp) hg];exact h
 |_=>exact h
theorem V4{g:G}{d:D}{b:Bool}{ds:List D}(h:QF g d=some (b,ds)):∃src,Bm d g=.ok src g/\src.top=ds.length/\∀g1 i,QF g1 d=some (b,ds)->src.at' g1 i=some ds[i]?:=by
 cases d with
 |tup es=>cases h;exact⟨_,rfl,rfl,λ_ _ _=>rfl⟩|fl es=>cases h;exact⟨_,rfl,rfl,λ_ _ _=>rfl⟩|ref n=>
  unfold QF at h;dsimp only at h;cases hg:g[n]? with
  |none=>rw[hg]at h;cases h|some o=>
   rw[hg]at h;cases o with
   |lst es=>
    cases h;refine⟨_,by unfold Bm;dsimp only;rw[hg],rfl,λg1 i h1=>?_⟩;unfold QF at h1;dsimp only at h1 ⊢;cases hg1:g1[n]? with
    |none=>rw[hg1]at h1;cases h1|some o1=>
     rw[hg1]at h1;cases o1 with
     |lst es1=>cases h1;rfl|_=>cases h1
   |_=>cases h
 |_=>cases h
theorem MU{src:Src}{ds:List D}{e:ME}{no:Nat}{σ:S3}{g:G}{f:D->D}(ht:src.top=ds.length)(hs:∀g1 i,Keeps [] g g1->src.at' g1 i=some ds[i]?)(he:∀d∈ds,∀g1,Keeps [] g g1->∃g2,e ((List.replicate (no+1) none++σ).set 0 (some d)) g1=.ok (f d) g2/\Keeps [] g1 g2):
  ∃g',YW src (Qm 0) ZV e (src.top+1) 0 (List.replicate (no+1) none++σ) g []=.ok (ds.map f) g'/\Keeps [] g g':=by
 obtain⟨xs,σ',g',h1,h2,h3,h4⟩:=YT (src:=src) (t:=Qm 0) (c:=ZV) (e:=e) (n:=ds.length)
  (λi σ' g1 acc=>acc=(ds.take i).map f/\Keeps [] g g1/\∃u,σ'=(List.replicate (no+1) none++σ).set 0 u) (λi σ' g1 acc hi h=>by
   obtain⟨h1,h2,u,h3⟩:=h;obtain⟨g2,k1,k2⟩:=he ds[i] (UI hi) g1 h2;refine⟨ds[i],_,g1,by rw[hs g1 i h2];simp[hi],rfl,.inl ⟨f ds[i],g2,rfl,?_,?_,h2.trans k2,some ds[i],?_⟩⟩
   ·subst h3;rw[RE];exact k1
   ·rw[h1,Ux hi,UC];rfl
   ·subst h3;rw[RE]) (λσ g1 acc h=>by rw[hs g1 _ h.2.1];simp) (src.top+1) 0 (List.replicate (no+1) none++σ) g [] (by omega) (by omega) ⟨by simp,.refl,none,by simp[UV]⟩
 refine⟨g',?_,h3⟩;rw[h1,h2,UX]
def rowsOf(g:G)(d:D)(rows:List (List D)):Prop:=∃b ds,QF g d=some (b,ds)/\ds.length=rows.length/\∀(i:Nat) x r,ds[i]?=some x->rows[i]?=some r->∃c,QF g x=some (c,r)
theorem rowsOf.mono{g g1:G}{d:D}{rows:List (List D)}(k:Keeps [] g g1)(h:rowsOf g d rows):rowsOf g1 d rows:=by obtain⟨b,ds,h1,h2,h3⟩:=h;exact⟨b,ds,k.seq h1,h2,λi x r hx hr=>let ⟨c,q⟩:=h3 i x r hx hr;⟨c,k.seq q⟩⟩
theorem Fd{g:G}{d:D}{b:Bool}{ds:List D}(h:QF g d=some (b,ds)):Zw d g=.ok (.tup ds) g:=by
 cases d with
 |tup es=>cases h;rfl|fl es=>cases h;rfl|ref n=>
  unfold QF at h;dsimp only at h;cases hg:g[n]? with
  |none=>rw[hg]at h;cases h|some o=>
   rw[hg]at h;cases o with
   |lst es=>cases h;simp[Zw,hg]|_=>cases h
 |_=>cases h
theorem Ys:Str.ofString "table"=⟨#[116,97,98,108,101]⟩:=by decide +kernel
def JM(rows:List (List D)):GO:=.ins 11 [("table",.tup (rows.map .tup))]
theorem fI(m:Nat)(d:D)(rows:List (List D))(g:G)(hm:g[m]?=some (.ins 11 []))(hr:rowsOf g d rows)(hz:∀r∈rows,r.length<=SZ)(hl:rows.length<=SZ)(h:∀r∈rows,∀d∈r,thingD g d):
  ∃g',Keeps [] g g'/\Yb [.ref m,d] g=if VQ rows=true then .ok .non (g'.set m (JM rows)) else .raise (1,none) g':=by
 obtain⟨b,ds,h1,h2,h3⟩:=hr;obtain⟨src,s1,s2,s3⟩:=V4 h1;have mp:∀x∈ds,∃c r,QF g x=some (c,r):=λx hx=>by obtain⟨i,hi,rfl⟩:=Rh hx;obtain⟨c,q⟩:=h3 i ds[i] (rows[i]'(by omega)) (by simp[hi]) (by simp[show i<rows.length by omega]);exact⟨c,_,q⟩
 obtain⟨g1,c1,k1⟩:=MU (src:=src) (ds:=ds) (e:=Qu Zw (Qa 0)) (no:=0) (σ:=[]) (g:=g) (f:=λx=>.tup (((QF g x).map (·.2)).getD [])) s2 (λg1 i k=>s3 g1 i (k.seq h1)) (λx hx g1 k=>by obtain⟨c,r,q⟩:=mp x hx;refine⟨g1,?_,.refl⟩;simp[Qu,Qa,Res.bind,Fd (k.seq q),q]);have em:(ds.map λx=>D.tup (((QF g x).map (·.2)).getD []))=rows.map .tup:=by
  apply WA
  ·simp[h2]
  ·intro i hi hi';simp only[Ua]at hi hi';obtain⟨c,q⟩:=h3 i ds[i] rows[i] (by simp[hi]) (by simp[hi']);simp[q]
 rw[em]at c1;have c1:YW src (Qm 0) ZV (Qu Zw (Qa 0)) (src.top+1) 0 [none] g []=.ok (rows.map .tup) g1:=c1;have k2:Keeps [] g (g1++[.lst (rows.map .tup)]):=k1.trans (.push _);obtain⟨g3,k3,c3⟩:=HV rows (g1++[.lst (rows.map .tup)]) hz λr hr d hd=>(h r hr d hd).mono k2;refine⟨g3,k2.trans k3,?_⟩;have hz2:src.top<=SZ:=by omega
 have hm3:=(k2.trans k3).at' m _ (by simp) hm;simp[Yb,Q6,Bx,Qq,Qy,Qu,ZK,QQ,Qa,Res.bind,s1,hz2,Ec,c1,Zw,Qm,Zf,Qs,Qc,Ql,c3];by_cases hg:VQ rows=true
 ·simp[hg,ZC,Qa,hm3,Yl,JM]
 ·simp[hg]
theorem fJ(d:D)(rows:List (List D))(g:G)(hr:rowsOf g d rows)(hz:∀r∈rows,r.length<=SZ)(hl:rows.length<=SZ)(h:∀r∈rows,∀d∈r,thingD g d)(a:MA)(σ:S3)(g0:G)(ha:a σ g0=.ok [d] g):
  ∃g',Keeps [] g g'/\Bl 11 Yb a σ g0=(if VQ rows=true then .ok (.ref g.length) g' else .raise (1,none) g')/\(VQ rows=true->g'[g.length]?=some (JM rows)):=by
 have kp:Keeps [] g (g++[.ins 11 []]):=.push _;obtain⟨g',k',e'⟩:=fI g.length d rows (g++[.ins 11 []]) (Qw _) (hr.mono kp) hz hl λr hr d hd=>(h r hr d hd).mono kp;by_cases hg:VQ rows=true
 ·rw[Ub hg]at e';refine⟨g'.set g.length (JM rows),?_,?_,λ_=>?_⟩
  ·refine⟨by rw[UJ];exact Um kp.len k'.len,λn o _ e=>?_⟩;have hn:n<g.length:=ZB e;rw[Uh (by omega)];exact(kp.trans k').at' n o (by simp) e
  ·simp[Bl,ha,Res.bind,e',hg]
  ·rw[Tg];have:=k'.len;simp at this;omega
 ·rw[Ud hg]at e';exact⟨g',kp.trans k',by simp[Bl,ha,Res.bind,e',hg],λz=>absurd z hg⟩
theorem JI{a b:MS}{σ σ':S3}{g g':G}(h:a σ g=.nx σ' g'):Qq a b σ g=b σ' g':=by unfold Qq;rw[h]
theorem LB{a b:MS}{σ:S3}{d:D}{g g':G}(h:a σ g=.rt d g'):Qq a b σ g=.rt d g':=by unfold Qq;rw[h]
theorem QR{i:Nat}{a:ME}{σ:S3}{d:D}{g g':G}(h:a σ g=.ok d g'):Qy (Qm i) a σ g=.nx (σ.set i (some d)) g':=by unfold Qy;rw[h];rfl
theorem GY{c:MT}{a b:MS}{σ:S3}{g g':G}(h:c σ g=.ok true g'):Ye c a b σ g=a σ g':=by unfold Ye;rw[h];rfl
theorem IL{c:MT}{a b:MS}{σ:S3}{g g':G}(h:c σ g=.ok false g'):Ye c a b σ g=b σ g':=by unfold Ye;rw[h];rfl
theorem QH{f:MF}{a:MA}{σ:S3}{ds:List D}{g g':G}(h:a σ g=.ok ds g'):Qs f a σ g=f ds g':=by unfold Qs;rw[h];rfl
theorem Yt{a:ME}{σ:S3}{d:D}{g g':G}(h:a σ g=.ok d g'):Zf a σ g=.nx σ g':=by unfold Zf;rw[h]
theorem Yy{a:ME}{σ:S3}{d:D}{g g':G}(h:a σ g=.ok d g'):QU a σ g=.rt d g':=by unfold QU;rw[h]
theorem Zm{k n:Nat}{b:MS}{ds:List D}{d:D}{g g':G}(hl:ds.length=k)(h:b (ds.map some++List.replicate n none) g=.rt d g'):Q6 k n b ds g=.ok d g':=by unfold Q6;rw[Ub hl,h]
theorem lT(ns:List Int)(i:Int)(h:0<ns.length):∃x,VF (ns.map D.int) (i%ns.length)=some (.int x):=by
 have h1:0<=i % (ns.length:Int):=UT _ (by omega);have h2:i % (ns.length:Int)<ns.length:=UK _ (by omega);have h3:(i % (ns.length:Int)).toNat<ns.length:=by omega
 refine⟨ns[(i % (ns.length:Int)).toNat],?_⟩;unfold VF Gf;rw[Ua,Ub h1,Ub h2];simp[h3]
theorem tU{a:Nat}{d:D}{g:G}(h:g[a]?=some (.lst [d])):Qv (.ref a) (.int 0) g=.ok d g:=by unfold Qv;dsimp only;rw[h];rfl
theorem tV{ds:List D}{i:Int}{d:D}{g:G}(h:VF ds i=some d):Qv (.fl ds) (.int i) g=.ok d g:=by unfold Qv;dsimp only;rw[h]
theorem Ai(c:Int)(x:D)(a:Nat)(k:Int)(g:G)(ga:g[a]?=some (.lst [.int k]))(hk:0<=k)(hk2:k<1000000001):∃m,0<=m/\m<1999999973/\(Qq (Qy (Qm 3) (Qd Yg (Qd JG (Qd QC (Qd QC (Qd Yg (Qa 2) (mI 2147483647)) (Qd JG (Qd JG (Qd Qv (Qa 1) (mI 0)) (Qd Qv (Qa 1) (mI 0))) (mI 7919))) (mI 11)) (mI 48271)) (mI 2147483647)))
      (QU (Qd Yg (Qd JG (Qa 3) (Qa 3)) (mI 1999999973)))) [some x,some (.ref a),some (.int c),none] g=.rt (.int m) g:=by
  have c1:cM k:=⟨by omega,by omega⟩;have c2:cM 7919:=⟨by decide,by decide⟩;have c3:cM 48271:=⟨by decide,by decide⟩;have hr:=UK ((c%2147483647+k*k*7919+11)*48271) (show(0:Int)<2147483647 by decide);have hr0:=UT ((c%2147483647+k*k*7919+11)*48271) (show(2147483647:Int)≠0 by decide);have c4:cM (((c%2147483647+k*k*7919+11)*48271) % 2147483647):=⟨by omega,by omega⟩;refine⟨((c%2147483647+k*k*7919+11)*48271) % 2147483647*(((c%2147483647+k*k*7919+11)*48271) % 2147483647) % 1999999973,UT _ (by decide),UK _ (by decide),?_⟩;have e1:(Qd Yg (Qd JG (Qd QC (Qd QC (Qd Yg (Qa 2) (mI 2147483647)) (Qd JG (Qd JG (Qd Qv (Qa 1) (mI 0)) (Qd Qv (Qa 1) (mI 0))) (mI 7919))) (mI 11)) (mI 48271)) (mI 2147483647)) [some x,some (.ref a),some (.int c),none] g=.ok (.int (((c%2147483647+k*k*7919+11)*48271) % 2147483647)) g:=by simp[Qd,Qa,Qp,Res.bind,tU ga,Yg,JG,QC,c1,c2,c3]
  rw[JI (QR e1)];generalize ((c%2147483647+k*k*7919+11)*48271) % 2147483647=r at c4 ⊢;refine Yy ?_;simp[Qd,Qa,Qp,Res.bind,Yg,JG,c4]
theorem B8(ns:List Int)(a:Nat)(k:Int)(g:G)(hg:g[a]?=some (.lst [.int k]))(hk:0<=k)(hk2:k<1000000000):
  ∃m,0<=m/\m<1999999973/\J5 [.fl (ns.map .int),.ref a] g=.ok (.int m) (g.set a (.lst [.int (k+1)])):=by
 have s1:ZO (Qa 1) (mI 0) (Qd QC (Qd Qv (Qa 1) (mI 0)) (mI 1)) [some (.fl (ns.map .int)),some (.ref a),none,none] g=.nx [some (.fl (ns.map .int)),some (.ref a),none,none] (g.set a (.lst [.int (k+1)])):=by simp[ZO,Qd,Qa,Qp,Res.bind,tU hg,QC,hg,Gf]
 have ga:(g.set a (.lst [.int (k+1)]))[a]?=some (.lst [.int (k+1)]):=Zb hg;generalize g.set a (.lst [.int (k+1)])=g1 at s1 ga ⊢;have s2:Qy (Qm 2) (mI 0) [some (.fl (ns.map .int)),some (.ref a),none,none] g1=.nx [some (.fl (ns.map .int)),some (.ref a),some (.int 0),none] g1:=rfl;have s3:∃c,Ye (Qn (Qd Lj (Qu Zg (Qa 0)) (mI 0))) (Qy (Qm 2) (Qd Qv (Qa 0) (Qd Yg (Qd Qv (Qa 1) (mI 0)) (Qu Zg (Qa 0))))) QI [some (.fl (ns.map .int)),some (.ref a),some (.int 0),none] g1=.nx [some (.fl (ns.map .int)),some (.ref a),some (.int c),none] g1:=by
  by_cases hl:0<ns.length
  ·obtain⟨x,hx⟩:=lT ns (k+1) hl;have hl':(0:Int)<(ns.length:Int):=by omega
   refine⟨x,?_⟩;rw[GY (g':=g1) (by simp[Qn,Qd,Qu,Qa,Qp,Res.bind,Zg,Lj,SM,hl])];refine QR ?_;simp only[Qd,Qu,Qa,Qp,Res.bind,Rw,Rx,tU ga,Zg,Yg,Ua,hl',RI,tV hx]
  ·cases ns with
   |nil=>exact⟨0,rfl⟩|cons x r=>simp at hl
 obtain⟨c,s3⟩:=s3;obtain⟨m,m1,m2,m3⟩:=Ai c (.fl (ns.map .int)) a (k+1) g1 ga (by omega) (by omega);refine⟨m,m1,m2,Zm rfl ?_⟩;show GP [some (.fl (ns.map .int)),some (.ref a),none,none] g=_;unfold GP;rw[JI s1,JI s2,JI s3,m3]
def entOk(d:D)(n m:Nat):Prop:=d=.non\/∃(i j:Int)(w:Str),d=.tup [.int i,.str w,.int j]/\0<=i/\i<m/\0<=j/\j<n/\(w=⟨#[108]⟩\/w=⟨#[114]⟩)
theorem entOk.ent{d:D}{n m:Nat}(h:entOk d n m):HU d n m=true:=by
 rcases h with rfl|⟨i,j,w,rfl,h1,h2,h3,h4,h5⟩
 ·rfl
 ·rcases h5 with rfl|rfl<;>simp[HU,XY,Ah,h1,h2,h3,h4]
theorem entOk.thing{d:D}{n m:Nat}{g:G}(h:entOk d n m):thingD g d:=by
 rcases h with h|⟨i,j,w,h,_⟩
 ·exact .inl h
 ·exact .inr ⟨i,j,w,h⟩
theorem oZ:Str.ofString "lr"=⟨#[108,114]⟩:=by decide +kernel
theorem pA(i:Int)(g:G):∃w,Qv (.str "lr") (.int (i%2)) g=.ok (.str w) g/\(w=⟨#[108]⟩\/w=⟨#[114]⟩):=by
 rw[oZ];rcases(by omega:i%2=0\/i%2=1) with e|e
 ·rw[e];exact⟨_,rfl,.inl rfl⟩
 ·rw[e];exact⟨_,rfl,.inr rfl⟩
theorem Fe{n:Nat}{ds:List D}{y:D}{σ:S3}{g:G}{i j:Nat}(hi:σ[i]?=some (some (.ref n)))(hj:σ[j]?=some (some y))(h:g[n]?=some (.lst ds))(hz:ds.length<SZ):
  Zf (ZT (Qa i) (Qa j)) σ g=.nx σ (g.set n (.lst (ds++[y]))):=by
 refine Yt (d:=.non) ?_;simp[ZT,Qa,hi,hj,Res.bind,h,hz]
theorem Aj(ns:List Int)(a l t:Nat)(k:Int)(n m:Nat)(x5 x7 x8 x9:Option D)(row:List D)(g:G)(hn:0<n)(hm:0<m)(ga:g[a]?=some (.lst [.int k]))(gl:g[l]?=some (.lst row))(hal:a≠l)(hk:0<=k)(hk2:k<1000000000)(hz:row.length<SZ):
  ∃d x8',entOk d n m/\YI [some (.fl (ns.map .int)),some (.ref a),some (.int n),some (.int m),some (.ref t),x5,some (.ref l),x7,x8,x9] g=.nx [some (.fl (ns.map .int)),some (.ref a),some (.int n),some (.int m),some (.ref t),x5,some (.ref l),x7,x8',some d] ((g.set a (.lst [.int (k+1)])).set l (.lst (row++[d]))):=by
 obtain⟨mm,m1,m2,e⟩:=B8 ns a k g ga hk hk2;have gl1:(g.set a (.lst [.int (k+1)]))[l]?=some (.lst row):=by rw[Uh hal];exact gl
 generalize g.set a (.lst [.int (k+1)])=g1 at e gl1 ⊢;obtain⟨w,hw,ww⟩:=pA (mm/100) g1;have hm':(0:Int)<m:=by omega
 have hn':(0:Int)<n:=by omega
 have s1:Qy (Qm 8) (Qs J5 (Qc (Qa 0) (Qc (Qa 1) Ql))) [some (.fl (ns.map .int)),some (.ref a),some (.int n),some (.int m),some (.ref t),x5,some (.ref l),x7,x8,x9] g=.nx [some (.fl (ns.map .int)),some (.ref a),some (.int n),some (.int m),some (.ref t),x5,some (.ref l),x7,some (.int mm),x9] g1:=QR (by rw[QH (ds:=[.fl (ns.map .int),.ref a]) (g':=g) rfl];exact e)
 have v2:(QA QO (Qc (Qd Yg (Qd Yw (Qa 8) (mI 9)) (Qa 3)) (Qc (Qd Qv (Qp (.str "lr")) (Qd Yg (Qd Yw (Qa 8) (mI 100)) (mI 2))) (Qc (Qd Yg (Qd Yw (Qa 8) (mI 300)) (Qa 2)) Ql)))) [some (.fl (ns.map .int)),some (.ref a),some (.int n),some (.int m),some (.ref t),x5,some (.ref l),x7,some (.int mm),x9] g1=.ok (.tup [.int (mm/9%m),.str w,.int (mm/300%n)]) g1:=by simp[QA,Qc,Ql,Qd,Qa,Qp,Res.bind,Yw,Yg,hm',hn',hw,QO,SZ,hm,hn]
 have s2:Qy (Qm 9) (QA QO (Qc (Qd Yg (Qd Yw (Qa 8) (mI 9)) (Qa 3)) (Qc (Qd Qv (Qp (.str "lr")) (Qd Yg (Qd Yw (Qa 8) (mI 100)) (mI 2))) (Qc (Qd Yg (Qd Yw (Qa 8) (mI 300)) (Qa 2)) Ql)))) [some (.fl (ns.map .int)),some (.ref a),some (.int n),some (.int m),some (.ref t),x5,some (.ref l),x7,some (.int mm),x9] g1=.nx [some (.fl (ns.map .int)),some (.ref a),some (.int n),some (.int m),some (.ref t),x5,some (.ref l),x7,some (.int mm),some (.tup [.int (mm/9%m),.str w,.int (mm/300%n)])] g1:=QR v2;have t3:Qn (Qd Z8 (Qd Yg (Qa 8) (mI 9)) (mI 0)) [some (.fl (ns.map .int)),some (.ref a),some (.int n),some (.int m),some (.ref t),x5,some (.ref l),x7,some (.int mm),some (.tup [.int (mm/9%m),.str w,.int (mm/300%n)])] g1=.ok (mm%9==0) g1:=by simp[Qn,Qd,Qa,Qp,Res.bind,Yg,eq_int]
 unfold YI;by_cases h9:mm%9=0
 ·refine⟨.non,some (.int mm),.inl rfl,?_⟩;rw[JI s1,JI s2,JI (σ':=[some (.fl (ns.map .int)),some (.ref a),some (.int n),some (.int m),some (.ref t),x5,some (.ref l),x7,some (.int mm),some .non]) (g':=g1) ?_]
  ·exact Fe rfl rfl gl1 hz
  ·rw[GY (g':=g1) (t3.trans (by simp[h9]))];rfl
 ·refine⟨.tup [.int (mm/9%m),.str w,.int (mm/300%n)],some (.int mm),.inr ⟨_,_,w,rfl,UT _ (by omega),UK _ hm',UT _ (by omega),UK _ hn',ww⟩,?_⟩;rw[JI s1,JI s2,JI (σ':=[some (.fl (ns.map .int)),some (.ref a),some (.int n),some (.int m),some (.ref t),x5,some (.ref l),x7,some (.int mm),some (.tup [.int (mm/9%m),.str w,.int (mm/300%n)])]) (g':=g1) ?_]
  ·exact Fe rfl rfl gl1 hz
  ·rw[IL (g':=g1) (t3.trans (by simp[h9]))];rfl
theorem Vw{n:Nat}(h:n<=1000):n<SZ:=Nat.lt_of_le_of_lt h (by decide)
theorem Xh{n:Nat}(h:n<=1000):iC (n:Int):=by
 have:(n:Int)<=1000:=by exact_mod_cast h
 constructor<;>omega
theorem ZR{a:ME}{n:Nat}{σ:S3}{g g':G}(h:a σ g=.ok (.int n) g')(hr:iC (n:Int)):QJ a σ g=.ok (Zu 0 n) g':=by unfold QJ;rw[h,Res.bind_ok];dsimp only;rw[Ub hr,US]
theorem Yp{it:MI}{t:MG}{body:MS}{src:Src}{σ:S3}{g g':G}(h:it σ g=.ok src g'):YF it t body σ g=JQ src t body (src.top+1) 0 σ g':=by unfold YF;rw[h]
theorem D8(ns:List Int)(a l t:Nat)(k:Int)(n m:Nat)(x5 x7 x8 x9:Option D)(g:G)(hn:0<n)(hm:0<m)(hm8:m<=8)(ga:g[a]?=some (.lst [.int k]))(gl:g[l]?=some (.lst []))(hal:a≠l)(hk:0<=k)(hk2:k+m<1000000000):
  ∃row y7 y8 y9 g',YF (QJ (Qa 3)) (Qm 7) YI [some (.fl (ns.map .int)),some (.ref a),some (.int n),some (.int m),some (.ref t),x5,some (.ref l),x7,x8,x9] g=.nx [some (.fl (ns.map .int)),some (.ref a),some (.int n),some (.int m),some (.ref t),x5,some (.ref l),y7,y8,y9] g'/\row.length=m/\(∀d∈row,entOk d n m)/\Keeps [a,l] g g'/\g'[a]?=some (.lst [.int (k+m)])/\g'[l]?=some (.lst row):=by
 have hr:iC (m:Int):=Xh (by omega);have hf:YF (QJ (Qa 3)) (Qm 7) YI [some (.fl (ns.map .int)),some (.ref a),some (.int n),some (.int m),some (.ref t),x5,some (.ref l),x7,x8,x9] g=JQ (Zu 0 m) (Qm 7) YI (m+1) 0 [some (.fl (ns.map .int)),some (.ref a),some (.int n),some (.int m),some (.ref t),x5,some (.ref l),x7,x8,x9] g:=Yp (ZR rfl hr);rw[hf];obtain⟨σ',g',e,row,y7,y8,y9,h1,h2,h3,h4,h5,h6⟩:=Yi (t:=Qm 7) (body:=YI) (lo:=0) (n:=m) (σ:=[some (.fl (ns.map .int)),some (.ref a),some (.int n),some (.int m),some (.ref t),x5,some (.ref l),x7,x8,x9]) (g:=g)
  (λi σ g1=>∃row y7 y8 y9,σ=[some (.fl (ns.map .int)),some (.ref a),some (.int n),some (.int m),some (.ref t),x5,some (.ref l),y7,y8,y9]/\row.length=i/\(∀d∈row,entOk d n m)/\Keeps [a,l] g g1/\g1[a]?=some (.lst [.int (k+i)])/\g1[l]?=some (.lst row))
  ⟨[],x7,x8,x9,rfl,rfl,by simp,.refl,by simpa using ga,gl⟩ (λi σ g1 hi ⟨row,y7,y8,y9,h1,h2,h3,h4,h5,h6⟩=>by
   subst h1;obtain⟨d,x8',hd,e⟩:=Aj ns a l t (k+i) n m x5 (some (.int (0+i))) y8 y9 row g1 hn hm h5 h6 hal (by omega) (by omega) (Vw (by omega));refine⟨_,_,_,rfl,e,row++[d],_,x8',_,rfl,by simp[h2],?_,?_,?_,?_⟩
   ·intro x hx;rcases U6.mp hx with z|z
    ·exact h3 x z
    ·rw[Ur.mp z];exact hd
   ·exact h4.trans (((Keeps.set a _).mono (by simp)).trans ((Keeps.set l _).mono (by simp)))
   ·rw[Uh (Ne.symm hal),Zb h5];simp;omega
   ·refine Zb (o:=.lst row) ?_;rw[Uh hal];exact h6)
 exact⟨row,y7,y8,y9,g',by rw[e,h1],h2,h3,h4,h5,h6⟩
theorem wM{a b c:Nat}(h1:a<b)(h2:b<c):a≠c:=by omega
theorem wN{k x:Int}(h1:0<=k)(h2:0<=x):0<=k+x:=by omega
theorem wO{k x:Int}{m:Nat}(h1:k<900000000)(h2:x<=96)(h3:m<=8):k+x+m<1000000000:=by omega
theorem wP{a b c:Nat}{ds:List D}(h2:ds.length=a)(hi:a<b)(h3:b<=12):ds.length<=1000:=by omega
def tabOf(N:Nat)(g:G)(t:Nat)(rows:List (List D)):Prop:=N<=t/\∃ds,g[t]?=some (.lst ds)/\ds.length=rows.length/\∀(i:Nat) x r,ds[i]?=some x->rows[i]?=some r->∃n,x=.ref n/\N<=n/\n≠t/\g[n]?=some (.lst r)
theorem tabOf.rows{N:Nat}{g:G}{t:Nat}{rows:List (List D)}(h:tabOf N g t rows):rowsOf g (.ref t) rows:=by obtain⟨_,ds,h1,h2,h3⟩:=h;refine⟨true,ds,by simp[QF,h1],h2,λi x r hx hr=>?_⟩;obtain⟨n,rfl,_,_,h4⟩:=h3 i x r hx hr;exact⟨true,by simp[QF,h4]⟩
theorem tabOf.mono{N:Nat}{S:List Nat}{g g1:G}{t:Nat}{rows:List (List D)}(h:tabOf N g t rows)(k:Keeps S g g1)(hS:∀n∈S,n<N):tabOf N g1 t rows:=by obtain⟨h0,ds,h1,h2,h3⟩:=h;refine⟨h0,ds,k.at' t _ (λz=>by have:=hS t z;omega) h1,h2,λi x r hx hr=>?_⟩;obtain⟨n,h4,h5,h6,h7⟩:=h3 i x r hx hr;exact⟨n,h4,h5,h6,k.at' n _ (λz=>by have:=hS n z;omega) h7⟩
theorem D9(ns:List Int)(a:Nat)(k:Int)(n m:Nat)(g:G)(hn:0<n)(hm:0<m)(hn12:n<=12)(hm8:m<=8)(ga:g[a]?=some (.lst [.int k]))(hk:0<=k)(hk2:k<900000000):
  ∃rows g',E3 [.fl (ns.map .int),.ref a,.int n,.int m] g=.ok (.ref g.length) g'/\Keeps [a] g g'/\g'[a]?=some (.lst [.int (k+n*m)])/\tabOf g.length g' g.length rows/\rows.length=n/\(∀r∈rows,r.length=m)/\(∀r∈rows,∀d∈r,entOk d n m)/\∃ds,g'[g.length]?=some (.lst ds)/\ds.Nodup:=by
 have hr:iC (n:Int):=Xh (by omega);have hal:a<g.length:=ZB ga;have hz0:([]:List D).length<=SZ:=by simp
 have s1:Qy (Qm 4) (QA JS Ql) [some (.fl (ns.map .int)),some (.ref a),some (.int n),some (.int m),none,none,none,none,none,none] g=.nx [some (.fl (ns.map .int)),some (.ref a),some (.int n),some (.int m),some (.ref g.length),none,none,none,none,none] (g++[.lst []]):=QR (by simp[QA,Ql,Res.bind,JS])
 have kp:Keeps [a] g (g++[.lst []]):=.push _;have ga1:(g++[.lst []])[a]?=some (.lst [.int k]):=(Keeps.push (S:=[]) (.lst [])).at' a _ (by simp) ga;have gt1:(g++[.lst []])[g.length]?=some (.lst []):=Qw _;have hl1:g.length<(g++[GO.lst []]).length:=by simp
 generalize g++[.lst []]=g1 at s1 kp ga1 gt1 hl1;obtain⟨σ',g',e,ds,rows,y5,y6,y7,y8,y9,h1,h2,h3,h4,h5,h6,h7,h8,h9,h10⟩:=Yi (t:=Qm 5) (body:=X5) (lo:=0) (n:=n) (σ:=[some (.fl (ns.map .int)),some (.ref a),some (.int n),some (.int m),some (.ref g.length),none,none,none,none,none]) (g:=g1)
  (λi σ g2=>∃ds rows y5 y6 y7 y8 y9,σ=[some (.fl (ns.map .int)),some (.ref a),some (.int n),some (.int m),some (.ref g.length),y5,y6,y7,y8,y9]/\ds.length=i/\rows.length=i/\Keeps [a,g.length] g1 g2/\g2[a]?=some (.lst [.int (k+i*m)])/\g2[g.length]?=some (.lst ds)/\(∀(i:Nat) x r,ds[i]?=some x->rows[i]?=some r->∃n,x=.ref n/\g.length<n/\g2[n]?=some (.lst r))/\(∀r∈rows,r.length=m)/\(∀r∈rows,∀d∈r,entOk d n m)/\ds.Nodup)
  ⟨[],[],none,none,none,none,none,rfl,rfl,rfl,.refl,by simpa using ga1,gt1,by simp,by simp,by simp,.nil⟩ (λi σ g2 hi ⟨ds,rows,y5,y6,y7,y8,y9,h1,h2,h3,h4,h5,h6,h7,h8,h9,h10⟩=>by
   subst h1;have hl2:g.length<g2.length:=ZB h6;have q1:Qy (Qm 6) (QA JS Ql) [some (.fl (ns.map .int)),some (.ref a),some (.int n),some (.int m),some (.ref g.length),some (.int (0+i)),y6,y7,y8,y9] g2=.nx [some (.fl (ns.map .int)),some (.ref a),some (.int n),some (.int m),some (.ref g.length),some (.int (0+i)),some (.ref g2.length),y7,y8,y9] (g2++[.lst []]):=QR (by simp[QA,Ql,Res.bind,JS])
   have k3:Keeps [] g2 (g2++[.lst []]):=.push _;have gl3:(g2++[.lst []])[g2.length]?=some (.lst []):=Qw _;generalize g2++[.lst []]=g3 at q1 k3 gl3;have him:(i:Int)*m<=96:=by
    have:i*m<=12*8:=RD (by omega) hm8
    exact_mod_cast this
   have him0:(0:Int)<=(i:Int)*m:=Int.mul_nonneg (by omega) (by omega);obtain⟨row,z7,z8,z9,g4,e4,r1,r2,r3,r4,r5⟩:=D8 ns a g2.length g.length (k+i*m) n m (some (.int (0+i))) y7 y8 y9 g3 hn hm hm8 (k3.at' a _ (by simp) h5) gl3 (wM hal hl2) (wN hk him0) (wO hk2 him hm8);have gt4:g4[g.length]?=some (.lst ds):=r3.at' _ _ (by simp;omega) (k3.at' _ _ (by simp) h6);refine⟨_,[some (.fl (ns.map .int)),some (.ref a),some (.int n),some (.int m),some (.ref g.length),some (.int (0+i)),some (.ref g2.length),z7,z8,z9],g4.set g.length (.lst (ds++[.ref g2.length])),rfl,?_,ds++[.ref g2.length],rows++[row],_,_,z7,z8,z9,rfl,by simp[h2],by simp[h3],?_,?_,?_,?_,?_,?_,?_⟩
   ·show X5 [some (.fl (ns.map .int)),some (.ref a),some (.int n),some (.int m),some (.ref g.length),some (.int (0+i)),y6,y7,y8,y9] g2=_;unfold X5;rw[JI q1,JI e4];exact Fe rfl rfl gt4 (Vw (wP (c:=0) h2 hi hn12))
   ·refine⟨by rw[UJ];exact Um h4.len (Um k3.len r3.len),λb o hb eb=>?_⟩;have hb':b≠a/\b≠g.length:=by simpa using hb
    have e2:=h4.at' b o hb eb;have:b<g2.length:=ZB e2;rw[Uh (Ne.symm hb'.2)];exact r3.at' b o (by simp;omega) (k3.at' b o (by simp) e2)
   ·rw[Uh (by omega),r4];have:k+(i:Int)*m+m=k+((i+1:Nat):Int)*m:=by rw[Rr,Int.add_mul];simp;omega
    rw[this]
   ·exact Zb gt4
   ·intro j x r hx hr';have key:∀b o,g.length<b->g2[b]?=some o->(g4.set g.length (.lst (ds++[.ref g2.length])))[b]?=some o:=λb o hb eb=>by have:b<g2.length:=ZB eb;rw[Uh (by omega)];exact r3.at' b o (by simp;omega) (k3.at' b o (by simp) eb)
    by_cases hj:j<i
    ·rw[Uq (by omega)]at hx hr';obtain⟨b,hb1,hb2,hb3⟩:=h7 j x r hx hr';exact⟨b,hb1,hb2,key b _ hb2 hb3⟩
    ·have hji:j=i:=by have:=(Uj.mp hx).1;simp at this;omega
     subst hji;rw[Uw (by omega),h2]at hx;rw[Uw (by omega),h3]at hr';simp at hx hr';subst hx hr';exact⟨g2.length,rfl,hl2,by rw[Uh (by omega)];exact r5⟩
   ·intro r hr';rcases U6.mp hr' with z|z
    ·exact h8 r z
    ·rw[Ur.mp z];exact r1
   ·intro r hr';rcases U6.mp hr' with z|z
    ·exact h9 r z
    ·rw[Ur.mp z];exact r2
   ·rw[RA];refine⟨h10,by simp,λx hx y hy=>?_⟩;rw[Ur.mp hy];obtain⟨j,hj,rfl⟩:=Rh hx;obtain⟨b,q1,q2,q3⟩:=h7 j ds[j] (rows[j]'(by omega)) (by simp[hj]) (by simp[show j<rows.length by omega]);have:=ZB q3;rw[q1];intro z;cases z;omega)
 refine⟨rows,g',?_,?_,h5,⟨Ui _,ds,h6,by omega,λi x r hx hr'=>?_⟩,h3,h8,h9,ds,h6,h10⟩
 ·refine Zm rfl ?_;show E2 [some (.fl (ns.map .int)),some (.ref a),some (.int n),some (.int m),none,none,none,none,none,none] g=_;unfold E2;rw[JI s1,JI (σ':=σ') (g':=g') ?_]
  ·subst h1;rfl
  ·rw[<-e];exact Yp (ZR rfl hr)
 ·refine⟨Um kp.len h4.len,λb o hb eb=>?_⟩;have:b<g.length:=ZB eb;exact h4.at' b o (by simp at hb ⊢;omega) (kp.at' b o hb eb)
 ·obtain⟨b,hb1,hb2,hb3⟩:=h7 i x r hx hr';exact⟨b,hb1,by omega,by omega,hb3⟩
theorem Qo{a b:MS}{σ:S3}{g:G}{R:Out}(σ':S3)(g':G)(h:a σ g=.nx σ' g')(h2:b σ' g'=R):Qq a b σ g=R:=(JI h).trans h2
theorem Ma{c:MT}{a b:MS}{σ:S3}{g:G}{R:Out}(g':G)(h:c σ g=.ok true g')(h2:a σ g'=R):Ye c a b σ g=R:=(GY h).trans h2
theorem Jo{c:MT}{a b:MS}{σ:S3}{g:G}{R:Out}(g':G)(h:c σ g=.ok false g')(h2:b σ g'=R):Ye c a b σ g=R:=(IL h).trans h2
theorem Kf{i:Int}(h0:-1000000<=i)(h1:i<=1000000):cM i:=⟨by omega,by omega⟩
theorem fK{i j:Int}{g:G}(h:cM i):JG (.int i) (.int j) g=.ok (.int (i*j)) g:=Ub (.inl h)
theorem pB{i j:Int}{g:G}(h:cM j):JG (.int i) (.int j) g=.ok (.int (i*j)) g:=Ub (.inr h)
theorem CN{i j:Int}{g:G}(h:0<j):Yg (.int i) (.int j) g=.ok (.int (i%j)) g:=Ub h
theorem GZ{i j:Int}{g:G}(h:0<j)(h2:j<=1000000):Yw (.int i) (.int j) g=.ok (.int (i/j)) g:=Ub ⟨h,by omega⟩
theorem BE{k n:Nat}{b:MS}{ds:List D}{σ:S3}{g g':G}(hl:ds.length=k)(h:b (ds.map some++List.replicate n none) g=.nx σ g'):Q6 k n b ds g=.ok .non g':=by unfold Q6;rw[Ub hl,h]
theorem Ff{k n:Nat}{b:MS}{ds:List D}{x:Xc}{σ:S3}{g g':G}(hl:ds.length=k)(h:b (ds.map some++List.replicate n none) g=.raise x σ g'):Q6 k n b ds g=.raise x g':=by unfold Q6;rw[Ub hl,h]
theorem Qr{f:D->D->G->Res D}{a b:ME}{σ:S3}{x y:D}{g g1 g2:G}{R:Res D}(ha:a σ g=.ok x g1)(hb:b σ g1=.ok y g2)(h:f x y g2=R):Qd f a b σ g=R:=by unfold Qd;rw[ha,Res.bind_ok,hb,Res.bind_ok,h]
theorem YN{f:D->G->Res D}{a:ME}{σ:S3}{x:D}{g g1:G}{R:Res D}(ha:a σ g=.ok x g1)(h:f x g1=R):Qu f a σ g=R:=by unfold Qu;rw[ha,Res.bind_ok,h]
theorem Zq{a:ME}{σ:S3}{b:Bool}{g g1:G}(ha:a σ g=.ok (.bl b) g1):Qn a σ g=.ok b g1:=by unfold Qn;rw[ha,Res.bind_ok]
theorem QK{a:ME}{r:MA}{x:D}{xs:List D}{σ:S3}{g g1 g2:G}(h:a σ g=.ok x g1)(h2:r σ g1=.ok xs g2):Qc a r σ g=.ok (x::xs) g2:=by unfold Qc;rw[h,Res.bind_ok,h2];rfl
theorem Fg{n:Nat}{ds:List D}{y:D}{σ:S3}{g:G}{o e:ME}(ho:o σ g=.ok (.ref n) g)(h:g[n]?=some (.lst ds))(he:e σ g=.ok y g)(hz:ds.length<SZ):
  Zf (ZT o e) σ g=.nx σ (g.set n (.lst (ds++[y]))):=by
 refine Yt (d:=.non) ?_;simp[ZT,ho,he,Res.bind,h,hz]
theorem Ak{src:Src}{ds:List D}{e:ME}{g:G}{σc:S3}{rows':List (List D)}(ht:src.top=ds.length)(hs:∀g1 i,Keeps [] g g1->src.at' g1 i=some ds[i]?)(hlen:rows'.length=ds.length)(he:∀(i:Nat) d r,ds[i]?=some d->rows'[i]?=some r->∀g1,Keeps [] g g1->e (some d::σc) g1=.ok (.ref g1.length) (g1++[.lst r])):
  ∃(ls:List Nat)(g':G),YW src (Qm 0) ZV e (src.top+1) 0 (none::σc) g []=.ok (ls.map .ref) g'/\Keeps [] g g'/\ls.length=rows'.length/\ls.Nodup/\∀(i n:Nat) r,ls[i]?=some n->rows'[i]?=some r->g.length<=n/\n<g'.length/\g'[n]?=some (.lst r):=by
 obtain⟨xs,σ',g',h1,ls,h2,h3,h4,h5,h6,_⟩:=YT (src:=src) (t:=Qm 0) (c:=ZV) (e:=e) (n:=ds.length)
  (λi σ' g1 acc=>∃ls:List Nat,acc=ls.map D.ref/\ls.length=i/\ls.Nodup/\Keeps [] g g1/\(∀(j n:Nat),ls[j]?=some n->g.length<=n/\n<g1.length/\∀r,rows'[j]?=some r->g1[n]?=some (.lst r))/\∃u,σ'=u::σc) (λi σ' g1 acc hi ⟨ls,h1,h2,h3,h4,h5,u,h6⟩=>by
   subst h6;have hr:rows'[i]?=some (rows'[i]'(by omega)):=by simp[hlen,hi]
   have e1:=he i ds[i] _ (by simp[hi]) hr g1 h4;refine⟨ds[i],some ds[i]::σc,g1,by rw[hs g1 i h4];simp[hi],rfl,.inl ⟨.ref g1.length,g1++[.lst (rows'[i]'(by omega))],rfl,e1,ls++[g1.length],by simp[h1],by simp[h2],?_,h4.trans (.push _),?_,_,rfl⟩⟩
   ·rw[RA];refine⟨h3,by simp,λa ha b hb=>?_⟩;obtain⟨j,hj,rfl⟩:=Rh ha;have:=(h5 j ls[j] (by simp[hj])).2.1;have:b=g1.length:=by simpa using hb
    omega
   ·intro j n hn;by_cases hj:j<ls.length
    ·rw[Uq hj]at hn;obtain⟨q1,q2,q3⟩:=h5 j n hn;exact⟨q1,by simp;omega,λr hr=>(Keeps.push (S:=[]) _).at' n _ (by simp) (q3 r hr)⟩
    ·have hj':j=i:=by have:=(Uj.mp hn).1;simp at this;omega
     subst hj';rw[Uw (by omega),h2]at hn;simp at hn;subst hn;exact⟨h4.len,by simp,λr hr'=>by rw[hr]at hr';cases hr';exact Qw _⟩) (λσ g1 acc ⟨ls,h1,h2,h3,h4,_⟩=>by rw[hs g1 _ h4];simp) (src.top+1) 0 (none::σc) g [] (by omega) (by omega) ⟨[],rfl,rfl,.nil,.refl,by simp,none,rfl⟩
 subst h2;exact⟨ls,g',h1,h5,by omega,h4,λi n r hn hr=>let ⟨q1,q2,q3⟩:=h6 i n hn;⟨q1,q2,q3 r hr⟩⟩
theorem entOk.good{rows:List (List D)}{n m:Nat}(hn:0<n)(hm:0<m)(h1:rows.length=n)(h2:∀r∈rows,r.length=m)(h3:∀r∈rows,∀d∈r,entOk d n m):VQ rows=true:=by
 cases rows with
 |nil=>simp at h1;omega|cons q rest =>have hq:=h2 q (UB ..);unfold VQ;rw[UG,Uu];refine⟨by simp;intro z;rw[z]at hq;simp at hq;omega,λx hx=>?_⟩;unfold Xg;rw[UG,Uu];exact⟨by simp[h2 x hx,hq],λd hd=>by rw[h1,hq];exact(h3 x hx d hd).ent⟩
theorem JD{it:MI}{n:Nat}{cap:List Nat}{t:MG}{c:MT}{e:ME}{σ:S3}{g g1 g2:G}{src:Src}{ds:List D}{σ0:S3}(h1:it σ g=.ok src g1)(hz:src.top<=SZ)(hc:Ec n cap σ=σ0)(h2:YW src t c e (src.top+1) 0 σ0 g1 []=.ok ds g2):ZK it n cap t c e σ g=.ok (.ref g2.length) (g2++[.lst ds]):=by simp only[ZK,h1,hz,hc,h2,RI]
theorem Ky{M:Nat}{rows:List (List D)}{σ:S3}{g:G}{i:Nat}(hv:σ[i]?=some (some (.ref M)))(h:g[M]?=some (JM rows)):QY [11,12] "table" (Qa i) σ g=.ok (.tup (rows.map .tup)) g:=by simp[QY,Qu,Qa,hv,Res.bind,h,JM]
theorem Fh{a:MT}{σ:S3}{g g1:G}(h1:a σ g=.ok true g1):Yq a σ g=.ok false g1:=by unfold Yq;rw[h1];rfl
def pD(a:Nat)(n:Nat):Src:=⟨λg i=>(match g[a]? with|some (.lst es)=>some es[i]? | _=>none),n⟩
section
variable{σ:S3}{g:G}
@[simp] theorem tW{a b:MS}:Qq a b σ g=(match a σ g with | .nx σ' g'=>b σ' g'|o=>o):=rfl
@[simp] theorem tX{i:Nat}{a:ME}:Qy (Qm i) a σ g=(match a σ g with | .ok d g'=>.nx (σ.set i (some d)) g' | .raise e g'=>.raise e σ g' | .stuck=>.stuck):=rfl
@[simp] theorem vR{c:MT}{a b:MS}:Ye c a b σ g=(match c σ g with | .ok t g'=>if t=true then a σ g' else b σ g' | .raise e g'=>.raise e σ g' | .stuck=>.stuck):=rfl
@[simp] theorem tY{a:ME}:QU a σ g=(match a σ g with | .ok d g'=>.rt d g' | .raise e g'=>.raise e σ g' | .stuck=>.stuck):=rfl
@[simp] theorem qY{a:ME}:Zf a σ g=(match a σ g with | .ok _ g'=>.nx σ g' | .raise e g'=>.raise e σ g' | .stuck=>.stuck):=rfl
@[simp] theorem qZ:Dm σ g=.rt .non g:=rfl
@[simp] theorem rA:QI σ g=.nx σ g:=rfl
@[simp] theorem lU{i:Nat}:Qa i σ g=(match σ[i]? with|some (some d)=>.ok d g|_=>.stuck):=rfl
@[simp] theorem tZ{d:D}:Qp d σ g=.ok d g:=rfl
@[simp] theorem lV{f:D->G->Res D}{a:ME}:Qu f a σ g=(match a σ g with | .ok x g1=>f x g1 | .raise e g'=>.raise e g' | .stuck=>.stuck):=by unfold Qu Res.bind;cases a σ g<;>rfl
@[simp] theorem uA{f:D->D->G->Res D}{a b:ME}:Qd f a b σ g=(match a σ g with | .ok x g1=>(match b σ g1 with | .ok y g2=>f x y g2 | .raise e g'=>.raise e g' | .stuck=>.stuck) | .raise e g'=>.raise e g' | .stuck=>.stuck):=by unfold Qd Res.bind;cases a σ g with|ok x g1=>dsimp only;cases b σ g1<;>rfl|_=>rfl
@[simp] theorem uB:Ql σ g=.ok [] g:=rfl
@[simp] theorem rB{a:ME}{r:MA}:Qc a r σ g=(match a σ g with | .ok x g1=>(match r σ g1 with | .ok xs g2=>.ok (x::xs) g2 | .raise e g'=>.raise e g' | .stuck=>.stuck) | .raise e g'=>.raise e g' | .stuck=>.stuck):=by unfold Qc Res.bind;cases a σ g with|ok x g1=>dsimp only;cases r σ g1<;>rfl|_=>rfl
@[simp] theorem uC{f:List D->G->Res D}{a:MA}:QA f a σ g=(match a σ g with | .ok x g1=>f x g1 | .raise e g'=>.raise e g' | .stuck=>.stuck):=by unfold QA Res.bind;cases a σ g<;>rfl
@[simp] theorem rC{f:MF}{a:MA}:Qs f a σ g=(match a σ g with | .ok x g1=>f x g1 | .raise e g'=>.raise e g' | .stuck=>.stuck):=by unfold Qs Res.bind;cases a σ g<;>rfl
@[simp] theorem rD{a:ME}:Qn a σ g=(match a σ g with | .ok (.bl b) g1=>.ok b g1 | .raise e g'=>.raise e g'|_=>.stuck):=by unfold Qn Res.bind;cases a σ g with|ok d g1=>cases d<;>rfl|_=>rfl
@[simp] theorem rE{a b:MT}:JR a b σ g=(match a σ g with | .ok c g1=>if c=true then b σ g1 else .ok false g1 | .raise e g'=>.raise e g' | .stuck=>.stuck):=by unfold JR Res.bind;cases a σ g<;>rfl
@[simp] theorem uD{a b:MT}:Ko a b σ g=(match a σ g with | .ok c g1=>if c=true then .ok true g1 else b σ g1 | .raise e g'=>.raise e g' | .stuck=>.stuck):=by unfold Ko Res.bind;cases a σ g<;>rfl
@[simp] theorem rF{a:MT}:Yq a σ g=(match a σ g with | .ok c g1=>.ok (!c) g1 | .raise e g'=>.raise e g' | .stuck=>.stuck):=by unfold Yq Res.bind;cases a σ g<;>rfl
@[simp] theorem uE{c:MT}{a b:ME}:Xn c a b σ g=(match c σ g with | .ok t g1=>if t=true then a σ g1 else b σ g1 | .raise e g'=>.raise e g' | .stuck=>.stuck):=by unfold Xn Res.bind;cases c σ g<;>rfl
@[simp] theorem uF{a b:ME}:Jt a b σ g=(match a σ g with | .ok (.bl c) g1=>if c=true then b σ g1 else .ok (.bl false) g1 | .raise e g'=>.raise e g'|_=>.stuck):=by unfold Jt Res.bind;cases a σ g with|ok d g1=>cases d<;>rfl|_=>rfl
@[simp] theorem uG{i j:Int}:QC (.int i) (.int j) g=.ok (.int (i+j)) g:=rfl
@[simp] theorem uH{i j:Int}:XJ (.int i) (.int j) g=.ok (.int (i-j)) g:=rfl
@[simp] theorem uI{i:Int}:X4 (.int i) g=.ok (.int (-i)) g:=rfl
@[simp] theorem vS{i j:Int}:FV (.int i) (.int j) g=.ok (.bl (decide (i<j))) g:=rfl
@[simp] theorem vT{i j:Int}:mS (.int i) (.int j) g=.ok (.bl (decide (i<=j))) g:=rfl
@[simp] theorem vU{i j:Int}:Lj (.int i) (.int j) g=.ok (.bl (decide (j<i))) g:=rfl
@[simp] theorem vV{i j:Int}:dP (.int i) (.int j) g=.ok (.bl (decide (j<=i))) g:=rfl
@[simp] theorem vW{i j:Int}:Z8 (.int i) (.int j) g=.ok (.bl (i==j)) g:=rfl
@[simp] theorem vX{i j:Int}:Ci (.int i) (.int j) g=.ok (.bl (!(i==j))) g:=rfl
theorem aA{n:Nat}{ds:List D}(h:g[n]?=some (.lst ds)):Zg (.ref n) g=.ok (.int ds.length) g:=by simp[Zg,h]
theorem ix_tup{ds:List D}{n:Nat}{d:D}(h:ds[n]?=some d):Qv (.tup ds) (.int n) g=.ok d g:=by obtain⟨this,e⟩:=Uj.mp h;simp[Qv,VF,Gf,this,e]
@[simp] theorem uJ{d:D}{ds:List D}:Qv (.tup (d::ds)) (.int 0) g=.ok d g:=ix_tup (n:=0) rfl
@[simp] theorem uK{c d:D}{ds:List D}:Qv (.tup (c::d::ds)) (.int 1) g=.ok d g:=ix_tup (n:=1) rfl
@[simp] theorem uL{b c d:D}{ds:List D}:Qv (.tup (b::c::d::ds)) (.int 2) g=.ok d g:=ix_tup (n:=2) rfl
@[simp] theorem uM{a b c d:D}{ds:List D}:Qv (.tup (a::b::c::d::ds)) (.int 3) g=.ok d g:=ix_tup (n:=3) rfl
end
theorem iL:Str.ofString "one"=⟨#[111,110,101]⟩:=by decide +kernel
theorem aB:Str.ofString "many"=⟨#[109,97,110,121]⟩:=by decide +kernel
theorem Ew:(Str.ofString "many"==Str.ofString "one")=false:=by rw[iL,aB];rfl
theorem aC:(Str.ofString "one"==Str.ofString "many")=false:=by rw[iL,aB];rfl
theorem Y3(s:Str):(s==s)=true:=RK s
inductive Tk where
 |one (s:Int)|many (w:List Int) (k:Int)
def QS:Tk->D
 |.one s=>.tup [.str "one",.int s]|.many w k=>.tup [.str "many",.tup (w.map .int),.int k]
def VD:Tk->Prop
 |.one s=>0<=s|.many w k=>w≠[]/\(∀x∈w,0<=x)/\0<=k/\w.length<=20/\k<=12
def LC(c:Nat):Tk->List Int
 |.one s=>[s]|.many w k=>(List.replicate (c+k.toNat) w).flatten
def Qz(c:Nat)(ts:List Tk):List Int:=ts.flatMap (LC c)
theorem G0(w:List Int):∀k:Nat,(List.replicate k w).flatten.length=k*w.length
 |0=>by simp
 |k+1=>by rw[UV,Tv,Us,G0 w k,Nat.succ_mul,Nat.add_comm]
theorem G1{c:Nat}{t:Tk}(h:VD t)(hc:c<=4):(LC c t).length<=320:=by
 cases t with
 |one s=>show 1<=320;decide|many w k =>obtain⟨_,_,h3,h4,h5⟩:=h;show(List.replicate (c+k.toNat) w).flatten.length<=320;rw[G0];exact Um (RD (show c+k.toNat<=16 by omega) h4) (by decide)
theorem JJ{c:Nat}(hc:c<=4):∀{ts:List Tk},(∀t∈ts,VD t)->(Qz c ts).length<=320*ts.length
 |[],_=>Ui _|t::r,h=>by have ih:=JJ hc (ts:=r) λx hx=>h x (Uv _ hx);have h1:=G1 (h t (UB ..)) hc;unfold Qz at ih ⊢;rw[Wo,Us,Uz];omega
theorem XZ{n:Nat}(h:n<=100000):n<SZ:=Nat.lt_of_le_of_lt h (by decide)
theorem Fi(i:Int)(g:G):QM [.int i] g=.ok (.bl (decide (0<=i))) g:=rfl
theorem Al(w:List Int):Cu (w.map λi=>D.bl (decide (0<=i)))=some (w.all λi=>decide (0<=i)):=by
 induction w with
 |nil=>rfl|cons i r ih=>show(Cu (r.map λi=>D.bl (decide (0<=i)))).map (decide (0<=i) && ·)=_;rw[ih];rfl
theorem Ex{ds:List D}{e:ME}{g:G}{F:D->D}(hz:ds.length<=100000)(he:∀d∈ds,∀g1,Keeps [] g g1->∃g2,e [some d] g1=.ok (F d) g2/\Keeps [] g1 g2){src:Src}(htop:src.top=ds.length)(hs:∀g1 i,Keeps [] g g1->src.at' g1 i=some ds[i]?):
  ∃g',YW src (Qm 0) ZV e (src.top+1) 0 [none] g []=.ok (ds.map F) g'/\Keeps [] g g':=by
 obtain⟨xs,σ',g',h1,h2,h3,_⟩:=YT (src:=src) (t:=Qm 0) (c:=ZV) (e:=e) (n:=ds.length)
  (λi σ' g1 acc=>acc=(ds.take i).map F/\Keeps [] g g1/\∃u,σ'=[u]) (λi σ' g1 acc hi hQ=>by obtain⟨q1,q2,u,q3⟩:=hQ;subst q3;obtain⟨g2,k1,k2⟩:=he ds[i] (UI hi) g1 q2;refine⟨ds[i],[some ds[i]],g1,by rw[hs g1 i q2];simp[hi],rfl,.inl ⟨F ds[i],g2,rfl,k1,?_,q2.trans k2,_,rfl⟩⟩;rw[q1,Ux hi,UC];rfl) (λσ g1 acc hQ=>by rw[hs g1 _ hQ.2.1];simp) (src.top+1) 0 [none] g [] (by omega) (by omega) ⟨rfl,.refl,none,rfl⟩
 rw[UX]at h2;subst h2;exact⟨g',h1,h3⟩
theorem BF{a b:ME}{σ:S3}{g g1:G}{R:Res D}(h:a σ g=.ok (.bl true) g1)(h2:b σ g1=R):Jt a b σ g=R:=by unfold Jt;rw[h,Res.bind_ok];exact h2
theorem Oo{a b:ME}{σ:S3}{g g1:G}(h:a σ g=.ok (.bl false) g1):Jt a b σ g=.ok (.bl false) g1:=by unfold Jt;rw[h,Res.bind_ok];rfl
theorem fL(w:List Int)(g:G)(hz:w.length<=1000):∃g',Vi [.tup (w.map .int)] g=.ok (.bl (decide (w≠[])&&w.all λi=>decide (0<=i))) g'/\Keeps [] g g':=by
 obtain⟨g1,c1,k1⟩:=Ex (ds:=w.map D.int) (e:=Qs QM (Qc (Qa 0) Ql)) (g:=g) (F:=λd=>match d with | .int i=>.bl (decide (0<=i))|_=>.non) (src:=⟨λ_ i=>some (w.map D.int)[i]?,(w.map D.int).length⟩) (by rw[Ua];omega) (λd hd g1 _=>by obtain⟨i,_,rfl⟩:=Te.mp hd;exact⟨g1,rfl,.refl⟩) rfl (λ_ _ _=>rfl);have c2:=JD (it:=QQ (Qa 0)) (n:=1) (cap:=[]) (σ:=[some (.tup (w.map .int))]) (σ0:=[none]) (g:=g) rfl (by show(w.map D.int).length<=SZ;rw[Ua];exact UO (XZ (by omega))) rfl c1;rw[U4]at c2;have hall:Qu Eg (ZK (QQ (Qa 0)) 1 [] (Qm 0) ZV (Qs QM (Qc (Qa 0) Ql))) [some (.tup (w.map .int))] g=.ok (.bl (w.all λi=>decide (0<=i))) (g1++[.lst (w.map ((λd=>match d with | .int i=>.bl (decide (0<=i))|_=>.non)∘D.int))]):=YN c2 (by unfold Eg;dsimp only;rw[Qw];dsimp only;rw[show(w.map ((λd=>match d with | .int i=>D.bl (decide (0<=i))|_=>.non)∘D.int))=w.map λi=>D.bl (decide (0<=i)) from rfl,Al]);have hl:Qd Lj (Qu Zg (Qa 0)) (mI 0) [some (.tup (w.map .int))] g=.ok (.bl (decide ((0:Int)<((w.map D.int).length:Nat)))) g:=rfl;rw[Ua]at hl;have kk:Keeps [] g (g1++[.lst (w.map ((λd=>match d with | .int i=>.bl (decide (0<=i))|_=>.non)∘D.int))]):=k1.trans (.push _);generalize g1++[.lst (w.map ((λd=>match d with | .int i=>.bl (decide (0<=i))|_=>.non)∘D.int))]=g2 at hall kk;by_cases hw:w=[]
 ·subst hw;exact⟨g,rfl,.refl⟩
 ·have:0<w.length:=TR.mpr hw;rw[Uo (by omega)]at hl;rw[Uo hw,Bool.true_and];exact⟨g2,Zm rfl (Yy (BF (g1:=g) rfl (BF hl hall))),kk⟩
def TokR(g:G)(d:D)(b:Bool):Prop:=∀g1,Keeps [] g g1->∃g2,JH [d] g1=.ok (.bl b) g2/\Keeps [] g1 g2
theorem TokR.mono{g g':G}{d:D}{b:Bool}(h:TokR g d b)(k:Keeps [] g g'):TokR g' d b:=λg1 k1=>h g1 (k.trans k1)
theorem pE(s t:Str)(g:G):Z8 (.str s) (.str t) g=.ok (.bl (s==t)) g:=rfl
theorem fM(x:Str)(y:D)(b:Bool)(g:G)(h:∀g1,QM [y] g1=.ok (.bl b) g1):TokR g (.tup [.str x,y]) ((x==Str.ofString "one")&&b):=λg1 _=>by
 refine⟨g1,Zm rfl ?_,.refl⟩;show Vs [some (.tup [.str x,y])] g1=_;unfold Vs;refine Qo [some (.tup [.str x,y])] g1 rfl (LB (Ma g1 rfl (Yy ?_)));have e1:Qd Z8 (Qd Qv (Qa 0) (mI 0)) (Qp (.str "one")) [some (.tup [.str x,y])] g1=.ok (.bl (x==Str.ofString "one")) g1:=rfl;cases hx:(x==Str.ofString "one") with
 |true=>rw[hx]at e1;exact BF e1 (by rw[QH (ds:=[y]) (g':=g1) rfl];exact h g1)|false=>rw[hx]at e1;exact Oo e1
theorem aD(x:Str)(v:D)(k:Int)(b:Bool)(g:G)(h:∀g1,Keeps [] g g1->∃g2,Vi [v] g1=.ok (.bl b) g2/\Keeps [] g1 g2):TokR g (.tup [.str x,v,.int k]) ((x==Str.ofString "many")&&(b&&decide (0<=k))):=λg1 k1=>by
 have e1:Qd Z8 (Qd Qv (Qa 0) (mI 0)) (Qp (.str "many")) [some (.tup [.str x,v,.int k])] g1=.ok (.bl (x==Str.ofString "many")) g1:=rfl;obtain⟨g2,e2,k2⟩:=h g1 k1;have e2':Qs Vi (Qc (Qd Qv (Qa 0) (mI 1)) Ql) [some (.tup [.str x,v,.int k])] g1=.ok (.bl b) g2:=by rw[QH (ds:=[v]) (g':=g1) rfl];exact e2
 have e3:Qs QM (Qc (Qd Qv (Qa 0) (mI 2)) Ql) [some (.tup [.str x,v,.int k])] g2=.ok (.bl (decide (0<=k))) g2:=rfl;have hh:∀R g3,Jt (Qd Z8 (Qd Qv (Qa 0) (mI 0)) (Qp (.str "many"))) (Jt (Qs Vi (Qc (Qd Qv (Qa 0) (mI 1)) Ql)) (Qs QM (Qc (Qd Qv (Qa 0) (mI 2)) Ql))) [some (.tup [.str x,v,.int k])] g1=.ok R g3->JH [.tup [.str x,v,.int k]] g1=.ok R g3:=λR g3 hR=>by refine Zm rfl ?_;show Vs [some (.tup [.str x,v,.int k])] g1=_;unfold Vs;exact Qo [some (.tup [.str x,v,.int k])] g1 rfl (Qo [some (.tup [.str x,v,.int k])] g1 rfl (Yy (BF rfl hR)))
 cases hx:(x==Str.ofString "many") with
 |false=>rw[hx]at e1;exact⟨g1,hh _ _ (Oo e1),.refl⟩|true=>
  rw[hx]at e1;refine⟨g2,hh _ _ (BF e1 ?_),k2⟩;cases b with
  |false=>exact Oo e2'|true=>exact BF e2' e3
theorem MV{t:Tk}(h:VD t)(g:G):TokR g (QS t) true:=by
 cases t with
 |one s =>have:=fM (Str.ofString "one") (.int s) (decide (0<=s)) g λ_=>rfl;rw[Y3,Uo (show 0<=s from h)]at this;exact this
 |many w k =>obtain⟨h1,h2,h3,h4,_⟩:=h;have:=aD (Str.ofString "many") (.tup (w.map .int)) k _ g λg1 _=>fL w g1 (by omega);rw[Y3,Uo h1,Uo h3,Uu.mpr λx hx=>Uo (h2 x hx)]at this;exact this
theorem QE{g g1:G}{x:D}{p:Bool×List D}(h:QF g x=some p)(k:Keeps [] g g1):QF g1 x=some p:=by
 cases x with
 |ref n=>
  unfold QF at h ⊢;dsimp only at h ⊢;cases hg:g[n]? with
  |none=>rw[hg]at h;cases h|some o =>rw[hg]at h;rw[k.at' _ _ (by simp) hg];exact h
 |_=>exact h
theorem MW{g:G}{x:D}{b:Bool}{xs:List D}(h:QF g x=some (b,xs)):Ef g x=some (if b then .list else .tuple):=by
 cases x with
 |ref n=>
  unfold QF at h;unfold Ef;dsimp only at h ⊢;cases hg:g[n]? with
  |none=>rw[hg]at h;cases h|some o=>
   rw[hg]at h;cases o with
   |lst ds=>cases h;rfl|_=>cases h
 |tup ds=>cases h;rfl|fl ds=>cases h;rfl|_=>cases h
theorem PH(bs:List Bool):Cu (bs.map D.bl)=some (bs.all id):=by
 induction bs with
 |nil=>rfl|cons b r ih=>show(Cu (r.map D.bl)).map (b && ·)=_;rw[ih];rfl
def pF(F:D->Bool)(d:D):D:=.bl (F d)
theorem KT{g:G}{x:D}{b:Bool}{ds:List D}(F:D->Bool)(h:QF g x=some (b,ds))(hz:ds.length<=1000)(hF:∀d∈ds,TokR g d (F d)):
  ∃g',Keeps [] g g'/\((ds.all F=true/\Zl [x] g=.ok .non g')\/(ds.all F=false/\Zl [x] g=.raise (7,none) g')):=by
 obtain⟨src,s1,s2,s3⟩:=V4 h;obtain⟨g1,c1,k1⟩:=Ex (ds:=ds) (e:=Qs JH (Qc (Qa 0) Ql)) (g:=g) (F:=pF F) (src:=src) (by omega) (λd hd g1 k=>by obtain⟨g2,e,k2⟩:=hF d hd g1 k;exact⟨g2,by rw[QH (ds:=[d]) (g':=g1) rfl];exact e,k2⟩) s2 (λg1 i k=>s3 g1 i (QE h k));have c2:=JD (it:=QQ (Qa 0)) (n:=1) (cap:=[]) (σ:=[some x]) (t:=Qm 0) (c:=ZV) (σ0:=[none]) (g:=g) (by unfold QQ;rw[show Qa 0 [some x] g=.ok x g from rfl,Res.bind_ok];exact s1) (by rw[s2];exact UO (XZ (by omega))) rfl c1;have hm:ds.map (pF F)=(ds.map F).map D.bl:=by rw[U4];rfl
 rw[hm]at c2;have hall:Qu Eg (ZK (QQ (Qa 0)) 1 [] (Qm 0) ZV (Qs JH (Qc (Qa 0) Ql))) [some x] g=.ok (.bl (ds.all F)) (g1++[.lst ((ds.map F).map D.bl)]):=YN c2 (by unfold Eg;dsimp only;rw[Qw];dsimp only;rw[PH,List.all_map];rfl);have kk:Keeps [] g (g1++[.lst ((ds.map F).map D.bl)]):=k1.trans (.push _);generalize g1++[GO.lst ((ds.map F).map D.bl)]=g2 at hall kk;have hsq:Qn (Qu Kr (Qa 0)) [some x] g=.ok true g:=Zq (YN (x:=x) (g1:=g) rfl (by unfold Kr;rw[MW h];cases b<;>rfl));have ht:∀v,ds.all F=v->Ko (Yq (Qn (Qu Kr (Qa 0)))) (Yq (Qn (Qu Eg (ZK (QQ (Qa 0)) 1 [] (Qm 0) ZV (Qs JH (Qc (Qa 0) Ql)))))) [some x] g=.ok (!v) g2:=λv hv=>by unfold Ko;rw[Fh hsq,Res.bind_ok,Ud Uf];unfold Yq;rw[Zq hall,hv];rfl
 refine⟨g2,kk,?_⟩;cases hv:ds.all F with
 |true=>exact .inl ⟨rfl,BE (σ:=[some x]) rfl (Jo g2 (ht _ hv) rfl)⟩|false=>exact .inr ⟨rfl,Ff (σ:=[some x]) rfl (Ma g2 (ht _ hv) rfl)⟩
def lrS(f:Str):Prop:=f=Str.ofString "l"\/f=Str.ofString "r"
theorem Op{a b:MS}{σ σ':S3}{x:Xc}{g g':G}(h:a σ g=.raise x σ' g'):Qq a b σ g=.raise x σ' g':=by unfold Qq;rw[h]
theorem PJ{a:ME}{σ:S3}{x:Xc}{g g':G}(h:a σ g=.raise x g'):Zf a σ g=.raise x σ g':=by unfold Zf;rw[h]
theorem pG{x:D}{g:G}(hx:Bp x=true):IC true x (.tup [.str "l",.str "r"]) g=.ok (.bl (!(mT (.str "l") x||(mT (.str "r") x||false)))) g:=by unfold IC QF;dsimp only;rw[Ub ⟨hx,rfl⟩];rfl
theorem CO{st:Int}{f L R:D}{g:G}(h0:0<=st)(hf:IC true f (.tup [.str "l",.str "r"]) g=.ok (.bl false) g)(Q:Out)(hQ:Qq (Zf (Qs Zl (Qc (Qd Qv (Qa 0) (mI 2)) Ql))) (Zf (Qs Zl (Qc (Qd Qv (Qa 0) (mI 3)) Ql))) [some (.tup [.int st,f,L,R])] g=Q):V1 [some (.tup [.int st,f,L,R])] g=Q:=by unfold V1;have t2:Qn (Qs QM (Qc (Qd Qv (Qa 0) (mI 0)) Ql)) [some (.tup [.int st,f,L,R])] g=.ok true g:=Zq (by rw[QH (ds:=[.int st]) (g':=g) rfl,Fi,Uo h0]);exact Qo [some (.tup [.int st,f,L,R])] g rfl (Qo [some (.tup [.int st,f,L,R])] g (Jo g (Fh t2) rfl) (Qo [some (.tup [.int st,f,L,R])] g (Jo g (Zq (Qr (x:=f) (g1:=g) (g2:=g) rfl rfl hf)) rfl) hQ))
theorem aE{f:Str}(h:lrS f)(g:G):IC true (.str f) (.tup [.str "l",.str "r"]) g=.ok (.bl false) g:=by
 rw[pG rfl];rcases h with rfl|rfl
 ·show Res.ok (D.bl (!((Str.ofString "l"==Str.ofString "l")||_))) g=_;rw[Y3];rfl
 ·show Res.ok (D.bl (!(_||((Str.ofString "r"==Str.ofString "r")||false)))) g=_;rw[Y3,Bool.true_or,Bool.or_true];rfl
theorem G2{st:Int}{f:Str}{L R:D}{g:G}{b b':Bool}{ds es:List D}(F:D->Bool)(h0:0<=st)(hf:lrS f)(hL:QF g L=some (b,ds))(hR:QF g R=some (b',es))(hz:ds.length<=1000)(hz':es.length<=1000)(tL:∀d∈ds,TokR g d (F d))(tR:∀d∈es,TokR g d (F d)):
  ∃g',Keeps [] g g'/\((ds.all F=true/\es.all F=true/\Yo [.tup [.int st,.str f,L,R]] g=.ok .non g')\/(¬(ds.all F=true/\es.all F=true)/\Yo [.tup [.int st,.str f,L,R]] g=.raise (7,none) g')):=by
 obtain⟨g1,k1,h1⟩:=KT F hL hz tL;have c1:Qs Zl (Qc (Qd Qv (Qa 0) (mI 2)) Ql) [some (.tup [.int st,.str f,L,R])] g=Zl [L] g:=QH rfl;rcases h1 with⟨a1,e1⟩|⟨a1,e1⟩
 ·obtain⟨g2,k2,h2⟩:=KT F (QE hR k1) hz' (λd hd=>(tR d hd).mono k1);have c2:Qs Zl (Qc (Qd Qv (Qa 0) (mI 3)) Ql) [some (.tup [.int st,.str f,L,R])] g1=Zl [R] g1:=QH rfl;refine⟨g2,k1.trans k2,?_⟩;rcases h2 with⟨a2,e2⟩|⟨a2,e2⟩
  ·exact .inl ⟨a1,a2,BE rfl (CO h0 (aE hf g) _ (Qo _ g1 (Yt (c1.trans e1)) (Yt (c2.trans e2))))⟩
  ·exact .inr ⟨λz=>by rw[a2]at z;exact Uf z.2,Ff rfl (CO h0 (aE hf g) _ (Qo _ g1 (Yt (c1.trans e1)) (PJ (c2.trans e2))))⟩
 ·exact⟨g1,k1,.inr ⟨λz=>by rw[a1]at z;exact Uf z.1,Ff rfl (CO h0 (aE hf g) _ (Op (PJ (c1.trans e1))))⟩⟩
theorem fN{w:List Int}{k:Int}{g:G}(h0:0<=k)(hk:k<=1000)(hz:w.length*k.toNat<=100000):JG (.tup (w.map .int)) (.int k) g=.ok (.tup ((List.replicate k.toNat w).flatten.map .int)) g:=by unfold JG;dsimp only;rw[Ub ⟨⟨h0,by omega⟩,by rw[Ua];exact UO (XZ hz)⟩,List.map_flatten,Wf]
theorem Oq{n:Nat}{xs ys:List D}{σ:S3}{g:G}{o e:ME}(ho:o σ g=.ok (.ref n) g)(h:g[n]?=some (.lst xs))(he:e σ g=.ok (.tup ys) g)(hz:xs.length+ys.length<=100000):
  Zf (Gi o e) σ g=.nx σ (g.set n (.lst (xs++ys))):=by
 refine Yt (d:=.non) ?_;unfold Gi;rw[ho,Res.bind_ok];dsimp only;rw[h];dsimp only;rw[he,Res.bind_ok];dsimp only;rw[h];dsimp only;rw[Ub (UO (XZ hz))]
theorem G3{n:Nat}{ds:List D}{y:D}{σ:S3}{g:G}{o e:ME}(ho:o σ g=.ok (.ref n) g)(h:g[n]?=some (.lst ds))(he:e σ g=.ok y g)(hz:ds.length<=100000):Zf (ZT o e) σ g=.nx σ (g.set n (.lst (ds++[y]))):=Fg ho h he (XZ hz)
theorem Am{c:Nat}{w:List Int}{k:Int}{A:List Int}{r:Nat}{x0:Option D}{g:G}(n:Nat)(hr:g[r]?=some (.lst (A.map .int)))(hz:A.length+n*w.length<=60000)(x4:Option D):
  ∃r' y4 g',JQ (Zu 0 n) (Qm 4) Ku (n+1) 0 [x0,some (.int c),some (.ref r),some (QS (.many w k)),x4] g=.nx [x0,some (.int c),some (.ref r'),some (QS (.many w k)),y4] g'/\g'[r']?=some (.lst ((A++(List.replicate n w).flatten).map .int))/\Keeps [] g g'/\(r'=r\/g.length<=r'):=by
 obtain⟨σ',g',e,r',y4,i1,i2,i3,i5⟩:=Yi (t:=Qm 4) (body:=Ku) (lo:=0) (n:=n) (σ:=[x0,some (.int c),some (.ref r),some (QS (.many w k)),x4]) (g:=g)
  (λi σ g1=>∃r' y4,σ=[x0,some (.int c),some (.ref r'),some (QS (.many w k)),y4]/\g1[r']?=some (.lst ((A++(List.replicate i w).flatten).map .int))/\Keeps [] g g1/\(r'=r\/g.length<=r')) ⟨r,x4,rfl,by simpa using hr,.refl,.inl rfl⟩ (λi σ g1 hi hQ=>by
   obtain⟨r',y4,i1,i2,i3,i5⟩:=hQ;subst i1;have hk:Keeps [] g1 (g1++[.lst (w.map .int)]):=.push _;have e1:Qu KO (Qd Qv (Qa 3) (mI 1)) [x0,some (.int c),some (.ref r'),some (QS (.many w k)),some (.int (0+i))] g1=.ok (.ref g1.length) (g1++[.lst (w.map .int)]):=rfl;have p1:(g1++[GO.lst (w.map .int)])[g1.length]?=some (.lst (w.map .int)):=Qw _;have i2':=hk.at' _ _ (by simp) i2;generalize g1++[GO.lst (w.map .int)]=g2 at hk e1 p1 i2';have hlen:(A++(List.replicate i w).flatten).length+w.length<=60000:=by rw[Us,G0];have:(i+1)*w.length<=n*w.length:=Nat.mul_le_mul_right _ (by omega);rw[Nat.add_mul,Nat.one_mul]at this;omega
   refine⟨_,[x0,some (.int c),some (.ref g2.length),some (QS (.many w k)),some (.int (0+i))],g2++[.lst ((A++(List.replicate i w).flatten).map .int++w.map .int)],rfl,?_,g2.length,_,rfl,?_,i3.trans (hk.trans (.push _)),.inr (Um i3.len hk.len)⟩
   ·refine QR (Qr (x:=.ref r') (y:=.ref g1.length) (g1:=g1) (g2:=g2) rfl e1 ?_);unfold QC;dsimp only;rw[i2',p1];dsimp only;rw[Ub (UO (XZ (by rw[Ua,Ua];omega)))]
   ·rw[Qw,<-UC,Wm,List.replicate_succ',List.flatten_append];simp)
 exact⟨r',y4,g',by rw[e,i1],i2,i3,i5⟩
theorem Vx{a b:Nat}{xs ys:List D}{g:G}(h1:g[a]?=some (.lst xs))(h2:g[b]?=some (.lst ys))(hz:xs.length+ys.length<=100000):QC (.ref a) (.ref b) g=.ok (.ref g.length) (g++[.lst (xs++ys)]):=by unfold QC;dsimp only;rw[h1,h2];dsimp only;rw[Ub (UO (XZ hz))]
def vY(d:D):Bool:=true
theorem PK(ts:List Tk):(ts.map QS).all vY=true:=Uu.mpr λ_ _=>rfl
theorem G4{st:Int}{f:Str}{L R:D}{g:G}{b b':Bool}{tl tr:List Tk}(h0:0<=st)(hf:lrS f)(hL:QF g L=some (b,tl.map QS))(hR:QF g R=some (b',tr.map QS))(ol:∀t∈tl,VD t)(or':∀t∈tr,VD t)(zl:tl.length<=140)(zr:tr.length<=140):
  ∃g',Yo [.tup [.int st,.str f,L,R]] g=.ok .non g'/\Keeps [] g g':=by
 obtain⟨g',k,h⟩:=G2 vY h0 hf hL hR (by rw[Ua];omega) (by rw[Ua];omega) (λd hd=>by
  obtain⟨t,ht,rfl⟩:=Te.mp hd;exact MV (ol t ht) g) (λd hd=>by
  obtain⟨t,ht,rfl⟩:=Te.mp hd;exact MV (or' t ht) g)
 rcases h with⟨_,_,e⟩|⟨z,_⟩
 ·exact⟨g',e,k⟩
 ·exact absurd ⟨PK tl,PK tr⟩ z
theorem MX{c r N:Nat}{t:Tk}{A:List Int}{x0 x4:Option D}{g0 g:G}(ht:VD t)(hc:c<=4)(hr:g[r]?=some (.lst (A.map .int)))(hN:g0.length<=r)(k0:Keeps [] g0 g)(hz:A.length<=50000):
  ∃r' y4 g',X9 [x0,some (.int c),some (.ref r),some (QS t),x4] g=.nx [x0,some (.int c),some (.ref r'),some (QS t),y4] g'/\g'[r']?=some (.lst ((A++LC c t).map .int))/\Keeps [] g0 g'/\g0.length<=r':=by
 unfold X9;cases t with
 |one s=>
  have t1:Qn (Qd Z8 (Qd Qv (Qa 3) (mI 0)) (Qp (.str "one"))) [x0,some (.int c),some (.ref r),some (QS (.one s)),x4] g=.ok (Str.ofString "one"==Str.ofString "one") g:=rfl;rw[Y3]at t1;refine⟨r,x4,_,Ma g t1 (G3 (y:=.int s) rfl hr rfl (by rw[Ua];omega)),?_,⟨by rw[UJ];exact k0.len,λi o _ h=>?_⟩,hN⟩
  ·rw[Zb hr,UC];rfl
  ·have:=ZB h;rw[Uh (by omega)];exact k0.at' _ _ (by simp) h
 |many w k=>
  have t1:Qn (Qd Z8 (Qd Qv (Qa 3) (mI 0)) (Qp (.str "one"))) [x0,some (.int c),some (.ref r),some (QS (.many w k)),x4] g=.ok (Str.ofString "many"==Str.ofString "one") g:=rfl;rw[Ew]at t1;obtain⟨h1,h2,h3,h4,h5⟩:=ht;have hb:(c+k.toNat)*w.length<=25*20:=RD (by omega) h4;obtain⟨r',y4,g',e,i2,i3,i5⟩:=Am (c:=c) (k:=k) (x0:=x0) (c+k.toNat) hr (Um (Nat.add_le_add hz hb) (by decide)) x4;refine⟨r',y4,g',Jo g t1 ?_,i2,k0.trans i3,?_⟩
  ·refine(Yp (ZR (n:=c+k.toNat) ?_ (Xh (by omega)))).trans e;refine Qr (x:=.int c) (y:=.int k) (g1:=g) (g2:=g) rfl rfl ?_;show Res.ok (D.int ((c:Int)+k)) g=_;rw[show((c:Int)+k)=((c+k.toNat:Nat):Int) by omega]
  ·rcases i5 with rfl|z
   ·exact hN
   ·exact Um k0.len z
theorem IM{x:D}{b:Bool}{ts:List Tk}{c:Nat}{g:G}(hx:QF g x=some (b,ts.map QS))(hok:∀t∈ts,VD t)(hc:c<=4)(hl:ts.length<=140):
  ∃r g',B4 [x,.int c] g=.ok (.ref r) g'/\g.length<=r/\g'[r]?=some (.lst ((Qz c ts).map .int))/\Keeps [] g g':=by
 have k0:Keeps [] g (g++[.lst []]):=.push _;have p0:(g++[GO.lst []])[g.length]?=some (.lst []):=Qw _;obtain⟨src,s1,s2,s3⟩:=V4 (QE hx k0);have hlen:src.top=ts.length:=by rw[s2,Ua]
 obtain⟨σ',g2,e2,⟨r,y3,y4,i1,i4,i3⟩,i2⟩:=B7 (src:=src) (t:=Qm 3) (body:=X9) (n:=ts.length) (σ:=[some x,some (.int c),some (.ref g.length),none,none]) (g:=g++[.lst []]) hlen
  (λi σ g2=>(∃r y3 y4,σ=[some x,some (.int c),some (.ref r),y3,y4]/\g.length<=r/\g2[r]?=some (.lst ((Qz c (ts.take i)).map .int)))/\Keeps [] g g2) ⟨⟨g.length,none,none,rfl,Ui _,p0⟩,k0⟩ (λi σ g2 hi hQ=>by
   obtain⟨⟨r,y3,y4,i1,i4,i3⟩,i2⟩:=hQ;subst i1;have htk:ts.take (i+1)=ts.take i++[ts[i]]:=Ux hi;have hA:(Qz c (ts.take i)).length<=50000:=by have:=JJ hc (ts:=ts.take i) λt ht=>hok t (Bf ht);rw[UW]at this;have:300*min i ts.length<=300*140:=Nat.mul_le_mul_left _ (by omega);omega
   obtain⟨r',z4,g3,e3,q1,q2,q3⟩:=MX (N:=0) (x0:=some x) (x4:=y4) (hok _ (UI hi)) hc i3 i4 i2 hA;refine⟨QS ts[i],_,_,g3,by rw[s3 g2 i (QE hx i2),Uy,Uk hi];rfl,rfl,e3,⟨r',_,_,rfl,q3,?_⟩,q2⟩;rw[q1,htk];unfold Qz;rw[List.flatMap_append];simp) (λσ g2 hQ=>by rw[s3 g2 _ (QE hx hQ.2),Ta (by rw[Ua];exact Ui _)])
 subst i1;rw[UX]at i3;refine⟨r,g2,Zm rfl ?_,i4,i3,i2⟩;show E9 [some x,some (.int c),none,none,none] g=_;unfold E9;refine Qo [some x,some (.int c),some (.ref g.length),none,none] (g++[.lst []]) (QR rfl) (Qo _ g2 ((Yp ?_).trans e2) rfl);unfold QQ;rw[show Qa 0 [some x,some (.int c),some (.ref g.length),none,none] (g++[.lst []])=.ok x (g++[.lst []]) from rfl,Res.bind_ok];exact s1
theorem Kz{f:List D->G->Res D}{a:MA}{σ:S3}{g g1:G}{xs:List D}{R:Res D}(h:a σ g=.ok xs g1)(h2:f xs g1=R):QA f a σ g=R:=by unfold QA;rw[h,Res.bind_ok,h2]
theorem Jp{t p:Nat}{ds:List D}{d:D}{g:G}(h:g[t]?=some (.lst ds))(hp:ds[p]?=some d):Qv (.ref t) (.int p) g=.ok d g:=by have:=(Uj.mp hp).1;unfold Qv;dsimp only;rw[h];dsimp only;unfold VF Gf;rw[Ub (by omega),Ub (by omega)];simp[hp]
theorem LD{t:Nat}{i:Int}{ds:List D}{d:D}{g:G}(h:g[t]?=some (.lst ds))(h0:0<=i)(hp:ds[i.toNat]?=some d):Qv (.ref t) (.int i) g=.ok d g:=by
 have e:((i.toNat:Nat):Int)=i:=by omega
 rw[<-e];exact Jp h hp
theorem pH{a b:MT}{σ:S3}{g g1 g2:G}(h1:a σ g=.ok false g1)(h2:b σ g1=.ok false g2):Ko a b σ g=.ok false g2:=by unfold Ko;rw[h1,Res.bind_ok,Ud Uf,h2]
theorem KA{c:MT}{body:MS}:∀(f:Nat)(σ:S3)(g:G),YU c body f σ g≠.stuck->∀f',f<=f'->YU c body f' σ g=YU c body f σ g
 |0,_,_,h,_,_=>absurd rfl h|f+1,σ,g,h,f',hf=>by
  obtain⟨k,rfl⟩:∃k,f'=k+1:=⟨f' - 1,by omega⟩;unfold YU at h ⊢;cases hc:c σ g with
  |stuck=>rfl|raise e g1=>rfl|ok b g1=>
   cases b with
   |false=>rfl|true=>
    rw[hc]at h;dsimp only at h ⊢;cases hb:body σ g1 with
    |nx σ2 g2=>rw[hb]at h;exact KA f σ2 g2 h k (by omega)|ct σ2 g2=>rw[hb]at h;exact KA f σ2 g2 h k (by omega)|bk σ2 g2=>rfl|rt d g2=>rfl|raise e σ2 g2=>rfl|stuck=>rfl
theorem aF{c:MT}{body:MS}{f:Nat}{σ:S3}{g:G}{R:Out}(h:YU c body f σ g=R)(hR:R≠.stuck):Gr c body σ g=R:=by
 have hx:∃f,YU c body f σ g≠.stuck:=⟨f,by rw[h];exact hR⟩;unfold Gr;rw[dif_pos hx];have h1:=hx.choose_spec;rcases Nat.le_total f hx.choose with z|z
 ·rw[KA f σ g (by rw[h];exact hR) _ z,h]
 ·rw[<-KA _ σ g h1 f z,h]
def TkK(K n:Nat):Tk->Prop
 |.one s=>0<=s/\s<n|.many w k=>w≠[]/\(∀x∈w,0<=x/\x<n)/\0<=k/\w.length<=20/\k<=K
abbrev TkL:=TkK 4
theorem TkK.ok{K n:Nat}{t:Tk}(h:TkK K n t)(hK:K<=12):VD t:=by
 cases t with
 |one s=>exact h.1|many w k=>exact⟨h.1,λx hx=>(h.2.1 x hx).1,h.2.2.1,h.2.2.2.1,by have:=h.2.2.2.2;omega⟩
theorem TkL.ok{n:Nat}{t:Tk}(h:TkL n t):VD t:=TkK.ok h (by decide)
theorem TkK.up{K n:Nat}{t:Tk}(h:TkK K n t):TkK (K+1) n t:=by
 cases t with
 |one s=>exact h|many w k=>exact⟨h.1,h.2.1,h.2.2.1,h.2.2.2.1,by have:=h.2.2.2.2;omega⟩
theorem Keeps.lst{S:List Nat}{g g1:G}(a:Keeps S g g1){n:Nat}{o:GO}(h:g[n]?=some o)(hn:n∉S):g1[n]?=some o:=a.at' n o hn h
theorem PL{g:G}{x:D}{b:Bool}{xs:List D}(h:QF g x=some (b,xs)):Zg x g=.ok (.int xs.length) g:=by
 cases x with
 |ref n=>
  unfold QF at h;unfold Zg;dsimp only at h ⊢;cases hg:g[n]? with
  |none=>rw[hg]at h;cases h|some o=>
   rw[hg]at h;cases o with
   |lst ds=>cases h;rfl|_=>cases h
 |tup ds=>cases h;rfl|fl ds=>cases h;rfl|_=>cases h
section
variable{σ:S3}{g:G}
@[simp] theorem uN{k n:Nat}{b:MS}{ds:List D}:Q6 k n b ds g=if ds.length=k then (match b (ds.map some++List.replicate n none) g with | .nx _ g'=>.ok .non g' | .rt d g'=>.ok d g' | .raise e _ g'=>.raise e g'|_=>.stuck) else .stuck:=rfl
@[simp] theorem mX:QV σ g=.ok none g:=rfl
@[simp] theorem rG{a:ME}:Zv a σ g=(match a σ g with | .ok (.int i) g1=>.ok (some i) g1 | .raise e g'=>.raise e g'|_=>.stuck):=by unfold Zv Res.bind;cases a σ g with|ok d g1=>cases d<;>rfl|_=>rfl
@[simp] theorem pI{a:ME}{lo hi:MO}:Q7 a lo hi σ g=(match a σ g with
 |.ok x g1=>(match lo σ g1 with
  |.ok l g2=>(match hi σ g2 with | .ok h g3=>EV x l h g3 | .raise e g'=>.raise e g' | .stuck=>.stuck)|.raise e g'=>.raise e g' | .stuck=>.stuck)
 |.raise e g'=>.raise e g' | .stuck=>.stuck):=by
 unfold Q7 Res.bind;cases a σ g with
 |ok x g1=>dsimp only;cases lo σ g1 with
  |ok l g2=>dsimp only;cases hi σ g2<;>rfl|_=>rfl
 |_=>rfl
@[simp] theorem pJ{c:Nat}{t:Str}:Zy c (Qc (Qp (.str t)) Ql) σ g=.raise (c,none) σ g:=LA _ _ _ _
@[simp] theorem mY{ds:List D}{lo hi:Option Int}:EV (.tup ds) lo hi g=.ok (.tup (Y9 ds lo hi)) g:=rfl
@[simp] theorem rH{ds:List D}:Zg (.tup ds) g=.ok (.int ds.length) g:=rfl
@[simp] theorem rJ{ds:List D}:Zw (.tup ds) g=.ok (.tup ds) g:=rfl
@[simp] theorem vZ{x:D}:Do x .non g=.ok (.bl (isNon x)) g:=rfl
@[simp] theorem pK{x:D}:Lk x .non g=.ok (.bl (!isNon x)) g:=rfl
@[simp] theorem uO{s t:Str}:Z8 (.str s) (.str t) g=.ok (.bl (s==t)) g:=rfl
@[simp] theorem uP{s t:Str}:Ci (.str s) (.str t) g=.ok (.bl (!(s==t))) g:=rfl
@[simp] theorem uQ{a b:Bool}:Z8 (.bl a) (.bl b) g=.ok (.bl (a==b)) g:=rfl
@[simp] theorem uR{a b:Bool}:Ci (.bl a) (.bl b) g=.ok (.bl (!(a==b))) g:=rfl
@[simp] theorem rK{b:Bool}:Ll (.bl b) g=.ok (.int (if b then 1 else 0)) g:=rfl
@[simp] theorem rL:QO [] g=.ok (.tup []) g:=rfl
@[simp] theorem rM{a:D}:QO [a] g=.ok (.tup [a]) g:=rfl
@[simp] theorem rN{a b:D}:QO [a,b] g=.ok (.tup [a,b]) g:=rfl
@[simp] theorem rO{a b c:D}:QO [a,b,c] g=.ok (.tup [a,b,c]) g:=rfl
@[simp] theorem rP{a b c d:D}:QO [a,b,c,d] g=.ok (.tup [a,b,c,d]) g:=rfl
@[simp] theorem rQ{a b:D}:JS [a,b] g=.ok (.ref g.length) (g++[.lst [a,b]]):=rfl
@[simp] theorem uS{ds:List D}:Qv (.ref g.length) (.int 0) (g++[.lst ds])=(match VF ds 0 with|some d=>.ok d (g++[.lst ds])|none=>.stuck):=by unfold Qv;dsimp only;rw[Qw];try rfl
@[simp] theorem uT{ds:List D}:Qv (.ref g.length) (.int 1) (g++[.lst ds])=(match VF ds 1 with|some d=>.ok d (g++[.lst ds])|none=>.stuck):=by unfold Qv;dsimp only;rw[Qw];try rfl
@[simp] theorem wZ{α:Type}{a:α}{xs:List α}:VF (a::xs) 0=some a:=by simp[VF,Gf]
@[simp] theorem xA{α:Type}{a b:α}{xs:List α}:VF (a::b::xs) 1=some b:=by
 have:(1:Int)<(xs.length:Int)+1+1:=by omega
 simp[VF,Gf,this]
@[simp] theorem xB{α:Type}{a b c:α}{xs:List α}:VF (a::b::c::xs) 2=some c:=by
 have:(2:Int)<(xs.length:Int)+1+1+1:=by omega
 simp[VF,Gf,this]
@[simp] theorem xC{α:Type}{a b c d:α}{xs:List α}:VF (a::b::c::d::xs) 3=some d:=by
 have:(3:Int)<(xs.length:Int)+1+1+1+1:=by omega
 simp[VF,Gf,this]
@[simp] theorem xD{α:Type}{a:α}{xs:List α}:VF (xs++[a]) (-1)=some a:=by
 have:(-1+((xs.length:Int)+1)).toNat=xs.length:=by omega
 have h:(1:Int)<=(xs.length:Int)+1:=by omega
 simp[VF,Gf,this,h]
theorem rR{α:Type}{xs:List α}{n:Nat}{d:α}(h:xs[n]?=some d):VF xs n=some d:=by have:=(Uj.mp h).1;unfold VF Gf;rw[Ub (by omega),Ub (by omega)];simp[h]
@[simp] theorem uU{ds:List D}{i:Int}:Qv (.tup ds) (.int i) g=(match VF ds i with|some d=>.ok d g|none=>.stuck):=rfl
theorem FO{xs ys:List D}(h:xs.length+ys.length<=100000):QC (.tup xs) (.tup ys) g=.ok (.tup (xs++ys)) g:=by unfold QC;dsimp only;rw[Ub (UO (XZ h))]
end
@[simp] theorem pL{α:Type}{xs:List α}{d:α}:Y9 (xs++[d]) (some (-1)) none=[d]:=by
 have:(-1+((xs.length:Int)+1)).toNat=xs.length:=by omega
 simp[Y9,EU,this]
@[simp] theorem rV{α:Type}{a b:Option Int}:Y9 ([]:List α) a b=[]:=by simp[Y9]
@[simp] theorem mZ{α:Type}{xs:List α}{d:α}:Y9 (d::xs) none (some 1)=[d]:=by
 have:min 1 (xs.length+1)=1:=by omega
 simp[Y9,EU,this]
@[simp] theorem pM{α:Type}{xs:List α}:Y9 xs (some 1) none=xs.tail:=by
 cases xs with
 |nil=>simp|cons a r=>
  have:min 1 (r.length+1)=1:=by omega
  simp[Y9,EU,this]
@[simp] theorem pN{α:Type}{xs:List α}:Y9 xs none (some (-1))=xs.dropLast:=by
 have:(-1+(xs.length:Int)).toNat=xs.length-1:=by omega
 simp[Y9,EU,this,RG]
theorem aG{α:Type}{xs:List α}(n:Nat):Y9 xs none (some (n:Int))=xs.take n:=by
 have:¬((n:Int)<0):=by omega
 simp[Y9,EU,this,List.take_eq_take_iff]
theorem MY{α:Type}{xs:List α}(n:Nat):Y9 xs (some (n:Int)) none=xs.drop n:=by
 have:¬((n:Int)<0):=by omega
 simp only[Y9,EU,this,Re,US];rw[Ti (by rw[TW];omega)];by_cases h:n<=xs.length
 ·rw[T1 h]
 ·rw[WB (by omega),List.drop_length,WK (by omega)]
def fc(b:Bool):Str:=if b then Str.ofString "r" else Str.ofString "l"
theorem wA:(Str.ofString "l"==Str.ofString "r")=false:=by rw[mW,fF];rfl
theorem wQ:(Str.ofString "r"==Str.ofString "l")=false:=by rw[mW,fF];rfl
@[simp] theorem fO{b:Bool}:(fc b==Str.ofString "r")=b:=by cases b;exact wA;exact Y3 _
@[simp] theorem uV{b:Bool}:(fc b==Str.ofString "l")=!b:=by cases b;exact Y3 _;exact wQ
@[simp] theorem wB{a b:Bool}:(fc a==fc b)=(a==b):=by cases b;rw[show fc false=Str.ofString "l" from rfl,uV];cases a<;>rfl;rw[show fc true=Str.ofString "r" from rfl,fO];cases a<;>rfl
theorem lrS.fc{f:Str}(h:lrS f):∃b,f=fc b:=by
 rcases h with rfl|rfl
 ·exact⟨false,rfl⟩
 ·exact⟨true,rfl⟩
theorem fc.lr(b:Bool):lrS (fc b):=by cases b;exact .inl rfl;exact .inr rfl
@[simp] theorem wC:Str.ofString "r"=fc true:=rfl
@[simp] theorem wD:Str.ofString "l"=fc false:=rfl
def KB(st:Int)(b:Bool)(L R:List D):D:=.tup [.int st,.str (fc b),.tup L,.tup R]
def pO(b:Bool)(L R:List D):Option D:=if b then R.head? else L.getLast?
def iM(b:Bool)(L:List D):List D:=if b then L else L.dropLast
def iN(b:Bool)(R:List D):List D:=if b then R.tail else R
theorem BG{st:Int}{b:Bool}{L R:List D}{g:G}:YS [KB st b L R] g=.ok ((pO b L R).getD .non) g:=by
 cases b
 ·rcases WV L with rfl|⟨L,d,rfl⟩<;>simp[YS,VZ,KB,pO]
 ·cases R<;>simp[YS,VZ,KB,pO]
theorem MZ{st:Int}{b:Bool}{L R X:List D}{g:G}(hz:L.length+R.length+X.length<=10000):ZG [KB st b L R,.tup X] g=.ok (if b then KB st b L (X++R.tail) else KB st b (L.dropLast++X) R) g:=by
 cases b
 ·simp[ZG,Jn,KB,FO (g:=g) (xs:=L.dropLast) (ys:=X) (by simp;omega)]
 ·simp[ZG,Jn,KB,FO (g:=g) (xs:=X) (ys:=R.tail) (by simp;omega)]
def Os(b:Bool)(L R:List D)(s:Int)(w:Bool)(t:D):D:=if w then KB s w (iM b L++[t]) (iN b R) else KB s w (iM b L) (t::iN b R)
theorem PM{st s:Int}{b w:Bool}{L R:List D}{t:D}{g:G}(hz:L.length+R.length<=1000):Kc [KB st b L R,.int s,.str (fc w),t] g=.ok (Os b L R s w t) g:=by have e:=MZ (st:=st) (b:=b) (L:=L) (R:=R) (X:=[]) (g:=g) (by simp;omega);have a1:QC (.tup (iM b L)) (.tup [t]) g=.ok (.tup (iM b L++[t])) g:=FO (by unfold iM;split<;>simp<;>omega);have a2:QC (.tup [t]) (.tup (iN b R)) g=.ok (.tup (t::iN b R)) g:=FO (by unfold iN;split<;>simp<;>omega);unfold iM at a1;unfold iN at a2;cases b<;>cases w<;>simp[KB]at e a1 a2<;>simp[Kc,IK,KB,e,Os,a1,a2,iM,iN]
section
variable{σ:S3}{g:G}
@[simp] theorem rW{i j k:Nat}{a:ME}:Qy (Ju [Qm i,Qm j,Qm k]) a σ g=(match a σ g with | .ok (.tup [x,y,z]) g'=>.nx (((σ.set i (some x)).set j (some y)).set k (some z)) g' | .ok _ _=>.stuck | .raise e g'=>.raise e σ g' | .stuck=>.stuck):=by
 unfold Qy;cases a σ g with
 |ok d g'=>cases d with
  |tup ds=>match ds with
   |[]=>rfl|[_]=>rfl|[_,_]=>rfl|[_,_,_]=>rfl|_::_::_::_::_=>rfl
  |_=>rfl
 |_=>rfl
@[simp] theorem rX{i j k l:Nat}{a:ME}:Qy (Ju [Qm i,Qm j,Qm k,Qm l]) a σ g=(match a σ g with | .ok (.tup [x,y,z,w]) g'=>.nx ((((σ.set i (some x)).set j (some y)).set k (some z)).set l (some w)) g' | .ok _ _=>.stuck | .raise e g'=>.raise e σ g' | .stuck=>.stuck):=by
 unfold Qy;cases a σ g with
 |ok d g'=>cases d with
  |tup ds=>match ds with
   |[]=>rfl|[_]=>rfl|[_,_]=>rfl|[_,_,_]=>rfl|[_,_,_,_]=>rfl|_::_::_::_::_::_=>rfl
  |_=>rfl
 |_=>rfl
end
@[simp] theorem wR:(Str.ofString "one"==Str.ofString "many")=false:=aC
@[simp] theorem wS:(Str.ofString "many"==Str.ofString "one")=false:=Ew
@[simp] theorem wT{s:Str}:(s==s)=true:=Y3 s
@[simp] theorem uW{t:Tk}:isNon (QS t)=false:=by cases t<;>rfl
def aH(b:Bool)(L R:List Tk):Option Tk:=if b then R.head? else L.getLast?
theorem PN{b:Bool}{L R:List Tk}:pO b (L.map QS) (R.map QS)=(aH b L R).map QS:=by cases b<;>simp[pO,aH]
theorem PP{b:Bool}{L R:List Tk}{t:Tk}{P:Tk->Prop}(h:aH b L R=some t)(hL:∀t∈L,P t)(hR:∀t∈R,P t):P t:=by
 cases b
 ·exact hL t (T8 h)
 ·exact hR t (List.mem_of_head? h)
structure Tbl(rows:List (List D))(n m:Nat):Prop where
 n0:0<n
 m0:0<m
 len:rows.length=n
 row:∀r∈rows,r.length=m
 ent:∀r∈rows,∀d∈r,entOk d n m
abbrev En:=Option (Int×Bool×Int)
def PQ:En->D
 |none=>.non|some (a,w,s)=>.tup [.int a,.str (fc w),.int s]
def AX:D->En
 |.tup [.int a,.str w,.int s]=>some (a,w==Str.ofString "r",s)|_=>none
def en(rows:List (List D))(st s:Int):En:=AX (((rows[st.toNat]?.getD [])[s.toNat]?).getD .non)
theorem fP{d:D}{n m:Nat}(h:entOk d n m):d=PQ (AX d)/\∀a w s,AX d=some (a,w,s)->(0<=a/\a<m)/\0<=s/\s<n:=by
 rcases h with rfl|⟨i,j,w,rfl,h1,h2,h3,h4,h5⟩
 ·exact⟨rfl,λa w s h=>by cases h⟩
 ·refine⟨?_,λa w s h=>by cases h;exact⟨⟨h1,h2⟩,h3,h4⟩⟩;rcases h5 with rfl|rfl
  ·rw[<-mW];show _=PQ (some (i,(fc false==Str.ofString "r"),j));rw[fO];rfl
  ·rw[<-fF];show _=PQ (some (i,(fc true==Str.ofString "r"),j));rw[fO];rfl
theorem Tbl.at'{rows:List (List D)}{n m:Nat}(h:Tbl rows n m){st s:Int}(h0:0<=st)(h1:st<n)(h2:0<=s)(h3:s<m):
  ∃r,rows[st.toNat]?=some r/\r[s.toNat]?=some (PQ (en rows st s))/\∀a w s',en rows st s=some (a,w,s')->(0<=a/\a<m)/\0<=s'/\s'<n:=by
 have hl:=h.len;have e1:rows[st.toNat]?=some rows[st.toNat]:=Uk (by omega);have hr:=UI (l:=rows) (n:=st.toNat) (by omega);have hm:=h.row _ hr;have e2:(rows[st.toNat])[s.toNat]?=some ((rows[st.toNat])[s.toNat]):=Uk (by omega);obtain⟨q1,q2⟩:=fP (h.ent _ hr _ (UI (l:=rows[st.toNat]) (n:=s.toNat) (by omega)));have e3:en rows st s=AX ((rows[st.toNat])[s.toNat]):=by unfold en;rw[e1,Wy,e2,Wy]
 exact⟨_,e1,by rw[e3,<-q1];exact e2,by rw[e3];exact q2⟩
theorem Tbl.prog{rows:List (List D)}{n m:Nat}(h:Tbl rows n m){st s:Int}(h0:0<=st)(h1:st<n)(h2:0<=s)(h3:s<m):∃r,VF (rows.map D.tup) st=some (.tup r)/\VF r s=some (PQ (en rows st s)):=by
 obtain⟨r,e1,e2,_⟩:=h.at' h0 h1 h2 h3;have a1:((st.toNat:Nat):Int)=st:=by omega
 have a2:((s.toNat:Nat):Int)=s:=by omega
 refine⟨r,?_,?_⟩
 ·rw[<-a1];exact rR (by rw[Uy,e1];rfl)
 ·rw[<-a2];exact rR e2
theorem Tbl.law{rows:List (List D)}{n m N t:Nat}{g:G}(h:Tbl rows n m)(ht:tabOf N g t rows){st s:Int}(h0:0<=st)(h1:st<n)(h2:0<=s)(h3:s<m):∃q,Qv (.ref t) (.int st) g=.ok (.ref q) g/\Qv (.ref q) (.int s) g=.ok (PQ (en rows st s)) g:=by obtain⟨r,e1,e2,_⟩:=h.at' h0 h1 h2 h3;obtain⟨_,ds,d1,d2,d3⟩:=ht;have hl:=(Uj.mp e1).1;have e0:ds[st.toNat]?=some ds[st.toNat]:=Uk (by omega);obtain⟨q,hq,_,_,gq⟩:=d3 _ _ _ e0 e1;rw[hq]at e0;exact⟨q,LD d1 h0 e0,LD gq h2 e2⟩
def uX(rows:List (List D))(st:Int)(b:Bool)(L R:List Tk)(s:Int):Option D:=(en rows st s).map λe=>Os b (L.map QS) (R.map QS) e.2.2 e.2.1 (QS (.one e.1))
def IN(rows:List (List D))(st:Int)(b:Bool)(L R:List Tk):Option D:=match aH b L R with
 |none=>uX rows st b L R 0|some (.one s)=>uX rows st b L R s|some (.many _ _)=>none
def Pr(o:Option D)(g:G):Res D:=match o with
 |some d=>.ok d g|none=>.raise (8,none) g
@[simp] theorem rY{e:En}:isNon (PQ e)=e.isNone:=by cases e<;>rfl
section
variable{rows:List (List D)}{n m K:Nat}{st:Int}{b:Bool}{L R:List Tk}{g:G}
theorem HW{M:Nat}(hM:g[M]?=some (JM rows))(hT:Tbl rows n m)(h0:0<=st)(h1:st<n)(hL:∀t∈L,TkK K m t)(hR:∀t∈R,TkK K m t)(hz:L.length+R.length<=1000):
  YM [.ref M,KB st b (L.map QS) (R.map QS)] g=Pr (IN rows st b L R) g:=by
 have hA:∀i σ,σ[i]?=some (some (.ref M))->QY [11,12] "table" (Qa i) σ g=.ok (.tup (rows.map .tup)) g:=λi σ h=>Ky h hM;have e1:=BG (st:=st) (b:=b) (L:=L.map QS) (R:=R.map QS) (g:=g);rw[PN]at e1;have G:=λs w t=>PM (st:=st) (s:=s) (b:=b) (w:=w) (L:=L.map QS) (R:=R.map QS) (t:=t) (g:=g) (by simp;omega);have key:∀s:Int,0<=s->s<m->∃r,VF (rows.map D.tup) st=some (.tup r)/\VF r s=some (PQ (en rows st s)):=λs h2 h3=>hT.prog h0 h1 h2 h3;simp only[KB]at e1 G ⊢;unfold IN uX;cases ha:aH b L R with
 |none =>obtain⟨r,k1,k2⟩:=key 0 (by omega) (by have:=hT.m0;omega);rw[ha]at e1;cases he:en rows st 0<;>rw[he]at k2<;>simp[YM,X8,e1,isNon,hA,k1,k2,PQ,Pr,G,QS]|some t=>
  rw[ha]at e1;have ht:=PP ha hL hR;cases t with
  |many w k=>simp[YM,X8,e1,isNon,Pr,QS]|one s =>obtain⟨r,k1,k2⟩:=key s ht.1 ht.2;cases he:en rows st s<;>rw[he]at k2<;>simp[YM,X8,e1,isNon,hA,k1,k2,PQ,Pr,G,QS,he]
end
def ones(w:List Int):List D:=w.map λs=>QS (.one s)
theorem An{it:ME}{σ:S3}{g:G}{w:List Int}(h:it σ g=.ok (.tup (w.map .int)) g)(hz:w.length<=1000):Qu Zw (ZK (QQ it) 1 [] (Qm 0) ZV (QA QO (Qc (Qp (.str "one")) (Qc (Qa 0) Ql)))) σ g=.ok (.tup (ones w)) (g++[.lst (ones w)]):=by
 obtain⟨xs,σ',g3,c1,c2,c3,_⟩:=YT (src:=⟨λ_ i=>some (w.map D.int)[i]?,(w.map D.int).length⟩) (t:=Qm 0) (c:=ZV) (e:=QA QO (Qc (Qp (.str "one")) (Qc (Qa 0) Ql))) (n:=w.length)
  (λi σ' g4 acc=>acc=(ones w).take i/\g4=g/\∃u,σ'=[u]) (λi σ' g4 acc hi hQ=>by obtain⟨q1,q2,u,q3⟩:=hQ;subst q2 q3;refine⟨.int w[i],[some (.int w[i])],g4,by simp[hi],rfl,.inl ⟨QS (.one w[i]),g4,rfl,rfl,?_,rfl,_,rfl⟩⟩;rw[q1,Ux (by unfold ones;simpa using hi)];simp[ones]) (λσ g1 acc _=>by simp) ((w.map D.int).length+1) 0 [none] g [] (by simp) (by omega) ⟨rfl,rfl,none,rfl⟩
 subst c3;rw[Ti (by simp[ones])]at c2;subst c2;refine YN (JD (n:=1) (cap:=[]) (σ0:=[none]) (g1:=g3) (src:=⟨λ_ i=>some (w.map D.int)[i]?,(w.map D.int).length⟩) (by unfold QQ;rw[h];rfl) (by show(w.map D.int).length<=SZ;rw[Ua];exact UO (Vw hz)) rfl c1) ?_;unfold Zw;dsimp only;rw[Qw]
theorem Ot{w:List Int}{g:G}(hz:w.length<=1000):B3 [.tup (w.map .int)] g=.ok (.tup (ones w)) (g++[.lst (ones w)]):=Zm rfl (Yy (An (it:=Qa 0) (σ:=[some (.tup (w.map .int))]) rfl hz))
section
variable{n m K:Nat}{st:Int}{b:Bool}{L R:List Tk}{g:G}
theorem HX:Jd [KB st b (L.map QS) (R.map QS)] g=(match aH b L R with|some (.many w k)=>.ok (QS (.many w k)) g|_=>.raise (8,none) g):=by
 have e1:=BG (st:=st) (b:=b) (L:=L.map QS) (R:=R.map QS) (g:=g);rw[PN]at e1;cases ha:aH b L R with
 |none=>rw[ha]at e1;simp[Jd,Ks,e1,isNon]|some t=>rw[ha]at e1;cases t<;>simp[Jd,Ks,e1,isNon,QS]
end
theorem Keeps.new{g0 g:G}{l:Nat}{o:GO}(k:Keeps [] g0 g)(h:g0.length<=l):Keeps [] g0 (g.set l o):=⟨by rw[UJ];exact k.len,λi u _ e=>by have:=ZB e;rw[Uh (by omega)];exact k.at' _ _ (by simp) e⟩
def pn(p:Int)(w:Bool):Int:=if w then p+1 else p-1
def NM(rows:List (List D)):Nat->List Int->Int->Int->Option (List Int×Int×Bool)
 |0,_,_,_=>none|f+1,c,p,cur=>match en rows cur (c[p.toNat]?.getD 0) with
  |none=>none|some (a,w,s)=>if 0<=pn p w/\pn p w<c.length then NM rows f (c.set p.toNat a) (pn p w) s else some (c.set p.toNat a,s,w)
def fQ(st:Int)(b:Bool):Option (List Int×Int×Bool)->Option (List Int)
 |some (c,s,w)=>if (w==b&&s==st)=true then some c else none
 |none=>none
def iD:Option (List Int)->D
 |some c=>.tup (c.map .int)|none=>.non
def aI(b:Bool)(w:List Int):Int:=if b then 0 else (w.length:Int) - 1
theorem wU{g:G}{l:Nat}{c:List Int}{p:Int}(hl:g[l]?=some (.lst (c.map .int)))(h0:0<=p)(h1:p<c.length):Qv (.ref l) (.int p) g=.ok (.int (c[p.toNat]?.getD 0)) g:=LD hl h0 (by rw[Uy,Uk (show p.toNat<c.length by omega)];rfl)
theorem uY{g:G}{l:Nat}{c:List Int}{p a:Int}{σ:S3}{o i v:ME}(hl:g[l]?=some (.lst (c.map .int)))(h0:0<=p)(h1:p<c.length)(hv:v σ g=.ok (.int a) g)(ho:o σ g=.ok (.ref l) g)(hi:i σ g=.ok (.int p) g):ZO o i v σ g=.nx σ (g.set l (.lst ((c.set p.toNat a).map .int))):=by unfold ZO;rw[hv];dsimp only;rw[ho];dsimp only;rw[hi];dsimp only;rw[hl];dsimp only;unfold Gf;rw[Ub h0,Ub (by rw[Ua];exact h1)];dsimp only;rw[List.map_set]
section
variable{rows:List (List D)}{n m K:Nat}{st:Int}{b:Bool}{g0:G}
theorem fR{m:Nat}{c:List Int}{p:Nat}{a:Int}(h:∀x∈c,0<=x/\x<(m:Int))(ha:0<=a/\a<(m:Int)):∀x∈c.set p a,0<=x/\x<(m:Int):=λx hx=>by
 rcases TK hx with z|z
 ·exact h x z
 ·rw[z];exact ha
theorem lW{m:Nat}{c:List Int}{p:Int}(h:∀x∈c,0<=x/\x<(m:Int))(h0:0<=p)(h1:p<c.length):0<=c[p.toNat]?.getD 0/\c[p.toNat]?.getD 0<(m:Int):=by have e:c[p.toNat]?=some c[p.toNat]:=Uk (by omega);rw[e];exact h _ (UI _)
theorem PR{M l:Nat}{W:Option D}(hM:g0[M]?=some (JM rows))(hT:Tbl rows n m)(hl0:g0.length<=l):∀(f i:Nat)(c:List Int)(p cur:Int)(x7 x8:Option D)(g:G),i+f=1000->Keeps [] g0 g->g[l]?=some (.lst (c.map .int))->(∀x∈c,0<=x/\x<(m:Int))->0<=cur->cur<n->0<=p->p<c.length->∃g',Keeps [] g0 g'/\(JQ (Zu 0 1000) (Qm 7) Zd (f+1) i [some (.ref M),some (.int st),some (.str (fc b)),W,some (.ref l),some (.int p),some (.int cur),x7,x8] g=.rt (iD (fQ st b (NM rows f c p cur))) g'\/(NM rows f c p cur=none/\∃σ',JQ (Zu 0 1000) (Qm 7) Zd (f+1) i [some (.ref M),some (.int st),some (.str (fc b)),W,some (.ref l),some (.int p),some (.int cur),x7,x8] g=.nx σ' g'))
 |0,i,c,p,cur,x7,x8,g,hf,k,gl,hc,h0,h1,h2,h3=>by
  have:¬i<1000:=by omega
  exact⟨g,k,.inr ⟨rfl,_,by unfold JQ;simp only[Zu,this,Re];rfl⟩⟩
 |f+1,i,c,p,cur,x7,x8,g,hf,k,gl,hc,h0,h1,h2,h3=>by
  have hi:i<1000:=by omega
  obtain⟨y0,y1⟩:=lW hc h2 h3;obtain⟨r,k1,k2⟩:=hT.prog h0 h1 y0 y1;obtain⟨_,_,_,bd⟩:=hT.at' h0 h1 y0 y1;have k3:=wU gl h2 h3;unfold JQ NM;simp only[Zu,hi,RI];generalize c[p.toNat]?.getD 0=y at k2 k3 bd;have hA:∀i σ,σ[i]?=some (some (.ref M))->QY [11,12] "table" (Qa i) σ g=.ok (.tup (rows.map .tup)) g:=λi σ h=>Ky h (k.at' _ _ (by simp) hM);cases he:en rows cur y with
  |none =>rw[he]at k2;exact⟨g,k,.inl (by simp[Qm,Zd,hA,k1,k2,k3,PQ,isNon,fQ,iD])⟩|some e=>
   obtain⟨a,w,s⟩:=e;obtain⟨ba,bs⟩:=bd _ _ _ he;rw[he]at k2;have hS:∀σ,σ[4]?=some (some (.ref l))->σ[5]?=some (some (.int p))->σ[8]?=some (some (.tup [.int a,.str (fc w),.int s]))->ZO (Qa 4) (Qa 5) (Qd Qv (Qa 8) (mI 0)) σ g=.nx σ (g.set l (.lst ((c.set p.toNat a).map .int))):=λσ q1 q2 q3=>uY gl h2 h3 (by simp[q3]) (by simp[q1]) (by simp[q2]);have kn:Keeps [] g0 (g.set l (.lst ((c.set p.toNat a).map .int))):=k.new hl0;have gn:(g.set l (.lst ((c.set p.toNat a).map .int)))[l]?=some (.lst ((c.set p.toNat a).map .int)):=Zb gl;generalize g.set l (.lst ((c.set p.toNat a).map .int))=g2 at hS kn gn;have hlen:Zg (.ref l) g2=.ok (.int c.length) g2:=by simp[Zg,gn]
   have htup:Zw (.ref l) g2=.ok (.tup ((c.set p.toNat a).map .int)) g2:=by simp[Zw,gn]
   have hpw:(if w then p+1 else p-1)=pn p w:=rfl;have hb:=VO (.int (pn p w)) c.length g2 .int rfl;have key:∀R,(if 0<=pn p w/\pn p w<c.length then Out.nx [some (.ref M),some (.int st),some (.str (fc b)),W,some (.ref l),some (.int (pn p w)),some (.int s),some (.int (0+i)),some (.tup [.int a,.str (fc w),.int s])] g2 else .rt (iD (fQ st b (some (c.set p.toNat a,s,w)))) g2)=R->Zd [some (.ref M),some (.int st),some (.str (fc b)),W,some (.ref l),some (.int p),some (.int cur),some (.int (0+i)),x8] g=R:=λR hR=>by
    subst hR;by_cases hin:0<=pn p w/\pn p w<c.length
    ·rw[show XY (.int (pn p w)) c.length=true from Uo hin]at hb;cases w<;>simp[pn]at hb hin<;>simp[Zd,hA,k1,k2,k3,PQ,isNon,hS,hlen,hb,pn,hin]
    ·rw[show XY (.int (pn p w)) c.length=false from Ul hin]at hb;rw[Ud hin];cases w<;>cases b<;>by_cases hq:s=st<;>simp[pn]at hb hin hq<;>simp[Zd,hA,k1,k2,k3,PQ,isNon,hS,hlen,hb,pn,htup,fQ,iD,hq]
   dsimp only[Qm];by_cases hin:0<=pn p w/\pn p w<c.length
   ·have hb1:=key _ rfl;rw[Ub hin]at hb1 ⊢;obtain⟨g',q1,q2⟩:=PR hM hT hl0 f (i+1) (c.set p.toNat a) (pn p w) s (some (.int (0+i))) (some (.tup [.int a,.str (fc w),.int s])) g2 (by omega) kn gn (fR hc ba) bs.1 bs.2 hin.1 (by rw[UJ];exact hin.2);refine⟨g',q1,?_⟩;simp only[List.set_cons_succ,List.set_cons_zero];rw[hb1];exact q2
   ·have hb1:=key _ rfl;rw[Ud hin]at hb1 ⊢;refine⟨g2,kn,.inl ?_⟩;simp only[List.set_cons_succ,List.set_cons_zero];rw[hb1]
theorem G5{M:Nat}{w:List Int}(hM:g0[M]?=some (JM rows))(hT:Tbl rows n m)(h0:0<=st)(h1:st<n)(hw:w≠[])(hc:∀x∈w,0<=x/\x<(m:Int)):
  ∃g',Keeps [] g0 g'/\V0 [.ref M,.int st,.str (fc b),.tup (w.map .int)] g0=.ok (iD (fQ st b (NM rows 1000 w (aI b w) st))) g':=by
 have hl:0<w.length:=TR.mpr hw;have kn:Keeps [] g0 (g0++[.lst (w.map .int)]):=.push _;obtain⟨g',q1,q2⟩:=PR (st:=st) (b:=b) (W:=some (.tup (w.map .int))) hM hT (Ui _) 1000 0 w (aI b w) st none none _ rfl kn (Qw _) hc h0 h1 (by unfold aI;split<;>omega) (by unfold aI;split<;>omega);have hlen:Zg (.ref g0.length) (g0++[.lst (w.map .int)])=.ok (.int w.length) (g0++[.lst (w.map .int)]):=by unfold Zg;dsimp only;rw[Qw];simp
 have hfor:YF (QJ (mI 1000)) (Qm 7) Zd [some (.ref M),some (.int st),some (.str (fc b)),some (.tup (w.map .int)),some (.ref g0.length),some (.int (aI b w)),some (.int st),none,none] (g0++[.lst (w.map .int)])=JQ (Zu 0 1000) (Qm 7) Zd 1001 0 [some (.ref M),some (.int st),some (.str (fc b)),some (.tup (w.map .int)),some (.ref g0.length),some (.int (aI b w)),some (.int st),none,none] (g0++[.lst (w.map .int)]):=Yp (ZR (n:=1000) rfl (Xh (by omega)));have hpre:∀R,Qq (YF (QJ (mI 1000)) (Qm 7) Zd) (QU (Qp .non)) [some (.ref M),some (.int st),some (.str (fc b)),some (.tup (w.map .int)),some (.ref g0.length),some (.int (aI b w)),some (.int st),none,none] (g0++[.lst (w.map .int)])=R->Co [some (.ref M),some (.int st),some (.str (fc b)),some (.tup (w.map .int)),none,none,none,none,none] g0=R:=λR hR=>by refine Qo _ (g0++[.lst (w.map .int)]) rfl (Qo [some (.ref M),some (.int st),some (.str (fc b)),some (.tup (w.map .int)),some (.ref g0.length),some (.int (aI b w)),none,none,none] (g0++[.lst (w.map .int)]) ?_ (Qo _ (g0++[.lst (w.map .int)]) rfl hR));cases b<;>simp[aI,hlen]
 refine⟨g',q1,Zm rfl (hpre _ ?_)⟩;rcases q2 with q2|⟨q3,σ',q2⟩
 ·exact LB (hfor.trans q2)
 ·rw[q3];exact Qo σ' g' (hfor.trans q2) rfl
def PU(rows:List (List D))(st:Int)(b:Bool)(L R:List Tk):Option D:=match aH b L R with
 |some (.many w k)=>(fQ st b (NM rows 1000 w (aI b w) st)).map λc=>Os b (L.map QS) (R.map QS) st b (QS (.many c k))
 |_=>none
theorem HY{M:Nat}{L R:List Tk}(hM:g0[M]?=some (JM rows))(hT:Tbl rows n m)(h0:0<=st)(h1:st<n)(hL:∀t∈L,TkK K m t)(hR:∀t∈R,TkK K m t)(hz:L.length+R.length<=1000):
  ∃g',Keeps [] g0 g'/\YK [.ref M,KB st b (L.map QS) (R.map QS)] g0=Pr (PU rows st b L R) g':=by
 have e1:=HX (st:=st) (b:=b) (L:=L) (R:=R) (g:=g0);unfold PU;cases ha:aH b L R with
 |none=>rw[ha]at e1;exact⟨g0,.refl,by simp[YK,X7,e1,Pr]⟩|some t=>
  have ht:=PP ha hL hR;rw[ha]at e1;cases t with
  |one s=>exact⟨g0,.refl,by simp[YK,X7,e1,Pr]⟩|many w k =>obtain⟨g',q1,q2⟩:=G5 (b:=b) hM hT h0 h1 ht.1 ht.2.1;have G:=λt=>PM (st:=st) (s:=st) (b:=b) (w:=b) (L:=L.map QS) (R:=R.map QS) (t:=t) (g:=g') (by simp;omega);simp only[KB]at e1 G ⊢;refine⟨g',q1,?_⟩;cases ho:fQ st b (NM rows 1000 w (aI b w) st)<;>rw[ho]at q2<;>simp[iD]at q2<;>simp[YK,X7,e1,Pr,QS,q2,isNon,G]
end
def pq:Nat->D->Bool
 |0,_=>false|f+1,d=>match d with
  |.int _=>true|.str _=>true|.tup ds=>decide (ds.length<=100000)&&ds.all (pq f)|_=>false
theorem aJ(g:G)(k:Nat):∀(f:Nat)(d:D),pq f d=true->Xz g (f+k) d d=some true
 |0,_,h=>absurd h Uf|f+1,d,h=>by
  rw[show f+1+k=f+k+1 by omega];cases d with
  |int i=>show some (i==i)=some true;rw[RK]|str s=>show some (s==s)=some true;rw[RK]|tup ds=>
   have h':(decide (ds.length<=100000)&&ds.all (pq f))=true:=h;rw[UG]at h';have:∀es:List D,es.all (pq f)=true->YQ (Xz g (f+k)) es es=some true:=λes=>by
    induction es with
    |nil=>exact λ_=>rfl
    |cons x xs ih =>intro hx;rw[Rn,UG]at hx;unfold YQ;rw[aJ g k f x hx.1,ih hx.2];rfl
   exact this ds h'.2
  |_=>exact absurd h Uf
theorem G6{f:Nat}{ds:List D}(hz:ds.length<=100000)(h:∀x∈ds,pq f x=true):pq (f+1) (.tup ds)=true:=by show(decide (ds.length<=100000)&&ds.all (pq f))=true;rw[Uo hz,Uu.mpr h];rfl
theorem lX(f:Nat){w:List Int}(hz:w.length<=100000):pq (f+2) (.tup (w.map .int))=true:=G6 (by rw[Ua];exact hz) λd hd=>by obtain⟨i,_,rfl⟩:=Te.mp hd;rfl
theorem fS{w:List Int}{k:Int}(hz:w.length<=1000):pq 3 (QS (.many w k))=true:=G6 (by simp) λx hx=>by
 rcases UE.mp hx with rfl|hx
 ·rfl
 rcases UE.mp hx with rfl|hx
 ·exact lX 0 (by omega)
 ·rw[Ur.mp hx];rfl
theorem pP{m K:Nat}{t:Tk}(h:TkK K m t):pq 3 (QS t)=true:=by
 cases t with
 |one s=>rfl|many w k=>exact fS (by have:=h.2.2.2.1;omega)
theorem aK{m K:Nat}{T:List Tk}(h:∀t∈T,TkK K m t):∀x∈T.map QS,pq 3 x=true:=λx hx=>by obtain⟨t,ht,rfl⟩:=Te.mp hx;exact pP (h t ht)
def isO:List Tk->List Int->Bool
 |[],[]=>true|.one s::X,z::w=>(s==z)&&isO X w|_,_=>false
theorem Ou(g:G)(f:Nat):∀(X:List Tk)(w:List Int),YQ (Xz g (f+2)) (X.map QS) (ones w)=some (isO X w)
 |[],[]=>rfl|[],_::_=>rfl|.one s::X,z::w=>by have ih:=Ou g f X w;show YQ (Xz g (f+2)) (QS (.one s)::X.map QS) (QS (.one z)::ones w)=some ((s==z)&&isO X w);unfold YQ;rw[ih];simp[QS,Xz,YQ]
 |.many v k::X,z::w=>by have ih:=Ou g f X w;show YQ (Xz g (f+2)) (QS (.many v k)::X.map QS) (QS (.one z)::ones w)=some false;unfold YQ;rw[ih];simp[QS,Xz,YQ]
 |.one _::_,[]=>rfl|.many _ _::_,[]=>rfl
theorem aL{X:List Tk}{w:List Int}{g:G}:Ci (.tup (X.map QS)) (.tup (ones w)) g=.ok (.bl (!isO X w)) g:=by unfold Ci;rw[show Xz g 8 (.tup (X.map QS)) (.tup (ones w))=YQ (Xz g 7) (X.map QS) (ones w) from rfl,Ou g 5]
theorem fU{α:Type}{xs:List α}(a n:Nat):Y9 xs (some (a:Int)) (some ((a:Int)+n))=(xs.drop a).take n:=by
 have h1:¬((a:Int)<0):=by omega
 have h2:¬((a:Int)+n<0):=by omega
 have h3:((a:Int)+n).toNat=a+n:=by omega
 simp only[Y9,EU,h1,h2,Re,US,h3];by_cases h:a<=xs.length
 ·rw[T1 h];by_cases h':a+n<=xs.length
  ·rw[T1 h',Wv]
  ·rw[WB (by omega),Ti (by rw[TW];omega),Ti (by rw[TW];omega)]
 ·rw[WB (show xs.length<=a by omega),List.drop_length,WK (show xs.length<=a by omega)];simp
section
variable{m K:Nat}{T:List Tk}{p:Nat}{w:List Int}{k:Int}
@[simp] theorem uZ{g:G}{i j:Int}:II (.int i) (.int j) g=.ok (.int (if j<i then j else i)) g:=rfl
@[simp] theorem vA{g:G}{i j:Int}:Px (.int i) (.int j) g=.ok (.int (if i<j then j else i)) g:=rfl
theorem Ao{g:G}:Yc [QS (.many w k)] g=.ok (QS (.many w (k+1))) g:=by simp[Yc,BB,QS]
def TOp(K m:Nat)(T:List Tk)(o:Option D):Prop:=∀d,o=some d->∃T',d=.tup (T'.map QS)/\T'.length<=T.length/\(∀t∈T',TkK (K+1) m t)/\∀c,Qz c T'=Qz c T
theorem TOp.none:TOp K m T none:=λd h=>by cases h
end
section
variable{m K:Nat}{T:List Tk}{p:Nat}{w:List Int}{k:Int}
theorem fV{i n:Int}{g:G}(h0:0<=i)(h1:i<n):ZQ [.int i,.int n] g=.ok (.bl true) g:=by rw[VO (.int i) n g .int rfl,show XY (.int i) n=true from Uo ⟨h0,h1⟩]
end
theorem PV:(Str.ofString "back"==Str.ofString "draw")=false/\(Str.ofString "back"==Str.ofString "join")=false/\(Str.ofString "back"==Str.ofString "open")=false/\(Str.ofString "back"==Str.ofString "over")=false/\(Str.ofString "back"==Str.ofString "roll")=false/\(Str.ofString "back"==Str.ofString "step")=false/\(Str.ofString "draw"==Str.ofString "back")=false/\(Str.ofString "draw"==Str.ofString "join")=false/\(Str.ofString "draw"==Str.ofString "open")=false/\(Str.ofString "draw"==Str.ofString "over")=false/\(Str.ofString "draw"==Str.ofString "roll")=false/\(Str.ofString "draw"==Str.ofString "step")=false/\(Str.ofString "join"==Str.ofString "back")=false/\(Str.ofString "join"==Str.ofString "draw")=false/\(Str.ofString "join"==Str.ofString "open")=false/\(Str.ofString "join"==Str.ofString "over")=false/\(Str.ofString "join"==Str.ofString "roll")=false/\(Str.ofString "join"==Str.ofString "step")=false/\(Str.ofString "open"==Str.ofString "over")=false/\(Str.ofString "open"==Str.ofString "step")=false/\(Str.ofString "over"==Str.ofString "open")=false/\(Str.ofString "over"==Str.ofString "step")=false/\(Str.ofString "pad"==Str.ofString "open")=false/\(Str.ofString "pad"==Str.ofString "over")=false/\(Str.ofString "pad"==Str.ofString "step")=false/\(Str.ofString "pad"==Str.ofString "trim")=false/\(Str.ofString "roll"==Str.ofString "back")=false/\(Str.ofString "roll"==Str.ofString "draw")=false/\(Str.ofString "roll"==Str.ofString "join")=false/\(Str.ofString "roll"==Str.ofString "open")=false/\(Str.ofString "roll"==Str.ofString "over")=false/\(Str.ofString "roll"==Str.ofString "step")=false/\(Str.ofString "step"==Str.ofString "open")=false/\(Str.ofString "step"==Str.ofString "over")=false/\(Str.ofString "trim"==Str.ofString "open")=false/\(Str.ofString "trim"==Str.ofString "over")=false/\(Str.ofString "trim"==Str.ofString "pad")=false/\(Str.ofString "trim"==Str.ofString "step")=false:=by decide +kernel
section
variable{m K:Nat}{T:List Tk}{g:G}
@[simp] theorem vB{neg:Bool}{s a b:Str}:IC neg (.str s) (.tup [.str a,.str b]) g=.ok (.bl (if neg=true then !((a==s)||(b==s)) else ((a==s)||(b==s)))) g:=by show Res.ok (D.bl (if neg=true then !((a==s)||((b==s)||false)) else ((a==s)||((b==s)||false)))) g=_;rw[Wt]
@[simp] theorem rZ{neg:Bool}{i:Int}:IC neg (.int i) (.tup [.int 2,.int 3]) g=.ok (.bl (if neg=true then !((2==i)||(3==i)) else ((2==i)||(3==i)))) g:=by show Res.ok (D.bl (if neg=true then !((2==i)||((3==i)||false)) else ((2==i)||((3==i)||false)))) g=_;rw[Wt]
@[simp] theorem vC{ds:List D}:Bn .tuple (.tup ds) g=.ok (.bl true) g:=rfl
def eS(pad:Bool):Str:=if pad then Str.ofString "pad" else Str.ofString "trim"
def Same(s:Bool)(A B:List Int):Prop:=∀i:Nat,(if s then A else A.reverse)[i]?.getD 0=(if s then B else B.reverse)[i]?.getD 0
def wV(K m:Nat)(s:Bool)(T:List Tk)(o:Option D):Prop:=∀d,o=some d->∃T',d=.tup (T'.map QS)/\T'.length<=T.length+1/\(∀t∈T',TkK (K+1) m t)/\∀c,Same s (Qz c T') (Qz c T)
theorem TOp.e{s:Bool}{o:Option D}(h:TOp K m T o):wV K m s T o:=λd hd=>by obtain⟨T',h1,h2,h3,h4⟩:=h d hd;exact⟨T',h1,by omega,h3,λc i=>by rw[h4]⟩
end
def tp(l r:Nat->Int)(x:Int):Int:=if x<0 then l (-1-x).toNat else r x.toNat
def sR(A:List Int)(i:Nat):Int:=A[i]?.getD 0
def C6(b:Bool):Int:=if b then 0 else -1
def put(F:Int->Int)(p a:Int):Int->Int:=λx=>if x=p then a else F x
section
variable{l r l' r':Nat->Int}{a:Int}
theorem pQ(h1:∀i,r' i=r (i+1))(h2:l' 0=a)(h3:∀i,l' (i+1)=l i)(x:Int):put (tp l r) 0 a (x+1)=tp l' r' x:=by
 unfold put tp;rcases(by omega:x = -1\/x < -1\/0<=x) with h|h|h
 ·subst h;simp[h2]
 ·rw[Ud (by omega),Ub (by omega),Ub (by omega),show(-1-x).toNat=(-1 - (x+1)).toNat+1 by omega,h3]
 ·rw[Ud (by omega),Ud (by omega),Ud (by omega),h1,show(x+1).toNat=x.toNat+1 by omega]
end
abbrev Cg:=Int×Int×(Int->Int)
def pR(rows:List (List D))(u v:Cg):Prop:=∃a w,en rows u.1 (u.2.2 u.2.1)=some (a,w,v.1)/\v.2.1=pn u.2.1 w/\v.2.2=put u.2.2 u.2.1 a
inductive Rin(rows:List (List D))(lo hi:Int):Nat->Cg->Cg->Prop where
 |nil (u:Cg):Rin rows lo hi 0 u u
 |cons {n:Nat} {u v w:Cg} (h1:lo<=u.2.1/\u.2.1<hi) (h2:pR rows u v) (h3:Rin rows lo hi n v w):Rin rows lo hi (n+1) u w
theorem Rin.app{rows:List (List D)}{lo hi:Int}{n k:Nat}{u v w:Cg}(h:Rin rows lo hi n u v)(h':Rin rows lo hi k v w):Rin rows lo hi (n+k) u w:=by
 induction h with
 |nil u=>rw[Nat.zero_add];exact h'|cons a b c ih=>rw[Nat.add_right_comm];exact .cons a b (ih h')
theorem Rin.mono{rows:List (List D)}{lo hi lo' hi':Int}{n:Nat}{u v:Cg}(h:Rin rows lo hi n u v)(h1:lo'<=lo)(h2:hi<=hi'):Rin rows lo' hi' n u v:=by
 induction h with
 |nil u=>exact .nil u|cons a b c ih=>exact .cons ⟨by omega,by omega⟩ b ih
def Sg(F:Int->Int)(q:Int)(A:List Int):Prop:=∀i:Nat,i<A.length->F (q+i)=A[i]?.getD 0
theorem Sg.app{F:Int->Int}{q:Int}{A B:List Int}(h:Sg F q (A++B)):Sg F q A/\Sg F (q+A.length) B:=by
 refine⟨λi hi=>?_,λi hi=>?_⟩
 ·rw[h i (by simp;omega),Uq hi]
 ·rw[show q+(A.length:Int)+i=q+((A.length+i:Nat):Int) by omega,h _ (by simp;omega),Uw (by omega),Wv]
def Tp(c:Nat)(L R:List Tk):Int->Int:=tp (sR (Qz c L).reverse) (sR (Qz c R))
theorem pS{A B:List Int}{i:Nat}(h:i<A.length):sR (A++B) i=sR A i:=by unfold sR;rw[Uq h]
theorem pT{A B:List Int}{i:Nat}(h:A.length<=i):sR (A++B) i=sR B (i-A.length):=by unfold sR;rw[Uw h]
theorem lY{A:List Int}{i:Nat}(h:i<A.length):sR A.reverse i=sR A (A.length-1-i):=by unfold sR;rw[WS h]
def tL(b:Bool)(L:List Tk):List Tk:=if b then L else L.dropLast
def tR(b:Bool)(R:List Tk):List Tk:=if b then R.tail else R
theorem fW{b w:Bool}{L R:List Tk}{s:Int}{t:Tk}:Os b (L.map QS) (R.map QS) s w (QS t)=KB s w ((if w then tL b L++[t] else tL b L).map QS) ((if w then tR b R else t::tR b R).map QS):=by cases b<;>cases w<;>simp[Os,iM,iN,tL,tR]
theorem M0(k j:DK)(v:D):∀ks:List (DK×D),Jm (ks.map λp=>if p.1=k then (p.1,v) else p) j=(Jm ks j).map λx=>if j=k then v else x
 |[]=>rfl|p::r=>by
  have ih:=M0 k j v r;unfold Jm at ih ⊢;rw[UL,UP,UP];by_cases h:p.1=j
  ·have e:decide ((if p.1=k then (p.1,v) else p).1=j)=true:=by split<;>exact Uo h
   rw[e,Uo h];subst h;by_cases hk:p.1=k<;>simp[hk]
  ·have e:decide ((if p.1=k then (p.1,v) else p).1=j)=false:=by split<;>exact Ul h
   rw[e,Ul h];exact ih
theorem G7(k:DK):∀ks:List (DK×D),(ks.any λp=>decide (p.1=k))=(Jm ks k).isSome
 |[]=>rfl|p::r=>by
  have ih:=G7 k r;unfold Jm at ih ⊢;rw[To,UP];by_cases h:p.1=k
  ·rw[Uo h];rfl
  ·rw[Ul h];exact ih
theorem M1(k j:DK)(v:D):∀ks:List (DK×D),Jm ks k=none->Jm (ks++[(k,v)]) j=if j=k then some v else Jm ks j
 |[],_=>by
  unfold Jm;by_cases h:j=k
  ·subst h;simp
  ·simp[h,Ne.symm h]
 |p::r,hn=>by
  have hp:¬p.1=k:=λh=>by unfold Jm at hn;rw[UP,Uo h]at hn;cases hn
  have hr:Jm r k=none:=by unfold Jm at hn ⊢;rw[UP,Ul hp]at hn;exact hn
  have ih:=M1 k j v r hr;unfold Jm at ih ⊢;rw[List.cons_append,UP,UP];by_cases h:p.1=j
  ·rw[Uo h,Ud (λz=>hp (h.trans z))]
  ·rw[Ul h];exact ih
theorem aM(ks:List (DK×D))(k j:DK)(v:D):Jm (Bu ks k v) j=if j=k then some v else Jm ks j:=by
 unfold Bu;rw[G7];cases h:Jm ks k with
 |none=>rw[Ud (by simp)];exact M1 k j v ks h|some x=>
  rw[Ub (show(some x).isSome=true from rfl),M0];by_cases e:j=k
  ·subst e;rw[h];simp
  ·simp[e]
theorem M2(ks:List (DK×D))(k:DK)(v:D):(Bu ks k v).length<=ks.length+1:=by unfold Bu;split<;>simp
theorem M3(k:DK)(v:D):∀ks:List (DK×D),YG (ks.map λp=>if p.1=k then (p.1,v) else p)=YG ks
 |[]=>rfl|p::r=>by
  have ih:=M3 k v r;obtain⟨q,w⟩:=p;rw[UL];by_cases h:q=k
  ·rw[Ub h];cases q with
   |inl i=>show(YG _).map _=(YG r).map _;rw[ih]|inr s=>rfl
  ·rw[Ud h];cases q with
   |inl i=>show(YG _).map _=(YG r).map _;rw[ih]|inr s=>rfl
theorem M4(x:Int)(v:D):∀{ks:List (DK×D)}{is:List Int},YG ks=some is->YG (ks++[(.inl x,v)])=some (is++[x])
 |[],_,h=>by cases h;rfl
 | (.inl i,_)::r,is,h=>by have h:(YG r).map (i :: ·)=some is:=h;obtain⟨js,h1,h2⟩:=TD.mp h;show(YG (r++_)).map (i :: ·)=_;rw[M4 x v h1,<-h2];rfl
theorem G8(k:Int):∀{ks:List (DK×D)}{is:List Int},YG ks=some is->((ks.any λp=>decide (p.1=.inl k))=true↔k∈is)
 |[],_,h=>by cases h;simp
 | (.inl i,v)::r,is,h=>by
  have h:(YG r).map (i :: ·)=some is:=h;cases hr:YG r with
  |none=>rw[hr]at h;cases h|some js=>
   rw[hr]at h;cases h;have ih:=G8 k hr;rw[To,Bool.or_eq_true,ih,UE,RB];refine⟨λz=>?_,λz=>?_⟩
   ·rcases z with z|z
    ·exact .inl (Sum.inl.inj z).symm
    ·exact .inr z
   ·rcases z with z|z
    ·exact .inl (by rw[z])
    ·exact .inr z
 | (.inr s,v)::r,is,h=>by cases h
theorem IO(k j:DK):∀ks:List (DK×D),Jm (Bv ks k) j=if j=k then none else Jm ks j
 |[]=>by unfold Jm Bv;split<;>rfl
 |p::r=>by
  have ih:=IO k j r;unfold Jm Bv at ih ⊢;rw[TH];by_cases h:p.1=k
  ·rw[Ud (by simp[h]),ih,UP];by_cases e:j=k
   ·rw[Ub e,Ub e]
   ·rw[Ud e,Ud e,Ul (λz=>e (z.symm.trans h))]
  ·rw[Ub (by simp[h]),UP,UP];by_cases e:p.1=j
   ·rw[Uo e,Ud (λz=>h (e.trans z))]
   ·rw[Ul e];exact ih
theorem IP(x:Int):∀{ks:List (DK×D)}{is:List Int},YG ks=some is->YG (Bv ks (.inl x))=some (is.filter λi=>decide (i≠x))
 |[],_,h=>by cases h;rfl
 | (.inl i,_)::r,is,h=>by
  have h:(YG r).map (i :: ·)=some is:=h;obtain⟨js,h1,h2⟩:=TD.mp h;have ih:=IP x h1;subst h2;unfold Bv at ih ⊢;rw[TH,TH];by_cases e:i=x
  ·subst e;rw[Ud (by simp),Ud (by simp)];exact ih
  ·rw[Ub (by simp[e]),Ub (by simp[e])];show(YG _).map (i :: ·)=_;rw[ih];rfl
section
variable{σ:S3}{g:G}
theorem PX{o k x:ME}{n:Nat}{ks:List (DK×D)}{i:Int}{z:D}(ho:o σ g=.ok (.ref n) g)(hd:g[n]?=some (.dct ks))(hk:k σ g=.ok (.int i) g)(hx:x σ g=.ok z g):Bw o k x σ g=.ok ((Jm ks (.inl i)).getD z) g:=by unfold Bw;simp[ho,hd,hk,hx,Res.bind]
theorem PY{o k v:ME}{n:Nat}{ks:List (DK×D)}{i:Int}{y:D}(hv:v σ g=.ok y g)(ho:o σ g=.ok (.ref n) g)(hk:k σ g=.ok (.int i) g)(hd:g[n]?=some (.dct ks))(hz:ks.length<=100000):GM o k v σ g=.nx σ (g.set n (.dct (Bu ks (.inl i) y))):=by unfold GM;simp[hv,ho,hk,hd,XZ hz]
theorem fX{o k:ME}{n:Nat}{ks:List (DK×D)}{i:Int}{v:D}(ho:o σ g=.ok (.ref n) g)(hk:k σ g=.ok (.int i) g)(hd:g[n]?=some (.dct ks))(hv:Jm ks (.inl i)=some v):ML o k σ g=.ok v (g.set n (.dct (Bv ks (.inl i)))):=by unfold ML;simp[ho,hd,hk,Res.bind,hv]
end
theorem fY{n:Nat}(h:n<=100000):iC (n:Int):=by have:(n:Int)<=100000:=Int.ofNat_le.mpr h;constructor<;>omega
theorem Ey:∀{ks:List (DK×D)}{is:List Int},YG ks=some is->is.length=ks.length
 |[],_,h=>by cases h;rfl
 | (.inl i,_)::r,is,h=>by have h:(YG r).map (i :: ·)=some is:=h;obtain⟨js,h1,h2⟩:=TD.mp h;rw[<-h2,Uz,Uz,Ey h1]
structure Rg(ks:List (DK×D))(f:Int->Option Int):Prop where
 keys:∃is,YG ks=some is/\is.Nodup
 get:∀x,Jm ks (.inl x)=(f x).map .int
theorem Rg.put{ks:List (DK×D)}{f:Int->Option Int}(h:Rg ks f)(p v:Int):Rg (Bu ks (.inl p) (.int v)) (λx=>if x=p then some v else f x):=by
 obtain⟨⟨is,h1,h2⟩,h3⟩:=h;refine⟨?_,λx=>?_⟩
 ·unfold Bu;by_cases z:(ks.any λq=>decide (q.1=.inl p))=true
  ·rw[Ub z,M3];exact⟨is,h1,h2⟩
  ·rw[Ud z,M4 p _ h1];refine⟨_,rfl,?_⟩;rw[RA];refine⟨h2,by simp,λa ha b hb e=>z ((G8 p h1).mpr ?_)⟩;rw[Ur]at hb;rw[<-hb,<-e];exact ha
 ·rw[aM];by_cases z:x=p
  ·rw[Ub (by rw[z]),Ub z];rfl
  ·rw[Ud (λe=>z (Sum.inl.inj e)),Ud z];exact h3 x
theorem Rg.drop{ks:List (DK×D)}{f:Int->Option Int}(h:Rg ks f)(p:Int):Rg (Bv ks (.inl p)) (λx=>if x=p then none else f x):=by
 obtain⟨⟨is,h1,h2⟩,h3⟩:=h;refine⟨⟨_,IP p h1,h2.filter _⟩,λx=>?_⟩;rw[IO];by_cases z:x=p
 ·rw[Ub (by rw[z]),Ub z];rfl
 ·rw[Ud (λe=>z (Sum.inl.inj e)),Ud z];exact h3 x
def nz(F:Int->Int)(x:Int):Option Int:=if F x=0 then none else some (F x)
theorem Rg.congr{ks:List (DK×D)}{f f':Int->Option Int}(h:Rg ks f)(e:∀x,f x=f' x):Rg ks f':=⟨h.keys,λx=>by rw[h.get,e]⟩
theorem lZ{F:Int->Int}{p a x:Int}(h:a≠0):(if x=p then some a else nz F x)=nz (L3.put F p a) x:=by
 unfold nz L3.put;by_cases z:x=p
 ·rw[Ub z,Ub z,Ud h]
 ·rw[Ud z,Ud z]
theorem fZ{F:Int->Int}{p x:Int}{o:Option Int}:(if x=p then none else if x=p then o else nz F x)=nz (L3.put F p 0) x:=by
 unfold nz L3.put;by_cases z:x=p
 ·rw[Ub z,Ub z,Ub rfl]
 ·rw[Ud z,Ud z,Ud z]
theorem Rg.getD{ks:List (DK×D)}{F:Int->Int}(h:Rg ks (nz F))(x:Int):(Jm ks (.inl x)).getD (.int 0)=.int (F x):=by
 rw[h.get];unfold nz;by_cases z:F x=0
 ·rw[Ub z,z];rfl
 ·rw[Ud z];rfl
theorem Rg.mem{ks:List (DK×D)}{F:Int->Int}{is:List Int}(h:Rg ks (nz F))(hk:YG ks=some is)(x:Int):x∈is↔F x≠0:=by rw[<-G8 x hk,G7,h.get];unfold nz;by_cases z:F x=0<;>simp[z]
theorem mB{c:Nat}{L R:List Tk}(x:Int):Tp c L R x=if 0<=x+(Qz c L).length then sR (Qz c L++Qz c R) (x+(Qz c L).length).toNat else 0:=by
 unfold Tp tp;generalize Qz c L=A;generalize Qz c R=B;by_cases h:x<0
 ·rw[Ub h];by_cases h':0<=x+A.length
  ·rw[Ub h',pS (by omega),lY (by omega)];congr 1;omega
  ·rw[Ud h'];unfold sR;rw[Ta (by rw[U7];omega)];rfl
 ·rw[Ud h,Ub (by omega),pT (by omega)];congr 1;omega
def G9(row:List Int)(n i:Nat)(x:Int):Int:=if 0<=x+n/\x+n<i then sR row (x+n).toNat else 0
theorem LE{row:List Int}{n i:Nat}{x:Int}(h:x+n=i):G9 row n i x=0/\G9 row n (i+1) x=sR row i:=by unfold G9;exact⟨Ud (by omega),by rw[Ub (by omega),h,US]⟩
theorem PZ{row:List Int}{n i:Nat}{x:Int}(h:x+n≠i):G9 row n (i+1) x=G9 row n i x:=by
 unfold G9;by_cases w:0<=x+(n:Int)/\x+n<i
 ·rw[Ub w,Ub (by omega)]
 ·rw[Ud w,Ud (by omega)]
theorem Ap{rw' ah d:Nat}{row:List Int}{n:Nat}{x0 x1 x2 x3 x4 x5:Option D}{g:G}{A:List D}(hr:g[rw']?=some (.lst (row.map .int)))(ha:g[ah]?=some (.lst A))(hn:A.length=n)(hd:g[d]?=some (.dct []))(h1:rw'≠d)(h2:ah≠d)(hz:row.length<=100000):
  ∃y9 ks g',JQ (Zu 0 row.length) (Qm 9) XR (row.length+1) 0 [x0,x1,x2,x3,x4,x5,some (.ref ah),some (.ref rw'),some (.ref d),none] g=.nx [x0,x1,x2,x3,x4,x5,some (.ref ah),some (.ref rw'),some (.ref d),y9] g'/\Keeps [d] g g'/\g'[d]?=some (.dct ks)/\Rg ks (nz (G9 row n row.length))/\ks.length<=row.length:=by
 obtain⟨σ',g',e,y9,ks,i1,i2,i3,i4,i5⟩:=Yi (t:=Qm 9) (body:=XR) (lo:=0) (n:=row.length) (σ:=[x0,x1,x2,x3,x4,x5,some (.ref ah),some (.ref rw'),some (.ref d),none]) (g:=g)
  (λi σ g1=>∃y9 ks,σ=[x0,x1,x2,x3,x4,x5,some (.ref ah),some (.ref rw'),some (.ref d),y9]/\Keeps [d] g g1/\g1[d]?=some (.dct ks)/\Rg ks (nz (G9 row n i))/\ks.length<=i) ⟨none,[],rfl,.refl,hd,⟨⟨[],rfl,.nil⟩,λx=>by
   unfold nz;rw[show G9 row n 0 x=0 from Ud (by omega),Ub rfl];rfl⟩,Ui _⟩ (λi σ g1 hi hQ=>by
   obtain⟨y9,ks,i1,i2,i3,i4,i5⟩:=hQ;subst i1;have hr1:=i2.at' _ _ (λz=>h1 (Ur.mp z)) hr;have ha1:=i2.at' _ _ (λz=>h2 (Ur.mp z)) ha;have hri:sR row i=row[i]:=by unfold sR;rw[Uk hi];rfl
   have hix:Qv (.ref rw') (.int i) g1=.ok (.int row[i]) g1:=Jp hr1 (by rw[Uy,Uk hi];rfl);have hl:=aA ha1;by_cases hs:row[i]=0
   ·refine⟨[x0,x1,x2,x3,x4,x5,some (.ref ah),some (.ref rw'),some (.ref d),some (.int i)],[x0,x1,x2,x3,x4,x5,some (.ref ah),some (.ref rw'),some (.ref d),some (.int i)],g1,by rw[TF];rfl,by simp[XR,hix,hs],_,ks,rfl,i2,i3,i4.congr λx=>?_,by omega⟩;unfold nz;by_cases z:x+(n:Int)=i
    ·rw[(LE z).1,(LE z).2,hri,hs]
    ·rw[PZ z]
   ·refine⟨[x0,x1,x2,x3,x4,x5,some (.ref ah),some (.ref rw'),some (.ref d),some (.int i)],[x0,x1,x2,x3,x4,x5,some (.ref ah),some (.ref rw'),some (.ref d),some (.int i)],g1.set d (.dct (Bu ks (.inl ((i:Int) - n)) (.int row[i]))),by rw[TF];rfl,?_,_,_,rfl,i2.trans (.set _ _),Zb i3,(i4.put ((i:Int) - n) row[i]).congr λx=>?_,Um (M2 _ _ _) (by omega)⟩
    ·have:=PY (o:=Qa 8) (k:=Qd XJ (Qa 9) (Qu Zg (Qa 6))) (v:=Qd Qv (Qa 7) (Qa 9)) (σ:=[x0,x1,x2,x3,x4,x5,some (.ref ah),some (.ref rw'),some (.ref d),some (.int i)]) (g:=g1) (n:=d) (ks:=ks) (i:=(i:Int) - n) (y:=.int row[i]) (by simp[hix]) (by simp) (by simp[hl,hn]) i3 (by omega);simp[XR,hix,hs,this]
    ·unfold nz;by_cases z:x=(i:Int) - n
     ·rw[Ub z,(LE (show x+(n:Int)=i by omega)).2,hri,Ud hs]
     ·rw[Ud z,PZ (by omega)])
 subst i1;exact⟨y9,ks,g',e,i2,i3,i4,i5⟩
theorem gA{st:Int}{b:Bool}{L R:List Tk}{c K m:Nat}{g:G}(hK:K<=12)(hc:c<=4)(hL:∀t∈L,TkK K m t)(hR:∀t∈R,TkK K m t)(zL:L.length<=140)(zR:R.length<=140):
  ∃d ks g',GT [KB st b (L.map QS) (R.map QS),.int c] g=.ok (.tup [.int st,.int (C6 b),.ref d]) g'/\Keeps [] g g'/\g.length<=d/\g'[d]?=some (.dct ks)/\Rg ks (nz (Tp c L R))/\ks.length<=90000:=by
 have oL:=λt ht=>(hL t ht).ok hK;have oR:=λt ht=>(hR t ht).ok hK;have lL:=JJ hc oL;have lR:=JJ hc oR;obtain⟨r1,g1,e1,q1,p1,k1⟩:=IM (x:=.tup (L.map QS)) (b:=false) (g:=g) rfl oL hc zL;obtain⟨r2,g2,e2,q2,p2,k2⟩:=IM (x:=.tup (R.map QS)) (b:=false) (g:=g1) rfl oR hc zR;have e3:=Vx (k2.at' _ _ (by simp) p1) p2 (by simp;omega);rw[<-UC]at e3;have k3:Keeps [] g2 (g2++[.lst ((Qz c L++Qz c R).map .int)]):=.push _;have p3:(g2++[GO.lst ((Qz c L++Qz c R).map .int)])[g2.length]?=_:=Qw _;have z3:g2.length<(g2++[GO.lst ((Qz c L++Qz c R).map .int)]).length:=by simp
 have z1:=ZB p1;have z2:=k2.len;have z0:=k1.len;generalize g2.length=r3 at e3 p3 z3 z2;generalize g2++[GO.lst ((Qz c L++Qz c R).map .int)]=g3 at e3 p3 k3 z3;have k4:Keeps [] g3 (g3++[.dct []]):=.push _;have p4:(g3++[GO.dct []])[g3.length]?=some (.dct []):=Qw _;have en:MK [some (KB st b (L.map QS) (R.map QS)),some (.int c),some (.int st),some (.str (fc b)),some (.tup (L.map QS)),some (.tup (R.map QS)),some (.ref r1),some (.ref r3),none,none] g3=.ok (.ref g3.length) (g3++[.dct []]):=rfl;generalize g3.length=d at p4 en z3;generalize g3++[GO.dct []]=g4 at p4 en k4;have p14:=(k2.trans (k3.trans k4)).at' _ _ (by simp) p1;have p34:=k4.at' _ _ (by simp) p3;obtain⟨y9,ks,g5,e5,k5,p5,h5,z5⟩:=Ap (x0:=some (KB st b (L.map QS) (R.map QS))) (x1:=some (.int c)) (x2:=some (.int st)) (x3:=some (.str (fc b))) (x4:=some (.tup (L.map QS))) (x5:=some (.tup (R.map QS))) p34 p14 (by rw[Ua]) p4 (by omega) (by omega) (by simp;omega);have k04:=k1.trans (k2.trans (k3.trans k4));have kk:Keeps [] g g5:=⟨Um k04.len k5.len,λi o _ h=>k5.at' _ _ (by have:=ZB h;simp;omega) (k04.at' _ _ (by simp) h)⟩;refine⟨d,ks,g5,Zm rfl ?_,kk,by omega,p5,h5.congr λx=>?_,by simp at z5;omega⟩
 ·unfold MN;refine Qo [some (KB st b (L.map QS) (R.map QS)),some (.int c),some (.int st),some (.str (fc b)),some (.tup (L.map QS)),some (.tup (R.map QS)),none,none,none,none] g (by simp[KB]) ?_;refine Qo [some (KB st b (L.map QS) (R.map QS)),some (.int c),some (.int st),some (.str (fc b)),some (.tup (L.map QS)),some (.tup (R.map QS)),some (.ref r1),none,none,none] g1 (by simp[e1]) ?_;refine Qo [some (KB st b (L.map QS) (R.map QS)),some (.int c),some (.int st),some (.str (fc b)),some (.tup (L.map QS)),some (.tup (R.map QS)),some (.ref r1),some (.ref r3),none,none] g3 (by simp[e2,e3]) ?_;refine Qo [some (KB st b (L.map QS) (R.map QS)),some (.int c),some (.int st),some (.str (fc b)),some (.tup (L.map QS)),some (.tup (R.map QS)),some (.ref r1),some (.ref r3),some (.ref d),none] g4 (by simp[en]) ?_;refine Qo _ g5 ((Yp (ZR (n:=(Qz c L++Qz c R).length) ?_ (fY (by simp;omega)))).trans e5) ?_
  ·have:=aA p34;rw[Ua]at this;simp only[lV,lU];exact this
  ·cases b<;>simp[C6]
 ·have:G9 (Qz c L++Qz c R) (Qz c L).length (Qz c L++Qz c R).length x=Tp c L R x:=by
   rw[mB x];unfold G9;by_cases h:0<=x+((Qz c L).length:Int)
   ·rw[Ub h];by_cases h':x+((Qz c L).length:Int)<(Qz c L++Qz c R).length
    ·rw[Ub ⟨h,h'⟩]
    ·rw[Ud (λz=>h' z.2)];unfold sR;rw[Ta (by omega)];rfl
   ·rw[Ud h,Ud (λz=>h z.1)]
  unfold nz;rw[this]
theorem Tbl.rng{rows:List (List D)}{n m:Nat}{st s a s1:Int}{w:Bool}(h:Tbl rows n m)(h0:0<=st)(h1:st<n)(h2:0<=s)(h3:s<m)(he:en rows st s=some (a,w,s1)):(0<=a/\a<m)/\0<=s1/\s1<n:=by obtain⟨_,_,_,bd⟩:=h.at' h0 h1 h2 h3;exact bd _ _ _ he
theorem pU{g g':G}{l p:Nat}{c:List D}{y:D}{σ:S3}{o i v:ME}(hl:g'[l]?=some (.lst c))(h1:p<c.length)(hv:v σ g=.ok y g')(ho:o σ g'=.ok (.ref l) g')(hi:i σ g'=.ok (.int p) g'):ZO o i v σ g=.nx σ (g'.set l (.lst (c.set p y))):=by unfold ZO;rw[hv];dsimp only;rw[ho];dsimp only;rw[hi];dsimp only;rw[hl];dsimp only;unfold Gf;rw[Ub (by omega),Ub (by omega)];rfl
section
variable{rows:List (List D)}{n m N t r d:Nat}{st p:Int}{F:Int->Int}{ks:List (DK×D)}{g:G}{v:Cg}
theorem pV(ht:tabOf N g t rows)(hT:Tbl rows n m)(h0:0<=st)(h1:st<n)(hF:∀x,0<=F x/\F x<m)(hr:g[r]?=some (.lst [.int st,.int p,.ref d]))(hd:g[d]?=some (.dct ks))(hR:Rg ks (nz F))(hz:ks.length<=100000)(hS:pR rows (st,p,F) v):
  ∃ks' g',GQ [.ref t,.ref r] g=.ok (.bl true) g'/\Keeps [r,d] g g'/\g'[r]?=some (.lst [.int v.1,.int v.2.1,.ref d])/\g'[d]?=some (.dct ks')/\Rg ks' (nz v.2.2)/\ks'.length<=ks.length+1/\(0<=v.1/\v.1<n)/\∀x,0<=v.2.2 x/\v.2.2 x<m:=by
 obtain⟨a,w,he,hp,hf⟩:=hS;obtain⟨s,p',F'⟩:=v;dsimp only at he hp hf;subst hp hf;obtain⟨ra,rs⟩:=hT.rng h0 h1 (hF p).1 (hF p).2 he;obtain⟨q,l1,l2⟩:=hT.law ht h0 h1 (hF p).1 (hF p).2;rw[he]at l2;have hrd:r≠d:=λz=>by rw[z,hd]at hr;cases hr
 have a0:Qv (.ref r) (.int 0) g=.ok (.int st) g:=Jp (p:=0) hr rfl;have a1:Qv (.ref r) (.int 1) g=.ok (.int p) g:=Jp (p:=1) hr rfl;have a2:Qv (.ref r) (.int 2) g=.ok (.ref d) g:=Jp (p:=2) hr rfl;have dg:Bw (Qd Qv (Qa 1) (mI 2)) (Qd Qv (Qa 1) (mI 1)) (mI 0) [some (.ref t),some (.ref r),none] g=.ok (.int (F p)) g:=by rw[<-hR.getD p];exact PX (by simp[a2]) hd (by simp[a1]) rfl
 -- the cell
 have k1:Keeps [r,d] g (g.set d (.dct (Bu ks (.inl p) (.int a)))):=(Keeps.set d _).mono (by simp);have d1:(g.set d (.dct (Bu ks (.inl p) (.int a))))[d]?=some (.dct (Bu ks (.inl p) (.int a))):=Zb hd;have r1:(g.set d (.dct (Bu ks (.inl p) (.int a))))[r]?=some (.lst [.int st,.int p,.ref d]):=by rw[Uh (Ne.symm hrd)];exact hr
 have e1:GM (Qd Qv (Qa 1) (mI 2)) (Qd Qv (Qa 1) (mI 1)) (Qd Qv (Qa 2) (mI 0)) [some (.ref t),some (.ref r),some (.tup [.int a,.str (fc w),.int s])] g=.nx [some (.ref t),some (.ref r),some (.tup [.int a,.str (fc w),.int s])] (g.set d (.dct (Bu ks (.inl p) (.int a)))):=PY (by simp) (by simp[a2]) (by simp[a1]) hd hz;have hR1:=hR.put p a;have z1:=M2 ks (.inl p) (.int a);generalize Bu ks (.inl p) (.int a)=ks1 at *;generalize g.set d (.dct ks1)=g1 at *;have hpop:∃ks2 g2,Ye (Qn (Qd Z8 (Qd Qv (Qa 2) (mI 0)) (mI 0))) (Zf (ML (Qd Qv (Qa 1) (mI 2)) (Qd Qv (Qa 1) (mI 1)))) QI [some (.ref t),some (.ref r),some (.tup [.int a,.str (fc w),.int s])] g1=.nx [some (.ref t),some (.ref r),some (.tup [.int a,.str (fc w),.int s])] g2/\Keeps [r,d] g1 g2/\g2[d]?=some (.dct ks2)/\g2[r]?=some (.lst [.int st,.int p,.ref d])/\Rg ks2 (nz (put F p a))/\ks2.length<=ks.length+1:=by
  by_cases ha:a=0
  ·have b1:Qv (.ref r) (.int 1) g1=.ok (.int p) g1:=Jp (p:=1) r1 rfl;have b2:Qv (.ref r) (.int 2) g1=.ok (.ref d) g1:=Jp (p:=2) r1 rfl;have hg:=hR1.get p;rw[Ub rfl]at hg;have:=fX (o:=Qd Qv (Qa 1) (mI 2)) (k:=Qd Qv (Qa 1) (mI 1)) (σ:=[some (.ref t),some (.ref r),some (.tup [.int a,.str (fc w),.int s])]) (by simp[b2]) (by simp[b1]) d1 hg;refine⟨_,g1.set d (.dct (Bv ks1 (.inl p))),by simp[ha]at this ⊢;simp[this],(Keeps.set d _).mono (by simp),Zb d1,by rw[Uh (Ne.symm hrd)];exact r1,(hR1.drop p).congr λx=>by rw[ha];exact fZ,Um (T5 _ _) z1⟩
  ·exact⟨ks1,g1,by simp[ha],.refl,d1,r1,hR1.congr λx=>lZ ha,z1⟩
 obtain⟨ks2,g2,e2,k2,d2,r2,hR2,z2⟩:=hpop;have k3:Keeps [r,d] g2 (g2.set r (.lst [.int s,.int p,.ref d])):=(Keeps.set r _).mono (by simp);have e3:ZO (Qa 1) (mI 0) (Qd Qv (Qa 2) (mI 2)) [some (.ref t),some (.ref r),some (.tup [.int a,.str (fc w),.int s])] g2=.nx [some (.ref t),some (.ref r),some (.tup [.int a,.str (fc w),.int s])] (g2.set r (.lst [.int s,.int p,.ref d])):=pU (p:=0) (y:=.int s) r2 (by simp) (by simp) (by simp) (by simp);have r3:(g2.set r (.lst [.int s,.int p,.ref d]))[r]?=some (.lst [.int s,.int p,.ref d]):=Zb r2;have d3:(g2.set r (.lst [.int s,.int p,.ref d]))[d]?=some (.dct ks2):=by rw[Uh hrd];exact d2
 generalize g2.set r (.lst [.int s,.int p,.ref d])=g3 at *;have k4:Keeps [] g3 (g3++[.lst [.int (-1),.int 1]]):=.push _;have c1:Qv (.ref r) (.int 1) g3=.ok (.int p) g3:=Jp (p:=1) r3 rfl;have r4:=k4.at' _ _ (by simp) r3;have d4:=k4.at' _ _ (by simp) d3;have e4:ZO (Qa 1) (mI 1) (Qd QC (Qd Qv (Qa 1) (mI 1)) (Qd Qv (QA JS (Qc (Qu X4 (mI 1)) (Qc (mI 1) Ql))) (Qu Ll (Qd Z8 (Qd Qv (Qa 2) (mI 1)) (Qp (.str "r")))))) [some (.ref t),some (.ref r),some (.tup [.int a,.str (fc w),.int s])] g3=.nx [some (.ref t),some (.ref r),some (.tup [.int a,.str (fc w),.int s])] ((g3++[GO.lst [.int (-1),.int 1]]).set r (.lst [.int s,.int (pn p w),.ref d])):=pU (g':=g3++[.lst [.int (-1),.int 1]]) (p:=1) (y:=.int (pn p w)) r4 (by simp) (by cases w<;>simp[c1,pn]<;>rfl) (by simp) (by simp);have k5:Keeps [r,d] (g3++[GO.lst [.int (-1),.int 1]]) ((g3++[GO.lst [.int (-1),.int 1]]).set r (.lst [.int s,.int (pn p w),.ref d])):=(Keeps.set r _).mono (by simp);refine⟨ks2,_,Zm rfl ?_,k1.trans (k2.trans (k3.trans (k4.all.trans k5))),Zb r4,by rw[Uh hrd];exact d4,hR2,z2,rs,λx=>?_⟩
 ·unfold D5;refine Qo [some (.ref t),some (.ref r),some (.tup [.int a,.str (fc w),.int s])] g (by simp[a0,l1,dg,l2,PQ]) ?_;refine Qo _ g (Jo g (by simp[isNon]) rfl) ?_;refine Qo _ g1 e1 (Qo _ g2 e2 (Qo _ g3 e3 (Qo _ _ e4 rfl)))
 ·show 0<=put F p a x/\put F p a x<m;unfold put;split
  ·exact ra
  ·exact hF x
end
theorem Ha:∀{l l':List Int},l.Nodup->(∀x∈l,x∈l')->l.length<=l'.length
 |[],_,_,_=>RO _|a::t,l',hn,h=>by
  rw[Ro]at hn;have ha:=h a (UB ..);have ih:=Ha (l:=t) (l':=l'.erase a) hn.2 λx hx=>by have:x≠a:=λz=>hn.1 (by rw[<-z];exact hx);exact(List.mem_erase_of_ne this).mpr (h x (Uv _ hx))
  rw[List.length_erase_of_mem ha]at ih;have:=WJ ha;rw[Uz];omega
theorem Rg.len{ks ks':List (DK×D)}{F F':Int->Int}{y:Int}(h:Rg ks (nz F))(h':Rg ks' (nz F'))(e:∀x,F (x+y)=F' x):ks.length=ks'.length:=by
 obtain⟨is,h1,h2⟩:=h.keys;obtain⟨is',h1',h2'⟩:=h'.keys;rw[<-Ey h1,<-Ey h1'];have inj:∀(l:List Int)(z:Int),l.Nodup->(l.map (· + z)).Nodup:=λl z hl=>by unfold List.Nodup at hl ⊢;rw[List.pairwise_map];exact hl.imp λhne q=>hne (by omega)
 apply Nat.le_antisymm
 ·have:=Ha (inj is (-y) h2) (l':=is') λx hx=>by obtain⟨u,hu,rfl⟩:=Te.mp hx;have:=(h.mem h1 u).mp hu;rw[h'.mem h1',<-e,show u + -y+y=u by omega];exact this
  rwa[Ua]at this
 ·have:=Ha (inj is' y h2') (l':=is) λx hx=>by obtain⟨u,hu,rfl⟩:=Te.mp hx;have:=(h'.mem h1' u).mp hu;rw[h.mem h1,e];exact this
  rwa[Ua]at this
theorem Aq{r d:Nat}{st st' p:Int}{b':Bool}{F:Int->Int}{ks:List (DK×D)}{L' R':List Tk}{c K m:Nat}{g:G}(hK:K<=12)(hc:c<=4)(hL:∀t∈L',TkK K m t)(hR:∀t∈R',TkK K m t)(zL:L'.length<=140)(zR:R'.length<=140)(hr:g[r]?=some (.lst [.int st,.int p,.ref d]))(hd:g[d]?=some (.dct ks))(hF:Rg ks (nz F))(hs:st=st')(h:∀x,F (x+(p-C6 b'))=Tp c L' R' x):
  ∃g',Vt [.ref r,KB st' b' (L'.map QS) (R'.map QS),.int c] g=.ok (.bl true) g'/\Keeps [] g g':=by
 obtain⟨d2,ks2,g1,e1,k1,q1,p1,h1,z1⟩:=gA (st:=st') (b:=b') (g:=g) hK hc hL hR zL zR;have hr1:=k1.at' _ _ (by simp) hr;have hd1:=k1.at' _ _ (by simp) hd;have hrl:=ZB hr;have hdl:=ZB hd;obtain⟨is,w1,w2⟩:=h1.keys;have hl:=hF.len h1 h;have l1:FL (.ref d) g1=.ok (.int ks.length) g1:=by unfold FL;dsimp only;rw[hd1]
 have l2:FL (.ref d2) g1=.ok (.int ks2.length) g1:=by unfold FL;dsimp only;rw[p1]
 rw[hl]at l1;have a0:Qv (.ref r) (.int 0) g1=.ok (.int st) g1:=Jp (p:=0) hr1 rfl;have a1:Qv (.ref r) (.int 1) g1=.ok (.int p) g1:=Jp (p:=1) hr1 rfl;have a2:Qv (.ref r) (.int 2) g1=.ok (.ref d) g1:=Jp (p:=2) hr1 rfl;have k2:Keeps [] g (g1.set d2 (.dfz ks2)):=k1.new q1;have p2:(g1.set d2 (.dfz ks2))[d2]?=some (.dfz ks2):=Zb p1;have it:∀σ,Qa 5 σ g1=.ok (.ref d2) g1->Et (Qa 5) σ g1=.ok ⟨λ_ i=>some (is.map D.int)[i]?,is.length⟩ (g1.set d2 (.dfz ks2)):=λσ hv=>by unfold Et;rw[hv,Res.bind_ok];dsimp only;rw[p1];dsimp only;rw[w1]
 generalize g1.set d2 (.dfz ks2)=g2 at k2 p2 it;obtain⟨g3,c1,k3⟩:=MU (src:=⟨λ_ i=>some (is.map D.int)[i]?,is.length⟩) (ds:=is.map D.int) (e:=Qd Z8 (Bw (Qd Qv (Qa 3) (mI 2)) (Qd QC (Qa 0) (Qa 2)) (mI 0)) (Qd GN (Qa 1) (Qa 0))) (no:=0) (σ:=[some (.ref d2),some (.int (p-C6 b')),some (.ref r)]) (g:=g2) (f:=λ_=>.bl true) (by simp) (λ_ _ _=>rfl) (λy hy g4 k4=>by
  obtain⟨x,hx,rfl⟩:=Te.mp hy;refine⟨g4,?_,.refl⟩;have kk:=k2.trans k4;have b2:Qv (.ref r) (.int 2) g4=.ok (.ref d) g4:=Jp (p:=2) (kk.at' _ _ (by simp) hr) rfl;have dg:Bw (Qd Qv (Qa 3) (mI 2)) (Qd QC (Qa 0) (Qa 2)) (mI 0) [some (.int x),some (.ref d2),some (.int (p-C6 b')),some (.ref r)] g4=.ok (.int (F (x+(p-C6 b')))) g4:=by rw[<-hF.getD];exact PX (by simp[b2]) (kk.at' _ _ (by simp) hd) (by simp) rfl
  have hx0:Tp c L' R' x≠0:=(h1.mem w1 x).mp hx;have dx:GN (.ref d2) (.int x) g4=.ok (.int (Tp c L' R' x)) g4:=by unfold GN;dsimp only;rw[k4.at' _ _ (by simp) p2];dsimp only;rw[h1.get];unfold nz;rw[Ud hx0];rfl
  rw[h]at dg;show Qd Z8 _ _ [some (.int x),some (.ref d2),some (.int (p-C6 b')),some (.ref r)] g4=_;simp[dg,dx])
 refine⟨_,Zm rfl ?_,k2.trans (k3.trans (.push (.lst ((is.map D.int).map λ_=>.bl true))))⟩;unfold GU;refine Qo [some (.ref r),some (KB st' b' (L'.map QS) (R'.map QS)),some (.int c),some (.int st'),some (.int (C6 b')),some (.ref d2),none] g1 (by simp[e1]) ?_;refine Qo [some (.ref r),some (KB st' b' (L'.map QS) (R'.map QS)),some (.int c),some (.int st'),some (.int (C6 b')),some (.ref d2),some (.int (p-C6 b'))] g1 (by simp[a1]) ?_;refine Qo _ g1 (Jo g1 (by simp[a0,a2,l1,l2,hs]) rfl) ?_;refine Yy (YN (JD (n:=1) (cap:=[5,6,0]) (σ0:=none::[some (.ref d2),some (.int (p-C6 b')),some (.ref r)]) (it _ rfl) (by show is.length<=SZ;rw[Ey w1];exact UO (XZ (by omega))) rfl c1) ?_);unfold Eg;dsimp only;rw[Qw];have:Cu ((is.map D.int).map λ_=>.bl true)=some true:=by rw[show((is.map D.int).map λ_=>D.bl true)=(is.map λ_=>true).map D.bl by simp,PH];congr 1;rw[Uu];intro x hx;obtain⟨_,_,rfl⟩:=Te.mp hx;rfl
 simp only[this]
section
variable{rows:List (List D)}{n m K N t:Nat}{gB:G}
structure Run(gB g:G)(r d:Nat)(n m B:Nat)(u:Cg):Prop where
 k:Keeps [] gB g
 r0:gB.length<=r
 d0:gB.length<=d
 st:0<=u.1/\u.1<n
 rng:∀x,0<=u.2.2 x/\u.2.2 x<m
 r:g[r]?=some (.lst [.int u.1,.int u.2.1,.ref d])
 d:∃ks,g[d]?=some (.dct ks)/\Rg ks (nz u.2.2)/\ks.length<=B
theorem Run.go{g:G}{r d B:Nat}{u v:Cg}(h:Run gB g r d n m B u)(ht:tabOf N gB t rows)(hT:Tbl rows n m)(hB:B<=100000)(hS:pR rows u v):∃g',GQ [.ref t,.ref r] g=.ok (.bl true) g'/\Run gB g' r d n m (B+1) v:=by obtain⟨ks,d1,d2,d3⟩:=h.d;obtain⟨ks',g',e,k,r1,d1',d2',d3',s1,f1⟩:=pV (ht.mono h.k (by simp)) hT h.st.1 h.st.2 h.rng h.r d1 d2 (by omega) hS;refine⟨g',e,⟨⟨Um h.k.len k.len,λi o _ q=>k.at' _ _ ?_ (h.k.at' _ _ (by simp) q)⟩,h.r0,h.d0,s1,f1,r1,ks',d1',d2',by omega⟩⟩;have:=ZB q;have:=h.r0;have:=h.d0;simp;omega
end
end L3
namespace L3
abbrev Hb:=List (Int×Int)
def Ve(side:Hb)(sg c:Int):Hb:=if c<1 then side
 else match side.getLast? with
  |some p=>if p.1=sg then side.dropLast++[(sg,p.2+c)] else side++[(sg,c)]
  |none=>side++[(sg,c)]
def VR:List (Int×Int)->Hb->Int->Hb×Int
 |[],side,re=>(side,re)|q::r,side,re=>VR r (Ve (Ve side 0 (q.1-re)) q.2 1) (q.1+1)
theorem M5(a:Hb)(p:Int×Int):(a++[p]).getLast?=some p:=by simp
theorem aN(a:Hb)(p:Int×Int):(a++[p]).dropLast=a:=by simp
theorem IQ(side:Hb):side=[]\/∃a p,side=a++[p]:=by
 rcases WV side with h|⟨a,p,h⟩
 ·exact .inl h
 ·exact .inr ⟨a,p,by rw[h,List.concat_eq_append]⟩
theorem M6{sg c:Int}(h:1<=c):Ve [] sg c=[(sg,c)]:=by unfold Ve;rw[Ud (by omega)];rfl
theorem P0{side:Hb}{sg c:Int}(h:c<1):Ve side sg c=side:=by unfold Ve;rw[Ub h]
theorem P1{a:Hb}{sg k c:Int}(h:1<=c):Ve (a++[(sg,k)]) sg c=a++[(sg,k+c)]:=by unfold Ve;rw[Ud (by omega),M5];dsimp only;rw[Ub rfl,aN]
theorem P2{a:Hb}{p:Int×Int}{sg c:Int}(h:1<=c)(hn:p.1≠sg):Ve (a++[p]) sg c=a++[p]++[(sg,c)]:=by unfold Ve;rw[Ud (by omega),M5];dsimp only;rw[Ud hn]
def gC(here:Int)(M:List (Int×Int)):List (Int×Int):=M.filter λp=>decide (p.1<here)
def P3(here:Int)(M:List (Int×Int)):List (Int×Int):=M.filter λp=>decide (here<=p.1)
def KU(here:Int)(M:List (Int×Int)):List (Int×Int):=(gC here M).reverse.map λp=>(here-1-p.1,p.2)
def Xt(here:Int)(M:List (Int×Int)):List (Int×Int):=(P3 here M).map λp=>(p.1-here,p.2)
def P4(here:Int)(M:List (Int×Int)):Hb:=(VR (KU here M) [] 0).1
def LF(here:Int)(M:List (Int×Int)):Hb:=(VR (Xt here M) [] 0).1
open PySem
def Jl(p:Int×Int):D:=.tup [.int p.1,.int p.2]
def Xi(side:Hb):List D:=side.map Jl
theorem Hc(a b:Hb):Xi (a++b)=Xi a++Xi b:=UC
theorem M7(a:Hb):(Xi a).length=a.length:=Ua _
theorem M8(n:Nat):Gf (n+1) (-1)=some n:=by unfold Gf;rw[Ud (by omega),Ub (by omega)];congr 1;omega
theorem P5{s:Nat}{xs:List D}{d:D}{g:G}(h:g[s]?=some (.lst (xs++[d]))):Qv (.ref s) (.int (-1)) g=.ok d g:=by unfold Qv;dsimp only;rw[h];dsimp only;unfold VF;rw[Us,T4,M8];simp
theorem Ov{s:Nat}{xs:List D}{d y:D}{σ:S3}{g:G}{o i v:ME}(hv:v σ g=.ok y g)(ho:o σ g=.ok (.ref s) g)(hi:i σ g=.ok (.int (-1)) g)(h:g[s]?=some (.lst (xs++[d]))):ZO o i v σ g=.nx σ (g.set s (.lst (xs++[y]))):=by unfold ZO;rw[hv];dsimp only;rw[ho];dsimp only;rw[hi];dsimp only;rw[h];dsimp only;rw[Us,T4,M8];dsimp only;rw[List.set_append_right _ _ (Ui _),Nat.sub_self];rfl
theorem aO{g:G}{s:Nat}{o:GO}(h:g[s]?=some o):g.set s o=g:=by
 refine Wp λi=>?_;by_cases z:s=i
 ·subst z;rw[Zb h,h]
 ·rw[Uh z]
theorem P6{A B:MT}{σ:S3}{g:G}(h1:A σ g=.ok true g):JR A B σ g=B σ g:=by unfold JR;rw[h1,Res.bind_ok,Ub rfl]
theorem gD{A B:MT}{σ:S3}{g:G}(h1:A σ g=.ok false g):JR A B σ g=.ok false g:=by unfold JR;rw[h1,Res.bind_ok,Ud Uf]
theorem aP{s:Nat}{side:Hb}{sg c:Int}{g:G}(hs:g[s]?=some (.lst (Xi side)))(hz:side.length<900):XG [.ref s,.int sg,.int c] g=.ok .non (g.set s (.lst (Xi (Ve side sg c)))):=by
 by_cases hc:c<1
 ·rw[P0 hc,aO hs];refine Zm rfl ?_;show Jx [some (.ref s),some (.int sg),some (.int c)] g=_;unfold Jx;have t:Qn (Qd FV (Qa 2) (mI 1)) [some (.ref s),some (.int sg),some (.int c)] g=.ok (decide (c<1)) g:=rfl;rw[Uo hc]at t;exact LB (Ma g t rfl)
 ·refine BE (σ:=[some (.ref s),some (.int sg),some (.int c)]) rfl ?_;show Jx [some (.ref s),some (.int sg),some (.int c)] g=_;unfold Jx;have t:Qn (Qd FV (Qa 2) (mI 1)) [some (.ref s),some (.int sg),some (.int c)] g=.ok (decide (c<1)) g:=rfl;rw[Ul hc]at t;refine Qo _ g (Jo g t rfl) ?_;have app:Zf (ZT (Qa 0) (QA QO (Qc (Qa 1) (Qc (Qa 2) Ql)))) [some (.ref s),some (.int sg),some (.int c)] g=.nx [some (.ref s),some (.int sg),some (.int c)] (g.set s (.lst (Xi side++[Jl (sg,c)]))):=Fg rfl hs rfl (Vw (by rw[M7];omega));have t1:Qn (Qd Lj (Qu Zg (Qa 0)) (mI 0)) [some (.ref s),some (.int sg),some (.int c)] g=.ok (decide ((0:Int)<((Xi side).length:Int))) g:=Zq (Qr (x:=.int (Xi side).length) (y:=.int 0) (g1:=g) (g2:=g) (YN (x:=.ref s) (g1:=g) rfl (by unfold Zg;dsimp only;rw[hs])) rfl rfl);rw[M7]at t1;rcases IQ side with rfl|⟨a,p,rfl⟩
  ·rw[Ul (by simp)]at t1;rw[M6 (by omega)];exact Jo g (gD t1) app
  ·rw[Uo (by simp)]at t1;have hs':g[s]?=some (.lst (Xi a++[Jl p])):=by rw[hs,Hc];rfl
   have t2:Qn (Qd Z8 (Qd Qv (Qd Qv (Qa 0) (Qu X4 (mI 1))) (mI 0)) (Qa 1)) [some (.ref s),some (.int sg),some (.int c)] g=.ok (p.1==sg) g:=Zq (Qr (x:=.int p.1) (y:=.int sg) (g1:=g) (g2:=g) (Qr (x:=Jl p) (y:=.int 0) (g1:=g) (g2:=g) (Qr (x:=.ref s) (y:=.int (-1)) (g1:=g) (g2:=g) rfl rfl (P5 hs')) rfl rfl) rfl rfl);by_cases hp:p.1=sg
   ·obtain⟨y,k⟩:=p;have hp:y=sg:=hp;subst hp;rw[P1 (by omega),Hc];refine Ma g (by rw[P6 t1,t2];simp) (Ov ?_ rfl rfl hs');have e:Qd QC (Qd Qv (Qd Qv (Qa 0) (Qu X4 (mI 1))) (mI 1)) (Qa 2) [some (.ref s),some (.int y),some (.int c)] g=.ok (.int (k+c)) g:=Qr (x:=.int k) (y:=.int c) (g1:=g) (g2:=g) (Qr (x:=Jl (y,k)) (y:=.int 1) (g1:=g) (g2:=g) (Qr (x:=.ref s) (y:=.int (-1)) (g1:=g) (g2:=g) rfl rfl (P5 hs')) rfl rfl) rfl rfl;unfold QA;rw[QK (x:=.int y) (xs:=[.int (k+c)]) (g1:=g) (g2:=g) rfl (QK e rfl),Res.bind_ok];rfl
   ·rw[P2 (by omega) hp,Hc (a++[p])];exact Jo g (by rw[P6 t1,t2,RS hp]) app
theorem Hd(side:Hb)(sg c:Int):(Ve side sg c).length<=side.length+1:=by
 by_cases hc:c<1
 ·rw[P0 hc];omega
 ·rcases IQ side with rfl|⟨a,p,rfl⟩
  ·rw[M6 (by omega)];simp
  ·by_cases hp:p.1=sg
   ·obtain⟨y,k⟩:=p;have hp:y=sg:=hp;subst hp;rw[P1 (by omega)];simp
   ·rw[P2 (by omega) hp];simp
theorem CP:∀(l:List (Int×Int))(q:Int×Int)(side:Hb)(re:Int),VR (l++[q]) side re=(Ve (Ve (VR l side re).1 0 (q.1 - (VR l side re).2)) q.2 1,q.1+1)
 |[],_,_,_=>rfl|x::l,q,side,re=>CP l q _ _
theorem IR:∀(l:List (Int×Int))(side:Hb)(re:Int),(VR l side re).1.length<=side.length+2*l.length
 |[],side,re=>Ui _|q::l,side,re=>by unfold VR;have h1:=Hd side 0 (q.1-re);have h2:=Hd (Ve side 0 (q.1-re)) q.2 1;have h3:=IR l (Ve (Ve side 0 (q.1-re)) q.2 1) (q.1+1);rw[Uz];omega
theorem Ar{s:Nat}{side:Hb}{re o sg:Int}{x0:Option D}{g:G}(hs:g[s]?=some (.lst (Xi side)))(hz:side.length<800):
  Vc [x0,some (.ref s),some (.int re),some (.int o),some (.int sg)] g=.nx [x0,some (.ref s),some (.int (o+1)),some (.int o),some (.int sg)] (g.set s (.lst (Xi (Ve (Ve side 0 (o-re)) sg 1)))):=by
 have e1:=aP (sg:=0) (c:=o-re) hs (by omega);have h1:(g.set s (.lst (Xi (Ve side 0 (o-re)))))[s]?=some (.lst (Xi (Ve side 0 (o-re)))):=Zb hs;have hz1:=Hd side 0 (o-re);have e2:=aP (sg:=sg) (c:=1) h1 (by omega);rw[RE]at e2;unfold Vc;refine Qo _ _ (Yt (d:=.non) (by rw[QH (ds:=[.ref s,.int 0,.int (o-re)]) (g':=g) rfl];exact e1)) ?_;exact Qo _ _ (Yt (d:=.non) (by rw[QH (ds:=[.ref s,.int sg,.int 1]) (g':=g.set s (.lst (Xi (Ve side 0 (o-re))))) rfl];exact e2)) rfl
theorem P7{a:Nat}{l:List (Int×Int)}{g:G}(ha:g[a]?=some (.lst (l.map Jl)))(hl:l.length<=300):∃s g',B5 [.ref a] g=.ok (.ref s) g'/\g.length<=s/\g'[s]?=some (.lst (Xi (VR l [] 0).1))/\Keeps [] g g':=by
 have k0:Keeps [] g (g++[.lst []]):=.push _;have p0:(g++[GO.lst []])[g.length]?=some (.lst []):=Qw _;have ha1:=k0.at' _ _ (by simp) ha;have hal:=ZB ha;have hit:QQ (Qa 0) [some (.ref a),some (.ref g.length),some (.int 0),none,none] (g++[.lst []])=.ok (pD a l.length) (g++[.lst []]):=by unfold QQ;rw[show Qa 0 [some (.ref a),some (.ref g.length),some (.int 0),none,none] (g++[.lst []])=.ok (.ref a) (g++[.lst []]) from rfl,Res.bind_ok];unfold Bm;dsimp only;rw[ha1];dsimp only;rw[Ua];rfl
 obtain⟨σ',g2,e2,⟨y2,y3,y4,i1,i5⟩,i2,i3⟩:=B7 (src:=pD a l.length) (t:=Ju [Qm 3,Qm 4]) (body:=Vc) (n:=l.length) (σ:=[some (.ref a),some (.ref g.length),some (.int 0),none,none]) (g:=g++[.lst []]) rfl
  (λi σ g2=>(∃y2 y3 y4,σ=[some (.ref a),some (.ref g.length),some (.int y2),y3,y4]/\y2=(VR (l.take i) [] 0).2)/\Keeps [g.length] (g++[.lst []]) g2/\g2[g.length]?=some (.lst (Xi (VR (l.take i) [] 0).1))) ⟨⟨0,none,none,rfl,rfl⟩,.refl,p0⟩ (λi σ g2 hi hQ=>by
   obtain⟨⟨y2,y3,y4,i1,i5⟩,i2,i3⟩:=hQ;subst i1;have hle:=IR (l.take i) [] 0;rw[UW,List.length_nil]at hle;have ht:=Ar (s:=g.length) (re:=y2) (o:=l[i].1) (sg:=l[i].2) (x0:=some (.ref a)) i3 (by omega);have htk:l.take (i+1)=l.take i++[l[i]]:=by rw[Ux hi]
   rw[i5,show Ve (Ve (VR (l.take i) [] 0).1 0 (l[i].1 - (VR (l.take i) [] 0).2)) l[i].2 1=(VR (l.take (i+1)) [] 0).1 by rw[htk,CP]]at ht;refine⟨Jl l[i],[some (.ref a),some (.ref g.length),some (.int y2),some (.int l[i].1),some (.int l[i].2)],_,_,?_,rfl,by rw[i5];exact ht,⟨_,_,_,rfl,by rw[htk,CP]⟩,i2.trans (.set _ _),Zb i3⟩;show(match g2[a]? with|some (.lst es)=>some es[i]? | _=>none)=_;rw[i2.at' _ _ (λz=>by have:=Ur.mp z;omega) ha1];simp[hi]) (λσ g2 hQ=>by
   obtain⟨_,i2,_⟩:=hQ;show(match g2[a]? with|some (.lst es)=>some es[l.length]? | _=>none)=_;rw[i2.at' _ _ (λz=>by have:=Ur.mp z;omega) ha1];simp)
 subst i1;rw[UX]at i3;refine⟨g.length,g2,Zm rfl ?_,Ui _,i3,⟨Um k0.len i2.len,λj o _ h=>i2.at' _ _ (λz=>by have:=ZB h;have:=Ur.mp z;omega) (k0.at' _ _ (by simp) h)⟩⟩;show Fa [some (.ref a),none,none,none,none] g=_;unfold Fa;exact Qo [some (.ref a),some (.ref g.length),none,none,none] (g++[.lst []]) (QR rfl) (Qo [some (.ref a),some (.ref g.length),some (.int 0),none,none] (g++[.lst []]) rfl (Qo _ g2 ((Yp hit).trans e2) rfl))
theorem IS{src:Src}{c:MT}{e:ME}{z:Option D}{xs:List (Int×Int)}{n:Nat}{g:G}(hn:n=xs.length)(P:Int×Int->Bool)(f:Int×Int->D)(hat:∀i (h:i<xs.length),src.at' g i=some (some (Jl xs[i])))(hend:src.at' g xs.length=some none)(hc:∀p:Int×Int,c [some (.int p.1),some (.int p.2),z] g=.ok (P p) g)(he:∀p:Int×Int,e [some (.int p.1),some (.int p.2),z] g=.ok (f p) g):
  YW src (Ju [Qm 0,Qm 1]) c e (n+1) 0 [none,none,z] g []=.ok ((xs.filter P).map f) g:=by
 subst hn;obtain⟨ds,σ',g',h1,h2,h3,_⟩:=YT (src:=src) (t:=Ju [Qm 0,Qm 1]) (c:=c) (e:=e) (n:=xs.length)
  (λi σ g' acc=>acc=((xs.take i).filter P).map f/\g'=g/\∃u v,σ=[u,v,z]) (λi σ g' acc hi hQ=>by
   obtain⟨q1,q2,u,v,q3⟩:=hQ;subst q2 q3;have htk:xs.take (i+1)=xs.take i++[xs[i]]:=Ux hi;refine⟨Jl xs[i],[some (.int xs[i].1),some (.int xs[i].2),z],g',hat i hi,rfl,?_⟩;cases hp:P xs[i]with
   |true =>refine .inl ⟨f xs[i],g',by rw[hc,hp],he _,?_,rfl,_,_,rfl⟩;rw[htk,List.filter_append,UC,q1,List.filter_cons_of_pos hp];rfl|false =>refine .inr ⟨by rw[hc,hp],?_,rfl,_,_,rfl⟩;rw[htk,List.filter_append,UC,q1,List.filter_cons_of_neg (by rw[hp];exact Uf)];simp) (λσ g' acc hQ=>by rw[hQ.2.1];exact hend) (xs.length+1) 0 [none,none,z] g [] (by omega) (by omega) ⟨rfl,rfl,none,none,rfl⟩
 rw[UX]at h2;rw[h1,h2,h3]
def BH(st here:Int)(M:List (Int×Int)):D:=.tup [.int st,.int here,.tup (M.map Jl)]
theorem aQ(here:Int)(M:List (Int×Int)):((M.reverse.filter λp=>decide (p.1<here)).map λp=>Jl (here-1-p.1,p.2))=(KU here M).map Jl:=by unfold KU gC;rw[U4,List.filter_reverse];rfl
theorem As(here:Int)(M:List (Int×Int)):((M.filter λp=>decide (here<=p.1)).map λp=>Jl (p.1-here,p.2))=(Xt here M).map Jl:=by unfold Xt P3;rw[U4];rfl
theorem Au(here:Int)(M:List (Int×Int)):(KU here M).length<=M.length:=by unfold KU gC;rw[Ua,U7];exact T5 _ _
theorem Ow(here:Int)(M:List (Int×Int)):(Xt here M).length<=M.length:=by unfold Xt P3;rw[Ua];exact T5 _ _
theorem Ez{st here:Int}{M:List (Int×Int)}{g:G}(hM:M.length<=300):∃a b g',Xd [BH st here M] g=.ok (.tup [.int st,.ref a,.ref b]) g'/\g.length<=a/\a<b/\g'[a]?=some (.lst (Xi (P4 here M)))/\g'[b]?=some (.lst (Xi (LF here M)))/\Keeps [] g g':=by
 -- the left side
 have hlen:(M.map Jl).length=M.length:=Ua _;have s1:Oe (.tup (M.map Jl)) g=.ok ⟨λg i=>if i=(M.map Jl).length then some none else if i<(M.map Jl).length then (match QF g (.tup (M.map Jl)) with
  |some (_,es)=>if es.length=(M.map Jl).length then some es[(M.map Jl).length-1-i]? else none
  |none=>none) else none,(M.map Jl).length⟩ g:=rfl
 have c1:=IS (src:=⟨λg i=>if i=(M.map Jl).length then some none else if i<(M.map Jl).length then (match QF g (.tup (M.map Jl)) with
  |some (_,es)=>if es.length=(M.map Jl).length then some es[(M.map Jl).length-1-i]? else none
  |none=>none) else none,(M.map Jl).length⟩) (c:=Qn (Qd FV (Qa 0) (Qa 2))) (e:=QA QO (Qc (Qd XJ (Qd XJ (Qa 2) (mI 1)) (Qa 0)) (Qc (Qa 1) Ql))) (z:=some (.int here)) (xs:=M.reverse) (n:=(M.map Jl).length) (g:=g) (by simp) (λp=>decide (p.1<here)) (λp=>Jl (here-1-p.1,p.2)) (λi h=>by
   rw[U7]at h;show(if i=(M.map Jl).length then some none else if i<(M.map Jl).length then (if (M.map Jl).length=(M.map Jl).length then some (M.map Jl)[(M.map Jl).length-1-i]? else none) else none)=_;rw[Ud (by omega),Ub (by omega),Ub rfl,hlen,Uy,Uk (by omega),List.getElem_reverse];rfl) (by
   rw[U7];show(if M.length=(M.map Jl).length then some none else _)=_;rw[Ub hlen.symm]) (λp=>rfl) (λp=>rfl)
 rw[aQ]at c1;have e1:=JD (it:=E0 (Qd Qv (Qa 0) (mI 2))) (n:=2) (cap:=[1]) (σ:=[some (BH st here M),some (.int here),none,none]) (g:=g) (σ0:=[none,none,some (.int here)]) s1 (UO (Vw (by show(M.map Jl).length<=1000;omega))) rfl c1;have k1:Keeps [] g (g++[.lst ((KU here M).map Jl)]):=.push _;have p1:(g++[GO.lst ((KU here M).map Jl)])[g.length]?=some (.lst ((KU here M).map Jl)):=Qw _;generalize hg1:g++[GO.lst ((KU here M).map Jl)]=g1 at e1 k1 p1;have hl1:=Au here M;obtain⟨a,g2,e2,ha2,hs2,k2⟩:=P7 p1 (by omega)
 -- the right side
 have c3:=IS (src:=⟨λ_ i=>some (M.map Jl)[i]?,(M.map Jl).length⟩) (c:=Qn (Qd dP (Qa 0) (Qa 2))) (e:=QA QO (Qc (Qd XJ (Qa 0) (Qa 2)) (Qc (Qa 1) Ql))) (z:=some (.int here)) (xs:=M) (n:=(M.map Jl).length) (g:=g2) (by simp) (λp=>decide (here<=p.1)) (λp=>Jl (p.1-here,p.2)) (λi h=>by
   show some (M.map Jl)[i]?=_;rw[Uy,Uk h];rfl) (by
   show some (M.map Jl)[M.length]?=_;rw[Ta (by omega)]) (λp=>rfl) (λp=>rfl)
 rw[As]at c3;have e3:=JD (it:=QQ (Qd Qv (Qa 0) (mI 2))) (n:=2) (cap:=[1]) (σ:=[some (BH st here M),some (.int here),some (.ref a),none]) (g:=g2) (σ0:=[none,none,some (.int here)]) (src:=⟨λ_ i=>some (M.map Jl)[i]?,(M.map Jl).length⟩) rfl (UO (Vw (by show(M.map Jl).length<=1000;omega))) rfl c3;have k3:Keeps [] g2 (g2++[.lst ((Xt here M).map Jl)]):=.push _;have p3:(g2++[GO.lst ((Xt here M).map Jl)])[g2.length]?=some (.lst ((Xt here M).map Jl)):=Qw _;have hg2:g2.length<=(g2++[GO.lst ((Xt here M).map Jl)]).length:=k3.len;generalize g2++[GO.lst ((Xt here M).map Jl)]=g3 at e3 k3 p3 hg2;have hl3:=Ow here M;obtain⟨b,g4,e4,hb4,hs4,k4⟩:=P7 p3 (by omega);have hal:=ZB hs2;refine⟨a,b,g4,Zm rfl ?_,Um k1.len ha2,by omega,(k3.trans k4).at' _ _ (by simp) hs2,hs4,k1.trans (k2.trans (k3.trans k4))⟩;show Vv [some (BH st here M),none,none,none] g=_;unfold Vv;refine Qo [some (BH st here M),some (.int here),none,none] g rfl ?_;refine Qo [some (BH st here M),some (.int here),some (.ref a),none] g2 (QR (by rw[QH (QK e1 rfl)];exact e2)) ?_;exact Qo [some (BH st here M),some (.int here),some (.ref a),some (.ref b)] g4 (QR (by rw[QH (QK e3 rfl)];exact e4)) rfl
def BI:Tk->Tk
 |.one s=>.one s|.many w k=>.many w (k+1)
theorem M9{c r:Nat}{t:Tk}{A:List Int}{x0:Option D}{g:G}(ht:VD t)(hc:c<=4)(hr:g[r]?=some (.lst (A.map .int)))(hz:A.length<=32000):
  XF [x0,some (.int c),some (.ref r),some (QS t)] g=.nx [x0,some (.int c),some (.ref r),some (QS t)] (g.set r (.lst ((A++LC c t).map .int))):=by
 have hcl:=G1 ht hc;unfold XF;cases t with
 |one s =>have t1:Qn (Qd Z8 (Qd Qv (Qa 3) (mI 0)) (Qp (.str "one"))) [x0,some (.int c),some (.ref r),some (QS (.one s))] g=.ok (Str.ofString "one"==Str.ofString "one") g:=rfl;rw[Y3]at t1;refine(Ma g t1 (G3 (y:=.int s) rfl hr rfl (by rw[Ua];omega))).trans ?_;rw[UC];rfl|many w k=>
  have t1:Qn (Qd Z8 (Qd Qv (Qa 3) (mI 0)) (Qp (.str "one"))) [x0,some (.int c),some (.ref r),some (QS (.many w k))] g=.ok (Str.ofString "many"==Str.ofString "one") g:=rfl;rw[Ew]at t1;obtain⟨h1,h2,h3,h4,h5⟩:=ht;have ek:((c:Int)+k).toNat=c+k.toNat:=by omega
  have hcl':(List.replicate (c+k.toNat) w).flatten.length<=320:=hcl;have hm:Qd JG (Qd Qv (Qa 3) (mI 1)) (Qd QC (Qa 1) (Qd Qv (Qa 3) (mI 2))) [x0,some (.int c),some (.ref r),some (QS (.many w k))] g=.ok (.tup ((List.replicate (c+k.toNat) w).flatten.map .int)) g:=by rw[<-ek];refine Qr (x:=.tup (w.map .int)) (y:=.int (c+k)) (g1:=g) (g2:=g) rfl rfl (fN (by omega) (by omega) ?_);rw[ek];exact Um (RD h4 (show c+k.toNat<=25 by omega)) (by decide)
  refine(Jo g t1 (Oq rfl hr hm (by rw[Ua,Ua];omega))).trans ?_;rw[UC];rfl
theorem FP{x:D}{b:Bool}{ts:List Tk}{c:Nat}{g:G}(hx:QF g x=some (b,ts.map QS))(hok:∀t∈ts,VD t)(hc:c<=4)(hl:ts.length<=60):
  ∃r g',Kw [x,.int c] g=.ok (.ref r) g'/\g.length<=r/\g'[r]?=some (.lst ((Qz c ts).map .int))/\Keeps [] g g':=by
 have k0:Keeps [] g (g++[.lst []]):=.push _;have p0:(g++[GO.lst []])[g.length]?=some (.lst []):=Qw _;have hx0:=QE hx k0;obtain⟨src,s1,s2,s3⟩:=V4 hx0;have hnot:∀g1,Keeps [g.length] (g++[.lst []]) g1->QF g1 x=some (b,ts.map QS):=λg1 k=>by
  cases x with
  |ref n=>
   unfold QF at hx ⊢;dsimp only at hx ⊢;cases hg:g[n]? with
   |none=>rw[hg]at hx;cases hx|some o =>rw[hg]at hx;have:=ZB hg;rw[k.at' _ _ (λz=>by have:=Ur.mp z;omega) (k0.at' _ _ (by simp) hg)];exact hx
  |_=>exact hx
 have hlen:src.top=ts.length:=by rw[s2,Ua]
 obtain⟨σ',g2,e2,⟨y3,i1⟩,i2,i3⟩:=B7 (src:=src) (t:=Qm 3) (body:=XF) (n:=ts.length) (σ:=[some x,some (.int c),some (.ref g.length),none]) (g:=g++[.lst []]) hlen
  (λi σ g2=>(∃y3,σ=[some x,some (.int c),some (.ref g.length),y3])/\Keeps [g.length] (g++[.lst []]) g2/\g2[g.length]?=some (.lst ((Qz c (ts.take i)).map .int))) ⟨⟨none,rfl⟩,.refl,p0⟩ (λi σ g2 hi hQ=>by
   obtain⟨⟨y3,i1⟩,i2,i3⟩:=hQ;subst i1;have htk:ts.take (i+1)=ts.take i++[ts[i]]:=Ux hi;have hA:(Qz c (ts.take i)).length<=32000:=by have:=JJ hc (ts:=ts.take i) λt ht=>hok t (Bf ht);rw[UW]at this;have:320*min i ts.length<=320*60:=Nat.mul_le_mul_left _ (by omega);omega
   refine⟨QS ts[i],_,_,_,by rw[s3 g2 i (hnot g2 i2),Uy,Uk hi];rfl,rfl,M9 (hok _ (UI hi)) hc i3 hA,⟨_,rfl⟩,i2.trans (.set _ _),?_⟩;rw[Zb i3,htk];unfold Qz;rw[List.flatMap_append];simp) (λσ g2 hQ=>by rw[s3 g2 _ (hnot g2 hQ.2.1),Ta (by rw[Ua];exact Ui _)])
 subst i1;rw[UX]at i3;refine⟨g.length,g2,Zm rfl ?_,Ui _,i3,⟨Um k0.len i2.len,λj o _ h=>i2.at' _ _ (λz=>by have:=ZB h;have:=Ur.mp z;omega) (k0.at' _ _ (by simp) h)⟩⟩;show CI [some x,some (.int c),none,none] g=_;unfold CI;refine Qo [some x,some (.int c),some (.ref g.length),none] (g++[.lst []]) (QR rfl) (Qo _ g2 ((Yp ?_).trans e2) rfl);unfold QQ;rw[show Qa 0 [some x,some (.int c),some (.ref g.length),none] (g++[.lst []])=.ok x (g++[.lst []]) from rfl,Res.bind_ok];exact s1
def Q8:List Int->Int->List (Int×Int)
 |[],_=>[]|s::r,p=>if s≠0 then (p,s)::Q8 r (p+1) else Q8 r (p+1)
theorem BJ(s:Int):∀(A:List Int)(p:Int),Q8 (A++[s]) p=Q8 A p++(if s≠0 then [(p+A.length,s)] else [])
 |[],p=>by
  show(if s≠0 then [(p,s)] else [])=if s≠0 then [(p+((0:Nat):Int),s)] else []
  rw[show p+((0:Nat):Int)=p by omega]
 |a::r,p=>by
  have ih:=BJ s r (p+1);have e:p+1+(r.length:Int)=p+((a::r).length:Nat):=by rw[Uz];omega
  rw[e]at ih;show(if a≠0 then (p,a)::Q8 (r++[s]) (p+1) else Q8 (r++[s]) (p+1))=(if a≠0 then (p,a)::Q8 r (p+1) else Q8 r (p+1))++_;rw[ih];by_cases h:a≠0
  ·rw[Ub h,Ub h];rfl
  ·rw[Ud h,Ud h]
theorem He:∀(A:List Int)(p:Int),(Q8 A p).length<=A.length
 |[],_=>Ui _|a::r,p=>by
  have:=He r (p+1);unfold Q8;split
  ·rw[Uz,Uz];omega
  ·rw[Uz];omega
def aR(st:Int)(f:Str)(c:Nat)(L R:List Tk):D:=.tup [.int st,.int (if (f==Str.ofString "r")=true then 0 else -1),.tup ((Q8 (Qz c L++Qz c R) (-((Qz c L).length:Int))).map Jl)]
def rS:Str:=⟨#[114]⟩
theorem YO{g:G}{l:Nat}{ds:List D}(h:g[l]?=some (.lst ds)):QF g (.ref l)=some (true,ds):=by unfold QF;dsimp only;rw[h]
theorem Av{q l:Nat}{row:List Int}{n:Nat}{A:List D}{g:G}(hq:g[q]?=some (.lst (row.map .int)))(hl:g[l]?=some (.lst A))(hn:A.length=n)(hz:row.length<=50000){x0 x1 x4:Option D} :
  ZK (B2 (Qa 3)) 2 [2] (Ju [(Qm 0),(Qm 1)]) (Qn (Qd Ci (Qa 1) (mI 0))) (QA QO (Qc (Qd XJ (Qa 0) (Qu Zg (Qa 2))) (Qc (Qa 1) Ql))) [x0,x1,some (.ref l),some (.ref q),x4] g=.ok (.ref g.length) (g++[.lst ((Q8 row (-(n:Int))).map Jl)]):=by
 have hs:QF g (.ref q)=some (true,row.map .int):=YO hq;have hlen:(row.map D.int).length=row.length:=Ua _;have hit:B2 (Qa 3) [x0,x1,some (.ref l),some (.ref q),x4] g=.ok ⟨λg i=>(match QF g (.ref q) with
  |some (_,es)=>(match es[i]? with
   |some x=>some (some (.tup [.int i,x]))|none=>some none)
  |none=>none),(row.map D.int).length⟩ g:=by
  unfold B2;rw[show Qa 3 [x0,x1,some (.ref l),some (.ref q),x4] g=.ok (.ref q) g from rfl,Res.bind_ok];unfold Lv;rw[hs];try rfl
 refine JD (σ0:=[none,none,some (.ref l)]) hit (by show(row.map D.int).length<=SZ;exact UO (XZ (by omega))) rfl ?_;obtain⟨xs,σ',g3,c1,c2,c3,_⟩:=YT (src:=⟨λg i=>(match QF g (.ref q) with
  |some (_,es)=>(match es[i]? with
   |some x=>some (some (.tup [.int i,x]))|none=>some none)
  |none=>none),(row.map D.int).length⟩) (t:=Ju [Qm 0,Qm 1]) (c:=Qn (Qd Ci (Qa 1) (mI 0))) (e:=QA QO (Qc (Qd XJ (Qa 0) (Qu Zg (Qa 2))) (Qc (Qa 1) Ql))) (n:=row.length)
  (λi σ' g4 acc=>acc=(Q8 (row.take i) (-(n:Int))).map Jl/\g4=g/\∃u v,σ'=[u,v,some (.ref l)]) (λi σ' g4 acc hi hQ=>by
   obtain⟨q1,q2,u,v,q3⟩:=hQ;subst q2 q3;have htk:row.take (i+1)=row.take i++[row[i]]:=Ux hi;have hlt:(row.take i).length=i:=by rw[UW];omega
   have hsn:=BJ row[i] (row.take i) (-(n:Int));rw[hlt,<-htk]at hsn;have t1:Qn (Qd Ci (Qa 1) (mI 0)) [some (.int i),some (.int row[i]),some (.ref l)] g4=.ok (!(row[i]==0)) g4:=rfl;refine⟨.tup [.int i,.int row[i]],[some (.int i),some (.int row[i]),some (.ref l)],g4,?_,rfl,?_⟩
   ·dsimp only;rw[hs];dsimp only;rw[Uy,Uk hi];rfl
   ·by_cases hz0:row[i]=0
    ·rw[Tr.mpr hz0]at t1;refine .inr ⟨t1,?_,rfl,_,_,rfl⟩;rw[hsn,Ud (λz=>z hz0),UY];exact q1
    ·rw[U0.mpr hz0]at t1;refine .inl ⟨Jl (-(n:Int)+i,row[i]),g4,t1,?_,?_,rfl,_,_,rfl⟩
     ·refine Kz (QK (g1:=g4) (Qr (x:=.int i) (y:=.int n) (g1:=g4) (g2:=g4) rfl (YN (x:=.ref l) (g1:=g4) rfl (by unfold Zg;dsimp only;rw[hl];dsimp only;rw[hn])) ?_) (QK (g1:=g4) rfl rfl)) rfl;show Res.ok (D.int ((i:Int) - n)) g4=_;rw[show(i:Int) - n = -(n:Int)+i by omega]
     ·rw[hsn,Ub hz0,UC,q1];rfl) (λσ g4 acc hQ=>by
   dsimp only;rw[hQ.2.1,hs];dsimp only;rw[Ta (by rw[hlen];exact Ui _)]) ((row.map D.int).length+1) 0 [none,none,some (.ref l)] g [] (by omega) (by omega) ⟨rfl,rfl,none,none,rfl⟩
 rw[UX]at c2;subst c2 c3;exact c1
theorem Na{st:Int}{f:Str}{L R:D}{g:G}{b b':Bool}{tl tr:List Tk}{c:Nat}(h0:0<=st)(hf:lrS f)(hL:QF g L=some (b,tl.map QS))(hR:QF g R=some (b',tr.map QS))(ol:∀t∈tl,VD t)(or':∀t∈tr,VD t)(zl:tl.length<=40)(zr:tr.length<=40)(hc:c<=4):
  ∃g',CK [.tup [.int st,.str f,L,R],.int c] g=.ok (aR st f c tl tr) g'/\Keeps [] g g':=by
 obtain⟨g1,e1,k1⟩:=G4 h0 hf hL hR ol or' (by omega) (by omega);obtain⟨r1,g2,e2,hr1,p2,k2⟩:=FP (QE hL k1) ol hc (by omega);obtain⟨r2,g3,e3,hr2,p3,k3⟩:=FP (QE hR (k1.trans k2)) or' hc (by omega);have p2':=k3.at' _ _ (by simp) p2;have l1:=JJ hc ol;have l2:=JJ hc or';have hb1:500*tl.length<=20000:=by omega
 have hb2:500*tr.length<=20000:=by omega
 have k4:Keeps [] g3 (g3++[.lst ((Qz c tl).map .int++(Qz c tr).map .int)]):=.push _;have p4:(g3++[GO.lst ((Qz c tl).map .int++(Qz c tr).map .int)])[g3.length]?=some (.lst ((Qz c tl).map .int++(Qz c tr).map .int)):=Qw _;have e4:=Vx p2' p3 (by rw[Ua,Ua];omega);have p2'':=k4.at' _ _ (by simp) p2';generalize g3++[GO.lst ((Qz c tl).map .int++(Qz c tr).map .int)]=g4 at k4 p4 e4 p2'';rw[<-UC]at p4;have e5:=Av (n:=(Qz c tl).length) (x0:=some (.tup [.int st,.str f,L,R])) (x1:=some (.int c)) (x4:=none) p4 p2'' (Ua _) (by rw[Us];omega);have k5:Keeps [] g4 (g4++[.lst ((Q8 (Qz c tl++Qz c tr) (-((Qz c tl).length:Int))).map Jl)]):=.push _;have p5:(g4++[GO.lst ((Q8 (Qz c tl++Qz c tr) (-((Qz c tl).length:Int))).map Jl)])[g4.length]?=some (.lst ((Q8 (Qz c tl++Qz c tr) (-((Qz c tl).length:Int))).map Jl)):=Qw _;generalize hg5:g4++[GO.lst ((Q8 (Qz c tl++Qz c tr) (-((Qz c tl).length:Int))).map Jl)]=g5 at e5 k5 p5;refine⟨g5,Zm rfl ?_,k1.trans (k2.trans (k3.trans (k4.trans k5)))⟩;show CJ [some (.tup [.int st,.str f,L,R]),some (.int c),none,none,none] g=_;unfold CJ;have t2:Qn (Qs QM (Qc (Qa 1) Ql)) [some (.tup [.int st,.str f,L,R]),some (.int c),none,none,none] g1=.ok true g1:=Zq (by rw[QH (ds:=[.int c]) (g':=g1) rfl,Fi,Uo (by omega)]);refine Qo _ g1 (Yt (by rw[QH (ds:=[.tup [.int st,.str f,L,R]]) (g':=g) rfl];exact e1)) (Qo _ g1 (Jo g1 (Fh t2) rfl) ?_);refine Qo [some (.tup [.int st,.str f,L,R]),some (.int c),some (.ref r1),none,none] g2 (QR (by rw[QH (ds:=[L,.int c]) (g':=g1) rfl];exact e2)) ?_;refine Qo [some (.tup [.int st,.str f,L,R]),some (.int c),some (.ref r1),some (.ref g3.length),none] g4 (QR (Qr (x:=.ref r1) (y:=.ref r2) (g1:=g2) (g2:=g3) rfl (by rw[QH (ds:=[R,.int c]) (g':=g2) rfl];exact e3) e4)) ?_;refine Qo _ g5 (QR e5) (Yy ?_);have t3:Qn (Qd Z8 (Qd Qv (Qa 0) (mI 1)) (Qp (.str "r"))) [some (.tup [.int st,.str f,L,R]),some (.int c),some (.ref r1),some (.ref g3.length),some (.ref g4.length)] g5=.ok (f==Str.ofString "r") g5:=rfl;have e6:Xn (Qn (Qd Z8 (Qd Qv (Qa 0) (mI 1)) (Qp (.str "r")))) (mI 0) (Qu X4 (mI 1)) [some (.tup [.int st,.str f,L,R]),some (.int c),some (.ref r1),some (.ref g3.length),some (.ref g4.length)] g5=.ok (.int (if (f==Str.ofString "r")=true then 0 else -1)) g5:=by unfold Xn;rw[t3,Res.bind_ok];cases (f==Str.ofString "r")<;>rfl
 exact Kz (QK (g1:=g5) rfl (QK e6 (QK (YN (x:=.ref g4.length) (g1:=g5) rfl (by unfold Zw;dsimp only;rw[p5])) rfl))) rfl
def LG(st:Int)(f:Str)(L R:List Tk):D:=.tup [.int st,.str f,.tup ((L.map BI).map QS),.tup ((R.map BI).map QS)]
theorem FY(t:Tk)(g:G):Yc [QS t] g=.ok (QS (BI t)) g:=by
 refine Zm rfl (Yy ?_);show Xn _ (Qa 0) _ [some (QS t)] g=_;unfold Xn;cases t with
 |one s =>rw[show Qn (Qd Z8 (Qd Qv (Qa 0) (mI 0)) (Qp (.str "one"))) [some (QS (.one s))] g=.ok (Str.ofString "one"==Str.ofString "one") g from rfl,Y3,Res.bind_ok];rfl|many w k =>rw[show Qn (Qd Z8 (Qd Qv (Qa 0) (mI 0)) (Qp (.str "one"))) [some (QS (.many w k))] g=.ok (Str.ofString "many"==Str.ofString "one") g from rfl,Ew,Res.bind_ok];rfl
def Ox(d:D):D:=match d with
 |.tup [.str x,v,.int k]=>.tup [.str x,v,.int (k+1)]|d=>d
theorem IT(t:Tk):Ox (QS t)=QS (BI t):=by cases t<;>rfl
theorem Kg{x:D}{b:Bool}{ts:List Tk}{g:G}(hx:QF g x=some (b,ts.map QS))(hz:ts.length<=1000):∃g',JC [x] g=.ok (.tup ((ts.map BI).map QS)) g'/\Keeps [] g g':=by
 obtain⟨src,s1,s2,s3⟩:=V4 hx;obtain⟨g1,c1,k1⟩:=Ex (ds:=ts.map QS) (e:=Qs Yc (Qc (Qa 0) Ql)) (g:=g) (F:=Ox) (src:=src) (by rw[Ua];omega) (λd hd g1 k=>by obtain⟨t,_,rfl⟩:=Te.mp hd;exact⟨g1,by rw[QH (ds:=[QS t]) (g':=g1) rfl,FY,IT],.refl⟩) s2 (λg1 i k=>s3 g1 i (QE hx k));have c2:=JD (it:=QQ (Qa 0)) (n:=1) (cap:=[]) (σ:=[some x]) (t:=Qm 0) (c:=ZV) (σ0:=[none]) (g:=g) (by unfold QQ;rw[show Qa 0 [some x] g=.ok x g from rfl,Res.bind_ok];exact s1) (by rw[s2,Ua];exact UO (XZ (by omega))) rfl c1;have hm:(ts.map QS).map Ox=(ts.map BI).map QS:=by rw[U4,U4];exact Rj λt _=>IT t
 rw[hm]at c2;refine⟨_,Zm rfl (Yy (YN c2 ?_)),k1.trans (.push (.lst ((ts.map BI).map QS)))⟩;unfold Zw;dsimp only;rw[Qw]
theorem Oy{st:Int}{f:Str}{L R:D}{g:G}{b b':Bool}{tl tr:List Tk}(h0:0<=st)(hf:lrS f)(hL:QF g L=some (b,tl.map QS))(hR:QF g R=some (b',tr.map QS))(ol:∀t∈tl,VD t)(or':∀t∈tr,VD t)(zl:tl.length<=40)(zr:tr.length<=40):
  ∃g',GW [.tup [.int st,.str f,L,R]] g=.ok (LG st f tl tr) g'/\Keeps [] g g':=by
 obtain⟨g1,e1,k1⟩:=G4 h0 hf hL hR ol or' (by omega) (by omega);obtain⟨g2,e2,k2⟩:=Kg (QE hL k1) (by omega);obtain⟨g3,e3,k3⟩:=Kg (QE hR (k1.trans k2)) (by omega);refine⟨g3,Zm rfl ?_,k1.trans (k2.trans k3)⟩;show GV [some (.tup [.int st,.str f,L,R])] g=_;unfold GV;refine Qo _ g1 (Yt (by rw[QH (ds:=[.tup [.int st,.str f,L,R]]) (g':=g) rfl];exact e1)) (Yy ?_);exact Kz (QK (g1:=g1) rfl (QK (g1:=g1) rfl (QK (g1:=g2) (by rw[QH (ds:=[L]) (g':=g1) rfl];exact e2) (QK (g1:=g3) (by rw[QH (ds:=[R]) (g':=g2) rfl];exact e3) rfl)))) rfl
theorem Yu:Str.ofString "state"=⟨#[115,116,97,116,101]⟩:=by decide +kernel
theorem Yv:Str.ofString "place"=⟨#[112,108,97,99,101]⟩:=by decide +kernel
theorem Q3:Str.ofString "left_marks"=⟨#[108,101,102,116,95,109,97,114,107,115]⟩:=by decide +kernel
theorem QX:Str.ofString "right_marks"=⟨#[114,105,103,104,116,95,109,97,114,107,115]⟩:=by decide +kernel
theorem LH:Str.ofString "is_on_mark"=⟨#[105,115,95,111,110,95,109,97,114,107]⟩:=by decide +kernel
theorem gE:Str.ofString "entry"=⟨#[101,110,116,114,121]⟩:=by decide +kernel
theorem gF:Str.ofString "write"=⟨#[119,114,105,116,101]⟩:=by decide +kernel
theorem Oz:Str.ofString "go_right"=⟨#[103,111,95,114,105,103,104,116]⟩:=by decide +kernel
theorem Aw:Str.ofString "go_left"=⟨#[103,111,95,108,101,102,116]⟩:=by decide +kernel
theorem Ax:Str.ofString "stepped"=⟨#[115,116,101,112,112,101,100]⟩:=by decide +kernel
theorem pW:Str.ofString "run"=⟨#[114,117,110]⟩:=by decide +kernel
theorem mC:Str.ofString "shot"=⟨#[115,104,111,116]⟩:=by decide +kernel
def ZL(t s p l r:D):List (Str×D):=[("table",t),("state",s),("place",p),("left_marks",l),("right_marks",r)]
theorem aS(t s p l r:D):(ZL t s p l r).lookup (Str.ofString "table")=some t:=by unfold ZL;rw[Ys,Yu,Yv,Q3,QX];rfl
theorem aT(t s p l r:D):(ZL t s p l r).lookup (Str.ofString "state")=some s:=by unfold ZL;rw[Ys,Yu,Yv,Q3,QX];rfl
theorem aU(t s p l r v:D):Yl "state" v (ZL t s p l r)=ZL t v p l r:=by unfold ZL;rw[Ys,Yu,Yv,Q3,QX];rfl
theorem aV(t s p l r:D):(ZL t s p l r).lookup (Str.ofString "place")=some p:=by unfold ZL;rw[Ys,Yu,Yv,Q3,QX];rfl
theorem aW(t s p l r v:D):Yl "place" v (ZL t s p l r)=ZL t s v l r:=by unfold ZL;rw[Ys,Yu,Yv,Q3,QX];rfl
theorem HZ(t s p l r:D):(ZL t s p l r).lookup (Str.ofString "left_marks")=some l:=by unfold ZL;rw[Ys,Yu,Yv,Q3,QX];rfl
theorem Hf(t s p l r:D):(ZL t s p l r).lookup (Str.ofString "right_marks")=some r:=by unfold ZL;rw[Ys,Yu,Yv,Q3,QX];rfl
theorem Ia(t s p l r:D):(ZL t s p l r).lookup (Str.ofString "is_on_mark")=none:=by unfold ZL;rw[Ys,Yu,Yv,Q3,QX,LH];rfl
theorem aX(t s p l r:D):(ZL t s p l r).lookup (Str.ofString "entry")=none:=by unfold ZL;rw[Ys,Yu,Yv,Q3,QX,gE];rfl
theorem aY(t s p l r:D):(ZL t s p l r).lookup (Str.ofString "write")=none:=by unfold ZL;rw[Ys,Yu,Yv,Q3,QX,gF];rfl
theorem Nc(t s p l r:D):(ZL t s p l r).lookup (Str.ofString "go_right")=none:=by unfold ZL;rw[Ys,Yu,Yv,Q3,QX,Oz];rfl
theorem OA(t s p l r:D):(ZL t s p l r).lookup (Str.ofString "go_left")=none:=by unfold ZL;rw[Ys,Yu,Yv,Q3,QX,Aw];rfl
theorem OB(t s p l r:D):(ZL t s p l r).lookup (Str.ofString "stepped")=none:=by unfold ZL;rw[Ys,Yu,Yv,Q3,QX,Ax];rfl
theorem mD(t s p l r:D):(ZL t s p l r).lookup (Str.ofString "run")=none:=by unfold ZL;rw[Ys,Yu,Yv,Q3,QX,pW];rfl
theorem gG(t s p l r:D):(ZL t s p l r).lookup (Str.ofString "shot")=none:=by unfold ZL;rw[Ys,Yu,Yv,Q3,QX,mC];rfl
def Kk(L:List (Int×Nat)):List D:=L.map λp=>D.tup [.int p.1,.int (p.2:Nat)]
def BK(rows:List (List D))(st:Nat)(pl:Int)(l r:Nat):GO:=.ins 12 (ZL (.tup (rows.map .tup)) (.int st) (.int pl) (.ref l) (.ref r))
structure WRep(rows:List (List D))(w l r:Nat)(g:G)(st:Nat)(pl:Int)(L R:List (Int×Nat)):Prop where
 w':g[w]?=some (BK rows st pl l r)
 l':g[l]?=some (.lst (Kk L))
 r':g[r]?=some (.lst (Kk R))
 wl:w≠l
 wr:w≠r
 lr:l≠r
section
variable{rows:List (List D)}{w l r:Nat}{g:G}{st:Nat}{pl:Int}{L R:List (Int×Nat)}{σ:S3}{i:Nat}
theorem EA{f:Str}{c:Nat}{cs:List Nat}{fs:List (Str×D)}{d:D}(hv:σ[i]?=some (some (.ref w)))(h:g[w]?=some (.ins c fs))(hc:c∈cs)(hf:fs.lookup f=some d):QY cs f (Qa i) σ g=.ok d g:=by unfold QY Qu Qa;rw[hv];dsimp only;rw[Res.bind_ok];dsimp only;rw[h];dsimp only;rw[Ub hc,hf]
theorem WRep.place(W:WRep rows w l r g st pl L R)(hv:σ[i]?=some (some (.ref w))):QY [12] "place" (Qa i) σ g=.ok (.int pl) g:=EA hv W.w' (by simp) (aV ..)
theorem WRep.state(W:WRep rows w l r g st pl L R)(hv:σ[i]?=some (some (.ref w))):QY [12] "state" (Qa i) σ g=.ok (.int st) g:=EA hv W.w' (by simp) (aT ..)
theorem WRep.table(W:WRep rows w l r g st pl L R)(hv:σ[i]?=some (some (.ref w))):QY [11,12] "table" (Qa i) σ g=.ok (.tup (rows.map .tup)) g:=EA hv W.w' (by simp) (aS ..)
theorem WRep.left(W:WRep rows w l r g st pl L R)(hv:σ[i]?=some (some (.ref w))):QY [12] "left_marks" (Qa i) σ g=.ok (.ref l) g:=EA hv W.w' (by simp) (HZ ..)
theorem WRep.right(W:WRep rows w l r g st pl L R)(hv:σ[i]?=some (some (.ref w))):QY [12] "right_marks" (Qa i) σ g=.ok (.ref r) g:=EA hv W.w' (by simp) (Hf ..)
theorem VS{m:Str}{f:MF}{a:MA}{xs:List D}{g2:G}{fs:List (Str×D)}(hv:σ[i]?=some (some (.ref w)))(h:g[w]?=some (.ins 12 fs))(hm:fs.lookup m=none)(ha:a σ g=.ok xs g2):YX 12 m f (Qa i) a σ g=f (.ref w::xs) g2:=by unfold YX Qa;rw[hv];dsimp only;rw[Res.bind_ok];dsimp only;rw[h];dsimp only;rw[Ub ⟨rfl,hm⟩,ha,Res.bind_ok]
def Q9(L:List (Int×Nat))(x:Int):Option Nat:=match L.getLast? with
 |some (y,s)=>if y=x then some s else none
 |none=>none
theorem KC(L:List (Int×Nat)):(Kk L).length=L.length:=by simp[Kk]
theorem aZ{L:List (Int×Nat)}{p:Int×Nat}(h:L.getLast?=some p):VF (Kk L) (-1)=some (.tup [.int p.1,.int (p.2:Nat)]):=by
 have hne:L≠[]:=λz=>by rw[z]at h;cases h
 have hpos:0<L.length:=TR.mpr hne;unfold VF Gf;rw[Ud (by decide),KC,Ub (by omega)];show(Kk L)[((-1:Int)+(L.length:Int)).toNat]?=_;rw[show((-1:Int)+(L.length:Int)).toNat=L.length-1 by omega];rw[Wi]at h;simp[Kk,h]
theorem bA{L:List (Int×Nat)}(h:L.getLast?=none):L=[]:=by simpa using h
theorem bB{x:Nat}{L:List (Int×Nat)}{a:ME}(ha:a σ g=.ok (.ref x) g)(hx:g[x]?=some (.lst (Kk L))):Qd Lj (Qu Zg a) (mI 0) σ g=.ok (.bl (decide (0<L.length))) g:=by refine Qr (x:=.int L.length) (g1:=g) (YN ha (by simp[Zg,hx,KC])) rfl ?_;show Res.ok (D.bl (decide ((0:Int)<(L.length:Int)))) g=_;rw[show decide ((0:Int)<(L.length:Int))=decide (0<L.length) from decide_eq_decide.mpr (by omega)]
theorem Hg{x:Nat}{L:List (Int×Nat)}{p:Int×Nat}{a:ME}{k:Int}(ha:a σ g=.ok (.ref x) g)(hx:g[x]?=some (.lst (Kk L)))(h:L.getLast?=some p)(hk:k=0\/k=1):Qd Qv (Qd Qv a (Qu X4 (mI 1))) (Qp (.int k)) σ g=.ok (.int (if k=0 then p.1 else (p.2:Nat))) g:=by
 refine Qr (x:=.tup [.int p.1,.int (p.2:Nat)]) (g1:=g) (Qr (x:=.ref x) (y:=.int (-1)) (g1:=g) (g2:=g) ha rfl ?_) rfl ?_
 ·unfold Qv;dsimp only;rw[hx];dsimp only;rw[aZ h]
 ·rcases hk with rfl|rfl<;>rfl
theorem P8{x:Nat}{L:List (Int×Nat)}{a b:ME}{y:Int}(ha:a σ g=.ok (.ref x) g)(hx:g[x]?=some (.lst (Kk L)))(hb:b σ g=.ok (.int y) g):
  Jt (Qd Lj (Qu Zg a) (mI 0)) (Qd Z8 (Qd Qv (Qd Qv a (Qu X4 (mI 1))) (mI 0)) b) σ g=.ok (.bl (Q9 L y).isSome) g:=by
 unfold Jt;rw[bB ha hx,Res.bind_ok];dsimp only;cases h:L.getLast? with
 |none =>have:=bA h;subst this;rfl|some p=>
  have hne:L≠[]:=λz=>by rw[z]at h;cases h
  rw[Uo (TR.mpr hne),Ub rfl,Qr (Hg ha hx h (.inl rfl)) hb rfl,Ub rfl,eq_int];unfold Q9;rw[h];obtain⟨z,s⟩:=p;dsimp only;by_cases e:z=y
  ·rw[Ub e,e];simp
  ·rw[Ud e,U0.mpr e];rfl
theorem OC(W:WRep rows w l r g st pl L R):Zt [.ref w] g=.ok (.bl (Q9 R pl).isSome) g:=Zm rfl (Yy (P8 (W.right rfl) W.r' (W.place rfl)))
theorem EB(W:WRep rows w l r g st pl L R)(hv:σ[i]?=some (some (.ref w))):Qn (YX 12 "is_on_mark" Zt (Qa i) Ql) σ g=.ok (Q9 R pl).isSome g:=Zq (by rw[VS hv W.w' (Ia ..) rfl];exact OC W)
theorem bC{row:List D}{d:D}(W:WRep rows w l r g st pl L R)(hr:rows[st]?=some row)(hd:row[(Q9 R pl).getD 0]?=some d):Va [.ref w] g=.ok d g:=by
 have hst:st<rows.length:=(Uj.mp hr).1;have hs:(Q9 R pl).getD 0<row.length:=(Uj.mp hd).1;refine Zm rfl ?_;show Kv [some (.ref w),none] g=_;unfold Kv;refine Qo [some (.ref w),some (.int ((Q9 R pl).getD 0:Nat))] g (QR ?_) (Yy ?_)
 ·unfold Xn;rw[EB W rfl,Res.bind_ok];cases h:Q9 R pl with
  |none=>rfl|some s=>
   have hl:R.getLast?=some (pl,s):=by
    unfold Q9 at h;cases hq:R.getLast? with
    |none=>rw[hq]at h;cases h|some p=>
     obtain⟨z,s'⟩:=p;rw[hq]at h;dsimp only at h;by_cases e:z=pl
     ·rw[Ub e]at h;cases h;rw[e]
     ·rw[Ud e]at h;cases h
   rw[show(some s).isSome=true from rfl,Ub rfl,Hg (W.right rfl) W.r' hl (.inr rfl)];rfl
 ·have e1:Qv (.tup (rows.map .tup)) (.int st) g=.ok (.tup row) g:=by unfold Qv;dsimp only;unfold VF Gf;rw[Ub (by omega),Ub (by simp;omega)];simp[hr]
  have e2:Qv (.tup row) (.int ((Q9 R pl).getD 0:Nat)) g=.ok d g:=by unfold Qv;dsimp only;unfold VF Gf;rw[Ub (by omega),Ub (by omega)];simp[hd]
  exact Qr (Qr (W.table rfl) (W.state rfl) e1) rfl e2
end
section
variable{rows:List (List D)}{w l r:Nat}{g:G}{st:Nat}{pl:Int}{L R:List (Int×Nat)}{σ:S3}{i:Nat}
theorem B9{R:List (Int×Nat)}{pl:Int}{s:Nat}(h:Q9 R pl=some s):R.getLast?=some (pl,s):=by
 unfold Q9 at h;cases hq:R.getLast? with
 |none=>rw[hq]at h;cases h|some p=>
  obtain⟨z,s'⟩:=p;rw[hq]at h;dsimp only at h;by_cases e:z=pl
  ·rw[Ub e]at h;cases h;rw[e]
  ·rw[Ud e]at h;cases h
theorem P9{x:Nat}{p:Int×Nat}{a:ME}(ha:a σ g=.ok (.ref x) g)(hx:g[x]?=some (.lst (Kk L)))(h:L.getLast?=some p):Qu HQ a σ g=.ok (.tup [.int p.1,.int (p.2:Nat)]) (g.set x (.lst (Kk L.dropLast))):=by
 refine YN ha ?_;unfold HQ;dsimp only;rw[hx];dsimp only;have e:(Kk L)[(Kk L).length-1]?=some (.tup [.int p.1,.int (p.2:Nat)]):=by rw[Wi]at h;rw[KC];simp[Kk,h]
 rw[e];dsimp only;have:(Kk L).dropLast=Kk L.dropLast:=by simp[Kk,List.map_dropLast]
 rw[this]
theorem Nd(L:List (Int×Nat))(x:Int)(s:Nat):Kk L++[.tup [.int x,.int s]]=Kk (L++[(x,s)]):=by simp[Kk]
theorem WRep.setR{R':List (Int×Nat)}(W:WRep rows w l r g st pl L R):WRep rows w l r (g.set r (.lst (Kk R'))) st pl L R':=⟨by rw[Uh (Ne.symm W.wr)];exact W.w',by rw[Uh (Ne.symm W.lr)];exact W.l',Zb W.r',W.wl,W.wr,W.lr⟩
theorem WRep.setL{L':List (Int×Nat)}(W:WRep rows w l r g st pl L R):WRep rows w l r (g.set l (.lst (Kk L'))) st pl L' R:=⟨by rw[Uh (Ne.symm W.wl)];exact W.w',Zb W.l',by rw[Uh W.lr];exact W.r',W.wl,W.wr,W.lr⟩
theorem WRep.setW{st':Nat}{pl':Int}(W:WRep rows w l r g st pl L R):WRep rows w l r (g.set w (BK rows st' pl' l r)) st' pl' L R:=⟨Zb W.w',by rw[Uh W.wl];exact W.l',by rw[Uh W.wr];exact W.r',W.wl,W.wr,W.lr⟩
abbrev KW(w l r:Nat)(g g':G):Prop:=Keeps [w,l,r] g g'
theorem KD{w l r x:Nat}{g:G}{o:GO}(h:x=w\/x=l\/x=r):KW w l r g (g.set x o):=(Keeps.set x o).mono λn hn=>by rw[Ur.mp hn];rcases h with rfl|rfl|rfl<;>simp
def Yr(R:List (Int×Nat))(pl:Int):List (Int×Nat):=if (Q9 R pl).isSome=true then R.dropLast else R
def Ic(R:List (Int×Nat))(pl:Int)(s:Nat):List (Int×Nat):=Yr R pl++(if s=0 then [] else [(pl,s)])
theorem bD{s:Nat}(W:WRep rows w l r g st pl L R)(hz:R.length<1000):∃g',Vb [.ref w,.int s] g=.ok .non g'/\WRep rows w l r g' st pl L (Ic R pl s)/\KW w l r g g':=by
 have a1:∃g1,Ye (Qn (YX 12 "is_on_mark" Zt (Qa 0) Ql)) (Zf (Qu HQ (QY [12] "right_marks" (Qa 0)))) QI [some (.ref w),some (.int s)] g=.nx [some (.ref w),some (.int s)] g1/\WRep rows w l r g1 st pl L (Yr R pl)/\KW w l r g g1:=by
  unfold Yr;cases h:Q9 R pl with
  |none=>exact⟨g,Jo g ((EB W rfl).trans (by rw[h];rfl)) rfl,by simpa using W,.refl⟩|some s'=>exact⟨_,Ma g ((EB W rfl).trans (by rw[h];rfl)) (Yt (P9 (W.right rfl) W.r' (B9 h))),by simpa using W.setR,KD (.inr (.inr rfl))⟩
 obtain⟨g1,e1,W1,k1⟩:=a1;have hz1:(Yr R pl).length<1000:=by
  unfold Yr;split
  ·rw[Bc];omega
  ·exact hz
 by_cases hs:s=0
 ·refine⟨g1,BE (σ:=[some (.ref w),some (.int s)]) rfl ?_,by unfold Ic;rw[Ub hs,UY];exact W1,k1⟩;show Xa [some (.ref w),some (.int s)] g=_;unfold Xa;exact Qo _ _ e1 (Jo g1 (Zq (Qr (x:=.int s) (y:=.int 0) (g1:=g1) (g2:=g1) rfl rfl (by rw[ne_int,hs];rfl))) rfl)
 ·refine⟨g1.set r (.lst (Kk (Yr R pl++[(pl,s)]))),BE (σ:=[some (.ref w),some (.int s)]) rfl ?_,by unfold Ic;rw[Ud hs];exact W1.setR,k1.trans (KD (.inr (.inr rfl)))⟩;show Xa [some (.ref w),some (.int s)] g=_;unfold Xa;refine Qo _ _ e1 (Ma g1 (Zq (Qr (x:=.int s) (y:=.int 0) (g1:=g1) (g2:=g1) rfl rfl (by rw[ne_int,U0.mpr (by omega)];rfl))) ?_);rw[<-Nd];refine Fg (W1.right rfl) W1.r' ?_ (Vw (by rw[KC];omega));have:(Qc (QY [12] "place" (Qa 0)) (Qc (Qa 1) Ql)) [some (.ref w),some (.int s)] g1=.ok [.int pl,.int s] g1:=QK (W1.place rfl) rfl;unfold QA;rw[this,Res.bind_ok];rfl
theorem Nf{e:ME}{v:Int}(W:WRep rows w l r g st pl L R)(hv:σ[0]?=some (some (.ref w)))(he:e σ g=.ok (.int v) g):ZC [12] "place" (Qa 0) e σ g=.nx σ (g.set w (BK rows st v l r)):=by unfold ZC Qa;rw[he];dsimp only;rw[hv];dsimp only;rw[W.w'];unfold BK;dsimp only;rw[Ub ⟨by simp,by simp[ZL]⟩,aW]
theorem bE{e:ME}{v:Nat}(W:WRep rows w l r g st pl L R)(hv:σ[0]?=some (some (.ref w)))(he:e σ g=.ok (.int v) g):ZC [12] "state" (Qa 0) e σ g=.nx σ (g.set w (BK rows v pl l r)):=by unfold ZC Qa;rw[he];dsimp only;rw[hv];dsimp only;rw[W.w'];unfold BK;dsimp only;rw[Ub ⟨by simp,by simp[ZL]⟩,aU]
def JN(L:List (Int×Nat))(x:Int):Option Nat->List (Int×Nat)
 |some s=>L++[(x,s)]|none=>L
theorem Ng{x y:Nat}{A B:List (Int×Nat)}{p:Int×Nat}{o a:ME}(ho:o σ g=.ok (.ref x) g)(ha:a σ g=.ok (.ref y) g)(hx:g[x]?=some (.lst (Kk A)))(hy:g[y]?=some (.lst (Kk B)))(hxy:x≠y)(h:B.getLast?=some p)(hz:A.length<1000):
  Zf (ZT o (Qu HQ a)) σ g=.nx σ ((g.set y (.lst (Kk B.dropLast))).set x (.lst (Kk (A++[p])))):=by
 refine Yt (d:=.non) ?_;have hx1:(g.set y (.lst (Kk B.dropLast)))[x]?=some (.lst (Kk A)):=by rw[Uh (Ne.symm hxy)];exact hx
 have hz':(Kk A).length<SZ:=Vw (by rw[KC];omega);unfold ZT;rw[ho,Res.bind_ok];dsimp only;rw[hx];dsimp only;rw[P9 ha hy h,Res.bind_ok];rw[hx1];dsimp only;rw[Ub hz',Nd]
theorem Nh(W:WRep rows w l r g st pl L R)(hz:L.length<1000):∃g',JA [.ref w] g=.ok .non g'/\WRep rows w l r g' st (pl+1) (JN L pl (Q9 R pl)) (Yr R pl)/\KW w l r g g':=by
 have a1:∃g1,Ye (Qn (YX 12 "is_on_mark" Zt (Qa 0) Ql)) (Zf (ZT (QY [12] "left_marks" (Qa 0)) (Qu HQ (QY [12] "right_marks" (Qa 0))))) QI [some (.ref w)] g=.nx [some (.ref w)] g1/\WRep rows w l r g1 st pl (JN L pl (Q9 R pl)) (Yr R pl)/\KW w l r g g1:=by
  unfold Yr;cases h:Q9 R pl with
  |none=>exact⟨g,Jo g ((EB W rfl).trans (by rw[h];rfl)) rfl,by simpa[JN]using W,.refl⟩|some s'=>exact⟨_,Ma g ((EB W rfl).trans (by rw[h];rfl)) (Ng (W.left rfl) (W.right rfl) W.l' W.r' W.lr (B9 h) hz),by simpa[JN]using (W.setR (R':=R.dropLast)).setL,(KD (.inr (.inr rfl))).trans (KD (.inr (.inl rfl)))⟩
 obtain⟨g1,e1,W1,k1⟩:=a1;refine⟨_,BE (σ:=[some (.ref w)]) rfl ?_,W1.setW,k1.trans (KD (.inl rfl))⟩;show XX [some (.ref w)] g=_;unfold XX;exact Qo _ _ e1 (Nf W1 rfl (Qr (W1.place rfl) rfl rfl))
theorem OD(W:WRep rows w l r g st pl L R)(hz:R.length<1000):∃g',J9 [.ref w] g=.ok .non g'/\WRep rows w l r g' st (pl-1) (Yr L (pl-1)) (JN R (pl-1) (Q9 L (pl-1)))/\KW w l r g g':=by
 have W1:WRep rows w l r (g.set w (BK rows st (pl-1) l r)) st (pl-1) L R:=W.setW;have k1:KW w l r g (g.set w (BK rows st (pl-1) l r)):=KD (.inl rfl);have e1:ZC [12] "place" (Qa 0) (Qd XJ (QY [12] "place" (Qa 0)) (mI 1)) [some (.ref w)] g=.nx [some (.ref w)] (g.set w (BK rows st (pl-1) l r)):=Nf W rfl (Qr (W.place rfl) rfl rfl);generalize g.set w (BK rows st (pl-1) l r)=g1 at W1 k1 e1;have t1:JR (Qn (Qd Lj (Qu Zg (QY [12] "left_marks" (Qa 0))) (mI 0))) (Qn (Qd Z8 (Qd Qv (Qd Qv (QY [12] "left_marks" (Qa 0)) (Qu X4 (mI 1))) (mI 0)) (QY [12] "place" (Qa 0)))) [some (.ref w)] g1=.ok (Q9 L (pl-1)).isSome g1:=by
  have:=P8 (σ:=[some (.ref w)]) (W1.left (i:=0) rfl) W1.l' (W1.place (i:=0) rfl);unfold Jt at this;unfold JR Qn;rw[bB (W1.left rfl) W1.l',Res.bind_ok]at this ⊢;dsimp only at this ⊢;rw[Res.bind_ok];by_cases hp:0<L.length
  ·rw[Uo hp,Ub rfl]at this ⊢;rw[this,Res.bind_ok]
  ·rw[Ul hp,Ud Uf]at this ⊢;injection this with a b;injection a with a;rw[<-a]
 have a2:∃g2,Vu [some (.ref w)] g=.nx [some (.ref w)] g2/\WRep rows w l r g2 st (pl-1) (Yr L (pl-1)) (JN R (pl-1) (Q9 L (pl-1)))/\KW w l r g g2:=by
  unfold Vu Yr;cases h:Q9 L (pl-1) with
  |none=>exact⟨g1,Qo _ _ e1 (Jo g1 (t1.trans (by rw[h];rfl)) rfl),by simpa[JN]using W1,k1⟩|some s'=>exact⟨_,Qo _ _ e1 (Ma g1 (t1.trans (by rw[h];rfl)) (Ng (W1.right rfl) (W1.left rfl) W1.r' W1.l' (Ne.symm W1.lr) (B9 h) hz)),by simpa[JN]using (W1.setL (L':=L.dropLast)).setR,k1.trans ((KD (.inr (.inl rfl))).trans (KD (.inr (.inr rfl))))⟩
 obtain⟨g2,e2,W2,k2⟩:=a2;exact⟨g2,BE rfl e2,W2,k2⟩
def gH(d:D)(pl:Int)(L R:List (Int×Nat)):Option (Nat×Int×List (Int×Nat)×List (Int×Nat)):=match d with
 |.tup [.int a,.str y,.int b]=>some (if y=rS then (b.toNat,pl+1,JN L pl (Q9 (Ic R pl a.toNat) pl),Yr (Ic R pl a.toNat) pl) else (b.toNat,pl-1,Yr L (pl-1),JN (Ic R pl a.toNat) (pl-1) (Q9 L (pl-1))))|_=>none
theorem Sb(R:List (Int×Nat))(pl:Int)(s:Nat):(Ic R pl s).length<=R.length+1:=by unfold Ic Yr;rw[Us];split<;>split<;>simp<;>omega
theorem OE{row:List D}{d:D}{n m:Nat}(W:WRep rows w l r g st pl L R)(hr:rows[st]?=some row)(hd:row[(Q9 R pl).getD 0]?=some d)(ho:entOk d n m)(hzL:L.length<900)(hzR:R.length<900):
  (d=.non/\ZE [.ref w] g=.ok (.bl false) g)\/∃st' pl' L' R' g',gH d pl L R=some (st',pl',L',R')/\ZE [.ref w] g=.ok (.bl true) g'/\WRep rows w l r g' st' pl' L' R'/\KW w l r g g':=by
 have e0:Qy (Qm 1) (YX 12 "entry" Va (Qa 0) Ql) [some (.ref w),none] g=.nx [some (.ref w),some d] g:=QR (by rw[VS rfl W.w' (aX ..) rfl];exact bC W hr hd);rcases ho with rfl|⟨a,b,y,rfl,a1,a2,b1,b2,yy⟩
 ·refine .inl ⟨rfl,Zm rfl ?_⟩;show Y2 [some (.ref w),none] g=_;unfold Y2;exact Qo _ _ e0 (LB (Ma g rfl rfl))
 ·right;obtain⟨g1,e1,W1,k1⟩:=bD (s:=a.toNat) W (by omega);have ea:((a.toNat:Nat):Int)=a:=by omega
  have eb:((b.toNat:Nat):Int)=b:=by omega
  rw[ea]at e1;have hl1:=Sb R pl a.toNat;have hw:Zf (YX 12 "write" Vb (Qa 0) (Qc (Qd Qv (Qa 1) (mI 0)) Ql)) [some (.ref w),some (.tup [.int a,.str y,.int b])] g=.nx [some (.ref w),some (.tup [.int a,.str y,.int b])] g1:=Yt (d:=.non) (by rw[VS rfl W.w' (aY ..) (xs:=[.int a]) (g2:=g) rfl];exact e1);have fin:∀{pl' L' R' g2},Ye (Qn (Qd Z8 (Qd Qv (Qa 1) (mI 1)) (Qp (.str "r")))) (Zf (YX 12 "go_right" JA (Qa 0) Ql)) (Zf (YX 12 "go_left" J9 (Qa 0) Ql)) [some (.ref w),some (.tup [.int a,.str y,.int b])] g1=.nx [some (.ref w),some (.tup [.int a,.str y,.int b])] g2->WRep rows w l r g2 st pl' L' R'->KW w l r g1 g2->∃g',ZE [.ref w] g=.ok (.bl true) g'/\WRep rows w l r g' b.toNat pl' L' R'/\KW w l r g g':=λ{pl' L' R' g2} h W2 k2=>by refine⟨g2.set w (BK rows b.toNat pl' l r),Zm rfl ?_,W2.setW,(k1.trans k2).trans (KD (.inl rfl))⟩;show Y2 [some (.ref w),none] g=_;unfold Y2;refine Qo _ _ e0 (Qo _ g (Jo g rfl rfl) (Qo _ _ hw (Qo _ _ h (Qo _ _ (bE W2 rfl ?_) rfl))));rw[eb];rfl
  have t:Qn (Qd Z8 (Qd Qv (Qa 1) (mI 1)) (Qp (.str "r"))) [some (.ref w),some (.tup [.int a,.str y,.int b])] g1=.ok (y==rS) g1:=by rw[fF];exact Zq (Qr (x:=.str y) (Qr rfl rfl rfl) rfl rfl)
  by_cases hy:y=rS
  ·obtain⟨g2,e2,W2,k2⟩:=Nh W1 (by omega);obtain⟨g',e3,W3,k3⟩:=fin (Ma g1 (t.trans (by simp[hy])) (Yt (d:=.non) (by rw[VS rfl W1.w' (Nc ..) rfl];exact e2))) W2 k2;exact⟨_,_,_,_,g',by unfold gH;dsimp only;rw[Ub hy],e3,W3,k3⟩
  ·obtain⟨g2,e2,W2,k2⟩:=OD W1 (by omega);obtain⟨g',e3,W3,k3⟩:=fin (Jo g1 (t.trans (by simp[hy])) (Yt (d:=.non) (by rw[VS rfl W1.w' (OA ..) rfl];exact e2))) W2 k2;exact⟨_,_,_,_,g',by unfold gH;dsimp only;rw[Ud hy],e3,W3,k3⟩
end
structure Cf where
 st:Nat
 pl:Int
 L:List (Int×Nat)
 R:List (Int×Nat)
def Hh(rows:List (List D))(s c:Nat):Option D:=(rows[s]?).bind λr=>r[c]?
def BL(rows:List (List D))(c:Cf):Option Cf:=((Hh rows c.st ((Q9 c.R c.pl).getD 0)).bind λd=>gH d c.pl c.L c.R).map λx=>⟨x.1,x.2.1,x.2.2.1,x.2.2.2⟩
def V5(rows:List (List D)):Nat->Cf->Cf×Nat
 |0,c=>(c,0)|k+1,c=>match BL rows c with
  |none=>(c,0)|some c'=>((V5 rows k c').1,(V5 rows k c').2+1)
theorem IU{rows:List (List D)}{k:Nat}{c c':Cf}(h:BL rows c=some c'):V5 rows (k+1) c=((V5 rows k c').1,(V5 rows k c').2+1):=by show(match BL rows c with|none=>(c,0)|some c'=>((V5 rows k c').1,(V5 rows k c').2+1))=_;rw[h]
theorem Ay{rows:List (List D)}{k:Nat}{c:Cf}(h:BL rows c=none):V5 rows (k+1) c=(c,0):=by show(match BL rows c with|none=>(c,0)|some c'=>((V5 rows k c').1,(V5 rows k c').2+1))=_;rw[h]
structure OkC(n m:Nat)(c:Cf):Prop where
 st:c.st<n
 L:∀p∈c.L,p.2<m
 R:∀p∈c.R,p.2<m
theorem OkC.sg{n m:Nat}{c:Cf}(h:OkC n m c)(hm:0<m):(Q9 c.R c.pl).getD 0<m:=by
 cases e:Q9 c.R c.pl with
 |none=>exact hm|some s=>exact h.R _ (T8 (B9 e))
theorem LI{R:List (Int×Nat)}{x:Int}{p:Int×Nat}(h:p∈Yr R x):p∈R:=by
 unfold Yr at h;split at h
 ·exact List.dropLast_subset _ h
 ·exact h
theorem Sc{L:List (Int×Nat)}{x:Int}{o:Option Nat}{p:Int×Nat}(h:p∈JN L x o):p∈L\/o=some p.2:=by
 cases o with
 |none=>exact .inl h|some s=>
  rcases U6.mp h with z|z
  ·exact .inl z
  ·rw[Ur.mp z];exact .inr rfl
theorem gI{R:List (Int×Nat)}{x:Int}{s:Nat}{p:Int×Nat}(h:p∈Ic R x s):p∈R\/p=(x,s):=by
 unfold Ic at h;rcases U6.mp h with z|z
 ·exact .inl (LI z)
 ·split at z
  ·cases z
  ·exact .inr (Ur.mp z)
theorem gJ{rows:List (List D)}{n m:Nat}{c c':Cf}{d:D}(h:OkC n m c)(ho:entOk d n m)(hg:(gH d c.pl c.L c.R).map (λx=>(⟨x.1,x.2.1,x.2.2.1,x.2.2.2⟩:Cf))=some c'):OkC n m c'/\c'.L.length+c'.R.length<=c.L.length+c.R.length+1:=by
 rcases ho with rfl|⟨a,b,y,rfl,a1,a2,b1,b2,yy⟩
 ·cases hg
 ·have hw:∀p∈Ic c.R c.pl a.toNat,p.2<m:=λp hp=>by
   rcases gI hp with z|z
   ·exact h.R p z
   ·rw[z];show a.toNat<m;omega
  have hwl:=Sb c.R c.pl a.toNat;have lens:∀(A B:List (Int×Nat))(x:Int),(JN A x (Q9 B x)).length+(Yr B x).length=A.length+B.length:=λA B x=>by
   unfold Yr;cases e:Q9 B x with
   |none=>simp[JN]|some s=>
    have hne:B≠[]:=λz=>by rw[z]at e;cases e
    have:=TR.mpr hne;simp[JN];omega
  unfold gH at hg;dsimp only at hg;by_cases hy:y=rS
  ·rw[Ub hy]at hg;cases hg;refine⟨⟨by show b.toNat<n;omega,λp hp=>?_,λp hp=>hw p (LI hp)⟩,by have:=lens c.L (Ic c.R c.pl a.toNat) c.pl;show(JN c.L c.pl (Q9 (Ic c.R c.pl a.toNat) c.pl)).length+(Yr (Ic c.R c.pl a.toNat) c.pl).length<=_;omega⟩;rcases Sc hp with z|z
   ·exact h.L p z
   ·exact hw (c.pl,p.2) (T8 (B9 z))
  ·rw[Ud hy]at hg;cases hg;refine⟨⟨by show b.toNat<n;omega,λp hp=>h.L p (LI hp),λp hp=>?_⟩,by have:=lens (Ic c.R c.pl a.toNat) c.L (c.pl-1);show(Yr c.L (c.pl-1)).length+(JN (Ic c.R c.pl a.toNat) (c.pl-1) (Q9 c.L (c.pl-1))).length<=_;omega⟩;rcases Sc hp with z|z
   ·exact hw p z
   ·exact h.L (c.pl-1,p.2) (T8 (B9 z))
structure Tb(rows:List (List D))(n m:Nat):Prop where
 n0:0<n
 m0:0<m
 n12:n<=12
 m8:m<=8
 len:rows.length=n
 row:∀r∈rows,r.length=m
 ent:∀r∈rows,∀d∈r,entOk d n m
theorem Tb.at{rows:List (List D)}{n m s c:Nat}(T:Tb rows n m)(hs:s<n)(hc:c<m):∃row d,rows[s]?=some row/\row[c]?=some d/\entOk d n m/\Hh rows s c=some d:=by
 have h1:s<rows.length:=by rw[T.len];exact hs
 have hm:=UI h1;have h2:c<rows[s].length:=by rw[T.row _ hm];exact hc
 refine⟨rows[s],rows[s][c],by simp,by simp,T.ent _ hm _ (UI h2),?_⟩;unfold Hh;simp[h1,h2]
def Az(rows:List (List D))(w l r:Nat)(g:G)(c:Cf):Prop:=WRep rows w l r g c.st c.pl c.L c.R
theorem Ni{rows:List (List D)}{n m w l r:Nat}{steps:Int}(T:Tb rows n m):∀(k:Nat)(c:Cf)(g:G)(done:Int),done+k=steps->OkC n m c->c.L.length+c.R.length+k<800->Az rows w l r g c->∃g',YU (JR (Qn (Qd FV (Qa 2) (Qa 1))) (Qn (YX 12 "stepped" ZE (Qa 0) Ql))) V3 (k+1) [some (.ref w),some (.int steps),some (.int done)] g=.nx [some (.ref w),some (.int steps),some (.int (done+(V5 rows k c).2))] g'/\Az rows w l r g' (V5 rows k c).1/\KW w l r g g'/\OkC n m (V5 rows k c).1
 |0,c,g,done,hd,ho,hz,W=>by
  refine⟨g,?_,W,.refl,ho⟩;unfold YU;have t:JR (Qn (Qd FV (Qa 2) (Qa 1))) (Qn (YX 12 "stepped" ZE (Qa 0) Ql)) [some (.ref w),some (.int steps),some (.int done)] g=.ok false g:=by have:Qn (Qd FV (Qa 2) (Qa 1)) [some (.ref w),some (.int steps),some (.int done)] g=.ok (decide (done<steps)) g:=rfl;unfold JR;rw[this,Res.bind_ok,Ul (by omega)];rfl
  rw[t];simp[V5]
 |k+1,c,g,done,hd,ho,hz,W=>by
  obtain⟨row,d,hr,hdd,hent,hat⟩:=T.at ho.st (ho.sg T.m0);have lt:Qn (Qd FV (Qa 2) (Qa 1)) [some (.ref w),some (.int steps),some (.int done)] g=.ok true g:=by have:Qn (Qd FV (Qa 2) (Qa 1)) [some (.ref w),some (.int steps),some (.int done)] g=.ok (decide (done<steps)) g:=rfl;rw[this,Uo (by omega)]
  have tt:∀b g1,ZE [.ref w] g=.ok (.bl b) g1->JR (Qn (Qd FV (Qa 2) (Qa 1))) (Qn (YX 12 "stepped" ZE (Qa 0) Ql)) [some (.ref w),some (.int steps),some (.int done)] g=.ok b g1:=λb g1 h=>by unfold JR;rw[lt,Res.bind_ok,Ub rfl];exact Zq (by rw[VS rfl W.w' (OB ..) rfl];exact h)
  rcases OE W hr hdd hent (by omega) (by omega) with⟨rfl,e⟩|⟨st',pl',L',R',g1,eg,e,W1,k1⟩
  ·have hs:BL rows c=none:=by unfold BL;rw[hat];rfl
   rw[Ay hs];refine⟨g,?_,W,.refl,ho⟩;unfold YU;rw[tt false g e];simp
  ·have hs:BL rows c=some ⟨st',pl',L',R'⟩:=by unfold BL;rw[hat];show(gH d c.pl c.L c.R).map _=_;rw[eg];rfl
   obtain⟨ho',hl'⟩:=gJ (rows:=rows) ho hent (c':=⟨st',pl',L',R'⟩) (by rw[eg];rfl);obtain⟨g2,e2,W2,k2,o2⟩:=Ni (w:=w) (l:=l) (r:=r) (steps:=steps) T k ⟨st',pl',L',R'⟩ g1 (done+1) (by omega) ho' (by show L'.length+R'.length+k<800;have:L'.length+R'.length<=c.L.length+c.R.length+1:=hl';omega) W1;rw[IU hs];refine⟨g2,?_,W2,k1.trans k2,o2⟩;unfold YU;rw[tt true g1 e];have eb:V3 [some (.ref w),some (.int steps),some (.int done)] g1=.nx [some (.ref w),some (.int steps),some (.int (done+1))] g1:=rfl;dsimp only;rw[eb];dsimp only;rw[e2];rw[show done+1+((V5 rows k ⟨st',pl',L',R'⟩).2:Int)=done+(((V5 rows k ⟨st',pl',L',R'⟩).2+1:Nat):Int) by omega]
theorem mE{rows:List (List D)}{n m w l r k:Nat}{c:Cf}{g:G}(T:Tb rows n m)(ho:OkC n m c)(hz:c.L.length+c.R.length+k<800)(W:Az rows w l r g c):
  ∃g',CH [.ref w,.int k] g=.ok (.int (V5 rows k c).2) g'/\Az rows w l r g' (V5 rows k c).1/\KW w l r g g'/\OkC n m (V5 rows k c).1:=by
 obtain⟨g',e,W',k',o'⟩:=Ni (w:=w) (l:=l) (r:=r) (steps:=k) T k c g 0 (by omega) ho hz W;rw[TF]at e;refine⟨g',Zm rfl ?_,W',k',o'⟩;show CG [some (.ref w),some (.int k),none] g=_;unfold CG;exact Qo [some (.ref w),some (.int k),some (.int 0)] g rfl (Qo _ g' (aF e (by intro z;cases z)) rfl)
def bF(c:Cf):D:=.tup [.int c.st,.int c.pl,.tup (Kk (c.L++c.R.reverse))]
theorem gK{rows:List (List D)}{w l r:Nat}{c:Cf}{g:G}(hz:c.L.length+c.R.length<=1000)(W:Az rows w l r g c):BD [.ref w] g=.ok (bF c) g:=by
 refine Zm rfl (Yy ?_);have hz':(Kk c.L).length+((Kk c.R).reverse).length<=SZ:=UO (Vw (by rw[U7,KC,KC];exact hz));have e1:Qd QC (Qu Zw (QY [12] "left_marks" (Qa 0))) (Qu Vh (QY [12] "right_marks" (Qa 0))) [some (.ref w)] g=.ok (.tup (Kk (c.L++c.R.reverse))) g:=by
  refine Qr (x:=.tup (Kk c.L)) (y:=.tup (Kk c.R).reverse) (g1:=g) (g2:=g) (YN (W.left rfl) (by simp[Zw,W.l'])) (YN (W.right rfl) ?_) ?_
  ·unfold Vh;rw[YO W.r']
  ·unfold QC;dsimp only;rw[Ub hz'];simp[Kk,WC]
 have e2:(Qc (QY [12] "state" (Qa 0)) (Qc (QY [12] "place" (Qa 0)) (Qc (Qd QC (Qu Zw (QY [12] "left_marks" (Qa 0))) (Qu Vh (QY [12] "right_marks" (Qa 0)))) Ql))) [some (.ref w)] g=.ok [.int c.st,.int c.pl,.tup (Kk (c.L++c.R.reverse))] g:=QK (W.state rfl) (QK (W.place rfl) (QK e1 rfl));unfold QA;show(Qc _ _ [some (.ref w)] g).bind QO=_;rw[e2,Res.bind_ok];rfl
def c0:Cf:=⟨0,0,[],[]⟩
def KY:D:=.tup [.int 0,.int 0,.tup []]
theorem gL(t s p l r:D):Yl "right_marks" r (Yl "left_marks" l (Yl "place" p (Yl "state" s (Yl "table" t []))))=ZL t s p l r:=by unfold ZL;rw[Ys,Yu,Yv,Q3,QX];rfl
theorem Vy{cs:List Nat}{f:Str}{e:ME}{σ:S3}{g g1:G}{w c:Nat}{fs:List (Str×D)}{v:D}(he:e σ g=.ok v g1)(hv:σ[0]?=some (some (.ref w)))(h:g1[w]?=some (.ins c fs))(hc:c∈cs)(hl:fs.length<100):ZC cs f (Qa 0) e σ g=.nx σ (g1.set w (.ins c (Yl f v fs))):=by unfold ZC Qa;rw[he];dsimp only;rw[hv];dsimp only;rw[h];dsimp only;rw[Ub ⟨hc,hl⟩]
theorem EC(f:Str)(v:D):∀fs:List (Str×D),(Yl f v fs).length<=fs.length+1
 |[]=>by simp[Yl]
 | (k,x)::r=>by
  unfold Yl;split
  ·simp
  ·have:=EC f v r;simp;omega
theorem Nj{it:MI}{n:Nat}{cap:List Nat}{t:MG}{c:MT}{e:ME}{σ:S3}{g:G}{src:Src}(h1:it σ g=.ok src g)(h2:src.top=0)(h3:src.at' g 0=some none):ZK it n cap t c e σ g=.ok (.ref g.length) (g++[.lst []]):=by refine JD h1 (by rw[h2];exact RO _) rfl ?_;rw[h2];unfold YW;rw[h3]
theorem AA{rows:List (List D)}{M:Nat}{a:MA}{σ:S3}{g0 g:G}(ha:a σ g0=.ok [.ref M,KY] g)(hM:g[M]?=some (JM rows)):
  ∃w l r g',Bl 12 VN a σ g0=.ok (.ref w) g'/\Az rows w l r g' c0/\Keeps [] g g'/\g.length<=w/\g.length<=l/\g.length<=r:=by
 have kp:Keeps [] g (g++[.ins 12 []]):=.push _;have gw:(g++[.ins 12 []])[g.length]?=some (.ins 12 []):=Qw _;have hMl:M<g.length:=ZB hM;have hl1:(g++[GO.ins 12 []]).length=g.length+1:=by simp
 generalize hw:g.length=w at gw hMl hl1;have kp':=kp;generalize hg1:g++[GO.ins 12 []]=g1 at gw kp hl1;have hM1:=kp.at' _ _ (by simp) hM;have σl:∀x:S3,x=[some (.ref w),some (.ref M),some KY]->x[0]?=some (some (.ref w)):=λx h=>by rw[h];rfl
 -- table
 have e1:=Vy (cs:=[11,12]) (f:="table") (e:=QY [11,12] "table" (Qa 1)) (σ:=[some (.ref w),some (.ref M),some KY]) (Ky rfl hM1) rfl gw (by simp) (by simp);have k1:Keeps [w] g1 (g1.set w (.ins 12 (Yl "table" (.tup (rows.map .tup)) []))):=.set _ _;have gw1:(g1.set w (.ins 12 (Yl "table" (.tup (rows.map .tup)) [])))[w]?=some (.ins 12 (Yl "table" (.tup (rows.map .tup)) [])):=Zb gw;have hl2:(g1.set w (.ins 12 (Yl "table" (.tup (rows.map .tup)) []))).length=w+1:=by rw[UJ];exact hl1
 generalize g1.set w (.ins 12 (Yl "table" (.tup (rows.map .tup)) []))=g2 at e1 k1 gw1 hl2;have b1:=EC (Str.ofString "table") (.tup (rows.map .tup)) [];generalize hf1:Yl "table" (.tup (rows.map .tup)) []=f1 at gw1 b1
 -- state
 have e2:=Vy (cs:=[12]) (f:="state") (e:=Qd Qv (Qa 2) (mI 0)) (σ:=[some (.ref w),some (.ref M),some KY]) (g:=g2) (g1:=g2) (v:=.int 0) rfl rfl gw1 (by simp) (by simp at b1;omega);have k2:Keeps [w] g2 (g2.set w (.ins 12 (Yl "state" (.int 0) f1))):=.set _ _;have gw2:(g2.set w (.ins 12 (Yl "state" (.int 0) f1)))[w]?=some (.ins 12 (Yl "state" (.int 0) f1)):=Zb gw1;have hl3:(g2.set w (.ins 12 (Yl "state" (.int 0) f1))).length=w+1:=by rw[UJ];exact hl2
 generalize g2.set w (.ins 12 (Yl "state" (.int 0) f1))=g3 at e2 k2 gw2 hl3;have b2:=EC (Str.ofString "state") (.int 0) f1;generalize hf2:Yl "state" (.int 0) f1=f2 at gw2 b2
 -- place
 have e3:=Vy (cs:=[12]) (f:="place") (e:=Qd Qv (Qa 2) (mI 1)) (σ:=[some (.ref w),some (.ref M),some KY]) (g:=g3) (g1:=g3) (v:=.int 0) rfl rfl gw2 (by simp) (by simp at b1;omega);have k3:Keeps [w] g3 (g3.set w (.ins 12 (Yl "place" (.int 0) f2))):=.set _ _;have gw3:(g3.set w (.ins 12 (Yl "place" (.int 0) f2)))[w]?=some (.ins 12 (Yl "place" (.int 0) f2)):=Zb gw2;have hl4:(g3.set w (.ins 12 (Yl "place" (.int 0) f2))).length=w+1:=by rw[UJ];exact hl3
 generalize g3.set w (.ins 12 (Yl "place" (.int 0) f2))=g4 at e3 k3 gw3 hl4;have b3:=EC (Str.ofString "place") (.int 0) f2;generalize hf3:Yl "place" (.int 0) f2=f3 at gw3 b3
 -- left_marks
 have ec:∀{c:MT}{e:ME}(g:G),ZK (QQ (Qd Qv (Qa 2) (mI 2))) 2 [0] (Ju [(Qm 0),(Qm 1)]) c e [some (.ref w),some (.ref M),some KY] g=.ok (.ref g.length) (g++[.lst []]):=λ{c e} g=>Nj (src:=⟨λ_ i=>some ([]:List D)[i]?,0⟩) rfl rfl rfl;have er:∀{c:MT}{e:ME}(g:G),ZK (E0 (Qd Qv (Qa 2) (mI 2))) 2 [0] (Ju [(Qm 0),(Qm 1)]) c e [some (.ref w),some (.ref M),some KY] g=.ok (.ref g.length) (g++[.lst []]):=λ{c e} g=>Nj rfl rfl rfl;have k5:Keeps [] g4 (g4++[.lst []]):=.push _;have gl5:(g4++[.lst []])[w+1]?=some (.lst []):=by rw[<-hl4];exact Qw _
 have gw5:=k5.at' _ _ (by simp) gw3;have hl5:(g4++[GO.lst []]).length=w+2:=by rw[Us,hl4];rfl
 have e4:=λ(c:MT)(e:ME)=>Vy (cs:=[12]) (f:="left_marks") (σ:=[some (.ref w),some (.ref M),some KY]) (ec (c:=c) (e:=e) g4) rfl gw5 (by simp) (by simp at b1;omega);rw[hl4]at e4;generalize g4++[GO.lst []]=g5 at k5 gl5 gw5 hl5 e4;have k6:Keeps [w] g5 (g5.set w (.ins 12 (Yl "left_marks" (.ref (w+1)) f3))):=.set _ _;have gw6:(g5.set w (.ins 12 (Yl "left_marks" (.ref (w+1)) f3)))[w]?=some (.ins 12 (Yl "left_marks" (.ref (w+1)) f3)):=Zb gw5;have gl6:=k6.at' (w+1) _ (by simp) gl5;have hl6:(g5.set w (.ins 12 (Yl "left_marks" (.ref (w+1)) f3))).length=w+2:=by rw[UJ];exact hl5
 generalize g5.set w (.ins 12 (Yl "left_marks" (.ref (w+1)) f3))=g6 at k6 gw6 gl6 hl6 e4;have b4:=EC (Str.ofString "left_marks") (.ref (w+1)) f3;generalize hf4:Yl "left_marks" (.ref (w+1)) f3=f4 at gw6 b4
 -- right_marks
 have k7:Keeps [] g6 (g6++[.lst []]):=.push _;have gr7:(g6++[.lst []])[w+2]?=some (.lst []):=by rw[<-hl6];exact Qw _
 have gw7:=k7.at' _ _ (by simp) gw6;have gl7:=k7.at' _ _ (by simp) gl6;have e5:=λ(c:MT)(e:ME)=>Vy (cs:=[12]) (f:="right_marks") (σ:=[some (.ref w),some (.ref M),some KY]) (er (c:=c) (e:=e) g6) rfl gw7 (by simp) (by simp at b1;omega);rw[hl6]at e5;generalize g6++[GO.lst []]=g7 at k7 gr7 gw7 gl7 e5;have k8:Keeps [w] g7 (g7.set w (.ins 12 (Yl "right_marks" (.ref (w+2)) f4))):=.set _ _;refine⟨w,w+1,w+2,g7.set w (.ins 12 (Yl "right_marks" (.ref (w+2)) f4)),?_,⟨?_,k8.at' _ _ (by simp) gl7,k8.at' _ _ (by simp) gr7,by omega,by omega,by omega⟩,?_,by omega,by omega,by omega⟩
 ·have:VN [.ref w,.ref M,KY] g1=.ok .non (g7.set w (.ins 12 (Yl "right_marks" (.ref (w+2)) f4))):=by refine BE (σ:=[some (.ref w),some (.ref M),some KY]) rfl ?_;show BC [some (.ref w),some (.ref M),some KY] g1=_;unfold BC;exact Qo _ _ e1 (Qo _ _ e2 (Qo _ _ e3 (Qo _ _ (e4 _ _) (e5 _ _))))
  unfold Bl;rw[ha,Res.bind_ok,hw,hg1,this,Res.bind_ok]
 ·rw[Zb gw7,<-hf4,<-hf3,<-hf2,<-hf1,gL];rfl
 ·have kk:Keeps [w] g1 (g7.set w (.ins 12 (Yl "right_marks" (.ref (w+2)) f4))):=k1.trans (k2.trans (k3.trans (k5.all.trans (k6.trans (k7.all.trans k8)))));refine⟨Um kp.len kk.len,λb o hb eb=>?_⟩;have:b<w:=by rw[<-hw];exact ZB eb
  exact kk.at' b o (by simp;omega) (kp.at' b o hb eb)
theorem wW{rows:List (List D)}{n m:Nat}(T:Tb rows n m):OkC n m c0:=⟨T.n0,λp hp=>(WD hp).elim,λp hp=>(WD hp).elim⟩
theorem KW.old{w l r:Nat}{g0 g g':G}(k:KW w l r g g')(k0:Keeps [] g0 g)(h1:g0.length<=w)(h2:g0.length<=l)(h3:g0.length<=r):Keeps [] g0 g':=⟨Um k0.len k.len,λb o hb eb=>by have:b<g0.length:=ZB eb;exact k.at' b o (by simp;omega) (k0.at' b o hb eb)⟩
end L3
namespace L3
abbrev Zp:=Nat×List Nat×List Nat
def AB(n st s:Nat):Option (Nat×Bool×Nat):=if s=0 then (if st=0 then some (1,true,1) else if st=1 then some (2,decide (1<n),if 1<n then 3 else 2) else if 3<=st/\st<n+2 then some (st,decide (st<n+1),if st<n+1 then st+1 else 2) else none)
 else if s=1 then (if st=2 then some (1,true,1) else none)
 else if s<n+2 then (if st=1 then some (s+n,true,1) else if st=2 then some (s,false,2) else none)
 else if s<2*n+2 then (if st=2 then some (s-n,false,2) else none) else none
def Hi(n:Nat)(z:Zp):Option Zp:=match AB n z.1 (z.2.2.headD 0),z.2.1 with
 |some (a,true,s),l=>some (s,a::l,z.2.2.tail)|some (a,false,s),x::l=>some (s,l,x::a::z.2.2.tail)|_,_=>none
def ED(n:Nat):Nat->Zp->Option Zp
 |0,z=>some z|k+1,z=>(Hi n z).bind (ED n k)
inductive At where
 |one (s:Nat)|many (far:Bool) (k:Nat)
 deriving DecidableEq
def gM(n:Nat)(far:Bool):List Nat:=(List.range n).map λi=>i+2+(if far then n else 0)
def vD(n c:Nat):At->List Nat
 |.one s=>[s]|.many far k=>(List.replicate (c+k) (gM n far)).flatten
def Xj(n c:Nat)(ts:List At):List Nat:=ts.flatMap (vD n c)
abbrev Sa:=Nat×Bool×List At×List At
def Jf(n e t:Nat):Sa:=if t=0 then (1,true,[.one 1],[.many false e])
 else if t=1 then (1,true,[.one 1,.many true e],[])
 else if t<n+1 then (t+1,true,[.one 1,.many true e]++((List.range (t-1)).map λi=>.one (i+2)),[])
 else if t<2*n+1 then (2,false,[.one 1,.many true e]++((List.range (2*n-t)).map λi=>.one (i+2)),((List.range (t-n)).map λi=>.one (i+2+(2*n-t))))
 else if t=2*n+1 then (2,false,[.one 1],.many false e::((List.range n).map λi=>.one (i+2)))
 else (1,true,[.one 1],.many false e::((List.range n).map λi=>.one (i+2)))
def Jq(n c:Nat)(s:Sa):Zp:=
 let l:=(Xj n c s.2.2.1).reverse
 let r:=Xj n c s.2.2.2
 if s.2.1=true then (s.1,l,r) else (s.1,l.tail,l.headD 0::r)
def VE(n t c:Nat):Nat:=if t=0 then 0 else if t<=2*n then n*c+(t-1) else if t=2*n+1 then 2*n*c+(2*n-1) else 2*n*c+2*n
def Hj(n t:Nat):Nat->Nat
 |0=>1+VE n t 0|e+1=>Hj n t e+(VE n (2*n+3) e-VE n t e)+VE n t (e+1)
def vE(n t:Nat):Bool:=(List.range 4).all λe=>decide (ED n (Hj n t e) (0,[],[])=some (Jq n 0 (Jf n e t)))
def vF(n t:Nat):Bool:=(List.range 7).all λe=>decide (ED n (VE n (2*n+3) e-VE n t e+VE n t (e+1)) (Jq n e (Jf n 0 t))=some (Jq n (e+1) (Jf n 0 t)))
def vG:Bool:=(List.range 4).all λk=>(List.range (2*k+5)).all λt=>vE (k+1) t&&vF (k+1) t
theorem gN:vG=true:=by decide +kernel
open PySem
def ph(nw fw:List Int)(s:Nat):Int:=([0,1]++nw++fw).getD s 0
structure Bo(rows:List (List D))(n:Nat)(nw fw:List Int):Prop where
 n0:0<n
 n4:n<=4
 nl:nw.length=n
 fl:fw.length=n
 pos:∀s,s≠0->s<2*n+2->0<ph nw fw s
 ent:∀st s a w st',AB n st s=some (a,w,st')->en rows st (ph nw fw s)=some (ph nw fw a,w,(st':Int))
theorem Sd{n st s a st':Nat}{w:Bool}(h:AB n st s=some (a,w,st'))(n0:0<n):a≠0/\a<2*n+2/\(st'<n+2/\st'≠0):=by
 unfold AB at h;split at h
 ·split at h
  ·cases h;omega
  ·split at h
   ·cases h;split<;>omega
   ·split at h
    ·cases h;split<;>omega
    ·cases h
 ·split at h
  ·split at h
   ·cases h;omega
   ·cases h
  ·split at h
   ·split at h
    ·cases h;omega
    ·split at h
     ·cases h;omega
     ·cases h
   ·split at h
    ·split at h
     ·cases h;omega
     ·cases h
    ·cases h
def OkZ(n:Nat)(z:Zp):Prop:=(∀x∈z.2.1,x≠0/\x<2*n+2)/\(∀x∈z.2.2,x≠0/\x<2*n+2)/\z.1<n+2
theorem VT{n:Nat}{z z':Zp}(h:Hi n z=some z'):∃a w s,AB n z.1 (z.2.2.headD 0)=some (a,w,s)/\((w=true/\z'=(s,a::z.2.1,z.2.2.tail))\/∃x l,w=false/\z.2.1=x::l/\z'=(s,l,x::a::z.2.2.tail)):=by
 obtain⟨st,L,R⟩:=z;unfold Hi at h;dsimp only at h ⊢;cases e:AB n st (R.headD 0) with
 |none=>rw[e]at h;cases L<;>cases h|some v=>
  obtain⟨a,w,s⟩:=v;rw[e]at h;cases w with
  |true=>cases h;exact⟨a,true,s,rfl,.inl ⟨rfl,rfl⟩⟩|false=>cases L with
   |nil=>cases h|cons x l=>cases h;exact⟨a,false,s,rfl,.inr ⟨x,l,rfl,rfl,rfl⟩⟩
theorem OkZ.step{n:Nat}{z z':Zp}(o:OkZ n z)(n0:0<n)(h:Hi n z=some z'):OkZ n z':=by
 obtain⟨st,L,R⟩:=z;obtain⟨a,w,s,e,h⟩:=VT h;obtain⟨a0,a1,s1,_⟩:=Sd e n0;obtain⟨o1,o2,o3⟩:=o;dsimp only at *;have ot:∀x∈R.tail,x≠0/\x<2*n+2:=λx hx=>o2 x (List.mem_of_mem_tail hx);rcases h with⟨_,rfl⟩|⟨x,l,_,rfl,rfl⟩
 ·refine⟨λy hy=>?_,ot,s1⟩;rcases UE.mp hy with rfl|hy
  ·exact⟨a0,a1⟩
  ·exact o1 y hy
 ·refine⟨λy hy=>o1 y (Uv _ hy),λy hy=>?_,s1⟩;rcases UE.mp hy with rfl|hy
  ·exact o1 _ UB
  ·rcases UE.mp hy with rfl|hy
   ·exact⟨a0,a1⟩
   ·exact ot y hy
section
variable{rows:List (List D)}{n:Nat}{nw fw:List Int}
def LJ(nw fw:List Int)(z:Zp)(p:Int):Cg:=(z.1,p,λx=>tp (λi=>ph nw fw (z.2.1.getD i 0)) (λi=>ph nw fw (z.2.2.getD i 0)) (x-p))
theorem Fj{R:List Nat}(i:Nat):R.tail.getD i 0=R.getD (i+1) 0:=by cases R<;>simp
theorem bG(B:Bo rows n nw fw){z z':Zp}(h:Hi n z=some z')(p:Int):∃p',pR rows (LJ nw fw z p) (LJ nw fw z' p'):=by
 obtain⟨st,L,R⟩:=z;obtain⟨a,w,s,e,h⟩:=VT h;have he:=B.ent _ _ _ _ _ e;have hh:R.headD 0=R.getD 0 0:=by cases R<;>rfl
 dsimp only at he h;rw[hh]at he;have h0:(LJ nw fw (st,L,R) p).2.2 p=ph nw fw (R.getD 0 0):=by unfold LJ tp;simp
 rcases h with⟨rfl,rfl⟩|⟨x,l,rfl,hl,rfl⟩
 ·refine⟨p+1,ph nw fw a,true,?_,rfl,?_⟩
  ·show en rows st ((LJ nw fw (st,L,R) p).2.2 p)=_;rw[h0];exact he
  ·show(λy=>_)=put (λy=>_) p _;funext y;have:=pQ (l:=λi=>ph nw fw (L.getD i 0)) (r:=λi=>ph nw fw (R.getD i 0)) (a:=ph nw fw a) (l':=λi=>ph nw fw ((a::L).getD i 0)) (r':=λi=>ph nw fw (R.tail.getD i 0)) (λi=>by simp only[Fj]) rfl (λi=>rfl) (y - (p+1));refine this.symm.trans ?_;unfold put;by_cases hy:y=p
   ·rw[Ub hy,Ub (by omega)]
   ·rw[Ud hy,Ud (by omega),show y - (p+1)+1=y-p by omega];rfl
 ·have hl:L=x::l:=hl;subst hl;refine⟨p-1,ph nw fw a,false,?_,rfl,?_⟩
  ·show en rows st ((LJ nw fw (st,x::l,R) p).2.2 p)=_;rw[h0];exact he
  ·show(λy=>_)=put (λy=>_) p _;funext y;unfold put LJ tp;dsimp only;by_cases hy:y=p
   ·rw[Ub hy,Ud (by omega)];rw[show(y - (p-1)).toNat=1 by omega];rfl
   ·rw[Ud hy];by_cases h1:y-p<0
    ·rw[Ub h1];by_cases h2:y - (p-1)<0
     ·rw[Ub h2,show(-1 - (y-p)).toNat=(-1 - (y - (p-1))).toNat+1 by omega];rfl
     ·rw[Ud h2,show(y - (p-1)).toNat=0 by omega,show(-1 - (y-p)).toNat=0 by omega];rfl
    ·rw[Ud h1,Ud (by omega),show(y - (p-1)).toNat=(y-p).toNat-1+2 by omega];show ph nw fw (R.tail.getD ((y-p).toNat-1) 0)=_;rw[Fj,show(y-p).toNat-1+1=(y-p).toNat by omega]
inductive Stps(rows:List (List D)):Nat->Cg->Cg->Prop where
 |nil (u:Cg):Stps rows 0 u u
 |cons {k:Nat} {u v w:Cg}:pR rows u v->Stps rows k v w->Stps rows (k+1) u w
theorem Se(B:Bo rows n nw fw):∀(k:Nat){z z':Zp}(p:Int),ED n k z=some z'->∃p',Stps rows k (LJ nw fw z p) (LJ nw fw z' p')
 |0,_,_,p,h=>by cases h;exact⟨p,.nil _⟩
 |k+1,z,z',p,h=>by unfold ED at h;obtain⟨y,h1,h2⟩:=U2.mp h;obtain⟨q,e1⟩:=bG B h1 p;obtain⟨p',e2⟩:=Se B k q h2;exact⟨p',.cons e1 e2⟩
end
def Bb(nw fw:List Int)(d:Int):List Nat->Int->List (Int×Nat)
 |[],_=>[]|x::r,p=>Bb nw fw d r (p+d)++[(p,(ph nw fw x).toNat)]
def AY(nw fw:List Int)(z:Zp)(p:Int):Cf:=⟨z.1,p,Bb nw fw (-1) z.2.1 (p-1),Bb nw fw 1 z.2.2 p⟩
theorem Ca{L:List (Int×Nat)}{p:Int}{s:Nat}:Q9 (L++[(p,s)]) p=some s:=by unfold Q9;rw[List.getLast?_concat];exact Ub rfl
theorem Hk{L:List (Int×Nat)}{p:Int}{s:Nat}:Yr (L++[(p,s)]) p=L:=by unfold Yr;rw[Ca];simp
section
variable{rows:List (List D)}{n:Nat}{nw fw:List Int}
theorem bH(R:List Nat)(p:Int):(Q9 (Bb nw fw 1 R p) p).getD 0=(ph nw fw (R.headD 0)).toNat:=by
 cases R with
 |nil=>rfl|cons x r=>unfold Bb;rw[Ca];rfl
theorem gO(R:List Nat)(p:Int):Yr (Bb nw fw 1 R p) p=Bb nw fw 1 R.tail (p+1):=by
 cases R with
 |nil=>rfl|cons x r=>exact Hk
theorem pX{st s:Nat}{a b:Int}{w:Bool}(h:en rows st s=some (a,w,b)):∃y,Hh rows st s=some (.tup [.int a,.str y,.int b])/\(y==Str.ofString "r")=w:=by
 unfold en at h;unfold Hh;rw[US,US]at h;cases e:rows[st]? with
 |none=>rw[e]at h;cases h|some r=>
  rw[e]at h;have h:AX (r[s]?.getD .non)=some (a,w,b):=h;rw[U8];cases e':r[s]? with
  |none=>rw[e']at h;cases h|some d=>
   rw[e']at h;have h:AX d=some (a,w,b):=h;unfold AX at h;split at h
   ·cases h;exact⟨_,rfl,rfl⟩
   ·cases h
theorem AC(B:Bo rows n nw fw){z z':Zp}(o:OkZ n z)(h:Hi n z=some z')(p:Int):∃p',BL rows (AY nw fw z p)=some (AY nw fw z' p'):=by
 obtain⟨st,L,R⟩:=z;obtain⟨a,w,s,e,h⟩:=VT h;obtain⟨a0,a1,_,_⟩:=Sd e B.n0;have he:=B.ent _ _ _ _ _ e;have hs:0<=ph nw fw (R.headD 0):=by
  cases R with
  |nil=>exact Int.le_refl 0|cons x r=>have:=o.2.1 x UB;exact Int.le_of_lt (B.pos x this.1 this.2)
 have he:en rows st ((ph nw fw (R.headD 0)).toNat:Nat)=some (ph nw fw a,w,(s:Int)):=by rw[Rf hs];exact he
 obtain⟨y,e1,e2⟩:=pX he;have ha:=B.pos a a0 a1;have hw:Ic (Bb nw fw 1 R p) p (ph nw fw a).toNat=Bb nw fw 1 (a::R.tail) p:=by unfold Ic;rw[gO,Ud (by omega)];rfl
 have el:Hh rows (AY nw fw (st,L,R) p).st ((Q9 (AY nw fw (st,L,R) p).R (AY nw fw (st,L,R) p).pl).getD 0)=some (.tup [.int (ph nw fw a),.str y,.int s]):=by show Hh rows st ((Q9 (Bb nw fw 1 R p) p).getD 0)=_;rw[bH];exact e1
 unfold BL;rw[el,U8];have gl:gH (.tup [.int (ph nw fw a),.str y,.int s]) p (Bb nw fw (-1) L (p-1)) (Bb nw fw 1 R p)=some (if y=rS then ((s:Int).toNat,p+1,JN (Bb nw fw (-1) L (p-1)) p (Q9 (Ic (Bb nw fw 1 R p) p (ph nw fw a).toNat) p),Yr (Ic (Bb nw fw 1 R p) p (ph nw fw a).toNat) p) else ((s:Int).toNat,p-1,Yr (Bb nw fw (-1) L (p-1)) (p-1),JN (Ic (Bb nw fw 1 R p) p (ph nw fw a).toNat) (p-1) (Q9 (Bb nw fw (-1) L (p-1)) (p-1)))):=rfl;show ∃p',((gH (.tup [.int (ph nw fw a),.str y,.int s]) p (Bb nw fw (-1) L (p-1)) (Bb nw fw 1 R p)).map _)=_;rw[gl,hw,Option.map_some,US];rcases h with⟨rfl,rfl⟩|⟨x,l,rfl,hl,rfl⟩
 ·have hy:y=rS:=by have:=eq_of_beq e2;rw[this,fF];rfl
  rw[Ub hy];refine⟨p+1,TQ some ?_⟩;show(⟨s,p+1,JN _ p (Q9 (Bb nw fw 1 R.tail (p+1)++[(p,_)]) p),Yr (Bb nw fw 1 R.tail (p+1)++[(p,_)]) p⟩:Cf)=_;rw[Ca,Hk];show _=(⟨s,p+1,Bb nw fw (-1) (a::L) (p+1-1),_⟩:Cf);rw[show p+1-1=p by omega];show _=(⟨s,p+1,Bb nw fw (-1) L (p + -1)++[(p,_)],_⟩:Cf);rfl
 ·have hl:L=x::l:=hl;subst hl;have hy:y≠rS:=λz=>by rw[z]at e2;rw[fF]at e2;exact absurd e2 (by decide)
  rw[Ud hy];refine⟨p-1,TQ some ?_⟩;show(⟨s,p-1,Yr (Bb nw fw (-1) l (p-1 + -1)++[(p-1,_)]) (p-1),JN _ (p-1) (Q9 (Bb nw fw (-1) l (p-1 + -1)++[(p-1,_)]) (p-1))⟩:Cf)=_;rw[Ca,Hk];show _=(⟨s,p-1,_,Bb nw fw 1 (a::R.tail) (p-1+1)++[(p-1,_)]⟩:Cf);rw[show p-1+1=p by omega];rfl
theorem Nk(B:Bo rows n nw fw):∀(k:Nat){z z':Zp}(p:Int),OkZ n z->ED n k z=some z'->∃p',V5 rows k (AY nw fw z p)=(AY nw fw z' p',k)/\OkZ n z'
 |0,_,_,p,o,h=>by cases h;exact⟨p,rfl,o⟩
 |k+1,z,z',p,o,h=>by unfold ED at h;obtain⟨y,h1,h2⟩:=U2.mp h;obtain⟨q,e1⟩:=AC B o h1 p;obtain⟨p',e2,o'⟩:=Nk B k q (o.step B.n0 h1) h2;exact⟨p',by rw[IU e1,e2],o'⟩
end
theorem Hl:∀(A B:List Int)(p:Int),Q8 (A++B) p=Q8 A p++Q8 B (p+A.length)
 |[],B,p=>by show Q8 B p=Q8 B (p+((0:Nat):Int));rw[show p+((0:Nat):Int)=p by omega]
 |a::r,B,p=>by
  have ih:=Hl r B (p+1);rw[show p+1+(r.length:Int)=p+((a::r).length:Nat) by rw[Uz];omega]at ih;show(if a≠0 then (p,a)::Q8 (r++B) (p+1) else Q8 (r++B) (p+1))=(if a≠0 then (p,a)::Q8 r (p+1) else Q8 r (p+1))++_;rw[ih];by_cases h:a≠0
  ·rw[Ub h,Ub h];rfl
  ·rw[Ud h,Ud h]
theorem EE(d:Int):∀(A:List Int)(p:Int),Q8 A (p+d)=(Q8 A p).map λq=>(q.1+d,q.2)
 |[],_=>rfl|a::r,p=>by
  have ih:=EE d r (p+1);rw[show p+1+d=p+d+1 by omega]at ih;show(if a≠0 then (p+d,a)::Q8 r (p+d+1) else Q8 r (p+d+1))=((if a≠0 then (p,a)::Q8 r (p+1) else Q8 r (p+1))).map _;rw[ih];by_cases h:a≠0
  ·rw[Ub h,Ub h];rfl
  ·rw[Ud h,Ud h]
theorem OF(d h:Int)(M:List (Int×Int)):P4 (h+d) (M.map λq=>(q.1+d,q.2))=P4 h M:=by
 unfold P4;have:KU (h+d) (M.map λq=>(q.1+d,q.2))=KU h M:=by
  unfold KU gC;rw[List.filter_map,<-WC,U4];have e:((λp:Int×Int=>decide (p.1<h+d))∘λq:Int×Int=>(q.1+d,q.2))=λp=>decide (p.1<h):=by funext p;simp
  rw[e];refine Rj λp _=>?_;show(h+d-1 - (p.1+d),p.2)=(h-1-p.1,p.2);rw[show h+d-1 - (p.1+d)=h-1-p.1 by omega]
 rw[this]
theorem Nl(d h:Int)(M:List (Int×Int)):LF (h+d) (M.map λq=>(q.1+d,q.2))=LF h M:=by
 unfold LF;have:Xt (h+d) (M.map λq=>(q.1+d,q.2))=Xt h M:=by
  unfold Xt P3;rw[List.filter_map,U4];have e:((λp:Int×Int=>decide (h+d<=p.1))∘λq:Int×Int=>(q.1+d,q.2))=λp=>decide (h<=p.1):=by funext p;simp
  rw[e];refine Rj λp _=>?_;show(p.1+d - (h+d),p.2)=(p.1-h,p.2);rw[show p.1+d - (h+d)=p.1-h by omega]
 rw[this]
def AZ(p:Int×Nat):Int×Int:=(p.1,(p.2:Int))
section
variable{rows:List (List D)}{n:Nat}{nw fw:List Int}
theorem iO(h:∀s,s≠0->s<2*n+2->0<ph nw fw s):∀(R:List Nat)(p:Int),(∀x∈R,x≠0/\x<2*n+2)->(Bb nw fw 1 R p).reverse.map AZ=Q8 (R.map (ph nw fw)) p
 |[],_,_=>rfl|x::r,p,o=>by
  have hx:=o x UB;have h1:=h x hx.1 hx.2;show(Bb nw fw 1 r (p+1)++[(p,(ph nw fw x).toNat)]).reverse.map AZ=if ph nw fw x≠0 then (p,ph nw fw x)::Q8 (r.map (ph nw fw)) (p+1) else _
  rw[Ub (by omega),<-iO h r (p+1) λy hy=>o y (Uv _ hy),List.reverse_append];show AZ (p,(ph nw fw x).toNat)::_=_;unfold AZ;rw[Rf (Int.le_of_lt h1)];rfl
theorem iP(h:∀s,s≠0->s<2*n+2->0<ph nw fw s):∀(L:List Nat)(p:Int),(∀x∈L,x≠0/\x<2*n+2)->(Bb nw fw (-1) L (p-1)).map AZ=Q8 ((L.reverse).map (ph nw fw)) (p-L.length)
 |[],_,_=>rfl|x::r,p,o=>by have hx:=o x UB;have h1:=h x hx.1 hx.2;show(Bb nw fw (-1) r (p-1 + -1)++[(p-1,(ph nw fw x).toNat)]).map AZ=_;rw[Ts,UC,UC,show([x].map (ph nw fw))=[ph nw fw x] from rfl,BJ,Ub (by omega),Ua,U7,Uz,show p-1 + -1=p-1-1 by omega,iP h r (p-1) λy hy=>o y (Uv _ hy)];rw[show p-1 - (r.length:Int)=p - ((r.length+1:Nat):Int) by omega];show _++[AZ (p-1,(ph nw fw x).toNat)]=_;unfold AZ;rw[Rf (Int.le_of_lt h1),show p - ((r.length+1:Nat):Int)+(r.length:Int)=p-1 by omega]
theorem AD(h:∀s,s≠0->s<2*n+2->0<ph nw fw s){z:Zp}(o:OkZ n z)(p:Int):((AY nw fw z p).L++(AY nw fw z p).R.reverse).map AZ=Q8 ((z.2.1.reverse++z.2.2).map (ph nw fw)) (p-z.2.1.length):=by rw[UC];show(Bb nw fw (-1) z.2.1 (p-1)).map AZ++(Bb nw fw 1 z.2.2 p).reverse.map AZ=_;rw[iP h _ _ o.1,iO h _ _ o.2.1,UC,Hl,Ua,U7,show p - (z.2.1.length:Int)+(z.2.1.length:Int)=p by omega]
theorem gP{c:Nat}{s:Sa}(h:s.2.1=false->Xj n c s.2.2.1≠[]):(Jq n c s).1=s.1/\(Jq n c s).2.1.reverse++(Jq n c s).2.2=Xj n c s.2.2.1++Xj n c s.2.2.2/\((Jq n c s).2.1.length:Int)=(Xj n c s.2.2.1).length+C6 s.2.1:=by
 obtain⟨st,b,L,R⟩:=s;unfold Jq;dsimp only at h ⊢;cases b with
 |true=>rw[Ub rfl];simp[C6]|false=>
  rw[Ud Uf];cases e:(Xj n c L).reverse with
  |nil=>exact absurd (List.reverse_eq_nil_iff.mp e) (h rfl)|cons x r=>
   have e2:Xj n c L=r.reverse++[x]:=by rw[<-List.reverse_reverse (Xj n c L),e,Ts]
   rw[e2];refine⟨rfl,by simp,?_⟩;simp[C6];omega
end
theorem AE{n:Nat}{z z':Zp}(h:Hi n z=some z'):z'.2.1.length+z'.2.2.length<=z.2.1.length+z.2.2.length+1:=by
 obtain⟨st,L,R⟩:=z;obtain⟨a,w,s,e,h⟩:=VT h;rcases h with⟨_,rfl⟩|⟨x,l,_,hl,rfl⟩
 ·dsimp only;rw[Uz,List.length_tail];omega
 ·dsimp only at hl ⊢;rw[hl,Uz,Uz,Uz,List.length_tail];omega
theorem Nm{n:Nat}:∀(k:Nat){z z':Zp},ED n k z=some z'->z'.2.1.length+z'.2.2.length<=z.2.1.length+z.2.2.length+k
 |0,_,_,h=>by cases h;omega
 |k+1,z,z',h=>by unfold ED at h;obtain⟨y,h1,h2⟩:=U2.mp h;have:=AE h1;have:=Nm k h2;omega
def rT(nw fw:List Int):At->Tk
 |.one s=>.one (ph nw fw s)|.many far k=>.many (if far then fw else nw) k
theorem LK{nw fw:List Int}{d:Int}:∀(R:List Nat)(p:Int),(Bb nw fw d R p).length=R.length
 |[],_=>rfl|x::r,p=>by show(Bb nw fw d r (p+d)++[_]).length=_;rw[Us,LK r];rfl
section
variable{rows:List (List D)}{n:Nat}{nw fw:List Int}
theorem bI(h1:nw.length=n)(h2:fw.length=n)(far:Bool):(gM n far).map (ph nw fw)=if far then fw else nw:=by
 unfold gM;rw[U4];cases far with
 |false =>refine WA (by simp[h1]) λi h _=>?_;simp at h;simp[ph,U1];rw[Uq (by omega)];simp[h1,h]
 |true =>refine WA (by simp[h2]) λi h _=>?_;simp at h;simp only[List.getElem_map,List.getElem_range,Function.comp,RI,ph,U1];rw[Uw (by simp;omega)];simp[h1,h2,h,show i+2+n - (n+2)=i by omega]
theorem BM(B:Bo rows n nw fw)(c:Nat):∀ts:List At,Qz c (ts.map (rT nw fw))=(Xj n c ts).map (ph nw fw)
 |[]=>rfl|t::r=>by
  have ih:=BM B c r;unfold Qz Xj at ih ⊢;rw[UL,Wo,Wo,UC,ih];refine TQ (· ++ _) ?_;cases t with
  |one s=>rfl|many far k =>show(List.replicate (c+((k:Nat):Int).toNat) (if far then fw else nw)).flatten=((List.replicate (c+k) (gM n far)).flatten).map _;rw[List.map_flatten,Wf,bI B.nl B.fl,US]
theorem mF(c:Cf):bF c=BH c.st c.pl ((c.L++c.R.reverse).map AZ):=by unfold bF BH Kk;rw[U4];rfl
theorem pY{st:Int}{b:Bool}{c:Nat}{L R:List Tk}:aR st (fc b) c L R=BH st (C6 b) (Q8 (Qz c L++Qz c R) (-((Qz c L).length:Int))):=by unfold aR BH;rw[fO];cases b<;>rfl
theorem bJ{g:G}{st:Int}{a b a' b':Nat}{A B:Hb}(h1:g[a]?=some (.lst (Xi A)))(h2:g[a']?=some (.lst (Xi A)))(h3:g[b]?=some (.lst (Xi B)))(h4:g[b']?=some (.lst (Xi B))):Z8 (.tup [.int st,.ref a,.ref b]) (.tup [.int st,.ref a',.ref b']) g=.ok (.bl true) g:=by
 have key:∀C:Hb,YQ (Xz g 6) (Xi C) (Xi C)=some true:=λC=>by
  induction C with
  |nil=>rfl|cons x r ih =>show(match Xz g 6 (Jl x) (Jl x),YQ (Xz g 6) (Xi r) (Xi r) with|some a,some b=>some (a&&b)|_,_=>none)=_;rw[ih];have:Xz g 6 (Jl x) (Jl x)=some ((x.1==x.1)&&((x.2==x.2)&&true)):=rfl;rw[this];simp
 have r:∀{x y:Nat}{C:Hb},g[x]?=some (.lst (Xi C))->g[y]?=some (.lst (Xi C))->Xz g 7 (.ref x) (.ref y)=some true:=λ{x y C} hx hy=>by show(match g[x]?,g[y]? with|some (.lst xs),some (.lst ys)=>if xs.length=ys.length then YQ (Xz g 6) xs ys else some false|_,_=>none)=_;rw[hx,hy];dsimp only;rw[Ub rfl,key]
 have e:Xz g 8 (.tup [.int st,.ref a,.ref b]) (.tup [.int st,.ref a',.ref b'])=some true:=by show(match some (st==st),(match Xz g 7 (.ref a) (.ref a'),(match Xz g 7 (.ref b) (.ref b'),some true with|some a,some b=>some (a&&b)|_,_=>none) with|some a,some b=>some (a&&b)|_,_=>none) with|some a,some b=>some (a&&b)|_,_=>none)=_;rw[r h1 h2,r h3 h4];simp
 unfold Z8;rw[e]
theorem bK{N m M k:Nat}{g:G}{s:Sa}{L R:D}{b1 b2:Bool}(B:Bo rows n nw fw)(T:Tb rows N m)(hM:g[M]?=some (JM rows))(hk:k<250)(hz:ED n k (0,[],[])=some (Jq n 0 s))(hne:s.2.1=false->Xj n 0 s.2.2.1≠[])(hL:QF g L=some (b1,(s.2.2.1.map (rT nw fw)).map QS))(hR:QF g R=some (b2,(s.2.2.2.map (rT nw fw)).map QS))(ol:∀t∈s.2.2.1.map (rT nw fw),VD t)(or':∀t∈s.2.2.2.map (rT nw fw),VD t)(zl:s.2.2.1.length<=30)(zr:s.2.2.2.length<=30):
  ∃g',CM [.ref M,.int k,.tup [.int s.1,.str (fc s.2.1),L,R]] g=.ok (.bl true) g'/\Keeps [] g g':=by
 obtain⟨w,l,r,g1,e1,W1,k1,h1,h2,h3⟩:=AA (a:=Qc (Qa 0) (Qc (Qp (.tup [(.int 0),(.int 0),(.tup [])])) Ql)) (σ:=[some (.ref M),some (.int k),some (.tup [.int s.1,.str (fc s.2.1),L,R]),none]) (g0:=g) (g:=g) rfl hM;obtain⟨g2,e2,W2,k2,_⟩:=mE (k:=k) T (wW T) (show 0+0+k<800 by omega) W1;obtain⟨p,rc,oz⟩:=Nk B k (z:=(0,[],[])) 0 ⟨(λx h=>by cases h),(λx h=>by cases h),Nat.succ_pos _⟩ hz;have rc:V5 rows k c0=(AY nw fw (Jq n 0 s) p,k):=rc;rw[rc]at e2 W2;have hlen:=Nm k hz;have K2:=k2.old k1 h1 h2 h3;obtain⟨q1,q2,q3⟩:=gP (n:=n) (c:=0) hne;have lL:=LK (nw:=nw) (fw:=fw) (d:=-1) (Jq n 0 s).2.1 (p-1);have lR:=LK (nw:=nw) (fw:=fw) (d:=1) (Jq n 0 s).2.2 p;have hl0:(Jq n 0 s).2.1.length+(Jq n 0 s).2.2.length<=k:=by simpa using hlen
 have e3:=gK (c:=AY nw fw (Jq n 0 s) p) (show(Bb nw fw (-1) _ (p-1)).length+(Bb nw fw 1 _ p).length<=1000 by omega) W2;rw[mF,AD B.pos oz]at e3;have cL:=BM B 0 s.2.2.1;have cR:=BM B 0 s.2.2.2;have rl:(Xj n 0 s.2.2.1++Xj n 0 s.2.2.2).length<=k:=by rw[<-q2,Us,U7];exact hl0
 have q1':(AY nw fw (Jq n 0 s) p).st=s.1:=q1;rw[q2,q1']at e3;have mlen:∀q:Int,(Q8 ((Xj n 0 s.2.2.1++Xj n 0 s.2.2.2).map (ph nw fw)) q).length<=300:=λq=>by have:=He ((Xj n 0 s.2.2.1++Xj n 0 s.2.2.2).map (ph nw fw)) q;rw[Ua]at this;omega
 obtain⟨a,b,g3,e4,a1,a2,a3,a4,k4⟩:=Ez (st:=(s.1:Int)) (here:=p) (g:=g2) (mlen (p - (Jq n 0 s).2.1.length));obtain⟨g4,e5,k5⟩:=Na (st:=(s.1:Int)) (f:=fc s.2.1) (L:=L) (R:=R) (g:=g3) (c:=0) (by omega) (fc.lr _) (QE hL (K2.trans k4)) (QE hR (K2.trans k4)) ol or' (by rw[Ua];omega) (by rw[Ua];omega) (by omega);rw[pY,cL,cR,<-UC,Ua]at e5;obtain⟨a',b',g5,e6,a1',a2',a3',a4',k6⟩:=Ez (st:=(s.1:Int)) (here:=C6 s.2.1) (g:=g4) (mlen (-((Xj n 0 s.2.2.1).length:Int)));have sh:Q8 ((Xj n 0 s.2.2.1++Xj n 0 s.2.2.2).map (ph nw fw)) (p - (Jq n 0 s).2.1.length)=(Q8 ((Xj n 0 s.2.2.1++Xj n 0 s.2.2.2).map (ph nw fw)) (-((Xj n 0 s.2.2.1).length:Int))).map λq=>(q.1+(p-C6 s.2.1),q.2):=by rw[<-EE,q3];congr 1;omega
 rw[sh,show p=C6 s.2.1+(p-C6 s.2.1) by omega]at a3 a4;rw[show(C6 s.2.1+(p-C6 s.2.1) - C6 s.2.1)=p-C6 s.2.1 by omega,OF]at a3;rw[show(C6 s.2.1+(p-C6 s.2.1) - C6 s.2.1)=p-C6 s.2.1 by omega,Nl]at a4;have k56:=k5.trans k6;have e7:=bJ (st:=(s.1:Int)) (k56.at' _ _ (by simp) a3) a3' (k56.at' _ _ (by simp) a4) a4';refine⟨g5,Zm rfl ?_,K2.trans (k4.trans k56)⟩;show CL [some (.ref M),some (.int k),some (.tup [.int s.1,.str (fc s.2.1),L,R]),none] g=_;unfold CL;refine Qo _ g1 (QR e1) ?_;refine Qo _ g2 (Jo g2 (Zq (Qr (x:=.int k) (y:=.int k) (g1:=g2) (g2:=g2) ((VS (w:=w) rfl W1.w' (mD ..) (xs:=[.int k]) rfl).trans e2) rfl (by show Res.ok (D.bl (decide ((k:Int)<k))) g2=_;rw[Ul (Int.lt_irrefl _)]))) rfl) ?_;refine Yy (Qr (g1:=g3) (g2:=g5) ?_ ?_ e7)
 ·rw[QH (QK ((VS (w:=w) rfl W2.w' (gG ..) (xs:=[]) rfl).trans e3) rfl)];exact e4
 ·rw[QH (QK ((QH (ds:=[.tup [.int s.1,.str (fc s.2.1),L,R],.int 0]) (g':=g3) rfl).trans e5) rfl)];exact e6
end
inductive Mo where
 |step|over|draw|ends (pad s:Bool)
def Ze(n:Nat):Mo->D
 |.step=>.tup [.str "step"]|.over=>.tup [.str "over"]|.draw=>.tup [.str "draw",.str (fc true),.int n]|.ends pad s=>.tup [.str (eS pad),.str (fc s)]
def iQ(n:Nat):At->Bool
 |.one x=>decide (x<2*n+2)|.many _ k=>decide (k<=6)
def EF(n b:Nat)(s:Sa):Bool:=decide (s.1<n+2)&&(decide (s.2.2.1.length<=b)&&(decide (s.2.2.2.length<=b)&&(s.2.2.1.all (iQ n)&&s.2.2.2.all (iQ n))))
def cK(s:Sa):Option At:=if s.2.1 then s.2.2.2.head? else s.2.2.1.getLast?
def iR(s:Sa)(st:Nat)(w:Bool)(t:At):Sa:=
 let l:=if s.2.1 then s.2.2.1 else s.2.2.1.dropLast
 let r:=if s.2.1 then s.2.2.2.tail else s.2.2.2
 (st,w,if w then l++[t] else l,if w then r else t::r)
def AF(n:Nat)(s:Sa):Mo->Option Sa
 |.step=>(match cK s with
  |some (.many _ _)=>none|some (.one x)=>(AB n s.1 x).map λe=>iR s e.2.2 e.2.1 (.one e.1)
  |none=>(AB n s.1 0).map λe=>iR s e.2.2 e.2.1 (.one e.1))
 |.over=>(match cK s with
  |some (.many far k)=>if s.1=1/\s.2.1=true/\far=false then some (iR s 1 true (.many true k)) else if s.1=2/\s.2.1=false/\far=true then some (iR s 2 false (.many false k)) else none
  |_=>none)
 |.draw=>(match s.2.2.2 with
  |.many false k::r=>if r=(gM n false).map .one then some (s.1,s.2.1,s.2.2.1,[.many false (k+1)]) else none
  |_=>none)
 |.ends true sd=>some (if sd then (s.1,s.2.1,s.2.2.1,s.2.2.2++[.one 0]) else (s.1,s.2.1,.one 0::s.2.2.1,s.2.2.2))|.ends false sd=>if sd then (if s.2.2.2.getLast?=some (.one 0) then some (s.1,s.2.1,s.2.2.1,s.2.2.2.dropLast) else none) else (if s.2.2.1.head?=some (.one 0) then some (s.1,s.2.1,s.2.2.1.tail,s.2.2.2) else none)
def IV(n b:Nat)(s:Sa)(m:Mo):Option Sa:=match AF n s m with
 |some s'=>if EF n b s'=true then some s' else none
 |none=>none
def HM(n b:Nat):Sa->List Mo->Option Sa
 |s,[]=>some s|s,m::r=>(IV n b s m).bind λs'=>HM n b s' r
def Zh(n:Nat):List Mo:=[.over]++List.replicate (2*n-1) .step++[.over,.step,.draw]
def vH:Bool:=(List.range 4).all λk=>(List.range 4).all λe=>(List.range (2*k+5)).all λt=>
 EF (k+1) 10 (Jf (k+1) e t)&&decide (HM (k+1) 10 (Jf (k+1) e 0) ((Zh (k+1)).take t)=some (Jf (k+1) e t)/\HM (k+1) 10 (Jf (k+1) e t) ((Zh (k+1)).drop t++(Zh (k+1)).take t)=some (Jf (k+1) (e+1) t))
theorem mG:vH=true:=by decide +kernel
theorem Hm{n b:Nat}{s s':Sa}{m:Mo}(h:IV n b s m=some s'):AF n s m=some s'/\EF n b s'=true:=by
 unfold IV at h;cases e:AF n s m with
 |none=>rw[e]at h;cases h|some x=>
  rw[e]at h;dsimp only at h;by_cases hx:EF n b x=true
  ·rw[Ub hx]at h;cases h;exact⟨rfl,hx⟩
  ·rw[Ud hx]at h;cases h
theorem Hn{n b:Nat}{s s':Sa}{m:Mo}(h:AF n s m=some s')(h2:EF n b s'=true):IV n b s m=some s':=by unfold IV;rw[h];exact Ub h2
theorem okA_iff{n b:Nat}{s:Sa}:EF n b s=true↔s.1<n+2/\s.2.2.1.length<=b/\s.2.2.2.length<=b/\(∀t∈s.2.2.1,iQ n t=true)/\∀t∈s.2.2.2,iQ n t=true:=by unfold EF;simp
theorem EG{n b:Nat}{s:Sa}(h:EF n b s=true):EF n (b+1) s=true:=by rw[okA_iff]at h ⊢;exact⟨h.1,by omega,by omega,h.2.2.2⟩
theorem EH{n b:Nat}:∀(r:List Mo){s s':Sa},HM n b s r=some s'->HM n (b+1) s r=some s'
 |[],_,_,h=>h|m::r,s,s',h=>by unfold HM at h ⊢;obtain⟨y,h1,h2⟩:=U2.mp h;obtain⟨h3,h4⟩:=Hm h1;rw[Hn h3 (EG h4)];exact EH r h2
theorem KE{n b:Nat}:∀(r r':List Mo)(s:Sa),HM n b s (r++r')=(HM n b s r).bind λx=>HM n b x r'
 |[],_,_=>rfl|m::r,r',s=>by
  show(IV n b s m).bind _=((IV n b s m).bind _).bind _;cases IV n b s m with
  |none=>rfl|some x=>exact KE r r' x
theorem Ho{n b:Nat}:∀(r:List Mo){s s':Sa},EF n b s=true->HM n b s r=some s'->EF n b s'=true
 |[],_,_,o,h=>by cases h;exact o
 |m::r,s,s',o,h=>by unfold HM at h;obtain⟨y,h1,h2⟩:=U2.mp h;exact Ho r (Hm h1).2 h2
theorem gQ{n b:Nat}{s s':Sa}(o:EF n b s=true)(r r':List Mo)(sd:Bool)(h:HM n b s (r++r')=some s'):HM n (b+1) s (r++.ends true sd::.ends false sd::r')=some s':=by
 rw[KE]at h;obtain⟨y,h1,h2⟩:=U2.mp h;rw[KE,EH _ h1,U8];have oy:=okA_iff.mp (Ho r o h1);obtain⟨st,w,L,R⟩:=y;dsimp only at oy;have z0:iQ n (.one 0)=true:=by unfold iQ;simp
 cases sd with
 |true=>
  have e1:IV n (b+1) (st,w,L,R) (.ends true true)=some (st,w,L,R++[.one 0]):=Hn rfl (okA_iff.mpr ⟨oy.1,by dsimp only;omega,by simp;omega,oy.2.2.2.1,λt ht=>by
   rcases U6.mp ht with z|z
   ·exact oy.2.2.2.2 t z
   ·rw[Ur.mp z];exact z0⟩)
  have e2:IV n (b+1) (st,w,L,R++[.one 0]) (.ends false true)=some (st,w,L,R):=Hn (by unfold AF;simp) (EG (okA_iff.mpr oy));show(IV n (b+1) (st,w,L,R) (.ends true true)).bind (λx=>(IV n (b+1) x (.ends false true)).bind _)=_;rw[e1,U8,e2,U8];exact EH _ h2
 |false=>
  have e1:IV n (b+1) (st,w,L,R) (.ends true false)=some (st,w,.one 0::L,R):=Hn rfl (okA_iff.mpr ⟨oy.1,by simp;omega,by dsimp only;omega,λt ht=>by
   rcases UE.mp ht with z|z
   ·rw[z];exact z0
   ·exact oy.2.2.2.1 t z,oy.2.2.2.2⟩)
  have e2:IV n (b+1) (st,w,.one 0::L,R) (.ends false false)=some (st,w,L,R):=Hn (by unfold AF;simp) (EG (okA_iff.mpr oy));show(IV n (b+1) (st,w,L,R) (.ends true false)).bind (λx=>(IV n (b+1) x (.ends false false)).bind _)=_;rw[e1,U8,e2,U8];exact EH _ h2
structure Rl(rows:List (List D))(n N m:Nat)(nw fw:List Int):Prop where
 B:Bo rows n nw fw
 T:Tbl rows N m
 nN:n+2<=N
 rng:∀x,x<2*n+2->0<=ph nw fw x/\ph nw fw x<m
def YE(nw fw:List Int)(s:Sa):D:=KB s.1 s.2.1 ((s.2.2.1.map (rT nw fw)).map QS) ((s.2.2.2.map (rT nw fw)).map QS)
section
variable{rows:List (List D)}{n N m:Nat}{nw fw:List Int}
theorem Rl.wd(h:Rl rows n N m nw fw)(far:Bool):∀x∈(if far then fw else nw),0<=x/\x<m:=λx hx=>by rw[<-bI h.B.nl h.B.fl]at hx;obtain⟨s,hs,rfl⟩:=Te.mp hx;unfold gM at hs;obtain⟨i,hi,rfl⟩:=Te.mp hs;have:=UM.mp hi;exact h.rng _ (by cases far<;>simp<;>omega)
theorem Rl.tk(h:Rl rows n N m nw fw){t:At}(ht:iQ n t=true):TkK 6 m (rT nw fw t):=by
 cases t with
 |one x=>exact h.rng x (UN ht)|many far k=>
  have hk:k<=6:=UN ht;have hn:=h.B.n0;have hn4:=h.B.n4;have h1:=h.B.nl;have h2:=h.B.fl;have hl:(if far then fw else nw).length=n:=by cases far<;>simp[h1,h2]
  exact⟨λe=>by rw[e]at hl;simp at hl;omega,h.wd far,by omega,by omega,by omega⟩
theorem Rl.tks(h:Rl rows n N m nw fw){L:List At}(hL:∀t∈L,iQ n t=true):∀t∈L.map (rT nw fw),TkK 6 m t:=λt ht=>by obtain⟨x,hx,rfl⟩:=Te.mp ht;exact h.tk (hL x hx)
theorem pZ(h:Bo rows n nw fw){i:Nat}(hi:i<n):ph nw fw (i+2)=nw[i]?.getD 0/\ph nw fw (i+2+n)=fw[i]?.getD 0:=by
 have h1:=h.nl;have h2:=h.fl;constructor
 ·simp[ph,U1];rw[Uq (by omega)]
 ·simp only[ph,U1];rw[Uw (by simp;omega)];simp[h1,show i+2+n - (n+2)=i by omega]
theorem iS(s:Sa):aH s.2.1 (s.2.2.1.map (rT nw fw)) (s.2.2.2.map (rT nw fw))=(cK s).map (rT nw fw):=by obtain⟨st,b,L,R⟩:=s;cases b<;>simp[aH,cK]
theorem bL(s:Sa)(st:Nat)(w:Bool)(t:At):Os s.2.1 ((s.2.2.1.map (rT nw fw)).map QS) ((s.2.2.2.map (rT nw fw)).map QS) st w (QS (rT nw fw t))=YE nw fw (iR s st w t):=by obtain⟨st0,b,L,R⟩:=s;rw[fW];unfold YE iR tL tR;cases b<;>cases w<;>simp[List.map_dropLast]
theorem bM{f w:List Int}{j:Nat}(hf:j<=f.length):(f.take j++w.drop j)[j]?=w[j]?:=by rw[Uw (by rw[UW];omega),UW,T1 hf,Nat.sub_self,Wg,Nat.add_zero]
theorem Sf{f w:List Int}{j:Nat}(hf:j<f.length)(hw:f.length=w.length):(f.take j++w.drop j).set j (f[j]?.getD 0)=f.take (j+1)++w.drop (j+1):=by
 refine Wp λi=>?_;rw[T7];by_cases h:j=i
 ·subst h;rw[Ub rfl,Ub (by simp;omega),Uq (by simp;omega),Rt,Ub (by omega),Uk hf];rfl
 ·rw[Ud h];by_cases h2:i<j
  ·rw[Uq (by simp;omega),Uq (by simp;omega),Rt,Ub h2,Rt,Ub (by omega)]
  ·rw[Uw (by simp;omega),Uw (by simp;omega),UW,UW,T1 (by omega),T1 (by omega),Wg,Wg];congr 1;omega
theorem iT(h:Bo rows n nw fw):∀(d f j:Nat),j+d=n->0<d->d<=f->NM rows f (fw.take j++nw.drop j) j 1=some (fw,1,true)
 |0,_,_,_,h0,_=>by omega
 |d+1,0,_,_,_,hf=>by omega
 |d+1,f+1,j,hj,_,hf=>by
  have h1:=h.nl;have h2:=h.fl;obtain⟨p1,p2⟩:=pZ h (show j<n by omega);have e:=h.ent 1 (j+2) (j+2+n) true 1 (by unfold AB;rw[Ud (by omega),Ud (by omega),Ub (by omega),Ub rfl]);rw[p1,p2]at e;unfold NM;rw[US,bM (by omega)];have e:en rows 1 (nw[j]?.getD 0)=some (fw[j]?.getD 0,true,1):=e;rw[e];dsimp only;rw[Sf (by omega) (by omega)];have hl:(fw.take j++nw.drop j).length=n:=by simp;omega
  rw[hl];show(if 0<=(j:Int)+1/\(j:Int)+1<n then NM rows f _ ((j:Int)+1) 1 else _)=_;by_cases hd:d=0
  ·rw[Ud (by omega),Ti (by omega),WL (by omega),UY]
  ·rw[Ub (by omega)];exact iT h d f (j+1) (by omega) (by omega) (by omega)
theorem iU(h:Bo rows n nw fw):∀(j f:Nat),j<n->j<f->NM rows f (fw.take (j+1)++nw.drop (j+1)) j 2=some (nw,2,false)
 |_,0,_,hf=>by omega
 |j,f+1,hj,hf=>by
  have h1:=h.nl;have h2:=h.fl;obtain⟨p1,p2⟩:=pZ h hj;have e:=h.ent 2 (j+2+n) (j+2) false 2 (by unfold AB;rw[Ud (by omega),Ud (by omega),Ud (by omega),Ub (by omega),Ub rfl,show j+2+n-n=j+2 by omega]);rw[p1,p2]at e;have c1:(fw.take (j+1)++nw.drop (j+1))[j]?=fw[j]?:=by rw[Uq (by simp;omega),Rt,Ub (by omega)]
  have c2:(fw.take (j+1)++nw.drop (j+1)).set j (nw[j]?.getD 0)=fw.take j++nw.drop j:=by
   rw[<-Sf (f:=fw) (w:=nw) (j:=j) (by omega) (by omega),RE];refine Wp λi=>?_;rw[T7];by_cases hi:j=i
   ·subst hi;rw[Ub rfl,Ub (by simp;omega),bM (by omega),Uk (show j<nw.length by omega)];rfl
   ·rw[Ud hi]
  unfold NM;rw[US,c1];have e:en rows 2 (fw[j]?.getD 0)=some (nw[j]?.getD 0,false,2):=e;rw[e];dsimp only;rw[c2];have hl:(fw.take (j+1)++nw.drop (j+1)).length=n:=by simp;omega
  rw[hl];show(if 0<=(j:Int) - 1/\(j:Int) - 1<n then NM rows f _ ((j:Int) - 1) 2 else _)=_;cases j with
  |zero=>rw[Ud (by omega)];rfl|succ i =>rw[Ub (by omega),show((i+1:Nat):Int) - 1=(i:Nat) by omega];exact iU h i f (by omega) (by omega)
end
section
variable{rows:List (List D)}{n N m:Nat}{nw fw:List Int}
theorem gR{w:List Int}{k:Int}(hw:w.length<=20)(g:G):VL [.tup ((.many w k::w.map Tk.one).map QS),.str "draw",.str (fc true),.int w.length] g=.ok (.tup [QS (.many w (k+1))]) (g++[.lst (ones w)]):=by
 have hl:((Tk.many w k::w.map Tk.one).map QS).length=w.length+1:=by simp
 have hb:ZQ [.int w.length,.int (w.length+1)] g=.ok (.bl true) g:=fV (by omega) (by omega);have e1:Jz [.tup ((.many w k::w.map Tk.one).map QS),.str (fc true),.int w.length] g=.ok (.int 0) g:=by simp[Jz,KR,hb,QS,show((w.length:Int)+1-1-w.length)=0 by omega]
 have e2:=Ot (w:=w) (g:=g) (by omega);have hcut:Y9 ((Tk.many w k::w.map Tk.one).map QS) (some 1) (some (1+(w.length:Int)))=(w.map Tk.one).map QS:=by rw[show(1:Int)=((1:Nat):Int) from rfl,fU,UL,List.drop_succ_cons,List.drop_zero,Ti (by simp)]
 have hne:=aL (X:=w.map Tk.one) (w:=w) (g:=g++[.lst (ones w)]);have hO:∀w:List Int,isO (w.map Tk.one) w=true:=λw=>by
  induction w with
  |nil=>rfl|cons x r ih=>simp[isO,ih]
 rw[hO]at hne;have hc1:Y9 ((Tk.many w k::w.map Tk.one).map QS) none (some 0)=[]:=by rw[show(0:Int)=((0:Nat):Int) from rfl,aG];rfl
 have hc2:Y9 ((Tk.many w k::w.map Tk.one).map QS) (some (1+(w.length:Int))) none=[]:=by rw[show 1+(w.length:Int)=((1+w.length:Nat):Int) by omega,MY];simp;omega
 have h3:¬(1+(w.length:Int)<1):=by omega
 have a1:=FO (g:=g++[.lst (ones w)]) (xs:=[]) (ys:=[QS (.many w (k+1))]) (by simp);have a2:=FO (g:=g++[.lst (ones w)]) (xs:=[QS (.many w (k+1))]) (ys:=[]) (by simp);have r1:=Ao (w:=w) (k:=k) (g:=g++[.lst (ones w)]);simp[QS]at a1 a2 r1;have e3:Ym [.tup ((.many w k::w.map Tk.one).map QS),.int 0,.bl true] g=.ok (.tup [QS (.many w (k+1))]) (g++[.lst (ones w)]):=by
  generalize hT:(Tk.many w k::w.map Tk.one).map QS=T at hcut hc1 hc2;have hix:VF T 0=some (QS (.many w k)):=by rw[<-hT];exact rR (n:=0) rfl
  generalize (w.map Tk.one).map QS=X at hcut hne;simp[Ym,XQ,hix,QS,h3,e2,hcut,hne,hc1,hc2,a1,a2,r1]
 generalize (Tk.many w k::w.map Tk.one).map QS=T at e1 e3;simp[VL,FM,e1,e3,PV]
theorem mH{T:List Tk}(hz:T.length<=140)(s:Bool)(g:G):YL [.tup (T.map QS),.str "pad",.str (fc s)] g=.ok (.tup ((if s then T++[.one 0] else .one 0::T).map QS)) g:=by have a1:∀x,QC (.tup (T.map QS)) (.tup [x]) g=.ok (.tup (T.map QS++[x])) g:=λx=>FO (by simp;omega);have a2:∀x,QC (.tup [x]) (.tup (T.map QS)) g=.ok (.tup (x::T.map QS)) g:=λx=>FO (by simp;omega);cases s<;>simp[YL,CD,PV,a1,a2,QS]
theorem Sh{T X:List Tk}(s:Bool)(h:T=if s then X++[.one 0] else .one 0::X)(g:G):YL [.tup (T.map QS),.str "trim",.str (fc s)] g=.ok (.tup (X.map QS)) g:=by have hn:Ci (.tup [QS (.one 0)]) (.tup [.tup [.str "one",.int 0]]) g=.ok (.bl (!isO [.one 0] [0])) g:=aL (X:=[.one 0]) (w:=[0]) (g:=g);have hn:Ci (.tup [.tup [.str "one",.int 0]]) (.tup [.tup [.str "one",.int 0]]) g=.ok (.bl false) g:=hn;subst h;cases s<;>simp[YL,CD,PV,hn,QS]
end
@[simp] theorem sA{g:G}{s t:Str}:Z8 (.tup [.str s]) (.tup [.str t]) g=.ok (.bl (s==t)) g:=by simp[Z8,Xz,YQ]
@[simp] theorem sB{g:G}{s t u:Str}:Z8 (.tup [.str s,.str u]) (.tup [.str t]) g=.ok (.bl false) g:=by simp[Z8,Xz,YQ]
@[simp] theorem sC{g:G}{s t u:Str}{i:Int}:Z8 (.tup [.str s,.str u,.int i]) (.tup [.str t]) g=.ok (.bl false) g:=by simp[Z8,Xz,YQ]
section
variable{rows:List (List D)}{n N m:Nat}{nw fw:List Int}
def bN(rows:List (List D))(n:Nat)(nw fw:List Int)(s:Sa)(mv:Mo)(s':Sa):Prop:=∀g M,g[M]?=some (JM rows)->∃g',Keeps [] g g'/\ZU [.ref M,YE nw fw s,Ze n mv] g=.ok (YE nw fw s') g'
theorem gS{st:Nat}{w:Bool}{L R:List At}{x a st':Nat}{v:Bool}(h:Rl rows n N m nw fw)(ha:cK (st,w,L,R)=some (.one x)\/cK (st,w,L,R)=none/\x=0)(he:AB n st x=some (a,v,st')):IN rows st w (L.map (rT nw fw)) (R.map (rT nw fw))=some (YE nw fw (iR (st,w,L,R) st' v (.one a))):=by
 have en':=h.B.ent _ _ _ _ _ he;have hg:=bL (nw:=nw) (fw:=fw) (st,w,L,R) st' v (.one a);have ah:=iS (nw:=nw) (fw:=fw) (st,w,L,R);dsimp only at hg ah;unfold IN;rw[ah];rcases ha with ha|⟨ha,rfl⟩
 ·rw[ha];show(en rows st (ph nw fw x)).map _=_;rw[en',<-hg];rfl
 ·rw[ha];have en':en rows st 0=_:=en';show(en rows st 0).map _=_;rw[en',<-hg];rfl
theorem gT(h:Rl rows n N m nw fw){b:Nat}{s s':Sa}(hb:b<=100)(o:EF n b s=true)(hr:AF n s .step=some s'):bN rows n nw fw s .step s':=λg M hM=>by
 obtain⟨st,w,L,R⟩:=s;obtain⟨o1,o2,o3,o4,o5⟩:=okA_iff.mp o;have hN:=h.nN;dsimp only at o1 o2 o3 o4 o5;have e:=HW (st:=(st:Int)) (b:=w) hM h.T (by omega) (by omega) (h.tks o4) (h.tks o5) (by simp;omega);have key:IN rows st w (L.map (rT nw fw)) (R.map (rT nw fw))=some (YE nw fw s'):=by
  have one:∀x,(cK (st,w,L,R)=some (.one x)\/cK (st,w,L,R)=none/\x=0)->(AB n st x).map (λe=>iR (st,w,L,R) e.2.2 e.2.1 (.one e.1))=some s'->IN rows st w (L.map (rT nw fw)) (R.map (rT nw fw))=some (YE nw fw s'):=λx hx hs=>by obtain⟨⟨a,v,st'⟩,he,hs⟩:=TD.mp hs;rw[gS h hx he,<-hs]
  unfold AF at hr;dsimp only at hr;cases ha:cK (st,w,L,R) with
  |none=>rw[ha]at hr;exact one 0 (.inr ⟨ha,rfl⟩) hr|some t=>cases t with
   |one x=>rw[ha]at hr;exact one x (.inl ha) hr|many _ _=>rw[ha]at hr;cases hr
 rw[key]at e;have e:YM [.ref M,YE nw fw (st,w,L,R)] g=.ok (YE nw fw s') g:=e;refine⟨g,.refl,?_⟩;generalize YE nw fw (st,w,L,R)=A at e;simp[ZU,Je,Ze,e]
theorem gU(h:Rl rows n N m nw fw){b:Nat}{s s':Sa}(hb:b<=100)(o:EF n b s=true)(hr:AF n s .over=some s'):bN rows n nw fw s .over s':=λg M hM=>by
 obtain⟨st,w,L,R⟩:=s;obtain⟨o1,o2,o3,o4,o5⟩:=okA_iff.mp o;have hN:=h.nN;dsimp only at o1 o2 o3 o4 o5;obtain⟨g',k1,e⟩:=HY (st:=(st:Int)) (b:=w) hM h.T (by omega) (by omega) (h.tks o4) (h.tks o5) (by simp;omega);have q:PU rows st w (L.map (rT nw fw)) (R.map (rT nw fw))=some (YE nw fw s'):=by
  have ah:=iS (nw:=nw) (fw:=fw) (st,w,L,R);unfold AF at hr;dsimp only at hr ah;unfold PU;rw[ah];cases ha:cK (st,w,L,R) with
  |none=>rw[ha]at hr;cases hr|some t=>cases t with
   |one x=>rw[ha]at hr;cases hr|many far k=>
    rw[ha]at hr;dsimp only at hr;have h1:=h.B.nl;have h2:=h.B.fl;have hn:=h.B.n0;have hn4:=h.B.n4;by_cases c1:st=1/\w=true/\far=false
    ·rw[Ub c1]at hr;obtain⟨rfl,rfl,rfl⟩:=c1;have gr:=iT h.B n 1000 0 (by omega) hn (by omega);have gr:NM rows 1000 nw 0 1=some (fw,1,true):=by simpa using gr
     have hg:=bL (nw:=nw) (fw:=fw) (1,true,L,R) 1 true (.many true k);rw[Option.some.inj hr]at hg;show(fQ 1 true (NM rows 1000 nw 0 1)).map _=_;rw[gr];exact TQ some hg
    ·rw[Ud c1]at hr;by_cases c2:st=2/\w=false/\far=true
     ·rw[Ub c2]at hr;obtain⟨rfl,rfl,rfl⟩:=c2;have gr:=iU h.B (n-1) 1000 (by omega) (by omega);rw[show n-1+1=n by omega,Ti (by omega),WL (by omega),UY,show((n-1:Nat):Int)=(fw.length:Int) - 1 by omega]at gr;have hg:=bL (nw:=nw) (fw:=fw) (2,false,L,R) 2 false (.many false k);rw[Option.some.inj hr]at hg;show(fQ 2 false (NM rows 1000 fw ((fw.length:Int) - 1) 2)).map _=_;rw[gr];exact TQ some hg
     ·rw[Ud c2]at hr;cases hr
 rw[q]at e;have e:YK [.ref M,YE nw fw (st,w,L,R)] g=.ok (YE nw fw s') g':=e;refine⟨g',k1,?_⟩;generalize YE nw fw (st,w,L,R)=A at e;simp[ZU,Je,Ze,e,PV]
theorem gV(h:Rl rows n N m nw fw){s s':Sa}(hr:AF n s .draw=some s'):bN rows n nw fw s .draw s':=λg M hM=>by
 obtain⟨st,w,L,R⟩:=s;unfold AF at hr;dsimp only at hr;split at hr
 ·rename_i k r;by_cases c:r=(gM n false).map .one
  ·rw[Ub c]at hr;have hr:=Option.some.inj hr;subst hr c;have h1:=h.B.nl;have hn4:=h.B.n4;have hw:(gM n false).map (ph nw fw)=nw:=bI h.B.nl h.B.fl false;have e:=gR (w:=nw) (k:=k) (by omega) g;have hmp:(At.many false k::(gM n false).map .one).map (rT nw fw)=.many nw k::nw.map Tk.one:=by rw[UL,U4];refine TQ (Tk.many nw k :: ·) ?_;rw[<-hw,U4,hw];rfl
   refine⟨g++[.lst (ones nw)],.push _,?_⟩;unfold YE;dsimp only;rw[hmp];rw[h1]at e;generalize (Tk.many nw k::nw.map Tk.one).map QS=T at e;have er:QS (.many nw ((k:Int)+1))=QS (rT nw fw (.many false (k+1))):=rfl;rw[er]at e;simp[ZU,Je,ZX,Yn,Ze,KB,PV,e]
  ·rw[Ud c]at hr;cases hr
 ·cases hr
theorem gW(h:Rl rows n N m nw fw){b:Nat}{s s':Sa}{pad sd:Bool}(hb:b<=100)(o:EF n b s=true)(hr:AF n s (.ends pad sd)=some s'):bN rows n nw fw s (.ends pad sd) s':=λg M hM=>by
 obtain⟨st,w,L,R⟩:=s;obtain⟨o1,o2,o3,o4,o5⟩:=okA_iff.mp o;dsimp only at o2 o3;refine⟨g,.refl,?_⟩;have p0:QS (rT nw fw (.one 0))=QS (.one 0):=rfl;have put:∀X:List D,YL [.tup (((if sd then R else L).map (rT nw fw)).map QS),.str (eS pad),.str (fc sd)] g=.ok (.tup X) g->ZU [.ref M,KB st w ((L.map (rT nw fw)).map QS) ((R.map (rT nw fw)).map QS),Ze n (.ends pad sd)] g=.ok (if sd then KB st w ((L.map (rT nw fw)).map QS) X else KB st w X ((R.map (rT nw fw)).map QS)) g:=λX e=>by
  cases sd with
  |true =>have e:YL [.tup ((R.map (rT nw fw)).map QS),.str (eS pad),.str (fc true)] g=.ok (.tup X) g:=e;generalize (R.map (rT nw fw)).map QS=A at e ⊢;generalize (L.map (rT nw fw)).map QS=C;cases pad<;>simp[eS]at e<;>simp[ZU,Je,ZX,Yn,Ze,KB,PV,eS,e]|false =>have e:YL [.tup ((L.map (rT nw fw)).map QS),.str (eS pad),.str (fc false)] g=.ok (.tup X) g:=e;generalize (L.map (rT nw fw)).map QS=A at e ⊢;generalize (R.map (rT nw fw)).map QS=C;cases pad<;>simp[eS]at e<;>simp[ZU,Je,ZX,Yn,Ze,KB,PV,eS,e]
 cases pad with
 |true =>have hr:=Option.some.inj hr;have e:=mH (T:=(if sd then R else L).map (rT nw fw)) (by cases sd<;>simp<;>omega) sd g;refine(put _ e).trans ?_;subst hr;cases sd<;>simp[YE,p0]|false=>
  cases sd with
  |true=>
   have hr:(if R.getLast?=some (.one 0) then some (st,w,L,R.dropLast) else none)=some s':=hr;by_cases c:R.getLast?=some (.one 0)
   ·rw[Ub c]at hr;have hr:=Option.some.inj hr;obtain⟨X,hX⟩:∃X,R=X++[.one 0]:=List.getLast?_eq_some_iff.mp c;subst hX hr;have e:=Sh (T:=(X++[At.one 0]).map (rT nw fw)) (X:=X.map (rT nw fw)) true (by rw[UC];rfl) g;refine(put _ e).trans ?_;simp[YE]
   ·rw[Ud c]at hr;cases hr
  |false=>
   have hr:(if L.head?=some (.one 0) then some (st,w,L.tail,R) else none)=some s':=hr;by_cases c:L.head?=some (.one 0)
   ·rw[Ub c]at hr;have hr:=Option.some.inj hr;cases L with
    |nil=>cases c|cons y X =>have c:y=.one 0:=Option.some.inj c;subst c hr;have e:=Sh (T:=(At.one 0::X).map (rT nw fw)) (X:=X.map (rT nw fw)) false rfl g;refine(put _ e).trans ?_;simp[YE]
   ·rw[Ud c]at hr;cases hr
theorem iV(h:Rl rows n N m nw fw){b:Nat}{s s':Sa}{mv:Mo}(hb:b<=100)(o:EF n b s=true)(hm:IV n b s mv=some s'):bN rows n nw fw s mv s':=by
 have hr:=(Hm hm).1;cases mv with
 |step=>exact gT h hb o hr|over=>exact gU h hb o hr|draw=>exact gV h hr|ends pad sd=>exact gW h hb o hr
end
def bO(m:Nat):Tk->Bool
 |.one s=>decide (s<m)|.many w _=>w.all λx=>decide (x<m)
theorem Nn:∀w:List Int,Ed (w.map .int)=some w
 |[]=>rfl|i::r=>by show(Ed (r.map .int)).map (i :: ·)=_;rw[Nn r];rfl
theorem AG:∀{w:List Int},w≠[]->∃M,Es w=some M
 |[],h=>absurd rfl h|i::r,_=>by unfold Es;cases Es r<;>exact⟨_,rfl⟩
section
variable{rows:List (List D)}{n m K:Nat}{g:G}
theorem AH{t:Tk}(h:VD t):∃M:Int,(∀(x0 x1 x2 x3:Option D)(g:G),Qu GK (Qs Xr (Qc (Qa 4) Ql)) [x0,x1,x2,x3,some (QS t)] g=.ok (.int M) g)/\(bO m t=decide (M<m)):=by
 cases t with
 |one s=>exact⟨s,λx0 x1 x2 x3 g=>by simp[Xr,CF,QS,GK,Ed,Es],rfl⟩|many w k=>
  obtain⟨M,hM⟩:=AG h.1;obtain⟨q1,q2⟩:=GL hM;refine⟨M,λx0 x1 x2 x3 g=>by simp[Xr,CF,QS,GK,Nn,hM],?_⟩;by_cases hm:M<m
  ·rw[Uo hm];exact Uu.mpr λx hx=>Uo (by have:=q2 x hx;omega)
  ·rw[Ul hm];exact List.all_eq_false.mpr ⟨M,q1,by simpa using hm⟩
theorem bP{t:Tk}(h:VD t)(x0 x1 x3:Option D):Z6 [x0,x1,some (.int m),x3,some (QS t)] g=if bO m t=true then .nx [x0,x1,some (.int m),x3,some (QS t)] g else .raise (7,none) [x0,x1,some (.int m),x3,some (QS t)] g:=by
 obtain⟨M,e,q⟩:=AH (m:=m) h;have e':=e x0 x1 (some (.int m)) x3 g;unfold Z6;rw[q];generalize Qu GK (Qs Xr (Qc (Qa 4) Ql))=Q at e';by_cases hm:M<m
 ·have:¬((m:Int)<=M):=by omega
  simp[e',hm,this]
 ·have:(m:Int)<=M:=by omega
  simp[e',hm,this]
theorem No{xs:D}{c:Bool}{T:List Tk}(hs:QF g xs=some (c,T.map QS))(hT:∀t∈T,VD t)(x0 x1 x4:Option D):∃y,Z7 [x0,x1,some (.int m),some xs,x4] g=if T.all (bO m)=true then .nx [x0,x1,some (.int m),some xs,y] g else .raise (7,none) [x0,x1,some (.int m),some xs,y] g:=by
 obtain⟨src,s1,s2,s3⟩:=V4 hs;rw[Ua]at s2;have e0:Z7 [x0,x1,some (.int m),some xs,x4] g=JQ src (Qm 4) Z6 (src.top+1) 0 [x0,x1,some (.int m),some xs,x4] g:=Yp (by unfold QQ;rw[show Qa 3 [x0,x1,some (.int m),some xs,x4] g=.ok xs g from rfl,Res.bind_ok];exact s1);have:=Ke (src:=src) (t:=Qm 4) (body:=Z6) (n:=T.length) (λi σ g'=>g'=g/\(∃y,σ=[x0,x1,some (.int m),some xs,y])/\(T.take i).all (bO m)=true) (λo=>∃y,o=.raise (7,none) [x0,x1,some (.int m),some xs,y] g/\T.all (bO m)=false) (λi σ g' hi hQ=>by
  obtain⟨rfl,⟨y,rfl⟩,q⟩:=hQ;refine⟨QS T[i],[x0,x1,some (.int m),some xs,some (QS T[i])],by rw[s3 _ _ hs];simp[hi],rfl,?_⟩;rw[bP (hT _ (UI hi))];by_cases hb:bO m T[i]=true
  ·rw[Ub hb];exact .inl ⟨_,_,.inl rfl,rfl,⟨_,rfl⟩,by rw[Ux hi,List.all_append,q];simp[hb]⟩
  ·rw[Ud hb];exact .inr ⟨trivial,_,rfl,List.all_eq_false.mpr ⟨T[i],UI hi,hb⟩⟩) (λσ g' hQ=>by rw[hQ.1,s3 _ _ hs];simp) (src.top+1) 0 [x0,x1,some (.int m),some xs,x4] g (by omega) (by omega) ⟨rfl,⟨_,rfl⟩,rfl⟩
 rw[e0];rcases this with⟨σ',g',h1,rfl,⟨y,rfl⟩,h3⟩|⟨_,y,h1,h2⟩
 ·rw[UX]at h3;exact⟨y,by rw[h1,Ub h3]⟩
 ·exact⟨y,by rw[h1,h2];rfl⟩
theorem mJ{M:Nat}{st:Int}{b:Bool}{L R:D}{c c':Bool}{tl tr:List Tk}(hM:g[M]?=some (JM rows))(hT:Tbl rows n m)(h0:0<=st)(hL:QF g L=some (c,tl.map QS))(hR:QF g R=some (c',tr.map QS))(ol:∀t∈tl,VD t)(or':∀t∈tr,VD t)(zl:tl.length<=140)(zr:tr.length<=140):
  ∃g',Keeps [] g g'/\Zo [.ref M,.tup [.int st,.str (fc b),L,R]] g=if st<n/\tl.all (bO m)=true/\tr.all (bO m)=true then .ok .non g' else .raise (7,none) g':=by
 obtain⟨g1,e1,k1⟩:=G4 h0 (fc.lr b) hL hR ol or' zl zr;refine⟨g1,k1,?_⟩;have hM1:=k1.at' _ _ (by simp) hM;have hA:∀i σ,σ[i]?=some (some (.ref M))->QY [11,12] "table" (Qa i) σ g1=.ok (.tup (rows.map .tup)) g1:=λi σ h=>Ky h hM1;have hn:=hT.len;have hr:∃r rest,rows=r::rest:=by
  cases rows with
  |nil=>have:=hT.n0;simp at hn;omega|cons r rest=>exact⟨r,rest,rfl⟩
 obtain⟨r,rest,hr⟩:=hr;have hrm:r.length=m:=hT.row r (by rw[hr];simp);have st1:VM [.ref M] g1=.ok (.int n) g1:=by simp[VM,FN,hA,hn]
 have sg1:Kt [.ref M] g1=.ok (.int m) g1:=by rw[hr]at hA;simp[Kt,GS,hA,hrm]
 obtain⟨y1,l1⟩:=No (m:=m) (QE hL k1) ol (some (.ref M)) (some (.tup [.int st,.str (fc b),L,R])) none;obtain⟨y2,l2⟩:=No (m:=m) (QE hR k1) or' (some (.ref M)) (some (.tup [.int st,.str (fc b),L,R])) y1;have hcut:Y9 [.int st,.str (fc b),L,R] (some 2) none=[L,R]:=rfl;have hfor:YF (QQ (Q7 (Qa 1) (Zv (mI 2)) QV)) (Qm 3) Z7 [some (.ref M),some (.tup [.int st,.str (fc b),L,R]),some (.int m),none,none] g1=JQ ⟨λ_ i=>some [L,R][i]?,2⟩ (Qm 3) Z7 3 0 [some (.ref M),some (.tup [.int st,.str (fc b),L,R]),some (.int m),none,none] g1:=Yp rfl;by_cases hs:st<n
 ·have hs':¬((n:Int)<=st):=by omega
  by_cases q1:tl.all (bO m)=true
  ·by_cases q2:tr.all (bO m)=true
   ·rw[Ub q1]at l1;rw[Ub q2]at l2;rw[Ub ⟨hs,q1,q2⟩];simp[Zo,Yx,e1,st1,sg1,hs',hfor,JQ,Qm,l1,l2]
   ·rw[Ub q1]at l1;rw[Ud q2]at l2;rw[Ud λz=>q2 z.2.2];simp[Zo,Yx,e1,st1,sg1,hs',hfor,JQ,Qm,l1,l2]
  ·rw[Ud q1]at l1;rw[Ud λz=>q1 z.2.1];simp[Zo,Yx,e1,st1,sg1,hs',hfor,JQ,Qm,l1]
 ·have hs':(n:Int)<=st:=by omega
  rw[Ud λz=>hs z.1];simp[Zo,Yx,e1,st1,hs']
theorem bQ{T:List Tk}(h:∀t∈T,TkK K m t):T.all (bO m)=true:=Uu.mpr λt ht=>by
 have:=h t ht;cases t with
 |one s=>exact Uo this.2|many w k=>exact Uu.mpr λx hx=>Uo (this.2.1 x hx).2
end
section
variable{rows:List (List D)}{n N m:Nat}{nw fw:List Int}
def ShIn(nw fw:List Int)(g:G)(s:Sa)(d:D):Prop:=∃L R b b',d=.tup [.int s.1,.str (fc s.2.1),L,R]/\QF g L=some (b,(s.2.2.1.map (rT nw fw)).map QS)/\QF g R=some (b',(s.2.2.2.map (rT nw fw)).map QS)
theorem ShIn.mono{g g':G}{s:Sa}{d:D}(h:ShIn nw fw g s d)(k:Keeps [] g g'):ShIn nw fw g' s d:=by obtain⟨L,R,b,b',h1,h2,h3⟩:=h;exact⟨L,R,b,b',h1,QE h2 k,QE h3 k⟩
theorem ShIn.sh(g:G)(s:Sa):ShIn nw fw g s (YE nw fw s):=⟨_,_,false,false,rfl,rfl,rfl⟩
theorem bR(h:Rl rows n N m nw fw){b M:Nat}{g:G}{s:Sa}{d:D}(hb:b<=100)(o:EF n b s=true)(hM:g[M]?=some (JM rows))(hd:ShIn nw fw g s d):∃g1,Keeps [] g g1/\Zo [.ref M,d] g=.ok .non g1/\Jw [d] g1=.ok (YE nw fw s) g1:=by obtain⟨o1,o2,o3,o4,o5⟩:=okA_iff.mp o;obtain⟨L,R,c,c',rfl,hL,hR⟩:=hd;have hN:=h.nN;obtain⟨g1,k1,e⟩:=mJ (b:=s.2.1) hM h.T (show(0:Int)<=(s.1:Int) by omega) hL hR (λt ht=>(h.tks o4 t ht).ok (by decide)) (λt ht=>(h.tks o5 t ht).ok (by decide)) (by rw[Ua];omega) (by rw[Ua];omega);rw[Ub ⟨by omega,bQ (h.tks o4),bQ (h.tks o5)⟩]at e;have p1:=Fd (QE hL k1);have p2:=Fd (QE hR k1);exact⟨g1,k1,e,by simp[Jw,Cp,p1,p2,YE,KB]⟩
theorem bS(h:Rl rows n N m nw fw){b M:Nat}{g:G}{s s':Sa}{d:D}{mv:Mo}(hb:b<=100)(o:EF n b s=true)(hM:g[M]?=some (JM rows))(hd:ShIn nw fw g s d)(hm:IV n b s mv=some s'):∃g',Keeps [] g g'/\Gj [.ref M,d,Ze n mv] g=.ok (YE nw fw s') g':=by obtain⟨g1,k1,e1,e2⟩:=bR h hb o hM hd;obtain⟨g2,k2,e3⟩:=iV h hb o hm g1 M (k1.at' _ _ (by simp) hM);exact⟨g2,k1.trans k2,by simp[Gj,PC,e1,e2,e3]⟩
theorem bT(h:Rl rows n N m nw fw){b M:Nat}{g:G}{s s':Sa}{d y:D}{c:Bool}{ms:List Mo}(hb:b<=100)(o:EF n b s=true)(hM:g[M]?=some (JM rows))(hd:ShIn nw fw g s d)(hy:QF g y=some (c,ms.map (Ze n)))(hm:HM n b s ms=some s'):∃g',Keeps [] g g'/\XD [.ref M,d,y] g=.ok (YE nw fw s') g':=by
 obtain⟨g1,k1,e1,e2⟩:=bR h hb o hM hd;have hy1:=QE hy k1;obtain⟨src,s1,s2,s3⟩:=V4 hy1;rw[Ua]at s2;obtain⟨σ',g2,e3,k2,x,x4,hx,rfl⟩:=B7 (src:=src) (t:=Qm 4) (body:=Xs) (n:=ms.length) (σ:=[some (.ref M),some d,some y,some (YE nw fw s),none]) (g:=g1) s2
  (λi σ g'=>Keeps [] g1 g'/\∃x x4,HM n b s (ms.take i)=some x/\σ=[some (.ref M),some d,some y,some (YE nw fw x),x4]) ⟨.refl,s,none,rfl,rfl⟩ (λi σ g' hi hQ=>by
   obtain⟨k,x,x4,hx,rfl⟩:=hQ;have hs:HM n b s (ms.take i++ms.drop i)=some s':=by rw[TJ];exact hm
   rw[KE,hx,U8,Wj hi]at hs;obtain⟨z,hz,_⟩:=U2.mp hs;obtain⟨g2,k2,e⟩:=iV h hb (Ho _ o hx) hz g' M (k.at' _ _ (by simp) (k1.at' _ _ (by simp) hM));refine⟨Ze n ms[i],[some (.ref M),some d,some y,some (YE nw fw x),some (Ze n ms[i])],[some (.ref M),some d,some y,some (YE nw fw z),some (Ze n ms[i])],g2,by rw[s3 _ _ (QE hy1 k)];simp[hi],rfl,?_,k.trans k2,z,_,?_,rfl⟩
   ·unfold Xs;exact QR ((QH (ds:=[.ref M,YE nw fw x,Ze n ms[i]]) (g':=g') rfl).trans e)
   ·rw[Ux hi,KE,hx,U8];show(IV n b x ms[i]).bind _=_;rw[hz];rfl) (λσ g' hQ=>by rw[s3 _ _ (QE hy1 hQ.1)];simp)
 rw[UX,hm]at hx;cases hx;refine⟨g2,k1.trans k2,Zm rfl ?_⟩;show V2 [some (.ref M),some d,some y,none,none] g=_;unfold V2;refine Qo [some (.ref M),some d,some y,none,none] g1 (by simp[e1]) ?_;refine Qo [some (.ref M),some d,some y,some (YE nw fw s),none] g1 (QR ((QH (ds:=[d]) (g':=g1) rfl).trans e2)) ?_;refine Qo _ g2 ((Yp (src:=src) (g':=g1) (by unfold QQ;rw[show Qa 2 [some (.ref M),some d,some y,some (YE nw fw s),none] g1=.ok y g1 from rfl,Res.bind_ok];exact s1)).trans e3) rfl
end
def EI:Mo->Bool
 |.step=>true|_=>false
def mK:At->At
 |.one s=>.one s|.many f k=>.many f (k+1)
def LL(s:Sa):Sa:=(s.1,s.2.1,s.2.2.1.map mK,s.2.2.2.map mK)
section
variable{rows:List (List D)}{n N m:Nat}{nw fw:List Int}
theorem qA(g:G)(mv:Mo):Xz g 7 (Ze n mv) (.tup [.str "step"])=some (EI mv):=by
 cases mv with
 |ends pad s=>cases pad<;>simp[Ze,Xz,YQ,PV,EI,eS]|_=>simp[Ze,Xz,YQ,PV,EI]
theorem iW(g:G):∀ms:List Mo,fE g (.tup [.str "step"]) (ms.map (Ze n))=some (ms.any EI)
 |[]=>rfl|mv::r=>by show(match Xz g 7 (Ze n mv) (.tup [.str "step"]),fE g (.tup [.str "step"]) (r.map (Ze n)) with|some a,some b=>some (a||b)|_,_=>none)=_;rw[qA,iW g r];rfl
theorem iX(L:List At):(L.map (rT nw fw)).map BI=(L.map mK).map (rT nw fw):=by
 rw[U4,U4];refine Rj λt _=>?_;cases t with
 |one s=>rfl|many f k=>show Tk.many _ ((k:Int)+1)=Tk.many _ ((k+1:Nat):Int);rw[Rr];rfl
theorem gX(h:Rl rows n N m nw fw){b:Nat}{s:Sa}(hb:b<=100)(o:EF n b s=true)(g:G):Z8 (YE nw fw s) (YE nw fw s) g=.ok (.bl true) g:=by
 obtain⟨o1,o2,o3,o4,o5⟩:=okA_iff.mp o;have p1:pq 4 (.tup ((s.2.2.1.map (rT nw fw)).map QS))=true:=G6 (by simp;omega) (aK (h.tks o4));have p2:pq 4 (.tup ((s.2.2.2.map (rT nw fw)).map QS))=true:=G6 (by simp;omega) (aK (h.tks o5));have p3:pq 5 (YE nw fw s)=true:=G6 (by simp) λx hx=>by
  simp only[UE,WD,or_false]at hx;rcases hx with rfl|rfl|rfl|rfl
  ·rfl
  ·rfl
  ·exact p1
  ·exact p2
 unfold Z8;rw[show(8:Nat)=5+3 from rfl,aJ g 3 5 _ p3]
theorem Hq(h:Rl rows n N m nw fw)(T:Tb rows N m){b M k:Nat}{g:G}{s:Sa}{d y:D}{c:Bool}{ms:List Mo}(hb:b<=30)(o:EF n b s=true)(hM:g[M]?=some (JM rows))(hd:ShIn nw fw g s d)(hy:QF g y=some (c,ms.map (Ze n)))(hm:HM n b s ms=some (LL s))(hst:ms.any EI=true)(hk:k<250)(hz:ED n k (0,[],[])=some (Jq n 0 s))(hne:s.2.1=false->Xj n 0 s.2.2.1≠[]):
  ∃g',Keeps [] g g'/\Xe [.ref M,.tup [.str "grow",.int k,d,y]] g=.ok (.bl true) g':=by
 obtain⟨o1,o2,o3,o4,o5⟩:=okA_iff.mp o;obtain⟨g1,k1,e1⟩:=bT h (by omega) o hM hd hy hm;obtain⟨L,R,c1,c2,hd',hL,hR⟩:=hd;subst hd';obtain⟨g2,e2,k2⟩:=Oy (f:=fc s.2.1) (st:=(s.1:Int)) (by omega) (fc.lr _) (QE hL k1) (QE hR k1) (λt ht=>(h.tks o4 t ht).ok (by decide)) (λt ht=>(h.tks o5 t ht).ok (by decide)) (by rw[Ua];omega) (by rw[Ua];omega);have er:LG s.1 (fc s.2.1) (s.2.2.1.map (rT nw fw)) (s.2.2.2.map (rT nw fw))=YE nw fw (LL s):=by unfold LG YE LL KB;rw[iX,iX]
 rw[er]at e2;have k12:=k1.trans k2;obtain⟨g3,e3,k3⟩:=bK (g:=g2) (L:=L) (R:=R) h.B T (k12.at' _ _ (by simp) hM) hk hz hne (QE hL k12) (QE hR k12) (λt ht=>(h.tks o4 t ht).ok (by decide)) (λt ht=>(h.tks o5 t ht).ok (by decide)) (by omega) (by omega);have os':=Ho ms o hm;have eq:=gX h (by omega) os' g2;have gp:JB [.tup [.str "grow",.int k,.tup [.int s.1,.str (fc s.2.1),L,R],y]] g=.ok (.bl true) g:=by
  have w1:=Fi k g;rw[Uo (show(0:Int)<=(k:Int) by omega)]at w1;have w2:Kr y g=.ok (.bl true) g:=by unfold Kr;rw[MW hy];cases c<;>rfl
  simp[JB,KS,w1,w2]
 have ein:Ae (.tup [.str "step"]) y g1=.ok (.bl true) g1:=by unfold Ae;rw[QE hy k1];dsimp only;rw[iW,hst,Ub rfl]
 refine⟨g3,k12.trans k3,Zm rfl ?_⟩;show Kx [some (.ref M),some (.tup [.str "grow",.int k,.tup [.int s.1,.str (fc s.2.1),L,R],y]),none,none] g=_;generalize hS:D.tup [.int s.1,.str (fc s.2.1),L,R]=S at e1 e2 e3 gp ⊢;unfold Kx;refine Qo [some (.ref M),some (.tup [.str "grow",.int k,S,y]),none,none] g (by simp[gp]) ?_;refine Qo [some (.ref M),some (.tup [.str "grow",.int k,S,y]),some S,none] g (by simp) ?_;refine Qo [some (.ref M),some (.tup [.str "grow",.int k,S,y]),some S,some (YE nw fw (LL s))] g1 (by unfold dO;rw[show Qy (Qm 3) (Qs XD (Qc (Qa 0) (Qc (Qa 2) (Qc (Qd Qv (Qa 1) (mI 3)) Ql)))) [some (.ref M),some (.tup [.str "grow",.int k,S,y]),some S,none] g=.nx [some (.ref M),some (.tup [.str "grow",.int k,S,y]),some S,some (YE nw fw (LL s))] g1 from QR ((QH (ds:=[.ref M,S,y]) (g':=g) rfl).trans e1)]) ?_;refine Yy (BF (Qr (x:=.tup [.str "step"]) (y:=y) (g1:=g1) (g2:=g1) rfl rfl ein) (BF (Qr (x:=YE nw fw (LL s)) (y:=YE nw fw (LL s)) (g1:=g1) (g2:=g2) rfl ((QH (ds:=[S]) (g':=g1) rfl).trans e2) eq) ((QH (ds:=[.ref M,.int k,S]) (g':=g2) rfl).trans e3)))
end
def wr(rows:List (List D))(p q:Nat)(d:D):List (List D):=rows.set p ((rows[p]?.getD []).set q d)
structure Tw(N:Nat)(g:G)(t:Nat)(rows:List (List D))(n m:Nat):Prop where
 tab:tabOf N g t rows
 nd:∃ds,g[t]?=some (.lst ds)/\ds.Nodup
 T:Tbl rows n m
theorem Tw.mono{N t n m:Nat}{S:List Nat}{g g1:G}{rows:List (List D)}(h:Tw N g t rows n m)(k:Keeps S g g1)(hS:∀x∈S,x<N):Tw N g1 t rows n m:=by obtain⟨ds,e,nd⟩:=h.nd;exact⟨h.tab.mono k hS,⟨ds,k.at' _ _ (λz=>by have:=hS t z;have:=h.tab.1;omega) e,nd⟩,h.T⟩
theorem Tbl.wr{rows:List (List D)}{n m p q:Nat}{d:D}(h:Tbl rows n m)(hp:p<n)(hd:entOk d n m):Tbl (wr rows p q d) n m:=by
 have hp':p<rows.length:=by rw[h.len];exact hp
 have hr:rows[p]?.getD []=rows[p]:=by rw[Uk hp'];rfl
 refine⟨h.n0,h.m0,by unfold L3.wr;rw[UJ,h.len],λr hr'=>?_,λr hr' x hx=>?_⟩
 ·rcases TK hr' with z|z
  ·exact h.row r z
  ·rw[z,UJ,hr];exact h.row _ (UI hp')
 ·rcases TK hr' with z|z
  ·exact h.ent r z x hx
  ·rw[z,hr]at hx;rcases TK hx with y|y
   ·exact h.ent _ (UI hp') x y
   ·rw[y];exact hd
theorem Hr{rows:List (List D)}{n m p q:Nat}{d:D}(h:Tbl rows n m)(hp:p<n)(hq:q<m)(st s:Nat):en (wr rows p q d) st s=if st=p/\s=q then AX d else en rows st s:=by
 have hp':p<rows.length:=by rw[h.len];exact hp
 have hr:rows[p]?.getD []=rows[p]:=by rw[Uk hp'];rfl
 have hl:=h.row _ (UI hp');unfold en wr;rw[US,US,T7,hr];by_cases h1:p=st
 ·subst h1;rw[Ub rfl,Ub hp'];show AX ((((rows[p]).set q d)[s]?).getD .non)=_;rw[T7];by_cases h2:q=s
  ·subst h2;rw[Ub rfl,Ub (by omega),Ub ⟨rfl,rfl⟩];rfl
  ·rw[Ud h2,Ud (λz=>h2 z.2.symm),hr]
 ·rw[Ud h1,Ud (λz=>h1 z.1.symm)]
theorem Tw.put{N t n m p q:Nat}{g g':G}{rows:List (List D)}{d:D}{σ:S3}{o i v:ME}(h:Tw N g' t rows n m)(hp:p<n)(hq:q<m)(hd:entOk d n m)(hv:v σ g=.ok d g)(ho:∀x,Qv (.ref t) (.int p) g'=.ok (.ref x) g'->o σ g=.ok (.ref x) g')(hi:i σ g'=.ok (.int q) g'):
  ∃x,ZO o i v σ g=.nx σ (g'.set x (.lst ((rows[p]?.getD []).set q d)))/\N<=x/\Tw N (g'.set x (.lst ((rows[p]?.getD []).set q d))) t (wr rows p q d) n m:=by
 have hp':p<rows.length:=by rw[h.T.len];exact hp
 have hr:rows[p]?.getD []=rows[p]:=by rw[Uk hp'];rfl
 have hl:=h.T.row _ (UI hp');obtain⟨hN,ds,e1,e2,e3⟩:=h.tab;obtain⟨ds',e4,nd⟩:=h.nd;rw[e1]at e4;cases e4;have hpd:p<ds.length:=by omega
 obtain⟨x,q1,q2,q3,q4⟩:=e3 p ds[p] rows[p] (by simp[hpd]) (by simp[hp']);have hix:=Jp (p:=p) e1 (show ds[p]?=some (.ref x) by rw[Uk hpd,q1]);refine⟨x,?_,q2,⟨⟨hN,ds,?_,by unfold wr;rw[UJ];exact e2,λj y r hy hr'=>?_⟩,⟨ds,?_,nd⟩,h.T.wr hp hd⟩⟩
 ·unfold ZO;rw[hv];dsimp only;rw[ho x hix];dsimp only;rw[hi];dsimp only;rw[q4];dsimp only;unfold Gf;rw[Ub (by omega),Ub (by omega),hr];rfl
 ·rw[Uh q3];exact e1
 ·unfold wr at hr';rw[hr,T7]at hr';rw[hr];by_cases hj:p=j
  ·subst hj;rw[Ub rfl,Ub hp']at hr';cases hr';rw[Uk hpd,q1]at hy;cases hy;exact⟨x,rfl,q2,q3,Zb q4⟩
  ·rw[Ud hj]at hr';obtain⟨y',w1,w2,w3,w4⟩:=e3 j y r hy hr';refine⟨y',w1,w2,w3,?_⟩;have hne:x≠y':=λz=>by
    subst z;have hjl:=(Uj.mp hy).1;have h2:ds[j]=ds[p]:=by rw[Uk hjl]at hy;rw[Option.some.inj hy,w1,q1]
    rcases Nat.lt_or_gt_of_ne hj with z|z
    ·exact Wk.mp nd p j hpd hjl z h2.symm
    ·exact Wk.mp nd j p hjl hpd z h2
   rw[Uh hne];exact w4
 ·rw[Uh q3];exact e1
structure KpN(N:Nat)(g g':G):Prop where
 len:g.length<=g'.length
 at':∀b o,b<N->g[b]?=some o->g'[b]?=some o
theorem KpN.refl{N:Nat}{g:G}:KpN N g g:=⟨Ui _,λ_ _ _ h=>h⟩
theorem KpN.trans{N:Nat}{a b c:G}(h:KpN N a b)(h':KpN N b c):KpN N a c:=⟨Um h.len h'.len,λx o hx e=>h'.at' x o hx (h.at' x o hx e)⟩
theorem KpN.set{N x:Nat}{g:G}{o:GO}(h:N<=x):KpN N g (g.set x o):=⟨by rw[UJ];exact Ui _,λb o' hb e=>by rw[Uh (by omega)];exact e⟩
theorem KpN.of{N:Nat}{g g':G}(k:Keeps [] g g'):KpN N g g':=⟨k.len,λb o _ e=>k.at' b o (by simp) e⟩
theorem Si{a b:Int}:AX (.tup [.int a,.str "r",.int b])=some (a,true,b):=by show some (a,(Str.ofString "r"==Str.ofString "r"),b)=_;rw[Y3]
theorem iY{a b:Int}:AX (.tup [.int a,.str "l",.int b])=some (a,false,b):=by show some (a,(Str.ofString "l"==Str.ofString "r"),b)=_;rw[wA]
theorem Sj{a b:Int}{n m:Nat}(h1:0<=a)(h2:a<m)(h3:0<=b)(h4:b<n):entOk (.tup [.int a,.str "r",.int b]) n m:=.inr ⟨a,b,_,rfl,h1,h2,h3,h4,.inr fF⟩
theorem bU{a b:Int}{n m:Nat}(h1:0<=a)(h2:a<m)(h3:0<=b)(h4:b<n):entOk (.tup [.int a,.str "l",.int b]) n m:=.inr ⟨a,b,_,rfl,h1,h2,h3,h4,.inl mW⟩
structure Ft(rows:List (List D))(fo i:Nat):Prop where
 a:en rows (0:Nat) (0:Nat)=some (1,true,1)
 b:en rows (2:Nat) (1:Nat)=some (1,true,1)
 c:∀j,j<i->en rows (1:Nat) (2+j:Nat)=some (((fo+j:Nat):Int),true,1)/\en rows (2:Nat) (2+j:Nat)=some (((2+j:Nat):Int),false,2)/\en rows (2:Nat) (fo+j:Nat)=some (((2+j:Nat):Int),false,2)
theorem Tw.puts{N t n m p q:Nat}{g g':G}{rows:List (List D)}{d:D}{σ:S3}{o i v:ME}(h:Tw N g' t rows n m)(hp:p<n)(hq:q<m)(hd:entOk d n m)(hv:v σ g=.ok d g)(ho:∀x,Qv (.ref t) (.int p) g'=.ok (.ref x) g'->o σ g=.ok (.ref x) g')(hi:i σ g'=.ok (.int q) g'):
  ∃g2,ZO o i v σ g=.nx σ g2/\KpN N g' g2/\Tw N g2 t (wr rows p q d) n m:=by
 obtain⟨x,e,hx,W⟩:=h.put hp hq hd hv ho hi;exact⟨_,e,.set hx,W⟩
section
variable{N t n m l fo wl:Nat}{x0 x1 x2 x6 x8 x11 x12 x13:Option D}
theorem qB{rows:List (List D)}{g:G}{i:Nat}(W:Tw N g t rows n m)(F:Ft rows fo i)(hi:i<l)(hl:l<=3)(hfo:fo=2\/fo=2+l)(hm:fo+l<=m)(hn:3<=n)(nn:Nat):
  ∃rows' g',Y0 [x0,x1,x2,some (.int nn),some (.int l),some (.int fo),x6,some (.ref wl),x8,some (.ref t),some (.int i),x11,x12,x13] g=.nx [x0,x1,x2,some (.int nn),some (.int l),some (.int fo),x6,some (.ref wl),x8,some (.ref t),some (.int i),x11,x12,x13] g'/\KpN N g g'/\Tw N g' t rows' n m/\Ft rows' fo (i+1):=by
 generalize hσ:[x0,x1,x2,some (.int nn),some (.int l),some (.int fo),x6,some (.ref wl),x8,some (.ref t),some (.int i),x11,x12,x13]=σ;have v9:Qa 9 σ=λg=>.ok (.ref t) g:=by rw[<-hσ];rfl
 have v10:Qa 10 σ=λg=>.ok (.int i) g:=by rw[<-hσ];rfl
 have v5:Qa 5 σ=λg=>.ok (.int fo) g:=by rw[<-hσ];rfl
 have ix:∀(k:Int)(g:G) x,Qv (.ref t) (.int k) g=.ok (.ref x) g->Qd Qv (Qa 9) (Qp (.int k)) σ g=.ok (.ref x) g:=λk g x hx=>Qr (by rw[v9]) rfl hx;have i2:∀g,Qd QC (mI 2) (Qa 10) σ g=.ok (.int (2+i:Nat)) g:=λg=>Qr (x:=.int 2) (y:=.int i) rfl (by rw[v10]) rfl;have i5:∀g,Qd QC (Qa 5) (Qa 10) σ g=.ok (.int (fo+i:Nat)) g:=λg=>Qr (x:=.int fo) (y:=.int i) (by rw[v5]) (by rw[v10]) rfl;obtain⟨g1,e1,k1,W1⟩:=W.puts (p:=1) (q:=2+i) (g:=g) (d:=.tup [.int (fo+i:Nat),.str "r",.int 1]) (σ:=σ)
  (o:=Qd Qv (Qa 9) (mI 1)) (i:=Qd QC (mI 2) (Qa 10)) (v:=QA QO (Qc (Qd QC (Qa 5) (Qa 10)) (Qc (Qp (.str "r")) (Qc (mI 1) Ql))))
  (by omega) (by omega) (Sj (by omega) (by omega) (by omega) (by omega)) (Kz (QK (i5 g) rfl) rfl) (λx hx=>ix 1 g x hx) (i2 g)
 obtain⟨g2,e2,k2,W2⟩:=W1.puts (p:=2) (q:=2+i) (g:=g1) (d:=.tup [.int (2+i:Nat),.str "l",.int 2]) (σ:=σ)
  (o:=Qd Qv (Qa 9) (mI 2)) (i:=Qd QC (mI 2) (Qa 10)) (v:=QA QO (Qc (Qd QC (mI 2) (Qa 10)) (Qc (Qp (.str "l")) (Qc (mI 2) Ql))))
  (by omega) (by omega) (bU (by omega) (by omega) (by omega) (by omega)) (Kz (QK (i2 g1) rfl) rfl) (λx hx=>ix 2 g1 x hx) (i2 g1)
 obtain⟨g3,e3,k3,W3⟩:=W2.puts (p:=2) (q:=fo+i) (g:=g2) (d:=.tup [.int (2+i:Nat),.str "l",.int 2]) (σ:=σ)
  (o:=Qd Qv (Qa 9) (mI 2)) (i:=Qd QC (Qa 5) (Qa 10)) (v:=QA QO (Qc (Qd QC (mI 2) (Qa 10)) (Qc (Qp (.str "l")) (Qc (mI 2) Ql))))
  (by omega) (by omega) (bU (by omega) (by omega) (by omega) (by omega)) (Kz (QK (i2 g2) rfl) rfl) (λx hx=>ix 2 g2 x hx) (i5 g2)
 have en3:∀st s:Nat,en (wr (wr (wr rows 1 (2+i) (.tup [.int (fo+i:Nat),.str "r",.int 1])) 2 (2+i) (.tup [.int (2+i:Nat),.str "l",.int 2])) 2 (fo+i) (.tup [.int (2+i:Nat),.str "l",.int 2])) st s=if st=2/\s=fo+i then some (((2+i:Nat):Int),false,2) else if st=2/\s=2+i then some (((2+i:Nat):Int),false,2) else if st=1/\s=2+i then some (((fo+i:Nat):Int),true,1) else en rows st s:=λst s=>by rw[Hr W2.T (by omega) (by omega),Hr W1.T (by omega) (by omega),Hr W.T (by omega) (by omega),iY,Si]
 refine⟨_,g3,?_,k1.trans (k2.trans k3),W3,⟨?_,?_,λj hj=>?_⟩⟩
 ·unfold Y0;exact Qo σ g1 e1 (Qo σ g2 e2 e3)
 ·rw[en3,Ud (by omega),Ud (by omega),Ud (by omega)];exact F.a
 ·rw[en3,Ud (by omega),Ud (by omega),Ud (by omega)];exact F.b
 ·by_cases h:j=i
  ·subst h;refine⟨?_,?_,?_⟩
   ·rw[en3,Ud (by omega),Ud (by omega),Ub ⟨rfl,rfl⟩]
   ·rw[en3];by_cases z:2+j=fo+j
    ·rw[Ub ⟨rfl,z⟩]
    ·rw[Ud (by omega),Ub ⟨rfl,rfl⟩]
   ·rw[en3,Ub ⟨rfl,rfl⟩]
  ·obtain⟨f1,f2,f3⟩:=F.c j (by omega);refine⟨?_,?_,?_⟩
   ·rw[en3,Ud (by omega),Ud (by omega),Ud (by omega)];exact f1
   ·rw[en3,Ud (by omega),Ud (by omega),Ud (by omega)];exact f2
   ·rw[en3,Ud (by omega),Ud (by omega),Ud (by omega)];exact f3
end
def Ch(rows:List (List D))(w:List Int)(nn i:Nat):Prop:=∀k,k<i->en rows (if k=0 then 1 else 2+k:Nat) (0:Nat)=some (2+w[k]?.getD 0,decide (k+1<nn),((if k+1<nn then 3+k else 2:Nat):Int))
section
variable{N t n m l fo wl:Nat}{x0 x1 x2 x6 x8 x11 x12 x13:Option D}
theorem qC{rows:List (List D)}{g:G}{i nn:Nat}{w:List Int}(W:Tw N g t rows n m)(F:Ft rows fo l)(C:Ch rows w nn i)(hw:g[wl]?=some (.lst (w.map .int)))(hwl:wl<N)(hwn:w.length=nn)(hr:∀x∈w,0<=x/\x+2<m)(hi:i<nn)(hfo:2<=fo)(hn:nn+2<=n)(n0:0<nn)(hm:2<=m):
  ∃rows' g' y11,Y1 [x0,x1,x2,some (.int nn),some (.int l),some (.int fo),x6,some (.ref wl),x8,some (.ref t),some (.int i),x11,x12,x13] g=.nx [x0,x1,x2,some (.int nn),some (.int l),some (.int fo),x6,some (.ref wl),x8,some (.ref t),some (.int i),y11,x12,x13] g'/\KpN N g g'/\Tw N g' t rows' n m/\Ft rows' fo l/\Ch rows' w nn (i+1):=by
 have hwi:(w.map D.int)[i]?=some (.int (w[i]?.getD 0)):=by rw[Uy,Uk (show i<w.length by omega)];rfl
 have hx:=hr (w[i]?.getD 0) (by rw[Uk (show i<w.length by omega)];exact UI _);generalize hwv:w[i]?.getD 0=v at hwi hx;have e7:∀y11,Qd QC (mI 2) (Qd Qv (Qa 7) (Qa 10)) [x0,x1,x2,some (.int nn),some (.int l),some (.int fo),x6,some (.ref wl),x8,some (.ref t),some (.int i),y11,x12,x13] g=.ok (.int (2+v)) g:=λy11=>Qr (x:=.int 2) (y:=.int v) rfl (Qr (x:=.ref wl) (y:=.int i) (g1:=g) (g2:=g) rfl rfl (Jp hw hwi)) rfl;have ed:∃d,AX d=some (2+v,decide (i+1<nn),((if i+1<nn then 3+i else 2:Nat):Int))/\entOk d n m/\∀(b:MS)(R:Out),b [x0,x1,x2,some (.int nn),some (.int l),some (.int fo),x6,some (.ref wl),x8,some (.ref t),some (.int i),some d,x12,x13] g=R->Qq (Qy (Qm 11) (QA QO (Qc (Qd QC (mI 2) (Qd Qv (Qa 7) (Qa 10))) (Qc (Qp (.str "r")) (Qc (Qd QC (mI 3) (Qa 10)) Ql))))) (Qq (Ye (Qn (Qd Z8 (Qd QC (Qa 10) (mI 1)) (Qa 3))) (Qy (Qm 11) (QA QO (Qc (Qd QC (mI 2) (Qd Qv (Qa 7) (Qa 10))) (Qc (Qp (.str "l")) (Qc (mI 2) Ql))))) QI) b) [x0,x1,x2,some (.int nn),some (.int l),some (.int fo),x6,some (.ref wl),x8,some (.ref t),some (.int i),x11,x12,x13] g=R:=by
  have a1:Qy (Qm 11) (QA QO (Qc (Qd QC (mI 2) (Qd Qv (Qa 7) (Qa 10))) (Qc (Qp (.str "r")) (Qc (Qd QC (mI 3) (Qa 10)) Ql)))) [x0,x1,x2,some (.int nn),some (.int l),some (.int fo),x6,some (.ref wl),x8,some (.ref t),some (.int i),x11,x12,x13] g=.nx [x0,x1,x2,some (.int nn),some (.int l),some (.int fo),x6,some (.ref wl),x8,some (.ref t),some (.int i),some (.tup [.int (2+v),.str "r",.int (3+i)]),x12,x13] g:=QR (Kz (QK (e7 _) rfl) rfl);have t1:Qn (Qd Z8 (Qd QC (Qa 10) (mI 1)) (Qa 3)) [x0,x1,x2,some (.int nn),some (.int l),some (.int fo),x6,some (.ref wl),x8,some (.ref t),some (.int i),some (.tup [.int (2+v),.str "r",.int (3+i)]),x12,x13] g=.ok ((i:Int)+1==nn) g:=rfl;by_cases h:i+1<nn
  ·refine⟨.tup [.int (2+v),.str "r",.int (3+i)],?_,Sj (by omega) (by omega) (by omega) (by omega),λb R hb=>?_⟩
   ·rw[Si,Uo h,Ub h];rfl
   ·refine Qo _ g a1 (Qo _ g (Jo g (t1.trans ?_) rfl) hb);rw[RS (by omega)]
  ·refine⟨.tup [.int (2+v),.str "l",.int 2],?_,bU (by omega) (by omega) (by omega) (by omega),λb R hb=>?_⟩
   ·rw[iY,Ul h,Ud h];rfl
   ·refine Qo _ g a1 (Qo _ g (Ma g (t1.trans ?_) (QR (Kz (QK (e7 _) rfl) rfl))) hb);rw[show((i:Int)+1==nn)=true from Tr.mpr (by omega)]
 obtain⟨d,d1,d2,d3⟩:=ed;have kp:Keeps [] g (g++[.lst [.int 1,.int (2+i)]]):=.push _;have gl:(g++[GO.lst [.int 1,.int (2+i)]])[g.length]?=some (.lst [.int 1,.int (2+i)]):=Qw _;have eL:QA JS (Qc (mI 1) (Qc (Qd QC (mI 2) (Qa 10)) Ql)) [x0,x1,x2,some (.int nn),some (.int l),some (.int fo),x6,some (.ref wl),x8,some (.ref t),some (.int i),some d,x12,x13] g=.ok (.ref g.length) (g++[.lst [.int 1,.int (2+i)]]):=rfl;generalize g++[GO.lst [.int 1,.int (2+i)]]=g1 at kp gl eL;have W1:=W.mono kp (by simp);have hp:∃p:Nat,p=(if i=0 then 1 else 2+i):=⟨_,rfl⟩;obtain⟨p,hp⟩:=hp;have ei:Qd Qv (QA JS (Qc (mI 1) (Qc (Qd QC (mI 2) (Qa 10)) Ql))) (Qu Ll (Qd Lj (Qa 10) (mI 0))) [x0,x1,x2,some (.int nn),some (.int l),some (.int fo),x6,some (.ref wl),x8,some (.ref t),some (.int i),some d,x12,x13] g=.ok (.int p) g1:=by
  refine Qr (x:=.ref g.length) (y:=.int (oI (decide ((0:Int)<i)))) (g1:=g1) (g2:=g1) eL rfl ?_;by_cases h:i=0
  ·rw[Ul (by omega)];rw[hp,Ub h];exact Jp (p:=0) gl rfl
  ·rw[Uo (by omega)];rw[hp,Ud h];exact Jp (p:=1) gl rfl
 have pn':p<n:=by rw[hp];split<;>omega
 obtain⟨g2,e2,k2,W2⟩:=W1.puts (p:=p) (q:=0) (g:=g) (d:=d) (σ:=[x0,x1,x2,some (.int nn),some (.int l),some (.int fo),x6,some (.ref wl),x8,some (.ref t),some (.int i),some d,x12,x13])
  (o:=Qd Qv (Qa 9) (Qd Qv (QA JS (Qc (mI 1) (Qc (Qd QC (mI 2) (Qa 10)) Ql))) (Qu Ll (Qd Lj (Qa 10) (mI 0))))) (i:=Qp (.int 0)) (v:=Qa 11)
  pn' (by omega) d2 rfl (λx hx=>Qr (x:=.ref t) (g1:=g) rfl ei hx) rfl
 have en1:∀st s:Nat,en (wr rows p 0 d) st s=if st=p/\s=0 then some (2+v,decide (i+1<nn),((if i+1<nn then 3+i else 2:Nat):Int)) else en rows st s:=λst s=>by rw[Hr W.T pn' (by omega),d1]
 have hp1:p≠0/\p≠2:=by rw[hp];split<;>omega
 refine⟨_,g2,some d,?_,(KpN.of kp).trans k2,W2,⟨?_,?_,λj hj=>?_⟩,λk hk=>?_⟩
 ·unfold Y1;exact d3 _ _ e2
 ·rw[en1,Ud (by omega)];exact F.a
 ·rw[en1,Ud (by omega)];exact F.b
 ·obtain⟨f1,f2,f3⟩:=F.c j hj;exact⟨by rw[en1,Ud (by omega)];exact f1,by rw[en1,Ud (by omega)];exact f2,by rw[en1,Ud (by omega)];exact f3⟩
 ·rw[en1];by_cases h:k=i
  ·subst h;rw[Ub ⟨hp.symm,rfl⟩,hwv]
  ·rw[Ud (λz=>by rw[hp]at z;have:=z.1;split at this<;>split at this<;>omega)];exact C k (by omega)
end
theorem qD{nw fw:List Int}{n i:Nat}(h1:nw.length=n)(hi:i<n):ph nw fw (i+2)=nw[i]?.getD 0/\ph nw fw (i+2+n)=fw[i]?.getD 0:=by
 constructor
 ·simp[ph,U1];rw[Uq (by omega)]
 ·simp only[ph,U1];rw[Uw (by simp;omega)];simp[h1,show i+2+n - (n+2)=i by omega]
theorem qE{rows:List (List D)}{n N m l fo:Nat}{w:List Int}(T:Tbl rows N m)(F:Ft rows fo l)(C:Ch rows w n n)(n0:0<n)(n4:n<=4)(hw:w.length=n)(hr:∀x∈w,0<=x/\x<l)(hfo:fo=2\/fo=2+l)(hm:fo+l<=m)(hN:n+2<=N):Rl rows n N m (w.map (2 + ·)) (w.map ((fo:Int) + ·)):=by
 have pa:∀i,i<n->ph (w.map (2 + ·)) (w.map ((fo:Int) + ·)) (i+2)=2+w[i]?.getD 0/\ph (w.map (2 + ·)) (w.map ((fo:Int) + ·)) (i+2+n)=fo+w[i]?.getD 0/\0<=w[i]?.getD 0/\w[i]?.getD 0<l:=λi hi=>by
  obtain⟨p1,p2⟩:=qD (nw:=w.map (2 + ·)) (fw:=w.map ((fo:Int) + ·)) (n:=n) (i:=i) (by rw[Ua,hw]) hi;have hi':i<w.length:=by omega
  have:=hr w[i] (UI hi');rw[p1,p2,Uy,Uy,Uk hi'];exact⟨rfl,rfl,this⟩
 generalize hnw:w.map (2 + ·)=nw at pa ⊢;generalize hfw:w.map ((fo:Int) + ·)=fw at pa ⊢;have p0:ph nw fw 0=0:=rfl;have p1:ph nw fw 1=1:=rfl;have sp:∀s,2<=s->s<2*n+2->∃i,i<n/\(s=i+2\/s=i+2+n):=λs h1 h2=>by
  by_cases h:s<n+2
  ·exact⟨s-2,by omega,.inl (by omega)⟩
  ·exact⟨s-2-n,by omega,.inr (by omega)⟩
 have rng:∀x,x<2*n+2->(0<=ph nw fw x/\ph nw fw x<m)/\(x≠0->0<ph nw fw x):=λx hx=>by
  by_cases h0:x=0
  ·subst h0;rw[p0];exact⟨by omega,λz=>absurd rfl z⟩
  ·by_cases h1:x=1
   ·subst h1;rw[p1];exact⟨by omega,λ_=>by omega⟩
   ·obtain⟨i,hi,e⟩:=sp x (by omega) hx;obtain⟨q1,q2,q3,q4⟩:=pa i hi;rcases e with rfl|rfl
    ·rw[q1];exact⟨by omega,λ_=>by omega⟩
    ·rw[q2];exact⟨by omega,λ_=>by omega⟩
 refine⟨⟨n0,n4,by rw[<-hnw,Ua,hw],by rw[<-hfw,Ua,hw],λs h1 h2=>(rng s h2).2 h1,λst s a v st' h=>?_⟩,T,hN,λx hx=>(rng x hx).1⟩;unfold AB at h;split at h
 ·rename_i hs;subst hs;rw[p0];split at h
  ·rename_i hst;subst hst;cases h;exact F.a
  ·split at h
   ·rename_i hst;subst hst;cases h;have c:=C 0 n0;rw[Ub rfl]at c;rw[(pa 0 n0).1];refine c.trans ?_;rw[Nat.zero_add]
   ·split at h
    ·rename_i hst;cases h;have c:=C (st-2) (by omega);rw[Ud (by omega),show 2+(st-2)=st by omega,show st-2+1=st-1 by omega]at c;have q:=(pa (st-2) (by omega)).1;rw[show st-2+2=st by omega]at q;rw[q];refine c.trans ?_;by_cases z:st<n+1
     ·rw[Uo z,Ub z,Uo (show st-1<n by omega),Ub (by omega),show 3+(st-2)=st+1 by omega]
     ·rw[Ul z,Ud z,Ul (show ¬st-1<n by omega),Ud (by omega)]
    ·cases h
 ·split at h
  ·rename_i hs;subst hs;rw[p1];split at h
   ·rename_i hst;subst hst;cases h;exact F.b
   ·cases h
  ·split at h
   ·obtain⟨q1,q2,q3,q4⟩:=pa (s-2) (by omega);rw[show s-2+2=s by omega]at q1 q2;obtain⟨f1,f2,_⟩:=F.c (w[s-2]?.getD 0).toNat (by omega);have ez:((2+(w[s-2]?.getD 0).toNat:Nat):Int)=2+w[s-2]?.getD 0:=by omega
    have ey:((fo+(w[s-2]?.getD 0).toNat:Nat):Int)=fo+w[s-2]?.getD 0:=by omega
    rw[ez]at f1 f2;rw[ey]at f1;rw[q1];split at h
    ·rename_i hst;subst hst;cases h;rw[q2];exact f1
    ·split at h
     ·rename_i hst;subst hst;cases h;rw[q1];exact f2
     ·cases h
   ·split at h
    ·obtain⟨q1,q2,q3,q4⟩:=pa (s-2-n) (by omega);rw[show s-2-n+2+n=s by omega]at q2;rw[show s-2-n+2=s-n by omega]at q1;obtain⟨_,_,f3⟩:=F.c (w[s-2-n]?.getD 0).toNat (by omega);have ez:((2+(w[s-2-n]?.getD 0).toNat:Nat):Int)=2+w[s-2-n]?.getD 0:=by omega
     have ey:((fo+(w[s-2-n]?.getD 0).toNat:Nat):Int)=fo+w[s-2-n]?.getD 0:=by omega
     rw[ez,ey]at f3;rw[q2];split at h
     ·rename_i hst;subst hst;cases h;rw[q1];exact f3
     ·cases h
    ·cases h
theorem Np{it e:ME}{cap:List Nat}{σ σc:S3}{g:G}{c:Nat}(F:Nat->D)(hit:it σ g=.ok (.int c) g)(hc:c<=1000)(hcap:Ec 1 cap σ=none::σc)(he:∀i,i<c->e (some (.int i)::σc) g=.ok (F i) g):ZK (QJ it) 1 cap (Qm 0) ZV e σ g=.ok (.ref g.length) (g++[.lst ((List.range c).map F)]):=by
 obtain⟨xs,σ',g3,c1,c2,c3,_⟩:=YT (src:=Zu 0 c) (t:=Qm 0) (c:=ZV) (e:=e) (n:=c)
  (λi σ' g4 acc=>acc=(List.range i).map F/\g4=g/\∃u,σ'=u::σc) (λi σ' g4 acc hi hQ=>by obtain⟨q1,q2,u,q3⟩:=hQ;subst q2 q3;refine⟨.int (0+i),some (.int (0+i))::σc,g4,by simp[Zu,hi],rfl,.inl ⟨F i,g4,rfl,by rw[TF];exact he i hi,by rw[q1,WQ,UC];rfl,rfl,_,rfl⟩⟩) (λσ g4 acc _=>by simp[Zu]) (c+1) 0 (none::σc) g [] (by omega) (by omega) ⟨rfl,rfl,none,rfl⟩
 subst c2 c3;exact JD (n:=1) (cap:=cap) (σ0:=none::σc) (ZR (n:=c) hit (Xh hc)) (UO (Vw hc)) hcap c1
theorem qF(n:Nat)(hn:0<n):[Ze n .over]++(List.range (2*n-1)).map (λ_=>Ze n .step)++[Ze n .over,Ze n .step,Ze n .draw]=(Zh n).map (Ze n):=by unfold Zh;rw[UC,UC,Wf,List.map_const',Wq];rfl
theorem wX{g:G}{t N n m l fo wl nn:Nat}{x0 x1 x2 x6 x8 x10 x11 x12 x13:Option D}{rows:List (List D)}(W:Tw N g t rows n m)(F:Ft rows fo 0)(hl:l<=3)(hfo:fo=2\/fo=2+l)(hm:fo+l<=m)(hn:3<=n):
  ∃rows' g' y10,YF (QJ (Qa 4)) (Qm 10) Y0 [x0,x1,x2,some (.int nn),some (.int l),some (.int fo),x6,some (.ref wl),x8,some (.ref t),x10,x11,x12,x13] g=.nx [x0,x1,x2,some (.int nn),some (.int l),some (.int fo),x6,some (.ref wl),x8,some (.ref t),y10,x11,x12,x13] g'/\KpN N g g'/\Tw N g' t rows' n m/\Ft rows' fo l:=by
 obtain⟨σ',g',e,rows',y10,rfl,k,W',F'⟩:=Yi (t:=Qm 10) (body:=Y0) (lo:=0) (n:=l) (σ:=[x0,x1,x2,some (.int nn),some (.int l),some (.int fo),x6,some (.ref wl),x8,some (.ref t),x10,x11,x12,x13]) (g:=g)
  (λi σ g'=>∃rows' y10,σ=[x0,x1,x2,some (.int nn),some (.int l),some (.int fo),x6,some (.ref wl),x8,some (.ref t),y10,x11,x12,x13]/\KpN N g g'/\Tw N g' t rows' n m/\Ft rows' fo i) ⟨rows,x10,rfl,.refl,W,F⟩ (λi σ g1 hi hQ=>by obtain⟨rows1,y,rfl,k1,W1,F1⟩:=hQ;obtain⟨rows2,g2,e2,k2,W2,F2⟩:=qB (x0:=x0) (x1:=x1) (x2:=x2) (x6:=x6) (x8:=x8) (x11:=x11) (x12:=x12) (x13:=x13) (wl:=wl) W1 F1 hi hl hfo hm hn nn;refine⟨[x0,x1,x2,some (.int nn),some (.int l),some (.int fo),x6,some (.ref wl),x8,some (.ref t),some (.int (0+i)),x11,x12,x13],_,g2,rfl,by rw[TF];exact e2,rows2,_,rfl,k1.trans k2,W2,F2⟩)
 exact⟨rows',g',y10,(Yp (ZR (n:=l) rfl (Xh (by omega)))).trans e,k,W',F'⟩
theorem wY{g:G}{t N n m l fo wl nn:Nat}{x0 x1 x2 x6 x8 x10 x11 x12 x13:Option D}{rows:List (List D)}{w:List Int}(W:Tw N g t rows n m)(F:Ft rows fo l)(hw:g[wl]?=some (.lst (w.map .int)))(hwl:wl<N)(hwn:w.length=nn)(hr:∀x∈w,0<=x/\x+2<m)(hfo:2<=fo)(hn:nn+2<=n)(n0:0<nn)(n4:nn<=4)(hm:2<=m):
  ∃rows' g' y10 y11,YF (QJ (Qa 3)) (Qm 10) Y1 [x0,x1,x2,some (.int nn),some (.int l),some (.int fo),x6,some (.ref wl),x8,some (.ref t),x10,x11,x12,x13] g=.nx [x0,x1,x2,some (.int nn),some (.int l),some (.int fo),x6,some (.ref wl),x8,some (.ref t),y10,y11,x12,x13] g'/\KpN N g g'/\Tw N g' t rows' n m/\Ft rows' fo l/\Ch rows' w nn nn:=by
 obtain⟨σ',g',e,rows',y10,y11,rfl,k,W',F',C'⟩:=Yi (t:=Qm 10) (body:=Y1) (lo:=0) (n:=nn) (σ:=[x0,x1,x2,some (.int nn),some (.int l),some (.int fo),x6,some (.ref wl),x8,some (.ref t),x10,x11,x12,x13]) (g:=g)
  (λi σ g'=>∃rows' y10 y11,σ=[x0,x1,x2,some (.int nn),some (.int l),some (.int fo),x6,some (.ref wl),x8,some (.ref t),y10,y11,x12,x13]/\KpN N g g'/\Tw N g' t rows' n m/\Ft rows' fo l/\Ch rows' w nn i) ⟨rows,x10,x11,rfl,.refl,W,F,λk hk=>by omega⟩ (λi σ g1 hi hQ=>by obtain⟨rows1,y,y',rfl,k1,W1,F1,C1⟩:=hQ;obtain⟨rows2,g2,y11,e2,k2,W2,F2,C2⟩:=qC (x0:=x0) (x1:=x1) (x2:=x2) (x6:=x6) (x8:=x8) (x11:=y') (x12:=x12) (x13:=x13) W1 F1 C1 (k1.at' _ _ hwl hw) hwl hwn hr hi hfo hn n0 hm;refine⟨[x0,x1,x2,some (.int nn),some (.int l),some (.int fo),x6,some (.ref wl),x8,some (.ref t),some (.int (0+i)),y',x12,x13],_,g2,rfl,by rw[TF];exact e2,rows2,_,_,rfl,k1.trans k2,W2,F2,C2⟩)
 exact⟨rows',g',y10,y11,(Yp (ZR (n:=nn) rfl (Xh (by omega)))).trans e,k,W',F',C'⟩
theorem EJ{N a:Nat}{g g1 g2:G}(k:Keeps [a] g g1)(k2:KpN N g1 g2)(hN:g.length<=N):Keeps [a] g g2:=⟨Um k.len k2.len,λb o hb e=>k2.at' b o (by have:=ZB e;omega) (k.at' b o hb e)⟩
theorem OG(ns:List Int){a:Nat}{k:Int}{g:G}(ga:g[a]?=some (.lst [.int k]))(hk:0<=k)(hk2:k<800000000):
  ∃(n N m:Nat)(nw fw:List Int)(rows:List (List D))(t q:Nat)(k':Int)(g':G),Bz [.fl (ns.map .int),.ref a] g=.ok (.tup [.ref t,.tup (nw.map .int),.ref q]) g'/\Keeps [a] g g'/\g'[a]?=some (.lst [.int k'])/\(k<=k'/\k'<=k+100)/\Rl rows n N m nw fw/\Tb rows N m/\tabOf g.length g' t rows/\g'[q]?=some (.lst ((Zh n).map (Ze n)))/\g.length<=q:=by
 obtain⟨z,z0,z1,e1⟩:=B8 ns a k g ga hk (by omega);have k1:Keeps [a] g (g.set a (.lst [.int (k+1)])):=.set _ _;have ga1:(g.set a (.lst [.int (k+1)]))[a]?=some (.lst [.int (k+1)]):=Zb ga;have hal:a<g.length:=ZB ga;have gl1:(g.set a (.lst [.int (k+1)])).length=g.length:=UJ ..;generalize g.set a (.lst [.int (k+1)])=g1 at e1 k1 ga1 gl1;have r0:=UT z (show(4:Int)≠0 by decide);have r1:=UK z (show(0:Int)<4 by decide);obtain⟨n,hn⟩:∃n:Nat,(n:Int)=1+z%4:=⟨(1+z%4).toNat,by omega⟩;have hmn:∃mn:Int,1<=mn/\mn<=3/\mn<=n/\II (.int 3) (.int n)=λg=>.ok (.int mn) g:=by
  by_cases c:(n:Int)<3
  ·exact⟨n,by omega,by omega,by omega,by funext g;show Res.ok (D.int (if (n:Int)<3 then (n:Int) else 3)) g=_;rw[Ub c]⟩
  ·exact⟨3,by omega,by omega,by omega,by funext g;show Res.ok (D.int (if (n:Int)<3 then (n:Int) else 3)) g=_;rw[Ud c]⟩
 obtain⟨mn,m1,m2,m3,hmin⟩:=hmn;have l0:=UT (z/4) (show mn≠0 by omega);have l1:=UK (z/4) (show 0<mn by omega);obtain⟨l,hl⟩:∃l:Nat,(l:Int)=1+z/4%mn:=⟨(1+z/4%mn).toNat,by omega⟩;have f0:=UT (z/16) (show(2:Int)≠0 by decide);have f1:=UK (z/16) (show(0:Int)<2 by decide);obtain⟨fo,hfo,hfo'⟩:∃fo:Nat,(fo:Int)=2+l*(z/16%2)/\(fo=2\/fo=2+l):=by
  rcases(by omega:z/16%2=0\/z/16%2=1) with c|c
  ·exact⟨2,by rw[c];simp,.inl rfl⟩
  ·exact⟨2+l,by rw[c];simp,.inr rfl⟩
 obtain⟨u,u0,u1,e2⟩:=B8 ns a (k+1) g1 ga1 (by omega) (by omega);rw[show k+1+1=k+2 by omega]at e2;have k2:Keeps [a] g1 (g1.set a (.lst [.int (k+2)])):=.set _ _;have ga2:(g1.set a (.lst [.int (k+2)]))[a]?=some (.lst [.int (k+2)]):=Zb ga1;have gl2:(g1.set a (.lst [.int (k+2)])).length=g1.length:=UJ ..;generalize g1.set a (.lst [.int (k+2)])=g2 at e2 k2 ga2 gl2
 -- the word
 have ew:=Np (it:=Qa 3) (e:=Qd Yg (Qd Yw (Qa 2) (Qd QC (Qd JG (Qd JG (mI 7) (Qa 0)) (Qa 0)) (mI 1))) (Qa 1)) (cap:=[4,6]) (σ:=[some (.fl (ns.map .int)),some (.ref a),some (.int z),some (.int n),some (.int l),some (.int fo),some (.int u),none,none,none,none,none,none,none]) (σc:=[some (.int l),some (.int u)]) (g:=g2) (c:=n) (λi=>.int (u / (7*i*i+1) % l)) rfl (by omega) rfl (λi hi=>by
  have ci:cM (i:Int):=Kf (by omega) (by omega);have c7:cM (7:Int):=Kf (by omega) (by omega);have hii:0<=7*(i:Int)*i/\7*(i:Int)*i<=100:=by rcases(by omega:i=0\/i=1\/i=2\/i=3) with rfl|rfl|rfl|rfl<;>decide
  exact Qr (x:=.int (u / (7*i*i+1))) (y:=.int l) (g1:=g2) (g2:=g2) (Qr (x:=.int u) (y:=.int (7*i*i+1)) (g1:=g2) (g2:=g2) rfl (Qr (x:=.int (7*i*i)) (y:=.int 1) (g1:=g2) (g2:=g2) (Qr (x:=.int (7*i)) (y:=.int i) (g1:=g2) (g2:=g2) (Qr rfl rfl (fK c7)) rfl (pB ci)) rfl rfl) (GZ (by omega) (by omega))) rfl (CN (by omega)))
 obtain⟨w,hw⟩:∃w:List Int,w=(List.range n).map λi:Nat=>u / (7*(i:Int)*i+1) % l:=⟨_,rfl⟩;have hwD:(List.range n).map (λi:Nat=>D.int (u / (7*(i:Int)*i+1) % l))=w.map .int:=by rw[hw,U4];rfl
 rw[hwD]at ew;have wlen:w.length=n:=by rw[hw,Ua,Wq]
 have wrng:∀x∈w,0<=x/\x<l:=λx hx=>by rw[hw]at hx;obtain⟨i,_,rfl⟩:=Te.mp hx;exact⟨UT _ (by omega),UK _ (by omega)⟩
 clear hw hwD;have k3:Keeps [a] g2 (g2++[.lst (w.map .int)]):=.push _;have gw3:(g2++[GO.lst (w.map .int)])[g2.length]?=some (.lst (w.map .int)):=Qw _;have ga3:(g2++[GO.lst (w.map .int)])[a]?=some (.lst [.int (k+2)]):=(Keeps.push (S:=[]) _).at' _ _ (by simp) ga2;have gl3:(g2++[GO.lst (w.map .int)]).length=g2.length+1:=by simp
 generalize g2++[GO.lst (w.map .int)]=g3 at ew k3 gw3 ga3 gl3;have s0:=UT (z/32) (show(2:Int)≠0 by decide);have s1:=UK (z/32) (show(0:Int)<2 by decide);obtain⟨sg,hsg,hsg1,hsg2⟩:∃sg:Nat,(sg:Int)=(fo:Int)+l+(if decide ((fo:Int)+l<8)=true then 1 else 0)*(z/32%2)/\fo+l<=sg/\sg<=8:=by
  by_cases c:(fo:Int)+l<8
  ·rw[Uo c,Ub rfl,Int.one_mul];exact⟨((fo:Int)+l+z/32%2).toNat,by omega,by omega,by omega⟩
  ·rw[Ul c,Ud Uf,Int.zero_mul];exact⟨fo+l,by omega,by omega,by omega⟩
 have h30:=UT (z/64) (show(3:Int)≠0 by decide);have h31:=UK (z/64) (show(0:Int)<3 by decide);obtain⟨N,hN⟩:∃N:Nat,(N:Int)=2+n+z/64%3:=⟨(2+n+z/64%3).toNat,by omega⟩;obtain⟨rows0,g4,e4,k4,ga4,ht4,n4,m4,en4,nd4⟩:=D9 ns a (k+2) N sg g3 (by omega) (by omega) (by omega) (by omega) ga3 (by omega) (by omega);have W4:Tw g3.length g4 g3.length rows0 N sg:=⟨ht4,nd4,⟨by omega,by omega,n4,m4,en4⟩⟩;have hNs:(N:Int)*sg<=64:=by
  have:N*sg<=8*8:=RD (by omega) (by omega)
  exact_mod_cast this
 have hNs0:(0:Int)<=(N:Int)*sg:=Int.mul_nonneg (by omega) (by omega);have hal4:a<g3.length:=by omega
 -- the marked cell
 generalize hσ:[some (D.fl (ns.map .int)),some (.ref a),some (.int z),some (.int n),some (.int l),some (.int fo),some (.int u),some (.ref g2.length),some (.int sg),some (.ref g3.length),none,none,none,none]=σ9;have v9:Qa 9 σ9=λg=>.ok (.ref g3.length) g:=by rw[<-hσ];rfl
 have ix:∀(k:Int)(g:G) x,Qv (.ref g3.length) (.int k) g=.ok (.ref x) g->Qd Qv (Qa 9) (Qp (.int k)) σ9 g=.ok (.ref x) g:=λk g x hx=>Qr (by rw[v9]) rfl hx;obtain⟨g5,e5,k5,W5⟩:=W4.puts (p:=0) (q:=0) (g:=g4) (d:=.tup [.int 1,.str "r",.int 1]) (σ:=σ9) (o:=Qd Qv (Qa 9) (mI 0)) (i:=Qp (.int 0)) (v:=QA QO (Qc (mI 1) (Qc (Qp (.str "r")) (Qc (mI 1) Ql))))
  (by omega) (by omega) (Sj (by omega) (by omega) (by omega) (by omega)) rfl (λx hx=>ix 0 g4 x hx) rfl
 obtain⟨g6,e6,k6,W6⟩:=W5.puts (p:=2) (q:=1) (g:=g5) (d:=.tup [.int 1,.str "r",.int 1]) (σ:=σ9) (o:=Qd Qv (Qa 9) (mI 2)) (i:=Qp (.int 1)) (v:=QA QO (Qc (mI 1) (Qc (Qp (.str "r")) (Qc (mI 1) Ql))))
  (by omega) (by omega) (Sj (by omega) (by omega) (by omega) (by omega)) rfl (λx hx=>ix 2 g5 x hx) rfl
 have F0:Ft (wr (wr rows0 0 0 (.tup [.int 1,.str "r",.int 1])) 2 1 (.tup [.int 1,.str "r",.int 1])) fo 0:=⟨by rw[Hr W5.T (by omega) (by omega),Ud (by omega),Hr W4.T (by omega) (by omega),Ub ⟨rfl,rfl⟩,Si],by rw[Hr W5.T (by omega) (by omega),Ub ⟨rfl,rfl⟩,Si],λj hj=>by omega⟩
 obtain⟨rows1,g7,y10,e7,k7,W7,F7⟩:=wX (x0:=some (D.fl (ns.map .int))) (x1:=some (.ref a)) (x2:=some (.int z)) (x6:=some (.int u)) (x8:=some (.int sg)) (x10:=none) (x11:=none) (x12:=none) (x13:=none) (wl:=g2.length) (nn:=n) W6 F0 (l:=l) (by omega) hfo' (by omega) (by omega);have gw7:=k7.at' _ _ (by omega) (k6.at' _ _ (by omega) (k5.at' _ _ (by omega) (k4.at' _ _ (by simp;omega) gw3)));obtain⟨rows2,g8,z10,z11,e8,k8,W8,F8,C8⟩:=wY (x0:=some (D.fl (ns.map .int))) (x1:=some (.ref a)) (x2:=some (.int z)) (x6:=some (.int u)) (x8:=some (.int sg)) (x10:=y10) (x11:=none) (x12:=none) (x13:=none) (wl:=g2.length) (nn:=n) (w:=w) W7 F7 gw7 (by omega) wlen (λx hx=>by have:=wrng x hx;omega) (by omega) (by omega) (by omega) (by omega) (by omega);have RL:=qE W8.T F8 C8 (by omega) (by omega) wlen wrng hfo' (by omega) (by omega);have K8:Keeps [a] g g8:=EJ (EJ (EJ (EJ (k1.trans (k2.trans (k3.trans k4))) k5 (by omega)) k6 (by omega)) k7 (by omega)) k8 (by omega);have ga8:g8[a]?=some (.lst [.int (k+2+N*sg)]):=k8.at' _ _ hal4 (k7.at' _ _ hal4 (k6.at' _ _ hal4 (k5.at' _ _ hal4 ga4)));have gw8:=k8.at' _ _ (by omega) gw7;have gl8:g3.length<=g8.length:=Um k4.len (Um k5.len (Um k6.len (Um k7.len k8.len)));have ht8:=W8.tab;have c2:cM (2:Int):=Kf (by omega) (by omega);have est:=Np (it:=Qd XJ (Qd JG (mI 2) (Qa 3)) (mI 1)) (e:=QA QO (Qc (Qp (.str "step")) Ql)) (cap:=[]) (σ:=[some (D.fl (ns.map .int)),some (.ref a),some (.int z),some (.int n),some (.int l),some (.int fo),some (.int u),some (.ref g2.length),some (.int sg),some (.ref g3.length),z10,z11,none,none]) (σc:=[]) (g:=g8) (c:=2*n-1) (λ_=>Ze n .step)
  (Qr (x:=.int (2*n)) (y:=.int 1) (g1:=g8) (g2:=g8) (Qr rfl rfl (fK c2)) rfl (by show Res.ok (D.int (2*(n:Int) - 1)) g8=_;rw[show 2*(n:Int) - 1=((2*n-1:Nat):Int) by omega])) (by omega) rfl (λi hi=>rfl)
 have k9:Keeps [] g8 (g8++[.lst ((List.range (2*n-1)).map λ_=>Ze n .step)]):=.push _;have p9:(g8++[GO.lst ((List.range (2*n-1)).map λ_=>Ze n .step)])[g8.length]?=some (.lst ((List.range (2*n-1)).map λ_=>Ze n .step)):=Qw _;generalize hst9:(List.range (2*n-1)).map (λ_=>Ze n .step)=sts at est k9 p9;generalize g8++[GO.lst sts]=g9 at est k9 p9;have k10:Keeps [] g9 (g9++[.lst [Ze n .over]]):=.push _;have p10:(g9++[GO.lst [Ze n .over]])[g9.length]?=some (.lst [Ze n .over]):=Qw _;have e10:QA JS (Qc (QA QO (Qc (Qp (.str "over")) Ql)) Ql) [some (D.fl (ns.map .int)),some (.ref a),some (.int z),some (.int n),some (.int l),some (.int fo),some (.int u),some (.ref g2.length),some (.int sg),some (.ref g3.length),z10,z11,some (.ref g8.length),none] g9=.ok (.ref g9.length) (g9++[.lst [Ze n .over]]):=rfl;generalize g9++[GO.lst [Ze n .over]]=g10 at k10 p10 e10;have slen:sts.length=2*n-1:=by rw[<-hst9,Ua,Wq]
 have a11:=Vx p10 (k10.at' _ _ (by simp) p9) (by rw[slen];simp;omega);have k11:Keeps [] g10 (g10++[.lst ([Ze n .over]++sts)]):=.push _;have p11:(g10++[GO.lst ([Ze n .over]++sts)])[g10.length]?=some (.lst ([Ze n .over]++sts)):=Qw _;generalize g10++[GO.lst ([Ze n .over]++sts)]=g11 at a11 k11 p11;have k12:Keeps [] g11 (g11++[.lst [Ze n .over,Ze n .step,Ze n .draw]]):=.push _;have p12:(g11++[GO.lst [Ze n .over,Ze n .step,Ze n .draw]])[g11.length]?=some (.lst [Ze n .over,Ze n .step,Ze n .draw]):=Qw _;have e12:QA JS (Qc (QA QO (Qc (Qp (.str "over")) Ql)) (Qc (QA QO (Qc (Qp (.str "step")) Ql)) (Qc (QA QO (Qc (Qp (.str "draw")) (Qc (Qp (.str "r")) (Qc (Qa 3) Ql)))) Ql))) [some (D.fl (ns.map .int)),some (.ref a),some (.int z),some (.int n),some (.int l),some (.int fo),some (.int u),some (.ref g2.length),some (.int sg),some (.ref g3.length),z10,z11,some (.ref g8.length),none] g11=.ok (.ref g11.length) (g11++[.lst [Ze n .over,Ze n .step,Ze n .draw]]):=rfl;generalize g11++[GO.lst [Ze n .over,Ze n .step,Ze n .draw]]=g12 at k12 p12 e12;have a13:=Vx (k12.at' _ _ (by simp) p11) p12 (by rw[Us,slen];simp;omega);rw[<-hst9,qF n (by omega)]at a13;have k13:Keeps [] g12 (g12++[.lst ((Zh n).map (Ze n))]):=.push _;have p13:(g12++[GO.lst ((Zh n).map (Ze n))])[g12.length]?=some (.lst ((Zh n).map (Ze n))):=Qw _;generalize g12++[GO.lst ((Zh n).map (Ze n))]=g13 at a13 k13 p13;have K13:Keeps [] g8 g13:=k9.trans (k10.trans (k11.trans (k12.trans k13)));have gw13:=K13.at' _ _ (by simp) gw8;obtain⟨src,q1,q2,q3⟩:=V4 (YO gw13);obtain⟨g14,c14,k14⟩:=Ex (ds:=w.map D.int) (e:=Qd QC (mI 2) (Qa 0)) (g:=g13) (F:=λd=>match d with | .int x=>.int (2+x)|_=>.non) (src:=src) (by rw[Ua];omega) (λd hd g1 k=>by obtain⟨x,_,rfl⟩:=Te.mp hd;exact⟨g1,rfl,.refl⟩) q2 (λg1 i k=>q3 g1 i (YO (k.at' _ _ (by simp) gw13)));have hmw:(w.map D.int).map (λd=>match d with | .int x=>D.int (2+x)|_=>.non)=(w.map (2 + ·)).map .int:=by rw[U4,U4];rfl
 rw[hmw]at c14;have k15:Keeps [] g14 (g14++[.lst ((w.map (2 + ·)).map .int)]):=.push _;have p15:(g14++[GO.lst ((w.map (2 + ·)).map .int)])[g14.length]?=some (.lst ((w.map (2 + ·)).map .int)):=Qw _;have c15:Qu Zw (ZK (QQ (Qa 7)) 1 [] (Qm 0) ZV (Qd QC (mI 2) (Qa 0))) [some (D.fl (ns.map .int)),some (.ref a),some (.int z),some (.int n),some (.int l),some (.int fo),some (.int u),some (.ref g2.length),some (.int sg),some (.ref g3.length),z10,z11,some (.ref g8.length),some (.ref g12.length)] g13=.ok (.tup ((w.map (2 + ·)).map .int)) (g14++[.lst ((w.map (2 + ·)).map .int)]):=by
  refine YN (JD (n:=1) (cap:=[]) (t:=Qm 0) (c:=ZV) (σ0:=[none]) (src:=src) (g1:=g13) ?_ ?_ rfl c14) ?_
  ·unfold QQ;rw[show Qa 7 [some (D.fl (ns.map .int)),some (.ref a),some (.int z),some (.int n),some (.int l),some (.int fo),some (.int u),some (.ref g2.length),some (.int sg),some (.ref g3.length),z10,z11,some (.ref g8.length),some (.ref g12.length)] g13=.ok (.ref g2.length) g13 from rfl,Res.bind_ok];exact q1
  ·rw[q2,Ua];exact UO (Vw (by omega))
  ·unfold Zw;dsimp only;rw[p15]
 generalize g14++[GO.lst ((w.map (2 + ·)).map .int)]=g15 at k15 p15 c15;have K15:Keeps [] g8 g15:=K13.trans (k14.trans k15);refine⟨n,N,sg,w.map (2 + ·),w.map ((fo:Int) + ·),rows2,g3.length,g12.length,k+2+N*sg,g15,Zm rfl ?_,?_,K15.at' _ _ (by simp) ga8,by omega,RL,⟨by omega,by omega,by omega,by omega,W8.T.len,W8.T.row,W8.T.ent⟩,?_,(k14.trans k15).at' _ _ (by simp) p13,?_⟩
 ·show By [some (D.fl (ns.map .int)),some (.ref a),none,none,none,none,none,none,none,none,none,none,none,none] g=_;unfold By;refine Qo [some (D.fl (ns.map .int)),some (.ref a),some (.int z),none,none,none,none,none,none,none,none,none,none,none] g1 (QR ((QH (ds:=[.fl (ns.map .int),.ref a]) (g':=g) rfl).trans e1)) ?_;refine Qo [some (D.fl (ns.map .int)),some (.ref a),some (.int z),some (.int n),none,none,none,none,none,none,none,none,none,none] g1 (by rw[hn];exact QR (Qr (x:=.int 1) (y:=.int (z%4)) (g1:=g1) (g2:=g1) rfl (Qr rfl rfl (CN (by decide))) rfl)) ?_;refine Qo [some (D.fl (ns.map .int)),some (.ref a),some (.int z),some (.int n),some (.int l),none,none,none,none,none,none,none,none,none] g1 (by rw[hl];exact QR (Qr (x:=.int 1) (y:=.int (z/4%mn)) (g1:=g1) (g2:=g1) rfl (Qr (x:=.int (z/4)) (y:=.int mn) (g1:=g1) (g2:=g1) (Qr rfl rfl (GZ (by decide) (by decide))) (Qr (x:=.int 3) (y:=.int n) (g1:=g1) (g2:=g1) rfl rfl (by rw[hmin])) (CN (by omega))) rfl)) ?_;refine Qo [some (D.fl (ns.map .int)),some (.ref a),some (.int z),some (.int n),some (.int l),some (.int fo),none,none,none,none,none,none,none,none] g1 (by rw[hfo];exact QR (Qr (x:=.int 2) (y:=.int (l*(z/16%2))) (g1:=g1) (g2:=g1) rfl (Qr (x:=.int l) (y:=.int (z/16%2)) (g1:=g1) (g2:=g1) rfl (Qr (x:=.int (z/16)) (y:=.int 2) (g1:=g1) (g2:=g1) (Qr rfl rfl (GZ (by decide) (by decide))) rfl (CN (by decide))) (fK (Kf (by omega) (by omega)))) rfl)) ?_;refine Qo [some (D.fl (ns.map .int)),some (.ref a),some (.int z),some (.int n),some (.int l),some (.int fo),some (.int u),none,none,none,none,none,none,none] g2 (QR ((QH (ds:=[.fl (ns.map .int),.ref a]) (g':=g1) rfl).trans e2)) ?_;refine Qo [some (D.fl (ns.map .int)),some (.ref a),some (.int z),some (.int n),some (.int l),some (.int fo),some (.int u),some (.ref g2.length),none,none,none,none,none,none] g3 (QR ew) ?_;refine Qo [some (D.fl (ns.map .int)),some (.ref a),some (.int z),some (.int n),some (.int l),some (.int fo),some (.int u),some (.ref g2.length),some (.int sg),none,none,none,none,none] g3 (by rw[hsg];exact QR (Qr (x:=.int (fo+l)) (y:=.int ((if decide ((fo:Int)+l<8)=true then 1 else 0)*(z/32%2))) (g1:=g3) (g2:=g3) rfl (Qr (x:=.int (if decide ((fo:Int)+l<8)=true then 1 else 0)) (y:=.int (z/32%2)) (g1:=g3) (g2:=g3) rfl (Qr (x:=.int (z/32)) (y:=.int 2) (g1:=g3) (g2:=g3) (Qr rfl rfl (GZ (by decide) (by decide))) rfl (CN (by decide))) (pB (Kf (by omega) (by omega)))) rfl)) ?_;refine Qo [some (D.fl (ns.map .int)),some (.ref a),some (.int z),some (.int n),some (.int l),some (.int fo),some (.int u),some (.ref g2.length),some (.int sg),some (.ref g3.length),none,none,none,none] g4 (QR ((QH (ds:=[.fl (ns.map .int),.ref a,.int N,.int sg]) (g':=g3) (QK (g1:=g3) rfl (QK (g1:=g3) rfl (QK (g1:=g3) (by rw[hN];exact Qr (x:=.int (2+n)) (y:=.int (z/64%3)) (g1:=g3) (g2:=g3) rfl (Qr (x:=.int (z/64)) (y:=.int 3) (g1:=g3) (g2:=g3) (Qr rfl rfl (GZ (by decide) (by decide))) rfl (CN (by decide))) rfl) rfl)))).trans e4)) ?_;rw[hσ];refine Qo σ9 g5 e5 ?_;refine Qo σ9 g6 e6 ?_;rw[<-hσ];refine Qo _ g7 e7 ?_;refine Qo _ g8 e8 ?_;refine Qo _ g9 (QR est) ?_;refine Qo [some (D.fl (ns.map .int)),some (.ref a),some (.int z),some (.int n),some (.int l),some (.int fo),some (.int u),some (.ref g2.length),some (.int sg),some (.ref g3.length),z10,z11,some (.ref g8.length),some (.ref g12.length)] g13 (QR (Qr (x:=.ref g10.length) (y:=.ref g11.length) (g1:=g11) (g2:=g12) (Qr (x:=.ref g9.length) (y:=.ref g8.length) (g1:=g10) (g2:=g10) e10 rfl a11) e12 a13)) ?_;exact Yy (Kz (QK (g1:=g13) rfl (QK (g1:=g15) c15 (QK (g1:=g15) rfl rfl))) rfl)
 ·exact K8.trans ⟨K15.len,λb o hb e=>K15.at' b o (by simp) e⟩
 ·exact⟨by have:=ht8.1;omega,(ht8.mono K15 (by simp)).2.imp λds h=>⟨h.1,h.2.1,λi x r hx hr=>by obtain⟨y,h1,h2,h3⟩:=h.2.2 i x r hx hr;exact⟨y,h1,by omega,h3⟩⟩⟩
 ·have:=k9.len;have:=k10.len;have:=k11.len;have:=k12.len;omega
def vI(n c:Nat):Mo->Nat
 |.step=>1|.over=>n*c|_=>0
def Sk(n c:Nat)(ms:List Mo):Nat:=(ms.map (vI n c)).sum
def vJ:Bool:=(List.range 4).all λk=>(List.range (2*k+5)).all λt=>(List.range 9).all λc=>decide (Sk (k+1) c ((Zh (k+1)).take t)=VE (k+1) t c/\Sk (k+1) c ((Zh (k+1)).drop t)=VE (k+1) (2*(k+1)+3) c-VE (k+1) t c/\Sk (k+1) c (Zh (k+1))=VE (k+1) (2*(k+1)+3) c)&&decide (c<4->1+((List.range c).map λd=>VE (k+1) (2*(k+1)+3) d).sum+VE (k+1) t c=Hj (k+1) t c)
theorem qG:vJ=true:=by decide +kernel
theorem Sl{n t c:Nat}(n0:0<n)(n4:n<=4)(ht:t<2*n+3)(hc:c<9):(Sk n c ((Zh n).take t)=VE n t c/\Sk n c ((Zh n).drop t)=VE n (2*n+3) c-VE n t c/\Sk n c (Zh n)=VE n (2*n+3) c)/\(c<4->1+((List.range c).map λd=>VE n (2*n+3) d).sum+VE n t c=Hj n t c):=by have h:=Uu.mp (Uu.mp (Uu.mp qG (n-1) (UM.mpr (by omega))) t (UM.mpr (by omega))) c (UM.mpr hc);rw[UG,show n-1+1=n by omega]at h;exact⟨UN h.1,UN h.2⟩
theorem qH(n:Nat)(mv:Mo):∃s rest,Ze n mv=.tup (.str s::rest)/\(s==Str.ofString "step")=EI mv/\(s==Str.ofString "over")=(match mv with | .over=>true|_=>false):=by
 cases mv with
 |ends pad sd=>cases pad<;>exact⟨_,_,rfl,by simp[eS,PV,EI],by simp[eS,PV]⟩|step=>exact⟨_,_,rfl,by simp[EI],by decide +kernel⟩|over=>exact⟨_,_,rfl,by simp[PV,EI],by simp⟩|draw=>exact⟨_,_,rfl,by simp[PV,EI],by simp[PV]⟩
theorem Sm{n n' c:Nat}{y:D}{b:Bool}{ms:List Mo}{g:G}(hy:QF g y=some (b,ms.map (Ze n')))(hn:n<=4)(hc:c<=20):ZI [y,.int n,.int c] g=.ok (.int (Sk n c ms)) g:=by
 obtain⟨src,s1,s2,s3⟩:=V4 hy;rw[Ua]at s2;obtain⟨σ',g2,e3,k2,x4,rfl⟩:=B7 (src:=src) (t:=Qm 4) (body:=YJ) (n:=ms.length) (σ:=[some y,some (.int n),some (.int c),some (.int 0),none]) (g:=g) s2
  (λi σ g'=>g'=g/\∃x4,σ=[some y,some (.int n),some (.int c),some (.int (Sk n c (ms.take i))),x4]) ⟨rfl,none,rfl⟩ (λi σ g' hi hQ=>by
   obtain⟨rfl,x4,rfl⟩:=hQ;obtain⟨s,rest,hm,h1,h2⟩:=qH n' ms[i];have hr:Sk n c (ms.take (i+1))=Sk n c (ms.take i)+vI n c ms[i]:=by unfold Sk;rw[Ux hi,UC,List.sum_append];simp
   refine⟨Ze n' ms[i],_,[some y,some (.int n),some (.int c),some (.int (Sk n c (ms.take (i+1)))),some (Ze n' ms[i])],g',by rw[s3 _ _ hy];simp[hi],rfl,?_,rfl,_,rfl⟩;show YJ [some y,some (.int n),some (.int c),some (.int (Sk n c (ms.take i))),some (Ze n' ms[i])] g'=_;rw[hm,hr];have hz:∀v:Int,Qd Qv (Qa 4) (mI 0) [some y,some (.int n),some (.int c),some (.int v),some (.tup (.str s::rest))] g'=.ok (.str s) g':=λv=>Qr (x:=.tup (.str s::rest)) (y:=.int 0) (g1:=g') (g2:=g') rfl rfl (by show(match VF (.str s::rest) 0 with|some d=>Res.ok d g'|none=>.stuck)=_;rw[show VF (D.str s::rest) 0=some (.str s) from rR (n:=0) rfl]);have t1:∀v:Int,Qn (Qd Z8 (Qd Qv (Qa 4) (mI 0)) (Qp (.str "step"))) [some y,some (.int n),some (.int c),some (.int v),some (.tup (.str s::rest))] g'=.ok (s==Str.ofString "step") g':=λv=>Zq (Qr (hz v) rfl (pE ..));have t2:∀v:Int,Qn (Qd Z8 (Qd Qv (Qa 4) (mI 0)) (Qp (.str "over"))) [some y,some (.int n),some (.int c),some (.int v),some (.tup (.str s::rest))] g'=.ok (s==Str.ofString "over") g':=λv=>Zq (Qr (hz v) rfl (pE ..));rw[h1]at t1;rw[h2]at t2;generalize (Sk n c (ms.take i))=v0;unfold YJ;cases hmv:ms[i]with
   |step=>rw[hmv]at t1 t2;exact Qo _ g' (Ma g' (t1 _) (QR rfl)) (Jo g' (t2 _) rfl)|over =>rw[hmv]at t1 t2;refine Qo _ g' (Jo g' (t1 _) rfl) (Ma g' (t2 _) ?_);refine QR (Qr (x:=.int v0) (y:=.int (n*c)) (g1:=g') (g2:=g') rfl (Qr rfl rfl (fK (Kf (by omega) (by omega)))) ?_);show Res.ok (D.int ((v0:Int)+n*c)) g'=_;unfold vI;rw[show((v0:Int)+n*c)=((v0+n*c:Nat):Int) by rw[Rr,Int.natCast_mul]]|draw=>rw[hmv]at t1 t2;exact Qo _ g' (Jo g' (t1 _) rfl) (Jo g' (t2 _) rfl)|ends pad sd=>rw[hmv]at t1 t2;exact Qo _ g' (Jo g' (t1 _) rfl) (Jo g' (t2 _) rfl)) (λσ g' hQ=>by rw[hQ.1,s3 _ _ hy];simp)
 subst k2;rw[UX]at e3;refine Zm rfl ?_;show XW [some y,some (.int n),some (.int c),none,none] g2=_;unfold XW;refine Qo [some y,some (.int n),some (.int c),some (.int 0),none] g2 rfl ?_;exact Qo _ g2 ((Yp (src:=src) (g':=g2) (by unfold QQ;rw[show Qa 0 [some y,some (.int n),some (.int c),some (.int 0),none] g2=.ok y g2 from rfl,Res.bind_ok];exact s1)).trans e3) rfl
theorem bV{rows:List (List D)}{n m N t:Nat}{g g0:G}{σ:S3}{e:MA}(T:Tb rows n m)(ht:tabOf N g t rows)(he:e σ g0=.ok [.ref t] g):∃g',Keeps [] g g'/\Bl 11 Yb e σ g0=.ok (.ref g.length) g'/\g'[g.length]?=some (JM rows):=by have n0:=T.n0;have m0:=T.m0;have n12:=T.n12;have m8:=T.m8;have hgood:=entOk.good T.n0 T.m0 T.len T.row T.ent;obtain⟨g2,kp2,e2,hM2⟩:=fJ (.ref t) rows g ht.rows (λr hr=>by rw[T.row r hr];exact UO (Vw (by omega))) (by rw[T.len];exact UO (Vw (by omega))) (λr hr d hd=>(T.ent r hr d hd).thing) e σ g0 he;rw[Ub hgood]at e2;exact⟨g2,kp2,e2,hM2 hgood⟩
theorem Nq{o i:ME}{σ:S3}{g:G}{q t:Nat}{ds:List D}(ho:o σ g=.ok (.ref q) g)(hi:i σ g=.ok (.int t) g)(h:g[q]?=some (.lst ds)):Q7 o QV (Zv i) σ g=.ok (.ref g.length) (g++[.lst (ds.take t)]):=by unfold Q7 QV Zv;rw[ho,Res.bind_ok,Res.bind_ok,hi,Res.bind_ok,Res.bind_ok];unfold EV;dsimp only;rw[h];dsimp only;rw[aG]
theorem LM{o i:ME}{σ:S3}{g:G}{q t:Nat}{ds:List D}(ho:o σ g=.ok (.ref q) g)(hi:i σ g=.ok (.int t) g)(h:g[q]?=some (.lst ds)):Q7 o (Zv i) QV σ g=.ok (.ref g.length) (g++[.lst (ds.drop t)]):=by unfold Q7 QV Zv;rw[ho,Res.bind_ok,hi,Res.bind_ok,Res.bind_ok,Res.bind_ok];unfold EV;dsimp only;rw[h];dsimp only;rw[MY]
theorem bW{n t e q:Nat}{y:D}{b:Bool}{g:G}(n0:0<n)(n4:n<=4)(ht:t<2*n+3)(he:e<4)(hq:g[q]?=some (.lst ((Zh n).map (Ze n))))(hy:QF g y=some (b,((Zh n).take t).map (Ze n))):E5 [.ref q,y,.int n,.int e] g=.ok (.int (Hj n t e)) g:=by
 obtain⟨σ',g2,e3,k2,x5,rfl⟩:=Yi (t:=Qm 5) (body:=X6) (lo:=0) (n:=e) (σ:=[some (.ref q),some y,some (.int n),some (.int e),some (.int 1),none]) (g:=g)
  (λi σ g'=>g'=g/\∃x5,σ=[some (.ref q),some y,some (.int n),some (.int e),some (.int (1+((List.range i).map λd=>VE n (2*n+3) d).sum:Nat)),x5]) ⟨rfl,none,rfl⟩ (λi σ g' hi hQ=>by obtain⟨rfl,x5,rfl⟩:=hQ;have r:=Sm (n:=n) (c:=i) (YO hq) n4 (by omega);rw[(Sl n0 n4 ht (show i<9 by omega)).1.2.2]at r;refine⟨_,[some (.ref q),some y,some (.int n),some (.int e),some (.int (1+((List.range (i+1)).map λd=>VE n (2*n+3) d).sum:Nat)),some (.int (0+i))],g',rfl,?_,rfl,_,rfl⟩;show X6 [some (.ref q),some y,some (.int n),some (.int e),some (.int (1+((List.range i).map λd=>VE n (2*n+3) d).sum:Nat)),some (.int (0+i))] g'=_;rw[TF];unfold X6;refine(QR (Qr (y:=.int (VE n (2*n+3) i)) (g1:=g') (g2:=g') rfl ((QH (ds:=[.ref q,.int n,.int i]) (g':=g') rfl).trans r) rfl)).trans ?_;rw[WQ,UC,List.sum_append];show Out.nx [_,_,_,_,some (D.int (((1+((List.range i).map λd=>VE n (2*n+3) d).sum:Nat):Int)+(VE n (2*n+3) i:Nat))),_] g'=_;congr 4;simp;omega)
 subst k2;have r:=Sm (n:=n) (c:=e) hy n4 (by omega);obtain⟨c1,c2⟩:=Sl n0 n4 ht (show e<9 by omega);rw[c1.1]at r;refine Zm rfl ?_;show E4 [some (.ref q),some y,some (.int n),some (.int e),none,none] g2=_;unfold E4;refine Qo [some (.ref q),some y,some (.int n),some (.int e),some (.int 1),none] g2 rfl ?_;refine Qo _ g2 ((Yp (ZR (n:=e) rfl (Xh (by omega)))).trans e3) ?_;refine(Yy (Qr (y:=.int (VE n t e)) (g1:=g2) (g2:=g2) rfl ((QH (ds:=[y,.int n,.int e]) (g':=g2) rfl).trans r) rfl)).trans ?_;rw[<-c2 he];show Out.rt (D.int (((1+((List.range e).map λd=>VE n (2*n+3) d).sum:Nat):Int)+(VE n t e:Nat))) g2=_;rw[Rr (1+_)]
theorem qI(i:Int)(g:G):∃f,lrS f/\Qv (.str "lr") (.int (i%2)) g=.ok (.str f) g:=by
 rw[oZ];rcases(by omega:i%2=0\/i%2=1) with e|e
 ·rw[e];refine⟨Str.ofString "l",.inl rfl,?_⟩;rw[mW];unfold Qv;dsimp only;rw[Ub (by decide)];rfl
 ·rw[e];refine⟨Str.ofString "r",.inr rfl,?_⟩;rw[fF];unfold Qv;dsimp only;rw[Ub (by decide)];rfl
theorem bX{n e t:Nat}(n0:0<n)(n4:n<=4)(he:e<4)(ht:t<2*n+3):EF n 10 (Jf n e t)=true/\HM n 10 (Jf n e 0) ((Zh n).take t)=some (Jf n e t)/\HM n 10 (Jf n e t) ((Zh n).drop t++(Zh n).take t)=some (Jf n (e+1) t):=by have h:=Uu.mp (Uu.mp (Uu.mp mG (n-1) (UM.mpr (by omega))) e (UM.mpr he)) t (UM.mpr (by omega));rw[UG,show n-1+1=n by omega]at h;exact⟨h.1,UN h.2⟩
section
variable{rows:List (List D)}{n N m:Nat}{nw fw:List Int}
theorem qJ(h:Rl rows n N m nw fw)(T:Tb rows N m){N0 tt e t:Nat}{x0 x1 x3 x4 x5 x6 x7 x10 x11 x12 x13 x14 x15 x16 x17:Option D}{y:D}{b:Bool}{g:G}(ht:tabOf N0 g tt rows)(he:e<4)(htn:t<2*n+3)(hy:QF g y=some (b,((Zh n).take t).map (Ze n))):
  ∃g' x9,Keeps [] g g'/\∀(it:MI)(g0:G),(∀src,Bm y g=.ok src g->it [x0,x1,some (.ref tt),x3,x4,x5,x6,x7,some (YE nw fw (Jf n e 0)),none,x10,x11,x12,x13,x14,x15,x16,x17] g0=.ok src g)->YF it (Qm 9) J6 [x0,x1,some (.ref tt),x3,x4,x5,x6,x7,some (YE nw fw (Jf n e 0)),none,x10,x11,x12,x13,x14,x15,x16,x17] g0=.nx [x0,x1,some (.ref tt),x3,x4,x5,x6,x7,some (YE nw fw (Jf n e t)),x9,x10,x11,x12,x13,x14,x15,x16,x17] g':=by
 have n0:=h.B.n0;have n4:=h.B.n4;have o0:=(bX n0 n4 he (show 0<2*n+3 by omega)).1;have hm:=(bX n0 n4 he htn).2.1;obtain⟨src,s1,s2,s3⟩:=V4 hy;generalize (Zh n).take t=ms at hm hy s2 s3;rw[Ua]at s2;obtain⟨σ',g2,e3,k2,x,x9,hx,rfl⟩:=B7 (src:=src) (t:=Qm 9) (body:=J6) (n:=ms.length) (σ:=[x0,x1,some (.ref tt),x3,x4,x5,x6,x7,some (YE nw fw (Jf n e 0)),none,x10,x11,x12,x13,x14,x15,x16,x17]) (g:=g) s2
  (λi σ g'=>Keeps [] g g'/\∃x x9,HM n 10 (Jf n e 0) (ms.take i)=some x/\σ=[x0,x1,some (.ref tt),x3,x4,x5,x6,x7,some (YE nw fw x),x9,x10,x11,x12,x13,x14,x15,x16,x17]) ⟨.refl,_,none,rfl,rfl⟩ (λi σ g' hi hQ=>by
   obtain⟨k,x,x9,hx,rfl⟩:=hQ;have hs:HM n 10 (Jf n e 0) (ms.take i++ms.drop i)=some (Jf n e t):=by rw[TJ];exact hm
   rw[KE,hx,U8,Wj hi]at hs;obtain⟨z,hz,_⟩:=U2.mp hs;obtain⟨g1,k1,e1,hM⟩:=bV (g0:=g') (g:=g') (σ:=[x0,x1,some (.ref tt),x3,x4,x5,x6,x7,some (YE nw fw x),some (Ze n ms[i]),x10,x11,x12,x13,x14,x15,x16,x17]) (e:=Qc (Qa 2) Ql) T (ht.mono k (by simp)) rfl;obtain⟨g3,k3,e4⟩:=bS h (b:=10) (d:=YE nw fw x) (by omega) (Ho _ o0 hx) hM (ShIn.sh _ _) hz;refine⟨Ze n ms[i],_,[x0,x1,some (.ref tt),x3,x4,x5,x6,x7,some (YE nw fw z),some (Ze n ms[i]),x10,x11,x12,x13,x14,x15,x16,x17],g3,by rw[s3 _ _ (QE hy k)];simp[hi],rfl,?_,k.trans (k1.trans k3),z,_,?_,rfl⟩
   ·show J6 [x0,x1,some (.ref tt),x3,x4,x5,x6,x7,some (YE nw fw x),some (Ze n ms[i]),x10,x11,x12,x13,x14,x15,x16,x17] g'=_;unfold J6;exact QR ((QH (QK e1 (QK (g1:=g1) rfl (QK (g1:=g1) rfl rfl)))).trans e4)
   ·rw[Ux hi,KE,hx,U8];show(IV n 10 x ms[i]).bind _=_;rw[hz];rfl) (λσ g' hQ=>by rw[s3 _ _ (QE hy hQ.1)];simp)
 rw[UX,hm]at hx;cases hx;exact⟨g2,x9,k2,λit g0 hit=>(Yp (hit src s1)).trans e3⟩
end
def Hs(n e t b:Nat)(ms:List Mo):Prop:=HM n b (Jf n e t) ms=some (Jf n (e+1) t)/\ms.any EI=true/\ms.length<=13+2*b
section
variable{n:Nat}
theorem qK(ns:List Int){a tt q e t b r:Nat}{z k:Int}{x2 x3 x4 x6 x7 x8 x9 x11 x12 x13 x14 x15 x16 x17:Option D}{ms:List Mo}{g:G}(o:EF n b (Jf n e t)=true)(hb:b<=12)(R:Hs n e t b ms)(ga:g[a]?=some (.lst [.int k]))(hk:0<=k)(hk2:k<900000000)(hr:g[r]?=some (.lst (ms.map (Ze n)))):
  ∃r' ms' y12 y13 g',J7 [some (.fl (ns.map .int)),some (.ref a),x2,x3,x4,some (.int z),x6,x7,x8,x9,some (.ref r),x11,x12,x13,x14,x15,x16,x17] g=.nx [some (.fl (ns.map .int)),some (.ref a),x2,x3,x4,some (.int z),x6,x7,x8,x9,some (.ref r'),x11,y12,y13,x14,x15,x16,x17] g'/\Keeps [a] g g'/\g'[a]?=some (.lst [.int (k+1)])/\Hs n e t (b+1) ms'/\g'[r']?=some (.lst (ms'.map (Ze n))):=by
 obtain⟨m,m0,m1,e1⟩:=B8 ns a k g ga hk (by omega);have hra:r≠a:=λz=>by
  subst z;rw[ga]at hr;have:=GO.lst.inj (Option.some.inj hr);cases ms with
  |nil=>cases this|cons x xs=>cases x<;>cases this
 have k1:Keeps [a] g (g.set a (.lst [.int (k+1)])):=.set _ _;have ga1:(g.set a (.lst [.int (k+1)]))[a]?=some (.lst [.int (k+1)]):=Zb ga;have hr1:(g.set a (.lst [.int (k+1)]))[r]?=some (.lst (ms.map (Ze n))):=by rw[Uh (Ne.symm hra)];exact hr
 generalize g.set a (.lst [.int (k+1)])=g1 at e1 k1 ga1 hr1;have p0:=UT m (show(ms.length:Int)+1≠0 by omega);have p1:=UK m (show 0<(ms.length:Int)+1 by omega);obtain⟨sp,hsp⟩:∃sp:Nat,(sp:Int)=m % (ms.length+1):=⟨(m % (ms.length+1)).toNat,by omega⟩;obtain⟨f,hf,e2⟩:=qI (z/180) g1;obtain⟨sd,rfl⟩:=hf.fc;have k2:Keeps [] g1 (g1++[.lst ((ms.map (Ze n)).take sp)]):=.push _;have p2:(g1++[GO.lst ((ms.map (Ze n)).take sp)])[g1.length]?=some (.lst ((ms.map (Ze n)).take sp)):=Qw _;have s2:=Nq (o:=Qa 10) (i:=Qa 12) (σ:=[some (.fl (ns.map .int)),some (.ref a),x2,x3,x4,some (.int z),x6,x7,x8,x9,some (.ref r),x11,some (.int sp),some (.str (fc sd)),x14,x15,x16,x17]) rfl rfl hr1;generalize g1++[GO.lst ((ms.map (Ze n)).take sp)]=g2 at k2 p2 s2;have k3:Keeps [] g2 (g2++[.lst [Ze n (.ends true sd),Ze n (.ends false sd)]]):=.push _;have p3:(g2++[GO.lst [Ze n (.ends true sd),Ze n (.ends false sd)]])[g2.length]?=some (.lst [Ze n (.ends true sd),Ze n (.ends false sd)]):=Qw _;have e3:QA JS (Qc (QA QO (Qc (Qp (.str "pad")) (Qc (Qa 13) Ql))) (Qc (QA QO (Qc (Qp (.str "trim")) (Qc (Qa 13) Ql))) Ql)) [some (.fl (ns.map .int)),some (.ref a),x2,x3,x4,some (.int z),x6,x7,x8,x9,some (.ref r),x11,some (.int sp),some (.str (fc sd)),x14,x15,x16,x17] g2=.ok (.ref g2.length) (g2++[.lst [Ze n (.ends true sd),Ze n (.ends false sd)]]):=rfl;generalize g2++[GO.lst [Ze n (.ends true sd),Ze n (.ends false sd)]]=g3 at k3 p3 e3;have hl:=R.2.2;have a4:=Vx (k3.at' _ _ (by simp) p2) p3 (by simp;omega);have k4:Keeps [] g3 (g3++[.lst ((ms.map (Ze n)).take sp++[Ze n (.ends true sd),Ze n (.ends false sd)])]):=.push _;have p4:(g3++[GO.lst ((ms.map (Ze n)).take sp++[Ze n (.ends true sd),Ze n (.ends false sd)])])[g3.length]?=some (.lst ((ms.map (Ze n)).take sp++[Ze n (.ends true sd),Ze n (.ends false sd)])):=Qw _;generalize g3++[GO.lst ((ms.map (Ze n)).take sp++[Ze n (.ends true sd),Ze n (.ends false sd)])]=g4 at a4 k4 p4;have hr4:=(k2.trans (k3.trans k4)).at' _ _ (by simp) hr1;have s5:=LM (o:=Qa 10) (i:=Qa 12) (σ:=[some (.fl (ns.map .int)),some (.ref a),x2,x3,x4,some (.int z),x6,x7,x8,x9,some (.ref r),x11,some (.int sp),some (.str (fc sd)),x14,x15,x16,x17]) rfl rfl hr4;have k5:Keeps [] g4 (g4++[.lst ((ms.map (Ze n)).drop sp)]):=.push _;have p5:(g4++[GO.lst ((ms.map (Ze n)).drop sp)])[g4.length]?=some (.lst ((ms.map (Ze n)).drop sp)):=Qw _;generalize g4++[GO.lst ((ms.map (Ze n)).drop sp)]=g5 at k5 p5 s5;have a6:=Vx (k5.at' _ _ (by simp) p4) p5 (by simp;omega);have hD:((ms.map (Ze n)).take sp++[Ze n (.ends true sd),Ze n (.ends false sd)])++(ms.map (Ze n)).drop sp=(ms.take sp++.ends true sd::.ends false sd::ms.drop sp).map (Ze n):=by simp[RN,BA]
 rw[hD]at a6;have k6:Keeps [] g5 (g5++[.lst ((ms.take sp++.ends true sd::.ends false sd::ms.drop sp).map (Ze n))]):=.push _;have p6:(g5++[GO.lst ((ms.take sp++.ends true sd::.ends false sd::ms.drop sp).map (Ze n))])[g5.length]?=some (.lst ((ms.take sp++.ends true sd::.ends false sd::ms.drop sp).map (Ze n))):=Qw _;generalize g5++[GO.lst ((ms.take sp++.ends true sd::.ends false sd::ms.drop sp).map (Ze n))]=g6 at a6 k6 p6;have K:=k2.trans (k3.trans (k4.trans (k5.trans k6)));refine⟨g5.length,ms.take sp++.ends true sd::.ends false sd::ms.drop sp,some (.int sp),some (.str (fc sd)),g6,?_,k1.trans ⟨K.len,λb o _ h=>K.at' b o (by simp) h⟩,K.at' _ _ (by simp) ga1,⟨gQ o _ _ sd (by rw[TJ];exact R.1),?_,?_⟩,p6⟩
 ·unfold J7;refine Qo [some (.fl (ns.map .int)),some (.ref a),x2,x3,x4,some (.int z),x6,x7,x8,x9,some (.ref r),x11,some (.int sp),x13,x14,x15,x16,x17] g1 (by rw[hsp];refine QR (Qr (x:=.int m) (y:=.int (ms.length+1)) (g1:=g1) (g2:=g1) ((QH (ds:=[.fl (ns.map .int),.ref a]) (g':=g) rfl).trans e1) (Qr (x:=.int ms.length) (y:=.int 1) (g1:=g1) (g2:=g1) (YN (x:=.ref r) (g1:=g1) rfl ?_) rfl rfl) (CN (by omega)));rw[PL (YO hr1),Ua]) ?_;refine Qo [some (.fl (ns.map .int)),some (.ref a),x2,x3,x4,some (.int z),x6,x7,x8,x9,some (.ref r),x11,some (.int sp),some (.str (fc sd)),x14,x15,x16,x17] g1 (QR (Qr (x:=.str "lr") (y:=.int (z/180%2)) (g1:=g1) (g2:=g1) rfl (Qr (x:=.int (z/180)) (y:=.int 2) (g1:=g1) (g2:=g1) (Qr rfl rfl (GZ (by decide) (by decide))) rfl (CN (by decide))) e2)) ?_;exact QR (Qr (x:=.ref g3.length) (y:=.ref g4.length) (g1:=g4) (g2:=g5) (Qr (x:=.ref g1.length) (y:=.ref g2.length) (g1:=g2) (g2:=g3) s2 e3 a4) s5 a6)
 ·have h:=R.2.1;rw[<-TJ sp ms,RT]at h;rw[RT,To,To];simpa[EI]using h
 ·simp;omega
end
def A0(n t c:Nat):Nat:=VE n (2*n+3) c-VE n t c+VE n t (c+1)
theorem bY{n:Nat}{ds:List D}{y:D}{σ:S3}{g g2:G}{o e:ME}(ho:o σ g=.ok (.ref n) g)(h:g[n]?=some (.lst ds))(he:e σ g=.ok y g2)(h2:g2[n]?=some (.lst ds))(hz:ds.length<SZ):
  Zf (ZT o e) σ g=.nx σ (g2.set n (.lst (ds++[y]))):=by
 refine Yt (d:=.non) ?_;simp[ZT,ho,he,Res.bind,h,h2,hz]
section
variable{n:Nat}
theorem qL{q e t r i:Nat}{w:List Int}{x0 x1 x2 x5 x8 x9 x10 x11 x12 x13 x14 x17:Option D}{ds:List D}{g:G}(n0:0<n)(n4:n<=4)(hw:w.length=n)(he:e<4)(ht:t<2*n+3)(hi:i<4)(hq:g[q]?=some (.lst ((Zh n).map (Ze n))))(hr:g[r]?=some (.lst ds))(hds:ds.length<=100):
  ∃y17 g',J8 [x0,x1,x2,some (.tup (w.map .int)),some (.ref q),x5,some (.int e),some (.int t),x8,x9,x10,x11,x12,x13,x14,some (.ref r),some (.int i),x17] g=.nx [x0,x1,x2,some (.tup (w.map .int)),some (.ref q),x5,some (.int e),some (.int t),x8,x9,x10,x11,x12,x13,x14,some (.ref r),some (.int i),y17] g'/\Keeps [r] g g'/\g'[r]?=some (.lst (ds++[.int (A0 n t (e+i))])):=by
 have k1:Keeps [] g (g++[.lst (((Zh n).map (Ze n)).drop t)]):=.push _;have p1:(g++[GO.lst (((Zh n).map (Ze n)).drop t)])[g.length]?=some (.lst (((Zh n).map (Ze n)).drop t)):=Qw _;have s1:=LM (o:=Qa 4) (i:=Qa 7) (σ:=[x0,x1,x2,some (.tup (w.map .int)),some (.ref q),x5,some (.int e),some (.int t),x8,x9,x10,x11,x12,x13,x14,some (.ref r),some (.int i),x17]) rfl rfl hq;generalize g++[GO.lst (((Zh n).map (Ze n)).drop t)]=g1 at k1 p1 s1;have r1:=Sm (n:=n) (n':=n) (c:=e+i) (ms:=(Zh n).drop t) (y:=.ref g.length) (b:=true) (g:=g1) (by rw[YO p1,BA]) n4 (by omega);rw[(Sl n0 n4 ht (show e+i<9 by omega)).1.2.1]at r1;have hlen:∀(σ:S3)(g:G),σ[3]?=some (some (.tup (w.map .int)))->Qu Zg (Qa 3) σ g=.ok (.int n) g:=λσ g h=>YN (x:=.tup (w.map .int)) (g1:=g) (by unfold Qa;rw[h]) (by show Res.ok (D.int (w.map D.int).length) g=_;rw[Ua,hw]);have a1:Qy (Qm 17) (Qs ZI (Qc (Q7 (Qa 4) (Zv (Qa 7)) QV) (Qc (Qu Zg (Qa 3)) (Qc (Qd QC (Qa 6) (Qa 16)) Ql)))) [x0,x1,x2,some (.tup (w.map .int)),some (.ref q),x5,some (.int e),some (.int t),x8,x9,x10,x11,x12,x13,x14,some (.ref r),some (.int i),x17] g=.nx [x0,x1,x2,some (.tup (w.map .int)),some (.ref q),x5,some (.int e),some (.int t),x8,x9,x10,x11,x12,x13,x14,some (.ref r),some (.int i),some (.int (VE n (2*n+3) (e+i) - VE n t (e+i):Nat))] g1:=QR ((QH (QK s1 (QK (g1:=g1) (hlen _ g1 rfl) (QK (x:=.int ((e+i:Nat):Int)) (g1:=g1) rfl rfl)))).trans r1)
 have hq1:=k1.at' _ _ (by simp) hq;have hr1:=k1.at' _ _ (by simp) hr;have k2:Keeps [] g1 (g1++[.lst (((Zh n).map (Ze n)).take t)]):=.push _;have p2:(g1++[GO.lst (((Zh n).map (Ze n)).take t)])[g1.length]?=some (.lst (((Zh n).map (Ze n)).take t)):=Qw _;have s2:=Nq (o:=Qa 4) (i:=Qa 7) (σ:=[x0,x1,x2,some (.tup (w.map .int)),some (.ref q),x5,some (.int e),some (.int t),x8,x9,x10,x11,x12,x13,x14,some (.ref r),some (.int i),some (.int (VE n (2*n+3) (e+i) - VE n t (e+i):Nat))]) rfl rfl hq1;generalize g1++[GO.lst (((Zh n).map (Ze n)).take t)]=g2 at k2 p2 s2;have r2:=Sm (n:=n) (n':=n) (c:=e+i+1) (ms:=(Zh n).take t) (y:=.ref g1.length) (b:=true) (g:=g2) (by rw[YO p2,RN]) n4 (by omega);rw[(Sl n0 n4 ht (show e+i+1<9 by omega)).1.1]at r2;have hr2:=k2.at' _ _ (by simp) hr1;have ev:Qd QC (Qa 17) (Qs ZI (Qc (Q7 (Qa 4) QV (Zv (Qa 7))) (Qc (Qu Zg (Qa 3)) (Qc (Qd QC (Qd QC (Qa 6) (Qa 16)) (mI 1)) Ql)))) [x0,x1,x2,some (.tup (w.map .int)),some (.ref q),x5,some (.int e),some (.int t),x8,x9,x10,x11,x12,x13,x14,some (.ref r),some (.int i),some (.int (VE n (2*n+3) (e+i) - VE n t (e+i):Nat))] g1=.ok (.int (A0 n t (e+i))) g2:=by refine Qr (x:=.int (VE n (2*n+3) (e+i) - VE n t (e+i):Nat)) (y:=.int (VE n t (e+i+1))) (g1:=g1) (g2:=g2) rfl ((QH (QK s2 (QK (g1:=g2) (hlen _ g2 rfl) (QK (x:=.int ((e+i+1:Nat):Int)) (g1:=g2) rfl rfl)))).trans r2) ?_;show Res.ok (D.int (((VE n (2*n+3) (e+i) - VE n t (e+i):Nat):Int)+(VE n t (e+i+1):Nat))) g2=_;unfold A0;rw[Rr]
 refine⟨some (.int (VE n (2*n+3) (e+i) - VE n t (e+i):Nat)),g2.set r (.lst (ds++[.int (A0 n t (e+i))])),?_,?_,Zb hr2⟩
 ·unfold J8;exact Qo _ g1 a1 (bY rfl hr1 ev hr2 (Vw (by omega)))
 ·exact(k1.trans k2).all.trans (.set _ _)
end
section
variable{rows:List (List D)}{n N m:Nat}{nw fw:List Int}
theorem gY(n:Nat)(n0:0<n):(Zh n).length=2*n+3:=by unfold Zh;simp;omega
theorem mL(ns:List Int){a e t r c:Nat}{z k:Int}{x2 x3 x4 x6 x7 x8 x9 x11 x12 x13 x14 x15 x16 x17:Option D}{ms:List Mo}{g:G}(o:EF n 10 (Jf n e t)=true)(hc:c<=2)(R:Hs n e t 10 ms)(ga:g[a]?=some (.lst [.int k]))(hk:0<=k)(hk2:k<800000000)(hr:g[r]?=some (.lst (ms.map (Ze n)))){it:MI}(hit:it [some (.fl (ns.map .int)),some (.ref a),x2,x3,x4,some (.int z),x6,x7,x8,x9,some (.ref r),x11,x12,x13,x14,x15,x16,x17] g=.ok (Zu 0 c) g):
  ∃r' ms' y11 y12 y13 g',YF it (Qm 11) J7 [some (.fl (ns.map .int)),some (.ref a),x2,x3,x4,some (.int z),x6,x7,x8,x9,some (.ref r),x11,x12,x13,x14,x15,x16,x17] g=.nx [some (.fl (ns.map .int)),some (.ref a),x2,x3,x4,some (.int z),x6,x7,x8,x9,some (.ref r'),y11,y12,y13,x14,x15,x16,x17] g'/\Keeps [a] g g'/\g'[a]?=some (.lst [.int (k+c)])/\EF n (10+c) (Jf n e t)=true/\Hs n e t (10+c) ms'/\g'[r']?=some (.lst (ms'.map (Ze n))):=by
 obtain⟨σ',g',e3,r',ms',y11,y12,y13,rfl,k2,ga2,o2,R2,hr2⟩:=Yi (t:=Qm 11) (body:=J7) (lo:=0) (n:=c) (σ:=[some (.fl (ns.map .int)),some (.ref a),x2,x3,x4,some (.int z),x6,x7,x8,x9,some (.ref r),x11,x12,x13,x14,x15,x16,x17]) (g:=g)
  (λi σ g'=>∃r' ms' y11 y12 y13,σ=[some (.fl (ns.map .int)),some (.ref a),x2,x3,x4,some (.int z),x6,x7,x8,x9,some (.ref r'),y11,y12,y13,x14,x15,x16,x17]/\Keeps [a] g g'/\g'[a]?=some (.lst [.int (k+i)])/\EF n (10+i) (Jf n e t)=true/\Hs n e t (10+i) ms'/\g'[r']?=some (.lst (ms'.map (Ze n)))) ⟨r,ms,x11,x12,x13,rfl,.refl,by simpa using ga,o,R,hr⟩ (λi σ g1 hi hQ=>by obtain⟨r1,ms1,y11,y12,y13,rfl,k1,ga1,o1,R1,hr1⟩:=hQ;obtain⟨r2,ms2,z12,z13,g2,e2,k2,ga2,R2,hr2⟩:=qK (tt:=0) (q:=0) (x2:=x2) (x3:=x3) (x4:=x4) (z:=z) (x6:=x6) (x7:=x7) (x8:=x8) (x9:=x9) (x11:=some (.int (0+i))) (x12:=y12) (x13:=y13) (x14:=x14) (x15:=x15) (x16:=x16) (x17:=x17) ns o1 (by omega) R1 ga1 (by omega) (by omega) hr1;refine⟨_,_,g2,rfl,e2,r2,ms2,_,z12,z13,rfl,k1.trans k2,?_,EG o1,R2,hr2⟩;rw[ga2,show k+(i:Int)+1=k+((i+1:Nat):Int) by omega])
 exact⟨r',ms',y11,y12,y13,g',(Yp hit).trans e3,k2,ga2,o2,R2,hr2⟩
theorem mM{q e t r:Nat}{w:List Int}{x0 x1 x2 x5 x8 x9 x10 x11 x12 x13 x14 x16 x17:Option D}{g:G}(n0:0<n)(n4:n<=4)(hw:w.length=n)(he:e<4)(ht:t<2*n+3)(hq:g[q]?=some (.lst ((Zh n).map (Ze n))))(hr:g[r]?=some (.lst []))(hqr:q≠r):
  ∃y16 y17 g',YF (QJ (mI 4)) (Qm 16) J8 [x0,x1,x2,some (.tup (w.map .int)),some (.ref q),x5,some (.int e),some (.int t),x8,x9,x10,x11,x12,x13,x14,some (.ref r),x16,x17] g=.nx [x0,x1,x2,some (.tup (w.map .int)),some (.ref q),x5,some (.int e),some (.int t),x8,x9,x10,x11,x12,x13,x14,some (.ref r),y16,y17] g'/\Keeps [r] g g'/\g'[r]?=some (.lst ((List.range 4).map λc=>.int (A0 n t (e+c)))):=by
 obtain⟨σ',g',e3,y16,y17,rfl,k2,hr2⟩:=Yi (t:=Qm 16) (body:=J8) (lo:=0) (n:=4) (σ:=[x0,x1,x2,some (.tup (w.map .int)),some (.ref q),x5,some (.int e),some (.int t),x8,x9,x10,x11,x12,x13,x14,some (.ref r),x16,x17]) (g:=g)
  (λi σ g'=>∃y16 y17,σ=[x0,x1,x2,some (.tup (w.map .int)),some (.ref q),x5,some (.int e),some (.int t),x8,x9,x10,x11,x12,x13,x14,some (.ref r),y16,y17]/\Keeps [r] g g'/\g'[r]?=some (.lst ((List.range i).map λc=>.int (A0 n t (e+c))))) ⟨x16,x17,rfl,.refl,hr⟩ (λi σ g1 hi hQ=>by obtain⟨y16,y17,rfl,k1,hr1⟩:=hQ;obtain⟨z17,g2,e2,k2,hr2⟩:=qL (x0:=x0) (x1:=x1) (x2:=x2) (x5:=x5) (x8:=x8) (x9:=x9) (x10:=x10) (x11:=x11) (x12:=x12) (x13:=x13) (x14:=x14) (x17:=y17) n0 n4 hw he ht hi (k1.at' _ _ (by simpa using hqr) hq) hr1 (by simp;omega);refine⟨[x0,x1,x2,some (.tup (w.map .int)),some (.ref q),x5,some (.int e),some (.int t),x8,x9,x10,x11,x12,x13,x14,some (.ref r),some (.int (0+i)),y17],_,g2,rfl,by rw[TF];exact e2,_,_,rfl,k1.trans k2,?_⟩;rw[hr2,WQ,UC];rfl)
 exact⟨y16,y17,g',(Yp (ZR (n:=4) rfl (Xh (by omega)))).trans e3,k2,hr2⟩
end
section
variable{rows:List (List D)}{n N m:Nat}{nw fw:List Int}
theorem bZ(h:Rl rows n N m nw fw)(T:Tb rows N m)(ns:List Int){a tt q N0:Nat}{k:Int}{g:G}(ga:g[a]?=some (.lst [.int k]))(hk:0<=k)(hk2:k<700000000)(ht:tabOf N0 g tt rows)(haN:a<N0)(hq:g[q]?=some (.lst ((Zh n).map (Ze n))))(hqa:q≠a):
  ∃(e t b:Nat)(ms:List Mo)(r rd:Nat)(k':Int)(g':G),e<4/\t<2*n+3/\b<=12/\E8 [.fl (ns.map .int),.ref a,.ref tt,.tup (nw.map .int),.ref q] g=.ok (.tup [.tup [.str "grow",.int (Hj n t e),YE nw fw (Jf n e t),.ref r],.ref rd]) g'/\Keeps [a] g g'/\g'[a]?=some (.lst [.int k'])/\(k<=k'/\k'<=k+3)/\EF n b (Jf n e t)=true/\Hs n e t b ms/\g'[r]?=some (.lst (ms.map (Ze n)))/\g'[rd]?=some (.lst ((List.range 4).map λc=>.int (A0 n t (e+c)))):=by
 have n0:=h.B.n0;have n4:=h.B.n4;have nl:=h.B.nl;have hml:=gY n n0;obtain⟨z,z0,z1,e1⟩:=B8 ns a k g ga hk (by omega);have k1:Keeps [a] g (g.set a (.lst [.int (k+1)])):=.set _ _;have ga1:(g.set a (.lst [.int (k+1)]))[a]?=some (.lst [.int (k+1)]):=Zb ga;have hq1:(g.set a (.lst [.int (k+1)]))[q]?=some (.lst ((Zh n).map (Ze n))):=by rw[Uh (Ne.symm hqa)];exact hq
 have ht1:=ht.mono k1 (by simpa using haN);generalize g.set a (.lst [.int (k+1)])=g1 at e1 k1 ga1 hq1 ht1;have r0:=UT z (show(4:Int)≠0 by decide);have r1:=UK z (show(0:Int)<4 by decide);obtain⟨e,he⟩:∃e:Nat,(e:Int)=z%4:=⟨(z%4).toNat,by omega⟩;have t0:=UT (z/4) (show(2*(n:Int)+3)≠0 by omega);have t1:=UK (z/4) (show 0<2*(n:Int)+3 by omega);obtain⟨t,htt⟩:∃t:Nat,(t:Int)=z/4 % (2*n+3):=⟨(z/4 % (2*n+3)).toNat,by omega⟩;have he4:e<4:=by omega
 have ht3:t<2*n+3:=by omega
 have c0:=UT (z/60) (show(3:Int)≠0 by decide);have c1:=UK (z/60) (show(0:Int)<3 by decide);obtain⟨c,hc⟩:∃c:Nat,(c:Int)=z/60%3:=⟨(z/60%3).toNat,by omega⟩;obtain⟨o,_,hrow⟩:=bX n0 n4 he4 ht3
 -- the shape
 have k2:Keeps [] g1 (g1++[.lst (((Zh n).map (Ze n)).take t)]):=.push _;have p2:(g1++[GO.lst (((Zh n).map (Ze n)).take t)])[g1.length]?=some (.lst (((Zh n).map (Ze n)).take t)):=Qw _;have s2:=Nq (o:=Qa 4) (i:=Qa 7) (σ:=[some (.fl (ns.map .int)),some (.ref a),some (.ref tt),some (.tup (nw.map .int)),some (.ref q),some (.int z),some (.int e),some (.int t),some (YE nw fw (Jf n e 0)),none,none,none,none,none,none,none,none,none]) rfl rfl hq1;generalize g1++[GO.lst (((Zh n).map (Ze n)).take t)]=g2 at k2 p2 s2;obtain⟨g3,x9,k3,e3⟩:=qJ (x0:=some (.fl (ns.map .int))) (x1:=some (.ref a)) (x3:=some (.tup (nw.map .int))) (x4:=some (.ref q)) (x5:=some (.int z)) (x6:=some (.int e)) (x7:=some (.int t)) (x10:=none) (x11:=none) (x12:=none) (x13:=none) (x14:=none) (x15:=none) (x16:=none) (x17:=none) (y:=.ref g1.length) (b:=true) h T (ht1.mono k2 (by simp)) he4 ht3 (by rw[YO p2,RN]);have e3':=e3 (QQ (Q7 (Qa 4) QV (Zv (Qa 7)))) g1 (λsrc hs=>by unfold QQ;rw[s2,Res.bind_ok];exact hs);have K3:=k2.trans k3;have hq3:=K3.at' _ _ (by simp) hq1;have ga3:=K3.at' _ _ (by simp) ga1
 -- the row
 have k4:Keeps [] g3 (g3++[.lst (((Zh n).map (Ze n)).drop t)]):=.push _;have p4:(g3++[GO.lst (((Zh n).map (Ze n)).drop t)])[g3.length]?=some (.lst (((Zh n).map (Ze n)).drop t)):=Qw _;have s4:=LM (o:=Qa 4) (i:=Qa 7) (σ:=[some (.fl (ns.map .int)),some (.ref a),some (.ref tt),some (.tup (nw.map .int)),some (.ref q),some (.int z),some (.int e),some (.int t),some (YE nw fw (Jf n e t)),x9,none,none,none,none,none,none,none,none]) rfl rfl hq3;generalize g3++[GO.lst (((Zh n).map (Ze n)).drop t)]=g4 at k4 p4 s4;have hq4:=k4.at' _ _ (by simp) hq3;have k5:Keeps [] g4 (g4++[.lst (((Zh n).map (Ze n)).take t)]):=.push _;have p5:(g4++[GO.lst (((Zh n).map (Ze n)).take t)])[g4.length]?=some (.lst (((Zh n).map (Ze n)).take t)):=Qw _;have s5:=Nq (o:=Qa 4) (i:=Qa 7) (σ:=[some (.fl (ns.map .int)),some (.ref a),some (.ref tt),some (.tup (nw.map .int)),some (.ref q),some (.int z),some (.int e),some (.int t),some (YE nw fw (Jf n e t)),x9,none,none,none,none,none,none,none,none]) rfl rfl hq4;generalize g4++[GO.lst (((Zh n).map (Ze n)).take t)]=g5 at k5 p5 s5;have a6:=Vx (k5.at' _ _ (by simp) p4) p5 (by simp;omega);have hD:((Zh n).map (Ze n)).drop t++((Zh n).map (Ze n)).take t=((Zh n).drop t++(Zh n).take t).map (Ze n):=by rw[UC,BA,RN]
 rw[hD]at a6;have k6:Keeps [] g5 (g5++[.lst (((Zh n).drop t++(Zh n).take t).map (Ze n))]):=.push _;have p6:(g5++[GO.lst (((Zh n).drop t++(Zh n).take t).map (Ze n))])[g5.length]?=some (.lst (((Zh n).drop t++(Zh n).take t).map (Ze n))):=Qw _;generalize g5++[GO.lst (((Zh n).drop t++(Zh n).take t).map (Ze n))]=g6 at a6 k6 p6;have K6:=K3.trans (k4.trans (k5.trans k6));have ga6:=K6.at' _ _ (by simp) ga1;have hst:(Zh n).any EI=true:=by unfold Zh;simp[EI]
 have R6:Hs n e t 10 ((Zh n).drop t++(Zh n).take t):=⟨hrow,by rw[<-TJ t (Zh n),RT]at hst;rw[RT,Bool.or_comm];exact hst,by rw[Us,TW,UW];omega⟩;obtain⟨r,ms,y11,y12,y13,g7,e7,k7,ga7,o7,R7,hr7⟩:=mL (c:=c) (z:=z) (x2:=some (.ref tt)) (x3:=some (.tup (nw.map .int))) (x4:=some (.ref q)) (x6:=some (.int e)) (x7:=some (.int t)) (x8:=some (YE nw fw (Jf n e t))) (x9:=x9) (x11:=none) (x12:=none) (x13:=none) (x14:=none) (x15:=none) (x16:=none) (x17:=none) (it:=QJ (Qd Yg (Qd Yw (Qa 5) (mI 60)) (mI 3))) ns o (by omega) R6 ga6 (by omega) (by omega) p6 (ZR (n:=c) (by rw[hc];exact Qr (x:=.int (z/60)) (y:=.int 3) (g1:=g6) (g2:=g6) (Qr rfl rfl (GZ (by decide) (by decide))) rfl (CN (by decide))) (Xh (by omega)));have hq6:=K6.at' _ _ (by simp) hq1;have hq7:=k7.at' _ _ (by simpa using hqa) hq6
 -- the start
 have k8:Keeps [] g7 (g7++[.lst (((Zh n).map (Ze n)).take t)]):=.push _;have p8:(g7++[GO.lst (((Zh n).map (Ze n)).take t)])[g7.length]?=some (.lst (((Zh n).map (Ze n)).take t)):=Qw _;have s8:=Nq (o:=Qa 4) (i:=Qa 7) (σ:=[some (.fl (ns.map .int)),some (.ref a),some (.ref tt),some (.tup (nw.map .int)),some (.ref q),some (.int z),some (.int e),some (.int t),some (YE nw fw (Jf n e t)),x9,some (.ref r),y11,y12,y13,none,none,none,none]) rfl rfl hq7;generalize g7++[GO.lst (((Zh n).map (Ze n)).take t)]=g8 at k8 p8 s8;have hq8:=k8.at' _ _ (by simp) hq7;have st8:=bW (y:=.ref g7.length) (b:=true) n0 n4 ht3 he4 hq8 (by rw[YO p8,RN]);have k9:Keeps [] g8 (g8++[.lst []]):=.push _;have p9:(g8++[GO.lst []])[g8.length]?=some (.lst []):=Qw _;have hq9:=k9.at' _ _ (by simp) hq8;have hql:q<g8.length:=ZB hq8;have e9:QA JS Ql [some (.fl (ns.map .int)),some (.ref a),some (.ref tt),some (.tup (nw.map .int)),some (.ref q),some (.int z),some (.int e),some (.int t),some (YE nw fw (Jf n e t)),x9,some (.ref r),y11,y12,y13,some (.int (Hj n t e)),none,none,none] g8=.ok (.ref g8.length) (g8++[.lst []]):=rfl;generalize g8++[GO.lst []]=g9 at k9 p9 hq9 e9;obtain⟨y16,y17,g10,e10,k10,p10⟩:=mM (x0:=some (.fl (ns.map .int))) (x1:=some (.ref a)) (x2:=some (.ref tt)) (x5:=some (.int z)) (x8:=some (YE nw fw (Jf n e t))) (x9:=x9) (x10:=some (.ref r)) (x11:=y11) (x12:=y12) (x13:=y13) (x14:=some (.int (Hj n t e))) (x16:=none) (x17:=none) n0 n4 nl he4 ht3 hq9 p9 (by omega);have K9:=k8.trans k9;have hal:a<g8.length:=ZB (k8.at' _ _ (by simp) ga7);have hrl:r<g8.length:=ZB (k8.at' _ _ (by simp) hr7);refine⟨e,t,10+c,ms,r,g8.length,k+1+c,g10,he4,ht3,by omega,Zm rfl ?_,?_,k10.at' _ _ (by simp;omega) (K9.at' _ _ (by simp) ga7),by omega,o7,R7,k10.at' _ _ (by simp;omega) (K9.at' _ _ (by simp) hr7),p10⟩
 ·show E7 [some (.fl (ns.map .int)),some (.ref a),some (.ref tt),some (.tup (nw.map .int)),some (.ref q),none,none,none,none,none,none,none,none,none,none,none,none,none] g=_;unfold E7;refine Qo [some (.fl (ns.map .int)),some (.ref a),some (.ref tt),some (.tup (nw.map .int)),some (.ref q),some (.int z),none,none,none,none,none,none,none,none,none,none,none,none] g1 (QR ((QH (ds:=[.fl (ns.map .int),.ref a]) (g':=g) rfl).trans e1)) ?_;refine Qo [some (.fl (ns.map .int)),some (.ref a),some (.ref tt),some (.tup (nw.map .int)),some (.ref q),some (.int z),some (.int e),none,none,none,none,none,none,none,none,none,none,none] g1 (by rw[he];exact QR (Qr rfl rfl (CN (by decide)))) ?_;refine Qo [some (.fl (ns.map .int)),some (.ref a),some (.ref tt),some (.tup (nw.map .int)),some (.ref q),some (.int z),some (.int e),some (.int t),none,none,none,none,none,none,none,none,none,none] g1 (by rw[htt];refine QR (Qr (x:=.int (z/4)) (y:=.int (2*n+3)) (g1:=g1) (g2:=g1) (Qr rfl rfl (GZ (by decide) (by decide))) (YN (x:=.ref q) (g1:=g1) rfl ?_) (CN (by omega)));rw[PL (YO hq1),Ua,hml];rfl) ?_;refine Qo [some (.fl (ns.map .int)),some (.ref a),some (.ref tt),some (.tup (nw.map .int)),some (.ref q),some (.int z),some (.int e),some (.int t),some (YE nw fw (Jf n e 0)),none,none,none,none,none,none,none,none,none] g1 (QR rfl) ?_;refine Qo _ g3 e3' ?_;refine Qo [some (.fl (ns.map .int)),some (.ref a),some (.ref tt),some (.tup (nw.map .int)),some (.ref q),some (.int z),some (.int e),some (.int t),some (YE nw fw (Jf n e t)),x9,some (.ref g5.length),none,none,none,none,none,none,none] g6 (QR (Qr (x:=.ref g3.length) (y:=.ref g4.length) (g1:=g4) (g2:=g5) s4 s5 a6)) ?_;refine Qo _ g7 e7 ?_;refine Qo [some (.fl (ns.map .int)),some (.ref a),some (.ref tt),some (.tup (nw.map .int)),some (.ref q),some (.int z),some (.int e),some (.int t),some (YE nw fw (Jf n e t)),x9,some (.ref r),y11,y12,y13,some (.int (Hj n t e)),none,none,none] g8 (QR ((QH (ds:=[.ref q,.ref g7.length,.int n,.int e]) (g':=g8) (QK (g1:=g7) rfl (QK s8 (QK (g1:=g8) (YN (x:=.tup (nw.map .int)) (g1:=g8) rfl (by show Res.ok (D.int (nw.map D.int).length) g8=_;rw[Ua,nl])) (QK (g1:=g8) rfl rfl))))).trans st8)) ?_;refine Qo _ g9 (QR e9) ?_;refine Qo _ g10 e10 ?_;exact Yy rfl
 ·refine k1.trans ⟨Um K6.len (Um k7.len (Um K9.len k10.len)),λb o hb eb=>?_⟩;have w6:=K6.at' b o (by simp) eb;have w7:=k7.at' b o hb w6;have w9:=K9.at' b o (by simp) w7;exact k10.at' b o (by have:=ZB (k8.at' b o (by simp) w7);simp;omega) w9
end
def vK:Bool:=(List.range 4).all λk=>(List.range (2*k+5)).all λt=>(List.range 4).all λe=>decide (LL (Jf (k+1) e t)=Jf (k+1) (e+1) t/\Hj (k+1) t e<250)&&(List.range 5).all λc=>decide (Jq (k+1) c (Jf (k+1) e t)=Jq (k+1) (e+c) (Jf (k+1) 0 t)/\((Jf (k+1) e t).2.1=false->Xj (k+1) c (Jf (k+1) e t).2.2.1≠[])/\A0 (k+1) t (e+c)<=300)
theorem qM:vK=true:=by decide +kernel
theorem cA{n e t:Nat}(n0:0<n)(n4:n<=4)(he:e<4)(ht:t<2*n+3):(LL (Jf n e t)=Jf n (e+1) t/\Hj n t e<250)/\∀c,c<5->(Jq n c (Jf n e t)=Jq n (e+c) (Jf n 0 t)/\((Jf n e t).2.1=false->Xj n c (Jf n e t).2.2.1≠[])/\A0 n t (e+c)<=300):=by have h:=Uu.mp (Uu.mp (Uu.mp qM (n-1) (UM.mpr (by omega))) t (UM.mpr (by omega))) e (UM.mpr he);rw[UG,show n-1+1=n by omega]at h;exact⟨UN h.1,λc hc=>UN (Uu.mp h.2 c (UM.mpr hc))⟩
theorem iZ{n e t:Nat}(n0:0<n)(n4:n<=4)(he:e<4)(ht:t<2*n+3):ED n (Hj n t e) (0,[],[])=some (Jq n 0 (Jf n e t))/\∀c,c<4->ED n (A0 n t (e+c)) (Jq n c (Jf n e t))=some (Jq n (c+1) (Jf n e t)):=by have h:=Uu.mp (Uu.mp gN (n-1) (UM.mpr (by omega))) t (UM.mpr (by omega));rw[UG,show n-1+1=n by omega]at h;have hb:=(cA n0 n4 he ht).2;refine⟨UN (Uu.mp h.1 e (UM.mpr he)),λc hc=>?_⟩;rw[(hb c (by omega)).1,(hb (c+1) (by omega)).1];exact UN (Uu.mp h.2 (e+c) (UM.mpr (by omega)))
section
variable{rows:List (List D)}{n N m:Nat}{nw fw:List Int}
theorem mO(B:Bo rows n nw fw)(c:Nat)(s:Sa)(p x:Int):(LJ nw fw (Jq n c s) p).2.2 (x+(p-C6 s.2.1))=Tp c (s.2.2.1.map (rT nw fw)) (s.2.2.2.map (rT nw fw)) x:=by
 have hS:∀(A:List Nat)(i:Nat),sR (A.map (ph nw fw)) i=ph nw fw (A.getD i 0):=λA i=>by unfold sR;rw[Uy,U1];cases A[i]? <;> rfl
 unfold Tp;rw[BM B,BM B,<-WC];unfold LJ Jq tp;simp only[hS];generalize (Xj n c s.2.2.1).reverse=l;generalize Xj n c s.2.2.2=r;cases s.2.1 with
 |true =>simp only[RI,C6];rw[show x+(p-0) - p=x by omega]|false=>
  simp only[C6,TZ,Re];rw[show x+(p - -1) - p=x+1 by omega];by_cases h:x+1<0
  ·rw[Ub h,Ub (by omega),Fj,show(-1 - (x+1)).toNat+1=(-1-x).toNat by omega]
  ·rw[Ud h];by_cases h2:x<0
   ·rw[Ub h2,show(x+1).toNat=0 by omega,show(-1-x).toNat=0 by omega];cases l<;>rfl
   ·rw[Ud h2,show(x+1).toNat=x.toNat+1 by omega];rfl
theorem Sn{gB g:G}{N0 tt r d B k:Nat}{u v:Cg}(T:Tbl rows N m)(ht:tabOf N0 gB tt rows)(R:Run gB g r d N m B u)(S:Stps rows k u v)(hB:B+k<=100000){x0 x1 x3 x4 x5 x6 x7 x8 x10 x11:Option D}{it:MI}(hit:it [x0,x1,some (.ref tt),x3,x4,x5,x6,x7,x8,some (.ref r),x10,x11] g=.ok (Zu 0 k) g):
  ∃y g',YF it (Qm 10) Vd [x0,x1,some (.ref tt),x3,x4,x5,x6,x7,x8,some (.ref r),x10,x11] g=.nx [x0,x1,some (.ref tt),x3,x4,x5,x6,x7,x8,some (.ref r),y,x11] g'/\Run gB g' r d N m (B+k) v:=by
 obtain⟨σ',g',e,⟨y,rfl⟩,u',S',R'⟩:=Yi (t:=Qm 10) (body:=Vd) (lo:=0) (n:=k) (σ:=[x0,x1,some (.ref tt),x3,x4,x5,x6,x7,x8,some (.ref r),x10,x11]) (g:=g)
  (λi σ g'=>(∃y,σ=[x0,x1,some (.ref tt),x3,x4,x5,x6,x7,x8,some (.ref r),y,x11])/\∃u',Stps rows (k-i) u' v/\Run gB g' r d N m (B+i) u') ⟨⟨_,rfl⟩,u,S,R⟩ (λi σ g1 hi hQ=>by
   obtain⟨⟨y,rfl⟩,u',S',R'⟩:=hQ;obtain⟨j,hj⟩:∃j,k-i=j+1:=⟨k-i-1,by omega⟩;rw[hj]at S';cases S' with
   |cons s1 s2 =>obtain⟨g2,e2,R2⟩:=R'.go ht T (by omega) s1;refine⟨_,[x0,x1,some (.ref tt),x3,x4,x5,x6,x7,x8,some (.ref r),some (.int (0+i)),x11],g2,rfl,?_,⟨_,rfl⟩,_,by rw[show k - (i+1)=j by omega];exact s2,R2⟩;unfold Vd;exact Jo g2 (Fh (Zq ((QH (ds:=[.ref tt,.ref r]) (g':=g1) rfl).trans e2))) rfl)
 rw[Nat.sub_self]at S';cases S';exact⟨y,g',(Yp hit).trans e,R'⟩
theorem AI{gB g:G}{r d B c b:Nat}{p:Int}{s:Sa}(h:Rl rows n N m nw fw)(hb:b<=140)(o:EF n b s=true)(hc:c<=4)(R:Run gB g r d N m B (LJ nw fw (Jq n c s) p)):∃g',Vt [.ref r,YE nw fw s,.int c] g=.ok (.bl true) g'/\Keeps [] g g':=by obtain⟨o1,o2,o3,o4,o5⟩:=okA_iff.mp o;obtain⟨ks,d1,d2,d3⟩:=R.d;refine Aq (by decide:6<=12) hc (h.tks o4) (h.tks o5) (by rw[Ua];omega) (by rw[Ua];omega) R.r d1 d2 ?_ (λx=>mO h.B c s p x);show((Jq n c s).1:Int)=s.1;unfold Jq;cases s.2.1<;>rfl
theorem Run.on{gB g g':G}{r d B:Nat}{u:Cg}(R:Run gB g r d N m B u)(k:Keeps [] g g'):Run gB g' r d N m B u:=
 let ⟨ks,d1,d2,d3⟩:=R.d
 ⟨R.k.trans k,R.r0,R.d0,R.st,R.rng,k.at' _ _ (by simp) R.r,ks,k.at' _ _ (by simp) d1,d2,d3⟩
theorem qN(B:Bo rows n nw fw){k:Nat}{z z':Zp}(p:Int)(h:ED n k z=some z'):∃p',Stps rows k (LJ nw fw z p) (LJ nw fw z' p'):=Se B k p h
theorem OH{gB g:G}{N0 tt r d e t b rd:Nat}{p:Int}(h:Rl rows n N m nw fw)(ht:tabOf N0 gB tt rows)(he:e<4)(htn:t<2*n+3)(hb:b<=140)(o:EF n b (Jf n e t)=true){B:Nat}(hB:B<=300)(R:Run gB g r d N m B (LJ nw fw (Jq n 0 (Jf n e t)) p))(hr:gB[rd]?=some (.lst ((List.range 4).map λc=>.int (A0 n t (e+c))))){x0 x1 x3 x4 x7 x8 x10:Option D}{u v w:D} :
  ∃y10 y11 g',YF (QJ (mI 5)) (Qm 11) Xf [x0,x1,some (.ref tt),x3,x4,some (.tup [u,v,YE nw fw (Jf n e t),w]),some (.ref rd),x7,x8,some (.ref r),x10,none] g=.nx [x0,x1,some (.ref tt),x3,x4,some (.tup [u,v,YE nw fw (Jf n e t),w]),some (.ref rd),x7,x8,some (.ref r),y10,y11] g'/\Keeps [] gB g':=by
 have n0:=h.B.n0;have n4:=h.B.n4;have hz:=(iZ n0 n4 he htn).2;have hq:=(cA n0 n4 he htn).2;obtain⟨σ',g',e1,⟨y10,y11,rfl⟩,k2,_⟩:=Yi (t:=Qm 11) (body:=Xf) (lo:=0) (n:=5) (σ:=[x0,x1,some (.ref tt),x3,x4,some (.tup [u,v,YE nw fw (Jf n e t),w]),some (.ref rd),x7,x8,some (.ref r),x10,none]) (g:=g)
  (λi σ g'=>(∃y10 y11,σ=[x0,x1,some (.ref tt),x3,x4,some (.tup [u,v,YE nw fw (Jf n e t),w]),some (.ref rd),x7,x8,some (.ref r),y10,y11])/\Keeps [] gB g'/\(i<5->∃p',Run gB g' r d N m (B+300*i) (LJ nw fw (Jq n i (Jf n e t)) p'))) ⟨⟨_,_,rfl⟩,R.k,λ_=>⟨p,R⟩⟩ (λi σ g1 hi hQ=>by
   obtain⟨⟨y10,y11,rfl⟩,_,hR⟩:=hQ;obtain⟨p1,R1⟩:=hR hi;obtain⟨g2,e2,k2⟩:=AI h hb o (by omega) R1;have R2:=R1.on k2;have s1:∀y10,Ye (Yq (Qn (Qs Vt (Qc (Qa 9) (Qc (Qd Qv (Qa 5) (mI 2)) (Qc (Qa 11) Ql)))))) (QU (Qp (.bl false))) QI [x0,x1,some (.ref tt),x3,x4,some (.tup [u,v,YE nw fw (Jf n e t),w]),some (.ref rd),x7,x8,some (.ref r),y10,some (.int i)] g1=.nx [x0,x1,some (.ref tt),x3,x4,some (.tup [u,v,YE nw fw (Jf n e t),w]),some (.ref rd),x7,x8,some (.ref r),y10,some (.int i)] g2:=λy10=>Jo g2 (Fh (Zq ((QH (ds:=[.ref r,YE nw fw (Jf n e t),.int i]) (g':=g1) rfl).trans e2))) rfl;by_cases c:i<4
   ·obtain⟨p2,S2⟩:=qN h.B p1 (hz i c);have hrd:=(hq i (by omega)).2.2;obtain⟨y,g3,e3,R3⟩:=Sn (it:=QJ (Qd Qv (Qa 6) (Qa 11))) (x0:=x0) (x1:=x1) (x3:=x3) (x4:=x4) (x5:=some (.tup [u,v,YE nw fw (Jf n e t),w])) (x6:=some (.ref rd)) (x7:=x7) (x8:=x8) (x10:=y10) (x11:=some (.int i)) h.T ht R2 S2 (by omega) (ZR (n:=A0 n t (e+i)) (Qr (x:=.ref rd) (y:=.int i) (g1:=g2) (g2:=g2) rfl rfl (LD (R2.k.at' _ _ (by simp) hr) (by omega) (by rw[US,Uy,List.getElem?_range c];rfl))) (Xh (by omega)));refine⟨_,[x0,x1,some (.ref tt),x3,x4,some (.tup [u,v,YE nw fw (Jf n e t),w]),some (.ref rd),x7,x8,some (.ref r),y,some (.int i)],g3,by rw[TF];rfl,?_,⟨_,_,rfl⟩,R3.k,λ_=>⟨p2,R3.k,R3.r0,R3.d0,R3.st,R3.rng,R3.r,?_⟩⟩
    ·unfold Xf;refine Qo _ g2 (s1 y10) (Ma g2 (Zq (Qr (x:=.int i) (y:=.int 4) (g1:=g2) (g2:=g2) rfl rfl ?_)) e3);show Res.ok (D.bl (decide ((i:Int)<4))) g2=_;rw[Uo (by omega)]
    ·obtain⟨ks,d1,d2,d3⟩:=R3.d;exact⟨ks,d1,d2,by omega⟩
   ·refine⟨_,[x0,x1,some (.ref tt),x3,x4,some (.tup [u,v,YE nw fw (Jf n e t),w]),some (.ref rd),x7,x8,some (.ref r),y10,some (.int i)],g2,by rw[TF];rfl,?_,⟨_,_,rfl⟩,R2.k,λz=>by omega⟩;unfold Xf;refine Qo _ g2 (s1 y10) (Jo g2 (Zq (Qr (x:=.int i) (y:=.int 4) (g1:=g2) (g2:=g2) rfl rfl ?_)) rfl);show Res.ok (D.bl (decide ((i:Int)<4))) g2=_;rw[Ul (by omega)])
 exact⟨y10,y11,g',(Yp (ZR (n:=5) rfl (Xh (by omega)))).trans e1,k2⟩
end
section
variable{rows:List (List D)}{n N m:Nat}{nw fw:List Int}
theorem AJ{s:Sa}{k z:Int}{r:Nat}{ms:List D}{g:G}(hr:g[r]?=some (.lst ms)):
  ∃g' d y c,CC [.tup [.str "grow",.int k,YE nw fw s,.ref r],.int z] g=.ok (.tup [.str "grow",.int k,d,y]) g'/\Keeps [] g g'/\ShIn nw fw g' s d/\QF g' y=some (c,ms):=by
 obtain⟨y,c,hy,e1⟩:∃y c,QF g y=some (c,ms)/\Ye (Qn (Qd Z8 (Qd Yg (Qa 1) (mI 2)) (mI 0))) (Qy (Qm 5) (Qu Zw (Qa 5))) QI [some (.tup [.str "grow",.int k,YE nw fw s,.ref r]),some (.int z),some (.str "grow"),some (.int k),some (YE nw fw s),some (.ref r)] g=.nx [some (.tup [.str "grow",.int k,YE nw fw s,.ref r]),some (.int z),some (.str "grow"),some (.int k),some (YE nw fw s),some y] g:=by
  by_cases h:z%2=0
  ·refine⟨.tup ms,false,rfl,Ma g (Zq (Qr (x:=.int (z%2)) (y:=.int 0) (g1:=g) (g2:=g) (Qr rfl rfl (CN (by decide))) rfl ?_)) (QR (YN (x:=.ref r) (g1:=g) rfl ?_))⟩
   ·show Res.ok (D.bl (z%2==0)) g=_;rw[h];rfl
   ·show(match g[r]? with|some (.lst ds)=>Res.ok (D.tup ds) g|_=>.stuck)=_;rw[hr]
  ·refine⟨.ref r,true,YO hr,Jo g (Zq (Qr (x:=.int (z%2)) (y:=.int 0) (g1:=g) (g2:=g) (Qr rfl rfl (CN (by decide))) rfl ?_)) rfl⟩;show Res.ok (D.bl (z%2==0)) g=_;rw[RS h]
 obtain⟨g',d,hd,kp,e2⟩:∃g' d,ShIn nw fw g' s d/\Keeps [] g g'/\Ye (Qn (Qd Z8 (Qd Yg (Qd Yw (Qa 1) (mI 2)) (mI 2)) (mI 0))) (Qy (Qm 4) (QA QO (Qc (Qd Qv (Qa 4) (mI 0)) (Qc (Qd Qv (Qa 4) (mI 1)) (Qc (Qu KO (Qd Qv (Qa 4) (mI 2))) (Qc (Qu KO (Qd Qv (Qa 4) (mI 3))) Ql)))))) QI [some (.tup [.str "grow",.int k,YE nw fw s,.ref r]),some (.int z),some (.str "grow"),some (.int k),some (YE nw fw s),some y] g=.nx [some (.tup [.str "grow",.int k,YE nw fw s,.ref r]),some (.int z),some (.str "grow"),some (.int k),some d,some y] g':=by
  by_cases h:z/2%2=0
  ·refine⟨_,_,?_,?_,Ma g (Zq (Qr (x:=.int (z/2%2)) (y:=.int 0) (g1:=g) (g2:=g) (Qr (x:=.int (z/2)) (y:=.int 2) (g1:=g) (g2:=g) (Qr rfl rfl (GZ (by decide) (by decide))) rfl (CN (by decide))) rfl ?_)) (QR (d:=.tup [.int s.1,.str (fc s.2.1),.ref g.length,.ref (g++[GO.lst ((s.2.2.1.map (rT nw fw)).map QS)]).length]) (g':=g++[.lst ((s.2.2.1.map (rT nw fw)).map QS)]++[.lst ((s.2.2.2.map (rT nw fw)).map QS)]) rfl)⟩
   ·exact⟨_,_,true,true,rfl,YO ((Keeps.push (S:=[]) _).at' _ _ (by simp) (Qw _)),YO (Qw _)⟩
   ·exact(Keeps.push _).trans (.push _)
   ·show Res.ok (D.bl (z/2%2==0)) g=_;rw[h];rfl
  ·refine⟨g,_,ShIn.sh g s,.refl,Jo g (Zq (Qr (x:=.int (z/2%2)) (y:=.int 0) (g1:=g) (g2:=g) (Qr (x:=.int (z/2)) (y:=.int 2) (g1:=g) (g2:=g) (Qr rfl rfl (GZ (by decide) (by decide))) rfl (CN (by decide))) rfl ?_)) rfl⟩;show Res.ok (D.bl (z/2%2==0)) g=_;rw[RS h]
 refine⟨g',d,y,c,Zm rfl ?_,kp,hd,QE hy kp⟩;show CB [some (.tup [.str "grow",.int k,YE nw fw s,.ref r]),some (.int z),none,none,none,none] g=_;unfold CB;exact Qo [some (.tup [.str "grow",.int k,YE nw fw s,.ref r]),some (.int z),some (.str "grow"),some (.int k),some (YE nw fw s),some (.ref r)] g rfl (Qo _ g e1 (Qo _ g' e2 (Yy rfl)))
theorem cB{d:D}{g:G}(h:entOk d n m):Xz g 6 d d=some true:=by
 rcases h with rfl|⟨i,j,w,rfl,_⟩
 ·rfl
 ·exact aJ g 4 2 _ (by simp[pq])
theorem Nr{g:G}:∀r:List D,(∀d∈r,entOk d n m)->YQ (Xz g 6) r r=some true
 |[],_=>rfl|d::r,h=>by unfold YQ;rw[cB (h d UB),Nr r λx hx=>h x (Uv _ hx)];rfl
theorem IW{g:G}:∀(rows:List (List D))(A B:List D),(∀r∈rows,∀d∈r,entOk d n m)->A.length=rows.length->B.length=rows.length->(∀(i:Nat) x r,A[i]?=some x->rows[i]?=some r->∃j,x=.ref j/\g[j]?=some (.lst r))->(∀(i:Nat) x r,B[i]?=some x->rows[i]?=some r->∃j,x=.ref j/\g[j]?=some (.lst r))->YQ (Xz g 7) A B=some true
 |[],[],[],_,_,_,_,_=>rfl|r::rows,a::A,b::B,h,h1,h2,h3,h4=>by
  obtain⟨i,rfl,hi⟩:=h3 0 a r rfl rfl;obtain⟨j,rfl,hj⟩:=h4 0 b r rfl rfl;have e:Xz g 7 (.ref i) (.ref j)=some true:=by show(match g[i]?,g[j]? with|some (.lst xs),some (.lst ys)=>if xs.length=ys.length then YQ (Xz g 6) xs ys else some false|_,_=>none)=_;rw[hi,hj];dsimp only;rw[Ub rfl,Nr r (h r UB)]
  unfold YQ;rw[e,IW rows A B (λr hr=>h r (Uv _ hr)) (Nat.succ.inj h1) (Nat.succ.inj h2) (λk x q hx hq=>h3 (k+1) x q hx hq) (λk x q hx hq=>h4 (k+1) x q hx hq)];rfl
 |[],_::_,_,_,h,_,_,_=>by cases h
 |[],[],_::_,_,_,h,_,_=>by cases h
 |_::_,[],_,_,h,_,_,_=>by cases h
 |_::_,_::_,[],_,_,h,_,_=>by cases h
theorem OI{N0 M tt:Nat}{g:G}{σ:S3}(T:Tb rows N m)(hM:g[M]?=some (JM rows))(ht:tabOf N0 g tt rows)(h7:Qa 7 σ=λg=>.ok (.ref M) g)(h2:Qa 2 σ=λg=>.ok (.ref tt) g):
  ∃g',Qd Ci (ZK (QQ (QY [11,12] "table" (Qa 7))) 1 [] (Qm 0) ZV (Qu KO (Qa 0))) (Qa 2) σ g=.ok (.bl false) g'/\Keeps [] g g':=by
 obtain⟨ls,g1,c1,k1,l1,_,p1⟩:=Ak (src:=⟨λ_ i=>some (rows.map D.tup)[i]?,(rows.map D.tup).length⟩) (ds:=rows.map .tup) (e:=Qu KO (Qa 0)) (g:=g) (σc:=[]) (rows':=rows) rfl (λ_ _ _=>rfl) (by simp) (λi d r hd hr g1 _=>by rw[Uy,hr]at hd;cases hd;rfl);have c2:=JD (it:=QQ (QY [11,12] "table" (Qa 7))) (n:=1) (cap:=[]) (σ:=σ) (σ0:=[none]) (g:=g) (src:=⟨λ_ i=>some (rows.map D.tup)[i]?,(rows.map D.tup).length⟩) (by unfold QQ QY Qu;rw[h7,Res.bind_ok];dsimp only;rw[hM];rfl) (by show(rows.map D.tup).length<=SZ;rw[Ua,T.len];exact UO (Vw (by have:=T.n12;omega))) rfl c1;have k2:Keeps [] g1 (g1++[.lst (ls.map .ref)]):=.push _;have q2:(g1++[GO.lst (ls.map D.ref)])[g1.length]?=some (.lst (ls.map .ref)):=Qw _;generalize g1++[GO.lst (ls.map D.ref)]=g2 at c2 k2 q2;obtain⟨_,ds,t1,t2,t3⟩:=ht.mono (k1.trans k2) (by simp);refine⟨g2,Qr (x:=.ref g1.length) (y:=.ref tt) (g1:=g2) (g2:=g2) c2 (by rw[h2]) ?_,k1.trans k2⟩;have e:Xz g2 8 (.ref g1.length) (.ref tt)=some true:=by
  show(match g2[g1.length]?,g2[tt]? with|some (.lst xs),some (.lst ys)=>if xs.length=ys.length then YQ (Xz g2 7) xs ys else some false|_,_=>none)=_;rw[q2,t1];dsimp only;rw[Ub (by rw[Ua,l1,t2])];refine IW rows _ _ T.ent (by rw[Ua,l1]) t2 (λi x r hx hr=>?_) (λi x r hx hr=>?_)
  ·rw[Uy]at hx;cases hi:ls[i]? with
   |none=>rw[hi]at hx;cases hx|some j=>rw[hi]at hx;cases hx;exact⟨j,rfl,k2.at' _ _ (by simp) (p1 i j r hi hr).2.2⟩
  ·obtain⟨j,q1,_,_,q4⟩:=t3 i x r hx hr;exact⟨j,q1,q4⟩
 unfold Ci;rw[e];rfl
end
theorem AK(ns:List Int){a:Nat}{g:G}{k:Int}(ga:g[a]?=some (.lst [.int k]))(hk:0<=k)(hk2:k<400000000):
  ∃k' g',Fc [.fl (ns.map .int),.ref a] g=.ok (.bl true) g'/\k<=k'/\k'<=k+200/\g'[a]?=some (.lst [.int k']):=by
 obtain⟨n,N,m,nw,fw,rows,tt,q,k1,g1,e1,kp1,ga1,b1,h,T,ht1,hq1,hqg⟩:=OG ns ga hk (by omega);have al:=ZB ga;have n0:=h.B.n0;have n4:=h.B.n4;obtain⟨e,t,b,ms,r,rd,k2,g2,he,htn,hb,e2,kp2,ga2,b2,o,R,hr2,hrd2⟩:=bZ h T ns ga1 (by omega) (by omega) ht1 al hq1 (by omega);have ht2:=ht1.mono kp2 (by simpa using al);obtain⟨⟨hrai,hst⟩,hB⟩:=cA n0 n4 he htn;obtain⟨hz,hzr⟩:=iZ n0 n4 he htn;obtain⟨R1,R2,R3⟩:=R;generalize hP:D.tup [.str "grow",.int (Hj n t e),YE nw fw (Jf n e t),.ref r]=P at e2;obtain⟨g3,kp3,e3,hM3⟩:=bV (e:=Qc (Qa 2) Ql) (σ:=[some (.fl (ns.map .int)),some (.ref a),some (.ref tt),some (.tup (nw.map .int)),some (.ref q),some P,some (.ref rd),none,none,none,none,none]) (g0:=g2) T ht2 rfl;generalize g2.length=M at e3 hM3;have ga3:=kp3.at' _ _ (by simp) ga2;obtain⟨z,z0,z1,e4⟩:=B8 ns a k2 g3 ga3 (by omega) (by omega);have kp4:Keeps [a] g3 (g3.set a (.lst [.int (k2+1)])):=.set _ _;have ga4:(g3.set a (.lst [.int (k2+1)]))[a]?=some (.lst [.int (k2+1)]):=Zb ga3;generalize g3.set a (.lst [.int (k2+1)])=g4 at e4 kp4 ga4;have ne:∀{i:Nat}{x:GO},g3[i]?=some x->x≠.lst [.int k2]->i≠a:=λhi hx z=>by subst z;rw[ga3]at hi;cases hi;exact hx rfl
 have hM4:=kp4.at' M _ (by simpa using ne hM3 (by intro z;cases z)) hM3;have hr3:=kp3.at' _ _ (by simp) hr2;have hra:r≠a:=ne hr3 λz=>by
  cases ms with
  |nil=>cases R2|cons x xs=>cases x<;>cases z
 have hr4:=kp4.at' r _ (by simpa using hra) hr3;have hrd3:=kp3.at' _ _ (by simp) hrd2;have hrd4:=kp4.at' rd _ (by simpa using ne hrd3 (by intro z;cases z)) hrd3;have ht4:=(ht2.mono kp3 (by simp)).mono kp4 (by simpa using al);obtain⟨g5,d,y,c,e5,kp5,hd5,hy5⟩:=AJ (nw:=nw) (fw:=fw) (s:=Jf n e t) (k:=(Hj n t e:Nat)) (z:=z) hr4;rw[hP]at e5;have hne:=(hB 0 (by omega)).2.1;rw[<-hrai]at R1;obtain⟨g6,kp6,e6⟩:=Hq h T (by omega) o (kp5.at' _ _ (by simp) hM4) hd5 hy5 R1 R2 hst hz hne;have kp56:=kp5.trans kp6;obtain⟨g7,kp7,e7⟩:=Hq h T (by omega) o (kp56.at' _ _ (by simp) hM4) (ShIn.sh g6 (Jf n e t)) (YO (kp56.at' _ _ (by simp) hr4)) R1 R2 hst hz hne;rw[hP]at e7;have kp57:=kp56.trans kp7
 -- the run
 have kp8:Keeps [] g7 (g7++[.dct []]++[.lst [.int 0,.int 0,.ref g7.length]]):=(Keeps.push _).trans (.push _);have R8:Run g7 (g7++[.dct []]++[.lst [.int 0,.int 0,.ref g7.length]]) (g7++[GO.dct []]).length g7.length N m 0 (LJ nw fw (0,[],[]) 0):=by
  have hF:∀x,(LJ nw fw (0,[],[]) 0).2.2 x=0:=λx=>by unfold LJ tp;dsimp only;split<;>rfl
  have:=h.nN;have m0:=T.m0;refine⟨kp8,by simp,Ui _,⟨Int.le_refl _,by show(0:Int)<N;omega⟩,λx=>by rw[hF];omega,Qw _,[],(Keeps.push (S:=[]) _).at' _ _ (by simp) (Qw _),⟨⟨[],rfl,.nil⟩,λx=>?_⟩,Ui _⟩;unfold nz;rw[hF];rfl
 generalize hrr:(g7++[GO.dct []]).length=rr at R8;generalize hdd:g7.length=dd at R8 kp8;have e8:∀x8,Qy (Qm 9) (QA JS (Qc (mI 0) (Qc (mI 0) (Qc MK Ql)))) [some (.fl (ns.map .int)),some (.ref a),some (.ref tt),some (.tup (nw.map .int)),some (.ref q),some P,some (.ref rd),some (.ref M),x8,none,none,none] g7=.nx [some (.fl (ns.map .int)),some (.ref a),some (.ref tt),some (.tup (nw.map .int)),some (.ref q),some P,some (.ref rd),some (.ref M),x8,some (.ref rr),none,none] (g7++[.dct []]++[.lst [.int 0,.int 0,.ref dd]]):=λx8=>by rw[<-hrr,<-hdd];rfl
 generalize g7++[GO.dct []]++[.lst [.int 0,.int 0,.ref dd]]=g8 at R8 kp8 e8;have ht7:=ht4.mono kp57 (by simp);obtain⟨p1,S1⟩:=qN h.B 0 hz;have i1:Qd Qv (Qa 5) (mI 1) [some (.fl (ns.map .int)),some (.ref a),some (.ref tt),some (.tup (nw.map .int)),some (.ref q),some P,some (.ref rd),some (.ref M),some (.tup [.str "grow",.int (Hj n t e),d,y]),some (.ref rr),none,none] g8=.ok (.int (Hj n t e)) g8:=by rw[<-hP];rfl
 obtain⟨y10,g9,e9,R9⟩:=Sn (it:=QJ (Qd Qv (Qa 5) (mI 1))) (x0:=some (.fl (ns.map .int))) (x1:=some (.ref a)) (x3:=some (.tup (nw.map .int))) (x4:=some (.ref q)) (x5:=some P) (x6:=some (.ref rd)) (x7:=some (.ref M)) (x8:=some (.tup [.str "grow",.int (Hj n t e),d,y])) (x10:=none) (x11:=none) h.T ht7 R8 S1 (by omega) (ZR (n:=Hj n t e) i1 (Xh (by omega)));obtain⟨z10,z11,g10,e10,kp10⟩:=OH (x0:=some (.fl (ns.map .int))) (x1:=some (.ref a)) (x3:=some (.tup (nw.map .int))) (x4:=some (.ref q)) (x7:=some (.ref M)) (x8:=some (.tup [.str "grow",.int (Hj n t e),d,y])) (x10:=y10) (u:=.str "grow") (v:=.int (Hj n t e)) (w:=.ref r) h ht7 he htn (by omega) o (by omega) R9 (kp57.at' _ _ (by simp) hrd4);rw[hP]at e10;have kp510:=kp57.trans kp10;obtain⟨g11,e11,kp11⟩:=OI (σ:=[some (.fl (ns.map .int)),some (.ref a),some (.ref tt),some (.tup (nw.map .int)),some (.ref q),some P,some (.ref rd),some (.ref M),some (.tup [.str "grow",.int (Hj n t e),d,y]),some (.ref rr),z10,z11]) T (kp510.at' _ _ (by simp) hM4) (ht4.mono kp510 (by simp)) rfl rfl;have kpF:=kp6.trans (kp7.trans (kp10.trans kp11));obtain⟨g12,kp12,e12⟩:=Hq h T (by omega) o (kpF.at' _ _ (by simp) (kp5.at' _ _ (by simp) hM4)) (hd5.mono kpF) (QE hy5 kpF) R1 R2 hst hz hne;refine⟨k2+1,g12,Zm rfl ?_,by omega,by omega,kp12.at' _ _ (by simp) (kpF.at' _ _ (by simp) (kp5.at' _ _ (by simp) ga4))⟩;show Fb [some (.fl (ns.map .int)),some (.ref a),none,none,none,none,none,none,none,none,none,none] g=_;unfold Fb;refine Qo [some (.fl (ns.map .int)),some (.ref a),some (.ref tt),some (.tup (nw.map .int)),some (.ref q),none,none,none,none,none,none,none] g1 (by unfold Qy;rw[(QH (ds:=[.fl (ns.map .int),.ref a]) (g':=g) rfl).trans e1];rfl) ?_;refine Qo [some (.fl (ns.map .int)),some (.ref a),some (.ref tt),some (.tup (nw.map .int)),some (.ref q),some P,some (.ref rd),none,none,none,none,none] g2 (by unfold Qy;rw[(QH (ds:=[.fl (ns.map .int),.ref a,.ref tt,.tup (nw.map .int),.ref q]) (g':=g1) rfl).trans e2];rfl) ?_;refine Qo _ g3 (QR e3) ?_;refine Qo _ g5 (QR ((QH (ds:=[P,.int z]) (g':=g4) (QK (g1:=g3) rfl (QK ((QH (ds:=[.fl (ns.map .int),.ref a]) (g':=g3) rfl).trans e4) rfl))).trans e5)) ?_;refine Qo _ g7 (Jo g7 (pH (g1:=g6) (Zq (Qr (x:=.bl true) (y:=.bl true) (g1:=g6) (g2:=g6) ((QH (ds:=[.ref M,.tup [.str "grow",.int (Hj n t e),d,y]]) (g':=g5) rfl).trans e6) rfl rfl)) (Zq (Qr (x:=.bl true) (y:=.bl true) (g1:=g7) (g2:=g7) ((QH (ds:=[.ref M,P]) (g':=g6) rfl).trans e7) rfl rfl))) rfl) ?_;refine Qo _ g8 (e8 _) ?_;refine Qo _ g9 e9 ?_;refine Qo _ g10 e10 ?_;refine Qo _ g11 (Jo g11 (Zq e11) rfl) ?_;exact Yy (Qr (x:=.bl true) (y:=.bl true) (g1:=g12) (g2:=g12) ((QH (ds:=[.ref M,.tup [.str "grow",.int (Hj n t e),d,y]]) (g':=g11) rfl).trans e12) rfl rfl)
theorem law_true(ns:List Int)(hn:ns.length<=63):∃g',PD [.fl (ns.map .int)] []=.ok (.bl true) g':=by
 have hc:(Y9 (ns.map D.int) none (some 60)).length<=60:=by unfold Y9;rw[UW];show min (min (60:Int).toNat (ns.map D.int).length-0) _<=60;have:(60:Int).toNat=60:=rfl;omega
 generalize hm:(Y9 (ns.map D.int) none (some 60)).length=m at hc;have e1:Qd QC (mI 1) (Qd Yw (Qu Zg (Q7 (Qa 0) QV (Zv (mI 60)))) (mI 40)) [some (.fl (ns.map .int)),some (.ref 0),none] [.lst [.int 0]]=.ok (.int ((1+m/40:Nat):Int)) [.lst [.int 0],.lst (Y9 (ns.map D.int) none (some 60))]:=by
  have el:Qu Zg (Q7 (Qa 0) QV (Zv (mI 60))) [some (.fl (ns.map .int)),some (.ref 0),none] [.lst [.int 0]]=.ok (.int m) [.lst [.int 0],.lst (Y9 (ns.map D.int) none (some 60))]:=by rw[<-hm];rfl
  refine Qr (x:=.int 1) (y:=.int ((m:Int) / 40)) (g1:=[.lst [.int 0]]) rfl (Qr el rfl (GZ (by decide) (by decide))) ?_;show Res.ok (D.int (1+(m:Int) / 40)) _=_;rw[show(1+(m:Int) / 40)=((1+m/40:Nat):Int) by omega]
 obtain⟨σ',g',e2,⟨y,i1⟩,k',i2,i3,i4⟩:=Yi (t:=Qm 2) (body:=GX) (lo:=0) (n:=1+m/40) (σ:=[some (.fl (ns.map .int)),some (.ref 0),none]) (g:=[.lst [.int 0],.lst (Y9 (ns.map D.int) none (some 60))])
  (λi σ g=>(∃y,σ=[some (.fl (ns.map .int)),some (.ref 0),y])/\∃k:Int,g[0]?=some (.lst [.int k])/\0<=k/\k<=200*i) ⟨⟨none,rfl⟩,0,rfl,by omega,by omega⟩ (λi σ g hi hQ=>by obtain⟨⟨y,i1⟩,k,i2,i3,i4⟩:=hQ;subst i1;obtain⟨k',g',e,b1,b2,b3⟩:=AK ns i2 i3 (by omega);refine⟨[some (.fl (ns.map .int)),some (.ref 0),some (.int (0+i))],[some (.fl (ns.map .int)),some (.ref 0),some (.int (0+i))],g',rfl,?_,⟨_,rfl⟩,k',b3,by omega,by omega⟩;unfold GX;exact Jo g' (Fh (Zq (by rw[QH (ds:=[.fl (ns.map .int),.ref 0]) (g':=g) rfl];exact e))) rfl)
 subst i1;refine⟨g',Zm rfl ?_⟩;show D6 [some (.fl (ns.map .int)),none,none] []=_;unfold D6;exact Qo [some (.fl (ns.map .int)),some (.ref 0),none] [.lst [.int 0]] rfl (Qo _ g' ((Yp (ZR e1 (Xh (by omega)))).trans e2) rfl)
end L3
namespace V
open PySem PySem.Spec PyProof.Rows L2 L3
theorem QT{N P:List Str}{sc:Scope}(h1:sc.kind=.function:=by rfl)(h2:sc.isCoroutine=false:=by rfl)(h3:sc.isGenerator=false:=by rfl)(h4:N.Nodup:=by decide +kernel)(h5:N.take P.length=P:=by rfl)(h6:∀x∈P,sc.names.lookup x=some .local\/sc.names.lookup x=some .cell:=by decide +kernel)(h7:∀y∈sc.names,y.2≠.free:=by decide +kernel):FnScope N P sc:=⟨h1,h2,h3,h4,h5,h6,h7⟩
noncomputable def top(i:Nat):Stmt:=PySem.Challenge.pw_tapeproof_k43_grow_taken.main.body.getD i (.Pass ⟨0,0,0,0⟩)
abbrev CQ:Stmt:=top 6
abbrev OJ:List Str:=["value"]
theorem Nt:FnScope OJ ["value"] (Qk CQ):=QT
abbrev CS:Stmt:=top 7
abbrev OK:List Str:=["value","many"]
theorem Nu:FnScope OK ["value","many"] (Qk CS):=QT
abbrev CT:Stmt:=top 13
abbrev OL:List Str:=["thing","states","signs"]
theorem Nv:FnScope OL ["thing","states","signs"] (Qk CT):=QT
abbrev Vf:Stmt:=top 14
abbrev EL:List Str:=["rows","states","signs","row"]
theorem XH:FnScope EL ["rows"] (Qk Vf):=QT
abbrev Yd:Stmt:=Xy (top 15) 0
abbrev BN:List Str:=["self","table","rows"]
theorem KZ:FnScope BN ["self","table"] (Qk Yd):=QT
abbrev Ht:Stmt:=top 68
abbrev cC:List Str:=["_law_script","_law_at","_law_cell","_law_m"]
theorem Cb:FnScope cC ["_law_script","_law_at"] (Qk Ht):=QT
abbrev Fk:Stmt:=top 70
abbrev AL:List Str:=["_law_script","_law_at","_law_states","_law_signs","_law_table_here","_law_k","_law_line","_law_j","_law_m","_law_entry"]
theorem Y4:FnScope AL ["_law_script","_law_at","_law_states","_law_signs"] (Qk Fk):=QT
abbrev JO:Stmt:=top 75
abbrev VU:List Str:=["_law_script","_law_at","_law_m","_law_many","_law_letters","_law_far","_law_turn","_law_word","_law_signs","_law_table_here","_law_k","_law_entry","_law_steps","_law_moves"]
theorem Zc:FnScope VU ["_law_script","_law_at"] (Qk JO):=QT
abbrev OM:Stmt:=top 73
abbrev mP:List Str:=["_law_table_here","_law_run","_law_entry"]
theorem So:FnScope mP ["_law_table_here","_law_run"] (Qk OM):=QT
abbrev CU:Stmt:=top 79
abbrev ON:List Str:=["_law_paper_here","_law_m","_law_kind","_law_start_here","_law_shape","_law_row"]
theorem Y5:FnScope ON ["_law_paper_here","_law_m"] (Qk CU):=QT
abbrev X0:Stmt:=top 76
abbrev FZ:List Str:=["_law_moves","_law_size","_law_count","_law_steps","_law_move"]
theorem Yz:FnScope FZ ["_law_moves","_law_size","_law_count"] (Qk X0):=QT
abbrev Fm:Stmt:=top 77
abbrev AM:List Str:=["_law_moves","_law_ahead","_law_size","_law_extra","_law_steps","_law_count"]
theorem KF:FnScope AM ["_law_moves","_law_ahead","_law_size","_law_extra"] (Qk Fm):=QT
abbrev Jr:Stmt:=top 49
abbrev Ck:List Str:=["shape","tokens"]
theorem BO:FnScope Ck ["shape","tokens"] (Qk Jr):=QT
abbrev V6:Stmt:=top 47
abbrev Id:List Str:=["shape","tokens"]
theorem BP:FnScope Id ["shape"] (Qk V6):=QT
abbrev KG:Stmt:=top 48
abbrev LN:List Str:=["shape","token"]
theorem Cq:FnScope LN ["shape"] (Qk KG):=QT
abbrev Cc:Stmt:=top 46
abbrev IX:List Str:=["word"]
theorem OO:FnScope IX ["word"] (Qk Cc):=QT
abbrev KH:Stmt:=top 54
abbrev LO:List Str:=["shape","many","rest","ones"]
theorem XI:FnScope LO ["shape"] (Qk KH):=QT
abbrev Fn:Stmt:=top 50
abbrev AN:List Str:=["shape","state","way","token","rest"]
theorem Hu:FnScope AN ["shape","state","way","token"] (Qk Fn):=QT
abbrev V7:Stmt:=top 52
abbrev Ie:List Str:=["machine","state","facing","word","cells","at","current","step","entry"]
theorem ZY:FnScope Ie ["machine","state","facing","word"] (Qk V7):=QT
abbrev KI:Stmt:=top 53
abbrev LP:List Str:=["machine","shape","many","word"]
theorem V8:FnScope LP ["machine","shape"] (Qk KI):=QT
abbrev CV:Stmt:=top 58
abbrev OP:List Str:=["tokens","word","side","blank"]
theorem FQ:FnScope OP ["tokens","word","side"] (Qk CV):=QT
abbrev X1:Stmt:=top 55
abbrev F3:List Str:=["tokens","side","at","place"]
theorem Kh:FnScope F3 ["tokens","side","at"] (Qk X1):=QT
abbrev YA:Stmt:=top 57
abbrev Ki:List Str:=["tokens","place","rightwards","many","word","sign","at","turned"]
theorem Q1:FnScope Ki ["tokens","place","rightwards"] (Qk YA):=QT
abbrev Vz:Stmt:=top 30
abbrev Hv:List Str:=["token"]
theorem F4:FnScope Hv ["token"] (Qk Vz):=QT
abbrev Y6:Stmt:=top 56
abbrev BQ:List Str:=["tokens","place","rightwards","many","first","behind"]
theorem Yf:FnScope BQ ["tokens","place","rightwards"] (Qk Y6):=QT
abbrev BR:Stmt:=top 59
abbrev Nw:List Str:=["tokens","word","side","at","place"]
theorem EM:FnScope Nw ["tokens","word","side","at"] (Qk BR):=QT
abbrev Y7:Stmt:=top 60
abbrev BS:List Str:=["shape","move","side","tokens","put"]
theorem ZM:FnScope BS ["shape","move"] (Qk Y7):=QT
abbrev KJ:Stmt:=top 51
abbrev LQ:List Str:=["machine","shape","token","entry"]
theorem V9:FnScope LQ ["machine","shape"] (Qk KJ):=QT
abbrev KK:Stmt:=top 61
abbrev LR:List Str:=["machine","shape","move"]
theorem Ig:FnScope LR ["machine","shape","move"] (Qk KK):=QT
abbrev Xu:Stmt:=top 8
abbrev Fo:List Str:=["value"]
theorem EN:FnScope Fo ["value"] (Qk Xu):=QT
abbrev Cd:Stmt:=top 24
abbrev IY:List Str:=["thing"]
theorem OQ:FnScope IY ["thing"] (Qk Cd):=QT
abbrev CW:Stmt:=top 25
abbrev OR:List Str:=["thing"]
theorem Nx:FnScope OR ["thing"] (Qk CW):=QT
abbrev Xk:Stmt:=top 26
abbrev BT:List Str:=["tokens"]
theorem F5:FnScope BT ["tokens"] (Qk Xk):=QT
abbrev Ws:Stmt:=top 27
abbrev Ih:List Str:=["shape"]
theorem Hw:FnScope Ih ["shape"] (Qk Ws):=QT
abbrev CY:Stmt:=top 43
abbrev OS:List Str:=["token"]
theorem Ny:FnScope OS ["token"] (Qk CY):=QT
abbrev CZ:Stmt:=top 17
abbrev OT:List Str:=["machine"]
theorem Nz:FnScope OT ["machine"] (Qk CZ):=QT
abbrev BU:Stmt:=top 16
abbrev NA:List Str:=["machine"]
theorem LS:FnScope NA ["machine"] (Qk BU):=QT
abbrev Xv:Stmt:=top 44
abbrev Fp:List Str:=["machine","shape","signs","tokens","token"]
theorem YY:FnScope Fp ["machine","shape"] (Qk Xv):=QT
abbrev WF:Stmt:=top 45
abbrev Ii:List Str:=["shape"]
theorem Hx:FnScope Ii ["shape"] (Qk WF):=QT
abbrev LT:Stmt:=top 62
abbrev gZ:List Str:=["machine","shape","move"]
theorem cD:FnScope gZ ["machine","shape","move"] (Qk LT):=QT
abbrev Fq:Stmt:=top 78
abbrev AO:List Str:=["_law_script","_law_at","_law_table_here","_law_word","_law_moves","_law_m","_law_extra","_law_turn","_law_shape","_law_move","_law_row","_law_k","_law_spot","_law_side","_law_start_here","_law_rounds","_law_count","_law_more"]
theorem Zs:FnScope AO ["_law_script","_law_at","_law_table_here","_law_word","_law_moves"] (Qk Fq):=QT
abbrev Fs:Stmt:=top 71
abbrev AQ:List Str:=["_law_tokens","_law_count","_law_cells_here","_law_token","_law_k"]
theorem VA:FnScope AQ ["_law_tokens","_law_count"] (Qk Fs):=QT
abbrev Hy:Stmt:=top 72
abbrev cE:List Str:=["_law_shape","_law_count","_law_state","_law_facing","_law_left","_law_right","_law_ahead","_law_row","_law_cells_here","_law_k"]
theorem Jg:FnScope cE ["_law_shape","_law_count"] (Qk Hy):=QT
abbrev KL:Stmt:=top 74
abbrev Hz:List Str:=["_law_run","_law_shape","_law_count","_law_state","_law_place","_law_cells_here","_law_by"]
theorem XT:FnScope Hz ["_law_run","_law_shape","_law_count"] (Qk KL):=QT
abbrev WG:Stmt:=top 63
abbrev Ij:List Str:=["machine","shape","moves","behind","move"]
theorem Xl:FnScope Ij ["machine","shape","moves"] (Qk WG):=QT
abbrev YH:Stmt:=Xy (top 20) 0
abbrev BV:List Str:=["self","machine","shot"]
theorem LU:FnScope BV ["self","machine","shot"] (Qk YH):=QT
abbrev Z1:Stmt:=Xy (top 20) 1
abbrev EO:List Str:=["self"]
theorem C3:FnScope EO ["self"] (Qk Z1):=QT
abbrev Jh:Stmt:=Xy (top 20) 2
abbrev LV:List Str:=["self","sign"]
theorem Cr:FnScope LV ["self"] (Qk Jh):=QT
abbrev YB:Stmt:=Xy (top 20) 5
abbrev HA:List Str:=["self"]
theorem F6:FnScope HA ["self"] (Qk YB):=QT
abbrev Yj:Stmt:=Xy (top 20) 4
abbrev F9:List Str:=["self"]
theorem Fv:FnScope F9 ["self"] (Qk Yj):=QT
abbrev Ji:Stmt:=Xy (top 20) 3
abbrev LW:List Str:=["self","sign"]
theorem Ik:FnScope LW ["self","sign"] (Qk Ji):=QT
abbrev YC:Stmt:=Xy (top 20) 6
abbrev HB:List Str:=["self","entry"]
theorem K0:FnScope HB ["self"] (Qk YC):=QT
abbrev Xw:Stmt:=Xy (top 20) 7
abbrev OU:List Str:=["self","steps","done"]
theorem BW:FnScope OU ["self","steps"] (Qk Xw):=QT
abbrev JP:Stmt:=Xy (top 20) 8
abbrev NB:List Str:=["self"]
theorem LX:FnScope NB ["self"] (Qk JP):=QT
abbrev C4:Stmt:=top 28
abbrev OV:List Str:=["tokens","count","cells","token"]
theorem BX:FnScope OV ["tokens","count"] (Qk C4):=QT
abbrev KM:Stmt:=top 29
abbrev HC:List Str:=["shape","count","left","cells","marks"]
theorem VV:FnScope HC ["shape","count"] (Qk KM):=QT
abbrev WH:Stmt:=top 34
abbrev Il:List Str:=["side","sign","count"]
theorem HD:FnScope Il ["side","sign","count"] (Qk WH):=QT
abbrev Fw:Stmt:=top 35
abbrev AR:List Str:=["cells","side","reached","offset","sign"]
theorem Xx:FnScope AR ["cells"] (Qk Fw):=QT
abbrev Y8:Stmt:=top 36
abbrev VB:List Str:=["shot","here","left","right"]
theorem JE:FnScope VB ["shot"] (Qk Y8):=QT
abbrev C5:Stmt:=top 65
abbrev OW:List Str:=["machine","start","shape","walk"]
theorem FR:FnScope OW ["machine","start","shape"] (Qk C5):=QT
abbrev X2:Stmt:=top 64
abbrev Ga:List Str:=["paper"]
theorem Fx:FnScope Ga ["paper"] (Qk X2):=QT
abbrev JF:Stmt:=top 31
abbrev K4:List Str:=["tokens"]
theorem Fy:FnScope K4 ["tokens"] (Qk JF):=QT
abbrev HE:Stmt:=top 32
abbrev cF:List Str:=["shape"]
theorem AS:FnScope cF ["shape"] (Qk HE):=QT
abbrev KN:Stmt:=top 66
abbrev LY:List Str:=["machine","paper","shape","behind"]
theorem WW:FnScope LY ["machine","paper"] (Qk KN):=QT
abbrev Ce:Stmt:=top 80
abbrev IZ:List Str:=["_law_script","_law_at","_law_table_here","_law_word","_law_moves","_law_paper_here","_law_rounds","_law_machine","_law_handed","_law_run","_law_k","_law_count"]
theorem Z4:FnScope IZ ["_law_script","_law_at"] (Qk Ce):=QT
abbrev Sr:Stmt:=top 81
abbrev qO:List Str:=["_law_script","_law_at","_law_k"]
theorem OX:FnScope qO ["_law_script"] (Qk Sr):=QT
def UF(K:Frag)(mg:VX)(x:Str)(st:Stmt):Prop:=∃f fd,Fun K x x st f fd/\mg x=some (.ref f)
theorem _root_.L2.Room.m{j k:Nat}{A:Around}(h:Room k A)(e:j<=k:=by omega):Room j A:=h.mono e
theorem Q4{P:Program}{w:World}{K:Frag}{mg:VX}{base:Heap}{ca:Nat->Addr}{x:Str}{st:Stmt}{N ps:List Str}{k n j:Nat}{m:MS}(u:UF K mg x st)(S:FnScope N ps (Qk st))(h:∀(f:Addr) (cdv:Value) (A:Around) (outer:List Env) (s:Shared) (H:Hp) (E:XK),Room k (A.deeper (envOfC x (Qk st) s.heap.objs.size f cdv))->EW ca (ER (N7 P w ca) P w K mg base N x (Qk st) f cdv A outer s H E) (ZZ st) m)(hj:ps.length=j:=by rfl)(hn:N.length-ps.length=n:=by rfl)(hb:∀(kV doc pm:Value) (an:Option Addr) (cdv ct:Value) (us:List Value),us.length=ps.length->bindArgs (fnOf x x (Yk st) (ZZ st) (Qk st) .none kV doc pm an cdv ct) ⟨us,[]⟩=pure (ps.zip us):=by intro _ _ _ _ _ _ us hl;first|(obtain⟨_,rfl⟩:=L3.len1 hl;rfl)|(obtain⟨_,_,rfl⟩:=L3.len2 hl;rfl)|(obtain⟨_,_,_,rfl⟩:=L3.len3 hl;rfl)|(obtain⟨_,_,_,_,rfl⟩:=L3.len4 hl;rfl)|(obtain⟨_,_,_,_,_,rfl⟩:=L3.len5 hl;rfl)):FnH P w K mg base ca x (k+1) j (Q6 j n m):=by obtain⟨f,fd,F,hm⟩:=u;exact⟨⟨f,fd,ps,KQ F S hj hn (h f),hm,F.kp,F.binds hb⟩,JZ _ _ _⟩
structure Zk(K:Frag)(mg:VX)(ca:Nat->Addr):Prop where
 z_all:mg "all"=none
 z_bool:mg "bool"=none
 z_enumerate:mg "enumerate"=none
 z_int:mg "int"=none
 z_isinstance:mg "isinstance"=none
 z_len:mg "len"=none
 z_list:mg "list"=none
 z_max:mg "max"=none
 z_min:mg "min"=none
 z_range:mg "range"=none
 z_reversed:mg "reversed"=none
 z_tuple:mg "tuple"=none
 g_BLANK:∃k,mg "BLANK"=some (.int 0 k)
 g_FIRST_SHOT:∃u v,mg "FIRST_SHOT"=some u/\L2.RelV v u/\∀μ H,Den K μ H v (.tup [(.int 0),(.int 0),(.tup [])])
 g_GROW:∃k,mg "GROW"=some (.str "grow" k)
 g_LEFT:∃k,mg "LEFT"=some (.str "l" k)
 g_MANY:∃k,mg "MANY"=some (.str "many" k)
 g_MOST_STEPS_OVER:∃k,mg "MOST_STEPS_OVER"=some (.int 1000 k)
 g_ONE:∃k,mg "ONE"=some (.str "one" k)
 g_OPEN:∃u v,mg "OPEN"=some u/\L2.RelV v u/\∀μ H,Den K μ H v (.tup [(.str "open")])
 g_OVER:∃u v,mg "OVER"=some u/\L2.RelV v u/\∀μ H,Den K μ H v (.tup [(.str "over")])
 g_RIGHT:∃k,mg "RIGHT"=some (.str "r" k)
 g_STEP:∃u v,mg "STEP"=some u/\L2.RelV v u/\∀μ H,Den K μ H v (.tup [(.str "step")])
 t_NoMove:mg "NoMove"=some (.ref (ca 8))/\CatX K ca (ca 8) [8] [0,1,7]
 t_NoShape:mg "NoShape"=some (.ref (ca 7))/\CatX K ca (ca 7) [7] [0,1,8]
 e_NoMachine:RaH K mg ca 1 "NoMachine"
 e_NoMove:RaH K mg ca 8 "NoMove"
 e_NoShape:RaH K mg ca 7 "NoShape"
 a_left_marks:FldOk K ca [12] "left_marks"
 a_place:FldOk K ca [12] "place"
 a_right_marks:FldOk K ca [12] "right_marks"
 a_state:FldOk K ca [12] "state"
 a_table:FldOk K ca [11,12] "table"
 u0:UF K mg "is_whole" CQ
 u1:UF K mg "is_below" CS
 u2:UF K mg "is_entry" CT
 u3:UF K mg "check_rows" Vf
 u4:∃f fd,Fun K "__init__" "Machine.__init__" Yd f fd/\Mk K (ca 11) f/\mg "Machine"=some (.ref (ca 11))
 u5:UF K mg "_law_next" Ht
 u6:UF K mg "_law_table" Fk
 u7:UF K mg "_law_bouncer" JO
 u8:UF K mg "_law_go" OM
 u9:UF K mg "_law_listed" CU
 u10:UF K mg "_law_round_steps" X0
 u11:UF K mg "_law_start" Fm
 u12:UF K mg "in_place_of_ahead" Jr
 u13:UF K mg "token_ahead" V6
 u14:UF K mg "many_ahead" KG
 u15:UF K mg "ones_of" Cc
 u16:UF K mg "after_open" KH
 u17:UF K mg "gone_on" Fn
 u18:UF K mg "word_behind" V7
 u19:UF K mg "after_over" KI
 u20:UF K mg "with_end" CV
 u21:UF K mg "place_of_many" X1
 u22:UF K mg "with_one_brought_over" YA
 u23:UF K mg "raised_token" Vz
 u24:UF K mg "with_ones_taken_in" Y6
 u25:UF K mg "with_many" BR
 u26:UF K mg "after_put_together" Y7
 u27:UF K mg "after_step" KJ
 u28:UF K mg "after_move" KK
 u29:UF K mg "is_from_nought" Xu
 u30:UF K mg "is_word" Cd
 u31:UF K mg "is_token" CW
 u32:UF K mg "check_tokens" Xk
 u33:UF K mg "check_shape" Ws
 u34:UF K mg "signs_in" CY
 u35:UF K mg "signs_of" CZ
 u36:UF K mg "states_of" BU
 u37:UF K mg "check_shape_of" Xv
 u38:UF K mg "with_tuples" WF
 u39:UF K mg "moved" LT
 u40:UF K mg "_law_paper" Fq
 u41:UF K mg "_law_cells" Fs
 u42:UF K mg "_law_laid" Hy
 u43:UF K mg "_law_stands" KL
 u44:UF K mg "after_moves" WG
 u45:∃f fd,Fun K "__init__" "Walk.__init__" YH f fd/\Mk K (ca 12) f/\mg "Walk"=some (.ref (ca 12))
 u46:∃f fd,Fun K "is_on_mark" "Walk.is_on_mark" Z1 f fd/\Meth K (ca 12) "is_on_mark" f/\Cls K (ca 12)
 u47:∃f fd,Fun K "entry" "Walk.entry" Jh f fd/\Meth K (ca 12) "entry" f/\Cls K (ca 12)
 u48:∃f fd,Fun K "go_left" "Walk.go_left" YB f fd/\Meth K (ca 12) "go_left" f/\Cls K (ca 12)
 u49:∃f fd,Fun K "go_right" "Walk.go_right" Yj f fd/\Meth K (ca 12) "go_right" f/\Cls K (ca 12)
 u50:∃f fd,Fun K "write" "Walk.write" Ji f fd/\Meth K (ca 12) "write" f/\Cls K (ca 12)
 u51:∃f fd,Fun K "stepped" "Walk.stepped" YC f fd/\Meth K (ca 12) "stepped" f/\Cls K (ca 12)
 u52:∃f fd,Fun K "run" "Walk.run" Xw f fd/\Meth K (ca 12) "run" f/\Cls K (ca 12)
 u53:∃f fd,Fun K "shot" "Walk.shot" JP f fd/\Meth K (ca 12) "shot" f/\Cls K (ca 12)
 u54:UF K mg "cells_of" C4
 u55:UF K mg "laid_out" KM
 u56:UF K mg "add_stretch" WH
 u57:UF K mg "side_of" Fw
 u58:UF K mg "stretches_of" Y8
 u59:UF K mg "comes_to" C5
 u60:UF K mg "is_grow_paper" X2
 u61:UF K mg "raised_tokens" JF
 u62:UF K mg "raised" HE
 u63:UF K mg "takes_grow" KN
 u64:UF K mg "_law_round" Ce
 u65:UF K mg "law" Sr
section
seal QW Gg iF AW L9 EW dQ dS
variable{P:Program}{w:World}{K:Frag}{mg:VX}{base:Heap}{ca:Nat->Addr}
theorem FS(Z:Zk K mg ca):FnH P w K mg base ca "is_whole" 1 1 Vr:=Q4 Z.u0 Nt λ_ _ _ _ _ _ _ hr=>(Qi (QD (Vm (Bt .int Z.z_isinstance Z.z_int lF (Qb 0)) (Cm (oM (Bt .bool Z.z_isinstance Z.z_bool eM (Qb 0)))))))
theorem XU(Z:Zk K mg ca):FnH P w K mg base ca "is_below" 2 2 ZQ:=Q4 Z.u1 Nu λ_ _ _ _ _ _ _ hr=>(Qi (QD (Vm (Qt (FS Z) hr.m (Qe (Qb 0) Qj)) (Cm (lC Qg (Qb 0) (Qb 1))))))
theorem NC(Z:Zk K mg ca):FnH P w K mg base ca "is_entry" 3 3 Xq:=Q4 Z.u2 Nv λ_ _ _ _ _ _ _ hr=>(Qf (Zj (FI (Qb 0) VG) (Qi (QD Vl)) QB)
 (Qf (Zj (N6 (KP (YV (ZW (Bt .tuple Z.z_isinstance Z.z_tuple Kb (Qb 0)))) (VY (XN hr (ZS Z.z_len (Qb 0)) Qg)))) (Qi (QD Vl)) QB)
 (Qi (QD (Vm (Qt (XU Z) hr.m (Qe (Qh (Qb 0) Qg) (Qe (Qb 2) Qj))) (Vm (tN (Qh (Qb 0) Qg) (QP (Qe (Q2 Z.g_LEFT) (Qe (Q2 Z.g_RIGHT) Qj)))) (Cm (Qt (XU Z) hr.m (Qe (Qh (Qb 0) Qg) (Qe (Qb 1) Qj))))))))))
theorem Im(Z:Zk K mg ca):FnH P w K mg base ca "check_rows" 4 1 Jc:=Q4 Z.u3 XH λ_ _ _ _ _ _ _ hr=>(Qf (Zj (ZH hr (ZS Z.z_len (Qb 0)) Qg) (Qi (Zx Z.e_NoMachine hr.hd (Qe Q0 Qj))) QB)
 (Qf (Qx 1 XH.nd (ZS Z.z_len (Qb 0)))
 (Qf (Qx 2 XH.nd (ZS Z.z_len (Qh (Qb 0) Qg)))
 (Qf (Zj (ZH hr (Qb 2) Qg) (Qi (Zx Z.e_NoMachine hr.hd (Qe Q0 Qj))) QB)
 (Qi (YZ rfl (Z9 (Qb 0)) (QG 3 XH.nd) (Qf (Zj (XN hr (ZS Z.z_len (Qb 3)) (Qb 2)) (Qi (Zx Z.e_NoMachine hr.hd (Qe Q0 Qj))) QB)
 (Qi (Zj (YV (ZW (Pn rfl Z.z_all (Xo (ZF (Nb:=["thing","states","signs"]) (no:=1) (cap:=[1,2]) (N:=EL) (sc:=Qk Vf) rfl rfl (by decide +kernel)) rfl (Z9 (Qb 3)) (λcl C s3 H3 ex=>⟨(QG 0 (show List.Nodup (["thing","states","signs"]:List Str) by decide +kernel)),Bq,(Qt (NC Z) hr.m (Qe (Qb 0) (Qe (Qb 1) (Qe (Qb 2) Qj))))⟩))))) (Qi (Zx Z.e_NoMachine hr.hd (Qe Q0 Qj))) QB)))))))))
theorem K5(Z:Zk K mg ca):MkH P w K mg base ca 11 "Machine" 5 2 Yb:=by
 obtain⟨f,fd,F,hm⟩:=Z.u4;exact⟨⟨f,fd,["self","table"],KQ F KZ rfl rfl (λcdv A outer s H E hr=>(Qf (Qx 2 KZ.nd (J0 Z.z_tuple (Xo (ZF (Nb:=["row"]) (no:=1) (cap:=[]) (N:=BN) (sc:=Qk Yd) rfl rfl (by decide +kernel)) rfl (Z9 (Qb 1)) (λcl C s3 H3 ex=>⟨(QG 0 (show List.Nodup (["row"]:List Str) by decide +kernel)),Bq,(J0 Z.z_tuple (Qb 0))⟩))))
 (Qf (Z3 (Qt (Im Z) hr.m (Qe (Qb 2) Qj)))
 (Qi (Ja (Qb 0) (Qb 2) Z.a_table))))),hm.1,hm.2,F.binds (ps:=["self","table"]) (λ_ _ _ _ _ _ us hl=>by obtain⟨_,_,rfl⟩:=L3.len2 hl;rfl)⟩,JZ _ _ _⟩
theorem Vj(Z:Zk K mg ca):FnH P w K mg base ca "_law_next" 1 2 J5:=Q4 Z.u5 Cb λ_ _ _ _ _ _ _ hr=>(Qf (JY (Qb 1) Qg (QL (Qh (Qb 1) Qg) Qg))
 (Qf (Qx 2 Cb.nd Qg)
 (Qf (Zj (Ph (ZS Z.z_len (Qb 0)) Qg) (Qi (Qx 2 Cb.nd (Qh (Qb 0) (Jv (Qh (Qb 1) Qg) (ZS Z.z_len (Qb 0)))))) QB)
 (Qf (Qx 3 Cb.nd (Jv (Br (QL (QL (Jv (Qb 2) Qg) (Br (Br (Qh (Qb 1) Qg) (Qh (Qb 1) Qg)) Qg)) Qg) Qg) Qg))
 (Qi (QD (Jv (Br (Qb 3) (Qb 3)) Qg)))))))
theorem OY(Z:Zk K mg ca):FnH P w K mg base ca "_law_table" 2 4 E3:=Q4 Z.u6 Y4 λ_ _ _ _ _ _ _ hr=>(Qf (Qx 4 Y4.nd (W9 Qj))
 (Qf (YZ rfl (Z5 Z.z_range (Qb 2)) (QG 5 Y4.nd) (Qf (Qx 6 Y4.nd (W9 Qj))
 (Qf (YZ rfl (Z5 Z.z_range (Qb 3)) (QG 7 Y4.nd) (Qf (Qx 8 Y4.nd (Qt (Vj Z) hr.m (Qe (Qb 0) (Qe (Qb 1) Qj))))
 (Qf (Qx 9 Y4.nd (QP (Qe (Jv (Xp (Qb 8) Qg) (Qb 3)) (Qe (Qh Q0 (Jv (Xp (Qb 8) Qg) Qg)) (Qe (Jv (Xp (Qb 8) Qg) (Qb 2)) Qj)))))
 (Qf (Zj (ZH hr (Jv (Qb 8) Qg) Qg) (Qi (Qx 9 Y4.nd VG)) QB)
 (Qi (Z3 (J4 (Qb 6) (Qb 9))))))))
 (Qi (Z3 (J4 (Qb 4) (Qb 6)))))))
 (Qi (QD (Qb 4)))))
theorem LZ(Z:Zk K mg ca):FnH P w K mg base ca "_law_bouncer" 3 2 Bz:=Q4 Z.u7 Zc λ_ _ _ _ _ _ _ hr=>(Qf (Qx 2 Zc.nd (Qt (Vj Z) hr.m (Qe (Qb 0) (Qe (Qb 1) Qj))))
 (Qf (Qx 3 Zc.nd (QL Qg (Jv (Qb 2) Qg)))
 (Qf (Qx 4 Zc.nd (QL Qg (Jv (Xp (Qb 2) Qg) (DW rfl Z.z_min Qg (Qb 3)))))
 (Qf (Qx 5 Zc.nd (QL Qg (Br (Qb 4) (Jv (Xp (Qb 2) Qg) Qg))))
 (Qf (Qx 6 Zc.nd (Qt (Vj Z) hr.m (Qe (Qb 0) (Qe (Qb 1) Qj))))
 (Qf (EY 7 Zc.nd (ZF (Nb:=["_law_k","_law_letters","_law_turn"]) (no:=1) (cap:=[4,6]) (N:=VU) (sc:=Qk JO) rfl rfl (by decide +kernel)) rfl (Z5 Z.z_range (Qb 3)) (λcl C s3 H3 ex=>⟨(QG 0 (show List.Nodup (["_law_k","_law_letters","_law_turn"]:List Str) by decide +kernel)),Bq,(Jv (Xp (Qb 2) (QL (Br (Br Qg (Qb 0)) (Qb 0)) Qg)) (Qb 1))⟩))
 (Qf (Qx 8 Zc.nd (QL (QL (Qb 5) (Qb 4)) (Br (Gh Z.z_int (tK (QL (Qb 5) (Qb 4)) Qg)) (Jv (Xp (Qb 2) Qg) Qg))))
 (Qf (Qx 9 Zc.nd (Qt (OY Z) hr.m (Qe (Qb 0) (Qe (Qb 1) (Qe (QL (QL Qg (Qb 3)) (Jv (Xp (Qb 2) Qg) Qg)) (Qe (Qb 8) Qj))))))
 (Qf (JY (Qh (Qb 9) Qg) Qg (QP (Qe Qg (Qe Q0 (Qe Qg Qj)))))
 (Qf (JY (Qh (Qb 9) Qg) Qg (QP (Qe Qg (Qe Q0 (Qe Qg Qj)))))
 (Qf (YZ rfl (Z5 Z.z_range (Qb 4)) (QG 10 Zc.nd) (Qf (JY (Qh (Qb 9) Qg) (QL Qg (Qb 10)) (QP (Qe (QL (Qb 5) (Qb 10)) (Qe Q0 (Qe Qg Qj)))))
 (Qf (JY (Qh (Qb 9) Qg) (QL Qg (Qb 10)) (QP (Qe (QL Qg (Qb 10)) (Qe Q0 (Qe Qg Qj)))))
 (Qi (JY (Qh (Qb 9) Qg) (QL (Qb 5) (Qb 10)) (QP (Qe (QL Qg (Qb 10)) (Qe Q0 (Qe Qg Qj)))))))))
 (Qf (YZ rfl (Z5 Z.z_range (Qb 3)) (QG 10 Zc.nd) (Qf (Qx 11 Zc.nd (QP (Qe (QL Qg (Qh (Qb 7) (Qb 10))) (Qe Q0 (Qe (QL Qg (Qb 10)) Qj)))))
 (Qf (Zj (ZH hr (QL (Qb 10) Qg) (Qb 3)) (Qi (Qx 11 Zc.nd (QP (Qe (QL Qg (Qh (Qb 7) (Qb 10))) (Qe Q0 (Qe Qg Qj)))))) QB)
 (Qi (JY (Qh (Qb 9) (Qh (W9 (Qe Qg (Qe (QL Qg (Qb 10)) Qj))) (Gh Z.z_int (kZ (Qb 10) Qg)))) Qg (Qb 11))))))
 (Qf (EY 12 Zc.nd (ZF (Nb:=["_law_k"]) (no:=1) (cap:=[]) (N:=VU) (sc:=Qk JO) rfl rfl (by decide +kernel)) rfl (Z5 Z.z_range (X3 (Br Qg (Qb 3)) Qg)) (λcl C s3 H3 ex=>⟨(QG 0 (show List.Nodup (["_law_k"]:List Str) by decide +kernel)),Bq,(QP (Qe Q0 Qj))⟩))
 (Qf (Qx 13 Zc.nd (QL (QL (W9 (Qe (QP (Qe Q0 Qj)) Qj)) (Qb 12)) (W9 (Qe (QP (Qe Q0 Qj)) (Qe (QP (Qe Q0 Qj)) (Qe (QP (Qe Q0 (Qe Q0 (Qe (Qb 3) Qj)))) Qj))))))
 (Qi (QD (QP (Qe (Qb 9) (Qe (J0 Z.z_tuple (Xo (ZF (Nb:=["_law_k"]) (no:=1) (cap:=[]) (N:=VU) (sc:=Qk JO) rfl rfl (by decide +kernel)) rfl (Z9 (Qb 7)) (λcl C s3 H3 ex=>⟨(QG 0 (show List.Nodup (["_law_k"]:List Str) by decide +kernel)),Bq,(QL Qg (Qb 0))⟩))) (Qe (Qb 13) Qj))))))))))))))))))))
theorem Ss(Z:Zk K mg ca):FnH P w K mg base ca "_law_go" 1 2 GQ:=Q4 Z.u8 So λ_ _ _ _ _ _ _ hr=>(Qf (Qx 2 So.nd (Qh (Qh (Qb 0) (Qh (Qb 1) Qg)) (Pw (Qh (Qb 1) Qg) (Qh (Qb 1) Qg) Qg)))
 (Qf (Zj (FI (Qb 2) VG) (Qi (QD Vl)) QB)
 (Qf (DU (Qh (Qb 1) Qg) (Qh (Qb 1) Qg) (Qh (Qb 2) Qg))
 (Qf (Zj (ZH hr (Qh (Qb 2) Qg) Qg) (Qi (Z3 (lK (Qh (Qb 1) Qg) (Qh (Qb 1) Qg)))) QB)
 (Qf (JY (Qb 1) Qg (Qh (Qb 2) Qg))
 (Qf (JY (Qb 1) Qg (QL (Qh (Qb 1) Qg) (Qh (W9 (Qe (Vp Qg) (Qe Qg Qj))) (Gh Z.z_int (Cw hr (Qh (Qb 2) Qg) Q0)))))
 (Qi (QD Vl))))))))
theorem ND(Z:Zk K mg ca):FnH P w K mg base ca "_law_listed" 1 2 CC:=Q4 Z.u9 Y5 λ_ _ _ _ _ _ _ hr=>(Qf (Mu (Qb 0) (Vo rfl (Zi (QG 2 Y5.nd) (Zi (QG 3 Y5.nd) (Zi (QG 4 Y5.nd) (Zi (QG 5 Y5.nd) Vn))))))
 (Qf (Zj (ZH hr (Jv (Qb 1) Qg) Qg) (Qi (Qx 5 Y5.nd (J0 Z.z_tuple (Qb 5)))) QB)
 (Qf (Zj (ZH hr (Jv (Xp (Qb 1) Qg) Qg) Qg) (Qi (Qx 4 Y5.nd (QP (Qe (Qh (Qb 4) Qg) (Qe (Qh (Qb 4) Qg) (Qe (GC Z.z_list (Qh (Qb 4) Qg)) (Qe (GC Z.z_list (Qh (Qb 4) Qg)) Qj))))))) QB)
 (Qi (QD (QP (Qe (Qb 2) (Qe (Qb 3) (Qe (Qb 4) (Qe (Qb 5) Qj))))))))))
theorem Jj(Z:Zk K mg ca):FnH P w K mg base ca "_law_round_steps" 1 3 ZI:=Q4 Z.u10 Yz λ_ _ _ _ _ _ _ hr=>(Qf (Qx 3 Yz.nd Qg)
 (Qf (YZ rfl (Z9 (Qb 0)) (QG 4 Yz.nd) (Qf (Zj (ZH hr (Qh (Qb 4) Qg) Q0) (Qi (Qx 3 Yz.nd (QL (Qb 3) Qg))) QB)
 (Qi (Zj (ZH hr (Qh (Qb 4) Qg) Q0) (Qi (Qx 3 Yz.nd (QL (Qb 3) (Br (Qb 1) (Qb 2))))) QB))))
 (Qi (QD (Qb 3)))))
theorem OZ(Z:Zk K mg ca):FnH P w K mg base ca "_law_start" 2 4 E5:=Q4 Z.u11 KF λ_ _ _ _ _ _ _ hr=>(Qf (Qx 4 KF.nd Qg)
 (Qf (YZ rfl (Z5 Z.z_range (Qb 3)) (QG 5 KF.nd) (Qi (Qx 4 KF.nd (QL (Qb 4) (Qt (Jj Z) hr.m (Qe (Qb 0) (Qe (Qb 2) (Qe (Qb 5) Qj))))))))
 (Qi (QD (QL (Qb 4) (Qt (Jj Z) hr.m (Qe (Qb 1) (Qe (Qb 2) (Qe (Qb 3) Qj)))))))))
theorem XV(Z:Zk K mg ca):FnH P w K mg base ca "in_place_of_ahead" 1 2 ZG:=Q4 Z.u12 BO λ_ _ _ _ _ _ _ hr=>(Qf (Zj (ZH hr (Qh (Qb 0) Qg) (Q2 Z.g_RIGHT)) (Qi (QD (QP (Qe (Qh (Qb 0) Qg) (Qe (Q2 Z.g_RIGHT) (Qe (Qh (Qb 0) Qg) (Qe (QL (Qb 1) (Zn (Qh (Qb 0) Qg) (ZJ Qg) Za)) Qj))))))) QB)
 (Qi (QD (QP (Qe (Qh (Qb 0) Qg) (Qe (Q2 Z.g_LEFT) (Qe (QL (Zn (Qh (Qb 0) Qg) Za (ZJ (Vp Qg))) (Qb 1)) (Qe (Qh (Qb 0) Qg) Qj))))))))
theorem BY(Z:Zk K mg ca):FnH P w K mg base ca "token_ahead" 1 1 YS:=Q4 Z.u13 BP λ_ _ _ _ _ _ _ hr=>(Qf (Qx 1 BP.nd (JW (ZH hr (Qh (Qb 0) Qg) (Q2 Z.g_RIGHT)) (Zn (Qh (Qb 0) Qg) Za (ZJ Qg)) (Zn (Qh (Qb 0) Qg) (ZJ (Vp Qg)) Za)))
 (Qi (QD (JW (Ph (ZS Z.z_len (Qb 1)) Qg) (Qh (Qb 1) Qg) VG))))
theorem Cs(Z:Zk K mg ca):FnH P w K mg base ca "many_ahead" 2 1 Jd:=Q4 Z.u14 Cq λ_ _ _ _ _ _ _ hr=>(Qf (Qx 1 Cq.nd (Qt (BY Z) hr.m (Qe (Qb 0) Qj)))
 (Qf (Zj (N6 (KP (FI (Qb 1) VG) (VY (XN hr (Qh (Qb 1) Qg) (Q2 Z.g_MANY))))) (Qi (Zx Z.e_NoMove hr.hd (Qe Q0 Qj))) QB)
 (Qi (QD (Qb 1)))))
theorem HF(Z:Zk K mg ca):FnH P w K mg base ca "ones_of" 1 1 B3:=Q4 Z.u15 OO λ_ _ _ _ _ _ _ hr=>(Qi (QD (J0 Z.z_tuple (Xo (ZF (Nb:=["sign"]) (no:=1) (cap:=[]) (N:=IX) (sc:=Qk Cc) rfl rfl (by decide +kernel)) rfl (Z9 (Qb 0)) (λcl C s3 H3 ex=>⟨(QG 0 (show List.Nodup (["sign"]:List Str) by decide +kernel)),Bq,(QP (Qe (Q2 Z.g_ONE) (Qe (Qb 0) Qj)))⟩)))))
theorem Io(Z:Zk K mg ca):FnH P w K mg base ca "after_open" 3 1 Eu:=Q4 Z.u16 XI λ_ _ _ _ _ _ _ hr=>(Qf (Qx 1 XI.nd (Qt (Cs Z) hr.m (Qe (Qb 0) Qj)))
 (Qf (Zj (FH (Qh (Qb 1) Qg) Qg) (Qi (Zx Z.e_NoMove hr.hd (Qe Q0 Qj))) QB)
 (Qf (Qx 2 XI.nd (QP (Qe (QP (Qe (Q2 Z.g_MANY) (Qe (Qh (Qb 1) Qg) (Qe (X3 (Qh (Qb 1) Qg) Qg) Qj)))) Qj)))
 (Qf (Qx 3 XI.nd (Qt (HF Z) hr.m (Qe (Qh (Qb 1) Qg) Qj)))
 (Qi (QD (Qt (XV Z) hr.m (Qe (Qb 0) (Qe (JW (ZH hr (Qh (Qb 0) Qg) (Q2 Z.g_RIGHT)) (QL (Qb 3) (Qb 2)) (QL (Qb 2) (Qb 3))) Qj)))))))))
theorem HG(Z:Zk K mg ca):FnH P w K mg base ca "gone_on" 2 4 Kc:=Q4 Z.u17 Hu λ_ _ _ _ _ _ _ hr=>(Qf (Qx 4 Hu.nd (Qt (XV Z) hr.m (Qe (Qb 0) (Qe (QP Qj) Qj))))
 (Qf (Zj (ZH hr (Qb 2) (Q2 Z.g_RIGHT)) (Qi (QD (QP (Qe (Qb 1) (Qe (Qb 2) (Qe (QL (Qh (Qb 4) Qg) (QP (Qe (Qb 3) Qj))) (Qe (Qh (Qb 4) Qg) Qj))))))) QB)
 (Qi (QD (QP (Qe (Qb 1) (Qe (Qb 2) (Qe (Qh (Qb 4) Qg) (Qe (QL (QP (Qe (Qb 3) Qj)) (Qh (Qb 4) Qg)) Qj)))))))))
theorem HH(Z:Zk K mg ca):FnH P w K mg base ca "word_behind" 3 4 V0:=Q4 Z.u18 ZY λ_ _ _ _ _ _ _ hr=>(Qf (Qx 4 ZY.nd (GC Z.z_list (Qb 3)))
 (Qf (Qx 5 ZY.nd (JW (ZH hr (Qb 2) (Q2 Z.g_RIGHT)) Qg (X3 (ZS Z.z_len (Qb 4)) Qg)))
 (Qf (Qx 6 ZY.nd (Qb 1))
 (Qf (YZ rfl (Z5 Z.z_range (Cz Z.g_MOST_STEPS_OVER)) (QG 7 ZY.nd) (Qf (Qx 8 ZY.nd (Qh (Qh (Zz (Qb 0) Z.a_table) (Qb 6)) (Qh (Qb 4) (Qb 5))))
 (Qf (Zj (FI (Qb 8) VG) (Qi (QD VG)) QB)
 (Qf (JY (Qb 4) (Qb 5) (Qh (Qb 8) Qg))
 (Qf (Qx 5 ZY.nd (JW (ZH hr (Qh (Qb 8) Qg) (Q2 Z.g_RIGHT)) (QL (Qb 5) Qg) (X3 (Qb 5) Qg)))
 (Qf (Qx 6 ZY.nd (Qh (Qb 8) Qg))
 (Qi (Zj (YV (ZW (Qt (XU Z) hr.m (Qe (Qb 5) (Qe (ZS Z.z_len (Qb 4)) Qj))))) (Qi (QD (JW (N6 (Gv (ZH hr (Qh (Qb 8) Qg) (Qb 2)) (Ei (ZH hr (Qb 6) (Qb 1))))) (J0 Z.z_tuple (Qb 4)) VG))) QB))))))))
 (Qi (QD VG))))))
theorem Ip(Z:Zk K mg ca):FnH P w K mg base ca "after_over" 4 2 YK:=Q4 Z.u19 V8 λ_ _ _ _ _ _ _ hr=>(Qf (Qx 2 V8.nd (Qt (Cs Z) hr.m (Qe (Qb 1) Qj)))
 (Qf (Qx 3 V8.nd (Qt (HH Z) hr.m (Qe (Qb 0) (Qe (Qh (Qb 1) Qg) (Qe (Qh (Qb 1) Qg) (Qe (Qh (Qb 2) Qg) Qj))))))
 (Qf (Zj (FI (Qb 3) VG) (Qi (Zx Z.e_NoMove hr.hd (Qe Q0 Qj))) QB)
 (Qi (QD (Qt (HG Z) hr.m (Qe (Qb 1) (Qe (Qh (Qb 1) Qg) (Qe (Qh (Qb 1) Qg) (Qe (QP (Qe (Q2 Z.g_MANY) (Qe (Qb 3) (Qe (Qh (Qb 2) Qg) Qj)))) Qj))))))))))
theorem NE(Z:Zk K mg ca):FnH P w K mg base ca "with_end" 1 3 YL:=Q4 Z.u20 FQ λ_ _ _ _ _ _ _ hr=>(Qf (Qx 3 FQ.nd (QP (Qe (QP (Qe (Q2 Z.g_ONE) (Qe (Cz Z.g_BLANK) Qj))) Qj)))
 (Qf (Zj (ZH hr (Qb 1) Q0) (Qi (QD (JW (ZH hr (Qb 2) (Q2 Z.g_LEFT)) (QL (Qb 3) (Qb 0)) (QL (Qb 0) (Qb 3))))) QB)
 (Qf (Zj (XN hr (Qb 1) Q0) (Qi (Zx Z.e_NoMove hr.hd (Qe Q0 Qj))) QB)
 (Qf (Zj (XN hr (JW (ZH hr (Qb 2) (Q2 Z.g_LEFT)) (Zn (Qb 0) Za (ZJ Qg)) (Zn (Qb 0) (ZJ (Vp Qg)) Za)) (Qb 3)) (Qi (Zx Z.e_NoMove hr.hd (Qe Q0 Qj))) QB)
 (Qi (QD (JW (ZH hr (Qb 2) (Q2 Z.g_LEFT)) (Zn (Qb 0) (ZJ Qg) Za) (Zn (Qb 0) Za (ZJ (Vp Qg))))))))))
theorem Fz(Z:Zk K mg ca):FnH P w K mg base ca "place_of_many" 3 3 Jz:=Q4 Z.u21 Kh λ_ _ _ _ _ _ _ hr=>(Qf (Zj (YV (ZW (Qt (XU Z) hr.m (Qe (Qb 2) (Qe (ZS Z.z_len (Qb 0)) Qj))))) (Qi (Zx Z.e_NoMove hr.hd (Qe Q0 Qj))) QB)
 (Qf (Qx 3 Kh.nd (JW (ZH hr (Qb 1) (Q2 Z.g_LEFT)) (Qb 2) (X3 (X3 (ZS Z.z_len (Qb 0)) Qg) (Qb 2))))
 (Qf (Zj (XN hr (Qh (Qh (Qb 0) (Qb 3)) Qg) (Q2 Z.g_MANY)) (Qi (Zx Z.e_NoMove hr.hd (Qe Q0 Qj))) QB)
 (Qi (QD (Qb 3))))))
theorem WY(Z:Zk K mg ca):FnH P w K mg base ca "with_one_brought_over" 3 3 JL:=Q4 Z.u22 Q1 λ_ _ _ _ _ _ _ hr=>(Qf (Qx 3 Q1.nd (Qh (Qb 0) (Qb 1)))
 (Qf (Qx 4 Q1.nd (Qh (Qb 3) Qg))
 (Qf (Qx 5 Q1.nd (JW (ZW (Qb 2)) (Qh (Qb 4) (Vp Qg)) (Qh (Qb 4) Qg)))
 (Qf (Qx 6 Q1.nd (JW (ZW (Qb 2)) (X3 (Qb 1) Qg) (QL (Qb 1) Qg)))
 (Qf (Zj (N6 (KP (YV (ZW (Qt (XU Z) hr.m (Qe (Qb 6) (Qe (ZS Z.z_len (Qb 0)) Qj))))) (VY (XN hr (Qh (Qb 0) (Qb 6)) (QP (Qe (Q2 Z.g_ONE) (Qe (Qb 5) Qj))))))) (Qi (Zx Z.e_NoMove hr.hd (Qe Q0 Qj))) QB)
 (Qf (Zj (ZW (Qb 2)) (Qf (Qx 7 Q1.nd (QP (Qe (Q2 Z.g_MANY) (Qe (QL (QP (Qe (Qb 5) Qj)) (Zn (Qb 4) Za (ZJ (Vp Qg)))) (Qe (Qh (Qb 3) Qg) Qj)))))
 (Qi (QD (QL (QL (Zn (Qb 0) Za (ZJ (Qb 6))) (QP (Qe (Qb 7) (Qe (Qh (Qb 0) (Qb 6)) Qj)))) (Zn (Qb 0) (ZJ (QL (Qb 1) Qg)) Za))))) QB)
 (Qf (Qx 7 Q1.nd (QP (Qe (Q2 Z.g_MANY) (Qe (QL (Zn (Qb 4) (ZJ Qg) Za) (QP (Qe (Qb 5) Qj))) (Qe (Qh (Qb 3) Qg) Qj)))))
 (Qi (QD (QL (QL (Zn (Qb 0) Za (ZJ (Qb 1))) (QP (Qe (Qh (Qb 0) (Qb 6)) (Qe (Qb 7) Qj)))) (Zn (Qb 0) (ZJ (QL (Qb 6) Qg)) Za)))))))))))
theorem K7(Z:Zk K mg ca):FnH P w K mg base ca "raised_token" 1 1 Yc:=Q4 Z.u23 F4 λ_ _ _ _ _ _ _ hr=>(Qi (QD (JW (ZH hr (Qh (Qb 0) Qg) (Q2 Z.g_ONE)) (Qb 0) (QP (Qe (Q2 Z.g_MANY) (Qe (Qh (Qb 0) Qg) (Qe (QL (Qh (Qb 0) Qg) Qg) Qj)))))))
theorem Be(Z:Zk K mg ca):FnH P w K mg base ca "with_ones_taken_in" 2 3 Ym:=Q4 Z.u24 Yf λ_ _ _ _ _ _ _ hr=>(Qf (Qx 3 Yf.nd (Qh (Qb 0) (Qb 1)))
 (Qf (Qx 4 Yf.nd (JW (ZW (Qb 2)) (QL (Qb 1) Qg) (X3 (Qb 1) (ZS Z.z_len (Qh (Qb 3) Qg)))))
 (Qf (Qx 5 Yf.nd (QL (Qb 4) (ZS Z.z_len (Qh (Qb 3) Qg))))
 (Qf (Zj (N6 (KP (FH (Qb 4) Qg) (VY (XN hr (Zn (Qb 0) (ZJ (Qb 4)) (ZJ (Qb 5))) (Qt (HF Z) hr.m (Qe (Qh (Qb 3) Qg) Qj)))))) (Qi (Zx Z.e_NoMove hr.hd (Qe Q0 Qj))) QB)
 (Qi (QD (QL (QL (Zn (Qb 0) Za (ZJ (DW rfl Z.z_min (Qb 4) (Qb 1)))) (QP (Qe (Qt (K7 Z) hr.m (Qe (Qb 3) Qj)) Qj))) (Zn (Qb 0) (ZJ (lM rfl Z.z_max (Qb 5) (QL (Qb 1) Qg))) Za))))))))
theorem L5(Z:Zk K mg ca):FnH P w K mg base ca "with_many" 4 4 VL:=Q4 Z.u25 EM λ_ _ _ _ _ _ _ hr=>(Qf (Qx 4 EM.nd (Qt (Fz Z) hr.m (Qe (Qb 0) (Qe (Qb 2) (Qe (Qb 3) Qj)))))
 (Qf (Zj (iJ (Qb 1) (QP (Qe Q0 (Qe Q0 Qj)))) (Qi (QD (Qt (Be Z) hr.m (Qe (Qb 0) (Qe (Qb 4) (Qe (Cw hr (Cw hr (Qb 1) Q0) (Cw hr (Qb 2) (Q2 Z.g_LEFT))) Qj)))))) QB)
 (Qf (Zj (iJ (Qb 1) (QP (Qe Q0 (Qe Q0 Qj)))) (Qi (QD (Qt (WY Z) hr.m (Qe (Qb 0) (Qe (Qb 4) (Qe (Cw hr (Cw hr (Qb 1) Q0) (Cw hr (Qb 2) (Q2 Z.g_LEFT))) Qj)))))) QB)
 (Qi (Zx Z.e_NoMove hr.hd (Qe Q0 Qj))))))
theorem Bg(Z:Zk K mg ca):FnH P w K mg base ca "after_put_together" 5 2 ZX:=Q4 Z.u26 ZM λ_ _ _ _ _ _ _ hr=>(Qf (Zj (N6 (KP (YV (ZW (Bt .tuple Z.z_isinstance Z.z_tuple Kb (Qb 1)))) (KP (GE (ZS Z.z_len (Qb 1)) (QP (Qe Qg (Qe Qg Qj)))) (VY (GE (Qh (Qb 1) Qg) (QP (Qe (Q2 Z.g_LEFT) (Qe (Q2 Z.g_RIGHT) Qj)))))))) (Qi (Zx Z.e_NoMove hr.hd (Qe Q0 Qj))) QB)
 (Qf (Qx 2 ZM.nd (Qh (Qb 1) Qg))
 (Qf (Qx 3 ZM.nd (JW (ZH hr (Qb 2) (Q2 Z.g_LEFT)) (Qh (Qb 0) Qg) (Qh (Qb 0) Qg)))
 (Qf (Zj (ZH hr (ZS Z.z_len (Qb 1)) Qg) (Qi (Qx 4 ZM.nd (Qt (NE Z) hr.m (Qe (Qb 3) (Qe (Qh (Qb 1) Qg) (Qe (Qb 2) Qj)))))) (Qi (Qx 4 ZM.nd (Qt (L5 Z) hr.m (Qe (Qb 3) (Qe (Qh (Qb 1) Qg) (Qe (Qb 2) (Qe (Qh (Qb 1) Qg) Qj))))))))
 (Qf (Zj (ZH hr (Qb 2) (Q2 Z.g_LEFT)) (Qi (QD (QP (Qe (Qh (Qb 0) Qg) (Qe (Qh (Qb 0) Qg) (Qe (Qb 4) (Qe (Qh (Qb 0) Qg) Qj))))))) QB)
 (Qi (QD (QP (Qe (Qh (Qb 0) Qg) (Qe (Qh (Qb 0) Qg) (Qe (Qh (Qb 0) Qg) (Qe (Qb 4) Qj))))))))))))
theorem Iq(Z:Zk K mg ca):FnH P w K mg base ca "after_step" 3 2 YM:=Q4 Z.u27 V9 λ_ _ _ _ _ _ _ hr=>(Qf (Qx 2 V9.nd (Qt (BY Z) hr.m (Qe (Qb 1) Qj)))
 (Qf (Zj (N6 (Gv (DB (Qb 2) VG) (Ei (ZH hr (Qh (Qb 2) Qg) (Q2 Z.g_MANY))))) (Qi (Zx Z.e_NoMove hr.hd (Qe Q0 Qj))) QB)
 (Qf (Qx 3 V9.nd (Qh (Qh (Zz (Qb 0) Z.a_table) (Qh (Qb 1) Qg)) (JW (FI (Qb 2) VG) (Cz Z.g_BLANK) (Qh (Qb 2) Qg))))
 (Qf (Zj (FI (Qb 3) VG) (Qi (Zx Z.e_NoMove hr.hd (Qe Q0 Qj))) QB)
 (Qi (QD (Qt (HG Z) hr.m (Qe (Qb 1) (Qe (Qh (Qb 3) Qg) (Qe (Qh (Qb 3) Qg) (Qe (QP (Qe (Q2 Z.g_ONE) (Qe (Qh (Qb 3) Qg) Qj))) Qj)))))))))))
theorem Ct(Z:Zk K mg ca):FnH P w K mg base ca "after_move" 6 3 ZU:=Q4 Z.u28 Ig λ_ _ _ _ _ _ _ hr=>(Qf (Zj (ZH hr (Qb 2) (Er Z.g_STEP)) (Qi (QD (Qt (Iq Z) hr.m (Qe (Qb 0) (Qe (Qb 1) Qj))))) QB)
 (Qf (Zj (ZH hr (Qb 2) (Er Z.g_OVER)) (Qi (QD (Qt (Ip Z) hr.m (Qe (Qb 0) (Qe (Qb 1) Qj))))) QB)
 (Qf (Zj (ZH hr (Qb 2) (Er Z.g_OPEN)) (Qi (QD (Qt (Io Z) hr.m (Qe (Qb 1) Qj)))) QB)
 (Qi (QD (Qt (Bg Z) hr.m (Qe (Qb 1) (Qe (Qb 2) Qj))))))))
theorem Z2(Z:Zk K mg ca):FnH P w K mg base ca "is_from_nought" 2 1 QM:=Q4 Z.u29 EN λ_ _ _ _ _ _ _ hr=>(Qi (QD (Vm (Qt (FS Z) hr.m (Qe (Qb 0) Qj)) (Cm (tM (Qb 0) Qg)))))
theorem O0(Z:Zk K mg ca):FnH P w K mg base ca "is_word" 3 1 Vi:=Q4 Z.u30 OQ λ_ _ _ _ _ _ _ hr=>(Qi (QD (Vm (Bt .tuple Z.z_isinstance Z.z_tuple Kb (Qb 0)) (Vm (kZ (ZS Z.z_len (Qb 0)) Qg) (Cm (Pn rfl Z.z_all (Xo (ZF (Nb:=["sign"]) (no:=1) (cap:=[]) (N:=IY) (sc:=Qk Cd) rfl rfl (by decide +kernel)) rfl (Z9 (Qb 0)) (λcl C s3 H3 ex=>⟨(QG 0 (show List.Nodup (["sign"]:List Str) by decide +kernel)),Bq,(Qt (Z2 Z) hr.m (Qe (Qb 0) Qj))⟩))))))))
theorem NF(Z:Zk K mg ca):FnH P w K mg base ca "is_token" 4 1 JH:=Q4 Z.u31 Nx λ_ _ _ _ _ _ _ hr=>(Qf (Zj (YV (ZW (Bt .tuple Z.z_isinstance Z.z_tuple Kb (Qb 0)))) (Qi (QD Vl)) QB)
 (Qf (Zj (ZH hr (ZS Z.z_len (Qb 0)) Qg) (Qi (QD (Vm (Cw hr (Qh (Qb 0) Qg) (Q2 Z.g_ONE)) (Cm (Qt (Z2 Z) hr.m (Qe (Qh (Qb 0) Qg) Qj)))))) QB)
 (Qi (QD (Vm (Cw hr (ZS Z.z_len (Qb 0)) Qg) (Vm (Cw hr (Qh (Qb 0) Qg) (Q2 Z.g_MANY)) (Vm (Qt (O0 Z) hr.m (Qe (Qh (Qb 0) Qg) Qj)) (Cm (Qt (Z2 Z) hr.m (Qe (Qh (Qb 0) Qg) Qj))))))))))
theorem Tm(Z:Zk K mg ca):FnH P w K mg base ca "check_tokens" 5 1 Zl:=Q4 Z.u32 F5 λ_ _ _ _ _ _ _ hr=>(Qi (Zj (N6 (KP (YV (ZW (Pz Z.z_isinstance Z.z_list Z.z_tuple (Qb 0)))) (VY (YV (ZW (Pn rfl Z.z_all (Xo (ZF (Nb:=["thing"]) (no:=1) (cap:=[]) (N:=BT) (sc:=Qk Xk) rfl rfl (by decide +kernel)) rfl (Z9 (Qb 0)) (λcl C s3 H3 ex=>⟨(QG 0 (show List.Nodup (["thing"]:List Str) by decide +kernel)),Bq,(Qt (NF Z) hr.m (Qe (Qb 0) Qj))⟩)))))))) (Qi (Zx Z.e_NoShape hr.hd (Qe Q0 Qj))) QB))
theorem VC(Z:Zk K mg ca):FnH P w K mg base ca "check_shape" 6 1 Yo:=Q4 Z.u33 Hw λ_ _ _ _ _ _ _ hr=>(Qf (Zj (N6 (KP (YV (ZW (Bt .tuple Z.z_isinstance Z.z_tuple Kb (Qb 0)))) (VY (XN hr (ZS Z.z_len (Qb 0)) Qg)))) (Qi (Zx Z.e_NoShape hr.hd (Qe Q0 Qj))) QB)
 (Qf (Zj (YV (ZW (Qt (Z2 Z) hr.m (Qe (Qh (Qb 0) Qg) Qj)))) (Qi (Zx Z.e_NoShape hr.hd (Qe Q0 Qj))) QB)
 (Qf (Zj (GE (Qh (Qb 0) Qg) (QP (Qe (Q2 Z.g_LEFT) (Qe (Q2 Z.g_RIGHT) Qj)))) (Qi (Zx Z.e_NoShape hr.hd (Qe Q0 Qj))) QB)
 (Qf (Z3 (Qt (Tm Z) hr.m (Qe (Qh (Qb 0) Qg) Qj)))
 (Qi (Z3 (Qt (Tm Z) hr.m (Qe (Qh (Qb 0) Qg) Qj))))))))
theorem NG(Z:Zk K mg ca):FnH P w K mg base ca "signs_in" 1 1 Xr:=Q4 Z.u34 Ny λ_ _ _ _ _ _ _ hr=>(Qi (QD (JW (ZH hr (Qh (Qb 0) Qg) (Q2 Z.g_ONE)) (QP (Qe (Qh (Qb 0) Qg) Qj)) (Qh (Qb 0) Qg))))
theorem NH(Z:Zk K mg ca):FnH P w K mg base ca "signs_of" 1 1 Kt:=Q4 Z.u35 Nz λ_ _ _ _ _ _ _ hr=>(Qi (QD (ZS Z.z_len (Qh (Zz (Qb 0) Z.a_table) Qg))))
theorem L6(Z:Zk K mg ca):FnH P w K mg base ca "states_of" 1 1 VM:=Q4 Z.u36 LS λ_ _ _ _ _ _ _ hr=>(Qi (QD (ZS Z.z_len (Zz (Qb 0) Z.a_table))))
theorem VW(Z:Zk K mg ca):FnH P w K mg base ca "check_shape_of" 7 2 Zo:=Q4 Z.u37 YY λ_ _ _ _ _ _ _ hr=>(Qf (Z3 (Qt (VC Z) hr.m (Qe (Qb 1) Qj)))
 (Qf (Zj (Pi (Qh (Qb 1) Qg) (Qt (L6 Z) hr.m (Qe (Qb 0) Qj))) (Qi (Zx Z.e_NoShape hr.hd (Qe Q0 Qj))) QB)
 (Qf (Qx 2 YY.nd (Qt (NH Z) hr.m (Qe (Qb 0) Qj)))
 (Qi (YZ rfl (Z9 (Zn (Qb 1) (ZJ Qg) Za)) (QG 3 YY.nd) (Qi (YZ rfl (Z9 (Qb 3)) (QG 4 YY.nd) (Qi (Zj (Pi (lJ rfl Z.z_max (Qt (NG Z) hr.m (Qe (Qb 4) Qj))) (Qb 2)) (Qi (Zx Z.e_NoShape hr.hd (Qe Q0 Qj))) QB)))))))))
theorem BZ(Z:Zk K mg ca):FnH P w K mg base ca "with_tuples" 1 1 Jw:=Q4 Z.u38 Hx λ_ _ _ _ _ _ _ hr=>(Qi (QD (QP (Qe (Qh (Qb 0) Qg) (Qe (Qh (Qb 0) Qg) (Qe (J0 Z.z_tuple (Qh (Qb 0) Qg)) (Qe (J0 Z.z_tuple (Qh (Qb 0) Qg)) Qj)))))))
theorem cG(Z:Zk K mg ca):FnH P w K mg base ca "moved" 8 3 Gj:=Q4 Z.u39 cD λ_ _ _ _ _ _ _ hr=>(Qf (Z3 (Qt (VW Z) hr.m (Qe (Qb 0) (Qe (Qb 1) Qj))))
 (Qi (QD (Qt (Ct Z) hr.m (Qe (Qb 0) (Qe (Qt (BZ Z) hr.m (Qe (Qb 1) Qj)) (Qe (Qb 2) Qj)))))))
theorem O1(Z:Zk K mg ca):FnH P w K mg base ca "_law_paper" 9 5 E8:=Q4 Z.u40 Zs λ_ _ _ _ _ _ _ hr=>(Qf (Qx 5 Zs.nd (Qt (Vj Z) hr.m (Qe (Qb 0) (Qe (Qb 1) Qj))))
 (Qf (Qx 6 Zs.nd (Jv (Qb 5) Qg))
 (Qf (Qx 7 Zs.nd (Jv (Xp (Qb 5) Qg) (ZS Z.z_len (Qb 4))))
 (Qf (Qx 8 Zs.nd (QP (Qe Qg (Qe Q0 (Qe (QP (Qe (QP (Qe Q0 (Qe Qg Qj))) Qj)) (Qe (QP (Qe (QP (Qe Q0 (Qe (Qb 3) (Qe (Qb 6) Qj)))) Qj)) Qj))))))
 (Qf (YZ rfl (Z9 (Zn (Qb 4) Za (ZJ (Qb 7)))) (QG 9 Zs.nd) (Qi (Qx 8 Zs.nd (Qt (cG Z) hr.m (Qe (N9 (K5 Z) hr.m (Qe (Qb 2) Qj)) (Qe (Qb 8) (Qe (Qb 9) Qj)))))))
 (Qf (Qx 10 Zs.nd (QL (Zn (Qb 4) (ZJ (Qb 7)) Za) (Zn (Qb 4) Za (ZJ (Qb 7)))))
 (Qf (YZ rfl (Z5 Z.z_range (Jv (Xp (Qb 5) Qg) Qg)) (QG 11 Zs.nd) (Qf (Qx 12 Zs.nd (Jv (Qt (Vj Z) hr.m (Qe (Qb 0) (Qe (Qb 1) Qj))) (QL (ZS Z.z_len (Qb 10)) Qg)))
 (Qf (Qx 13 Zs.nd (Qh Q0 (Jv (Xp (Qb 5) Qg) Qg)))
 (Qi (Qx 10 Zs.nd (QL (QL (Zn (Qb 10) Za (ZJ (Qb 12))) (W9 (Qe (QP (Qe Q0 (Qe (Qb 13) Qj))) (Qe (QP (Qe Q0 (Qe (Qb 13) Qj))) Qj)))) (Zn (Qb 10) (ZJ (Qb 12)) Za)))))))
 (Qf (Qx 14 Zs.nd (Qt (OZ Z) hr.m (Qe (Qb 4) (Qe (Zn (Qb 4) Za (ZJ (Qb 7))) (Qe (ZS Z.z_len (Qb 3)) (Qe (Qb 6) Qj))))))
 (Qf (Qx 15 Zs.nd (W9 Qj))
 (Qf (YZ rfl (Z5 Z.z_range Qg) (QG 16 Zs.nd) (Qf (Qx 17 Zs.nd (Qt (Jj Z) hr.m (Qe (Zn (Qb 4) (ZJ (Qb 7)) Za) (Qe (ZS Z.z_len (Qb 3)) (Qe (QL (Qb 6) (Qb 16)) Qj)))))
 (Qi (Z3 (J4 (Qb 15) (QL (Qb 17) (Qt (Jj Z) hr.m (Qe (Zn (Qb 4) Za (ZJ (Qb 7))) (Qe (ZS Z.z_len (Qb 3)) (Qe (QL (QL (Qb 6) (Qb 16)) Qg) Qj))))))))))
 (Qi (QD (QP (Qe (QP (Qe Q0 (Qe (Qb 14) (Qe (Qb 8) (Qe (Qb 10) Qj))))) (Qe (Qb 15) Qj)))))))))))))))
theorem HI(Z:Zk K mg ca):FnH P w K mg base ca "_law_cells" 1 2 B4:=Q4 Z.u41 VA λ_ _ _ _ _ _ _ hr=>(Qf (Qx 2 VA.nd (W9 Qj))
 (Qf (YZ rfl (Z9 (Qb 0)) (QG 3 VA.nd) (Qi (Zj (ZH hr (Qh (Qb 3) Qg) Q0) (Qi (Z3 (J4 (Qb 2) (Qh (Qb 3) Qg)))) (Qi (YZ rfl (Z5 Z.z_range (QL (Qb 1) (Qh (Qb 3) Qg))) (QG 4 VA.nd) (Qi (Qx 2 VA.nd (QL (Qb 2) (GC Z.z_list (Qh (Qb 3) Qg))))))))))
 (Qi (QD (Qb 2)))))
theorem AT(Z:Zk K mg ca):FnH P w K mg base ca "_law_laid" 2 2 GT:=Q4 Z.u42 Jg λ_ _ _ _ _ _ _ hr=>(Qf (Mu (Qb 0) (Vo rfl (Zi (QG 2 Jg.nd) (Zi (QG 3 Jg.nd) (Zi (QG 4 Jg.nd) (Zi (QG 5 Jg.nd) Vn))))))
 (Qf (Qx 6 Jg.nd (Qt (HI Z) hr.m (Qe (Qb 4) (Qe (Qb 1) Qj))))
 (Qf (Qx 7 Jg.nd (QL (Qb 6) (Qt (HI Z) hr.m (Qe (Qb 5) (Qe (Qb 1) Qj)))))
 (Qf (Qx 8 Jg.nd DT)
 (Qf (YZ rfl (Z5 Z.z_range (ZS Z.z_len (Qb 7))) (QG 9 Jg.nd) (Qi (Zj (XN hr (Qh (Qb 7) (Qb 9)) Qg) (Qi (DU (Qb 8) (X3 (Qb 9) (ZS Z.z_len (Qb 6))) (Qh (Qb 7) (Qb 9)))) QB)))
 (Qi (QD (QP (Qe (Qb 2) (Qe (Vp (Gh Z.z_int (Cw hr (Qb 3) Q0))) (Qe (Qb 8) Qj)))))))))))
theorem NI(Z:Zk K mg ca):FnH P w K mg base ca "_law_stands" 3 3 Vt:=Q4 Z.u43 XT λ_ _ _ _ _ _ _ hr=>(Qf (Mu (Qt (AT Z) hr.m (Qe (Qb 1) (Qe (Qb 2) Qj))) (Vo rfl (Zi (QG 3 XT.nd) (Zi (QG 4 XT.nd) (Zi (QG 5 XT.nd) Vn)))))
 (Qf (Qx 6 XT.nd (X3 (Qh (Qb 0) Qg) (Qb 4)))
 (Qf (Zj (N6 (KP (XN hr (Qh (Qb 0) Qg) (Qb 3)) (VY (XN hr (DZ Z.z_len (Qh (Qb 0) Qg)) (DZ Z.z_len (Qb 5)))))) (Qi (QD Vl)) QB)
 (Qi (QD (Pn rfl Z.z_all (Xo (ZF (Nb:=["_law_spot","_law_cells_here","_law_by","_law_run"]) (no:=1) (cap:=[5,6,0]) (N:=Hz) (sc:=Qk KL) rfl rfl (by decide +kernel)) rfl (D1 (Qb 5)) (λcl C s3 H3 ex=>⟨(QG 0 (show List.Nodup (["_law_spot","_law_cells_here","_law_by","_law_run"]:List Str) by decide +kernel)),Bq,(Cw hr (Pw (Qh (Qb 3) Qg) (QL (Qb 0) (Qb 2)) Qg) (lO (Qb 1) (Qb 0)))⟩))))))))
theorem HJ(Z:Zk K mg ca):FnH P w K mg base ca "after_moves" 8 3 XD:=Q4 Z.u44 Xl λ_ _ _ _ _ _ _ hr=>(Qf (Z3 (Qt (VW Z) hr.m (Qe (Qb 0) (Qe (Qb 1) Qj))))
 (Qf (Qx 3 Xl.nd (Qt (BZ Z) hr.m (Qe (Qb 1) Qj)))
 (Qf (YZ rfl (Z9 (Qb 2)) (QG 4 Xl.nd) (Qi (Qx 3 Xl.nd (Qt (Ct Z) hr.m (Qe (Qb 0) (Qe (Qb 3) (Qe (Qb 4) Qj)))))))
 (Qi (QD (Qb 3))))))
theorem L7(Z:Zk K mg ca):MkH P w K mg base ca 12 "Walk" 1 3 VN:=by
 obtain⟨f,fd,F,hm⟩:=Z.u45;exact⟨⟨f,fd,["self","machine","shot"],KQ F LU rfl rfl (λcdv A outer s H E hr=>(Qf (Ja (Qb 0) (Zz (Qb 1) Z.a_table) Z.a_table)
 (Qf (Ja (Qb 0) (Qh (Qb 2) Qg) Z.a_state)
 (Qf (Ja (Qb 0) (Qh (Qb 2) Qg) Z.a_place)
 (Qf (Ja (Qb 0) (Xo (ZF (Nb:=["place","sign","self"]) (no:=2) (cap:=[0]) (N:=BV) (sc:=Qk YH) rfl rfl (by decide +kernel)) rfl (Z9 (Qh (Qb 2) Qg)) (λcl C s3 H3 ex=>⟨(Vo rfl (Zi (QG 0 (show List.Nodup (["place","sign","self"]:List Str) by decide +kernel)) (Zi (QG 1 (show List.Nodup (["place","sign","self"]:List Str) by decide +kernel)) Vn))),(Mv (FH (Qb 0) (Zz (Qb 2) Z.a_place))),(QP (Qe (Qb 0) (Qe (Qb 1) Qj)))⟩)) Z.a_left_marks)
 (Qi (Ja (Qb 0) (Xo (ZF (Nb:=["place","sign","self"]) (no:=2) (cap:=[0]) (N:=BV) (sc:=Qk YH) rfl rfl (by decide +kernel)) rfl (Ps Z.z_reversed (Qh (Qb 2) Qg)) (λcl C s3 H3 ex=>⟨(Vo rfl (Zi (QG 0 (show List.Nodup (["place","sign","self"]:List Str) by decide +kernel)) (Zi (QG 1 (show List.Nodup (["place","sign","self"]:List Str) by decide +kernel)) Vn))),(Mv (Pi (Qb 0) (Zz (Qb 2) Z.a_place))),(QP (Qe (Qb 0) (Qe (Qb 1) Qj)))⟩)) Z.a_right_marks))))))),hm.1,hm.2,F.binds (ps:=["self","machine","shot"]) (λ_ _ _ _ _ _ us hl=>by obtain⟨_,_,_,rfl⟩:=L3.len3 hl;rfl)⟩,JZ _ _ _⟩
theorem JK(Z:Zk K mg ca):MtH P w K mg base ca 12 "is_on_mark" 1 1 Zt:=by obtain⟨f,fd,F,hm⟩:=Z.u46;exact⟨⟨f,fd,["self"],KQ F C3 rfl rfl (λcdv A outer s H E hr=>(Qi (QD (Vm (kZ (ZS Z.z_len (Zz (Qb 0) Z.a_right_marks)) Qg) (Cm (Cw hr (Qh (Qh (Zz (Qb 0) Z.a_right_marks) (Vp Qg)) Qg) (Zz (Qb 0) Z.a_place))))))),hm.1,hm.2,F.binds (ps:=["self"]) (λ_ _ _ _ _ _ us hl=>by obtain⟨_,rfl⟩:=L3.len1 hl;rfl)⟩,JZ _ _ _⟩
theorem Ir(Z:Zk K mg ca):MtH P w K mg base ca 12 "entry" 2 1 Va:=by
 obtain⟨f,fd,F,hm⟩:=Z.u47;exact⟨⟨f,fd,["self"],KQ F Cr rfl rfl (λcdv A outer s H E hr=>(Qf (Qx 1 Cr.nd (JW (ZW (VH (JK Z) hr.m (Qb 0))) (Qh (Qh (Zz (Qb 0) Z.a_right_marks) (Vp Qg)) Qg) (Cz Z.g_BLANK)))
 (Qi (QD (Qh (Qh (Zz (Qb 0) Z.a_table) (Zz (Qb 0) Z.a_state)) (Qb 1)))))),hm.1,hm.2,F.binds (ps:=["self"]) (λ_ _ _ _ _ _ us hl=>by obtain⟨_,rfl⟩:=L3.len1 hl;rfl)⟩,JZ _ _ _⟩
theorem Gb(Z:Zk K mg ca):MtH P w K mg base ca 12 "go_left" 1 1 J9:=by
 obtain⟨f,fd,F,hm⟩:=Z.u48;exact⟨⟨f,fd,["self"],KQ F F6 rfl rfl (λcdv A outer s H E hr=>(Qf (Ja (Qb 0) (X3 (Zz (Qb 0) Z.a_place) Qg) Z.a_place)
 (Qi (Zj (N6 (Gv (Ph (ZS Z.z_len (Zz (Qb 0) Z.a_left_marks)) Qg) (Ei (ZH hr (Qh (Qh (Zz (Qb 0) Z.a_left_marks) (Vp Qg)) Qg) (Zz (Qb 0) Z.a_place))))) (Qi (Z3 (J4 (Zz (Qb 0) Z.a_right_marks) (DC (Zz (Qb 0) Z.a_left_marks))))) QB)))),hm.1,hm.2,F.binds (ps:=["self"]) (λ_ _ _ _ _ _ us hl=>by obtain⟨_,rfl⟩:=L3.len1 hl;rfl)⟩,JZ _ _ _⟩
theorem FB(Z:Zk K mg ca):MtH P w K mg base ca 12 "go_right" 2 1 JA:=by
 obtain⟨f,fd,F,hm⟩:=Z.u49;exact⟨⟨f,fd,["self"],KQ F Fv rfl rfl (λcdv A outer s H E hr=>(Qf (Zj (ZW (VH (JK Z) hr.m (Qb 0))) (Qi (Z3 (J4 (Zz (Qb 0) Z.a_left_marks) (DC (Zz (Qb 0) Z.a_right_marks))))) QB)
 (Qi (Ja (Qb 0) (QL (Zz (Qb 0) Z.a_place) Qg) Z.a_place)))),hm.1,hm.2,F.binds (ps:=["self"]) (λ_ _ _ _ _ _ us hl=>by obtain⟨_,rfl⟩:=L3.len1 hl;rfl)⟩,JZ _ _ _⟩
theorem Iu(Z:Zk K mg ca):MtH P w K mg base ca 12 "write" 2 2 Vb:=by
 obtain⟨f,fd,F,hm⟩:=Z.u50;exact⟨⟨f,fd,["self","sign"],KQ F Ik rfl rfl (λcdv A outer s H E hr=>(Qf (Zj (ZW (VH (JK Z) hr.m (Qb 0))) (Qi (Z3 (DC (Zz (Qb 0) Z.a_right_marks)))) QB)
 (Qi (Zj (XN hr (Qb 1) (Cz Z.g_BLANK)) (Qi (Z3 (J4 (Zz (Qb 0) Z.a_right_marks) (QP (Qe (Zz (Qb 0) Z.a_place) (Qe (Qb 1) Qj)))))) QB)))),hm.1,hm.2,F.binds (ps:=["self","sign"]) (λ_ _ _ _ _ _ us hl=>by obtain⟨_,_,rfl⟩:=L3.len2 hl;rfl)⟩,JZ _ _ _⟩
theorem Gc(Z:Zk K mg ca):MtH P w K mg base ca 12 "stepped" 3 1 ZE:=by
 obtain⟨f,fd,F,hm⟩:=Z.u51;exact⟨⟨f,fd,["self"],KQ F K0 rfl rfl (λcdv A outer s H E hr=>(Qf (Qx 1 K0.nd (VH (Ir Z) hr.m (Qb 0)))
 (Qf (Zj (FI (Qb 1) VG) (Qi (QD Vl)) QB)
 (Qf (Z3 (Du (Iu Z) hr.m (Qb 0) (Qe (Qh (Qb 1) Qg) Qj)))
 (Qf (Zj (ZH hr (Qh (Qb 1) Qg) (Q2 Z.g_RIGHT)) (Qi (Z3 (VH (FB Z) hr.m (Qb 0)))) (Qi (Z3 (VH (Gb Z) hr.m (Qb 0)))))
 (Qf (Ja (Qb 0) (Qh (Qb 1) Qg) Z.a_state)
 (Qi (QD Vl)))))))),hm.1,hm.2,F.binds (ps:=["self"]) (λ_ _ _ _ _ _ us hl=>by obtain⟨_,rfl⟩:=L3.len1 hl;rfl)⟩,JZ _ _ _⟩
theorem NJ(Z:Zk K mg ca):MtH P w K mg base ca 12 "run" 4 2 CH:=by
 obtain⟨f,fd,F,hm⟩:=Z.u52;exact⟨⟨f,fd,["self","steps"],KQ F BW rfl rfl (λcdv A outer s H E hr=>(Qf (Qx 2 BW.nd Qg)
 (Qf (dU (N6 (Gv (FH (Qb 2) (Qb 1)) (Ei (ZW (VH (Gc Z) hr.m (Qb 0)))))) (Qi (Qx 2 BW.nd (QL (Qb 2) Qg))))
 (Qi (QD (Qb 2)))))),hm.1,hm.2,F.binds (ps:=["self","steps"]) (λ_ _ _ _ _ _ us hl=>by obtain⟨_,_,rfl⟩:=L3.len2 hl;rfl)⟩,JZ _ _ _⟩
theorem L8(Z:Zk K mg ca):MtH P w K mg base ca 12 "shot" 1 1 BD:=by obtain⟨f,fd,F,hm⟩:=Z.u53;exact⟨⟨f,fd,["self"],KQ F LX rfl rfl (λcdv A outer s H E hr=>(Qi (QD (QP (Qe (Zz (Qb 0) Z.a_state) (Qe (Zz (Qb 0) Z.a_place) (Qe (QL (J0 Z.z_tuple (Zz (Qb 0) Z.a_left_marks)) (Of rfl Z.z_tuple Z.z_reversed (Zz (Qb 0) Z.a_right_marks))) Qj))))))),hm.1,hm.2,F.binds (ps:=["self"]) (λ_ _ _ _ _ _ us hl=>by obtain⟨_,rfl⟩:=L3.len1 hl;rfl)⟩,JZ _ _ _⟩
theorem FT(Z:Zk K mg ca):FnH P w K mg base ca "cells_of" 1 2 Kw:=Q4 Z.u54 BX λ_ _ _ _ _ _ _ hr=>(Qf (Qx 2 BX.nd (W9 Qj))
 (Qf (YZ rfl (Z9 (Qb 0)) (QG 3 BX.nd) (Qi (Zj (ZH hr (Qh (Qb 3) Qg) (Q2 Z.g_ONE)) (Qi (Z3 (J4 (Qb 2) (Qh (Qb 3) Qg)))) (Qi (Z3 (DX (Qb 2) (Br (Qh (Qb 3) Qg) (QL (Qb 1) (Qh (Qb 3) Qg)))))))))
 (Qi (QD (Qb 2)))))
theorem NK(Z:Zk K mg ca):FnH P w K mg base ca "laid_out" 7 2 CK:=Q4 Z.u55 VV λ_ _ _ _ _ _ _ hr=>(Qf (Z3 (Qt (VC Z) hr.m (Qe (Qb 0) Qj)))
 (Qf (Zj (YV (ZW (Qt (Z2 Z) hr.m (Qe (Qb 1) Qj)))) (Qi (Zx Z.e_NoShape hr.hd (Qe Q0 Qj))) QB)
 (Qf (Qx 2 VV.nd (Qt (FT Z) hr.m (Qe (Qh (Qb 0) Qg) (Qe (Qb 1) Qj))))
 (Qf (Qx 3 VV.nd (QL (Qb 2) (Qt (FT Z) hr.m (Qe (Qh (Qb 0) Qg) (Qe (Qb 1) Qj)))))
 (Qf (EY 4 VV.nd (ZF (Nb:=["at","sign","left"]) (no:=2) (cap:=[2]) (N:=HC) (sc:=Qk KM) rfl rfl (by decide +kernel)) rfl (DM Z.z_enumerate (Qb 3)) (λcl C s3 H3 ex=>⟨(Vo rfl (Zi (QG 0 (show List.Nodup (["at","sign","left"]:List Str) by decide +kernel)) (Zi (QG 1 (show List.Nodup (["at","sign","left"]:List Str) by decide +kernel)) Vn))),(Mv (XN hr (Qb 1) (Cz Z.g_BLANK))),(QP (Qe (X3 (Qb 0) (ZS Z.z_len (Qb 2))) (Qe (Qb 1) Qj)))⟩))
 (Qi (QD (QP (Qe (Qh (Qb 0) Qg) (Qe (JW (ZH hr (Qh (Qb 0) Qg) (Q2 Z.g_RIGHT)) Qg (Vp Qg)) (Qe (J0 Z.z_tuple (Qb 4)) Qj)))))))))))
theorem B0(Z:Zk K mg ca):FnH P w K mg base ca "add_stretch" 1 3 XG:=Q4 Z.u56 HD λ_ _ _ _ _ _ _ hr=>(Qf (Zj (FH (Qb 2) Qg) (Qi kS) QB)
 (Qi (Zj (N6 (Gv (Ph (ZS Z.z_len (Qb 0)) Qg) (Ei (ZH hr (Qh (Qh (Qb 0) (Vp Qg)) Qg) (Qb 1))))) (Qi (JY (Qb 0) (Vp Qg) (QP (Qe (Qb 1) (Qe (QL (Qh (Qh (Qb 0) (Vp Qg)) Qg) (Qb 2)) Qj))))) (Qi (Z3 (J4 (Qb 0) (QP (Qe (Qb 1) (Qe (Qb 2) Qj)))))))))
theorem HK(Z:Zk K mg ca):FnH P w K mg base ca "side_of" 2 1 B5:=Q4 Z.u57 Xx λ_ _ _ _ _ _ _ hr=>(Qf (Qx 1 Xx.nd (W9 Qj))
 (Qf (Qx 2 Xx.nd Qg)
 (Qf (YZ rfl (Z9 (Qb 0)) (Vo rfl (Zi (QG 3 Xx.nd) (Zi (QG 4 Xx.nd) Vn))) (Qf (Z3 (Qt (B0 Z) hr.m (Qe (Qb 1) (Qe (Cz Z.g_BLANK) (Qe (X3 (Qb 3) (Qb 2)) Qj)))))
 (Qf (Z3 (Qt (B0 Z) hr.m (Qe (Qb 1) (Qe (Qb 4) (Qe Qg Qj)))))
 (Qi (Qx 2 Xx.nd (QL (Qb 3) Qg))))))
 (Qi (QD (Qb 1))))))
theorem Ba(Z:Zk K mg ca):FnH P w K mg base ca "stretches_of" 3 1 Xd:=Q4 Z.u58 JE λ_ _ _ _ _ _ _ hr=>(Qf (Qx 1 JE.nd (Qh (Qb 0) Qg))
 (Qf (Qx 2 JE.nd (Qt (HK Z) hr.m (Qe (Xo (ZF (Nb:=["place","sign","here"]) (no:=2) (cap:=[1]) (N:=VB) (sc:=Qk Y8) rfl rfl (by decide +kernel)) rfl (Ps Z.z_reversed (Qh (Qb 0) Qg)) (λcl C s3 H3 ex=>⟨(Vo rfl (Zi (QG 0 (show List.Nodup (["place","sign","here"]:List Str) by decide +kernel)) (Zi (QG 1 (show List.Nodup (["place","sign","here"]:List Str) by decide +kernel)) Vn))),(Mv (FH (Qb 0) (Qb 2))),(QP (Qe (X3 (X3 (Qb 2) Qg) (Qb 0)) (Qe (Qb 1) Qj)))⟩)) Qj)))
 (Qf (Qx 3 JE.nd (Qt (HK Z) hr.m (Qe (Xo (ZF (Nb:=["place","sign","here"]) (no:=2) (cap:=[1]) (N:=VB) (sc:=Qk Y8) rfl rfl (by decide +kernel)) rfl (Z9 (Qh (Qb 0) Qg)) (λcl C s3 H3 ex=>⟨(Vo rfl (Zi (QG 0 (show List.Nodup (["place","sign","here"]:List Str) by decide +kernel)) (Zi (QG 1 (show List.Nodup (["place","sign","here"]:List Str) by decide +kernel)) Vn))),(Mv (Pi (Qb 0) (Qb 2))),(QP (Qe (X3 (Qb 0) (Qb 2)) (Qe (Qb 1) Qj)))⟩)) Qj)))
 (Qi (QD (QP (Qe (Qh (Qb 0) Qg) (Qe (Qb 2) (Qe (Qb 3) Qj)))))))))
theorem NL(Z:Zk K mg ca):FnH P w K mg base ca "comes_to" 8 3 CM:=Q4 Z.u59 FR λ_ _ _ _ _ _ _ hr=>(Qf (Qx 3 FR.nd (N9 (L7 Z) hr.m (Qe (Qb 0) (Qe (Er Z.g_FIRST_SHOT) Qj))))
 (Qf (Zj (FH (Du (NJ Z) hr.m (Qb 3) (Qe (Qb 1) Qj)) (Qb 1)) (Qi (QD Vl)) QB)
 (Qi (QD (Cw hr (Qt (Ba Z) hr.m (Qe (VH (L8 Z) hr.m (Qb 3)) Qj)) (Qt (Ba Z) hr.m (Qe (Qt (NK Z) hr.m (Qe (Qb 2) (Qe Qg Qj))) Qj)))))))
theorem FC(Z:Zk K mg ca):FnH P w K mg base ca "is_grow_paper" 3 1 JB:=Q4 Z.u60 Fx λ_ _ _ _ _ _ _ hr=>(Qf (Zj (N6 (KP (YV (ZW (Bt .tuple Z.z_isinstance Z.z_tuple Kb (Qb 0)))) (KP (XN hr (ZS Z.z_len (Qb 0)) Qg) (VY (XN hr (Qh (Qb 0) Qg) (Q2 Z.g_GROW)))))) (Qi (QD Vl)) QB)
 (Qi (QD (Vm (Qt (Z2 Z) hr.m (Qe (Qh (Qb 0) Qg) Qj)) (Cm (Pz Z.z_isinstance Z.z_list Z.z_tuple (Qh (Qb 0) Qg)))))))
theorem Kj(Z:Zk K mg ca):FnH P w K mg base ca "raised_tokens" 2 1 JC:=Q4 Z.u61 Fy λ_ _ _ _ _ _ _ hr=>(Qi (QD (J0 Z.z_tuple (Xo (ZF (Nb:=["token"]) (no:=1) (cap:=[]) (N:=K4) (sc:=Qk JF) rfl rfl (by decide +kernel)) rfl (Z9 (Qb 0)) (λcl C s3 H3 ex=>⟨(QG 0 (show List.Nodup (["token"]:List Str) by decide +kernel)),Bq,(Qt (K7 Z) hr.m (Qe (Qb 0) Qj))⟩)))))
theorem AU(Z:Zk K mg ca):FnH P w K mg base ca "raised" 7 1 GW:=Q4 Z.u62 AS λ_ _ _ _ _ _ _ hr=>(Qf (Z3 (Qt (VC Z) hr.m (Qe (Qb 0) Qj)))
 (Qi (QD (QP (Qe (Qh (Qb 0) Qg) (Qe (Qh (Qb 0) Qg) (Qe (Qt (Kj Z) hr.m (Qe (Qh (Qb 0) Qg) Qj)) (Qe (Qt (Kj Z) hr.m (Qe (Qh (Qb 0) Qg) Qj)) Qj))))))))
theorem WZ(Z:Zk K mg ca):FnH P w K mg base ca "takes_grow" 9 2 Xe:=Q4 Z.u63 WW λ_ _ _ _ _ _ _ hr=>(Qf (Zj (YV (ZW (Qt (FC Z) hr.m (Qe (Qb 1) Qj)))) (Qi (QD Vl)) QB)
 (Qf (Qx 2 WW.nd (Qh (Qb 1) Qg))
 (Qf (oQ (Qi (Qx 3 WW.nd (Qt (HJ Z) hr.m (Qe (Qb 0) (Qe (Qb 2) (Qe (Qh (Qb 1) Qg) Qj)))))) (DG Z.t_NoShape (λa=>(Qi (QD Vl))) (DG Z.t_NoMove (λa=>(Qi (QD Vl))) lE)))
 (Qi (QD (Vm (oY hr (Er Z.g_STEP) (Qh (Qb 1) Qg)) (Vm (Cw hr (Qb 3) (Qt (AU Z) hr.m (Qe (Qb 2) Qj))) (Cm (Qt (NL Z) hr.m (Qe (Qb 0) (Qe (Qh (Qb 1) Qg) (Qe (Qb 2) Qj))))))))))))
theorem O2(Z:Zk K mg ca):FnH P w K mg base ca "_law_round" 10 2 Fc:=Q4 Z.u64 Z4 λ_ _ _ _ _ _ _ hr=>(Qf (Mu (Qt (LZ Z) hr.m (Qe (Qb 0) (Qe (Qb 1) Qj))) (Vo rfl (Zi (QG 2 Z4.nd) (Zi (QG 3 Z4.nd) (Zi (QG 4 Z4.nd) Vn)))))
 (Qf (Mu (Qt (O1 Z) hr.m (Qe (Qb 0) (Qe (Qb 1) (Qe (Qb 2) (Qe (Qb 3) (Qe (Qb 4) Qj)))))) (Vo rfl (Zi (QG 5 Z4.nd) (Zi (QG 6 Z4.nd) Vn))))
 (Qf (Qx 7 Z4.nd (N9 (K5 Z) hr.m (Qe (Qb 2) Qj)))
 (Qf (Qx 8 Z4.nd (Qt (ND Z) hr.m (Qe (Qb 5) (Qe (Qt (Vj Z) hr.m (Qe (Qb 0) (Qe (Qb 1) Qj))) Qj))))
 (Qf (Zj (N6 (KP (PB (Qt (WZ Z) hr.m (Qe (Qb 7) (Qe (Qb 8) Qj))) Vl) (VY (PB (Qt (WZ Z) hr.m (Qe (Qb 7) (Qe (Qb 5) Qj))) Vl)))) (Qi (QD Vl)) QB)
 (Qf (Qx 9 Z4.nd (W9 (Qe Qg (Qe Qg (Qe DT Qj)))))
 (Qf (YZ rfl (Z5 Z.z_range (Qh (Qb 5) Qg)) (QG 10 Z4.nd) (Qi (Zj (YV (ZW (Qt (Ss Z) hr.m (Qe (Qb 2) (Qe (Qb 9) Qj))))) (Qi (QD Vl)) QB)))
 (Qf (YZ rfl (Z5 Z.z_range Qg) (QG 11 Z4.nd) (Qf (Zj (YV (ZW (Qt (NI Z) hr.m (Qe (Qb 9) (Qe (Qh (Qb 5) Qg) (Qe (Qb 11) Qj)))))) (Qi (QD Vl)) QB)
 (Qi (Zj (FH (Qb 11) Qg) (Qi (YZ rfl (Z5 Z.z_range (Qh (Qb 6) (Qb 11))) (QG 10 Z4.nd) (Qi (Zj (YV (ZW (Qt (Ss Z) hr.m (Qe (Qb 2) (Qe (Qb 9) Qj))))) (Qi (QD Vl)) QB)))) QB))))
 (Qf (Zj (XN hr (Xo (ZF (Nb:=["_law_line"]) (no:=1) (cap:=[]) (N:=IZ) (sc:=Qk Ce) rfl rfl (by decide +kernel)) rfl (Z9 (Zz (Qb 7) Z.a_table)) (λcl C s3 H3 ex=>⟨(QG 0 (show List.Nodup (["_law_line"]:List Str) by decide +kernel)),Bq,(GC Z.z_list (Qb 0))⟩)) (Qb 2)) (Qi (QD Vl)) QB)
 (Qi (QD (oW (Qt (WZ Z) hr.m (Qe (Qb 7) (Qe (Qb 8) Qj))) Vl))))))))))))
theorem mQ(Z:Zk K mg ca){f:Addr}{fd:FuncData}(F:Fun K "law" "law" Sr f fd):FnOk P w K mg base (N7 P w ca) 11 f fd ["_law_script"] (SQ K ca 1 PD):=KQ F OX rfl rfl (λcdv A outer s H E hr=>(Qf (Qx 1 OX.nd (W9 (Qe Qg Qj)))
 (Qf (YZ rfl (Z5 Z.z_range (QL Qg (Xp (ZS Z.z_len (Zn (Qb 0) Za (ZJ Qg))) Qg))) (QG 2 OX.nd) (Qi (Zj (YV (ZW (Qt (O2 Z) hr.m (Qe (Qb 0) (Qe (Qb 1) Qj))))) (Qi (QD Vl)) QB)))
 (Qi (QD Vl)))))
end
def HL(l:List Nat)(n:Nat):Addr:=l.getD n 0
def FA(K:Frag)(x:Str)(st:Stmt):Prop:=∃(f:Addr)(oc kV dc pm cd ct:Value)(od an:Option Addr)(sl:Array (Option Value)),nsIn K mainGlobals x=some (some (.ref f))/\K.lookup f=some ⟨oc,od,.func (fnOf x x (Yk st) (ZZ st) (Qk st) .none kV dc pm an cd ct),sl⟩/\codeIn K cd x=true/\keepIn K (.ref f)=true
theorem fa_mk{K:Frag}{x:Str}{st:Stmt}{f:Addr}{oc kV dc pm cd ct:Value}{od an:Option Addr}{sl:Array (Option Value)}(a:nsIn K mainGlobals x=some (some (.ref f)))(l:K.lookup f=some ⟨oc,od,.func (fnOf x x (Yk st) (ZZ st) (Qk st) .none kV dc pm an cd ct),sl⟩)(d:codeIn K cd x=true)(k:keepIn K (.ref f)=true):FA K x st:=⟨f,oc,kV,dc,pm,cd,ct,od,an,sl,a,l,d,k⟩
theorem FA.u{K:Frag}{h:Heap}{mg:VX}{x:Str}{st:Stmt}(a:FA K x st)(X:K.In h)(G:h.Ns mainGlobals mg):UF K mg x st:=by obtain⟨f,oc,kV,dc,pm,cd,ct,od,an,sl,a,l,d,k⟩:=a;exact⟨f,_,Vk l d k,UQ X G a⟩
theorem z_mk{K:Frag}{h:Heap}{mg:VX}(X:K.In h)(G:h.Ns mainGlobals mg){C0 C1 C7 C8 C11 C12:Addr}{oc57 kV57 dc57 pm57 cd57 ct57:Value}{od57 an57:Option Addr}{sl57:Array (Option Value)}{f57:Addr}{oc58 kV58 dc58 pm58 cd58 ct58:Value}{od58 an58:Option Addr}{sl58:Array (Option Value)}{f58:Addr}{oc59 kV59 dc59 pm59 cd59 ct59:Value}{od59 an59:Option Addr}{sl59:Array (Option Value)}{f59:Addr}{oc60 kV60 dc60 pm60 cd60 ct60:Value}{od60 an60:Option Addr}{sl60:Array (Option Value)}{f60:Addr}{oc61 kV61 dc61 pm61 cd61 ct61:Value}{od61 an61:Option Addr}{sl61:Array (Option Value)}{f61:Addr}{oc62 kV62 dc62 pm62 cd62 ct62:Value}{od62 an62:Option Addr}{sl62:Array (Option Value)}{f62:Addr}{oc63 kV63 dc63 pm63 cd63 ct63:Value}{od63 an63:Option Addr}{sl63:Array (Option Value)}{f63:Addr}{oc64 kV64 dc64 pm64 cd64 ct64:Value}{od64 an64:Option Addr}{sl64:Array (Option Value)}{f64:Addr}{oc65 kV65 dc65 pm65 cd65 ct65:Value}{od65 an65:Option Addr}{sl65:Array (Option Value)}{f65:Addr}{oc66 kV66 dc66 pm66 cd66 ct66:Value}{od66 an66:Option Addr}{sl66:Array (Option Value)}{f66:Addr}{og_BLANK:_}{og_FIRST_SHOT:Addr}{og_GROW:_}{og_LEFT:_}{og_MANY:_}{og_MOST_STEPS_OVER:_}{og_ONE:_}{og_OPEN:Addr}{og_OVER:Addr}{og_RIGHT:_}{og_STEP:Addr}(c0:nsIn K mainGlobals "TapeError"=some (some (.ref C0)))(c1:nsIn K mainGlobals "NoMachine"=some (some (.ref C1)))(c7:nsIn K mainGlobals "NoShape"=some (some (.ref C7)))(c8:nsIn K mainGlobals "NoMove"=some (some (.ref C8)))(c11:nsIn K mainGlobals "Machine"=some (some (.ref C11)))(c12:nsIn K mainGlobals "Walk"=some (some (.ref C12)))(a1:FA K "is_whole" CQ)(a2:FA K "is_below" CS)(a3:FA K "is_entry" CT)(a4:FA K "check_rows" Vf)(a5:FA K "_law_next" Ht)(a6:FA K "_law_table" Fk)(a7:FA K "_law_bouncer" JO)(a8:FA K "_law_go" OM)(a9:FA K "_law_listed" CU)(a10:FA K "_law_round_steps" X0)(a11:FA K "_law_start" Fm)(a12:FA K "in_place_of_ahead" Jr)(a13:FA K "token_ahead" V6)(a14:FA K "many_ahead" KG)(a15:FA K "ones_of" Cc)(a16:FA K "after_open" KH)(a17:FA K "gone_on" Fn)(a18:FA K "word_behind" V7)(a19:FA K "after_over" KI)(a20:FA K "with_end" CV)(a21:FA K "place_of_many" X1)(a22:FA K "with_one_brought_over" YA)(a23:FA K "raised_token" Vz)(a24:FA K "with_ones_taken_in" Y6)(a25:FA K "with_many" BR)(a26:FA K "after_put_together" Y7)(a27:FA K "after_step" KJ)(a28:FA K "after_move" KK)(a29:FA K "is_from_nought" Xu)(a30:FA K "is_word" Cd)(a31:FA K "is_token" CW)(a32:FA K "check_tokens" Xk)(a33:FA K "check_shape" Ws)(a34:FA K "signs_in" CY)(a35:FA K "signs_of" CZ)(a36:FA K "states_of" BU)(a37:FA K "check_shape_of" Xv)(a38:FA K "with_tuples" WF)(a39:FA K "moved" LT)(a40:FA K "_law_paper" Fq)(a41:FA K "_law_cells" Fs)(a42:FA K "_law_laid" Hy)(a43:FA K "_law_stands" KL)(a44:FA K "after_moves" WG)(a45:FA K "cells_of" C4)(a46:FA K "laid_out" KM)(a47:FA K "add_stretch" WH)(a48:FA K "side_of" Fw)(a49:FA K "stretches_of" Y8)(a50:FA K "comes_to" C5)(a51:FA K "is_grow_paper" X2)(a52:FA K "raised_tokens" JF)(a53:FA K "raised" HE)(a54:FA K "takes_grow" KN)(a55:FA K "_law_round" Ce)(a56:FA K "law" Sr)(a57:findIn K (.ref C11) "__init__"=some (some (.ref f57)))(l57:K.lookup f57=some ⟨oc57,od57,.func (fnOf "__init__" "Machine.__init__" (Yk Yd) (ZZ Yd) (Qk Yd) .none kV57 dc57 pm57 an57 cd57 ct57),sl57⟩)(d57:codeIn K cd57 "Machine.__init__"=true)(k57:keepIn K (.ref f57)=true)(i57:isFn K (.ref f57)=true)(m57:makesIn K C11=true)(q57:keepIn K (.ref C11)=true)(a58:findIn K (.ref C12) "__init__"=some (some (.ref f58)))(l58:K.lookup f58=some ⟨oc58,od58,.func (fnOf "__init__" "Walk.__init__" (Yk YH) (ZZ YH) (Qk YH) .none kV58 dc58 pm58 an58 cd58 ct58),sl58⟩)(d58:codeIn K cd58 "Walk.__init__"=true)(k58:keepIn K (.ref f58)=true)(i58:isFn K (.ref f58)=true)(m58:makesIn K C12=true)(q58:keepIn K (.ref C12)=true)(a59:findIn K (.ref C12) "is_on_mark"=some (some (.ref f59)))(l59:K.lookup f59=some ⟨oc59,od59,.func (fnOf "is_on_mark" "Walk.is_on_mark" (Yk Z1) (ZZ Z1) (Qk Z1) .none kV59 dc59 pm59 an59 cd59 ct59),sl59⟩)(d59:codeIn K cd59 "Walk.is_on_mark"=true)(k59:keepIn K (.ref f59)=true)(i59:isFn K (.ref f59)=true)(w59:GF K C12=true)(a60:findIn K (.ref C12) "entry"=some (some (.ref f60)))(l60:K.lookup f60=some ⟨oc60,od60,.func (fnOf "entry" "Walk.entry" (Yk Jh) (ZZ Jh) (Qk Jh) .none kV60 dc60 pm60 an60 cd60 ct60),sl60⟩)(d60:codeIn K cd60 "Walk.entry"=true)(k60:keepIn K (.ref f60)=true)(i60:isFn K (.ref f60)=true)(w60:GF K C12=true)(a61:findIn K (.ref C12) "go_left"=some (some (.ref f61)))(l61:K.lookup f61=some ⟨oc61,od61,.func (fnOf "go_left" "Walk.go_left" (Yk YB) (ZZ YB) (Qk YB) .none kV61 dc61 pm61 an61 cd61 ct61),sl61⟩)(d61:codeIn K cd61 "Walk.go_left"=true)(k61:keepIn K (.ref f61)=true)(i61:isFn K (.ref f61)=true)(w61:GF K C12=true)(a62:findIn K (.ref C12) "go_right"=some (some (.ref f62)))(l62:K.lookup f62=some ⟨oc62,od62,.func (fnOf "go_right" "Walk.go_right" (Yk Yj) (ZZ Yj) (Qk Yj) .none kV62 dc62 pm62 an62 cd62 ct62),sl62⟩)(d62:codeIn K cd62 "Walk.go_right"=true)(k62:keepIn K (.ref f62)=true)(i62:isFn K (.ref f62)=true)(w62:GF K C12=true)(a63:findIn K (.ref C12) "write"=some (some (.ref f63)))(l63:K.lookup f63=some ⟨oc63,od63,.func (fnOf "write" "Walk.write" (Yk Ji) (ZZ Ji) (Qk Ji) .none kV63 dc63 pm63 an63 cd63 ct63),sl63⟩)(d63:codeIn K cd63 "Walk.write"=true)(k63:keepIn K (.ref f63)=true)(i63:isFn K (.ref f63)=true)(w63:GF K C12=true)(a64:findIn K (.ref C12) "stepped"=some (some (.ref f64)))(l64:K.lookup f64=some ⟨oc64,od64,.func (fnOf "stepped" "Walk.stepped" (Yk YC) (ZZ YC) (Qk YC) .none kV64 dc64 pm64 an64 cd64 ct64),sl64⟩)(d64:codeIn K cd64 "Walk.stepped"=true)(k64:keepIn K (.ref f64)=true)(i64:isFn K (.ref f64)=true)(w64:GF K C12=true)(a65:findIn K (.ref C12) "run"=some (some (.ref f65)))(l65:K.lookup f65=some ⟨oc65,od65,.func (fnOf "run" "Walk.run" (Yk Xw) (ZZ Xw) (Qk Xw) .none kV65 dc65 pm65 an65 cd65 ct65),sl65⟩)(d65:codeIn K cd65 "Walk.run"=true)(k65:keepIn K (.ref f65)=true)(i65:isFn K (.ref f65)=true)(w65:GF K C12=true)(a66:findIn K (.ref C12) "shot"=some (some (.ref f66)))(l66:K.lookup f66=some ⟨oc66,od66,.func (fnOf "shot" "Walk.shot" (Yk JP) (ZZ JP) (Qk JP) .none kV66 dc66 pm66 an66 cd66 ct66),sl66⟩)(d66:codeIn K cd66 "Walk.shot"=true)(k66:keepIn K (.ref f66)=true)(i66:isFn K (.ref f66)=true)(w66:GF K C12=true)(nz_all:nsIn K mainGlobals "all"=some none)(nz_bool:nsIn K mainGlobals "bool"=some none)(nz_enumerate:nsIn K mainGlobals "enumerate"=some none)(nz_int:nsIn K mainGlobals "int"=some none)(nz_isinstance:nsIn K mainGlobals "isinstance"=some none)(nz_len:nsIn K mainGlobals "len"=some none)(nz_list:nsIn K mainGlobals "list"=some none)(nz_max:nsIn K mainGlobals "max"=some none)(nz_min:nsIn K mainGlobals "min"=some none)(nz_range:nsIn K mainGlobals "range"=some none)(nz_reversed:nsIn K mainGlobals "reversed"=some none)(nz_tuple:nsIn K mainGlobals "tuple"=some none)(ng_BLANK:nsIn K mainGlobals "BLANK"=some (some (.int 0 og_BLANK)))(ng_FIRST_SHOT:nsIn K mainGlobals "FIRST_SHOT"=some (some (.ref og_FIRST_SHOT)))(mg_FIRST_SHOT:Og K 9 (.ref og_FIRST_SHOT) (.tup [(.int 0),(.int 0),(.tup [])])=true)(ng_GROW:nsIn K mainGlobals "GROW"=some (some (.str "grow" og_GROW)))(ng_LEFT:nsIn K mainGlobals "LEFT"=some (some (.str "l" og_LEFT)))(ng_MANY:nsIn K mainGlobals "MANY"=some (some (.str "many" og_MANY)))(ng_MOST_STEPS_OVER:nsIn K mainGlobals "MOST_STEPS_OVER"=some (some (.int 1000 og_MOST_STEPS_OVER)))(ng_ONE:nsIn K mainGlobals "ONE"=some (some (.str "one" og_ONE)))(ng_OPEN:nsIn K mainGlobals "OPEN"=some (some (.ref og_OPEN)))(mg_OPEN:Og K 9 (.ref og_OPEN) (.tup [(.str "open")])=true)(ng_OVER:nsIn K mainGlobals "OVER"=some (some (.ref og_OVER)))(mg_OVER:Og K 9 (.ref og_OVER) (.tup [(.str "over")])=true)(ng_RIGHT:nsIn K mainGlobals "RIGHT"=some (some (.str "r" og_RIGHT)))(ng_STEP:nsIn K mainGlobals "STEP"=some (some (.ref og_STEP)))(mg_STEP:Og K 9 (.ref og_STEP) (.tup [(.str "step")])=true)(nt_NoMove:eJ K (HL [C0,C1,0,0,0,0,0,C7,C8,0,0,C11,C12]) C8 [8] [0,1,7]=true)(nt_NoShape:eJ K (HL [C0,C1,0,0,0,0,0,C7,C8,0,0,C11,C12]) C7 [7] [0,1,8]=true)(ne_NoMachine:excIn K C1 mV "ValueError.__new__"=true)(ne_NoMove:excIn K C8 mV "ValueError.__new__"=true)(ne_NoShape:excIn K C7 mV "ValueError.__new__"=true)(na_left_marks:Ob K (HL [C0,C1,0,0,0,0,0,C7,C8,0,0,C11,C12]) [12] "left_marks"=true)(na_place:Ob K (HL [C0,C1,0,0,0,0,0,C7,C8,0,0,C11,C12]) [12] "place"=true)(na_right_marks:Ob K (HL [C0,C1,0,0,0,0,0,C7,C8,0,0,C11,C12]) [12] "right_marks"=true)(na_state:Ob K (HL [C0,C1,0,0,0,0,0,C7,C8,0,0,C11,C12]) [12] "state"=true)(na_table:Ob K (HL [C0,C1,0,0,0,0,0,C7,C8,0,0,C11,C12]) [11,12] "table"=true):Zk K mg (HL [C0,C1,0,0,0,0,0,C7,C8,0,0,C11,C12]):=⟨UU X G nz_all,UU X G nz_bool,UU X G nz_enumerate,UU X G nz_int,UU X G nz_isinstance,UU X G nz_len,UU X G nz_list,UU X G nz_max,UU X G nz_min,UU X G nz_range,UU X G nz_reversed,UU X G nz_tuple,⟨_,UQ X G ng_BLANK⟩,(GJ 9 _ _ mg_FIRST_SHOT).elim λv h=>⟨_,v,UQ X G ng_FIRST_SHOT,h.1,h.2⟩,⟨_,UQ X G ng_GROW⟩,⟨_,UQ X G ng_LEFT⟩,⟨_,UQ X G ng_MANY⟩,⟨_,UQ X G ng_MOST_STEPS_OVER⟩,⟨_,UQ X G ng_ONE⟩,(GJ 9 _ _ mg_OPEN).elim λv h=>⟨_,v,UQ X G ng_OPEN,h.1,h.2⟩,(GJ 9 _ _ mg_OVER).elim λv h=>⟨_,v,UQ X G ng_OVER,h.1,h.2⟩,⟨_,UQ X G ng_RIGHT⟩,(GJ 9 _ _ mg_STEP).elim λv h=>⟨_,v,UQ X G ng_STEP,h.1,h.2⟩,⟨UQ X G c8,DH nt_NoMove⟩,⟨UQ X G c7,DH nt_NoShape⟩,⟨UQ X G c1,ne_NoMachine⟩,⟨UQ X G c8,ne_NoMove⟩,⟨UQ X G c7,ne_NoShape⟩,GG na_left_marks,GG na_place,GG na_right_marks,GG na_state,GG na_table,a1.u X G,a2.u X G,a3.u X G,a4.u X G,⟨f57,_,Vk (st:=Yd) l57 d57 k57,⟨m57,a57,i57,q57⟩,UQ X G c11⟩,a5.u X G,a6.u X G,a7.u X G,a8.u X G,a9.u X G,a10.u X G,a11.u X G,a12.u X G,a13.u X G,a14.u X G,a15.u X G,a16.u X G,a17.u X G,a18.u X G,a19.u X G,a20.u X G,a21.u X G,a22.u X G,a23.u X G,a24.u X G,a25.u X G,a26.u X G,a27.u X G,a28.u X G,a29.u X G,a30.u X G,a31.u X G,a32.u X G,a33.u X G,a34.u X G,a35.u X G,a36.u X G,a37.u X G,a38.u X G,a39.u X G,a40.u X G,a41.u X G,a42.u X G,a43.u X G,a44.u X G,⟨f58,_,Vk (st:=YH) l58 d58 k58,⟨m58,a58,i58,q58⟩,UQ X G c12⟩,⟨f59,_,Vk (st:=Z1) l59 d59 k59,⟨a59,i59,k59⟩,Kq w59⟩,⟨f60,_,Vk (st:=Jh) l60 d60 k60,⟨a60,i60,k60⟩,Kq w60⟩,⟨f61,_,Vk (st:=YB) l61 d61 k61,⟨a61,i61,k61⟩,Kq w61⟩,⟨f62,_,Vk (st:=Yj) l62 d62 k62,⟨a62,i62,k62⟩,Kq w62⟩,⟨f63,_,Vk (st:=Ji) l63 d63 k63,⟨a63,i63,k63⟩,Kq w63⟩,⟨f64,_,Vk (st:=YC) l64 d64 k64,⟨a64,i64,k64⟩,Kq w64⟩,⟨f65,_,Vk (st:=Xw) l65 d65 k65,⟨a65,i65,k65⟩,Kq w65⟩,⟨f66,_,Vk (st:=JP) l66 d66 k66,⟨a66,i66,k66⟩,Kq w66⟩,a45.u X G,a46.u X G,a47.u X G,a48.u X G,a49.u X G,a50.u X G,a51.u X G,a52.u X G,a53.u X G,a54.u X G,a55.u X G,a56.u X G⟩
theorem walk{l:PySem.W.OpenLaw}{p:Program}{loose:List Str}{XP:VX->Heap->Prop}{YP:World->Heap->Prop}{d:DefRec}{K:Params->Frag}(C:List Nat)(hn:l.most=some 63)(hdf:d.params.defaults=[])(hd:d.name ="law")(hY:∀(w:World) (h:Heap),YP w h->(K w.params).In h)(F:∀(w:World) (mg:VX) (h:Heap),(K w.params).In h->h.Ns mainGlobals mg->Zk (K w.params) mg (HL C))(M:∀ns:List Int,ns.length<=63->∃g',PD [.fl (ns.map D.int)] []=.ok (.bl true) g'):PySem.W.WalkO p loose XP YP l.row.toRowW d [] (λf vs=>PySem.call f vs):=by
 refine L2.walk_of (n:=63) (k:=11) (x:="_law_script") (CX:=λw=>N7 l.prog w (HL C)) (sp:=λw=>SQ (K w.params) (HL C) 1 PD) hn (by decide) hdf ⟨rfl,by decide,by decide⟩ hY (λw mg fa h KX G hmg=>?_) (λw H a ns hl hO hS=>lG hO hS (M ns hl)) (λw H s e s' z=>?_)
 ·have Z:=F w mg h KX G;obtain⟨f,fd,Fu,hm⟩:=Z.u65;rw[hd]at hmg;have e:=hmg.symm.trans hm;cases e;refine⟨fd,λs u=>?_,λbase _ _=>mQ Z Fu⟩;obtain⟨oc,od,kV,doc,pm,an,cdv,ct,osl,rfl,lk,hcd⟩:=Fu.ex;exact .of_eq rfl
 ·obtain⟨_,_,_,_,_,_,_,_,_,_,z⟩:=z;exact z
end V
namespace V
open PySem PySem.W PySem.W.X PySem.Spec PyProof.Rows
theorem walkX_of{as:List Addr}{K:Params->Frag}{n t:Nat}{q:Program}{loose:List Str}{XP:VX->Heap->Prop}{r:RowW}{d:DefRec}{kwd:List (Str×PySem.Expr)}{run:Value->List Value->Sem Value}(e:∀P,as=(K P).map (·.1))(h:WalkO q loose XP (InK K) r d kwd run):WalkX q loose XP (obsZ as) (valZ K n t) r d kwd run:=λw s₀ s₁ mg mb G y a o pm cd doc dV kV h1 h2 h3 h4 h5 h6 args vals as' L p1 p2 p3 p4 p5=>
  h w s₀ s₁ mg mb G (InK.keeps w _ _ (z_facts e y).2.1 L.keeps) a o pm cd doc dV kV h1 h2 h3 h4 h5 h6 args vals as' p1 p2 p3 p4 p5
end V
noncomputable def PySem.W.Fast.tw13998829772981973214 : PySem.Program := PySem.Challenge.pw_tapeproof_k43_grow_taken
theorem PySem.W.Fast.te13998829772981973214 : PySem.Challenge.pw_tapeproof_k43_grow_taken=PySem.W.Fast.tw13998829772981973214 := rfl
namespace PySem.W.Fast
def tw16394791594954009214:=()
def tw2728852008512377460:=()
def tw4421673042450890167:=()
def tw4602082447687246392:=()
def tw10996946676673511195:=()
def tw3587833514297427100:=()
def tw17031535685025967451:=()
def tw15397781102062247422:=()
def tw2756819748374189497:=()
def tw6833640906233669531:=()
def tw2740374095740566565:=()
def tw13799423066677394066:=()
def tw9204726597811558241:=()
def tw15254669099901525464:=()
def tw9854558549067390605:=()
def tw8667940340322562936:=()
def tw2265658778801333833:=()
def tw5843456797857955848:=()
def tw11257092638400522580:=()
def tw2883663224070576785:=()
def tw5478385723802812022:=()
def tw17964351113309756349:=()
def tw10524516688318112914:=()
def tw15596957206117407862:=()
def tw289548282062605630:=()
def tw10405198983804758378:=()
def tw116645288070011542:=()
def tw6303443203562053331:=()
def tw15231703490634802286:=()
def tw12039863203907910834:=()
def tw11640775403522962311:=()
def tw10496936454977153963:=()
def tw17129948248497689582:=()
def tw6613716766440201480:=()
def tw8055055244618096098:=()
def tw16535052089898572744:=()
def tw17501403044457274165:=()
def tw15215347529518024623:=()
def tw17893157301715254240:=()
def tw17972675760441611818:=()
def tw535708566565143981:=()
def tw14787927441701580851:=()
def tw12700154516121324442:=()
def tw5612043510622627167:=()
def tw6761677471451257312:=()
def tw7147966795530324846:=()
def tw5003360014465921284:=()
def tw11641417488708406010:=()
def tw12567261646801752608:=()
def tw14868897146308681544:=()
def tw12652125725339393882:=()
def tw17937202790051522644:=()
def tw1829653421502935365:=()
def tw3099200161429943801:=()
def tw9245728800932171180:=()
def tw10995127121439071697:=()
def tw9553335686839874454:=()
def tw13127732734882742523:=()
def tw13342098196582253528:=()
def tw606823540503198111:=()
def tw15822414892258335678:=()
def tw6185249382853676781:=()
def tw18106810990781785426:=()
def tw424315915344768157:=()
def tw7727099036801177552:=()
def tw3429056059559406596:=()
def tw17443671356312832323:=()
def tw5176210053287436351:=()
def tw13065182058470132589:=()
def tw17258479588391820772:=()
def tw6297892060683926955:=()
def tw7290072935311773786:=()
def tw15715303549568959117:=()
def tw15261821651779687017:=()
def tw2105576753095675588:=()
def tw17190521679700852591:=()
def tw5093655294609539000:=()
def tw2895913529354735493:=()
def tw17956843818816850291:=()
def tw7223516704477073705:=()
def tw5684292576296638917:=()
def tw11472196377056392723:=()
def tw8928258193790737641:=()
def tw12855287587036823369:=()
def tw9302581409997169693:=()
def tw11929042344409972196:=()
def tw17199678935297104475:=()
def tw3636810654094540723:=()
def tw13442093692944439899:=()
def tw14264909090550057784:=()
def tw1856550793285543829:=()
def tw8509068560364660743:=()
def tw306024718138505148:=()
def tw14096841868431163082:=()
def tw16800734061134547798:=()
def tw10513186431596769195:=()
def tw13206366850217486954:=()
def tw12986224537396164370:=()
def tw19754857965311742:=()
def tw8852802661430241154:=()
def tw2586465712272357902:=()
def tw12093395708176469134:=()
def tw580724510966146781:=()
def tw6459464890956004420:=()
def tw5722588313997235930:=()
def tw212041216751027631:=()
def tw1033932173251253690:=()
def tw17385826372971612729:=()
def tw5706357394089543049:=()
def tw6498253092309194936:=()
def tw2928929159008252468:=()
def tw14441745938640326921:=()
def tw11738685007921954946:=()
def tw388905333499130920:=()
def tw10752982593781445572:=()
def tw6505690997984929217:=()
def tw913216289052591071:=()
def tw9078807806959300487:=()
def tw1520279412044155160:=()
def tw4611101990349919302:=()
def tw6672879546984061029:=()
def tw1018852025646299430:=()
def tw12266859103031849450:=()
def tw14607088849741962421:=()
def tw13555797161446539815:=()
def tw10866547856623686680:=()
def tw2758993768297153738:=()
def tw2577953120223498018:=()
def tw9440720904585421888:=()
def tw6826946579331855854:=()
def tw15649949526457429109:=()
def tw9641447533611617888:=()
def tw16841320585917268921:=()
def tw7667717352303539466:=()
def tw154748252239157743:=()
def tw5461705798585454838:=()
def tw9967095529610722027:=()
def tw3726208673094128211:=()
def tw15015115543649866281:=()
def tw14291042447821533908:=()
def tw14848922960433109154:=()
def tw16258303468156621991:=()
def tw3716875880624201276:=()
def tw17415232682835524949:=()
def tw3663428336564629720:=()
def tw15157594661742223150:=()
def tw4744376540897999828:=()
def tw2810195708311981097:=()
def tw1912237733752807475:=()
def tw13847952694560743403:=()
def tw13406702751142956:=()
def tw1069141108806310742:=()
def tw3239455393720617887:=()
def tw11717083217688266365:=()
def tw8937317999519936314:=()
def tw4193833264148417002:=()
def tw12945083268043026478:=()
def tw11790765447123440641:=()
def tw10391719501116614187:=()
def tw7372659978799183510:=()
def tw11140800235119895703:=()
def tw13595693474006191361:=()
def tw10532687111542053868:=()
def tw2001903868541702218:=()
def tw5080382277315308401:=()
def tw2076400134287508010:=()
def tw11625066673996043141:=()
def tw16074344367446388856:=()
def tw7571904677255674073:=()
def tw13450985644997946475:=()
def tw7018510585921247600:=()
def tw14996731983272556052:=()
def tw18374141011100653683:=()
def tw16371219023828063500:=()
def tw15915954158516457357:=()
def tw12833829463273114695:=()
def tw10908185491326908357:=()
def tw3509102755151256802:=()
def tw12069141110276900841:=()
def tw15033686473002097958:=()
def tw8704682171455301875:=()
def tw18183697568170274676:=()
def tw5643323459654066842:=()
def tw4809482190417920511:=()
def tw7277859466739851185:=()
def tw6694261384299700724:=()
def tw15676144043257277291:=()
def tw272391295044028873:=()
def tw12702465345649623001:=()
def tw11055637888392990837:=()
def tw5459296538038175388:=()
def tw8818557823266910376:=()
def tw13574093761222934385:=()
def tw9992471180474920763:=()
def tw17671956358316737789:=()
def tw4950927102151692990:=()
def tw8881041697195976950:=()
def tw6211485383238974973:=()
def tw2894957591604413157:=()
def tw3244682308708259489:=()
def tw17683001832302689314:=()
def tw351079056370523952:=()
def tw12756588659660259343:=()
def tw343852255619008748:=()
def tw9023110495168506604:=()
def tw6644069514175766908:=()
def tw17377395769896918:=()
def tw2825219466346875967:=()
def tw3609878094530590551:=()
def tw1836624040843289152:=()
def tw815845451193066264:=()
def tw8645362742902764934:=()
def tw4836673828888910107:=()
def tw7470895389979882094:=()
def tw18371038923019162309:=()
def tw3747624389859728427:=()
def tw1135038930763557854:=()
def tw14243146953239204048:=()
end PySem.W.Fast
open PySem PySem.W PyProof.Rows
set_option maxRecDepth 100000 in
set_option maxHeartbeats 0 in
theorem PySem.Challenge.cw_tapeproof_k43_grow_taken_holds : PySem.Challenge.rw_tapeproof_k43_grow_taken.Holds := by
  w_on; o_law; z_head; (case hw=>w_witness2)
  k_fill
  refine V.walkX_of (fun P=>?E) (V.walk (l:=PySem.Challenge.rw_tapeproof_k43_grow_taken) [24,37,0,0,0,0,0,49,61,0,0,111,202] rfl rfl rfl (fun w h Y=>Y) ?F L3.law_true)
  case E=>kernel_rfl
  case F =>
    intro w mg h KX G
    refine' V.z_mk KX G ?_ ?_ ?_ ?_ ?_ ?_ ?_ ?_ ?_ ?_ ?_ ?_ ?_ ?_ ?_ ?_ ?_ ?_ ?_ ?_ ?_ ?_ ?_ ?_ ?_ ?_ ?_ ?_ ?_ ?_ ?_ ?_ ?_ ?_ ?_ ?_ ?_ ?_ ?_ ?_ ?_ ?_ ?_ ?_ ?_ ?_ ?_ ?_ ?_ ?_ ?_ ?_ ?_ ?_ ?_ ?_ ?_ ?_ ?_ ?_ ?_ ?_ ?_ ?_ ?_ ?_ ?_ ?_ ?_ ?_ ?_ ?_ ?_ ?_ ?_ ?_ ?_ ?_ ?_ ?_ ?_ ?_ ?_ ?_ ?_ ?_ ?_ ?_ ?_ ?_ ?_ ?_ ?_ ?_ ?_ ?_ ?_ ?_ ?_ ?_ ?_ ?_ ?_ ?_ ?_ ?_ ?_ ?_ ?_ ?_ ?_ ?_ ?_ ?_ ?_ ?_ ?_ ?_ ?_ ?_ ?_ ?_ ?_ ?_ ?_ ?_ ?_ ?_ ?_ ?_ ?_ ?_ ?_ ?_ ?_ ?_ ?_ ?_ ?_ ?_ ?_ ?_ ?_ ?_ ?_ ?_ ?_ ?_ ?_ ?_ ?_ ?_ ?_ ?_ ?_ ?_ ?_ ?_ ?_ ?_ ?_
    rotate_right 161
    iterate 6 (focus k_is)
    iterate 56 (focus (refine' V.fa_mk ?_ ?_ ?_ ?_; rotate_right 4; iterate 4 focus k_is))
    iterate 19 (focus k_is)
    iterate 1 (focus kernel_rfl)
    iterate 5 (focus k_is)
    iterate 1 (focus kernel_rfl)
    iterate 5 (focus k_is)
    iterate 1 (focus kernel_rfl)
    iterate 5 (focus k_is)
    iterate 1 (focus kernel_rfl)
    iterate 5 (focus k_is)
    iterate 1 (focus kernel_rfl)
    iterate 5 (focus k_is)
    iterate 1 (focus kernel_rfl)
    iterate 5 (focus k_is)
    iterate 1 (focus kernel_rfl)
    iterate 5 (focus k_is)
    iterate 1 (focus kernel_rfl)
    iterate 14 (focus k_is)
    iterate 1 (focus kernel_rfl)
    iterate 6 (focus k_is)
    iterate 1 (focus kernel_rfl)
    iterate 1 (focus k_is)
    iterate 1 (focus kernel_rfl)
    iterate 2 (focus k_is)
    iterate 3 (focus kernel_rfl)
    iterate 3 (focus k_exc)
    iterate 5 (focus kernel_rfl)
