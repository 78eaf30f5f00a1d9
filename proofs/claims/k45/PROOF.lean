import PyProof.Rows.All
import Wide.All
import OpenK.AllK
import Wide.FinOn
import Lean
import PySem.Challenge.RW_healfloor_k45_a_beat
set_option bootstrap.genMatcherCode false
set_option genSizeOf false
set_option compiler.extract_closed false
local macro_rules|`(tactic|nofun)=>`(tactic|first|assumption|lia)
local macro_rules|`(tactic|trivial)=>`(tactic|first|exact Or.inl rfl|exact Or.inr rfl)
abbrev xc:=@PySem.wpAny_bind
abbrev xf:=@if_pos
abbrev xg:=@if_neg
abbrev xh:=@PySem.wpAny_pure
abbrev xi:=@Nat.le_refl
abbrev xj:=@PyProof.Rows.wpS_bind
abbrev xk:=@PyProof.Rows.wpS_pure
abbrev xl:=@if_true
abbrev xm:=@Nat.le_trans
abbrev xn:=@List.length_map
abbrev xo:=@PySem.Heap.lt_size
abbrev xp:=@List.mem_cons
abbrev xq:=@PySem.Heap.get?_push_of_some
abbrev xr:=@List.map_cons
abbrev xt:=@List.mem_map
abbrev xu:=@Nat.ne_of_lt
abbrev xv:=@Ne.symm
abbrev xw:=@List.length_append
abbrev xx:=@decide_eq_true
abbrev xy:=@PySem.Heap.get?_push_size
abbrev xA:=@List.size_toArray
abbrev xB:=@List.length_cons
abbrev xC:=@decide_eq_false
abbrev xD:=@List.append_assoc
abbrev xE:=@List.mem_singleton
abbrev xF:=@Nat.lt_of_lt_of_le
abbrev xG:=@List.getElem?_eq_getElem
abbrev xH:=@List.map_map
abbrev xI:=@if_false
abbrev xJ:=@List.mem_append
abbrev xK:=@PySem.wpAny_call_entry
abbrev xM:=@Bool.and_eq_true
abbrev xN:=@Option.some.inj
abbrev xO:=@List.getElem?_eq_some_iff
abbrev xP:=@PySem.wpAny_holding
abbrev xQ:=@List.getElem?_map
abbrev xR:=@List.getElem?_set_ne
abbrev xS:=@decide_eq_decide
abbrev xT:=@PySem.PassesOwn.never
abbrev xU:=@Nat.le_of_lt
abbrev xV:=@Nat.zero_le
abbrev xW:=@PySem.wpAny_newObj_type
abbrev xX:=@Nat.zero_add
abbrev xY:=@List.mem_cons_self
abbrev xZ:=@List.mem_append_right
abbrev x6:=@List.map_nil
abbrev vc:=@List.length_range
abbrev vd:=@List.length_take
abbrev ve:=@Bool.false_eq_true
abbrev vf:=@Array.length_toList
abbrev vg:=@PyProof.Rows.wpS_forRange
abbrev vh:=@List.getElem?_append_left
abbrev vi:=@List.mem_range
abbrev vj:=@List.getElem?_append_right
abbrev vk:=@List.lookup_cons
abbrev vm:=@Array.getElem?_eq_getElem
abbrev vn:=@List.map_append
abbrev vo:=@PyProof.Rows.wpS_mono
abbrev vp:=@List.mem_cons_of_mem
abbrev vq:=@List.mem_append_left
abbrev vt:=@PySem.wpAny_rule
abbrev vv:=@PySem.wpAny_callSpecial?_slot
abbrev vw:=@Int.toNat_natCast
abbrev vx:=@Array.toList_append
abbrev vy:=@Nat.lt_irrefl
abbrev vz:=@List.getElem?_set_self
abbrev vA:=@PySem.wpAny_mono
abbrev vB:=@Bool.false_ne_true
abbrev vC:=@PySem.sizeLine_eq
abbrev vD:=@PySem.wpAny_field
abbrev vE:=@Nat.lt_or_ge
abbrev vF:=@List.getElem?_eq_none
abbrev vG:=@List.take_append_drop
abbrev vH:=@Option.map_some
abbrev vI:=@PyProof.Rows.wpS_modify
abbrev vJ:=@List.nodup_cons
abbrev vK:=@Nat.lt_trans
abbrev vL:=@List.length_singleton
abbrev vM:=@Array.getElem?_toList
abbrev vN:=@PyProof.Rows.boot_tuple
abbrev vO:=@List.mem_filter
abbrev vP:=@PySem.W.kia_one
abbrev vQ:=@Option.map_eq_some_iff
abbrev vR:=@Array.getD_eq_getD_getElem?
abbrev vS:=@PySem.Heap.SameBut.update
abbrev vT:=@List.append_nil
abbrev vU:=@List.length_nil
abbrev vV:=@List.all_eq_true
abbrev vW:=@Classical.byContradiction
abbrev vX:=@Int.emod_lt_of_pos
abbrev vY:=@Int.emod_nonneg
abbrev vZ:=@Array.getElem?_eq_some_iff
abbrev v3:=@List.foldl_cons
abbrev v5:=@Nat.pow_le_pow_right
abbrev v7:=@PySem.wpAny_truthy_bool
abbrev v8:=@List.nodup_nil
abbrev v9:=@PySem.wpAny_typeOf
abbrev ua:=@PySem.Heap.size_push
abbrev ub:=@PySem.wpAny_isInstance
abbrev uc:=@List.pairwise_cons
abbrev ud:=@PyProof.Rows.boot_sorted
abbrev ue:=@PySem.Paired.length
abbrev uf:=@List.getElem?_take_of_lt
abbrev ug:=@List.length_drop
abbrev uh:=@PySem.Heap.get?_update_self
abbrev ui:=@PySem.wpAny_specialOf
abbrev uj:=@List.mem_iff_getElem
abbrev uk:=@List.all_cons
abbrev uo:=@of_decide_eq_true
abbrev uq:=@List.getElem?_cons_zero
abbrev ur:=@List.cons_append
abbrev uu:=@PySem.codeAny_builtin
abbrev uv:=@PySem.wpAny_setState_of
abbrev uw:=@PySem.wpAny_attempt
abbrev uy:=@PySem.wpAny_setField
abbrev uz:=@PySem.Obj.data_mapFields
abbrev uA:=@List.eq_nil_of_length_eq_zero
abbrev uB:=@PySem.wpAny_dictEntries
abbrev uC:=@List.filter_cons_of_pos
abbrev uD:=@PySem.F.called_set
abbrev uE:=@decide_eq_true_iff
abbrev uF:=@List.filter_cons
abbrev uG:=@List.length_filter_le
abbrev uH:=@List.filterMap_cons
abbrev uI:=@PySem.wpAny_passesOwn
abbrev uJ:=@Nat.ne_of_gt
abbrev uK:=@PySem.wpAny_Call_Name_kw
abbrev uL:=@List.take_sublist
abbrev uM:=@List.mem_of_getElem?
abbrev uN:=@PyProof.Rows.slot_tuple_getitem
abbrev uO:=@List.mem_iff_getElem?
abbrev uP:=@PySem.wpAny_seqItems
abbrev uQ:=@Bool.eq_iff_iff
abbrev uR:=@PySem.wpAny_pyIter_list
abbrev uS:=@List.nil_append
abbrev uT:=@List.zip_cons_cons
abbrev uU:=@PySem.wpAny_of_eq
abbrev uV:=@List.not_mem_nil
abbrev uW:=@List.perm_append_comm
abbrev uX:=@List.dropLast_concat_getLast
abbrev uY:=@PySem.wpAny_forIn_list
abbrev uZ:=@Bool.not_true
abbrev u0:=@List.getElem?_cons_succ
abbrev u3:=@PySem.wpAny_dictEpoch
abbrev u4:=@PyProof.Rows.callWith_type1
abbrev u5:=@List.mem_filterMap
abbrev u6:=@PySem.Calls.spliced_nil
abbrev u7:=@PySem.Calls.spliced_cons
abbrev u9:=@PySem.mem_of_lookup
abbrev ya:=@List.find?_cons
abbrev yb:=@PySem.Heap.get?_update_other
abbrev yc:=@Nat.lt_of_le_of_lt
abbrev yd:=@PySem.plainId_quiet
abbrev ye:=@List.drop_sublist
abbrev yf:=@Array.getElem?_eq_none
abbrev yg:=@PySem.wpAny_fieldsOf
abbrev yh:=@List.nodup_append
abbrev yi:=@List.filter_cons_of_neg
abbrev yj:=@List.pairwise_map
abbrev yk:=@List.set_append_right
abbrev ym:=@PySem.boot_len
abbrev yn:=@PySem.F.plainAttrs_list
abbrev yo:=@PySem.tupleKind_room_in1
abbrev yp:=@Bool.not_eq_true
abbrev yq:=@Nat.lt_succ_of_lt
abbrev yr:=@PySem.typeLookup_type
abbrev yt:=@PySem.builtinLookup_eq_fast
abbrev yu:=@List.ext_getElem?
abbrev yv:=@PyProof.Rows.boot_list
abbrev yw:=@List.getD_eq_getElem?_getD
abbrev yx:=@List.any_eq_true
abbrev yy:=@List.take_of_length_le
abbrev yz:=@List.perm_middle
abbrev yA:=@PySem.Around.under_plainId
abbrev yB:=@PySem.wpAny_askSetting
abbrev yC:=@PySem.wpAny_pyIter_slot
abbrev yD:=@List.Perm.append_left
abbrev yE:=@Array.toList_inj
abbrev yF:=@PySem.F.slot_tuple_hash
abbrev yG:=@PySem.wpAny_tupleItemsOf
abbrev yH:=@PySem.F.slot_dict_keyiterator_next
abbrev yI:=@PySem.F.slot_dict_valueiterator_next
abbrev yJ:=@PySem.F.slot_dict_itemiterator_next
abbrev yK:=@PySem.wpAny_setField_rec
abbrev yL:=@List.flatten_cons
abbrev yM:=@Int.fdiv_eq_ediv_of_nonneg
abbrev yN:=@Array.mem_toList_iff
abbrev yO:=@List.pairwise_iff_getElem
abbrev yP:=@Array.toList_extract
abbrev yQ:=@PySem.Obj.isFreed_of_fields
abbrev yR:=@PySem.F.slot_tuple_iterator_next
abbrev yS:=@List.map_congr_left
abbrev yT:=@PyProof.Rows.F.plain_set_update_loop
abbrev yU:=@PySem.wpAny_notOrdered_dict
abbrev yV:=@PySem.wpAny_typeNameOfWhole_itemiter
abbrev yW:=@List.zipIdx_map_fst
abbrev yX:=@PyProof.Rows.boot_isinstance
abbrev yY:=@PySem.F.slot_list_append
abbrev yZ:=@PySem.F.type_list_append
set_option linter.all false
set_option maxRecDepth 100000
set_option Elab.async false
set_option maxHeartbeats 8000000
set_option autoImplicit true
set_option relaxedAutoImplicit true
noncomputable section
namespace L2
open PySem PySem.Spec PyProof.Rows
abbrev Key:=Sum Int Str
noncomputable def zN9:Key->Value->Bool
 | .inl k,v=>Value.isInt k v
 | .inr x,v=>Value.isStrOf x v
def keyH(w:World):Key->Int
 | .inl k=>hashInt k
 | .inr x=>hashStr w x
def zB2:∀{k:Key}{v:Value},zN9 k v=true->(∃i t,k=Sum.inl i/\v=Value.int i t)\/(∃x t,k=Sum.inr x/\v=Value.str x t)
 | .inl i,v,h=>by
  obtain⟨t,e⟩:=Value.isInt_shape (k:=i) (v:=v) h;exact .inl ⟨i,t,rfl,e⟩
 | .inr x,v,h=>by
  obtain⟨t,e⟩:=Value.isStrOf_shape (x:=x) (v:=v) h;exact .inr ⟨x,t,rfl,e⟩
def zPu(i:Int)(t:Tok):zN9 (.inl i) (.int i t)=true:=by simp[zN9,Value.isInt]
def zPt(x:Str)(t:Tok):zN9 (.inr x) (.str x t)=true:=by simp[zN9,Value.isStrOf]
def yBc(a b:Int):decide ((Sum.inl a:Key)=Sum.inl b)=(a == b):=by
 by_cases e:a=b
 ·subst e;simp
 ·have h:¬ (Sum.inl a:Key)=Sum.inl b:=λq=>e (Sum.inl.inj q)
  rw[xC h];exact(beq_eq_false_iff_ne.mpr e).symm
def yB9(a b:Str):decide ((Sum.inr a:Key)=Sum.inr b)=decide (a=b):=by
 by_cases e:a=b
 ·subst e;simp
 ·have h:¬ (Sum.inr a:Key)=Sum.inr b:=λq=>e (Sum.inr.inj q)
  rw[xC h,xC e]
def yBb(a:Int)(b:Str):decide ((Sum.inl a:Key)=Sum.inr b)=false:=xC (λq=>nomatch q)
def yBa(a:Str)(b:Int):decide ((Sum.inr a:Key)=Sum.inl b)=false:=xC (λq=>nomatch q)
noncomputable def zAu (prog:Program) (w:World):PySem.KeyKind prog w Key where
 is:=zN9
 hash:=keyH w
 inj:=λv a b ha hb=>by
  rcases zB2 ha with⟨i,t,rfl,rfl⟩|⟨x,t,rfl,rfl⟩
  ·rcases zB2 hb with⟨j,u,rfl,e⟩|⟨y,u,rfl,e⟩
   ·injection e with e1 _;rw[e1]
   ·exact nomatch e
  ·rcases zB2 hb with⟨j,u,rfl,e⟩|⟨y,u,rfl,e⟩
   ·exact nomatch e
   ·injection e with e1 _;rw[e1]
 byValue:=λk v h=>by
  rcases zB2 h with⟨i,t,rfl,rfl⟩|⟨x,t,rfl,rfl⟩ <;> rfl
 pyHash:=λhv h=>by
  rcases zB2 hv with⟨i,t,rfl,rfl⟩|⟨x,t,rfl,rfl⟩
  ·exact wpAny_pyHash_int h
  ·exact wpAny_pyHash_str h
 eqBool:=λhu hv h=>by
  rcases zB2 hu with⟨i,t,rfl,rfl⟩|⟨x,t,rfl,rfl⟩
  ·rcases zB2 hv with⟨j,u,rfl,rfl⟩|⟨y,u,rfl,rfl⟩
   ·rw[yBc]at h;exact wpAny_eqBool_int h
   ·rw[yBb]at h;exact SeqAt.EqAt.int_str i t y u _ _ _ _ h
  ·rcases zB2 hv with⟨j,u,rfl,rfl⟩|⟨y,u,rfl,rfl⟩
   ·rw[yBa]at h;exact SeqAt.EqAt.str_int x t j u _ _ _ _ h
   ·rw[yB9]at h;exact wpAny_eqBool_str h
 «strs»:=λk x t v h=>by
  rcases zB2 h with⟨i,u,rfl,e⟩|⟨y,u,rfl,e⟩
  ·exact nomatch e
  ·injection e with e1 _
   subst e1;cases v <;> rfl
def zKo(prog:Program)(w:World)(i:Int)(t:Tok):(zAu prog w).is (.inl i) (.int i t)=true:=zPu i t
def zKn(prog:Program)(w:World)(x:Str)(t:Tok):(zAu prog w).is (.inr x) (.str x t)=true:=zPt x t
inductive V where
 | non|bl (b:Bool)|int (i:Int)|str (x:Str)|byt (b:Array UInt8)|flt (b:UInt64)|ref (a:Addr)|ty (n:String)
 deriving DecidableEq
def RelV:V->Value->Prop
 | .non,u=>u=Value.none
 | .bl b,u=>u=Value.bool b
 | .int i,u=>∃t,u=Value.int i t
 | .str x,u=>∃t,u=Value.str x t
 | .byt b,u=>∃t,u=Value.bytes b t
 | .flt b,u=>∃t,u=Value.float b t
 | .ref a,u=>u=Value.ref a
 | .ty n,u=>u=Value.type n
abbrev Vals:List V->List Value->Prop:=Paired RelV
def Vals.length{xs:List V}{us:List Value}(r:Vals xs us):xs.length=us.length:=ue r
def Vals.get:∀{xs:List V}{us:List Value}{i:Nat}{x:V},Vals xs us->xs[i]?=some x->∃u,us[i]?=some u/\RelV x u
 | _,_,_,_,.nil,e=>by simp at e
 | _,_,0,_,.cons r _,e=>by simp at e;subst e;exact⟨_,rfl,r⟩
 | _,_,i+1,x,.cons _ t,e=>by
  obtain⟨u,h1,h2⟩:=Vals.get (i:=i) (x:=x) t (by simpa using e);exact⟨u,by simpa using h1,h2⟩
def Vals.set(r:RelV x u):∀{xs:List V}{us:List Value}(i:Nat),Vals xs us->Vals (xs.set i x) (us.set i u)
 | _,_,_,.nil=>.nil
 | _,_,0,.cons _ t=>.cons r t
 | _,_,i+1,.cons q t=>.cons q (Vals.set r i t)
def Vals.append:∀{xs ys:List V}{us ws:List Value},Vals xs us->Vals ys ws->Vals (xs++ys) (us++ws)
 | _,_,_,_,.nil,s=>s
 | _,_,_,_,.cons r t,s=>.cons r (Vals.append t s)
def Vals.take:∀{xs:List V}{us:List Value}(n:Nat),Vals xs us->Vals (xs.take n) (us.take n)
 | _,_,0,_=>.nil
 | _,_,_+1,.nil=>.nil
 | _,_,n+1,.cons r t=>.cons r (Vals.take n t)
def Vals.drop:∀{xs:List V}{us:List Value}(n:Nat),Vals xs us->Vals (xs.drop n) (us.drop n)
 | _,_,0,r=>r
 | _,_,_+1,.nil=>.nil
 | _,_,n+1,.cons _ t=>Vals.drop n t
def RelO:Option V->Option Value->Prop
 | some v,some u=>RelV v u
 | none,none=>True
 | _,_=>False
def KV{κ:Type}:List (κ × V)->List (κ × Value)->Prop:=Paired fun(p:κ × V) (q:κ × Value)=>p.1=q.1/\RelV p.2 q.2
def kV:Key->V
 | .inl i=>.int i
 | .inr x=>.str x
inductive HO where
 /-- a list -/
 | lst (xs:List V)
 /-- a tuple (never changes) -/
 | tup (xs:List V)
 /-- a dict whose keys are ints and texts;one whose keys are tuples of ints and texts (the empty one is both) -/
 | dK (kvs:List (Key × V))|dT (kvs:List (List Key × V))
 /-- a set of ints: its members,its size -/
 | set (S:Int->Bool) (n:Nat)
 /-- an instance of the class at C,its dict at dx,its attributes -/
 | ins (C dx:Addr) (fs:List (Str × V))
 /-- the dict of the instance at x -/
 | own (x:Addr)
 /-- the dict of an exception -/
 | xd (fs:List (Str × V))
 /-- a bound method,f of x -/
 | met (f x:Addr)
 /-- a range object lo,lo+1,.. below hi -/
 | rng (lo hi:Int)
 /-- a thing that is known to the object (the script;a dict while a loop walks it): read,never written while it is so -/
 | frz (o:Obj) (u:HO)
 /-- a code object's table -/
 | tbl (ps:Array Value)
 /-- any other thing,by what is true of its one object (a def of one's own: SetO a S n:=HO.ext λh=>..) -/
 | ext (φ:Heap->Prop)
abbrev Hp:=Addr->Option HO
def upd(H:Hp)(a:Addr)(o:HO):Hp:=λb=>if b=a then some o else H b
def zAm :upd H a o a=some o:=by unfold upd;rw[xf rfl]
def zAi{H:Hp}(h:b≠a):upd H a o b=H b:=by unfold upd;rw[xg h]
def yAy{H:Hp}(h:H a=some o)(h':H b=some u)(d:o≠u):a≠b:=by intro e;subst e;rw[h]at h';exact d (xN h')
def zAh{H:Hp}(h:H a=some o)(h':H b=none):a≠b:=by intro e;subst e;rw[h]at h';cases h'
section
variable (P:Program) (w:World)
def ObjOk(H:Hp)(h:Heap)(a:Addr):HO->Prop
 | .lst xs=>xs.length<=sizeLine/\∃(its:List Value) (n:Nat),Vals xs its/\h.get? a=some { cls:=.type "list",data:=.seq its.toArray n }
 | .tup xs=>xs.length<=sizeLine/\∃its:List Value,Vals xs its/\IsTup h a its.toArray
 | .dK kvs=>kvs.length<=sizeLine/\(a == sysModules)=false/\∃vs,KV kvs vs/\h.DictOf (zAu P w) a vs
 | .dT kvs=>kvs.length<=sizeLine/\(a == sysModules)=false/\∃xs:List (List Key × Addr × Value),
   Paired (fun(p:List Key × V) (q:List Key × Addr × Value)=>p.1=q.1/\H q.2.1=some (.tup (p.1.map kV))/\RelV p.2 q.2.2) kvs xs /\
   ∃o es ep,h.get? a=some o/\o.ExactDict/\o.data=.dict es ep/\es.toList=xs.map (entryOfKey (tupleKind (zAu P w)))/\(xs.map (·.1)).Nodup
 | .set S n=>h.SetOf (intKind P w) a S n
 | .ins C dx fs=>H dx=some (.own a)/\fs.length<=1000/\dx≠a/\h.get? a=some (PySem.W.instObj C dx) /\
   ∃mA,h.Ns1 dx mA/\(∀f,RelO (fs.lookup f) (mA f))/\PySem.Within mA (fs.map (·.1))
 | .own _=>∃o,h.get? a=some o
 | .xd fs=>∃mA,h.Ns1 a mA/\∀f,RelO (fs.lookup f) (mA f)
 | .rng lo hi=>∃t u v,h.get? a=some { cls:=.type "range",data:=.fields #[.int lo t,.int hi u,.int 1 v] }
 | .frz o u=>h.get? a=some o/\ObjOk H h a u
 | .tbl ps=>h.get? a=some { cls:=.none,data:=.fields ps }
 | .met f x=>h.get? a=some (PySem.W.methodObj (.ref f) (.ref x))
 | .ext φ=>φ h/\(∃o,h.get? a=some o)/\∀h1 h2:Heap,φ h1->(∀o,h1.get? a=some o->h2.get? a=some o)->φ h2
def HOk(H:Hp)(h:Heap):Prop:=∀a o,H a=some o->ObjOk P w H h a o
end
section
variable {P:Program}{w:World}{H H':Hp}{h h':Heap}{a:Addr}{o:HO}
def ObjOk.lt(x:ObjOk P w H h a o):a<h.objs.size:=by
 cases o with
 | lst xs=>obtain⟨_,_,_,_,e⟩:=x;exact xo e
 | tup xs=>obtain⟨_,_,_,p⟩:=x;exact p.lt
 | dK kvs=>obtain⟨_,_,_,_,o,_,_,e,_⟩:=x;exact xo e
 | dT kvs=>obtain⟨_,_,_,_,o,_,_,e,_⟩:=x;exact xo e
 | set S n=>obtain⟨o,_,_,_,e,_⟩:=x;exact xo e
 | ins C dx fs=>obtain⟨_,_,_,e,_⟩:=x;exact xo e
 | own y=>obtain⟨_,e⟩:=x;exact xo e
 | xd fs=>obtain⟨_,⟨_,_,_,e,_⟩,_⟩:=x;exact xo e
 | rng lo hi=>obtain⟨_,_,_,e⟩:=x;exact xo e
 | frz ob u=>obtain⟨e,_⟩:=x;exact xo e
 | tbl ps=>exact xo (show h.get? a=some _ from x)
 | met f y=>exact xo (show h.get? a=some _ from x)
 | ext φ=>obtain⟨_,⟨_,e⟩,_⟩:=x;exact xo e
def Paired.mapP{α β:Type}{F G:α->β->Prop}:∀{l₁:List α}{l₂:List β},Paired F l₁ l₂->(∀a b,F a b->G a b)->Paired G l₁ l₂
 | _,_,.nil,_=>.nil
 | _,_,.cons r t,f=>.cons (f _ _ r) (Paired.mapP t f)
def ObjOk.stay(x:ObjOk P w H h a o)(k:∀b u,(b=a\/H b=some (.own a))->h.get? b=some u->h'.get? b=some u)
  (ho:∀b,H b=some (.own a)->H' b=some (.own a)) (ht:∀b xs,H b=some (.tup xs)->H' b=some (.tup xs)):ObjOk P w H' h' a o:=by
 induction o with
 | lst xs=>obtain⟨z,its,n,r,e⟩:=x;exact⟨z,its,n,r,k _ _ (.inl rfl) e⟩
 | tup xs=>obtain⟨z,its,r,ob,e,c⟩:=x;exact⟨z,its,r,ob,k _ _ (.inl rfl) e,c⟩
 | dK kvs=>obtain⟨z,y,vs,r,ob,es,ep,e,c⟩:=x;exact⟨z,y,vs,r,ob,es,ep,k _ _ (.inl rfl) e,c⟩
 | dT kvs=>
  obtain⟨z,y,xs,r,ob,es,ep,e,c⟩:=x;exact⟨z,y,xs,Paired.mapP r λp q z=>⟨z.1,ht _ _ z.2.1,z.2.2⟩,ob,es,ep,k _ _ (.inl rfl) e,c⟩
 | set S n=>obtain⟨ob,es,ep,t,e,c⟩:=x;exact⟨ob,es,ep,t,k _ _ (.inl rfl) e,c⟩
 | ins C dx fs=>
  obtain⟨d,z,ne,e,mA,⟨od,es,ep,e2,c⟩,r⟩:=x;exact⟨ho _ d,z,ne,k _ _ (.inl rfl) e,mA,⟨od,es,ep,k _ _ (.inr d) e2,c⟩,r⟩
 | own y=>obtain⟨ob,e⟩:=x;exact⟨ob,k _ _ (.inl rfl) e⟩
 | xd fs=>obtain⟨mA,⟨od,es,ep,e,c⟩,r⟩:=x;exact⟨mA,⟨od,es,ep,k _ _ (.inl rfl) e,c⟩,r⟩
 | rng lo hi=>obtain⟨t,u,v,e⟩:=x;exact⟨t,u,v,k _ _ (.inl rfl) e⟩
 | frz ob u ih=>obtain⟨e,q⟩:=x;exact⟨k _ _ (.inl rfl) e,ih q⟩
 | tbl ps=>
  have e:h.get? a=some { cls:=.none,data:=.fields ps }:=x;show h'.get? a=some { cls:=.none,data:=.fields ps };exact k a _ (.inl rfl) e
 | met f y=>
  have e:h.get? a=some (PySem.W.methodObj (.ref f) (.ref y)):=x;show h'.get? a=some (PySem.W.methodObj (.ref f) (.ref y));exact k a _ (.inl rfl) e
 | ext φ=>obtain⟨p,⟨o,e⟩,st⟩:=x;exact⟨st _ _ p λo q=>k _ _ (.inl rfl) q,⟨o,k _ _ (.inl rfl) e⟩,st⟩
def HOk.lt(x:HOk P w H h)(e:H a=some o):a<h.objs.size:=(x a o e).lt
def HOk.fresh(x:HOk P w H h)(e:h.objs.size<=a):H a=none:=by
 cases q:H a with
 | none=>rfl
 | some u=>exact absurd (xF (x.lt q) e) (vy _)
def HOk.kept(x:HOk P w H h)(k:∀b u,h.get? b=some u->h'.get? b=some u):HOk P w H h':=λa o e=>
 (x a o e).stay (λb u _ q=>k b u q) (λ_ q=>q) λ_ _ q=>q
def HOk.laid(x:HOk P w H h)(k:∀b u,h.get? b=some u->h'.get? b=some u)(hp:h.objs.size<=a)(new:ObjOk P w (upd H a o) h' a o):HOk P w (upd H a o) h':=λb u e=>by
 have hn:=x.fresh hp;by_cases hb:b=a
 ·subst hb;rw[zAm]at e;cases e;exact new
 ·rw[zAi hb]at e;exact(x b u e).stay (λc v _ q=>k c v q) (λc q=>by rw[zAi (zAh q hn)];exact q) λc xs q=>by rw[zAi (zAh q hn)];exact q
end
def Rd(H:Hp)(a:Addr)(u:HO):Prop:=H a=some u\/∃o,H a=some (.frz o u)
def Rd.ok(r:Rd H a u)(x:HOk P w H h):ObjOk P w H h a u:=by
 rcases r with r|⟨o,r⟩
 ·exact x a u r
 ·obtain⟨_,q⟩:=x a _ r;exact q
def Mut:Option HO->Prop
 | some (.lst _)=>True
 | some (.dK _)=>True
 | some (.dT _)=>True
 | some (.set _ _)=>True
 | some (.ins _ _ _)=>True
 | some (.ext _)=>True
 | _=>False
section
variable {P:Program}{w:World}{H:Hp}{h h':Heap}{x e:Addr}{o':HO}
def HOk.write(ok:HOk P w H h)(mu:Mut (H x))(he:e=x\/H e=some (.own x))(k:∀b u,b≠e->h.get? b=some u->h'.get? b=some u)(heo:∃u,h'.get? e=some u)
  (new:ObjOk P w (upd H x o') h' x o'):HOk P w (upd H x o') h':=λb u q=>by
 have nown:∀c y,H c=some (.own y)->c≠x:=λc y r z=>by subst z;rw[r]at mu;exact mu
 have ntup:∀c xs,H c=some (.tup xs)->c≠x:=λc xs r z=>by subst z;rw[r]at mu;exact mu
 by_cases hb:b=x
 ·subst hb;rw[zAm]at q;cases q;exact new
 ·rw[zAi hb]at q;by_cases hbe:b=e
  ·have q':H b=some (.own x):=by
    rcases he with z|z
    ·exact absurd (hbe.trans z) hb
    ·rw[hbe];exact z
   rw[q]at q';cases q';obtain⟨v,hv⟩:=heo;exact⟨v,by rw[hbe];exact hv⟩
  ·refine(ok b u q).stay (λc v hc r=>k c v ?_ r) (λc r=>by rw[zAi (nown c b r)];exact r) λc xs r=>by rw[zAi (ntup c xs r)];exact r
   rcases hc with rfl|hc
   ·exact hbe
   ·rintro rfl;rcases he with z|z
    ·exact nown c b hc z
    ·rw[hc]at z;cases z;exact hb rfl
end
structure Un (fs ex:List Addr) (H H':Hp) (h h':Heap):Prop where
 keep:∀b o,h.get? b=some o->H b=none->b ∉ fs->b ∉ ex->h'.get? b=some o
 slot:∀b o,h.get? b=some o->H b=none->b∈fs->b ∉ ex->∃sl,h'.get? b=some { o with slots:=sl }
 free:∀b o,h.get? b=some o->H b=none->b ∉ ex->H' b=none
 there:∀b o,h.get? b=some o->b ∉ ex->∃o',h'.get? b=some o'
 tups:∀b xs,H b=some (.tup xs)->H' b=some (.tup xs)
 frzs:∀b o u,H b=some (.frz o u)->H' b=some (.frz o u)
 tbls:∀b ps,H b=some (.tbl ps)->∃more,H' b=some (.tbl (ps++more))
section
variable {fs fs' ex ex':List Addr}{H H1 H2:Hp}{h h1 h2 h':Heap}{a x e:Addr}{o:HO}
def Un.any(u:Un fs ex H H1 h h1){ob:Obj}(q:h.get? b=some ob)(n:H b=none)(hx:b ∉ ex):∃sl,h1.get? b=some { ob with slots:=sl }:=by
 by_cases hb:b∈fs
 ·exact u.slot b ob q n hb hx
 ·exact⟨ob.slots,u.keep b ob q n hb hx⟩
def Un.kept(k:∀b u,h.get? b=some u->h'.get? b=some u):Un fs ex H H h h':=
 ⟨λb ob q _ _ _=>k b ob q,λb ob q _ _ _=>⟨ob.slots,k b ob q⟩,λ_ _ _ n _=>n,λb ob q _=>⟨ob,k b ob q⟩,λ_ _ q=>q,λ_ _ _ q=>q,λ_ ps q=>⟨#[],by rw[q];simp⟩⟩
def Un.refl:Un fs ex H H h h:=Un.kept λ_ _ q=>q
def Un.laid(k:∀b u,h.get? b=some u->h'.get? b=some u)(hp:h.objs.size<=a)(hn:H a=none):Un fs ex H (upd H a o) h h' where
 keep:=λb u q _ _ _=>k b u q
 slot:=λb u q _ _ _=>⟨u.slots,k b u q⟩
 free:=λb u q n _=>by rw[zAi (xu (xF (xo q) hp))];exact n
 there:=λb u q _=>⟨u,k b u q⟩
 tups:=λb xs q=>by rw[zAi (zAh q hn)];exact q
 frzs:=λb u xs q=>by rw[zAi (zAh q hn)];exact q
 tbls:=λb ps q=>⟨#[],by rw[zAi (zAh q hn),q];simp⟩
def Un.write(mu:Mut (H x))(he:e=x\/H e=some (.own x))(k:∀b u,b≠e->h.get? b=some u->h'.get? b=some u)(heo:∃u,h'.get? e=some u):Un fs ex H (upd H x o) h h':=by
 have hx:∀b,H b=none->b≠x:=λb n z=>by subst z;rw[n]at mu;exact mu
 have hb:∀b,H b=none->b≠e:=λb n z=>by
  subst z;rcases he with r|r
  ·exact hx b n r
  ·rw[n]at r;cases r
 have hm:∀b u,H b=some u->¬ Mut (some u)->b≠x:=λb u q nm z=>by subst z;rw[q]at mu;exact nm mu
 refine⟨λb u q n _ _=>k b u (hb b n) q,λb u q n _ _=>⟨u.slots,k b u (hb b n) q⟩,λb u q n _=>by rw[zAi (hx b n)];exact n,λb u q _=>?_,
  λb xs q=>by rw[zAi (hm b _ q λz=>z)];exact q,λb u xs q=>by rw[zAi (hm b _ q λz=>z)];exact q,λb ps q=>⟨#[],by rw[zAi (hm b _ q λz=>z),q];simp⟩⟩
 by_cases hbe:b=e
 ·subst hbe;exact heo
 ·exact⟨u,k b u hbe q⟩
end
noncomputable def trk (h:Heap) (H:Hp):List Addr:=(List.range h.objs.size).filter λa=>(H a).isSome
def hidT(h:Heap)(H:Hp):Heap:=PySem.W.hideAll h (trk h H)
def zQ6(h:Heap)(H:Hp):(hidT h H).objs.size=h.objs.size:=PySem.W.hideAll_size _ _
def zTi{h:Heap}{H:Hp}(e:h.get? b=some o)(n:H b=none):(hidT h H).get? b=some o:=
 PySem.W.hideAll_get _ e λhm=>by
  have q:(H b).isSome=true:=(vO.mp hm).2;rw[n]at q;simp at q
def zX9{h:Heap}{H:Hp}(e:(hidT h H).get? b=some o):h.get? b=some o/\H b=none:=by
 have e':h.get? b=some o:=PySem.W.of_hideAll (trk h H) e;refine⟨e',?_⟩;cases q:H b with
 | none=>rfl
 | some x=>
  have hm:b∈trk h H:=vO.mpr ⟨vi.mpr (xo e'),by simp[q]⟩;have z:(hidT h H).get? b=none:=PySem.W.hideAll_none (trk h H) hm;rw[z]at e;cases e
noncomputable def zZ2 (g h:Heap) (L:Addr):List (Addr × Obj):=(List.range h.objs.size).filterMap λa=>if a=L\/(g.get? a).isSome=true then none else(h.get? a).map λo=>(a,o)
noncomputable def rest (g h:Heap) (L d:Addr):List (Addr × Obj):=(zZ2 g h L).filter λp=>decide (p.1≠d)
structure Mod (K:PySem.W.Frag) (mg:Str->Option Value) (base:Heap):Prop where
 kin:K.In base
 glob:base.Ns mainGlobals mg
 blt:∃mb,base.Ns builtinsNs mb/\∀x:Str,x≠"__name__"->mb x=bootBuiltins x
 nolimit:base.NoLimit
/-- the context: a def's body (or a comprehension's block) running. base: fixed through the whole law;s₀,H₀: the entry;outer: the frames whose slots others may change (a def's callers);stack: all frames that run;
   ex: iterators that were made ahead of the entry and are walked here (a comprehension's);fn: the names whose cells were made at the entry (a def: all;a comprehension's block: its own);calm: not within an except suite;pn: pins that every state bears;xe: what is wanted of an exception that leaves the code -/
structure Cx where
  prog:Program
  w:World
  K:PySem.W.Frag
  mg:Str->Option Value
  base:Heap
  A:Around
  N:List Str
  s₀:Shared
  H₀:Hp
  env:Env
  outer:List Env
  stack:List Env
  ex:List Addr
  fn:Str->Bool
  calm:Bool
  pn:List (Addr × Obj)
  xe:Value->Shared->Prop
def frs(l:List Env):List Addr:=l.filterMap (·.frame)
abbrev Cx.fs(X:Cx):List Addr:=frs X.outer
def Vis(sc:Scope)(x:Str):Prop:=sc.names.lookup x=some .local\/sc.names.lookup x=some .cell\/sc.names.lookup x=some .free
def Loc(sc:Scope)(x:Str):Prop:=sc.names.lookup x=some .local\/sc.names.lookup x=some .cell
def Look(env:Env)(h:Heap)(m:Str->Option Value)(x:Str)(u:Value):Prop:=
 (env.kindOf x=some .local/\m x=some u)\/((env.kindOf x=some .cell\/env.kindOf x=some .free)/\∃c,env.cells.lookup x=some c/\h.IsCell c (some u))
structure Cx.Ok (X:Cx):Prop where
 mod:Mod X.K X.mg X.base
 kind:X.env.scope.kind=.function
 glob:X.env.globals=mainGlobals
 blt:X.env.builtins=builtinsNs
 above:X.s₀.heap.objs.size<=X.env.locals
 inj:∀x y c,X.env.cells.lookup x=some c->X.env.cells.lookup y=some c->x=y
 has:∀x,(X.env.kindOf x=some .cell\/X.env.kindOf x=some .free)->∃c,X.env.cells.lookup x=some c
 cab:∀x c,X.fn x=true->X.env.cells.lookup x=some c->X.s₀.heap.objs.size<=c
 hd:X.calm=true->X.A.handled=none
 frames:X.A.frames=some X.stack
 stk:X.stack=X.outer\/(X.stack=X.env::X.outer/\X.env.frame=some X.env.locals)
 exf:∀b∈X.ex,b≠X.env.locals/\∀x c,X.env.cells.lookup x=some c->c≠b
 bs:∀b o,X.base.get? b=some o->X.s₀.heap.get? b=some o/\X.H₀ b=none
 bsz:X.base.objs.size<=X.s₀.heap.objs.size
 noex:∀b o,X.base.get? b=some o->b ∉ X.ex
 exfs:∀b∈X.ex,b ∉ X.fs
 funs:X.s₀.heap.FunFrames X.base X.outer
 frf:∀b∈X.fs,X.H₀ b=none
structure Inv (X:Cx) (pins:List (Addr × Obj)) (σ:List (Option V)) (H:Hp) (s:Shared):Prop where
 ok:X.Ok
 os:s.os=X.s₀.os
 bare:AllBare s.gens
 base:Un X.fs X.ex X.H₀ H X.s₀.heap s.heap
 loc:∃m,s.heap.Ns X.env.locals m/\∀(i:Nat) (x:Str) (v:V),X.N[i]?=some x->σ[i]?=some (some v)->Vis X.env.scope x->∃u,RelV v u/\Look X.env s.heap m x u
 cell:∀x c,X.env.cells.lookup x=some c->∃v,s.heap.IsCell c v
 free:H X.env.locals=none
 freeC:∀x c,X.env.cells.lookup x=some c->H c=none
 pin:∀p∈X.pn++pins,s.heap.get? p.1=some p.2/\H p.1=none/\p.1≠X.env.locals/\p.1 ∉ X.fs/\∀v,p.2.data≠.cell v
 hok:HOk X.prog X.w H s.heap
 len:σ.length=X.N.length
section
variable {X:Cx}{pins:List (Addr × Obj)}{σ:List (Option V)}{H H':Hp}{s:Shared}{h':Heap}
def Cx.Ok.nofr(ok:X.Ok)(e:X.base.get? b=some o):b ∉ X.fs:=λhb=>by
 have:=(ok.funs.mem hb).1;rw[e]at this;cases this
def Inv.bs(I:Inv X pins σ H s):∀b o,X.base.get? b=some o->s.heap.get? b=some o/\H b=none:=λb o e=>
 ⟨I.base.keep b o (I.ok.bs b o e).1 (I.ok.bs b o e).2 (I.ok.nofr e) (I.ok.noex b o e),I.base.free b o (I.ok.bs b o e).1 (I.ok.bs b o e).2 (I.ok.noex b o e)⟩
def Inv.bk(I:Inv X pins σ H s):∀b o,X.base.get? b=some o->s.heap.get? b=some o:=λb o e=>(I.bs b o e).1
def Inv.mod(I:Inv X pins σ H s):Mod X.K X.mg X.base:=I.ok.mod
def Inv.kIn(I:Inv X pins σ H s):X.K.In s.heap:=I.ok.mod.kin.keeps I.bk
def Inv.lt(I:Inv X pins σ H s):X.env.locals<s.heap.objs.size:=let ⟨_,hn,_⟩:=I.loc;hn.lt
def Inv.sz(I:Inv X pins σ H s):X.s₀.heap.objs.size<=s.heap.objs.size:=xm I.ok.above (xU I.lt)
def Inv.nofs(I:Inv X pins σ H s)(h:s.heap.objs.size<=a):a ∉ X.fs:=λhb=>by
 obtain⟨_,o,ho,_⟩:=I.ok.funs.mem hb
 exact absurd (xF (xo ho) (xm I.sz h)) (vy _)
def Inv.cne(I:Inv X pins σ H s):∀x c,X.env.cells.lookup x=some c->c≠X.env.locals:=λx c e z=>by
 obtain⟨v,o,ho,hd⟩:=I.cell x c e;obtain⟨m,⟨o',es,ep,ho',hd',_⟩,_⟩:=I.loc;rw[z,ho']at ho;cases ho;rw[hd']at hd;cases hd
def Inv.funs(I:Inv X pins σ H s):s.heap.FunFrames X.base X.outer:=by
 have all:∀(l:List Env),(∀b∈frs l,b∈X.fs)->X.s₀.heap.FunFrames X.base l->s.heap.FunFrames X.base l:=by
  intro l;induction l with
  | nil=>intro _ _;trivial
  | cons env r ih=>
   intro hs hl;obtain⟨hk,⟨L,o,hf,hn,ho,hd⟩,hr⟩:=hl;have hL:L∈X.fs:=hs L (by unfold frs;rw[uH,hf];exact xY);obtain⟨sl,e⟩:=I.base.slot L o ho (I.ok.frf L hL) hL λz=>I.ok.exfs L z hL
   exact⟨hk,⟨L,_,hf,hn,e,hd⟩,ih (λb hb=>hs b (by unfold frs;rw[uH,hf];exact vp _ hb)) hr⟩
 exact all X.outer (λ_ hb=>hb) I.ok.funs
def Inv.stack(I:Inv X pins σ H s):s.heap.FunFrames X.base X.stack:=by
 rcases I.ok.stk with e|⟨e,hf⟩
 ·rw[e];exact I.funs
 ·rw[e];obtain⟨m,hn,_⟩:=I.loc;refine .cons (by rw[I.ok.kind];decide) hf hn ?_ I.funs
  exact Heap.get?_none_of_le (xm I.ok.bsz I.ok.above)
def Inv.stkSub(I:Inv X pins σ H s):∀b∈frs X.stack,b∈X.env.locals::X.fs:=λb hb=>by
 rcases I.ok.stk with e|⟨e,hf⟩
 ·rw[e]at hb;exact vp _ hb
 ·rw[e]at hb;unfold frs at hb;rw[uH,hf]at hb;exact hb
def Inv.stkFree(I:Inv X pins σ H s):∀b∈frs X.stack,H b=none:=λb hb=>by
 rcases xp.mp (I.stkSub b hb)with e|hb
 ·rw[e];exact I.free
 ·obtain⟨_,o,ho,_⟩:=I.ok.funs.mem hb
  exact I.base.free b o ho (I.ok.frf b hb) λz=>I.ok.exfs b z hb
def Inv.step{g':Array GenState}{t':Nat}{d':Drawn}{ch:List Addr}(I:Inv X pins σ H s)
  (hch:∀b∈ch,(b∈X.ex\/X.s₀.heap.objs.size<=b)/\b≠X.env.locals/\(∀x c,X.env.cells.lookup x=some c->c≠b)/\∀p∈X.pn++pins,p.1≠b)
  (keep:∀b o,b≠X.env.locals->b ∉ X.fs->b ∉ ch->s.heap.get? b=some o->H b=none->h'.get? b=some o)
  (slot:∀b o,b≠X.env.locals->b∈X.fs->b ∉ ch->s.heap.get? b=some o->H b=none->∃sl,h'.get? b=some { o with slots:=sl }) (free:∀b o,b ∉ ch->s.heap.get? b=some o->H b=none->H' b=none)
  (there:∀b o,b ∉ ch->s.heap.get? b=some o->∃o',h'.get? b=some o')
  (tups:∀b xs,H b=some (.tup xs)->H' b=some (.tup xs)) (frzs:∀b o u,H b=some (.frz o u)->H' b=some (.frz o u)) (tbls:∀b ps,H b=some (.tbl ps)->∃more,H' b=some (.tbl (ps++more)))
  (ns:∀m,s.heap.Ns X.env.locals m->h'.Ns X.env.locals m) (hok:HOk X.prog X.w H' h') (hg:AllBare g'):
  Inv X pins σ H' { s with heap:=h',gens:=g',drawn:=d',toks:=t' }:=by
 have neL:∀b o,X.s₀.heap.get? b=some o->b≠X.env.locals:=λb o e=>xu (xF (xo e) I.ok.above)
 have neC:∀b o,X.s₀.heap.get? b=some o->b ∉ X.ex->b ∉ ch:=λb o e hx hb=>by
  rcases(hch b hb).1 with z|z
  ·exact hx z
  ·exact absurd (xF (xo e) z) (vy _)
 have cellK:∀x c,X.env.cells.lookup x=some c->∀v,s.heap.IsCell c v->h'.IsCell c v:=λx c e v hq1=>by
  obtain⟨o,ho,hd⟩:=hq1;have nch:c ∉ ch:=λz=>(hch c z).2.2.1 x c e rfl
  by_cases hc:c∈X.fs
  ·obtain⟨sl,q⟩:=slot c o (I.cne x c e) hc nch ho (I.freeC x c e);exact⟨_,q,hd⟩
  ·exact⟨o,keep c o (I.cne x c e) hc nch ho (I.freeC x c e),hd⟩
 refine⟨I.ok,I.os,hg,⟨λb o e n hb hx=>?_,λb o e n hb hx=>?_,λb o e n hx=>?_,λb o e hx=>?_,λb xs e=>tups b xs (I.base.tups b xs e),λb o xs e=>frzs b o xs (I.base.frzs b o xs e),λb ps e=>?_⟩,?_,λx c e=>?_,?_,λx c e=>?_,λp hp=>?_,hok,I.len⟩
 ·exact keep b o (neL b o e) hb (neC b o e hx) (I.base.keep b o e n hb hx) (I.base.free b o e n hx)
 ·obtain⟨sl,e1⟩:=I.base.slot b o e n hb hx;obtain⟨sl',e2⟩:=slot b _ (neL b o e) hb (neC b o e hx) e1 (I.base.free b o e n hx);exact⟨sl',e2⟩
 ·obtain⟨o',e1⟩:=I.base.there b o e hx;exact free b o' (neC b o e hx) e1 (I.base.free b o e n hx)
 ·obtain⟨o',e1⟩:=I.base.there b o e hx;exact there b o' (neC b o e hx) e1
 ·obtain⟨m1,e1⟩:=I.base.tbls b ps e;obtain⟨m2,e2⟩:=tbls b _ e1;exact⟨m1++m2,by rw[e2,Array.append_assoc]⟩
 ·obtain⟨m,hn,hl⟩:=I.loc;refine⟨m,ns m hn,λi x v e1 e2 e3=>?_⟩;obtain⟨u,r,l⟩:=hl i x v e1 e2 e3;refine⟨u,r,?_⟩;rcases l with l|⟨k,c,e,z⟩
  ·exact .inl l
  ·exact .inr ⟨k,c,e,cellK x c e _ z⟩
 ·obtain⟨v,z⟩:=I.cell x c e;exact⟨v,cellK x c e v z⟩
 ·obtain⟨m,⟨o,_,_,ho,_⟩,_⟩:=I.loc;exact free _ o (λz=>(hch _ z).2.1 rfl) ho I.free
 ·obtain⟨v,o,ho,hd⟩:=I.cell x c e;exact free c o (λz=>(hch c z).2.2.1 x c e rfl) ho (I.freeC x c e)
 ·obtain⟨e,n,ne,nf,d⟩:=I.pin p hp;have nch:p.1 ∉ ch:=λz=>(hch p.1 z).2.2.2 p hp rfl
  exact⟨keep p.1 p.2 ne nf nch e n,free p.1 p.2 nch e n,ne,nf,d⟩
def Inv.un{t':Nat}(I:Inv X pins σ H s)(u:Un X.fs [] H H' s.heap h')(hok:HOk X.prog X.w H' h'):Inv X pins σ H' { s with heap:=h',toks:=t' }:=by
 obtain⟨m,⟨o,es,ep,ho,r⟩,_⟩:=id I.loc;obtain⟨sl,hL⟩:=u.any ho I.free (by simp);exact I.step (g':=s.gens) (d':=s.drawn) (ch:=[]) (λ_ z=>nomatch z) (λb o _ hb _ e n=>u.keep b o e n hb (by simp)) (λb o _ hb _ e n=>u.slot b o e n hb (by simp)) (λb o _ e n=>u.free b o e n (by simp)) (λb o _ e=>u.there b o e (by simp)) u.tups u.frzs u.tbls (λm' hm=>by
  obtain⟨o',es',ep',ho',r'⟩:=hm;rw[ho]at ho';cases ho';exact⟨_,es',ep',hL,r'⟩) hok I.bare
def Inv.call{t':Nat}{d':Drawn}(I:Inv X pins σ H s)(u:Un (frs X.stack) ch H H' s.heap h')(hok:HOk X.prog X.w H' h')(hg:AllBare g')
  (hch:∀b∈ch,(b∈X.ex\/X.s₀.heap.objs.size<=b)/\b≠X.env.locals/\(∀x c,X.env.cells.lookup x=some c->c≠b)/\∀p∈X.pn++pins,p.1≠b):
  Inv X pins σ H' { s with heap:=h',gens:=g',drawn:=d',toks:=t' }:=by
 obtain⟨m,⟨o,es,ep,ho,r⟩,_⟩:=id I.loc;obtain⟨sl,hL⟩:=u.any ho I.free λz=>(hch _ z).2.1 rfl
 exact I.step (ch:=ch) hch (λb o hL hb hc e n=>u.keep b o e n (λz=>(xp.mp (I.stkSub b z)).elim hL hb) hc) (λb o _ _ hc e n=>u.any e n hc) (λb o hc e n=>u.free b o e n hc) (λb o hc e=>u.there b o e hc) u.tups u.frzs u.tbls (λm' hm=>by
  obtain⟨o',es',ep',ho',r'⟩:=hm;rw[ho]at ho';cases ho';exact⟨_,es',ep',hL,r'⟩) hok hg
def Inv.turned{t':Nat}(I:Inv X pins σ H s)(k:∀b o,b≠it->s.heap.get? b=some o->h'.get? b=some o)(hn:H it=none)(hL:it≠X.env.locals)
  (h1:it∈X.ex\/X.s₀.heap.objs.size<=it) (h2:∀x c,X.env.cells.lookup x=some c->c≠it) (h3:∀p∈X.pn++pins,p.1≠it):Inv X pins σ H { s with heap:=h',toks:=t' }:=by
 have nit:∀b u,H b=some u->b≠it:=λb u e z=>by rw[z,hn]at e;cases e
 refine I.step (g':=s.gens) (d':=s.drawn) (ch:=[it]) (λb hb=>?_) (λb o _ _ hc e _=>k b o (λz=>hc (by simp[z])) e) (λb o _ _ hc e _=>⟨o.slots,k b o (λz=>hc (by simp[z])) e⟩) (λ_ _ _ _ n=>n)
  (λb o hc e=>⟨o,k b o (λz=>hc (by simp[z])) e⟩) (λ_ _ e=>e) (λ_ _ _ e=>e) (λb ps e=>⟨#[],by rw[e];simp⟩) (λm hm=>?_) (λb u e=>?_) I.bare
 ·have e:b=it:=by simpa using hb
  subst e;exact⟨h1,hL,h2,h3⟩
 ·obtain⟨o,es,ep,ho,r⟩:=hm;exact⟨o,es,ep,k _ o (xv hL) ho,r⟩
 ·refine(I.hok b u e).stay (λc v hc q=>k c v ?_ q) (λ_ q=>q) λ_ _ q=>q
  rcases hc with z|z
  ·rw[z];exact nit b u e
  ·exact nit c _ z
def Inv.tok(I:Inv X pins σ H s)(t:Nat):Inv X pins σ H { s with toks:=t }:=I.un (h':=s.heap) (t':=t) Un.refl I.hok
def Inv.kept{t':Nat}(I:Inv X pins σ H s)(k:∀b u,s.heap.get? b=some u->h'.get? b=some u):Inv X pins σ H { s with heap:=h',toks:=t' }:=I.un (Un.kept k) (I.hok.kept k)
def Inv.laid{t':Nat}(I:Inv X pins σ H s)(k:∀b u,s.heap.get? b=some u->h'.get? b=some u)(hp:s.heap.objs.size<=a)(new:ObjOk X.prog X.w (upd H a o) h' a o):
  Inv X pins σ (upd H a o) { s with heap:=h',toks:=t' }:=I.un (Un.laid k hp (I.hok.fresh hp)) (I.hok.laid k hp new)
def Inv.write{o:HO}{t':Nat}(I:Inv X pins σ H s)(mu:Mut (H x))(he:e=x\/H e=some (.own x))(k:∀b u,b≠e->s.heap.get? b=some u->h'.get? b=some u)(heo:∃u,h'.get? e=some u)
  (new:ObjOk X.prog X.w (upd H x o) h' x o):Inv X pins σ (upd H x o) { s with heap:=h',toks:=t' }:=I.un (Un.write mu he k heo) (I.hok.write mu he k heo new)
def Inv.pins_of(I:Inv X pins σ H s)(h:∀p∈pins',s.heap.get? p.1=some p.2/\H p.1=none/\p.1≠X.env.locals/\p.1 ∉ X.fs/\∀v,p.2.data≠.cell v):Inv X pins' σ H s:=
 ⟨I.ok,I.os,I.bare,I.base,I.loc,I.cell,I.free,I.freeC,λp hp=>(xJ.mp hp).elim (λz=>I.pin p (vq _ z)) (h p),I.hok,I.len⟩
def zLq{N:List Str}(hN:N.Nodup){i j:Nat}(a:N[i]?=some x)(b:N[j]?=some x):i=j:=by obtain⟨h1,e1⟩:=xO.mp a;obtain⟨h2,e2⟩:=xO.mp b;exact(List.getElem_inj hN).mp (e1.trans e2.symm)
def zJ6{M:Model}{A:Around}{E:Value->Shared->Prop}{i:Nat}{Q:Unit->Shared->Prop}(I:Inv X pins σ H s)(hN:X.N.Nodup)(hi:X.N[i]?=some x)(hx:Loc X.env.scope x)(r:RelV v u)
  (h:∀s',Inv X pins (σ.set i (some v)) H s'->(∃a,Heap.SameBut a s.heap s'.heap/\(a=X.env.locals\/X.env.cells.lookup x=some a))->Q () s') (hf:X.fn x=true\/X.env.scope.names.lookup x=some .local:=by first|exact .inl rfl|exact .inr rfl|assumption):wpAny M A (storeName X.env x u) Q E s:=by
 obtain⟨m,hn,hl⟩:=id I.loc;have hcls:(X.env.scope.kind == .class || (X.env.scope.kind == .module && X.env.locals != X.env.globals))=false:=by rw[I.ok.kind];rfl
 have hiσ:i<σ.length:=by rw[I.len];exact(xO.mp hi).1
 have cne:=I.cne;have tracked:∀{a:Addr}{h':Heap},(∃o,s.heap.get? a=some o/\H a=none)->Heap.SameBut a s.heap h'->HOk X.prog X.w H h':=λ{a h'} ha hs b ob e=>by
  obtain⟨_,_,hfree⟩:=ha;refine(I.hok b ob e).stay (λc w' hc q=>(hs.2 c ?_).trans q) (λ_ q=>q) λ_ _ q=>q
  rintro rfl;rcases hc with rfl|hc
  ·rw[hfree]at e;cases e
  ·rw[hfree]at hc;cases hc
 rcases hx with hk|hk
 ·refine wpAny_storeName_local hk hn (λh' hn' hs=>?_) hcls;obtain⟨oL,_,_,hoL,_⟩:=id hn;refine h _ ⟨I.ok,I.os,I.bare,⟨λb o e n hb hx=>?_,λb o e n hb hx=>?_,I.base.free,λb o e hx=>?_,I.base.tups,I.base.frzs,I.base.tbls⟩,⟨_,hn',λj y v' e1 e2 e3=>?_⟩,λy c e=>?_,I.free,I.freeC,λp hp=>?_,tracked ⟨oL,hoL,I.free⟩ hs,by simpa using I.len⟩ ⟨_,hs,.inl rfl⟩
  ·exact(hs.2 b (xu (xF (xo e) I.ok.above))).trans (I.base.keep b o e n hb hx)
  ·obtain⟨sl,e1⟩:=I.base.slot b o e n hb hx;exact⟨sl,(hs.2 b (xu (xF (xo e) I.ok.above))).trans e1⟩
  ·obtain⟨o',e1⟩:=I.base.there b o e hx;exact⟨o',(hs.2 b (xu (xF (xo e) I.ok.above))).trans e1⟩
  ·by_cases hj:j=i
   ·subst hj;rw[hi]at e1;cases e1;rw[vz hiσ]at e2;cases e2;exact⟨u,r,.inl ⟨hk,by simp⟩⟩
   ·rw[xR (xv hj)]at e2;obtain⟨u',r',q⟩:=hl j y v' e1 e2 e3;refine⟨u',r',?_⟩;rcases q with⟨k,e⟩|⟨k,c,e,z⟩
    ·refine .inl ⟨k,?_⟩;have:y≠x:=λe=>hj (zLq hN e1 (e ▸ hi))
     simp[this,e]
    ·exact .inr ⟨k,c,e,z.sameBut hs (cne y c e)⟩
  ·obtain⟨w',z⟩:=I.cell y c e;exact⟨w',z.sameBut hs (cne y c e)⟩
  ·obtain⟨e,n,ne,nf,d⟩:=I.pin p hp;exact⟨(hs.2 p.1 ne).trans e,n,ne,nf,d⟩
 ·have hfn:X.fn x=true:=by
   rcases hf with z|z
   ·exact z
   ·rw[z]at hk;cases hk
  obtain⟨c,hc⟩:=I.ok.has x (.inl hk);obtain⟨w',z⟩:=I.cell x c hc;refine wpAny_storeName_cell I.ok.kind hk hc z (λh' hc' hs=>?_);obtain⟨oc,hoc,hocd⟩:=id z;refine h { s with heap:=h' } ⟨I.ok,I.os,I.bare,⟨λb o e n hb hx=>?_,λb o e n hb hx=>?_,I.base.free,λb o e hx=>?_,I.base.tups,I.base.frzs,I.base.tbls⟩,⟨m,hn.sameBut hs (xv (cne x c hc)),λj y v' e1 e2 e3=>?_⟩,λy c' e=>?_,I.free,I.freeC,λp hp=>?_,tracked ⟨oc,hoc,I.freeC x c hc⟩ hs,by simpa using I.len⟩ ⟨c,hs,.inr hc⟩
  ·exact(hs.2 b (xu (xF (xo e) (I.ok.cab x c hfn hc)))).trans (I.base.keep b o e n hb hx)
  ·obtain⟨sl,e1⟩:=I.base.slot b o e n hb hx;exact⟨sl,(hs.2 b (xu (xF (xo e) (I.ok.cab x c hfn hc)))).trans e1⟩
  ·obtain⟨o',e1⟩:=I.base.there b o e hx;exact⟨o',(hs.2 b (xu (xF (xo e) (I.ok.cab x c hfn hc)))).trans e1⟩
  ·by_cases hj:j=i
   ·subst hj;rw[hi]at e1;cases e1;rw[vz hiσ]at e2;cases e2;exact⟨u,r,.inr ⟨.inl hk,c,hc,hc'⟩⟩
   ·rw[xR (xv hj)]at e2;obtain⟨u',r',q⟩:=hl j y v' e1 e2 e3;refine⟨u',r',?_⟩;rcases q with q|⟨k,c',e,z'⟩
    ·exact .inl q
    ·refine .inr ⟨k,c',e,z'.sameBut hs ?_⟩;rintro rfl;exact hj (zLq hN e1 (I.ok.inj _ _ _ e hc ▸ hi))
  ·by_cases hcc:c'=c
   ·subst hcc;exact⟨_,hc'⟩
   ·obtain⟨w2,z2⟩:=I.cell y c' e;exact⟨w2,z2.sameBut hs hcc⟩
  ·obtain⟨e,n,ne,nf,d⟩:=I.pin p hp;refine⟨(hs.2 p.1 ?_).trans e,n,ne,nf,d⟩;intro q;rw[q,hoc]at e;have q':oc=p.2:=xN e;exact d w' (by rw[<- q'];exact hocd)
def zFr{M:Model}{A:Around}{E:Value->Shared->Prop}{i:Nat}{Q:Unit->Shared->Prop}(I:Inv X pins σ H s)(hN:X.N.Nodup)(hi:X.N[i]?=some x)(hx:Loc X.env.scope x)(r:RelV v u)
  (h:∀s',Inv X pins (σ.set i (some v)) H s'->Q () s') (hf:X.fn x=true\/X.env.scope.names.lookup x=some .local:=by first|exact .inl rfl|exact .inr rfl|assumption):wpAny M A (storeName X.env x u) Q E s:=
 zJ6 I hN hi hx r (λs' I' _=>h s' I') hf
def Inv.call'{s':Shared}(I:Inv X pins σ H s)(ho:s'.os=s.os)(u:Un (frs X.stack) ch H H' s.heap s'.heap)(hok:HOk X.prog X.w H' s'.heap)(hg:AllBare s'.gens)
  (hch:∀b∈ch,(b∈X.ex\/X.s₀.heap.objs.size<=b)/\b≠X.env.locals/\(∀x c,X.env.cells.lookup x=some c->c≠b)/\∀p∈X.pn++pins,p.1≠b):Inv X pins σ H' s':=by
 obtain⟨h',g',d',t',o'⟩:=s';have e:o'=s.os:=ho;subst e;exact I.call (g':=g') (t':=t') (d':=d') u hok hg hch
end
abbrev XK:=Value->Option Addr->Hp->Prop
abbrev St:=List (Option V)
abbrev VK:=V->Hp->Prop
abbrev TE:=St->Hp->VK->Prop
abbrev TT:=St->Hp->(Bool->Hp->Prop)->Prop
abbrev TA:=St->Hp->(List V->Hp->Prop)->Prop
structure Ends where
 nx:St->Hp->Prop
 rt:VK
 bk:St->Hp->Prop:=λ_ _=>False
 ct:St->Hp->Prop:=λ_ _=>False
abbrev TS:=Ends->St->Hp->Prop
def EP(X:Cx)(pins:List (Addr × Obj))(σ:St)(Q:VK)(u:Value)(s':Shared):Prop:=∃v H',Inv X pins σ H' s'/\RelV v u/\Q v H'
def TP(X:Cx)(pins:List (Addr × Obj))(σ:St)(Q:Bool->Hp->Prop)(b:Bool)(s':Shared):Prop:=∃H',Inv X pins σ H' s'/\Q b H'
def AP(X:Cx)(pins:List (Addr × Obj))(σ:St)(Q:List V->Hp->Prop)(us:List Value)(s':Shared):Prop:=∃vs H',Inv X pins σ H' s'/\Vals vs us/\Q vs H'
def SP(X:Cx)(pins:List (Addr × Obj))(D:Ends)(f:Flow)(s':Shared):Prop:=
 match f with
 | .next=>∃σ' H',Inv X pins σ' H' s'/\D.nx σ' H'
 | .brk=>∃σ' H',Inv X pins σ' H' s'/\D.bk σ' H'
 | .cont=>∃σ' H',Inv X pins σ' H' s'/\D.ct σ' H'
 | .ret u=>∃v σ' H',Inv X pins σ' H' s'/\RelV v u/\D.rt v H'
def PE(X:Cx)(e:Expr)(t:TE):Prop:=
 ∀(pins:List (Addr × Obj)) (s:Shared) (σ:St) (H:Hp) (Q:VK),Inv X pins σ H s->t σ H Q->wpAny (model X.prog X.w) X.A (eval e X.env) (EP X pins σ Q) X.xe s
def PT(X:Cx)(e:Expr)(t:TT):Prop:=
 ∀(pins:List (Addr × Obj)) (s:Shared) (σ:St) (H:Hp) (Q:Bool->Hp->Prop),Inv X pins σ H s->t σ H Q->wpAny (model X.prog X.w) X.A (isTrue e X.env (eval e X.env)) (TP X pins σ Q) X.xe s
def PW(X:Cx)(e:Expr)(t:TT):Prop:=
 ∀(whole:Sem Value) (pins:List (Addr × Obj)) (s:Shared) (σ:St) (H:Hp) (Q:Bool->Hp->Prop),Inv X pins σ H s->t σ H Q->wpAny (model X.prog X.w) X.A (isTrue e X.env whole) (TP X pins σ Q) X.xe s
def PW.pt(h:PW X e t):PT X e t:=h _
def PA(X:Cx)(es:List Expr)(t:TA):Prop:=
 ∀(pos:Pos) (pins:List (Addr × Obj)) (s:Shared) (σ:St) (H:Hp) (Q:List V->Hp->Prop),Inv X pins σ H s->t σ H Q->wpAny (model X.prog X.w) X.A (spliced (backTo pos (starEach es X.env))) (AP X pins σ Q) X.xe s
def PS(X:Cx)(st:Stmt)(t:TS):Prop:=
 ∀(pins:List (Addr × Obj)) (s:Shared) (σ:St) (H:Hp) (D:Ends),Inv X pins σ H s->t D σ H->wpAny (model X.prog X.w) X.A (exec st X.env) (SP X pins D) X.xe s
def PSs(X:Cx)(st:List Stmt)(t:TS):Prop:=
 ∀(pins:List (Addr × Obj)) (s:Shared) (σ:St) (H:Hp) (D:Ends),Inv X pins σ H s->t D σ H->wpAny (model X.prog X.w) X.A (execs st X.env) (SP X pins D) X.xe s
def thn{α:Type}{t:Sem α}{Q Q':α->Shared->Prop}{E:Value->Shared->Prop}(h:wpAny M A t Q E s)(hQ:∀a s,Q a s->Q' a s):wpAny M A t Q' E s:=vA h hQ λ_ _ x=>x
section
variable {X:Cx}
def tVar(i:Nat):TE:=λσ H Q=>∃v,σ[i]?=some (some v)/\Q v H
def tC(v:V):TE:=λ_ H Q=>Q v H
def yAb(hN:X.N[i]?=some x)(hv:Vis X.env.scope x)(hd:(x == ("__debug__":Str))=false:=by decide)(hcd:(x == ("__classdict__":Str))=false:=by decide):PE X (.Name x pos) (tVar i):=by
 intro pins s σ H Q I h;obtain⟨v,e,h⟩:=h;obtain⟨m,hn,hl⟩:=I.loc;obtain⟨u,r,l⟩:=hl i x v hN e hv;have fin:EP X pins σ Q u s:=⟨v,H,I,r,h⟩;rcases l with⟨hk,hm⟩|⟨hk,c,hc,hcell⟩
 ·exact wpAny_Name (wpAny_loadName_local I.ok.kind hk hn hm fin) hd
 ·rcases hk with hk|hk
  ·exact wpAny_Name (wpAny_loadName_cell I.ok.kind hk hc hcell fin) hd
  ·exact wpAny_Name (wpAny_loadName_free I.ok.kind hk hc hcell fin hcd) hd
def yAi{i j pos}:PE X (.Constant (.int i) j pos) (tC (.int i)):=λ_ _ _ H _ I h=>wpAny_Constant_int ⟨.int i,H,I.tok _,⟨_,rfl⟩,h⟩
def yCw{b j pos}:PE X (.Constant (.bool b) j pos) (tC (.bl b)):=λ_ _ _ H _ I h=>Constant_bool ⟨.bl b,H,I,rfl,h⟩
def yAd{x j pos}:PE X (.Constant (.str x) j pos) (tC (.str x)):=λ_ _ _ H _ I h=>Calls.Constant_str ⟨.str x,H,I.tok _,⟨_,rfl⟩,h⟩
def Gl(X:Cx)(x:Str):Prop:=X.env.kindOf x=some .globalImplicit
def zXj{E:Value->Shared->Prop}{pos:Pos}{Q:Value->Shared->Prop}(I:Inv X pins σ H s)(hg:Gl X x)(hm:X.mg x=some u)(h:Q u s)
  (hd:(x == ("__debug__":Str))=false:=by decide):wpAny (model X.prog X.w) X.A (eval (.Name x pos) X.env) Q E s:=
 Calls.Name_function_global I.ok.kind hg (Calls.loadGlobal_global (by rw[I.ok.glob];exact I.mod.glob.keeps I.bk) hm h) hd
def zEo{E:Value->Shared->Prop}{pos:Pos}{Q:Value->Shared->Prop}(I:Inv X pins σ H s)(hg:Gl X x)(hm:X.mg x=none)(hv:bootBuiltins x=some u)(h:Q u s)
  (hn:x≠"__name__":=by decide) (hd:(x == ("__debug__":Str))=false:=by decide):wpAny (model X.prog X.w) X.A (eval (.Name x pos) X.env) Q E s:=by
 obtain⟨mb,h1,h2⟩:=I.mod.blt;exact Calls.Name_function_global I.ok.kind hg (Calls.loadGlobal_builtin (by rw[I.ok.glob];exact I.mod.glob.keeps I.bk) hm (by rw[I.ok.blt];exact h1.keeps I.bk) ((h2 x hn).trans hv) h) hd
def zX0(hg:Gl X x)(hm:X.mg x=none)(hv:bootBuiltins x=some u)(r:RelV v u)(hn:x≠"__name__":=by decide)(hd:(x == ("__debug__":Str))=false:=by decide):PE X (.Name x pos) (tC v):=
 λ_ _ _ H _ I h=>zEo I hg hm hv ⟨v,H,I,r,h⟩ hn hd
variable {a b:Expr}{ta tb:TE}{pos:Pos}
variable {tA tB':TT}{rest:List Expr}
noncomputable def tAnd (t u:TT):TT:=λσ H Q=>t σ H λc H1=>if c=true then u σ H1 Q else Q false H1
noncomputable def tOr (t u:TT):TT:=λσ H Q=>t σ H λc H1=>if c=true then Q true H1 else u σ H1 Q
def tNot(t:TT):TT:=λσ H Q=>t σ H λc H1=>Q (!c) H1
def zWc(ha:PT X a tA):PW X (.BoolOp .And [a] pos) tA:=by
 intro wh pins s σ H Q I h;refine isTrue_and (thn (ha pins s σ H Q I h) λc s1 e=>?_);cases c with
 | true=>exact isTrue_and_nil e
 | false=>exact e
def zZw(ha:PT X a tA):PW X (.BoolOp .Or [a] pos) tA:=by
 intro wh pins s σ H Q I h;refine isTrue_or (thn (ha pins s σ H Q I h) λc s1 e=>?_);cases c with
 | false=>exact isTrue_or_nil e
 | true=>exact e
def zZy(ha:PT X a tA)(hb:PW X (.BoolOp .And (b::rest) pos) tB'):PW X (.BoolOp .And (a::b::rest) pos) (tAnd tA tB'):=by
 intro wh pins s σ H Q I h;refine isTrue_and (thn (ha pins s σ H _ I h) λc s1 hq1=>?_);obtain⟨H1,I1,q1⟩:=hq1;cases c with
 | true=>exact hb wh pins s1 σ H1 Q I1 q1
 | false=>exact⟨H1,I1,q1⟩
def yCr(ha:PT X a tA)(hb:PW X (.BoolOp .Or (b::rest) pos) tB'):PW X (.BoolOp .Or (a::b::rest) pos) (tOr tA tB'):=by
 intro wh pins s σ H Q I h;refine isTrue_or (thn (ha pins s σ H _ I h) λc s1 hq1=>?_);obtain⟨H1,I1,q1⟩:=hq1;cases c with
 | true=>exact⟨H1,I1,q1⟩
 | false=>exact hb wh pins s1 σ H1 Q I1 q1
def zZz(ha:PT X a tA):PT X (.UnaryOp .Not a pos) (tNot tA):=by intro pins s σ H Q I h;exact isTrue_not (ha pins s σ H (λc H1=>Q (!c) H1) I h)
noncomputable def zZl (ta tb:TE):TE:=λσ H Q=>ta σ H λx H1=>∃c,x=.bl c/\if c=true then tb σ H1 Q else Q (.bl false) H1
def zZi(ta:TE):TE:=λσ H Q=>ta σ H λx H1=>∃c,x=.bl c/\Q (.bl (!c)) H1
def yAf{op}(h:PE X a t):PE X (.BoolOp op [a] pos) t:=λpins s σ H Q I hw=>BoolOp_one (h pins s σ H Q I hw)
def yAn(ha:PE X a ta)(hb:PE X (.BoolOp .And (b::rest) pos) tb):PE X (.BoolOp .And (a::b::rest) pos) (zZl ta tb):=by
 intro pins s σ H Q I h;refine BoolOp_and (thn (ha pins s σ H _ I h) λv s1 hq1=>?_);obtain⟨x,H1,I1,r1,q1⟩:=hq1;obtain⟨c,rfl,q1⟩:=q1;cases r1;refine v7 ?_;cases c with
 | true=>exact hb pins s1 σ H1 Q I1 q1
 | false=>exact⟨.bl false,H1,I1,rfl,q1⟩
def yAg(ha:PE X a ta):PE X (.UnaryOp .Not a pos) (zZi ta):=by intro pins s σ H Q I h;refine UnaryOp_ (thn (ha pins s σ H _ I h) λv s1 hq1=>?_);obtain⟨x,H1,I1,r1,q1⟩:=hq1;obtain⟨c,rfl,q1⟩:=q1;cases r1;exact not_of (v7 ⟨.bl (!c),H1,I1,rfl,q1⟩)
end
def SqL(K:PySem.W.Frag)(H:Hp)(a:Addr)(xs:List V):Prop:=
 Rd H a (.lst xs) \/
  ∃(o:Obj) (its:Array Value) (n:Nat),K.lookup a=some o/\o.cls=.type "list"/\o.dict=none/\o.data=.seq its n/\its.size<=sizeLine/\Vals xs its.toList
def SqT(K:PySem.W.Frag)(H:Hp)(a:Addr)(xs:List V):Prop:=
 Rd H a (.tup xs) \/
  ∃(o:Obj) (its:Array Value) (n:Nat),K.lookup a=some o/\o.cls=.type "tuple"/\o.data=.seq its n/\its.size<=sizeLine/\Vals xs its.toList
noncomputable def absV:Value->Option V
 | .none=>some .non
 | .bool b=>some (.bl b)
 | .int i _=>some (.int i)
 | .str x _=>some (.str x)
 | .bytes b _=>some (.byt b)
 | .float b _=>some (.flt b)
 | .ref a=>some (.ref a)
 | .type n=>some (.ty n)
 | _=>none
def RelV.abs(r:RelV x u):absV u=some x:=by
 cases x with
 | non=>cases r;rfl
 | bl _=>cases r;rfl
 | int _=>obtain⟨t,rfl⟩:=r;rfl
 | str _=>obtain⟨t,rfl⟩:=r;rfl
 | byt _=>obtain⟨t,rfl⟩:=r;rfl
 | flt _=>obtain⟨t,rfl⟩:=r;rfl
 | ref _=>cases r;rfl
 | ty _=>cases r;rfl
def RelV.inj(r:RelV x u)(q:RelV y u):x=y:=xN (r.abs.symm.trans q.abs)
def Vals.inj:∀{xs ys:List V}{us:List Value},Vals xs us->Vals ys us->xs=ys
 | _,_,_,.nil,.nil=>rfl
 | _,_,_,.cons r t,.cons r' t'=>by rw[r.inj r',Vals.inj t t']
section
variable {X:Cx}{pins:List (Addr × Obj)}{σ:St}{H:Hp}{s:Shared}{a:Addr}{xs ys:List V}
def SqL.of{K:PySem.W.Frag}(h:H a=some (.lst xs)):SqL K H a xs:=.inl (.inl h)
def SqT.of{K:PySem.W.Frag}(h:H a=some (.tup xs)):SqT K H a xs:=.inl (.inl h)
def Inv.list(I:Inv X pins σ H s)(h:SqL X.K H a xs):∃its:List Value,Vals xs its/\PlainL s.heap a its.toArray/\xs.length<=sizeLine:=by
 rcases h with h|⟨o,its,n,hk,hc,hd,hs,hz,r⟩
 ·obtain⟨z,its,n,r,e⟩:=h.ok I.hok;exact⟨its,r,⟨_,n,e,rfl,rfl,rfl⟩,z⟩
 ·refine⟨its.toList,r,⟨o,n,I.kIn a o hk,hc,hd,by simpa using hs⟩,?_⟩;have e:=r.length;simp only[vf]at e;lia
def Inv.tuple(I:Inv X pins σ H s)(h:SqT X.K H a xs):∃its:List Value,Vals xs its/\IsTup s.heap a its.toArray/\xs.length<=sizeLine:=by
 rcases h with h|⟨o,its,n,hk,hc,hs,hz,r⟩
 ·obtain⟨z,its,r,p⟩:=h.ok I.hok;exact⟨its,r,p,z⟩
 ·refine⟨its.toList,r,⟨o,I.kIn a o hk,hc,n,by simpa using hs⟩,?_⟩;have e:=r.length;simp only[vf]at e;lia
def Inv.list_inj(I:Inv X pins σ H s)(h:SqL X.K H a xs)(h':SqL X.K H a ys):xs=ys:=by
 obtain⟨its,r,⟨o,n,e,_,_,d⟩,_⟩:=I.list h;obtain⟨its',r',⟨o',n',e',_,_,d'⟩,_⟩:=I.list h';rw[e]at e';cases e';rw[d]at d';injection d' with d1 _
 have:its=its':=by simpa using congrArg Array.toList d1
 subst this;exact r.inj r'
def Inv.tuple_inj(I:Inv X pins σ H s)(h:SqT X.K H a xs)(h':SqT X.K H a ys):xs=ys:=by
 obtain⟨its,r,⟨o,e,_,n,d⟩,_⟩:=I.tuple h;obtain⟨its',r',⟨o',e',_,n',d'⟩,_⟩:=I.tuple h';rw[e]at e';cases e';rw[d]at d';injection d' with d1 _
 have:its=its':=by simpa using congrArg Array.toList d1
 subst this;exact r.inj r'
end
abbrev Cx.wish(X:Cx)(E:Value->Shared->Prop):Cx:={ X with xe:=E }
abbrev Cx.nox(X:Cx):Cx:=X.wish λ_ _=>False
def Cx.Ok.wish{X:Cx}(ok:X.Ok)(E:Value->Shared->Prop):(X.wish E).Ok:=
 ⟨ok.mod,ok.kind,ok.glob,ok.blt,ok.above,ok.inj,ok.has,ok.cab,ok.hd,ok.frames,ok.stk,ok.exf,ok.bs,ok.bsz,ok.noex,ok.exfs,ok.funs,ok.frf⟩
def Cx.Ok.unwish{X:Cx}{E:Value->Shared->Prop}(ok:(X.wish E).Ok):X.Ok:=
 ⟨ok.mod,ok.kind,ok.glob,ok.blt,ok.above,ok.inj,ok.has,ok.cab,ok.hd,ok.frames,ok.stk,ok.exf,ok.bs,ok.bsz,ok.noex,ok.exfs,ok.funs,ok.frf⟩
section
variable {X:Cx}{pins:List (Addr × Obj)}{σ:St}{H:Hp}{s:Shared}{E:Value->Shared->Prop}
def Inv.wish(I:Inv X pins σ H s)(E:Value->Shared->Prop):Inv (X.wish E) pins σ H s:=⟨I.ok.wish E,I.os,I.bare,I.base,I.loc,I.cell,I.free,I.freeC,I.pin,I.hok,I.len⟩
def Inv.unwish(I:Inv (X.wish E) pins σ H s):Inv X pins σ H s:=⟨I.ok.unwish,I.os,I.bare,I.base,I.loc,I.cell,I.free,I.freeC,I.pin,I.hok,I.len⟩
def SP.unwish(h:SP (X.wish E) pins D f s'):SP X pins D f s':=by
 cases f with
 | next=>obtain⟨σ',H',I,q⟩:=h;exact⟨σ',H',I.unwish,q⟩
 | brk=>obtain⟨σ',H',I,q⟩:=h;exact⟨σ',H',I.unwish,q⟩
 | cont=>obtain⟨σ',H',I,q⟩:=h;exact⟨σ',H',I.unwish,q⟩
 | ret u=>obtain⟨v,σ',H',I,r,q⟩:=h;exact⟨v,σ',H',I.unwish,r,q⟩
def PSs.nox{st:List Stmt}{t:TS}(h:PSs X.nox st t):PSs X st t:=λpins s σ H D I hw=>
 vA (h pins s σ H D (I.wish _) hw) (λ_ _ q=>q.unwish) λ_ _ z=>False.elim z
end
section
variable {X:Cx}{st:Stmt}{rest:List Stmt}{t u:TS}{e:Expr}{te:TE}{pos:Pos}
def zZj:TS:=λD σ H=>D.nx σ H
def tSeq(t u:TS):TS:=λD σ H=>t { D with nx:=u D } σ H
def zWi:PSs X [] zZj:=λ_ _ σ H _ I h=>wpAny_execs_nil ⟨σ,H,I,h⟩
def zS7(h1:PS X st t)(h2:PSs X rest u):PSs X (st::rest) (tSeq t u):=by
 intro pins s σ H D I h;refine wpAny_execs_cons (thn (h1 pins s σ H { D with nx:=u D } I h) λf s1 q=>?_);cases f with
 | next=>
  obtain⟨σ',H',I',q⟩:=q;exact h2 pins s1 σ' H' D I' q
 | ret v=>exact q
 | brk=>exact q
 | cont=>exact q
def zWh(h1:PS X st t):PSs X [st] t:=by
 intro pins s σ H D I h;refine wpAny_execs_cons (thn (h1 pins s σ H D I h) λf s1 q=>?_);cases f with
 | next=>exact wpAny_execs_nil q
 | ret v=>exact q
 | brk=>exact q
 | cont=>exact q
def Inv.quiet(I:Inv X pins σ H s):interactive X.env=false:=by simp[interactive,I.ok.kind]
def zVs(te:TE):TS:=λD σ H=>te σ H λ_ H1=>D.nx σ H1
def zWl(he:PE X e te)(hs:swapsWith e none pos.line X.env=pure false:=by rfl):PS X (.Expr e pos) (zVs te):=by intro pins s σ H D I h;exact wpAny_Expr_any (thn (he pins s σ H _ I h) λv s1 hz1=>by obtain⟨x,H1,I1,r1,q1⟩:=hz1;exact ⟨σ,H1,I1,q1⟩) I.quiet hs
def tRet(te:TE):TS:=λD σ H=>te σ H D.rt
def yA1(he:PE X e te):PS X (.Return (some e) pos) (tRet te):=by intro pins s σ H D I h;exact wpAny_Return_some (thn (he pins s σ H _ I h) λv s1 hz2=>by obtain⟨x,H1,I1,r1,q1⟩:=hz2;exact ⟨x,σ,H1,I1,r1,q1⟩)
noncomputable def tIfS (c:TT) (t u:TS):TS:=λD σ H=>c σ H λb H1=>if b=true then t D σ H1 else u D σ H1
def yCs(hc:PT X c tc)(ha:PSs X a t)(hb:PSs X b u):PS X (.If c a b pos) (tIfS tc t u):=by
 intro pins s σ H D I h;refine wpAny_If (thn (hc pins s σ H _ I h) λd s1 hq1=>?_);obtain⟨H1,I1,q1⟩:=hq1;cases d with
 | true=>exact ha pins s1 σ H1 D I1 q1
 | false=>exact hb pins s1 σ H1 D I1 q1
end
abbrev TG:=V->St->Hp->(St->Hp->Prop)->Prop
abbrev TGs:=List V->St->Hp->(St->Hp->Prop)->Prop
def PG(X:Cx)(target:Expr)(t:TG):Prop:=
 ∀(pins:List (Addr × Obj)) (s:Shared) (σ:St) (H:Hp) (v:V) (u:Value) (Q:St->Hp->Prop),Inv X pins σ H s->RelV v u->t v σ H Q->
  wpAny (model X.prog X.w) X.A (assign target X.env u) (λ_ s'=>∃σ' H',Inv X pins σ' H' s'/\Q σ' H') X.xe s
def PGs(X:Cx)(ts:List Expr)(t:TGs):Prop:=
 ∀(pins:List (Addr × Obj)) (s:Shared) (σ:St) (H:Hp) (vs:List V) (us:List Value) (Q:St->Hp->Prop),Inv X pins σ H s->Vals vs us->t vs σ H Q->
  wpAny (model X.prog X.w) X.A (assignInOrder ((assignEach ts X.env).map (·.2)) us) (λ_ s'=>∃σ' H',Inv X pins σ' H' s'/\Q σ' H') X.xe s
abbrev TSet:=V->V->V->Hp->(Hp->Prop)->Prop
def PSet(X:Cx)(t:TSet):Prop:=
 ∀(pins:List (Addr × Obj)) (s:Shared) (σ:St) (H:Hp) (o i v:V) (ov iv u:Value) (Q:Hp->Prop),Inv X pins σ H s->RelV o ov->RelV i iv->RelV v u->t o i v H Q->
  wpAny (model X.prog X.w) X.A (setItem ov iv u) (λ_ s'=>∃H',Inv X pins σ H' s'/\Q H') X.xe s
section
variable {X:Cx}{pos:Pos}
def gName(i:Nat):TG:=λv σ H Q=>Q (σ.set i (some v)) H
def zWr(hN:X.N.Nodup)(hi:X.N[i]?=some x)(hx:Loc X.env.scope x)(hf:X.fn x=true\/X.env.scope.names.lookup x=some .local:=by first|exact .inl rfl|exact .inr rfl|assumption):PG X (.Name x pos) (gName i):=by intro pins s σ H v u Q I r h;exact wpAny_assign_Name (zFr I hN hi hx r (λs' I'=>⟨_,H,I',h⟩) hf)
def gNil:TGs:=λvs σ H Q=>vs=[]/\Q σ H
noncomputable def zY0 (t:TG) (u:TGs):TGs:=λvs σ H Q=>∃v r,vs=v::r/\t v σ H λσ' H'=>u r σ' H' Q
def zWp:PGs X [] gNil:=by intro pins s σ H vs us Q I r h;obtain⟨e,h⟩:=h;subst e;cases r;exact assignInOrder_nil ⟨σ,H,I,h⟩
def zSg(h1:PG X e t)(h2:PGs X es u)
  (hs:(assignEach (e::es) X.env).map (·.2)=assign e X.env::(assignEach es X.env).map (·.2):=by rfl):PGs X (e::es) (zY0 t u):=by
 intro pins s σ H vs us Q I r h;obtain⟨v,vr,e1,h⟩:=h;subst e1;cases r with
 | cons r rr=>
  rw[hs];refine assignInOrder_cons (thn (h1 pins s σ H _ _ _ I r h) λ_ s1 hq1=>?_);obtain⟨σ1,H1,I1,q1⟩:=hq1;exact h2 pins s1 σ1 H1 _ _ Q I1 rr q1
noncomputable def gTup (K:PySem.W.Frag) (n:Nat) (t:TGs):TG:=λv σ H Q=>∃a xs,v=.ref a/\SqT K H a xs/\xs.length=n/\t xs σ H Q
def yA9{k:Nat}{n:Nat}(hc:X.calm=true)(h:PGs X es t)
  (hn:(assignEach es X.env).length=n:=by rfl) (hst:(assignEach es X.env).findIdx? (·.1)=none:=by rfl):PG X (.Tuple es k pos) (gTup X.K n t):=by
 intro pins s σ H v u Q I r hw;obtain⟨a,xs,e1,hq,hl,hw⟩:=hw;subst e1;cases r;obtain⟨its,rv,ht,hz⟩:=I.tuple hq;refine assign_Tuple_tuple (I.ok.hd hc) ht (by simp[hn,<- hl,rv.length]) hst λh' hx=>?_
 have I1:Inv X pins σ H { s with heap:=h' }:=I.kept (t':=s.toks) λb o e=>hx b o (xu (xo e)) e
 exact h pins _ σ H xs _ Q I1 (by simpa using rv) hw
noncomputable def gSub (to ti:TE) (t:TSet):TG:=λv σ H Q=>to σ H λo H1=>ti σ H1 λi H2=>t o i v H2 λH3=>Q σ H3
def yAa(ho:PE X o to)(hi:PE X i ti)(hs:PSet X t)
  (ha:∀v,assign (.Subscript o i pos) X.env v=(do
   let ov <- holding [v] (eval o X.env)
   let iv <- holding [v,ov] (eval i X.env)
   standAt pos
   holding [v,ov,iv] (setItem ov iv v)
   release [v,ov,iv] []):=by intro _;rfl):PG X (.Subscript o i pos) (gSub to ti t):=by
 intro pins s σ H v u Q I r h;rw[ha];refine xc (xP (thn (ho pins s σ H _ I h) λov s1 hq1=>?_));obtain⟨x,H1,I1,r1,q1⟩:=hq1;refine xc (xP (thn (hi pins s1 σ H1 _ I1 q1) λiv s2 hq1=>?_));obtain⟨y,H2,I2,r2,q2⟩:=hq1;refine xc (wpAny_standAt (xc (xP (thn (hs pins s2 σ H2 x y v ov iv u _ I2 r1 r2 r q2) λ_ s3 hq1=>?_))));obtain⟨H3,I3,q3⟩:=hq1;exact wpAny_release ⟨σ,H3,I3,q3⟩
def tAsg(te:TE)(g:TG):TS:=λD σ H=>te σ H λx H1=>g x σ H1 D.nx
def zOr(he:PE X e te)(hg:PG X tg g)(hs:swapsWithSole [tg] e pos.line X.env=pure false:=by rfl)(hw:swappedStores [tg] e X.env=pure none:=by rfl)
  (h1:(assignEach [tg] X.env).map (·.2)=[assign tg X.env]:=by rfl):PS X (.Assign [tg] e pos) (tAsg te g):=by
 intro pins s σ H D I h;refine wpAny_Assign_stores (thn (he pins s σ H _ I h) λv s1 hq1=>?_) hs hw;obtain⟨x,H1,I1,r1,q1⟩:=hq1;rw[h1];exact thn (hg pins s1 σ H1 x v _ I1 r1 q1) λ_ s2 q=>q
def yA0{i:Nat}(hN:X.N.Nodup)(hi:X.N[i]?=some x)(hx:Loc X.env.scope x)(he:PE X e te)(hs:swapsWith e (some (.Name x pos')) pos.line X.env=pure false:=by rfl)(hf:X.fn x=true\/X.env.scope.names.lookup x=some .local:=by first|exact .inl rfl|exact .inr rfl|assumption):
  PS X (.Assign [.Name x pos'] e pos) (tAsg te (gName i)):=by
 intro pins s σ H D I h;refine wpAny_Assign_Name (thn (he pins s σ H _ I h) λv s1 hq1=>?_) hs;obtain⟨y,H1,I1,r1,q1⟩:=hq1;exact zFr I1 hN hi hx r1 (λs2 I2=>⟨_,H1,I2,q1⟩) hf
noncomputable def tPar (i j:Nat) (ta:TA):TS:=λD σ H=>ta σ H λvs H1=>∃v w,vs=[v,w]/\D.nx ((σ.set i (some v)).set j (some w)) H1
def yA2{i j:Nat}{a b:Expr}{ta:TA}{px py pt:Pos}{kt k2 pt2}(hc:X.calm=true)(hN:X.N.Nodup)(hi:X.N[i]?=some x)(hj:X.N[j]?=some y)(hij:i≠j)
  (hx:X.env.scope.names.lookup x=some .local) (hy:X.env.scope.names.lookup y=some .local) (ha:PA X [a,b] ta)
  (hw:swappedStores [.Tuple [.Name x px,.Name y py] kt pt] (.Tuple [a,b] k2 pt2) X.env=pure (some [x,y]))
  (hs:swapsWithSole [.Tuple [.Name x px,.Name y py] kt pt] (.Tuple [a,b] k2 pt2) pos.line X.env=pure false:=by rfl):
  PS X (.Assign [.Tuple [.Name x px,.Name y py] kt pt] (.Tuple [a,b] k2 pt2) pos) (tPar i j ta):=by
 intro pins s σ H D I h;rw[exec_Assign_arm];refine xc (wpAny_standAt ?_);rw[hs];refine xc (xh ?_);rw[xg (by decide)];refine xc (Tuple_ (thn (ha _ pins s σ H _ I h) λus s1 hq1=>?_));obtain⟨vs,H1,I1,r1,q1⟩:=hq1;obtain⟨v,w,e1,q1⟩:=q1;subst e1;obtain⟨u1,u2,rfl,rv,rw'⟩:∃u1 u2,us=[u1,u2]/\RelV v u1/\RelV w u2:=by
  cases r1 with
  | cons p q=>
   cases q with
   | cons p' q'=>
    cases q';exact⟨_,_,rfl,p,p'⟩
 refine xW ?_ (by show 2<=sizeLine;decide);have I2:Inv X pins σ H1 { s1 with heap:=s1.heap.push { cls:=.type "tuple",data:=.seq [u1,u2].toArray } }:=I1.kept (t':=s1.toks) λb o e=>xq _ e
 rw[hw];refine xc (xh ?_);show wpAny (model X.prog X.w) X.A (do rule "assign.swapped-stores";let items <- unpackItems (.ref s1.heap.objs.size) 2 none;assignInOrder [λv=>bindName X.env y v,λv=>bindName X.env x v] items.reverse;pure Flow.next) _ _ _;refine xc (vt (xc (unpackItems_tuple (items:=#[u1,u2]) (I.ok.hd hc) (IsTup.new s1.heap _) λh' hx'=>?_)));have I3:=I2.kept (h':=h') (t':=s1.toks) λb o e=>hx' b o (xu (xo e)) e
 show wpAny _ _ (assignInOrder [λv=>bindName X.env y v,λv=>bindName X.env x v] [u2,u1] >>= λ_=>pure Flow.next) _ _ _;refine xc (assignInOrder_cons (wpAny_bindName (zFr I3 hN hj (.inl hy) rw' (λs2 I4=>?_) (.inr hy))));refine assignInOrder_cons (wpAny_bindName (zFr I4 hN hi (.inl hx) rv (λs3 I5=>assignInOrder_nil (xh ?_)) (.inr hx)));rw[List.set_comm _ _ (xv hij)]at I5;exact⟨_,H1,I5,q1⟩
noncomputable def zUb (c:TT) (tb:TS):TS:=λD σ H=>∃W:Nat->St->Hp->Prop,(∃m,W m σ H)/\∀m σ H,W m σ H->
 c σ H λb H1=>if b=true then ∃N:St->Hp->Prop,(∀σ' H',N σ' H'->∃m',m'<m/\W m' σ' H')/\tb { D with nx:=N,ct:=N,bk:=D.nx } σ H1 else D.nx σ H1
def zS8(hp:PassesOwn (model X.prog X.w) X.A X.env X.xe)(hc:PT X c tc)(hb:PSs X body tb):PS X (.While c body [] pos) (zUb tc tb):=by
 intro pins s σ H D I h;obtain⟨W,⟨m0,w0⟩,turn⟩:=h;refine wpAny_While (codeAny_whileLoop (λn s'=>∃σ' H',Inv X pins σ' H' s'/\W n σ' H') ?_ m0 ⟨σ,H,I,w0⟩);rintro n s1 ⟨σ1,H1,I1,w1⟩;refine uI hp (thn (hc pins s1 σ1 H1 _ I1 (turn n σ1 H1 w1)) λb s2 hq1=>?_);obtain⟨H2,I2,q2⟩:=hq1;cases b with
 | true=>
  obtain⟨N,hN,q2⟩:=q2;rw[xf rfl];refine uI hp (thn (hb pins s2 σ1 H2 _ I2 q2) λf s3 q3=>?_);cases f with
  | next=>
   obtain⟨σ3,H3,I3,n3⟩:=q3;obtain⟨m',hm,w3⟩:=hN σ3 H3 n3;exact⟨m',hm,σ3,H3,I3,w3⟩
  | cont=>
   obtain⟨σ3,H3,I3,n3⟩:=q3;obtain⟨m',hm,w3⟩:=hN σ3 H3 n3;exact⟨m',hm,σ3,H3,I3,w3⟩
  | brk=>exact q3
  | ret v=>exact q3
 | false=>
  rw[xg vB];exact wpAny_execs_nil ⟨σ1,H2,I2,q2⟩
end
structure It where
 go:Nat->Hp->Prop
 yld:Nat->Hp->V->Hp->Prop
 stop:Nat->Hp->Prop
def FpOk(X:Cx)(pins:List (Addr × Obj))(H:Hp)(b:Addr):Prop:=
 H b=none/\b≠X.env.locals/\b ∉ X.fs/\(b∈X.ex\/X.s₀.heap.objs.size<=b)/\(∀x c,X.env.cells.lookup x=some c->c≠b)/\∀p∈X.pn++pins,p.1≠b
def Inv.fpOk{H':Hp}{s:Shared}(I:Inv X pins σ H s)(hb:s.heap.objs.size<=b)(hn:H' b=none):FpOk X pins H' b:=by
 refine⟨hn,uJ (xF I.lt hb),I.nofs hb,.inr (xm I.sz hb),λx c e z=>?_,λp hp z=>?_⟩
 ·obtain⟨v,q⟩:=I.cell x c e;exact absurd (xF q.lt (by rw[z];exact hb)) (vy _)
 ·exact absurd (xF (xo (I.pin p hp).1) (by rw[z];exact hb)) (vy _)
structure Turn (P:Program) (w:World) (K:PySem.W.Frag) (tg:Expr) (J:It) (fp:List Addr) (it:Addr) (tn:Nat->Heap->Prop):Prop where
 mem:it∈fp
 obj:∀i h,tn i h->∀b∈fp,∃o,h.get? b=some o/\∀v,o.data≠.cell v
 keep:∀i h h',tn i h->(∀b∈fp,∀o,h.get? b=some o->h'.get? b=some o)->tn i h'
 item:∀(X:Cx),X.prog=P->X.w=w->X.K=K->X.calm=true->∀(i:Nat) (pins:List (Addr × Obj)) (s:Shared) (σ:St) (H:Hp) (E:Value->Shared->Prop),Inv X pins σ H s->(∀b∈fp,FpOk X pins H b)->tn i s.heap->J.go i H->
  wpAny (model P w) X.A (pyNext (.ref it)) (λr s1=>∃u,r=some u /\
   wpAny (model P w) X.A (letOwnedTupleGo tg (.ref it) u) (λ_ s2=>∃x H',Inv X pins σ H' s2/\RelV x u/\J.yld i H x H'/\tn (i+1) s2.heap/\∀b∈fp,H' b=none) E s1) E s
 done:∀(X:Cx),X.prog=P->X.w=w->X.K=K->X.calm=true->∀(i:Nat) (pins:List (Addr × Obj)) (s:Shared) (σ:St) (H:Hp) (E:Value->Shared->Prop),Inv X pins σ H s->(∀b∈fp,FpOk X pins H b)->tn i s.heap->J.stop i H->
  wpAny (model P w) X.A (pyNext (.ref it)) (λr s1=>r=none/\Inv X pins σ H s1) E s
 self:∀(A:Around) (i:Nat) (s:Shared) (Q:Value->Shared->Prop) (E:Value->Shared->Prop),tn i s.heap->Q (.ref it) s->wpAny (model P w) A (pyIter (.ref it)) Q E s
abbrev TI:=St->Hp->(It->Hp->Prop)->Prop
def PIE(X:Cx)(pins:List (Addr × Obj))(σ:St)(tg:Expr)(R:It->Hp->Prop)(itv:Value)(s2:Shared):Prop:=
 ∃(it:Addr) (fp:List Addr) (tn:Nat->Heap->Prop) (J:It) (H':Hp),itv=.ref it/\Inv X pins σ H' s2/\Turn X.prog X.w X.K tg J fp it tn/\tn 0 s2.heap/\(∀b∈fp,FpOk X pins H' b)/\R J H'
def PI(X:Cx)(tg iter:Expr)(wi:TI):Prop:=
 ∀(pins:List (Addr × Obj)) (s:Shared) (σ:St) (H:Hp) (R:It->Hp->Prop),Inv X pins σ H s->wi σ H R->
  wpAny (model X.prog X.w) X.A (eval iter X.env) (λv s1=>wpAny (model X.prog X.w) X.A (pyIter v) (PIE X pins σ tg R) X.xe s1) X.xe s
def zQ7{M:Model}{A:Around}{E:Value->Shared->Prop}{s:Shared}{tg:Expr}{u:Value}{o:Obj}{Q:Unit->Shared->Prop}(ho:s.heap.get? it=some o)(hc:o.cls=.type n)(hd:o.data=.fields vs)
    (hn:["enumerate","zip","dict_itemiterator","dict_reverseitemiterator","odict_iterator","itertools.zip_longest","itertools.pairwise"].contains n=false) (hQ:Q () s):wpAny M A (letOwnedTupleGo tg (.ref it) u) Q E s:=by
  unfold letOwnedTupleGo;cases tg <;> first
    | exact xh hQ
    | (cases u <;> first
        | exact xh hQ
        | (refine xc (wpAny_load ho ?_)
           rw[hc,hd];show wpAny M A (if(["enumerate","zip","dict_itemiterator","dict_reverseitemiterator","odict_iterator","itertools.zip_longest","itertools.pairwise"].contains n && vs[0]? == some (rawInt _))=true then _ else _) Q E s;rw[xg (by intro h;rw[hn,Bool.false_and]at h;cases h)];exact xh hQ))
noncomputable def Itl (K:PySem.W.Frag) (a:Addr):It:=
 ⟨λi H=>∃xs x,SqL K H a xs/\xs[i]?=some x,λi H x H'=>H'=H/\∀xs,SqL K H a xs->xs[i]?=some x,λi H=>∃xs,SqL K H a xs/\xs.length<=i⟩
noncomputable def Itt (K:PySem.W.Frag) (a:Addr):It:=
 ⟨λi H=>∃xs x,SqT K H a xs/\xs[i]?=some x,λi H x H'=>H'=H/\∀xs,SqT K H a xs->xs[i]?=some x,λi H=>∃xs,SqT K H a xs/\xs.length<=i⟩
noncomputable def Itr (lo:Int) (n:Nat):It:=⟨λi _=>i<n,λi H x H'=>H'=H/\x=.int (lo+i),λi _=>n<=i⟩
def zNx{P:Program}{w:World}{K:PySem.W.Frag}{tg:Expr}(a it:Addr):Turn P w K tg (Itl K a) [it] it (λi h=>h.IsListIter it a i) where
 mem:=by simp
 obj:=λi h st b hb=>by
  have e:b=it:=by simpa using hb
  subst e;obtain⟨o,e,c,d⟩:=st;exact⟨o,e,λv z=>by rw[d]at z;cases z⟩
 keep:=λi h h' st k=>st.at λo e=>k it (by simp) o e
 item:=by
  intro X hP hw hK hc i pins s σ H E I hf st hg;subst hP hw hK;obtain⟨xs,x,hq,hx⟩:=hg;obtain⟨its,rv,p,hz⟩:=I.list hq;obtain⟨u,hu,ru⟩:=rv.get hx;obtain⟨f0,f1,f2,f3,f4,f5⟩:=hf it (by simp);refine wpAny_pyNext_list_item st p.isList (x:=u) (by simpa using hu) λh' st' sb=>?_
  have I1:Inv X pins σ H { s with heap:=h' }:=I.turned (t':=s.toks) (λb o hb e=>(sb.2 b hb).trans e) f0 f1 f3 f4 f5;obtain⟨o,e,c,d⟩:=id st';exact⟨u,rfl,zQ7 (s:={ s with heap:=h' }) e c d (by decide) ⟨x,H,I1,ru,⟨rfl,λys hy=>by rw[I.list_inj hy hq];exact hx⟩,st',λb hb=>(hf b hb).1⟩⟩
 done:=by intro X hP hw hK hc i pins s σ H E I hf st hg;subst hP hw hK;obtain⟨xs,hq,hx⟩:=hg;obtain⟨its,rv,p,hz⟩:=I.list hq;obtain⟨f0,f1,f2,f3,f4,f5⟩:=hf it (by simp);have hl:=rv.length;exact wpAny_pyNext_list_end (I.ok.hd hc) st p.isList (by simp;lia) λh' eb=>⟨rfl,I.turned (t':=s.toks) (λb o hb e=>eb b o hb e) f0 f1 f3 f4 f5⟩
 self:=λ_ _ _ _ _ st h=>wpAny_pyIter_listiter st h
def zMs{P:Program}{w:World}{K:PySem.W.Frag}{tg:Expr}(a it:Addr):Turn P w K tg (Itt K a) [it] it (λi h=>h.IsTupleIter it a i) where
 mem:=by simp
 obj:=λi h st b hb=>by
  have e:b=it:=by simpa using hb
  subst e;obtain⟨o,e,c,d⟩:=st;exact⟨o,e,λv z=>by rw[d]at z;cases z⟩
 keep:=λi h h' st k=>st.at λo e=>k it (by simp) o e
 item:=by
  intro X hP hw hK hc i pins s σ H E I hf st hg;subst hP hw hK;obtain⟨xs,x,hq,hx⟩:=hg;obtain⟨its,rv,p,hz⟩:=I.tuple hq;obtain⟨u,hu,ru⟩:=rv.get hx;obtain⟨f0,f1,f2,f3,f4,f5⟩:=hf it (by simp);refine wpAny_pyNext_tuple_item st (show s.heap.IsTuple a its.toArray from p) (x:=u) (by simpa using hu) λh' st' sb=>?_
  have I1:Inv X pins σ H { s with heap:=h' }:=I.turned (t':=s.toks) (λb o hb e=>(sb.2 b hb).trans e) f0 f1 f3 f4 f5;obtain⟨o,e,c,d⟩:=id st';exact⟨u,rfl,zQ7 (s:={ s with heap:=h' }) e c d (by decide) ⟨x,H,I1,ru,⟨rfl,λys hy=>by rw[I.tuple_inj hy hq];exact hx⟩,st',λb hb=>(hf b hb).1⟩⟩
 done:=by intro X hP hw hK hc i pins s σ H E I hf st hg;subst hP hw hK;obtain⟨xs,hq,hx⟩:=hg;obtain⟨its,rv,p,hz⟩:=I.tuple hq;obtain⟨f0,f1,f2,f3,f4,f5⟩:=hf it (by simp);have hl:=rv.length;exact wpAny_pyNext_tuple_end (I.ok.hd hc) st (show s.heap.IsTuple a its.toArray from p) (by simp;lia) λh' eb=>⟨rfl,I.turned (t':=s.toks) (λb o hb e=>eb b o hb e) f0 f1 f3 f4 f5⟩
 self:=λ_ _ _ _ _ st h=>wpAny_pyIter_tupleiter st h
def zMt{P:Program}{w:World}{K:PySem.W.Frag}{tg:Expr}(it:Addr)(lo:Int)(n:Nat):Turn P w K tg (Itr lo n) [it] it (λi h=>IsRangeIter h it (lo+(i:Nat)*1) ((n:Int)-(i:Nat)) 1) where
 mem:=by simp
 obj:=λi h st b hb=>by
  have e:b=it:=by simpa using hb
  subst e;exact⟨_,st,λv z=>by
   have z':Data.fields _=Data.cell v:=z;cases z'⟩
 keep:=λi h h' st k=>k it (by simp) _ st
 item:=by
  intro X hP hw hK hc i pins s σ H E I hf st hg;subst hP hw hK;obtain⟨f0,f1,f2,f3,f4,f5⟩:=hf it (by simp);have W:=Walks.range (prog:=X.prog) (w:=X.w) (I.ok.hd hc) it lo 1 n;refine W.item i s _ _ hg st λv h' tk hv st' kk=>?_
  obtain⟨t,rfl⟩:=hv;have I1:Inv X pins σ H { s with heap:=h',toks:=tk }:=I.turned (λb o hb e=>kk b o (by simpa using hb) e) f0 f1 f3 f4 f5;refine⟨_,rfl,zQ7 (s:={ s with heap:=h',toks:=tk }) (n:="range_iterator") st' rfl rfl (by decide) ⟨.int (lo+i),H,I1,⟨t,?_⟩,⟨rfl,rfl⟩,st',λb hb=>(hf b hb).1⟩⟩;rw[Int.mul_one]
 done:=by intro X hP hw hK hc i pins s σ H E I hf st hg;subst hP hw hK;obtain⟨f0,f1,f2,f3,f4,f5⟩:=hf it (by simp);exact wpAny_pyNext_range_end (I.ok.hd hc) st (by have:n<=i:=hg;lia) λh' eb=>⟨rfl,I.turned (t':=s.toks) (λb o hb e=>eb b o hb e) f0 f1 f3 f4 f5⟩
 self:=λ_ _ _ _ _ st h=>wpAny_pyIter_rangeiter st h
section
variable {X:Cx}{tg:Expr}
def zRx{R:It->Hp->Prop}{E:Value->Shared->Prop}{lo hi:Int}{t u v:Tok}{tk:Nat}(I:Inv X pins σ H s)(h1:-(2 ^ 62)<=lo)(h2:lo<2 ^ 62)(h3:-(2 ^ 62)<=hi)(h4:hi<2 ^ 62)
  (q:R (Itr lo (hi-lo).toNat) H):wpAny (model X.prog X.w) X.A (pyIter (.ref s.heap.objs.size)) (PIE X pins σ tg R) E { s with heap:=s.heap.push { cls:=.type "range",data:=.fields #[.int lo t,.int hi u,.int 1 v] },toks:=tk }:=by
 refine wpAny_pyIter_range (IsRange.new ..) (small_one h1 h2 h3 h4) ?_;have I1:Inv X pins σ H { s with heap:=s.heap.push { cls:=.type "range",data:=.fields #[.int lo t,.int hi u,.int 1 v] },toks:=tk }:=I.kept λb o e=>xq _ e
 refine⟨(s.heap.push { cls:=.type "range",data:=.fields #[.int lo t,.int hi u,.int 1 v] }).objs.size,[(s.heap.push { cls:=.type "range",data:=.fields #[.int lo t,.int hi u,.int 1 v] }).objs.size],_,_,H,rfl,
  I1.kept (t':=tk) λb o e=>xq _ e,zMt _ lo (hi-lo).toNat,?_,λb hb=>?_,q⟩
 ·have e1:lo+((0:Nat):Int)*1=lo:=by simp
  have e2:(((hi-lo).toNat:Nat):Int)-((0:Nat):Int)=Builtin.Range.rangeSize lo hi 1:=by rw[rangeSize_one];split <;> lia
  show IsRangeIter _ _ (lo+((0:Nat):Int)*1) ((((hi-lo).toNat:Nat):Int)-((0:Nat):Int)) 1;rw[e1,e2];exact xy _ rfl
 ·have e:b=(s.heap.push { cls:=.type "range",data:=.fields #[.int lo t,.int hi u,.int 1 v] }).objs.size:=by simpa using hb
  subst e;exact I1.fpOk (xi _) (I1.hok.fresh (xi _))
noncomputable def zXw (ta:TA):TI:=λσ H R=>ta σ H λvs H1=>∃j:Int,vs=[.int j]/\-(2 ^ 62)<=j/\j<2 ^ 62/\R (Itr 0 j.toNat) H1
def zOy(hg:Gl X "range")(hm:X.mg "range"=none)(ha:PA X [a] ta)(hs:starEach [a] X.env=[(false,eval a X.env)]:=by rfl):PI X tg (.Call (.Name "range" p) [a] [] pos) (zXw ta):=by
 intro pins s σ H R I h;refine Call_ (zEo I hg hm boot_range (u4 (thn (ha pos pins s σ H _ I h) λus s1 hq1=>?_) hs rfl));obtain⟨vs,H1,I1,r1,q1⟩:=hq1;obtain⟨j,e,q1,q2,q⟩:=q1;subst e;cases r1 with
 | cons r rr=>
  cases rr;obtain⟨t,rfl⟩:=r;exact call_range_1 (zRx I1 (by nofun) (by nofun) q1 q2 (by simpa using q))
noncomputable def tFor (wi:TI) (g:TG) (tb:TS):TS:=λD σ H=>wi σ H λJ H1=>∃W:Nat->Nat->St->Hp->Prop,(∃m,W 0 m σ H1)/\∀i m σ H,W i m σ H->
 (J.stop i H/\D.nx σ H)\/(J.go i H/\∃N:St->Hp->Prop,(∀σ' H',N σ' H'->∃m',m'<m/\W (i+1) m' σ' H')/\∀x H',J.yld i H x H'->g x σ H' λσ2 H2=>tb { D with nx:=N,ct:=N,bk:=D.nx } σ2 H2)
noncomputable def zJc (fp:List Addr) (h:Heap):List (Addr × Obj):=fp.filterMap λb=>(h.get? b).map λo=>(b,o)
def zDv{h:Heap}(hb:b∈fp)(e:h.get? b=some o):(b,o)∈zJc fp h:=u5.mpr ⟨b,hb,by rw[e];rfl⟩
def zP9{h:Heap}{p:Addr × Obj}(hp:p∈zJc fp h):p.1∈fp/\h.get? p.1=some p.2:=by
 obtain⟨b,hb,e⟩:=u5.mp hp;cases q:h.get? b with
 | none=>rw[q]at e;cases e
 | some o=>
  rw[q]at e;have e':(b,o)=p:=xN e;subst e';exact⟨hb,q⟩
def Inv.pinned{s:Shared}(I:Inv X pins σ H s)(hf:∀b∈fp,FpOk X pins H b)(ho:∀b∈fp,∃o,s.heap.get? b=some o/\∀v,o.data≠.cell v):Inv X (pins++zJc fp s.heap) σ H s:=
 I.pins_of λp hp=>(xJ.mp hp).elim (λz=>I.pin p (xZ _ z)) λz=>by
  obtain⟨hb,e⟩:=zP9 z;obtain⟨f0,f1,f2,_⟩:=hf p.1 hb;obtain⟨o,e',d⟩:=ho p.1 hb;rw[e]at e';cases e';exact⟨e,f0,f1,f2,d⟩
def Inv.unpinned(I:Inv X (pins++pl) σ H s):Inv X pins σ H s:=I.pins_of λp hp=>I.pin p (xZ _ (vq _ hp))
def yA4{pos:Pos}(hp:PassesOwn (model X.prog X.w) X.A X.env X.xe)(hc:X.calm=true)(hi:PI X tg iter wi)(hg:PG X tg g)(hb:PSs X body tb)
  (hs:∀x,foldedSetIterable iter X.env x=pure x:=by intro _;rfl):PS X (.For tg iter body [] pos) (tFor wi g tb):=by
 intro pins s σ H D I h;refine wpAny_For (thn (hi pins s σ H _ I h) λv s1 h1=>thn h1 λitv s2 h2=>?_) hs;obtain⟨it,fp,tn,J,H2,e,I2,T,st2,f2,W,⟨m0,w0⟩,turn⟩:=h2;subst e
 -- what stays true of the iterator's objects through the loop
 have stat:∀{H':Hp},(∀b∈fp,H' b=none)->∀b∈fp,FpOk X pins H' b:=λhn b hb=>⟨hn b hb,(f2 b hb).2⟩
 refine codeAny_forLoop_any (λn s'=>∃i σ' H',Inv X pins σ' H' s'/\tn i s'.heap/\(∀b∈fp,H' b=none)/\W i n σ' H') ?_ m0 ⟨0,σ,H2,I2,st2,λb hb=>(f2 b hb).1,w0⟩;rintro n s3 ⟨i,σ3,H3,I3,st3,fr3,w3⟩;rcases turn i n σ3 H3 w3 with⟨stop,qn⟩|⟨go,N,hN,step⟩
 ·refine uI hp (thn (T.done X rfl rfl rfl hc i pins s3 σ3 H3 X.xe I3 (stat fr3) st3 stop) λr s4 hq1=>?_);obtain⟨hr,I4⟩:=hq1;subst hr;exact wpAny_execs_nil ⟨σ3,H3,I4,qn⟩
 ·refine uI hp (thn (T.item X rfl rfl rfl hc i pins s3 σ3 H3 X.xe I3 (stat fr3) st3 go) λr s4 hq1=>?_);obtain⟨u,hr,h4⟩:=hq1;subst hr;refine uI hp (thn h4 λ_ s5 hq1=>?_);obtain⟨x,H5,I5,r5,y5,st5,fr5⟩:=hq1;have I5':=I5.pinned (stat fr5) (T.obj _ _ st5);refine uI hp (thn (hg _ s5 σ3 H5 x u _ I5' r5 (step x H5 y5)) λ_ s6 hq1=>?_);obtain⟨σ6,H6,I6,q6⟩:=hq1;refine uI hp (thn (hb _ s6 σ6 H6 _ I6 q6) λf s7 q7=>?_);have again:∀{σ7:St}{H7:Hp},Inv X (pins++zJc fp s5.heap) σ7 H7 s7->N σ7 H7->∃m,m<n/\∃i σ' H',Inv X pins σ' H' s7/\tn i s7.heap/\(∀b∈fp,H' b=none)/\W i m σ' H':=λ{σ7 H7} I7 n7=>by
   obtain⟨m',hm,w7⟩:=hN σ7 H7 n7;refine⟨m',hm,i+1,σ7,H7,I7.unpinned,T.keep _ _ _ st5 λb hb o e=>(I7.pin (b,o) (xZ _ (xZ _ (zDv hb e)))).1,λb hb=>?_,w7⟩;obtain⟨o,e,d⟩:=T.obj _ _ st5 b hb;exact(I7.pin (b,o) (xZ _ (xZ _ (zDv hb e)))).2.1
  cases f with
  | next=>obtain⟨σ7,H7,I7,n7⟩:=q7;exact again I7 n7
  | cont=>obtain⟨σ7,H7,I7,n7⟩:=q7;exact again I7 n7
  | brk=>obtain⟨σ7,H7,I7,q7⟩:=q7;exact⟨σ7,H7,I7.unpinned,q7⟩
  | ret v=>obtain⟨x7,σ7,H7,I7,r7,q7⟩:=q7;exact⟨x7,σ7,H7,I7.unpinned,r7,q7⟩
end
abbrev R2:=V->V->Hp->VK->Prop
def OpR(X:Cx)(f:Value->Value->Sem Value)(r:R2):Prop:=
 ∀(pins:List (Addr × Obj)) (s:Shared) (σ:St) (H:Hp) (x y:V) (v u:Value) (Q:VK),Inv X pins σ H s->RelV x v->RelV y u->r x y H Q->
  wpAny (model X.prog X.w) X.A (f v u) (EP X pins σ Q) X.xe s
def zBl(X:Cx)(f:Value)(r:List V->Hp->VK->Prop):Prop:=
 ∀(pins:List (Addr × Obj)) (s:Shared) (σ:St) (H:Hp) (xs:List V) (us:List Value) (Q:VK),Inv X pins σ H s->Vals xs us->r xs H Q->
  wpAny (model X.prog X.w) X.A (call f us) (EP X pins σ Q) X.xe s
def TruR(X:Cx)(r:V->Hp->(Bool->Hp->Prop)->Prop):Prop:=
 ∀(pins:List (Addr × Obj)) (s:Shared) (σ:St) (H:Hp) (x:V) (v:Value) (Q:Bool->Hp->Prop),Inv X pins σ H s->RelV x v->r x H Q->
  wpAny (model X.prog X.w) X.A (truthy v) (TP X pins σ Q) X.xe s
noncomputable def tOp (r:R2) (ta tb:TE):TE:=λσ H Q=>ta σ H λx H1=>tb σ H1 λy H2=>r x y H2 Q
noncomputable def rI (C:Int->Int->Prop) (g:Int->Int->V):R2:=λx y H Q=>∃i j,x=.int i/\y=.int j/\C i j/\Q (g i j) H
noncomputable def rI0 (g:Int->Int->V):R2:=λx y H Q=>∃i j,x=.int i/\y=.int j/\Q (g i j) H
section
variable {X:Cx}{a b c:Expr}{ta tb tc:TE}{pos:Pos}
def binT(ha:PE X a ta)(hb:PE X b tb){R:V->V->Hp->Prop}(I:Inv X pins σ H s)
  (h:ta σ H λx H1=>tb σ H1 λy H2=>R x y H2) {Q:Value->Shared->Prop}{f:Value->Value->Sem Value}
  (hf:∀v u s2 x y H2,Inv X pins σ H2 s2->RelV x v->RelV y u->R x y H2->wpAny (model X.prog X.w) X.A (f v u) Q X.xe s2):
  wpAny (model X.prog X.w) X.A (eval a X.env) (λv s₁=>wpAny (model X.prog X.w) X.A (eval b X.env) (λu s₂=>wpAny (model X.prog X.w) X.A (f v u) Q X.xe s₂) X.xe s₁) X.xe s:=by
 refine thn (ha pins s σ H _ I h) λv s1 hq1=>?_
 obtain⟨x,H1,I1,r1,q1⟩:=hq1;refine thn (hb pins s1 σ H1 _ I1 q1) λu s2 hq1=>?_
 obtain⟨y,H2,I2,r2,q2⟩:=hq1;exact hf v u s2 x y H2 I2 r1 r2 q2
def yCt(ho:OpR X (binaryOp op) r)(ha:PE X a ta)(hb:PE X b tb):PE X (.BinOp a op b pos) (tOp r ta tb):=by intro pins s σ H Q I h;exact wpAny_BinOp (binT ha hb I h λv u s2 x y H2 I2 rx ry q=>ho pins s2 σ H2 x y v u Q I2 rx ry q)
def opI{f:Value->Value->Sem Value}{C:Int->Int->Prop}{g:Int->Int->Int}
  (rule:∀(i j:Int) (t u:Tok) (s:Shared) (Q:Value->Shared->Prop) (E:Value->Shared->Prop),C i j->Q (.int (g i j) s.toks) { s with toks:=s.toks+1 }->wpAny (model X.prog X.w) X.A (f (.int i t) (.int j u)) Q E s):
  OpR X f (rI C λi j=>.int (g i j)):=by
 intro pins s σ H x y v u Q I rx ry h;obtain⟨i,j,rfl,rfl,hc,q⟩:=h;obtain⟨t,rfl⟩:=rx;obtain⟨t',rfl⟩:=ry;exact rule i j t t' s _ _ hc ⟨.int (g i j),H,I.tok _,⟨_,rfl⟩,q⟩
def opI0{f:Value->Value->Sem Value}{g:Int->Int->Int}
  (rule:∀(i j:Int) (t u:Tok) (s:Shared) (Q:Value->Shared->Prop) (E:Value->Shared->Prop),Q (.int (g i j) s.toks) { s with toks:=s.toks+1 }->wpAny (model X.prog X.w) X.A (f (.int i t) (.int j u)) Q E s):
  OpR X f (rI0 λi j=>.int (g i j)):=by
 intro pins s σ H x y v u Q I rx ry h;obtain⟨i,j,rfl,rfl,q⟩:=h;obtain⟨t,rfl⟩:=rx;obtain⟨t',rfl⟩:=ry;exact rule i j t t' s _ _ ⟨.int (g i j),H,I.tok _,⟨_,rfl⟩,q⟩
def opB0{f:Value->Value->Sem Value}{g:Int->Int->Bool}
  (rule:∀(i j:Int) (t u:Tok) (s:Shared) (Q:Value->Shared->Prop) (E:Value->Shared->Prop),Q (.bool (g i j)) s->wpAny (model X.prog X.w) X.A (f (.int i t) (.int j u)) Q E s):
  OpR X f (rI0 λi j=>.bl (g i j)):=by
 intro pins s σ H x y v u Q I rx ry h;obtain⟨i,j,rfl,rfl,q⟩:=h;obtain⟨t,rfl⟩:=rx;obtain⟨t',rfl⟩:=ry;exact rule i j t t' s _ _ ⟨.bl (g i j),H,I,rfl,q⟩
def CPow(i j:Int):Prop:=0<=j/\j<=1000000/\i.natAbs<2 ^ 64
def zMr(k:Nat):(0:Int)<=2 ^ k:=by rw[two_pow_cast];exact Int.natCast_nonneg _
def yAw:OpR X (binaryOp .Add) (rI0 λi j=>.int (i+j)):=opI0 λ_ _ _ _ _ _ _ q=>add_int q
def yAp:OpR X (binaryOp .Sub) (rI0 λi j=>.int (i-j)):=opI0 λ_ _ _ _ _ _ _ q=>sub_int q
def yAt:OpR X (binaryOp .Mod) (rI (λ_ j=>0<j) λi j=>.int (i % j)):=opI λi j _ _ _ _ _ hc q=>by
 have h1:(0:Int)<j:=hc;exact mod_int' (by nofun) (by rw[Int.fmod_eq_emod_of_nonneg i (by nofun)];exact q)
def yAs:OpR X (binaryOp .Pow) (rI CPow λi j=>.int (i ^ j.toNat)):=opI λ_ _ _ _ _ _ _ hc q=>pow_int_small hc.1 hc.2.1 hc.2.2 q
def yAr:OpR X (binaryOp .LShift) (rI CPow λi j=>.int (i*2 ^ j.toNat)):=opI λ_ _ _ _ _ _ _ hc q=>lshift_int_small hc.1 hc.2.1 hc.2.2 q
def yAq:OpR X (binaryOp .RShift) (rI (λ_ j=>0<=j) λi j=>.int (i / 2 ^ j.toNat)):=opI λi j _ _ _ _ _ hc q=>
 rshift_int hc (by rw[yM i (zMr _)];exact q)
def yAv:OpR X (binaryOp .BitAnd) (rI0 λi j=>.int (Builtin.bitAnd i j)):=opI0 λ_ _ _ _ _ _ _ q=>and_int q
def yCx:OpR X (binaryOp .BitOr) (rI0 λi j=>.int (Builtin.bitOr i j)):=opI0 λ_ _ _ _ _ _ _ q=>or_int q
def yCy:OpR X (compareOp .Gt) (rI0 λi j=>.bl (decide (j<i))):=opB0 λ_ _ _ _ _ _ _ q=>gt_int q
def yCz:OpR X (compareOp .GtE) (rI0 λi j=>.bl (decide (j<=i))):=opB0 λ_ _ _ _ _ _ _ q=>ge_int q
def nomark(b:Expr)(h:op≠.In:=by decide)(h2:op≠.NotIn:=by decide):behindInMarks op b=false:=by
 have e1:(op == CmpOp.In)=false:=by cases op <;> first|rfl|exact absurd rfl h
 have e2:(op == CmpOp.NotIn)=false:=by cases op <;> first|rfl|exact absurd rfl h2
 cases b <;> simp[behindInMarks,e1,e2]
def zWy(ho:OpR X (compareOp op) r)(ha:PE X a ta)(hb:PE X b tb)(hm:behindInMarks op b=false):PE X (.Compare a [op] [b] pos) (tOp r ta tb):=by intro pins s σ H Q I h;exact wpAny_Compare1 (binT ha hb I h λv u s2 x y H2 I2 rx ry q=>ho pins s2 σ H2 x y v u Q I2 rx ry q) hm
def zZf(t:TE):TT:=λσ H Q=>t σ H λx H'=>∃k,x=.bl k/\Q k H'
def zWg(ho:OpR X (compareOp op) r)(ha:PE X a ta)(hb:PE X b tb)(hm:behindInMarks op b=false):PT X (.Compare a [op] [b] pos) (zZf (tOp r ta tb)):=by
 intro pins s σ H Q I h;refine wpAny_isTrue_Compare1 (thn (ha pins s σ H _ I h) λv s1 ⟨x,H1,I1,r1,q1⟩=>thn (hb pins s1 σ H1 _ I1 q1) λu s2 ⟨y,H2,I2,r2,q2⟩=>
  thn (ho pins s2 σ H2 x y v u _ I2 r1 r2 q2) λc s3 ⟨z,H3,I3,r3,k,e,q3⟩=>?_) hm
 subst e;cases r3;exact v7 ⟨H3,I3,q3⟩
def TruV(K:PySem.W.Frag)(x:V)(H:Hp)(k:Bool):Prop:=
 match x with
 | .non=>k=false
 | .bl b=>k=b
 | .int i=>k=(i != 0)
 | .str y=>y.length<=sizeLine/\k=((y.length:Int) != 0)
 | .byt y=>y.size<=sizeLine/\k=((y.size:Int) != 0)
 | .ref p=>(∃xs,SqL K H p xs/\k=!xs.isEmpty)\/(∃xs,SqT K H p xs/\k=!xs.isEmpty)\/∃kvs,H p=some (.dK kvs)/\k=!kvs.isEmpty
 | _=>False
def zNa{κ:Type}{kvs:List (κ × V)}{vs:List (κ × Value)}(r:KV kvs vs):(!vs.isEmpty)=!kvs.isEmpty:=by cases r <;> rfl
def zHb{xs:List V}{its:List Value}(r:Vals xs its):(!its.toArray.isEmpty)=!xs.isEmpty:=by cases r <;> simp
def line63:(sizeLine:Nat)<2 ^ 63:=by rw[vC];decide
def zZe:TruR X (λx H Q=>∃k,TruV X.K x H k/\Q k H):=by
 intro pins s σ H x v Q I rx h;obtain⟨k,e,q⟩:=h;have hl:=line63;have hs:sizeLine=16777216:=vC;cases x with
 | non=>
  cases rx;have e':k=false:=e;subst e';exact truthy_none ⟨H,I,q⟩
 | bl b=>
  cases rx;have e':k=b:=e;subst e';exact v7 ⟨H,I,q⟩
 | int i=>
  obtain⟨t,rfl⟩:=rx;have e':k=(i != 0):=e;subst e';exact PySem.P.truthy_int ⟨H,I,q⟩
 | str y=>
  obtain⟨t,rfl⟩:=rx;obtain⟨hy,e'⟩:y.length<=sizeLine/\k=((y.length:Int) != 0):=e;subst e';exact PySem.P.truthy_str (by nofun) ⟨H,I.tok _,q⟩
 | byt y=>
  obtain⟨t,rfl⟩:=rx;obtain⟨hy,e'⟩:y.size<=sizeLine/\k=((y.size:Int) != 0):=e;subst e';exact PySem.W.truthy_bytes (by nofun) ⟨H,I.tok _,q⟩
 | ref p=>
  cases rx;have e':(∃xs,SqL X.K H p xs/\k=!xs.isEmpty)\/(∃xs,SqT X.K H p xs/\k=!xs.isEmpty)\/∃kvs,H p=some (.dK kvs)/\k=!kvs.isEmpty:=e
  rcases e' with⟨xs,hx,e'⟩|⟨xs,hx,e'⟩|⟨kvs,hx,e'⟩
  ·subst e';obtain⟨its,r,pl,hz⟩:=I.list hx;have hlen:=r.length;exact wpAny_truthy_list pl.isList (by simp only[xA];lia) ⟨H,I.tok _,by rw[zHb r];exact q⟩
  ·subst e';obtain⟨its,r,pl,hz⟩:=I.tuple hx;have hlen:=r.length;exact truthy_tuple pl (by simp only[xA];lia) ⟨H,I.tok _,by rw[zHb r];exact q⟩
  ·subst e';obtain⟨hz,hS,vs,r,m⟩:kvs.length<=sizeLine/\(p == sysModules)=false/\∃vs,KV kvs vs/\s.heap.DictOf (zAu X.prog X.w) p vs:=I.hok p _ hx
   have hlen:kvs.length=vs.length:=ue r;exact wpAny_truthy_dict hS m (by nofun) ⟨H,I.tok _,by rw[zNa r];exact q⟩
 | _=>exact(show False from e).elim
def zS4(ha:PE X a ta)(he:∀whole,isTrue a X.env whole=(do let v <- whole;standAt a.pos;holding [v] (truthy v))):
  PT X a (λσ H Q=>ta σ H λx H'=>∃k,TruV X.K x H' k/\Q k H'):=by
 intro pins s σ H Q I h;exact isTrue_plain (thn (ha pins s σ H _ I h) λv s1 hz3=>by obtain⟨x,H1,I1,r1,q1⟩:=hz3;exact zZe pins s1 σ H1 x v Q I1 r1 q1) (he _)
def zMz:OpR X (binaryOp .Add) (λx y H Q=>∃i j,x=.str i/\y=.str j/\i.length+j.length<=sizeLine/\Q (.str (i++j)) H):=by intro pins s σ H x y v u Q I rx ry h;obtain⟨i,j,rfl,rfl,hz,q⟩:=h;obtain⟨t,rfl⟩:=rx;obtain⟨t',rfl⟩:=ry;exact add_str (λt' tk=>⟨.str (i++j),H,I.tok _,⟨_,rfl⟩,q⟩) hz
def vals1(r:Vals [x] us):∃u,us=[u]/\RelV x u:=by
 cases r with
 | cons r1 r2=>cases r2;exact⟨_,rfl,r1⟩
def vals2(r:Vals [x,y] us):∃u w',us=[u,w']/\RelV x u/\RelV y w':=by
 cases r with
 | cons r1 r2=>
  cases r2 with
  | cons r3 r4=>cases r4;exact⟨_,_,rfl,r1,r3⟩
def zR1(hc:X.calm=true):zBl X (.builtin "max") (λxs H Q=>∃i j,xs=[.int i,.int j]/\Q (.int (if j > i then j else i)) H):=by
 intro pins s σ H xs us Q I r h;obtain⟨i,j,rfl,q⟩:=h;obtain⟨u,w',rfl,⟨t,rfl⟩,⟨t',rfl⟩⟩:=vals2 r;refine max_two_ints (I.ok.hd hc) λh' tk k=>⟨_,H,I.kept k,?_,q⟩
 by_cases hj:j > i
 ·rw[xf hj,xf hj];exact⟨_,rfl⟩
 ·rw[xg hj,xg hj];exact⟨_,rfl⟩
def zK1:zBl X (.type "int") (λxs H Q=>(∃i,xs=[.int i]/\Q (.int i) H)\/∃k,xs=[.bl k]/\Q (.int (if k then 1 else 0)) H):=by
 intro pins s σ H xs us Q I r h;rcases h with⟨i,rfl,q⟩|⟨k,rfl,q⟩
 ·obtain⟨u,rfl,t,rfl⟩:=vals1 r;exact call_int_int ⟨.int i,H,I,⟨_,rfl⟩,q⟩
 ·obtain⟨u,rfl,r1⟩:=vals1 r;cases r1;exact call_int_bool ⟨.int (if k then 1 else 0),H,I.tok _,⟨_,rfl⟩,q⟩
end
structure ObjM (h:Heap) (x dx C:Addr) (mA:Str->Option Value):Prop where
 obj:h.get? x=some (PySem.W.instObj C dx)
 ns:h.Ns1 dx mA
 ne:dx≠x
def zPn{h:Heap}{mA:Str->Option Value}(n:h.Ns1 dx mA):∃od,h.get? dx=some od/\∀name,PySem.W.lookIn name od=some (mA name):=by
 obtain⟨o,es,ep,ho,hd,hk,_,hm⟩:=n;refine⟨o,ho,λname=>?_⟩;have e:=hm name;unfold nsFind findBy at e;rw[<- Array.find?_toList]at e;unfold PySem.W.lookIn;rw[hd];dsimp only;split
 ·rename_i y q;rw[q]at e;exact congrArg some e
 ·rename_i q;rw[q]at e;have a:es.toList.any (·.refKey)=false:=by
   rw[List.any_eq_false];intro y hy;obtain⟨z,t,hkey⟩:=hk y (yN.mp hy);simp[DictEntry.refKey,hkey]
  have a':¬ es.toList.any (·.refKey)=true:=by rw[a];exact vB
  rw[xg a'];exact congrArg some e
def ObjM.look{mA:Str->Option Value}(I:ObjM h x dx C mA):∃od,PySem.W.InstAt h x (PySem.W.instObj C dx) C (some od)/\∀name,PySem.W.lookIn name od=some (mA name):=
 let ⟨od,ho,hl⟩:=zPn I.ns
 ⟨od,⟨I.obj,rfl,rfl,ho⟩,hl⟩
def RelO.some_of(r:RelO (some v) o):∃u,o=some u/\RelV v u:=by
 cases o with
 | none=>exact(show False from r).elim
 | some u=>exact⟨u,rfl,r⟩
section
variable {P:Program}{w:World}{H H':Hp}{h h':Heap}{a C dx:Addr}{fs fs':List (Str × V)}
def zXu(hok:HOk P w H h)(e:H a=some (.ins C dx fs)):∃mA,ObjM h a dx C mA/\(∀f,RelO (fs.lookup f) (mA f))/\PySem.Within mA (fs.map (·.1))/\fs.length<=1000/\H dx=some (.own a):=by obtain⟨d,z,ne,ob,mA,n,r,q⟩:=(show ObjOk P w H h a (.ins C dx fs)from hok a _ e);exact⟨mA,⟨ob,n,ne⟩,r,q,z,d⟩
end
structure Cls (K:PySem.W.Frag) (C:Addr):Prop where
 pg:PySem.W.plainGet K C Str.empty=true
 hd:PySem.W.hasDictIn K C=true
 po:PySem.W.plainOver K C=true
 sa:PySem.W.findIn K (.ref C) "__setattr__"=some (some (.builtin "object.__setattr__"))
def Cls.get{K:PySem.W.Frag}{C:Addr}(c:Cls K C)(f:Str):PySem.W.plainGet K C f=true:=c.pg
section
variable {X:Cx}{pins:List (Addr × Obj)}{σ:St}{H:Hp}{s:Shared}{A:Around}{E:Value->Shared->Prop}{Q:Value->Shared->Prop}{c:Value}{b:Bool}
inductive TyOf (K:PySem.W.Frag) (H:Hp):V->Value->Prop where
 | non:TyOf K H .non (.type "NoneType")
 | bl (x:Bool):TyOf K H (.bl x) (.type "bool")
 | int (i:Int):TyOf K H (.int i) (.type "int")
 | str (x:Str):TyOf K H (.str x) (.type "str")
 | flt (x:UInt64):TyOf K H (.flt x) (.type "float")
 | lst {a:Addr}{xs:List V}(e:H a=some (.lst xs)):TyOf K H (.ref a) (.type "list")
 | frz {a:Addr}{o:Obj}{xs:List V}(e:H a=some (.frz o (.lst xs))):TyOf K H (.ref a) (.type "list")
 | tup {a:Addr}{xs:List V}(e:H a=some (.tup xs)):TyOf K H (.ref a) (.type "tuple")
 | dK {a:Addr}{kvs:List (Key × V)}(e:H a=some (.dK kvs)):TyOf K H (.ref a) (.type "dict")
 | dT {a:Addr}{kvs:List (List Key × V)}(e:H a=some (.dT kvs)):TyOf K H (.ref a) (.type "dict")
 | ins {a C dx:Addr}{fs:List (Str × V)}(e:H a=some (.ins C dx fs)) (cl:Cls K C) (ha:PySem.W.findIn K (.ref C) "__class__"=some (some (.builtin "object.__class__")))
   (hn:PySem.W.specialIn K (.builtin "object.__class__") "__get__"=some (some (.builtin "getset_descriptor.__get__"))) (htk:PySem.W.takesIn K (.builtin "object.__class__")=some true)
   (hm:PySem.W.mroIn K C (.type "object")=some true):TyOf K H (.ref a) (.ref C)
def zQ1(I:Inv X pins σ H s)(rx:RelV x u)(ty:TyOf X.K H x t)(e:PySem.W.kitOne X.K t c=some b)(h:∀tk,Q (.bool b) { s with toks:=tk }):
  wpAny (model X.prog X.w) A (call (.builtin "isinstance") [u,c]) Q E s:=by
 cases ty with
 | non=>cases(show u=Value.none from rx);exact vP PySem.W.kitx_none I.kIn True.intro e (λz=>nomatch z) h
 | bl y=>cases(show u=Value.bool y from rx);exact vP PySem.W.kitx_bool I.kIn True.intro e (λz=>nomatch z) h
 | int i=>obtain⟨t,q⟩:=(show ∃t,u=Value.int i t from rx);cases q;exact vP PySem.W.kitx_int I.kIn True.intro e (λz=>nomatch z) h
 | str y=>obtain⟨t,q⟩:=(show ∃t,u=Value.str y t from rx);cases q;exact vP PySem.W.kitx_str I.kIn True.intro e (λz=>nomatch z) h
 | flt y=>obtain⟨t,q⟩:=(show ∃t,u=Value.float y t from rx);cases q;exact vP PySem.W.kitx_float I.kIn True.intro e (λz=>nomatch z) h
 | @lst a xs ea=>
  cases(show u=Value.ref a from rx);obtain⟨_,_,n,_,h1⟩:=(show ObjOk X.prog X.w H s.heap a (.lst xs)from I.hok a _ ea);exact vP PySem.W.kitx_list I.kIn ⟨_,h1,rfl⟩ e (λz=>nomatch z) h
 | @frz a ob xs ea=>
  cases(show u=Value.ref a from rx);obtain⟨_,_,_,n,_,h1⟩:=(show ObjOk X.prog X.w H s.heap a (.frz ob (.lst xs))from I.hok a _ ea);exact vP PySem.W.kitx_list I.kIn ⟨_,h1,rfl⟩ e (λz=>nomatch z) h
 | @tup a xs ea=>
  cases(show u=Value.ref a from rx);obtain⟨_,_,_,p⟩:=(show ObjOk X.prog X.w H s.heap a (.tup xs)from I.hok a _ ea);obtain⟨o,h1,h2,_⟩:=p;exact vP PySem.W.kitx_tuple I.kIn ⟨o,h1,h2⟩ e (λz=>nomatch z) h
 | @dK a kvs ea=>
  cases(show u=Value.ref a from rx);obtain⟨_,_,vs,_,p⟩:=(show ObjOk X.prog X.w H s.heap a (.dK kvs)from I.hok a _ ea);obtain⟨o,es,ep,h1,h2,_⟩:=p;exact vP PySem.W.kitx_dict I.kIn ⟨o,h1,h2.1⟩ e (λz=>nomatch z) h
 | @dT a kvs ea=>
  cases(show u=Value.ref a from rx);obtain⟨_,_,xs,_,o,es,ep,h1,h2,_⟩:=(show ObjOk X.prog X.w H s.heap a (.dT kvs)from I.hok a _ ea);exact vP PySem.W.kitx_dict I.kIn ⟨o,h1,h2.1⟩ e (λz=>nomatch z) h
 | @ins a C dx fs ea cl ha hn htk hm=>
  cases(show u=Value.ref a from rx);obtain⟨mA,O,_⟩:=zXu I.hok ea;obtain⟨od,J,_⟩:=O.look;exact vP (PySem.W.kitx_own (cl.get _) cl.hd ha hn htk hm) I.kIn J e (λz=>nomatch z) h
end
structure Room (k:Nat) (A:Around):Prop where
 hd:A.handled=none
 dp:A.depth+3*k+5<recursionLimit
 un:A.units+16*k+200<cLine
def Room.mono{j k:Nat}(r:Room k A)(h:j<=k):Room j A:=⟨r.hd,by have:=r.dp;lia,by have:=r.un;lia⟩
def Room.deeper{k:Nat}{A:Around}(r:Room (k+1) A)(env:Env):Room k (A.deeper env):=
 ⟨r.hd,by have:=r.dp;show A.depth+1+3*k+5<_;lia,by have:=r.un;show A.units+3+16*k+200<_;lia⟩
def Room.depth{A:Around}(r:Room k A):A.depth<recursionLimit:=by have:=r.dp;lia
def Room.units{A:Around}(r:Room k A):A.units+64<cLine:=by have:=r.un;lia
def Room.units0{A:Around}(r:Room k A):A.units<cLine:=by have:=r.un;lia
def tNil:TA:=λ_ H Q=>Q [] H
noncomputable def zVt (ta:TE) (tr:TA):TA:=λσ H Q=>ta σ H λx H1=>tr σ H1 λxs H2=>Q (x::xs) H2
section
variable {X:Cx}{e:Expr}{es:List Expr}{te:TE}{t:TA}{pos:Pos}
def yAo:PA X [] tNil:=λ_ _ _ _ H Q I h=>u6 ⟨[],H,I,.nil,h⟩
def zX2(ha:PE X e te)(hr:PA X es t)(hs:starEach (e::es) X.env=(false,eval e X.env)::starEach es X.env:=by rfl):PA X (e::es) (zVt te t):=by intro pos pins s σ H Q I h;rw[hs];show wpAny _ _ (spliced ((false,eval e X.env)::backTo pos (starEach es X.env))) _ _ s;refine u7 (thn (ha pins s σ H _ I h) λu s1 hq1=>?_);obtain⟨x,H1,I1,r1,q1⟩:=hq1;exact thn (hr pos pins s1 σ H1 _ I1 q1) λus s2 hz4=>by obtain⟨xs,H2,I2,r2,q2⟩:=hz4;exact ⟨x::xs,H2,I2,.cons r1 r2,q2⟩
noncomputable def tTup (t:TA):TE:=λσ H Q=>t σ H λxs H1=>xs.length<=sizeLine/\∀p,H1 p=none->Q (.ref p) (upd H1 p (.tup xs))
noncomputable def tLst (t:TA):TE:=λσ H Q=>t σ H λxs H1=>xs.length<=sizeLine/\∀p,H1 p=none->Q (.ref p) (upd H1 p (.lst xs))
def yAc{x1}(h:PA X es t):PE X (.Tuple es x1 pos) (tTup t):=by intro pins s σ H Q I hq;refine wpAny_Tuple_spliced (thn (h pos pins s σ H _ I hq) λus s1 ⟨xs,H1,I1,r,z,q⟩=>⟨by rw[<- r.length];exact z,?_⟩);have hf:H1 s1.heap.objs.size=none:=I1.hok.fresh (xi _);refine⟨.ref s1.heap.objs.size,upd H1 s1.heap.objs.size (.tup xs),I1.laid (t':=s1.toks) (λb u e=>xq _ e) (xi _) ?_,rfl,q _ hf⟩;exact⟨z,us,r,⟨_,xy _ rfl,rfl,_,rfl⟩⟩
def yAh(h:PA X es t):PE X (.List es pos) (tLst t):=by intro pins s σ H Q I hq;refine wpAny_List_spliced (thn (h pos pins s σ H _ I hq) λus s1 ⟨xs,H1,I1,r,z,q⟩=>⟨by rw[<- r.length];exact z,?_⟩);have hf:H1 s1.heap.objs.size=none:=I1.hok.fresh (xi _);refine⟨.ref s1.heap.objs.size,upd H1 s1.heap.objs.size (.lst xs),I1.laid (t':=s1.toks) (λb u e=>xq _ e) (xi _) ?_,rfl,q _ hf⟩;exact⟨z,us,0,r,xy _ rfl⟩
end
abbrev Sp:=List V->Hp->VK->XK->Prop
abbrev CXT:=List Env->Hp->Shared->XK->Value->Shared->Prop
structure Env0 (P:Program) (w:World) (K:PySem.W.Frag) (mg:Str->Option Value) (base:Heap) (A:Around) (outer:List Env) (s:Shared) (H:Hp):Prop where
 frames:A.frames=some outer
 mod:Mod K mg base
 bs:∀b o,base.get? b=some o->s.heap.get? b=some o/\H b=none
 bsz:base.objs.size<=s.heap.objs.size
 funs:s.heap.FunFrames base outer
 frf:∀b∈frs outer,H b=none
 hok:HOk P w H s.heap
 bare:AllBare s.gens
def CE(outer:List Env)(P:Program)(w:World)(H:Hp)(s:Shared)(Q:VK)(u:Value)(s':Shared):Prop:=
 ∃v H',s'.os=s.os/\AllBare s'.gens/\Un (frs outer) [] H H' s.heap s'.heap/\HOk P w H' s'.heap/\RelV v u/\Q v H'
def CR(CX:CXT)(outer:List Env)(P:Program)(w:World)(H:Hp)(s:Shared)(Q:VK)(E:XK)(r:Result)(s':Shared):Prop:=
 match r with
 | .ok (.ret u)=>CE outer P w H s Q u s'
 | .ok _=>False
 | .error e=>CX outer H s E e s'
structure FnOk (P:Program) (w:World) (K:PySem.W.Frag) (mg:Str->Option Value) (base:Heap) (CX:CXT) (k:Nat) (f:Addr) (fd:FuncData) (ps:List Str) (sp:Sp):Prop where
 len:∀vs H Q E,sp vs H Q E->vs.length=ps.length
 run:∀(A:Around) (outer:List Env) (s:Shared) (H:Hp) (args:Args) (us:List Value) (vs:List V) (Q:VK) (E:XK),Room k A->Env0 P w K mg base A outer s H->BindsTo s fd args (ps.zip us)->Vals vs us->sp vs H Q E->
  codeAny (model P w) A (.call (.ref f) args) (CR CX outer P w H s Q E) s
section
variable {X:Cx}{pins:List (Addr × Obj)}{σ:St}{H:Hp}{s s':Shared}
def Inv.env0(I:Inv X pins σ H s):Env0 X.prog X.w X.K X.mg X.base X.A X.stack s H:=
 ⟨I.ok.frames,I.ok.mod,I.bs,xm I.ok.bsz I.sz,I.stack,I.stkFree,I.hok,I.bare⟩
def Inv.after(I:Inv X pins σ H s)(h:CE X.stack X.prog X.w H s Q u s'):EP X pins σ Q u s':=by obtain⟨v,H',os,bare,un,hok,r,q⟩:=h;obtain⟨hh,g,d,t,os'⟩:=s';obtain rfl:os'=s.os:=os;exact⟨v,H',I.call (h':=hh) (g':=g) (d':=d) (t':=t) (ch:=[]) un hok bare (λb z=>absurd z (by simp)),r,q⟩
end
noncomputable def zRp (sp:Sp) (dvs:List V) (E:XK) (t:TA):TE:=λσ H Q=>t σ H λvs H1=>sp (vs++dvs) H1 Q E
def Binds(K:PySem.W.Frag)(fd:FuncData)(ps:List Str)(ds:List Value):Prop:=
 ∀(s:Shared) (us:List Value),K.In s.heap->(us++ds).length=ps.length->BindsTo s fd ⟨us,[]⟩ (ps.zip (us++ds))
def Binds.all{K:PySem.W.Frag}{fd:FuncData}{ps:List Str}(h:∀us:List Value,us.length=ps.length->bindArgs fd ⟨us,[]⟩=pure (ps.zip us)):Binds K fd ps []:=λs us _ hl=>by
 rw[vT]at hl ⊢;exact .of_eq (h us hl)
def Passes(CX:CXT)(X:Cx)(E:XK):Prop:=∀(pins:List (Addr × Obj)) (σ:St) (H:Hp) (s:Shared) (e:Value) (s':Shared),Inv X pins σ H s->CX X.stack H s E e s'->X.xe e s'
section
variable {X:Cx}{CX:CXT}{k:Nat}{f C:Addr}{fd:FuncData}{ps:List Str}{sp:Sp}{dvs:List V}{ds:List Value}{E:XK}{x m:Str}{p pos apos:Pos}{e o:Expr}{es:List Expr}{ta:TE}{t:TA}
def zZp{pins:List (Addr × Obj)}{σ:St}{H:Hp}{s:Shared}{Q:VK}{us:List Value}{vs:List V}(F:FnOk X.prog X.w X.K X.mg X.base CX k f fd ps sp)(hr:Room k X.A)(hb:Binds X.K fd ps ds)(hd:Vals dvs ds)(hx:Passes CX X E)
  (I:Inv X pins σ H s) (r:Vals vs us) (h:sp (vs++dvs) H Q E):wpAny (model X.prog X.w) X.A (call (.ref f) us) (EP X pins σ Q) X.xe s:=by
 have r2:Vals (vs++dvs) (us++ds):=r.append hd;have hl:(us++ds).length=ps.length:=by rw[<- r2.length];exact F.len _ _ _ _ h
 refine wpAny_call (codeAny_mono (F.run X.A X.stack s H ⟨us,[]⟩ (us++ds) (vs++dvs) Q E hr I.env0 (hb s us I.kIn hl) r2 h) λr s' hq=>?_);cases r with
 | error e=>exact hx pins σ H s e s' I hq
 | ok fl=>
  cases fl with
  | ret u=>exact I.after hq
  | next=>exact False.elim hq
  | brk=>exact False.elim hq
  | cont=>exact False.elim hq
def zWz(F:FnOk X.prog X.w X.K X.mg X.base CX k f fd ps sp)(hr:Room k X.A)(hg:Gl X x)(hm:X.mg x=some (.ref f))(hk:PySem.W.keepIn X.K (.ref f)=true)(hb:Binds X.K fd ps ds)(hd:Vals dvs ds)(hx:Passes CX X E)
  (ha:PA X (e::es) t) (hdb:(x == ("__debug__":Str))=false:=by decide) (he:starEach (e::es) X.env=(false,eval e X.env)::starEach es X.env:=by rfl) (hpl:(backTo pos (starEach es X.env)).any (·.1)=false:=by rfl):
  PE X (.Call (.Name x p) (e::es) [] pos) (zRp sp dvs E t):=by
 intro pins s σ H Q I h;refine uK (zXj I hg hm ?_ hdb);refine PySem.W.callWith_K (h₀:=X.base) I.ok.mod.kin hk (thn (ha pos pins s σ H _ I h) λus s1 ⟨vs,H1,I1,r,q⟩=>⟨I1.kIn,?_⟩) he hpl;exact zZp F hr hb hd hx I1 r q
end
structure zAv (N P:List Str) (sc:Scope):Prop where
 kind:sc.kind=.function
 co:sc.isCoroutine=false
 gen:sc.isGenerator=false
 nd:N.Nodup
 pre:N.take P.length=P
 par:∀x∈P,sc.names.lookup x=some .local\/sc.names.lookup x=some .cell
 nofree:∀y∈sc.names,y.2≠.free
def zK3{kindOf:Str->Option NameKind}:∀{binds:List (Str × Value)}{m:Str->Option Value},(∀v,(x,v) ∉ binds)->bindL kindOf binds m x=m x
 | [],_,_=>rfl
 | (n,v)::r,m,h=>by
  unfold bindL;rw[zK3 λw hw=>h w (vp _ hw)];split
  ·have:x≠n:=by rintro rfl;exact h v xY
   simp[this]
  ·rfl
def zK5{kindOf:Str->Option NameKind}:∀{binds:List (Str × Value)}{m:Str->Option Value},(∀v,(x,v) ∉ binds)->bindC kindOf binds m x=m x
 | [],_,_=>rfl
 | (n,v)::r,m,h=>by
  unfold bindC;rw[zK5 λw hw=>h w (vp _ hw)];split
  ·rfl
  ·have:x≠n:=by rintro rfl;exact h v xY
   simp[this]
def zK4{kindOf:Str->Option NameKind}:∀{P:List Str}{vs:List Value}{i:Nat}{m:Str->Option Value},P.Nodup->P[i]?=some x->vs[i]?=some v->kindOf x=some .local->
  bindL kindOf (P.zip vs) m x=some v
 | [],_,_,_,_,h,_,_=>by simp at h
 | _::_,[],_,_,_,_,h,_=>by simp at h
 | p::P,w::vs,0,m,nd,h1,h2,hk=>by
  simp at h1 h2;subst h1;subst h2;show bindL kindOf ((p,w)::P.zip vs) m p=_;unfold bindL;rw[zK3 λv hv=>(vJ.mp nd).1 (List.of_mem_zip hv).1,xf hk];simp
 | p::P,w::vs,i+1,m,nd,h1,h2,hk=>by
  show bindL kindOf ((p,w)::P.zip vs) m x=_;unfold bindL;exact zK4 (i:=i) (vJ.mp nd).2 (by simpa using h1) (by simpa using h2) hk
def zK6{kindOf:Str->Option NameKind}:∀{P:List Str}{vs:List Value}{i:Nat}{m:Str->Option Value},P.Nodup->P[i]?=some x->vs[i]?=some v->kindOf x≠some .local->
  bindC kindOf (P.zip vs) m x=some v
 | [],_,_,_,_,h,_,_=>by simp at h
 | _::_,[],_,_,_,_,h,_=>by simp at h
 | p::P,w::vs,0,m,nd,h1,h2,hk=>by
  simp at h1 h2;subst h1;subst h2;show bindC kindOf ((p,w)::P.zip vs) m p=_;unfold bindC;rw[zK5 λv hv=>(vJ.mp nd).1 (List.of_mem_zip hv).1,xg hk];simp
 | p::P,w::vs,i+1,m,nd,h1,h2,hk=>by
  show bindC kindOf ((p,w)::P.zip vs) m x=_;unfold bindC;exact zK6 (i:=i) (vJ.mp nd).2 (by simpa using h1) (by simpa using h2) hk
noncomputable def start (N:List Str) (vs:List V):St:=vs.map some++List.replicate (N.length-vs.length) none
noncomputable def cxOf (CX:CXT) (P:Program) (w:World) (K:PySem.W.Frag) (mg:Str->Option Value) (base:Heap) (N:List Str) (qual:Str) (scope:Scope) (f:Addr) (cd:Value) (A:Around) (outer:List Env) (s:Shared) (H:Hp) (E:XK):Cx where
 prog:=P
 w:=w
 K:=K
 mg:=mg
 base:=base
 A:=A.deeper (envOfC qual scope s.heap.objs.size f cd)
 N:=N
 s₀:=s
 H₀:=H
 env:=envOfC qual scope s.heap.objs.size f cd
 outer:=outer
 stack:=envOfC qual scope s.heap.objs.size f cd::outer
 ex:=[]
 calm:=true
 fn:=λ_=>true
 pn:=[]
 xe:=λe s'=>wpAny (model P w) (A.deeper (envOfC qual scope s.heap.objs.size f cd)) (leaving (envOfC qual scope s.heap.objs.size f cd) e) (λ_ s''=>CX outer H s E e s'') (λe' s''=>CX outer H s E e' s'') s'
def zMj{sc:Scope}(h:sc.names.lookup x=some .cell):∃c,(cellsFrom n sc.names []).lookup x=some c:=by have q:=PySem.W.cellsFrom_some sc.names n [] (.inl h);exact Option.isSome_iff_exists.mp q
def zQ4{CX:CXT}{P:Program}{w:World}{K:PySem.W.Frag}{mg:Str->Option Value}{base:Heap}{N ps:List Str}{qual:Str}{scope:Scope}{f:Addr}{cd:Value}{A:Around}{outer:List Env}{s s1:Shared}{H:Hp}{E:XK}{us:List Value}{vs:List V}
  (S:zAv N ps scope) (hd:A.handled=none) (e0:Env0 P w K mg base A outer s H) (hl:vs.length=ps.length) (r:Vals vs us)
  (x:InCallC s s.heap.objs.size (bindL (envOfC qual scope s.heap.objs.size f cd).kindOf (ps.zip us) λ_=>none) (cellsFrom (s.heap.objs.size+1) scope.names []) (bindC (envOfC qual scope s.heap.objs.size f cd).kindOf (ps.zip us) λ_=>none) s1):
  Inv (cxOf CX P w K mg base N qual scope f cd A outer s H E) [] (start N vs) H s1:=by
 have hpl:ps.length<=N.length:=by have:=congrArg List.length S.pre;rw[vd]at this;lia
 obtain⟨h1,tk,rfl,hk⟩:=x.done;have noA:∀b:Addr,b ∉ (cxOf CX P w K mg base N qual scope f cd A outer s H E).ex:=λb z=>absurd (show b∈([]:List Addr)from z) (by simp)
 refine⟨⟨e0.mod,S.kind,rfl,rfl,xi _,λy z c h1 h2=>?_,λy hy=>?_,λy c _ h=>?_,λ_=>hd,Around.frames_deeper e0.frames,.inr ⟨rfl,rfl⟩,λb z=>absurd z (noA b),e0.bs,e0.bsz,λb _ _=>noA b,λb z=>absurd z (noA b),e0.funs,e0.frf⟩,
  rfl,e0.bare,Un.kept hk,⟨_,x.toInCall.ns,λi y v h1 h2 h3=>?_⟩,λy c h=>⟨_,x.cell y c h⟩,e0.hok.fresh (xi _),λy c h=>?_,λp hp=>absurd (show p∈([]:List (Addr × Obj))from hp) (by simp),e0.hok.kept hk,?_⟩
 ·exact name_of_addr x.apart (u9 h1) (u9 h2)
 ·have hy:scope.names.lookup y=some .cell\/scope.names.lookup y=some .free:=hy;rcases hy with hy|hy
  ·exact zMj hy
  ·exact absurd rfl (S.nofree _ (u9 hy))
 ·exact xU (x.above y c (u9 h))
 ·have hi:i<vs.length:=by
   unfold start at h2;by_cases hi:i<vs.length
   ·exact hi
   ·rw[vj (by simpa using hi)]at h2;rw[List.getElem?_replicate]at h2;split at h2 <;> cases h2
  have ha:vs[i]?=some v:=by
   unfold start at h2;rw[vh (by simpa using hi),xQ]at h2;cases e:vs[i]? with
   | none=>rw[e]at h2;cases h2
   | some a=>rw[e]at h2;cases h2;rfl
  obtain⟨u,hu,rv⟩:=r.get ha;have hp:ps[i]?=some y:=by rw[<- S.pre,uf (by nofun)];exact h1
  have ndP:ps.Nodup:=by rw[<- S.pre];exact S.nd.sublist (uL _ _)
  refine⟨u,rv,?_⟩;rcases S.par y (uM hp)with k|k
  ·exact .inl ⟨k,zK4 ndP hp hu k⟩
  ·obtain⟨c,e⟩:=zMj (n:=s.heap.objs.size+1) k;refine .inr ⟨.inl k,c,e,?_⟩;have q:=x.cell y c e;rw[zK6 ndP hp hu (by show scope.names.lookup y≠_;rw[k];decide)]at q;exact q
 ·exact e0.hok.fresh (xU (x.above y c (u9 h)))
 ·unfold start;show _=N.length;rw[xw,xn,List.length_replicate];lia
def yD7{CX:CXT}{P:Program}{w:World}{K:PySem.W.Frag}{mg:Str->Option Value}{base:Heap}{k:Nat}{f:Addr}{name qual:Str}{params:Arguments}{body:List Stmt}{scope:Scope}{dV kV doc pm cdv ct oc:Value}{an od:Option Addr}
  {osl:Array (Option Value)}{N ps:List Str}{sp:Sp}(lk:K.lookup f=some ⟨oc,od,.func (PySem.W.fnOf name qual params body scope dV kV doc pm an cdv ct),osl⟩) (hcd:PySem.W.codeIn K cdv qual=true) (S:zAv N ps scope)
  (len:∀vs H Q E,sp vs H Q E->vs.length=ps.length)
  (hbody:∀(A:Around) (outer:List Env) (s:Shared) (H:Hp) (vs:List V) (Q:VK) (E:XK),Room k (A.deeper (envOfC qual scope s.heap.objs.size f cdv))->sp vs H Q E->
   ∃t,PSs (cxOf CX P w K mg base N qual scope f cdv A outer s H E) body t/\t { nx:=λ_ H'=>Q .non H',rt:=Q } (start N vs) H):
  FnOk P w K mg base CX (k+1) f (PySem.W.fnOf name qual params body scope dV kV doc pm an cdv ct) ps sp:=by
 refine⟨len,λA outer s H args us vs Q E hr e0 hb r hsp=>?_⟩;have hl:=len _ _ _ _ hsp;have KX:K.In s.heap:=e0.mod.kin.keeps λb o e=>(e0.bs b o e).1
 have lim:s.heap.NoLimit:=e0.mod.nolimit.keeps λb o e=>(e0.bs b o e).1
 have hkind:∀y∈ps.zip us,scope.names.lookup y.1=some .local\/(scope.names.lookup y.1=some .cell/\((cellsFrom (s.heap.objs.size+1) scope.names []).lookup y.1).isSome=true):=fun⟨n,v⟩ hy=>by
  rcases S.par n (List.of_mem_zip hy).1 with q|q
  ·exact .inl q
  ·exact .inr ⟨q,PySem.W.cellsFrom_some _ _ _ (.inl q)⟩
 refine codeAny_call_function hr.depth (KX _ _ lk) rfl S.co S.gen rfl (PySem.W.codeRec_of KX hcd) (hb _ _ _ _ ?_)
 refine wpAny_newFunctionEnv_cells S.kind hkind λenv he s1 x=>?_
 subst he;refine⟨lim.keeps x.toInCall.keep,codeAny_func ?_⟩;obtain⟨t,ht,hq⟩:=hbody A outer s H vs Q E (hr.deeper _) hsp;have I:Inv (cxOf CX P w K mg base N qual scope f cdv A outer s H E) [] (start N vs) H s1:=zQ4 S hr.hd e0 hl r x;refine vA (ht [] s1 (start N vs) H _ I hq) (λfl s' hs=>?_) λe s' hs=>hs
 have fin:∀{σ':St}{H':Hp}{v:V}{u:Value},Inv (cxOf CX P w K mg base N qual scope f cdv A outer s H E) [] σ' H' s'->RelV v u->Q v H'->CE outer P w H s Q u s':=
  λ{σ' H' v u} J rv q=>⟨v,H',J.os,J.bare,J.base,J.hok,rv,q⟩
 cases fl with
 | ret u=>
  obtain⟨v,σ',H',J,rv,q⟩:=hs;exact fin J rv q
 | next=>
  obtain⟨σ',H',J,q⟩:=hs;exact fin (v:=V.non) (u:=Value.none) J rfl q
 | brk=>
  obtain⟨_,_,_,q⟩:=hs;exact False.elim q
 | cont=>
  obtain⟨_,_,_,q⟩:=hs;exact False.elim q
section
variable {X:Cx}{x:Str}{p pos:Pos}{e:Expr}{es:List Expr}{t:TA}{id T:String}{r:List V->Hp->VK->Prop}
noncomputable def tCB (r:List V->Hp->VK->Prop) (t:TA):TE:=λσ H Q=>t σ H λvs H1=>r vs H1 Q
def zSp(hc:zBl X (.builtin id) r)(hg:Gl X x)(hm:X.mg x=none)(hv:bootBuiltins x=some (.builtin id))(ha:PA X (e::es) t)(hn:x≠"__name__":=by decide)(hdb:(x == ("__debug__":Str))=false:=by decide)
  (he:starEach (e::es) X.env=(false,eval e X.env)::starEach es X.env:=by rfl) (hpl:(backTo pos (starEach es X.env)).any (·.1)=false:=by rfl):PE X (.Call (.Name x p) (e::es) [] pos) (tCB r t):=by
 intro pins s σ H Q I h;refine uK (zEo I hg hm hv ?_ hn hdb);exact PyProof.Rows.callWith_builtin1 (thn (ha pos pins s σ H _ I h) λus s1 hz5=>by obtain⟨vs,H1,I1,r1,q1⟩:=hz5;exact hc pins s1 σ H1 vs us Q I1 r1 q1) he hpl
def zP1(hc:zBl X (.type T) r)(hg:Gl X x)(hm:X.mg x=none)(hv:bootBuiltins x=some (.type T))(ha:PA X (e::es) t)(hn:x≠"__name__":=by decide)(hdb:(x == ("__debug__":Str))=false:=by decide)
  (he:starEach (e::es) X.env=(false,eval e X.env)::starEach es X.env:=by rfl) (hpl:(backTo pos (starEach es X.env)).any (·.1)=false:=by rfl):PE X (.Call (.Name x p) (e::es) [] pos) (tCB r t):=by
 intro pins s σ H Q I h;refine uK (zEo I hg hm hv ?_ hn hdb);exact u4 (thn (ha pos pins s σ H _ I h) λus s1 hz6=>by obtain⟨vs,H1,I1,r1,q1⟩:=hz6;exact hc pins s1 σ H1 vs us Q I1 r1 q1) he hpl
end
section
variable {κ:Type}[DecidableEq κ]
noncomputable def valV (kvs:List (κ × V)) (k:κ):Option V:=(kvs.find? λkv=>decide (kv.1=k)).map (·.2)
noncomputable def putK (kvs:List (κ × V)) (k:κ) (v:V):List (κ × V):=
 if(kvs.any λkv=>decide (kv.1=k))=true then kvs.map (λkv=>if kv.1=k then(kv.1,v)else kv)else kvs++[(k,v)]
def zFp{p:κ × V}(e:p.1=k):valV (p::r) k=some p.2:=by simp[valV,ya,e]
def zFq{p:κ × V}(e:¬ p.1=k):valV (p::r) k=valV r k:=by simp[valV,ya,e]
def zLb(k:κ):∀kvs:List (κ × V),(kvs.any λkv=>decide (kv.1=k))=(valV kvs k).isSome
 | []=>rfl
 | p::r=>by
  rw[List.any_cons];by_cases e:p.1=k
  ·simp only[zFp e,xx e,Bool.true_or,Option.isSome_some]
  ·rw[zFq e,xC e,Bool.false_or];exact zLb k r
def zCj(kvs:List (κ × V))(k:κ)(v:V):(putK kvs k v).length<=kvs.length+1:=by
 unfold putK;split
 ·rw[xn];lia
 ·rw[xw,xB,vU];lia
def RelO.isSome_eq{o:Option V}{u:Option Value}(r:RelO o u):o.isSome=u.isSome:=by
 cases o with
 | none=>cases u with
  | none=>rfl
  | some _=>exact(show False from r).elim
 | some _=>cases u with
  | none=>exact(show False from r).elim
  | some _=>rfl
def RelO.getD{o:Option V}{u:Option Value}(r:RelO o u)(rd:RelV d d'):RelV (o.getD d) (u.getD d'):=by
 cases o with
 | none=>cases u with
  | none=>exact rd
  | some _=>exact(show False from r).elim
 | some _=>cases u with
  | none=>exact(show False from r).elim
  | some _=>exact r
def KV.val(r:KV kvs vs)(k:κ):RelO (valV kvs k) (valueAt vs k):=by
 unfold KV at r;induction r with
 | nil=>exact True.intro
 | @cons p q ps qs h t ih=>
  obtain⟨h1,h2⟩:=h;by_cases e:p.1=k
  ·have e':q.1=k:=h1.symm.trans e;have b:valueAt (q::qs) k=some q.2:=by simp[valueAt,ya,e']
   rw[zFp e,b];exact h2
  ·have e':¬ q.1=k:=λz=>e (h1.trans z)
   have b:valueAt (q::qs) k=valueAt qs k:=by simp[valueAt,ya,e']
   rw[zFq e,b];exact ih
def KV.any{kvs:List (κ × V)}{vs:List (κ × Value)}(r:KV kvs vs)(k:κ):(kvs.any λkv=>decide (kv.1=k))=vs.any λkv=>decide (kv.1=k):=by
 unfold KV at r;induction r with
 | nil=>rfl
 | cons h t ih=>rw[List.any_cons,List.any_cons,ih,h.1]
def KV.repl(r:KV kvs vs)(k:κ)(ry:RelV y u):
  KV (kvs.map λkv=>if kv.1=k then(kv.1,y)else kv) (vs.map λkv=>if kv.1=k then(kv.1,u)else kv):=by
 unfold KV at r ⊢;induction r with
 | nil=>exact .nil
 | @cons p q ps qs h t ih=>
  rw[xr,xr];refine .cons ?_ ih;obtain⟨h1,h2⟩:=h;by_cases e:p.1=k
  ·rw[xf e,xf (h1.symm.trans e)];exact⟨h1,ry⟩
  ·rw[xg e,xg (λz=>e (h1.trans z))];exact⟨h1,h2⟩
def KV.put(r:KV kvs vs)(k:κ)(ry:RelV y u):KV (putK kvs k y) (stored vs k u):=by
 unfold putK stored;rw[r.any k];by_cases e:(vs.any λkv=>decide (kv.1=k))=true
 ·rw[xf e,xf e];exact r.repl k ry
 ·rw[xg e,xg e];exact Paired.snoc r ⟨rfl,ry⟩
def KV.length{kvs:List (κ × V)}{vs:List (κ × Value)}(r:KV kvs vs):kvs.length=vs.length:=ue r
end
def zJk(r:RelV (kV k) u):(zAu P w).is k u=true:=by
 cases k with
 | inl i=>obtain⟨t,e⟩:=(show ∃t,u=Value.int i t from r);subst e;exact zKo P w i t
 | inr x=>obtain⟨t,e⟩:=(show ∃t,u=Value.str x t from r);subst e;exact zKn P w x t
def zJl :∀{ks:List Key}{us:List Value},Vals (ks.map kV) us->ItemsAre (zAu P w) ks us
 | [],_,r=>by rw[x6]at r;cases r;exact .nil
 | k::ks,_,r=>by
  rw[xr]at r;cases r with
  | cons h t=>exact .cons (zJk h) (zJl t)
abbrev KT(H:Hp):List (List Key × V)->List (List Key × Addr × Value)->Prop:=Paired λp q=>p.1=q.1/\H q.2.1=some (.tup (p.1.map kV))/\RelV p.2 q.2.2
def KT.val(r:KT H kvs xs)(k:List Key):RelO (valV kvs k) ((atKey xs k).map (·.2)):=by
 induction r with
 | nil=>exact True.intro
 | @cons p q ps qs h t ih=>
  obtain⟨h1,_,h2⟩:=h;by_cases e:p.1=k
  ·have e':q.1=k:=h1.symm.trans e;have b:atKey (q::qs) k=some q.2:=by simp[atKey,ya,e']
   rw[zFp e,b];exact h2
  ·have e':¬ q.1=k:=λz=>e (h1.trans z)
   have b:atKey (q::qs) k=atKey qs k:=by simp[atKey,ya,e']
   rw[zFq e,b];exact ih
def KT.repl(r:KT H kvs xs)(k:List Key)(ry:RelV y u):
  KT H (kvs.map λkv=>if kv.1=k then(kv.1,y)else kv) (xs.map (putAt k u)):=by
 induction r with
 | nil=>exact .nil
 | @cons p q ps qs h t ih=>
  rw[xr,xr];refine .cons ?_ ih;obtain⟨h1,h2,h3⟩:=h;unfold putAt;by_cases e:p.1=k
  ·rw[xf e,xf (h1.symm.trans e)];exact⟨h1,h2,ry⟩
  ·rw[xg e,xg (λz=>e (h1.trans z))];exact⟨h1,h2,h3⟩
def KT.put{H:Hp}(r:KT H kvs xs)(k:List Key)(hb:H b=some (.tup (k.map kV)))(ry:RelV y u):
  KT H (putK kvs k y) (storedH xs k b u):=by
 have e:(kvs.any λkv=>decide (kv.1=k))=(atKey xs k).isSome:=by rw[zLb,(r.val k).isSome_eq,Option.isSome_map]
 unfold putK storedH;rw[e];by_cases q:(atKey xs k).isSome=true
 ·rw[xf q,xf q];exact r.repl k ry
 ·rw[xg q,xg q];exact Paired.snoc r ⟨rfl,hb,ry⟩
def KT.keeps{H H':Hp}(r:KT H kvs xs)(ht:∀b ys,H b=some (.tup ys)->H' b=some (.tup ys)):KT H' kvs xs:=
 Paired.mapP r λ_ _ z=>⟨z.1,ht _ _ z.2.1,z.2.2⟩
section
variable {P:Program}{w:World}{H:Hp}{h:Heap}{a:Addr}
def zOi(ok:HOk P w H h)(e:Rd H a u):ObjOk P w H h a u:=e.ok ok
def zJt{kvs:List (Key × V)}(ok:HOk P w H h)(e:Rd H a (.dK kvs)):kvs.length<=sizeLine/\(a == sysModules)=false/\∃vs,KV kvs vs/\h.DictOf (zAu P w) a vs:=
 show ObjOk P w H h a (.dK kvs)from zOi ok e
def zYd{kvs:List (Key × V)}(ok:HOk P w H h)(e:H a=some (.dK kvs)):kvs.length<=sizeLine/\(a == sysModules)=false/\∃vs,KV kvs vs/\h.DictOf (zAu P w) a vs:=zJt ok (.inl e)
def zFb{ks:List Key}(ok:HOk P w H h)(e:H a=some (.tup (ks.map kV))):(tupleKind (zAu P w)).is h ks a:=by obtain⟨_,its,r,o,h1,h2,n,h3⟩:=(show ObjOk P w H h a (.tup (ks.map kV))from ok a _ e);exact⟨o,its.toArray,n,h1,h2,h3,by simpa using zJl r⟩
def zJq{kvs:List (List Key × V)}(ok:HOk P w H h)(e:Rd H a (.dT kvs)):kvs.length<=sizeLine/\(a == sysModules)=false /\
  ∃xs,KT H kvs xs/\h.DictOfH (tupleKind (zAu P w)) a xs:=by
 obtain⟨z,y,xs,r,o,es,ep,h1,h2,h3,h4,h5⟩:=(show ObjOk P w H h a (.dT kvs)from zOi ok e);refine⟨z,y,xs,r,o,es,ep,h1,h2,h3,h4,λx hx=>?_,h5⟩;have all:∀{l:List (List Key × V)}{m:List (List Key × Addr × Value)},KT H l m->∀x∈m,(tupleKind (zAu P w)).is h x.1 x.2.1:=by
  intro l m q;induction q with
  | nil=>intro x hx;exact nomatch hx
  | @cons p q ps qs hq t ih=>
   intro x hx;rcases xp.mp hx with e|hx
   ·subst e;exact zFb ok (by rw[<- hq.1];exact hq.2.1)
   ·exact ih x hx
 exact all r x hx
def yD9{kvs:List (List Key × V)}(ok:HOk P w H h)(e:H a=some (.dT kvs)):kvs.length<=sizeLine/\(a == sysModules)=false /\
  ∃xs,KT H kvs xs/\h.DictOfH (tupleKind (zAu P w)) a xs:=zJq ok (.inl e)
end
def DGet(H:Hp)(a:Addr)(y:V)(r:Option V):Prop:=
 (∃kvs k,Rd H a (.dK kvs)/\y=kV k/\r=valV kvs k)\/∃kvs k b,Rd H a (.dT kvs)/\y=.ref b/\H b=some (.tup (k.map kV))/\r=valV kvs k
def DPut(H:Hp)(a:Addr)(y v:V)(H':Hp):Prop:=
 (∃kvs k,H a=some (.dK kvs)/\y=kV k/\kvs.length<sizeLine/\H'=upd H a (.dK (putK kvs k v))) \/
 ∃kvs k b,H a=some (.dT kvs)/\y=.ref b/\H b=some (.tup (k.map kV))/\kvs.length<sizeLine/\H'=upd H a (.dT (putK kvs k v))
section
variable {X:Cx}{pins:List (Addr × Obj)}{σ:St}{H:Hp}{s:Shared}{a:Addr}{y v:V}{u r:Value}{o:Option V}{A:Around}{E:Value->Shared->Prop}
def Inv.big(I:Inv X pins σ H s):sysModules<s.heap.objs.size:=by have h:mainGlobals<s.heap.objs.size:=(I.mod.glob.keeps I.bk).lt;exact vK (by decide) h
def zQp{Q:Value->Shared->Prop}(hu:A.units+1<cLine)(I:Inv X pins σ H s)(g:DGet H a y (some v))(ry:RelV y u)(h:∀w' s',Inv X pins σ H s'->RelV v w'->Q w' s'):
  wpAny (model X.prog X.w) A (getItem (.ref a) u) Q E s:=by
 rcases g with⟨kvs,k,e,ey,l⟩|⟨kvs,k,b,e,ey,eb,l⟩
 ·subst ey;obtain⟨z,hd,vs,rel,dd⟩:=zJt I.hok e;obtain⟨w',hw,rw'⟩:=RelO.some_of (v:=v) (o:=valueAt vs k) (by rw[l];exact rel.val k);exact wpAny_getItem_of (zJk ry) dd.mapOf hw (h w' _ (I.tok _) rw')
 ·subst ey;cases(show u=Value.ref b from ry);obtain⟨z,hd,xs,rel,dd⟩:=zJq I.hok e;obtain⟨w',hw,rw'⟩:=RelO.some_of (v:=v) (o:=(atKey xs k).map (·.2)) (by rw[l];exact rel.val k);obtain⟨p,hp,hp2⟩:=vQ.mp hw;refine wpAny_getItem_heap (yo hu) (zFb I.hok eb) dd hp ?_;rw[hp2];exact h w' _ (I.tok _) rw'
def d_in{Q:Value->Shared->Prop}(hu:A.units+1<cLine)(I:Inv X pins σ H s)(g:DGet H a y o)(ry:RelV y u)(h:∀s',Inv X pins σ H s'->Q (.bool o.isSome) s'):
  wpAny (model X.prog X.w) A (compareOp .In u (.ref a)) Q E s:=by
 rcases g with⟨kvs,k,e,ey,l⟩|⟨kvs,k,b,e,ey,eb,l⟩
 ·subst ey;obtain⟨z,hd,vs,rel,dd⟩:=zJt I.hok e;refine wpAny_in_of (zJk ry) hd dd.mapOf ?_;rw[<- (rel.val k).isSome_eq,<- l];exact h _ (I.tok _)
 ·subst ey;cases(show u=Value.ref b from ry);obtain⟨z,hd,xs,rel,dd⟩:=zJq I.hok e;refine wpAny_in_heap (yo hu) (zFb I.hok eb) hd dd ?_;have q:=(rel.val k).isSome_eq;rw[Option.isSome_map]at q;rw[<- q,<- l];exact h _ (I.tok _)
def zQo{Q:Value->Shared->Prop}(hu:A.units+1<cLine)(I:Inv X pins σ H s)(g:DGet H a y o)(ry:RelV y u)(h:∀s',Inv X pins σ H s'->Q (.bool (!o.isSome)) s'):
  wpAny (model X.prog X.w) A (compareOp .NotIn u (.ref a)) Q E s:=by
 rcases g with⟨kvs,k,e,ey,l⟩|⟨kvs,k,b,e,ey,eb,l⟩
 ·subst ey;obtain⟨z,hd,vs,rel,dd⟩:=zJt I.hok e;refine wpAny_notIn_of (zJk ry) hd dd.mapOf ?_;rw[<- (rel.val k).isSome_eq,<- l];exact h _ (I.tok _)
 ·subst ey;cases(show u=Value.ref b from ry);obtain⟨z,hd,xs,rel,dd⟩:=zJq I.hok e;refine wpAny_notIn_heap (yo hu) (zFb I.hok eb) hd dd ?_;have q:=(rel.val k).isSome_eq;rw[Option.isSome_map]at q;rw[<- q,<- l];exact h _ (I.tok _)
def zIu{h':Heap}{t':Nat}(I:Inv X pins σ H s)(mu:Mut (H a))(hs:Heap.SameBut a s.heap h')(he:∃q,h'.get? a=some q)(new:ObjOk X.prog X.w (upd H a ob) h' a ob):
  Inv X pins σ (upd H a ob) { s with heap:=h',toks:=t' }:=
 I.write (x:=a) (e:=a) mu (.inl rfl) (λb q hb z=>(hs.2 b hb).trans z) he new
def zQl{H':Hp}{h':Heap}{kvs:List (Key × V)}(z:kvs.length<=sizeLine)(hd:(a == sysModules)=false)(rel:KV kvs vs)(dd:h'.DictOf (zAu P w) a vs):
  ObjOk P w H' h' a (.dK kvs):=⟨z,hd,vs,rel,dd⟩
def zQn{Q:Unit->Shared->Prop}(hu:A.units+1<cLine)(I:Inv X pins σ H s)(g:DPut H a y v H')(ry:RelV y u)(rv:RelV v r)(h:∀s',Inv X pins σ H' s'->Q () s'):
  wpAny (model X.prog X.w) A (setItem (.ref a) u r) Q E s:=by
 rcases g with⟨kvs,k,e,ey,l,eH⟩|⟨kvs,k,b,e,ey,eb,l,eH⟩
 ·subst ey eH;obtain⟨z,hd,vs,rel,dd⟩:=zYd I.hok e;have hz:vs.length<=sizeLine:=by rw[<- rel.length];exact z
  have hl:(putK kvs k v).length<=sizeLine:=by have:=zCj kvs k v;lia
  refine wpAny_setItem_pairs (hsz:=hz) (zJk ry) dd λh' dd' hs=>h _ ?_
  have he:∃q,h'.get? a=some q:=let ⟨q,_,_,hq,_⟩:=dd';⟨q,hq⟩
  exact zIu I (by rw[e];exact True.intro) hs he (zQl hl hd (rel.put k rv) dd')
 ·subst ey eH;cases(show u=Value.ref b from ry);obtain⟨z,hd,xs,rel,dd⟩:=yD9 I.hok e;have hz:xs.length<=sizeLine:=by rw[<- ue rel];exact z
  have hl:(putK kvs k v).length<=sizeLine:=by have:=zCj kvs k v;lia
  refine wpAny_setItem_heap (hsz:=hz) (yo hu) (zFb I.hok eb) dd λh' dd' hs=>h _ ?_
  obtain⟨q,es,ep,hq,h2,h3,h4,_,h5⟩:=dd';refine zIu I (by rw[e];exact True.intro) hs ⟨q,hq⟩ ⟨hl,hd,_,(rel.put k eb rv).keeps λc ys ec=>?_,q,es,ep,hq,h2,h3,h4,h5⟩;rw[zAi (yAy ec e (λz=>nomatch z))];exact ec
end
section
variable {X:Cx}{pins:List (Addr × Obj)}{σ:St}{H:Hp}{s:Shared}{a:Addr}{kvs:List (Key × V)}{k:Key}{u:Value}{A:Around}{E:Value->Shared->Prop}
def yDa{Q:Value->Shared->Prop}(I:Inv X pins σ H s)(e:Rd H a (.dK kvs))(h:∀t s',Inv X pins σ H s'->Q (.int kvs.length t) s'):wpAny (model X.prog X.w) A (call (.builtin "len") [.ref a]) Q E s:=by obtain⟨z,hd,vs,rel,dd⟩:=zJt I.hok e;refine call_len_dict hd dd (by rw[<- rel.length];rw[vC]at z;lia) ?_;rw[<- rel.length];exact h _ _ (I.tok _)
end
def zKz{s:Shared}(I:Inv X pins σ H s)(g:DGet H a y o):s.TypeIs (.ref a) "dict":=by
 rcases g with⟨kvs,k,e,_,_⟩|⟨kvs,k,b,e,_,_,_⟩
 ·obtain⟨_,_,vs,_,dd⟩:=zJt I.hok e;exact dd.typeIs
 ·obtain⟨_,_,xs,_,dd⟩:=zJq I.hok e;exact dd.typeIs
def zMf(h:Heap)(hb:sysModules<h.objs.size):ObjOk P w H (h.push { cls:=.type "dict",data:=.dict #[] }) h.objs.size (.dK []):=
 ⟨xV _,beq_eq_false_iff_ne.mpr (xv (xu hb)),[],.nil,Heap.DictOf.new h⟩
def zTp(h:Heap)(hb:sysModules<h.objs.size):ObjOk P w H (h.push { cls:=.type "dict",data:=.dict #[] }) h.objs.size (.dT []):=
 ⟨xV _,beq_eq_false_iff_ne.mpr (xv (xu hb)),[],.nil,_,#[],0,xy _ rfl,⟨rfl,rfl,rfl⟩,rfl,rfl,v8⟩
def zUd:TE:=λ_ H Q=>∀p,H p=none->Q (.ref p) (upd H p (.dK []))
def zUc:TE:=λ_ H Q=>∀p,H p=none->Q (.ref p) (upd H p (.dT []))
section
variable {X:Cx}{pos:Pos}
def zSm:PE X (.Dict [] [] pos) zUd:=λpins s σ H Q I h=>
 wpAny_Dict_empty ⟨.ref s.heap.objs.size,_,I.laid (a:=s.heap.objs.size) (o:=.dK []) (t':=s.toks) (λ_ _ q=>xq _ q) (xi _) (zMf s.heap I.big),rfl,h _ (I.hok.fresh (xi _))⟩
def zSl:PE X (.Dict [] [] pos) zUc:=λpins s σ H Q I h=>
 wpAny_Dict_empty ⟨.ref s.heap.objs.size,_,I.laid (a:=s.heap.objs.size) (o:=.dT []) (t':=s.toks) (λ_ _ q=>xq _ q) (xi _) (zTp s.heap I.big),rfl,h _ (I.hok.fresh (xi _))⟩
end
def zLe:List (TE × TE)->St->Hp->(List (V × V)->Hp->Prop)->Prop
 | [],_,H,Q=>Q [] H
 | (tk,tv)::r,σ,H,Q=>tk σ H λx H1=>tv σ H1 λy H2=>zLe r σ H2 λps H3=>Q ((x,y)::ps) H3
abbrev VV:List (V × V)->List (Value × Value)->Prop:=Paired λp q=>RelV p.1 q.1/\RelV p.2 q.2
def PPs(X:Cx)(pos:Pos)(keys:List (Option Expr))(values:List Expr)(trs:List (TE × TE)):Prop:=
 ∀(pins:List (Addr × Obj)) (s:Shared) (σ:St) (H:Hp) (Q:List (V × V)->Hp->Prop),Inv X pins σ H s->zLe trs σ H Q->
  wpAny (model X.prog X.w) X.A (evalPairs (pairTrees keys values X.env pos)) (λvs s'=>∃ps H',Inv X pins σ H' s'/\VV ps vs/\Q ps H') X.xe s
def zWm :PPs X pos [] [] []:=λpins s σ H Q I h=>pairTrees_nil_walk ⟨[],H,I,.nil,h⟩
def zSa(hk:PE X k tk)(hv:PE X v tv)(hr:PPs X pos ks vs trs):
  PPs X pos (some k::ks) (v::vs) ((tk,tv)::trs):=λpins s σ H Q I h=>
 pairTrees_cons_walk (thn (hk pins s σ H _ I h) λu s1 ⟨x,H1,I1,rx,q1⟩=>thn (hv pins s1 σ H1 _ I1 q1) λw2 s2 ⟨y,H2,I2,ry,q2⟩=>
  thn (hr pins s2 σ H2 _ I2 q2) λws s3 hz7=>by obtain⟨ps,H3,I3,rel,q3⟩:=hz7;exact ⟨(x,y)::ps,H3,I3,.cons ⟨rx,ry⟩ rel,q3⟩)
noncomputable def zF8 (kvs more:List (Key × V)):List (Key × V):=more.foldl (λacc kv=>putK acc kv.1 kv.2) kvs
def KV.merge:∀{more:List (Key × V)}{rs:List (Key × Value)}{kvs:List (Key × V)}{vs:List (Key × Value)},KV more rs->KV kvs vs->KV (zF8 kvs more) (merged vs rs):=by
 intro more rs kvs vs r;unfold KV at r;induction r generalizing kvs vs with
 | nil=>intro q;exact q
 | @cons p q ps qs h t ih=>
  intro r0;have e:KV (putK kvs p.1 p.2) (stored vs q.1 q.2):=by have:=r0.put p.1 h.2;rw[<- h.1];exact this
  exact ih e
def zEn:∀(more kvs:List (Key × V)),(zF8 kvs more).length<=kvs.length+more.length
 | [],kvs=>by show kvs.length<=kvs.length+0;lia
 | p::r,kvs=>by
  have h1:=zEn r (putK kvs p.1 p.2);have h2:=zCj kvs p.1 p.2;show(zF8 (putK kvs p.1 p.2) r).length<=_;rw[xB];lia
def zHi :∀{kvs:List (Key × V)}{ws:List (Value × Value)},VV (kvs.map λkv=>(kV kv.1,kv.2)) ws->∃rs,Carries (zAu P w) ws rs/\KV kvs rs
 | [],_,r=>by rw[x6]at r;cases r;exact⟨[],True.intro,.nil⟩
 | p::kvs,_,r=>by
  rw[xr]at r;cases r with
  | @cons a b as bs h t=>
   obtain⟨rs,c,q⟩:=zHi (P:=P) (w:=w) t;obtain⟨b1,b2⟩:=b;exact⟨(p.1,b2)::rs,⟨zJk h.1,rfl,c⟩,.cons ⟨rfl,h.2⟩ q⟩
noncomputable def zZk (trs:List (TE × TE)):TE:=λσ H Q=>∀p,H p=none->zLe trs σ (upd H p (.dK [])) λps H2=>H2 p=some (.dK [])/\∃kvs:List (Key × V),ps=kvs.map (λkv=>(kV kv.1,kv.2))/\kvs.length<=15/\Q (.ref p) (upd H2 p (.dK (zF8 [] kvs)))
def zWx{keys:List (Option Expr)}{values:List Expr}(h:PPs X pos keys values trs)(hall:keys.all (·.isSome)=true)(hl:keys.length=values.length)(h0:keys≠[])
  (h15:keys.length<=15):PE X (.Dict keys values pos) (zZk trs):=by
 intro pins s σ H Q I q;have hn:=I.hok.fresh (xi s.heap.objs.size);have I1:=I.laid (a:=s.heap.objs.size) (o:=.dK []) (h':=s.heap.push { cls:=.type "dict",data:=.dict #[] }) (t':=s.toks) (λ_ _ q=>xq _ q) (xi _) (zMf s.heap I.big);refine wpAny_Dict_walk (knd:=zAu X.prog X.w) hall hl h0 h15 (thn (h pins _ σ _ _ I1 (q _ hn)) λws s2 hq1=>?_);obtain⟨ps,H2,I2,rel,e,kvs,ep,lk,q2⟩:=hq1;subst ep;obtain⟨rs,c,rk⟩:=zHi (P:=X.prog) (w:=X.w) rel;obtain⟨z,hd,vs0,r0,dd⟩:=zYd I2.hok e;cases r0;refine⟨rs,c,dd,λh' dd' hs=>⟨.ref s.heap.objs.size,_,?_,rfl,q2⟩⟩;have hz:(zF8 [] kvs).length<=sizeLine:=by have h1:=zEn kvs [];rw[vU]at h1;rw[vC];lia
 have he:∃q,h'.get? s.heap.objs.size=some q:=let ⟨q,_,_,hq,_⟩:=dd';⟨q,hq⟩
 exact zIu I2 (by rw[e];exact True.intro) hs he (zQl hz hd (rk.merge .nil) dd')
def IsD(H:Hp)(a:Addr):Prop:=(∃kvs,Rd H a (.dK kvs))\/∃kvs,Rd H a (.dT kvs)
def zV3(I:Inv X pins σ H s)(d:IsD H a):
  s.TypeIs (.ref a) "dict"/\(∀b,Value.ref a=.ref b->∃ob,s.heap.get? b=some ob/\ob.dict=none)/\(a == sysModules)=false:=by
 rcases d with⟨kvs,e⟩|⟨kvs,e⟩
 ·obtain⟨_,hd,vs,_,dd⟩:=zJt I.hok e;refine⟨dd.typeIs,λb q=>?_,hd⟩;cases q;obtain⟨ob,_,_,h1,h2,_⟩:=dd;exact⟨ob,h1,h2.2.1⟩
 ·obtain⟨_,hd,xs,_,dd⟩:=zJq I.hok e;refine⟨dd.typeIs,λb q=>?_,hd⟩;cases q;obtain⟨ob,_,_,h1,h2,_⟩:=dd;exact⟨ob,h1,h2.2.1⟩
section
variable {X:Cx}{pins:List (Addr × Obj)}{σ:St}{H:Hp}{s:Shared}{a:Addr}{y d:V}{u r:Value}{o:Option V}{A:Around}{E:Value->Shared->Prop}
def zVd{Q:Value->Shared->Prop}(hu:A.units+1<cLine)(I:Inv X pins σ H s)(g:DGet H a y o)(ry:RelV y u)(rd:RelV d r)(h:∀w' s',Inv X pins σ H s'->RelV (o.getD d) w'->Q w' s'):
  wpAny (model X.prog X.w) A (call (.builtin "dict.get") [.ref a,u,r]) Q E s:=by
 rcases g with⟨kvs,k,e,ey,l⟩|⟨kvs,k,b,e,ey,eb,l⟩
 ·subst ey;obtain⟨z,hd,vs,rel,dd⟩:=zJt I.hok e;refine call_meetsIn PySem.F.slot_dict_get dd.typeIs PySem.F.entry_dict_get (PySem.F.args_dict_get_3 _ _ _) (meets_dict_get_default (zAu X.prog X.w) a (zJk ry) hd r) ⟨_,dd.mapOf,h _ _ (I.tok _) ?_⟩;rw[l];exact(rel.val k).getD rd
 ·subst ey;cases(show u=Value.ref b from ry);obtain⟨z,hd,xs,rel,dd⟩:=zJq I.hok e;refine call_meetsIn PySem.F.slot_dict_get dd.typeIs PySem.F.entry_dict_get (PySem.F.args_dict_get_3 _ _ _) (meetsH_dict_get_default (tupleKind (zAu X.prog X.w)) a b hd r) ⟨yo hu,k,xs,zFb I.hok eb,dd,h _ _ (I.tok _) ?_⟩;rw[l];exact(rel.val k).getD rd
end
end L2
namespace HT
open PySem PyProof.Rows
section
open PySem.SeqAt
open PySem.AutoSeq1 (wpAny_loadPart')
open PySem.MeetsSeq PySem.MeetsSeq2 PySem.MeetsSeq3
end
section
variable {prog:Program}{w:World}{A:Around}{E:Value->Shared->Prop}{s:Shared}
def cat_tup{vs ws:List Value}{Q:Value->Shared->Prop}(ht:IsTup s.heap t vs.toArray)(hb:IsTup s.heap b ws.toArray)(hv:vs≠[])
  (h1:ws=[]->Q (.ref t) s) (h2:ws≠[]->Q (.ref s.heap.objs.size) { s with heap:=s.heap.push { cls:=.type "tuple",data:=.seq (vs++ws).toArray } })
  (hsz:vs.length+ws.length<=sizeLine):wpAny (model prog w) A (binaryOp .Add (.ref t) (.ref b)) Q E s:=by
 obtain⟨⟨cls,dd,data,sl⟩,ho,hc,n,hd⟩:=id ht;obtain⟨⟨cls2,dd2,data2,sl2⟩,ho2,hc2,n2,hd2⟩:=id hb;simp only at hc hd hc2 hd2;subst hc hd hc2 hd2;have e:vs.toArray++ws.toArray=(vs++ws).toArray:=by simp
 by_cases hw:ws=[]
 ·exact concat_meets ⟨_,ho,rfl⟩ ⟨_,ho2,rfl⟩ noFill_tuple_add seq_tuple_add PySem.F.slot_tuple_add PySem.F.entry_tuple_add (PySem.F.args_tuple_add_2 _ _)
   (tuple_addW1 t b vs.toArray ws.toArray n n2 dd dd2 sl sl2 (by simpa using hv) (by simp[hw])) ⟨ho,ho2,h1 hw⟩
 ·refine concat_meets ⟨_,ho,rfl⟩ ⟨_,ho2,rfl⟩ noFill_tuple_add seq_tuple_add PySem.F.slot_tuple_add PySem.F.entry_tuple_add (PySem.F.args_tuple_add_2 _ _)
   (tuple_addW2 t b vs.toArray ws.toArray n n2 dd dd2 sl sl2 (by simpa using hv) (by simpa using hw) (by rw[xA,xA];exact hsz)) ⟨ho,ho2,?_⟩
  rw[e];exact h2 hw
noncomputable def sIx (n d:Nat):Option Int->Nat
 | none=>d
 | some v=>if v<0 then(v+(n:Int)).toNat else min v.toNat n
def zZn(n d:Nat)(hd:d<=n)(o:Option Int):sIx n d o<=n:=by
 cases o with
 | none=>exact hd
 | some v=>
  show(if v<0 then(v+(n:Int)).toNat else min v.toNat n)<=n;by_cases hv:v<0
  ·rw[xf hv];lia
  ·rw[xg hv];exact Nat.min_le_right _ _
def zQw(v:Int)(n d:Nat):(if v<0 then max (v+(n:Int)) 0 else min v (n:Int))=((sIx n d (some v):Nat):Int):=by
 show(if v<0 then max (v+(n:Int)) 0 else min v (n:Int))=(((if v<0 then(v+(n:Int)).toNat else min v.toNat n):Nat):Int);by_cases hv:v<0
 ·simp only[xf hv];lia
 ·simp only[xg hv];lia
def zNr(lo hi:Option Int)(n:Nat):Builtin.Slice.sliceAdjust lo hi 1 (n:Int)=(((sIx n 0 lo:Nat):Int),((sIx n n hi:Nat):Int)):=by
 have h1:¬ ((1:Int)<0):=by nofun
 unfold Builtin.Slice.sliceAdjust;simp only[h1,xI];refine Prod.ext ?_ ?_
 ·cases lo with
  | none=>rfl
  | some v=>exact zQw v n 0
 ·cases hi with
  | none=>rfl
  | some v=>exact zQw v n n
def zMw(i j:Nat):Builtin.Slice.slicePlaces (i:Int) (j:Int) 1=j-i:=by
 unfold Builtin.Slice.slicePlaces;have h1:(1:Int) > 0:=by nofun
 simp only[h1,xl,Int.ediv_one];split <;> lia
def zH4{o:Option Int}{Q:Option Int->Shared->Prop}(p:IsPart v o)(h:Q o s):wpAny (model prog w) A (Builtin.Slice.slicePartIndex v) Q E s:=by
 cases p with
 | none=>exact slicePart_none h
 | int i t=>exact slicePart_int h
def sliceApplied_gen{lo hi:Option Int}{n:Nat}{Q:Int × Int × Nat->Shared->Prop}(hs:s.heap.IsSliceOf sl vl vu .none)(pl:IsPart vl lo)(pu:IsPart vu hi)
  (h:Q (((sIx n 0 lo:Nat):Int),1,sIx n n hi-sIx n 0 lo) s):wpAny (model prog w) A (Builtin.Slice.sliceApplied (.ref sl) (pure (n:Int))) Q E s:=by
 obtain⟨os,hos,hcs,hds⟩:=id hs;unfold Builtin.Slice.sliceApplied Builtin.Slice.sliceFields;refine xc (xc (vD hos hds (x:=vl) rfl (xc (vD hos hds (x:=vu) rfl (xc (vD hos hds (x:=.none) rfl (xh ?_)))))));refine xc (slicePart_none ?_);show wpAny _ _ (if((1:Int) == 0)=true then _ else _) _ _ s;rw[xg (by decide)];refine xc (zH4 pl (xc (zH4 pu (xc (xh ?_)))));show wpAny _ _ (match Builtin.Slice.sliceAdjust lo hi 1 (n:Int)with|(lo,hi)=>pure (lo,(1:Int),Builtin.Slice.slicePlaces lo hi 1)) _ _ s;rw[zNr lo hi n];show wpAny _ _ (pure (((sIx n 0 lo:Nat):Int),(1:Int),Builtin.Slice.slicePlaces ((sIx n 0 lo:Nat):Int) ((sIx n n hi:Nat):Int) 1)) _ _ s;rw[zMw];exact xh h
def zSf(xs:Array Value)(i k:Nat):((List.range k).filterMap fun(m:Nat)=>xs[((i:Int)+(m:Int)*1).toNat]?).toArray=((xs.toList.drop i).take k).toArray:=by
 have e:(fun(m:Nat)=>xs[((i:Int)+(m:Int)*1).toNat]?)=λm=>xs[i+m]?:=by
  funext m
  have:((i:Int)+(m:Int)*1).toNat=i+m:=by nofun
  rw[this]
 rw[e];have:=pick_run xs i k;rw[List.filterMap_map]at this;have e2:((λx=>xs[x]?) ∘ λx=>i+x)=λm=>xs[i+m]?:=rfl
 rw[e2]at this;rw[this]
def getItem_tuple_cut{lo hi:Option Int}{Q:Value->Shared->Prop}(ht:IsTup s.heap t items)(hs:s.heap.IsSliceOf sl vl vu .none)(pl:IsPart vl lo)(pu:IsPart vu hi)
  (hw:¬ (sIx items.size 0 lo=0/\sIx items.size items.size hi=items.size))
  (h:Q (.ref s.heap.objs.size) { s with heap:=s.heap.push { cls:=.type "tuple",data:=.seq ((items.toList.drop (sIx items.size 0 lo)).take (sIx items.size items.size hi-sIx items.size 0 lo)).toArray } })
  (hsz:items.size<=sizeLine):wpAny (model prog w) A (getItem (.ref t) (.ref sl)) Q E s:=by
 have htake:sizeOk (.seq ((items.toList.drop (sIx items.size 0 lo)).take (sIx items.size items.size hi-sIx items.size 0 lo)).toArray):=by show((items.toList.drop (sIx items.size 0 lo)).take (sIx items.size items.size hi-sIx items.size 0 lo)).toArray.size<=sizeLine;rw[xA,vd,ug,vf];lia
 have hj:sIx items.size items.size hi<=items.size:=zZn _ _ (xi _) hi;obtain⟨os,hos,hcs,hds⟩:=id hs;have hTs:s.TypeIs (.ref sl) "slice":=⟨os,hos,hcs⟩;unfold getItem
 try with_reducible refine xP ?_
 first|refine xc (xh ?_)|skip
 refine xc (wpAny_sequenceKey ht.typeIs (by decide) ?_);refine xc (vv (name:=Str.ofString "__getitem__") ht.typeIs uN
  (xK uN ht.typeIs entry_tuple_getitem ?_ (args_tuple_getitem _ _)))
 show wpAny _ _ (Builtin.Tuple.tupleItemsOf (.ref t) >>= _) _ _ s;refine xc (tupleItemsOf_ ht ?_);refine xc (v9 hTs ?_);rw[xf (by decide)];refine xc (sliceApplied_gen hs pl pu ?_);have hno:¬ ((((sIx items.size 0 lo:Nat):Int) == 0 && (1:Int) == 1 && (sIx items.size items.size hi-sIx items.size 0 lo) == items.size)=true):=by intro q;rw[xM,xM]at q;have q1:((sIx items.size 0 lo:Nat):Int)=0:=eq_of_beq q.1.1;have q2:sIx items.size items.size hi-sIx items.size 0 lo=items.size:=eq_of_beq q.2;exact hw ⟨by nofun,by nofun⟩
 show wpAny _ _ (if(((sIx items.size 0 lo:Nat):Int) == 0 && (1:Int) == 1 && (sIx items.size items.size hi-sIx items.size 0 lo) == items.size)=true then _ else _) _ _ s;rw[xg hno,zSf];first
  | exact xc (m:=Builtin.Tuple.tupleExact _) (xW (xh ⟨_,rfl,xh h⟩) htake)
  | exact xc (m:=Builtin.Tuple.tupleExact _) (xW (xc (xh (xh ⟨_,rfl,xh h⟩))) htake)
  | exact xc (xc (m:=Builtin.Tuple.tupleExact _) (xW (xh (xh ⟨_,rfl,xh h⟩)) htake))
  | exact xc (xc (m:=Builtin.Tuple.tupleExact _) (xW (xh ⟨_,rfl,xh h⟩) htake))
end
end HT
namespace L2
open PySem PySem.Spec PyProof.Rows
abbrev TO:=St->Hp->(Option Int->Hp->Prop)->Prop
def PO(X:Cx)(e:Option Expr)(t:TO):Prop:=
 ∀(pins:List (Addr × Obj)) (s:Shared) (σ:St) (H:Hp) (Q:Option Int->Hp->Prop),Inv X pins σ H s->t σ H Q->
  wpAny (model X.prog X.w) X.A (evalPart e X.env) (λu s'=>∃o H',Inv X pins σ H' s'/\IsPart u o/\Q o H') X.xe s
def zNz:TO:=λ_ H Q=>Q none H
def zZg(t:TE):TO:=λσ H Q=>t σ H λx H1=>∃i,x=.int i/\Q (some i) H1
section
variable {X:Cx}{e:Expr}{te:TE}{lo hi:Option Expr}{tl th:TO}{pos p2:Pos}
def zWo:PO X none zNz:=by intro pins s σ H Q I h;rw[evalPart_none];exact xh ⟨none,H,I,.none,h⟩
def zWn(h:PE X e te):PO X (some e) (zZg te):=by
 intro pins s σ H Q I hw;rw[evalPart_some];refine thn (h pins s σ H _ I hw) λu s1 hq1=>?_
 obtain⟨x,H1,I1,r1,q1⟩:=hq1;obtain⟨i,rfl,q⟩:=q1;obtain⟨t,rfl⟩:=r1;exact⟨some i,H1,I1,.int i t,q⟩
def SlR(X:Cx)(r:V->Option Int->Option Int->Hp->VK->Prop):Prop:=
 ∀(pins:List (Addr × Obj)) (s:Shared) (σ:St) (H:Hp) (x:V) (v vl vu:Value) (lo hi:Option Int) (sl:Addr) (Q:VK),Inv X pins σ H s->RelV x v->s.heap.IsSliceOf sl vl vu .none->IsPart vl lo->IsPart vu hi->r x lo hi H Q->
  ∃T id,typeLookup (.type T) "__getitem__"=pure (some (.builtin id))/\s.TypeIs v T/\wpAny (model X.prog X.w) X.A (getItem v (.ref sl)) (EP X pins σ Q) X.xe s
noncomputable def tSl (r:V->Option Int->Option Int->Hp->VK->Prop) (te:TE) (tl th:TO):TE:=λσ H Q=>te σ H λx H1=>tl σ H1 λl H2=>th σ H2 λu H3=>r x l u H3 Q
def zSj{r:V->Option Int->Option Int->Hp->VK->Prop}(hr:SlR X r)(he:PE X e te)(hl:PO X lo tl)(hu:PO X hi th):PE X (.Subscript e (.Slice lo hi none p2) pos) (tSl r te tl th):=by
 intro pins s σ H Q I h;refine Subscript_ (thn (he pins s σ H _ I h) λv s1 hq1=>?_);obtain⟨x,H1,I1,r1,q1⟩:=hq1;refine wpAny_Slice (thn (hl pins s1 σ H1 _ I1 q1) λvl s2 ⟨l,H2,I2,pl,q2⟩=>thn (hu pins s2 σ H2 _ I2 q2) λvu s3 hq1=>?_);obtain⟨u,H3,I3,pu,q3⟩:=hq1;rw[evalPart_none];refine xh ?_;have I4:Inv X pins σ H3 { s3 with heap:=s3.heap.push { cls:=.type "slice",data:=.fields #[vl,vu,.none] } }:=I3.kept (t':=s3.toks) λb ob q=>xq _ q
 obtain⟨T,id,hT,ht,hg⟩:=hr pins { s3 with heap:=s3.heap.push { cls:=.type "slice",data:=.fields #[vl,vu,.none] } } σ H3 x v vl vu l u s3.heap.objs.size Q I4 r1 (Heap.IsSliceOf.new ..) pl pu q3;show wpAny (model X.prog X.w) X.A (subscriptTail e (.Slice lo hi none p2) v (.ref s3.heap.objs.size)) (EP X pins σ Q) X.xe { s3 with heap:=s3.heap.push { cls:=.type "slice",data:=.fields #[vl,vu,.none] } };exact tail_any (ops:=[.ref s3.heap.objs.size,v]) ht hT hg (by with_unfolding_all rfl)
noncomputable def cutV (xs:List V) (lo hi:Option Int):List V:=(xs.drop (HT.sIx xs.length 0 lo)).take (HT.sIx xs.length xs.length hi-HT.sIx xs.length 0 lo)
def zGm(xs:List V)(lo hi:Option Int):(cutV xs lo hi).length<=xs.length:=by unfold cutV;rw[vd,ug];lia
def rSlT(K:PySem.W.Frag):V->Option Int->Option Int->Hp->VK->Prop:=λx lo hi H Q=>∃a xs,x=.ref a/\SqT K H a xs /\
 ¬ (HT.sIx xs.length 0 lo=0/\HT.sIx xs.length xs.length hi=xs.length)/\∀p,H p=none->Q (.ref p) (upd H p (.tup (cutV xs lo hi)))
def zUf:SlR X (rSlT X.K):=by
 intro pins s σ H x v vl vu lo hi sl Q I rx hs pl pu h;obtain⟨a,xs,rfl,hx,hw,q⟩:=h;cases rx;obtain⟨its,r,ht,hz⟩:=I.tuple hx;have hlen:its.toArray.size=xs.length:=by rw[xA];exact r.length.symm
 refine⟨"tuple",_,uN.lookup,ht.typeIs,?_⟩;refine HT.getItem_tuple_cut ht hs pl pu (by rw[hlen];exact hw) ?_ (by rw[hlen];exact hz);rw[hlen];refine⟨.ref s.heap.objs.size,_,I.laid (t':=s.toks) (o:=.tup (cutV xs lo hi)) (λb ob q=>xq _ q) (xi _) ?_,rfl,q _ (I.hok.fresh (xi _))⟩;exact⟨xm (zGm xs lo hi) hz,_,(r.drop (HT.sIx xs.length 0 lo)).take (HT.sIx xs.length xs.length hi-HT.sIx xs.length 0 lo),IsTup.new _ _⟩
noncomputable def yCp (K:PySem.W.Frag):R2:=λx y H Q=>∃a b xs ys,x=.ref a/\y=.ref b/\SqT K H a xs/\SqT K H b ys/\xs≠[]/\xs.length+ys.length<=sizeLine /\
 (ys=[]->Q (.ref a) H)/\(ys≠[]->∀p,H p=none->Q (.ref p) (upd H p (.tup (xs++ys))))
def Vals.nil_iff(r:Vals xs us):us=[] <-> xs=[]:=by
 cases r with
 | nil=>simp
 | cons _ _=>simp
def zX7:OpR X (binaryOp .Add) (yCp X.K):=by intro pins s σ H x y v u Q I rx ry h;obtain⟨a,b,xs,ys,rfl,rfl,ha,hb,hx,hz,q1,q2⟩:=h;cases rx;cases ry;obtain⟨its,r1,p1,_⟩:=I.tuple ha;obtain⟨its2,r2,p2,_⟩:=I.tuple hb;refine HT.cat_tup p1 p2 (λz=>hx (r1.nil_iff.mp z)) (λz=>⟨.ref a,H,I,rfl,q1 (r2.nil_iff.mp z)⟩) (λz=>?_) (by rw[<- r1.length,<- r2.length];exact hz);refine⟨.ref s.heap.objs.size,_,I.laid (t':=s.toks) (o:=.tup (xs++ys)) (λb ob q=>xq _ q) (xi _) ?_,rfl,q2 (λw=>z (r2.nil_iff.mpr w)) _ (I.hok.fresh (xi _))⟩;exact⟨by rw[xw];exact hz,_,r1.append r2,IsTup.new _ _⟩
end
noncomputable def ixN (n:Nat) (i:Int):Option Nat:=if 0<=i then(if i<n then some i.toNat else none)else if -(n:Int)<=i then some (i+n).toNat else none
noncomputable def atI {α:Type}(xs:List α) (i:Int):Option α:=(ixN xs.length i).bind λj=>xs[j]?
def zPx{n:Nat}{i:Int}{j:Nat}(h:ixN n i=some j):seqIndex? i n=some j/\j<n/\-(n:Int)<=i/\i<n:=by
 unfold ixN at h;by_cases h0:0<=i
 ·rw[xf h0]at h;by_cases h1:i<n
  ·rw[xf h1]at h;have e:i.toNat=j:=xN h;exact⟨by rw[seqIndex_of h0 h1,e],by nofun,by nofun,h1⟩
  ·rw[xg h1]at h;cases h
 ·rw[xg h0]at h;by_cases h1:-(n:Int)<=i
  ·rw[xf h1]at h;have e:(i+n).toNat=j:=xN h;exact⟨by rw[seqIndex_neg (by nofun) h1,e],by nofun,h1,by nofun⟩
  ·rw[xg h1]at h;cases h
def zL8{α:Type}{xs:List α}{i:Int}{v:α}(h:atI xs i=some v):∃j,seqIndex? i xs.length=some j/\xs[j]?=some v/\j<xs.length/\-(xs.length:Int)<=i/\i<xs.length:=by
 unfold atI at h;cases e:ixN xs.length i with
 | none=>rw[e]at h;cases h
 | some j=>
  rw[e]at h;obtain⟨h1,h2,h3,h4⟩:=zPx e;exact⟨j,h1,h,h2,h3,h4⟩
def zRj(b:Expr):Prop:=∀o i,subscripted b false o i=operate [o,i] (getItem o i)
def IxR(X:Cx)(r:R2):Prop:=
 ∀(value slice:Expr) (pins:List (Addr × Obj)) (s:Shared) (σ:St) (H:Hp) (x y:V) (v u:Value) (Q:VK),Inv X pins σ H s->RelV x v->RelV y u->r x y H Q->
  subscripted slice false v u=operate [v,u] (getItem v u)->wpAny (model X.prog X.w) X.A (subscriptTail value slice v u) (EP X pins σ Q) X.xe s
def MtR(X:Cx)(id:String)(r:V->List V->Hp->VK->Prop):Prop:=
 ∀(pins:List (Addr × Obj)) (s:Shared) (σ:St) (H:Hp) (x:V) (xs:List V) (v:Value) (us:List Value) (Q:VK),Inv X pins σ H s->RelV x v->Vals xs us->r x xs H Q->
  wpAny (model X.prog X.w) X.A (call (.builtin id) (v::us)) (EP X pins σ Q) X.xe s
section
variable {X:Cx}{a b:Expr}{ta tb:TE}{pos:Pos}
def yCu(hr:IxR X r)(ha:PE X a ta)(hb:PE X b tb)(hs:zRj b):PE X (.Subscript a b pos) (tOp r ta tb):=by intro pins s σ H Q I h;exact Subscript_ (binT ha hb I h λv u s2 x y H2 I2 rx ry q=>hr a b pins s2 σ H2 x y v u Q I2 rx ry q (hs _ _))
noncomputable def rIxL (K:PySem.W.Frag):R2:=λx y H Q=>∃p xs i v,x=.ref p/\y=.int i/\SqL K H p xs/\atI xs i=some v/\Q v H
noncomputable def rIxT (K:PySem.W.Frag):R2:=λx y H Q=>∃p xs i v,x=.ref p/\y=.int i/\SqT K H p xs/\atI xs i=some v/\Q v H
noncomputable def rIxS:R2:=λx y H Q=>∃z i c,x=.str z/\y=.int i/\z.length<=sizeLine/\atI z.cps.toList i=some c/\Q (.str ⟨#[c]⟩) H
def zXq:IxR X (rIxL X.K):=by
 intro value slice pins s σ H x y v u Q I rx ry h hs;obtain⟨p,xs,i,z,rfl,rfl,hq,he,q⟩:=h;cases rx;obtain⟨t,rfl⟩:=ry;obtain⟨its,r,pl,hz⟩:=I.list hq;obtain⟨j,h1,h2,h3,h4,h5⟩:=zL8 he;obtain⟨w,ew,rw'⟩:=r.get h2;have hl:=r.length;have hn:=line63;have fin:EP X pins σ Q w s:=⟨z,H,I,rw',q⟩;by_cases h0:0<=i
 ·have hj:i.toNat=j:=by
   rw[seqIndex_of h0 h5]at h1;exact xN h1
  exact item_listR pl.isList h0 (by nofun) (by rw[hj];simpa using ew) fin hs
 ·have hj:(i+(its.toArray.size:Int)).toNat=j:=by
   rw[seqIndex_neg (by nofun) h4]at h1;rw[xA,<- hl];exact xN h1
  exact subscriptTail_builtinR (x:=w) pl.isList.typeIs slot_list_getitem.lookup
   (wpAny_getItem_list_neg (Q:=λr s'=>r=w/\EP X pins σ Q r s') pl.isList (by nofun) (by rw[xA] <;> lia) (by nofun) (by rw[hj];simpa using ew) ⟨rfl,fin⟩) hs
def yBg:IxR X (rIxT X.K):=by
 intro value slice pins s σ H x y v u Q I rx ry h hs;obtain⟨p,xs,i,z,rfl,rfl,hq,he,q⟩:=h;cases rx;obtain⟨t,rfl⟩:=ry;obtain⟨its,r,pl,hz⟩:=I.tuple hq;obtain⟨j,h1,h2,h3,h4,h5⟩:=zL8 he;obtain⟨w,ew,rw'⟩:=r.get h2;have hl:=r.length;have hn:=line63;have fin:EP X pins σ Q w s:=⟨z,H,I,rw',q⟩;exact subscriptTail_builtinR (x:=w) pl.typeIs slot_tuple_getitem.lookup
  (getItem_tuple (j:=j) (Q:=λr s'=>r=w/\EP X pins σ Q r s') pl (by nofun) (by nofun) (by rw[xA,<- hl];exact h1) (by simpa using ew) ⟨rfl,fin⟩) hs
def yBh:IxR X rIxS:=by
 intro value slice pins s σ H x y v u Q I rx ry h hs;obtain⟨z,i,c,rfl,rfl,hz,he,q⟩:=h;obtain⟨t,rfl⟩:=rx;obtain⟨t',rfl⟩:=ry;obtain⟨j,h1,h2,h3,h4,h5⟩:=zL8 he;have hl:z.cps.toList.length=z.length:=by simp[Str.length]
 rw[hl]at h1 h4 h5;have hn:=line63;exact tail_any (typeIs_str s z t) slot_str_getitem.lookup (getItem_str (c:=c) (by
  have e1:decide (i < -(2 ^ 63:Int))=false:=xC (by nofun);have e2:decide (i >= 2 ^ 63)=false:=xC (by nofun);rw[e1,e2,Bool.or_false]) (by rw[h1];simpa using h2) ⟨.str ⟨#[c]⟩,H,I.tok _,⟨_,rfl⟩,q⟩) hs
def zN5(its:List Value)(n j:Nat)(u:Value):Obj.mapSeq (·.setIfInBounds j u) { cls:=.type "list",data:=.seq its.toArray n }={ cls:=.type "list",data:=.seq (its.set j u).toArray n }:=by simp[Obj.mapSeq]
def Inv.lst{H:Hp}(I:Inv X pins σ H s)(h:H p=some (.lst xs)):
  ∃(its:List Value) (n:Nat),Vals xs its/\s.heap.get? p=some { cls:=.type "list",data:=.seq its.toArray n }/\xs.length<=sizeLine:=by
 obtain⟨z,its,n,r,e⟩:=I.hok p _ h;exact⟨its,n,r,e,z⟩
def Inv.lstUpd{H:Hp}{ys:List V}{its its':List Value}{n n':Nat}{f:Obj->Obj}(I:Inv X pins σ H s)(h:H p=some (.lst xs))
  (ho:s.heap.get? p=some { cls:=.type "list",data:=.seq its.toArray n }) (hf:f { cls:=.type "list",data:=.seq its.toArray n }={ cls:=.type "list",data:=.seq its'.toArray n' }) (r:Vals ys its') (hz:ys.length<=sizeLine) (t:Nat):
  Inv X pins σ (upd H p (.lst ys)) { s with heap:=s.heap.update p f,toks:=t }:=by
 have e:(s.heap.update p f).get? p=some { cls:=.type "list",data:=.seq its'.toArray n' }:=by rw[uh f ho (by rw[hf] <;> rfl),hf]
 refine I.write (x:=p) (e:=p) (by rw[h];trivial) (.inl rfl) (λb u hb q=>(yb _ _ (xv hb)).trans q) ⟨_,e⟩ ?_;exact⟨hz,its',n',r,e⟩
def yCo:V->V->V->Hp->(Hp->Prop)->Prop:=λo i v H Q=>∃p xs k j,o=.ref p/\i=.int k/\H p=some (.lst xs)/\ixN xs.length k=some j/\Q (upd H p (.lst (xs.set j v)))
def set_list:PSet X yCo:=by
 intro pins s σ H o i v ov iv u Q I ro ri rv h;obtain⟨p,xs,k,j,rfl,rfl,hp,hj,q⟩:=h;cases ro;obtain⟨t,rfl⟩:=ri;obtain⟨its,n,r,ho,hz⟩:=I.lst hp;obtain⟨h1,h2,h3,h4⟩:=zPx hj;have hl:=r.length;have hn:=line63;have I':Inv X pins σ (upd H p (.lst (xs.set j v))) { s with heap:=s.heap.update p (Obj.mapSeq (·.setIfInBounds j u)) }:=
  I.lstUpd hp ho (zN5 its n j u) (r.set rv j) (by rw[List.length_set];exact hz) s.toks
 by_cases h0:0<=k
 ·have hk:k.toNat=j:=by
   rw[seqIndex_of h0 h4]at h1;exact xN h1
  exact PySem.W.ki_setAt ho h0 (by nofun) (by rw[xA,<- hl];exact h4) (by rw[hk];exact⟨_,I',q⟩)
 ·have hk:(k+(its.toArray.size:Int)).toNat=j:=by
   rw[seqIndex_neg (by nofun) h3]at h1;rw[xA,<- hl];exact xN h1
  exact PySem.W.ki_setBack ho (by nofun) (by rw[xA,<- hl];exact h3) (by nofun) (by rw[hk];exact⟨_,I',q⟩)
def zJ8(lo hi:Option Int)(n:Nat):(sliceBounds lo hi none n).1=((HT.sIx n 0 lo:Nat):Int)/\(sliceBounds lo hi none n).2.1=((HT.sIx n n hi:Nat):Int)/\(sliceBounds lo hi none n).2.2=1:=by
 refine⟨?_,?_,rfl⟩
 ·cases lo with
  | none=>simp[sliceBounds,HT.sIx]
  | some i=>
   simp only[sliceBounds,HT.sIx,Option.getD_none,show(1:Int) > 0 by decide,xl];by_cases h:i<0
   ·simp only[h,xl] <;> lia
   ·simp only[h,xI] <;> lia
 ·cases hi with
  | none=>simp[sliceBounds,HT.sIx]
  | some i=>
   simp only[sliceBounds,HT.sIx,Option.getD_none,show(1:Int) > 0 by decide,xl];by_cases h:i<0
   ·simp only[h,xl] <;> lia
   ·simp only[h,xI] <;> lia
def zHs(its:List Value)(lo hi:Option Int):slicePick its.toArray lo hi none=((its.drop (HT.sIx its.length 0 lo)).take (HT.sIx its.length its.length hi-HT.sIx its.length 0 lo)).toArray:=by obtain⟨h1,h2,h3⟩:=zJ8 lo hi its.toArray.size;unfold slicePick;rw[h1,h2,h3];simp only[sliceRange_one,pick_run,xA] <;> rfl
def rSlL(K:PySem.W.Frag):V->Option Int->Option Int->Hp->VK->Prop:=λx lo hi H Q=>∃a xs,x=.ref a/\SqL K H a xs/\∀p,H p=none->Q (.ref p) (upd H p (.lst (cutV xs lo hi)))
def zW0:SlR X (rSlL X.K):=by intro pins s σ H x v vl vu lo hi sl Q I rx hs pl pu h;obtain⟨a,xs,rfl,hx,q⟩:=h;cases rx;obtain⟨its,r,ht,hz⟩:=I.list hx;have hlen:=r.length;refine⟨"list",_,slot_list_getitem.lookup,ht.isList.typeIs,?_⟩;refine wpAny_getItem_list_slice ht.isList hs pl pu .none (by simp) ?_ (by rw[xA] <;> lia);rw[zHs,<- hlen];refine⟨.ref s.heap.objs.size,_,I.laid (t':=s.toks) (o:=.lst (cutV xs lo hi)) (λb ob q=>xq _ q) (xi _) ?_,rfl,q _ (I.hok.fresh (xi _))⟩;exact⟨xm (zGm xs lo hi) hz,_,0,(r.drop (HT.sIx xs.length 0 lo)).take (HT.sIx xs.length xs.length hi-HT.sIx xs.length 0 lo),xy _ rfl⟩
def zJz:zBl X (.builtin "len") (λxs H Q=>∃p ys,xs=[.ref p]/\(SqL X.K H p ys\/SqT X.K H p ys)/\Q (.int ys.length) H):=by
 intro pins s σ H xs us Q I r h;obtain⟨p,ys,rfl,hq,q⟩:=h;obtain⟨u,rfl,rx⟩:=vals1 r;cases rx;have hn:=line63;rcases hq with hq|hq
 ·obtain⟨its,r',pl,hz⟩:=I.list hq;have hlen:=r'.length;exact Calls.call_len_list pl.isList (by simp only[xA] <;> lia) ⟨.int ys.length,H,I.tok _,⟨s.toks+1,by rw[xA,hlen]⟩,q⟩
 ·obtain⟨its,r',pl,hz⟩:=I.tuple hq;have hlen:=r'.length;exact len_tuple pl (by simp only[xA] <;> lia) ⟨.int ys.length,H,I.tok _,⟨s.toks+1,by rw[xA,hlen]⟩,q⟩
def zJy:zBl X (.builtin "len") (λxs H Q=>∃z,xs=[.str z]/\z.length<=sizeLine/\Q (.int z.length) H):=by intro pins s σ H xs us Q I r h;obtain⟨z,rfl,hz,q⟩:=h;obtain⟨u,rfl,t,rfl⟩:=vals1 r;have hn:=line63;exact len_str (by nofun) ⟨.int z.length,H,I.tok _,⟨_,rfl⟩,q⟩
def zDb:zBl X (.type "tuple") (λxs H Q=>∃p ys,xs=[.ref p]/\((SqL X.K H p ys/\∀l,H l=none->Q (.ref l) (upd H l (.tup ys)))\/(SqT X.K H p ys/\Q (.ref p) H))):=by
 intro pins s σ H xs us Q I r h;obtain⟨p,ys,rfl,h⟩:=h;obtain⟨u,rfl,rx⟩:=vals1 r;cases rx;rcases h with⟨hq,q⟩|⟨hq,q⟩
 ·obtain⟨its,r',pl,hz⟩:=I.list hq;have hlen:=r'.length;refine call_tuple_list pl.isList (λh' kp=>?_) (by simp only[xA] <;> lia);have I1:Inv X pins σ H { s with heap:=h' }:=I.kept (t':=s.toks) kp;have I2:Inv X pins σ (upd H h'.objs.size (.tup ys)) { s with heap:=h'.push { cls:=.type "tuple",data:=.seq its.toArray } }:=
   I1.laid (t':=s.toks) (λb o e=>xq _ e) (xi _) (show ObjOk X.prog X.w _ _ _ (.tup ys)from⟨hz,its,r',IsTup.new _ _⟩)
  exact⟨.ref h'.objs.size,_,I2,rfl,q _ (I1.hok.fresh (xi _))⟩
 ·obtain⟨its,r',pl,hz⟩:=I.tuple hq;exact call_tuple_same pl ⟨.ref p,H,I,rfl,q⟩
def tyV(K:PySem.W.Frag)(T:String)(x:V)(H:Hp):Prop:=match x with
 | .str _=>T="str"
 | .int _=>T="int"
 | .ref p=>(T="list"/\∃xs,SqL K H p xs)\/(T="tuple"/\∃o,K.lookup p=some o/\o.cls=.type "tuple"/\o.dict=none) \/
   (T="dict"/\((∃kvs,Rd H p (.dK kvs))\/∃kvs,Rd H p (.dT kvs)))\/(T="set"/\∃S n,H p=some (.set S n))
 | _=>False
def zU9(I:Inv X pins σ H s)(r:RelV x v)(ty:tyV X.K T x H):
  s.TypeIs v T/\∀a,v=.ref a->∃ob,s.heap.get? a=some ob/\ob.dict=none:=by
 cases x with
 | str z=>
  obtain⟨t,rfl⟩:=r;cases(show T="str" from ty);exact⟨typeIs_str s z t,λ_ e=>nomatch e⟩
 | int i=>
  obtain⟨t,rfl⟩:=r;cases(show T="int" from ty);exact⟨typeIs_int s i t,λ_ e=>nomatch e⟩
 | ref p=>
  cases r;rcases ty with⟨rfl,xs,hq⟩|⟨rfl,o,hk,hc,hd⟩|⟨rfl,hk⟩|⟨rfl,S,n,hk⟩
  ·obtain⟨its,_,pl,_⟩:=I.list hq;refine⟨pl.isList.typeIs,λa e=>?_⟩;cases e;obtain⟨o,n,e,c,hd,_⟩:=pl;exact⟨o,e,hd⟩
  ·refine⟨⟨o,I.kIn p o hk,hc⟩,λa e=>?_⟩;cases e;exact⟨o,I.kIn _ o hk,hd⟩
  ·have z:∃o,s.heap.get? p=some o/\o.ExactDict:=by
    rcases hk with⟨kvs,hk⟩|⟨kvs,hk⟩
    ·obtain⟨_,_,_,_,o,_,_,e,ex,_⟩:=(show ObjOk X.prog X.w H s.heap p (.dK kvs)from zOi I.hok hk);exact⟨o,e,ex⟩
    ·obtain⟨_,_,_,_,o,_,_,e,ex,_⟩:=(show ObjOk X.prog X.w H s.heap p (.dT kvs)from zOi I.hok hk);exact⟨o,e,ex⟩
   obtain⟨o,e,ex⟩:=z;refine⟨⟨o,e,ex.1⟩,λa e2=>?_⟩;cases e2;exact⟨o,e,ex.2.1⟩
  ·obtain⟨o,_,_,_,e,ex,_⟩:=I.hok p _ hk;refine⟨⟨o,e,ex.1⟩,λa e2=>?_⟩;cases e2;exact⟨o,e,ex.2.1⟩
 | _=>exact False.elim ty
noncomputable def tBM0 (K:PySem.W.Frag) (T:String) (r:V->List V->Hp->VK->Prop) (to:TE):TE:=λσ H Q=>to σ H λx H1=>tyV K T x H1/\r x [] H1 Q
noncomputable def tBM (K:PySem.W.Frag) (T:String) (r:V->List V->Hp->VK->Prop) (to:TE) (t:TA):TE:=λσ H Q=>to σ H λx H1=>tyV K T x H1/\t σ H1 λxs H2=>r x xs H2 Q
variable {o e:Expr}{es:List Expr}{to:TE}{t:TA}{name:Str}{apos cpos:Pos}{T id:String}{r:V->List V->Hp->VK->Prop}
def yAk(pa:PlainAttrs T)(slot:Slot T name id)(hty:typeOf (.builtin id)=pure (.type "method_descriptor"))(hm:MtR X id r)(ho:PE X o to)
  (hbase:attributeBase o name X.env (eval o X.env)=eval o X.env:=by rfl) (hline:(apos.endLine == cpos.line)=true:=by rfl):PE X (.Call (.Attribute o name apos) [] [] cpos) (tBM0 X.K T r to):=by
 intro pins s σ H Q I h;refine wpAny_Call_method0_late hbase hline (thn (ho pins s σ H _ I h) λv s1 hq1=>?_);obtain⟨x,H1,I1,r1,ty,q1⟩:=hq1;obtain⟨h1,h2⟩:=zU9 I1 r1 ty;exact⟨T,id,pa,slot,hty,h1,h2,Calls.callWith_builtin rfl (PySem.evalArgs_none (hm pins s1 σ H1 x [] v [] Q I1 r1 .nil q1))⟩
def yCv(pa:PlainAttrs T)(slot:Slot T name id)(hty:typeOf (.builtin id)=pure (.type "method_descriptor"))(hm:MtR X id r)(ho:PE X o to)(ha:PA X (e::es) t)
  (hbase:attributeBase o name X.env (eval o X.env)=eval o X.env:=by rfl)
  (hfew:((backTo cpos (starEach (e::es) X.env)).all (λx=>!x.1) && (backToKw cpos (keywordEach [] X.env)).all (λx=>x.1.isSome)
   && decide ((e::es).length+([]:List Keyword).length+(if([]:List Keyword).isEmpty then 0 else 1)<30))=true:=by rfl)
  (hline:(apos.endLine == cpos.line)=true:=by rfl) (hs:starEach (e::es) X.env=(false,eval e X.env)::starEach es X.env:=by rfl) (hplain:(backTo cpos (starEach es X.env)).any (·.1)=false:=by rfl):
  PE X (.Call (.Attribute o name apos) (e::es) [] cpos) (tBM X.K T r to t):=by
 intro pins s σ H Q I h;refine wpAny_Call_method_late hbase hfew hline rfl (thn (ho pins s σ H _ I h) λv s1 hq1=>?_);obtain⟨x,H1,I1,r1,ty,q1⟩:=hq1;obtain⟨h1,h2⟩:=zU9 I1 r1 ty;refine⟨T,id,pa,slot,hty,h1,h2,?_⟩;have hA:=ha cpos pins s1 σ H1 _ I1 q1;rw[hs]at hA ⊢;refine Calls.callWith_builtin (by show(false || (backTo cpos (starEach es X.env)).any (·.1))=false;rw[hplain] <;> rfl) (Calls.evalArgs_plain ?_);exact thn hA λus s2 hz8=>by obtain⟨vs,H2,I2,r2,q2⟩:=hz8;exact hm pins s2 σ H2 x vs v us Q I2 r1 r2 q2
end
def MtM(X:Cx)(id:String)(r:V->List V->Hp->VK->Prop):Prop:=
 ∀(pins:List (Addr × Obj)) (s:Shared) (σ:St) (H:Hp) (x:V) (xs:List V) (v:Value) (us:List Value) (Q:VK),Inv X pins σ H s->RelV x v->Vals xs us->r x xs H Q->
  wpAny (model X.prog X.w) X.A (call (.builtin id) (v::us)) (EP X pins σ Q) X.xe s
def Vals.one:∀{x:V}{us:List Value},Vals [x] us->∃u,us=[u]/\RelV x u
 | _,_,.cons r .nil=>⟨_,rfl,r⟩
def Vals.zero:∀{us:List Value},Vals [] us->us=[]
 | _,.nil=>rfl
def Vals.dropLast{xs:List V}{us:List Value}(h:Vals xs us):Vals xs.dropLast us.dropLast:=by
 induction h with
 | nil=>exact .nil
 | cons r t ih=>
  cases t with
  | nil=>exact .nil
  | cons q t'=>exact .cons r ih
def Vals.reverse{xs:List V}{us:List Value}(h:Vals xs us):Vals xs.reverse us.reverse:=by
 induction h with
 | nil=>exact .nil
 | cons r t ih=>rw[List.reverse_cons,List.reverse_cons];exact Vals.append ih (.cons r .nil)
def zNe{α:Type}(l:List α):l.eraseIdx (l.length-1)=l.dropLast:=by
 induction l with
 | nil=>rfl
 | cons a r ih=>
  cases r with
  | nil=>rfl
  | cons b r=>
   have e:(a::b::r).length-1=((b::r).length-1)+1:=by have h1:(a::b::r).length=r.length+2:=rfl;have h2:(b::r).length=r.length+1:=rfl;lia
   rw[e,List.eraseIdx_cons_succ,ih]
   all_goals rfl
section
variable {X:Cx}{pins:List (Addr × Obj)}{σ:St}{H:Hp}{s:Shared}{l b:Addr}{xs ys zs:List V}
def Inv.lset{its its':List Value}{n:Nat}{f:Array Value->Array Value}{t':Nat}(I:Inv X pins σ H s)(hH:H l=some (.lst xs))
  (e:s.heap.get? l=some { cls:=.type "list",data:=.seq its.toArray n }) (hf:f its.toArray=its'.toArray) (hv:Vals ys its') (hz:ys.length<=sizeLine):
  Inv X pins σ (upd H l (.lst ys)) { s with heap:=s.heap.update l (Obj.mapSeq f),toks:=t' }:=by
 have q:=PySem.IsL.update e f;rw[hf]at q;refine I.write (x:=l) (e:=l) (by rw[hH];exact trivial) (.inl rfl) (λb' u hb hu=>(yb s.heap (Obj.mapSeq f) (xv hb)).trans hu) ⟨_,q⟩ ?_;exact⟨hz,its',_,hv,q⟩
def Inv.lnew{t':Nat}(I:Inv X pins σ H s)(hv:Vals ys its)(hz:ys.length<=sizeLine):
  Inv X pins σ (upd H s.heap.objs.size (.lst ys)) { s with heap:=s.heap.push { cls:=.type "list",data:=.seq its.toArray },toks:=t' }:=
 I.laid (λ_ _ q=>xq _ q) (xi _) ⟨hz,its,0,hv,xy _ rfl⟩
def Inv.fresh(I:Inv X pins σ H s):H s.heap.objs.size=none:=I.hok.fresh (xi _)
def Inv.lstM(I:Inv X pins σ H s)(hH:H l=some (.lst xs)):xs.length<=sizeLine/\∃(its:List Value) (n:Nat),Vals xs its/\xs.length=its.length/\s.heap.get? l=some { cls:=.type "list",data:=.seq its.toArray n }:=by obtain⟨z,its,n,r,e⟩:=I.hok l _ hH;exact⟨z,its,n,r,r.length,e⟩
def zSt{n:Nat}(h:n<=sizeLine):Builtin.List.listTooLong n=false:=by unfold Builtin.List.listTooLong;exact xC (by nofun)
end
section
variable {X:Cx}
def zWa:V->List V->Hp->VK->Prop:=λx vs H Q=>∃l xs y,x=.ref l/\vs=[y]/\H l=some (.lst xs)/\xs.length<sizeLine/\Q .non (upd H l (.lst (xs++[y])))
def zPg:MtM X "list.append" zWa:=by intro pins s σ H x vs v us Q I rx rv h;obtain⟨l,xs,y,rfl,rfl,hH,hz,q⟩:=h;cases rx;obtain⟨u,rfl,ru⟩:=rv.one;obtain⟨z,its,n,r,hl,e⟩:=I.lstM hH;refine call_meets F.slot_list_append ⟨_,e,rfl⟩ F.entry_list_append (F.args_list_append_2 _ _) (PySem.list_append l its.toArray n u (by rw[xA];lia)) ⟨e,?_⟩;refine⟨.non,_,I.lset (its':=its++[u]) hH e (by simp) (r.append (.cons ru .nil)) ?_,rfl,q⟩;rw[xw,vL];lia
def rPop:V->List V->Hp->VK->Prop:=λx vs H Q=>∃l xs y,x=.ref l/\vs=[]/\H l=some (.lst xs)/\xs[xs.length-1]?=some y/\Q y (upd H l (.lst xs.dropLast))
def yAz:MtM X "list.pop" rPop:=by
 intro pins s σ H x vs v us Q I rx rv h;obtain⟨l,xs,y,rfl,rfl,hH,hy,q⟩:=h;cases rx;have hus:=rv.zero;subst hus;obtain⟨z,its,n,r,hl,e⟩:=I.lstM hH;obtain⟨u,hu,ru⟩:=r.get hy;have hy':its.toArray[its.toArray.size-1]?=some u:=by show its.toArray[its.length-1]?=some u;rw[<- vM,<- hl];exact hu
 refine call_meets F.slot_list_pop ⟨_,e,rfl⟩ F.entry_list_pop (F.args_list_pop_1 _) (MeetsSeq.list_pop_last l its.toArray n u hy' (by rw[xA];lia)) ⟨e,?_⟩;refine⟨y,_,I.lset (its':=its.dropLast) hH e ?_ r.dropLast ?_,ru,q⟩
 ·show its.toArray.eraseIdxIfInBounds (its.toArray.size-1)=its.dropLast.toArray;rw[xA,List.eraseIdxIfInBounds_toArray,zNe]
 ·rw[List.length_dropLast];lia
end
end L2
namespace Att
open PySem PySem.W PySem.Calls PyProof.Rows
def zGh :∀(ns:List Int) (vs:List Value),WellAll P h vs (ns.map WData.int)->IntsAre vs ns:=by
 intro ns;induction ns with
 | nil=>
  intro vs w;rw[x6]at w;cases w;exact .nil
 | cons n ns ih=>
  intro vs w;rw[xr]at w;cases w with
  | cons a b=>
   cases a;exact .cons _ _ (ih _ b)
def zOf{l:OpenLaw}{n:Nat}(hn:l.most=some n){P:Params}{h:Heap}{args:List WData}{vals:List Value}
  (hpre:l.row.toRowW.claim.pre args=true) (hwl:WellAll P h vals args):
  ∃a vs ns,vals=[Value.ref a]/\args=[WData.list (ns.map WData.int)]/\h.get? a=some { cls:=.type "list",data:=.seq vs.toArray }/\IntsAre vs ns/\ns.length<=n:=by
 have hsh:WShape.hasAll [] args [.list .int]=true:=(pre_splitW hpre).1;have hc:l.pre.holds [] { args:=args }=true:=(pre_splitW hpre).2;obtain⟨d,r,rfl,h1,h2⟩:=hasAllW_cons hsh;obtain rfl:=hasAllW_nil h2;obtain⟨xs,rfl,h3⟩:=hasW_list h1;obtain⟨ns,rfl⟩:=items_int h3;have hlen:ns.length<=n:=by
  unfold OpenLaw.pre at hc;have h4:(WTm.not (.lt (.lit (.int (n:Int))) (.len (.arg 0)))).holds [] { args:=[.list (ns.map .int)] }=true:=by have h4:=(holds_andW hc).1;rw[hn]at h4;exact h4
  have h5:=condW_of h4 (w_not (w_lt w_lit (w_len_list (w_arg rfl))));rw[xn]at h5;refine Nat.le_of_not_lt λq=>?_
  have q':(n:Int)<((ns.length:Nat):Int):=by nofun
  first
   | (rw[xx q']at h5;exact absurd h5 (by decide))
   | (simp at h5;lia)
 cases hwl with
 | cons w1 w2=>
  cases w2;cases w1 with
  | list ho hall=>exact⟨_,_,ns,rfl,rfl,ho,zGh ns _ hall,hlen⟩
def zOt(l:OpenLaw)(args:List WData):l.row.toRowW.claim.post args (.bool true) args=true:=
 postW_of (r:=l.row.toRowW) (X:=(true == true))
  (show WShape.has [] (.bool true) .bool=true by first|rfl|decide|simp[WShape.has,WShape.arms,WShape.armsAll])
  (show(WTm.eq .res (.lit (.bool true))).value [] { args:=args,res:=some (.bool true),after:=args }=some (.bool (true == true))from w_eq_bool (w_res rfl) w_lit) rfl
def attach_call{l:OpenLaw}{n:Nat}{q:Program}{loose:List Str}{XP:(Str->Option Value)->Heap->Prop}{YP:World->Heap->Prop}{d:DefRec}
  (hn:l.most=some n) (hdf:d.params.defaults=[])
  (call:∀(w:World) (s₀ s₁:Shared) (mg mb:Str->Option Value) (fa:Addr) (o:Obj) (pm cd doc:Value) (a:Addr) (vs:List Value) (ns:List Int),
   Ground q loose [] XP w s₀ mg mb s₁.heap->YP w s₁.heap->
   s₁.heap.get? fa=some o->o.data=.func (docDef d.name d.params d.body d.scope pm cd doc)->s₁.heap.CodeRec cd d.name->mg d.name=some (.ref fa)->
   s₁.heap.get? a=some { cls:=.type "list",data:=.seq vs.toArray }->IntsAre vs ns->ns.length<=n->s₁.gens=#[]->
   codeAny (model l.prog w) callerA (.call (.ref fa) ⟨[.ref a],[]⟩) (λr s'=>r=.ok (.ret (.bool true))/\OldK s₁.heap s'.heap/\s'.os=s₁.os/\AllBare s'.gens) s₁):
  WalkO q loose XP YP l.row.toRowW d [] (λf vs=>PySem.call f vs):=by
 intro w s₀ s₁ mg mb G Y fa o pm cd doc dV kV ho hd hcd hD hmg hg args vals as hpre hlay hrd hwl hlo;obtain rfl:dV=.none:=Dflts.none hD hdf;obtain rfl:kV=.none:=Dflts.noKw hD;obtain⟨a,vs,ns,rfl,rfl,hobj,hints,hlen⟩:=zOf hn hpre hwl;refine enter_call (codeAny_mono (call w s₀ s₁ mg mb fa o pm cd doc a vs ns G Y ho (fd_plain hd) hcd hmg hobj hints hlen hg) λr s' hq=>?_);obtain⟨rfl,h2,h3,h4⟩:=hq;exact⟨.inl ⟨.bool true,.bool true,[],rfl,λ_=>rfl,.bool true,zOt l _,λ_=>⟨List.Pairwise.nil,λ_ hm=>(nomatch hm)⟩⟩,h2,h3,h4⟩
end Att
namespace L2
open PySem PySem.Spec PyProof.Rows
def zJ5:∀{vs:List Value}{ns:List Int},IntsAre vs ns->Vals (ns.map V.int) vs
 | _,_,.nil=>.nil
 | _,_,.cons n t h=>.cons ⟨t,rfl⟩ (zJ5 h)
def Only(H:Hp):Prop:=∀b,H b=none\/∃o xs,H b=some (.frz o (.lst xs))
def law_call{P:Program}{w:World}{K:PySem.W.Frag}{mg mb:Str->Option Value}{CX:CXT}{k:Nat}{fa a:Addr}{fd:FuncData}{x:Str}{sp:Sp}{s₁:Shared}{vs:List Value}{ns:List Int}
  (KX:K.In s₁.heap) (hns:s₁.heap.Ns mainGlobals mg) (hb:s₁.heap.Ns builtinsNs mb) (hbb:∀x:Str,x≠"__name__"->mb x=bootBuiltins x) (hlim:s₁.heap.NoLimit) (hg:s₁.gens=#[])
  (ha:s₁.heap.get? a=some { cls:=.type "list",data:=.seq vs.toArray }) (hi:IntsAre vs ns) (hl:ns.length<=sizeLine) (hr:Room k callerA)
  (F:∀base:Heap,K.In base->base.Ns mainGlobals mg->FnOk P w K mg base CX k fa fd [x] sp) (hbind:∀(s:Shared) (u:Value),BindsTo s fd ⟨[u],[]⟩ [(x,u)])
  (hsp:∀H:Hp,Only H->SqL K H a (ns.map V.int)->sp [.ref a] H (λv _=>v=.bl true) λ_ _ _=>False)
  (hCX:∀H e s',CX [] H s₁ (λ_ _ _=>False) e s'->False):
  codeAny (model P w) callerA (.call (.ref fa) ⟨[.ref a],[]⟩) (λr s'=>r=.ok (.ret (.bool true))/\OldK s₁.heap s'.heap/\s'.os=s₁.os/\AllBare s'.gens) s₁:=by
 have rv:=zJ5 hi;have lenV:=hi.length
 -- from an abstract heap in which nothing but the script may be tracked
 have core:∀H:Hp,Only H->SqL K H a (ns.map V.int)->HOk P w H s₁.heap->(∀b,H b≠none->b=a)->(H a≠none->K.lookup a=none)->
   codeAny (model P w) callerA (.call (.ref fa) ⟨[.ref a],[]⟩) (λr s'=>r=.ok (.ret (.bool true))/\OldK s₁.heap s'.heap/\s'.os=s₁.os/\AllBare s'.gens) s₁:=by
  intro H hO hS hok hA hK;have zGr:∀{b:Addr}{o:Obj},s₁.heap.get? b=some o->H b=none->(hidT s₁.heap H).get? b=some o:=λe n=>zTi e n
  have noA:∀{b:Addr}{o:Obj}{es:Array DictEntry}{ep:Nat},s₁.heap.get? b=some o->o.data=.dict es ep->H b=none:=λ{b o es ep} e d=>by
   cases q:H b with
   | none=>rfl
   | some u=>
    have e':b=a:=hA b (by rw[q];simp);subst e';rw[ha]at e;cases e;have d':Data.seq vs.toArray _=Data.dict es ep:=d;cases d'
  have nsK:∀{b:Addr}{m:Str->Option Value},s₁.heap.Ns b m->(hidT s₁.heap H).Ns b m:=λ{b m} ⟨o,es,ep,e,d,r⟩=>⟨o,es,ep,zGr e (noA e d),d,r⟩
  have hKb:K.In (hidT s₁.heap H):=λb o e=>zGr (KX b o e) (by
   cases q:H b with
   | none=>rfl
   | some u=>
    have e':b=a:=hA b (by rw[q];simp);subst e';rw[hK (by rw[q];simp)]at e;cases e)
  have hM:Mod K mg (hidT s₁.heap H):=⟨hKb,nsK hns,⟨mb,nsK hb,hbb⟩,let ⟨mc,h1,h2⟩:=hlim;⟨mc,nsK h1,h2⟩⟩;have e0:Env0 P w K mg (hidT s₁.heap H) callerA [] s₁ H:=⟨rfl,hM,λb o e=>zX9 e,Nat.le_of_eq (zQ6 _ _),trivial,λb hb=>absurd (show b∈([]:List Addr)from hb) (by simp),hok,.of_eq hg⟩;refine codeAny_mono ((F _ hKb (nsK hns)).run callerA [] s₁ H ⟨[.ref a],[]⟩ [.ref a] [.ref a] _ _ hr e0 (hbind s₁ (.ref a)) (.cons rfl .nil) (hsp H hO hS)) λr s' h=>?_
  cases r with
  | error e=>exact(hCX H e s' h).elim
  | ok fl=>
   cases fl with
   | next=>exact False.elim h
   | brk=>exact False.elim h
   | cont=>exact False.elim h
   | ret u=>
    obtain⟨v,H',os,bare,un,hok',r',q⟩:=h;have q':v=.bl true:=q;subst q';obtain rfl:u=Value.bool true:=r';refine⟨rfl,OldK.of_keep λb o e=>?_,os,bare⟩;cases q:H b with
    | none=>exact un.keep b o e q (by intro z;exact absurd (show b∈([]:List Addr)from z) (by simp)) (by simp)
    | some u=>
     rcases hO b with z|⟨ob,xs,z⟩
     ·rw[q]at z;cases z
     ·have z2:=un.frzs b ob _ z;obtain⟨e1,_⟩:=hok b _ z;obtain⟨e2,_⟩:=hok' b _ z2;rw[e]at e1;cases e1;exact e2
 cases hk:K.lookup a with
 | some o=>
  -- the script is one of the module's own objects
  have e:=KX a o hk;rw[ha]at e;cases e;refine core (λ_=>none) (λ_=>.inl rfl) (.inr ⟨_,vs.toArray,_,hk,rfl,rfl,rfl,by rw[xA,lenV];exact hl,by simpa using rv⟩) (λb u z=>by have z':(none:Option HO)=some u:=z;cases z') (λb z=>absurd rfl z) λz=>absurd rfl z
 | none=>
  refine core (λb=>if b=a then some (.frz { cls:=.type "list",data:=.seq vs.toArray } (.lst (ns.map V.int)))else none) (λb=>?_) (.inl (.inr ⟨{ cls:=.type "list",data:=.seq vs.toArray },xf rfl⟩)) (λb u z=>?_) (λb z=>?_) λ_=>hk
  ·by_cases hb:b=a
   ·exact .inr ⟨_,_,xf hb⟩
   ·exact .inl (xg hb)
  ·by_cases hb:b=a
   ·have z':=(xf hb).symm.trans z;cases z';subst hb;exact⟨ha,by rw[xn];exact hl,vs,_,rv,ha⟩
   ·have z':=(xg hb).symm.trans z;cases z'
  ·by_cases hb:b=a
   ·exact hb
   ·exact absurd (xg hb) z
def walk_of{l:PySem.W.OpenLaw}{n k:Nat}{q:Program}{loose:List Str}{XP:(Str->Option Value)->Heap->Prop}{YP:World->Heap->Prop}{d:DefRec}{K:Params->PySem.W.Frag}{CX:World->CXT}{sp:World->Sp}{x:Str}
  (hn:l.most=some n) (hn2:n<=sizeLine) (hdf:d.params.defaults=[]) (hr:Room k callerA)
  (hY:∀(w:World) (h:Heap),YP w h->(K w.params).In h)
  (F:∀(w:World) (mg:Str->Option Value) (fa:Addr) (h:Heap),(K w.params).In h->h.Ns mainGlobals mg->mg d.name=some (.ref fa)->
   ∃fd:FuncData,(∀(s:Shared) (u:Value),BindsTo s fd ⟨[u],[]⟩ [(x,u)]) /\
    ∀base:Heap,(K w.params).In base->base.Ns mainGlobals mg->FnOk l.prog w (K w.params) mg base (CX w) k fa fd [x] (sp w))
  (hsp:∀(w:World) (H:Hp) (a:Addr) (ns:List Int),ns.length<=n->Only H->SqL (K w.params) H a (ns.map V.int)->sp w [.ref a] H (λv _=>v=.bl true) λ_ _ _=>False)
  (hCX:∀(w:World) (H:Hp) (s:Shared) (e:Value) (s':Shared),CX w [] H s (λ_ _ _=>False) e s'->False):
  PySem.W.WalkO q loose XP YP l.row.toRowW d [] (λf vs=>PySem.call f vs):=by
 refine Att.attach_call hn hdf λw s₀ s₁ mg mb fa o pm cd doc a vs ns G Y ho hd hcd hmg hobj hints hlen hg=>?_
 have KX:=hY w _ Y;obtain⟨fd,hb,hF⟩:=F w mg fa _ KX G.T.g hmg;exact law_call KX G.T.g G.T.b G.T.builtins G.T.nolimit hg hobj hints (xm hlen hn2) hr hF hb (λH hO hS=>hsp w H a ns hlen hO hS) λH e s'=>hCX w H s₁ e s'
noncomputable def zDl (s:Stmt):Arguments:=match s with
 | .FunctionDef _ a _ _ _ _ _ _ _ _=>a
 | _=>{ posonlyargs:=[],args:=[],vararg:=none,kwonlyargs:=[],kw_defaults:=[],kwarg:=none,defaults:=[] }
noncomputable def zCo (s:Stmt):List Stmt:=match s with
 | .FunctionDef _ _ b _ _ _ _ _ _ _=>b
 | _=>[]
noncomputable def zA7 (s:Stmt):Scope:=match s with
 | .FunctionDef _ _ _ _ _ _ sc _ _ _=>sc
 | _=>{ kind:=.function,names:=[],isGenerator:=false,isCoroutine:=false }
abbrev CX0:CXT:=λ_ _ _ _ _ _=>False
abbrev E0:XK:=λ_ _ _=>False
def pass0 :Passes CX0 X E0:=λ_ _ _ _ _ _ _ h=>h.elim
structure Fun (K:PySem.W.Frag) (x qual:Str) (st:Stmt) (f:Addr) (fd:FuncData):Prop where
 ex:∃(oc:Value) (od:Option Addr) (kV doc pm:Value) (an:Option Addr) (cdv ct:Value) (osl:Array (Option Value)),
  fd=PySem.W.fnOf x qual (zDl st) (zCo st) (zA7 st) .none kV doc pm an cdv ct/\K.lookup f=some ⟨oc,od,.func fd,osl⟩/\PySem.W.codeIn K cdv qual=true
 kp:PySem.W.keepIn K (.ref f)=true
section
variable {P:Program}{w:World}{K:PySem.W.Frag}{mg:Str->Option Value}{base:Heap}
def Fun.ok{x qual:Str}{st:Stmt}{f:Addr}{fd:FuncData}{N ps:List Str}{k:Nat}{sp:Sp}(F:Fun K x qual st f fd)(S:zAv N ps (zA7 st))(len:∀vs H Q E,sp vs H Q E->vs.length=ps.length)
  (hbody:∀(cdv:Value) (A:Around) (outer:List Env) (s:Shared) (H:Hp) (vs:List V) (Q:VK) (E:XK),Room k (A.deeper (envOfC qual (zA7 st) s.heap.objs.size f cdv))->sp vs H Q E->
   ∃t,PSs (cxOf CX0 P w K mg base N qual (zA7 st) f cdv A outer s H E).nox (zCo st) t/\t { nx:=λ_ H'=>Q .non H',rt:=Q } (start N vs) H):FnOk P w K mg base CX0 (k+1) f fd ps sp:=by
 obtain⟨oc,od,kV,doc,pm,an,cdv,ct,osl,rfl,lk,hcd⟩:=F.ex;refine yD7 lk hcd S len λA outer s H vs Q E hr hsp=>?_
 obtain⟨t,h,q⟩:=hbody cdv A outer s H vs Q E hr hsp;exact⟨t,h.nox,q⟩
def Fun.binds{x qual:Str}{st:Stmt}{f:Addr}{fd:FuncData}{ps:List Str}(F:Fun K x qual st f fd)
  (h:∀(kV doc pm:Value) (an:Option Addr) (cdv ct:Value) (us:List Value),us.length=ps.length->bindArgs (PySem.W.fnOf x qual (zDl st) (zCo st) (zA7 st) .none kV doc pm an cdv ct) ⟨us,[]⟩=pure (ps.zip us)):Binds K fd ps []:=by
 obtain⟨oc,od,kV,doc,pm,an,cdv,ct,osl,rfl,lk,hcd⟩:=F.ex;exact .all (h kV doc pm an cdv ct)
def yBx{x qual:Str}{st:Stmt}{f:Addr}{oc:Value}{od an:Option Addr}{osl:Array (Option Value)}{kV doc pm cdv ct:Value}(l:K.lookup f=some ⟨oc,od,.func (PySem.W.fnOf x qual (zDl st) (zCo st) (zA7 st) .none kV doc pm an cdv ct),osl⟩)
  (c:PySem.W.codeIn K cdv qual=true) (k:PySem.W.keepIn K (.ref f)=true):Fun K x qual st f (PySem.W.fnOf x qual (zDl st) (zCo st) (zA7 st) .none kV doc pm an cdv ct):=⟨⟨oc,od,kV,doc,pm,an,cdv,ct,osl,rfl,l,c⟩,k⟩
end
def zDg{A:Around}(hr:Room k A):A.units+1<cLine:=yc (Nat.add_le_add_left (by decide:1<=64) _) hr.units
section
variable {X:Cx}
def pv(i:Nat){pos:Pos}(hN:X.N[i]?=some x:=by rfl)(hv:Vis X.env.scope x:=by first|exact Or.inl rfl|exact Or.inr (Or.inl rfl)|exact Or.inr (Or.inr rfl))(hd:(x == ("__debug__":Str))=false:=by decide)
  (hcd:(x == ("__classdict__":Str))=false:=by decide):PE X (.Name x pos) (tVar i):=yAb hN hv hd hcd
end
section
variable {prog:Program}{w:World}{A:Around}{R:Result->Shared->Prop}{s:Shared}
def zJx{elt target iter:Expr}{ifs:List Expr}{scope:Scope}{pos:Pos}{it acc:Value}{env:Env}(I:Nat->Shared->Prop)
  (turn:∀n s,I n s->wpAny (model prog w) A (pyNext it) (λr s₁=>match r with
   | none=>R (.ok .next) s₁
   | some v=>wpAny (model prog w) A (letOwnedTupleGo target it v) (λ_ s₂=>wpAny (model prog w) A (assign target env v) (λ_ s₂=>
     wpAny (model prog w) A (forIn ifs true λc r=>if r=true then do let ok <- isTrue c env (eval c env);pure (ForInStep.yield ok)else pure (ForInStep.yield r)) (λok s₃=>
      if ok=true then wpAny (model prog w) A (eval elt env) (λx s₄=>
       wpAny (model prog w) A (call (.builtin "list.append") [acc,x]) (λ_ s₅=>∃m,m<n/\I m s₅) (λ_ _=>False) s₄) (λ_ _=>False) s₃
      else ∃m,m<n/\I m s₃) (λ_ _=>False) s₂) (λ_ _=>False) s₂) (λ_ _=>False) s₁) (λ_ _=>False) s)
  (n:Nat) (h:I n s):
  codeAny (model prog w) A (.compLoop (.ListComp elt [⟨target,iter,ifs,0⟩] scope pos) 0 it acc env) R s:=by
 refine codeAny_loop rfl I (λn s hI=>?_) n h;show wpAny _ A ((compTurn (.ListComp elt [⟨target,iter,ifs,0⟩] scope pos) 0 it acc env).onRaise (λx=>do noteFrame x env;theTreesLotGoes x)) _ _ s;refine wpAny_noted ?_;rw[compTurn_list];refine xc (wpAny_standAt (xc (vA (turn n s hI) (λr s₁ h₁=>?_) λ_ _ h'=>h'.elim)));cases r with
 | none=>exact xh h₁
 | some v=>
  refine xc (vA h₁ (λ_ s₁' h₁=>?_) λ_ _ h'=>h'.elim);refine xc (vA h₁ (λ_ s₂ h₂=>xc (vA h₂ (λok s₃ h₃=>?_) λ_ _ h'=>h'.elim)) λ_ _ h'=>h'.elim);cases ok with
  | false=>exact xh ⟨rfl,h₃⟩
  | true=>
   exact xc (xc (vA h₃ (λx s₄ h₄=>xc (vA h₄ (λ_ s₅ h₅=>xh (xh ⟨rfl,h₅⟩)) λ_ _ h'=>h'.elim)) λ_ _ h'=>h'.elim))
end
def zNl{env:Env}:∀(names:List (Str × NameKind)) (cs:List (Str × Addr)),(∀y∈names,y.2=.free->∃c,env.cells.lookup y.1=some c)->∃cl:List (Str × Addr),
  (forIn names cs λx r=>(match x,r with|(name,kind),cs=>if(kind == NameKind.free)=true then do let c <- cellOf env name;pure (ForInStep.yield ((name,c)::cs))else pure (ForInStep.yield cs)):Sem (List (Str × Addr)))=pure cl /\
  (∀x c,cl.lookup x=some c->cs.lookup x=some c\/env.cells.lookup x=some c)/\(∀x c,cs.lookup x=some c->∃c',cl.lookup x=some c')/\∀y∈names,y.2=.free->∃c,cl.lookup y.1=some c:=by
 intro names;induction names with
 | nil=>intro cs _;exact⟨cs,rfl,λ_ _ h=>.inl h,λx c h=>⟨c,h⟩,λ_ h=>nomatch h⟩
 | cons y r ih=>
  intro cs h;obtain⟨n,k⟩:=y;have hr:∀y∈r,y.2=.free->∃c,env.cells.lookup y.1=some c:=λy hy=>h y (vp _ hy)
  by_cases hk:k=.free
  ·subst hk;obtain⟨c,hc⟩:=h (n,.free) xY rfl;obtain⟨cl,e,h1,h2,h3⟩:=ih ((n,c)::cs) hr;refine⟨cl,?_,λx d hx=>?_,λx d hx=>?_,λy hy hf=>?_⟩
   ·rw[List.forIn_cons];have hcell:cellOf env n=(pure c:Sem Addr):=by simp only[cellOf,hc]
    simp only[beq_self_eq_true,xl,hcell];simpa using e
   ·rcases h1 x d hx with z|z
    ·rw[vk]at z;by_cases hxn:(x == n)=true
     ·rw[hxn]at z;simp at z;subst z;have:x=n:=by simpa using hxn
      subst this;exact .inr hc
     ·rw[yp]at hxn;rw[hxn]at z;exact .inl z
    ·exact .inr z
   ·by_cases hxn:(x == n)=true
    ·exact h2 x c (by rw[vk,hxn])
    ·rw[yp]at hxn;exact h2 x d (by rw[vk,hxn];exact hx)
   ·rcases xp.mp hy with z|z
    ·subst z;exact h2 n c (by rw[vk];simp)
    ·exact h3 y z hf
  ·have hb:(k == NameKind.free)=false:=by simpa using hk
   obtain⟨cl,e,h1,h2,h3⟩:=ih cs hr;refine⟨cl,?_,h1,h2,λy hy hf=>?_⟩
   ·rw[List.forIn_cons];simp only[hb,ve,xI];simpa using e
   ·rcases xp.mp hy with z|z
    ·subst z;exact absurd hf hk
    ·exact h3 y z hf
def zEs{scope:Scope}{env:Env}(h:∀y∈scope.names,y.2=.free->∃c,env.cells.lookup y.1=some c):∃cl:List (Str × Addr),closureFor scope env=pure cl /\
  (∀x c,cl.lookup x=some c->env.cells.lookup x=some c)/\∀y∈scope.names,y.2=.free->∃c,cl.lookup y.1=some c:=by
 obtain⟨cl,e,h1,_,h3⟩:=zNl (env:=env) scope.names [] h;refine⟨cl,?_,λx c hx=>(h1 x c hx).elim (λz=>nomatch z) id,h3⟩;simp only[closureFor];rw[e];rfl
def zF7{scope:Scope}(h:(relabel scope env).names.lookup x=some .cell\/(relabel scope env).names.lookup x=some .free):∃y∈scope.names,y.1=x/\(y.2=.free\/y.2=.cell):=by
 have key:∀(l:List (Str × NameKind)),((l.map fun(n,k)=>if(k == NameKind.free && env.scope.kind == .function && env.kindOf n == some .cell)then(n,NameKind.cell)else(n,k)).lookup x=some .cell \/
   (l.map fun(n,k)=>if(k == NameKind.free && env.scope.kind == .function && env.kindOf n == some .cell)then(n,NameKind.cell)else(n,k)).lookup x=some .free)->∃y∈l,y.1=x/\(y.2=.free\/y.2=.cell):=by
  intro l;induction l with
  | nil=>intro h;rcases h with h|h <;> simp at h
  | cons y r ih=>
   intro h;obtain⟨n,k⟩:=y;by_cases hb:(k == NameKind.free && env.scope.kind == .function && env.kindOf n == some .cell)=true
   ·have kf:k=.free:=by simp at hb;exact hb.1.1
    by_cases hx:(x == n)=true
    ·have:x=n:=by simpa using hx
     exact⟨(n,k),xY,this.symm,.inl kf⟩
    ·rw[yp]at hx;simp only[xr,hb,xl,vk,hx]at h;obtain⟨y,hy,z⟩:=ih h;exact⟨y,vp _ hy,z⟩
   ·rw[yp]at hb;by_cases hx:(x == n)=true
    ·have e:x=n:=by simpa using hx
     simp only[xr,hb,vk,hx,ve,xI]at h;rcases h with h|h
     ·exact⟨(n,k),xY,e.symm,.inr (xN h)⟩
     ·exact⟨(n,k),xY,e.symm,.inl (xN h)⟩
    ·rw[yp]at hx;simp only[xr,hb,vk,hx,ve,xI]at h;obtain⟨y,hy,z⟩:=ih h;exact⟨y,vp _ hy,z⟩
 exact key scope.names h
noncomputable def zAp (X:Cx) (N:List Str) (scope:Scope) (cl:List (Str × Addr)) (C:Addr) (s:Shared) (H:Hp) (fp:List Addr):Cx where
 prog:=X.prog
 w:=X.w
 K:=X.K
 mg:=X.mg
 base:=X.base
 A:=X.A
 N:=N
 s₀:=s
 H₀:=H
 env:=compEnvC scope cl C X.env
 outer:=X.stack
 stack:=X.stack
 ex:=fp
 fn:=λx=>scope.names.lookup x == some .cell
 calm:=X.calm
 pn:=[]
 xe:=λ_ _=>False
structure CompScope (X:Cx) (own fre:List Str) (ix:List Nat) (scope:Scope):Prop where
 kind:scope.kind=.function
 cell:∀y∈scope.names,y.2=.cell->scope.names.lookup y.1=some .cell
 loc:∀y∈scope.names,y.2=.local->scope.names.lookup y.1=some .local
 fr:∀y∈scope.names,y.2=.free->X.env.kindOf y.1=some .cell\/X.env.kindOf y.1=some .free
 len:fre.length=ix.length
 at_:∀(j:Nat) (i:Nat) (x:Str),fre[j]?=some x->ix[j]?=some i->X.N[i]?=some x/\(X.env.kindOf x=some .cell\/X.env.kindOf x=some .free)
 vis:∀x∈fre,(relabel scope X.env).names.lookup x=some .cell\/(relabel scope X.env).names.lookup x=some .free
 fno:∀x∈fre,scope.names.lookup x≠some .cell
noncomputable def zLk (scope sc:Scope):Scope:=
 { scope with names:=scope.names.map fun(n,k)=>if(k == .free && sc.kind == .function && sc.names.lookup n == some .cell)then(n,.cell)else(n,k) }
def zCe(o:Option NameKind):Bool:=o == some .cell || o == some .free
def zCz(h:zCe o=true):o=some .cell\/o=some .free:=by simpa[zCe]using h
noncomputable def zVf (sc:Scope) (N own fre:List Str) (ix:List Nat) (scope:Scope):Bool:=
 (scope.kind == .function) && (scope.names.all λy=>y.2 != .cell || scope.names.lookup y.1 == some .cell) && (scope.names.all λy=>y.2 != .local || scope.names.lookup y.1 == some .local) &&
 (scope.names.all λy=>y.2 != .free || zCe (sc.names.lookup y.1)) && (fre.length == ix.length) && ((fre.zip ix).all λp=>N[p.2]? == some p.1 && zCe (sc.names.lookup p.1)) &&
 (fre.all λx=>zCe ((zLk scope sc).names.lookup x)) && fre.all λx=>scope.names.lookup x != some .cell
def CompScope.mk'{X:Cx}{ix:List Nat}(hs:X.env.scope=sc)(hN:X.N=N)(h:zVf sc N own fre ix scope=true):CompScope X own fre ix scope:=by
 simp only[zVf,xM]at h;obtain⟨⟨⟨⟨⟨⟨⟨h1,h2⟩,h3⟩,h4⟩,h5⟩,h6⟩,h7⟩,h8⟩:=h;subst hs;subst hN;refine⟨by simpa using h1,λy hy hl=>?_,λy hy hl=>?_,λy hy hl=>?_,by simpa using h5,λj i x e1 e2=>?_,λx hx=>?_,λx hx=>?_⟩
 ·have:=vV.mp h2 y hy;rw[hl]at this;simpa using this
 ·have:=vV.mp h3 y hy;rw[hl]at this;simpa using this
 ·have:=vV.mp h4 y hy;rw[hl]at this;exact zCz (show zCe (X.env.scope.names.lookup y.1)=true by simpa using this)
 ·have hz:(x,i)∈fre.zip ix:=by
   refine uO.mpr ⟨j,?_⟩;rw[List.getElem?_zip_eq_some];exact⟨e1,e2⟩
  have:=vV.mp h6 (x,i) hz;simp only[xM]at this;exact⟨by simpa using this.1,zCz this.2⟩
 ·exact zCz (vV.mp h7 x hx)
 ·have:=vV.mp h8 x hx;simpa using this
section
variable {M:Model}{A:Around}{E:Value->Shared->Prop}{s:Shared}
def zQx{lo:Nat}:∀(names:List (Str × NameKind)) (n:Nat) (acc:List (Str × Addr)) (x:Str) (c:Addr),lo<=n->((x,NameKind.cell)∈names\/∀c,acc.lookup x=some c->lo<=c)->(cellsFrom n names acc).lookup x=some c->lo<=c
 | [],_,_,_,_,_,h,e=>h.elim (λz=>nomatch z) λz=>z _ e
 | (m,k)::r,n,acc,x,c,hn,h,e=>by
  unfold cellsFrom at e;split at e
  ·refine zQx r (n+1) _ x c (by nofun) ?_ e;by_cases hx:x=m
   ·refine .inr λc' q=>?_
    rw[vk,show(x == m)=true by rw[hx];exact beq_self_eq_true m]at q;cases q;exact hn
   ·have hb:(x == m)=false:=by simpa using hx
    rcases h with h|h
    ·rcases xp.mp h with z|z
     ·exact absurd (congrArg Prod.fst z) hx
     ·exact .inl z
    ·exact .inr λc' q=>h c' (by rw[vk,hb]at q;exact q)
  ·rename_i hk;refine zQx r n acc x c hn ?_ e;rcases h with h|h
   ·rcases xp.mp h with z|z
    ·cases z;exact absurd rfl hk
    ·exact .inl z
   ·exact .inr h
def zQy:∀(names:List (Str × NameKind)) (n:Nat) (acc:List (Str × Addr)) (x:Str),(∀y∈names,y.1=x->y.2≠.cell)->(cellsFrom n names acc).lookup x=acc.lookup x
 | [],_,_,_,_=>rfl
 | (m,k)::r,n,acc,x,h=>by
  unfold cellsFrom;split
  ·rename_i hk;rw[zQy r _ _ x λy hy=>h y (vp _ hy),vk];have hx:(x == m)=false:=by
    cases q:x == m with
    | false=>rfl
    | true=>exact absurd (by simpa using hk) (h (m,k) xY (by simpa using(beq_iff_eq.mp q).symm))
   rw[hx]
  ·exact zQy r n acc x λy hy=>h y (vp _ hy)
def zQz:∀(names:List (Str × NameKind)) (n:Nat) (acc:List (Str × Addr)),(∀x c,acc.lookup x=some c->c<n)->(∀x y c,acc.lookup x=some c->acc.lookup y=some c->x=y)->
  ∀x y c,(cellsFrom n names acc).lookup x=some c->(cellsFrom n names acc).lookup y=some c->x=y
 | [],_,_,_,h=>h
 | (m,k)::r,n,acc,hl,h=>by
  unfold cellsFrom;split
  ·refine zQz r (n+1) _ (λx c e=>?_) λx y c e1 e2=>?_
   ·rw[vk]at e;cases q:x == m with
    | true=>rw[q]at e;cases e;exact Nat.lt_succ_self _
    | false=>rw[q]at e;exact yq (hl x c e)
   ·rw[vk]at e1 e2;cases q:x == m with
    | true=>
     cases q':y == m with
     | true=>rw[beq_iff_eq.mp q,beq_iff_eq.mp q']
     | false=>rw[q]at e1;rw[q']at e2;cases e1;exact absurd (hl y _ e2) (vy _)
    | false=>
     cases q':y == m with
     | true=>rw[q]at e1;rw[q']at e2;cases e2;exact absurd (hl x _ e1) (vy _)
     | false=>rw[q]at e1;rw[q']at e2;exact h x y c e1 e2
  ·exact zQz r n acc hl h
def zIv:∀(names:List (Str × NameKind)) (n:Nat) (acc:List (Str × Addr)) (x:Str),((x,NameKind.cell)∈names\/∃c,acc.lookup x=some c)->∃c,(cellsFrom n names acc).lookup x=some c
 | [],_,_,_,h=>h.elim (λz=>nomatch z) id
 | (m,k)::r,n,acc,x,h=>by
  unfold cellsFrom;split
  ·refine zIv r (n+1) _ x ?_;cases q:x == m with
   | true=>exact .inr ⟨n,by rw[vk,q]⟩
   | false=>
    rcases h with h|⟨c,h⟩
    ·rcases xp.mp h with z|z
     ·rw[show x=m from congrArg Prod.fst z,beq_self_eq_true]at q;cases q
     ·exact .inl z
    ·exact .inr ⟨c,by rw[vk,q];exact h⟩
  ·rename_i hk;refine zIv r n acc x ?_;rcases h with h|h
   ·rcases xp.mp h with z|z
    ·cases z;exact absurd rfl hk
    ·exact .inl z
   ·exact .inr h
def zL3:∀(names:List (Str × NameKind)) (h:Heap) (acc:List (Str × Addr)) (lo:Nat),lo<=h.objs.size->(∀x c,acc.lookup x=some c->lo<=c->h.IsCell c none)->∀x c,(cellsFrom h.objs.size names acc).lookup x=some c->lo<=c->(pushCells h names).IsCell c none
 | [],_,_,_,_,q=>q
 | (m,k)::r,h,acc,lo,hl,q=>by
  unfold cellsFrom pushCells;split
  ·have:=zL3 r (h.push { cls:=.type "cell",data:=.cell none }) ((m,h.objs.size)::acc) lo (by rw[ua];lia) λx c e hc=>by
    rw[vk]at e;cases z:x == m with
    | true=>rw[z]at e;cases e;exact⟨_,xy _ rfl,rfl⟩
    | false=>rw[z]at e;exact(q x c e hc).keeps λb o e=>xq _ e
   rwa[ua]at this
  ·exact zL3 r h acc lo hl q
def zPc{scope:Scope}{globals:Addr}{closure:List (Str × Addr)}{qual:Str}{around:Env}{Q:Env->Shared->Prop}
  (hQ:Q (newEnv scope s.heap.objs.size globals (cellsFrom (s.heap.objs.size+1) scope.names closure) qual none .none (some around) builtinsNs) { s with heap:=pushCells (s.heap.push { cls:=.type "dict",data:=.dict #[] }) scope.names }):
  wpAny M A (newFunctionEnv scope globals closure [] qual none .none (some around)) Q E s:=by
 simp only[newFunctionEnv,Option.isSome_some,xl];refine xc (wpAny_alloc ?_);refine xc (wpAny_layCells _ (λname kind cells=>by cases hkc:kind == NameKind.cell <;> simp[hkc]) _ _ _ _ ?_);rw[show({ s with heap:=s.heap.push { cls:=.type "dict",data:=.dict #[] } }:Shared).heap.objs.size=s.heap.objs.size+1 from ua ..];simp only[List.forIn_nil];exact xc (xh (xh hQ))
end
structure ClOk (X:Cx) (scope:Scope) (C:Addr) (cl:List (Str × Addr)):Prop where
 inj:∀x y c,cl.lookup x=some c->cl.lookup y=some c->x=y
 own:∀x c,scope.names.lookup x=some .cell->cl.lookup x=some c->C<c
 old:∀x c,scope.names.lookup x≠some .cell->cl.lookup x=some c->X.env.cells.lookup x=some c
 has:∀y∈scope.names,(y.2=.free\/y.2=.cell)->∃c,cl.lookup y.1=some c
def ClOk.or{X:Cx}{cl:List (Str × Addr)}(h:ClOk X scope C cl)(e:cl.lookup x=some c):X.env.cells.lookup x=some c\/C<c:=by
 by_cases q:scope.names.lookup x=some .cell
 ·exact .inr (h.own x c q e)
 ·exact .inl (h.old x c q e)
noncomputable def zE6 (own:List Str) (ix:List Nat) (σ:St):St:=own.map (λ_=>none)++ix.map λi=>(σ[i]?).join
section
variable {X:Cx}{pins:List (Addr × Obj)}{σ:St}{H:Hp}{s:Shared}{own fre:List Str}{ix:List Nat}{scope:Scope}{cl:List (Str × Addr)}{fp:List Addr}{C:Addr}
def Inv.stkNo(I:Inv X pins σ H s)(h:FpOk X pins H b):b ∉ frs X.stack:=λhb=>
 (xp.mp (I.stkSub b hb)).elim h.2.1 h.2.2.1
def zYk(I:Inv X pins σ H s)(hf:∀b∈fp,FpOk X pins H b)(hlt:∀b∈fp,b<s.heap.objs.size)(S:CompScope X own fre ix scope)(hcl:ClOk X scope C cl)
  (hC:s.heap.objs.size<=C):(zAp X (own++fre) scope cl C s H fp).Ok where
 mod:=I.ok.mod
 kind:=S.kind
 glob:=I.ok.glob
 blt:=I.ok.blt
 above:=hC
 inj:=hcl.inj
 has:=λx hx=>by
  obtain⟨y,hy,e,k⟩:=zF7 hx;subst e;exact hcl.has y hy k
 cab:=λx c h e=>xU (yc hC (hcl.own x c (by simpa[zAp]using h) e))
 hd:=I.ok.hd
 frames:=I.ok.frames
 stk:=.inl rfl
 exf:=λb hb=>⟨xu (xF (hlt b hb) hC),λx c e=>(hcl.or e).elim (λe=>(hf b hb).2.2.2.2.1 x c e) λz=>xv (xu (vK (xF (hlt b hb) hC) z))⟩
 bs:=I.bs
 bsz:=xm I.ok.bsz I.sz
 noex:=λb o e hb=>by
  rcases(hf b hb).2.2.2.1 with z|z
  ·exact I.ok.noex b o e z
  ·exact absurd (xF (xo e) (xm I.ok.bsz z)) (vy _)
 exfs:=λb hb=>I.stkNo (hf b hb)
 funs:=I.stack
 frf:=I.stkFree
def zNj{h₁:Heap}{t':Nat}{m:Str->Option Value}(I:Inv X pins σ H s)(hf:∀b∈fp,FpOk X pins H b)(hlt:∀b∈fp,b<s.heap.objs.size)(S:CompScope X own fre ix scope)(hcl:ClOk X scope C cl)(hnew:∀x c,cl.lookup x=some c->C<c->h₁.IsCell c none)
  (hC:s.heap.objs.size<=C) (old:∀b o,s.heap.get? b=some o->h₁.get? b=some o) (hn:h₁.Ns C m):
  Inv (zAp X (own++fre) scope cl C s H fp) [] (zE6 own ix σ) H { s with heap:=h₁,toks:=t' } where
 ok:=zYk I hf hlt S hcl hC
 os:=rfl
 bare:=I.bare
 base:=Un.kept old
 loc:=by
  refine⟨m,hn,λi x v e1 e2 e3=>?_⟩;obtain⟨m0,hn0,hl⟩:=I.loc;have hi:own.length<=i:=by
   rcases vE i own.length with z|z
   ·rw[zE6,vh (by simpa using z),xQ]at e2;cases q:own[i]? <;> rw[q]at e2 <;> simp at e2
   ·exact z
  have e1':(own++fre)[i]?=some x:=e1;rw[vj hi]at e1';rw[zE6,vj (by simpa using hi),xQ,xn]at e2;cases q:ix[i-own.length]? with
  | none=>rw[q]at e2;simp at e2
  | some j=>
   rw[q]at e2;obtain⟨hN,hk⟩:=S.at_ _ _ _ e1' q;have e2':(σ[j]?).join=some v:=by simpa using e2
   have e4:σ[j]?=some (some v):=by
    cases z:σ[j]? with
    | none=>rw[z]at e2';cases e2'
    | some o=>rw[z]at e2';exact congrArg some e2'
   obtain⟨u,r,lk⟩:=hl j x v hN e4 (hk.elim (λz=>.inr (.inl z)) λz=>.inr (.inr z));refine⟨u,r,.inr ?_⟩;rcases lk with⟨k,_⟩|⟨k,c,ec,hc⟩
   ·rcases hk with z|z <;> · rw[k]at z;cases z
   ·have fin:((zAp X (own++fre) scope cl C s H fp).env.kindOf x=some .cell\/(zAp X (own++fre) scope cl C s H fp).env.kindOf x=some .free):=by
     exact S.vis x (uM e1')
    refine⟨fin,?_⟩;obtain⟨y,hy,e,kf⟩:=zF7 (env:=X.env) (x:=x) fin;subst e;obtain⟨c',hc'⟩:=hcl.has y hy kf;have:=(hcl.old _ _ (S.fno _ (uM e1')) hc').symm.trans ec;cases this;exact⟨c,hc',by obtain⟨o,ho,hd⟩:=hc;exact⟨o,old _ _ ho,hd⟩⟩
 cell:=λx c e=>by
  rcases hcl.or e with q|q
  ·obtain⟨v,o,ho,hd⟩:=I.cell x c q;exact⟨v,o,old _ _ ho,hd⟩
  ·exact⟨none,hnew x c e q⟩
 free:=I.hok.fresh hC
 freeC:=λx c e=>(hcl.or e).elim (λq=>I.freeC x c q) λq=>I.hok.fresh (xU (yc hC q))
 pin:=λp hp=>nomatch hp
 hok:=I.hok.kept old
 len:=by simp[zE6,zAp,S.len]
end
def PIfs(X:Cx)(ifs:List Expr)(t:TT):Prop:=
 ∀(pins:List (Addr × Obj)) (s:Shared) (σ:St) (H:Hp) (Q:Bool->Hp->Prop),Inv X pins σ H s->t σ H Q->
  wpAny (model X.prog X.w) X.A (forIn ifs true λc r=>if r=true then do let ok <- isTrue c X.env (eval c X.env);pure (ForInStep.yield ok)else pure (ForInStep.yield r)) (TP X pins σ Q) X.xe s
def tYes:TT:=λ_ H Q=>Q true H
def zSe :PIfs X [] tYes:=λpins s σ H Q I h=>xh ⟨H,I,h⟩
def zSd(hc:PT X c t):PIfs X [c] t:=by intro pins s σ H Q I h;rw[List.forIn_cons];simp only[xl];refine xc (xc (thn (hc pins s σ H Q I h) λb s1 q=>xh ?_));simp only[List.forIn_nil];exact xh q
def zUe(J:It)(g:TG)(tt:TT)(te:TE)(σc:St)(H1:Hp)(Qd:List V->Hp->Prop):Prop:=
 ∃W:Nat->Nat->List V->St->Hp->Prop,(∃m,W 0 m [] σc H1)/\∀i m ys σ H,W i m ys σ H->
  (J.stop i H/\Qd ys H)\/(J.go i H/\ys.length<sizeLine/\∃N:List V->St->Hp->Prop,(∀zs σ' H',N zs σ' H'->∃m',m'<m/\W (i+1) m' zs σ' H')/\∀x H',J.yld i H x H'->g x σ H' λσ2 H2=>tt σ2 H2 λc H3=>
   if c=true then te σ2 H3 λy H4=>N (ys++[y]) σ2 H4 else N ys σ2 H3)
def HOk.adopt{H:Hp}(x:HOk P w H h)(n:H D=none)(new:ObjOk P w (upd H D o) h D o):HOk P w (upd H D o) h:=λb u e=>by
 by_cases hb:b=D
 ·subst hb;rw[zAm]at e;cases e;exact new
 ·rw[zAi hb]at e;refine(x b u e).stay (λc v _ q=>q) (λc q=>?_) λc xs q=>?_
  ·rw[zAi (zAh q n)];exact q
  ·rw[zAi (zAh q n)];exact q
def Un.adopt{H':Hp}{h:Heap}(u:Un fs ex H H' h h')(hD:h.objs.size<=D)(n:H' D=none):Un fs ex H (upd H' D o) h h' where
 keep:=u.keep
 slot:=u.slot
 free:=λb ob e n' hx=>by rw[zAi (xu (xF (xo e) hD))];exact u.free b ob e n' hx
 there:=u.there
 tups:=λb xs e=>by have:=u.tups b xs e;rw[zAi (zAh this n)];exact this
 frzs:=λb ob xs e=>by have:=u.frzs b ob xs e;rw[zAi (zAh this n)];exact this
 tbls:=λb ps e=>by obtain⟨m,z⟩:=u.tbls b ps e;exact⟨m,by rw[zAi (zAh z n)];exact z⟩
section
variable {X:Cx}{pins:List (Addr × Obj)}{σ:St}{H2:Hp}{s2:Shared}{own fre:List Str}{ix:List Nat}{scope:Scope}{cl:List (Str × Addr)}{fp:List Addr}{C:Addr}
def zHh{tg elt iter:Expr}{ifs:List Expr}{pos:Pos}{J:It}{it:Addr}{tn:Nat->Heap->Prop}{g:TG}{tt:TT}{te:TE}{Qd:List V->Hp->Prop}{RR:Value->Addr->Result->Shared->Prop}{E:Value->Shared->Prop}{cl0:List (Str × Addr)}
  (I2:Inv X pins σ H2 s2) (T:Turn X.prog X.w X.K tg J fp it tn) (st2:tn 0 s2.heap) (f2:∀b∈fp,FpOk X pins H2 b) (hc:X.calm=true) (S:CompScope X own fre ix scope)
  (hcl0:∀x c,cl0.lookup x=some c->X.env.cells.lookup x=some c) (hcf0:∀y∈scope.names,y.2=.free->∃c,cl0.lookup y.1=some c)
  (hg:∀cl C,PG (zAp X (own++fre) scope cl C s2 H2 fp) tg g) (hi:∀cl C,PIfs (zAp X (own++fre) scope cl C s2 H2 fp) ifs tt) (he:∀cl C,PE (zAp X (own++fre) scope cl C s2 H2 fp) elt te)
  (q:zUe J g tt te (zE6 own ix σ) H2 Qd)
  (hRR:∀D C s' m' ys H',Inv X pins σ (upd H' D (.lst ys)) s'->s'.heap.Ns C m'->FpOk X pins (upd H' D (.lst ys)) C->H' D=none->Qd ys H'->RR (.ref D) C (.ok .next) s'):
  wpAny (model X.prog X.w) X.A (newList []) (λacc s₃=>wpAny (model X.prog X.w) X.A (newFunctionEnv scope X.env.globals cl0 [] X.env.qual none .none (some X.env)) (λcenv s₄=>
   codeAny (model X.prog X.w) X.A (.compStart (.ListComp elt [⟨tg,iter,ifs,0⟩] scope pos) 0 (.ref it) acc { cenv with scope:=relabel scope X.env }) (RR acc cenv.locals) s₄) E s₃) E s2:=by
 obtain⟨W,⟨m0,w0⟩,turn⟩:=q;refine xW (zPc ?_);dsimp only;generalize hHH:s2.heap.push { cls:=.type "list",dict:=none,data:=.seq ([]:List Value).toArray }=HH;have hC:HH.objs.size=s2.heap.objs.size+1:=by rw[<- hHH,ua]
 have hns₁:(pushCells (HH.push { cls:=.type "dict",data:=.dict #[] }) scope.names).Ns HH.objs.size λ_=>none:=(Heap.Ns.new HH (.type "dict")).keeps (pushCells_keeps _ _)
 have hkp:∀b o,HH.get? b=some o->(pushCells (HH.push { cls:=.type "dict",data:=.dict #[] }) scope.names).get? b=some o:=λb o e=>pushCells_keeps _ _ b o (xq _ e)
 have hltc:∀x c,cl0.lookup x=some c->c<HH.objs.size+1:=λx c e=>by
  obtain⟨v,o,ho,_⟩:=I2.cell x c (hcl0 x c e);rw[hC];exact yq (yq (xo ho))
 have hnew:∀x c,(cellsFrom (HH.objs.size+1) scope.names cl0).lookup x=some c->HH.objs.size<c->(pushCells (HH.push { cls:=.type "dict",data:=.dict #[] }) scope.names).IsCell c none:=by
  have:=zL3 scope.names (HH.push { cls:=.type "dict",data:=.dict #[] }) cl0 (HH.objs.size+1) (by rw[ua];exact xi _) λx c e hc=>absurd (xF (hltc x c e) hc) (vy _)
  rw[ua]at this;exact λx c e h=>this x c e h
 have hcl:ClOk X scope HH.objs.size (cellsFrom (HH.objs.size+1) scope.names cl0):={
  inj:=zQz _ _ _ hltc λx y c e1 e2=>I2.ok.inj x y c (hcl0 x c e1) (hcl0 y c e2)
  own:=λx c h e=>zQx (lo:=HH.objs.size+1) _ _ _ x c (xi _) (.inl (u9 h)) e
  old:=λx c h e=>by
   rw[zQy _ _ _ x λy hy ex ec=>h (by rw[<- ex];exact S.cell y hy ec)]at e;exact hcl0 x c e
  has:=λy hy hk=>by
   obtain⟨n,k⟩:=y;rcases hk with hk|hk
   ·exact zIv _ _ _ _ (.inr (hcf0 _ hy hk))
   ·dsimp only at hk;subst hk;exact zIv _ _ _ _ (.inl hy) }
 generalize cellsFrom (HH.objs.size+1) scope.names cl0=cl at hnew hcl ⊢;generalize pushCells (HH.push { cls:=.type "dict",data:=.dict #[] }) scope.names=h₁ at hns₁ hkp hnew ⊢;generalize hDe:s2.heap.objs.size=D at *;generalize hCe:HH.objs.size=C at *;have hDC:D≠C:=by nofun
 have hDle:s2.heap.objs.size<=D:=by nofun
 have hCle:s2.heap.objs.size<=C:=by nofun
 have below:∀b o,s2.heap.get? b=some o->b≠C/\b≠D:=λb o e=>⟨xu (xF (xo e) hCle),xu (xF (xo e) hDle)⟩
 have old:∀b o,s2.heap.get? b=some o->h₁.get? b=some o:=λb o e=>hkp b o (hHH ▸ xq _ e)
 have hacc:h₁.get? D=some { cls:=.type "list",dict:=none,data:=.seq ([]:List Value).toArray }:=hkp _ _ (hHH ▸ hDe ▸ xy _ rfl);have fpo:∀b∈fp,∃o,s2.heap.get? b=some o/\∀v,o.data≠.cell v:=T.obj _ _ st2
 have hlt:∀b∈fp,b<s2.heap.objs.size:=λb hb=>by obtain⟨o,e,_⟩:=fpo b hb;exact xo e
 have hDf:D ∉ fp:=λhm=>absurd (xF (hlt D hm) hDle) (vy _)
 have hcD:∀x c,cl.lookup x=some c->c≠D:=λx c e z=>by
  rcases hcl.or e with q|q
  ·obtain⟨v,o,ho,_⟩:=I2.cell x c q;exact(below c o ho).2 z
  ·exact absurd (xF q (by rw[z,hC];exact Nat.le_succ _)) (vy _)
 let Xc:=zAp X (own++fre) scope cl C s2 H2 fp
 have hnoS:∀b,s2.heap.objs.size<=b->b ∉ frs X.stack:=λb hb z=>by
  rcases xp.mp (I2.stkSub b z)with z|z
  ·exact absurd (xF I2.lt hb) (by rw[z];exact vy _)
  ·exact I2.nofs hb z
 have loop:∀t',codeAny (model X.prog X.w) X.A (.compLoop (.ListComp elt [⟨tg,iter,ifs,0⟩] scope pos) 0 (.ref it) (.ref D) (compEnvC scope cl C X.env)) (RR (.ref D) C) { s2 with heap:=h₁,toks:=t' }:=by
  intro t';have I4:Inv Xc [] (zE6 own ix σ) H2 { s2 with heap:=h₁,toks:=t' }:=zNj I2 f2 hlt S hcl hnew hCle old hns₁;refine zJx (λn s'=>∃i ys σ' H' its k,Inv Xc [] σ' H' s'/\tn i s'.heap/\(∀b∈fp,H' b=none)/\H' D=none/\s'.heap.get? D=some ({ cls:=.type "list",data:=.seq (List.toArray its) k }:Obj)/\Vals ys its/\ys.length<=sizeLine/\W i n ys σ' H')
   ?_ m0 ⟨0,[],_,H2,[],_,I4,T.keep _ _ _ st2 (λb _ o e=>old b o e),λb hb=>(f2 b hb).1,I2.hok.fresh hDle,hacc,.nil,xV _,w0⟩
  rintro n s3 ⟨i,ys,σ3,H3,its,k,I3,st3,fr3,hD3,ho3,hv3,hz3,w3⟩;have I3p:Inv Xc [(D,{ cls:=.type "list",data:=.seq (List.toArray its) k })] σ3 H3 s3:=I3.pins_of λp hp=>by
   have e:p=(D,({ cls:=.type "list",data:=.seq (List.toArray its) k }:Obj)):=by simpa using hp
   subst e;exact⟨ho3,hD3,hDC,hnoS D hDle,λv z=>by cases z⟩
  have stat:∀{H':Hp},(∀b∈fp,H' b=none)->∀b∈fp,FpOk Xc [(D,({ cls:=.type "list",data:=.seq (List.toArray its) k }:Obj))] H' b:=λhn b hb=>
   ⟨hn b hb,xu (xF (hlt b hb) hCle),I2.stkNo (f2 b hb),.inl hb,λx c e=>(hcl.or e).elim (λe=>(f2 b hb).2.2.2.2.1 x c e) λz=>xv (xu (vK (xF (hlt b hb) hCle) z)),λp hp z=>by
    have e:p=(D,({ cls:=.type "list",data:=.seq (List.toArray its) k }:Obj)):=by simpa[Xc,zAp]using hp
    rw[e]at z;exact hDf (by rw[show D=b from z];exact hb)⟩
  rcases turn i n ys σ3 H3 w3 with⟨stop,qn⟩|⟨go,hys,N,hN,step⟩
  ·refine thn (T.done Xc rfl rfl rfl hc i _ s3 σ3 H3 _ I3p (stat fr3) st3 stop) λr s4 hq1=>?_
   obtain⟨hr,I4⟩:=hq1;subst hr;have ho4:=(I4.pin (D,_) (xZ _ xY)).1;obtain⟨m',hn',_⟩:=I4.loc;have un:Un (frs X.stack) fp H2 (upd H3 D (.lst ys)) s2.heap s4.heap:=Un.adopt (show Un (frs X.stack) fp H2 H3 s2.heap s4.heap from I4.base) hDle hD3;have hok:HOk X.prog X.w (upd H3 D (.lst ys)) s4.heap:=HOk.adopt (show HOk X.prog X.w H3 s4.heap from I4.hok) hD3 ⟨hz3,its,_,hv3,ho4⟩;have IX:Inv X pins σ (upd H3 D (.lst ys)) s4:=I2.call' (ch:=fp) I4.os un hok I4.bare λb hb=>⟨(f2 b hb).2.2.2.1,(f2 b hb).2.1,(f2 b hb).2.2.2.2.1,(f2 b hb).2.2.2.2.2⟩
   exact hRR D C s4 m' ys H3 IX hn' (I2.fpOk hCle (by rw[zAi (xv hDC)];exact I4.free)) hD3 qn
  ·refine thn (T.item Xc rfl rfl rfl hc i _ s3 σ3 H3 _ I3p (stat fr3) st3 go) λr s4 hq1=>?_
   obtain⟨u,hr,h4⟩:=hq1;subst hr;refine thn h4 λ_ s5 hq1=>?_
   obtain⟨x,H5,I5,r5,y5,st5,fr5⟩:=hq1;have I5':=I5.pinned (stat fr5) (T.obj _ _ st5);refine thn (hg cl C _ s5 σ3 H5 x u _ I5' r5 (step x H5 y5)) λ_ s6 hq1=>?_
   obtain⟨σ6,H6,I6,q6⟩:=hq1;refine thn (hi cl C _ s6 σ6 H6 _ I6 q6) λb s7 hq1=>?_
   obtain⟨H7,I7,q7⟩:=hq1;have keepT:∀{σ7:St}{H7:Hp}{s7:Shared}{h':Heap},Inv Xc ([(D,({ cls:=.type "list",data:=.seq (List.toArray its) k }:Obj))]++zJc fp s5.heap) σ7 H7 s7->(∀b o,b≠D->s7.heap.get? b=some o->h'.get? b=some o)->tn (i+1) h'/\∀b∈fp,H7 b=none:=λ{σ7 H7 s7 h'} I7 hk=>by
    refine⟨T.keep _ _ _ st5 λb hb o e=>hk b o (λz=>hDf (z ▸ hb)) (I7.pin (b,o) (xZ _ (xZ _ (zDv hb e)))).1,λb hb=>?_⟩;obtain⟨o,e,d⟩:=T.obj _ _ st5 b hb;exact(I7.pin (b,o) (xZ _ (xZ _ (zDv hb e)))).2.1
   cases b with
   | false=>
    obtain⟨m',hm,w7⟩:=hN _ _ _ q7;obtain⟨t7,f7⟩:=keepT (h':=s7.heap) I7 λ_ _ _ e=>e
    have pD:=I7.pin (D,_) (xZ _ (vq _ xY));exact⟨m',hm,i+1,ys,σ6,H7,its,k,I7.pins_of (λp hp=>nomatch hp),t7,f7,pD.2.1,pD.1,hv3,hz3,w7⟩
   | true=>
    refine thn (he cl C _ s7 σ6 H7 _ I7 q7) λy s8 hq1=>?_
    obtain⟨v,H8,I8,r8,n8⟩:=hq1;obtain⟨m',hm,w8⟩:=hN _ _ _ n8;have pD:=I8.pin (D,_) (xZ _ (vq _ xY));have hsz:its.toArray.size<=sizeLine:=by rw[xA,<- hv3.length];exact hz3
    refine wpAny_list_append_plain (hsz:=hsz) (show s8.heap.PlainList D its.toArray from⟨_,pD.1⟩) λh₅ hl₅ hs₅=>?_
    obtain⟨t8,f8⟩:=keepT (h':=h₅) I8 λb o hb e=>hs₅.extBut b o hb e
    obtain⟨k',ho5⟩:=hl₅;have I9:Inv Xc [] σ6 H8 { s8 with heap:=h₅ }:=(I8.pins_of (pins':=[]) (λp hp=>nomatch hp)).turned (it:=D) (t':=s8.toks) (λb o hb e=>hs₅.extBut b o hb e) pD.2.1 hDC (.inr hDle) hcD λp hp=>nomatch hp
    refine⟨m',hm,i+1,ys++[v],σ6,H8,its++[y],k',I9,t8,f8,pD.2.1,?_,hv3.append (.cons r8 .nil),(by rw[xw,vL];exact hys),w8⟩;show h₅.get? D=_;rw[ho5];simp
 exact codeAny_compStart_list (loop _) (T.self _ 0 _ _ _ (T.keep _ _ _ st2 (λb _ o e=>old b o e)) (loop _))
end
noncomputable def zKh (own:List Str) (ix:List Nat) (wi:TI) (g:TG) (tt:TT) (te:TE):TE:=λσ H Q=>wi σ H λJ H1=>
 zUe J g tt te (zE6 own ix σ) H1 λys H2=>∀D,H2 D=none->Q (.ref D) (upd H2 D (.lst ys))
section
variable {X:Cx}{own fre:List Str}{ix:List Nat}{scope:Scope}
def zSk{elt:Expr}{ifs:List Expr}{pos:Pos}{g:TG}{tt:TT}{te:TE}(hc:X.calm=true)(S:CompScope X own fre ix scope)(hi:PI X tg iter wi)
  (hg:∀cl C s H fp,PG (zAp X (own++fre) scope cl C s H fp) tg g) (ht:∀cl C s H fp,PIfs (zAp X (own++fre) scope cl C s H fp) ifs tt) (he:∀cl C s H fp,PE (zAp X (own++fre) scope cl C s H fp) elt te)
  (hs:∀x,foldedSetIterable iter X.env x=pure x:=by intro _;rfl):PE X (.ListComp elt [⟨tg,iter,ifs,0⟩] scope pos) (zKh own ix wi g tt te):=by
 intro pins s σ H Q I h;obtain⟨cl,ecl,hcl,hcf⟩:=zEs (scope:=scope) (env:=X.env) λy hy hf=>I.ok.has y.1 (S.fr y hy hf)
 rw[eval_ListComp];refine wpAny_comprehension_free (use:=none) rfl hs ecl S.kind S.loc (thn (hi pins s σ H _ I h) λv s1 h1=>thn h1 λitv s2 h2=>?_);obtain⟨it,fp,tn,J,H2,e,I2,T,st2,f2,q⟩:=h2;subst e;refine zHh (RR:=λacc C=>compPost (model X.prog X.w) X.A X.xe none (EP X pins σ Q) acc C) I2 T st2 f2 hc S hcl hcf (λcl C=>hg _ _ _ _ _) (λcl C=>ht _ _ _ _ _) (λcl C=>he _ _ _ _ _) q ?_;intro D C s' m' ys H' IX hn fC hD qd;refine⟨m',hn,λh' hs'=>?_⟩;exact⟨.ref D,_,IX.turned (it:=C) (t':=s'.toks) (λb o hb e=>hs'.extBut b o hb e) fC.1 fC.2.1 fC.2.2.2.1 fC.2.2.2.2.1 fC.2.2.2.2.2,rfl,qd D hD⟩
def zWj{i:Nat}{pos':Pos}{tg elt iter:Expr}{ifs:List Expr}{pos cpos:Pos}{wi:TI}{g:TG}{tt:TT}{te:TE}(hN:X.N.Nodup)(hix:X.N[i]?=some x)(hx:Loc X.env.scope x)
  (hc:X.calm=true) (S:CompScope X own fre ix scope) (hi:PI X tg iter wi)
  (hg:∀cl C s H fp,PG (zAp X (own++fre) scope cl C s H fp) tg g) (ht:∀cl C s H fp,PIfs (zAp X (own++fre) scope cl C s H fp) ifs tt) (he:∀cl C s H fp,PE (zAp X (own++fre) scope cl C s H fp) elt te)
  (hsw:swapsWith (.ListComp elt [⟨tg,iter,ifs,0⟩] scope cpos) (some (.Name x pos')) pos.line X.env=pure true:=by rfl)
  (hs:∀x,foldedSetIterable iter X.env x=pure x:=by intro _;rfl) (hf:X.fn x=true\/X.env.scope.names.lookup x=some .local:=by first|exact .inl rfl|exact .inr rfl|assumption):
  PS X (.Assign [.Name x pos'] (.ListComp elt [⟨tg,iter,ifs,0⟩] scope cpos) pos) (tAsg (zKh own ix wi g tt te) (gName i)):=by
 intro pins s σ H D I h;obtain⟨cl,ecl,hcl,hcf⟩:=zEs (scope:=scope) (env:=X.env) λy hy hf=>I.ok.has y.1 (S.fr y hy hf)
 rw[exec_Assign_Name_used _ _ _ _ hsw];refine xc (wpAny_standAt (xc ?_));show wpAny _ X.A (do let _ <- comprehension (.ListComp elt [⟨tg,iter,ifs,0⟩] scope cpos) scope X.env _ (newList []) false (eval iter X.env) (some (assign (.Name x pos') X.env))) _ _ s;refine xc (vA (wpAny_comprehension_free (use:=some (assign (.Name x pos') X.env)) (Q:=λ_ s'=>SP X pins D .next s') rfl hs ecl S.kind S.loc
  (thn (hi pins s σ H _ I h) λv s1 h1=>thn h1 λitv s2 h2=>?_)) (λ_ s' hq=>xh (xh hq)) λ_ _ e=>e)
 obtain⟨it,fp,tn,J,H2,e,I2,T,st2,f2,q⟩:=h2;subst e;refine zHh (RR:=λacc C=>compPost (model X.prog X.w) X.A X.xe (some (assign (.Name x pos') X.env)) (λ_ s'=>SP X pins D .next s') acc C) I2 T st2 f2 hc S hcl hcf (λcl C=>hg _ _ _ _ _) (λcl C=>ht _ _ _ _ _) (λcl C=>he _ _ _ _ _) q ?_;intro D' C s' m' ys H' IX hn fC hD qd;show wpAny _ X.A (assign (.Name x pos') X.env (.ref D')) _ _ _;refine wpAny_assign_Name (zJ6 (v:=.ref D') IX hN hix hx rfl (λs'' I'' hsb=>?_) hf);obtain⟨a,hsb,ha⟩:=hsb;have hCa:C≠a:=by
  rcases ha with z|z
  ·rw[z];exact fC.2.1
  ·exact xv (fC.2.2.2.2.1 x a z)
 refine⟨m',hn.sameBut hsb hCa,λh' hs'=>?_⟩;exact⟨_,_,I''.turned (it:=C) (t':=s''.toks) (λb o hb e=>hs'.extBut b o hb e) fC.1 fC.2.1 fC.2.2.2.1 fC.2.2.2.2.1 fC.2.2.2.2.2,qd D' hD⟩
end
end L2
namespace LX
open PySem
open Sem (wp)
def zSu:typeLookup (.type "list_reverseiterator") "__len__"=pure none:=by rw[yr,yt];kernel_rfl
def zXy:typeLookup (.type "list_reverseiterator") "__length_hint__"=pure (some (.builtin "list_reverseiterator.__length_hint__")):=by rw[yr,yt];kernel_rfl
section
variable {prog:Program}{w:World}{A:Around}{E:Value->Shared->Prop}{s:Shared}
def zNd{R:Result->Shared->Prop}{items:Array Value}(hh:A.handled=none)(hne:l≠I)(hit:s.heap.IsRevIter I l ((items.size:Int)-1))(hl:s.heap.IsList l items)
  (S:Addr) (res:Value) (c₀:Nat) (hSI:S≠I) (hSl:S≠l) (hS:s.heap.get? S=some { cls:=.type "list",data:=.seq #[] c₀ }) (hn:items.size<=sizeLine)
  (hR:∀h' tk acc' c',(∀b o,b≠S->b≠I->s.heap.get? b=some o->h'.get? b=some o)->h'.get? S=some { cls:=.type "list",dict:=none,data:=.seq acc' c',slots:=#[] }->
   ItemsOf (λi v=>items[items.size-1-i]?=some v) acc' items.size->R (.ok (.ret res)) { s with heap:=h',toks:=tk }):
  wpAny (model prog w) A.in1 (Builtin.List.listExtendWith (.ref S) (.ref I) res)
   (λfin s'=>match fin with|.done f=>R (.ok f) s'|.again c'=>c'.quiet=true/\codeAny (model prog w) A c' R s') (λe s'=>R (.error e) s') s:=by
 have W:=(Walks.listRev (prog:=prog) (w:=w) (A:=A.in1) hh I l hne items).toS;have st:0<=items.size/\s.heap.IsRevIter I l ((items.size:Int)-1-((0:Nat):Int))/\s.heap.IsList l items:=⟨xV _,by simpa using hit,hl⟩;have hT:s.TypeIs (.ref I) "list_reverseiterator":=hit.typeIs;have hSf:S ∉ [I,l]:=λhm=>by
  rcases xp.mp hm with z|z
  ·exact hSI z
  ·exact hSl (xE.mp z)
 have h1:Builtin.List.listSameRef (.ref S) (.ref I)=false:=by simp[Builtin.List.listSameRef,hSI]
 unfold Builtin.List.listExtendWith;refine xc (v9 hT ?_);rw[xg (by rw[h1];decide)];refine xc (wpAny_pyIter_revIter hit ?_);refine xc (xP ?_);unfold Builtin.List.listLengthHint;refine xc (ui hT zSu ?_);show wpAny _ A.in1 (specialOf (Value.ref I) (Str.ofString "__length_hint__") >>= _) _ _ _;refine xc (ui hT zXy ?_)
 (generalize hid:("list_reverseiterator.__length_hint__":String)=id0;(fail_if_success (clear hid id0));wp_delta;rw[show splitId id0=some ("list_reverseiterator","__length_hint__")from by subst hid;decide +kernel];subst hid)
 refine xc (ub (b:=true) hT (by rw[isSubtype_type];kernel_rfl) ?_);refine xh ?_;rw[xg (by decide)];refine xh ⟨yd F.plain_extend_loop _,codeAny_extend_loopS W hn _ hSf _ items.size 0 _ _ _ rfl (xV _) st hS (ItemsOf.nil _) λs' acc' c' hm hS' hacc=>?_⟩;rw[Moved.eq_with hm];refine hR s'.heap s'.toks acc' c' (λb o hb hb' e=>hm.heap b o (λhmem=>?_) e) hS' hacc;rcases xp.mp hmem with z|z
 ·exact hb z
 ·exact hb' (xE.mp z)
def zTc{R:Result->Shared->Prop}{items:Array Value}(hh:A.handled=none)(hne:l≠I)(hit:s.heap.IsRevIter I l ((items.size:Int)-1))(hl:s.heap.IsList l items)
  (S:Addr) (hSI:S≠I) (hSl:S≠l) (hS:s.heap.get? S=some { cls:=.type "list",data:=.seq #[] }) (hn:items.size<=sizeLine)
  (hR:∀h' tk acc' c',(∀b o,b≠S->b≠I->s.heap.get? b=some o->h'.get? b=some o)->h'.get? S=some { cls:=.type "list",dict:=none,data:=.seq acc' c',slots:=#[] }->
   ItemsOf (λi v=>items[items.size-1-i]?=some v) acc' items.size->R (.ok (.ret .none)) { s with heap:=h',toks:=tk }):
  wpAny (model prog w) A.in1 (Builtin.«list.__init__» ⟨[.ref S,.ref I],[]⟩)
   (λfin s'=>match fin with|.done f=>R (.ok f) s'|.again c'=>c'.quiet=true/\codeAny (model prog w) A c' R s') (λe s'=>R (.error e) s') s:=by
 show wpAny _ A.in1 (do let old <- Builtin.List.listItems (.ref S);Builtin.List.listUpdate (.ref S) (λ_=>#[]);letGo old.toList.reverse;Builtin.List.listExtendWith (.ref S) (.ref I) .none) _ _ s;refine xc ?_;unfold Builtin.List.listItems;refine xc (uP hS rfl (xh ?_));show wpAny _ A.in1 (updateSeq S (λ_=>#[]) >>= λ_=>letGo (#[]:Array Value).toList.reverse >>= λ_=>Builtin.List.listExtendWith (.ref S) (.ref I) .none) _ _ s;refine xc (wpAny_updateSeq hS rfl ?_);have hS₂:=uh (Obj.mapSeq (λ_=>(#[]:Array Value))) hS rfl;have oth:∀b o,b≠S->s.heap.get? b=some o->(s.heap.update S (Obj.mapSeq (λ_=>(#[]:Array Value)))).get? b=some o:=
  λb o hb e=>(yb _ _ (xv hb)).trans e
 refine xc (wpAny_letGo ?_);refine zNd hh hne (hit.at λo e=>oth I o (xv hSI) e) (hl.at λo e=>oth l o (xv hSl) e) S .none _ hSI hSl hS₂ hn λh' tk acc' c' hk hS' hacc=>?_
 exact hR h' tk acc' c' (λb o hb hb' e=>hk b o hb hb' (oth b o hb e)) hS' hacc
def call_list_rev{Q:Value->Shared->Prop}{items:Array Value}(hh:A.handled=none)(hne:l≠I)(hit:s.heap.IsRevIter I l ((items.size:Int)-1))(hl:s.heap.IsList l items)(hn:items.size<=sizeLine)
  (hQ:∀h' tk acc' c',(∀b o,b≠I->s.heap.get? b=some o->h'.get? b=some o)->h'.get? s.heap.objs.size=some { cls:=.type "list",dict:=none,data:=.seq acc' c',slots:=#[] }->
   ItemsOf (λi v=>items[items.size-1-i]?=some v) acc' items.size->Q (.ref s.heap.objs.size) { s with heap:=h',toks:=tk }):wpAny (model prog w) A (call (.type "list") [.ref I]) Q E s:=by
 refine callType_codes (Q₁:=λobj s₁=>obj=.ref s.heap.objs.size/\s₁={ s with heap:=s.heap.push { cls:=.type "list",data:=.seq #[] } }) F.called_list (F.typeCall_list_1 _) F.entry_list_init
  (code_list_new _ ⟨rfl,rfl⟩) λobj s₁ h₁=>?_
 obtain⟨rfl,rfl⟩:=h₁;have hS:(s.heap.push { cls:=.type "list",data:=.seq #[] }).get? s.heap.objs.size=some { cls:=.type "list",data:=.seq #[] }:=xy _ rfl;have nI:s.heap.objs.size≠I:=by obtain⟨o,ho,_⟩:=hit;exact xv (xu (xo ho))
 have nl:s.heap.objs.size≠l:=by obtain⟨o,ho,_⟩:=hl;exact xv (xu (xo ho))
 refine⟨⟨_,hS,rfl⟩,F.args_list_init_2 _ _,zTc (A:=A.in1) hh hne (hit.at λo e=>xq _ e) (hl.at λo e=>xq _ e) _ nI nl hS hn λh' tk acc' c' hk hS' hacc=>?_⟩;exact⟨rfl,hQ h' tk acc' c' (λb o hb e=>hk b o (xu (xo e)) hb (xq _ e)) hS' hacc⟩
end
end LX
namespace L2
open PySem PySem.Spec PyProof.Rows
section
variable {X:Cx}
noncomputable def zHn (K:PySem.W.Frag) (te:TE):TE:=λσ H Q=>te σ H λx H1=>∃a xs,x=.ref a/\SqL K H1 a xs/\∀l,H1 l=none->Q (.ref l) (upd H1 l (.lst xs.reverse))
def zKe{its:List Value}{acc:Array Value}(r:Vals xs its)(h:ItemsOf (λi v=>its.toArray[its.toArray.size-1-i]?=some v) acc its.toArray.size):acc.toList=its.reverse:=by
 obtain⟨hs,hi⟩:=h;have hs':acc.size=its.length:=by simpa using hs
 refine yu λj=>?_
 rcases vE j its.length with hj|hj
 ·have e1:acc[j]?=some (acc[j]'(by nofun)):=vm (by nofun);have e2:=hi j _ e1;rw[vM,e1,List.getElem?_reverse hj,<- e2];simp
 ·rw[vF (by simpa[hs']using hj),vF (by simpa using hj)]
def zMy{p p2 pos pos2:Pos}(hc:X.calm=true)(he:PE X e te)(hgl:Gl X "list")(hml:X.mg "list"=none)(hgr:Gl X "reversed")(hmr:X.mg "reversed"=none)
  (hs:starEach [e] X.env=[(false,eval e X.env)]:=by rfl)
  (hs2:starEach [Expr.Call (.Name "reversed" p2) [e] [] pos2] X.env=[(false,eval (.Call (.Name "reversed" p2) [e] [] pos2) X.env)]:=by rfl):
  PE X (.Call (.Name "list" p) [.Call (.Name "reversed" p2) [e] [] pos2] [] pos) (zHn X.K te):=by
 intro pins s σ H Q I h;refine uK (zEo I hgl hml yv ?_);refine u4 ?_ hs2 rfl;rw[hs2];show wpAny _ _ (spliced ((false,eval (.Call (.Name "reversed" p2) [e] [] pos2) X.env)::backTo pos [])) _ _ s;refine u7 ?_;refine uK (zEo I hgr hmr PyProof.Rows.boot_reversed ?_);refine u4 ?_ hs rfl;rw[hs];show wpAny _ _ (spliced ((false,eval e X.env)::backTo pos2 [])) _ _ s;refine u7 (thn (he pins s σ H _ I h) λu s1 hq1=>?_);obtain⟨x,H1,I1,r1,a,xs,ex,hq,q⟩:=hq1;subst ex;cases r1;refine u6 ?_;obtain⟨its,rv,pl,hz⟩:=I1.list hq;refine call_reversed_list pl.isList ?_;refine u6 ?_;have I2:Inv X pins σ H1 { s1 with heap:=s1.heap.push (revObj a ((its.toArray.size:Int)-1)) }:=I1.kept (t':=s1.toks) λb o e=>xq _ e
 have hne:a≠s1.heap.objs.size:=by obtain⟨o,ho,_⟩:=pl.isList;exact xu (xo ho)
 refine LX.call_list_rev (items:=its.toArray) (I.ok.hd hc) hne ⟨_,xy _ rfl,rfl,rfl⟩ (pl.isList.at λo e=>xq _ e) (by simpa[<- rv.length]using hz) λh' tk acc c kp ho hi=>?_
 have hfr:H1 s1.heap.objs.size=none:=I1.hok.fresh (xi _);have fp:FpOk X pins H1 s1.heap.objs.size:=I1.fpOk (xi _) hfr;have I3:Inv X pins σ H1 { s1 with heap:=h',toks:=tk }:=Inv.turned (s:={ s1 with heap:=s1.heap.push (revObj a ((its.toArray.size:Int)-1)) }) (it:=s1.heap.objs.size) (h':=h') (t':=tk) I2 (λb o hb e=>kp b o hb e) fp.1 fp.2.1 fp.2.2.2.1 fp.2.2.2.2.1 fp.2.2.2.2.2;generalize hDD:(s1.heap.push (revObj a ((its.toArray.size:Int)-1))).objs.size=D at ho ⊢;have hD:H1 D=none:=by rw[<- hDD];exact I2.hok.fresh (xi _)
 have fD:FpOk X pins H1 D:=I2.fpOk (by rw[<- hDD];exact xi _) hD;have e1:acc.toList=its.reverse:=zKe rv hi;have ho':h'.get? D=some { cls:=.type "list",dict:=none,data:=.seq (its.reverse).toArray c,slots:=#[] }:=by rw[ho,<- e1]
 have hok:HOk X.prog X.w (upd H1 D (.lst xs.reverse)) h':=HOk.adopt I3.hok hD ⟨by rw[List.length_reverse];exact hz,_,_,rv.reverse,ho'⟩;have I4:Inv X pins σ (upd H1 D (.lst xs.reverse)) { s1 with heap:=h',toks:=tk }:=by
  refine Inv.call' (s:={ s1 with heap:=s1.heap.push (revObj a ((its.toArray.size:Int)-1)) }) (s':={ s1 with heap:=h',toks:=tk }) (ch:=[s1.heap.objs.size]) I2 rfl ?_ hok I3.bare λb hb=>?_
  ·have ne:∀b,b ∉ [s1.heap.objs.size]->b≠s1.heap.objs.size:=λb hb z=>hb (by simp[z])
   exact⟨λb o e _ _ hx=>kp b o (ne b hx) e,λb o e _ _ hx=>⟨o.slots,kp b o (ne b hx) e⟩,λb o e n _=>by
     rw[zAi (xu (xF (xo e) (by rw[<- hDD];exact xi _)))];exact n,λb o e hx=>⟨o,kp b o (ne b hx) e⟩,
    λb ys e=>by rw[zAi (zAh e hD)];exact e,λb o u e=>by rw[zAi (zAh e hD)];exact e,λb ps e=>⟨#[],by rw[zAi (zAh e hD),e];simp⟩⟩
  ·have e:b=s1.heap.objs.size:=by simpa using hb
   subst e;exact⟨fp.2.2.2.1,fp.2.1,fp.2.2.2.2.1,fp.2.2.2.2.2⟩
 exact⟨.ref D,_,I4,rfl,q D hD⟩
def zEf{bs:List Bool}{its:List Value}(r:Vals (bs.map V.bl) its):TruthOf P w A (λi v=>its.toArray[i]?=some v) (λi=>bs.getD i false):=by
 intro i v s Q E hv hq;have hv':its[i]?=some v:=by simpa using hv
 have hlt:i<its.length:=(xO.mp hv').1;have hl:=r.length;rw[xn]at hl;have hb:(bs.map V.bl)[i]?=some (V.bl (bs[i]'(by nofun))):=by rw[xQ,xG (by nofun)];rfl
 obtain⟨u,hu,ru⟩:=r.get hb;rw[hv']at hu;cases hu;cases ru;dsimp only at hq;rw[yw,xG (by nofun)]at hq;exact v7 hq
def zGz:∀bs:List Bool,((List.range bs.length).all λi=>bs.getD i false)=bs.all id:=by
 intro bs;rw[uQ,vV,vV];constructor
 ·intro h b hb;obtain⟨i,hi,rfl⟩:=uj.mp hb;have:=h i (vi.mpr hi);simpa[yw,hi]using this
 ·intro h i hi;have hi':=vi.mp hi;have:=h bs[i] (List.getElem_mem hi');simpa[yw,hi']using this
def zGy:∀bs:List Bool,((List.range bs.length).any λi=>bs.getD i false)=bs.any id:=by
 intro bs;rw[uQ,yx,yx];constructor
 ·rintro⟨i,hi,h⟩;have hi':=vi.mp hi;exact⟨bs[i],List.getElem_mem hi',by simpa[yw,hi']using h⟩
 ·rintro⟨b,hb,h⟩;obtain⟨i,hi,rfl⟩:=uj.mp hb;exact⟨i,vi.mpr hi,by simpa[yw,hi]using h⟩
def zR3(hc:X.calm=true):zBl X (.builtin "all") (λxs H Q=>∃(p:Addr) (bs:List Bool),xs=[.ref p]/\SqL X.K H p (bs.map V.bl)/\Q (.bl (bs.all id)) H):=by
 intro pins s σ H xs us Q I r h;obtain⟨p,bs,rfl,hq,q⟩:=h;obtain⟨u,rfl,rx⟩:=vals1 r;cases rx;obtain⟨its,rv,pl,hz⟩:=I.list hq;have hl:=rv.length;rw[xn]at hl;have hne:p≠s.heap.objs.size:=by obtain⟨o,ho,_⟩:=pl.isList;exact xu (xo ho)
 refine call_all_walk (uR pl.isList ?_);refine⟨_,_,_,_,_,_,_,rfl,Walks.list (A:=X.A.in1) (I.ok.hd hc) _ p hne its.toArray,⟨⟨_,xy _ rfl,rfl,rfl⟩,pl.isList.at λo e=>xq _ e⟩,zEf rv,λh' tk hk=>?_⟩;have hfr:H s.heap.objs.size=none:=I.hok.fresh (xi _);have fp:FpOk X pins H s.heap.objs.size:=I.fpOk (xi _) hfr;have e:((List.range its.toArray.size).all λi=>bs.getD i false)=bs.all id:=by rw[xA,<- hl];exact zGz bs
 rw[e];exact⟨.bl (bs.all id),H,Inv.turned (it:=s.heap.objs.size) (h':=h') (t':=tk) (I.kept (t':=s.toks) λb o e=>xq _ e) (λb o hb e=>hk b o (by simpa using hb) e) fp.1 fp.2.1 fp.2.2.2.1 fp.2.2.2.2.1 fp.2.2.2.2.2,rfl,q⟩
def zR2(hc:X.calm=true):zBl X (.builtin "any") (λxs H Q=>∃(p:Addr) (bs:List Bool),xs=[.ref p]/\SqL X.K H p (bs.map V.bl)/\Q (.bl (bs.any id)) H):=by
 intro pins s σ H xs us Q I r h;obtain⟨p,bs,rfl,hq,q⟩:=h;obtain⟨u,rfl,rx⟩:=vals1 r;cases rx;obtain⟨its,rv,pl,hz⟩:=I.list hq;have hl:=rv.length;rw[xn]at hl;have hne:p≠s.heap.objs.size:=by obtain⟨o,ho,_⟩:=pl.isList;exact xu (xo ho)
 refine call_any_walk (uR pl.isList ?_);refine⟨_,_,_,_,_,_,_,rfl,Walks.list (A:=X.A.in1) (I.ok.hd hc) _ p hne its.toArray,⟨⟨_,xy _ rfl,rfl,rfl⟩,pl.isList.at λo e=>xq _ e⟩,zEf rv,λh' tk hk=>?_⟩;have hfr:H s.heap.objs.size=none:=I.hok.fresh (xi _);have fp:FpOk X pins H s.heap.objs.size:=I.fpOk (xi _) hfr;have e:((List.range its.toArray.size).any λi=>bs.getD i false)=bs.any id:=by rw[xA,<- hl];exact zGy bs
 rw[e];exact⟨.bl (bs.any id),H,Inv.turned (it:=s.heap.objs.size) (h':=h') (t':=tk) (I.kept (t':=s.toks) λb o e=>xq _ e) (λb o hb e=>hk b o (by simpa using hb) e) fp.1 fp.2.1 fp.2.2.2.1 fp.2.2.2.2.1 fp.2.2.2.2.2,rfl,q⟩
end
section
variable {X:Cx}{pins:List (Addr × Obj)}{σ:St}{H:Hp}{s:Shared}
def zU2(b:Bool):zBl X (.builtin "isinstance") (λxs H Q=>∃x t,xs=[x,.ty T]/\TyOf X.K H x t/\PySem.W.kitOne X.K t (.type T)=some b/\Q (.bl b) H):=by intro pins s σ H xs us Q I r h;obtain⟨x,t,rfl,ty,e,q⟩:=h;obtain⟨u,w',rfl,ru,rw'⟩:=vals2 r;cases(show w'=Value.type T from rw');exact zQ1 I ru ty e λtk=>⟨.bl b,H,I.tok _,rfl,q⟩
noncomputable def gLst (K:PySem.W.Frag) (n:Nat) (t:TGs):TG:=λv σ H Q=>∃a xs,v=.ref a/\SqL K H a xs/\xs.length=n/\t xs σ H Q
def zMd{prog:Program}{w:World}{A:Around}{E:Value->Shared->Prop}{items:Array Value}(hne:t≠it):∀(n i:Nat) (s:Shared) (Q:List Value->Shared->Prop),s.heap.IsListIter it t i->s.heap.IsList t items->i+n<=items.size->
  (∀h',h'.IsListIter it t (i+n)->Heap.SameBut it s.heap h'->Q ((items.toList.drop i).take n) { s with heap:=h' })->wpAny (model prog w) A (draw (.ref it) n) Q E s
 | 0,i,s,Q,hit,_,_,hQ=>by
  show wpAny _ _ (pure []) Q E s;exact xh (by simpa using hQ s.heap hit (Heap.SameBut.refl ..))
 | n+1,i,s,Q,hit,ht,hle,hQ=>by
  have hlt:i<items.size:=by nofun
  show wpAny _ _ (pyNext (.ref it) >>= _) Q E s;refine xc (wpAny_pyNext_list_item hit ht (x:=items[i]) (by simp[hlt]) λh₁ hit₁ hs₁=>?_);refine xc (xP (zMd hne n (i+1) { s with heap:=h₁ } _ hit₁ (ht.at λo e=>hs₁.extBut t o hne e) (by nofun) λh₂ hit₂ hs₂=>xh ?_));have hd:items.toList.drop i=items[i]::items.toList.drop (i+1):=by simp[List.drop_eq_getElem_cons,hlt]
  have:=hQ h₂ (by rw[show i+(n+1)=i+1+n by nofun];exact hit₂) (hs₁.trans hs₂);rw[hd,List.take_succ_cons]at this;exact this
def zG2{prog:Program}{w:World}{A:Around}{E:Value->Shared->Prop}{s:Shared}{Q:List Value->Shared->Prop}(hh:A.handled=none)(ht:s.heap.IsList t items)
  (hQ:∀h',Heap.ExtBut s.heap.objs.size s.heap h'->Q items.toList { s with heap:=h' }):wpAny (model prog w) A (unpackItems (.ref t) items.size none) Q E s:=by
 have hlt:t≠s.heap.objs.size:=by obtain⟨o,ho,_⟩:=ht;exact xu (xo ho)
 unfold unpackItems;refine xc ?_
 ·unfold notIterableAtAll;refine xc (ui ht.typeIs slot_list_iter.lookup ?_);refine xh ?_;simp only[ve,xI];refine xc (xP (uR ht ?_));refine xc (xP (zMd hlt items.size 0 _ _ ⟨_,xy _ rfl,rfl,rfl⟩ (ht.at λo e=>xq _ e) (by nofun) λh₁ hit₁ hs₁=>?_));have hall:List.take items.size (List.drop 0 items.toList)=items.toList:=by
   rw[List.drop_zero];exact yy (by simp)
  rw[hall];rw[xg (by simp)];have ht₁:h₁.IsList t items:=ht.at λo e=>hs₁.extBut t o hlt (xq _ e)
  refine xc (xP (wpAny_pyNext_list_end hh hit₁ ht₁ (by simp) λh₂ he₂=>?_));simp only[Option.isSome_none,ve,xI];refine xh (hQ h₂ λb o hb e=>he₂ b o hb (hs₁.extBut b o hb (xq _ e)))
def yA8{k:Nat}{n:Nat}{pos:Pos}(hc:X.calm=true)(h:PGs X es t)
  (hn:(assignEach es X.env).length=n:=by rfl) (hst:(assignEach es X.env).findIdx? (·.1)=none:=by rfl):PG X (.Tuple es k pos) (gLst X.K n t):=by
 intro pins s σ H v u Q I r hw;obtain⟨a,xs,e1,hq,hl,hw⟩:=hw;subst e1;cases r;obtain⟨its,rv,ht,hz⟩:=I.list hq;rw[assign_Tuple];refine xc (wpAny_standAt ?_);unfold unpack;rw[hst,hn,show n=its.toArray.size by rw[xA,<- rv.length,hl]];refine xc (xP (zG2 (I.ok.hd hc) ht.isList λh' hx=>?_));have I1:Inv X pins σ H { s with heap:=h' }:=I.kept (t':=s.toks) λb o e=>hx b o (xu (xo e)) e
 exact h pins _ σ H xs _ Q I1 (by simpa using rv) hw
end
structure Cal (P:Program) (w:World) (K:PySem.W.Frag) (mg:Str->Option Value) (base:Heap) (x:Str) (k:Nat) (ps:List Str) (sp:Sp):Prop where
 ex:∃f fd,FnOk P w K mg base CX0 k f fd ps sp/\mg x=some (.ref f)/\PySem.W.keepIn K (.ref f)=true/\Binds K fd ps []
section
variable {X:Cx}{x:Str}{k:Nat}{ps:List Str}{sp:Sp}{e:Expr}{es:List Expr}{t:TA}{p pos:Pos}
def yAj(C:Cal X.prog X.w X.K X.mg X.base x k ps sp)(hr:Room k X.A)(hg:Gl X x)(ha:PA X (e::es) t)(hdb:(x == ("__debug__":Str))=false:=by decide)
  (hs:starEach (e::es) X.env=(false,eval e X.env)::starEach es X.env:=by rfl) (hpl:(backTo pos (starEach es X.env)).any (·.1)=false:=by rfl):
  PE X (.Call (.Name x p) (e::es) [] pos) (zRp sp [] E0 t):=by
 obtain⟨f,fd,F,hm,hk,hb⟩:=C.ex;exact zWz F hr hg hm hk hb .nil pass0 ha hdb hs hpl
end
def nst:Expr->Bool
 | .Starred ..=>false
 | _=>true
def zCg(h:nst e=true):starEach (e::es) env=(false,eval e env)::starEach es env:=by cases e <;> first|rfl|cases h
def zGs :∀{es:List Expr},es.all nst=true->(backTo pos (starEach es env)).any (·.1)=false
 | [],_=>rfl
 | e::es,h=>by
  simp only[uk,xM]at h;rw[zCg h.1];show(false || (backTo pos (starEach es env)).any (·.1))=false;rw[zGs h.2];rfl
def nsl:Expr->Bool
 | .Slice ..=>false
 | _=>true
def zSc(h:nsl b=true):zRj b:=λo i=>by cases b <;> first|rfl|cases h
def nco:Expr->Bool
 | .ListComp ..|.SetComp ..|.DictComp ..=>false
 | _=>true
def zHo(h:nco e=true):swapsWith e tg l env=pure false:=by cases e <;> first|rfl|cases h
def zVy{l:Nat}(h:nco e=true):swapsWithSole [tg] e l env=pure false:=zHo h
def zHr{l:Nat}:swapsWithSole [.Tuple es k p] e l env=pure false:=by show swapsWith e (some (.Tuple es k p)) l env=pure false;cases e <;> rfl
def ntu:Expr->Bool
 | .Tuple ..=>false
 | _=>true
def zO3(h:ntu e=true):swappedStores [tg] e env=pure none:=by
 cases tg with
 | Tuple _ _ _=>cases e with
  | Tuple _ _ _=>cases h
  | _=>rfl
 | List _ _=>cases e with
  | Tuple _ _ _=>cases h
  | _=>rfl
 | _=>rfl
def zGv(h:nst tg=true):(assignEach (tg::es) env).map (·.2)=assign tg env::(assignEach es env).map (·.2):=by cases tg <;> first|rfl|cases h
def zBe :∀{es:List Expr},es.all nst=true->(assignEach es env).length=es.length/\(assignEach es env).findIdx? (·.1)=none
 | [],_=>⟨rfl,rfl⟩
 | e::es,h=>by
  simp only[uk,xM]at h;obtain⟨h1,h2⟩:=zBe (env:=env) h.2;have e1:assignEach (e::es) env=(false,assign e env)::assignEach es env:=by have:=h.1;cases e <;> first|rfl|cases this
  rw[e1];refine⟨by rw[xB,h1,xB],?_⟩;rw[List.findIdx?_cons];simp[h2]
def nse:Expr->Bool
 | .Set ..=>false
 | _=>true
def zHt(h:nse e=true)(x:Value):foldedSetIterable e env x=pure x:=by cases e <;> first|rfl|cases h
def nba:Expr->Bool
 | .Call ..=>false
 | _=>true
def zGr(h:nba o=true):attributeBase o m env (eval o env)=eval o env:=by cases o <;> first|rfl|cases h
noncomputable def ntt:Expr->Bool
 | .UnaryOp ..|.BoolOp ..|.IfExp ..|.Compare ..=>false
 | _=>true
def zVo{e:Expr}(h:ntt e=true)(whole:Sem Value):isTrue e env whole=(do let v <- whole;standAt e.pos;holding [v] (truthy v)):=by cases e <;> first|rfl|cases h
section
variable {X:Cx}{e o i a b:Expr}{es:List Expr}{te ta tb to ti:TE}{t:TA}{p pos cpos apos:Pos}
def qa(ha:PE X e te)(hr:PA X es t)(h:nst e=true:=by rfl):PA X (e::es) (zVt te t):=zX2 ha hr (zCg h)
def qix(hr:IxR X r)(ha:PE X a ta)(hb:PE X b tb)(h:nsl b=true:=by rfl):PE X (.Subscript a b pos) (tOp r ta tb):=yCu hr ha hb (zSc h)
def qcal(C:Cal X.prog X.w X.K X.mg X.base x k ps sp)(hr:Room k X.A)(hg:Gl X x)(ha:PA X (e::es) t)(hdb:(x == ("__debug__":Str))=false:=by decide)
  (h:(e::es).all nst=true:=by rfl):PE X (.Call (.Name x p) (e::es) [] pos) (zRp sp [] E0 t):=by
 simp only[uk,xM]at h;exact yAj C hr hg ha hdb (zCg h.1) (zGs h.2)
def zZu{x:Str}{id:String}{r:List V->Hp->VK->Prop}(hc:zBl X (.builtin id) r)(hg:Gl X x)(hm:X.mg x=none)(hv:bootBuiltins x=some (.builtin id))(ha:PA X (e::es) t)(hn:x≠"__name__":=by decide)(hdb:(x == ("__debug__":Str))=false:=by decide)
  (h:(e::es).all nst=true:=by rfl):PE X (.Call (.Name x p) (e::es) [] pos) (tCB r t):=by
 simp only[uk,xM]at h;exact zSp hc hg hm hv ha hn hdb (zCg h.1) (zGs h.2)
def zZt{r:List V->Hp->VK->Prop}(hc:zBl X (.type T) r)(hg:Gl X x)(hm:X.mg x=none)(hv:bootBuiltins x=some (.type T))(ha:PA X (e::es) t)(hn:x≠"__name__":=by decide)(hdb:(x == ("__debug__":Str))=false:=by decide)
  (h:(e::es).all nst=true:=by rfl):PE X (.Call (.Name x p) (e::es) [] pos) (tCB r t):=by
 simp only[uk,xM]at h;exact zP1 hc hg hm hv ha hn hdb (zCg h.1) (zGs h.2)
def qtruth(ha:PE X e te)(h:ntt e=true:=by rfl):PT X e (λσ H Q=>te σ H λx H1=>∃k,TruV X.K x H1 k/\Q k H1):=zS4 ha (zVo h)
def qset{j:Nat}{pos':Pos}(hN:X.N.Nodup)(hi:X.N[j]?=some x)(hx:Loc X.env.scope x)(he:PE X e te)(hf:X.fn x=true\/X.env.scope.names.lookup x=some .local:=by first|exact .inl rfl|exact .inr rfl|assumption)(h:nco e=true:=by rfl):
  PS X (.Assign [.Name x pos'] e pos) (tAsg te (gName j)):=yA0 hN hi hx he (zHo h) hf
def qasgt(he:PE X e te)(hg:PG X (.Tuple ts k tp) g)(h1:ntu e=true:=by rfl):PS X (.Assign [.Tuple ts k tp] e pos) (tAsg te g):=zOr he hg zHr (zO3 h1) rfl
def qgs(h1:PG X tg g)(h2:PGs X ts gs)(h:nst tg=true:=by rfl):PGs X (tg::ts) (zY0 g gs):=zSg h1 h2 (zGv h)
def qtup{ts:List Expr}{n:Nat}(hc:X.calm=true)(h:PGs X ts gs)(hn:ts.length=n:=by rfl)(h1:ts.all nst=true:=by rfl):PG X (.Tuple ts k pos) (gTup X.K n gs):=yA9 hc h ((zBe h1).1.trans hn) (zBe h1).2
def qunl{ts:List Expr}{n:Nat}(hc:X.calm=true)(h:PGs X ts gs)(hn:ts.length=n:=by rfl)(h1:ts.all nst=true:=by rfl):PG X (.Tuple ts k pos) (gLst X.K n gs):=yA8 hc h ((zBe h1).1.trans hn) (zBe h1).2
def qfor{tg iter:Expr}{body:List Stmt}{wi:TI}{g:TG}{tb:TS}(hp:PassesOwn (model X.prog X.w) X.A X.env X.xe)(hc:X.calm=true)(hi:PI X tg iter wi)(hg:PG X tg g)(hb:PSs X body tb)(h:nse iter=true:=by rfl):
  PS X (.For tg iter body [] pos) (tFor wi g tb):=yA4 hp hc hi hg hb (zHt h)
def qexpr(he:PE X e te)(h:nco e=true:=by rfl):PS X (.Expr e pos) (zVs te):=zWl he (zHo h)
def qlcomp{ix:List Nat}{elt:Expr}{ifs:List Expr}{g:TG}{tt:TT}(hc:X.calm=true)(S:CompScope X own fre ix scope)(hi:PI X tg iter wi)
  (hg:∀cl C s H fp,PG (zAp X (own++fre) scope cl C s H fp) tg g) (ht:∀cl C s H fp,PIfs (zAp X (own++fre) scope cl C s H fp) ifs tt) (he:∀cl C s H fp,PE (zAp X (own++fre) scope cl C s H fp) elt te)
  (h:nse iter=true:=by rfl):PE X (.ListComp elt [⟨tg,iter,ifs,0⟩] scope pos) (zKh own ix wi g tt te):=zSk hc S hi hg ht he (zHt h)
def qsetc{own fre:List Str}{ix:List Nat}{scope:Scope}{j:Nat}{pos':Pos}{tg elt iter:Expr}{ifs:List Expr}{wi:TI}{g:TG}{tt:TT}(hN:X.N.Nodup)(hix:X.N[j]?=some x)(hx:Loc X.env.scope x)
  (hc:X.calm=true) (S:CompScope X own fre ix scope) (hi:PI X tg iter wi)
  (hg:∀cl C s H fp,PG (zAp X (own++fre) scope cl C s H fp) tg g) (ht:∀cl C s H fp,PIfs (zAp X (own++fre) scope cl C s H fp) ifs tt) (he:∀cl C s H fp,PE (zAp X (own++fre) scope cl C s H fp) elt te)
  (hsw:swapsWith (.ListComp elt [⟨tg,iter,ifs,0⟩] scope cpos) (some (.Name x pos')) pos.line X.env=pure true:=by rfl) (h:nse iter=true:=by rfl) (hf:X.fn x=true\/X.env.scope.names.lookup x=some .local:=by first|exact .inl rfl|exact .inr rfl|assumption):
  PS X (.Assign [.Name x pos'] (.ListComp elt [⟨tg,iter,ifs,0⟩] scope cpos) pos) (tAsg (zKh own ix wi g tt te) (gName j)):=zWj hN hix hx hc S hi hg ht he hsw (zHt h) hf
def qrange1{tg:Expr}{ta:TA}(hg:Gl X "range")(hm:X.mg "range"=none)(ha:PA X [a] ta)(h:nst a=true:=by rfl):PI X tg (.Call (.Name "range" p) [a] [] pos) (zXw ta):=zOy hg hm ha (zCg h)
def qlistrev{p2 pos2:Pos}(hc:X.calm=true)(he:PE X e te)(hgl:Gl X "list")(hml:X.mg "list"=none)(hgr:Gl X "reversed")(hmr:X.mg "reversed"=none)(h:nst e=true:=by rfl):
  PE X (.Call (.Name "list" p) [.Call (.Name "reversed" p2) [e] [] pos2] [] pos) (zHn X.K te):=zMy hc he hgl hml hgr hmr (zCg h) rfl
def qbm0{T name id:_}{r:V->List V->Hp->VK->Prop}(pa:PlainAttrs T)(slot:Slot T name id)(hty:typeOf (.builtin id)=pure (.type "method_descriptor"))(hm:MtR X id r)(ho:PE X o to)(h:nba o=true:=by rfl)(hline:(apos.endLine == cpos.line)=true:=by rfl):
  PE X (.Call (.Attribute o name apos) [] [] cpos) (tBM0 X.K T r to):=yAk pa slot hty hm ho (zGr h) hline
def qpar{px py pt pt2:Pos}{kt k2 i j:Nat}{ta:TA}(hc:X.calm=true)(hN:X.N.Nodup)(hi:X.N[i]?=some x)(hj:X.N[j]?=some y)(hij:i≠j)
  (hx:X.env.scope.names.lookup x=some .local) (hy:X.env.scope.names.lookup y=some .local) (ha:PA X [a,b] ta)
  (hw:swappedStores [.Tuple [.Name x px,.Name y py] kt pt] (.Tuple [a,b] k2 pt2) X.env=pure (some [x,y])):
  PS X (.Assign [.Tuple [.Name x px,.Name y py] kt pt] (.Tuple [a,b] k2 pt2) pos) (tPar i j ta):=yA2 hc hN hi hj hij hx hy ha hw zHr
end
structure SE (X:Cx) (e:Expr) (t:TE):Prop where h:PE X e t
structure ST (X:Cx) (e:Expr) (t:TT):Prop where h:PT X e t
structure SW (X:Cx) (e:Expr) (t:TT):Prop where h:PW X e t
structure SA (X:Cx) (es:List Expr) (t:TA):Prop where h:PA X es t
structure SS (X:Cx) (st:Stmt) (t:TS):Prop where h:PS X st t
structure SSs (X:Cx) (st:List Stmt) (t:TS):Prop where h:PSs X st t
structure SG (X:Cx) (e:Expr) (t:TG):Prop where h:PG X e t
structure SGs (X:Cx) (es:List Expr) (t:TGs):Prop where h:PGs X es t
structure SI (X:Cx) (tg e:Expr) (t:TI):Prop where h:PI X tg e t
structure SIfs (X:Cx) (es:List Expr) (t:TT):Prop where h:PIfs X es t
structure SO (X:Cx) (e:Option Expr) (t:TO):Prop where h:PO X e t
structure SPs (X:Cx) (pos:Pos) (ks:List (Option Expr)) (vs:List Expr) (t:List (TE × TE)):Prop where h:PPs X pos ks vs t
section
variable {X:Cx}{e o i a b c:Expr}{es:List Expr}{te ta tb tc to ti tv td ty:TE}{t:TA}{p pos cpos apos:Pos}{tA tB':TT}
def pv'(i:Nat){pos:Pos}(hN:X.N[i]?=some x:=by rfl)(hv:Vis X.env.scope x:=by first|exact Or.inl rfl|exact Or.inr (Or.inl rfl)|exact Or.inr (Or.inr rfl))(hd:(x == ("__debug__":Str))=false:=by decide)
  (hcd:(x == ("__classdict__":Str))=false:=by decide):SE X (.Name x pos) (tVar i):=⟨pv i hN hv hd hcd⟩
def zWw{i:Int}{j:Nat}:SE X (.Constant (.int i) j pos) (tC (.int i)):=⟨yAi⟩
def yAm{b:Bool}{j:Nat}:SE X (.Constant (.bool b) j pos) (tC (.bl b)):=⟨yCw⟩
def zOz{j:Nat}:SE X (.Constant (.str x) j pos) (tC (.str x)):=⟨yAd⟩
def zSq(hg:Gl X x)(hm:X.mg x=none)(hv:bootBuiltins x=some u)(r:RelV v u)(hn:x≠"__name__":=by decide)(hd:(x == ("__debug__":Str))=false:=by decide):SE X (.Name x pos) (tC v):=⟨zX0 hg hm hv r hn hd⟩
def yAe(ho:OpR X (binaryOp op) r)(ha:SE X a ta)(hb:SE X b tb):SE X (.BinOp a op b pos) (tOp r ta tb):=⟨yCt ho ha.h hb.h⟩
def zWu(ha:SE X a ta):SE X (.UnaryOp .Not a pos) (zZi ta):=⟨yAg ha.h⟩
def zX1(ha:SE X a ta)(hb:SE X (.BoolOp .And (b::es) pos) tb):SE X (.BoolOp .And (a::b::es) pos) (zZl ta tb):=⟨yAn ha.h hb.h⟩
def zWt(ha:SE X a ta):SE X (.BoolOp op [a] pos) ta:=⟨yAf ha.h⟩
def zWs(h:SA X es t):SE X (.Tuple es k pos) (tTup t):=⟨yAc h.h⟩
def zWv(h:SA X es t):SE X (.List es pos) (tLst t):=⟨yAh h.h⟩
def pe_dnewK':SE X (.Dict [] [] pos) zUd:=⟨zSm⟩
def pe_dnewT':SE X (.Dict [] [] pos) zUc:=⟨zSl⟩
def zSn{keys:List (Option Expr)}{values:List Expr}(h:SPs X pos keys values trs)(hall:keys.all (·.isSome)=true)(hl:keys.length=values.length)(h0:keys≠[])(h15:keys.length<=15):SE X (.Dict keys values pos) (zZk trs):=⟨zWx h.h hall hl h0 h15⟩
def zS9:SPs X pos [] [] []:=⟨zWm⟩
def zOs(hk:SE X k tk)(hv:SE X v tv)(hr:SPs X pos ks vs trs):SPs X pos (some k::ks) (v::vs) ((tk,tv)::trs):=⟨zSa hk.h hv.h hr.h⟩
def zP0{r:V->Option Int->Option Int->Hp->VK->Prop}{lo hi:Option Expr}{tl th:TO}{p2:Pos}(hr:SlR X r)(he:SE X e te)(hl:SO X lo tl)(hu:SO X hi th):SE X (.Subscript e (.Slice lo hi none p2) pos) (tSl r te tl th):=⟨zSj hr he.h hl.h hu.h⟩
def po_none':SO X none zNz:=⟨zWo⟩
def zSb(h:SE X e te):SO X (some e) (zZg te):=⟨zWn h.h⟩
def pa_nil':SA X [] tNil:=⟨yAo⟩
def qa'(ha:SE X e te)(hr:SA X es t)(h:nst e=true:=by rfl):SA X (e::es) (zVt te t):=⟨qa ha.h hr.h h⟩
def qix'(hr:IxR X r)(ha:SE X a ta)(hb:SE X b tb)(h:nsl b=true:=by rfl):SE X (.Subscript a b pos) (tOp r ta tb):=⟨qix hr ha.h hb.h h⟩
def qcal'(C:Cal X.prog X.w X.K X.mg X.base x k ps sp)(hr:Room k X.A)(hg:Gl X x)(ha:SA X (e::es) t)(hdb:(x == ("__debug__":Str))=false:=by decide)
  (h:(e::es).all nst=true:=by rfl):SE X (.Call (.Name x p) (e::es) [] pos) (zRp sp [] E0 t):=⟨qcal C hr hg ha.h hdb h⟩
def zOk{x:Str}{id:String}{r:List V->Hp->VK->Prop}(hc:zBl X (.builtin id) r)(hg:Gl X x)(hm:X.mg x=none)(hv:bootBuiltins x=some (.builtin id))(ha:SA X (e::es) t)(hn:x≠"__name__":=by decide)(hdb:(x == ("__debug__":Str))=false:=by decide)
  (h:(e::es).all nst=true:=by rfl):SE X (.Call (.Name x p) (e::es) [] pos) (tCB r t):=⟨zZu hc hg hm hv ha.h hn hdb h⟩
def zI1{r:List V->Hp->VK->Prop}(hc:zBl X (.type T) r)(hg:Gl X x)(hm:X.mg x=none)(hv:bootBuiltins x=some (.type T))(ha:SA X (e::es) t)(hn:x≠"__name__":=by decide)(hdb:(x == ("__debug__":Str))=false:=by decide)
  (h:(e::es).all nst=true:=by rfl):SE X (.Call (.Name x p) (e::es) [] pos) (tCB r t):=⟨zZt hc hg hm hv ha.h hn hdb h⟩
def qlistrev'{p2 pos2:Pos}(hc:X.calm=true)(he:SE X e te)(hgl:Gl X "list")(hml:X.mg "list"=none)(hgr:Gl X "reversed")(hmr:X.mg "reversed"=none)(h:nst e=true:=by rfl):
  SE X (.Call (.Name "list" p) [.Call (.Name "reversed" p2) [e] [] pos2] [] pos) (zHn X.K te):=⟨qlistrev hc he.h hgl hml hgr hmr h⟩
def qbm0'{T name id:_}{r:V->List V->Hp->VK->Prop}(pa:PlainAttrs T)(slot:Slot T name id)(hty:typeOf (.builtin id)=pure (.type "method_descriptor"))(hm:MtR X id r)(ho:SE X o to)(h:nba o=true:=by rfl)(hline:(apos.endLine == cpos.line)=true:=by rfl):
  SE X (.Call (.Attribute o name apos) [] [] cpos) (tBM0 X.K T r to):=⟨qbm0 pa slot hty hm ho.h h hline⟩
def zMn :∀{es:List Expr},es.all nst=true->(backTo pos (starEach es env)).all (λx=>!x.1)=true
 | [],_=>rfl
 | e::es,h=>by
  simp only[uk,xM]at h;rw[zCg h.1];show(true && (backTo pos (starEach es env)).all (λx=>!x.1))=true;rw[zMn h.2];rfl
def yAl{T name id:_}{r:V->List V->Hp->VK->Prop}(pa:PlainAttrs T)(slot:Slot T name id)(hty:typeOf (.builtin id)=pure (.type "method_descriptor"))(hm:MtR X id r)(ho:SE X o to)(ha:SA X (e::es) t)(h:nba o=true:=by rfl)(hs:(e::es).all nst=true:=by rfl)
  (hlen:decide ((e::es).length+0+0<30)=true:=by rfl) (hline:(apos.endLine == cpos.line)=true:=by rfl):SE X (.Call (.Attribute o name apos) (e::es) [] cpos) (tBM X.K T r to t):=by
 have hs':=hs;simp only[uk,xM]at hs';refine⟨yCv pa slot hty hm ho.h ha.h (zGr h) ?_ hline (zCg hs'.1) (zGs hs'.2)⟩;rw[zMn hs];exact hlen
def zSo(ho:OpR X (compareOp op) r)(ha:SE X a ta)(hb:SE X b tb)(hm:behindInMarks op b=false):SE X (.Compare a [op] [b] pos) (tOp r ta tb):=⟨zWy ho ha.h hb.h hm⟩
def zS5(ho:OpR X (compareOp op) r)(ha:SE X a ta)(hb:SE X b tb)(hm:behindInMarks op b=false):ST X (.Compare a [op] [b] pos) (zZf (tOp r ta tb)):=⟨zWg ho ha.h hb.h hm⟩
def zWf(ha:ST X a tA):ST X (.UnaryOp .Not a pos) (tNot tA):=⟨zZz ha.h⟩
def zS0(ha:ST X a tA):SW X (.BoolOp .And [a] pos) tA:=⟨zWc ha.h⟩
def zWb(ha:ST X a tA):SW X (.BoolOp .Or [a] pos) tA:=⟨zZw ha.h⟩
def zWd(ha:ST X a tA)(hb:SW X (.BoolOp .And (b::es) pos) tB'):SW X (.BoolOp .And (a::b::es) pos) (tAnd tA tB'):=⟨zZy ha.h hb.h⟩
def zZx(ha:ST X a tA)(hb:SW X (.BoolOp .Or (b::es) pos) tB'):SW X (.BoolOp .Or (a::b::es) pos) (tOr tA tB'):=⟨yCr ha.h hb.h⟩
def zZv(h:SW X e tA):ST X e tA:=⟨h.h.pt⟩
noncomputable def tTru (K:PySem.W.Frag) (te:TE):TT:=λσ H Q=>te σ H λx H1=>∃k,TruV K x H1 k/\Q k H1
def qtruth'(ha:SE X e te)(h:ntt e=true:=by rfl):ST X e (tTru X.K te):=⟨qtruth ha.h h⟩
def qrange1'{tg:Expr}{ta:TA}(hg:Gl X "range")(hm:X.mg "range"=none)(ha:SA X [a] ta)(h:nst a=true:=by rfl):SI X tg (.Call (.Name "range" p) [a] [] pos) (zXw ta):=⟨qrange1 hg hm ha.h h⟩
def zSh(hN:X.N.Nodup)(hi:X.N[j]?=some x)(hx:Loc X.env.scope x)(hf:X.fn x=true\/X.env.scope.names.lookup x=some .local:=by first|exact .inl rfl|exact .inr rfl|assumption):SG X (.Name x pos) (gName j):=⟨zWr hN hi hx hf⟩
def pgs_nil':SGs X [] gNil:=⟨zWp⟩
def qgs'(h1:SG X tg g)(h2:SGs X ts gs)(h:nst tg=true:=by rfl):SGs X (tg::ts) (zY0 g gs):=⟨qgs h1.h h2.h h⟩
def qtup'{ts:List Expr}{n:Nat}(hc:X.calm=true)(h:SGs X ts gs)(hn:ts.length=n:=by rfl)(h1:ts.all nst=true:=by rfl):SG X (.Tuple ts k pos) (gTup X.K n gs):=⟨qtup hc h.h hn h1⟩
def qunl'{ts:List Expr}{n:Nat}(hc:X.calm=true)(h:SGs X ts gs)(hn:ts.length=n:=by rfl)(h1:ts.all nst=true:=by rfl):SG X (.Tuple ts k pos) (gLst X.K n gs):=⟨qunl hc h.h hn h1⟩
def zWq(ho:SE X o to)(hi:SE X i ti)(hs:PSet X ts)(h:nsl i=true:=by rfl):SG X (.Subscript o i pos) (gSub to ti ts):=by refine⟨yAa ho.h hi.h hs λv=>?_⟩;cases i <;> first|rfl|cases h
def pifs_nil':SIfs X [] tYes:=⟨zSe⟩
def zOu(hc:ST X c tA):SIfs X [c] tA:=⟨zSd hc.h⟩
def qlcomp'{ix:List Nat}{elt:Expr}{ifs:List Expr}{g:TG}{tt:TT}(hc:X.calm=true)(S:CompScope X own fre ix scope)(hi:SI X tg iter wi)
  (hg:∀cl C s H fp,SG (zAp X (own++fre) scope cl C s H fp) tg g) (ht:∀cl C s H fp,SIfs (zAp X (own++fre) scope cl C s H fp) ifs tt) (he:∀cl C s H fp,SE (zAp X (own++fre) scope cl C s H fp) elt te)
  (h:nse iter=true:=by rfl):SE X (.ListComp elt [⟨tg,iter,ifs,0⟩] scope pos) (zKh own ix wi g tt te):=⟨qlcomp hc S hi.h (λ_ _ _ _ _=>(hg _ _ _ _ _).h) (λ_ _ _ _ _=>(ht _ _ _ _ _).h) (λ_ _ _ _ _=>(he _ _ _ _ _).h) h⟩
def qsetc'{own fre:List Str}{ix:List Nat}{scope:Scope}{j:Nat}{pos':Pos}{tg elt iter:Expr}{ifs:List Expr}{wi:TI}{g:TG}{tt:TT}(hN:X.N.Nodup)(hix:X.N[j]?=some x)(hx:Loc X.env.scope x)
  (hc:X.calm=true) (S:CompScope X own fre ix scope) (hi:SI X tg iter wi)
  (hg:∀cl C s H fp,SG (zAp X (own++fre) scope cl C s H fp) tg g) (ht:∀cl C s H fp,SIfs (zAp X (own++fre) scope cl C s H fp) ifs tt) (he:∀cl C s H fp,SE (zAp X (own++fre) scope cl C s H fp) elt te)
  (hsw:swapsWith (.ListComp elt [⟨tg,iter,ifs,0⟩] scope cpos) (some (.Name x pos')) pos.line X.env=pure true:=by rfl) (h:nse iter=true:=by rfl) (hf:X.fn x=true\/X.env.scope.names.lookup x=some .local:=by first|exact .inl rfl|exact .inr rfl|assumption):
  SS X (.Assign [.Name x pos'] (.ListComp elt [⟨tg,iter,ifs,0⟩] scope cpos) pos) (tAsg (zKh own ix wi g tt te) (gName j)):=⟨qsetc hN hix hx hc S hi.h (λ_ _ _ _ _=>(hg _ _ _ _ _).h) (λ_ _ _ _ _=>(ht _ _ _ _ _).h) (λ_ _ _ _ _=>(he _ _ _ _ _).h) hsw h hf⟩
def qset'{j:Nat}{pos':Pos}(hN:X.N.Nodup)(hi:X.N[j]?=some x)(hx:Loc X.env.scope x)(he:SE X e te)(hf:X.fn x=true\/X.env.scope.names.lookup x=some .local:=by first|exact .inl rfl|exact .inr rfl|assumption)(h:nco e=true:=by rfl):
  SS X (.Assign [.Name x pos'] e pos) (tAsg te (gName j)):=⟨qset hN hi hx he.h hf h⟩
def qasgt'(he:SE X e te)(hg:SG X (.Tuple ts k tp) g)(h1:ntu e=true:=by rfl):SS X (.Assign [.Tuple ts k tp] e pos) (tAsg te g):=⟨qasgt he.h hg.h h1⟩
def qasgn'(he:SE X e te)(hg:SG X (.Tuple ts k tp) g)(hw:swappedStores [.Tuple ts k tp] e X.env=pure none:=by rfl):SS X (.Assign [.Tuple ts k tp] e pos) (tAsg te g):=⟨zOr he.h hg.h zHr hw rfl⟩
def qasgs'(he:SE X e te)(hg:SG X (.Subscript o i sp2) g)(h2:nco e=true:=by rfl):SS X (.Assign [.Subscript o i sp2] e pos) (tAsg te g):=⟨zOr he.h hg.h (zVy h2) (by cases e <;> rfl) rfl⟩
def qpar'{px py pt pt2:Pos}{kt k2 i j:Nat}{ta:TA}(hc:X.calm=true)(hN:X.N.Nodup)(hi:X.N[i]?=some x)(hj:X.N[j]?=some y)(hij:i≠j)
  (hx:X.env.scope.names.lookup x=some .local) (hy:X.env.scope.names.lookup y=some .local) (ha:SA X [a,b] ta)
  (hw:swappedStores [.Tuple [.Name x px,.Name y py] kt pt] (.Tuple [a,b] k2 pt2) X.env=pure (some [x,y])):
  SS X (.Assign [.Tuple [.Name x px,.Name y py] kt pt] (.Tuple [a,b] k2 pt2) pos) (tPar i j ta):=⟨qpar hc hN hi hj hij hx hy ha.h hw⟩
def zWk(he:SE X e te):SS X (.Return (some e) pos) (tRet te):=⟨yA1 he.h⟩
def yA3{ba bb:List Stmt}{t u:TS}(hc:ST X c tA)(ha:SSs X ba t)(hb:SSs X bb u):SS X (.If c ba bb pos) (tIfS tA t u):=⟨yCs hc.h ha.h hb.h⟩
def zOq{body:List Stmt}{t:TS}(hp:PassesOwn (model X.prog X.w) X.A X.env X.xe)(hc:ST X c tA)(hb:SSs X body t):SS X (.While c body [] pos) (zUb tA t):=⟨zS8 hp hc.h hb.h⟩
def qfor'{tg iter:Expr}{body:List Stmt}{wi:TI}{g:TG}{t:TS}(hp:PassesOwn (model X.prog X.w) X.A X.env X.xe)(hc:X.calm=true)(hi:SI X tg iter wi)(hg:SG X tg g)(hb:SSs X body t)(h:nse iter=true:=by rfl):
  SS X (.For tg iter body [] pos) (tFor wi g t):=⟨qfor hp hc hi.h hg.h hb.h h⟩
def qexpr'(he:SE X e te)(h:nco e=true:=by rfl):SS X (.Expr e pos) (zVs te):=⟨qexpr he.h h⟩
def pss_nil':SSs X [] zZj:=⟨zWi⟩
def zS6{st:Stmt}{t:TS}(h:SS X st t):SSs X [st] t:=⟨zWh h.h⟩
def zOp{st:Stmt}{r:List Stmt}{t u:TS}(h1:SS X st t)(h2:SSs X r u):SSs X (st::r) (tSeq t u):=⟨zS7 h1.h h2.h⟩
end
def BN(n:Nat)(x:Int):Prop:=x.natAbs<2 ^ n
def BN.bits{x:Int}(h:BN 5000 x):Builtin.Int.intBits x<=2 ^ 20:=by
 unfold Builtin.Int.intBits;split
 ·exact xV _
 ·rename_i hx;have h0:x.natAbs≠0:=by
   intro z;apply hx;have:x=0:=by nofun
   rw[this];rfl
  have:=(Nat.log2_lt h0).mpr h;lia
def BN.log{x:Int}(h:BN 5000 x):x.natAbs.log2<9000:=by
 by_cases h0:x.natAbs=0
 ·rw[h0];decide +kernel
 ·have:=(Nat.log2_lt h0).mpr h;lia
section
variable {X:Cx}
def zX6:OpR X (binaryOp .Mult) (rI (λi j=>BN 5000 i/\BN 5000 j) λi j=>.int (i*j)):=opI λ_ _ _ _ _ _ _ hc q=>mul_int q (IntMulOk.of_bits hc.1.bits hc.2.bits)
def zSr:OpR X (binaryOp .FloorDiv) (rI (λ_ j=>j≠0/\BN 5000 j) λi j=>.int (i.fdiv j)):=opI λ_ _ _ _ _ _ _ hc q=>floordiv_int hc.1 q (.inl (PyProof.noPylong_of_log2 hc.2.log))
end
def dv(u l:Int):Int:=if l<0 then -(Int.gcd u l:Int)else(Int.gcd u l:Int)
section
variable {X:Cx}{pins:List (Addr × Obj)}{σ:St}{H:Hp}{s:Shared}{h':Heap}
def Inv.turnedT{t':Nat}{fp:List Addr}{T:Addr}{o:HO}(I:Inv X pins σ H s)(hf:∀b∈fp,FpOk X pins H b)(k:∀b o,b ∉ fp->s.heap.get? b=some o->h'.get? b=some o)(hT:s.heap.objs.size<=T)
  (new:ObjOk X.prog X.w (upd H T o) h' T o):Inv X pins σ (upd H T o) { s with heap:=h',toks:=t' }:=by
 have hn:H T=none:=I.hok.fresh hT;have nit:∀b u,H b=some u->b ∉ fp:=λb u e z=>by rw[(hf b z).1]at e;cases e
 refine I.step (g':=s.gens) (d':=s.drawn) (ch:=fp) (λb hb=>⟨(hf b hb).2.2.2.1,(hf b hb).2.1,(hf b hb).2.2.2.2.1,(hf b hb).2.2.2.2.2⟩) (λb o _ _ hc e _=>k b o hc e) (λb o _ _ hc e _=>⟨o.slots,k b o hc e⟩)
  (λb u _ q n=>by rw[zAi (xu (xF (xo q) hT))];exact n)
  (λb o hc e=>⟨o,k b o hc e⟩) (λb xs q=>by rw[zAi (zAh q hn)];exact q) (λb u xs q=>by rw[zAi (zAh q hn)];exact q) (λb ps q=>⟨#[],by rw[zAi (zAh q hn),q];simp⟩) (λm hm=>?_) (λb u e=>?_) I.bare
 ·obtain⟨o,es,ep,ho,r⟩:=hm;exact⟨o,es,ep,k _ o (λz=>(hf _ z).2.1 rfl) ho,r⟩
 ·by_cases hb:b=T
  ·subst hb;rw[zAm]at e;cases e;exact new
  ·rw[zAi hb]at e;refine(I.hok b u e).stay (λc v hc q=>k c v ?_ q) (λc q=>by rw[zAi (zAh q hn)];exact q) λc xs q=>by rw[zAi (zAh q hn)];exact q
   rcases hc with z|z
   ·rw[z];exact nit b u e
   ·exact nit c _ z
def Inv.turnedL{t':Nat}{fp:List Addr}(I:Inv X pins σ H s)(hf:∀b∈fp,FpOk X pins H b)(k:∀b o,b ∉ fp->s.heap.get? b=some o->h'.get? b=some o):Inv X pins σ H { s with heap:=h',toks:=t' }:=by
 have nit:∀b u,H b=some u->b ∉ fp:=λb u e z=>by rw[(hf b z).1]at e;cases e
 refine I.step (g':=s.gens) (d':=s.drawn) (ch:=fp) (λb hb=>⟨(hf b hb).2.2.2.1,(hf b hb).2.1,(hf b hb).2.2.2.2.1,(hf b hb).2.2.2.2.2⟩) (λb o _ _ hc e _=>k b o hc e) (λb o _ _ hc e _=>⟨o.slots,k b o hc e⟩)
  (λ_ _ _ _ n=>n) (λb o hc e=>⟨o,k b o hc e⟩) (λ_ _ e=>e) (λ_ _ _ e=>e) (λb ps e=>⟨#[],by rw[e];simp⟩) (λm hm=>?_) (λb u e=>?_) I.bare
 ·obtain⟨o,es,ep,ho,r⟩:=hm;exact⟨o,es,ep,k _ o (λz=>(hf _ z).2.1 rfl) ho,r⟩
 ·refine(I.hok b u e).stay (λc v hc q=>k c v ?_ q) (λ_ q=>q) λ_ _ q=>q
  rcases hc with z|z
  ·rw[z];exact nit b u e
  ·exact nit c _ z
end
end L2
namespace TB
open PySem
abbrev Up(l:List Nat):Prop:=l.Pairwise (·<·)
def zH3{l:List Nat}(h:Up l){i j:Nat}(hij:i<j)(hj:j<l.length):l[i]'(vK hij hj)<l[j]:=yO.mp h i j _ hj hij
def zKf:∀(l:List Nat) (a b:Nat),Up l->(∀e,a<=e->e<b->e∈l)->b-a<=l.length
 | [],a,b,_,h=>by
  by_cases c:a<b
  ·exact absurd (h a (xi _) c) (by simp)
  ·simp;lia
 | x::xs,a,b,u,h=>by
  have ux:=uc.mp u;by_cases c:a<b
  ·have ha:=h a (xi _) c;rcases Nat.lt_trichotomy a x with q|q|q
   ·rcases xp.mp ha with z|z
    ·lia
    ·exact absurd (ux.1 a z) (by nofun)
   ·subst q;have r:=zKf xs (a+1) b ux.2 λe h1 h2=>by
     rcases xp.mp (h e (by nofun) h2)with z|z
     ·lia
     ·exact z
    simp only[xB];lia
   ·have r:=zKf xs a b ux.2 λe h1 h2=>by
     rcases xp.mp (h e h1 h2)with z|z
     ·lia
     ·exact z
    simp only[xB];lia
  ·lia
def zZb{l:List Nat}{m:Nat}(u:Up l)(h:l.length<=m):∃e,e<=m/\e ∉ l:=by
 refine vW λn=>?_
 have r:=zKf l 0 (m+1) u λe _ h2=>vW λq=>n ⟨e,by nofun,q⟩
 lia
def zJ0{xs:Array Nat}{j:Nat}(u:Up xs.toList):∀(f lo hi:Nat),hi-lo<=f->lo<=hi->hi<=xs.size->(∀i (q:i<xs.size),i<lo->xs[i]<j)->(∀i (q:i<xs.size),hi<=i->j<=xs[i])->
  (SetTable.below.go xs j f lo hi<=xs.size/\(∀i (q:i<xs.size),i<SetTable.below.go xs j f lo hi->xs[i]<j)/\(∀i (q:i<xs.size),SetTable.below.go xs j f lo hi<=i->j<=xs[i]))
 | 0,lo,hi,h1,h2,h3,h4,h5=>by
  have e:lo=hi:=by nofun
  subst e;exact⟨h3,h4,h5⟩
 | f+1,lo,hi,h1,h2,h3,h4,h5=>by
  unfold SetTable.below.go;by_cases c:lo<hi
  ·rw[xf c];have hm:(lo+hi) / 2<hi:=by nofun
   have hl:lo<=(lo+hi) / 2:=by nofun
   have hz:(lo+hi) / 2<xs.size:=by nofun
   have eg:xs.getD ((lo+hi) / 2) j=xs[(lo+hi) / 2]:=by simp[Array.getD,hz]
   dsimp only;rw[eg];have rise:∀i k (q:i<xs.size) (r:k<xs.size),i<k->xs[i]<xs[k]:=λi k q r hik=>by
    have:=zH3 u hik (by simpa using r);simpa using this
   by_cases d:xs[(lo+hi) / 2]<j
   ·rw[xf d];refine zJ0 u f _ hi (by nofun) (by nofun) h3 (λi q hi'=>?_) h5;rcases vE i ((lo+hi) / 2)with z|z
    ·exact vK (rise _ _ q hz z) d
    ·have:i=(lo+hi) / 2:=by nofun
     subst this;exact d
   ·rw[xg d];refine zJ0 u f lo _ (by nofun) hl (by nofun) h4 (λi q hi'=>?_);rcases vE ((lo+hi) / 2) i with z|z
    ·have:=rise _ _ hz q z;lia
    ·have:i=(lo+hi) / 2:=by nofun
     subst this;lia
  ·rw[xg c];have e:lo=hi:=by nofun
   subst e;exact⟨h3,h4,h5⟩
def zIz{xs:Array Nat}(j:Nat)(u:Up xs.toList):SetTable.below xs j<=xs.size/\(∀i (q:i<xs.size),i<SetTable.below xs j->xs[i]<j)/\(∀i (q:i<xs.size),SetTable.below xs j<=i->j<=xs[i]):=
 zJ0 u xs.size 0 xs.size (by nofun) (by nofun) (xi _) (λi q h=>by nofun) (λi q h=>by nofun)
def zU4{xs:Array Nat}{j k:Nat}(u:Up xs.toList)(hk:k<=xs.size)(h1:∀i (q:i<xs.size),i<k->xs[i]<j)(h2:∀i (q:i<xs.size),k<=i->j<=xs[i]):SetTable.below xs j=k:=by
 obtain⟨a,b,c⟩:=zIz j u;rcases Nat.lt_trichotomy (SetTable.below xs j) k with z|z|z
 ·have p:=h1 _ (by nofun) z;have q:=c _ (by nofun) (xi _);lia
 ·exact z
 ·have p:=h2 k (by nofun) (xi _);have q:=b k (by nofun) z;lia
def slotAt(xs:Array Nat)(k:Nat):Nat:=if k=0 then 0 else xs.getD (k-1) 0+1
def zK7{xs:Array Nat}{k:Nat}(u:Up xs.toList)(hk:k<=xs.size):SetTable.below xs (slotAt xs k)=k:=by
 have rise:∀i k (q:i<xs.size) (r:k<xs.size),i<k->xs[i]<xs[k]:=λi k q r hik=>by
  have:=zH3 u hik (by simpa using r);simpa using this
 refine zU4 u hk (λi q h=>?_) (λi q h=>?_)
 ·unfold slotAt;rw[xg (by nofun)];have hz:k-1<xs.size:=by nofun
  have:xs.getD (k-1) 0=xs[k-1]:=by simp[Array.getD,hz]
  rw[this];rcases vE i (k-1)with z|z
  ·have:=rise _ _ q hz z;lia
  ·have:i=k-1:=by nofun
   subst this;lia
 ·unfold slotAt;by_cases c:k=0
  ·rw[xf c];lia
  ·rw[xg c];have hz:k-1<xs.size:=by nofun
   have:xs.getD (k-1) 0=xs[k-1]:=by simp[Array.getD,hz]
   rw[this];have:=rise _ _ hz q (by nofun);lia
def zFy{α:Type}(xs:Array α)(p:Nat)(x:α):(SetTable.insertAt xs p x).toList=xs.toList.take p++x::xs.toList.drop p:=by unfold SetTable.insertAt;simp[yP];exact yy (by simp)
def ins_perm{α:Type}(xs:Array α)(p:Nat)(x:α):(SetTable.insertAt xs p x).toList.Perm (x::xs.toList):=by rw[zFy];exact yz.trans (by rw[vG])
def zM2{α:Type}(xs:Array α)(p:Nat)(x:α):(SetTable.insertAt xs p x).size=xs.size+1:=by have:=(ins_perm xs p x).length_eq;simpa using this
def ins_up{xs:Array Nat}{j:Nat}(u:Up xs.toList)(h:xs[SetTable.below xs j]?≠some j):Up (SetTable.insertAt xs (SetTable.below xs j) j).toList:=by
 obtain⟨a,b,c⟩:=zIz j u;rw[zFy];have h1:∀v∈xs.toList.take (SetTable.below xs j),v<j:=λv hv=>by
  obtain⟨i,hi,rfl⟩:=uj.mp hv;rw[vd]at hi;rw[List.getElem_take];have:=b i (by simp at hi;lia) (by nofun);simpa using this
 have h2:∀v∈xs.toList.drop (SetTable.below xs j),j<v:=λv hv=>by
  obtain⟨i,hi,rfl⟩:=uj.mp hv;rw[ug]at hi;rw[List.getElem_drop];have hz:SetTable.below xs j+i<xs.size:=by simp at hi;lia
  have h3:=c _ hz (by nofun);have h4:xs[SetTable.below xs j]'(by nofun)≠j:=λe=>h (by rw[vm (by nofun),e])
  have h5:=c (SetTable.below xs j) (by nofun) (xi _);have h6:xs[SetTable.below xs j]'(by nofun)<=xs[SetTable.below xs j+i]:=by
   rcases Nat.eq_zero_or_pos i with z|z
   ·subst z;exact xi _
   ·have:=zH3 u (i:=SetTable.below xs j) (j:=SetTable.below xs j+i) (by nofun) (by simpa using hz);exact xU (by simpa using this)
  simp only[Array.getElem_toList];lia
 refine List.pairwise_append.mpr ⟨u.sublist (uL _ _),uc.mpr ⟨λv hv=>h2 v hv,u.sublist (ye _ _)⟩,λp hp q hq=>?_⟩;rcases xp.mp hq with rfl|hq
 ·exact h1 p hp
 ·exact vK (h1 p hp) (h2 q hq)
noncomputable def orb (m:Nat):Nat->Nat × Nat->Nat × Nat
 | 0,x=>x
 | L+1,x=>orb m L (SetTable.leap m x.1 x.2)
def gs(m:Nat):Nat->Nat->Nat
 | 0,i=>i
 | k+1,i=>gs m k ((i*5+1) % (m+1))
def zM4(m:Nat):∀(a b i:Nat),gs m (a+b) i=gs m b (gs m a i)
 | 0,b,i=>by rw[xX];rfl
 | a+1,b,i=>by rw[show a+1+b=(a+b)+1 by nofun];exact zM4 m a b _
def Msk(m:Nat):Prop:=m=7\/m=31\/m=127\/m=511\/m=2047
noncomputable def gsB (m:Nat):Nat->Nat->Nat->Nat
 | 0,_,a=>a
 | k+1,i,a=>gsB m k ((i*5+1) % (m+1)) (a ||| 2 ^ i)
def zV7(m:Nat):∀(n i a e:Nat),(gsB m n i a).testBit e=true->a.testBit e=true\/∃k,k<n/\gs m k i=e
 | 0,i,a,e,h=>.inl h
 | n+1,i,a,e,h=>by
  rcases zV7 m n _ _ e h with z|⟨k,hk,z⟩
  ·rw[Nat.testBit_or,Bool.or_eq_true]at z;rcases z with z|z
   ·exact .inl z
   ·rw[Nat.testBit_two_pow]at z;exact .inr ⟨0,by nofun,uo z⟩
  ·exact .inr ⟨k+1,by nofun,z⟩
def yBu{m:Nat}(h:Msk m):gs m (m+1) 0=0/\∀e,e<m+1->∃k,k<m+1/\gs m k 0=e:=by
 have t:∀(M:Nat),(gs M (M+1) 0 == 0 && gsB M (M+1) 0 0 == 2 ^ (M+1)-1)=true->gs M (M+1) 0=0/\∀e,e<M+1->∃k,k<M+1/\gs M k 0=e:=λM hh=>by
  rw[xM]at hh;refine⟨by simpa using hh.1,λe he=>?_⟩;have hb:gsB M (M+1) 0 0=2 ^ (M+1)-1:=by simpa using hh.2
  rcases zV7 M (M+1) 0 0 e (by rw[hb,Nat.testBit_two_pow_sub_one];exact xx he)with z|z
  ·rw[Nat.zero_testBit]at z;cases z
  ·exact z
 rcases h with rfl|rfl|rfl|rfl|rfl <;> exact t _ (by decide +kernel)
def yBt{m i e:Nat}(h:Msk m)(hi:i<m+1)(he:e<m+1):∃k,k<=m/\gs m k i=e:=by
 obtain⟨z,al⟩:=yBu h;obtain⟨a,ha,rfl⟩:=al i hi;obtain⟨b,hb,rfl⟩:=al e he;rcases vE b a with c|c
 ·refine⟨m+1-a+b,by nofun,?_⟩;rw[<- zM4,show a+(m+1-a+b)=(m+1)+b by nofun,zM4,z]
 ·exact⟨b-a,by nofun,by rw[<- zM4,show a+(b-a)=b by nofun]⟩
def zP4(m:Nat):∀(a b:Nat) (x:Nat × Nat),orb m (a+b) x=orb m b (orb m a x)
 | 0,b,x=>by rw[xX];rfl
 | a+1,b,x=>by rw[show a+1+b=(a+b)+1 by nofun];exact zP4 m a b _
def zP3(m:Nat):∀(L:Nat) (x:Nat × Nat),(orb m L x).2=x.2 / 32 ^ L
 | 0,x=>by simp[orb]
 | L+1,x=>by
  show(orb m L _).2=_;rw[zP3 m L];show x.2 / 32 / 32 ^ L=_;rw[Nat.div_div_eq_div_mul,Nat.pow_succ,Nat.mul_comm]
def zUn{m:Nat}:∀(L:Nat) (x:Nat × Nat),x.1<m+1->(orb m L x).1<m+1
 | 0,x,h=>h
 | L+1,x,h=>zUn L _ (Nat.mod_lt _ (by nofun))
def zUo(m:Nat):∀(k:Nat) (x:Nat × Nat),x.2=0->(orb m k x).1=gs m k x.1
 | 0,x,h=>rfl
 | k+1,x,h=>by
  show(orb m k (SetTable.leap m x.1 x.2)).1=gs m k _;rw[zUo m k _ (by show x.2 / 32=0;rw[h])];show gs m k ((x.1*5+1+x.2 / 32) % (m+1))=_;rw[h]
def zKk{m i p e:Nat}(h:Msk m)(hi:i<m+1)(hp:p<2 ^ 64)(he:e<m+1):∃L,L<=13+m/\(orb m L (i,p)).1=e:=by
 obtain⟨k,hk,ek⟩:=yBt h (zUn 13 (i,p) hi) he;have h0:(orb m 13 (i,p)).2=0:=by rw[zP3];exact Nat.div_eq_of_lt (vK hp (by decide))
 exact⟨13+k,by nofun,by rw[zP4,zUo m k _ h0,ek]⟩
noncomputable def adv (t:SetTable):Nat->SetTable.Probe->SetTable.Probe
 | 0,p=>p
 | m+1,p=>adv t m (t.advance p)
def zDd(t:SetTable):∀(a b:Nat) (p:SetTable.Probe),adv t (a+b) p=adv t b (adv t a p)
 | 0,b,p=>by rw[xX];rfl
 | a+1,b,p=>by rw[show a+1+b=(a+b)+1 by nofun];exact zDd t a b _
def zKa(t:SetTable):∀(m:Nat) (p:SetTable.Probe),(adv t m p).dummy=p.dummy
 | 0,p=>rfl
 | m+1,p=>by
  show(adv t m (t.advance p)).dummy=_;rw[zKa t m];unfold SetTable.advance;split <;> rfl
noncomputable def beg (t:SetTable) (x:Nat × Nat) (d:Option Nat):SetTable.Probe:={ j:=x.1,more:=SetTable.runEnd t.mask x.1-x.1,i:=x.1,perturb:=x.2,dummy:=d }
def zJ2(t:SetTable):∀(c:Nat) (p:SetTable.Probe),p.more=c->adv t (c+1) p=beg t (SetTable.leap t.mask p.i p.perturb) p.dummy
 | 0,p,h=>by
  show t.advance p=_;unfold SetTable.advance;rw[xg (by nofun)];rfl
 | c+1,p,h=>by
  show adv t (c+1) (t.advance p)=_;have e:t.advance p={ p with j:=p.j+1,more:=p.more-1 }:=by unfold SetTable.advance;rw[xf (by nofun)]
  rw[e];exact zJ2 t c _ (by show p.more-1=c;lia)
def zZ3(t:SetTable)(x:Nat × Nat)(d:Option Nat):∃c,1<=c/\c<=10/\adv t c (beg t x d)=beg t (SetTable.leap t.mask x.1 x.2) d:=by refine⟨SetTable.runEnd t.mask x.1-x.1+1,by nofun,?_,zJ2 t _ (beg t x d) rfl⟩;unfold SetTable.runEnd;split <;> lia
def zRg(t:SetTable)(d:Option Nat):∀(L:Nat) (x:Nat × Nat),∃c,c<=10*L/\adv t c (beg t x d)=beg t (orb t.mask L x) d
 | 0,x=>⟨0,by nofun,rfl⟩
 | L+1,x=>by
  obtain⟨c,_,h1,e1⟩:=zZ3 t x d;obtain⟨c',h2,e2⟩:=zRg t d L (SetTable.leap t.mask x.1 x.2);refine⟨c+c',by nofun,?_⟩;rw[zDd,e1,e2];rfl
def zL7(h:Int):SetTable.bits h<2 ^ 64:=by unfold SetTable.bits;have:=vX h (show(0:Int)<2 ^ 64 by decide);have:=vY h (show(2 ^ 64:Int)≠0 by decide);lia
def zO5{t:SetTable}{h:Int}{e:Nat}(hm:Msk t.mask)(he:e<=t.mask):∃c,c<10*SetTable.turns t.mask/\(adv t c (t.probeStart h)).j=e:=by obtain⟨L,hL,eL⟩:=zKk (p:=SetTable.bits h) (i:=SetTable.bits h % (t.mask+1)) hm (Nat.mod_lt _ (by nofun)) (zL7 h) (show e<t.mask+1 by nofun);obtain⟨c,hc,ec⟩:=zRg t none L (SetTable.bits h % (t.mask+1),SetTable.bits h);refine⟨c,by unfold SetTable.turns;lia,?_⟩;have e0:t.probeStart h=beg t (SetTable.bits h % (t.mask+1),SetTable.bits h) none:=rfl;rw[e0,ec];exact eL
def Far(t:SetTable)(p:SetTable.Probe)(m:Nat):Prop:=t.slot (adv t m p).j=.empty/\p.dummy=none
def zDi{t:SetTable}(hd:t.dummies=#[])(j:Nat):t.slot j=(if t.place[SetTable.below t.place j]? == some j then .live (SetTable.below t.place j)else .empty):=by
 have e:SetTable.has t.dummies j=false:=by rw[hd];rfl
 unfold SetTable.slot;simp only[e];simp
def zEz{t:SetTable}(hd:t.dummies=#[]){j:Nat}:t.slot j=.empty <-> t.place[SetTable.below t.place j]?≠some j:=by
 rw[zDi hd];by_cases c:t.place[SetTable.below t.place j]?=some j
 ·simp[c]
 ·simp[c]
structure Tab (t:SetTable) (n:Nat) (led:Bool):Prop where
 hm:Msk t.mask
 size:t.place.size=n
 nod:t.dummies=#[]
 up:Up t.place.toList
 room:n*5<t.mask*3
 plain:t.plain=true
 led:t.led=led
def Tab.fill{t:SetTable}{n:Nat}(T:Tab t n b):t.fill=n:=by unfold SetTable.fill;rw[T.size,T.nod];rfl
def Tab.fits{t:SetTable}(T:Tab t n b):(t.place.size != n || decide (t.fill > t.mask))=false:=by have:=T.room;rw[T.fill,T.size];simp;lia
def Tab.way{t:SetTable}(T:Tab t n b):t.gaveWay=false:=by unfold SetTable.gaveWay;rcases T.hm with e|e|e|e|e <;> rw[e] <;> rfl
def Tab.start{t:SetTable}(T:Tab t n b)(h:Int):∃m,m<10*SetTable.turns t.mask/\Far t (t.probeStart h) m:=by
 have hn:t.place.toList.length<=t.mask:=by have:=T.room;have:=T.size;simp;lia
 obtain⟨e,he,hne⟩:=zZb T.up hn;obtain⟨c,hc,ec⟩:=zO5 (t:=t) (h:=h) T.hm he;refine⟨c,hc,?_,rfl⟩;rw[ec,zEz T.nod];intro q;exact hne (by
  obtain⟨hz,e'⟩:=vZ.mp q;rw[<- e'];simp)
def Tab.turns{t:SetTable}(T:Tab t n b):10*SetTable.turns t.mask<100000:=by rcases T.hm with e|e|e|e|e <;> rw[e] <;> decide
def zQa(b:Bool):Tab (SetTable.fresh 0 0 b) 0 b:=⟨.inl rfl,rfl,rfl,.nil,(show 0*5<7*3 by decide),rfl,rfl⟩
structure TabP (t:SetTable) (n:Nat) (led:Bool):Prop where
 hm:Msk t.mask
 size:t.place.size=n
 nod:t.dummies=#[]
 up:Up t.place.toList
 most:(n-1)*5<t.mask*3
 plain:t.plain=true
 led:t.led=led
def Tab.put{t:SetTable}{n j:Nat}(T:Tab t n b)(hj:t.slot j=.empty):TabP (t.put j).1 (n+1) b:=by
 have e:SetTable.has t.dummies j=false:=by rw[T.nod];rfl
 have e2:(t.put j).1={ t with place:=SetTable.insertAt t.place (SetTable.below t.place j) j }:=by unfold SetTable.put;simp[e]
 rw[e2];exact⟨T.hm,by show(SetTable.insertAt _ _ _).size=_;rw[zM2,T.size],T.nod,ins_up T.up ((zEz T.nod).mp hj),by show(n+1-1)*5<t.mask*3;have:=T.room;simpa using this,T.plain,T.led⟩
def TabP.fill{t:SetTable}{n:Nat}(T:TabP t n b):t.fill=n:=by unfold SetTable.fill;rw[T.size,T.nod];rfl
def TabP.tab{t:SetTable}(T:TabP t n b)(h:t.tooFull=false):Tab t n b:=by refine⟨T.hm,T.size,T.nod,T.up,?_,T.plain,T.led⟩;unfold SetTable.tooFull at h;rw[T.fill]at h;simpa using h
def TabP.fits{t:SetTable}(T:TabP t n b):(t.place.size != n || decide (t.fill > t.mask))=false:=by
 have h:=T.most;have hm:7<=t.mask:=by rcases T.hm with e|e|e|e|e <;> rw[e] <;> decide
 rw[T.fill,T.size];simp;lia
def zIk{m:Nat}{owner:Array (Option Nat)}{e:Nat}(ho:owner.getD e (some 0)=none):∀(L f:Nat) (x:Nat × Nat),L<f->(orb m L x).1=e->∃j,SetTable.layClean.free m owner f x.1 x.2=some j/\owner.getD j (some 0)=none
 | L,0,x,h,_=>by nofun
 | L,f+1,x,h,he=>by
  unfold SetTable.layClean.free;cases hf:(List.range (SetTable.runEnd m x.1+1-x.1)).find? λk=>(owner.getD (x.1+k) (some 0)).isNone with
  | some k=>
   have:=List.find?_some hf;exact⟨x.1+k,rfl,by simpa using this⟩
  | none=>
   cases L with
   | zero=>
    have hx:x.1=e:=he;have:=List.find?_eq_none.mp hf 0 (vi.mpr (by unfold SetTable.runEnd;split <;> lia));rw[Nat.add_zero,hx,ho]at this;exact absurd rfl this
   | succ L=>exact zIk ho L f (SetTable.leap m x.1 x.2) (by nofun) he
def zKm:∀(l:List (Option Nat)),(l.filterMap id).length<l.length->∃e,e<l.length/\l[e]?=some none
 | [],h=>by simp at h
 | none::l,_=>⟨0,by simp,rfl⟩
 | some v::l,h=>by
  obtain⟨e,h1,h2⟩:=zKm l (by simpa using h);exact⟨e+1,by simp;lia,by simpa using h2⟩
def zHu:∀(l:List (Option Nat)) (j k:Nat),l[j]?=some none->((l.set j (some k)).filterMap id).Perm (k::l.filterMap id)
 | [],j,k,h=>by simp at h
 | x::l,0,k,h=>by
  have:x=none:=by simpa using h
  subst this;simp
 | x::l,j+1,k,h=>by
  have ih:=zHu l j k (by simpa using h);cases x with
  | none=>simpa using ih
  | some v=>
   simp only[List.set_cons_succ,uH,id];exact(List.Perm.cons v ih).trans (List.Perm.swap _ _ _)
def Laid(m:Nat)(acc:Option (Array (Option Nat) × Nat))(k:Nat):Prop:=∃owner,acc=some (owner,k)/\owner.size=m+1/\(owner.toList.filterMap id).Perm (List.range k)
def zPq{m k:Nat}(hm:Msk m)(hk:k<=m){owner:Array (Option Nat)}(hs:owner.size=m+1)(hp:(owner.toList.filterMap id).Perm (List.range k))(h:Int):
  ∃j,SetTable.layClean.free m owner (SetTable.turns m) (SetTable.bits h % (m+1)) (SetTable.bits h)=some j/\Laid m (some (owner.setIfInBounds j (some k),k+1)) (k+1):=by
 obtain⟨e,h1,h2⟩:=zKm owner.toList (by rw[hp.length_eq,vc];simp[hs];lia);have h1':e<owner.size:=by simpa using h1
 have ho:owner.getD e (some 0)=none:=by
  have:owner[e]?=some none:=by simpa using h2
  simp[vR,this]
 obtain⟨L,hL,eL⟩:=zKk (p:=SetTable.bits h) (i:=SetTable.bits h % (m+1)) hm (Nat.mod_lt _ (by nofun)) (zL7 h) (show e<m+1 by nofun);obtain⟨j,ej,hj⟩:=zIk ho L (SetTable.turns m) (SetTable.bits h % (m+1),SetTable.bits h) (by unfold SetTable.turns;lia) eL;refine⟨j,ej,_,rfl,by simpa using hs,?_⟩;have hj2:owner.toList[j]?=some none:=by
  rw[vR]at hj;cases hq:owner[j]? with
  | none=>rw[hq]at hj;cases hj
  | some v=>rw[hq]at hj;have:v=none:=hj;subst this;simpa using hq
 rw[Array.toList_setIfInBounds];refine(zHu _ j k hj2).trans ((List.Perm.cons k hp).trans ?_);rw[List.range_succ];exact(List.perm_append_singleton k (List.range k)).symm
def zLw{m:Nat}(hm:Msk m):∀(hs:List Int) (k:Nat) (acc:Option (Array (Option Nat) × Nat)),k+hs.length<=m+1->Laid m acc k->
  Laid m (hs.foldl (λacc h=>do
   let (owner,k) <- acc
   let j <- SetTable.layClean.free m owner (SetTable.turns m) (SetTable.bits h % (m+1)) (SetTable.bits h)
   pure (owner.setIfInBounds j (some k),k+1)) acc) (k+hs.length)
 | [],k,acc,_,L=>L
 | h::hs,k,acc,hl,⟨owner,ea,h1,h2⟩=>by
  subst ea;obtain⟨j,ej,L⟩:=zPq hm (by simp at hl;lia) h1 h2 h;have:=zLw hm hs (k+1) _ (by simp at hl;lia) L;rw[v3];have e2:(do
   let (owner,k) <- some (owner,k)
   let j <- SetTable.layClean.free m owner (SetTable.turns m) (SetTable.bits h % (m+1)) (SetTable.bits h)
   pure (owner.setIfInBounds j (some k),k+1))=some (owner.setIfInBounds j (some k),k+1):=by
   show(SetTable.layClean.free m owner (SetTable.turns m) (SetTable.bits h % (m+1)) (SetTable.bits h) >>= λj=>pure (owner.setIfInBounds j (some k),k+1))=_;rw[ej];rfl
  rw[e2,xB,show k+(hs.length+1)=k+1+hs.length by nofun];exact this
def zLu:∀(l:List (Option Nat)) (g:Nat->Nat),((List.range l.length).filterMap λj=>((l[j]?).getD none).map λv=>(g j,v)).map (·.2)=l.filterMap id
 | [],g=>rfl
 | x::l,g=>by
  have ih:=zLu l (λj=>g (j+1));rw[xB,List.range_succ_eq_map,uH];have e:((List.map Nat.succ (List.range l.length)).filterMap λj=>(((x::l)[j]?).getD none).map λv=>(g j,v))=(List.range l.length).filterMap λj=>((l[j]?).getD none).map λv=>(g (j+1),v):=by rw[List.filterMap_map];rfl
  cases x with
  | none=>simp only[uq,Option.getD_some,Option.map_none];rw[e,ih];rfl
  | some v=>simp only[uq,Option.getD_some,vH,xr];rw[e,ih];rfl
def zKs(f:Nat->Option Nat):∀(l:List Nat),Up l->Up ((l.filterMap λj=>(f j).map λv=>(j,v)).map (·.1))
 | [],_=>.nil
 | x::l,u=>by
  have ux:=uc.mp u;rw[uH];cases hx:f x with
  | none=>exact zKs f l ux.2
  | some v=>
   simp only[vH,xr];refine uc.mpr ⟨λy hy=>?_,zKs f l ux.2⟩;obtain⟨q,hq,rfl⟩:=xt.mp hy;obtain⟨z,hz,ez⟩:=u5.mp hq;cases hf:f z with
   | none=>rw[hf]at ez;cases ez
   | some w=>rw[hf]at ez;cases ez;exact ux.1 _ hz
def zXk{m:Nat}(hm:Msk m){hs:Array Int}(hl:hs.size<=m)(hr:hs.size*5<m*3)(fing moves:Nat)(led:Bool):∃t order,SetTable.laid m fing moves led true hs=some (t,order)/\Tab t hs.size led/\order.toList.Perm (List.range hs.size):=by
 obtain⟨owner,e,h1,h2⟩:=zLw hm hs.toList 0 (some (Array.replicate (m+1) none,0)) (by simp;lia) ⟨_,rfl,by simp,by simp⟩;have ec:SetTable.layClean m hs=some owner:=by unfold SetTable.layClean;rw[<- Array.foldl_toList,e];rfl
 have es:=zLu owner.toList id;have eg:∀j,(owner.getD j none).map (j,·)=((owner.toList[j]?).getD none).map λv=>(id j,v):=λj=>by
  rw[vR];simp
 refine⟨_,_,by unfold SetTable.laid;rw[ec];rfl,⟨hm,?_,rfl,?_,hr,rfl,rfl⟩,?_⟩
 ·show(List.map _ _).toArray.size=_;rw[xA,xn,<- xn (f:=(·.2))];rw[<- h1] ;rw[show owner.size=owner.toList.length by simp];simp only[eg];rw[es,h2.length_eq];simp
 ·show Up (List.map _ _).toArray.toList;exact zKs _ _ (List.pairwise_lt_range)
 ·show(List.map _ _).toArray.toList.Perm _;rw[<- h1,show owner.size=owner.toList.length by simp];simp only[eg];rw[List.toList_toArray,es];simpa using h2
def zEv{t t':SetTable}(h:t.mask=t'.mask):∀(m:Nat) (p:SetTable.Probe),adv t m p=adv t' m p
 | 0,_=>rfl
 | m+1,p=>by
  show adv t m (t.advance p)=adv t' m (t'.advance p);have e:t.advance p=t'.advance p:=by unfold SetTable.advance;rw[h]
  rw[e];exact zEv h m _
def zDs{t t':SetTable}(h:t.mask=t'.mask)(x:Int):t.probeStart x=t'.probeStart x:=by unfold SetTable.probeStart;rw[h]
def zSx{xs:Array Nat}{j:Nat}(u:Up xs.toList):xs[SetTable.below xs j]?=some j <-> j∈xs.toList:=by
 constructor
 ·intro h;obtain⟨z,e⟩:=vZ.mp h;rw[<- e];simp
 ·intro h;obtain⟨i,hi,e⟩:=uj.mp h;have hi':i<xs.size:=by simpa using hi
  have e':xs[i]=j:=by simpa using e
  obtain⟨a,b,c⟩:=zIz j u;have h1:¬ i<SetTable.below xs j:=λq=>by have:=b i hi' q;lia
  have h2:¬ SetTable.below xs j<i:=λq=>by
   have h3:=c _ (by nofun) (xi _);have:=zH3 u q (by simpa using hi');have:xs[SetTable.below xs j]'(by nofun)<xs[i]:=by simpa using this
   lia
  have h3:SetTable.below xs j=i:=by nofun
  rw[h3,vm hi',e']
def zJp{t:SetTable}(T:Tab t n b)(j:Nat):t.slot j=.empty <-> j ∉ t.place.toList:=by rw[zEz T.nod,ne_eq,zSx T.up]
def Chn(t:SetTable)(h:Int)(j:Nat):Prop:=∃m,(adv t m (t.probeStart h)).j=j/\∀m',m'<m->(adv t m' (t.probeStart h)).j∈t.place.toList
def Chs(t:SetTable)(hs:List Int):Prop:=∀q∈t.place.toList.zip hs,Chn t q.2 q.1
def Chn.grow{t t':SetTable}{h:Int}(c:Chn t h j)(hm:t.mask=t'.mask)(hp:∀j∈t.place.toList,j∈t'.place.toList):Chn t' h j:=by obtain⟨m,e,al⟩:=c;refine⟨m,by rw[<- zDs hm,<- zEv hm];exact e,λm' hm'=>?_⟩;rw[<- zDs hm,<- zEv hm];exact hp _ (al m' hm')
def zNs{α β:Type}:∀(p:Nat) (a:List α) (b:List β) (x:α) (y:β),a.length=b.length->∀q∈(a.take p++x::a.drop p).zip (b.take p++y::b.drop p),q=(x,y)\/q∈a.zip b
 | 0,a,b,x,y,h,q,hq=>by
  simp only[List.take_zero,uS,List.drop_zero,uT]at hq;exact xp.mp hq
 | p+1,[],[],x,y,h,q,hq=>by
  simp at hq;exact .inl hq
 | p+1,c::a,d::b,x,y,h,q,hq=>by
  simp only[List.take_succ_cons,List.drop_succ_cons,ur,uT]at hq;rcases xp.mp hq with rfl|hq
  ·exact .inr (xY)
  ·rcases zNs p a b x y (by simpa using h) q hq with z|z
   ·exact .inl z
   ·exact .inr (vp _ z)
 | p+1,[],_::_,x,y,h,q,hq=>by simp at h
 | p+1,_::_,[],x,y,h,q,hq=>by simp at h
def zWe{t:SetTable}{n j M:Nat}{hs:List Int}{h:Int}(T:Tab t n b)(hn:hs.length=n)(C:Chs t hs)(hj:t.slot j=.empty)(hM:(adv t M (t.probeStart h)).j=j)(al:∀m',m'<M->(adv t m' (t.probeStart h)).j∈t.place.toList):
  Chs (t.put j).1 (hs.take (t.put j).2++h::hs.drop (t.put j).2)/\(t.put j).2=SetTable.below t.place j:=by
 have e:SetTable.has t.dummies j=false:=by rw[T.nod];rfl
 have e2:t.put j=({ t with place:=SetTable.insertAt t.place (SetTable.below t.place j) j },SetTable.below t.place j):=by unfold SetTable.put;simp[e]
 rw[e2];have pl:({ t with place:=SetTable.insertAt t.place (SetTable.below t.place j) j }:SetTable).place.toList=t.place.toList.take (SetTable.below t.place j)++j::t.place.toList.drop (SetTable.below t.place j):=zFy _ _ _;have sub:∀i∈t.place.toList,i∈({ t with place:=SetTable.insertAt t.place (SetTable.below t.place j) j }:SetTable).place.toList:=λi hi=>(ins_perm t.place _ j).mem_iff.mpr (vp _ hi)
 refine⟨λq hq=>?_,rfl⟩;rw[pl]at hq;rcases zNs _ _ _ _ _ (by simp[T.size,hn]) q hq with rfl|z
 ·exact Chn.grow (t:=t) ⟨M,hM,al⟩ rfl sub
 ·exact(C q z).grow rfl sub
def zMp(t:SetTable):∀(c:Nat) (p:SetTable.Probe),c<=p.more->(adv t c p).j=p.j+c
 | 0,p,_=>rfl
 | c+1,p,h=>by
  show(adv t c (t.advance p)).j=_;have e:t.advance p={ p with j:=p.j+1,more:=p.more-1 }:=by unfold SetTable.advance;rw[xf (by nofun)]
  rw[e,zMp t c _ (by show c<=p.more-1;lia)];show p.j+1+c=p.j+(c+1);lia
def zM6{t:SetTable}{owner:Array (Option Nat)}:∀(f:Nat) (x:Nat × Nat) (j:Nat),SetTable.layClean.free t.mask owner f x.1 x.2=some j->
  ∃m,(adv t m (beg t x none)).j=j/\∀m',m'<m->owner.getD (adv t m' (beg t x none)).j (some 0)≠none
 | 0,x,j,h=>by cases h
 | f+1,x,j,h=>by
  unfold SetTable.layClean.free at h;have rl:SetTable.runEnd t.mask x.1+1-x.1=(beg t x none).more+1:=by show _=SetTable.runEnd t.mask x.1-x.1+1;unfold SetTable.runEnd;split <;> lia
  rw[rl]at h;cases hf:(List.range ((beg t x none).more+1)).find? λk=>(owner.getD (x.1+k) (some 0)).isNone with
  | some k=>
   rw[hf]at h;have ej:x.1+k=j:=xN h;obtain⟨h1,h2,h3⟩:=List.find?_range_eq_some.mp hf;have hk:k<(beg t x none).more+1:=vi.mp h2;refine⟨k,by rw[zMp t k _ (by nofun)];exact ej,λm' hm'=>?_⟩;rw[zMp t m' _ (by nofun)];have:=h3 m' hm';intro z;have z':owner.getD (x.1+m') (some 0)=none:=z;rw[z']at this;simp at this
  | none=>
   rw[hf]at h;obtain⟨m,e,al⟩:=zM6 f (SetTable.leap t.mask x.1 x.2) j h;refine⟨(beg t x none).more+1+m,by rw[zDd,zJ2 t _ _ rfl];exact e,λm' hm'=>?_⟩;rcases vE m' ((beg t x none).more+1)with z|z
   ·rw[zMp t m' _ (by nofun)];have:=List.find?_eq_none.mp hf m' (vi.mpr z);intro w;have w':owner.getD (x.1+m') (some 0)=none:=w;rw[w']at this;simp at this
   ·obtain⟨c,rfl⟩:∃c,m'=(beg t x none).more+1+c:=⟨m' - ((beg t x none).more+1),by nofun⟩
    rw[zDd,zJ2 t _ _ rfl];exact al c (by nofun)
def zUj(m i:Nat)(h:i<=m):SetTable.runEnd m i<=m:=by unfold SetTable.runEnd;split <;> lia
def zUk(m i:Nat):i<=SetTable.runEnd m i:=by unfold SetTable.runEnd;split <;> lia
def zVk(t:SetTable):∀(m:Nat) (p:SetTable.Probe),p.j+p.more<=t.mask->(adv t m p).j<=t.mask
 | 0,p,h=>by show p.j<=_;lia
 | m+1,p,h=>by
  refine zVk t m (t.advance p) ?_;unfold SetTable.advance;by_cases c:p.more > 0
  ·rw[xf c];show p.j+1+(p.more-1)<=_;lia
  ·rw[xg c];have:(p.i*5+1+p.perturb / 32) % (t.mask+1)<t.mask+1:=Nat.mod_lt _ (by nofun);show(p.i*5+1+p.perturb / 32) % (t.mask+1)+(SetTable.runEnd t.mask ((p.i*5+1+p.perturb / 32) % (t.mask+1))-(p.i*5+1+p.perturb / 32) % (t.mask+1))<=t.mask;have a:=zUj t.mask ((p.i*5+1+p.perturb / 32) % (t.mask+1)) (by nofun);have b:=zUk t.mask ((p.i*5+1+p.perturb / 32) % (t.mask+1));lia
def zRq(t:SetTable)(h:Int)(m:Nat):(adv t m (t.probeStart h)).j<=t.mask:=by refine zVk t m _ ?_;have:SetTable.bits h % (t.mask+1)<t.mask+1:=Nat.mod_lt _ (by nofun);show SetTable.bits h % (t.mask+1)+(SetTable.runEnd t.mask (SetTable.bits h % (t.mask+1))-SetTable.bits h % (t.mask+1))<=t.mask;have a:=zUj t.mask (SetTable.bits h % (t.mask+1)) (by nofun);have b:=zUk t.mask (SetTable.bits h % (t.mask+1));lia
def OwnC(t:SetTable)(hs:List Int)(owner:Array (Option Nat)):Prop:=∀j v,owner[j]?=some (some v)->∃m,(adv t m (t.probeStart (hs.getD v 0))).j=j/\∀m',m'<m->owner.getD (adv t m' (t.probeStart (hs.getD v 0))).j (some 0)≠none
def zZ4(t:SetTable)(hs:List Int)(acc:Option (Array (Option Nat) × Nat))(k:Nat):Prop:=∃owner,acc=some (owner,k)/\owner.size=t.mask+1/\(owner.toList.filterMap id).Perm (List.range k)/\OwnC t hs owner
def zN7{t:SetTable}{hs:List Int}{k:Nat}(hm:Msk t.mask)(hk:k<=t.mask){owner:Array (Option Nat)}(hz:owner.size=t.mask+1)(hp:(owner.toList.filterMap id).Perm (List.range k))(C:OwnC t hs owner){h:Int}(eh:hs.getD k 0=h):
  ∃j,SetTable.layClean.free t.mask owner (SetTable.turns t.mask) (SetTable.bits h % (t.mask+1)) (SetTable.bits h)=some j/\zZ4 t hs (some (owner.setIfInBounds j (some k),k+1)) (k+1):=by
 obtain⟨e,h1,h2⟩:=zKm owner.toList (by rw[hp.length_eq,vc];simp[hz];lia);have h1':e<owner.size:=by simpa using h1
 have ho:owner.getD e (some 0)=none:=by
  have:owner[e]?=some none:=by simpa using h2
  simp[vR,this]
 obtain⟨L,hL,eL⟩:=zKk (p:=SetTable.bits h) (i:=SetTable.bits h % (t.mask+1)) hm (Nat.mod_lt _ (by nofun)) (zL7 h) (show e<t.mask+1 by nofun);obtain⟨j,ej,hj⟩:=zIk ho L (SetTable.turns t.mask) (SetTable.bits h % (t.mask+1),SetTable.bits h) (by unfold SetTable.turns;lia) eL;have hj1:owner[j]?=some none:=by
  rw[vR]at hj;cases hq:owner[j]? with
  | none=>rw[hq]at hj;cases hj
  | some v=>rw[hq]at hj;have:v=none:=hj;subst this;rfl
 have hj2:owner.toList[j]?=some none:=by simpa using hj1
 have hjz:j<owner.size:=(vZ.mp hj1).1;have gd:∀i,owner.getD i (some 0)≠none->(owner.setIfInBounds j (some k)).getD i (some 0)≠none:=λi hi=>by
  rw[vR]at hi ⊢;rw[Array.getElem?_setIfInBounds];by_cases c:j=i
  ·rw[xf c];split <;> simp
  ·rw[xg c];exact hi
 refine⟨j,ej,_,rfl,by simpa using hz,?_,λi v hv=>?_⟩
 ·rw[Array.toList_setIfInBounds];refine(zHu _ j k hj2).trans ((List.Perm.cons k hp).trans ?_);rw[List.range_succ];exact(List.perm_append_singleton k (List.range k)).symm
 ·rw[Array.getElem?_setIfInBounds]at hv;by_cases c:j=i
  ·rw[xf c,xf hjz]at hv;have ev:k=v:=by simpa using hv
   subst ev c;obtain⟨m,em,al⟩:=zM6 _ (SetTable.bits h % (t.mask+1),SetTable.bits h) j ej;rw[eh];exact⟨m,em,λm' hm'=>gd _ (al m' hm')⟩
  ·rw[xg c]at hv;obtain⟨m,em,al⟩:=C i v hv;exact⟨m,em,λm' hm'=>gd _ (al m' hm')⟩
def zJi{t:SetTable}(hm:Msk t.mask)(hs0:List Int):∀(hs:List Int) (k:Nat) (acc:Option (Array (Option Nat) × Nat)),k+hs.length<=t.mask+1->(∀i,hs.getD i 0=hs0.getD (k+i) 0)->zZ4 t hs0 acc k->
  zZ4 t hs0 (hs.foldl (λacc h=>do
   let (owner,k) <- acc
   let j <- SetTable.layClean.free t.mask owner (SetTable.turns t.mask) (SetTable.bits h % (t.mask+1)) (SetTable.bits h)
   pure (owner.setIfInBounds j (some k),k+1)) acc) (k+hs.length)
 | [],k,acc,_,_,L=>L
 | h::hs,k,acc,hl,he,⟨owner,ea,h1,h2,h3⟩=>by
  subst ea;obtain⟨j,ej,L⟩:=zN7 hm (by simp at hl;lia) h1 h2 h3 (h:=h) (by have:=he 0;simpa using this.symm);have:=zJi hm hs0 hs (k+1) _ (by simp at hl;lia) (λi=>by have:=he (i+1);rw[show k+1+i=k+(i+1) by nofun];simpa using this) L;rw[v3];have e2:(do
   let (owner,k) <- some (owner,k)
   let j <- SetTable.layClean.free t.mask owner (SetTable.turns t.mask) (SetTable.bits h % (t.mask+1)) (SetTable.bits h)
   pure (owner.setIfInBounds j (some k),k+1))=some (owner.setIfInBounds j (some k),k+1):=by
   show(SetTable.layClean.free t.mask owner (SetTable.turns t.mask) (SetTable.bits h % (t.mask+1)) (SetTable.bits h) >>= λj=>pure (owner.setIfInBounds j (some k),k+1))=_;rw[ej];rfl
  rw[e2,xB,show k+(hs.length+1)=k+1+hs.length by nofun];exact this
def zT6{m:Nat}(hm:Msk m){hs:Array Int}(hl:hs.size<=m)(hr:hs.size*5<m*3)(fing moves:Nat)(led:Bool):∃t order,SetTable.laid m fing moves led true hs=some (t,order)/\Tab t hs.size led/\order.toList.Perm (List.range hs.size)/\Chs t (order.toList.map λk=>hs.toList.getD k 0):=by
 let t0:SetTable:={ mask:=m,place:=#[],dummies:=#[],finger:=fing,led:=led,moves:=moves,plain:=true }
 obtain⟨owner,e,h1,h2,h3⟩:=zJi (t:=t0) hm hs.toList hs.toList 0 (some (Array.replicate (m+1) none,0)) (by show 0+hs.toList.length<=m+1;simp;lia) (λi=>by rw[xX]) ⟨_,rfl,by show _=m+1;simp,by show((Array.replicate (m+1) (none:Option Nat)).toList.filterMap id).Perm (List.range 0);simp,λj v hv=>by rw[Array.getElem?_replicate]at hv;split at hv <;> cases hv⟩;have h1:owner.size=m+1:=h1;have ec:SetTable.layClean m hs=some owner:=by
  unfold SetTable.layClean;rw[<- Array.foldl_toList];have e':(hs.toList.foldl (λacc h=>do
   let (owner,k) <- acc
   let j <- SetTable.layClean.free m owner (SetTable.turns m) (SetTable.bits h % (m+1)) (SetTable.bits h)
   pure (owner.setIfInBounds j (some k),k+1)) (some (Array.replicate (m+1) none,0)))=some (owner,0+hs.toList.length):=e
  rw[e'];rfl
 obtain⟨t,order,a,T,p⟩:=zXk hm hl hr fing moves led;refine⟨t,order,a,T,p,?_⟩;unfold SetTable.laid at a;rw[ec]at a;have a':((({ mask:=m,place:=(((List.range (m+1)).filterMap λj=>(owner.getD j none).map (j,·)).map (·.1)).toArray,dummies:=#[],finger:=fing,led:=led,moves:=moves,plain:=true }:SetTable),(((List.range (m+1)).filterMap λj=>(owner.getD j none).map (j,·)).map (·.2)).toArray):SetTable × Array Nat)=(t,order):=xN a;obtain⟨e1,e2⟩:=Prod.mk.inj a';have mem:∀j,j<=m->owner.getD j (some 0)≠none->j∈t.place.toList:=λj hj hn=>by
  rw[<- e1];show j∈(List.map (λr:Nat × Nat=>r.1) _).toArray.toList;have hz:j<owner.size:=by nofun
  have hg:owner[j]?=some owner[j]:=vm hz;rw[vR,hg]at hn;cases hv:owner[j]with
  | none=>rw[hv]at hn;exact absurd rfl hn
  | some v=>exact xt.mpr ⟨(j,v),u5.mpr ⟨j,vi.mpr (by nofun),by rw[vR,hg,hv];rfl⟩,rfl⟩
 have tm:t.mask=t0.mask:=by rw[<- e1]
 intro q hq;have zq:∃r∈((List.range (m+1)).filterMap λj=>(owner.getD j none).map (j,·)),q=(r.1,hs.toList.getD r.2 0):=by
  rw[<- e1,<- e2]at hq;simp only[xH]at hq;generalize ((List.range (m+1)).filterMap λj=>(owner.getD j none).map (j,·))=live at hq
  clear a a' e1 e2 T p mem
  induction live with
  | nil=>simp at hq
  | cons r live ih=>
   simp only[xr,uT]at hq;rcases xp.mp hq with rfl|hq
   ·exact⟨r,.head _,rfl⟩
   ·obtain⟨r',hr',e'⟩:=ih hq;exact⟨r',.tail _ hr',e'⟩
 obtain⟨⟨j,v⟩,hr,rfl⟩:=zq;obtain⟨j',hj',ej⟩:=u5.mp hr;have hov:owner[j']?=some (some v)/\j'=j:=by
  rw[vR]at ej;cases ho:owner[j']? with
  | none=>rw[ho]at ej;cases ej
  | some w=>
   rw[ho]at ej;cases w with
   | none=>cases ej
   | some u=>cases ej;exact⟨rfl,rfl⟩
 obtain⟨hov,rfl⟩:=hov;obtain⟨mm,em,al⟩:=h3 j' v hov;refine⟨mm,by rw[zDs tm,zEv tm];exact em,λm' hm'=>?_⟩;rw[zDs tm,zEv tm];exact mem _ (zRq t0 _ m') (al m' hm')
def zH5{t:SetTable}{hashAt:Nat->Int}{h:Int}(hd:t.dummies=#[]):∀(f m:Nat) (p:SetTable.Probe),m<f->Far t p m->
  (∃d,d<=m/\SetTable.probe.go t hashAt h f p=some (.empty (adv t d p).j none)/\t.slot (adv t d p).j=.empty/\∀d',d'<d->∃i,t.slot (adv t d' p).j=.live i/\(hashAt i == h)=false) \/
  (∃d i,d<m/\SetTable.probe.go t hashAt h f p=some (.candidate (adv t d p).j i (adv t (d+1) p))/\t.slot (adv t d p).j=.live i/\(∀d',d'<d->∃i,t.slot (adv t d' p).j=.live i/\(hashAt i == h)=false)/\Far t (adv t (d+1) p) (m-(d+1)))
 | 0,m,p,hf,_=>by nofun
 | f+1,m,p,hf,⟨hm,hp⟩=>by
  unfold SetTable.probe.go;have nd:=zDi hd p.j;cases hs:t.slot p.j with
  | empty=>exact .inl ⟨0,xV _,by rw[hp];rfl,hs,λd' h=>by nofun⟩
  | dummy=>rw[hs]at nd;split at nd <;> cases nd
  | live i=>
   obtain⟨m',rfl⟩:∃m',m=m'+1:=by
    cases m with
    | zero=>
     have:t.slot p.j=.empty:=hm;rw[hs]at this;cases this
    | succ k=>exact⟨k,rfl⟩
   have fr:Far t (t.advance p) m':=⟨hm,(zKa t 1 p).trans hp⟩;dsimp only;by_cases c:(hashAt i == h)=true
   ·rw[xf c];exact .inr ⟨0,i,by nofun,rfl,hs,λd' h=>by nofun,by rw[show m'+1-(0+1)=m' by nofun];exact fr⟩
   ·rw[xg c];have c':(hashAt i == h)=false:=by simpa using c
    rcases zH5 hd f m' _ (by nofun) fr with⟨d,h1,h2,h3,h4⟩|⟨d,i',h1,h2,h3,h4,h5⟩
    ·refine .inl ⟨d+1,by nofun,h2,h3,λd' hd'=>?_⟩;cases d' with
     | zero=>exact⟨i,hs,c'⟩
     | succ d'=>exact h4 d' (by nofun)
    ·refine .inr ⟨d+1,i',by nofun,h2,h3,λd' hd'=>?_,by rw[show m'+1-(d+1+1)=m' - (d+1) by nofun];exact h5⟩;cases d' with
     | zero=>exact⟨i,hs,c'⟩
     | succ d'=>exact h4 d' (by nofun)
def zKt{t:SetTable}{j i:Nat}(T:Tab t n b)(h:t.slot j=.live i):t.place[i]?=some j:=by
 rw[zDi T.nod]at h;split at h
 ·rename_i c;cases h;exact eq_of_beq c
 ·cases h
def zXh{t:SetTable}{j i:Nat}(T:Tab t n b)(h:t.slot j=.live i):j∈t.place.toList:=by obtain⟨z,e⟩:=vZ.mp (zKt T h);rw[<- e];simp
def zZa{l:List Nat}(u:Up l){i j:Nat}(hi:i<l.length)(hj:j<l.length)(e:l[i]=l[j]):i=j:=by
 rcases Nat.lt_trichotomy i j with z|z|z
 ·have:=zH3 u z hj;lia
 ·exact z
 ·have:=zH3 u z hi;lia
def zOh{t:SetTable}{n:Nat}(T:TabP t n b)(hf:t.tooFull=true)(hn:n<=1200)(hs:Array Int)(hz:hs.size=n):
  (decide (SetTable.sizeAbove (SetTable.grown n) > sizeLine)=false)/\∃t' order,t.relaid hs (SetTable.grown n)=some (t',order)/\Tab t' n b/\order.toList.Perm (List.range n)/\Chs t' (order.toList.map λk=>hs.toList.getD k 0):=by
 have h1:=T.most;unfold SetTable.tooFull at hf;rw[T.fill]at hf;have hf:t.mask*3<=n*5:=by simpa using hf
 have c:n=5\/n=19\/n=77\/n=307:=by rcases T.hm with e|e|e|e|e <;> rw[e]at h1 hf <;> lia
 have key:∀M,Msk M->SetTable.sizeAbove (SetTable.grown n)=M+1->n<=M->n*5<M*3->∃t' order,t.relaid hs (SetTable.grown n)=some (t',order)/\Tab t' n b/\order.toList.Perm (List.range n)/\Chs t' (order.toList.map λk=>hs.toList.getD k 0):=λM hM e1 e2 e3=>by
  obtain⟨t',order,a,T',p,C⟩:=zT6 hM (hs:=hs) (by nofun) (by nofun) t.finger (t.movedTo M) b;rw[hz]at T' p;refine⟨t',order,?_,T',p,C⟩;unfold SetTable.relaid;rw[e1,T.plain,T.led];exact a
 rcases c with rfl|rfl|rfl|rfl
 ·exact⟨by decide +kernel,key 31 (by simp[Msk]) (by decide +kernel) (by decide) (by decide)⟩
 ·exact⟨by decide +kernel,key 127 (by simp[Msk]) (by decide +kernel) (by decide) (by decide)⟩
 ·exact⟨by decide +kernel,key 511 (by simp[Msk]) (by decide +kernel) (by decide) (by decide)⟩
 ·exact⟨by decide +kernel,key 2047 (by simp[Msk]) (by decide +kernel) (by decide) (by decide)⟩
end TB
namespace TS
open PySem TB
noncomputable abbrev sObj (es:Array (Int × Value)) (ep:Nat) (t:SetTable):Obj:={ cls:=.type "set",dict:=none,data:=.set es ep t,slots:=#[] }
def Tab.ft{t:SetTable}{n:Nat}(T:Tab t n b):t.fits n=true:=by have:=T.fits;unfold SetTable.fits;simp at this ⊢;exact⟨this.1,this.2⟩
def TabP.ft{t:SetTable}{n:Nat}(T:TabP t n b):t.fits n=true:=by have:=T.fits;unfold SetTable.fits;simp at this ⊢;exact⟨this.1,this.2⟩
section
variable {prog:Program}{w:World}{A:Around}{E:Value->Shared->Prop}{s:Shared}
def gate{α:Type}[Decidable c]{U R:Sem α}{Q:α->Shared->Prop}(hm:∀Q':Bool->Shared->Prop,Q' false s->wpAny M A m Q' E s)(hR:wpAny M A R Q E s):
  wpAny M A (if c then m >>= λb=>if b=true then U else R else R) Q E s:=by
 by_cases h:c
 ·rw[xf h];exact xc (hm _ (by rw[xg (by decide)];exact hR))
 ·rw[xg h];exact hR
def adr:Value->Addr
 | .ref a=>a
 | _=>0
end
abbrev zGd(w:World):Bool:=!(w.params.followText "set-order")
section
variable {prog:Program}{w:World}{A:Around}{E:Value->Shared->Prop}{s:Shared}
abbrev nObj(w:World):Obj:=sObj #[] 0 (.fresh 0 0 (zGd w))
def zLi(a:Value){Q₁:Value->Shared->Prop}(h:Q₁ (.ref s.heap.objs.size) { s with heap:=s.heap.push (nObj w) }):
  codeAny (model prog w) A (.call (.builtin "set.__new__") ⟨[.type "set",a],[]⟩) (wants Q₁ E) s:=by
 refine codeAny_of_tree (show wpAny _ A.in1 (checkBuiltinCall "set.__new__" ⟨[.type "set",a],[]⟩ >>= λ_=>again (.builtin "set.__new__" ⟨[.type "set",a],[]⟩)) _ _ s from ?_);refine xc (uU (F.newCall_set_1 a) (xh ⟨yd F.plain_set_new _,uu F.entry_set_new ?_⟩));rw[yA F.plain_set_new _];unfold Builtin.«set.__new__» Builtin.Frozenset.newClass;have hsub:=sub_set_self;obtain⟨hp,g,d,tk,os⟩:=s;dsimp only;wp_walk;refine yB (xh ?_);dsimp only;simp only[newObj];exact xc (wpAny_alloc (xh (xh h)))
end
def si_next:Slot "set_iterator" "__next__" "set_iterator.__next__":=
 .of (owner:="set_iterator") (n:="__next__") (by rw[yr,yt];kernel_rfl) (by decide +kernel) (by decide +kernel) (by decide +kernel) (by first|exact .inl (by decide +kernel)|exact .inr (by decide +kernel)) (by rw[isSubtype_type];kernel_rfl)
def zLh:entryFor table "set_iterator.__next__"=some Builtin.«set_iterator.__next__»:=entryFor_of_tree (by kernel_rfl)
def zOb(a:Value):argsOk "set_iterator.__next__" ⟨[a],[]⟩:=by unfold argsOk;kernel_rfl
def zO9:Slot "set_iterator" "__iter__" "set_iterator.__iter__":=
 .of (owner:="set_iterator") (n:="__iter__") (by rw[yr,yt];kernel_rfl) (by decide +kernel) (by decide +kernel) (by decide +kernel) (by first|exact .inl (by decide +kernel)|exact .inr (by decide +kernel)) (by rw[isSubtype_type];kernel_rfl)
def zOa:entryFor table "set_iterator.__iter__"=some Builtin.«dict_keyiterator.__iter__»:=entryFor_alias (id':="dict_keyiterator.__iter__") (by kernel_rfl) rfl (by decide +kernel) (by kernel_rfl)
def zRs(a:Value):argsOk "set_iterator.__iter__" ⟨[a],[]⟩:=by unfold argsOk;kernel_rfl
def yCm:entryFor table "set.__iter__"=some Builtin.«frozenset.__iter__»:=entryFor_alias (id':="frozenset.__iter__") (by kernel_rfl) rfl (by decide +kernel) (by kernel_rfl)
def zHc{α:Type}:∀(l:List α) (i:Nat) (h:i<l.length),(l[i]::l.eraseIdx i).Perm l
 | [],i,h=>by simp at h
 | x::l,0,h=>by simp
 | x::l,i+1,h=>by
  simp only[List.getElem_cons_succ,List.eraseIdx_cons_succ];exact(List.Perm.swap _ _ _).trans (List.Perm.cons x (zHc l i (by simpa using h)))
def zOx{α:Type}(next:Nat->Nat):∀(f k:Nat) (left:List α) (out:Array α),left.length=f->∃l,(pickOrder.go next f k left out).toList=out.toList++l/\l.Perm left
 | 0,k,left,out,h=>⟨[],by simp[pickOrder.go],by rw[List.length_eq_zero_iff.mp h]⟩
 | f+1,k,left,out,h=>by
  have hl:next k % left.length<left.length:=Nat.mod_lt _ (by nofun);unfold pickOrder.go;rw[xG hl];dsimp only;obtain⟨l,e,p⟩:=zOx next f (k+1) (left.eraseIdx (next k % left.length)) (out.push left[next k % left.length]) (by rw[List.length_eraseIdx];simp[hl];lia);refine⟨left[next k % left.length]::l,by rw[e];simp,(List.Perm.cons _ p).trans ?_⟩;exact zHc left _ hl
def zOw{α:Type}(next:Nat->Nat)(xs:Array α):(pickOrder next xs).toList.Perm xs.toList:=by obtain⟨l,e,p⟩:=zOx next xs.size 0 xs.toList #[] (by simp);unfold pickOrder;rw[e];simpa using p
noncomputable def ordW (w:World) (S:Addr) (ep:Nat) (es:Array (Int × Value)):Array (Int × Value):=if w.params.followText "set-order"=true then pickOrder (w.params.setOrder S ep) es else es
def zEk(w:World)(S:Addr)(ep:Nat)(es:Array (Int × Value)):(ordW w S ep es).toList.Perm es.toList:=by
 unfold ordW;split
 ·exact zOw _ _
 ·exact .refl _
def zD1(w:World)(S:Addr)(ep:Nat)(es:Array (Int × Value)):(ordW w S ep es).size=es.size:=by simpa using(zEk w S ep es).length_eq
noncomputable def zG6 (w:World) (t:SetTable) (i:Nat):Nat:=if w.params.followText "set-order"=true then 0 else TB.slotAt t.place i
section
variable {prog:Program}{w:World}{A:Around}{E:Value->Shared->Prop}{s:Shared}
def IsSI(w:World)(h:Heap)(I S:Addr)(i n ep:Nat)(t:SetTable):Prop:=∃o,h.get? I=some o/\o.cls=.type "set_iterator"/\o.data=.fields #[.int (zG6 w t i) 0,.int i 0,.ref S,.int n 0,.int ep 0]
def IsSI.typeIs(x:IsSI w s.heap I S i n ep t):s.TypeIs (.ref I) "set_iterator":=let ⟨o,ho,hc,_⟩:=x;⟨o,ho,hc⟩
def walk_of{es:Array (Int × Value)}(ho:s.heap.get? S=some (sObj es ep t))(T:Tab t es.size (!(w.params.followText "set-order")))(i:Nat)(hi:i<=es.size){Q:Option (Value × Nat)->Shared->Prop}
  (h:Q (((ordW w S ep es)[i]?).map λe=>(e.2,zG6 w t (i+1))) s):wpAny (model prog w) A (setNext S (zG6 w t i) i ep) Q E s:=by
 unfold setNext;refine xc (uv ho rfl (Tab.ft T) ?_);dsimp only;unfold setsByText;refine xc (xc (yB (xh ?_)));show wpAny _ _ (if(w.params.followText "set-order")=true then _ else _) _ _ _;by_cases c:w.params.followText "set-order"=true
 ·rw[xf c];rw[xg (by simp)];refine xc ?_;unfold setWalk;refine xc (uv ho rfl (Tab.ft T) ?_);dsimp only;unfold setsByText;refine xc (xc (yB (xh ?_)));show wpAny _ _ (if(w.params.followText "set-order")=true then _ else _) _ _ _;rw[xf c];refine xc (yB (xh (xh ?_)));unfold ordW zG6 at h;rw[xf c,xf c]at h;unfold zG6;rw[xf c];exact h
 ·rw[xg c];have hl:t.led=true:=by rw[T.led];simpa using c
  have e1:(!t.plain && decide (es.size > 1))=false:=by rw[T.plain];rfl
  show wpAny _ _ (if(!t.plain && decide (es.size > 1))=true then _ else _) _ _ _;rw[e1];rw[xg (by decide)];show wpAny _ _ ((if(!t.led && !es.isEmpty)=true then _ else pure ()) >>= _) _ _ _;rw[hl];rw[xg (by simp)];refine xc (xh ?_);unfold ordW zG6 at h;rw[xg c,xg c]at h;unfold zG6;rw[xg c,zK7 T.up (by rw[T.size];exact hi)];refine xh ?_;rcases vE i es.size with z|z
  ·have z2:i<t.place.size:=by rw[T.size];exact z
   rw[vm z,vm z2];rw[vm z]at h;have:TB.slotAt t.place (i+1)=t.place[i]+1:=by unfold TB.slotAt;simp[Array.getD,z2]
   rw[this]at h;exact h
  ·rw[yf z];rw[yf z]at h;exact h
def zW1{es:Array (Int × Value)}{e:Int × Value}{Q:Option Value->Shared->Prop}(hit:IsSI w s.heap I S i es.size ep t)(ho:s.heap.get? S=some (sObj es ep t))(T:Tab t es.size (!(w.params.followText "set-order")))(hne:S≠I)
  (hx:(ordW w S ep es)[i]?=some e) (hQ:∀h',IsSI w h' I S (i+1) es.size ep t->Heap.SameBut I s.heap h'->Q (some e.2) { s with heap:=h' }):wpAny (model prog w) A (pyNext (.ref I)) Q E s:=by
 have hlt:i<es.size:=by rw[<- zD1 w S ep es];exact(vZ.mp hx).1
 obtain⟨o,hi,hc,hd⟩:=id hit;unfold pyNext;refine xc (uw (vv (name:=Str.ofString "__next__") hit.typeIs si_next (xK si_next hit.typeIs zLh ?_ (zOb _))));unfold Builtin.«set_iterator.__next__»;refine xc (xh ?_);refine xc (yg hi hd ?_);dsimp only;refine xc (wpAny_setEntries_of ho rfl (Tab.ft T) ?_);rw[xg (by simp)];simp only[vw];refine xc (walk_of ho T i (xU hlt) ?_);rw[hx];simp only[vH];refine xc (uy hi hd (by simp) ?_);have g1:=uh (Obj.mapFields λx=>x.setIfInBounds 0 (rawInt ↑(zG6 w t (i+1)))) hi (yQ (uz hd _));have d1:=uz hd λx=>x.setIfInBounds 0 (rawInt ↑(zG6 w t (i+1)))
 refine xc (uy g1 d1 (by simp) (xh ⟨e.2,rfl,xh (hQ _ ⟨_,uh _ g1 (yQ (uz d1 _)),(Obj.cls_mapFields ..).trans ((Obj.cls_mapFields ..).trans hc),?_⟩ ((vS ..).trans (vS ..)))⟩));rw[uz d1];simp[rawInt]
def zW2{es:Array (Int × Value)}{Q:Option Value->Shared->Prop}(hh:A.handled=none)(hit:IsSI w s.heap I S es.size es.size ep t)(ho:s.heap.get? S=some (sObj es ep t))(T:Tab t es.size (!(w.params.followText "set-order")))(hne:S≠I)
  (hQ:∀h',Heap.ExtBut I s.heap h'->Q none { s with heap:=h' }):wpAny (model prog w) A (pyNext (.ref I)) Q E s:=by
 obtain⟨o,hi,hc,hd⟩:=id hit;unfold pyNext;refine xc (uw (vv (name:=Str.ofString "__next__") hit.typeIs si_next (xK si_next hit.typeIs zLh ?_ (zOb _))));unfold Builtin.«set_iterator.__next__»;refine xc (xh ?_);refine xc (yg hi hd ?_);dsimp only;refine xc (wpAny_setEntries_of ho rfl (Tab.ft T) ?_);rw[xg (by simp)];simp only[vw];refine xc (walk_of ho T es.size (xi _) ?_);rw[yf (by rw[zD1];exact xi _)];simp only[Option.map_none];refine xc (uy hi hd (by simp) ?_);refine xc ?_;simp only[newExc,newTuple];refine xc (xW (xc (m:=firstArgMember _ _) (uU (a:=Value.none) (by first|rfl|(simp only[firstArgMember];rfl)) (xW ?_ (by size_fits)))) (by size_fits));simp only[raiseNew];refine xc (wpAny_handled ?_);rw[show A.in1.handled=none from hh];refine xc (xh (wpAny_throw ?_));refine xc (ub (b:=true) (T:="StopIteration") ⟨_,xy _ rfl,rfl⟩ isSubtype_stop (xh (hQ _ (((vS ..).extBut.push _).push _))))
def zNu(hh:A.handled=none)(I S:Addr)(hne:S≠I)(es:Array (Int × Value))(ep:Nat)(t:SetTable)(T:Tab t es.size (!(w.params.followText "set-order"))):
  Walks prog w A I [I,S] [I] es.size (λi v=>((ordW w S ep es).map (·.2))[i]?=some v) (λi h=>IsSI w h I S i es.size ep t/\h.get? S=some (sObj es ep t)) where
 sub:=λb hb=>by simp at hb;simp[hb]
 frame:=λ_ _ _ st hk=>⟨let ⟨o,ho,r⟩:=st.1;⟨o,hk I (by simp) o ho,r⟩,hk S (by simp) _ st.2⟩
 item:=λi s Q E hi st hQ=>by
  have hz:i<(ordW w S ep es).size:=by rw[zD1];exact hi
  refine zW1 st.1 st.2 T hne (vm hz) λh' it' sb=>?_
  exact hQ _ h' s.toks (by rw[Array.getElem?_map,vm hz];rfl) ⟨it',(sb.2 S hne).trans st.2⟩ λb o hb e=>(sb.2 b λz=>hb (by simp[z])).trans e
 done:=λs Q E st hQ=>zW2 hh st.1 st.2 T hne λh' he'=>hQ h' s.toks λb o hb e=>he' b o (λh=>hb (by simp[h])) e
 self:=λi s Q E st hQ=>yC st.1.typeIs zO9 (xK zO9 st.1.typeIs zOa (show wpAny _ _ (ret (.ref I)) _ _ s from xh ⟨_,rfl,"set_iterator",_,st.1.typeIs,si_next.lookup,hQ⟩) (zRs _))
def zTa{es:Array (Int × Value)}{Q:Value->Shared->Prop}(ho:s.heap.get? S=some (sObj es ep t))(T:Tab t es.size (!(w.params.followText "set-order")))
  (h:Q (.ref s.heap.objs.size) { s with heap:=s.heap.push { cls:=.type "set_iterator",data:=.fields #[.int 0 0,.int 0 0,.ref S,.int es.size 0,.int ep 0] } }):wpAny (model prog w) A (pyIter (.ref S)) Q E s:=by
 have hT:s.TypeIs (.ref S) "set":=⟨_,ho,rfl⟩;refine yC hT F.slot_set_iter (xK F.slot_set_iter hT yCm ?_ (F.args_set_iter_1 _));unfold Builtin.«frozenset.__iter__»;refine xc (m:=Builtin.Frozenset.slot0 _ _) (xh ?_);unfold Builtin.Frozenset.sizeOf;refine xc (xc (wpAny_setEntries_of ho rfl (Tab.ft T) (xh ?_)));unfold setDrawn;refine xc (xc (uv ho rfl (Tab.ft T) ?_));dsimp only;unfold setsByText;refine xc (xc (yB (xh (xh ?_))));show wpAny _ _ (if(!(w.params.followText "set-order") && (!t.plain && decide (es.size > 1)))=true then _ else _) _ _ _;rw[xg (by rw[T.plain];simp)];refine xc (xh ?_);refine xc (wpAny_setEpoch_of ho rfl (Tab.ft T) ?_);unfold newFields;refine xc (xW (xh ⟨_,rfl,"set_iterator",_,⟨_,xy _ rfl,rfl⟩,si_next.lookup,?_⟩));simpa[rawInt]using h
def zTh{Q:Bool->Shared->Prop}(hT:s.TypeIs (.ref S) "set")(h:Q false s):wpAny (model prog w) A (Builtin.List.listLengthHint (.ref S)) Q E s:=by unfold Builtin.List.listLengthHint;refine xc (ui hT F.slot_set_len.lookup ?_);generalize hid:("set.__len__":String)=id0;wp_delta;rw[show splitId id0=some ("set","__len__")from by subst hid;decide +kernel];subst hid;refine xc (ub (T:="set") (b:=true) hT sub_set_self (wpAny_ite_split (λhab=>absurd hab (by decide)) λ_=>wpAny_ite_split (λ_=>xc (v9 hT (xh h))) λhab=>absurd (by decide +kernel) hab))
open PySem.W in
def zKi{S:Addr}{es:Array (Int × Value)}{ep:Nat}(T:Tab t es.size (!(w.params.followText "set-order"))):
  KdlSrc prog w "set" S S es.size (λi v=>((ordW w S ep es).map (·.2))[i]?=some v) (λh=>h.get? S=some (sObj es ep t)) where
 type:=λs ok=>⟨_,ok,rfl⟩
 there:=λh ok=>⟨xo ok,xo ok⟩
 keep:=λh h' ok k=>k S (.inl rfl) _ ok
 notList:=by decide
 notTuple:=by decide
 hint:=λA E s Q ok h=>zTh ⟨_,ok,rfl⟩ h
 iter:=λA s hh ok=>⟨{ cls:=.type "set_iterator",data:=.fields #[.int 0 0,.int 0 0,.ref S,.int es.size 0,.int ep 0] },_,λE Q h=>zTa ok T h,
  zNu hh _ S (xu (xo ok)) es ep t T,⟨_,xy _ rfl,rfl,by
   have:zG6 w t 0=0:=by unfold zG6;split <;> rfl
   rw[this];rfl⟩,xq _ ok⟩
end
def KIt(b:Bool)(h:Heap)(i a:Addr)(k:Nat):Prop:=∃o,h.get? i=some o/\o.cls=.type (if b then "tuple_iterator" else "list_iterator")/\o.data=.fields #[.ref a,.int k 0]
def KSq(b:Bool)(h:Heap)(a:Addr)(xs:Array Value):Prop:=∃o,h.get? a=some o/\o.cls=.type (if b then "tuple" else "list")/\∃n,o.data=.seq xs n
def KIt.at{h h':Heap}(x:KIt b h i a k)(e:∀o,h.get? i=some o->h'.get? i=some o):KIt b h' i a k:=let ⟨o,ho,r⟩:=x;⟨o,e _ ho,r⟩
def KSq.at{h h':Heap}(x:KSq b h a xs)(e:∀o,h.get? a=some o->h'.get? a=some o):KSq b h' a xs:=let ⟨o,ho,r⟩:=x;⟨o,e _ ho,r⟩
def KIt.xb(x:KIt b h i a k)(e:Heap.ExtBut c h h')(n:i≠c):KIt b h' i a k:=x.at λo q=>e _ _ n q
def KSq.xb(x:KSq b h a xs)(e:Heap.ExtBut c h h')(n:a≠c):KSq b h' a xs:=x.at λo q=>e _ _ n q
section
variable {prog:Program}{w:World}{A:Around}{E:Value->Shared->Prop}{s:Shared}
def next_item{i:Nat}{Q:Value->Shared->Prop}(hit:KIt b s.heap it l i)(hl:KSq b s.heap l items)(hx:items[i]?=some x)
  (hQ:∀h',KIt b h' it l (i+1)->Heap.SameBut it s.heap h'->Q x { s with heap:=h' }):wpAny (model prog w) A (Builtin.SmallTypes.nextOf (.ref it)) Q E s:=by
 cases b with
 | false=>exact wpAny_nextOf_list_item hit hl hx hQ
 | true=>
  obtain⟨o,ho,hc,hd⟩:=id hit;obtain⟨ol,hol,_,nl,hdl⟩:=hl;have hT:s.TypeIs (.ref it) "tuple_iterator":=⟨o,ho,hc⟩;unfold Builtin.SmallTypes.nextOf;refine xc (vv (name:=Str.ofString "__next__") hT yR (xK yR hT F.entry_tuple_iterator_next ?_ (F.args_tuple_iterator_next_1 _)));refine(show wpAny _ _ (field (.ref it) 0 >>= _) _ _ s from xc (vD ho hd (x:=.ref l) rfl (show wpAny _ _ (if(Value.ref l == Value.none)=true then _ else _) _ _ s from ?_)));rw[xg (show ¬ ((Value.ref l == Value.none)=true)from vB)];refine(show wpAny _ _ (field (.ref it) 1 >>= _) _ _ s from xc (vD ho hd (x:=.int i 0) rfl (show wpAny _ _ (seqItems? (.ref l) >>= _) _ _ s from xc (uP hol hdl ?_))));simp only[vw,hx];refine xc (uy ho hd (by simp) (xh ⟨x,rfl,xh (hQ _ ⟨_,uh _ ho (yQ (uz hd _)),(Obj.cls_mapFields ..).trans hc,?_⟩ (vS ..))⟩));rw[uz hd];simp[rawInt]
def next_end{i:Nat}{Q:Value->Shared->Prop}(hh:A.handled=none)(hit:KIt b s.heap it l i)(hl:KSq b s.heap l items)(hx:items[i]?=none)
  (hE:∀h' e,Heap.ExtBut it s.heap h'->(∃o,h'.get? e=some o/\o.cls=.type "StopIteration")->E (.ref e) { s with heap:=h' }):wpAny (model prog w) A (Builtin.SmallTypes.nextOf (.ref it)) Q E s:=by
 cases b with
 | false=>exact wpAny_nextOf_list_end hh hit hl hx hE
 | true=>
  obtain⟨o,ho,hc,hd⟩:=id hit;obtain⟨ol,hol,_,nl,hdl⟩:=hl;have hT:s.TypeIs (.ref it) "tuple_iterator":=⟨o,ho,hc⟩;unfold Builtin.SmallTypes.nextOf;refine xc (vv (name:=Str.ofString "__next__") hT yR (xK yR hT F.entry_tuple_iterator_next ?_ (F.args_tuple_iterator_next_1 _)));refine(show wpAny _ _ (field (.ref it) 0 >>= _) _ _ s from xc (vD ho hd (x:=.ref l) rfl (show wpAny _ _ (if(Value.ref l == Value.none)=true then _ else _) _ _ s from ?_)));rw[xg (show ¬ ((Value.ref l == Value.none)=true)from vB)];refine(show wpAny _ _ (field (.ref it) 1 >>= _) _ _ s from xc (vD ho hd (x:=.int i 0) rfl (show wpAny _ _ (seqItems? (.ref l) >>= _) _ _ s from xc (uP hol hdl ?_))));simp only[vw,hx];refine xc (vt (xc (uy ho hd (by simp) (show wpAny _ _ (newExc (.type "StopIteration") [] >>= _) _ _ _ from xc ?_))));simp only[newExc,newTuple];refine xc (xW (xc (m:=firstArgMember _ _) (uU (a:=Value.none) (by first|rfl|(simp only[firstArgMember];rfl)) (xW ?_ (by size_fits)))) (by size_fits));simp only[raiseNew];refine xc (wpAny_handled ?_);rw[show A.in1.handled=none from hh];refine xc (xh (wpAny_throw ?_));exact hE _ _ (((vS ..).extBut.push _).push _) ⟨_,xy _ rfl,rfl⟩
end
noncomputable abbrev itO (b:Bool) (l:Addr):Obj:={ cls:=.type (if b then "tuple_iterator" else "list_iterator"),data:=.fields #[.ref l,.int 0 0] }
section
variable {prog:Program}{w:World}{A:Around}{E:Value->Shared->Prop}{s:Shared}
def zM0{Q:Value->Shared->Prop}(q:KSq b s.heap l xs)(h:Q (.ref s.heap.objs.size) { s with heap:=s.heap.push (itO b l) }):wpAny (model prog w) A (pyIter (.ref l)) Q E s:=by
 cases b with
 | false=>exact uR q h
 | true=>exact wpAny_pyIter_tuple q h
end
end TS
namespace L2
open PySem PySem.Spec PyProof.Rows TS
def hoK(b:Bool)(xs:List V):HO:=if b then .tup xs else .lst xs
def Inv.kSq{H:Hp}{s:Shared}{xs:List V}(I:Inv X pins σ H s)(h:H a=some (hoK b xs)):∃its:List Value,Vals xs its/\KSq b s.heap a its.toArray/\xs.length<=sizeLine:=by
 cases b with
 | false=>obtain⟨its,r,p,z⟩:=I.list (SqL.of h);exact⟨its,r,p.isList,z⟩
 | true=>obtain⟨its,r,p,z⟩:=I.tuple (SqT.of h);exact⟨its,r,p,z⟩
section
variable {A:TA}{σ σc:St}{H:Hp}{g:TG}{tt:TT}{te:TE}{Qd:List V->Hp->Prop}
def zXx(h:hoK b xs=hoK b ys):xs=ys:=by
 cases b with
 | false=>exact HO.lst.inj h
 | true=>exact HO.tup.inj h
end
section
variable {X:Cx}{K:PySem.W.Frag}
noncomputable def Its (x:Str):It:=⟨λi _=>i<x.cps.size,λi H v H'=>H'=H/\∃c,x.cps[i]?=some c/\v=.str ⟨#[c]⟩,λi _=>x.cps.size<=i⟩
def zRo(it:Addr)(x:Str)(t:Tok):Turn P w K tg (Its x) [it] it (λi h=>i<=x.cps.size/\h.IsStrIter it "str_ascii_iterator" x t i) where
 mem:=by simp
 obj:=λi h st b hb=>by
  have e:b=it:=by simpa using hb
  subst e;obtain⟨_,o,e,c,d⟩:=st;exact⟨o,e,λv z=>by rw[d]at z;cases z⟩
 keep:=λi h h' st k=>⟨st.1,let ⟨o,ho,r⟩:=st.2;⟨o,k it (by simp) o ho,r⟩⟩
 item:=by
  intro X hP hw hK hc i pins s σ H E I hf st hg;subst hP hw hK;obtain⟨f0,f1,f2,f3,f4,f5⟩:=hf it (by simp);have hg:i<x.cps.size:=hg;refine wpAny_pyNext_ascii_item st.2 (c:=x.cps[i]) (by simp[hg]) λh' st' sb=>?_
  have I1:Inv X pins σ H { s with heap:=h',toks:=s.toks+1 }:=I.turned (t':=s.toks+1) (λb o hb e=>(sb.2 b hb).trans e) f0 f1 f3 f4 f5;obtain⟨o,e,c,d⟩:=id st';exact⟨_,rfl,zQ7 (s:={ s with heap:=h',toks:=s.toks+1 }) e c d (by decide) ⟨.str ⟨#[x.cps[i]]⟩,H,I1,⟨_,rfl⟩,⟨rfl,_,by simp[hg],rfl⟩,⟨hg,st'⟩,λb hb=>(hf b hb).1⟩⟩
 done:=by intro X hP hw hK hc i pins s σ H E I hf st hg;subst hP hw hK;obtain⟨f0,f1,f2,f3,f4,f5⟩:=hf it (by simp);have hg:x.cps.size<=i:=hg;exact wpAny_pyNext_ascii_end (I.ok.hd hc) st.2 (by simp[hg]) λh' eb=>⟨rfl,I.turned (t':=s.toks) (λb o hb e=>eb b o hb e) f0 f1 f3 f4 f5⟩
 self:=λ_ _ _ _ _ st h=>wpAny_pyIter_striter_ascii st.2 h
end
end L2
namespace DS
open PySem (Str)
inductive D where
 | non|bl (b:Bool)|int (i:Int)|str (x:Str)|ty (n:String)
 | tup (l:List D)|ktup (l:List D)|lst (l:List D)|klst (l:List D)|dct (t:Bool) (ks vs:List D)|st (l:List D)
 | ref (n:Nat)
abbrev Store:=List D
abbrev Env:=List (Option D)
structure Exn where
 cls:Str
 fs:List (Str × D)
inductive Rs (α:Type) where
 | ok (a:α) (S:Store)|ex (x:Exn) (S:Store)|bad
inductive SR where
 | nx (e:Env) (S:Store)|rt (d:D) (S:Store)|bk (e:Env) (S:Store)|ct (e:Env) (S:Store)|ex (x:Exn) (S:Store)|bad
noncomputable def Rs.bind {α β:Type}(r:Rs α) (k:α->Store->Rs β):Rs β:=match r with
 | .ok a S=>k a S
 | .ex x S=>.ex x S
 | .bad=>.bad
@[simp] theorem Rs.bind_ok {α β:Type}{a:α}{S:Store}{k:α->Store->Rs β}:(Rs.ok a S).bind k=k a S:=rfl
@[simp] theorem Rs.bind_ex {α β:Type}{x:Exn}{S:Store}{k:α->Store->Rs β}:(Rs.ex x S:Rs α).bind k=.ex x S:=rfl
@[simp] theorem Rs.bind_bad {α β:Type}{k:α->Store->Rs β}:(Rs.bad:Rs α).bind k=.bad:=rfl
noncomputable def Rs.then {α:Type}(r:Rs α) (k:α->Store->SR):SR:=match r with
 | .ok a S=>k a S
 | .ex x S=>.ex x S
 | .bad=>.bad
@[simp] theorem Rs.then_ok {α:Type}{a:α}{S:Store}{k:α->Store->SR}:(Rs.ok a S).then k=k a S:=rfl
@[simp] theorem Rs.then_ex {α:Type}{x:Exn}{S:Store}{k:α->Store->SR}:(Rs.ex x S:Rs α).then k=.ex x S:=rfl
@[simp] theorem Rs.then_bad {α:Type}{k:α->Store->SR}:(Rs.bad:Rs α).then k=.bad:=rfl
noncomputable def lift {α:Type}(o:Option α) (S:Store):Rs α:=match o with
 | some a=>.ok a S
 | none=>.bad
@[simp] theorem zAk {α:Type}{a:α}{S:Store}:lift (some a) S=.ok a S:=rfl
@[simp] theorem yB8 {α:Type}{S:Store}:lift (none:Option α) S=.bad:=rfl
noncomputable def zXi {α:Type}(o:Option (α × Store)):Rs α:=match o with
 | some a=>.ok a.1 a.2
 | none=>.bad
@[simp] theorem zH9 {α:Type}{a:α × Store}:zXi (some a)=.ok a.1 a.2:=rfl
@[simp] theorem zZ5 {α:Type}:zXi (none:Option (α × Store))=.bad:=rfl
mutual
/-- all refs are below n -/
def D.low(n:Nat):D->Bool
 | .ref m=>decide (m<n)
 | .tup l=>lowL n l
 | .lst l=>lowL n l
 | .ktup l=>lowL n l
 | .klst l=>lowL n l
 | .dct _ ks vs=>lowL n ks && lowL n vs
 | .st l=>lowL n l
 | .non=>true
 | .bl _=>true
 | .int _=>true
 | .str _=>true
 | .ty _=>true
def lowL(n:Nat):List D->Bool
 | []=>true
 | d::r=>d.low n && lowL n r
end
section
open Classical
noncomputable def look (S:Store):D->Option D
 | .ref n=>S[n]?
 | .ktup l=>some (.tup l)
 | .klst l=>some (.lst l)
 | d=>some d
noncomputable def items (S:Store) (d:D):Option (List D):=match look S d with
 | some (.tup l)=>some l
 | some (.lst l)=>some l
 | _=>none
noncomputable def litems (S:Store) (d:D):Option (List D):=match d with
 | .klst _=>none
 | d=>match look S d with
  | some (.lst l)=>some l
  | _=>none
abbrev EM:=Env->Store->Rs D
abbrev TM:=Env->Store->Rs Bool
abbrev AM:=Env->Store->Rs (List D)
abbrev SM:=Env->Store->SR
abbrev GM:=Store->D->Env->Option Env
abbrev Fn:=List D->Store->Rs D
noncomputable def eVar (i:Nat):EM:=λenv S=>match env[i]? with
 | some (some d)=>.ok d S
 | _=>.bad
def eC(d:D):EM:=λ_ S=>.ok d S
noncomputable def eOp (g:Store->D->D->Option D) (a b:EM):EM:=λenv S=>(a env S).bind λx S1=>(b env S1).bind λy S2=>lift (g S2 x y) S2
noncomputable def eUn (g:Store->D->Option D) (a:EM):EM:=λenv S=>(a env S).bind λx S1=>lift (g S1 x) S1
def aNil:AM:=λ_ S=>.ok [] S
noncomputable def zA0 (a:EM) (r:AM):AM:=λenv S=>(a env S).bind λx S1=>(r env S1).bind λxs S2=>.ok (x::xs) S2
def eTup(a:AM):EM:=λenv S=>(a env S).bind λxs S1=>.ok (.tup xs) S1
def eLst(a:AM):EM:=λenv S=>(a env S).bind λxs S1=>.ok (.lst xs) S1
def eDct(t:Bool):EM:=λ_ S=>.ok (.dct t [] []) S
noncomputable def zTo (ks:List D) (a:AM):EM:=λenv S=>(a env (S++[.dct false [] []])).bind λvs S1=>if S1[S.length]?=some (.dct false [] [])then .ok (.ref S.length) (S1.set S.length (.dct false ks vs))else .bad
noncomputable def eNew (a:EM):EM:=λenv S=>(a env S).bind λx S1=>.ok (.ref S1.length) (S1++[x])
noncomputable def eCB (g:Store->List D->Option D) (a:AM):EM:=λenv S=>(a env S).bind λxs S1=>lift (g S1 xs) S1
def zAc(F:Fn)(a:AM):EM:=λenv S=>(a env S).bind λxs S1=>F xs S1
noncomputable def tyD (S:Store) (d:D):Option String:=match look S d with
 | some (.str _)=>some "str"
 | some (.lst _)=>some "list"
 | some (.dct _ _ _)=>some "dict"
 | some (.tup _)=>some "tuple"
 | some (.int _)=>some "int"
 | some (.bl _)=>some "bool"
 | some .non=>some "NoneType"
 | some (.st _)=>some "set"
 | _=>none
noncomputable def eMt (T:String) (g:Store->D->List D->Option (D × Store)) (o:EM) (a:AM):EM:=λenv S=>(o env S).bind λx S1=>if tyD S1 x=some T then(a env S1).bind λxs S2=>zXi (g S2 x xs)else .bad
def asI:D->Option Int
 | .int i=>some i
 | _=>none
def pNo:Env->Store->Rs (Option Int):=λ_ S=>.ok none S
noncomputable def pYes (a:EM):Env->Store->Rs (Option Int):=λenv S=>(a env S).bind λx S1=>lift ((asI x).map some) S1
noncomputable def eSl (g:Store->D->Option Int->Option Int->Option D) (a:EM) (lo hi:Env->Store->Rs (Option Int)):EM:=λenv S=>
 (a env S).bind λx S1=>(lo env S1).bind λl S2=>(hi env S2).bind λh S3=>lift (g S3 x l h) S3
def asB:D->Option Bool
 | .bl b=>some b
 | _=>none
def tB(a:EM):TM:=λenv S=>(a env S).bind λx S1=>lift (asB x) S1
def most:Nat:=2 ^ 24
noncomputable def truth (S:Store) (d:D):Option Bool:=match look S d with
 | some (.bl b)=>some b
 | some (.int i)=>some (decide (i≠0))
 | some (.str x)=>if x.length<=most then some (decide (x.length≠0))else none
 | some (.tup l)=>some (decide (l≠[]))
 | some (.lst l)=>some (decide (l≠[]))
 | some .non=>some false
 | _=>none
noncomputable def tTru (a:EM):TM:=λenv S=>(a env S).bind λx S1=>lift (truth S1 x) S1
noncomputable def tAnd (a b:TM):TM:=λenv S=>(a env S).bind λc S1=>if c=true then b env S1 else .ok false S1
noncomputable def tOr (a b:TM):TM:=λenv S=>(a env S).bind λc S1=>if c=true then .ok true S1 else b env S1
def tNot(a:TM):TM:=λenv S=>(a env S).bind λc S1=>.ok (!c) S1
def tYes:TM:=λ_ S=>.ok true S
noncomputable def eAnd (a b:EM):EM:=λenv S=>(a env S).bind λx S1=>(lift (asB x) S1).bind λc S1=>if c=true then b env S1 else .ok (.bl false) S1
noncomputable def eOr (a b:EM):EM:=λenv S=>(a env S).bind λx S1=>(lift (asB x) S1).bind λc S1=>if c=true then .ok (.bl true) S1 else b env S1
noncomputable def eNot (a:EM):EM:=λenv S=>(a env S).bind λx S1=>(lift (asB x) S1).bind λc S1=>.ok (.bl (!c)) S1
noncomputable def eIf (c:TM) (a b:EM):EM:=λenv S=>(c env S).bind λk S1=>if k=true then a env S1 else b env S1
structure Walk where
 its:List D
 gd:List (Nat × D)
def gOk(S:Store)(gd:List (Nat × D)):Prop:=∀p∈gd,S[p.1]?=some p.2
abbrev IM:=Env->Store->Rs Walk
noncomputable def gdOf (S:Store):D->List (Nat × D)
 | .ref n=>match S[n]? with
  | some d=>[(n,d)]
  | none=>[]
 | _=>[]
def chars(x:Str):List D:=x.cps.toList.map λc=>.str ⟨#[c]⟩
noncomputable def zDe (S:Store) (d:D):Option Walk:=match look S d with
 | some (.tup l)=>some ⟨l,gdOf S d⟩
 | some (.lst l)=>some ⟨l,gdOf S d⟩
 | some (.str x)=>if x.cps.all (·<128)then some ⟨chars x,[]⟩else none
 | _=>none
def iVal(a:EM):IM:=λenv S=>(a env S).bind λx S1=>lift (zDe S1 x) S1
def fits62(i:Int):Bool:=decide (-(2 ^ 62)<=i/\i<2 ^ 62)
noncomputable def zCr (i j:Int):List D:=(List.range (j-i).toNat).map fun(k:Nat)=>.int (i+k)
noncomputable def zF0:List D->Option Walk
 | [.int j]=>if fits62 j then some ⟨zCr 0 j,[]⟩else none
 | [.int i,.int j]=>if fits62 i && fits62 j then some ⟨zCr i j,[]⟩else none
 | _=>none
def zBt(a:AM):IM:=λenv S=>(a env S).bind λxs S1=>lift (zF0 xs) S1
noncomputable def zFn (l:List D) (n:Nat):List D:=match l with
 | []=>[]
 | d::r=>.tup [.int n,d]::zFn r (n+1)
def gName(i:Nat):GM:=λ_ d env=>some (env.set i (some d))
noncomputable def gAll:List GM->Store->List D->Env->Option Env
 | [],_,[],env=>some env
 | g::gs,S,d::ds,env=>match g S d env with
  | some env'=>gAll gs S ds env'
  | none=>none
 | _,_,_,_=>none
noncomputable def gTup (gs:List GM):GM:=λS d env=>match items S d with
 | some l=>gAll gs S l env
 | none=>none
noncomputable def zCy (gd:List (Nat × D)) (g:GM) (c:TM) (e:EM):Nat->List D->Env->Store->Rs (List D)
 | _,[],_,S=>if gOk S gd then .ok [] S else .bad
 | k,d::r,env,S=>if gOk S gd/\k<most then(match g S d env with
  | some env'=>(c env' S).bind λb S1=>if b=true then(e env' S1).bind λv S2=>(zCy gd g c e (k+1) r env' S2).bind λvs S3=>.ok (v::vs) S3 else zCy gd g c e k r env' S1
  | none=>.bad)else .bad
noncomputable def compEnv (own:Nat) (ix:List Nat) (env:Env):Env:=List.replicate own none++ix.map λi=>(env[i]?).join
noncomputable def zAn (own:Nat) (ix:List Nat) (i:IM) (g:GM) (c:TM) (e:EM):EM:=λenv S=>
 (i env S).bind λw S1=>(zCy w.gd g c e 0 w.its (compEnv own ix env) S1).bind λvs S2=>.ok (.lst vs) S2
def zBs:SM:=λenv S=>.nx env S
noncomputable def sSeq (a b:SM):SM:=λenv S=>match a env S with
 | .nx e S1=>b e S1
 | r=>r
noncomputable def sSet (i:Nat) (e:EM):SM:=λenv S=>(e env S).then λd S1=>.nx (env.set i (some d)) S1
noncomputable def sUnp (g:GM) (e:EM):SM:=λenv S=>(e env S).then λd S1=>match g S1 d env with
 | some env'=>.nx env' S1
 | none=>.bad
def zFm(e:EM):SM:=λenv S=>(e env S).then λ_ S1=>.nx env S1
def sRet(e:EM):SM:=λenv S=>(e env S).then λd S1=>.rt d S1
def yCn:SM:=λ_ S=>.rt .non S
noncomputable def sIf (c:TM) (a b:SM):SM:=λenv S=>(c env S).then λk S1=>if k=true then a env S1 else b env S1
noncomputable def zOd:List Nat->List D->Env->Option Env
 | [],[],env=>some env
 | i::is,d::ds,env=>zOd is ds (env.set i (some d))
 | _,_,_=>none
noncomputable def sPar (is:List Nat) (a:AM):SM:=λenv S=>(a env S).then λds S1=>match zOd is ds env with
 | some env'=>.nx env' S1
 | none=>.bad
noncomputable def sPut (g:Store->D->D->D->Option Store) (o i v:EM):SM:=λenv S=>(v env S).then λy S1=>(o env S1).then λx S2=>(i env S2).then λk S3=>match g S3 x k y with
 | some S4=>.nx env S4
 | none=>.bad
noncomputable def forL (gd:List (Nat × D)) (g:GM) (b:SM):List D->Env->Store->SR
 | [],env,S=>if gOk S gd then .nx env S else .bad
 | d::r,env,S=>if gOk S gd then(match g S d env with
  | some env'=>(match b env' S with
   | .nx e S1=>forL gd g b r e S1
   | .ct e S1=>forL gd g b r e S1
   | .bk e S1=>.nx e S1
   | q=>q)
  | none=>.bad)else .bad
noncomputable def sFor (i:IM) (g:GM) (b:SM):SM:=λenv S=>(i env S).then λw S1=>forL w.gd g b w.its env S1
noncomputable def zBb (c:TM) (b:SM):Nat->Env->Store->SR
 | 0,_,_=>.bad
 | n+1,env,S=>(c env S).then λk S1=>if k=true then(match b env S1 with
   | .nx e S2=>zBb c b n e S2
   | .ct e S2=>zBb c b n e S2
   | .bk e S2=>.nx e S2
   | q=>q)else .nx env S1
noncomputable def zE1 (c:TM) (b:SM):SM:=λenv S=>if h:∃n,zBb c b n env S≠.bad then zBb c b (choose h) env S else .bad
def zD4 :∀{n:Nat}{env:Env}{S:Store},zBb c b n env S≠.bad->∀m,n<=m->zBb c b m env S=zBb c b n env S
 | 0,_,_,h,_,_=>absurd rfl h
 | n+1,env,S,h,m,hm=>by
  obtain⟨m,rfl⟩:∃k,m=k+1:=⟨m-1,by nofun⟩
  unfold zBb at h ⊢;cases hc:c env S with
  | ok k S1=>
   rw[hc]at h;simp only[Rs.then_ok]at h ⊢;by_cases hk:k=true
   ·rw[xf hk]at h ⊢;rw[xf hk];cases hb:b env S1 with
    | nx e S2=>rw[hb]at h;exact zD4 h m (by nofun)
    | ct e S2=>rw[hb]at h;exact zD4 h m (by nofun)
    | _=>rfl
   ·rw[xg hk,xg hk]
  | ex x S1=>rfl
  | bad=>rfl
def zJa(h:zBb c b n env S≠.bad):zE1 c b env S=zBb c b n env S:=by
 unfold zE1;have hx:∃n,zBb c b n env S≠.bad:=⟨n,h⟩
 rw[dif_pos hx];have h1:=choose_spec hx;rw[<- zD4 h1 (max (choose hx) n) (Nat.le_max_left _ _),<- zD4 h (max (choose hx) n) (Nat.le_max_right _ _)]
def keeps(n:Nat):Store->Store->Prop
 | [],_=>True
 | a::r,b::t=>(a=b\/b.low n=true)/\keeps n r t
 | _::_,[]=>False
noncomputable def fin (S:Store) (d:D) (S':Store):Rs D:=
 if keeps S.length S S' then
  if d.low S.length=true then .ok d (S'.take S.length)
  else match d with
   | .ref n=>match S'[n]? with
    | some c=>if c.low S.length=true then .ok c (S'.take S.length)else .ok d S'
    | none=>.bad
   | _=>.ok d S'
 else .ok d S'
noncomputable def zB9 (np nl:Nat) (b:SM):Fn:=λds S=>if ds.length=np then
  (match b (ds.map some++List.replicate (nl-np) none) S with
  | .nx _ S'=>fin S .non S'
  | .rt d S'=>fin S d S'
  | .ex x S'=>.ex x S'
  | _=>.bad)
 else .bad
noncomputable def zIx (np nl:Nat) (b:SM):Fn:=λds S=>if ds.length=np then
  (match b (ds.map some++List.replicate (nl-np) none) S with
  | .nx _ S'=>.ok .non S'
  | .rt d S'=>.ok d S'
  | .ex x S'=>.ex x S'
  | _=>.bad)
 else .bad
end
end DS
namespace L2
open PySem PySem.Spec PyProof.Rows
open DS (D Store Exn Rs SR)
abbrev Js:=List Addr
def TAt(K:PySem.W.Frag)(J:Js)(H:Hp)(a:Addr)(xs:List V):Prop:=H a=some (.tup xs)/\a ∉ J
def KAt(K:PySem.W.Frag)(a:Addr)(xs:List V):Prop:=∃(o:Obj) (its:Array Value) (n:Nat),K.lookup a=some o/\o.cls=.type "tuple"/\o.data=.seq its n/\its.size<=sizeLine/\Vals xs its.toList
def LAt(K:PySem.W.Frag)(J:Js)(H:Hp)(a:Addr)(xs:List V):Prop:=H a=some (.lst xs)/\a ∉ J
def SAt(K:PySem.W.Frag)(J:Js)(H:Hp)(a:Addr)(xs:List V):Prop:=
 (Rd H a (.lst xs)/\a ∉ J)\/∃(o:Obj) (its:Array Value) (n:Nat),K.lookup a=some o/\o.cls=.type "list"/\o.dict=none/\o.data=.seq its n/\its.size<=sizeLine/\Vals xs its.toList
def keyD:Key->D
 | .inl i=>.int i
 | .inr x=>.str x
def zD5(k:List Key):D:=.tup (k.map keyD)
def DOb(o:HO)(t:Bool)(ks:List D)(xs:List V):Prop:=
 (t=false/\∃kvs:List (Key × V),o=.dK kvs/\ks=kvs.map (λp=>keyD p.1)/\xs=kvs.map (·.2)) \/
  (t=true/\∃kvs:List (List Key × V),o=.dT kvs/\ks=kvs.map (λp=>zD5 p.1)/\xs=kvs.map (·.2))
mutual
def Rep(K:PySem.W.Frag)(J:Js)(H:Hp):D->V->Prop
 | .non,v=>v=.non
 | .bl b,v=>v=.bl b
 | .int i,v=>v=.int i
 | .str x,v=>v=.str x
 | .ty n,v=>v=.ty n
 | .tup ds,v=>∃a xs,v=.ref a/\TAt K J H a xs/\RepL K J H ds xs
 | .lst ds,v=>∃a xs,v=.ref a/\LAt K J H a xs/\RepL K J H ds xs
 | .ktup ds,v=>∃a xs,v=.ref a/\KAt K a xs/\RepL K J H ds xs
 | .klst ds,v=>∃a xs,v=.ref a/\SAt K J H a xs/\RepL K J H ds xs
 | .dct t ks vs,v=>∃a o xs,v=.ref a/\a ∉ J/\Rd H a o/\DOb o t ks xs/\RepL K J H vs xs
 | .st _,_=>False
 | .ref n,v=>∃a,J[n]?=some a/\v=.ref a
def RepL(K:PySem.W.Frag)(J:Js)(H:Hp):List D->List V->Prop
 | [],xs=>xs=[]
 | d::ds,xs=>∃x r,xs=x::r/\Rep K J H d x/\RepL K J H ds r
end
def ObD(K:PySem.W.Frag)(J:Js)(H:Hp):D->HO->Prop
 | .lst ds,o=>∃xs,o=.lst xs/\RepL K J H ds xs
 | .dct t ks vs,o=>∃xs,DOb o t ks xs/\RepL K J H vs xs
 | _,_=>False
def RepO(K:PySem.W.Frag)(J:Js)(H:Hp)(d:D)(a:Addr):Prop:=∃o,H a=some o/\ObD K J H d o
structure AbS (K:PySem.W.Frag) (J:Js) (S:Store) (H:Hp):Prop where
 len:J.length=S.length
 nd:J.Nodup
 ob:∀(i:Nat) (a:Addr) (d:D),J[i]?=some a->S[i]?=some d->RepO K J H d a
def Fz(o:HO)(x:Option HO):Prop:=x=some o\/((∃kvs,o=.dT kvs)/\∃ob,x=some (.frz ob o))
def Fz.tup(h:Fz (.tup xs) x):x=some (.tup xs):=by
 rcases h with h|⟨⟨_,z⟩,_⟩
 ·exact h
 ·cases z
def Fz.lst(h:Fz (.lst xs) x):x=some (.lst xs):=by
 rcases h with h|⟨⟨_,z⟩,_⟩
 ·exact h
 ·cases z
def Fz.frz(h:Fz (.frz ob u) x):x=some (.frz ob u):=by
 rcases h with h|⟨⟨_,z⟩,_⟩
 ·exact h
 ·cases z
structure Grow (J:Js) (H:Hp) (J':Js) (H':Hp):Prop where
 pre:∀(i:Nat) (a:Addr),J[i]?=some a->J'[i]?=some a
 new:∀a∈J',a ∉ J->H a=none
 keep:∀b o,b ∉ J->H b=some o->Fz o (H' b)
 dom:∀b,H' b=none->H b=none
structure RepE (K:PySem.W.Frag) (J:Js) (H:Hp) (env:DS.Env) (σ:St):Prop where
 len:env.length=σ.length
 get:∀(i:Nat) (d:D),env[i]?=some (some d)->∃v,σ[i]?=some (some v)/\Rep K J H d v
section
variable {K:PySem.W.Frag}{J J' J1 J2:Js}{H H' H1 H2:Hp}{a:Addr}{d:D}{v:V}{S S':Store}{env:DS.Env}{σ:St}
def Grow.refl:Grow J H J H:=⟨λ_ _ h=>h,λ_ h n=>absurd h n,λ_ _ _ h=>.inl h,λ_ h=>h⟩
def Grow.trans(g:Grow J H J1 H1)(k:Grow J1 H1 J2 H2):Grow J H J2 H2 where
 pre:=λi a h=>k.pre i a (g.pre i a h)
 new:=λa h n=>by
  by_cases z:a∈J1
  ·exact g.new a z n
  ·exact g.dom a (k.new a h z)
 keep:=λb o n h=>by
  have n1:b ∉ J1:=λz=>by rw[g.new b z n]at h;cases h
  rcases g.keep b o n h with e|⟨z,ob,e⟩
  ·exact k.keep b o n1 e
  ·exact .inr ⟨z,ob,(k.keep b _ n1 e).frz⟩
 dom:=λb h=>g.dom b (k.dom b h)
def Grow.out(g:Grow J H J' H')(n:a ∉ J)(h:H a=some o):a ∉ J':=λz=>by rw[g.new a z n]at h;cases h
def Grow.rd(g:Grow J H J' H')(n:a ∉ J)(h:Rd H a u):Rd H' a u/\a ∉ J':=by
 rcases h with h|⟨o,h⟩
 ·refine⟨?_,g.out n h⟩;rcases g.keep _ _ n h with e|⟨_,ob,e⟩
  ·exact .inl e
  ·exact .inr ⟨ob,e⟩
 ·exact⟨.inr ⟨o,(g.keep _ _ n h).frz⟩,g.out n h⟩
def TAt.sq(h:TAt K J H a xs):SqT K H a xs:=.inl (.inl h.1)
def KAt.sq(h:KAt K a xs):SqT K H a xs:=.inr h
def LAt.sq(h:LAt K J H a xs):SqL K H a xs:=.inl (.inl h.1)
def SAt.sq(h:SAt K J H a xs):SqL K H a xs:=by
 rcases h with h|h
 ·exact .inl h.1
 ·exact .inr h
def SAt.grow(g:Grow J H J' H')(h:SAt K J H a xs):SAt K J' H' a xs:=by
 rcases h with h|h
 ·exact .inl (g.rd h.2 h.1)
 ·exact .inr h
def TAt.grow(g:Grow J H J' H')(h:TAt K J H a xs):TAt K J' H' a xs:=⟨(g.keep _ _ h.2 h.1).tup,g.out h.2 h.1⟩
def LAt.grow(g:Grow J H J' H')(h:LAt K J H a xs):LAt K J' H' a xs:=⟨(g.keep _ _ h.2 h.1).lst,g.out h.2 h.1⟩
mutual
def Rep.grow(g:Grow J H J' H'):∀(d:D) (v:V),Rep K J H d v->Rep K J' H' d v
 | .non,_,h=>h
 | .bl _,_,h=>h
 | .int _,_,h=>h
 | .str _,_,h=>h
 | .ty _,_,h=>h
 | .tup ds,v,⟨a,xs,e,t,r⟩=>⟨a,xs,e,t.grow g,RepL.grow g ds xs r⟩
 | .lst ds,v,⟨a,xs,e,t,r⟩=>⟨a,xs,e,t.grow g,RepL.grow g ds xs r⟩
 | .ktup ds,v,⟨a,xs,e,t,r⟩=>⟨a,xs,e,t,RepL.grow g ds xs r⟩
 | .klst ds,v,⟨a,xs,e,t,r⟩=>⟨a,xs,e,t.grow g,RepL.grow g ds xs r⟩
 | .dct _ ks vs,v,⟨a,o,xs,e,n,h,t,r⟩=>⟨a,o,xs,e,(g.rd n h).2,(g.rd n h).1,t,RepL.grow g vs xs r⟩
 | .st _,_,h=>h
 | .ref n,v,⟨a,e,h⟩=>⟨a,g.pre n a e,h⟩
def RepL.grow(g:Grow J H J' H'):∀(ds:List D) (xs:List V),RepL K J H ds xs->RepL K J' H' ds xs
 | [],_,h=>h
 | d::ds,xs,⟨x,r,e,h,t⟩=>⟨x,r,e,Rep.grow g d x h,RepL.grow g ds r t⟩
end
def RepE.grow(g:Grow J H J' H')(h:RepE K J H env σ):RepE K J' H' env σ:=⟨h.len,λi d e=>by
 obtain⟨v,q,r⟩:=h.get i d e;exact⟨v,q,Rep.grow g d v r⟩⟩
def RepL.length:∀{ds:List D}{xs:List V},RepL K J H ds xs->ds.length=xs.length
 | [],_,h=>by cases h;rfl
 | _::ds,_,⟨x,r,e,_,t⟩=>by subst e;simp[RepL.length t]
def RepL.get:∀{ds:List D}{xs:List V}{i:Nat}{d:D},RepL K J H ds xs->ds[i]?=some d->∃x,xs[i]?=some x/\Rep K J H d x
 | [],_,_,_,_,e=>by simp at e
 | d::ds,_,0,_,⟨x,r,e,h,t⟩,q=>by subst e;simp at q;subst q;exact⟨x,rfl,h⟩
 | _::ds,_,i+1,d,⟨x,r,e,_,t⟩,q=>by subst e;exact RepL.get (i:=i) t (by simpa using q)
def RepL.get'{i:Nat}(h:RepL K J H ds xs)(e:xs[i]?=some x):∃d,ds[i]?=some d/\Rep K J H d x:=by
 have hl:=h.length;have hi:i<ds.length:=by rw[hl];exact(xO.mp e).1
 obtain⟨y,ey,r⟩:=h.get (xG hi);rw[e]at ey;cases ey;exact⟨_,xG hi,r⟩
def RepL.append:∀{ds es:List D}{xs ys:List V},RepL K J H ds xs->RepL K J H es ys->RepL K J H (ds++es) (xs++ys)
 | [],_,_,_,h,k=>by cases h;exact k
 | d::ds,_,_,_,⟨x,r,e,h,t⟩,k=>by subst e;exact⟨x,_,rfl,h,t.append k⟩
def RepL.snoc(h:RepL K J H ds xs)(r:Rep K J H d x):RepL K J H (ds++[d]) (xs++[x]):=h.append ⟨x,[],rfl,r,rfl⟩
def RepL.take:∀{ds:List D}{xs:List V}(n:Nat),RepL K J H ds xs->RepL K J H (ds.take n) (xs.take n)
 | _,_,0,_=>rfl
 | [],_,_+1,h=>by cases h;rfl
 | d::ds,_,n+1,⟨x,r,e,h,t⟩=>by subst e;exact⟨x,_,rfl,h,t.take n⟩
def RepL.drop:∀{ds:List D}{xs:List V}(n:Nat),RepL K J H ds xs->RepL K J H (ds.drop n) (xs.drop n)
 | _,_,0,h=>h
 | [],_,_+1,h=>by cases h;rfl
 | d::ds,_,n+1,⟨x,r,e,h,t⟩=>by subst e;exact t.drop n
def RepL.reverse:∀{ds:List D}{xs:List V},RepL K J H ds xs->RepL K J H ds.reverse xs.reverse
 | [],_,h=>by cases h;rfl
 | d::ds,_,⟨x,r,e,h,t⟩=>by subst e;rw[List.reverse_cons,List.reverse_cons];exact t.reverse.snoc h
def RepL.set:∀{ds:List D}{xs:List V}{x:V}(n:Nat),RepL K J H ds xs->Rep K J H d x->RepL K J H (ds.set n d) (xs.set n x)
 | [],_,_,_,h,_=>by cases h;rfl
 | _::ds,_,_,0,⟨y,r,e,_,t⟩,k=>by subst e;exact⟨_,_,rfl,k,t⟩
 | _::ds,_,_,n+1,⟨y,r,e,h,t⟩,k=>by subst e;exact⟨_,_,rfl,h,RepL.set n t k⟩
def RepL.dropLast{ds:List D}{xs:List V}(h:RepL K J H ds xs):RepL K J H ds.dropLast xs.dropLast:=by rw[List.dropLast_eq_take,List.dropLast_eq_take,h.length];exact h.take _
def RepL.of{ds:List D}{xs:List V}(hl:ds.length=xs.length)(h:∀(i:Nat) (d:D) (x:V),ds[i]?=some d->xs[i]?=some x->Rep K J H d x):RepL K J H ds xs:=by
 induction ds generalizing xs with
 | nil=>exact uA hl.symm
 | cons d ds ih=>
  cases xs with
  | nil=>simp at hl
  | cons x r=>exact⟨x,r,rfl,h 0 d x rfl rfl,ih (by simpa using hl) λi d' x' e e'=>h (i+1) d' x' (by simpa using e) (by simpa using e')⟩
def RepL.ints:∀{ns:List Int},RepL K J H (ns.map D.int) (ns.map V.int)
 | []=>rfl
 | n::ns=>⟨_,_,rfl,rfl,RepL.ints⟩
def AbS.lt(h:AbS K J S H){n:Nat}(e:J[n]?=some a):n<S.length:=by rw[<- h.len];exact(xO.mp e).1
def AbS.at(h:AbS K J S H){n:Nat}(e:J[n]?=some a):∃d,S[n]?=some d/\RepO K J H d a:=
 ⟨S[n]'(h.lt e),xG (h.lt e),h.ob n a _ e (xG (h.lt e))⟩
def AbS.mem(h:AbS K J S H)(m:a∈J):∃o,H a=some o:=by obtain⟨i,e⟩:=uO.mp m;obtain⟨d,_,o,r,_⟩:=h.at e;exact⟨o,r⟩
def AbS.out(h:AbS K J S H)(n:H a=none):a ∉ J:=λm=>by
 obtain⟨o,e⟩:=h.mem m;rw[n]at e;cases e
def ObD.imp(rl:∀ds xs,RepL K J H ds xs->RepL K J' H' ds xs):∀{d:D},ObD K J H d o->ObD K J' H' d o
 | .lst ds,⟨xs,e,r⟩=>⟨xs,e,rl _ _ r⟩
 | .dct _ ks vs,⟨xs,e,r⟩=>⟨xs,e,rl _ _ r⟩
 | .non,h=>False.elim h
 | .bl _,h=>False.elim h
 | .int _,h=>False.elim h
 | .str _,h=>False.elim h
 | .ty _,h=>False.elim h
 | .tup _,h=>False.elim h
 | .ktup _,h=>False.elim h
 | .klst _,h=>False.elim h
 | .st _,h=>False.elim h
 | .ref _,h=>False.elim h
def ObD.grow(g:Grow J H J' H')(h:ObD K J H d o):ObD K J' H' d o:=h.imp (RepL.grow g)
def Grow.of(k:∀b o,H b=some o->H' b=some o):Grow J H J H':=⟨λ_ _ h=>h,λ_ h n=>absurd h n,λb o _ h=>.inl (k b o h),λb h=>by
 cases e:H b with
 | none=>rfl
 | some o=>rw[k b o e]at h;cases h⟩
def AbS.more(h:AbS K J S H)(k:∀b o,H b=some o->H' b=some o):AbS K J S H':=
 ⟨h.len,h.nd,λi a d e q=>by
  obtain⟨o,eo,r⟩:=h.ob i a d e q;exact⟨o,k _ _ eo,r.grow (.of k)⟩⟩
def zFw(n:H p=none):∀b u,H b=some u->upd H p o b=some u:=λb u e=>by rw[zAi (zAh e n)];exact e
def AbS.push(h:AbS K J S H)(n:H p=none):AbS K J S (upd H p o):=h.more (zFw n)
def Grow.push(n:H p=none):Grow J H J (upd H p o):=.of (zFw n)
def Grow.name(n:H p=none):Grow J H (J++[p]) (upd H p o) where
 pre:=λi a h=>by rw[vh (xO.mp h).1];exact h
 new:=λa h z=>by
  rcases xJ.mp h with h|h
  ·exact absurd h z
  ·rw[xE.mp h];exact n
 keep:=λb u _ e=>.inl (zFw n b u e)
 dom:=(Grow.push (J:=J) n).dom
def AbS.name(h:AbS K J S H)(n:H p=none)(r:ObD K J H d o):AbS K (J++[p]) (S++[d]) (upd H p o):=by
 have hp:p ∉ J:=h.out n;have g:Grow J H (J++[p]) (upd H p o):=.name n;refine⟨by simp[h.len],?_,λi a d' e q=>?_⟩
 ·refine yh.mpr ⟨h.nd,(vJ.mpr ⟨by simp,v8⟩),λx hx y hy=>?_⟩;rintro rfl;exact hp (by rw[<- xE.mp hy];exact hx)
 ·by_cases hi:i<J.length
  ·rw[vh hi]at e;rw[vh (by rw[<- h.len];exact hi)]at q;obtain⟨o',eo,r'⟩:=h.ob i a d' e q;exact⟨o',zFw n _ _ eo,r'.grow g⟩
  ·have hl:i=J.length:=by
    have:=(xO.mp e).1;simp at this;lia
   subst hl;rw[vj (xi _)]at e;rw[vj (by rw[h.len];exact xi _),h.len]at q;simp at e q;subst e q;exact⟨o,zAm,r.grow g⟩
def Grow.write{n:Nat}(e:J[n]?=some a):Grow J H J (upd H a o) where
 pre:=λ_ _ h=>h
 new:=λb h z=>absurd h z
 keep:=λb u z h=>.inl (by rw[zAi (λq=>z (by rw[q];exact uM e))];exact h)
 dom:=λb h=>by
  by_cases q:b=a
  ·subst q;rw[zAm]at h;cases h
  ·rw[zAi q]at h;exact h
def AbS.write{n:Nat}(h:AbS K J S H)(e:J[n]?=some a)(r:ObD K J H d o):AbS K J (S.set n d) (upd H a o):=by
 have g:Grow J H J (upd H a o):=.write e;refine⟨by simp[h.len],h.nd,λi b d' ei q=>?_⟩;by_cases hi:i=n
 ·subst hi;rw[e]at ei;cases ei;rw[vz (h.lt e)]at q;cases q;exact⟨o,zAm,r.grow g⟩
 ·rw[xR (xv hi)]at q;obtain⟨o',eo,r'⟩:=h.ob i b d' ei q;have hb:b≠a:=λz=>by
   subst z;exact hi ((List.getElem?_inj (xO.mp ei).1 h.nd).mp (ei.trans e.symm))
  exact⟨o',by rw[zAi hb];exact eo,r'.grow g⟩
def lowL_iff{n:Nat}:∀{l:List D},DS.lowL n l=true <-> ∀d∈l,d.low n=true
 | []=>⟨(λ_ _ h=>nomatch h),λ_=>rfl⟩
 | d::r=>by
  show(d.low n && DS.lowL n r)=true <-> _;rw[xM,lowL_iff (l:=r)];simp
def zLy(n:Nat)(k:Key):(keyD k).low n=true:=by cases k <;> rfl
def DOb.low(h:DOb o t ks xs):DS.lowL n ks=true:=by
 rcases h with⟨_,kvs,_,rfl,_⟩|⟨_,kvs,_,rfl,_⟩
 ·exact lowL_iff.mpr λd hd=>by obtain⟨p,_,rfl⟩:=xt.mp hd;exact zLy n p.1
 ·exact lowL_iff.mpr λd hd=>by
   obtain⟨p,_,rfl⟩:=xt.mp hd;show DS.lowL n (p.1.map keyD)=true;exact lowL_iff.mpr λd hd=>by obtain⟨q,_,rfl⟩:=xt.mp hd;exact zLy n q
mutual
def Rep.low:∀(d:D) (v:V),Rep K J H d v->d.low J.length=true
 | .non,_,_=>rfl
 | .bl _,_,_=>rfl
 | .int _,_,_=>rfl
 | .str _,_,_=>rfl
 | .ty _,_,_=>rfl
 | .tup ds,v,⟨a,xs,e,t,r⟩=>RepL.low ds xs r
 | .lst ds,v,⟨a,xs,e,t,r⟩=>RepL.low ds xs r
 | .ktup ds,v,⟨a,xs,e,t,r⟩=>RepL.low ds xs r
 | .klst ds,v,⟨a,xs,e,t,r⟩=>RepL.low ds xs r
 | .dct _ ks vs,v,⟨a,o,xs,e,n,h,t,r⟩=>by
  show(DS.lowL J.length ks && DS.lowL J.length vs)=true;rw[RepL.low vs xs r,Bool.and_true];exact DOb.low t
 | .st _,_,h=>False.elim h
 | .ref n,v,⟨a,e,h⟩=>xx (xO.mp e).1
def RepL.low:∀(ds:List D) (xs:List V),RepL K J H ds xs->DS.lowL J.length ds=true
 | [],_,_=>rfl
 | d::ds,xs,⟨x,r,e,h,t⟩=>by
  show(d.low J.length && DS.lowL J.length ds)=true;rw[Rep.low d x h,RepL.low ds r t];rfl
end
def ObD.low :∀{d:D},ObD K J H d o->d.low J.length=true
 | .lst ds,⟨xs,_,r⟩=>RepL.low ds xs r
 | .dct _ ks vs,⟨xs,t,r⟩=>by
  show(DS.lowL J.length ks && DS.lowL J.length vs)=true;rw[RepL.low vs xs r,Bool.and_true];exact DOb.low t
 | .non,h=>False.elim h
 | .bl _,h=>False.elim h
 | .int _,h=>False.elim h
 | .str _,h=>False.elim h
 | .ty _,h=>False.elim h
 | .tup _,h=>False.elim h
 | .ktup _,h=>False.elim h
 | .klst _,h=>False.elim h
 | .st _,h=>False.elim h
 | .ref _,h=>False.elim h
def zDt{n:Nat}(h:a ∉ J):a ∉ J.take n:=λz=>h (List.mem_of_mem_take z)
mutual
def Rep.cut(n:Nat):∀(d:D) (v:V),d.low n=true->Rep K J H d v->Rep K (J.take n) H d v
 | .non,_,_,h=>h
 | .bl _,_,_,h=>h
 | .int _,_,_,h=>h
 | .str _,_,_,h=>h
 | .ty _,_,_,h=>h
 | .tup ds,v,l,⟨a,xs,e,t,r⟩=>⟨a,xs,e,⟨t.1,zDt t.2⟩,RepL.cut n ds xs l r⟩
 | .ktup ds,v,l,⟨a,xs,e,t,r⟩=>⟨a,xs,e,t,RepL.cut n ds xs l r⟩
 | .klst ds,v,l,⟨a,xs,e,t,r⟩=>⟨a,xs,e,by
   rcases t with t|t
   ·exact .inl ⟨t.1,zDt t.2⟩
   ·exact .inr t,RepL.cut n ds xs l r⟩
 | .lst ds,v,l,⟨a,xs,e,t,r⟩=>⟨a,xs,e,⟨t.1,zDt t.2⟩,RepL.cut n ds xs l r⟩
 | .dct _ ks vs,v,l,⟨a,o,xs,e,q,h,t,r⟩=>⟨a,o,xs,e,zDt q,h,t,RepL.cut n vs xs (by
   have l:(DS.lowL n ks && DS.lowL n vs)=true:=l;rw[xM]at l;exact l.2) r⟩
 | .st _,_,_,h=>h
 | .ref m,v,l,⟨a,e,h⟩=>⟨a,by rw[uf (uo l)];exact e,h⟩
def RepL.cut(n:Nat):∀(ds:List D) (xs:List V),DS.lowL n ds=true->RepL K J H ds xs->RepL K (J.take n) H ds xs
 | [],_,_,h=>h
 | d::ds,xs,l,⟨x,r,e,h,t⟩=>by
  have l:(d.low n && DS.lowL n ds)=true:=l;rw[xM]at l;exact⟨x,r,e,Rep.cut n d x l.1 h,RepL.cut n ds r l.2 t⟩
end
def ObD.cut{n:Nat}:∀{d:D},d.low n=true->ObD K J H d o->ObD K (J.take n) H d o
 | .lst ds,l,⟨xs,e,r⟩=>⟨xs,e,RepL.cut n ds xs l r⟩
 | .dct _ ks vs,l,⟨xs,t,r⟩=>⟨xs,t,RepL.cut n vs xs (by
   have l:(DS.lowL n ks && DS.lowL n vs)=true:=l;rw[xM]at l;exact l.2) r⟩
 | .non,_,h=>False.elim h
 | .bl _,_,h=>False.elim h
 | .int _,_,h=>False.elim h
 | .str _,_,h=>False.elim h
 | .ty _,_,h=>False.elim h
 | .tup _,_,h=>False.elim h
 | .ktup _,_,h=>False.elim h
 | .klst _,_,h=>False.elim h
 | .st _,_,h=>False.elim h
 | .ref _,_,h=>False.elim h
def zGe{n:Nat}:∀{S S':Store},DS.keeps n S S'->∀i,i<S.length->∃b,S'[i]?=some b/\(S[i]?=some b\/b.low n=true)
 | [],_,_,i,hi=>by simp at hi
 | a::r,[],h,_,_=>False.elim h
 | a::r,b::t,h,0,_=>⟨b,rfl,by
   rcases h.1 with e|e
   ·subst e;exact .inl rfl
   ·exact .inr e⟩
 | a::r,b::t,h,i+1,hi=>by simpa using zGe h.2 i (by simpa using hi)
def Grow.take(h:AbS K J S H)(g:Grow J H J' H'):J'.take S.length=J:=by
 refine yu λi=>?_
 by_cases hi:i<S.length
 ·rw[uf hi];have hj:i<J.length:=by rw[h.len];exact hi
  rw[xG hj];exact g.pre i _ (xG hj)
 ·rw[vF (by rw[vd];lia),vF (by rw[h.len];lia)]
def Grow.cut(g:Grow J H J' H'):Grow J H J H':=⟨λ_ _ h=>h,λ_ h n=>absurd h n,g.keep,g.dom⟩
def AbS.cut(h:AbS K J S H)(g:Grow J H J' H')(h':AbS K J' S' H')(k:DS.keeps S.length S S'):AbS K J (S'.take S.length) H':=by
 have e:=g.take h;refine⟨?_,h.nd,λi a d ei q=>?_⟩
 ·have l:∀i,i<S.length->i<S'.length:=λi hi=>by
   obtain⟨b,eb,_⟩:=zGe k i hi;exact(xO.mp eb).1
  rw[h.len,vd];by_cases z:S.length=0
  ·lia
  ·have:=l (S.length-1) (by nofun);lia
 ·have hi:=h.lt ei;rw[uf hi]at q;obtain⟨b,eb,lo⟩:=zGe k i hi;rw[q]at eb;cases eb;obtain⟨o,eo,r⟩:=h'.ob i a d (g.pre i a ei) q;have low:d.low S.length=true:=by
   rcases lo with lo|lo
   ·obtain⟨o',_,r'⟩:=h.ob i a d ei lo;have:=r'.low;rw[h.len]at this;exact this
   ·exact lo
  have:=r.cut low;rw[e]at this;exact⟨o,eo,this⟩
def yBz(h:AbS K J S H)(g:Grow J H J' H')(h':AbS K J' S' H')(r:Rep K J' H' d v)(e:DS.fin S d S'=.ok d2 S2):∃J2,AbS K J2 S2 H'/\Grow J H J2 H'/\Rep K J2 H' d2 v:=by
 have ek:=g.take h;unfold DS.fin at e;by_cases k:DS.keeps S.length S S'
 ·rw[xf k]at e;by_cases l:d.low S.length=true
  ·rw[xf l]at e;cases e;refine⟨J,h.cut g h' k,g.cut,?_⟩;have:=Rep.cut _ _ _ l r;rw[ek]at this;exact this
  ·rw[xg l]at e;cases d with
   | ref n=>
    obtain⟨a,ea,rfl⟩:=r;obtain⟨c,ec,o,eo,rc⟩:=h'.at ea;simp only[ec]at e;by_cases lc:c.low S.length=true
    ·rw[xf lc]at e;cases e;refine⟨J,h.cut g h' k,g.cut,?_⟩;have ha:a ∉ J:=λz=>by
      obtain⟨i,ei⟩:=uO.mp z;have hi:=h.lt ei;have e2:=g.pre i a ei;have:i=n:=(List.getElem?_inj (xO.mp e2).1 h'.nd).mp (e2.trans ea.symm);subst this;exact l (xx hi)
     have rc2:=rc.cut lc;rw[ek]at rc2;cases d2 with
     | lst ds=>obtain⟨xs,rfl,rl⟩:=rc2;exact⟨a,xs,rfl,⟨eo,ha⟩,rl⟩
     | dct _ ks vs=>obtain⟨xs,t,rl⟩:=rc2;exact⟨a,o,xs,rfl,ha,.inl eo,t,rl⟩
     | _=>exact False.elim rc2
    ·rw[xg lc]at e;cases e;exact⟨J',h',g,a,ea,rfl⟩
   | _=>cases e;exact⟨J',h',g,r⟩
 ·rw[xg k]at e;cases e;exact⟨J',h',g,r⟩
end
abbrev XE:=Exn->Store->Js->Hp->Prop
def XE0:XE:=λ_ _ _ _=>False
def Post{α:Type}(K:PySem.W.Frag)(E:XE)(J:Js)(H:Hp)(r:Rs α)(P:α->Store->Js->Hp->Prop):Prop:=match r with
 | .ok a S=>∀J' H',AbS K J' S H'->Grow J H J' H'->P a S J' H'
 | .ex x S=>∀J' H',AbS K J' S H'->Grow J H J' H'->E x S J' H'
 | .bad=>False
def PostS(K:PySem.W.Frag)(E:XE)(J:Js)(H:Hp)(r:SR)(D:Ends):Prop:=match r with
 | .nx e S=>∀J' H' σ,AbS K J' S H'->Grow J H J' H'->RepE K J' H' e σ->D.nx σ H'
 | .rt d S=>∀J' H' v,AbS K J' S H'->Grow J H J' H'->Rep K J' H' d v->D.rt v H'
 | .bk e S=>∀J' H' σ,AbS K J' S H'->Grow J H J' H'->RepE K J' H' e σ->D.bk σ H'
 | .ct e S=>∀J' H' σ,AbS K J' S H'->Grow J H J' H'->RepE K J' H' e σ->D.ct σ H'
 | .ex x S=>∀J' H',AbS K J' S H'->Grow J H J' H'->E x S J' H'
 | .bad=>False
section
variable {α β:Type}{K:PySem.W.Frag}{E:XE}{J J1:Js}{H H1:Hp}{S:Store}
def Post.grow{r:Rs α}{P:α->Store->Js->Hp->Prop}(g:Grow J H J1 H1)(h:Post K E J H r P):Post K E J1 H1 r P:=by
 cases r with
 | ok a S=>exact λJ' H' h1 h2=>h J' H' h1 (g.trans h2)
 | ex x S=>exact λJ' H' h1 h2=>h J' H' h1 (g.trans h2)
 | bad=>exact h
def Post.bind{r:Rs α}{k:α->Store->Rs β}{P:β->Store->Js->Hp->Prop}(h:Post K E J H (r.bind k) P):Post K E J H r (λa S J' H'=>Post K E J' H' (k a S) P):=by
 cases r with
 | ok a S=>exact λJ' H' _ g=>Post.grow g h
 | ex x S=>exact h
 | bad=>exact h
def Post.imp{r:Rs α}{P P':α->Store->Js->Hp->Prop}(h:Post K E J H r P)(k:∀a S J' H',r=.ok a S->AbS K J' S H'->Grow J H J' H'->P a S J' H'->P' a S J' H'):Post K E J H r P':=by
 cases r with
 | ok a S=>exact λJ' H' h1 h2=>k a S J' H' rfl h1 h2 (h J' H' h1 h2)
 | ex x S=>exact h
 | bad=>exact h
def Post.map{r:Rs α}{P P':α->Store->Js->Hp->Prop}(h:Post K E J H r P)(k:∀a S J' H',r=.ok a S->AbS K J' S H'->Grow J H J' H'->(∀J2 H2,AbS K J2 S H2->Grow J H J2 H2->P a S J2 H2)->P' a S J' H'):Post K E J H r P':=by
 cases r with
 | ok a S=>exact λJ' H' h1 h2=>k a S J' H' rfl h1 h2 h
 | ex x S=>exact h
 | bad=>exact h
def Post.lift{o:Option α}{P:α->Store->Js->Hp->Prop}(h:Post K E J H (DS.lift o S) P):∃a,o=some a/\∀J' H',AbS K J' S H'->Grow J H J' H'->P a S J' H':=by
 cases o with
 | some a=>exact⟨a,rfl,h⟩
 | none=>exact False.elim h
def PostS.grow{r:SR}{D:Ends}(g:Grow J H J1 H1)(h:PostS K E J H r D):PostS K E J1 H1 r D:=by
 cases r with
 | nx e S=>exact λJ' H' σ h1 h2=>h J' H' σ h1 (g.trans h2)
 | bk e S=>exact λJ' H' σ h1 h2=>h J' H' σ h1 (g.trans h2)
 | ct e S=>exact λJ' H' σ h1 h2=>h J' H' σ h1 (g.trans h2)
 | rt e S=>exact λJ' H' σ h1 h2=>h J' H' σ h1 (g.trans h2)
 | ex x S=>exact λJ' H' h1 h2=>h J' H' h1 (g.trans h2)
 | bad=>exact h
def PostS.then{r:Rs α}{k:α->Store->SR}{D:Ends}(h:PostS K E J H (r.then k) D):Post K E J H r (λa S J' H'=>PostS K E J' H' (k a S) D):=by
 cases r with
 | ok a S=>exact λJ' H' _ g=>PostS.grow g h
 | ex x S=>exact h
 | bad=>exact h
end
section
variable (K:PySem.W.Frag) (E:XE)
noncomputable def tOf (m:DS.EM):TE:=λσ H Q=>∃env S J,AbS K J S H/\RepE K J H env σ/\Post K E J H (m env S) (λd _ J' H'=>∀v,Rep K J' H' d v->Q v H')
noncomputable def tOfF (m:DS.EM):TE:=λσ H Q=>∃env S J,AbS K J S H/\RepE K J H env σ/\Post K E J H (m env S) (λd _ J' H'=>∀p o,H' p=none->ObD K J' H' d o->Q (.ref p) (upd H' p o))
noncomputable def ttOf (m:DS.TM):TT:=λσ H Q=>∃env S J,AbS K J S H/\RepE K J H env σ/\Post K E J H (m env S) (λb _ _ H'=>Q b H')
noncomputable def aOf (m:DS.AM):TA:=λσ H Q=>∃env S J,AbS K J S H/\RepE K J H env σ/\Post K E J H (m env S) (λds _ J' H'=>∀vs,RepL K J' H' ds vs->Q vs H')
noncomputable def tsOf (m:DS.SM):TS:=λD σ H=>∃env S J,AbS K J S H/\RepE K J H env σ/\PostS K E J H (m env S) D
noncomputable def gOf (m:DS.GM):TG:=λv σ H Q=>∃env S J d env',AbS K J S H/\RepE K J H env σ/\Rep K J H d v/\m S d env=some env'/\∀σ',RepE K J H env' σ'->Q σ' H
noncomputable def gsOf (m:Store->List D->DS.Env->Option DS.Env):TGs:=λvs σ H Q=>∃env S J ds env',AbS K J S H/\RepE K J H env σ/\RepL K J H ds vs/\m S ds env=some env'/\∀σ',RepE K J H env' σ'->Q σ' H
structure ItOk (J0:Js) (H0:Hp) (w:DS.Walk) (I:It):Prop where
 go:∀(i:Nat) (H:Hp) (J:Js) (S:Store),AbS K J S H->Grow J0 H0 J H->DS.gOk S w.gd->i<w.its.length->I.go i H
 yld:∀(i:Nat) (H:Hp) (J:Js) (S:Store) (x:V) (H':Hp),AbS K J S H->Grow J0 H0 J H->DS.gOk S w.gd->I.yld i H x H'->∀d,w.its[i]?=some d->AbS K J S H'/\Grow J H J H'/\Rep K J H' d x
 stop:∀(i:Nat) (H:Hp) (J:Js) (S:Store),AbS K J S H->Grow J0 H0 J H->DS.gOk S w.gd->w.its.length<=i->I.stop i H
noncomputable def iOf (m:DS.IM):TI:=λσ H R=>∃env S J,AbS K J S H/\RepE K J H env σ/\Post K E J H (m env S) (λw _ J' H'=>∀I,ItOk K J' H' w I->R I H')
noncomputable def r2Of (g:Store->D->D->Option D):R2:=λx y H Q=>∃J S d1 d2 d,AbS K J S H/\Rep K J H d1 x/\Rep K J H d2 y/\g S d1 d2=some d/\∀v H',AbS K J S H'->Grow J H J H'->Rep K J H' d v->Q v H'
def cOf(g:Store->List D->Option D):List V->Hp->VK->Prop:=λxs H Q=>∃J S ds d,AbS K J S H/\RepL K J H ds xs/\g S ds=some d/\∀v H',AbS K J S H'->Grow J H J H'->Rep K J H' d v->Q v H'
noncomputable def yCq (g:Store->D->D->Option D):R2:=λx y H Q=>∃J S d1 d2 d,AbS K J S H/\Rep K J H d1 x/\Rep K J H d2 y/\g S d1 d2=some d/\∀p o H',AbS K J S H'->Grow J H J H'->H' p=none->ObD K J H' d o->Q (.ref p) (upd H' p o)
def cOfF(g:Store->List D->Option D):List V->Hp->VK->Prop:=λxs H Q=>∃J S ds d,AbS K J S H/\RepL K J H ds xs/\g S ds=some d/\∀p o H',AbS K J S H'->Grow J H J H'->H' p=none->ObD K J H' d o->Q (.ref p) (upd H' p o)
def mOf(g:Store->D->List D->Option (D × Store)):V->List V->Hp->VK->Prop:=λx xs H Q=>∃J S d1 ds d S',AbS K J S H/\Rep K J H d1 x/\RepL K J H ds xs/\g S d1 ds=some (d,S')/\∀v H',AbS K J S' H'->Grow J H J H'->Rep K J H' d v->Q v H'
noncomputable def spOf (F:DS.Fn):Sp:=λvs H Q _=>∃J S ds,AbS K J S H/\RepL K J H ds vs/\Post K E J H (F ds S) (λd _ J' H'=>∀v,Rep K J' H' d v->Q v H')
end
structure DE (X:Cx) (K:PySem.W.Frag) (E:XE) (e:Expr) (m:DS.EM):Prop where h:SE X e (tOf K E m)
structure DF (X:Cx) (K:PySem.W.Frag) (E:XE) (e:Expr) (m:DS.EM):Prop where h:SE X e (tOfF K E m)
structure DT (X:Cx) (K:PySem.W.Frag) (E:XE) (e:Expr) (m:DS.TM):Prop where h:ST X e (ttOf K E m)
structure DW (X:Cx) (K:PySem.W.Frag) (E:XE) (e:Expr) (m:DS.TM):Prop where h:SW X e (ttOf K E m)
structure DIf (X:Cx) (K:PySem.W.Frag) (E:XE) (es:List Expr) (m:DS.TM):Prop where h:SIfs X es (ttOf K E m)
structure DA (X:Cx) (K:PySem.W.Frag) (E:XE) (es:List Expr) (m:DS.AM):Prop where
 h:SA X es (aOf K E m)
 len:∀env S ds S',m env S=.ok ds S'->ds.length=es.length
structure DS1 (X:Cx) (K:PySem.W.Frag) (E:XE) (st:Stmt) (m:DS.SM):Prop where h:SS X st (tsOf K E m)
structure DSs (X:Cx) (K:PySem.W.Frag) (E:XE) (st:List Stmt) (m:DS.SM):Prop where h:SSs X st (tsOf K E m)
structure DG (X:Cx) (K:PySem.W.Frag) (e:Expr) (m:DS.GM):Prop where h:SG X e (gOf K m)
structure DGs (X:Cx) (K:PySem.W.Frag) (es:List Expr) (m:List DS.GM):Prop where h:SGs X es (gsOf K (DS.gAll m))
structure DI (X:Cx) (K:PySem.W.Frag) (E:XE) (tg e:Expr) (m:DS.IM):Prop where h:SI X tg e (iOf K E m)
section
variable {X:Cx}{K:PySem.W.Frag}{E:XE}{e a b c:Expr}{es:List Expr}{p pos:Pos}{m ma mb mc:DS.EM}{mt mu:DS.TM}
def SE.imp{t t':TE}(h:SE X e t)(k:∀σ H Q,t' σ H Q->t σ H Q):SE X e t':=⟨λpins s σ H Q I q=>h.h pins s σ H Q I (k σ H Q q)⟩
def ST.imp{t t':TT}(h:ST X e t)(k:∀σ H Q,t' σ H Q->t σ H Q):ST X e t':=⟨λpins s σ H Q I q=>h.h pins s σ H Q I (k σ H Q q)⟩
def SW.imp{t t':TT}(h:SW X e t)(k:∀σ H Q,t' σ H Q->t σ H Q):SW X e t':=⟨λwhole pins s σ H Q I q=>h.h whole pins s σ H Q I (k σ H Q q)⟩
def SIfs.imp{t t':TT}(h:SIfs X es t)(k:∀σ H Q,t' σ H Q->t σ H Q):SIfs X es t':=⟨λpins s σ H Q I q=>h.h pins s σ H Q I (k σ H Q q)⟩
def SA.imp{t t':TA}(h:SA X es t)(k:∀σ H Q,t' σ H Q->t σ H Q):SA X es t':=⟨λpos pins s σ H Q I q=>h.h pos pins s σ H Q I (k σ H Q q)⟩
def SS.imp{st:Stmt}{t t':TS}(h:SS X st t)(k:∀D σ H,t' D σ H->t D σ H):SS X st t':=⟨λpins s σ H D I q=>h.h pins s σ H D I (k D σ H q)⟩
def SSs.imp{st:List Stmt}{t t':TS}(h:SSs X st t)(k:∀D σ H,t' D σ H->t D σ H):SSs X st t':=⟨λpins s σ H D I q=>h.h pins s σ H D I (k D σ H q)⟩
def SG.imp{t t':TG}(h:SG X e t)(k:∀v σ H Q,t' v σ H Q->t v σ H Q):SG X e t':=⟨λpins s σ H v u Q I r q=>h.h pins s σ H v u Q I r (k v σ H Q q)⟩
def SGs.imp{t t':TGs}(h:SGs X es t)(k:∀v σ H Q,t' v σ H Q->t v σ H Q):SGs X es t':=⟨λpins s σ H v u Q I r q=>h.h pins s σ H v u Q I r (k v σ H Q q)⟩
def SI.imp{t t':TI}(h:SI X tg e t)(k:∀σ H R,t' σ H R->t σ H R):SI X tg e t':=⟨λpins s σ H R I q=>h.h pins s σ H R I (k σ H R q)⟩
def ObD.rep{K:PySem.W.Frag}{J:Js}{S:Store}{H:Hp}{d:D}{o:HO}{p:Addr}(ha:AbS K J S H)(n:H p=none)(r:ObD K J H d o):Rep K J (upd H p o) d (.ref p):=by
 have r2:=r.grow (Grow.push (o:=o) n);have hp:=ha.out n;cases d with
 | lst ds=>obtain⟨xs,rfl,rl⟩:=r2;exact⟨p,xs,rfl,⟨zAm,hp⟩,rl⟩
 | dct _ ks vs=>obtain⟨xs,t,rl⟩:=r2;exact⟨p,o,xs,rfl,hp,.inl zAm,t,rl⟩
 | _=>exact False.elim r2
def zBg(h:DF X K E e m):DE X K E e m:=⟨h.h.imp λσ H Q ⟨env,S,J,ha,he,q⟩=>⟨env,S,J,ha,he,q.map λd S' J' H' _ h1 g k p o n r=>
 k J' (upd H' p o) (h1.push n) (g.trans (.push n)) (.ref p) (r.rep h1 n)⟩⟩
def zDf(h:DF X K E e m):DE X K E e (DS.eNew m):=⟨h.h.imp λσ H Q ⟨env,S,J,ha,he,q⟩=>⟨env,S,J,ha,he,q.bind.map λd S' J' H' _ h1 g k p o n r=>
 k J' H' h1 g (J'++[p]) (upd H' p o) (h1.name n r) (.name n) (.ref p) ⟨p,by rw[<- h1.len,vj (xi _)];simp,rfl⟩⟩⟩
def zA2(i:Nat)(hN:X.N[i]?=some x:=by rfl)(hv:Vis X.env.scope x:=by first|exact Or.inl rfl|exact Or.inr (Or.inl rfl)|exact Or.inr (Or.inr rfl))(hd:(x == ("__debug__":Str))=false:=by decide)
  (hcd:(x == ("__classdict__":Str))=false:=by decide):DE X K E (.Name x pos) (DS.eVar i):=⟨(pv' i hN hv hd hcd).imp λσ H Q hq2=>by
 obtain⟨env,S,J,ha,he,q⟩:=hq2;unfold DS.eVar at q;cases e1:env[i]? with
 | none=>rw[e1]at q;exact False.elim q
 | some o=>
  cases o with
  | none=>rw[e1]at q;exact False.elim q
  | some d=>
   rw[e1]at q;obtain⟨v,ev,r⟩:=he.get i d e1;exact⟨v,ev,q J H ha .refl v r⟩⟩
def de_c(h:SE X e (tC v))(r:∀J H,Rep K J H d v):DE X K E e (DS.eC d):=⟨h.imp λσ H Q hz9=>by obtain⟨env,S,J,ha,he,q⟩:=hz9;exact q J H ha .refl v (r J H)⟩
def zA6{i:Int}:DE X K E (.Constant (.int i) j pos) (DS.eC (.int i)):=de_c zWw λ_ _=>rfl
def zIt :DE X K E (.Constant (.bool i) j pos) (DS.eC (.bl i)):=de_c yAm λ_ _=>rfl
def zE5 :DE X K E (.Constant (.str i) j pos) (DS.eC (.str i)):=de_c zOz λ_ _=>rfl
def zTx(hg:Gl X x)(hm:X.mg x=none)(hv:bootBuiltins x=some u)(r:RelV (.ty T) u)(hn:x≠"__name__":=by decide)(hd:(x == ("__debug__":Str))=false:=by decide):DE X K E (.Name x pos) (DS.eC (.ty T)):=de_c (zSq hg hm hv r hn hd) λ_ _=>rfl
def zLd{r:R2}{g:Store->D->D->Option D}(hr:∀x y H Q,r2Of K g x y H Q->r x y H Q):∀σ H Q,tOf K E (DS.eOp g ma mb) σ H Q->tOp r (tOf K E ma) (tOf K E mb) σ H Q:=λσ H Q ⟨env,S,J,ha,he,q⟩=>
 ⟨env,S,J,ha,he,q.bind.imp λd1 S1 J1 H1 _ a1 g1 q1 x rx=>⟨env,S1,J1,a1,he.grow g1,q1.bind.imp λd2 S2 J2 H2 _ a2 g2 q2 y ry=>by
  obtain⟨d,e,k⟩:=q2.lift;exact hr _ _ _ _ ⟨J2,S2,d1,d2,d,a2,Rep.grow g2 _ _ rx,ry,e,λv H' h1 h2 h3=>k J2 H' h1 h2 v h3⟩⟩⟩
def zAd{g:Store->D->D->Option D}(ho:OpR X (binaryOp op) (r2Of K g))(ha:DE X K E a ma)(hb:DE X K E b mb):DE X K E (.BinOp a op b pos) (DS.eOp g ma mb):=⟨(yAe ho ha.h hb.h).imp (zLd λ_ _ _ _ h=>h)⟩
def zHf{g:Store->D->D->Option D}(ho:OpR X (compareOp op) (r2Of K g))(ha:DE X K E a ma)(hb:DE X K E b mb)(hm:behindInMarks op b=false):DE X K E (.Compare a [op] [b] pos) (DS.eOp g ma mb):=⟨(zSo ho ha.h hb.h hm).imp (zLd λ_ _ _ _ h=>h)⟩
def zC5{g:Store->D->D->Option D}(hr:IxR X (r2Of K g))(ha:DE X K E a ma)(hb:DE X K E b mb)(h:nsl b=true:=by rfl):DE X K E (.Subscript a b pos) (DS.eOp g ma mb):=⟨(qix' hr ha.h hb.h h).imp (zLd λ_ _ _ _ h=>h)⟩
def zA4:DA X K E [] DS.aNil:=⟨pa_nil'.imp λσ H Q hz0=>by obtain⟨env,S,J,ha,he,q⟩:=hz0;exact q J H ha .refl [] rfl,λ_ _ _ _ e=>by cases e;rfl⟩
def zA1(ha:DE X K E e m)(hr:DA X K E es am)(h:nst e=true:=by rfl):DA X K E (e::es) (DS.zA0 m am):=by
 refine⟨(qa' ha.h hr.h h).imp λσ H Q ⟨env,S,J,h,he,q⟩=>⟨env,S,J,h,he,q.bind.imp λd1 S1 J1 H1 _ a1 g1 q1 x rx=>⟨env,S1,J1,a1,he.grow g1,q1.bind.imp λd2 S2 J2 H2 _ a2 g2 q2 ys ry=>
  q2 J2 H2 a2 .refl (x::ys) ⟨x,ys,rfl,Rep.grow g2 _ _ rx,ry⟩⟩⟩,λenv S ds S' e1=>?_⟩
 unfold DS.zA0 at e1;cases e2:m env S with
 | ok d S1=>
  rw[e2,Rs.bind_ok]at e1;cases e3:am env S1 with
  | ok dr S2=>rw[e3,Rs.bind_ok]at e1;cases e1;simp[hr.len _ _ _ _ e3]
  | _=>rw[e3]at e1;cases e1
 | _=>rw[e2]at e1;cases e1
def z1000{n:Nat}(h:n<=1000):n<=sizeLine:=xm h (by decide)
def zBk(h:DA X K E es am)(hz:es.length<=1000:=by decide):DE X K E (.Tuple es k pos) (DS.eTup am):=⟨(zWs h.h).imp λσ H Q ⟨env,S,J,ha,he,q⟩=>
 ⟨env,S,J,ha,he,q.bind.imp λds S1 J1 H1 e1 a1 g1 q1 xs rx=>⟨by rw[<- rx.length,h.len _ _ _ _ e1];exact z1000 hz,λp n=>
  q1 J1 (upd H1 p (.tup xs)) (a1.push n) (.push n) (.ref p) ⟨p,xs,rfl,⟨zAm,a1.out n⟩,RepL.grow (.push n) _ _ rx⟩⟩⟩⟩
def zE4(h:DA X K E es am)(hz:es.length<=1000:=by decide):DF X K E (.List es pos) (DS.eLst am):=⟨(zWv h.h).imp λσ H Q ⟨env,S,J,ha,he,q⟩=>
 ⟨env,S,J,ha,he,q.bind.imp λds S1 J1 H1 e1 a1 g1 q1 xs rx=>⟨by rw[<- rx.length,h.len _ _ _ _ e1];exact z1000 hz,λp n=>
  q1 J1 H1 a1 .refl p (.lst xs) n ⟨xs,rfl,rx⟩⟩⟩⟩
def zYg:DF X K E (.Dict [] [] pos) (DS.eDct false):=⟨pe_dnewK'.imp λσ H Q ⟨env,S,J,ha,he,q⟩ p n=>q J H ha .refl p (.dK []) n ⟨[],.inl ⟨rfl,[],rfl,rfl,rfl⟩,rfl⟩⟩
def zIs:DF X K E (.Dict [] [] pos) (DS.eDct true):=⟨pe_dnewT'.imp λσ H Q ⟨env,S,J,ha,he,q⟩ p n=>q J H ha .refl p (.dT []) n ⟨[],.inr ⟨rfl,[],rfl,rfl,rfl⟩,rfl⟩⟩
def yC9{r:List V->Hp->VK->Prop}{g:Store->List D->Option D}(hr:∀xs H Q,cOf K g xs H Q->r xs H Q):∀σ H Q,tOf K E (DS.eCB g am) σ H Q->tCB r (aOf K E am) σ H Q:=λσ H Q ⟨env,S,J,ha,he,q⟩=>
 ⟨env,S,J,ha,he,q.bind.imp λds S1 J1 H1 _ a1 g1 q1 xs rx=>by
  obtain⟨d,e,k⟩:=q1.lift;exact hr _ _ _ ⟨J1,S1,ds,d,a1,rx,e,λv H' h1 h2 h3=>k J1 H' h1 h2 v h3⟩⟩
def zVh{r:List V->Hp->VK->Prop}{g:Store->List D->Option D}(hr:∀xs H Q,cOfF K g xs H Q->r xs H Q):∀σ H Q,tOfF K E (DS.eCB g am) σ H Q->tCB r (aOf K E am) σ H Q:=λσ H Q ⟨env,S,J,ha,he,q⟩=>
 ⟨env,S,J,ha,he,q.bind.imp λds S1 J1 H1 _ a1 g1 q1 xs rx=>by
  obtain⟨d,e,k⟩:=q1.lift;exact hr _ _ _ ⟨J1,S1,ds,d,a1,rx,e,λp o H' h1 h2 h3=>k J1 H' h1 h2 p o h3⟩⟩
def zE0{x:Str}{id:String}{am:DS.AM}{g:Store->List D->Option D}(hc:zBl X (.builtin id) (cOf K g))(hg:Gl X x)(hm:X.mg x=none)(hv:bootBuiltins x=some (.builtin id))(ha:DA X K E (e::es) am)(hn:x≠"__name__":=by decide)(hdb:(x == ("__debug__":Str))=false:=by decide)
  (h:(e::es).all nst=true:=by rfl):DE X K E (.Call (.Name x p) (e::es) [] pos) (DS.eCB g am):=⟨(zOk hc hg hm hv ha.h hn hdb h).imp (yC9 λ_ _ _ h=>h)⟩
def zFo{g:Store->List D->Option D}(hc:zBl X (.type T) (cOf K g))(hg:Gl X x)(hm:X.mg x=none)(hv:bootBuiltins x=some (.type T))(ha:DA X K E (e::es) am)(hn:x≠"__name__":=by decide)(hdb:(x == ("__debug__":Str))=false:=by decide)
  (h:(e::es).all nst=true:=by rfl):DE X K E (.Call (.Name x p) (e::es) [] pos) (DS.eCB g am):=⟨(zI1 hc hg hm hv ha.h hn hdb h).imp (yC9 λ_ _ _ h=>h)⟩
def zJv{x:Str}{id:String}{am:DS.AM}{g:Store->List D->Option D}(hc:zBl X (.builtin id) (cOfF K g))(hg:Gl X x)(hm:X.mg x=none)(hv:bootBuiltins x=some (.builtin id))(ha:DA X K E (e::es) am)(hn:x≠"__name__":=by decide)(hdb:(x == ("__debug__":Str))=false:=by decide)
  (h:(e::es).all nst=true:=by rfl):DF X K E (.Call (.Name x p) (e::es) [] pos) (DS.eCB g am):=⟨(zOk hc hg hm hv ha.h hn hdb h).imp (zVh λ_ _ _ h=>h)⟩
def zTu{g:Store->List D->Option D}(hc:zBl X (.type T) (cOfF K g))(hg:Gl X x)(hm:X.mg x=none)(hv:bootBuiltins x=some (.type T))(ha:DA X K E (e::es) am)(hn:x≠"__name__":=by decide)(hdb:(x == ("__debug__":Str))=false:=by decide)
  (h:(e::es).all nst=true:=by rfl):DF X K E (.Call (.Name x p) (e::es) [] pos) (DS.eCB g am):=⟨(zI1 hc hg hm hv ha.h hn hdb h).imp (zVh λ_ _ _ h=>h)⟩
def zAb(C:Cal X.prog X.w X.K X.mg X.base x k ps (spOf K E F))(hr:Room k X.A)(hg:Gl X x)(ha:DA X K E (e::es) am)(hdb:(x == ("__debug__":Str))=false:=by decide)
  (h:(e::es).all nst=true:=by rfl):DE X K E (.Call (.Name x p) (e::es) [] pos) (DS.zAc F am):=⟨(qcal' C hr hg ha.h hdb h).imp λσ H Q ⟨env,S,J,h,he,q⟩=>
 ⟨env,S,J,h,he,q.bind.imp λds S1 J1 H1 _ a1 g1 q1 xs rx=>by
  show spOf K E F (xs++[]) H1 Q E0;rw[vT];exact⟨J1,S1,ds,a1,rx,q1⟩⟩⟩
def zZc(ha:AbS K J S H)(r:Rep K J H d v)(hT:T="str"\/T="list"\/T="dict")(h:DS.tyD S d=some T):tyV K T v H:=by
 cases d with
 | str x=>obtain rfl:=r;cases h;exact rfl
 | lst ds=>obtain⟨a,xs,rfl,t,_⟩:=r;cases h;exact .inl ⟨rfl,xs,t.sq⟩
 | klst ds=>obtain⟨a,xs,rfl,t,_⟩:=r;cases h;exact .inl ⟨rfl,xs,t.sq⟩
 | dct _ ks vs=>
  obtain⟨a,o,xs,rfl,_,e,t,_⟩:=r;cases h;refine .inr (.inr (.inl ⟨rfl,?_⟩));rcases t with⟨_,kvs,rfl,_⟩|⟨_,kvs,rfl,_⟩
  ·exact .inl ⟨kvs,e⟩
  ·exact .inr ⟨kvs,e⟩
 | ref n=>
  obtain⟨a,ea,rfl⟩:=r;obtain⟨c,ec,o,eo,rc⟩:=ha.at ea;have el:DS.look S (.ref n)=some c:=ec;unfold DS.tyD at h;rw[el]at h;cases c with
  | lst ds=>cases h;obtain⟨xs,rfl,_⟩:=rc;exact .inl ⟨rfl,xs,.inl (.inl eo)⟩
  | dct _ ks vs=>
   cases h;obtain⟨xs,t,_⟩:=rc;refine .inr (.inr (.inl ⟨rfl,?_⟩));rcases t with⟨_,kvs,rfl,_⟩|⟨_,kvs,rfl,_⟩
   ·exact .inl ⟨kvs,.inl eo⟩
   ·exact .inr ⟨kvs,.inl eo⟩
  | _=>exact False.elim rc
 | _=>first|(cases h;rcases hT with z|z|z <;> exact absurd z (by decide))|cases h
def yB0{r:V->List V->Hp->VK->Prop}{g:Store->D->List D->Option (D × Store)}(hT:T="str"\/T="list"\/T="dict")(hr:∀x xs H Q,mOf K g x xs H Q->r x xs H Q):∀σ H Q,tOf K E (DS.eMt T g ma am) σ H Q->tBM K T r (tOf K E ma) (aOf K E am) σ H Q:=λσ H Q ⟨env,S,J,ha,he,q⟩=>
 ⟨env,S,J,ha,he,q.bind.imp λd1 S1 J1 H1 _ a1 g1 q1 x rx=>by
  by_cases hty:DS.tyD S1 d1=some T
  ·rw[xf hty]at q1;refine⟨zZc a1 rx hT hty,env,S1,J1,a1,he.grow g1,q1.bind.imp λds S2 J2 H2 _ a2 g2 q2 xs rs=>?_⟩;cases e:g S2 d1 ds with
   | none=>rw[e]at q2;exact False.elim q2
   | some w=>
    rw[e]at q2;exact hr _ _ _ _ ⟨J2,S2,d1,ds,w.1,w.2,a2,Rep.grow g2 _ _ rx,rs,e,λv H' h1 h2 h3=>q2 J2 H' h1 h2 v h3⟩
  ·rw[xg hty]at q1;exact False.elim q1⟩
def zNi{T name id:_}{o:Expr}{apos cpos:Pos}{g:Store->D->List D->Option (D × Store)}{mo:DS.EM}{am:DS.AM}(pa:PlainAttrs T)(slot:Slot T name id)(hty:typeOf (.builtin id)=pure (.type "method_descriptor"))(hm:MtR X id (mOf K g))
  (hT:T="str"\/T="list"\/T="dict") (ho:DE X K E o mo) (ha:DA X K E (e::es) am) (h:nba o=true:=by rfl) (hs:(e::es).all nst=true:=by rfl)
  (hlen:decide ((e::es).length+0+0<30)=true:=by rfl) (hline:(apos.endLine == cpos.line)=true:=by rfl) (hK:X.K=K:=by rfl):DE X K E (.Call (.Attribute o name apos) (e::es) [] cpos) (DS.eMt T g mo am):=by
 subst hK;exact⟨(yAl pa slot hty hm ho.h ha.h h hs hlen hline).imp (yB0 hT λ_ _ _ _ h=>h)⟩
def yC5{T name id:_}{o:Expr}{apos cpos:Pos}{g:Store->D->List D->Option (D × Store)}{mo:DS.EM}(pa:PlainAttrs T)(slot:Slot T name id)(hty:typeOf (.builtin id)=pure (.type "method_descriptor"))(hm:MtR X id (mOf K g))
  (hT:T="str"\/T="list"\/T="dict") (ho:DE X K E o mo) (h:nba o=true:=by rfl) (hline:(apos.endLine == cpos.line)=true:=by rfl) (hK:X.K=K:=by rfl):DE X K E (.Call (.Attribute o name apos) [] [] cpos) (DS.eMt T g mo DS.aNil):=by
 subst hK;refine⟨(qbm0' pa slot hty hm ho.h h hline).imp λσ H Q h=>?_⟩;obtain⟨env,S,J,ha,he,q⟩:=yB0 hT (λ_ _ _ _ h=>h) σ H Q h;refine⟨env,S,J,ha,he,q.imp λd1 S1 J1 H1 _ a1 g1 q1 x rx=>?_⟩;obtain⟨ht,env',S',J',ha',he',q'⟩:=q1 x rx;exact⟨ht,q' J' H1 ha' .refl [] rfl⟩
noncomputable def poOf (K:PySem.W.Frag) (E:XE) (m:DS.Env->Store->Rs (Option Int)):TO:=λσ H Q=>∃env S J,AbS K J S H/\RepE K J H env σ/\Post K E J H (m env S) (λoi _ _ H'=>Q oi H')
structure DO (X:Cx) (K:PySem.W.Frag) (E:XE) (e:Option Expr) (m:DS.Env->Store->Rs (Option Int)):Prop where h:SO X e (poOf K E m)
def SO.imp{t t':TO}(h:SO X o t)(k:∀σ H Q,t' σ H Q->t σ H Q):SO X o t':=⟨λpins s σ H Q I q=>h.h pins s σ H Q I (k σ H Q q)⟩
def yC2:DO X K E none DS.pNo:=⟨po_none'.imp λσ H Q hz1=>by obtain⟨env,S,J,ha,he,q⟩:=hz1;exact q J H ha .refl⟩
def zMe(h:DE X K E e m):DO X K E (some e) (DS.pYes m):=⟨(zSb h.h).imp λσ H Q ⟨env,S,J,ha,he,q⟩=>⟨env,S,J,ha,he,q.bind.imp λd S1 J1 H1 _ a1 g1 q1 x rx=>by
 obtain⟨oi,e,k⟩:=q1.lift;cases d with
 | int i=>cases e;obtain rfl:=rx;exact⟨i,rfl,k J1 H1 a1 .refl⟩
 | _=>cases e⟩⟩
def slOf(K:PySem.W.Frag)(g:Store->D->Option Int->Option Int->Option D):V->Option Int->Option Int->Hp->VK->Prop:=λx lo hi H Q=>∃J S d1 d,AbS K J S H/\Rep K J H d1 x/\g S d1 lo hi=some d/\∀v H',AbS K J S H'->Grow J H J H'->Rep K J H' d v->Q v H'
def zYi{g:Store->D->Option Int->Option Int->Option D}{lo hi:Option Expr}{ml mh:DS.Env->Store->Rs (Option Int)}{p2:Pos}(hr:SlR X (slOf K g))(he:DE X K E e m)(hl:DO X K E lo ml)(hu:DO X K E hi mh):DE X K E (.Subscript e (.Slice lo hi none p2) pos) (DS.eSl g m ml mh):=
 ⟨(zP0 hr he.h hl.h hu.h).imp λσ H Q ⟨env,S,J,ha,he,q⟩=>⟨env,S,J,ha,he,q.bind.imp λd S1 J1 H1 _ a1 g1 q1 x rx=>⟨env,S1,J1,a1,he.grow g1,q1.bind.imp λl S2 J2 H2 _ a2 g2 q2=>
  ⟨env,S2,J2,a2,he.grow (g1.trans g2),q2.bind.imp λh S3 J3 H3 _ a3 g3 q3=>by
   obtain⟨r,er,k⟩:=q3.lift;exact⟨J3,S3,d,r,a3,Rep.grow (g2.trans g3) _ _ rx,er,λv H' h1 h2 h3=>k J3 H' h1 h2 v h3⟩⟩⟩⟩⟩
def zRa(e:DS.asB d=some k)(r:Rep K J H d x):x=.bl k:=by
 cases d with
 | bl i=>cases e;exact r
 | _=>cases e
def yCk:∀σ H Q,ttOf K E (DS.tB m) σ H Q->tOf K E m σ H (λx H'=>∃k,x=.bl k/\Q k H'):=λσ H Q ⟨env,S,J,ha,he,q⟩=>⟨env,S,J,ha,he,q.bind.imp λd S1 J1 H1 _ a1 g1 q1 x rx=>by
 obtain⟨k,e,z⟩:=q1.lift;exact⟨k,zRa e rx,z J1 H1 a1 .refl⟩⟩
def zBj{g:Store->D->D->Option D}(ho:OpR X (compareOp op) (r2Of K g))(ha:DE X K E a ma)(hb:DE X K E b mb)(hm:behindInMarks op b=false):DT X K E (.Compare a [op] [b] pos) (DS.tB (DS.eOp g ma mb)):=
 ⟨(zS5 ho ha.h hb.h hm).imp λσ H Q h=>zLd (K:=K) (E:=E) (λ_ _ _ _ h=>h) σ H _ (yCk σ H Q h)⟩
def zQj(ha:DT X K E a mt):DT X K E (.UnaryOp .Not a pos) (DS.tNot mt):=⟨(zWf ha.h).imp λσ H Q hz2=>by obtain⟨env,S,J,ha,he,q⟩:=hz2;exact ⟨env,S,J,ha,he,q.bind.imp λk S1 J1 H1 _ a1 g1 q1=>q1 J1 H1 a1 .refl⟩⟩
def zQi(ha:DT X K E a mt):DW X K E (.BoolOp .And [a] pos) mt:=⟨zS0 ha.h⟩
def zQh(ha:DT X K E a mt):DW X K E (.BoolOp .Or [a] pos) mt:=⟨zWb ha.h⟩
def zV9(ha:DT X K E a mt)(hb:DW X K E (.BoolOp .And (b::es) pos) mu):DW X K E (.BoolOp .And (a::b::es) pos) (DS.tAnd mt mu):=⟨(zWd ha.h hb.h).imp λσ H Q ⟨env,S,J,ha,he,q⟩=>⟨env,S,J,ha,he,q.bind.imp λk S1 J1 H1 _ a1 g1 q1=>by
 cases k with
 | true=>exact⟨env,S1,J1,a1,he.grow g1,q1⟩
 | false=>exact q1 J1 H1 a1 .refl⟩⟩
def zY9(ha:DT X K E a mt)(hb:DW X K E (.BoolOp .Or (b::es) pos) mu):DW X K E (.BoolOp .Or (a::b::es) pos) (DS.tOr mt mu):=⟨(zZx ha.h hb.h).imp λσ H Q ⟨env,S,J,ha,he,q⟩=>⟨env,S,J,ha,he,q.bind.imp λk S1 J1 H1 _ a1 g1 q1=>by
 cases k with
 | true=>exact q1 J1 H1 a1 .refl
 | false=>exact⟨env,S1,J1,a1,he.grow g1,q1⟩⟩⟩
def dt_w(h:DW X K E e mt):DT X K E e mt:=⟨zZv h.h⟩
def zHg(ha:DE X K E a ma)(hb:DE X K E (.BoolOp .And (b::es) pos) mb):DE X K E (.BoolOp .And (a::b::es) pos) (DS.eAnd ma mb):=⟨(zX1 ha.h hb.h).imp λσ H Q ⟨env,S,J,ha,he,q⟩=>⟨env,S,J,ha,he,q.bind.imp λd S1 J1 H1 _ a1 g1 q1 x rx=>by
 obtain⟨k,e,z⟩:=q1.bind.lift;have z:=z J1 H1 a1 .refl;refine⟨k,zRa e rx,?_⟩;cases k with
 | true=>exact⟨env,S1,J1,a1,he.grow g1,z⟩
 | false=>exact z J1 H1 a1 .refl _ rfl⟩⟩
def zMg(ha:DE X K E a ma):DE X K E (.BoolOp op [a] pos) ma:=⟨zWt ha.h⟩
def yC4(ha:DE X K E a ma):DE X K E (.UnaryOp .Not a pos) (DS.eNot ma):=⟨(zWu ha.h).imp λσ H Q ⟨env,S,J,ha,he,q⟩=>⟨env,S,J,ha,he,q.bind.imp λd S1 J1 H1 _ a1 g1 q1 x rx=>by
 obtain⟨k,e,z⟩:=q1.bind.lift;exact⟨k,zRa e rx,z J1 H1 a1 .refl J1 H1 a1 .refl _ rfl⟩⟩⟩
def zC9:DIf X K E [] DS.tYes:=⟨pifs_nil'.imp λσ H Q hz3=>by obtain⟨env,S,J,ha,he,q⟩:=hz3;exact q J H ha .refl⟩
def zGl(h:DT X K E c mt):DIf X K E [c] mt:=⟨zOu h.h⟩
def zCk{xs:List V}(r:RepL K J H ds xs):decide (ds≠[])=!xs.isEmpty:=by
 cases ds with
 | nil=>cases r;simp
 | cons d ds=>obtain⟨x,t,rfl,_⟩:=r;simp
def zVp(ha:AbS K J S H)(r:Rep K J H d v)(h:DS.truth S d=some k):TruV K v H k:=by
 cases d with
 | non=>obtain rfl:=r;cases h;exact rfl
 | bl b=>obtain rfl:=r;cases h;exact rfl
 | int i=>
  obtain rfl:=r;have h:=xN h;subst h;show decide (i≠0)=(i != 0);by_cases z:i=0 <;> simp[z]
 | str x=>
  obtain rfl:=r;have h:(if x.length<=DS.most then some (decide (x.length≠0))else none)=some k:=h;by_cases z:x.length<=DS.most
  ·rw[xf z]at h;have h:=xN h;subst h;refine⟨z,?_⟩;by_cases z:x.length=0 <;> simp[z]
  ·rw[xg z]at h;cases h
 | tup ds=>obtain⟨a,xs,rfl,t,rl⟩:=r;cases h;exact .inr (.inl ⟨xs,t.sq,zCk rl⟩)
 | ktup ds=>obtain⟨a,xs,rfl,t,rl⟩:=r;cases h;exact .inr (.inl ⟨xs,t.sq,zCk rl⟩)
 | klst ds=>obtain⟨a,xs,rfl,t,rl⟩:=r;cases h;exact .inl ⟨xs,t.sq,zCk rl⟩
 | lst ds=>obtain⟨a,xs,rfl,t,rl⟩:=r;cases h;exact .inl ⟨xs,t.sq,zCk rl⟩
 | ref n=>
  obtain⟨a,ea,rfl⟩:=r;obtain⟨c,ec,o,eo,rc⟩:=ha.at ea;have el:DS.look S (.ref n)=some c:=ec;unfold DS.truth at h;rw[el]at h;cases c with
  | lst ds=>cases h;obtain⟨xs,rfl,rl⟩:=rc;exact .inl ⟨xs,.inl (.inl eo),zCk rl⟩
  | dct _ ks vs=>cases h
  | _=>exact False.elim rc
 | _=>cases h
def zHe(ha:DE X K E e m)(h:ntt e=true:=by rfl)(hK:X.K=K:=by rfl):DT X K E e (DS.tTru m):=by
 subst hK;exact⟨(qtruth' ha.h h).imp λσ H Q ⟨env,S,J,ha,he,q⟩=>⟨env,S,J,ha,he,q.bind.imp λd S1 J1 H1 _ a1 g1 q1 x rx=>by
  obtain⟨k,e,z⟩:=q1.lift;exact⟨k,zVp a1 rx e,z J1 H1 a1 .refl⟩⟩⟩
def RepE.set{env:DS.Env}{σ:St}{i:Nat}(h:RepE K J H env σ)(r:Rep K J H d v):RepE K J H (env.set i (some d)) (σ.set i (some v)):=by
 refine⟨by simp[h.len],λj d' e=>?_⟩;by_cases hj:i=j
 ·subst hj;have hi:i<env.length:=by
   have:=(xO.mp e).1;simpa using this
  rw[vz hi]at e;cases e;exact⟨v,vz (by rw[<- h.len];exact hi),r⟩
 ·rw[xR hj]at e;rw[xR hj];exact h.get j d' e
def zA9(hN:X.N.Nodup)(hi:X.N[j]?=some x)(hx:Loc X.env.scope x)(hf:X.fn x=true\/X.env.scope.names.lookup x=some .local:=by first|exact .inl rfl|exact .inr rfl|assumption):DG X K (.Name x pos) (DS.gName j):=
 ⟨(zSh hN hi hx hf).imp λv σ H Q hq3=>by
  obtain⟨env,S,J,d,env',ha,he,r,e,k⟩:=hq3;cases e;exact k _ (he.set r)⟩
def zCx:DGs X K [] []:=⟨pgs_nil'.imp λv σ H Q hq4=>by
 obtain⟨env,S,J,ds,env',ha,he,r,e,k⟩:=hq4;cases ds with
 | nil=>cases e;cases r;exact⟨rfl,k _ he⟩
 | cons d ds=>cases e⟩
def zAo(h1:DG X K tg g)(h2:DGs X K ts gs)(h:nst tg=true:=by rfl):DGs X K (tg::ts) (g::gs):=⟨(qgs' h1.h h2.h h).imp λv σ H Q hq5=>by
 obtain⟨env,S,J,ds,env',ha,he,r,e,k⟩:=hq5;cases ds with
 | nil=>cases e
 | cons d ds=>
  obtain⟨x,xs,rfl,rx,rl⟩:=r;unfold DS.gAll at e;cases e1:g S d env with
  | none=>rw[e1]at e;cases e
  | some env1=>
   rw[e1]at e;exact⟨x,xs,rfl,env,S,J,d,env1,ha,he,rx,e1,λσ' he'=>⟨env1,S,J,ds,env',ha,he',rl,e,k⟩⟩⟩
def zDx:∀{gs:List DS.GM}{S:Store}{ds:List D}{env env':DS.Env},DS.gAll gs S ds env=some env'->ds.length=gs.length
 | [],_,[],_,_,_=>rfl
 | [],_,_::_,_,_,e=>by cases e
 | _::_,_,[],_,_,e=>by cases e
 | g::gs,S,d::ds,env,env',e=>by
  unfold DS.gAll at e;cases e1:g S d env with
  | none=>rw[e1]at e;cases e
  | some env1=>rw[e1]at e;simp[zDx e]
def SG.or{t u:TG}(h:SG X e t)(h':SG X e u):SG X e (λv σ H Q=>t v σ H Q\/u v σ H Q):=⟨λpins s σ H v w Q I r q=>by
 rcases q with q|q
 ·exact h.h pins s σ H v w Q I r q
 ·exact h'.h pins s σ H v w Q I r q⟩
def zE3{ts:List Expr}{gs:List DS.GM}(hc:X.calm=true)(h:DGs X K ts gs)(hn:ts.length=gs.length:=by rfl)(h1:ts.all nst=true:=by rfl)(hK:X.K=K:=by rfl):DG X K (.Tuple ts k pos) (DS.gTup gs):=by
 subst hK;refine⟨((qtup' (n:=gs.length) hc h.h hn h1).or (qunl' (n:=gs.length) hc h.h hn h1)).imp λv σ H Q hq1=>?_⟩;obtain⟨env,S,J,d,env',ha,he,r,e,k⟩:=hq1;unfold DS.gTup DS.items DS.look at e;cases d with
 | tup ds=>obtain⟨a,xs,rfl,t,rl⟩:=r;exact .inl ⟨a,xs,rfl,t.sq,by rw[<- rl.length];exact zDx e,env,S,J,ds,env',ha,he,rl,e,k⟩
 | klst ds=>obtain⟨a,xs,rfl,t,rl⟩:=r;exact .inr ⟨a,xs,rfl,t.sq,by rw[<- rl.length];exact zDx e,env,S,J,ds,env',ha,he,rl,e,k⟩
 | ktup ds=>obtain⟨a,xs,rfl,t,rl⟩:=r;exact .inl ⟨a,xs,rfl,t.sq,by rw[<- rl.length];exact zDx e,env,S,J,ds,env',ha,he,rl,e,k⟩
 | lst ds=>obtain⟨a,xs,rfl,t,rl⟩:=r;exact .inr ⟨a,xs,rfl,t.sq,by rw[<- rl.length];exact zDx e,env,S,J,ds,env',ha,he,rl,e,k⟩
 | ref n=>
  obtain⟨a,ea,rfl⟩:=r;obtain⟨c,ec,o,eo,rc⟩:=ha.at ea;simp only[ec]at e;cases c with
  | lst ds=>obtain⟨xs,rfl,rl⟩:=rc;exact .inr ⟨a,xs,rfl,.inl (.inl eo),by rw[<- rl.length];exact zDx e,env,S,J,ds,env',ha,he,rl,e,k⟩
  | dct _ ks vs=>cases e
  | _=>exact False.elim rc
 | _=>cases e
variable {st:Stmt}{sts:List Stmt}{ms mu' mv:DS.SM}
def zBq:DSs X K E [] DS.zBs:=⟨pss_nil'.imp λD σ H hz4=>by obtain⟨env,S,J,ha,he,q⟩:=hz4;exact q J H σ ha .refl he⟩
def zA8(h:DS1 X K E st ms):DSs X K E [st] ms:=⟨zS6 h.h⟩
def zA5(h:DS1 X K E st ms)(k:DSs X K E sts mv):DSs X K E (st::sts) (DS.sSeq ms mv):=⟨(zOp h.h k.h).imp λD σ H ⟨env,S,J,ha,he,q⟩=>⟨env,S,J,ha,he,by
 unfold DS.sSeq at q;cases e:ms env S with
 | nx e1 S1=>rw[e]at q;exact λJ' H' σ' h1 g1 h2=>⟨e1,S1,J',h1,h2,PostS.grow g1 q⟩
 | _=>rw[e]at q;exact q⟩⟩
def zAg{j:Nat}{x:Str}{pos':Pos}(hN:X.N.Nodup)(hi:X.N[j]?=some x)(hx:Loc X.env.scope x)(he:DE X K E e m)(hf:X.fn x=true\/X.env.scope.names.lookup x=some .local:=by first|exact .inl rfl|exact .inr rfl|assumption)(h:nco e=true:=by rfl):
  DS1 X K E (.Assign [.Name x pos'] e pos) (DS.sSet j m):=⟨(qset' hN hi hx he.h hf h).imp λD σ H hz5=>by obtain⟨env,S,J,ha,he,q⟩:=hz5;exact ⟨env,S,J,ha,he,q.then.imp λd S1 J1 H1 _ a1 g1 q1 v rv=>q1 J1 H1 _ a1 .refl ((he.grow g1).set rv)⟩⟩
def zU8 :∀D σ H,tsOf K E (DS.sUnp g m) D σ H->tAsg (tOf K E m) (gOf K g) D σ H:=λD σ H ⟨env,S,J,ha,he,q⟩=>⟨env,S,J,ha,he,q.then.imp λd S1 J1 H1 _ a1 g1 q1 v rv=>by
 cases e1:g S1 d env with
 | none=>rw[e1]at q1;exact False.elim q1
 | some env'=>rw[e1]at q1;exact⟨env,S1,J1,d,env',a1,he.grow g1,rv,e1,λσ' he'=>q1 J1 H1 σ' a1 .refl he'⟩⟩
def zQk(he:DE X K E e m)(hg:DG X K (.Tuple ts k tp) g)(h1:ntu e=true:=by rfl):DS1 X K E (.Assign [.Tuple ts k tp] e pos) (DS.sUnp g m):=⟨(qasgt' he.h hg.h h1).imp zU8⟩
def zTq(he:DE X K E e m)(hg:DG X K (.Tuple ts k tp) g)(hw:swappedStores [.Tuple ts k tp] e X.env=pure none:=by rfl):DS1 X K E (.Assign [.Tuple ts k tp] e pos) (DS.sUnp g m):=⟨(qasgn' he.h hg.h hw).imp zU8⟩
def zEr(he:DE X K E e m)(h:nco e=true:=by rfl):DS1 X K E (.Expr e pos) (DS.zFm m):=⟨(qexpr' he.h h).imp λD σ H hz6=>by obtain⟨env,S,J,ha,he,q⟩:=hz6;exact ⟨env,S,J,ha,he,q.then.imp λd S1 J1 H1 _ a1 g1 q1 v rv=>q1 J1 H1 σ a1 .refl (he.grow g1)⟩⟩
def zAq(he:DE X K E e m):DS1 X K E (.Return (some e) pos) (DS.sRet m):=⟨(zWk he.h).imp λD σ H hz7=>by obtain⟨env,S,J,ha,he,q⟩:=hz7;exact ⟨env,S,J,ha,he,q.then.imp λd S1 J1 H1 _ a1 g1 q1 v rv=>q1 J1 H1 v a1 .refl rv⟩⟩
def zCu{ba bb:List Stmt}(hc:DT X K E c mt)(ha:DSs X K E ba ms)(hb:DSs X K E bb mv):DS1 X K E (.If c ba bb pos) (DS.sIf mt ms mv):=⟨(yA3 hc.h ha.h hb.h).imp λD σ H ⟨env,S,J,ha,he,q⟩=>⟨env,S,J,ha,he,q.then.imp λk S1 J1 H1 _ a1 g1 q1=>by
 cases k with
 | true=>exact⟨env,S1,J1,a1,he.grow g1,q1⟩
 | false=>exact⟨env,S1,J1,a1,he.grow g1,q1⟩⟩⟩
def zEq{x y:Str}{px py pt pt2:Pos}{kt k2 i j:Nat}{am:DS.AM}(hc:X.calm=true)(hN:X.N.Nodup)(hi:X.N[i]?=some x)(hj:X.N[j]?=some y)(hij:i≠j)
  (hx:X.env.scope.names.lookup x=some .local) (hy:X.env.scope.names.lookup y=some .local) (ha:DA X K E [a,b] am)
  (hw:swappedStores [.Tuple [.Name x px,.Name y py] kt pt] (.Tuple [a,b] k2 pt2) X.env=pure (some [x,y])):
  DS1 X K E (.Assign [.Tuple [.Name x px,.Name y py] kt pt] (.Tuple [a,b] k2 pt2) pos) (DS.sPar [i,j] am):=⟨(qpar' hc hN hi hj hij hx hy ha.h hw).imp λD σ H ⟨env,S,J,h,he,q⟩=>⟨env,S,J,h,he,q.then.imp λds S1 J1 H1 e1 a1 g1 q1 vs rv=>by
 have hl:=ha.len _ _ _ _ e1
 match ds,hl with
 | [d1,d2],_=>
  obtain⟨v1,r1,rfl,rv1,v2,r2,rfl,rv2,rfl⟩:=rv;exact⟨v1,v2,rfl,q1 J1 H1 _ a1 .refl (((he.grow g1).set rv1).set rv2)⟩⟩⟩
def zJr{body:List Stmt}(hp:PassesOwn (model X.prog X.w) X.A X.env X.xe)(hc:DT X K E c mt)(hb:DSs X K E body ms):DS1 X K E (.While c body [] pos) (DS.zE1 mt ms):=⟨(zOq hp hc.h hb.h).imp λD σ H hq6=>by
 obtain⟨env,S,J,ha,he,q⟩:=hq6;unfold DS.zE1 at q;by_cases hx:∃n,DS.zBb mt ms n env S≠.bad
 ·rw[dif_pos hx]at q;generalize Classical.choose hx=n at q;refine⟨λn σ H=>∃env S J,AbS K J S H/\RepE K J H env σ/\PostS K E J H (DS.zBb mt ms n env S) D,⟨n,env,S,J,ha,he,q⟩,?_⟩;rintro m σ H ⟨env,S,J,ha,he,q⟩;cases m with
  | zero=>exact False.elim q
  | succ m=>
   refine⟨env,S,J,ha,he,(PostS.then (r:=mt env S) (by unfold DS.zBb at q;exact q)).imp λk S1 J1 H1 _ a1 g1 q1=>?_⟩;cases k with
   | false=>exact q1 J1 H1 σ a1 .refl (he.grow g1)
   | true=>
    rw[xf rfl]at q1 ⊢;refine⟨λσ H=>∃env S J,AbS K J S H/\RepE K J H env σ/\PostS K E J H (DS.zBb mt ms m env S) D,λσ' H' w=>⟨m,Nat.lt_succ_self m,w⟩,env,S1,J1,a1,he.grow g1,?_⟩;cases e:ms env S1 with
    | nx e1 S2=>rw[e]at q1;exact λJ' H' σ' h1 g2 h2=>⟨e1,S2,J',h1,h2,PostS.grow g2 q1⟩
    | ct e1 S2=>rw[e]at q1;exact λJ' H' σ' h1 g2 h2=>⟨e1,S2,J',h1,h2,PostS.grow g2 q1⟩
    | _=>rw[e]at q1;exact q1
 ·rw[dif_neg hx]at q;exact False.elim q⟩
def zMc{α:Type}{l:List α}{i:Nat}(h:i<l.length):l.drop i=l[i]::l.drop (i+1):=List.drop_eq_getElem_cons h
def zAy{tg iter:Expr}{body:List Stmt}{im:DS.IM}{g:DS.GM}(hp:PassesOwn (model X.prog X.w) X.A X.env X.xe)(hc:X.calm=true)(hi:DI X K E tg iter im)(hg:DG X K tg g)(hb:DSs X K E body ms)(h:nse iter=true:=by rfl):
  DS1 X K E (.For tg iter body [] pos) (DS.sFor im g ms):=⟨(qfor' hp hc hi.h hg.h hb.h h).imp λD σ H ⟨env,S,J,ha,he,q⟩=>⟨env,S,J,ha,he,q.then.imp λw S1 J1 H1 _ a1 g1 q1 I ok=>by
 refine⟨λi m σ H=>m+i=w.its.length/\∃env S J,AbS K J S H/\Grow J1 H1 J H/\RepE K J H env σ/\PostS K E J H (DS.forL w.gd g ms (w.its.drop i) env S) D,⟨w.its.length,rfl,env,S1,J1,a1,.refl,he.grow g1,q1⟩,?_⟩;rintro i m σ H ⟨hm,env,S,J,ha,gr,he,q⟩;by_cases hi:i<w.its.length
 ·rw[zMc hi]at q;unfold DS.forL at q;by_cases gd:DS.gOk S w.gd
  ·rw[xf gd]at q;refine .inr ⟨ok.go i H J S ha gr gd hi,λσ H=>(m-1)+(i+1)=w.its.length/\∃env S J,AbS K J S H/\Grow J1 H1 J H/\RepE K J H env σ/\PostS K E J H (DS.forL w.gd g ms (w.its.drop (i+1)) env S) D,λσ' H' wq=>⟨m-1,by nofun,wq⟩,λx H' y=>?_⟩;obtain⟨a2,g2,rx⟩:=ok.yld i H J S x H' ha gr gd y _ (xG hi);cases eg:g S w.its[i] env with
   | none=>rw[eg]at q;exact False.elim q
   | some env'=>
    rw[eg]at q;refine⟨env,S,J,w.its[i],env',a2,he.grow g2,rx,eg,λσ2 he2=>⟨env',S,J,a2,he2,?_⟩⟩;simp only at q;cases e:ms env' S with
    | nx e1 S2=>rw[e]at q;exact λJ' H' σ' h1 g3 h2=>⟨by nofun,e1,S2,J',h1,gr.trans (g2.trans g3),h2,PostS.grow (g2.trans g3) q⟩
    | ct e1 S2=>rw[e]at q;exact λJ' H' σ' h1 g3 h2=>⟨by nofun,e1,S2,J',h1,gr.trans (g2.trans g3),h2,PostS.grow (g2.trans g3) q⟩
    | bk e1 S2=>rw[e]at q;exact λJ' H' σ' h1 g3 h2=>q J' H' σ' h1 (g2.trans g3) h2
    | rt e1 S2=>rw[e]at q;exact λJ' H' σ' h1 g3 h2=>q J' H' σ' h1 (g2.trans g3) h2
    | ex e1 S2=>rw[e]at q;exact λJ' H' h1 g3=>q J' H' h1 (g2.trans g3)
    | bad=>rw[e]at q;exact q
  ·rw[xg gd]at q;exact False.elim q
 ·have e0:w.its.drop i=[]:=List.drop_eq_nil_of_le (by nofun);rw[e0]at q;unfold DS.forL at q;by_cases gd:DS.gOk S w.gd
  ·rw[xf gd]at q;exact .inl ⟨ok.stop i H J S ha gr gd (by nofun),q J H σ ha .refl he⟩
  ·rw[xg gd]at q;exact False.elim q⟩⟩
def zNk{own:List Str}{ix:List Nat}(he:RepE K J H env σ):RepE K J H (DS.compEnv own.length ix env) (zE6 own ix σ):=by
 refine⟨by simp[DS.compEnv,zE6],λi d e=>?_⟩;unfold DS.compEnv at e;unfold zE6;by_cases hi:i<own.length
 ·rw[vh (by simpa using hi),List.getElem?_replicate,xf hi]at e;cases e
 ·rw[vj (by simpa using hi),xQ]at e;rw[vj (by simpa using hi),xQ];simp only[List.length_replicate,xn]at e ⊢;cases ej:ix[i-own.length]? with
  | none=>rw[ej]at e;cases e
  | some j=>
   rw[ej]at e;simp only[vH,Option.some.injEq]at e ⊢;cases en:env[j]? with
   | none=>rw[en]at e;cases e
   | some o=>
    rw[en]at e;obtain⟨v,ev,r⟩:=he.get j d (by rw[en];exact congrArg some e);exact⟨v,by rw[ev];rfl,r⟩
def zMh{own:List Str}{ix:List Nat}:∀σ H Q,tOfF K E (DS.zAn own.length ix im g mt m) σ H Q->zKh own ix (iOf K E im) (gOf K g) (ttOf K E mt) (tOf K E m) σ H Q:=by
 refine λσ H Q ⟨env,St,J,ha,hE,q⟩=>⟨env,St,J,ha,hE,q.bind.imp λw S1 J1 H1 _ a1 g1 q1 I ok=>?_⟩
 refine⟨λi k ys σ H=>k+i=w.its.length/\∃env S J ds,AbS K J S H/\Grow J1 H1 J H/\RepE K J H env σ/\RepL K J H ds ys/\Post K E J H (DS.zCy w.gd g mt m ys.length (w.its.drop i) env S) (λvs S2 J2 H2=>∀p o,H2 p=none->ObD K J2 H2 (.lst (ds++vs)) o->Q (.ref p) (upd H2 p o)),
  ⟨w.its.length,rfl,_,S1,J1,[],a1,.refl,zNk (hE.grow g1),rfl,q1.bind.imp λvs S2 J2 H2 _ a2 g2 q2=>q2 J2 H2 a2 .refl⟩,?_⟩
 rintro i k ys σ H ⟨hk,env,S,J,ds,ha,gr,hE,rl,q⟩;by_cases hi:i<w.its.length
 ·rw[zMc hi]at q;unfold DS.zCy at q;by_cases gd:DS.gOk S w.gd/\ys.length<DS.most
  ·rw[xf gd]at q;refine .inr ⟨ok.go i H J S ha gr gd.1 hi,gd.2,λys σ H=>(k-1)+(i+1)=w.its.length/\∃env S J ds,AbS K J S H/\Grow J1 H1 J H/\RepE K J H env σ/\RepL K J H ds ys/\Post K E J H (DS.zCy w.gd g mt m ys.length (w.its.drop (i+1)) env S) (λvs S2 J2 H2=>∀p o,H2 p=none->ObD K J2 H2 (.lst (ds++vs)) o->Q (.ref p) (upd H2 p o)),
    λzs σ' H' wq=>⟨k-1,by nofun,wq⟩,λx H' y=>?_⟩
   obtain⟨a2,g2,rx⟩:=ok.yld i H J S x H' ha gr gd.1 y _ (xG hi);cases eg:g S w.its[i] env with
   | none=>rw[eg]at q;exact False.elim q
   | some env'=>
    rw[eg]at q;refine⟨env,S,J,w.its[i],env',a2,hE.grow g2,rx,eg,λσ2 he2=>⟨env',S,J,a2,he2,(Post.grow g2 q).bind.imp λb S3 J3 H3 _ a3 g3 q3=>?_⟩⟩;cases b with
    | false=>exact⟨by nofun,env',S3,J3,ds,a3,gr.trans (g2.trans g3),he2.grow g3,RepL.grow (g2.trans g3) _ _ rl,q3⟩
    | true=>
     rw[xf rfl]at q3 ⊢;refine⟨env',S3,J3,a3,he2.grow g3,q3.bind.imp λd4 S4 J4 H4 _ a4 g4 q4 v rv=>?_⟩;have g24:=g2.trans (g3.trans g4);refine⟨by nofun,env',S4,J4,ds++[d4],a4,gr.trans g24,he2.grow (g3.trans g4),(RepL.grow g24 _ _ rl).snoc rv,?_⟩;rw[show(ys++[v]).length=ys.length+1 by simp];refine q4.bind.imp λvs S5 J5 H5 _ a5 g5 q5=>?_
     have:=q5 J5 H5 a5 .refl;rw[xD];exact this
  ·rw[xg gd]at q;exact False.elim q
 ·have e0:w.its.drop i=[]:=List.drop_eq_nil_of_le (by nofun);rw[e0]at q;unfold DS.zCy at q;by_cases gd:DS.gOk S w.gd
  ·rw[xf gd]at q;have q2:∀(p:Addr) (o:HO),H p=none->ObD K J H (.lst (ds++[])) o->Q (.ref p) (upd H p o):=q J H ha .refl
   rw[vT]at q2;exact .inl ⟨ok.stop i H J S ha gr gd (by nofun),λp n=>q2 p (.lst ys) n ⟨ys,rfl,rl⟩⟩
  ·rw[xg gd]at q;exact False.elim q
def of_imp:∀σ H Q,tOf K E m σ H Q->tOfF K E m σ H Q:=λσ H Q hz8=>by obtain⟨env,S,J,ha,he,q⟩:=hz8;exact ⟨env,S,J,ha,he,q.map λd S' J' H' _ h1 g k p o n r=>k J' (upd H' p o) (h1.push n) (g.trans (.push n)) (.ref p) (r.rep h1 n)⟩
def zW3 :∀D σ H,tsOf K E (DS.sSet j m) D σ H->tOf K E m σ H (λx H1=>gName j x σ H1 D.nx):=λD σ H hz9=>by obtain⟨env,S,J,ha,he,q⟩:=hz9;exact ⟨env,S,J,ha,he,q.then.imp λd S1 J1 H1 _ a1 g1 q1 v rv=>q1 J1 H1 _ a1 .refl ((he.grow g1).set rv)⟩
def zBv{ix:List Nat}{n:Nat}{elt:Expr}{ifs:List Expr}{g:DS.GM}(hc:X.calm=true)(S:CompScope X own fre ix scope)(hi:DI X K E tg iter im)
  (hg:∀cl C s H fp,DG (zAp X (own++fre) scope cl C s H fp) K tg g) (ht:∀cl C s H fp,DIf (zAp X (own++fre) scope cl C s H fp) K E ifs mt) (he:∀cl C s H fp,DE (zAp X (own++fre) scope cl C s H fp) K E elt m)
  (hn:own.length=n:=by rfl) (h:nse iter=true:=by rfl):DF X K E (.ListComp elt [⟨tg,iter,ifs,0⟩] scope pos) (DS.zAn n ix im g mt m):=by
 subst hn;exact⟨(qlcomp' hc S hi.h (λ_ _ _ _ _=>(hg _ _ _ _ _).h) (λ_ _ _ _ _=>(ht _ _ _ _ _).h) (λ_ _ _ _ _=>(he _ _ _ _ _).h) h).imp zMh⟩
def zG0{own fre:List Str}{ix:List Nat}{n:Nat}{scope:Scope}{j:Nat}{cpos pos':Pos}{tg elt iter:Expr}{ifs:List Expr}{im:DS.IM}{g:DS.GM}(hN:X.N.Nodup)(hix:X.N[j]?=some x)(hx:Loc X.env.scope x)
  (hc:X.calm=true) (S:CompScope X own fre ix scope) (hi:DI X K E tg iter im)
  (hg:∀cl C s H fp,DG (zAp X (own++fre) scope cl C s H fp) K tg g) (ht:∀cl C s H fp,DIf (zAp X (own++fre) scope cl C s H fp) K E ifs mt) (he:∀cl C s H fp,DE (zAp X (own++fre) scope cl C s H fp) K E elt m)
  (hsw:swapsWith (.ListComp elt [⟨tg,iter,ifs,0⟩] scope cpos) (some (.Name x pos')) pos.line X.env=pure true:=by rfl) (h:nse iter=true:=by rfl) (hf:X.fn x=true\/X.env.scope.names.lookup x=some .local:=by first|exact .inl rfl|exact .inr rfl|assumption) (hn:own.length=n:=by rfl):
  DS1 X K E (.Assign [.Name x pos'] (.ListComp elt [⟨tg,iter,ifs,0⟩] scope cpos) pos) (DS.sSet j (DS.zAn n ix im g mt m)):=by
 subst hn;exact⟨(qsetc' hN hix hx hc S hi.h (λ_ _ _ _ _=>(hg _ _ _ _ _).h) (λ_ _ _ _ _=>(ht _ _ _ _ _).h) (λ_ _ _ _ _=>(he _ _ _ _ _).h) hsw h hf).imp λD σ H h=>zMh σ H _ (of_imp σ H _ (zW3 D σ H h))⟩
end
section
variable {P:Program}{w:World}{K:PySem.W.Frag}{mg:Str->Option Value}{base:Heap}
def zK2{np:Nat}{ds:List D}{P:D->Store->Js->Hp->Prop}(h:Post K E J H (DS.zB9 np nl b ds S) P):ds.length=np:=by
 unfold DS.zB9 at h;by_cases e:ds.length=np
 ·exact e
 ·rw[xg e]at h;exact False.elim h
def zLf{ds:List D}{N:List Str}(r:RepL K J H ds vs):RepE K J H (ds.map some++List.replicate (N.length-ds.length) none) (start N vs):=by
 refine⟨by simp[start,r.length],λi d e=>?_⟩;unfold start;by_cases hi:i<ds.length
 ·rw[vh (by simpa using hi),xQ]at e;rw[vh (by simpa[<- r.length]using hi),xQ];cases ed:ds[i]? with
  | none=>rw[ed]at e;cases e
  | some d'=>
   rw[ed]at e;cases e;obtain⟨x,ex,rx⟩:=r.get ed;exact⟨x,by rw[ex];rfl,rx⟩
 ·rw[vj (by simpa using hi),List.getElem?_replicate]at e;split at e <;> cases e
def zYt{np:Nat}{N:List Str}{b:DS.SM}{Q:VK}(ha:AbS K J S H)(r:RepL K J H ds vs)
  (h:Post K XE0 J H (DS.zB9 np N.length b ds S) (λd _ J' H'=>∀v,Rep K J' H' d v->Q v H')):tsOf K XE0 b { nx:=λ_ H'=>Q .non H',rt:=Q } (start N vs) H:=by
 have hl:=zK2 h;unfold DS.zB9 at h;rw[xf hl,<- hl]at h;refine⟨_,S,J,ha,zLf r,?_⟩;have fin:∀d S' J' H' v,AbS K J' S' H'->Grow J H J' H'->Rep K J' H' d v->Post K XE0 J H (DS.fin S d S') (λd _ J' H'=>∀v,Rep K J' H' d v->Q v H')->Q v H':=λd S' J' H' v a1 g1 r1 q=>by
  cases e:DS.fin S d S' with
  | ok d2 S2=>
   obtain⟨J2,a2,g2,r2⟩:=yBz ha g1 a1 r1 e;rw[e]at q;exact q J2 H' a2 g2 v r2
  | ex x S2=>rw[e]at q;exact False.elim (q J' H' (by
    exfalso;unfold DS.fin at e;split at e <;> try cases e
    split at e <;> try cases e
    split at e <;> try cases e
    split at e <;> try cases e
    split at e <;> cases e) g1)
  | bad=>rw[e]at q;exact False.elim q
 cases e:b (ds.map some++List.replicate (N.length-ds.length) none) S with
 | nx e1 S1=>rw[e]at h;exact λJ' H' σ h1 g1 _=>fin .non S1 J' H' .non h1 g1 rfl h
 | rt d S1=>rw[e]at h;exact λJ' H' v h1 g1 r1=>fin d S1 J' H' v h1 g1 r1 h
 | bk e1 S1=>rw[e]at h;exact False.elim h
 | ct e1 S1=>rw[e]at h;exact False.elim h
 | ex x S1=>rw[e]at h;exact h
 | bad=>rw[e]at h;exact False.elim h
def fn_d{k:Nat}{x qual:Str}{st:Stmt}{f:Addr}{fd:FuncData}{N ps:List Str}{np nl:Nat}{b:DS.SM}(F:Fun K x qual st f fd)(Sc:zAv N ps (zA7 st))(hnp:ps.length=np)(hnl:N.length=nl)
  (hb:∀(cdv:Value) (A:Around) (outer:List PySem.Env) (s:Shared) (H:Hp) (E:XK),Room k (A.deeper (envOfC qual (zA7 st) s.heap.objs.size f cdv))->DSs (cxOf CX0 P w K mg base N qual (zA7 st) f cdv A outer s H E).nox K XE0 (zCo st) b):
  FnOk P w K mg base CX0 (k+1) f fd ps (spOf K XE0 (DS.zB9 np nl b)):=by
 subst hnp hnl;refine F.ok (k:=k) Sc (λvs H Q E h=>?_) (λcdv A outer s H vs Q E hr h=>?_)
 ·obtain⟨J,S,ds,ha,r,q⟩:=h;rw[<- r.length];exact zK2 q
 ·obtain⟨J,S,ds,ha,r,q⟩:=h;exact⟨_,(hb cdv A outer s H E hr).h.h,zYt ha r q⟩
def zU3{np:Nat}{N:List Str}{b:DS.SM}{ds:List D}{Q:VK}(hl:ds.length=np)(ha:AbS K J S H)(r:RepL K J H ds vs)
  (h:Post K XE0 J H (DS.zIx np N.length b ds S) (λd _ J' H'=>∀v,Rep K J' H' d v->Q v H')):tsOf K XE0 b { nx:=λ_ H'=>Q .non H',rt:=Q } (start N vs) H:=by
 unfold DS.zIx at h;rw[xf hl,<- hl]at h;refine⟨_,S,J,ha,zLf r,?_⟩;cases e:b (ds.map some++List.replicate (N.length-ds.length) none) S with
 | nx e1 S1=>rw[e]at h;exact λJ' H' σ h1 g1 _=>h J' H' h1 g1 .non rfl
 | rt d S1=>rw[e]at h;exact λJ' H' v h1 g1 r1=>h J' H' h1 g1 v r1
 | bk e1 S1=>rw[e]at h;exact False.elim h
 | ct e1 S1=>rw[e]at h;exact False.elim h
 | ex x S1=>rw[e]at h;exact h
 | bad=>rw[e]at h;exact False.elim h
def fn_r{k:Nat}{x qual:Str}{st:Stmt}{f:Addr}{fd:FuncData}{N ps:List Str}{np nl:Nat}{b:DS.SM}(F:Fun K x qual st f fd)(Sc:zAv N ps (zA7 st))(hnp:ps.length=np)(hnl:N.length=nl)
  (hb:∀(cdv:Value) (A:Around) (outer:List PySem.Env) (s:Shared) (H:Hp) (E:XK),Room k (A.deeper (envOfC qual (zA7 st) s.heap.objs.size f cdv))->DSs (cxOf CX0 P w K mg base N qual (zA7 st) f cdv A outer s H E).nox K XE0 (zCo st) b):
  FnOk P w K mg base CX0 (k+1) f fd ps (spOf K XE0 (DS.zIx np nl b)):=by
 subst hnp hnl;have cl:∀{J:Js}{H:Hp}{ds:List D}{S:Store}{P:D->Store->Js->Hp->Prop},Post K XE0 J H (DS.zIx ps.length N.length b ds S) P->ds.length=ps.length:=λ{J H ds S P} h=>by
  unfold DS.zIx at h;by_cases e:ds.length=ps.length
  ·exact e
  ·rw[xg e]at h;exact False.elim h
 refine F.ok (k:=k) Sc (λvs H Q E h=>?_) (λcdv A outer s H vs Q E hr h=>?_)
 ·obtain⟨J,S,ds,ha,r,q⟩:=h;rw[<- r.length];exact cl q
 ·obtain⟨J,S,ds,ha,r,q⟩:=h;exact⟨_,(hb cdv A outer s H E hr).h.h,zU3 (cl q) ha r q⟩
end
end L2
namespace DS
open PySem (Str)
section
open Classical
def big:Nat:=2 ^ 5000
def sm(x:Int):Prop:=x.natAbs<big
def zJ7{x:Int}(h1:-(2 ^ 200)<x)(h2:x<2 ^ 200):sm x:=by
 have h:(2:Nat) ^ 200<=big:=v5 (by decide) (by decide);have e:((2 ^ 200:Nat):Int)=2 ^ 200:=by norm_cast
 unfold sm;lia
noncomputable def addD (S:Store) (x y:D):Option D:=match x,y with
 | .int a,.int b=>some (.int (a+b))
 | .str a,.str b=>if a.length+b.length<=most then some (.str (a++b))else none
 | .tup l,.tup m=>if l≠[]/\l.length+m.length<=most then some (.tup (l++m))else none
 | x,y=>match litems S x,litems S y with
  | some l,some m=>if l.length+m.length<=most then some (.lst (l++m))else none
  | _,_=>none
noncomputable def catD (S:Store) (x y:D):Option D:=match litems S x,litems S y with
 | some l,some m=>if l.length+m.length<=most then some (.lst (l++m))else none
 | _,_=>none
noncomputable def subD (_:Store) (x y:D):Option D:=match x,y with
 | .int a,.int b=>some (.int (a-b))
 | _,_=>none
noncomputable def mulD (S:Store) (x y:D):Option D:=match x,y with
 | .int a,.int b=>if sm a/\sm b then some (.int (a*b))else none
 | _,_=>none
noncomputable def zH2 (_:Store) (x y:D):Option D:=match x,y with
 | .int a,.int b=>if b≠0/\sm b then some (.int (a.fdiv b))else none
 | _,_=>none
noncomputable def modD (_:Store) (x y:D):Option D:=match x,y with
 | .int a,.int b=>if 0<b then some (.int (a % b))else none
 | _,_=>none
noncomputable def powD (_:Store) (x y:D):Option D:=match x,y with
 | .int a,.int b=>if 0<=b/\b<=1000000/\a.natAbs<2 ^ 64 then some (.int (a ^ b.toNat))else none
 | _,_=>none
noncomputable def shlD (_:Store) (x y:D):Option D:=match x,y with
 | .int a,.int b=>if 0<=b/\b<=1000000/\a.natAbs<2 ^ 64 then some (.int (a*2 ^ b.toNat))else none
 | _,_=>none
noncomputable def shrD (_:Store) (x y:D):Option D:=match x,y with
 | .int a,.int b=>if 0<=b then some (.int (a / 2 ^ b.toNat))else none
 | _,_=>none
noncomputable def andD (_:Store) (x y:D):Option D:=match x,y with
 | .int a,.int b=>if 0<=a/\0<=b then some (.int ((a.toNat &&& b.toNat:Nat):Int))else none
 | _,_=>none
noncomputable def orD (_:Store) (x y:D):Option D:=match x,y with
 | .int a,.int b=>if 0<=a/\0<=b then some (.int ((a.toNat ||| b.toNat:Nat):Int))else none
 | _,_=>none
noncomputable def gtD (_:Store) (x y:D):Option D:=match x,y with
 | .int a,.int b=>some (.bl (decide (b<a)))
 | _,_=>none
noncomputable def geD (_:Store) (x y:D):Option D:=match x,y with
 | .int a,.int b=>some (.bl (decide (b<=a)))
 | _,_=>none
noncomputable def ixN (n:Nat) (i:Int):Option Nat:=if 0<=i then(if i<n then some i.toNat else none)else if -(n:Int)<=i then some (i+n).toNat else none
noncomputable def atL {α:Type}(xs:List α) (i:Int):Option α:=(ixN xs.length i).bind λj=>xs[j]?
noncomputable def look2 (ks vs:List D) (k:D):Option D:=match ks,vs with
 | a::r,v::t=>if a=k then some v else look2 r t k
 | _,_=>none
noncomputable def isKey:D->Bool
 | .int _=>true
 | .str _=>true
 | .tup l=>l.all λd=>match d with
  | .int _=>true
  | .str _=>true
  | _=>false
 | _=>false
def zBa(t:Bool)(k:D):Bool:=isKey k && (match k with
 | .tup _=>t
 | _=>!t)
noncomputable def ixD (S:Store) (x y:D):Option D:=match look S x,y with
 | some (.tup l),.int i=>atL l i
 | some (.lst l),.int i=>atL l i
 | some (.str z),.int i=>if z.length<=most then(atL z.cps.toList i).map λc=>.str ⟨#[c]⟩else none
 | some (.dct t ks vs),k=>if zBa t k=true then look2 ks vs k else none
 | _,_=>none
noncomputable def sIx (n d:Nat):Option Int->Nat
 | none=>d
 | some v=>if v<0 then(v+(n:Int)).toNat else min v.toNat n
noncomputable def cutL {α:Type}(xs:List α) (lo hi:Option Int):List α:=(xs.drop (sIx xs.length 0 lo)).take (sIx xs.length xs.length hi-sIx xs.length 0 lo)
noncomputable def slD (S:Store) (x:D) (lo hi:Option Int):Option D:=match x with
 | .tup l=>some (.tup (cutL l lo hi))
 | .ktup l=>if sIx l.length 0 lo=0/\sIx l.length l.length hi=l.length then some (.ktup l)else some (.tup (cutL l lo hi))
 | x=>match look S x with
  | some (.lst l)=>some (.lst (cutL l lo hi))
  | _=>none
noncomputable def revL (S:Store) (x:D):Option D:=match look S x with
 | some (.lst l)=>some (.lst l.reverse)
 | _=>none
noncomputable def repl2:List D->List D->D->D->List D
 | a::r,w::t,k,v=>(if a=k then v else w)::repl2 r t k v
 | _,_,_,_=>[]
noncomputable def put2 (ks vs:List D) (k v:D):List D × List D:=if k∈ks then(ks,repl2 ks vs k v)else(ks++[k],vs++[v])
noncomputable def putD (S:Store) (o k v:D):Option Store:=match o with
 | .ref n=>match S[n]? with
  | some (.lst l)=>(match k with
   | .int i=>(ixN l.length i).map λj=>S.set n (.lst (l.set j v))
   | _=>none)
  | some (.dct t ks vs)=>if zBa t k=true/\ks.length<most then some (S.set n (.dct t (put2 ks vs k v).1 (put2 ks vs k v).2))else none
  | _=>none
 | _=>none
noncomputable def lenB (S:Store):List D->Option D
 | [d]=>match look S d with
  | some (.tup l)=>some (.int l.length)
  | some (.lst l)=>some (.int l.length)
  | some (.dct _ ks _)=>some (.int ks.length)
  | some (.str x)=>if x.length<=most then some (.int x.length)else none
  | _=>none
 | _=>none
noncomputable def zAz (S:Store):List D->Option D
 | [d]=>match d with
  | .tup l=>some (.tup l)
  | .ktup l=>some (.ktup l)
  | d=>(litems S d).map D.tup
 | _=>none
noncomputable def bools:List D->Option (List Bool)
 | []=>some []
 | .bl b::r=>(bools r).map (b::·)
 | _=>none
noncomputable def allB (S:Store):List D->Option D
 | [d]=>((litems S d).bind bools).map λbs=>.bl (bs.all id)
 | _=>none
noncomputable def anyB (S:Store):List D->Option D
 | [d]=>((litems S d).bind bools).map λbs=>.bl (bs.any id)
 | _=>none
noncomputable def max2B (_:Store):List D->Option D
 | [.int i,.int j]=>some (.int (if j > i then j else i))
 | _=>none
def kinds:List String:=["int","bool","str","tuple","list","NoneType"]
def zQ3(U T:String):Bool:=U == T || (U == "bool" && T == "int")
noncomputable def isiB (S:Store):List D->Option D
 | [d,.ty T]=>match d with
  | .ktup _=>none
  | .klst _=>none
  | d=>match tyD S d with
   | some U=>if U∈kinds/\T∈kinds then some (.bl (zQ3 U T))else none
   | none=>none
 | _=>none
noncomputable def zCa (S:Store) (o:D) (xs:List D):Option (D × Store):=match o,xs with
 | .ref n,[v]=>match S[n]? with
  | some (.lst l)=>if l.length<most then some (.non,S.set n (.lst (l++[v])))else none
  | _=>none
 | _,_=>none
noncomputable def popM (S:Store) (o:D) (xs:List D):Option (D × Store):=match o,xs with
 | .ref n,[]=>match S[n]? with
  | some (.lst l)=>(l[l.length-1]?).map λv=>(v,S.set n (.lst l.dropLast))
  | _=>none
 | _,_=>none
noncomputable def zF2 (S:Store) (o:D) (xs:List D):Option (D × Store):=match o,xs with
 | .ref n,[d]=>if d=.ref n then none else match S[n]?,litems S d with
  | some (.lst l),some m=>if l.length+m.length<=most then some (.non,S.set n (.lst (l++m)))else none
  | _,_=>none
 | _,_=>none
end
end DS
namespace L2
open PySem PySem.Spec PyProof.Rows
open DS (D Store Exn Rs SR)
section
variable {X:Cx}{K:PySem.W.Frag}{E:XE}{J:Js}{S:Store}{H:Hp}{d d1 d2:D}{v:V}
def Inv.lstR{s:Shared}{xs:List V}(I:Inv X pins σ H s)(hH:Rd H l (.lst xs)):xs.length<=sizeLine/\∃(its:List Value) (n:Nat),Vals xs its/\xs.length=its.length/\s.heap.get? l=some { cls:=.type "list",data:=.seq its.toArray n }:=by obtain⟨z,its,n,r,e⟩:=hH.ok I.hok;exact⟨z,its,n,r,r.length,e⟩
def zCi(ha:AbS K J S H)(r:Rep K J H d v)(e:DS.litems S d=some l):∃a xs,v=.ref a/\Rd H a (.lst xs)/\RepL K J H l xs:=by
 cases d with
 | lst ds=>cases e;obtain⟨a,xs,rfl,t,rl⟩:=r;exact⟨a,xs,rfl,.inl t.1,rl⟩
 | ref n=>
  obtain⟨a,ea,rfl⟩:=r;obtain⟨c,ec,o,eo,rc⟩:=ha.at ea;unfold DS.litems DS.look at e;simp only[ec]at e;cases c with
  | lst ds=>cases e;obtain⟨xs,rfl,rl⟩:=rc;exact⟨a,xs,rfl,.inl eo,rl⟩
  | dct _ ks vs=>cases e
  | _=>exact False.elim rc
 | _=>cases e
def zFx(ha:AbS K J S H)(r:Rep K J H d v)(e:DS.items S d=some l):∃a xs,v=.ref a/\(SqL K H a xs\/SqT K H a xs)/\RepL K J H l xs:=by
 cases d with
 | tup ds=>cases e;obtain⟨a,xs,rfl,t,rl⟩:=r;exact⟨a,xs,rfl,.inr t.sq,rl⟩
 | ktup ds=>cases e;obtain⟨a,xs,rfl,t,rl⟩:=r;exact⟨a,xs,rfl,.inr t.sq,rl⟩
 | klst ds=>cases e;obtain⟨a,xs,rfl,t,rl⟩:=r;exact⟨a,xs,rfl,.inl t.sq,rl⟩
 | lst ds=>cases e;obtain⟨a,xs,rfl,t,rl⟩:=r;exact⟨a,xs,rfl,.inl t.sq,rl⟩
 | ref n=>
  obtain⟨a,ea,rfl⟩:=r;obtain⟨c,ec,o,eo,rc⟩:=ha.at ea;unfold DS.items DS.look at e;simp only[ec]at e;cases c with
  | lst ds=>cases e;obtain⟨xs,rfl,rl⟩:=rc;exact⟨a,xs,rfl,.inl (.inl (.inl eo)),rl⟩
  | dct _ ks vs=>cases e
  | _=>exact False.elim rc
 | _=>cases e
def zBf:OpR X (binaryOp .Sub) (r2Of K DS.subD):=by
 intro pins s σ H x y v u Q I rx ry hq7;obtain⟨J,S,d1,d2,d,ha,r1,r2,e,k⟩:=hq7;unfold DS.subD at e;split at e
 ·cases e;obtain rfl:=r1;obtain rfl:=r2;exact yAp pins s σ H _ _ v u Q I rx ry ⟨_,_,rfl,rfl,k _ H ha .refl rfl⟩
 ·cases e
def zC6:OpR X (binaryOp .Mult) (r2Of K DS.mulD):=by
 intro pins s σ H x y v u Q I rx ry hq8;obtain⟨J,S,d1,d2,d,ha,r1,r2,e,k⟩:=hq8;unfold DS.mulD at e;split at e
 ·split at e
  ·rename_i h;cases e;obtain rfl:=r1;obtain rfl:=r2;exact zX6 pins s σ H _ _ v u Q I rx ry ⟨_,_,rfl,rfl,h,k _ H ha .refl rfl⟩
  ·cases e
 ·cases e
def zI4:OpR X (binaryOp .FloorDiv) (r2Of K DS.zH2):=by
 intro pins s σ H x y v u Q I rx ry hq9;obtain⟨J,S,d1,d2,d,ha,r1,r2,e,k⟩:=hq9;unfold DS.zH2 at e;split at e
 ·split at e
  ·rename_i h;cases e;obtain rfl:=r1;obtain rfl:=r2;exact zSr pins s σ H _ _ v u Q I rx ry ⟨_,_,rfl,rfl,h,k _ H ha .refl rfl⟩
  ·cases e
 ·cases e
def zC7:OpR X (binaryOp .Mod) (r2Of K DS.modD):=by
 intro pins s σ H x y v u Q I rx ry hq10;obtain⟨J,S,d1,d2,d,ha,r1,r2,e,k⟩:=hq10;unfold DS.modD at e;split at e
 ·split at e
  ·rename_i h;cases e;obtain rfl:=r1;obtain rfl:=r2;exact yAt pins s σ H _ _ v u Q I rx ry ⟨_,_,rfl,rfl,h,k _ H ha .refl rfl⟩
  ·cases e
 ·cases e
def zI3:OpR X (binaryOp .Pow) (r2Of K DS.powD):=by
 intro pins s σ H x y v u Q I rx ry hq11;obtain⟨J,S,d1,d2,d,ha,r1,r2,e,k⟩:=hq11;unfold DS.powD at e;split at e
 ·split at e
  ·rename_i h;cases e;obtain rfl:=r1;obtain rfl:=r2;exact yAs pins s σ H _ _ v u Q I rx ry ⟨_,_,rfl,rfl,h,k _ H ha .refl rfl⟩
  ·cases e
 ·cases e
def zP5:OpR X (binaryOp .LShift) (r2Of K DS.shlD):=by
 intro pins s σ H x y v u Q I rx ry hq12;obtain⟨J,S,d1,d2,d,ha,r1,r2,e,k⟩:=hq12;unfold DS.shlD at e;split at e
 ·split at e
  ·rename_i h;cases e;obtain rfl:=r1;obtain rfl:=r2;exact yAr pins s σ H _ _ v u Q I rx ry ⟨_,_,rfl,rfl,h,k _ H ha .refl rfl⟩
  ·cases e
 ·cases e
def zX5:OpR X (binaryOp .RShift) (r2Of K DS.shrD):=by
 intro pins s σ H x y v u Q I rx ry hq13;obtain⟨J,S,d1,d2,d,ha,r1,r2,e,k⟩:=hq13;unfold DS.shrD at e;split at e
 ·split at e
  ·rename_i h;cases e;obtain rfl:=r1;obtain rfl:=r2;exact yAq pins s σ H _ _ v u Q I rx ry ⟨_,_,rfl,rfl,h,k _ H ha .refl rfl⟩
  ·cases e
 ·cases e
def bAnd{a b:Int}(h1:0<=a)(h2:0<=b):Builtin.bitAnd a b=((a.toNat &&& b.toNat:Nat):Int):=by unfold Builtin.bitAnd;rw[xx h1,xx h2]
def bOr{a b:Int}(h1:0<=a)(h2:0<=b):Builtin.bitOr a b=((a.toNat ||| b.toNat:Nat):Int):=by
 have n1:decide (0<=Builtin.bitNot a)=false:=xC (by unfold Builtin.bitNot;lia);have n2:decide (0<=Builtin.bitNot b)=false:=xC (by unfold Builtin.bitNot;lia);have e:∀z:Int,Builtin.bitNot (Builtin.bitNot z)=z:=λz=>by unfold Builtin.bitNot;lia
 unfold Builtin.bitOr Builtin.bitAnd;rw[n1,n2,e,e,e]
def zP7:OpR X (binaryOp .BitAnd) (r2Of K DS.andD):=by
 intro pins s σ H x y v u Q I rx ry hq14;obtain⟨J,S,d1,d2,d,ha,r1,r2,e,k⟩:=hq14;unfold DS.andD at e;split at e
 ·split at e
  ·rename_i h;cases e;obtain rfl:=r1;obtain rfl:=r2;exact yAv pins s σ H _ _ v u Q I rx ry ⟨_,_,rfl,rfl,by show Q (.int (Builtin.bitAnd _ _)) H;rw[bAnd h.1 h.2];exact k _ H ha .refl rfl⟩
  ·cases e
 ·cases e
def zUq:OpR X (binaryOp .BitOr) (r2Of K DS.orD):=by
 intro pins s σ H x y v u Q I rx ry hq15;obtain⟨J,S,d1,d2,d,ha,r1,r2,e,k⟩:=hq15;unfold DS.orD at e;split at e
 ·split at e
  ·rename_i h;cases e;obtain rfl:=r1;obtain rfl:=r2;exact yCx pins s σ H _ _ v u Q I rx ry ⟨_,_,rfl,rfl,by show Q (.int (Builtin.bitOr _ _)) H;rw[bOr h.1 h.2];exact k _ H ha .refl rfl⟩
  ·cases e
 ·cases e
def zR0{xs ys:List V}{Q:VK}(I:Inv X pins σ H s)(h1:Rd H a (.lst xs))(h2:Rd H b (.lst ys))(hz:xs.length+ys.length<=sizeLine)(q:∀p,H p=none->Q (.ref p) (upd H p (.lst (xs++ys)))):
  wpAny (model X.prog X.w) X.A (binaryOp .Add (.ref a) (.ref b)) (EP X pins σ Q) X.xe s:=by
 obtain⟨z,its,n,r,hl,e⟩:=I.lstR h1;obtain⟨z2,its2,n2,r2,hl2,e2⟩:=I.lstR h2;refine PySem.P.add_list e e2 ?_ (by rw[xA,xA,<- hl,<- hl2];exact hz);rw[show its.toArray++its2.toArray=(its++its2).toArray by simp];exact⟨.ref _,_,I.lnew (t':=s.toks) (r.append r2) (by rw[xw];exact hz),rfl,q _ I.fresh⟩
def zSs:OpR X (binaryOp .Add) (yCq K DS.catD):=by
 intro pins s σ H x y v u Q I rx ry hq16;obtain⟨J,S,d1,d2,d,ha,r1,r2,e,k⟩:=hq16;unfold DS.catD at e;split at e
 ·rename_i l m e1 e2;split at e
  ·rename_i h;cases e;obtain⟨a,xs,rfl,h1,q1⟩:=zCi ha r1 e1;obtain⟨b,ys,rfl,h2,q2⟩:=zCi ha r2 e2;cases rx;cases ry;exact zR0 I h1 h2 (by rw[<- q1.length,<- q2.length];exact h) λp n=>k p _ H ha .refl n ⟨_,rfl,q1.append q2⟩
  ·cases e
 ·cases e
def zAj(hK:X.K=K:=by rfl):OpR X (binaryOp .Add) (r2Of K DS.addD):=by
 subst hK;intro pins s σ H x y v u Q I rx ry hq17;obtain⟨J,S,d1,d2,d,ha,r1,r2,e,k⟩:=hq17;unfold DS.addD at e;split at e
 ·cases e;obtain rfl:=r1;obtain rfl:=r2;exact yAw pins s σ H _ _ v u Q I rx ry ⟨_,_,rfl,rfl,k _ H ha .refl rfl⟩
 ·split at e
  ·rename_i h;cases e;obtain rfl:=r1;obtain rfl:=r2;exact zMz pins s σ H _ _ v u Q I rx ry ⟨_,_,rfl,rfl,h,k _ H ha .refl rfl⟩
  ·cases e
 ·split at e
  ·rename_i l m h;cases e;obtain⟨a,xs,rfl,t1,q1⟩:=r1;obtain⟨b,ys,rfl,t2,q2⟩:=r2;have e1:=q1.length;have e2:=q2.length;refine zX7 pins s σ H _ _ v u Q I rx ry ⟨a,b,xs,ys,rfl,rfl,t1.sq,t2.sq,λz=>h.1 (by subst z;exact uA e1),by rw[<- e1,<- e2];exact h.2,λz=>?_,λz p n=>?_⟩
   ·subst z;obtain rfl:m=[]:=uA e2;rw[vT]at k;exact k _ H ha .refl ⟨a,xs,rfl,t1,q1⟩
   ·exact k _ _ (ha.push n) (.push n) ⟨p,_,rfl,⟨zAm,ha.out n⟩,RepL.grow (.push n) _ _ (q1.append q2)⟩
  ·cases e
 ·exact zSs pins s σ H _ _ v u Q I rx ry ⟨J,S,d1,d2,d,ha,r1,r2,e,λp o H' a1 g1 n r=>k _ _ (a1.push n) (g1.trans (.push n)) (r.rep a1 n)⟩
def zH6:OpR X (compareOp .Gt) (r2Of K DS.gtD):=by
 intro pins s σ H x y v u Q I rx ry hq18;obtain⟨J,S,d1,d2,d,ha,r1,r2,e,k⟩:=hq18;unfold DS.gtD at e;split at e
 ·cases e;obtain rfl:=r1;obtain rfl:=r2;exact yCy pins s σ H _ _ v u Q I rx ry ⟨_,_,rfl,rfl,k _ H ha .refl (congrArg V.bl (by congr))⟩
 ·cases e
def yAu:OpR X (compareOp .GtE) (r2Of K DS.geD):=by
 intro pins s σ H x y v u Q I rx ry hq19;obtain⟨J,S,d1,d2,d,ha,r1,r2,e,k⟩:=hq19;unfold DS.geD at e;split at e
 ·cases e;obtain rfl:=r1;obtain rfl:=r2;exact yCz pins s σ H _ _ v u Q I rx ry ⟨_,_,rfl,rfl,k _ H ha .refl (congrArg V.bl (by congr))⟩
 ·cases e
def yCd{α β:Type}{l:List α}{xs:List β}{i:Int}{a:α}(hl:l.length=xs.length)(e:DS.atL l i=some a):∃j:Nat,l[j]?=some a/\∀b,xs[j]?=some b->atI xs i=some b:=by
 unfold DS.atL at e;unfold atI;rw[show DS.ixN l.length i=L2.ixN xs.length i by rw[hl];rfl]at e;cases e1:L2.ixN xs.length i with
 | none=>rw[e1]at e;cases e
 | some j=>rw[e1]at e;exact⟨j,e,λb eb=>eb⟩
def zFv(h:keyD k=keyD k'):k=k':=by cases k <;> cases k' <;> first|(cases h;rfl)|cases h
def zFu(r:Rep K J H (keyD k) v):v=kV k:=by cases k <;> exact r
def zH8:∀{l m:List Key},l.map keyD=m.map keyD->l=m
 | [],[],_=>rfl
 | [],_::_,h=>by cases h
 | _::_,[],h=>by cases h
 | a::l,b::m,h=>by
  have h:=List.cons.inj h;rw[zFv h.1,zH8 h.2]
def zG3(h:zD5 k=zD5 k'):k=k':=zH8 (D.tup.inj h)
def zHv(h:DS.isKey d=true)(n:∀l,d≠.tup l):∃k,d=keyD k:=by
 cases d with
 | int i=>exact⟨.inl i,rfl⟩
 | str x=>exact⟨.inr x,rfl⟩
 | tup l=>exact absurd rfl (n l)
 | _=>cases h
def keys_of:∀{l:List D},(l.all λd=>match d with
  | .int _=>true
  | .str _=>true
  | _=>false)=true->∃k:List Key,l=k.map keyD
 | [],_=>⟨[],rfl⟩
 | d::l,h=>by
  rw[uk,xM]at h;obtain⟨k,rfl⟩:=keys_of h.2;cases d with
  | int i=>exact⟨.inl i::k,rfl⟩
  | str x=>exact⟨.inr x::k,rfl⟩
  | _=>cases h.1
def zFt:∀{k:List Key}{xs:List V},RepL K J H (k.map keyD) xs->xs=k.map kV
 | [],_,h=>h
 | a::k,_,⟨x,r,e,h,t⟩=>by subst e;rw[zFu h,zFt t];rfl
open Classical in
def zKx{κ:Type}[DecidableEq κ]{f:κ->D}(fi:∀a b,f a=f b->a=b)(k:κ):∀{kvs:List (κ × V)}{vs:List D},RepL K J H vs (kvs.map (·.2))->
  (valV kvs k=none/\f k ∉ kvs.map (λp=>f p.1)/\DS.look2 (kvs.map λp=>f p.1) vs (f k)=none)\/∃w dv,valV kvs k=some w/\f k∈kvs.map (λp=>f p.1)/\DS.look2 (kvs.map λp=>f p.1) vs (f k)=some dv/\Rep K J H dv w
 | [],vs,r=>.inl ⟨rfl,by simp,by cases vs <;> rfl⟩
 | p::kvs,[],r=>by have h:p.2::kvs.map (·.2)=[]:=r;cases h
 | p::kvs,dv::vs,⟨x,t,e,h,rl⟩=>by
  have e:=List.cons.inj (show p.2::kvs.map (·.2)=x::t from e);obtain⟨rfl,rfl⟩:=e;by_cases z:p.1=k
  ·refine .inr ⟨p.2,dv,zFp z,by simp[z],?_,h⟩;unfold DS.look2;rw[xr];exact xf (by rw[z])
  ·have zf:f p.1≠f k:=λq=>z (fi _ _ q)
   have e1:DS.look2 ((p::kvs).map λp=>f p.1) (dv::vs) (f k)=DS.look2 (kvs.map λp=>f p.1) vs (f k):=by
    rw[xr]
    conv=>lhs;unfold DS.look2
    exact xg zf
   rw[zFq z,e1];rcases zKx fi k rl with⟨a1,a2,a3⟩|⟨w,dv',a1,a2,a3,a4⟩
   ·exact .inl ⟨a1,by simp[a2,xv zf] <;> simpa using a2,a3⟩
   ·exact .inr ⟨w,dv',a1,by rw[xr];exact vp _ a2,a3,a4⟩
def zL0(he:Rd H a o)(ht:DOb o t ks xs)(rl:RepL K J H vs xs)(ry:Rep K J H d y)(hk:DS.zBa t d=true):
  (DGet H a y none/\d ∉ ks/\DS.look2 ks vs d=none)\/∃w dv,DGet H a y (some w)/\d∈ks/\DS.look2 ks vs d=some dv/\Rep K J H dv w:=by
 unfold DS.zBa at hk;rw[xM]at hk;rcases ht with⟨rfl,kvs,rfl,rfl,rfl⟩|⟨rfl,kvs,rfl,rfl,rfl⟩
 ·obtain⟨k,rfl⟩:=zHv hk.1 λl z=>by subst z;cases hk.2
  obtain rfl:=zFu ry;rcases zKx (λa b=>zFv) k rl with⟨a1,a2,a3⟩|⟨w,dv,a1,a2,a3,a4⟩
  ·exact .inl ⟨.inl ⟨kvs,k,he,rfl,a1.symm⟩,a2,a3⟩
  ·exact .inr ⟨w,dv,.inl ⟨kvs,k,he,rfl,a1.symm⟩,a2,a3,a4⟩
 ·cases d with
  | tup l=>
   obtain⟨k,rfl⟩:=keys_of (show _=true from hk.1);obtain⟨b,zs,rfl,tb,rz⟩:=ry;obtain rfl:=zFt rz;rcases zKx (f:=zD5) (λa b=>zG3) k rl with⟨a1,a2,a3⟩|⟨w,dv,a1,a2,a3,a4⟩
   ·exact .inl ⟨.inr ⟨kvs,k,b,he,rfl,tb.1,a1.symm⟩,a2,a3⟩
   ·exact .inr ⟨w,dv,.inr ⟨kvs,k,b,he,rfl,tb.1,a1.symm⟩,a2,a3,a4⟩
  | _=>cases hk.2
def zJw(ha:AbS K J S H)(r:Rep K J H d v)(e:DS.look S d=some (.dct t ks vs)):∃a o xs,v=.ref a/\Rd H a o/\DOb o t ks xs/\RepL K J H vs xs:=by
 cases d with
 | dct t ks vs=>cases e;obtain⟨a,o,xs,rfl,_,h,q,rl⟩:=r;exact⟨a,o,xs,rfl,h,q,rl⟩
 | ref n=>
  obtain⟨a,ea,rfl⟩:=r;obtain⟨c,ec,o,eo,rc⟩:=ha.at ea;have e:S[n]?=_:=e;rw[ec]at e;cases e;obtain⟨xs,q,rl⟩:=rc;exact⟨a,o,xs,rfl,.inl eo,q,rl⟩
 | _=>cases e
def zO1(ha:AbS K J S H)(r:Rep K J H d v)(e:DS.look S d=some (.str x)):v=.str x:=by
 cases d with
 | str x=>cases e;exact r
 | ref n=>
  obtain⟨a,ea,rfl⟩:=r;obtain⟨c,ec,o,eo,rc⟩:=ha.at ea;have e:S[n]?=_:=e;rw[ec]at e;cases e;exact False.elim rc
 | _=>cases e
def zCd(e:DS.look S d=some (.tup l)\/DS.look S d=some (.lst l)):DS.items S d=some l:=by unfold DS.items;rcases e with e|e <;> rw[e]
def ix_D(hu:X.A.units+1<cLine)(hK:X.K=K:=by rfl):IxR X (r2Of K DS.ixD):=by
 subst hK;intro value slice pins s σ H x y v u Q I rx ry hq20 hs;obtain⟨J,S,d1,d2,d,ha,r1,r2,e,k⟩:=hq20;have seq:∀(l:List D) (i:Int),DS.items S d1=some l->d2=.int i->DS.atL l i=some d->wpAny (model X.prog X.w) X.A (subscriptTail value slice v u) (EP X pins σ Q) X.xe s:=λl i e1 e2 e3=>by
  subst e2;obtain rfl:=r2;obtain⟨a,xs,rfl,hq,rl⟩:=zFx ha r1 e1;obtain⟨j,ej,h⟩:=yCd (xs:=xs) rl.length e3;obtain⟨w,ew,rw'⟩:=rl.get ej;rcases hq with hq|hq
  ·exact zXq value slice pins s σ H _ _ v u Q I rx ry ⟨a,xs,i,w,rfl,rfl,hq,h w ew,k w H ha .refl rw'⟩ hs
  ·exact yBg value slice pins s σ H _ _ v u Q I rx ry ⟨a,xs,i,w,rfl,rfl,hq,h w ew,k w H ha .refl rw'⟩ hs
 unfold DS.ixD at e;split at e
 ·rename_i l i e1;exact seq l i (zCd (.inl e1)) rfl e
 ·rename_i l i e1;exact seq l i (zCd (.inr e1)) rfl e
 ·rename_i z i e1;split at e
  ·rename_i hz;cases e2:DS.atL z.cps.toList i with
   | none=>rw[e2]at e;cases e
   | some c=>
    rw[e2]at e;cases e;obtain rfl:=zO1 ha r1 e1;obtain rfl:=r2;exact yBh value slice pins s σ H _ _ v u Q I rx ry ⟨z,i,c,rfl,rfl,hz,by unfold DS.atL at e2;unfold atI;exact e2,k _ H ha .refl rfl⟩ hs
  ·cases e
 ·rename_i t ks vs kk e1;split at e
  ·rename_i hk;obtain⟨a,o,xs,rfl,he,q,rl⟩:=zJw ha r1 e1;rcases zL0 he q rl r2 hk with⟨_,_,h⟩|⟨w,dv,g,_,h,rw'⟩
   ·rw[h]at e;cases e
   ·rw[h]at e;cases e;obtain rfl:v=Value.ref a:=rx;exact tail_any (ops:=[.ref a,u]) (zKz I g) PySem.F.slot_dict_getitem.lookup (zQp hu I g ry λw' s3 I3 rw2=>⟨w,H,I3,rw2,k w H ha .refl rw'⟩) hs
  ·cases e
 ·cases e
def zCl{prog:Program}{w:World}{A:Around}{E:Value->Shared->Prop}{s:Shared}{lo hi:Option Int}{Q:Value->Shared->Prop}(ht:IsTup s.heap t items)(hs:s.heap.IsSliceOf sl vl vu .none)(pl:IsPart vl lo)(pu:IsPart vu hi)
  (hw:HT.sIx items.size 0 lo=0/\HT.sIx items.size items.size hi=items.size) (h:Q (.ref t) s):wpAny (model prog w) A (getItem (.ref t) (.ref sl)) Q E s:=by
 obtain⟨os,hos,hcs,hds⟩:=id hs;have hTs:s.TypeIs (.ref sl) "slice":=⟨os,hos,hcs⟩;unfold getItem
 try with_reducible refine xP ?_
 first|refine xc (xh ?_)|skip
 refine xc (wpAny_sequenceKey ht.typeIs (by decide) ?_);refine xc (vv (name:=Str.ofString "__getitem__") ht.typeIs uN (xK uN ht.typeIs entry_tuple_getitem ?_ (args_tuple_getitem _ _)));show wpAny _ _ (Builtin.Tuple.tupleItemsOf (.ref t) >>= _) _ _ s;refine xc (tupleItemsOf_ ht ?_);refine xc (v9 hTs ?_);rw[xf (by decide)];refine xc (HT.sliceApplied_gen hs pl pu ?_);show wpAny _ _ (if(((HT.sIx items.size 0 lo:Nat):Int) == 0 && (1:Int) == 1 && (HT.sIx items.size items.size hi-HT.sIx items.size 0 lo) == items.size)=true then _ else _) _ _ s;rw[xf (by rw[hw.1,hw.2];simp)];have tex:∀{Q:Bool->Shared->Prop},Q true s->wpAny (model prog w) A.in1 (Builtin.Tuple.tupleIsExact (.ref t)) Q E s:=λ{Q} q=>by
  unfold Builtin.Tuple.tupleIsExact;refine xc (v9 ht.typeIs (xh ?_));exact q
 refine xc (tex ?_);rw[xf rfl];refine xc (vt ?_);exact xh ⟨_,rfl,xh h⟩
def zL2(rl:RepL K J H l xs)(lo hi:Option Int):RepL K J H (DS.cutL l lo hi) (cutV xs lo hi):=by unfold DS.cutL cutV;rw[show DS.sIx l.length 0 lo=HT.sIx xs.length 0 lo by rw[rl.length];rfl,show DS.sIx l.length l.length hi=HT.sIx xs.length xs.length hi by rw[rl.length];rfl];exact(rl.drop _).take _
def zQr{xs:List V}{lo hi:Option Int}(rl:RepL K J H l xs)(hw:HT.sIx xs.length 0 lo=0/\HT.sIx xs.length xs.length hi=xs.length):DS.cutL l lo hi=l:=by unfold DS.cutL;rw[show DS.sIx l.length 0 lo=HT.sIx xs.length 0 lo by rw[rl.length];rfl,show DS.sIx l.length l.length hi=HT.sIx xs.length xs.length hi by rw[rl.length];rfl,hw.1,hw.2,<- rl.length];simp
def zPk(ha:AbS K J S H)(r:Rep K J H d v)(e:DS.look S d=some (.lst l)):∃a xs,v=.ref a/\SqL K H a xs/\RepL K J H l xs:=by
 cases d with
 | lst l=>cases e;obtain⟨a,xs,rfl,t,rl⟩:=r;exact⟨a,xs,rfl,t.sq,rl⟩
 | klst l=>cases e;obtain⟨a,xs,rfl,t,rl⟩:=r;exact⟨a,xs,rfl,t.sq,rl⟩
 | ref n=>
  obtain⟨a,ea,rfl⟩:=r;obtain⟨c,ec,o,eo,rc⟩:=ha.at ea;have e:S[n]?=_:=e;rw[ec]at e;cases e;obtain⟨xs,rfl,rl⟩:=rc;exact⟨a,xs,rfl,.inl (.inl eo),rl⟩
 | _=>cases e
def sl_D(hK:X.K=K:=by rfl):SlR X (slOf K DS.slD):=by
 subst hK;intro pins s σ H x v vl vu lo hi sl Q I rx hs pl pu hq21;obtain⟨J,S,d1,d,ha,r1,e,k⟩:=hq21;unfold DS.slD at e;split at e
 ·rename_i l;cases e;have r0:=r1;obtain⟨a,xs,rfl,t,rl⟩:=r1;by_cases hw:HT.sIx xs.length 0 lo=0/\HT.sIx xs.length xs.length hi=xs.length
  ·cases rx;obtain⟨its,r,ht,hz⟩:=I.tuple t.sq;have hlen:its.toArray.size=xs.length:=by rw[xA];exact r.length.symm
   refine⟨"tuple",_,uN.lookup,ht.typeIs,zCl ht hs pl pu (by rw[hlen];exact hw) ⟨.ref a,H,I,rfl,k _ H ha .refl ?_⟩⟩;rw[zQr rl hw];exact r0
  ·exact zUf pins s σ H _ v vl vu lo hi sl Q I rx hs pl pu ⟨a,xs,rfl,t.sq,hw,λp n=>k _ _ (ha.push n) (.push n) ⟨p,_,rfl,⟨zAm,ha.out n⟩,RepL.grow (.push n) _ _ (zL2 rl lo hi)⟩⟩
 ·rename_i l;have r0:=r1;obtain⟨a,xs,rfl,t,rl⟩:=r1;split at e
  ·rename_i hw;cases e;have hw:HT.sIx xs.length 0 lo=0/\HT.sIx xs.length xs.length hi=xs.length:=by rw[<- rl.length];exact hw
   cases rx;obtain⟨its,r,ht,hz⟩:=I.tuple (t.sq (H:=H));have hlen:its.toArray.size=xs.length:=by rw[xA];exact r.length.symm
   exact⟨"tuple",_,uN.lookup,ht.typeIs,zCl ht hs pl pu (by rw[hlen];exact hw) ⟨.ref a,H,I,rfl,k _ H ha .refl r0⟩⟩
  ·rename_i hw;cases e;have hw:¬ (HT.sIx xs.length 0 lo=0/\HT.sIx xs.length xs.length hi=xs.length):=by rw[<- rl.length];exact hw
   exact zUf pins s σ H _ v vl vu lo hi sl Q I rx hs pl pu ⟨a,xs,rfl,t.sq,hw,λp n=>k _ _ (ha.push n) (.push n) ⟨p,_,rfl,⟨zAm,ha.out n⟩,RepL.grow (.push n) _ _ (zL2 rl lo hi)⟩⟩
 ·split at e
  ·rename_i l e1;cases e;obtain⟨a,xs,rfl,t,rl⟩:=zPk ha r1 e1;exact zW0 pins s σ H _ v vl vu lo hi sl Q I rx hs pl pu ⟨a,xs,rfl,t,λp n=>k _ _ (ha.push n) (.push n) ⟨p,_,rfl,⟨zAm,ha.out n⟩,RepL.grow (.push n) _ _ (zL2 rl lo hi)⟩⟩
  ·cases e
noncomputable def pOf (K:PySem.W.Frag) (g:Store->D->D->D->Option Store):TSet:=λo i v H Q=>∃J S d1 d2 d3 S',AbS K J S H/\Rep K J H d1 o/\Rep K J H d2 i/\Rep K J H d3 v/\g S d1 d2 d3=some S'/\∀H',AbS K J S' H'->Grow J H J H'->Q H'
open Classical in
def zLl{κ:Type}[DecidableEq κ]{f:κ->D}(fi:∀a b,f a=f b->a=b){k:κ}{dv:D}{w:V}{kvs:List (κ × V)}{vs:List D}(r:RepL K J H vs (kvs.map (·.2)))(rv:Rep K J H dv w):
  (DS.put2 (kvs.map λp=>f p.1) vs (f k) dv).1=(putK kvs k w).map (λp=>f p.1)/\RepL K J H (DS.put2 (kvs.map λp=>f p.1) vs (f k) dv).2 ((putK kvs k w).map (·.2)):=by
 have any_iff:(kvs.any λkv=>decide (kv.1=k))=true <-> f k∈kvs.map λp=>f p.1:=by
  simp only[yx,decide_eq_true_eq,xt];constructor
  ·rintro⟨p,hp,e⟩;exact⟨p,hp,by rw[e]⟩
  ·rintro⟨p,hp,e⟩;exact⟨p,hp,fi _ _ e⟩
 unfold DS.put2 putK;by_cases hm:f k∈kvs.map λp=>f p.1
 ·rw[xf hm,xf (any_iff.mpr hm)];refine⟨?_,?_⟩
  ·rw[xH];refine yS λp _=>?_
   show f p.1=f (if p.1=k then(p.1,w)else p).1;split <;> rfl
  ·clear hm any_iff
   induction kvs generalizing vs with
   | nil=>cases vs <;> rfl
   | cons p kvs ih=>
    cases vs with
    | nil=>cases r
    | cons dw vs=>
     obtain⟨x,t,e,h,rl⟩:=r;have e:=List.cons.inj (show p.2::kvs.map (·.2)=x::t from e);obtain⟨rfl,rfl⟩:=e;refine⟨(if p.1=k then(p.1,w)else p).2,_,rfl,?_,ih rl⟩;by_cases z:p.1=k
     ·rw[xf z,xf (show f p.1=f k by rw[z])];exact rv
     ·rw[xg z,xg λq=>z (fi _ _ q)];exact h
 ·rw[xg hm,xg (λz=>hm (any_iff.mp z))];refine⟨by simp,?_⟩;rw[vn];exact r.snoc rv
def zMv(hu:X.A.units+1<cLine):PSet X (pOf K DS.putD):=by
 intro pins s σ H o i v ov iv u Q I ro ri rv hq22;obtain⟨J,S,d1,d2,d3,S',ha,r1,r2,r3,e,k⟩:=hq22;unfold DS.putD at e;split at e
 ·rename_i n;obtain⟨a,ea,rfl⟩:=r1;obtain⟨c,ec,ob,eo,rc⟩:=ha.at ea;split at e
  ·rename_i l es;rw[ec]at es;cases es;obtain⟨xs,rfl,rl⟩:=rc;cases d2 with
   | int i'=>
    obtain rfl:=r2;simp only at e;cases ej:DS.ixN l.length i' with
    | none=>rw[ej]at e;cases e
    | some j=>
     rw[ej]at e;cases e;refine set_list pins s σ H _ _ v ov iv u Q I ro ri rv ⟨a,xs,i',j,rfl,rfl,eo,by rw[<- rl.length];exact ej,?_⟩;exact k _ (ha.write ea ⟨_,rfl,rl.set j r3⟩) (.write ea)
   | _=>cases e
  ·rename_i t ks vs es;rw[ec]at es;cases es;obtain⟨xs,q,rl⟩:=rc;split at e
   ·rename_i hk;cases e;cases ro;have fin:∀H',DPut H a i v H'->AbS K J (S.set n (.dct t (DS.put2 ks vs d2 d3).1 (DS.put2 ks vs d2 d3).2)) H'->Grow J H J H'->wpAny (model X.prog X.w) X.A (setItem (.ref a) iv u) (λ_ s'=>∃H',Inv X pins σ H' s'/\Q H') X.xe s:=λH' g a1 g1=>
     zQn hu I g ri rv λs' I'=>⟨H',I',k H' a1 g1⟩
    have hk1:=hk.1;unfold DS.zBa at hk1;rw[xM]at hk1;rcases q with⟨rfl,kvs,rfl,rfl,rfl⟩|⟨rfl,kvs,rfl,rfl,rfl⟩
    ·obtain⟨kk,rfl⟩:=zHv hk1.1 λl z=>by subst z;cases hk1.2
     obtain rfl:=zFu r2;obtain⟨p1,p2⟩:=zLl (λa b=>zFv) (k:=kk) rl r3;refine fin _ (.inl ⟨kvs,kk,eo,rfl,by have:=hk.2;rw[xn]at this;exact this,rfl⟩) (ha.write ea ⟨_,.inl ⟨rfl,_,rfl,p1,rfl⟩,p2⟩) (.write ea)
    ·cases d2 with
     | tup l=>
      obtain⟨kk,rfl⟩:=keys_of (show _=true from hk1.1);obtain⟨b,zs,rfl,tb,rz⟩:=r2;obtain rfl:=zFt rz;obtain⟨p1,p2⟩:=zLl (f:=zD5) (λa b=>zG3) (k:=kk) rl r3;refine fin _ (.inr ⟨kvs,kk,b,eo,rfl,tb.1,by have:=hk.2;rw[xn]at this;exact this,rfl⟩) (ha.write ea ⟨_,.inr ⟨rfl,_,rfl,p1,rfl⟩,p2⟩) (.write ea)
     | _=>cases hk1.2
   ·cases e
  ·cases e
 ·cases e
def zD9{o i e:Expr}{mo mi m:DS.EM}{sp2 pos:Pos}{g:Store->D->D->D->Option Store}(hs:PSet X (pOf K g))(ho:DE X K E o mo)(hi:DE X K E i mi)(he:DE X K E e m)(h:nsl i=true:=by rfl)(h2:nco e=true:=by rfl):DS1 X K E (.Assign [.Subscript o i sp2] e pos) (DS.sPut g mo mi m):=
 ⟨(qasgs' he.h (zWq ho.h hi.h hs h) h2).imp λD σ H ⟨env,S,J,ha,he,q⟩=>⟨env,S,J,ha,he,q.then.imp λdv S1 J1 H1 _ a1 g1 q1 v rv=>⟨env,S1,J1,a1,he.grow g1,q1.then.imp λdx S2 J2 H2 _ a2 g2 q2 x rx=>
  ⟨env,S2,J2,a2,he.grow (g1.trans g2),q2.then.imp λdi S3 J3 H3 _ a3 g3 q3 y ry=>by
   cases e1:g S3 dx di dv with
   | none=>rw[e1]at q3;exact False.elim q3
   | some S4=>
    rw[e1]at q3;exact⟨J3,S3,dx,di,dv,S4,a3,Rep.grow g3 _ _ rx,ry,Rep.grow (g2.trans g3) _ _ rv,e1,λH' h1 h2=>q3 J3 H' σ h1 h2 (he.grow (g1.trans (g2.trans (g3.trans h2))))⟩⟩⟩⟩⟩
def zCs{ds:List D}(r:RepL K J H [d] xs):∃x,xs=[x]/\Rep K J H d x:=by obtain⟨x,t,rfl,h,rfl⟩:=r;exact⟨x,rfl,h⟩
def yC7{kvs:List (List Key × V)}{Q:Value->Shared->Prop}{E:Value->Shared->Prop}(I:Inv X pins σ H s)(e:Rd H a (.dT kvs))(h:∀t s',Inv X pins σ H s'->Q (.int kvs.length t) s'):wpAny (model X.prog X.w) A (call (.builtin "len") [.ref a]) Q E s:=by
 obtain⟨z,hd,xs,rel,dd⟩:=zJq I.hok e;have hT:s.TypeIs (.ref a) "dict":=dd.typeIs;obtain⟨o,es,ep,ho,hx,hdat,hes,hall,hn⟩:=dd;have hsz:es.size=kvs.length:=by rw[<- vf,hes,xn,<- ue rel]
 rw[vC]at z;have mt:MeetsIn X.prog X.w (Builtin.«dict.__len__» ⟨[.ref a],[]⟩) (λ_ R s'=>s'=s/\R (.ok (.ret (.int kvs.length s'.toks))) { s' with toks:=s'.toks+1 }):=.of_wp λA R s' hq23=>by
  obtain⟨e,h⟩:=hq23;subst e;show wpAny _ _ (dictSize a >>= _) _ _ s';unfold dictSize;refine xc (xc (uB ho hdat (xh ?_)));show wpAny _ _ (Builtin.Dict.pendingCount a >>= _) _ _ s';refine xc (wpAny_pendingCount_other hd ?_);refine wpAny_ret_mkInt ?_;rw[Nat.add_zero,hsz];exact h
 refine Calls.call_function_entry kind_len plain_len entry_len (args_len1 _) ?_
 unfold Builtin.«len»;refine xc (m:=oneArg "len" _) (xh ?_);refine xc (m:=callSpecial? (.ref a) (Str.ofString "__len__")) (vv (name:=Str.ofString "__len__") hT PySem.F.slot_dict_len (call_meetsIn PySem.F.slot_dict_len hT PySem.F.entry_dict_len (PySem.F.args_dict_len_1 _) mt ⟨rfl,?_⟩));show wpAny _ _ _ _ _ { s with toks:=s.toks+1 };refine xc (xP (xh ?_));refine xc (wpAny_letGo ?_);show wpAny _ _ (if((kvs.length:Nat):Int)<0 then _ else _) _ _ _;rw[xg (by nofun)];show wpAny _ _ (if((kvs.length:Nat):Int) >= 2 ^ 63 then _ else _) _ _ _;rw[xg (by nofun)];exact xc (wpAny_mkInt (xh ⟨_,rfl,h _ _ (I.tok _)⟩))
def zCf(hK:X.K=K:=by rfl):zBl X (.builtin "len") (cOf K DS.lenB):=by
 subst hK;intro pins s σ H xs us Q I r hq24;obtain⟨J,S,ds,d,ha,rl,e,k⟩:=hq24;unfold DS.lenB at e;split at e
 ·rename_i d0;obtain⟨x,rfl,rx⟩:=zCs (ds:=[]) rl;have seq:∀l,DS.items S d0=some l->d=.int l.length->wpAny (model X.prog X.w) X.A (call (.builtin "len") us) (EP X pins σ Q) X.xe s:=λl e1 e2=>by
   subst e2;obtain⟨a,ys,rfl,hq,q⟩:=zFx ha rx e1;exact zJz pins s σ H _ us Q I r ⟨a,ys,rfl,hq,k _ H ha .refl (by rw[q.length];rfl)⟩
  split at e
  ·rename_i l e1;cases e;exact seq l (zCd (.inl e1)) rfl
  ·rename_i l e1;cases e;exact seq l (zCd (.inr e1)) rfl
  ·rename_i t ks vs e1;cases e;obtain⟨a,o,ys,rfl,he,q,_⟩:=zJw ha rx e1;obtain⟨u,rfl,ru⟩:=vals1 r;cases ru;rcases q with⟨rfl,kvs,rfl,rfl,rfl⟩|⟨rfl,kvs,rfl,rfl,rfl⟩
   ·exact yDa I he λt s' I'=>⟨.int kvs.length,H,I',⟨t,rfl⟩,k _ H ha .refl (by rw[xn];rfl)⟩
   ·exact yC7 I he λt s' I'=>⟨.int kvs.length,H,I',⟨t,rfl⟩,k _ H ha .refl (by rw[xn];rfl)⟩
  ·rename_i z e1;split at e
   ·rename_i hz;cases e;obtain rfl:=zO1 ha rx e1;exact zJy pins s σ H _ us Q I r ⟨z,rfl,hz,k _ H ha .refl rfl⟩
   ·cases e
  ·cases e
 ·cases e
def zAt(hK:X.K=K:=by rfl):zBl X (.type "tuple") (cOf K DS.zAz):=by
 subst hK;intro pins s σ H xs us Q I r hq25;obtain⟨J,S,ds,d,ha,rl,e,k⟩:=hq25;unfold DS.zAz at e;split at e
 ·rename_i d0;obtain⟨x,rfl,rx⟩:=zCs (ds:=[]) rl;split at e
  ·rename_i l;cases e;have r0:=rx;obtain⟨a,ys,rfl,t,q⟩:=rx;exact zDb pins s σ H _ us Q I r ⟨a,ys,rfl,.inr ⟨t.sq,k _ H ha .refl r0⟩⟩
  ·rename_i l;cases e;have r0:=rx;obtain⟨a,ys,rfl,t,q⟩:=rx;exact zDb pins s σ H _ us Q I r ⟨a,ys,rfl,.inr ⟨t.sq,k _ H ha .refl r0⟩⟩
  ·cases e1:DS.litems S d0 with
   | none=>rw[e1]at e;cases e
   | some l=>
    rw[e1]at e;cases e;obtain⟨a,ys,rfl,hq,q⟩:=zCi ha rx e1;exact zDb pins s σ H _ us Q I r ⟨a,ys,rfl,.inl ⟨.inl hq,λp n=>k _ _ (ha.push n) (.push n) ⟨p,ys,rfl,⟨zAm,ha.out n⟩,RepL.grow (.push n) _ _ q⟩⟩⟩
 ·cases e
def zIy:∀{l:List D}{xs:List V}{bs:List Bool},RepL K J H l xs->DS.bools l=some bs->xs=bs.map V.bl
 | [],_,_,r,e=>by cases e;exact r
 | d::l,_,bs,⟨x,t,e0,h,rl⟩,e=>by
  subst e0;cases d with
  | bl b=>
   unfold DS.bools at e;cases e1:DS.bools l with
   | none=>rw[e1]at e;cases e
   | some cs=>rw[e1]at e;cases e;rw[zIy rl e1,show x=.bl b from h];rfl
  | _=>cases e
def zF4(hc:X.calm=true)(hK:X.K=K:=by rfl):zBl X (.builtin "all") (cOf K DS.allB):=by
 subst hK;intro pins s σ H xs us Q I r hq26;obtain⟨J,S,ds,d,ha,rl,e,k⟩:=hq26;unfold DS.allB at e;split at e
 ·rename_i d0;obtain⟨x,rfl,rx⟩:=zCs (ds:=[]) rl;cases e1:DS.litems S d0 with
  | none=>rw[e1]at e;cases e
  | some l=>
   rw[e1]at e;cases e2:DS.bools l with
   | none=>simp[e2]at e
   | some bs=>
    simp only[Option.bind_some,e2,vH,Option.some.injEq]at e;subst e;obtain⟨a,ys,rfl,hq,q⟩:=zCi ha rx e1;obtain rfl:=zIy q e2;exact zR3 hc pins s σ H _ us Q I r ⟨a,bs,rfl,.inl hq,k _ H ha .refl rfl⟩
 ·cases e
def zHj(hc:X.calm=true)(hK:X.K=K:=by rfl):zBl X (.builtin "any") (cOf K DS.anyB):=by
 subst hK;intro pins s σ H xs us Q I r hq27;obtain⟨J,S,ds,d,ha,rl,e,k⟩:=hq27;unfold DS.anyB at e;split at e
 ·rename_i d0;obtain⟨x,rfl,rx⟩:=zCs (ds:=[]) rl;cases e1:DS.litems S d0 with
  | none=>rw[e1]at e;cases e
  | some l=>
   rw[e1]at e;cases e2:DS.bools l with
   | none=>simp[e2]at e
   | some bs=>
    simp only[Option.bind_some,e2,vH,Option.some.injEq]at e;subst e;obtain⟨a,ys,rfl,hq,q⟩:=zCi ha rx e1;obtain rfl:=zIy q e2;exact zR2 hc pins s σ H _ us Q I r ⟨a,bs,rfl,.inl hq,k _ H ha .refl rfl⟩
 ·cases e
def zKg(r:RepL K J H [d1,d2] xs):∃x y,xs=[x,y]/\Rep K J H d1 x/\Rep K J H d2 y:=by obtain⟨x,t,rfl,h,y,t',rfl,h',rfl⟩:=r;exact⟨x,y,rfl,h,h'⟩
def zNm(hc:X.calm=true):zBl X (.builtin "max") (cOf K DS.max2B):=by
 intro pins s σ H xs us Q I r hq28;obtain⟨J,S,ds,d,ha,rl,e,k⟩:=hq28;unfold DS.max2B at e;split at e
 ·obtain⟨x,y,rfl,rx,ry⟩:=zKg rl;obtain rfl:=rx;obtain rfl:=ry;cases e;exact zR1 hc pins s σ H _ us Q I r ⟨_,_,rfl,k _ H ha .refl (congrArg V.int (by congr))⟩
 ·cases e
def zDu:MtR X "list.append" (mOf K DS.zCa):=by
 intro pins s σ H x xs v us Q I rx rs hq29;obtain⟨J,S,d1,ds,d,S',ha,r1,rl,e,k⟩:=hq29;unfold DS.zCa at e;split at e
 ·rename_i n dv;obtain⟨a,ea,rfl⟩:=r1;obtain⟨c,ec,ob,eo,rc⟩:=ha.at ea;obtain⟨y,rfl,ry⟩:=zCs (ds:=[]) rl;split at e
  ·rename_i l es;rw[ec]at es;cases es;obtain⟨ys,rfl,rl⟩:=rc;split at e
   ·rename_i hz;cases e;exact zPg pins s σ H _ _ v us Q I rx rs ⟨a,ys,y,rfl,rfl,eo,by rw[<- rl.length];exact hz,k _ _ (ha.write ea ⟨_,rfl,rl.snoc ry⟩) (.write ea) rfl⟩
   ·cases e
  ·cases e
 ·cases e
def zXb:MtR X "list.pop" (mOf K DS.popM):=by
 intro pins s σ H x xs v us Q I rx rs hq30;obtain⟨J,S,d1,ds,d,S',ha,r1,rl,e,k⟩:=hq30;unfold DS.popM at e;split at e
 ·rename_i n;obtain⟨a,ea,rfl⟩:=r1;obtain⟨c,ec,ob,eo,rc⟩:=ha.at ea;obtain rfl:=rl;split at e
  ·rename_i l es;rw[ec]at es;cases es;obtain⟨ys,rfl,rl⟩:=rc;cases e1:l[l.length-1]? with
   | none=>rw[e1]at e;cases e
   | some w=>
    rw[e1]at e;simp only[vH,Option.some.injEq,Prod.mk.injEq]at e;obtain⟨rfl,rfl⟩:=e;obtain⟨y,ey,ry⟩:=rl.get e1;have g:Grow J H J (upd H a (.lst ys.dropLast)):=.write ea;exact yAz pins s σ H _ _ v us Q I rx rs ⟨a,ys,y,rfl,rfl,eo,by rw[<- rl.length];exact ey,k _ _ (ha.write ea ⟨_,rfl,rl.dropLast⟩) g (Rep.grow g _ _ ry)⟩
  ·cases e
 ·cases e
def zN3:MtR X "list.extend" (mOf K DS.zF2):=by
 intro pins s σ H x xs v us Q I rx rs hq31;obtain⟨J,S,d1,ds,d,S',ha,r1,rl,e,k⟩:=hq31;unfold DS.zF2 at e;split at e
 ·rename_i n dv;obtain⟨a,ea,rfl⟩:=r1;obtain⟨c,ec,ob,eo,rc⟩:=ha.at ea;obtain⟨y,rfl,ry⟩:=zCs (ds:=[]) rl;split at e
  ·cases e
  ·split at e
   ·rename_i l m es em;rw[ec]at es;cases es;obtain⟨ys,rfl,rl'⟩:=rc;obtain⟨b,zs,rfl,hq,q⟩:=zCi ha ry em;split at e
    ·rename_i hz;cases e;cases rx;obtain⟨u,rfl,ru⟩:=rs.one;cases ru;obtain⟨z,its,n,r,hl,e⟩:=I.lstM eo;obtain⟨z2,its2,n2,r2,hl2,e2⟩:=I.lstR hq;have hsz:its.toArray.size+its2.toArray.size<=sizeLine:=by rw[xA,xA,<- hl,<- hl2,<- rl'.length,<- q.length];exact hz
     have hlong:¬ (!its.toArray.isEmpty && Builtin.List.listTooLong (its.toArray.size+its2.toArray.size))=true:=by rw[zSt hsz,Bool.and_false];exact vB
     refine call_meets F.slot_list_extend ⟨_,e,rfl⟩ F.entry_list_extend (F.args_list_extend_2 _ _) (AutoSeq1.list_extend_list_list_0 a its.toArray n b its2.toArray n2 hlong (by rw[xA];lia) (by nofun)) ⟨e,e2,?_⟩;exact⟨.non,_,I.lset (its':=its++its2) eo e (by simp) (r.append r2) (by rw[xw,<- rl'.length,<- q.length];exact hz),rfl,k _ _ (ha.write ea ⟨_,rfl,rl'.append q⟩) (.write ea) rfl⟩
    ·cases e
   ·cases e
 ·cases e
def zPy{tg:Expr}{pins:List (Addr × Obj)}{s1:Shared}{σ:St}{H1:Hp}{R:It->Hp->Prop}{a:Addr}{xs:List V}(I1:Inv X pins σ H1 s1)(hq:SqL X.K H1 a xs)(q:R (Itl X.K a) H1):wpAny (model X.prog X.w) X.A (pyIter (.ref a)) (PIE X pins σ tg R) X.xe s1:=by
 obtain⟨its,rv,p,hz⟩:=I1.list hq;refine uR p.isList ?_;refine⟨s1.heap.objs.size,[s1.heap.objs.size],_,_,H1,rfl,I1.kept (t':=s1.toks) λb o e=>xq _ e,zNx a _,⟨_,xy _ rfl,rfl,rfl⟩,λb hb=>?_,q⟩;have e:b=s1.heap.objs.size:=by simpa using hb
 subst e;exact I1.fpOk (xi _) (I1.hok.fresh (xi _))
def zT8{tg:Expr}{pins:List (Addr × Obj)}{s1:Shared}{σ:St}{H1:Hp}{R:It->Hp->Prop}{a:Addr}{xs:List V}(I1:Inv X pins σ H1 s1)(hq:SqT X.K H1 a xs)(q:R (Itt X.K a) H1):wpAny (model X.prog X.w) X.A (pyIter (.ref a)) (PIE X pins σ tg R) X.xe s1:=by
 obtain⟨its,rv,p,hz⟩:=I1.tuple hq;refine wpAny_pyIter_tuple (show s1.heap.IsTuple a its.toArray from p) ?_;refine⟨s1.heap.objs.size,[s1.heap.objs.size],_,_,H1,rfl,I1.kept (t':=s1.toks) λb o e=>xq _ e,zMs a _,⟨_,xy _ rfl,rfl,rfl⟩,λb hb=>?_,q⟩;have e:b=s1.heap.objs.size:=by simpa using hb
 subst e;exact I1.fpOk (xi _) (I1.hok.fresh (xi _))
def zT9{R:It->Hp->Prop}{z:Str}(I1:Inv X pins σ H1 s1)(ha:z.cps.all (·<128)=true)(q:R (Its z) H1):wpAny (model X.prog X.w) X.A (pyIter (.str z t)) (PIE X pins σ tg R) X.xe s1:=by
 refine wpAny_pyIter_ascii ha ?_;refine⟨s1.heap.objs.size,[s1.heap.objs.size],_,Its z,H1,rfl,I1.kept (t':=s1.toks) λb o e=>xq _ e,zRo s1.heap.objs.size z t,⟨xV _,_,xy _ rfl,rfl,rfl⟩,λb hb=>?_,q⟩;have e:b=s1.heap.objs.size:=by simpa using hb
 subst e;exact I1.fpOk (xi _) (I1.hok.fresh (xi _))
def stays_list(ha:AbS K J S H)(r:Rep K J H d v)(e:DS.look S d=some (.lst l)):∃a xs,v=.ref a/\SqL K H a xs/\∀J' H' S',Grow J H J' H'->AbS K J' S' H'->DS.gOk S' (DS.gdOf S d)->∃ys,SqL K H' a ys/\RepL K J' H' l ys:=by
 cases d with
 | lst l=>cases e;obtain⟨a,xs,rfl,t,rl⟩:=r;exact⟨a,xs,rfl,t.sq,λJ' H' S' g _ _=>⟨xs,(t.grow g).sq,RepL.grow g _ _ rl⟩⟩
 | klst l=>cases e;obtain⟨a,xs,rfl,t,rl⟩:=r;exact⟨a,xs,rfl,t.sq,λJ' H' S' g _ _=>⟨xs,(t.grow g).sq,RepL.grow g _ _ rl⟩⟩
 | ref n=>
  obtain⟨a,ea,rfl⟩:=r;obtain⟨c,ec,o,eo,rc⟩:=ha.at ea;have e:S[n]?=_:=e;rw[ec]at e;cases e;obtain⟨xs,rfl,rl⟩:=rc;refine⟨a,xs,rfl,.inl (.inl eo),λJ' H' S' g ha' gd=>?_⟩;have e':S'[n]?=some (.lst l):=gd (n,.lst l) (by simp[DS.gdOf,ec]);obtain⟨o',eo',rc'⟩:=ha'.ob n a _ (g.pre n a ea) e';obtain⟨ys,rfl,rl'⟩:=rc';exact⟨ys,.inl (.inl eo'),rl'⟩
 | _=>cases e
def stays_tup(ha:AbS K J S H)(r:Rep K J H d v)(e:DS.look S d=some (.tup l)):∃a xs,v=.ref a/\SqT K H a xs/\∀J' H',Grow J H J' H'->SqT K H' a xs/\RepL K J' H' l xs:=by
 cases d with
 | tup l=>cases e;obtain⟨a,xs,rfl,t,rl⟩:=r;exact⟨a,xs,rfl,t.sq,λJ' H' g=>⟨(t.grow g).sq,RepL.grow g _ _ rl⟩⟩
 | ktup l=>cases e;obtain⟨a,xs,rfl,t,rl⟩:=r;exact⟨a,xs,rfl,t.sq,λJ' H' g=>⟨t.sq,RepL.grow g _ _ rl⟩⟩
 | ref n=>
  obtain⟨a,ea,rfl⟩:=r;obtain⟨c,ec,o,eo,rc⟩:=ha.at ea;have e:S[n]?=_:=e;rw[ec]at e;cases e;exact False.elim rc
 | _=>cases e
def zXs{gd:List (Nat × D)}(h:∀J' H' S',Grow J H J' H'->AbS K J' S' H'->DS.gOk S' gd->∃ys,SqL K H' a ys/\RepL K J' H' l ys):ItOk K J H ⟨l,gd⟩ (Itl K a) where
 go:=λi H' J' S' ha g gd hi=>by
  obtain⟨ys,q,rl⟩:=h J' H' S' g ha gd;exact⟨ys,ys[i]'(by rw[<- rl.length];exact hi),q,xG _⟩
 yld:=λi H' J' S' x H'' ha g gd y d ed=>by
  obtain⟨rfl,y⟩:=y;obtain⟨ys,q,rl⟩:=h J' H'' S' g ha gd;obtain⟨x',ex,rx⟩:=rl.get ed;rw[y ys q]at ex;cases ex;exact⟨ha,.refl,rx⟩
 stop:=λi H' J' S' ha g gd hi=>by
  obtain⟨ys,q,rl⟩:=h J' H' S' g ha gd;exact⟨ys,q,by rw[<- rl.length];exact hi⟩
def yBi{gd:List (Nat × D)}(h:∀J' H',Grow J H J' H'->SqT K H' a xs/\RepL K J' H' l xs):ItOk K J H ⟨l,gd⟩ (Itt K a) where
 go:=λi H' J' S' ha g gd hi=>by
  obtain⟨q,rl⟩:=h J' H' g;exact⟨xs,xs[i]'(by rw[<- rl.length];exact hi),q,xG _⟩
 yld:=λi H' J' S' x H'' ha g gd y d ed=>by
  obtain⟨rfl,y⟩:=y;obtain⟨q,rl⟩:=h J' H'' g;obtain⟨x',ex,rx⟩:=rl.get ed;rw[y xs q]at ex;cases ex;exact⟨ha,.refl,rx⟩
 stop:=λi H' J' S' ha g gd hi=>by
  obtain⟨q,rl⟩:=h J' H' g;exact⟨xs,q,by rw[<- rl.length];exact hi⟩
def yBj :ItOk K J H ⟨DS.chars x,[]⟩ (Its x) where
 go:=λi H' J' S' ha g gd hi=>by
  have:(DS.chars x).length=x.cps.size:=by simp[DS.chars]
  show i<x.cps.size;rw[<- this];exact hi
 yld:=λi H' J' S' y H'' ha g gd yl d ed=>by
  obtain⟨rfl,c,ec,rfl⟩:=yl;have e:(DS.chars x)[i]?=some (D.str ⟨#[c]⟩):=by unfold DS.chars;rw[xQ,vM,ec];rfl
  rw[e]at ed;cases ed;exact⟨ha,.refl,rfl⟩
 stop:=λi H' J' S' ha g gd hi=>by
  have:(DS.chars x).length=x.cps.size:=by simp[DS.chars]
  show x.cps.size<=i;rw[<- this];exact hi
def zB1(he:DE X K E e m)(hK:X.K=K:=by rfl):DI X K E tg e (DS.iVal m):=by
 subst hK;refine⟨⟨λpins s σ H R I hq1=>?_⟩⟩;obtain⟨env,S,J,ha,hE,q⟩:=hq1;refine thn (he.h.h pins s σ H (λx H1=>∃J1 S1 d w,AbS X.K J1 S1 H1/\Rep X.K J1 H1 d x/\DS.zDe S1 d=some w/\∀It,ItOk X.K J1 H1 w It->R It H1) I ⟨env,S,J,ha,hE,q.bind.imp λd S1 J1 H1 _ a1 g1 q1 x rx=>?_⟩) λv s1 hq1=>?_
 ·obtain⟨w,ew,k⟩:=q1.lift;exact⟨J1,S1,d,w,a1,rx,ew,k J1 H1 a1 .refl⟩
 ·obtain⟨x,H1,I1,r1,J1,S1,d,w,a1,rx,ew,k⟩:=hq1;unfold DS.zDe at ew;split at ew
  ·rename_i l el;cases ew;obtain⟨a,xs,rfl,hq,st⟩:=stays_tup a1 rx el;cases r1;exact zT8 I1 hq (k _ (yBi st))
  ·rename_i l el;cases ew;obtain⟨a,xs,rfl,hq,st⟩:=stays_list a1 rx el;cases r1;exact zPy I1 hq (k _ (zXs st))
  ·rename_i z ez;split at ew
   ·rename_i hz;cases ew;obtain rfl:=zO1 a1 rx ez;obtain⟨t,rfl⟩:=r1;exact zT9 I1 hz (k _ yBj)
   ·cases ew
  ·cases ew
def zTb{lo:Int}:ItOk K J H ⟨(List.range n).map fun(k:Nat)=>D.int (lo+k),[]⟩ (Itr lo n) where
 go:=λi H' J' S' ha g gd hi=>by show i<n;simpa using hi
 yld:=λi H' J' S' y H'' ha g gd yl d ed=>by
  obtain⟨rfl,rfl⟩:=yl;rw[xQ]at ed;by_cases hi:i<n
  ·rw[List.getElem?_range hi]at ed;cases ed;exact⟨ha,.refl,rfl⟩
  ·rw[vF (by simpa using hi)]at ed;cases ed
 stop:=λi H' J' S' ha g gd hi=>by show n<=i;simpa using hi
def fits_of{i:Int}(h:DS.fits62 i=true):-(2 ^ 62)<=i/\i<2 ^ 62:=uo h
def zCn(hg:Gl X "range")(hm:X.mg "range"=none)(ha:DA X K E [a] am)(h:nst a=true:=by rfl):DI X K E tg (.Call (.Name "range" p) [a] [] pos) (DS.zBt am):=
 ⟨(qrange1' hg hm ha.h h).imp λσ H R ⟨env,S,J,h,hE,q⟩=>⟨env,S,J,h,hE,q.bind.imp λds S1 J1 H1 e1 a1 g1 q1 xs rx=>by
  obtain⟨w,ew,k⟩:=q1.lift;have hl:=ha.len _ _ _ _ e1
  match ds,hl with
  | [d],_=>
   obtain⟨x,rfl,r⟩:=zCs (ds:=[]) rx;cases d with
   | int j=>
    unfold DS.zF0 at ew;simp only at ew;by_cases hf:DS.fits62 j=true
    ·rw[xf hf]at ew;cases ew;obtain rfl:=r;refine⟨j,rfl,(fits_of hf).1,(fits_of hf).2,k J1 H1 a1 .refl _ ?_⟩;have e:DS.zCr 0 j=(List.range j.toNat).map fun(k:Nat)=>D.int (0+k):=by unfold DS.zCr;rw[Int.sub_zero]
     rw[e];exact zTb
    ·rw[xg hf]at ew;cases ew
   | _=>cases ew⟩⟩
def zNh{p p2 pos pos2:Pos}(hc:X.calm=true)(he:DE X K E e m)(hgl:Gl X "list")(hml:X.mg "list"=none)(hgr:Gl X "reversed")(hmr:X.mg "reversed"=none)(h:nst e=true:=by rfl)(hK:X.K=K:=by rfl):
  DF X K E (.Call (.Name "list" p) [.Call (.Name "reversed" p2) [e] [] pos2] [] pos) (DS.eUn DS.revL m):=by
 subst hK;refine⟨(qlistrev' hc he.h hgl hml hgr hmr h).imp λσ H Q ⟨env,S,J,ha,hE,q⟩=>⟨env,S,J,ha,hE,q.bind.imp λd S1 J1 H1 _ a1 g1 q1 x rx=>?_⟩⟩;obtain⟨c,ec,k⟩:=q1.lift;unfold DS.revL at ec;split at ec
 ·rename_i l el;cases ec;obtain⟨a,xs,rfl,hq,rl⟩:=zPk a1 rx el;exact⟨a,xs,rfl,hq,λp n=>k J1 H1 a1 .refl p _ n ⟨_,rfl,rl.reverse⟩⟩
 ·cases ec
structure DPs (X:Cx) (K:PySem.W.Frag) (E:XE) (pos:Pos) (keys:List (Option Expr)) (values:List Expr) (ks:List Key) (am:DS.AM):Prop where
 ex:∃trs,SPs X pos keys values trs/\∀σ H Q,(∃env S J,AbS K J S H/\RepE K J H env σ/\Post K E J H (am env S) (λvs _ J' H'=>∀xs,RepL K J' H' vs xs->Q ((ks.map kV).zip xs) H'))->zLe trs σ H Q
 len:∀env S ds S',am env S=.ok ds S'->ds.length=ks.length
def zYc :DPs X K E pos [] [] [] DS.aNil:=⟨⟨[],zS9,λσ H Q hz0=>by obtain⟨env,S,J,ha,he,q⟩:=hz0;exact q J H ha .refl [] rfl⟩,λ_ _ _ _ e=>by cases e;rfl⟩
def zIr{pos kp:Pos}{x:Str}{j:_}{v:Expr}{ks:List (Option Expr)}{vs:List Expr}{kl:List Key}{m:DS.EM}{am:DS.AM}(hv:DE X K E v m)(hr:DPs X K E pos ks vs kl am):DPs X K E pos (some (.Constant (.str x) j kp)::ks) (v::vs) (.inr x::kl) (DS.zA0 m am):=by
 obtain⟨trs,hp,hq⟩:=hr.ex;refine⟨⟨_,zOs (zOz (x:=x)) hv.h hp,λσ H Q ⟨env,S,J,ha,he,q⟩=>⟨env,S,J,ha,he,q.bind.imp λd S1 J1 H1 _ a1 g1 q1 y ry=>hq σ H1 _ ⟨env,S1,J1,a1,he.grow g1,q1.bind.imp λds S2 J2 H2 _ a2 g2 q2 xs rx=>
  q2 J2 H2 a2 .refl (y::xs) ⟨y,xs,rfl,Rep.grow g2 _ _ ry,rx⟩⟩⟩⟩,λenv S ds S' e1=>?_⟩
 unfold DS.zA0 at e1;cases e2:m env S with
 | ok d S1=>
  rw[e2,Rs.bind_ok]at e1;cases e3:am env S1 with
  | ok dr S2=>rw[e3,Rs.bind_ok]at e1;cases e1;simp[hr.len _ _ _ _ e3]
  | _=>rw[e3]at e1;cases e1
 | _=>rw[e2]at e1;cases e1
def zH7:∀{kvs acc:List (Key × V)},((acc++kvs).map (·.1)).Nodup->zF8 acc kvs=acc++kvs
 | [],acc,_=>by simp[zF8]
 | p::kvs,acc,h=>by
  have hn:(acc.any λkv=>decide (kv.1=p.1))=false:=by rw[Bool.eq_false_iff];intro z;obtain⟨q,hq,e⟩:=yx.mp z;rw[vn,xr]at h;exact(yh.mp h).2.2 q.1 (xt.mpr ⟨q,hq,rfl⟩) p.1 (xY ..) (uo e)
  have e:putK acc p.1 p.2=acc++[p]:=by unfold putK;rw[hn];rfl
  show zF8 (putK acc p.1 p.2) kvs=_;rw[e,zH7 (by simpa using h)];simp
def zYj{keys:List (Option Expr)}{values:List Expr}{kl:List Key}(h:DPs X K E pos keys values kl am)(hk:ks=kl.map keyD)(nd:kl.Nodup)(hall:keys.all (·.isSome)=true:=by rfl)(hl:keys.length=values.length:=by rfl)(h0:keys≠[]:=by intro z;cases z)(h15:keys.length<=15:=by decide)(hz:kl.length<=15:=by decide):
  DE X K E (.Dict keys values pos) (DS.zTo ks am):=by
 subst hk;obtain⟨trs,hp,hq⟩:=h.ex;refine⟨(zSn hp hall hl h0 h15).imp λσ H Q ⟨env,S,J,ha,he,q⟩ p n=>hq σ _ _ ⟨env,S++[.dct false [] []],J++[p],ha.name (o:=.dK []) (d:=.dct false [] []) n ⟨[],.inl ⟨rfl,[],rfl,rfl,rfl⟩,rfl⟩,he.grow (.name n),(Post.grow (Grow.name n) q).bind.imp λvs S1 J1 H1 e1 a1 g1 q1 xs rx=>?_⟩⟩;have ep:(J++[p])[S.length]?=some p:=by rw[<- ha.len,vj (xi _)];simp
 have ep1:=g1.pre _ _ ep;have hlen:=h.len _ _ _ _ e1;by_cases hc:S1[S.length]?=some (.dct false [] [])
 ·rw[xf hc]at q1;obtain⟨o,eo,rc⟩:=a1.ob _ _ _ ep1 hc;obtain⟨zs,t,_⟩:=rc;have ho:o=.dK []:=by
   rcases t with⟨_,kvs,rfl,e,_⟩|⟨z,_⟩
   ·cases kvs with
    | nil=>rfl
    | cons a r=>cases e
   ·cases z
  subst ho;have lx:kl.length=xs.length:=by rw[<- hlen];exact rx.length
  have m1:(kl.zip xs).map (·.1)=kl:=by rw[List.map_fst_zip (by nofun)]
  have m2:(kl.zip xs).map (·.2)=xs:=by rw[List.map_snd_zip (by nofun)]
  refine⟨eo,kl.zip xs,?_,?_,?_⟩
  ·rw[List.zip_map_left];rfl
  ·rw[List.length_zip];lia
  ·rw[zH7 (acc:=[]) (by rw[uS,m1];exact nd),uS];refine q1 J1 _ (a1.write ep1 ⟨xs,.inl ⟨rfl,_,rfl,?_,m2.symm⟩,rx⟩) (.write ep1) (.ref p) ⟨p,ep1,rfl⟩;rw[show kl.map keyD=((kl.zip xs).map (·.1)).map keyD by rw[m1],xH];rfl
 ·rw[xg hc]at q1;exact False.elim q1
def zXn(K:PySem.W.Frag)(hU:U∈DS.kinds)(hT:T∈DS.kinds):PySem.W.kitOne K (.type U) (.type T)=some (DS.zQ3 U T):=by
 unfold DS.kinds at hU hT;simp only[xp,uV,or_false]at hU hT;rcases hU with rfl|rfl|rfl|rfl|rfl|rfl <;> rcases hT with rfl|rfl|rfl|rfl|rfl|rfl <;> first
  | rfl
  | (unfold PySem.W.kitOne;rfl)
  | (unfold PySem.W.kitOne;simp;rfl)
def zRn(ha:AbS K J S H)(r:Rep K J H d v)(h:DS.tyD S d=some U)(hn:∀l,d≠.ktup l)(hn':∀l,d≠.klst l)(hU:U≠"set")(hD:U≠"dict"):TyOf K H v (.type U):=by
 cases d with
 | non=>obtain rfl:=r;cases h;exact .non
 | bl b=>obtain rfl:=r;cases h;exact .bl b
 | int b=>obtain rfl:=r;cases h;exact .int b
 | str b=>obtain rfl:=r;cases h;exact .str b
 | tup l=>obtain⟨a,xs,rfl,t,_⟩:=r;cases h;exact .tup t.1
 | lst l=>
  obtain⟨a,xs,rfl,t,_⟩:=r;cases h;exact .lst t.1
 | dct t ks vs=>
  cases h;exact absurd rfl hD
 | ktup l=>exact absurd rfl (hn l)
 | klst l=>exact absurd rfl (hn' l)
 | ref n=>
  obtain⟨a,ea,rfl⟩:=r;obtain⟨c,ec,o,eo,rc⟩:=ha.at ea;have el:DS.look S (.ref n)=some c:=ec;unfold DS.tyD at h;rw[el]at h;cases c with
  | lst ds=>cases h;obtain⟨xs,rfl,_⟩:=rc;exact .lst eo
  | dct _ ks vs=>
   cases h;exact absurd rfl hD
  | _=>exact False.elim rc
 | st l=>exact False.elim r
 | ty n=>cases h
def zEt(hK:X.K=K:=by rfl):zBl X (.builtin "isinstance") (cOf K DS.isiB):=by
 subst hK;intro pins s σ H xs us Q I r hq32;obtain⟨J,S,ds,d,ha,rl,e,k⟩:=hq32;unfold DS.isiB at e;split at e
 ·rename_i d0 T;obtain⟨x,y,rfl,rx,ry⟩:=zKg rl;obtain rfl:=ry;split at e
  ·cases e
  ·cases e
  ·rename_i n1 n2;cases e1:DS.tyD S d0 with
   | none=>rw[e1]at e;cases e
   | some U=>
    rw[e1]at e;simp only at e;split at e
    ·rename_i h;cases e;have hs:U≠"set":=λz=>by subst z;exact absurd h.1 (by decide)
     exact zU2 _ pins s σ H _ us Q I r ⟨x,_,rfl,zRn ha rx e1 (λl z=>n1 l z) (λl z=>n2 l z) hs (λz=>by have h1:=h.1;rw[z]at h1;exact absurd h1 (by decide)),zXn _ h.1 h.2,k _ H ha .refl rfl⟩
    ·cases e
 ·cases e
end
def len0{α:Type}:∀{l:List α},l.length=0->l=[]
 | [],_=>rfl
 | _::_,h=>nomatch h
def lenS{α:Type}{n:Nat}{l:List α}(h:l.length=n+1):∃a r,l=a::r/\r.length=n:=by
 cases l with
 | nil=>cases h
 | cons a r=>exact⟨a,r,rfl,Nat.succ.inj h⟩
def len1{α:Type}{l:List α}(h:l.length=1):∃a,l=[a]:=by obtain⟨a,r,e,q⟩:=lenS h;exact⟨a,by rw[e,len0 q]⟩
def len2{α:Type}{l:List α}(h:l.length=2):∃a b,l=[a,b]:=by obtain⟨a,r,e,q⟩:=lenS h;obtain⟨b,e2⟩:=len1 q;exact⟨a,b,by rw[e,e2]⟩
def len3{α:Type}{l:List α}(h:l.length=3):∃a b c,l=[a,b,c]:=by obtain⟨a,r,e,q⟩:=lenS h;obtain⟨b,c,e2⟩:=len2 q;exact⟨a,b,c,by rw[e,e2]⟩
def len4{α:Type}{l:List α}(h:l.length=4):∃a b c d,l=[a,b,c,d]:=by obtain⟨a,r,e,q⟩:=lenS h;obtain⟨b,c,d,e2⟩:=len3 q;exact⟨a,b,c,d,by rw[e,e2]⟩
def zOe{K:PySem.W.Frag}{F:DS.Fn}{H:Hp}{a:Addr}{ns:List Int}{XX:XK}(h:∃S,F [.klst (ns.map D.int)] []=.ok (.bl true) S)(hS:SqL K H a (ns.map V.int)):spOf K XE0 F [.ref a] H (λv _=>v=.bl true) XX:=by
 obtain⟨S,e⟩:=h;refine⟨[],[],[.klst (ns.map D.int)],⟨rfl,v8,λi a d e _=>by simp at e⟩,⟨.ref a,[],rfl,⟨a,ns.map V.int,rfl,?_,.ints⟩,rfl⟩,?_⟩
 ·rcases hS with h|h
  ·exact .inl ⟨h,by simp⟩
  ·exact .inr h
 ·rw[e];exact λJ' H' _ _ v r=>r
end L2
namespace TM
open PySem PyProof.Rows
def dk:Keyed:=(Value.none,Value.none)
def Cm(prog:Program)(w:World)(A:Around)(s:Shared)(κ:SortKind)(rk:Keyed->Nat)(Gd:Keyed->Prop):Prop:=
 ∀x y,Gd x->Gd y->∀(Q:Bool->Shared->Prop) (E':Value->Shared->Prop),Q (decide (rk x<rk y)) s->wpAny (model prog w) A (keyLt' κ x.1 y.1) Q E' s
structure SB (κ:SortKind) (a₀:Array Keyed) (st:SortSt):Prop where
 perm:(arrOf st).Perm a₀
 kind:kindOf st=κ
 failed:failedOf st=none
section
variable {κ:SortKind}{a₀:Array Keyed}{st:SortSt}{rk:Keyed->Nat}
def SB.size(h:SB κ a₀ st):(arrOf st).size=a₀.size:=h.perm.size_eq
def SB.set(h:SB κ a₀ st){xs:Array Keyed}(hp:xs.Perm (arrOf st)):SB κ a₀ (setArr st xs):=⟨hp.trans h.perm,h.kind,h.failed⟩
def ky(rk:Keyed->Nat)(xs:Array Keyed)(i:Nat):Nat:=rk (xs.getD i dk)
def So(rk:Keyed->Nat)(xs:Array Keyed)(a b:Nat):Prop:=∀i j,a<=i->i<=j->j<b->ky rk xs i<=ky rk xs j
def Fa(rk:Keyed->Nat)(xs:Array Keyed)(a b:Nat):Prop:=∀i j,a<=i->i<=j->j<b->ky rk xs j<=ky rk xs i
def Out(a b:Nat)(xs ys:Array Keyed):Prop:=∀k,k<a\/b<=k->ys[k]?=xs[k]?
def Out.refl :Out a b xs xs:=λ_ _=>rfl
def Out.trans(h:Out a b xs ys)(h':Out a b ys zs):Out a b xs zs:=λk hk=>(h' k hk).trans (h k hk)
def Out.mono{a b a' b':Nat}(h:Out a b xs ys)(h1:a'<=a)(h2:b<=b'):Out a' b' xs ys:=λk hk=>h k (by nofun)
def zQ8{xs ys:Array Keyed}(h:xs[i]?=ys[j]?):xs.getD i dk=ys.getD j dk:=by rw[vR,vR,h]
def zN8{i j:Nat}(h:xs[i]?=ys[j]?):ky rk xs i=ky rk ys j:=by unfold ky;rw[zQ8 h]
def Out.ky{a b k:Nat}(h:Out a b xs ys)(hk:k<a\/b<=k):TM.ky rk ys k=TM.ky rk xs k:=zN8 (h k hk)
def So.out{a b c d:Nat}(h:So rk xs c d)(o:Out a b xs ys)(hd:d<=a\/b<=c):So rk ys c d:=λi j h1 h2 h3=>by
 rw[o.ky (by nofun),o.ky (by nofun)];exact h i j h1 h2 h3
def zPr{xs:Array Keyed}{i j:Nat}(hj:j<=xs.size)(k:Nat):ky rk (mirror xs i j ((j-i) / 2)) k=if i<=k/\k<j then ky rk xs (i+j-1-k)else ky rk xs k:=by
 have e:=getElem?_mirror_all (i:=i) hj k;split at e <;> rename_i h1
 ·rw[xf h1];exact zN8 e
 ·rw[xg h1];exact zN8 e
def zDj{xs:Array Keyed}{i j:Nat}(hj:j<=xs.size)(he:∀k,i<=k->k<j->ky rk xs k=ky rk xs (j-1))(k:Nat):ky rk (mirror xs i j ((j-i) / 2)) k=ky rk xs k:=by
 rw[zPr hj];split
 ·rw[he _ (by nofun) (by nofun),he k (by nofun) (by nofun)]
 ·rfl
def zX3{xs:Array Keyed}{i j:Nat}(hj:j<=xs.size):Out i j xs (mirror xs i j ((j-i) / 2)):=λk hk=>by
 rw[getElem?_mirror_all hj,xg (by nofun)]
def zV1{xs:Array Keyed}{src d:Nat}(hs:src<xs.size)(hd:d<=src)(k:Nat):ky rk (bubble xs src d) k=if k=src-d then ky rk xs src else if src-d<k/\k<=src then ky rk xs (k-1)else ky rk xs k:=by
 have e:=getElem?_bubble hs d hd k;split at e <;> rename_i h1
 ·rw[xf h1];exact zN8 e
 ·rw[xg h1];split at e <;> rename_i h2
  ·rw[xf h2];exact zN8 e
  ·rw[xg h2];exact zN8 e
def zX4{xs:Array Keyed}{src d:Nat}(hs:src<xs.size)(hd:d<=src):Out (src-d) (src+1) xs (bubble xs src d):=λk hk=>by
 rw[getElem?_bubble hs d hd,xg (by nofun),xg (by nofun)]
end
section
variable {prog:Program}{w:World}{A:Around}{E:Value->Shared->Prop}{s:Shared}{κ:SortKind}{a₀:Array Keyed}{rk:Keyed->Nat}{Gd:Keyed->Prop}
def zYz{xs:Array Keyed}(hp:xs.Perm a₀)(hg:∀x∈a₀,Gd x){i:Nat}(hi:i<a₀.size):xs[i]?=some (xs.getD i dk)/\Gd (xs.getD i dk):=by
 have hi':i<xs.size:=by rw[hp.size_eq];exact hi
 have e:xs.getD i dk=xs[i]:=by simp[Array.getD,hi']
 refine⟨by rw[e];exact getElem?_pos _ i hi',?_⟩;rw[e];exact hg _ (hp.mem_iff.mp (Array.getElem_mem hi'))
def w_lt(C:Cm prog w A s κ rk Gd){st:SortSt}{Q:Option Bool->SortSt->Prop}(hk:kindOf st=κ)(hx:Gd x)(hy:Gd y)(h:Q (some (decide (rk x<rk y))) st):wpS (model prog w) A E s (lt' x y) Q st:=by rw[lt'_eq];refine xj (wpS_get ?_);rw[hk];exact xj (wpS_lift (uw (C x y hx hy _ _ ⟨rfl,xk h⟩)))
def zAr{st:SortSt}{i:Nat}{Q:Keyed->SortSt->Prop}(e:xs[i]?=some x)(h:Q x st):wpS (model prog w) A E s (elem' xs i) Q st:=by rw[elem'_eq,e];exact xk h
def w_at(C:Cm prog w A s κ rk Gd)(hg:∀x∈a₀,Gd x){st:SortSt}{i j:Nat}{Q:Option Bool->SortSt->Prop}(B:SB κ a₀ st)(hi:i<a₀.size)(hj:j<a₀.size)
  (h:Q (some (decide (ky rk (arrOf st) i<ky rk (arrOf st) j))) st):wpS (model prog w) A E s (ltAt' i j) Q st:=by
 obtain⟨e1,g1⟩:=zYz B.perm hg hi;obtain⟨e2,g2⟩:=zYz B.perm hg hj;rw[ltAt'_eq];refine xj (wpS_get ?_);exact xj (zAr e1 (xj (zAr e2 (w_lt C B.kind g1 g2 h))))
noncomputable def ascL (lo a nrem:Nat):StateT SortSt Sem AscSt:=forIn [a:nrem] ((none,a):AscSt) λ_ z=>do
 let x <- ltAt' (lo+z.snd) (lo+z.snd-1)
 match x with
 | some smaller=>if smaller=true then pure (ForInStep.done (none,z.snd))else pure (ForInStep.yield (none,z.snd+1))
 | _=>pure (ForInStep.done (some none,z.snd))
noncomputable def zNy (lo n nrem:Nat):StateT SortSt Sem (Option Nat):=do
 reverseSlice' lo (lo+n)
 let z <- ascL lo n nrem
 match z.fst with
 | some r=>pure r
 | none=>pure (some z.snd)
noncomputable def zTv (lo n nrem:Nat):StateT SortSt Sem DescSt:=forIn [n:nrem] ((none,n,0):DescSt) λ_ z=>do
 let x <- ltAt' (lo+z.snd.fst) (lo+z.snd.fst-1)
 match x with
 | some smaller=>
  if smaller=true then
   if z.snd.snd > 0 then do
    reverseSlice' (lo+z.snd.fst-(z.snd.snd+1)) (lo+z.snd.fst)
    pure (ForInStep.yield (none,z.snd.fst+1,0))
   else pure (ForInStep.yield (none,z.snd.fst+1,0))
  else do
   let x <- ltAt' (lo+z.snd.fst-1) (lo+z.snd.fst)
   match x with
   | some larger=>if larger=true then pure (ForInStep.done (none,z.snd.fst,z.snd.snd))else pure (ForInStep.yield (none,z.snd.fst+1,z.snd.snd+1))
   | _=>pure (ForInStep.done (some none,z.snd.fst,z.snd.snd))
 | _=>pure (ForInStep.done (some none,z.snd.fst,z.snd.snd))
noncomputable def zP2 (lo n nrem:Nat):StateT SortSt Sem (Option Nat):=do
 liftM (rule "list.sort.descending-run")
 let z <- zTv lo (n+1) nrem
 match z.fst with
 | some r=>pure r
 | none=>
  if z.snd.snd > 0 then do
   reverseSlice' (lo+z.snd.fst-(z.snd.snd+1)) (lo+z.snd.fst)
   zNy lo z.snd.fst nrem
  else zNy lo z.snd.fst nrem
def count_eq(lo nrem:Nat):countRun' lo nrem=(do
  let z <- ascL lo 1 nrem
  match z.fst with
  | some r=>pure r
  | none=>
   if(z.snd == nrem)=true then pure (some z.snd)
   else if z.snd > 1 then do
    let x <- ltAt' lo (lo+z.snd-1)
    match x with
    | some rose=>if rose=true then pure (some z.snd)else do
      reverseSlice' lo (lo+z.snd)
      zP2 lo z.snd nrem
    | _=>pure none
   else zP2 lo z.snd nrem):=by
 rw[countRun'_eq];unfold zP2 zNy zTv ascL;refine congrArg (Bind.bind _) ?_
 funext z
 obtain⟨r,n⟩:=z;cases r with
 | some r=>rfl
 | none=>
  dsimp only;split
  ·rfl
  ·split
   ·congr 1;funext x
    cases x with
    | none=>rfl
    | some rose=>
     dsimp only;split
     ·rfl
     ·congr 1;funext _r
      congr 1;funext _u;congr 1;congr 1;funext s2;obtain⟨r2,n2,q2⟩:=s2
      cases r2 with
      | some r2=>rfl
      | none=>
       dsimp only;split
       ·congr 1;funext _v;congr 1;funext _w;congr 1;funext s3;obtain⟨r3,n3⟩:=s3;cases r3 <;> rfl
       ·congr 1;funext _w;congr 1;funext s3;obtain⟨r3,n3⟩:=s3;cases r3 <;> rfl
   ·congr 1;funext _u;congr 1;congr 1;funext s2;obtain⟨r2,n2,q2⟩:=s2
    cases r2 with
    | some r2=>rfl
    | none=>
     dsimp only;split
     ·congr 1;funext _v;congr 1;funext _w;congr 1;funext s3;obtain⟨r3,n3⟩:=s3;cases r3 <;> rfl
     ·congr 1;funext _w;congr 1;funext s3;obtain⟨r3,n3⟩:=s3;cases r3 <;> rfl
structure Ran (κ:SortKind) (a₀:Array Keyed) (lo hi:Nat) (st st':SortSt):Prop where
 b:SB κ a₀ st'
 pend:pendingOf st'=pendingOf st
 out:Out lo hi (arrOf st) (arrOf st')
def Ran.refl{lo hi:Nat}{st:SortSt}(B:SB κ a₀ st):Ran κ a₀ lo hi st st:=⟨B,rfl,.refl⟩
def Ran.trans{lo hi:Nat}{st st1 st2:SortSt}(a:Ran κ a₀ lo hi st st1)(b:Ran κ a₀ lo hi st1 st2):Ran κ a₀ lo hi st st2:=⟨b.b,b.pend.trans a.pend,a.out.trans b.out⟩
def Ran.mono{lo hi lo' hi':Nat}{st st1:SortSt}(a:Ran κ a₀ lo hi st st1)(h1:lo'<=lo)(h2:hi<=hi'):Ran κ a₀ lo' hi' st st1:=⟨a.b,a.pend,a.out.mono h1 h2⟩
def w_rev{st:SortSt}{i j:Nat}{Q:Unit->SortSt->Prop}(h:Q () (setArr st (mirror (arrOf st) i j ((j-i) / 2)))):wpS (model prog w) A E s (reverseSlice' i j) Q st:=by rw[reverseSlice'_eq];exact vI h
def zI0{st:SortSt}{i j:Nat}(B:SB κ a₀ st)(hj:j<=a₀.size):Ran κ a₀ i j st (setArr st (mirror (arrOf st) i j ((j-i) / 2))):=⟨B.set (mirror_perm _ _ _ _),rfl,zX3 (by rw[B.size];exact hj)⟩
def zZ7(C:Cm prog w A s κ rk Gd)(hg:∀x∈a₀,Gd x){st:SortSt}{lo a nrem:Nat}{Q:AscSt->SortSt->Prop}(hn:lo+nrem<=a₀.size)(ha:1<=a)(han:a<=nrem)(B:SB κ a₀ st)(hs:So rk (arrOf st) lo (lo+a))
  (h:∀n,a<=n->n<=nrem->So rk (arrOf st) lo (lo+n)->(n=nrem\/ky rk (arrOf st) (lo+n)<ky rk (arrOf st) (lo+n-1))->Q (none,n) st):wpS (model prog w) A E s (ascL lo a nrem) Q st:=by
 unfold ascL;refine vg (I:=λx c st'=>st'=st/\c=(none,x)/\So rk (arrOf st) lo (lo+x)) ?step ?fin ⟨rfl,rfl,hs⟩
 case fin=>
  rintro c st' ⟨rfl,rfl,hs'⟩;rw[show max a nrem=nrem by nofun]at hs' ⊢;exact h nrem han (xi _) hs' (.inl rfl)
 case step=>
  rintro x c st' hax hxn ⟨rfl,rfl,hs'⟩;dsimp only;refine xj (w_at C hg B (by nofun) (by nofun) ?_);by_cases q:ky rk (arrOf st') (lo+x)<ky rk (arrOf st') (lo+x-1)
  ·rw[xx q];exact xk (h x hax (by nofun) hs' (.inr q))
  ·rw[xC q];refine xk ⟨rfl,rfl,λi j h1 hij hj=>?_⟩;by_cases hjx:j<lo+x
   ·exact hs' i j h1 hij hjx
   ·obtain rfl:j=lo+x:=by nofun
    by_cases hi':i=lo+x
    ·rw[hi'];exact xi _
    ·exact xm (hs' i (lo+x-1) h1 (by nofun) (by nofun)) (Nat.not_lt.mp q)
def zU6(C:Cm prog w A s κ rk Gd)(hg:∀x∈a₀,Gd x){st:SortSt}{lo n nrem:Nat}{Q:Option Nat->SortSt->Prop}(hn:lo+nrem<=a₀.size)(h1:1<=n)(hnn:n<=nrem)(B:SB κ a₀ st)(hs:Fa rk (arrOf st) lo (lo+n))
  (h:∀m st',Ran κ a₀ lo (lo+nrem) st st'->1<=m->m<=nrem->So rk (arrOf st') lo (lo+m)->Q (some m) st'):wpS (model prog w) A E s (zNy lo n nrem) Q st:=by
 unfold zNy;have R:=zI0 (i:=lo) (j:=lo+n) B (by nofun);have hsz:lo+n<=(arrOf st).size:=by rw[B.size];lia
 refine xj (w_rev (xj (zZ7 C hg hn h1 hnn R.b ?_ λm hm1 hm2 hsm _=>xk (h m _ (R.mono (xi _) (by nofun)) (by nofun) hm2 hsm))));intro i j h0 hij hj;show ky rk (mirror (arrOf st) lo (lo+n) ((lo+n-lo) / 2)) i<=ky rk (mirror (arrOf st) lo (lo+n) ((lo+n-lo) / 2)) j;rw[zPr hsz,zPr hsz,xf (by nofun),xf (by nofun)];exact hs _ _ (by nofun) (by nofun) (by nofun)
def zZ6(C:Cm prog w A s κ rk Gd)(hg:∀x∈a₀,Gd x){st:SortSt}{lo n nrem:Nat}{Q:DescSt->SortSt->Prop}(hn:lo+nrem<=a₀.size)(h1:1<=n)(hnn:n<=nrem)(B:SB κ a₀ st)(hs:Fa rk (arrOf st) lo (lo+n))
  (h:∀m neq st',Ran κ a₀ lo (lo+nrem) st st'->n<=m->m<=nrem->Fa rk (arrOf st') lo (lo+m)->neq+1<=m->(∀i,lo+m-(neq+1)<=i->i<lo+m->ky rk (arrOf st') i=ky rk (arrOf st') (lo+m-1))->Q (none,m,neq) st'):
  wpS (model prog w) A E s (zTv lo n nrem) Q st:=by
 unfold zTv;refine vg (I:=λx c st'=>∃neq,c=(none,x,neq)/\Ran κ a₀ lo (lo+nrem) st st'/\Fa rk (arrOf st') lo (lo+x)/\neq+1<=x/\(∀i,lo+x-(neq+1)<=i->i<lo+x->ky rk (arrOf st') i=ky rk (arrOf st') (lo+x-1))) ?step ?fin
  ⟨0,rfl,.refl B,hs,by nofun,λi h1 h2=>by congr 1;lia⟩
 case fin=>
  rintro c st' ⟨neq,rfl,R,hs',hq,he⟩;rw[show max n nrem=nrem by nofun]at hs' hq he ⊢;exact h nrem neq st' R hnn (xi _) hs' hq he
 case step=>
  rintro x c st' hax hxn ⟨neq,rfl,R,hs',hq,he⟩;dsimp only;have hsz:lo+x<=(arrOf st').size:=by rw[R.b.size];lia
  refine xj (w_at C hg R.b (by nofun) (by nofun) ?_);by_cases q:ky rk (arrOf st') (lo+x)<ky rk (arrOf st') (lo+x-1)
  ·rw[xx q];simp only[xl];have st1:∀xs:Array Keyed,(∀k,ky rk xs k=ky rk (arrOf st') k)->Fa rk xs lo (lo+(x+1)):=λxs hk i j h0 hij hj=>by
    rw[hk,hk];by_cases hjx:j<lo+x
    ·exact hs' i j h0 hij hjx
    ·obtain rfl:j=lo+x:=by nofun
     by_cases hi':i=lo+x
     ·rw[hi'];exact xi _
     ·exact xm (xU q) (hs' i (lo+x-1) h0 (by nofun) (by nofun))
   by_cases hneq:neq > 0
   ·rw[xf hneq];have R2:=zI0 (i:=lo+x-(neq+1)) (j:=lo+x) R.b (by nofun);exact xj (w_rev (xk ⟨0,rfl,R.trans (R2.mono (by nofun) (by nofun)),st1 _ (zDj hsz he),by nofun,λi h1 h2=>by congr 1;lia⟩))
   ·rw[xg hneq];exact xk ⟨0,rfl,R,st1 _ (λ_=>rfl),by nofun,λi h1 h2=>by congr 1;lia⟩
  ·rw[xC q];simp only[ve,xI];refine xj (w_at C hg R.b (by nofun) (by nofun) ?_);by_cases ql:ky rk (arrOf st') (lo+x-1)<ky rk (arrOf st') (lo+x)
   ·rw[xx ql];exact xk (h x neq st' R hax (by nofun) hs' hq he)
   ·rw[xC ql];have ex:ky rk (arrOf st') (lo+x)=ky rk (arrOf st') (lo+x-1):=by nofun
    refine xk ⟨neq+1,rfl,R,λi j h0 hij hj=>?_,by nofun,λi h1 h2=>?_⟩
    ·by_cases hjx:j<lo+x
     ·exact hs' i j h0 hij hjx
     ·obtain rfl:j=lo+x:=by nofun
      by_cases hi':i=lo+x
      ·rw[hi'];exact xi _
      ·rw[ex];exact hs' i (lo+x-1) h0 (by nofun) (by nofun)
    ·rw[show lo+(x+1)-1=lo+x by nofun];by_cases hix:i=lo+x
     ·rw[hix]
     ·rw[ex];exact he i (by nofun) (by nofun)
def zU7(C:Cm prog w A s κ rk Gd)(hg:∀x∈a₀,Gd x){st:SortSt}{lo n nrem:Nat}{Q:Option Nat->SortSt->Prop}(hn:lo+nrem<=a₀.size)(hnn:n+1<=nrem)(B:SB κ a₀ st)(hs:Fa rk (arrOf st) lo (lo+(n+1)))
  (h:∀m st',Ran κ a₀ lo (lo+nrem) st st'->1<=m->m<=nrem->So rk (arrOf st') lo (lo+m)->Q (some m) st'):wpS (model prog w) A E s (zP2 lo n nrem) Q st:=by
 unfold zP2;refine xj (wpS_lift (vt ⟨rfl,xj (zZ6 C hg hn (by nofun) hnn B hs λm neq st' R hm1 hm2 hs' hq he=>?_)⟩));dsimp only;have hsz:lo+m<=(arrOf st').size:=by rw[R.b.size];lia
 by_cases hneq:neq > 0
 ·rw[xf hneq];have R2:=zI0 (i:=lo+m-(neq+1)) (j:=lo+m) R.b (by nofun);refine xj (w_rev (zU6 C hg hn (by nofun) hm2 R2.b (λi j h0 hij hj=>?_) λm' st'' R3 a1 a2 a3=>h m' st'' ((R.trans (R2.mono (by nofun) (by nofun))).trans R3) a1 a2 a3));show ky rk (mirror (arrOf st') _ _ _) j<=ky rk (mirror (arrOf st') _ _ _) i;rw[zDj hsz he,zDj hsz he];exact hs' i j h0 hij hj
 ·rw[xg hneq];exact zU6 C hg hn (by nofun) hm2 R.b hs' λm' st'' R3 a1 a2 a3=>h m' st'' (R.trans R3) a1 a2 a3
def w_count(C:Cm prog w A s κ rk Gd)(hg:∀x∈a₀,Gd x){st:SortSt}{lo nrem:Nat}{Q:Option Nat->SortSt->Prop}(hn:lo+nrem<=a₀.size)(h1:1<=nrem)(B:SB κ a₀ st)
  (h:∀m st',Ran κ a₀ lo (lo+nrem) st st'->1<=m->m<=nrem->So rk (arrOf st') lo (lo+m)->Q (some m) st'):wpS (model prog w) A E s (countRun' lo nrem) Q st:=by
 rw[count_eq];refine xj (zZ7 C hg hn (xi 1) h1 B (λi j h0 hij hj=>Nat.le_of_eq (congrArg _ (show i=j by nofun))) λn hn1 hn2 hsn hor=>?_);dsimp only;by_cases hnn:n=nrem
 ·rw[xf (by simpa using hnn)];exact xk (h n st (.refl B) hn1 hn2 hsn)
 ·rw[xg (by simpa using hnn)];have hlt:=hor.resolve_left hnn;by_cases hgt:n > 1
  ·rw[xf hgt];refine xj (w_at C hg B (by nofun) (by nofun) ?_);by_cases hr:ky rk (arrOf st) lo<ky rk (arrOf st) (lo+n-1)
   ·rw[xx hr];exact xk (h n st (.refl B) hn1 hn2 hsn)
   ·rw[xC hr];have hsz:lo+n<=(arrOf st).size:=by rw[B.size];lia
    have hall:∀k,lo<=k->k<lo+n->ky rk (arrOf st) k=ky rk (arrOf st) (lo+n-1):=λk hk0 hk=>by
     have a1:=hsn lo k (xi _) hk0 hk;have a2:=hsn k (lo+n-1) hk0 (by nofun) (by nofun);lia
    have R2:=zI0 (i:=lo) (j:=lo+n) B (by nofun);refine xj (w_rev (zU7 C hg hn (by nofun) R2.b (λi j h0 hij hj=>?_) λm' st'' R3 a1 a2 a3=>h m' st'' ((R2.mono (xi _) (by nofun)).trans R3) a1 a2 a3));show ky rk (mirror (arrOf st) _ _ _) j<=ky rk (mirror (arrOf st) _ _ _) i;rw[zDj hsz hall,zDj hsz hall];by_cases hjn:j<lo+n
    ·rw[hall i (by nofun) (by nofun),hall j (by nofun) hjn];exact xi _
    ·obtain rfl:j=lo+n:=by nofun
     by_cases hi':i=lo+n
     ·rw[hi'];exact xi _
     ·rw[hall i (by nofun) (by nofun)];exact xU hlt
  ·rw[xg hgt];obtain rfl:n=1:=by nofun
   refine zU7 C hg hn (by nofun) B (λi j h0 hij hj=>?_) h;by_cases hi':i=j
   ·rw[hi'];exact xi _
   ·obtain rfl:i=lo:=by nofun
    obtain rfl:j=i+1:=by nofun
    exact xU hlt
def yCj(C:Cm prog w A s κ rk Gd)(hg:∀x∈a₀,Gd x){st:SortSt}{lo n ok:Nat}{Q:Bool->SortSt->Prop}(hn:lo+n<=a₀.size)(hok:ok<=n)(B:SB κ a₀ st)(hs:So rk (arrOf st) lo (lo+ok))
  (h:∀st',Ran κ a₀ lo (lo+n) st st'->So rk (arrOf st') lo (lo+n)->Q true st'):wpS (model prog w) A E s (binarySort' lo n ok) Q st:=by
 rw[binarySort'_eq];refine xj (vo (vg (I:=λk c st'=>c=(none,())/\Ran κ a₀ lo (lo+n) st st'/\So rk (arrOf st') lo (lo+min k n)) (Q:=λc st'=>c=(none,())/\Ran κ a₀ lo (lo+n) st st'/\So rk (arrOf st') lo (lo+n)) ?step ?fin ?init) ?post)
 case post=>
  rintro c st' ⟨rfl,R,hs'⟩;exact xk (h st' R hs')
 case init=>
  refine⟨rfl,.refl B,λi j h0 hij hj=>?_⟩;by_cases h1:ok=0
  ·exact Nat.le_of_eq (congrArg _ (show i=j by nofun))
  ·exact hs i j h0 hij (by nofun)
 case fin=>
  rintro c st' ⟨hc,R,hs'⟩;rw[show min (max (max ok 1) n) n=n by nofun]at hs';exact⟨hc,R,hs'⟩
 case step=>
  rintro k c st' hak hkn ⟨rfl,R,hs'⟩;rw[show min k n=k by nofun]at hs';have hk:lo+k<a₀.size:=by nofun
  refine xj (vo (vg (I:=λx c st''=>st''=st'/\∃l r,c=(none,l,r)/\l<=r/\r<=k/\r-l<=k-x/\(∀i,i<l->ky rk (arrOf st') (lo+i)<=ky rk (arrOf st') (lo+k))/\(∀i,r<=i->i<k->ky rk (arrOf st') (lo+k)<ky rk (arrOf st') (lo+i)))
   (Q:=λc st''=>st''=st'/\∃l r,c=(none,l,r)/\l<=k/\(∀i,i<l->ky rk (arrOf st') (lo+i)<=ky rk (arrOf st') (lo+k))/\(∀i,l<=i->i<k->ky rk (arrOf st') (lo+k)<ky rk (arrOf st') (lo+i))) ?istep ?ifin ?iinit) ?ipost)
  case iinit=>exact⟨rfl,0,k,rfl,by nofun,by nofun,by nofun,λi hi=>by nofun,λi h1 h2=>by nofun⟩
  case ifin=>
   rintro c st'' ⟨rfl,l,r,rfl,hlr,hrk,hm,hlo,hhi⟩;obtain rfl:l=r:=by nofun
   exact⟨rfl,l,l,rfl,hrk,hlo,hhi⟩
  case istep=>
   rintro x c st'' _ hxk ⟨rfl,l,r,rfl,hlr,hrk,hm,hlo,hhi⟩;dsimp only;by_cases hge:l >= r
   ·rw[xf hge];obtain rfl:l=r:=by nofun
    exact xk ⟨rfl,l,l,rfl,hrk,hlo,hhi⟩
   ·rw[xg hge];refine xj (w_at C hg R.b hk (by nofun) ?_);by_cases q:ky rk (arrOf st'') (lo+k)<ky rk (arrOf st'') (lo+(l+r) / 2)
    ·rw[xx q];exact xk ⟨rfl,l,(l+r) / 2,rfl,by nofun,by nofun,by nofun,hlo,λi h1 h2=>xF q (hs' _ _ (by nofun) (by nofun) (by nofun))⟩
    ·rw[xC q];exact xk ⟨rfl,(l+r) / 2+1,r,rfl,by nofun,by nofun,by nofun,λi h1=>xm (hs' (lo+i) (lo+(l+r) / 2) (by nofun) (by nofun) (by nofun)) (Nat.not_lt.mp q),hhi⟩
  case ipost=>
   rintro c st'' ⟨rfl,l,r,rfl,hlk,hlo,hhi⟩;show wpS _ _ _ _ (do moveDown' (lo+k) (lo+l);pure (ForInStep.yield (none,()))) _ _;rw[moveDown'_eq];have hks:lo+k<(arrOf st'').size:=by rw[R.b.size];exact hk
   have ob:=zX4 (d:=lo+k-(lo+l)) hks (by nofun);refine xj (vI (xk ⟨rfl,R.trans ⟨R.b.set (bubble_perm _ _ _),rfl,ob.mono (by nofun) (by nofun)⟩,?_⟩));rw[show min (k+1) n=k+1 by nofun];intro i j h0 hij hj;show ky rk (bubble (arrOf st'') (lo+k) (lo+k-(lo+l))) i<=ky rk (bubble (arrOf st'') (lo+k) (lo+k-(lo+l))) j;rw[zV1 hks (by nofun),zV1 hks (by nofun),show lo+k-(lo+k-(lo+l))=lo+l by nofun];have lo':∀i,lo<=i->i<lo+l->ky rk (arrOf st'') i<=ky rk (arrOf st'') (lo+k):=λi h1 h2=>by
    have:=hlo (i-lo) (by nofun)
    rwa[show lo+(i-lo)=i by nofun]at this
   have hi':∀i,lo+l<=i->i<lo+k->ky rk (arrOf st'') (lo+k)<=ky rk (arrOf st'') i:=λi h1 h2=>by
    have:=hhi (i-lo) (by nofun) (by nofun);rw[show lo+(i-lo)=i by nofun]at this;exact xU this
   repeat' split
   all_goals first
    | (exfalso;lia)
    | exact xi _
    | exact lo' _ (by nofun) (by nofun)
    | exact hi' _ (by nofun) (by nofun)
    | exact hs' _ _ (by nofun) (by nofun) (by nofun)
noncomputable def gallop':Bool->Keyed->Array Keyed->Nat->Nat->Nat->StateT SortSt Sem (Option Nat):=sortPriv% PySem.Builtin.gallop
noncomputable def bey (left:Bool) (key:Keyed) (arr:Array Keyed) (base i:Nat):StateT SortSt Sem (Option Bool):=do
 let x <- elem' arr (base+i)
 if left then lt' x key else return (<- lt' key x).map (!·)
def zNb(left:Bool)(key:Keyed)(arr:Array Keyed)(base n hint:Nat):gallop' left key arr base n hint=(do
 let mut lastofs:=0
 let mut ofs:=1
 let mut lo:=0
 let mut hi:=0
 let some right <- bey left key arr base hint|return none
 if right then
  let maxofs:=n-hint
  for _ in [0:n] do
   if ofs >= maxofs then break
   let some more <- bey left key arr base (hint+ofs)|return none
   if !more then break
   lastofs:=ofs
   ofs:=2*ofs+1
  lo:=hint+lastofs+1
  hi:=hint+min ofs maxofs
 else
  let maxofs:=hint+1
  for _ in [0:n] do
   if ofs >= maxofs then break
   let some found <- bey left key arr base (hint-ofs)|return none
   if found then break
   lastofs:=ofs
   ofs:=2*ofs+1
  lo:=hint+1-min ofs maxofs
  hi:=hint-lastofs
 for _ in [0:n] do
  if lo >= hi then break
  let m:=lo+(hi-lo) / 2
  let some more <- bey left key arr base m|return none
  if more then lo:=m+1 else hi:=m
 return some hi):=rfl
noncomputable def Ah (rk:Keyed->Nat) (left:Bool) (key:Keyed) (arr:Array Keyed) (base i:Nat):Bool:=if left then decide (ky rk arr (base+i)<rk key)else !decide (rk key<ky rk arr (base+i))
def zRm(C:Cm prog w A s κ rk Gd){st:SortSt}{left:Bool}{arr:Array Keyed}{base i:Nat}{Q:Option Bool->SortSt->Prop}(hk:kindOf st=κ)(e:arr[base+i]?=some (arr.getD (base+i) dk))(g:Gd (arr.getD (base+i) dk))(gk:Gd key)
  (h:Q (some (Ah rk left key arr base i)) st):wpS (model prog w) A E s (bey left key arr base i) Q st:=by
 unfold bey;refine xj (zAr e ?_);cases left with
 | true=>exact w_lt C hk g gk h
 | false=>exact xj (w_lt C hk gk g (xk h))
def w_bs(C:Cm prog w A s κ rk Gd){st:SortSt}{left:Bool}{arr:Array Keyed}{base n lo hi:Nat}{Q:Option (Option Nat) × Nat × Nat->SortSt->Prop}(hk:kindOf st=κ)(gk:Gd key)(hg:∀i,i<n->arr[base+i]?=some (arr.getD (base+i) dk)/\Gd (arr.getD (base+i) dk))
  (mono:∀i j,i<=j->j<n->Ah rk left key arr base j=true->Ah rk left key arr base i=true) (hn:hi<=n) (hl:lo<=hi) (h1:∀i,i<lo->Ah rk left key arr base i=true) (h2:∀i,hi<=i->i<n->Ah rk left key arr base i=false)
  (h:∀k,k<=n->(∀i,i<k->Ah rk left key arr base i=true)->(∀i,k<=i->i<n->Ah rk left key arr base i=false)->Q (none,k,k) st):
  wpS (model prog w) A E s (forIn [0:n] ((none,lo,hi):Option (Option Nat) × Nat × Nat) λ_ z=>
    if z.snd.fst >= z.snd.snd then pure (ForInStep.done (none,z.snd.fst,z.snd.snd))
    else do
     let x <- bey left key arr base (z.snd.fst+(z.snd.snd-z.snd.fst) / 2)
     match x with
     | some more=>if more=true then pure (ForInStep.yield (none,z.snd.fst+(z.snd.snd-z.snd.fst) / 2+1,z.snd.snd))else pure (ForInStep.yield (none,z.snd.fst,z.snd.fst+(z.snd.snd-z.snd.fst) / 2))
     | x=>pure (ForInStep.done (some none,z.snd.fst,z.snd.snd))) Q st:=by
 refine(vo (vg (I:=λx c st'=>st'=st/\∃l r,c=(none,l,r)/\l<=r/\r<=n/\r-l<=n-x/\(∀i,i<l->Ah rk left key arr base i=true)/\(∀i,r<=i->i<n->Ah rk left key arr base i=false))
  (Q:=λc st'=>st'=st/\∃k,c=(none,k,k)/\k<=n/\(∀i,i<k->Ah rk left key arr base i=true)/\(∀i,k<=i->i<n->Ah rk left key arr base i=false)) ?step ?fin ⟨rfl,lo,hi,rfl,hl,hn,by nofun,h1,h2⟩) ?post)
 case post=>
  rintro c st' ⟨rfl,k,rfl,a1,a2,a3⟩;exact h k a1 a2 a3
 case fin=>
  rintro c st' ⟨rfl,l,r,rfl,a1,a2,a3,a4,a5⟩;obtain rfl:l=r:=by nofun
  exact⟨rfl,l,rfl,a2,a4,a5⟩
 case step=>
  rintro x c st' _ hx ⟨rfl,l,r,rfl,a1,a2,a3,a4,a5⟩;dsimp only;by_cases hge:l >= r
  ·rw[xf hge];obtain rfl:l=r:=by nofun
   exact xk ⟨rfl,l,rfl,a2,a4,a5⟩
  ·rw[xg hge];obtain⟨e,g⟩:=hg (l+(r-l) / 2) (by nofun);refine xj (zRm C hk e g gk ?_);cases q:Ah rk left key arr base (l+(r-l) / 2)with
   | true=>exact xk ⟨rfl,l+(r-l) / 2+1,r,rfl,by nofun,a2,by nofun,λi hi=>mono i (l+(r-l) / 2) (by nofun) (by nofun) q,a5⟩
   | false=>
    refine xk ⟨rfl,l,l+(r-l) / 2,rfl,by nofun,by nofun,by nofun,a4,λi b1 b2=>?_⟩;cases q2:Ah rk left key arr base i with
    | false=>rfl
    | true=>rw[mono _ i b1 b2 q2]at q;cases q
def zJ3(C:Cm prog w A s κ rk Gd){st:SortSt}{left:Bool}{key:Keyed}{arr:Array Keyed}{base n hint:Nat}{Q:Option Nat->SortSt->Prop}(hk:kindOf st=κ)(gk:Gd key)(hg:∀i,i<n->arr[base+i]?=some (arr.getD (base+i) dk)/\Gd (arr.getD (base+i) dk))
  (hs:So rk arr base (base+n)) (hh:hint<n) (h:∀k,k<=n->(∀i,i<k->Ah rk left key arr base i=true)->(∀i,k<=i->i<n->Ah rk left key arr base i=false)->Q (some k) st):
  wpS (model prog w) A E s (gallop' left key arr base n hint) Q st:=by
 have mono:∀i j,i<=j->j<n->Ah rk left key arr base j=true->Ah rk left key arr base i=true:=λi j hij hj q=>by
  have:=hs (base+i) (base+j) (by nofun) (by nofun) (by nofun);unfold Ah at q ⊢;cases left with
  | true=>simp at q ⊢;lia
  | false=>simp at q ⊢;lia
 have mono':∀i j,i<=j->j<n->Ah rk left key arr base i=false->Ah rk left key arr base j=false:=λi j hij hj q=>by
  cases q2:Ah rk left key arr base j with
  | false=>rfl
  | true=>rw[mono i j hij hj q2]at q;cases q
 rw[zNb];obtain⟨e0,g0⟩:=hg hint hh;refine xj (zRm C hk e0 g0 gk ?_);dsimp only;cases q0:Ah rk left key arr base hint with
 | true=>
  rw[xf rfl];refine xj (vo (vg (I:=λx c st'=>st'=st/\∃l o,c=(none,l,o)/\l<o/\x<o/\hint+l<n/\Ah rk left key arr base (hint+l)=true)
   (Q:=λc st'=>st'=st/\∃l o,c=(none,l,o)/\l<o/\hint+l<n/\Ah rk left key arr base (hint+l)=true/\(n-hint<=o\/Ah rk left key arr base (hint+o)=false)) ?step ?fin ⟨rfl,0,1,rfl,by nofun,by nofun,by nofun,by rw[Nat.add_zero];exact q0⟩) ?post)
  case post=>
   rintro c st' ⟨rfl,l,o,rfl,a1,a2,a3,a4⟩;dsimp only;refine xj (w_bs (n:=n) (lo:=hint+l+1) (hi:=hint+min o (n-hint)) C hk gk hg mono (by nofun) (by nofun) (λi hi=>mono i (hint+l) (by nofun) a2 a3) (λi b1 b2=>?_) λk c1 c2 c3=>xk (h k c1 c2 c3));rcases a4 with a4|a4
   ·lia
   ·exact mono' (hint+o) i (by nofun) b2 a4
  case fin=>
   rintro c st' ⟨rfl,l,o,rfl,a1,a2,a3,a4⟩;exact⟨rfl,l,o,rfl,a1,a3,a4,.inl (by nofun)⟩
  case step=>
   rintro x c st' _ hx ⟨rfl,l,o,rfl,a1,a2,a3,a4⟩;dsimp only;by_cases hge:o >= n-hint
   ·rw[xf hge];exact xk ⟨rfl,l,o,rfl,a1,a3,a4,.inl hge⟩
   ·rw[xg hge];obtain⟨e,g⟩:=hg (hint+o) (by nofun);refine xj (zRm C hk e g gk ?_);cases q:Ah rk left key arr base (hint+o)with
    | true=>exact xk ⟨rfl,o,2*o+1,rfl,by nofun,by nofun,by nofun,q⟩
    | false=>exact xk ⟨rfl,l,o,rfl,a1,a3,a4,.inr q⟩
 | false=>
  rw[xg (by decide)];refine xj (vo (vg (I:=λx c st'=>st'=st/\∃l o,c=(none,l,o)/\l<o/\x<o/\l<=hint/\Ah rk left key arr base (hint-l)=false)
   (Q:=λc st'=>st'=st/\∃l o,c=(none,l,o)/\l<o/\l<=hint/\Ah rk left key arr base (hint-l)=false/\(hint+1<=o\/Ah rk left key arr base (hint-o)=true)) ?step ?fin ⟨rfl,0,1,rfl,by nofun,by nofun,by nofun,by rw[Nat.sub_zero];exact q0⟩) ?post)
  case post=>
   rintro c st' ⟨rfl,l,o,rfl,a1,a2,a3,a4⟩;dsimp only;refine xj (w_bs (n:=n) (lo:=hint+1-min o (hint+1)) (hi:=hint-l) C hk gk hg mono (by nofun) (by nofun) (λi hi=>?_) (λi b1 b2=>mono' (hint-l) i (by nofun) b2 a3) λk c1 c2 c3=>xk (h k c1 c2 c3));rcases a4 with a4|a4
   ·lia
   ·exact mono i (hint-o) (by nofun) (by nofun) a4
  case fin=>
   rintro c st' ⟨rfl,l,o,rfl,a1,a2,a3,a4⟩;exact⟨rfl,l,o,rfl,a1,a3,a4,.inl (by nofun)⟩
  case step=>
   rintro x c st' _ hx ⟨rfl,l,o,rfl,a1,a2,a3,a4⟩;dsimp only;by_cases hge:o >= hint+1
   ·rw[xf hge];exact xk ⟨rfl,l,o,rfl,a1,a3,a4,.inl hge⟩
   ·rw[xg hge];obtain⟨e,g⟩:=hg (hint-o) (by nofun);refine xj (zRm C hk e g gk ?_);cases q:Ah rk left key arr base (hint-o)with
    | true=>exact xk ⟨rfl,l,o,rfl,a1,a3,a4,.inr q⟩
    | false=>exact xk ⟨rfl,o,2*o+1,rfl,by nofun,by nofun,by nofun,q⟩
end
section
variable {rk:Keyed->Nat}
abbrev Pw(rk:Keyed->Nat)(l:List Keyed):Prop:=l.Pairwise λx y=>rk x<=rk y
def Le(rk:Keyed->Nat)(l m:List Keyed):Prop:=∀x∈l,∀y∈m,rk x<=rk y
def Le.app_r(h:Le rk l m)(h':Le rk l n):Le rk l (m++n):=λx hx y hy=>(xJ.mp hy).elim (h x hx y) (h' x hx y)
def Le.app_l(h:Le rk l n)(h':Le rk m n):Le rk (l++m) n:=λx hx y hy=>(xJ.mp hx).elim (λq=>h x q y hy) (λq=>h' x q y hy)
def Le.sub(h:Le rk l m)(a:∀x∈l',x∈l)(b:∀x∈m',x∈m):Le rk l' m':=λx hx y hy=>h x (a x hx) y (b y hy)
def Pw.app(h:Pw rk l)(h':Pw rk m)(q:Le rk l m):Pw rk (l++m):=List.pairwise_append.mpr ⟨h,h',λx hx y hy=>q x hx y hy⟩
def Go(rk:Keyed->Nat)(a b r:Array Keyed):Prop:=r.toList.Perm (a.toList++b.toList)/\Pw rk r.toList
def getD_list(a:Array Keyed)(i:Nat)(h:i<a.size):a.getD i dk=a.toList[i]'(by simpa using h):=by simp[Array.getD,h]
def So.pw{a:Array Keyed}(h:So rk a 0 a.size):Pw rk a.toList:=by
 rw[Pw,yO];intro i j hi hj hij;have:=h i j (by nofun) (by nofun) (by simpa using hj);unfold ky at this
 rwa[getD_list a i (by simpa using hi),getD_list a j (by simpa using hj)]at this
def ch(a:Array Keyed)(i k:Nat):List Keyed:=(a.toList.drop i).take k
def zFc(a:Array Keyed)(i k:Nat):(a.extract i (i+k)).toList=ch a i k:=by rw[yP,List.extract_eq_take_drop,Nat.add_sub_cancel_left];rfl
def zIn(a:Array Keyed)(i:Nat):(a.extract i a.size).toList=a.toList.drop i:=by rw[yP,List.extract_eq_take_drop];exact yy (by simp)
def zG4(a:Array Keyed)(i k:Nat):a.toList.take (i+k)=a.toList.take i++ch a i k:=by rw[List.take_add];rfl
def zDa(a:Array Keyed)(i k:Nat):a.toList.drop i=ch a i k++a.toList.drop (i+k):=by rw[ch,<- List.drop_drop,vG]
def zVg{a:Array Keyed}{i:Nat}(h:i<a.size):ch a i 1=[a.getD i dk]:=by rw[ch,getD_list a i h,List.drop_eq_getElem_cons (by simpa using h)];rfl
def zCh{a:Array Keyed}{i k:Nat}(hx:x∈ch a i k):∃j,i<=j/\j<i+k/\j<a.size/\x=a.getD j dk:=by obtain⟨n,hn,rfl⟩:=List.getElem_of_mem hx;have hn':=hn;rw[ch,vd,ug]at hn';simp only[vf]at hn';refine⟨i+n,by nofun,by nofun,by nofun,?_⟩;rw[getD_list a _ (by nofun)];simp[ch]
def zFa{a:Array Keyed}{i:Nat}(hx:x∈a.toList.drop i):∃j,i<=j/\j<a.size/\x=a.getD j dk:=by obtain⟨n,hn,rfl⟩:=List.getElem_of_mem hx;rw[ug]at hn;simp only[vf]at hn;refine⟨i+n,by nofun,by nofun,?_⟩;rw[getD_list a _ (by nofun)];simp
def zF9{a:Array Keyed}{i:Nat}(hx:x∈a.toList.take i):∃j,j<i/\j<a.size/\x=a.getD j dk:=by obtain⟨n,hn,rfl⟩:=List.getElem_of_mem hx;rw[vd]at hn;simp only[vf]at hn;refine⟨n,by nofun,by nofun,?_⟩;rw[getD_list a _ (by nofun)];simp
def zEj{a:Array Keyed}{l:List Keyed}(h:Pw rk a.toList)(q:l.Sublist a.toList):Pw rk l:=h.sublist q
def zRz{a:Array Keyed}{i k:Nat}(h:Pw rk a.toList):Pw rk (ch a i k):=zEj h ((uL _ _).trans (ye _ _))
structure MI (rk:Keyed->Nat) (a b out:Array Keyed) (ia ib:Nat):Prop where
 perm:out.toList.Perm (a.toList.take ia++b.toList.take ib)
 so:Pw rk out.toList
 la:Le rk out.toList (a.toList.drop ia)
 lb:Le rk out.toList (b.toList.drop ib)
variable {a b out:Array Keyed}{ia ib k:Nat}
def MI.xa(m:MI rk a b out ia ib)(sa:So rk a 0 a.size)(h:∀i j,ia<=i->i<ia+k->i<a.size->ib<=j->j<b.size->ky rk a i<=ky rk b j):MI rk a b (out++a.extract ia (ia+k)) (ia+k) ib:=by
 have e:(out++a.extract ia (ia+k)).toList=out.toList++ch a ia k:=by rw[vx,zFc]
 have l1:=m.la;rw[zDa a ia k]at l1;refine⟨?_,?_,?_,?_⟩ <;> rw[e]
 ·rw[zG4];refine(m.perm.append_right _).trans ?_;rw[xD,xD];exact yD _ uW
 ·exact m.so.app (zRz sa.pw) (l1.sub (λ_ h=>h) λ_ h=>vq _ h)
 ·refine Le.app_l (l1.sub (λ_ h=>h) λ_ h=>xZ _ h) λx hx y hy=>?_
  obtain⟨i,i1,i2,i3,rfl⟩:=zCh hx;obtain⟨j,j1,j2,rfl⟩:=zFa hy;exact sa i j (by nofun) (by nofun) (by nofun)
 ·refine Le.app_l m.lb λx hx y hy=>?_
  obtain⟨i,i1,i2,i3,rfl⟩:=zCh hx;obtain⟨j,j1,j2,rfl⟩:=zFa hy;exact h i j i1 i2 i3 j1 j2
def MI.xb(m:MI rk a b out ia ib)(sb:So rk b 0 b.size)(h:∀i j,ib<=i->i<ib+k->i<b.size->ia<=j->j<a.size->ky rk b i<=ky rk a j):MI rk a b (out++b.extract ib (ib+k)) ia (ib+k):=by
 have e:(out++b.extract ib (ib+k)).toList=out.toList++ch b ib k:=by rw[vx,zFc]
 have l1:=m.lb;rw[zDa b ib k]at l1;refine⟨?_,?_,?_,?_⟩ <;> rw[e]
 ·rw[zG4,<- xD];exact m.perm.append_right _
 ·exact m.so.app (zRz sb.pw) (l1.sub (λ_ h=>h) λ_ h=>vq _ h)
 ·refine Le.app_l m.la λx hx y hy=>?_
  obtain⟨i,i1,i2,i3,rfl⟩:=zCh hx;obtain⟨j,j1,j2,rfl⟩:=zFa hy;exact h i j i1 i2 i3 j1 j2
 ·refine Le.app_l (l1.sub (λ_ h=>h) λ_ h=>xZ _ h) λx hx y hy=>?_
  obtain⟨i,i1,i2,i3,rfl⟩:=zCh hx;obtain⟨j,j1,j2,rfl⟩:=zFa hy;exact sb i j (by nofun) (by nofun) (by nofun)
def zOo{a out:Array Keyed}{i:Nat}(h:i<a.size):out.push (a.getD i dk)=out++a.extract i (i+1):=by apply yE.mp;rw[vx,zFc,zVg h,Array.toList_push]
def MI.pa(m:MI rk a b out ia ib)(sa:So rk a 0 a.size)(ha:ia<a.size)(h:∀j,ib<=j->j<b.size->ky rk a ia<=ky rk b j):MI rk a b (out.push (a.getD ia dk)) (ia+1) ib:=by rw[zOo ha];exact m.xa sa λi j h1 h2 h3 h4 h5=>by rw[show i=ia by nofun];exact h j h4 h5
def MI.pb(m:MI rk a b out ia ib)(sb:So rk b 0 b.size)(hb:ib<b.size)(h:∀j,ia<=j->j<a.size->ky rk b ib<=ky rk a j):MI rk a b (out.push (b.getD ib dk)) ia (ib+1):=by rw[zOo hb];exact m.xb sb λi j h1 h2 h3 h4 h5=>by rw[show i=ib by nofun];exact h j h4 h5
def MI.dn(m:MI rk a b out ia ib)(sa:So rk a 0 a.size)(sb:So rk b 0 b.size)(h:a.size<=ia\/b.size<=ib):Go rk a b (out++a.extract ia a.size++b.extract ib b.size):=by
 unfold Go;rw[vx,vx,zIn,zIn];constructor
 ·refine(((m.perm.append_right _).append_right _)).trans ?_;rw[xD,xD,<- xD (b.toList.take ib)];refine(yD _ (uW.append_right _)).trans ?_;rw[xD,vG,<- xD,vG]
 ·refine(m.so.app (zEj sa.pw (ye _ _)) m.la).app (zEj sb.pw (ye _ _)) (Le.app_l m.lb λx hx y hy=>?_);obtain⟨i,i1,i2,rfl⟩:=zFa hx;obtain⟨j,j1,j2,rfl⟩:=zFa hy;lia
def MI.last(m:MI rk a b out ia ib)(sa:So rk a 0 a.size)(sb:So rk b 0 b.size)(h:a.size=ia+1)(hl:∀j,j<b.size->ky rk b j<=ky rk a (a.size-1)):Go rk a b (out++b.extract ib b.size++a.extract ia a.size):=by
 unfold Go;rw[vx,vx,zIn,zIn];constructor
 ·refine(((m.perm.append_right _).append_right _)).trans ?_;rw[xD,xD,<- xD (b.toList.take ib),vG];refine(yD _ uW).trans ?_;rw[<- xD,vG]
 ·refine(m.so.app (zEj sb.pw (ye _ _)) m.lb).app (zEj sa.pw (ye _ _)) (Le.app_l m.la λx hx y hy=>?_);obtain⟨i,i1,i2,rfl⟩:=zFa hx;obtain⟨j,j1,j2,rfl⟩:=zFa hy;have:=hl i i2
  rwa[show a.size-1=j by nofun]at this
def MI.start(sb:So rk b 0 b.size)(sa:So rk a 0 a.size)(hb:0<b.size)(h:ky rk b 0<=ky rk a 0):MI rk a b #[b.getD 0 dk] 0 1:=by have m0:MI rk a b #[] 0 0:=⟨by simp,by simp[Pw],λx hx=>by simp at hx,λx hx=>by simp at hx⟩;exact m0.pb sb hb λj _ hj=>xm h (sa 0 j (by nofun) (by nofun) hj)
structure MJ (rk:Keyed->Nat) (a b out:Array Keyed) (na nb:Nat):Prop where
 perm:out.reverse.toList.Perm (a.toList.drop na++b.toList.drop nb)
 so:Pw rk out.reverse.toList
 la:Le rk (a.toList.take na) out.reverse.toList
 lb:Le rk (b.toList.take nb) out.reverse.toList
variable {na nb:Nat}
def MJ.xa(m:MJ rk a b out (na+k) nb)(sa:So rk a 0 a.size)(hk:na+k<=a.size)(h:∀i j,na<=i->i<na+k->i<a.size->j<nb->j<b.size->ky rk b j<=ky rk a i):MJ rk a b (out++(a.extract na (na+k)).reverse) na nb:=by
 have e:(out++(a.extract na (na+k)).reverse).reverse.toList=ch a na k++out.reverse.toList:=by rw[Array.reverse_append,vx,Array.reverse_reverse,zFc]
 have l1:=m.la;rw[zG4 a na k]at l1;refine⟨?_,?_,?_,?_⟩ <;> rw[e]
 ·rw[zDa a na k,xD];exact m.perm.append_left _
 ·exact(zRz sa.pw).app m.so (l1.sub (λ_ h=>xZ _ h) λ_ h=>h)
 ·refine Le.app_r (λx hx y hy=>?_) (l1.sub (λ_ h=>vq _ h) λ_ h=>h);obtain⟨i,i1,i2,i3,rfl⟩:=zCh hy;obtain⟨j,j1,j2,rfl⟩:=zF9 hx;exact sa j i (by nofun) (by nofun) (by nofun)
 ·refine Le.app_r (λx hx y hy=>?_) m.lb;obtain⟨i,i1,i2,i3,rfl⟩:=zCh hy;obtain⟨j,j1,j2,rfl⟩:=zF9 hx;exact h i j i1 i2 i3 j1 j2
def MJ.xb(m:MJ rk a b out na (nb+k))(sb:So rk b 0 b.size)(hk:nb+k<=b.size)(h:∀i j,nb<=i->i<nb+k->i<b.size->j<na->j<a.size->ky rk a j<=ky rk b i):MJ rk a b (out++(b.extract nb (nb+k)).reverse) na nb:=by
 have e:(out++(b.extract nb (nb+k)).reverse).reverse.toList=ch b nb k++out.reverse.toList:=by rw[Array.reverse_append,vx,Array.reverse_reverse,zFc]
 have l1:=m.lb;rw[zG4 b nb k]at l1;refine⟨?_,?_,?_,?_⟩ <;> rw[e]
 ·rw[zDa b nb k];refine(m.perm.append_left _).trans ?_;rw[<- xD,<- xD];exact uW.append_right _
 ·exact(zRz sb.pw).app m.so (l1.sub (λ_ h=>xZ _ h) λ_ h=>h)
 ·refine Le.app_r (λx hx y hy=>?_) m.la;obtain⟨i,i1,i2,i3,rfl⟩:=zCh hy;obtain⟨j,j1,j2,rfl⟩:=zF9 hx;exact h i j i1 i2 i3 j1 j2
 ·refine Le.app_r (λx hx y hy=>?_) (l1.sub (λ_ h=>vq _ h) λ_ h=>h);obtain⟨i,i1,i2,i3,rfl⟩:=zCh hy;obtain⟨j,j1,j2,rfl⟩:=zF9 hx;exact sb j i (by nofun) (by nofun) (by nofun)
def zOn{a out:Array Keyed}{i:Nat}(h:i<a.size):out.push (a.getD i dk)=out++(a.extract i (i+1)).reverse:=by apply yE.mp;rw[vx,Array.toList_reverse,zFc,zVg h,Array.toList_push];rfl
def MJ.pa(m:MJ rk a b out (na+1) nb)(sa:So rk a 0 a.size)(ha:na<a.size)(h:∀j,j<nb->j<b.size->ky rk b j<=ky rk a na):MJ rk a b (out.push (a.getD na dk)) na nb:=by rw[zOn ha];exact m.xa sa (by nofun) λi j h1 h2 h3 h4 h5=>by rw[show i=na by nofun];exact h j h4 h5
def MJ.pb(m:MJ rk a b out na (nb+1))(sb:So rk b 0 b.size)(hb:nb<b.size)(h:∀j,j<na->j<a.size->ky rk a j<=ky rk b nb):MJ rk a b (out.push (b.getD nb dk)) na nb:=by rw[zOn hb];exact m.xb sb (by nofun) λi j h1 h2 h3 h4 h5=>by rw[show i=nb by nofun];exact h j h4 h5
def zFz(a:Array Keyed)(i:Nat):(a.extract 0 i).toList=a.toList.take i:=by rw[yP,List.extract_eq_take_drop];rfl
def MJ.dn(m:MJ rk a b out na nb)(sa:So rk a 0 a.size)(sb:So rk b 0 b.size)(h:na=0\/nb=0):Go rk a b (a.extract 0 na++b.extract 0 nb++out.reverse):=by
 unfold Go;rw[vx,vx,zFz,zFz];constructor
 ·refine(m.perm.append_left _).trans ?_;rw[xD,<- xD (b.toList.take nb)];refine(yD _ (uW.append_right _)).trans ?_;rw[xD,vG,<- xD,vG]
 ·refine Pw.app (Pw.app (zEj sa.pw (uL _ _)) (zEj sb.pw (uL _ _)) λx hx y hy=>?_) m.so (Le.app_l m.la m.lb);obtain⟨i,i1,i2,rfl⟩:=zF9 hx;obtain⟨j,j1,j2,rfl⟩:=zF9 hy;lia
def MJ.fst(m:MJ rk a b out na nb)(sa:So rk a 0 a.size)(sb:So rk b 0 b.size)(h:nb=1)(hl:∀j,j<a.size->ky rk b 0<=ky rk a j):Go rk a b (b.extract 0 nb++a.extract 0 na++out.reverse):=by
 unfold Go;rw[vx,vx,zFz,zFz];constructor
 ·refine(m.perm.append_left _).trans ?_;rw[xD,<- xD (a.toList.take na),vG];refine(yD _ uW).trans ?_;rw[<- xD,vG];exact uW
 ·refine Pw.app (Pw.app (zEj sb.pw (uL _ _)) (zEj sa.pw (uL _ _)) λx hx y hy=>?_) m.so (Le.app_l m.lb m.la);obtain⟨i,i1,i2,rfl⟩:=zF9 hx;obtain⟨j,j1,j2,rfl⟩:=zF9 hy;rw[show i=0 by nofun];exact hl j j2
def MJ.start(sb:So rk b 0 b.size)(sa:So rk a 0 a.size)(ha:0<a.size)(h:∀j,j<b.size->ky rk b j<=ky rk a (a.size-1)):MJ rk a b #[a.getD (a.size-1) dk] (a.size-1) b.size:=by have m0:MJ rk a b #[] (a.size-1+1) b.size:=⟨by rw[show a.size-1+1=a.size by nofun];simp,by simp[Pw],λx hx y hy=>by simp at hy,λx hx y hy=>by simp at hy⟩;exact m0.pa sa (by nofun) λj _ hj=>h j hj
end
def zBm:Nat->StateT SortSt Sem Unit:=sortPriv% PySem.Builtin.setMinGallop
noncomputable def zIc:Array Keyed->Array Keyed->StateT SortSt Sem (Array Keyed):=sortPriv% PySem.Builtin.mergeLo
noncomputable def zId:Array Keyed->Array Keyed->StateT SortSt Sem (Array Keyed):=sortPriv% PySem.Builtin.mergeHi
noncomputable abbrev zUh (st:SortSt) (g:Nat):SortSt:=SortSt.mk' (kindOf st) (arrOf st) (pendingOf st) g (failedOf st)
def zEg(g:Nat):zBm g=modify λst=>zUh st g:=rfl
structure Sm (st st':SortSt):Prop where
 k:kindOf st'=kindOf st
 a:arrOf st'=arrOf st
 p:pendingOf st'=pendingOf st
 f:failedOf st'=failedOf st
def Sm.refl{st:SortSt}:Sm st st:=⟨rfl,rfl,rfl,rfl⟩
def Sm.gal{st st':SortSt}(h:Sm st st')(g:Nat):Sm st (zUh st' g):=⟨h.k,h.a,h.p,h.f⟩
noncomputable abbrev fl (o x y:Array Keyed) (i j:Nat):Array Keyed:=o++x.extract i x.size++y.extract j y.size
def yB2(x y:Array Keyed):zIc x y=(do
 rule "list.sort.merge-lo"
 let mut o:Array Keyed:=#[<- elem' y 0]
 let mut i:=0
 let mut j:=1
 if j == y.size then return fl o x y i j
 if i+1 == x.size then return fl o y x j i
 let mut g:=gallopOf (<- get)
 for _ in [0:x.size+y.size] do
  let mut c:=0
  let mut d:=0
  for _ in [0:x.size+y.size] do
   let some less <- lt' (<- elem' y j) (<- elem' x i)|return fl o x y i j
   if less then
    o:=o.push (<- elem' y j);j:=j+1;d:=d+1;c:=0
    if j == y.size then return fl o x y i j
    if d >= g then break
   else
    o:=o.push (<- elem' x i);i:=i+1;c:=c+1;d:=0
    if i+1 == x.size then return fl o y x j i
    if c >= g then break
  rule "list.sort.gallop"
  g:=g+1
  for _ in [0:x.size+y.size] do
   if g > 1 then g:=g-1
   zBm g
   let some k <- gallop' false (<- elem' y j) x i (x.size-i) 0|return fl o x y i j
   c:=k
   if k > 0 then
    o:=o++x.extract i (i+k);i:=i+k
    if i+1 == x.size then return fl o y x j i
    if i == x.size then return fl o x y i j
   o:=o.push (<- elem' y j);j:=j+1
   if j == y.size then return fl o x y i j
   let some k <- gallop' true (<- elem' x i) y j (y.size-j) 0|return fl o x y i j
   d:=k
   if k > 0 then
    o:=o++y.extract j (j+k);j:=j+k
    if j == y.size then return fl o x y i j
   o:=o.push (<- elem' x i);i:=i+1
   if i+1 == x.size then return fl o y x j i
   if c<7 && d<7 then break
  g:=g+1
  zBm g
 unsupported "internal:list.sort.merge-bound"):=rfl
section
variable {prog:Program}{w:World}{A:Around}{E:Value->Shared->Prop}{s:Shared}{κ:SortKind}{rk:Keyed->Nat}{Gd:Keyed->Prop}
def Wy(rk:Keyed->Nat)(a b out:Array Keyed)(i j n:Nat):Prop:=MI rk a b out i j/\i+1<a.size/\j<b.size/\n<=i+j
def w_if{γ:Type}{c:Prop}[Decidable c]{st:SortSt}{m n:StateT SortSt Sem γ}{Q:γ->SortSt->Prop}(h1:c->wpS (model prog w) A E s m Q st)(h2:¬ c->wpS (model prog w) A E s n Q st):wpS (model prog w) A E s (if c then m else n) Q st:=by
 by_cases h:c
 ·rw[xf h];exact h1 h
 ·rw[xg h];exact h2 h
def zAl{m n:Nat}(h:¬ (m == n)=true):m≠n:=λe=>h (by simp[e])
def ah_t{left:Bool}{base i:Nat}(h:Ah rk left key arr base i=true):if left then ky rk arr (base+i)<rk key else ky rk arr (base+i)<=rk key:=by unfold Ah at h;cases left <;> simp at h ⊢ <;> omega
def ah_f{left:Bool}{base i:Nat}(h:Ah rk left key arr base i=false):if left then rk key<=ky rk arr (base+i)else rk key<ky rk arr (base+i):=by unfold Ah at h;cases left <;> simp at h ⊢ <;> omega
def So.sub{i j k l:Nat}(h:So rk a i j)(h1:i<=k)(h2:l<=j):So rk a k l:=λx y a b c=>h x y (by omega) b (by omega)
def yCg(C:Cm prog w A s κ rk Gd){st:SortSt}{a b:Array Keyed}{Q:Array Keyed->SortSt->Prop}(hk:kindOf st=κ)(ga:∀i,i<a.size->a[i]?=some (a.getD i dk)/\Gd (a.getD i dk))(gb:∀i,i<b.size->b[i]?=some (b.getD i dk)/\Gd (b.getD i dk))
  (sa:So rk a 0 a.size) (sb:So rk b 0 b.size) (ha:0<a.size) (hb:0<b.size) (h1:ky rk b 0<=ky rk a 0) (h2:∀j,j<b.size->ky rk b j<=ky rk a (a.size-1))
  (h:∀r st',Sm st st'->Go rk a b r->Q r st'):wpS (model prog w) A E s (zIc a b) Q st:=by
 rw[yB2];refine xj (wpS_lift (vt ⟨rfl,?_⟩));refine xj (zAr (gb 0 hb).1 ?_);dsimp only;have m0:=MI.start sb sa hb h1;by_cases q1:(1 == b.size)=true
 ·rw[xf q1];have q1':=eq_of_beq q1;exact xk (h _ _ .refl (m0.dn sa sb (.inr (by omega))))
 rw[xg q1];by_cases q2:(0+1 == a.size)=true
 ·rw[xf q2];have q2':=eq_of_beq q2;exact xk (h _ _ .refl (m0.last sa sb (by omega) h2))
 rw[xg q2];have q1':1≠b.size:=λe=>q1 (by simp[<- e])
 have q2':0+1≠a.size:=λe=>q2 (by simp[<- e])
 refine xj (wpS_get ?_);refine xj (vo (vg (I:=λx c st'=>∃o i j g,c=(none,o,i,j,g)/\Sm st st'/\Wy rk a b o i j (x+1))
  (Q:=λc st'=>Sm st st'/\∃r z,c=(some r,z)/\Go rk a b r) ?step ?fin ⟨_,_,_,_,rfl,.refl,m0,by omega,by omega,by omega⟩) ?post)
 case post=>
  rintro c st' ⟨S,r,z,rfl,G⟩;exact xk (h _ _ S G)
 case fin=>
  rintro c st' ⟨o,i,j,g,rfl,S,m,b1,b2,b3⟩;exfalso;omega
 case step=>
  rintro x c st' _ hx ⟨o,i,j,g,rfl,S,W⟩;dsimp only;refine xj (vo (vg (I:=λy c st2=>st2=st'/\∃o i j d e,c=(none,o,i,j,d,e)/\Wy rk a b o i j (x+1+y))
   (Q:=λc st2=>st2=st'/\((∃r z,c=(some r,z)/\Go rk a b r)\/∃o i j d e,c=(none,o,i,j,d,e)/\Wy rk a b o i j (x+2))) ?s1 ?f1 ⟨rfl,_,_,_,_,_,rfl,W⟩) ?p1)
  case f1=>
   rintro c st2 ⟨rfl,o,i,j,d,e,rfl,m,b1,b2,b3⟩;exfalso;omega
  case s1=>
   rintro y c st2 _ hy ⟨rfl,o,i,j,d,e,rfl,m,b1,b2,b3⟩;dsimp only;refine xj (zAr (gb j b2).1 (xj (zAr (ga i (by omega)).1 (xj (w_lt C (S.k.trans hk) (gb j b2).2 (ga i (by omega)).2 ?_)))));by_cases q:rk (b.getD j dk)<rk (a.getD i dk)
   ·rw[xx q];dsimp only;rw[xf rfl];refine xj (zAr (gb j b2).1 ?_);have m':=m.pb sb b2 λj' hj1 hj2=>xm (xU q) (sa i j' (by omega) hj1 hj2)
    by_cases q3:(j+1 == b.size)=true
    ·rw[xf q3];have:=eq_of_beq q3;exact xk ⟨rfl,.inl ⟨_,_,rfl,m'.dn sa sb (.inr (by omega))⟩⟩
    ·rw[xg q3];have q3':j+1≠b.size:=λe=>q3 (by simp[<- e])
     refine w_if (λ_=>?_) λ_=>?_
     ·exact xk ⟨rfl,.inr ⟨_,_,_,_,_,rfl,m',b1,by omega,by omega⟩⟩
     ·exact xk ⟨rfl,_,_,_,_,_,rfl,m',b1,by omega,by omega⟩
   ·rw[xC q];dsimp only;rw[xg (by decide)];refine xj (zAr (ga i (by omega)).1 ?_);have m':=m.pa sa (by omega) λj' hj1 hj2=>xm (Nat.not_lt.mp q) (sb j j' (by omega) hj1 hj2)
    by_cases q3:(i+1+1 == a.size)=true
    ·rw[xf q3];have:=eq_of_beq q3;exact xk ⟨rfl,.inl ⟨_,_,rfl,m'.last sa sb (by omega) h2⟩⟩
    ·rw[xg q3];have q3':i+1+1≠a.size:=λe=>q3 (by simp[<- e])
     refine w_if (λ_=>?_) λ_=>?_
     ·exact xk ⟨rfl,.inr ⟨_,_,_,_,_,rfl,m',by omega,by omega,by omega⟩⟩
     ·exact xk ⟨rfl,_,_,_,_,_,rfl,m',by omega,by omega,by omega⟩
  case p1=>
   rintro c st2 ⟨rfl,⟨r,z,rfl,G⟩|⟨o,i,j,d,e,rfl,W⟩⟩
   ·exact xk ⟨S,_,_,rfl,G⟩
   dsimp only;refine xj (wpS_lift (vt ⟨rfl,?_⟩));refine xj (vo (vg (I:=λy c st3=>Sm st st3/\∃o i j g d e,c=(none,o,i,j,g,d,e)/\Wy rk a b o i j (x+2+y))
    (Q:=λc st3=>Sm st st3/\((∃r z,c=(some r,z)/\Go rk a b r)\/∃o i j g d e,c=(none,o,i,j,g,d,e)/\Wy rk a b o i j (x+2))) ?s2 ?f2 ⟨S,_,_,_,_,_,_,rfl,W⟩) ?p2)
   case f2=>
    rintro c st2 ⟨_,o,i,j,g,d,e,rfl,m,b1,b2,b3⟩;exfalso;omega
   case p2=>
    rintro c st3 ⟨S3,⟨r,z,rfl,G⟩|⟨o,i,j,g,d,e,rfl,W⟩⟩
    ·exact xk ⟨S3,_,_,rfl,G⟩
    dsimp only;rw[zEg];exact xj (vI (xk ⟨_,_,_,_,rfl,S3.gal _,W⟩))
   case s2=>
    rintro y c st2 _ hy ⟨S2,o,i,j,g,d,e,rfl,m,b1,b2,b3⟩;dsimp only;refine w_if (λ_=>?_) λ_=>?_
    all_goals
     rw[zEg];refine xj (vI (xj (zAr (gb j b2).1 (xj (zJ3 C (S2.k.trans hk) (gb j b2).2 (λz hz=>ga (i+z) (by omega)) (sa.sub (by omega) (by omega)) (by omega) λk d1 d2 d3=>?_)))));have d4:∀z,i<=z->z<i+k->ky rk a z<=ky rk b j:=λz z1 z2=>by
      have:=ah_t (d2 (z-i) (by omega))
      rwa[xg (by decide),show i+(z-i)=z by omega]at this
     have d5:∀z,i+k<=z->z<a.size->ky rk b j<=ky rk a z:=λz z1 z2=>by
      have:=ah_f (d3 (z-i) (by omega) (by omega));rw[xg (by decide),show i+(z-i)=z by omega]at this;exact xU this
     dsimp only;refine w_if (λq1=>?_) λq1=>?_
     ·have m1:=m.xa (k:=k) sa λi' j' e1 e2 e3 e4 e5=>xm (d4 i' e1 e2) (sb _ _ (by omega) e4 e5)
      refine w_if (λq2=>?_) λq2=>?_
      ·have:=eq_of_beq q2;exact xk ⟨S2.gal _,.inl ⟨_,_,rfl,m1.last sa sb (by omega) h2⟩⟩
      have q2':=zAl q2;refine w_if (λq7=>?_) λq7=>?_
      ·have:=eq_of_beq q7;exact xk ⟨S2.gal _,.inl ⟨_,_,rfl,m1.dn sa sb (.inl (by omega))⟩⟩
      have q7':=zAl q7;refine xj (zAr (gb j b2).1 ?_);have m2:=m1.pb sb b2 λj' hj1 hj2=>d5 j' hj1 hj2
      refine w_if (λq3=>?_) λq3=>?_
      ·have:=eq_of_beq q3;exact xk ⟨S2.gal _,.inl ⟨_,_,rfl,m2.dn sa sb (.inr (by omega))⟩⟩
      have q3':=zAl q3;refine xj (zAr (ga (i+k) (by omega)).1 (xj (zJ3 C (S2.k.trans hk) (ga (i+k) (by omega)).2 (λz hz=>gb (j+1+z) (by omega)) (sb.sub (by omega) (by omega)) (by omega) λk2 c1 c2 c3=>?_)));have c4:∀z,j+1<=z->z<j+1+k2->ky rk b z<=ky rk a (i+k):=λz z1 z2=>by
       have:=ah_t (c2 (z-(j+1)) (by omega));rw[xf rfl,show j+1+(z-(j+1))=z by omega]at this;exact xU this
      have c5:∀z,j+1+k2<=z->z<b.size->ky rk a (i+k)<=ky rk b z:=λz z1 z2=>by
       have:=ah_f (c3 (z-(j+1)) (by omega) (by omega))
       rwa[xf rfl,show j+1+(z-(j+1))=z by omega]at this
      dsimp only;refine w_if (λq4=>?_) λq4=>?_
      ·have m3:=m2.xb (k:=k2) sb λi' j' e1 e2 e3 e4 e5=>xm (c4 i' e1 e2) (sa _ _ (by omega) e4 e5)
       refine w_if (λq6=>?_) λq6=>?_
       ·have:=eq_of_beq q6;exact xk ⟨S2.gal _,.inl ⟨_,_,rfl,m3.dn sa sb (.inr (by omega))⟩⟩
       have q6':=zAl q6;refine xj (zAr (ga (i+k) (by omega)).1 ?_);have m4:=m3.pa sa (by omega) λj' hj1 hj2=>c5 j' hj1 hj2
       refine w_if (λq5=>?_) λq5=>?_
       ·have:=eq_of_beq q5;exact xk ⟨S2.gal _,.inl ⟨_,_,rfl,m4.last sa sb (by omega) h2⟩⟩
       have q5':=zAl q5;refine w_if (λ_=>?_) λ_=>?_
       ·exact xk ⟨S2.gal _,.inr ⟨_,_,_,_,_,_,rfl,m4,by omega,by omega,by omega⟩⟩
       ·exact xk ⟨S2.gal _,_,_,_,_,_,_,rfl,m4,by omega,by omega,by omega⟩
      ·obtain rfl:k2=0:=by omega
       refine xj (zAr (ga (i+k) (by omega)).1 ?_);have m4:=m2.pa sa (by omega) λj' hj1 hj2=>c5 j' (by omega) hj2
       refine w_if (λq5=>?_) λq5=>?_
       ·have:=eq_of_beq q5;exact xk ⟨S2.gal _,.inl ⟨_,_,rfl,m4.last sa sb (by omega) h2⟩⟩
       have q5':=zAl q5;refine w_if (λ_=>?_) λ_=>?_
       ·exact xk ⟨S2.gal _,.inr ⟨_,_,_,_,_,_,rfl,m4,by omega,by omega,by omega⟩⟩
       ·exact xk ⟨S2.gal _,_,_,_,_,_,_,rfl,m4,by omega,by omega,by omega⟩
     ·obtain rfl:k=0:=by omega
      refine xj (zAr (gb j b2).1 ?_);have m2:=m.pb sb b2 λj' hj1 hj2=>d5 j' (by omega) hj2
      refine w_if (λq3=>?_) λq3=>?_
      ·have:=eq_of_beq q3;exact xk ⟨S2.gal _,.inl ⟨_,_,rfl,m2.dn sa sb (.inr (by omega))⟩⟩
      have q3':=zAl q3;refine xj (zAr (ga (i) (by omega)).1 (xj (zJ3 C (S2.k.trans hk) (ga (i) (by omega)).2 (λz hz=>gb (j+1+z) (by omega)) (sb.sub (by omega) (by omega)) (by omega) λk2 c1 c2 c3=>?_)));have c4:∀z,j+1<=z->z<j+1+k2->ky rk b z<=ky rk a (i):=λz z1 z2=>by
       have:=ah_t (c2 (z-(j+1)) (by omega));rw[xf rfl,show j+1+(z-(j+1))=z by omega]at this;exact xU this
      have c5:∀z,j+1+k2<=z->z<b.size->ky rk a (i)<=ky rk b z:=λz z1 z2=>by
       have:=ah_f (c3 (z-(j+1)) (by omega) (by omega))
       rwa[xf rfl,show j+1+(z-(j+1))=z by omega]at this
      dsimp only;refine w_if (λq4=>?_) λq4=>?_
      ·have m3:=m2.xb (k:=k2) sb λi' j' e1 e2 e3 e4 e5=>xm (c4 i' e1 e2) (sa _ _ (by omega) e4 e5)
       refine w_if (λq6=>?_) λq6=>?_
       ·have:=eq_of_beq q6;exact xk ⟨S2.gal _,.inl ⟨_,_,rfl,m3.dn sa sb (.inr (by omega))⟩⟩
       have q6':=zAl q6;refine xj (zAr (ga (i) (by omega)).1 ?_);have m4:=m3.pa sa (by omega) λj' hj1 hj2=>c5 j' hj1 hj2
       refine w_if (λq5=>?_) λq5=>?_
       ·have:=eq_of_beq q5;exact xk ⟨S2.gal _,.inl ⟨_,_,rfl,m4.last sa sb (by omega) h2⟩⟩
       have q5':=zAl q5;refine w_if (λ_=>?_) λ_=>?_
       ·exact xk ⟨S2.gal _,.inr ⟨_,_,_,_,_,_,rfl,m4,by omega,by omega,by omega⟩⟩
       ·exact xk ⟨S2.gal _,_,_,_,_,_,_,rfl,m4,by omega,by omega,by omega⟩
      ·obtain rfl:k2=0:=by omega
       refine xj (zAr (ga (i) (by omega)).1 ?_);have m4:=m2.pa sa (by omega) λj' hj1 hj2=>c5 j' (by omega) hj2
       refine w_if (λq5=>?_) λq5=>?_
       ·have:=eq_of_beq q5;exact xk ⟨S2.gal _,.inl ⟨_,_,rfl,m4.last sa sb (by omega) h2⟩⟩
       have q5':=zAl q5;refine w_if (λ_=>?_) λ_=>?_
       ·exact xk ⟨S2.gal _,.inr ⟨_,_,_,_,_,_,rfl,m4,by omega,by omega,by omega⟩⟩
       ·exact xk ⟨S2.gal _,_,_,_,_,_,_,rfl,m4,by omega,by omega,by omega⟩
end
noncomputable abbrev fr (o x y:Array Keyed) (i j:Nat):Array Keyed:=x.extract 0 i++y.extract 0 j++o.reverse
def yB3(x y:Array Keyed):zId x y=(do
 rule "list.sort.merge-hi"
 let mut i:=x.size-1
 let mut j:=y.size
 let mut o:Array Keyed:=#[<- elem' x i]
 if i == 0 then return fr o x y i j
 if j == 1 then return fr o y x j i
 let mut g:=gallopOf (<- get)
 for _ in [0:x.size+y.size] do
  let mut c:=0
  let mut d:=0
  for _ in [0:x.size+y.size] do
   let some less <- lt' (<- elem' y (j-1)) (<- elem' x (i-1))|return fr o x y i j
   if less then
    i:=i-1;o:=o.push (<- elem' x i);c:=c+1;d:=0
    if i == 0 then return fr o x y i j
    if c >= g then break
   else
    j:=j-1;o:=o.push (<- elem' y j);d:=d+1;c:=0
    if j == 1 then return fr o y x j i
    if d >= g then break
  rule "list.sort.gallop"
  g:=g+1
  for _ in [0:x.size+y.size] do
   if g > 1 then g:=g-1
   zBm g
   let some n <- gallop' false (<- elem' y (j-1)) x 0 i (i-1)|return fr o x y i j
   c:=i-n
   if i-n > 0 then
    o:=o++(x.extract n i).reverse;i:=n
    if i == 0 then return fr o x y i j
   j:=j-1;o:=o.push (<- elem' y j)
   if j == 1 then return fr o y x j i
   let some n <- gallop' true (<- elem' x (i-1)) y 0 j (j-1)|return fr o x y i j
   d:=j-n
   if j-n > 0 then
    o:=o++(y.extract n j).reverse;j:=n
    if j == 1 then return fr o y x j i
    if j == 0 then return fr o x y i j
   i:=i-1;o:=o.push (<- elem' x i)
   if i == 0 then return fr o x y i j
   if c<7 && d<7 then break
  g:=g+1
  zBm g
 unsupported "internal:list.sort.merge-bound"):=rfl
section
variable {prog:Program}{w:World}{A:Around}{E:Value->Shared->Prop}{s:Shared}{κ:SortKind}{rk:Keyed->Nat}{Gd:Keyed->Prop}
def Wj(rk:Keyed->Nat)(a b out:Array Keyed)(i j n:Nat):Prop:=MJ rk a b out i j/\0<i/\i<a.size/\1<j/\j<=b.size/\i+j+n<=a.size+b.size
def MJ.cast{i j i' j':Nat}(m:MJ rk a b out i j)(h1:i=i')(h2:j=j'):MJ rk a b out i' j':=by subst h1;subst h2;exact m
def zY3{a:Array Keyed}{n i:Nat}(h:n<=i):a.extract n i=a.extract n (n+(i-n)):=by rw[show n+(i-n)=i by omega]
def yCh(C:Cm prog w A s κ rk Gd){st:SortSt}{a b:Array Keyed}{Q:Array Keyed->SortSt->Prop}(hk:kindOf st=κ)(ga:∀i,i<a.size->a[i]?=some (a.getD i dk)/\Gd (a.getD i dk))(gb:∀i,i<b.size->b[i]?=some (b.getD i dk)/\Gd (b.getD i dk))
  (sa:So rk a 0 a.size) (sb:So rk b 0 b.size) (ha:0<a.size) (hb:0<b.size) (h1:ky rk b 0<=ky rk a 0) (h2:∀j,j<b.size->ky rk b j<=ky rk a (a.size-1))
  (h:∀r st',Sm st st'->Go rk a b r->Q r st'):wpS (model prog w) A E s (zId a b) Q st:=by
 rw[yB3];refine xj (wpS_lift (vt ⟨rfl,?_⟩));refine xj (zAr (ga (a.size-1) (by omega)).1 ?_);dsimp only;have m0:=MJ.start sb sa ha h2;have h3:∀j,j<a.size->ky rk b 0<=ky rk a j:=λj hj=>xm h1 (sa 0 j (by omega) (by omega) hj)
 refine w_if (λq1=>?_) λq1=>?_
 ·have q1':=eq_of_beq q1;exact xk (h _ _ .refl (m0.dn sa sb (.inl (by omega))))
 have q1':=zAl q1;refine w_if (λq2=>?_) λq2=>?_
 ·have q2':=eq_of_beq q2;exact xk (h _ _ .refl (m0.fst sa sb (by omega) h3))
 have q2':=zAl q2;refine xj (wpS_get ?_);refine xj (vo (vg (I:=λx c st'=>∃o i j g,c=(none,i,j,o,g)/\Sm st st'/\Wj rk a b o i j (x+1))
  (Q:=λc st'=>Sm st st'/\∃r z,c=(some r,z)/\Go rk a b r) ?step ?fin ?init) ?post)
 case init=>exact⟨#[a.getD (a.size-1) dk],a.size-1,b.size,gallopOf st,rfl,.refl,m0,by omega,by omega,by omega,by omega,by omega⟩
 case post=>
  rintro c st' ⟨S,r,z,rfl,G⟩;exact xk (h _ _ S G)
 case fin=>
  rintro c st' ⟨o,i,j,g,rfl,S,m,b0,b1,b2,b4,b3⟩;exfalso;omega
 case step=>
  rintro x c st' _ hx ⟨o,i,j,g,rfl,S,W⟩;dsimp only;refine xj (vo (vg (I:=λy c st2=>st2=st'/\∃o i j d e,c=(none,i,j,o,d,e)/\Wj rk a b o i j (x+1+y))
   (Q:=λc st2=>st2=st'/\((∃r z,c=(some r,z)/\Go rk a b r)\/∃o i j d e,c=(none,i,j,o,d,e)/\Wj rk a b o i j (x+2))) ?s1 ?f1 ⟨rfl,_,_,_,_,_,rfl,W⟩) ?p1)
  case f1=>
   rintro c st2 ⟨rfl,o,i,j,d,e,rfl,m,b0,b1,b2,b4,b3⟩;exfalso;omega
  case s1=>
   rintro y c st2 _ hy ⟨rfl,o,i,j,d,e,rfl,m,b0,b1,b2,b4,b3⟩;dsimp only;refine xj (zAr (gb (j-1) (by omega)).1 (xj (zAr (ga (i-1) (by omega)).1 (xj (w_lt C (S.k.trans hk) (gb (j-1) (by omega)).2 (ga (i-1) (by omega)).2 ?_)))));by_cases q:rk (b.getD (j-1) dk)<rk (a.getD (i-1) dk)
   ·rw[xx q];dsimp only;rw[xf rfl];refine xj (zAr (ga (i-1) (by omega)).1 ?_);have m':=(m.cast (i':=i-1+1) (by omega) rfl).pa sa (by omega) λj' hj1 hj2=>xm (sb j' (j-1) (by omega) (by omega) (by omega)) (xU q)
    refine w_if (λq3=>?_) λq3=>?_
    ·have:=eq_of_beq q3;exact xk ⟨rfl,.inl ⟨_,_,rfl,m'.dn sa sb (.inl (by omega))⟩⟩
    ·have q3':=zAl q3;refine w_if (λ_=>?_) λ_=>?_
     ·exact xk ⟨rfl,.inr ⟨_,_,_,_,_,rfl,m',by omega,by omega,by omega,by omega,by omega⟩⟩
     ·exact xk ⟨rfl,_,_,_,_,_,rfl,m',by omega,by omega,by omega,by omega,by omega⟩
   ·rw[xC q];dsimp only;rw[xg (by decide)];refine xj (zAr (gb (j-1) (by omega)).1 ?_);have m':=(m.cast (j':=j-1+1) rfl (by omega)).pb sb (by omega) λj' hj1 hj2=>xm (sa j' (i-1) (by omega) (by omega) (by omega)) (Nat.not_lt.mp q)
    refine w_if (λq3=>?_) λq3=>?_
    ·have:=eq_of_beq q3;exact xk ⟨rfl,.inl ⟨_,_,rfl,m'.fst sa sb (by omega) h3⟩⟩
    ·have q3':=zAl q3;refine w_if (λ_=>?_) λ_=>?_
     ·exact xk ⟨rfl,.inr ⟨_,_,_,_,_,rfl,m',by omega,by omega,by omega,by omega,by omega⟩⟩
     ·exact xk ⟨rfl,_,_,_,_,_,rfl,m',by omega,by omega,by omega,by omega,by omega⟩
  case p1=>
   rintro c st2 ⟨rfl,⟨r,z,rfl,G⟩|⟨o,i,j,d,e,rfl,W⟩⟩
   ·exact xk ⟨S,_,_,rfl,G⟩
   dsimp only;refine xj (wpS_lift (vt ⟨rfl,?_⟩));refine xj (vo (vg (I:=λy c st3=>Sm st st3/\∃o i j g d e,c=(none,i,j,o,g,d,e)/\Wj rk a b o i j (x+2+y))
    (Q:=λc st3=>Sm st st3/\((∃r z,c=(some r,z)/\Go rk a b r)\/∃o i j g d e,c=(none,i,j,o,g,d,e)/\Wj rk a b o i j (x+2))) ?s2 ?f2 ⟨S,_,_,_,_,_,_,rfl,W⟩) ?p2)
   case f2=>
    rintro c st2 ⟨_,o,i,j,g,d,e,rfl,m,b0,b1,b2,b4,b3⟩;exfalso;omega
   case p2=>
    rintro c st3 ⟨S3,⟨r,z,rfl,G⟩|⟨o,i,j,g,d,e,rfl,W⟩⟩
    ·exact xk ⟨S3,_,_,rfl,G⟩
    dsimp only;rw[zEg];exact xj (vI (xk ⟨_,_,_,_,rfl,S3.gal _,W⟩))
   case s2=>
    rintro y c st2 _ hy ⟨S2,o,i,j,g,d,e,rfl,m,b0,b1,b2,b4,b3⟩;dsimp only;refine w_if (λ_=>?_) λ_=>?_
    all_goals
     rw[zEg];refine xj (vI (xj (zAr (gb (j-1) (by omega)).1 (xj (zJ3 C (S2.k.trans hk) (gb (j-1) (by omega)).2 (λz hz=>ga (0+z) (by omega)) (sa.sub (by omega) (by omega)) (by omega) λn d1 d2 d3=>?_)))));have d4:∀z,z<n->z<a.size->ky rk a z<=ky rk b (j-1):=λz z1 z2=>by
      have:=ah_t (d2 z z1)
      rwa[xg (by decide),xX]at this
     have d5:∀z,n<=z->z<i->ky rk b (j-1)<=ky rk a z:=λz z1 z2=>by
      have:=ah_f (d3 z z1 z2);rw[xg (by decide),xX]at this;exact xU this
     dsimp only;refine w_if (λq1=>?_) λq1=>?_
     ·have m1:=(m.cast (i':=n+(i-n)) (by omega) rfl).xa (k:=i-n) sa (by omega) λi' j' e1 e2 e3 e4 e5=>xm (sb j' (j-1) (by omega) (by omega) (by omega)) (d5 i' e1 (by omega))
      rw[<- zY3 (by omega)]at m1;refine w_if (λq7=>?_) λq7=>?_
      ·have:=eq_of_beq q7;exact xk ⟨S2.gal _,.inl ⟨_,_,rfl,m1.dn sa sb (.inl (by omega))⟩⟩
      have q7':=zAl q7;refine xj (zAr (gb (j-1) (by omega)).1 ?_);have m2:=(m1.cast (j':=j-1+1) rfl (by omega)).pb sb (by omega) λj' hj1 hj2=>d4 j' (by omega) (by omega)
      refine w_if (λq3=>?_) λq3=>?_
      ·have:=eq_of_beq q3;exact xk ⟨S2.gal _,.inl ⟨_,_,rfl,m2.fst sa sb (by omega) h3⟩⟩
      have q3':=zAl q3;refine xj (zAr (ga (n-1) (by omega)).1 (xj (zJ3 C (S2.k.trans hk) (ga (n-1) (by omega)).2 (λz hz=>gb (0+z) (by omega)) (sb.sub (by omega) (by omega)) (by omega) λn2 c1 c2 c3=>?_)));have c4:∀z,z<n2->z<b.size->ky rk b z<=ky rk a (n-1):=λz z1 z2=>by
       have:=ah_t (c2 z z1);rw[xf rfl,xX]at this;exact xU this
      have c5:∀z,n2<=z->z<j-1->ky rk a (n-1)<=ky rk b z:=λz z1 z2=>by
       have:=ah_f (c3 z z1 z2)
       rwa[xf rfl,xX]at this
      dsimp only;refine w_if (λq4=>?_) λq4=>?_
      ·have m3:=(m2.cast (j':=n2+(j-1-n2)) rfl (by omega)).xb (k:=j-1-n2) sb (by omega) λi' j' e1 e2 e3 e4 e5=>xm (sa j' (n-1) (by omega) (by omega) (by omega)) (c5 i' e1 (by omega))
       rw[<- zY3 (by omega)]at m3;refine w_if (λq6=>?_) λq6=>?_
       ·have:=eq_of_beq q6;exact xk ⟨S2.gal _,.inl ⟨_,_,rfl,m3.fst sa sb (by omega) h3⟩⟩
       have q6':=zAl q6;refine w_if (λq8=>?_) λq8=>?_
       ·have:=eq_of_beq q8;exact xk ⟨S2.gal _,.inl ⟨_,_,rfl,m3.dn sa sb (.inr (by omega))⟩⟩
       have q8':=zAl q8;refine xj (zAr (ga (n-1) (by omega)).1 ?_);have m4:=(m3.cast (i':=n-1+1) (by omega) rfl).pa sa (by omega) λj' hj1 hj2=>c4 j' (by omega) (by omega)
       refine w_if (λq5=>?_) λq5=>?_
       ·have:=eq_of_beq q5;exact xk ⟨S2.gal _,.inl ⟨_,_,rfl,m4.dn sa sb (.inl (by omega))⟩⟩
       have q5':=zAl q5;refine w_if (λ_=>?_) λ_=>?_
       ·exact xk ⟨S2.gal _,.inr ⟨_,_,_,_,_,_,rfl,m4,by omega,by omega,by omega,by omega,by omega⟩⟩
       ·exact xk ⟨S2.gal _,_,_,_,_,_,_,rfl,m4,by omega,by omega,by omega,by omega,by omega⟩
      ·obtain rfl:n2=j-1:=by omega
       refine xj (zAr (ga (n-1) (by omega)).1 ?_);have m4:=(m2.cast (i':=n-1+1) (by omega) rfl).pa sa (by omega) λj' hj1 hj2=>c4 j' (by omega) (by omega)
       refine w_if (λq5=>?_) λq5=>?_
       ·have:=eq_of_beq q5;exact xk ⟨S2.gal _,.inl ⟨_,_,rfl,m4.dn sa sb (.inl (by omega))⟩⟩
       have q5':=zAl q5;refine w_if (λ_=>?_) λ_=>?_
       ·exact xk ⟨S2.gal _,.inr ⟨_,_,_,_,_,_,rfl,m4,by omega,by omega,by omega,by omega,by omega⟩⟩
       ·exact xk ⟨S2.gal _,_,_,_,_,_,_,rfl,m4,by omega,by omega,by omega,by omega,by omega⟩
     ·obtain rfl:n=i:=by omega
      refine xj (zAr (gb (j-1) (by omega)).1 ?_);have m2:=(m.cast (j':=j-1+1) rfl (by omega)).pb sb (by omega) λj' hj1 hj2=>d4 j' (by omega) (by omega)
      refine w_if (λq3=>?_) λq3=>?_
      ·have:=eq_of_beq q3;exact xk ⟨S2.gal _,.inl ⟨_,_,rfl,m2.fst sa sb (by omega) h3⟩⟩
      have q3':=zAl q3;refine xj (zAr (ga (n-1) (by omega)).1 (xj (zJ3 C (S2.k.trans hk) (ga (n-1) (by omega)).2 (λz hz=>gb (0+z) (by omega)) (sb.sub (by omega) (by omega)) (by omega) λn2 c1 c2 c3=>?_)));have c4:∀z,z<n2->z<b.size->ky rk b z<=ky rk a (n-1):=λz z1 z2=>by
       have:=ah_t (c2 z z1);rw[xf rfl,xX]at this;exact xU this
      have c5:∀z,n2<=z->z<j-1->ky rk a (n-1)<=ky rk b z:=λz z1 z2=>by
       have:=ah_f (c3 z z1 z2)
       rwa[xf rfl,xX]at this
      dsimp only;refine w_if (λq4=>?_) λq4=>?_
      ·have m3:=(m2.cast (j':=n2+(j-1-n2)) rfl (by omega)).xb (k:=j-1-n2) sb (by omega) λi' j' e1 e2 e3 e4 e5=>xm (sa j' (n-1) (by omega) (by omega) (by omega)) (c5 i' e1 (by omega))
       rw[<- zY3 (by omega)]at m3;refine w_if (λq6=>?_) λq6=>?_
       ·have:=eq_of_beq q6;exact xk ⟨S2.gal _,.inl ⟨_,_,rfl,m3.fst sa sb (by omega) h3⟩⟩
       have q6':=zAl q6;refine w_if (λq8=>?_) λq8=>?_
       ·have:=eq_of_beq q8;exact xk ⟨S2.gal _,.inl ⟨_,_,rfl,m3.dn sa sb (.inr (by omega))⟩⟩
       have q8':=zAl q8;refine xj (zAr (ga (n-1) (by omega)).1 ?_);have m4:=(m3.cast (i':=n-1+1) (by omega) rfl).pa sa (by omega) λj' hj1 hj2=>c4 j' (by omega) (by omega)
       refine w_if (λq5=>?_) λq5=>?_
       ·have:=eq_of_beq q5;exact xk ⟨S2.gal _,.inl ⟨_,_,rfl,m4.dn sa sb (.inl (by omega))⟩⟩
       have q5':=zAl q5;refine w_if (λ_=>?_) λ_=>?_
       ·exact xk ⟨S2.gal _,.inr ⟨_,_,_,_,_,_,rfl,m4,by omega,by omega,by omega,by omega,by omega⟩⟩
       ·exact xk ⟨S2.gal _,_,_,_,_,_,_,rfl,m4,by omega,by omega,by omega,by omega,by omega⟩
      ·obtain rfl:n2=j-1:=by omega
       refine xj (zAr (ga (n-1) (by omega)).1 ?_);have m4:=(m2.cast (i':=n-1+1) (by omega) rfl).pa sa (by omega) λj' hj1 hj2=>c4 j' (by omega) (by omega)
       refine w_if (λq5=>?_) λq5=>?_
       ·have:=eq_of_beq q5;exact xk ⟨S2.gal _,.inl ⟨_,_,rfl,m4.dn sa sb (.inl (by omega))⟩⟩
       have q5':=zAl q5;refine w_if (λ_=>?_) λ_=>?_
       ·exact xk ⟨S2.gal _,.inr ⟨_,_,_,_,_,_,rfl,m4,by omega,by omega,by omega,by omega,by omega⟩⟩
       ·exact xk ⟨S2.gal _,_,_,_,_,_,_,rfl,m4,by omega,by omega,by omega,by omega,by omega⟩
end
section
variable {rk:Keyed->Nat}
def zVz{a:Array Keyed}{i n:Nat}(hn:i+n<=a.size):So rk a i (i+n) <-> Pw rk (ch a i n):=by
 have hl:(ch a i n).length=n:=by simp[ch];omega
 have hg:∀k (h:k<(ch a i n).length),(ch a i n)[k]=a.getD (i+k) dk:=λk h=>by
  rw[getD_list a _ (by omega)];simp[ch]
 constructor
 ·intro h;rw[Pw,yO];intro x y hx hy hxy;rw[hg,hg];exact h _ _ (by omega) (by omega) (by omega)
 ·intro h x y h1 h2 h3;rw[Pw,yO]at h;by_cases e:x=y
  ·subst e;exact xi _
  ·have:=h (x-i) (y-i) (by omega) (by omega) (by omega)
   rwa[hg,hg,show i+(x-i)=x by omega,show i+(y-i)=y by omega]at this
def zS2(l:List Keyed)(base n:Nat)(a:Array Keyed)(h:base+n+l.length<=a.size):
  ((l.zipIdx n).foldl (λa x=>a.setIfInBounds (base+x.2) x.1) a).toList=a.toList.take (base+n)++l++a.toList.drop (base+n+l.length):=by
 induction l generalizing n a with
 | nil=>simp
 | cons x t ih=>
  simp only[xB]at h;rw[List.zipIdx_cons,v3,ih (n+1) _ (by rw[Array.size_setIfInBounds];omega)];have hlt:base+n<a.toList.length:=by rw[vf];omega
  have hT:(a.toList.take (base+n)).length=base+n:=by rw[vd];omega
  have e1:a.toList.drop (base+n+(x::t).length)=(a.toList.drop (base+n+1)).drop t.length:=by rw[List.drop_drop,xB];congr 1;omega
  have e2:(a.toList.take (base+n)++x::a.toList.drop (base+n+1)).take (base+n+1)=a.toList.take (base+n)++[x]:=by rw[List.take_append,hT,yy (by rw[hT];omega),show base+n+1-(base+n)=1 by omega];rfl
  have e3:(a.toList.take (base+n)++x::a.toList.drop (base+n+1)).drop (base+n+1+t.length)=(a.toList.drop (base+n+1)).drop t.length:=by rw[List.drop_append,hT,List.drop_of_length_le (by rw[hT];omega),show base+n+1+t.length-(base+n)=t.length+1 by omega];rfl
  rw[Array.toList_setIfInBounds,show base+(n+1)=base+n+1 by omega,List.set_eq_take_append_cons_drop,xf hlt,e1];dsimp only;rw[e2,e3,xD (a.toList.take (base+n))];rfl
end
def yB4(i:Nat):mergeAt' i=(do
 let t <- get
 let (some (p,m,e),some (q,n,_)):=((pendingOf t)[i]?,(pendingOf t)[i+1]?)|unsupported "internal:list.sort.pending"
 set (setPending t (((pendingOf t).setIfInBounds i (p,m+n,e)).eraseIdxIfInBounds (i+1)))
 let some k <- gallop' false (<- elem' (arrOf t) q) (arrOf t) p m 0|return false
 let (p,m):=(p+k,m-k)
 if m == 0 then return true
 let some n <- gallop' true (<- elem' (arrOf t) (p+m-1)) (arrOf t) q n (n-1)|return false
 if n == 0 then return true
 let x:=(arrOf t).extract p q
 let y:=(arrOf t).extract q (q+n)
 let r <- if m<=n then zIc x y else zId x y
 modify λu=>setArr u (r.toList.zipIdx.foldl (λa (v,j)=>a.setIfInBounds (p+j) v) (arrOf u))
 return (failedOf (<- get)).isNone):=rfl
section
variable {prog:Program}{w:World}{A:Around}{E:Value->Shared->Prop}{s:Shared}{κ:SortKind}{a₀:Array Keyed}{rk:Keyed->Nat}{Gd:Keyed->Prop}
def yCf{t st:SortSt}{Q:PUnit->SortSt->Prop}(h:Q ⟨⟩ t):wpS (model prog w) A E s (set t:StateT SortSt Sem PUnit) Q st:=by unfold wpS;rw[StateT.run_set];exact xh ⟨rfl,h⟩
def zSi{R:List Keyed}(h:R.Perm (X++Y)):(P++(S++(R++T))).Perm (P++(S++(X++(Y++T)))):=by rw[<- xD X];exact((h.append_right _).append_left _).append_left _
def mrg(rk:Keyed->Nat){a:Array Keyed}{p k q m n l:Nat}{r:Array Keyed}(hpq:q=p+m)(hk:k<m)(hl:l<=n)(hs:q+n<=a.size)(s1:So rk a p q)(s2:So rk a q (q+n))
  (d4:∀z,p<=z->z<p+k->ky rk a z<=ky rk a q) (c5:∀z,q+l<=z->z<q+n->ky rk a (q-1)<=ky rk a z) (hn:1<=n) (G:Go rk (a.extract (p+k) q) (a.extract q (q+l)) r):
  let a':=r.toList.zipIdx.foldl (λa x=>a.setIfInBounds (p+k+x.2) x.1) a
  a'.Perm a/\Out p (q+n) a a'/\So rk a' p (q+n):=by
 intro a';have ex:(a.extract (p+k) q).toList=ch a (p+k) (m-k):=by rw[<- zFc];congr 2;omega
 have ey:(a.extract q (q+l)).toList=ch a q l:=zFc _ _ _;obtain⟨g1,g2⟩:=G;rw[ex,ey]at g1;have lx:(ch a (p+k) (m-k)).length=m-k:=by simp[ch];omega
 have ly:(ch a q l).length=l:=by simp[ch];omega
 have lr:r.toList.length=m-k+l:=by rw[g1.length_eq,xw,lx,ly]
 have e':a'.toList=a.toList.take (p+k)++r.toList++a.toList.drop (p+k+r.toList.length):=zS2 r.toList (p+k) 0 a (by omega);have eP:a.toList.take (p+k)=a.toList.take p++ch a p k:=zG4 a p k;have eT:a.toList.drop (p+k+r.toList.length)=ch a (q+l) (n-l)++a.toList.drop (q+n):=by rw[show p+k+r.toList.length=q+l by omega,zDa a (q+l) (n-l),show q+l+(n-l)=q+n by omega]
 have ea:a.toList=a.toList.take p++(ch a p k++(ch a (p+k) (m-k)++(ch a q l++(ch a (q+l) (n-l)++a.toList.drop (q+n))))):=by
  conv=>lhs;rw[<- vG p a.toList]
  rw[zDa a p k,zDa a (p+k) (m-k),show p+k+(m-k)=q by omega,zDa a q l,zDa a (q+l) (n-l),show q+l+(n-l)=q+n by omega]
 have e2:a'.toList=a.toList.take p++(ch a p k++(r.toList++(ch a (q+l) (n-l)++a.toList.drop (q+n)))):=by rw[e',eP,eT];simp only[xD]
 have hsz:a'.size=a.size:=by
  rw[<- vf,<- vf,e2]
  conv=>rhs;rw[ea]
  simp only[xw,lr,lx,ly];omega
 have lP:(a.toList.take p).length=p:=by rw[vd,vf];omega
 have lS:(ch a p k).length=k:=by simp[ch];omega
 have lU:(ch a (q+l) (n-l)).length=n-l:=by simp[ch];omega
 refine⟨?_,?_,?_⟩
 ·rw[Array.perm_iff_toList_perm,e2]
  conv=>rhs;rw[ea]
  exact zSi g1
 ·intro z hz;rw[<- vM,<- vM,e2]
  conv=>rhs;rw[ea]
  rcases hz with hz|hz
  ·rw[vh (by omega),vh (by omega)]
  ·rw[<- xD,<- xD,<- xD,vj (by simp only[xw,lP,lS,lr,lU];omega)];rw[<- xD,<- xD,<- xD,<- xD,vj (by simp only[xw,lP,lS,lx,ly,lU];omega)];simp only[xw,lP,lS,lr,lU,lx,ly];congr 1;omega
 ·rw[show q+n=p+(m+n) by omega,zVz (by omega)];have ec:ch a' p (m+n)=ch a p k++(r.toList++ch a (q+l) (n-l)):=by
   rw[ch,e2,List.drop_append_of_le_length (by omega),List.drop_of_length_le (by omega),uS,<- xD,<- xD,List.take_append_of_le_length (by simp only[xw,lS,lr,lU];omega),
    yy (by simp only[xw,lS,lr,lU];omega),xD]
  rw[ec];have inR:∀x∈r.toList,x∈ch a (p+k) (m-k)\/x∈ch a q l:=λx hx=>xJ.mp (g1.mem_iff.mp hx)
  refine Pw.app ((zVz (by omega)).mp (s1.sub (by omega) (by omega))) (Pw.app g2 ((zVz (by omega)).mp (s2.sub (by omega) (by omega))) λx hx y hy=>?_) λx hx y hy=>?_
  ·obtain⟨j,j1,j2,j3,rfl⟩:=zCh hy;rcases inR x hx with h|h
   ·obtain⟨z,z1,z2,z3,rfl⟩:=zCh h;exact xm (s1 z (q-1) (by omega) (by omega) (by omega)) (c5 j (by omega) (by omega))
   ·obtain⟨z,z1,z2,z3,rfl⟩:=zCh h;exact s2 z j (by omega) (by omega) (by omega)
  ·obtain⟨j,j1,j2,j3,rfl⟩:=zCh hx;rcases xJ.mp hy with hy|hy
   ·rcases inR y hy with h|h
    ·obtain⟨z,z1,z2,z3,rfl⟩:=zCh h;exact s1 j z (by omega) (by omega) (by omega)
    ·obtain⟨z,z1,z2,z3,rfl⟩:=zCh h;exact xm (d4 j (by omega) (by omega)) (s2 q z (by omega) (by omega) (by omega))
   ·obtain⟨z,z1,z2,z3,rfl⟩:=zCh hy;exact xm (d4 j (by omega) (by omega)) (s2 q z (by omega) (by omega) (by omega))
def zD8{a:Array Keyed}{i j z:Nat}(hz:i+z<j)(hj:j<=a.size):(a.extract i j).getD z dk=a.getD (i+z) dk:=by apply zQ8;rw[Array.getElem?_extract_of_lt (by omega)];exact(getElem?_pos a (i+z) (by omega)).symm
def So.ext{a:Array Keyed}{i j:Nat}(h:So rk a i j)(hij:i<=j)(hj:j<=a.size):So rk (a.extract i j) 0 (a.extract i j).size:=λx y h1 h2 h3=>by
 rw[Array.size_extract]at h3;unfold ky;rw[zD8 (by omega) hj,zD8 (by omega) hj];exact h _ _ (by omega) (by omega) (by omega)
def zM5{a:Array Keyed}{i j:Nat}(hj:j<=a.size)(g:∀i,i<a.size->a[i]?=some (a.getD i dk)/\Gd (a.getD i dk))(z:Nat)(hz:z<(a.extract i j).size):(a.extract i j)[z]?=some ((a.extract i j).getD z dk)/\Gd ((a.extract i j).getD z dk):=by
 rw[Array.size_extract]at hz;have h1:i+z<a.size:=by omega
 rw[zD8 (by omega) hj,Array.getElem?_extract_of_lt (by omega),<- getElem?_pos a (i+z) h1];exact g _ h1
def yCi(C:Cm prog w A s κ rk Gd)(hg:∀x∈a₀,Gd x){st:SortSt}{i p m e q n e':Nat}{Q:Bool->SortSt->Prop}(B:SB κ a₀ st)(hp:(pendingOf st)[i]?=some (p,m,e))(hq:(pendingOf st)[i+1]?=some (q,n,e'))(hpq:q=p+m)(hm:1<=m)(hn:1<=n)(hs:q+n<=a₀.size)
  (s1:So rk (arrOf st) p q) (s2:So rk (arrOf st) q (q+n))
  (h:∀st',SB κ a₀ st'->pendingOf st'=(((pendingOf st).setIfInBounds i (p,m+n,e)).eraseIdxIfInBounds (i+1))->Out p (q+n) (arrOf st) (arrOf st')->So rk (arrOf st') p (q+n)->Q true st'):wpS (model prog w) A E s (mergeAt' i) Q st:=by
 rw[yB4];refine xj (wpS_get ?_);rw[hp,hq];dsimp only;have ag:∀i,i<(arrOf st).size->(arrOf st)[i]?=some ((arrOf st).getD i dk)/\Gd ((arrOf st).getD i dk):=λi hi=>zYz B.perm hg (by rw[<- B.size];exact hi)
 have hs':q+n<=(arrOf st).size:=by rw[B.size];exact hs
 have B1:SB κ a₀ (setPending st (((pendingOf st).setIfInBounds i (p,m+n,e)).eraseIdxIfInBounds (i+1))):=⟨B.perm,B.kind,B.failed⟩;refine xj (yCf (xj (zAr (ag q (by omega)).1 (xj (zJ3 C B.kind (ag q (by omega)).2 (λz hz=>ag (p+z) (by omega)) (s1.sub (by omega) (by omega)) (by omega) λk d1 d2 d3=>?_)))));have d4:∀z,p<=z->z<p+k->ky rk (arrOf st) z<=ky rk (arrOf st) q:=λz z1 z2=>by
  have:=ah_t (d2 (z-p) (by omega))
  rwa[xg (by decide),show p+(z-p)=z by omega]at this
 have d5:∀z,p+k<=z->z<p+m->ky rk (arrOf st) q<=ky rk (arrOf st) z:=λz z1 z2=>by
  have:=ah_f (d3 (z-p) (by omega) (by omega));rw[xg (by decide),show p+(z-p)=z by omega]at this;exact xU this
 dsimp only;refine w_if (λq1=>?_) λq1=>?_
 ·have q1':=eq_of_beq q1;refine xk (h _ B1 rfl .refl λx y h1 h2 h3=>?_);show ky rk (arrOf st) x<=ky rk (arrOf st) y;by_cases hx:x<q
  ·by_cases hy:y<q
   ·exact s1 x y h1 h2 hy
   ·exact xm (d4 x h1 (by omega)) (s2 q y (by omega) (by omega) h3)
  ·exact s2 x y (by omega) h2 h3
 have q1':=zAl q1;have eL:p+k+(m-k)-1=q-1:=by omega
 rw[eL];refine xj (zAr (ag (q-1) (by omega)).1 (xj (zJ3 C B.kind (ag (q-1) (by omega)).2 (λz hz=>ag (q+z) (by omega)) s2 (by omega) λl c1 c2 c3=>?_)));have c4:∀z,q<=z->z<q+l->ky rk (arrOf st) z<=ky rk (arrOf st) (q-1):=λz z1 z2=>by
  have:=ah_t (c2 (z-q) (by omega));rw[xf rfl,show q+(z-q)=z by omega]at this;exact xU this
 have c5:∀z,q+l<=z->z<q+n->ky rk (arrOf st) (q-1)<=ky rk (arrOf st) z:=λz z1 z2=>by
  have:=ah_f (c3 (z-q) (by omega) (by omega))
  rwa[xf rfl,show q+(z-q)=z by omega]at this
 dsimp only;refine w_if (λq2=>?_) λq2=>?_
 ·have q2':=eq_of_beq q2;refine xk (h _ B1 rfl .refl λx y h1 h2 h3=>?_);show ky rk (arrOf st) x<=ky rk (arrOf st) y;by_cases hx:x<q
  ·by_cases hy:y<q
   ·exact s1 x y h1 h2 hy
   ·exact xm (s1 x (q-1) h1 (by omega) (by omega)) (c5 y (by omega) h3)
  ·exact s2 x y (by omega) h2 h3
 have q2':=zAl q2;have sx:((arrOf st).extract (p+k) q).size=q-(p+k):=by rw[Array.size_extract];omega
 have sy:((arrOf st).extract q (q+l)).size=l:=by rw[Array.size_extract];omega
 have P1:ky rk ((arrOf st).extract q (q+l)) 0<=ky rk ((arrOf st).extract (p+k) q) 0:=by unfold ky;rw[zD8 (by omega) (by omega),zD8 (by omega) (by omega)];exact d5 (p+k+0) (by omega) (by omega)
 have P2:∀j,j<((arrOf st).extract q (q+l)).size->ky rk ((arrOf st).extract q (q+l)) j<=ky rk ((arrOf st).extract (p+k) q) (((arrOf st).extract (p+k) q).size-1):=λj hj=>by
  rw[sx];unfold ky;rw[zD8 (by omega) (by omega),zD8 (by omega) (by omega)];have:=c4 (q+j) (by omega) (by omega)
  rwa[show p+k+(q-(p+k)-1)=q-1 by omega]
 refine w_if (λq3=>?_) λq3=>?_
 all_goals
  first
  | refine xj (yCg C B.kind (zM5 (by omega) ag) (zM5 (by omega) ag) (So.ext (s1.sub (by omega) (by omega)) (by omega) (by omega)) (So.ext (s2.sub (by omega) (by omega)) (by omega) (by omega)) (by omega) (by omega) P1 P2 λr st' S G=>?_)
  | refine xj (yCh C B.kind (zM5 (by omega) ag) (zM5 (by omega) ag) (So.ext (s1.sub (by omega) (by omega)) (by omega) (by omega)) (So.ext (s2.sub (by omega) (by omega)) (by omega) (by omega)) (by omega) (by omega) P1 P2 λr st' S G=>?_)
  have K:=mrg rk hpq (by omega) c1 hs' s1 s2 d4 c5 hn G;have eA:arrOf st'=arrOf st:=S.a;refine xj (vI (xj (wpS_get ?_)));have eF:failedOf st'=none:=S.f.trans B.failed;rw[show(failedOf (setArr st' _))=none from eF];refine xk (h _ ⟨?_,S.k.trans B.kind,eF⟩ S.p ?_ ?_)
  ·show(List.foldl _ (arrOf st') _).Perm a₀;rw[eA];exact K.1.trans B.perm
  ·show Out p (q+n) (arrOf st) (List.foldl _ (arrOf st') _);rw[eA];exact K.2.1
  ·show So rk (List.foldl _ (arrOf st') _) p (q+n);rw[eA];exact K.2.2
end
abbrev Rn:=Nat × Nat × Nat
def Pd(rk:Keyed->Nat)(a:Array Keyed):List Rn->Nat->Nat->Prop
 | [],lo,hi=>lo=hi
 | x::t,lo,hi=>x.1=lo/\1<=x.2.1/\So rk a lo (lo+x.2.1)/\Pd rk a t (lo+x.2.1) hi
section
variable {rk:Keyed->Nat}{a b:Array Keyed}
def Pd.le{p:List Rn}{lo hi:Nat}(h:Pd rk a p lo hi):lo+p.length<=hi:=by
 induction p generalizing lo with
 | nil=>simp only[Pd]at h;simp;omega
 | cons x t ih=>have:=ih h.2.2.2;have:=h.2.1;simp only[xB];omega
def Pd.app{p q:List Rn}{lo hi:Nat}:Pd rk a (p++q) lo hi <-> ∃m,Pd rk a p lo m/\Pd rk a q m hi:=by
 induction p generalizing lo with
 | nil=>simp[Pd]
 | cons x t ih=>
  simp only[ur,Pd,ih];constructor
  ·rintro⟨h1,h2,h3,m,h4,h5⟩;exact⟨m,⟨h1,h2,h3,h4⟩,h5⟩
  ·rintro⟨m,⟨h1,h2,h3,h4⟩,h5⟩;exact⟨h1,h2,h3,m,h4,h5⟩
def Pd.out{lo hi x y:Nat}(h:Pd rk a p lo hi)(o:Out x y a b)(hd:hi<=x\/y<=lo):Pd rk b p lo hi:=by
 induction p generalizing lo with
 | nil=>exact h
 | cons z t ih=>
  have l:=Pd.le h.2.2.2;exact⟨h.1,h.2.1,h.2.2.1.out o (by omega),ih h.2.2.2 (by omega)⟩
def Pd.pw{lo hi:Nat}{x y:Rn}(h:Pd rk a (p++[x]) lo hi)(h1:x.1=y.1)(h2:x.2.1=y.2.1):Pd rk a (p++[y]) lo hi:=by obtain⟨m,k1,k2⟩:=Pd.app.mp h;refine Pd.app.mpr ⟨m,k1,?_⟩;simp only[Pd]at k2 ⊢;rw[<- h1,<- h2];exact k2
def Pd.one{lo hi n pw:Nat}(h1:1<=n)(h:So rk a lo (lo+n))(e:hi=lo+n):Pd rk a [(lo,n,pw)] lo hi:=⟨rfl,h1,h,e.symm⟩
end
section
variable {prog:Program}{w:World}{A:Around}{E:Value->Shared->Prop}{s:Shared}{κ:SortKind}{a₀:Array Keyed}{rk:Keyed->Nat}{Gd:Keyed->Prop}
def zPi(p:List Rn)(x:Rn)(f:Rn->Rn)(z:Rn):((p++[x]).toArray.modify ((p++[x]).toArray.size-1) f).push z=(p++[f x]++[z]).toArray:=by
 apply yE.mp;rw[Array.toList_push,Array.toList_modify];have:∀q:List Rn,(q++[x]).modify q.length f=q++[f x]:=λq=>by
  induction q with
  | nil=>rfl
  | cons y t ih=>rw[ur,xB,List.modify_succ_cons,ih];rfl
 rw[show(p++[x]).toArray.size-1=p.length by simp,this]
def w_mp(C:Cm prog w A s κ rk Gd)(hg:∀x∈a₀,Gd x){st:SortSt}{i lo:Nat}{p:List Rn}{Q:Bool->SortSt->Prop}(B:SB κ a₀ st)(hp:pendingOf st=p.toArray)(hi:i+1<p.length)(hP:Pd rk (arrOf st) p 0 lo)(hs:lo<=a₀.size)
  (h:∀st' p',SB κ a₀ st'->pendingOf st'=p'.toArray->p'.length+1=p.length->Pd rk (arrOf st') p' 0 lo->Out 0 lo (arrOf st) (arrOf st')->Q true st'):wpS (model prog w) A E s (mergeAt' i) Q st:=by
 obtain⟨u,x,y,v,rfl,hu⟩:∃u x y v,p=u++x::y::v/\u.length=i:=by refine⟨p.take i,p[i],p[i+1],p.drop (i+2),?_,by rw[vd];omega⟩;rw[List.getElem_cons_drop,List.getElem_cons_drop,vG]
 obtain⟨p,m,e⟩:=x;obtain⟨q,n,e'⟩:=y;obtain⟨mid,k1,k2⟩:=Pd.app.mp hP;obtain⟨rfl,hm,s1,rfl,hn,s2,k3⟩:=k2;dsimp only at hm s1 hn s2 k3;have l3:=k3.le;refine yCi C hg B (p:=p) (m:=m) (e:=e) (q:=p+m) (n:=n) (e':=e') (by rw[hp];simp[<- hu]) (by rw[hp];simp[<- hu]) rfl hm hn (by omega) s1 s2 λst' B' hp' o s'=>h st' (u++(p,m+n,e)::v) B' ?_ (by simp only[xw,xB];omega) ?_ (o.mono (by omega) (by omega))
 ·rw[hp',hp];simp[<- hu,List.eraseIdx_append];intro hh;omega
 ·refine Pd.app.mpr ⟨p,k1.out o (by omega),rfl,by dsimp only;omega,by dsimp only;rw[<- Nat.add_assoc];exact s',?_⟩;dsimp only;rw[<- Nat.add_assoc];exact k3.out o (by omega)
def w_sr(C:Cm prog w A s κ rk Gd)(hz:a₀.size<=2 ^ 20)(hg:∀x∈a₀,Gd x){st:SortSt}{Q:Unit->SortSt->Prop}(B:SB κ a₀ st)(hp:pendingOf st=#[])
  (h:∀st',SB κ a₀ st'->So rk (arrOf st') 0 a₀.size->Q () st'):wpS (model prog w) A E s sortRuns' Q st:=by
 rw[sortRuns'_eq];refine xj (wpS_get ?_);dsimp only;rw[B.size];generalize minRun' a₀.size a₀.size 0=mr;refine xj (vo (vg (I:=λx c st'=>∃lo p,c=(none,lo)/\SB κ a₀ st'/\pendingOf st'=List.toArray p/\Pd rk (arrOf st') p 0 lo/\lo<=a₀.size/\(x<=lo\/a₀.size<=lo))
  (Q:=λc st'=>∃p lo,c=(none,lo)/\SB κ a₀ st'/\pendingOf st'=List.toArray p/\Pd rk (arrOf st') p 0 a₀.size) ?step ?fin ?init) ?post)
 case init=>exact⟨0,[],rfl,B,hp,rfl,by omega,.inl (by omega)⟩
 case fin=>
  rintro c st' ⟨lo,p,rfl,B',hp',hP,h1,h2⟩;rw[show lo=a₀.size by omega]at hP ⊢;exact⟨p,_,rfl,B',hp',hP⟩
 case post=>
  rintro c st' ⟨p,lo,rfl,B',hp',hP⟩;dsimp only;refine xj (vo (vg (I:=λx c st2=>∃p,c=(none,())/\SB κ a₀ st2/\pendingOf st2=List.toArray p/\Pd rk (arrOf st2) p 0 a₀.size/\(p.length<=1\/p.length+x<=a₀.size))
   (Q:=λc st2=>∃p,c=(none,())/\SB κ a₀ st2/\pendingOf st2=List.toArray p/\Pd rk (arrOf st2) p 0 a₀.size/\p.length<=1) ?s2 ?f2 ?i2) ?p2)
  case i2=>have:=hP.le;exact⟨p,rfl,B',hp',hP,.inr (by omega)⟩
  case f2=>
   rintro c st2 ⟨p,rfl,B2,hp2,hP2,hl⟩;exact⟨p,rfl,B2,hp2,hP2,by omega⟩
  case p2=>
   rintro c st2 ⟨p,rfl,B2,hp2,hP2,hl⟩;refine xk (h st2 B2 ?_)
   match p,hP2,hl with
   | [],hP2,_=>intro i j h1 h2 h3;have:(0:Nat)=a₀.size:=hP2;omega
   | [(x1,x2,x3)],hP2,_=>
    obtain⟨_,_,k1,k2⟩:=hP2;have:0+x2=a₀.size:=k2;rw[<- this];exact k1
  case s2=>
   rintro x c st2 _ hx ⟨p,rfl,B2,hp2,hP2,hl⟩;refine xj (wpS_get ?_);rw[hp2];refine w_if (λq=>?_) λq=>?_
   ·exact xk ⟨p,rfl,B2,hp2,hP2,by simpa using q⟩
   have q':¬ p.length<=1:=by simpa using q
   refine xj (w_mp C hg B2 hp2 (lo:=a₀.size) ?_ hP2 (xi _) λst3 p3 B3 hp3 hl3 hP3 o3=>?_)
   ·simp only[xA]
    repeat' split
    all_goals omega
   ·exact xk ⟨p3,rfl,B3,hp3,hP3,by omega⟩
 case step=>
  rintro x c st' _ hx ⟨lo,p,rfl,B',hp',hP,h1,h2⟩;dsimp only;refine w_if (λq1=>?_) λq1=>?_
  ·rw[show lo=a₀.size by omega]at hP ⊢;exact xk ⟨p,_,rfl,B',hp',hP⟩
  refine xj (w_count C hg (by omega) (by omega) B' λm st2 R2 hm1 hm2 hs2=>?_);dsimp only;have hP2:=hP.out R2.out (.inl (xi _));have B2:=R2.b;have hp2:pendingOf st2=p.toArray:=R2.pend.trans hp';refine w_if (λq2=>?_) λq2=>?_
  ·refine xj (wpS_lift (vt ⟨rfl,?_⟩));refine xj (yCj C hg (by omega) (by omega) B2 hs2 λst3 R3 hs3=>?_);have hP3:=hP2.out R3.out (.inl (xi _));have B3:=R3.b;have hp3:pendingOf st3=p.toArray:=R3.pend.trans hp2;rw[xg (by decide)];refine xj (wpS_get ?_);rw[hp3];by_cases hpn:p=[]
   ·subst hpn;have e0:(0:Nat)=lo:=hP3;subst e0;refine xj (vI (xk ⟨_,[(0,min (a₀.size-0) mr,0)],rfl,⟨B3.perm,B3.kind,B3.failed⟩,?_,Pd.one (by omega) hs3 rfl,by omega,.inl (by omega)⟩));show(pendingOf st3).push _=_;rw[hp3];rfl
   obtain⟨p0,x0,rfl⟩:∃p0 x0,p=p0++[x0]:=⟨p.dropLast,p.getLast hpn,(uX hpn).symm⟩
   rw[show(p0++[x0]).toArray.back?=some x0 by simp];dsimp only;refine xj (vo (vg (I:=λy c st4=>∃p,c=(none,())/\p≠[]/\SB κ a₀ st4/\pendingOf st4=List.toArray p/\Pd rk (arrOf st4) p 0 lo/\So rk (arrOf st4) lo (lo+min (a₀.size-lo) mr))
    (Q:=λc st4=>∃p,c=(none,())/\p≠[]/\SB κ a₀ st4/\pendingOf st4=List.toArray p/\Pd rk (arrOf st4) p 0 lo/\So rk (arrOf st4) lo (lo+min (a₀.size-lo) mr)) ?s3 ?f3 ?i3) ?p3)
   case i3=>exact⟨_,rfl,hpn,B3,hp3,hP3,hs3⟩
   case f3=>rintro c st4 hh;exact hh
   case p3=>
    rintro c st4 ⟨p4,rfl,hn4,B4,hp4,hP4,hs4⟩;dsimp only;obtain⟨p5,x5,rfl⟩:∃p0 x0,p4=p0++[x0]:=⟨p4.dropLast,p4.getLast hn4,(uX hn4).symm⟩
    generalize hpw:power' _ _ _ _=pw;refine xj (vI (xj (vI (xk ⟨_,p5++[(x5.1,x5.2.1,pw)]++[(lo,min (a₀.size-lo) mr,0)],rfl,⟨B4.perm,B4.kind,B4.failed⟩,?_,Pd.app.mpr ⟨lo,hP4.pw rfl rfl,Pd.one (by omega) hs4 rfl⟩,by omega,.inl (by omega)⟩))));show((pendingOf st4).modify ((pendingOf st4).size-1) _).push _=_;rw[hp4];exact zPi _ _ _ _
   case s3=>
    rintro y c st4 _ hy ⟨p4,rfl,hn4,B4,hp4,hP4,hs4⟩;refine xj (wpS_get ?_);rw[hp4];generalize hz:(if p4.toArray.size > 1 then p4.toArray[p4.toArray.size-2]? else none)=z
    match z,hz with
    | none,_=>exact xk ⟨p4,rfl,hn4,B4,hp4,hP4,hs4⟩
    | some (z1,z2,z3),hz=>
     dsimp only;have hl4:p4.length > 1:=by
      by_cases q:p4.toArray.size > 1
      ·simpa using q
      ·rw[xg q]at hz;cases hz
     refine w_if (λq=>?_) λq=>?_
     ·exact xk ⟨p4,rfl,hn4,B4,hp4,hP4,hs4⟩
     ·refine xj (w_mp C hg B4 hp4 (lo:=lo) (by simp only[xA];omega) hP4 h1 λst5 p5 B5 hp5 hl5 hP5 o5=>?_);exact xk ⟨p5,rfl,λe=>by subst e;simp at hl5;omega,B5,hp5,hP5,hs4.out o5 (by omega)⟩
  ·skip
   refine xj (wpS_get ?_);rw[hp2];by_cases hpn:p=[]
   ·subst hpn;have e0:(0:Nat)=lo:=hP2;subst e0;refine xj (vI (xk ⟨_,[(0,m,0)],rfl,⟨B2.perm,B2.kind,B2.failed⟩,?_,Pd.one (by omega) hs2 rfl,by omega,.inl (by omega)⟩));show(pendingOf st2).push _=_;rw[hp2];rfl
   obtain⟨p0,x0,rfl⟩:∃p0 x0,p=p0++[x0]:=⟨p.dropLast,p.getLast hpn,(uX hpn).symm⟩
   rw[show(p0++[x0]).toArray.back?=some x0 by simp];dsimp only;refine xj (vo (vg (I:=λy c st4=>∃p,c=(none,())/\p≠[]/\SB κ a₀ st4/\pendingOf st4=List.toArray p/\Pd rk (arrOf st4) p 0 lo/\So rk (arrOf st4) lo (lo+m))
    (Q:=λc st4=>∃p,c=(none,())/\p≠[]/\SB κ a₀ st4/\pendingOf st4=List.toArray p/\Pd rk (arrOf st4) p 0 lo/\So rk (arrOf st4) lo (lo+m)) ?s3 ?f3 ?i3) ?p3)
   case i3=>exact⟨_,rfl,hpn,B2,hp2,hP2,hs2⟩
   case f3=>rintro c st4 hh;exact hh
   case p3=>
    rintro c st4 ⟨p4,rfl,hn4,B4,hp4,hP4,hs4⟩;dsimp only;obtain⟨p5,x5,rfl⟩:∃p0 x0,p4=p0++[x0]:=⟨p4.dropLast,p4.getLast hn4,(uX hn4).symm⟩
    generalize hpw:power' _ _ _ _=pw;refine xj (vI (xj (vI (xk ⟨_,p5++[(x5.1,x5.2.1,pw)]++[(lo,m,0)],rfl,⟨B4.perm,B4.kind,B4.failed⟩,?_,Pd.app.mpr ⟨lo,hP4.pw rfl rfl,Pd.one (by omega) hs4 rfl⟩,by omega,.inl (by omega)⟩))));show((pendingOf st4).modify ((pendingOf st4).size-1) _).push _=_;rw[hp4];exact zPi _ _ _ _
   case s3=>
    rintro y c st4 _ hy ⟨p4,rfl,hn4,B4,hp4,hP4,hs4⟩;refine xj (wpS_get ?_);rw[hp4];generalize hz:(if p4.toArray.size > 1 then p4.toArray[p4.toArray.size-2]? else none)=z
    match z,hz with
    | none,_=>exact xk ⟨p4,rfl,hn4,B4,hp4,hP4,hs4⟩
    | some (z1,z2,z3),hz=>
     dsimp only;have hl4:p4.length > 1:=by
      by_cases q:p4.toArray.size > 1
      ·simpa using q
      ·rw[xg q]at hz;cases hz
     refine w_if (λq=>?_) λq=>?_
     ·exact xk ⟨p4,rfl,hn4,B4,hp4,hP4,hs4⟩
     ·refine xj (w_mp C hg B4 hp4 (lo:=lo) (by simp only[xA];omega) hP4 h1 λst5 p5 B5 hp5 hl5 hP5 o5=>?_);exact xk ⟨p5,rfl,λe=>by subst e;simp at hl5;omega,B5,hp5,hP5,hs4.out o5 (by omega)⟩
end
end TM
namespace EK
open PySem
open DS (D)
inductive A2 {α β:Type}(R:α->β->Prop):List α->List β->Prop where
 | nil:A2 R [] []
 | cons {a:α}{b:β}{l:List α}{m:List β}:R a b->A2 R l m->A2 R (a::l) (b::m)
def A2.length{α β:Type}{R:α->β->Prop}{l:List α}{m:List β}(h:A2 R l m):l.length=m.length:=by
 induction h with
 | nil=>rfl
 | cons _ _ ih=>simp[ih]
def A2.imp{α β:Type}{R R':α->β->Prop}{l:List α}{m:List β}(h:A2 R l m)(k:∀a b,R a b->R' a b):A2 R' l m:=by
 induction h with
 | nil=>exact .nil
 | cons h _ ih=>exact .cons (k _ _ h) ih
def Ek(h:Heap):Nat->D->Value->Prop
 | 0,d,v=>∃i t,d=.int i/\v=.int i t
 | n+1,d,v=>∃ds a o items k,d=.tup ds/\v=.ref a/\h.get? a=some o/\o.cls=.type "tuple"/\o.data=.seq items k/\A2 (Ek h n) ds items.toList
def Ek.kept{h h':Heap}:∀{n:Nat}{d:D}{v:Value},Ek h n d v->(∀a o,h.get? a=some o->o.cls=.type "tuple"->h'.get? a=some o)->Ek h' n d v
 | 0,_,_,x,_=>x
 | n+1,_,_,⟨ds,a,o,items,k,e1,e2,h1,h2,h3,r⟩,kp=>⟨ds,a,o,items,k,e1,e2,kp a o h1 h2,h2,h3,r.imp λ_ _ q=>Ek.kept q kp⟩
def A2.inj{α β:Type}{R R':α->β->Prop}{l l':List α}{m:List β}(h:A2 R l m)(h':A2 R' l' m)(k:∀a a' b,R a b->R' a' b->a=a'):l=l':=by
 induction h generalizing l' with
 | nil=>cases h';rfl
 | cons h _ ih=>
  cases h' with
  | cons q r=>rw[k _ _ _ h q,ih r]
def Ek.inj :∀{n:Nat}{d d':D}{v:Value},Ek h n d v->Ek h n d' v->d=d'
 | 0,_,_,_,⟨i,t,e1,e2⟩,⟨j,u,e3,e4⟩=>by subst e1 e2 e3;cases e4;rfl
 | n+1,_,_,_,⟨ds,a,o,items,k,e1,e2,h1,h2,h3,r⟩,⟨ds',a',o',items',k',e1',e2',h1',h2',h3',r'⟩=>by
  subst e1 e2 e1';cases e2';obtain rfl:o=o':=xN (h1.symm.trans h1');rw[h3]at h3';injection h3' with q _
  subst q;rw[r.inj r' λ_ _ _ x y=>Ek.inj x y]
mutual
def hD:D->Int
 | .int i=>hashInt i
 | .tup l=>reduceHash (Builtin.Tuple.tupleHashOf (hL l))
 | _=>0
def hL:List D->List Int
 | []=>[]
 | d::r=>hD d::hL r
end
def zV6:∀(l m:List D),hL (l++m)=hL l++hL m
 | [],_=>rfl
 | d::l,m=>by simp[hL,zV6 l m]
section
variable {prog:Program}{w:World}{s:Shared}
def Ek.typeIs{n:Nat}(h:Ek s.heap (n+1) d (.ref a)):s.TypeIs (.ref a) "tuple":=by obtain⟨ds,a',o,items,k,e1,e2,h1,h2,h3,r⟩:=h;cases e2;exact⟨o,h1,h2⟩
def zQg:∀(n:Nat) {d:D}{v:Value}{A:Around}{E:Value->Shared->Prop}{s:Shared}{Q:Int->Shared->Prop},Ek s.heap n d v->A.units+n<cLine->(∀tk,s.toks<=tk->Q (hD d) { s with toks:=tk })->wpAny (model prog w) A (pyHash v) Q E s
 | 0,_,_,A,E,s,Q,⟨i,t,e1,e2⟩,_,h=>by subst e1 e2;exact wpAny_pyHash_int (h _ (Nat.le_add_right _ _))
 | n+1,_,_,A,E,s,Q,hk,hu,h=>by
  have hk0:=hk;obtain⟨ds,a,o,items,k,rfl,rfl,ho,hc,hd,r⟩:=hk;have hT:=hk0.typeIs;unfold pyHash;first|unfold pyHashByItsType|skip
  first|refine xc (wpAny_cRoomFor_or (.inr (by nofun)) ?_)|skip
  refine xc (ui hT yF.lookup ?_);show wpAny _ _ (if(some (Value.builtin "tuple.__hash__") == some Value.none)=true then _ else _) Q E s;rw[xg (by rw[beq_builtin_none];exact vB)];refine xc (ui hT yF.lookup ?_);show wpAny _ _ (callSpecialIfBoundUnlessNone? (.ref a) "__hash__" _ >>= _) Q E s;refine xc (wpAny_callSpecialIfBoundUnlessNone?_slot hT yF (xK yF hT F.entry_tuple_hash ?_ (F.args_tuple_hash_1 _)));show wpAny _ _ (Builtin.Tuple.tupleItemsOf (.ref a) >>= _) _ _ s;refine xc (yG ho hd (xc ?_));rw[<- Array.forIn_toList];refine uY _ (λrest (b:Array Int) s'=>∃fst left tk,ds=fst++left/\s.toks<=tk/\A2 (Ek s.heap n) left rest/\b.toList=hL fst/\s'={ s with toks:=tk }) _ ?_ ?_ _ _ ⟨[],ds,s.toks,rfl,xi _,r,rfl,rfl⟩
  ·rintro x rest b s' ⟨fst,left,tk,rfl,ht,hl,hb,rfl⟩;cases hl with
   | @cons k' _ ks' _ h1 hl'=>
    refine xc (zQg n (s:={ s with toks:=tk }) h1 (by show A.units+1+n<cLine;lia) λtk2 ht2=>?_);exact xh ⟨fst++[k'],ks',tk2,by simp,xm ht ht2,hl',by rw[zV6];simp[hb,hL],rfl⟩
  ·rintro b s' ⟨fst,left,tk,rfl,ht,hl,hb,rfl⟩;cases hl;rw[vT]at h;show wpAny _ _ (retInt (Builtin.Tuple.tupleHashOf b.toList)) _ _ _;rw[hb];refine wpAny_ret_mkInt ?_;show wpAny _ _ (if(decide (-(2:Int) ^ 63<=Builtin.Tuple.tupleHashOf (hL fst)) && decide (Builtin.Tuple.tupleHashOf (hL fst)<2 ^ 63))=true then _ else _) Q E _;have h':=h (tk+1) (Nat.le_succ_of_le ht);unfold hD reduceHash at h';by_cases hr:(decide (-(2:Int) ^ 63<=Builtin.Tuple.tupleHashOf (hL fst)) && decide (Builtin.Tuple.tupleHashOf (hL fst)<2 ^ 63))=true
   ·rw[xf hr];rw[xf hr]at h';exact xh h'
   ·rw[xg hr];rw[xg hr]at h';exact xc (vt (xh h'))
def zIp:∀(n f:Nat) {d:D}{v:Value}{A:Around}{E:Value->Shared->Prop}{s:Shared}{Q:Bool->Shared->Prop},Ek s.heap n d v->n<=f->Q false s->wpAny (model prog w) A (ofAClassStatement f v) Q E s
 | 0,f,_,_,A,E,s,Q,⟨i,t,e1,e2⟩,_,h=>by subst e1 e2;exact uU (show ofAClassStatement f (.int i t)=pure false by cases f <;> rfl) h
 | n+1,0,_,_,A,E,s,Q,hk,hf,h=>by nofun
 | n+1,f+1,_,_,A,E,s,Q,hk,hf,h=>by
  have hk0:=hk;obtain⟨ds,a,o,items,k,rfl,rfl,ho,hc,hd,r⟩:=hk;have hT:=hk0.typeIs;unfold ofAClassStatement;refine xc (v9 hT ?_);dsimp only;rw[xf (by decide)];refine xc (xh ?_);rw[xg (by decide)];refine xc (uP ho hd (xc ?_));show wpAny _ _ (forIn items _ _) _ _ s;rw[<- Array.forIn_toList];refine uY _ (λrest r s'=>r.1=none/\s'=s/\∃l,A2 (Ek s.heap n) l rest) _ ?_ ?_ _ _ ⟨rfl,rfl,_,r⟩
  ·rintro v rest r s' ⟨hr,rfl,l,al⟩;cases al with
   | cons q al=>
    refine xc (zIp n f q (by nofun) ?_);rw[xg (by decide)];exact xh ⟨rfl,rfl,_,al⟩
  ·rintro⟨r1,r2⟩ s' ⟨hr,rfl,_⟩;simp only at hr;subst hr;exact xh h
def zMb:∀(n f:Nat) {d:D}{v:Value}{A:Around}{E:Value->Shared->Prop}{s:Shared}{Q:Bool->Shared->Prop},Ek s.heap n d v->n<=f->Q true s->wpAny (model prog w) A (hashByValue f v) Q E s
 | 0,f,_,_,A,E,s,Q,⟨i,t,e1,e2⟩,_,h=>by subst e1 e2;exact uU (show hashByValue f (.int i t)=pure true by cases f <;> rfl) h
 | n+1,0,_,_,A,E,s,Q,hk,hf,h=>by nofun
 | n+1,f+1,_,_,A,E,s,Q,hk,hf,h=>by
  have hk0:=hk;obtain⟨ds,a,o,items,k,rfl,rfl,ho,hc,hd,r⟩:=hk;have hT:=hk0.typeIs;unfold hashByValue;refine xc (ui hT yF.lookup ?_);dsimp only;refine xc (uP ho hd (xc ?_));show wpAny _ _ (forIn items _ _) _ _ s;rw[<- Array.forIn_toList];refine uY _ (λrest r s'=>r.1=none/\s'=s/\∃l,A2 (Ek s.heap n) l rest) _ ?_ ?_ _ _ ⟨rfl,rfl,_,r⟩
  ·rintro v rest r s' ⟨hr,rfl,l,al⟩;cases al with
   | cons q al=>
    refine xc (zMb n f q (by nofun) ?_);rw[xg (by decide)];exact xh ⟨rfl,rfl,_,al⟩
  ·rintro⟨r1,r2⟩ s' ⟨hr,rfl,_⟩;simp only at hr;subst hr;exact xh h
def zIo:∀(n f:Nat) {d:D}{v:Value}{A:Around}{E:Value->Shared->Prop}{s:Shared}{Q:Bool->Shared->Prop},Ek s.heap n d v->n<=f->Q true s->wpAny (model prog w) A (eqIsQuiet f v) Q E s
 | 0,f,_,_,A,E,s,Q,⟨i,t,e1,e2⟩,_,h=>by subst e1 e2;rw[eqIsQuiet_byValue _ (by rfl)];exact xh h
 | n+1,0,_,_,A,E,s,Q,hk,hf,h=>by nofun
 | n+1,f+1,_,_,A,E,s,Q,hk,hf,h=>by
  have hk0:=hk;obtain⟨ds,a,o,items,k,rfl,rfl,ho,hc,hd,r⟩:=hk;have hT:=hk0.typeIs;unfold eqIsQuiet;refine xc (ui hT F.slot_tuple_eq.lookup ?_);show wpAny _ _ (isInstance (.ref a) (.type "tuple") >>= _) _ _ s;refine xc (ub hT isSubtype_tuple_tuple ?_);simp only[uZ,ve,xI];refine xc (uP ho hd (xc ?_));show wpAny _ _ (forIn items _ _) _ _ s;rw[<- Array.forIn_toList];refine uY _ (λrest r s'=>r.1=none/\s'=s/\∃l,A2 (Ek s.heap n) l rest) _ ?_ ?_ _ _ ⟨rfl,rfl,_,r⟩
  ·rintro v rest r s' ⟨hr,rfl,l,al⟩;cases al with
   | cons q al=>
    refine xc (zIo n f q (by nofun) ?_);simp only[uZ,ve,xI];exact xh ⟨rfl,rfl,_,al⟩
  ·rintro⟨r1,r2⟩ s' ⟨hr,rfl,_⟩;simp only at hr;subst hr;exact xh h
open Classical in
def zNf:∀(n:Nat) {d d':D}{v v':Value}{A:Around}{E:Value->Shared->Prop}{s:Shared}{Q:Bool->Shared->Prop},Ek s.heap n d v->Ek s.heap n d' v'->A.units+n<cLine->Q (decide (d=d')) s->wpAny (model prog w) A (eqBool v v') Q E s
 | 0,_,_,_,_,A,E,s,Q,⟨i,t,e1,e2⟩,⟨j,u,e3,e4⟩,_,h=>by
  subst e1 e2 e3 e4;refine wpAny_eqBool_int ?_;have:(i == j)=decide (D.int i=D.int j):=by
   by_cases q:i=j
   ·subst q;simp
   ·rw[xC (λz=>q (by cases z;rfl))];simpa using q
  rw[this];exact h
 | n+1,_,_,_,_,A,E,s,Q,hx,hy,hu,h=>by
  have hx0:=hx;have hy0:=hy;obtain⟨ds,a,oa,xs,ka,rfl,rfl,hoa,hca,hda,ra⟩:=hx;obtain⟨es,b,ob,ys,kb,rfl,rfl,hob,hcb,hdb,rb⟩:=hy;unfold eqBool
  try with_reducible refine xP ?_
  show wpAny _ _ (if(Value.ref a == Value.ref b)=true then _ else _) Q E s;by_cases hab:(Value.ref a == Value.ref b)=true
  ·rw[xf hab];have e:a=b:=by have:=eq_of_beq hab;injection this
   subst e;have e2:=hx0.inj hy0;rw[xx e2]at h;exact xc (vt (xh h))
  ·rw[xg hab]
   suffices hc:wpAny (model prog w) A (call (.builtin "tuple.__eq__") [.ref a,.ref b]) (λv s'=>v=.bool (decide (D.tup ds=D.tup es))/\s'=s) E s from
    xc (wpAny_richCompare_same_room (op:=.Eq) hx0.typeIs hy0.typeIs F.slot_tuple_eq (vA hc (λv s' q=>by
     obtain⟨rfl,rfl⟩:=q;exact⟨(λe=>nomatch e),v7 h⟩) λ_ _ x=>x) (by nofun))
   refine xK F.slot_tuple_eq hx0.typeIs F.entry_tuple_eq ?_ (F.args_tuple_eq_2 _ _);have fin:∀c:Bool,c=decide (D.tup ds=D.tup es)->∃v,(PySem.Fin.done (.ret (.bool c)):PySem.Fin)=.done (.ret v)/\v=.bool (decide (D.tup ds=D.tup es))/\s=s:=λc hc=>⟨_,rfl,by rw[hc],rfl⟩
   show wpAny _ _ (isInstance (.ref b) (.type "tuple") >>= _) _ _ s;refine xc (ub hy0.typeIs isSubtype_tuple_tuple ?_);simp only[uZ,ve,xI];refine xc (yG hoa hda (xc (yG hob hdb (xc ?_))));refine uY _ (λrest r s'=>r.1=none/\s'=s/\∃(x' y':List D) (xs' ys':List Value),rest=List.zip xs' ys'/\A2 (Ek s.heap n) x' xs'/\A2 (Ek s.heap n) y' ys'/\(x'=y' <-> ds=es)/\(xs'.length == ys'.length)=(xs.size == ys.size)) _ ?_ ?_ _ _ ⟨rfl,rfl,ds,es,xs.toList,ys.toList,rfl,ra,rb,Iff.rfl,by simp⟩
   ·rintro⟨u,v⟩ rest r s' ⟨hr,rfl,x',y',xs',ys',hz,hx',hy',hdec,hlen⟩;cases hx' with
    | nil=>simp at hz
    | @cons k1 u' x'' xs'' h1 hx''=>
     cases hy' with
     | nil=>simp at hz
     | @cons k2 v' y'' ys'' h2 hy''=>
      simp only[uT,List.cons.injEq,Prod.mk.injEq]at hz;obtain⟨⟨rfl,rfl⟩,rfl⟩:=hz;refine xc (zNf n h1 h2 (by show A.units+1+n<cLine;lia) ?_);by_cases hk:k1=k2
      ·subst hk;rw[xx rfl];simp only[uZ,ve,xI];refine xh ⟨rfl,rfl,x'',y'',xs'',ys'',rfl,hx'',hy'',?_,by simpa using hlen⟩;rw[<- hdec];simp
      ·rw[xC hk];simp only[Bool.not_false,xl];have hf:¬ ds=es:=λz=>hk (by have:=hdec.mpr z;cases this;rfl)
       exact xc (xh (xh (xh (fin false (by rw[xC];intro z;cases z;exact hf rfl)))))
   ·rintro⟨r1,r2⟩ s' ⟨hr,rfl,x',y',xs',ys',hz,hx',hy',hdec,hlen⟩;simp only at hr;subst hr;refine xh ?_;have hfin:(xs.size == ys.size)=decide (D.tup ds=D.tup es):=by
     have e3:decide (D.tup ds=D.tup es)=decide (x'=y'):=xS.mpr (by rw[D.tup.injEq];exact hdec.symm);rw[e3,<- hlen];cases hx' with
     | nil=>
      cases hy' with
      | nil=>simp
      | cons _ _=>simp
     | cons _ _=>
      cases hy' with
      | nil=>simp
      | cons _ _=>simp at hz
    exact fin _ hfin
end
end EK
namespace DS
open PySem (Str)
section
open Classical
mutual
def blt:D->D->Bool
 | .int a,.int b=>decide (a<b)
 | .tup l,.tup m=>bltL l m
 | _,_=>false
def bltL:List D->List D->Bool
 | [],[]=>false
 | [],_::_=>true
 | _::_,[]=>false
 | a::r,b::t=>if a=b then bltL r t else blt a b
end
def lv:Nat->D->Prop
 | 0,d=>∃i,d=.int i
 | n+1,d=>∃l,d=.tup l/\∀x∈l,lv n x
def zCp(a b:D)(r t:List D):bltL (a::r) (b::t)=if a=b then bltL r t else blt a b:=by rw[bltL]
def zMm:∀(l:List D),bltL l l=false
 | []=>by rw[bltL]
 | a::r=>by rw[zCp,xf rfl];exact zMm r
def zL6{n:Nat}(h:lv n d):blt d d=false:=by
 cases n with
 | zero=>obtain⟨i,rfl⟩:=h;rw[blt];simp
 | succ n=>obtain⟨l,rfl,_⟩:=h;rw[blt];exact zMm l
def zL5:∀(n:Nat) {a b:D},lv n a->lv n b->a≠b->blt a b=true\/blt b a=true
 | 0,_,_,⟨i,e⟩,⟨j,e'⟩,h=>by
  subst e e';rw[blt,blt];have:i≠j:=λz=>h (by rw[z])
  simp only[decide_eq_true_eq];lia
 | n+1,_,_,⟨l,e,hl⟩,⟨m,e',hm⟩,h=>by
  subst e e';rw[blt,blt];have hlm:l≠m:=λz=>h (by rw[z])
  clear h
  induction l generalizing m with
  | nil=>
   cases m with
   | nil=>exact absurd rfl hlm
   | cons b t=>left;rw[bltL]
  | cons a r ih=>
   cases m with
   | nil=>right;rw[bltL]
   | cons b t=>
    rw[zCp,zCp];by_cases q:a=b
    ·subst q;rw[xf rfl,xf rfl];exact ih (λx hx=>hl x (.tail _ hx)) t (λx hx=>hm x (.tail _ hx)) λz=>hlm (by rw[z])
    ·rw[xg q,xg (xv q)];exact zL5 n (hl a (.head _)) (hm b (.head _)) q
def zMl:∀(n:Nat) {a b c:D},lv n a->lv n b->lv n c->blt a b=true->blt b c=true->blt a c=true
 | 0,_,_,_,⟨i,e⟩,⟨j,e'⟩,⟨k,e''⟩,h,h'=>by
  subst e e' e'';rw[blt]at h h' ⊢;simp only[decide_eq_true_eq]at *;lia
 | n+1,_,_,_,⟨l,e,hl⟩,⟨m,e',hm⟩,⟨k,e'',hk⟩,h,h'=>by
  subst e e' e'';rw[blt]at h h' ⊢;induction l generalizing m k with
  | nil=>
   cases k with
   | nil=>cases m with
    | nil=>exact h
    | cons b t=>rw[bltL]at h';cases h'
   | cons c u=>rw[bltL]
  | cons a r ih=>
   cases m with
   | nil=>rw[bltL]at h;cases h
   | cons b t=>
    cases k with
    | nil=>rw[bltL]at h';cases h'
    | cons c u=>
     rw[zCp]at h h' ⊢;by_cases q:a=b
     ·subst q;rw[xf rfl]at h;by_cases q2:a=c
      ·subst q2;rw[xf rfl]at h' ⊢;exact ih (λx hx=>hl x (.tail _ hx)) t (λx hx=>hm x (.tail _ hx)) u (λx hx=>hk x (.tail _ hx)) h h'
      ·rw[xg q2]at h' ⊢;exact h'
     ·rw[xg q]at h;by_cases q2:b=c
      ·subst q2;rw[xg q];exact h
      ·rw[xg q2]at h';have t1:=zMl n (hl a (.head _)) (hm b (.head _)) (hk c (.head _)) h h';rw[xg (λz=>by subst z;rw[zL6 (hl _ (.head _))]at t1;cases t1)];exact t1
def zYu{n:Nat}(ha:lv n a)(hb:lv n b)(h:blt a b=true):blt b a=false:=by
 cases e:blt b a with
 | false=>rfl
 | true=>have:=zMl n ha hb ha h e;rw[zL6 ha]at this;cases this
def dle(a b:D):Prop:=blt b a=false
def zVa{n:Nat}(ha:lv n a)(hb:lv n b)(hc:lv n c)(h:dle a b)(h':dle b c):dle a c:=by
 unfold dle at *;cases e:blt c a with
 | false=>rfl
 | true=>
  by_cases q:a=b
  ·subst q;rw[h']at e;cases e
  ·rcases zL5 n ha hb q with z|z
   ·have:=zMl n hc ha hb e z;rw[h']at this;cases this
   ·rw[h]at z;cases z
def zTr{n:Nat}(ha:lv n a)(hb:lv n b)(h:dle a b)(h':dle b a):a=b:=by
 apply vW;intro q;rcases zL5 n ha hb q with z|z
 ·rw[show blt a b=false from h']at z;cases z
 ·rw[show blt b a=false from h]at z;cases z
noncomputable def ins (x:D):List D->List D
 | []=>[x]
 | y::l=>if blt y x=true then y::ins x l else x::y::l
def srt:List D->List D
 | []=>[]
 | x::l=>ins x (srt l)
def ins_perm(x:D):∀l,(ins x l).Perm (x::l)
 | []=>.refl _
 | y::l=>by
  unfold ins;split
  ·exact((ins_perm x l).cons y).trans (List.Perm.swap ..)
  ·exact .refl _
def zBx:∀l,(srt l).Perm l
 | []=>.refl _
 | x::l=>(ins_perm x _).trans ((zBx l).cons x)
abbrev Up(l:List D):Prop:=l.Pairwise dle
def ins_up{n:Nat}:∀{l:List D},lv n x->(∀y∈l,lv n y)->Up l->Up (ins x l)
 | [],_,_,_=>List.pairwise_singleton _ _
 | y::l,hx,hl,h=>by
  have h':=uc.mp h;unfold ins;split
  ·rename_i q;refine uc.mpr ⟨λz hz=>?_,ins_up hx (λz hz=>hl z (.tail _ hz)) h'.2⟩;rcases xp.mp ((ins_perm x l).mem_iff.mp hz)with rfl|hz
   ·exact zYu (hl y (.head _)) hx q
   ·exact h'.1 z hz
  ·rename_i q;refine uc.mpr ⟨λz hz=>?_,h⟩;rcases xp.mp hz with rfl|hz
   ·exact Bool.eq_false_iff.mpr q
   ·exact zVa hx (hl y (.head _)) (hl z (.tail _ hz)) (Bool.eq_false_iff.mpr q) (h'.1 z hz)
def zLg{n:Nat}:∀{l:List D},(∀y∈l,lv n y)->Up (srt l)
 | [],_=>.nil
 | x::l,h=>ins_up (h x (.head _)) (λy hy=>h y (.tail _ ((zBx l).mem_iff.mp hy))) (zLg λy hy=>h y (.tail _ hy))
def up_eq{n:Nat}:∀{l m:List D},(∀y∈l,lv n y)->l.Perm m->Up l->Up m->l=m
 | [],m,_,p,_,_=>by rw[List.nil_perm.mp p]
 | a::l,[],_,p,_,_=>by have:=p.length_eq;simp at this
 | a::l,b::m,hv,p,h,h'=>by
  have ha:=uc.mp h;have hb:=uc.mp h';have e:a=b:=by
   by_cases z:a=b
   ·exact z
   ·have m1:b∈l:=by
     rcases xp.mp (p.mem_iff.mpr (xY (a:=b) (l:=m)))with q|q
     ·exact absurd q.symm z
     ·exact q
    have m2:a∈m:=by
     rcases xp.mp (p.mem_iff.mp (xY (a:=a) (l:=l)))with q|q
     ·exact absurd q z
     ·exact q
    exact zTr (hv a (.head _)) (hv b (.tail _ m1)) (ha.1 b m1) (hb.1 a m2)
  subst e;rw[up_eq (λy hy=>hv y (.tail _ hy)) (List.Perm.cons_inv p) ha.2 hb.2]
def zNw{n:Nat}{l:List D}(hv:∀y∈l,lv n y)(p:l.Perm m)(h:Up l):l=srt m:=up_eq hv (p.trans (zBx m).symm) h (zLg λy hy=>hv y (p.mem_iff.mpr hy))
def rkD(l:List D)(d:D):Nat:=(l.filter λe=>blt e d).length
def zY1{p q:D->Bool}:∀(l:List D),(∀x∈l,p x=true->q x=true)->(l.filter p).length<=(l.filter q).length
 | [],_=>xi _
 | x::l,h=>by
  have ih:=zY1 l λy hy=>h y (.tail _ hy)
  by_cases c:p x=true
  ·rw[uC c,uC (h x (.head _) c)];simpa using ih
  ·rw[yi c];by_cases c2:q x=true
   ·rw[uC c2,xB];lia
   ·rw[yi c2];exact ih
def yBy{p q:D->Bool}(hy:p y=false)(hy':q y=true):∀(l:List D),y∈l->(∀x∈l,p x=true->q x=true)->(l.filter p).length<(l.filter q).length
 | x::l,hm,h=>by
  rcases xp.mp hm with e|hm
  ·subst e;rw[yi (by rw[hy];decide),uC hy',xB];have:=zY1 l λz hz=>h z (.tail _ hz)
   lia
  ·have ih:=yBy hy hy' l hm λz hz=>h z (.tail _ hz)
   by_cases c:p x=true
   ·rw[uC c,uC (h x (.head _) c)];simpa using ih
   ·rw[yi c];by_cases c2:q x=true
    ·rw[uC c2,xB];lia
    ·rw[yi c2];exact ih
def zW9{n:Nat}(hl:∀x∈l,lv n x)(ha:a∈l)(hb:b∈l):decide (rkD l a<rkD l b)=blt a b:=by
 cases e:blt a b with
 | true=>exact xx (yBy (p:=λe=>blt e a) (q:=λe=>blt e b) (zL6 (hl a ha)) e l ha λx hx q=>zMl n (hl x hx) (hl a ha) (hl b hb) q e)
 | false=>
  refine xC (Nat.not_lt.mpr (zY1 l λx hx q=>?_));cases e2:blt x a with
  | true=>rfl
  | false=>exact absurd q (by rw[show blt x b=false from zVa (hl b hb) (hl a ha) (hl x hx) e e2];decide)
noncomputable def dedup:List D->List D
 | []=>[]
 | x::l=>if x∈l then dedup l else x::dedup l
def mem_dedup :∀{l:List D},x∈dedup l <-> x∈l
 | []=>Iff.rfl
 | y::l=>by
  unfold dedup;split
  ·rename_i h;rw[mem_dedup];constructor
   ·exact λq=>.tail _ q
   ·intro q;rcases xp.mp q with rfl|q
    ·exact h
    ·exact q
  ·rw[xp,xp,mem_dedup]
def zG1:∀{l:List D},(dedup l).Nodup
 | []=>.nil
 | y::l=>by
  unfold dedup;split
  ·exact zG1
  ·rename_i h;exact vJ.mpr ⟨λq=>h (mem_dedup.mp q),zG1⟩
def zXa{l m:List D}(h:l.Nodup)(h':m.Nodup)(e:∀x,x∈l <-> x∈m):l.Perm m:=by
 induction l generalizing m with
 | nil=>
  cases m with
  | nil=>exact .refl _
  | cons b t=>exact absurd ((e b).mpr (.head _)) (by simp)
 | cons a l ih=>
  have ha:a∈m:=(e a).mp (.head _);obtain⟨u,v,rfl⟩:=List.append_of_mem ha;have hn:=vJ.mp h;have h2:(a::(u++v)).Nodup:=(yz.nodup_iff).mp h';have hm:=vJ.mp h2;refine(List.Perm.cons a (ih hn.2 hm.2 λx=>?_)).trans yz.symm;constructor
  ·intro hx;have:=(e x).mp (.tail _ hx);rcases xp.mp ((yz (a:=a) (l₁:=u) (l₂:=v)).mem_iff.mp this)with rfl|q
   ·exact absurd hx hn.1
   ·exact q
  ·intro hx;have:x∈a::l:=(e x).mpr ((yz (a:=a) (l₁:=u) (l₂:=v)).mem_iff.mpr (.tail _ hx));rcases xp.mp this with rfl|q
   ·exact absurd hx hm.1
   ·exact q
end
end DS
namespace EK
open PySem PyProof.Rows PySem.W
open DS (D blt bltL zCp)
open Classical
section
variable {prog:Program}{w:World}
def zHd{n:Nat}(ih:∀{d d':D}{v v':Value}{A:Around}{E:Value->Shared->Prop}{s:Shared}{Q:Value->Shared->Prop},Ek s.heap n d v->Ek s.heap n d' v'->A.units+n<cLine->Q (.bool (blt d d')) s->wpAny (model prog w) A (richCompare .Lt v v') Q E s)
  {d d':D}{a b:Addr}{A:Around}{E:Value->Shared->Prop}{s:Shared}{Q:Value->Shared->Prop}(hx:Ek s.heap (n+1) d (.ref a)) (hy:Ek s.heap (n+1) d' (.ref b)) (hu:A.units+(n+1)<cLine) (h:Q (.bool (blt d d')) s):wpAny (model prog w) A (call (.builtin "tuple.__lt__") [.ref a,.ref b]) Q E s:=by
 have hx0:=hx;have hy0:=hy;obtain⟨ds,a',oa,xs,ka,rfl,ea,hoa,hca,hda,ra⟩:=hx;cases ea;obtain⟨es,b',ob,ys,kb,rfl,eb,hob,hcb,hdb,rb⟩:=hy;cases eb;refine xK PySem.F.slot_tuple_lt hx0.typeIs PySem.F.entry_tuple_lt ?_ (PySem.F.args_tuple_lt_2 _ _);rw[blt]at h;show wpAny _ _ (isInstance (.ref b) (.type "tuple") >>= _) _ _ s;refine xc (ub hy0.typeIs isSubtype_tuple_tuple ?_);simp only[uZ,ve,xI];refine xc (yG hoa hda (xc (yG hob hdb (xc ?_))));refine uY _ (λrest r s'=>r.1=none/\s'=s/\∃(x' y':List D) (xs' ys':List Value),rest=List.zip xs' ys'/\A2 (Ek s.heap n) x' xs'/\A2 (Ek s.heap n) y' ys'/\bltL x' y'=bltL ds es/\decide (xs'.length<ys'.length)=decide (xs.size<ys.size)) _ ?_ ?_ _ _ ⟨rfl,rfl,ds,es,xs.toList,ys.toList,rfl,ra,rb,rfl,by simp⟩
 ·rintro⟨u,v⟩ rest r s' ⟨hr,rfl,x',y',xs',ys',hz,hx',hy',hdec,hlen⟩;cases hx' with
  | nil=>simp at hz
  | @cons k1 u' x'' xs'' h1 hx''=>
   cases hy' with
   | nil=>simp at hz
   | @cons k2 v' y'' ys'' h2 hy''=>
    simp only[uT,List.cons.injEq,Prod.mk.injEq]at hz;obtain⟨⟨rfl,rfl⟩,rfl⟩:=hz;refine xc (zNf n h1 h2 (by show A.units+1+n<cLine;lia) ?_);rw[zCp]at hdec;by_cases hk:k1=k2
    ·subst hk;rw[xf rfl]at hdec;rw[xx rfl];simp only[uZ,ve,xI];exact xh ⟨rfl,rfl,x'',y'',xs'',ys'',rfl,hx'',hy'',hdec,by simpa using hlen⟩
    ·rw[xg hk]at hdec;rw[xC hk];simp only[Bool.not_false,xl];refine xc (vt (xc (ih h1 h2 (by show A.units+1+n<cLine;lia) ?_)));refine xc (xh (xh (xh ⟨_,rfl,?_⟩)));rw[hdec];exact h
 ·rintro⟨r1,r2⟩ s' ⟨hr,rfl,x',y',xs',ys',hz,hx',hy',hdec,hlen⟩;simp only at hr;subst hr;have hfin:bltL ds es=decide (xs.size<ys.size):=by
   rw[<- hdec,<- hlen];cases hx' with
   | nil=>
    cases hy' with
    | nil=>rw[bltL];rfl
    | cons _ _=>rw[bltL];simp
   | cons _ _=>
    cases hy' with
    | nil=>rw[bltL];simp
    | cons _ _=>simp at hz
  rw[hfin]at h;exact xh ⟨_,rfl,h⟩
def zY6:∀(n:Nat) {d d':D}{v v':Value}{A:Around}{E:Value->Shared->Prop}{s:Shared}{Q:Value->Shared->Prop},Ek s.heap n d v->Ek s.heap n d' v'->A.units+n<cLine->Q (.bool (blt d d')) s->wpAny (model prog w) A (richCompare .Lt v v') Q E s
 | 0,_,_,_,_,A,E,s,Q,⟨i,t,e1,e2⟩,⟨j,u,e3,e4⟩,_,h=>by
  subst e1 e2 e3 e4;rw[blt]at h;exact(lt_int h:wpAny (model prog w) A (compareOp .Lt (.int i t) (.int j u)) Q E s)
 | n+1,_,_,_,_,A,E,s,Q,hx,hy,hu,h=>by
  have hx0:=hx;have hy0:=hy;obtain⟨ds,a,oa,xs,ka,rfl,rfl,hoa,hca,hda,ra⟩:=hx;obtain⟨es,b,ob,ys,kb,rfl,rfl,hob,hcb,hdb,rb⟩:=hy;exact wpAny_richCompare_same_room (op:=.Lt) hx0.typeIs hy0.typeIs PySem.F.slot_tuple_lt (zHd (λ{d d' v v' A E s Q}=>zY6 n) hx0 hy0 hu ⟨(λe=>nomatch e),h⟩) (by nofun)
def zP8(n:Nat){A:Around}{E:Value->Shared->Prop}{s:Shared}{Q:Bool->Shared->Prop}(hx:Ek s.heap n d v)(hy:Ek s.heap n d' v')(hu:A.units+n<cLine)(h:Q (blt d d') s)(b:Bool):wpAny (model prog w) A (oneLt' b v v') Q E s:=by
 rw[oneLt'_eq];cases b with
 | false=>
  simp only[ve,xI];exact xc (zY6 n hx hy hu (v7 h))
 | true=>
  simp only[xl];refine xc (wpAny_cRoomFor_or (.inr (by nofun)) ?_);cases n with
  | zero=>
   obtain⟨i,t,rfl,rfl⟩:=hx;obtain⟨j,u,rfl,rfl⟩:=hy;rw[blt]at h;exact xc (wpAny_callSpecialIfBound?_slot (typeIs_int s i t) slot_int_lt (call_int_lt (v7 h)))
  | succ n=>
   have hx0:=hx;have hy0:=hy;obtain⟨ds,a,oa,xs,ka,rfl,rfl,hoa,hca,hda,ra⟩:=hx;obtain⟨es,b,ob,ys,kb,rfl,rfl,hob,hcb,hdb,rb⟩:=hy;exact xc (wpAny_callSpecialIfBound?_slot hx0.typeIs PySem.F.slot_tuple_lt (zHd (λ{d d' v v' A E s Q}=>zY6 n) hx0 hy0 hu (v7 h)))
def zV0{n:Nat}{A:Around}{s:Shared}{Q:Bool->Shared->Prop}(hu:A.units+n<cLine):∀{ds es:List D}{xs ys:List Value}(i:Nat),A2 (Ek s.heap n) ds xs->A2 (Ek s.heap n) es ys->fin=decide (ds.length<es.length)->Q (bltL ds es) s->KatLex prog w A b fin Q (xs.zip ys) i s
 | _,_,_,_,i,.nil,.nil,hf,h=>by rw[bltL]at h;rw[hf];exact h
 | _,_,_,_,i,.nil,.cons _ _,hf,h=>by rw[bltL]at h;rw[List.zip_nil_left,hf];exact kat_nil (by simpa using h)
 | _,_,_,_,i,.cons _ _,.nil,hf,h=>by rw[bltL]at h;rw[List.zip_nil_right,hf];exact kat_nil (by simpa using h)
 | _,_,_,_,i,.cons (a:=d) h1 r1,.cons (a:=e) h2 r2,hf,h=>by
  rw[zCp]at h;rw[uT];refine kat_cons (zNf n h1 h2 hu ?_);by_cases q:d=e
  ·rw[xf q]at h;rw[xx q];exact kat_yes (zV0 hu (i+1) r1 r2 (by rw[hf];simp) h)
  ·rw[xg q]at h;rw[xC q];exact kat_no (zP8 n h1 h2 hu h _)
inductive Kd:SortKind->Nat->Prop where
 | gen {n:Nat}:Kd general' n
 | one {n:Nat}:Kd oneType' n
 | tup {n:Nat}{b:Bool}:Kd (tuples' b) (n+1)
def yBd{κ:SortKind}{n:Nat}(hκ:Kd κ n){A:Around}{E:Value->Shared->Prop}{s:Shared}{Q:Bool->Shared->Prop}(hx:Ek s.heap n d v)(hy:Ek s.heap n d' v')(hu:A.units+n<cLine)(h:Q (blt d d') s):wpAny (model prog w) A (keyLt' κ v v') Q E s:=by
 cases hκ with
 | gen=>exact(zP8 n hx hy hu h false:wpAny (model prog w) A (oneLt' false v v') Q E s)
 | one=>rw[keyLt'_oneType];exact zP8 n hx hy hu h true
 | @tup n b=>
  obtain⟨ds,a,oa,xs,ka,rfl,rfl,hoa,hca,hda,ra⟩:=hx;obtain⟨es,c,ob,ys,kb,rfl,rfl,hob,hcb,hdb,rb⟩:=hy;rw[blt]at h;exact kat_lt hoa hda hob hdb (zV0 (by nofun) 0 ra rb (by rw[ra.length,rb.length];simp) h)
end
open TM
open DS (lv srt rkD zW9 zNw Up dle)
def Ek.lv :∀{n:Nat}{d:D}{v:Value},Ek h n d v->lv n d
 | 0,_,_,⟨i,t,e1,e2⟩=>⟨i,e1⟩
 | n+1,_,_,⟨ds,a,o,items,k,e1,e2,h1,h2,h3,r⟩=>⟨ds,e1,by
  clear e1 h3
  generalize items.toList=vs at r;induction r with
  | nil=>intro x hx;cases hx
  | cons q _ ih=>
   intro x hx;rcases xp.mp hx with rfl|hx
   ·exact Ek.lv q
   ·exact ih x hx⟩
section
variable {prog:Program}{w:World}{A:Around}{E:Value->Shared->Prop}{s:Shared}{n:Nat}{ds:List D}{vs:List Value}
def ekTy:Nat->Value
 | 0=>.type "int"
 | _+1=>.type "tuple"
def zIe(h:Ek s.heap n d v):Looks M s.heap (typeOf v) (ekTy n):=by
 cases n with
 | zero=>obtain⟨i,t,rfl,rfl⟩:=h;exact .now
 | succ n=>
  obtain⟨ds,a,o,items,k,rfl,rfl,ho,hc,hd,r⟩:=h;have:Looks M s.heap (typeOf (.ref a)) o.cls:=(Looks.ld ho).andThen .now;rw[hc]at this;exact this
def A2.mem_r{α β:Type}{R:α->β->Prop}{l:List α}{m:List β}(h:A2 R l m):∀b∈m,∃a∈l,R a b:=by
 induction h with
 | nil=>intro b hb;cases hb
 | cons q _ ih=>
  intro b hb;rcases xp.mp hb with rfl|hb
  ·exact⟨_,.head _,q⟩
  ·obtain⟨a,ha,r⟩:=ih b hb;exact⟨a,.tail _ ha,r⟩
def A2.mem_l{α β:Type}{R:α->β->Prop}{l:List α}{m:List β}(h:A2 R l m):∀a∈l,∃b∈m,R a b:=by
 induction h with
 | nil=>intro b hb;cases hb
 | cons q _ ih=>
  intro b hb;rcases xp.mp hb with rfl|hb
  ·exact⟨_,.head _,q⟩
  ·obtain⟨a,ha,r⟩:=ih b hb;exact⟨a,.tail _ ha,r⟩
def zUs{vs:List Value}{Q:Option Value->Shared->Prop}(hT:∀v∈vs,Looks M s.heap (typeOf v) T)(h:∀r,Q r s):wpAny M A (oneTypeOnly' vs.toArray) Q E s:=by
 rw[oneTypeOnly'_eq,List.mapM_toArray,map_eq_pure_bind];refine xc (xc (kas_mapM (r:=T) _ (λv hv Q' hq=>(hT v hv).here hq) (xh ?_)));split
 ·exact xh (h _)
 ·exact xh (h _)
def firsts :∀{ds:List D}{vs:List Value}{Q:List (Option Value)->Shared->Prop},A2 (Ek s.heap n) ds vs->(∀fs:List (Option Value),fs.length=vs.length->(n=0->∀f∈fs,f=none)->(∀f∈fs,∀v,f=some v->∃m d,n=m+1/\Ek s.heap m d v)->Q fs s)->wpAny M A (vs.mapM firstOfTuple') Q E s
 | _,_,Q,.nil,h=>by rw[List.mapM_nil];exact xh (h [] rfl (λ_ f hf=>nomatch hf) λf hf=>nomatch hf)
 | _,_,Q,.cons (b:=v) (m:=vs) q r,h=>by
  rw[List.mapM_cons];refine xc ?_;have go:∀f:Option Value,(n=0->f=none)->(∀v,f=some v->∃m d,n=m+1/\Ek s.heap m d v)->wpAny M A (vs.mapM firstOfTuple' >>= λbs=>pure (f::bs)) Q E s:=λf h0 h1=>
   xc (firsts (Q:=λbs s'=>wpAny M A (pure (f::bs)) Q E s') r λfs hl hz hs=>xh (h (f::fs) (by simp[hl]) (λz g hg=>by
    rcases xp.mp hg with rfl|hg
    ·exact h0 z
    ·exact hz z g hg) λg hg=>by
    rcases xp.mp hg with rfl|hg
    ·exact h1
    ·exact hs g hg))
  have lk:=zIe (M:=M) q;rw[kas_first_eq];cases n with
  | zero=>
   obtain⟨i,t,rfl,rfl⟩:=q;refine xc (Looks.here (show Looks M s.heap (typeOf (.int i t)) (.type "int")from .now) ?_);rw[xf (by decide)];exact xh (go none (λ_=>rfl) λv e=>nomatch e)
  | succ n=>
   obtain⟨ds,a,o,items,k,rfl,rfl,ho,hc,hd,r'⟩:=q;refine xc (lk.here ?_);rw[show ekTy (n+1)=.type "tuple" from rfl,xg (by decide)];refine xc (listItems_at ho hd (xh (go _ (λz=>nomatch z) λv e=>?_)));obtain⟨d,hd',rr⟩:=r'.mem_r v (by obtain⟨z,e⟩:=vZ.mp e;rw[<- e];simp);exact⟨n,d,rfl,rr⟩
def zXo{Q:SortKind->Shared->Prop}(h:A2 (Ek s.heap n) ds vs)(hne:vs≠[])(hQ:∀κ,Kd κ n->Q κ s):wpAny (model prog w) A (keyKind' vs.toArray) Q E s:=by
 rw[kat_kind_eq,List.mapM_toArray,map_eq_pure_bind];refine xc (xc (firsts h λfs hl hz hs=>xh ?_));by_cases q:(fs.toArray.all λx=>x.isSome)=true
 ·rw[xf q];have hn:∃m,n=m+1:=by
   cases n with
   | succ m=>exact⟨m,rfl⟩
   | zero=>
    exfalso
    match fs,hl with
    | [],hl=>exact hne (List.length_eq_zero_iff.mp hl.symm)
    | f::fs,hl=>
     have:f=none:=hz rfl f (.head _);subst this;simp at q
  obtain⟨m,rfl⟩:=hn;refine xc (vt ?_);have e:fs.toArray.filterMap id=(fs.filterMap id).toArray:=by simp
  rw[e];refine xc (zUs (T:=ekTy m) (λv hv=>?_) λr=>xh (hQ _ .tup));obtain⟨f,hf,e2⟩:=u5.mp hv;obtain⟨m',d,e3,hk⟩:=hs f hf v e2;cases e3;exact zIe hk
 ·rw[xg q];split
  ·exact xh (hQ _ .gen)
  ·refine xc (zUs (T:=ekTy n) (λv hv=>?_) λr=>?_)
   ·obtain⟨d,_,hk⟩:=h.mem_r v hv;exact zIe hk
   ·split
    ·exact xh (hQ _ .one)
    ·exact xh (hQ _ .gen)
noncomputable def kd (h:Heap) (n:Nat) (v:Value):D:=if z:∃d,Ek h n d v then choose z else .non
def zKu(q:Ek h n d v):kd h n v=d:=by
 have z:∃d,Ek h n d v:=⟨d,q⟩
 unfold kd;rw[dif_pos z];exact(choose_spec z).inj q
def yBe(r:A2 (Ek h n) ds vs):vs.map (kd h n)=ds:=by
 induction r with
 | nil=>rfl
 | cons q _ ih=>rw[xr,zKu q,ih]
def yDd{vs:List Value}(al:∀v∈vs,∃d,Ek h n d v):A2 (Ek h n) (vs.map (kd h n)) vs:=by
 induction vs with
 | nil=>exact .nil
 | cons v vs ih=>
  obtain⟨d,q⟩:=al v (.head _);exact .cons (by rw[zKu q];exact q) (ih λu hu=>al u (.tail _ hu))
def zL9:∀(l:List Value),l.zip l=l.map λv=>(v,v)
 | []=>rfl
 | x::l=>by rw[uT,zL9 l];rfl
def zRr{κ:SortKind}(hκ:Kd κ n)(hz:vs.length<=2 ^ 20)(h:A2 (Ek s.heap n) ds vs)(hu:A.units+n<cLine){Q:SortSt->Shared->Prop}
  (hQ:∀(st:SortSt) (vs':List Value),vs'.Perm vs->A2 (Ek s.heap n) (srt ds) vs'->failedOf st=none->(arrOf st).map (·.2)=vs'.toArray->Q st s):
  wpAny (model prog w) A ((sortRuns').run (SortSt.mk' κ (vs.toArray.zip vs.toArray) #[] 7 none)) (λr s'=>Q r.2 s') E s:=by
 have za:(vs.toArray.zip vs.toArray).toList=vs.map λv=>(v,v):=by rw[Array.toList_zip];exact zL9 vs
 have mem:∀x∈vs.toArray.zip vs.toArray,∃v∈vs,x=(v,v):=λx hx=>by
  have:x∈vs.map λv=>(v,v):=by rw[<- za];exact yN.mpr hx
  obtain⟨v,hv,e⟩:=xt.mp this;exact⟨v,hv,e.symm⟩
 have C:Cm prog w A s κ (λx=>rkD ds (kd s.heap n x.1)) (λx=>x∈vs.toArray.zip vs.toArray):=λx y hx hy Q E' q=>by
  obtain⟨v,hv,rfl⟩:=mem x hx;obtain⟨u,hu',rfl⟩:=mem y hy;obtain⟨d,hd,k1⟩:=h.mem_r v hv;obtain⟨e,he,k2⟩:=h.mem_r u hu';refine yBd hκ k1 k2 hu ?_;have hl:∀x∈ds,lv n x:=λx hx=>by obtain⟨b,_,r⟩:=h.mem_l x hx;exact r.lv
  have q2:Q (decide (rkD ds (kd s.heap n v)<rkD ds (kd s.heap n u))) s:=q;rw[zKu k1,zKu k2,zW9 hl hd he]at q2;exact q2
 refine vA (w_sr (E:=E) (Q:=λ_ st=>∃vs':List Value,vs'.Perm vs/\A2 (Ek s.heap n) (srt ds) vs'/\failedOf st=none/\(arrOf st).map (·.2)=vs'.toArray) C (a₀:=vs.toArray.zip vs.toArray) (by simpa using hz) (λx hx=>hx) (st:=SortSt.mk' κ (vs.toArray.zip vs.toArray) #[] 7 none) ⟨.refl _,rfl,rfl⟩ rfl λst' B so=>?_) (λr s' q=>?_) λ_ _ e=>e
 ·have pm:(arrOf st').toList.Perm (vs.map λv=>(v,v)):=by rw[<- za];exact Array.perm_iff_toList_perm.mp B.perm
  have p2:((arrOf st').toList.map (·.2)).Perm vs:=by
   have:=pm.map (·.2);rw[xH]at this
   rwa[show vs.map ((λx:Value × Value=>x.2) ∘ λv=>(v,v))=vs from List.map_id' vs]at this
  have al:∀v∈(arrOf st').toList.map (·.2),∃d,Ek s.heap n d v:=λv hv=>by
   obtain⟨d,_,q⟩:=h.mem_r v (p2.mem_iff.mp hv);exact⟨d,q⟩
  have a2:=yDd al;refine⟨_,p2,?_,B.failed,by apply yE.mp;rw[Array.toList_map]⟩;have pd:(((arrOf st').toList.map (·.2)).map (kd s.heap n)).Perm ds:=by
   have:=p2.map (kd s.heap n)
   rwa[yBe h]at this
  have up:Up (((arrOf st').toList.map (·.2)).map (kd s.heap n)):=by
   have hl:∀x∈ds,lv n x:=λx hx=>by obtain⟨b,_,r⟩:=h.mem_l x hx;exact r.lv
   have sz:(arrOf st').size=(vs.toArray.zip vs.toArray).size:=B.size;rw[<- sz]at so;have pw:=so.pw;rw[xH];refine yj.mpr (pw.imp_of_mem λ{x y} hx hy q=>?_);have ex:∀x∈(arrOf st').toList,x.1=x.2/\kd s.heap n x.2∈ds:=λx hx=>by
    obtain⟨v,hv,rfl⟩:=xt.mp (pm.mem_iff.mp hx);obtain⟨d,hd,k⟩:=h.mem_r v hv;exact⟨rfl,by show kd s.heap n v∈ds;rw[zKu k];exact hd⟩
   obtain⟨e1,m1⟩:=ex x hx;obtain⟨e2,m2⟩:=ex y hy;dsimp only at q;rw[e1,e2]at q;show blt (kd s.heap n y.2) (kd s.heap n x.2)=false;rw[<- zW9 hl m2 m1];exact xC (by nofun)
  rw[<- zNw (λy hy=>by obtain⟨b,_,r⟩:=a2.mem_l y hy;exact r.lv) pd up];exact a2
 ·obtain⟨rfl,vs',a,b,c,d⟩:=q;exact hQ _ vs' a b c d
def Ek.kept'{h h':Heap}{o₀:Obj}(ho:h.get? a=some o₀)(hc:o₀.cls≠.type "tuple")(k:∀b o,b≠a->h.get? b=some o->h'.get? b=some o)(x:Ek h n d v):Ek h' n d v:=
 x.kept λb o e ec=>k b o (λz=>by subst z;rw[ho]at e;cases e;exact hc ec) e
def zO8{P:PySem.Fin->Shared->Prop}(ho:s.heap.get? a=some (seqObj "list" vs.toArray c₀))(hk:A2 (Ek s.heap n) ds vs)(hz:vs.length<=2 ^ 20)(hu:A.units+n<cLine)
  (h:∀(vs':List Value) (c:Nat) (h':Heap),vs'.Perm vs->A2 (Ek h' n) (srt ds) vs'->(∀b o,b≠a->s.heap.get? b=some o->h'.get? b=some o)->h'.get? a=some (seqObj "list" vs'.toArray c)->P (.done (.ret .none)) { s with heap:=h' }):
  wpAny (model prog w) A (Builtin.«list.sort» ⟨[.ref a],[]⟩) P E s:=by
 have lz:vs.length<=sizeLine:=by rw[vC];lia
 rw[list_sort_plain];refine xc (listItems_at ho rfl (xc (listUpdate_at ho rfl ?_ (by simpa using lz) (xV _))));obtain⟨e1,ho1⟩:∃e1,(s.heap.update a (Obj.mapSeq λ_=>(#[]:Array Value))).get? a=some (seqObj "list" #[] e1):=⟨_,get?_update_seq ho λ_=>#[]⟩
 have k1:∀b o,b≠a->s.heap.get? b=some o->(s.heap.update a (Obj.mapSeq λ_=>(#[]:Array Value))).get? b=some o:=λb o hb e=>(yb _ _ (xv hb)).trans e
 generalize s.heap.update a (Obj.mapSeq λ_=>(#[]:Array Value))=g1 at ho1 k1 ⊢;refine xc (seqEpoch_at ho1 rfl (xc (wpAny_newTuple (xc (wpAny_newList (xP ?_) (xV _))) (by simpa using lz))));have ho2:=xq (seqObj "list" #[] 0) (xq (seqObj "tuple" vs.toArray 0) ho1);have k2:∀b o,b≠a->s.heap.get? b=some o->((g1.push (seqObj "tuple" vs.toArray 0)).push (seqObj "list" #[] 0)).get? b=some o:=λb o hb e=>xq _ (xq _ (k1 b o hb e))
 show wpAny (model prog w) A _ P E { s with heap:=(g1.push (seqObj "tuple" vs.toArray 0)).push (seqObj "list" #[] 0) };generalize (g1.push (seqObj "tuple" vs.toArray 0)).push (seqObj "list" #[] 0)=g2 at ho2 k2 ⊢;dsimp only;have hk2:A2 (Ek g2 n) ds vs:=hk.imp λ_ _ q=>q.kept' ho (show Value.type "list"≠Value.type "tuple" by decide) k2
 have fin:∀(st:SortSt) (vs':List Value),vs'.Perm vs->A2 (Ek g2 n) (srt ds) vs'->failedOf st=none->(arrOf st).map (·.2)=vs'.toArray->
   wpAny (model prog w) A (do
    let touched:=(<- seqEpoch a) != e1
    Builtin.List.listUpdate (.ref a) λ_=>(arrOf st).map (·.2)
    if let some e:=failedOf st then rule "list.sort.comparison-raised";throw e
    if touched then rule "list.sort.modified";raiseError "ValueError" "list modified during sort"
    ret .none) P E { s with heap:=g2 }:=λst vs' pm a2 hf ha=>by
  refine xc (seqEpoch_at ho2 rfl ?_);rw[ha];refine xc (listUpdate_at ho2 rfl ?_ (xV _) (by simp;rw[pm.length_eq];exact Nat.le_succ_of_le lz));rw[hf];simp only[bne_self_eq_false,ve,xI];obtain⟨c,hc⟩:∃c,(g2.update a (Obj.mapSeq λ_=>vs'.toArray)).get? a=some (seqObj "list" vs'.toArray c):=⟨_,get?_update_seq ho2 λ_=>vs'.toArray⟩
  have k3:∀b o,b≠a->g2.get? b=some o->(g2.update a (Obj.mapSeq λ_=>vs'.toArray)).get? b=some o:=λb o hb e=>(yb _ _ (xv hb)).trans e
  exact xh (h vs' c _ pm (a2.imp λ_ _ q=>q.kept' ho2 (show Value.type "list"≠Value.type "tuple" by decide) k3) (λb o hb e=>k3 b o hb (k2 b o hb e)) hc)
 by_cases c2:vs.toArray.size<2
 ·rw[xf c2,xf c2];refine xc (xh ?_);rw[StateT.run_pure];refine xc (xh ?_);refine fin (SortSt.mk' general' (vs.toArray.zip vs.toArray) #[] 7 none) vs (.refl _) ?_ rfl ?_
  ·have:srt ds=ds:=by
    have hl:ds.length<2:=by rw[hk.length];simpa using c2
    match ds,hl with
    | [],_=>rfl
    | [d],_=>rfl
   rw[this];exact hk2
  ·show((vs.toArray.zip vs.toArray)).map (·.2)=_;apply yE.mp;simp[List.map_snd_zip]
 ·rw[xg c2,xg c2];refine xc (zXo (s:={ s with heap:=g2 }) hk2 (λz=>by subst z;simp at c2) λκ hκ=>?_);refine xc (vA (zRr (s:={ s with heap:=g2 }) (Q:=λst s'=>s'={ s with heap:=g2 }/\∃vs',vs'.Perm vs/\A2 (Ek g2 n) (srt ds) vs'/\failedOf st=none/\(arrOf st).map (·.2)=vs'.toArray) hκ hz hk2 hu λst vs' a b c d=>⟨rfl,vs',a,b,c,d⟩) ?_ λ_ _ e=>e);rintro⟨⟨⟩,st⟩ s' ⟨rfl,vs',a1,a2,a3,a4⟩;exact fin st vs' a1 a2 a3 a4
def zG5{r:Value}{m:Nat}{G:List D->List Value->Prop}{Q:Value->Shared->Prop}(hu:A.units+2+n<cLine)
  (hcol:∀R:List Value->Shared->Prop,(∀(h':Heap) (tk:Nat) (ds:List D) (vs:List Value),m<=h'.objs.size->(∀b o,s.heap.get? b=some o->h'.get? b=some o)->A2 (Ek h' n) ds vs->vs.length<=2 ^ 20->G ds vs->R vs { s with heap:=h',toks:=tk })->wpAny (model prog w) A.in1 (collect r) R E s)
  (h:∀(ds:List D) (vs vs':List Value) (c tk:Nat) (h':Heap) (L:Addr),G ds vs->vs.length<=2 ^ 20->vs'.Perm vs->A2 (Ek h' n) (srt ds) vs'->m<=L->(∀b o,s.heap.get? b=some o->h'.get? b=some o)->h'.get? L=some (seqObj "list" vs'.toArray c)->Q (.ref L) { s with heap:=h',toks:=tk }):
  wpAny (model prog w) A (call (.builtin "sorted") [r]) Q E s:=by
 refine Calls.call_function_entry kind_sorted plain_sorted entry_sorted (args_sorted1 _) ?_
 unfold Builtin.«sorted»;refine xc (m:=checkCount "sorted" 1 1 _) (xh (xc (hcol _ λh' tk ds vs sz kp hk hz hg=>?_)));have lz:vs.length<=sizeLine:=by rw[vC];lia
 refine xc (wpAny_newList ?_ (by simpa using lz));have hoL:(h'.push (seqObj "list" vs.toArray 0)).get? h'.objs.size=some (seqObj "list" vs.toArray 0):=xy _ rfl;have k0:∀b o,h'.get? b=some o->(h'.push (seqObj "list" vs.toArray 0)).get? b=some o:=λb o e=>xq _ e
 refine xc (xP (xK slot_list_sort ⟨_,hoL,rfl⟩ entry_list_sort (zO8 (s:={ s with heap:=h'.push (seqObj "list" vs.toArray 0),toks:=tk }) hoL (hk.imp λ_ _ q=>q.kept λb o e _=>k0 b o e) hz (by show A.units+1+1+n<cLine;lia) λvs' c h2 pm a2 k2 hD=>⟨_,rfl,?_⟩) (args_list_sort _)));exact xh ⟨_,rfl,h ds vs vs' c tk h2 _ hg hz pm a2 sz (λb o e=>k2 b o (xu (xo (kp b o e))) (k0 b o (kp b o e))) hD⟩
def zYm{o:Obj}{R:List Value->Shared->Prop}(ho:s.heap.get? l=some o)(hc:o.cls=.type T)(hT:T="list"\/T="tuple")(hd:o.data=.seq vs.toArray k)(hz:vs.length<=sizeLine)
  (h:∀h':Heap,s.heap.objs.size<=h'.objs.size->(∀b o,s.heap.get? b=some o->h'.get? b=some o)->R vs { s with heap:=h' }):wpAny (model prog w) A (collect (.ref l)) R E s:=by
 have kp:∀b o,s.heap.get? b=some o->((s.heap.push (seqObj "list" #[] 0)).update s.heap.objs.size (Obj.mapSeq (·++vs.toArray))).get? b=some o:=λb o e=>(yb _ _ (xv (xu (xo e)))).trans (xq _ e)
 have hq:=h _ (by rw[Heap.size_update,size_push'];omega) kp;unfold collect;refine xc (wpAny_runValue (uu entry_proto_collect' (show wpAny _ _ (newList [] >>= λx=>again (.builtin "list.__iadd__" ⟨[x,.ref l],[]⟩)) _ _ s from xc (wpAny_newList (xh ⟨Code.quiet_builtin _ (by decide +kernel),uu entry_list_iadd' ?_⟩)))));have q1:∀x y:Value,Builtin.«list.__iadd__» ⟨[x,y],[]⟩=Builtin.List.listExtendWith x y x:=λx y=>rfl
 rw[q1];unfold Builtin.List.listExtendWith;have ho':(s.heap.push (seqObj "list" #[] 0)).get? l=some o:=xq _ ho;refine xc (v9 (T:=T) ⟨o,ho',hc⟩ ?_);rw[xf (by rcases hT with rfl|rfl <;> simp[show(Value.type "list" == Value.type "list")=true from rfl,show(Value.type "tuple" == Value.type "tuple")=true from rfl])];refine xc (listItems_at ho' hd (xc (listItems_at (xs:=#[]) (n:=0) (xy _ rfl) rfl ?_)));rw[xg (by simp)];refine xc (listUpdate_at (xs:=#[]) (n:=0) (xy _ rfl) rfl (xh ?_) (xV _) (by show(#[]++vs.toArray).size<=sizeLine+1;simp only[Array.size_append,xA,vU];omega));refine(show wpAny (model prog w) A (load s.heap.objs.size >>= λo=>match o.data with|.seq xs _=>pure xs.toList|_=>unsupported "internal:collect") R E _ from xc (wpAny_load (get?_update_seq (xy _ rfl) _) ?_));show wpAny _ _ (pure ((#[]:Array Value)++vs.toArray).toList) R E _;rw[show((#[]:Array Value)++vs.toArray).toList=vs by simp];exact xh hq
end
end EK
namespace TU
open PySem TB EK TS
open TS (sObj Tab.ft TabP.ft gate adr)
open DS (D)
open Classical
section
variable {prog:Program}{w:World}{A:Around}{E:Value->Shared->Prop}{s:Shared}{dp:Nat}
abbrev EA(h:Heap)(dp:Nat)(k:D)(a:Addr):Prop:=Ek h (dp+1) k (.ref a)
def unseen(hdp:dp+1<=8){Q:Bool->Shared->Prop}(hk:EA s.heap dp ks a)(hl:∀v∈l,∃b ls,v=.ref b/\EA s.heap dp ls b)(h:Q false s):
  wpAny (model prog w) A (searchCouldBeSeen (.ref a) l) Q E s:=by
 unfold searchCouldBeSeen;refine xc (uY _ (λrest r s'=>r.1=none/\s'=s/\∀v∈rest,∃b ls,v=.ref b/\EA s.heap dp ls b) _ ?_ ?_ _ _ ⟨rfl,rfl,hl⟩)
 ·rintro v rest r s' ⟨hr,rfl,al⟩;obtain⟨b,ls,rfl,hb⟩:=al v xY;have rest':∀v∈rest,∃b ls,v=.ref b/\EA s'.heap dp ls b:=λu hu=>al u (vp _ hu)
  dsimp only;split
  ·exact xh ⟨rfl,rfl,rest'⟩
  ·refine xc (zIo (dp+1) 8 hk hdp ?_);rw[xg (by decide)];refine xc (zIo (dp+1) 8 hb hdp ?_);rw[xg (by decide)];refine xc (zIp (dp+1) 8 hk hdp ?_);rw[xg (by decide)];refine xc (zIp (dp+1) 8 hb hdp ?_);rw[xg (by decide)];exact xh ⟨rfl,rfl,rest'⟩
 ·rintro⟨r1,r2⟩ s' ⟨hr,rfl,_⟩;simp only at hr;subst hr;exact xh h
def kv(κ:Addr->D)(e:Int × Value):D:=κ (adr e.2)
def Els(dp:Nat)(κ:Addr->D)(h:Heap)(es:Array (Int × Value)):Prop:=∀e∈es.toList,∃b,e.2=.ref b/\EA h dp (κ b) b/\e.1=hD (κ b)
def search{κ:Addr->D}{x:Addr}{es:Array (Int × Value)}{Q:SetFound->Shared->Prop}(hdp:dp+1<=8)(hu:A.units+(dp+1)<cLine)(ho:s.heap.get? S=some (sObj es ep t))(T:Tab t es.size b)
  (hk:EA s.heap dp (κ x) x) (he:Els dp κ s.heap es) (h1:(∃e∈es.toList,kv κ e=κ x)->Q (.there none) s)
  (h2:∀M,t.slot (adv t M (t.probeStart (hD (κ x)))).j=.empty->(∀m',m'<M->∃i,∃hi:i<es.size,t.slot (adv t m' (t.probeStart (hD (κ x)))).j=.live i/\(es[i].1≠hD (κ x)\/kv κ es[i]≠κ x))->Q (.free (adv t M (t.probeStart (hD (κ x)))).j false) s):
  ∀(f m c:Nat) (st:Option SetTable.Probe),m<f->m<10*SetTable.turns t.mask->st.getD (t.probeStart (hD (κ x)))=adv t c (t.probeStart (hD (κ x)))->
   (∀m',m'<c->∃i,∃hi:i<es.size,t.slot (adv t m' (t.probeStart (hD (κ x)))).j=.live i/\(es[i].1≠hD (κ x)\/kv κ es[i]≠κ x))->
   Far t (adv t c (t.probeStart (hD (κ x)))) m->wpAny (model prog w) A (setSearchFrom S (.ref x) (hD (κ x)) true f st) Q E s:=by
 generalize ehx:hD (κ x)=hx at h2 ⊢;have lv:∀{j i:Nat},t.slot j=.live i->i<es.size:=λ{j i} hj=>by
  obtain⟨z,_⟩:=vZ.mp (zKt T hj);rw[T.size]at z;exact z
 intro f;induction f with
 | zero=>intro m c st hm;lia
 | succ f ih=>
  intro m c st hm hm2 est seen fr;unfold setSearchFrom;refine xc (uv ho rfl (Tab.ft T) ?_);dsimp only;rw[T.way];rw[xg (by decide)];unfold SetTable.probe;rw[est];have more:∀d,(∀d',d'<d->∃i,t.slot (adv t d' (adv t c (t.probeStart hx))).j=.live i/\(((es[i]?.map (·.1)).getD 0 == hx)=false))->∀m',m'<c+d->∃i,∃hi:i<es.size,t.slot (adv t m' (t.probeStart hx)).j=.live i/\(es[i].1≠hx\/kv κ es[i]≠κ x):=λd hd m' hm'=>by
   rcases vE m' c with z|z
   ·exact seen m' z
   ·obtain⟨d',rfl⟩:∃d',m'=c+d':=⟨m' - c,by nofun⟩
    obtain⟨i,e1,e2⟩:=hd d' (by nofun);rw[<- zDd]at e1;have hi:=lv e1;refine⟨i,hi,e1,.inl λz=>?_⟩;rw[vm hi]at e2;have:(es[i].1 == hx)=false:=e2;rw[z]at this;simp at this
  rcases zH5 (hashAt:=_) (h:=hx) T.nod _ m _ hm2 fr with⟨d,_,e,hj,hd⟩|⟨d,i,hlt,e,hj,hd,fr'⟩
  ·rw[e];dsimp only;rw[<- zDd]at hj ⊢;exact xh (h2 (c+d) hj (more d hd))
  ·rw[e];dsimp only;have hi:i<es.size:=lv hj;have ei:es[i]?=some es[i]:=vm hi;obtain⟨y,ey,hy,eyh⟩:=he es[i] (by simp);have e2:es[i]?=some (es[i].1,.ref y):=by rw[ei,<- ey]
   have ky:kv κ es[i]=κ y:=by unfold kv;rw[ey];rfl
   rw[e2];dsimp only;refine gate (λQ' hq=>unseen hdp hk (λv hv=>?_) hq) ?_
   ·obtain⟨e',he',rfl⟩:=xt.mp hv;obtain⟨b',q1,q2,_⟩:=he e' (by
     have:=Array.mem_filter.mp (yN.mp he');exact yN.mpr this.1)
    exact⟨b',_,q1,q2⟩
   refine xc (xP (zNf (dp+1) hy hk hu ?_));refine xc (uv ho rfl (Tab.ft T) ?_);dsimp only;by_cases cc:κ y=κ x
   ·rw[xx cc];exact xh (h1 ⟨es[i],by simp,ky.trans cc⟩)
   ·rw[xC cc];rw[xg (by decide)];have em:t.sameMemory t.moves t.mask=some true:=by unfold SetTable.sameMemory;simp
    rw[em];dsimp only;rw[xf rfl,hj];dsimp only;rw[e2];dsimp only;refine xc (wpAny_isSame_ref_self ?_);rw[xf rfl];refine xc (xh ?_);dsimp only;rw[xg (by decide)];refine ih (m-(d+1)) (c+(d+1)) _ (by nofun) (by nofun) (zDd t c (d+1) _).symm ?_ (by rw[zDd];exact fr');intro m' hm';rcases vE m' (c+d)with z|z
    ·exact more d hd m' z
    ·have:m'=c+d:=by nofun
     subst this;rw[<- zDd]at hj;exact⟨i,hi,hj,.inr (by rw[ky];exact cc)⟩
def IsS(dp:Nat)(κ:Addr->D)(h:Heap)(S:Addr)(es:Array (Int × Value))(b:Bool):Prop:=∃ep t,h.get? S=some (sObj es ep t)/\Tab t es.size b/\Els dp κ h es/\Chs t (es.toList.map (·.1))/\(es.toList.map (kv κ)).Nodup
def Els.keeps{κ:Addr->D}{h:Heap}{es es':Array (Int × Value)}{ep:Nat}(he:Els dp κ h es)(ho:h.get? S=some (sObj es' ep t))(hs:Heap.SameBut S h h'):Els dp κ h' es:=λe hm=>by
 obtain⟨b,e1,q,e2⟩:=he e hm;refine⟨b,e1,q.kept λc o ec et=>(hs.2 c λz=>?_).trans ec,e2⟩;subst z;rw[ho]at ec;cases ec;exact absurd (show Value.type "set"=Value.type "tuple" from et) (by decide)
def zQb{κ:Addr->D}{es:Array (Int × Value)}{t:SetTable}{M:Nat}(T:Tab t es.size b)(he:Els dp κ h es)(C:Chs t (es.toList.map (·.1)))(hM:t.slot (adv t M (t.probeStart (hD (κ x)))).j=.empty)
  (seen:∀m',m'<M->∃i,∃hi:i<es.size,t.slot (adv t m' (t.probeStart (hD (κ x)))).j=.live i/\(es[i].1≠hD (κ x)\/kv κ es[i]≠κ x)):κ x ∉ es.toList.map (kv κ):=by
 intro hm;obtain⟨e,hem,ek⟩:=xt.mp hm;obtain⟨i,hi,rfl⟩:=uj.mp hem;have hi':i<es.size:=by simpa using hi
 obtain⟨y,ey,_,eh⟩:=he _ hem;have ky:κ y=κ x:=by
  have:kv κ es.toList[i]=κ y:=by unfold kv;rw[ey];rfl
  rw[<- this,ek]
 rw[ky]at eh;have hp:i<t.place.size:=by rw[T.size];exact hi'
 obtain⟨m,em,al⟩:=C (t.place[i],es.toList[i].1) (uj.mpr ⟨i,by have:i<min t.place.size es.size:=Nat.lt_min.mpr ⟨hp,hi'⟩;simpa using this,by simp⟩);dsimp only at em al;rw[eh]at em al;rcases Nat.lt_trichotomy m M with z|z|z
 ·obtain⟨i',hi2,q1,q2⟩:=seen m z;rw[em]at q1;have q3:=zKt T q1;obtain⟨z3,e3⟩:=vZ.mp q3;have:i'=i:=zZa T.up (by simpa using z3) (by simpa using hp) (by simpa using e3);subst this;rcases q2 with q2|q2
  ·exact q2 (by simpa using eh)
  ·exact q2 (by simpa using ek)
 ·subst z;rw[em]at hM;exact(zJp T _).mp hM (by simp)
 ·exact(zJp T _).mp hM (al M z)
def zRi{κ:Addr->D}{es:Array (Int × Value)}{Q:Bool->Shared->Prop}(hdp:dp+1<=8)(hu:A.units+(dp+1)<cLine)(hS:IsS dp κ s.heap S es b)(hk:EA s.heap dp (κ x) x)(hn:es.size<1200)
  (h1:(∃e∈es.toList,kv κ e=κ x)->Q false s) (h2:∀h' es',Heap.SameBut S s.heap h'->IsS dp κ h' S es' b->es'.toList.Perm ((hD (κ x),.ref x)::es.toList)->Q true { s with heap:=h' }):
  ∀f,wpAny (model prog w) A (setAddHashedIn S (.ref x) (hD (κ x)) (f+1)) Q E s:=by
 intro f;obtain⟨ep,t,ho,T,he,C,nd⟩:=hS;unfold setAddHashedIn;refine xc (uv ho rfl (Tab.ft T) ?_);dsimp only;have eb:byScan (.ref x) es=false:=by unfold byScan;rfl
 rw[eb];rw[xg (by decide)];obtain⟨m,hm,fr⟩:=T.start (hD (κ x));refine xc (search hdp hu ho T hk he (λq=>?_) (λM hM seen=>?_) 100000 m 0 none (vK hm T.turns) hm rfl (λm' h=>by nofun) fr)
 ·exact xh (h1 q)
 ·have fk:=zQb T he C hM seen;have alM:∀m',m'<M->(adv t m' (t.probeStart (hD (κ x)))).j∈t.place.toList:=λm' h=>by
   obtain⟨i,_,q,_⟩:=seen m' h;exact zXh T q
  obtain⟨C1,ep2⟩:=zWe T (hs:=es.toList.map (·.1)) (by simp) C hM rfl alM;have TP:=T.put hM;generalize (adv t M (t.probeStart (hD (κ x)))).j=j at TP C1 ep2 ⊢;dsimp only;refine xc (uv ho rfl (Tab.ft T) ?_);dsimp only;generalize ePT:t.put j=PT at TP C1 ep2;obtain⟨t1,p⟩:=PT;dsimp only at TP C1 ep2 ⊢;rw[TP.plain];rw[xf rfl];refine xc (zMb (dp+1) 8 hk hdp ?_);rw[xf rfl];generalize ehx:hD (κ x)=hx at C1 h2 ⊢;have pm:=ins_perm es p (hx,Value.ref x);have sz:=zM2 es p (hx,Value.ref x);have C2:Chs t1 ((SetTable.insertAt es p (hx,Value.ref x)).toList.map (·.1)):=by rw[zFy,vn,xr,List.map_take,List.map_drop];exact C1
  generalize SetTable.insertAt es p (hx,Value.ref x)=es1 at pm sz C2 ⊢;have nd1:(es1.toList.map (kv κ)).Nodup:=by refine(pm.map (kv κ)).nodup_iff.mpr ?_;rw[xr];exact vJ.mpr ⟨fk,nd⟩
  refine xc (wpAny_storeSet_of ho rfl ?_ (by rw[sz,vC];lia));have hg:(s.heap.update S (Obj.putSet es1 t1)).get? S=some (sObj es1 (ep+1) t1):=uh (Obj.putSet es1 t1) ho rfl;have sb:=vS s.heap S (Obj.putSet es1 t1);have he1:Els dp κ (s.heap.update S (Obj.putSet es1 t1)) es1:=λe hm=>by
   rcases xp.mp (pm.mem_iff.mp hm)with rfl|hm
   ·exact Els.keeps (es:=#[(hx,Value.ref x)]) (λe hm=>by
     have:e=(hx,Value.ref x):=by simpa using hm
     subst this;exact⟨x,rfl,hk,ehx.symm⟩) ho sb _ (by simp)
   ·exact Els.keeps he ho sb e hm
  rw[<- sz]at TP;by_cases c:t1.tooFull=true
  ·rw[xf (by rw[c];rfl)];unfold setRelay;refine xc (xc (uv (s:={ s with heap:=s.heap.update S (Obj.putSet es1 t1) }) hg rfl (TabP.ft TP) ?_));dsimp only;obtain⟨hl,t2,order,er,T2,po,C3⟩:=zOh TP c (by nofun) (es1.map (·.1)) (by simp);rw[<- sz];rw[xg (by simpa using hl)];rw[er];have pe:(order.filterMap (es1[·]?)).toList.Perm es1.toList:=by
    rw[Array.toList_filterMap];refine(po.filterMap _).trans ?_;have:=filterMap_getElem?_range es1;rw[this]
   have zz:(order.filterMap (es1[·]?)).size=es1.size:=by rw[<- vf,pe.length_eq,vf]
   have C4:Chs t2 ((order.filterMap (es1[·]?)).toList.map (·.1)):=by
    have e5:(order.filterMap (es1[·]?)).toList.map (·.1)=order.toList.map λk=>(es1.map (·.1)).toList.getD k 0:=by
     rw[Array.toList_filterMap];have al:∀k∈order.toList,k<es1.size:=λk hk=>vi.mp (po.mem_iff.mp hk)
     clear C3 po er pe zz
     generalize order.toList=l at al;induction l with
     | nil=>rfl
     | cons k l ih=>
      have hk:=al k (.head _);rw[uH,vm hk];simp only[xr];rw[ih λk hk=>al k (.tail _ hk)];congr 1;simp[hk]
    rw[e5];exact C3
   refine xc ?_;show wpAny _ _ (if((order.filterMap (es1[·]?)).size != es1.size)=true then _ else pure (order.filterMap (es1[·]?),t2)) _ _ _;rw[xg (by simp[zz])];refine xh ?_;dsimp only;generalize order.filterMap (es1[·]?)=es2 at pe zz C4 ⊢;refine wpAny_storeSet_of hg rfl ?_ (by rw[zz,sz,vC];lia);have hg2:((s.heap.update S (Obj.putSet es1 t1)).update S (Obj.putSet es2 t2)).get? S=some (sObj es2 (ep+1+1) t2):=uh (Obj.putSet es2 t2) hg rfl;have sb2:=vS (s.heap.update S (Obj.putSet es1 t1)) S (Obj.putSet es2 t2);refine xh (h2 _ es2 (sb.trans sb2) ⟨_,_,hg2,by rw[zz];exact T2,?_,C4,(pe.map (kv κ)).nodup_iff.mpr nd1⟩ (pe.trans pm));exact Els.keeps (λe hm=>he1 e (pe.mem_iff.mp hm)) hg sb2
  ·rw[xg (by simpa using c)];exact xh (h2 _ es1 sb ⟨_,_,hg,TP.tab (by simpa using c),he1,C2,nd1⟩ pm)
def add{κ:Addr->D}{es:Array (Int × Value)}{Q:Bool->Shared->Prop}(hdp:dp+1<=8)(hu:A.units+(dp+1)<cLine)(hS:IsS dp κ s.heap S es b)(hk:EA s.heap dp (κ x) x)(hn:es.size<1200)
  (h1:∀tk,s.toks<=tk->(∃e∈es.toList,kv κ e=κ x)->Q false { s with toks:=tk }) (h2:∀h' es' tk hx,s.toks<=tk->Heap.SameBut S s.heap h'->IsS dp κ h' S es' b->es'.toList.Perm ((hx,.ref x)::es.toList)->Q true { s with heap:=h',toks:=tk }):wpAny (model prog w) A (setAdd S (.ref x)) Q E s:=by
 unfold setAdd;refine xP (xc (zQg (dp+1) hk hu λtk htk=>?_));unfold setAddHashed;refine xP ?_;exact zRi (s:={ s with toks:=tk }) hdp hu hS hk hn (λq=>h1 _ htk q) (λh' es' sb i p=>h2 h' es' _ _ htk sb i p) 99999
end
open TS (nObj zGd zLi)
section
variable {prog:Program}{w:World}{A:Around}{R:Result->Shared->Prop}{I:Addr}{fp wr:List Addr}{G:Array GenState->Array GenState->Prop}{n:Nat}{P:Nat->Value->Prop}{St:Nat->Shared->Prop}{dp:Nat}
def Met(n:Nat)(P:Nat->Value->Prop)(es:Array (Int × Value)):Prop:=∀e∈es.toList,∃j,j<n/\P j e.2
def IsS.moved{κ:Addr->D}{h h':Heap}{S:Addr}{es:Array (Int × Value)}{b:Bool}{bad:List Addr}(i:IsS dp κ h S es b)(hS:S ∉ bad)(k:∀c o,c ∉ bad->h.get? c=some o->h'.get? c=some o)(hb:∀c∈bad,∀o,h.get? c=some o->o.cls≠.type "tuple"):IsS dp κ h' S es b:=by obtain⟨ep,t,ho,T,he,C,nd⟩:=i;refine⟨ep,t,k _ _ hS ho,T,λe hm=>?_,C,nd⟩;obtain⟨c,e1,q,e2⟩:=he e hm;exact⟨c,e1,q.kept λb o eb et=>k _ _ (λz=>hb b z o eb et) eb,e2⟩
def Cov(κ:Addr->D)(n:Nat)(P:Nat->Value->Prop)(es:Array (Int × Value)):Prop:=∀j v,j<n->P j v->∃e∈es.toList,kv κ e=κ (adr v)
def loop{κ:Addr->D}(W:WalksS prog w A.in1 I fp wr G n P St)(S:Addr)(hSf:S ∉ fp)(hdp:dp+1<=8)(hu:A.in1.units+(dp+1)<cLine)(h0:Heap)(hP:∀i v,P i v->∃a,v=.ref a/\EA h0 dp (κ a) a)(hbad:∀c∈S::wr,∀o,h0.get? c=some o->o.cls≠.type "tuple")(hPf:∀i v v',P i v->P i v'->v=v')(hn:n<=1199){led:Bool}
  (hwr:∀i s,St i s->∀c∈wr,∀o,s.heap.get? c=some o->o.cls≠.type "tuple"):
  ∀(k i:Nat) (s:Shared) (es:Array (Int × Value)),n-i=k->i<=n->St i s->IsS dp κ s.heap S es led->es.size<=i->Met n P es->Cov κ i P es->(∀c o,c ∉ S::wr->h0.get? c=some o->s.heap.get? c=some o)->
   (∀s' es',Moved (S::wr) G s s'->IsS dp κ s'.heap S es' led->es'.size<=n->Met n P es'->Cov κ n P es'->R (.ok (.ret .none)) s')->
   codeAny (model prog w) A (.builtin "set.update.loop" ⟨[.ref S,.ref I],[]⟩) R s:=by
 have hSw:S ∉ wr:=λh=>hSf (W.sub _ h)
 have sub:∀b∈wr,b∈S::wr:=λb hb=>.tail _ hb
 intro k;induction k with
 | zero=>
  intro i s es hk hi hst hS hz hM hC hkp hR;obtain rfl:i=n:=by nofun
  refine uu PyProof.Rows.F.entry_set_update_loop ?_;rw[yA yT _];show wpAny _ A.in1 (pyNext (.ref I) >>= _) _ _ s;refine xc (W.done s _ _ hst λs' hm=>?_);show wpAny _ A.in1 (ret Value.none) _ _ s';exact xh (hR s' es (hm.mono sub) (IsS.moved hS hSw hm.heap (hwr _ _ hst)) hz hM hC)
 | succ k ih=>
  intro i s es hk hi hst hS hz hM hC hkp hR;have hlt:i<n:=by nofun
  refine uu PyProof.Rows.F.entry_set_update_loop ?_;rw[yA yT _];show wpAny _ A.in1 (pyNext (.ref I) >>= _) _ _ s;refine xc (W.item i s _ _ hlt hst λv s' hp hst' hm=>?_);obtain⟨a,rfl,hq⟩:=hP i v hp;have hk':EA s'.heap dp (κ a) a:=hq.kept λb o eb et=>by
   have hb:b ∉ S::wr:=λz=>hbad b z o eb et
   exact hm.heap b o (λz=>hb (sub b z)) (hkp b o hb eb)
  have hS':=IsS.moved hS hSw hm.heap (hwr _ _ hst);show wpAny _ A.in1 (holding [Value.ref a] (setAdd S (.ref a)) >>= _) _ _ s';refine xc (xP (add hdp hu hS' hk' (by nofun) (λtk htk there=>?_) (λh' es' tk hx htk sb i' pm=>?_)))
  ·refine xh ⟨yd yT _,ih (i+1) { s' with toks:=tk } es (by nofun) hlt (W.frame _ s' s'.heap tk hst' htk λ_ _ _ e=>e) hS' (by nofun) hM (λj v' hj hv'=>?_) (λc o hc e=>hm.heap c o (λz=>hc (sub c z)) (hkp c o hc e)) λs2 es2 m2 i2 z2 w2 c2=>?_⟩
   ·rcases vE j i with z|z
    ·exact hC j v' z hv'
    ·have:j=i:=by nofun
     subst this;rw[hPf _ _ _ hv' hp];exact there
   ·exact hR s2 es2 (Moved.trans W.gtrans ((hm.mono sub).then_heap (h':=s'.heap) htk λ_ _ _ e=>e) m2) i2 z2 w2 c2
  ·have hsz:es'.size=es.size+1:=by have:=pm.length_eq;simpa using this
   refine xh ⟨yd yT _,ih (i+1) { s' with heap:=h',toks:=tk } es' (by nofun) hlt (W.frame _ s' h' tk hst' htk λc hc o e=>?_) i' (by nofun) (λe he=>?_) (λj v' hj hv'=>?_) (λc o hc e=>?_) λs2 es2 m2 i2 z2 w2 c2=>?_⟩
   ·rw[sb.2 c λz=>hSf (z ▸ hc)];exact e
   ·rcases xp.mp (pm.mem_iff.mp he)with rfl|he
    ·exact⟨i,hlt,hp⟩
    ·exact hM e he
   ·rcases vE j i with z|z
    ·obtain⟨e,he,ek⟩:=hC j v' z hv';exact⟨e,pm.mem_iff.mpr (vp _ he),ek⟩
    ·have:j=i:=by nofun
     subst this;rw[hPf _ _ _ hv' hp];exact⟨(hx,.ref a),pm.mem_iff.mpr xY,rfl⟩
   ·rw[sb.2 c λz=>hc (z ▸ xY)];exact hm.heap c o (λz=>hc (sub c z)) (hkp c o hc e)
   ·refine hR s2 es2 (Moved.trans W.gtrans ((hm.mono sub).then_heap (h':=h') htk λc o hc e=>?_) m2) i2 z2 w2 c2;rw[sb.2 c λz=>hc (z ▸ xY)];exact e
end
section
variable {prog:Program}{w:World}{A:Around}{E:Value->Shared->Prop}{s:Shared}{dp:Nat}
def zRt{κ:Addr->D}{items:Array Value}{Q:Value->Shared->Prop}(hh:A.handled=none)(hl:s.heap.IsList l items)(hdp:dp+1<=8)(hu:A.units+20<cLine)(hn:items.size<=1199)
  (hk:∀v∈items.toList,∃a,v=.ref a/\EA s.heap dp (κ a) a)
  (h:∀(h':Heap) (tk:Nat) (es:Array (Int × Value)),IsS dp κ h' s.heap.objs.size es (zGd w)->es.size<=items.size->(∀e∈es.toList,e.2∈items.toList)->(∀v∈items.toList,∃e∈es.toList,kv κ e=κ (adr v))->
   (∀b o,b<s.heap.objs.size->s.heap.get? b=some o->h'.get? b=some o)->Q (.ref s.heap.objs.size) { s with heap:=h',toks:=tk }):
  wpAny (model prog w) A (call (.type "set") [.ref l]) Q E s:=by
 obtain⟨cc,tl,hmro⟩:=uD.mro;have hmade:=uD.made;have hsub:=uD.sub;refine wpAny_call (codeAny_of_tree (show wpAny _ _ (callAny (.type "set") _) _ _ _ from ?_));refine xh ⟨Code.quiet_builtin _ (by decide +kernel),uu F.entry_type_call ?_⟩;rw[Around.under_plain (weight_type_call_type "set" [.ref l] []) rfl];have h1:=uD.notType;have h2:=uD.canCreate;have hct:=F.typeCall_set_1 (.ref l)
 repeat (any_goals (first|assumption|wp_step))
 refine codeAny_mono (zLi (.ref l) (E:=E) (Q₁:=λobj s₁=>obj=.ref s.heap.objs.size/\s₁={ s with heap:=s.heap.push (nObj w) }) ⟨rfl,rfl⟩) λr s₁ hr=>?_
 cases r with
 | error e=>exact hr
 | ok fl=>
  cases fl with
  | ret obj=>
   obtain⟨rfl,rfl⟩:=hr;have hS:(s.heap.push (nObj w)).get? s.heap.objs.size=some (nObj w):=xy _ rfl;have hT:Shared.TypeIs { s with heap:=s.heap.push (nObj w) } (.ref s.heap.objs.size) "set":=⟨_,hS,rfl⟩;have hli:=uD.init.lookup;have hbi:=uD.init.bind (.ref s.heap.objs.size)
   repeat (any_goals (first|assumption|wp_step))
   refine codeAny_mono (codeAny_call_builtin (R:=wants (λr s₂=>r=.none/\∃h' tk es,s₂={ s with heap:=h',toks:=tk }/\IsS dp κ h' s.heap.objs.size es (zGd w)/\es.size<=items.size/\(∀e∈es.toList,e.2∈items.toList)/\(∀v∈items.toList,∃e∈es.toList,kv κ e=κ (adr v)) /\
     (∀b o,b<s.heap.objs.size->s.heap.get? b=some o->h'.get? b=some o)) E) uD.init.plain F.entry_set_init (check_set_init_1 hT ?_)) λr₂ s₂ hr₂=>?_
   ·have hlt:l<s.heap.objs.size:=by obtain⟨o,ho,_⟩:=hl;exact xo ho
    have hl1:(s.heap.push (nObj w)).IsList l items:=hl.push _;have hTl:Shared.TypeIs { s with heap:=s.heap.push (nObj w) } (.ref l) "list":=by obtain⟨o,ho,hc,_⟩:=hl1;exact⟨o,ho,hc⟩
    have q1:=F.sub_list_set;have q2:=F.sub_list_frozenset;have q3:(Value.type "list" == Value.type "dict")=false:=by decide
    unfold Builtin.«set.__init__» noKeywords Builtin.Frozenset.updateFrom;generalize hPI:pyIter=PI
    wp_walk
    subst hPI;refine uR hl1 (xc (wpAny_runValue ?_));have hs2:(s.heap.push (nObj w)).objs.size=s.heap.objs.size+1:=by rw[ua]
    have hneI:l≠(s.heap.push (nObj w)).objs.size:=by rw[hs2];exact xu (yq hlt)
    have hh3:A.in1.in1.in1.handled=none:=by simp[hh]
    have key:∀(i:Nat) (v:Value),items[i]?=some v->∃a,v=.ref a/\EA s.heap dp (κ a) a:=λi v hv=>hk v (by obtain⟨z,e⟩:=vZ.mp hv;rw[<- e];simp)
    have bad:∀c∈s.heap.objs.size::[(s.heap.push (nObj w)).objs.size],∀o,s.heap.get? c=some o->o.cls≠.type "tuple":=λc hc o e=>by
     have:=xo e;rw[hs2]at hc;rcases xp.mp hc with rfl|hc
     ·exact absurd this (vy _)
     ·rw[xE.mp hc]at this;exact absurd this (Nat.not_lt.mpr (Nat.le_succ _))
    have kp:∀c o,s.heap.get? c=some o->((s.heap.push (nObj w)).push { cls:=.type "list_iterator",data:=.fields #[.ref l,.int 0 0] }).get? c=some o:=λc o e=>xq _ (xq _ e)
    refine loop (h0:=s.heap) (led:=zGd w) ((Walks.list hh3 _ l hneI items).toS) s.heap.objs.size ?nA hdp (by show A.units+1+1+1+(dp+1)<cLine;lia) key bad (λi v v' q q'=>xN (q.symm.trans q')) hn ?nB (items.size-0) 0 _ #[] (by nofun) (xV _) ⟨⟨_,xy _ rfl,rfl,rfl⟩,hl1.push _⟩
     ⟨0,_,xq _ hS,zQa _,(λe he=>by cases he),(λq hq=>by cases hq),v8⟩ (xV _) (λe he=>by cases he) (λj v hj=>by nofun) (λc o _ e=>kp c o e) ?nD
    case nA=>
     rw[hs2];simp;exact uJ hlt
    case nB=>
     rintro i s' ⟨⟨o,ho,hc,_⟩,_⟩ c hcm o' ho';have:c=(s.heap.push (nObj w)).objs.size:=by simpa using hcm
     subst this;rw[ho]at ho';cases ho';rw[hc];decide
    case nD=>
     intro s' es' mv i' z' m' c';obtain⟨h',g',d',tk',os'⟩:=s';have eg:g'=s.gens:=mv.gens;have ed:d'=s.drawn:=mv.drawn;have eo:os'=s.os:=mv.os;subst eg ed eo;refine xh (show wpAny _ _ (ret Value.none) _ _ _ from xh ⟨rfl,h',tk',es',rfl,i',z',λe he=>?_,λv hv=>?_,λb o hb e=>?_⟩)
     ·obtain⟨j,hj,hp⟩:=m' e he;obtain⟨z,e2⟩:=vZ.mp hp;rw[<- e2];simp
     ·obtain⟨j,hj,e2⟩:=uj.mp hv;exact c' j v (by simpa using hj) (by rw[<- e2];simp)
     ·refine mv.heap b o ?_ (kp b o e);rw[hs2];simp only[xp,uV,or_false,not_or];exact⟨xu hb,xu (yq hb)⟩
   ·cases r₂ with
    | error e=>exact hr₂
    | ok fl₂=>
     cases fl₂ with
     | ret r=>
      obtain⟨rfl,h',tk,es,rfl,i1,i2,i3,i4,i5⟩:=hr₂
      repeat (any_goals (first|assumption|wp_step))
      exact h _ _ _ i1 i2 i3 i4 i5
     | _=>exact hr₂.elim
  | _=>exact hr.elim
end
end TU
namespace DS
open PySem (Str)
section
open Classical
def sortable(l:List D):Prop:=l.length<=2 ^ 20/\∃n,n<=6/\∀x∈l,lv n x
noncomputable def zBr (S:Store):List D->Option D
 | [d]=>match items S d with
  | some l=>if sortable l then some (.lst (srt l))else none
  | none=>none
 | _=>none
def setable(l:List D):Prop:=l.length<=1199/\∃n,n+1<=6/\∀x∈l,lv (n+1) x
noncomputable def intB (_:Store):List D->Option D
 | [.int i]=>some (.int i)
 | [.bl b]=>some (.int (if b then 1 else 0))
 | _=>none
end
end DS
namespace L2
open PySem PySem.Spec PyProof.Rows EK
open DS (D Store Exn Rs SR lv srt)
section
variable {X:Cx}{K:PySem.W.Frag}{E:XE}{J:Js}{S:Store}{H:Hp}{d d1 d2:D}{v:V}{pins:List (Addr × Obj)}{σ:St}{s:Shared}
def zQf(I:Inv X pins σ H s):∀(n:Nat) {d:D}{v:V}{u:Value},lv n d->Rep K J H d v->RelV v u->Ek s.heap n d u
 | 0,_,v,u,⟨i,e⟩,r,q=>by
  subst e;obtain rfl:v=.int i:=r;obtain⟨t,rfl⟩:=q;exact⟨i,t,rfl,rfl⟩
 | n+1,_,v,u,⟨l,e,hl⟩,r,q=>by
  subst e;obtain⟨a,xs,rfl,t,rl⟩:=r;cases q;obtain⟨_,its,rv,o,ho,hc,k,hd⟩:=(show ObjOk X.prog X.w H s.heap a (.tup xs)from I.hok _ _ t.1);refine⟨l,a,o,_,k,rfl,rfl,ho,hc,hd,?_⟩;have go:∀(l:List D) (xs:List V) (its:List Value),(∀x∈l,lv n x)->RepL K J H l xs->Vals xs its->A2 (Ek s.heap n) l its:=by
   intro l;induction l with
   | nil=>intro xs its _ rl rv;obtain rfl:xs=[]:=rl;cases rv;exact .nil
   | cons d l ih=>
    intro xs its hl rl rv;obtain⟨x,r,rfl,h,rl⟩:=rl;cases rv with
    | cons q rv=>exact .cons (zQf I n (hl d (.head _)) h q) (ih _ _ (λy hy=>hl y (.tail _ hy)) rl rv)
  simpa using go l xs its hl rl rv
def zGk(I:Inv X pins σ H s){n:Nat}:∀{l:List D}{xs:List V}{us:List Value},(∀x∈l,lv n x)->RepL K J H l xs->Vals xs us->A2 (Ek s.heap n) l us
 | [],xs,us,_,rl,rv=>by obtain rfl:xs=[]:=rl;cases rv;exact .nil
 | d::l,_,_,hl,⟨x,r,e,h,rl⟩,rv=>by
  subst e;cases rv with
  | cons q rv=>exact .cons (zQf I n (hl d (.head _)) h q) (zGk I (λy hy=>hl y (.tail _ hy)) rl rv)
def zOg(rl:RepL K J H l xs)(rv:Vals xs us):∀u∈us,∃d x,d∈l/\Rep K J H d x/\RelV x u:=by
 induction l generalizing xs us with
 | nil=>obtain rfl:xs=[]:=rl;cases rv;intro u hu;cases hu
 | cons d l ih=>
  obtain⟨x,r,rfl,h,rl⟩:=rl;cases rv with
  | cons q rv=>
   intro u hu;rcases xp.mp hu with rfl|hu
   ·exact⟨d,x,.head _,h,q⟩
   ·obtain⟨d',x',m,r1,r2⟩:=ih rl rv u hu;exact⟨d',x',.tail _ m,r1,r2⟩
def back{h h':Heap}(hk:A2 (Ek h n) l us)(kp:∀b o,h.get? b=some o->h'.get? b=some o)(rl:RepL K J H l xs)(rv:Vals xs us)
  (hl:∀x∈l,lv n x) (ek:∀d x u,d∈l->Rep K J H d x->RelV x u->Ek h n d u):∀{m:List D}{vs:List Value},A2 (Ek h' n) m vs->(∀u∈vs,u∈us)->∃ys,RepL K J H m ys/\Vals ys vs
 | [],_,.nil,_=>⟨[],rfl,.nil⟩
 | d::m,_,.cons (b:=u) q r,hm=>by
  obtain⟨ys,r1,r2⟩:=back hk kp rl rv hl ek r λu hu=>hm u (.tail _ hu)
  obtain⟨d',x,mem,rx,rq⟩:=zOg rl rv u (hm u (.head _));have e:=((ek d' x u mem rx rq).kept λb o e _=>kp b o e).inj q;subst e;exact⟨x::ys,⟨x,ys,rfl,rx,r1⟩,.cons rq r2⟩
def zAx(hu:X.A.units+64<cLine)(hK:X.K=K:=by rfl):zBl X (.builtin "sorted") (cOfF K DS.zBr):=by
 subst hK;intro pins s σ H xs us Q I r hq33;obtain⟨J,S,ds,d,ha,rl,e,k⟩:=hq33;unfold DS.zBr at e;split at e
 ·rename_i d0;obtain⟨x,rfl,rx⟩:=zCs (ds:=[]) rl;cases e1:DS.items S d0 with
  | none=>rw[e1]at e;cases e
  | some l=>
   rw[e1]at e;dsimp only at e;split at e
   ·rename_i hs;cases e;obtain⟨hz,n,hn,hl⟩:=hs;obtain⟨a,ys,rfl,hq,q⟩:=zFx ha rx e1;obtain⟨u,rfl,ru⟩:=vals1 r;cases ru;have src:∃(o:Obj) (its:List Value) (c:Nat) (T:String),s.heap.get? a=some o/\o.cls=.type T/\(T="list"\/T="tuple")/\o.data=.seq its.toArray c/\Vals ys its/\its.length<=sizeLine:=by
     rcases hq with hq|hq
     ·obtain⟨its,rv',pl,hz'⟩:=I.list hq;obtain⟨o,ho,hc,c,hd⟩:=pl.isList;exact⟨o,its,c,"list",ho,hc,.inl rfl,hd,rv',by rw[<- Vals.length rv'];exact hz'⟩
     ·obtain⟨its,rv',pl,hz'⟩:=I.tuple hq;obtain⟨o,ho,hc,c,hd⟩:=pl;exact⟨o,its,c,"tuple",ho,hc,.inr rfl,hd,rv',by rw[<- Vals.length rv'];exact hz'⟩
    obtain⟨o,its,c,T,ho,hc,hT,hd,rv',hz'⟩:=src;have hk:=zGk (J:=J) (K:=X.K) I hl q rv';refine EK.zG5 (n:=n) (m:=s.heap.objs.size) (G:=λds vs=>ds=l/\vs=its) (by nofun) (λR hR=>zYm ho hc hT hd hz' λh' sz kp=>hR h' s.toks l its sz kp (hk.imp λ_ _ z=>z.kept λb o e _=>kp b o e) (by rw[<- hk.length];exact hz) ⟨rfl,rfl⟩) λds vs vs' c tk h' L hg hz2 pm a2 hL kp hD=>?_
    obtain⟨rfl,rfl⟩:=hg;obtain⟨zs,r1,r2⟩:=back hk kp q rv' hl (λd x u m rx ru=>zQf I n (hl d m) rx ru) a2 λu hu=>pm.mem_iff.mp hu
    have len:zs.length<=sizeLine:=by rw[Vals.length r2,pm.length_eq];exact hz'
    exact⟨.ref L,_,I.laid (t':=tk) kp hL (show ObjOk X.prog X.w _ h' _ (.lst zs)from⟨len,_,c,r2,hD⟩),rfl,k L _ H ha .refl (I.hok.fresh hL) ⟨zs,rfl,r1⟩⟩
   ·cases e
 ·cases e
end
open TU
open TS (sObj zGd adr ordW zEk zD1 zKi Tab.ft)
open DS (dedup)
section
variable {X:Cx}{K:PySem.W.Frag}{E:XE}{J:Js}{S:Store}{H:Hp}{d d1 d2:D}{v:V}{pins:List (Addr × Obj)}{σ:St}{s:Shared}
structure SGood (K:PySem.W.Frag) (J:Js) (H:Hp) (κ:Addr->D) (es:Array (Int × Value)) (l:List D):Prop where
 mem:∀d,d∈es.toList.map (kv κ) <-> d∈l
 rep:∀e∈es.toList,∃x,Rep K J H (kv κ e) x/\RelV x e.2
def zYl{prog:Program}{A:Around}{EE:Value->Shared->Prop}{κ:Addr->D}{es:Array (Int × Value)}{R:List Value->Shared->Prop}(hh:A.handled=none)(hS:IsS dp κ s.heap T es (zGd w))(hz:es.size<=sizeLine)
  (h:∀(h':Heap) (tk:Nat) (vs:List Value),(∀b o,s.heap.get? b=some o->h'.get? b=some o)->vs.Perm (es.toList.map (·.2))->A2 (Ek h' (dp+1)) (vs.map λv=>κ (adr v)) vs->R vs { s with heap:=h',toks:=tk }):wpAny (model prog w) A (collect (.ref T)) R EE s:=by
 obtain⟨ep,t,ho,Tb,he,_,nd⟩:=hS;refine PySem.W.kdu_collect (zKi Tb) hh ho hz λh' tk acc kp it=>?_
 have ea:acc.toList=((ordW w T ep es).map (·.2)).toList:=by
  refine yu λi=>?_
  rcases vE i acc.size with z|z
  ·have e1:=it.2 i acc[i] (vm z);rw[vM,vm z,vM,e1]
  ·rw[vF (by simpa using z),vF (by simp[zD1];rw[<- it.1];exact z)]
 have pm:acc.toList.Perm (es.toList.map (·.2)):=by rw[ea,Array.toList_map];exact(zEk w T ep es).map _
 refine h h' tk acc.toList kp pm ?_;have al:∀v∈acc.toList,∃b,v=.ref b/\EA s.heap dp (κ b) b:=λv hv=>by
  obtain⟨e,hm,rfl⟩:=xt.mp (pm.mem_iff.mp hv);obtain⟨b,e1,q,_⟩:=he e hm;exact⟨b,e1,q⟩
 generalize acc.toList=vs at al
 clear pm ea
 induction vs with
 | nil=>exact .nil
 | cons v vs ih=>
  obtain⟨b,rfl,q⟩:=al v (.head _);exact .cons (Ek.kept q λb o e _=>kp b o e) (ih λu hu=>al u (.tail _ hu))
def zVw{A:Around}{EE:Value->Shared->Prop}{dp:Nat}{κ:Addr->D}{es:Array (Int × Value)}{l:List D}{Q:VK}(I:Inv X pins σ H s1)(hh:A.handled=none)(hu:A.units+20<cLine)(hS:IsS dp κ s.heap T es (zGd X.w))(hdp:dp+1<=6)
  (k1:∀b o,s1.heap.get? b=some o->s.heap.get? b=some o) (e1:s={ s1 with heap:=s.heap,toks:=s.toks }) (hT:s1.heap.objs.size<=T) (hz:es.size<=2 ^ 20) (g:SGood K J H κ es l) (hl:∀x∈l,lv (dp+1) x)
  (h:∀(L:Addr) (zs:List V),H L=none->RepL K J H (srt (dedup l)) zs->Q (.ref L) (upd H L (.lst zs))):wpAny (model X.prog X.w) A (call (.builtin "sorted") [.ref T]) (EP X pins σ Q) EE s:=by
 have nd:=hS;obtain⟨_,_,hoT,_,he,_,nd⟩:=nd;refine EK.zG5 (n:=dp+1) (m:=T+1) (G:=λds vs=>vs.Perm (es.toList.map (·.2))/\ds=vs.map λv=>κ (adr v)) (by nofun) (λR hR=>zYl (A:=A.in1) hh hS (by rw[vC];lia) λh' tk vs kp pm a2=>hR h' tk _ vs (xo (kp T _ hoT)) kp a2 (by rw[pm.length_eq];simpa using hz) ⟨pm,rfl⟩) λds vs vs' c tk h' L hg hz2 pm a2 hL kp hD=>?_
 obtain⟨pv,rfl⟩:=hg;have pd:(vs.map λv=>κ (adr v)).Perm (dedup l):=by
  have p1:(vs.map λv=>κ (adr v)).Perm (es.toList.map (kv κ)):=by
   have:=pv.map λv=>κ (adr v)
   rw[xH]at this;exact this
  refine p1.trans (DS.zXa nd DS.zG1 λx=>?_);rw[g.mem,DS.mem_dedup]
 have es1:srt (vs.map λv=>κ (adr v))=srt (dedup l):=by
  have lv1:∀y∈vs.map (λv=>κ (adr v)),lv (dp+1) y:=λy hy=>hl y (DS.mem_dedup.mp (pd.mem_iff.mp hy))
  exact DS.zNw (λy hy=>lv1 y ((DS.zBx _).mem_iff.mp hy)) ((DS.zBx _).trans pd) (DS.zLg lv1)
 rw[es1]at a2;have src:∀u∈vs',∃d x,Rep K J H d x/\RelV x u/\Ek h' (dp+1) d u:=λu hm=>by
  obtain⟨e,he',rfl⟩:=xt.mp (pv.mem_iff.mp (pm.mem_iff.mp hm));obtain⟨x,rx,rq⟩:=g.rep e he';obtain⟨b,eb,q,_⟩:=he e he';refine⟨kv κ e,x,rx,rq,?_⟩;unfold kv;rw[eb];exact q.kept λb o e _=>kp b o e
 have bk:∀{m:List D}{vs:List Value},A2 (Ek h' (dp+1)) m vs->(∀u∈vs,u∈vs')->∃ys,RepL K J H m ys/\Vals ys vs:=by
  intro m vs a2;induction a2 with
  | nil=>exact λ_=>⟨[],rfl,.nil⟩
  | @cons d u m vs q _ ih=>
   intro hm;obtain⟨ys,r1,r2⟩:=ih λu hu=>hm u (.tail _ hu)
   obtain⟨d',x,rx,rq,q'⟩:=src u (hm u (.head _));have e:=q'.inj q;subst e;exact⟨x::ys,⟨x,ys,rfl,rx,r1⟩,.cons rq r2⟩
 obtain⟨zs,r1,r2⟩:=bk a2 λu hu=>hu
 have len:zs.length<=sizeLine:=by rw[Vals.length r2,pm.length_eq,pv.length_eq,vC];simp;lia
 have hL':s1.heap.objs.size<=L:=xm hT (Nat.le_of_succ_le hL);have I':Inv X pins σ (upd H L (.lst zs)) { s1 with heap:=h',toks:=tk }:=I.laid (t':=tk) (λb o e=>kp b o (k1 b o e)) hL' (show ObjOk X.prog X.w _ h' _ (.lst zs)from⟨len,_,c,r2,hD⟩);rw[e1];exact⟨.ref L,_,I',rfl,h L zs (I.hok.fresh hL') r1⟩
def zK0:zBl X (.type "int") (cOf K DS.intB):=by
 intro pins s σ H xs us Q I r hq34;obtain⟨J,S,ds,d,ha,rl,e,k⟩:=hq34;unfold DS.intB at e;split at e
 ·cases e;obtain⟨x,rfl,rx⟩:=zCs (ds:=[]) rl;obtain rfl:=rx;exact zK1 pins s σ H _ us Q I r (.inl ⟨_,rfl,k _ H ha .refl rfl⟩)
 ·cases e;obtain⟨x,rfl,rx⟩:=zCs (ds:=[]) rl;obtain rfl:=rx;exact zK1 pins s σ H _ us Q I r (.inr ⟨_,rfl,k _ H ha .refl rfl⟩)
 ·cases e
end
end L2
namespace DS
section
open Classical
noncomputable def trk (S:Store):D->Option (Bool × List D)
 | .tup l=>some (true,l)
 | .lst l=>some (false,l)
 | .ref n=>match S[n]? with
  | some (.lst l)=>some (false,l)
  | _=>none
 | _=>none
noncomputable def enW (b:Bool) (S:Store) (d:D):Option Walk:=match trk S d with
 | some (c,l)=>if c=b/\l.length<2 ^ 60 then some ⟨zFn l 0,gdOf S d⟩else none
 | none=>none
noncomputable def iEn (b:Bool) (a:EM):IM:=λenv S=>(a env S).bind λx S1=>lift (enW b S1 x) S1
def zMa:∀(l:List D) (n i:Nat),(zFn l n)[i]?=(l[i]?).map λd=>.tup [.int ((n+i:Nat):Int),d]
 | [],n,i=>by simp[zFn]
 | d::r,n,0=>by simp[zFn]
 | d::r,n,i+1=>by
  rw[zFn,u0,zMa r (n+1) i,u0,show n+1+i=n+(i+1) by nofun]
def zGj:∀(l:List D) (n:Nat),(zFn l n).length=l.length
 | [],_=>rfl
 | d::r,n=>by rw[zFn,xB,zGj r,xB]
end
end DS
namespace L2
open PySem PySem.Spec PyProof.Rows
open DS (D Store Exn Rs SR)
section
variable {X:Cx}{K:PySem.W.Frag}{E:XE}{J:Js}{S:Store}{H:Hp}{d d1 d2:D}{v:V}
def zO4(ha:AbS K J S H)(r:Rep K J H d v)(e:DS.trk S d=some (c,l)):∃a,v=.ref a/\∀J' H' S' gd,Grow J H J' H'->AbS K J' S' H'->(∀p∈DS.gdOf S d,p∈gd)->DS.gOk S' gd->∃ys,H' a=some (hoK c ys)/\RepL K J' H' l ys:=by
 cases d with
 | tup l=>cases e;obtain⟨a,xs,rfl,t,rl⟩:=r;exact⟨a,rfl,λJ' H' S' gd g _ _ _=>⟨xs,(t.grow g).1,RepL.grow g _ _ rl⟩⟩
 | lst l=>cases e;obtain⟨a,xs,rfl,t,rl⟩:=r;exact⟨a,rfl,λJ' H' S' gd g _ _ _=>⟨xs,(t.grow g).1,RepL.grow g _ _ rl⟩⟩
 | ref n=>
  obtain⟨a,ea,rfl⟩:=r;obtain⟨c',ec,o,eo,rc⟩:=ha.at ea;have e:(match S[n]? with|some (.lst l)=>some (false,l)|_=>none)=some (c,l):=e;rw[ec]at e;cases c' with
  | lst l'=>
   cases e;refine⟨a,rfl,λJ' H' S' gd g ha' sub ok=>?_⟩;have e':S'[n]?=some (.lst l):=ok (n,.lst l) (sub _ (by simp[DS.gdOf,ec]));obtain⟨o',eo',rc'⟩:=ha'.ob n a _ (g.pre n a ea) e';obtain⟨ys,rfl,rl'⟩:=rc';exact⟨ys,eo',rl'⟩
  | _=>cases e
 | _=>cases e
end
end L2
namespace TS
open PySem
def zYa{A:Around}(hh:A.handled=none)(b:Bool)(it l:Addr)(hne:l≠it)(items:Array Value):Draws prog w A it [it,l] items.size (λi v=>items[i]?=some v) (λi h=>KIt b h it l i/\KSq b h l items) where
 live:=λ_ _ st=>let ⟨o,ho,_⟩:=st.1;⟨o,ho⟩
 frame:=λ_ _ _ st hk=>⟨st.1.at λo e=>hk it (by simp) o e,st.2.at λo e=>hk l (by simp) o e⟩
 item:=λi s Q E hi st hQ=>next_item st.1 st.2 (x:=items[i]) (by simp[hi]) λh' hit' hs'=>hQ _ h' s.toks (by simp[hi]) ⟨hit',st.2.xb hs'.extBut hne⟩ hs'
 done:=λs Q E st hE=>next_end hh st.1 st.2 (by simp) hE
noncomputable abbrev enO (it:Addr):Obj:={ cls:=.type "enumerate",data:=.fields #[.none,.bool false,.ref it,rawInt 0,.none,.none] }
def yC1(b:Bool)(l:Addr)(xs:Array Value):Meets (Builtin.«enumerate.__new__» ⟨[.type "enumerate",.ref l],[]⟩) (λ_ R s=>KSq b s.heap l xs/\R (.ok (.ret (.ref (s.heap.push (itO b l)).objs.size))) { s with heap:=(s.heap.push (itO b l)).push (enO s.heap.objs.size) }):=
 .of_wp λprog w A R s h=>by
  obtain⟨hp,g,d,tk,os⟩:=s;obtain⟨q1,h⟩:=h;have hsub:=sub_enumerate;have L1:KSq b (Shared.heap ⟨hp,g,d,tk,os⟩) l xs:=q1
  wp_walk using zM0 L1
  refine wpAny_stack_any λst=>xh ?_
  split
  ·rename_i c _ _ _ _ _;cases(c == Value.type "enumerate")
   ·wp_walk using zM0 L1
    exact⟨_,rfl,h⟩
   ·wp_walk using zM0 L1
    exact⟨_,rfl,h⟩
  ·wp_walk using zM0 L1
   exact⟨_,rfl,h⟩
section
variable {prog:Program}{w:World}{A:Around}{E:Value->Shared->Prop}{s:Shared}
def zY5{Q:Value->Shared->Prop}(q1:KSq b s.heap l xs)
  (h:∀h',IsEnum h' (s.heap.objs.size+1) s.heap.objs.size 0 .none->KIt b h' s.heap.objs.size l 0->(∀c o,s.heap.get? c=some o->h'.get? c=some o)->Q (.ref (s.heap.objs.size+1)) { s with heap:=h' }):
  wpAny (model prog w) A (call (.type "enumerate") [.ref l]) Q E s:=by
 refine callType_new F.called_enumerate (by decide) (F.typeCall_enumerate_1 _) (F.newCall_enumerate_1 _) (λobj=>F.args_object_init_2 obj _) F.entry_enumerate_new (yC1 b l xs) ⟨q1,?_⟩;have z0:(s.heap.push (itO b l)).objs.size=s.heap.objs.size+1:=ua ..;have g2:((s.heap.push (itO b l)).push (enO s.heap.objs.size)).get? (s.heap.push (itO b l)).objs.size=some (enO s.heap.objs.size):=xy _ rfl;have g1:((s.heap.push (itO b l)).push (enO s.heap.objs.size)).get? s.heap.objs.size=some (itO b l):=xq _ (xy _ (by cases b <;> rfl));have gk:∀c o,s.heap.get? c=some o->((s.heap.push (itO b l)).push (enO s.heap.objs.size)).get? c=some o:=λc o x=>xq _ (xq _ x)
 show _/\_;rw[z0]at g2 ⊢;exact⟨⟨_,g2,rfl⟩,h _ g2 ⟨_,g1,rfl,rfl⟩ gk⟩
end
end TS
namespace L2
open PySem PySem.Spec PyProof.Rows TS
open DS (D Store Exn Rs SR)
noncomputable def Ite (b:Bool) (a:Addr):It:=
  ⟨λi H=>∃xs x,H a=some (hoK b xs)/\xs[i]?=some x,
   λi H v H'=>∃T xs x,v=.ref T/\H T=none/\H a=some (hoK b xs)/\xs[i]?=some x/\H'=upd H T (.tup [.int i,x]),
   λi H=>∃xs,H a=some (hoK b xs)/\xs.length<=i⟩
def zVn{P:Program}{w:World}{K:PySem.W.Frag}{es:List Expr}{k:Nat}{pos:Pos}(b:Bool)(a e it:Addr)(hei:e≠it):
  Turn P w K (.Tuple es k pos) (Ite b a) [e,it] e (λi h=>(∃old,IsEnum h e it i old)/\KIt b h it a i) where
 mem:=by simp
 obj:=λi h st c hc=>by
  obtain⟨⟨old,he⟩,o1,e1,c1,d1⟩:=st;simp only[xp,uV,or_false]at hc;rcases hc with rfl|rfl
  ·exact⟨_,he,λv z=>by cases z⟩
  ·exact⟨_,e1,λv z=>by rw[d1]at z;cases z⟩
 keep:=λi h h' st kk=>by
  obtain⟨⟨old,he⟩,h1⟩:=st;exact⟨⟨old,kk e (by simp) _ he⟩,h1.at λo x=>kk it (by simp) o x⟩
 item:=by
  intro X hP hw hK hc i pins s σ H E I hf st hg;subst hP hw hK;obtain⟨xs,x,ha,hx⟩:=hg;obtain⟨⟨old,he⟩,h1⟩:=st;obtain⟨its,rv,p1,z1⟩:=I.kSq ha;obtain⟨u,hu,ru⟩:=rv.get hx;have na:a ∉ [e,it]:=λm=>by rw[(hf a m).1]at ha;cases ha
  have nae:a≠e:=λz=>na (by simp[z])
  have nai:a≠it:=λz=>na (by simp[z])
  have hfr:H s.heap.objs.size=none:=I.hok.fresh (xi _);have elt:e<s.heap.objs.size:=xo he;have ilt:it<s.heap.objs.size:=by obtain⟨o,ho,_⟩:=h1;exact xo ho
  have hi:i<its.toArray.size:=by obtain⟨z,_⟩:=xO.mp hu;simpa using z
  refine wpAny_pyNext_enum_itemD (zYa (A:=X.A.in1) (I.ok.hd hc) b it a nai its.toArray) he ⟨h1,p1⟩ hi hei (λm=>by rcases xp.mp m with z|z;exact hei z;exact nae (xE.mp z).symm) λv h' tk pv ho st' hT hsz hk=>?_
  have ev:v=u:=by
   have:its.toArray[i]?=some u:=by simpa using hu
   rw[this]at pv;exact(xN pv).symm
  subst ev;refine⟨_,rfl,wpAny_letOwnedTupleGo_enum (s:={ s with heap:=h',toks:=tk+1 }) ho λh2' he' hs'=>?_⟩;have hT2:h2'.get? s.heap.objs.size=some { cls:=.type "tuple",data:=.seq #[.int i tk,v] }:=hs'.extBut _ _ (uJ elt) hT;refine⟨.ref s.heap.objs.size,upd H s.heap.objs.size (.tup [.int i,x]),I.turnedT (t':=tk+1) hf (λc o hc e=>?_) (xi _) ⟨by show 2<=sizeLine;decide,[.int i tk,v],.cons ⟨tk,rfl⟩ (.cons ru .nil),⟨_,hT2,rfl,_,rfl⟩⟩,rfl,⟨_,xs,x,rfl,hfr,ha,hx,rfl⟩,⟨⟨_,by simpa using he'⟩,st'.1.xb hs'.extBut (xv hei)⟩,λc hc=>?_⟩
  ·simp only[xp,uV,or_false,not_or]at hc;exact hs'.extBut _ _ hc.1 (hk _ _ hc.1 hc.2 e)
  ·have hn:=(hf c hc).1;have ne:c≠s.heap.objs.size:=by
    simp only[xp,uV,or_false]at hc;rcases hc with rfl|rfl
    ·exact xu elt
    ·exact xu ilt
   rw[zAi ne];exact hn
 done:=by
  intro X hP hw hK hc i pins s σ H E I hf st hg;subst hP hw hK;obtain⟨xs,ha,hx⟩:=hg;obtain⟨⟨old,he⟩,h1⟩:=st;obtain⟨its,rv,p1,z1⟩:=I.kSq ha;have na:a ∉ [e,it]:=λm=>by rw[(hf a m).1]at ha;cases ha
  have nai:a≠it:=λz=>na (by simp[z])
  have l1:=rv.length;unfold pyNext;have hT:s.TypeIs (.ref e) "enumerate":=⟨_,he,rfl⟩;refine xc (uw (vv (name:=Str.ofString "__next__") hT F.slot_enumerate_next (xK F.slot_enumerate_next hT F.entry_enumerate_next ?_ (F.args_enumerate_next_1 _))));refine(show wpAny _ _ (field (.ref e) 2 >>= _) _ _ _ from xc (vD he rfl (x:=.ref it) rfl (xc (next_end (I.ok.hd hc) h1 p1 (by simp;lia) λh' x he' hx'=>?_))));obtain⟨o,ho,hcl⟩:=hx';refine xc (ub (T:="StopIteration") (b:=true) ⟨o,ho,hcl⟩ isSubtype_stop ?_);exact xh ⟨rfl,I.turnedL (t':=s.toks) hf λc o hc e=>he' _ _ (λz=>hc (by simp[z])) e⟩
 self:=λ_ _ _ _ _ st h=>wpAny_pyIter_enum st.1.choose_spec h
section
variable {X:Cx}{K:PySem.W.Frag}{E:XE}{J:Js}{S:Store}{H:Hp}
def yD3{gd:List (Nat × D)}(h1:∀J' H' S',Grow J H J' H'->AbS K J' S' H'->DS.gOk S' gd->∃ys,H' a=some (hoK b ys)/\RepL K J' H' l ys):ItOk K J H ⟨DS.zFn l 0,gd⟩ (Ite b a) where
 go:=λi H' J' S' ha g gd hi=>by
  obtain⟨xs,q1,r1⟩:=h1 J' H' S' g ha gd;have hi':i<l.length:=by rw[DS.zGj]at hi;exact hi
  exact⟨xs,xs[i]'(by rw[<- r1.length];exact hi'),q1,xG _⟩
 yld:=λi H' J' S' x H'' ha g gd yl d ed=>by
  obtain⟨T,xs',x1,rfl,hT,e1,g1,rfl⟩:=yl;obtain⟨xs,q1,r1⟩:=h1 J' H' S' g ha gd;have ex:xs=xs':=zXx (xN (q1.symm.trans e1));subst ex;obtain⟨dx,f1,p1⟩:=r1.get' g1;rw[DS.zMa,f1,xX]at ed;cases ed;exact⟨ha.push hT,.push hT,T,_,rfl,⟨zAm,ha.out hT⟩,_,_,rfl,rfl,x1,[],rfl,Rep.grow (.push hT) _ _ p1,rfl⟩
 stop:=λi H' J' S' ha g gd hi=>by
  obtain⟨xs,q1,r1⟩:=h1 J' H' S' g ha gd;rw[DS.zGj]at hi;exact⟨xs,q1,by rw[<- r1.length];exact hi⟩
def zYf(b:Bool)(hg:Gl X "enumerate")(hm:X.mg "enumerate"=none)(he:DE X K E a m)(h1:nst a=true:=by rfl)(hK:X.K=K:=by rfl):DI X K E (.Tuple es k tpos) (.Call (.Name "enumerate" p) [a] [] pos) (DS.iEn b m):=by
 subst hK;refine⟨⟨λpins s σ H R I hq1=>?_⟩⟩;obtain⟨env,S,J,ha,hE,q⟩:=hq1;have hs:starEach [a] X.env=[(false,eval a X.env)]:=zCg h1;refine Call_ (zEo I hg hm PyProof.Rows.boot_enumerate (u4 ?_ hs rfl));rw[hs];refine(show wpAny _ _ (spliced ((false,eval a X.env)::backTo pos [])) _ _ s from u7 (thn (he.h.h pins s σ H (λx H1=>∃J1 S1 d w,AbS X.K J1 S1 H1/\Rep X.K J1 H1 d x/\DS.enW b S1 d=some w/\∀It,ItOk X.K J1 H1 w It->R It H1) I ⟨env,S,J,ha,hE,q.bind.imp λd S1 J1 H1 _ a1 g1 q1 x rx=>?_⟩) λv s1 hq1=>?_))
 ·obtain⟨w,ew,k⟩:=q1.lift;exact⟨J1,S1,d,w,a1,rx,ew,k J1 H1 a1 .refl⟩
 ·obtain⟨x,H1,I1,r1,J1,S1,d,w,a1,rx,ew,k⟩:=hq1;refine u6 ?_;unfold DS.enW at ew;cases t1:DS.trk S1 d with
  | none=>rw[t1]at ew;cases ew
  | some p1=>
   obtain⟨c1,l⟩:=p1;rw[t1]at ew;simp only at ew;split at ew
   ·rename_i hc;obtain⟨rfl,_⟩:=hc;cases ew;obtain⟨a',rfl,s1'⟩:=zO4 a1 rx t1;have z1:=λJ' H' S' g ab ok=>s1' J' H' S' (DS.gdOf S1 d) g ab (λp hp=>hp) ok
    have ok0:DS.gOk S1 (DS.gdOf S1 d):=λp hp=>by
     cases d with
     | ref n=>
      have hp:p∈(match S1[n]? with|some d=>[(n,d)]|none=>[]):=hp;cases en:S1[n]? with
      | none=>rw[en]at hp;cases hp
      | some c=>rw[en]at hp;rw[xE.mp hp];exact en
     | _=>cases hp
    obtain⟨xs,f1,_⟩:=z1 J1 H1 S1 .refl a1 ok0;cases r1;obtain⟨its,rv,p1,_⟩:=I1.kSq f1;refine zY5 p1 λh' c1' c2 hk=>wpAny_pyIter_enum c1' ?_
    have hne:s1.heap.objs.size+1≠s1.heap.objs.size:=Nat.succ_ne_self _;refine⟨_,[s1.heap.objs.size+1,s1.heap.objs.size],_,_,H1,rfl,I1.kept (t':=s1.toks) hk,zVn c1 a' _ _ hne,⟨⟨_,by simpa using c1'⟩,c2⟩,λc hc=>?_,k _ (yD3 z1)⟩;have hle:s1.heap.objs.size<=c:=by
     simp only[xp,uV,or_false]at hc;rcases hc with rfl|rfl
     ·exact Nat.le_add_right _ _
     ·exact xi _
    exact I1.fpOk hle (I1.hok.fresh hle)
   ·cases ew
end
end L2
namespace DS
noncomputable def eqI (_:Store) (x y:D):Option D:=match x,y with
 | .int a,.int b=>some (.bl (decide (a=b)))
 | _,_=>none
noncomputable def putN (S:Store) (o k v:D):Option Store:=match o with
 | .ref n=>match S[n]? with
  | some (.dct false ks vs)=>if zBa false k=true/\ks.length<most then some (S.set n (.dct false (put2 ks vs k v).1 (put2 ks vs k v).2))else none
  | _=>none
 | _=>none
def zY4{a b:Int}:eqI S (.int a) (.int b)=some (.bl (decide (a=b))):=rfl
end DS
namespace L2
open PySem PySem.Spec PyProof.Rows
open DS (D Store Exn Rs SR)
section
variable {X:Cx}{K:PySem.W.Frag}
def yC6{H:Hp}{kvs:List (Key × V)}{A:Around}{E:Value->Shared->Prop}{Q:Unit->Shared->Prop}(I:Inv X pins σ H s)(e:H a=some (.dK kvs))(l:kvs.length<sizeLine)(ry:RelV (kV k) u)(rv:RelV v r)(h:∀s',Inv X pins σ (upd H a (.dK (putK kvs k v))) s'->Q () s'):
  wpAny (model X.prog X.w) A (setItem (.ref a) u r) Q E s:=by
 obtain⟨z,hd,vs,rel,dd⟩:=zYd I.hok e;refine wpAny_setItem_pairs (hsz:=by rw[<- rel.length];exact z) (zJk ry) dd λh' dd' hs=>h _ ?_
 exact zIu I (by rw[e];exact True.intro) hs (let ⟨q,_,_,hq,_⟩:=dd';⟨q,hq⟩) (zQl (xm (zCj kvs k v) l) hd (rel.put k rv) dd')
def zW5:PSet X (pOf K DS.putN):=by
 intro pins s σ H o i v ov iv u Q I ro ri rv hq35;obtain⟨J,S,d1,d2,d3,S',ha,r1,r2,r3,e,k⟩:=hq35;unfold DS.putN at e;split at e
 ·rename_i n;obtain⟨a,ea,rfl⟩:=r1;obtain⟨c,ec,ob,eo,rc⟩:=ha.at ea;split at e
  ·rename_i ks vs es;rw[ec]at es;cases es;obtain⟨xs,q,rl⟩:=rc;split at e
   ·rename_i hk;cases e;cases ro;have hk1:=hk.1;unfold DS.zBa at hk1;rw[xM]at hk1;rcases q with⟨_,kvs,rfl,rfl,rfl⟩|⟨z,_⟩
    ·obtain⟨kk,rfl⟩:=zHv hk1.1 λl z=>by subst z;cases hk1.2
     obtain rfl:=zFu r2;obtain⟨p1,p2⟩:=zLl (λa b=>zFv) (k:=kk) rl r3;exact yC6 I eo (by have:=hk.2;rw[xn]at this;exact this) ri rv λs' I'=>⟨_,I',k _ (ha.write ea ⟨_,.inl ⟨rfl,_,rfl,p1,rfl⟩,p2⟩) (.write ea)⟩
    ·cases z
   ·cases e
  ·cases e
 ·cases e
end
end L2
namespace DS
section
open Classical
noncomputable def pairsOf:List D->Option (List (D × D))
 | []=>some []
 | .tup [k,v]::l=>if zBa true k=true then(pairsOf l).map ((k,v)::·)else none
 | _=>none
noncomputable def putAll (a:List D × List D) (ps:List (D × D)):List D × List D:=ps.foldl (λa p=>put2 a.1 a.2 p.1 p.2) a
noncomputable def zNg (S:Store):List D->Option D
 | [d]=>match(match look S d with|some (.lst l)=>pairsOf l|_=>none)with
  | some ps=>if ps.length<=most then some (.dct true (putAll ([],[]) ps).1 (putAll ([],[]) ps).2)else none
  | none=>none
 | _=>none
def lvs(l:List D):Prop:=∃n,n<=5/\∀d∈l,lv n d
noncomputable def inKO (S:Store) (x y:D):Option Bool:=match look S y with
 | some (.tup l)=>if lvs (x::l)then some (decide (x∈l))else none
 | some (.lst l)=>if lvs (x::l)then some (decide (x∈l))else none
 | some (.dct t ks _)=>if zBa t x=true then some (decide (x∈ks))else none
 | _=>none
def inK(S:Store)(x y:D):Option D:=(inKO S x y).map D.bl
def zBc(S:Store)(x y:D):Option D:=(inKO S x y).map λb=>.bl (!b)
noncomputable def neK (_:Store) (x y:D):Option D:=match x,y with
 | .int a,.int b=>some (.bl (!decide (a=b)))
 | .bl a,.bl b=>some (.bl (!decide (a=b)))
 | .str a,.str b=>some (.bl (!decide (a=b)))
 | .tup l,.tup m=>if lvs (l++m)then some (.bl (!decide (l=m)))else none
 | _,_=>none
noncomputable def ssK (S:Store) (d:D):Option D:=match litems S d with
 | some l=>if setable l then some (.lst (srt (dedup l)))else none
 | none=>none
noncomputable def dK1:D->Option (List D × List D)
 | .dct true ks vs=>some (ks,vs)
 | _=>none
noncomputable def zTg (a:EM):IM:=λenv S=>(a env S).bind λx S1=>lift ((dK1 x).map λp=>⟨p.1,[]⟩) S1
noncomputable def zTf (a:EM):IM:=λenv S=>(a env S).bind λx S1=>lift ((dK1 x).map λp=>⟨p.2,[]⟩) S1
noncomputable def zM3 (a:EM):IM:=λenv S=>(a env S).bind λx S1=>lift ((dK1 x).map λp=>⟨(p.1.zip p.2).map λq=>.tup [q.1,q.2],[]⟩) S1
noncomputable def getM (S:Store) (o:D) (xs:List D):Option (D × Store):=match look S o,xs with
 | some (.dct true ks vs),[k,v]=>if zBa true k=true then some ((look2 ks vs k).getD v,S)else none
 | _,_=>none
noncomputable def zIf (S:Store):List D->Option D
 | [d]=>match look S d with
  | some (.dct true ks _)=>some (.lst ks)
  | _=>none
 | _=>none
noncomputable def zT4 (xs:List D):Option D:=(zF0 xs).bind λw=>if w.its.length<=most then some (.lst w.its)else none
def eLR(a:AM):EM:=λenv S=>(a env S).bind λxs S1=>lift (zT4 xs) S1
end
end DS
namespace DP
open DS
section
noncomputable def zK9:SM:=
  (sSeq (sSet 1 (eNew (eDct true)))
  (sSeq (sSet 2 (eC (.int 1)))
  (sSeq (sFor (iVal (eVar 0)) (gName 3) (sFor (iVal (eVar 3)) (gName 4) (sIf (tB (eOp zBc (eVar 4) (eVar 1))) (sSeq (sPut putD (eVar 1) (eVar 4) (eVar 2))
  (sSet 2 (eOp addD (eVar 2) (eVar 2)))) zBs)))
  (sRet (eVar 1)))))
def zEp:Fn:=zB9 1 5 zK9
noncomputable def zK8:SM:=
  (sSeq (sSet 2 (eC (.int 0)))
  (sSeq (sFor (iVal (eVar 0)) (gName 3) (sSet 2 (eOp orD (eVar 2) (eOp ixD (eVar 1) (eVar 3)))))
  (sRet (eVar 2))))
def zDk:Fn:=zB9 2 4 zK8
noncomputable def zFd:SM:=
  (sRet (eCB anyB (zA0 (zAn 1 [0] (iVal (eVar 1)) (gName 0) tYes (eOp eqI (eOp andD (eVar 0) (eVar 1)) (eVar 0))) aNil)))
def zC4:Fn:=zB9 2 2 zFd
noncomputable def zE7:SM:=
  (sSeq (sSet 2 (eNew (eDct true)))
  (sSeq (sFor (zM3 (eVar 0)) (gTup [(gName 3),(gName 4)]) (sFor (iVal (eVar 1)) (gName 5) (sSeq (sSet 6 (eTup (zA0 (eOp subD (eOp ixD (eVar 5) (eC (.int 0))) (eOp ixD (eVar 3) (eC (.int 0)))) (zA0 (eOp subD (eOp ixD (eVar 5) (eC (.int 1))) (eOp ixD (eVar 3) (eC (.int 1)))) aNil))))
  (sPut putD (eVar 2) (eVar 6) (eOp orD (eMt "dict" getM (eVar 2) (zA0 (eVar 6) (zA0 (eC (.int 0)) aNil))) (eVar 4))))))
  (sRet (eVar 2))))
def zBz:Fn:=zB9 2 7 zE7
noncomputable def zGu:SM:=
  (sSeq (sSet 2 (zAn 1 [] (iVal (eSl slD (eVar 0) (pYes (eVar 1)) (pYes (eC (.int 63))))) (gName 0) tYes (eCB max2B (zA0 (eVar 0) (zA0 (eOp subD (eC (.int 0)) (eVar 0)) aNil)))))
  (sSeq (sSet 3 (eOp addD (eC (.int 7919)) (eVar 1)))
  (sSeq (sFor (iVal (eVar 2)) (gName 4) (sSet 3 (eOp modD (eOp addD (eOp mulD (eVar 3) (eC (.int 48271))) (eOp modD (eVar 4) (eC (.int 2147483629)))) (eC (.int 2147483647)))))
  (sRet (zTo [(.str (PySem.Str.ofString "seed")),(.str (PySem.Str.ofString "number")),(.str (PySem.Str.ofString "left"))] (zA0 (eVar 3) (zA0 (eC (.int 0)) (zA0 (eNew (eUn revL (zAn 1 [] (iVal (eVar 2)) (gName 0) (tB (eOp geD (eVar 0) (eOp powD (eC (.int 10)) (eC (.int 18))))) (eVar 0)))) aNil))))))))
def zCm:Fn:=zIx 2 5 zGu
noncomputable def zGt:SM:=
  (sSeq (zE1 (tAnd (tB (eOp eqI (eOp ixD (eVar 0) (eC (.str (PySem.Str.ofString "number")))) (eC (.int 0)))) (tB (eOp gtD (eCB lenB (zA0 (eOp ixD (eVar 0) (eC (.str (PySem.Str.ofString "left")))) aNil)) (eC (.int 0))))) (sPut putN (eVar 0) (eC (.str (PySem.Str.ofString "number"))) (eMt "list" popM (eOp ixD (eVar 0) (eC (.str (PySem.Str.ofString "left")))) aNil)))
  (sSeq (sSet 2 (eOp ixD (eVar 0) (eC (.str (PySem.Str.ofString "number")))))
  (sSeq (sIf (tB (eOp gtD (eVar 2) (eC (.int 0)))) (sSeq (sPut putN (eVar 0) (eC (.str (PySem.Str.ofString "number"))) (eOp zH2 (eVar 2) (eVar 1)))
  (sRet (eOp modD (eVar 2) (eVar 1)))) zBs)
  (sSeq (sSet 3 (eOp modD (eOp addD (eOp mulD (eOp ixD (eVar 0) (eC (.str (PySem.Str.ofString "seed")))) (eC (.int 48271))) (eC (.int 7919))) (eC (.int 2147483647))))
  (sSeq (sPut putN (eVar 0) (eC (.str (PySem.Str.ofString "seed"))) (eOp modD (eOp addD (eOp mulD (eVar 3) (eC (.int 40692))) (eC (.int 104729))) (eC (.int 2147483399))))
  (sSeq (sSet 4 (eOp modD (eOp mulD (eOp ixD (eVar 0) (eC (.str (PySem.Str.ofString "seed")))) (eOp ixD (eVar 0) (eC (.str (PySem.Str.ofString "seed"))))) (eC (.int 2147483563))))
  (sRet (eOp modD (eOp addD (eOp mulD (eOp modD (eOp mulD (eVar 3) (eVar 3)) (eC (.int 2147483629))) (eC (.int 2147483563))) (eVar 4)) (eVar 1)))))))))
def zA3:Fn:=zB9 2 5 zGt
noncomputable def zDm:SM:=
  (sRet (eAnd (eCB isiB (zA0 (eVar 0) (zA0 (eC (.ty "int")) aNil))) (eNot (eCB isiB (zA0 (eVar 0) (zA0 (eC (.ty "bool")) aNil))))))
def zB6:Fn:=zB9 1 1 zDm
noncomputable def zFf:SM:=
  (sSeq (sSet 1 (eUn ssK (zAn 1 [] (iVal (eVar 0)) (gName 0) tYes (eCB zAz (zA0 (eCB zBr (zA0 (eVar 0) aNil)) aNil)))))
  (sSeq (sSet 2 (eNew (eLst aNil)))
  (sSeq (sFor (iVal (eVar 1)) (gName 3) (sIf (tNot (tTru (eCB anyB (zA0 (zAn 1 [3] (iVal (eVar 1)) (gName 0) tYes (eAnd (eOp neK (eVar 0) (eVar 1)) (eCB allB (zA0 (zAn 1 [1] (iVal (eVar 0)) (gName 0) tYes (eOp inK (eVar 0) (eVar 1))) aNil)))) aNil)))) (zFm (eMt "list" zCa (eVar 2) (zA0 (eVar 3) aNil))) zBs))
  (sRet (eCB zAz (zA0 (eVar 2) aNil))))))
def zB8:Fn:=zB9 1 4 zFf
noncomputable def zEu:SM:=
  (sSeq (sFor (iVal (eVar 0)) (gName 4) (sIf (tTru (eCB allB (zA0 (zAn 2 [1,2,3] (iVal (eVar 4)) (gTup [(gName 0),(gName 1)]) tYes (eOp inK (eTup (zA0 (eOp addD (eVar 3) (eVar 0)) (zA0 (eOp addD (eVar 4) (eVar 1)) aNil))) (eVar 2))) aNil))) (sRet (eC (.bl true))) zBs))
  (sRet (eC (.bl false))))
def zB3:Fn:=zB9 4 5 zEu
noncomputable def zHk:SM:=
  (sRet (zAn 1 [1] (iVal (eVar 0)) (gName 0) tYes (zAc zDk (zA0 (eVar 0) (zA0 (eVar 1) aNil)))))
def zDy:Fn:=zB9 2 2 zHk
noncomputable def zDp:SM:=
  (sSeq (sSet 3 (eOp addD (eOp mulD (eC (.int 2)) (eVar 2)) (eC (.int 1))))
  (sSeq (sSet 4 (eNew (eLst aNil)))
  (sSeq (sFor (zBt (zA0 (eVar 1) aNil)) (gName 5) (sSeq (sSet 6 (zAc zA3 (zA0 (eVar 0) (zA0 (eOp mulD (eVar 3) (eVar 3)) aNil))))
  (sSeq (zE1 (tB (eOp inK (eVar 6) (eVar 4))) (sSet 6 (eOp modD (eOp addD (eVar 6) (eC (.int 1))) (eOp mulD (eVar 3) (eVar 3)))))
  (zFm (eMt "list" zCa (eVar 4) (zA0 (eVar 6) aNil))))))
  (sRet (zAn 1 [2,3] (iVal (eVar 4)) (gName 0) tYes (eTup (zA0 (eOp subD (eOp modD (eVar 0) (eVar 2)) (eVar 1)) (zA0 (eOp subD (eOp zH2 (eVar 0) (eVar 2)) (eVar 1)) aNil))))))))
def zB0:Fn:=zB9 3 7 zDp
noncomputable def zDc:SM:=
  (sSeq (sSet 2 (eOp ixD (eLst (zA0 (eC (.int 0)) (zA0 (eC (.int 9)) (zA0 (eOp subD (eOp powD (eC (.int 10)) (eC (.int 18))) (eC (.int 2000))) aNil)))) (zAc zA3 (zA0 (eVar 0) (zA0 (eC (.int 3)) aNil)))))
  (sSeq (sPar [3,4] (zA0 (eOp subD (zAc zA3 (zA0 (eVar 0) (zA0 (eOp addD (eOp mulD (eC (.int 2)) (eVar 2)) (eC (.int 1))) aNil))) (eVar 2)) (zA0 (eOp subD (zAc zA3 (zA0 (eVar 0) (zA0 (eOp addD (eOp mulD (eC (.int 2)) (eVar 2)) (eC (.int 1))) aNil))) (eVar 2)) aNil)))
  (sSeq (sSet 5 (zAc zA3 (zA0 (eVar 0) (zA0 (eC (.int 4)) aNil))))
  (sSeq (sSet 6 (eNew (eDct true)))
  (sSeq (sIf (tB (eOp eqI (eVar 5) (eC (.int 0)))) (sSeq (sFor (zBt (zA0 (eOp addD (eC (.int 1)) (zAc zA3 (zA0 (eVar 0) (zA0 (eC (.int 4)) aNil)))) aNil)) (gName 7) (sSeq (sSet 8 (eOp ixD (eVar 1) (zAc zA3 (zA0 (eVar 0) (zA0 (eCB lenB (zA0 (eVar 1) aNil)) aNil)))))
  (sSeq (sSet 9 (eTup (zA0 (eOp addD (eVar 3) (zAc zA3 (zA0 (eVar 0) (zA0 (eC (.int 5)) aNil)))) (zA0 (eOp addD (eVar 4) (zAc zA3 (zA0 (eVar 0) (zA0 (eC (.int 5)) aNil)))) aNil))))
  (sFor (iVal (eSl slD (eVar 8) (pYes (eCB intB (zA0 (eOp eqI (zAc zA3 (zA0 (eVar 0) (zA0 (eC (.int 4)) aNil))) (eC (.int 0))) aNil))) pNo)) (gTup [(gName 10),(gName 11)]) (sPut putD (eVar 6) (eTup (zA0 (eOp addD (eOp ixD (eVar 9) (eC (.int 0))) (eVar 10)) (zA0 (eOp addD (eOp ixD (eVar 9) (eC (.int 1))) (eVar 11)) aNil))) (eC (.bl true)))))))
  (sRet (eCB zAz (zA0 (eCB zBr (zA0 (eCB zIf (zA0 (eVar 6) aNil)) aNil)) aNil)))) zBs)
  (sSeq (sPar [12,13] (zA0 (eOp addD (eC (.int 1)) (zAc zA3 (zA0 (eVar 0) (zA0 (eC (.int 6)) aNil)))) (zA0 (eOp addD (eC (.int 1)) (zAc zA3 (zA0 (eVar 0) (zA0 (eC (.int 6)) aNil)))) aNil)))
  (sSeq (sFor (zBt (zA0 (eVar 13) aNil)) (gName 10) (sFor (zBt (zA0 (eVar 12) aNil)) (gName 11) (sIf (tOr (tB (eOp eqI (eVar 5) (eC (.int 1)))) (tB (eOp gtD (zAc zA3 (zA0 (eVar 0) (zA0 (eOp ixD (eLst (zA0 (eC (.int 4)) (zA0 (eC (.int 2)) aNil))) (eOp subD (eVar 5) (eC (.int 2)))) aNil))) (eC (.int 0))))) (sPut putD (eVar 6) (eTup (zA0 (eOp addD (eVar 3) (eVar 10)) (zA0 (eOp addD (eVar 4) (eVar 11)) aNil))) (eC (.bl true))) zBs)))
  (sRet (eCB zAz (zA0 (eCB zBr (zA0 (eCB zIf (zA0 (eVar 6) aNil)) aNil)) aNil))))))))))
def zBp:Fn:=zB9 2 14 zDc
noncomputable def zE8:SM:=
  (sSeq (sSet 2 (eCB zNg (zA0 (zAn 1 [] (iVal (eVar 1)) (gName 0) tYes (eTup (zA0 (eVar 0) (zA0 (eC (.bl true)) aNil)))) aNil)))
  (sSeq (sSet 3 (eNew (eLst aNil)))
  (sSeq (sFor (iVal (eVar 0)) (gName 4) (zFm (eMt "list" zF2 (eVar 3) (zA0 (zAn 1 [3] (iVal (eVar 4)) (gName 0) (tB (eOp zBc (eVar 0) (eVar 1))) (eVar 0)) aNil))))
  (sSeq (sSet 5 (eNew (eDct true)))
  (sSeq (sFor (iVal (eVar 3)) (gTup [(gName 6),(gName 7)]) (sFor (iVal (eVar 1)) (gTup [(gName 8),(gName 9)]) (sSeq (sSet 10 (eTup (zA0 (eOp subD (eVar 8) (eVar 6)) (zA0 (eOp subD (eVar 9) (eVar 7)) aNil))))
  (sIf (tAnd (tB (eOp zBc (eVar 10) (eVar 5))) (tTru (zAc zB3 (zA0 (eVar 0) (zA0 (eVar 2) (zA0 (eOp ixD (eVar 10) (eC (.int 0))) (zA0 (eOp ixD (eVar 10) (eC (.int 1))) aNil))))))) (sPut putD (eVar 5) (eVar 10) (eC (.bl true))) zBs))))
  (sRet (eCB zAz (zA0 (eCB zBr (zA0 (eCB zIf (zA0 (eVar 5) aNil)) aNil)) aNil))))))))
def zBd:Fn:=zB9 2 11 zE8
noncomputable def zVi:SM:=
  (sSeq (sSet 2 (zAc zEp (zA0 (eVar 0) aNil)))
  (sSeq (sSet 3 (zAc zDy (zA0 (eVar 0) (zA0 (eVar 2) aNil))))
  (sSeq (sSet 4 (zAc zBz (zA0 (eVar 2) (zA0 (eVar 1) aNil))))
  (sSeq (sSet 5 (eNew (eDct false)))
  (sSeq (sFor (zTf (eVar 4)) (gName 6) (sIf (tB (eOp zBc (eVar 6) (eVar 5))) (sPut putD (eVar 5) (eVar 6) (zAc zC4 (zA0 (eVar 6) (zA0 (eVar 3) aNil)))) zBs))
  (sRet (eCB zAz (zA0 (eCB zBr (zA0 (zAn 1 [5,4] (zTg (eVar 4)) (gName 0) (tTru (eOp ixD (eVar 1) (eOp ixD (eVar 2) (eVar 0)))) (eVar 0)) aNil)) aNil))))))))
def zJn:Fn:=zB9 2 7 zVi
noncomputable def zDn:SM:=
  (sSeq (sSet 3 (zAc zA3 (zA0 (eVar 0) (zA0 (eC (.int 5)) aNil))))
  (sSeq (sSet 4 (zAc zB0 (zA0 (eVar 0) (zA0 (eOp addD (eC (.int 2)) (zAc zA3 (zA0 (eVar 0) (zA0 (eOp subD (eVar 1) (eC (.int 1))) aNil)))) (zA0 (eVar 2) aNil)))))
  (sSeq (sPar [5,6] (zA0 (eNew (eLst aNil)) (zA0 (eOp addD (eC (.int 1)) (zAc zA3 (zA0 (eVar 0) (zA0 (eCB lenB (zA0 (eVar 4) aNil)) aNil)))) aNil)))
  (sSeq (sFor (zBt (zA0 (eOp addD (eC (.int 1)) (zAc zA3 (zA0 (eVar 0) (zA0 (eOp ixD (eLst (zA0 (eC (.int 12)) (zA0 (eC (.int 4)) aNil))) (eCB intB (zA0 (eOp gtD (eVar 3) (eC (.int 1))) aNil))) aNil)))) aNil)) (gName 7) (zFm (eMt "list" zCa (eVar 5) (zA0 (eOp addD (eC (.int 1)) (zAc zA3 (zA0 (eVar 0) (zA0 (eOp subD (eOp shlD (eC (.int 1)) (eCB lenB (zA0 (eVar 4) aNil))) (eC (.int 1))) aNil)))) aNil))))
  (sSeq (sIf (tB (eOp eqI (eVar 3) (eC (.int 0)))) (sSet 5 (eNew (eLR (zA0 (eC (.int 1)) (zA0 (eOp shlD (eC (.int 1)) (eCB lenB (zA0 (eVar 4) aNil))) aNil))))) zBs)
  (sSeq (sSet 8 (eNew (eLst aNil)))
  (sSeq (sFor (iVal (eVar 5)) (gName 9) (sSeq (sSet 10 (zAn 2 [9] (iEn false (eVar 4)) (gTup [(gName 0),(gName 1)]) (tB (eOp eqI (eOp andD (eOp shrD (eVar 2) (eVar 0)) (eC (.int 1))) (eC (.int 1)))) (eVar 1)))
  (sIf (tOr (tB (eOp gtD (eVar 3) (eC (.int 0)))) (tB (eOp eqI (eCB lenB (zA0 (eVar 10) aNil)) (eVar 6)))) (zFm (eMt "list" zCa (eVar 8) (zA0 (eVar 10) aNil))) zBs)))
  (sSeq (sIf (tB (eOp eqI (eVar 3) (eC (.int 0)))) (sRet (eCB zAz (zA0 (eCB zBr (zA0 (zAn 1 [] (iVal (eVar 8)) (gName 0) tYes (eCB zAz (zA0 (eCB zBr (zA0 (eVar 0) aNil)) aNil))) aNil)) aNil))) zBs)
  (sRet (zAc zB8 (zA0 (eVar 8) aNil)))))))))))
def zB7:Fn:=zB9 3 11 zDn
noncomputable def zDo:SM:=
  (sSeq (sUnp (gTup [(gName 1),(gName 2)]) (eOp ixD (eLst (zA0 (eTup (zA0 (eC (.int 0)) (zA0 (eC (.int 0)) aNil))) (zA0 (eTup (zA0 (eOp subD (eOp powD (eC (.int 10)) (eC (.int 18))) (eC (.int 2000))) (zA0 (eOp subD (eC (.int 2000)) (eOp powD (eC (.int 10)) (eC (.int 18)))) aNil))) aNil))) (zAc zA3 (zA0 (eVar 0) (zA0 (eC (.int 2)) aNil)))))
  (sSeq (sUnp (gTup [(gName 3),(gName 4),(gName 5)]) (eTup (zA0 (eOp addD (eC (.int 12)) (zAc zA3 (zA0 (eVar 0) (zA0 (eC (.int 9)) aNil)))) (zA0 (eOp addD (eC (.int 12)) (zAc zA3 (zA0 (eVar 0) (zA0 (eC (.int 9)) aNil)))) (zA0 (eOp addD (eC (.int 2)) (zAc zA3 (zA0 (eVar 0) (zA0 (eC (.int 90)) aNil)))) aNil)))))
  (sSeq (sSet 6 (zAn 1 [1,2,3,5] (zBt (zA0 (eOp mulD (eVar 3) (eVar 4)) aNil)) (gName 0) (tB (eOp gtD (eOp modD (eVar 0) (eVar 4)) (eC (.int 0)))) (eTup (zA0 (eOp addD (eVar 1) (eOp zH2 (eVar 0) (eVar 3))) (zA0 (eOp addD (eVar 2) (eOp modD (eVar 0) (eVar 3))) aNil)))))
  (sSeq (sSet 7 (zAn 1 [0] (zBt (zA0 (eOp addD (eC (.int 1)) (zAc zA3 (zA0 (eVar 0) (zA0 (eC (.int 2)) aNil)))) aNil)) (gName 0) tYes (eCB zAz (zA0 (eCB zBr (zA0 (zAc zB0 (zA0 (eVar 1) (zA0 (eC (.int 2)) (zA0 (eC (.int 3)) aNil)))) aNil)) aNil))))
  (sRet (eTup (zA0 (zAc zB8 (zA0 (eVar 7) aNil)) (zA0 (eCB zAz (zA0 (eVar 6) aNil)) aNil))))))))
def zCt:Fn:=zB9 1 8 zDo
noncomputable def zFe:SM:=
  (sSeq (sSet 2 (zAc zJn (zA0 (eVar 0) (zA0 (eVar 1) aNil))))
  (sSeq (sIf (tOr (tNot (tTru (eCB isiB (zA0 (eVar 2) (zA0 (eC (.ty "tuple")) aNil))))) (tB (eOp neK (eVar 2) (zAc zBd (zA0 (eVar 0) (zA0 (eVar 1) aNil)))))) (sRet (eC (.bl false))) zBs)
  (sRet (eCB allB (zA0 (zAn 1 [] (iVal (eVar 2)) (gName 0) tYes (eAnd (eCB isiB (zA0 (eVar 0) (zA0 (eC (.ty "tuple")) aNil))) (eAnd (zAc zB6 (zA0 (eOp ixD (eVar 0) (eC (.int 0))) aNil)) (zAc zB6 (zA0 (eOp ixD (eVar 0) (eC (.int 1))) aNil))))) aNil)))))
def zAs:Fn:=zB9 2 3 zFe
noncomputable def zYx:SM:=
  (sSeq (sSet 1 (zAc zCm (zA0 (eVar 0) (zA0 (eC (.int 0)) aNil))))
  (sSeq (sIf (tB (eOp eqI (zAc zA3 (zA0 (eVar 1) (zA0 (eC (.int 6)) aNil))) (eC (.int 0)))) (sSeq (sUnp (gTup [(gName 2),(gName 3)]) (zAc zCt (zA0 (eVar 1) aNil)))
  (sRet (eAnd (zAc zAs (zA0 (eVar 2) (zA0 (eVar 3) aNil))) (eAnd (zAc zAs (zA0 (eVar 2) (zA0 (eSl slD (eVar 3) pNo (pYes (eC (.int 99)))) aNil))) (zAc zAs (zA0 (eVar 2) (zA0 (eVar 3) aNil))))))) zBs)
  (sSeq (sSet 4 (eOp ixD (eLst (zA0 (eC (.int 2)) (zA0 (eC (.int 3)) (zA0 (eC (.int 2)) (zA0 (eC (.int 3)) (zA0 (eC (.int 1000)) aNil)))))) (zAc zA3 (zA0 (eVar 1) (zA0 (eC (.int 5)) aNil)))))
  (sSeq (sPar [2,5] (zA0 (zAc zB7 (zA0 (eVar 1) (zA0 (eC (.int 6)) (zA0 (eVar 4) aNil)))) (zA0 (zAc zB7 (zA0 (eVar 1) (zA0 (eC (.int 4)) (zA0 (eC (.int 2)) aNil)))) aNil)))
  (sSeq (sPar [3,6] (zA0 (zAc zBp (zA0 (eVar 1) (zA0 (eVar 2) aNil))) (zA0 (zAc zBp (zA0 (eVar 1) (zA0 (eVar 5) aNil))) aNil)))
  (sSeq (sFor (iVal (eTup (zA0 (eTup (zA0 (eVar 2) (zA0 (eVar 3) aNil))) (zA0 (eTup (zA0 (eVar 5) (zA0 (eVar 3) aNil))) (zA0 (eTup (zA0 (eVar 2) (zA0 (eVar 6) aNil))) (zA0 (eTup (zA0 (eVar 2) (zA0 (eTup aNil) aNil))) (zA0 (eTup (zA0 (eVar 2) (zA0 (eVar 3) aNil))) aNil))))))) (gTup [(gName 7),(gName 8)]) (sIf (tNot (tTru (zAc zAs (zA0 (eVar 7) (zA0 (eVar 8) aNil))))) (sRet (eC (.bl false))) zBs))
  (sRet (eC (.bl true)))))))))
def zNc:Fn:=zB9 1 9 zYx
end
end DP
namespace TS
open PySem
open Sem (wp)
def DAt(h:Heap)(a:Addr)(es:Array DictEntry)(ep:Nat):Prop:=∃o,h.get? a=some o/\o.ExactDict/\o.data=.dict es ep
noncomputable abbrev itN (b:Bool):String:=if b then "dict_keyiterator" else "dict_valueiterator"
def DIt(b:Bool)(h:Heap)(it d:Addr)(i n ep:Nat):Prop:=∃o,h.get? it=some o/\o.cls=.type (itN b)/\o.data=.fields #[.ref d,.int i 0,.int n 0,.int ep 0]
noncomputable abbrev diO (b:Bool) (d:Addr) (n ep:Nat):Obj:={ cls:=.type (itN b),data:=.fields #[.ref d,.int 0 0,.int n 0,.int ep 0] }
def DAt.at{h h':Heap}(x:DAt h a es ep)(k:∀o,h.get? a=some o->h'.get? a=some o):DAt h' a es ep:=let ⟨o,ho,r⟩:=x;⟨o,k _ ho,r⟩
def DIt.at{h h':Heap}(x:DIt b h it d i n ep)(k:∀o,h.get? it=some o->h'.get? it=some o):DIt b h' it d i n ep:=let ⟨o,ho,r⟩:=x;⟨o,k _ ho,r⟩
def DAt.ty{s:Shared}{ep:Nat}(x:DAt s.heap a es ep):s.TypeIs (.ref a) "dict":=let ⟨o,ho,hc,_⟩:=x;⟨o,ho,hc.1⟩
section
variable {prog:Program}{w:World}{A:Around}{E:Value->Shared->Prop}{s:Shared}{d it:Addr}{es:Array DictEntry}{ep i:Nat}
def zVc{Q:Value->Shared->Prop}(hd:(d == sysModules)=false)(hm:DAt s.heap d es ep)(hQ:Q (.ref s.heap.objs.size) { s with heap:=s.heap.push (diO true d es.size ep) }):wpAny (model prog w) A (pyIter (.ref d)) Q E s:=by have hT:=hm.ty;obtain⟨o,ho,hc,hx⟩:=hm;refine yC hT F.slot_dict_iter (xK F.slot_dict_iter hT F.entry_dict_iter ?_ (F.args_dict_iter_1 _));refine(show wpAny _ _ (Builtin.Dict.dictSlotNone _ _ >>= _) _ _ s from xc (show wpAny _ _ (Builtin.Dict.notOrdered _ _ >>= _) _ _ s from xc (yU hT (show wpAny _ _ (pure (Value.ref d)) _ _ s from xh ?_))));refine(show wpAny _ _ (Builtin.Dict.showsAll d >>= _) _ _ s from xc ?_);unfold Builtin.Dict.showsAll;rw[xg (by rw[hd];exact vB)];refine xh (xc (uB ho hx (xc (u3 ho hx (xc (xW (xh ⟨_,rfl,"dict_keyiterator",_,⟨_,xy _ rfl,rfl⟩,yH.lookup,?_⟩)))))));simpa[rawInt,diO,itN]using hQ
def zZ9{Q:Value->Shared->Prop}(hv:s.heap.IsValuesView v d)(hm:DAt s.heap d es ep)(hQ:Q (.ref s.heap.objs.size) { s with heap:=s.heap.push (diO false d es.size ep) }):wpAny (model prog w) A (pyIter (.ref v)) Q E s:=by have hT:=hv.typeIs;obtain⟨ov,hov,_,hdv⟩:=hv;obtain⟨o,ho,hc,hx⟩:=hm;refine yC hT F.slot_dict_values_iter (xK F.slot_dict_values_iter hT F.entry_dict_values_iter ?_ (F.args_dict_values_iter_1 _));refine(show wpAny _ _ (Builtin.Dict_items.slot0 _ _ >>= _) _ _ s from xc (xh (xc (show wpAny _ _ (field (.ref v) 0 >>= _) _ _ s from xc (vD hov hdv (x:=.ref d) rfl (xh (xc ?_)))))));unfold Builtin.Dict_items.newIterator;refine xc (uB ho hx (xc (u3 ho hx ?_)));simp only[show Builtin.Dict_items.ownsTuple "dict_valueiterator"=false by decide,ve,xI];refine xW (xh ⟨_,rfl,"dict_valueiterator",_,⟨_,xy _ rfl,rfl⟩,yI.lookup,?_⟩);simpa[rawInt,diO,itN]using hQ
def yBs{Q:Value->Shared->Prop}(hv:s.heap.IsItemsView v d)(hm:DAt s.heap d es ep)
  (hQ:Q (.ref s.heap.objs.size) { s with heap:=s.heap.push { cls:=.type "dict_itemiterator",data:=.fields #[.none,.bool false,.ref d,.int 0 0,.int es.size 0,.int ep 0,.none,.none] } }):wpAny (model prog w) A (pyIter (.ref v)) Q E s:=by
 have hT:=hv.typeIs;obtain⟨ov,hov,_,hdv⟩:=hv;obtain⟨o,ho,hc,hx⟩:=hm;refine yC hT F.slot_dict_items_iter (xK F.slot_dict_items_iter hT F.entry_dict_items_iter ?_ (F.args_dict_items_iter_1 _));refine(show wpAny _ _ (Builtin.Dict_items.slot0 _ _ >>= _) _ _ s from xc (xh (xc (show wpAny _ _ (field (.ref v) 0 >>= _) _ _ s from xc (vD hov hdv (x:=.ref d) rfl (xh (xc ?_)))))));unfold Builtin.Dict_items.newIterator;refine xc (uB ho hx (xc (u3 ho hx ?_)));simp only[show Builtin.Dict_items.ownsTuple "dict_itemiterator"=true by decide,xl];refine xW (xh ⟨_,rfl,"dict_itemiterator",_,⟨_,xy _ rfl,rfl⟩,yJ.lookup,?_⟩) (by simp only[sizeOk,Builtin.Dict_items.ownedTupleFields,xA,xw,xB,vU,vC];lia);simpa[rawInt,Builtin.Dict_items.ownedTupleFields]using hQ
end
section
variable {prog:Program}{w:World}{A:Around}{E:Value->Shared->Prop}{s:Shared}{d it:Addr}{es:Array DictEntry}{ep i:Nat}{b:Bool}
def DIt.ty(x:DIt b s.heap it d i es.size ep):s.TypeIs (.ref it) (itN b):=let ⟨o,ho,hc,_⟩:=x;⟨o,ho,hc⟩
def d_nm{Q:String->Shared->Prop}(hT:s.TypeIs (.ref it) (itN b))(h:Q (itN b) s):wpAny (model prog w) A (typeNameOfWhole (.ref it)) Q E s:=by
 cases b
 ·exact wpAny_typeNameOfWhole_valiter hT h
 ·exact wpAny_typeNameOfWhole_keyiter hT h
def zTy{ts:List String}{Q:Bool->Shared->Prop}(hT:s.TypeIs (.ref it) (itN b))(h:Q (ts.any λt=>[Value.type (itN b),Value.type "object"].contains (.type t)) s):wpAny (model prog w) A (Builtin.Dict_items.isOneOf (.ref it) ts) Q E s:=by
 cases b
 ·exact wpAny_isOneOf_valiter hT h
 ·exact wpAny_isOneOf_keyiter hT h
def zVb{Q:Option Value->Shared->Prop}(hit:DIt b s.heap it d i es.size ep)(hm:DAt s.heap d es ep)(hx:es[i]?=some e)
  (hQ:∀h',DIt b h' it d (i+1) es.size ep->Heap.SameBut it s.heap h'->Q (some (if b then e.key else e.val)) { s with heap:=h' }):wpAny (model prog w) A (pyNext (.ref it)) Q E s:=by
 have hT:=hit.ty;obtain⟨o,ho,hc,hf⟩:=id hit;obtain⟨od,hod,_,hdd⟩:=id hm;have hup:DIt b (s.heap.update it (Obj.mapFields (·.setIfInBounds 1 (rawInt ((i:Int)+1))))) it d (i+1) es.size ep:=⟨_,uh _ ho (yQ (uz hf _)),(Obj.cls_mapFields ..).trans hc,by rw[uz hf];simp[rawInt]⟩;unfold pyNext;refine xc (uw ?_);have ow:Builtin.Dict_items.ownsTuple (itN b)=false:=by cases b <;> decide
 cases b
 all_goals
  first
   | refine vv (name:=Str.ofString "__next__") hT yI (xK yI hT F.entry_dict_valueiterator_next ?_ (F.args_dict_valueiterator_next_1 _))
   | refine vv (name:=Str.ofString "__next__") hT yH (xK yH hT F.entry_dict_keyiterator_next ?_ (F.args_dict_keyiterator_next_1 _))
  refine xc (xh (xc (xc (xc (d_nm hT (xh (xc (yg ho hf ?_))))))));simp only[ow,ve,xI];refine(show wpAny _ _ (if(Value.ref d == Value.none)=true then _ else _) _ _ s from ?_);rw[xg (show ¬ ((Value.ref d == Value.none)=true)from vB)];refine xc (xh (xc (uB hod hdd ?_)));rw[xg (by simp)];refine xc (xh (xc (u3 hod hdd ?_)));rw[xg (by simp)];refine xh ?_;simp only[show ¬ ((i:Int)<0)from by nofun,xI,vw,hx];refine xc (xc (d_nm hT (xh (xc (zTy hT ?_)))));refine(show wpAny _ _ (setField (.ref it) 1 (rawInt ((i:Int)+1)) >>= _) _ _ s from xc (uy ho hf (by simp) (xc (xP (xc ?_)))))
 ·refine zTy (b:=false) (s:={ s with heap:=s.heap.update it (Obj.mapFields (·.setIfInBounds 1 (rawInt ((i:Int)+1)))) }) hup.ty ?_;refine(show wpAny _ _ (Builtin.Dict_items.isOneOf _ _ >>= _) _ _ _ from xc (zTy (b:=false) (s:={ s with heap:=s.heap.update it (Obj.mapFields (·.setIfInBounds 1 (rawInt ((i:Int)+1)))) }) hup.ty ?_));exact(show wpAny _ _ (pure e.val) _ _ _ from xh (xh ⟨_,rfl,xh (hQ _ hup (vS ..))⟩))
 ·refine zTy (b:=true) (s:={ s with heap:=s.heap.update it (Obj.mapFields (·.setIfInBounds 1 (rawInt ((i:Int)+1)))) }) hup.ty ?_;exact(show wpAny _ _ (pure e.key) _ _ _ from xh (xh ⟨_,rfl,xh (hQ _ hup (vS ..))⟩))
def yC8{Q:Option Value->Shared->Prop}(hh:A.handled=none)(hit:DIt b s.heap it d i es.size ep)(hm:DAt s.heap d es ep)(hx:es[i]?=none)
  (hQ:∀h',Heap.ExtBut it s.heap h'->Q none { s with heap:=h' }):wpAny (model prog w) A (pyNext (.ref it)) Q E s:=by
 have hT:=hit.ty;obtain⟨o,ho,hc,hf⟩:=id hit;obtain⟨od,hod,_,hdd⟩:=id hm;unfold pyNext;refine xc (uw ?_);have ow:Builtin.Dict_items.ownsTuple (itN b)=false:=by cases b <;> decide
 cases b
 all_goals
  first
   | refine vv (name:=Str.ofString "__next__") hT yI (xK yI hT F.entry_dict_valueiterator_next ?_ (F.args_dict_valueiterator_next_1 _))
   | refine vv (name:=Str.ofString "__next__") hT yH (xK yH hT F.entry_dict_keyiterator_next ?_ (F.args_dict_keyiterator_next_1 _))
  refine xc (xh (xc (xc (xc (d_nm hT (xh (xc (yg ho hf ?_))))))));simp only[ow,ve,xI];refine(show wpAny _ _ (if(Value.ref d == Value.none)=true then _ else _) _ _ s from ?_);rw[xg (show ¬ ((Value.ref d == Value.none)=true)from vB)];refine xc (xh (xc (uB hod hdd ?_)));rw[xg (by simp)];refine xc (xh (xc (u3 hod hdd ?_)));rw[xg (by simp)];refine xh ?_;simp only[show ¬ ((i:Int)<0)from by nofun,xI,vw,hx];refine xc (xc (d_nm hT (xh (show wpAny _ _ (setField (.ref it) 0 .none >>= _) _ _ s from xc (uy ho hf (by simp) (show wpAny _ _ (newExc (.type "StopIteration") [] >>= _) _ _ _ from xc ?_))))));simp only[newExc,newTuple];refine xc (xW (xc (m:=firstArgMember _ _) (uU (a:=Value.none) (by first|rfl|(simp only[firstArgMember];rfl)) (xW ?_ (by size_fits)))) (by size_fits));simp only[raiseNew];refine xc (wpAny_handled ?_);rw[show A.in1.handled=none from hh];refine xc (xh (wpAny_throw ?_));exact xc (ub (T:="StopIteration") (b:=true) ⟨_,xy _ rfl,rfl⟩ isSubtype_stop (xh (hQ _ (((vS ..).extBut.push _).push _))))
end
section
variable {prog:Program}{w:World}{A:Around}{E:Value->Shared->Prop}{s:Shared}{d it:Addr}{es:Array DictEntry}{ep i:Nat}{ok ov:Value}
def yBr{Q:Option Value->Shared->Prop}(hit:IsItemIter s.heap it d i es.size ep ok ov)(hm:DAt s.heap d es ep)(hx:es[i]?=some e)
  (hQ:∀h',IsItemIterOut h' it d (i+1) es.size ep e.key e.val s.heap.objs.size->h'.get? s.heap.objs.size=some { cls:=.type "tuple",data:=.seq #[e.key,e.val] }->h'.objs.size=s.heap.objs.size+1->
   (∀b o,b≠it->s.heap.get? b=some o->h'.get? b=some o)->Q (some (.ref s.heap.objs.size)) { s with heap:=h' }):wpAny (model prog w) A (pyNext (.ref it)) Q E s:=by
 obtain⟨hp,g,dr,tk,os⟩:=s;obtain⟨od,hod,_,hdd⟩:=id hm;have hT:Shared.TypeIs ⟨hp,g,dr,tk,os⟩ (.ref it) "dict_itemiterator":=⟨_,hit,rfl⟩;unfold pyNext;refine xc (uw (vv (name:=Str.ofString "__next__") hT yJ (xK yJ hT F.entry_dict_itemiterator_next ?_ (F.args_dict_itemiterator_next_1 _))));refine xc (xh (xc (xc (xc (yV hT (xh (xc (yg hit rfl ?_))))))));simp only[show Builtin.Dict_items.ownsTuple "dict_itemiterator"=true by decide,xl];refine(show wpAny _ _ (if(Value.ref d == Value.none)=true then _ else _) _ _ _ from ?_);rw[xg (show ¬ ((Value.ref d == Value.none)=true)from vB)];refine xc (xh (xc (uB hod hdd ?_)));rw[xg (by simp)];refine xc (xh (xc (u3 hod hdd ?_)));rw[xg (by simp)];refine xh ?_;simp only[show ¬ ((i:Int)<0)from by nofun,xI,vw,hx];refine xc (xc (yV hT (xh (xc (wpAny_isOneOf_itemiter hT ?_)))));refine(show wpAny _ _ (setField (.ref it) 3 (rawInt ((i:Int)+1)) >>= _) _ _ ⟨hp,g,dr,tk,os⟩from xc (yK hit (by simp) λh1 he1 hs1=>?_))
 replace hs1:Heap.SameBut it hp h1:=hs1
 replace he1:IsItemIter h1 it d (i+1) es.size ep ok ov:=by unfold IsItemIter;rw[show((i+1:Nat):Int)=(i:Int)+1 by nofun];simpa[rawInt]using he1
 have hT1:Shared.TypeIs ⟨h1,g,dr,tk,os⟩ (.ref it) "dict_itemiterator":=⟨_,he1,rfl⟩;refine xc (xP (xc (wpAny_isOneOf_itemiter hT1 (xc (wpAny_isOneOf_itemiter hT1 ?_)))));refine(show wpAny _ _ (Builtin.Dict_items.pairFromOwner (.ref it) 6 e.key e.val) _ _ ⟨h1,g,dr,tk,os⟩from ?_);unfold Builtin.Dict_items.pairFromOwner;refine xc (wpAny_newTuple ?_);have he2:IsItemIter (h1.push { cls:=.type "tuple",data:=.seq #[e.key,e.val] }) it d (i+1) es.size ep ok ov:=xq _ he1;generalize hh2:h1.push { cls:=.type "tuple",data:=.seq #[e.key,e.val] }=h2 at he2;have z1:h1.objs.size=hp.objs.size:=hs1.1;have hil:it<hp.objs.size:=xo hit;have t2:h2.get? hp.objs.size=some { cls:=.type "tuple",data:=.seq #[e.key,e.val] }:=by rw[<- hh2,<- z1];exact xy _ rfl
 have z2:h2.objs.size=hp.objs.size+1:=by rw[<- hh2,ua,z1]
 have k2:∀b o,b≠it->hp.get? b=some o->h2.get? b=some o:=λb o hb q=>by rw[<- hh2];exact xq _ (hs1.extBut b o hb q)
 refine(show wpAny _ _ (Builtin.Dict_items.ownedTupleIsFree (.ref it) >>= _) _ _ ⟨h2,g,dr,tk,os⟩from ?_);rw[z1];clear hh2 he1 hs1 hT1 z1 h1;refine xc ?_;unfold Builtin.Dict_items.ownedTupleIsFree;refine xc (vD he2 rfl (x:=.none) rfl (xh ?_));simp only[xl];refine xc (vD he2 rfl (x:=ok) rfl (xc (vD he2 rfl (x:=ov) rfl (xc (yK he2 (by simp) λh3 he3 hs3=>?_)))))
 replace hs3:Heap.SameBut it h2 h3:=hs3
 replace he3:IsItemIter h3 it d (i+1) es.size ep e.key ov:=he3
 refine xc (yK he3 (by simp) λh4 he4 hs4=>?_);replace hs4:Heap.SameBut it h3 h4:=hs4
 replace he4:IsItemIter h4 it d (i+1) es.size ep e.key e.val:=he4
 refine xc (yK he4 (by simp) λh5 he5 hs5=>?_);replace hs5:Heap.SameBut it h4 h5:=hs5
 replace he5:IsItemIterOut h5 it d (i+1) es.size ep e.key e.val hp.objs.size:=he5
 refine xc (yK he5 (by simp) λh6 he6 hs6=>?_);replace hs6:Heap.SameBut it h5 h6:=hs6
 replace he6:IsItemIterOut h6 it d (i+1) es.size ep e.key e.val hp.objs.size:=he6
 have ext:∀b o,b≠it->h2.get? b=some o->h6.get? b=some o:=λb o hb q=>hs6.extBut b o hb (hs5.extBut b o hb (hs4.extBut b o hb (hs3.extBut b o hb q)))
 refine xc (wpAny_letGo (xh (xh ⟨_,rfl,xh (hQ h6 he6 (ext _ _ (uJ hil) t2) ?_ λb o hb q=>ext b o hb (k2 b o hb q))⟩)));show h6.objs.size=hp.objs.size+1;rw[hs6.1,hs5.1,hs4.1,hs3.1,z2]
def yD5{Q:Option Value->Shared->Prop}(hh:A.handled=none)(hit:IsItemIter s.heap it d i es.size ep ok ov)(hm:DAt s.heap d es ep)(hx:es[i]?=none)
  (hQ:∀h',Heap.ExtBut it s.heap h'->Q none { s with heap:=h' }):wpAny (model prog w) A (pyNext (.ref it)) Q E s:=by
 obtain⟨od,hod,_,hdd⟩:=id hm;have hT:s.TypeIs (.ref it) "dict_itemiterator":=⟨_,hit,rfl⟩;unfold pyNext;refine xc (uw (vv (name:=Str.ofString "__next__") hT yJ (xK yJ hT F.entry_dict_itemiterator_next ?_ (F.args_dict_itemiterator_next_1 _))));refine xc (xh (xc (xc (xc (yV hT (xh (xc (yg hit rfl ?_))))))));simp only[show Builtin.Dict_items.ownsTuple "dict_itemiterator"=true by decide,xl];refine(show wpAny _ _ (if(Value.ref d == Value.none)=true then _ else _) _ _ _ from ?_);rw[xg (show ¬ ((Value.ref d == Value.none)=true)from vB)];refine xc (xh (xc (uB hod hdd ?_)));rw[xg (by simp)];refine xc (xh (xc (u3 hod hdd ?_)));rw[xg (by simp)];refine xh ?_;simp only[show ¬ ((i:Int)<0)from by nofun,xI,vw,hx];refine xc (xc (yV hT (xh (show wpAny _ _ (setField (.ref it) 2 .none >>= _) _ _ s from xc (uy hit rfl (by simp) (show wpAny _ _ (newExc (.type "StopIteration") [] >>= _) _ _ _ from xc ?_))))));simp only[newExc,newTuple];refine xc (xW (xc (m:=firstArgMember _ _) (uU (a:=Value.none) (by first|rfl|(simp only[firstArgMember];rfl)) (xW ?_ (by size_fits)))) (by size_fits));simp only[raiseNew];refine xc (wpAny_handled ?_);rw[show A.in1.handled=none from hh];refine xc (xh (wpAny_throw ?_));exact xc (ub (T:="StopIteration") (b:=true) ⟨_,xy _ rfl,rfl⟩ isSubtype_stop (xh (hQ _ (((vS ..).extBut.push _).push _))))
end
section
variable {prog:Program}{w:World}{A:Around}{E:Value->Shared->Prop}{s:Shared}{d:Addr}
def zL4{Q:Value->Shared->Prop}(hd:(d == sysModules)=false)(hT:s.TypeIs (.ref d) "dict")(h:Q (.ref s.heap.objs.size) { s with heap:=s.heap.push { cls:=.type "dict_values",data:=.fields #[.ref d] } }):
  wpAny (model prog w) A (call (.builtin "dict.values") [.ref d]) Q E s:=by
 refine xK F.slot_dict_values hT F.entry_dict_values ?_ (F.args_dict_values_1 _);refine(show wpAny _ _ (Builtin.Dict.noArgs _ _ >>= _) _ _ s from xc (show wpAny _ _ (Builtin.Dict.notOrdered _ _ >>= _) _ _ s from xc (yU hT (show wpAny _ _ (pure d) _ _ s from xh ?_))));refine(show wpAny _ _ (Builtin.Dict.showsAll d >>= _) _ _ s from xc ?_);unfold Builtin.Dict.showsAll;rw[xg (by rw[hd];exact vB)];exact xh (xc (xW (xh ⟨_,rfl,h⟩)))
def zNn{Q:Value->Shared->Prop}(hd:(d == sysModules)=false)(hT:s.TypeIs (.ref d) "dict")(h:Q (.ref s.heap.objs.size) { s with heap:=s.heap.push { cls:=.type "dict_items",data:=.fields #[.ref d] } }):
  wpAny (model prog w) A (call (.builtin "dict.items") [.ref d]) Q E s:=by
 refine xK F.slot_dict_items hT F.entry_dict_items ?_ (F.args_dict_items_1 _);refine(show wpAny _ _ (Builtin.Dict.noArgs _ _ >>= _) _ _ s from xc (show wpAny _ _ (Builtin.Dict.notOrdered _ _ >>= _) _ _ s from xc (yU hT (show wpAny _ _ (pure d) _ _ s from xh ?_))));refine(show wpAny _ _ (Builtin.Dict.showsAll d >>= _) _ _ s from xc ?_);unfold Builtin.Dict.showsAll;rw[xg (by rw[hd];exact vB)];exact xh (xc (xW (xh ⟨_,rfl,h⟩)))
def zUi{i n ep:Nat}{Q:Value->Shared->Prop}(hT:DIt b s.heap it d i n ep)(h:Q (.ref it) s):wpAny (model prog w) A (pyIter (.ref it)) Q E s:=by
 cases b
 ·exact wpAny_pyIter_valiter hT h
 ·exact wpAny_pyIter_keyiter hT h
end
end TS
namespace L2
open PySem PySem.Spec PyProof.Rows TS
open DS (D Store Exn Rs SR)
section
variable {X:Cx}{K:PySem.W.Frag}{E:XE}{J:Js}{S:Store}{H:Hp}{pins:List (Addr × Obj)}{σ:St}{s:Shared}{a:Addr}{kvs:List (List Key × V)}
def zQ9(I:Inv X pins σ H s)(rd:Rd H a (.dT kvs)):∃H' ob,Inv X pins σ H' s/\H' a=some (.frz ob (.dT kvs))/\(∀b,b≠a->H' b=H b)/\(H' a=H a\/H a=some (.dT kvs)):=by
 rcases rd with e|⟨ob,e⟩
 ·obtain⟨z,y,xs,r,o,es,ep,h1,h2⟩:=(show ObjOk X.prog X.w H s.heap a (.dT kvs)from I.hok a _ e);refine⟨upd H a (.frz o (.dT kvs)),o,?_,zAm,λb hb=>zAi hb,.inr e⟩;refine I.write (t':=s.toks) (x:=a) (e:=a) (by rw[e];exact True.intro) (.inl rfl) (λb q _ z=>z) ⟨o,h1⟩ ⟨h1,z,y,xs,?_,o,es,ep,h1,h2⟩;exact Paired.mapP r λp q z=>⟨z.1,by rw[zAi (yAy z.2.1 e (λz=>nomatch z))];exact z.2.1,z.2.2⟩
 ·exact⟨H,ob,I,e,λ_ _=>rfl,.inl rfl⟩
def zIj{H':Hp}(hn:a ∉ J)(ef:H' a=some (.frz ob (.dT kvs)))(he:∀b,b≠a->H' b=H b)(hd:H' a=H a\/H a=some (.dT kvs)):Grow J H J H' where
 pre:=λ_ _ h=>h
 new:=λ_ h n=>absurd h n
 keep:=λb o _ h=>by
  by_cases q:b=a
  ·subst q;rcases hd with z|z
   ·rw[z];exact .inl h
   ·rw[z]at h;cases h;exact .inr ⟨⟨_,rfl⟩,ob,ef⟩
  ·rw[he b q];exact .inl h
 dom:=λb h=>by
  by_cases q:b=a
  ·subst q;rw[ef]at h;cases h
  ·rw[<- he b q];exact h
def zKw{H':Hp}(ha:AbS K J S H)(hn:a ∉ J)(g:Grow J H J H')(he:∀b,b≠a->H' b=H b):AbS K J S H':=
 ⟨ha.len,ha.nd,λi c d e q=>by
  obtain⟨o,eo,r⟩:=ha.ob i c d e q;exact⟨o,by rw[he c (λz=>hn (by rw[<- z];exact uM e))];exact eo,r.grow g⟩⟩
def AbS.tupOut(ha:AbS K J S H)(h:H c=some (.tup xs)):c ∉ J:=λm=>by
 obtain⟨i,e⟩:=uO.mp m;obtain⟨d,_,o,eo,r⟩:=ha.at e;rw[h]at eo;cases eo;cases d with
 | lst ds=>obtain⟨_,z,_⟩:=r;cases z
 | dct t ks vs=>
  obtain⟨_,z,_⟩:=r;rcases z with⟨_,_,z,_⟩|⟨_,_,z,_⟩ <;> cases z
 | _=>exact r
def zHz:∀(k:List Key),RepL K J H (k.map keyD) (k.map kV)
 | []=>rfl
 | .inl i::k=>⟨_,_,rfl,rfl,zHz k⟩
 | .inr x::k=>⟨_,_,rfl,rfl,zHz k⟩
def zHy{k:List Key}(ha:AbS K J S H)(h:H c=some (.tup (k.map kV))):Rep K J H (zD5 k) (.ref c):=⟨c,_,rfl,⟨h,ha.tupOut h⟩,zHz k⟩
structure FrzD (ob:Obj) (es:Array DictEntry) (ep:Nat) (n:Nat):Prop where
 ex:ob.ExactDict
 dat:ob.data=.dict es ep
 len:es.size=n
def zEc(I:Inv X pins σ H s)(h:H a=some (.frz ob (.dT kvs))):∃es ep,FrzD ob es ep kvs.length/\DAt s.heap a es ep/\(a == sysModules)=false /\
  ∀(i:Nat) (p:List Key × V),kvs[i]?=some p->∃(c:Addr) (u:Value) (t:Int),es[i]?=some (DictEntry.mk t (.ref c) u)/\H c=some (.tup (p.1.map kV))/\RelV p.2 u:=by
 obtain⟨h0,z,y,xs,r,o,es,ep,h1,h2,h3,h4,h5⟩:=(show ObjOk X.prog X.w H s.heap a (.frz ob (.dT kvs))from I.hok a _ h);rw[h0]at h1;cases h1;have l1:=ue r;have l2:es.size=xs.length:=by have:=congrArg List.length h4;rw[xn,vf]at this;exact this
 refine⟨es,ep,⟨h2,h3,by rw[l2,<- l1]⟩,⟨_,h0,h2,h3⟩,y,λi p hp=>?_⟩;have hi:i<xs.length:=by rw[<- l1];exact(xO.mp hp).1
 have key:∀{l:List (List Key × V)}{m:List (List Key × Addr × Value)}{i:Nat}{p:List Key × V},Paired (fun(p:List Key × V) (q:List Key × Addr × Value)=>p.1=q.1/\H q.2.1=some (.tup (p.1.map kV))/\RelV p.2 q.2.2) l m->l[i]?=some p->∃q,m[i]?=some q/\p.1=q.1/\H q.2.1=some (.tup (p.1.map kV))/\RelV p.2 q.2.2:=by
  intro l m i p r;induction r generalizing i with
  | nil=>intro e;simp at e
  | cons h t ih=>
   intro e;cases i with
   | zero=>simp at e;subst e;exact⟨_,rfl,h⟩
   | succ i=>simpa using ih (i:=i) (by simpa using e)
 obtain⟨q,e1,_,e3,e4⟩:=key r hp;exact⟨q.2.1,q.2.2,(entryOfKey (tupleKind (zAu X.prog X.w)) q).hash,by rw[<- vM,h4,xQ,e1];rfl,e3,e4⟩
noncomputable def Itd (b:Bool) (a:Addr) (ob:Obj) (kvs:List (List Key × V)):It:=
  ⟨λi H=>H a=some (.frz ob (.dT kvs))/\i<kvs.length,
   λi H v H'=>H'=H/\H a=some (.frz ob (.dT kvs))/\∃p,kvs[i]?=some p/\((b=true/\∃c,v=.ref c/\H c=some (.tup (p.1.map kV)))\/(b=false/\v=p.2)),
   λi H=>H a=some (.frz ob (.dT kvs))/\kvs.length<=i⟩
def zUa{P:Program}{w:World}{tg:Expr}(b:Bool){a it:Addr}{ob:Obj}{es:Array DictEntry}{ep:Nat}(F:FrzD ob es ep kvs.length):Turn P w K tg (Itd b a ob kvs) [it] it (λi h=>DIt b h it a i es.size ep) where
 mem:=by simp
 obj:=λi h st c hc=>by
  rw[xE.mp hc];obtain⟨o,e,_,d⟩:=st;exact⟨o,e,λv z=>by rw[d]at z;cases z⟩
 keep:=λi h h' st k=>st.at λo e=>k it (by simp) o e
 item:=by
  intro X hP hw hK hc i pins s σ H E I hf st hg;subst hP hw hK;obtain⟨ha,hi⟩:=hg;obtain⟨es',ep',F',D,_,get⟩:=zEc I ha;obtain⟨rfl,rfl⟩:es'=es/\ep'=ep:=by have:=F'.dat.symm.trans F.dat;cases this;exact⟨rfl,rfl⟩
  obtain⟨c,u,t,e1,e2,e3⟩:=get i kvs[i] (xG hi);refine zVb st D e1 λh' it' sb=>⟨_,rfl,?_⟩
  obtain⟨oi,g1,g2,g3⟩:=id it';refine zQ7 (n:=itN b) (s:={ s with heap:=h' }) g1 g2 g3 (by cases b <;> decide) ?_;have I2:Inv X pins σ H { s with heap:=h',toks:=s.toks }:=I.turnedL (t':=s.toks) hf λc o hc e=>sb.extBut c o (λz=>hc (by simp[z])) e
  have nf:∀b∈[it],H b=none:=λb hb=>(hf b hb).1
  cases b
  ·exact⟨_,H,I2,e3,⟨rfl,ha,_,xG hi,.inr ⟨rfl,rfl⟩⟩,it',nf⟩
  ·exact⟨.ref c,H,I2,rfl,⟨rfl,ha,_,xG hi,.inl ⟨rfl,c,rfl,e2⟩⟩,it',nf⟩
 done:=by
  intro X hP hw hK hc i pins s σ H E I hf st hg;subst hP hw hK;obtain⟨ha,hi⟩:=hg;obtain⟨es',ep',F',D,_,get⟩:=zEc I ha;obtain⟨rfl,rfl⟩:es'=es/\ep'=ep:=by have:=F'.dat.symm.trans F.dat;cases this;exact⟨rfl,rfl⟩
  refine yC8 (I.ok.hd hc) st D (yf (by rw[F.len];exact hi)) λh' x=>⟨rfl,?_⟩
  exact I.turnedL (t':=s.toks) hf λc o hc e=>x c o (λz=>hc (by simp[z])) e
 self:=λA i s Q E st h=>zUi st h
noncomputable def Iti (a:Addr) (ob:Obj) (kvs:List (List Key × V)):It:=
  ⟨λi H=>H a=some (.frz ob (.dT kvs))/\i<kvs.length,
   λi H v H'=>H a=some (.frz ob (.dT kvs))/\∃p c T,kvs[i]?=some p/\H c=some (.tup (p.1.map kV))/\v=.ref T/\H T=none/\H'=upd H T (.tup [.ref c,p.2]),
   λi H=>H a=some (.frz ob (.dT kvs))/\kvs.length<=i⟩
def zZd{P:Program}{w:World}{ts:List Expr}{k:Nat}{tp:Pos}{a it:Addr}{ob:Obj}{es:Array DictEntry}{ep:Nat}(F:FrzD ob es ep kvs.length):Turn P w K (.Tuple ts k tp) (Iti a ob kvs) [it] it (λi h=>∃ok ov,IsItemIter h it a i es.size ep ok ov) where
 mem:=by simp
 obj:=λi h st c hc=>by
  rw[xE.mp hc];obtain⟨_,_,e⟩:=st;exact⟨_,e,λv z=>by cases z⟩
 keep:=λi h h' st k=>let ⟨ok,ov,e⟩:=st;⟨ok,ov,k it (by simp) _ e⟩
 item:=by
  intro X hP hw hK hc i pins s σ H E I hf st hg;subst hP hw hK;obtain⟨ha,hi⟩:=hg;obtain⟨ok,ov,st⟩:=st;obtain⟨es',ep',F',D,_,get⟩:=zEc I ha;obtain⟨rfl,rfl⟩:es'=es/\ep'=ep:=by have:=F'.dat.symm.trans F.dat;cases this;exact⟨rfl,rfl⟩
  obtain⟨c,u,t,e1,e2,e3⟩:=get i kvs[i] (xG hi);have elt:it<s.heap.objs.size:=xo st;have hfr:H s.heap.objs.size=none:=I.hok.fresh (xi _);refine yBr st D e1 λh' o1 tp sz kp=>⟨_,rfl,wpAny_letOwnedTupleGo_items (s:={ s with heap:=h' }) o1 λh2 i2 sb=>?_⟩
  have tp2:=sb.extBut _ _ (uJ elt) tp;refine⟨.ref s.heap.objs.size,upd H s.heap.objs.size (.tup [.ref c,kvs[i].2]),I.turnedT (t':=s.toks) hf (λb o hb e=>sb.extBut _ _ (λz=>hb (by simp[z])) (kp _ _ (λz=>hb (by simp[z])) e)) (xi _) ⟨by show 2<=sizeLine;decide,[.ref c,u],.cons rfl (.cons e3 .nil),⟨_,tp2,rfl,_,rfl⟩⟩,rfl,⟨ha,_,c,_,xG hi,e2,rfl,hfr,rfl⟩,⟨_,_,i2⟩,λb hb=>?_⟩;rw[xE.mp hb,zAi (xu elt)];exact(hf it (by simp)).1
 done:=by
  intro X hP hw hK hc i pins s σ H E I hf st hg;subst hP hw hK;obtain⟨ha,hi⟩:=hg;obtain⟨ok,ov,st⟩:=st;obtain⟨es',ep',F',D,_,get⟩:=zEc I ha;obtain⟨rfl,rfl⟩:es'=es/\ep'=ep:=by have:=F'.dat.symm.trans F.dat;cases this;exact⟨rfl,rfl⟩
  refine yD5 (I.ok.hd hc) st D (yf (by rw[F.len];exact hi)) λh' x=>⟨rfl,?_⟩
  exact I.turnedL (t':=s.toks) hf λc o hc e=>x c o (λz=>hc (by simp[z])) e
 self:=λA i s Q E st h=>let ⟨_,_,e⟩:=st;PySem.W.kcp_self e h
def zT7{H':Hp}(hn:a ∉ J)(h:H a=some (.frz ob u))(g:Grow J H J' H'):H' a=some (.frz ob u):=(g.keep a _ hn h).frz
def it_d{b:Bool}{gd:List (Nat × D)}(hn:a ∉ J)(h:H a=some (.frz ob (.dT kvs)))(rl:RepL K J H vs (kvs.map (·.2))):ItOk K J H ⟨if b then kvs.map (λp=>zD5 p.1)else vs,gd⟩ (Itd b a ob kvs) where
 go:=λi H' J' S' ha g _ hi=>⟨zT7 hn h g,by
  cases b
  ·have:=rl.length;rw[xn]at this;rw[<- this];exact hi
  ·simpa using hi⟩
 yld:=λi H' J' S' x H'' ha g _ y d ed=>by
  obtain⟨rfl,hf,p,hp,q⟩:=y;refine⟨ha,.refl,?_⟩;rcases q with⟨rfl,c,rfl,hc⟩|⟨rfl,rfl⟩
  ·rw[xf rfl,xQ,hp]at ed;cases ed;exact zHy ha hc
  ·have rl2:=RepL.grow g _ _ rl;obtain⟨x,ex,rx⟩:=rl2.get ed;rw[xQ,hp]at ex;cases ex;exact rx
 stop:=λi H' J' S' ha g _ hi=>⟨zT7 hn h g,by
  cases b
  ·have:=rl.length;rw[xn]at this;rw[<- this];exact hi
  ·simpa using hi⟩
def it_i{gd:List (Nat × D)}(hn:a ∉ J)(h:H a=some (.frz ob (.dT kvs)))(rl:RepL K J H vs (kvs.map (·.2))):ItOk K J H ⟨((kvs.map λp=>zD5 p.1).zip vs).map λq=>.tup [q.1,q.2],gd⟩ (Iti a ob kvs):=by
 have l1:vs.length=kvs.length:=by rw[rl.length,xn]
 have l2:(((kvs.map λp=>zD5 p.1).zip vs).map λq=>D.tup [q.1,q.2]).length=kvs.length:=by simp[l1]
 refine⟨λi H' J' S' ha g _ hi=>⟨zT7 hn h g,by rw[<- l2];exact hi⟩,λi H' J' S' x H'' ha g _ y d ed=>?_,λi H' J' S' ha g _ hi=>⟨zT7 hn h g,by rw[<- l2];exact hi⟩⟩;obtain⟨hf,p,c,T,hp,hc,rfl,hT,rfl⟩:=y;have rl2:=RepL.grow g _ _ rl;obtain⟨dv,ev,rv⟩:=rl2.get' (i:=i) (x:=p.2) (by rw[xQ,hp];rfl);have e2:(((kvs.map λp=>zD5 p.1).zip vs).map λq=>D.tup [q.1,q.2])[i]?=some (.tup [zD5 p.1,dv]):=by rw[xQ,List.getElem?_zip_eq_some (z:=(zD5 p.1,dv)) |>.mpr ⟨by rw[xQ,hp];rfl,ev⟩];rfl
 have ed:some d=some (D.tup [zD5 p.1,dv]):=ed.symm.trans e2;cases ed;exact⟨ha.push hT,.push hT,T,_,rfl,⟨zAm,ha.out hT⟩,_,_,rfl,Rep.grow (.push hT) _ _ (zHy ha hc),_,_,rfl,Rep.grow (.push hT) _ _ rv,rfl⟩
def zL1(r:Rep K J H (.dct true ks vs) v):∃a kvs,v=.ref a/\a ∉ J/\Rd H a (.dT kvs)/\ks=kvs.map (λp=>zD5 p.1)/\RepL K J H vs (kvs.map (·.2)):=by
 obtain⟨a,o,xs,rfl,hn,rd,t,rl⟩:=r;rcases t with⟨z,_⟩|⟨_,kvs,rfl,rfl,rfl⟩
 ·cases z
 ·exact⟨a,kvs,rfl,hn,rd,rfl,rl⟩
def zQq{p:List D × List D}(h:DS.dK1 d=some p):d=.dct true p.1 p.2:=by
 unfold DS.dK1 at h;split at h
 ·cases h;rfl
 ·cases h
def zYe(he:DE X K E e m)(hK:X.K=K:=by rfl):DI X K E tg e (DS.zTg m):=by
 subst hK;refine⟨⟨λpins s σ H R I hq1=>?_⟩⟩;obtain⟨env,S,J,ha,hE,q⟩:=hq1;refine thn (he.h.h pins s σ H (λx H1=>∃J1 S1 d p,AbS X.K J1 S1 H1/\Rep X.K J1 H1 d x/\DS.dK1 d=some p/\∀J' H',AbS X.K J' S1 H'->Grow J1 H1 J' H'->∀It,ItOk X.K J' H' ⟨p.1,[]⟩ It->R It H') I ⟨env,S,J,ha,hE,q.bind.imp λd S1 J1 H1 _ a1 g1 q1 x rx=>?_⟩) λv s1 hq1=>?_
 ·obtain⟨w,ew,k⟩:=q1.lift;obtain⟨p,e1,rfl⟩:=vQ.mp ew;exact⟨J1,S1,d,p,a1,rx,e1,k⟩
 ·obtain⟨x,H1,I1,r1,J1,S1,d,p,a1,rx,ew,k⟩:=hq1;obtain rfl:=zQq ew;obtain⟨a,kvs,rfl,hn,rd,ek,rl⟩:=zL1 rx;cases r1;obtain⟨H2,ob,I2,ef,eo,ed⟩:=zQ9 I1 rd;obtain⟨es,ep,F,D,ns,_⟩:=zEc I2 ef;have g:=zIj hn ef eo ed;refine zVc ns D ?_;have hle:=xi s1.heap.objs.size;have I3:=I2.kept (t':=s1.toks) (h':=s1.heap.push (diO true a es.size ep)) λb o e=>xq _ e
  refine⟨_,[s1.heap.objs.size],_,_,H2,rfl,I3,zUa true (a:=a) F,⟨_,xy _ rfl,rfl,rfl⟩,λc hc=>?_,k J1 H2 (zKw a1 hn g eo) g _ ?_⟩
  ·rw[xE.mp hc];exact I2.fpOk hle (I2.hok.fresh hle)
  ·rw[ek];exact it_d (b:=true) hn ef (RepL.grow g _ _ rl)
def rVw(cl:String):V->List V->Hp->VK->Prop:=λx xs H Q=>xs=[]/\∃a,x=.ref a/\IsD H a/\∀p,H p=none->Q (.ref p) (upd H p (.ext λh=>∃o,h.get? p=some o/\o.cls=.type cl/\o.data=.fields #[.ref a]))
def zZ8(I:Inv X pins σ H s):Inv X pins σ (upd H s.heap.objs.size (.ext λh=>∃o,h.get? s.heap.objs.size=some o/\o.cls=.type cl/\o.data=.fields #[.ref a])) { s with heap:=s.heap.push { cls:=.type cl,data:=.fields #[.ref a] } }:=
 I.laid (t':=s.toks) (λb o e=>xq _ e) (xi _) ⟨⟨_,xy _ rfl,rfl,rfl⟩,⟨_,xy _ rfl⟩,λh1 h2 ⟨o,e,r⟩ k=>⟨o,k o e,r⟩⟩
def zPf:MtR X "dict.values" (rVw "dict_values"):=by intro pins s σ H x xs v us Q I rx rs hq36;obtain⟨e,a,ex,hd,k⟩:=hq36;subst e ex;cases rs;cases rx;obtain⟨hT,_,ns⟩:=zV3 I hd;exact zL4 ns hT ⟨.ref s.heap.objs.size,_,zZ8 I,rfl,k _ (I.hok.fresh (xi _))⟩
def zSw:MtR X "dict.items" (rVw "dict_items"):=by intro pins s σ H x xs v us Q I rx rs hq37;obtain⟨e,a,ex,hd,k⟩:=hq37;subst e ex;cases rs;cases rx;obtain⟨hT,_,ns⟩:=zV3 I hd;exact zNn ns hT ⟨.ref s.heap.objs.size,_,zZ8 I,rfl,k _ (I.hok.fresh (xi _))⟩
def zQm{apos cpos:Pos}(he:DE X K E o m)(h:nba o=true:=by rfl)(hline:(apos.endLine == cpos.line)=true:=by rfl)(hK:X.K=K:=by rfl):DI X K E tg (.Call (.Attribute o "values" apos) [] [] cpos) (DS.zTf m):=by
 subst hK;refine⟨⟨λpins s σ H R I hq1=>?_⟩⟩;obtain⟨env,S,J,ha,hE,q⟩:=hq1;refine thn ((qbm0' PySem.F.plainAttrs_dict PySem.F.slot_dict_values PySem.F.type_dict_values zPf he.h h hline).h pins s σ H (λy H1=>∃J1 S1 a kvs vs p H0,y=.ref p/\H0 p=none/\H1=upd H0 p (.ext λh=>∃o,h.get? p=some o/\o.cls=.type "dict_values"/\o.data=.fields #[.ref a])/\a ∉ J1/\AbS X.K J1 S1 H1/\Rd H1 a (.dT kvs)/\RepL X.K J1 H1 vs (kvs.map (·.2))/\∀J' H',AbS X.K J' S1 H'->Grow J1 H1 J' H'->∀It,ItOk X.K J' H' ⟨vs,[]⟩ It->R It H') I ⟨env,S,J,ha,hE,q.bind.imp λd S1 J1 H1 _ a1 g1 q1 x rx=>?_⟩) λv s1 hq1=>?_
 ·obtain⟨w,ew,k⟩:=q1.lift;obtain⟨p,e1,rfl⟩:=vQ.mp ew;obtain rfl:=zQq e1;obtain⟨a,kvs,rfl,hn,rd,ek,rl⟩:=zL1 rx;refine⟨.inr (.inr (.inl ⟨rfl,.inr ⟨kvs,rd⟩⟩)),rfl,a,rfl,.inr ⟨kvs,rd⟩,λz hz=>?_⟩;have g:Grow J1 H1 J1 (upd H1 z (.ext λh=>∃o,h.get? z=some o/\o.cls=.type "dict_values"/\o.data=.fields #[.ref a])):=.push hz;exact⟨J1,S1,a,kvs,_,z,H1,rfl,hz,rfl,hn,a1.push hz,(g.rd hn rd).1,RepL.grow g _ _ rl,λJ' H' h1 g1=>k J' H' h1 (g.trans g1)⟩
 ·obtain⟨y,H1,I1,r1,J1,S1,a,kvs,vs,p,H0,ey,n0,e0,hn,a1,rd,rl,k⟩:=hq1;subst ey;cases r1;have hv:s1.heap.IsValuesView p a:=by
   obtain⟨z,_⟩:=(show ObjOk X.prog X.w H1 s1.heap p (.ext _)from I1.hok p _ (by rw[e0];exact zAm));exact z
  obtain⟨H2,ob,I2,ef,eo,ed⟩:=zQ9 I1 rd;obtain⟨es,ep,F,D,ns,_⟩:=zEc I2 ef;have g:=zIj hn ef eo ed;refine zZ9 hv D ?_;have hle:=xi s1.heap.objs.size;have I3:=I2.kept (t':=s1.toks) (h':=s1.heap.push (diO false a es.size ep)) λb o e=>xq _ e
  refine⟨_,[s1.heap.objs.size],_,_,H2,rfl,I3,zUa false (a:=a) F,⟨_,xy _ rfl,rfl,rfl⟩,λc hc=>?_,k J1 H2 (zKw a1 hn g eo) g _ ?_⟩
  ·rw[xE.mp hc];exact I2.fpOk hle (I2.hok.fresh hle)
  ·exact it_d (b:=false) hn ef (RepL.grow g _ _ rl)
def zTt{apos cpos:Pos}(he:DE X K E o m)(h:nba o=true:=by rfl)(hline:(apos.endLine == cpos.line)=true:=by rfl)(hK:X.K=K:=by rfl):DI X K E (.Tuple ts tk tp) (.Call (.Attribute o "items" apos) [] [] cpos) (DS.zM3 m):=by
 subst hK;refine⟨⟨λpins s σ H R I hq1=>?_⟩⟩;obtain⟨env,S,J,ha,hE,q⟩:=hq1;refine thn ((qbm0' PySem.F.plainAttrs_dict PySem.F.slot_dict_items PySem.F.type_dict_items zSw he.h h hline).h pins s σ H (λy H1=>∃J1 S1 a kvs vs p H0,y=.ref p/\H0 p=none/\H1=upd H0 p (.ext λh=>∃o,h.get? p=some o/\o.cls=.type "dict_items"/\o.data=.fields #[.ref a])/\a ∉ J1/\AbS X.K J1 S1 H1/\Rd H1 a (.dT kvs)/\RepL X.K J1 H1 vs (kvs.map (·.2))/\∀J' H',AbS X.K J' S1 H'->Grow J1 H1 J' H'->∀It,ItOk X.K J' H' ⟨((kvs.map λp=>zD5 p.1).zip vs).map λq=>.tup [q.1,q.2],[]⟩ It->R It H') I ⟨env,S,J,ha,hE,q.bind.imp λd S1 J1 H1 _ a1 g1 q1 x rx=>?_⟩) λv s1 hq1=>?_
 ·obtain⟨w,ew,k⟩:=q1.lift;obtain⟨p,e1,rfl⟩:=vQ.mp ew;obtain rfl:=zQq e1;obtain⟨a,kvs,rfl,hn,rd,ek,rl⟩:=zL1 rx;refine⟨.inr (.inr (.inl ⟨rfl,.inr ⟨kvs,rd⟩⟩)),rfl,a,rfl,.inr ⟨kvs,rd⟩,λz hz=>?_⟩;have g:Grow J1 H1 J1 (upd H1 z (.ext λh=>∃o,h.get? z=some o/\o.cls=.type "dict_items"/\o.data=.fields #[.ref a])):=.push hz;refine⟨J1,S1,a,kvs,_,z,H1,rfl,hz,rfl,hn,a1.push hz,(g.rd hn rd).1,RepL.grow g _ _ rl,λJ' H' h1 g1=>?_⟩;rw[<- ek];exact k J' H' h1 (g.trans g1)
 ·obtain⟨y,H1,I1,r1,J1,S1,a,kvs,vs,p,H0,ey,n0,e0,hn,a1,rd,rl,k⟩:=hq1;subst ey;cases r1;have hv:s1.heap.IsItemsView p a:=by
   obtain⟨z,_⟩:=(show ObjOk X.prog X.w H1 s1.heap p (.ext _)from I1.hok p _ (by rw[e0];exact zAm));exact z
  obtain⟨H2,ob,I2,ef,eo,ed⟩:=zQ9 I1 rd;obtain⟨es,ep,F,D,ns,_⟩:=zEc I2 ef;have g:=zIj hn ef eo ed;refine yBs hv D ?_;have hle:=xi s1.heap.objs.size;have I3:=I2.kept (t':=s1.toks) (h':=s1.heap.push { cls:=.type "dict_itemiterator",data:=.fields #[.none,.bool false,.ref a,.int 0 0,.int es.size 0,.int ep 0,.none,.none] }) λb o e=>xq _ e
  refine⟨_,[s1.heap.objs.size],_,_,H2,rfl,I3,zZd (a:=a) F,⟨_,_,xy _ rfl⟩,λc hc=>?_,k J1 H2 (zKw a1 hn g eo) g _ (it_i hn ef (RepL.grow g _ _ rl))⟩;rw[xE.mp hc];exact I2.fpOk hle (I2.hok.fresh hle)
def zXc(hu:X.A.units+1<cLine):MtR X "dict.get" (mOf K DS.getM):=by
 intro pins s σ H x xs v us Q I rx rs hq38;obtain⟨J,S,d1,ds,d,S',ha,r1,rl,e,k⟩:=hq38;unfold DS.getM at e;split at e
 ·rename_i ks vs dk dv el;split at e
  ·rename_i hk;cases e;obtain⟨a,o,ys,rfl,he,q,rv⟩:=zJw ha r1 el;obtain⟨y,t,rfl,ry,rt⟩:=rl;obtain⟨z,rfl,rz⟩:=zCs (ds:=[]) rt;obtain⟨u1,u2,rfl,ru1,ru2⟩:=vals2 rs;cases rx;rcases zL0 he q rv ry hk with⟨g,_,h⟩|⟨w,dw,g,_,h,rw'⟩
   ·rw[h]at k;exact zVd hu I g ru1 ru2 λw s' I' r'=>⟨_,H,I',r',k _ H ha .refl rz⟩
   ·rw[h]at k;exact zVd hu I g ru1 ru2 λw' s' I' r'=>⟨_,H,I',r',k _ H ha .refl rw'⟩
  ·cases e
 ·cases e
end
end L2
namespace TS
open PySem PySem.W
section
variable {prog:Program}{w:World}{d:Addr}{es:Array DictEntry}{ep:Nat}
def zVm{A:Around}(hh:A.handled=none)(hne:d≠it):Walks prog w A it [it,d] [it] es.size (λi v=>∃e,es[i]?=some e/\v=e.key) (λi h=>DIt true h it d i es.size ep/\DAt h d es ep) where
 sub:=by simp
 frame:=λi h h' st k=>⟨st.1.at λo e=>k it (by simp) o e,st.2.at λo e=>k d (by simp) o e⟩
 item:=λi s Q E hi st hQ=>zVb st.1 st.2 (e:=es[i]) (by simp[hi]) λh' it' sb=>hQ _ h' s.toks ⟨es[i],by simp[hi],rfl⟩ ⟨it',st.2.at λo e=>sb.extBut _ _ hne e⟩ λb o hb e=>sb.extBut b o (λz=>hb (by simp[z])) e
 done:=λs Q E st hQ=>yC8 hh st.1 st.2 (by simp) λh' x=>hQ h' s.toks λb o hb e=>x b o (λz=>hb (by simp[z])) e
 self:=λi s Q E st hQ=>zUi st.1 hQ
def yD1(lo:(d == sysModules)=false):KdlSrc prog w "dict" d d es.size (λi v=>∃e,es[i]?=some e/\v=e.key) (λh=>DAt h d es ep) where
 type:=λ_ hm=>hm.ty
 there:=λ_ hm=>let ⟨_,e,_⟩:=hm;⟨xo e,xo e⟩
 keep:=λ_ _ hm hk=>hm.at λo e=>hk d (.inl rfl) o e
 notList:=by decide
 notTuple:=by decide
 hint:=λ_ _ _ _ hm hq=>kdl_hint_dict hm.ty hq
 iter:=λ_ s hh hm=>⟨_,_,(λ_ _ hq=>zVc lo hm hq),zVm (ep:=ep) hh (by obtain⟨_,e,_⟩:=hm;exact xu (xo e)),⟨⟨_,xy _ rfl,rfl,rfl⟩,hm.at λo e=>xq _ e⟩⟩
end
end TS
namespace L2
open PySem PySem.Spec PyProof.Rows TS
open DS (D Store Exn Rs SR)
section
variable {X:Cx}{K:PySem.W.Frag}{E:XE}{J:Js}{S:Store}{H:Hp}{pins:List (Addr × Obj)}{σ:St}{s:Shared}{a:Addr}{kvs:List (List Key × V)}
def zZr(I:Inv X pins σ H s)(h:Rd H a (.dT kvs)):∃es ep,es.size=kvs.length/\kvs.length<=sizeLine/\DAt s.heap a es ep/\(a == sysModules)=false /\
  ∃cs:List Addr,cs.length=kvs.length/\(∀(i:Nat) (c:Addr),cs[i]?=some c->∃(u:Value) (t:Int),es[i]?=some (DictEntry.mk t (.ref c) u))/\∀(i:Nat) (c:Addr) (p:List Key × V),cs[i]?=some c->kvs[i]?=some p->H c=some (.tup (p.1.map kV)):=by
 obtain⟨z,y,xs,r,o,es,ep,h1,h2,h3,h4,h5⟩:=(show ObjOk X.prog X.w H s.heap a (.dT kvs)from zOi I.hok h);have l1:=ue r;have l2:es.size=xs.length:=by have:=congrArg List.length h4;rw[xn,vf]at this;exact this
 refine⟨es,ep,by rw[l2,<- l1],z,⟨o,h1,h2,h3⟩,y,xs.map λq=>q.2.1,by rw[xn,l1],λi c hc=>?_,?_⟩
 ·rw[xQ]at hc;obtain⟨q,e1,rfl⟩:=vQ.mp hc;exact⟨q.2.2,(entryOfKey (tupleKind (zAu X.prog X.w)) q).hash,by rw[<- vM,h4,xQ,e1];rfl⟩
 ·clear h4 h5 l1 l2 z h
  induction r with
  | nil=>intro i c p hc;simp at hc
  | cons h t ih=>
   intro i c p hc hp;cases i with
   | zero=>simp at hc hp;subst hc hp;exact h.2.1
   | succ i=>exact ih i c p (by simpa using hc) (by simpa using hp)
def zEd(hc:X.calm=true)(hK:X.K=K:=by rfl):zBl X (.type "list") (cOfF K DS.zIf):=by
 subst hK;intro pins s σ H xs us Q I r hq39;obtain⟨J,S,ds,d,ha,rl,e,k⟩:=hq39;unfold DS.zIf at e;split at e
 ·rename_i d0;obtain⟨x,rfl,rx⟩:=zCs (ds:=[]) rl;split at e
  ·rename_i ks vs el;cases e;obtain⟨a,o,ys,rfl,he,q,_⟩:=zJw ha rx el;obtain⟨u,rfl,ru⟩:=vals1 r;cases ru;rcases q with⟨z,_⟩|⟨_,kvs,rfl,ek,_⟩
   ·cases z
   obtain⟨es,ep,l1,l2,D,ns,cs,l3,c1,c2⟩:=zZr I he;refine PySem.W.kdl_call (yD1 ns) (I.ok.hd hc) D (by rw[l1];exact l2) λh' tk acc c' kp hS hacc=>?_
   have ea:acc.toList=cs.map Value.ref:=by
    refine yu λi=>?_
    rw[vM,xQ];by_cases hi:i<acc.size
    ·have hi2:i<cs.length:=by rw[l3,<- l1,<- hacc.1];exact hi
     obtain⟨e,e1,e2⟩:=hacc.2 i acc[i] (by simp[hi]);obtain⟨u,t,e3⟩:=c1 i cs[i] (xG hi2);rw[e1]at e3;cases e3;rw[vm hi,e2,xG hi2];rfl
    ·rw[yf (by nofun),vF (by rw[l3,<- l1,<- hacc.1];lia)];rfl
   have hfr:=I.hok.fresh (xi s.heap.objs.size);refine⟨.ref s.heap.objs.size,upd H s.heap.objs.size (.lst (cs.map V.ref)),I.laid (t':=tk) kp (xi _) ⟨by rw[xn,l3];exact l2,cs.map Value.ref,c',?_,?_⟩,rfl,k _ _ H ha .refl hfr ⟨_,rfl,?_⟩⟩
   ·clear c1 c2 ea l3
    induction cs with
    | nil=>exact .nil
    | cons c cs ih=>exact .cons rfl ih
   ·rw[hS,<- ea]
   ·rw[ek];refine RepL.of (by rw[xn,xn,l3]) λi d x e1 e2=>?_
    rw[xQ]at e1 e2;obtain⟨p,f1,rfl⟩:=vQ.mp e1;obtain⟨c,f2,rfl⟩:=vQ.mp e2;exact zHy ha (c2 i c p f2 f1)
  ·cases e
 ·cases e
def rRng:List V->Hp->VK->Prop:=λxs H Q=>∃i j:Int,xs=[.int i,.int j]/\∀p,H p=none->Q (.ref p) (upd H p (.rng i j))
def zU1:zBl X (.type "range") rRng:=by intro pins s σ H xs us Q I r hq40;obtain⟨i,j,e,k⟩:=hq40;subst e;obtain⟨u1,u2,rfl,⟨t1,rfl⟩,⟨t2,rfl⟩⟩:=vals2 r;refine call_range_2 ?_;exact⟨.ref s.heap.objs.size,upd H s.heap.objs.size (.rng i j),I.laid (t':=s.toks+1) (λb o e=>xq _ e) (xi _) ⟨_,_,_,xy _ rfl⟩,rfl,k _ (I.hok.fresh (xi _))⟩
def rLR:List V->Hp->VK->Prop:=λxs H Q=>∃p,∃i j:Int,xs=[.ref p]/\H p=some (.rng i j)/\DS.fits62 i=true/\DS.fits62 j=true/\(j-i).toNat<=DS.most/\∀q,H q=none->Q (.ref q) (upd H q (.lst ((List.range (j-i).toNat).map fun(k:Nat)=>V.int (i+k))))
def zYp(hc:X.calm=true):zBl X (.type "list") rLR:=by
 intro pins s σ H xs us Q I r hq41;obtain⟨p,i,j,e,hp,f1,f2,hm,k⟩:=hq41;subst e;obtain⟨u,rfl,ru⟩:=vals1 r;cases ru;obtain⟨t1,t2,t3,hr⟩:=(show ObjOk X.prog X.w H s.heap p (.rng i j)from I.hok p _ hp);have sz:Builtin.Range.rangeSize i j 1=((j-i).toNat:Nat):=by rw[rangeSize_one];split <;> lia
 refine call_list_range (n:=(j-i).toNat) (I.ok.hd hc) hr (small_one (fits_of f1).1 (fits_of f1).2 (fits_of f2).1 (fits_of f2).2) sz hm λh' tk acc c' kp hS hacc=>?_
 have hn:=I.hok.fresh (xi s.heap.objs.size);refine⟨.ref s.heap.objs.size,_,I.laid (t':=tk) kp (xi _) (o:=.lst ((List.range (j-i).toNat).map fun(k:Nat)=>V.int (i+k))) ⟨?_,acc.toList,c',?_,by rw[hS]⟩,rfl,k _ hn⟩
 ·rw[xn,vc,vC];exact xm hm (by decide)
 ·have key:∀(n:Nat) (l:List Value),l.length=n->(∀(q:Nat) (v:Value),l[q]?=some v->∃t,v=.int (i+(q:Int)*1) t)->Vals ((List.range n).map fun(k:Nat)=>V.int (i+k)) l:=by
   intro n;induction n with
   | zero=>intro l hl _;rw[uA hl];exact .nil
   | succ n ih=>
    intro l hl h;obtain⟨v,e⟩:∃v,l[n]?=some v:=⟨l[n]'(by nofun),xG _⟩
    have hs:l=l.take n++[v]:=by
     rw[<- vG n l];have:l.drop n=[v]:=by
      have hd:(l.drop n).length=1:=by rw[ug,hl];lia
      obtain⟨w,ew⟩:=List.length_eq_one_iff.mp hd;rw[ew];have:(l.drop n)[0]?=some w:=by rw[ew];rfl
      rw[List.getElem?_drop,Nat.add_zero,e]at this;cases this;rfl
     rw[this,List.take_append_of_le_length (by rw[vd];lia),List.take_take,Nat.min_self]
    rw[List.range_succ,vn,hs];obtain⟨t,rfl⟩:=h n v e;refine Vals.append (ih _ (by rw[vd];lia) λq v' e'=>?_) (.cons ⟨t,by rw[Int.mul_one]⟩ .nil);by_cases hq:q<n
    ·exact h q v' (by rw[uf hq]at e';exact e')
    ·rw[vF (by rw[vd];lia)]at e';cases e'
  exact key _ _ (by rw[vf];exact hacc.1) λq v e=>hacc.2 q v (by rw[<- vM];exact e)
def zJu{a b:Expr}{p p2 pos pos2:Pos}{am:DS.AM}(hc:X.calm=true)(ha:DA X K E [a,b] am)(hgl:Gl X "list")(hml:X.mg "list"=none)(hgr:Gl X "range")(hmr:X.mg "range"=none)(h:[a,b].all nst=true:=by rfl):
  DF X K E (.Call (.Name "list" p) [.Call (.Name "range" p2) [a,b] [] pos2] [] pos) (DS.eLR am):=by
 refine⟨(zI1 (zYp hc) hgl hml yv (qa' (zI1 zU1 hgr hmr PyProof.Rows.boot_range ha.h (by decide) (by decide) h) pa_nil')).imp λσ H Q hq1=>?_⟩;obtain⟨env,S,J,h0,hE,q⟩:=hq1;refine⟨env,S,J,h0,hE,q.bind.imp λds S1 J1 H1 e1 a1 g1 q1 xs rx=>?_⟩;obtain⟨d,ed,k⟩:=q1.lift;unfold DS.zT4 at ed;obtain⟨w,ew,ed⟩:=Option.bind_eq_some_iff.mp ed;unfold DS.zF0 at ew;split at ew
 ·have:=ha.len _ _ _ _ e1;simp at this
 ·rename_i i j;split at ew
  ·rename_i hf;cases ew;rw[xM]at hf;split at ed
   ·rename_i hl;cases ed;obtain⟨x,y,rfl,r1,r2⟩:=zKg rx;cases r1;cases r2;refine⟨i,j,rfl,λz hz=>⟨z,i,j,rfl,zAm,hf.1,hf.2,by simpa[DS.zCr]using hl,λq hq=>?_⟩⟩;refine k J1 _ (a1.push hz) (.push hz) q _ hq ⟨_,rfl,?_⟩;refine RepL.of (by simp[DS.zCr]) λn d x e1 e2=>?_
    unfold DS.zCr at e1;rw[xQ]at e1 e2;obtain⟨m1,f1,rfl⟩:=vQ.mp e1;obtain⟨m2,f2,rfl⟩:=vQ.mp e2;rw[f1]at f2;cases f2;rfl
   ·cases ed
  ·cases ew
 ·cases ew
end
end L2
namespace PySem
open Sem (wp)
def zXz{prog:Program}{w:World}{A:Around}{E:Value->Shared->Prop}{s:Shared}{a:Addr}{o:Obj}{xs:Array Value}{k:Nat}{name:Str}{Q:Option Value->Shared->Prop}
  (hx:s.heap.get? a=some o) (hc:o.cls=.type "list") (hdat:o.data=.seq xs k) (hd:o.dict=none) (hmiss:typeLookup (.type "list") name=pure none) (hname:(["__module__","__name__","__qualname__","__doc__","__annotations__"]:List Str).contains name=false) (hA:A.handled=none)
  (h:∀h' tk,(∀b ob,s.heap.get? b=some ob->h'.get? b=some ob)->Q none { s with heap:=h',toks:=tk }) (hsz:name.length+100<=sizeLine):
  wpAny (model prog w) A (getAttr? (.ref a) name) Q E s:=by
 obtain⟨c,dct,dat,sl⟩:=o;simp only at hc hdat hd;subst hc hdat hd;obtain⟨hp,g,d,tk,os⟩:=s;have hT:∀tk',(⟨hp,g,d,tk',os⟩:Shared).TypeIs (.ref a) "list":=λ_=>⟨_,hx,rfl⟩
 have f1:=sub_AttributeError;have f3:=F.slot_list_getattribute.lookup;have f4:=F.slot_list_getattribute.bind (.ref a);have f5:=am_list_getattr_none;unfold getAttr? getAttrBy? getAttrBy
 repeat (any_goals (first|assumption|exact hT _|((with_reducible show wpAny _ _ (call (Value.builtin "list.__getattribute__") _ _) _ _ _);refine call_meets F.slot_list_getattribute (hT _) am_entry_list_getattribute (F.args_list_getattribute_2 _ _) (meets_getattribute_miss_list a xs k sl name _ hmiss hname hsz) ⟨hx,hA,λh' tk' e hx'=>?_⟩)|wp_step))
 obtain⟨t',u',he⟩:=hx'.there;show wpAny _ _ (getattributeRaised _ _ _ _ _ _ _) _ _ _;unfold getattributeRaised
 repeat (any_goals (first|assumption|wp_step))
 exact h _ _ hx'.keeps
namespace F
def plain_upd_loop:plainId "dict.update.loop"=true:=by decide +kernel
def entry_upd_loop:entryFor table "dict.update.loop"=some Builtin.«dict.update.loop»:=entryFor_of_fast (by kernel_rfl)
end F
section
variable {prog:Program}{w:World}{K:Type}[DecidableEq K] {kd:HeapKind prog w K}{A:Around}{R:Result->Shared->Prop}
abbrev zKd(K:Type):=K × Addr × Addr × Value
noncomputable def zO6 (xs:List (K × Addr × Value)) (ps:List (zKd K)):List (K × Addr × Value):=ps.foldl (λacc q=>storedH acc q.1 q.2.2.1 q.2.2.2) xs
def zN4{x:K × Addr × Value}(h:x∈storedH xs k a v):(∃y∈xs,y.1=x.1/\y.2.1=x.2.1)\/(x.1=k/\x.2.1=a):=by
 unfold storedH at h;split at h
 ·obtain⟨y,hy,e⟩:=xt.mp h;refine .inl ⟨y,hy,?_⟩;unfold putAt at e;split at e <;> (subst e;exact⟨rfl,rfl⟩)
 ·rcases xJ.mp h with z|z
  ·exact .inl ⟨x,z,rfl,rfl⟩
  ·rw[xE.mp z];exact .inr ⟨rfl,rfl⟩
def zN6(xs:List (K × Addr × Value))(k:K)(a:Addr)(v:Value):(storedH xs k a v).length<=xs.length+1:=by
 unfold storedH;split
 ·rw[xn];exact Nat.le_succ _
 ·rw[xw];exact xi _
def zLc(hh:A.handled=none)(hu:kd.room A.in1)(kp:∀{h h':Heap}{k:K}{a:Addr},kd.is h k a->(∀o,h.get? a=some o->h'.get? a=some o)->kd.is h' k a){h₁:Heap}(hIl:l≠I)(hpl:p≠l)(hpI:p≠I){its:Array Value}:
  ∀(rest:List (zKd K)) (i:Nat) (c:Int) (t:Tok) (s:Shared) (xs:List (K × Addr × Value)),(∀j,its[i+j]?=rest[j]?.map λq=>.ref q.2.1)->i+rest.length=its.size->
  s.heap.IsListIter I l i->s.heap.IsList l its->(∀b o,b≠I->b≠p->h₁.get? b=some o->s.heap.get? b=some o)->s.heap.DictOfH kd p xs->
  (∀x∈xs,x.2.1≠I)->
  (∀q∈rest,PyProof.Rows.IsTup h₁ q.2.1 #[.ref q.2.2.1,q.2.2.2]/\q.2.1≠I/\q.2.1≠p/\kd.is h₁ q.1 q.2.2.1/\q.2.2.1≠I/\q.2.2.1≠p)->xs.length+rest.length<=sizeLine->
  (∀h' tk,h'.DictOfH kd p (zO6 xs rest)->(∀b o,b≠I->b≠p->h₁.get? b=some o->h'.get? b=some o)->R (.ok (.ret .none)) { s with heap:=h',toks:=tk })->
  codeAny (model prog w) A (.builtin "dict.update.loop" ⟨[.ref p,.ref I,.int c t,.none],[]⟩) R s
 | [],i,c,t,s,xs,hi,hn,hit,hl,hk,hd,hx,_,_,hR=>by
  have W:=Walks.list (prog:=prog) (w:=w) (A:=A.in1) hh I l hIl its;refine uu F.entry_upd_loop ?_;rw[yA F.plain_upd_loop _];show wpAny _ A.in1 (pyNext (.ref I) >>= _) _ _ s;refine xc (W.done s _ _ ⟨by rw[<- hn];exact hit,hl⟩ λh' tk hk'=>?_);have kk:∀b o,b≠I->s.heap.get? b=some o->h'.get? b=some o:=λb o hb e=>hk' b o (λz=>hb (xE.mp z)) e
  show wpAny _ A.in1 (Builtin.Dict.addKeywords p [] >>= _) _ _ _;refine xc (xh (xh (hR h' tk ?_ λb o h1 h2 e=>kk b o h1 (hk b o h1 h2 e))));obtain⟨o,es,ep,g1,g2,g3,g4,g5,g6⟩:=hd;exact⟨o,es,ep,kk _ _ hpI g1,g2,g3,g4,λx hx'=>kp (g5 x hx') λo e=>kk _ _ (hx x hx') e,g6⟩
 | q::rest,i,c,t,s,xs,hi,hn,hit,hl,hk,hd,hx,hq,hz,hR=>by
  have W:=Walks.list (prog:=prog) (w:=w) (A:=A.in1) hh I l hIl its;have lt:i<its.size:=by rw[<- hn,xB];lia
  refine uu F.entry_upd_loop ?_;rw[yA F.plain_upd_loop _];show wpAny _ A.in1 (pyNext (.ref I) >>= _) _ _ s;refine xc (W.item i s _ _ lt ⟨hit,hl⟩ λv h' tk hP hst hk'=>?_);have kk:∀b o,b≠I->s.heap.get? b=some o->h'.get? b=some o:=λb o hb e=>hk' b o (λz=>hb (xE.mp z)) e
  have hv:v=.ref q.2.1:=by have:=hi 0;rw[Nat.add_zero,hP]at this;exact xN this
  subst hv;obtain⟨⟨ot,ht,htc,n,htd⟩,a1,a2,a3,a4,a5⟩:=hq q (.head _);have ht':=kk _ _ a1 (hk _ _ a1 a2 ht);refine xc (xP ?_);refine xc (wpAny_tryCatch ?_);unfold Builtin.Dict.pairItems;refine xc (v9 (T:="tuple") ⟨ot,ht',htc⟩ ?_);rw[xf (by decide)];refine xc (uP ht' htd (xh ?_));show wpAny _ A.in1 (holding [.ref q.2.2.1,q.2.2.2] (dictSet p (.ref q.2.2.1) q.2.2.2)) _ _ _;have hd':h'.DictOfH kd p xs:=by obtain⟨o,es,ep,g1,g2,g3,g4,g5,g6⟩:=hd;exact⟨o,es,ep,kk _ _ hpI g1,g2,g3,g4,λx hx'=>kp (g5 x hx') λo e=>kk _ _ (hx x hx') e,g6⟩
  have key:kd.is h' q.1 q.2.2.1:=kp a3 λo e=>kk _ _ a4 (hk _ _ a4 a5 e)
  refine xP (wpAny_dictSet_heap (s:={ s with heap:=h',toks:=tk }) (hsz:=by rw[xB]at hz;lia) hu key hd' λh2 hd2 sb=>?_);have k2:∀b o,b≠p->h'.get? b=some o->h2.get? b=some o:=λb o hb e=>(sb.2 b hb).trans e
  refine xh ⟨yd F.plain_upd_loop _,?_⟩;refine zLc hh hu kp hIl hpl hpI rest (i+1) _ _ { s with heap:=h2,toks:=tk+kd.draws q.1 } (storedH xs q.1 q.2.2.1 q.2.2.2) (λj=>?_) (by rw[<- hn,xB];lia) (hst.1.at λo e=>k2 _ _ (xv hpI) e) (hst.2.at λo e=>k2 _ _ (xv hpl) e) (λb o h1 h2' e=>k2 b o h2' (kk b o h1 (hk b o h1 h2' e))) hd2 (λx hx'=>?_) (λq' hq'=>hq q' (.tail _ hq')) ?_ ?_
  ·have:=hi (j+1);rw[show i+(j+1)=i+1+j by nofun]at this;exact this
  ·rcases zN4 hx' with⟨y,hy,_,e⟩|⟨_,e⟩
   ·rw[<- e];exact hx y hy
   ·rw[e];exact a4
  ·have:=zN6 xs q.1 q.2.2.1 q.2.2.2;rw[xB]at hz;lia
  ·intro h3 tk3 hd3 kk3;exact hR h3 tk3 hd3 kk3
end
section
variable {prog:Program}{w:World}{K:Type}[DecidableEq K] {kd:HeapKind prog w K}{A:Around}{E:Value->Shared->Prop}{s:Shared}
def zGp(hh:A.handled=none)(hu:kd.room A.in1.in1)(kp:∀{h h':Heap}{k:K}{a:Addr},kd.is h k a->(∀o,h.get? a=some o->h'.get? a=some o)->kd.is h' k a){l:Addr}{its:Array Value}{n:Nat}{ps:List (zKd K)}{Q:Value->Shared->Prop}
  (ho:s.heap.get? l=some o) (hc:o.cls=.type "list") (hd:o.data=.seq its n) (hdi:o.dict=none) (hl:s.heap.IsList l its) (hi:its.toList=ps.map λq=>.ref q.2.1)
  (hq:∀q∈ps,PyProof.Rows.IsTup s.heap q.2.1 #[.ref q.2.2.1,q.2.2.2]/\kd.is s.heap q.1 q.2.2.1/\q.2.2.1<s.heap.objs.size) (hz:ps.length<=sizeLine)
  (h:∀h' tk,h'.DictOfH kd s.heap.objs.size (zO6 [] ps)->(∀b o,s.heap.get? b=some o->h'.get? b=some o)->Q (.ref s.heap.objs.size) { s with heap:=h',toks:=tk }):
  wpAny (model prog w) A (call (.type "dict") [.ref l]) Q E s:=by
 refine callType_codes (Q₁:=λobj s₁=>obj=.ref s.heap.objs.size/\s₁={ s with heap:=s.heap.push { cls:=.type "dict",data:=.dict #[] } }) F.kt_called_dict (F.kt_typeCall_dict_1 _) F.entry_dict_init (kt_code_dict_new _ ⟨rfl,rfl⟩) ?_;rintro obj s₁ ⟨rfl,rfl⟩;have hnew:(s.heap.push { cls:=.type "dict",data:=.dict #[] }).DictOfH kd s.heap.objs.size []:=Heap.DictOfH.new s.heap;have lp:l<s.heap.objs.size:=xo ho;have ho1:(s.heap.push { cls:=.type "dict",data:=.dict #[] }).get? l=some o:=xq _ ho;refine⟨hnew.typeIs,F.args_dict_init_2 _ _,?_⟩;unfold Builtin.«dict.__init__»;refine xc ?_;unfold Builtin.Dict.selfAndRest;refine xc (yU hnew.typeIs ?_);show wpAny _ _ (pure (s.heap.objs.size,[Value.ref l])) _ _ _;refine xh ?_;show wpAny _ _ (Builtin.Dict.updateFrom "dict.__init__" s.heap.objs.size (.ref l) [] .none) _ _ _;unfold Builtin.Dict.updateFrom;refine xc (v9 (T:="list") ⟨o,ho1,hc⟩ ?_);rw[xf (by decide)];refine xc (zXz (s:={ s with heap:=s.heap.push { cls:=.type "dict",data:=.dict #[] } }) ho1 hc hd hdi (by rw[yr,yt];kernel_rfl) (by decide +kernel) hh (λh2 tk2 k2=>?_) (by decide +kernel));rw[xf (by rfl)];refine xc (vt ?_);have hl2:h2.IsList l its:=hl.at λo e=>k2 _ _ (xq _ e)
 refine xc (uR hl2 ?_);have kb:∀b o,s.heap.get? b=some o->(h2.push { cls:=.type "list_iterator",data:=.fields #[.ref l,rawInt 0] }).get? b=some o:=λb o e=>xq _ (k2 _ _ (xq _ e))
 have pl:s.heap.objs.size<h2.objs.size:=xo (k2 _ _ (xy _ rfl));have hl1:l≠h2.objs.size:=xu (vK lp pl);refine xh ⟨yd F.plain_upd_loop _,?_⟩;refine zLc (A:=A.in1) (h₁:=s.heap) hh hu kp (I:=h2.objs.size) (l:=l) (p:=s.heap.objs.size) hl1 (uJ lp) (xu pl) (its:=its) ps 0 _ _ _ [] (λj=>?_) ?_ ?_ ?_ ?_ ?_ ?_ ?_ ?_ ?_
 ·rw[xX,<- vM,hi,xQ]
 ·have:=congrArg List.length hi;rw[xn,vf]at this;rw[xX,this]
 ·exact⟨_,xy _ rfl,rfl,rfl⟩
 ·exact hl2.push _
 ·exact λb o _ _ e=>kb b o e
 ·obtain⟨od,es,ep,g1,g2,g3,g4,g5,g6⟩:=hnew;exact⟨od,es,ep,xq _ (k2 _ _ g1),g2,g3,g4,(λx hx=>nomatch hx),g6⟩
 ·exact λx hx=>nomatch hx
 ·intro q hq';obtain⟨h1,h2',h3⟩:=hq q hq';have b1:q.2.1<s.heap.objs.size:=by obtain⟨_,e,_⟩:=h1;exact xo e
  exact⟨h1,xu (vK b1 pl),xu b1,h2',xu (vK h3 pl),xu h3⟩
 ·rw[vU,xX];exact hz
 ·intro h' tk hd' kk;exact⟨rfl,h h' tk hd' λb o e=>kk b o (xu (vK (xo e) pl)) (xu (xo e)) e⟩
end
end PySem
namespace L2
open PySem PySem.Spec PyProof.Rows
open DS (D Store Exn Rs SR)
section
variable {X:Cx}{K:PySem.W.Frag}{J:Js}{S:Store}{H:Hp}
abbrev PV:=List Key × Addr × Addr × V
noncomputable def putV (kvs:List (List Key × V)) (qs:List PV):List (List Key × V):=qs.foldl (λa q=>putK a q.1 q.2.2.2) kvs
def zLp:∀{l:List D}{ps:List (D × D)}{ys:List V},DS.pairsOf l=some ps->RepL K J H l ys->∃qs:List PV,ys=qs.map (λq=>.ref q.2.1)/\(∀q∈qs,H q.2.1=some (.tup [.ref q.2.2.1,q.2.2.2])/\H q.2.2.1=some (.tup (q.1.map kV)))/\qs.length=ps.length/\∀{kvs:List (List Key × V)}{vs:List D},RepL K J H vs (kvs.map (·.2))->(DS.putAll (kvs.map (λp=>zD5 p.1),vs) ps).1=(putV kvs qs).map (λp=>zD5 p.1)/\RepL K J H (DS.putAll (kvs.map (λp=>zD5 p.1),vs) ps).2 ((putV kvs qs).map (·.2))
 | [],ps,ys,e,r=>by
  cases e;cases(show ys=[]from r);exact⟨[],rfl,(λq hq=>nomatch hq),rfl,λr=>⟨rfl,r⟩⟩
 | d::l,ps,ys,e,r=>by
  unfold DS.pairsOf at e;split at e
  ·rename_i e';cases e'
  ·rename_i k v l' e';cases e';split at e
   ·rename_i hk;obtain⟨ps',e1,rfl⟩:=vQ.mp e;obtain⟨y,ys',rfl,ry,rl⟩:=r;obtain⟨qs,e2,h2,l2,h3⟩:=zLp e1 rl;obtain⟨b,zs,rfl,tb,rz⟩:=ry;obtain⟨x1,t1,rfl,r1,r2⟩:=rz;obtain⟨x2,rfl,r3⟩:=zCs (ds:=[]) r2;unfold DS.zBa at hk;rw[xM]at hk;cases k with
    | tup kl=>
     obtain⟨kk,rfl⟩:=keys_of (show _=true from hk.1);obtain⟨c,ws,rfl,tc,rc⟩:=r1;obtain rfl:=zFt rc;refine⟨(kk,b,c,x2)::qs,by rw[e2];rfl,λq hq=>?_,by rw[xB,l2];rfl,λ{kvs vs} rv=>?_⟩
     ·rcases xp.mp hq with rfl|hq
      ·exact⟨tb.1,tc.1⟩
      ·exact h2 q hq
     ·obtain⟨p1,p2⟩:=zLl (f:=zD5) (λa b=>zG3) (k:=kk) rv r3;have:=h3 (kvs:=putK kvs kk x2) p2;rw[<- p1]at this;exact this
    | _=>cases hk.2
   ·cases e
  ·cases e
def zLm:∀(qs:List PV) (kvs:List (List Key × V)),(putV kvs qs).length<=kvs.length+qs.length
 | [],kvs=>xi _
 | q::qs,kvs=>by
  have:=zLm qs (putK kvs q.1 q.2.2.2);have h2:=zCj kvs q.1 q.2.2.2;show(putV (putK kvs q.1 q.2.2.2) qs).length<=_;rw[xB];lia
def zV2{H':Hp}:∀{qs:List PV}{ps:List (zKd (List Key))}{kvs:List (List Key × V)}{xs:List (List Key × Addr × Value)},Paired (λq p=>q.1=p.1/\q.2.2.1=p.2.2.1/\RelV q.2.2.2 p.2.2.2) qs ps->(∀q∈qs,H' q.2.2.1=some (.tup (q.1.map kV)))->KT H' kvs xs->KT H' (putV kvs qs) (zO6 xs ps)
 | [],_,kvs,xs,r,_,h=>by cases r;exact h
 | q::qs,_,kvs,xs,r,hq,h=>by
  cases r with
  | @cons _ p _ ps' e t=>
   have h1:=h.put q.1 (b:=q.2.2.1) (y:=q.2.2.2) (u:=p.2.2.2) (hq q (.head _)) e.2.2;have:=zV2 (H':=H') t (λq' hq'=>hq q' (.tail _ hq')) h1;rw[e.1,e.2.1]at this;show KT H' (putV (putK kvs q.1 q.2.2.2) qs) (zO6 (storedH xs p.1 p.2.2.1 p.2.2.2) ps');rw[e.1];exact this
def zJe :∀{qs:List PV},(∀q∈qs,∃u',RelV q.2.2.2 u'/\IsTup h q.2.1 #[.ref q.2.2.1,u'])->∃ps:List (zKd (List Key)),Paired (λq p=>q.1=p.1/\q.2.2.1=p.2.2.1/\RelV q.2.2.2 p.2.2.2) qs ps/\(∀p∈ps,IsTup h p.2.1 #[.ref p.2.2.1,p.2.2.2]/\∃q∈qs,q.1=p.1/\q.2.2.1=p.2.2.1)/\ps.map (λp=>p.2.1)=qs.map (λq=>q.2.1)
 | [],_=>⟨[],.nil,(λp hp=>nomatch hp),rfl⟩
 | q::qs,hq=>by
  obtain⟨ps,h1,h2,h3⟩:=zJe (h:=h) (qs:=qs) λq' hq'=>hq q' (.tail _ hq')
  obtain⟨u',r,t⟩:=hq q (.head _);refine⟨(q.1,q.2.1,q.2.2.1,u')::ps,.cons ⟨rfl,rfl,r⟩ h1,λp hp=>?_,by rw[xr,xr,h3]⟩;rcases xp.mp hp with rfl|hp
  ·exact⟨t,q,.head _,rfl,rfl⟩
  ·obtain⟨a,q',hq',b⟩:=h2 p hp;exact⟨a,q',.tail _ hq',b⟩
def zJ4:∀{l:List Addr}{us:List Value},Vals (l.map V.ref) us->us=l.map Value.ref
 | [],_,r=>by cases r;rfl
 | a::l,_,r=>by
  rw[xr]at r;cases r with
  | cons h t=>rw[zJ4 t,xr,(show _=Value.ref a from h)]
def zVq{h h':Heap}(x:(tupleKind (zAu P w)).is h k a)(kp:∀o,h.get? a=some o->h'.get? a=some o):(tupleKind (zAu P w)).is h' k a:=by obtain⟨o,its,n,h1,r⟩:=x;exact⟨o,its,n,kp o h1,r⟩
def zNo(hu:X.A.units+64<cLine)(hc:X.calm=true)(hK:X.K=K:=by rfl):zBl X (.type "dict") (cOfF K DS.zNg):=by
 subst hK;intro pins s σ H xs us Q I r hq42;obtain⟨J,S,ds,d,ha,rl,e,k⟩:=hq42;unfold DS.zNg at e;split at e
 ·rename_i d0;obtain⟨x,rfl,rx⟩:=zCs (ds:=[]) rl;split at e
  ·rename_i ps e1;split at e
   ·rename_i hm;cases e;split at e1
    ·rename_i l e2;obtain⟨b,ys,rfl,hq,q⟩:=zPk ha rx e2;obtain⟨u,rfl,ru⟩:=vals1 r;cases ru;obtain⟨qs,ey,hqs,ql,pa⟩:=zLp e1 q;obtain⟨its,rv,⟨ol,n,g1,g2,g3,g4⟩,_⟩:=I.list hq;obtain⟨ps',m1,m2,m3⟩:=zJe (h:=s.heap) (qs:=qs) λq hq=>by
      obtain⟨_,its,rv,o,h1,h2,n,h3⟩:=(show ObjOk X.prog X.w H s.heap q.2.1 (.tup [.ref q.2.2.1,q.2.2.2])from I.hok _ _ (hqs q hq).1);obtain⟨u,u',rfl,r1,r2⟩:=vals2 rv;cases(show u=_ from r1);exact⟨u',r2,o,h1,h2,n,h3⟩
     have ei:its=ps'.map λp=>.ref p.2.1:=by
      have e3:ys=(qs.map λq=>q.2.1).map V.ref:=by rw[ey,xH];rfl
      rw[e3]at rv;rw[zJ4 rv,<- m3,xH];rfl
     have pl:ps'.length=qs.length:=(ue m1).symm;have hz:ps'.length<=sizeLine:=by rw[pl,ql];exact hm
     refine zGp (kd:=tupleKind (zAu X.prog X.w)) (I.ok.hd hc) (show X.A.units+2<cLine by nofun) zVq (ps:=ps') g1 g2 g4 g3 ⟨ol,g1,g2,n,g4⟩ (by rw[List.toList_toArray,ei]) (λp hp=>?_) hz λh' tk hd kp=>?_
     ·obtain⟨a1,q',hq',b1,b2⟩:=m2 p hp;have c1:=(hqs q' hq').2;rw[b1,b2]at c1;exact⟨a1,zFb I.hok c1,by obtain⟨_,_,_,z,_⟩:=zFb I.hok c1;exact xo z⟩
     ·have fr:=I.fresh;obtain⟨o,es,ep,f1,f2,f3,f4,f5,f6⟩:=hd;have kt:KT (upd H s.heap.objs.size (.dT (putV [] qs))) (putV [] qs) (zO6 [] ps'):=zV2 m1 (λq hq=>by
       rw[zAi (λz=>by have:=(hqs q hq).2;rw[z,fr]at this;cases this)];exact(hqs q hq).2) .nil
      have hl:(putV [] qs).length<=sizeLine:=by have:=zLm qs [];rw[vU,xX,<- pl]at this;exact xm this hz
      have ns:(s.heap.objs.size == sysModules)=false:=by have:=I.big;exact beq_false_of_ne (uJ this)
      obtain⟨p1,p2⟩:=pa (kvs:=[]) (vs:=[]) rfl;refine⟨.ref s.heap.objs.size,upd H s.heap.objs.size (.dT (putV [] qs)),I.laid (t':=tk) kp (xi _) ⟨hl,ns,_,kt,o,es,ep,f1,f2,f3,f4,f6⟩,rfl,k _ _ H ha .refl fr ⟨_,.inr ⟨rfl,_,rfl,p1,rfl⟩,p2⟩⟩
    ·cases e1
   ·cases e
  ·cases e
 ·cases e
end
section
variable {X:Cx}{K:PySem.W.Frag}
def zE2:OpR X (compareOp .Eq) (r2Of K DS.eqI):=by
 intro pins s σ H x y v u Q I rx ry hq43;obtain⟨J,S,d1,d2,d,ha,r1,r2,e,k⟩:=hq43;unfold DS.eqI at e;split at e
 ·cases e;obtain rfl:=r1;obtain rfl:=r2;obtain⟨t,rfl⟩:=rx;obtain⟨t',rfl⟩:=ry;exact eq_int ⟨.bl _,H,I,rfl,k _ H ha .refl rfl⟩
 ·cases e
end
open EK
open DS (lv)
section
open Classical
variable {X:Cx}{K:PySem.W.Frag}{J:Js}{S:Store}{H:Hp}{d1 d2:D}
def zRc{us:List Value}(al:A2 (Ek h n) l us):us.any (λz=>decide (Ek h n d1 z))=true <-> d1∈l:=by
 induction al with
 | nil=>simp
 | @cons d u l us r _ ih=>
  rw[List.any_cons,Bool.or_eq_true,ih,uE,xp];exact or_congr ⟨λq=>q.inj r,λe=>e ▸ r⟩ Iff.rfl
def A2.at{α β:Type}{R:α->β->Prop}{l:List α}{m:List β}(h:A2 R l m):∀(i:Nat) (b:β),m[i]?=some b->∃a,l[i]?=some a/\R a b:=by
 induction h with
 | nil=>intro i b e;cases e
 | cons r _ ih=>
  intro i b e;cases i with
  | zero=>cases e;exact⟨_,rfl,r⟩
  | succ i=>exact ih i b e
def zPh{s:Shared}{A:Around}{n:Nat}(hu:A.units+64<cLine)(hn:n<=5)(q1:Ek s.heap n d1 u)(al:A2 (Ek s.heap n) l us):∀z∈us,SeqAt.EqAt A.in1 s z u (decide (Ek s.heap n d1 z)):=λz hz=>by
 obtain⟨i,ei⟩:=uO.mp hz;obtain⟨d,_,r⟩:=A2.at al i z ei;refine λprog w E Q hq=>zNf n r q1 (by show A.units+1+n<cLine;lia) ?_
 rw[show decide (d=d1)=decide (Ek s.heap n d1 z)from xS.mpr ⟨λe=>e ▸ r,λq=>r.inj q⟩];exact hq
def zV5{Q:VK}(neg:Bool)(hu:X.A.units+64<cLine)(I:Inv X pins σ H s)(rx:RelV x u)(ry:RelV y w)(ha:AbS X.K J S H)(r1:Rep X.K J H d1 x)(r2:Rep X.K J H d2 y)(e:DS.inKO S d1 d2=some b)
  (k:Q (.bl (if neg then !b else b)) H):wpAny (model X.prog X.w) X.A (compareOp (if neg then .NotIn else .In) u w) (EP X pins σ Q) X.xe s:=by
 have hu1:X.A.units+1<cLine:=by nofun
 have seq:∀(l:List D),DS.items S d2=some l->DS.lvs (d1::l)->(b=true <-> d1∈l)->wpAny (model X.prog X.w) X.A (compareOp (if neg then .NotIn else .In) u w) (EP X pins σ Q) X.xe s:=λl e1 hl eb=>by
  obtain⟨n,hn,hl⟩:=hl;obtain⟨a,xs,rfl,hq,rl⟩:=zFx ha r2 e1;cases ry;have q1:=zQf (K:=X.K) (J:=J) I n (hl _ (.head _)) r1 rx;rcases hq with hq|hq
  ·obtain⟨its,r,pl,hz⟩:=I.list hq;have al:=zGk (K:=X.K) (J:=J) I (λd hd=>hl d (.tail _ hd)) rl r;have ea:its.toArray.any (λz=>decide (Ek s.heap n d1 z))=b:=by rw[uQ,eb,<- zRc al];simp
   have hg:=zPh hu hn q1 al;cases neg with
   | true=>exact SeqAt.notIn_listAt _ pl.isList (λz hz=>hg z (by simpa using hz)) ⟨.bl _,H,I,rfl,by rw[ea];exact k⟩
   | false=>exact SeqAt.in_listAt _ pl.isList (λz hz=>hg z (by simpa using hz)) ⟨.bl _,H,I,rfl,by rw[ea];exact k⟩
  ·obtain⟨its,r,pl,hz⟩:=I.tuple hq;have al:=zGk (K:=X.K) (J:=J) I (λd hd=>hl d (.tail _ hd)) rl r;have ea:its.toArray.any (λz=>decide (Ek s.heap n d1 z))=b:=by rw[uQ,eb,<- zRc al];simp
   have hg:=zPh hu hn q1 al;cases neg with
   | true=>exact SeqAt.notIn_tupleAt _ pl (λz hz=>hg z (by simpa using hz)) ⟨.bl _,H,I,rfl,by rw[ea];exact k⟩
   | false=>exact SeqAt.in_tupleAt _ pl (λz hz=>hg z (by simpa using hz)) ⟨.bl _,H,I,rfl,by rw[ea];exact k⟩
 unfold DS.inKO at e;split at e
 ·rename_i l e1;split at e
  ·rename_i h;cases e;exact seq l (zCd (.inl e1)) h uE
  ·cases e
 ·rename_i l e1;split at e
  ·rename_i h;cases e;exact seq l (zCd (.inr e1)) h uE
  ·cases e
 ·rename_i t ks vs e1;split at e
  ·rename_i hk;cases e;obtain⟨a,o,xs,rfl,he,q,rl⟩:=zJw ha r2 e1;cases ry;rcases zL0 he q rl r1 hk with⟨g,h,_⟩|⟨w,dv,g,h,_⟩
   ·rw[xC h]at k;cases neg with
    | true=>exact zQo hu1 I g rx λs' I'=>⟨.bl _,H,I',rfl,k⟩
    | false=>exact d_in hu1 I g rx λs' I'=>⟨.bl _,H,I',rfl,k⟩
   ·rw[xx h]at k;cases neg with
    | true=>exact zQo hu1 I g rx λs' I'=>⟨.bl _,H,I',rfl,k⟩
    | false=>exact d_in hu1 I g rx λs' I'=>⟨.bl _,H,I',rfl,k⟩
  ·cases e
 ·cases e
def zP6(hu:X.A.units+64<cLine)(hK:X.K=K:=by rfl):OpR X (compareOp .In) (r2Of K DS.inK):=by
 subst hK;intro pins s σ H x y v u Q I rx ry hq44;obtain⟨J,S,d1,d2,d,ha,r1,r2,e,k⟩:=hq44;unfold DS.inK at e;cases e1:DS.inKO S d1 d2 with
 | none=>rw[e1]at e;cases e
 | some b=>rw[e1]at e;cases e;exact zV5 false hu I rx ry ha r1 r2 e1 (k _ H ha .refl rfl)
def zEl(hu:X.A.units+64<cLine)(hK:X.K=K:=by rfl):OpR X (compareOp .NotIn) (r2Of K DS.zBc):=by
 subst hK;intro pins s σ H x y v u Q I rx ry hq45;obtain⟨J,S,d1,d2,d,ha,r1,r2,e,k⟩:=hq45;unfold DS.zBc at e;cases e1:DS.inKO S d1 d2 with
 | none=>rw[e1]at e;cases e
 | some b=>rw[e1]at e;cases e;exact zV5 true hu I rx ry ha r1 r2 e1 (k _ H ha .refl rfl)
def yCe{l m:List D}:((List.range (min l.length m.length)).all (λj=>decide (l[j]?=m[j]?)) && l.length == m.length)=decide (l=m):=by
 by_cases c:l=m
 ·subst c;simp
 ·rw[xC c];refine Bool.eq_false_iff.mpr λz=>c ?_
  rw[xM,vV]at z;have hl:l.length=m.length:=by simpa using z.2
  refine yu λi=>?_
  by_cases hi:i<l.length
  ·exact uo (z.1 i (vi.mpr (by nofun)))
  ·rw[vF (by nofun),vF (by nofun)]
def zUr(hu:X.A.units+64<cLine)(hK:X.K=K:=by rfl):OpR X (compareOp .NotEq) (r2Of K DS.neK):=by
 subst hK;intro pins s σ H x y v u Q I rx ry hq46;obtain⟨J,S,d1,d2,d,ha,r1,r2,e,k⟩:=hq46;unfold DS.neK at e;split at e
 ·cases e;obtain rfl:=r1;obtain rfl:=r2;obtain⟨t,rfl⟩:=rx;obtain⟨t',rfl⟩:=ry;exact ne_int ⟨.bl _,H,I,rfl,k _ H ha .refl rfl⟩
 ·cases e;obtain rfl:=r1;obtain rfl:=r2;cases rx;cases ry;exact SeqAt.RcNeAt.bool_bool _ _ _ _ _ _ ⟨.bl _,H,I,by rw[Bool.beq_eq_decide_eq];exact rfl,k _ H ha .refl rfl⟩
 ·cases e;obtain rfl:=r1;obtain rfl:=r2;obtain⟨t,rfl⟩:=rx;obtain⟨t',rfl⟩:=ry;exact SeqAt.RcNeAt.str_str _ _ _ _ _ _ _ _ ⟨.bl _,H,I,rfl,k _ H ha .refl rfl⟩
 ·rename_i l m;split at e
  ·rename_i hs;cases e;obtain⟨n,hn,hl⟩:=hs;obtain⟨a,xs,rfl,t1,q1⟩:=r1;obtain⟨b,ys,rfl,t2,q2⟩:=r2;cases rx;cases ry;obtain⟨its,va,ta,_⟩:=I.tuple t1.sq;obtain⟨jts,vb,tb,_⟩:=I.tuple t2.sq;have al:=zGk (K:=X.K) (J:=J) I (λd hd=>hl d (vq _ hd)) q1 va;have bl:=zGk (K:=X.K) (J:=J) I (λd hd=>hl d (xZ _ hd)) q2 vb;refine SeqAt.RcNeAt.tuples (A:=X.A) (e:=λj=>decide (l[j]?=m[j]?)) (show s.heap.IsTuple a its.toArray from ta) (show s.heap.IsTuple b jts.toArray from tb) (by nofun) (λj h1 h2=>?_) _ _ _ _ ?_
   ·simp only[xA]at h1 h2;simp only[List.getElem_toArray];obtain⟨d,ed,rd⟩:=A2.at al j _ (xG h1);obtain⟨d',ed',rd'⟩:=A2.at bl j _ (xG h2);rw[ed,ed',show decide (some d=some d')=decide (d=d')from xS.mpr ⟨xN,λz=>by rw[z]⟩];exact λprog w E Q hq=>zNf n rd rd' (by show X.A.units+1+n<cLine;lia) hq
   ·simp only[xA];rw[<- al.length,<- bl.length,yCe];exact⟨.bl _,H,I,rfl,k _ H ha .refl rfl⟩
  ·cases e
 ·cases e
end
open TU
open TS (sObj zGd adr ordW zEk zD1 zKi Tab.ft)
open DS (srt dedup)
section
variable {X:Cx}{K:PySem.W.Frag}{E:XE}{J:Js}{S:Store}{H:Hp}{d d1 d2:D}{v:V}{pins:List (Addr × Obj)}{σ:St}{s:Shared}
def zXd{A:Around}{EE:Value->Shared->Prop}{dp:Nat}{l:List D}{Q:Value->Shared->Prop}(I:Inv X pins σ H s)(hh:A.handled=none)(hu:A.units+20<cLine)(hq:Rd H a (.lst ys))(rl:RepL K J H l ys)(hdp:dp+1<=6)(hl:∀x∈l,lv (dp+1) x)(hz:l.length<=1199)
  (h:∀(h':Heap) (tk:Nat) (es:Array (Int × Value)) (κ:Addr->D),IsS dp κ h' s.heap.objs.size es (zGd X.w)->es.size<=l.length->SGood K J H κ es l->(∀b o,s.heap.get? b=some o->h'.get? b=some o)->Q (.ref s.heap.objs.size) { s with heap:=h',toks:=tk }):
  wpAny (model X.prog X.w) A (call (.type "set") [.ref a]) Q EE s:=by
 obtain⟨z,its,c,rv,_,ho⟩:=I.lstR hq;have hk:=zGk (J:=J) (K:=K) I hl rl rv;have key:∀u∈its,∃b d x,u=.ref b/\d∈l/\kd s.heap (dp+1) (.ref b)=d/\Ek s.heap (dp+1) d (.ref b)/\Rep K J H d x/\RelV x u:=λu hm=>by
  obtain⟨d,x,md,rx,rq⟩:=zOg rl rv u hm;have q:=zQf (K:=K) (J:=J) I (dp+1) (hl d md) rx rq;have q0:=q;obtain⟨ds,b,ob,items,k,rfl,rfl,_⟩:=q;exact⟨b,_,x,rfl,md,zKu q0,q0,rx,rq⟩
 have post:∀(h':Heap) (tk:Nat) (es:Array (Int × Value)),IsS dp (λb=>kd s.heap (dp+1) (.ref b)) h' s.heap.objs.size es (zGd X.w)->es.size<=its.toArray.size->(∀e∈es.toList,e.2∈its.toArray.toList)->(∀v∈its.toArray.toList,∃e∈es.toList,kv (λb=>kd s.heap (dp+1) (.ref b)) e=(λb=>kd s.heap (dp+1) (.ref b)) (adr v))->
   (∀b o,b<s.heap.objs.size->s.heap.get? b=some o->h'.get? b=some o)->Q (.ref s.heap.objs.size) { s with heap:=h',toks:=tk }:=λh' tk es i1 z1 m1 cv k1=>by
  refine h h' tk es _ i1 (by rw[hk.length];simpa using z1) ⟨λd=>?_,λe he=>?_⟩ λb o e=>k1 b o (xo e) e
  ·constructor
   ·intro hm;obtain⟨e,he,rfl⟩:=xt.mp hm;obtain⟨b,d,x,eb,md,ek,_,_,_⟩:=key e.2 (by simpa using m1 e he);unfold kv;rw[eb];show kd s.heap (dp+1) (.ref b)∈l;rw[ek];exact md
   ·intro hm;obtain⟨u,hu',q⟩:=hk.mem_l d hm;obtain⟨e,he,ek⟩:=cv u (by simpa using hu');refine xt.mpr ⟨e,he,ek.trans ?_⟩;have q0:=q;obtain⟨ds,b,ob,items,k,rfl,rfl,_⟩:=q;exact zKu q0
  ·obtain⟨b,d,x,eb,md,ek,_,rx,rq⟩:=key e.2 (by simpa using m1 e he);refine⟨x,?_,rq⟩;unfold kv;rw[eb];show Rep K J H (kd s.heap (dp+1) (.ref b)) x;rw[ek];exact rx
 have kk:∀v∈its.toArray.toList,∃b,v=.ref b/\EA s.heap dp (kd s.heap (dp+1) (.ref b)) b:=λv hv=>by
  obtain⟨b,d,x,eb,md,ek,q,_,_⟩:=key v (by simpa using hv);exact⟨b,eb,by rw[ek];exact q⟩
 have sz:its.toArray.size<=1199:=by simpa[<- hk.length]using hz
 exact zRt (κ:=λb=>kd s.heap (dp+1) (.ref b)) (items:=its.toArray) hh ⟨_,ho,rfl,c,rfl⟩ (by nofun) hu sz kk post
end
section
variable {X:Cx}{K:PySem.W.Frag}{E:XE}
def yC3{p p2 pos pos2:Pos}(hc:X.calm=true)(hu:X.A.units+64<cLine)(he:DE X K E e m)(hgs:Gl X "sorted")(hms:X.mg "sorted"=none)(hgt:Gl X "set")(hmt:X.mg "set"=none)(h:nst e=true:=by rfl)(hK:X.K=K:=by rfl):
  DF X K E (.Call (.Name "sorted" p) [.Call (.Name "set" p2) [e] [] pos2] [] pos) (DS.eUn DS.ssK m):=by
 subst hK;refine⟨⟨λpins s σ H Q I hq1=>?_⟩⟩;obtain⟨env,S,J,ha,hE,q⟩:=hq1;have hs:starEach [e] X.env=[(false,eval e X.env)]:=zCg h;have hs2:starEach [Expr.Call (.Name "set" p2) [e] [] pos2] X.env=[(false,eval (.Call (.Name "set" p2) [e] [] pos2) X.env)]:=rfl;refine uK (zEo I hgs hms ud (PyProof.Rows.callWith_builtin1 ?_ hs2 rfl));rw[hs2];refine(show wpAny _ _ (spliced ((false,eval (.Call (.Name "set" p2) [e] [] pos2) X.env)::backTo pos [])) _ _ s from u7 ?_);refine uK (zEo I hgt hmt PyProof.Rows.boot_set (u4 ?_ hs rfl));rw[hs];refine(show wpAny _ _ (spliced ((false,eval e X.env)::backTo pos2 [])) _ _ s from u7 ?_);refine thn (he.h.h pins s σ H (λx H1=>∃J1 S1 d0 d,AbS X.K J1 S1 H1/\Rep X.K J1 H1 d0 x/\DS.ssK S1 d0=some d/\∀p o,H1 p=none->ObD X.K J1 H1 d o->Q (.ref p) (upd H1 p o)) I ⟨env,S,J,ha,hE,q.bind.imp λd0 S1 J1 H1 _ a1 g1 q1 x rx=>?_⟩) λv s1 hq1=>?_
 ·obtain⟨c,ec,k⟩:=q1.lift;exact⟨J1,S1,d0,c,a1,rx,ec,k J1 H1 a1 .refl⟩
 ·obtain⟨x,H1,I1,r1,J1,S1,d0,d,a1,rx,ed,k⟩:=hq1;refine u6 ?_;unfold DS.ssK at ed;cases e1:DS.litems S1 d0 with
  | none=>rw[e1]at ed;cases ed
  | some l=>
   rw[e1]at ed;dsimp only at ed;split at ed
   ·rename_i hs;cases ed;obtain⟨hz,n,hn,hl⟩:=hs;obtain⟨a,ys,rfl,hq,q⟩:=zCi a1 rx e1;cases r1;refine zXd (K:=X.K) (J:=J1) I1 (I.ok.hd hc) (by nofun) hq q hn hl (by nofun) λh1 tk1 es κ i1 z1 g1 k1=>u6 ?_
    refine zVw (K:=X.K) (J:=J1) (s:={ s1 with heap:=h1,toks:=tk1 }) (s1:=s1) I1 (I.ok.hd hc) (by nofun) i1 hn k1 rfl (xi _) (by nofun) g1 hl λL zs hL r=>k L _ hL ⟨zs,rfl,r⟩
   ·cases ed
end
end L2
namespace DS
open PySem (Str)
section
open Classical
def zHa{n:Nat}:∀(S:Store),keeps n S S
 | []=>trivial
 | _::r=>⟨.inl rfl,zHa r⟩
def zLz{n:Nat}:∀{S S':Store},S.length=S'.length->(∀(i:Nat) (d:D),S'[i]?=some d->S[i]?=some d\/d.low n=true)->keeps n S S'
 | [],_,_,_=>trivial
 | a::r,[],e,_=>by simp at e
 | a::r,b::t,e,h=>⟨by
   rcases h 0 b rfl with q|q
   ·exact .inl (by simpa using q)
   ·exact .inr q,zLz (by simpa using e) λi d q=>by simpa using h (i+1) d (by simpa using q)⟩
def zTm{S:Store}{d:D}(h:d.low S.length=true):fin S d S=.ok d S:=by unfold fin;rw[xf (zHa S),xf h,List.take_length]
def yC0{S S':Store}{d:D}(e:S.length=S'.length)(k:∀(i:Nat) (d:D),S'[i]?=some d->S[i]?=some d\/d.low S.length=true)(h:d.low S.length=true):fin S d S'=.ok d S':=by unfold fin;rw[xf (zLz e k),xf h,e,List.take_length]
def atN{i:Int}{k:Nat}(h:i=(k:Int))(e:l[k]?=some d):atL l i=some d:=by obtain⟨hk,_⟩:=xO.mp e;unfold atL ixN;rw[xf (by nofun),xf (by nofun)];show l[i.toNat]?=some d;rw[show i.toNat=k by nofun];exact e
def atL0 :atL (d::l) 0=some d:=atN (k:=0) rfl rfl
def atL1 :atL (d::e::l) 1=some e:=atN (k:=1) rfl rfl
def atL2 :atL (d::e::f::l) 2=some f:=atN (k:=2) rfl rfl
def atL3 :atL (d::e::f::g::l) 3=some g:=atN (k:=3) rfl rfl
def ixT{i:Int}:ixD S (.tup l) (.int i)=atL l i:=rfl
def ixL{i:Int}:ixD S (.lst l) (.int i)=atL l i:=rfl
def zPz :items S (.tup l)=some l:=rfl
def zQ0 :items S (.lst l)=some l:=rfl
def zT0 :look S (.tup l)=some (.tup l):=rfl
def zT1 :look S (.lst l)=some (.lst l):=rfl
def zT2{i:Int}:look S (.int i)=some (.int i):=rfl
def zXf :look S (.bl b)=some (.bl b):=rfl
def zEm{a b:Int}(h:sm a/\sm b):mulD S (.int a) (.int b)=some (.int (a*b)):=xf h
end
end DS
local macro_rules | `(tactic| simp_arith [$ls,*]) => `(tactic| simp only [DS.sSeq, DS.sSet, DS.sRet, DS.yCn, DS.zBs, DS.sIf, DS.sUnp, DS.zFm, DS.sPar, DS.zOd, DS.eVar, DS.eC, DS.eOp, DS.eUn, DS.aNil, DS.zA0, DS.eTup, DS.eLst, DS.eCB, DS.zAc, DS.eSl, DS.pNo, DS.pYes, DS.asI, DS.asB, DS.tB, DS.tAnd, DS.tOr, DS.tNot, DS.tYes, DS.eAnd, DS.eOr, DS.eNot, DS.eIf, DS.Rs.bind_ok, DS.Rs.then_ok, DS.zAk, DS.zH9, DS.gName, DS.gTup, DS.gAll, DS.zPz, DS.zQ0, DS.zT0, DS.zT1, DS.zT2, DS.zXf, vH, Option.map_none, uq, u0, List.set_cons_zero, List.set_cons_succ, xB, vU, xr, x6, List.replicate, ur, uS, xX, Nat.reduceAdd, Nat.reduceSub, Nat.reduceLT, Nat.reduceEqDiff, xl, xI, DS.addD, DS.subD, DS.ixT, DS.ixL, DS.atL0, DS.atL1, DS.atL2, DS.atL3, uZ, Bool.not_false, ve, reduceIte, $ls,*])
namespace DS
open PySem (Str)
section
open Classical
abbrev zF1:D:=.str (Str.ofString "seed")
abbrev kNum:D:=.str (Str.ofString "number")
abbrev zGg:D:=.str (Str.ofString "left")
def zO2(h:(Str.ofString a).cps≠(Str.ofString b).cps):D.str (Str.ofString a)≠D.str (Str.ofString b):=λe=>h (by injection e with e;rw[e])
def ne1:zF1≠kNum:=zO2 (by decide +kernel)
def ne2:zF1≠zGg:=zO2 (by decide +kernel)
def ne3:kNum≠zGg:=zO2 (by decide +kernel)
noncomputable def zF3 (seed num:Int) (m:Nat):D:=.dct false [zF1,kNum,zGg] [.int seed,.int num,.ref m]
structure DealAt (S:Store) (n m:Nat) (seed num:Int) (left:List Int):Prop where
 d:S[n]?=some (zF3 seed num m)
 l:S[m]?=some (.lst (left.map D.int))
 ne:n≠m
 lo:0<=seed
 hi:seed<2147483647
section
variable {S:Store}{n m:Nat}{seed num:Int}{left:List Int}
def zKv(h:DealAt S n m seed num left):ixD S (.ref n) zF1=some (.int seed):=by unfold ixD look;simp only[h.d];simp only[zF3];rw[xf (show zBa false zF1=true from rfl),look2,xf rfl]
def zPv(h:DealAt S n m seed num left):ixD S (.ref n) kNum=some (.int num):=by unfold ixD look;simp only[h.d];simp only[zF3];rw[xf (show zBa false kNum=true from rfl),look2,xg ne1,look2,xf rfl]
def zPw(h:DealAt S n m seed num left):ixD S (.ref n) zGg=some (.ref m):=by unfold ixD look;simp only[h.d];simp only[zF3];rw[xf (show zBa false zGg=true from rfl),look2,xg ne2,look2,xg ne3,look2,xf rfl]
def zOl(h:DealAt S n m seed num left)(x:Int):putN S (.ref n) kNum (.int x)=some (S.set n (zF3 seed x m)):=by
 unfold putN;simp only[h.d];simp only[zF3];rw[xf ⟨rfl,by decide⟩];unfold put2;rw[xf (by simp)];dsimp only;rw[repl2,xg ne1,repl2,xf rfl,repl2,xg (xv ne3),repl2]
 all_goals simp
def zS1(h:DealAt S n m seed num left)(x:Int):putN S (.ref n) zF1 (.int x)=some (S.set n (zF3 x num m)):=by
 unfold putN;simp only[h.d];simp only[zF3];rw[xf ⟨rfl,by decide⟩];unfold put2;rw[xf (by simp)];dsimp only;rw[repl2,xf rfl,repl2,xg (xv ne1),repl2,xg (xv ne2),repl2]
 all_goals simp
def DealAt.lt(h:DealAt S n m seed num left):n<S.length:=(xO.mp h.d).1
def DealAt.ltm(h:DealAt S n m seed num left):m<S.length:=(xO.mp h.l).1
def DealAt.set_num(h:DealAt S n m seed num left)(x:Int):DealAt (S.set n (zF3 seed x m)) n m seed x left:=⟨by rw[vz h.lt],by rw[xR h.ne];exact h.l,h.ne,h.lo,h.hi⟩
def DealAt.set_seed(h:DealAt S n m seed num left)(x:Int)(h1:0<=x)(h2:x<2147483647):DealAt (S.set n (zF3 x num m)) n m x num left:=⟨by rw[vz h.lt],by rw[xR h.ne];exact h.l,h.ne,h1,h2⟩
def DealAt.set_left(h:DealAt S n m seed num left)(l:List Int):DealAt (S.set m (.lst (l.map D.int))) n m seed num l:=⟨by rw[xR (xv h.ne)];exact h.d,by rw[vz h.ltm],h.ne,h.lo,h.hi⟩
structure Only (n m:Nat) (S S':Store):Prop where
 len:S'.length=S.length
 at_:∀k,k≠n->k≠m->S'[k]?=S[k]?
def Only.refl:Only n m S S:=⟨rfl,λ_ _ _=>rfl⟩
def Only.trans(a:Only n m S S')(b:Only n m S' S''):Only n m S S'':=⟨b.len.trans a.len,λk h1 h2=>(b.at_ k h1 h2).trans (a.at_ k h1 h2)⟩
def Only.set1(d:D):Only n m S (S.set n d):=⟨by simp,λk h1 _=>xR (xv h1)⟩
def Only.set2(d:D):Only n m S (S.set m d):=⟨by simp,λk _ h1=>xR (xv h1)⟩
noncomputable abbrev zNq:TM:=(tAnd (tB (eOp eqI (eOp ixD (eVar 0) (eC kNum)) (eC (.int 0)))) (tB (eOp gtD (eCB lenB (zA0 (eOp ixD (eVar 0) (eC zGg)) aNil)) (eC (.int 0)))))
noncomputable abbrev zNv:SM:=(sPut putN (eVar 0) (eC kNum) (eMt "list" popM (eOp ixD (eVar 0) (eC zGg)) aNil))
def zJs{S:Store}{num:Int}{left:List Int}(env:Env)(he:env[0]?=some (some (.ref n)))(h:DealAt S n m seed num left):zNq env S=.ok false S\/∃ls x,left=ls++[x]/\zNq env S=.ok true S/\zNv env S=.nx env ((S.set m (.lst (ls.map D.int))).set n (zF3 seed x m)):=by
 have e0:eVar 0 env S=.ok (.ref n) S:=by unfold eVar;rw[he]
 have el:look S (.ref m)=some (.lst (left.map D.int)):=h.l;have c1:tB (eOp eqI (eOp ixD (eVar 0) (eC kNum)) (eC (.int 0))) env S=.ok (decide (num=0)) S:=by simp only[tB,eOp,eC,e0,Rs.bind_ok,zPv h,zAk,zY4,asB]
 have c2:tB (eOp gtD (eCB lenB (zA0 (eOp ixD (eVar 0) (eC zGg)) aNil)) (eC (.int 0))) env S=.ok (decide ((0:Int)<(left.map D.int).length)) S:=by simp only[tB,eOp,eC,eCB,zA0,aNil,e0,Rs.bind_ok,zPw h,zAk,lenB,el,gtD,asB]
 unfold zNq tAnd;rw[c1,Rs.bind_ok];by_cases h0:num=0
 ·rw[xx h0,xf rfl,c2];by_cases hl:left=[]
  ·subst hl;exact .inl rfl
  ·obtain⟨ls,x,rfl⟩:∃ls x,left=ls++[x]:=⟨left.dropLast,left.getLast hl,(uX hl).symm⟩
   refine .inr ⟨ls,x,rfl,by rw[xx (by simp)],?_⟩;have ty:tyD S (.ref m)=some "list":=by unfold tyD;rw[el]
   have pm:popM S (.ref m) []=some (.int x,S.set m (.lst (ls.map D.int))):=by unfold popM;simp only[h.l];simp
   have e1:eVar 0 env (S.set m (.lst (ls.map D.int)))=.ok (.ref n) (S.set m (.lst (ls.map D.int))):=by unfold eVar;rw[he]
   simp only[zNv,sPut,eMt,eOp,aNil,eC,e0,Rs.bind_ok,Rs.then_ok,zAk,zPw h,ty,xl,pm,zH9,e1,zOl (h.set_left ls)]
 ·rw[xC h0,xg (by decide)];exact .inl rfl
def zMq(env:Env)(he:env[0]?=some (some (.ref n))):∀(k:Nat) {S:Store}{num:Int}{left:List Int},left.length=k->DealAt S n m seed num left->∃S' num' left',zBb zNq zNv (k+1) env S=.nx env S'/\DealAt S' n m seed num' left'/\Only n m S S':=by
 intro k;induction k with
 | zero=>
  intro S num left hk h;rcases zJs env he h with c|⟨ls,x,rfl,_⟩
  ·exact⟨S,num,left,by rw[zBb,c,Rs.then_ok,xg (by decide)],h,.refl⟩
  ·simp at hk
 | succ k ih=>
  intro S num left hk h;rcases zJs env he h with c|⟨ls,x,rfl,c,b⟩
  ·exact⟨S,num,left,by rw[zBb,c,Rs.then_ok,xg (by decide)],h,.refl⟩
  ·obtain⟨S',num',left',e,hd,o⟩:=ih (by simpa using hk) ((h.set_left ls).set_num x);refine⟨S',num',left',?_,hd,(Only.set2 _).trans ((Only.set1 _).trans o)⟩;rw[zBb,c,Rs.then_ok,xf rfl,b];exact e
noncomputable def yCc:SM:=
  (sSeq (zE1 zNq zNv)
  (sSeq (sSet 2 (eOp ixD (eVar 0) (eC kNum)))
  (sSeq (sIf (tB (eOp gtD (eVar 2) (eC (.int 0)))) (sSeq (sPut putN (eVar 0) (eC kNum) (eOp zH2 (eVar 2) (eVar 1)))
  (sRet (eOp modD (eVar 2) (eVar 1)))) zBs)
  (sSeq (sSet 3 (eOp modD (eOp addD (eOp mulD (eOp ixD (eVar 0) (eC zF1)) (eC (.int 48271))) (eC (.int 7919))) (eC (.int 2147483647))))
  (sSeq (sPut putN (eVar 0) (eC zF1) (eOp modD (eOp addD (eOp mulD (eVar 3) (eC (.int 40692))) (eC (.int 104729))) (eC (.int 2147483399))))
  (sSeq (sSet 4 (eOp modD (eOp mulD (eOp ixD (eVar 0) (eC zF1)) (eOp ixD (eVar 0) (eC zF1))) (eC (.int 2147483563))))
  (sRet (eOp modD (eOp addD (eOp mulD (eOp modD (eOp mulD (eVar 3) (eVar 3)) (eC (.int 2147483629))) (eC (.int 2147483563))) (eVar 4)) (eVar 1)))))))))
def zFl{x:Int}(h1:0<=x)(h2:x<2147483648):sm x:=zJ7 (by nofun) (by nofun)
def zLt{k:Nat}(h:m<k):(zF3 seed num m).low k=true:=by show(lowL k [zF1,kNum,zGg] && lowL k [.int seed,.int num,.ref m])=true;simp[lowL,D.low,h]
def low_ints :∀(l:List Int),lowL k (l.map D.int)=true
 | []=>rfl
 | x::l=>by show(true && lowL k (l.map D.int))=true;rw[low_ints l];rfl
def zIm{seed' num':Int}{left':List Int}{d:D}(h:DealAt S n m seed num left)(h':DealAt S' n m seed' num' left')(o:Only n m S S')(hd:d.low S.length=true):fin S d S'=.ok d S':=by
 refine yC0 o.len.symm (λi e he=>?_) hd;by_cases h1:i=n
 ·subst h1;rw[h'.d]at he;cases he;exact .inr (zLt h.ltm)
 ·by_cases h2:i=m
  ·subst h2;rw[h'.l]at he;cases he;exact .inr (low_ints left')
  ·rw[o.at_ i h1 h2]at he;exact .inl he
def Deal(S:Store)(n m:Nat):Prop:=∃seed num left,DealAt S n m seed num left
def zKy{a b:Int}(hb:0<b)(hs:sm b):zH2 S (.int a) (.int b)=some (.int (a.fdiv b)):=xf ⟨by nofun,hs⟩
def zC8{a b:Int}(hb:0<b):modD S (.int a) (.int b)=some (.int (a % b)):=xf hb
def zYb{many:Int}(hm:0<many)(hs:sm many)(h:Deal S n m):∃(r:Int) (S':Store),zB9 2 5 yCc [.ref n,.int many] S=.ok (.int r) S'/\0<=r/\r<many/\Deal S' n m/\Only n m S S':=by
 obtain⟨seed,num,left,h⟩:=h;obtain⟨S1,num1,left1,ew,h1,o1⟩:=zMq (env:=[some (.ref n),some (.int many),none,none,none]) rfl left.length rfl h;have ew':zE1 zNq zNv [some (.ref n),some (.int many),none,none,none] S=.nx [some (.ref n),some (.int many),none,none,none] S1:=by rw[zJa (n:=left.length+1) (by rw[ew];exact λz=>nomatch z),ew]
 unfold zB9 yCc;simp only[xB,vU,Nat.reduceAdd,xl,xr,x6,Nat.reduceSub,List.replicate,ur,uS];rw[sSeq,ew'];dsimp only;have g:gtD S1 (.int num1) (.int 0)=some (.bl (decide (0<num1))):=rfl;by_cases hp:0<num1
 ·have p1:=zOl h1 (num1.fdiv many);have h2:=h1.set_num (num1.fdiv many)
  try simp_arith [xl]
  simp only[zPv h1]
  try simp_arith [xl]
  simp only[g,xx hp]
  try simp_arith [xl]
  simp only[sPut]
  try simp_arith [xl]
  simp only[zKy hm hs]
  try simp_arith [xl]
  simp only[p1]
  try simp_arith [xl]
  simp only[zC8 hm]
  try simp_arith [xl]
  exact⟨num1 % many,_,zIm h h2 (o1.trans (.set1 _)) rfl,vY _ (by nofun),vX _ hm,⟨_,_,_,h2⟩,o1.trans (.set1 _)⟩
 ·simp_arith [xl];simp only[zPv h1]
  try simp_arith [xl]
  simp only[g,xC hp]
  try simp_arith [xl]
  simp only[zKv h1]
  try simp_arith [xl]
  have s1:sm seed/\sm 48271:=⟨zFl h1.lo (by have:=h1.hi;lia),zFl (by decide) (by decide)⟩;simp only[zEm s1]
  try simp_arith [xl]
  simp only[zC8 (show(0:Int)<2147483647 by decide)]
  try simp_arith [xl]
  generalize ho:(seed*48271+7919) % 2147483647=one;have o0:0<=one:=by rw[<- ho];exact vY _ (by decide)
  have o9:one<2147483647:=by rw[<- ho];exact vX _ (by decide)
  simp only[sPut]
  try simp_arith [xl]
  simp only[zEm (show sm one/\sm 40692 from⟨zFl o0 (by nofun),zFl (by decide) (by decide)⟩)]
  try simp_arith [xl]
  simp only[zC8 (show(0:Int)<2147483399 by decide)]
  try simp_arith [xl]
  generalize hq:(one*40692+104729) % 2147483399=sd;have s0:0<=sd:=by rw[<- hq];exact vY _ (by decide)
  have s9:sd<2147483399:=by rw[<- hq];exact vX _ (by decide)
  have p1:=zS1 h1 sd;have h2:=h1.set_seed sd s0 (by nofun);simp only[p1]
  try simp_arith [xl]
  simp only[zKv h2]
  try simp_arith [xl]
  simp only[zKv h2]
  try simp_arith [xl]
  simp only[zEm (show sm sd/\sm sd from⟨zFl s0 (by nofun),zFl s0 (by nofun)⟩)]
  try simp_arith [xl]
  simp only[zC8 (show(0:Int)<2147483563 by decide)]
  try simp_arith [xl]
  simp only[zEm (show sm one/\sm one from⟨zFl o0 (by nofun),zFl o0 (by nofun)⟩)]
  try simp_arith [xl]
  simp only[zC8 (show(0:Int)<2147483629 by decide)]
  try simp_arith [xl]
  generalize hw:one*one % 2147483629=w;have w0:0<=w:=by rw[<- hw];exact vY _ (by decide)
  have w9:w<2147483629:=by rw[<- hw];exact vX _ (by decide)
  simp only[zEm (show sm w/\sm 2147483563 from⟨zFl w0 (by nofun),zFl (by decide) (by decide)⟩)]
  try simp_arith [xl]
  simp only[zC8 hm]
  try simp_arith [xl]
  exact⟨_,_,zIm h h2 (o1.trans (.set1 _)) rfl,vY _ (by nofun),vX _ hm,⟨_,_,_,h2⟩,o1.trans (.set1 _)⟩
end
structure AtJ (env:Env) (j:Nat) (d:D) (env':Env):Prop where
 len:env'.length=env.length
 at_:env'[j]?=some (some d)
 o:∀i:Nat,i≠j->env'[i]?=env[i]?
def AtJ.set{env:Env}{j:Nat}(h:j<env.length)(d:D):AtJ env j d (env.set j (some d)):=⟨by simp,by rw[vz h],λi hi=>xR (xv hi)⟩
def AtJ.more(a:AtJ env j d env1)(b:AtJ env1 j e env2):AtJ env j e env2:=⟨b.len.trans a.len,b.at_,λi hi=>(b.o i hi).trans (a.o i hi)⟩
def zGn{gd:List (Nat × D)}{j:Nat}{c:TM}{e:EM}{f:D->D}{p:D->Bool}(hg:gOk S gd):∀(l:List D) (k:Nat) (env:Env),j<env.length->k+l.length<=most->(∀d∈l,∀env',AtJ env j d env'->c env' S=.ok (p d) S)->(∀d∈l,p d=true->∀env',AtJ env j d env'->e env' S=.ok (f d) S)->
  zCy gd (gName j) c e k l env S=.ok ((l.filter p).map f) S
 | [],k,env,_,_,_,_=>by rw[zCy,xf hg];rfl
 | d::l,k,env,hj,hk,hc,he=>by
  have hk':k+(l.length+1)<=most:=hk;rw[zCy,xf ⟨hg,by nofun⟩];have a:=AtJ.set hj d;show(c (env.set j (some d)) S).bind _=_;rw[hc d (.head _) _ a,Rs.bind_ok];have up:∀x env',AtJ (env.set j (some d)) j x env'->AtJ env j x env':=λx env' q=>a.more q
  have r:=λk' (h:k'+l.length<=most)=>zGn (f:=f) hg l k' (env.set j (some d)) (by simpa using hj) h (λx hx env' q=>hc x (.tail _ hx) env' (up x env' q)) λx hx hp env' q=>he x (.tail _ hx) hp env' (up x env' q)
  by_cases hp:p d=true
  ·rw[xf hp,he d (.head _) hp _ a,Rs.bind_ok,r (k+1) (by nofun),Rs.bind_ok,uC hp];rfl
  ·rw[xg hp,r k (by nofun),yi hp]
def comp_map{gd:List (Nat × D)}{j:Nat}{e:EM}{f:D->D}(hg:gOk S gd){l:List D}{env:Env}(hj:j<env.length)(hk:l.length<=most)(he:∀d∈l,∀env',AtJ env j d env'->e env' S=.ok (f d) S):zCy gd (gName j) tYes e 0 l env S=.ok (l.map f) S:=by
 have:=zGn (c:=tYes) (p:=λ_=>true) (f:=f) (e:=e) hg l 0 env hj (by nofun) (λ_ _ _ _=>rfl) λd hd _=>he d hd
 rwa[List.filter_eq_self.mpr λ_ _=>rfl]at this
def zAf :gOk S []:=λ_ h=>nomatch h
def zQc{gd:List (Nat × D)}{i j:Nat}{b:SM}{f:D->D->D}(hij:i≠j)(hg:gOk S gd){I:D->Prop}:∀(l:List D) (env:Env) (a:D),env[i]?=some (some a)->j<env.length->I a->(∀d∈l,∀env' a,env'.length=env.length->env'[i]?=some (some a)->env'[j]?=some (some d)->I a->(∀k,k≠i->k≠j->env'[k]?=env[k]?)->b env' S=.nx (env'.set i (some (f a d))) S/\I (f a d))->
  ∃env',forL gd (gName j) b l env S=.nx env' S/\env'.length=env.length/\env'[i]?=some (some (l.foldl f a))/\I (l.foldl f a)/\∀k,k≠i->k≠j->env'[k]?=env[k]?
 | [],env,a,ha,hj,hi,_=>⟨env,by rw[forL,xf hg],rfl,ha,hi,λ_ _ _=>rfl⟩
 | d::l,env,a,ha,hj,hi,hb=>by
  have il:i<env.length:=(xO.mp ha).1;obtain⟨e1,i1⟩:=hb d (.head _) (env.set j (some d)) a (by simp) (by rw[xR (xv hij)];exact ha) (by rw[vz hj]) hi λk _ hk=>xR (xv hk)
  obtain⟨env',e2,l2,a2,i2,o2⟩:=zQc hij hg l ((env.set j (some d)).set i (some (f a d))) (f a d) (by rw[vz (by simpa using il)]) (by simpa using hj) i1 λx hx env' a' hl h1 h2 h3 h4=>hb x (.tail _ hx) env' a' (by simpa using hl) h1 h2 h3 λk k1 k2=>by
   rw[h4 k k1 k2,xR (xv k1),xR (xv k2)]
  refine⟨env',?_,by simpa using l2,a2,i2,λk k1 k2=>by rw[o2 k k1 k2,xR (xv k1),xR (xv k2)]⟩;rw[forL,xf hg];show(match b (env.set j (some d)) S with|.nx e S1=>forL gd (gName j) b l e S1|.ct e S1=>forL gd (gName j) b l e S1|.bk e S1=>.nx e S1|q=>q)=_;rw[e1];exact e2
def absI(x:Int):Int:=if 0-x > x then 0-x else x
noncomputable abbrev eAbs:EM:=eCB max2B (zA0 (eVar 0) (zA0 (eOp subD (eC (.int 0)) (eVar 0)) aNil))
noncomputable abbrev zR7 (i j:Nat):SM:=sSet i (eOp modD (eOp addD (eOp mulD (eVar i) (eC (.int 48271))) (eOp modD (eVar j) (eC (.int 2147483629)))) (eC (.int 2147483647)))
noncomputable abbrev zY7 (i:Nat):EM:=zAn 1 [] (iVal (eVar i)) (gName 0) (tB (eOp geD (eVar 0) (eOp powD (eC (.int 10)) (eC (.int 18))))) (eVar 0)
noncomputable abbrev zRy (i j:Nat):SM:=sRet (zTo [zF1,kNum,zGg] (zA0 (eVar j) (zA0 (eC (.int 0)) (zA0 (eNew (eUn revL (zY7 i))) aNil))))
def zU0(ns:List Int)(h:ns.length<=most):zCy [] (gName 0) tYes eAbs 0 (ns.map D.int) (compEnv 1 [] env) S=.ok ((ns.map absI).map D.int) S:=by
 have:=comp_map (gd:=[]) (j:=0) (e:=eAbs) (f:=λd=>match d with|.int x=>.int (absI x)|d=>d) (S:=S) (l:=ns.map D.int) (env:=compEnv 1 [] env) zAf (by simp[compEnv]) (by simpa using h) λd hd env' a=>by
  obtain⟨x,_,rfl⟩:=xt.mp hd;have e0:∀S,eVar 0 env' S=.ok (.int x) S:=λS=>by unfold eVar;rw[a.at_]
  unfold eAbs eCB zA0 eOp aNil eC;simp only[e0,Rs.bind_ok,subD,zAk,max2B];rfl
 rw[this,xH,xH];rfl
def zQt(i:Nat)(ns:List Int)(hi:env[i]?=some (some (.lst (ns.map D.int))))(h:ns.length<=most):zY7 i env S=.ok (.lst ((ns.filter λx=>decide ((10:Int) ^ 18<=x)).map D.int)) S:=by
 unfold zY7 zAn iVal;have e0:eVar i env S=.ok (.lst (ns.map D.int)) S:=by unfold eVar;rw[hi]
 rw[e0,Rs.bind_ok,show zDe S (.lst (ns.map D.int))=some ⟨ns.map D.int,[]⟩from rfl,zAk,Rs.bind_ok];have:=zGn (gd:=[]) (j:=0) (c:=tB (eOp geD (eVar 0) (eOp powD (eC (.int 10)) (eC (.int 18))))) (e:=eVar 0) (f:=id) (p:=λd=>match d with|.int x=>decide ((10:Int) ^ 18<=x)|_=>false) (S:=S) zAf (ns.map D.int) 0 (compEnv 1 [] env) (by simp[compEnv]) (by simpa using h) (λd hd env' a=>by
  obtain⟨x,_,rfl⟩:=xt.mp hd;have e0:∀S,eVar 0 env' S=.ok (.int x) S:=λS=>by unfold eVar;rw[a.at_]
  have pw:powD S (.int 10) (.int 18)=some (.int ((10:Int) ^ 18)):=by show(if(0:Int)<=18/\(18:Int)<=1000000/\(10:Int).natAbs<2 ^ 64 then some (D.int ((10:Int) ^ (18:Int).toNat))else none)=_;rw[xf (by decide)];rfl
  unfold tB eOp eC;simp only[e0,Rs.bind_ok,pw,zAk,geD,asB]) (λd hd hp env' a=>by
  unfold eVar;rw[a.at_];rfl)
 rw[this,Rs.bind_ok,List.map_id];congr 2;exact List.filter_map
def zTl{S:Store}{env:Env}{i j k:Nat}(hij:i≠j)(hik:i≠k)(hjk:j≠k){ns:List Int}{a0:Int}(h1:env[i]?=some (some (.lst (ns.map D.int))))(h2:env[j]?=some (some (.int a0)))(hk:k<env.length)(l0:0<=a0)(l1:a0<2147483647):
  ∃env' seed,sFor (iVal (eVar i)) (gName k) (zR7 j k) env S=.nx env' S/\env'.length=env.length/\env'[i]?=some (some (.lst (ns.map D.int)))/\env'[j]?=some (some (.int seed))/\0<=seed/\seed<2147483647:=by
 have e0:eVar i env S=.ok (.lst (ns.map D.int)) S:=by unfold eVar;rw[h1]
 obtain⟨env',e1,l2,a2,⟨seed,es,s0,s1⟩,o2⟩:=zQc (gd:=[]) (i:=j) (j:=k) (b:=zR7 j k) (S:=S) (f:=λa d=>match a,d with|.int a,.int d=>.int ((a*48271+d % 2147483629) % 2147483647)|a,_=>a) hjk zAf (I:=λd=>∃x:Int,d=.int x/\0<=x/\x<2147483647) (ns.map D.int) env (.int a0) h2 hk ⟨a0,rfl,l0,l1⟩ λd hd env' a hl q1 q2 q3 q4=>by
  obtain⟨x,_,rfl⟩:=xt.mp hd;obtain⟨y,rfl,y0,y1⟩:=q3;refine⟨?_,_,rfl,vY _ (by decide),vX _ (by decide)⟩;have v1:∀S,eVar j env' S=.ok (.int y) S:=λS=>by unfold eVar;rw[q1]
  have v2:∀S,eVar k env' S=.ok (.int x) S:=λS=>by unfold eVar;rw[q2]
  unfold zR7 sSet eOp eC;simp only[v1,v2,Rs.bind_ok,Rs.then_ok,zAk,zEm (show sm y/\sm 48271 from⟨zFl y0 (by nofun),zFl (by decide) (by decide)⟩),zC8 (show(0:Int)<2147483629 by decide),addD,zC8 (show(0:Int)<2147483647 by decide)]
 refine⟨env',seed,?_,l2,by rw[o2 i hij hik];exact h1,by rw[a2,es],s0,s1⟩;unfold sFor iVal;rw[e0,Rs.bind_ok,show zDe S (.lst (ns.map D.int))=some ⟨ns.map D.int,[]⟩from rfl,zAk,Rs.then_ok];exact e1
def zZs{S:Store}{i j:Nat}{ns:List Int}{seed:Int}(h1:env[i]?=some (some (.lst (ns.map D.int))))(h2:env[j]?=some (some (.int seed)))(s0:0<=seed)(s1:seed<2147483647)(hl:ns.length<=most):
  ∃S',zRy i j env S=.rt (.ref S.length) S'/\Deal S' S.length (S.length+1)/\S'.length=S.length+2/\∀k,k<S.length->S'[k]?=S[k]?:=by
 have v2:∀S,eVar j env S=.ok (.int seed) S:=λS=>by unfold eVar;rw[h2]
 have rv:∀S (l:List D),revL S (.lst l)=some (.lst l.reverse):=λ_ _=>rfl
 have lk:((S++[D.dct false [] []])++[D.lst ((ns.filter λx=>decide ((10:Int) ^ 18<=x)).map D.int).reverse])[S.length]?=some (D.dct false [] []):=by simp
 refine⟨((S++[D.dct false [] []])++[D.lst ((ns.filter λx=>decide ((10:Int) ^ 18<=x)).map D.int).reverse]).set S.length (.dct false [zF1,kNum,zGg] [.int seed,.int 0,.ref (S++[D.dct false [] []]).length]),?_,?_,?_,?_⟩
 ·unfold zRy sRet zTo eNew eUn zA0 aNil eC;simp only[v2,Rs.bind_ok,zQt i ns h1 hl,rv,zAk,lk,xl,Rs.then_ok]
 ·refine⟨seed,0,(ns.filter λx=>decide ((10:Int) ^ 18<=x)).reverse,?_,?_,by nofun,s0,s1⟩
  ·simp[zF3]
  ·simp
 ·simp
 ·intro k hk;rw[xR (by nofun),vh (by simp;lia),vh hk]
noncomputable def zR8:SM:=
  (sSeq (sSet 2 (zAn 1 [] (iVal (eSl slD (eVar 0) (pYes (eVar 1)) (pYes (eC (.int 63))))) (gName 0) tYes eAbs))
  (sSeq (sSet 3 (eOp addD (eC (.int 7919)) (eVar 1)))
  (sSeq (sFor (iVal (eVar 2)) (gName 4) (zR7 3 4)) (zRy 2 3))))
def zTz{ns:List Int}{lo hi:Option Int}:cutL (ns.map D.int) lo hi=(cutL ns lo hi).map D.int:=by unfold cutL;simp[List.map_drop,List.map_take]
def zTw{S:Store}{ns:List Int}(h:ns.length<=63):∃S',zIx 2 5 zR8 [.klst (ns.map D.int),.int 0] S=.ok (.ref S.length) S'/\Deal S' S.length (S.length+1)/\S'.length=S.length+2/\∀k,k<S.length->S'[k]?=S[k]?:=by
 have hl:((cutL ns (some 0) (some 63)).map absI).length<=most:=by
  have:(cutL ns (some 0) (some 63)).length<=ns.length:=by unfold cutL;rw[vd,ug];lia
  have m63:63<=most:=by decide
  rw[xn];lia
 have sl:slD S (.klst (ns.map D.int)) (some 0) (some 63)=some (.lst ((cutL ns (some 0) (some 63)).map D.int)):=by show some (D.lst (cutL (ns.map D.int) (some 0) (some 63)))=_;rw[zTz]
 have c1:=zU0 (S:=S) (env:=[some (.klst (ns.map D.int)),some (.int 0),none,none,none]) (cutL ns (some 0) (some 63)) (by rw[xn]at hl;exact hl);have w1:zDe S (.lst ((cutL ns (some 0) (some 63)).map D.int))=some ⟨(cutL ns (some 0) (some 63)).map D.int,[]⟩:=rfl;unfold zIx zR8;simp only[xB,vU,Nat.reduceAdd,xl,xr,x6,Nat.reduceSub,List.replicate,ur,uS];obtain⟨env',seed,e1,l1,a1,b1,s0,s1⟩:=zTl (S:=S) (env:=[some (.klst (ns.map D.int)),some (.int 0),some (.lst (((cutL ns (some 0) (some 63)).map absI).map D.int)),some (.int (7919+0)),none]) (i:=2) (j:=3) (k:=4) (by decide) (by decide) (by decide) rfl rfl (by simp) (by decide) (by decide);obtain⟨S',e2,d2,l2,o2⟩:=zZs (S:=S) a1 b1 s0 s1 hl;refine⟨S',?_,d2,l2,o2⟩;have st:sSeq (sSet 2 (zAn 1 [] (iVal (eSl slD (eVar 0) (pYes (eVar 1)) (pYes (eC (.int 63))))) (gName 0) tYes eAbs)) (sSeq (sSet 3 (eOp addD (eC (.int 7919)) (eVar 1))) (sSeq (sFor (iVal (eVar 2)) (gName 4) (zR7 3 4)) (zRy 2 3))) [some (.klst (ns.map D.int)),some (.int 0),none,none,none] S=.rt (.ref S.length) S':=by simp only[sSeq,sSet,zAn,iVal,eSl,pYes,eC,eOp,eVar,uq,u0,Rs.bind_ok,zAk,vH,asI,sl,w1,c1,Rs.then_ok,List.set_cons_zero,List.set_cons_succ,addD];simp only[e1,e2]
 rw[st]
def BB(k:Nat)(x:Int):Prop:=x.natAbs<2 ^ k
def BB.sm{i:Nat}{x:Int}(h:BB i x)(k:i<=4000):sm x:=xF h (v5 (by decide) (by nofun))
def BB.of{k:Nat}{x:Int}(h1:-(2 ^ k:Int)<x)(h2:x<2 ^ k):BB k x:=by
 unfold BB;have:((2 ^ k:Nat):Int)=2 ^ k:=by norm_cast
 lia
def BB.lit{x:Int}(h:Nat.ble (x.natAbs+1) (2 ^ k)=true):BB k x:=Nat.le_of_ble_eq_true h
def zPe{i j:Nat}{x y:Int}(h:BB i x)(h':BB j y)(hi:i<=4000:=by decide)(hj:j<=4000:=by decide):mulD S (.int x) (.int y)=some (.int (x*y)):=zEm ⟨h.sm hi,h'.sm hj⟩
def zDz{np nl:Nat}{b:SM}{ds:List D}{S:Store}{d:D}(hl:ds.length=np)(h:b (ds.map some++List.replicate (nl-np) none) S=.rt d S)(hd:d.low S.length=true):zB9 np nl b ds S=.ok d S:=by unfold zB9;rw[xf hl,h];exact zTm hd
def zNp{np nl:Nat}{b:SM}{ds:List D}{S:Store}{d:D}(hl:ds.length=np)(h:b (ds.map some++List.replicate (nl-np) none) S=.rt d S')(h0:Deal S n m)(h1:Deal S' n m)(o:Only n m S S')(hd:d.low S.length=true):zB9 np nl b ds S=.ok d S':=by obtain⟨_,_,_,a⟩:=h0;obtain⟨_,_,_,b⟩:=h1;unfold zB9;rw[xf hl,h];exact zIm a b o hd
structure Grow (n m:Nat) (S S':Store):Prop where
 len:S.length<=S'.length
 at_:∀k,k<S.length->k≠n->k≠m->S'[k]?=S[k]?
section
variable {n m:Nat}{S S' S'':Store}
def Grow.refl:Grow n m S S:=⟨xi _,λ_ _ _ _=>rfl⟩
def Grow.trans(a:Grow n m S S')(b:Grow n m S' S''):Grow n m S S'':=⟨xm a.len b.len,λk h h1 h2=>(b.at_ k (xF h a.len) h1 h2).trans (a.at_ k h h1 h2)⟩
def Only.grow(a:Only n m S S'):Grow n m S S':=⟨by rw[a.len];exact xi _,λk _ h1 h2=>a.at_ k h1 h2⟩
def Grow.app(T:Store):Grow n m S (S++T):=⟨by simp,λk h _ _=>vh h⟩
def Grow.set{c:Nat}(a:Grow n m S S')(h:S.length<=c):Grow n m S (S'.set c d):=⟨by simpa using a.len,λk hk h1 h2=>by rw[xR (by nofun)];exact a.at_ k hk h1 h2⟩
def Deal.lt(h:Deal S n m):n<S.length/\m<S.length:=by obtain⟨_,_,_,h⟩:=h;exact⟨h.lt,h.ltm⟩
def Deal.app(h:Deal S n m)(T:Store):Deal (S++T) n m:=by have l:=h.lt;obtain⟨a,b,c,h⟩:=h;exact⟨a,b,c,⟨by rw[vh l.1];exact h.d,by rw[vh l.2];exact h.l,h.ne,h.lo,h.hi⟩⟩
def Deal.set{k:Nat}(h:Deal S n m)(h1:k≠n)(h2:k≠m):Deal (S.set k d) n m:=by obtain⟨a,b,c,h⟩:=h;exact⟨a,b,c,⟨by rw[xR h1];exact h.d,by rw[xR h2];exact h.l,h.ne,h.lo,h.hi⟩⟩
def zJj{n:Nat}:∀{S S':Store},S.length<=S'.length->(∀(i:Nat) (d:D),i<S.length->S'[i]?=some d->S[i]?=some d\/d.low n=true)->keeps n S S'
 | [],_,_,_=>trivial
 | a::r,[],e,_=>by simp at e
 | a::r,b::t,e,h=>⟨by
   rcases h 0 b (by simp) rfl with q|q
   ·exact .inl (by simpa using q)
   ·exact .inr q,zJj (by simpa using e) λi d hi q=>by simpa using h (i+1) d (by simpa using hi) (by simpa using q)⟩
def zTn{d:D}(h:Deal S n m)(h':Deal S' n m)(g:Grow n m S S')(hd:d.low S.length=true):∃S'',fin S d S'=.ok d S''/\Deal S'' n m/\Only n m S S'':=by
 have l:=h.lt;refine⟨S'.take S.length,?_,?_,?_⟩
 ·unfold fin;rw[xf,xf hd];refine zJj g.len λi e hi he=>?_
  obtain⟨_,_,_,h'⟩:=h';by_cases h1:i=n
  ·subst h1;rw[h'.d]at he;cases he;exact .inr (zLt l.2)
  ·by_cases h2:i=m
   ·subst h2;rw[h'.l]at he;cases he;exact .inr (low_ints _)
   ·rw[g.at_ i hi h1 h2]at he;exact .inl he
 ·obtain⟨a,b,c,h'⟩:=h';exact⟨a,b,c,⟨by rw[uf l.1];exact h'.d,by rw[uf l.2];exact h'.l,h'.ne,h'.lo,h'.hi⟩⟩
 ·refine⟨by rw[vd];have:=g.len;lia,λk h1 h2=>?_⟩;by_cases hk:k<S.length
  ·rw[uf hk];exact g.at_ k hk h1 h2
  ·rw[vF (by rw[vd];lia),vF (by nofun)]
def zF6{np nl:Nat}{b:SM}{ds:List D}{d:D}(hl:ds.length=np)(h:b (ds.map some++List.replicate (nl-np) none) S=.rt d S')(h0:Deal S n m)(h1:Deal S' n m)(o:Grow n m S S')(hd:d.low S.length=true):∃S'',zB9 np nl b ds S=.ok d S''/\Deal S'' n m/\Only n m S S'':=by obtain⟨S'',e,a,b'⟩:=zTn h0 h1 o hd;refine⟨S'',?_,a,b'⟩;unfold zB9;rw[xf hl,h];exact e
end
def zRw{k:Int}(h0:0<=k)(h:k<1000000):zF0 [.int k]=some ⟨(List.range k.toNat).map fun(i:Nat)=>.int (i:Int),[]⟩:=by show(if fits62 k=true then some (Walk.mk (zCr 0 k) [])else none)=_;rw[xf (by unfold fits62;exact xx ⟨by nofun,by nofun⟩)];unfold zCr;simp
def zPd{α:Type}[BEq α][LawfulBEq α]:∀{l m:List α},l.Nodup->(∀x∈l,x∈m)->l.length<=m.length
 | [],_,_,_=>xV _
 | a::l,m,h,hm=>by
  have hn:=vJ.mp h;have am:=hm a (.head _);have:=zPd (l:=l) (m:=m.erase a) hn.2 λx hx=>(List.mem_erase_of_ne λz=>hn.1 (by subst z;exact hx)).mpr (hm x (.tail _ hx))
  rw[List.length_erase_of_mem am]at this;have:0<m.length:=List.length_pos_of_mem am;rw[xB];lia
def zTk{N:Int}{v:Int}{taken:List Int}(hN:(taken.length:Int)<N)(h0:0<=v):∃j:Nat,(v+j) % N ∉ taken/\∀i:Nat,i<j->(v+i) % N∈taken:=by
 have ex:∃j:Nat,(v+j) % N ∉ taken:=by
  apply vW;intro h;have h:∀j:Nat,(v+j) % N∈taken:=λj=>vW λq=>h ⟨j,q⟩
  have nd:((List.range N.toNat).map fun(j:Nat)=>(v+j) % N).Nodup:=by refine yj.mpr ((List.pairwise_lt_range (n:=N.toNat)).imp_of_mem λ{a b} ha hb hab e=>?_);have ha:=vi.mp ha;have hb:=vi.mp hb;have d:(v+b-(v+a)) % N=0:=Int.emod_eq_emod_iff_emod_sub_eq_zero.mp e.symm;rw[show v+(b:Int)-(v+a)=((b-a:Nat):Int) by nofun,Int.emod_eq_of_lt (by nofun) (by nofun)]at d;lia
  have:=zPd nd λx hx=>by
   obtain⟨j,_,rfl⟩:=xt.mp hx;exact h j
  rw[xn,vc]at this;lia
 obtain⟨j,hj⟩:=ex;induction j using Nat.strongRecOn with
 | _ j ih=>
  by_cases q:∃i:Nat,i<j/\(v+i) % N ∉ taken
  ·obtain⟨i,hi,hn⟩:=q;exact ih i hi hn
  ·exact⟨j,hj,λi hi=>vW λz=>q ⟨i,hi,z⟩⟩
def zGi{c:Nat}(h:S[c]?=some d):gOk S [(c,d)]:=λp hp=>by rw[xE.mp hp];exact h
def zEe{c:Nat}(h:S[c]?=some (.lst l)):zDe S (.ref c)=some ⟨l,[(c,.lst l)]⟩:=by unfold zDe look gdOf;simp only[h]
def zQv{α β:Type}{h:α->D}{k:β->D}{gd:List (Nat × D)}{g:GM}{e:EM}{I:Env->Prop}{J:Store->Prop}{P:β->Prop}(hg:∀S,J S->gOk S gd):∀(xs:List α) (c:Nat) (env:Env) (S:Store),I env->J S->c+xs.length<=most->
  (∀a∈xs,∀env S,I env->J S->∃env' b S',g S (h a) env=some env'/\I env'/\e env' S=.ok (k b) S'/\P b/\J S')->∃(bs:List β) (S':Store),zCy gd g tYes e c (xs.map h) env S=.ok (bs.map k) S'/\bs.length=xs.length/\(∀b∈bs,P b)/\J S'
 | [],c,env,S,_,hj,_,_=>⟨[],S,by rw[x6,zCy,xf (hg S hj)];rfl,rfl,(λb hb=>nomatch hb),hj⟩
 | a::xs,c,env,S,hi,hj,hk,he=>by
  have hk':c+(xs.length+1)<=most:=hk;obtain⟨env',b,S1,e1,i1,e2,p,j1⟩:=he a (.head _) env S hi hj;obtain⟨bs,S2,e3,l3,p3,j3⟩:=zQv (h:=h) (k:=k) (g:=g) (e:=e) (I:=I) (J:=J) (P:=P) hg xs (c+1) env' S1 i1 j1 (by nofun) λa ha=>he a (.tail _ ha)
  refine⟨b::bs,S2,?_,by simp[l3],λz hz=>?_,j3⟩
  ·rw[xr,zCy,xf ⟨hg S hj,by nofun⟩,e1];show(tYes env' S).bind _=_;rw[tYes,Rs.bind_ok,xf rfl,e2,Rs.bind_ok,e3,Rs.bind_ok];rfl
  ·rcases xp.mp hz with rfl|z
   ·exact p
   ·exact p3 _ z
def zY8{α β:Type}{h:α->D}{k:β->D}{ix:List Nat}{i:IM}{gd:List (Nat × D)}{g:GM}{e:EM}{xs:List α}(I:Env->Prop)(J:Store->Prop)(P:β->Prop)(hi:i env S0=.ok ⟨xs.map h,gd⟩ S)(hg:∀S,J S->gOk S gd)(h0:I (compEnv own ix env))(j0:J S)(hk:xs.length<=most)
  (he:∀a∈xs,∀env S,I env->J S->∃env' b S',g S (h a) env=some env'/\I env'/\e env' S=.ok (k b) S'/\P b/\J S'):∃(bs:List β) (S':Store),zAn own ix i g tYes e env S0=.ok (.lst (bs.map k)) S'/\bs.length=xs.length/\(∀b∈bs,P b)/\J S':=by
 obtain⟨bs,S',e1,l1,p1,j1⟩:=zQv (h:=h) (k:=k) (g:=g) (e:=e) (I:=I) (J:=J) (P:=P) hg xs 0 _ S h0 j0 (by nofun) he;refine⟨bs,S',?_,l1,p1,j1⟩;rw[zAn,hi,Rs.bind_ok];rw[e1,Rs.bind_ok]
section
variable {n m c:Nat}{S S' S0:Store}{d:D}
def zU5{l:List D}(h:S[c]?=some (.lst l))(hl:l.length<1000):zCa S (.ref c) [d]=some (.non,S.set c (.lst (l++[d]))):=by
 unfold zCa;simp only[h];have m9:1000<=most:=by decide
 rw[xf (by nofun)]
def ty_D(h:S[c]?=some (.lst l)):tyD S (.ref c)=some "list":=by unfold tyD;rw[show look S (.ref c)=_ from h]
structure MkD (n m:Nat) (S0:Store) (c:Nat) (l:List D) (S:Store):Prop where
 deal:Deal S n m
 grow:Grow n m S0 S
 at_:S[c]?=some (.lst l)
 far:S0.length<=c
def MkD.draw(h0:Deal S0 n m)(h:MkD n m S0 c l S)(d:Deal S' n m)(o:Only n m S S'):MkD n m S0 c l S':=by have l0:=h0.lt;have:=h.far;exact⟨d,h.grow.trans o.grow,by rw[o.at_ c (by nofun) (by nofun)];exact h.at_,h.far⟩
def MkD.add(h0:Deal S0 n m)(h:MkD n m S0 c l S)(d:D):MkD n m S0 c (l++[d]) (S.set c (.lst (l++[d]))):=by have l0:=h0.lt;have:=h.far;exact⟨h.deal.set (by nofun) (by nofun),h.grow.set h.far,by rw[vz (xO.mp h.at_).1],h.far⟩
def MkD.new(h0:Deal S0 n m)(d:Deal S n m)(g:Grow n m S0 S)(l:List D):MkD n m S0 S.length l (S++[.lst l]):=⟨d.app _,g.trans (.app _),by simp,g.len⟩
end
end
end DS
namespace RW
open Classical
section
variable {α:Type}{rs:List (List α)}
def Sub(q r:List α):Prop:=∀x∈q,x∈r
structure Cn (rs:List (List α)):Prop where
 nd:∀r∈rs,r.Nodup
 eq:∀q∈rs,∀r∈rs,Sub q r->Sub r q->q=r
def Mn(rs:List (List α))(r:List α):Prop:=r∈rs/\∀q∈rs,Sub q r->q=r
def zSv{l m:List α}(h:l.Nodup)(s:∀x∈l,x∈m):l.length<=m.length:=by
 letI:BEq α:=instBEqOfDecidableEq
 exact DS.zPd h s
def Cn.lt(c:Cn rs){q r:List α}(hq:q∈rs)(hr:r∈rs)(s:Sub q r)(n:q≠r):q.length<r.length:=by
 have:¬ Sub r q:=λz=>n (c.eq q hq r hr s z)
 obtain⟨x,hx⟩:=Classical.not_forall.mp this;obtain⟨hx,nx⟩:=Classical.not_imp.mp hx;have:=zSv (l:=x::q) (m:=r) (vJ.mpr ⟨nx,c.nd q hq⟩) λy hy=>by
  rcases xp.mp hy with rfl|hy
  ·exact hx
  ·exact s y hy
 exact this
def Cn.min(c:Cn rs):∀(n:Nat) (q:List α),q.length<=n->q∈rs->∃m,Mn rs m/\Sub m q
 | n,q,hn,hq=>by
  by_cases h:Mn rs q
  ·exact⟨q,h,λ_ h=>h⟩
  ·have:∃p∈rs,Sub p q/\p≠q:=by
    refine vW λz=>h ⟨hq,λp hp s=>vW λe=>z ⟨p,hp,s,e⟩⟩
   obtain⟨p,hp,s,e⟩:=this;have l:=c.lt hp hq s e
   match n,hn with
   | 0,hn=>lia
   | n+1,hn=>
    obtain⟨m,h1,h2⟩:=c.min n p (by nofun) hp;exact⟨m,h1,λx hx=>s x (h2 x hx)⟩
end
section
variable {α:Type}{bs:List α}
def ix(bs:List α)(x:α):Nat:=bs.findIdx λy=>decide (y=x)
def ix_at{x:α}(h:x∈bs):bs[ix bs x]?=some x:=by have w:ix bs x<bs.length:=List.findIdx_lt_length_of_exists ⟨x,h,xx rfl⟩;have e:=List.findIdx_getElem (w:=w);rw[xG w];exact congrArg some (uo e)
def ix_inj{x y:α}(hx:x∈bs)(hy:y∈bs)(e:ix bs x=ix bs y):x=y:=by have:=ix_at hx;rw[e,ix_at hy]at this;exact(xN this).symm
def mask(bs:List α)(r:List α):Nat:=r.foldl (λm x=>m ||| 2 ^ ix bs x) 0
def zPj(i:Nat):∀(r:List α) (m:Nat),(r.foldl (λm x=>m ||| 2 ^ ix bs x) m).testBit i=(m.testBit i || decide (∃x∈r,ix bs x=i))
 | [],m=>by simp
 | x::r,m=>by
  rw[v3,zPj i r,Nat.testBit_or,Nat.testBit_two_pow,Bool.or_assoc];congr 1;rw[uQ];simp
def mask_bit{r:List α}{i:Nat}:(mask bs r).testBit i=true <-> ∃x∈r,ix bs x=i:=by unfold mask;rw[zPj];simp
end
end RW
namespace DS
section
open Classical
def zV8{α:Type}{h:α->D}{gd:List (Nat × D)}{g:GM}{b:SM}(I:List α->Env->Store->Prop)(hg:∀P env S,I P env S->gOk S gd):∀(xs P:List α) (env:Env) (S:Store),I P env S->
  (∀a∈xs,∀P env S,I P env S->∃env' env'' S',g S (h a) env=some env'/\b env' S=.nx env'' S'/\I (P++[a]) env'' S')->∃env' S',forL gd g b (xs.map h) env S=.nx env' S'/\I (P++xs) env' S'
 | [],P,env,S,hi,_=>⟨env,S,by rw[x6,forL,xf (hg P env S hi)],by rw[vT];exact hi⟩
 | a::xs,P,env,S,hi,he=>by
  obtain⟨env',env'',S1,e1,e2,e3⟩:=he a (.head _) P env S hi;obtain⟨e4,S2,e5,e6⟩:=zV8 (h:=h) (gd:=gd) (g:=g) (b:=b) I hg xs (P++[a]) env'' S1 e3 λb hb=>he b (.tail _ hb)
  refine⟨e4,S2,?_,by rw[xD]at e6;exact e6⟩;rw[xr,forL,xf (hg P env S hi),e1];dsimp only;rw[e2];exact e5
def zGf{n:Nat}:∀(S T:Store),keeps n S (S++T)
 | [],_=>trivial
 | a::S,T=>⟨.inl rfl,zGf S T⟩
def zMk{np nl:Nat}{b:SM}{ds:List D}{S:Store}{d:D}{c:Nat}(hl:ds.length=np)(h:b (ds.map some++List.replicate (nl-np) none) S=.rt (.ref c) (S++T))(hc:S.length<=c)(hd:(S++T)[c]?=some d)(lo:d.low S.length=true):zB9 np nl b ds S=.ok d S:=by unfold zB9;rw[xf hl,h];dsimp only;unfold fin;rw[xf (zGf S T),xg (by show ¬ decide (c<S.length)=true;simpa using hc)];dsimp only;rw[hd];dsimp only;rw[xf lo,List.take_left]
def zF5{np nl:Nat}{b:SM}{ds:List D}{S:Store}{d:D}(hl:ds.length=np)(h:b (ds.map some++List.replicate (nl-np) none) S=.rt d (S++T))(lo:d.low S.length=true):zB9 np nl b ds S=.ok d S:=by unfold zB9;rw[xf hl,h];dsimp only;unfold fin;rw[xf (zGf S T),xf lo,List.take_left]
def zVe{α:Type}{h f:α->D}{gd:List (Nat × D)}{g:GM}{e:EM}{I:Env->Prop}(hg:gOk S gd):∀(xs:List α) (k:Nat) (env:Env),I env->k+xs.length<=most->
  (∀a∈xs,∀env,I env->∃env',g S (h a) env=some env'/\I env'/\e env' S=.ok (f a) S)->zCy gd g tYes e k (xs.map h) env S=.ok (xs.map f) S
 | [],k,env,_,_,_=>by rw[x6,zCy,xf hg];rfl
 | a::xs,k,env,hi,hk,he=>by
  have hk':k+(xs.length+1)<=most:=hk;obtain⟨env',e1,e2,e3⟩:=he a (.head _) env hi;rw[xr,zCy,xf ⟨hg,by nofun⟩,e1];dsimp only;rw[tYes,Rs.bind_ok,xf rfl,e3,Rs.bind_ok,zVe (I:=I) hg xs (k+1) env' e2 (by nofun) λb hb=>he b (.tail _ hb),Rs.bind_ok];rfl
def zCw{α:Type}{h f:α->D}{ix:List Nat}{i:IM}{gd:List (Nat × D)}{g:GM}{e:EM}{xs:List α}(I:Env->Prop)(hi:i env S=.ok ⟨xs.map h,gd⟩ S)(hg:gOk S gd)(h0:I (compEnv own ix env))(hk:xs.length<=most)
  (he:∀a∈xs,∀env,I env->∃env',g S (h a) env=some env'/\I env'/\e env' S=.ok (f a) S):zAn own ix i g tYes e env S=.ok (.lst (xs.map f)) S:=by
 rw[zAn,hi,Rs.bind_ok];rw[zVe (I:=I) hg xs 0 _ h0 (by nofun) he,Rs.bind_ok]
def zQu{α:Type}{h f:α->D}{p:α->Bool}{gd:List (Nat × D)}{g:GM}{c:TM}{e:EM}{I:Env->Prop}(hg:gOk S gd):∀(xs:List α) (k:Nat) (env:Env),I env->k+xs.length<=most->
  (∀a∈xs,∀env,I env->∃env',g S (h a) env=some env'/\I env'/\c env' S=.ok (p a) S/\(p a=true->e env' S=.ok (f a) S))->zCy gd g c e k (xs.map h) env S=.ok ((xs.filter p).map f) S
 | [],k,env,_,_,_=>by rw[x6,zCy,xf hg];rfl
 | a::xs,k,env,hi,hk,he=>by
  have hk':k+(xs.length+1)<=most:=hk;obtain⟨env',e1,i1,e2,e3⟩:=he a (.head _) env hi;rw[xr,zCy,xf ⟨hg,by nofun⟩,e1];show(c env' S).bind _=_;rw[e2,Rs.bind_ok];cases q:p a with
  | true=>
   rw[xf rfl,e3 q,Rs.bind_ok,zQu hg xs (k+1) env' i1 (by nofun) λb hb=>he b (.tail _ hb),Rs.bind_ok,uF,xf q];rfl
  | false=>
   rw[xg (by decide),zQu hg xs k env' i1 (by nofun) λb hb=>he b (.tail _ hb),uF,xg (by rw[q];decide)]
def zIq{α:Type}{h f:α->D}{p:α->Bool}{ix:List Nat}{i:IM}{gd:List (Nat × D)}{g:GM}{c:TM}{e:EM}{xs:List α}(I:Env->Prop)(hi:i env S=.ok ⟨xs.map h,gd⟩ S)(hg:gOk S gd)(h0:I (compEnv own ix env))(hk:xs.length<=most)
  (he:∀a∈xs,∀env,I env->∃env',g S (h a) env=some env'/\I env'/\c env' S=.ok (p a) S/\(p a=true->e env' S=.ok (f a) S)):zAn own ix i g c e env S=.ok (.lst ((xs.filter p).map f)) S:=by
 rw[zAn,hi,Rs.bind_ok];rw[zQu (I:=I) hg xs 0 _ h0 (by nofun) he,Rs.bind_ok]
def zCb{α:Type}{h:α->D}{gd:List (Nat × D)}{g:GM}{b:SM}{ys:List α}(I:List α->Env->Store->Prop)(hg:∀P env S,I P env S->gOk S gd)(he:∀P a R,ys=P++a::R->∀env S,I P env S->∃env' env'' S',g S (h a) env=some env'/\b env' S=.nx env'' S'/\I (P++[a]) env'' S'):∀(xs P:List α) (env:Env) (S:Store),ys=P++xs->I P env S->∃env' S',forL gd g b (xs.map h) env S=.nx env' S'/\I ys env' S'
 | [],P,env,S,e,hi=>⟨env,S,by rw[x6,forL,xf (hg P env S hi)],by rw[e,vT];exact hi⟩
 | a::xs,P,env,S,e,hi=>by
  obtain⟨env',env'',S1,e1,e2,e3⟩:=he P a xs e env S hi;obtain⟨e4,S2,e5,e6⟩:=zCb (h:=h) (gd:=gd) (g:=g) (b:=b) (ys:=ys) I hg he xs (P++[a]) env'' S1 (by rw[e];simp) e3;refine⟨e4,S2,?_,e6⟩;rw[xr,forL,xf (hg P env S hi),e1];dsimp only;rw[e2];exact e5
end
end DS
namespace DP
open DS RW
section
open Classical
abbrev Pt:=Int × Int
abbrev cel(p:Pt):D:=.tup [.int p.1,.int p.2]
abbrev rowD(r:List Pt):D:=.tup (r.map cel)
abbrev zAe(R:List (List Pt)):D:=.tup (R.map rowD)
def zGo(h:cel p=cel q):p=q:=by have:=(List.cons.inj (D.tup.inj h));exact Prod.ext (D.int.inj this.1) (D.int.inj (List.cons.inj this.2).1)
def zGa{l:List Pt}:cel p∈l.map cel <-> p∈l:=⟨λh=>by obtain⟨q,hq,e⟩:=xt.mp h;rw[<- zGo e];exact hq,λh=>xt.mpr ⟨p,h,rfl⟩⟩
def zUw(p:Pt):lv 1 (cel p):=⟨_,rfl,λx hx=>by
 rcases xp.mp hx with rfl|hx
 ·exact⟨p.1,rfl⟩
 ·exact⟨p.2,xE.mp hx⟩⟩
def zGb(l:List Pt):∀y∈l.map cel,lv 1 y:=λy hy=>by obtain⟨p,_,rfl⟩:=xt.mp hy;exact zUw p
def yB5(p:Pt)(l:List Pt):lvs (cel p::l.map cel):=⟨1,by decide,zGb (p::l)⟩
def zIw{l m:List Pt}(h:l.map cel=m.map cel):l=m:=(List.map_inj_right λ_ _ e=>zGo e).mp h
def zHw(h:rowD q=rowD r):q=r:=zIw (D.tup.inj h)
def zUt :neK S (rowD q) (rowD r)=some (.bl (decide (q≠r))):=by show(if lvs (q.map cel++r.map cel)then some (D.bl (!decide (q.map cel=r.map cel)))else none)=_;rw[xf ⟨1,by decide,by rw[<- vn];exact zGb _⟩];congr 2;rw[<- decide_not];exact xS.mpr (not_congr ⟨zIw,λe=>by rw[e]⟩)
def yBp :inK S (cel p) (rowD r)=some (.bl (decide (p∈r))):=by show((if lvs (cel p::r.map cel)then some (decide (cel p∈r.map cel))else none).map D.bl)=_;rw[xf (yB5 p r)];show some (D.bl _)=_;congr 2;exact xS.mpr zGa
def zC3 :∀(l:List Pt),lowL k (l.map cel)=true
 | []=>rfl
 | p::l=>by show((cel p).low k && lowL k (l.map cel))=true;rw[zC3 l];rfl
def zFs :∀(l:List (List Pt)),lowL k (l.map rowD)=true
 | []=>rfl
 | r::l=>by show((rowD r).low k && lowL k (l.map rowD))=true;rw[zFs l,show(rowD r).low k=true from zC3 r];rfl
def zJh{α:Type}{f:α->Int}:∀(l:List α),lowL k (l.map λx=>.int (f x))=true
 | []=>rfl
 | p::l=>by show(true && lowL k (l.map λx=>D.int (f x)))=true;rw[zJh l];rfl
def zAa{a b:SM}(h:a env S=.nx e S1)(h':b e S1=r):sSeq a b env S=r:=by rw[sSeq,h];exact h'
def zLj{a:SM}(h:a env S=.rt d S1):sSeq a b env S=.rt d S1:=by rw[sSeq,h]
def tru :truth S (.bl b)=some b:=rfl
def zGq{α:Type}{p:α->Bool}:∀l:List α,bools (l.map λx=>D.bl (p x))=some (l.map p)
 | []=>rfl
 | a::l=>by
  have:=zGq (p:=p) l;show(bools (l.map λx=>D.bl (p x))).map (p a::·)=_;rw[this];rfl
def zRe{α:Type}{p:α->Prop}[DecidablePred p](l:List α)[Decidable (∀x∈l,p x)]:allB S [.lst (l.map λx=>.bl (decide (p x)))]=some (.bl (decide (∀x∈l,p x))):=by show((bools (l.map λx=>D.bl (decide (p x)))).map λbs=>D.bl (bs.all id))=_;rw[zGq];show some (D.bl _)=_;congr 2;rw[uQ,vV,uE];simp
def zVj{α:Type}{p:α->Prop}[DecidablePred p](l:List α)[Decidable (∃x∈l,p x)]:anyB S [.lst (l.map λx=>.bl (decide (p x)))]=some (.bl (decide (∃x∈l,p x))):=by show((bools (l.map λx=>D.bl (decide (p x)))).map λbs=>D.bl (bs.any id))=_;rw[zGq];show some (D.bl _)=_;congr 2;rw[uQ,yx,uE];simp
def yBq{t:TM}{b:SM}(h:t env S=.ok false S)(h2:b env S=q):sIf t a b env S=q:=by rw[sIf,h,Rs.then_ok,xg (by decide)];exact h2
def zEb{t:TM}{a b:SM}{p:Prop}[Decidable p](h:t env S=.ok (decide p) S):sIf t a b env S=if p then a env S else b env S:=by
 rw[sIf,h,Rs.then_ok];by_cases c:p
 ·rw[xf c,xf (xx c)]
 ·rw[xg c,xg (by simpa using c)]
def zM7{α:Type}{h:α->D}{g:GM}{b:SM}{S:Store}{v:D}(I:Env->Prop)(P:α->Prop):∀(xs:List α) (env:Env),I env->
  (∀a∈xs,∀env,I env->∃env',g S (h a) env=some env'/\((P a/\b env' S=.rt v S)\/(¬ P a/\∃env'',b env' S=.nx env'' S/\I env'')))->
  ((∃a∈xs,P a)/\forL [] g b (xs.map h) env S=.rt v S)\/((¬ ∃a∈xs,P a)/\∃env',forL [] g b (xs.map h) env S=.nx env' S/\I env')
 | [],env,hi,_=>.inr ⟨(λhq47=>by obtain⟨a,ha,_⟩:=hq47;cases ha),env,by rw[x6,forL,xf zAf],hi⟩
 | a::xs,env,hi,he=>by
  obtain⟨env',e1,e2⟩:=he a (.head _) env hi;rcases e2 with⟨p,e2⟩|⟨np,env'',e2,i2⟩
  ·refine .inl ⟨⟨a,.head _,p⟩,?_⟩;rw[xr,forL,xf zAf,e1];dsimp only;rw[e2]
  ·rcases zM7 (g:=g) (b:=b) (v:=v) (h:=h) I P xs env'' i2 λc hc=>he c (.tail _ hc)with⟨⟨c,hc,pc⟩,e3⟩|⟨n,e4,e3,i3⟩
   ·refine .inl ⟨⟨c,.tail _ hc,pc⟩,?_⟩;rw[xr,forL,xf zAf,e1];dsimp only;rw[e2];exact e3
   ·refine .inr ⟨λhq1=>?_,e4,?_,i3⟩
    ·obtain⟨c,hc,pc⟩:=hq1;rcases xp.mp hc with z|z
     ·exact np (z ▸ pc)
     ·exact n ⟨c,z,pc⟩
    ·rw[xr,forL,xf zAf,e1];dsimp only;rw[e2];exact e3
def zRl :zDe S (.tup l)=some ⟨l,[]⟩:=rfl
def zHm :zDe S (.lst l)=some ⟨l,[]⟩:=rfl
def zBo{e:EM}(h:e env S=.ok (.tup l) S):iVal e env S=.ok ⟨l,[]⟩ S:=by rw[iVal,h,Rs.bind_ok,zRl];rfl
def eq_int{x y:Int}:eqI S (.int x) (.int y)=some (.bl (decide (x=y))):=rfl
def gt_int{x y:Int}:gtD S (.int x) (.int y)=some (.bl (decide (y<x))):=rfl
def zZh{a b:TM}[Decidable p][Decidable q][Decidable (p\/q)](h1:a env S=.ok (decide p) S)(h2:b env S=.ok (decide q) S):tOr a b env S=.ok (decide (p\/q)) S:=by
 rw[tOr,h1,Rs.bind_ok];by_cases c:p
 ·rw[xf (xx c),xx (p:=p\/q) (.inl c)]
 ·rw[xg (by simpa using c),h2];congr 1;exact xS.mpr ⟨.inr,λz=>z.resolve_left c⟩
def zVr{a:TM}[Decidable p][Decidable (¬ p)](h1:a env S=.ok (decide p) S):tNot a env S=.ok (decide (¬ p)) S:=by
 rw[tNot,h1,Rs.bind_ok];congr 1;by_cases c:p
 ·rw[xx c,xC (λz=>z c)];rfl
 ·rw[xC c,xx c];rfl
def zUv(r:List Pt):lv 2 (rowD r):=⟨_,rfl,λx hx=>by
 obtain⟨p,_,rfl⟩:=xt.mp hx;exact zUw p⟩
def zYo(h:∀x∈l,∃p,x=cel p):∃ps:List Pt,l=ps.map cel:=by
 induction l with
 | nil=>exact⟨[],rfl⟩
 | cons x l ih=>
  obtain⟨p,rfl⟩:=h x (.head _);obtain⟨ps,e⟩:=ih λy hy=>h y (.tail _ hy)
  exact⟨p::ps,by rw[e];rfl⟩
def nd_cel{l:List Pt}:(l.map cel).Nodup <-> l.Nodup:=⟨λh=>(yj.mp h).imp λ{a b} h z=>h (by rw[z]),λh=>yj.mpr (h.imp λ{a b} h z=>h (zGo z))⟩
structure Sr (l cs:List Pt):Prop where
 eq:srt (l.map cel)=cs.map cel
 up:Up (cs.map cel)
 mem:∀p,p∈cs <-> p∈l
 len:cs.length=l.length
 nd:l.Nodup->cs.Nodup
def zZm(l:List Pt):∃cs,Sr l cs:=by
 have pm:=zBx (l.map cel);obtain⟨cs,e⟩:=zYo (l:=srt (l.map cel)) λx hx=>by
  obtain⟨p,_,rfl⟩:=xt.mp (pm.mem_iff.mp hx);exact⟨p,rfl⟩
 refine⟨cs,e,by rw[<- e];exact zLg (n:=1) (zGb l),λp=>?_,?_,λh=>nd_cel.mp (by rw[<- e];exact pm.nodup_iff.mpr (nd_cel.mpr h))⟩
 ·rw[<- zGa (l:=cs),<- e,pm.mem_iff,zGa]
 ·have:=pm.length_eq;rw[e,xn,xn]at this;exact this
def sr(l:List Pt):List Pt:=choose (zZm l)
def zCv(l:List Pt):Sr l (sr l):=choose_spec (zZm l)
def zW6(rows:List (List Pt)):∃us:List (List Pt),srt (dedup (rows.map rowD))=us.map rowD/\us.Nodup/\∀r,r∈us <-> r∈rows:=by
 have al:∀x∈srt (dedup (rows.map rowD)),∃r∈rows,x=rowD r:=λx hx=>by
  obtain⟨r,hr,e⟩:=xt.mp (mem_dedup.mp ((zBx _).mem_iff.mp hx));exact⟨r,hr,e.symm⟩
 obtain⟨us,e1⟩:∃us:List (List Pt),srt (dedup (rows.map rowD))=us.map rowD:=by
  generalize srt (dedup (rows.map rowD))=l at al;induction l with
  | nil=>exact⟨[],rfl⟩
  | cons x l ih=>
   obtain⟨r,_,rfl⟩:=al x (.head _);obtain⟨us,e⟩:=ih λy hy=>al y (.tail _ hy)
   exact⟨r::us,by rw[e];rfl⟩
 refine⟨us,e1,?_,λr=>?_⟩
 ·have:(us.map rowD).Nodup:=by rw[<- e1];exact(zBx _).nodup_iff.mpr zG1
  exact(yj.mp this).imp λ{a b} h z=>h (by rw[z])
 ·have m:rowD r∈us.map rowD <-> rowD r∈rows.map rowD:=by rw[<- e1,(zBx _).mem_iff,mem_dedup]
  constructor
  ·intro h;obtain⟨q,hq,e⟩:=xt.mp (m.mp (xt.mpr ⟨r,h,rfl⟩));rw[<- zHw e];exact hq
  ·intro h;obtain⟨q,hq,e⟩:=xt.mp (m.mpr (xt.mpr ⟨r,h,rfl⟩));rw[<- zHw e];exact hq
def zN2{n:Nat}{l:List Pt}(h:S[n]?=some (.lst (l.map cel))):zBc S (cel p) (.ref n)=some (.bl (decide (p ∉ l))):=by unfold zBc inKO;rw[show look S (.ref n)=some (.lst (l.map cel))from h];dsimp only;rw[xf (yB5 p l)];show some (D.bl _)=_;congr 2;rw[<- decide_not];exact xS.mpr (not_congr zGa)
def yD8{S:Store}{n:Nat}{l m:List D}(h:S[n]?=some (.lst l))(hl:l.length+m.length<=1000):zF2 S (.ref n) [.lst m]=some (.non,S.set n (.lst (l++m))):=by unfold zF2;simp only;rw[xg (λz=>by cases z),h];show(if l.length+m.length<=most then some (D.non,S.set n (.lst (l++m)))else none)=_;rw[xf (xm hl (by decide))]
noncomputable def allC (P:List (List Pt)):List Pt:=P.foldl (λa r=>a++r.filter λc=>decide (c ∉ a)) []
def zGw{r:List Pt}:allC (P++[r])=allC P++r.filter λc=>decide (c ∉ allC P):=by unfold allC;rw[List.foldl_append];rfl
def zRf(P:List (List Pt)):(allC P).length<=P.flatten.length/\(∀r∈P,Sub r (allC P))/\((∀r∈P,r.Nodup)->(allC P).Nodup):=by
 obtain⟨n,hn⟩:∃n,n=P.length:=⟨_,rfl⟩
 induction n generalizing P with
 | zero=>
  obtain rfl:P=[]:=uA hn.symm;exact⟨xi _,λr hr=>(by cases hr),λ_=>v8⟩
 | succ n ih=>
  obtain⟨Q,r,rfl⟩:∃Q r,P=Q++[r]:=⟨P.dropLast,P.getLast (by intro z;rw[z]at hn;cases hn),(uX _).symm⟩
  obtain⟨h1,h2,h3⟩:=ih Q (by simpa using hn);rw[zGw];refine⟨?_,λq hq c hc=>?_,λh=>?_⟩
  ·have:=uG (λc=>decide (c ∉ allC Q)) r;simp only[List.flatten_append,yL,List.flatten_nil,vT,xw];lia
  ·rcases xJ.mp hq with z|z
   ·exact vq _ (h2 q z c hc)
   ·rw[xE.mp z]at hc;by_cases d:c∈allC Q
    ·exact vq _ d
    ·exact xZ _ (vO.mpr ⟨hc,xx d⟩)
  ·refine yh.mpr ⟨h3 λq hq=>h q (vq _ hq),(h r (by simp)).filter _,λa ha b hb z=>?_⟩;subst z;exact uo (vO.mp hb).2 ha
def zW8{n:Nat}(h:n<=1000):zF0 [.int (n:Nat)]=some ⟨(List.range n).map fun(i:Nat)=>.int (i:Int),[]⟩:=by
 obtain⟨k,hk⟩:∃k:Int,k=(n:Int):=⟨_,rfl⟩
 rw[<- hk,zRw (by nofun) (by nofun),show k.toNat=n by nofun]
def zD2{e:EM}{n:Nat}(h:e env S=.ok (.int (n:Nat)) S')(hn:n<=1000):zBt (zA0 e aNil) env S=.ok ⟨(List.range n).map fun(i:Nat)=>.int (i:Int),[]⟩ S':=by unfold zBt zA0 aNil;rw[h,Rs.bind_ok,Rs.bind_ok,Rs.bind_ok,zW8 hn];rfl
def plus1{e:EM}{k:Nat}(h:e env S=.ok (.int (k:Nat)) S'):eOp addD (eC (.int 1)) e env S=.ok (.int ((1+k:Nat):Int)) S':=by
 have ad:addD S' (.int 1) (.int (k:Nat))=some (.int ((1+k:Nat):Int)):=by show some (D.int (1+(k:Int)))=_;congr 2
 rw[eOp,eC,Rs.bind_ok,h,Rs.bind_ok,ad];rfl
def zJo:∀(l:List Pt) (n:Nat),zFn (l.map cel) n=(l.zipIdx n).map λa=>.tup [.int (a.2:Nat),cel a.1]
 | [],_=>rfl
 | p::l,n=>by
  rw[xr,zFn,zJo l (n+1)];rfl
noncomputable def picked (cs:List Pt) (m:Nat):List Pt:=(cs.zipIdx.filter λa=>m.testBit a.2).map Prod.fst
def zMx(cs:List Pt)(m:Nat):(picked cs m).Sublist cs:=by have:=(List.filter_sublist (p:=λa=>m.testBit a.2) (l:=cs.zipIdx)).map Prod.fst;rw[yW]at this;exact this
def zOv{cs:List Pt}{m:Nat}(h0:m≠0)(h9:m<2 ^ cs.length):picked cs m≠[]:=by
 obtain⟨i,hi⟩:=Nat.exists_testBit_of_ne_zero h0;have il:i<cs.length:=by have:=Nat.ge_two_pow_of_testBit hi;exact(Nat.pow_lt_pow_iff_right (by decide)).mp (yc this h9)
 have:cs[i]∈picked cs m:=xt.mpr ⟨(cs[i],i),vO.mpr ⟨uO.mpr ⟨i,by simp[il]⟩,hi⟩,rfl⟩;exact List.ne_nil_of_mem this
abbrev natD(n:Nat):D:=.int (n:Int)
noncomputable abbrev dctC (A:List (Pt × D)):D:=.dct true (A.map λa=>cel a.1) (A.map λa=>a.2)
noncomputable def lkA:List (Pt × D)->Pt->Option D
 | [],_=>none
 | a::A,p=>if a.1=p then some a.2 else lkA A p
noncomputable def putA (A:List (Pt × D)) (p:Pt) (v:D):List (Pt × D):=if p∈A.map Prod.fst then A.map (λa=>if a.1=p then(a.1,v)else a)else A++[(p,v)]
def zDw :zBa true (cel p)=true:=rfl
def mem_keys{A:List (Pt × D)}:cel p∈A.map (λa=>cel a.1) <-> p∈A.map Prod.fst:=by rw[show(A.map λa=>cel a.1)=(A.map Prod.fst).map cel by rw[xH];rfl];exact zGa
def zKq:∀(A:List (Pt × D)) (p:Pt),look2 (A.map λa=>cel a.1) (A.map λa=>a.2) (cel p)=lkA A p
 | [],_=>rfl
 | a::A,p=>by
  rw[xr,xr,look2,lkA];by_cases e:a.1=p
  ·rw[xf (by rw[e]),xf e]
  ·rw[xg λz=>e (zGo z),xg e,zKq A p]
def zUl:∀(A:List (Pt × D)) (p:Pt) (v:D),repl2 (A.map λa=>cel a.1) (A.map λa=>a.2) (cel p) v=(A.map (λa=>if a.1=p then(a.1,v)else a)).map λa=>a.2
 | [],_,_=>rfl
 | a::A,p,v=>by
  rw[xr,xr,xr,xr,repl2,zUl A p v];by_cases e:a.1=p
  ·rw[xf (by rw[e]),xf e]
  ·rw[xg λz=>e (zGo z),xg e]
def zUm{A:List (Pt × D)}:put2 (A.map λa=>cel a.1) (A.map λa=>a.2) (cel p) v=((putA A p v).map λa=>cel a.1,(putA A p v).map λa=>a.2):=by
 unfold put2 putA;by_cases h:p∈A.map Prod.fst
 ·rw[xf (mem_keys.mpr h),xf h,zUl];congr 1;rw[xH];refine yS λa _=>?_
  show cel a.1=cel (if a.1=p then(a.1,v)else a).1;split <;> rfl
 ·rw[xg λz=>h (mem_keys.mp z),xg h,vn,vn];rfl
def zOm{S:Store}{c:Nat}{A:List (Pt × D)}(h:S[c]?=some (dctC A))(hl:A.length<=2000000):putD S (.ref c) (cel p) v=some (S.set c (dctC (putA A p v))):=by unfold putD;simp only[h];rw[xf ⟨zDw,by rw[xn];exact yc hl (by decide)⟩,zUm]
def in_C{A:List (Pt × D)}(h:look S v=some (dctC A)):inK S (cel p) v=some (.bl (decide (p∈A.map Prod.fst))):=by unfold inK inKO;rw[h];show((if zBa true (cel p)=true then some (decide (cel p∈A.map λa=>cel a.1))else none).map D.bl)=_;rw[xf zDw];show some (D.bl _)=_;congr 2;exact xS.mpr mem_keys
def zPb{A:List (Pt × D)}(h:look S v=some (dctC A)):zBc S (cel p) v=some (.bl (decide (p ∉ A.map Prod.fst))):=by unfold zBc inKO;rw[h];show((if zBa true (cel p)=true then some (decide (cel p∈A.map λa=>cel a.1))else none).map λb=>D.bl (!b))=_;rw[xf zDw];show some (D.bl _)=_;congr 2;rw[<- decide_not];exact xS.mpr (not_congr mem_keys)
def ix_C(h:look S v=some (dctC A)):ixD S v (cel p)=lkA A p:=by unfold ixD;rw[h];show(if zBa true (cel p)=true then look2 (A.map λa=>cel a.1) (A.map λa=>a.2) (cel p)else none)=_;rw[xf zDw,zKq]
def yD6(h:look S v=some (dctC A)):getM S v [cel p,w]=some ((lkA A p).getD w,S):=by unfold getM;rw[h];show(if zBa true (cel p)=true then some ((look2 (A.map λa=>cel a.1) (A.map λa=>a.2) (cel p)).getD w,S)else none)=_;rw[xf zDw,zKq]
def zUz{A:List (Pt × D)}(h:look S v=some (dctC A)):zIf S [v]=some (.lst ((A.map Prod.fst).map cel)):=by unfold zIf;simp only[h,xH];rfl
def zLx{A:List (Pt × D)}:(putA A p v).map Prod.fst=if p∈A.map Prod.fst then A.map Prod.fst else A.map Prod.fst++[p]:=by
 unfold putA;by_cases h:p∈A.map Prod.fst
 ·rw[xf h,xf h,xH];refine yS λa _=>?_
  show(if a.1=p then(a.1,v)else a).1=a.1;split <;> rfl
 ·rw[xg h,xg h,vn];rfl
def zKp{A:List (Pt × D)}:q∈(putA A p v).map Prod.fst <-> q∈A.map Prod.fst\/q=p:=by
 rw[zLx];split
 ·rename_i h;exact⟨.inl,λz=>z.elim id λe=>by rw[e];exact h⟩
 ·rw[xJ,xE]
def zUu{A:List (Pt × D)}(h:(A.map Prod.fst).Nodup):((putA A p v).map Prod.fst).Nodup:=by
 rw[zLx];split
 ·exact h
 ·rename_i n;refine yh.mpr ⟨h,by simp,λa ha b hb z=>?_⟩;rw[xE.mp hb]at z;exact n (by rw[<- z];exact ha)
def zIg{A:List (Pt × D)}:(putA A p v).length<=A.length+1:=by
 unfold putA;split
 ·rw[xn];lia
 ·rw[xw];exact xi _
def zKr:∀{A:List (Pt × D)}{p:Pt},p ∉ A.map Prod.fst->lkA A p=none
 | [],_,_=>rfl
 | a::A,p,h=>by
  rw[xr,xp,not_or]at h;rw[lkA,xg (xv h.1),zKr h.2]
def zGc:∀{A:List (Pt × D)}{p:Pt},p∈A.map Prod.fst->∃v,lkA A p=some v
 | [],_,h=>by cases h
 | a::A,p,h=>by
  rw[lkA];by_cases e:a.1=p
  ·exact⟨_,xf e⟩
  ·rw[xg e];rw[xr]at h;exact zGc ((xp.mp h).resolve_left (xv e))
def zUy{A:List (Pt × D)}(h:p ∉ A.map Prod.fst):lkA (A++B) p=lkA B p:=by
 induction A with
 | nil=>rfl
 | cons a A ih=>
  rw[xr,xp,not_or]at h;rw[ur,lkA,xg (xv h.1),ih h.2]
def zXg(h:lkA A p=some v):lkA (A++B) p=some v:=by
 induction A with
 | nil=>cases h
 | cons a A ih=>
  rw[lkA]at h;rw[ur,lkA];by_cases e:a.1=p
  ·rw[xf e]at h ⊢;exact h
  ·rw[xg e]at h ⊢;exact ih h
def yB7{A:List (Pt × D)}{p:Pt}:lkA (A.map (λa=>if a.1=p then(a.1,v)else a)) q=if q=p then(lkA A q).map (λ_=>v)else lkA A q:=by
 induction A with
 | nil=>rw[x6,lkA];split <;> rfl
 | cons a A ih=>
  rw[xr,lkA,lkA,ih];by_cases e:a.1=p
  ·rw[xf e];by_cases f:a.1=q
   ·rw[xf f,xf f,xf (by rw[<- f,e])];rfl
   ·rw[xg f,xg f]
  ·rw[xg e];by_cases f:a.1=q
   ·rw[xf f,xg (by rw[<- f];exact e)];rw[xf f]
   ·rw[xg f,xg f]
def yB6{p:Pt}:lkA (putA A p v) q=if q=p then some v else lkA A q:=by
 unfold putA;by_cases h:p∈A.map Prod.fst
 ·rw[xf h,yB7];by_cases e:q=p
  ·rw[xf e,xf e,e];obtain⟨w,ew⟩:=zGc h;rw[ew];rfl
  ·rw[xg e,xg e]
 ·rw[xg h];by_cases e:q=p
  ·rw[xf e,e,zUy h,lkA,xf rfl]
  ·rw[xg e];by_cases m:q∈A.map Prod.fst
   ·obtain⟨w,ew⟩:=zGc m;rw[ew,zXg ew]
   ·rw[zUy m,zKr m,lkA,xg (xv e),lkA]
def zPl{k:Nat}(h:∀a∈A,a.2.low k=true):(dctC A).low k=true:=by
 show(lowL k (A.map λa=>cel a.1) && lowL k (A.map λa=>a.2))=true;have h1:lowL k (A.map λa=>cel a.1)=true:=by rw[show(A.map λa=>cel a.1)=(A.map Prod.fst).map cel by rw[xH];rfl];exact zC3 _
 have h2:lowL k (A.map λa=>a.2)=true:=by
  clear h1
  induction A with
  | nil=>rfl
  | cons a A ih=>
   show(a.2.low k && lowL k (A.map λa=>a.2))=true;rw[h a (.head _),ih λb hb=>h b (.tail _ hb)];rfl
 rw[h1,h2];rfl
def Rz(r:List Pt):Prop:=r.Nodup/\Up (r.map cel)
def zRu(ha:Rz a)(hb:Rz b)(h:∀p,p∈a <-> p∈b):a=b:=
 zIw (up_eq (zGb _) (((List.perm_ext_iff_of_nodup ha.1 hb.1).mpr h).map _) ha.2 hb.2)
def zDh{l:List Pt}(hi:items S v=some (l.map cel))(hl:l.length<=1000000):zBr S [v]=some (.lst ((sr l).map cel)):=by unfold zBr;simp only[hi];rw[xf ⟨by rw[xn];exact xm hl (by decide),1,by decide,zGb l⟩,(zCv l).eq]
def zHp{l:List Pt}(h:l.Nodup):Rz (sr l):=⟨(zCv l).nd h,(zCv l).up⟩
def zEy :zAz S [.lst l]=some (.tup l):=rfl
abbrev addC(bs:List Pt)(p:Pt):List Pt:=if p∈bs then bs else bs++[p]
noncomputable abbrev bA (bs:List Pt):List (Pt × D):=bs.zipIdx.map λa=>(a.1,natD (2 ^ a.2))
abbrev zAw(bs:List Pt):D:=dctC (bA bs)
def zR9(bs:List Pt):(bA bs).map Prod.fst=bs:=by rw[xH];exact yW 0 bs
def zYy(bs:List Pt)(p:Pt):bA (bs++[p])=bA bs++[(p,natD (2 ^ bs.length))]:=by unfold bA;rw[List.zipIdx_append,vn,xX];rfl
def zS3{bs:List Pt}(n:p ∉ bs):putA (bA bs) p (natD (2 ^ bs.length))=bA (bs++[p]):=by unfold putA;rw[xg (by rw[zR9];exact n),zYy]
noncomputable abbrev ibB:SM:=(sIf (tB (eOp zBc (eVar 4) (eVar 1))) (sSeq (sPut putD (eVar 1) (eVar 4) (eVar 2)) (sSet 2 (eOp addD (eVar 2) (eVar 2)))) zBs)
def zRh{bs:List Pt}:(addC bs p).length<=bs.length+1:=by
 unfold addC;split
 ·lia
 ·simp
def zXv{S0:Store}{bs:List Pt}(hl:bs.length<=1000):ibB [some v,some (.ref S0.length),some (natD (2 ^ bs.length)),o3,some (cel p)] (S0++[zAw bs])=.nx [some v,some (.ref S0.length),some (natD (2 ^ (addC bs p).length)),o3,some (cel p)] (S0++[zAw (addC bs p)]):=by
 have at_:(S0++[zAw bs])[S0.length]?=some (zAw bs):=by simp
 have lk:look (S0++[zAw bs]) (.ref S0.length)=some (dctC (bA bs)):=at_;have t:tB (eOp zBc (eVar 4) (eVar 1)) [some v,some (.ref S0.length),some (natD (2 ^ bs.length)),o3,some (cel p)] (S0++[zAw bs])=.ok (decide (p ∉ bs)) (S0++[zAw bs]):=by have:=zPb (p:=p) lk;rw[zR9]at this;simp_arith [this]
 rw[ibB,zEb t];by_cases h:p∈bs
 ·rw[xg (by simpa using h),show addC bs p=bs from xf h];rfl
 ·rw[xf h,show addC bs p=bs++[p]from xg h];have pu:=zOm (p:=p) (v:=natD (2 ^ bs.length)) at_ (by rw[xn,List.length_zipIdx];lia);rw[zS3 h]at pu;have es:(S0++[zAw bs]).set S0.length (zAw (bs++[p]))=S0++[zAw (bs++[p])]:=by
   rw[yk _ _ (xi _)];simp
  rw[es]at pu;have ad:((2 ^ bs.length:Nat):Int)+((2 ^ bs.length:Nat):Int)=((2 ^ (bs++[p]).length:Nat):Int):=by rw[xw,vL,Nat.pow_succ];lia
  simp_arith [sPut,pu];rw[ad]
def zQ5{S0:Store}:∀(r bs:List Pt) (o4:Option D),bs.length+r.length<=1000->∃o4',forL [] (gName 4) ibB (r.map cel) [some v,some (.ref S0.length),some (natD (2 ^ bs.length)),o3,o4] (S0++[zAw bs])=.nx [some v,some (.ref S0.length),some (natD (2 ^ (r.foldl addC bs).length)),o3,o4'] (S0++[zAw (r.foldl addC bs)])
 | [],bs,o4,_=>⟨o4,by rw[x6,forL,xf zAf];rfl⟩
 | p::r,bs,o4,hl=>by
  rw[xB]at hl;have al:=zRh (bs:=bs) (p:=p);obtain⟨o4',e⟩:=zQ5 r (addC bs p) (some (cel p)) (by nofun);refine⟨o4',?_⟩;rw[xr,forL,xf zAf];have g:gName 4 (S0++[zAw bs]) (cel p) [some v,some (.ref S0.length),some (natD (2 ^ bs.length)),o3,o4]=some [some v,some (.ref S0.length),some (natD (2 ^ bs.length)),o3,some (cel p)]:=rfl;rw[g];dsimp only;rw[zXv (by nofun)];exact e
def zIl:∀(r bs:List Pt),(r.foldl addC bs).length<=bs.length+r.length
 | [],_=>xi _
 | p::r,bs=>by
  have:=zIl r (addC bs p);have al:=zRh (bs:=bs) (p:=p);rw[v3,xB];lia
def zPa{S0:Store}:∀(rows:List (List Pt)) (bs:List Pt) (o3 o4:Option D),bs.length+rows.flatten.length<=1000->∃o3' o4',forL [] (gName 3) (sFor (iVal (eVar 3)) (gName 4) ibB) (rows.map rowD) [some v,some (.ref S0.length),some (natD (2 ^ bs.length)),o3,o4] (S0++[zAw bs])=.nx [some v,some (.ref S0.length),some (natD (2 ^ (rows.flatten.foldl addC bs).length)),o3',o4'] (S0++[zAw (rows.flatten.foldl addC bs)])
 | [],bs,o3,o4,_=>⟨o3,o4,by rw[x6,forL,xf zAf];rfl⟩
 | r::rows,bs,o3,o4,hl=>by
  rw[yL,xw]at hl;obtain⟨o4a,e1⟩:=zQ5 (v:=v) (S0:=S0) (o3:=some (rowD r)) r bs o4 (by nofun);have fl:=zIl r bs;obtain⟨o3',o4',e2⟩:=zPa (v:=v) (S0:=S0) rows (r.foldl addC bs) (some (rowD r)) o4a (by nofun);refine⟨o3',o4',?_⟩;rw[xr,forL,xf zAf];have g:gName 3 (S0++[zAw bs]) (rowD r) [some v,some (.ref S0.length),some (natD (2 ^ bs.length)),o3,o4]=some [some v,some (.ref S0.length),some (natD (2 ^ bs.length)),some (rowD r),o4]:=rfl;have w:iVal (eVar 3) [some v,some (.ref S0.length),some (natD (2 ^ bs.length)),some (rowD r),o4] (S0++[zAw bs])=.ok ⟨r.map cel,[]⟩ (S0++[zAw bs]):=zBo rfl;rw[g];dsimp only;rw[sFor,w,Rs.then_ok,e1,yL,List.foldl_append];exact e2
def bsOf(P:List (List Pt)):List Pt:=P.flatten.foldl addC []
def zM8 :∀(r bs:List Pt),x∈r.foldl addC bs <-> x∈bs\/x∈r
 | [],bs=>by simp
 | p::r,bs=>by
  rw[v3,zM8 r,xp];unfold addC;split
  ·rename_i h;exact⟨λz=>z.elim .inl λz=>.inr (.inr z),λz=>z.elim .inl λz=>z.elim (λe=>.inl (by rw[e];exact h)) .inr⟩
  ·rw[xJ,xE,or_assoc]
def zQd:∀(r bs:List Pt),bs.Nodup->(r.foldl addC bs).Nodup
 | [],_,h=>h
 | p::r,bs,h=>by
  rw[v3];refine zQd r _ ?_;unfold addC;split
  ·exact h
  ·rename_i n;refine yh.mpr ⟨h,by simp,λa ha b hb z=>?_⟩;rw[xE.mp hb]at z;exact n (by rw[<- z];exact ha)
def bs_mem :x∈bsOf P <-> ∃r∈P,x∈r:=by unfold bsOf;rw[zM8,List.mem_flatten];simp
def yDb :(bsOf P).Nodup:=zQd _ _ v8
def yCb{P:List (List Pt)}:(bsOf P).length<=P.flatten.length:=by
 have:=zIl P.flatten []
 rwa[vU,xX]at this
def zR4(h:r∈P):Sub r (bsOf P):=λx hx=>bs_mem.mpr ⟨r,h,hx⟩
def zYv{P:List (List Pt)}(h:P.flatten.length<=1000):zEp [zAe P] S=.ok (zAw (bsOf P)) S:=by
 obtain⟨o3,o4,e⟩:=zPa P [] none none (by simpa using h);refine zMk (T:=[zAw (bsOf P)]) rfl ?_ (xi _) (by simp) (zPl λa ha=>?_)
 ·have w:iVal (eVar 0) [some (zAe P),some (.ref S.length),some (.int 1),none,none] (S++[zAw []])=.ok ⟨P.map rowD,[]⟩ (S++[zAw []]):=zBo rfl;refine zAa (S1:=S++[zAw []]) (by simp_arith [eNew,eDct];rfl) (zAa (e:=[some (zAe P),some (.ref S.length),some (.int 1),none,none]) (S1:=S++[zAw []]) (by simp_arith [xl]) (zAa (e:=[some (zAe P),some (.ref S.length),some (natD (2 ^ (bsOf P).length)),o3,o4]) (S1:=S++[zAw (bsOf P)]) ?_ (by simp_arith [xl])));rw[sFor,w,Rs.then_ok];exact e
 ·obtain⟨x,_,rfl⟩:=xt.mp ha;rfl
def zPo:∀(bs:List Pt) (x:Pt) (k:Nat),x∈bs->lkA ((bs.zipIdx k).map λa=>(a.1,natD (2 ^ a.2))) x=some (natD (2 ^ (k+RW.ix bs x)))
 | [],_,_,h=>by cases h
 | y::bs,x,k,h=>by
  rw[List.zipIdx_cons,xr,lkA];by_cases e:y=x
  ·subst e;have:RW.ix (y::bs) y=0:=by unfold RW.ix;rw[List.findIdx_cons];simp
   rw[xf rfl,this];rfl
  ·have:RW.ix (y::bs) x=RW.ix bs x+1:=by unfold RW.ix;rw[List.findIdx_cons];simp[e]
   rw[xg e,zPo bs x (k+1) ((xp.mp h).resolve_left (xv e)),this,Nat.add_assoc,Nat.add_comm 1]
def zXr(h:x∈bs):ixD S (zAw bs) (cel x)=some (natD (2 ^ RW.ix bs x)):=by have:=zPo bs x 0 h;rw[xX]at this;rw[ix_C rfl,this]
def zUp{m:Nat}:orD S (natD m) (natD n)=some (natD (m ||| n)):=by show(if 0<=(m:Int)/\0<=(n:Int)then some (D.int (((m:Int).toNat ||| (n:Int).toNat:Nat):Int))else none)=_;rw[xf ⟨by nofun,by nofun⟩,vw,vw]
def zRd{m:Nat}:andD S (natD m) (natD n)=some (natD (m &&& n)):=by show(if 0<=(m:Int)/\0<=(n:Int)then some (D.int (((m:Int).toNat &&& (n:Int).toNat:Nat):Int))else none)=_;rw[xf ⟨by nofun,by nofun⟩,vw,vw]
def zXe(h:Sub r bs):zDk [rowD r,zAw bs] S=.ok (natD (RW.mask bs r)) S:=by
 refine zDz rfl ?_ rfl;obtain⟨env',S',e,⟨rfl,o3,rfl⟩⟩:=zV8 (h:=cel) (g:=gName 3) (b:=(sSet 2 (eOp orD (eVar 2) (eOp ixD (eVar 1) (eVar 3))))) (λP env S'=>S'=S/\∃o3,env=[some (rowD r),some (zAw bs),some (natD (RW.mask bs P)),o3]) (λ_ _ _ _=>zAf) r [] [some (rowD r),some (zAw bs),some (natD 0),none] S ⟨rfl,none,rfl⟩ λp hp P env S' hh=>by
  obtain⟨rfl,o3,rfl⟩:=hh;have i:=zXr (S:=S') (h p hp);have o:orD S' (natD (RW.mask bs P)) (natD (2 ^ RW.ix bs p))=some (natD (RW.mask bs (P++[p]))):=by rw[zUp];unfold RW.mask;rw[List.foldl_append];rfl
  exact⟨[some (rowD r),some (zAw bs),some (natD (RW.mask bs P)),some (cel p)],[some (rowD r),some (zAw bs),some (natD (RW.mask bs (P++[p]))),some (cel p)],S',by simp_arith [xl],by simp_arith [i,o],rfl,_,rfl⟩
 have w:iVal (eVar 0) [some (rowD r),some (zAw bs),some (natD 0),none] S'=.ok ⟨r.map cel,[]⟩ S':=zBo rfl;refine zAa (e:=[some (rowD r),some (zAw bs),some (natD 0),none]) rfl (zAa (e:=[some (rowD r),some (zAw bs),some (natD (RW.mask bs r)),o3]) (S1:=S') ?_ (by simp_arith [xl]));rw[sFor,w,Rs.then_ok];exact e
def zSy{P:List (List Pt)}(h:P.flatten.length<=1000)(hl:P.length<=1000):zDy [zAe P,zAw (bsOf P)] S=.ok (.lst ((P.map (RW.mask (bsOf P))).map natD)) S:=by
 refine zDz rfl ?_ ?_
 ·have c:(zAn 1 [1] (iVal (eVar 0)) (gName 0) tYes (zAc zDk (zA0 (eVar 0) (zA0 (eVar 1) aNil)))) [some (zAe P),some (zAw (bsOf P))] S=.ok (.lst (P.map λr=>natD (RW.mask (bsOf P) r))) S:=by
   refine zCw (λenv=>∃o,env=[o,some (zAw (bsOf P))]) (zBo rfl) zAf ⟨none,rfl⟩ (xm hl (by decide)) ?_;rintro r hr env ⟨o,rfl⟩;exact⟨[some (rowD r),some (zAw (bsOf P))],by simp_arith [xl],⟨_,rfl⟩,by simp_arith [zXe (zR4 hr)]⟩
  show sRet _ [some (zAe P),some (zAw (bsOf P))] S=_;rw[sRet,c,Rs.then_ok,xH];rfl
 ·show lowL _ ((P.map (RW.mask (bsOf P))).map λn:Nat=>D.int (n:Int))=true;exact zJh _
def zNt{m:Nat}{ms:List Nat}(hl:ms.length<=1000):zC4 [natD m,.lst (ms.map natD)] S=.ok (.bl (decide (∃q∈ms,(q &&& m)=q))) S:=by
 refine zDz rfl ?_ rfl;have e:zAn 1 [0] (iVal (eVar 1)) (gName 0) tYes (eOp eqI (eOp andD (eVar 0) (eVar 1)) (eVar 0)) [some (natD m),some (.lst (ms.map natD))] S=.ok (.lst (ms.map λq=>.bl (decide ((q &&& m)=q)))) S:=by
  refine zCw (h:=natD) (λenv=>∃o,env=[o,some (natD m)]) ?_ zAf ⟨none,rfl⟩ (xm hl (by decide)) ?_
  ·simp_arith [iVal,zHm]
  ·rintro q hq env ⟨o,rfl⟩;have b:eqI S (natD (q &&& m)) (natD q)=some (.bl (decide ((q &&& m)=q))):=by
    show some (D.bl (decide (((q &&& m:Nat):Int)=(q:Int))))=_;congr 2;exact xS.mpr (by nofun)
   exact⟨[some (natD q),some (natD m)],by simp_arith [xl],⟨_,rfl⟩,by simp_arith [zRd,b]⟩
 show(sRet (eCB anyB (zA0 _ aNil))) [some (natD m),some (.lst (ms.map natD))] S=_;rw[sRet,eCB,zA0,e,Rs.bind_ok,aNil,Rs.bind_ok,Rs.bind_ok,zVj];rfl
abbrev sb(b c:Pt):Pt:=(b.1-c.1,b.2-c.2)
abbrev ad(b c:Pt):Pt:=(b.1+c.1,b.2+c.2)
def sb_iff :p=sb b c <-> ad p c=b:=by
 constructor
 ·rintro rfl;exact Prod.ext (by show b.1-c.1+c.1=b.1;lia) (by show b.2-c.2+c.2=b.2;lia)
 ·rintro rfl;exact Prod.ext (by show p.1=p.1+c.1-c.1;lia) (by show p.2=p.2+c.2-c.2;lia)
structure AR (bs:List Pt) (Q:Pt->Pt->Prop) (n:Nat) (A:List (Pt × D)):Prop where
 nd:(A.map Prod.fst).Nodup
 key:∀p,p∈A.map Prod.fst <-> ∃c b,Q c b/\p=sb b c
 val:∀p v,lkA A p=some v->∃m:Nat,v=natD m/\∀i,m.testBit i=true <-> ∃c b,Q c b/\p=sb b c/\RW.ix bs c=i
 nat:∀a∈A,∃m:Nat,a.2=natD m
 len:A.length<=n
def AR.imp{Q Q':Pt->Pt->Prop}(h:AR bs Q n A)(e:∀c b,Q c b <-> Q' c b):AR bs Q' n A:=by
 have:Q=Q':=by funext c b;exact propext (e c b)
 rw[<- this];exact h
def AR.get{Q:Pt->Pt->Prop}(h:AR bs Q n A)(p:Pt):∃g:Nat,(lkA A p).getD (natD 0)=natD g/\∀i,g.testBit i=true <-> ∃c b,Q c b/\p=sb b c/\RW.ix bs c=i:=by
 by_cases m:p∈A.map Prod.fst
 ·obtain⟨v,ev⟩:=zGc m;obtain⟨g,rfl,hg⟩:=h.val p v ev;exact⟨g,by rw[ev];rfl,hg⟩
 ·refine⟨0,by rw[zKr m];rfl,λi=>⟨(λz=>by rw[Nat.zero_testBit]at z;cases z),λhz1=>by obtain⟨c,b,q,e,_⟩:=hz1;exact absurd ((h.key p).mpr ⟨c,b,q,e⟩) m⟩⟩
def AR.put{Q:Pt->Pt->Prop}{g:Nat}(h:AR bs Q n A)(hg:∀i,g.testBit i=true <-> ∃c' b',Q c' b'/\sb b c=sb b' c'/\RW.ix bs c'=i):
  AR bs (λc' b'=>Q c' b'\/(c'=c/\b'=b)) (n+1) (putA A (sb b c) (natD (g ||| 2 ^ RW.ix bs c))) where
 nd:=zUu h.nd
 key:=λp=>by
  rw[zKp,h.key];constructor
  ·rintro(⟨c',b',q,e⟩|e)
   ·exact⟨c',b',.inl q,e⟩
   ·exact⟨c,b,.inr ⟨rfl,rfl⟩,e⟩
  ·rintro⟨c',b',q|⟨rfl,rfl⟩,e⟩
   ·exact .inl ⟨c',b',q,e⟩
   ·exact .inr e
 val:=λp v hv=>by
  rw[yB6]at hv;by_cases e:p=sb b c
  ·rw[xf e]at hv;cases hv;refine⟨_,rfl,λi=>?_⟩;rw[Nat.testBit_or,Bool.or_eq_true,hg,Nat.testBit_two_pow,uE];subst e;constructor
   ·rintro(⟨c',b',q,e1,e2⟩|e)
    ·exact⟨c',b',.inl q,e1,e2⟩
    ·exact⟨c,b,.inr ⟨rfl,rfl⟩,rfl,e⟩
   ·rintro⟨c',b',q|⟨rfl,rfl⟩,e1,e2⟩
    ·exact .inl ⟨c',b',q,e1,e2⟩
    ·exact .inr e2
  ·rw[xg e]at hv;obtain⟨m,rfl,hm⟩:=h.val p v hv;refine⟨m,rfl,λi=>?_⟩;rw[hm];constructor
   ·rintro⟨c',b',q,e1,e2⟩;exact⟨c',b',.inl q,e1,e2⟩
   ·rintro⟨c',b',q|⟨rfl,rfl⟩,e1,e2⟩
    ·exact⟨c',b',q,e1,e2⟩
    ·exact absurd e1 e
 nat:=λa ha=>by
  unfold putA at ha;split at ha
  ·obtain⟨x,hx,rfl⟩:=xt.mp ha;split
   ·exact⟨_,rfl⟩
   ·exact h.nat x hx
  ·rcases xJ.mp ha with z|z
   ·exact h.nat a z
   ·rw[xE.mp z];exact⟨_,rfl⟩
 len:=by have:=zIg (A:=A) (p:=sb b c) (v:=natD (g ||| 2 ^ RW.ix bs c));have:=h.len;lia
noncomputable abbrev arB:SM:=(sSeq (sSet 6 (eTup (zA0 (eOp subD (eOp ixD (eVar 5) (eC (.int 0))) (eOp ixD (eVar 3) (eC (.int 0)))) (zA0 (eOp subD (eOp ixD (eVar 5) (eC (.int 1))) (eOp ixD (eVar 3) (eC (.int 1)))) aNil))))
  (sPut putD (eVar 2) (eVar 6) (eOp orD (eMt "dict" getM (eVar 2) (zA0 (eVar 6) (zA0 (eC (.int 0)) aNil))) (eVar 4))))
noncomputable abbrev arE (S0:Store) (bs I:List Pt) (o3 o4 o5 o6:Option D):Env:=[some (zAw bs),some (rowD I),some (.ref S0.length),o3,o4,o5,o6]
def zZ0{Q:Pt->Pt->Prop}{n:Nat}(h:AR bs Q n A)(hn:n<=1000000):∃(A':List (Pt × D)) (o6':Option D),arB (arE S0 bs I (some (cel c)) (some (natD (2 ^ RW.ix bs c))) (some (cel b)) o6) (S0++[dctC A])=.nx (arE S0 bs I (some (cel c)) (some (natD (2 ^ RW.ix bs c))) (some (cel b)) o6') (S0++[dctC A'])/\AR bs (λc' b'=>Q c' b'\/(c'=c/\b'=b)) (n+1) A':=by
 obtain⟨g,eg,hg⟩:=h.get (sb b c);refine⟨_,some (cel (sb b c)),?_,h.put hg⟩;have at_:(S0++[dctC A])[S0.length]?=some (dctC A):=by simp
 have gt:=yD6 (v:=.ref S0.length) (w:=.int 0) (p:=sb b c) at_;rw[show(lkA A (sb b c)).getD (.int 0)=natD g from eg]at gt;have ty:tyD (S0++[dctC A]) (.ref S0.length)=some "dict":=by unfold tyD;rw[show look (S0++[dctC A]) (.ref S0.length)=_ from at_]
 have pu:=zOm (p:=sb b c) (v:=natD (g ||| 2 ^ RW.ix bs c)) at_ (by have:=h.len;lia);have es:(S0++[dctC A]).set S0.length (dctC (putA A (sb b c) (natD (g ||| 2 ^ RW.ix bs c))))=S0++[dctC (putA A (sb b c) (natD (g ||| 2 ^ RW.ix bs c)))]:=by rw[yk _ _ (xi _)];simp
 rw[es]at pu;refine zAa (e:=arE S0 bs I (some (cel c)) (some (natD (2 ^ RW.ix bs c))) (some (cel b)) (some (cel (sb b c)))) (S1:=S0++[dctC A]) (by simp_arith [xl]) ?_;simp_arith [sPut,eMt,ty,gt,zUp,pu]
def yDc{I:List Pt}{Q:Pt->Pt->Prop}{n:Nat}(h:AR bs Q n A)(hn:n+I.length<=1000000):∃(A':List (Pt × D)) (o5' o6':Option D),sFor (iVal (eVar 1)) (gName 5) arB (arE S0 bs I (some (cel c)) (some (natD (2 ^ RW.ix bs c))) o5 o6) (S0++[dctC A])=.nx (arE S0 bs I (some (cel c)) (some (natD (2 ^ RW.ix bs c))) o5' o6') (S0++[dctC A'])/\AR bs (λc' b'=>Q c' b'\/(c'=c/\b'∈I)) (n+I.length) A':=by
 have w:iVal (eVar 1) (arE S0 bs I (some (cel c)) (some (natD (2 ^ RW.ix bs c))) o5 o6) (S0++[dctC A])=.ok ⟨I.map cel,[]⟩ (S0++[dctC A]):=zBo rfl;obtain⟨env',S',e,A',o5',o6',rfl,rfl,ar⟩:=zCb (h:=cel) (g:=gName 5) (ys:=I) (λP env S=>∃(A':List (Pt × D)) (o5' o6':Option D),env=arE S0 bs I (some (cel c)) (some (natD (2 ^ RW.ix bs c))) o5' o6'/\S=S0++[dctC A']/\AR bs (λc' b'=>Q c' b'\/(c'=c/\b'∈P)) (n+P.length) A') (λ_ _ _ _=>zAf) (λP b R eq env S hh=>by
  obtain⟨A',o5',o6',rfl,rfl,ar⟩:=hh;have pl:P.length<I.length:=by rw[eq];simp
  obtain⟨A2,o62,e2,ar2⟩:=zZ0 ar (by nofun);refine⟨arE S0 bs I (some (cel c)) (some (natD (2 ^ RW.ix bs c))) (some (cel b)) o6',_,_,by simp_arith [xl],e2,A2,_,_,rfl,rfl,?_⟩;rw[xw,vL,<- Nat.add_assoc];refine ar2.imp λc' b'=>?_
  simp only[xJ,xE];constructor
  ·rintro((q|⟨q1,q2⟩)|⟨q1,q2⟩)
   ·exact .inl q
   ·exact .inr ⟨q1,.inl q2⟩
   ·exact .inr ⟨q1,.inr q2⟩
  ·rintro(q|⟨q1,q2|q2⟩)
   ·exact .inl (.inl q)
   ·exact .inl (.inr ⟨q1,q2⟩)
   ·exact .inr ⟨q1,q2⟩) I [] (arE S0 bs I (some (cel c)) (some (natD (2 ^ RW.ix bs c))) o5 o6) (S0++[dctC A]) rfl ⟨A,o5,o6,rfl,rfl,h.imp λc' b'=>by simp⟩
 refine⟨A',o5',o6',?_,ar⟩;rw[sFor,w,Rs.then_ok];exact e
def yBf{bs:List Pt}(nd:bs.Nodup){i:Nat}(h:(c,i)∈bs.zipIdx):RW.ix bs c=i:=by obtain⟨k,hk⟩:=uO.mp h;rw[List.getElem?_zipIdx]at hk;obtain⟨x,hx,e⟩:=vQ.mp hk;cases e;have hc:c∈bs:=uM hx;have e2:=RW.ix_at hc;have:=(List.getElem?_inj (xO.mp hx).1 nd).mp (hx.trans e2.symm);lia
def zRb{P:List (List Pt)}{I:List Pt}(h:P.flatten.length<=1000)(hI:I.length<=1000):∃A,zBz [zAw (bsOf P),rowD I] S=.ok (dctC A) S/\AR (bsOf P) (λc b=>c∈bsOf P/\b∈I) 1000000 A:=by
 have bl:(bsOf P).length<=1000:=xm yCb h;have ml:∀k,k<=(bsOf P).length->k*I.length<=1000000:=λk hk=>by
  have:=Nat.mul_le_mul (xm hk bl) hI;lia
 have w:∀S',zM3 (eVar 0) (arE S (bsOf P) I none none none none) S'=.ok ⟨(bsOf P).zipIdx.map λa=>.tup [cel a.1,natD (2 ^ a.2)],[]⟩ S':=λS'=>by
  have:dK1 (zAw (bsOf P))=some ((bA (bsOf P)).map λa=>cel a.1,(bA (bsOf P)).map λa=>a.2):=rfl;simp only[zM3,arE,eVar,uq,Rs.bind_ok,this,vH,zAk];rw[List.zip_map',xH,xH];rfl
 obtain⟨env',S',e,A',o3,o4,o5,o6,rfl,rfl,ar⟩:=zCb (h:=λa:Pt × Nat=>D.tup [cel a.1,natD (2 ^ a.2)]) (g:=gTup [gName 3,gName 4]) (ys:=(bsOf P).zipIdx) (λZ env S'=>∃(A':List (Pt × D)) (o3 o4 o5 o6:Option D),env=arE S (bsOf P) I o3 o4 o5 o6/\S'=S++[dctC A']/\AR (bsOf P) (λc b=>(∃i,(c,i)∈Z)/\b∈I) (Z.length*I.length) A') (λ_ _ _ _=>zAf) (λZ a R eq env S' hh=>by
  obtain⟨A',o3,o4,o5,o6,rfl,rfl,ar⟩:=hh;obtain⟨c,i⟩:=a;have zl:Z.length<(bsOf P).length:=by have:=congrArg List.length eq;rw[List.length_zipIdx,xw,xB]at this;lia
  have ei:=yBf yDb (show(c,i)∈(bsOf P).zipIdx by rw[eq];simp);have m1:=ml (Z.length+1) (by nofun);rw[Nat.succ_mul]at m1;obtain⟨A2,o52,o62,e2,ar2⟩:=yDc ar m1;rw[ei]at e2;refine⟨arE S (bsOf P) I (some (cel c)) (some (natD (2 ^ i))) o5 o6,_,_,by simp_arith [xl],e2,A2,_,_,_,_,rfl,rfl,?_⟩;rw[xw,vL,Nat.succ_mul];refine ar2.imp λc' b'=>?_
  constructor
  ·rintro(⟨⟨j,hj⟩,hb⟩|⟨rfl,hb⟩)
   ·exact⟨⟨j,vq _ hj⟩,hb⟩
   ·exact⟨⟨i,by simp⟩,hb⟩
  ·rintro⟨⟨j,hj⟩,hb⟩;rcases xJ.mp hj with z|z
   ·exact .inl ⟨⟨j,z⟩,hb⟩
   ·cases xE.mp z;exact .inr ⟨rfl,hb⟩) (bsOf P).zipIdx [] (arE S (bsOf P) I none none none none) (S++[dctC []]) rfl ⟨[],none,none,none,none,rfl,rfl,⟨v8,λp=>⟨λz=>(nomatch z),fun⟨c,b,⟨⟨i,z⟩,_⟩,_⟩=>(nomatch z)⟩,λp v z=>(nomatch z),λa z=>(nomatch z),xV _⟩⟩
 have ar':AR (bsOf P) (λc b=>c∈bsOf P/\b∈I) 1000000 A':=by
  have a2:=ar.imp (Q':=λc b=>c∈bsOf P/\b∈I) λc b=>by
   refine and_congr_left λ_=>⟨λhq1=>?_,λz=>?_⟩
   ·obtain⟨i,z⟩:=hq1;have:=List.mem_map_of_mem (f:=Prod.fst) z;rw[yW]at this;exact this
   ·rw[<- yW 0 (bsOf P)]at z;obtain⟨⟨x,i⟩,hx,rfl⟩:=xt.mp z;exact⟨i,hx⟩
  refine⟨a2.nd,a2.key,a2.val,a2.nat,?_⟩;have:=ml (bsOf P).length (xi _);have:=a2.len;rw[List.length_zipIdx]at this;lia
 refine⟨A',zMk (T:=[dctC A']) rfl ?_ (xi _) (by simp) (zPl λa ha=>?_),ar'⟩
 ·refine zAa (by simp_arith [eNew,eDct];rfl) (zAa (e:=arE S (bsOf P) I o3 o4 o5 o6) (S1:=S++[dctC A']) ?_ (by simp_arith [xl]));rw[sFor,w,Rs.then_ok];exact e
 ·obtain⟨m,e⟩:=ar'.nat a ha;rw[e];rfl
def Cand(P:List (List Pt))(I:List Pt)(p:Pt):Prop:=∃c b,(c∈bsOf P/\b∈I)/\p=sb b c
def Brk(P:List (List Pt))(I:List Pt)(p:Pt):Prop:=∃r∈P,∀c∈r,ad p c∈I
def zZ1{q m:Nat}:(q &&& m)=q <-> ∀i,q.testBit i=true->m.testBit i=true:=by
 constructor
 ·intro h i hi;have:=congrArg (λx=>x.testBit i) h;simp only[Nat.testBit_and]at this;rw[hi]at this;simpa using this
 ·intro h;refine Nat.eq_of_testBit_eq λi=>?_
  rw[Nat.testBit_and];cases e:q.testBit i with
  | false=>rfl
  | true=>rw[h i e];rfl
def zYs{P:List (List Pt)}{m:Nat}(hm:∀i,m.testBit i=true <-> ∃c b,(c∈bsOf P/\b∈I)/\p=sb b c/\RW.ix (bsOf P) c=i):(∃q∈P.map (RW.mask (bsOf P)),(q &&& m)=q) <-> Brk P I p:=by
 have key:∀r∈P,((RW.mask (bsOf P) r &&& m)=RW.mask (bsOf P) r <-> ∀c∈r,ad p c∈I):=λr hr=>by
  rw[zZ1];constructor
  ·intro h c hc;obtain⟨c',b,⟨h1,h2⟩,e1,e2⟩:=(hm _).mp (h (RW.ix (bsOf P) c) (RW.mask_bit.mpr ⟨c,hc,rfl⟩));have:=RW.ix_inj h1 (zR4 hr c hc) e2;subst this;rw[sb_iff.mp e1];exact h2
  ·intro h i hi;obtain⟨c,hc,rfl⟩:=RW.mask_bit.mp hi;exact(hm _).mpr ⟨c,_,⟨zR4 hr c hc,h c hc⟩,sb_iff.mpr rfl,rfl⟩
 constructor
 ·rintro⟨q,hq,e⟩;obtain⟨r,hr,rfl⟩:=xt.mp hq;exact⟨r,hr,(key r hr).mp e⟩
 ·rintro⟨r,hr,h⟩;exact⟨_,xt.mpr ⟨r,hr,rfl⟩,(key r hr).mpr h⟩
def zLs{m n:Nat}(h:natD m=natD n):m=n:=by have:=D.int.inj h;lia
def mem_nat{m:Nat}{l:List Nat}:natD m∈l.map natD <-> m∈l:=⟨λh=>by obtain⟨q,hq,e⟩:=xt.mp h;rw[<- zLs e];exact hq,λh=>xt.mpr ⟨m,h,rfl⟩⟩
noncomputable abbrev knD (W:Nat->Prop) (Kn:List Nat):D:=.dct false (Kn.map natD) (Kn.map λm=>.bl (decide (W m)))
def zPm{W:Nat->Prop}{m:Nat}:∀{Kn:List Nat},m∈Kn->look2 (Kn.map natD) (Kn.map λm=>D.bl (decide (W m))) (natD m)=some (.bl (decide (W m)))
 | [],h=>by cases h
 | k::Kn,h=>by
  rw[xr,xr,look2];by_cases e:k=m
  ·rw[xf (by rw[e]),e]
  ·rw[xg λz=>e (zLs z)];exact zPm ((xp.mp h).resolve_left (xv e))
def zIi :zBa false (natD m)=true:=rfl
def yD2{c:Nat}{W:Nat->Prop}{Kn:List Nat}(h:S[c]?=some (knD W Kn))(hm:m∈Kn):ixD S (.ref c) (natD m)=some (.bl (decide (W m))):=by unfold ixD;rw[show look S (.ref c)=_ from h];show(if zBa false (natD m)=true then look2 (Kn.map natD) (Kn.map λm=>D.bl (decide (W m))) (natD m)else none)=_;rw[xf zIi,zPm hm]
noncomputable abbrev btB:SM:=(sIf (tB (eOp zBc (eVar 6) (eVar 5))) (sPut putD (eVar 5) (eVar 6) (zAc zC4 (zA0 (eVar 6) (zA0 (eVar 3) aNil)))) zBs)
noncomputable abbrev btE (S0:Store) (P:List (List Pt)) (I:List Pt) (A:List (Pt × D)) (o6:Option D):Env:=[some (zAe P),some (rowD I),some (zAw (bsOf P)),some (.lst ((P.map (RW.mask (bsOf P))).map natD)),some (dctC A),some (.ref S0.length),o6]
abbrev Wn(P:List (List Pt))(m:Nat):Prop:=∃q∈P.map (RW.mask (bsOf P)),(q &&& m)=q
def zYq{P:List (List Pt)}{Kn:List Nat}{m:Nat}(hP:P.length<=1000)(hk:Kn.length<=2000000):∃Kn',btB (btE S0 P I A (some (natD m))) (S0++[knD (Wn P) Kn])=.nx (btE S0 P I A (some (natD m))) (S0++[knD (Wn P) Kn'])/\(∀k,k∈Kn' <-> k∈Kn\/k=m)/\Kn'.length<=Kn.length+1:=by
 have at_:(S0++[knD (Wn P) Kn])[S0.length]?=some (knD (Wn P) Kn):=by simp
 have t:tB (eOp zBc (eVar 6) (eVar 5)) (btE S0 P I A (some (natD m))) (S0++[knD (Wn P) Kn])=.ok (decide (m ∉ Kn)) (S0++[knD (Wn P) Kn]):=by
  have:zBc (S0++[knD (Wn P) Kn]) (natD m) (.ref S0.length)=some (.bl (decide (m ∉ Kn))):=by unfold zBc inKO;rw[show look (S0++[knD (Wn P) Kn]) (.ref S0.length)=_ from at_];show((if zBa false (natD m)=true then some (decide (natD m∈Kn.map natD))else none).map λb=>D.bl (!b))=_;rw[xf zIi];show some (D.bl _)=_;congr 2;rw[<- decide_not];exact xS.mpr (not_congr mem_nat)
  simp_arith [this]
 by_cases h:m∈Kn
 ·refine⟨Kn,?_,λk=>⟨.inl,λz=>z.elim id λe=>by rw[e];exact h⟩,by nofun⟩;rw[btB,zEb t,xg (by simpa using h)];rfl
 ·refine⟨Kn++[m],?_,λk=>by rw[xJ,xE],by simp⟩;rw[btB,zEb t,xf h];have wi:=zNt (S:=S0++[knD (Wn P) Kn]) (m:=m) (ms:=P.map (RW.mask (bsOf P))) (by rw[xn];exact hP);have pu:putD (S0++[knD (Wn P) Kn]) (.ref S0.length) (natD m) (.bl (decide (Wn P m)))=some (S0++[knD (Wn P) (Kn++[m])]):=by
   unfold putD;simp only[at_];rw[xf ⟨zIi,by rw[xn];exact yc hk (by decide)⟩];unfold put2;rw[xg λz=>h (mem_nat.mp z),yk _ _ (xi _)];simp
  simp_arith [sPut,wi,pu]
def zLr:∀(A:List (Pt × D)),(∀a∈A,∃m:Nat,a.2=natD m)->∃ms:List Nat,(A.map λa=>a.2)=ms.map natD
 | [],_=>⟨[],rfl⟩
 | a::A,h=>by
  obtain⟨m,e⟩:=h a (.head _);obtain⟨ms,e2⟩:=zLr A λb hb=>h b (.tail _ hb)
  exact⟨m::ms,by rw[xr,xr,e,e2]⟩
def zUx:∀{A:List (Pt × D)}{p:Pt}{v:D},lkA A p=some v->v∈A.map λa=>a.2
 | [],_,_,h=>by cases h
 | a::A,p,v,h=>by
  rw[lkA]at h;by_cases e:a.1=p
  ·rw[xf e]at h;cases h;exact .head _
  ·rw[xg e]at h;exact .tail _ (zUx h)
def zR6{P:List (List Pt)}{I:List Pt}(h:P.flatten.length<=1000)(hP:P.length<=1000)(hI:I.length<=1000):∃B,zJn [zAe P,rowD I] S=.ok (rowD B) S/\Rz B/\(∀p,p∈B <-> Cand P I p/\Brk P I p)/\B.length<=1000000:=by
 obtain⟨A,eA,ar⟩:=zRb (S:=S) h hI;obtain⟨ms,em⟩:=zLr A ar.nat;have ml:ms.length<=1000000:=by have:=congrArg List.length em;rw[xn,xn]at this;rw[<- this];exact ar.len
 have w:∀S',zTf (eVar 4) (btE S P I A none) S'=.ok ⟨ms.map natD,[]⟩ S':=λS'=>by
  have:dK1 (dctC A)=some (A.map λa=>cel a.1,A.map λa=>a.2):=rfl;simp only[zTf,btE,eVar,uq,u0,Rs.bind_ok,this,vH,zAk];rw[em]
 obtain⟨env',S',e,Kn,o6,rfl,rfl,mem,kl⟩:=zCb (h:=natD) (g:=gName 6) (ys:=ms) (λZ env S'=>∃(Kn:List Nat) (o6:Option D),env=btE S P I A o6/\S'=S++[knD (Wn P) Kn]/\(∀k∈Z,k∈Kn)/\Kn.length<=Z.length) (λ_ _ _ _=>zAf) (λZ m R eq env S' hh=>by
  obtain⟨Kn,o6,rfl,rfl,mem,kl⟩:=hh;have zl:Z.length<=ms.length:=by rw[eq,xw];lia
  obtain⟨Kn',e1,m1,l1⟩:=zYq (Kn:=Kn) hP (by nofun);refine⟨btE S P I A (some (natD m)),_,_,by simp_arith [xl],e1,Kn',_,rfl,rfl,λk hk=>?_,by rw[xw,vL];lia⟩;rcases xJ.mp hk with z|z
  ·exact(m1 k).mpr (.inl (mem k z))
  ·exact(m1 k).mpr (.inr (xE.mp z))) ms [] (btE S P I A none) (S++[knD (Wn P) []]) rfl ⟨[],none,rfl,rfl,λk hk=>(nomatch hk),xi _⟩
 have at_:(S++[knD (Wn P) Kn])[S.length]?=some (knD (Wn P) Kn):=by simp
 have val:∀p∈A.map Prod.fst,∃m:Nat,lkA A p=some (natD m)/\m∈Kn/\(Wn P m <-> Brk P I p):=λp hp=>by
  obtain⟨v,ev⟩:=zGc hp;obtain⟨m,rfl,hm⟩:=ar.val p v ev;have:natD m∈ms.map natD:=by rw[<- em];exact zUx ev
  exact⟨m,ev,mem m (mem_nat.mp this),zYs hm⟩
 have cp:(zAn 1 [5,4] (zTg (eVar 4)) (gName 0) (tTru (eOp ixD (eVar 1) (eOp ixD (eVar 2) (eVar 0)))) (eVar 0)) (btE S P I A o6) (S++[knD (Wn P) Kn])=.ok (.lst (((A.map Prod.fst).filter λp=>decide (Brk P I p)).map cel)) (S++[knD (Wn P) Kn]):=by
  refine zIq (h:=cel) (λenv=>∃o,env=[o,some (.ref S.length),some (dctC A)]) ?_ zAf ⟨none,rfl⟩ (by rw[xn];exact xm ar.len (by decide)) ?_
  ·have:dK1 (dctC A)=some (A.map λa=>cel a.1,A.map λa=>a.2):=rfl;simp only[zTg,btE,eVar,uq,u0,Rs.bind_ok,this,vH,zAk,xH];rfl
  ·rintro p hp env ⟨o,rfl⟩;obtain⟨m,e1,e2,e3⟩:=val p hp;have i1:=ix_C (S:=S++[knD (Wn P) Kn]) (v:=dctC A) (p:=p) rfl;rw[e1]at i1;have i2:=yD2 at_ e2;refine⟨[some (cel p),some (.ref S.length),some (dctC A)],by simp_arith [xl],⟨_,rfl⟩,?_,λ_=>by simp_arith [xl]⟩;simp_arith [tTru,i1,i2,tru];congr 1;exact xS.mpr e3
 have nd:((A.map Prod.fst).filter λp=>decide (Brk P I p)).Nodup:=ar.nd.filter _;have fl:((A.map Prod.fst).filter λp=>decide (Brk P I p)).length<=1000000:=xm (uG _ _) (by rw[xn];exact ar.len);refine⟨sr ((A.map Prod.fst).filter λp=>decide (Brk P I p)),?_,zHp nd,λp=>?_,by rw[(zCv _).len];exact fl⟩
 ·refine zF5 (T:=[knD (Wn P) Kn]) rfl ?_ (zC3 _);have so:=zDh (S:=S++[knD (Wn P) Kn]) (v:=.lst (((A.map Prod.fst).filter λp=>decide (Brk P I p)).map cel)) rfl fl;refine zAa (e:=[some (zAe P),some (rowD I),some (zAw (bsOf P)),none,none,none,none]) (S1:=S) (by simp_arith [zYv h]) (zAa (e:=[some (zAe P),some (rowD I),some (zAw (bsOf P)),some (.lst ((P.map (RW.mask (bsOf P))).map natD)),none,none,none]) (S1:=S) (by simp_arith [zSy h hP]) (zAa (e:=[some (zAe P),some (rowD I),some (zAw (bsOf P)),some (.lst ((P.map (RW.mask (bsOf P))).map natD)),some (dctC A),none,none]) (S1:=S) (by simp_arith [eA]) (zAa (by simp_arith [eNew,eDct];rfl) (zAa (e:=btE S P I A o6) (S1:=S++[knD (Wn P) Kn]) ?_ ?_))))
  ·rw[sFor,w,Rs.then_ok];exact e
  ·show sRet (eCB zAz (zA0 (eCB zBr (zA0 _ aNil)) aNil)) (btE S P I A o6) _=_;simp only[sRet,eCB,zA0,aNil,cp,Rs.bind_ok,so,zAk,zEy,Rs.then_ok]
 ·rw[(zCv _).mem,vO,ar.key,uE];rfl
def yCa(P:List (List Pt))(I:List Pt):∃B:List Pt,(P.flatten.length<=1000->P.length<=1000->I.length<=1000->Rz B/\(∀p,p∈B <-> Cand P I p/\Brk P I p)/\B.length<=1000000):=by
 by_cases h:P.flatten.length<=1000/\P.length<=1000/\I.length<=1000
 ·obtain⟨B,_,h1⟩:=zR6 (S:=[]) h.1 h.2.1 h.2.2;exact⟨B,λ_ _ _=>h1⟩
 ·exact⟨[],λa b c=>absurd ⟨a,b,c⟩ h⟩
def bt(P:List (List Pt))(I:List Pt):List Pt:=choose (yCa P I)
def zYr{P:List (List Pt)}{I:List Pt}(h:P.flatten.length<=1000)(hP:P.length<=1000)(hI:I.length<=1000):Rz (bt P I)/\(∀p,p∈bt P I <-> Cand P I p/\Brk P I p)/\(bt P I).length<=1000000:=choose_spec (yCa P I) h hP hI
def zYw{P:List (List Pt)}{I:List Pt}(h:P.flatten.length<=1000)(hP:P.length<=1000)(hI:I.length<=1000):zJn [zAe P,rowD I] S=.ok (rowD (bt P I)) S:=by obtain⟨B,e,h1,h2,_⟩:=zR6 h hP hI;obtain⟨g1,g2,_⟩:=zYr h hP hI;rw[zRu g1 h1 λp=>by rw[g2,h2]];exact e
structure HasK (I:List Pt) (A:List (Pt × D)):Prop where
 mem:∀p,p∈A.map Prod.fst <-> p∈I
 val:∀a∈A,a.2=.bl true
noncomputable abbrev zT5:EM:=(eCB allB (zA0 (zAn 2 [1,2,3] (iVal (eVar 4)) (gTup [(gName 0),(gName 1)]) tYes (eOp inK (eTup (zA0 (eOp addD (eVar 3) (eVar 0)) (zA0 (eOp addD (eVar 4) (eVar 1)) aNil))) (eVar 2))) aNil))
def zR5{p:Pt}(hr:∀r∈P,r.length<=1000)(hA:HasK I A):zB3 [zAe P,dctC A,.int p.1,.int p.2] S=.ok (.bl (decide (Brk P I p))) S:=by
 have t:∀r∈P,tTru zT5 [some (zAe P),some (dctC A),some (.int p.1),some (.int p.2),some (rowD r)] S=.ok (decide (∀c∈r,ad p c∈I)) S:=λr hr'=>by
  have c:(zAn 2 [1,2,3] (iVal (eVar 4)) (gTup [(gName 0),(gName 1)]) tYes (eOp inK (eTup (zA0 (eOp addD (eVar 3) (eVar 0)) (zA0 (eOp addD (eVar 4) (eVar 1)) aNil))) (eVar 2))) [some (zAe P),some (dctC A),some (.int p.1),some (.int p.2),some (rowD r)] S=.ok (.lst (r.map λc=>.bl (decide (ad p c∈I)))) S:=by refine zCw (λenv=>∃o1 o2,env=[o1,o2,some (dctC A),some (.int p.1),some (.int p.2)]) (zBo rfl) zAf ⟨none,none,rfl⟩ (xm (hr r hr') (by decide)) ?_;rintro x hx env ⟨o1,o2,rfl⟩;have i:inK S (cel (ad p x)) (dctC A)=some (.bl (decide (ad p x∈I))):=(in_C rfl).trans (by congr 2;exact xS.mpr (hA.mem _));exact⟨[some (.int x.1),some (.int x.2),some (dctC A),some (.int p.1),some (.int p.2)],by simp_arith [xl],⟨_,_,rfl⟩,by simp_arith [i]⟩
  rw[tTru,zT5,eCB,zA0,c,Rs.bind_ok,aNil,Rs.bind_ok,Rs.bind_ok,zRe];rfl
 refine zDz rfl ?_ rfl;have w:iVal (eVar 0) [some (zAe P),some (dctC A),some (.int p.1),some (.int p.2),none] S=.ok ⟨P.map rowD,[]⟩ S:=zBo rfl;have f:=zM7 (h:=rowD) (g:=gName 4) (b:=sIf (tTru zT5) (sRet (eC (.bl true))) zBs) (v:=.bl true) (λenv=>∃o,env=[some (zAe P),some (dctC A),some (.int p.1),some (.int p.2),o]) (λr=>∀c∈r,ad p c∈I) P [some (zAe P),some (dctC A),some (.int p.1),some (.int p.2),none] ⟨none,rfl⟩ (λr hr' env hh=>by
  obtain⟨o,rfl⟩:=hh;refine⟨[some (zAe P),some (dctC A),some (.int p.1),some (.int p.2),some (rowD r)],by simp_arith [xl],?_⟩;rw[zEb (t r hr')];by_cases z:∀c∈r,ad p c∈I
  ·exact .inl ⟨z,by rw[xf z];simp_arith [xl]⟩
  ·exact .inr ⟨z,_,by rw[xg z];rfl,_,rfl⟩)
 show sSeq (sFor (iVal (eVar 0)) (gName 4) (sIf (tTru zT5) (sRet (eC (.bl true))) zBs)) (sRet (eC (.bl false))) [some (zAe P),some (dctC A),some (.int p.1),some (.int p.2),none] S=_;rcases f with⟨hx,e⟩|⟨hx,env',e,o,rfl⟩
 ·rw[xx (show Brk P I p from hx)];refine zLj ?_;rw[sFor,w,Rs.then_ok];exact e
 ·rw[xC (show ¬ Brk P I p from hx)];refine zAa (e:=[some (zAe P),some (dctC A),some (.int p.1),some (.int p.2),o]) (S1:=S) ?_ (by simp_arith [xl]);rw[sFor,w,Rs.then_ok];exact e
def zJd :∀(I:List Pt),pairsOf (I.map λb=>.tup [cel b,v])=some (I.map λb=>(cel b,v))
 | []=>rfl
 | b::I=>by
  rw[xr,pairsOf,xf zDw,zJd I];rfl
def zLn :∀(I:List Pt) (A:List (Pt × D)),putAll (A.map (λa=>cel a.1),A.map λa=>a.2) (I.map λb=>(cel b,v))=((I.foldl (λA b=>putA A b v) A).map (λa=>cel a.1),(I.foldl (λA b=>putA A b v) A).map λa=>a.2)
 | [],A=>rfl
 | b::I,A=>by
  have:=zLn (v:=v) I (putA A b v);unfold putAll at this ⊢;rw[xr,v3,v3,zUm];exact this
noncomputable abbrev keysOf (I:List Pt):List (Pt × D):=I.foldl (λA b=>putA A b (.bl true)) []
def keys_of :∀(I:List Pt) (A:List (Pt × D)),(∀p,p∈(I.foldl (λA b=>putA A b v) A).map Prod.fst <-> p∈A.map Prod.fst\/p∈I)/\((∀a∈A,a.2=v)->∀a∈I.foldl (λA b=>putA A b v) A,a.2=v)
 | [],A=>⟨λp=>by simp,λh=>h⟩
 | b::I,A=>by
  obtain⟨h1,h2⟩:=keys_of (v:=v) I (putA A b v);refine⟨λp=>?_,λh=>h2 λa ha=>?_⟩
  ·rw[v3,h1,zKp,xp,or_assoc]
  ·unfold putA at ha;split at ha
   ·obtain⟨x,hx,rfl⟩:=xt.mp ha;split
    ·rfl
    ·exact h x hx
   ·rcases xJ.mp ha with z|z
    ·exact h a z
    ·rw[xE.mp z]
def zPs(I:List Pt):HasK I (keysOf I):=by obtain⟨h1,h2⟩:=keys_of I [];exact⟨λp=>by rw[h1];simp,h2 λa ha=>(nomatch ha)⟩
def zTs{I:List Pt}(h:I.length<=1000000):zNg S [.lst (I.map λb=>.tup [cel b,.bl true])]=some (dctC (keysOf I)):=by unfold zNg;show(match pairsOf (I.map λb=>D.tup [cel b,.bl true])with|some ps=>if ps.length<=most then some (D.dct true (putAll ([],[]) ps).1 (putAll ([],[]) ps).2)else none|none=>none)=_;rw[zJd];dsimp only;have pa:=zLn (v:=.bl true) I [];rw[x6,x6]at pa;rw[xf (by rw[xn];exact xm h (by decide)),pa]
structure FR (P:List (List Pt)) (I:List Pt) (Q:Pt->Pt->Prop) (n:Nat) (A:List (Pt × D)):Prop where
 nd:(A.map Prod.fst).Nodup
 key:∀p,p∈A.map Prod.fst <-> (∃c b,Q c b/\p=sb b c)/\Brk P I p
 val:∀a∈A,a.2=.bl true
 len:A.length<=n
def FR.imp{Q Q':Pt->Pt->Prop}(h:FR P I Q n A)(e:∀c b,Q c b <-> Q' c b):FR P I Q' n A:=by
 have:Q=Q':=by funext c b;exact propext (e c b)
 rw[<- this];exact h
noncomputable abbrev stB:SM:=(sSeq (sSet 10 (eTup (zA0 (eOp subD (eVar 8) (eVar 6)) (zA0 (eOp subD (eVar 9) (eVar 7)) aNil))))
  (sIf (tAnd (tB (eOp zBc (eVar 10) (eVar 5))) (tTru (zAc zB3 (zA0 (eVar 0) (zA0 (eVar 2) (zA0 (eOp ixD (eVar 10) (eC (.int 0))) (zA0 (eOp ixD (eVar 10) (eC (.int 1))) aNil))))))) (sPut putD (eVar 5) (eVar 10) (eC (.bl true))) zBs))
noncomputable abbrev stE (S0:Store) (P:List (List Pt)) (I:List Pt) (o4 o6 o7 o8 o9 o10:Option D):Env:=[some (zAe P),some (rowD I),some (dctC (keysOf I)),some (.ref S0.length),o4,some (.ref (S0.length+1)),o6,o7,o8,o9,o10]
noncomputable abbrev stS (S0:Store) (cs:List Pt) (A:List (Pt × D)):Store:=S0++[.lst (cs.map cel),dctC A]
def zVv{c b:Pt}{Q:Pt->Pt->Prop}{n:Nat}(hr:∀r∈P,r.length<=1000)(h:FR P I Q n A)(hn:n<=1000000):∃(A':List (Pt × D)) (o10':Option D),stB (stE S0 P I o4 (some (.int c.1)) (some (.int c.2)) (some (.int b.1)) (some (.int b.2)) o10) (stS S0 cs A)=.nx (stE S0 P I o4 (some (.int c.1)) (some (.int c.2)) (some (.int b.1)) (some (.int b.2)) o10') (stS S0 cs A')/\FR P I (λc' b'=>Q c' b'\/(c'=c/\b'=b)) (n+1) A':=by
 have at_:(stS S0 cs A)[S0.length+1]?=some (dctC A):=by unfold stS;rw[vj (by nofun)];simp
 have key0:∀p,(∃c' b',(Q c' b'\/(c'=c/\b'=b))/\p=sb b' c') <-> (∃c' b',Q c' b'/\p=sb b' c')\/p=sb b c:=λp=>by
  constructor
  ·rintro⟨c',b',q|⟨rfl,rfl⟩,e⟩
   ·exact .inl ⟨c',b',q,e⟩
   ·exact .inr e
  ·rintro(⟨c',b',q,e⟩|e)
   ·exact⟨c',b',.inl q,e⟩
   ·exact⟨c,b,.inr ⟨rfl,rfl⟩,e⟩
 have t1:tB (eOp zBc (eVar 10) (eVar 5)) (stE S0 P I o4 (some (.int c.1)) (some (.int c.2)) (some (.int b.1)) (some (.int b.2)) (some (cel (sb b c)))) (stS S0 cs A)=.ok (decide (sb b c ∉ A.map Prod.fst)) (stS S0 cs A):=by have:=zPb (v:=.ref (S0.length+1)) (p:=sb b c) at_;simp_arith [this]
 have t2:tTru (zAc zB3 (zA0 (eVar 0) (zA0 (eVar 2) (zA0 (eOp ixD (eVar 10) (eC (.int 0))) (zA0 (eOp ixD (eVar 10) (eC (.int 1))) aNil))))) (stE S0 P I o4 (some (.int c.1)) (some (.int c.2)) (some (.int b.1)) (some (.int b.2)) (some (cel (sb b c)))) (stS S0 cs A)=.ok (decide (Brk P I (sb b c))) (stS S0 cs A):=by have:=zR5 (S:=stS S0 cs A) (p:=sb b c) hr (zPs I);simp_arith [tTru,this,tru]
 have t:tAnd (tB (eOp zBc (eVar 10) (eVar 5))) (tTru (zAc zB3 (zA0 (eVar 0) (zA0 (eVar 2) (zA0 (eOp ixD (eVar 10) (eC (.int 0))) (zA0 (eOp ixD (eVar 10) (eC (.int 1))) aNil)))))) (stE S0 P I o4 (some (.int c.1)) (some (.int c.2)) (some (.int b.1)) (some (.int b.2)) (some (cel (sb b c)))) (stS S0 cs A)=.ok (decide (sb b c ∉ A.map Prod.fst/\Brk P I (sb b c))) (stS S0 cs A):=by
  rw[tAnd,t1,Rs.bind_ok,t2];by_cases z:sb b c ∉ A.map Prod.fst
  ·rw[xf (xx z)];congr 1;exact xS.mpr ⟨λy=>⟨z,y⟩,λy=>y.2⟩
  ·rw[xg (by rw[xC z];decide)];congr 1;exact(xC λy=>z y.1).symm
 have x1:sSet 10 (eTup (zA0 (eOp subD (eVar 8) (eVar 6)) (zA0 (eOp subD (eVar 9) (eVar 7)) aNil))) (stE S0 P I o4 (some (.int c.1)) (some (.int c.2)) (some (.int b.1)) (some (.int b.2)) o10) (stS S0 cs A)=.nx (stE S0 P I o4 (some (.int c.1)) (some (.int c.2)) (some (.int b.1)) (some (.int b.2)) (some (cel (sb b c)))) (stS S0 cs A):=by simp_arith [xl]
 by_cases z:sb b c ∉ A.map Prod.fst/\Brk P I (sb b c)
 ·refine⟨putA A (sb b c) (.bl true),some (cel (sb b c)),zAa x1 ?_,zUu h.nd,λp=>?_,λa ha=>?_,?_⟩
  ·rw[zEb t,xf z];have pu:=zOm (p:=sb b c) (v:=.bl true) at_ (by have:=h.len;lia);have es:(stS S0 cs A).set (S0.length+1) (dctC (putA A (sb b c) (.bl true)))=stS S0 cs (putA A (sb b c) (.bl true)):=by
    unfold stS;rw[yk _ _ (by nofun),show S0.length+1-S0.length=1 by nofun];rfl
   rw[es]at pu;simp_arith [sPut,pu]
  ·rw[zKp,h.key,key0];constructor
   ·rintro(⟨y1,y2⟩|rfl)
    ·exact⟨.inl y1,y2⟩
    ·exact⟨.inr rfl,z.2⟩
   ·rintro⟨y1|y1,y2⟩
    ·exact .inl ⟨y1,y2⟩
    ·exact .inr y1
  ·unfold putA at ha;rw[xg z.1]at ha;rcases xJ.mp ha with y|y
   ·exact h.val a y
   ·rw[xE.mp y]
  ·have:=zIg (A:=A) (p:=sb b c) (v:=.bl true);have:=h.len;lia
 ·refine⟨A,some (cel (sb b c)),zAa x1 (by rw[zEb t,xg z];rfl),h.nd,λp=>?_,h.val,by have:=h.len;lia⟩;rw[h.key,key0];constructor
  ·rintro⟨y1,y2⟩;exact⟨.inl y1,y2⟩
  ·rintro⟨y1|y1,y2⟩
   ·exact⟨y1,y2⟩
   ·subst y1;by_cases m:sb b c∈A.map Prod.fst
    ·exact(h.key _).mp m
    ·exact absurd ⟨m,y2⟩ z
def yCl{I:List Pt}{c:Pt}{Q:Pt->Pt->Prop}{n:Nat}(hr:∀r∈P,r.length<=1000)(h:FR P I Q n A)(hn:n+I.length<=1000000):∃(A':List (Pt × D)) (o8' o9' o10':Option D),sFor (iVal (eVar 1)) (gTup [(gName 8),(gName 9)]) stB (stE S0 P I o4 (some (.int c.1)) (some (.int c.2)) o8 o9 o10) (stS S0 cs A)=.nx (stE S0 P I o4 (some (.int c.1)) (some (.int c.2)) o8' o9' o10') (stS S0 cs A')/\FR P I (λc' b'=>Q c' b'\/(c'=c/\b'∈I)) (n+I.length) A':=by
 have w:iVal (eVar 1) (stE S0 P I o4 (some (.int c.1)) (some (.int c.2)) o8 o9 o10) (stS S0 cs A)=.ok ⟨I.map cel,[]⟩ (stS S0 cs A):=zBo rfl;obtain⟨env',S',e,A',o8',o9',o10',rfl,rfl,fr⟩:=zCb (h:=cel) (g:=gTup [(gName 8),(gName 9)]) (ys:=I) (λZ env S=>∃(A':List (Pt × D)) (o8' o9' o10':Option D),env=stE S0 P I o4 (some (.int c.1)) (some (.int c.2)) o8' o9' o10'/\S=stS S0 cs A'/\FR P I (λc' b'=>Q c' b'\/(c'=c/\b'∈Z)) (n+Z.length) A') (λ_ _ _ _=>zAf) (λZ b R eq env S hh=>by
  obtain⟨A',o8',o9',o10',rfl,rfl,fr⟩:=hh;have pl:Z.length<I.length:=by rw[eq];simp
  obtain⟨A2,o102,e2,fr2⟩:=zVv hr fr (by nofun);refine⟨stE S0 P I o4 (some (.int c.1)) (some (.int c.2)) (some (.int b.1)) (some (.int b.2)) o10',_,_,by simp_arith [xl],e2,A2,_,_,_,rfl,rfl,?_⟩;rw[xw,vL,<- Nat.add_assoc];refine fr2.imp λc' b'=>?_
  simp only[xJ,xE];constructor
  ·rintro((q|⟨q1,q2⟩)|⟨q1,q2⟩)
   ·exact .inl q
   ·exact .inr ⟨q1,.inl q2⟩
   ·exact .inr ⟨q1,.inr q2⟩
  ·rintro(q|⟨q1,q2|q2⟩)
   ·exact .inl (.inl q)
   ·exact .inl (.inr ⟨q1,q2⟩)
   ·exact .inr ⟨q1,q2⟩) I [] (stE S0 P I o4 (some (.int c.1)) (some (.int c.2)) o8 o9 o10) (stS S0 cs A) rfl ⟨A,o8,o9,o10,rfl,rfl,h.imp λc' b'=>by simp⟩
 refine⟨A',o8',o9',o10',?_,fr⟩;rw[sFor,w,Rs.then_ok];exact e
def zMo :∀(P:List (List Pt)),x∈allC P <-> ∃r∈P,x∈r:=by
 intro P;obtain⟨n,hn⟩:∃n,n=P.length:=⟨_,rfl⟩
 induction n generalizing P with
 | zero=>
  obtain rfl:P=[]:=uA hn.symm;exact⟨λh=>(nomatch h),λhz2=>by obtain⟨r,h,_⟩:=hz2;exact (nomatch h)⟩
 | succ n ih=>
  obtain⟨Q,r,rfl⟩:∃Q r,P=Q++[r]:=⟨P.dropLast,P.getLast (by intro z;rw[z]at hn;cases hn),(uX _).symm⟩
  have ih:=ih Q (by simpa using hn);rw[zGw,xJ,vO];constructor
  ·rintro(hx|⟨hx,_⟩)
   ·obtain⟨q,hq,hx⟩:=ih.mp hx;exact⟨q,vq _ hq,hx⟩
   ·exact⟨r,by simp,hx⟩
  ·rintro⟨q,hq,hx⟩;by_cases z:x∈allC Q
   ·exact .inl z
   ·rcases xJ.mp hq with y|y
    ·exact .inl (ih.mpr ⟨q,y,hx⟩)
    ·rw[xE.mp y]at hx;exact .inr ⟨hx,xx z⟩
def zMu{P:List (List Pt)}{I:List Pt}(h:P.flatten.length<=1000)(hP:P.length<=1000)(hI:I.length<=1000):zBd [zAe P,rowD I] S=.ok (rowD (bt P I)) S:=by
 have hr:∀r∈P,r.length<=1000:=λr hr=>xm (List.Sublist.length_le (List.sublist_flatten_of_mem hr)) h
 have al:(allC P).length<=1000:=xm (zRf P).1 h
 -- the cells
 obtain⟨env1,S1,e1,o4,rfl,rfl⟩:=zCb (h:=rowD) (g:=gName 4) (b:=zFm (eMt "list" zF2 (eVar 3) (zA0 (zAn 1 [3] (iVal (eVar 4)) (gName 0) (tB (eOp zBc (eVar 0) (eVar 1))) (eVar 0)) aNil))) (ys:=P) (λZ env S'=>∃o4,env=[some (zAe P),some (rowD I),some (dctC (keysOf I)),some (.ref S.length),o4,none,none,none,none,none,none]/\S'=S++[.lst ((allC Z).map cel)]) (λ_ _ _ _=>zAf) (λZ r R eq env S' hh=>by
  obtain⟨o4,rfl,rfl⟩:=hh;have zl:(allC Z).length+r.length<=1000:=by have h1:=(zRf Z).1;rw[eq,List.flatten_append,yL,xw,xw]at h;lia
  have at_:(S++[D.lst ((allC Z).map cel)])[S.length]?=some (.lst ((allC Z).map cel)):=by simp
  have c:(zAn 1 [3] (iVal (eVar 4)) (gName 0) (tB (eOp zBc (eVar 0) (eVar 1))) (eVar 0)) [some (zAe P),some (rowD I),some (dctC (keysOf I)),some (.ref S.length),some (rowD r),none,none,none,none,none,none] (S++[.lst ((allC Z).map cel)])=.ok (.lst ((r.filter λc=>decide (c ∉ allC Z)).map cel)) (S++[.lst ((allC Z).map cel)]):=by refine zIq (λenv=>∃o,env=[o,some (.ref S.length)]) (zBo rfl) zAf ⟨none,rfl⟩ (xm (show r.length<=1000 by nofun) (by decide)) ?_;rintro x hx env ⟨o,rfl⟩;exact⟨[some (cel x),some (.ref S.length)],by simp_arith [xl],⟨_,rfl⟩,by simp_arith [zN2 at_],λ_=>by simp_arith [xl]⟩
  have ex:=yD8 (m:=(r.filter λc=>decide (c ∉ allC Z)).map cel) at_ (by
   have:=uG (λc=>decide (c ∉ allC Z)) r;rw[xn,xn];lia)
  have es:(S++[D.lst ((allC Z).map cel)]).set S.length (.lst ((allC Z).map cel++(r.filter λc=>decide (c ∉ allC Z)).map cel))=S++[.lst ((allC (Z++[r])).map cel)]:=by rw[yk _ _ (xi _),zGw,vn];simp
  rw[es]at ex;refine⟨[some (zAe P),some (rowD I),some (dctC (keysOf I)),some (.ref S.length),some (rowD r),none,none,none,none,none,none],_,_,by simp_arith [xl],?_,some (rowD r),rfl,rfl⟩;simp_arith [eMt,ty_D at_,c,ex]) P [] [some (zAe P),some (rowD I),some (dctC (keysOf I)),some (.ref S.length),none,none,none,none,none,none,none] (S++[.lst []]) rfl ⟨none,rfl,rfl⟩
 -- what is found
 have ml:∀k,k<=(allC P).length->k*I.length<=1000000:=λk hk=>by
  have:=Nat.mul_le_mul (xm hk al) hI;lia
 have at1:∀A,(stS S (allC P) A)[S.length]?=some (.lst ((allC P).map cel)):=λA=>by
  unfold stS;rw[vj (by nofun)];simp
 obtain⟨env2,S2,e2,A,o6,o7,o8,o9,o10,rfl,rfl,fr⟩:=zCb (h:=cel) (g:=gTup [(gName 6),(gName 7)]) (ys:=allC P) (λZ env S'=>∃(A:List (Pt × D)) (o6 o7 o8 o9 o10:Option D),env=stE S P I o4 o6 o7 o8 o9 o10/\S'=stS S (allC P) A/\FR P I (λc b=>c∈Z/\b∈I) (Z.length*I.length) A) (λZ env S' hq48=>by obtain⟨A,_,_,_,_,_,_,e,_⟩:=hq48;rw[e];exact zGi (at1 A)) (λZ c R eq env S' hh=>by
  obtain⟨A,o6,o7,o8,o9,o10,rfl,rfl,fr⟩:=hh;have zl:Z.length<(allC P).length:=by rw[eq];simp
  have m1:=ml (Z.length+1) (by nofun);rw[Nat.succ_mul]at m1;obtain⟨A2,o82,o92,o102,e2,fr2⟩:=yCl hr fr m1;refine⟨stE S P I o4 (some (.int c.1)) (some (.int c.2)) o8 o9 o10,_,_,by simp_arith [xl],e2,A2,_,_,_,_,_,rfl,rfl,?_⟩;rw[xw,vL,Nat.succ_mul];refine fr2.imp λc' b'=>?_
  rw[xJ,xE];constructor
  ·rintro(⟨q1,q2⟩|⟨q1,q2⟩)
   ·exact⟨.inl q1,q2⟩
   ·exact⟨.inr q1,q2⟩
  ·rintro⟨q1|q1,q2⟩
   ·exact .inl ⟨q1,q2⟩
   ·exact .inr ⟨q1,q2⟩) (allC P) [] (stE S P I o4 none none none none none) (stS S (allC P) []) rfl ⟨[],none,none,none,none,none,rfl,rfl,v8,λp=>⟨λz=>(nomatch z),fun⟨⟨c,b,⟨z,_⟩,_⟩,_⟩=>(nomatch z)⟩,λa z=>(nomatch z),xV _⟩
 have fl:(A.map Prod.fst).length<=1000000:=by have h1:=ml (allC P).length (xi _);have h2:=fr.len;rw[xn];lia
 have at2:(stS S (allC P) A)[S.length+1]?=some (dctC A):=by unfold stS;rw[vj (by nofun),show S.length+1-S.length=1 by nofun];rfl
 have li:=zUz (v:=.ref (S.length+1)) at2;have so:=zDh (S:=stS S (allC P) A) (v:=.lst ((A.map Prod.fst).map cel)) rfl fl;obtain⟨g1,g2,_⟩:=zYr h hP hI;have eq:bt P I=sr (A.map Prod.fst):=zRu g1 (zHp fr.nd) λp=>by
  rw[g2,(zCv _).mem,fr.key];refine and_congr_left λ_=>⟨λhz3=>by obtain⟨c,b,⟨q1,q2⟩,e⟩:=hz3;exact ⟨c,b,⟨(zMo P).mpr (bs_mem.mp q1),q2⟩,e⟩,λhz4=>by obtain⟨c,b,⟨q1,q2⟩,e⟩:=hz4;exact ⟨c,b,⟨bs_mem.mpr ((zMo P).mp q1),q2⟩,e⟩⟩
 rw[eq];refine zF5 (T:=[.lst ((allC P).map cel),dctC A]) rfl ?_ (zC3 _);have cd:(zAn 1 [] (iVal (eVar 1)) (gName 0) tYes (eTup (zA0 (eVar 0) (zA0 (eC (.bl true)) aNil)))) [some (zAe P),some (rowD I),none,none,none,none,none,none,none,none,none] S=.ok (.lst (I.map λb=>.tup [cel b,.bl true])) S:=by refine zCw (λenv=>∃o,env=[o]) (zBo rfl) zAf ⟨none,rfl⟩ (xm hI (by decide)) ?_;rintro x hx env ⟨o,rfl⟩;exact⟨[some (cel x)],by simp_arith [xl],⟨_,rfl⟩,by simp_arith [xl]⟩
 refine zAa (e:=[some (zAe P),some (rowD I),some (dctC (keysOf I)),none,none,none,none,none,none,none,none]) (S1:=S) ?_ (zAa (e:=[some (zAe P),some (rowD I),some (dctC (keysOf I)),some (.ref S.length),none,none,none,none,none,none,none]) (S1:=S++[.lst []]) (by simp_arith [eNew]) (zAa (e:=[some (zAe P),some (rowD I),some (dctC (keysOf I)),some (.ref S.length),o4,none,none,none,none,none,none]) (S1:=S++[.lst ((allC P).map cel)]) ?_ (zAa (e:=stE S P I o4 none none none none none) (S1:=stS S (allC P) []) ?_ (zAa (e:=stE S P I o4 o6 o7 o8 o9 o10) (S1:=stS S (allC P) A) ?_ ?_))))
 ·show sSet 2 (eCB zNg (zA0 _ aNil)) [some (zAe P),some (rowD I),none,none,none,none,none,none,none,none,none] S=_;rw[sSet,eCB,zA0,cd,Rs.bind_ok,aNil,Rs.bind_ok,Rs.bind_ok,zTs (by nofun)];rfl
 ·have w:iVal (eVar 0) [some (zAe P),some (rowD I),some (dctC (keysOf I)),some (.ref S.length),none,none,none,none,none,none,none] (S++[.lst []])=.ok ⟨P.map rowD,[]⟩ (S++[.lst []]):=zBo rfl;rw[sFor,w,Rs.then_ok];exact e1
 ·have l1:(S++[D.lst ((allC P).map cel)]).length=S.length+1:=by simp
  simp_arith [eNew,eDct,l1];unfold stE stS;simp
 ·have w:iVal (eVar 3) (stE S P I o4 none none none none none) (stS S (allC P) [])=.ok ⟨(allC P).map cel,[(S.length,.lst ((allC P).map cel))]⟩ (stS S (allC P) []):=by
   simp_arith [iVal,zEe (at1 [])]
  rw[sFor,w,Rs.then_ok];exact e2
 ·show sRet (eCB zAz (zA0 (eCB zBr (zA0 (eCB zIf (zA0 (eVar 5) aNil)) aNil)) aNil)) (stE S P I o4 o6 o7 o8 o9 o10) _=_;simp_arith [li,so,zEy]
def zQ2 :isiB S [.tup l,.ty "tuple"]=some (.bl true):=by show(if "tuple"∈kinds/\"tuple"∈kinds then some (D.bl (zQ3 "tuple" "tuple"))else none)=_;rw[xf ⟨by decide,by decide⟩];rfl
def zRk{i:Int}:zB6 [.int i] S=.ok (.bl true) S:=by
 have a:isiB S [.int i,.ty "int"]=some (.bl true):=by show(if "int"∈kinds/\"int"∈kinds then some (D.bl (zQ3 "int" "int"))else none)=_;rw[xf ⟨by decide,by decide⟩];rfl
 have b:isiB S [.int i,.ty "bool"]=some (.bl false):=by show(if "int"∈kinds/\"bool"∈kinds then some (D.bl (zQ3 "int" "bool"))else none)=_;rw[xf ⟨by decide,by decide⟩];rfl
 refine zDz rfl ?_ rfl;unfold zDm;simp_arith [a,b]
def zHx{P:List (List Pt)}{I:List Pt}(h:P.flatten.length<=1000)(hP:P.length<=1000)(hI:I.length<=1000):zAs [zAe P,rowD I] S=.ok (.bl true) S:=by
 obtain⟨_,_,bl⟩:=zYr h hP hI;refine zDz rfl ?_ rfl;have c:(zAn 1 [] (iVal (eVar 2)) (gName 0) tYes (eAnd (eCB isiB (zA0 (eVar 0) (zA0 (eC (.ty "tuple")) aNil))) (eAnd (zAc zB6 (zA0 (eOp ixD (eVar 0) (eC (.int 0))) aNil)) (zAc zB6 (zA0 (eOp ixD (eVar 0) (eC (.int 1))) aNil))))) [some (zAe P),some (rowD I),some (rowD (bt P I))] S=.ok (.lst ((bt P I).map λ_=>.bl (decide True))) S:=by refine zCw (λenv=>∃o,env=[o]) (zBo rfl) zAf ⟨none,rfl⟩ (xm bl (by decide)) ?_;rintro x hx env ⟨o,rfl⟩;refine⟨[some (cel x)],by simp_arith [xl],⟨_,rfl⟩,?_⟩;simp_arith [zQ2,zRk];rfl
 have ne:neK S (rowD (bt P I)) (rowD (bt P I))=some (.bl false):=by rw[zUt];simp
 have t:tOr (tNot (tTru (eCB isiB (zA0 (eVar 2) (zA0 (eC (.ty "tuple")) aNil))))) (tB (eOp neK (eVar 2) (zAc zBd (zA0 (eVar 0) (zA0 (eVar 1) aNil))))) [some (zAe P),some (rowD I),some (rowD (bt P I))] S=.ok false S:=by simp_arith [tTru,zQ2,tru,zMu h hP hI,ne]
 refine zAa (by simp_arith [zYw h hP hI]) (zAa (yBq t rfl) ?_);show sRet (eCB allB (zA0 _ aNil)) [some (zAe P),some (rowD I),some (rowD (bt P I))] S=_;rw[sRet,eCB,zA0,c,Rs.bind_ok,aNil,Rs.bind_ok,Rs.bind_ok,zRe];simp
def drawn{m:Nat}{many:Int}(hm:0<many)(h9:many<=4000000000000000000)(h:Deal S n m):∃(r:Int) (S':Store),zA3 [.ref n,.int many] S=.ok (.int r) S'/\0<=r/\r<many/\Deal S' n m/\Only n m S S':=zYb hm (zJ7 (by nofun) (by nofun)) h
def zD3{m:Nat}{many:Nat}(hm:0<many)(h9:many<=1000000000)(h:Deal S n m):∃(r:Nat) (S':Store),zA3 [.ref n,.int (many:Int)] S=.ok (natD r) S'/\r<many/\Deal S' n m/\Only n m S S':=by obtain⟨r,S',e,r0,r1,d,o⟩:=drawn (many:=(many:Int)) (by nofun) (by nofun) h;exact⟨r.toNat,S',by rw[e];show Rs.ok (D.int r) S'=Rs.ok (D.int (r.toNat:Int)) S';rw[Int.toNat_of_nonneg r0],by nofun,d,o⟩
def zTd{c:Nat}{l:List Int}{v:Int}(h:S[c]?=some (.lst (l.map D.int))):inK S (.int v) (.ref c)=some (.bl (decide (v∈l))):=by
 unfold inK inKO;rw[show look S (.ref c)=_ from h];dsimp only;rw[xf ⟨0,by decide,λd hd=>by
  rcases xp.mp hd with rfl|hd
  ·exact⟨v,rfl⟩
  ·obtain⟨i,_,rfl⟩:=xt.mp hd;exact⟨i,rfl⟩⟩]
 show some (D.bl _)=_;congr 2;exact xS.mpr ⟨λh=>by obtain⟨q,hq,e⟩:=xt.mp h;rw[<- D.int.inj e];exact hq,λh=>xt.mpr ⟨v,h,rfl⟩⟩
abbrev cCl:TM:=(tB (eOp inK (eVar 6) (eVar 4)))
noncomputable abbrev wCl:SM:=(sSet 6 (eOp modD (eOp addD (eVar 6) (eC (.int 1))) (eOp mulD (eVar 3) (eVar 3))))
def zLa{T:Nat}{s:Int}{taken:List Int}{a0 a1 a2 a5:Option D}(hs:3<=s/\s<=2001)(hT:S[T]?=some (.lst (taken.map D.int))):∀(j:Nat) (v:Int),0<=v->v<s*s->(v+j) % (s*s) ∉ taken->(∀i:Nat,i<j->(v+i) % (s*s)∈taken)->
  zBb cCl wCl (j+1) [a0,a1,a2,some (.int s),some (.ref T),a5,some (.int v)] S=.nx [a0,a1,a2,some (.int s),some (.ref T),a5,some (.int ((v+j) % (s*s)))] S
 | j,v,h0,h1,hn,hi=>by
  have c:cCl [a0,a1,a2,some (.int s),some (.ref T),a5,some (.int v)] S=.ok (decide (v∈taken)) S:=by simp only[cCl,tB,eOp,eVar,uq,u0,Rs.bind_ok,zTd hT,zAk,asB]
  have sp:0<s*s:=Int.mul_pos (by nofun) (by nofun);have bs:BB 20 s:=BB.of (by nofun) (by nofun);rw[zBb,c,Rs.then_ok]
  match j,hn,hi with
  | 0,hn,_=>
   have e:(v+((0:Nat):Int)) % (s*s)=v:=by rw[Int.natCast_zero,Int.add_zero,Int.emod_eq_of_lt h0 h1]
   rw[e]at hn ⊢;rw[xg (by simpa using hn)]
  | j+1,hn,hi=>
   have m0:v∈taken:=by
    have:=hi 0 (by nofun)
    rwa[Int.natCast_zero,Int.add_zero,Int.emod_eq_of_lt h0 h1]at this
   have w:wCl [a0,a1,a2,some (.int s),some (.ref T),a5,some (.int v)] S=.nx [a0,a1,a2,some (.int s),some (.ref T),a5,some (.int ((v+1) % (s*s)))] S:=by unfold wCl;simp_arith [zPe bs bs,zC8 sp]
   have sh:∀i:Nat,((v+1) % (s*s)+i) % (s*s)=(v+((i+1:Nat):Int)) % (s*s):=λi=>by
    rw[Int.emod_add_emod];congr 1;lia
   rw[xf (xx m0),w];dsimp only;rw[zLa hs hT j _ (vY _ (by nofun)) (vX _ sp) (by rw[sh];exact hn) (λi hi'=>by rw[sh];exact hi (i+1) (by nofun)),sh]
noncomputable abbrev bCl:SM:=(sSeq (sSet 6 (zAc zA3 (zA0 (eVar 0) (zA0 (eOp mulD (eVar 3) (eVar 3)) aNil))))
  (sSeq (zE1 cCl wCl)
  (zFm (eMt "list" zCa (eVar 4) (zA0 (eVar 6) aNil)))))
structure Tk (s:Int) (taken:List Int):Prop where
 nd:taken.Nodup
 rg:∀x∈taken,0<=x/\x<s*s
def zVu{s:Int}{a5:Option D}{taken:List Int}(hs:3<=s/\s<=2001)(h0:Deal S0 n m)(hl:taken.length<9)(h:MkD n m S0 c (taken.map D.int) S)(tk:Tk s taken):∃(v:Int) (S':Store),bCl [some (.ref n),a1,a2,some (.int s),some (.ref c),some d,a6] S=.nx [some (.ref n),a1,a2,some (.int s),some (.ref c),some d,some (.int v)] S'/\MkD n m S0 c ((taken++[v]).map D.int) S'/\Tk s (taken++[v]):=by
 have sp:9<=s*s:=by have:=Int.mul_le_mul hs.1 hs.1 (by nofun) (by nofun);lia
 have sp9:s*s<=2001*2001:=Int.mul_le_mul hs.2 hs.2 (by nofun) (by nofun);have bs:BB 20 s:=BB.of (by nofun) (by nofun);obtain⟨r,S1,e1,r0,r1,d1,o1⟩:=drawn (many:=s*s) (by nofun) (by nofun) h.deal;have h1:=h.draw h0 d1 o1;obtain⟨j,hj,hi'⟩:=zTk (N:=s*s) (v:=r) (taken:=taken) (by nofun) r0;have w:=zLa (S:=S1) (a0:=some (.ref n)) (a1:=a1) (a2:=a2) (a5:=some d) hs h1.at_ j r r0 r1 hj hi';have w':zE1 cCl wCl [some (.ref n),a1,a2,some (.int s),some (.ref c),some d,some (.int r)] S1=_:=(zJa (n:=j+1) (by rw[w];exact λz=>nomatch z)).trans w;generalize hv:(r+j) % (s*s)=v at hj w';have v0:0<=v/\v<s*s:=by rw[<- hv];exact⟨vY _ (by nofun),vX _ (by nofun)⟩
 have ap:=zU5 (d:=.int v) h1.at_ (by rw[xn];lia);have h2:=h1.add h0 (.int v);rw[show taken.map D.int++[.int v]=(taken++[v]).map D.int by rw[vn];rfl]at ap h2;refine⟨v,_,?_,h2,?_,?_⟩
 ·refine zAa (e:=[some (.ref n),a1,a2,some (.int s),some (.ref c),some d,some (.int r)]) (S1:=S1) (by simp_arith [zPe bs bs,e1]) (zAa w' ?_);simp_arith [eMt,ty_D h1.at_,ap]
 ·refine yh.mpr ⟨tk.nd,by simp,λa ha b hb z=>?_⟩;rw[xE.mp hb]at z;exact hj (by rw[<- z];exact ha)
 ·intro x hx;rcases xJ.mp hx with hx|hx
  ·exact tk.rg x hx
  ·rw[xE.mp hx];exact v0
def Wd(w:Int)(p:Pt):Prop:=-w<=p.1/\p.1<=w/\-w<=p.2/\p.2<=w
abbrev clF(s w:Int)(x:Int):Pt:=(x % s-w,x.fdiv s-w)
def zYn{s w x y:Int}(hs:0<s)(hx:0<=x)(hy:0<=y)(h:clF s w x=clF s w y):x=y:=by
 have h1:x % s-w=y % s-w:=congrArg Prod.fst h;have h2:x.fdiv s-w=y.fdiv s-w:=congrArg Prod.snd h;rw[yM x (by nofun),yM y (by nofun)]at h2;have e1:x % s=y % s:=by nofun
 have e2:x / s=y / s:=by nofun
 rw[<- Int.emod_add_mul_ediv x s,<- Int.emod_add_mul_ediv y s,e1,e2]
def zMi{m:Nat}{many:Nat}{w:Int}(h:Deal S n m)(h2:many<=8)(hw:1<=w/\w<=1000):∃(cs:List Pt) (S':Store),zB0 [.ref n,natD many,.int w] S=.ok (.lst (cs.map cel)) S'/\cs.length=many/\cs.Nodup/\(∀p∈cs,Wd w p)/\Deal S' n m/\Only n m S S':=by
 have b2:BB 2 2:=BB.lit rfl;have bw:BB 20 w:=BB.of (by nofun) (by nofun);have hs:3<=2*w+1/\2*w+1<=2001:=by nofun
 generalize hsd:2*w+1=s at hs;have sp:0<s:=by nofun
 have mk0:MkD n m S S.length (([]:List Int).map D.int) (S++[.lst []]):=.new h h .refl [];obtain⟨env',S2,e2,taken,a5,a6,rfl,mk,tk,tl⟩:=zCb (h:=λi:Nat=>natD i) (gd:=[]) (g:=gName 5) (b:=bCl) (ys:=List.range many) (λZ env S'=>∃(taken:List Int) (a5 a6:Option D),env=[some (.ref n),some (natD many),some (.int w),some (.int s),some (.ref S.length),a5,a6]/\MkD n m S S.length (taken.map D.int) S'/\Tk s taken/\taken.length=Z.length) (λ_ _ _ _=>zAf) (λZ i R eq env S' hh=>by
  obtain⟨taken,a5,a6,rfl,mk,tk,tl⟩:=hh;have zl:Z.length<many:=by have:=congrArg List.length eq;rw[vc,xw,xB]at this;lia
  obtain⟨v,S3,e3,mk3,tk3⟩:=zVu (a1:=some (natD many)) (a2:=some (.int w)) (a5:=a5) (a6:=a6) (d:=natD i) hs h (by nofun) mk tk;exact⟨[some (.ref n),some (natD many),some (.int w),some (.int s),some (.ref S.length),some (natD i),a6],_,_,by simp_arith [xl],e3,taken++[v],_,_,rfl,mk3,tk3,by rw[xw,xw,tl];rfl⟩) (List.range many) [] [some (.ref n),some (natD many),some (.int w),some (.int s),some (.ref S.length),none,none] (S++[.lst []]) rfl ⟨[],none,none,rfl,mk0,⟨v8,λx hx=>(nomatch hx)⟩,rfl⟩
 rw[vc]at tl;have cm:(zAn 1 [2,3] (iVal (eVar 4)) (gName 0) tYes (eTup (zA0 (eOp subD (eOp modD (eVar 0) (eVar 2)) (eVar 1)) (zA0 (eOp subD (eOp zH2 (eVar 0) (eVar 2)) (eVar 1)) aNil)))) [some (.ref n),some (natD many),some (.int w),some (.int s),some (.ref S.length),a5,a6] S2=.ok (.lst (taken.map λx=>cel (clF s w x))) S2:=by refine zCw (xs:=taken) (h:=D.int) (gd:=[(S.length,.lst (taken.map D.int))]) (λenv=>∃o,env=[o,some (.int w),some (.int s)]) (by simp_arith [iVal,zEe mk.at_]) (zGi mk.at_) ⟨none,rfl⟩ (xm (show taken.length<=8 by nofun) (by decide)) ?_;rintro x hx env ⟨o,rfl⟩;exact⟨[some (.int x),some (.int w),some (.int s)],by simp_arith [xl],⟨_,rfl⟩,by simp_arith [zC8 sp,zKy sp (zJ7 (x:=s) (by nofun) (by nofun))]⟩
 obtain⟨S3,e3,d3,o3⟩:=zF6 (np:=3) (nl:=7) (b:=zDp) (ds:=[.ref n,natD many,.int w]) (d:=.lst ((taken.map (clF s w)).map cel)) (S':=S2) rfl (by
  have x1:sSet 3 (eOp addD (eOp mulD (eC (.int 2)) (eVar 2)) (eC (.int 1))) [some (.ref n),some (natD many),some (.int w),none,none,none,none] S=.nx [some (.ref n),some (natD many),some (.int w),some (.int s),none,none,none] S:=by simp_arith [zPe b2 bw,hsd]
  refine zAa x1 (zAa (e:=[some (.ref n),some (natD many),some (.int w),some (.int s),some (.ref S.length),none,none]) (S1:=S++[.lst []]) (by simp_arith [eNew]) (zAa (e:=[some (.ref n),some (natD many),some (.int w),some (.int s),some (.ref S.length),a5,a6]) (S1:=S2) ?_ ?_))
  ·rw[sFor,zD2 (n:=many) (S':=S++[.lst []]) rfl (by nofun),Rs.then_ok];exact e2
  ·rw[sRet,cm,Rs.then_ok,xH];rfl) h mk.deal mk.grow (zC3 _)
 refine⟨taken.map (clF s w),S3,e3,by rw[xn,tl],?_,λp hp=>?_,d3,o3⟩
 ·refine yj.mpr (List.Pairwise.imp_of_mem (λ{a b} ha hb hn z=>hn (zYn sp (tk.rg a ha).1 (tk.rg b hb).1 z)) tk.nd)
 ·obtain⟨x,hx,rfl⟩:=xt.mp hp;obtain⟨x0,x1⟩:=tk.rg x hx;have q1:=vY x (show s≠0 by nofun);have q2:=vX x sp;have q3:x.fdiv s=x / s:=yM x (by nofun);have q4:0<=x / s:=Int.ediv_nonneg x0 (by nofun);have q5:x / s<s:=Int.ediv_lt_of_lt_mul sp x1;unfold Wd clF;dsimp only;rw[q3];lia
noncomputable abbrev lAll:EM:=(eCB allB (zA0 (zAn 1 [1] (iVal (eVar 0)) (gName 0) tYes (eOp inK (eVar 0) (eVar 1))) aNil))
noncomputable abbrev lAny:EM:=(eCB anyB (zA0 (zAn 1 [3] (iVal (eVar 1)) (gName 0) tYes (eAnd (eOp neK (eVar 0) (eVar 1)) lAll)) aNil))
def zXm{q:List Pt}(hl:q.length<=1000):lAll [some (rowD q),some (rowD r)] S=.ok (.bl (decide (Sub q r))) S:=by
 have c:(zAn 1 [1] (iVal (eVar 0)) (gName 0) tYes (eOp inK (eVar 0) (eVar 1))) [some (rowD q),some (rowD r)] S=.ok (.lst (q.map λc=>.bl (decide (c∈r)))) S:=by refine zCw (λenv=>∃o,env=[o,some (rowD r)]) (zBo rfl) zAf ⟨none,rfl⟩ (xm hl (by decide)) ?_;rintro x hx env ⟨o,rfl⟩;exact⟨[some (cel x),some (rowD r)],by simp_arith [xl],⟨_,rfl⟩,by simp_arith [yBp]⟩
 rw[lAll,eCB,zA0,c,Rs.bind_ok,aNil,Rs.bind_ok,Rs.bind_ok,zRe];show Rs.ok _ _=_;congr 2;exact xS.mpr Iff.rfl
def zXl{us:List (List Pt)}(hu:us.length<=1000)(hl:∀q∈us,q.length<=1000)(hr:r∈us):tNot (tTru lAny) [some v,some (.lst (us.map rowD)),o2,some (rowD r)] S=.ok (decide (Mn us r)) S:=by
 have c:(zAn 1 [3] (iVal (eVar 1)) (gName 0) tYes (eAnd (eOp neK (eVar 0) (eVar 1)) lAll)) [some v,some (.lst (us.map rowD)),o2,some (rowD r)] S=.ok (.lst (us.map λq=>.bl (decide (q≠r/\Sub q r)))) S:=by
  refine zCw (h:=rowD) (λenv=>∃o,env=[o,some (rowD r)]) ?_ zAf ⟨none,rfl⟩ (xm hu (by decide)) ?_
  ·simp_arith [iVal,zHm]
  rintro q hq env ⟨o,rfl⟩;refine⟨[some (rowD q),some (rowD r)],by simp_arith [xl],⟨_,rfl⟩,?_⟩;have t1:eOp neK (eVar 0) (eVar 1) [some (rowD q),some (rowD r)] S=.ok (.bl (decide (q≠r))) S:=by simp_arith [zUt]
  rw[eAnd,t1,Rs.bind_ok];show((if decide (q≠r)=true then _ else _):Rs D)=_;by_cases d:q≠r
  ·rw[xf (xx d),zXm (hl q hq)];congr 2;exact xS.mpr ⟨λz=>⟨d,z⟩,λz=>z.2⟩
  ·rw[xg (by simpa using d)];congr 2;exact(xC λz=>d z.1).symm
 have t:tTru lAny [some v,some (.lst (us.map rowD)),o2,some (rowD r)] S=.ok (decide (∃q∈us,q≠r/\Sub q r)) S:=by rw[tTru,lAny,eCB,zA0,c,Rs.bind_ok,aNil,Rs.bind_ok,Rs.bind_ok,zVj];rfl
 rw[zVr t];congr 1;refine xS.mpr ⟨λh=>⟨hr,λq hq s=>vW λn=>h ⟨q,hq,n,s⟩⟩,λh z=>?_⟩;obtain⟨q,hq,n,s⟩:=z;exact n (h.2 q hq s)
noncomputable abbrev llB:SM:=(sIf (tNot (tTru lAny)) (zFm (eMt "list" zCa (eVar 2) (zA0 (eVar 3) aNil))) zBs)
def zQe{P:List (List Pt)}:(P++[r]).filter (λr=>decide (Mn us r))=(P.filter λr=>decide (Mn us r))++if Mn us r then [r]else []:=by
 rw[List.filter_append];congr 1;by_cases c:Mn us r
 ·rw[xf c,uF,xf (xx c)];rfl
 ·rw[xg c,uF,xg (by rw[xC c];decide)];rfl
def zPp{rows:List (List Pt)}{gd:List (Nat × D)}{hD:List Pt->D}(hS:∀S r,r.length<=63->zBr S [hD r]=some (.lst ((sr r).map cel)))(hw:zDe S0 v=some ⟨rows.map hD,gd⟩)(hg:gOk S0 gd)(hl:rows.length<=63)(hr:∀r∈rows,r.length<=63):
  ∃us:List (List Pt),us.Nodup/\(∀r,r∈us <-> r∈rows.map sr)/\zB8 [v] S0=.ok (zAe (us.filter λr=>decide (Mn us r))) S0:=by
 obtain⟨us,e1,nd,mem⟩:=zW6 (rows.map sr);refine⟨us,nd,mem,?_⟩;have ul:us.length<=63:=xm (zSv nd λr h=>(mem r).mp h) (by rw[xn];exact hl);have rl:∀q∈us,q.length<=1000:=λq hq=>by
  obtain⟨r,h1,rfl⟩:=xt.mp ((mem q).mp hq);rw[(zCv r).len];have:=hr r h1;lia
 have cm:(zAn 1 [] (iVal (eVar 0)) (gName 0) tYes (eCB zAz (zA0 (eCB zBr (zA0 (eVar 0) aNil)) aNil))) [some v,none,none,none] S0=.ok (.lst (rows.map λr=>rowD (sr r))) S0:=by
  refine zCw (h:=hD) (λenv=>∃o,env=[o]) ?_ hg ⟨none,rfl⟩ (xm hl (by decide)) ?_
  ·simp_arith [iVal,hw]
  ·rintro r h env ⟨o,rfl⟩;have tp:zAz S0 [.lst ((sr r).map cel)]=some (rowD (sr r)):=rfl;exact⟨[some (hD r)],by simp_arith [xl],⟨_,rfl⟩,by simp_arith [hS S0 r (hr r h),tp]⟩
 have ss:ssK S0 (.lst (rows.map λr=>rowD (sr r)))=some (.lst (us.map rowD)):=by
  have e0:(rows.map λr=>rowD (sr r))=(rows.map sr).map rowD:=by rw[xH];rfl
  show(if setable (rows.map λr=>rowD (sr r))then some (D.lst (srt (dedup (rows.map λr=>rowD (sr r)))))else none)=_;rw[xf ⟨by rw[xn];exact xm hl (by decide),1,by decide,λx hx=>by obtain⟨r,_,rfl⟩:=xt.mp hx;exact zUv _⟩,e0,e1]
 obtain⟨env',S',e,o3,rfl,rfl⟩:=zCb (h:=rowD) (g:=gName 3) (b:=llB) (ys:=us) (λP env S=>∃o3,env=[some v,some (.lst (us.map rowD)),some (.ref S0.length),o3]/\S=S0++[.lst ((P.filter λr=>decide (Mn us r)).map rowD)]) (λ_ _ _ _=>zAf) (λP r R eq env S hh=>by
  obtain⟨o3,rfl,rfl⟩:=hh;have hr':r∈us:=by rw[eq];simp
  have pl:(P.filter λr=>decide (Mn us r)).length<=63:=xm (uG _ _) (xm (by rw[eq,xw];lia) ul);have at_:(S0++[D.lst ((P.filter λr=>decide (Mn us r)).map rowD)])[S0.length]?=some (.lst ((P.filter λr=>decide (Mn us r)).map rowD)):=by simp
  have t:=zXl (S:=S0++[.lst ((P.filter λr=>decide (Mn us r)).map rowD)]) (v:=v) (o2:=some (.ref S0.length)) (by nofun) rl hr';refine⟨[some v,some (.lst (us.map rowD)),some (.ref S0.length),some (rowD r)],[some v,some (.lst (us.map rowD)),some (.ref S0.length),some (rowD r)],S0++[.lst (((P++[r]).filter λr=>decide (Mn us r)).map rowD)],by simp_arith [xl],?_,_,rfl,rfl⟩;rw[llB,zEb t,zQe];by_cases c:Mn us r
  ·rw[xf c,xf c];have ap:=zU5 (d:=rowD r) at_ (by rw[xn];lia);have es:(S0++[D.lst ((P.filter λr=>decide (Mn us r)).map rowD)]).set S0.length (.lst ((P.filter λr=>decide (Mn us r)).map rowD++[rowD r]))=S0++[.lst (((P.filter λr=>decide (Mn us r))++[r]).map rowD)]:=by
    rw[yk _ _ (xi _),vn];simp
   rw[es]at ap;simp_arith [eMt,ty_D at_,ap]
  ·rw[xg c,xg c,vT];rfl) us [] [some v,some (.lst (us.map rowD)),some (.ref S0.length),none] (S0++[.lst []]) rfl ⟨none,rfl,rfl⟩
 have at_:(S0++[D.lst ((us.filter λr=>decide (Mn us r)).map rowD)])[S0.length]?=some (.lst ((us.filter λr=>decide (Mn us r)).map rowD)):=by simp
 refine zF5 (T:=[.lst ((us.filter λr=>decide (Mn us r)).map rowD)]) rfl ?_ (zFs _);have x1:sSet 1 (eUn ssK (zAn 1 [] (iVal (eVar 0)) (gName 0) tYes (eCB zAz (zA0 (eCB zBr (zA0 (eVar 0) aNil)) aNil)))) [some v,none,none,none] S0=.nx [some v,some (.lst (us.map rowD)),none,none] S0:=by rw[sSet,eUn,cm,Rs.bind_ok,ss];rfl
 have x3:sFor (iVal (eVar 1)) (gName 3) llB [some v,some (.lst (us.map rowD)),some (.ref S0.length),none] (S0++[.lst []])=.nx [some v,some (.lst (us.map rowD)),some (.ref S0.length),o3] (S0++[.lst ((us.filter λr=>decide (Mn us r)).map rowD)]):=by
  have w:iVal (eVar 1) [some v,some (.lst (us.map rowD)),some (.ref S0.length),none] (S0++[.lst []])=.ok ⟨us.map rowD,[]⟩ (S0++[.lst []]):=by simp_arith [iVal,zHm]
  rw[sFor,w,Rs.then_ok];exact e
 have tp:zAz (S0++[.lst ((us.filter λr=>decide (Mn us r)).map rowD)]) [.ref S0.length]=some (.tup ((us.filter λr=>decide (Mn us r)).map rowD)):=by simp only[zAz,litems,show look (S0++[D.lst ((us.filter λr=>decide (Mn us r)).map rowD)]) (.ref S0.length)=_ from at_,vH]
 exact zAa x1 (zAa (by simp_arith [eNew]) (zAa x3 (by simp_arith [tp])))
abbrev lstD(r:List Pt):D:=.lst (r.map cel)
def zHq{r:List Pt}(hl:r.length<=63):zBr S [lstD r]=some (.lst ((sr r).map cel)):=zDh rfl (by nofun)
structure Pln (n:Nat) (w:Int) (P:List (List Pt)):Prop where
 ne:P≠[]
 len:P.length<=2 ^ n+12
 row:∀r∈P,r≠[]/\r.length<=n/\Rz r/\∀c∈r,Wd w c
 anti:∀q∈P,∀r∈P,Sub q r->q=r
def zLv{rows:List (List Pt)}{gd:List (Nat × D)}{hD:List Pt->D}{n:Nat}{w:Int}(hS:∀S r,r.length<=63->zBr S [hD r]=some (.lst ((sr r).map cel)))(hw:zDe S0 v=some ⟨rows.map hD,gd⟩)(hg:gOk S0 gd)(hl:rows.length<=12)(n0:rows≠[])(n8:n<=8)(hr:∀r∈rows,r≠[]/\r.length<=n/\r.Nodup/\∀c∈r,Wd w c):
  ∃P:List (List Pt),zB8 [v] S0=.ok (zAe P) S0/\Pln n w P:=by
 obtain⟨us,nd,mem,e⟩:=zPp hS hw hg (by nofun) λr h=>by have:=(hr r h).2.1;lia
 have um:∀r∈us,∃q∈rows,r=sr q:=λr h=>by
  obtain⟨q,hq,e⟩:=xt.mp ((mem r).mp h);exact⟨q,hq,e.symm⟩
 have cn:Cn us:=⟨λq hq=>by obtain⟨r,h1,rfl⟩:=um q hq;exact(zCv r).nd (hr r h1).2.2.1,λq hq p hp s s'=>by
  obtain⟨q0,h1,rfl⟩:=um q hq;obtain⟨p0,h2,rfl⟩:=um p hp;exact zRu (zHp (hr _ h1).2.2.1) (zHp (hr _ h2).2.2.1) λx=>⟨s x,s' x⟩⟩
 have fm:∀r,r∈us.filter (λr=>decide (Mn us r)) <-> r∈us/\Mn us r:=λr=>by rw[vO,uE]
 refine⟨_,e,?_,?_,λr h=>?_,λq hq r hr' s=>((fm r).mp hr').2.2 q ((fm q).mp hq).1 s⟩
 ·obtain⟨r,hr'⟩:∃r,r∈rows:=List.exists_mem_of_ne_nil _ n0
  obtain⟨k,mk,_⟩:=cn.min _ (sr r) (xi _) ((mem _).mpr (xt.mpr ⟨r,hr',rfl⟩));exact List.ne_nil_of_mem ((fm k).mpr ⟨mk.1,mk⟩)
 ·have le:us.length<=rows.length:=xm (zSv nd λr h=>(mem r).mp h) (by rw[xn];exact xi _);have:=uG (λr=>decide (Mn us r)) us;lia
 ·obtain⟨q,hq,rfl⟩:=um r ((fm r).mp h).1;obtain⟨h1,h2,h3,h4⟩:=hr q hq;refine⟨λz=>h1 (uA (by rw[<- (zCv q).len,z];rfl)),by rw[(zCv q).len];exact h2,zHp h3,λc hc=>h4 c (((zCv q).mem c).mp hc)⟩
def zZq{cs:List Pt}(hl:cs.length<=1000)(h4:env[4]?=some (some (lstD cs)))(h9:env[9]?=some (some (natD m))):(zAn 2 [9] (iEn false (eVar 4)) (gTup [(gName 0),(gName 1)]) (tB (eOp eqI (eOp andD (eOp shrD (eVar 2) (eVar 0)) (eC (.int 1))) (eC (.int 1)))) (eVar 1)) env S=.ok (lstD (picked cs m)) S:=by
 have w:iEn false (eVar 4) env S=.ok ⟨cs.zipIdx.map λa=>.tup [.int (a.2:Nat),cel a.1],[]⟩ S:=by
  have w:enW false S (lstD cs)=some ⟨cs.zipIdx.map λa=>.tup [.int (a.2:Nat),cel a.1],[]⟩:=by show(if false=false/\(cs.map cel).length<2 ^ 60 then some (Walk.mk (zFn (cs.map cel) 0) [])else none)=_;rw[xf ⟨rfl,by rw[xn];lia⟩,zJo]
  simp only[iEn,eVar,h4,Rs.bind_ok,w,zAk]
 have cp:=zIq (own:=2) (ix:=[9]) (g:=gTup [gName 0,gName 1]) (c:=tB (eOp eqI (eOp andD (eOp shrD (eVar 2) (eVar 0)) (eC (.int 1))) (eC (.int 1)))) (e:=eVar 1) (f:=λa=>cel a.1) (p:=λa=>m.testBit a.2) (λenv=>∃o1 o2,env=[o1,o2,some (natD m)]) w zAf ⟨none,none,by simp[compEnv,h9]⟩ (by rw[List.length_zipIdx];exact xm hl (by decide)) (λa ha env hh=>by
  obtain⟨o1,o2,rfl⟩:=hh;have sh:shrD S (natD m) (.int (a.2:Nat))=some (natD (m / 2 ^ a.2)):=by
   show(if(0:Int)<=(a.2:Nat)then some (D.int ((m:Int) / 2 ^ (a.2:Int).toNat))else none)=_;rw[xf (by nofun),vw]
   norm_cast
  have an:andD S (natD (m / 2 ^ a.2)) (.int 1)=some (natD (m / 2 ^ a.2 % 2)):=by rw[show(D.int 1)=natD 1 from rfl,zRd,Nat.and_one_is_mod]
  have eq:eqI S (natD (m / 2 ^ a.2 % 2)) (.int 1)=some (.bl (m.testBit a.2)):=by show some (D.bl (decide (((m / 2 ^ a.2 % 2:Nat):Int)=1)))=_;rw[Nat.testBit_eq_decide_div_mod_eq];congr 2;exact xS.mpr (by nofun)
  exact⟨[some (.int (a.2:Nat)),some (cel a.1),some (natD m)],rfl,⟨_,_,rfl⟩,by simp_arith [sh,an,eq],λ_=>by simp_arith [xl]⟩)
 rw[cp];unfold picked lstD;rw[xH];rfl
def zI2:∀(cs:List Pt) (s k:Nat),((cs.zipIdx s).filter λa=>decide (a.2<s+k)).length=min k cs.length
 | [],s,k=>by simp
 | c::cs,s,0=>by
  have:=zI2 cs (s+1) 0;rw[List.zipIdx_cons,uF,xg (by simp)];rw[Nat.add_zero]at this ⊢;rw[Nat.zero_min]at this ⊢;rw[List.length_eq_zero_iff,List.filter_eq_nil_iff]at this ⊢;intro a ha;have:=this a ha;simp only[decide_eq_true_eq]at this ⊢;lia
 | c::cs,s,k+1=>by
  have:=zI2 cs (s+1) k;rw[List.zipIdx_cons,uF,xf (by simp),xB,xB,Nat.succ_min_succ,<- this,show s+(k+1)=s+1+k by nofun]
def zKj{cs:List Pt}{k:Nat}(h:k<=cs.length):(picked cs (2 ^ k-1)).length=k:=by
 unfold picked;rw[xn];have:=zI2 cs 0 k;rw[xX,Nat.min_eq_left h]at this;refine Eq.trans ?_ this;congr 2
 funext a
 rw[Nat.testBit_two_pow_sub_one]
def zD7{a:Nat}{b:Nat}:D.int ((a:Int)+(b:Int))=natD (a+b):=by show D.int _=D.int ((a+b:Nat):Int);rw[Int.natCast_add]
def zOc{k:Nat}(h:k<=1000):shlD S (.int 1) (natD k)=some (natD (2 ^ k)):=by show(if 0<=(k:Int)/\(k:Int)<=1000000/\(1:Int).natAbs<2 ^ 64 then some (D.int (1*2 ^ (k:Int).toNat))else none)=_;rw[xf ⟨by nofun,by nofun,by decide⟩,vw,Int.one_mul];show some (D.int _)=some (D.int ((2 ^ k:Nat):Int));rw[Int.natCast_pow];rfl
def zIh{l:List D}:lenB S [.lst l]=some (natD l.length):=rfl
def zO0{a:Nat}(h:1<=a):D.int ((a:Int)-1)=natD (a-1):=by show D.int _=D.int ((a-1:Nat):Int);congr 1;lia
def Mks(k:Nat)(ms:List Nat):Prop:=∀m∈ms,1<=m/\m<2 ^ k
noncomputable abbrev plE (n:Nat) (mo:Nat) (w:Int) (fo:Nat) (cs:List Pt) (o5:Option D) (mn:Nat) (o7 o8 o9 o10:Option D):Env:=[some (.ref n),some (natD mo),some (.int w),some (natD fo),some (lstD cs),o5,some (natD mn),o7,o8,o9,o10]
noncomputable abbrev plM:SM:=(zFm (eMt "list" zCa (eVar 5) (zA0 (eOp addD (eC (.int 1)) (zAc zA3 (zA0 (eVar 0) (zA0 (eOp subD (eOp shlD (eC (.int 1)) (eCB lenB (zA0 (eVar 4) aNil))) (eC (.int 1))) aNil)))) aNil)))
def yA6{mn:Nat}{w:Int}{cs:List Pt}{ms:List Nat}(h0:Deal S0 n m)(hk:1<=cs.length)(h8:cs.length<=8)(h:MkD n m S0 c (ms.map natD) S)(hm:Mks cs.length ms)(ml:ms.length<=100):∃(v:Nat) (S':Store),plM (plE n mo w fo cs (some (.ref c)) mn o7 o8 o9 o10) S=.nx (plE n mo w fo cs (some (.ref c)) mn o7 o8 o9 o10) S'/\MkD n m S0 c ((ms++[v]).map natD) S'/\Mks cs.length (ms++[v]):=by
 have p2:2<=2 ^ cs.length:=by have:=v5 (n:=2) (by decide) hk;simpa using this
 have p9:2 ^ cs.length<=256:=v5 (by decide) h8;obtain⟨r,S1,e1,r1,d1,o1⟩:=zD3 (many:=2 ^ cs.length-1) (by nofun) (by nofun) h.deal;have e1:zA3 [.ref n,natD (2 ^ cs.length-1)] S=.ok (natD r) S1:=e1;have h1:=h.draw h0 d1 o1;have ap:=zU5 (d:=natD (1+r)) h1.at_ (by rw[xn];lia);have h2:=h1.add h0 (natD (1+r));rw[show ms.map natD++[natD (1+r)]=(ms++[1+r]).map natD by rw[vn];rfl]at ap h2;refine⟨1+r,_,?_,h2,λx hx=>?_⟩
 ·have sb1:=zO0 (a:=2 ^ cs.length) (by nofun);have ad1:D.int (1+(r:Int))=natD (1+r):=zD7;have ty:=ty_D h.at_;simp_arith [eMt,zIh,xn,zOc (show cs.length<=1000 by nofun),sb1,e1,ad1,ty_D h.at_,ap]
 ·rcases xJ.mp hx with z|z
  ·exact hm x z
  ·rw[xE.mp z];lia
noncomputable abbrev plB:SM:=(sSeq (sSet 10 (zAn 2 [9] (iEn false (eVar 4)) (gTup [(gName 0),(gName 1)]) (tB (eOp eqI (eOp andD (eOp shrD (eVar 2) (eVar 0)) (eC (.int 1))) (eC (.int 1)))) (eVar 1)))
  (sIf (tOr (tB (eOp gtD (eVar 3) (eC (.int 0)))) (tB (eOp eqI (eCB lenB (zA0 (eVar 10) aNil)) (eVar 6)))) (zFm (eMt "list" zCa (eVar 8) (zA0 (eVar 10) aNil))) zBs))
abbrev Tkn(fo mn:Nat)(r:List Pt):Prop:=0<fo\/r.length=mn
def yA7{c8:Nat}{w:Int}{cs:List Pt}{rows:List (List Pt)}(h0:Deal S0 n m)(h8:cs.length<=8)(h:MkD n m S0 c8 (rows.map lstD) S)(rl:rows.length<=900):∃(S':Store),plB (plE n mo w fo cs o5 mn o7 (some (.ref c8)) (some (natD v)) o10) S=.nx (plE n mo w fo cs o5 mn o7 (some (.ref c8)) (some (natD v)) (some (lstD (picked cs v)))) S'/\MkD n m S0 c8 ((rows++if Tkn fo mn (picked cs v)then [picked cs v]else []).map lstD) S'/\(∀i,i≠c8->S'[i]?=S[i]?):=by
 have x1:sSet 10 (zAn 2 [9] (iEn false (eVar 4)) (gTup [(gName 0),(gName 1)]) (tB (eOp eqI (eOp andD (eOp shrD (eVar 2) (eVar 0)) (eC (.int 1))) (eC (.int 1)))) (eVar 1)) (plE n mo w fo cs o5 mn o7 (some (.ref c8)) (some (natD v)) o10) S=.nx (plE n mo w fo cs o5 mn o7 (some (.ref c8)) (some (natD v)) (some (lstD (picked cs v)))) S:=by rw[sSet,zZq (by nofun) rfl rfl];rfl
 have t:tOr (tB (eOp gtD (eVar 3) (eC (.int 0)))) (tB (eOp eqI (eCB lenB (zA0 (eVar 10) aNil)) (eVar 6))) (plE n mo w fo cs o5 mn o7 (some (.ref c8)) (some (natD v)) (some (lstD (picked cs v)))) S=.ok (decide (Tkn fo mn (picked cs v))) S:=by
  refine zZh ?_ ?_
  ·simp_arith [gt_int];congr 1;exact xS.mpr (by nofun)
  ·simp_arith [zIh,xn,eq_int];congr 1;exact xS.mpr (by nofun)
 by_cases z:Tkn fo mn (picked cs v)
 ·rw[xf z];have ap:=zU5 (d:=lstD (picked cs v)) h.at_ (by rw[xn];lia);have h2:=h.add h0 (lstD (picked cs v));rw[show rows.map lstD++[lstD (picked cs v)]=(rows++[picked cs v]).map lstD by rw[vn];rfl]at ap h2;refine⟨_,zAa x1 ?_,h2,λi hi=>xR (xv hi)⟩;rw[zEb t,xf z];simp_arith [eMt,ty_D h.at_,ap]
 ·rw[xg z,vT];exact⟨S,zAa x1 (by rw[zEb t,xg z];rfl),h,λ_ _=>rfl⟩
def zRv(rows:List (List Pt)):∃us:List (List Pt),srt (rows.map rowD)=us.map rowD/\us.length=rows.length/\∀r,r∈us <-> r∈rows:=by
 have pm:=zBx (rows.map rowD);have al:∀x∈srt (rows.map rowD),∃r,x=rowD r:=λx hx=>by
  obtain⟨r,hr,e⟩:=xt.mp (pm.mem_iff.mp hx);exact⟨r,e.symm⟩
 obtain⟨us,e1⟩:∃us:List (List Pt),srt (rows.map rowD)=us.map rowD:=by
  generalize srt (rows.map rowD)=l at al;induction l with
  | nil=>exact⟨[],rfl⟩
  | cons x l ih=>
   obtain⟨r,rfl⟩:=al x (.head _);obtain⟨us,e⟩:=ih λy hy=>al y (.tail _ hy)
   exact⟨r::us,by rw[e];rfl⟩
 have mm:∀(l:List (List Pt)) r,rowD r∈l.map rowD <-> r∈l:=λl r=>⟨λh=>by obtain⟨q,hq,e⟩:=xt.mp h;rw[<- zHw e];exact hq,λh=>xt.mpr ⟨r,h,rfl⟩⟩
 refine⟨us,e1,?_,λr=>?_⟩
 ·have:=pm.length_eq;rw[e1,xn,xn]at this;exact this
 ·rw[<- mm us,<- e1,pm.mem_iff,mm]
def zO7{rows:List (List Pt)}(hl:rows.length<=1000):∃us:List (List Pt),zBr S [.lst (rows.map rowD)]=some (.lst (us.map rowD))/\us.length=rows.length/\∀r,r∈us <-> r∈rows:=by obtain⟨us,e,h1,h2⟩:=zRv rows;refine⟨us,?_,h1,h2⟩;show(if sortable (rows.map rowD)then some (D.lst (srt (rows.map rowD)))else none)=_;rw[xf ⟨by rw[xn];exact xm hl (by decide),2,by decide,λx hx=>by obtain⟨r,_,rfl⟩:=xt.mp hx;exact zUv r⟩,e]
def fork{fo:Nat}:ixD S (.lst [.int 12,.int 4]) (.int (if decide ((1:Int)<(fo:Int))=true then 1 else 0))=some (natD (if 1<fo then 4 else 12)):=by
 by_cases h:1<fo
 ·rw[xf (xx (by nofun)),xf h];rfl
 ·rw[xg (by rw[xC (by nofun)];decide),xg h];rfl
def zV4 :intB S [.bl b]=some (.int (if b=true then 1 else 0)):=rfl
def zSz{mn:Nat}{w:Int}{cs:List Pt}(h0:Deal S0 n m)(hk:1<=cs.length)(h8:cs.length<=8)(h:MkD n m S0 c (([]:List Nat).map natD) S):∃(ms:List Nat) (o7:Option D) (S':Store),sFor (zBt (zA0 (eOp addD (eC (.int 1)) (zAc zA3 (zA0 (eVar 0) (zA0 (eOp ixD (eLst (zA0 (eC (.int 12)) (zA0 (eC (.int 4)) aNil))) (eCB intB (zA0 (eOp gtD (eVar 3) (eC (.int 1))) aNil))) aNil)))) aNil)) (gName 7) plM (plE n mo w fo cs (some (.ref c)) mn none none none none) S=.nx (plE n mo w fo cs (some (.ref c)) mn o7 none none none) S'/\MkD n m S0 c (ms.map natD) S'/\Mks cs.length ms/\ms≠[]/\ms.length<=12:=by
 obtain⟨r,S1,e1,r1,d1,o1⟩:=zD3 (many:=if 1<fo then 4 else 12) (by split <;> decide) (by split <;> decide) h.deal;have e1:zA3 [.ref n,natD (if 1<fo then 4 else 12)] S=.ok (natD r) S1:=e1;have r9:r<12:=by split at r1 <;> lia
 have h1:=h.draw h0 d1 o1;have ex:eOp addD (eC (.int 1)) (zAc zA3 (zA0 (eVar 0) (zA0 (eOp ixD (eLst (zA0 (eC (.int 12)) (zA0 (eC (.int 4)) aNil))) (eCB intB (zA0 (eOp gtD (eVar 3) (eC (.int 1))) aNil))) aNil))) (plE n mo w fo cs (some (.ref c)) mn none none none none) S=.ok (.int ((1+r:Nat):Int)) S1:=by refine plus1 ?_;have f:=fork (S:=S) (fo:=fo);simp_arith [gt_int,zV4];simp only[DS.ixL]at f;simp only[f,zAk,Rs.bind_ok,e1]
 obtain⟨env',S2,e2,ms,o7,rfl,mk,mks,ml⟩:=zCb (h:=λi:Nat=>natD i) (gd:=[]) (g:=gName 7) (b:=plM) (ys:=List.range (1+r)) (λZ env S'=>∃(ms:List Nat) (o7:Option D),env=plE n mo w fo cs (some (.ref c)) mn o7 none none none/\MkD n m S0 c (ms.map natD) S'/\Mks cs.length ms/\ms.length=Z.length) (λ_ _ _ _=>zAf) (λZ i R eq env S' hh=>by
  obtain⟨ms,o7,rfl,mk,mks,ml⟩:=hh;have zl:Z.length<1+r:=by have:=congrArg List.length eq;rw[vc,xw,xB]at this;lia
  obtain⟨v,S3,e3,mk3,mks3⟩:=yA6 (mo:=mo) (fo:=fo) (mn:=mn) (w:=w) (o7:=some (natD i)) (o8:=none) (o9:=none) (o10:=none) h0 hk h8 mk mks (by nofun);exact⟨plE n mo w fo cs (some (.ref c)) mn (some (natD i)) none none none,_,_,by simp_arith [xl],e3,ms++[v],_,rfl,mk3,mks3,by rw[xw,xw,ml];rfl⟩) (List.range (1+r)) [] (plE n mo w fo cs (some (.ref c)) mn none none none none) S1 rfl ⟨[],none,rfl,h1,(λx hx=>nomatch hx),rfl⟩
 rw[vc]at ml;refine⟨ms,o7,S2,?_,mk,mks,λz=>?_,by nofun⟩
 ·rw[sFor,zD2 ex (by nofun),Rs.then_ok];exact e2
 ·rw[z]at ml;simp at ml;lia
def zW7{c5:Nat}{w:Int}{cs:List Pt}{ms:List Nat}(h0:Deal S0 n m)(h8:cs.length<=8)(hc:c5≠c8)(h5:S[c5]?=some (.lst (ms.map natD)))(ml:ms.length<=300)(h:MkD n m S0 c8 (([]:List (List Pt)).map lstD) S):∃(o9 o10:Option D) (S':Store),sFor (iVal (eVar 5)) (gName 9) plB (plE n mo w fo cs (some (.ref c5)) mn o7 (some (.ref c8)) none none) S=.nx (plE n mo w fo cs (some (.ref c5)) mn o7 (some (.ref c8)) o9 o10) S'/\MkD n m S0 c8 (((ms.map (picked cs)).filter λr=>decide (Tkn fo mn r)).map lstD) S':=by
 obtain⟨env',S2,e2,o9,o10,rfl,mk,_⟩:=zCb (h:=natD) (gd:=[(c5,.lst (ms.map natD))]) (g:=gName 9) (b:=plB) (ys:=ms) (λZ env S'=>∃(o9 o10:Option D),env=plE n mo w fo cs (some (.ref c5)) mn o7 (some (.ref c8)) o9 o10/\MkD n m S0 c8 (((Z.map (picked cs)).filter λr=>decide (Tkn fo mn r)).map lstD) S'/\S'[c5]?=some (.lst (ms.map natD))) (λZ env S' hz5=>by obtain⟨_,_,_,_,e⟩:=hz5;exact zGi e) (λZ v R eq env S' hh=>by
  obtain⟨o9,o10,rfl,mk,a5⟩:=hh;have zl:Z.length<=ms.length:=by rw[eq,xw];lia
  have fl:=uG (λr=>decide (Tkn fo mn r)) (Z.map (picked cs));rw[xn]at fl;obtain⟨S3,e3,mk3,keep⟩:=yA7 (mo:=mo) (w:=w) (o5:=some (.ref c5)) (o7:=o7) (o10:=o10) (v:=v) (fo:=fo) (mn:=mn) h0 h8 mk (by nofun);refine⟨plE n mo w fo cs (some (.ref c5)) mn o7 (some (.ref c8)) (some (natD v)) o10,_,_,by simp_arith [xl],e3,_,_,rfl,?_,by rw[keep _ hc];exact a5⟩;rw[vn,List.filter_append];have:List.filter (λr=>decide (Tkn fo mn r)) ([v].map (picked cs))=if Tkn fo mn (picked cs v)then [picked cs v]else []:=by
   by_cases z:Tkn fo mn (picked cs v)
   ·rw[xf z,xr,x6,uF,xf (xx z)];rfl
   ·rw[xg z,xr,x6,uF,xg (by rw[xC z];decide)];rfl
  rw[this];exact mk3) ms [] (plE n mo w fo cs (some (.ref c5)) mn o7 (some (.ref c8)) none none) S rfl ⟨none,none,rfl,h,h5⟩
 refine⟨o9,o10,S2,?_,mk⟩;have w:iVal (eVar 5) (plE n mo w fo cs (some (.ref c5)) mn o7 (some (.ref c8)) none none) S=.ok ⟨ms.map natD,[(c5,.lst (ms.map natD))]⟩ S:=by simp_arith [iVal,zEe h5]
 rw[sFor,w,Rs.then_ok];exact e2
def allM(k:Nat):List Nat:=(List.range (2 ^ k-1)).map λi=>1+i
def allM_mem{k x:Nat}:x∈allM k <-> 1<=x/\x<2 ^ k:=by
 unfold allM;rw[xt];constructor
 ·rintro⟨i,hi,rfl⟩;have:=vi.mp hi;lia
 ·rintro⟨h1,h2⟩;exact⟨x-1,vi.mpr (by nofun),by nofun⟩
def zJ1{k:Nat}:(allM k).length=2 ^ k-1:=by unfold allM;rw[xn,vc]
def zOj{k:Nat}:zCr 1 ((2 ^ k:Nat):Int)=(allM k).map natD:=by
 unfold zCr allM;rw[xH,show(((2 ^ k:Nat):Int)-1).toNat=2 ^ k-1 by nofun];refine yS λi _=>?_
 exact zD7 (a:=1)
def zT3{k:Nat}(h:k<=8):zT4 [.int 1,natD (2 ^ k)]=some (.lst ((allM k).map natD)):=by
 have p9:2 ^ k<=256:=v5 (n:=2) (by decide) h;have f:(fits62 1 && fits62 ((2 ^ k:Nat):Int))=true:=by unfold fits62;rw[xM];exact⟨by decide,xx ⟨by nofun,by nofun⟩⟩
 show((if(fits62 1 && fits62 ((2 ^ k:Nat):Int))=true then some (Walk.mk (zCr 1 ((2 ^ k:Nat):Int)) [])else none).bind λw=>if w.its.length<=most then some (D.lst w.its)else none)=_;rw[xf f];show(if(zCr 1 ((2 ^ k:Nat):Int)).length<=most then some (D.lst (zCr 1 ((2 ^ k:Nat):Int)))else none)=_;rw[zOj,xf];rw[xn,zJ1];exact xm (show 2 ^ k-1<=256 by nofun) (by decide)
structure Msk (fo k:Nat) (ms:List Nat):Prop where
 ms1:Mks k ms
 ne:ms≠[]
 l1:fo=0->ms=allM k
 l2:fo≠0->ms.length<=12
def eq0{fo:Nat}{w:Int}:tB (eOp eqI (eVar 3) (eC (.int 0))) (plE n mo w fo cs o5 mn o7 o8 o9 o10) S=.ok (decide (fo=0)) S:=by simp_arith [eq_int];congr 1;exact xS.mpr (by nofun)
def zW4{S:Store}{mn c:Nat}{w:Int}{cs:List Pt}{L:List Nat}(sh:shlD S (.int 1) (natD cs.length)=some (natD N))(lr:zT4 [.int 1,natD N]=some (.lst (L.map natD))):sSet 5 (eNew (eLR (zA0 (eC (.int 1)) (zA0 (eOp shlD (eC (.int 1)) (eCB lenB (zA0 (eVar 4) aNil))) aNil)))) (plE n mo w fo cs (some (.ref c)) mn o7 none none none) S=.nx (plE n mo w fo cs (some (.ref S.length)) mn o7 none none none) (S++[.lst (L.map natD)]):=by
 have a:eCB lenB (zA0 (eVar 4) aNil) (plE n mo w fo cs (some (.ref c)) mn o7 none none none) S=.ok (natD cs.length) S:=by simp_arith [zIh,xn]
 have b:eOp shlD (eC (.int 1)) (eCB lenB (zA0 (eVar 4) aNil)) (plE n mo w fo cs (some (.ref c)) mn o7 none none none) S=.ok (natD N) S:=by rw[eOp,eC,Rs.bind_ok,a,Rs.bind_ok,sh];rfl
 have d:(zA0 (eC (.int 1)) (zA0 (eOp shlD (eC (.int 1)) (eCB lenB (zA0 (eVar 4) aNil))) aNil)) (plE n mo w fo cs (some (.ref c)) mn o7 none none none) S=.ok [.int 1,natD N] S:=by rw[zA0,eC,Rs.bind_ok,zA0,b];rfl
 have e:eLR (zA0 (eC (.int 1)) (zA0 (eOp shlD (eC (.int 1)) (eCB lenB (zA0 (eVar 4) aNil))) aNil)) (plE n mo w fo cs (some (.ref c)) mn o7 none none none) S=.ok (.lst (L.map natD)) S:=by rw[eLR,d,Rs.bind_ok,lr];rfl
 rw[sSet,eNew,e];rfl
def yB1{m mn:Nat}{w:Int}{cs:List Pt}{ms:List Nat}(k2:2<=cs.length)(k8:cs.length<=8)(mk:MkD n m S0 c (ms.map natD) S)(mks:Mks cs.length ms)(ne:ms≠[])(l12:ms.length<=12):∃(c5:Nat) (ms':List Nat) (S6:Store),sIf (tB (eOp eqI (eVar 3) (eC (.int 0)))) (sSet 5 (eNew (eLR (zA0 (eC (.int 1)) (zA0 (eOp shlD (eC (.int 1)) (eCB lenB (zA0 (eVar 4) aNil))) aNil))))) zBs (plE n mo w fo cs (some (.ref c)) mn o7 none none none) S=.nx (plE n mo w fo cs (some (.ref c5)) mn o7 none none none) S6/\Deal S6 n m/\Grow n m S0 S6/\S6[c5]?=some (.lst (ms'.map natD))/\Msk fo cs.length ms':=by
 by_cases z:fo=0
 ·refine⟨S.length,allM cs.length,S++[.lst ((allM cs.length).map natD)],?_,mk.deal.app _,mk.grow.trans (.app _),by simp,λx hx=>allM_mem.mp hx,λy=>?_,λ_=>rfl,λy=>absurd z y⟩
  ·rw[zEb eq0,xf z];have sh:=zOc (S:=S) (show cs.length<=1000 by nofun);have lr:=zT3 k8;exact zW4 sh lr
  ·have:=allM_mem.mpr (show 1<=1/\1<2 ^ cs.length from⟨xi _,Nat.one_lt_two_pow (by nofun)⟩);rw[y]at this;exact nomatch this
 ·exact⟨c,ms,S,by rw[zEb eq0,xg z];rfl,mk.deal,mk.grow,mk.at_,mks,ne,λy=>absurd y z,λ_=>l12⟩
structure Rws (fo mo mn:Nat) (w:Int) (cs:List Pt) (rows:List (List Pt)):Prop where
 good:∀r∈rows,r≠[]/\r.length<=mo/\r.Nodup/\∀c∈r,Wd w c
 ne:rows≠[]
 l1:fo=0->rows.length<=2 ^ mo/\∀r∈rows,r.length=mn
 l2:fo≠0->rows.length<=12
def zZo{mo mn:Nat}{w:Int}{cs:List Pt}{ms:List Nat}(h:Msk fo cs.length ms)(cm:cs.length<=mo)(nd:cs.Nodup)(cw:∀p∈cs,Wd w p)(m1:1<=mn)(m2:mn<=cs.length):Rws fo mo mn w cs ((ms.map (picked cs)).filter λr=>decide (Tkn fo mn r)):=by
 have rm:∀r∈(ms.map (picked cs)).filter (λr=>decide (Tkn fo mn r)),∃v∈ms,r=picked cs v/\Tkn fo mn r:=λr hr=>by
  rw[vO]at hr;obtain⟨v,hv,rfl⟩:=xt.mp hr.1;exact⟨v,hv,rfl,uo hr.2⟩
 have rl:((ms.map (picked cs)).filter λr=>decide (Tkn fo mn r)).length<=ms.length:=xm (uG _ _) (by rw[xn];exact xi _);refine⟨λr hr=>?_,?_,λz=>⟨?_,λr hr=>?_⟩,λz=>xm rl (h.l2 z)⟩
 ·obtain⟨v,hv,rfl,_⟩:=rm r hr;have sbl:=zMx cs v;have mv:=h.ms1 v hv;exact⟨zOv (by nofun) mv.2,xm sbl.length_le cm,nd.sublist sbl,λc hc=>cw c (sbl.subset hc)⟩
 ·by_cases z:fo=0
  ·have r0:picked cs (2 ^ mn-1)∈(ms.map (picked cs)).filter λr=>decide (Tkn fo mn r):=by
    rw[vO];refine⟨xt.mpr ⟨2 ^ mn-1,?_,rfl⟩,xx (.inr (zKj m2))⟩;rw[h.l1 z,allM_mem];have a1:2 ^ 1<=2 ^ mn:=v5 (n:=2) (by decide) m1;have a2:2 ^ mn<=2 ^ cs.length:=v5 (n:=2) (by decide) m2;lia
   exact List.ne_nil_of_mem r0
  ·obtain⟨v,hv⟩:=List.exists_mem_of_ne_nil _ h.ne;exact List.ne_nil_of_mem (a:=picked cs v) (by
    rw[vO];exact⟨xt.mpr ⟨v,hv,rfl⟩,xx (.inl (by nofun))⟩)
 ·refine xm rl ?_;rw[h.l1 z,zJ1];have:2 ^ cs.length<=2 ^ mo:=v5 (n:=2) (by decide) cm;lia
 ·obtain⟨v,_,_,tk⟩:=rm r hr;exact tk.resolve_left (by nofun)
noncomputable abbrev plR:SM:=sSeq (sIf (tB (eOp eqI (eVar 3) (eC (.int 0)))) (sRet (eCB zAz (zA0 (eCB zBr (zA0 (zAn 1 [] (iVal (eVar 8)) (gName 0) tYes (eCB zAz (zA0 (eCB zBr (zA0 (eVar 0) aNil)) aNil))) aNil)) aNil))) zBs) (sRet (zAc zB8 (zA0 (eVar 8) aNil)))
def yA5{mo c8:Nat}{w:Int}{rows:List (List Pt)}(h8:mo<=8)(at_:S[c8]?=some (.lst (rows.map lstD)))(h:Rws fo mo mn w cs rows):∃P,plR (plE n mo w fo cs o5 mn o7 (some (.ref c8)) o9 o10) S=.rt (zAe P) S/\Pln mo w P:=by
 have p9:2 ^ mo<=256:=v5 (n:=2) (by decide) h8;by_cases z:fo=0
 ·obtain⟨rl,rlen⟩:=h.l1 z;have cm:(zAn 1 [] (iVal (eVar 8)) (gName 0) tYes (eCB zAz (zA0 (eCB zBr (zA0 (eVar 0) aNil)) aNil))) (plE n mo w fo cs o5 mn o7 (some (.ref c8)) o9 o10) S=.ok (.lst (rows.map λr=>rowD (sr r))) S:=by
   refine zCw (xs:=rows) (h:=lstD) (gd:=[(c8,.lst (rows.map lstD))]) (λenv=>∃o,env=[o]) (by simp_arith [iVal,zEe at_]) (zGi at_) ⟨none,rfl⟩ (xm (show rows.length<=256 by nofun) (by decide)) ?_;rintro r hr env ⟨o,rfl⟩;have h2:=(h.good r hr).2.1;exact⟨[some (lstD r)],by simp_arith [xl],⟨_,rfl⟩,by simp_arith [zHq (show r.length<=63 by nofun),zEy]⟩
  obtain⟨P,eP,lP,mP⟩:=zO7 (S:=S) (rows:=rows.map sr) (by rw[xn];lia);rw[xH]at eP;have eP:zBr S [.lst (rows.map λr=>rowD (sr r))]=some (.lst (P.map rowD)):=eP;rw[xn]at lP;have len:∀r∈P,r.length=mn/\∃q∈rows,r=sr q:=λr hr=>by
   obtain⟨q,hq,rfl⟩:=xt.mp ((mP r).mp hr);exact⟨by rw[(zCv q).len];exact rlen q hq,q,hq,rfl⟩
  refine⟨P,zLj ?_,λy=>?_,by nofun,λr hr=>?_,λq hq r hr s=>?_⟩
  ·rw[zEb eq0,xf z,sRet,eCB,zA0,eCB,zA0,cm,Rs.bind_ok,aNil,Rs.bind_ok,Rs.bind_ok,eP];rfl
  ·obtain⟨r0,hr0⟩:=List.exists_mem_of_ne_nil _ h.ne;have:sr r0∈P:=(mP _).mpr (xt.mpr ⟨_,hr0,rfl⟩);rw[y]at this;exact nomatch this
  ·obtain⟨_,q,hq,rfl⟩:=len r hr;obtain⟨h1,h2,h3,h4⟩:=h.good q hq;exact⟨λy=>h1 (uA (by rw[<- (zCv q).len,y];rfl)),by rw[(zCv q).len];exact h2,zHp h3,λc hc=>h4 c (((zCv q).mem c).mp hc)⟩
  ·obtain⟨l1,q',hq',rfl⟩:=len q hq;obtain⟨l2,r',hr',rfl⟩:=len r hr;have n1:=(h.good q' hq').2.2.1;have n2:=(h.good r' hr').2.2.1;refine zRu (zHp n1) (zHp n2) λx=>⟨s x,λhx=>?_⟩
   refine vW λnx=>?_
   have:(x::sr q').length<=(sr r').length:=zSv (vJ.mpr ⟨nx,(zHp n1).1⟩) λy hy=>by
    rcases xp.mp hy with e|hy
    ·rw[e];exact hx
    ·exact s y hy
   rw[xB]at this;lia
 ·obtain⟨P,e,hP⟩:=zLv (S0:=S) (v:=.ref c8) (rows:=rows) (gd:=[(c8,.lst (rows.map lstD))]) (hD:=lstD) (n:=mo) (w:=w) (λS r hr=>zHq hr) (zEe at_) (zGi at_) (h.l2 z) h.ne h8 h.good;refine⟨P,zAa (e:=plE n mo w fo cs o5 mn o7 (some (.ref c8)) o9 o10) (S1:=S) (by rw[zEb eq0,xg z];rfl) ?_,hP⟩;simp_arith [e]
def zLo{m mo:Nat}{w:Int}(h:Deal S n m)(hm:2<=mo/\mo<=8)(hw:1<=w/\w<=1000):∃(P:List (List Pt)) (S':Store),zB7 [.ref n,natD mo,.int w] S=.ok (zAe P) S'/\Pln mo w P/\Deal S' n m/\Only n m S S':=by
 obtain⟨fo,S1,e1,f1,d1,o1⟩:=zD3 (many:=5) (by decide) (by decide) h;have e1:zA3 [.ref n,.int 5] S=.ok (natD fo) S1:=e1;obtain⟨q,S2,e2,q1,d2,o2⟩:=zD3 (many:=mo-1) (by nofun) (by nofun) d1;have e2:zA3 [.ref n,natD (mo-1)] S1=.ok (natD q) S2:=e2;obtain⟨k,hk⟩:∃k,k=2+q:=⟨_,rfl⟩
 obtain⟨cs,S3,e3,cl,cnd,cw,d3,o3⟩:=zMi (many:=k) (w:=w) d2 (by nofun) hw;have g3:Grow n m S S3:=(o1.trans (o2.trans o3)).grow;have mk0:MkD n m S S3.length (([]:List Nat).map natD) (S3++[.lst []]):=.new h d3 g3 [];obtain⟨mn0,S4,e4,mn1,d4,o4⟩:=zD3 (many:=cs.length) (by nofun) (by nofun) mk0.deal;have e4:zA3 [.ref n,natD cs.length] (S3++[.lst []])=.ok (natD mn0) S4:=e4;have mk4:=mk0.draw h d4 o4;obtain⟨mn,hmn⟩:∃mn,mn=1+mn0:=⟨_,rfl⟩
 have k2:2<=cs.length:=by rw[cl,hk];exact Nat.le_add_right _ _
 have k8:cs.length<=8:=by rw[cl,hk];lia
 obtain⟨ms,o7,S5,e5,mk5,mks5,n5,l5⟩:=zSz (mo:=mo) (fo:=fo) (mn:=mn) (w:=w) h (xm (by decide) k2) k8 mk4;obtain⟨c5,ms',S6,e6,d6,g6,a6,mk6⟩:=yB1 (mo:=mo) (fo:=fo) (mn:=mn) (w:=w) (o7:=o7) k2 k8 mk5 mks5 n5 l5;have l6:c5<S6.length:=(xO.mp a6).1;have mk7:MkD n m S S6.length (([]:List (List Pt)).map lstD) (S6++[.lst []]):=.new h d6 g6 [];have ml:ms'.length<=300:=by
  by_cases z:fo=0
  ·rw[mk6.l1 z,zJ1];have:2 ^ cs.length<=256:=v5 (n:=2) (by decide) (show cs.length<=8 by nofun);lia
  ·have:=mk6.l2 z;lia
 obtain⟨o9,o10,S8,e8,mk8⟩:=zW7 (mo:=mo) (fo:=fo) (mn:=mn) (w:=w) (o7:=o7) (c5:=c5) (ms:=ms') (cs:=cs) h k8 (xu l6) (by rw[vh l6];exact a6) ml mk7;have rw:=zZo (fo:=fo) (mo:=mo) (mn:=mn) (w:=w) mk6 (show cs.length<=mo by rw[cl,hk];lia) cnd cw (show 1<=mn by rw[hmn];exact Nat.le_add_right _ _) (show mn<=cs.length by rw[hmn];lia);obtain⟨P,e9,hP⟩:=yA5 (n:=n) (o5:=some (.ref c5)) (o7:=o7) (o9:=o9) (o10:=o10) hm.2 mk8.at_ rw;have sb1:=zO0 (a:=mo) (by nofun);have ad2:D.int (2+(q:Int))=natD k:=by rw[hk];exact zD7 (a:=2)
 have ad1:D.int (1+(mn0:Int))=natD mn:=by rw[hmn];exact zD7 (a:=1)
 obtain⟨S9,e10,d9,o9'⟩:=zF6 (np:=3) (nl:=11) (b:=zDn) (ds:=[.ref n,natD mo,.int w]) (d:=zAe P) (S':=S8) rfl (by
  refine zAa (by simp_arith [e1] <;> rfl) (zAa (by simp_arith [sb1,e2,ad2,e3] <;> rfl) (zAa (by simp_arith [eNew,zIh,xn,e4,ad1] <;> rfl) (zAa e5 (zAa e6 (zAa (by simp_arith [eNew] <;> rfl) (zAa e8 e9))))))) h mk8.deal mk8.grow (zFs _)
 exact⟨P,S9,e10,hP,d9,o9'⟩
structure MkC (n m:Nat) (S0:Store) (c:Nat) (A:List (Pt × D)) (S:Store):Prop where
 deal:Deal S n m
 grow:Grow n m S0 S
 at_:S[c]?=some (dctC A)
 far:S0.length<=c
def MkC.draw(h0:Deal S0 n m)(h:MkC n m S0 c A S)(d:Deal S' n m)(o:Only n m S S'):MkC n m S0 c A S':=by have l0:=h0.lt;have:=h.far;exact⟨d,h.grow.trans o.grow,by rw[o.at_ c (by nofun) (by nofun)];exact h.at_,h.far⟩
def MkC.put{S:Store}(h0:Deal S0 n m)(h:MkC n m S0 c A S)(B:List (Pt × D)):MkC n m S0 c B (S.set c (dctC B)):=by have l0:=h0.lt;have:=h.far;exact⟨h.deal.set (by nofun) (by nofun),h.grow.set h.far,by rw[vz (xO.mp h.at_).1],h.far⟩
def MkC.new{S:Store}(h0:Deal S0 n m)(d:Deal S n m)(g:Grow n m S0 S):MkC n m S0 S.length [] (S++[dctC []]):=⟨d.app _,g.trans (.app _),by simp,g.len⟩
def zXp(h:P[k]?=some r):ixD S (zAe P) (natD k)=some (rowD r):=by rw[ixT];exact atN rfl (by rw[xQ,h];rfl)
def zUg{lo hi:Option Int}:slD S (rowD r) lo hi=some (rowD (cutL r lo hi)):=by show some (D.tup (cutL (r.map cel) lo hi))=some (.tup ((cutL r lo hi).map cel));unfold cutL;rw[List.map_take,List.map_drop,xn]
def zQs{r:List Pt}{lo hi:Option Int}:(cutL r lo hi).length<=r.length:=by unfold cutL;rw[vd,ug];lia
noncomputable abbrev isE (n:Nat) (P:List (List Pt)) (f a b t:Int) (c:Nat) (o7 o8 o9 o10 o11 o12 o13:Option D):Env:=[some (.ref n),some (zAe P),some (.int f),some (.int a),some (.int b),some (.int t),some (.ref c),o7,o8,o9,o10,o11,o12,o13]
noncomputable abbrev isP:SM:=(sPut putD (eVar 6) (eTup (zA0 (eOp addD (eOp ixD (eVar 9) (eC (.int 0))) (eVar 10)) (zA0 (eOp addD (eOp ixD (eVar 9) (eC (.int 1))) (eVar 11)) aNil))) (eC (.bl true)))
noncomputable abbrev isB:SM:=(sSeq (sSet 8 (eOp ixD (eVar 1) (zAc zA3 (zA0 (eVar 0) (zA0 (eCB lenB (zA0 (eVar 1) aNil)) aNil)))))
  (sSeq (sSet 9 (eTup (zA0 (eOp addD (eVar 3) (zAc zA3 (zA0 (eVar 0) (zA0 (eC (.int 5)) aNil)))) (zA0 (eOp addD (eVar 4) (zAc zA3 (zA0 (eVar 0) (zA0 (eC (.int 5)) aNil)))) aNil))))
  (sFor (iVal (eSl slD (eVar 8) (pYes (eCB intB (zA0 (eOp eqI (zAc zA3 (zA0 (eVar 0) (zA0 (eC (.int 4)) aNil))) (eC (.int 0))) aNil))) pNo)) (gTup [(gName 10),(gName 11)]) isP)))
def yBm{N:Nat}{f a b t:Int}{r:Pt}{A:List (Pt × D)}(h0:Deal S0 n m)(h:MkC n m S0 c A S)(hA:A.length<=N)(hN:N<=1000):∃(A':List (Pt × D)) (S':Store),isP (isE n P f a b t c o7 o8 (some (cel q)) (some (.int r.1)) (some (.int r.2)) o12 o13) S=.nx (isE n P f a b t c o7 o8 (some (cel q)) (some (.int r.1)) (some (.int r.2)) o12 o13) S'/\MkC n m S0 c A' S'/\A'.length<=N+1:=by have p:=zOm (p:=(q.1+r.1,q.2+r.2)) (v:=.bl true) h.at_ (by nofun);refine⟨_,_,?_,h.put h0 (putA A (q.1+r.1,q.2+r.2) (.bl true)),xm zIg (by nofun)⟩;show sPut putD _ _ _ _ _=_;simp_arith [sPut,p]
def yBn{N:Nat}{P:List (List Pt)}{f a b t:Int}{A:List (Pt × D)}(h0:Deal S0 n m)(h:MkC n m S0 c A S)(hA:A.length<=N)(hN:N<=900)(ne:P≠[])(pl:P.length<=1000)(rl:∀r∈P,r.length<=8):∃(A':List (Pt × D)) (p8 p9 p10 p11:Option D) (S':Store),isB (isE n P f a b t c o7 o8 o9 o10 o11 o12 o13) S=.nx (isE n P f a b t c o7 p8 p9 p10 p11 o12 o13) S'/\MkC n m S0 c A' S'/\A'.length<=N+8:=by
 have p0:0<P.length:=List.length_pos_iff.mpr ne;obtain⟨k,S1,e1,k1,d1,o1⟩:=zD3 p0 (by nofun) h.deal;have e1:zA3 [.ref n,natD P.length] S=.ok (natD k) S1:=e1;obtain⟨x,S2,e2,_,_,d2,o2⟩:=drawn (many:=5) (by decide) (by decide) d1;obtain⟨y,S3,e3,_,_,d3,o3⟩:=drawn (many:=5) (by decide) (by decide) d2;obtain⟨z,S4,e4,_,_,d4,o4⟩:=drawn (many:=4) (by decide) (by decide) d3;have h4:=(((h.draw h0 d1 o1).draw h0 d2 o2).draw h0 d3 o3).draw h0 d4 o4;obtain⟨r,hr⟩:∃r,P[k]?=some r:=⟨P[k],xG k1⟩
 have r8:=rl r (uM hr);obtain⟨ds,hds⟩:∃ds,ds=cutL r (some (if decide (z=0)=true then 1 else 0)) none:=⟨_,rfl⟩
 have dl:ds.length<=8:=by rw[hds];exact xm zQs r8
 have ir:=zXp (S:=S1) hr;have w:iVal (eSl slD (eVar 8) (pYes (eCB intB (zA0 (eOp eqI (zAc zA3 (zA0 (eVar 0) (zA0 (eC (.int 4)) aNil))) (eC (.int 0))) aNil))) pNo) (isE n P f a b t c o7 (some (rowD r)) (some (cel (a+x,b+y))) o10 o11 o12 o13) S3=.ok ⟨ds.map cel,[]⟩ S4:=by
  have sl:=zUg (S:=S4) (r:=r) (lo:=some (if decide (z=0)=true then 1 else 0)) (hi:=none);rw[<- hds]at sl;have a1:eOp eqI (zAc zA3 (zA0 (eVar 0) (zA0 (eC (.int 4)) aNil))) (eC (.int 0)) (isE n P f a b t c o7 (some (rowD r)) (some (cel (a+x,b+y))) o10 o11 o12 o13) S3=.ok (.bl (decide (z=0))) S4:=by simp_arith [e4,eq_int]
  have a2:(pYes (eCB intB (zA0 (eOp eqI (zAc zA3 (zA0 (eVar 0) (zA0 (eC (.int 4)) aNil))) (eC (.int 0))) aNil))) (isE n P f a b t c o7 (some (rowD r)) (some (cel (a+x,b+y))) o10 o11 o12 o13) S3=.ok (some (if decide (z=0)=true then 1 else 0)) S4:=by rw[pYes,eCB,zA0,a1,Rs.bind_ok,aNil,Rs.bind_ok,Rs.bind_ok,zV4];rfl
  have a3:eSl slD (eVar 8) (pYes (eCB intB (zA0 (eOp eqI (zAc zA3 (zA0 (eVar 0) (zA0 (eC (.int 4)) aNil))) (eC (.int 0))) aNil))) pNo (isE n P f a b t c o7 (some (rowD r)) (some (cel (a+x,b+y))) o10 o11 o12 o13) S3=.ok (rowD ds) S4:=by rw[eSl,show eVar 8 (isE n P f a b t c o7 (some (rowD r)) (some (cel (a+x,b+y))) o10 o11 o12 o13) S3=.ok (rowD r) S3 from rfl,Rs.bind_ok,a2,Rs.bind_ok,pNo,Rs.bind_ok,sl];rfl
  rw[iVal,a3];rfl
 obtain⟨env',S5,e5,A',o10',o11',rfl,mk,al⟩:=zCb (h:=cel) (g:=gTup [(gName 10),(gName 11)]) (ys:=ds) (λZ env S'=>∃(A':List (Pt × D)) (o10' o11':Option D),env=isE n P f a b t c o7 (some (rowD r)) (some (cel (a+x,b+y))) o10' o11' o12 o13/\MkC n m S0 c A' S'/\A'.length<=N+Z.length) (λ_ _ _ _=>zAf) (λZ q R eq env S' hh=>by
  obtain⟨A',o10',o11',rfl,mk,al⟩:=hh;have zl:Z.length<=ds.length:=by rw[eq,xw];lia
  obtain⟨A2,S6,e6,mk6,l6⟩:=yBm h0 mk al (by nofun);exact⟨isE n P f a b t c o7 (some (rowD r)) (some (cel (a+x,b+y))) (some (.int q.1)) (some (.int q.2)) o12 o13,_,_,by simp_arith [xl],e6,A2,_,_,rfl,mk6,by rw[xw,vL];lia⟩) ds [] (isE n P f a b t c o7 (some (rowD r)) (some (cel (a+x,b+y))) o10 o11 o12 o13) S4 rfl ⟨A,o10,o11,rfl,h4,hA⟩
 refine⟨A',some (rowD r),some (cel (a+x,b+y)),o10',o11',S5,zAa (e:=isE n P f a b t c o7 (some (rowD r)) o9 o10 o11 o12 o13) (S1:=S1) ?_ (zAa (e:=isE n P f a b t c o7 (some (rowD r)) (some (cel (a+x,b+y))) o10 o11 o12 o13) (S1:=S3) (by simp_arith [e2,e3]) ?_),mk,by nofun⟩
 ·have a1:eCB lenB (zA0 (eVar 1) aNil) (isE n P f a b t c o7 o8 o9 o10 o11 o12 o13) S=.ok (natD P.length) S:=by
   show Rs.ok (natD (P.map rowD).length) S=_;rw[xn]
  have a2:zAc zA3 (zA0 (eVar 0) (zA0 (eCB lenB (zA0 (eVar 1) aNil)) aNil)) (isE n P f a b t c o7 o8 o9 o10 o11 o12 o13) S=.ok (natD k) S1:=by rw[zAc,zA0,show eVar 0 (isE n P f a b t c o7 o8 o9 o10 o11 o12 o13) S=.ok (.ref n) S from rfl,Rs.bind_ok,zA0,a1,Rs.bind_ok,aNil,Rs.bind_ok,Rs.bind_ok,Rs.bind_ok,e1]
  rw[sSet,eOp,show eVar 1 (isE n P f a b t c o7 o8 o9 o10 o11 o12 o13) S=.ok (zAe P) S from rfl,Rs.bind_ok,a2,Rs.bind_ok,ir];rfl
 ·rw[sFor,w,Rs.then_ok];exact e5
noncomputable abbrev isQ:SM:=(sIf (tOr (tB (eOp eqI (eVar 5) (eC (.int 1)))) (tB (eOp gtD (zAc zA3 (zA0 (eVar 0) (zA0 (eOp ixD (eLst (zA0 (eC (.int 4)) (zA0 (eC (.int 2)) aNil))) (eOp subD (eVar 5) (eC (.int 2)))) aNil))) (eC (.int 0))))) (sPut putD (eVar 6) (eTup (zA0 (eOp addD (eVar 3) (eVar 10)) (zA0 (eOp addD (eVar 4) (eVar 11)) aNil))) (eC (.bl true))) zBs)
def ix42{t:Int}(h:2<=t/\t<=3):∃k:Int,2<=k/\k<=4/\ixD S (.lst [.int 4,.int 2]) (.int (t-2))=some (.int k):=by
 rcases(by nofun:t=2\/t=3)with rfl|rfl
 ·exact⟨4,by decide,by decide,rfl⟩
 ·exact⟨2,by decide,by decide,rfl⟩
def zTe{c:TM}{a b:SM}(h:c env S=.ok k S1):sIf c a b env S=if k=true then a env S1 else b env S1:=by rw[sIf,h,Rs.then_ok]
def yBl{N:Nat}{f a b t:Int}{A:List (Pt × D)}(h0:Deal S0 n m)(h:MkC n m S0 c A S)(hA:A.length<=N)(hN:N<=1000)(ht:1<=t/\t<=3):∃(A':List (Pt × D)) (S':Store),isQ (isE n P f a b t c o7 o8 o9 (some (natD x)) (some (natD y)) o12 o13) S=.nx (isE n P f a b t c o7 o8 o9 (some (natD x)) (some (natD y)) o12 o13) S'/\MkC n m S0 c A' S'/\A'.length<=N+1:=by
 have tt:∃(k:Bool) (S1:Store),tOr (tB (eOp eqI (eVar 5) (eC (.int 1)))) (tB (eOp gtD (zAc zA3 (zA0 (eVar 0) (zA0 (eOp ixD (eLst (zA0 (eC (.int 4)) (zA0 (eC (.int 2)) aNil))) (eOp subD (eVar 5) (eC (.int 2)))) aNil))) (eC (.int 0)))) (isE n P f a b t c o7 o8 o9 (some (natD x)) (some (natD y)) o12 o13) S=.ok k S1/\MkC n m S0 c A S1:=by
  by_cases z:t=1
  ·refine⟨true,S,?_,h⟩;have e:eqI S (.int t) (.int 1)=some (.bl true):=by rw[eq_int,xx z]
   simp_arith [e]
  ·obtain⟨k,k2,k4,ek⟩:=ix42 (S:=S) (t:=t) (by nofun);obtain⟨r,S1,e1,_,_,d1,o1⟩:=drawn (many:=k) (by nofun) (by nofun) h.deal;refine⟨decide (0<r),S1,?_,h.draw h0 d1 o1⟩;have e:eqI S (.int t) (.int 1)=some (.bl false):=by rw[eq_int,xC z]
   rw[DS.ixL]at ek;simp_arith [e,ek,e1,gt_int]
 obtain⟨k,S1,e1,mk⟩:=tt;cases k with
 | true=>
  have p:=zOm (p:=(a+(x:Int),b+(y:Int))) (v:=.bl true) mk.at_ (by nofun);refine⟨_,_,?_,mk.put h0 (putA A (a+(x:Int),b+(y:Int)) (.bl true)),xm zIg (by nofun)⟩;refine(zTe e1).trans ?_;rw[xf rfl];simp_arith [sPut,p]
 | false=>exact⟨A,S1,(zTe e1).trans rfl,mk,by nofun⟩
noncomputable abbrev yD4:SM:=sRet (eCB zAz (zA0 (eCB zBr (zA0 (eCB zIf (zA0 (eVar 6) aNil)) aNil)) aNil))
def zM1{f a b t:Int}{A:List (Pt × D)}(h:MkC n m S0 c A S)(hA:A.length<=1000):yD4 (isE n P f a b t c o7 o8 o9 o10 o11 o12 o13) S=.rt (rowD (sr (A.map Prod.fst))) S/\(sr (A.map Prod.fst)).length<=1000:=by have li:=zUz (v:=.ref c) h.at_;have so:=zDh (S:=S) (v:=.lst ((A.map Prod.fst).map cel)) rfl (by rw[xn];lia);refine⟨?_,by rw[(zCv _).len,xn];exact hA⟩;simp_arith [li,so,zEy]
def far3{S:Store}{r:Int}(h0:0<=r)(h9:r<3):∃f:Int,0<=f/\f<=1000000000000000000/\atL [D.int 0,.int 9,.int (1000000000000000000-2000)] r=some (.int f):=by
 rcases(by nofun:r=0\/r=1\/r=2)with rfl|rfl|rfl
 ·exact⟨0,by decide,by decide,rfl⟩
 ·exact⟨9,by decide,by decide,rfl⟩
 ·exact⟨999999999999998000,by decide,by decide,rfl⟩
def pow18 :powD S (.int 10) (.int 18)=some (.int 1000000000000000000):=by show(if(0:Int)<=18/\(18:Int)<=1000000/\(10:Int).natAbs<2 ^ 64 then some (D.int ((10:Int) ^ (18:Int).toNat))else none)=_;rw[xf ⟨by decide,by decide,by decide⟩];rfl
def zJb{v:Nat}{e:EM}(h:e env S=.ok (natD v) S)(hv:v<=1000):zBt (zA0 e aNil) env S=.ok ⟨(List.range v).map fun(i:Nat)=>natD i,[]⟩ S:=zD2 h hv
def yBo{P:List (List Pt)}{f a b:Int}(h0:Deal S0 n m)(h:MkC n m S0 c [] S)(ne:P≠[])(pl:P.length<=1000)(rl:∀r∈P,r.length<=8):∃(A:List (Pt × D)) (o7 o8 o9 o10 o11:Option D) (S':Store),sFor (zBt (zA0 (eOp addD (eC (.int 1)) (zAc zA3 (zA0 (eVar 0) (zA0 (eC (.int 4)) aNil)))) aNil)) (gName 7) isB (isE n P f a b 0 c none none none none none none none) S=.nx (isE n P f a b 0 c o7 o8 o9 o10 o11 none none) S'/\MkC n m S0 c A S'/\A.length<=1000:=by
 obtain⟨k,S1,e1,k1,d1,o1⟩:=zD3 (many:=4) (by decide) (by decide) h.deal;have e1:zA3 [.ref n,.int 4] S=.ok (natD k) S1:=e1;have h1:=h.draw h0 d1 o1;have ex:eOp addD (eC (.int 1)) (zAc zA3 (zA0 (eVar 0) (zA0 (eC (.int 4)) aNil))) (isE n P f a b 0 c none none none none none none none) S=.ok (.int ((1+k:Nat):Int)) S1:=plus1 (by simp_arith [e1]);obtain⟨env',S2,e2,A,o7,o8,o9,o10,o11,rfl,mk,al⟩:=zCb (h:=λi:Nat=>natD i) (g:=gName 7) (ys:=List.range (1+k)) (λZ env S'=>∃(A:List (Pt × D)) (o7 o8 o9 o10 o11:Option D),env=isE n P f a b 0 c o7 o8 o9 o10 o11 none none/\MkC n m S0 c A S'/\A.length<=Z.length*8) (λ_ _ _ _=>zAf) (λZ i R eq env S' hh=>by
  obtain⟨A,o7,o8,o9,o10,o11,rfl,mk,al⟩:=hh;have zl:Z.length<1+k:=by have:=congrArg List.length eq;rw[vc,xw,xB]at this;lia
  obtain⟨A',p8,p9,p10,p11,S3,e3,mk3,l3⟩:=yBn h0 mk al (by nofun) ne pl rl;exact⟨isE n P f a b 0 c (some (natD i)) o8 o9 o10 o11 none none,_,_,by simp_arith [xl],e3,A',_,_,_,_,_,rfl,mk3,by rw[xw,vL];lia⟩) (List.range (1+k)) [] (isE n P f a b 0 c none none none none none none none) S1 rfl ⟨[],none,none,none,none,none,rfl,h1,xV _⟩
 rw[vc]at al;refine⟨A,o7,o8,o9,o10,o11,S2,?_,mk,by nofun⟩;rw[sFor,zD2 ex (by nofun),Rs.then_ok];exact e2
def zXt{N w:Nat}{f a b t:Int}{A:List (Pt × D)}(h0:Deal S0 n m)(h:MkC n m S0 c A S)(hA:A.length<=N)(hN:N<=900)(ht:1<=t/\t<=3)(hw:w<=6):∃(A':List (Pt × D)) (p11:Option D) (S':Store),sFor (zBt (zA0 (eVar 12) aNil)) (gName 11) isQ (isE n P f a b t c o7 o8 o9 (some (natD x)) o11 (some (natD w)) (some (natD v))) S=.nx (isE n P f a b t c o7 o8 o9 (some (natD x)) p11 (some (natD w)) (some (natD v))) S'/\MkC n m S0 c A' S'/\A'.length<=N+6:=by
 obtain⟨env',S2,e2,A',p11,rfl,mk,al⟩:=zCb (h:=λi:Nat=>natD i) (g:=gName 11) (ys:=List.range w) (λZ env S'=>∃(A':List (Pt × D)) (p11:Option D),env=isE n P f a b t c o7 o8 o9 (some (natD x)) p11 (some (natD w)) (some (natD v))/\MkC n m S0 c A' S'/\A'.length<=N+Z.length) (λ_ _ _ _=>zAf) (λZ i R eq env S' hh=>by
  obtain⟨A,p11,rfl,mk,al⟩:=hh;have zl:Z.length<w:=by have:=congrArg List.length eq;rw[vc,xw,xB]at this;lia
  obtain⟨A',S3,e3,mk3,l3⟩:=yBl h0 mk al (by nofun) ht;exact⟨isE n P f a b t c o7 o8 o9 (some (natD x)) (some (natD i)) (some (natD w)) (some (natD v)),_,_,by simp_arith [xl],e3,A',_,rfl,mk3,by rw[xw,vL];lia⟩) (List.range w) [] (isE n P f a b t c o7 o8 o9 (some (natD x)) o11 (some (natD w)) (some (natD v))) S rfl ⟨A,o11,rfl,h,hA⟩
 rw[vc]at al;refine⟨A',p11,S2,?_,mk,by nofun⟩;rw[sFor,zJb rfl (by nofun),Rs.then_ok];exact e2
def yBk{v w:Nat}{f a b t:Int}(h0:Deal S0 n m)(h:MkC n m S0 c [] S)(ht:1<=t/\t<=3)(hw:w<=6)(hv:v<=6):∃(A':List (Pt × D)) (p10 p11:Option D) (S':Store),sFor (zBt (zA0 (eVar 13) aNil)) (gName 10) (sFor (zBt (zA0 (eVar 12) aNil)) (gName 11) isQ) (isE n P f a b t c none none none none none (some (natD w)) (some (natD v))) S=.nx (isE n P f a b t c none none none p10 p11 (some (natD w)) (some (natD v))) S'/\MkC n m S0 c A' S'/\A'.length<=1000:=by
 obtain⟨env',S2,e2,A',p10,p11,rfl,mk,al⟩:=zCb (h:=λi:Nat=>natD i) (g:=gName 10) (ys:=List.range v) (λZ env S'=>∃(A':List (Pt × D)) (p10 p11:Option D),env=isE n P f a b t c none none none p10 p11 (some (natD w)) (some (natD v))/\MkC n m S0 c A' S'/\A'.length<=Z.length*6) (λ_ _ _ _=>zAf) (λZ i R eq env S' hh=>by
  obtain⟨A,p10,p11,rfl,mk,al⟩:=hh;have zl:Z.length<v:=by have:=congrArg List.length eq;rw[vc,xw,xB]at this;lia
  obtain⟨A',q11,S3,e3,mk3,l3⟩:=zXt h0 mk al (by nofun) ht hw;exact⟨isE n P f a b t c none none none (some (natD i)) p11 (some (natD w)) (some (natD v)),_,_,by simp_arith [xl],e3,A',_,_,rfl,mk3,by rw[xw,vL];lia⟩) (List.range v) [] (isE n P f a b t c none none none none none (some (natD w)) (some (natD v))) S rfl ⟨[],none,none,rfl,h,xV _⟩
 rw[vc]at al;refine⟨A',p10,p11,S2,?_,mk,by nofun⟩;rw[sFor,zJb rfl (by nofun),Rs.then_ok];exact e2
def zJm{m:Nat}{P:List (List Pt)}(h:Deal S n m)(ne:P≠[])(pl:P.length<=1000)(rl:∀r∈P,r.length<=8):∃(I:List Pt) (S':Store),zBp [.ref n,zAe P] S=.ok (rowD I) S'/\I.length<=1000/\Deal S' n m/\Only n m S S':=by
 obtain⟨r,S1,e1,r0,r9,d1,o1⟩:=drawn (many:=3) (by decide) (by decide) h;obtain⟨f,f0,f9,ef⟩:=far3 (S:=S) r0 r9;obtain⟨x,S2,e2,_,_,d2,o2⟩:=drawn (many:=2*f+1) (by nofun) (by nofun) d1;obtain⟨y,S3,e3,_,_,d3,o3⟩:=drawn (many:=2*f+1) (by nofun) (by nofun) d2;obtain⟨t,S4,e4,t0,t9,d4,o4⟩:=drawn (many:=4) (by decide) (by decide) d3;have g4:Grow n m S S4:=(o1.trans (o2.trans (o3.trans o4))).grow;have mk0:=MkC.new h d4 g4;have m1:∀S,mulD S (.int 2) (.int f)=some (.int (2*f)):=λ_=>zEm ⟨zJ7 (by decide) (by decide),zJ7 (by nofun) (by nofun)⟩
 have x1:sSet 2 (eOp ixD (eLst (zA0 (eC (.int 0)) (zA0 (eC (.int 9)) (zA0 (eOp subD (eOp powD (eC (.int 10)) (eC (.int 18))) (eC (.int 2000))) aNil)))) (zAc zA3 (zA0 (eVar 0) (zA0 (eC (.int 3)) aNil)))) [some (.ref n),some (zAe P),none,none,none,none,none,none,none,none,none,none,none,none] S=.nx [some (.ref n),some (zAe P),some (.int f),none,none,none,none,none,none,none,none,none,none,none] S1:=by simp_arith [pow18,e1,ef]
 have x2:sPar [3,4] (zA0 (eOp subD (zAc zA3 (zA0 (eVar 0) (zA0 (eOp addD (eOp mulD (eC (.int 2)) (eVar 2)) (eC (.int 1))) aNil))) (eVar 2)) (zA0 (eOp subD (zAc zA3 (zA0 (eVar 0) (zA0 (eOp addD (eOp mulD (eC (.int 2)) (eVar 2)) (eC (.int 1))) aNil))) (eVar 2)) aNil)) [some (.ref n),some (zAe P),some (.int f),none,none,none,none,none,none,none,none,none,none,none] S1=.nx [some (.ref n),some (zAe P),some (.int f),some (.int (x-f)),some (.int (y-f)),none,none,none,none,none,none,none,none,none] S3:=by simp_arith [m1,e2,e3]
 have x3:sSet 5 (zAc zA3 (zA0 (eVar 0) (zA0 (eC (.int 4)) aNil))) [some (.ref n),some (zAe P),some (.int f),some (.int (x-f)),some (.int (y-f)),none,none,none,none,none,none,none,none,none] S3=.nx [some (.ref n),some (zAe P),some (.int f),some (.int (x-f)),some (.int (y-f)),some (.int t),none,none,none,none,none,none,none,none] S4:=by simp_arith [e4]
 have x4:sSet 6 (eNew (eDct true)) [some (.ref n),some (zAe P),some (.int f),some (.int (x-f)),some (.int (y-f)),some (.int t),none,none,none,none,none,none,none,none] S4=.nx (isE n P f (x-f) (y-f) t S4.length none none none none none none none) (S4++[dctC []]):=by simp_arith [eNew,eDct];rfl
 have tt:∀(S:Store),tB (eOp eqI (eVar 5) (eC (.int 0))) (isE n P f (x-f) (y-f) t S4.length none none none none none none none) S=.ok (decide (t=0)) S:=λS=>by simp_arith [eq_int]
 suffices hb:∃(A:List (Pt × D)) (S9:Store),zDc [some (.ref n),some (zAe P),none,none,none,none,none,none,none,none,none,none,none,none] S=.rt (rowD (sr (A.map Prod.fst))) S9/\MkC n m S S4.length A S9/\A.length<=1000 by
  obtain⟨A,S9,eb,mk,al⟩:=hb;obtain⟨S',e,d,o⟩:=zF6 (nl:=14) (ds:=[.ref n,zAe P]) rfl eb h mk.deal mk.grow (zC3 _);exact⟨_,S',e,by rw[(zCv _).len,xn];exact al,d,o⟩
 by_cases z:t=0
 ·obtain⟨A,o7,o8,o9,o10,o11,S5,e5,mk,al⟩:=yBo h mk0 ne pl rl;have re:=(zM1 (P:=P) (f:=f) (a:=x-f) (b:=y-f) (t:=0) (o7:=o7) (o8:=o8) (o9:=o9) (o10:=o10) (o11:=o11) (o12:=none) (o13:=none) mk al).1;subst z;exact⟨A,S5,zAa x1 (zAa x2 (zAa x3 (zAa x4 (zLj ((zEb (tt _)).trans (by rw[xf rfl];exact zAa e5 re)))))),mk,al⟩
 ·obtain⟨v,S5,e5,v1,d5,o5⟩:=zD3 (many:=6) (by decide) (by decide) mk0.deal;obtain⟨w,S6,e6,w1,d6,o6⟩:=zD3 (many:=6) (by decide) (by decide) d5;have e5:zA3 [.ref n,.int 6] (S4++[dctC []])=.ok (natD v) S5:=e5;have e6:zA3 [.ref n,.int 6] S5=.ok (natD w) S6:=e6;have mk6:=(mk0.draw h d5 o5).draw h d6 o6;obtain⟨v',hv⟩:∃v',v'=1+v:=⟨_,rfl⟩
  obtain⟨w',hw⟩:∃w',w'=1+w:=⟨_,rfl⟩
  obtain⟨A,p10,p11,S7,e7,mk,al⟩:=yBk (t:=t) (w:=v') (v:=w') h mk6 (by nofun) (by nofun) (by nofun);have re:=(zM1 (P:=P) (f:=f) (a:=x-f) (b:=y-f) (t:=t) (o7:=none) (o8:=none) (o9:=none) (o10:=p10) (o11:=p11) (o12:=some (natD v')) (o13:=some (natD w')) mk al).1;have ad1:D.int (1+(v:Int))=natD v':=by rw[hv];exact zD7
  have ad2:D.int (1+(w:Int))=natD w':=by rw[hw];exact zD7
  have x5:sPar [12,13] (zA0 (eOp addD (eC (.int 1)) (zAc zA3 (zA0 (eVar 0) (zA0 (eC (.int 6)) aNil)))) (zA0 (eOp addD (eC (.int 1)) (zAc zA3 (zA0 (eVar 0) (zA0 (eC (.int 6)) aNil)))) aNil)) (isE n P f (x-f) (y-f) t S4.length none none none none none none none) (S4++[dctC []])=.nx (isE n P f (x-f) (y-f) t S4.length none none none none none (some (natD v')) (some (natD w'))) S6:=by simp_arith [e5,e6,ad1,ad2]
  exact⟨A,S7,zAa x1 (zAa x2 (zAa x3 (zAa x4 (zAa ((zEb (tt _)).trans (by rw[xg z];rfl)) (zAa x5 (zAa e7 re)))))),mk,al⟩
def zM9{k:Nat}:∀{P:List (List Pt)},(∀r∈P,r.length<=k)->P.flatten.length<=P.length*k
 | [],_=>xV _
 | r::P,h=>by
  have h1:=h r (.head _);have h2:=zM9 (P:=P) λq hq=>h q (.tail _ hq)
  rw[yL,xw,xB,Nat.succ_mul];lia
def Pln.fl{n k:Nat}{w:Int}{P:List (List Pt)}(h:Pln n w P)(hk:2 ^ n+12<=k)(hn:k*n<=1000)(k9:k<=1000):P.flatten.length<=1000/\P.length<=1000:=by
 have h1:=zM9 (P:=P) (k:=n) λr hr=>(h.row r hr).2.1
 have h2:=Nat.mul_le_mul_right n (xm h.len hk);have h3:=h.len;exact⟨by nofun,by nofun⟩
def at2{r:Int}(h0:0<=r)(h9:r<2):∃a b:Int,atL [D.tup [.int 0,.int 0],.tup [.int (1000000000000000000-2000),.int (2000-1000000000000000000)]] r=some (.tup [.int a,.int b]):=by
 rcases(by nofun:r=0\/r=1)with rfl|rfl
 ·exact⟨0,0,rfl⟩
 ·exact⟨_,_,rfl⟩
noncomputable abbrev grP:EM:=(zAn 1 [1,2,3,5] (zBt (zA0 (eOp mulD (eVar 3) (eVar 4)) aNil)) (gName 0) (tB (eOp gtD (eOp modD (eVar 0) (eVar 4)) (eC (.int 0)))) (eTup (zA0 (eOp addD (eVar 1) (eOp zH2 (eVar 0) (eVar 3))) (zA0 (eOp addD (eVar 2) (eOp modD (eVar 0) (eVar 3))) aNil))))
def yBw{n h w k:Nat}{a b:Int}(hh:1<=h/\h<=20)(hw:1<=w/\w<=20)(hk:1<=k/\k<=100):∃I:List Pt,grP [some (.ref n),some (.int a),some (.int b),some (natD h),some (natD w),some (natD k),none,none] S=.ok (.lst (I.map cel)) S/\I.length<=1000:=by
 have hm:h*w<=20*20:=Nat.mul_le_mul hh.2 hw.2;have m1:mulD S (natD h) (natD w)=some (natD (h*w)):=by rw[zEm ⟨zJ7 (by nofun) (by nofun),zJ7 (by nofun) (by nofun)⟩];show some (D.int _)=some (D.int _);rw[Int.natCast_mul]
 have ex:eOp mulD (eVar 3) (eVar 4) [some (.ref n),some (.int a),some (.int b),some (natD h),some (natD w),some (natD k),none,none] S=.ok (natD (h*w)) S:=by rw[eOp,show eVar 3 [some (.ref n),some (.int a),some (.int b),some (natD h),some (natD w),some (natD k),none,none] S=.ok (natD h) S from rfl,Rs.bind_ok,show eVar 4 [some (.ref n),some (.int a),some (.int b),some (natD h),some (natD w),some (natD k),none,none] S=.ok (natD w) S from rfl,Rs.bind_ok,m1];rfl
 refine⟨((List.range (h*w)).filter fun(i:Nat)=>decide ((0:Int)<(i:Int) % (k:Int))).map fun(i:Nat)=>(a+(i:Int).fdiv (h:Int),b+(i:Int) % (h:Int)),?_,?_⟩
 ·rw[xH];refine zIq (xs:=List.range (h*w)) (h:=λi:Nat=>natD i) (gd:=[]) (λenv=>∃o,env=[o,some (.int a),some (.int b),some (natD h),some (natD k)]) (zD2 ex (by nofun)) zAf ⟨none,rfl⟩ (by rw[vc];exact xm hm (by decide)) ?_;rintro i hi env ⟨o,rfl⟩;have e1:modD S (natD i) (natD k)=some (.int ((i:Int) % (k:Int))):=zC8 (by nofun);have e2:modD S (natD i) (natD h)=some (.int ((i:Int) % (h:Int))):=zC8 (by nofun);have e3:zH2 S (natD i) (natD h)=some (.int ((i:Int).fdiv (h:Int))):=zKy (by nofun) (zJ7 (by nofun) (by nofun));refine⟨[some (natD i),some (.int a),some (.int b),some (natD h),some (natD k)],by simp_arith [xl],⟨_,rfl⟩,by simp_arith [e1,gt_int],λ_=>by simp_arith [e2,e3];rfl⟩
 ·rw[xn];have:=uG (λi:Nat=>decide ((0:Int)<(i:Int) % (k:Int))) (List.range (h*w));rw[vc]at this;lia
noncomputable abbrev grR:EM:=(zAn 1 [0] (zBt (zA0 (eOp addD (eC (.int 1)) (zAc zA3 (zA0 (eVar 0) (zA0 (eC (.int 2)) aNil)))) aNil)) (gName 0) tYes (eCB zAz (zA0 (eCB zBr (zA0 (zAc zB0 (zA0 (eVar 1) (zA0 (eC (.int 2)) (zA0 (eC (.int 3)) aNil)))) aNil)) aNil)))
def yBv{m:Nat}(he:env[0]?=some (some (.ref n)))(h:Deal S n m):∃(rows:List (List Pt)) (S':Store),grR env S=.ok (.lst (rows.map rowD)) S'/\rows≠[]/\rows.length<=12/\(∀r∈rows,r≠[]/\r.length<=2/\r.Nodup/\∀c∈r,Wd 3 c)/\Deal S' n m/\Only n m S S':=by
 obtain⟨k,S1,e1,k1,d1,o1⟩:=zD3 (many:=2) (by decide) (by decide) h;have e1:zA3 [.ref n,.int 2] S=.ok (natD k) S1:=e1;have v0:eVar 0 env S=.ok (.ref n) S:=by rw[eVar,he]
 have ex:eOp addD (eC (.int 1)) (zAc zA3 (zA0 (eVar 0) (zA0 (eC (.int 2)) aNil))) env S=.ok (.int ((1+k:Nat):Int)) S1:=plus1 (by
  rw[zAc,zA0,v0,Rs.bind_ok,zA0,eC,Rs.bind_ok,aNil,Rs.bind_ok,Rs.bind_ok,Rs.bind_ok,e1])
 obtain⟨rows,S',e2,l2,p2,j2⟩:=zY8 (own:=1) (ix:=[0]) (g:=gName 0) (e:=eCB zAz (zA0 (eCB zBr (zA0 (zAc zB0 (zA0 (eVar 1) (zA0 (eC (.int 2)) (zA0 (eC (.int 3)) aNil)))) aNil)) aNil)) (env:=env) (xs:=List.range (1+k)) (h:=λi:Nat=>natD i) (k:=rowD) (gd:=[]) (λenv=>∃o,env=[o,some (.ref n)]) (λS'=>Deal S' n m/\Only n m S S') (λr=>r≠[]/\r.length<=2/\r.Nodup/\∀c∈r,Wd 3 c) (zD2 ex (by nofun)) (λ_ _=>zAf) ⟨none,by
  show [none]++[0].map (λi=>(env[i]?).join)=_;simp[he]⟩ ⟨d1,o1⟩ (by rw[vc];exact xm (show 1+k<=3 by nofun) (by decide)) (by
  rintro i hi env S2 ⟨o,rfl⟩ ⟨d2,o2⟩;obtain⟨cs,S3,e3,cl,nd,wd,d3,o3⟩:=zMi (many:=2) (w:=3) d2 (by decide) (by decide);have e3:zB0 [.ref n,.int 2,.int 3] S2=.ok (.lst (cs.map cel)) S3:=e3;refine⟨[some (natD i),some (.ref n)],sr cs,S3,by simp_arith [xl],⟨_,rfl⟩,?_,⟨λy=>?_,?_,(zCv cs).nd nd,λc hc=>wd c (((zCv cs).mem c).mp hc)⟩,d3,o2.trans o3⟩
  ·have so:=zHq (S:=S3) (r:=cs) (by nofun);simp_arith [e3,so,zEy]
  ·have:=(zCv cs).len;rw[y,cl]at this;exact nomatch this
  ·rw[(zCv cs).len,cl];exact xi _)
 rw[vc]at l2;exact⟨rows,S',e2,λy=>by rw[y]at l2;simp at l2;lia,by nofun,p2,j2.1,j2.2⟩
def zVx{r:List Pt}(h:r.length<=63):zBr S [rowD r]=some (.lst ((sr r).map cel)):=zDh rfl (by nofun)
def zTj{m:Nat}(h:Deal S n m):∃(Q:List (List Pt)) (I:List Pt) (S':Store),zCt [.ref n] S=.ok (.tup [zAe Q,rowD I]) S'/\Pln 2 3 Q/\I.length<=1000/\Deal S' n m/\Only n m S S':=by
 obtain⟨r,S1,e1,r0,r9,d1,o1⟩:=drawn (many:=2) (by decide) (by decide) h;obtain⟨a,b,eab⟩:=at2 r0 r9;obtain⟨x,S2,e2,x9,d2,o2⟩:=zD3 (many:=9) (by decide) (by decide) d1;obtain⟨y,S3,e3,y9,d3,o3⟩:=zD3 (many:=9) (by decide) (by decide) d2;obtain⟨z,S4,e4,z9,d4,o4⟩:=zD3 (many:=90) (by decide) (by decide) d3;have e2:zA3 [.ref n,.int 9] S1=.ok (natD x) S2:=e2;have e3:zA3 [.ref n,.int 9] S2=.ok (natD y) S3:=e3;have e4:zA3 [.ref n,.int 90] S3=.ok (natD z) S4:=e4;obtain⟨x',hx⟩:∃v,v=12+x:=⟨_,rfl⟩
 obtain⟨y',hy⟩:∃v,v=12+y:=⟨_,rfl⟩
 obtain⟨z',hz⟩:∃v,v=2+z:=⟨_,rfl⟩
 have ax:D.int (12+(x:Int))=natD x':=by rw[hx];exact zD7 (a:=12)
 have ay:D.int (12+(y:Int))=natD y':=by rw[hy];exact zD7 (a:=12)
 have az:D.int (2+(z:Int))=natD z':=by rw[hz];exact zD7 (a:=2)
 obtain⟨I,eI,lI⟩:=yBw (S:=S4) (n:=n) (a:=a) (b:=b) (h:=x') (w:=y') (k:=z') (by nofun) (by nofun) (by nofun);obtain⟨rows,S5,e5,ne5,l5,p5,d5,o5⟩:=yBv (env:=[some (.ref n),some (.int a),some (.int b),some (natD x'),some (natD y'),some (natD z'),some (.lst (I.map cel)),none]) rfl d4;obtain⟨Q,eQ,hQ⟩:=zLv (S0:=S5) (v:=.lst (rows.map rowD)) (rows:=rows) (gd:=[]) (hD:=rowD) (n:=2) (w:=3) (λS r hr=>zVx hr) rfl zAf l5 ne5 (by decide) p5;have o:Only n m S S5:=o1.trans (o2.trans (o3.trans (o4.trans o5)));refine⟨Q,I,S5,zNp (np:=1) (nl:=8) (b:=zDo) (ds:=[.ref n]) rfl ?_ h d5 o ?_,hQ,lI,d5,o⟩
 ·refine zAa (by simp_arith [pow18,e1,eab] <;> rfl) (zAa (by simp_arith [e2,e3,e4,ax,ay,az] <;> rfl) (zAa (e:=[some (.ref n),some (.int a),some (.int b),some (natD x'),some (natD y'),some (natD z'),some (.lst (I.map cel)),none]) (S1:=S4) ?_ (zAa (e:=[some (.ref n),some (.int a),some (.int b),some (natD x'),some (natD y'),some (natD z'),some (.lst (I.map cel)),some (.lst (rows.map rowD))]) (S1:=S5) ?_ ?_)))
  ·show sSet 6 grP _ _=_;rw[sSet,eI];rfl
  ·show sSet 7 grR _ _=_;rw[sSet,e5];rfl
  ·simp_arith [eQ,zEy]
 ·show((zAe Q).low S.length && ((rowD I).low S.length && true))=true;rw[show(zAe Q).low S.length=true from zFs Q,show(rowD I).low S.length=true from zC3 I];rfl
def zY2 :fin [] (.bl v) S=.ok (.bl v) []:=by unfold fin;rw[xf (show keeps ([]:Store).length [] S from trivial),xf (show(D.bl v).low ([]:Store).length=true from rfl)];rfl
def zYh:zCm=zIx 2 5 zR8:=rfl
def w5{r:Int}(h0:0<=r)(h9:r<5):∃f:Int,(1<=f/\f<=1000)/\atL [D.int 2,.int 3,.int 2,.int 3,.int 1000] r=some (.int f):=by
 rcases(by nofun:r=0\/r=1\/r=2\/r=3\/r=4)with rfl|rfl|rfl|rfl|rfl
 ·exact⟨2,by decide,rfl⟩
 ·exact⟨3,by decide,rfl⟩
 ·exact⟨2,by decide,rfl⟩
 ·exact⟨3,by decide,rfl⟩
 ·exact⟨1000,by decide,rfl⟩
noncomputable abbrev lwB:SM:=(sIf (tNot (tTru (zAc zAs (zA0 (eVar 7) (zA0 (eVar 8) aNil))))) (sRet (eC (.bl false))) zBs)
noncomputable abbrev lwI:EM:=(eTup (zA0 (eTup (zA0 (eVar 2) (zA0 (eVar 3) aNil))) (zA0 (eTup (zA0 (eVar 5) (zA0 (eVar 3) aNil))) (zA0 (eTup (zA0 (eVar 2) (zA0 (eVar 6) aNil))) (zA0 (eTup (zA0 (eVar 2) (zA0 (eTup aNil) aNil))) (zA0 (eTup (zA0 (eVar 2) (zA0 (eVar 3) aNil))) aNil))))))
abbrev prD(p:List (List Pt) × List Pt):D:=.tup [zAe p.1,rowD p.2]
def yD0{w:Int}{P Q:List (List Pt)}{I J:List Pt}(hP:P.flatten.length<=1000/\P.length<=1000)(hQ:Q.flatten.length<=1000/\Q.length<=1000)(hI:I.length<=1000)(hJ:J.length<=1000):∃o7 o8,sFor (iVal lwI) (gTup [(gName 7),(gName 8)]) lwB [some v,some (.ref 0),some (zAe P),some (rowD I),some (.int w),some (zAe Q),some (rowD J),none,none] S=.nx [some v,some (.ref 0),some (zAe P),some (rowD I),some (.int w),some (zAe Q),some (rowD J),o7,o8] S:=by
 obtain⟨env',S',e,o7,o8,rfl,rfl⟩:=zCb (h:=prD) (gd:=[]) (g:=gTup [(gName 7),(gName 8)]) (b:=lwB) (ys:=[(P,I),(Q,I),(P,J),(P,[]),(P,I)]) (λZ env S'=>∃o7 o8,env=[some v,some (.ref 0),some (zAe P),some (rowD I),some (.int w),some (zAe Q),some (rowD J),o7,o8]/\S'=S) (λ_ _ _ _=>zAf) (λZ q R eq env S' hh=>by
  obtain⟨o7,o8,rfl,rfl⟩:=hh;have mq:q∈[(P,I),(Q,I),(P,J),(P,[]),(P,I)]:=by rw[eq];simp
  have ok:q.1.flatten.length<=1000/\q.1.length<=1000/\q.2.length<=1000:=by
   simp only[xp,uV,or_false]at mq;rcases mq with rfl|rfl|rfl|rfl|rfl
   ·exact⟨hP.1,hP.2,hI⟩
   ·exact⟨hQ.1,hQ.2,hI⟩
   ·exact⟨hP.1,hP.2,hJ⟩
   ·exact⟨hP.1,hP.2,xV _⟩
   ·exact⟨hP.1,hP.2,hI⟩
  refine⟨[some v,some (.ref 0),some (zAe P),some (rowD I),some (.int w),some (zAe Q),some (rowD J),some (zAe q.1),some (rowD q.2)],[some v,some (.ref 0),some (zAe P),some (rowD I),some (.int w),some (zAe Q),some (rowD J),some (zAe q.1),some (rowD q.2)],S',by simp_arith [xl],yBq ?_ rfl,_,_,rfl,rfl⟩;simp_arith [tTru,zHx ok.1 ok.2.1 ok.2.2,tru]) [(P,I),(Q,I),(P,J),(P,[]),(P,I)] [] [some v,some (.ref 0),some (zAe P),some (rowD I),some (.int w),some (zAe Q),some (rowD J),none,none] S rfl ⟨_,_,rfl,rfl⟩
 refine⟨o7,o8,?_⟩;have wk:iVal lwI [some v,some (.ref 0),some (zAe P),some (rowD I),some (.int w),some (zAe Q),some (rowD J),none,none] S'=.ok ⟨[(P,I),(Q,I),(P,J),(P,[]),(P,I)].map prD,[]⟩ S':=zBo rfl;rw[sFor,wk,Rs.then_ok];exact e
def law_ok(ns:List Int)(hn:ns.length<=63):∃S,zNc [.klst (ns.map .int)] []=.ok (.bl true) S:=by
 obtain⟨S1,e1,d1,_,_⟩:=zTw (S:=[]) hn;rw[<- zYh]at e1;obtain⟨r,S2,e2,_,_,d2,o2⟩:=drawn (n:=0) (m:=1) (many:=6) (by decide) (by decide) d1;generalize D.klst (ns.map .int)=v at e1;refine⟨[],?_⟩;unfold zNc zB9;rw[xf (show [v].length=1 from rfl)]
 suffices hb':∃S9,zYx ([v].map some++List.replicate (9-1) none) []=.rt (.bl true) S9 by
  obtain⟨S9,hb'⟩:=hb';rw[hb'];exact zY2
 have x1:sSet 1 (zAc zCm (zA0 (eVar 0) (zA0 (eC (.int 0)) aNil))) ([v].map some++List.replicate (9-1) none) []=.nx [some v,some (.ref 0),none,none,none,none,none,none,none] S1:=by simp_arith [e1]
 have t:tB (eOp eqI (zAc zA3 (zA0 (eVar 1) (zA0 (eC (.int 6)) aNil))) (eC (.int 0))) [some v,some (.ref 0),none,none,none,none,none,none,none] S1=.ok (decide (r=0)) S2:=by simp_arith [e2,eq_int]
 by_cases z:r=0
 ·obtain⟨Q,I,S3,e3,hQ,hI,d3,o3⟩:=zTj d2;obtain⟨f1,f2⟩:=hQ.fl (k:=16) (by decide) (by decide) (by decide);have ri:=fun(S:Store)=>zHx (S:=S) f1 f2 hI
  have rj:=fun(S:Store)=>zHx (S:=S) f1 f2 (I:=cutL I none (some 99)) (xm zQs hI)
  have sl:=fun(S:Store)=>zUg (S:=S) (r:=I) (lo:=none) (hi:=some 99)
  refine⟨S3,zAa x1 (zLj ((zTe t).trans ?_))⟩;rw[xx z,xf rfl];refine zAa (by simp_arith [e3] <;> rfl) ?_;have a1:zAc zAs (zA0 (eVar 2) (zA0 (eVar 3) aNil)) [some v,some (.ref 0),some (zAe Q),some (rowD I),none,none,none,none,none] S3=.ok (.bl true) S3:=by simp_arith [ri]
  have a2:zAc zAs (zA0 (eVar 2) (zA0 (eSl slD (eVar 3) pNo (pYes (eC (.int 99)))) aNil)) [some v,some (.ref 0),some (zAe Q),some (rowD I),none,none,none,none,none] S3=.ok (.bl true) S3:=by simp_arith [sl,rj]
  simp only[sRet,eAnd,a1,a2,Rs.bind_ok,asB,zAk,xl,Rs.then_ok]
 ·obtain⟨q,S3,e3,q0,q9,d3,o3⟩:=drawn (many:=5) (by decide) (by decide) d2;obtain⟨w,hw,ew⟩:=w5 q0 q9;obtain⟨P,S4,e4,hP,d4,o4⟩:=zLo (mo:=6) d3 (by decide) hw;obtain⟨Q,S5,e5,hQ,d5,o5⟩:=zLo (mo:=4) (w:=2) d4 (by decide) (by decide);have e4:zB7 [.ref 0,.int 6,.int w] S3=.ok (zAe P) S4:=e4;have e5:zB7 [.ref 0,.int 4,.int 2] S4=.ok (zAe Q) S5:=e5;have fP:=hP.fl (k:=76) (by decide) (by decide) (by decide);have fQ:=hQ.fl (k:=28) (by decide) (by decide) (by decide);obtain⟨I,S6,e6,hI,d6,o6⟩:=zJm (P:=P) d5 hP.ne fP.2 λr hr=>xm (hP.row r hr).2.1 (by decide)
  obtain⟨J,S7,e7,hJ,d7,o7⟩:=zJm (P:=Q) d6 hQ.ne fQ.2 λr hr=>xm (hQ.row r hr).2.1 (by decide)
  obtain⟨o7,o8,x8⟩:=yD0 (S:=S7) (v:=v) (w:=w) fP fQ hI hJ;refine⟨S7,zAa x1 (zAa (e:=[some v,some (.ref 0),none,none,none,none,none,none,none]) (S1:=S2) ((zTe t).trans ?_) (zAa (by simp_arith [e3,ew] <;> rfl) (zAa (by simp_arith [e4,e5] <;> rfl) (zAa (by simp_arith [e6,e7] <;> rfl) (zAa x8 (by simp_arith [xl]))))))⟩;rw[xC z,xg (by decide)];rfl
end
end DP
namespace Law
open PySem PySem.Spec PyProof.Rows L2
noncomputable abbrev n_0:List Str:=["plain","island","bits","masks","around","known","mask"]
abbrev n_1:List Str:=["cell","known","around"]
noncomputable abbrev n_2:List Str:=["_law_script","_law_base","_law_cells_here","_law_number","_law_cell"]
noncomputable abbrev n_3:List Str:=["_law_deal_here","_law_many","_law_wide","_law_side","_law_taken","_law_k","_law_number"]
abbrev n_4:List Str:=["_law_number","_law_wide","_law_side"]
abbrev n_5:List Str:=["_law_rows","_law_unlike","_law_found","_law_row"]
noncomputable abbrev n_6:List Str:=["_law_deal_here","_law_most","_law_wide","_law_form","_law_cells_here","_law_masks","_law_many","_law_k","_law_rows","_law_mask","_law_row"]
abbrev n_7:List Str:=["_law_at","_law_cell","_law_mask"]
noncomputable abbrev n_8:List Str:=["_law_plain_here","_law_broken","_law_i","_law_j","_law_row"]
abbrev n_9:List Str:=["_law_broken","_law_i","_law_j"]
abbrev n_10:List Str:=["_law_x","_law_y","_law_broken","_law_i","_law_j"]
noncomputable abbrev n_11:List Str:=["_law_plain_here","_law_island_here","_law_broken","_law_cells_here","_law_row","_law_found","_law_x","_law_y","_law_i","_law_j","_law_place"]
abbrev n_12:List Str:=["_law_plain_here","_law_island_here","_law_found"]
noncomputable abbrev n_13:List Str:=["_law_deal_here","_law_i","_law_j","_law_tall","_law_long","_law_gap","_law_places","_law_rows"]
abbrev n_14:List Str:=["_law_i","_law_j","_law_tall","_law_gap"]
abbrev n_15:List Str:=["_law_k","_law_i","_law_j","_law_tall","_law_gap"]
abbrev n_16:List Str:=["_law_plain_here","_law_broken","_law_i","_law_j"]
abbrev n_17:List Str:=["_law_deal_here","_law_many","_law_wide"]
abbrev n_18:List Str:=["_law_deal_here","_law_most","_law_wide"]
abbrev n_19:List Str:=["rows","bits","bit","row","cell"]
abbrev n_20:List Str:=["row","bits","mask","cell"]
noncomputable abbrev n_21:List Str:=["bits","island","around","beside","bit","broken","cell"]
noncomputable abbrev n_22:List Str:=["_law_deal_here","_law_many","_law_number","_law_one","_law_other"]
noncomputable abbrev n_23:List Str:=["_law_deal_here","_law_plain_here","_law_far","_law_i","_law_j","_law_kind","_law_found","_law_k","_law_row","_law_place","_law_x","_law_y","_law_tall","_law_long"]
noncomputable abbrev n_24:List Str:=["_law_script","_law_deal_here","_law_plain_here","_law_island_here","_law_wide","_law_other","_law_more","_law_one","_law_some"]
noncomputable def top (i:Nat):Stmt:=PySem.Challenge.pw_healfloor_k45_a_beat.main.body.getD i (.Pass ⟨0,0,0,0⟩)
structure Txt (K:PySem.W.Frag) (mg:Str->Option Value):Prop where
 b_all:mg "all"=none
 b_any:mg "any"=none
 b_bool:mg "bool"=none
 b_dict:mg "dict"=none
 b_enumerate:mg "enumerate"=none
 b_int:mg "int"=none
 b_isinstance:mg "isinstance"=none
 b_len:mg "len"=none
 b_list:mg "list"=none
 b_max:mg "max"=none
 b_range:mg "range"=none
 b_reversed:mg "reversed"=none
 b_set:mg "set"=none
 b_sorted:mg "sorted"=none
 b_tuple:mg "tuple"=none
section
variable (P:Program) (w:World) (K:PySem.W.Frag) (mg:Str->Option Value) (base:Heap)
abbrev zKc:Prop:=Cal P w K mg base "bits_of" 1 ["rows"] (spOf K XE0 DP.zEp)
noncomputable abbrev zKb:Prop:=Cal P w K mg base "mask_of" 1 ["row","bits"] (spOf K XE0 DP.zDk)
noncomputable abbrev zFg:Prop:=Cal P w K mg base "has_within" 1 ["mask","others"] (spOf K XE0 DP.zC4)
noncomputable abbrev zE9:Prop:=Cal P w K mg base "masks_around" 1 ["bits","island"] (spOf K XE0 DP.zBz)
noncomputable abbrev zGx:Prop:=Cal P w K mg base "_law_deal" 1 ["_law_script","_law_base"] (spOf K XE0 DP.zCm)
noncomputable abbrev zBw:Prop:=Cal P w K mg base "_law_draw" 1 ["_law_deal_here","_law_many"] (spOf K XE0 DP.zA3)
noncomputable abbrev zFh:Prop:=Cal P w K mg base "_law_whole" 1 ["_law_number"] (spOf K XE0 DP.zB6)
noncomputable abbrev zDq:Prop:=Cal P w K mg base "_law_least" 1 ["_law_rows"] (spOf K XE0 DP.zB8)
abbrev zEx:Prop:=Cal P w K mg base "_law_breaks" 1 n_16 (spOf K XE0 DP.zB3)
noncomputable abbrev zHl:Prop:=Cal P w K mg base "masks_of" 2 ["rows","bits"] (spOf K XE0 DP.zDy)
abbrev zDr:Prop:=Cal P w K mg base "_law_cells" 2 n_17 (spOf K XE0 DP.zB0)
noncomputable abbrev zEw:Prop:=Cal P w K mg base "_law_island" 2 ["_law_deal_here","_law_plain_here"] (spOf K XE0 DP.zBp)
noncomputable abbrev zEa:Prop:=Cal P w K mg base "_law_stepped" 2 ["_law_plain_here","_law_island_here"] (spOf K XE0 DP.zBd)
noncomputable abbrev zVl:Prop:=Cal P w K mg base "beat" 3 ["plain","island"] (spOf K XE0 DP.zJn)
abbrev zFj:Prop:=Cal P w K mg base "_law_plain" 3 n_18 (spOf K XE0 DP.zB7)
noncomputable abbrev zFk:Prop:=Cal P w K mg base "_law_great" 3 ["_law_deal_here"] (spOf K XE0 DP.zCt)
noncomputable abbrev zFi:Prop:=Cal P w K mg base "_law_right" 4 ["_law_plain_here","_law_island_here"] (spOf K XE0 DP.zAs)
end
section
variable {P:Program}{w:World}{K:PySem.W.Frag}{mg:Str->Option Value}{base:Heap}
abbrev zEi:Stmt:=top 1
def sc_bits_of:zAv n_19 ["rows"] (zA7 zEi):=⟨rfl,rfl,rfl,by decide +kernel,rfl,by decide +kernel,by decide +kernel⟩
def zN1{f:Addr}{fd:FuncData}(F:Fun K "bits_of" "bits_of" zEi f fd)(T:Txt K mg):FnOk P w K mg base CX0 1 f fd ["rows"] (spOf K XE0 DP.zEp):=by
 refine fn_d (k:=0) (b:=DP.zK9) F sc_bits_of rfl rfl λcdv A outer s H E hr=>?_
 have hu:=zDg hr;have hu64:=hr.units;have hu1:=hr.units0;have nd:=sc_bits_of.nd;exact(zA5 (zAg (j:=1) nd rfl (by trivial) (zDf zIs))
   (zA5 (zAg (j:=2) nd rfl (by trivial) zA6)
   (zA5 (zAy xT rfl (zB1 (zA2 0)) (zA9 (j:=3) nd rfl (by trivial)) (zA8 (zAy xT rfl (zB1 (zA2 3)) (zA9 (j:=4) nd rfl (by trivial)) (zA8 (zCu (zBj (zEl hu64) (zA2 4) (zA2 1) (by with_unfolding_all rfl)) (zA5 (zD9 (zMv hu) (zA2 1) (zA2 4) (zA2 2))
   (zA8 (zAg (j:=2) nd rfl (by trivial) (zAd zAj (zA2 2) (zA2 2))))) zBq)))))
   (zA8 (zAq (zA2 1))))))
abbrev zEh:Stmt:=top 2
def sc_mask_of:zAv n_20 ["row","bits"] (zA7 zEh):=⟨rfl,rfl,rfl,by decide +kernel,rfl,by decide +kernel,by decide +kernel⟩
def zN0{f:Addr}{fd:FuncData}(F:Fun K "mask_of" "mask_of" zEh f fd)(T:Txt K mg):FnOk P w K mg base CX0 1 f fd ["row","bits"] (spOf K XE0 DP.zDk):=by
 refine fn_d (k:=0) (b:=DP.zK8) F sc_mask_of rfl rfl λcdv A outer s H E hr=>?_
 have hu:=zDg hr;have hu64:=hr.units;have hu1:=hr.units0;have nd:=sc_mask_of.nd;exact(zA5 (zAg (j:=2) nd rfl (by trivial) zA6)
   (zA5 (zAy xT rfl (zB1 (zA2 0)) (zA9 (j:=3) nd rfl (by trivial)) (zA8 (zAg (j:=2) nd rfl (by trivial) (zAd zUq (zA2 2) (zC5 (ix_D hu) (zA2 1) (zA2 3))))))
   (zA8 (zAq (zA2 2)))))
abbrev zC0:Stmt:=top 4
def sc_has_within:zAv ["mask","others"] ["mask","others"] (zA7 zC0):=⟨rfl,rfl,rfl,by decide +kernel,rfl,by decide +kernel,by decide +kernel⟩
def zI5{f:Addr}{fd:FuncData}(F:Fun K "has_within" "has_within" zC0 f fd)(T:Txt K mg):FnOk P w K mg base CX0 1 f fd ["mask","others"] (spOf K XE0 DP.zC4):=by
 refine fn_d (k:=0) (b:=DP.zFd) F sc_has_within rfl rfl λcdv A outer s H E hr=>?_
 have hu:=zDg hr;have hu64:=hr.units;have hu1:=hr.units0;have nd:=sc_has_within.nd;exact(zA8 (zAq (zE0 (zHj rfl) rfl T.b_any PyProof.Rows.boot_any (zA1 (zBg (zBv rfl (CompScope.mk' (sc:=zA7 zC0) (N:=["mask","others"]) (own:=["other"]) (fre:=["mask"]) (ix:=[0]) rfl rfl (by decide +kernel)) (zB1 (zA2 1)) (λcl C s0 H0 fp=>(zA9 (j:=0) (show List.Nodup (["other","mask"]:List Str) by decide +kernel) rfl (Or.inl rfl) (Or.inr rfl))) (λcl C s0 H0 fp=>zC9) (λcl C s0 H0 fp=>(zHf zE2 (zAd zP7 (zA2 0) (zA2 1)) (zA2 0) (nomark _))))) zA4))))
abbrev zBy:Stmt:=top 7
def sc_masks_around:zAv n_21 ["bits","island"] (zA7 zBy):=⟨rfl,rfl,rfl,by decide +kernel,rfl,by decide +kernel,by decide +kernel⟩
def zG8{f:Addr}{fd:FuncData}(F:Fun K "masks_around" "masks_around" zBy f fd)(T:Txt K mg):FnOk P w K mg base CX0 1 f fd ["bits","island"] (spOf K XE0 DP.zBz):=by
 refine fn_d (k:=0) (b:=DP.zE7) F sc_masks_around rfl rfl λcdv A outer s H E hr=>?_
 have hu:=zDg hr;have hu64:=hr.units;have hu1:=hr.units0;have nd:=sc_masks_around.nd;exact(zA5 (zAg (j:=2) nd rfl (by trivial) (zDf zIs))
   (zA5 (zAy xT rfl (zTt (zA2 0)) (zE3 rfl (zAo (zA9 (j:=3) nd rfl (by trivial)) (zAo (zA9 (j:=4) nd rfl (by trivial)) zCx))) (zA8 (zAy xT rfl (zB1 (zA2 1)) (zA9 (j:=5) nd rfl (by trivial)) (zA5 (zAg (j:=6) nd rfl (by trivial) (zBk (zA1 (zAd zBf (zC5 (ix_D hu) (zA2 5) zA6) (zC5 (ix_D hu) (zA2 3) zA6)) (zA1 (zAd zBf (zC5 (ix_D hu) (zA2 5) zA6) (zC5 (ix_D hu) (zA2 3) zA6)) zA4))))
   (zA8 (zD9 (zMv hu) (zA2 2) (zA2 6) (zAd zUq (zNi PySem.F.plainAttrs_dict PySem.F.slot_dict_get PySem.F.type_dict_get (zXc hu) (.inr (.inr rfl)) (zA2 2) (zA1 (zA2 6) (zA1 zA6 zA4))) (zA2 4))))))))
   (zA8 (zAq (zA2 2)))))
abbrev zBu:Stmt:=top 9
def sc__law_deal:zAv n_2 ["_law_script","_law_base"] (zA7 zBu):=⟨rfl,rfl,rfl,by decide +kernel,rfl,by decide +kernel,by decide +kernel⟩
def zJg{f:Addr}{fd:FuncData}(F:Fun K "_law_deal" "_law_deal" zBu f fd)(T:Txt K mg):FnOk P w K mg base CX0 1 f fd ["_law_script","_law_base"] (spOf K XE0 DP.zCm):=by
 refine fn_r (k:=0) (b:=DP.zGu) F sc__law_deal rfl rfl λcdv A outer s H E hr=>?_
 have hu:=zDg hr;have hu64:=hr.units;have hu1:=hr.units0;have nd:=sc__law_deal.nd;exact(zA5 (zG0 (j:=2) nd rfl (by trivial) rfl (CompScope.mk' (sc:=zA7 zBu) (N:=n_2) (own:=["_law_cell"]) (fre:=[]) (ix:=[]) rfl rfl (by decide +kernel)) (zB1 (zYi sl_D (zA2 0) (zMe (zA2 1)) (zMe zA6))) (λcl C s0 H0 fp=>(zA9 (j:=0) (show List.Nodup (["_law_cell"]:List Str) by decide +kernel) rfl (Or.inl rfl) (Or.inr rfl))) (λcl C s0 H0 fp=>zC9) (λcl C s0 H0 fp=>(zE0 (zNm rfl) rfl T.b_max PyProof.Rows.boot_max (zA1 (zA2 0) (zA1 (zAd zBf zA6 (zA2 0)) zA4)))))
   (zA5 (zAg (j:=3) nd rfl (by trivial) (zAd zAj zA6 (zA2 1)))
   (zA5 (zAy xT rfl (zB1 (zA2 2)) (zA9 (j:=4) nd rfl (by trivial)) (zA8 (zAg (j:=3) nd rfl (by trivial) (zAd zC7 (zAd zAj (zAd zC6 (zA2 3) zA6) (zAd zC7 (zA2 4) zA6)) zA6))))
   (zA8 (zAq (zYj (zIr (zA2 3) (zIr zA6 (zIr (zDf (zNh rfl (zBg (zBv rfl (CompScope.mk' (sc:=zA7 zBu) (N:=n_2) (own:=["_law_cell"]) (fre:=[]) (ix:=[]) rfl rfl (by decide +kernel)) (zB1 (zA2 2)) (λcl C s0 H0 fp=>(zA9 (j:=0) (show List.Nodup (["_law_cell"]:List Str) by decide +kernel) rfl (Or.inl rfl) (Or.inr rfl))) (λcl C s0 H0 fp=>(zGl (zBj yAu (zA2 0) (zAd zI3 zA6 zA6) (nomark _)))) (λcl C s0 H0 fp=>(zA2 0)))) rfl T.b_list rfl T.b_reversed)) zYc))) rfl (by decide +kernel)))))))
abbrev zD6:Stmt:=top 10
def sc__law_draw:zAv n_22 ["_law_deal_here","_law_many"] (zA7 zD6):=⟨rfl,rfl,rfl,by decide +kernel,rfl,by decide +kernel,by decide +kernel⟩
def zJf{f:Addr}{fd:FuncData}(F:Fun K "_law_draw" "_law_draw" zD6 f fd)(T:Txt K mg):FnOk P w K mg base CX0 1 f fd ["_law_deal_here","_law_many"] (spOf K XE0 DP.zA3):=by
 refine fn_d (k:=0) (b:=DP.zGt) F sc__law_draw rfl rfl λcdv A outer s H E hr=>?_
 have hu:=zDg hr;have hu64:=hr.units;have hu1:=hr.units0;have nd:=sc__law_draw.nd;exact(zA5 (zJr xT (dt_w (zV9 (zBj zE2 (zC5 (ix_D hu) (zA2 0) zE5) zA6 (nomark _)) (zQi (zBj zH6 (zE0 zCf rfl T.b_len ym (zA1 (zC5 (ix_D hu) (zA2 0) zE5) zA4)) zA6 (nomark _))))) (zA8 (zD9 zW5 (zA2 0) zE5 (yC5 yn PySem.F.slot_list_pop PySem.F.type_list_pop zXb (.inr (.inl rfl)) (zC5 (ix_D hu) (zA2 0) zE5)))))
   (zA5 (zAg (j:=2) nd rfl (by trivial) (zC5 (ix_D hu) (zA2 0) zE5))
   (zA5 (zCu (zBj zH6 (zA2 2) zA6 (nomark _)) (zA5 (zD9 zW5 (zA2 0) zE5 (zAd zI4 (zA2 2) (zA2 1)))
   (zA8 (zAq (zAd zC7 (zA2 2) (zA2 1))))) zBq)
   (zA5 (zAg (j:=3) nd rfl (by trivial) (zAd zC7 (zAd zAj (zAd zC6 (zC5 (ix_D hu) (zA2 0) zE5) zA6) zA6) zA6))
   (zA5 (zD9 zW5 (zA2 0) zE5 (zAd zC7 (zAd zAj (zAd zC6 (zA2 3) zA6) zA6) zA6))
   (zA5 (zAg (j:=4) nd rfl (by trivial) (zAd zC7 (zAd zC6 (zC5 (ix_D hu) (zA2 0) zE5) (zC5 (ix_D hu) (zA2 0) zE5)) zA6))
   (zA8 (zAq (zAd zC7 (zAd zAj (zAd zC6 (zAd zC7 (zAd zC6 (zA2 3) (zA2 3)) zA6) zA6) (zA2 4)) (zA2 1))))))))))
abbrev zCq:Stmt:=top 11
def sc__law_whole:zAv ["_law_number"] ["_law_number"] (zA7 zCq):=⟨rfl,rfl,rfl,by decide +kernel,rfl,by decide +kernel,by decide +kernel⟩
def zI6{f:Addr}{fd:FuncData}(F:Fun K "_law_whole" "_law_whole" zCq f fd)(T:Txt K mg):FnOk P w K mg base CX0 1 f fd ["_law_number"] (spOf K XE0 DP.zB6):=by
 refine fn_d (k:=0) (b:=DP.zDm) F sc__law_whole rfl rfl λcdv A outer s H E hr=>?_
 have hu:=zDg hr;have hu64:=hr.units;have hu1:=hr.units0;have nd:=sc__law_whole.nd;exact(zA8 (zAq (zHg (zE0 zEt rfl T.b_isinstance yX (zA1 (zA2 0) (zA1 (zTx rfl T.b_int PyProof.Rows.boot_int rfl) zA4))) (zMg (yC4 (zE0 zEt rfl T.b_isinstance yX (zA1 (zA2 0) (zA1 (zTx rfl T.b_bool PyProof.Rows.boot_bool rfl) zA4))))))))
abbrev zB5:Stmt:=top 13
def sc__law_least:zAv n_5 ["_law_rows"] (zA7 zB5):=⟨rfl,rfl,rfl,by decide +kernel,rfl,by decide +kernel,by decide +kernel⟩
def zI9{f:Addr}{fd:FuncData}(F:Fun K "_law_least" "_law_least" zB5 f fd)(T:Txt K mg):FnOk P w K mg base CX0 1 f fd ["_law_rows"] (spOf K XE0 DP.zB8):=by
 refine fn_d (k:=0) (b:=DP.zFf) F sc__law_least rfl rfl λcdv A outer s H E hr=>?_
 have hu:=zDg hr;have hu64:=hr.units;have hu1:=hr.units0;have nd:=sc__law_least.nd;exact(zA5 (zAg (j:=1) nd rfl (by trivial) (zBg (yC3 rfl hu64 (zBg (zBv rfl (CompScope.mk' (sc:=zA7 zB5) (N:=n_5) (own:=["_law_row"]) (fre:=[]) (ix:=[]) rfl rfl (by decide +kernel)) (zB1 (zA2 0)) (λcl C s0 H0 fp=>(zA9 (j:=0) (show List.Nodup (["_law_row"]:List Str) by decide +kernel) rfl (Or.inl rfl) (Or.inr rfl))) (λcl C s0 H0 fp=>zC9) (λcl C s0 H0 fp=>(zFo zAt rfl T.b_tuple vN (zA1 (zBg (zJv (zAx hu64) rfl T.b_sorted ud (zA1 (zA2 0) zA4))) zA4))))) rfl T.b_sorted rfl T.b_set)))
   (zA5 (zAg (j:=2) nd rfl (by trivial) (zDf (zE4 zA4)))
   (zA5 (zAy xT rfl (zB1 (zA2 1)) (zA9 (j:=3) nd rfl (by trivial)) (zA8 (zCu (zQj (zHe (zE0 (zHj rfl) rfl T.b_any PyProof.Rows.boot_any (zA1 (zBg (zBv rfl (CompScope.mk' (sc:=zA7 zB5) (N:=n_5) (own:=["_law_other"]) (fre:=["_law_row"]) (ix:=[3]) rfl rfl (by decide +kernel)) (zB1 (zA2 1)) (λcl C s0 H0 fp=>(zA9 (j:=0) (show List.Nodup (["_law_other","_law_row"]:List Str) by decide +kernel) rfl (Or.inl rfl) (Or.inr rfl))) (λcl C s0 H0 fp=>zC9) (λcl C s0 H0 fp=>(zHg (zHf (zUr hu64) (zA2 0) (zA2 1) (nomark _)) (zMg (zE0 (zF4 rfl) rfl T.b_all PyProof.Rows.boot_all (zA1 (zBg (zBv rfl (CompScope.mk' (sc:=(zLk _ (zA7 zB5))) (N:=["_law_other","_law_row"]) (own:=["_law_cell"]) (fre:=["_law_row"]) (ix:=[1]) rfl rfl (by decide +kernel)) (zB1 (zA2 0)) (λcl C s0 H0 fp=>(zA9 (j:=0) (show List.Nodup (["_law_cell","_law_row"]:List Str) by decide +kernel) rfl (Or.inl rfl) (Or.inr rfl))) (λcl C s0 H0 fp=>zC9) (λcl C s0 H0 fp=>(zHf (zP6 hu64) (zA2 0) (zA2 1) (by with_unfolding_all rfl))))) zA4))))))) zA4)))) (zA8 (zEr (zNi yn yY yZ zDu (.inr (.inl rfl)) (zA2 2) (zA1 (zA2 3) zA4)))) zBq)))
   (zA8 (zAq (zFo zAt rfl T.b_tuple vN (zA1 (zA2 2) zA4)))))))
abbrev zBn:Stmt:=top 16
def sc__law_breaks:zAv n_8 n_16 (zA7 zBn):=⟨rfl,rfl,rfl,by decide +kernel,rfl,by decide +kernel,by decide +kernel⟩
def zH1{f:Addr}{fd:FuncData}(F:Fun K "_law_breaks" "_law_breaks" zBn f fd)(T:Txt K mg):FnOk P w K mg base CX0 1 f fd n_16 (spOf K XE0 DP.zB3):=by
 refine fn_d (k:=0) (b:=DP.zEu) F sc__law_breaks rfl rfl λcdv A outer s H E hr=>?_
 have hu:=zDg hr;have hu64:=hr.units;have hu1:=hr.units0;have nd:=sc__law_breaks.nd;exact(zA5 (zAy xT rfl (zB1 (zA2 0)) (zA9 (j:=4) nd rfl (by trivial)) (zA8 (zCu (zHe (zE0 (zF4 rfl) rfl T.b_all PyProof.Rows.boot_all (zA1 (zBg (zBv rfl (CompScope.mk' (sc:=zA7 zBn) (N:=n_8) (own:=["_law_x","_law_y"]) (fre:=n_9) (ix:=[1,2,3]) rfl rfl (by decide +kernel)) (zB1 (zA2 4)) (λcl C s0 H0 fp=>(zE3 rfl (zAo (zA9 (j:=0) (show List.Nodup n_10 by decide +kernel) rfl (Or.inl rfl) (Or.inr rfl)) (zAo (zA9 (j:=1) (show List.Nodup n_10 by decide +kernel) rfl (Or.inl rfl) (Or.inr rfl)) zCx)))) (λcl C s0 H0 fp=>zC9) (λcl C s0 H0 fp=>(zHf (zP6 hu64) (zBk (zA1 (zAd zAj (zA2 3) (zA2 0)) (zA1 (zAd zAj (zA2 4) (zA2 1)) zA4))) (zA2 2) (by with_unfolding_all rfl))))) zA4))) (zA8 (zAq zIt)) zBq)))
   (zA8 (zAq zIt)))
abbrev zD0:Stmt:=top 3
def sc_masks_of:zAv ["rows","bits"] ["rows","bits"] (zA7 zD0):=⟨rfl,rfl,rfl,by decide +kernel,rfl,by decide +kernel,by decide +kernel⟩
def zKl{f:Addr}{fd:FuncData}(F:Fun K "masks_of" "masks_of" zD0 f fd)(T:Txt K mg)(C_mask_of:zKb P w K mg base):FnOk P w K mg base CX0 2 f fd ["rows","bits"] (spOf K XE0 DP.zDy):=by
 refine fn_d (k:=1) (b:=DP.zHk) F sc_masks_of rfl rfl λcdv A outer s H E hr=>?_
 have hu:=zDg hr;have hu64:=hr.units;have hu1:=hr.units0;have nd:=sc_masks_of.nd;exact(zA8 (zAq (zBg (zBv rfl (CompScope.mk' (sc:=zA7 zD0) (N:=["rows","bits"]) (own:=["row"]) (fre:=["bits"]) (ix:=[1]) rfl rfl (by decide +kernel)) (zB1 (zA2 0)) (λcl C s0 H0 fp=>(zA9 (j:=0) (show List.Nodup (["row","bits"]:List Str) by decide +kernel) rfl (Or.inl rfl) (Or.inr rfl))) (λcl C s0 H0 fp=>zC9) (λcl C s0 H0 fp=>(zAb C_mask_of (hr.mono (by decide)) rfl (zA1 (zA2 0) (zA1 (zA2 1) zA4))))))))
abbrev zC2:Stmt:=top 12
def sc__law_cells:zAv n_3 n_17 (zA7 zC2):=⟨rfl,rfl,rfl,by decide +kernel,rfl,by decide +kernel,by decide +kernel⟩
def zIb{f:Addr}{fd:FuncData}(F:Fun K "_law_cells" "_law_cells" zC2 f fd)(T:Txt K mg)(C__law_draw:zBw P w K mg base):FnOk P w K mg base CX0 2 f fd n_17 (spOf K XE0 DP.zB0):=by
 refine fn_d (k:=1) (b:=DP.zDp) F sc__law_cells rfl rfl λcdv A outer s H E hr=>?_
 have hu:=zDg hr;have hu64:=hr.units;have hu1:=hr.units0;have nd:=sc__law_cells.nd;exact(zA5 (zAg (j:=3) nd rfl (by trivial) (zAd zAj (zAd zC6 zA6 (zA2 2)) zA6))
   (zA5 (zAg (j:=4) nd rfl (by trivial) (zDf (zE4 zA4)))
   (zA5 (zAy xT rfl (zCn rfl T.b_range (zA1 (zA2 1) zA4)) (zA9 (j:=5) nd rfl (by trivial)) (zA5 (zAg (j:=6) nd rfl (by trivial) (zAb C__law_draw (hr.mono (by decide)) rfl (zA1 (zA2 0) (zA1 (zAd zC6 (zA2 3) (zA2 3)) zA4))))
   (zA5 (zJr xT (zBj (zP6 hu64) (zA2 6) (zA2 4) (by with_unfolding_all rfl)) (zA8 (zAg (j:=6) nd rfl (by trivial) (zAd zC7 (zAd zAj (zA2 6) zA6) (zAd zC6 (zA2 3) (zA2 3))))))
   (zA8 (zEr (zNi yn yY yZ zDu (.inr (.inl rfl)) (zA2 4) (zA1 (zA2 6) zA4)))))))
   (zA8 (zAq (zBg (zBv rfl (CompScope.mk' (sc:=zA7 zC2) (N:=n_3) (own:=["_law_number"]) (fre:=["_law_wide","_law_side"]) (ix:=[2,3]) rfl rfl (by decide +kernel)) (zB1 (zA2 4)) (λcl C s0 H0 fp=>(zA9 (j:=0) (show List.Nodup n_4 by decide +kernel) rfl (Or.inl rfl) (Or.inr rfl))) (λcl C s0 H0 fp=>zC9) (λcl C s0 H0 fp=>(zBk (zA1 (zAd zBf (zAd zC7 (zA2 0) (zA2 2)) (zA2 1)) (zA1 (zAd zBf (zAd zI4 (zA2 0) (zA2 2)) (zA2 1)) zA4)))))))))))
abbrev zCc:Stmt:=top 15
def sc__law_island:zAv n_23 ["_law_deal_here","_law_plain_here"] (zA7 zCc):=⟨rfl,rfl,rfl,by decide +kernel,rfl,by decide +kernel,by decide +kernel⟩
def zH0{f:Addr}{fd:FuncData}(F:Fun K "_law_island" "_law_island" zCc f fd)(T:Txt K mg)(C__law_draw:zBw P w K mg base):FnOk P w K mg base CX0 2 f fd ["_law_deal_here","_law_plain_here"] (spOf K XE0 DP.zBp):=by
 refine fn_d (k:=1) (b:=DP.zDc) F sc__law_island rfl rfl λcdv A outer s H E hr=>?_
 have hu:=zDg hr;have hu64:=hr.units;have hu1:=hr.units0;have nd:=sc__law_island.nd;exact(zA5 (zAg (j:=2) nd rfl (by trivial) (zC5 (ix_D hu) (zBg (zE4 (zA1 zA6 (zA1 zA6 (zA1 (zAd zBf (zAd zI3 zA6 zA6) zA6) zA4))))) (zAb C__law_draw (hr.mono (by decide)) rfl (zA1 (zA2 0) (zA1 zA6 zA4)))))
   (zA5 (zEq (i:=3) (j:=4) rfl nd rfl rfl (by decide) rfl rfl (zA1 (zAd zBf (zAb C__law_draw (hr.mono (by decide)) rfl (zA1 (zA2 0) (zA1 (zAd zAj (zAd zC6 zA6 (zA2 2)) zA6) zA4))) (zA2 2)) (zA1 (zAd zBf (zAb C__law_draw (hr.mono (by decide)) rfl (zA1 (zA2 0) (zA1 (zAd zAj (zAd zC6 zA6 (zA2 2)) zA6) zA4))) (zA2 2)) zA4)) rfl)
   (zA5 (zAg (j:=5) nd rfl (by trivial) (zAb C__law_draw (hr.mono (by decide)) rfl (zA1 (zA2 0) (zA1 zA6 zA4))))
   (zA5 (zAg (j:=6) nd rfl (by trivial) (zDf zIs))
   (zA5 (zCu (zBj zE2 (zA2 5) zA6 (nomark _)) (zA5 (zAy xT rfl (zCn rfl T.b_range (zA1 (zAd zAj zA6 (zAb C__law_draw (hr.mono (by decide)) rfl (zA1 (zA2 0) (zA1 zA6 zA4)))) zA4)) (zA9 (j:=7) nd rfl (by trivial)) (zA5 (zAg (j:=8) nd rfl (by trivial) (zC5 (ix_D hu) (zA2 1) (zAb C__law_draw (hr.mono (by decide)) rfl (zA1 (zA2 0) (zA1 (zE0 zCf rfl T.b_len ym (zA1 (zA2 1) zA4)) zA4)))))
   (zA5 (zAg (j:=9) nd rfl (by trivial) (zBk (zA1 (zAd zAj (zA2 3) (zAb C__law_draw (hr.mono (by decide)) rfl (zA1 (zA2 0) (zA1 zA6 zA4)))) (zA1 (zAd zAj (zA2 4) (zAb C__law_draw (hr.mono (by decide)) rfl (zA1 (zA2 0) (zA1 zA6 zA4)))) zA4))))
   (zA8 (zAy xT rfl (zB1 (zYi sl_D (zA2 8) (zMe (zFo zK0 rfl T.b_int PyProof.Rows.boot_int (zA1 (zHf zE2 (zAb C__law_draw (hr.mono (by decide)) rfl (zA1 (zA2 0) (zA1 zA6 zA4))) zA6 (nomark _)) zA4))) yC2)) (zE3 rfl (zAo (zA9 (j:=10) nd rfl (by trivial)) (zAo (zA9 (j:=11) nd rfl (by trivial)) zCx))) (zA8 (zD9 (zMv hu) (zA2 6) (zBk (zA1 (zAd zAj (zC5 (ix_D hu) (zA2 9) zA6) (zA2 10)) (zA1 (zAd zAj (zC5 (ix_D hu) (zA2 9) zA6) (zA2 11)) zA4))) zIt)))))))
   (zA8 (zAq (zFo zAt rfl T.b_tuple vN (zA1 (zBg (zJv (zAx hu64) rfl T.b_sorted ud (zA1 (zBg (zTu (zEd rfl) rfl T.b_list yv (zA1 (zA2 6) zA4))) zA4))) zA4))))) zBq)
   (zA5 (zEq (i:=12) (j:=13) rfl nd rfl rfl (by decide) rfl rfl (zA1 (zAd zAj zA6 (zAb C__law_draw (hr.mono (by decide)) rfl (zA1 (zA2 0) (zA1 zA6 zA4)))) (zA1 (zAd zAj zA6 (zAb C__law_draw (hr.mono (by decide)) rfl (zA1 (zA2 0) (zA1 zA6 zA4)))) zA4)) rfl)
   (zA5 (zAy xT rfl (zCn rfl T.b_range (zA1 (zA2 13) zA4)) (zA9 (j:=10) nd rfl (by trivial)) (zA8 (zAy xT rfl (zCn rfl T.b_range (zA1 (zA2 12) zA4)) (zA9 (j:=11) nd rfl (by trivial)) (zA8 (zCu (dt_w (zY9 (zBj zE2 (zA2 5) zA6 (nomark _)) (zQh (zBj zH6 (zAb C__law_draw (hr.mono (by decide)) rfl (zA1 (zA2 0) (zA1 (zC5 (ix_D hu) (zBg (zE4 (zA1 zA6 (zA1 zA6 zA4)))) (zAd zBf (zA2 5) zA6)) zA4))) zA6 (nomark _))))) (zA8 (zD9 (zMv hu) (zA2 6) (zBk (zA1 (zAd zAj (zA2 3) (zA2 10)) (zA1 (zAd zAj (zA2 4) (zA2 11)) zA4))) zIt)) zBq)))))
   (zA8 (zAq (zFo zAt rfl T.b_tuple vN (zA1 (zBg (zJv (zAx hu64) rfl T.b_sorted ud (zA1 (zBg (zTu (zEd rfl) rfl T.b_list yv (zA1 (zA2 6) zA4))) zA4))) zA4)))))))))))
abbrev zB4:Stmt:=top 17
def sc__law_stepped:zAv n_11 ["_law_plain_here","_law_island_here"] (zA7 zB4):=⟨rfl,rfl,rfl,by decide +kernel,rfl,by decide +kernel,by decide +kernel⟩
def zG9{f:Addr}{fd:FuncData}(F:Fun K "_law_stepped" "_law_stepped" zB4 f fd)(T:Txt K mg)(C__law_breaks:zEx P w K mg base):FnOk P w K mg base CX0 2 f fd ["_law_plain_here","_law_island_here"] (spOf K XE0 DP.zBd):=by
 refine fn_d (k:=1) (b:=DP.zE8) F sc__law_stepped rfl rfl λcdv A outer s H E hr=>?_
 have hu:=zDg hr;have hu64:=hr.units;have hu1:=hr.units0;have nd:=sc__law_stepped.nd;exact(zA5 (zAg (j:=2) nd rfl (by trivial) (zBg (zTu (zNo hu64 rfl) rfl T.b_dict PyProof.Rows.boot_dict (zA1 (zBg (zBv rfl (CompScope.mk' (sc:=zA7 zB4) (N:=n_11) (own:=["_law_cell"]) (fre:=[]) (ix:=[]) rfl rfl (by decide +kernel)) (zB1 (zA2 1)) (λcl C s0 H0 fp=>(zA9 (j:=0) (show List.Nodup (["_law_cell"]:List Str) by decide +kernel) rfl (Or.inl rfl) (Or.inr rfl))) (λcl C s0 H0 fp=>zC9) (λcl C s0 H0 fp=>(zBk (zA1 (zA2 0) (zA1 zIt zA4)))))) zA4))))
   (zA5 (zAg (j:=3) nd rfl (by trivial) (zDf (zE4 zA4)))
   (zA5 (zAy xT rfl (zB1 (zA2 0)) (zA9 (j:=4) nd rfl (by trivial)) (zA8 (zEr (zNi yn PySem.F.slot_list_extend PySem.F.type_list_extend zN3 (.inr (.inl rfl)) (zA2 3) (zA1 (zBg (zBv rfl (CompScope.mk' (sc:=zA7 zB4) (N:=n_11) (own:=["_law_cell"]) (fre:=["_law_cells_here"]) (ix:=[3]) rfl rfl (by decide +kernel)) (zB1 (zA2 4)) (λcl C s0 H0 fp=>(zA9 (j:=0) (show List.Nodup (["_law_cell","_law_cells_here"]:List Str) by decide +kernel) rfl (Or.inl rfl) (Or.inr rfl))) (λcl C s0 H0 fp=>(zGl (zBj (zEl hu64) (zA2 0) (zA2 1) (by with_unfolding_all rfl)))) (λcl C s0 H0 fp=>(zA2 0)))) zA4)))))
   (zA5 (zAg (j:=5) nd rfl (by trivial) (zDf zIs))
   (zA5 (zAy xT rfl (zB1 (zA2 3)) (zE3 rfl (zAo (zA9 (j:=6) nd rfl (by trivial)) (zAo (zA9 (j:=7) nd rfl (by trivial)) zCx))) (zA8 (zAy xT rfl (zB1 (zA2 1)) (zE3 rfl (zAo (zA9 (j:=8) nd rfl (by trivial)) (zAo (zA9 (j:=9) nd rfl (by trivial)) zCx))) (zA5 (zAg (j:=10) nd rfl (by trivial) (zBk (zA1 (zAd zBf (zA2 8) (zA2 6)) (zA1 (zAd zBf (zA2 9) (zA2 7)) zA4))))
   (zA8 (zCu (dt_w (zV9 (zBj (zEl hu64) (zA2 10) (zA2 5) (by with_unfolding_all rfl)) (zQi (zHe (zAb C__law_breaks (hr.mono (by decide)) rfl (zA1 (zA2 0) (zA1 (zA2 2) (zA1 (zC5 (ix_D hu) (zA2 10) zA6) (zA1 (zC5 (ix_D hu) (zA2 10) zA6) zA4))))))))) (zA8 (zD9 (zMv hu) (zA2 5) (zA2 10) zIt)) zBq))))))
   (zA8 (zAq (zFo zAt rfl T.b_tuple vN (zA1 (zBg (zJv (zAx hu64) rfl T.b_sorted ud (zA1 (zBg (zTu (zEd rfl) rfl T.b_list yv (zA1 (zA2 5) zA4))) zA4))) zA4)))))))))
abbrev zJ9:Stmt:=top 6
def sc_beat:zAv n_0 ["plain","island"] (zA7 zJ9):=⟨rfl,rfl,rfl,by decide +kernel,rfl,by decide +kernel,by decide +kernel⟩
def zX8{f:Addr}{fd:FuncData}(F:Fun K "beat" "beat" zJ9 f fd)(T:Txt K mg)(C_bits_of:zKc P w K mg base)(C_masks_of:zHl P w K mg base)(C_masks_around:zE9 P w K mg base)(C_has_within:zFg P w K mg base):FnOk P w K mg base CX0 3 f fd ["plain","island"] (spOf K XE0 DP.zJn):=by
 refine fn_d (k:=2) (b:=DP.zVi) F sc_beat rfl rfl λcdv A outer s H E hr=>?_
 have hu:=zDg hr;have hu64:=hr.units;have hu1:=hr.units0;have nd:=sc_beat.nd;exact(zA5 (zAg (j:=2) nd rfl (by trivial) (zAb C_bits_of (hr.mono (by decide)) rfl (zA1 (zA2 0) zA4)))
   (zA5 (zAg (j:=3) nd rfl (by trivial) (zAb C_masks_of (hr.mono (by decide)) rfl (zA1 (zA2 0) (zA1 (zA2 2) zA4))))
   (zA5 (zAg (j:=4) nd rfl (by trivial) (zAb C_masks_around (hr.mono (by decide)) rfl (zA1 (zA2 2) (zA1 (zA2 1) zA4))))
   (zA5 (zAg (j:=5) nd rfl (by trivial) (zDf zYg))
   (zA5 (zAy xT rfl (zQm (zA2 4)) (zA9 (j:=6) nd rfl (by trivial)) (zA8 (zCu (zBj (zEl hu64) (zA2 6) (zA2 5) (by with_unfolding_all rfl)) (zA8 (zD9 (zMv hu) (zA2 5) (zA2 6) (zAb C_has_within (hr.mono (by decide)) rfl (zA1 (zA2 6) (zA1 (zA2 3) zA4))))) zBq)))
   (zA8 (zAq (zFo zAt rfl T.b_tuple vN (zA1 (zBg (zJv (zAx hu64) rfl T.b_sorted ud (zA1 (zBg (zBv rfl (CompScope.mk' (sc:=zA7 zJ9) (N:=n_0) (own:=["cell"]) (fre:=["known","around"]) (ix:=[5,4]) rfl rfl (by decide +kernel)) (zYe (zA2 4)) (λcl C s0 H0 fp=>(zA9 (j:=0) (show List.Nodup n_1 by decide +kernel) rfl (Or.inl rfl) (Or.inr rfl))) (λcl C s0 H0 fp=>(zGl (zHe (zC5 (ix_D hu) (zA2 1) (zC5 (ix_D hu) (zA2 2) (zA2 0)))))) (λcl C s0 H0 fp=>(zA2 0)))) zA4))) zA4)))))))))
abbrev zBh:Stmt:=top 14
def sc__law_plain:zAv n_6 n_18 (zA7 zBh):=⟨rfl,rfl,rfl,by decide +kernel,rfl,by decide +kernel,by decide +kernel⟩
def zI8{f:Addr}{fd:FuncData}(F:Fun K "_law_plain" "_law_plain" zBh f fd)(T:Txt K mg)(C__law_draw:zBw P w K mg base)(C__law_cells:zDr P w K mg base)(C__law_least:zDq P w K mg base):FnOk P w K mg base CX0 3 f fd n_18 (spOf K XE0 DP.zB7):=by
 refine fn_d (k:=2) (b:=DP.zDn) F sc__law_plain rfl rfl λcdv A outer s H E hr=>?_
 have hu:=zDg hr;have hu64:=hr.units;have hu1:=hr.units0;have nd:=sc__law_plain.nd;exact(zA5 (zAg (j:=3) nd rfl (by trivial) (zAb C__law_draw (hr.mono (by decide)) rfl (zA1 (zA2 0) (zA1 zA6 zA4))))
   (zA5 (zAg (j:=4) nd rfl (by trivial) (zAb C__law_cells (hr.mono (by decide)) rfl (zA1 (zA2 0) (zA1 (zAd zAj zA6 (zAb C__law_draw (hr.mono (by decide)) rfl (zA1 (zA2 0) (zA1 (zAd zBf (zA2 1) zA6) zA4)))) (zA1 (zA2 2) zA4)))))
   (zA5 (zEq (i:=5) (j:=6) rfl nd rfl rfl (by decide) rfl rfl (zA1 (zDf (zE4 zA4)) (zA1 (zAd zAj zA6 (zAb C__law_draw (hr.mono (by decide)) rfl (zA1 (zA2 0) (zA1 (zE0 zCf rfl T.b_len ym (zA1 (zA2 4) zA4)) zA4)))) zA4)) rfl)
   (zA5 (zAy xT rfl (zCn rfl T.b_range (zA1 (zAd zAj zA6 (zAb C__law_draw (hr.mono (by decide)) rfl (zA1 (zA2 0) (zA1 (zC5 (ix_D hu) (zBg (zE4 (zA1 zA6 (zA1 zA6 zA4)))) (zFo zK0 rfl T.b_int PyProof.Rows.boot_int (zA1 (zHf zH6 (zA2 3) zA6 (nomark _)) zA4))) zA4)))) zA4)) (zA9 (j:=7) nd rfl (by trivial)) (zA8 (zEr (zNi yn yY yZ zDu (.inr (.inl rfl)) (zA2 5) (zA1 (zAd zAj zA6 (zAb C__law_draw (hr.mono (by decide)) rfl (zA1 (zA2 0) (zA1 (zAd zBf (zAd zP5 zA6 (zE0 zCf rfl T.b_len ym (zA1 (zA2 4) zA4))) zA6) zA4)))) zA4)))))
   (zA5 (zCu (zBj zE2 (zA2 3) zA6 (nomark _)) (zA8 (zAg (j:=5) nd rfl (by trivial) (zDf (zJu rfl (zA1 zA6 (zA1 (zAd zP5 zA6 (zE0 zCf rfl T.b_len ym (zA1 (zA2 4) zA4))) zA4)) rfl T.b_list rfl T.b_range)))) zBq)
   (zA5 (zAg (j:=8) nd rfl (by trivial) (zDf (zE4 zA4)))
   (zA5 (zAy xT rfl (zB1 (zA2 5)) (zA9 (j:=9) nd rfl (by trivial)) (zA5 (zG0 (j:=10) nd rfl (by trivial) rfl (CompScope.mk' (sc:=zA7 zBh) (N:=n_6) (own:=["_law_at","_law_cell"]) (fre:=["_law_mask"]) (ix:=[9]) rfl rfl (by decide +kernel)) (zYf false rfl T.b_enumerate (zA2 4)) (λcl C s0 H0 fp=>(zE3 rfl (zAo (zA9 (j:=0) (show List.Nodup n_7 by decide +kernel) rfl (Or.inl rfl) (Or.inr rfl)) (zAo (zA9 (j:=1) (show List.Nodup n_7 by decide +kernel) rfl (Or.inl rfl) (Or.inr rfl)) zCx)))) (λcl C s0 H0 fp=>(zGl (zBj zE2 (zAd zP7 (zAd zX5 (zA2 2) (zA2 0)) zA6) zA6 (nomark _)))) (λcl C s0 H0 fp=>(zA2 1)))
   (zA8 (zCu (dt_w (zY9 (zBj zH6 (zA2 3) zA6 (nomark _)) (zQh (zBj zE2 (zE0 zCf rfl T.b_len ym (zA1 (zA2 10) zA4)) (zA2 6) (nomark _))))) (zA8 (zEr (zNi yn yY yZ zDu (.inr (.inl rfl)) (zA2 8) (zA1 (zA2 10) zA4)))) zBq))))
   (zA5 (zCu (zBj zE2 (zA2 3) zA6 (nomark _)) (zA8 (zAq (zFo zAt rfl T.b_tuple vN (zA1 (zBg (zJv (zAx hu64) rfl T.b_sorted ud (zA1 (zBg (zBv rfl (CompScope.mk' (sc:=zA7 zBh) (N:=n_6) (own:=["_law_row"]) (fre:=[]) (ix:=[]) rfl rfl (by decide +kernel)) (zB1 (zA2 8)) (λcl C s0 H0 fp=>(zA9 (j:=0) (show List.Nodup (["_law_row"]:List Str) by decide +kernel) rfl (Or.inl rfl) (Or.inr rfl))) (λcl C s0 H0 fp=>zC9) (λcl C s0 H0 fp=>(zFo zAt rfl T.b_tuple vN (zA1 (zBg (zJv (zAx hu64) rfl T.b_sorted ud (zA1 (zA2 0) zA4))) zA4))))) zA4))) zA4)))) zBq)
   (zA8 (zAq (zAb C__law_least (hr.mono (by decide)) rfl (zA1 (zA2 8) zA4))))))))))))
abbrev zBi:Stmt:=top 19
def sc__law_great:zAv n_13 ["_law_deal_here"] (zA7 zBi):=⟨rfl,rfl,rfl,by decide +kernel,rfl,by decide +kernel,by decide +kernel⟩
def zIa{f:Addr}{fd:FuncData}(F:Fun K "_law_great" "_law_great" zBi f fd)(T:Txt K mg)(C__law_draw:zBw P w K mg base)(C__law_least:zDq P w K mg base)(C__law_cells:zDr P w K mg base):FnOk P w K mg base CX0 3 f fd ["_law_deal_here"] (spOf K XE0 DP.zCt):=by
 refine fn_d (k:=2) (b:=DP.zDo) F sc__law_great rfl rfl λcdv A outer s H E hr=>?_
 have hu:=zDg hr;have hu64:=hr.units;have hu1:=hr.units0;have nd:=sc__law_great.nd;exact(zA5 (zQk (zC5 (ix_D hu) (zBg (zE4 (zA1 (zBk (zA1 zA6 (zA1 zA6 zA4))) (zA1 (zBk (zA1 (zAd zBf (zAd zI3 zA6 zA6) zA6) (zA1 (zAd zBf zA6 (zAd zI3 zA6 zA6)) zA4))) zA4)))) (zAb C__law_draw (hr.mono (by decide)) rfl (zA1 (zA2 0) (zA1 zA6 zA4)))) (zE3 rfl (zAo (zA9 (j:=1) nd rfl (by trivial)) (zAo (zA9 (j:=2) nd rfl (by trivial)) zCx))))
   (zA5 (zTq (zBk (zA1 (zAd zAj zA6 (zAb C__law_draw (hr.mono (by decide)) rfl (zA1 (zA2 0) (zA1 zA6 zA4)))) (zA1 (zAd zAj zA6 (zAb C__law_draw (hr.mono (by decide)) rfl (zA1 (zA2 0) (zA1 zA6 zA4)))) (zA1 (zAd zAj zA6 (zAb C__law_draw (hr.mono (by decide)) rfl (zA1 (zA2 0) (zA1 zA6 zA4)))) zA4)))) (zE3 rfl (zAo (zA9 (j:=3) nd rfl (by trivial)) (zAo (zA9 (j:=4) nd rfl (by trivial)) (zAo (zA9 (j:=5) nd rfl (by trivial)) zCx)))))
   (zA5 (zG0 (j:=6) nd rfl (by trivial) rfl (CompScope.mk' (sc:=zA7 zBi) (N:=n_13) (own:=["_law_k"]) (fre:=n_14) (ix:=[1,2,3,5]) rfl rfl (by decide +kernel)) (zCn rfl T.b_range (zA1 (zAd zC6 (zA2 3) (zA2 4)) zA4)) (λcl C s0 H0 fp=>(zA9 (j:=0) (show List.Nodup n_15 by decide +kernel) rfl (Or.inl rfl) (Or.inr rfl))) (λcl C s0 H0 fp=>(zGl (zBj zH6 (zAd zC7 (zA2 0) (zA2 4)) zA6 (nomark _)))) (λcl C s0 H0 fp=>(zBk (zA1 (zAd zAj (zA2 1) (zAd zI4 (zA2 0) (zA2 3))) (zA1 (zAd zAj (zA2 2) (zAd zC7 (zA2 0) (zA2 3))) zA4)))))
   (zA5 (zG0 (j:=7) nd rfl (by trivial) rfl (CompScope.mk' (sc:=zA7 zBi) (N:=n_13) (own:=["_law_k"]) (fre:=["_law_deal_here"]) (ix:=[0]) rfl rfl (by decide +kernel)) (zCn rfl T.b_range (zA1 (zAd zAj zA6 (zAb C__law_draw (hr.mono (by decide)) rfl (zA1 (zA2 0) (zA1 zA6 zA4)))) zA4)) (λcl C s0 H0 fp=>(zA9 (j:=0) (show List.Nodup (["_law_k","_law_deal_here"]:List Str) by decide +kernel) rfl (Or.inl rfl) (Or.inr rfl))) (λcl C s0 H0 fp=>zC9) (λcl C s0 H0 fp=>(zFo zAt rfl T.b_tuple vN (zA1 (zBg (zJv (zAx hu64) rfl T.b_sorted ud (zA1 (zAb C__law_cells (hr.mono (by decide)) rfl (zA1 (zA2 1) (zA1 zA6 (zA1 zA6 zA4)))) zA4))) zA4))))
   (zA8 (zAq (zBk (zA1 (zAb C__law_least (hr.mono (by decide)) rfl (zA1 (zA2 7) zA4)) (zA1 (zFo zAt rfl T.b_tuple vN (zA1 (zA2 6) zA4)) zA4)))))))))
abbrev zC1:Stmt:=top 18
def sc__law_right:zAv n_12 ["_law_plain_here","_law_island_here"] (zA7 zC1):=⟨rfl,rfl,rfl,by decide +kernel,rfl,by decide +kernel,by decide +kernel⟩
def zI7{f:Addr}{fd:FuncData}(F:Fun K "_law_right" "_law_right" zC1 f fd)(T:Txt K mg)(C_beat:zVl P w K mg base)(C__law_stepped:zEa P w K mg base)(C__law_whole:zFh P w K mg base):FnOk P w K mg base CX0 4 f fd ["_law_plain_here","_law_island_here"] (spOf K XE0 DP.zAs):=by
 refine fn_d (k:=3) (b:=DP.zFe) F sc__law_right rfl rfl λcdv A outer s H E hr=>?_
 have hu:=zDg hr;have hu64:=hr.units;have hu1:=hr.units0;have nd:=sc__law_right.nd;exact(zA5 (zAg (j:=2) nd rfl (by trivial) (zAb C_beat (hr.mono (by decide)) rfl (zA1 (zA2 0) (zA1 (zA2 1) zA4))))
   (zA5 (zCu (dt_w (zY9 (zQj (zHe (zE0 zEt rfl T.b_isinstance yX (zA1 (zA2 2) (zA1 (zTx rfl T.b_tuple vN rfl) zA4))))) (zQh (zBj (zUr hu64) (zA2 2) (zAb C__law_stepped (hr.mono (by decide)) rfl (zA1 (zA2 0) (zA1 (zA2 1) zA4))) (nomark _))))) (zA8 (zAq zIt)) zBq)
   (zA8 (zAq (zE0 (zF4 rfl) rfl T.b_all PyProof.Rows.boot_all (zA1 (zBg (zBv rfl (CompScope.mk' (sc:=zA7 zC1) (N:=n_12) (own:=["_law_cell"]) (fre:=[]) (ix:=[]) rfl rfl (by decide +kernel)) (zB1 (zA2 2)) (λcl C s0 H0 fp=>(zA9 (j:=0) (show List.Nodup (["_law_cell"]:List Str) by decide +kernel) rfl (Or.inl rfl) (Or.inr rfl))) (λcl C s0 H0 fp=>zC9) (λcl C s0 H0 fp=>(zHg (zE0 zEt rfl T.b_isinstance yX (zA1 (zA2 0) (zA1 (zTx rfl T.b_tuple vN rfl) zA4))) (zHg (zAb C__law_whole (hr.mono (by decide)) rfl (zA1 (zC5 (ix_D hu) (zA2 0) zA6) zA4)) (zMg (zAb C__law_whole (hr.mono (by decide)) rfl (zA1 (zC5 (ix_D hu) (zA2 0) zA6) zA4)))))))) zA4))))))
abbrev zG7:Stmt:=top 20
def sc_law:zAv n_24 ["_law_script"] (zA7 zG7):=⟨rfl,rfl,rfl,by decide +kernel,rfl,by decide +kernel,by decide +kernel⟩
def yAx{f:Addr}{fd:FuncData}(F:Fun K "law" "law" zG7 f fd)(T:Txt K mg)(C__law_deal:zGx P w K mg base)(C__law_draw:zBw P w K mg base)(C__law_great:zFk P w K mg base)(C__law_plain:zFj P w K mg base)(C__law_island:zEw P w K mg base)(C__law_right:zFi P w K mg base):FnOk P w K mg base CX0 5 f fd ["_law_script"] (spOf K XE0 DP.zNc):=by
 refine fn_d (k:=4) (b:=DP.zYx) F sc_law rfl rfl λcdv A outer s H E hr=>?_
 have hu:=zDg hr;have hu64:=hr.units;have hu1:=hr.units0;have nd:=sc_law.nd;exact(zA5 (zAg (j:=1) nd rfl (by trivial) (zAb C__law_deal (hr.mono (by decide)) rfl (zA1 (zA2 0) (zA1 zA6 zA4))))
   (zA5 (zCu (zBj zE2 (zAb C__law_draw (hr.mono (by decide)) rfl (zA1 (zA2 1) (zA1 zA6 zA4))) zA6 (nomark _)) (zA5 (zQk (zAb C__law_great (hr.mono (by decide)) rfl (zA1 (zA2 1) zA4)) (zE3 rfl (zAo (zA9 (j:=2) nd rfl (by trivial)) (zAo (zA9 (j:=3) nd rfl (by trivial)) zCx))))
   (zA8 (zAq (zHg (zAb C__law_right (hr.mono (by decide)) rfl (zA1 (zA2 2) (zA1 (zA2 3) zA4))) (zHg (zAb C__law_right (hr.mono (by decide)) rfl (zA1 (zA2 2) (zA1 (zYi sl_D (zA2 3) yC2 (zMe zA6)) zA4))) (zMg (zAb C__law_right (hr.mono (by decide)) rfl (zA1 (zA2 2) (zA1 (zA2 3) zA4))))))))) zBq)
   (zA5 (zAg (j:=4) nd rfl (by trivial) (zC5 (ix_D hu) (zBg (zE4 (zA1 zA6 (zA1 zA6 (zA1 zA6 (zA1 zA6 (zA1 zA6 zA4))))))) (zAb C__law_draw (hr.mono (by decide)) rfl (zA1 (zA2 1) (zA1 zA6 zA4)))))
   (zA5 (zEq (i:=2) (j:=5) rfl nd rfl rfl (by decide) rfl rfl (zA1 (zAb C__law_plain (hr.mono (by decide)) rfl (zA1 (zA2 1) (zA1 zA6 (zA1 (zA2 4) zA4)))) (zA1 (zAb C__law_plain (hr.mono (by decide)) rfl (zA1 (zA2 1) (zA1 zA6 (zA1 zA6 zA4)))) zA4)) rfl)
   (zA5 (zEq (i:=3) (j:=6) rfl nd rfl rfl (by decide) rfl rfl (zA1 (zAb C__law_island (hr.mono (by decide)) rfl (zA1 (zA2 1) (zA1 (zA2 2) zA4))) (zA1 (zAb C__law_island (hr.mono (by decide)) rfl (zA1 (zA2 1) (zA1 (zA2 5) zA4))) zA4)) rfl)
   (zA5 (zAy xT rfl (zB1 (zBk (zA1 (zBk (zA1 (zA2 2) (zA1 (zA2 3) zA4))) (zA1 (zBk (zA1 (zA2 5) (zA1 (zA2 3) zA4))) (zA1 (zBk (zA1 (zA2 2) (zA1 (zA2 6) zA4))) (zA1 (zBk (zA1 (zA2 2) (zA1 (zBk zA4) zA4))) (zA1 (zBk (zA1 (zA2 2) (zA1 (zA2 3) zA4))) zA4))))))) (zE3 rfl (zAo (zA9 (j:=7) nd rfl (by trivial)) (zAo (zA9 (j:=8) nd rfl (by trivial)) zCx))) (zA8 (zCu (zQj (zHe (zAb C__law_right (hr.mono (by decide)) rfl (zA1 (zA2 7) (zA1 (zA2 8) zA4))))) (zA8 (zAq zIt)) zBq)))
   (zA8 (zAq zIt))))))))
end
noncomputable abbrev fO (x:Str) (st:Stmt) (pm:Value) (cd:Addr):Obj:=⟨.type "function",none,.func (PySem.W.fnOf x x (zDl st) (zCo st) (zA7 st) .none .none .none pm none (.ref cd) .none),#[]⟩
noncomputable abbrev kD (P:Params) (l:List (Str × Tok × Value)):Array DictEntry:=(l.map λx=>⟨PyData.keyHash P x.1,.str x.1 x.2.1,x.2.2⟩).toArray
abbrev mA_:Value:=(.str "healfloor.rows" 187)
abbrev mB_:Value:=(.str "healfloor.beats" 222)
abbrev mC_:Value:=(.str "law_healfloor_k45_a_beat" 243)
noncomputable abbrev cO (x f:Str) (t:Tok) (l n c:Int) (a:Addr) (g:Int) (v:List Value) (k:Int) (u:Tok):Obj:=⟨.type "code",none,.fields (([.str x t,.str x (t+1),.str f (t+2),.int l 0,.int n 0,.int 0 0,.int 0 0,.int c 0,.ref a,.bool true,.int g 0]:List Value)++v++([.int k 0,.int l 0,.str f u]:List Value)).toArray,#[]⟩
def fMk{K:PySem.W.Frag}(f:Addr)(x:Str)(st:Stmt)(pm:Value)(cd:Addr)(l:K.lookup f=some (fO x st pm cd):=by kernel_rfl)(c:PySem.W.codeIn K (.ref cd) x=true:=by kernel_rfl)(k:PySem.W.keepIn K (.ref f)=true:=by kernel_rfl):Fun K x x st f (PySem.W.fnOf x x (zDl st) (zCo st) (zA7 st) .none .none .none pm none (.ref cd) .none):=yBx l c k
noncomputable def KF (P:Params):PySem.W.Frag:=[
 (3,⟨(.type "dict"),none,(.dict (kD P [("__name__",165,(.str "law_healfloor_k45_a_beat" 243)),("__doc__",166,.none),("__package__",167,.none),("__loader__",168,(.builtin "__main__.__loader__#opaque")),("__spec__",169,.none),("__annotations__",170,(.ref 6)),("__builtins__",171,(.ref 4)),("__file__",173,(.str "/claim/cut.py" 172)),("__cached__",174,.none),("bits_of",199,(.ref 21)),("mask_of",209,(.ref 28)),("masks_of",215,(.ref 33)),("has_within",221,(.ref 38)),("beat",229,(.ref 43)),("masks_around",242,(.ref 50)),("_law_deal",250,(.ref 55)),("_law_draw",261,(.ref 62)),("_law_whole",268,(.ref 69)),("_law_cells",274,(.ref 74)),("_law_least",280,(.ref 79)),("_law_plain",286,(.ref 84)),("_law_island",306,(.ref 91)),("_law_breaks",312,(.ref 96)),("_law_stepped",318,(.ref 101)),("_law_right",324,(.ref 106)),("_law_great",330,(.ref 111)),("law",345,(.ref 118))]) 27),#[]⟩),
 (20,cO "bits_of" "/claim/cut.py" 189 2 1 3 15 181 [.ref 16,.none,.ref 17,.ref 18,.ref 19] 197 198),
 (21,fO "bits_of" zEi mA_ 20),
 (27,cO "mask_of" "/claim/cut.py" 200 11 2 3 22 181 [.ref 23,.none,.ref 24,.ref 25,.ref 26] 207 208),
 (28,fO "mask_of" zEh mA_ 27),
 (32,cO "masks_of" "/claim/cut.py" 210 16 2 3 29 181 [.ref 30,.none,.none,.none,.ref 31] 213 214),
 (33,fO "masks_of" zD0 mA_ 32),
 (37,cO "has_within" "/claim/cut.py" 216 18 2 3 34 181 [.ref 35,.none,.none,.none,.ref 36] 219 220),
 (38,fO "has_within" zC0 mA_ 37),
 (42,cO "beat" "/claim/cut.py" 224 21 2 3 39 181 [.ref 40,.none,.none,.none,.ref 41] 227 228),
 (43,fO "beat" zJ9 mB_ 42),
 (49,cO "masks_around" "/claim/cut.py" 230 30 2 3 44 181 [.ref 45,.none,.ref 46,.ref 47,.ref 48] 240 241),
 (50,fO "masks_around" zBy mB_ 49),
 (54,cO "_law_deal" "/claim/cut.py" 245 38 2 3 51 181 [.ref 52,.none,.none,.none,.ref 53] 248 249),
 (55,fO "_law_deal" zBu mC_ 54),
 (61,cO "_law_draw" "/claim/cut.py" 251 44 2 3 56 181 [.ref 57,.none,.ref 58,.ref 59,.ref 60] 259 260),
 (62,fO "_law_draw" zD6 mC_ 61),
 (68,cO "_law_whole" "/claim/cut.py" 262 55 1 3 63 181 [.ref 64,.none,.ref 65,.ref 66,.ref 67] 266 267),
 (69,fO "_law_whole" zCq mC_ 68),
 (73,cO "_law_cells" "/claim/cut.py" 269 57 3 3 70 181 [.ref 71,.none,.none,.none,.ref 72] 272 273),
 (74,fO "_law_cells" zC2 mC_ 73),
 (78,cO "_law_least" "/claim/cut.py" 275 66 1 3 75 181 [.ref 76,.none,.none,.none,.ref 77] 278 279),
 (79,fO "_law_least" zB5 mC_ 78),
 (83,cO "_law_plain" "/claim/cut.py" 281 73 3 3 80 181 [.ref 81,.none,.none,.none,.ref 82] 284 285),
 (84,fO "_law_plain" zBh mC_ 83),
 (90,cO "_law_island" "/claim/cut.py" 287 89 2 3 85 181 [.ref 86,.none,.ref 87,.ref 88,.ref 89] 304 305),
 (91,fO "_law_island" zCc mC_ 90),
 (95,cO "_law_breaks" "/claim/cut.py" 307 107 4 3 92 181 [.ref 93,.none,.none,.none,.ref 94] 310 311),
 (96,fO "_law_breaks" zBn mC_ 95),
 (100,cO "_law_stepped" "/claim/cut.py" 313 112 2 3 97 181 [.ref 98,.none,.none,.none,.ref 99] 316 317),
 (101,fO "_law_stepped" zB4 mC_ 100),
 (105,cO "_law_right" "/claim/cut.py" 319 124 2 3 102 181 [.ref 103,.none,.none,.none,.ref 104] 322 323),
 (106,fO "_law_right" zC1 mC_ 105),
 (110,cO "_law_great" "/claim/cut.py" 325 129 1 3 107 181 [.ref 108,.none,.none,.none,.ref 109] 328 329),
 (111,fO "_law_great" zBi mC_ 110),
 (117,cO "law" "/claim/cut.py" 331 135 1 3 112 181 [.ref 113,.none,.ref 114,.ref 115,.ref 116] 343 344),
 (118,fO "law" zG7 mC_ 117)]
noncomputable def view:Program:={ PySem.Challenge.pw_healfloor_k45_a_beat with main:={ PySem.Challenge.pw_healfloor_k45_a_beat.main with body:=[top 1,top 2,top 3,top 4,top 6,top 7,top 9,top 10,top 11,top 12,top 13,top 14,top 15,top 16,top 17,top 18,top 19,top 20] } }
noncomputable abbrev hk:PySem.W.Hook:=PySem.W.kHook KF [3,20,21,27,28,32,33,37,38,42,43,49,50,54,55,61,62,68,69,73,74,78,79,83,84,90,91,95,96,100,101,105,106,110,111,117,118] (λ_=>by kernel_rfl)
def left:PySem.W.LeftO PySem.Challenge.pw_healfloor_k45_a_beat view [] (λs=>PySem.W.xlAt view [] s && PySem.W.recOk [] s) (PySem.W.Hook.obs hk) (PySem.W.Hook.val hk) 1234:=λw=>by kernel_rfl
def all_mk{w:World}{h:Heap}{mg:Str->Option Value}(X:(KF w.params).In h)(G:h.Ns mainGlobals mg)(hfa:mg "law"=some (.ref fa)):∃fd:FuncData,(∀(s:Shared) (v:Value),BindsTo s fd ⟨[v],[]⟩ [("_law_script",v)])/\∀base:Heap,(KF w.params).In base->base.Ns mainGlobals mg->FnOk PySem.Challenge.pw_healfloor_k45_a_beat w (KF w.params) mg base CX0 5 fa fd ["_law_script"] (spOf (KF w.params) XE0 DP.zNc):=by
 have ka:∀x v,PySem.W.nsIn (KF w.params) mainGlobals x=some (some v)->mg x=some v:=λx v e=>PySem.W.mg_of X G e
 have kz:∀x,PySem.W.nsIn (KF w.params) mainGlobals x=some none->mg x=none:=λx e=>PySem.W.mg_none_of X G e
 have e:=hfa.symm.trans (ka "law" (.ref 118) (by kernel_rfl));cases e;have T:Txt (KF w.params) mg:=⟨kz _ (by kernel_rfl),kz _ (by kernel_rfl),kz _ (by kernel_rfl),kz _ (by kernel_rfl),kz _ (by kernel_rfl),kz _ (by kernel_rfl),kz _ (by kernel_rfl),kz _ (by kernel_rfl),kz _ (by kernel_rfl),kz _ (by kernel_rfl),kz _ (by kernel_rfl),kz _ (by kernel_rfl),kz _ (by kernel_rfl),kz _ (by kernel_rfl),kz _ (by kernel_rfl)⟩;have F0:=fMk (K:=KF w.params) 21 "bits_of" zEi mA_ 20;have F1:=fMk (K:=KF w.params) 28 "mask_of" zEh mA_ 27;have F2:=fMk (K:=KF w.params) 38 "has_within" zC0 mA_ 37;have F3:=fMk (K:=KF w.params) 50 "masks_around" zBy mB_ 49;have F4:=fMk (K:=KF w.params) 55 "_law_deal" zBu mC_ 54;have F5:=fMk (K:=KF w.params) 62 "_law_draw" zD6 mC_ 61;have F6:=fMk (K:=KF w.params) 69 "_law_whole" zCq mC_ 68;have F7:=fMk (K:=KF w.params) 79 "_law_least" zB5 mC_ 78;have F8:=fMk (K:=KF w.params) 96 "_law_breaks" zBn mC_ 95;have F9:=fMk (K:=KF w.params) 33 "masks_of" zD0 mA_ 32;have F10:=fMk (K:=KF w.params) 74 "_law_cells" zC2 mC_ 73;have F11:=fMk (K:=KF w.params) 91 "_law_island" zCc mC_ 90;have F12:=fMk (K:=KF w.params) 101 "_law_stepped" zB4 mC_ 100;have F13:=fMk (K:=KF w.params) 43 "beat" zJ9 mB_ 42;have F14:=fMk (K:=KF w.params) 84 "_law_plain" zBh mC_ 83;have F15:=fMk (K:=KF w.params) 111 "_law_great" zBi mC_ 110;have F16:=fMk (K:=KF w.params) 106 "_law_right" zC1 mC_ 105;have F17:=fMk (K:=KF w.params) 118 "law" zG7 mC_ 117;refine⟨PySem.W.fnOf "law" "law" (zDl zG7) (zCo zG7) (zA7 zG7) .none .none .none mC_ none (.ref 117) .none,λs v=>.of_eq rfl,λbase _ _=>?_⟩;have C_bits_of:zKc PySem.Challenge.pw_healfloor_k45_a_beat w (KF w.params) mg base:=⟨_,_,zN1 F0 T,ka _ (.ref 21) (by kernel_rfl),F0.kp,F0.binds (ps:=["rows"]) λ_ _ _ _ _ _ us hl=>by obtain⟨_,rfl⟩:=len1 hl;rfl⟩;have C_mask_of:zKb PySem.Challenge.pw_healfloor_k45_a_beat w (KF w.params) mg base:=⟨_,_,zN0 F1 T,ka _ (.ref 28) (by kernel_rfl),F1.kp,F1.binds (ps:=["row","bits"]) λ_ _ _ _ _ _ us hl=>by obtain⟨_,_,rfl⟩:=len2 hl;rfl⟩;have C_has_within:zFg PySem.Challenge.pw_healfloor_k45_a_beat w (KF w.params) mg base:=⟨_,_,zI5 F2 T,ka _ (.ref 38) (by kernel_rfl),F2.kp,F2.binds (ps:=["mask","others"]) λ_ _ _ _ _ _ us hl=>by obtain⟨_,_,rfl⟩:=len2 hl;rfl⟩;have C_masks_around:zE9 PySem.Challenge.pw_healfloor_k45_a_beat w (KF w.params) mg base:=⟨_,_,zG8 F3 T,ka _ (.ref 50) (by kernel_rfl),F3.kp,F3.binds (ps:=["bits","island"]) λ_ _ _ _ _ _ us hl=>by obtain⟨_,_,rfl⟩:=len2 hl;rfl⟩;have C__law_deal:zGx PySem.Challenge.pw_healfloor_k45_a_beat w (KF w.params) mg base:=⟨_,_,zJg F4 T,ka _ (.ref 55) (by kernel_rfl),F4.kp,F4.binds (ps:=["_law_script","_law_base"]) λ_ _ _ _ _ _ us hl=>by obtain⟨_,_,rfl⟩:=len2 hl;rfl⟩;have C__law_draw:zBw PySem.Challenge.pw_healfloor_k45_a_beat w (KF w.params) mg base:=⟨_,_,zJf F5 T,ka _ (.ref 62) (by kernel_rfl),F5.kp,F5.binds (ps:=["_law_deal_here","_law_many"]) λ_ _ _ _ _ _ us hl=>by obtain⟨_,_,rfl⟩:=len2 hl;rfl⟩;have C__law_whole:zFh PySem.Challenge.pw_healfloor_k45_a_beat w (KF w.params) mg base:=⟨_,_,zI6 F6 T,ka _ (.ref 69) (by kernel_rfl),F6.kp,F6.binds (ps:=["_law_number"]) λ_ _ _ _ _ _ us hl=>by obtain⟨_,rfl⟩:=len1 hl;rfl⟩;have C__law_least:zDq PySem.Challenge.pw_healfloor_k45_a_beat w (KF w.params) mg base:=⟨_,_,zI9 F7 T,ka _ (.ref 79) (by kernel_rfl),F7.kp,F7.binds (ps:=["_law_rows"]) λ_ _ _ _ _ _ us hl=>by obtain⟨_,rfl⟩:=len1 hl;rfl⟩;have C__law_breaks:zEx PySem.Challenge.pw_healfloor_k45_a_beat w (KF w.params) mg base:=⟨_,_,zH1 F8 T,ka _ (.ref 96) (by kernel_rfl),F8.kp,F8.binds (ps:=n_16) λ_ _ _ _ _ _ us hl=>by obtain⟨_,_,_,_,rfl⟩:=len4 hl;rfl⟩;have C_masks_of:zHl PySem.Challenge.pw_healfloor_k45_a_beat w (KF w.params) mg base:=⟨_,_,zKl F9 T C_mask_of,ka _ (.ref 33) (by kernel_rfl),F9.kp,F9.binds (ps:=["rows","bits"]) λ_ _ _ _ _ _ us hl=>by obtain⟨_,_,rfl⟩:=len2 hl;rfl⟩;have C__law_cells:zDr PySem.Challenge.pw_healfloor_k45_a_beat w (KF w.params) mg base:=⟨_,_,zIb F10 T C__law_draw,ka _ (.ref 74) (by kernel_rfl),F10.kp,F10.binds (ps:=n_17) λ_ _ _ _ _ _ us hl=>by obtain⟨_,_,_,rfl⟩:=len3 hl;rfl⟩;have C__law_island:zEw PySem.Challenge.pw_healfloor_k45_a_beat w (KF w.params) mg base:=⟨_,_,zH0 F11 T C__law_draw,ka _ (.ref 91) (by kernel_rfl),F11.kp,F11.binds (ps:=["_law_deal_here","_law_plain_here"]) λ_ _ _ _ _ _ us hl=>by obtain⟨_,_,rfl⟩:=len2 hl;rfl⟩;have C__law_stepped:zEa PySem.Challenge.pw_healfloor_k45_a_beat w (KF w.params) mg base:=⟨_,_,zG9 F12 T C__law_breaks,ka _ (.ref 101) (by kernel_rfl),F12.kp,F12.binds (ps:=["_law_plain_here","_law_island_here"]) λ_ _ _ _ _ _ us hl=>by obtain⟨_,_,rfl⟩:=len2 hl;rfl⟩;have C_beat:zVl PySem.Challenge.pw_healfloor_k45_a_beat w (KF w.params) mg base:=⟨_,_,zX8 F13 T C_bits_of C_masks_of C_masks_around C_has_within,ka _ (.ref 43) (by kernel_rfl),F13.kp,F13.binds (ps:=["plain","island"]) λ_ _ _ _ _ _ us hl=>by obtain⟨_,_,rfl⟩:=len2 hl;rfl⟩;have C__law_plain:zFj PySem.Challenge.pw_healfloor_k45_a_beat w (KF w.params) mg base:=⟨_,_,zI8 F14 T C__law_draw C__law_cells C__law_least,ka _ (.ref 84) (by kernel_rfl),F14.kp,F14.binds (ps:=n_18) λ_ _ _ _ _ _ us hl=>by obtain⟨_,_,_,rfl⟩:=len3 hl;rfl⟩;have C__law_great:zFk PySem.Challenge.pw_healfloor_k45_a_beat w (KF w.params) mg base:=⟨_,_,zIa F15 T C__law_draw C__law_least C__law_cells,ka _ (.ref 111) (by kernel_rfl),F15.kp,F15.binds (ps:=["_law_deal_here"]) λ_ _ _ _ _ _ us hl=>by obtain⟨_,rfl⟩:=len1 hl;rfl⟩;have C__law_right:zFi PySem.Challenge.pw_healfloor_k45_a_beat w (KF w.params) mg base:=⟨_,_,zI7 F16 T C_beat C__law_stepped C__law_whole,ka _ (.ref 106) (by kernel_rfl),F16.kp,F16.binds (ps:=["_law_plain_here","_law_island_here"]) λ_ _ _ _ _ _ us hl=>by obtain⟨_,_,rfl⟩:=len2 hl;rfl⟩;exact yAx F17 T C__law_deal C__law_draw C__law_great C__law_plain C__law_island C__law_right
def walk{l:PySem.W.OpenLaw}{q:Program}{loose:List Str}{XP:(Str->Option Value)->Heap->Prop}{YP:World->Heap->Prop}{d:DefRec}{K:Params->PySem.W.Frag}(hn:l.most=some 63)(hdf:d.params.defaults=[])
  (hY:∀(w:World) (h:Heap),YP w h->(K w.params).In h)
  (F:∀(w:World) (mg:Str->Option Value) (fa:Addr) (h:Heap),(K w.params).In h->h.Ns mainGlobals mg->mg d.name=some (.ref fa)->
   ∃fd:FuncData,(∀(s:Shared) (u:Value),BindsTo s fd ⟨[u],[]⟩ [("_law_script",u)])/\∀base:Heap,(K w.params).In base->base.Ns mainGlobals mg->FnOk l.prog w (K w.params) mg base CX0 5 fa fd ["_law_script"] (spOf (K w.params) XE0 DP.zNc)):
  PySem.W.WalkO q loose XP YP l.row.toRowW d [] (λf vs=>PySem.call f vs):=
 L2.walk_of (n:=63) (k:=5) (x:="_law_script") (CX:=λ_=>CX0) (sp:=λw=>spOf (K w.params) XE0 DP.zNc) hn (by decide) hdf ⟨rfl,by decide,by decide⟩ hY F (λ_ _ a ns hl _ hS=>zOe (DP.law_ok ns hl) hS) λ_ _ _ _ _ z=>z
noncomputable abbrev dl:DefRec:=⟨"law",zDl zG7,zCo zG7,zA7 zG7,match zG7 with|.FunctionDef _ _ _ _ _ _ _ _ _ p=>p|_=>⟨0,0,0,0⟩⟩
end Law
open PySem PySem.W PyProof.Rows
set_option maxRecDepth 100000 in
theorem PySem.Challenge.cw_healfloor_k45_a_beat_holds : PySem.Challenge.rw_healfloor_k45_a_beat.Holds := by
 refine PySem.W.holds_law (by decide +kernel) fun said=>PySem.W.holds_open (r:=PySem.W.OpenLaw.row PySem.Challenge.rw_healfloor_k45_a_beat) (q:=Law.view) (loose:=[]) (Xt:=fun s=>xlAt Law.view [] s && recOk [] s) (XP:=XL Law.view []) (YP:=Hook.says Law.hk) (d:=Law.dl) (kwd:=[]) Law.left (Hook.of Law.hk) (Hook.keeps Law.hk) (fun s e=>xl_of s (Bool.and_eq_true_iff.mp e).1) XL.keeps (by kernel_rfl) (by kernel_rfl) (by kernel_rfl) (fun s e=>recFacts_of (Bool.and_eq_true_iff.mp e).2) (by kernel_rfl) said (by decide +kernel) ⟨by kernel_rfl,by kernel_rfl,by kernel_rfl,by kernel_rfl,by kernel_rfl,by decide +kernel⟩ ?hw ?hc
 case hw=>w_witness2
 case hc=>exact Law.walk (l:=PySem.Challenge.rw_healfloor_k45_a_beat) (K:=Law.KF) (by kernel_rfl) (by kernel_rfl) (fun w h Y=>PySem.W.kIn_of Y) fun w mg fa h KX G hmg=>Law.all_mk KX G hmg
