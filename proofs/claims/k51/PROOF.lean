import PyProof.Rows.All
import Wide.All
import OpenK.AllK
import Wide.FinOn
import Lean
import PyProof.ReprBulk
import PyProof.Rows.ReprShort
import PySem.Challenge.RW_healfloor_k51_rules_carried_and_led
set_option bootstrap.genMatcherCode false
set_option genSizeOf false
set_option compiler.extract_closed false
local macro_rules|`(tactic|nofun)=>`(tactic|first|assumption|lia)
local macro_rules|`(tactic|trivial)=>`(tactic|first|exact Or.inl rfl|exact Or.inr rfl)
abbrev xc:=@PySem.wpAny_bind
abbrev xf:=@if_pos
abbrev xg:=@if_neg
abbrev xh:=@PySem.wpAny_pure
abbrev xi:=@PyProof.Rows.wpS_bind
abbrev xj:=@PyProof.Rows.wpS_pure
abbrev xk:=@Nat.le_refl
abbrev xl:=@List.length_map
abbrev xm:=@Nat.le_trans
abbrev xn:=@List.mem_map
abbrev xo:=@List.mem_cons
abbrev xp:=@List.map_cons
abbrev xq:=@PySem.Heap.lt_size
abbrev xr:=@if_true
abbrev xt:=@PySem.Heap.get?_push_of_some
abbrev xu:=@List.size_toArray
abbrev xv:=@PySem.Heap.get?_push_size
abbrev xw:=@List.append_assoc
abbrev xx:=@decide_eq_true
abbrev xy:=@decide_eq_false
abbrev xA:=@Nat.ne_of_lt
abbrev xB:=@Nat.lt_of_lt_of_le
abbrev xC:=@List.map_map
abbrev xD:=@List.length_cons
abbrev xE:=@Bool.and_eq_true
abbrev xF:=@List.getElem?_eq_getElem
abbrev xG:=@Ne.symm
abbrev xH:=@List.length_append
abbrev xI:=@List.mem_singleton
abbrev xJ:=@if_false
abbrev xK:=@PySem.wpAny_call_entry
abbrev xM:=@Option.some.inj
abbrev xN:=@Nat.le_of_lt
abbrev xO:=@List.getElem?_eq_some_iff
abbrev xP:=@PySem.wpAny_holding
abbrev xQ:=@PySem.wpAny_newObj_type
abbrev xR:=@List.mem_append_right
abbrev xS:=@List.mem_cons_self
abbrev xT:=@Nat.zero_le
abbrev xU:=@Bool.false_eq_true
abbrev xV:=@List.getElem?_map
abbrev xW:=@PyProof.Rows.wpS_forRange
abbrev xX:=@List.mem_append
abbrev xY:=@List.length_range
abbrev xZ:=@Int.toNat_natCast
abbrev x4:=@decide_eq_decide
abbrev x8:=@List.map_nil
abbrev vc:=@List.lookup_cons
abbrev vd:=@Nat.zero_add
abbrev ve:=@PyProof.Rows.wpS_mono
abbrev vf:=@List.mem_cons_of_mem
abbrev vg:=@Array.length_toList
abbrev vh:=@List.length_take
abbrev vi:=@PySem.wpAny_callSpecial?_slot
abbrev vj:=@Array.toList_append
abbrev vk:=@Nat.lt_irrefl
abbrev vm:=@PySem.wpAny_mono
abbrev vn:=@PySem.wpAny_rule
abbrev vo:=@List.nodup_cons
abbrev vp:=@Prod.ext
abbrev vq:=@PySem.wpAny_field
abbrev vt:=@Array.getElem?_eq_getElem
abbrev vv:=@Nat.mod_lt
abbrev vw:=@PyProof.Rows.wpS_modify
abbrev vx:=@List.mem_range
abbrev vy:=@List.getElem?_append_left
abbrev vz:=@Nat.lt_or_ge
abbrev vA:=@List.take_append_drop
abbrev vB:=@Int.emod_lt_of_pos
abbrev vC:=@Int.emod_nonneg
abbrev vD:=@List.mem_append_left
abbrev vE:=@Bool.false_ne_true
abbrev vF:=@PySem.sizeLine_eq
abbrev vG:=@List.getElem?_append_right
abbrev vH:=@List.nodup_nil
abbrev vI:=@Array.getD_eq_getD_getElem?
abbrev vJ:=@PySem.Heap.SameBut.update
abbrev vK:=@List.pairwise_map
abbrev vL:=@Nat.lt_trans
abbrev vM:=@PySem.Heap.size_push
abbrev vN:=@Array.getElem?_eq_some_iff
abbrev vO:=@Option.map_some
abbrev vP:=@List.map_congr_left
abbrev vQ:=@List.map_append
abbrev vR:=@List.pairwise_cons
abbrev vS:=@List.getElem?_eq_none
abbrev vT:=@List.getElem?_set_ne
abbrev vU:=@Option.map_eq_some_iff
abbrev vV:=@List.all_eq_true
abbrev vW:=@List.all_cons
abbrev vX:=@List.getElem?_cons_zero
abbrev vY:=@PySem.wpAny_setState_of
abbrev vZ:=@PySem.wpAny_attempt
abbrev v3:=@PySem.wpAny_setField
abbrev v5:=@PySem.Obj.data_mapFields
abbrev v7:=@PySem.wpAny_isInstance
abbrev v8:=@Nat.pow_le_pow_right
abbrev ua:=@PySem.wpAny_dictEntries
abbrev ub:=@PySem.F.called_set
abbrev uc:=@List.filterMap_cons
abbrev ud:=@List.getElem?_set_self
abbrev ue:=@PySem.wpAny_passesOwn
abbrev uf:=@PySem.wpAny_truthy_bool
abbrev ug:=@List.append_nil
abbrev uh:=@List.take_sublist
abbrev ui:=@PyProof.Rows.slot_tuple_getitem
abbrev uj:=@PySem.Heap.get?_update_self
abbrev uk:=@List.mem_iff_getElem
abbrev um:=@List.foldl_cons
abbrev uo:=@List.zip_cons_cons
abbrev uq:=@List.cons_append
abbrev ur:=@PySem.wpAny_of_eq
abbrev uv:=@List.perm_append_comm
abbrev uw:=@PySem.wpAny_forIn_list
abbrev uy:=@Bool.not_true
abbrev uz:=@List.filter_cons_of_pos
abbrev uA:=@PySem.wpAny_dictEpoch
abbrev uB:=@PySem.Paired.length
abbrev uC:=@List.mem_filterMap
abbrev uD:=@PySem.mem_of_lookup
abbrev uE:=@List.getElem?_take_of_lt
abbrev uF:=@List.mem_of_getElem?
abbrev uG:=@List.find?_cons
abbrev uH:=@List.length_nil
abbrev uI:=@List.length_singleton
abbrev uJ:=@Nat.lt_of_le_of_lt
abbrev uK:=@List.mem_iff_getElem?
abbrev uL:=@Nat.lt_succ_of_lt
abbrev uM:=@List.getD_eq_getElem?_getD
abbrev uN:=@PySem.wpAny_pyIter_list
abbrev uO:=@PySem.wpAny_specialOf
abbrev uP:=@Classical.byContradiction
abbrev uQ:=@List.drop_sublist
abbrev uR:=@of_decide_eq_true
abbrev uS:=@PySem.codeAny_builtin
abbrev uT:=@PySem.wpAny_fieldsOf
abbrev uU:=@Array.getElem?_toList
abbrev uV:=@decide_eq_true_iff
abbrev uW:=@List.mem_filter
abbrev uX:=@PySem.wpAny_Call_Name_kw
abbrev uY:=@PySem.tupleKind_room_in1
abbrev uZ:=@List.length_drop
abbrev u0:=@PySem.Heap.get?_update_other
abbrev u3:=@Bool.not_eq_true
abbrev u5:=@Bool.eq_iff_iff
abbrev u7:=@List.take_of_length_le
abbrev u9:=@List.perm_middle
abbrev ya:=@PySem.wpAny_askSetting
abbrev yb:=@Array.getElem?_eq_none
abbrev yc:=@PySem.wpAny_pyIter_slot
abbrev yd:=@List.nodup_append
abbrev ye:=@List.Perm.append_left
abbrev yf:=@Array.toList_inj
abbrev yg:=@PySem.F.slot_tuple_hash
abbrev yh:=@PySem.wpAny_tupleItemsOf
abbrev yi:=@List.filter_cons_of_neg
abbrev yj:=@List.not_mem_nil
abbrev yk:=@List.getElem?_cons_succ
abbrev ym:=@PySem.F.slot_dict_keyiterator_next
abbrev yn:=@PySem.F.slot_dict_valueiterator_next
abbrev yo:=@PySem.F.slot_dict_itemiterator_next
abbrev yp:=@PySem.wpAny_setField_rec
abbrev yq:=@PyProof.Rows.callWith_type1
abbrev yr:=@Int.fdiv_eq_ediv_of_nonneg
abbrev yt:=@List.pairwise_iff_getElem
abbrev yu:=@Array.toList_extract
abbrev yv:=@PySem.Obj.isFreed_of_fields
abbrev yw:=@PySem.F.slot_tuple_iterator_next
abbrev yx:=@List.dropLast_concat_getLast
abbrev yy:=@PyProof.Rows.F.plain_set_update_loop
abbrev yz:=@PySem.wpAny_typeNameOfWhole_itemiter
abbrev yA:=@List.zipIdx_map_fst
abbrev yB:=@List.set_append_right
abbrev yC:=@List.length_filter_le
set_option linter.all false
set_option maxRecDepth 100000
set_option Elab.async false
set_option maxHeartbeats 8000000
set_option autoImplicit true
set_option relaxedAutoImplicit true
noncomputable section
set_option hygiene false
set_option hygiene true
namespace L2
open PySem PySem.Spec PyProof.Rows
noncomputable abbrev Key:=Sum Int Str
noncomputable def zKw:Key->Value->Bool
 | .inl k,v=>Value.isInt k v
 | .inr x,v=>Value.isStrOf x v
noncomputable def keyH (w:World):Key->Int
 | .inl k=>hashInt k
 | .inr x=>hashStr w x
theorem zAp:∀{k:Key}{v:Value},zKw k v=true->(∃i t,k=Sum.inl i/\v=Value.int i t)\/(∃x t,k=Sum.inr x/\v=Value.str x t)
 | .inl i,v,h=>by
  obtain⟨t,e⟩:=Value.isInt_shape (k:=i) (v:=v) h;exact .inl ⟨i,t,rfl,e⟩
 | .inr x,v,h=>by
  obtain⟨t,e⟩:=Value.isStrOf_shape (x:=x) (v:=v) h;exact .inr ⟨x,t,rfl,e⟩
theorem zNa(i:Int)(t:Tok):zKw (.inl i) (.int i t)=true:=by simp[zKw,Value.isInt]
theorem zN9(x:Str)(t:Tok):zKw (.inr x) (.str x t)=true:=by simp[zKw,Value.isStrOf]
theorem zZ1(a b:Int):decide ((Sum.inl a:Key)=Sum.inl b)=(a == b):=by
 by_cases e:a=b
 ·subst e;simp
 ·have h:¬ (Sum.inl a:Key)=Sum.inl b:=λq=>e (Sum.inl.inj q)
  rw[xy h];exact(beq_eq_false_iff_ne.mpr e).symm
theorem zYy(a b:Str):decide ((Sum.inr a:Key)=Sum.inr b)=decide (a=b):=by
 by_cases e:a=b
 ·subst e;simp
 ·have h:¬ (Sum.inr a:Key)=Sum.inr b:=λq=>e (Sum.inr.inj q)
  rw[xy h,xy e]
theorem zZ0(a:Int)(b:Str):decide ((Sum.inl a:Key)=Sum.inr b)=false:=xy (λq=>nomatch q)
theorem zYz(a:Str)(b:Int):decide ((Sum.inr a:Key)=Sum.inl b)=false:=xy (λq=>nomatch q)
noncomputable def zAu (prog:Program) (w:World):PySem.KeyKind prog w Key where
 is:=zKw
 hash:=keyH w
 inj:=λv a b ha hb=>by
  rcases zAp ha with⟨i,t,rfl,rfl⟩|⟨x,t,rfl,rfl⟩
  ·rcases zAp hb with⟨j,u,rfl,e⟩|⟨y,u,rfl,e⟩
   ·injection e with e1 _;rw[e1]
   ·exact nomatch e
  ·rcases zAp hb with⟨j,u,rfl,e⟩|⟨y,u,rfl,e⟩
   ·exact nomatch e
   ·injection e with e1 _;rw[e1]
 byValue:=λk v h=>by
  rcases zAp h with⟨i,t,rfl,rfl⟩|⟨x,t,rfl,rfl⟩ <;> rfl
 pyHash:=λhv h=>by
  rcases zAp hv with⟨i,t,rfl,rfl⟩|⟨x,t,rfl,rfl⟩
  ·exact wpAny_pyHash_int h
  ·exact wpAny_pyHash_str h
 eqBool:=λhu hv h=>by
  rcases zAp hu with⟨i,t,rfl,rfl⟩|⟨x,t,rfl,rfl⟩
  ·rcases zAp hv with⟨j,u,rfl,rfl⟩|⟨y,u,rfl,rfl⟩
   ·rw[zZ1]at h;exact wpAny_eqBool_int h
   ·rw[zZ0]at h;exact SeqAt.EqAt.int_str i t y u _ _ _ _ h
  ·rcases zAp hv with⟨j,u,rfl,rfl⟩|⟨y,u,rfl,rfl⟩
   ·rw[zYz]at h;exact SeqAt.EqAt.str_int x t j u _ _ _ _ h
   ·rw[zYy]at h;exact wpAny_eqBool_str h
 «strs»:=λk x t v h=>by
  rcases zAp h with⟨i,u,rfl,e⟩|⟨y,u,rfl,e⟩
  ·exact nomatch e
  ·injection e with e1 _
   subst e1;cases v <;> rfl
theorem zI7(prog:Program)(w:World)(i:Int)(t:Tok):(zAu prog w).is (.inl i) (.int i t)=true:=zNa i t
theorem zI6(prog:Program)(w:World)(x:Str)(t:Tok):(zAu prog w).is (.inr x) (.str x t)=true:=zN9 x t
inductive V where
 | non|bl (b:Bool)|int (i:Int)|str (x:Str)|byt (b:Array UInt8)|flt (b:UInt64)|ref (a:Addr)|ty (n:String)
 deriving DecidableEq
def RelV:V->Value->Prop
 | .non,u=>u=Value.none
 | .bl b,u=>u=Value.bool b
 | .int i,u=>∃t,u=Value.int i t
 | .str x,u=>∃t,u=Value.str x t
 | .byt b,u=>∃t,u=Value.bytes b t
 | .flt b,u=>∃t,u=Value.float b t
 | .ref a,u=>u=Value.ref a
 | .ty n,u=>u=Value.type n
abbrev Vals:List V->List Value->Prop:=Paired RelV
theorem Vals.length{xs:List V}{us:List Value}(r:Vals xs us):xs.length=us.length:=uB r
theorem Vals.get:∀{xs:List V}{us:List Value}{i:Nat}{x:V},Vals xs us->xs[i]?=some x->∃u,us[i]?=some u/\RelV x u
 | _,_,_,_,.nil,e=>by simp at e
 | _,_,0,_,.cons r _,e=>by simp at e;subst e;exact⟨_,rfl,r⟩
 | _,_,i+1,x,.cons _ t,e=>by
  obtain⟨u,h1,h2⟩:=Vals.get (i:=i) (x:=x) t (by simpa using e);exact⟨u,by simpa using h1,h2⟩
theorem Vals.set(r:RelV x u):∀{xs:List V}{us:List Value}(i:Nat),Vals xs us->Vals (xs.set i x) (us.set i u)
 | _,_,_,.nil=>.nil
 | _,_,0,.cons _ t=>.cons r t
 | _,_,i+1,.cons q t=>.cons q (Vals.set r i t)
theorem Vals.append:∀{xs ys:List V}{us ws:List Value},Vals xs us->Vals ys ws->Vals (xs++ys) (us++ws)
 | _,_,_,_,.nil,s=>s
 | _,_,_,_,.cons r t,s=>.cons r (Vals.append t s)
theorem Vals.take:∀{xs:List V}{us:List Value}(n:Nat),Vals xs us->Vals (xs.take n) (us.take n)
 | _,_,0,_=>.nil
 | _,_,_+1,.nil=>.nil
 | _,_,n+1,.cons r t=>.cons r (Vals.take n t)
theorem Vals.drop:∀{xs:List V}{us:List Value}(n:Nat),Vals xs us->Vals (xs.drop n) (us.drop n)
 | _,_,0,r=>r
 | _,_,_+1,.nil=>.nil
 | _,_,n+1,.cons _ t=>Vals.drop n t
def RelO:Option V->Option Value->Prop
 | some v,some u=>RelV v u
 | none,none=>True
 | _,_=>False
def KV{κ:Type}:List (κ × V)->List (κ × Value)->Prop:=Paired fun(p:κ × V) (q:κ × Value)=>p.1=q.1/\RelV p.2 q.2
noncomputable def kV:Key->V
 | .inl i=>.int i
 | .inr x=>.str x
inductive HO where
 /-- a list -/
 | lst (xs:List V)
 /-- a tuple (never changes) -/
 | tup (xs:List V)
 /-- a dict whose keys are ints and texts;one whose keys are tuples of ints and texts (the empty one is both) -/
 | dK (kvs:List (Key × V))|dT (kvs:List (List Key × V))
 /-- a set of ints: its members,its size -/
 | set (S:Int->Bool) (n:Nat)
 /-- an instance of the class at C,its dict at dx,its attributes -/
 | ins (C dx:Addr) (fs:List (Str × V))
 /-- the dict of the instance at x -/
 | own (x:Addr)
 /-- the dict of an exception -/
 | xd (fs:List (Str × V))
 /-- a bound method,f of x -/
 | met (f x:Addr)
 /-- a range object lo,lo+1,.. below hi -/
 | rng (lo hi:Int)
 /-- a thing that is known to the object (the script;a dict while a loop walks it): read,never written while it is so -/
 | frz (o:Obj) (u:HO)
 /-- a code object's table -/
 | tbl (ps:Array Value)
 /-- any other thing,by what is true of its one object (a def of one's own: SetO a S n:=HO.ext λh=>..) -/
 | ext (φ:Heap->Prop)
noncomputable abbrev Hp:=Addr->Option HO
noncomputable def upd (H:Hp) (a:Addr) (o:HO):Hp:=λb=>if b=a then some o else H b
theorem zAe :upd H a o a=some o:=by unfold upd;rw[xf rfl]
theorem zAb{H:Hp}(h:b≠a):upd H a o b=H b:=by unfold upd;rw[xg h]
theorem zYl{H:Hp}(h:H a=some o)(h':H b=some u)(d:o≠u):a≠b:=by intro e;subst e;rw[h]at h';exact d (xM h')
theorem zAa{H:Hp}(h:H a=some o)(h':H b=none):a≠b:=by intro e;subst e;rw[h]at h';cases h'
section
variable (P:Program) (w:World)
def ObjOk(H:Hp)(h:Heap)(a:Addr):HO->Prop
 | .lst xs=>xs.length<=sizeLine/\∃(its:List Value) (n:Nat),Vals xs its/\h.get? a=some { cls:=.type "list",data:=.seq its.toArray n }
 | .tup xs=>xs.length<=sizeLine/\∃its:List Value,Vals xs its/\IsTup h a its.toArray
 | .dK kvs=>kvs.length<=sizeLine/\(a == sysModules)=false/\∃vs,KV kvs vs/\h.DictOf (zAu P w) a vs
 | .dT kvs=>kvs.length<=sizeLine/\(a == sysModules)=false/\∃xs:List (List Key × Addr × Value),
   Paired (fun(p:List Key × V) (q:List Key × Addr × Value)=>p.1=q.1/\H q.2.1=some (.tup (p.1.map kV))/\RelV p.2 q.2.2) kvs xs /\
   ∃o es ep,h.get? a=some o/\o.ExactDict/\o.data=.dict es ep/\es.toList=xs.map (entryOfKey (tupleKind (zAu P w)))/\(xs.map (·.1)).Nodup
 | .set S n=>h.SetOf (intKind P w) a S n
 | .ins C dx fs=>H dx=some (.own a)/\fs.length<=1000/\dx≠a/\h.get? a=some (PySem.W.instObj C dx) /\
   ∃mA,h.Ns1 dx mA/\(∀f,RelO (fs.lookup f) (mA f))/\PySem.Within mA (fs.map (·.1))
 | .own _=>∃o,h.get? a=some o
 | .xd fs=>∃mA,h.Ns1 a mA/\∀f,RelO (fs.lookup f) (mA f)
 | .rng lo hi=>∃t u v,h.get? a=some { cls:=.type "range",data:=.fields #[.int lo t,.int hi u,.int 1 v] }
 | .frz o u=>h.get? a=some o/\ObjOk H h a u
 | .tbl ps=>h.get? a=some { cls:=.none,data:=.fields ps }
 | .met f x=>h.get? a=some (PySem.W.methodObj (.ref f) (.ref x))
 | .ext φ=>φ h/\(∃o,h.get? a=some o)/\∀h1 h2:Heap,φ h1->(∀o,h1.get? a=some o->h2.get? a=some o)->φ h2
def HOk(H:Hp)(h:Heap):Prop:=∀a o,H a=some o->ObjOk P w H h a o
end
section
variable {P:Program}{w:World}{H H':Hp}{h h':Heap}{a:Addr}{o:HO}
theorem ObjOk.lt(x:ObjOk P w H h a o):a<h.objs.size:=by
 cases o with
 | lst xs=>obtain⟨_,_,_,_,e⟩:=x;exact xq e
 | tup xs=>obtain⟨_,_,_,p⟩:=x;exact p.lt
 | dK kvs=>obtain⟨_,_,_,_,o,_,_,e,_⟩:=x;exact xq e
 | dT kvs=>obtain⟨_,_,_,_,o,_,_,e,_⟩:=x;exact xq e
 | set S n=>obtain⟨o,_,_,_,e,_⟩:=x;exact xq e
 | ins C dx fs=>obtain⟨_,_,_,e,_⟩:=x;exact xq e
 | own y=>obtain⟨_,e⟩:=x;exact xq e
 | xd fs=>obtain⟨_,⟨_,_,_,e,_⟩,_⟩:=x;exact xq e
 | rng lo hi=>obtain⟨_,_,_,e⟩:=x;exact xq e
 | frz ob u=>obtain⟨e,_⟩:=x;exact xq e
 | tbl ps=>exact xq (show h.get? a=some _ from x)
 | met f y=>exact xq (show h.get? a=some _ from x)
 | ext φ=>obtain⟨_,⟨_,e⟩,_⟩:=x;exact xq e
theorem Paired.mapP{α β:Type}{F G:α->β->Prop}:∀{l₁:List α}{l₂:List β},Paired F l₁ l₂->(∀a b,F a b->G a b)->Paired G l₁ l₂
 | _,_,.nil,_=>.nil
 | _,_,.cons r t,f=>.cons (f _ _ r) (Paired.mapP t f)
theorem ObjOk.stay(x:ObjOk P w H h a o)(k:∀b u,(b=a\/H b=some (.own a))->h.get? b=some u->h'.get? b=some u)
  (ho:∀b,H b=some (.own a)->H' b=some (.own a)) (ht:∀b xs,H b=some (.tup xs)->H' b=some (.tup xs)):ObjOk P w H' h' a o:=by
 induction o with
 | lst xs=>obtain⟨z,its,n,r,e⟩:=x;exact⟨z,its,n,r,k _ _ (.inl rfl) e⟩
 | tup xs=>obtain⟨z,its,r,ob,e,c⟩:=x;exact⟨z,its,r,ob,k _ _ (.inl rfl) e,c⟩
 | dK kvs=>obtain⟨z,y,vs,r,ob,es,ep,e,c⟩:=x;exact⟨z,y,vs,r,ob,es,ep,k _ _ (.inl rfl) e,c⟩
 | dT kvs=>
  obtain⟨z,y,xs,r,ob,es,ep,e,c⟩:=x;exact⟨z,y,xs,Paired.mapP r λp q z=>⟨z.1,ht _ _ z.2.1,z.2.2⟩,ob,es,ep,k _ _ (.inl rfl) e,c⟩
 | set S n=>obtain⟨ob,es,ep,t,e,c⟩:=x;exact⟨ob,es,ep,t,k _ _ (.inl rfl) e,c⟩
 | ins C dx fs=>
  obtain⟨d,z,ne,e,mA,⟨od,es,ep,e2,c⟩,r⟩:=x;exact⟨ho _ d,z,ne,k _ _ (.inl rfl) e,mA,⟨od,es,ep,k _ _ (.inr d) e2,c⟩,r⟩
 | own y=>obtain⟨ob,e⟩:=x;exact⟨ob,k _ _ (.inl rfl) e⟩
 | xd fs=>obtain⟨mA,⟨od,es,ep,e,c⟩,r⟩:=x;exact⟨mA,⟨od,es,ep,k _ _ (.inl rfl) e,c⟩,r⟩
 | rng lo hi=>obtain⟨t,u,v,e⟩:=x;exact⟨t,u,v,k _ _ (.inl rfl) e⟩
 | frz ob u ih=>obtain⟨e,q⟩:=x;exact⟨k _ _ (.inl rfl) e,ih q⟩
 | tbl ps=>
  have e:h.get? a=some { cls:=.none,data:=.fields ps }:=x;show h'.get? a=some { cls:=.none,data:=.fields ps };exact k a _ (.inl rfl) e
 | met f y=>
  have e:h.get? a=some (PySem.W.methodObj (.ref f) (.ref y)):=x;show h'.get? a=some (PySem.W.methodObj (.ref f) (.ref y));exact k a _ (.inl rfl) e
 | ext φ=>obtain⟨p,⟨o,e⟩,st⟩:=x;exact⟨st _ _ p λo q=>k _ _ (.inl rfl) q,⟨o,k _ _ (.inl rfl) e⟩,st⟩
theorem HOk.lt(x:HOk P w H h)(e:H a=some o):a<h.objs.size:=(x a o e).lt
theorem HOk.fresh(x:HOk P w H h)(e:h.objs.size<=a):H a=none:=by
 cases q:H a with
 | none=>rfl
 | some u=>exact absurd (xB (x.lt q) e) (vk _)
theorem HOk.kept(x:HOk P w H h)(k:∀b u,h.get? b=some u->h'.get? b=some u):HOk P w H h':=λa o e=>
 (x a o e).stay (λb u _ q=>k b u q) (λ_ q=>q) λ_ _ q=>q
theorem HOk.laid(x:HOk P w H h)(k:∀b u,h.get? b=some u->h'.get? b=some u)(hp:h.objs.size<=a)(new:ObjOk P w (upd H a o) h' a o):HOk P w (upd H a o) h':=λb u e=>by
 have hn:=x.fresh hp;by_cases hb:b=a
 ·subst hb;rw[zAe]at e;cases e;exact new
 ·rw[zAb hb]at e;exact(x b u e).stay (λc v _ q=>k c v q) (λc q=>by rw[zAb (zAa q hn)];exact q) λc xs q=>by rw[zAb (zAa q hn)];exact q
end
def Rd(H:Hp)(a:Addr)(u:HO):Prop:=H a=some u\/∃o,H a=some (.frz o u)
theorem Rd.ok(r:Rd H a u)(x:HOk P w H h):ObjOk P w H h a u:=by
 rcases r with r|⟨o,r⟩
 ·exact x a u r
 ·obtain⟨_,q⟩:=x a _ r;exact q
def Mut:Option HO->Prop
 | some (.lst _)=>True
 | some (.dK _)=>True
 | some (.dT _)=>True
 | some (.set _ _)=>True
 | some (.ins _ _ _)=>True
 | some (.ext _)=>True
 | _=>False
section
variable {P:Program}{w:World}{H:Hp}{h h':Heap}{x e:Addr}{o':HO}
theorem HOk.write(ok:HOk P w H h)(mu:Mut (H x))(he:e=x\/H e=some (.own x))(k:∀b u,b≠e->h.get? b=some u->h'.get? b=some u)(heo:∃u,h'.get? e=some u)
  (new:ObjOk P w (upd H x o') h' x o'):HOk P w (upd H x o') h':=λb u q=>by
 have nown:∀c y,H c=some (.own y)->c≠x:=λc y r z=>by subst z;rw[r]at mu;exact mu
 have ntup:∀c xs,H c=some (.tup xs)->c≠x:=λc xs r z=>by subst z;rw[r]at mu;exact mu
 by_cases hb:b=x
 ·subst hb;rw[zAe]at q;cases q;exact new
 ·rw[zAb hb]at q;by_cases hbe:b=e
  ·have q':H b=some (.own x):=by
    rcases he with z|z
    ·exact absurd (hbe.trans z) hb
    ·rw[hbe];exact z
   rw[q]at q';cases q';obtain⟨v,hv⟩:=heo;exact⟨v,by rw[hbe];exact hv⟩
  ·refine(ok b u q).stay (λc v hc r=>k c v ?_ r) (λc r=>by rw[zAb (nown c b r)];exact r) λc xs r=>by rw[zAb (ntup c xs r)];exact r
   rcases hc with rfl|hc
   ·exact hbe
   ·rintro rfl;rcases he with z|z
    ·exact nown c b hc z
    ·rw[hc]at z;cases z;exact hb rfl
end
structure Un (fs ex:List Addr) (H H':Hp) (h h':Heap):Prop where
 keep:∀b o,h.get? b=some o->H b=none->b ∉ fs->b ∉ ex->h'.get? b=some o
 slot:∀b o,h.get? b=some o->H b=none->b∈fs->b ∉ ex->∃sl,h'.get? b=some { o with slots:=sl }
 free:∀b o,h.get? b=some o->H b=none->b ∉ ex->H' b=none
 there:∀b o,h.get? b=some o->b ∉ ex->∃o',h'.get? b=some o'
 tups:∀b xs,H b=some (.tup xs)->H' b=some (.tup xs)
 frzs:∀b o u,H b=some (.frz o u)->H' b=some (.frz o u)
 tbls:∀b ps,H b=some (.tbl ps)->∃more,H' b=some (.tbl (ps++more))
section
variable {fs fs' ex ex':List Addr}{H H1 H2:Hp}{h h1 h2 h':Heap}{a x e:Addr}{o:HO}
theorem Un.any(u:Un fs ex H H1 h h1){ob:Obj}(q:h.get? b=some ob)(n:H b=none)(hx:b ∉ ex):∃sl,h1.get? b=some { ob with slots:=sl }:=by
 by_cases hb:b∈fs
 ·exact u.slot b ob q n hb hx
 ·exact⟨ob.slots,u.keep b ob q n hb hx⟩
theorem Un.kept(k:∀b u,h.get? b=some u->h'.get? b=some u):Un fs ex H H h h':=
 ⟨λb ob q _ _ _=>k b ob q,λb ob q _ _ _=>⟨ob.slots,k b ob q⟩,λ_ _ _ n _=>n,λb ob q _=>⟨ob,k b ob q⟩,λ_ _ q=>q,λ_ _ _ q=>q,λ_ ps q=>⟨#[],by rw[q];simp⟩⟩
theorem Un.refl:Un fs ex H H h h:=Un.kept λ_ _ q=>q
theorem Un.laid(k:∀b u,h.get? b=some u->h'.get? b=some u)(hp:h.objs.size<=a)(hn:H a=none):Un fs ex H (upd H a o) h h' where
 keep:=λb u q _ _ _=>k b u q
 slot:=λb u q _ _ _=>⟨u.slots,k b u q⟩
 free:=λb u q n _=>by rw[zAb (xA (xB (xq q) hp))];exact n
 there:=λb u q _=>⟨u,k b u q⟩
 tups:=λb xs q=>by rw[zAb (zAa q hn)];exact q
 frzs:=λb u xs q=>by rw[zAb (zAa q hn)];exact q
 tbls:=λb ps q=>⟨#[],by rw[zAb (zAa q hn),q];simp⟩
theorem Un.write(mu:Mut (H x))(he:e=x\/H e=some (.own x))(k:∀b u,b≠e->h.get? b=some u->h'.get? b=some u)(heo:∃u,h'.get? e=some u):Un fs ex H (upd H x o) h h':=by
 have hx:∀b,H b=none->b≠x:=λb n z=>by subst z;rw[n]at mu;exact mu
 have hb:∀b,H b=none->b≠e:=λb n z=>by
  subst z;rcases he with r|r
  ·exact hx b n r
  ·rw[n]at r;cases r
 have hm:∀b u,H b=some u->¬ Mut (some u)->b≠x:=λb u q nm z=>by subst z;rw[q]at mu;exact nm mu
 refine⟨λb u q n _ _=>k b u (hb b n) q,λb u q n _ _=>⟨u.slots,k b u (hb b n) q⟩,λb u q n _=>by rw[zAb (hx b n)];exact n,λb u q _=>?_,
  λb xs q=>by rw[zAb (hm b _ q λz=>z)];exact q,λb u xs q=>by rw[zAb (hm b _ q λz=>z)];exact q,λb ps q=>⟨#[],by rw[zAb (hm b _ q λz=>z),q];simp⟩⟩
 by_cases hbe:b=e
 ·subst hbe;exact heo
 ·exact⟨u,k b u hbe q⟩
end
noncomputable def trk (h:Heap) (H:Hp):List Addr:=(List.range h.objs.size).filter λa=>(H a).isSome
noncomputable def hidT (h:Heap) (H:Hp):Heap:=PySem.W.hideAll h (trk h H)
theorem zNj(h:Heap)(H:Hp):(hidT h H).objs.size=h.objs.size:=PySem.W.hideAll_size _ _
theorem zQv{h:Heap}{H:Hp}(e:h.get? b=some o)(n:H b=none):(hidT h H).get? b=some o:=
 PySem.W.hideAll_get _ e λhm=>by
  have q:(H b).isSome=true:=(uW.mp hm).2;rw[n]at q;simp at q
theorem zUd{h:Heap}{H:Hp}(e:(hidT h H).get? b=some o):h.get? b=some o/\H b=none:=by
 have e':h.get? b=some o:=PySem.W.of_hideAll (trk h H) e;refine⟨e',?_⟩;cases q:H b with
 | none=>rfl
 | some x=>
  have hm:b∈trk h H:=uW.mpr ⟨vx.mpr (xq e'),by simp[q]⟩;have z:(hidT h H).get? b=none:=PySem.W.hideAll_none (trk h H) hm;rw[z]at e;cases e
noncomputable def zWn (g h:Heap) (L:Addr):List (Addr × Obj):=(List.range h.objs.size).filterMap λa=>if a=L\/(g.get? a).isSome=true then none else(h.get? a).map λo=>(a,o)
noncomputable def rest (g h:Heap) (L d:Addr):List (Addr × Obj):=(zWn g h L).filter λp=>decide (p.1≠d)
structure Mod (K:PySem.W.Frag) (mg:Str->Option Value) (base:Heap):Prop where
 kin:K.In base
 glob:base.Ns mainGlobals mg
 blt:∃mb,base.Ns builtinsNs mb/\∀x:Str,x≠"__name__"->mb x=bootBuiltins x
 nolimit:base.NoLimit
/-- the context: a def's body (or a comprehension's block) running. base: fixed through the whole law;s₀,H₀: the entry;outer: the frames whose slots others may change (a def's callers);stack: all frames that run;
   ex: iterators that were made ahead of the entry and are walked here (a comprehension's);fn: the names whose cells were made at the entry (a def: all;a comprehension's block: its own);calm: not within an except suite;pn: pins that every state bears;xe: what is wanted of an exception that leaves the code -/
structure Cx where
  prog:Program
  w:World
  K:PySem.W.Frag
  mg:Str->Option Value
  base:Heap
  A:Around
  N:List Str
  s₀:Shared
  H₀:Hp
  env:Env
  outer:List Env
  stack:List Env
  ex:List Addr
  fn:Str->Bool
  calm:Bool
  pn:List (Addr × Obj)
  xe:Value->Shared->Prop
noncomputable def frs (l:List Env):List Addr:=l.filterMap (·.frame)
noncomputable abbrev Cx.fs (X:Cx):List Addr:=frs X.outer
def Vis(sc:Scope)(x:Str):Prop:=sc.names.lookup x=some .local\/sc.names.lookup x=some .cell\/sc.names.lookup x=some .free
def Loc(sc:Scope)(x:Str):Prop:=sc.names.lookup x=some .local\/sc.names.lookup x=some .cell
def Look(env:Env)(h:Heap)(m:Str->Option Value)(x:Str)(u:Value):Prop:=
 (env.kindOf x=some .local/\m x=some u)\/((env.kindOf x=some .cell\/env.kindOf x=some .free)/\∃c,env.cells.lookup x=some c/\h.IsCell c (some u))
structure Cx.Ok (X:Cx):Prop where
 mod:Mod X.K X.mg X.base
 kind:X.env.scope.kind=.function
 glob:X.env.globals=mainGlobals
 blt:X.env.builtins=builtinsNs
 above:X.s₀.heap.objs.size<=X.env.locals
 inj:∀x y c,X.env.cells.lookup x=some c->X.env.cells.lookup y=some c->x=y
 has:∀x,(X.env.kindOf x=some .cell\/X.env.kindOf x=some .free)->∃c,X.env.cells.lookup x=some c
 cab:∀x c,X.fn x=true->X.env.cells.lookup x=some c->X.s₀.heap.objs.size<=c
 hd:X.calm=true->X.A.handled=none
 frames:X.A.frames=some X.stack
 stk:X.stack=X.outer\/(X.stack=X.env::X.outer/\X.env.frame=some X.env.locals)
 exf:∀b∈X.ex,b≠X.env.locals/\∀x c,X.env.cells.lookup x=some c->c≠b
 bs:∀b o,X.base.get? b=some o->X.s₀.heap.get? b=some o/\X.H₀ b=none
 bsz:X.base.objs.size<=X.s₀.heap.objs.size
 noex:∀b o,X.base.get? b=some o->b ∉ X.ex
 exfs:∀b∈X.ex,b ∉ X.fs
 funs:X.s₀.heap.FunFrames X.base X.outer
 frf:∀b∈X.fs,X.H₀ b=none
 gds:X.A.guards=some []
structure Inv (X:Cx) (pins:List (Addr × Obj)) (σ:List (Option V)) (H:Hp) (s:Shared):Prop where
 ok:X.Ok
 os:s.os=X.s₀.os
 bare:AllBare s.gens
 base:Un X.fs X.ex X.H₀ H X.s₀.heap s.heap
 loc:∃m,s.heap.Ns X.env.locals m/\∀(i:Nat) (x:Str) (v:V),X.N[i]?=some x->σ[i]?=some (some v)->Vis X.env.scope x->∃u,RelV v u/\Look X.env s.heap m x u
 cell:∀x c,X.env.cells.lookup x=some c->∃v,s.heap.IsCell c v
 free:H X.env.locals=none
 freeC:∀x c,X.env.cells.lookup x=some c->H c=none
 pin:∀p∈X.pn++pins,s.heap.get? p.1=some p.2/\H p.1=none/\p.1≠X.env.locals/\p.1 ∉ X.fs/\∀v,p.2.data≠.cell v
 hok:HOk X.prog X.w H s.heap
 len:σ.length=X.N.length
section
variable {X:Cx}{pins:List (Addr × Obj)}{σ:List (Option V)}{H H':Hp}{s:Shared}{h':Heap}
theorem Cx.Ok.nofr(ok:X.Ok)(e:X.base.get? b=some o):b ∉ X.fs:=λhb=>by
 have:=(ok.funs.mem hb).1;rw[e]at this;cases this
theorem Inv.bs(I:Inv X pins σ H s):∀b o,X.base.get? b=some o->s.heap.get? b=some o/\H b=none:=λb o e=>
 ⟨I.base.keep b o (I.ok.bs b o e).1 (I.ok.bs b o e).2 (I.ok.nofr e) (I.ok.noex b o e),I.base.free b o (I.ok.bs b o e).1 (I.ok.bs b o e).2 (I.ok.noex b o e)⟩
theorem Inv.bk(I:Inv X pins σ H s):∀b o,X.base.get? b=some o->s.heap.get? b=some o:=λb o e=>(I.bs b o e).1
theorem Inv.mod(I:Inv X pins σ H s):Mod X.K X.mg X.base:=I.ok.mod
theorem Inv.kIn(I:Inv X pins σ H s):X.K.In s.heap:=I.ok.mod.kin.keeps I.bk
theorem Inv.lt(I:Inv X pins σ H s):X.env.locals<s.heap.objs.size:=let ⟨_,hn,_⟩:=I.loc;hn.lt
theorem Inv.sz(I:Inv X pins σ H s):X.s₀.heap.objs.size<=s.heap.objs.size:=xm I.ok.above (xN I.lt)
theorem Inv.nofs(I:Inv X pins σ H s)(h:s.heap.objs.size<=a):a ∉ X.fs:=λhb=>by
 obtain⟨_,o,ho,_⟩:=I.ok.funs.mem hb
 exact absurd (xB (xq ho) (xm I.sz h)) (vk _)
theorem Inv.cne(I:Inv X pins σ H s):∀x c,X.env.cells.lookup x=some c->c≠X.env.locals:=λx c e z=>by
 obtain⟨v,o,ho,hd⟩:=I.cell x c e;obtain⟨m,⟨o',es,ep,ho',hd',_⟩,_⟩:=I.loc;rw[z,ho']at ho;cases ho;rw[hd']at hd;cases hd
theorem Inv.funs(I:Inv X pins σ H s):s.heap.FunFrames X.base X.outer:=by
 have all:∀(l:List Env),(∀b∈frs l,b∈X.fs)->X.s₀.heap.FunFrames X.base l->s.heap.FunFrames X.base l:=by
  intro l;induction l with
  | nil=>intro _ _;trivial
  | cons env r ih=>
   intro hs hl;obtain⟨hk,⟨L,o,hf,hn,ho,hd⟩,hr⟩:=hl;have hL:L∈X.fs:=hs L (by unfold frs;rw[uc,hf];exact xS);obtain⟨sl,e⟩:=I.base.slot L o ho (I.ok.frf L hL) hL λz=>I.ok.exfs L z hL
   exact⟨hk,⟨L,_,hf,hn,e,hd⟩,ih (λb hb=>hs b (by unfold frs;rw[uc,hf];exact vf _ hb)) hr⟩
 exact all X.outer (λ_ hb=>hb) I.ok.funs
theorem Inv.stack(I:Inv X pins σ H s):s.heap.FunFrames X.base X.stack:=by
 rcases I.ok.stk with e|⟨e,hf⟩
 ·rw[e];exact I.funs
 ·rw[e];obtain⟨m,hn,_⟩:=I.loc;refine .cons (by rw[I.ok.kind];decide) hf hn ?_ I.funs
  exact Heap.get?_none_of_le (xm I.ok.bsz I.ok.above)
theorem Inv.stkSub(I:Inv X pins σ H s):∀b∈frs X.stack,b∈X.env.locals::X.fs:=λb hb=>by
 rcases I.ok.stk with e|⟨e,hf⟩
 ·rw[e]at hb;exact vf _ hb
 ·rw[e]at hb;unfold frs at hb;rw[uc,hf]at hb;exact hb
theorem Inv.stkFree(I:Inv X pins σ H s):∀b∈frs X.stack,H b=none:=λb hb=>by
 rcases xo.mp (I.stkSub b hb)with e|hb
 ·rw[e];exact I.free
 ·obtain⟨_,o,ho,_⟩:=I.ok.funs.mem hb
  exact I.base.free b o ho (I.ok.frf b hb) λz=>I.ok.exfs b z hb
theorem Inv.step{g':Array GenState}{t':Nat}{d':Drawn}{ch:List Addr}(I:Inv X pins σ H s)
  (hch:∀b∈ch,(b∈X.ex\/X.s₀.heap.objs.size<=b)/\b≠X.env.locals/\(∀x c,X.env.cells.lookup x=some c->c≠b)/\∀p∈X.pn++pins,p.1≠b)
  (keep:∀b o,b≠X.env.locals->b ∉ X.fs->b ∉ ch->s.heap.get? b=some o->H b=none->h'.get? b=some o)
  (slot:∀b o,b≠X.env.locals->b∈X.fs->b ∉ ch->s.heap.get? b=some o->H b=none->∃sl,h'.get? b=some { o with slots:=sl }) (free:∀b o,b ∉ ch->s.heap.get? b=some o->H b=none->H' b=none)
  (there:∀b o,b ∉ ch->s.heap.get? b=some o->∃o',h'.get? b=some o')
  (tups:∀b xs,H b=some (.tup xs)->H' b=some (.tup xs)) (frzs:∀b o u,H b=some (.frz o u)->H' b=some (.frz o u)) (tbls:∀b ps,H b=some (.tbl ps)->∃more,H' b=some (.tbl (ps++more)))
  (ns:∀m,s.heap.Ns X.env.locals m->h'.Ns X.env.locals m) (hok:HOk X.prog X.w H' h') (hg:AllBare g'):
  Inv X pins σ H' { s with heap:=h',gens:=g',drawn:=d',toks:=t' }:=by
 have neL:∀b o,X.s₀.heap.get? b=some o->b≠X.env.locals:=λb o e=>xA (xB (xq e) I.ok.above)
 have neC:∀b o,X.s₀.heap.get? b=some o->b ∉ X.ex->b ∉ ch:=λb o e hx hb=>by
  rcases(hch b hb).1 with z|z
  ·exact hx z
  ·exact absurd (xB (xq e) z) (vk _)
 have cellK:∀x c,X.env.cells.lookup x=some c->∀v,s.heap.IsCell c v->h'.IsCell c v:=λx c e v hq1=>by
  obtain⟨o,ho,hd⟩:=hq1;have nch:c ∉ ch:=λz=>(hch c z).2.2.1 x c e rfl
  by_cases hc:c∈X.fs
  ·obtain⟨sl,q⟩:=slot c o (I.cne x c e) hc nch ho (I.freeC x c e);exact⟨_,q,hd⟩
  ·exact⟨o,keep c o (I.cne x c e) hc nch ho (I.freeC x c e),hd⟩
 refine⟨I.ok,I.os,hg,⟨λb o e n hb hx=>?_,λb o e n hb hx=>?_,λb o e n hx=>?_,λb o e hx=>?_,λb xs e=>tups b xs (I.base.tups b xs e),λb o xs e=>frzs b o xs (I.base.frzs b o xs e),λb ps e=>?_⟩,?_,λx c e=>?_,?_,λx c e=>?_,λp hp=>?_,hok,I.len⟩
 ·exact keep b o (neL b o e) hb (neC b o e hx) (I.base.keep b o e n hb hx) (I.base.free b o e n hx)
 ·obtain⟨sl,e1⟩:=I.base.slot b o e n hb hx;obtain⟨sl',e2⟩:=slot b _ (neL b o e) hb (neC b o e hx) e1 (I.base.free b o e n hx);exact⟨sl',e2⟩
 ·obtain⟨o',e1⟩:=I.base.there b o e hx;exact free b o' (neC b o e hx) e1 (I.base.free b o e n hx)
 ·obtain⟨o',e1⟩:=I.base.there b o e hx;exact there b o' (neC b o e hx) e1
 ·obtain⟨m1,e1⟩:=I.base.tbls b ps e;obtain⟨m2,e2⟩:=tbls b _ e1;exact⟨m1++m2,by rw[e2,Array.append_assoc]⟩
 ·obtain⟨m,hn,hl⟩:=I.loc;refine⟨m,ns m hn,λi x v e1 e2 e3=>?_⟩;obtain⟨u,r,l⟩:=hl i x v e1 e2 e3;refine⟨u,r,?_⟩;rcases l with l|⟨k,c,e,z⟩
  ·exact .inl l
  ·exact .inr ⟨k,c,e,cellK x c e _ z⟩
 ·obtain⟨v,z⟩:=I.cell x c e;exact⟨v,cellK x c e v z⟩
 ·obtain⟨m,⟨o,_,_,ho,_⟩,_⟩:=I.loc;exact free _ o (λz=>(hch _ z).2.1 rfl) ho I.free
 ·obtain⟨v,o,ho,hd⟩:=I.cell x c e;exact free c o (λz=>(hch c z).2.2.1 x c e rfl) ho (I.freeC x c e)
 ·obtain⟨e,n,ne,nf,d⟩:=I.pin p hp;have nch:p.1 ∉ ch:=λz=>(hch p.1 z).2.2.2 p hp rfl
  exact⟨keep p.1 p.2 ne nf nch e n,free p.1 p.2 nch e n,ne,nf,d⟩
theorem Inv.un{t':Nat}(I:Inv X pins σ H s)(u:Un X.fs [] H H' s.heap h')(hok:HOk X.prog X.w H' h'):Inv X pins σ H' { s with heap:=h',toks:=t' }:=by
 obtain⟨m,⟨o,es,ep,ho,r⟩,_⟩:=id I.loc;obtain⟨sl,hL⟩:=u.any ho I.free (by simp);exact I.step (g':=s.gens) (d':=s.drawn) (ch:=[]) (λ_ z=>nomatch z) (λb o _ hb _ e n=>u.keep b o e n hb (by simp)) (λb o _ hb _ e n=>u.slot b o e n hb (by simp)) (λb o _ e n=>u.free b o e n (by simp)) (λb o _ e=>u.there b o e (by simp)) u.tups u.frzs u.tbls (λm' hm=>by
  obtain⟨o',es',ep',ho',r'⟩:=hm;rw[ho]at ho';cases ho';exact⟨_,es',ep',hL,r'⟩) hok I.bare
theorem Inv.call{t':Nat}{d':Drawn}(I:Inv X pins σ H s)(u:Un (frs X.stack) ch H H' s.heap h')(hok:HOk X.prog X.w H' h')(hg:AllBare g')
  (hch:∀b∈ch,(b∈X.ex\/X.s₀.heap.objs.size<=b)/\b≠X.env.locals/\(∀x c,X.env.cells.lookup x=some c->c≠b)/\∀p∈X.pn++pins,p.1≠b):
  Inv X pins σ H' { s with heap:=h',gens:=g',drawn:=d',toks:=t' }:=by
 obtain⟨m,⟨o,es,ep,ho,r⟩,_⟩:=id I.loc;obtain⟨sl,hL⟩:=u.any ho I.free λz=>(hch _ z).2.1 rfl
 exact I.step (ch:=ch) hch (λb o hL hb hc e n=>u.keep b o e n (λz=>(xo.mp (I.stkSub b z)).elim hL hb) hc) (λb o _ _ hc e n=>u.any e n hc) (λb o hc e n=>u.free b o e n hc) (λb o hc e=>u.there b o e hc) u.tups u.frzs u.tbls (λm' hm=>by
  obtain⟨o',es',ep',ho',r'⟩:=hm;rw[ho]at ho';cases ho';exact⟨_,es',ep',hL,r'⟩) hok hg
theorem Inv.turned{t':Nat}(I:Inv X pins σ H s)(k:∀b o,b≠it->s.heap.get? b=some o->h'.get? b=some o)(hn:H it=none)(hL:it≠X.env.locals)
  (h1:it∈X.ex\/X.s₀.heap.objs.size<=it) (h2:∀x c,X.env.cells.lookup x=some c->c≠it) (h3:∀p∈X.pn++pins,p.1≠it):Inv X pins σ H { s with heap:=h',toks:=t' }:=by
 have nit:∀b u,H b=some u->b≠it:=λb u e z=>by rw[z,hn]at e;cases e
 refine I.step (g':=s.gens) (d':=s.drawn) (ch:=[it]) (λb hb=>?_) (λb o _ _ hc e _=>k b o (λz=>hc (by simp[z])) e) (λb o _ _ hc e _=>⟨o.slots,k b o (λz=>hc (by simp[z])) e⟩) (λ_ _ _ _ n=>n)
  (λb o hc e=>⟨o,k b o (λz=>hc (by simp[z])) e⟩) (λ_ _ e=>e) (λ_ _ _ e=>e) (λb ps e=>⟨#[],by rw[e];simp⟩) (λm hm=>?_) (λb u e=>?_) I.bare
 ·have e:b=it:=by simpa using hb
  subst e;exact⟨h1,hL,h2,h3⟩
 ·obtain⟨o,es,ep,ho,r⟩:=hm;exact⟨o,es,ep,k _ o (xG hL) ho,r⟩
 ·refine(I.hok b u e).stay (λc v hc q=>k c v ?_ q) (λ_ q=>q) λ_ _ q=>q
  rcases hc with z|z
  ·rw[z];exact nit b u e
  ·exact nit c _ z
theorem Inv.tok(I:Inv X pins σ H s)(t:Nat):Inv X pins σ H { s with toks:=t }:=I.un (h':=s.heap) (t':=t) Un.refl I.hok
theorem Inv.kept{t':Nat}(I:Inv X pins σ H s)(k:∀b u,s.heap.get? b=some u->h'.get? b=some u):Inv X pins σ H { s with heap:=h',toks:=t' }:=I.un (Un.kept k) (I.hok.kept k)
theorem Inv.laid{t':Nat}(I:Inv X pins σ H s)(k:∀b u,s.heap.get? b=some u->h'.get? b=some u)(hp:s.heap.objs.size<=a)(new:ObjOk X.prog X.w (upd H a o) h' a o):
  Inv X pins σ (upd H a o) { s with heap:=h',toks:=t' }:=I.un (Un.laid k hp (I.hok.fresh hp)) (I.hok.laid k hp new)
theorem Inv.write{o:HO}{t':Nat}(I:Inv X pins σ H s)(mu:Mut (H x))(he:e=x\/H e=some (.own x))(k:∀b u,b≠e->s.heap.get? b=some u->h'.get? b=some u)(heo:∃u,h'.get? e=some u)
  (new:ObjOk X.prog X.w (upd H x o) h' x o):Inv X pins σ (upd H x o) { s with heap:=h',toks:=t' }:=I.un (Un.write mu he k heo) (I.hok.write mu he k heo new)
theorem Inv.pins_of(I:Inv X pins σ H s)(h:∀p∈pins',s.heap.get? p.1=some p.2/\H p.1=none/\p.1≠X.env.locals/\p.1 ∉ X.fs/\∀v,p.2.data≠.cell v):Inv X pins' σ H s:=
 ⟨I.ok,I.os,I.bare,I.base,I.loc,I.cell,I.free,I.freeC,λp hp=>(xX.mp hp).elim (λz=>I.pin p (vD _ z)) (h p),I.hok,I.len⟩
theorem zJn{N:List Str}(hN:N.Nodup){i j:Nat}(a:N[i]?=some x)(b:N[j]?=some x):i=j:=by obtain⟨h1,e1⟩:=xO.mp a;obtain⟨h2,e2⟩:=xO.mp b;exact(List.getElem_inj hN).mp (e1.trans e2.symm)
theorem zGu{M:Model}{A:Around}{E:Value->Shared->Prop}{i:Nat}{Q:Unit->Shared->Prop}(I:Inv X pins σ H s)(hN:X.N.Nodup)(hi:X.N[i]?=some x)(hx:Loc X.env.scope x)(r:RelV v u)
  (h:∀s',Inv X pins (σ.set i (some v)) H s'->(∃a,Heap.SameBut a s.heap s'.heap/\(a=X.env.locals\/X.env.cells.lookup x=some a))->Q () s') (hf:X.fn x=true\/X.env.scope.names.lookup x=some .local:=by first|exact .inl rfl|exact .inr rfl|assumption):wpAny M A (storeName X.env x u) Q E s:=by
 obtain⟨m,hn,hl⟩:=id I.loc;have hcls:(X.env.scope.kind == .class || (X.env.scope.kind == .module && X.env.locals != X.env.globals))=false:=by rw[I.ok.kind];rfl
 have hiσ:i<σ.length:=by rw[I.len];exact(xO.mp hi).1
 have cne:=I.cne;have tracked:∀{a:Addr}{h':Heap},(∃o,s.heap.get? a=some o/\H a=none)->Heap.SameBut a s.heap h'->HOk X.prog X.w H h':=λ{a h'} ha hs b ob e=>by
  obtain⟨_,_,hfree⟩:=ha;refine(I.hok b ob e).stay (λc w' hc q=>(hs.2 c ?_).trans q) (λ_ q=>q) λ_ _ q=>q
  rintro rfl;rcases hc with rfl|hc
  ·rw[hfree]at e;cases e
  ·rw[hfree]at hc;cases hc
 rcases hx with hk|hk
 ·refine wpAny_storeName_local hk hn (λh' hn' hs=>?_) hcls;obtain⟨oL,_,_,hoL,_⟩:=id hn;refine h _ ⟨I.ok,I.os,I.bare,⟨λb o e n hb hx=>?_,λb o e n hb hx=>?_,I.base.free,λb o e hx=>?_,I.base.tups,I.base.frzs,I.base.tbls⟩,⟨_,hn',λj y v' e1 e2 e3=>?_⟩,λy c e=>?_,I.free,I.freeC,λp hp=>?_,tracked ⟨oL,hoL,I.free⟩ hs,by simpa using I.len⟩ ⟨_,hs,.inl rfl⟩
  ·exact(hs.2 b (xA (xB (xq e) I.ok.above))).trans (I.base.keep b o e n hb hx)
  ·obtain⟨sl,e1⟩:=I.base.slot b o e n hb hx;exact⟨sl,(hs.2 b (xA (xB (xq e) I.ok.above))).trans e1⟩
  ·obtain⟨o',e1⟩:=I.base.there b o e hx;exact⟨o',(hs.2 b (xA (xB (xq e) I.ok.above))).trans e1⟩
  ·by_cases hj:j=i
   ·subst hj;rw[hi]at e1;cases e1;rw[ud hiσ]at e2;cases e2;exact⟨u,r,.inl ⟨hk,by simp⟩⟩
   ·rw[vT (xG hj)]at e2;obtain⟨u',r',q⟩:=hl j y v' e1 e2 e3;refine⟨u',r',?_⟩;rcases q with⟨k,e⟩|⟨k,c,e,z⟩
    ·refine .inl ⟨k,?_⟩;have:y≠x:=λe=>hj (zJn hN e1 (e ▸ hi))
     simp[this,e]
    ·exact .inr ⟨k,c,e,z.sameBut hs (cne y c e)⟩
  ·obtain⟨w',z⟩:=I.cell y c e;exact⟨w',z.sameBut hs (cne y c e)⟩
  ·obtain⟨e,n,ne,nf,d⟩:=I.pin p hp;exact⟨(hs.2 p.1 ne).trans e,n,ne,nf,d⟩
 ·have hfn:X.fn x=true:=by
   rcases hf with z|z
   ·exact z
   ·rw[z]at hk;cases hk
  obtain⟨c,hc⟩:=I.ok.has x (.inl hk);obtain⟨w',z⟩:=I.cell x c hc;refine wpAny_storeName_cell I.ok.kind hk hc z (λh' hc' hs=>?_);obtain⟨oc,hoc,hocd⟩:=id z;refine h { s with heap:=h' } ⟨I.ok,I.os,I.bare,⟨λb o e n hb hx=>?_,λb o e n hb hx=>?_,I.base.free,λb o e hx=>?_,I.base.tups,I.base.frzs,I.base.tbls⟩,⟨m,hn.sameBut hs (xG (cne x c hc)),λj y v' e1 e2 e3=>?_⟩,λy c' e=>?_,I.free,I.freeC,λp hp=>?_,tracked ⟨oc,hoc,I.freeC x c hc⟩ hs,by simpa using I.len⟩ ⟨c,hs,.inr hc⟩
  ·exact(hs.2 b (xA (xB (xq e) (I.ok.cab x c hfn hc)))).trans (I.base.keep b o e n hb hx)
  ·obtain⟨sl,e1⟩:=I.base.slot b o e n hb hx;exact⟨sl,(hs.2 b (xA (xB (xq e) (I.ok.cab x c hfn hc)))).trans e1⟩
  ·obtain⟨o',e1⟩:=I.base.there b o e hx;exact⟨o',(hs.2 b (xA (xB (xq e) (I.ok.cab x c hfn hc)))).trans e1⟩
  ·by_cases hj:j=i
   ·subst hj;rw[hi]at e1;cases e1;rw[ud hiσ]at e2;cases e2;exact⟨u,r,.inr ⟨.inl hk,c,hc,hc'⟩⟩
   ·rw[vT (xG hj)]at e2;obtain⟨u',r',q⟩:=hl j y v' e1 e2 e3;refine⟨u',r',?_⟩;rcases q with q|⟨k,c',e,z'⟩
    ·exact .inl q
    ·refine .inr ⟨k,c',e,z'.sameBut hs ?_⟩;rintro rfl;exact hj (zJn hN e1 (I.ok.inj _ _ _ e hc ▸ hi))
  ·by_cases hcc:c'=c
   ·subst hcc;exact⟨_,hc'⟩
   ·obtain⟨w2,z2⟩:=I.cell y c' e;exact⟨w2,z2.sameBut hs hcc⟩
  ·obtain⟨e,n,ne,nf,d⟩:=I.pin p hp;refine⟨(hs.2 p.1 ?_).trans e,n,ne,nf,d⟩;intro q;rw[q,hoc]at e;have q':oc=p.2:=xM e;exact d w' (by rw[<- q'];exact hocd)
theorem zE2{M:Model}{A:Around}{E:Value->Shared->Prop}{i:Nat}{Q:Unit->Shared->Prop}(I:Inv X pins σ H s)(hN:X.N.Nodup)(hi:X.N[i]?=some x)(hx:Loc X.env.scope x)(r:RelV v u)
  (h:∀s',Inv X pins (σ.set i (some v)) H s'->Q () s') (hf:X.fn x=true\/X.env.scope.names.lookup x=some .local:=by first|exact .inl rfl|exact .inr rfl|assumption):wpAny M A (storeName X.env x u) Q E s:=
 zGu I hN hi hx r (λs' I' _=>h s' I') hf
theorem Inv.call'{s':Shared}(I:Inv X pins σ H s)(ho:s'.os=s.os)(u:Un (frs X.stack) ch H H' s.heap s'.heap)(hok:HOk X.prog X.w H' s'.heap)(hg:AllBare s'.gens)
  (hch:∀b∈ch,(b∈X.ex\/X.s₀.heap.objs.size<=b)/\b≠X.env.locals/\(∀x c,X.env.cells.lookup x=some c->c≠b)/\∀p∈X.pn++pins,p.1≠b):Inv X pins σ H' s':=by
 obtain⟨h',g',d',t',o'⟩:=s';have e:o'=s.os:=ho;subst e;exact I.call (g':=g') (t':=t') (d':=d') u hok hg hch
end
abbrev XK:=Value->Option Addr->Hp->Prop
noncomputable abbrev St:=List (Option V)
abbrev VK:=V->Hp->Prop
abbrev TE:=St->Hp->VK->Prop
abbrev TT:=St->Hp->(Bool->Hp->Prop)->Prop
abbrev TA:=St->Hp->(List V->Hp->Prop)->Prop
structure Ends where
 nx:St->Hp->Prop
 rt:VK
 bk:St->Hp->Prop:=λ_ _=>False
 ct:St->Hp->Prop:=λ_ _=>False
abbrev TS:=Ends->St->Hp->Prop
def EP(X:Cx)(pins:List (Addr × Obj))(σ:St)(Q:VK)(u:Value)(s':Shared):Prop:=∃v H',Inv X pins σ H' s'/\RelV v u/\Q v H'
def TP(X:Cx)(pins:List (Addr × Obj))(σ:St)(Q:Bool->Hp->Prop)(b:Bool)(s':Shared):Prop:=∃H',Inv X pins σ H' s'/\Q b H'
def AP(X:Cx)(pins:List (Addr × Obj))(σ:St)(Q:List V->Hp->Prop)(us:List Value)(s':Shared):Prop:=∃vs H',Inv X pins σ H' s'/\Vals vs us/\Q vs H'
def SP(X:Cx)(pins:List (Addr × Obj))(D:Ends)(f:Flow)(s':Shared):Prop:=
 match f with
 | .next=>∃σ' H',Inv X pins σ' H' s'/\D.nx σ' H'
 | .brk=>∃σ' H',Inv X pins σ' H' s'/\D.bk σ' H'
 | .cont=>∃σ' H',Inv X pins σ' H' s'/\D.ct σ' H'
 | .ret u=>∃v σ' H',Inv X pins σ' H' s'/\RelV v u/\D.rt v H'
def PE(X:Cx)(e:Expr)(t:TE):Prop:=
 ∀(pins:List (Addr × Obj)) (s:Shared) (σ:St) (H:Hp) (Q:VK),Inv X pins σ H s->t σ H Q->wpAny (model X.prog X.w) X.A (eval e X.env) (EP X pins σ Q) X.xe s
def PT(X:Cx)(e:Expr)(t:TT):Prop:=
 ∀(pins:List (Addr × Obj)) (s:Shared) (σ:St) (H:Hp) (Q:Bool->Hp->Prop),Inv X pins σ H s->t σ H Q->wpAny (model X.prog X.w) X.A (isTrue e X.env (eval e X.env)) (TP X pins σ Q) X.xe s
def PW(X:Cx)(e:Expr)(t:TT):Prop:=
 ∀(whole:Sem Value) (pins:List (Addr × Obj)) (s:Shared) (σ:St) (H:Hp) (Q:Bool->Hp->Prop),Inv X pins σ H s->t σ H Q->wpAny (model X.prog X.w) X.A (isTrue e X.env whole) (TP X pins σ Q) X.xe s
theorem PW.pt(h:PW X e t):PT X e t:=h _
def PA(X:Cx)(es:List Expr)(t:TA):Prop:=
 ∀(pos:Pos) (pins:List (Addr × Obj)) (s:Shared) (σ:St) (H:Hp) (Q:List V->Hp->Prop),Inv X pins σ H s->t σ H Q->wpAny (model X.prog X.w) X.A (spliced (backTo pos (starEach es X.env))) (AP X pins σ Q) X.xe s
def PS(X:Cx)(st:Stmt)(t:TS):Prop:=
 ∀(pins:List (Addr × Obj)) (s:Shared) (σ:St) (H:Hp) (D:Ends),Inv X pins σ H s->t D σ H->wpAny (model X.prog X.w) X.A (exec st X.env) (SP X pins D) X.xe s
def PSs(X:Cx)(st:List Stmt)(t:TS):Prop:=
 ∀(pins:List (Addr × Obj)) (s:Shared) (σ:St) (H:Hp) (D:Ends),Inv X pins σ H s->t D σ H->wpAny (model X.prog X.w) X.A (execs st X.env) (SP X pins D) X.xe s
theorem thn{α:Type}{t:Sem α}{Q Q':α->Shared->Prop}{E:Value->Shared->Prop}(h:wpAny M A t Q E s)(hQ:∀a s,Q a s->Q' a s):wpAny M A t Q' E s:=vm h hQ λ_ _ x=>x
section
variable {X:Cx}
noncomputable def tVar (i:Nat):TE:=λσ H Q=>∃v,σ[i]?=some (some v)/\Q v H
noncomputable def tC (v:V):TE:=λ_ H Q=>Q v H
theorem zXw(hN:X.N[i]?=some x)(hv:Vis X.env.scope x)(hd:(x == ("__debug__":Str))=false:=by decide)(hcd:(x == ("__classdict__":Str))=false:=by decide):PE X (.Name x pos) (tVar i):=by
 intro pins s σ H Q I h;obtain⟨v,e,h⟩:=h;obtain⟨m,hn,hl⟩:=I.loc;obtain⟨u,r,l⟩:=hl i x v hN e hv;have fin:EP X pins σ Q u s:=⟨v,H,I,r,h⟩;rcases l with⟨hk,hm⟩|⟨hk,c,hc,hcell⟩
 ·exact wpAny_Name (wpAny_loadName_local I.ok.kind hk hn hm fin) hd
 ·rcases hk with hk|hk
  ·exact wpAny_Name (wpAny_loadName_cell I.ok.kind hk hc hcell fin) hd
  ·exact wpAny_Name (wpAny_loadName_free I.ok.kind hk hc hcell fin hcd) hd
theorem zY0{i j pos}:PE X (.Constant (.int i) j pos) (tC (.int i)):=λ_ _ _ H _ I h=>wpAny_Constant_int ⟨.int i,H,I.tok _,⟨_,rfl⟩,h⟩
theorem yB9{b j pos}:PE X (.Constant (.bool b) j pos) (tC (.bl b)):=λ_ _ _ H _ I h=>Constant_bool ⟨.bl b,H,I,rfl,h⟩
def Gl(X:Cx)(x:Str):Prop:=X.env.kindOf x=some .globalImplicit
theorem zUv{E:Value->Shared->Prop}{pos:Pos}{Q:Value->Shared->Prop}(I:Inv X pins σ H s)(hg:Gl X x)(hm:X.mg x=some u)(h:Q u s)
  (hd:(x == ("__debug__":Str))=false:=by decide):wpAny (model X.prog X.w) X.A (eval (.Name x pos) X.env) Q E s:=
 Calls.Name_function_global I.ok.kind hg (Calls.loadGlobal_global (by rw[I.ok.glob];exact I.mod.glob.keeps I.bk) hm h) hd
theorem zFe{E:Value->Shared->Prop}{pos:Pos}{Q:Value->Shared->Prop}(I:Inv X pins σ H s)(hg:Gl X x)(hm:X.mg x=none)(hv:bootBuiltins x=some u)(h:Q u s)
  (hn:x≠"__name__":=by decide) (hd:(x == ("__debug__":Str))=false:=by decide):wpAny (model X.prog X.w) X.A (eval (.Name x pos) X.env) Q E s:=by
 obtain⟨mb,h1,h2⟩:=I.mod.blt;exact Calls.Name_function_global I.ok.kind hg (Calls.loadGlobal_builtin (by rw[I.ok.glob];exact I.mod.glob.keeps I.bk) hm (by rw[I.ok.blt];exact h1.keeps I.bk) ((h2 x hn).trans hv) h) hd
variable {a b:Expr}{ta tb:TE}{pos:Pos}
variable {tA tB':TT}{rest:List Expr}
noncomputable def tAnd (t u:TT):TT:=λσ H Q=>t σ H λc H1=>if c=true then u σ H1 Q else Q false H1
noncomputable def tOr (t u:TT):TT:=λσ H Q=>t σ H λc H1=>if c=true then Q true H1 else u σ H1 Q
noncomputable def tNot (t:TT):TT:=λσ H Q=>t σ H λc H1=>Q (!c) H1
theorem zTf(ha:PT X a tA):PW X (.BoolOp .And [a] pos) tA:=by
 intro wh pins s σ H Q I h;refine isTrue_and (thn (ha pins s σ H Q I h) λc s1 e=>?_);cases c with
 | true=>exact isTrue_and_nil e
 | false=>exact e
theorem zXi(ha:PT X a tA):PW X (.BoolOp .Or [a] pos) tA:=by
 intro wh pins s σ H Q I h;refine isTrue_or (thn (ha pins s σ H Q I h) λc s1 e=>?_);cases c with
 | false=>exact isTrue_or_nil e
 | true=>exact e
theorem zXk(ha:PT X a tA)(hb:PW X (.BoolOp .And (b::rest) pos) tB'):PW X (.BoolOp .And (a::b::rest) pos) (tAnd tA tB'):=by
 intro wh pins s σ H Q I h;refine isTrue_and (thn (ha pins s σ H _ I h) λc s1 hq1=>?_);obtain⟨H1,I1,q1⟩:=hq1;cases c with
 | true=>exact hb wh pins s1 σ H1 Q I1 q1
 | false=>exact⟨H1,I1,q1⟩
theorem yB3(ha:PT X a tA)(hb:PW X (.BoolOp .Or (b::rest) pos) tB'):PW X (.BoolOp .Or (a::b::rest) pos) (tOr tA tB'):=by
 intro wh pins s σ H Q I h;refine isTrue_or (thn (ha pins s σ H _ I h) λc s1 hq1=>?_);obtain⟨H1,I1,q1⟩:=hq1;cases c with
 | true=>exact⟨H1,I1,q1⟩
 | false=>exact hb wh pins s1 σ H1 Q I1 q1
theorem zXn(ha:PT X a tA):PT X (.UnaryOp .Not a pos) (tNot tA):=by intro pins s σ H Q I h;exact isTrue_not (ha pins s σ H (λc H1=>Q (!c) H1) I h)
end
def SqL(K:PySem.W.Frag)(H:Hp)(a:Addr)(xs:List V):Prop:=
 Rd H a (.lst xs) \/
  ∃(o:Obj) (its:Array Value) (n:Nat),K.lookup a=some o/\o.cls=.type "list"/\o.dict=none/\o.data=.seq its n/\its.size<=sizeLine/\Vals xs its.toList
def SqT(K:PySem.W.Frag)(H:Hp)(a:Addr)(xs:List V):Prop:=
 Rd H a (.tup xs) \/
  ∃(o:Obj) (its:Array Value) (n:Nat),K.lookup a=some o/\o.cls=.type "tuple"/\o.data=.seq its n/\its.size<=sizeLine/\Vals xs its.toList
noncomputable def absV:Value->Option V
 | .none=>some .non
 | .bool b=>some (.bl b)
 | .int i _=>some (.int i)
 | .str x _=>some (.str x)
 | .bytes b _=>some (.byt b)
 | .float b _=>some (.flt b)
 | .ref a=>some (.ref a)
 | .type n=>some (.ty n)
 | _=>none
theorem RelV.abs(r:RelV x u):absV u=some x:=by
 cases x with
 | non=>cases r;rfl
 | bl _=>cases r;rfl
 | int _=>obtain⟨t,rfl⟩:=r;rfl
 | str _=>obtain⟨t,rfl⟩:=r;rfl
 | byt _=>obtain⟨t,rfl⟩:=r;rfl
 | flt _=>obtain⟨t,rfl⟩:=r;rfl
 | ref _=>cases r;rfl
 | ty _=>cases r;rfl
theorem RelV.inj(r:RelV x u)(q:RelV y u):x=y:=xM (r.abs.symm.trans q.abs)
theorem Vals.inj:∀{xs ys:List V}{us:List Value},Vals xs us->Vals ys us->xs=ys
 | _,_,_,.nil,.nil=>rfl
 | _,_,_,.cons r t,.cons r' t'=>by rw[r.inj r',Vals.inj t t']
section
variable {X:Cx}{pins:List (Addr × Obj)}{σ:St}{H:Hp}{s:Shared}{a:Addr}{xs ys:List V}
theorem SqL.of{K:PySem.W.Frag}(h:H a=some (.lst xs)):SqL K H a xs:=.inl (.inl h)
theorem SqT.of{K:PySem.W.Frag}(h:H a=some (.tup xs)):SqT K H a xs:=.inl (.inl h)
theorem Inv.list(I:Inv X pins σ H s)(h:SqL X.K H a xs):∃its:List Value,Vals xs its/\PlainL s.heap a its.toArray/\xs.length<=sizeLine:=by
 rcases h with h|⟨o,its,n,hk,hc,hd,hs,hz,r⟩
 ·obtain⟨z,its,n,r,e⟩:=h.ok I.hok;exact⟨its,r,⟨_,n,e,rfl,rfl,rfl⟩,z⟩
 ·refine⟨its.toList,r,⟨o,n,I.kIn a o hk,hc,hd,by simpa using hs⟩,?_⟩;have e:=r.length;simp only[vg]at e;lia
theorem Inv.tuple(I:Inv X pins σ H s)(h:SqT X.K H a xs):∃its:List Value,Vals xs its/\IsTup s.heap a its.toArray/\xs.length<=sizeLine:=by
 rcases h with h|⟨o,its,n,hk,hc,hs,hz,r⟩
 ·obtain⟨z,its,r,p⟩:=h.ok I.hok;exact⟨its,r,p,z⟩
 ·refine⟨its.toList,r,⟨o,I.kIn a o hk,hc,n,by simpa using hs⟩,?_⟩;have e:=r.length;simp only[vg]at e;lia
theorem Inv.list_inj(I:Inv X pins σ H s)(h:SqL X.K H a xs)(h':SqL X.K H a ys):xs=ys:=by
 obtain⟨its,r,⟨o,n,e,_,_,d⟩,_⟩:=I.list h;obtain⟨its',r',⟨o',n',e',_,_,d'⟩,_⟩:=I.list h';rw[e]at e';cases e';rw[d]at d';injection d' with d1 _
 have:its=its':=by simpa using congrArg Array.toList d1
 subst this;exact r.inj r'
theorem Inv.tuple_inj(I:Inv X pins σ H s)(h:SqT X.K H a xs)(h':SqT X.K H a ys):xs=ys:=by
 obtain⟨its,r,⟨o,e,_,n,d⟩,_⟩:=I.tuple h;obtain⟨its',r',⟨o',e',_,n',d'⟩,_⟩:=I.tuple h';rw[e]at e';cases e';rw[d]at d';injection d' with d1 _
 have:its=its':=by simpa using congrArg Array.toList d1
 subst this;exact r.inj r'
end
noncomputable abbrev Cx.wish (X:Cx) (E:Value->Shared->Prop):Cx:={ X with xe:=E }
noncomputable abbrev Cx.nox (X:Cx):Cx:=X.wish λ_ _=>False
theorem Cx.Ok.wish{X:Cx}(ok:X.Ok)(E:Value->Shared->Prop):(X.wish E).Ok:=
 ⟨ok.mod,ok.kind,ok.glob,ok.blt,ok.above,ok.inj,ok.has,ok.cab,ok.hd,ok.frames,ok.stk,ok.exf,ok.bs,ok.bsz,ok.noex,ok.exfs,ok.funs,ok.frf,ok.gds⟩
theorem Cx.Ok.unwish{X:Cx}{E:Value->Shared->Prop}(ok:(X.wish E).Ok):X.Ok:=
 ⟨ok.mod,ok.kind,ok.glob,ok.blt,ok.above,ok.inj,ok.has,ok.cab,ok.hd,ok.frames,ok.stk,ok.exf,ok.bs,ok.bsz,ok.noex,ok.exfs,ok.funs,ok.frf,ok.gds⟩
section
variable {X:Cx}{pins:List (Addr × Obj)}{σ:St}{H:Hp}{s:Shared}{E:Value->Shared->Prop}
theorem Inv.wish(I:Inv X pins σ H s)(E:Value->Shared->Prop):Inv (X.wish E) pins σ H s:=⟨I.ok.wish E,I.os,I.bare,I.base,I.loc,I.cell,I.free,I.freeC,I.pin,I.hok,I.len⟩
theorem Inv.unwish(I:Inv (X.wish E) pins σ H s):Inv X pins σ H s:=⟨I.ok.unwish,I.os,I.bare,I.base,I.loc,I.cell,I.free,I.freeC,I.pin,I.hok,I.len⟩
theorem SP.unwish(h:SP (X.wish E) pins D f s'):SP X pins D f s':=by
 cases f with
 | next=>obtain⟨σ',H',I,q⟩:=h;exact⟨σ',H',I.unwish,q⟩
 | brk=>obtain⟨σ',H',I,q⟩:=h;exact⟨σ',H',I.unwish,q⟩
 | cont=>obtain⟨σ',H',I,q⟩:=h;exact⟨σ',H',I.unwish,q⟩
 | ret u=>obtain⟨v,σ',H',I,r,q⟩:=h;exact⟨v,σ',H',I.unwish,r,q⟩
theorem PSs.nox{st:List Stmt}{t:TS}(h:PSs X.nox st t):PSs X st t:=λpins s σ H D I hw=>
 vm (h pins s σ H D (I.wish _) hw) (λ_ _ q=>q.unwish) λ_ _ z=>False.elim z
end
section
variable {X:Cx}{st:Stmt}{rest:List Stmt}{t u:TS}{e:Expr}{te:TE}{pos:Pos}
noncomputable def zX5:TS:=λD σ H=>D.nx σ H
noncomputable def tSeq (t u:TS):TS:=λD σ H=>t { D with nx:=u D } σ H
theorem zTl:PSs X [] zX5:=λ_ _ σ H _ I h=>wpAny_execs_nil ⟨σ,H,I,h⟩
theorem zPu(h1:PS X st t)(h2:PSs X rest u):PSs X (st::rest) (tSeq t u):=by
 intro pins s σ H D I h;refine wpAny_execs_cons (thn (h1 pins s σ H { D with nx:=u D } I h) λf s1 q=>?_);cases f with
 | next=>
  obtain⟨σ',H',I',q⟩:=q;exact h2 pins s1 σ' H' D I' q
 | ret v=>exact q
 | brk=>exact q
 | cont=>exact q
theorem zTk(h1:PS X st t):PSs X [st] t:=by
 intro pins s σ H D I h;refine wpAny_execs_cons (thn (h1 pins s σ H D I h) λf s1 q=>?_);cases f with
 | next=>exact wpAny_execs_nil q
 | ret v=>exact q
 | brk=>exact q
 | cont=>exact q
theorem Inv.quiet(I:Inv X pins σ H s):interactive X.env=false:=by simp[interactive,I.ok.kind]
noncomputable def zSu (te:TE):TS:=λD σ H=>te σ H λ_ H1=>D.nx σ H1
theorem zTo(he:PE X e te)(hs:swapsWith e none pos.line X.env=pure false:=by rfl):PS X (.Expr e pos) (zSu te):=by intro pins s σ H D I h;exact wpAny_Expr_any (thn (he pins s σ H _ I h) λv s1 hz1=>by obtain⟨x,H1,I1,r1,q1⟩:=hz1;exact ⟨σ,H1,I1,q1⟩) I.quiet hs
noncomputable def tRet (te:TE):TS:=λD σ H=>te σ H D.rt
theorem zXp(he:PE X e te):PS X (.Return (some e) pos) (tRet te):=by intro pins s σ H D I h;exact wpAny_Return_some (thn (he pins s σ H _ I h) λv s1 hz2=>by obtain⟨x,H1,I1,r1,q1⟩:=hz2;exact ⟨x,σ,H1,I1,r1,q1⟩)
noncomputable def tIfS (c:TT) (t u:TS):TS:=λD σ H=>c σ H λb H1=>if b=true then t D σ H1 else u D σ H1
theorem yB4(hc:PT X c tc)(ha:PSs X a t)(hb:PSs X b u):PS X (.If c a b pos) (tIfS tc t u):=by
 intro pins s σ H D I h;refine wpAny_If (thn (hc pins s σ H _ I h) λd s1 hq1=>?_);obtain⟨H1,I1,q1⟩:=hq1;cases d with
 | true=>exact ha pins s1 σ H1 D I1 q1
 | false=>exact hb pins s1 σ H1 D I1 q1
end
abbrev TG:=V->St->Hp->(St->Hp->Prop)->Prop
abbrev TGs:=List V->St->Hp->(St->Hp->Prop)->Prop
def PG(X:Cx)(target:Expr)(t:TG):Prop:=
 ∀(pins:List (Addr × Obj)) (s:Shared) (σ:St) (H:Hp) (v:V) (u:Value) (Q:St->Hp->Prop),Inv X pins σ H s->RelV v u->t v σ H Q->
  wpAny (model X.prog X.w) X.A (assign target X.env u) (λ_ s'=>∃σ' H',Inv X pins σ' H' s'/\Q σ' H') X.xe s
def PGs(X:Cx)(ts:List Expr)(t:TGs):Prop:=
 ∀(pins:List (Addr × Obj)) (s:Shared) (σ:St) (H:Hp) (vs:List V) (us:List Value) (Q:St->Hp->Prop),Inv X pins σ H s->Vals vs us->t vs σ H Q->
  wpAny (model X.prog X.w) X.A (assignInOrder ((assignEach ts X.env).map (·.2)) us) (λ_ s'=>∃σ' H',Inv X pins σ' H' s'/\Q σ' H') X.xe s
abbrev TSet:=V->V->V->Hp->(Hp->Prop)->Prop
def PSet(X:Cx)(t:TSet):Prop:=
 ∀(pins:List (Addr × Obj)) (s:Shared) (σ:St) (H:Hp) (o i v:V) (ov iv u:Value) (Q:Hp->Prop),Inv X pins σ H s->RelV o ov->RelV i iv->RelV v u->t o i v H Q->
  wpAny (model X.prog X.w) X.A (setItem ov iv u) (λ_ s'=>∃H',Inv X pins σ H' s'/\Q H') X.xe s
section
variable {X:Cx}{pos:Pos}
noncomputable def gName (i:Nat):TG:=λv σ H Q=>Q (σ.set i (some v)) H
theorem zTt(hN:X.N.Nodup)(hi:X.N[i]?=some x)(hx:Loc X.env.scope x)(hf:X.fn x=true\/X.env.scope.names.lookup x=some .local:=by first|exact .inl rfl|exact .inr rfl|assumption):PG X (.Name x pos) (gName i):=by intro pins s σ H v u Q I r h;exact wpAny_assign_Name (zE2 I hN hi hx r (λs' I'=>⟨_,H,I',h⟩) hf)
noncomputable def gNil:TGs:=λvs σ H Q=>vs=[]/\Q σ H
noncomputable def zV7 (t:TG) (u:TGs):TGs:=λvs σ H Q=>∃v r,vs=v::r/\t v σ H λσ' H'=>u r σ' H' Q
theorem zTr:PGs X [] gNil:=by intro pins s σ H vs us Q I r h;obtain⟨e,h⟩:=h;subst e;cases r;exact assignInOrder_nil ⟨σ,H,I,h⟩
theorem zQ1(h1:PG X e t)(h2:PGs X es u)
  (hs:(assignEach (e::es) X.env).map (·.2)=assign e X.env::(assignEach es X.env).map (·.2):=by rfl):PGs X (e::es) (zV7 t u):=by
 intro pins s σ H vs us Q I r h;obtain⟨v,vr,e1,h⟩:=h;subst e1;cases r with
 | cons r rr=>
  rw[hs];refine assignInOrder_cons (thn (h1 pins s σ H _ _ _ I r h) λ_ s1 hq1=>?_);obtain⟨σ1,H1,I1,q1⟩:=hq1;exact h2 pins s1 σ1 H1 _ _ Q I1 rr q1
noncomputable def gTup (K:PySem.W.Frag) (n:Nat) (t:TGs):TG:=λv σ H Q=>∃a xs,v=.ref a/\SqT K H a xs/\xs.length=n/\t xs σ H Q
theorem zXu{k:Nat}{n:Nat}(hc:X.calm=true)(h:PGs X es t)
  (hn:(assignEach es X.env).length=n:=by rfl) (hst:(assignEach es X.env).findIdx? (·.1)=none:=by rfl):PG X (.Tuple es k pos) (gTup X.K n t):=by
 intro pins s σ H v u Q I r hw;obtain⟨a,xs,e1,hq,hl,hw⟩:=hw;subst e1;cases r;obtain⟨its,rv,ht,hz⟩:=I.tuple hq;refine assign_Tuple_tuple (I.ok.hd hc) ht (by simp[hn,<- hl,rv.length]) hst λh' hx=>?_
 have I1:Inv X pins σ H { s with heap:=h' }:=I.kept (t':=s.toks) λb o e=>hx b o (xA (xq e)) e
 exact h pins _ σ H xs _ Q I1 (by simpa using rv) hw
noncomputable def gSub (to ti:TE) (t:TSet):TG:=λv σ H Q=>to σ H λo H1=>ti σ H1 λi H2=>t o i v H2 λH3=>Q σ H3
theorem zXv(ho:PE X o to)(hi:PE X i ti)(hs:PSet X t)
  (ha:∀v,assign (.Subscript o i pos) X.env v=(do
   let ov <- holding [v] (eval o X.env)
   let iv <- holding [v,ov] (eval i X.env)
   standAt pos
   holding [v,ov,iv] (setItem ov iv v)
   release [v,ov,iv] []):=by intro _;rfl):PG X (.Subscript o i pos) (gSub to ti t):=by
 intro pins s σ H v u Q I r h;rw[ha];refine xc (xP (thn (ho pins s σ H _ I h) λov s1 hq1=>?_));obtain⟨x,H1,I1,r1,q1⟩:=hq1;refine xc (xP (thn (hi pins s1 σ H1 _ I1 q1) λiv s2 hq1=>?_));obtain⟨y,H2,I2,r2,q2⟩:=hq1;refine xc (wpAny_standAt (xc (xP (thn (hs pins s2 σ H2 x y v ov iv u _ I2 r1 r2 r q2) λ_ s3 hq1=>?_))));obtain⟨H3,I3,q3⟩:=hq1;exact wpAny_release ⟨σ,H3,I3,q3⟩
noncomputable def tAsg (te:TE) (g:TG):TS:=λD σ H=>te σ H λx H1=>g x σ H1 D.nx
theorem zRw(he:PE X e te)(hg:PG X tg g)(hs:swapsWithSole [tg] e pos.line X.env=pure false:=by rfl)(hw:swappedStores [tg] e X.env=pure none:=by rfl)
  (h1:(assignEach [tg] X.env).map (·.2)=[assign tg X.env]:=by rfl):PS X (.Assign [tg] e pos) (tAsg te g):=by
 intro pins s σ H D I h;refine wpAny_Assign_stores (thn (he pins s σ H _ I h) λv s1 hq1=>?_) hs hw;obtain⟨x,H1,I1,r1,q1⟩:=hq1;rw[h1];exact thn (hg pins s1 σ H1 x v _ I1 r1 q1) λ_ s2 q=>q
theorem zXo{i:Nat}(hN:X.N.Nodup)(hi:X.N[i]?=some x)(hx:Loc X.env.scope x)(he:PE X e te)(hs:swapsWith e (some (.Name x pos')) pos.line X.env=pure false:=by rfl)(hf:X.fn x=true\/X.env.scope.names.lookup x=some .local:=by first|exact .inl rfl|exact .inr rfl|assumption):
  PS X (.Assign [.Name x pos'] e pos) (tAsg te (gName i)):=by
 intro pins s σ H D I h;refine wpAny_Assign_Name (thn (he pins s σ H _ I h) λv s1 hq1=>?_) hs;obtain⟨y,H1,I1,r1,q1⟩:=hq1;exact zE2 I1 hN hi hx r1 (λs2 I2=>⟨_,H1,I2,q1⟩) hf
noncomputable def tPar (i j:Nat) (ta:TA):TS:=λD σ H=>ta σ H λvs H1=>∃v w,vs=[v,w]/\D.nx ((σ.set i (some v)).set j (some w)) H1
theorem zXq{i j:Nat}{a b:Expr}{ta:TA}{px py pt:Pos}{kt k2 pt2}(hc:X.calm=true)(hN:X.N.Nodup)(hi:X.N[i]?=some x)(hj:X.N[j]?=some y)(hij:i≠j)
  (hx:X.env.scope.names.lookup x=some .local) (hy:X.env.scope.names.lookup y=some .local) (ha:PA X [a,b] ta)
  (hw:swappedStores [.Tuple [.Name x px,.Name y py] kt pt] (.Tuple [a,b] k2 pt2) X.env=pure (some [x,y]))
  (hs:swapsWithSole [.Tuple [.Name x px,.Name y py] kt pt] (.Tuple [a,b] k2 pt2) pos.line X.env=pure false:=by rfl):
  PS X (.Assign [.Tuple [.Name x px,.Name y py] kt pt] (.Tuple [a,b] k2 pt2) pos) (tPar i j ta):=by
 intro pins s σ H D I h;rw[exec_Assign_arm];refine xc (wpAny_standAt ?_);rw[hs];refine xc (xh ?_);rw[xg (by decide)];refine xc (Tuple_ (thn (ha _ pins s σ H _ I h) λus s1 hq1=>?_));obtain⟨vs,H1,I1,r1,q1⟩:=hq1;obtain⟨v,w,e1,q1⟩:=q1;subst e1;obtain⟨u1,u2,rfl,rv,rw'⟩:∃u1 u2,us=[u1,u2]/\RelV v u1/\RelV w u2:=by
  cases r1 with
  | cons p q=>
   cases q with
   | cons p' q'=>
    cases q';exact⟨_,_,rfl,p,p'⟩
 refine xQ ?_ (by show 2<=sizeLine;decide);have I2:Inv X pins σ H1 { s1 with heap:=s1.heap.push { cls:=.type "tuple",data:=.seq [u1,u2].toArray } }:=I1.kept (t':=s1.toks) λb o e=>xt _ e
 rw[hw];refine xc (xh ?_);show wpAny (model X.prog X.w) X.A (do rule "assign.swapped-stores";let items <- unpackItems (.ref s1.heap.objs.size) 2 none;assignInOrder [λv=>bindName X.env y v,λv=>bindName X.env x v] items.reverse;pure Flow.next) _ _ _;refine xc (vn (xc (unpackItems_tuple (items:=#[u1,u2]) (I.ok.hd hc) (IsTup.new s1.heap _) λh' hx'=>?_)));have I3:=I2.kept (h':=h') (t':=s1.toks) λb o e=>hx' b o (xA (xq e)) e
 show wpAny _ _ (assignInOrder [λv=>bindName X.env y v,λv=>bindName X.env x v] [u2,u1] >>= λ_=>pure Flow.next) _ _ _;refine xc (assignInOrder_cons (wpAny_bindName (zE2 I3 hN hj (.inl hy) rw' (λs2 I4=>?_) (.inr hy))));refine assignInOrder_cons (wpAny_bindName (zE2 I4 hN hi (.inl hx) rv (λs3 I5=>assignInOrder_nil (xh ?_)) (.inr hx)));rw[List.set_comm _ _ (xG hij)]at I5;exact⟨_,H1,I5,q1⟩
noncomputable def zRk (c:TT) (tb:TS):TS:=λD σ H=>∃W:Nat->St->Hp->Prop,(∃m,W m σ H)/\∀m σ H,W m σ H->
 c σ H λb H1=>if b=true then ∃N:St->Hp->Prop,(∀σ' H',N σ' H'->∃m',m'<m/\W m' σ' H')/\tb { D with nx:=N,ct:=N,bk:=D.nx } σ H1 else D.nx σ H1
theorem zPv(hp:PassesOwn (model X.prog X.w) X.A X.env X.xe)(hc:PT X c tc)(hb:PSs X body tb):PS X (.While c body [] pos) (zRk tc tb):=by
 intro pins s σ H D I h;obtain⟨W,⟨m0,w0⟩,turn⟩:=h;refine wpAny_While (codeAny_whileLoop (λn s'=>∃σ' H',Inv X pins σ' H' s'/\W n σ' H') ?_ m0 ⟨σ,H,I,w0⟩);rintro n s1 ⟨σ1,H1,I1,w1⟩;refine ue hp (thn (hc pins s1 σ1 H1 _ I1 (turn n σ1 H1 w1)) λb s2 hq1=>?_);obtain⟨H2,I2,q2⟩:=hq1;cases b with
 | true=>
  obtain⟨N,hN,q2⟩:=q2;rw[xf rfl];refine ue hp (thn (hb pins s2 σ1 H2 _ I2 q2) λf s3 q3=>?_);cases f with
  | next=>
   obtain⟨σ3,H3,I3,n3⟩:=q3;obtain⟨m',hm,w3⟩:=hN σ3 H3 n3;exact⟨m',hm,σ3,H3,I3,w3⟩
  | cont=>
   obtain⟨σ3,H3,I3,n3⟩:=q3;obtain⟨m',hm,w3⟩:=hN σ3 H3 n3;exact⟨m',hm,σ3,H3,I3,w3⟩
  | brk=>exact q3
  | ret v=>exact q3
 | false=>
  rw[xg vE];exact wpAny_execs_nil ⟨σ1,H2,I2,q2⟩
end
structure It where
 go:Nat->Hp->Prop
 yld:Nat->Hp->V->Hp->Prop
 stop:Nat->Hp->Prop
def FpOk(X:Cx)(pins:List (Addr × Obj))(H:Hp)(b:Addr):Prop:=
 H b=none/\b≠X.env.locals/\b ∉ X.fs/\(b∈X.ex\/X.s₀.heap.objs.size<=b)/\(∀x c,X.env.cells.lookup x=some c->c≠b)/\∀p∈X.pn++pins,p.1≠b
theorem Inv.fpOk{H':Hp}{s:Shared}(I:Inv X pins σ H s)(hb:s.heap.objs.size<=b)(hn:H' b=none):FpOk X pins H' b:=by
 refine⟨hn,Nat.ne_of_gt (xB I.lt hb),I.nofs hb,.inr (xm I.sz hb),λx c e z=>?_,λp hp z=>?_⟩
 ·obtain⟨v,q⟩:=I.cell x c e;exact absurd (xB q.lt (by rw[z];exact hb)) (vk _)
 ·exact absurd (xB (xq (I.pin p hp).1) (by rw[z];exact hb)) (vk _)
structure Turn (P:Program) (w:World) (K:PySem.W.Frag) (tg:Expr) (J:It) (fp:List Addr) (it:Addr) (tn:Nat->Heap->Prop):Prop where
 mem:it∈fp
 obj:∀i h,tn i h->∀b∈fp,∃o,h.get? b=some o/\∀v,o.data≠.cell v
 keep:∀i h h',tn i h->(∀b∈fp,∀o,h.get? b=some o->h'.get? b=some o)->tn i h'
 item:∀(X:Cx),X.prog=P->X.w=w->X.K=K->X.calm=true->∀(i:Nat) (pins:List (Addr × Obj)) (s:Shared) (σ:St) (H:Hp) (E:Value->Shared->Prop),Inv X pins σ H s->(∀b∈fp,FpOk X pins H b)->tn i s.heap->J.go i H->
  wpAny (model P w) X.A (pyNext (.ref it)) (λr s1=>∃u,r=some u /\
   wpAny (model P w) X.A (letOwnedTupleGo tg (.ref it) u) (λ_ s2=>∃x H',Inv X pins σ H' s2/\RelV x u/\J.yld i H x H'/\tn (i+1) s2.heap/\∀b∈fp,H' b=none) E s1) E s
 done:∀(X:Cx),X.prog=P->X.w=w->X.K=K->X.calm=true->∀(i:Nat) (pins:List (Addr × Obj)) (s:Shared) (σ:St) (H:Hp) (E:Value->Shared->Prop),Inv X pins σ H s->(∀b∈fp,FpOk X pins H b)->tn i s.heap->J.stop i H->
  wpAny (model P w) X.A (pyNext (.ref it)) (λr s1=>r=none/\Inv X pins σ H s1) E s
 self:∀(A:Around) (i:Nat) (s:Shared) (Q:Value->Shared->Prop) (E:Value->Shared->Prop),tn i s.heap->Q (.ref it) s->wpAny (model P w) A (pyIter (.ref it)) Q E s
abbrev TI:=St->Hp->(It->Hp->Prop)->Prop
def PIE(X:Cx)(pins:List (Addr × Obj))(σ:St)(tg:Expr)(R:It->Hp->Prop)(itv:Value)(s2:Shared):Prop:=
 ∃(it:Addr) (fp:List Addr) (tn:Nat->Heap->Prop) (J:It) (H':Hp),itv=.ref it/\Inv X pins σ H' s2/\Turn X.prog X.w X.K tg J fp it tn/\tn 0 s2.heap/\(∀b∈fp,FpOk X pins H' b)/\R J H'
def PI(X:Cx)(tg iter:Expr)(wi:TI):Prop:=
 ∀(pins:List (Addr × Obj)) (s:Shared) (σ:St) (H:Hp) (R:It->Hp->Prop),Inv X pins σ H s->wi σ H R->
  wpAny (model X.prog X.w) X.A (eval iter X.env) (λv s1=>wpAny (model X.prog X.w) X.A (pyIter v) (PIE X pins σ tg R) X.xe s1) X.xe s
theorem zNk{M:Model}{A:Around}{E:Value->Shared->Prop}{s:Shared}{tg:Expr}{u:Value}{o:Obj}{Q:Unit->Shared->Prop}(ho:s.heap.get? it=some o)(hc:o.cls=.type n)(hd:o.data=.fields vs)
    (hn:["enumerate","zip","dict_itemiterator","dict_reverseitemiterator","odict_iterator","itertools.zip_longest","itertools.pairwise"].contains n=false) (hQ:Q () s):wpAny M A (letOwnedTupleGo tg (.ref it) u) Q E s:=by
  unfold letOwnedTupleGo;cases tg <;> first
    | exact xh hQ
    | (cases u <;> first
        | exact xh hQ
        | (refine xc (wpAny_load ho ?_)
           rw[hc,hd];show wpAny M A (if(["enumerate","zip","dict_itemiterator","dict_reverseitemiterator","odict_iterator","itertools.zip_longest","itertools.pairwise"].contains n && vs[0]? == some (rawInt _))=true then _ else _) Q E s;rw[xg (by intro h;rw[hn,Bool.false_and]at h;cases h)];exact xh hQ))
noncomputable def Itl (K:PySem.W.Frag) (a:Addr):It:=
 ⟨λi H=>∃xs x,SqL K H a xs/\xs[i]?=some x,λi H x H'=>H'=H/\∀xs,SqL K H a xs->xs[i]?=some x,λi H=>∃xs,SqL K H a xs/\xs.length<=i⟩
noncomputable def Itt (K:PySem.W.Frag) (a:Addr):It:=
 ⟨λi H=>∃xs x,SqT K H a xs/\xs[i]?=some x,λi H x H'=>H'=H/\∀xs,SqT K H a xs->xs[i]?=some x,λi H=>∃xs,SqT K H a xs/\xs.length<=i⟩
noncomputable def Itr (lo:Int) (n:Nat):It:=⟨λi _=>i<n,λi H x H'=>H'=H/\x=.int (lo+i),λi _=>n<=i⟩
theorem zLq{P:Program}{w:World}{K:PySem.W.Frag}{tg:Expr}(a it:Addr):Turn P w K tg (Itl K a) [it] it (λi h=>h.IsListIter it a i) where
 mem:=by simp
 obj:=λi h st b hb=>by
  have e:b=it:=by simpa using hb
  subst e;obtain⟨o,e,c,d⟩:=st;exact⟨o,e,λv z=>by rw[d]at z;cases z⟩
 keep:=λi h h' st k=>st.at λo e=>k it (by simp) o e
 item:=by
  intro X hP hw hK hc i pins s σ H E I hf st hg;subst hP hw hK;obtain⟨xs,x,hq,hx⟩:=hg;obtain⟨its,rv,p,hz⟩:=I.list hq;obtain⟨u,hu,ru⟩:=rv.get hx;obtain⟨f0,f1,f2,f3,f4,f5⟩:=hf it (by simp);refine wpAny_pyNext_list_item st p.isList (x:=u) (by simpa using hu) λh' st' sb=>?_
  have I1:Inv X pins σ H { s with heap:=h' }:=I.turned (t':=s.toks) (λb o hb e=>(sb.2 b hb).trans e) f0 f1 f3 f4 f5;obtain⟨o,e,c,d⟩:=id st';exact⟨u,rfl,zNk (s:={ s with heap:=h' }) e c d (by decide) ⟨x,H,I1,ru,⟨rfl,λys hy=>by rw[I.list_inj hy hq];exact hx⟩,st',λb hb=>(hf b hb).1⟩⟩
 done:=by intro X hP hw hK hc i pins s σ H E I hf st hg;subst hP hw hK;obtain⟨xs,hq,hx⟩:=hg;obtain⟨its,rv,p,hz⟩:=I.list hq;obtain⟨f0,f1,f2,f3,f4,f5⟩:=hf it (by simp);have hl:=rv.length;exact wpAny_pyNext_list_end (I.ok.hd hc) st p.isList (by simp;lia) λh' eb=>⟨rfl,I.turned (t':=s.toks) (λb o hb e=>eb b o hb e) f0 f1 f3 f4 f5⟩
 self:=λ_ _ _ _ _ st h=>wpAny_pyIter_listiter st h
theorem zKn{P:Program}{w:World}{K:PySem.W.Frag}{tg:Expr}(a it:Addr):Turn P w K tg (Itt K a) [it] it (λi h=>h.IsTupleIter it a i) where
 mem:=by simp
 obj:=λi h st b hb=>by
  have e:b=it:=by simpa using hb
  subst e;obtain⟨o,e,c,d⟩:=st;exact⟨o,e,λv z=>by rw[d]at z;cases z⟩
 keep:=λi h h' st k=>st.at λo e=>k it (by simp) o e
 item:=by
  intro X hP hw hK hc i pins s σ H E I hf st hg;subst hP hw hK;obtain⟨xs,x,hq,hx⟩:=hg;obtain⟨its,rv,p,hz⟩:=I.tuple hq;obtain⟨u,hu,ru⟩:=rv.get hx;obtain⟨f0,f1,f2,f3,f4,f5⟩:=hf it (by simp);refine wpAny_pyNext_tuple_item st (show s.heap.IsTuple a its.toArray from p) (x:=u) (by simpa using hu) λh' st' sb=>?_
  have I1:Inv X pins σ H { s with heap:=h' }:=I.turned (t':=s.toks) (λb o hb e=>(sb.2 b hb).trans e) f0 f1 f3 f4 f5;obtain⟨o,e,c,d⟩:=id st';exact⟨u,rfl,zNk (s:={ s with heap:=h' }) e c d (by decide) ⟨x,H,I1,ru,⟨rfl,λys hy=>by rw[I.tuple_inj hy hq];exact hx⟩,st',λb hb=>(hf b hb).1⟩⟩
 done:=by intro X hP hw hK hc i pins s σ H E I hf st hg;subst hP hw hK;obtain⟨xs,hq,hx⟩:=hg;obtain⟨its,rv,p,hz⟩:=I.tuple hq;obtain⟨f0,f1,f2,f3,f4,f5⟩:=hf it (by simp);have hl:=rv.length;exact wpAny_pyNext_tuple_end (I.ok.hd hc) st (show s.heap.IsTuple a its.toArray from p) (by simp;lia) λh' eb=>⟨rfl,I.turned (t':=s.toks) (λb o hb e=>eb b o hb e) f0 f1 f3 f4 f5⟩
 self:=λ_ _ _ _ _ st h=>wpAny_pyIter_tupleiter st h
theorem zKo{P:Program}{w:World}{K:PySem.W.Frag}{tg:Expr}(it:Addr)(lo:Int)(n:Nat):Turn P w K tg (Itr lo n) [it] it (λi h=>IsRangeIter h it (lo+(i:Nat)*1) ((n:Int)-(i:Nat)) 1) where
 mem:=by simp
 obj:=λi h st b hb=>by
  have e:b=it:=by simpa using hb
  subst e;exact⟨_,st,λv z=>by
   have z':Data.fields _=Data.cell v:=z;cases z'⟩
 keep:=λi h h' st k=>k it (by simp) _ st
 item:=by
  intro X hP hw hK hc i pins s σ H E I hf st hg;subst hP hw hK;obtain⟨f0,f1,f2,f3,f4,f5⟩:=hf it (by simp);have W:=Walks.range (prog:=X.prog) (w:=X.w) (I.ok.hd hc) it lo 1 n;refine W.item i s _ _ hg st λv h' tk hv st' kk=>?_
  obtain⟨t,rfl⟩:=hv;have I1:Inv X pins σ H { s with heap:=h',toks:=tk }:=I.turned (λb o hb e=>kk b o (by simpa using hb) e) f0 f1 f3 f4 f5;refine⟨_,rfl,zNk (s:={ s with heap:=h',toks:=tk }) (n:="range_iterator") st' rfl rfl (by decide) ⟨.int (lo+i),H,I1,⟨t,?_⟩,⟨rfl,rfl⟩,st',λb hb=>(hf b hb).1⟩⟩;rw[Int.mul_one]
 done:=by intro X hP hw hK hc i pins s σ H E I hf st hg;subst hP hw hK;obtain⟨f0,f1,f2,f3,f4,f5⟩:=hf it (by simp);exact wpAny_pyNext_range_end (I.ok.hd hc) st (by have:n<=i:=hg;lia) λh' eb=>⟨rfl,I.turned (t':=s.toks) (λb o hb e=>eb b o hb e) f0 f1 f3 f4 f5⟩
 self:=λ_ _ _ _ _ st h=>wpAny_pyIter_rangeiter st h
section
variable {X:Cx}{tg:Expr}
theorem zPm{R:It->Hp->Prop}{E:Value->Shared->Prop}{lo hi:Int}{t u v:Tok}{tk:Nat}(I:Inv X pins σ H s)(h1:-(2 ^ 62)<=lo)(h2:lo<2 ^ 62)(h3:-(2 ^ 62)<=hi)(h4:hi<2 ^ 62)
  (q:R (Itr lo (hi-lo).toNat) H):wpAny (model X.prog X.w) X.A (pyIter (.ref s.heap.objs.size)) (PIE X pins σ tg R) E { s with heap:=s.heap.push { cls:=.type "range",data:=.fields #[.int lo t,.int hi u,.int 1 v] },toks:=tk }:=by
 refine wpAny_pyIter_range (IsRange.new ..) (small_one h1 h2 h3 h4) ?_;have I1:Inv X pins σ H { s with heap:=s.heap.push { cls:=.type "range",data:=.fields #[.int lo t,.int hi u,.int 1 v] },toks:=tk }:=I.kept λb o e=>xt _ e
 refine⟨(s.heap.push { cls:=.type "range",data:=.fields #[.int lo t,.int hi u,.int 1 v] }).objs.size,[(s.heap.push { cls:=.type "range",data:=.fields #[.int lo t,.int hi u,.int 1 v] }).objs.size],_,_,H,rfl,
  I1.kept (t':=tk) λb o e=>xt _ e,zKo _ lo (hi-lo).toNat,?_,λb hb=>?_,q⟩
 ·have e1:lo+((0:Nat):Int)*1=lo:=by simp
  have e2:(((hi-lo).toNat:Nat):Int)-((0:Nat):Int)=Builtin.Range.rangeSize lo hi 1:=by rw[rangeSize_one];split <;> lia
  show IsRangeIter _ _ (lo+((0:Nat):Int)*1) ((((hi-lo).toNat:Nat):Int)-((0:Nat):Int)) 1;rw[e1,e2];exact xv _ rfl
 ·have e:b=(s.heap.push { cls:=.type "range",data:=.fields #[.int lo t,.int hi u,.int 1 v] }).objs.size:=by simpa using hb
  subst e;exact I1.fpOk (xk _) (I1.hok.fresh (xk _))
noncomputable def zV4 (ta:TA):TI:=λσ H R=>ta σ H λvs H1=>∃j:Int,vs=[.int j]/\-(2 ^ 62)<=j/\j<2 ^ 62/\R (Itr 0 j.toNat) H1
theorem zMi(hg:Gl X "range")(hm:X.mg "range"=none)(ha:PA X [a] ta)(hs:starEach [a] X.env=[(false,eval a X.env)]:=by rfl):PI X tg (.Call (.Name "range" p) [a] [] pos) (zV4 ta):=by
 intro pins s σ H R I h;refine Call_ (zFe I hg hm boot_range (yq (thn (ha pos pins s σ H _ I h) λus s1 hq1=>?_) hs rfl));obtain⟨vs,H1,I1,r1,q1⟩:=hq1;obtain⟨j,e,q1,q2,q⟩:=q1;subst e;cases r1 with
 | cons r rr=>
  cases rr;obtain⟨t,rfl⟩:=r;exact call_range_1 (zPm I1 (by nofun) (by nofun) q1 q2 (by simpa using q))
noncomputable def tFor (wi:TI) (g:TG) (tb:TS):TS:=λD σ H=>wi σ H λJ H1=>∃W:Nat->Nat->St->Hp->Prop,(∃m,W 0 m σ H1)/\∀i m σ H,W i m σ H->
 (J.stop i H/\D.nx σ H)\/(J.go i H/\∃N:St->Hp->Prop,(∀σ' H',N σ' H'->∃m',m'<m/\W (i+1) m' σ' H')/\∀x H',J.yld i H x H'->g x σ H' λσ2 H2=>tb { D with nx:=N,ct:=N,bk:=D.nx } σ2 H2)
noncomputable def zH1 (fp:List Addr) (h:Heap):List (Addr × Obj):=fp.filterMap λb=>(h.get? b).map λo=>(b,o)
theorem zCj{h:Heap}(hb:b∈fp)(e:h.get? b=some o):(b,o)∈zH1 fp h:=uC.mpr ⟨b,hb,by rw[e];rfl⟩
theorem zMt{h:Heap}{p:Addr × Obj}(hp:p∈zH1 fp h):p.1∈fp/\h.get? p.1=some p.2:=by
 obtain⟨b,hb,e⟩:=uC.mp hp;cases q:h.get? b with
 | none=>rw[q]at e;cases e
 | some o=>
  rw[q]at e;have e':(b,o)=p:=xM e;subst e';exact⟨hb,q⟩
theorem Inv.pinned{s:Shared}(I:Inv X pins σ H s)(hf:∀b∈fp,FpOk X pins H b)(ho:∀b∈fp,∃o,s.heap.get? b=some o/\∀v,o.data≠.cell v):Inv X (pins++zH1 fp s.heap) σ H s:=
 I.pins_of λp hp=>(xX.mp hp).elim (λz=>I.pin p (xR _ z)) λz=>by
  obtain⟨hb,e⟩:=zMt z;obtain⟨f0,f1,f2,_⟩:=hf p.1 hb;obtain⟨o,e',d⟩:=ho p.1 hb;rw[e]at e';cases e';exact⟨e,f0,f1,f2,d⟩
theorem Inv.unpinned(I:Inv X (pins++pl) σ H s):Inv X pins σ H s:=I.pins_of λp hp=>I.pin p (xR _ (vD _ hp))
theorem zXs{pos:Pos}(hp:PassesOwn (model X.prog X.w) X.A X.env X.xe)(hc:X.calm=true)(hi:PI X tg iter wi)(hg:PG X tg g)(hb:PSs X body tb)
  (hs:∀x,foldedSetIterable iter X.env x=pure x:=by intro _;rfl):PS X (.For tg iter body [] pos) (tFor wi g tb):=by
 intro pins s σ H D I h;refine wpAny_For (thn (hi pins s σ H _ I h) λv s1 h1=>thn h1 λitv s2 h2=>?_) hs;obtain⟨it,fp,tn,J,H2,e,I2,T,st2,f2,W,⟨m0,w0⟩,turn⟩:=h2;subst e
 -- what stays true of the iterator's objects through the loop
 have stat:∀{H':Hp},(∀b∈fp,H' b=none)->∀b∈fp,FpOk X pins H' b:=λhn b hb=>⟨hn b hb,(f2 b hb).2⟩
 refine codeAny_forLoop_any (λn s'=>∃i σ' H',Inv X pins σ' H' s'/\tn i s'.heap/\(∀b∈fp,H' b=none)/\W i n σ' H') ?_ m0 ⟨0,σ,H2,I2,st2,λb hb=>(f2 b hb).1,w0⟩;rintro n s3 ⟨i,σ3,H3,I3,st3,fr3,w3⟩;rcases turn i n σ3 H3 w3 with⟨stop,qn⟩|⟨go,N,hN,step⟩
 ·refine ue hp (thn (T.done X rfl rfl rfl hc i pins s3 σ3 H3 X.xe I3 (stat fr3) st3 stop) λr s4 hq1=>?_);obtain⟨hr,I4⟩:=hq1;subst hr;exact wpAny_execs_nil ⟨σ3,H3,I4,qn⟩
 ·refine ue hp (thn (T.item X rfl rfl rfl hc i pins s3 σ3 H3 X.xe I3 (stat fr3) st3 go) λr s4 hq1=>?_);obtain⟨u,hr,h4⟩:=hq1;subst hr;refine ue hp (thn h4 λ_ s5 hq1=>?_);obtain⟨x,H5,I5,r5,y5,st5,fr5⟩:=hq1;have I5':=I5.pinned (stat fr5) (T.obj _ _ st5);refine ue hp (thn (hg _ s5 σ3 H5 x u _ I5' r5 (step x H5 y5)) λ_ s6 hq1=>?_);obtain⟨σ6,H6,I6,q6⟩:=hq1;refine ue hp (thn (hb _ s6 σ6 H6 _ I6 q6) λf s7 q7=>?_);have again:∀{σ7:St}{H7:Hp},Inv X (pins++zH1 fp s5.heap) σ7 H7 s7->N σ7 H7->∃m,m<n/\∃i σ' H',Inv X pins σ' H' s7/\tn i s7.heap/\(∀b∈fp,H' b=none)/\W i m σ' H':=λ{σ7 H7} I7 n7=>by
   obtain⟨m',hm,w7⟩:=hN σ7 H7 n7;refine⟨m',hm,i+1,σ7,H7,I7.unpinned,T.keep _ _ _ st5 λb hb o e=>(I7.pin (b,o) (xR _ (xR _ (zCj hb e)))).1,λb hb=>?_,w7⟩;obtain⟨o,e,d⟩:=T.obj _ _ st5 b hb;exact(I7.pin (b,o) (xR _ (xR _ (zCj hb e)))).2.1
  cases f with
  | next=>obtain⟨σ7,H7,I7,n7⟩:=q7;exact again I7 n7
  | cont=>obtain⟨σ7,H7,I7,n7⟩:=q7;exact again I7 n7
  | brk=>obtain⟨σ7,H7,I7,q7⟩:=q7;exact⟨σ7,H7,I7.unpinned,q7⟩
  | ret v=>obtain⟨x7,σ7,H7,I7,r7,q7⟩:=q7;exact⟨x7,σ7,H7,I7.unpinned,r7,q7⟩
end
abbrev R2:=V->V->Hp->VK->Prop
def OpR(X:Cx)(f:Value->Value->Sem Value)(r:R2):Prop:=
 ∀(pins:List (Addr × Obj)) (s:Shared) (σ:St) (H:Hp) (x y:V) (v u:Value) (Q:VK),Inv X pins σ H s->RelV x v->RelV y u->r x y H Q->
  wpAny (model X.prog X.w) X.A (f v u) (EP X pins σ Q) X.xe s
def zB9(X:Cx)(f:Value)(r:List V->Hp->VK->Prop):Prop:=
 ∀(pins:List (Addr × Obj)) (s:Shared) (σ:St) (H:Hp) (xs:List V) (us:List Value) (Q:VK),Inv X pins σ H s->Vals xs us->r xs H Q->
  wpAny (model X.prog X.w) X.A (call f us) (EP X pins σ Q) X.xe s
def TruR(X:Cx)(r:V->Hp->(Bool->Hp->Prop)->Prop):Prop:=
 ∀(pins:List (Addr × Obj)) (s:Shared) (σ:St) (H:Hp) (x:V) (v:Value) (Q:Bool->Hp->Prop),Inv X pins σ H s->RelV x v->r x H Q->
  wpAny (model X.prog X.w) X.A (truthy v) (TP X pins σ Q) X.xe s
noncomputable def tOp (r:R2) (ta tb:TE):TE:=λσ H Q=>ta σ H λx H1=>tb σ H1 λy H2=>r x y H2 Q
noncomputable def rI (C:Int->Int->Prop) (g:Int->Int->V):R2:=λx y H Q=>∃i j,x=.int i/\y=.int j/\C i j/\Q (g i j) H
noncomputable def rI0 (g:Int->Int->V):R2:=λx y H Q=>∃i j,x=.int i/\y=.int j/\Q (g i j) H
section
variable {X:Cx}{a b c:Expr}{ta tb tc:TE}{pos:Pos}
theorem binT(ha:PE X a ta)(hb:PE X b tb){R:V->V->Hp->Prop}(I:Inv X pins σ H s)
  (h:ta σ H λx H1=>tb σ H1 λy H2=>R x y H2) {Q:Value->Shared->Prop}{f:Value->Value->Sem Value}
  (hf:∀v u s2 x y H2,Inv X pins σ H2 s2->RelV x v->RelV y u->R x y H2->wpAny (model X.prog X.w) X.A (f v u) Q X.xe s2):
  wpAny (model X.prog X.w) X.A (eval a X.env) (λv s₁=>wpAny (model X.prog X.w) X.A (eval b X.env) (λu s₂=>wpAny (model X.prog X.w) X.A (f v u) Q X.xe s₂) X.xe s₁) X.xe s:=by
 refine thn (ha pins s σ H _ I h) λv s1 hq1=>?_
 obtain⟨x,H1,I1,r1,q1⟩:=hq1;refine thn (hb pins s1 σ H1 _ I1 q1) λu s2 hq1=>?_
 obtain⟨y,H2,I2,r2,q2⟩:=hq1;exact hf v u s2 x y H2 I2 r1 r2 q2
theorem yB6(ho:OpR X (binaryOp op) r)(ha:PE X a ta)(hb:PE X b tb):PE X (.BinOp a op b pos) (tOp r ta tb):=by intro pins s σ H Q I h;exact wpAny_BinOp (binT ha hb I h λv u s2 x y H2 I2 rx ry q=>ho pins s2 σ H2 x y v u Q I2 rx ry q)
theorem opI{f:Value->Value->Sem Value}{C:Int->Int->Prop}{g:Int->Int->Int}
  (rule:∀(i j:Int) (t u:Tok) (s:Shared) (Q:Value->Shared->Prop) (E:Value->Shared->Prop),C i j->Q (.int (g i j) s.toks) { s with toks:=s.toks+1 }->wpAny (model X.prog X.w) X.A (f (.int i t) (.int j u)) Q E s):
  OpR X f (rI C λi j=>.int (g i j)):=by
 intro pins s σ H x y v u Q I rx ry h;obtain⟨i,j,rfl,rfl,hc,q⟩:=h;obtain⟨t,rfl⟩:=rx;obtain⟨t',rfl⟩:=ry;exact rule i j t t' s _ _ hc ⟨.int (g i j),H,I.tok _,⟨_,rfl⟩,q⟩
theorem opI0{f:Value->Value->Sem Value}{g:Int->Int->Int}
  (rule:∀(i j:Int) (t u:Tok) (s:Shared) (Q:Value->Shared->Prop) (E:Value->Shared->Prop),Q (.int (g i j) s.toks) { s with toks:=s.toks+1 }->wpAny (model X.prog X.w) X.A (f (.int i t) (.int j u)) Q E s):
  OpR X f (rI0 λi j=>.int (g i j)):=by
 intro pins s σ H x y v u Q I rx ry h;obtain⟨i,j,rfl,rfl,q⟩:=h;obtain⟨t,rfl⟩:=rx;obtain⟨t',rfl⟩:=ry;exact rule i j t t' s _ _ ⟨.int (g i j),H,I.tok _,⟨_,rfl⟩,q⟩
theorem opB0{f:Value->Value->Sem Value}{g:Int->Int->Bool}
  (rule:∀(i j:Int) (t u:Tok) (s:Shared) (Q:Value->Shared->Prop) (E:Value->Shared->Prop),Q (.bool (g i j)) s->wpAny (model X.prog X.w) X.A (f (.int i t) (.int j u)) Q E s):
  OpR X f (rI0 λi j=>.bl (g i j)):=by
 intro pins s σ H x y v u Q I rx ry h;obtain⟨i,j,rfl,rfl,q⟩:=h;obtain⟨t,rfl⟩:=rx;obtain⟨t',rfl⟩:=ry;exact rule i j t t' s _ _ ⟨.bl (g i j),H,I,rfl,q⟩
def CPow(i j:Int):Prop:=0<=j/\j<=1000000/\i.natAbs<2 ^ 64
theorem zKm(k:Nat):(0:Int)<=2 ^ k:=by rw[two_pow_cast];exact Int.natCast_nonneg _
theorem zYj:OpR X (binaryOp .Add) (rI0 λi j=>.int (i+j)):=opI0 λ_ _ _ _ _ _ _ q=>add_int q
theorem zY7:OpR X (binaryOp .Sub) (rI0 λi j=>.int (i-j)):=opI0 λ_ _ _ _ _ _ _ q=>sub_int q
theorem zYd:OpR X (binaryOp .Mod) (rI (λ_ j=>0<j) λi j=>.int (i % j)):=opI λi j _ _ _ _ _ hc q=>by
 have h1:(0:Int)<j:=hc;exact mod_int' (by nofun) (by rw[Int.fmod_eq_emod_of_nonneg i (by nofun)];exact q)
theorem zYa:OpR X (binaryOp .Pow) (rI CPow λi j=>.int (i ^ j.toNat)):=opI λ_ _ _ _ _ _ _ hc q=>pow_int_small hc.1 hc.2.1 hc.2.2 q
theorem zY9:OpR X (binaryOp .LShift) (rI CPow λi j=>.int (i*2 ^ j.toNat)):=opI λ_ _ _ _ _ _ _ hc q=>lshift_int_small hc.1 hc.2.1 hc.2.2 q
theorem zY8:OpR X (binaryOp .RShift) (rI (λ_ j=>0<=j) λi j=>.int (i / 2 ^ j.toNat)):=opI λi j _ _ _ _ _ hc q=>
 rshift_int hc (by rw[yr i (zKm _)];exact q)
theorem zYi:OpR X (binaryOp .BitAnd) (rI0 λi j=>.int (Builtin.bitAnd i j)):=opI0 λ_ _ _ _ _ _ _ q=>and_int q
theorem yBa:OpR X (binaryOp .BitOr) (rI0 λi j=>.int (Builtin.bitOr i j)):=opI0 λ_ _ _ _ _ _ _ q=>or_int q
theorem zZi{Q:VK}(I:Inv X pins σ H s)(q:Q (.bl k) H)(e:k=k'):EP X pins σ Q (.bool k') s:=by subst e;exact⟨.bl k,H,I,rfl,q⟩
theorem yBb:OpR X (compareOp .Lt) (rI0 λi j=>.bl (decide (i<j))):=opB0 λ_ _ _ _ _ _ _ q=>lt_int q
theorem yBc:OpR X (compareOp .Gt) (rI0 λi j=>.bl (decide (j<i))):=opB0 λ_ _ _ _ _ _ _ q=>gt_int q
theorem yBd:OpR X (compareOp .GtE) (rI0 λi j=>.bl (decide (j<=i))):=opB0 λ_ _ _ _ _ _ _ q=>ge_int q
theorem zMr:OpR X (compareOp .Lt) (λx y H Q=>∃i j,x=.str i/\y=.str j/\Q (.bl (decide (i.cps.toList<j.cps.toList))) H):=by intro pins s σ H x y v u Q I rx ry h;obtain⟨i,j,rfl,rfl,q⟩:=h;obtain⟨t,rfl⟩:=rx;obtain⟨t',rfl⟩:=ry;exact lt_str (zZi I q rfl)
theorem nomark(b:Expr)(h:op≠.In:=by decide)(h2:op≠.NotIn:=by decide):behindInMarks op b=false:=by
 have e1:(op == CmpOp.In)=false:=by cases op <;> first|rfl|exact absurd rfl h
 have e2:(op == CmpOp.NotIn)=false:=by cases op <;> first|rfl|exact absurd rfl h2
 cases b <;> simp[behindInMarks,e1,e2]
theorem zTx(ho:OpR X (compareOp op) r)(ha:PE X a ta)(hb:PE X b tb)(hm:behindInMarks op b=false):PE X (.Compare a [op] [b] pos) (tOp r ta tb):=by intro pins s σ H Q I h;exact wpAny_Compare1 (binT ha hb I h λv u s2 x y H2 I2 rx ry q=>ho pins s2 σ H2 x y v u Q I2 rx ry q) hm
noncomputable def zX3 (t:TE):TT:=λσ H Q=>t σ H λx H'=>∃k,x=.bl k/\Q k H'
theorem zTj(ho:OpR X (compareOp op) r)(ha:PE X a ta)(hb:PE X b tb)(hm:behindInMarks op b=false):PT X (.Compare a [op] [b] pos) (zX3 (tOp r ta tb)):=by
 intro pins s σ H Q I h;refine wpAny_isTrue_Compare1 (thn (ha pins s σ H _ I h) λv s1 ⟨x,H1,I1,r1,q1⟩=>thn (hb pins s1 σ H1 _ I1 q1) λu s2 ⟨y,H2,I2,r2,q2⟩=>
  thn (ho pins s2 σ H2 x y v u _ I2 r1 r2 q2) λc s3 ⟨z,H3,I3,r3,k,e,q3⟩=>?_) hm
 subst e;cases r3;exact uf ⟨H3,I3,q3⟩
def TruV(K:PySem.W.Frag)(x:V)(H:Hp)(k:Bool):Prop:=
 match x with
 | .non=>k=false
 | .bl b=>k=b
 | .int i=>k=(i != 0)
 | .str y=>y.length<=sizeLine/\k=((y.length:Int) != 0)
 | .byt y=>y.size<=sizeLine/\k=((y.size:Int) != 0)
 | .ref p=>(∃xs,SqL K H p xs/\k=!xs.isEmpty)\/(∃xs,SqT K H p xs/\k=!xs.isEmpty)\/∃kvs,H p=some (.dK kvs)/\k=!kvs.isEmpty
 | _=>False
theorem zKy{κ:Type}{kvs:List (κ × V)}{vs:List (κ × Value)}(r:KV kvs vs):(!vs.isEmpty)=!kvs.isEmpty:=by cases r <;> rfl
theorem zFh{xs:List V}{its:List Value}(r:Vals xs its):(!its.toArray.isEmpty)=!xs.isEmpty:=by cases r <;> simp
theorem line63:(sizeLine:Nat)<2 ^ 63:=by rw[vF];decide
theorem zX2:TruR X (λx H Q=>∃k,TruV X.K x H k/\Q k H):=by
 intro pins s σ H x v Q I rx h;obtain⟨k,e,q⟩:=h;have hl:=line63;have hs:sizeLine=16777216:=vF;cases x with
 | non=>
  cases rx;have e':k=false:=e;subst e';exact truthy_none ⟨H,I,q⟩
 | bl b=>
  cases rx;have e':k=b:=e;subst e';exact uf ⟨H,I,q⟩
 | int i=>
  obtain⟨t,rfl⟩:=rx;have e':k=(i != 0):=e;subst e';exact PySem.P.truthy_int ⟨H,I,q⟩
 | str y=>
  obtain⟨t,rfl⟩:=rx;obtain⟨hy,e'⟩:y.length<=sizeLine/\k=((y.length:Int) != 0):=e;subst e';exact PySem.P.truthy_str (by nofun) ⟨H,I.tok _,q⟩
 | byt y=>
  obtain⟨t,rfl⟩:=rx;obtain⟨hy,e'⟩:y.size<=sizeLine/\k=((y.size:Int) != 0):=e;subst e';exact PySem.W.truthy_bytes (by nofun) ⟨H,I.tok _,q⟩
 | ref p=>
  cases rx;have e':(∃xs,SqL X.K H p xs/\k=!xs.isEmpty)\/(∃xs,SqT X.K H p xs/\k=!xs.isEmpty)\/∃kvs,H p=some (.dK kvs)/\k=!kvs.isEmpty:=e
  rcases e' with⟨xs,hx,e'⟩|⟨xs,hx,e'⟩|⟨kvs,hx,e'⟩
  ·subst e';obtain⟨its,r,pl,hz⟩:=I.list hx;have hlen:=r.length;exact wpAny_truthy_list pl.isList (by simp only[xu];lia) ⟨H,I.tok _,by rw[zFh r];exact q⟩
  ·subst e';obtain⟨its,r,pl,hz⟩:=I.tuple hx;have hlen:=r.length;exact truthy_tuple pl (by simp only[xu];lia) ⟨H,I.tok _,by rw[zFh r];exact q⟩
  ·subst e';obtain⟨hz,hS,vs,r,m⟩:kvs.length<=sizeLine/\(p == sysModules)=false/\∃vs,KV kvs vs/\s.heap.DictOf (zAu X.prog X.w) p vs:=I.hok p _ hx
   have hlen:kvs.length=vs.length:=uB r;exact wpAny_truthy_dict hS m (by nofun) ⟨H,I.tok _,by rw[zKy r];exact q⟩
 | _=>exact(show False from e).elim
theorem zPr(ha:PE X a ta)(he:∀whole,isTrue a X.env whole=(do let v <- whole;standAt a.pos;holding [v] (truthy v))):
  PT X a (λσ H Q=>ta σ H λx H'=>∃k,TruV X.K x H' k/\Q k H'):=by
 intro pins s σ H Q I h;exact isTrue_plain (thn (ha pins s σ H _ I h) λv s1 hz3=>by obtain⟨x,H1,I1,r1,q1⟩:=hz3;exact zX2 pins s1 σ H1 x v Q I1 r1 q1) (he _)
theorem zKq:OpR X (binaryOp .Add) (λx y H Q=>∃i j,x=.str i/\y=.str j/\i.length+j.length<=sizeLine/\Q (.str (i++j)) H):=by intro pins s σ H x y v u Q I rx ry h;obtain⟨i,j,rfl,rfl,hz,q⟩:=h;obtain⟨t,rfl⟩:=rx;obtain⟨t',rfl⟩:=ry;exact add_str (λt' tk=>⟨.str (i++j),H,I.tok _,⟨_,rfl⟩,q⟩) hz
theorem vals1(r:Vals [x] us):∃u,us=[u]/\RelV x u:=by
 cases r with
 | cons r1 r2=>cases r2;exact⟨_,rfl,r1⟩
theorem vals2(r:Vals [x,y] us):∃u w',us=[u,w']/\RelV x u/\RelV y w':=by
 cases r with
 | cons r1 r2=>
  cases r2 with
  | cons r3 r4=>cases r4;exact⟨_,_,rfl,r1,r3⟩
theorem zRb:zB9 X (.builtin "abs") (λxs H Q=>∃i,xs=[.int i]/\Q (.int (if i<0 then -i else i)) H):=by intro pins s σ H xs us Q I r h;obtain⟨i,rfl,q⟩:=h;obtain⟨u,rfl,t,rfl⟩:=vals1 r;exact call_abs_int λu tk=>⟨.int (if i<0 then -i else i),H,I.tok _,⟨_,rfl⟩,q⟩
theorem zOi(hc:X.calm=true):zB9 X (.builtin "max") (λxs H Q=>∃i j,xs=[.int i,.int j]/\Q (.int (if j > i then j else i)) H):=by
 intro pins s σ H xs us Q I r h;obtain⟨i,j,rfl,q⟩:=h;obtain⟨u,w',rfl,⟨t,rfl⟩,⟨t',rfl⟩⟩:=vals2 r;refine max_two_ints (I.ok.hd hc) λh' tk k=>⟨_,H,I.kept k,?_,q⟩
 by_cases hj:j > i
 ·rw[xf hj,xf hj];exact⟨_,rfl⟩
 ·rw[xg hj,xg hj];exact⟨_,rfl⟩
theorem zOh(hc:X.calm=true):zB9 X (.builtin "min") (λxs H Q=>∃i j,xs=[.int i,.int j]/\Q (.int (if j<i then j else i)) H):=by
 intro pins s σ H xs us Q I r h;obtain⟨i,j,rfl,q⟩:=h;obtain⟨u,w',rfl,⟨t,rfl⟩,⟨t',rfl⟩⟩:=vals2 r;refine min_two_ints (I.ok.hd hc) λh' tk k=>⟨_,H,I.kept k,?_,q⟩
 by_cases hj:j<i
 ·rw[xf hj,xf hj];exact⟨_,rfl⟩
 ·rw[xg hj,xg hj];exact⟨_,rfl⟩
end
theorem RelO.some_of(r:RelO (some v) o):∃u,o=some u/\RelV v u:=by
 cases o with
 | none=>exact(show False from r).elim
 | some u=>exact⟨u,rfl,r⟩
structure Room (k:Nat) (A:Around):Prop where
 hd:A.handled=none
 dp:A.depth+3*k+5<recursionLimit
 un:A.units+16*k+200<cLine
theorem Room.mono{j k:Nat}(r:Room k A)(h:j<=k):Room j A:=⟨r.hd,by have:=r.dp;lia,by have:=r.un;lia⟩
theorem Room.deeper{k:Nat}{A:Around}(r:Room (k+1) A)(env:Env):Room k (A.deeper env):=
 ⟨r.hd,by have:=r.dp;show A.depth+1+3*k+5<_;lia,by have:=r.un;show A.units+3+16*k+200<_;lia⟩
theorem Room.depth{A:Around}(r:Room k A):A.depth<recursionLimit:=by have:=r.dp;lia
theorem Room.units{A:Around}(r:Room k A):A.units+64<cLine:=by have:=r.un;lia
theorem Room.units0{A:Around}(r:Room k A):A.units<cLine:=by have:=r.un;lia
noncomputable def tNil:TA:=λ_ H Q=>Q [] H
noncomputable def zSv (ta:TE) (tr:TA):TA:=λσ H Q=>ta σ H λx H1=>tr σ H1 λxs H2=>Q (x::xs) H2
section
variable {X:Cx}{e:Expr}{es:List Expr}{te:TE}{t:TA}{pos:Pos}
theorem zY6:PA X [] tNil:=λ_ _ _ _ H Q I h=>Calls.spliced_nil ⟨[],H,I,.nil,h⟩
theorem zTz(ha:PE X e te)(hr:PA X es t)(hs:starEach (e::es) X.env=(false,eval e X.env)::starEach es X.env:=by rfl):PA X (e::es) (zSv te t):=by intro pos pins s σ H Q I h;rw[hs];show wpAny _ _ (spliced ((false,eval e X.env)::backTo pos (starEach es X.env))) _ _ s;refine Calls.spliced_cons (thn (ha pins s σ H _ I h) λu s1 hq1=>?_);obtain⟨x,H1,I1,r1,q1⟩:=hq1;exact thn (hr pos pins s1 σ H1 _ I1 q1) λus s2 hz4=>by obtain⟨xs,H2,I2,r2,q2⟩:=hz4;exact ⟨x::xs,H2,I2,.cons r1 r2,q2⟩
noncomputable def tTup (t:TA):TE:=λσ H Q=>t σ H λxs H1=>xs.length<=sizeLine/\∀p,H1 p=none->Q (.ref p) (upd H1 p (.tup xs))
noncomputable def tLst (t:TA):TE:=λσ H Q=>t σ H λxs H1=>xs.length<=sizeLine/\∀p,H1 p=none->Q (.ref p) (upd H1 p (.lst xs))
theorem zXx{x1}(h:PA X es t):PE X (.Tuple es x1 pos) (tTup t):=by intro pins s σ H Q I hq;refine wpAny_Tuple_spliced (thn (h pos pins s σ H _ I hq) λus s1 ⟨xs,H1,I1,r,z,q⟩=>⟨by rw[<- r.length];exact z,?_⟩);have hf:H1 s1.heap.objs.size=none:=I1.hok.fresh (xk _);refine⟨.ref s1.heap.objs.size,upd H1 s1.heap.objs.size (.tup xs),I1.laid (t':=s1.toks) (λb u e=>xt _ e) (xk _) ?_,rfl,q _ hf⟩;exact⟨z,us,r,⟨_,xv _ rfl,rfl,_,rfl⟩⟩
theorem zXz(h:PA X es t):PE X (.List es pos) (tLst t):=by intro pins s σ H Q I hq;refine wpAny_List_spliced (thn (h pos pins s σ H _ I hq) λus s1 ⟨xs,H1,I1,r,z,q⟩=>⟨by rw[<- r.length];exact z,?_⟩);have hf:H1 s1.heap.objs.size=none:=I1.hok.fresh (xk _);refine⟨.ref s1.heap.objs.size,upd H1 s1.heap.objs.size (.lst xs),I1.laid (t':=s1.toks) (λb u e=>xt _ e) (xk _) ?_,rfl,q _ hf⟩;exact⟨z,us,0,r,xv _ rfl⟩
end
abbrev Sp:=List V->Hp->VK->XK->Prop
abbrev CXT:=List Env->Hp->Shared->XK->Value->Shared->Prop
structure Env0 (P:Program) (w:World) (K:PySem.W.Frag) (mg:Str->Option Value) (base:Heap) (A:Around) (outer:List Env) (s:Shared) (H:Hp):Prop where
 frames:A.frames=some outer
 mod:Mod K mg base
 bs:∀b o,base.get? b=some o->s.heap.get? b=some o/\H b=none
 bsz:base.objs.size<=s.heap.objs.size
 funs:s.heap.FunFrames base outer
 frf:∀b∈frs outer,H b=none
 hok:HOk P w H s.heap
 bare:AllBare s.gens
 gds:A.guards=some []
def CE(outer:List Env)(P:Program)(w:World)(H:Hp)(s:Shared)(Q:VK)(u:Value)(s':Shared):Prop:=
 ∃v H',s'.os=s.os/\AllBare s'.gens/\Un (frs outer) [] H H' s.heap s'.heap/\HOk P w H' s'.heap/\RelV v u/\Q v H'
def CR(CX:CXT)(outer:List Env)(P:Program)(w:World)(H:Hp)(s:Shared)(Q:VK)(E:XK)(r:Result)(s':Shared):Prop:=
 match r with
 | .ok (.ret u)=>CE outer P w H s Q u s'
 | .ok _=>False
 | .error e=>CX outer H s E e s'
structure FnOk (P:Program) (w:World) (K:PySem.W.Frag) (mg:Str->Option Value) (base:Heap) (CX:CXT) (k:Nat) (f:Addr) (fd:FuncData) (ps:List Str) (sp:Sp):Prop where
 len:∀vs H Q E,sp vs H Q E->vs.length=ps.length
 run:∀(A:Around) (outer:List Env) (s:Shared) (H:Hp) (args:Args) (us:List Value) (vs:List V) (Q:VK) (E:XK),Room k A->Env0 P w K mg base A outer s H->BindsTo s fd args (ps.zip us)->Vals vs us->sp vs H Q E->
  codeAny (model P w) A (.call (.ref f) args) (CR CX outer P w H s Q E) s
section
variable {X:Cx}{pins:List (Addr × Obj)}{σ:St}{H:Hp}{s s':Shared}
theorem Inv.env0(I:Inv X pins σ H s):Env0 X.prog X.w X.K X.mg X.base X.A X.stack s H:=
 ⟨I.ok.frames,I.ok.mod,I.bs,xm I.ok.bsz I.sz,I.stack,I.stkFree,I.hok,I.bare,I.ok.gds⟩
theorem Inv.after(I:Inv X pins σ H s)(h:CE X.stack X.prog X.w H s Q u s'):EP X pins σ Q u s':=by obtain⟨v,H',os,bare,un,hok,r,q⟩:=h;obtain⟨hh,g,d,t,os'⟩:=s';obtain rfl:os'=s.os:=os;exact⟨v,H',I.call (h':=hh) (g':=g) (d':=d) (t':=t) (ch:=[]) un hok bare (λb z=>absurd z (by simp)),r,q⟩
end
noncomputable def zP8 (sp:Sp) (dvs:List V) (E:XK) (t:TA):TE:=λσ H Q=>t σ H λvs H1=>sp (vs++dvs) H1 Q E
def Binds(K:PySem.W.Frag)(fd:FuncData)(ps:List Str)(ds:List Value):Prop:=
 ∀(s:Shared) (us:List Value),K.In s.heap->(us++ds).length=ps.length->BindsTo s fd ⟨us,[]⟩ (ps.zip (us++ds))
theorem Binds.all{K:PySem.W.Frag}{fd:FuncData}{ps:List Str}(h:∀us:List Value,us.length=ps.length->bindArgs fd ⟨us,[]⟩=pure (ps.zip us)):Binds K fd ps []:=λs us _ hl=>by
 rw[ug]at hl ⊢;exact .of_eq (h us hl)
def Passes(CX:CXT)(X:Cx)(E:XK):Prop:=∀(pins:List (Addr × Obj)) (σ:St) (H:Hp) (s:Shared) (e:Value) (s':Shared),Inv X pins σ H s->CX X.stack H s E e s'->X.xe e s'
section
variable {X:Cx}{CX:CXT}{k:Nat}{f C:Addr}{fd:FuncData}{ps:List Str}{sp:Sp}{dvs:List V}{ds:List Value}{E:XK}{x m:Str}{p pos apos:Pos}{e o:Expr}{es:List Expr}{ta:TE}{t:TA}
theorem zXd{pins:List (Addr × Obj)}{σ:St}{H:Hp}{s:Shared}{Q:VK}{us:List Value}{vs:List V}(F:FnOk X.prog X.w X.K X.mg X.base CX k f fd ps sp)(hr:Room k X.A)(hb:Binds X.K fd ps ds)(hd:Vals dvs ds)(hx:Passes CX X E)
  (I:Inv X pins σ H s) (r:Vals vs us) (h:sp (vs++dvs) H Q E):wpAny (model X.prog X.w) X.A (call (.ref f) us) (EP X pins σ Q) X.xe s:=by
 have r2:Vals (vs++dvs) (us++ds):=r.append hd;have hl:(us++ds).length=ps.length:=by rw[<- r2.length];exact F.len _ _ _ _ h
 refine wpAny_call (codeAny_mono (F.run X.A X.stack s H ⟨us,[]⟩ (us++ds) (vs++dvs) Q E hr I.env0 (hb s us I.kIn hl) r2 h) λr s' hq=>?_);cases r with
 | error e=>exact hx pins σ H s e s' I hq
 | ok fl=>
  cases fl with
  | ret u=>exact I.after hq
  | next=>exact False.elim hq
  | brk=>exact False.elim hq
  | cont=>exact False.elim hq
theorem zTy(F:FnOk X.prog X.w X.K X.mg X.base CX k f fd ps sp)(hr:Room k X.A)(hg:Gl X x)(hm:X.mg x=some (.ref f))(hk:PySem.W.keepIn X.K (.ref f)=true)(hb:Binds X.K fd ps ds)(hd:Vals dvs ds)(hx:Passes CX X E)
  (ha:PA X (e::es) t) (hdb:(x == ("__debug__":Str))=false:=by decide) (he:starEach (e::es) X.env=(false,eval e X.env)::starEach es X.env:=by rfl) (hpl:(backTo pos (starEach es X.env)).any (·.1)=false:=by rfl):
  PE X (.Call (.Name x p) (e::es) [] pos) (zP8 sp dvs E t):=by
 intro pins s σ H Q I h;refine uX (zUv I hg hm ?_ hdb);refine PySem.W.callWith_K (h₀:=X.base) I.ok.mod.kin hk (thn (ha pos pins s σ H _ I h) λus s1 ⟨vs,H1,I1,r,q⟩=>⟨I1.kIn,?_⟩) he hpl;exact zXd F hr hb hd hx I1 r q
end
structure zDl (N P:List Str) (sc:Scope):Prop where
 kind:sc.kind=.function
 co:sc.isCoroutine=false
 gen:sc.isGenerator=false
 nd:N.Nodup
 pre:N.take P.length=P
 par:∀x∈P,sc.names.lookup x=some .local\/sc.names.lookup x=some .cell
 nofree:∀y∈sc.names,y.2≠.free
theorem zHo{kindOf:Str->Option NameKind}:∀{binds:List (Str × Value)}{m:Str->Option Value},(∀v,(x,v) ∉ binds)->bindL kindOf binds m x=m x
 | [],_,_=>rfl
 | (n,v)::r,m,h=>by
  unfold bindL;rw[zHo λw hw=>h w (vf _ hw)];split
  ·have:x≠n:=by rintro rfl;exact h v xS
   simp[this]
  ·rfl
theorem zHq{kindOf:Str->Option NameKind}:∀{binds:List (Str × Value)}{m:Str->Option Value},(∀v,(x,v) ∉ binds)->bindC kindOf binds m x=m x
 | [],_,_=>rfl
 | (n,v)::r,m,h=>by
  unfold bindC;rw[zHq λw hw=>h w (vf _ hw)];split
  ·rfl
  ·have:x≠n:=by rintro rfl;exact h v xS
   simp[this]
theorem zHp{kindOf:Str->Option NameKind}:∀{P:List Str}{vs:List Value}{i:Nat}{m:Str->Option Value},P.Nodup->P[i]?=some x->vs[i]?=some v->kindOf x=some .local->
  bindL kindOf (P.zip vs) m x=some v
 | [],_,_,_,_,h,_,_=>by simp at h
 | _::_,[],_,_,_,_,h,_=>by simp at h
 | p::P,w::vs,0,m,nd,h1,h2,hk=>by
  simp at h1 h2;subst h1;subst h2;show bindL kindOf ((p,w)::P.zip vs) m p=_;unfold bindL;rw[zHo λv hv=>(vo.mp nd).1 (List.of_mem_zip hv).1,xf hk];simp
 | p::P,w::vs,i+1,m,nd,h1,h2,hk=>by
  show bindL kindOf ((p,w)::P.zip vs) m x=_;unfold bindL;exact zHp (i:=i) (vo.mp nd).2 (by simpa using h1) (by simpa using h2) hk
theorem zHr{kindOf:Str->Option NameKind}:∀{P:List Str}{vs:List Value}{i:Nat}{m:Str->Option Value},P.Nodup->P[i]?=some x->vs[i]?=some v->kindOf x≠some .local->
  bindC kindOf (P.zip vs) m x=some v
 | [],_,_,_,_,h,_,_=>by simp at h
 | _::_,[],_,_,_,_,h,_=>by simp at h
 | p::P,w::vs,0,m,nd,h1,h2,hk=>by
  simp at h1 h2;subst h1;subst h2;show bindC kindOf ((p,w)::P.zip vs) m p=_;unfold bindC;rw[zHq λv hv=>(vo.mp nd).1 (List.of_mem_zip hv).1,xg hk];simp
 | p::P,w::vs,i+1,m,nd,h1,h2,hk=>by
  show bindC kindOf ((p,w)::P.zip vs) m x=_;unfold bindC;exact zHr (i:=i) (vo.mp nd).2 (by simpa using h1) (by simpa using h2) hk
noncomputable def start (N:List Str) (vs:List V):St:=vs.map some++List.replicate (N.length-vs.length) none
noncomputable def cxOf (CX:CXT) (P:Program) (w:World) (K:PySem.W.Frag) (mg:Str->Option Value) (base:Heap) (N:List Str) (qual:Str) (scope:Scope) (f:Addr) (cd:Value) (A:Around) (outer:List Env) (s:Shared) (H:Hp) (E:XK):Cx where
 prog:=P
 w:=w
 K:=K
 mg:=mg
 base:=base
 A:=A.deeper (envOfC qual scope s.heap.objs.size f cd)
 N:=N
 s₀:=s
 H₀:=H
 env:=envOfC qual scope s.heap.objs.size f cd
 outer:=outer
 stack:=envOfC qual scope s.heap.objs.size f cd::outer
 ex:=[]
 calm:=true
 fn:=λ_=>true
 pn:=[]
 xe:=λe s'=>wpAny (model P w) (A.deeper (envOfC qual scope s.heap.objs.size f cd)) (leaving (envOfC qual scope s.heap.objs.size f cd) e) (λ_ s''=>CX outer H s E e s'') (λe' s''=>CX outer H s E e' s'') s'
theorem zKf{sc:Scope}(h:sc.names.lookup x=some .cell):∃c,(cellsFrom n sc.names []).lookup x=some c:=by have q:=PySem.W.cellsFrom_some sc.names n [] (.inl h);exact Option.isSome_iff_exists.mp q
theorem zNg{CX:CXT}{P:Program}{w:World}{K:PySem.W.Frag}{mg:Str->Option Value}{base:Heap}{N ps:List Str}{qual:Str}{scope:Scope}{f:Addr}{cd:Value}{A:Around}{outer:List Env}{s s1:Shared}{H:Hp}{E:XK}{us:List Value}{vs:List V}
  (S:zDl N ps scope) (hd:A.handled=none) (e0:Env0 P w K mg base A outer s H) (hl:vs.length=ps.length) (r:Vals vs us)
  (x:InCallC s s.heap.objs.size (bindL (envOfC qual scope s.heap.objs.size f cd).kindOf (ps.zip us) λ_=>none) (cellsFrom (s.heap.objs.size+1) scope.names []) (bindC (envOfC qual scope s.heap.objs.size f cd).kindOf (ps.zip us) λ_=>none) s1):
  Inv (cxOf CX P w K mg base N qual scope f cd A outer s H E) [] (start N vs) H s1:=by
 have hpl:ps.length<=N.length:=by have:=congrArg List.length S.pre;rw[vh]at this;lia
 obtain⟨h1,tk,rfl,hk⟩:=x.done;have noA:∀b:Addr,b ∉ (cxOf CX P w K mg base N qual scope f cd A outer s H E).ex:=λb z=>absurd (show b∈([]:List Addr)from z) (by simp)
 refine⟨⟨e0.mod,S.kind,rfl,rfl,xk _,λy z c h1 h2=>?_,λy hy=>?_,λy c _ h=>?_,λ_=>hd,Around.frames_deeper e0.frames,.inr ⟨rfl,rfl⟩,λb z=>absurd z (noA b),e0.bs,e0.bsz,λb _ _=>noA b,λb z=>absurd z (noA b),e0.funs,e0.frf,e0.gds⟩,
  rfl,e0.bare,Un.kept hk,⟨_,x.toInCall.ns,λi y v h1 h2 h3=>?_⟩,λy c h=>⟨_,x.cell y c h⟩,e0.hok.fresh (xk _),λy c h=>?_,λp hp=>absurd (show p∈([]:List (Addr × Obj))from hp) (by simp),e0.hok.kept hk,?_⟩
 ·exact name_of_addr x.apart (uD h1) (uD h2)
 ·have hy:scope.names.lookup y=some .cell\/scope.names.lookup y=some .free:=hy;rcases hy with hy|hy
  ·exact zKf hy
  ·exact absurd rfl (S.nofree _ (uD hy))
 ·exact xN (x.above y c (uD h))
 ·have hi:i<vs.length:=by
   unfold start at h2;by_cases hi:i<vs.length
   ·exact hi
   ·rw[vG (by simpa using hi)]at h2;rw[List.getElem?_replicate]at h2;split at h2 <;> cases h2
  have ha:vs[i]?=some v:=by
   unfold start at h2;rw[vy (by simpa using hi),xV]at h2;cases e:vs[i]? with
   | none=>rw[e]at h2;cases h2
   | some a=>rw[e]at h2;cases h2;rfl
  obtain⟨u,hu,rv⟩:=r.get ha;have hp:ps[i]?=some y:=by rw[<- S.pre,uE (by nofun)];exact h1
  have ndP:ps.Nodup:=by rw[<- S.pre];exact S.nd.sublist (uh _ _)
  refine⟨u,rv,?_⟩;rcases S.par y (uF hp)with k|k
  ·exact .inl ⟨k,zHp ndP hp hu k⟩
  ·obtain⟨c,e⟩:=zKf (n:=s.heap.objs.size+1) k;refine .inr ⟨.inl k,c,e,?_⟩;have q:=x.cell y c e;rw[zHr ndP hp hu (by show scope.names.lookup y≠_;rw[k];decide)]at q;exact q
 ·exact e0.hok.fresh (xN (x.above y c (uD h)))
 ·unfold start;show _=N.length;rw[xH,xl,List.length_replicate];lia
theorem yBo{CX:CXT}{P:Program}{w:World}{K:PySem.W.Frag}{mg:Str->Option Value}{base:Heap}{k:Nat}{f:Addr}{name qual:Str}{params:Arguments}{body:List Stmt}{scope:Scope}{dV kV doc pm cdv ct oc:Value}{an od:Option Addr}
  {osl:Array (Option Value)}{N ps:List Str}{sp:Sp}(lk:K.lookup f=some ⟨oc,od,.func (PySem.W.fnOf name qual params body scope dV kV doc pm an cdv ct),osl⟩) (hcd:PySem.W.codeIn K cdv qual=true) (S:zDl N ps scope)
  (len:∀vs H Q E,sp vs H Q E->vs.length=ps.length)
  (hbody:∀(A:Around) (outer:List Env) (s:Shared) (H:Hp) (vs:List V) (Q:VK) (E:XK),Room k (A.deeper (envOfC qual scope s.heap.objs.size f cdv))->sp vs H Q E->
   ∃t,PSs (cxOf CX P w K mg base N qual scope f cdv A outer s H E) body t/\t { nx:=λ_ H'=>Q .non H',rt:=Q } (start N vs) H):
  FnOk P w K mg base CX (k+1) f (PySem.W.fnOf name qual params body scope dV kV doc pm an cdv ct) ps sp:=by
 refine⟨len,λA outer s H args us vs Q E hr e0 hb r hsp=>?_⟩;have hl:=len _ _ _ _ hsp;have KX:K.In s.heap:=e0.mod.kin.keeps λb o e=>(e0.bs b o e).1
 have lim:s.heap.NoLimit:=e0.mod.nolimit.keeps λb o e=>(e0.bs b o e).1
 have hkind:∀y∈ps.zip us,scope.names.lookup y.1=some .local\/(scope.names.lookup y.1=some .cell/\((cellsFrom (s.heap.objs.size+1) scope.names []).lookup y.1).isSome=true):=fun⟨n,v⟩ hy=>by
  rcases S.par n (List.of_mem_zip hy).1 with q|q
  ·exact .inl q
  ·exact .inr ⟨q,PySem.W.cellsFrom_some _ _ _ (.inl q)⟩
 refine codeAny_call_function hr.depth (KX _ _ lk) rfl S.co S.gen rfl (PySem.W.codeRec_of KX hcd) (hb _ _ _ _ ?_)
 refine wpAny_newFunctionEnv_cells S.kind hkind λenv he s1 x=>?_
 subst he;refine⟨lim.keeps x.toInCall.keep,codeAny_func ?_⟩;obtain⟨t,ht,hq⟩:=hbody A outer s H vs Q E (hr.deeper _) hsp;have I:Inv (cxOf CX P w K mg base N qual scope f cdv A outer s H E) [] (start N vs) H s1:=zNg S hr.hd e0 hl r x;refine vm (ht [] s1 (start N vs) H _ I hq) (λfl s' hs=>?_) λe s' hs=>hs
 have fin:∀{σ':St}{H':Hp}{v:V}{u:Value},Inv (cxOf CX P w K mg base N qual scope f cdv A outer s H E) [] σ' H' s'->RelV v u->Q v H'->CE outer P w H s Q u s':=
  λ{σ' H' v u} J rv q=>⟨v,H',J.os,J.bare,J.base,J.hok,rv,q⟩
 cases fl with
 | ret u=>
  obtain⟨v,σ',H',J,rv,q⟩:=hs;exact fin J rv q
 | next=>
  obtain⟨σ',H',J,q⟩:=hs;exact fin (v:=V.non) (u:=Value.none) J rfl q
 | brk=>
  obtain⟨_,_,_,q⟩:=hs;exact False.elim q
 | cont=>
  obtain⟨_,_,_,q⟩:=hs;exact False.elim q
section
variable {X:Cx}{x:Str}{p pos:Pos}{e:Expr}{es:List Expr}{t:TA}{id T:String}{r:List V->Hp->VK->Prop}
noncomputable def tCB (r:List V->Hp->VK->Prop) (t:TA):TE:=λσ H Q=>t σ H λvs H1=>r vs H1 Q
theorem zQ9(hc:zB9 X (.builtin id) r)(hg:Gl X x)(hm:X.mg x=none)(hv:bootBuiltins x=some (.builtin id))(ha:PA X (e::es) t)(hn:x≠"__name__":=by decide)(hdb:(x == ("__debug__":Str))=false:=by decide)
  (he:starEach (e::es) X.env=(false,eval e X.env)::starEach es X.env:=by rfl) (hpl:(backTo pos (starEach es X.env)).any (·.1)=false:=by rfl):PE X (.Call (.Name x p) (e::es) [] pos) (tCB r t):=by
 intro pins s σ H Q I h;refine uX (zFe I hg hm hv ?_ hn hdb);exact PyProof.Rows.callWith_builtin1 (thn (ha pos pins s σ H _ I h) λus s1 hz5=>by obtain⟨vs,H1,I1,r1,q1⟩:=hz5;exact hc pins s1 σ H1 vs us Q I1 r1 q1) he hpl
theorem zMk(hc:zB9 X (.type T) r)(hg:Gl X x)(hm:X.mg x=none)(hv:bootBuiltins x=some (.type T))(ha:PA X (e::es) t)(hn:x≠"__name__":=by decide)(hdb:(x == ("__debug__":Str))=false:=by decide)
  (he:starEach (e::es) X.env=(false,eval e X.env)::starEach es X.env:=by rfl) (hpl:(backTo pos (starEach es X.env)).any (·.1)=false:=by rfl):PE X (.Call (.Name x p) (e::es) [] pos) (tCB r t):=by
 intro pins s σ H Q I h;refine uX (zFe I hg hm hv ?_ hn hdb);exact yq (thn (ha pos pins s σ H _ I h) λus s1 hz6=>by obtain⟨vs,H1,I1,r1,q1⟩:=hz6;exact hc pins s1 σ H1 vs us Q I1 r1 q1) he hpl
end
section
variable {κ:Type}[DecidableEq κ]
noncomputable def valV (kvs:List (κ × V)) (k:κ):Option V:=(kvs.find? λkv=>decide (kv.1=k)).map (·.2)
noncomputable def putK (kvs:List (κ × V)) (k:κ) (v:V):List (κ × V):=
 if(kvs.any λkv=>decide (kv.1=k))=true then kvs.map (λkv=>if kv.1=k then(kv.1,v)else kv)else kvs++[(k,v)]
theorem zE0{p:κ × V}(e:p.1=k):valV (p::r) k=some p.2:=by simp[valV,uG,e]
theorem zE1{p:κ × V}(e:¬ p.1=k):valV (p::r) k=valV r k:=by simp[valV,uG,e]
theorem zJa(k:κ):∀kvs:List (κ × V),(kvs.any λkv=>decide (kv.1=k))=(valV kvs k).isSome
 | []=>rfl
 | p::r=>by
  rw[List.any_cons];by_cases e:p.1=k
  ·simp only[zE0 e,xx e,Bool.true_or,Option.isSome_some]
  ·rw[zE1 e,xy e,Bool.false_or];exact zJa k r
theorem zEk(kvs:List (κ × V))(k:κ)(v:V):(putK kvs k v).length<=kvs.length+1:=by
 unfold putK;split
 ·rw[xl];lia
 ·rw[xH,xD,uH];lia
theorem RelO.isSome_eq{o:Option V}{u:Option Value}(r:RelO o u):o.isSome=u.isSome:=by
 cases o with
 | none=>cases u with
  | none=>rfl
  | some _=>exact(show False from r).elim
 | some _=>cases u with
  | none=>exact(show False from r).elim
  | some _=>rfl
theorem RelO.getD{o:Option V}{u:Option Value}(r:RelO o u)(rd:RelV d d'):RelV (o.getD d) (u.getD d'):=by
 cases o with
 | none=>cases u with
  | none=>exact rd
  | some _=>exact(show False from r).elim
 | some _=>cases u with
  | none=>exact(show False from r).elim
  | some _=>exact r
theorem KV.val(r:KV kvs vs)(k:κ):RelO (valV kvs k) (valueAt vs k):=by
 unfold KV at r;induction r with
 | nil=>exact True.intro
 | @cons p q ps qs h t ih=>
  obtain⟨h1,h2⟩:=h;by_cases e:p.1=k
  ·have e':q.1=k:=h1.symm.trans e;have b:valueAt (q::qs) k=some q.2:=by simp[valueAt,uG,e']
   rw[zE0 e,b];exact h2
  ·have e':¬ q.1=k:=λz=>e (h1.trans z)
   have b:valueAt (q::qs) k=valueAt qs k:=by simp[valueAt,uG,e']
   rw[zE1 e,b];exact ih
theorem KV.any{kvs:List (κ × V)}{vs:List (κ × Value)}(r:KV kvs vs)(k:κ):(kvs.any λkv=>decide (kv.1=k))=vs.any λkv=>decide (kv.1=k):=by
 unfold KV at r;induction r with
 | nil=>rfl
 | cons h t ih=>rw[List.any_cons,List.any_cons,ih,h.1]
theorem KV.repl(r:KV kvs vs)(k:κ)(ry:RelV y u):
  KV (kvs.map λkv=>if kv.1=k then(kv.1,y)else kv) (vs.map λkv=>if kv.1=k then(kv.1,u)else kv):=by
 unfold KV at r ⊢;induction r with
 | nil=>exact .nil
 | @cons p q ps qs h t ih=>
  rw[xp,xp];refine .cons ?_ ih;obtain⟨h1,h2⟩:=h;by_cases e:p.1=k
  ·rw[xf e,xf (h1.symm.trans e)];exact⟨h1,ry⟩
  ·rw[xg e,xg (λz=>e (h1.trans z))];exact⟨h1,h2⟩
theorem KV.put(r:KV kvs vs)(k:κ)(ry:RelV y u):KV (putK kvs k y) (stored vs k u):=by
 unfold putK stored;rw[r.any k];by_cases e:(vs.any λkv=>decide (kv.1=k))=true
 ·rw[xf e,xf e];exact r.repl k ry
 ·rw[xg e,xg e];exact Paired.snoc r ⟨rfl,ry⟩
theorem KV.length{kvs:List (κ × V)}{vs:List (κ × Value)}(r:KV kvs vs):kvs.length=vs.length:=uB r
end
theorem zKx(r:RelV (kV k) u):(zAu P w).is k u=true:=by
 cases k with
 | inl i=>obtain⟨t,e⟩:=(show ∃t,u=Value.int i t from r);subst e;exact zI7 P w i t
 | inr x=>obtain⟨t,e⟩:=(show ∃t,u=Value.str x t from r);subst e;exact zI6 P w x t
theorem zH5 :∀{ks:List Key}{us:List Value},Vals (ks.map kV) us->ItemsAre (zAu P w) ks us
 | [],_,r=>by rw[x8]at r;cases r;exact .nil
 | k::ks,_,r=>by
  rw[xp]at r;cases r with
  | cons h t=>exact .cons (zKx h) (zH5 t)
abbrev KT(H:Hp):List (List Key × V)->List (List Key × Addr × Value)->Prop:=Paired λp q=>p.1=q.1/\H q.2.1=some (.tup (p.1.map kV))/\RelV p.2 q.2.2
theorem KT.val(r:KT H kvs xs)(k:List Key):RelO (valV kvs k) ((atKey xs k).map (·.2)):=by
 induction r with
 | nil=>exact True.intro
 | @cons p q ps qs h t ih=>
  obtain⟨h1,_,h2⟩:=h;by_cases e:p.1=k
  ·have e':q.1=k:=h1.symm.trans e;have b:atKey (q::qs) k=some q.2:=by simp[atKey,uG,e']
   rw[zE0 e,b];exact h2
  ·have e':¬ q.1=k:=λz=>e (h1.trans z)
   have b:atKey (q::qs) k=atKey qs k:=by simp[atKey,uG,e']
   rw[zE1 e,b];exact ih
theorem KT.repl(r:KT H kvs xs)(k:List Key)(ry:RelV y u):
  KT H (kvs.map λkv=>if kv.1=k then(kv.1,y)else kv) (xs.map (putAt k u)):=by
 induction r with
 | nil=>exact .nil
 | @cons p q ps qs h t ih=>
  rw[xp,xp];refine .cons ?_ ih;obtain⟨h1,h2,h3⟩:=h;unfold putAt;by_cases e:p.1=k
  ·rw[xf e,xf (h1.symm.trans e)];exact⟨h1,h2,ry⟩
  ·rw[xg e,xg (λz=>e (h1.trans z))];exact⟨h1,h2,h3⟩
theorem KT.put{H:Hp}(r:KT H kvs xs)(k:List Key)(hb:H b=some (.tup (k.map kV)))(ry:RelV y u):
  KT H (putK kvs k y) (storedH xs k b u):=by
 have e:(kvs.any λkv=>decide (kv.1=k))=(atKey xs k).isSome:=by rw[zJa,(r.val k).isSome_eq,Option.isSome_map]
 unfold putK storedH;rw[e];by_cases q:(atKey xs k).isSome=true
 ·rw[xf q,xf q];exact r.repl k ry
 ·rw[xg q,xg q];exact Paired.snoc r ⟨rfl,hb,ry⟩
theorem KT.keeps{H H':Hp}(r:KT H kvs xs)(ht:∀b ys,H b=some (.tup ys)->H' b=some (.tup ys)):KT H' kvs xs:=
 Paired.mapP r λ_ _ z=>⟨z.1,ht _ _ z.2.1,z.2.2⟩
section
variable {P:Program}{w:World}{H:Hp}{h:Heap}{a:Addr}
theorem zPl(ok:HOk P w H h)(e:Rd H a u):ObjOk P w H h a u:=e.ok ok
theorem zHa{kvs:List (Key × V)}(ok:HOk P w H h)(e:Rd H a (.dK kvs)):kvs.length<=sizeLine/\(a == sysModules)=false/\∃vs,KV kvs vs/\h.DictOf (zAu P w) a vs:=
 show ObjOk P w H h a (.dK kvs)from zPl ok e
theorem yBv{kvs:List (Key × V)}(ok:HOk P w H h)(e:H a=some (.dK kvs)):kvs.length<=sizeLine/\(a == sysModules)=false/\∃vs,KV kvs vs/\h.DictOf (zAu P w) a vs:=zHa ok (.inl e)
theorem zFf{ks:List Key}(ok:HOk P w H h)(e:H a=some (.tup (ks.map kV))):(tupleKind (zAu P w)).is h ks a:=by obtain⟨_,its,r,o,h1,h2,n,h3⟩:=(show ObjOk P w H h a (.tup (ks.map kV))from ok a _ e);exact⟨o,its.toArray,n,h1,h2,h3,by simpa using zH5 r⟩
theorem zH9{kvs:List (List Key × V)}(ok:HOk P w H h)(e:Rd H a (.dT kvs)):kvs.length<=sizeLine/\(a == sysModules)=false /\
  ∃xs,KT H kvs xs/\h.DictOfH (tupleKind (zAu P w)) a xs:=by
 obtain⟨z,y,xs,r,o,es,ep,h1,h2,h3,h4,h5⟩:=(show ObjOk P w H h a (.dT kvs)from zPl ok e);refine⟨z,y,xs,r,o,es,ep,h1,h2,h3,h4,λx hx=>?_,h5⟩;have all:∀{l:List (List Key × V)}{m:List (List Key × Addr × Value)},KT H l m->∀x∈m,(tupleKind (zAu P w)).is h x.1 x.2.1:=by
  intro l m q;induction q with
  | nil=>intro x hx;exact nomatch hx
  | @cons p q ps qs hq t ih=>
   intro x hx;rcases xo.mp hx with e|hx
   ·subst e;exact zFf ok (by rw[<- hq.1];exact hq.2.1)
   ·exact ih x hx
 exact all r x hx
theorem yBt{kvs:List (List Key × V)}(ok:HOk P w H h)(e:H a=some (.dT kvs)):kvs.length<=sizeLine/\(a == sysModules)=false /\
  ∃xs,KT H kvs xs/\h.DictOfH (tupleKind (zAu P w)) a xs:=zH9 ok (.inl e)
end
def DGet(H:Hp)(a:Addr)(y:V)(r:Option V):Prop:=
 (∃kvs k,Rd H a (.dK kvs)/\y=kV k/\r=valV kvs k)\/∃kvs k b,Rd H a (.dT kvs)/\y=.ref b/\H b=some (.tup (k.map kV))/\r=valV kvs k
def DPut(H:Hp)(a:Addr)(y v:V)(H':Hp):Prop:=
 (∃kvs k,H a=some (.dK kvs)/\y=kV k/\kvs.length<sizeLine/\H'=upd H a (.dK (putK kvs k v))) \/
 ∃kvs k b,H a=some (.dT kvs)/\y=.ref b/\H b=some (.tup (k.map kV))/\kvs.length<sizeLine/\H'=upd H a (.dT (putK kvs k v))
section
variable {X:Cx}{pins:List (Addr × Obj)}{σ:St}{H:Hp}{s:Shared}{a:Addr}{y v:V}{u r:Value}{o:Option V}{A:Around}{E:Value->Shared->Prop}
theorem Inv.big(I:Inv X pins σ H s):sysModules<s.heap.objs.size:=by have h:mainGlobals<s.heap.objs.size:=(I.mod.glob.keeps I.bk).lt;exact vL (by decide) h
theorem zO3{Q:Value->Shared->Prop}(hu:A.units+1<cLine)(I:Inv X pins σ H s)(g:DGet H a y (some v))(ry:RelV y u)(h:∀w' s',Inv X pins σ H s'->RelV v w'->Q w' s'):
  wpAny (model X.prog X.w) A (getItem (.ref a) u) Q E s:=by
 rcases g with⟨kvs,k,e,ey,l⟩|⟨kvs,k,b,e,ey,eb,l⟩
 ·subst ey;obtain⟨z,hd,vs,rel,dd⟩:=zHa I.hok e;obtain⟨w',hw,rw'⟩:=RelO.some_of (v:=v) (o:=valueAt vs k) (by rw[l];exact rel.val k);exact wpAny_getItem_of (zKx ry) dd.mapOf hw (h w' _ (I.tok _) rw')
 ·subst ey;cases(show u=Value.ref b from ry);obtain⟨z,hd,xs,rel,dd⟩:=zH9 I.hok e;obtain⟨w',hw,rw'⟩:=RelO.some_of (v:=v) (o:=(atKey xs k).map (·.2)) (by rw[l];exact rel.val k);obtain⟨p,hp,hp2⟩:=vU.mp hw;refine wpAny_getItem_heap (uY hu) (zFf I.hok eb) dd hp ?_;rw[hp2];exact h w' _ (I.tok _) rw'
theorem d_in{Q:Value->Shared->Prop}(hu:A.units+1<cLine)(I:Inv X pins σ H s)(g:DGet H a y o)(ry:RelV y u)(h:∀s',Inv X pins σ H s'->Q (.bool o.isSome) s'):
  wpAny (model X.prog X.w) A (compareOp .In u (.ref a)) Q E s:=by
 rcases g with⟨kvs,k,e,ey,l⟩|⟨kvs,k,b,e,ey,eb,l⟩
 ·subst ey;obtain⟨z,hd,vs,rel,dd⟩:=zHa I.hok e;refine wpAny_in_of (zKx ry) hd dd.mapOf ?_;rw[<- (rel.val k).isSome_eq,<- l];exact h _ (I.tok _)
 ·subst ey;cases(show u=Value.ref b from ry);obtain⟨z,hd,xs,rel,dd⟩:=zH9 I.hok e;refine wpAny_in_heap (uY hu) (zFf I.hok eb) hd dd ?_;have q:=(rel.val k).isSome_eq;rw[Option.isSome_map]at q;rw[<- q,<- l];exact h _ (I.tok _)
theorem zO2{Q:Value->Shared->Prop}(hu:A.units+1<cLine)(I:Inv X pins σ H s)(g:DGet H a y o)(ry:RelV y u)(h:∀s',Inv X pins σ H s'->Q (.bool (!o.isSome)) s'):
  wpAny (model X.prog X.w) A (compareOp .NotIn u (.ref a)) Q E s:=by
 rcases g with⟨kvs,k,e,ey,l⟩|⟨kvs,k,b,e,ey,eb,l⟩
 ·subst ey;obtain⟨z,hd,vs,rel,dd⟩:=zHa I.hok e;refine wpAny_notIn_of (zKx ry) hd dd.mapOf ?_;rw[<- (rel.val k).isSome_eq,<- l];exact h _ (I.tok _)
 ·subst ey;cases(show u=Value.ref b from ry);obtain⟨z,hd,xs,rel,dd⟩:=zH9 I.hok e;refine wpAny_notIn_heap (uY hu) (zFf I.hok eb) hd dd ?_;have q:=(rel.val k).isSome_eq;rw[Option.isSome_map]at q;rw[<- q,<- l];exact h _ (I.tok _)
theorem zO0{h':Heap}{t':Nat}(I:Inv X pins σ H s)(mu:Mut (H a))(hs:Heap.SameBut a s.heap h')(he:∃q,h'.get? a=some q)(new:ObjOk X.prog X.w (upd H a ob) h' a ob):
  Inv X pins σ (upd H a ob) { s with heap:=h',toks:=t' }:=
 I.write (x:=a) (e:=a) mu (.inl rfl) (λb q hb z=>(hs.2 b hb).trans z) he new
theorem zZv{H':Hp}{h':Heap}{kvs:List (Key × V)}(z:kvs.length<=sizeLine)(hd:(a == sysModules)=false)(rel:KV kvs vs)(dd:h'.DictOf (zAu P w) a vs):
  ObjOk P w H' h' a (.dK kvs):=⟨z,hd,vs,rel,dd⟩
theorem zO1{Q:Unit->Shared->Prop}(hu:A.units+1<cLine)(I:Inv X pins σ H s)(g:DPut H a y v H')(ry:RelV y u)(rv:RelV v r)(h:∀s',Inv X pins σ H' s'->Q () s'):
  wpAny (model X.prog X.w) A (setItem (.ref a) u r) Q E s:=by
 rcases g with⟨kvs,k,e,ey,l,eH⟩|⟨kvs,k,b,e,ey,eb,l,eH⟩
 ·subst ey eH;obtain⟨z,hd,vs,rel,dd⟩:=yBv I.hok e;have hz:vs.length<=sizeLine:=by rw[<- rel.length];exact z
  have hl:(putK kvs k v).length<=sizeLine:=by have:=zEk kvs k v;lia
  refine wpAny_setItem_pairs (hsz:=hz) (zKx ry) dd λh' dd' hs=>h _ ?_
  have he:∃q,h'.get? a=some q:=let ⟨q,_,_,hq,_⟩:=dd';⟨q,hq⟩
  exact zO0 I (by rw[e];exact True.intro) hs he (zZv hl hd (rel.put k rv) dd')
 ·subst ey eH;cases(show u=Value.ref b from ry);obtain⟨z,hd,xs,rel,dd⟩:=yBt I.hok e;have hz:xs.length<=sizeLine:=by rw[<- uB rel];exact z
  have hl:(putK kvs k v).length<=sizeLine:=by have:=zEk kvs k v;lia
  refine wpAny_setItem_heap (hsz:=hz) (uY hu) (zFf I.hok eb) dd λh' dd' hs=>h _ ?_
  obtain⟨q,es,ep,hq,h2,h3,h4,_,h5⟩:=dd';refine zO0 I (by rw[e];exact True.intro) hs ⟨q,hq⟩ ⟨hl,hd,_,(rel.put k eb rv).keeps λc ys ec=>?_,q,es,ep,hq,h2,h3,h4,h5⟩;rw[zAb (zYl ec e (λz=>nomatch z))];exact ec
end
section
variable {X:Cx}{pins:List (Addr × Obj)}{σ:St}{H:Hp}{s:Shared}{a:Addr}{kvs:List (Key × V)}{k:Key}{u:Value}{A:Around}{E:Value->Shared->Prop}
theorem yC6{Q:Value->Shared->Prop}(I:Inv X pins σ H s)(e:Rd H a (.dK kvs))(h:∀t s',Inv X pins σ H s'->Q (.int kvs.length t) s'):wpAny (model X.prog X.w) A (call (.builtin "len") [.ref a]) Q E s:=by obtain⟨z,hd,vs,rel,dd⟩:=zHa I.hok e;refine call_len_dict hd dd (by rw[<- rel.length];rw[vF]at z;lia) ?_;rw[<- rel.length];exact h _ _ (I.tok _)
end
theorem zIk{s:Shared}(I:Inv X pins σ H s)(g:DGet H a y o):s.TypeIs (.ref a) "dict":=by
 rcases g with⟨kvs,k,e,_,_⟩|⟨kvs,k,b,e,_,_,_⟩
 ·obtain⟨_,_,vs,_,dd⟩:=zHa I.hok e;exact dd.typeIs
 ·obtain⟨_,_,xs,_,dd⟩:=zH9 I.hok e;exact dd.typeIs
theorem zR6(h:Heap)(hb:sysModules<h.objs.size):ObjOk P w H (h.push { cls:=.type "dict",data:=.dict #[] }) h.objs.size (.dK []):=
 ⟨xT _,beq_eq_false_iff_ne.mpr (xG (xA hb)),[],.nil,Heap.DictOf.new h⟩
theorem zR1(h:Heap)(hb:sysModules<h.objs.size):ObjOk P w H (h.push { cls:=.type "dict",data:=.dict #[] }) h.objs.size (.dT []):=
 ⟨xT _,beq_eq_false_iff_ne.mpr (xG (xA hb)),[],.nil,_,#[],0,xv _ rfl,⟨rfl,rfl,rfl⟩,rfl,rfl,vH⟩
noncomputable def zRm:TE:=λ_ H Q=>∀p,H p=none->Q (.ref p) (upd H p (.dK []))
noncomputable def zRl:TE:=λ_ H Q=>∀p,H p=none->Q (.ref p) (upd H p (.dT []))
section
variable {X:Cx}{pos:Pos}
theorem zQ7:PE X (.Dict [] [] pos) zRm:=λpins s σ H Q I h=>
 wpAny_Dict_empty ⟨.ref s.heap.objs.size,_,I.laid (a:=s.heap.objs.size) (o:=.dK []) (t':=s.toks) (λ_ _ q=>xt _ q) (xk _) (zR6 s.heap I.big),rfl,h _ (I.hok.fresh (xk _))⟩
theorem zQ6:PE X (.Dict [] [] pos) zRl:=λpins s σ H Q I h=>
 wpAny_Dict_empty ⟨.ref s.heap.objs.size,_,I.laid (a:=s.heap.objs.size) (o:=.dT []) (t':=s.toks) (λ_ _ q=>xt _ q) (xk _) (zR1 s.heap I.big),rfl,h _ (I.hok.fresh (xk _))⟩
end
noncomputable def zYp (kvs more:List (Key × V)):List (Key × V):=more.foldl (λacc kv=>putK acc kv.1 kv.2) kvs
theorem KV.merge:∀{more:List (Key × V)}{rs:List (Key × Value)}{kvs:List (Key × V)}{vs:List (Key × Value)},KV more rs->KV kvs vs->KV (zYp kvs more) (merged vs rs):=by
 intro more rs kvs vs r;unfold KV at r;induction r generalizing kvs vs with
 | nil=>intro q;exact q
 | @cons p q ps qs h t ih=>
  intro r0;have e:KV (putK kvs p.1 p.2) (stored vs q.1 q.2):=by have:=r0.put p.1 h.2;rw[<- h.1];exact this
  exact ih e
def IsD(H:Hp)(a:Addr):Prop:=(∃kvs,Rd H a (.dK kvs))\/∃kvs,Rd H a (.dT kvs)
theorem zS9(I:Inv X pins σ H s)(d:IsD H a):
  s.TypeIs (.ref a) "dict"/\(∀b,Value.ref a=.ref b->∃ob,s.heap.get? b=some ob/\ob.dict=none)/\(a == sysModules)=false:=by
 rcases d with⟨kvs,e⟩|⟨kvs,e⟩
 ·obtain⟨_,hd,vs,_,dd⟩:=zHa I.hok e;refine⟨dd.typeIs,λb q=>?_,hd⟩;cases q;obtain⟨ob,_,_,h1,h2,_⟩:=dd;exact⟨ob,h1,h2.2.1⟩
 ·obtain⟨_,hd,xs,_,dd⟩:=zH9 I.hok e;refine⟨dd.typeIs,λb q=>?_,hd⟩;cases q;obtain⟨ob,_,_,h1,h2,_⟩:=dd;exact⟨ob,h1,h2.2.1⟩
section
variable {X:Cx}{pins:List (Addr × Obj)}{σ:St}{H:Hp}{s:Shared}{a:Addr}{y d:V}{u r:Value}{o:Option V}{A:Around}{E:Value->Shared->Prop}
theorem zSg{Q:Value->Shared->Prop}(hu:A.units+1<cLine)(I:Inv X pins σ H s)(g:DGet H a y o)(ry:RelV y u)(rd:RelV d r)(h:∀w' s',Inv X pins σ H s'->RelV (o.getD d) w'->Q w' s'):
  wpAny (model X.prog X.w) A (call (.builtin "dict.get") [.ref a,u,r]) Q E s:=by
 rcases g with⟨kvs,k,e,ey,l⟩|⟨kvs,k,b,e,ey,eb,l⟩
 ·subst ey;obtain⟨z,hd,vs,rel,dd⟩:=zHa I.hok e;refine call_meetsIn PySem.F.slot_dict_get dd.typeIs PySem.F.entry_dict_get (PySem.F.args_dict_get_3 _ _ _) (meets_dict_get_default (zAu X.prog X.w) a (zKx ry) hd r) ⟨_,dd.mapOf,h _ _ (I.tok _) ?_⟩;rw[l];exact(rel.val k).getD rd
 ·subst ey;cases(show u=Value.ref b from ry);obtain⟨z,hd,xs,rel,dd⟩:=zH9 I.hok e;refine call_meetsIn PySem.F.slot_dict_get dd.typeIs PySem.F.entry_dict_get (PySem.F.args_dict_get_3 _ _ _) (meetsH_dict_get_default (tupleKind (zAu X.prog X.w)) a b hd r) ⟨uY hu,k,xs,zFf I.hok eb,dd,h _ _ (I.tok _) ?_⟩;rw[l];exact(rel.val k).getD rd
end
end L2
namespace HT
open PySem PyProof.Rows
section
open PySem.SeqAt
open PySem.AutoSeq1 (wpAny_loadPart')
open PySem.MeetsSeq PySem.MeetsSeq2 PySem.MeetsSeq3
end
section
variable {prog:Program}{w:World}{A:Around}{E:Value->Shared->Prop}{s:Shared}
theorem cat_tup{vs ws:List Value}{Q:Value->Shared->Prop}(ht:IsTup s.heap t vs.toArray)(hb:IsTup s.heap b ws.toArray)(hv:vs≠[])
  (h1:ws=[]->Q (.ref t) s) (h2:ws≠[]->Q (.ref s.heap.objs.size) { s with heap:=s.heap.push { cls:=.type "tuple",data:=.seq (vs++ws).toArray } })
  (hsz:vs.length+ws.length<=sizeLine):wpAny (model prog w) A (binaryOp .Add (.ref t) (.ref b)) Q E s:=by
 obtain⟨⟨cls,dd,data,sl⟩,ho,hc,n,hd⟩:=id ht;obtain⟨⟨cls2,dd2,data2,sl2⟩,ho2,hc2,n2,hd2⟩:=id hb;simp only at hc hd hc2 hd2;subst hc hd hc2 hd2;have e:vs.toArray++ws.toArray=(vs++ws).toArray:=by simp
 by_cases hw:ws=[]
 ·exact concat_meets ⟨_,ho,rfl⟩ ⟨_,ho2,rfl⟩ noFill_tuple_add seq_tuple_add PySem.F.slot_tuple_add PySem.F.entry_tuple_add (PySem.F.args_tuple_add_2 _ _)
   (tuple_addW1 t b vs.toArray ws.toArray n n2 dd dd2 sl sl2 (by simpa using hv) (by simp[hw])) ⟨ho,ho2,h1 hw⟩
 ·refine concat_meets ⟨_,ho,rfl⟩ ⟨_,ho2,rfl⟩ noFill_tuple_add seq_tuple_add PySem.F.slot_tuple_add PySem.F.entry_tuple_add (PySem.F.args_tuple_add_2 _ _)
   (tuple_addW2 t b vs.toArray ws.toArray n n2 dd dd2 sl sl2 (by simpa using hv) (by simpa using hw) (by rw[xu,xu];exact hsz)) ⟨ho,ho2,?_⟩
  rw[e];exact h2 hw
noncomputable def sIx (n d:Nat):Option Int->Nat
 | none=>d
 | some v=>if v<0 then(v+(n:Int)).toNat else min v.toNat n
theorem zXc(n d:Nat)(hd:d<=n)(o:Option Int):sIx n d o<=n:=by
 cases o with
 | none=>exact hd
 | some v=>
  show(if v<0 then(v+(n:Int)).toNat else min v.toNat n)<=n;by_cases hv:v<0
  ·rw[xf hv];lia
  ·rw[xg hv];exact Nat.min_le_right _ _
theorem zOa(v:Int)(n d:Nat):(if v<0 then max (v+(n:Int)) 0 else min v (n:Int))=((sIx n d (some v):Nat):Int):=by
 show(if v<0 then max (v+(n:Int)) 0 else min v (n:Int))=(((if v<0 then(v+(n:Int)).toNat else min v.toNat n):Nat):Int);by_cases hv:v<0
 ·simp only[xf hv];lia
 ·simp only[xg hv];lia
theorem zLl(lo hi:Option Int)(n:Nat):Builtin.Slice.sliceAdjust lo hi 1 (n:Int)=(((sIx n 0 lo:Nat):Int),((sIx n n hi:Nat):Int)):=by
 have h1:¬ ((1:Int)<0):=by nofun
 unfold Builtin.Slice.sliceAdjust;simp only[h1,xJ];refine vp ?_ ?_
 ·cases lo with
  | none=>rfl
  | some v=>exact zOa v n 0
 ·cases hi with
  | none=>rfl
  | some v=>exact zOa v n n
theorem zKp(i j:Nat):Builtin.Slice.slicePlaces (i:Int) (j:Int) 1=j-i:=by
 unfold Builtin.Slice.slicePlaces;have h1:(1:Int) > 0:=by nofun
 simp only[h1,xr,Int.ediv_one];split <;> lia
theorem zF9{o:Option Int}{Q:Option Int->Shared->Prop}(p:IsPart v o)(h:Q o s):wpAny (model prog w) A (Builtin.Slice.slicePartIndex v) Q E s:=by
 cases p with
 | none=>exact slicePart_none h
 | int i t=>exact slicePart_int h
theorem sliceApplied_gen{lo hi:Option Int}{n:Nat}{Q:Int × Int × Nat->Shared->Prop}(hs:s.heap.IsSliceOf sl vl vu .none)(pl:IsPart vl lo)(pu:IsPart vu hi)
  (h:Q (((sIx n 0 lo:Nat):Int),1,sIx n n hi-sIx n 0 lo) s):wpAny (model prog w) A (Builtin.Slice.sliceApplied (.ref sl) (pure (n:Int))) Q E s:=by
 obtain⟨os,hos,hcs,hds⟩:=id hs;unfold Builtin.Slice.sliceApplied Builtin.Slice.sliceFields;refine xc (xc (vq hos hds (x:=vl) rfl (xc (vq hos hds (x:=vu) rfl (xc (vq hos hds (x:=.none) rfl (xh ?_)))))));refine xc (slicePart_none ?_);show wpAny _ _ (if((1:Int) == 0)=true then _ else _) _ _ s;rw[xg (by decide)];refine xc (zF9 pl (xc (zF9 pu (xc (xh ?_)))));show wpAny _ _ (match Builtin.Slice.sliceAdjust lo hi 1 (n:Int)with|(lo,hi)=>pure (lo,(1:Int),Builtin.Slice.slicePlaces lo hi 1)) _ _ s;rw[zLl lo hi n];show wpAny _ _ (pure (((sIx n 0 lo:Nat):Int),(1:Int),Builtin.Slice.slicePlaces ((sIx n 0 lo:Nat):Int) ((sIx n n hi:Nat):Int) 1)) _ _ s;rw[zKp];exact xh h
theorem zQ0(xs:Array Value)(i k:Nat):((List.range k).filterMap fun(m:Nat)=>xs[((i:Int)+(m:Int)*1).toNat]?).toArray=((xs.toList.drop i).take k).toArray:=by
 have e:(fun(m:Nat)=>xs[((i:Int)+(m:Int)*1).toNat]?)=λm=>xs[i+m]?:=by
  funext m
  have:((i:Int)+(m:Int)*1).toNat=i+m:=by nofun
  rw[this]
 rw[e];have:=pick_run xs i k;rw[List.filterMap_map]at this;have e2:((λx=>xs[x]?) ∘ λx=>i+x)=λm=>xs[i+m]?:=rfl
 rw[e2]at this;rw[this]
theorem getItem_tuple_cut{lo hi:Option Int}{Q:Value->Shared->Prop}(ht:IsTup s.heap t items)(hs:s.heap.IsSliceOf sl vl vu .none)(pl:IsPart vl lo)(pu:IsPart vu hi)
  (hw:¬ (sIx items.size 0 lo=0/\sIx items.size items.size hi=items.size))
  (h:Q (.ref s.heap.objs.size) { s with heap:=s.heap.push { cls:=.type "tuple",data:=.seq ((items.toList.drop (sIx items.size 0 lo)).take (sIx items.size items.size hi-sIx items.size 0 lo)).toArray } })
  (hsz:items.size<=sizeLine):wpAny (model prog w) A (getItem (.ref t) (.ref sl)) Q E s:=by
 have htake:sizeOk (.seq ((items.toList.drop (sIx items.size 0 lo)).take (sIx items.size items.size hi-sIx items.size 0 lo)).toArray):=by show((items.toList.drop (sIx items.size 0 lo)).take (sIx items.size items.size hi-sIx items.size 0 lo)).toArray.size<=sizeLine;rw[xu,vh,uZ,vg];lia
 have hj:sIx items.size items.size hi<=items.size:=zXc _ _ (xk _) hi;obtain⟨os,hos,hcs,hds⟩:=id hs;have hTs:s.TypeIs (.ref sl) "slice":=⟨os,hos,hcs⟩;unfold getItem
 try with_reducible refine xP ?_
 first|refine xc (xh ?_)|skip
 refine xc (wpAny_sequenceKey ht.typeIs (by decide) ?_);refine xc (vi (name:=Str.ofString "__getitem__") ht.typeIs ui
  (xK ui ht.typeIs entry_tuple_getitem ?_ (args_tuple_getitem _ _)))
 show wpAny _ _ (Builtin.Tuple.tupleItemsOf (.ref t) >>= _) _ _ s;refine xc (tupleItemsOf_ ht ?_);refine xc (wpAny_typeOf hTs ?_);rw[xf (by decide)];refine xc (sliceApplied_gen hs pl pu ?_);have hno:¬ ((((sIx items.size 0 lo:Nat):Int) == 0 && (1:Int) == 1 && (sIx items.size items.size hi-sIx items.size 0 lo) == items.size)=true):=by intro q;rw[xE,xE]at q;have q1:((sIx items.size 0 lo:Nat):Int)=0:=eq_of_beq q.1.1;have q2:sIx items.size items.size hi-sIx items.size 0 lo=items.size:=eq_of_beq q.2;exact hw ⟨by nofun,by nofun⟩
 show wpAny _ _ (if(((sIx items.size 0 lo:Nat):Int) == 0 && (1:Int) == 1 && (sIx items.size items.size hi-sIx items.size 0 lo) == items.size)=true then _ else _) _ _ s;rw[xg hno,zQ0];first
  | exact xc (m:=Builtin.Tuple.tupleExact _) (xQ (xh ⟨_,rfl,xh h⟩) htake)
  | exact xc (m:=Builtin.Tuple.tupleExact _) (xQ (xc (xh (xh ⟨_,rfl,xh h⟩))) htake)
  | exact xc (xc (m:=Builtin.Tuple.tupleExact _) (xQ (xh (xh ⟨_,rfl,xh h⟩)) htake))
  | exact xc (xc (m:=Builtin.Tuple.tupleExact _) (xQ (xh ⟨_,rfl,xh h⟩) htake))
end
end HT
namespace L2
open PySem PySem.Spec PyProof.Rows
abbrev TO:=St->Hp->(Option Int->Hp->Prop)->Prop
def PO(X:Cx)(e:Option Expr)(t:TO):Prop:=
 ∀(pins:List (Addr × Obj)) (s:Shared) (σ:St) (H:Hp) (Q:Option Int->Hp->Prop),Inv X pins σ H s->t σ H Q->
  wpAny (model X.prog X.w) X.A (evalPart e X.env) (λu s'=>∃o H',Inv X pins σ H' s'/\IsPart u o/\Q o H') X.xe s
noncomputable def zLs:TO:=λ_ H Q=>Q none H
noncomputable def zX4 (t:TE):TO:=λσ H Q=>t σ H λx H1=>∃i,x=.int i/\Q (some i) H1
section
variable {X:Cx}{e:Expr}{te:TE}{lo hi:Option Expr}{tl th:TO}{pos p2:Pos}
theorem zTq:PO X none zLs:=by intro pins s σ H Q I h;rw[evalPart_none];exact xh ⟨none,H,I,.none,h⟩
theorem zTp(h:PE X e te):PO X (some e) (zX4 te):=by
 intro pins s σ H Q I hw;rw[evalPart_some];refine thn (h pins s σ H _ I hw) λu s1 hq1=>?_
 obtain⟨x,H1,I1,r1,q1⟩:=hq1;obtain⟨i,rfl,q⟩:=q1;obtain⟨t,rfl⟩:=r1;exact⟨some i,H1,I1,.int i t,q⟩
def SlR(X:Cx)(r:V->Option Int->Option Int->Hp->VK->Prop):Prop:=
 ∀(pins:List (Addr × Obj)) (s:Shared) (σ:St) (H:Hp) (x:V) (v vl vu:Value) (lo hi:Option Int) (sl:Addr) (Q:VK),Inv X pins σ H s->RelV x v->s.heap.IsSliceOf sl vl vu .none->IsPart vl lo->IsPart vu hi->r x lo hi H Q->
  ∃T id,typeLookup (.type T) "__getitem__"=pure (some (.builtin id))/\s.TypeIs v T/\wpAny (model X.prog X.w) X.A (getItem v (.ref sl)) (EP X pins σ Q) X.xe s
noncomputable def tSl (r:V->Option Int->Option Int->Hp->VK->Prop) (te:TE) (tl th:TO):TE:=λσ H Q=>te σ H λx H1=>tl σ H1 λl H2=>th σ H2 λu H3=>r x l u H3 Q
theorem zQ4{r:V->Option Int->Option Int->Hp->VK->Prop}(hr:SlR X r)(he:PE X e te)(hl:PO X lo tl)(hu:PO X hi th):PE X (.Subscript e (.Slice lo hi none p2) pos) (tSl r te tl th):=by
 intro pins s σ H Q I h;refine Subscript_ (thn (he pins s σ H _ I h) λv s1 hq1=>?_);obtain⟨x,H1,I1,r1,q1⟩:=hq1;refine wpAny_Slice (thn (hl pins s1 σ H1 _ I1 q1) λvl s2 ⟨l,H2,I2,pl,q2⟩=>thn (hu pins s2 σ H2 _ I2 q2) λvu s3 hq1=>?_);obtain⟨u,H3,I3,pu,q3⟩:=hq1;rw[evalPart_none];refine xh ?_;have I4:Inv X pins σ H3 { s3 with heap:=s3.heap.push { cls:=.type "slice",data:=.fields #[vl,vu,.none] } }:=I3.kept (t':=s3.toks) λb ob q=>xt _ q
 obtain⟨T,id,hT,ht,hg⟩:=hr pins { s3 with heap:=s3.heap.push { cls:=.type "slice",data:=.fields #[vl,vu,.none] } } σ H3 x v vl vu l u s3.heap.objs.size Q I4 r1 (Heap.IsSliceOf.new ..) pl pu q3;show wpAny (model X.prog X.w) X.A (subscriptTail e (.Slice lo hi none p2) v (.ref s3.heap.objs.size)) (EP X pins σ Q) X.xe { s3 with heap:=s3.heap.push { cls:=.type "slice",data:=.fields #[vl,vu,.none] } };exact tail_any (ops:=[.ref s3.heap.objs.size,v]) ht hT hg (by with_unfolding_all rfl)
noncomputable def cutV (xs:List V) (lo hi:Option Int):List V:=(xs.drop (HT.sIx xs.length 0 lo)).take (HT.sIx xs.length xs.length hi-HT.sIx xs.length 0 lo)
theorem zEu(xs:List V)(lo hi:Option Int):(cutV xs lo hi).length<=xs.length:=by unfold cutV;rw[vh,uZ];lia
def rSlT(K:PySem.W.Frag):V->Option Int->Option Int->Hp->VK->Prop:=λx lo hi H Q=>∃a xs,x=.ref a/\SqT K H a xs /\
 ¬ (HT.sIx xs.length 0 lo=0/\HT.sIx xs.length xs.length hi=xs.length)/\∀p,H p=none->Q (.ref p) (upd H p (.tup (cutV xs lo hi)))
theorem zRp:SlR X (rSlT X.K):=by
 intro pins s σ H x v vl vu lo hi sl Q I rx hs pl pu h;obtain⟨a,xs,rfl,hx,hw,q⟩:=h;cases rx;obtain⟨its,r,ht,hz⟩:=I.tuple hx;have hlen:its.toArray.size=xs.length:=by rw[xu];exact r.length.symm
 refine⟨"tuple",_,ui.lookup,ht.typeIs,?_⟩;refine HT.getItem_tuple_cut ht hs pl pu (by rw[hlen];exact hw) ?_ (by rw[hlen];exact hz);rw[hlen];refine⟨.ref s.heap.objs.size,_,I.laid (t':=s.toks) (o:=.tup (cutV xs lo hi)) (λb ob q=>xt _ q) (xk _) ?_,rfl,q _ (I.hok.fresh (xk _))⟩;exact⟨xm (zEu xs lo hi) hz,_,(r.drop (HT.sIx xs.length 0 lo)).take (HT.sIx xs.length xs.length hi-HT.sIx xs.length 0 lo),IsTup.new _ _⟩
noncomputable def yB1 (K:PySem.W.Frag):R2:=λx y H Q=>∃a b xs ys,x=.ref a/\y=.ref b/\SqT K H a xs/\SqT K H b ys/\xs≠[]/\xs.length+ys.length<=sizeLine /\
 (ys=[]->Q (.ref a) H)/\(ys≠[]->∀p,H p=none->Q (.ref p) (upd H p (.tup (xs++ys))))
theorem Vals.nil_iff(r:Vals xs us):us=[] <-> xs=[]:=by
 cases r with
 | nil=>simp
 | cons _ _=>simp
theorem zUa:OpR X (binaryOp .Add) (yB1 X.K):=by intro pins s σ H x y v u Q I rx ry h;obtain⟨a,b,xs,ys,rfl,rfl,ha,hb,hx,hz,q1,q2⟩:=h;cases rx;cases ry;obtain⟨its,r1,p1,_⟩:=I.tuple ha;obtain⟨its2,r2,p2,_⟩:=I.tuple hb;refine HT.cat_tup p1 p2 (λz=>hx (r1.nil_iff.mp z)) (λz=>⟨.ref a,H,I,rfl,q1 (r2.nil_iff.mp z)⟩) (λz=>?_) (by rw[<- r1.length,<- r2.length];exact hz);refine⟨.ref s.heap.objs.size,_,I.laid (t':=s.toks) (o:=.tup (xs++ys)) (λb ob q=>xt _ q) (xk _) ?_,rfl,q2 (λw=>z (r2.nil_iff.mpr w)) _ (I.hok.fresh (xk _))⟩;exact⟨by rw[xH];exact hz,_,r1.append r2,IsTup.new _ _⟩
end
noncomputable def ixN (n:Nat) (i:Int):Option Nat:=if 0<=i then(if i<n then some i.toNat else none)else if -(n:Int)<=i then some (i+n).toNat else none
noncomputable def atI {α:Type}(xs:List α) (i:Int):Option α:=(ixN xs.length i).bind λj=>xs[j]?
theorem zNb{n:Nat}{i:Int}{j:Nat}(h:ixN n i=some j):seqIndex? i n=some j/\j<n/\-(n:Int)<=i/\i<n:=by
 unfold ixN at h;by_cases h0:0<=i
 ·rw[xf h0]at h;by_cases h1:i<n
  ·rw[xf h1]at h;have e:i.toNat=j:=xM h;exact⟨by rw[seqIndex_of h0 h1,e],by nofun,by nofun,h1⟩
  ·rw[xg h1]at h;cases h
 ·rw[xg h0]at h;by_cases h1:-(n:Int)<=i
  ·rw[xf h1]at h;have e:(i+n).toNat=j:=xM h;exact⟨by rw[seqIndex_neg (by nofun) h1,e],by nofun,h1,by nofun⟩
  ·rw[xg h1]at h;cases h
theorem zJ6{α:Type}{xs:List α}{i:Int}{v:α}(h:atI xs i=some v):∃j,seqIndex? i xs.length=some j/\xs[j]?=some v/\j<xs.length/\-(xs.length:Int)<=i/\i<xs.length:=by
 unfold atI at h;cases e:ixN xs.length i with
 | none=>rw[e]at h;cases h
 | some j=>
  rw[e]at h;obtain⟨h1,h2,h3,h4⟩:=zNb e;exact⟨j,h1,h,h2,h3,h4⟩
def zP3(b:Expr):Prop:=∀o i,subscripted b false o i=operate [o,i] (getItem o i)
def IxR(X:Cx)(r:R2):Prop:=
 ∀(value slice:Expr) (pins:List (Addr × Obj)) (s:Shared) (σ:St) (H:Hp) (x y:V) (v u:Value) (Q:VK),Inv X pins σ H s->RelV x v->RelV y u->r x y H Q->
  subscripted slice false v u=operate [v,u] (getItem v u)->wpAny (model X.prog X.w) X.A (subscriptTail value slice v u) (EP X pins σ Q) X.xe s
def MtR(X:Cx)(id:String)(r:V->List V->Hp->VK->Prop):Prop:=
 ∀(pins:List (Addr × Obj)) (s:Shared) (σ:St) (H:Hp) (x:V) (xs:List V) (v:Value) (us:List Value) (Q:VK),Inv X pins σ H s->RelV x v->Vals xs us->r x xs H Q->
  wpAny (model X.prog X.w) X.A (call (.builtin id) (v::us)) (EP X pins σ Q) X.xe s
section
variable {X:Cx}{a b:Expr}{ta tb:TE}{pos:Pos}
theorem yB7(hr:IxR X r)(ha:PE X a ta)(hb:PE X b tb)(hs:zP3 b):PE X (.Subscript a b pos) (tOp r ta tb):=by intro pins s σ H Q I h;exact Subscript_ (binT ha hb I h λv u s2 x y H2 I2 rx ry q=>hr a b pins s2 σ H2 x y v u Q I2 rx ry q (hs _ _))
noncomputable def rIxL (K:PySem.W.Frag):R2:=λx y H Q=>∃p xs i v,x=.ref p/\y=.int i/\SqL K H p xs/\atI xs i=some v/\Q v H
noncomputable def rIxT (K:PySem.W.Frag):R2:=λx y H Q=>∃p xs i v,x=.ref p/\y=.int i/\SqT K H p xs/\atI xs i=some v/\Q v H
noncomputable def rIxS:R2:=λx y H Q=>∃z i c,x=.str z/\y=.int i/\z.length<=sizeLine/\atI z.cps.toList i=some c/\Q (.str ⟨#[c]⟩) H
theorem zUz:IxR X (rIxL X.K):=by
 intro value slice pins s σ H x y v u Q I rx ry h hs;obtain⟨p,xs,i,z,rfl,rfl,hq,he,q⟩:=h;cases rx;obtain⟨t,rfl⟩:=ry;obtain⟨its,r,pl,hz⟩:=I.list hq;obtain⟨j,h1,h2,h3,h4,h5⟩:=zJ6 he;obtain⟨w,ew,rw'⟩:=r.get h2;have hl:=r.length;have hn:=line63;have fin:EP X pins σ Q w s:=⟨z,H,I,rw',q⟩;by_cases h0:0<=i
 ·have hj:i.toNat=j:=by
   rw[seqIndex_of h0 h5]at h1;exact xM h1
  exact item_listR pl.isList h0 (by nofun) (by rw[hj];simpa using ew) fin hs
 ·have hj:(i+(its.toArray.size:Int)).toNat=j:=by
   rw[seqIndex_neg (by nofun) h4]at h1;rw[xu,<- hl];exact xM h1
  exact subscriptTail_builtinR (x:=w) pl.isList.typeIs slot_list_getitem.lookup
   (wpAny_getItem_list_neg (Q:=λr s'=>r=w/\EP X pins σ Q r s') pl.isList (by nofun) (by rw[xu] <;> lia) (by nofun) (by rw[hj];simpa using ew) ⟨rfl,fin⟩) hs
theorem zZ5:IxR X (rIxT X.K):=by
 intro value slice pins s σ H x y v u Q I rx ry h hs;obtain⟨p,xs,i,z,rfl,rfl,hq,he,q⟩:=h;cases rx;obtain⟨t,rfl⟩:=ry;obtain⟨its,r,pl,hz⟩:=I.tuple hq;obtain⟨j,h1,h2,h3,h4,h5⟩:=zJ6 he;obtain⟨w,ew,rw'⟩:=r.get h2;have hl:=r.length;have hn:=line63;have fin:EP X pins σ Q w s:=⟨z,H,I,rw',q⟩;exact subscriptTail_builtinR (x:=w) pl.typeIs slot_tuple_getitem.lookup
  (getItem_tuple (j:=j) (Q:=λr s'=>r=w/\EP X pins σ Q r s') pl (by nofun) (by nofun) (by rw[xu,<- hl];exact h1) (by simpa using ew) ⟨rfl,fin⟩) hs
theorem zZ6:IxR X rIxS:=by
 intro value slice pins s σ H x y v u Q I rx ry h hs;obtain⟨z,i,c,rfl,rfl,hz,he,q⟩:=h;obtain⟨t,rfl⟩:=rx;obtain⟨t',rfl⟩:=ry;obtain⟨j,h1,h2,h3,h4,h5⟩:=zJ6 he;have hl:z.cps.toList.length=z.length:=by simp[Str.length]
 rw[hl]at h1 h4 h5;have hn:=line63;exact tail_any (typeIs_str s z t) slot_str_getitem.lookup (getItem_str (c:=c) (by
  have e1:decide (i < -(2 ^ 63:Int))=false:=xy (by nofun);have e2:decide (i >= 2 ^ 63)=false:=xy (by nofun);rw[e1,e2,Bool.or_false]) (by rw[h1];simpa using h2) ⟨.str ⟨#[c]⟩,H,I.tok _,⟨_,rfl⟩,q⟩) hs
theorem zKs(its:List Value)(n j:Nat)(u:Value):Obj.mapSeq (·.setIfInBounds j u) { cls:=.type "list",data:=.seq its.toArray n }={ cls:=.type "list",data:=.seq (its.set j u).toArray n }:=by simp[Obj.mapSeq]
theorem Inv.lst{H:Hp}(I:Inv X pins σ H s)(h:H p=some (.lst xs)):
  ∃(its:List Value) (n:Nat),Vals xs its/\s.heap.get? p=some { cls:=.type "list",data:=.seq its.toArray n }/\xs.length<=sizeLine:=by
 obtain⟨z,its,n,r,e⟩:=I.hok p _ h;exact⟨its,n,r,e,z⟩
theorem Inv.lstUpd{H:Hp}{ys:List V}{its its':List Value}{n n':Nat}{f:Obj->Obj}(I:Inv X pins σ H s)(h:H p=some (.lst xs))
  (ho:s.heap.get? p=some { cls:=.type "list",data:=.seq its.toArray n }) (hf:f { cls:=.type "list",data:=.seq its.toArray n }={ cls:=.type "list",data:=.seq its'.toArray n' }) (r:Vals ys its') (hz:ys.length<=sizeLine) (t:Nat):
  Inv X pins σ (upd H p (.lst ys)) { s with heap:=s.heap.update p f,toks:=t }:=by
 have e:(s.heap.update p f).get? p=some { cls:=.type "list",data:=.seq its'.toArray n' }:=by rw[uj f ho (by rw[hf] <;> rfl),hf]
 refine I.write (x:=p) (e:=p) (by rw[h];trivial) (.inl rfl) (λb u hb q=>(u0 _ _ (xG hb)).trans q) ⟨_,e⟩ ?_;exact⟨hz,its',n',r,e⟩
def yB0:V->V->V->Hp->(Hp->Prop)->Prop:=λo i v H Q=>∃p xs k j,o=.ref p/\i=.int k/\H p=some (.lst xs)/\ixN xs.length k=some j/\Q (upd H p (.lst (xs.set j v)))
theorem set_list:PSet X yB0:=by
 intro pins s σ H o i v ov iv u Q I ro ri rv h;obtain⟨p,xs,k,j,rfl,rfl,hp,hj,q⟩:=h;cases ro;obtain⟨t,rfl⟩:=ri;obtain⟨its,n,r,ho,hz⟩:=I.lst hp;obtain⟨h1,h2,h3,h4⟩:=zNb hj;have hl:=r.length;have hn:=line63;have I':Inv X pins σ (upd H p (.lst (xs.set j v))) { s with heap:=s.heap.update p (Obj.mapSeq (·.setIfInBounds j u)) }:=
  I.lstUpd hp ho (zKs its n j u) (r.set rv j) (by rw[List.length_set];exact hz) s.toks
 by_cases h0:0<=k
 ·have hk:k.toNat=j:=by
   rw[seqIndex_of h0 h4]at h1;exact xM h1
  exact PySem.W.ki_setAt ho h0 (by nofun) (by rw[xu,<- hl];exact h4) (by rw[hk];exact⟨_,I',q⟩)
 ·have hk:(k+(its.toArray.size:Int)).toNat=j:=by
   rw[seqIndex_neg (by nofun) h3]at h1;rw[xu,<- hl];exact xM h1
  exact PySem.W.ki_setBack ho (by nofun) (by rw[xu,<- hl];exact h3) (by nofun) (by rw[hk];exact⟨_,I',q⟩)
theorem zGv(lo hi:Option Int)(n:Nat):(sliceBounds lo hi none n).1=((HT.sIx n 0 lo:Nat):Int)/\(sliceBounds lo hi none n).2.1=((HT.sIx n n hi:Nat):Int)/\(sliceBounds lo hi none n).2.2=1:=by
 refine⟨?_,?_,rfl⟩
 ·cases lo with
  | none=>simp[sliceBounds,HT.sIx]
  | some i=>
   simp only[sliceBounds,HT.sIx,Option.getD_none,show(1:Int) > 0 by decide,xr];by_cases h:i<0
   ·simp only[h,xr] <;> lia
   ·simp only[h,xJ] <;> lia
 ·cases hi with
  | none=>simp[sliceBounds,HT.sIx]
  | some i=>
   simp only[sliceBounds,HT.sIx,Option.getD_none,show(1:Int) > 0 by decide,xr];by_cases h:i<0
   ·simp only[h,xr] <;> lia
   ·simp only[h,xJ] <;> lia
theorem zFs(its:List Value)(lo hi:Option Int):slicePick its.toArray lo hi none=((its.drop (HT.sIx its.length 0 lo)).take (HT.sIx its.length its.length hi-HT.sIx its.length 0 lo)).toArray:=by obtain⟨h1,h2,h3⟩:=zGv lo hi its.toArray.size;unfold slicePick;rw[h1,h2,h3];simp only[sliceRange_one,pick_run,xu] <;> rfl
def rSlL(K:PySem.W.Frag):V->Option Int->Option Int->Hp->VK->Prop:=λx lo hi H Q=>∃a xs,x=.ref a/\SqL K H a xs/\∀p,H p=none->Q (.ref p) (upd H p (.lst (cutV xs lo hi)))
theorem zT2:SlR X (rSlL X.K):=by intro pins s σ H x v vl vu lo hi sl Q I rx hs pl pu h;obtain⟨a,xs,rfl,hx,q⟩:=h;cases rx;obtain⟨its,r,ht,hz⟩:=I.list hx;have hlen:=r.length;refine⟨"list",_,slot_list_getitem.lookup,ht.isList.typeIs,?_⟩;refine wpAny_getItem_list_slice ht.isList hs pl pu .none (by simp) ?_ (by rw[xu] <;> lia);rw[zFs,<- hlen];refine⟨.ref s.heap.objs.size,_,I.laid (t':=s.toks) (o:=.lst (cutV xs lo hi)) (λb ob q=>xt _ q) (xk _) ?_,rfl,q _ (I.hok.fresh (xk _))⟩;exact⟨xm (zEu xs lo hi) hz,_,0,(r.drop (HT.sIx xs.length 0 lo)).take (HT.sIx xs.length xs.length hi-HT.sIx xs.length 0 lo),xv _ rfl⟩
theorem zHf:zB9 X (.builtin "len") (λxs H Q=>∃p ys,xs=[.ref p]/\(SqL X.K H p ys\/SqT X.K H p ys)/\Q (.int ys.length) H):=by
 intro pins s σ H xs us Q I r h;obtain⟨p,ys,rfl,hq,q⟩:=h;obtain⟨u,rfl,rx⟩:=vals1 r;cases rx;have hn:=line63;rcases hq with hq|hq
 ·obtain⟨its,r',pl,hz⟩:=I.list hq;have hlen:=r'.length;exact Calls.call_len_list pl.isList (by simp only[xu] <;> lia) ⟨.int ys.length,H,I.tok _,⟨s.toks+1,by rw[xu,hlen]⟩,q⟩
 ·obtain⟨its,r',pl,hz⟩:=I.tuple hq;have hlen:=r'.length;exact len_tuple pl (by simp only[xu] <;> lia) ⟨.int ys.length,H,I.tok _,⟨s.toks+1,by rw[xu,hlen]⟩,q⟩
theorem zHe:zB9 X (.builtin "len") (λxs H Q=>∃z,xs=[.str z]/\z.length<=sizeLine/\Q (.int z.length) H):=by intro pins s σ H xs us Q I r h;obtain⟨z,rfl,hz,q⟩:=h;obtain⟨u,rfl,t,rfl⟩:=vals1 r;have hn:=line63;exact len_str (by nofun) ⟨.int z.length,H,I.tok _,⟨_,rfl⟩,q⟩
theorem zCa:zB9 X (.type "tuple") (λxs H Q=>∃p ys,xs=[.ref p]/\((SqL X.K H p ys/\∀l,H l=none->Q (.ref l) (upd H l (.tup ys)))\/(SqT X.K H p ys/\Q (.ref p) H))):=by
 intro pins s σ H xs us Q I r h;obtain⟨p,ys,rfl,h⟩:=h;obtain⟨u,rfl,rx⟩:=vals1 r;cases rx;rcases h with⟨hq,q⟩|⟨hq,q⟩
 ·obtain⟨its,r',pl,hz⟩:=I.list hq;have hlen:=r'.length;refine call_tuple_list pl.isList (λh' kp=>?_) (by simp only[xu] <;> lia);have I1:Inv X pins σ H { s with heap:=h' }:=I.kept (t':=s.toks) kp;have I2:Inv X pins σ (upd H h'.objs.size (.tup ys)) { s with heap:=h'.push { cls:=.type "tuple",data:=.seq its.toArray } }:=
   I1.laid (t':=s.toks) (λb o e=>xt _ e) (xk _) (show ObjOk X.prog X.w _ _ _ (.tup ys)from⟨hz,its,r',IsTup.new _ _⟩)
  exact⟨.ref h'.objs.size,_,I2,rfl,q _ (I1.hok.fresh (xk _))⟩
 ·obtain⟨its,r',pl,hz⟩:=I.tuple hq;exact call_tuple_same pl ⟨.ref p,H,I,rfl,q⟩
def tyV(K:PySem.W.Frag)(T:String)(x:V)(H:Hp):Prop:=match x with
 | .str _=>T="str"
 | .int _=>T="int"
 | .ref p=>(T="list"/\∃xs,SqL K H p xs)\/(T="tuple"/\∃o,K.lookup p=some o/\o.cls=.type "tuple"/\o.dict=none) \/
   (T="dict"/\((∃kvs,Rd H p (.dK kvs))\/∃kvs,Rd H p (.dT kvs)))\/(T="set"/\∃S n,H p=some (.set S n))
 | _=>False
theorem zRi(I:Inv X pins σ H s)(r:RelV x v)(ty:tyV X.K T x H):
  s.TypeIs v T/\∀a,v=.ref a->∃ob,s.heap.get? a=some ob/\ob.dict=none:=by
 cases x with
 | str z=>
  obtain⟨t,rfl⟩:=r;cases(show T="str" from ty);exact⟨typeIs_str s z t,λ_ e=>nomatch e⟩
 | int i=>
  obtain⟨t,rfl⟩:=r;cases(show T="int" from ty);exact⟨typeIs_int s i t,λ_ e=>nomatch e⟩
 | ref p=>
  cases r;rcases ty with⟨rfl,xs,hq⟩|⟨rfl,o,hk,hc,hd⟩|⟨rfl,hk⟩|⟨rfl,S,n,hk⟩
  ·obtain⟨its,_,pl,_⟩:=I.list hq;refine⟨pl.isList.typeIs,λa e=>?_⟩;cases e;obtain⟨o,n,e,c,hd,_⟩:=pl;exact⟨o,e,hd⟩
  ·refine⟨⟨o,I.kIn p o hk,hc⟩,λa e=>?_⟩;cases e;exact⟨o,I.kIn _ o hk,hd⟩
  ·have z:∃o,s.heap.get? p=some o/\o.ExactDict:=by
    rcases hk with⟨kvs,hk⟩|⟨kvs,hk⟩
    ·obtain⟨_,_,_,_,o,_,_,e,ex,_⟩:=(show ObjOk X.prog X.w H s.heap p (.dK kvs)from zPl I.hok hk);exact⟨o,e,ex⟩
    ·obtain⟨_,_,_,_,o,_,_,e,ex,_⟩:=(show ObjOk X.prog X.w H s.heap p (.dT kvs)from zPl I.hok hk);exact⟨o,e,ex⟩
   obtain⟨o,e,ex⟩:=z;refine⟨⟨o,e,ex.1⟩,λa e2=>?_⟩;cases e2;exact⟨o,e,ex.2.1⟩
  ·obtain⟨o,_,_,_,e,ex,_⟩:=I.hok p _ hk;refine⟨⟨o,e,ex.1⟩,λa e2=>?_⟩;cases e2;exact⟨o,e,ex.2.1⟩
 | _=>exact False.elim ty
noncomputable def tBM0 (K:PySem.W.Frag) (T:String) (r:V->List V->Hp->VK->Prop) (to:TE):TE:=λσ H Q=>to σ H λx H1=>tyV K T x H1/\r x [] H1 Q
noncomputable def tBM (K:PySem.W.Frag) (T:String) (r:V->List V->Hp->VK->Prop) (to:TE) (t:TA):TE:=λσ H Q=>to σ H λx H1=>tyV K T x H1/\t σ H1 λxs H2=>r x xs H2 Q
variable {o e:Expr}{es:List Expr}{to:TE}{t:TA}{name:Str}{apos cpos:Pos}{T id:String}{r:V->List V->Hp->VK->Prop}
theorem zY2(pa:PlainAttrs T)(slot:Slot T name id)(hty:typeOf (.builtin id)=pure (.type "method_descriptor"))(hm:MtR X id r)(ho:PE X o to)
  (hbase:attributeBase o name X.env (eval o X.env)=eval o X.env:=by rfl) (hline:(apos.endLine == cpos.line)=true:=by rfl):PE X (.Call (.Attribute o name apos) [] [] cpos) (tBM0 X.K T r to):=by
 intro pins s σ H Q I h;refine wpAny_Call_method0_late hbase hline (thn (ho pins s σ H _ I h) λv s1 hq1=>?_);obtain⟨x,H1,I1,r1,ty,q1⟩:=hq1;obtain⟨h1,h2⟩:=zRi I1 r1 ty;exact⟨T,id,pa,slot,hty,h1,h2,Calls.callWith_builtin rfl (PySem.evalArgs_none (hm pins s1 σ H1 x [] v [] Q I1 r1 .nil q1))⟩
theorem yB8(pa:PlainAttrs T)(slot:Slot T name id)(hty:typeOf (.builtin id)=pure (.type "method_descriptor"))(hm:MtR X id r)(ho:PE X o to)(ha:PA X (e::es) t)
  (hbase:attributeBase o name X.env (eval o X.env)=eval o X.env:=by rfl)
  (hfew:((backTo cpos (starEach (e::es) X.env)).all (λx=>!x.1) && (backToKw cpos (keywordEach [] X.env)).all (λx=>x.1.isSome)
   && decide ((e::es).length+([]:List Keyword).length+(if([]:List Keyword).isEmpty then 0 else 1)<30))=true:=by rfl)
  (hline:(apos.endLine == cpos.line)=true:=by rfl) (hs:starEach (e::es) X.env=(false,eval e X.env)::starEach es X.env:=by rfl) (hplain:(backTo cpos (starEach es X.env)).any (·.1)=false:=by rfl):
  PE X (.Call (.Attribute o name apos) (e::es) [] cpos) (tBM X.K T r to t):=by
 intro pins s σ H Q I h;refine wpAny_Call_method_late hbase hfew hline rfl (thn (ho pins s σ H _ I h) λv s1 hq1=>?_);obtain⟨x,H1,I1,r1,ty,q1⟩:=hq1;obtain⟨h1,h2⟩:=zRi I1 r1 ty;refine⟨T,id,pa,slot,hty,h1,h2,?_⟩;have hA:=ha cpos pins s1 σ H1 _ I1 q1;rw[hs]at hA ⊢;refine Calls.callWith_builtin (by show(false || (backTo cpos (starEach es X.env)).any (·.1))=false;rw[hplain] <;> rfl) (Calls.evalArgs_plain ?_);exact thn hA λus s2 hz7=>by obtain⟨vs,H2,I2,r2,q2⟩:=hz7;exact hm pins s2 σ H2 x vs v us Q I2 r1 r2 q2
end
def MtM(X:Cx)(id:String)(r:V->List V->Hp->VK->Prop):Prop:=
 ∀(pins:List (Addr × Obj)) (s:Shared) (σ:St) (H:Hp) (x:V) (xs:List V) (v:Value) (us:List Value) (Q:VK),Inv X pins σ H s->RelV x v->Vals xs us->r x xs H Q->
  wpAny (model X.prog X.w) X.A (call (.builtin id) (v::us)) (EP X pins σ Q) X.xe s
theorem Vals.one:∀{x:V}{us:List Value},Vals [x] us->∃u,us=[u]/\RelV x u
 | _,_,.cons r .nil=>⟨_,rfl,r⟩
theorem Vals.zero:∀{us:List Value},Vals [] us->us=[]
 | _,.nil=>rfl
theorem Vals.dropLast{xs:List V}{us:List Value}(h:Vals xs us):Vals xs.dropLast us.dropLast:=by
 induction h with
 | nil=>exact .nil
 | cons r t ih=>
  cases t with
  | nil=>exact .nil
  | cons q t'=>exact .cons r ih
theorem Vals.reverse{xs:List V}{us:List Value}(h:Vals xs us):Vals xs.reverse us.reverse:=by
 induction h with
 | nil=>exact .nil
 | cons r t ih=>rw[List.reverse_cons,List.reverse_cons];exact Vals.append ih (.cons r .nil)
section
variable {X:Cx}{pins:List (Addr × Obj)}{σ:St}{H:Hp}{s:Shared}{l b:Addr}{xs ys zs:List V}
theorem Inv.lset{its its':List Value}{n:Nat}{f:Array Value->Array Value}{t':Nat}(I:Inv X pins σ H s)(hH:H l=some (.lst xs))
  (e:s.heap.get? l=some { cls:=.type "list",data:=.seq its.toArray n }) (hf:f its.toArray=its'.toArray) (hv:Vals ys its') (hz:ys.length<=sizeLine):
  Inv X pins σ (upd H l (.lst ys)) { s with heap:=s.heap.update l (Obj.mapSeq f),toks:=t' }:=by
 have q:=PySem.IsL.update e f;rw[hf]at q;refine I.write (x:=l) (e:=l) (by rw[hH];exact trivial) (.inl rfl) (λb' u hb hu=>(u0 s.heap (Obj.mapSeq f) (xG hb)).trans hu) ⟨_,q⟩ ?_;exact⟨hz,its',_,hv,q⟩
theorem Inv.lnew{t':Nat}(I:Inv X pins σ H s)(hv:Vals ys its)(hz:ys.length<=sizeLine):
  Inv X pins σ (upd H s.heap.objs.size (.lst ys)) { s with heap:=s.heap.push { cls:=.type "list",data:=.seq its.toArray },toks:=t' }:=
 I.laid (λ_ _ q=>xt _ q) (xk _) ⟨hz,its,0,hv,xv _ rfl⟩
theorem Inv.fresh(I:Inv X pins σ H s):H s.heap.objs.size=none:=I.hok.fresh (xk _)
theorem Inv.lstM(I:Inv X pins σ H s)(hH:H l=some (.lst xs)):xs.length<=sizeLine/\∃(its:List Value) (n:Nat),Vals xs its/\xs.length=its.length/\s.heap.get? l=some { cls:=.type "list",data:=.seq its.toArray n }:=by obtain⟨z,its,n,r,e⟩:=I.hok l _ hH;exact⟨z,its,n,r,r.length,e⟩
end
section
variable {X:Cx}
def zTc:V->List V->Hp->VK->Prop:=λx vs H Q=>∃l xs y,x=.ref l/\vs=[y]/\H l=some (.lst xs)/\xs.length<sizeLine/\Q .non (upd H l (.lst (xs++[y])))
theorem zMz:MtM X "list.append" zTc:=by intro pins s σ H x vs v us Q I rx rv h;obtain⟨l,xs,y,rfl,rfl,hH,hz,q⟩:=h;cases rx;obtain⟨u,rfl,ru⟩:=rv.one;obtain⟨z,its,n,r,hl,e⟩:=I.lstM hH;refine call_meets F.slot_list_append ⟨_,e,rfl⟩ F.entry_list_append (F.args_list_append_2 _ _) (PySem.list_append l its.toArray n u (by rw[xu];lia)) ⟨e,?_⟩;refine⟨.non,_,I.lset (its':=its++[u]) hH e (by simp) (r.append (.cons ru .nil)) ?_,rfl,q⟩;rw[xH,uI];lia
end
end L2
namespace Att
open PySem PySem.W PySem.Calls PyProof.Rows
theorem zEo :∀(ns:List Int) (vs:List Value),WellAll P h vs (ns.map WData.int)->IntsAre vs ns:=by
 intro ns;induction ns with
 | nil=>
  intro vs w;rw[x8]at w;cases w;exact .nil
 | cons n ns ih=>
  intro vs w;rw[xp]at w;cases w with
  | cons a b=>
   cases a;exact .cons _ _ (ih _ b)
theorem zM5{l:OpenLaw}{n:Nat}(hn:l.most=some n){P:Params}{h:Heap}{args:List WData}{vals:List Value}
  (hpre:l.row.toRowW.claim.pre args=true) (hwl:WellAll P h vals args):
  ∃a vs ns,vals=[Value.ref a]/\args=[WData.list (ns.map WData.int)]/\h.get? a=some { cls:=.type "list",data:=.seq vs.toArray }/\IntsAre vs ns/\ns.length<=n:=by
 have hsh:WShape.hasAll [] args [.list .int]=true:=(pre_splitW hpre).1;have hc:l.pre.holds [] { args:=args }=true:=(pre_splitW hpre).2;obtain⟨d,r,rfl,h1,h2⟩:=hasAllW_cons hsh;obtain rfl:=hasAllW_nil h2;obtain⟨xs,rfl,h3⟩:=hasW_list h1;obtain⟨ns,rfl⟩:=items_int h3;have hlen:ns.length<=n:=by
  unfold OpenLaw.pre at hc;have h4:(WTm.not (.lt (.lit (.int (n:Int))) (.len (.arg 0)))).holds [] { args:=[.list (ns.map .int)] }=true:=by have h4:=(holds_andW hc).1;rw[hn]at h4;exact h4
  have h5:=condW_of h4 (w_not (w_lt w_lit (w_len_list (w_arg rfl))));rw[xl]at h5;refine Nat.le_of_not_lt λq=>?_
  have q':(n:Int)<((ns.length:Nat):Int):=by nofun
  first
   | (rw[xx q']at h5;exact absurd h5 (by decide))
   | (simp at h5;lia)
 cases hwl with
 | cons w1 w2=>
  cases w2;cases w1 with
  | list ho hall=>exact⟨_,_,ns,rfl,rfl,ho,zEo ns _ hall,hlen⟩
theorem zMe(l:OpenLaw)(args:List WData):l.row.toRowW.claim.post args (.bool true) args=true:=
 postW_of (r:=l.row.toRowW) (X:=(true == true))
  (show WShape.has [] (.bool true) .bool=true by first|rfl|decide|simp[WShape.has,WShape.arms,WShape.armsAll])
  (show(WTm.eq .res (.lit (.bool true))).value [] { args:=args,res:=some (.bool true),after:=args }=some (.bool (true == true))from w_eq_bool (w_res rfl) w_lit) rfl
theorem attach_call{l:OpenLaw}{n:Nat}{q:Program}{loose:List Str}{XP:(Str->Option Value)->Heap->Prop}{YP:World->Heap->Prop}{d:DefRec}
  (hn:l.most=some n) (hdf:d.params.defaults=[])
  (call:∀(w:World) (s₀ s₁:Shared) (mg mb:Str->Option Value) (fa:Addr) (o:Obj) (pm cd doc:Value) (a:Addr) (vs:List Value) (ns:List Int),
   Ground q loose [] XP w s₀ mg mb s₁.heap->YP w s₁.heap->
   s₁.heap.get? fa=some o->o.data=.func (docDef d.name d.params d.body d.scope pm cd doc)->s₁.heap.CodeRec cd d.name->mg d.name=some (.ref fa)->
   s₁.heap.get? a=some { cls:=.type "list",data:=.seq vs.toArray }->IntsAre vs ns->ns.length<=n->s₁.gens=#[]->
   codeAny (model l.prog w) callerA (.call (.ref fa) ⟨[.ref a],[]⟩) (λr s'=>r=.ok (.ret (.bool true))/\OldK s₁.heap s'.heap/\s'.os=s₁.os/\AllBare s'.gens) s₁):
  WalkO q loose XP YP l.row.toRowW d [] (λf vs=>PySem.call f vs):=by
 intro w s₀ s₁ mg mb G Y fa o pm cd doc dV kV ho hd hcd hD hmg hg args vals as hpre hlay hrd hwl hlo;obtain rfl:dV=.none:=Dflts.none hD hdf;obtain rfl:kV=.none:=Dflts.noKw hD;obtain⟨a,vs,ns,rfl,rfl,hobj,hints,hlen⟩:=zM5 hn hpre hwl;refine enter_call (codeAny_mono (call w s₀ s₁ mg mb fa o pm cd doc a vs ns G Y ho (fd_plain hd) hcd hmg hobj hints hlen hg) λr s' hq=>?_);obtain⟨rfl,h2,h3,h4⟩:=hq;exact⟨.inl ⟨.bool true,.bool true,[],rfl,λ_=>rfl,.bool true,zMe l _,λ_=>⟨List.Pairwise.nil,λ_ hm=>(nomatch hm)⟩⟩,h2,h3,h4⟩
end Att
namespace L2
open PySem PySem.Spec PyProof.Rows
theorem zGr:∀{vs:List Value}{ns:List Int},IntsAre vs ns->Vals (ns.map V.int) vs
 | _,_,.nil=>.nil
 | _,_,.cons n t h=>.cons ⟨t,rfl⟩ (zGr h)
def Only(H:Hp):Prop:=∀b,H b=none\/∃o xs,H b=some (.frz o (.lst xs))
theorem law_call{P:Program}{w:World}{K:PySem.W.Frag}{mg mb:Str->Option Value}{CX:CXT}{k:Nat}{fa a:Addr}{fd:FuncData}{x:Str}{sp:Sp}{s₁:Shared}{vs:List Value}{ns:List Int}
  (KX:K.In s₁.heap) (hns:s₁.heap.Ns mainGlobals mg) (hb:s₁.heap.Ns builtinsNs mb) (hbb:∀x:Str,x≠"__name__"->mb x=bootBuiltins x) (hlim:s₁.heap.NoLimit) (hg:s₁.gens=#[])
  (ha:s₁.heap.get? a=some { cls:=.type "list",data:=.seq vs.toArray }) (hi:IntsAre vs ns) (hl:ns.length<=sizeLine) (hr:Room k callerA)
  (F:∀base:Heap,K.In base->base.Ns mainGlobals mg->FnOk P w K mg base CX k fa fd [x] sp) (hbind:∀(s:Shared) (u:Value),BindsTo s fd ⟨[u],[]⟩ [(x,u)])
  (hsp:∀H:Hp,Only H->SqL K H a (ns.map V.int)->sp [.ref a] H (λv _=>v=.bl true) λ_ _ _=>False)
  (hCX:∀H e s',CX [] H s₁ (λ_ _ _=>False) e s'->False):
  codeAny (model P w) callerA (.call (.ref fa) ⟨[.ref a],[]⟩) (λr s'=>r=.ok (.ret (.bool true))/\OldK s₁.heap s'.heap/\s'.os=s₁.os/\AllBare s'.gens) s₁:=by
 have rv:=zGr hi;have lenV:=hi.length
 -- from an abstract heap in which nothing but the script may be tracked
 have core:∀H:Hp,Only H->SqL K H a (ns.map V.int)->HOk P w H s₁.heap->(∀b,H b≠none->b=a)->(H a≠none->K.lookup a=none)->
   codeAny (model P w) callerA (.call (.ref fa) ⟨[.ref a],[]⟩) (λr s'=>r=.ok (.ret (.bool true))/\OldK s₁.heap s'.heap/\s'.os=s₁.os/\AllBare s'.gens) s₁:=by
  intro H hO hS hok hA hK;have zEw:∀{b:Addr}{o:Obj},s₁.heap.get? b=some o->H b=none->(hidT s₁.heap H).get? b=some o:=λe n=>zQv e n
  have noA:∀{b:Addr}{o:Obj}{es:Array DictEntry}{ep:Nat},s₁.heap.get? b=some o->o.data=.dict es ep->H b=none:=λ{b o es ep} e d=>by
   cases q:H b with
   | none=>rfl
   | some u=>
    have e':b=a:=hA b (by rw[q];simp);subst e';rw[ha]at e;cases e;have d':Data.seq vs.toArray _=Data.dict es ep:=d;cases d'
  have nsK:∀{b:Addr}{m:Str->Option Value},s₁.heap.Ns b m->(hidT s₁.heap H).Ns b m:=λ{b m} ⟨o,es,ep,e,d,r⟩=>⟨o,es,ep,zEw e (noA e d),d,r⟩
  have hKb:K.In (hidT s₁.heap H):=λb o e=>zEw (KX b o e) (by
   cases q:H b with
   | none=>rfl
   | some u=>
    have e':b=a:=hA b (by rw[q];simp);subst e';rw[hK (by rw[q];simp)]at e;cases e)
  have hM:Mod K mg (hidT s₁.heap H):=⟨hKb,nsK hns,⟨mb,nsK hb,hbb⟩,let ⟨mc,h1,h2⟩:=hlim;⟨mc,nsK h1,h2⟩⟩;have e0:Env0 P w K mg (hidT s₁.heap H) callerA [] s₁ H:=⟨rfl,hM,λb o e=>zUd e,Nat.le_of_eq (zNj _ _),trivial,λb hb=>absurd (show b∈([]:List Addr)from hb) (by simp),hok,.of_eq hg,rfl⟩;refine codeAny_mono ((F _ hKb (nsK hns)).run callerA [] s₁ H ⟨[.ref a],[]⟩ [.ref a] [.ref a] _ _ hr e0 (hbind s₁ (.ref a)) (.cons rfl .nil) (hsp H hO hS)) λr s' h=>?_
  cases r with
  | error e=>exact(hCX H e s' h).elim
  | ok fl=>
   cases fl with
   | next=>exact False.elim h
   | brk=>exact False.elim h
   | cont=>exact False.elim h
   | ret u=>
    obtain⟨v,H',os,bare,un,hok',r',q⟩:=h;have q':v=.bl true:=q;subst q';obtain rfl:u=Value.bool true:=r';refine⟨rfl,OldK.of_keep λb o e=>?_,os,bare⟩;cases q:H b with
    | none=>exact un.keep b o e q (by intro z;exact absurd (show b∈([]:List Addr)from z) (by simp)) (by simp)
    | some u=>
     rcases hO b with z|⟨ob,xs,z⟩
     ·rw[q]at z;cases z
     ·have z2:=un.frzs b ob _ z;obtain⟨e1,_⟩:=hok b _ z;obtain⟨e2,_⟩:=hok' b _ z2;rw[e]at e1;cases e1;exact e2
 cases hk:K.lookup a with
 | some o=>
  -- the script is one of the module's own objects
  have e:=KX a o hk;rw[ha]at e;cases e;refine core (λ_=>none) (λ_=>.inl rfl) (.inr ⟨_,vs.toArray,_,hk,rfl,rfl,rfl,by rw[xu,lenV];exact hl,by simpa using rv⟩) (λb u z=>by have z':(none:Option HO)=some u:=z;cases z') (λb z=>absurd rfl z) λz=>absurd rfl z
 | none=>
  refine core (λb=>if b=a then some (.frz { cls:=.type "list",data:=.seq vs.toArray } (.lst (ns.map V.int)))else none) (λb=>?_) (.inl (.inr ⟨{ cls:=.type "list",data:=.seq vs.toArray },xf rfl⟩)) (λb u z=>?_) (λb z=>?_) λ_=>hk
  ·by_cases hb:b=a
   ·exact .inr ⟨_,_,xf hb⟩
   ·exact .inl (xg hb)
  ·by_cases hb:b=a
   ·have z':=(xf hb).symm.trans z;cases z';subst hb;exact⟨ha,by rw[xl];exact hl,vs,_,rv,ha⟩
   ·have z':=(xg hb).symm.trans z;cases z'
  ·by_cases hb:b=a
   ·exact hb
   ·exact absurd (xg hb) z
theorem walk_of{l:PySem.W.OpenLaw}{n k:Nat}{q:Program}{loose:List Str}{XP:(Str->Option Value)->Heap->Prop}{YP:World->Heap->Prop}{d:DefRec}{K:Params->PySem.W.Frag}{CX:World->CXT}{sp:World->Sp}{x:Str}
  (hn:l.most=some n) (hn2:n<=sizeLine) (hdf:d.params.defaults=[]) (hr:Room k callerA)
  (hY:∀(w:World) (h:Heap),YP w h->(K w.params).In h)
  (F:∀(w:World) (mg:Str->Option Value) (fa:Addr) (h:Heap),(K w.params).In h->h.Ns mainGlobals mg->mg d.name=some (.ref fa)->
   ∃fd:FuncData,(∀(s:Shared) (u:Value),BindsTo s fd ⟨[u],[]⟩ [(x,u)]) /\
    ∀base:Heap,(K w.params).In base->base.Ns mainGlobals mg->FnOk l.prog w (K w.params) mg base (CX w) k fa fd [x] (sp w))
  (hsp:∀(w:World) (H:Hp) (a:Addr) (ns:List Int),ns.length<=n->Only H->SqL (K w.params) H a (ns.map V.int)->sp w [.ref a] H (λv _=>v=.bl true) λ_ _ _=>False)
  (hCX:∀(w:World) (H:Hp) (s:Shared) (e:Value) (s':Shared),CX w [] H s (λ_ _ _=>False) e s'->False):
  PySem.W.WalkO q loose XP YP l.row.toRowW d [] (λf vs=>PySem.call f vs):=by
 refine Att.attach_call hn hdf λw s₀ s₁ mg mb fa o pm cd doc a vs ns G Y ho hd hcd hmg hobj hints hlen hg=>?_
 have KX:=hY w _ Y;obtain⟨fd,hb,hF⟩:=F w mg fa _ KX G.T.g hmg;exact law_call KX G.T.g G.T.b G.T.builtins G.T.nolimit hg hobj hints (xm hlen hn2) hr hF hb (λH hO hS=>hsp w H a ns hlen hO hS) λH e s'=>hCX w H s₁ e s'
noncomputable def zC9 (s:Stmt):Arguments:=match s with
 | .FunctionDef _ a _ _ _ _ _ _ _ _=>a
 | _=>{ posonlyargs:=[],args:=[],vararg:=none,kwonlyargs:=[],kw_defaults:=[],kwarg:=none,defaults:=[] }
noncomputable def zB8 (s:Stmt):List Stmt:=match s with
 | .FunctionDef _ _ b _ _ _ _ _ _ _=>b
 | _=>[]
noncomputable def zA8 (s:Stmt):Scope:=match s with
 | .FunctionDef _ _ _ _ _ _ sc _ _ _=>sc
 | _=>{ kind:=.function,names:=[],isGenerator:=false,isCoroutine:=false }
noncomputable abbrev CX0:CXT:=λ_ _ _ _ _ _=>False
noncomputable abbrev E0:XK:=λ_ _ _=>False
theorem pass0 :Passes CX0 X E0:=λ_ _ _ _ _ _ _ h=>h.elim
structure Fun (K:PySem.W.Frag) (x qual:Str) (st:Stmt) (f:Addr) (fd:FuncData):Prop where
 ex:∃(oc:Value) (od:Option Addr) (kV doc pm:Value) (an:Option Addr) (cdv ct:Value) (osl:Array (Option Value)),
  fd=PySem.W.fnOf x qual (zC9 st) (zB8 st) (zA8 st) .none kV doc pm an cdv ct/\K.lookup f=some ⟨oc,od,.func fd,osl⟩/\PySem.W.codeIn K cdv qual=true
 kp:PySem.W.keepIn K (.ref f)=true
section
variable {P:Program}{w:World}{K:PySem.W.Frag}{mg:Str->Option Value}{base:Heap}
theorem Fun.ok{x qual:Str}{st:Stmt}{f:Addr}{fd:FuncData}{N ps:List Str}{k:Nat}{sp:Sp}(F:Fun K x qual st f fd)(S:zDl N ps (zA8 st))(len:∀vs H Q E,sp vs H Q E->vs.length=ps.length)
  (hbody:∀(cdv:Value) (A:Around) (outer:List Env) (s:Shared) (H:Hp) (vs:List V) (Q:VK) (E:XK),Room k (A.deeper (envOfC qual (zA8 st) s.heap.objs.size f cdv))->sp vs H Q E->
   ∃t,PSs (cxOf CX0 P w K mg base N qual (zA8 st) f cdv A outer s H E).nox (zB8 st) t/\t { nx:=λ_ H'=>Q .non H',rt:=Q } (start N vs) H):FnOk P w K mg base CX0 (k+1) f fd ps sp:=by
 obtain⟨oc,od,kV,doc,pm,an,cdv,ct,osl,rfl,lk,hcd⟩:=F.ex;refine yBo lk hcd S len λA outer s H vs Q E hr hsp=>?_
 obtain⟨t,h,q⟩:=hbody cdv A outer s H vs Q E hr hsp;exact⟨t,h.nox,q⟩
theorem Fun.binds{x qual:Str}{st:Stmt}{f:Addr}{fd:FuncData}{ps:List Str}(F:Fun K x qual st f fd)
  (h:∀(kV doc pm:Value) (an:Option Addr) (cdv ct:Value) (us:List Value),us.length=ps.length->bindArgs (PySem.W.fnOf x qual (zC9 st) (zB8 st) (zA8 st) .none kV doc pm an cdv ct) ⟨us,[]⟩=pure (ps.zip us)):Binds K fd ps []:=by
 obtain⟨oc,od,kV,doc,pm,an,cdv,ct,osl,rfl,lk,hcd⟩:=F.ex;exact .all (h kV doc pm an cdv ct)
theorem zZe{x qual:Str}{st:Stmt}{f:Addr}{oc:Value}{od an:Option Addr}{osl:Array (Option Value)}{kV doc pm cdv ct:Value}(l:K.lookup f=some ⟨oc,od,.func (PySem.W.fnOf x qual (zC9 st) (zB8 st) (zA8 st) .none kV doc pm an cdv ct),osl⟩)
  (c:PySem.W.codeIn K cdv qual=true) (k:PySem.W.keepIn K (.ref f)=true):Fun K x qual st f (PySem.W.fnOf x qual (zC9 st) (zB8 st) (zA8 st) .none kV doc pm an cdv ct):=⟨⟨oc,od,kV,doc,pm,an,cdv,ct,osl,rfl,l,c⟩,k⟩
end
theorem yBm{A:Around}(hr:Room k A):A.units+1<cLine:=uJ (Nat.add_le_add_left (by decide:1<=64) _) hr.units
section
variable {X:Cx}
theorem pv(i:Nat){pos:Pos}(hN:X.N[i]?=some x:=by rfl)(hv:Vis X.env.scope x:=by first|exact Or.inl rfl|exact Or.inr (Or.inl rfl)|exact Or.inr (Or.inr rfl))(hd:(x == ("__debug__":Str))=false:=by decide)
  (hcd:(x == ("__classdict__":Str))=false:=by decide):PE X (.Name x pos) (tVar i):=zXw hN hv hd hcd
end
section
variable {prog:Program}{w:World}{A:Around}{R:Result->Shared->Prop}{s:Shared}
theorem zHc{elt target iter:Expr}{ifs:List Expr}{scope:Scope}{pos:Pos}{it acc:Value}{env:Env}(I:Nat->Shared->Prop)
  (turn:∀n s,I n s->wpAny (model prog w) A (pyNext it) (λr s₁=>match r with
   | none=>R (.ok .next) s₁
   | some v=>wpAny (model prog w) A (letOwnedTupleGo target it v) (λ_ s₂=>wpAny (model prog w) A (assign target env v) (λ_ s₂=>
     wpAny (model prog w) A (forIn ifs true λc r=>if r=true then do let ok <- isTrue c env (eval c env);pure (ForInStep.yield ok)else pure (ForInStep.yield r)) (λok s₃=>
      if ok=true then wpAny (model prog w) A (eval elt env) (λx s₄=>
       wpAny (model prog w) A (call (.builtin "list.append") [acc,x]) (λ_ s₅=>∃m,m<n/\I m s₅) (λ_ _=>False) s₄) (λ_ _=>False) s₃
      else ∃m,m<n/\I m s₃) (λ_ _=>False) s₂) (λ_ _=>False) s₂) (λ_ _=>False) s₁) (λ_ _=>False) s)
  (n:Nat) (h:I n s):
  codeAny (model prog w) A (.compLoop (.ListComp elt [⟨target,iter,ifs,0⟩] scope pos) 0 it acc env) R s:=by
 refine codeAny_loop rfl I (λn s hI=>?_) n h;show wpAny _ A ((compTurn (.ListComp elt [⟨target,iter,ifs,0⟩] scope pos) 0 it acc env).onRaise (λx=>do noteFrame x env;theTreesLotGoes x)) _ _ s;refine wpAny_noted ?_;rw[compTurn_list];refine xc (wpAny_standAt (xc (vm (turn n s hI) (λr s₁ h₁=>?_) λ_ _ h'=>h'.elim)));cases r with
 | none=>exact xh h₁
 | some v=>
  refine xc (vm h₁ (λ_ s₁' h₁=>?_) λ_ _ h'=>h'.elim);refine xc (vm h₁ (λ_ s₂ h₂=>xc (vm h₂ (λok s₃ h₃=>?_) λ_ _ h'=>h'.elim)) λ_ _ h'=>h'.elim);cases ok with
  | false=>exact xh ⟨rfl,h₃⟩
  | true=>
   exact xc (xc (vm h₃ (λx s₄ h₄=>xc (vm h₄ (λ_ s₅ h₅=>xh (xh ⟨rfl,h₅⟩)) λ_ _ h'=>h'.elim)) λ_ _ h'=>h'.elim))
end
theorem zL4{env:Env}:∀(names:List (Str × NameKind)) (cs:List (Str × Addr)),(∀y∈names,y.2=.free->∃c,env.cells.lookup y.1=some c)->∃cl:List (Str × Addr),
  (forIn names cs λx r=>(match x,r with|(name,kind),cs=>if(kind == NameKind.free)=true then do let c <- cellOf env name;pure (ForInStep.yield ((name,c)::cs))else pure (ForInStep.yield cs)):Sem (List (Str × Addr)))=pure cl /\
  (∀x c,cl.lookup x=some c->cs.lookup x=some c\/env.cells.lookup x=some c)/\(∀x c,cs.lookup x=some c->∃c',cl.lookup x=some c')/\∀y∈names,y.2=.free->∃c,cl.lookup y.1=some c:=by
 intro names;induction names with
 | nil=>intro cs _;exact⟨cs,rfl,λ_ _ h=>.inl h,λx c h=>⟨c,h⟩,λ_ h=>nomatch h⟩
 | cons y r ih=>
  intro cs h;obtain⟨n,k⟩:=y;have hr:∀y∈r,y.2=.free->∃c,env.cells.lookup y.1=some c:=λy hy=>h y (vf _ hy)
  by_cases hk:k=.free
  ·subst hk;obtain⟨c,hc⟩:=h (n,.free) xS rfl;obtain⟨cl,e,h1,h2,h3⟩:=ih ((n,c)::cs) hr;refine⟨cl,?_,λx d hx=>?_,λx d hx=>?_,λy hy hf=>?_⟩
   ·rw[List.forIn_cons];have hcell:cellOf env n=(pure c:Sem Addr):=by simp only[cellOf,hc]
    simp only[beq_self_eq_true,xr,hcell];simpa using e
   ·rcases h1 x d hx with z|z
    ·rw[vc]at z;by_cases hxn:(x == n)=true
     ·rw[hxn]at z;simp at z;subst z;have:x=n:=by simpa using hxn
      subst this;exact .inr hc
     ·rw[u3]at hxn;rw[hxn]at z;exact .inl z
    ·exact .inr z
   ·by_cases hxn:(x == n)=true
    ·exact h2 x c (by rw[vc,hxn])
    ·rw[u3]at hxn;exact h2 x d (by rw[vc,hxn];exact hx)
   ·rcases xo.mp hy with z|z
    ·subst z;exact h2 n c (by rw[vc];simp)
    ·exact h3 y z hf
  ·have hb:(k == NameKind.free)=false:=by simpa using hk
   obtain⟨cl,e,h1,h2,h3⟩:=ih cs hr;refine⟨cl,?_,h1,h2,λy hy hf=>?_⟩
   ·rw[List.forIn_cons];simp only[hb,xU,xJ];simpa using e
   ·rcases xo.mp hy with z|z
    ·subst z;exact absurd hf hk
    ·exact h3 y z hf
theorem zD7{scope:Scope}{env:Env}(h:∀y∈scope.names,y.2=.free->∃c,env.cells.lookup y.1=some c):∃cl:List (Str × Addr),closureFor scope env=pure cl /\
  (∀x c,cl.lookup x=some c->env.cells.lookup x=some c)/\∀y∈scope.names,y.2=.free->∃c,cl.lookup y.1=some c:=by
 obtain⟨cl,e,h1,_,h3⟩:=zL4 scope.names [] h;refine⟨cl,?_,λx c hx=>(h1 x c hx).elim (λz=>nomatch z) id,h3⟩;simp only[closureFor];rw[e];rfl
theorem zDo{scope:Scope}(h:(relabel scope env).names.lookup x=some .cell\/(relabel scope env).names.lookup x=some .free):∃y∈scope.names,y.1=x/\(y.2=.free\/y.2=.cell):=by
 have key:∀(l:List (Str × NameKind)),((l.map fun(n,k)=>if(k == NameKind.free && env.scope.kind == .function && env.kindOf n == some .cell)then(n,NameKind.cell)else(n,k)).lookup x=some .cell \/
   (l.map fun(n,k)=>if(k == NameKind.free && env.scope.kind == .function && env.kindOf n == some .cell)then(n,NameKind.cell)else(n,k)).lookup x=some .free)->∃y∈l,y.1=x/\(y.2=.free\/y.2=.cell):=by
  intro l;induction l with
  | nil=>intro h;rcases h with h|h <;> simp at h
  | cons y r ih=>
   intro h;obtain⟨n,k⟩:=y;by_cases hb:(k == NameKind.free && env.scope.kind == .function && env.kindOf n == some .cell)=true
   ·have kf:k=.free:=by simp at hb;exact hb.1.1
    by_cases hx:(x == n)=true
    ·have:x=n:=by simpa using hx
     exact⟨(n,k),xS,this.symm,.inl kf⟩
    ·rw[u3]at hx;simp only[xp,hb,xr,vc,hx]at h;obtain⟨y,hy,z⟩:=ih h;exact⟨y,vf _ hy,z⟩
   ·rw[u3]at hb;by_cases hx:(x == n)=true
    ·have e:x=n:=by simpa using hx
     simp only[xp,hb,vc,hx,xU,xJ]at h;rcases h with h|h
     ·exact⟨(n,k),xS,e.symm,.inr (xM h)⟩
     ·exact⟨(n,k),xS,e.symm,.inl (xM h)⟩
    ·rw[u3]at hx;simp only[xp,hb,vc,hx,xU,xJ]at h;obtain⟨y,hy,z⟩:=ih h;exact⟨y,vf _ hy,z⟩
 exact key scope.names h
noncomputable def zA7 (X:Cx) (N:List Str) (scope:Scope) (cl:List (Str × Addr)) (C:Addr) (s:Shared) (H:Hp) (fp:List Addr):Cx where
 prog:=X.prog
 w:=X.w
 K:=X.K
 mg:=X.mg
 base:=X.base
 A:=X.A
 N:=N
 s₀:=s
 H₀:=H
 env:=compEnvC scope cl C X.env
 outer:=X.stack
 stack:=X.stack
 ex:=fp
 fn:=λx=>scope.names.lookup x == some .cell
 calm:=X.calm
 pn:=[]
 xe:=λ_ _=>False
structure CompScope (X:Cx) (own fre:List Str) (ix:List Nat) (scope:Scope):Prop where
 kind:scope.kind=.function
 cell:∀y∈scope.names,y.2=.cell->scope.names.lookup y.1=some .cell
 loc:∀y∈scope.names,y.2=.local->scope.names.lookup y.1=some .local
 fr:∀y∈scope.names,y.2=.free->X.env.kindOf y.1=some .cell\/X.env.kindOf y.1=some .free
 len:fre.length=ix.length
 at_:∀(j:Nat) (i:Nat) (x:Str),fre[j]?=some x->ix[j]?=some i->X.N[i]?=some x/\(X.env.kindOf x=some .cell\/X.env.kindOf x=some .free)
 vis:∀x∈fre,(relabel scope X.env).names.lookup x=some .cell\/(relabel scope X.env).names.lookup x=some .free
 fno:∀x∈fre,scope.names.lookup x≠some .cell
noncomputable def zPk (scope sc:Scope):Scope:=
 { scope with names:=scope.names.map fun(n,k)=>if(k == .free && sc.kind == .function && sc.names.lookup n == some .cell)then(n,.cell)else(n,k) }
noncomputable def zBe (o:Option NameKind):Bool:=o == some .cell || o == some .free
theorem zBu(h:zBe o=true):o=some .cell\/o=some .free:=by simpa[zBe]using h
noncomputable def zO8 (sc:Scope) (N own fre:List Str) (ix:List Nat) (scope:Scope):Bool:=
 (scope.kind == .function) && (scope.names.all λy=>y.2 != .cell || scope.names.lookup y.1 == some .cell) && (scope.names.all λy=>y.2 != .local || scope.names.lookup y.1 == some .local) &&
 (scope.names.all λy=>y.2 != .free || zBe (sc.names.lookup y.1)) && (fre.length == ix.length) && ((fre.zip ix).all λp=>N[p.2]? == some p.1 && zBe (sc.names.lookup p.1)) &&
 (fre.all λx=>zBe ((zPk scope sc).names.lookup x)) && fre.all λx=>scope.names.lookup x != some .cell
theorem CompScope.mk'{X:Cx}{ix:List Nat}(hs:X.env.scope=sc)(hN:X.N=N)(h:zO8 sc N own fre ix scope=true):CompScope X own fre ix scope:=by
 simp only[zO8,xE]at h;obtain⟨⟨⟨⟨⟨⟨⟨h1,h2⟩,h3⟩,h4⟩,h5⟩,h6⟩,h7⟩,h8⟩:=h;subst hs;subst hN;refine⟨by simpa using h1,λy hy hl=>?_,λy hy hl=>?_,λy hy hl=>?_,by simpa using h5,λj i x e1 e2=>?_,λx hx=>?_,λx hx=>?_⟩
 ·have:=vV.mp h2 y hy;rw[hl]at this;simpa using this
 ·have:=vV.mp h3 y hy;rw[hl]at this;simpa using this
 ·have:=vV.mp h4 y hy;rw[hl]at this;exact zBu (show zBe (X.env.scope.names.lookup y.1)=true by simpa using this)
 ·have hz:(x,i)∈fre.zip ix:=by
   refine uK.mpr ⟨j,?_⟩;rw[List.getElem?_zip_eq_some];exact⟨e1,e2⟩
  have:=vV.mp h6 (x,i) hz;simp only[xE]at this;exact⟨by simpa using this.1,zBu this.2⟩
 ·exact zBu (vV.mp h7 x hx)
 ·have:=vV.mp h8 x hx;simpa using this
section
variable {M:Model}{A:Around}{E:Value->Shared->Prop}{s:Shared}
theorem zOb{lo:Nat}:∀(names:List (Str × NameKind)) (n:Nat) (acc:List (Str × Addr)) (x:Str) (c:Addr),lo<=n->((x,NameKind.cell)∈names\/∀c,acc.lookup x=some c->lo<=c)->(cellsFrom n names acc).lookup x=some c->lo<=c
 | [],_,_,_,_,_,h,e=>h.elim (λz=>nomatch z) λz=>z _ e
 | (m,k)::r,n,acc,x,c,hn,h,e=>by
  unfold cellsFrom at e;split at e
  ·refine zOb r (n+1) _ x c (by nofun) ?_ e;by_cases hx:x=m
   ·refine .inr λc' q=>?_
    rw[vc,show(x == m)=true by rw[hx];exact beq_self_eq_true m]at q;cases q;exact hn
   ·have hb:(x == m)=false:=by simpa using hx
    rcases h with h|h
    ·rcases xo.mp h with z|z
     ·exact absurd (congrArg Prod.fst z) hx
     ·exact .inl z
    ·exact .inr λc' q=>h c' (by rw[vc,hb]at q;exact q)
  ·rename_i hk;refine zOb r n acc x c hn ?_ e;rcases h with h|h
   ·rcases xo.mp h with z|z
    ·cases z;exact absurd rfl hk
    ·exact .inl z
   ·exact .inr h
theorem zOc:∀(names:List (Str × NameKind)) (n:Nat) (acc:List (Str × Addr)) (x:Str),(∀y∈names,y.1=x->y.2≠.cell)->(cellsFrom n names acc).lookup x=acc.lookup x
 | [],_,_,_,_=>rfl
 | (m,k)::r,n,acc,x,h=>by
  unfold cellsFrom;split
  ·rename_i hk;rw[zOc r _ _ x λy hy=>h y (vf _ hy),vc];have hx:(x == m)=false:=by
    cases q:x == m with
    | false=>rfl
    | true=>exact absurd (by simpa using hk) (h (m,k) xS (by simpa using(beq_iff_eq.mp q).symm))
   rw[hx]
  ·exact zOc r n acc x λy hy=>h y (vf _ hy)
theorem zOd:∀(names:List (Str × NameKind)) (n:Nat) (acc:List (Str × Addr)),(∀x c,acc.lookup x=some c->c<n)->(∀x y c,acc.lookup x=some c->acc.lookup y=some c->x=y)->
  ∀x y c,(cellsFrom n names acc).lookup x=some c->(cellsFrom n names acc).lookup y=some c->x=y
 | [],_,_,_,h=>h
 | (m,k)::r,n,acc,hl,h=>by
  unfold cellsFrom;split
  ·refine zOd r (n+1) _ (λx c e=>?_) λx y c e1 e2=>?_
   ·rw[vc]at e;cases q:x == m with
    | true=>rw[q]at e;cases e;exact Nat.lt_succ_self _
    | false=>rw[q]at e;exact uL (hl x c e)
   ·rw[vc]at e1 e2;cases q:x == m with
    | true=>
     cases q':y == m with
     | true=>rw[beq_iff_eq.mp q,beq_iff_eq.mp q']
     | false=>rw[q]at e1;rw[q']at e2;cases e1;exact absurd (hl y _ e2) (vk _)
    | false=>
     cases q':y == m with
     | true=>rw[q]at e1;rw[q']at e2;cases e2;exact absurd (hl x _ e1) (vk _)
     | false=>rw[q]at e1;rw[q']at e2;exact h x y c e1 e2
  ·exact zOd r n acc hl h
theorem zGi:∀(names:List (Str × NameKind)) (n:Nat) (acc:List (Str × Addr)) (x:Str),((x,NameKind.cell)∈names\/∃c,acc.lookup x=some c)->∃c,(cellsFrom n names acc).lookup x=some c
 | [],_,_,_,h=>h.elim (λz=>nomatch z) id
 | (m,k)::r,n,acc,x,h=>by
  unfold cellsFrom;split
  ·refine zGi r (n+1) _ x ?_;cases q:x == m with
   | true=>exact .inr ⟨n,by rw[vc,q]⟩
   | false=>
    rcases h with h|⟨c,h⟩
    ·rcases xo.mp h with z|z
     ·rw[show x=m from congrArg Prod.fst z,beq_self_eq_true]at q;cases q
     ·exact .inl z
    ·exact .inr ⟨c,by rw[vc,q];exact h⟩
  ·rename_i hk;refine zGi r n acc x ?_;rcases h with h|h
   ·rcases xo.mp h with z|z
    ·cases z;exact absurd rfl hk
    ·exact .inl z
   ·exact .inr h
theorem zIo:∀(names:List (Str × NameKind)) (h:Heap) (acc:List (Str × Addr)) (lo:Nat),lo<=h.objs.size->(∀x c,acc.lookup x=some c->lo<=c->h.IsCell c none)->∀x c,(cellsFrom h.objs.size names acc).lookup x=some c->lo<=c->(pushCells h names).IsCell c none
 | [],_,_,_,_,q=>q
 | (m,k)::r,h,acc,lo,hl,q=>by
  unfold cellsFrom pushCells;split
  ·have:=zIo r (h.push { cls:=.type "cell",data:=.cell none }) ((m,h.objs.size)::acc) lo (by rw[vM];lia) λx c e hc=>by
    rw[vc]at e;cases z:x == m with
    | true=>rw[z]at e;cases e;exact⟨_,xv _ rfl,rfl⟩
    | false=>rw[z]at e;exact(q x c e hc).keeps λb o e=>xt _ e
   rwa[vM]at this
  ·exact zIo r h acc lo hl q
theorem zMw{scope:Scope}{globals:Addr}{closure:List (Str × Addr)}{qual:Str}{around:Env}{Q:Env->Shared->Prop}
  (hQ:Q (newEnv scope s.heap.objs.size globals (cellsFrom (s.heap.objs.size+1) scope.names closure) qual none .none (some around) builtinsNs) { s with heap:=pushCells (s.heap.push { cls:=.type "dict",data:=.dict #[] }) scope.names }):
  wpAny M A (newFunctionEnv scope globals closure [] qual none .none (some around)) Q E s:=by
 simp only[newFunctionEnv,Option.isSome_some,xr];refine xc (wpAny_alloc ?_);refine xc (wpAny_layCells _ (λname kind cells=>by cases hkc:kind == NameKind.cell <;> simp[hkc]) _ _ _ _ ?_);rw[show({ s with heap:=s.heap.push { cls:=.type "dict",data:=.dict #[] } }:Shared).heap.objs.size=s.heap.objs.size+1 from vM ..];simp only[List.forIn_nil];exact xc (xh (xh hQ))
end
structure ClOk (X:Cx) (scope:Scope) (C:Addr) (cl:List (Str × Addr)):Prop where
 inj:∀x y c,cl.lookup x=some c->cl.lookup y=some c->x=y
 own:∀x c,scope.names.lookup x=some .cell->cl.lookup x=some c->C<c
 old:∀x c,scope.names.lookup x≠some .cell->cl.lookup x=some c->X.env.cells.lookup x=some c
 has:∀y∈scope.names,(y.2=.free\/y.2=.cell)->∃c,cl.lookup y.1=some c
theorem ClOk.or{X:Cx}{cl:List (Str × Addr)}(h:ClOk X scope C cl)(e:cl.lookup x=some c):X.env.cells.lookup x=some c\/C<c:=by
 by_cases q:scope.names.lookup x=some .cell
 ·exact .inr (h.own x c q e)
 ·exact .inl (h.old x c q e)
noncomputable def zCo (own:List Str) (ix:List Nat) (σ:St):St:=own.map (λ_=>none)++ix.map λi=>(σ[i]?).join
section
variable {X:Cx}{pins:List (Addr × Obj)}{σ:St}{H:Hp}{s:Shared}{own fre:List Str}{ix:List Nat}{scope:Scope}{cl:List (Str × Addr)}{fp:List Addr}{C:Addr}
theorem Inv.stkNo(I:Inv X pins σ H s)(h:FpOk X pins H b):b ∉ frs X.stack:=λhb=>
 (xo.mp (I.stkSub b hb)).elim h.2.1 h.2.2.1
theorem zW4(I:Inv X pins σ H s)(hf:∀b∈fp,FpOk X pins H b)(hlt:∀b∈fp,b<s.heap.objs.size)(S:CompScope X own fre ix scope)(hcl:ClOk X scope C cl)
  (hC:s.heap.objs.size<=C):(zA7 X (own++fre) scope cl C s H fp).Ok where
 mod:=I.ok.mod
 kind:=S.kind
 glob:=I.ok.glob
 blt:=I.ok.blt
 above:=hC
 inj:=hcl.inj
 has:=λx hx=>by
  obtain⟨y,hy,e,k⟩:=zDo hx;subst e;exact hcl.has y hy k
 cab:=λx c h e=>xN (uJ hC (hcl.own x c (by simpa[zA7]using h) e))
 hd:=I.ok.hd
 frames:=I.ok.frames
 gds:=I.ok.gds
 stk:=.inl rfl
 exf:=λb hb=>⟨xA (xB (hlt b hb) hC),λx c e=>(hcl.or e).elim (λe=>(hf b hb).2.2.2.2.1 x c e) λz=>xG (xA (vL (xB (hlt b hb) hC) z))⟩
 bs:=I.bs
 bsz:=xm I.ok.bsz I.sz
 noex:=λb o e hb=>by
  rcases(hf b hb).2.2.2.1 with z|z
  ·exact I.ok.noex b o e z
  ·exact absurd (xB (xq e) (xm I.ok.bsz z)) (vk _)
 exfs:=λb hb=>I.stkNo (hf b hb)
 funs:=I.stack
 frf:=I.stkFree
theorem zL2{h₁:Heap}{t':Nat}{m:Str->Option Value}(I:Inv X pins σ H s)(hf:∀b∈fp,FpOk X pins H b)(hlt:∀b∈fp,b<s.heap.objs.size)(S:CompScope X own fre ix scope)(hcl:ClOk X scope C cl)(hnew:∀x c,cl.lookup x=some c->C<c->h₁.IsCell c none)
  (hC:s.heap.objs.size<=C) (old:∀b o,s.heap.get? b=some o->h₁.get? b=some o) (hn:h₁.Ns C m):
  Inv (zA7 X (own++fre) scope cl C s H fp) [] (zCo own ix σ) H { s with heap:=h₁,toks:=t' } where
 ok:=zW4 I hf hlt S hcl hC
 os:=rfl
 bare:=I.bare
 base:=Un.kept old
 loc:=by
  refine⟨m,hn,λi x v e1 e2 e3=>?_⟩;obtain⟨m0,hn0,hl⟩:=I.loc;have hi:own.length<=i:=by
   rcases vz i own.length with z|z
   ·rw[zCo,vy (by simpa using z),xV]at e2;cases q:own[i]? <;> rw[q]at e2 <;> simp at e2
   ·exact z
  have e1':(own++fre)[i]?=some x:=e1;rw[vG hi]at e1';rw[zCo,vG (by simpa using hi),xV,xl]at e2;cases q:ix[i-own.length]? with
  | none=>rw[q]at e2;simp at e2
  | some j=>
   rw[q]at e2;obtain⟨hN,hk⟩:=S.at_ _ _ _ e1' q;have e2':(σ[j]?).join=some v:=by simpa using e2
   have e4:σ[j]?=some (some v):=by
    cases z:σ[j]? with
    | none=>rw[z]at e2';cases e2'
    | some o=>rw[z]at e2';exact congrArg some e2'
   obtain⟨u,r,lk⟩:=hl j x v hN e4 (hk.elim (λz=>.inr (.inl z)) λz=>.inr (.inr z));refine⟨u,r,.inr ?_⟩;rcases lk with⟨k,_⟩|⟨k,c,ec,hc⟩
   ·rcases hk with z|z <;> · rw[k]at z;cases z
   ·have fin:((zA7 X (own++fre) scope cl C s H fp).env.kindOf x=some .cell\/(zA7 X (own++fre) scope cl C s H fp).env.kindOf x=some .free):=by
     exact S.vis x (uF e1')
    refine⟨fin,?_⟩;obtain⟨y,hy,e,kf⟩:=zDo fin;subst e;obtain⟨c',hc'⟩:=hcl.has y hy kf;have:=(hcl.old _ _ (S.fno _ (uF e1')) hc').symm.trans ec;cases this;exact⟨c,hc',by obtain⟨o,ho,hd⟩:=hc;exact⟨o,old _ _ ho,hd⟩⟩
 cell:=λx c e=>by
  rcases hcl.or e with q|q
  ·obtain⟨v,o,ho,hd⟩:=I.cell x c q;exact⟨v,o,old _ _ ho,hd⟩
  ·exact⟨none,hnew x c e q⟩
 free:=I.hok.fresh hC
 freeC:=λx c e=>(hcl.or e).elim (λq=>I.freeC x c q) λq=>I.hok.fresh (xN (uJ hC q))
 pin:=λp hp=>nomatch hp
 hok:=I.hok.kept old
 len:=by simp[zCo,zA7,S.len]
end
def PIfs(X:Cx)(ifs:List Expr)(t:TT):Prop:=
 ∀(pins:List (Addr × Obj)) (s:Shared) (σ:St) (H:Hp) (Q:Bool->Hp->Prop),Inv X pins σ H s->t σ H Q->
  wpAny (model X.prog X.w) X.A (forIn ifs true λc r=>if r=true then do let ok <- isTrue c X.env (eval c X.env);pure (ForInStep.yield ok)else pure (ForInStep.yield r)) (TP X pins σ Q) X.xe s
noncomputable def tYes:TT:=λ_ H Q=>Q true H
theorem zPz :PIfs X [] tYes:=λpins s σ H Q I h=>xh ⟨H,I,h⟩
theorem zPy(hc:PT X c t):PIfs X [c] t:=by intro pins s σ H Q I h;rw[List.forIn_cons];simp only[xr];refine xc (xc (thn (hc pins s σ H Q I h) λb s1 q=>xh ?_));simp only[List.forIn_nil];exact xh q
def zRn(J:It)(g:TG)(tt:TT)(te:TE)(σc:St)(H1:Hp)(Qd:List V->Hp->Prop):Prop:=
 ∃W:Nat->Nat->List V->St->Hp->Prop,(∃m,W 0 m [] σc H1)/\∀i m ys σ H,W i m ys σ H->
  (J.stop i H/\Qd ys H)\/(J.go i H/\ys.length<sizeLine/\∃N:List V->St->Hp->Prop,(∀zs σ' H',N zs σ' H'->∃m',m'<m/\W (i+1) m' zs σ' H')/\∀x H',J.yld i H x H'->g x σ H' λσ2 H2=>tt σ2 H2 λc H3=>
   if c=true then te σ2 H3 λy H4=>N (ys++[y]) σ2 H4 else N ys σ2 H3)
theorem HOk.adopt{H:Hp}(x:HOk P w H h)(n:H D=none)(new:ObjOk P w (upd H D o) h D o):HOk P w (upd H D o) h:=λb u e=>by
 by_cases hb:b=D
 ·subst hb;rw[zAe]at e;cases e;exact new
 ·rw[zAb hb]at e;refine(x b u e).stay (λc v _ q=>q) (λc q=>?_) λc xs q=>?_
  ·rw[zAb (zAa q n)];exact q
  ·rw[zAb (zAa q n)];exact q
theorem Un.adopt{H':Hp}{h:Heap}(u:Un fs ex H H' h h')(hD:h.objs.size<=D)(n:H' D=none):Un fs ex H (upd H' D o) h h' where
 keep:=u.keep
 slot:=u.slot
 free:=λb ob e n' hx=>by rw[zAb (xA (xB (xq e) hD))];exact u.free b ob e n' hx
 there:=u.there
 tups:=λb xs e=>by have:=u.tups b xs e;rw[zAb (zAa this n)];exact this
 frzs:=λb ob xs e=>by have:=u.frzs b ob xs e;rw[zAb (zAa this n)];exact this
 tbls:=λb ps e=>by obtain⟨m,z⟩:=u.tbls b ps e;exact⟨m,by rw[zAb (zAa z n)];exact z⟩
section
variable {X:Cx}{pins:List (Addr × Obj)}{σ:St}{H2:Hp}{s2:Shared}{own fre:List Str}{ix:List Nat}{scope:Scope}{cl:List (Str × Addr)}{fp:List Addr}{C:Addr}
theorem zFm{tg elt iter:Expr}{ifs:List Expr}{pos:Pos}{J:It}{it:Addr}{tn:Nat->Heap->Prop}{g:TG}{tt:TT}{te:TE}{Qd:List V->Hp->Prop}{RR:Value->Addr->Result->Shared->Prop}{E:Value->Shared->Prop}{cl0:List (Str × Addr)}
  (I2:Inv X pins σ H2 s2) (T:Turn X.prog X.w X.K tg J fp it tn) (st2:tn 0 s2.heap) (f2:∀b∈fp,FpOk X pins H2 b) (hc:X.calm=true) (S:CompScope X own fre ix scope)
  (hcl0:∀x c,cl0.lookup x=some c->X.env.cells.lookup x=some c) (hcf0:∀y∈scope.names,y.2=.free->∃c,cl0.lookup y.1=some c)
  (hg:∀cl C,PG (zA7 X (own++fre) scope cl C s2 H2 fp) tg g) (hi:∀cl C,PIfs (zA7 X (own++fre) scope cl C s2 H2 fp) ifs tt) (he:∀cl C,PE (zA7 X (own++fre) scope cl C s2 H2 fp) elt te)
  (q:zRn J g tt te (zCo own ix σ) H2 Qd)
  (hRR:∀D C s' m' ys H',Inv X pins σ (upd H' D (.lst ys)) s'->s'.heap.Ns C m'->FpOk X pins (upd H' D (.lst ys)) C->H' D=none->Qd ys H'->RR (.ref D) C (.ok .next) s'):
  wpAny (model X.prog X.w) X.A (newList []) (λacc s₃=>wpAny (model X.prog X.w) X.A (newFunctionEnv scope X.env.globals cl0 [] X.env.qual none .none (some X.env)) (λcenv s₄=>
   codeAny (model X.prog X.w) X.A (.compStart (.ListComp elt [⟨tg,iter,ifs,0⟩] scope pos) 0 (.ref it) acc { cenv with scope:=relabel scope X.env }) (RR acc cenv.locals) s₄) E s₃) E s2:=by
 obtain⟨W,⟨m0,w0⟩,turn⟩:=q;refine xQ (zMw ?_);dsimp only;generalize hHH:s2.heap.push { cls:=.type "list",dict:=none,data:=.seq ([]:List Value).toArray }=HH;have hC:HH.objs.size=s2.heap.objs.size+1:=by rw[<- hHH,vM]
 have hns₁:(pushCells (HH.push { cls:=.type "dict",data:=.dict #[] }) scope.names).Ns HH.objs.size λ_=>none:=(Heap.Ns.new HH (.type "dict")).keeps (pushCells_keeps _ _)
 have hkp:∀b o,HH.get? b=some o->(pushCells (HH.push { cls:=.type "dict",data:=.dict #[] }) scope.names).get? b=some o:=λb o e=>pushCells_keeps _ _ b o (xt _ e)
 have hltc:∀x c,cl0.lookup x=some c->c<HH.objs.size+1:=λx c e=>by
  obtain⟨v,o,ho,_⟩:=I2.cell x c (hcl0 x c e);rw[hC];exact uL (uL (xq ho))
 have hnew:∀x c,(cellsFrom (HH.objs.size+1) scope.names cl0).lookup x=some c->HH.objs.size<c->(pushCells (HH.push { cls:=.type "dict",data:=.dict #[] }) scope.names).IsCell c none:=by
  have:=zIo scope.names (HH.push { cls:=.type "dict",data:=.dict #[] }) cl0 (HH.objs.size+1) (by rw[vM];exact xk _) λx c e hc=>absurd (xB (hltc x c e) hc) (vk _)
  rw[vM]at this;exact λx c e h=>this x c e h
 have hcl:ClOk X scope HH.objs.size (cellsFrom (HH.objs.size+1) scope.names cl0):={
  inj:=zOd _ _ _ hltc λx y c e1 e2=>I2.ok.inj x y c (hcl0 x c e1) (hcl0 y c e2)
  own:=λx c h e=>zOb _ _ _ x c (xk _) (.inl (uD h)) e
  old:=λx c h e=>by
   rw[zOc _ _ _ x λy hy ex ec=>h (by rw[<- ex];exact S.cell y hy ec)]at e;exact hcl0 x c e
  has:=λy hy hk=>by
   obtain⟨n,k⟩:=y;rcases hk with hk|hk
   ·exact zGi _ _ _ _ (.inr (hcf0 _ hy hk))
   ·dsimp only at hk;subst hk;exact zGi _ _ _ _ (.inl hy) }
 generalize cellsFrom (HH.objs.size+1) scope.names cl0=cl at hnew hcl ⊢;generalize pushCells (HH.push { cls:=.type "dict",data:=.dict #[] }) scope.names=h₁ at hns₁ hkp hnew ⊢;generalize hDe:s2.heap.objs.size=D at *;generalize hCe:HH.objs.size=C at *;have hDC:D≠C:=by nofun
 have hDle:s2.heap.objs.size<=D:=by nofun
 have hCle:s2.heap.objs.size<=C:=by nofun
 have below:∀b o,s2.heap.get? b=some o->b≠C/\b≠D:=λb o e=>⟨xA (xB (xq e) hCle),xA (xB (xq e) hDle)⟩
 have old:∀b o,s2.heap.get? b=some o->h₁.get? b=some o:=λb o e=>hkp b o (hHH ▸ xt _ e)
 have hacc:=hkp _ _ (hHH ▸ hDe ▸ xv _ rfl);have fpo:=T.obj _ _ st2;have hlt:∀b∈fp,b<s2.heap.objs.size:=λb hb=>by obtain⟨o,e,_⟩:=fpo b hb;exact xq e
 have hDf:D ∉ fp:=λhm=>absurd (xB (hlt D hm) hDle) (vk _)
 have hcD:∀x c,cl.lookup x=some c->c≠D:=λx c e z=>by
  rcases hcl.or e with q|q
  ·obtain⟨v,o,ho,_⟩:=I2.cell x c q;exact(below c o ho).2 z
  ·exact absurd (xB q (by rw[z,hC];exact Nat.le_succ _)) (vk _)
 let Xc:=zA7 X (own++fre) scope cl C s2 H2 fp
 have hnoS:∀b,s2.heap.objs.size<=b->b ∉ frs X.stack:=λb hb z=>by
  rcases xo.mp (I2.stkSub b z)with z|z
  ·exact absurd (xB I2.lt hb) (by rw[z];exact vk _)
  ·exact I2.nofs hb z
 have loop:∀t',codeAny (model X.prog X.w) X.A (.compLoop (.ListComp elt [⟨tg,iter,ifs,0⟩] scope pos) 0 (.ref it) (.ref D) (compEnvC scope cl C X.env)) (RR (.ref D) C) { s2 with heap:=h₁,toks:=t' }:=by
  intro t';have I4:Inv Xc [] (zCo own ix σ) H2 { s2 with heap:=h₁,toks:=t' }:=zL2 I2 f2 hlt S hcl hnew hCle old hns₁;refine zHc (λn s'=>∃i ys σ' H' its k,Inv Xc [] σ' H' s'/\tn i s'.heap/\(∀b∈fp,H' b=none)/\H' D=none/\s'.heap.get? D=some ({ cls:=.type "list",data:=.seq (List.toArray its) k }:Obj)/\Vals ys its/\ys.length<=sizeLine/\W i n ys σ' H')
   ?_ m0 ⟨0,[],_,H2,[],_,I4,T.keep _ _ _ st2 (λb _ o e=>old b o e),λb hb=>(f2 b hb).1,I2.hok.fresh hDle,hacc,.nil,xT _,w0⟩
  rintro n s3 ⟨i,ys,σ3,H3,its,k,I3,st3,fr3,hD3,ho3,hv3,hz3,w3⟩;have I3p:Inv Xc [(D,{ cls:=.type "list",data:=.seq (List.toArray its) k })] σ3 H3 s3:=I3.pins_of λp hp=>by
   have e:p=(D,({ cls:=.type "list",data:=.seq (List.toArray its) k }:Obj)):=by simpa using hp
   subst e;exact⟨ho3,hD3,hDC,hnoS D hDle,λv z=>by cases z⟩
  have stat:∀{H':Hp},(∀b∈fp,H' b=none)->∀b∈fp,FpOk Xc [(D,({ cls:=.type "list",data:=.seq (List.toArray its) k }:Obj))] H' b:=λhn b hb=>
   ⟨hn b hb,xA (xB (hlt b hb) hCle),I2.stkNo (f2 b hb),.inl hb,λx c e=>(hcl.or e).elim (λe=>(f2 b hb).2.2.2.2.1 x c e) λz=>xG (xA (vL (xB (hlt b hb) hCle) z)),λp hp z=>by
    have e:p=(D,({ cls:=.type "list",data:=.seq (List.toArray its) k }:Obj)):=by simpa[Xc,zA7]using hp
    rw[e]at z;exact hDf (by rw[show D=b from z];exact hb)⟩
  rcases turn i n ys σ3 H3 w3 with⟨stop,qn⟩|⟨go,hys,N,hN,step⟩
  ·refine thn (T.done Xc rfl rfl rfl hc i _ s3 σ3 H3 _ I3p (stat fr3) st3 stop) λr s4 hq1=>?_
   obtain⟨hr,I4⟩:=hq1;subst hr;have ho4:=(I4.pin (D,_) (xR _ xS)).1;obtain⟨m',hn',_⟩:=I4.loc;have un:Un (frs X.stack) fp H2 (upd H3 D (.lst ys)) s2.heap s4.heap:=Un.adopt (I4.base) hDle hD3;have hok:HOk X.prog X.w (upd H3 D (.lst ys)) s4.heap:=HOk.adopt (I4.hok) hD3 ⟨hz3,its,_,hv3,ho4⟩;have IX:=I2.call' I4.os un hok I4.bare λb hb=>⟨(f2 b hb).2.2.2.1,(f2 b hb).2.1,(f2 b hb).2.2.2.2.1,(f2 b hb).2.2.2.2.2⟩
   exact hRR D C s4 m' ys H3 IX hn' (I2.fpOk hCle (by rw[zAb (xG hDC)];exact I4.free)) hD3 qn
  ·refine thn (T.item Xc rfl rfl rfl hc i _ s3 σ3 H3 _ I3p (stat fr3) st3 go) λr s4 hq1=>?_
   obtain⟨u,hr,h4⟩:=hq1;subst hr;refine thn h4 λ_ s5 hq1=>?_
   obtain⟨x,H5,I5,r5,y5,st5,fr5⟩:=hq1;have I5':=I5.pinned (stat fr5) (T.obj _ _ st5);refine thn (hg cl C _ s5 σ3 H5 x u _ I5' r5 (step x H5 y5)) λ_ s6 hq1=>?_
   obtain⟨σ6,H6,I6,q6⟩:=hq1;refine thn (hi cl C _ s6 σ6 H6 _ I6 q6) λb s7 hq1=>?_
   obtain⟨H7,I7,q7⟩:=hq1;have keepT:∀{σ7:St}{H7:Hp}{s7:Shared}{h':Heap},Inv Xc ([(D,({ cls:=.type "list",data:=.seq (List.toArray its) k }:Obj))]++zH1 fp s5.heap) σ7 H7 s7->(∀b o,b≠D->s7.heap.get? b=some o->h'.get? b=some o)->tn (i+1) h'/\∀b∈fp,H7 b=none:=λ{σ7 H7 s7 h'} I7 hk=>by
    refine⟨T.keep _ _ _ st5 λb hb o e=>hk b o (λz=>hDf (z ▸ hb)) (I7.pin (b,o) (xR _ (xR _ (zCj hb e)))).1,λb hb=>?_⟩;obtain⟨o,e,d⟩:=T.obj _ _ st5 b hb;exact(I7.pin (b,o) (xR _ (xR _ (zCj hb e)))).2.1
   cases b with
   | false=>
    obtain⟨m',hm,w7⟩:=hN _ _ _ q7;obtain⟨t7,f7⟩:=keepT I7 λ_ _ _ e=>e
    have pD:=I7.pin (D,_) (xR _ (vD _ xS));exact⟨m',hm,i+1,ys,σ6,H7,its,k,I7.pins_of (λp hp=>nomatch hp),t7,f7,pD.2.1,pD.1,hv3,hz3,w7⟩
   | true=>
    refine thn (he cl C _ s7 σ6 H7 _ I7 q7) λy s8 hq1=>?_
    obtain⟨v,H8,I8,r8,n8⟩:=hq1;obtain⟨m',hm,w8⟩:=hN _ _ _ n8;have pD:=I8.pin (D,_) (xR _ (vD _ xS));have hsz:its.toArray.size<=sizeLine:=by rw[xu,<- hv3.length];exact hz3
    refine wpAny_list_append_plain (show s8.heap.PlainList D its.toArray from⟨_,pD.1⟩) λh₅ hl₅ hs₅=>?_
    obtain⟨t8,f8⟩:=keepT I8 λb o hb e=>hs₅.extBut b o hb e
    obtain⟨k',ho5⟩:=hl₅;have I9:=(I8.pins_of (pins':=[]) (λp hp=>nomatch hp)).turned (t':=s8.toks) (λb o hb e=>hs₅.extBut b o hb e) pD.2.1 hDC (.inr hDle) hcD λp hp=>nomatch hp
    refine⟨m',hm,i+1,ys++[v],σ6,H8,its++[y],k',I9,t8,f8,pD.2.1,?_,hv3.append (.cons r8 .nil),(by rw[xH,uI];exact hys),w8⟩;show h₅.get? D=_;rw[ho5];simp
 exact codeAny_compStart_list (loop _) (T.self _ 0 _ _ _ (T.keep _ _ _ st2 (λb _ o e=>old b o e)) (loop _))
end
noncomputable def zHy (own:List Str) (ix:List Nat) (wi:TI) (g:TG) (tt:TT) (te:TE):TE:=λσ H Q=>wi σ H λJ H1=>
 zRn J g tt te (zCo own ix σ) H1 λys H2=>∀D,H2 D=none->Q (.ref D) (upd H2 D (.lst ys))
section
variable {X:Cx}{own fre:List Str}{ix:List Nat}{scope:Scope}
theorem zQ5{elt:Expr}{ifs:List Expr}{pos:Pos}{g:TG}{tt:TT}{te:TE}(hc:X.calm=true)(S:CompScope X own fre ix scope)(hi:PI X tg iter wi)
  (hg:∀cl C s H fp,PG (zA7 X (own++fre) scope cl C s H fp) tg g) (ht:∀cl C s H fp,PIfs (zA7 X (own++fre) scope cl C s H fp) ifs tt) (he:∀cl C s H fp,PE (zA7 X (own++fre) scope cl C s H fp) elt te)
  (hs:∀x,foldedSetIterable iter X.env x=pure x:=by intro _;rfl):PE X (.ListComp elt [⟨tg,iter,ifs,0⟩] scope pos) (zHy own ix wi g tt te):=by
 intro pins s σ H Q I h;obtain⟨cl,ecl,hcl,hcf⟩:=zD7 λy hy hf=>I.ok.has y.1 (S.fr y hy hf)
 rw[eval_ListComp];refine wpAny_comprehension_free rfl hs ecl S.kind S.loc (thn (hi pins s σ H _ I h) λv s1 h1=>thn h1 λitv s2 h2=>?_);obtain⟨it,fp,tn,J,H2,e,I2,T,st2,f2,q⟩:=h2;subst e;refine zFm I2 T st2 f2 hc S hcl hcf (λcl C=>hg _ _ _ _ _) (λcl C=>ht _ _ _ _ _) (λcl C=>he _ _ _ _ _) q ?_;intro D C s' m' ys H' IX hn fC hD qd;refine⟨m',hn,λh' hs'=>?_⟩;exact⟨.ref D,_,IX.turned (λb o hb e=>hs'.extBut b o hb e) fC.1 fC.2.1 fC.2.2.2.1 fC.2.2.2.2.1 fC.2.2.2.2.2,rfl,qd D hD⟩
theorem zTm{i:Nat}{pos':Pos}{tg elt iter:Expr}{ifs:List Expr}{pos cpos:Pos}{wi:TI}{g:TG}{tt:TT}{te:TE}(hN:X.N.Nodup)(hix:X.N[i]?=some x)(hx:Loc X.env.scope x)
  (hc:X.calm=true) (S:CompScope X own fre ix scope) (hi:PI X tg iter wi)
  (hg:∀cl C s H fp,PG (zA7 X (own++fre) scope cl C s H fp) tg g) (ht:∀cl C s H fp,PIfs (zA7 X (own++fre) scope cl C s H fp) ifs tt) (he:∀cl C s H fp,PE (zA7 X (own++fre) scope cl C s H fp) elt te)
  (hsw:swapsWith (.ListComp elt [⟨tg,iter,ifs,0⟩] scope cpos) (some (.Name x pos')) pos.line X.env=pure true:=by rfl)
  (hs:∀x,foldedSetIterable iter X.env x=pure x:=by intro _;rfl) (hf:X.fn x=true\/X.env.scope.names.lookup x=some .local:=by first|exact .inl rfl|exact .inr rfl|assumption):
  PS X (.Assign [.Name x pos'] (.ListComp elt [⟨tg,iter,ifs,0⟩] scope cpos) pos) (tAsg (zHy own ix wi g tt te) (gName i)):=by
 intro pins s σ H D I h;obtain⟨cl,ecl,hcl,hcf⟩:=zD7 λy hy hf=>I.ok.has y.1 (S.fr y hy hf)
 rw[exec_Assign_Name_used _ _ _ _ hsw];refine xc (wpAny_standAt (xc ?_));show wpAny _ X.A (do let _ <- comprehension (.ListComp elt [⟨tg,iter,ifs,0⟩] scope cpos) scope X.env _ (newList []) false (eval iter X.env) (some (assign (.Name x pos') X.env))) _ _ s;refine xc (vm (wpAny_comprehension_free rfl hs ecl S.kind S.loc
  (thn (hi pins s σ H _ I h) λv s1 h1=>thn h1 λitv s2 h2=>?_)) (λ_ s' hq=>xh (xh hq)) λ_ _ e=>e)
 obtain⟨it,fp,tn,J,H2,e,I2,T,st2,f2,q⟩:=h2;subst e;refine zFm I2 T st2 f2 hc S hcl hcf (λcl C=>hg _ _ _ _ _) (λcl C=>ht _ _ _ _ _) (λcl C=>he _ _ _ _ _) q ?_;intro D' C s' m' ys H' IX hn fC hD qd;show wpAny _ X.A (assign (.Name x pos') X.env (.ref D')) _ _ _;refine wpAny_assign_Name (zGu (v:=.ref D') IX hN hix hx rfl (λs'' I'' hsb=>?_) hf);obtain⟨a,hsb,ha⟩:=hsb;have hCa:C≠a:=by
  rcases ha with z|z
  ·rw[z];exact fC.2.1
  ·exact xG (fC.2.2.2.2.1 x a z)
 refine⟨m',hn.sameBut hsb hCa,λh' hs'=>?_⟩;exact⟨_,_,I''.turned (λb o hb e=>hs'.extBut b o hb e) fC.1 fC.2.1 fC.2.2.2.1 fC.2.2.2.2.1 fC.2.2.2.2.2,qd D' hD⟩
end
section
variable {X:Cx}
theorem zFp{bs:List Bool}{its:List Value}(r:Vals (bs.map V.bl) its):TruthOf P w A (λi v=>its.toArray[i]?=some v) (λi=>bs.getD i false):=by
 intro i v s Q E hv hq;have hv':its[i]?=some v:=by simpa using hv
 have hlt:=(xO.mp hv').1;have hl:=r.length;rw[xl]at hl;have hb:(bs.map V.bl)[i]?=some (V.bl (bs[i]'(by nofun))):=by rw[xV,xF (by nofun)];rfl
 obtain⟨u,hu,ru⟩:=r.get hb;rw[hv']at hu;cases hu;cases ru;dsimp only at hq;rw[uM,xF (by nofun)]at hq;exact uf hq
theorem zF2:∀bs:List Bool,((List.range bs.length).any λi=>bs.getD i false)=bs.any id:=by
 intro bs;rw[u5,List.any_eq_true,List.any_eq_true];constructor
 ·rintro⟨i,hi,h⟩;have hi':=vx.mp hi;exact⟨bs[i],List.getElem_mem hi',by simpa[uM,hi']using h⟩
 ·rintro⟨b,hb,h⟩;obtain⟨i,hi,rfl⟩:=uk.mp hb;exact⟨i,vx.mpr hi,by simpa[uM,hi]using h⟩
theorem zOj(hc:X.calm=true):zB9 X (.builtin "any") (λxs H Q=>∃(p:Addr) (bs:List Bool),xs=[.ref p]/\SqL X.K H p (bs.map V.bl)/\Q (.bl (bs.any id)) H):=by
 intro pins s σ H xs us Q I r h;obtain⟨p,bs,rfl,hq,q⟩:=h;obtain⟨u,rfl,rx⟩:=vals1 r;cases rx;obtain⟨its,rv,pl,hz⟩:=I.list hq;have hl:=rv.length;rw[xl]at hl;have hne:p≠s.heap.objs.size:=by obtain⟨o,ho,_⟩:=pl.isList;exact xA (xq ho)
 refine call_any_walk (uN pl.isList ?_);refine⟨_,_,_,_,_,_,_,rfl,Walks.list (A:=X.A.in1) (I.ok.hd hc) _ p hne its.toArray,⟨⟨_,xv _ rfl,rfl,rfl⟩,pl.isList.at λo e=>xt _ e⟩,zFp rv,λh' tk hk=>?_⟩;have hfr:=I.hok.fresh (xk _);have fp:=I.fpOk (xk _) hfr;have e:((List.range its.toArray.size).any λi=>bs.getD i false)=bs.any id:=by rw[xu,<- hl];exact zF2 bs
 rw[e];exact⟨.bl (bs.any id),H,Inv.turned (I.kept λb o e=>xt _ e) (λb o hb e=>hk b o (by simpa using hb) e) fp.1 fp.2.1 fp.2.2.2.1 fp.2.2.2.2.1 fp.2.2.2.2.2,rfl,q⟩
end
section
variable {X:Cx}{pins:List (Addr × Obj)}{σ:St}{H:Hp}{s:Shared}
noncomputable def gLst (K:PySem.W.Frag) (n:Nat) (t:TGs):TG:=λv σ H Q=>∃a xs,v=.ref a/\SqL K H a xs/\xs.length=n/\t xs σ H Q
theorem zKa{prog:Program}{w:World}{A:Around}{E:Value->Shared->Prop}{items:Array Value}(hne:t≠it):∀(n i:Nat) (s:Shared) (Q:List Value->Shared->Prop),s.heap.IsListIter it t i->s.heap.IsList t items->i+n<=items.size->
  (∀h',h'.IsListIter it t (i+n)->Heap.SameBut it s.heap h'->Q ((items.toList.drop i).take n) { s with heap:=h' })->wpAny (model prog w) A (draw (.ref it) n) Q E s
 | 0,i,s,Q,hit,_,_,hQ=>by
  show wpAny _ _ (pure []) Q E s;exact xh (by simpa using hQ s.heap hit (Heap.SameBut.refl ..))
 | n+1,i,s,Q,hit,ht,hle,hQ=>by
  have hlt:i<items.size:=by nofun
  show wpAny _ _ (pyNext (.ref it) >>= _) Q E s;refine xc (wpAny_pyNext_list_item hit ht (x:=items[i]) (by simp[hlt]) λh₁ hit₁ hs₁=>?_);refine xc (xP (zKa hne n (i+1) { s with heap:=h₁ } _ hit₁ (ht.at λo e=>hs₁.extBut t o hne e) (by nofun) λh₂ hit₂ hs₂=>xh ?_));have hd:items.toList.drop i=items[i]::items.toList.drop (i+1):=by simp[List.drop_eq_getElem_cons,hlt]
  have:=hQ h₂ (by rw[show i+(n+1)=i+1+n by nofun];exact hit₂) (hs₁.trans hs₂);rw[hd,List.take_succ_cons]at this;exact this
theorem zEa{prog:Program}{w:World}{A:Around}{E:Value->Shared->Prop}{s:Shared}{Q:List Value->Shared->Prop}(hh:A.handled=none)(ht:s.heap.IsList t items)
  (hQ:∀h',Heap.ExtBut s.heap.objs.size s.heap h'->Q items.toList { s with heap:=h' }):wpAny (model prog w) A (unpackItems (.ref t) items.size none) Q E s:=by
 have hlt:t≠s.heap.objs.size:=by obtain⟨o,ho,_⟩:=ht;exact xA (xq ho)
 unfold unpackItems;refine xc ?_
 ·unfold notIterableAtAll;refine xc (uO ht.typeIs slot_list_iter.lookup ?_);refine xh ?_;simp only[xU,xJ];refine xc (xP (uN ht ?_));refine xc (xP (zKa hlt items.size 0 _ _ ⟨_,xv _ rfl,rfl,rfl⟩ (ht.at λo e=>xt _ e) (by nofun) λh₁ hit₁ hs₁=>?_));have hall:List.take items.size (List.drop 0 items.toList)=items.toList:=by
   rw[List.drop_zero];exact u7 (by simp)
  rw[hall];rw[xg (by simp)];have ht₁:=ht.at λo e=>hs₁.extBut t o hlt (xt _ e)
  refine xc (xP (wpAny_pyNext_list_end hh hit₁ ht₁ (by simp) λh₂ he₂=>?_));simp only[Option.isSome_none,xU,xJ];refine xh (hQ h₂ λb o hb e=>he₂ b o hb (hs₁.extBut b o hb (xt _ e)))
theorem zXt{k:Nat}{n:Nat}{pos:Pos}(hc:X.calm=true)(h:PGs X es t)
  (hn:(assignEach es X.env).length=n:=by rfl) (hst:(assignEach es X.env).findIdx? (·.1)=none:=by rfl):PG X (.Tuple es k pos) (gLst X.K n t):=by
 intro pins s σ H v u Q I r hw;obtain⟨a,xs,e1,hq,hl,hw⟩:=hw;subst e1;cases r;obtain⟨its,rv,ht,hz⟩:=I.list hq;rw[assign_Tuple];refine xc (wpAny_standAt ?_);unfold unpack;rw[hst,hn,show n=its.toArray.size by rw[xu,<- rv.length,hl]];refine xc (xP (zEa (I.ok.hd hc) ht.isList λh' hx=>?_));have I1:=I.kept (t':=s.toks) λb o e=>hx b o (xA (xq e)) e
 exact h pins _ σ H xs _ Q I1 (by simpa using rv) hw
end
structure Cal (P:Program) (w:World) (K:PySem.W.Frag) (mg:Str->Option Value) (base:Heap) (x:Str) (k:Nat) (ps:List Str) (sp:Sp):Prop where
 ex:∃f fd,FnOk P w K mg base CX0 k f fd ps sp/\mg x=some (.ref f)/\PySem.W.keepIn K (.ref f)=true/\Binds K fd ps []
section
variable {X:Cx}{x:Str}{k:Nat}{ps:List Str}{sp:Sp}{e:Expr}{es:List Expr}{t:TA}{p pos:Pos}
theorem zY1(C:Cal X.prog X.w X.K X.mg X.base x k ps sp)(hr:Room k X.A)(hg:Gl X x)(ha:PA X (e::es) t)(hdb:(x == ("__debug__":Str))=false:=by decide)
  (hs:starEach (e::es) X.env=(false,eval e X.env)::starEach es X.env:=by rfl) (hpl:(backTo pos (starEach es X.env)).any (·.1)=false:=by rfl):
  PE X (.Call (.Name x p) (e::es) [] pos) (zP8 sp [] E0 t):=by
 obtain⟨f,fd,F,hm,hk,hb⟩:=C.ex;exact zTy F hr hg hm hk hb .nil pass0 ha hdb hs hpl
end
noncomputable def nst:Expr->Bool
 | .Starred ..=>false
 | _=>true
theorem zBq(h:nst e=true):starEach (e::es) env=(false,eval e env)::starEach es env:=by cases e <;> first|rfl|cases h
theorem zEx :∀{es:List Expr},es.all nst=true->(backTo pos (starEach es env)).any (·.1)=false
 | [],_=>rfl
 | e::es,h=>by
  simp only[vW,xE]at h;rw[zBq h.1];show(false || (backTo pos (starEach es env)).any (·.1))=false;rw[zEx h.2];rfl
noncomputable def nsl:Expr->Bool
 | .Slice ..=>false
 | _=>true
theorem zPx(h:nsl b=true):zP3 b:=λo i=>by cases b <;> first|rfl|cases h
noncomputable def nco:Expr->Bool
 | .ListComp ..|.SetComp ..|.DictComp ..=>false
 | _=>true
theorem zFq(h:nco e=true):swapsWith e tg l env=pure false:=by cases e <;> first|rfl|cases h
theorem zT0{l:Nat}(h:nco e=true):swapsWithSole [tg] e l env=pure false:=zFq h
theorem zJe{l:Nat}:swapsWithSole [.Tuple es k p] e l env=pure false:=by show swapsWith e (some (.Tuple es k p)) l env=pure false;cases e <;> rfl
noncomputable def ntu:Expr->Bool
 | .Tuple ..=>false
 | _=>true
theorem zLv(h:ntu e=true):swappedStores [tg] e env=pure none:=by
 cases tg with
 | Tuple _ _ _=>cases e with
  | Tuple _ _ _=>cases h
  | _=>rfl
 | List _ _=>cases e with
  | Tuple _ _ _=>cases h
  | _=>rfl
 | _=>rfl
theorem zF1(h:nst tg=true):(assignEach (tg::es) env).map (·.2)=assign tg env::(assignEach es env).map (·.2):=by cases tg <;> first|rfl|cases h
theorem zB0 :∀{es:List Expr},es.all nst=true->(assignEach es env).length=es.length/\(assignEach es env).findIdx? (·.1)=none
 | [],_=>⟨rfl,rfl⟩
 | e::es,h=>by
  simp only[vW,xE]at h;obtain⟨h1,h2⟩:=zB0 h.2;have e1:assignEach (e::es) env=(false,assign e env)::assignEach es env:=by have:=h.1;cases e <;> first|rfl|cases this
  rw[e1];refine⟨by rw[xD,h1,xD],?_⟩;rw[List.findIdx?_cons];simp[h2]
noncomputable def nse:Expr->Bool
 | .Set ..=>false
 | _=>true
theorem zFt(h:nse e=true)(x:Value):foldedSetIterable e env x=pure x:=by cases e <;> first|rfl|cases h
noncomputable def nba:Expr->Bool
 | .Call ..=>false
 | _=>true
theorem zEw(h:nba o=true):attributeBase o m env (eval o env)=eval o env:=by cases o <;> first|rfl|cases h
noncomputable def ntt:Expr->Bool
 | .UnaryOp ..|.BoolOp ..|.IfExp ..|.Compare ..=>false
 | _=>true
theorem zSq{e:Expr}(h:ntt e=true)(whole:Sem Value):isTrue e env whole=(do let v <- whole;standAt e.pos;holding [v] (truthy v)):=by cases e <;> first|rfl|cases h
section
variable {X:Cx}{e o i a b:Expr}{es:List Expr}{te ta tb to ti:TE}{t:TA}{p pos cpos apos:Pos}
theorem qa(ha:PE X e te)(hr:PA X es t)(h:nst e=true:=by rfl):PA X (e::es) (zSv te t):=zTz ha hr (zBq h)
theorem qix(hr:IxR X r)(ha:PE X a ta)(hb:PE X b tb)(h:nsl b=true:=by rfl):PE X (.Subscript a b pos) (tOp r ta tb):=yB7 hr ha hb (zPx h)
theorem qcal(C:Cal X.prog X.w X.K X.mg X.base x k ps sp)(hr:Room k X.A)(hg:Gl X x)(ha:PA X (e::es) t)(hdb:(x == ("__debug__":Str))=false:=by decide)
  (h:(e::es).all nst=true:=by rfl):PE X (.Call (.Name x p) (e::es) [] pos) (zP8 sp [] E0 t):=by
 simp only[vW,xE]at h;exact zY1 C hr hg ha hdb (zBq h.1) (zEx h.2)
theorem zXg{x:Str}{id:String}{r:List V->Hp->VK->Prop}(hc:zB9 X (.builtin id) r)(hg:Gl X x)(hm:X.mg x=none)(hv:bootBuiltins x=some (.builtin id))(ha:PA X (e::es) t)(hn:x≠"__name__":=by decide)(hdb:(x == ("__debug__":Str))=false:=by decide)
  (h:(e::es).all nst=true:=by rfl):PE X (.Call (.Name x p) (e::es) [] pos) (tCB r t):=by
 simp only[vW,xE]at h;exact zQ9 hc hg hm hv ha hn hdb (zBq h.1) (zEx h.2)
theorem zXf{r:List V->Hp->VK->Prop}(hc:zB9 X (.type T) r)(hg:Gl X x)(hm:X.mg x=none)(hv:bootBuiltins x=some (.type T))(ha:PA X (e::es) t)(hn:x≠"__name__":=by decide)(hdb:(x == ("__debug__":Str))=false:=by decide)
  (h:(e::es).all nst=true:=by rfl):PE X (.Call (.Name x p) (e::es) [] pos) (tCB r t):=by
 simp only[vW,xE]at h;exact zMk hc hg hm hv ha hn hdb (zBq h.1) (zEx h.2)
theorem qtruth(ha:PE X e te)(h:ntt e=true:=by rfl):PT X e (λσ H Q=>te σ H λx H1=>∃k,TruV X.K x H1 k/\Q k H1):=zPr ha (zSq h)
theorem qset{j:Nat}{pos':Pos}(hN:X.N.Nodup)(hi:X.N[j]?=some x)(hx:Loc X.env.scope x)(he:PE X e te)(hf:X.fn x=true\/X.env.scope.names.lookup x=some .local:=by first|exact .inl rfl|exact .inr rfl|assumption)(h:nco e=true:=by rfl):
  PS X (.Assign [.Name x pos'] e pos) (tAsg te (gName j)):=zXo hN hi hx he (zFq h) hf
theorem qasgt(he:PE X e te)(hg:PG X (.Tuple ts k tp) g)(h1:ntu e=true:=by rfl):PS X (.Assign [.Tuple ts k tp] e pos) (tAsg te g):=zRw he hg zJe (zLv h1) rfl
theorem qgs(h1:PG X tg g)(h2:PGs X ts gs)(h:nst tg=true:=by rfl):PGs X (tg::ts) (zV7 g gs):=zQ1 h1 h2 (zF1 h)
theorem qtup{ts:List Expr}{n:Nat}(hc:X.calm=true)(h:PGs X ts gs)(hn:ts.length=n:=by rfl)(h1:ts.all nst=true:=by rfl):PG X (.Tuple ts k pos) (gTup X.K n gs):=zXu hc h ((zB0 h1).1.trans hn) (zB0 h1).2
theorem qunl{ts:List Expr}{n:Nat}(hc:X.calm=true)(h:PGs X ts gs)(hn:ts.length=n:=by rfl)(h1:ts.all nst=true:=by rfl):PG X (.Tuple ts k pos) (gLst X.K n gs):=zXt hc h ((zB0 h1).1.trans hn) (zB0 h1).2
theorem qfor{tg iter:Expr}{body:List Stmt}{wi:TI}{g:TG}{tb:TS}(hp:PassesOwn (model X.prog X.w) X.A X.env X.xe)(hc:X.calm=true)(hi:PI X tg iter wi)(hg:PG X tg g)(hb:PSs X body tb)(h:nse iter=true:=by rfl):
  PS X (.For tg iter body [] pos) (tFor wi g tb):=zXs hp hc hi hg hb (zFt h)
theorem qexpr(he:PE X e te)(h:nco e=true:=by rfl):PS X (.Expr e pos) (zSu te):=zTo he (zFq h)
theorem qlcomp{ix:List Nat}{elt:Expr}{ifs:List Expr}{g:TG}{tt:TT}(hc:X.calm=true)(S:CompScope X own fre ix scope)(hi:PI X tg iter wi)
  (hg:∀cl C s H fp,PG (zA7 X (own++fre) scope cl C s H fp) tg g) (ht:∀cl C s H fp,PIfs (zA7 X (own++fre) scope cl C s H fp) ifs tt) (he:∀cl C s H fp,PE (zA7 X (own++fre) scope cl C s H fp) elt te)
  (h:nse iter=true:=by rfl):PE X (.ListComp elt [⟨tg,iter,ifs,0⟩] scope pos) (zHy own ix wi g tt te):=zQ5 hc S hi hg ht he (zFt h)
theorem qsetc{own fre:List Str}{ix:List Nat}{scope:Scope}{j:Nat}{pos':Pos}{tg elt iter:Expr}{ifs:List Expr}{wi:TI}{g:TG}{tt:TT}(hN:X.N.Nodup)(hix:X.N[j]?=some x)(hx:Loc X.env.scope x)
  (hc:X.calm=true) (S:CompScope X own fre ix scope) (hi:PI X tg iter wi)
  (hg:∀cl C s H fp,PG (zA7 X (own++fre) scope cl C s H fp) tg g) (ht:∀cl C s H fp,PIfs (zA7 X (own++fre) scope cl C s H fp) ifs tt) (he:∀cl C s H fp,PE (zA7 X (own++fre) scope cl C s H fp) elt te)
  (hsw:swapsWith (.ListComp elt [⟨tg,iter,ifs,0⟩] scope cpos) (some (.Name x pos')) pos.line X.env=pure true:=by rfl) (h:nse iter=true:=by rfl) (hf:X.fn x=true\/X.env.scope.names.lookup x=some .local:=by first|exact .inl rfl|exact .inr rfl|assumption):
  PS X (.Assign [.Name x pos'] (.ListComp elt [⟨tg,iter,ifs,0⟩] scope cpos) pos) (tAsg (zHy own ix wi g tt te) (gName j)):=zTm hN hix hx hc S hi hg ht he hsw (zFt h) hf
theorem qrange1{tg:Expr}{ta:TA}(hg:Gl X "range")(hm:X.mg "range"=none)(ha:PA X [a] ta)(h:nst a=true:=by rfl):PI X tg (.Call (.Name "range" p) [a] [] pos) (zV4 ta):=zMi hg hm ha (zBq h)
theorem qbm0{T name id:_}{r:V->List V->Hp->VK->Prop}(pa:PlainAttrs T)(slot:Slot T name id)(hty:typeOf (.builtin id)=pure (.type "method_descriptor"))(hm:MtR X id r)(ho:PE X o to)(h:nba o=true:=by rfl)(hline:(apos.endLine == cpos.line)=true:=by rfl):
  PE X (.Call (.Attribute o name apos) [] [] cpos) (tBM0 X.K T r to):=zY2 pa slot hty hm ho (zEw h) hline
theorem qpar{px py pt pt2:Pos}{kt k2 i j:Nat}{ta:TA}(hc:X.calm=true)(hN:X.N.Nodup)(hi:X.N[i]?=some x)(hj:X.N[j]?=some y)(hij:i≠j)
  (hx:X.env.scope.names.lookup x=some .local) (hy:X.env.scope.names.lookup y=some .local) (ha:PA X [a,b] ta)
  (hw:swappedStores [.Tuple [.Name x px,.Name y py] kt pt] (.Tuple [a,b] k2 pt2) X.env=pure (some [x,y])):
  PS X (.Assign [.Tuple [.Name x px,.Name y py] kt pt] (.Tuple [a,b] k2 pt2) pos) (tPar i j ta):=zXq hc hN hi hj hij hx hy ha hw zJe
end
structure SE (X:Cx) (e:Expr) (t:TE):Prop where h:PE X e t
structure ST (X:Cx) (e:Expr) (t:TT):Prop where h:PT X e t
structure SW (X:Cx) (e:Expr) (t:TT):Prop where h:PW X e t
structure SA (X:Cx) (es:List Expr) (t:TA):Prop where h:PA X es t
structure SS (X:Cx) (st:Stmt) (t:TS):Prop where h:PS X st t
structure SSs (X:Cx) (st:List Stmt) (t:TS):Prop where h:PSs X st t
structure SG (X:Cx) (e:Expr) (t:TG):Prop where h:PG X e t
structure SGs (X:Cx) (es:List Expr) (t:TGs):Prop where h:PGs X es t
structure SI (X:Cx) (tg e:Expr) (t:TI):Prop where h:PI X tg e t
structure SIfs (X:Cx) (es:List Expr) (t:TT):Prop where h:PIfs X es t
structure SO (X:Cx) (e:Option Expr) (t:TO):Prop where h:PO X e t
section
variable {X:Cx}{e o i a b c:Expr}{es:List Expr}{te ta tb tc to ti tv td ty:TE}{t:TA}{p pos cpos apos:Pos}{tA tB':TT}
theorem pv'(i:Nat){pos:Pos}(hN:X.N[i]?=some x:=by rfl)(hv:Vis X.env.scope x:=by first|exact Or.inl rfl|exact Or.inr (Or.inl rfl)|exact Or.inr (Or.inr rfl))(hd:(x == ("__debug__":Str))=false:=by decide)
  (hcd:(x == ("__classdict__":Str))=false:=by decide):SE X (.Name x pos) (tVar i):=⟨pv i hN hv hd hcd⟩
theorem zTw{i:Int}{j:Nat}:SE X (.Constant (.int i) j pos) (tC (.int i)):=⟨zY0⟩
theorem zY4{b:Bool}{j:Nat}:SE X (.Constant (.bool b) j pos) (tC (.bl b)):=⟨yB9⟩
theorem zXy(ho:OpR X (binaryOp op) r)(ha:SE X a ta)(hb:SE X b tb):SE X (.BinOp a op b pos) (tOp r ta tb):=⟨yB6 ho ha.h hb.h⟩
theorem zTu(h:SA X es t):SE X (.Tuple es k pos) (tTup t):=⟨zXx h.h⟩
theorem zTv(h:SA X es t):SE X (.List es pos) (tLst t):=⟨zXz h.h⟩
theorem pe_dnewK':SE X (.Dict [] [] pos) zRm:=⟨zQ7⟩
theorem pe_dnewT':SE X (.Dict [] [] pos) zRl:=⟨zQ6⟩
theorem zMj{r:V->Option Int->Option Int->Hp->VK->Prop}{lo hi:Option Expr}{tl th:TO}{p2:Pos}(hr:SlR X r)(he:SE X e te)(hl:SO X lo tl)(hu:SO X hi th):SE X (.Subscript e (.Slice lo hi none p2) pos) (tSl r te tl th):=⟨zQ4 hr he.h hl.h hu.h⟩
theorem po_none':SO X none zLs:=⟨zTq⟩
theorem zPw(h:SE X e te):SO X (some e) (zX4 te):=⟨zTp h.h⟩
theorem pa_nil':SA X [] tNil:=⟨zY6⟩
theorem qa'(ha:SE X e te)(hr:SA X es t)(h:nst e=true:=by rfl):SA X (e::es) (zSv te t):=⟨qa ha.h hr.h h⟩
theorem qix'(hr:IxR X r)(ha:SE X a ta)(hb:SE X b tb)(h:nsl b=true:=by rfl):SE X (.Subscript a b pos) (tOp r ta tb):=⟨qix hr ha.h hb.h h⟩
theorem qcal'(C:Cal X.prog X.w X.K X.mg X.base x k ps sp)(hr:Room k X.A)(hg:Gl X x)(ha:SA X (e::es) t)(hdb:(x == ("__debug__":Str))=false:=by decide)
  (h:(e::es).all nst=true:=by rfl):SE X (.Call (.Name x p) (e::es) [] pos) (zP8 sp [] E0 t):=⟨qcal C hr hg ha.h hdb h⟩
theorem zM9{x:Str}{id:String}{r:List V->Hp->VK->Prop}(hc:zB9 X (.builtin id) r)(hg:Gl X x)(hm:X.mg x=none)(hv:bootBuiltins x=some (.builtin id))(ha:SA X (e::es) t)(hn:x≠"__name__":=by decide)(hdb:(x == ("__debug__":Str))=false:=by decide)
  (h:(e::es).all nst=true:=by rfl):SE X (.Call (.Name x p) (e::es) [] pos) (tCB r t):=⟨zXg hc hg hm hv ha.h hn hdb h⟩
theorem zTd{r:List V->Hp->VK->Prop}(hc:zB9 X (.type T) r)(hg:Gl X x)(hm:X.mg x=none)(hv:bootBuiltins x=some (.type T))(ha:SA X (e::es) t)(hn:x≠"__name__":=by decide)(hdb:(x == ("__debug__":Str))=false:=by decide)
  (h:(e::es).all nst=true:=by rfl):SE X (.Call (.Name x p) (e::es) [] pos) (tCB r t):=⟨zXf hc hg hm hv ha.h hn hdb h⟩
theorem qbm0'{T name id:_}{r:V->List V->Hp->VK->Prop}(pa:PlainAttrs T)(slot:Slot T name id)(hty:typeOf (.builtin id)=pure (.type "method_descriptor"))(hm:MtR X id r)(ho:SE X o to)(h:nba o=true:=by rfl)(hline:(apos.endLine == cpos.line)=true:=by rfl):
  SE X (.Call (.Attribute o name apos) [] [] cpos) (tBM0 X.K T r to):=⟨qbm0 pa slot hty hm ho.h h hline⟩
theorem zKk :∀{es:List Expr},es.all nst=true->(backTo pos (starEach es env)).all (λx=>!x.1)=true
 | [],_=>rfl
 | e::es,h=>by
  simp only[vW,xE]at h;rw[zBq h.1];show(true && (backTo pos (starEach es env)).all (λx=>!x.1))=true;rw[zKk h.2];rfl
theorem zY3{T name id:_}{r:V->List V->Hp->VK->Prop}(pa:PlainAttrs T)(slot:Slot T name id)(hty:typeOf (.builtin id)=pure (.type "method_descriptor"))(hm:MtR X id r)(ho:SE X o to)(ha:SA X (e::es) t)(h:nba o=true:=by rfl)(hs:(e::es).all nst=true:=by rfl)
  (hlen:decide ((e::es).length+0+0<30)=true:=by rfl) (hline:(apos.endLine == cpos.line)=true:=by rfl):SE X (.Call (.Attribute o name apos) (e::es) [] cpos) (tBM X.K T r to t):=by
 have hs':=hs;simp only[vW,xE]at hs';refine⟨yB8 pa slot hty hm ho.h ha.h (zEw h) ?_ hline (zBq hs'.1) (zEx hs'.2)⟩;rw[zKk hs];exact hlen
theorem zQ8(ho:OpR X (compareOp op) r)(ha:SE X a ta)(hb:SE X b tb)(hm:behindInMarks op b=false):SE X (.Compare a [op] [b] pos) (tOp r ta tb):=⟨zTx ho ha.h hb.h hm⟩
theorem zPs(ho:OpR X (compareOp op) r)(ha:SE X a ta)(hb:SE X b tb)(hm:behindInMarks op b=false):ST X (.Compare a [op] [b] pos) (zX3 (tOp r ta tb)):=⟨zTj ho ha.h hb.h hm⟩
theorem zTi(ha:ST X a tA):ST X (.UnaryOp .Not a pos) (tNot tA):=⟨zXn ha.h⟩
theorem zPo(ha:ST X a tA):SW X (.BoolOp .And [a] pos) tA:=⟨zTf ha.h⟩
theorem zTe(ha:ST X a tA):SW X (.BoolOp .Or [a] pos) tA:=⟨zXi ha.h⟩
theorem zTg(ha:ST X a tA)(hb:SW X (.BoolOp .And (b::es) pos) tB'):SW X (.BoolOp .And (a::b::es) pos) (tAnd tA tB'):=⟨zXk ha.h hb.h⟩
theorem zXj(ha:ST X a tA)(hb:SW X (.BoolOp .Or (b::es) pos) tB'):SW X (.BoolOp .Or (a::b::es) pos) (tOr tA tB'):=⟨yB3 ha.h hb.h⟩
theorem zXh(h:SW X e tA):ST X e tA:=⟨h.h.pt⟩
noncomputable def tTru (K:PySem.W.Frag) (te:TE):TT:=λσ H Q=>te σ H λx H1=>∃k,TruV K x H1 k/\Q k H1
theorem qtruth'(ha:SE X e te)(h:ntt e=true:=by rfl):ST X e (tTru X.K te):=⟨qtruth ha.h h⟩
theorem qrange1'{tg:Expr}{ta:TA}(hg:Gl X "range")(hm:X.mg "range"=none)(ha:SA X [a] ta)(h:nst a=true:=by rfl):SI X tg (.Call (.Name "range" p) [a] [] pos) (zV4 ta):=⟨qrange1 hg hm ha.h h⟩
theorem zQ2(hN:X.N.Nodup)(hi:X.N[j]?=some x)(hx:Loc X.env.scope x)(hf:X.fn x=true\/X.env.scope.names.lookup x=some .local:=by first|exact .inl rfl|exact .inr rfl|assumption):SG X (.Name x pos) (gName j):=⟨zTt hN hi hx hf⟩
theorem pgs_nil':SGs X [] gNil:=⟨zTr⟩
theorem qgs'(h1:SG X tg g)(h2:SGs X ts gs)(h:nst tg=true:=by rfl):SGs X (tg::ts) (zV7 g gs):=⟨qgs h1.h h2.h h⟩
theorem qtup'{ts:List Expr}{n:Nat}(hc:X.calm=true)(h:SGs X ts gs)(hn:ts.length=n:=by rfl)(h1:ts.all nst=true:=by rfl):SG X (.Tuple ts k pos) (gTup X.K n gs):=⟨qtup hc h.h hn h1⟩
theorem qunl'{ts:List Expr}{n:Nat}(hc:X.calm=true)(h:SGs X ts gs)(hn:ts.length=n:=by rfl)(h1:ts.all nst=true:=by rfl):SG X (.Tuple ts k pos) (gLst X.K n gs):=⟨qunl hc h.h hn h1⟩
theorem zTs(ho:SE X o to)(hi:SE X i ti)(hs:PSet X ts)(h:nsl i=true:=by rfl):SG X (.Subscript o i pos) (gSub to ti ts):=by refine⟨zXv ho.h hi.h hs λv=>?_⟩;cases i <;> first|rfl|cases h
theorem pifs_nil':SIfs X [] tYes:=⟨zPz⟩
theorem zMf(hc:ST X c tA):SIfs X [c] tA:=⟨zPy hc.h⟩
theorem qlcomp'{ix:List Nat}{elt:Expr}{ifs:List Expr}{g:TG}{tt:TT}(hc:X.calm=true)(S:CompScope X own fre ix scope)(hi:SI X tg iter wi)
  (hg:∀cl C s H fp,SG (zA7 X (own++fre) scope cl C s H fp) tg g) (ht:∀cl C s H fp,SIfs (zA7 X (own++fre) scope cl C s H fp) ifs tt) (he:∀cl C s H fp,SE (zA7 X (own++fre) scope cl C s H fp) elt te)
  (h:nse iter=true:=by rfl):SE X (.ListComp elt [⟨tg,iter,ifs,0⟩] scope pos) (zHy own ix wi g tt te):=⟨qlcomp hc S hi.h (λ_ _ _ _ _=>(hg _ _ _ _ _).h) (λ_ _ _ _ _=>(ht _ _ _ _ _).h) (λ_ _ _ _ _=>(he _ _ _ _ _).h) h⟩
theorem qsetc'{own fre:List Str}{ix:List Nat}{scope:Scope}{j:Nat}{pos':Pos}{tg elt iter:Expr}{ifs:List Expr}{wi:TI}{g:TG}{tt:TT}(hN:X.N.Nodup)(hix:X.N[j]?=some x)(hx:Loc X.env.scope x)
  (hc:X.calm=true) (S:CompScope X own fre ix scope) (hi:SI X tg iter wi)
  (hg:∀cl C s H fp,SG (zA7 X (own++fre) scope cl C s H fp) tg g) (ht:∀cl C s H fp,SIfs (zA7 X (own++fre) scope cl C s H fp) ifs tt) (he:∀cl C s H fp,SE (zA7 X (own++fre) scope cl C s H fp) elt te)
  (hsw:swapsWith (.ListComp elt [⟨tg,iter,ifs,0⟩] scope cpos) (some (.Name x pos')) pos.line X.env=pure true:=by rfl) (h:nse iter=true:=by rfl) (hf:X.fn x=true\/X.env.scope.names.lookup x=some .local:=by first|exact .inl rfl|exact .inr rfl|assumption):
  SS X (.Assign [.Name x pos'] (.ListComp elt [⟨tg,iter,ifs,0⟩] scope cpos) pos) (tAsg (zHy own ix wi g tt te) (gName j)):=⟨qsetc hN hix hx hc S hi.h (λ_ _ _ _ _=>(hg _ _ _ _ _).h) (λ_ _ _ _ _=>(ht _ _ _ _ _).h) (λ_ _ _ _ _=>(he _ _ _ _ _).h) hsw h hf⟩
theorem qset'{j:Nat}{pos':Pos}(hN:X.N.Nodup)(hi:X.N[j]?=some x)(hx:Loc X.env.scope x)(he:SE X e te)(hf:X.fn x=true\/X.env.scope.names.lookup x=some .local:=by first|exact .inl rfl|exact .inr rfl|assumption)(h:nco e=true:=by rfl):
  SS X (.Assign [.Name x pos'] e pos) (tAsg te (gName j)):=⟨qset hN hi hx he.h hf h⟩
theorem qasgt'(he:SE X e te)(hg:SG X (.Tuple ts k tp) g)(h1:ntu e=true:=by rfl):SS X (.Assign [.Tuple ts k tp] e pos) (tAsg te g):=⟨qasgt he.h hg.h h1⟩
theorem qasgs'(he:SE X e te)(hg:SG X (.Subscript o i sp2) g)(h2:nco e=true:=by rfl):SS X (.Assign [.Subscript o i sp2] e pos) (tAsg te g):=⟨zRw he.h hg.h (zT0 h2) (by cases e <;> rfl) rfl⟩
theorem qpar'{px py pt pt2:Pos}{kt k2 i j:Nat}{ta:TA}(hc:X.calm=true)(hN:X.N.Nodup)(hi:X.N[i]?=some x)(hj:X.N[j]?=some y)(hij:i≠j)
  (hx:X.env.scope.names.lookup x=some .local) (hy:X.env.scope.names.lookup y=some .local) (ha:SA X [a,b] ta)
  (hw:swappedStores [.Tuple [.Name x px,.Name y py] kt pt] (.Tuple [a,b] k2 pt2) X.env=pure (some [x,y])):
  SS X (.Assign [.Tuple [.Name x px,.Name y py] kt pt] (.Tuple [a,b] k2 pt2) pos) (tPar i j ta):=⟨qpar hc hN hi hj hij hx hy ha.h hw⟩
theorem zTn(he:SE X e te):SS X (.Return (some e) pos) (tRet te):=⟨zXp he.h⟩
theorem zXr{ba bb:List Stmt}{t u:TS}(hc:ST X c tA)(ha:SSs X ba t)(hb:SSs X bb u):SS X (.If c ba bb pos) (tIfS tA t u):=⟨yB4 hc.h ha.h hb.h⟩
theorem zMd{body:List Stmt}{t:TS}(hp:PassesOwn (model X.prog X.w) X.A X.env X.xe)(hc:ST X c tA)(hb:SSs X body t):SS X (.While c body [] pos) (zRk tA t):=⟨zPv hp hc.h hb.h⟩
theorem qfor'{tg iter:Expr}{body:List Stmt}{wi:TI}{g:TG}{t:TS}(hp:PassesOwn (model X.prog X.w) X.A X.env X.xe)(hc:X.calm=true)(hi:SI X tg iter wi)(hg:SG X tg g)(hb:SSs X body t)(h:nse iter=true:=by rfl):
  SS X (.For tg iter body [] pos) (tFor wi g t):=⟨qfor hp hc hi.h hg.h hb.h h⟩
theorem qexpr'(he:SE X e te)(h:nco e=true:=by rfl):SS X (.Expr e pos) (zSu te):=⟨qexpr he.h h⟩
theorem pss_nil':SSs X [] zX5:=⟨zTl⟩
theorem zPt{st:Stmt}{t:TS}(h:SS X st t):SSs X [st] t:=⟨zTk h.h⟩
theorem zMc{st:Stmt}{r:List Stmt}{t u:TS}(h1:SS X st t)(h2:SSs X r u):SSs X (st::r) (tSeq t u):=⟨zPu h1.h h2.h⟩
end
def BN(n:Nat)(x:Int):Prop:=x.natAbs<2 ^ n
theorem BN.bits{x:Int}(h:BN 5000 x):Builtin.Int.intBits x<=2 ^ 20:=by
 unfold Builtin.Int.intBits;split
 ·exact xT _
 ·rename_i hx;have h0:x.natAbs≠0:=by
   intro z;apply hx;have:x=0:=by nofun
   rw[this];rfl
  have:=(Nat.log2_lt h0).mpr h;lia
theorem BN.log{x:Int}(h:BN 5000 x):x.natAbs.log2<9000:=by
 by_cases h0:x.natAbs=0
 ·rw[h0];decide +kernel
 ·have:=(Nat.log2_lt h0).mpr h;lia
section
variable {X:Cx}
theorem zU6:OpR X (binaryOp .Mult) (rI (λi j=>BN 5000 i/\BN 5000 j) λi j=>.int (i*j)):=opI λ_ _ _ _ _ _ _ hc q=>mul_int q (IntMulOk.of_bits hc.1.bits hc.2.bits)
theorem zQa:OpR X (binaryOp .FloorDiv) (rI (λ_ j=>j≠0/\BN 5000 j) λi j=>.int (i.fdiv j)):=opI λ_ _ _ _ _ _ _ hc q=>floordiv_int hc.1 q (.inl (PyProof.noPylong_of_log2 hc.2.log))
end
noncomputable def dv (u l:Int):Int:=if l<0 then -(Int.gcd u l:Int)else(Int.gcd u l:Int)
section
variable {X:Cx}{pins:List (Addr × Obj)}{σ:St}{H:Hp}{s:Shared}{h':Heap}
theorem Inv.turnedT{t':Nat}{fp:List Addr}{T:Addr}{o:HO}(I:Inv X pins σ H s)(hf:∀b∈fp,FpOk X pins H b)(k:∀b o,b ∉ fp->s.heap.get? b=some o->h'.get? b=some o)(hT:s.heap.objs.size<=T)
  (new:ObjOk X.prog X.w (upd H T o) h' T o):Inv X pins σ (upd H T o) { s with heap:=h',toks:=t' }:=by
 have hn:=I.hok.fresh hT;have nit:∀b u,H b=some u->b ∉ fp:=λb u e z=>by rw[(hf b z).1]at e;cases e
 refine I.step (λb hb=>⟨(hf b hb).2.2.2.1,(hf b hb).2.1,(hf b hb).2.2.2.2.1,(hf b hb).2.2.2.2.2⟩) (λb o _ _ hc e _=>k b o hc e) (λb o _ _ hc e _=>⟨o.slots,k b o hc e⟩)
  (λb u _ q n=>by rw[zAb (xA (xB (xq q) hT))];exact n)
  (λb o hc e=>⟨o,k b o hc e⟩) (λb xs q=>by rw[zAb (zAa q hn)];exact q) (λb u xs q=>by rw[zAb (zAa q hn)];exact q) (λb ps q=>⟨#[],by rw[zAb (zAa q hn),q];simp⟩) (λm hm=>?_) (λb u e=>?_) I.bare
 ·obtain⟨o,es,ep,ho,r⟩:=hm;exact⟨o,es,ep,k _ o (λz=>(hf _ z).2.1 rfl) ho,r⟩
 ·by_cases hb:b=T
  ·subst hb;rw[zAe]at e;cases e;exact new
  ·rw[zAb hb]at e;refine(I.hok b u e).stay (λc v hc q=>k c v ?_ q) (λc q=>by rw[zAb (zAa q hn)];exact q) λc xs q=>by rw[zAb (zAa q hn)];exact q
   rcases hc with z|z
   ·rw[z];exact nit b u e
   ·exact nit c _ z
theorem Inv.turnedL{t':Nat}{fp:List Addr}(I:Inv X pins σ H s)(hf:∀b∈fp,FpOk X pins H b)(k:∀b o,b ∉ fp->s.heap.get? b=some o->h'.get? b=some o):Inv X pins σ H { s with heap:=h',toks:=t' }:=by
 have nit:∀b u,H b=some u->b ∉ fp:=λb u e z=>by rw[(hf b z).1]at e;cases e
 refine I.step (λb hb=>⟨(hf b hb).2.2.2.1,(hf b hb).2.1,(hf b hb).2.2.2.2.1,(hf b hb).2.2.2.2.2⟩) (λb o _ _ hc e _=>k b o hc e) (λb o _ _ hc e _=>⟨o.slots,k b o hc e⟩)
  (λ_ _ _ _ n=>n) (λb o hc e=>⟨o,k b o hc e⟩) (λ_ _ e=>e) (λ_ _ _ e=>e) (λb ps e=>⟨#[],by rw[e];simp⟩) (λm hm=>?_) (λb u e=>?_) I.bare
 ·obtain⟨o,es,ep,ho,r⟩:=hm;exact⟨o,es,ep,k _ o (λz=>(hf _ z).2.1 rfl) ho,r⟩
 ·refine(I.hok b u e).stay (λc v hc q=>k c v ?_ q) (λ_ q=>q) λ_ _ q=>q
  rcases hc with z|z
  ·rw[z];exact nit b u e
  ·exact nit c _ z
end
end L2
namespace TB
open PySem
abbrev Up(l:List Nat):Prop:=l.Pairwise (·<·)
theorem zF8{l:List Nat}(h:Up l){i j:Nat}(hij:i<j)(hj:j<l.length):l[i]'(vL hij hj)<l[j]:=yt.mp h i j _ hj hij
theorem zHx:∀(l:List Nat) (a b:Nat),Up l->(∀e,a<=e->e<b->e∈l)->b-a<=l.length
 | [],a,b,_,h=>by
  by_cases c:a<b
  ·exact absurd (h a (xk _) c) (by simp)
  ·simp;lia
 | x::xs,a,b,u,h=>by
  have ux:=vR.mp u;by_cases c:a<b
  ·have ha:=h a (xk _) c;rcases Nat.lt_trichotomy a x with q|q|q
   ·rcases xo.mp ha with z|z
    ·lia
    ·exact absurd (ux.1 a z) (by nofun)
   ·subst q;have r:=zHx xs (a+1) b ux.2 λe h1 h2=>by
     rcases xo.mp (h e (by nofun) h2)with z|z
     ·lia
     ·exact z
    simp only[xD];lia
   ·have r:=zHx xs a b ux.2 λe h1 h2=>by
     rcases xo.mp (h e h1 h2)with z|z
     ·lia
     ·exact z
    simp only[xD];lia
  ·lia
theorem zWw{l:List Nat}{m:Nat}(u:Up l)(h:l.length<=m):∃e,e<=m/\e ∉ l:=by
 refine uP λn=>?_
 have r:=zHx l 0 (m+1) u λe _ h2=>uP λq=>n ⟨e,by nofun,q⟩
 lia
theorem zGn{xs:Array Nat}{j:Nat}(u:Up xs.toList):∀(f lo hi:Nat),hi-lo<=f->lo<=hi->hi<=xs.size->(∀i (q:i<xs.size),i<lo->xs[i]<j)->(∀i (q:i<xs.size),hi<=i->j<=xs[i])->
  (SetTable.below.go xs j f lo hi<=xs.size/\(∀i (q:i<xs.size),i<SetTable.below.go xs j f lo hi->xs[i]<j)/\(∀i (q:i<xs.size),SetTable.below.go xs j f lo hi<=i->j<=xs[i]))
 | 0,lo,hi,h1,h2,h3,h4,h5=>by
  have e:lo=hi:=by nofun
  subst e;exact⟨h3,h4,h5⟩
 | f+1,lo,hi,h1,h2,h3,h4,h5=>by
  unfold SetTable.below.go;by_cases c:lo<hi
  ·rw[xf c];have hm:(lo+hi) / 2<hi:=by nofun
   have hl:lo<=(lo+hi) / 2:=by nofun
   have hz:(lo+hi) / 2<xs.size:=by nofun
   have eg:xs.getD ((lo+hi) / 2) j=xs[(lo+hi) / 2]:=by simp[Array.getD,hz]
   dsimp only;rw[eg];have rise:∀i k (q:i<xs.size) (r:k<xs.size),i<k->xs[i]<xs[k]:=λi k q r hik=>by
    have:=zF8 u hik (by simpa using r);simpa using this
   by_cases d:xs[(lo+hi) / 2]<j
   ·rw[xf d];refine zGn u f _ hi (by nofun) (by nofun) h3 (λi q hi'=>?_) h5;rcases vz i ((lo+hi) / 2)with z|z
    ·exact vL (rise _ _ q hz z) d
    ·have:i=(lo+hi) / 2:=by nofun
     subst this;exact d
   ·rw[xg d];refine zGn u f lo _ (by nofun) hl (by nofun) h4 (λi q hi'=>?_);rcases vz ((lo+hi) / 2) i with z|z
    ·have:=rise _ _ hz q z;lia
    ·have:i=(lo+hi) / 2:=by nofun
     subst this;lia
  ·rw[xg c];have e:lo=hi:=by nofun
   subst e;exact⟨h3,h4,h5⟩
theorem zGm{xs:Array Nat}(j:Nat)(u:Up xs.toList):SetTable.below xs j<=xs.size/\(∀i (q:i<xs.size),i<SetTable.below xs j->xs[i]<j)/\(∀i (q:i<xs.size),SetTable.below xs j<=i->j<=xs[i]):=
 zGn u xs.size 0 xs.size (by nofun) (by nofun) (xk _) (λi q h=>by nofun) (λi q h=>by nofun)
theorem zRd{xs:Array Nat}{j k:Nat}(u:Up xs.toList)(hk:k<=xs.size)(h1:∀i (q:i<xs.size),i<k->xs[i]<j)(h2:∀i (q:i<xs.size),k<=i->j<=xs[i]):SetTable.below xs j=k:=by
 obtain⟨a,b,c⟩:=zGm j u;rcases Nat.lt_trichotomy (SetTable.below xs j) k with z|z|z
 ·have p:=h1 _ (by nofun) z;have q:=c _ (by nofun) (xk _);lia
 ·exact z
 ·have p:=h2 k (by nofun) (xk _);have q:=b k (by nofun) z;lia
noncomputable def slotAt (xs:Array Nat) (k:Nat):Nat:=if k=0 then 0 else xs.getD (k-1) 0+1
theorem zHs{xs:Array Nat}{k:Nat}(u:Up xs.toList)(hk:k<=xs.size):SetTable.below xs (slotAt xs k)=k:=by
 have rise:∀i k (q:i<xs.size) (r:k<xs.size),i<k->xs[i]<xs[k]:=λi k q r hik=>by
  have:=zF8 u hik (by simpa using r);simpa using this
 refine zRd u hk (λi q h=>?_) (λi q h=>?_)
 ·unfold slotAt;rw[xg (by nofun)];have hz:k-1<xs.size:=by nofun
  have:xs.getD (k-1) 0=xs[k-1]:=by simp[Array.getD,hz]
  rw[this];rcases vz i (k-1)with z|z
  ·have:=rise _ _ q hz z;lia
  ·have:i=k-1:=by nofun
   subst this;lia
 ·unfold slotAt;by_cases c:k=0
  ·rw[xf c];lia
  ·rw[xg c];have hz:k-1<xs.size:=by nofun
   have:xs.getD (k-1) 0=xs[k-1]:=by simp[Array.getD,hz]
   rw[this];have:=rise _ _ hz q (by nofun);lia
theorem zE6{α:Type}(xs:Array α)(p:Nat)(x:α):(SetTable.insertAt xs p x).toList=xs.toList.take p++x::xs.toList.drop p:=by unfold SetTable.insertAt;simp[yu];exact u7 (by simp)
theorem ins_perm{α:Type}(xs:Array α)(p:Nat)(x:α):(SetTable.insertAt xs p x).toList.Perm (x::xs.toList):=by rw[zE6];exact u9.trans (by rw[vA])
theorem zJy{α:Type}(xs:Array α)(p:Nat)(x:α):(SetTable.insertAt xs p x).size=xs.size+1:=by have:=(ins_perm xs p x).length_eq;simpa using this
theorem ins_up{xs:Array Nat}{j:Nat}(u:Up xs.toList)(h:xs[SetTable.below xs j]?≠some j):Up (SetTable.insertAt xs (SetTable.below xs j) j).toList:=by
 obtain⟨a,b,c⟩:=zGm j u;rw[zE6];have h1:∀v∈xs.toList.take (SetTable.below xs j),v<j:=λv hv=>by
  obtain⟨i,hi,rfl⟩:=uk.mp hv;rw[vh]at hi;rw[List.getElem_take];have:=b i (by simp at hi;lia) (by nofun);simpa using this
 have h2:∀v∈xs.toList.drop (SetTable.below xs j),j<v:=λv hv=>by
  obtain⟨i,hi,rfl⟩:=uk.mp hv;rw[uZ]at hi;rw[List.getElem_drop];have hz:SetTable.below xs j+i<xs.size:=by simp at hi;lia
  have h3:=c _ hz (by nofun);have h4:xs[SetTable.below xs j]'(by nofun)≠j:=λe=>h (by rw[vt (by nofun),e])
  have h5:=c (SetTable.below xs j) (by nofun) (xk _);have h6:xs[SetTable.below xs j]'(by nofun)<=xs[SetTable.below xs j+i]:=by
   rcases Nat.eq_zero_or_pos i with z|z
   ·subst z;exact xk _
   ·have:=zF8 u (i:=SetTable.below xs j) (j:=SetTable.below xs j+i) (by nofun) (by simpa using hz);exact xN (by simpa using this)
  simp only[Array.getElem_toList];lia
 refine List.pairwise_append.mpr ⟨u.sublist (uh _ _),vR.mpr ⟨λv hv=>h2 v hv,u.sublist (uQ _ _)⟩,λp hp q hq=>?_⟩;rcases xo.mp hq with rfl|hq
 ·exact h1 p hp
 ·exact vL (h1 p hp) (h2 q hq)
noncomputable def orb (m:Nat):Nat->Nat × Nat->Nat × Nat
 | 0,x=>x
 | L+1,x=>orb m L (SetTable.leap m x.1 x.2)
noncomputable def gs (m:Nat):Nat->Nat->Nat
 | 0,i=>i
 | k+1,i=>gs m k ((i*5+1) % (m+1))
theorem zK0(m:Nat):∀(a b i:Nat),gs m (a+b) i=gs m b (gs m a i)
 | 0,b,i=>by rw[vd];rfl
 | a+1,b,i=>by rw[show a+1+b=(a+b)+1 by nofun];exact zK0 m a b _
def Msk(m:Nat):Prop:=m=7\/m=31\/m=127\/m=511\/m=2047
noncomputable def gsB (m:Nat):Nat->Nat->Nat->Nat
 | 0,_,a=>a
 | k+1,i,a=>gsB m k ((i*5+1) % (m+1)) (a ||| 2 ^ i)
theorem zSc(m:Nat):∀(n i a e:Nat),(gsB m n i a).testBit e=true->a.testBit e=true\/∃k,k<n/\gs m k i=e
 | 0,i,a,e,h=>.inl h
 | n+1,i,a,e,h=>by
  rcases zSc m n _ _ e h with z|⟨k,hk,z⟩
  ·rw[Nat.testBit_or,Bool.or_eq_true]at z;rcases z with z|z
   ·exact .inl z
   ·rw[Nat.testBit_two_pow]at z;exact .inr ⟨0,by nofun,uR z⟩
  ·exact .inr ⟨k+1,by nofun,z⟩
theorem zZd{m:Nat}(h:Msk m):gs m (m+1) 0=0/\∀e,e<m+1->∃k,k<m+1/\gs m k 0=e:=by
 have t:∀(M:Nat),(gs M (M+1) 0 == 0 && gsB M (M+1) 0 0 == 2 ^ (M+1)-1)=true->gs M (M+1) 0=0/\∀e,e<M+1->∃k,k<M+1/\gs M k 0=e:=λM hh=>by
  rw[xE]at hh;refine⟨by simpa using hh.1,λe he=>?_⟩;have hb:gsB M (M+1) 0 0=2 ^ (M+1)-1:=by simpa using hh.2
  rcases zSc M (M+1) 0 0 e (by rw[hb,Nat.testBit_two_pow_sub_one];exact xx he)with z|z
  ·rw[Nat.zero_testBit]at z;cases z
  ·exact z
 rcases h with rfl|rfl|rfl|rfl|rfl <;> exact t _ (by decide +kernel)
theorem zZc{m i e:Nat}(h:Msk m)(hi:i<m+1)(he:e<m+1):∃k,k<=m/\gs m k i=e:=by
 obtain⟨z,al⟩:=zZd h;obtain⟨a,ha,rfl⟩:=al i hi;obtain⟨b,hb,rfl⟩:=al e he;rcases vz b a with c|c
 ·refine⟨m+1-a+b,by nofun,?_⟩;rw[<- zK0,show a+(m+1-a+b)=(m+1)+b by nofun,zK0,z]
 ·exact⟨b-a,by nofun,by rw[<- zK0,show a+(b-a)=b by nofun]⟩
theorem zMp(m:Nat):∀(a b:Nat) (x:Nat × Nat),orb m (a+b) x=orb m b (orb m a x)
 | 0,b,x=>by rw[vd];rfl
 | a+1,b,x=>by rw[show a+1+b=(a+b)+1 by nofun];exact zMp m a b _
theorem zMo(m:Nat):∀(L:Nat) (x:Nat × Nat),(orb m L x).2=x.2 / 32 ^ L
 | 0,x=>by simp[orb]
 | L+1,x=>by
  show(orb m L _).2=_;rw[zMo m L];show x.2 / 32 / 32 ^ L=_;rw[Nat.div_div_eq_div_mul,Nat.pow_succ,Nat.mul_comm]
theorem zRx{m:Nat}:∀(L:Nat) (x:Nat × Nat),x.1<m+1->(orb m L x).1<m+1
 | 0,x,h=>h
 | L+1,x,h=>zRx L _ (vv _ (by nofun))
theorem zRy(m:Nat):∀(k:Nat) (x:Nat × Nat),x.2=0->(orb m k x).1=gs m k x.1
 | 0,x,h=>rfl
 | k+1,x,h=>by
  show(orb m k (SetTable.leap m x.1 x.2)).1=gs m k _;rw[zRy m k _ (by show x.2 / 32=0;rw[h])];show gs m k ((x.1*5+1+x.2 / 32) % (m+1))=_;rw[h]
theorem zI4{m i p e:Nat}(h:Msk m)(hi:i<m+1)(hp:p<2 ^ 64)(he:e<m+1):∃L,L<=13+m/\(orb m L (i,p)).1=e:=by
 obtain⟨k,hk,ek⟩:=zZc h (zRx 13 (i,p) hi) he;have h0:(orb m 13 (i,p)).2=0:=by rw[zMo];exact Nat.div_eq_of_lt (vL hp (by decide))
 exact⟨13+k,by nofun,by rw[zMp,zRy m k _ h0,ek]⟩
noncomputable def adv (t:SetTable):Nat->SetTable.Probe->SetTable.Probe
 | 0,p=>p
 | m+1,p=>adv t m (t.advance p)
theorem zCb(t:SetTable):∀(a b:Nat) (p:SetTable.Probe),adv t (a+b) p=adv t b (adv t a p)
 | 0,b,p=>by rw[vd];rfl
 | a+1,b,p=>by rw[show a+1+b=(a+b)+1 by nofun];exact zCb t a b _
theorem zHw(t:SetTable):∀(m:Nat) (p:SetTable.Probe),(adv t m p).dummy=p.dummy
 | 0,p=>rfl
 | m+1,p=>by
  show(adv t m (t.advance p)).dummy=_;rw[zHw t m];unfold SetTable.advance;split <;> rfl
noncomputable def beg (t:SetTable) (x:Nat × Nat) (d:Option Nat):SetTable.Probe:={ j:=x.1,more:=SetTable.runEnd t.mask x.1-x.1,i:=x.1,perturb:=x.2,dummy:=d }
theorem zGp(t:SetTable):∀(c:Nat) (p:SetTable.Probe),p.more=c->adv t (c+1) p=beg t (SetTable.leap t.mask p.i p.perturb) p.dummy
 | 0,p,h=>by
  show t.advance p=_;unfold SetTable.advance;rw[xg (by nofun)];rfl
 | c+1,p,h=>by
  show adv t (c+1) (t.advance p)=_;have e:t.advance p={ p with j:=p.j+1,more:=p.more-1 }:=by unfold SetTable.advance;rw[xf (by nofun)]
  rw[e];exact zGp t c _ (by show p.more-1=c;lia)
theorem zWo(t:SetTable)(x:Nat × Nat)(d:Option Nat):∃c,1<=c/\c<=10/\adv t c (beg t x d)=beg t (SetTable.leap t.mask x.1 x.2) d:=by refine⟨SetTable.runEnd t.mask x.1-x.1+1,by nofun,?_,zGp t _ (beg t x d) rfl⟩;unfold SetTable.runEnd;split <;> lia
theorem zP0(t:SetTable)(d:Option Nat):∀(L:Nat) (x:Nat × Nat),∃c,c<=10*L/\adv t c (beg t x d)=beg t (orb t.mask L x) d
 | 0,x=>⟨0,by nofun,rfl⟩
 | L+1,x=>by
  obtain⟨c,_,h1,e1⟩:=zWo t x d;obtain⟨c',h2,e2⟩:=zP0 t d L (SetTable.leap t.mask x.1 x.2);refine⟨c+c',by nofun,?_⟩;rw[zCb,e1,e2];rfl
theorem zJ0(h:Int):SetTable.bits h<2 ^ 64:=by unfold SetTable.bits;have:=vB h (show(0:Int)<2 ^ 64 by decide);have:=vC h (show(2 ^ 64:Int)≠0 by decide);lia
theorem zLx{t:SetTable}{h:Int}{e:Nat}(hm:Msk t.mask)(he:e<=t.mask):∃c,c<10*SetTable.turns t.mask/\(adv t c (t.probeStart h)).j=e:=by obtain⟨L,hL,eL⟩:=zI4 hm (vv _ (by nofun)) (zJ0 h) (show e<t.mask+1 by nofun);obtain⟨c,hc,ec⟩:=zP0 t none L (SetTable.bits h % (t.mask+1),SetTable.bits h);refine⟨c,by unfold SetTable.turns;lia,?_⟩;have e0:t.probeStart h=beg t (SetTable.bits h % (t.mask+1),SetTable.bits h) none:=rfl;rw[e0,ec];exact eL
def Far(t:SetTable)(p:SetTable.Probe)(m:Nat):Prop:=t.slot (adv t m p).j=.empty/\p.dummy=none
theorem zCc{t:SetTable}(hd:t.dummies=#[])(j:Nat):t.slot j=(if t.place[SetTable.below t.place j]? == some j then .live (SetTable.below t.place j)else .empty):=by
 have e:SetTable.has t.dummies j=false:=by rw[hd];rfl
 unfold SetTable.slot;simp only[e];simp
theorem zDd{t:SetTable}(hd:t.dummies=#[]){j:Nat}:t.slot j=.empty <-> t.place[SetTable.below t.place j]?≠some j:=by
 rw[zCc hd];by_cases c:t.place[SetTable.below t.place j]?=some j
 ·simp[c]
 ·simp[c]
structure Tab (t:SetTable) (n:Nat) (led:Bool):Prop where
 hm:Msk t.mask
 size:t.place.size=n
 nod:t.dummies=#[]
 up:Up t.place.toList
 room:n*5<t.mask*3
 plain:t.plain=true
 led:t.led=led
theorem Tab.fill{t:SetTable}{n:Nat}(T:Tab t n b):t.fill=n:=by unfold SetTable.fill;rw[T.size,T.nod];rfl
theorem Tab.fits{t:SetTable}(T:Tab t n b):(t.place.size != n || decide (t.fill > t.mask))=false:=by have:=T.room;rw[T.fill,T.size];simp;lia
theorem Tab.way{t:SetTable}(T:Tab t n b):t.gaveWay=false:=by unfold SetTable.gaveWay;rcases T.hm with e|e|e|e|e <;> rw[e] <;> rfl
theorem Tab.start{t:SetTable}(T:Tab t n b)(h:Int):∃m,m<10*SetTable.turns t.mask/\Far t (t.probeStart h) m:=by
 have hn:t.place.toList.length<=t.mask:=by have:=T.room;have:=T.size;simp;lia
 obtain⟨e,he,hne⟩:=zWw T.up hn;obtain⟨c,hc,ec⟩:=zLx T.hm he;refine⟨c,hc,?_,rfl⟩;rw[ec,zDd T.nod];intro q;exact hne (by
  obtain⟨hz,e'⟩:=vN.mp q;rw[<- e'];simp)
theorem Tab.turns{t:SetTable}(T:Tab t n b):10*SetTable.turns t.mask<100000:=by rcases T.hm with e|e|e|e|e <;> rw[e] <;> decide
theorem zNo(b:Bool):Tab (SetTable.fresh 0 0 b) 0 b:=⟨.inl rfl,rfl,rfl,.nil,(show 0*5<7*3 by decide),rfl,rfl⟩
structure TabP (t:SetTable) (n:Nat) (led:Bool):Prop where
 hm:Msk t.mask
 size:t.place.size=n
 nod:t.dummies=#[]
 up:Up t.place.toList
 most:(n-1)*5<t.mask*3
 plain:t.plain=true
 led:t.led=led
theorem Tab.put{t:SetTable}{n j:Nat}(T:Tab t n b)(hj:t.slot j=.empty):TabP (t.put j).1 (n+1) b:=by
 have e:SetTable.has t.dummies j=false:=by rw[T.nod];rfl
 have e2:(t.put j).1={ t with place:=SetTable.insertAt t.place (SetTable.below t.place j) j }:=by unfold SetTable.put;simp[e]
 rw[e2];exact⟨T.hm,by show(SetTable.insertAt _ _ _).size=_;rw[zJy,T.size],T.nod,ins_up T.up ((zDd T.nod).mp hj),by show(n+1-1)*5<t.mask*3;have:=T.room;simpa using this,T.plain,T.led⟩
theorem TabP.fill{t:SetTable}{n:Nat}(T:TabP t n b):t.fill=n:=by unfold SetTable.fill;rw[T.size,T.nod];rfl
theorem TabP.tab{t:SetTable}(T:TabP t n b)(h:t.tooFull=false):Tab t n b:=by refine⟨T.hm,T.size,T.nod,T.up,?_,T.plain,T.led⟩;unfold SetTable.tooFull at h;rw[T.fill]at h;simpa using h
theorem TabP.fits{t:SetTable}(T:TabP t n b):(t.place.size != n || decide (t.fill > t.mask))=false:=by
 have h:=T.most;have hm:7<=t.mask:=by rcases T.hm with e|e|e|e|e <;> rw[e] <;> decide
 rw[T.fill,T.size];simp;lia
theorem zGb{m:Nat}{owner:Array (Option Nat)}{e:Nat}(ho:owner.getD e (some 0)=none):∀(L f:Nat) (x:Nat × Nat),L<f->(orb m L x).1=e->∃j,SetTable.layClean.free m owner f x.1 x.2=some j/\owner.getD j (some 0)=none
 | L,0,x,h,_=>by nofun
 | L,f+1,x,h,he=>by
  unfold SetTable.layClean.free;cases hf:(List.range (SetTable.runEnd m x.1+1-x.1)).find? λk=>(owner.getD (x.1+k) (some 0)).isNone with
  | some k=>
   have:=List.find?_some hf;exact⟨x.1+k,rfl,by simpa using this⟩
  | none=>
   cases L with
   | zero=>
    have hx:x.1=e:=he;have:=List.find?_eq_none.mp hf 0 (vx.mpr (by unfold SetTable.runEnd;split <;> lia));rw[Nat.add_zero,hx,ho]at this;exact absurd rfl this
   | succ L=>exact zGb ho L f (SetTable.leap m x.1 x.2) (by nofun) he
theorem zI5:∀(l:List (Option Nat)),(l.filterMap id).length<l.length->∃e,e<l.length/\l[e]?=some none
 | [],h=>by simp at h
 | none::l,_=>⟨0,by simp,rfl⟩
 | some v::l,h=>by
  obtain⟨e,h1,h2⟩:=zI5 l (by simpa using h);exact⟨e+1,by simp;lia,by simpa using h2⟩
theorem zFu:∀(l:List (Option Nat)) (j k:Nat),l[j]?=some none->((l.set j (some k)).filterMap id).Perm (k::l.filterMap id)
 | [],j,k,h=>by simp at h
 | x::l,0,k,h=>by
  have:x=none:=by simpa using h
  subst this;simp
 | x::l,j+1,k,h=>by
  have ih:=zFu l j k (by simpa using h);cases x with
  | none=>simpa using ih
  | some v=>
   simp only[List.set_cons_succ,uc,id];exact(List.Perm.cons v ih).trans (List.Perm.swap _ _ _)
def Laid(m:Nat)(acc:Option (Array (Option Nat) × Nat))(k:Nat):Prop:=∃owner,acc=some (owner,k)/\owner.size=m+1/\(owner.toList.filterMap id).Perm (List.range k)
theorem zN7{m k:Nat}(hm:Msk m)(hk:k<=m){owner:Array (Option Nat)}(hs:owner.size=m+1)(hp:(owner.toList.filterMap id).Perm (List.range k))(h:Int):
  ∃j,SetTable.layClean.free m owner (SetTable.turns m) (SetTable.bits h % (m+1)) (SetTable.bits h)=some j/\Laid m (some (owner.setIfInBounds j (some k),k+1)) (k+1):=by
 obtain⟨e,h1,h2⟩:=zI5 owner.toList (by rw[hp.length_eq,xY];simp[hs];lia);have h1':e<owner.size:=by simpa using h1
 have ho:owner.getD e (some 0)=none:=by
  have:owner[e]?=some none:=by simpa using h2
  simp[vI,this]
 obtain⟨L,hL,eL⟩:=zI4 hm (vv _ (by nofun)) (zJ0 h) (show e<m+1 by nofun);obtain⟨j,ej,hj⟩:=zGb ho L (SetTable.turns m) (SetTable.bits h % (m+1),SetTable.bits h) (by unfold SetTable.turns;lia) eL;refine⟨j,ej,_,rfl,by simpa using hs,?_⟩;have hj2:owner.toList[j]?=some none:=by
  rw[vI]at hj;cases hq:owner[j]? with
  | none=>rw[hq]at hj;cases hj
  | some v=>rw[hq]at hj;have:=hj;subst this;simpa using hq
 rw[Array.toList_setIfInBounds];refine(zFu _ j k hj2).trans ((List.Perm.cons k hp).trans ?_);rw[List.range_succ];exact(List.perm_append_singleton k (List.range k)).symm
theorem zJu{m:Nat}(hm:Msk m):∀(hs:List Int) (k:Nat) (acc:Option (Array (Option Nat) × Nat)),k+hs.length<=m+1->Laid m acc k->
  Laid m (hs.foldl (λacc h=>do
   let (owner,k) <- acc
   let j <- SetTable.layClean.free m owner (SetTable.turns m) (SetTable.bits h % (m+1)) (SetTable.bits h)
   pure (owner.setIfInBounds j (some k),k+1)) acc) (k+hs.length)
 | [],k,acc,_,L=>L
 | h::hs,k,acc,hl,⟨owner,ea,h1,h2⟩=>by
  subst ea;obtain⟨j,ej,L⟩:=zN7 hm (by simp at hl;lia) h1 h2 h;have:=zJu hm hs (k+1) _ (by simp at hl;lia) L;rw[um];have e2:(do
   let (owner,k) <- some (owner,k)
   let j <- SetTable.layClean.free m owner (SetTable.turns m) (SetTable.bits h % (m+1)) (SetTable.bits h)
   pure (owner.setIfInBounds j (some k),k+1))=some (owner.setIfInBounds j (some k),k+1):=by
   show(SetTable.layClean.free m owner (SetTable.turns m) (SetTable.bits h % (m+1)) (SetTable.bits h) >>= λj=>pure (owner.setIfInBounds j (some k),k+1))=_;rw[ej];rfl
  rw[e2,xD,show k+(hs.length+1)=k+1+hs.length by nofun];exact this
theorem zJt:∀(l:List (Option Nat)) (g:Nat->Nat),((List.range l.length).filterMap λj=>((l[j]?).getD none).map λv=>(g j,v)).map (·.2)=l.filterMap id
 | [],g=>rfl
 | x::l,g=>by
  have ih:=zJt l (λj=>g (j+1));rw[xD,List.range_succ_eq_map,uc];have e:((List.map Nat.succ (List.range l.length)).filterMap λj=>(((x::l)[j]?).getD none).map λv=>(g j,v))=(List.range l.length).filterMap λj=>((l[j]?).getD none).map λv=>(g (j+1),v):=by rw[List.filterMap_map];rfl
  cases x with
  | none=>simp only[vX,Option.getD_some,Option.map_none];rw[e,ih];rfl
  | some v=>simp only[vX,Option.getD_some,vO,xp];rw[e,ih];rfl
theorem zIa(f:Nat->Option Nat):∀(l:List Nat),Up l->Up ((l.filterMap λj=>(f j).map λv=>(j,v)).map (·.1))
 | [],_=>.nil
 | x::l,u=>by
  have ux:=vR.mp u;rw[uc];cases hx:f x with
  | none=>exact zIa f l ux.2
  | some v=>
   simp only[vO,xp];refine vR.mpr ⟨λy hy=>?_,zIa f l ux.2⟩;obtain⟨q,hq,rfl⟩:=xn.mp hy;obtain⟨z,hz,ez⟩:=uC.mp hq;cases hf:f z with
   | none=>rw[hf]at ez;cases ez
   | some w=>rw[hf]at ez;cases ez;exact ux.1 _ hz
theorem zUx{m:Nat}(hm:Msk m){hs:Array Int}(hl:hs.size<=m)(hr:hs.size*5<m*3)(fing moves:Nat)(led:Bool):∃t order,SetTable.laid m fing moves led true hs=some (t,order)/\Tab t hs.size led/\order.toList.Perm (List.range hs.size):=by
 obtain⟨owner,e,h1,h2⟩:=zJu hm hs.toList 0 (some (Array.replicate (m+1) none,0)) (by simp;lia) ⟨_,rfl,by simp,by simp⟩;have ec:SetTable.layClean m hs=some owner:=by unfold SetTable.layClean;rw[<- Array.foldl_toList,e];rfl
 have es:=zJt owner.toList id;have eg:∀j,(owner.getD j none).map (j,·)=((owner.toList[j]?).getD none).map λv=>(id j,v):=λj=>by
  rw[vI];simp
 refine⟨_,_,by unfold SetTable.laid;rw[ec];rfl,⟨hm,?_,rfl,?_,hr,rfl,rfl⟩,?_⟩
 ·show(List.map _ _).toArray.size=_;rw[xu,xl,<- xl];rw[<- h1] ;rw[show owner.size=owner.toList.length by simp];simp only[eg];rw[es,h2.length_eq];simp
 ·show Up (List.map _ _).toArray.toList;exact zIa _ _ (List.pairwise_lt_range)
 ·show(List.map _ _).toArray.toList.Perm _;rw[<- h1,show owner.size=owner.toList.length by simp];simp only[eg];rw[List.toList_toArray,es];simpa using h2
theorem zDc{t t':SetTable}(h:t.mask=t'.mask):∀(m:Nat) (p:SetTable.Probe),adv t m p=adv t' m p
 | 0,_=>rfl
 | m+1,p=>by
  show adv t m (t.advance p)=adv t' m (t'.advance p);have e:t.advance p=t'.advance p:=by unfold SetTable.advance;rw[h]
  rw[e];exact zDc h m _
theorem zCh{t t':SetTable}(h:t.mask=t'.mask)(x:Int):t.probeStart x=t'.probeStart x:=by unfold SetTable.probeStart;rw[h]
theorem zQe{xs:Array Nat}{j:Nat}(u:Up xs.toList):xs[SetTable.below xs j]?=some j <-> j∈xs.toList:=by
 constructor
 ·intro h;obtain⟨z,e⟩:=vN.mp h;rw[<- e];simp
 ·intro h;obtain⟨i,hi,e⟩:=uk.mp h;have hi':i<xs.size:=by simpa using hi
  have e':xs[i]=j:=by simpa using e
  obtain⟨a,b,c⟩:=zGm j u;have h1:¬ i<SetTable.below xs j:=λq=>by have:=b i hi' q;lia
  have h2:¬ SetTable.below xs j<i:=λq=>by
   have h3:=c _ (by nofun) (xk _);have:=zF8 u q (by simpa using hi');have:xs[SetTable.below xs j]'(by nofun)<xs[i]:=by simpa using this
   lia
  have h3:SetTable.below xs j=i:=by nofun
  rw[h3,vt hi',e']
theorem zH8{t:SetTable}(T:Tab t n b)(j:Nat):t.slot j=.empty <-> j ∉ t.place.toList:=by rw[zDd T.nod,ne_eq,zQe T.up]
def Chn(t:SetTable)(h:Int)(j:Nat):Prop:=∃m,(adv t m (t.probeStart h)).j=j/\∀m',m'<m->(adv t m' (t.probeStart h)).j∈t.place.toList
def Chs(t:SetTable)(hs:List Int):Prop:=∀q∈t.place.toList.zip hs,Chn t q.2 q.1
theorem Chn.grow{t t':SetTable}{h:Int}(c:Chn t h j)(hm:t.mask=t'.mask)(hp:∀j∈t.place.toList,j∈t'.place.toList):Chn t' h j:=by obtain⟨m,e,al⟩:=c;refine⟨m,by rw[<- zCh hm,<- zDc hm];exact e,λm' hm'=>?_⟩;rw[<- zCh hm,<- zDc hm];exact hp _ (al m' hm')
theorem zLm{α β:Type}:∀(p:Nat) (a:List α) (b:List β) (x:α) (y:β),a.length=b.length->∀q∈(a.take p++x::a.drop p).zip (b.take p++y::b.drop p),q=(x,y)\/q∈a.zip b
 | 0,a,b,x,y,h,q,hq=>by
  simp only[List.take_zero,List.nil_append,List.drop_zero,uo]at hq;exact xo.mp hq
 | p+1,[],[],x,y,h,q,hq=>by
  simp at hq;exact .inl hq
 | p+1,c::a,d::b,x,y,h,q,hq=>by
  simp only[List.take_succ_cons,List.drop_succ_cons,uq,uo]at hq;rcases xo.mp hq with rfl|hq
  ·exact .inr (xS)
  ·rcases zLm p a b x y (by simpa using h) q hq with z|z
   ·exact .inl z
   ·exact .inr (vf _ z)
 | p+1,[],_::_,x,y,h,q,hq=>by simp at h
 | p+1,_::_,[],x,y,h,q,hq=>by simp at h
theorem zTh{t:SetTable}{n j M:Nat}{hs:List Int}{h:Int}(T:Tab t n b)(hn:hs.length=n)(C:Chs t hs)(hj:t.slot j=.empty)(hM:(adv t M (t.probeStart h)).j=j)(al:∀m',m'<M->(adv t m' (t.probeStart h)).j∈t.place.toList):
  Chs (t.put j).1 (hs.take (t.put j).2++h::hs.drop (t.put j).2)/\(t.put j).2=SetTable.below t.place j:=by
 have e:SetTable.has t.dummies j=false:=by rw[T.nod];rfl
 have e2:t.put j=({ t with place:=SetTable.insertAt t.place (SetTable.below t.place j) j },SetTable.below t.place j):=by unfold SetTable.put;simp[e]
 rw[e2];have pl:({ t with place:=SetTable.insertAt t.place (SetTable.below t.place j) j }:SetTable).place.toList=t.place.toList.take (SetTable.below t.place j)++j::t.place.toList.drop (SetTable.below t.place j):=zE6 _ _ _;have sub:∀i∈t.place.toList,i∈({ t with place:=SetTable.insertAt t.place (SetTable.below t.place j) j }:SetTable).place.toList:=λi hi=>(ins_perm t.place _ j).mem_iff.mpr (vf _ hi)
 refine⟨λq hq=>?_,rfl⟩;rw[pl]at hq;rcases zLm _ _ _ _ _ (by simp[T.size,hn]) q hq with rfl|z
 ·exact Chn.grow ⟨M,hM,al⟩ rfl sub
 ·exact(C q z).grow rfl sub
theorem zKl(t:SetTable):∀(c:Nat) (p:SetTable.Probe),c<=p.more->(adv t c p).j=p.j+c
 | 0,p,_=>rfl
 | c+1,p,h=>by
  show(adv t c (t.advance p)).j=_;have e:t.advance p={ p with j:=p.j+1,more:=p.more-1 }:=by unfold SetTable.advance;rw[xf (by nofun)]
  rw[e,zKl t c _ (by show c<=p.more-1;lia)];show p.j+1+c=p.j+(c+1);lia
theorem zK3{t:SetTable}{owner:Array (Option Nat)}:∀(f:Nat) (x:Nat × Nat) (j:Nat),SetTable.layClean.free t.mask owner f x.1 x.2=some j->
  ∃m,(adv t m (beg t x none)).j=j/\∀m',m'<m->owner.getD (adv t m' (beg t x none)).j (some 0)≠none
 | 0,x,j,h=>by cases h
 | f+1,x,j,h=>by
  unfold SetTable.layClean.free at h;have rl:SetTable.runEnd t.mask x.1+1-x.1=(beg t x none).more+1:=by show _=SetTable.runEnd t.mask x.1-x.1+1;unfold SetTable.runEnd;split <;> lia
  rw[rl]at h;cases hf:(List.range ((beg t x none).more+1)).find? λk=>(owner.getD (x.1+k) (some 0)).isNone with
  | some k=>
   rw[hf]at h;have ej:=xM h;obtain⟨h1,h2,h3⟩:=List.find?_range_eq_some.mp hf;have hk:=vx.mp h2;refine⟨k,by rw[zKl t k _ (by nofun)];exact ej,λm' hm'=>?_⟩;rw[zKl t m' _ (by nofun)];have:=h3 m' hm';intro z;have z':owner.getD (x.1+m') (some 0)=none:=z;rw[z']at this;simp at this
  | none=>
   rw[hf]at h;obtain⟨m,e,al⟩:=zK3 f (SetTable.leap t.mask x.1 x.2) j h;refine⟨(beg t x none).more+1+m,by rw[zCb,zGp t _ _ rfl];exact e,λm' hm'=>?_⟩;rcases vz m' ((beg t x none).more+1)with z|z
   ·rw[zKl t m' _ (by nofun)];have:=List.find?_eq_none.mp hf m' (vx.mpr z);intro w;have w':owner.getD (x.1+m') (some 0)=none:=w;rw[w']at this;simp at this
   ·obtain⟨c,rfl⟩:∃c,m'=(beg t x none).more+1+c:=⟨m' - ((beg t x none).more+1),by nofun⟩
    rw[zCb,zGp t _ _ rfl];exact al c (by nofun)
theorem zRs(m i:Nat)(h:i<=m):SetTable.runEnd m i<=m:=by unfold SetTable.runEnd;split <;> lia
theorem zRt(m i:Nat):i<=SetTable.runEnd m i:=by unfold SetTable.runEnd;split <;> lia
theorem zSl(t:SetTable):∀(m:Nat) (p:SetTable.Probe),p.j+p.more<=t.mask->(adv t m p).j<=t.mask
 | 0,p,h=>by show p.j<=_;lia
 | m+1,p,h=>by
  refine zSl t m (t.advance p) ?_;unfold SetTable.advance;by_cases c:p.more > 0
  ·rw[xf c];show p.j+1+(p.more-1)<=_;lia
  ·rw[xg c];have:(p.i*5+1+p.perturb / 32) % (t.mask+1)<t.mask+1:=vv _ (by nofun);show(p.i*5+1+p.perturb / 32) % (t.mask+1)+(SetTable.runEnd t.mask ((p.i*5+1+p.perturb / 32) % (t.mask+1))-(p.i*5+1+p.perturb / 32) % (t.mask+1))<=t.mask;have a:=zRs t.mask ((p.i*5+1+p.perturb / 32) % (t.mask+1)) (by nofun);have b:=zRt t.mask ((p.i*5+1+p.perturb / 32) % (t.mask+1));lia
theorem zP9(t:SetTable)(h:Int)(m:Nat):(adv t m (t.probeStart h)).j<=t.mask:=by refine zSl t m _ ?_;have:SetTable.bits h % (t.mask+1)<t.mask+1:=vv _ (by nofun);show SetTable.bits h % (t.mask+1)+(SetTable.runEnd t.mask (SetTable.bits h % (t.mask+1))-SetTable.bits h % (t.mask+1))<=t.mask;have a:=zRs t.mask (SetTable.bits h % (t.mask+1)) (by nofun);have b:=zRt t.mask (SetTable.bits h % (t.mask+1));lia
def OwnC(t:SetTable)(hs:List Int)(owner:Array (Option Nat)):Prop:=∀j v,owner[j]?=some (some v)->∃m,(adv t m (t.probeStart (hs.getD v 0))).j=j/\∀m',m'<m->owner.getD (adv t m' (t.probeStart (hs.getD v 0))).j (some 0)≠none
def zWp(t:SetTable)(hs:List Int)(acc:Option (Array (Option Nat) × Nat))(k:Nat):Prop:=∃owner,acc=some (owner,k)/\owner.size=t.mask+1/\(owner.toList.filterMap id).Perm (List.range k)/\OwnC t hs owner
theorem zKu{t:SetTable}{hs:List Int}{k:Nat}(hm:Msk t.mask)(hk:k<=t.mask){owner:Array (Option Nat)}(hz:owner.size=t.mask+1)(hp:(owner.toList.filterMap id).Perm (List.range k))(C:OwnC t hs owner){h:Int}(eh:hs.getD k 0=h):
  ∃j,SetTable.layClean.free t.mask owner (SetTable.turns t.mask) (SetTable.bits h % (t.mask+1)) (SetTable.bits h)=some j/\zWp t hs (some (owner.setIfInBounds j (some k),k+1)) (k+1):=by
 obtain⟨e,h1,h2⟩:=zI5 owner.toList (by rw[hp.length_eq,xY];simp[hz];lia);have h1':e<owner.size:=by simpa using h1
 have ho:owner.getD e (some 0)=none:=by
  have:owner[e]?=some none:=by simpa using h2
  simp[vI,this]
 obtain⟨L,hL,eL⟩:=zI4 hm (vv _ (by nofun)) (zJ0 h) (show e<t.mask+1 by nofun);obtain⟨j,ej,hj⟩:=zGb ho L (SetTable.turns t.mask) (SetTable.bits h % (t.mask+1),SetTable.bits h) (by unfold SetTable.turns;lia) eL;have hj1:owner[j]?=some none:=by
  rw[vI]at hj;cases hq:owner[j]? with
  | none=>rw[hq]at hj;cases hj
  | some v=>rw[hq]at hj;have:=hj;subst this;rfl
 have hj2:owner.toList[j]?=some none:=by simpa using hj1
 have hjz:=(vN.mp hj1).1;have gd:∀i,owner.getD i (some 0)≠none->(owner.setIfInBounds j (some k)).getD i (some 0)≠none:=λi hi=>by
  rw[vI]at hi ⊢;rw[Array.getElem?_setIfInBounds];by_cases c:j=i
  ·rw[xf c];split <;> simp
  ·rw[xg c];exact hi
 refine⟨j,ej,_,rfl,by simpa using hz,?_,λi v hv=>?_⟩
 ·rw[Array.toList_setIfInBounds];refine(zFu _ j k hj2).trans ((List.Perm.cons k hp).trans ?_);rw[List.range_succ];exact(List.perm_append_singleton k (List.range k)).symm
 ·rw[Array.getElem?_setIfInBounds]at hv;by_cases c:j=i
  ·rw[xf c,xf hjz]at hv;have ev:k=v:=by simpa using hv
   subst ev c;obtain⟨m,em,al⟩:=zK3 _ (SetTable.bits h % (t.mask+1),SetTable.bits h) j ej;rw[eh];exact⟨m,em,λm' hm'=>gd _ (al m' hm')⟩
  ·rw[xg c]at hv;obtain⟨m,em,al⟩:=C i v hv;exact⟨m,em,λm' hm'=>gd _ (al m' hm')⟩
theorem zH3{t:SetTable}(hm:Msk t.mask)(hs0:List Int):∀(hs:List Int) (k:Nat) (acc:Option (Array (Option Nat) × Nat)),k+hs.length<=t.mask+1->(∀i,hs.getD i 0=hs0.getD (k+i) 0)->zWp t hs0 acc k->
  zWp t hs0 (hs.foldl (λacc h=>do
   let (owner,k) <- acc
   let j <- SetTable.layClean.free t.mask owner (SetTable.turns t.mask) (SetTable.bits h % (t.mask+1)) (SetTable.bits h)
   pure (owner.setIfInBounds j (some k),k+1)) acc) (k+hs.length)
 | [],k,acc,_,_,L=>L
 | h::hs,k,acc,hl,he,⟨owner,ea,h1,h2,h3⟩=>by
  subst ea;obtain⟨j,ej,L⟩:=zKu hm (by simp at hl;lia) h1 h2 h3 (by have:=he 0;simpa using this.symm);have:=zH3 hm hs0 hs (k+1) _ (by simp at hl;lia) (λi=>by have:=he (i+1);rw[show k+1+i=k+(i+1) by nofun];simpa using this) L;rw[um];have e2:(do
   let (owner,k) <- some (owner,k)
   let j <- SetTable.layClean.free t.mask owner (SetTable.turns t.mask) (SetTable.bits h % (t.mask+1)) (SetTable.bits h)
   pure (owner.setIfInBounds j (some k),k+1))=some (owner.setIfInBounds j (some k),k+1):=by
   show(SetTable.layClean.free t.mask owner (SetTable.turns t.mask) (SetTable.bits h % (t.mask+1)) (SetTable.bits h) >>= λj=>pure (owner.setIfInBounds j (some k),k+1))=_;rw[ej];rfl
  rw[e2,xD,show k+(hs.length+1)=k+1+hs.length by nofun];exact this
theorem zQl{m:Nat}(hm:Msk m){hs:Array Int}(hl:hs.size<=m)(hr:hs.size*5<m*3)(fing moves:Nat)(led:Bool):∃t order,SetTable.laid m fing moves led true hs=some (t,order)/\Tab t hs.size led/\order.toList.Perm (List.range hs.size)/\Chs t (order.toList.map λk=>hs.toList.getD k 0):=by
 let t0:SetTable:={ mask:=m,place:=#[],dummies:=#[],finger:=fing,led:=led,moves:=moves,plain:=true }
 obtain⟨owner,e,h1,h2,h3⟩:=zH3 (t:=t0) hm hs.toList hs.toList 0 (some (Array.replicate (m+1) none,0)) (by show 0+hs.toList.length<=m+1;simp;lia) (λi=>by rw[vd]) ⟨_,rfl,by show _=m+1;simp,by show((Array.replicate (m+1) (none:Option Nat)).toList.filterMap id).Perm (List.range 0);simp,λj v hv=>by rw[Array.getElem?_replicate]at hv;split at hv <;> cases hv⟩;have h1:=h1;have ec:SetTable.layClean m hs=some owner:=by
  unfold SetTable.layClean;rw[<- Array.foldl_toList];have e':(hs.toList.foldl (λacc h=>do
   let (owner,k) <- acc
   let j <- SetTable.layClean.free m owner (SetTable.turns m) (SetTable.bits h % (m+1)) (SetTable.bits h)
   pure (owner.setIfInBounds j (some k),k+1)) (some (Array.replicate (m+1) none,0)))=some (owner,0+hs.toList.length):=e
  rw[e'];rfl
 obtain⟨t,order,a,T,p⟩:=zUx hm hl hr fing moves led;refine⟨t,order,a,T,p,?_⟩;unfold SetTable.laid at a;rw[ec]at a;have a':=xM a;obtain⟨e1,e2⟩:=Prod.mk.inj a';have mem:∀j,j<=m->owner.getD j (some 0)≠none->j∈t.place.toList:=λj hj hn=>by
  rw[<- e1];show j∈(List.map (λr:Nat × Nat=>r.1) _).toArray.toList;have hz:j<owner.size:=by nofun
  have hg:=vt hz;rw[vI,hg]at hn;cases hv:owner[j]with
  | none=>rw[hv]at hn;exact absurd rfl hn
  | some v=>exact xn.mpr ⟨(j,v),uC.mpr ⟨j,vx.mpr (by nofun),by rw[vI,hg,hv];rfl⟩,rfl⟩
 have tm:t.mask=t0.mask:=by rw[<- e1]
 intro q hq;have zq:∃r∈((List.range (m+1)).filterMap λj=>(owner.getD j none).map (j,·)),q=(r.1,hs.toList.getD r.2 0):=by
  rw[<- e1,<- e2]at hq;simp only[xC]at hq;generalize ((List.range (m+1)).filterMap λj=>(owner.getD j none).map (j,·))=live at hq
  clear a a' e1 e2 T p mem
  induction live with
  | nil=>simp at hq
  | cons r live ih=>
   simp only[xp,uo]at hq;rcases xo.mp hq with rfl|hq
   ·exact⟨r,.head _,rfl⟩
   ·obtain⟨r',hr',e'⟩:=ih hq;exact⟨r',.tail _ hr',e'⟩
 obtain⟨⟨j,v⟩,hr,rfl⟩:=zq;obtain⟨j',hj',ej⟩:=uC.mp hr;have hov:owner[j']?=some (some v)/\j'=j:=by
  rw[vI]at ej;cases ho:owner[j']? with
  | none=>rw[ho]at ej;cases ej
  | some w=>
   rw[ho]at ej;cases w with
   | none=>cases ej
   | some u=>cases ej;exact⟨rfl,rfl⟩
 obtain⟨hov,rfl⟩:=hov;obtain⟨mm,em,al⟩:=h3 j' v hov;refine⟨mm,by rw[zCh tm,zDc tm];exact em,λm' hm'=>?_⟩;rw[zCh tm,zDc tm];exact mem _ (zP9 t0 _ m') (al m' hm')
theorem zFb{t:SetTable}{hashAt:Nat->Int}{h:Int}(hd:t.dummies=#[]):∀(f m:Nat) (p:SetTable.Probe),m<f->Far t p m->
  (∃d,d<=m/\SetTable.probe.go t hashAt h f p=some (.empty (adv t d p).j none)/\t.slot (adv t d p).j=.empty/\∀d',d'<d->∃i,t.slot (adv t d' p).j=.live i/\(hashAt i == h)=false) \/
  (∃d i,d<m/\SetTable.probe.go t hashAt h f p=some (.candidate (adv t d p).j i (adv t (d+1) p))/\t.slot (adv t d p).j=.live i/\(∀d',d'<d->∃i,t.slot (adv t d' p).j=.live i/\(hashAt i == h)=false)/\Far t (adv t (d+1) p) (m-(d+1)))
 | 0,m,p,hf,_=>by nofun
 | f+1,m,p,hf,⟨hm,hp⟩=>by
  unfold SetTable.probe.go;have nd:=zCc hd p.j;cases hs:t.slot p.j with
  | empty=>exact .inl ⟨0,xT _,by rw[hp];rfl,hs,λd' h=>by nofun⟩
  | dummy=>rw[hs]at nd;split at nd <;> cases nd
  | live i=>
   obtain⟨m',rfl⟩:∃m',m=m'+1:=by
    cases m with
    | zero=>
     have:t.slot p.j=.empty:=hm;rw[hs]at this;cases this
    | succ k=>exact⟨k,rfl⟩
   have fr:Far t (t.advance p) m':=⟨hm,(zHw t 1 p).trans hp⟩;dsimp only;by_cases c:(hashAt i == h)=true
   ·rw[xf c];exact .inr ⟨0,i,by nofun,rfl,hs,λd' h=>by nofun,by rw[show m'+1-(0+1)=m' by nofun];exact fr⟩
   ·rw[xg c];have c':(hashAt i == h)=false:=by simpa using c
    rcases zFb hd f m' _ (by nofun) fr with⟨d,h1,h2,h3,h4⟩|⟨d,i',h1,h2,h3,h4,h5⟩
    ·refine .inl ⟨d+1,by nofun,h2,h3,λd' hd'=>?_⟩;cases d' with
     | zero=>exact⟨i,hs,c'⟩
     | succ d'=>exact h4 d' (by nofun)
    ·refine .inr ⟨d+1,i',by nofun,h2,h3,λd' hd'=>?_,by rw[show m'+1-(d+1+1)=m' - (d+1) by nofun];exact h5⟩;cases d' with
     | zero=>exact⟨i,hs,c'⟩
     | succ d'=>exact h4 d' (by nofun)
theorem zIb{t:SetTable}{j i:Nat}(T:Tab t n b)(h:t.slot j=.live i):t.place[i]?=some j:=by
 rw[zCc T.nod]at h;split at h
 ·rename_i c;cases h;exact eq_of_beq c
 ·cases h
theorem zUp{t:SetTable}{j i:Nat}(T:Tab t n b)(h:t.slot j=.live i):j∈t.place.toList:=by obtain⟨z,e⟩:=vN.mp (zIb T h);rw[<- e];simp
theorem zWv{l:List Nat}(u:Up l){i j:Nat}(hi:i<l.length)(hj:j<l.length)(e:l[i]=l[j]):i=j:=by
 rcases Nat.lt_trichotomy i j with z|z|z
 ·have:=zF8 u z hj;lia
 ·exact z
 ·have:=zF8 u z hi;lia
theorem zM8{t:SetTable}{n:Nat}(T:TabP t n b)(hf:t.tooFull=true)(hn:n<=1200)(hs:Array Int)(hz:hs.size=n):
  (decide (SetTable.sizeAbove (SetTable.grown n) > sizeLine)=false)/\∃t' order,t.relaid hs (SetTable.grown n)=some (t',order)/\Tab t' n b/\order.toList.Perm (List.range n)/\Chs t' (order.toList.map λk=>hs.toList.getD k 0):=by
 have h1:=T.most;unfold SetTable.tooFull at hf;rw[T.fill]at hf;have hf:t.mask*3<=n*5:=by simpa using hf
 have c:n=5\/n=19\/n=77\/n=307:=by rcases T.hm with e|e|e|e|e <;> rw[e]at h1 hf <;> lia
 have key:∀M,Msk M->SetTable.sizeAbove (SetTable.grown n)=M+1->n<=M->n*5<M*3->∃t' order,t.relaid hs (SetTable.grown n)=some (t',order)/\Tab t' n b/\order.toList.Perm (List.range n)/\Chs t' (order.toList.map λk=>hs.toList.getD k 0):=λM hM e1 e2 e3=>by
  obtain⟨t',order,a,T',p,C⟩:=zQl hM (hs:=hs) (by nofun) (by nofun) t.finger (t.movedTo M) b;rw[hz]at T' p;refine⟨t',order,?_,T',p,C⟩;unfold SetTable.relaid;rw[e1,T.plain,T.led];exact a
 rcases c with rfl|rfl|rfl|rfl
 ·exact⟨by decide +kernel,key 31 (by simp[Msk]) (by decide +kernel) (by decide) (by decide)⟩
 ·exact⟨by decide +kernel,key 127 (by simp[Msk]) (by decide +kernel) (by decide) (by decide)⟩
 ·exact⟨by decide +kernel,key 511 (by simp[Msk]) (by decide +kernel) (by decide) (by decide)⟩
 ·exact⟨by decide +kernel,key 2047 (by simp[Msk]) (by decide +kernel) (by decide) (by decide)⟩
end TB
namespace TS
open PySem TB
noncomputable abbrev sObj (es:Array (Int × Value)) (ep:Nat) (t:SetTable):Obj:={ cls:=.type "set",dict:=none,data:=.set es ep t,slots:=#[] }
theorem Tab.ft{t:SetTable}{n:Nat}(T:Tab t n b):t.fits n=true:=by have:=T.fits;unfold SetTable.fits;simp at this ⊢;exact⟨this.1,this.2⟩
theorem TabP.ft{t:SetTable}{n:Nat}(T:TabP t n b):t.fits n=true:=by have:=T.fits;unfold SetTable.fits;simp at this ⊢;exact⟨this.1,this.2⟩
section
variable {prog:Program}{w:World}{A:Around}{E:Value->Shared->Prop}{s:Shared}
theorem gate{α:Type}[Decidable c]{U R:Sem α}{Q:α->Shared->Prop}(hm:∀Q':Bool->Shared->Prop,Q' false s->wpAny M A m Q' E s)(hR:wpAny M A R Q E s):
  wpAny M A (if c then m >>= λb=>if b=true then U else R else R) Q E s:=by
 by_cases h:c
 ·rw[xf h];exact xc (hm _ (by rw[xg (by decide)];exact hR))
 ·rw[xg h];exact hR
noncomputable def adr:Value->Addr
 | .ref a=>a
 | _=>0
end
noncomputable abbrev zF3 (w:World):Bool:=!(w.params.followText "set-order")
section
variable {prog:Program}{w:World}{A:Around}{E:Value->Shared->Prop}{s:Shared}
noncomputable abbrev nObj (w:World):Obj:=sObj #[] 0 (.fresh 0 0 (zF3 w))
theorem zJg(a:Value){Q₁:Value->Shared->Prop}(h:Q₁ (.ref s.heap.objs.size) { s with heap:=s.heap.push (nObj w) }):
  codeAny (model prog w) A (.call (.builtin "set.__new__") ⟨[.type "set",a],[]⟩) (wants Q₁ E) s:=by
 refine codeAny_of_tree (?_);refine xc (ur (F.newCall_set_1 a) (xh ⟨plainId_quiet F.plain_set_new _,uS F.entry_set_new ?_⟩));rw[Around.under_plainId F.plain_set_new _];unfold Builtin.«set.__new__» Builtin.Frozenset.newClass;have hsub:=sub_set_self;obtain⟨hp,g,d,tk,os⟩:=s;dsimp only;wp_walk;refine ya (xh ?_);dsimp only;simp only[newObj];exact xc (wpAny_alloc (xh (xh h)))
end
theorem si_next:Slot "set_iterator" "__next__" "set_iterator.__next__":=
 .of (owner:="set_iterator") (n:="__next__") (by rw[typeLookup_type,builtinLookup_eq_fast];kernel_rfl) (by decide +kernel) (by decide +kernel) (by decide +kernel) (by first|exact .inl (by decide +kernel)|exact .inr (by decide +kernel)) (by rw[isSubtype_type];kernel_rfl)
theorem zJf:entryFor table "set_iterator.__next__"=some Builtin.«set_iterator.__next__»:=entryFor_of_tree (by kernel_rfl)
theorem zM2(a:Value):argsOk "set_iterator.__next__" ⟨[a],[]⟩:=by unfold argsOk;kernel_rfl
theorem zM0:Slot "set_iterator" "__iter__" "set_iterator.__iter__":=
 .of (owner:="set_iterator") (n:="__iter__") (by rw[typeLookup_type,builtinLookup_eq_fast];kernel_rfl) (by decide +kernel) (by decide +kernel) (by decide +kernel) (by first|exact .inl (by decide +kernel)|exact .inr (by decide +kernel)) (by rw[isSubtype_type];kernel_rfl)
theorem zM1:entryFor table "set_iterator.__iter__"=some Builtin.«dict_keyiterator.__iter__»:=entryFor_alias (id':="dict_keyiterator.__iter__") (by kernel_rfl) rfl (by decide +kernel) (by kernel_rfl)
theorem zPe(a:Value):argsOk "set_iterator.__iter__" ⟨[a],[]⟩:=by unfold argsOk;kernel_rfl
theorem yAu:entryFor table "set.__iter__"=some Builtin.«frozenset.__iter__»:=entryFor_alias (id':="frozenset.__iter__") (by kernel_rfl) rfl (by decide +kernel) (by kernel_rfl)
theorem zFj{α:Type}:∀(l:List α) (i:Nat) (h:i<l.length),(l[i]::l.eraseIdx i).Perm l
 | [],i,h=>by simp at h
 | x::l,0,h=>by simp
 | x::l,i+1,h=>by
  simp only[List.getElem_cons_succ,List.eraseIdx_cons_succ];exact(List.Perm.swap _ _ _).trans (List.Perm.cons x (zFj l i (by simpa using h)))
theorem zMh{α:Type}(next:Nat->Nat):∀(f k:Nat) (left:List α) (out:Array α),left.length=f->∃l,(pickOrder.go next f k left out).toList=out.toList++l/\l.Perm left
 | 0,k,left,out,h=>⟨[],by simp[pickOrder.go],by rw[List.length_eq_zero_iff.mp h]⟩
 | f+1,k,left,out,h=>by
  have hl:next k % left.length<left.length:=vv _ (by nofun);unfold pickOrder.go;rw[xF hl];dsimp only;obtain⟨l,e,p⟩:=zMh next f (k+1) (left.eraseIdx (next k % left.length)) (out.push left[next k % left.length]) (by rw[List.length_eraseIdx];simp[hl];lia);refine⟨left[next k % left.length]::l,by rw[e];simp,(List.Perm.cons _ p).trans ?_⟩;exact zFj left _ hl
theorem zMg{α:Type}(next:Nat->Nat)(xs:Array α):(pickOrder next xs).toList.Perm xs.toList:=by obtain⟨l,e,p⟩:=zMh next xs.size 0 xs.toList #[] (by simp);unfold pickOrder;rw[e];simpa using p
noncomputable def ordW (w:World) (S:Addr) (ep:Nat) (es:Array (Int × Value)):Array (Int × Value):=if w.params.followText "set-order"=true then pickOrder (w.params.setOrder S ep) es else es
theorem zD0(w:World)(S:Addr)(ep:Nat)(es:Array (Int × Value)):(ordW w S ep es).toList.Perm es.toList:=by
 unfold ordW;split
 ·exact zMg _ _
 ·exact .refl _
theorem zBy(w:World)(S:Addr)(ep:Nat)(es:Array (Int × Value)):(ordW w S ep es).size=es.size:=by simpa using(zD0 w S ep es).length_eq
noncomputable def zEg (w:World) (t:SetTable) (i:Nat):Nat:=if w.params.followText "set-order"=true then 0 else TB.slotAt t.place i
section
variable {prog:Program}{w:World}{A:Around}{E:Value->Shared->Prop}{s:Shared}
def IsSI(w:World)(h:Heap)(I S:Addr)(i n ep:Nat)(t:SetTable):Prop:=∃o,h.get? I=some o/\o.cls=.type "set_iterator"/\o.data=.fields #[.int (zEg w t i) 0,.int i 0,.ref S,.int n 0,.int ep 0]
theorem IsSI.typeIs(x:IsSI w s.heap I S i n ep t):s.TypeIs (.ref I) "set_iterator":=let ⟨o,ho,hc,_⟩:=x;⟨o,ho,hc⟩
theorem walk_of{es:Array (Int × Value)}(ho:s.heap.get? S=some (sObj es ep t))(T:Tab t es.size (!(w.params.followText "set-order")))(i:Nat)(hi:i<=es.size){Q:Option (Value × Nat)->Shared->Prop}
  (h:Q (((ordW w S ep es)[i]?).map λe=>(e.2,zEg w t (i+1))) s):wpAny (model prog w) A (setNext S (zEg w t i) i ep) Q E s:=by
 unfold setNext;refine xc (vY ho rfl (Tab.ft T) ?_);dsimp only;unfold setsByText;refine xc (xc (ya (xh ?_)));show wpAny _ _ (if(w.params.followText "set-order")=true then _ else _) _ _ _;by_cases c:w.params.followText "set-order"=true
 ·rw[xf c];rw[xg (by simp)];refine xc ?_;unfold setWalk;refine xc (vY ho rfl (Tab.ft T) ?_);dsimp only;unfold setsByText;refine xc (xc (ya (xh ?_)));show wpAny _ _ (if(w.params.followText "set-order")=true then _ else _) _ _ _;rw[xf c];refine xc (ya (xh (xh ?_)));unfold ordW zEg at h;rw[xf c,xf c]at h;unfold zEg;rw[xf c];exact h
 ·rw[xg c];have hl:t.led=true:=by rw[T.led];simpa using c
  have e1:(!t.plain && decide (es.size > 1))=false:=by rw[T.plain];rfl
  show wpAny _ _ (if(!t.plain && decide (es.size > 1))=true then _ else _) _ _ _;rw[e1];rw[xg (by decide)];show wpAny _ _ ((if(!t.led && !es.isEmpty)=true then _ else pure ()) >>= _) _ _ _;rw[hl];rw[xg (by simp)];refine xc (xh ?_);unfold ordW zEg at h;rw[xg c,xg c]at h;unfold zEg;rw[xg c,zHs T.up (by rw[T.size];exact hi)];refine xh ?_;rcases vz i es.size with z|z
  ·have z2:i<t.place.size:=by rw[T.size];exact z
   rw[vt z,vt z2];rw[vt z]at h;have:TB.slotAt t.place (i+1)=t.place[i]+1:=by unfold TB.slotAt;simp[Array.getD,z2]
   rw[this]at h;exact h
  ·rw[yb z];rw[yb z]at h;exact h
theorem zT3{es:Array (Int × Value)}{e:Int × Value}{Q:Option Value->Shared->Prop}(hit:IsSI w s.heap I S i es.size ep t)(ho:s.heap.get? S=some (sObj es ep t))(T:Tab t es.size (!(w.params.followText "set-order")))(hne:S≠I)
  (hx:(ordW w S ep es)[i]?=some e) (hQ:∀h',IsSI w h' I S (i+1) es.size ep t->Heap.SameBut I s.heap h'->Q (some e.2) { s with heap:=h' }):wpAny (model prog w) A (pyNext (.ref I)) Q E s:=by
 have hlt:i<es.size:=by rw[<- zBy w S ep es];exact(vN.mp hx).1
 obtain⟨o,hi,hc,hd⟩:=id hit;unfold pyNext;refine xc (vZ (vi hit.typeIs si_next (xK si_next hit.typeIs zJf ?_ (zM2 _))));unfold Builtin.«set_iterator.__next__»;refine xc (xh ?_);refine xc (uT hi hd ?_);dsimp only;refine xc (wpAny_setEntries_of ho rfl (Tab.ft T) ?_);rw[xg (by simp)];simp only[xZ];refine xc (walk_of ho T i (xN hlt) ?_);rw[hx];simp only[vO];refine xc (v3 hi hd (by simp) ?_);have g1:=uj (Obj.mapFields λx=>x.setIfInBounds 0 (rawInt ↑(zEg w t (i+1)))) hi (yv (v5 hd _));have d1:=v5 hd λx=>x.setIfInBounds 0 (rawInt ↑(zEg w t (i+1)))
 refine xc (v3 g1 d1 (by simp) (xh ⟨e.2,rfl,xh (hQ _ ⟨_,uj _ g1 (yv (v5 d1 _)),(Obj.cls_mapFields ..).trans ((Obj.cls_mapFields ..).trans hc),?_⟩ ((vJ ..).trans (vJ ..)))⟩));rw[v5 d1];simp[rawInt]
theorem zT4{es:Array (Int × Value)}{Q:Option Value->Shared->Prop}(hh:A.handled=none)(hit:IsSI w s.heap I S es.size es.size ep t)(ho:s.heap.get? S=some (sObj es ep t))(T:Tab t es.size (!(w.params.followText "set-order")))(hne:S≠I)
  (hQ:∀h',Heap.ExtBut I s.heap h'->Q none { s with heap:=h' }):wpAny (model prog w) A (pyNext (.ref I)) Q E s:=by
 obtain⟨o,hi,hc,hd⟩:=id hit;unfold pyNext;refine xc (vZ (vi hit.typeIs si_next (xK si_next hit.typeIs zJf ?_ (zM2 _))));unfold Builtin.«set_iterator.__next__»;refine xc (xh ?_);refine xc (uT hi hd ?_);dsimp only;refine xc (wpAny_setEntries_of ho rfl (Tab.ft T) ?_);rw[xg (by simp)];simp only[xZ];refine xc (walk_of ho T es.size (xk _) ?_);rw[yb (by rw[zBy];exact xk _)];simp only[Option.map_none];refine xc (v3 hi hd (by simp) ?_);refine xc ?_;simp only[newExc,newTuple];refine xc (xQ (xc (ur (by first|rfl|(simp only[firstArgMember];rfl)) (xQ ?_ (by size_fits)))) (by size_fits));simp only[raiseNew];refine xc (wpAny_handled ?_);rw[show A.in1.handled=none from hh];refine xc (xh (wpAny_throw ?_));refine xc (v7 ⟨_,xv _ rfl,rfl⟩ isSubtype_stop (xh (hQ _ (((vJ ..).extBut.push _).push _))))
theorem zLo(hh:A.handled=none)(I S:Addr)(hne:S≠I)(es:Array (Int × Value))(ep:Nat)(t:SetTable)(T:Tab t es.size (!(w.params.followText "set-order"))):
  Walks prog w A I [I,S] [I] es.size (λi v=>((ordW w S ep es).map (·.2))[i]?=some v) (λi h=>IsSI w h I S i es.size ep t/\h.get? S=some (sObj es ep t)) where
 sub:=λb hb=>by simp at hb;simp[hb]
 frame:=λ_ _ _ st hk=>⟨let ⟨o,ho,r⟩:=st.1;⟨o,hk I (by simp) o ho,r⟩,hk S (by simp) _ st.2⟩
 item:=λi s Q E hi st hQ=>by
  have hz:i<(ordW w S ep es).size:=by rw[zBy];exact hi
  refine zT3 st.1 st.2 T hne (vt hz) λh' it' sb=>?_
  exact hQ _ h' s.toks (by rw[Array.getElem?_map,vt hz];rfl) ⟨it',(sb.2 S hne).trans st.2⟩ λb o hb e=>(sb.2 b λz=>hb (by simp[z])).trans e
 done:=λs Q E st hQ=>zT4 hh st.1 st.2 T hne λh' he'=>hQ h' s.toks λb o hb e=>he' b o (λh=>hb (by simp[h])) e
 self:=λi s Q E st hQ=>yc st.1.typeIs zM0 (xK zM0 st.1.typeIs zM1 (xh ⟨_,rfl,"set_iterator",_,st.1.typeIs,si_next.lookup,hQ⟩) (zPe _))
theorem zQp{es:Array (Int × Value)}{Q:Value->Shared->Prop}(ho:s.heap.get? S=some (sObj es ep t))(T:Tab t es.size (!(w.params.followText "set-order")))
  (h:Q (.ref s.heap.objs.size) { s with heap:=s.heap.push { cls:=.type "set_iterator",data:=.fields #[.int 0 0,.int 0 0,.ref S,.int es.size 0,.int ep 0] } }):wpAny (model prog w) A (pyIter (.ref S)) Q E s:=by
 have hT:s.TypeIs (.ref S) "set":=⟨_,ho,rfl⟩;refine yc hT F.slot_set_iter (xK F.slot_set_iter hT yAu ?_ (F.args_set_iter_1 _));unfold Builtin.«frozenset.__iter__»;refine xc (xh ?_);unfold Builtin.Frozenset.sizeOf;refine xc (xc (wpAny_setEntries_of ho rfl (Tab.ft T) (xh ?_)));unfold setDrawn;refine xc (xc (vY ho rfl (Tab.ft T) ?_));dsimp only;unfold setsByText;refine xc (xc (ya (xh (xh ?_))));show wpAny _ _ (if(!(w.params.followText "set-order") && (!t.plain && decide (es.size > 1)))=true then _ else _) _ _ _;rw[xg (by rw[T.plain];simp)];refine xc (xh ?_);refine xc (wpAny_setEpoch_of ho rfl (Tab.ft T) ?_);unfold newFields;refine xc (xQ (xh ⟨_,rfl,"set_iterator",_,⟨_,xv _ rfl,rfl⟩,si_next.lookup,?_⟩));simpa[rawInt]using h
theorem zQu{Q:Bool->Shared->Prop}(hT:s.TypeIs (.ref S) "set")(h:Q false s):wpAny (model prog w) A (Builtin.List.listLengthHint (.ref S)) Q E s:=by unfold Builtin.List.listLengthHint;refine xc (uO hT F.slot_set_len.lookup ?_);generalize hid:("set.__len__":String)=id0;wp_delta;rw[show splitId id0=some ("set","__len__")from by subst hid;decide +kernel];subst hid;refine xc (v7 hT sub_set_self (wpAny_ite_split (λhab=>absurd hab (by decide)) λ_=>wpAny_ite_split (λ_=>xc (wpAny_typeOf hT (xh h))) λhab=>absurd (by decide +kernel) hab))
open PySem.W in
theorem zI0{S:Addr}{es:Array (Int × Value)}{ep:Nat}(T:Tab t es.size (!(w.params.followText "set-order"))):
  KdlSrc prog w "set" S S es.size (λi v=>((ordW w S ep es).map (·.2))[i]?=some v) (λh=>h.get? S=some (sObj es ep t)) where
 type:=λs ok=>⟨_,ok,rfl⟩
 there:=λh ok=>⟨xq ok,xq ok⟩
 keep:=λh h' ok k=>k S (.inl rfl) _ ok
 notList:=by decide
 notTuple:=by decide
 hint:=λA E s Q ok h=>zQu ⟨_,ok,rfl⟩ h
 iter:=λA s hh ok=>⟨{ cls:=.type "set_iterator",data:=.fields #[.int 0 0,.int 0 0,.ref S,.int es.size 0,.int ep 0] },_,λE Q h=>zQp ok T h,
  zLo hh _ S (xA (xq ok)) es ep t T,⟨_,xv _ rfl,rfl,by
   have:zEg w t 0=0:=by unfold zEg;split <;> rfl
   rw[this];rfl⟩,xt _ ok⟩
end
def KIt(b:Bool)(h:Heap)(i a:Addr)(k:Nat):Prop:=∃o,h.get? i=some o/\o.cls=.type (if b then "tuple_iterator" else "list_iterator")/\o.data=.fields #[.ref a,.int k 0]
def KSq(b:Bool)(h:Heap)(a:Addr)(xs:Array Value):Prop:=∃o,h.get? a=some o/\o.cls=.type (if b then "tuple" else "list")/\∃n,o.data=.seq xs n
theorem KIt.at{h h':Heap}(x:KIt b h i a k)(e:∀o,h.get? i=some o->h'.get? i=some o):KIt b h' i a k:=let ⟨o,ho,r⟩:=x;⟨o,e _ ho,r⟩
theorem KSq.at{h h':Heap}(x:KSq b h a xs)(e:∀o,h.get? a=some o->h'.get? a=some o):KSq b h' a xs:=let ⟨o,ho,r⟩:=x;⟨o,e _ ho,r⟩
theorem KIt.xb(x:KIt b h i a k)(e:Heap.ExtBut c h h')(n:i≠c):KIt b h' i a k:=x.at λo q=>e _ _ n q
theorem KSq.xb(x:KSq b h a xs)(e:Heap.ExtBut c h h')(n:a≠c):KSq b h' a xs:=x.at λo q=>e _ _ n q
section
variable {prog:Program}{w:World}{A:Around}{E:Value->Shared->Prop}{s:Shared}
theorem next_item{i:Nat}{Q:Value->Shared->Prop}(hit:KIt b s.heap it l i)(hl:KSq b s.heap l items)(hx:items[i]?=some x)
  (hQ:∀h',KIt b h' it l (i+1)->Heap.SameBut it s.heap h'->Q x { s with heap:=h' }):wpAny (model prog w) A (Builtin.SmallTypes.nextOf (.ref it)) Q E s:=by
 cases b with
 | false=>exact wpAny_nextOf_list_item hit hl hx hQ
 | true=>
  obtain⟨o,ho,hc,hd⟩:=id hit;obtain⟨ol,hol,_,nl,hdl⟩:=hl;have hT:s.TypeIs (.ref it) "tuple_iterator":=⟨o,ho,hc⟩;unfold Builtin.SmallTypes.nextOf;refine xc (vi hT yw (xK yw hT F.entry_tuple_iterator_next ?_ (F.args_tuple_iterator_next_1 _)));refine(show wpAny _ _ (field (.ref it) 0 >>= _) _ _ s from xc (vq ho hd rfl (show wpAny _ _ (if(Value.ref l == Value.none)=true then _ else _) _ _ s from ?_)));rw[xg (show ¬ ((Value.ref l == Value.none)=true)from vE)];refine(xc (vq ho hd rfl (xc (wpAny_seqItems hol hdl ?_))));simp only[xZ,hx];refine xc (v3 ho hd (by simp) (xh ⟨x,rfl,xh (hQ _ ⟨_,uj _ ho (yv (v5 hd _)),(Obj.cls_mapFields ..).trans hc,?_⟩ (vJ ..))⟩));rw[v5 hd];simp[rawInt]
theorem next_end{i:Nat}{Q:Value->Shared->Prop}(hh:A.handled=none)(hit:KIt b s.heap it l i)(hl:KSq b s.heap l items)(hx:items[i]?=none)
  (hE:∀h' e,Heap.ExtBut it s.heap h'->(∃o,h'.get? e=some o/\o.cls=.type "StopIteration")->E (.ref e) { s with heap:=h' }):wpAny (model prog w) A (Builtin.SmallTypes.nextOf (.ref it)) Q E s:=by
 cases b with
 | false=>exact wpAny_nextOf_list_end hh hit hl hx hE
 | true=>
  obtain⟨o,ho,hc,hd⟩:=id hit;obtain⟨ol,hol,_,nl,hdl⟩:=hl;have hT:s.TypeIs (.ref it) "tuple_iterator":=⟨o,ho,hc⟩;unfold Builtin.SmallTypes.nextOf;refine xc (vi hT yw (xK yw hT F.entry_tuple_iterator_next ?_ (F.args_tuple_iterator_next_1 _)));refine(show wpAny _ _ (field (.ref it) 0 >>= _) _ _ s from xc (vq ho hd rfl (show wpAny _ _ (if(Value.ref l == Value.none)=true then _ else _) _ _ s from ?_)));rw[xg (show ¬ ((Value.ref l == Value.none)=true)from vE)];refine(xc (vq ho hd rfl (xc (wpAny_seqItems hol hdl ?_))));simp only[xZ,hx];refine xc (vn (xc (v3 ho hd (by simp) (xc ?_))));simp only[newExc,newTuple];refine xc (xQ (xc (ur (by first|rfl|(simp only[firstArgMember];rfl)) (xQ ?_ (by size_fits)))) (by size_fits));simp only[raiseNew];refine xc (wpAny_handled ?_);rw[show A.in1.handled=none from hh];refine xc (xh (wpAny_throw ?_));exact hE _ _ (((vJ ..).extBut.push _).push _) ⟨_,xv _ rfl,rfl⟩
end
noncomputable abbrev itO (b:Bool) (l:Addr):Obj:={ cls:=.type (if b then "tuple_iterator" else "list_iterator"),data:=.fields #[.ref l,.int 0 0] }
section
variable {prog:Program}{w:World}{A:Around}{E:Value->Shared->Prop}{s:Shared}
theorem zJx{Q:Value->Shared->Prop}(q:KSq b s.heap l xs)(h:Q (.ref s.heap.objs.size) { s with heap:=s.heap.push (itO b l) }):wpAny (model prog w) A (pyIter (.ref l)) Q E s:=by
 cases b with
 | false=>exact uN q h
 | true=>exact wpAny_pyIter_tuple q h
end
end TS
namespace L2
open PySem PySem.Spec PyProof.Rows TS
noncomputable def hoK (b:Bool) (xs:List V):HO:=if b then .tup xs else .lst xs
theorem Inv.kSq{H:Hp}{s:Shared}{xs:List V}(I:Inv X pins σ H s)(h:H a=some (hoK b xs)):∃its:List Value,Vals xs its/\KSq b s.heap a its.toArray/\xs.length<=sizeLine:=by
 cases b with
 | false=>obtain⟨its,r,p,z⟩:=I.list (SqL.of h);exact⟨its,r,p.isList,z⟩
 | true=>obtain⟨its,r,p,z⟩:=I.tuple (SqT.of h);exact⟨its,r,p,z⟩
section
variable {A:TA}{σ σc:St}{H:Hp}{g:TG}{tt:TT}{te:TE}{Qd:List V->Hp->Prop}
theorem zV5(h:hoK b xs=hoK b ys):xs=ys:=by
 cases b with
 | false=>exact HO.lst.inj h
 | true=>exact HO.tup.inj h
end
section
variable {X:Cx}{K:PySem.W.Frag}
noncomputable def Its (x:Str):It:=⟨λi _=>i<x.cps.size,λi H v H'=>H'=H/\∃c,x.cps[i]?=some c/\v=.str ⟨#[c]⟩,λi _=>x.cps.size<=i⟩
theorem zP6(it:Addr)(x:Str)(t:Tok):Turn P w K tg (Its x) [it] it (λi h=>i<=x.cps.size/\h.IsStrIter it "str_ascii_iterator" x t i) where
 mem:=by simp
 obj:=λi h st b hb=>by
  have e:b=it:=by simpa using hb
  subst e;obtain⟨_,o,e,c,d⟩:=st;exact⟨o,e,λv z=>by rw[d]at z;cases z⟩
 keep:=λi h h' st k=>⟨st.1,let ⟨o,ho,r⟩:=st.2;⟨o,k it (by simp) o ho,r⟩⟩
 item:=by
  intro X hP hw hK hc i pins s σ H E I hf st hg;subst hP hw hK;obtain⟨f0,f1,f2,f3,f4,f5⟩:=hf it (by simp);have hg:i<x.cps.size:=hg;refine wpAny_pyNext_ascii_item st.2 (c:=x.cps[i]) (by simp[hg]) λh' st' sb=>?_
  have I1:=I.turned (t':=s.toks+1) (λb o hb e=>(sb.2 b hb).trans e) f0 f1 f3 f4 f5;obtain⟨o,e,c,d⟩:=id st';exact⟨_,rfl,zNk e c d (by decide) ⟨.str ⟨#[x.cps[i]]⟩,H,I1,⟨_,rfl⟩,⟨rfl,_,by simp[hg],rfl⟩,⟨hg,st'⟩,λb hb=>(hf b hb).1⟩⟩
 done:=by intro X hP hw hK hc i pins s σ H E I hf st hg;subst hP hw hK;obtain⟨f0,f1,f2,f3,f4,f5⟩:=hf it (by simp);have hg:x.cps.size<=i:=hg;exact wpAny_pyNext_ascii_end (I.ok.hd hc) st.2 (by simp[hg]) λh' eb=>⟨rfl,I.turned (λb o hb e=>eb b o hb e) f0 f1 f3 f4 f5⟩
 self:=λ_ _ _ _ _ st h=>wpAny_pyIter_striter_ascii st.2 h
end
end L2
namespace DS
open PySem (Str)
inductive D where
 | non|bl (b:Bool)|int (i:Int)|str (x:Str)|ty (n:String)
 | tup (l:List D)|ktup (l:List D)|lst (l:List D)|klst (l:List D)|dct (t:Bool) (ks vs:List D)|st (l:List D)
 | ref (n:Nat)
noncomputable abbrev Store:=List D
noncomputable abbrev Env:=List (Option D)
structure Exn where
 cls:Str
 fs:List (Str × D)
inductive Rs (α:Type) where
 | ok (a:α) (S:Store)|ex (x:Exn) (S:Store)|bad
inductive SR where
 | nx (e:Env) (S:Store)|rt (d:D) (S:Store)|bk (e:Env) (S:Store)|ct (e:Env) (S:Store)|ex (x:Exn) (S:Store)|bad
noncomputable def Rs.bind {α β:Type}(r:Rs α) (k:α->Store->Rs β):Rs β:=match r with
 | .ok a S=>k a S
 | .ex x S=>.ex x S
 | .bad=>.bad
@[simp] theorem Rs.bind_ok {α β:Type}{a:α}{S:Store}{k:α->Store->Rs β}:(Rs.ok a S).bind k=k a S:=rfl
@[simp] theorem Rs.bind_ex {α β:Type}{x:Exn}{S:Store}{k:α->Store->Rs β}:(Rs.ex x S:Rs α).bind k=.ex x S:=rfl
@[simp] theorem Rs.bind_bad {α β:Type}{k:α->Store->Rs β}:(Rs.bad:Rs α).bind k=.bad:=rfl
noncomputable def Rs.then {α:Type}(r:Rs α) (k:α->Store->SR):SR:=match r with
 | .ok a S=>k a S
 | .ex x S=>.ex x S
 | .bad=>.bad
@[simp] theorem Rs.then_ok {α:Type}{a:α}{S:Store}{k:α->Store->SR}:(Rs.ok a S).then k=k a S:=rfl
@[simp] theorem Rs.then_ex {α:Type}{x:Exn}{S:Store}{k:α->Store->SR}:(Rs.ex x S:Rs α).then k=.ex x S:=rfl
@[simp] theorem Rs.then_bad {α:Type}{k:α->Store->SR}:(Rs.bad:Rs α).then k=.bad:=rfl
noncomputable def lift {α:Type}(o:Option α) (S:Store):Rs α:=match o with
 | some a=>.ok a S
 | none=>.bad
@[simp] theorem zA5 {α:Type}{a:α}{S:Store}:lift (some a) S=.ok a S:=rfl
@[simp] theorem zYw {α:Type}{S:Store}:lift (none:Option α) S=.bad:=rfl
noncomputable def zUs {α:Type}(o:Option (α × Store)):Rs α:=match o with
 | some a=>.ok a.1 a.2
 | none=>.bad
@[simp] theorem zKt {α:Type}{a:α × Store}:zUs (some a)=.ok a.1 a.2:=rfl
@[simp] theorem zWq {α:Type}:zUs (none:Option (α × Store))=.bad:=rfl
mutual
/-- all refs are below n -/
def D.low(n:Nat):D->Bool
 | .ref m=>decide (m<n)
 | .tup l=>lowL n l
 | .lst l=>lowL n l
 | .ktup l=>lowL n l
 | .klst l=>lowL n l
 | .dct _ ks vs=>lowL n ks && lowL n vs
 | .st l=>lowL n l
 | .non=>true
 | .bl _=>true
 | .int _=>true
 | .str _=>true
 | .ty _=>true
def lowL(n:Nat):List D->Bool
 | []=>true
 | d::r=>d.low n && lowL n r
end
section
open Classical
noncomputable def look (S:Store):D->Option D
 | .ref n=>S[n]?
 | .ktup l=>some (.tup l)
 | .klst l=>some (.lst l)
 | d=>some d
noncomputable def items (S:Store) (d:D):Option (List D):=match look S d with
 | some (.tup l)=>some l
 | some (.lst l)=>some l
 | _=>none
noncomputable def litems (S:Store) (d:D):Option (List D):=match d with
 | .klst _=>none
 | d=>match look S d with
  | some (.lst l)=>some l
  | _=>none
noncomputable abbrev EM:=Env->Store->Rs D
noncomputable abbrev TM:=Env->Store->Rs Bool
noncomputable abbrev AM:=Env->Store->Rs (List D)
noncomputable abbrev SM:=Env->Store->SR
noncomputable abbrev GM:=Store->D->Env->Option Env
noncomputable abbrev Fn:=List D->Store->Rs D
noncomputable def eVar (i:Nat):EM:=λenv S=>match env[i]? with
 | some (some d)=>.ok d S
 | _=>.bad
noncomputable def eC (d:D):EM:=λ_ S=>.ok d S
noncomputable def eOp (g:Store->D->D->Option D) (a b:EM):EM:=λenv S=>(a env S).bind λx S1=>(b env S1).bind λy S2=>lift (g S2 x y) S2
noncomputable def eUn (g:Store->D->Option D) (a:EM):EM:=λenv S=>(a env S).bind λx S1=>lift (g S1 x) S1
noncomputable def aNil:AM:=λ_ S=>.ok [] S
noncomputable def zA0 (a:EM) (r:AM):AM:=λenv S=>(a env S).bind λx S1=>(r env S1).bind λxs S2=>.ok (x::xs) S2
noncomputable def eTup (a:AM):EM:=λenv S=>(a env S).bind λxs S1=>.ok (.tup xs) S1
noncomputable def eLst (a:AM):EM:=λenv S=>(a env S).bind λxs S1=>.ok (.lst xs) S1
noncomputable def eDct (t:Bool):EM:=λ_ S=>.ok (.dct t [] []) S
noncomputable def eNew (a:EM):EM:=λenv S=>(a env S).bind λx S1=>.ok (.ref S1.length) (S1++[x])
noncomputable def eCB (g:Store->List D->Option D) (a:AM):EM:=λenv S=>(a env S).bind λxs S1=>lift (g S1 xs) S1
noncomputable def zA2 (F:Fn) (a:AM):EM:=λenv S=>(a env S).bind λxs S1=>F xs S1
noncomputable def tyD (S:Store) (d:D):Option String:=match look S d with
 | some (.str _)=>some "str"
 | some (.lst _)=>some "list"
 | some (.dct _ _ _)=>some "dict"
 | some (.tup _)=>some "tuple"
 | some (.int _)=>some "int"
 | some (.bl _)=>some "bool"
 | some .non=>some "NoneType"
 | some (.st _)=>some "set"
 | _=>none
noncomputable def eMt (T:String) (g:Store->D->List D->Option (D × Store)) (o:EM) (a:AM):EM:=λenv S=>(o env S).bind λx S1=>if tyD S1 x=some T then(a env S1).bind λxs S2=>zUs (g S2 x xs)else .bad
noncomputable def asI:D->Option Int
 | .int i=>some i
 | _=>none
noncomputable def pNo:Env->Store->Rs (Option Int):=λ_ S=>.ok none S
noncomputable def pYes (a:EM):Env->Store->Rs (Option Int):=λenv S=>(a env S).bind λx S1=>lift ((asI x).map some) S1
noncomputable def eSl (g:Store->D->Option Int->Option Int->Option D) (a:EM) (lo hi:Env->Store->Rs (Option Int)):EM:=λenv S=>
 (a env S).bind λx S1=>(lo env S1).bind λl S2=>(hi env S2).bind λh S3=>lift (g S3 x l h) S3
noncomputable def asB:D->Option Bool
 | .bl b=>some b
 | _=>none
noncomputable def tB (a:EM):TM:=λenv S=>(a env S).bind λx S1=>lift (asB x) S1
noncomputable def most:Nat:=2 ^ 24
noncomputable def truth (S:Store) (d:D):Option Bool:=match look S d with
 | some (.bl b)=>some b
 | some (.int i)=>some (decide (i≠0))
 | some (.str x)=>if x.length<=most then some (decide (x.length≠0))else none
 | some (.tup l)=>some (decide (l≠[]))
 | some (.lst l)=>some (decide (l≠[]))
 | some .non=>some false
 | _=>none
noncomputable def tTru (a:EM):TM:=λenv S=>(a env S).bind λx S1=>lift (truth S1 x) S1
noncomputable def tAnd (a b:TM):TM:=λenv S=>(a env S).bind λc S1=>if c=true then b env S1 else .ok false S1
noncomputable def tOr (a b:TM):TM:=λenv S=>(a env S).bind λc S1=>if c=true then .ok true S1 else b env S1
noncomputable def tNot (a:TM):TM:=λenv S=>(a env S).bind λc S1=>.ok (!c) S1
noncomputable def tYes:TM:=λ_ S=>.ok true S
noncomputable def eAnd (a b:EM):EM:=λenv S=>(a env S).bind λx S1=>(lift (asB x) S1).bind λc S1=>if c=true then b env S1 else .ok (.bl false) S1
noncomputable def eOr (a b:EM):EM:=λenv S=>(a env S).bind λx S1=>(lift (asB x) S1).bind λc S1=>if c=true then .ok (.bl true) S1 else b env S1
noncomputable def eNot (a:EM):EM:=λenv S=>(a env S).bind λx S1=>(lift (asB x) S1).bind λc S1=>.ok (.bl (!c)) S1
noncomputable def eIf (c:TM) (a b:EM):EM:=λenv S=>(c env S).bind λk S1=>if k=true then a env S1 else b env S1
structure Walk where
 its:List D
 gd:List (Nat × D)
def gOk(S:Store)(gd:List (Nat × D)):Prop:=∀p∈gd,S[p.1]?=some p.2
noncomputable abbrev IM:=Env->Store->Rs Walk
noncomputable def gdOf (S:Store):D->List (Nat × D)
 | .ref n=>match S[n]? with
  | some d=>[(n,d)]
  | none=>[]
 | _=>[]
noncomputable def chars (x:Str):List D:=x.cps.toList.map λc=>.str ⟨#[c]⟩
noncomputable def zE9 (S:Store) (d:D):Option Walk:=match look S d with
 | some (.tup l)=>some ⟨l,gdOf S d⟩
 | some (.lst l)=>some ⟨l,gdOf S d⟩
 | some (.str x)=>if x.cps.all (·<128)then some ⟨chars x,[]⟩else none
 | _=>none
noncomputable def iVal (a:EM):IM:=λenv S=>(a env S).bind λx S1=>lift (zE9 S1 x) S1
noncomputable def fits62 (i:Int):Bool:=decide (-(2 ^ 62)<=i/\i<2 ^ 62)
noncomputable def zFa (i j:Int):List D:=(List.range (j-i).toNat).map fun(k:Nat)=>.int (i+k)
noncomputable def zFx:List D->Option Walk
 | [.int j]=>if fits62 j then some ⟨zFa 0 j,[]⟩else none
 | [.int i,.int j]=>if fits62 i && fits62 j then some ⟨zFa i j,[]⟩else none
 | _=>none
noncomputable def zAi (a:AM):IM:=λenv S=>(a env S).bind λxs S1=>lift (zFx xs) S1
noncomputable def zDx (l:List D) (n:Nat):List D:=match l with
 | []=>[]
 | d::r=>.tup [.int n,d]::zDx r (n+1)
noncomputable def gName (i:Nat):GM:=λ_ d env=>some (env.set i (some d))
noncomputable def gAll:List GM->Store->List D->Env->Option Env
 | [],_,[],env=>some env
 | g::gs,S,d::ds,env=>match g S d env with
  | some env'=>gAll gs S ds env'
  | none=>none
 | _,_,_,_=>none
noncomputable def gTup (gs:List GM):GM:=λS d env=>match items S d with
 | some l=>gAll gs S l env
 | none=>none
noncomputable def zCm (gd:List (Nat × D)) (g:GM) (c:TM) (e:EM):Nat->List D->Env->Store->Rs (List D)
 | _,[],_,S=>if gOk S gd then .ok [] S else .bad
 | k,d::r,env,S=>if gOk S gd/\k<most then(match g S d env with
  | some env'=>(c env' S).bind λb S1=>if b=true then(e env' S1).bind λv S2=>(zCm gd g c e (k+1) r env' S2).bind λvs S3=>.ok (v::vs) S3 else zCm gd g c e k r env' S1
  | none=>.bad)else .bad
noncomputable def compEnv (own:Nat) (ix:List Nat) (env:Env):Env:=List.replicate own none++ix.map λi=>(env[i]?).join
noncomputable def zA6 (own:Nat) (ix:List Nat) (i:IM) (g:GM) (c:TM) (e:EM):EM:=λenv S=>
 (i env S).bind λw S1=>(zCm w.gd g c e 0 w.its (compEnv own ix env) S1).bind λvs S2=>.ok (.lst vs) S2
noncomputable def zAt:SM:=λenv S=>.nx env S
noncomputable def sSeq (a b:SM):SM:=λenv S=>match a env S with
 | .nx e S1=>b e S1
 | r=>r
noncomputable def sSet (i:Nat) (e:EM):SM:=λenv S=>(e env S).then λd S1=>.nx (env.set i (some d)) S1
noncomputable def sUnp (g:GM) (e:EM):SM:=λenv S=>(e env S).then λd S1=>match g S1 d env with
 | some env'=>.nx env' S1
 | none=>.bad
noncomputable def zGy (e:EM):SM:=λenv S=>(e env S).then λ_ S1=>.nx env S1
noncomputable def sRet (e:EM):SM:=λenv S=>(e env S).then λd S1=>.rt d S1
noncomputable def yAx:SM:=λ_ S=>.rt .non S
noncomputable def sIf (c:TM) (a b:SM):SM:=λenv S=>(c env S).then λk S1=>if k=true then a env S1 else b env S1
noncomputable def zM3:List Nat->List D->Env->Option Env
 | [],[],env=>some env
 | i::is,d::ds,env=>zM3 is ds (env.set i (some d))
 | _,_,_=>none
noncomputable def sPar (is:List Nat) (a:AM):SM:=λenv S=>(a env S).then λds S1=>match zM3 is ds env with
 | some env'=>.nx env' S1
 | none=>.bad
noncomputable def sPut (g:Store->D->D->D->Option Store) (o i v:EM):SM:=λenv S=>(v env S).then λy S1=>(o env S1).then λx S2=>(i env S2).then λk S3=>match g S3 x k y with
 | some S4=>.nx env S4
 | none=>.bad
noncomputable def forL (gd:List (Nat × D)) (g:GM) (b:SM):List D->Env->Store->SR
 | [],env,S=>if gOk S gd then .nx env S else .bad
 | d::r,env,S=>if gOk S gd then(match g S d env with
  | some env'=>(match b env' S with
   | .nx e S1=>forL gd g b r e S1
   | .ct e S1=>forL gd g b r e S1
   | .bk e S1=>.nx e S1
   | q=>q)
  | none=>.bad)else .bad
noncomputable def sFor (i:IM) (g:GM) (b:SM):SM:=λenv S=>(i env S).then λw S1=>forL w.gd g b w.its env S1
noncomputable def zB6 (c:TM) (b:SM):Nat->Env->Store->SR
 | 0,_,_=>.bad
 | n+1,env,S=>(c env S).then λk S1=>if k=true then(match b env S1 with
   | .nx e S2=>zB6 c b n e S2
   | .ct e S2=>zB6 c b n e S2
   | .bk e S2=>.nx e S2
   | q=>q)else .nx env S1
noncomputable def zDn (c:TM) (b:SM):SM:=λenv S=>if h:∃n,zB6 c b n env S≠.bad then zB6 c b (choose h) env S else .bad
theorem zBz :∀{n:Nat}{env:Env}{S:Store},zB6 c b n env S≠.bad->∀m,n<=m->zB6 c b m env S=zB6 c b n env S
 | 0,_,_,h,_,_=>absurd rfl h
 | n+1,env,S,h,m,hm=>by
  obtain⟨m,rfl⟩:∃k,m=k+1:=⟨m-1,by nofun⟩
  unfold zB6 at h ⊢;cases hc:c env S with
  | ok k S1=>
   rw[hc]at h;simp only[Rs.then_ok]at h ⊢;by_cases hk:k=true
   ·rw[xf hk]at h ⊢;rw[xf hk];cases hb:b env S1 with
    | nx e S2=>rw[hb]at h;exact zBz h m (by nofun)
    | ct e S2=>rw[hb]at h;exact zBz h m (by nofun)
    | _=>rfl
   ·rw[xg hk,xg hk]
  | ex x S1=>rfl
  | bad=>rfl
theorem zGx(h:zB6 c b n env S≠.bad):zDn c b env S=zB6 c b n env S:=by
 unfold zDn;have hx:∃n,zB6 c b n env S≠.bad:=⟨n,h⟩
 rw[dif_pos hx];have h1:=choose_spec hx;rw[<- zBz h1 (max (choose hx) n) (Nat.le_max_left _ _),<- zBz h (max (choose hx) n) (Nat.le_max_right _ _)]
def keeps(n:Nat):Store->Store->Prop
 | [],_=>True
 | a::r,b::t=>(a=b\/b.low n=true)/\keeps n r t
 | _::_,[]=>False
noncomputable def fin (S:Store) (d:D) (S':Store):Rs D:=
 if keeps S.length S S' then
  if d.low S.length=true then .ok d (S'.take S.length)
  else match d with
   | .ref n=>match S'[n]? with
    | some c=>if c.low S.length=true then .ok c (S'.take S.length)else .ok d S'
    | none=>.bad
   | _=>.ok d S'
 else .ok d S'
noncomputable def zAk (np nl:Nat) (b:SM):Fn:=λds S=>if ds.length=np then
  (match b (ds.map some++List.replicate (nl-np) none) S with
  | .nx _ S'=>fin S .non S'
  | .rt d S'=>fin S d S'
  | .ex x S'=>.ex x S'
  | _=>.bad)
 else .bad
noncomputable def zF4 (np nl:Nat) (b:SM):Fn:=λds S=>if ds.length=np then
  (match b (ds.map some++List.replicate (nl-np) none) S with
  | .nx _ S'=>.ok .non S'
  | .rt d S'=>.ok d S'
  | .ex x S'=>.ex x S'
  | _=>.bad)
 else .bad
end
end DS
namespace L2
open PySem PySem.Spec PyProof.Rows
open DS (D Store Exn Rs SR)
noncomputable abbrev Js:=List Addr
def TAt(K:PySem.W.Frag)(J:Js)(H:Hp)(a:Addr)(xs:List V):Prop:=H a=some (.tup xs)/\a ∉ J
def KAt(K:PySem.W.Frag)(a:Addr)(xs:List V):Prop:=∃(o:Obj) (its:Array Value) (n:Nat),K.lookup a=some o/\o.cls=.type "tuple"/\o.data=.seq its n/\its.size<=sizeLine/\Vals xs its.toList
def LAt(K:PySem.W.Frag)(J:Js)(H:Hp)(a:Addr)(xs:List V):Prop:=H a=some (.lst xs)/\a ∉ J
def SAt(K:PySem.W.Frag)(J:Js)(H:Hp)(a:Addr)(xs:List V):Prop:=
 (Rd H a (.lst xs)/\a ∉ J)\/∃(o:Obj) (its:Array Value) (n:Nat),K.lookup a=some o/\o.cls=.type "list"/\o.dict=none/\o.data=.seq its n/\its.size<=sizeLine/\Vals xs its.toList
noncomputable def keyD:Key->D
 | .inl i=>.int i
 | .inr x=>.str x
noncomputable def zDv (k:List Key):D:=.tup (k.map keyD)
def DOb(o:HO)(t:Bool)(ks:List D)(xs:List V):Prop:=
 (t=false/\∃kvs:List (Key × V),o=.dK kvs/\ks=kvs.map (λp=>keyD p.1)/\xs=kvs.map (·.2)) \/
  (t=true/\∃kvs:List (List Key × V),o=.dT kvs/\ks=kvs.map (λp=>zDv p.1)/\xs=kvs.map (·.2))
mutual
def Rep(K:PySem.W.Frag)(J:Js)(H:Hp):D->V->Prop
 | .non,v=>v=.non
 | .bl b,v=>v=.bl b
 | .int i,v=>v=.int i
 | .str x,v=>v=.str x
 | .ty n,v=>v=.ty n
 | .tup ds,v=>∃a xs,v=.ref a/\TAt K J H a xs/\RepL K J H ds xs
 | .lst ds,v=>∃a xs,v=.ref a/\LAt K J H a xs/\RepL K J H ds xs
 | .ktup ds,v=>∃a xs,v=.ref a/\KAt K a xs/\RepL K J H ds xs
 | .klst ds,v=>∃a xs,v=.ref a/\SAt K J H a xs/\RepL K J H ds xs
 | .dct t ks vs,v=>∃a o xs,v=.ref a/\a ∉ J/\Rd H a o/\DOb o t ks xs/\RepL K J H vs xs
 | .st _,_=>False
 | .ref n,v=>∃a,J[n]?=some a/\v=.ref a
def RepL(K:PySem.W.Frag)(J:Js)(H:Hp):List D->List V->Prop
 | [],xs=>xs=[]
 | d::ds,xs=>∃x r,xs=x::r/\Rep K J H d x/\RepL K J H ds r
end
def ObD(K:PySem.W.Frag)(J:Js)(H:Hp):D->HO->Prop
 | .lst ds,o=>∃xs,o=.lst xs/\RepL K J H ds xs
 | .dct t ks vs,o=>∃xs,DOb o t ks xs/\RepL K J H vs xs
 | _,_=>False
def RepO(K:PySem.W.Frag)(J:Js)(H:Hp)(d:D)(a:Addr):Prop:=∃o,H a=some o/\ObD K J H d o
structure AbS (K:PySem.W.Frag) (J:Js) (S:Store) (H:Hp):Prop where
 len:J.length=S.length
 nd:J.Nodup
 ob:∀(i:Nat) (a:Addr) (d:D),J[i]?=some a->S[i]?=some d->RepO K J H d a
def Fz(o:HO)(x:Option HO):Prop:=x=some o\/((∃kvs,o=.dT kvs)/\∃ob,x=some (.frz ob o))
theorem Fz.tup(h:Fz (.tup xs) x):x=some (.tup xs):=by
 rcases h with h|⟨⟨_,z⟩,_⟩
 ·exact h
 ·cases z
theorem Fz.lst(h:Fz (.lst xs) x):x=some (.lst xs):=by
 rcases h with h|⟨⟨_,z⟩,_⟩
 ·exact h
 ·cases z
theorem Fz.frz(h:Fz (.frz ob u) x):x=some (.frz ob u):=by
 rcases h with h|⟨⟨_,z⟩,_⟩
 ·exact h
 ·cases z
structure Grow (J:Js) (H:Hp) (J':Js) (H':Hp):Prop where
 pre:∀(i:Nat) (a:Addr),J[i]?=some a->J'[i]?=some a
 new:∀a∈J',a ∉ J->H a=none
 keep:∀b o,b ∉ J->H b=some o->Fz o (H' b)
 dom:∀b,H' b=none->H b=none
structure RepE (K:PySem.W.Frag) (J:Js) (H:Hp) (env:DS.Env) (σ:St):Prop where
 len:env.length=σ.length
 get:∀(i:Nat) (d:D),env[i]?=some (some d)->∃v,σ[i]?=some (some v)/\Rep K J H d v
section
variable {K:PySem.W.Frag}{J J' J1 J2:Js}{H H' H1 H2:Hp}{a:Addr}{d:D}{v:V}{S S':Store}{env:DS.Env}{σ:St}
theorem Grow.refl:Grow J H J H:=⟨λ_ _ h=>h,λ_ h n=>absurd h n,λ_ _ _ h=>.inl h,λ_ h=>h⟩
theorem Grow.trans(g:Grow J H J1 H1)(k:Grow J1 H1 J2 H2):Grow J H J2 H2 where
 pre:=λi a h=>k.pre i a (g.pre i a h)
 new:=λa h n=>by
  by_cases z:a∈J1
  ·exact g.new a z n
  ·exact g.dom a (k.new a h z)
 keep:=λb o n h=>by
  have n1:b ∉ J1:=λz=>by rw[g.new b z n]at h;cases h
  rcases g.keep b o n h with e|⟨z,ob,e⟩
  ·exact k.keep b o n1 e
  ·exact .inr ⟨z,ob,(k.keep b _ n1 e).frz⟩
 dom:=λb h=>g.dom b (k.dom b h)
theorem Grow.out(g:Grow J H J' H')(n:a ∉ J)(h:H a=some o):a ∉ J':=λz=>by rw[g.new a z n]at h;cases h
theorem Grow.rd(g:Grow J H J' H')(n:a ∉ J)(h:Rd H a u):Rd H' a u/\a ∉ J':=by
 rcases h with h|⟨o,h⟩
 ·refine⟨?_,g.out n h⟩;rcases g.keep _ _ n h with e|⟨_,ob,e⟩
  ·exact .inl e
  ·exact .inr ⟨ob,e⟩
 ·exact⟨.inr ⟨o,(g.keep _ _ n h).frz⟩,g.out n h⟩
theorem TAt.sq(h:TAt K J H a xs):SqT K H a xs:=.inl (.inl h.1)
theorem KAt.sq(h:KAt K a xs):SqT K H a xs:=.inr h
theorem LAt.sq(h:LAt K J H a xs):SqL K H a xs:=.inl (.inl h.1)
theorem SAt.sq(h:SAt K J H a xs):SqL K H a xs:=by
 rcases h with h|h
 ·exact .inl h.1
 ·exact .inr h
theorem SAt.grow(g:Grow J H J' H')(h:SAt K J H a xs):SAt K J' H' a xs:=by
 rcases h with h|h
 ·exact .inl (g.rd h.2 h.1)
 ·exact .inr h
theorem TAt.grow(g:Grow J H J' H')(h:TAt K J H a xs):TAt K J' H' a xs:=⟨(g.keep _ _ h.2 h.1).tup,g.out h.2 h.1⟩
theorem LAt.grow(g:Grow J H J' H')(h:LAt K J H a xs):LAt K J' H' a xs:=⟨(g.keep _ _ h.2 h.1).lst,g.out h.2 h.1⟩
mutual
theorem Rep.grow(g:Grow J H J' H'):∀(d:D) (v:V),Rep K J H d v->Rep K J' H' d v
 | .non,_,h=>h
 | .bl _,_,h=>h
 | .int _,_,h=>h
 | .str _,_,h=>h
 | .ty _,_,h=>h
 | .tup ds,v,⟨a,xs,e,t,r⟩=>⟨a,xs,e,t.grow g,RepL.grow g ds xs r⟩
 | .lst ds,v,⟨a,xs,e,t,r⟩=>⟨a,xs,e,t.grow g,RepL.grow g ds xs r⟩
 | .ktup ds,v,⟨a,xs,e,t,r⟩=>⟨a,xs,e,t,RepL.grow g ds xs r⟩
 | .klst ds,v,⟨a,xs,e,t,r⟩=>⟨a,xs,e,t.grow g,RepL.grow g ds xs r⟩
 | .dct _ ks vs,v,⟨a,o,xs,e,n,h,t,r⟩=>⟨a,o,xs,e,(g.rd n h).2,(g.rd n h).1,t,RepL.grow g vs xs r⟩
 | .st _,_,h=>h
 | .ref n,v,⟨a,e,h⟩=>⟨a,g.pre n a e,h⟩
theorem RepL.grow(g:Grow J H J' H'):∀(ds:List D) (xs:List V),RepL K J H ds xs->RepL K J' H' ds xs
 | [],_,h=>h
 | d::ds,xs,⟨x,r,e,h,t⟩=>⟨x,r,e,Rep.grow g d x h,RepL.grow g ds r t⟩
end
theorem RepE.grow(g:Grow J H J' H')(h:RepE K J H env σ):RepE K J' H' env σ:=⟨h.len,λi d e=>by
 obtain⟨v,q,r⟩:=h.get i d e;exact⟨v,q,Rep.grow g d v r⟩⟩
theorem RepL.length:∀{ds:List D}{xs:List V},RepL K J H ds xs->ds.length=xs.length
 | [],_,h=>by cases h;rfl
 | _::ds,_,⟨x,r,e,_,t⟩=>by subst e;simp[RepL.length t]
theorem RepL.get:∀{ds:List D}{xs:List V}{i:Nat}{d:D},RepL K J H ds xs->ds[i]?=some d->∃x,xs[i]?=some x/\Rep K J H d x
 | [],_,_,_,_,e=>by simp at e
 | d::ds,_,0,_,⟨x,r,e,h,t⟩,q=>by subst e;simp at q;subst q;exact⟨x,rfl,h⟩
 | _::ds,_,i+1,d,⟨x,r,e,_,t⟩,q=>by subst e;exact RepL.get (i:=i) t (by simpa using q)
theorem RepL.get'{i:Nat}(h:RepL K J H ds xs)(e:xs[i]?=some x):∃d,ds[i]?=some d/\Rep K J H d x:=by
 have hl:=h.length;have hi:i<ds.length:=by rw[hl];exact(xO.mp e).1
 obtain⟨y,ey,r⟩:=h.get (xF hi);rw[e]at ey;cases ey;exact⟨_,xF hi,r⟩
theorem RepL.append:∀{ds es:List D}{xs ys:List V},RepL K J H ds xs->RepL K J H es ys->RepL K J H (ds++es) (xs++ys)
 | [],_,_,_,h,k=>by cases h;exact k
 | d::ds,_,_,_,⟨x,r,e,h,t⟩,k=>by subst e;exact⟨x,_,rfl,h,t.append k⟩
theorem RepL.snoc(h:RepL K J H ds xs)(r:Rep K J H d x):RepL K J H (ds++[d]) (xs++[x]):=h.append ⟨x,[],rfl,r,rfl⟩
theorem RepL.take:∀{ds:List D}{xs:List V}(n:Nat),RepL K J H ds xs->RepL K J H (ds.take n) (xs.take n)
 | _,_,0,_=>rfl
 | [],_,_+1,h=>by cases h;rfl
 | d::ds,_,n+1,⟨x,r,e,h,t⟩=>by subst e;exact⟨x,_,rfl,h,t.take n⟩
theorem RepL.drop:∀{ds:List D}{xs:List V}(n:Nat),RepL K J H ds xs->RepL K J H (ds.drop n) (xs.drop n)
 | _,_,0,h=>h
 | [],_,_+1,h=>by cases h;rfl
 | d::ds,_,n+1,⟨x,r,e,h,t⟩=>by subst e;exact t.drop n
theorem RepL.reverse:∀{ds:List D}{xs:List V},RepL K J H ds xs->RepL K J H ds.reverse xs.reverse
 | [],_,h=>by cases h;rfl
 | d::ds,_,⟨x,r,e,h,t⟩=>by subst e;rw[List.reverse_cons,List.reverse_cons];exact t.reverse.snoc h
theorem RepL.set:∀{ds:List D}{xs:List V}{x:V}(n:Nat),RepL K J H ds xs->Rep K J H d x->RepL K J H (ds.set n d) (xs.set n x)
 | [],_,_,_,h,_=>by cases h;rfl
 | _::ds,_,_,0,⟨y,r,e,_,t⟩,k=>by subst e;exact⟨_,_,rfl,k,t⟩
 | _::ds,_,_,n+1,⟨y,r,e,h,t⟩,k=>by subst e;exact⟨_,_,rfl,h,RepL.set n t k⟩
theorem RepL.dropLast{ds:List D}{xs:List V}(h:RepL K J H ds xs):RepL K J H ds.dropLast xs.dropLast:=by rw[List.dropLast_eq_take,List.dropLast_eq_take,h.length];exact h.take _
theorem RepL.ints:∀{ns:List Int},RepL K J H (ns.map D.int) (ns.map V.int)
 | []=>rfl
 | n::ns=>⟨_,_,rfl,rfl,RepL.ints⟩
theorem AbS.lt(h:AbS K J S H){n:Nat}(e:J[n]?=some a):n<S.length:=by rw[<- h.len];exact(xO.mp e).1
theorem AbS.at(h:AbS K J S H){n:Nat}(e:J[n]?=some a):∃d,S[n]?=some d/\RepO K J H d a:=
 ⟨S[n]'(h.lt e),xF (h.lt e),h.ob n a _ e (xF (h.lt e))⟩
theorem AbS.mem(h:AbS K J S H)(m:a∈J):∃o,H a=some o:=by obtain⟨i,e⟩:=uK.mp m;obtain⟨d,_,o,r,_⟩:=h.at e;exact⟨o,r⟩
theorem AbS.out(h:AbS K J S H)(n:H a=none):a ∉ J:=λm=>by
 obtain⟨o,e⟩:=h.mem m;rw[n]at e;cases e
theorem ObD.imp(rl:∀ds xs,RepL K J H ds xs->RepL K J' H' ds xs):∀{d:D},ObD K J H d o->ObD K J' H' d o
 | .lst ds,⟨xs,e,r⟩=>⟨xs,e,rl _ _ r⟩
 | .dct _ ks vs,⟨xs,e,r⟩=>⟨xs,e,rl _ _ r⟩
 | .non,h=>False.elim h
 | .bl _,h=>False.elim h
 | .int _,h=>False.elim h
 | .str _,h=>False.elim h
 | .ty _,h=>False.elim h
 | .tup _,h=>False.elim h
 | .ktup _,h=>False.elim h
 | .klst _,h=>False.elim h
 | .st _,h=>False.elim h
 | .ref _,h=>False.elim h
theorem ObD.grow(g:Grow J H J' H')(h:ObD K J H d o):ObD K J' H' d o:=h.imp (RepL.grow g)
theorem Grow.of(k:∀b o,H b=some o->H' b=some o):Grow J H J H':=⟨λ_ _ h=>h,λ_ h n=>absurd h n,λb o _ h=>.inl (k b o h),λb h=>by
 cases e:H b with
 | none=>rfl
 | some o=>rw[k b o e]at h;cases h⟩
theorem AbS.more(h:AbS K J S H)(k:∀b o,H b=some o->H' b=some o):AbS K J S H':=
 ⟨h.len,h.nd,λi a d e q=>by
  obtain⟨o,eo,r⟩:=h.ob i a d e q;exact⟨o,k _ _ eo,r.grow (.of k)⟩⟩
theorem zE4(n:H p=none):∀b u,H b=some u->upd H p o b=some u:=λb u e=>by rw[zAb (zAa e n)];exact e
theorem AbS.push(h:AbS K J S H)(n:H p=none):AbS K J S (upd H p o):=h.more (zE4 n)
theorem Grow.push(n:H p=none):Grow J H J (upd H p o):=.of (zE4 n)
theorem Grow.name(n:H p=none):Grow J H (J++[p]) (upd H p o) where
 pre:=λi a h=>by rw[vy (xO.mp h).1];exact h
 new:=λa h z=>by
  rcases xX.mp h with h|h
  ·exact absurd h z
  ·rw[xI.mp h];exact n
 keep:=λb u _ e=>.inl (zE4 n b u e)
 dom:=(Grow.push (J:=J) n).dom
theorem AbS.name(h:AbS K J S H)(n:H p=none)(r:ObD K J H d o):AbS K (J++[p]) (S++[d]) (upd H p o):=by
 have hp:=h.out n;have g:Grow J H (J++[p]) (upd H p o):=.name n;refine⟨by simp[h.len],?_,λi a d' e q=>?_⟩
 ·refine yd.mpr ⟨h.nd,(vo.mpr ⟨by simp,vH⟩),λx hx y hy=>?_⟩;rintro rfl;exact hp (by rw[<- xI.mp hy];exact hx)
 ·by_cases hi:i<J.length
  ·rw[vy hi]at e;rw[vy (by rw[<- h.len];exact hi)]at q;obtain⟨o',eo,r'⟩:=h.ob i a d' e q;exact⟨o',zE4 n _ _ eo,r'.grow g⟩
  ·have hl:i=J.length:=by
    have:=(xO.mp e).1;simp at this;lia
   subst hl;rw[vG (xk _)]at e;rw[vG (by rw[h.len];exact xk _),h.len]at q;simp at e q;subst e q;exact⟨o,zAe,r.grow g⟩
theorem Grow.write{n:Nat}(e:J[n]?=some a):Grow J H J (upd H a o) where
 pre:=λ_ _ h=>h
 new:=λb h z=>absurd h z
 keep:=λb u z h=>.inl (by rw[zAb (λq=>z (by rw[q];exact uF e))];exact h)
 dom:=λb h=>by
  by_cases q:b=a
  ·subst q;rw[zAe]at h;cases h
  ·rw[zAb q]at h;exact h
theorem AbS.write{n:Nat}(h:AbS K J S H)(e:J[n]?=some a)(r:ObD K J H d o):AbS K J (S.set n d) (upd H a o):=by
 have g:Grow J H J (upd H a o):=.write e;refine⟨by simp[h.len],h.nd,λi b d' ei q=>?_⟩;by_cases hi:i=n
 ·subst hi;rw[e]at ei;cases ei;rw[ud (h.lt e)]at q;cases q;exact⟨o,zAe,r.grow g⟩
 ·rw[vT (xG hi)]at q;obtain⟨o',eo,r'⟩:=h.ob i b d' ei q;have hb:b≠a:=λz=>by
   subst z;exact hi ((List.getElem?_inj (xO.mp ei).1 h.nd).mp (ei.trans e.symm))
  exact⟨o',by rw[zAb hb];exact eo,r'.grow g⟩
theorem lowL_iff{n:Nat}:∀{l:List D},DS.lowL n l=true <-> ∀d∈l,d.low n=true
 | []=>⟨(λ_ _ h=>nomatch h),λ_=>rfl⟩
 | d::r=>by
  show(d.low n && DS.lowL n r)=true <-> _;rw[xE,lowL_iff (l:=r)];simp
theorem zJw(n:Nat)(k:Key):(keyD k).low n=true:=by cases k <;> rfl
theorem DOb.low(h:DOb o t ks xs):DS.lowL n ks=true:=by
 rcases h with⟨_,kvs,_,rfl,_⟩|⟨_,kvs,_,rfl,_⟩
 ·exact lowL_iff.mpr λd hd=>by obtain⟨p,_,rfl⟩:=xn.mp hd;exact zJw n p.1
 ·exact lowL_iff.mpr λd hd=>by
   obtain⟨p,_,rfl⟩:=xn.mp hd;show DS.lowL n (p.1.map keyD)=true;exact lowL_iff.mpr λd hd=>by obtain⟨q,_,rfl⟩:=xn.mp hd;exact zJw n q
mutual
theorem Rep.low:∀(d:D) (v:V),Rep K J H d v->d.low J.length=true
 | .non,_,_=>rfl
 | .bl _,_,_=>rfl
 | .int _,_,_=>rfl
 | .str _,_,_=>rfl
 | .ty _,_,_=>rfl
 | .tup ds,v,⟨a,xs,e,t,r⟩=>RepL.low ds xs r
 | .lst ds,v,⟨a,xs,e,t,r⟩=>RepL.low ds xs r
 | .ktup ds,v,⟨a,xs,e,t,r⟩=>RepL.low ds xs r
 | .klst ds,v,⟨a,xs,e,t,r⟩=>RepL.low ds xs r
 | .dct _ ks vs,v,⟨a,o,xs,e,n,h,t,r⟩=>by
  show(DS.lowL J.length ks && DS.lowL J.length vs)=true;rw[RepL.low vs xs r,Bool.and_true];exact DOb.low t
 | .st _,_,h=>False.elim h
 | .ref n,v,⟨a,e,h⟩=>xx (xO.mp e).1
theorem RepL.low:∀(ds:List D) (xs:List V),RepL K J H ds xs->DS.lowL J.length ds=true
 | [],_,_=>rfl
 | d::ds,xs,⟨x,r,e,h,t⟩=>by
  show(d.low J.length && DS.lowL J.length ds)=true;rw[Rep.low d x h,RepL.low ds r t];rfl
end
theorem ObD.low :∀{d:D},ObD K J H d o->d.low J.length=true
 | .lst ds,⟨xs,_,r⟩=>RepL.low ds xs r
 | .dct _ ks vs,⟨xs,t,r⟩=>by
  show(DS.lowL J.length ks && DS.lowL J.length vs)=true;rw[RepL.low vs xs r,Bool.and_true];exact DOb.low t
 | .non,h=>False.elim h
 | .bl _,h=>False.elim h
 | .int _,h=>False.elim h
 | .str _,h=>False.elim h
 | .ty _,h=>False.elim h
 | .tup _,h=>False.elim h
 | .ktup _,h=>False.elim h
 | .klst _,h=>False.elim h
 | .st _,h=>False.elim h
 | .ref _,h=>False.elim h
theorem zCi{n:Nat}(h:a ∉ J):a ∉ J.take n:=λz=>h (List.mem_of_mem_take z)
mutual
theorem Rep.cut(n:Nat):∀(d:D) (v:V),d.low n=true->Rep K J H d v->Rep K (J.take n) H d v
 | .non,_,_,h=>h
 | .bl _,_,_,h=>h
 | .int _,_,_,h=>h
 | .str _,_,_,h=>h
 | .ty _,_,_,h=>h
 | .tup ds,v,l,⟨a,xs,e,t,r⟩=>⟨a,xs,e,⟨t.1,zCi t.2⟩,RepL.cut n ds xs l r⟩
 | .ktup ds,v,l,⟨a,xs,e,t,r⟩=>⟨a,xs,e,t,RepL.cut n ds xs l r⟩
 | .klst ds,v,l,⟨a,xs,e,t,r⟩=>⟨a,xs,e,by
   rcases t with t|t
   ·exact .inl ⟨t.1,zCi t.2⟩
   ·exact .inr t,RepL.cut n ds xs l r⟩
 | .lst ds,v,l,⟨a,xs,e,t,r⟩=>⟨a,xs,e,⟨t.1,zCi t.2⟩,RepL.cut n ds xs l r⟩
 | .dct _ ks vs,v,l,⟨a,o,xs,e,q,h,t,r⟩=>⟨a,o,xs,e,zCi q,h,t,RepL.cut n vs xs (by
   have l:(DS.lowL n ks && DS.lowL n vs)=true:=l;rw[xE]at l;exact l.2) r⟩
 | .st _,_,_,h=>h
 | .ref m,v,l,⟨a,e,h⟩=>⟨a,by rw[uE (uR l)];exact e,h⟩
theorem RepL.cut(n:Nat):∀(ds:List D) (xs:List V),DS.lowL n ds=true->RepL K J H ds xs->RepL K (J.take n) H ds xs
 | [],_,_,h=>h
 | d::ds,xs,l,⟨x,r,e,h,t⟩=>by
  have l:(d.low n && DS.lowL n ds)=true:=l;rw[xE]at l;exact⟨x,r,e,Rep.cut n d x l.1 h,RepL.cut n ds r l.2 t⟩
end
theorem ObD.cut{n:Nat}:∀{d:D},d.low n=true->ObD K J H d o->ObD K (J.take n) H d o
 | .lst ds,l,⟨xs,e,r⟩=>⟨xs,e,RepL.cut n ds xs l r⟩
 | .dct _ ks vs,l,⟨xs,t,r⟩=>⟨xs,t,RepL.cut n vs xs (by
   have l:(DS.lowL n ks && DS.lowL n vs)=true:=l;rw[xE]at l;exact l.2) r⟩
 | .non,_,h=>False.elim h
 | .bl _,_,h=>False.elim h
 | .int _,_,h=>False.elim h
 | .str _,_,h=>False.elim h
 | .ty _,_,h=>False.elim h
 | .tup _,_,h=>False.elim h
 | .ktup _,_,h=>False.elim h
 | .klst _,_,h=>False.elim h
 | .st _,_,h=>False.elim h
 | .ref _,_,h=>False.elim h
theorem zEm{n:Nat}:∀{S S':Store},DS.keeps n S S'->∀i,i<S.length->∃b,S'[i]?=some b/\(S[i]?=some b\/b.low n=true)
 | [],_,_,i,hi=>by simp at hi
 | a::r,[],h,_,_=>False.elim h
 | a::r,b::t,h,0,_=>⟨b,rfl,by
   rcases h.1 with e|e
   ·subst e;exact .inl rfl
   ·exact .inr e⟩
 | a::r,b::t,h,i+1,hi=>by simpa using zEm h.2 i (by simpa using hi)
theorem Grow.take(h:AbS K J S H)(g:Grow J H J' H'):J'.take S.length=J:=by
 refine List.ext_getElem? λi=>?_
 by_cases hi:i<S.length
 ·rw[uE hi];have hj:i<J.length:=by rw[h.len];exact hi
  rw[xF hj];exact g.pre i _ (xF hj)
 ·rw[vS (by rw[vh];lia),vS (by rw[h.len];lia)]
theorem Grow.cut(g:Grow J H J' H'):Grow J H J H':=⟨λ_ _ h=>h,λ_ h n=>absurd h n,g.keep,g.dom⟩
theorem AbS.cut(h:AbS K J S H)(g:Grow J H J' H')(h':AbS K J' S' H')(k:DS.keeps S.length S S'):AbS K J (S'.take S.length) H':=by
 have e:=g.take h;refine⟨?_,h.nd,λi a d ei q=>?_⟩
 ·have l:∀i,i<S.length->i<S'.length:=λi hi=>by
   obtain⟨b,eb,_⟩:=zEm k i hi;exact(xO.mp eb).1
  rw[h.len,vh];by_cases z:S.length=0
  ·lia
  ·have:=l (S.length-1) (by nofun);lia
 ·have hi:=h.lt ei;rw[uE hi]at q;obtain⟨b,eb,lo⟩:=zEm k i hi;rw[q]at eb;cases eb;obtain⟨o,eo,r⟩:=h'.ob i a d (g.pre i a ei) q;have low:d.low S.length=true:=by
   rcases lo with lo|lo
   ·obtain⟨o',_,r'⟩:=h.ob i a d ei lo;have:=r'.low;rw[h.len]at this;exact this
   ·exact lo
  have:=r.cut low;rw[e]at this;exact⟨o,eo,this⟩
theorem zZh(h:AbS K J S H)(g:Grow J H J' H')(h':AbS K J' S' H')(r:Rep K J' H' d v)(e:DS.fin S d S'=.ok d2 S2):∃J2,AbS K J2 S2 H'/\Grow J H J2 H'/\Rep K J2 H' d2 v:=by
 have ek:=g.take h;unfold DS.fin at e;by_cases k:DS.keeps S.length S S'
 ·rw[xf k]at e;by_cases l:d.low S.length=true
  ·rw[xf l]at e;cases e;refine⟨J,h.cut g h' k,g.cut,?_⟩;have:=Rep.cut _ _ _ l r;rw[ek]at this;exact this
  ·rw[xg l]at e;cases d with
   | ref n=>
    obtain⟨a,ea,rfl⟩:=r;obtain⟨c,ec,o,eo,rc⟩:=h'.at ea;simp only[ec]at e;by_cases lc:c.low S.length=true
    ·rw[xf lc]at e;cases e;refine⟨J,h.cut g h' k,g.cut,?_⟩;have ha:a ∉ J:=λz=>by
      obtain⟨i,ei⟩:=uK.mp z;have hi:=h.lt ei;have e2:=g.pre i a ei;have:=(List.getElem?_inj (xO.mp e2).1 h'.nd).mp (e2.trans ea.symm);subst this;exact l (xx hi)
     have rc2:=rc.cut lc;rw[ek]at rc2;cases d2 with
     | lst ds=>obtain⟨xs,rfl,rl⟩:=rc2;exact⟨a,xs,rfl,⟨eo,ha⟩,rl⟩
     | dct _ ks vs=>obtain⟨xs,t,rl⟩:=rc2;exact⟨a,o,xs,rfl,ha,.inl eo,t,rl⟩
     | _=>exact False.elim rc2
    ·rw[xg lc]at e;cases e;exact⟨J',h',g,a,ea,rfl⟩
   | _=>cases e;exact⟨J',h',g,r⟩
 ·rw[xg k]at e;cases e;exact⟨J',h',g,r⟩
end
abbrev XE:=Exn->Store->Js->Hp->Prop
noncomputable def XE0:XE:=λ_ _ _ _=>False
def Post{α:Type}(K:PySem.W.Frag)(E:XE)(J:Js)(H:Hp)(r:Rs α)(P:α->Store->Js->Hp->Prop):Prop:=match r with
 | .ok a S=>∀J' H',AbS K J' S H'->Grow J H J' H'->P a S J' H'
 | .ex x S=>∀J' H',AbS K J' S H'->Grow J H J' H'->E x S J' H'
 | .bad=>False
def PostS(K:PySem.W.Frag)(E:XE)(J:Js)(H:Hp)(r:SR)(D:Ends):Prop:=match r with
 | .nx e S=>∀J' H' σ,AbS K J' S H'->Grow J H J' H'->RepE K J' H' e σ->D.nx σ H'
 | .rt d S=>∀J' H' v,AbS K J' S H'->Grow J H J' H'->Rep K J' H' d v->D.rt v H'
 | .bk e S=>∀J' H' σ,AbS K J' S H'->Grow J H J' H'->RepE K J' H' e σ->D.bk σ H'
 | .ct e S=>∀J' H' σ,AbS K J' S H'->Grow J H J' H'->RepE K J' H' e σ->D.ct σ H'
 | .ex x S=>∀J' H',AbS K J' S H'->Grow J H J' H'->E x S J' H'
 | .bad=>False
section
variable {α β:Type}{K:PySem.W.Frag}{E:XE}{J J1:Js}{H H1:Hp}{S:Store}
theorem Post.grow{r:Rs α}{P:α->Store->Js->Hp->Prop}(g:Grow J H J1 H1)(h:Post K E J H r P):Post K E J1 H1 r P:=by
 cases r with
 | ok a S=>exact λJ' H' h1 h2=>h J' H' h1 (g.trans h2)
 | ex x S=>exact λJ' H' h1 h2=>h J' H' h1 (g.trans h2)
 | bad=>exact h
theorem Post.bind{r:Rs α}{k:α->Store->Rs β}{P:β->Store->Js->Hp->Prop}(h:Post K E J H (r.bind k) P):Post K E J H r (λa S J' H'=>Post K E J' H' (k a S) P):=by
 cases r with
 | ok a S=>exact λJ' H' _ g=>Post.grow g h
 | ex x S=>exact h
 | bad=>exact h
theorem Post.imp{r:Rs α}{P P':α->Store->Js->Hp->Prop}(h:Post K E J H r P)(k:∀a S J' H',r=.ok a S->AbS K J' S H'->Grow J H J' H'->P a S J' H'->P' a S J' H'):Post K E J H r P':=by
 cases r with
 | ok a S=>exact λJ' H' h1 h2=>k a S J' H' rfl h1 h2 (h J' H' h1 h2)
 | ex x S=>exact h
 | bad=>exact h
theorem Post.map{r:Rs α}{P P':α->Store->Js->Hp->Prop}(h:Post K E J H r P)(k:∀a S J' H',r=.ok a S->AbS K J' S H'->Grow J H J' H'->(∀J2 H2,AbS K J2 S H2->Grow J H J2 H2->P a S J2 H2)->P' a S J' H'):Post K E J H r P':=by
 cases r with
 | ok a S=>exact λJ' H' h1 h2=>k a S J' H' rfl h1 h2 h
 | ex x S=>exact h
 | bad=>exact h
theorem Post.lift{o:Option α}{P:α->Store->Js->Hp->Prop}(h:Post K E J H (DS.lift o S) P):∃a,o=some a/\∀J' H',AbS K J' S H'->Grow J H J' H'->P a S J' H':=by
 cases o with
 | some a=>exact⟨a,rfl,h⟩
 | none=>exact False.elim h
theorem PostS.grow{r:SR}{D:Ends}(g:Grow J H J1 H1)(h:PostS K E J H r D):PostS K E J1 H1 r D:=by
 cases r with
 | nx e S=>exact λJ' H' σ h1 h2=>h J' H' σ h1 (g.trans h2)
 | bk e S=>exact λJ' H' σ h1 h2=>h J' H' σ h1 (g.trans h2)
 | ct e S=>exact λJ' H' σ h1 h2=>h J' H' σ h1 (g.trans h2)
 | rt e S=>exact λJ' H' σ h1 h2=>h J' H' σ h1 (g.trans h2)
 | ex x S=>exact λJ' H' h1 h2=>h J' H' h1 (g.trans h2)
 | bad=>exact h
theorem PostS.then{r:Rs α}{k:α->Store->SR}{D:Ends}(h:PostS K E J H (r.then k) D):Post K E J H r (λa S J' H'=>PostS K E J' H' (k a S) D):=by
 cases r with
 | ok a S=>exact λJ' H' _ g=>PostS.grow g h
 | ex x S=>exact h
 | bad=>exact h
end
section
variable (K:PySem.W.Frag) (E:XE)
noncomputable def tOf (m:DS.EM):TE:=λσ H Q=>∃env S J,AbS K J S H/\RepE K J H env σ/\Post K E J H (m env S) (λd _ J' H'=>∀v,Rep K J' H' d v->Q v H')
noncomputable def tOfF (m:DS.EM):TE:=λσ H Q=>∃env S J,AbS K J S H/\RepE K J H env σ/\Post K E J H (m env S) (λd _ J' H'=>∀p o,H' p=none->ObD K J' H' d o->Q (.ref p) (upd H' p o))
noncomputable def ttOf (m:DS.TM):TT:=λσ H Q=>∃env S J,AbS K J S H/\RepE K J H env σ/\Post K E J H (m env S) (λb _ _ H'=>Q b H')
noncomputable def aOf (m:DS.AM):TA:=λσ H Q=>∃env S J,AbS K J S H/\RepE K J H env σ/\Post K E J H (m env S) (λds _ J' H'=>∀vs,RepL K J' H' ds vs->Q vs H')
noncomputable def tsOf (m:DS.SM):TS:=λD σ H=>∃env S J,AbS K J S H/\RepE K J H env σ/\PostS K E J H (m env S) D
noncomputable def gOf (m:DS.GM):TG:=λv σ H Q=>∃env S J d env',AbS K J S H/\RepE K J H env σ/\Rep K J H d v/\m S d env=some env'/\∀σ',RepE K J H env' σ'->Q σ' H
noncomputable def gsOf (m:Store->List D->DS.Env->Option DS.Env):TGs:=λvs σ H Q=>∃env S J ds env',AbS K J S H/\RepE K J H env σ/\RepL K J H ds vs/\m S ds env=some env'/\∀σ',RepE K J H env' σ'->Q σ' H
structure ItOk (J0:Js) (H0:Hp) (w:DS.Walk) (I:It):Prop where
 go:∀(i:Nat) (H:Hp) (J:Js) (S:Store),AbS K J S H->Grow J0 H0 J H->DS.gOk S w.gd->i<w.its.length->I.go i H
 yld:∀(i:Nat) (H:Hp) (J:Js) (S:Store) (x:V) (H':Hp),AbS K J S H->Grow J0 H0 J H->DS.gOk S w.gd->I.yld i H x H'->∀d,w.its[i]?=some d->AbS K J S H'/\Grow J H J H'/\Rep K J H' d x
 stop:∀(i:Nat) (H:Hp) (J:Js) (S:Store),AbS K J S H->Grow J0 H0 J H->DS.gOk S w.gd->w.its.length<=i->I.stop i H
noncomputable def iOf (m:DS.IM):TI:=λσ H R=>∃env S J,AbS K J S H/\RepE K J H env σ/\Post K E J H (m env S) (λw _ J' H'=>∀I,ItOk K J' H' w I->R I H')
noncomputable def r2Of (g:Store->D->D->Option D):R2:=λx y H Q=>∃J S d1 d2 d,AbS K J S H/\Rep K J H d1 x/\Rep K J H d2 y/\g S d1 d2=some d/\∀v H',AbS K J S H'->Grow J H J H'->Rep K J H' d v->Q v H'
def cOf(g:Store->List D->Option D):List V->Hp->VK->Prop:=λxs H Q=>∃J S ds d,AbS K J S H/\RepL K J H ds xs/\g S ds=some d/\∀v H',AbS K J S H'->Grow J H J H'->Rep K J H' d v->Q v H'
noncomputable def yB2 (g:Store->D->D->Option D):R2:=λx y H Q=>∃J S d1 d2 d,AbS K J S H/\Rep K J H d1 x/\Rep K J H d2 y/\g S d1 d2=some d/\∀p o H',AbS K J S H'->Grow J H J H'->H' p=none->ObD K J H' d o->Q (.ref p) (upd H' p o)
def cOfF(g:Store->List D->Option D):List V->Hp->VK->Prop:=λxs H Q=>∃J S ds d,AbS K J S H/\RepL K J H ds xs/\g S ds=some d/\∀p o H',AbS K J S H'->Grow J H J H'->H' p=none->ObD K J H' d o->Q (.ref p) (upd H' p o)
def mOf(g:Store->D->List D->Option (D × Store)):V->List V->Hp->VK->Prop:=λx xs H Q=>∃J S d1 ds d S',AbS K J S H/\Rep K J H d1 x/\RepL K J H ds xs/\g S d1 ds=some (d,S')/\∀v H',AbS K J S' H'->Grow J H J H'->Rep K J H' d v->Q v H'
noncomputable def spOf (F:DS.Fn):Sp:=λvs H Q _=>∃J S ds,AbS K J S H/\RepL K J H ds vs/\Post K E J H (F ds S) (λd _ J' H'=>∀v,Rep K J' H' d v->Q v H')
end
structure DE (X:Cx) (K:PySem.W.Frag) (E:XE) (e:Expr) (m:DS.EM):Prop where h:SE X e (tOf K E m)
structure DF (X:Cx) (K:PySem.W.Frag) (E:XE) (e:Expr) (m:DS.EM):Prop where h:SE X e (tOfF K E m)
structure DT (X:Cx) (K:PySem.W.Frag) (E:XE) (e:Expr) (m:DS.TM):Prop where h:ST X e (ttOf K E m)
structure DW (X:Cx) (K:PySem.W.Frag) (E:XE) (e:Expr) (m:DS.TM):Prop where h:SW X e (ttOf K E m)
structure DIf (X:Cx) (K:PySem.W.Frag) (E:XE) (es:List Expr) (m:DS.TM):Prop where h:SIfs X es (ttOf K E m)
structure DA (X:Cx) (K:PySem.W.Frag) (E:XE) (es:List Expr) (m:DS.AM):Prop where
 h:SA X es (aOf K E m)
 len:∀env S ds S',m env S=.ok ds S'->ds.length=es.length
structure DS1 (X:Cx) (K:PySem.W.Frag) (E:XE) (st:Stmt) (m:DS.SM):Prop where h:SS X st (tsOf K E m)
structure DSs (X:Cx) (K:PySem.W.Frag) (E:XE) (st:List Stmt) (m:DS.SM):Prop where h:SSs X st (tsOf K E m)
structure DG (X:Cx) (K:PySem.W.Frag) (e:Expr) (m:DS.GM):Prop where h:SG X e (gOf K m)
structure DGs (X:Cx) (K:PySem.W.Frag) (es:List Expr) (m:List DS.GM):Prop where h:SGs X es (gsOf K (DS.gAll m))
structure DI (X:Cx) (K:PySem.W.Frag) (E:XE) (tg e:Expr) (m:DS.IM):Prop where h:SI X tg e (iOf K E m)
section
variable {X:Cx}{K:PySem.W.Frag}{E:XE}{e a b c:Expr}{es:List Expr}{p pos:Pos}{m ma mb mc:DS.EM}{mt mu:DS.TM}
theorem SE.imp{t t':TE}(h:SE X e t)(k:∀σ H Q,t' σ H Q->t σ H Q):SE X e t':=⟨λpins s σ H Q I q=>h.h pins s σ H Q I (k σ H Q q)⟩
theorem ST.imp{t t':TT}(h:ST X e t)(k:∀σ H Q,t' σ H Q->t σ H Q):ST X e t':=⟨λpins s σ H Q I q=>h.h pins s σ H Q I (k σ H Q q)⟩
theorem SW.imp{t t':TT}(h:SW X e t)(k:∀σ H Q,t' σ H Q->t σ H Q):SW X e t':=⟨λwhole pins s σ H Q I q=>h.h whole pins s σ H Q I (k σ H Q q)⟩
theorem SIfs.imp{t t':TT}(h:SIfs X es t)(k:∀σ H Q,t' σ H Q->t σ H Q):SIfs X es t':=⟨λpins s σ H Q I q=>h.h pins s σ H Q I (k σ H Q q)⟩
theorem SA.imp{t t':TA}(h:SA X es t)(k:∀σ H Q,t' σ H Q->t σ H Q):SA X es t':=⟨λpos pins s σ H Q I q=>h.h pos pins s σ H Q I (k σ H Q q)⟩
theorem SS.imp{st:Stmt}{t t':TS}(h:SS X st t)(k:∀D σ H,t' D σ H->t D σ H):SS X st t':=⟨λpins s σ H D I q=>h.h pins s σ H D I (k D σ H q)⟩
theorem SSs.imp{st:List Stmt}{t t':TS}(h:SSs X st t)(k:∀D σ H,t' D σ H->t D σ H):SSs X st t':=⟨λpins s σ H D I q=>h.h pins s σ H D I (k D σ H q)⟩
theorem SG.imp{t t':TG}(h:SG X e t)(k:∀v σ H Q,t' v σ H Q->t v σ H Q):SG X e t':=⟨λpins s σ H v u Q I r q=>h.h pins s σ H v u Q I r (k v σ H Q q)⟩
theorem SGs.imp{t t':TGs}(h:SGs X es t)(k:∀v σ H Q,t' v σ H Q->t v σ H Q):SGs X es t':=⟨λpins s σ H v u Q I r q=>h.h pins s σ H v u Q I r (k v σ H Q q)⟩
theorem SI.imp{t t':TI}(h:SI X tg e t)(k:∀σ H R,t' σ H R->t σ H R):SI X tg e t':=⟨λpins s σ H R I q=>h.h pins s σ H R I (k σ H R q)⟩
theorem ObD.rep{K:PySem.W.Frag}{J:Js}{S:Store}{H:Hp}{d:D}{o:HO}{p:Addr}(ha:AbS K J S H)(n:H p=none)(r:ObD K J H d o):Rep K J (upd H p o) d (.ref p):=by
 have r2:=r.grow (Grow.push (o:=o) n);have hp:=ha.out n;cases d with
 | lst ds=>obtain⟨xs,rfl,rl⟩:=r2;exact⟨p,xs,rfl,⟨zAe,hp⟩,rl⟩
 | dct _ ks vs=>obtain⟨xs,t,rl⟩:=r2;exact⟨p,o,xs,rfl,hp,.inl zAe,t,rl⟩
 | _=>exact False.elim r2
theorem yC0(h:DF X K E e m):DE X K E e m:=⟨h.h.imp λσ H Q ⟨env,S,J,ha,he,q⟩=>⟨env,S,J,ha,he,q.map λd S' J' H' _ h1 g k p o n r=>
 k J' (upd H' p o) (h1.push n) (g.trans (.push n)) (.ref p) (r.rep h1 n)⟩⟩
theorem yA2(h:DF X K E e m):DE X K E e (DS.eNew m):=⟨h.h.imp λσ H Q ⟨env,S,J,ha,he,q⟩=>⟨env,S,J,ha,he,q.bind.map λd S' J' H' _ h1 g k p o n r=>
 k J' H' h1 g (J'++[p]) (upd H' p o) (h1.name n r) (.name n) (.ref p) ⟨p,by rw[<- h1.len,vG (xk _)];simp,rfl⟩⟩⟩
theorem yA0(i:Nat)(hN:X.N[i]?=some x:=by rfl)(hv:Vis X.env.scope x:=by first|exact Or.inl rfl|exact Or.inr (Or.inl rfl)|exact Or.inr (Or.inr rfl))(hd:(x == ("__debug__":Str))=false:=by decide)
  (hcd:(x == ("__classdict__":Str))=false:=by decide):DE X K E (.Name x pos) (DS.eVar i):=⟨(pv' i hN hv hd hcd).imp λσ H Q hq2=>by
 obtain⟨env,S,J,ha,he,q⟩:=hq2;unfold DS.eVar at q;cases e1:env[i]? with
 | none=>rw[e1]at q;exact False.elim q
 | some o=>
  cases o with
  | none=>rw[e1]at q;exact False.elim q
  | some d=>
   rw[e1]at q;obtain⟨v,ev,r⟩:=he.get i d e1;exact⟨v,ev,q J H ha .refl v r⟩⟩
theorem de_c(h:SE X e (tC v))(r:∀J H,Rep K J H d v):DE X K E e (DS.eC d):=⟨h.imp λσ H Q hz8=>by obtain⟨env,S,J,ha,he,q⟩:=hz8;exact q J H ha .refl v (r J H)⟩
theorem yA3{i:Int}:DE X K E (.Constant (.int i) j pos) (DS.eC (.int i)):=de_c zTw λ_ _=>rfl
theorem yC5 :DE X K E (.Constant (.bool i) j pos) (DS.eC (.bl i)):=de_c zY4 λ_ _=>rfl
theorem zJb{r:R2}{g:Store->D->D->Option D}(hr:∀x y H Q,r2Of K g x y H Q->r x y H Q):∀σ H Q,tOf K E (DS.eOp g ma mb) σ H Q->tOp r (tOf K E ma) (tOf K E mb) σ H Q:=λσ H Q ⟨env,S,J,ha,he,q⟩=>
 ⟨env,S,J,ha,he,q.bind.imp λd1 S1 J1 H1 _ a1 g1 q1 x rx=>⟨env,S1,J1,a1,he.grow g1,q1.bind.imp λd2 S2 J2 H2 _ a2 g2 q2 y ry=>by
  obtain⟨d,e,k⟩:=q2.lift;exact hr _ _ _ _ ⟨J2,S2,d1,d2,d,a2,Rep.grow g2 _ _ rx,ry,e,λv H' h1 h2 h3=>k J2 H' h1 h2 v h3⟩⟩⟩
theorem yBz{g:Store->D->D->Option D}(ho:OpR X (binaryOp op) (r2Of K g))(ha:DE X K E a ma)(hb:DE X K E b mb):DE X K E (.BinOp a op b pos) (DS.eOp g ma mb):=⟨(zXy ho ha.h hb.h).imp (zJb λ_ _ _ _ h=>h)⟩
theorem yA4{g:Store->D->D->Option D}(ho:OpR X (compareOp op) (r2Of K g))(ha:DE X K E a ma)(hb:DE X K E b mb)(hm:behindInMarks op b=false):DE X K E (.Compare a [op] [b] pos) (DS.eOp g ma mb):=⟨(zQ8 ho ha.h hb.h hm).imp (zJb λ_ _ _ _ h=>h)⟩
theorem yC2{g:Store->D->D->Option D}(hr:IxR X (r2Of K g))(ha:DE X K E a ma)(hb:DE X K E b mb)(h:nsl b=true:=by rfl):DE X K E (.Subscript a b pos) (DS.eOp g ma mb):=⟨(qix' hr ha.h hb.h h).imp (zJb λ_ _ _ _ h=>h)⟩
theorem yA5:DA X K E [] DS.aNil:=⟨pa_nil'.imp λσ H Q hz9=>by obtain⟨env,S,J,ha,he,q⟩:=hz9;exact q J H ha .refl [] rfl,λ_ _ _ _ e=>by cases e;rfl⟩
theorem zW3(ha:DE X K E e m)(hr:DA X K E es am)(h:nst e=true:=by rfl):DA X K E (e::es) (DS.zA0 m am):=by
 refine⟨(qa' ha.h hr.h h).imp λσ H Q ⟨env,S,J,h,he,q⟩=>⟨env,S,J,h,he,q.bind.imp λd1 S1 J1 H1 _ a1 g1 q1 x rx=>⟨env,S1,J1,a1,he.grow g1,q1.bind.imp λd2 S2 J2 H2 _ a2 g2 q2 ys ry=>
  q2 J2 H2 a2 .refl (x::ys) ⟨x,ys,rfl,Rep.grow g2 _ _ rx,ry⟩⟩⟩,λenv S ds S' e1=>?_⟩
 unfold DS.zA0 at e1;cases e2:m env S with
 | ok d S1=>
  rw[e2,Rs.bind_ok]at e1;cases e3:am env S1 with
  | ok dr S2=>rw[e3,Rs.bind_ok]at e1;cases e1;simp[hr.len _ _ _ _ e3]
  | _=>rw[e3]at e1;cases e1
 | _=>rw[e2]at e1;cases e1
theorem z1000{n:Nat}(h:n<=1000):n<=sizeLine:=xm h (by decide)
theorem yA1(h:DA X K E es am)(hz:es.length<=1000:=by decide):DE X K E (.Tuple es k pos) (DS.eTup am):=⟨(zTu h.h).imp λσ H Q ⟨env,S,J,ha,he,q⟩=>
 ⟨env,S,J,ha,he,q.bind.imp λds S1 J1 H1 e1 a1 g1 q1 xs rx=>⟨by rw[<- rx.length,h.len _ _ _ _ e1];exact z1000 hz,λp n=>
  q1 J1 (upd H1 p (.tup xs)) (a1.push n) (.push n) (.ref p) ⟨p,xs,rfl,⟨zAe,a1.out n⟩,RepL.grow (.push n) _ _ rx⟩⟩⟩⟩
theorem zZz(h:DA X K E es am)(hz:es.length<=1000:=by decide):DF X K E (.List es pos) (DS.eLst am):=⟨(zTv h.h).imp λσ H Q ⟨env,S,J,ha,he,q⟩=>
 ⟨env,S,J,ha,he,q.bind.imp λds S1 J1 H1 e1 a1 g1 q1 xs rx=>⟨by rw[<- rx.length,h.len _ _ _ _ e1];exact z1000 hz,λp n=>
  q1 J1 H1 a1 .refl p (.lst xs) n ⟨xs,rfl,rx⟩⟩⟩⟩
theorem zW0:DF X K E (.Dict [] [] pos) (DS.eDct false):=⟨pe_dnewK'.imp λσ H Q ⟨env,S,J,ha,he,q⟩ p n=>q J H ha .refl p (.dK []) n ⟨[],.inl ⟨rfl,[],rfl,rfl,rfl⟩,rfl⟩⟩
theorem zVz:DF X K E (.Dict [] [] pos) (DS.eDct true):=⟨pe_dnewT'.imp λσ H Q ⟨env,S,J,ha,he,q⟩ p n=>q J H ha .refl p (.dT []) n ⟨[],.inr ⟨rfl,[],rfl,rfl,rfl⟩,rfl⟩⟩
theorem yAa{r:List V->Hp->VK->Prop}{g:Store->List D->Option D}(hr:∀xs H Q,cOf K g xs H Q->r xs H Q):∀σ H Q,tOf K E (DS.eCB g am) σ H Q->tCB r (aOf K E am) σ H Q:=λσ H Q ⟨env,S,J,ha,he,q⟩=>
 ⟨env,S,J,ha,he,q.bind.imp λds S1 J1 H1 _ a1 g1 q1 xs rx=>by
  obtain⟨d,e,k⟩:=q1.lift;exact hr _ _ _ ⟨J1,S1,ds,d,a1,rx,e,λv H' h1 h2 h3=>k J1 H' h1 h2 v h3⟩⟩
theorem yA9{r:List V->Hp->VK->Prop}{g:Store->List D->Option D}(hr:∀xs H Q,cOfF K g xs H Q->r xs H Q):∀σ H Q,tOfF K E (DS.eCB g am) σ H Q->tCB r (aOf K E am) σ H Q:=λσ H Q ⟨env,S,J,ha,he,q⟩=>
 ⟨env,S,J,ha,he,q.bind.imp λds S1 J1 H1 _ a1 g1 q1 xs rx=>by
  obtain⟨d,e,k⟩:=q1.lift;exact hr _ _ _ ⟨J1,S1,ds,d,a1,rx,e,λp o H' h1 h2 h3=>k J1 H' h1 h2 p o h3⟩⟩
theorem yC4{x:Str}{id:String}{am:DS.AM}{g:Store->List D->Option D}(hc:zB9 X (.builtin id) (cOf K g))(hg:Gl X x)(hm:X.mg x=none)(hv:bootBuiltins x=some (.builtin id))(ha:DA X K E (e::es) am)(hn:x≠"__name__":=by decide)(hdb:(x == ("__debug__":Str))=false:=by decide)
  (h:(e::es).all nst=true:=by rfl):DE X K E (.Call (.Name x p) (e::es) [] pos) (DS.eCB g am):=⟨(zM9 hc hg hm hv ha.h hn hdb h).imp (yAa λ_ _ _ h=>h)⟩
theorem yC3{g:Store->List D->Option D}(hc:zB9 X (.type T) (cOf K g))(hg:Gl X x)(hm:X.mg x=none)(hv:bootBuiltins x=some (.type T))(ha:DA X K E (e::es) am)(hn:x≠"__name__":=by decide)(hdb:(x == ("__debug__":Str))=false:=by decide)
  (h:(e::es).all nst=true:=by rfl):DE X K E (.Call (.Name x p) (e::es) [] pos) (DS.eCB g am):=⟨(zTd hc hg hm hv ha.h hn hdb h).imp (yAa λ_ _ _ h=>h)⟩
theorem yBw{x:Str}{id:String}{am:DS.AM}{g:Store->List D->Option D}(hc:zB9 X (.builtin id) (cOfF K g))(hg:Gl X x)(hm:X.mg x=none)(hv:bootBuiltins x=some (.builtin id))(ha:DA X K E (e::es) am)(hn:x≠"__name__":=by decide)(hdb:(x == ("__debug__":Str))=false:=by decide)
  (h:(e::es).all nst=true:=by rfl):DF X K E (.Call (.Name x p) (e::es) [] pos) (DS.eCB g am):=⟨(zM9 hc hg hm hv ha.h hn hdb h).imp (yA9 λ_ _ _ h=>h)⟩
theorem zW2(C:Cal X.prog X.w X.K X.mg X.base x k ps (spOf K E F))(hr:Room k X.A)(hg:Gl X x)(ha:DA X K E (e::es) am)(hdb:(x == ("__debug__":Str))=false:=by decide)
  (h:(e::es).all nst=true:=by rfl):DE X K E (.Call (.Name x p) (e::es) [] pos) (DS.zA2 F am):=⟨(qcal' C hr hg ha.h hdb h).imp λσ H Q ⟨env,S,J,h,he,q⟩=>
 ⟨env,S,J,h,he,q.bind.imp λds S1 J1 H1 _ a1 g1 q1 xs rx=>by
  show spOf K E F (xs++[]) H1 Q E0;rw[ug];exact⟨J1,S1,ds,a1,rx,q1⟩⟩⟩
theorem zX0(ha:AbS K J S H)(r:Rep K J H d v)(hT:T="str"\/T="list"\/T="dict")(h:DS.tyD S d=some T):tyV K T v H:=by
 cases d with
 | str x=>obtain rfl:=r;cases h;exact rfl
 | lst ds=>obtain⟨a,xs,rfl,t,_⟩:=r;cases h;exact .inl ⟨rfl,xs,t.sq⟩
 | klst ds=>obtain⟨a,xs,rfl,t,_⟩:=r;cases h;exact .inl ⟨rfl,xs,t.sq⟩
 | dct _ ks vs=>
  obtain⟨a,o,xs,rfl,_,e,t,_⟩:=r;cases h;refine .inr (.inr (.inl ⟨rfl,?_⟩));rcases t with⟨_,kvs,rfl,_⟩|⟨_,kvs,rfl,_⟩
  ·exact .inl ⟨kvs,e⟩
  ·exact .inr ⟨kvs,e⟩
 | ref n=>
  obtain⟨a,ea,rfl⟩:=r;obtain⟨c,ec,o,eo,rc⟩:=ha.at ea;have el:DS.look S (.ref n)=some c:=ec;unfold DS.tyD at h;rw[el]at h;cases c with
  | lst ds=>cases h;obtain⟨xs,rfl,_⟩:=rc;exact .inl ⟨rfl,xs,.inl (.inl eo)⟩
  | dct _ ks vs=>
   cases h;obtain⟨xs,t,_⟩:=rc;refine .inr (.inr (.inl ⟨rfl,?_⟩));rcases t with⟨_,kvs,rfl,_⟩|⟨_,kvs,rfl,_⟩
   ·exact .inl ⟨kvs,.inl eo⟩
   ·exact .inr ⟨kvs,.inl eo⟩
  | _=>exact False.elim rc
 | _=>first|(cases h;rcases hT with z|z|z <;> exact absurd z (by decide))|cases h
theorem yBf{r:V->List V->Hp->VK->Prop}{g:Store->D->List D->Option (D × Store)}(hT:T="str"\/T="list"\/T="dict")(hr:∀x xs H Q,mOf K g x xs H Q->r x xs H Q):∀σ H Q,tOf K E (DS.eMt T g ma am) σ H Q->tBM K T r (tOf K E ma) (aOf K E am) σ H Q:=λσ H Q ⟨env,S,J,ha,he,q⟩=>
 ⟨env,S,J,ha,he,q.bind.imp λd1 S1 J1 H1 _ a1 g1 q1 x rx=>by
  by_cases hty:DS.tyD S1 d1=some T
  ·rw[xf hty]at q1;refine⟨zX0 a1 rx hT hty,env,S1,J1,a1,he.grow g1,q1.bind.imp λds S2 J2 H2 _ a2 g2 q2 xs rs=>?_⟩;cases e:g S2 d1 ds with
   | none=>rw[e]at q2;exact False.elim q2
   | some w=>
    rw[e]at q2;exact hr _ _ _ _ ⟨J2,S2,d1,ds,w.1,w.2,a2,Rep.grow g2 _ _ rx,rs,e,λv H' h1 h2 h3=>q2 J2 H' h1 h2 v h3⟩
  ·rw[xg hty]at q1;exact False.elim q1⟩
theorem yC1{T name id:_}{o:Expr}{apos cpos:Pos}{g:Store->D->List D->Option (D × Store)}{mo:DS.EM}{am:DS.AM}(pa:PlainAttrs T)(slot:Slot T name id)(hty:typeOf (.builtin id)=pure (.type "method_descriptor"))(hm:MtR X id (mOf K g))
  (hT:T="str"\/T="list"\/T="dict") (ho:DE X K E o mo) (ha:DA X K E (e::es) am) (h:nba o=true:=by rfl) (hs:(e::es).all nst=true:=by rfl)
  (hlen:decide ((e::es).length+0+0<30)=true:=by rfl) (hline:(apos.endLine == cpos.line)=true:=by rfl) (hK:X.K=K:=by rfl):DE X K E (.Call (.Attribute o name apos) (e::es) [] cpos) (DS.eMt T g mo am):=by
 subst hK;exact⟨(zY3 pa slot hty hm ho.h ha.h h hs hlen hline).imp (yBf hT λ_ _ _ _ h=>h)⟩
noncomputable def poOf (K:PySem.W.Frag) (E:XE) (m:DS.Env->Store->Rs (Option Int)):TO:=λσ H Q=>∃env S J,AbS K J S H/\RepE K J H env σ/\Post K E J H (m env S) (λoi _ _ H'=>Q oi H')
structure DO (X:Cx) (K:PySem.W.Frag) (E:XE) (e:Option Expr) (m:DS.Env->Store->Rs (Option Int)):Prop where h:SO X e (poOf K E m)
theorem SO.imp{t t':TO}(h:SO X o t)(k:∀σ H Q,t' σ H Q->t σ H Q):SO X o t':=⟨λpins s σ H Q I q=>h.h pins s σ H Q I (k σ H Q q)⟩
theorem yBu:DO X K E none DS.pNo:=⟨po_none'.imp λσ H Q hz0=>by obtain⟨env,S,J,ha,he,q⟩:=hz0;exact q J H ha .refl⟩
theorem zZu(h:DE X K E e m):DO X K E (some e) (DS.pYes m):=⟨(zPw h.h).imp λσ H Q ⟨env,S,J,ha,he,q⟩=>⟨env,S,J,ha,he,q.bind.imp λd S1 J1 H1 _ a1 g1 q1 x rx=>by
 obtain⟨oi,e,k⟩:=q1.lift;cases d with
 | int i=>cases e;obtain rfl:=rx;exact⟨i,rfl,k J1 H1 a1 .refl⟩
 | _=>cases e⟩⟩
def slOf(K:PySem.W.Frag)(g:Store->D->Option Int->Option Int->Option D):V->Option Int->Option Int->Hp->VK->Prop:=λx lo hi H Q=>∃J S d1 d,AbS K J S H/\Rep K J H d1 x/\g S d1 lo hi=some d/\∀v H',AbS K J S H'->Grow J H J H'->Rep K J H' d v->Q v H'
theorem yBy{g:Store->D->Option Int->Option Int->Option D}{lo hi:Option Expr}{ml mh:DS.Env->Store->Rs (Option Int)}{p2:Pos}(hr:SlR X (slOf K g))(he:DE X K E e m)(hl:DO X K E lo ml)(hu:DO X K E hi mh):DE X K E (.Subscript e (.Slice lo hi none p2) pos) (DS.eSl g m ml mh):=
 ⟨(zMj hr he.h hl.h hu.h).imp λσ H Q ⟨env,S,J,ha,he,q⟩=>⟨env,S,J,ha,he,q.bind.imp λd S1 J1 H1 _ a1 g1 q1 x rx=>⟨env,S1,J1,a1,he.grow g1,q1.bind.imp λl S2 J2 H2 _ a2 g2 q2=>
  ⟨env,S2,J2,a2,he.grow (g1.trans g2),q2.bind.imp λh S3 J3 H3 _ a3 g3 q3=>by
   obtain⟨r,er,k⟩:=q3.lift;exact⟨J3,S3,d,r,a3,Rep.grow (g2.trans g3) _ _ rx,er,λv H' h1 h2 h3=>k J3 H' h1 h2 v h3⟩⟩⟩⟩⟩
theorem yAi(e:DS.asB d=some k)(r:Rep K J H d x):x=.bl k:=by
 cases d with
 | bl i=>cases e;exact r
 | _=>cases e
theorem yAr:∀σ H Q,ttOf K E (DS.tB m) σ H Q->tOf K E m σ H (λx H'=>∃k,x=.bl k/\Q k H'):=λσ H Q ⟨env,S,J,ha,he,q⟩=>⟨env,S,J,ha,he,q.bind.imp λd S1 J1 H1 _ a1 g1 q1 x rx=>by
 obtain⟨k,e,z⟩:=q1.lift;exact⟨k,yAi e rx,z J1 H1 a1 .refl⟩⟩
theorem zZt{g:Store->D->D->Option D}(ho:OpR X (compareOp op) (r2Of K g))(ha:DE X K E a ma)(hb:DE X K E b mb)(hm:behindInMarks op b=false):DT X K E (.Compare a [op] [b] pos) (DS.tB (DS.eOp g ma mb)):=
 ⟨(zPs ho ha.h hb.h hm).imp λσ H Q h=>zJb (λ_ _ _ _ h=>h) σ H _ (yAr σ H Q h)⟩
theorem zZs(ha:DT X K E a mt):DT X K E (.UnaryOp .Not a pos) (DS.tNot mt):=⟨(zTi ha.h).imp λσ H Q hz1=>by obtain⟨env,S,J,ha,he,q⟩:=hz1;exact ⟨env,S,J,ha,he,q.bind.imp λk S1 J1 H1 _ a1 g1 q1=>q1 J1 H1 a1 .refl⟩⟩
theorem zVi(ha:DT X K E a mt):DW X K E (.BoolOp .And [a] pos) mt:=⟨zPo ha.h⟩
theorem zZl(ha:DT X K E a mt):DW X K E (.BoolOp .Or [a] pos) mt:=⟨zTe ha.h⟩
theorem zZm(ha:DT X K E a mt)(hb:DW X K E (.BoolOp .And (b::es) pos) mu):DW X K E (.BoolOp .And (a::b::es) pos) (DS.tAnd mt mu):=⟨(zTg ha.h hb.h).imp λσ H Q ⟨env,S,J,ha,he,q⟩=>⟨env,S,J,ha,he,q.bind.imp λk S1 J1 H1 _ a1 g1 q1=>by
 cases k with
 | true=>exact⟨env,S1,J1,a1,he.grow g1,q1⟩
 | false=>exact q1 J1 H1 a1 .refl⟩⟩
theorem yBp(ha:DT X K E a mt)(hb:DW X K E (.BoolOp .Or (b::es) pos) mu):DW X K E (.BoolOp .Or (a::b::es) pos) (DS.tOr mt mu):=⟨(zXj ha.h hb.h).imp λσ H Q ⟨env,S,J,ha,he,q⟩=>⟨env,S,J,ha,he,q.bind.imp λk S1 J1 H1 _ a1 g1 q1=>by
 cases k with
 | true=>exact q1 J1 H1 a1 .refl
 | false=>exact⟨env,S1,J1,a1,he.grow g1,q1⟩⟩⟩
theorem dt_w(h:DW X K E e mt):DT X K E e mt:=⟨zXh h.h⟩
theorem zVu:DIf X K E [] DS.tYes:=⟨pifs_nil'.imp λσ H Q hz2=>by obtain⟨env,S,J,ha,he,q⟩:=hz2;exact q J H ha .refl⟩
theorem zVt(h:DT X K E c mt):DIf X K E [c] mt:=⟨zMf h.h⟩
theorem zBh{xs:List V}(r:RepL K J H ds xs):decide (ds≠[])=!xs.isEmpty:=by
 cases ds with
 | nil=>cases r;simp
 | cons d ds=>obtain⟨x,t,rfl,_⟩:=r;simp
theorem zSr(ha:AbS K J S H)(r:Rep K J H d v)(h:DS.truth S d=some k):TruV K v H k:=by
 cases d with
 | non=>obtain rfl:=r;cases h;exact rfl
 | bl b=>obtain rfl:=r;cases h;exact rfl
 | int i=>
  obtain rfl:=r;have h:=xM h;subst h;show decide (i≠0)=(i != 0);by_cases z:i=0 <;> simp[z]
 | str x=>
  obtain rfl:=r;have h:(if x.length<=DS.most then some (decide (x.length≠0))else none)=some k:=h;by_cases z:x.length<=DS.most
  ·rw[xf z]at h;have h:=xM h;subst h;refine⟨z,?_⟩;by_cases z:x.length=0 <;> simp[z]
  ·rw[xg z]at h;cases h
 | tup ds=>obtain⟨a,xs,rfl,t,rl⟩:=r;cases h;exact .inr (.inl ⟨xs,t.sq,zBh rl⟩)
 | ktup ds=>obtain⟨a,xs,rfl,t,rl⟩:=r;cases h;exact .inr (.inl ⟨xs,t.sq,zBh rl⟩)
 | klst ds=>obtain⟨a,xs,rfl,t,rl⟩:=r;cases h;exact .inl ⟨xs,t.sq,zBh rl⟩
 | lst ds=>obtain⟨a,xs,rfl,t,rl⟩:=r;cases h;exact .inl ⟨xs,t.sq,zBh rl⟩
 | ref n=>
  obtain⟨a,ea,rfl⟩:=r;obtain⟨c,ec,o,eo,rc⟩:=ha.at ea;have el:DS.look S (.ref n)=some c:=ec;unfold DS.truth at h;rw[el]at h;cases c with
  | lst ds=>cases h;obtain⟨xs,rfl,rl⟩:=rc;exact .inl ⟨xs,.inl (.inl eo),zBh rl⟩
  | dct _ ks vs=>cases h
  | _=>exact False.elim rc
 | _=>cases h
theorem zZr(ha:DE X K E e m)(h:ntt e=true:=by rfl)(hK:X.K=K:=by rfl):DT X K E e (DS.tTru m):=by
 subst hK;exact⟨(qtruth' ha.h h).imp λσ H Q ⟨env,S,J,ha,he,q⟩=>⟨env,S,J,ha,he,q.bind.imp λd S1 J1 H1 _ a1 g1 q1 x rx=>by
  obtain⟨k,e,z⟩:=q1.lift;exact⟨k,zSr a1 rx e,z J1 H1 a1 .refl⟩⟩⟩
theorem RepE.set{env:DS.Env}{σ:St}{i:Nat}(h:RepE K J H env σ)(r:Rep K J H d v):RepE K J H (env.set i (some d)) (σ.set i (some v)):=by
 refine⟨by simp[h.len],λj d' e=>?_⟩;by_cases hj:i=j
 ·subst hj;have hi:i<env.length:=by
   have:=(xO.mp e).1;simpa using this
  rw[ud hi]at e;cases e;exact⟨v,ud (by rw[<- h.len];exact hi),r⟩
 ·rw[vT hj]at e;rw[vT hj];exact h.get j d' e
theorem zVy(hN:X.N.Nodup)(hi:X.N[j]?=some x)(hx:Loc X.env.scope x)(hf:X.fn x=true\/X.env.scope.names.lookup x=some .local:=by first|exact .inl rfl|exact .inr rfl|assumption):DG X K (.Name x pos) (DS.gName j):=
 ⟨(zQ2 hN hi hx hf).imp λv σ H Q hq3=>by
  obtain⟨env,S,J,d,env',ha,he,r,e,k⟩:=hq3;cases e;exact k _ (he.set r)⟩
theorem zVx:DGs X K [] []:=⟨pgs_nil'.imp λv σ H Q hq4=>by
 obtain⟨env,S,J,ds,env',ha,he,r,e,k⟩:=hq4;cases ds with
 | nil=>cases e;cases r;exact⟨rfl,k _ he⟩
 | cons d ds=>cases e⟩
theorem zR8(h1:DG X K tg g)(h2:DGs X K ts gs)(h:nst tg=true:=by rfl):DGs X K (tg::ts) (g::gs):=⟨(qgs' h1.h h2.h h).imp λv σ H Q hq5=>by
 obtain⟨env,S,J,ds,env',ha,he,r,e,k⟩:=hq5;cases ds with
 | nil=>cases e
 | cons d ds=>
  obtain⟨x,xs,rfl,rx,rl⟩:=r;unfold DS.gAll at e;cases e1:g S d env with
  | none=>rw[e1]at e;cases e
  | some env1=>
   rw[e1]at e;exact⟨x,xs,rfl,env,S,J,d,env1,ha,he,rx,e1,λσ' he'=>⟨env1,S,J,ds,env',ha,he',rl,e,k⟩⟩⟩
theorem zCk:∀{gs:List DS.GM}{S:Store}{ds:List D}{env env':DS.Env},DS.gAll gs S ds env=some env'->ds.length=gs.length
 | [],_,[],_,_,_=>rfl
 | [],_,_::_,_,_,e=>by cases e
 | _::_,_,[],_,_,e=>by cases e
 | g::gs,S,d::ds,env,env',e=>by
  unfold DS.gAll at e;cases e1:g S d env with
  | none=>rw[e1]at e;cases e
  | some env1=>rw[e1]at e;simp[zCk e]
theorem SG.or{t u:TG}(h:SG X e t)(h':SG X e u):SG X e (λv σ H Q=>t v σ H Q\/u v σ H Q):=⟨λpins s σ H v w Q I r q=>by
 rcases q with q|q
 ·exact h.h pins s σ H v w Q I r q
 ·exact h'.h pins s σ H v w Q I r q⟩
theorem zZx{ts:List Expr}{gs:List DS.GM}(hc:X.calm=true)(h:DGs X K ts gs)(hn:ts.length=gs.length:=by rfl)(h1:ts.all nst=true:=by rfl)(hK:X.K=K:=by rfl):DG X K (.Tuple ts k pos) (DS.gTup gs):=by
 subst hK;refine⟨((qtup' hc h.h hn h1).or (qunl' hc h.h hn h1)).imp λv σ H Q hq1=>?_⟩;obtain⟨env,S,J,d,env',ha,he,r,e,k⟩:=hq1;unfold DS.gTup DS.items DS.look at e;cases d with
 | tup ds=>obtain⟨a,xs,rfl,t,rl⟩:=r;exact .inl ⟨a,xs,rfl,t.sq,by rw[<- rl.length];exact zCk e,env,S,J,ds,env',ha,he,rl,e,k⟩
 | klst ds=>obtain⟨a,xs,rfl,t,rl⟩:=r;exact .inr ⟨a,xs,rfl,t.sq,by rw[<- rl.length];exact zCk e,env,S,J,ds,env',ha,he,rl,e,k⟩
 | ktup ds=>obtain⟨a,xs,rfl,t,rl⟩:=r;exact .inl ⟨a,xs,rfl,t.sq,by rw[<- rl.length];exact zCk e,env,S,J,ds,env',ha,he,rl,e,k⟩
 | lst ds=>obtain⟨a,xs,rfl,t,rl⟩:=r;exact .inr ⟨a,xs,rfl,t.sq,by rw[<- rl.length];exact zCk e,env,S,J,ds,env',ha,he,rl,e,k⟩
 | ref n=>
  obtain⟨a,ea,rfl⟩:=r;obtain⟨c,ec,o,eo,rc⟩:=ha.at ea;simp only[ec]at e;cases c with
  | lst ds=>obtain⟨xs,rfl,rl⟩:=rc;exact .inr ⟨a,xs,rfl,.inl (.inl eo),by rw[<- rl.length];exact zCk e,env,S,J,ds,env',ha,he,rl,e,k⟩
  | dct _ ks vs=>cases e
  | _=>exact False.elim rc
 | _=>cases e
variable {st:Stmt}{sts:List Stmt}{ms mu' mv:DS.SM}
theorem zVr:DSs X K E [] DS.zAt:=⟨pss_nil'.imp λD σ H hz3=>by obtain⟨env,S,J,ha,he,q⟩:=hz3;exact q J H σ ha .refl he⟩
theorem zGh(h:DS1 X K E st ms):DSs X K E [st] ms:=⟨zPt h.h⟩
theorem zK8(h:DS1 X K E st ms)(k:DSs X K E sts mv):DSs X K E (st::sts) (DS.sSeq ms mv):=⟨(zMc h.h k.h).imp λD σ H ⟨env,S,J,ha,he,q⟩=>⟨env,S,J,ha,he,by
 unfold DS.sSeq at q;cases e:ms env S with
 | nx e1 S1=>rw[e]at q;exact λJ' H' σ' h1 g1 h2=>⟨e1,S1,J',h1,h2,PostS.grow g1 q⟩
 | _=>rw[e]at q;exact q⟩⟩
theorem zVo{j:Nat}{x:Str}{pos':Pos}(hN:X.N.Nodup)(hi:X.N[j]?=some x)(hx:Loc X.env.scope x)(he:DE X K E e m)(hf:X.fn x=true\/X.env.scope.names.lookup x=some .local:=by first|exact .inl rfl|exact .inr rfl|assumption)(h:nco e=true:=by rfl):
  DS1 X K E (.Assign [.Name x pos'] e pos) (DS.sSet j m):=⟨(qset' hN hi hx he.h hf h).imp λD σ H hz4=>by obtain⟨env,S,J,ha,he,q⟩:=hz4;exact ⟨env,S,J,ha,he,q.then.imp λd S1 J1 H1 _ a1 g1 q1 v rv=>q1 J1 H1 _ a1 .refl ((he.grow g1).set rv)⟩⟩
theorem zWz :∀D σ H,tsOf K E (DS.sUnp g m) D σ H->tAsg (tOf K E m) (gOf K g) D σ H:=λD σ H ⟨env,S,J,ha,he,q⟩=>⟨env,S,J,ha,he,q.then.imp λd S1 J1 H1 _ a1 g1 q1 v rv=>by
 cases e1:g S1 d env with
 | none=>rw[e1]at q1;exact False.elim q1
 | some env'=>rw[e1]at q1;exact⟨env,S1,J1,d,env',a1,he.grow g1,rv,e1,λσ' he'=>q1 J1 H1 σ' a1 .refl he'⟩⟩
theorem zVn(he:DE X K E e m)(hg:DG X K (.Tuple ts k tp) g)(h1:ntu e=true:=by rfl):DS1 X K E (.Assign [.Tuple ts k tp] e pos) (DS.sUnp g m):=⟨(qasgt' he.h hg.h h1).imp zWz⟩
theorem zR4(he:DE X K E e m)(h:nco e=true:=by rfl):DS1 X K E (.Expr e pos) (DS.zGy m):=⟨(qexpr' he.h h).imp λD σ H hz5=>by obtain⟨env,S,J,ha,he,q⟩:=hz5;exact ⟨env,S,J,ha,he,q.then.imp λd S1 J1 H1 _ a1 g1 q1 v rv=>q1 J1 H1 σ a1 .refl (he.grow g1)⟩⟩
theorem zNx(he:DE X K E e m):DS1 X K E (.Return (some e) pos) (DS.sRet m):=⟨(zTn he.h).imp λD σ H hz6=>by obtain⟨env,S,J,ha,he,q⟩:=hz6;exact ⟨env,S,J,ha,he,q.then.imp λd S1 J1 H1 _ a1 g1 q1 v rv=>q1 J1 H1 v a1 .refl rv⟩⟩
theorem zSe{ba bb:List Stmt}(hc:DT X K E c mt)(ha:DSs X K E ba ms)(hb:DSs X K E bb mv):DS1 X K E (.If c ba bb pos) (DS.sIf mt ms mv):=⟨(zXr hc.h ha.h hb.h).imp λD σ H ⟨env,S,J,ha,he,q⟩=>⟨env,S,J,ha,he,q.then.imp λk S1 J1 H1 _ a1 g1 q1=>by
 cases k with
 | true=>exact⟨env,S1,J1,a1,he.grow g1,q1⟩
 | false=>exact⟨env,S1,J1,a1,he.grow g1,q1⟩⟩⟩
theorem zR3{x y:Str}{px py pt pt2:Pos}{kt k2 i j:Nat}{am:DS.AM}(hc:X.calm=true)(hN:X.N.Nodup)(hi:X.N[i]?=some x)(hj:X.N[j]?=some y)(hij:i≠j)
  (hx:X.env.scope.names.lookup x=some .local) (hy:X.env.scope.names.lookup y=some .local) (ha:DA X K E [a,b] am)
  (hw:swappedStores [.Tuple [.Name x px,.Name y py] kt pt] (.Tuple [a,b] k2 pt2) X.env=pure (some [x,y])):
  DS1 X K E (.Assign [.Tuple [.Name x px,.Name y py] kt pt] (.Tuple [a,b] k2 pt2) pos) (DS.sPar [i,j] am):=⟨(qpar' hc hN hi hj hij hx hy ha.h hw).imp λD σ H ⟨env,S,J,h,he,q⟩=>⟨env,S,J,h,he,q.then.imp λds S1 J1 H1 e1 a1 g1 q1 vs rv=>by
 have hl:=ha.len _ _ _ _ e1
 match ds,hl with
 | [d1,d2],_=>
  obtain⟨v1,r1,rfl,rv1,v2,r2,rfl,rv2,rfl⟩:=rv;exact⟨v1,v2,rfl,q1 J1 H1 _ a1 .refl (((he.grow g1).set rv1).set rv2)⟩⟩⟩
theorem zNw{body:List Stmt}(hp:PassesOwn (model X.prog X.w) X.A X.env X.xe)(hc:DT X K E c mt)(hb:DSs X K E body ms):DS1 X K E (.While c body [] pos) (DS.zDn mt ms):=⟨(zMd hp hc.h hb.h).imp λD σ H hq6=>by
 obtain⟨env,S,J,ha,he,q⟩:=hq6;unfold DS.zDn at q;by_cases hx:∃n,DS.zB6 mt ms n env S≠.bad
 ·rw[dif_pos hx]at q;generalize Classical.choose hx=n at q;refine⟨λn σ H=>∃env S J,AbS K J S H/\RepE K J H env σ/\PostS K E J H (DS.zB6 mt ms n env S) D,⟨n,env,S,J,ha,he,q⟩,?_⟩;rintro m σ H ⟨env,S,J,ha,he,q⟩;cases m with
  | zero=>exact False.elim q
  | succ m=>
   refine⟨env,S,J,ha,he,(PostS.then (by unfold DS.zB6 at q;exact q)).imp λk S1 J1 H1 _ a1 g1 q1=>?_⟩;cases k with
   | false=>exact q1 J1 H1 σ a1 .refl (he.grow g1)
   | true=>
    rw[xf rfl]at q1 ⊢;refine⟨λσ H=>∃env S J,AbS K J S H/\RepE K J H env σ/\PostS K E J H (DS.zB6 mt ms m env S) D,λσ' H' w=>⟨m,Nat.lt_succ_self m,w⟩,env,S1,J1,a1,he.grow g1,?_⟩;cases e:ms env S1 with
    | nx e1 S2=>rw[e]at q1;exact λJ' H' σ' h1 g2 h2=>⟨e1,S2,J',h1,h2,PostS.grow g2 q1⟩
    | ct e1 S2=>rw[e]at q1;exact λJ' H' σ' h1 g2 h2=>⟨e1,S2,J',h1,h2,PostS.grow g2 q1⟩
    | _=>rw[e]at q1;exact q1
 ·rw[dif_neg hx]at q;exact False.elim q⟩
theorem zK9{α:Type}{l:List α}{i:Nat}(h:i<l.length):l.drop i=l[i]::l.drop (i+1):=List.drop_eq_getElem_cons h
theorem zVq{tg iter:Expr}{body:List Stmt}{im:DS.IM}{g:DS.GM}(hp:PassesOwn (model X.prog X.w) X.A X.env X.xe)(hc:X.calm=true)(hi:DI X K E tg iter im)(hg:DG X K tg g)(hb:DSs X K E body ms)(h:nse iter=true:=by rfl):
  DS1 X K E (.For tg iter body [] pos) (DS.sFor im g ms):=⟨(qfor' hp hc hi.h hg.h hb.h h).imp λD σ H ⟨env,S,J,ha,he,q⟩=>⟨env,S,J,ha,he,q.then.imp λw S1 J1 H1 _ a1 g1 q1 I ok=>by
 refine⟨λi m σ H=>m+i=w.its.length/\∃env S J,AbS K J S H/\Grow J1 H1 J H/\RepE K J H env σ/\PostS K E J H (DS.forL w.gd g ms (w.its.drop i) env S) D,⟨w.its.length,rfl,env,S1,J1,a1,.refl,he.grow g1,q1⟩,?_⟩;rintro i m σ H ⟨hm,env,S,J,ha,gr,he,q⟩;by_cases hi:i<w.its.length
 ·rw[zK9 hi]at q;unfold DS.forL at q;by_cases gd:DS.gOk S w.gd
  ·rw[xf gd]at q;refine .inr ⟨ok.go i H J S ha gr gd hi,λσ H=>(m-1)+(i+1)=w.its.length/\∃env S J,AbS K J S H/\Grow J1 H1 J H/\RepE K J H env σ/\PostS K E J H (DS.forL w.gd g ms (w.its.drop (i+1)) env S) D,λσ' H' wq=>⟨m-1,by nofun,wq⟩,λx H' y=>?_⟩;obtain⟨a2,g2,rx⟩:=ok.yld i H J S x H' ha gr gd y _ (xF hi);cases eg:g S w.its[i] env with
   | none=>rw[eg]at q;exact False.elim q
   | some env'=>
    rw[eg]at q;refine⟨env,S,J,w.its[i],env',a2,he.grow g2,rx,eg,λσ2 he2=>⟨env',S,J,a2,he2,?_⟩⟩;simp only at q;cases e:ms env' S with
    | nx e1 S2=>rw[e]at q;exact λJ' H' σ' h1 g3 h2=>⟨by nofun,e1,S2,J',h1,gr.trans (g2.trans g3),h2,PostS.grow (g2.trans g3) q⟩
    | ct e1 S2=>rw[e]at q;exact λJ' H' σ' h1 g3 h2=>⟨by nofun,e1,S2,J',h1,gr.trans (g2.trans g3),h2,PostS.grow (g2.trans g3) q⟩
    | bk e1 S2=>rw[e]at q;exact λJ' H' σ' h1 g3 h2=>q J' H' σ' h1 (g2.trans g3) h2
    | rt e1 S2=>rw[e]at q;exact λJ' H' σ' h1 g3 h2=>q J' H' σ' h1 (g2.trans g3) h2
    | ex e1 S2=>rw[e]at q;exact λJ' H' h1 g3=>q J' H' h1 (g2.trans g3)
    | bad=>rw[e]at q;exact q
  ·rw[xg gd]at q;exact False.elim q
 ·have e0:w.its.drop i=[]:=List.drop_eq_nil_of_le (by nofun);rw[e0]at q;unfold DS.forL at q;by_cases gd:DS.gOk S w.gd
  ·rw[xf gd]at q;exact .inl ⟨ok.stop i H J S ha gr gd (by nofun),q J H σ ha .refl he⟩
  ·rw[xg gd]at q;exact False.elim q⟩⟩
theorem zL3{own:List Str}{ix:List Nat}(he:RepE K J H env σ):RepE K J H (DS.compEnv own.length ix env) (zCo own ix σ):=by
 refine⟨by simp[DS.compEnv,zCo],λi d e=>?_⟩;unfold DS.compEnv at e;unfold zCo;by_cases hi:i<own.length
 ·rw[vy (by simpa using hi),List.getElem?_replicate,xf hi]at e;cases e
 ·rw[vG (by simpa using hi),xV]at e;rw[vG (by simpa using hi),xV];simp only[List.length_replicate,xl]at e ⊢;cases ej:ix[i-own.length]? with
  | none=>rw[ej]at e;cases e
  | some j=>
   rw[ej]at e;simp only[vO,Option.some.injEq]at e ⊢;cases en:env[j]? with
   | none=>rw[en]at e;cases e
   | some o=>
    rw[en]at e;obtain⟨v,ev,r⟩:=he.get j d (by rw[en];exact congrArg some e);exact⟨v,by rw[ev];rfl,r⟩
theorem zKc{own:List Str}{ix:List Nat}:∀σ H Q,tOfF K E (DS.zA6 own.length ix im g mt m) σ H Q->zHy own ix (iOf K E im) (gOf K g) (ttOf K E mt) (tOf K E m) σ H Q:=by
 refine λσ H Q ⟨env,St,J,ha,hE,q⟩=>⟨env,St,J,ha,hE,q.bind.imp λw S1 J1 H1 _ a1 g1 q1 I ok=>?_⟩
 refine⟨λi k ys σ H=>k+i=w.its.length/\∃env S J ds,AbS K J S H/\Grow J1 H1 J H/\RepE K J H env σ/\RepL K J H ds ys/\Post K E J H (DS.zCm w.gd g mt m ys.length (w.its.drop i) env S) (λvs S2 J2 H2=>∀p o,H2 p=none->ObD K J2 H2 (.lst (ds++vs)) o->Q (.ref p) (upd H2 p o)),
  ⟨w.its.length,rfl,_,S1,J1,[],a1,.refl,zL3 (hE.grow g1),rfl,q1.bind.imp λvs S2 J2 H2 _ a2 g2 q2=>q2 J2 H2 a2 .refl⟩,?_⟩
 rintro i k ys σ H ⟨hk,env,S,J,ds,ha,gr,hE,rl,q⟩;by_cases hi:i<w.its.length
 ·rw[zK9 hi]at q;unfold DS.zCm at q;by_cases gd:DS.gOk S w.gd/\ys.length<DS.most
  ·rw[xf gd]at q;refine .inr ⟨ok.go i H J S ha gr gd.1 hi,gd.2,λys σ H=>(k-1)+(i+1)=w.its.length/\∃env S J ds,AbS K J S H/\Grow J1 H1 J H/\RepE K J H env σ/\RepL K J H ds ys/\Post K E J H (DS.zCm w.gd g mt m ys.length (w.its.drop (i+1)) env S) (λvs S2 J2 H2=>∀p o,H2 p=none->ObD K J2 H2 (.lst (ds++vs)) o->Q (.ref p) (upd H2 p o)),
    λzs σ' H' wq=>⟨k-1,by nofun,wq⟩,λx H' y=>?_⟩
   obtain⟨a2,g2,rx⟩:=ok.yld i H J S x H' ha gr gd.1 y _ (xF hi);cases eg:g S w.its[i] env with
   | none=>rw[eg]at q;exact False.elim q
   | some env'=>
    rw[eg]at q;refine⟨env,S,J,w.its[i],env',a2,hE.grow g2,rx,eg,λσ2 he2=>⟨env',S,J,a2,he2,(Post.grow g2 q).bind.imp λb S3 J3 H3 _ a3 g3 q3=>?_⟩⟩;cases b with
    | false=>exact⟨by nofun,env',S3,J3,ds,a3,gr.trans (g2.trans g3),he2.grow g3,RepL.grow (g2.trans g3) _ _ rl,q3⟩
    | true=>
     rw[xf rfl]at q3 ⊢;refine⟨env',S3,J3,a3,he2.grow g3,q3.bind.imp λd4 S4 J4 H4 _ a4 g4 q4 v rv=>?_⟩;have g24:=g2.trans (g3.trans g4);refine⟨by nofun,env',S4,J4,ds++[d4],a4,gr.trans g24,he2.grow (g3.trans g4),(RepL.grow g24 _ _ rl).snoc rv,?_⟩;rw[show(ys++[v]).length=ys.length+1 by simp];refine q4.bind.imp λvs S5 J5 H5 _ a5 g5 q5=>?_
     have:=q5 J5 H5 a5 .refl;rw[xw];exact this
  ·rw[xg gd]at q;exact False.elim q
 ·have e0:w.its.drop i=[]:=List.drop_eq_nil_of_le (by nofun);rw[e0]at q;unfold DS.zCm at q;by_cases gd:DS.gOk S w.gd
  ·rw[xf gd]at q;have q2:∀(p:Addr) (o:HO),H p=none->ObD K J H (.lst (ds++[])) o->Q (.ref p) (upd H p o):=q J H ha .refl
   rw[ug]at q2;exact .inl ⟨ok.stop i H J S ha gr gd (by nofun),λp n=>q2 p (.lst ys) n ⟨ys,rfl,rl⟩⟩
  ·rw[xg gd]at q;exact False.elim q
theorem of_imp:∀σ H Q,tOf K E m σ H Q->tOfF K E m σ H Q:=λσ H Q hz7=>by obtain⟨env,S,J,ha,he,q⟩:=hz7;exact ⟨env,S,J,ha,he,q.map λd S' J' H' _ h1 g k p o n r=>k J' (upd H' p o) (h1.push n) (g.trans (.push n)) (.ref p) (r.rep h1 n)⟩
theorem zT6 :∀D σ H,tsOf K E (DS.sSet j m) D σ H->tOf K E m σ H (λx H1=>gName j x σ H1 D.nx):=λD σ H hz8=>by obtain⟨env,S,J,ha,he,q⟩:=hz8;exact ⟨env,S,J,ha,he,q.then.imp λd S1 J1 H1 _ a1 g1 q1 v rv=>q1 J1 H1 _ a1 .refl ((he.grow g1).set rv)⟩
theorem zW1{ix:List Nat}{n:Nat}{elt:Expr}{ifs:List Expr}{g:DS.GM}(hc:X.calm=true)(S:CompScope X own fre ix scope)(hi:DI X K E tg iter im)
  (hg:∀cl C s H fp,DG (zA7 X (own++fre) scope cl C s H fp) K tg g) (ht:∀cl C s H fp,DIf (zA7 X (own++fre) scope cl C s H fp) K E ifs mt) (he:∀cl C s H fp,DE (zA7 X (own++fre) scope cl C s H fp) K E elt m)
  (hn:own.length=n:=by rfl) (h:nse iter=true:=by rfl):DF X K E (.ListComp elt [⟨tg,iter,ifs,0⟩] scope pos) (DS.zA6 n ix im g mt m):=by
 subst hn;exact⟨(qlcomp' hc S hi.h (λ_ _ _ _ _=>(hg _ _ _ _ _).h) (λ_ _ _ _ _=>(ht _ _ _ _ _).h) (λ_ _ _ _ _=>(he _ _ _ _ _).h) h).imp zKc⟩
theorem zR2{own fre:List Str}{ix:List Nat}{n:Nat}{scope:Scope}{j:Nat}{cpos pos':Pos}{tg elt iter:Expr}{ifs:List Expr}{im:DS.IM}{g:DS.GM}(hN:X.N.Nodup)(hix:X.N[j]?=some x)(hx:Loc X.env.scope x)
  (hc:X.calm=true) (S:CompScope X own fre ix scope) (hi:DI X K E tg iter im)
  (hg:∀cl C s H fp,DG (zA7 X (own++fre) scope cl C s H fp) K tg g) (ht:∀cl C s H fp,DIf (zA7 X (own++fre) scope cl C s H fp) K E ifs mt) (he:∀cl C s H fp,DE (zA7 X (own++fre) scope cl C s H fp) K E elt m)
  (hsw:swapsWith (.ListComp elt [⟨tg,iter,ifs,0⟩] scope cpos) (some (.Name x pos')) pos.line X.env=pure true:=by rfl) (h:nse iter=true:=by rfl) (hf:X.fn x=true\/X.env.scope.names.lookup x=some .local:=by first|exact .inl rfl|exact .inr rfl|assumption) (hn:own.length=n:=by rfl):
  DS1 X K E (.Assign [.Name x pos'] (.ListComp elt [⟨tg,iter,ifs,0⟩] scope cpos) pos) (DS.sSet j (DS.zA6 n ix im g mt m)):=by
 subst hn;exact⟨(qsetc' hN hix hx hc S hi.h (λ_ _ _ _ _=>(hg _ _ _ _ _).h) (λ_ _ _ _ _=>(ht _ _ _ _ _).h) (λ_ _ _ _ _=>(he _ _ _ _ _).h) hsw h hf).imp λD σ H h=>zKc σ H _ (of_imp σ H _ (zT6 D σ H h))⟩
end
section
variable {P:Program}{w:World}{K:PySem.W.Frag}{mg:Str->Option Value}{base:Heap}
theorem zHg{np:Nat}{ds:List D}{P:D->Store->Js->Hp->Prop}(h:Post K E J H (DS.zAk np nl b ds S) P):ds.length=np:=by
 unfold DS.zAk at h;by_cases e:ds.length=np
 ·exact e
 ·rw[xg e]at h;exact False.elim h
theorem zJd{ds:List D}{N:List Str}(r:RepL K J H ds vs):RepE K J H (ds.map some++List.replicate (N.length-ds.length) none) (start N vs):=by
 refine⟨by simp[start,r.length],λi d e=>?_⟩;unfold start;by_cases hi:i<ds.length
 ·rw[vy (by simpa using hi),xV]at e;rw[vy (by simpa[<- r.length]using hi),xV];cases ed:ds[i]? with
  | none=>rw[ed]at e;cases e
  | some d'=>
   rw[ed]at e;cases e;obtain⟨x,ex,rx⟩:=r.get ed;exact⟨x,by rw[ex];rfl,rx⟩
 ·rw[vG (by simpa using hi),List.getElem?_replicate]at e;split at e <;> cases e
theorem zWb{np:Nat}{N:List Str}{b:DS.SM}{Q:VK}(ha:AbS K J S H)(r:RepL K J H ds vs)
  (h:Post K XE0 J H (DS.zAk np N.length b ds S) (λd _ J' H'=>∀v,Rep K J' H' d v->Q v H')):tsOf K XE0 b { nx:=λ_ H'=>Q .non H',rt:=Q } (start N vs) H:=by
 have hl:=zHg h;unfold DS.zAk at h;rw[xf hl,<- hl]at h;refine⟨_,S,J,ha,zJd r,?_⟩;have fin:∀d S' J' H' v,AbS K J' S' H'->Grow J H J' H'->Rep K J' H' d v->Post K XE0 J H (DS.fin S d S') (λd _ J' H'=>∀v,Rep K J' H' d v->Q v H')->Q v H':=λd S' J' H' v a1 g1 r1 q=>by
  cases e:DS.fin S d S' with
  | ok d2 S2=>
   obtain⟨J2,a2,g2,r2⟩:=zZh ha g1 a1 r1 e;rw[e]at q;exact q J2 H' a2 g2 v r2
  | ex x S2=>rw[e]at q;exact False.elim (q J' H' (by
    exfalso;unfold DS.fin at e;split at e <;> try cases e
    split at e <;> try cases e
    split at e <;> try cases e
    split at e <;> try cases e
    split at e <;> cases e) g1)
  | bad=>rw[e]at q;exact False.elim q
 cases e:b (ds.map some++List.replicate (N.length-ds.length) none) S with
 | nx e1 S1=>rw[e]at h;exact λJ' H' σ h1 g1 _=>fin .non S1 J' H' .non h1 g1 rfl h
 | rt d S1=>rw[e]at h;exact λJ' H' v h1 g1 r1=>fin d S1 J' H' v h1 g1 r1 h
 | bk e1 S1=>rw[e]at h;exact False.elim h
 | ct e1 S1=>rw[e]at h;exact False.elim h
 | ex x S1=>rw[e]at h;exact h
 | bad=>rw[e]at h;exact False.elim h
theorem fn_d{k:Nat}{x qual:Str}{st:Stmt}{f:Addr}{fd:FuncData}{N ps:List Str}{np nl:Nat}{b:DS.SM}(F:Fun K x qual st f fd)(Sc:zDl N ps (zA8 st))(hnp:ps.length=np)(hnl:N.length=nl)
  (hb:∀(cdv:Value) (A:Around) (outer:List PySem.Env) (s:Shared) (H:Hp) (E:XK),Room k (A.deeper (envOfC qual (zA8 st) s.heap.objs.size f cdv))->DSs (cxOf CX0 P w K mg base N qual (zA8 st) f cdv A outer s H E).nox K XE0 (zB8 st) b):
  FnOk P w K mg base CX0 (k+1) f fd ps (spOf K XE0 (DS.zAk np nl b)):=by
 subst hnp hnl;refine F.ok Sc (λvs H Q E h=>?_) (λcdv A outer s H vs Q E hr h=>?_)
 ·obtain⟨J,S,ds,ha,r,q⟩:=h;rw[<- r.length];exact zHg q
 ·obtain⟨J,S,ds,ha,r,q⟩:=h;exact⟨_,(hb cdv A outer s H E hr).h.h,zWb ha r q⟩
theorem zRc{np:Nat}{N:List Str}{b:DS.SM}{ds:List D}{Q:VK}(hl:ds.length=np)(ha:AbS K J S H)(r:RepL K J H ds vs)
  (h:Post K XE0 J H (DS.zF4 np N.length b ds S) (λd _ J' H'=>∀v,Rep K J' H' d v->Q v H')):tsOf K XE0 b { nx:=λ_ H'=>Q .non H',rt:=Q } (start N vs) H:=by
 unfold DS.zF4 at h;rw[xf hl,<- hl]at h;refine⟨_,S,J,ha,zJd r,?_⟩;cases e:b (ds.map some++List.replicate (N.length-ds.length) none) S with
 | nx e1 S1=>rw[e]at h;exact λJ' H' σ h1 g1 _=>h J' H' h1 g1 .non rfl
 | rt d S1=>rw[e]at h;exact λJ' H' v h1 g1 r1=>h J' H' h1 g1 v r1
 | bk e1 S1=>rw[e]at h;exact False.elim h
 | ct e1 S1=>rw[e]at h;exact False.elim h
 | ex x S1=>rw[e]at h;exact h
 | bad=>rw[e]at h;exact False.elim h
theorem fn_r{k:Nat}{x qual:Str}{st:Stmt}{f:Addr}{fd:FuncData}{N ps:List Str}{np nl:Nat}{b:DS.SM}(F:Fun K x qual st f fd)(Sc:zDl N ps (zA8 st))(hnp:ps.length=np)(hnl:N.length=nl)
  (hb:∀(cdv:Value) (A:Around) (outer:List PySem.Env) (s:Shared) (H:Hp) (E:XK),Room k (A.deeper (envOfC qual (zA8 st) s.heap.objs.size f cdv))->DSs (cxOf CX0 P w K mg base N qual (zA8 st) f cdv A outer s H E).nox K XE0 (zB8 st) b):
  FnOk P w K mg base CX0 (k+1) f fd ps (spOf K XE0 (DS.zF4 np nl b)):=by
 subst hnp hnl;have cl:∀{J:Js}{H:Hp}{ds:List D}{S:Store}{P:D->Store->Js->Hp->Prop},Post K XE0 J H (DS.zF4 ps.length N.length b ds S) P->ds.length=ps.length:=λ{J H ds S P} h=>by
  unfold DS.zF4 at h;by_cases e:ds.length=ps.length
  ·exact e
  ·rw[xg e]at h;exact False.elim h
 refine F.ok Sc (λvs H Q E h=>?_) (λcdv A outer s H vs Q E hr h=>?_)
 ·obtain⟨J,S,ds,ha,r,q⟩:=h;rw[<- r.length];exact cl q
 ·obtain⟨J,S,ds,ha,r,q⟩:=h;exact⟨_,(hb cdv A outer s H E hr).h.h,zRc (cl q) ha r q⟩
end
end L2
namespace DS
open PySem (Str)
section
open Classical
noncomputable def big:Nat:=2 ^ 5000
def sm(x:Int):Prop:=x.natAbs<big
theorem yAt{x:Int}(h1:-(2 ^ 200)<x)(h2:x<2 ^ 200):sm x:=by
 have h:(2:Nat) ^ 200<=big:=v8 (by decide) (by decide);have e:((2 ^ 200:Nat):Int)=2 ^ 200:=by norm_cast
 unfold sm;lia
noncomputable def addD (S:Store) (x y:D):Option D:=match x,y with
 | .int a,.int b=>some (.int (a+b))
 | .str a,.str b=>if a.length+b.length<=most then some (.str (a++b))else none
 | .tup l,.tup m=>if l≠[]/\l.length+m.length<=most then some (.tup (l++m))else none
 | x,y=>match litems S x,litems S y with
  | some l,some m=>if l.length+m.length<=most then some (.lst (l++m))else none
  | _,_=>none
noncomputable def catD (S:Store) (x y:D):Option D:=match litems S x,litems S y with
 | some l,some m=>if l.length+m.length<=most then some (.lst (l++m))else none
 | _,_=>none
noncomputable def subD (_:Store) (x y:D):Option D:=match x,y with
 | .int a,.int b=>some (.int (a-b))
 | _,_=>none
noncomputable def mulD (S:Store) (x y:D):Option D:=match x,y with
 | .int a,.int b=>if sm a/\sm b then some (.int (a*b))else none
 | _,_=>none
noncomputable def zDw (_:Store) (x y:D):Option D:=match x,y with
 | .int a,.int b=>if b≠0/\sm b then some (.int (a.fdiv b))else none
 | _,_=>none
noncomputable def modD (_:Store) (x y:D):Option D:=match x,y with
 | .int a,.int b=>if 0<b then some (.int (a % b))else none
 | _,_=>none
noncomputable def powD (_:Store) (x y:D):Option D:=match x,y with
 | .int a,.int b=>if 0<=b/\b<=1000000/\a.natAbs<2 ^ 64 then some (.int (a ^ b.toNat))else none
 | _,_=>none
noncomputable def shlD (_:Store) (x y:D):Option D:=match x,y with
 | .int a,.int b=>if 0<=b/\b<=1000000/\a.natAbs<2 ^ 64 then some (.int (a*2 ^ b.toNat))else none
 | _,_=>none
noncomputable def shrD (_:Store) (x y:D):Option D:=match x,y with
 | .int a,.int b=>if 0<=b then some (.int (a / 2 ^ b.toNat))else none
 | _,_=>none
noncomputable def andD (_:Store) (x y:D):Option D:=match x,y with
 | .int a,.int b=>if 0<=a/\0<=b then some (.int ((a.toNat &&& b.toNat:Nat):Int))else none
 | _,_=>none
noncomputable def orD (_:Store) (x y:D):Option D:=match x,y with
 | .int a,.int b=>if 0<=a/\0<=b then some (.int ((a.toNat ||| b.toNat:Nat):Int))else none
 | _,_=>none
noncomputable def gtD (_:Store) (x y:D):Option D:=match x,y with
 | .int a,.int b=>some (.bl (decide (b<a)))
 | _,_=>none
noncomputable def geD (_:Store) (x y:D):Option D:=match x,y with
 | .int a,.int b=>some (.bl (decide (b<=a)))
 | _,_=>none
noncomputable def ixN (n:Nat) (i:Int):Option Nat:=if 0<=i then(if i<n then some i.toNat else none)else if -(n:Int)<=i then some (i+n).toNat else none
noncomputable def atL {α:Type}(xs:List α) (i:Int):Option α:=(ixN xs.length i).bind λj=>xs[j]?
noncomputable def look2 (ks vs:List D) (k:D):Option D:=match ks,vs with
 | a::r,v::t=>if a=k then some v else look2 r t k
 | _,_=>none
noncomputable def isKey:D->Bool
 | .int _=>true
 | .str _=>true
 | .tup l=>l.all λd=>match d with
  | .int _=>true
  | .str _=>true
  | _=>false
 | _=>false
noncomputable def zBk (t:Bool) (k:D):Bool:=isKey k && (match k with
 | .tup _=>t
 | _=>!t)
noncomputable def ixD (S:Store) (x y:D):Option D:=match look S x,y with
 | some (.tup l),.int i=>atL l i
 | some (.lst l),.int i=>atL l i
 | some (.str z),.int i=>if z.length<=most then(atL z.cps.toList i).map λc=>.str ⟨#[c]⟩else none
 | some (.dct t ks vs),k=>if zBk t k=true then look2 ks vs k else none
 | _,_=>none
noncomputable def sIx (n d:Nat):Option Int->Nat
 | none=>d
 | some v=>if v<0 then(v+(n:Int)).toNat else min v.toNat n
noncomputable def cutL {α:Type}(xs:List α) (lo hi:Option Int):List α:=(xs.drop (sIx xs.length 0 lo)).take (sIx xs.length xs.length hi-sIx xs.length 0 lo)
noncomputable def slD (S:Store) (x:D) (lo hi:Option Int):Option D:=match x with
 | .tup l=>some (.tup (cutL l lo hi))
 | .ktup l=>if sIx l.length 0 lo=0/\sIx l.length l.length hi=l.length then some (.ktup l)else some (.tup (cutL l lo hi))
 | x=>match look S x with
  | some (.lst l)=>some (.lst (cutL l lo hi))
  | _=>none
noncomputable def repl2:List D->List D->D->D->List D
 | a::r,w::t,k,v=>(if a=k then v else w)::repl2 r t k v
 | _,_,_,_=>[]
noncomputable def put2 (ks vs:List D) (k v:D):List D × List D:=if k∈ks then(ks,repl2 ks vs k v)else(ks++[k],vs++[v])
noncomputable def putD (S:Store) (o k v:D):Option Store:=match o with
 | .ref n=>match S[n]? with
  | some (.lst l)=>(match k with
   | .int i=>(ixN l.length i).map λj=>S.set n (.lst (l.set j v))
   | _=>none)
  | some (.dct t ks vs)=>if zBk t k=true/\ks.length<most then some (S.set n (.dct t (put2 ks vs k v).1 (put2 ks vs k v).2))else none
  | _=>none
 | _=>none
noncomputable def lenB (S:Store):List D->Option D
 | [d]=>match look S d with
  | some (.tup l)=>some (.int l.length)
  | some (.lst l)=>some (.int l.length)
  | some (.dct _ ks _)=>some (.int ks.length)
  | some (.str x)=>if x.length<=most then some (.int x.length)else none
  | _=>none
 | _=>none
noncomputable def zAf (S:Store):List D->Option D
 | [d]=>match d with
  | .tup l=>some (.tup l)
  | .ktup l=>some (.ktup l)
  | d=>(litems S d).map D.tup
 | _=>none
noncomputable def bools:List D->Option (List Bool)
 | []=>some []
 | .bl b::r=>(bools r).map (b::·)
 | _=>none
noncomputable def anyB (S:Store):List D->Option D
 | [d]=>((litems S d).bind bools).map λbs=>.bl (bs.any id)
 | _=>none
noncomputable def max2B (_:Store):List D->Option D
 | [.int i,.int j]=>some (.int (if j > i then j else i))
 | _=>none
noncomputable def min2B (_:Store):List D->Option D
 | [.int i,.int j]=>some (.int (if j<i then j else i))
 | _=>none
noncomputable def absB (_:Store):List D->Option D
 | [.int i]=>some (.int (if i<0 then -i else i))
 | _=>none
noncomputable def zBv (S:Store) (o:D) (xs:List D):Option (D × Store):=match o,xs with
 | .ref n,[v]=>match S[n]? with
  | some (.lst l)=>if l.length<most then some (.non,S.set n (.lst (l++[v])))else none
  | _=>none
 | _,_=>none
end
end DS
namespace L2
open PySem PySem.Spec PyProof.Rows
open DS (D Store Exn Rs SR)
section
variable {X:Cx}{K:PySem.W.Frag}{E:XE}{J:Js}{S:Store}{H:Hp}{d d1 d2:D}{v:V}
theorem Inv.lstR{s:Shared}{xs:List V}(I:Inv X pins σ H s)(hH:Rd H l (.lst xs)):xs.length<=sizeLine/\∃(its:List Value) (n:Nat),Vals xs its/\xs.length=its.length/\s.heap.get? l=some { cls:=.type "list",data:=.seq its.toArray n }:=by obtain⟨z,its,n,r,e⟩:=hH.ok I.hok;exact⟨z,its,n,r,r.length,e⟩
theorem zCd(ha:AbS K J S H)(r:Rep K J H d v)(e:DS.litems S d=some l):∃a xs,v=.ref a/\Rd H a (.lst xs)/\RepL K J H l xs:=by
 cases d with
 | lst ds=>cases e;obtain⟨a,xs,rfl,t,rl⟩:=r;exact⟨a,xs,rfl,.inl t.1,rl⟩
 | ref n=>
  obtain⟨a,ea,rfl⟩:=r;obtain⟨c,ec,o,eo,rc⟩:=ha.at ea;unfold DS.litems DS.look at e;simp only[ec]at e;cases c with
  | lst ds=>cases e;obtain⟨xs,rfl,rl⟩:=rc;exact⟨a,xs,rfl,.inl eo,rl⟩
  | dct _ ks vs=>cases e
  | _=>exact False.elim rc
 | _=>cases e
theorem zE5(ha:AbS K J S H)(r:Rep K J H d v)(e:DS.items S d=some l):∃a xs,v=.ref a/\(SqL K H a xs\/SqT K H a xs)/\RepL K J H l xs:=by
 cases d with
 | tup ds=>cases e;obtain⟨a,xs,rfl,t,rl⟩:=r;exact⟨a,xs,rfl,.inr t.sq,rl⟩
 | ktup ds=>cases e;obtain⟨a,xs,rfl,t,rl⟩:=r;exact⟨a,xs,rfl,.inr t.sq,rl⟩
 | klst ds=>cases e;obtain⟨a,xs,rfl,t,rl⟩:=r;exact⟨a,xs,rfl,.inl t.sq,rl⟩
 | lst ds=>cases e;obtain⟨a,xs,rfl,t,rl⟩:=r;exact⟨a,xs,rfl,.inl t.sq,rl⟩
 | ref n=>
  obtain⟨a,ea,rfl⟩:=r;obtain⟨c,ec,o,eo,rc⟩:=ha.at ea;unfold DS.items DS.look at e;simp only[ec]at e;cases c with
  | lst ds=>cases e;obtain⟨xs,rfl,rl⟩:=rc;exact⟨a,xs,rfl,.inl (.inl (.inl eo)),rl⟩
  | dct _ ks vs=>cases e
  | _=>exact False.elim rc
 | _=>cases e
theorem zU2:OpR X (binaryOp .Sub) (r2Of K DS.subD):=by
 intro pins s σ H x y v u Q I rx ry hq7;obtain⟨J,S,d1,d2,d,ha,r1,r2,e,k⟩:=hq7;unfold DS.subD at e;split at e
 ·cases e;obtain rfl:=r1;obtain rfl:=r2;exact zY7 pins s σ H _ _ v u Q I rx ry ⟨_,_,rfl,rfl,k _ H ha .refl rfl⟩
 ·cases e
theorem zU7:OpR X (binaryOp .Mult) (r2Of K DS.mulD):=by
 intro pins s σ H x y v u Q I rx ry hq8;obtain⟨J,S,d1,d2,d,ha,r1,r2,e,k⟩:=hq8;unfold DS.mulD at e;split at e
 ·split at e
  ·rename_i h;cases e;obtain rfl:=r1;obtain rfl:=r2;exact zU6 pins s σ H _ _ v u Q I rx ry ⟨_,_,rfl,rfl,h,k _ H ha .refl rfl⟩
  ·cases e
 ·cases e
theorem zQb:OpR X (binaryOp .FloorDiv) (r2Of K DS.zDw):=by
 intro pins s σ H x y v u Q I rx ry hq9;obtain⟨J,S,d1,d2,d,ha,r1,r2,e,k⟩:=hq9;unfold DS.zDw at e;split at e
 ·split at e
  ·rename_i h;cases e;obtain rfl:=r1;obtain rfl:=r2;exact zQa pins s σ H _ _ v u Q I rx ry ⟨_,_,rfl,rfl,h,k _ H ha .refl rfl⟩
  ·cases e
 ·cases e
theorem zU8:OpR X (binaryOp .Mod) (r2Of K DS.modD):=by
 intro pins s σ H x y v u Q I rx ry hq10;obtain⟨J,S,d1,d2,d,ha,r1,r2,e,k⟩:=hq10;unfold DS.modD at e;split at e
 ·split at e
  ·rename_i h;cases e;obtain rfl:=r1;obtain rfl:=r2;exact zYd pins s σ H _ _ v u Q I rx ry ⟨_,_,rfl,rfl,h,k _ H ha .refl rfl⟩
  ·cases e
 ·cases e
theorem zU5:OpR X (binaryOp .Pow) (r2Of K DS.powD):=by
 intro pins s σ H x y v u Q I rx ry hq11;obtain⟨J,S,d1,d2,d,ha,r1,r2,e,k⟩:=hq11;unfold DS.powD at e;split at e
 ·split at e
  ·rename_i h;cases e;obtain rfl:=r1;obtain rfl:=r2;exact zYa pins s σ H _ _ v u Q I rx ry ⟨_,_,rfl,rfl,h,k _ H ha .refl rfl⟩
  ·cases e
 ·cases e
theorem zU4:OpR X (binaryOp .LShift) (r2Of K DS.shlD):=by
 intro pins s σ H x y v u Q I rx ry hq12;obtain⟨J,S,d1,d2,d,ha,r1,r2,e,k⟩:=hq12;unfold DS.shlD at e;split at e
 ·split at e
  ·rename_i h;cases e;obtain rfl:=r1;obtain rfl:=r2;exact zY9 pins s σ H _ _ v u Q I rx ry ⟨_,_,rfl,rfl,h,k _ H ha .refl rfl⟩
  ·cases e
 ·cases e
theorem zU3:OpR X (binaryOp .RShift) (r2Of K DS.shrD):=by
 intro pins s σ H x y v u Q I rx ry hq13;obtain⟨J,S,d1,d2,d,ha,r1,r2,e,k⟩:=hq13;unfold DS.shrD at e;split at e
 ·split at e
  ·rename_i h;cases e;obtain rfl:=r1;obtain rfl:=r2;exact zY8 pins s σ H _ _ v u Q I rx ry ⟨_,_,rfl,rfl,h,k _ H ha .refl rfl⟩
  ·cases e
 ·cases e
theorem bAnd{a b:Int}(h1:0<=a)(h2:0<=b):Builtin.bitAnd a b=((a.toNat &&& b.toNat:Nat):Int):=by unfold Builtin.bitAnd;rw[xx h1,xx h2]
theorem bOr{a b:Int}(h1:0<=a)(h2:0<=b):Builtin.bitOr a b=((a.toNat ||| b.toNat:Nat):Int):=by
 have n1:decide (0<=Builtin.bitNot a)=false:=xy (by unfold Builtin.bitNot;lia);have n2:decide (0<=Builtin.bitNot b)=false:=xy (by unfold Builtin.bitNot;lia);have e:∀z:Int,Builtin.bitNot (Builtin.bitNot z)=z:=λz=>by unfold Builtin.bitNot;lia
 unfold Builtin.bitOr Builtin.bitAnd;rw[n1,n2,e,e,e]
theorem zUb:OpR X (binaryOp .BitAnd) (r2Of K DS.andD):=by
 intro pins s σ H x y v u Q I rx ry hq14;obtain⟨J,S,d1,d2,d,ha,r1,r2,e,k⟩:=hq14;unfold DS.andD at e;split at e
 ·split at e
  ·rename_i h;cases e;obtain rfl:=r1;obtain rfl:=r2;exact zYi pins s σ H _ _ v u Q I rx ry ⟨_,_,rfl,rfl,by show Q (.int (Builtin.bitAnd _ _)) H;rw[bAnd h.1 h.2];exact k _ H ha .refl rfl⟩
  ·cases e
 ·cases e
theorem zYb:OpR X (binaryOp .BitOr) (r2Of K DS.orD):=by
 intro pins s σ H x y v u Q I rx ry hq15;obtain⟨J,S,d1,d2,d,ha,r1,r2,e,k⟩:=hq15;unfold DS.orD at e;split at e
 ·split at e
  ·rename_i h;cases e;obtain rfl:=r1;obtain rfl:=r2;exact yBa pins s σ H _ _ v u Q I rx ry ⟨_,_,rfl,rfl,by show Q (.int (Builtin.bitOr _ _)) H;rw[bOr h.1 h.2];exact k _ H ha .refl rfl⟩
  ·cases e
 ·cases e
theorem zOf{xs ys:List V}{Q:VK}(I:Inv X pins σ H s)(h1:Rd H a (.lst xs))(h2:Rd H b (.lst ys))(hz:xs.length+ys.length<=sizeLine)(q:∀p,H p=none->Q (.ref p) (upd H p (.lst (xs++ys)))):
  wpAny (model X.prog X.w) X.A (binaryOp .Add (.ref a) (.ref b)) (EP X pins σ Q) X.xe s:=by
 obtain⟨z,its,n,r,hl,e⟩:=I.lstR h1;obtain⟨z2,its2,n2,r2,hl2,e2⟩:=I.lstR h2;refine PySem.P.add_list e e2 ?_ (by rw[xu,xu,<- hl,<- hl2];exact hz);rw[show its.toArray++its2.toArray=(its++its2).toArray by simp];exact⟨.ref _,_,I.lnew (r.append r2) (by rw[xH];exact hz),rfl,q _ I.fresh⟩
theorem zQc:OpR X (binaryOp .Add) (yB2 K DS.catD):=by
 intro pins s σ H x y v u Q I rx ry hq16;obtain⟨J,S,d1,d2,d,ha,r1,r2,e,k⟩:=hq16;unfold DS.catD at e;split at e
 ·rename_i l m e1 e2;split at e
  ·rename_i h;cases e;obtain⟨a,xs,rfl,h1,q1⟩:=zCd ha r1 e1;obtain⟨b,ys,rfl,h2,q2⟩:=zCd ha r2 e2;cases rx;cases ry;exact zOf I h1 h2 (by rw[<- q1.length,<- q2.length];exact h) λp n=>k p _ H ha .refl n ⟨_,rfl,q1.append q2⟩
  ·cases e
 ·cases e
theorem zUc(hK:X.K=K:=by rfl):OpR X (binaryOp .Add) (r2Of K DS.addD):=by
 subst hK;intro pins s σ H x y v u Q I rx ry hq17;obtain⟨J,S,d1,d2,d,ha,r1,r2,e,k⟩:=hq17;unfold DS.addD at e;split at e
 ·cases e;obtain rfl:=r1;obtain rfl:=r2;exact zYj pins s σ H _ _ v u Q I rx ry ⟨_,_,rfl,rfl,k _ H ha .refl rfl⟩
 ·split at e
  ·rename_i h;cases e;obtain rfl:=r1;obtain rfl:=r2;exact zKq pins s σ H _ _ v u Q I rx ry ⟨_,_,rfl,rfl,h,k _ H ha .refl rfl⟩
  ·cases e
 ·split at e
  ·rename_i l m h;cases e;obtain⟨a,xs,rfl,t1,q1⟩:=r1;obtain⟨b,ys,rfl,t2,q2⟩:=r2;have e1:=q1.length;have e2:=q2.length;refine zUa pins s σ H _ _ v u Q I rx ry ⟨a,b,xs,ys,rfl,rfl,t1.sq,t2.sq,λz=>h.1 (by subst z;exact List.eq_nil_of_length_eq_zero e1),by rw[<- e1,<- e2];exact h.2,λz=>?_,λz p n=>?_⟩
   ·subst z;obtain rfl:m=[]:=List.eq_nil_of_length_eq_zero e2;rw[ug]at k;exact k _ H ha .refl ⟨a,xs,rfl,t1,q1⟩
   ·exact k _ _ (ha.push n) (.push n) ⟨p,_,rfl,⟨zAe,ha.out n⟩,RepL.grow (.push n) _ _ (q1.append q2)⟩
  ·cases e
 ·exact zQc pins s σ H _ _ v u Q I rx ry ⟨J,S,d1,d2,d,ha,r1,r2,e,λp o H' a1 g1 n r=>k _ _ (a1.push n) (g1.trans (.push n)) (r.rep a1 n)⟩
theorem zYf:OpR X (compareOp .Gt) (r2Of K DS.gtD):=by
 intro pins s σ H x y v u Q I rx ry hq18;obtain⟨J,S,d1,d2,d,ha,r1,r2,e,k⟩:=hq18;unfold DS.gtD at e;split at e
 ·cases e;obtain rfl:=r1;obtain rfl:=r2;exact yBc pins s σ H _ _ v u Q I rx ry ⟨_,_,rfl,rfl,k _ H ha .refl (congrArg V.bl (by congr))⟩
 ·cases e
theorem zYg:OpR X (compareOp .GtE) (r2Of K DS.geD):=by
 intro pins s σ H x y v u Q I rx ry hq19;obtain⟨J,S,d1,d2,d,ha,r1,r2,e,k⟩:=hq19;unfold DS.geD at e;split at e
 ·cases e;obtain rfl:=r1;obtain rfl:=r2;exact yBd pins s σ H _ _ v u Q I rx ry ⟨_,_,rfl,rfl,k _ H ha .refl (congrArg V.bl (by congr))⟩
 ·cases e
theorem yAh{α β:Type}{l:List α}{xs:List β}{i:Int}{a:α}(hl:l.length=xs.length)(e:DS.atL l i=some a):∃j:Nat,l[j]?=some a/\∀b,xs[j]?=some b->atI xs i=some b:=by
 unfold DS.atL at e;unfold atI;rw[show DS.ixN l.length i=L2.ixN xs.length i by rw[hl];rfl]at e;cases e1:L2.ixN xs.length i with
 | none=>rw[e1]at e;cases e
 | some j=>rw[e1]at e;exact⟨j,e,λb eb=>eb⟩
theorem zG8(h:keyD k=keyD k'):k=k':=by cases k <;> cases k' <;> first|(cases h;rfl)|cases h
theorem zG7(r:Rep K J H (keyD k) v):v=kV k:=by cases k <;> exact r
theorem zFc:∀{l m:List Key},l.map keyD=m.map keyD->l=m
 | [],[],_=>rfl
 | [],_::_,h=>by cases h
 | _::_,[],h=>by cases h
 | a::l,b::m,h=>by
  have h:=List.cons.inj h;rw[zG8 h.1,zFc h.2]
theorem zGt(h:zDv k=zDv k'):k=k':=zFc (D.tup.inj h)
theorem zJh(h:DS.isKey d=true)(n:∀l,d≠.tup l):∃k,d=keyD k:=by
 cases d with
 | int i=>exact⟨.inl i,rfl⟩
 | str x=>exact⟨.inr x,rfl⟩
 | tup l=>exact absurd rfl (n l)
 | _=>cases h
theorem zIc:∀{l:List D},(l.all λd=>match d with
  | .int _=>true
  | .str _=>true
  | _=>false)=true->∃k:List Key,l=k.map keyD
 | [],_=>⟨[],rfl⟩
 | d::l,h=>by
  rw[vW,xE]at h;obtain⟨k,rfl⟩:=zIc h.2;cases d with
  | int i=>exact⟨.inl i::k,rfl⟩
  | str x=>exact⟨.inr x::k,rfl⟩
  | _=>cases h.1
theorem zG6:∀{k:List Key}{xs:List V},RepL K J H (k.map keyD) xs->xs=k.map kV
 | [],_,h=>h
 | a::k,_,⟨x,r,e,h,t⟩=>by subst e;rw[zG7 h,zG6 t];rfl
open Classical in
theorem zIg{κ:Type}[DecidableEq κ]{f:κ->D}(fi:∀a b,f a=f b->a=b)(k:κ):∀{kvs:List (κ × V)}{vs:List D},RepL K J H vs (kvs.map (·.2))->
  (valV kvs k=none/\f k ∉ kvs.map (λp=>f p.1)/\DS.look2 (kvs.map λp=>f p.1) vs (f k)=none)\/∃w dv,valV kvs k=some w/\f k∈kvs.map (λp=>f p.1)/\DS.look2 (kvs.map λp=>f p.1) vs (f k)=some dv/\Rep K J H dv w
 | [],vs,r=>.inl ⟨rfl,by simp,by cases vs <;> rfl⟩
 | p::kvs,[],r=>by have h:p.2::kvs.map (·.2)=[]:=r;cases h
 | p::kvs,dv::vs,⟨x,t,e,h,rl⟩=>by
  have e:=List.cons.inj (e);obtain⟨rfl,rfl⟩:=e;by_cases z:p.1=k
  ·refine .inr ⟨p.2,dv,zE0 z,by simp[z],?_,h⟩;unfold DS.look2;rw[xp];exact xf (by rw[z])
  ·have zf:f p.1≠f k:=λq=>z (fi _ _ q)
   have e1:DS.look2 ((p::kvs).map λp=>f p.1) (dv::vs) (f k)=DS.look2 (kvs.map λp=>f p.1) vs (f k):=by
    rw[xp]
    conv=>lhs;unfold DS.look2
    exact xg zf
   rw[zE1 z,e1];rcases zIg fi k rl with⟨a1,a2,a3⟩|⟨w,dv',a1,a2,a3,a4⟩
   ·exact .inl ⟨a1,by simp[a2,xG zf] <;> simpa using a2,a3⟩
   ·exact .inr ⟨w,dv',a1,by rw[xp];exact vf _ a2,a3,a4⟩
theorem zIl(he:Rd H a o)(ht:DOb o t ks xs)(rl:RepL K J H vs xs)(ry:Rep K J H d y)(hk:DS.zBk t d=true):
  (DGet H a y none/\d ∉ ks/\DS.look2 ks vs d=none)\/∃w dv,DGet H a y (some w)/\d∈ks/\DS.look2 ks vs d=some dv/\Rep K J H dv w:=by
 unfold DS.zBk at hk;rw[xE]at hk;rcases ht with⟨rfl,kvs,rfl,rfl,rfl⟩|⟨rfl,kvs,rfl,rfl,rfl⟩
 ·obtain⟨k,rfl⟩:=zJh hk.1 λl z=>by subst z;cases hk.2
  obtain rfl:=zG7 ry;rcases zIg (λa b=>zG8) k rl with⟨a1,a2,a3⟩|⟨w,dv,a1,a2,a3,a4⟩
  ·exact .inl ⟨.inl ⟨kvs,k,he,rfl,a1.symm⟩,a2,a3⟩
  ·exact .inr ⟨w,dv,.inl ⟨kvs,k,he,rfl,a1.symm⟩,a2,a3,a4⟩
 ·cases d with
  | tup l=>
   obtain⟨k,rfl⟩:=zIc (hk.1);obtain⟨b,zs,rfl,tb,rz⟩:=ry;obtain rfl:=zG6 rz;rcases zIg (λa b=>zGt) k rl with⟨a1,a2,a3⟩|⟨w,dv,a1,a2,a3,a4⟩
   ·exact .inl ⟨.inr ⟨kvs,k,b,he,rfl,tb.1,a1.symm⟩,a2,a3⟩
   ·exact .inr ⟨w,dv,.inr ⟨kvs,k,b,he,rfl,tb.1,a1.symm⟩,a2,a3,a4⟩
  | _=>cases hk.2
theorem zKb(ha:AbS K J S H)(r:Rep K J H d v)(e:DS.look S d=some (.dct t ks vs)):∃a o xs,v=.ref a/\Rd H a o/\DOb o t ks xs/\RepL K J H vs xs:=by
 cases d with
 | dct t ks vs=>cases e;obtain⟨a,o,xs,rfl,_,h,q,rl⟩:=r;exact⟨a,o,xs,rfl,h,q,rl⟩
 | ref n=>
  obtain⟨a,ea,rfl⟩:=r;obtain⟨c,ec,o,eo,rc⟩:=ha.at ea;have e:S[n]?=_:=e;rw[ec]at e;cases e;obtain⟨xs,q,rl⟩:=rc;exact⟨a,o,xs,rfl,.inl eo,q,rl⟩
 | _=>cases e
theorem zLu(ha:AbS K J S H)(r:Rep K J H d v)(e:DS.look S d=some (.str x)):v=.str x:=by
 cases d with
 | str x=>cases e;exact r
 | ref n=>
  obtain⟨a,ea,rfl⟩:=r;obtain⟨c,ec,o,eo,rc⟩:=ha.at ea;have e:S[n]?=_:=e;rw[ec]at e;cases e;exact False.elim rc
 | _=>cases e
theorem zBc(e:DS.look S d=some (.tup l)\/DS.look S d=some (.lst l)):DS.items S d=some l:=by unfold DS.items;rcases e with e|e <;> rw[e]
theorem ix_D(hu:X.A.units+1<cLine)(hK:X.K=K:=by rfl):IxR X (r2Of K DS.ixD):=by
 subst hK;intro value slice pins s σ H x y v u Q I rx ry hq20 hs;obtain⟨J,S,d1,d2,d,ha,r1,r2,e,k⟩:=hq20;have seq:∀(l:List D) (i:Int),DS.items S d1=some l->d2=.int i->DS.atL l i=some d->wpAny (model X.prog X.w) X.A (subscriptTail value slice v u) (EP X pins σ Q) X.xe s:=λl i e1 e2 e3=>by
  subst e2;obtain rfl:=r2;obtain⟨a,xs,rfl,hq,rl⟩:=zE5 ha r1 e1;obtain⟨j,ej,h⟩:=yAh rl.length e3;obtain⟨w,ew,rw'⟩:=rl.get ej;rcases hq with hq|hq
  ·exact zUz value slice pins s σ H _ _ v u Q I rx ry ⟨a,xs,i,w,rfl,rfl,hq,h w ew,k w H ha .refl rw'⟩ hs
  ·exact zZ5 value slice pins s σ H _ _ v u Q I rx ry ⟨a,xs,i,w,rfl,rfl,hq,h w ew,k w H ha .refl rw'⟩ hs
 unfold DS.ixD at e;split at e
 ·rename_i l i e1;exact seq l i (zBc (.inl e1)) rfl e
 ·rename_i l i e1;exact seq l i (zBc (.inr e1)) rfl e
 ·rename_i z i e1;split at e
  ·rename_i hz;cases e2:DS.atL z.cps.toList i with
   | none=>rw[e2]at e;cases e
   | some c=>
    rw[e2]at e;cases e;obtain rfl:=zLu ha r1 e1;obtain rfl:=r2;exact zZ6 value slice pins s σ H _ _ v u Q I rx ry ⟨z,i,c,rfl,rfl,hz,by unfold DS.atL at e2;unfold atI;exact e2,k _ H ha .refl rfl⟩ hs
  ·cases e
 ·rename_i t ks vs kk e1;split at e
  ·rename_i hk;obtain⟨a,o,xs,rfl,he,q,rl⟩:=zKb ha r1 e1;rcases zIl he q rl r2 hk with⟨_,_,h⟩|⟨w,dv,g,_,h,rw'⟩
   ·rw[h]at e;cases e
   ·rw[h]at e;cases e;obtain rfl:v=Value.ref a:=rx;exact tail_any (zIk I g) PySem.F.slot_dict_getitem.lookup (zO3 hu I g ry λw' s3 I3 rw2=>⟨w,H,I3,rw2,k w H ha .refl rw'⟩) hs
  ·cases e
 ·cases e
theorem zBi{prog:Program}{w:World}{A:Around}{E:Value->Shared->Prop}{s:Shared}{lo hi:Option Int}{Q:Value->Shared->Prop}(ht:IsTup s.heap t items)(hs:s.heap.IsSliceOf sl vl vu .none)(pl:IsPart vl lo)(pu:IsPart vu hi)
  (hw:HT.sIx items.size 0 lo=0/\HT.sIx items.size items.size hi=items.size) (h:Q (.ref t) s):wpAny (model prog w) A (getItem (.ref t) (.ref sl)) Q E s:=by
 obtain⟨os,hos,hcs,hds⟩:=id hs;have hTs:s.TypeIs (.ref sl) "slice":=⟨os,hos,hcs⟩;unfold getItem
 try with_reducible refine xP ?_
 first|refine xc (xh ?_)|skip
 refine xc (wpAny_sequenceKey ht.typeIs (by decide) ?_);refine xc (vi ht.typeIs ui (xK ui ht.typeIs entry_tuple_getitem ?_ (args_tuple_getitem _ _)));show wpAny _ _ (Builtin.Tuple.tupleItemsOf (.ref t) >>= _) _ _ s;refine xc (tupleItemsOf_ ht ?_);refine xc (wpAny_typeOf hTs ?_);rw[xf (by decide)];refine xc (HT.sliceApplied_gen hs pl pu ?_);show wpAny _ _ (if(((HT.sIx items.size 0 lo:Nat):Int) == 0 && (1:Int) == 1 && (HT.sIx items.size items.size hi-HT.sIx items.size 0 lo) == items.size)=true then _ else _) _ _ s;rw[xf (by rw[hw.1,hw.2];simp)];have tex:∀{Q:Bool->Shared->Prop},Q true s->wpAny (model prog w) A.in1 (Builtin.Tuple.tupleIsExact (.ref t)) Q E s:=λ{Q} q=>by
  unfold Builtin.Tuple.tupleIsExact;refine xc (wpAny_typeOf ht.typeIs (xh ?_));exact q
 refine xc (tex ?_);rw[xf rfl];refine xc (vn ?_);exact xh ⟨_,rfl,xh h⟩
theorem zIn(rl:RepL K J H l xs)(lo hi:Option Int):RepL K J H (DS.cutL l lo hi) (cutV xs lo hi):=by unfold DS.cutL cutV;rw[show DS.sIx l.length 0 lo=HT.sIx xs.length 0 lo by rw[rl.length];rfl,show DS.sIx l.length l.length hi=HT.sIx xs.length xs.length hi by rw[rl.length];rfl];exact(rl.drop _).take _
theorem zO5{xs:List V}{lo hi:Option Int}(rl:RepL K J H l xs)(hw:HT.sIx xs.length 0 lo=0/\HT.sIx xs.length xs.length hi=xs.length):DS.cutL l lo hi=l:=by unfold DS.cutL;rw[show DS.sIx l.length 0 lo=HT.sIx xs.length 0 lo by rw[rl.length];rfl,show DS.sIx l.length l.length hi=HT.sIx xs.length xs.length hi by rw[rl.length];rfl,hw.1,hw.2,<- rl.length];simp
theorem zJq(ha:AbS K J S H)(r:Rep K J H d v)(e:DS.look S d=some (.lst l)):∃a xs,v=.ref a/\SqL K H a xs/\RepL K J H l xs:=by
 cases d with
 | lst l=>cases e;obtain⟨a,xs,rfl,t,rl⟩:=r;exact⟨a,xs,rfl,t.sq,rl⟩
 | klst l=>cases e;obtain⟨a,xs,rfl,t,rl⟩:=r;exact⟨a,xs,rfl,t.sq,rl⟩
 | ref n=>
  obtain⟨a,ea,rfl⟩:=r;obtain⟨c,ec,o,eo,rc⟩:=ha.at ea;have e:S[n]?=_:=e;rw[ec]at e;cases e;obtain⟨xs,rfl,rl⟩:=rc;exact⟨a,xs,rfl,.inl (.inl eo),rl⟩
 | _=>cases e
theorem sl_D(hK:X.K=K:=by rfl):SlR X (slOf K DS.slD):=by
 subst hK;intro pins s σ H x v vl vu lo hi sl Q I rx hs pl pu hq21;obtain⟨J,S,d1,d,ha,r1,e,k⟩:=hq21;unfold DS.slD at e;split at e
 ·rename_i l;cases e;have r0:=r1;obtain⟨a,xs,rfl,t,rl⟩:=r1;by_cases hw:HT.sIx xs.length 0 lo=0/\HT.sIx xs.length xs.length hi=xs.length
  ·cases rx;obtain⟨its,r,ht,hz⟩:=I.tuple t.sq;have hlen:its.toArray.size=xs.length:=by rw[xu];exact r.length.symm
   refine⟨"tuple",_,ui.lookup,ht.typeIs,zBi ht hs pl pu (by rw[hlen];exact hw) ⟨.ref a,H,I,rfl,k _ H ha .refl ?_⟩⟩;rw[zO5 rl hw];exact r0
  ·exact zRp pins s σ H _ v vl vu lo hi sl Q I rx hs pl pu ⟨a,xs,rfl,t.sq,hw,λp n=>k _ _ (ha.push n) (.push n) ⟨p,_,rfl,⟨zAe,ha.out n⟩,RepL.grow (.push n) _ _ (zIn rl lo hi)⟩⟩
 ·rename_i l;have r0:=r1;obtain⟨a,xs,rfl,t,rl⟩:=r1;split at e
  ·rename_i hw;cases e;have hw:HT.sIx xs.length 0 lo=0/\HT.sIx xs.length xs.length hi=xs.length:=by rw[<- rl.length];exact hw
   cases rx;obtain⟨its,r,ht,hz⟩:=I.tuple (t.sq);have hlen:its.toArray.size=xs.length:=by rw[xu];exact r.length.symm
   exact⟨"tuple",_,ui.lookup,ht.typeIs,zBi ht hs pl pu (by rw[hlen];exact hw) ⟨.ref a,H,I,rfl,k _ H ha .refl r0⟩⟩
  ·rename_i hw;cases e;have hw:¬ (HT.sIx xs.length 0 lo=0/\HT.sIx xs.length xs.length hi=xs.length):=by rw[<- rl.length];exact hw
   exact zRp pins s σ H _ v vl vu lo hi sl Q I rx hs pl pu ⟨a,xs,rfl,t.sq,hw,λp n=>k _ _ (ha.push n) (.push n) ⟨p,_,rfl,⟨zAe,ha.out n⟩,RepL.grow (.push n) _ _ (zIn rl lo hi)⟩⟩
 ·split at e
  ·rename_i l e1;cases e;obtain⟨a,xs,rfl,t,rl⟩:=zJq ha r1 e1;exact zT2 pins s σ H _ v vl vu lo hi sl Q I rx hs pl pu ⟨a,xs,rfl,t,λp n=>k _ _ (ha.push n) (.push n) ⟨p,_,rfl,⟨zAe,ha.out n⟩,RepL.grow (.push n) _ _ (zIn rl lo hi)⟩⟩
  ·cases e
noncomputable def pOf (K:PySem.W.Frag) (g:Store->D->D->D->Option Store):TSet:=λo i v H Q=>∃J S d1 d2 d3 S',AbS K J S H/\Rep K J H d1 o/\Rep K J H d2 i/\Rep K J H d3 v/\g S d1 d2 d3=some S'/\∀H',AbS K J S' H'->Grow J H J H'->Q H'
open Classical in
theorem zRv{κ:Type}[DecidableEq κ]{f:κ->D}(fi:∀a b,f a=f b->a=b){k:κ}{dv:D}{w:V}{kvs:List (κ × V)}{vs:List D}(r:RepL K J H vs (kvs.map (·.2)))(rv:Rep K J H dv w):
  (DS.put2 (kvs.map λp=>f p.1) vs (f k) dv).1=(putK kvs k w).map (λp=>f p.1)/\RepL K J H (DS.put2 (kvs.map λp=>f p.1) vs (f k) dv).2 ((putK kvs k w).map (·.2)):=by
 have any_iff:(kvs.any λkv=>decide (kv.1=k))=true <-> f k∈kvs.map λp=>f p.1:=by
  simp only[List.any_eq_true,decide_eq_true_eq,xn];constructor
  ·rintro⟨p,hp,e⟩;exact⟨p,hp,by rw[e]⟩
  ·rintro⟨p,hp,e⟩;exact⟨p,hp,fi _ _ e⟩
 unfold DS.put2 putK;by_cases hm:f k∈kvs.map λp=>f p.1
 ·rw[xf hm,xf (any_iff.mpr hm)];refine⟨?_,?_⟩
  ·rw[xC];refine vP λp _=>?_
   show f p.1=f (if p.1=k then(p.1,w)else p).1;split <;> rfl
  ·clear hm any_iff
   induction kvs generalizing vs with
   | nil=>cases vs <;> rfl
   | cons p kvs ih=>
    cases vs with
    | nil=>cases r
    | cons dw vs=>
     obtain⟨x,t,e,h,rl⟩:=r;have e:=List.cons.inj (e);obtain⟨rfl,rfl⟩:=e;refine⟨(if p.1=k then(p.1,w)else p).2,_,rfl,?_,ih rl⟩;by_cases z:p.1=k
     ·rw[xf z,xf (show f p.1=f k by rw[z])];exact rv
     ·rw[xg z,xg λq=>z (fi _ _ q)];exact h
 ·rw[xg hm,xg (λz=>hm (any_iff.mp z))];refine⟨by simp,?_⟩;rw[vQ];exact r.snoc rv
theorem yAv(hu:X.A.units+1<cLine):PSet X (pOf K DS.putD):=by
 intro pins s σ H o i v ov iv u Q I ro ri rv hq22;obtain⟨J,S,d1,d2,d3,S',ha,r1,r2,r3,e,k⟩:=hq22;unfold DS.putD at e;split at e
 ·rename_i n;obtain⟨a,ea,rfl⟩:=r1;obtain⟨c,ec,ob,eo,rc⟩:=ha.at ea;split at e
  ·rename_i l es;rw[ec]at es;cases es;obtain⟨xs,rfl,rl⟩:=rc;cases d2 with
   | int i'=>
    obtain rfl:=r2;simp only at e;cases ej:DS.ixN l.length i' with
    | none=>rw[ej]at e;cases e
    | some j=>
     rw[ej]at e;cases e;refine set_list pins s σ H _ _ v ov iv u Q I ro ri rv ⟨a,xs,i',j,rfl,rfl,eo,by rw[<- rl.length];exact ej,?_⟩;exact k _ (ha.write ea ⟨_,rfl,rl.set j r3⟩) (.write ea)
   | _=>cases e
  ·rename_i t ks vs es;rw[ec]at es;cases es;obtain⟨xs,q,rl⟩:=rc;split at e
   ·rename_i hk;cases e;cases ro;have fin:∀H',DPut H a i v H'->AbS K J (S.set n (.dct t (DS.put2 ks vs d2 d3).1 (DS.put2 ks vs d2 d3).2)) H'->Grow J H J H'->wpAny (model X.prog X.w) X.A (setItem (.ref a) iv u) (λ_ s'=>∃H',Inv X pins σ H' s'/\Q H') X.xe s:=λH' g a1 g1=>
     zO1 hu I g ri rv λs' I'=>⟨H',I',k H' a1 g1⟩
    have hk1:=hk.1;unfold DS.zBk at hk1;rw[xE]at hk1;rcases q with⟨rfl,kvs,rfl,rfl,rfl⟩|⟨rfl,kvs,rfl,rfl,rfl⟩
    ·obtain⟨kk,rfl⟩:=zJh hk1.1 λl z=>by subst z;cases hk1.2
     obtain rfl:=zG7 r2;obtain⟨p1,p2⟩:=zRv (λa b=>zG8) rl r3;refine fin _ (.inl ⟨kvs,kk,eo,rfl,by have:=hk.2;rw[xl]at this;exact this,rfl⟩) (ha.write ea ⟨_,.inl ⟨rfl,_,rfl,p1,rfl⟩,p2⟩) (.write ea)
    ·cases d2 with
     | tup l=>
      obtain⟨kk,rfl⟩:=zIc (hk1.1);obtain⟨b,zs,rfl,tb,rz⟩:=r2;obtain rfl:=zG6 rz;obtain⟨p1,p2⟩:=zRv (λa b=>zGt) rl r3;refine fin _ (.inr ⟨kvs,kk,b,eo,rfl,tb.1,by have:=hk.2;rw[xl]at this;exact this,rfl⟩) (ha.write ea ⟨_,.inr ⟨rfl,_,rfl,p1,rfl⟩,p2⟩) (.write ea)
     | _=>cases hk1.2
   ·cases e
  ·cases e
 ·cases e
theorem zVp{o i e:Expr}{mo mi m:DS.EM}{sp2 pos:Pos}{g:Store->D->D->D->Option Store}(hs:PSet X (pOf K g))(ho:DE X K E o mo)(hi:DE X K E i mi)(he:DE X K E e m)(h:nsl i=true:=by rfl)(h2:nco e=true:=by rfl):DS1 X K E (.Assign [.Subscript o i sp2] e pos) (DS.sPut g mo mi m):=
 ⟨(qasgs' he.h (zTs ho.h hi.h hs h) h2).imp λD σ H ⟨env,S,J,ha,he,q⟩=>⟨env,S,J,ha,he,q.then.imp λdv S1 J1 H1 _ a1 g1 q1 v rv=>⟨env,S1,J1,a1,he.grow g1,q1.then.imp λdx S2 J2 H2 _ a2 g2 q2 x rx=>
  ⟨env,S2,J2,a2,he.grow (g1.trans g2),q2.then.imp λdi S3 J3 H3 _ a3 g3 q3 y ry=>by
   cases e1:g S3 dx di dv with
   | none=>rw[e1]at q3;exact False.elim q3
   | some S4=>
    rw[e1]at q3;exact⟨J3,S3,dx,di,dv,S4,a3,Rep.grow g3 _ _ rx,ry,Rep.grow (g2.trans g3) _ _ rv,e1,λH' h1 h2=>q3 J3 H' σ h1 h2 (he.grow (g1.trans (g2.trans (g3.trans h2))))⟩⟩⟩⟩⟩
theorem zCn{ds:List D}(r:RepL K J H [d] xs):∃x,xs=[x]/\Rep K J H d x:=by obtain⟨x,t,rfl,h,rfl⟩:=r;exact⟨x,rfl,h⟩
theorem yA7{kvs:List (List Key × V)}{Q:Value->Shared->Prop}{E:Value->Shared->Prop}(I:Inv X pins σ H s)(e:Rd H a (.dT kvs))(h:∀t s',Inv X pins σ H s'->Q (.int kvs.length t) s'):wpAny (model X.prog X.w) A (call (.builtin "len") [.ref a]) Q E s:=by
 obtain⟨z,hd,xs,rel,dd⟩:=zH9 I.hok e;have hT:=dd.typeIs;obtain⟨o,es,ep,ho,hx,hdat,hes,hall,hn⟩:=dd;have hsz:es.size=kvs.length:=by rw[<- vg,hes,xl,<- uB rel]
 rw[vF]at z;have mt:MeetsIn X.prog X.w (Builtin.«dict.__len__» ⟨[.ref a],[]⟩) (λ_ R s'=>s'=s/\R (.ok (.ret (.int kvs.length s'.toks))) { s' with toks:=s'.toks+1 }):=.of_wp λA R s' hq23=>by
  obtain⟨e,h⟩:=hq23;subst e;show wpAny _ _ (dictSize a >>= _) _ _ s';unfold dictSize;refine xc (xc (ua ho hdat (xh ?_)));show wpAny _ _ (Builtin.Dict.pendingCount a >>= _) _ _ s';refine xc (wpAny_pendingCount_other hd ?_);refine wpAny_ret_mkInt ?_;rw[Nat.add_zero,hsz];exact h
 refine Calls.call_function_entry kind_len plain_len entry_len (args_len1 _) ?_
 unfold Builtin.«len»;refine xc (xh ?_);refine xc (vi hT PySem.F.slot_dict_len (call_meetsIn PySem.F.slot_dict_len hT PySem.F.entry_dict_len (PySem.F.args_dict_len_1 _) mt ⟨rfl,?_⟩));show wpAny _ _ _ _ _ { s with toks:=s.toks+1 };refine xc (xP (xh ?_));refine xc (wpAny_letGo ?_);show wpAny _ _ (if((kvs.length:Nat):Int)<0 then _ else _) _ _ _;rw[xg (by nofun)];show wpAny _ _ (if((kvs.length:Nat):Int) >= 2 ^ 63 then _ else _) _ _ _;rw[xg (by nofun)];exact xc (wpAny_mkInt (xh ⟨_,rfl,h _ _ (I.tok _)⟩))
theorem zLa(hK:X.K=K:=by rfl):zB9 X (.builtin "len") (cOf K DS.lenB):=by
 subst hK;intro pins s σ H xs us Q I r hq24;obtain⟨J,S,ds,d,ha,rl,e,k⟩:=hq24;unfold DS.lenB at e;split at e
 ·rename_i d0;obtain⟨x,rfl,rx⟩:=zCn (ds:=[]) rl;have seq:∀l,DS.items S d0=some l->d=.int l.length->wpAny (model X.prog X.w) X.A (call (.builtin "len") us) (EP X pins σ Q) X.xe s:=λl e1 e2=>by
   subst e2;obtain⟨a,ys,rfl,hq,q⟩:=zE5 ha rx e1;exact zHf pins s σ H _ us Q I r ⟨a,ys,rfl,hq,k _ H ha .refl (by rw[q.length];rfl)⟩
  split at e
  ·rename_i l e1;cases e;exact seq l (zBc (.inl e1)) rfl
  ·rename_i l e1;cases e;exact seq l (zBc (.inr e1)) rfl
  ·rename_i t ks vs e1;cases e;obtain⟨a,o,ys,rfl,he,q,_⟩:=zKb ha rx e1;obtain⟨u,rfl,ru⟩:=vals1 r;cases ru;rcases q with⟨rfl,kvs,rfl,rfl,rfl⟩|⟨rfl,kvs,rfl,rfl,rfl⟩
   ·exact yC6 I he λt s' I'=>⟨.int kvs.length,H,I',⟨t,rfl⟩,k _ H ha .refl (by rw[xl];rfl)⟩
   ·exact yA7 I he λt s' I'=>⟨.int kvs.length,H,I',⟨t,rfl⟩,k _ H ha .refl (by rw[xl];rfl)⟩
  ·rename_i z e1;split at e
   ·rename_i hz;cases e;obtain rfl:=zLu ha rx e1;exact zHe pins s σ H _ us Q I r ⟨z,rfl,hz,k _ H ha .refl rfl⟩
   ·cases e
  ·cases e
 ·cases e
theorem zHd(hK:X.K=K:=by rfl):zB9 X (.type "tuple") (cOf K DS.zAf):=by
 subst hK;intro pins s σ H xs us Q I r hq25;obtain⟨J,S,ds,d,ha,rl,e,k⟩:=hq25;unfold DS.zAf at e;split at e
 ·rename_i d0;obtain⟨x,rfl,rx⟩:=zCn (ds:=[]) rl;split at e
  ·rename_i l;cases e;have r0:=rx;obtain⟨a,ys,rfl,t,q⟩:=rx;exact zCa pins s σ H _ us Q I r ⟨a,ys,rfl,.inr ⟨t.sq,k _ H ha .refl r0⟩⟩
  ·rename_i l;cases e;have r0:=rx;obtain⟨a,ys,rfl,t,q⟩:=rx;exact zCa pins s σ H _ us Q I r ⟨a,ys,rfl,.inr ⟨t.sq,k _ H ha .refl r0⟩⟩
  ·cases e1:DS.litems S d0 with
   | none=>rw[e1]at e;cases e
   | some l=>
    rw[e1]at e;cases e;obtain⟨a,ys,rfl,hq,q⟩:=zCd ha rx e1;exact zCa pins s σ H _ us Q I r ⟨a,ys,rfl,.inl ⟨.inl hq,λp n=>k _ _ (ha.push n) (.push n) ⟨p,ys,rfl,⟨zAe,ha.out n⟩,RepL.grow (.push n) _ _ q⟩⟩⟩
 ·cases e
theorem zKh:∀{l:List D}{xs:List V}{bs:List Bool},RepL K J H l xs->DS.bools l=some bs->xs=bs.map V.bl
 | [],_,_,r,e=>by cases e;exact r
 | d::l,_,bs,⟨x,t,e0,h,rl⟩,e=>by
  subst e0;cases d with
  | bl b=>
   unfold DS.bools at e;cases e1:DS.bools l with
   | none=>rw[e1]at e;cases e
   | some cs=>rw[e1]at e;cases e;rw[zKh rl e1,show x=.bl b from h];rfl
  | _=>cases e
theorem zLc(hc:X.calm=true)(hK:X.K=K:=by rfl):zB9 X (.builtin "any") (cOf K DS.anyB):=by
 subst hK;intro pins s σ H xs us Q I r hq26;obtain⟨J,S,ds,d,ha,rl,e,k⟩:=hq26;unfold DS.anyB at e;split at e
 ·rename_i d0;obtain⟨x,rfl,rx⟩:=zCn (ds:=[]) rl;cases e1:DS.litems S d0 with
  | none=>rw[e1]at e;cases e
  | some l=>
   rw[e1]at e;cases e2:DS.bools l with
   | none=>simp[e2]at e
   | some bs=>
    simp only[Option.bind_some,e2,vO,Option.some.injEq]at e;subst e;obtain⟨a,ys,rfl,hq,q⟩:=zCd ha rx e1;obtain rfl:=zKh q e2;exact zOj hc pins s σ H _ us Q I r ⟨a,bs,rfl,.inl hq,k _ H ha .refl rfl⟩
 ·cases e
theorem zLp(r:RepL K J H [d1,d2] xs):∃x y,xs=[x,y]/\Rep K J H d1 x/\Rep K J H d2 y:=by obtain⟨x,t,rfl,h,y,t',rfl,h',rfl⟩:=r;exact⟨x,y,rfl,h,h'⟩
theorem zL9(hc:X.calm=true):zB9 X (.builtin "max") (cOf K DS.max2B):=by
 intro pins s σ H xs us Q I r hq27;obtain⟨J,S,ds,d,ha,rl,e,k⟩:=hq27;unfold DS.max2B at e;split at e
 ·obtain⟨x,y,rfl,rx,ry⟩:=zLp rl;obtain rfl:=rx;obtain rfl:=ry;cases e;exact zOi hc pins s σ H _ us Q I r ⟨_,_,rfl,k _ H ha .refl (congrArg V.int (by congr))⟩
 ·cases e
theorem zL8(hc:X.calm=true):zB9 X (.builtin "min") (cOf K DS.min2B):=by
 intro pins s σ H xs us Q I r hq28;obtain⟨J,S,ds,d,ha,rl,e,k⟩:=hq28;unfold DS.min2B at e;split at e
 ·obtain⟨x,y,rfl,rx,ry⟩:=zLp rl;obtain rfl:=rx;obtain rfl:=ry;cases e;exact zOh hc pins s σ H _ us Q I r ⟨_,_,rfl,k _ H ha .refl (congrArg V.int (by congr))⟩
 ·cases e
theorem zOk:zB9 X (.builtin "abs") (cOf K DS.absB):=by
 intro pins s σ H xs us Q I r hq29;obtain⟨J,S,ds,d,ha,rl,e,k⟩:=hq29;unfold DS.absB at e;split at e
 ·obtain⟨x,rfl,rx⟩:=zCn (ds:=[]) rl;obtain rfl:=rx;cases e;exact zRb pins s σ H _ us Q I r ⟨_,rfl,k _ H ha .refl (congrArg V.int (by congr))⟩
 ·cases e
theorem zKr:MtR X "list.append" (mOf K DS.zBv):=by
 intro pins s σ H x xs v us Q I rx rs hq30;obtain⟨J,S,d1,ds,d,S',ha,r1,rl,e,k⟩:=hq30;unfold DS.zBv at e;split at e
 ·rename_i n dv;obtain⟨a,ea,rfl⟩:=r1;obtain⟨c,ec,ob,eo,rc⟩:=ha.at ea;obtain⟨y,rfl,ry⟩:=zCn (ds:=[]) rl;split at e
  ·rename_i l es;rw[ec]at es;cases es;obtain⟨ys,rfl,rl⟩:=rc;split at e
   ·rename_i hz;cases e;exact zMz pins s σ H _ _ v us Q I rx rs ⟨a,ys,y,rfl,rfl,eo,by rw[<- rl.length];exact hz,k _ _ (ha.write ea ⟨_,rfl,rl.snoc ry⟩) (.write ea) rfl⟩
   ·cases e
  ·cases e
 ·cases e
theorem zNc{tg:Expr}{pins:List (Addr × Obj)}{s1:Shared}{σ:St}{H1:Hp}{R:It->Hp->Prop}{a:Addr}{xs:List V}(I1:Inv X pins σ H1 s1)(hq:SqL X.K H1 a xs)(q:R (Itl X.K a) H1):wpAny (model X.prog X.w) X.A (pyIter (.ref a)) (PIE X pins σ tg R) X.xe s1:=by
 obtain⟨its,rv,p,hz⟩:=I1.list hq;refine uN p.isList ?_;refine⟨s1.heap.objs.size,[s1.heap.objs.size],_,_,H1,rfl,I1.kept λb o e=>xt _ e,zLq a _,⟨_,xv _ rfl,rfl,rfl⟩,λb hb=>?_,q⟩;have e:b=s1.heap.objs.size:=by simpa using hb
 subst e;exact I1.fpOk (xk _) (I1.hok.fresh (xk _))
theorem zQn{tg:Expr}{pins:List (Addr × Obj)}{s1:Shared}{σ:St}{H1:Hp}{R:It->Hp->Prop}{a:Addr}{xs:List V}(I1:Inv X pins σ H1 s1)(hq:SqT X.K H1 a xs)(q:R (Itt X.K a) H1):wpAny (model X.prog X.w) X.A (pyIter (.ref a)) (PIE X pins σ tg R) X.xe s1:=by
 obtain⟨its,rv,p,hz⟩:=I1.tuple hq;refine wpAny_pyIter_tuple (p) ?_;refine⟨s1.heap.objs.size,[s1.heap.objs.size],_,_,H1,rfl,I1.kept λb o e=>xt _ e,zKn a _,⟨_,xv _ rfl,rfl,rfl⟩,λb hb=>?_,q⟩;have e:b=s1.heap.objs.size:=by simpa using hb
 subst e;exact I1.fpOk (xk _) (I1.hok.fresh (xk _))
theorem zQo{R:It->Hp->Prop}{z:Str}(I1:Inv X pins σ H1 s1)(ha:z.cps.all (·<128)=true)(q:R (Its z) H1):wpAny (model X.prog X.w) X.A (pyIter (.str z t)) (PIE X pins σ tg R) X.xe s1:=by
 refine wpAny_pyIter_ascii ha ?_;refine⟨s1.heap.objs.size,[s1.heap.objs.size],_,Its z,H1,rfl,I1.kept λb o e=>xt _ e,zP6 s1.heap.objs.size z t,⟨xT _,_,xv _ rfl,rfl,rfl⟩,λb hb=>?_,q⟩;have e:b=s1.heap.objs.size:=by simpa using hb
 subst e;exact I1.fpOk (xk _) (I1.hok.fresh (xk _))
theorem stays_list(ha:AbS K J S H)(r:Rep K J H d v)(e:DS.look S d=some (.lst l)):∃a xs,v=.ref a/\SqL K H a xs/\∀J' H' S',Grow J H J' H'->AbS K J' S' H'->DS.gOk S' (DS.gdOf S d)->∃ys,SqL K H' a ys/\RepL K J' H' l ys:=by
 cases d with
 | lst l=>cases e;obtain⟨a,xs,rfl,t,rl⟩:=r;exact⟨a,xs,rfl,t.sq,λJ' H' S' g _ _=>⟨xs,(t.grow g).sq,RepL.grow g _ _ rl⟩⟩
 | klst l=>cases e;obtain⟨a,xs,rfl,t,rl⟩:=r;exact⟨a,xs,rfl,t.sq,λJ' H' S' g _ _=>⟨xs,(t.grow g).sq,RepL.grow g _ _ rl⟩⟩
 | ref n=>
  obtain⟨a,ea,rfl⟩:=r;obtain⟨c,ec,o,eo,rc⟩:=ha.at ea;have e:S[n]?=_:=e;rw[ec]at e;cases e;obtain⟨xs,rfl,rl⟩:=rc;refine⟨a,xs,rfl,.inl (.inl eo),λJ' H' S' g ha' gd=>?_⟩;have e':=gd (n,.lst l) (by simp[DS.gdOf,ec]);obtain⟨o',eo',rc'⟩:=ha'.ob n a _ (g.pre n a ea) e';obtain⟨ys,rfl,rl'⟩:=rc';exact⟨ys,.inl (.inl eo'),rl'⟩
 | _=>cases e
theorem stays_tup(ha:AbS K J S H)(r:Rep K J H d v)(e:DS.look S d=some (.tup l)):∃a xs,v=.ref a/\SqT K H a xs/\∀J' H',Grow J H J' H'->SqT K H' a xs/\RepL K J' H' l xs:=by
 cases d with
 | tup l=>cases e;obtain⟨a,xs,rfl,t,rl⟩:=r;exact⟨a,xs,rfl,t.sq,λJ' H' g=>⟨(t.grow g).sq,RepL.grow g _ _ rl⟩⟩
 | ktup l=>cases e;obtain⟨a,xs,rfl,t,rl⟩:=r;exact⟨a,xs,rfl,t.sq,λJ' H' g=>⟨t.sq,RepL.grow g _ _ rl⟩⟩
 | ref n=>
  obtain⟨a,ea,rfl⟩:=r;obtain⟨c,ec,o,eo,rc⟩:=ha.at ea;have e:S[n]?=_:=e;rw[ec]at e;cases e;exact False.elim rc
 | _=>cases e
theorem zV1{gd:List (Nat × D)}(h:∀J' H' S',Grow J H J' H'->AbS K J' S' H'->DS.gOk S' gd->∃ys,SqL K H' a ys/\RepL K J' H' l ys):ItOk K J H ⟨l,gd⟩ (Itl K a) where
 go:=λi H' J' S' ha g gd hi=>by
  obtain⟨ys,q,rl⟩:=h J' H' S' g ha gd;exact⟨ys,ys[i]'(by rw[<- rl.length];exact hi),q,xF _⟩
 yld:=λi H' J' S' x H'' ha g gd y d ed=>by
  obtain⟨rfl,y⟩:=y;obtain⟨ys,q,rl⟩:=h J' H'' S' g ha gd;obtain⟨x',ex,rx⟩:=rl.get ed;rw[y ys q]at ex;cases ex;exact⟨ha,.refl,rx⟩
 stop:=λi H' J' S' ha g gd hi=>by
  obtain⟨ys,q,rl⟩:=h J' H' S' g ha gd;exact⟨ys,q,by rw[<- rl.length];exact hi⟩
theorem zZ7{gd:List (Nat × D)}(h:∀J' H',Grow J H J' H'->SqT K H' a xs/\RepL K J' H' l xs):ItOk K J H ⟨l,gd⟩ (Itt K a) where
 go:=λi H' J' S' ha g gd hi=>by
  obtain⟨q,rl⟩:=h J' H' g;exact⟨xs,xs[i]'(by rw[<- rl.length];exact hi),q,xF _⟩
 yld:=λi H' J' S' x H'' ha g gd y d ed=>by
  obtain⟨rfl,y⟩:=y;obtain⟨q,rl⟩:=h J' H'' g;obtain⟨x',ex,rx⟩:=rl.get ed;rw[y xs q]at ex;cases ex;exact⟨ha,.refl,rx⟩
 stop:=λi H' J' S' ha g gd hi=>by
  obtain⟨q,rl⟩:=h J' H' g;exact⟨xs,q,by rw[<- rl.length];exact hi⟩
theorem zZ8 :ItOk K J H ⟨DS.chars x,[]⟩ (Its x) where
 go:=λi H' J' S' ha g gd hi=>by
  have:(DS.chars x).length=x.cps.size:=by simp[DS.chars]
  show i<x.cps.size;rw[<- this];exact hi
 yld:=λi H' J' S' y H'' ha g gd yl d ed=>by
  obtain⟨rfl,c,ec,rfl⟩:=yl;have e:(DS.chars x)[i]?=some (D.str ⟨#[c]⟩):=by unfold DS.chars;rw[xV,uU,ec];rfl
  rw[e]at ed;cases ed;exact⟨ha,.refl,rfl⟩
 stop:=λi H' J' S' ha g gd hi=>by
  have:(DS.chars x).length=x.cps.size:=by simp[DS.chars]
  show x.cps.size<=i;rw[<- this];exact hi
theorem zZw(he:DE X K E e m)(hK:X.K=K:=by rfl):DI X K E tg e (DS.iVal m):=by
 subst hK;refine⟨⟨λpins s σ H R I hq1=>?_⟩⟩;obtain⟨env,S,J,ha,hE,q⟩:=hq1;refine thn (he.h.h pins s σ H (λx H1=>∃J1 S1 d w,AbS X.K J1 S1 H1/\Rep X.K J1 H1 d x/\DS.zE9 S1 d=some w/\∀It,ItOk X.K J1 H1 w It->R It H1) I ⟨env,S,J,ha,hE,q.bind.imp λd S1 J1 H1 _ a1 g1 q1 x rx=>?_⟩) λv s1 hq1=>?_
 ·obtain⟨w,ew,k⟩:=q1.lift;exact⟨J1,S1,d,w,a1,rx,ew,k J1 H1 a1 .refl⟩
 ·obtain⟨x,H1,I1,r1,J1,S1,d,w,a1,rx,ew,k⟩:=hq1;unfold DS.zE9 at ew;split at ew
  ·rename_i l el;cases ew;obtain⟨a,xs,rfl,hq,st⟩:=stays_tup a1 rx el;cases r1;exact zQn I1 hq (k _ (zZ7 st))
  ·rename_i l el;cases ew;obtain⟨a,xs,rfl,hq,st⟩:=stays_list a1 rx el;cases r1;exact zNc I1 hq (k _ (zV1 st))
  ·rename_i z ez;split at ew
   ·rename_i hz;cases ew;obtain rfl:=zLu a1 rx ez;obtain⟨t,rfl⟩:=r1;exact zQo I1 hz (k _ zZ8)
   ·cases ew
  ·cases ew
theorem zQq{lo:Int}:ItOk K J H ⟨(List.range n).map fun(k:Nat)=>D.int (lo+k),[]⟩ (Itr lo n) where
 go:=λi H' J' S' ha g gd hi=>by show i<n;simpa using hi
 yld:=λi H' J' S' y H'' ha g gd yl d ed=>by
  obtain⟨rfl,rfl⟩:=yl;rw[xV]at ed;by_cases hi:i<n
  ·rw[List.getElem?_range hi]at ed;cases ed;exact⟨ha,.refl,rfl⟩
  ·rw[vS (by simpa using hi)]at ed;cases ed
 stop:=λi H' J' S' ha g gd hi=>by show n<=i;simpa using hi
theorem fits_of{i:Int}(h:DS.fits62 i=true):-(2 ^ 62)<=i/\i<2 ^ 62:=uR h
theorem zNz(hg:Gl X "range")(hm:X.mg "range"=none)(ha:DA X K E [a] am)(h:nst a=true:=by rfl):DI X K E tg (.Call (.Name "range" p) [a] [] pos) (DS.zAi am):=
 ⟨(qrange1' hg hm ha.h h).imp λσ H R ⟨env,S,J,h,hE,q⟩=>⟨env,S,J,h,hE,q.bind.imp λds S1 J1 H1 e1 a1 g1 q1 xs rx=>by
  obtain⟨w,ew,k⟩:=q1.lift;have hl:=ha.len _ _ _ _ e1
  match ds,hl with
  | [d],_=>
   obtain⟨x,rfl,r⟩:=zCn (ds:=[]) rx;cases d with
   | int j=>
    unfold DS.zFx at ew;simp only at ew;by_cases hf:DS.fits62 j=true
    ·rw[xf hf]at ew;cases ew;obtain rfl:=r;refine⟨j,rfl,(fits_of hf).1,(fits_of hf).2,k J1 H1 a1 .refl _ ?_⟩;have e:DS.zFa 0 j=(List.range j.toNat).map fun(k:Nat)=>D.int (0+k):=by unfold DS.zFa;rw[Int.sub_zero]
     rw[e];exact zQq
    ·rw[xg hf]at ew;cases ew
   | _=>cases ew⟩⟩
end
theorem len0{α:Type}:∀{l:List α},l.length=0->l=[]
 | [],_=>rfl
 | _::_,h=>nomatch h
theorem lenS{α:Type}{n:Nat}{l:List α}(h:l.length=n+1):∃a r,l=a::r/\r.length=n:=by
 cases l with
 | nil=>cases h
 | cons a r=>exact⟨a,r,rfl,Nat.succ.inj h⟩
theorem len1{α:Type}{l:List α}(h:l.length=1):∃a,l=[a]:=by obtain⟨a,r,e,q⟩:=lenS h;exact⟨a,by rw[e,len0 q]⟩
theorem len2{α:Type}{l:List α}(h:l.length=2):∃a b,l=[a,b]:=by obtain⟨a,r,e,q⟩:=lenS h;obtain⟨b,e2⟩:=len1 q;exact⟨a,b,by rw[e,e2]⟩
theorem len3{α:Type}{l:List α}(h:l.length=3):∃a b c,l=[a,b,c]:=by obtain⟨a,r,e,q⟩:=lenS h;obtain⟨b,c,e2⟩:=len2 q;exact⟨a,b,c,by rw[e,e2]⟩
theorem len4{α:Type}{l:List α}(h:l.length=4):∃a b c d,l=[a,b,c,d]:=by obtain⟨a,r,e,q⟩:=lenS h;obtain⟨b,c,d,e2⟩:=len3 q;exact⟨a,b,c,d,by rw[e,e2]⟩
theorem len5{α:Type}{l:List α}(h:l.length=5):∃a b c d e,l=[a,b,c,d,e]:=by obtain⟨a,r,e1,q⟩:=lenS h;obtain⟨b,c,d,e,e2⟩:=len4 q;exact⟨a,b,c,d,e,by rw[e1,e2]⟩
theorem zM4{K:PySem.W.Frag}{F:DS.Fn}{H:Hp}{a:Addr}{ns:List Int}{XX:XK}(h:∃S,F [.klst (ns.map D.int)] []=.ok (.bl true) S)(hS:SqL K H a (ns.map V.int)):spOf K XE0 F [.ref a] H (λv _=>v=.bl true) XX:=by
 obtain⟨S,e⟩:=h;refine⟨[],[],[.klst (ns.map D.int)],⟨rfl,vH,λi a d e _=>by simp at e⟩,⟨.ref a,[],rfl,⟨a,ns.map V.int,rfl,?_,.ints⟩,rfl⟩,?_⟩
 ·rcases hS with h|h
  ·exact .inl ⟨h,by simp⟩
  ·exact .inr h
 ·rw[e];exact λJ' H' _ _ v r=>r
end L2
namespace TM
open PySem PyProof.Rows
noncomputable def dk:Keyed:=(Value.none,Value.none)
def Cm(prog:Program)(w:World)(A:Around)(s:Shared)(κ:SortKind)(rk:Keyed->Nat)(Gd:Keyed->Prop):Prop:=
 ∀x y,Gd x->Gd y->∀(Q:Bool->Shared->Prop) (E':Value->Shared->Prop),Q (decide (rk x<rk y)) s->wpAny (model prog w) A (keyLt' κ x.1 y.1) Q E' s
structure SB (κ:SortKind) (a₀:Array Keyed) (st:SortSt):Prop where
 perm:(arrOf st).Perm a₀
 kind:kindOf st=κ
 failed:failedOf st=none
section
variable {κ:SortKind}{a₀:Array Keyed}{st:SortSt}{rk:Keyed->Nat}
theorem SB.size(h:SB κ a₀ st):(arrOf st).size=a₀.size:=h.perm.size_eq
theorem SB.set(h:SB κ a₀ st){xs:Array Keyed}(hp:xs.Perm (arrOf st)):SB κ a₀ (setArr st xs):=⟨hp.trans h.perm,h.kind,h.failed⟩
noncomputable def ky (rk:Keyed->Nat) (xs:Array Keyed) (i:Nat):Nat:=rk (xs.getD i dk)
def So(rk:Keyed->Nat)(xs:Array Keyed)(a b:Nat):Prop:=∀i j,a<=i->i<=j->j<b->ky rk xs i<=ky rk xs j
def Fa(rk:Keyed->Nat)(xs:Array Keyed)(a b:Nat):Prop:=∀i j,a<=i->i<=j->j<b->ky rk xs j<=ky rk xs i
def Out(a b:Nat)(xs ys:Array Keyed):Prop:=∀k,k<a\/b<=k->ys[k]?=xs[k]?
theorem Out.refl :Out a b xs xs:=λ_ _=>rfl
theorem Out.trans(h:Out a b xs ys)(h':Out a b ys zs):Out a b xs zs:=λk hk=>(h' k hk).trans (h k hk)
theorem Out.mono{a b a' b':Nat}(h:Out a b xs ys)(h1:a'<=a)(h2:b<=b'):Out a' b' xs ys:=λk hk=>h k (by nofun)
theorem zNl{xs ys:Array Keyed}(h:xs[i]?=ys[j]?):xs.getD i dk=ys.getD j dk:=by rw[vI,vI,h]
theorem zKv{i j:Nat}(h:xs[i]?=ys[j]?):ky rk xs i=ky rk ys j:=by unfold ky;rw[zNl h]
theorem Out.ky{a b k:Nat}(h:Out a b xs ys)(hk:k<a\/b<=k):TM.ky rk ys k=TM.ky rk xs k:=zKv (h k hk)
theorem So.out{a b c d:Nat}(h:So rk xs c d)(o:Out a b xs ys)(hd:d<=a\/b<=c):So rk ys c d:=λi j h1 h2 h3=>by
 rw[o.ky (by nofun),o.ky (by nofun)];exact h i j h1 h2 h3
theorem zN8{xs:Array Keyed}{i j:Nat}(hj:j<=xs.size)(k:Nat):ky rk (mirror xs i j ((j-i) / 2)) k=if i<=k/\k<j then ky rk xs (i+j-1-k)else ky rk xs k:=by
 have e:=getElem?_mirror_all (i:=i) hj k;split at e <;> rename_i h1
 ·rw[xf h1];exact zKv e
 ·rw[xg h1];exact zKv e
theorem zCe{xs:Array Keyed}{i j:Nat}(hj:j<=xs.size)(he:∀k,i<=k->k<j->ky rk xs k=ky rk xs (j-1))(k:Nat):ky rk (mirror xs i j ((j-i) / 2)) k=ky rk xs k:=by
 rw[zN8 hj];split
 ·rw[he _ (by nofun) (by nofun),he k (by nofun) (by nofun)]
 ·rfl
theorem zU0{xs:Array Keyed}{i j:Nat}(hj:j<=xs.size):Out i j xs (mirror xs i j ((j-i) / 2)):=λk hk=>by
 rw[getElem?_mirror_all hj,xg (by nofun)]
theorem zS8{xs:Array Keyed}{src d:Nat}(hs:src<xs.size)(hd:d<=src)(k:Nat):ky rk (bubble xs src d) k=if k=src-d then ky rk xs src else if src-d<k/\k<=src then ky rk xs (k-1)else ky rk xs k:=by
 have e:=getElem?_bubble hs d hd k;split at e <;> rename_i h1
 ·rw[xf h1];exact zKv e
 ·rw[xg h1];split at e <;> rename_i h2
  ·rw[xf h2];exact zKv e
  ·rw[xg h2];exact zKv e
theorem zU1{xs:Array Keyed}{src d:Nat}(hs:src<xs.size)(hd:d<=src):Out (src-d) (src+1) xs (bubble xs src d):=λk hk=>by
 rw[getElem?_bubble hs d hd,xg (by nofun),xg (by nofun)]
end
section
variable {prog:Program}{w:World}{A:Around}{E:Value->Shared->Prop}{s:Shared}{κ:SortKind}{a₀:Array Keyed}{rk:Keyed->Nat}{Gd:Keyed->Prop}
theorem zWj{xs:Array Keyed}(hp:xs.Perm a₀)(hg:∀x∈a₀,Gd x){i:Nat}(hi:i<a₀.size):xs[i]?=some (xs.getD i dk)/\Gd (xs.getD i dk):=by
 have hi':i<xs.size:=by rw[hp.size_eq];exact hi
 have e:xs.getD i dk=xs[i]:=by simp[Array.getD,hi']
 refine⟨by rw[e];exact getElem?_pos _ i hi',?_⟩;rw[e];exact hg _ (hp.mem_iff.mp (Array.getElem_mem hi'))
theorem w_lt(C:Cm prog w A s κ rk Gd){st:SortSt}{Q:Option Bool->SortSt->Prop}(hk:kindOf st=κ)(hx:Gd x)(hy:Gd y)(h:Q (some (decide (rk x<rk y))) st):wpS (model prog w) A E s (lt' x y) Q st:=by rw[lt'_eq];refine xi (wpS_get ?_);rw[hk];exact xi (wpS_lift (vZ (C x y hx hy _ _ ⟨rfl,xj h⟩)))
theorem zAg{st:SortSt}{i:Nat}{Q:Keyed->SortSt->Prop}(e:xs[i]?=some x)(h:Q x st):wpS (model prog w) A E s (elem' xs i) Q st:=by rw[elem'_eq,e];exact xj h
theorem w_at(C:Cm prog w A s κ rk Gd)(hg:∀x∈a₀,Gd x){st:SortSt}{i j:Nat}{Q:Option Bool->SortSt->Prop}(B:SB κ a₀ st)(hi:i<a₀.size)(hj:j<a₀.size)
  (h:Q (some (decide (ky rk (arrOf st) i<ky rk (arrOf st) j))) st):wpS (model prog w) A E s (ltAt' i j) Q st:=by
 obtain⟨e1,g1⟩:=zWj B.perm hg hi;obtain⟨e2,g2⟩:=zWj B.perm hg hj;rw[ltAt'_eq];refine xi (wpS_get ?_);exact xi (zAg e1 (xi (zAg e2 (w_lt C B.kind g1 g2 h))))
noncomputable def ascL (lo a nrem:Nat):StateT SortSt Sem AscSt:=forIn [a:nrem] ((none,a):AscSt) λ_ z=>do
 let x <- ltAt' (lo+z.snd) (lo+z.snd-1)
 match x with
 | some smaller=>if smaller=true then pure (ForInStep.done (none,z.snd))else pure (ForInStep.yield (none,z.snd+1))
 | _=>pure (ForInStep.done (some none,z.snd))
noncomputable def zLr (lo n nrem:Nat):StateT SortSt Sem (Option Nat):=do
 reverseSlice' lo (lo+n)
 let z <- ascL lo n nrem
 match z.fst with
 | some r=>pure r
 | none=>pure (some z.snd)
noncomputable def zR9 (lo n nrem:Nat):StateT SortSt Sem DescSt:=forIn [n:nrem] ((none,n,0):DescSt) λ_ z=>do
 let x <- ltAt' (lo+z.snd.fst) (lo+z.snd.fst-1)
 match x with
 | some smaller=>
  if smaller=true then
   if z.snd.snd > 0 then do
    reverseSlice' (lo+z.snd.fst-(z.snd.snd+1)) (lo+z.snd.fst)
    pure (ForInStep.yield (none,z.snd.fst+1,0))
   else pure (ForInStep.yield (none,z.snd.fst+1,0))
  else do
   let x <- ltAt' (lo+z.snd.fst-1) (lo+z.snd.fst)
   match x with
   | some larger=>if larger=true then pure (ForInStep.done (none,z.snd.fst,z.snd.snd))else pure (ForInStep.yield (none,z.snd.fst+1,z.snd.snd+1))
   | _=>pure (ForInStep.done (some none,z.snd.fst,z.snd.snd))
 | _=>pure (ForInStep.done (some none,z.snd.fst,z.snd.snd))
noncomputable def zMn (lo n nrem:Nat):StateT SortSt Sem (Option Nat):=do
 liftM (rule "list.sort.descending-run")
 let z <- zR9 lo (n+1) nrem
 match z.fst with
 | some r=>pure r
 | none=>
  if z.snd.snd > 0 then do
   reverseSlice' (lo+z.snd.fst-(z.snd.snd+1)) (lo+z.snd.fst)
   zLr lo z.snd.fst nrem
  else zLr lo z.snd.fst nrem
theorem count_eq(lo nrem:Nat):countRun' lo nrem=(do
  let z <- ascL lo 1 nrem
  match z.fst with
  | some r=>pure r
  | none=>
   if(z.snd == nrem)=true then pure (some z.snd)
   else if z.snd > 1 then do
    let x <- ltAt' lo (lo+z.snd-1)
    match x with
    | some rose=>if rose=true then pure (some z.snd)else do
      reverseSlice' lo (lo+z.snd)
      zMn lo z.snd nrem
    | _=>pure none
   else zMn lo z.snd nrem):=by
 rw[countRun'_eq];unfold zMn zLr zR9 ascL;refine congrArg (Bind.bind _) ?_
 funext z
 obtain⟨r,n⟩:=z;cases r with
 | some r=>rfl
 | none=>
  dsimp only;split
  ·rfl
  ·split
   ·congr 1;funext x
    cases x with
    | none=>rfl
    | some rose=>
     dsimp only;split
     ·rfl
     ·congr 1;funext _r
      congr 1;funext _u;congr 1;congr 1;funext s2;obtain⟨r2,n2,q2⟩:=s2
      cases r2 with
      | some r2=>rfl
      | none=>
       dsimp only;split
       ·congr 1;funext _v;congr 1;funext _w;congr 1;funext s3;obtain⟨r3,n3⟩:=s3;cases r3 <;> rfl
       ·congr 1;funext _w;congr 1;funext s3;obtain⟨r3,n3⟩:=s3;cases r3 <;> rfl
   ·congr 1;funext _u;congr 1;congr 1;funext s2;obtain⟨r2,n2,q2⟩:=s2
    cases r2 with
    | some r2=>rfl
    | none=>
     dsimp only;split
     ·congr 1;funext _v;congr 1;funext _w;congr 1;funext s3;obtain⟨r3,n3⟩:=s3;cases r3 <;> rfl
     ·congr 1;funext _w;congr 1;funext s3;obtain⟨r3,n3⟩:=s3;cases r3 <;> rfl
structure Ran (κ:SortKind) (a₀:Array Keyed) (lo hi:Nat) (st st':SortSt):Prop where
 b:SB κ a₀ st'
 pend:pendingOf st'=pendingOf st
 out:Out lo hi (arrOf st) (arrOf st')
theorem Ran.refl{lo hi:Nat}{st:SortSt}(B:SB κ a₀ st):Ran κ a₀ lo hi st st:=⟨B,rfl,.refl⟩
theorem Ran.trans{lo hi:Nat}{st st1 st2:SortSt}(a:Ran κ a₀ lo hi st st1)(b:Ran κ a₀ lo hi st1 st2):Ran κ a₀ lo hi st st2:=⟨b.b,b.pend.trans a.pend,a.out.trans b.out⟩
theorem Ran.mono{lo hi lo' hi':Nat}{st st1:SortSt}(a:Ran κ a₀ lo hi st st1)(h1:lo'<=lo)(h2:hi<=hi'):Ran κ a₀ lo' hi' st st1:=⟨a.b,a.pend,a.out.mono h1 h2⟩
theorem w_rev{st:SortSt}{i j:Nat}{Q:Unit->SortSt->Prop}(h:Q () (setArr st (mirror (arrOf st) i j ((j-i) / 2)))):wpS (model prog w) A E s (reverseSlice' i j) Q st:=by rw[reverseSlice'_eq];exact vw h
theorem zFy{st:SortSt}{i j:Nat}(B:SB κ a₀ st)(hj:j<=a₀.size):Ran κ a₀ i j st (setArr st (mirror (arrOf st) i j ((j-i) / 2))):=⟨B.set (mirror_perm _ _ _ _),rfl,zU0 (by rw[B.size];exact hj)⟩
theorem zWs(C:Cm prog w A s κ rk Gd)(hg:∀x∈a₀,Gd x){st:SortSt}{lo a nrem:Nat}{Q:AscSt->SortSt->Prop}(hn:lo+nrem<=a₀.size)(ha:1<=a)(han:a<=nrem)(B:SB κ a₀ st)(hs:So rk (arrOf st) lo (lo+a))
  (h:∀n,a<=n->n<=nrem->So rk (arrOf st) lo (lo+n)->(n=nrem\/ky rk (arrOf st) (lo+n)<ky rk (arrOf st) (lo+n-1))->Q (none,n) st):wpS (model prog w) A E s (ascL lo a nrem) Q st:=by
 unfold ascL;refine xW (I:=λx c st'=>st'=st/\c=(none,x)/\So rk (arrOf st) lo (lo+x)) ?step ?fin ⟨rfl,rfl,hs⟩
 case fin=>
  rintro c st' ⟨rfl,rfl,hs'⟩;rw[show max a nrem=nrem by nofun]at hs' ⊢;exact h nrem han (xk _) hs' (.inl rfl)
 case step=>
  rintro x c st' hax hxn ⟨rfl,rfl,hs'⟩;dsimp only;refine xi (w_at C hg B (by nofun) (by nofun) ?_);by_cases q:ky rk (arrOf st') (lo+x)<ky rk (arrOf st') (lo+x-1)
  ·rw[xx q];exact xj (h x hax (by nofun) hs' (.inr q))
  ·rw[xy q];refine xj ⟨rfl,rfl,λi j h1 hij hj=>?_⟩;by_cases hjx:j<lo+x
   ·exact hs' i j h1 hij hjx
   ·obtain rfl:j=lo+x:=by nofun
    by_cases hi':i=lo+x
    ·rw[hi'];exact xk _
    ·exact xm (hs' i (lo+x-1) h1 (by nofun) (by nofun)) (Nat.not_lt.mp q)
theorem zRf(C:Cm prog w A s κ rk Gd)(hg:∀x∈a₀,Gd x){st:SortSt}{lo n nrem:Nat}{Q:Option Nat->SortSt->Prop}(hn:lo+nrem<=a₀.size)(h1:1<=n)(hnn:n<=nrem)(B:SB κ a₀ st)(hs:Fa rk (arrOf st) lo (lo+n))
  (h:∀m st',Ran κ a₀ lo (lo+nrem) st st'->1<=m->m<=nrem->So rk (arrOf st') lo (lo+m)->Q (some m) st'):wpS (model prog w) A E s (zLr lo n nrem) Q st:=by
 unfold zLr;have R:=zFy (i:=lo) (j:=lo+n) B (by nofun);have hsz:lo+n<=(arrOf st).size:=by rw[B.size];lia
 refine xi (w_rev (xi (zWs C hg hn h1 hnn R.b ?_ λm hm1 hm2 hsm _=>xj (h m _ (R.mono (xk _) (by nofun)) (by nofun) hm2 hsm))));intro i j h0 hij hj;show ky rk (mirror (arrOf st) lo (lo+n) ((lo+n-lo) / 2)) i<=ky rk (mirror (arrOf st) lo (lo+n) ((lo+n-lo) / 2)) j;rw[zN8 hsz,zN8 hsz,xf (by nofun),xf (by nofun)];exact hs _ _ (by nofun) (by nofun) (by nofun)
theorem zWr(C:Cm prog w A s κ rk Gd)(hg:∀x∈a₀,Gd x){st:SortSt}{lo n nrem:Nat}{Q:DescSt->SortSt->Prop}(hn:lo+nrem<=a₀.size)(h1:1<=n)(hnn:n<=nrem)(B:SB κ a₀ st)(hs:Fa rk (arrOf st) lo (lo+n))
  (h:∀m neq st',Ran κ a₀ lo (lo+nrem) st st'->n<=m->m<=nrem->Fa rk (arrOf st') lo (lo+m)->neq+1<=m->(∀i,lo+m-(neq+1)<=i->i<lo+m->ky rk (arrOf st') i=ky rk (arrOf st') (lo+m-1))->Q (none,m,neq) st'):
  wpS (model prog w) A E s (zR9 lo n nrem) Q st:=by
 unfold zR9;refine xW (I:=λx c st'=>∃neq,c=(none,x,neq)/\Ran κ a₀ lo (lo+nrem) st st'/\Fa rk (arrOf st') lo (lo+x)/\neq+1<=x/\(∀i,lo+x-(neq+1)<=i->i<lo+x->ky rk (arrOf st') i=ky rk (arrOf st') (lo+x-1))) ?step ?fin
  ⟨0,rfl,.refl B,hs,by nofun,λi h1 h2=>by congr 1;lia⟩
 case fin=>
  rintro c st' ⟨neq,rfl,R,hs',hq,he⟩;rw[show max n nrem=nrem by nofun]at hs' hq he ⊢;exact h nrem neq st' R hnn (xk _) hs' hq he
 case step=>
  rintro x c st' hax hxn ⟨neq,rfl,R,hs',hq,he⟩;dsimp only;have hsz:lo+x<=(arrOf st').size:=by rw[R.b.size];lia
  refine xi (w_at C hg R.b (by nofun) (by nofun) ?_);by_cases q:ky rk (arrOf st') (lo+x)<ky rk (arrOf st') (lo+x-1)
  ·rw[xx q];simp only[xr];have st1:∀xs:Array Keyed,(∀k,ky rk xs k=ky rk (arrOf st') k)->Fa rk xs lo (lo+(x+1)):=λxs hk i j h0 hij hj=>by
    rw[hk,hk];by_cases hjx:j<lo+x
    ·exact hs' i j h0 hij hjx
    ·obtain rfl:j=lo+x:=by nofun
     by_cases hi':i=lo+x
     ·rw[hi'];exact xk _
     ·exact xm (xN q) (hs' i (lo+x-1) h0 (by nofun) (by nofun))
   by_cases hneq:neq > 0
   ·rw[xf hneq];have R2:=zFy (i:=lo+x-(neq+1)) (j:=lo+x) R.b (by nofun);exact xi (w_rev (xj ⟨0,rfl,R.trans (R2.mono (by nofun) (by nofun)),st1 _ (zCe hsz he),by nofun,λi h1 h2=>by congr 1;lia⟩))
   ·rw[xg hneq];exact xj ⟨0,rfl,R,st1 _ (λ_=>rfl),by nofun,λi h1 h2=>by congr 1;lia⟩
  ·rw[xy q];simp only[xU,xJ];refine xi (w_at C hg R.b (by nofun) (by nofun) ?_);by_cases ql:ky rk (arrOf st') (lo+x-1)<ky rk (arrOf st') (lo+x)
   ·rw[xx ql];exact xj (h x neq st' R hax (by nofun) hs' hq he)
   ·rw[xy ql];have ex:ky rk (arrOf st') (lo+x)=ky rk (arrOf st') (lo+x-1):=by nofun
    refine xj ⟨neq+1,rfl,R,λi j h0 hij hj=>?_,by nofun,λi h1 h2=>?_⟩
    ·by_cases hjx:j<lo+x
     ·exact hs' i j h0 hij hjx
     ·obtain rfl:j=lo+x:=by nofun
      by_cases hi':i=lo+x
      ·rw[hi'];exact xk _
      ·rw[ex];exact hs' i (lo+x-1) h0 (by nofun) (by nofun)
    ·rw[show lo+(x+1)-1=lo+x by nofun];by_cases hix:i=lo+x
     ·rw[hix]
     ·rw[ex];exact he i (by nofun) (by nofun)
theorem zRg(C:Cm prog w A s κ rk Gd)(hg:∀x∈a₀,Gd x){st:SortSt}{lo n nrem:Nat}{Q:Option Nat->SortSt->Prop}(hn:lo+nrem<=a₀.size)(hnn:n+1<=nrem)(B:SB κ a₀ st)(hs:Fa rk (arrOf st) lo (lo+(n+1)))
  (h:∀m st',Ran κ a₀ lo (lo+nrem) st st'->1<=m->m<=nrem->So rk (arrOf st') lo (lo+m)->Q (some m) st'):wpS (model prog w) A E s (zMn lo n nrem) Q st:=by
 unfold zMn;refine xi (wpS_lift (vn ⟨rfl,xi (zWr C hg hn (by nofun) hnn B hs λm neq st' R hm1 hm2 hs' hq he=>?_)⟩));dsimp only;have hsz:lo+m<=(arrOf st').size:=by rw[R.b.size];lia
 by_cases hneq:neq > 0
 ·rw[xf hneq];have R2:=zFy (i:=lo+m-(neq+1)) (j:=lo+m) R.b (by nofun);refine xi (w_rev (zRf C hg hn (by nofun) hm2 R2.b (λi j h0 hij hj=>?_) λm' st'' R3 a1 a2 a3=>h m' st'' ((R.trans (R2.mono (by nofun) (by nofun))).trans R3) a1 a2 a3));show ky rk (mirror (arrOf st') _ _ _) j<=ky rk (mirror (arrOf st') _ _ _) i;rw[zCe hsz he,zCe hsz he];exact hs' i j h0 hij hj
 ·rw[xg hneq];exact zRf C hg hn (by nofun) hm2 R.b hs' λm' st'' R3 a1 a2 a3=>h m' st'' (R.trans R3) a1 a2 a3
theorem w_count(C:Cm prog w A s κ rk Gd)(hg:∀x∈a₀,Gd x){st:SortSt}{lo nrem:Nat}{Q:Option Nat->SortSt->Prop}(hn:lo+nrem<=a₀.size)(h1:1<=nrem)(B:SB κ a₀ st)
  (h:∀m st',Ran κ a₀ lo (lo+nrem) st st'->1<=m->m<=nrem->So rk (arrOf st') lo (lo+m)->Q (some m) st'):wpS (model prog w) A E s (countRun' lo nrem) Q st:=by
 rw[count_eq];refine xi (zWs C hg hn (xk 1) h1 B (λi j h0 hij hj=>Nat.le_of_eq (congrArg _ (show i=j by nofun))) λn hn1 hn2 hsn hor=>?_);dsimp only;by_cases hnn:n=nrem
 ·rw[xf (by simpa using hnn)];exact xj (h n st (.refl B) hn1 hn2 hsn)
 ·rw[xg (by simpa using hnn)];have hlt:=hor.resolve_left hnn;by_cases hgt:n > 1
  ·rw[xf hgt];refine xi (w_at C hg B (by nofun) (by nofun) ?_);by_cases hr:ky rk (arrOf st) lo<ky rk (arrOf st) (lo+n-1)
   ·rw[xx hr];exact xj (h n st (.refl B) hn1 hn2 hsn)
   ·rw[xy hr];have hsz:lo+n<=(arrOf st).size:=by rw[B.size];lia
    have hall:∀k,lo<=k->k<lo+n->ky rk (arrOf st) k=ky rk (arrOf st) (lo+n-1):=λk hk0 hk=>by
     have a1:=hsn lo k (xk _) hk0 hk;have a2:=hsn k (lo+n-1) hk0 (by nofun) (by nofun);lia
    have R2:=zFy (i:=lo) (j:=lo+n) B (by nofun);refine xi (w_rev (zRg C hg hn (by nofun) R2.b (λi j h0 hij hj=>?_) λm' st'' R3 a1 a2 a3=>h m' st'' ((R2.mono (xk _) (by nofun)).trans R3) a1 a2 a3));show ky rk (mirror (arrOf st) _ _ _) j<=ky rk (mirror (arrOf st) _ _ _) i;rw[zCe hsz hall,zCe hsz hall];by_cases hjn:j<lo+n
    ·rw[hall i (by nofun) (by nofun),hall j (by nofun) hjn];exact xk _
    ·obtain rfl:j=lo+n:=by nofun
     by_cases hi':i=lo+n
     ·rw[hi'];exact xk _
     ·rw[hall i (by nofun) (by nofun)];exact xN hlt
  ·rw[xg hgt];obtain rfl:n=1:=by nofun
   refine zRg C hg hn (by nofun) B (λi j h0 hij hj=>?_) h;by_cases hi':i=j
   ·rw[hi'];exact xk _
   ·obtain rfl:i=lo:=by nofun
    obtain rfl:j=i+1:=by nofun
    exact xN hlt
theorem yAq(C:Cm prog w A s κ rk Gd)(hg:∀x∈a₀,Gd x){st:SortSt}{lo n ok:Nat}{Q:Bool->SortSt->Prop}(hn:lo+n<=a₀.size)(hok:ok<=n)(B:SB κ a₀ st)(hs:So rk (arrOf st) lo (lo+ok))
  (h:∀st',Ran κ a₀ lo (lo+n) st st'->So rk (arrOf st') lo (lo+n)->Q true st'):wpS (model prog w) A E s (binarySort' lo n ok) Q st:=by
 rw[binarySort'_eq];refine xi (ve (xW (I:=λk c st'=>c=(none,())/\Ran κ a₀ lo (lo+n) st st'/\So rk (arrOf st') lo (lo+min k n)) (Q:=λc st'=>c=(none,())/\Ran κ a₀ lo (lo+n) st st'/\So rk (arrOf st') lo (lo+n)) ?step ?fin ?init) ?post)
 case post=>
  rintro c st' ⟨rfl,R,hs'⟩;exact xj (h st' R hs')
 case init=>
  refine⟨rfl,.refl B,λi j h0 hij hj=>?_⟩;by_cases h1:ok=0
  ·exact Nat.le_of_eq (congrArg _ (show i=j by nofun))
  ·exact hs i j h0 hij (by nofun)
 case fin=>
  rintro c st' ⟨hc,R,hs'⟩;rw[show min (max (max ok 1) n) n=n by nofun]at hs';exact⟨hc,R,hs'⟩
 case step=>
  rintro k c st' hak hkn ⟨rfl,R,hs'⟩;rw[show min k n=k by nofun]at hs';have hk:lo+k<a₀.size:=by nofun
  refine xi (ve (xW (I:=λx c st''=>st''=st'/\∃l r,c=(none,l,r)/\l<=r/\r<=k/\r-l<=k-x/\(∀i,i<l->ky rk (arrOf st') (lo+i)<=ky rk (arrOf st') (lo+k))/\(∀i,r<=i->i<k->ky rk (arrOf st') (lo+k)<ky rk (arrOf st') (lo+i)))
   (Q:=λc st''=>st''=st'/\∃l r,c=(none,l,r)/\l<=k/\(∀i,i<l->ky rk (arrOf st') (lo+i)<=ky rk (arrOf st') (lo+k))/\(∀i,l<=i->i<k->ky rk (arrOf st') (lo+k)<ky rk (arrOf st') (lo+i))) ?istep ?ifin ?iinit) ?ipost)
  case iinit=>exact⟨rfl,0,k,rfl,by nofun,by nofun,by nofun,λi hi=>by nofun,λi h1 h2=>by nofun⟩
  case ifin=>
   rintro c st'' ⟨rfl,l,r,rfl,hlr,hrk,hm,hlo,hhi⟩;obtain rfl:l=r:=by nofun
   exact⟨rfl,l,l,rfl,hrk,hlo,hhi⟩
  case istep=>
   rintro x c st'' _ hxk ⟨rfl,l,r,rfl,hlr,hrk,hm,hlo,hhi⟩;dsimp only;by_cases hge:l >= r
   ·rw[xf hge];obtain rfl:l=r:=by nofun
    exact xj ⟨rfl,l,l,rfl,hrk,hlo,hhi⟩
   ·rw[xg hge];refine xi (w_at C hg R.b hk (by nofun) ?_);by_cases q:ky rk (arrOf st'') (lo+k)<ky rk (arrOf st'') (lo+(l+r) / 2)
    ·rw[xx q];exact xj ⟨rfl,l,(l+r) / 2,rfl,by nofun,by nofun,by nofun,hlo,λi h1 h2=>xB q (hs' _ _ (by nofun) (by nofun) (by nofun))⟩
    ·rw[xy q];exact xj ⟨rfl,(l+r) / 2+1,r,rfl,by nofun,by nofun,by nofun,λi h1=>xm (hs' (lo+i) (lo+(l+r) / 2) (by nofun) (by nofun) (by nofun)) (Nat.not_lt.mp q),hhi⟩
  case ipost=>
   rintro c st'' ⟨rfl,l,r,rfl,hlk,hlo,hhi⟩;show wpS _ _ _ _ (do moveDown' (lo+k) (lo+l);pure (ForInStep.yield (none,()))) _ _;rw[moveDown'_eq];have hks:lo+k<(arrOf st'').size:=by rw[R.b.size];exact hk
   have ob:=zU1 (d:=lo+k-(lo+l)) hks (by nofun);refine xi (vw (xj ⟨rfl,R.trans ⟨R.b.set (bubble_perm _ _ _),rfl,ob.mono (by nofun) (by nofun)⟩,?_⟩));rw[show min (k+1) n=k+1 by nofun];intro i j h0 hij hj;show ky rk (bubble (arrOf st'') (lo+k) (lo+k-(lo+l))) i<=ky rk (bubble (arrOf st'') (lo+k) (lo+k-(lo+l))) j;rw[zS8 hks (by nofun),zS8 hks (by nofun),show lo+k-(lo+k-(lo+l))=lo+l by nofun];have lo':∀i,lo<=i->i<lo+l->ky rk (arrOf st'') i<=ky rk (arrOf st'') (lo+k):=λi h1 h2=>by
    have:=hlo (i-lo) (by nofun)
    rwa[show lo+(i-lo)=i by nofun]at this
   have hi':∀i,lo+l<=i->i<lo+k->ky rk (arrOf st'') (lo+k)<=ky rk (arrOf st'') i:=λi h1 h2=>by
    have:=hhi (i-lo) (by nofun) (by nofun);rw[show lo+(i-lo)=i by nofun]at this;exact xN this
   repeat' split
   all_goals first
    | (exfalso;lia)
    | exact xk _
    | exact lo' _ (by nofun) (by nofun)
    | exact hi' _ (by nofun) (by nofun)
    | exact hs' _ _ (by nofun) (by nofun) (by nofun)
noncomputable def gallop':Bool->Keyed->Array Keyed->Nat->Nat->Nat->StateT SortSt Sem (Option Nat):=sortPriv% PySem.Builtin.gallop
noncomputable def bey (left:Bool) (key:Keyed) (arr:Array Keyed) (base i:Nat):StateT SortSt Sem (Option Bool):=do
 let x <- elem' arr (base+i)
 if left then lt' x key else return (<- lt' key x).map (!·)
theorem zKz(left:Bool)(key:Keyed)(arr:Array Keyed)(base n hint:Nat):gallop' left key arr base n hint=(do
 let mut lastofs:=0
 let mut ofs:=1
 let mut lo:=0
 let mut hi:=0
 let some right <- bey left key arr base hint|return none
 if right then
  let maxofs:=n-hint
  for _ in [0:n] do
   if ofs >= maxofs then break
   let some more <- bey left key arr base (hint+ofs)|return none
   if !more then break
   lastofs:=ofs
   ofs:=2*ofs+1
  lo:=hint+lastofs+1
  hi:=hint+min ofs maxofs
 else
  let maxofs:=hint+1
  for _ in [0:n] do
   if ofs >= maxofs then break
   let some found <- bey left key arr base (hint-ofs)|return none
   if found then break
   lastofs:=ofs
   ofs:=2*ofs+1
  lo:=hint+1-min ofs maxofs
  hi:=hint-lastofs
 for _ in [0:n] do
  if lo >= hi then break
  let m:=lo+(hi-lo) / 2
  let some more <- bey left key arr base m|return none
  if more then lo:=m+1 else hi:=m
 return some hi):=rfl
noncomputable def Ah (rk:Keyed->Nat) (left:Bool) (key:Keyed) (arr:Array Keyed) (base i:Nat):Bool:=if left then decide (ky rk arr (base+i)<rk key)else !decide (rk key<ky rk arr (base+i))
theorem zP4(C:Cm prog w A s κ rk Gd){st:SortSt}{left:Bool}{arr:Array Keyed}{base i:Nat}{Q:Option Bool->SortSt->Prop}(hk:kindOf st=κ)(e:arr[base+i]?=some (arr.getD (base+i) dk))(g:Gd (arr.getD (base+i) dk))(gk:Gd key)
  (h:Q (some (Ah rk left key arr base i)) st):wpS (model prog w) A E s (bey left key arr base i) Q st:=by
 unfold bey;refine xi (zAg e ?_);cases left with
 | true=>exact w_lt C hk g gk h
 | false=>exact xi (w_lt C hk gk g (xj h))
theorem w_bs(C:Cm prog w A s κ rk Gd){st:SortSt}{left:Bool}{arr:Array Keyed}{base n lo hi:Nat}{Q:Option (Option Nat) × Nat × Nat->SortSt->Prop}(hk:kindOf st=κ)(gk:Gd key)(hg:∀i,i<n->arr[base+i]?=some (arr.getD (base+i) dk)/\Gd (arr.getD (base+i) dk))
  (mono:∀i j,i<=j->j<n->Ah rk left key arr base j=true->Ah rk left key arr base i=true) (hn:hi<=n) (hl:lo<=hi) (h1:∀i,i<lo->Ah rk left key arr base i=true) (h2:∀i,hi<=i->i<n->Ah rk left key arr base i=false)
  (h:∀k,k<=n->(∀i,i<k->Ah rk left key arr base i=true)->(∀i,k<=i->i<n->Ah rk left key arr base i=false)->Q (none,k,k) st):
  wpS (model prog w) A E s (forIn [0:n] ((none,lo,hi):Option (Option Nat) × Nat × Nat) λ_ z=>
    if z.snd.fst >= z.snd.snd then pure (ForInStep.done (none,z.snd.fst,z.snd.snd))
    else do
     let x <- bey left key arr base (z.snd.fst+(z.snd.snd-z.snd.fst) / 2)
     match x with
     | some more=>if more=true then pure (ForInStep.yield (none,z.snd.fst+(z.snd.snd-z.snd.fst) / 2+1,z.snd.snd))else pure (ForInStep.yield (none,z.snd.fst,z.snd.fst+(z.snd.snd-z.snd.fst) / 2))
     | x=>pure (ForInStep.done (some none,z.snd.fst,z.snd.snd))) Q st:=by
 refine(ve (xW (I:=λx c st'=>st'=st/\∃l r,c=(none,l,r)/\l<=r/\r<=n/\r-l<=n-x/\(∀i,i<l->Ah rk left key arr base i=true)/\(∀i,r<=i->i<n->Ah rk left key arr base i=false))
  (Q:=λc st'=>st'=st/\∃k,c=(none,k,k)/\k<=n/\(∀i,i<k->Ah rk left key arr base i=true)/\(∀i,k<=i->i<n->Ah rk left key arr base i=false)) ?step ?fin ⟨rfl,lo,hi,rfl,hl,hn,by nofun,h1,h2⟩) ?post)
 case post=>
  rintro c st' ⟨rfl,k,rfl,a1,a2,a3⟩;exact h k a1 a2 a3
 case fin=>
  rintro c st' ⟨rfl,l,r,rfl,a1,a2,a3,a4,a5⟩;obtain rfl:l=r:=by nofun
  exact⟨rfl,l,rfl,a2,a4,a5⟩
 case step=>
  rintro x c st' _ hx ⟨rfl,l,r,rfl,a1,a2,a3,a4,a5⟩;dsimp only;by_cases hge:l >= r
  ·rw[xf hge];obtain rfl:l=r:=by nofun
   exact xj ⟨rfl,l,rfl,a2,a4,a5⟩
  ·rw[xg hge];obtain⟨e,g⟩:=hg (l+(r-l) / 2) (by nofun);refine xi (zP4 C hk e g gk ?_);cases q:Ah rk left key arr base (l+(r-l) / 2)with
   | true=>exact xj ⟨rfl,l+(r-l) / 2+1,r,rfl,by nofun,a2,by nofun,λi hi=>mono i (l+(r-l) / 2) (by nofun) (by nofun) q,a5⟩
   | false=>
    refine xj ⟨rfl,l,l+(r-l) / 2,rfl,by nofun,by nofun,by nofun,a4,λi b1 b2=>?_⟩;cases q2:Ah rk left key arr base i with
    | false=>rfl
    | true=>rw[mono _ i b1 b2 q2]at q;cases q
theorem zGq(C:Cm prog w A s κ rk Gd){st:SortSt}{left:Bool}{key:Keyed}{arr:Array Keyed}{base n hint:Nat}{Q:Option Nat->SortSt->Prop}(hk:kindOf st=κ)(gk:Gd key)(hg:∀i,i<n->arr[base+i]?=some (arr.getD (base+i) dk)/\Gd (arr.getD (base+i) dk))
  (hs:So rk arr base (base+n)) (hh:hint<n) (h:∀k,k<=n->(∀i,i<k->Ah rk left key arr base i=true)->(∀i,k<=i->i<n->Ah rk left key arr base i=false)->Q (some k) st):
  wpS (model prog w) A E s (gallop' left key arr base n hint) Q st:=by
 have mono:∀i j,i<=j->j<n->Ah rk left key arr base j=true->Ah rk left key arr base i=true:=λi j hij hj q=>by
  have:=hs (base+i) (base+j) (by nofun) (by nofun) (by nofun);unfold Ah at q ⊢;cases left with
  | true=>simp at q ⊢;lia
  | false=>simp at q ⊢;lia
 have mono':∀i j,i<=j->j<n->Ah rk left key arr base i=false->Ah rk left key arr base j=false:=λi j hij hj q=>by
  cases q2:Ah rk left key arr base j with
  | false=>rfl
  | true=>rw[mono i j hij hj q2]at q;cases q
 rw[zKz];obtain⟨e0,g0⟩:=hg hint hh;refine xi (zP4 C hk e0 g0 gk ?_);dsimp only;cases q0:Ah rk left key arr base hint with
 | true=>
  rw[xf rfl];refine xi (ve (xW (I:=λx c st'=>st'=st/\∃l o,c=(none,l,o)/\l<o/\x<o/\hint+l<n/\Ah rk left key arr base (hint+l)=true)
   (Q:=λc st'=>st'=st/\∃l o,c=(none,l,o)/\l<o/\hint+l<n/\Ah rk left key arr base (hint+l)=true/\(n-hint<=o\/Ah rk left key arr base (hint+o)=false)) ?step ?fin ⟨rfl,0,1,rfl,by nofun,by nofun,by nofun,by rw[Nat.add_zero];exact q0⟩) ?post)
  case post=>
   rintro c st' ⟨rfl,l,o,rfl,a1,a2,a3,a4⟩;dsimp only;refine xi (w_bs C hk gk hg mono (by nofun) (by nofun) (λi hi=>mono i (hint+l) (by nofun) a2 a3) (λi b1 b2=>?_) λk c1 c2 c3=>xj (h k c1 c2 c3));rcases a4 with a4|a4
   ·lia
   ·exact mono' (hint+o) i (by nofun) b2 a4
  case fin=>
   rintro c st' ⟨rfl,l,o,rfl,a1,a2,a3,a4⟩;exact⟨rfl,l,o,rfl,a1,a3,a4,.inl (by nofun)⟩
  case step=>
   rintro x c st' _ hx ⟨rfl,l,o,rfl,a1,a2,a3,a4⟩;dsimp only;by_cases hge:o >= n-hint
   ·rw[xf hge];exact xj ⟨rfl,l,o,rfl,a1,a3,a4,.inl hge⟩
   ·rw[xg hge];obtain⟨e,g⟩:=hg (hint+o) (by nofun);refine xi (zP4 C hk e g gk ?_);cases q:Ah rk left key arr base (hint+o)with
    | true=>exact xj ⟨rfl,o,2*o+1,rfl,by nofun,by nofun,by nofun,q⟩
    | false=>exact xj ⟨rfl,l,o,rfl,a1,a3,a4,.inr q⟩
 | false=>
  rw[xg (by decide)];refine xi (ve (xW (I:=λx c st'=>st'=st/\∃l o,c=(none,l,o)/\l<o/\x<o/\l<=hint/\Ah rk left key arr base (hint-l)=false)
   (Q:=λc st'=>st'=st/\∃l o,c=(none,l,o)/\l<o/\l<=hint/\Ah rk left key arr base (hint-l)=false/\(hint+1<=o\/Ah rk left key arr base (hint-o)=true)) ?step ?fin ⟨rfl,0,1,rfl,by nofun,by nofun,by nofun,by rw[Nat.sub_zero];exact q0⟩) ?post)
  case post=>
   rintro c st' ⟨rfl,l,o,rfl,a1,a2,a3,a4⟩;dsimp only;refine xi (w_bs C hk gk hg mono (by nofun) (by nofun) (λi hi=>?_) (λi b1 b2=>mono' (hint-l) i (by nofun) b2 a3) λk c1 c2 c3=>xj (h k c1 c2 c3));rcases a4 with a4|a4
   ·lia
   ·exact mono i (hint-o) (by nofun) (by nofun) a4
  case fin=>
   rintro c st' ⟨rfl,l,o,rfl,a1,a2,a3,a4⟩;exact⟨rfl,l,o,rfl,a1,a3,a4,.inl (by nofun)⟩
  case step=>
   rintro x c st' _ hx ⟨rfl,l,o,rfl,a1,a2,a3,a4⟩;dsimp only;by_cases hge:o >= hint+1
   ·rw[xf hge];exact xj ⟨rfl,l,o,rfl,a1,a3,a4,.inl hge⟩
   ·rw[xg hge];obtain⟨e,g⟩:=hg (hint-o) (by nofun);refine xi (zP4 C hk e g gk ?_);cases q:Ah rk left key arr base (hint-o)with
    | true=>exact xj ⟨rfl,l,o,rfl,a1,a3,a4,.inr q⟩
    | false=>exact xj ⟨rfl,o,2*o+1,rfl,by nofun,by nofun,by nofun,q⟩
end
section
variable {rk:Keyed->Nat}
abbrev Pw(rk:Keyed->Nat)(l:List Keyed):Prop:=l.Pairwise λx y=>rk x<=rk y
def Le(rk:Keyed->Nat)(l m:List Keyed):Prop:=∀x∈l,∀y∈m,rk x<=rk y
theorem Le.app_r(h:Le rk l m)(h':Le rk l n):Le rk l (m++n):=λx hx y hy=>(xX.mp hy).elim (h x hx y) (h' x hx y)
theorem Le.app_l(h:Le rk l n)(h':Le rk m n):Le rk (l++m) n:=λx hx y hy=>(xX.mp hx).elim (λq=>h x q y hy) (λq=>h' x q y hy)
theorem Le.sub(h:Le rk l m)(a:∀x∈l',x∈l)(b:∀x∈m',x∈m):Le rk l' m':=λx hx y hy=>h x (a x hx) y (b y hy)
theorem Pw.app(h:Pw rk l)(h':Pw rk m)(q:Le rk l m):Pw rk (l++m):=List.pairwise_append.mpr ⟨h,h',λx hx y hy=>q x hx y hy⟩
def Go(rk:Keyed->Nat)(a b r:Array Keyed):Prop:=r.toList.Perm (a.toList++b.toList)/\Pw rk r.toList
theorem getD_list(a:Array Keyed)(i:Nat)(h:i<a.size):a.getD i dk=a.toList[i]'(by simpa using h):=by simp[Array.getD,h]
theorem So.pw{a:Array Keyed}(h:So rk a 0 a.size):Pw rk a.toList:=by
 rw[Pw,yt];intro i j hi hj hij;have:=h i j (by nofun) (by nofun) (by simpa using hj);unfold ky at this
 rwa[getD_list a i (by simpa using hi),getD_list a j (by simpa using hj)]at this
noncomputable def ch (a:Array Keyed) (i k:Nat):List Keyed:=(a.toList.drop i).take k
theorem zDr(a:Array Keyed)(i k:Nat):(a.extract i (i+k)).toList=ch a i k:=by rw[yu,List.extract_eq_take_drop,Nat.add_sub_cancel_left];rfl
theorem zGd(a:Array Keyed)(i:Nat):(a.extract i a.size).toList=a.toList.drop i:=by rw[yu,List.extract_eq_take_drop];exact u7 (by simp)
theorem zEc(a:Array Keyed)(i k:Nat):a.toList.take (i+k)=a.toList.take i++ch a i k:=by rw[List.take_add];rfl
theorem zC8(a:Array Keyed)(i k:Nat):a.toList.drop i=ch a i k++a.toList.drop (i+k):=by rw[ch,<- List.drop_drop,vA]
theorem zSi{a:Array Keyed}{i:Nat}(h:i<a.size):ch a i 1=[a.getD i dk]:=by rw[ch,getD_list a i h,List.drop_eq_getElem_cons (by simpa using h)];rfl
theorem zBg{a:Array Keyed}{i k:Nat}(hx:x∈ch a i k):∃j,i<=j/\j<i+k/\j<a.size/\x=a.getD j dk:=by obtain⟨n,hn,rfl⟩:=List.getElem_of_mem hx;have hn':=hn;rw[ch,vh,uZ]at hn';simp only[vg]at hn';refine⟨i+n,by nofun,by nofun,by nofun,?_⟩;rw[getD_list a _ (by nofun)];simp[ch]
theorem zDq{a:Array Keyed}{i:Nat}(hx:x∈a.toList.drop i):∃j,i<=j/\j<a.size/\x=a.getD j dk:=by obtain⟨n,hn,rfl⟩:=List.getElem_of_mem hx;rw[uZ]at hn;simp only[vg]at hn;refine⟨i+n,by nofun,by nofun,?_⟩;rw[getD_list a _ (by nofun)];simp
theorem zDp{a:Array Keyed}{i:Nat}(hx:x∈a.toList.take i):∃j,j<i/\j<a.size/\x=a.getD j dk:=by obtain⟨n,hn,rfl⟩:=List.getElem_of_mem hx;rw[vh]at hn;simp only[vg]at hn;refine⟨n,by nofun,by nofun,?_⟩;rw[getD_list a _ (by nofun)];simp
theorem zCz{a:Array Keyed}{l:List Keyed}(h:Pw rk a.toList)(q:l.Sublist a.toList):Pw rk l:=h.sublist q
theorem zPn{a:Array Keyed}{i k:Nat}(h:Pw rk a.toList):Pw rk (ch a i k):=zCz h ((uh _ _).trans (uQ _ _))
structure MI (rk:Keyed->Nat) (a b out:Array Keyed) (ia ib:Nat):Prop where
 perm:out.toList.Perm (a.toList.take ia++b.toList.take ib)
 so:Pw rk out.toList
 la:Le rk out.toList (a.toList.drop ia)
 lb:Le rk out.toList (b.toList.drop ib)
variable {a b out:Array Keyed}{ia ib k:Nat}
theorem MI.xa(m:MI rk a b out ia ib)(sa:So rk a 0 a.size)(h:∀i j,ia<=i->i<ia+k->i<a.size->ib<=j->j<b.size->ky rk a i<=ky rk b j):MI rk a b (out++a.extract ia (ia+k)) (ia+k) ib:=by
 have e:(out++a.extract ia (ia+k)).toList=out.toList++ch a ia k:=by rw[vj,zDr]
 have l1:=m.la;rw[zC8 a ia k]at l1;refine⟨?_,?_,?_,?_⟩ <;> rw[e]
 ·rw[zEc];refine(m.perm.append_right _).trans ?_;rw[xw,xw];exact ye _ uv
 ·exact m.so.app (zPn sa.pw) (l1.sub (λ_ h=>h) λ_ h=>vD _ h)
 ·refine Le.app_l (l1.sub (λ_ h=>h) λ_ h=>xR _ h) λx hx y hy=>?_
  obtain⟨i,i1,i2,i3,rfl⟩:=zBg hx;obtain⟨j,j1,j2,rfl⟩:=zDq hy;exact sa i j (by nofun) (by nofun) (by nofun)
 ·refine Le.app_l m.lb λx hx y hy=>?_
  obtain⟨i,i1,i2,i3,rfl⟩:=zBg hx;obtain⟨j,j1,j2,rfl⟩:=zDq hy;exact h i j i1 i2 i3 j1 j2
theorem MI.xb(m:MI rk a b out ia ib)(sb:So rk b 0 b.size)(h:∀i j,ib<=i->i<ib+k->i<b.size->ia<=j->j<a.size->ky rk b i<=ky rk a j):MI rk a b (out++b.extract ib (ib+k)) ia (ib+k):=by
 have e:(out++b.extract ib (ib+k)).toList=out.toList++ch b ib k:=by rw[vj,zDr]
 have l1:=m.lb;rw[zC8 b ib k]at l1;refine⟨?_,?_,?_,?_⟩ <;> rw[e]
 ·rw[zEc,<- xw];exact m.perm.append_right _
 ·exact m.so.app (zPn sb.pw) (l1.sub (λ_ h=>h) λ_ h=>vD _ h)
 ·refine Le.app_l m.la λx hx y hy=>?_
  obtain⟨i,i1,i2,i3,rfl⟩:=zBg hx;obtain⟨j,j1,j2,rfl⟩:=zDq hy;exact h i j i1 i2 i3 j1 j2
 ·refine Le.app_l (l1.sub (λ_ h=>h) λ_ h=>xR _ h) λx hx y hy=>?_
  obtain⟨i,i1,i2,i3,rfl⟩:=zBg hx;obtain⟨j,j1,j2,rfl⟩:=zDq hy;exact sb i j (by nofun) (by nofun) (by nofun)
theorem zMb{a out:Array Keyed}{i:Nat}(h:i<a.size):out.push (a.getD i dk)=out++a.extract i (i+1):=by apply yf.mp;rw[vj,zDr,zSi h,Array.toList_push]
theorem MI.pa(m:MI rk a b out ia ib)(sa:So rk a 0 a.size)(ha:ia<a.size)(h:∀j,ib<=j->j<b.size->ky rk a ia<=ky rk b j):MI rk a b (out.push (a.getD ia dk)) (ia+1) ib:=by rw[zMb ha];exact m.xa sa λi j h1 h2 h3 h4 h5=>by rw[show i=ia by nofun];exact h j h4 h5
theorem MI.pb(m:MI rk a b out ia ib)(sb:So rk b 0 b.size)(hb:ib<b.size)(h:∀j,ia<=j->j<a.size->ky rk b ib<=ky rk a j):MI rk a b (out.push (b.getD ib dk)) ia (ib+1):=by rw[zMb hb];exact m.xb sb λi j h1 h2 h3 h4 h5=>by rw[show i=ib by nofun];exact h j h4 h5
theorem MI.dn(m:MI rk a b out ia ib)(sa:So rk a 0 a.size)(sb:So rk b 0 b.size)(h:a.size<=ia\/b.size<=ib):Go rk a b (out++a.extract ia a.size++b.extract ib b.size):=by
 unfold Go;rw[vj,vj,zGd,zGd];constructor
 ·refine(((m.perm.append_right _).append_right _)).trans ?_;rw[xw,xw,<- xw (b.toList.take ib)];refine(ye _ (uv.append_right _)).trans ?_;rw[xw,vA,<- xw,vA]
 ·refine(m.so.app (zCz sa.pw (uQ _ _)) m.la).app (zCz sb.pw (uQ _ _)) (Le.app_l m.lb λx hx y hy=>?_);obtain⟨i,i1,i2,rfl⟩:=zDq hx;obtain⟨j,j1,j2,rfl⟩:=zDq hy;lia
theorem MI.last(m:MI rk a b out ia ib)(sa:So rk a 0 a.size)(sb:So rk b 0 b.size)(h:a.size=ia+1)(hl:∀j,j<b.size->ky rk b j<=ky rk a (a.size-1)):Go rk a b (out++b.extract ib b.size++a.extract ia a.size):=by
 unfold Go;rw[vj,vj,zGd,zGd];constructor
 ·refine(((m.perm.append_right _).append_right _)).trans ?_;rw[xw,xw,<- xw (b.toList.take ib),vA];refine(ye _ uv).trans ?_;rw[<- xw,vA]
 ·refine(m.so.app (zCz sb.pw (uQ _ _)) m.lb).app (zCz sa.pw (uQ _ _)) (Le.app_l m.la λx hx y hy=>?_);obtain⟨i,i1,i2,rfl⟩:=zDq hx;obtain⟨j,j1,j2,rfl⟩:=zDq hy;have:=hl i i2
  rwa[show a.size-1=j by nofun]at this
theorem MI.start(sb:So rk b 0 b.size)(sa:So rk a 0 a.size)(hb:0<b.size)(h:ky rk b 0<=ky rk a 0):MI rk a b #[b.getD 0 dk] 0 1:=by have m0:MI rk a b #[] 0 0:=⟨by simp,by simp[Pw],λx hx=>by simp at hx,λx hx=>by simp at hx⟩;exact m0.pb sb hb λj _ hj=>xm h (sa 0 j (by nofun) (by nofun) hj)
structure MJ (rk:Keyed->Nat) (a b out:Array Keyed) (na nb:Nat):Prop where
 perm:out.reverse.toList.Perm (a.toList.drop na++b.toList.drop nb)
 so:Pw rk out.reverse.toList
 la:Le rk (a.toList.take na) out.reverse.toList
 lb:Le rk (b.toList.take nb) out.reverse.toList
variable {na nb:Nat}
theorem MJ.xa(m:MJ rk a b out (na+k) nb)(sa:So rk a 0 a.size)(hk:na+k<=a.size)(h:∀i j,na<=i->i<na+k->i<a.size->j<nb->j<b.size->ky rk b j<=ky rk a i):MJ rk a b (out++(a.extract na (na+k)).reverse) na nb:=by
 have e:(out++(a.extract na (na+k)).reverse).reverse.toList=ch a na k++out.reverse.toList:=by rw[Array.reverse_append,vj,Array.reverse_reverse,zDr]
 have l1:=m.la;rw[zEc a na k]at l1;refine⟨?_,?_,?_,?_⟩ <;> rw[e]
 ·rw[zC8 a na k,xw];exact m.perm.append_left _
 ·exact(zPn sa.pw).app m.so (l1.sub (λ_ h=>xR _ h) λ_ h=>h)
 ·refine Le.app_r (λx hx y hy=>?_) (l1.sub (λ_ h=>vD _ h) λ_ h=>h);obtain⟨i,i1,i2,i3,rfl⟩:=zBg hy;obtain⟨j,j1,j2,rfl⟩:=zDp hx;exact sa j i (by nofun) (by nofun) (by nofun)
 ·refine Le.app_r (λx hx y hy=>?_) m.lb;obtain⟨i,i1,i2,i3,rfl⟩:=zBg hy;obtain⟨j,j1,j2,rfl⟩:=zDp hx;exact h i j i1 i2 i3 j1 j2
theorem MJ.xb(m:MJ rk a b out na (nb+k))(sb:So rk b 0 b.size)(hk:nb+k<=b.size)(h:∀i j,nb<=i->i<nb+k->i<b.size->j<na->j<a.size->ky rk a j<=ky rk b i):MJ rk a b (out++(b.extract nb (nb+k)).reverse) na nb:=by
 have e:(out++(b.extract nb (nb+k)).reverse).reverse.toList=ch b nb k++out.reverse.toList:=by rw[Array.reverse_append,vj,Array.reverse_reverse,zDr]
 have l1:=m.lb;rw[zEc b nb k]at l1;refine⟨?_,?_,?_,?_⟩ <;> rw[e]
 ·rw[zC8 b nb k];refine(m.perm.append_left _).trans ?_;rw[<- xw,<- xw];exact uv.append_right _
 ·exact(zPn sb.pw).app m.so (l1.sub (λ_ h=>xR _ h) λ_ h=>h)
 ·refine Le.app_r (λx hx y hy=>?_) m.la;obtain⟨i,i1,i2,i3,rfl⟩:=zBg hy;obtain⟨j,j1,j2,rfl⟩:=zDp hx;exact h i j i1 i2 i3 j1 j2
 ·refine Le.app_r (λx hx y hy=>?_) (l1.sub (λ_ h=>vD _ h) λ_ h=>h);obtain⟨i,i1,i2,i3,rfl⟩:=zBg hy;obtain⟨j,j1,j2,rfl⟩:=zDp hx;exact sb j i (by nofun) (by nofun) (by nofun)
theorem zMa{a out:Array Keyed}{i:Nat}(h:i<a.size):out.push (a.getD i dk)=out++(a.extract i (i+1)).reverse:=by apply yf.mp;rw[vj,Array.toList_reverse,zDr,zSi h,Array.toList_push];rfl
theorem MJ.pa(m:MJ rk a b out (na+1) nb)(sa:So rk a 0 a.size)(ha:na<a.size)(h:∀j,j<nb->j<b.size->ky rk b j<=ky rk a na):MJ rk a b (out.push (a.getD na dk)) na nb:=by rw[zMa ha];exact m.xa sa (by nofun) λi j h1 h2 h3 h4 h5=>by rw[show i=na by nofun];exact h j h4 h5
theorem MJ.pb(m:MJ rk a b out na (nb+1))(sb:So rk b 0 b.size)(hb:nb<b.size)(h:∀j,j<na->j<a.size->ky rk a j<=ky rk b nb):MJ rk a b (out.push (b.getD nb dk)) na nb:=by rw[zMa hb];exact m.xb sb (by nofun) λi j h1 h2 h3 h4 h5=>by rw[show i=nb by nofun];exact h j h4 h5
theorem zE8(a:Array Keyed)(i:Nat):(a.extract 0 i).toList=a.toList.take i:=by rw[yu,List.extract_eq_take_drop];rfl
theorem MJ.dn(m:MJ rk a b out na nb)(sa:So rk a 0 a.size)(sb:So rk b 0 b.size)(h:na=0\/nb=0):Go rk a b (a.extract 0 na++b.extract 0 nb++out.reverse):=by
 unfold Go;rw[vj,vj,zE8,zE8];constructor
 ·refine(m.perm.append_left _).trans ?_;rw[xw,<- xw (b.toList.take nb)];refine(ye _ (uv.append_right _)).trans ?_;rw[xw,vA,<- xw,vA]
 ·refine Pw.app (Pw.app (zCz sa.pw (uh _ _)) (zCz sb.pw (uh _ _)) λx hx y hy=>?_) m.so (Le.app_l m.la m.lb);obtain⟨i,i1,i2,rfl⟩:=zDp hx;obtain⟨j,j1,j2,rfl⟩:=zDp hy;lia
theorem MJ.fst(m:MJ rk a b out na nb)(sa:So rk a 0 a.size)(sb:So rk b 0 b.size)(h:nb=1)(hl:∀j,j<a.size->ky rk b 0<=ky rk a j):Go rk a b (b.extract 0 nb++a.extract 0 na++out.reverse):=by
 unfold Go;rw[vj,vj,zE8,zE8];constructor
 ·refine(m.perm.append_left _).trans ?_;rw[xw,<- xw (a.toList.take na),vA];refine(ye _ uv).trans ?_;rw[<- xw,vA];exact uv
 ·refine Pw.app (Pw.app (zCz sb.pw (uh _ _)) (zCz sa.pw (uh _ _)) λx hx y hy=>?_) m.so (Le.app_l m.lb m.la);obtain⟨i,i1,i2,rfl⟩:=zDp hx;obtain⟨j,j1,j2,rfl⟩:=zDp hy;rw[show i=0 by nofun];exact hl j j2
theorem MJ.start(sb:So rk b 0 b.size)(sa:So rk a 0 a.size)(ha:0<a.size)(h:∀j,j<b.size->ky rk b j<=ky rk a (a.size-1)):MJ rk a b #[a.getD (a.size-1) dk] (a.size-1) b.size:=by have m0:MJ rk a b #[] (a.size-1+1) b.size:=⟨by rw[show a.size-1+1=a.size by nofun];simp,by simp[Pw],λx hx y hy=>by simp at hy,λx hx y hy=>by simp at hy⟩;exact m0.pa sa (by nofun) λj _ hj=>h j hj
end
noncomputable def zB7:Nat->StateT SortSt Sem Unit:=sortPriv% PySem.Builtin.setMinGallop
noncomputable def zG0:Array Keyed->Array Keyed->StateT SortSt Sem (Array Keyed):=sortPriv% PySem.Builtin.mergeLo
noncomputable def zG1:Array Keyed->Array Keyed->StateT SortSt Sem (Array Keyed):=sortPriv% PySem.Builtin.mergeHi
noncomputable abbrev zRq (st:SortSt) (g:Nat):SortSt:=SortSt.mk' (kindOf st) (arrOf st) (pendingOf st) g (failedOf st)
theorem zCy(g:Nat):zB7 g=modify λst=>zRq st g:=rfl
structure Sm (st st':SortSt):Prop where
 k:kindOf st'=kindOf st
 a:arrOf st'=arrOf st
 p:pendingOf st'=pendingOf st
 f:failedOf st'=failedOf st
theorem Sm.refl{st:SortSt}:Sm st st:=⟨rfl,rfl,rfl,rfl⟩
theorem Sm.gal{st st':SortSt}(h:Sm st st')(g:Nat):Sm st (zRq st' g):=⟨h.k,h.a,h.p,h.f⟩
noncomputable abbrev fl (o x y:Array Keyed) (i j:Nat):Array Keyed:=o++x.extract i x.size++y.extract j y.size
theorem zYn(x y:Array Keyed):zG0 x y=(do
 rule "list.sort.merge-lo"
 let mut o:Array Keyed:=#[<- elem' y 0]
 let mut i:=0
 let mut j:=1
 if j == y.size then return fl o x y i j
 if i+1 == x.size then return fl o y x j i
 let mut g:=gallopOf (<- get)
 for _ in [0:x.size+y.size] do
  let mut c:=0
  let mut d:=0
  for _ in [0:x.size+y.size] do
   let some less <- lt' (<- elem' y j) (<- elem' x i)|return fl o x y i j
   if less then
    o:=o.push (<- elem' y j);j:=j+1;d:=d+1;c:=0
    if j == y.size then return fl o x y i j
    if d >= g then break
   else
    o:=o.push (<- elem' x i);i:=i+1;c:=c+1;d:=0
    if i+1 == x.size then return fl o y x j i
    if c >= g then break
  rule "list.sort.gallop"
  g:=g+1
  for _ in [0:x.size+y.size] do
   if g > 1 then g:=g-1
   zB7 g
   let some k <- gallop' false (<- elem' y j) x i (x.size-i) 0|return fl o x y i j
   c:=k
   if k > 0 then
    o:=o++x.extract i (i+k);i:=i+k
    if i+1 == x.size then return fl o y x j i
    if i == x.size then return fl o x y i j
   o:=o.push (<- elem' y j);j:=j+1
   if j == y.size then return fl o x y i j
   let some k <- gallop' true (<- elem' x i) y j (y.size-j) 0|return fl o x y i j
   d:=k
   if k > 0 then
    o:=o++y.extract j (j+k);j:=j+k
    if j == y.size then return fl o x y i j
   o:=o.push (<- elem' x i);i:=i+1
   if i+1 == x.size then return fl o y x j i
   if c<7 && d<7 then break
  g:=g+1
  zB7 g
 unsupported "internal:list.sort.merge-bound"):=rfl
section
variable {α β γ δ ε ζ τ σ:Type}
theorem X4{c:Option τ × α × β × γ × δ}{W:α->β->γ->δ->Prop}{G:Option τ × α × β × γ × δ->Prop}(h:∃o i j g,c=(none,o,i,j,g)/\W o i j g)(k:∀o i j g,W o i j g->G (none,o,i,j,g)):G c:=by obtain⟨o,i,j,g,rfl,w⟩:=h;exact k o i j g w
theorem X5{c:Option τ × α × β × γ × δ × ε}{W:α->β->γ->δ->ε->Prop}{G:Option τ × α × β × γ × δ × ε->σ->Prop}(h:t=u/\∃o i j d e,c=(none,o,i,j,d,e)/\W o i j d e)(k:∀o i j d e,W o i j d e->G (none,o,i,j,d,e) u):G c t:=by obtain⟨rfl,o,i,j,d,e,rfl,w⟩:=h;exact k o i j d e w
theorem Y5{c:Option τ × α × β × γ × δ × ε}{V:τ->Prop}{W:α->β->γ->δ->ε->Prop}{G:Option τ × α × β × γ × δ × ε->σ->Prop}(h:t=u/\((∃r z,c=(some r,z)/\V r)\/∃o i j d e,c=(none,o,i,j,d,e)/\W o i j d e))(k1:∀r z,V r->G (some r,z) u)(k:∀o i j d e,W o i j d e->G (none,o,i,j,d,e) u):G c t:=by
 obtain⟨rfl,⟨r,z,rfl,v⟩|⟨o,i,j,d,e,rfl,w⟩⟩:=h
 ·exact k1 r z v
 ·exact k o i j d e w
theorem X6{c:Option τ × α × β × γ × δ × ε × ζ}{W:α->β->γ->δ->ε->ζ->Prop}{G:Option τ × α × β × γ × δ × ε × ζ->Prop}(h:P/\∃o i j g d e,c=(none,o,i,j,g,d,e)/\W o i j g d e)(k:P->∀o i j g d e,W o i j g d e->G (none,o,i,j,g,d,e)):G c:=by obtain⟨p,o,i,j,g,d,e,rfl,w⟩:=h;exact k p o i j g d e w
end
section
variable {prog:Program}{w:World}{A:Around}{E:Value->Shared->Prop}{s:Shared}{κ:SortKind}{rk:Keyed->Nat}{Gd:Keyed->Prop}
def Wy(rk:Keyed->Nat)(a b out:Array Keyed)(i j n:Nat):Prop:=MI rk a b out i j/\i+1<a.size/\j<b.size/\n<=i+j
theorem w_if{γ:Type}{c:Prop}[Decidable c]{st:SortSt}{m n:StateT SortSt Sem γ}{Q:γ->SortSt->Prop}(h1:c->wpS (model prog w) A E s m Q st)(h2:¬ c->wpS (model prog w) A E s n Q st):wpS (model prog w) A E s (if c then m else n) Q st:=by
 by_cases h:c
 ·rw[xf h];exact h1 h
 ·rw[xg h];exact h2 h
theorem zRh{γ:Type}{c:Prop}[Decidable c]{st:SortSt}{f:Nat->StateT SortSt Sem γ}{x g:Nat}{Q:γ->SortSt->Prop}(h:∀g',wpS (model prog w) A E s (f g') Q st):wpS (model prog w) A E s (if c then f x else f g) Q st:=w_if (λ_=>h x) λ_=>h g
theorem zAc{m n:Nat}(h:¬ (m == n)=true):m≠n:=λe=>h (by simp[e])
theorem ah_t{left:Bool}{base i:Nat}(h:Ah rk left key arr base i=true):if left then ky rk arr (base+i)<rk key else ky rk arr (base+i)<=rk key:=by unfold Ah at h;cases left <;> simp at h ⊢ <;> omega
theorem ah_f{left:Bool}{base i:Nat}(h:Ah rk left key arr base i=false):if left then rk key<=ky rk arr (base+i)else rk key<ky rk arr (base+i):=by unfold Ah at h;cases left <;> simp at h ⊢ <;> omega
theorem So.sub{i j k l:Nat}(h:So rk a i j)(h1:i<=k)(h2:l<=j):So rk a k l:=λx y a b c=>h x y (by omega) b (by omega)
theorem yAn(C:Cm prog w A s κ rk Gd){st:SortSt}{a b:Array Keyed}{Q:Array Keyed->SortSt->Prop}(hk:kindOf st=κ)(ga:∀i,i<a.size->a[i]?=some (a.getD i dk)/\Gd (a.getD i dk))(gb:∀i,i<b.size->b[i]?=some (b.getD i dk)/\Gd (b.getD i dk))
  (sa:So rk a 0 a.size) (sb:So rk b 0 b.size) (ha:0<a.size) (hb:0<b.size) (h1:ky rk b 0<=ky rk a 0) (h2:∀j,j<b.size->ky rk b j<=ky rk a (a.size-1))
  (h:∀r st',Sm st st'->Go rk a b r->Q r st'):wpS (model prog w) A E s (zG0 a b) Q st:=by
 rw[zYn];refine xi (wpS_lift (vn ⟨rfl,?_⟩));refine xi (zAg (gb 0 hb).1 ?_);dsimp only;have m0:=MI.start sb sa hb h1;refine w_if (λq1=>?_) λq1=>?_
 ·have q1':=eq_of_beq q1;exact xj (h _ _ .refl (m0.dn sa sb (.inr (by omega))))
 by_cases q2:(0+1 == a.size)=true
 ·rw[xf q2];have q2':=eq_of_beq q2;exact xj (h _ _ .refl (m0.last sa sb (by omega) h2))
 rw[xg q2];have q1':1≠b.size:=λe=>q1 (by simp[<- e])
 have q2':0+1≠a.size:=λe=>q2 (by simp[<- e])
 refine xi (wpS_get ?_);refine xi (ve (xW (I:=λx c st'=>∃o i j g,c=(none,o,i,j,g)/\Sm st st'/\Wy rk a b o i j (x+1))
  (Q:=λc st'=>Sm st st'/\∃r z,c=(some r,z)/\Go rk a b r) ?step ?fin ⟨_,_,_,_,rfl,.refl,m0,by omega,by omega,by omega⟩) ?post)
 case post=>
  rintro c st' ⟨S,r,z,rfl,G⟩;exact xj (h _ _ S G)
 case fin=>
  rintro c st' ⟨o,i,j,g,rfl,S,m,b1,b2,b3⟩;exfalso;omega
 case step=>
  intro x c st' _ hx hh;apply X4 hh;intro o i j g WW;have S:=WW.1;have W:=WW.2;dsimp only;refine xi (ve (xW (I:=λy c st2=>st2=st'/\∃o i j d e,c=(none,o,i,j,d,e)/\Wy rk a b o i j (x+1+y))
   (Q:=λc st2=>st2=st'/\((∃r z,c=(some r,z)/\Go rk a b r)\/∃o i j d e,c=(none,o,i,j,d,e)/\Wy rk a b o i j (x+2))) ?s1 ?f1 ⟨rfl,_,_,_,_,_,rfl,W⟩) ?p1)
  case f1=>
   rintro c st2 ⟨rfl,o,i,j,d,e,rfl,m,b1,b2,b3⟩;exfalso;omega
  case s1=>
   intro y c st2 _ hy hh;apply X5 hh;intro o i j d e WW;have m:=WW.1;have b1:=WW.2.1;have b2:=WW.2.2.1;have b3:=WW.2.2.2;dsimp only;refine xi (zAg (gb j b2).1 (xi (zAg (ga i (by omega)).1 (xi (w_lt C (S.k.trans hk) (gb j b2).2 (ga i (by omega)).2 ?_)))));by_cases q:rk (b.getD j dk)<rk (a.getD i dk)
   ·rw[xx q];dsimp only;rw[xf rfl];refine xi (zAg (gb j b2).1 ?_);have m':=m.pb sb b2 λj' hj1 hj2=>xm (xN q) (sa i j' (by omega) hj1 hj2)
    refine w_if (λq3=>?_) λq3=>?_
    ·have:=eq_of_beq q3;exact xj ⟨rfl,.inl ⟨_,_,rfl,m'.dn sa sb (.inr (by omega))⟩⟩
    ·have q3':j+1≠b.size:=λe=>q3 (by simp[<- e])
     refine w_if (λ_=>?_) λ_=>?_
     ·exact xj ⟨rfl,.inr ⟨_,_,_,_,_,rfl,m',b1,by omega,by omega⟩⟩
     ·exact xj ⟨rfl,_,_,_,_,_,rfl,m',b1,by omega,by omega⟩
   ·rw[xy q];dsimp only;rw[xg (by decide)];refine xi (zAg (ga i (by omega)).1 ?_);have m':=m.pa sa (by omega) λj' hj1 hj2=>xm (Nat.not_lt.mp q) (sb j j' (by omega) hj1 hj2)
    refine w_if (λq3=>?_) λq3=>?_
    ·have:=eq_of_beq q3;exact xj ⟨rfl,.inl ⟨_,_,rfl,m'.last sa sb (by omega) h2⟩⟩
    ·have q3':i+1+1≠a.size:=λe=>q3 (by simp[<- e])
     refine w_if (λ_=>?_) λ_=>?_
     ·exact xj ⟨rfl,.inr ⟨_,_,_,_,_,rfl,m',by omega,by omega,by omega⟩⟩
     ·exact xj ⟨rfl,_,_,_,_,_,rfl,m',by omega,by omega,by omega⟩
  case p1=>
   intro c st2 hh;apply Y5 hh
   ·intro r z G;exact xj ⟨S,_,_,rfl,G⟩
   intro o i j d e W;dsimp only;refine xi (wpS_lift (vn ⟨rfl,?_⟩));refine xi (ve (xW (I:=λy c st3=>Sm st st3/\∃o i j g d e,c=(none,o,i,j,g,d,e)/\Wy rk a b o i j (x+2+y))
    (Q:=λc st3=>Sm st st3/\((∃r z,c=(some r,z)/\Go rk a b r)\/∃o i j g d e,c=(none,o,i,j,g,d,e)/\Wy rk a b o i j (x+2))) ?s2 ?f2 ⟨S,_,_,_,_,_,_,rfl,W⟩) ?p2)
   case f2=>
    rintro c st2 ⟨_,o,i,j,g,d,e,rfl,m,b1,b2,b3⟩;exfalso;omega
   case p2=>
    rintro c st3 ⟨S3,⟨r,z,rfl,G⟩|⟨o,i,j,g,d,e,rfl,W⟩⟩
    ·exact xj ⟨S3,_,_,rfl,G⟩
    dsimp only;rw[zCy];exact xi (vw (xj ⟨_,_,_,_,rfl,S3.gal _,W⟩))
   case s2=>
    intro y c st2 _ hy hh;apply X6 hh;intro S2 o i j g d e WW;have m:=WW.1;have b1:=WW.2.1;have b2:=WW.2.2.1;have b3:=WW.2.2.2;dsimp only;generalize g-1=x1;apply zRh (g:=g);intro g';rw[zCy];refine xi (vw (xi (zAg (gb j b2).1 (xi (zGq C (S2.k.trans hk) (gb j b2).2 (λz hz=>ga (i+z) (by omega)) (sa.sub (by omega) (by omega)) (by omega) λk d1 d2 d3=>?_)))));have d4:∀z,i<=z->z<i+k->ky rk a z<=ky rk b j:=λz z1 z2=>by
     have:=ah_t (d2 (z-i) (by omega))
     rwa[xg (by decide),show i+(z-i)=z by omega]at this
    have d5:∀z,i+k<=z->z<a.size->ky rk b j<=ky rk a z:=λz z1 z2=>by
     have:=ah_f (d3 (z-i) (by omega) (by omega));rw[xg (by decide),show i+(z-i)=z by omega]at this;exact xN this
    dsimp only;refine w_if (λq1=>?_) λq1=>?_
    ·have m1:=m.xa sa λi' j' e1 e2 e3 e4 e5=>xm (d4 i' e1 e2) (sb _ _ (by omega) e4 e5)
     refine w_if (λq2=>?_) λq2=>?_
     ·have:=eq_of_beq q2;exact xj ⟨S2.gal _,.inl ⟨_,_,rfl,m1.last sa sb (by omega) h2⟩⟩
     have q2':=zAc q2;refine w_if (λq7=>?_) λq7=>?_
     ·have:=eq_of_beq q7;exact xj ⟨S2.gal _,.inl ⟨_,_,rfl,m1.dn sa sb (.inl (by omega))⟩⟩
     have q7':=zAc q7;refine xi (zAg (gb j b2).1 ?_);have m2:=m1.pb sb b2 λj' hj1 hj2=>d5 j' hj1 hj2
     refine w_if (λq3=>?_) λq3=>?_
     ·have:=eq_of_beq q3;exact xj ⟨S2.gal _,.inl ⟨_,_,rfl,m2.dn sa sb (.inr (by omega))⟩⟩
     have q3':=zAc q3;refine xi (zAg (ga (i+k) (by omega)).1 (xi (zGq C (S2.k.trans hk) (ga (i+k) (by omega)).2 (λz hz=>gb (j+1+z) (by omega)) (sb.sub (by omega) (by omega)) (by omega) λk2 c1 c2 c3=>?_)));have c4:∀z,j+1<=z->z<j+1+k2->ky rk b z<=ky rk a (i+k):=λz z1 z2=>by
      have:=ah_t (c2 (z-(j+1)) (by omega));rw[xf rfl,show j+1+(z-(j+1))=z by omega]at this;exact xN this
     have c5:∀z,j+1+k2<=z->z<b.size->ky rk a (i+k)<=ky rk b z:=λz z1 z2=>by
      have:=ah_f (c3 (z-(j+1)) (by omega) (by omega))
      rwa[xf rfl,show j+1+(z-(j+1))=z by omega]at this
     dsimp only;refine w_if (λq4=>?_) λq4=>?_
     ·have m3:=m2.xb sb λi' j' e1 e2 e3 e4 e5=>xm (c4 i' e1 e2) (sa _ _ (by omega) e4 e5)
      refine w_if (λq6=>?_) λq6=>?_
      ·have:=eq_of_beq q6;exact xj ⟨S2.gal _,.inl ⟨_,_,rfl,m3.dn sa sb (.inr (by omega))⟩⟩
      have q6':=zAc q6;refine xi (zAg (ga (i+k) (by omega)).1 ?_);have m4:=m3.pa sa (by omega) λj' hj1 hj2=>c5 j' hj1 hj2
      refine w_if (λq5=>?_) λq5=>?_
      ·have:=eq_of_beq q5;exact xj ⟨S2.gal _,.inl ⟨_,_,rfl,m4.last sa sb (by omega) h2⟩⟩
      have q5':=zAc q5;refine w_if (λ_=>?_) λ_=>?_
      ·exact xj ⟨S2.gal _,.inr ⟨_,_,_,_,_,_,rfl,m4,by omega,by omega,by omega⟩⟩
      ·exact xj ⟨S2.gal _,_,_,_,_,_,_,rfl,m4,by omega,by omega,by omega⟩
     ·obtain rfl:k2=0:=by omega
      refine xi (zAg (ga (i+k) (by omega)).1 ?_);have m4:=m2.pa sa (by omega) λj' hj1 hj2=>c5 j' (by omega) hj2
      refine w_if (λq5=>?_) λq5=>?_
      ·have:=eq_of_beq q5;exact xj ⟨S2.gal _,.inl ⟨_,_,rfl,m4.last sa sb (by omega) h2⟩⟩
      have q5':=zAc q5;refine w_if (λ_=>?_) λ_=>?_
      ·exact xj ⟨S2.gal _,.inr ⟨_,_,_,_,_,_,rfl,m4,by omega,by omega,by omega⟩⟩
      ·exact xj ⟨S2.gal _,_,_,_,_,_,_,rfl,m4,by omega,by omega,by omega⟩
    ·obtain rfl:k=0:=by omega
     refine xi (zAg (gb j b2).1 ?_);have m2:=m.pb sb b2 λj' hj1 hj2=>d5 j' (by omega) hj2
     refine w_if (λq3=>?_) λq3=>?_
     ·have:=eq_of_beq q3;exact xj ⟨S2.gal _,.inl ⟨_,_,rfl,m2.dn sa sb (.inr (by omega))⟩⟩
     have q3':=zAc q3;refine xi (zAg (ga (i) (by omega)).1 (xi (zGq C (S2.k.trans hk) (ga (i) (by omega)).2 (λz hz=>gb (j+1+z) (by omega)) (sb.sub (by omega) (by omega)) (by omega) λk2 c1 c2 c3=>?_)));have c4:∀z,j+1<=z->z<j+1+k2->ky rk b z<=ky rk a (i):=λz z1 z2=>by
      have:=ah_t (c2 (z-(j+1)) (by omega));rw[xf rfl,show j+1+(z-(j+1))=z by omega]at this;exact xN this
     have c5:∀z,j+1+k2<=z->z<b.size->ky rk a (i)<=ky rk b z:=λz z1 z2=>by
      have:=ah_f (c3 (z-(j+1)) (by omega) (by omega))
      rwa[xf rfl,show j+1+(z-(j+1))=z by omega]at this
     dsimp only;refine w_if (λq4=>?_) λq4=>?_
     ·have m3:=m2.xb sb λi' j' e1 e2 e3 e4 e5=>xm (c4 i' e1 e2) (sa _ _ (by omega) e4 e5)
      refine w_if (λq6=>?_) λq6=>?_
      ·have:=eq_of_beq q6;exact xj ⟨S2.gal _,.inl ⟨_,_,rfl,m3.dn sa sb (.inr (by omega))⟩⟩
      have q6':=zAc q6;refine xi (zAg (ga (i) (by omega)).1 ?_);have m4:=m3.pa sa (by omega) λj' hj1 hj2=>c5 j' hj1 hj2
      refine w_if (λq5=>?_) λq5=>?_
      ·have:=eq_of_beq q5;exact xj ⟨S2.gal _,.inl ⟨_,_,rfl,m4.last sa sb (by omega) h2⟩⟩
      have q5':=zAc q5;refine w_if (λ_=>?_) λ_=>?_
      ·exact xj ⟨S2.gal _,.inr ⟨_,_,_,_,_,_,rfl,m4,by omega,by omega,by omega⟩⟩
      ·exact xj ⟨S2.gal _,_,_,_,_,_,_,rfl,m4,by omega,by omega,by omega⟩
     ·obtain rfl:k2=0:=by omega
      refine xi (zAg (ga (i) (by omega)).1 ?_);have m4:=m2.pa sa (by omega) λj' hj1 hj2=>c5 j' (by omega) hj2
      refine w_if (λq5=>?_) λq5=>?_
      ·have:=eq_of_beq q5;exact xj ⟨S2.gal _,.inl ⟨_,_,rfl,m4.last sa sb (by omega) h2⟩⟩
      have q5':=zAc q5;refine w_if (λ_=>?_) λ_=>?_
      ·exact xj ⟨S2.gal _,.inr ⟨_,_,_,_,_,_,rfl,m4,by omega,by omega,by omega⟩⟩
      ·exact xj ⟨S2.gal _,_,_,_,_,_,_,rfl,m4,by omega,by omega,by omega⟩
end
noncomputable abbrev fr (o x y:Array Keyed) (i j:Nat):Array Keyed:=x.extract 0 i++y.extract 0 j++o.reverse
theorem zYo(x y:Array Keyed):zG1 x y=(do
 rule "list.sort.merge-hi"
 let mut i:=x.size-1
 let mut j:=y.size
 let mut o:Array Keyed:=#[<- elem' x i]
 if i == 0 then return fr o x y i j
 if j == 1 then return fr o y x j i
 let mut g:=gallopOf (<- get)
 for _ in [0:x.size+y.size] do
  let mut c:=0
  let mut d:=0
  for _ in [0:x.size+y.size] do
   let some less <- lt' (<- elem' y (j-1)) (<- elem' x (i-1))|return fr o x y i j
   if less then
    i:=i-1;o:=o.push (<- elem' x i);c:=c+1;d:=0
    if i == 0 then return fr o x y i j
    if c >= g then break
   else
    j:=j-1;o:=o.push (<- elem' y j);d:=d+1;c:=0
    if j == 1 then return fr o y x j i
    if d >= g then break
  rule "list.sort.gallop"
  g:=g+1
  for _ in [0:x.size+y.size] do
   if g > 1 then g:=g-1
   zB7 g
   let some n <- gallop' false (<- elem' y (j-1)) x 0 i (i-1)|return fr o x y i j
   c:=i-n
   if i-n > 0 then
    o:=o++(x.extract n i).reverse;i:=n
    if i == 0 then return fr o x y i j
   j:=j-1;o:=o.push (<- elem' y j)
   if j == 1 then return fr o y x j i
   let some n <- gallop' true (<- elem' x (i-1)) y 0 j (j-1)|return fr o x y i j
   d:=j-n
   if j-n > 0 then
    o:=o++(y.extract n j).reverse;j:=n
    if j == 1 then return fr o y x j i
    if j == 0 then return fr o x y i j
   i:=i-1;o:=o.push (<- elem' x i)
   if i == 0 then return fr o x y i j
   if c<7 && d<7 then break
  g:=g+1
  zB7 g
 unsupported "internal:list.sort.merge-bound"):=rfl
section
variable {α β γ δ ε ζ τ σ:Type}
theorem Z4{c:Option τ × β × γ × α × δ}{W:α->β->γ->δ->Prop}{G:Option τ × β × γ × α × δ->Prop}(h:∃o i j g,c=(none,i,j,o,g)/\W o i j g)(k:∀o i j g,W o i j g->G (none,i,j,o,g)):G c:=by obtain⟨o,i,j,g,rfl,w⟩:=h;exact k o i j g w
theorem Z5{c:Option τ × β × γ × α × δ × ε}{W:α->β->γ->δ->ε->Prop}{G:Option τ × β × γ × α × δ × ε->σ->Prop}(h:t=u/\∃o i j d e,c=(none,i,j,o,d,e)/\W o i j d e)(k:∀o i j d e,W o i j d e->G (none,i,j,o,d,e) u):G c t:=by obtain⟨rfl,o,i,j,d,e,rfl,w⟩:=h;exact k o i j d e w
theorem V5{c:Option τ × β × γ × α × δ × ε}{V:τ->Prop}{W:α->β->γ->δ->ε->Prop}{G:Option τ × β × γ × α × δ × ε->σ->Prop}(h:t=u/\((∃r z,c=(some r,z)/\V r)\/∃o i j d e,c=(none,i,j,o,d,e)/\W o i j d e))(k1:∀r z,V r->G (some r,z) u)(k:∀o i j d e,W o i j d e->G (none,i,j,o,d,e) u):G c t:=by
 obtain⟨rfl,⟨r,z,rfl,v⟩|⟨o,i,j,d,e,rfl,w⟩⟩:=h
 ·exact k1 r z v
 ·exact k o i j d e w
theorem Z6{c:Option τ × β × γ × α × δ × ε × ζ}{W:α->β->γ->δ->ε->ζ->Prop}{G:Option τ × β × γ × α × δ × ε × ζ->Prop}(h:P/\∃o i j g d e,c=(none,i,j,o,g,d,e)/\W o i j g d e)(k:P->∀o i j g d e,W o i j g d e->G (none,i,j,o,g,d,e)):G c:=by obtain⟨p,o,i,j,g,d,e,rfl,w⟩:=h;exact k p o i j g d e w
end
section
variable {prog:Program}{w:World}{A:Around}{E:Value->Shared->Prop}{s:Shared}{κ:SortKind}{rk:Keyed->Nat}{Gd:Keyed->Prop}
def Wj(rk:Keyed->Nat)(a b out:Array Keyed)(i j n:Nat):Prop:=MJ rk a b out i j/\0<i/\i<a.size/\1<j/\j<=b.size/\i+j+n<=a.size+b.size
theorem MJ.cast{i j i' j':Nat}(m:MJ rk a b out i j)(h1:i=i')(h2:j=j'):MJ rk a b out i' j':=by subst h1;subst h2;exact m
theorem zVe{a:Array Keyed}{n i:Nat}(h:n<=i):a.extract n i=a.extract n (n+(i-n)):=by rw[show n+(i-n)=i by omega]
theorem yAo(C:Cm prog w A s κ rk Gd){st:SortSt}{a b:Array Keyed}{Q:Array Keyed->SortSt->Prop}(hk:kindOf st=κ)(ga:∀i,i<a.size->a[i]?=some (a.getD i dk)/\Gd (a.getD i dk))(gb:∀i,i<b.size->b[i]?=some (b.getD i dk)/\Gd (b.getD i dk))
  (sa:So rk a 0 a.size) (sb:So rk b 0 b.size) (ha:0<a.size) (hb:0<b.size) (h1:ky rk b 0<=ky rk a 0) (h2:∀j,j<b.size->ky rk b j<=ky rk a (a.size-1))
  (h:∀r st',Sm st st'->Go rk a b r->Q r st'):wpS (model prog w) A E s (zG1 a b) Q st:=by
 rw[zYo];refine xi (wpS_lift (vn ⟨rfl,?_⟩));refine xi (zAg (ga (a.size-1) (by omega)).1 ?_);dsimp only;have m0:=MJ.start sb sa ha h2;have h3:∀j,j<a.size->ky rk b 0<=ky rk a j:=λj hj=>xm h1 (sa 0 j (by omega) (by omega) hj)
 refine w_if (λq1=>?_) λq1=>?_
 ·have q1':=eq_of_beq q1;exact xj (h _ _ .refl (m0.dn sa sb (.inl (by omega))))
 have q1':=zAc q1;refine w_if (λq2=>?_) λq2=>?_
 ·have q2':=eq_of_beq q2;exact xj (h _ _ .refl (m0.fst sa sb (by omega) h3))
 have q2':=zAc q2;refine xi (wpS_get ?_);refine xi (ve (xW (I:=λx c st'=>∃o i j g,c=(none,i,j,o,g)/\Sm st st'/\Wj rk a b o i j (x+1))
  (Q:=λc st'=>Sm st st'/\∃r z,c=(some r,z)/\Go rk a b r) ?step ?fin ?init) ?post)
 case init=>exact⟨#[a.getD (a.size-1) dk],a.size-1,b.size,gallopOf st,rfl,.refl,m0,by omega,by omega,by omega,by omega,by omega⟩
 case post=>
  rintro c st' ⟨S,r,z,rfl,G⟩;exact xj (h _ _ S G)
 case fin=>
  rintro c st' ⟨o,i,j,g,rfl,S,m,b0,b1,b2,b4,b3⟩;exfalso;omega
 case step=>
  intro x c st' _ hx hh;apply Z4 hh;intro o i j g WW;have S:=WW.1;have W:=WW.2;dsimp only;refine xi (ve (xW (I:=λy c st2=>st2=st'/\∃o i j d e,c=(none,i,j,o,d,e)/\Wj rk a b o i j (x+1+y))
   (Q:=λc st2=>st2=st'/\((∃r z,c=(some r,z)/\Go rk a b r)\/∃o i j d e,c=(none,i,j,o,d,e)/\Wj rk a b o i j (x+2))) ?s1 ?f1 ⟨rfl,_,_,_,_,_,rfl,W⟩) ?p1)
  case f1=>
   rintro c st2 ⟨rfl,o,i,j,d,e,rfl,m,b0,b1,b2,b4,b3⟩;exfalso;omega
  case s1=>
   intro y c st2 _ hy hh;apply Z5 hh;intro o i j d e WW;have m:=WW.1;have b0:=WW.2.1;have b1:=WW.2.2.1;have b2:=WW.2.2.2.1;have b4:=WW.2.2.2.2.1;have b3:=WW.2.2.2.2.2;dsimp only;refine xi (zAg (gb (j-1) (by omega)).1 (xi (zAg (ga (i-1) (by omega)).1 (xi (w_lt C (S.k.trans hk) (gb (j-1) (by omega)).2 (ga (i-1) (by omega)).2 ?_)))));by_cases q:rk (b.getD (j-1) dk)<rk (a.getD (i-1) dk)
   ·rw[xx q];dsimp only;rw[xf rfl];refine xi (zAg (ga (i-1) (by omega)).1 ?_);have m':=(m.cast (by omega) rfl).pa sa (by omega) λj' hj1 hj2=>xm (sb j' (j-1) (by omega) (by omega) (by omega)) (xN q)
    refine w_if (λq3=>?_) λq3=>?_
    ·have:=eq_of_beq q3;exact xj ⟨rfl,.inl ⟨_,_,rfl,m'.dn sa sb (.inl (by omega))⟩⟩
    ·have q3':=zAc q3;refine w_if (λ_=>?_) λ_=>?_
     ·exact xj ⟨rfl,.inr ⟨_,_,_,_,_,rfl,m',by omega,by omega,by omega,by omega,by omega⟩⟩
     ·exact xj ⟨rfl,_,_,_,_,_,rfl,m',by omega,by omega,by omega,by omega,by omega⟩
   ·rw[xy q];dsimp only;rw[xg (by decide)];refine xi (zAg (gb (j-1) (by omega)).1 ?_);have m':=(m.cast rfl (by omega)).pb sb (by omega) λj' hj1 hj2=>xm (sa j' (i-1) (by omega) (by omega) (by omega)) (Nat.not_lt.mp q)
    refine w_if (λq3=>?_) λq3=>?_
    ·have:=eq_of_beq q3;exact xj ⟨rfl,.inl ⟨_,_,rfl,m'.fst sa sb (by omega) h3⟩⟩
    ·have q3':=zAc q3;refine w_if (λ_=>?_) λ_=>?_
     ·exact xj ⟨rfl,.inr ⟨_,_,_,_,_,rfl,m',by omega,by omega,by omega,by omega,by omega⟩⟩
     ·exact xj ⟨rfl,_,_,_,_,_,rfl,m',by omega,by omega,by omega,by omega,by omega⟩
  case p1=>
   intro c st2 hh;apply V5 hh
   ·intro r z G;exact xj ⟨S,_,_,rfl,G⟩
   intro o i j d e W;dsimp only;refine xi (wpS_lift (vn ⟨rfl,?_⟩));refine xi (ve (xW (I:=λy c st3=>Sm st st3/\∃o i j g d e,c=(none,i,j,o,g,d,e)/\Wj rk a b o i j (x+2+y))
    (Q:=λc st3=>Sm st st3/\((∃r z,c=(some r,z)/\Go rk a b r)\/∃o i j g d e,c=(none,i,j,o,g,d,e)/\Wj rk a b o i j (x+2))) ?s2 ?f2 ⟨S,_,_,_,_,_,_,rfl,W⟩) ?p2)
   case f2=>
    rintro c st2 ⟨_,o,i,j,g,d,e,rfl,m,b0,b1,b2,b4,b3⟩;exfalso;omega
   case p2=>
    rintro c st3 ⟨S3,⟨r,z,rfl,G⟩|⟨o,i,j,g,d,e,rfl,W⟩⟩
    ·exact xj ⟨S3,_,_,rfl,G⟩
    dsimp only;rw[zCy];exact xi (vw (xj ⟨_,_,_,_,rfl,S3.gal _,W⟩))
   case s2=>
    intro y c st2 _ hy hh;apply Z6 hh;intro S2 o i j g d e WW;have m:=WW.1;have b0:=WW.2.1;have b1:=WW.2.2.1;have b2:=WW.2.2.2.1;have b4:=WW.2.2.2.2.1;have b3:=WW.2.2.2.2.2;dsimp only;generalize g-1=x1;apply zRh (x:=x1) (g:=g);intro g';rw[zCy];refine xi (vw (xi (zAg (gb (j-1) (by omega)).1 (xi (zGq C (S2.k.trans hk) (gb (j-1) (by omega)).2 (λz hz=>ga (0+z) (by omega)) (sa.sub (by omega) (by omega)) (by omega) λn d1 d2 d3=>?_)))));have d4:∀z,z<n->z<a.size->ky rk a z<=ky rk b (j-1):=λz z1 z2=>by
     have:=ah_t (d2 z z1)
     rwa[xg (by decide),vd]at this
    have d5:∀z,n<=z->z<i->ky rk b (j-1)<=ky rk a z:=λz z1 z2=>by
     have:=ah_f (d3 z z1 z2);rw[xg (by decide),vd]at this;exact xN this
    dsimp only;refine w_if (λq1=>?_) λq1=>?_
    ·have m1:=(m.cast (by omega) rfl).xa (k:=i-n) sa (by omega) λi' j' e1 e2 e3 e4 e5=>xm (sb j' (j-1) (by omega) (by omega) (by omega)) (d5 i' e1 (by omega))
     rw[<- zVe (by omega)]at m1;refine w_if (λq7=>?_) λq7=>?_
     ·have:=eq_of_beq q7;exact xj ⟨S2.gal _,.inl ⟨_,_,rfl,m1.dn sa sb (.inl (by omega))⟩⟩
     have q7':=zAc q7;refine xi (zAg (gb (j-1) (by omega)).1 ?_);have m2:=(m1.cast rfl (by omega)).pb sb (by omega) λj' hj1 hj2=>d4 j' (by omega) (by omega)
     refine w_if (λq3=>?_) λq3=>?_
     ·have:=eq_of_beq q3;exact xj ⟨S2.gal _,.inl ⟨_,_,rfl,m2.fst sa sb (by omega) h3⟩⟩
     have q3':=zAc q3;refine xi (zAg (ga (n-1) (by omega)).1 (xi (zGq C (S2.k.trans hk) (ga (n-1) (by omega)).2 (λz hz=>gb (0+z) (by omega)) (sb.sub (by omega) (by omega)) (by omega) λn2 c1 c2 c3=>?_)));have c4:∀z,z<n2->z<b.size->ky rk b z<=ky rk a (n-1):=λz z1 z2=>by
      have:=ah_t (c2 z z1);rw[xf rfl,vd]at this;exact xN this
     have c5:∀z,n2<=z->z<j-1->ky rk a (n-1)<=ky rk b z:=λz z1 z2=>by
      have:=ah_f (c3 z z1 z2)
      rwa[xf rfl,vd]at this
     dsimp only;refine w_if (λq4=>?_) λq4=>?_
     ·have m3:=(m2.cast rfl (by omega)).xb (k:=j-1-n2) sb (by omega) λi' j' e1 e2 e3 e4 e5=>xm (sa j' (n-1) (by omega) (by omega) (by omega)) (c5 i' e1 (by omega))
      rw[<- zVe (by omega)]at m3;refine w_if (λq6=>?_) λq6=>?_
      ·have:=eq_of_beq q6;exact xj ⟨S2.gal _,.inl ⟨_,_,rfl,m3.fst sa sb (by omega) h3⟩⟩
      have q6':=zAc q6;refine w_if (λq8=>?_) λq8=>?_
      ·have:=eq_of_beq q8;exact xj ⟨S2.gal _,.inl ⟨_,_,rfl,m3.dn sa sb (.inr (by omega))⟩⟩
      have q8':=zAc q8;refine xi (zAg (ga (n-1) (by omega)).1 ?_);have m4:=(m3.cast (by omega) rfl).pa sa (by omega) λj' hj1 hj2=>c4 j' (by omega) (by omega)
      refine w_if (λq5=>?_) λq5=>?_
      ·have:=eq_of_beq q5;exact xj ⟨S2.gal _,.inl ⟨_,_,rfl,m4.dn sa sb (.inl (by omega))⟩⟩
      have q5':=zAc q5;refine w_if (λ_=>?_) λ_=>?_
      ·exact xj ⟨S2.gal _,.inr ⟨_,_,_,_,_,_,rfl,m4,by omega,by omega,by omega,by omega,by omega⟩⟩
      ·exact xj ⟨S2.gal _,_,_,_,_,_,_,rfl,m4,by omega,by omega,by omega,by omega,by omega⟩
     ·obtain rfl:n2=j-1:=by omega
      refine xi (zAg (ga (n-1) (by omega)).1 ?_);have m4:=(m2.cast (by omega) rfl).pa sa (by omega) λj' hj1 hj2=>c4 j' (by omega) (by omega)
      refine w_if (λq5=>?_) λq5=>?_
      ·have:=eq_of_beq q5;exact xj ⟨S2.gal _,.inl ⟨_,_,rfl,m4.dn sa sb (.inl (by omega))⟩⟩
      have q5':=zAc q5;refine w_if (λ_=>?_) λ_=>?_
      ·exact xj ⟨S2.gal _,.inr ⟨_,_,_,_,_,_,rfl,m4,by omega,by omega,by omega,by omega,by omega⟩⟩
      ·exact xj ⟨S2.gal _,_,_,_,_,_,_,rfl,m4,by omega,by omega,by omega,by omega,by omega⟩
    ·obtain rfl:n=i:=by omega
     refine xi (zAg (gb (j-1) (by omega)).1 ?_);have m2:=(m.cast rfl (by omega)).pb sb (by omega) λj' hj1 hj2=>d4 j' (by omega) (by omega)
     refine w_if (λq3=>?_) λq3=>?_
     ·have:=eq_of_beq q3;exact xj ⟨S2.gal _,.inl ⟨_,_,rfl,m2.fst sa sb (by omega) h3⟩⟩
     have q3':=zAc q3;refine xi (zAg (ga (n-1) (by omega)).1 (xi (zGq C (S2.k.trans hk) (ga (n-1) (by omega)).2 (λz hz=>gb (0+z) (by omega)) (sb.sub (by omega) (by omega)) (by omega) λn2 c1 c2 c3=>?_)));have c4:∀z,z<n2->z<b.size->ky rk b z<=ky rk a (n-1):=λz z1 z2=>by
      have:=ah_t (c2 z z1);rw[xf rfl,vd]at this;exact xN this
     have c5:∀z,n2<=z->z<j-1->ky rk a (n-1)<=ky rk b z:=λz z1 z2=>by
      have:=ah_f (c3 z z1 z2)
      rwa[xf rfl,vd]at this
     dsimp only;refine w_if (λq4=>?_) λq4=>?_
     ·have m3:=(m2.cast rfl (by omega)).xb (k:=j-1-n2) sb (by omega) λi' j' e1 e2 e3 e4 e5=>xm (sa j' (n-1) (by omega) (by omega) (by omega)) (c5 i' e1 (by omega))
      rw[<- zVe (by omega)]at m3;refine w_if (λq6=>?_) λq6=>?_
      ·have:=eq_of_beq q6;exact xj ⟨S2.gal _,.inl ⟨_,_,rfl,m3.fst sa sb (by omega) h3⟩⟩
      have q6':=zAc q6;refine w_if (λq8=>?_) λq8=>?_
      ·have:=eq_of_beq q8;exact xj ⟨S2.gal _,.inl ⟨_,_,rfl,m3.dn sa sb (.inr (by omega))⟩⟩
      have q8':=zAc q8;refine xi (zAg (ga (n-1) (by omega)).1 ?_);have m4:=(m3.cast (by omega) rfl).pa sa (by omega) λj' hj1 hj2=>c4 j' (by omega) (by omega)
      refine w_if (λq5=>?_) λq5=>?_
      ·have:=eq_of_beq q5;exact xj ⟨S2.gal _,.inl ⟨_,_,rfl,m4.dn sa sb (.inl (by omega))⟩⟩
      have q5':=zAc q5;refine w_if (λ_=>?_) λ_=>?_
      ·exact xj ⟨S2.gal _,.inr ⟨_,_,_,_,_,_,rfl,m4,by omega,by omega,by omega,by omega,by omega⟩⟩
      ·exact xj ⟨S2.gal _,_,_,_,_,_,_,rfl,m4,by omega,by omega,by omega,by omega,by omega⟩
     ·obtain rfl:n2=j-1:=by omega
      refine xi (zAg (ga (n-1) (by omega)).1 ?_);have m4:=(m2.cast (by omega) rfl).pa sa (by omega) λj' hj1 hj2=>c4 j' (by omega) (by omega)
      refine w_if (λq5=>?_) λq5=>?_
      ·have:=eq_of_beq q5;exact xj ⟨S2.gal _,.inl ⟨_,_,rfl,m4.dn sa sb (.inl (by omega))⟩⟩
      have q5':=zAc q5;refine w_if (λ_=>?_) λ_=>?_
      ·exact xj ⟨S2.gal _,.inr ⟨_,_,_,_,_,_,rfl,m4,by omega,by omega,by omega,by omega,by omega⟩⟩
      ·exact xj ⟨S2.gal _,_,_,_,_,_,_,rfl,m4,by omega,by omega,by omega,by omega,by omega⟩
end
section
variable {rk:Keyed->Nat}
theorem zT1{a:Array Keyed}{i n:Nat}(hn:i+n<=a.size):So rk a i (i+n) <-> Pw rk (ch a i n):=by
 have hl:(ch a i n).length=n:=by simp[ch];omega
 have hg:∀k (h:k<(ch a i n).length),(ch a i n)[k]=a.getD (i+k) dk:=λk h=>by
  rw[getD_list a _ (by omega)];simp[ch]
 constructor
 ·intro h;rw[Pw,yt];intro x y hx hy hxy;rw[hg,hg];exact h _ _ (by omega) (by omega) (by omega)
 ·intro h x y h1 h2 h3;rw[Pw,yt]at h;by_cases e:x=y
  ·subst e;exact xk _
  ·have:=h (x-i) (y-i) (by omega) (by omega) (by omega)
   rwa[hg,hg,show i+(x-i)=x by omega,show i+(y-i)=y by omega]at this
theorem zPp(l:List Keyed)(base n:Nat)(a:Array Keyed)(h:base+n+l.length<=a.size):
  ((l.zipIdx n).foldl (λa x=>a.setIfInBounds (base+x.2) x.1) a).toList=a.toList.take (base+n)++l++a.toList.drop (base+n+l.length):=by
 induction l generalizing n a with
 | nil=>simp
 | cons x t ih=>
  simp only[xD]at h;rw[List.zipIdx_cons,um,ih (n+1) _ (by rw[Array.size_setIfInBounds];omega)];have hlt:base+n<a.toList.length:=by rw[vg];omega
  have hT:(a.toList.take (base+n)).length=base+n:=by rw[vh];omega
  have e1:a.toList.drop (base+n+(x::t).length)=(a.toList.drop (base+n+1)).drop t.length:=by rw[List.drop_drop,xD];congr 1;omega
  have e2:(a.toList.take (base+n)++x::a.toList.drop (base+n+1)).take (base+n+1)=a.toList.take (base+n)++[x]:=by rw[List.take_append,hT,u7 (by rw[hT];omega),show base+n+1-(base+n)=1 by omega];rfl
  have e3:(a.toList.take (base+n)++x::a.toList.drop (base+n+1)).drop (base+n+1+t.length)=(a.toList.drop (base+n+1)).drop t.length:=by rw[List.drop_append,hT,List.drop_of_length_le (by rw[hT];omega),show base+n+1+t.length-(base+n)=t.length+1 by omega];rfl
  rw[Array.toList_setIfInBounds,show base+(n+1)=base+n+1 by omega,List.set_eq_take_append_cons_drop,xf hlt,e1];dsimp only;rw[e2,e3,xw (a.toList.take (base+n))];rfl
end
theorem zYr(i:Nat):mergeAt' i=(do
 let t <- get
 let (some (p,m,e),some (q,n,_)):=((pendingOf t)[i]?,(pendingOf t)[i+1]?)|unsupported "internal:list.sort.pending"
 set (setPending t (((pendingOf t).setIfInBounds i (p,m+n,e)).eraseIdxIfInBounds (i+1)))
 let some k <- gallop' false (<- elem' (arrOf t) q) (arrOf t) p m 0|return false
 let (p,m):=(p+k,m-k)
 if m == 0 then return true
 let some n <- gallop' true (<- elem' (arrOf t) (p+m-1)) (arrOf t) q n (n-1)|return false
 if n == 0 then return true
 let x:=(arrOf t).extract p q
 let y:=(arrOf t).extract q (q+n)
 let r <- if m<=n then zG0 x y else zG1 x y
 modify λu=>setArr u (r.toList.zipIdx.foldl (λa (v,j)=>a.setIfInBounds (p+j) v) (arrOf u))
 return (failedOf (<- get)).isNone):=rfl
section
variable {prog:Program}{w:World}{A:Around}{E:Value->Shared->Prop}{s:Shared}{κ:SortKind}{a₀:Array Keyed}{rk:Keyed->Nat}{Gd:Keyed->Prop}
theorem yAm{t st:SortSt}{Q:PUnit->SortSt->Prop}(h:Q ⟨⟩ t):wpS (model prog w) A E s (set t:StateT SortSt Sem PUnit) Q st:=by unfold wpS;rw[StateT.run_set];exact xh ⟨rfl,h⟩
theorem zQ3{R:List Keyed}(h:R.Perm (X++Y)):(P++(S++(R++T))).Perm (P++(S++(X++(Y++T)))):=by rw[<- xw X];exact((h.append_right _).append_left _).append_left _
theorem mrg(rk:Keyed->Nat){a:Array Keyed}{p k q m n l:Nat}{r:Array Keyed}(hpq:q=p+m)(hk:k<m)(hl:l<=n)(hs:q+n<=a.size)(s1:So rk a p q)(s2:So rk a q (q+n))
  (d4:∀z,p<=z->z<p+k->ky rk a z<=ky rk a q) (c5:∀z,q+l<=z->z<q+n->ky rk a (q-1)<=ky rk a z) (hn:1<=n) (G:Go rk (a.extract (p+k) q) (a.extract q (q+l)) r):
  let a':=r.toList.zipIdx.foldl (λa x=>a.setIfInBounds (p+k+x.2) x.1) a
  a'.Perm a/\Out p (q+n) a a'/\So rk a' p (q+n):=by
 intro a';have ex:(a.extract (p+k) q).toList=ch a (p+k) (m-k):=by rw[<- zDr];congr 2;omega
 have ey:(a.extract q (q+l)).toList=ch a q l:=zDr _ _ _;obtain⟨g1,g2⟩:=G;rw[ex,ey]at g1;have lx:(ch a (p+k) (m-k)).length=m-k:=by simp[ch];omega
 have ly:(ch a q l).length=l:=by simp[ch];omega
 have lr:r.toList.length=m-k+l:=by rw[g1.length_eq,xH,lx,ly]
 have e':a'.toList=a.toList.take (p+k)++r.toList++a.toList.drop (p+k+r.toList.length):=zPp r.toList (p+k) 0 a (by omega);have eP:=zEc a p k;have eT:a.toList.drop (p+k+r.toList.length)=ch a (q+l) (n-l)++a.toList.drop (q+n):=by rw[show p+k+r.toList.length=q+l by omega,zC8 a (q+l) (n-l),show q+l+(n-l)=q+n by omega]
 have ea:a.toList=a.toList.take p++(ch a p k++(ch a (p+k) (m-k)++(ch a q l++(ch a (q+l) (n-l)++a.toList.drop (q+n))))):=by
  conv=>lhs;rw[<- vA p a.toList]
  rw[zC8 a p k,zC8 a (p+k) (m-k),show p+k+(m-k)=q by omega,zC8 a q l,zC8 a (q+l) (n-l),show q+l+(n-l)=q+n by omega]
 have e2:a'.toList=a.toList.take p++(ch a p k++(r.toList++(ch a (q+l) (n-l)++a.toList.drop (q+n)))):=by rw[e',eP,eT];simp only[xw]
 have hsz:a'.size=a.size:=by
  rw[<- vg,<- vg,e2]
  conv=>rhs;rw[ea]
  simp only[xH,lr,lx,ly];omega
 have lP:(a.toList.take p).length=p:=by rw[vh,vg];omega
 have lS:(ch a p k).length=k:=by simp[ch];omega
 have lU:(ch a (q+l) (n-l)).length=n-l:=by simp[ch];omega
 refine⟨?_,?_,?_⟩
 ·rw[Array.perm_iff_toList_perm,e2]
  conv=>rhs;rw[ea]
  exact zQ3 g1
 ·intro z hz;rw[<- uU,<- uU,e2]
  conv=>rhs;rw[ea]
  rcases hz with hz|hz
  ·rw[vy (by omega),vy (by omega)]
  ·rw[<- xw,<- xw,<- xw,vG (by simp only[xH,lP,lS,lr,lU];omega)];rw[<- xw,<- xw,<- xw,<- xw,vG (by simp only[xH,lP,lS,lx,ly,lU];omega)];simp only[xH,lP,lS,lr,lU,lx,ly];congr 1;omega
 ·rw[show q+n=p+(m+n) by omega,zT1 (by omega)];have ec:ch a' p (m+n)=ch a p k++(r.toList++ch a (q+l) (n-l)):=by
   rw[ch,e2,List.drop_append_of_le_length (by omega),List.drop_of_length_le (by omega),List.nil_append,<- xw,<- xw,List.take_append_of_le_length (by simp only[xH,lS,lr,lU];omega),
    u7 (by simp only[xH,lS,lr,lU];omega),xw]
  rw[ec];have inR:∀x∈r.toList,x∈ch a (p+k) (m-k)\/x∈ch a q l:=λx hx=>xX.mp (g1.mem_iff.mp hx)
  refine Pw.app ((zT1 (by omega)).mp (s1.sub (by omega) (by omega))) (Pw.app g2 ((zT1 (by omega)).mp (s2.sub (by omega) (by omega))) λx hx y hy=>?_) λx hx y hy=>?_
  ·obtain⟨j,j1,j2,j3,rfl⟩:=zBg hy;rcases inR x hx with h|h
   ·obtain⟨z,z1,z2,z3,rfl⟩:=zBg h;exact xm (s1 z (q-1) (by omega) (by omega) (by omega)) (c5 j (by omega) (by omega))
   ·obtain⟨z,z1,z2,z3,rfl⟩:=zBg h;exact s2 z j (by omega) (by omega) (by omega)
  ·obtain⟨j,j1,j2,j3,rfl⟩:=zBg hx;rcases xX.mp hy with hy|hy
   ·rcases inR y hy with h|h
    ·obtain⟨z,z1,z2,z3,rfl⟩:=zBg h;exact s1 j z (by omega) (by omega) (by omega)
    ·obtain⟨z,z1,z2,z3,rfl⟩:=zBg h;exact xm (d4 j (by omega) (by omega)) (s2 q z (by omega) (by omega) (by omega))
   ·obtain⟨z,z1,z2,z3,rfl⟩:=zBg hy;exact xm (d4 j (by omega) (by omega)) (s2 q z (by omega) (by omega) (by omega))
theorem zC3{a:Array Keyed}{i j z:Nat}(hz:i+z<j)(hj:j<=a.size):(a.extract i j).getD z dk=a.getD (i+z) dk:=by apply zNl;rw[Array.getElem?_extract_of_lt (by omega)];exact(getElem?_pos a (i+z) (by omega)).symm
theorem So.ext{a:Array Keyed}{i j:Nat}(h:So rk a i j)(hij:i<=j)(hj:j<=a.size):So rk (a.extract i j) 0 (a.extract i j).size:=λx y h1 h2 h3=>by
 rw[Array.size_extract]at h3;unfold ky;rw[zC3 (by omega) hj,zC3 (by omega) hj];exact h _ _ (by omega) (by omega) (by omega)
theorem zK1{a:Array Keyed}{i j:Nat}(hj:j<=a.size)(g:∀i,i<a.size->a[i]?=some (a.getD i dk)/\Gd (a.getD i dk))(z:Nat)(hz:z<(a.extract i j).size):(a.extract i j)[z]?=some ((a.extract i j).getD z dk)/\Gd ((a.extract i j).getD z dk):=by
 rw[Array.size_extract]at hz;have h1:i+z<a.size:=by omega
 rw[zC3 (by omega) hj,Array.getElem?_extract_of_lt (by omega),<- getElem?_pos a (i+z) h1];exact g _ h1
theorem yAp(C:Cm prog w A s κ rk Gd)(hg:∀x∈a₀,Gd x){st:SortSt}{i p m e q n e':Nat}{Q:Bool->SortSt->Prop}(B:SB κ a₀ st)(hp:(pendingOf st)[i]?=some (p,m,e))(hq:(pendingOf st)[i+1]?=some (q,n,e'))(hpq:q=p+m)(hm:1<=m)(hn:1<=n)(hs:q+n<=a₀.size)
  (s1:So rk (arrOf st) p q) (s2:So rk (arrOf st) q (q+n))
  (h:∀st',SB κ a₀ st'->pendingOf st'=(((pendingOf st).setIfInBounds i (p,m+n,e)).eraseIdxIfInBounds (i+1))->Out p (q+n) (arrOf st) (arrOf st')->So rk (arrOf st') p (q+n)->Q true st'):wpS (model prog w) A E s (mergeAt' i) Q st:=by
 rw[zYr];refine xi (wpS_get ?_);rw[hp,hq];dsimp only;have ag:∀i,i<(arrOf st).size->(arrOf st)[i]?=some ((arrOf st).getD i dk)/\Gd ((arrOf st).getD i dk):=λi hi=>zWj B.perm hg (by rw[<- B.size];exact hi)
 have hs':q+n<=(arrOf st).size:=by rw[B.size];exact hs
 have B1:SB κ a₀ (setPending st (((pendingOf st).setIfInBounds i (p,m+n,e)).eraseIdxIfInBounds (i+1))):=⟨B.perm,B.kind,B.failed⟩;refine xi (yAm (xi (zAg (ag q (by omega)).1 (xi (zGq C B.kind (ag q (by omega)).2 (λz hz=>ag (p+z) (by omega)) (s1.sub (by omega) (by omega)) (by omega) λk d1 d2 d3=>?_)))));have d4:∀z,p<=z->z<p+k->ky rk (arrOf st) z<=ky rk (arrOf st) q:=λz z1 z2=>by
  have:=ah_t (d2 (z-p) (by omega))
  rwa[xg (by decide),show p+(z-p)=z by omega]at this
 have d5:∀z,p+k<=z->z<p+m->ky rk (arrOf st) q<=ky rk (arrOf st) z:=λz z1 z2=>by
  have:=ah_f (d3 (z-p) (by omega) (by omega));rw[xg (by decide),show p+(z-p)=z by omega]at this;exact xN this
 dsimp only;refine w_if (λq1=>?_) λq1=>?_
 ·have q1':=eq_of_beq q1;refine xj (h _ B1 rfl .refl λx y h1 h2 h3=>?_);show ky rk (arrOf st) x<=ky rk (arrOf st) y;by_cases hx:x<q
  ·by_cases hy:y<q
   ·exact s1 x y h1 h2 hy
   ·exact xm (d4 x h1 (by omega)) (s2 q y (by omega) (by omega) h3)
  ·exact s2 x y (by omega) h2 h3
 have q1':=zAc q1;have eL:p+k+(m-k)-1=q-1:=by omega
 rw[eL];refine xi (zAg (ag (q-1) (by omega)).1 (xi (zGq C B.kind (ag (q-1) (by omega)).2 (λz hz=>ag (q+z) (by omega)) s2 (by omega) λl c1 c2 c3=>?_)));have c4:∀z,q<=z->z<q+l->ky rk (arrOf st) z<=ky rk (arrOf st) (q-1):=λz z1 z2=>by
  have:=ah_t (c2 (z-q) (by omega));rw[xf rfl,show q+(z-q)=z by omega]at this;exact xN this
 have c5:∀z,q+l<=z->z<q+n->ky rk (arrOf st) (q-1)<=ky rk (arrOf st) z:=λz z1 z2=>by
  have:=ah_f (c3 (z-q) (by omega) (by omega))
  rwa[xf rfl,show q+(z-q)=z by omega]at this
 dsimp only;refine w_if (λq2=>?_) λq2=>?_
 ·have q2':=eq_of_beq q2;refine xj (h _ B1 rfl .refl λx y h1 h2 h3=>?_);show ky rk (arrOf st) x<=ky rk (arrOf st) y;by_cases hx:x<q
  ·by_cases hy:y<q
   ·exact s1 x y h1 h2 hy
   ·exact xm (s1 x (q-1) h1 (by omega) (by omega)) (c5 y (by omega) h3)
  ·exact s2 x y (by omega) h2 h3
 have q2':=zAc q2;have sx:((arrOf st).extract (p+k) q).size=q-(p+k):=by rw[Array.size_extract];omega
 have sy:((arrOf st).extract q (q+l)).size=l:=by rw[Array.size_extract];omega
 have P1:ky rk ((arrOf st).extract q (q+l)) 0<=ky rk ((arrOf st).extract (p+k) q) 0:=by unfold ky;rw[zC3 (by omega) (by omega),zC3 (by omega) (by omega)];exact d5 (p+k+0) (by omega) (by omega)
 have P2:∀j,j<((arrOf st).extract q (q+l)).size->ky rk ((arrOf st).extract q (q+l)) j<=ky rk ((arrOf st).extract (p+k) q) (((arrOf st).extract (p+k) q).size-1):=λj hj=>by
  rw[sx];unfold ky;rw[zC3 (by omega) (by omega),zC3 (by omega) (by omega)];have:=c4 (q+j) (by omega) (by omega)
  rwa[show p+k+(q-(p+k)-1)=q-1 by omega]
 refine w_if (λq3=>?_) λq3=>?_
 all_goals
  first
  | refine xi (yAn C B.kind (zK1 (by omega) ag) (zK1 (by omega) ag) (So.ext (s1.sub (by omega) (by omega)) (by omega) (by omega)) (So.ext (s2.sub (by omega) (by omega)) (by omega) (by omega)) (by omega) (by omega) P1 P2 λr st' S G=>?_)
  | refine xi (yAo C B.kind (zK1 (by omega) ag) (zK1 (by omega) ag) (So.ext (s1.sub (by omega) (by omega)) (by omega) (by omega)) (So.ext (s2.sub (by omega) (by omega)) (by omega) (by omega)) (by omega) (by omega) P1 P2 λr st' S G=>?_)
  have K:=mrg rk hpq (by omega) c1 hs' s1 s2 d4 c5 hn G;have eA:=S.a;refine xi (vw (xi (wpS_get ?_)));have eF:=S.f.trans B.failed;rw[show(failedOf (setArr st' _))=none from eF];refine xj (h _ ⟨?_,S.k.trans B.kind,eF⟩ S.p ?_ ?_)
  ·show(List.foldl _ (arrOf st') _).Perm a₀;rw[eA];exact K.1.trans B.perm
  ·show Out p (q+n) (arrOf st) (List.foldl _ (arrOf st') _);rw[eA];exact K.2.1
  ·show So rk (List.foldl _ (arrOf st') _) p (q+n);rw[eA];exact K.2.2
end
noncomputable abbrev Rn:=Nat × Nat × Nat
def Pd(rk:Keyed->Nat)(a:Array Keyed):List Rn->Nat->Nat->Prop
 | [],lo,hi=>lo=hi
 | x::t,lo,hi=>x.1=lo/\1<=x.2.1/\So rk a lo (lo+x.2.1)/\Pd rk a t (lo+x.2.1) hi
section
variable {rk:Keyed->Nat}{a b:Array Keyed}
theorem Pd.le{p:List Rn}{lo hi:Nat}(h:Pd rk a p lo hi):lo+p.length<=hi:=by
 induction p generalizing lo with
 | nil=>simp only[Pd]at h;simp;omega
 | cons x t ih=>have:=ih h.2.2.2;have:=h.2.1;simp only[xD];omega
theorem Pd.app{p q:List Rn}{lo hi:Nat}:Pd rk a (p++q) lo hi <-> ∃m,Pd rk a p lo m/\Pd rk a q m hi:=by
 induction p generalizing lo with
 | nil=>simp[Pd]
 | cons x t ih=>
  simp only[uq,Pd,ih];constructor
  ·rintro⟨h1,h2,h3,m,h4,h5⟩;exact⟨m,⟨h1,h2,h3,h4⟩,h5⟩
  ·rintro⟨m,⟨h1,h2,h3,h4⟩,h5⟩;exact⟨h1,h2,h3,m,h4,h5⟩
theorem Pd.out{lo hi x y:Nat}(h:Pd rk a p lo hi)(o:Out x y a b)(hd:hi<=x\/y<=lo):Pd rk b p lo hi:=by
 induction p generalizing lo with
 | nil=>exact h
 | cons z t ih=>
  have l:=Pd.le h.2.2.2;exact⟨h.1,h.2.1,h.2.2.1.out o (by omega),ih h.2.2.2 (by omega)⟩
theorem Pd.pw{lo hi:Nat}{x y:Rn}(h:Pd rk a (p++[x]) lo hi)(h1:x.1=y.1)(h2:x.2.1=y.2.1):Pd rk a (p++[y]) lo hi:=by obtain⟨m,k1,k2⟩:=Pd.app.mp h;refine Pd.app.mpr ⟨m,k1,?_⟩;simp only[Pd]at k2 ⊢;rw[<- h1,<- h2];exact k2
theorem Pd.one{lo hi n pw:Nat}(h1:1<=n)(h:So rk a lo (lo+n))(e:hi=lo+n):Pd rk a [(lo,n,pw)] lo hi:=⟨rfl,h1,h,e.symm⟩
end
section
variable {prog:Program}{w:World}{A:Around}{E:Value->Shared->Prop}{s:Shared}{κ:SortKind}{a₀:Array Keyed}{rk:Keyed->Nat}{Gd:Keyed->Prop}
theorem zN1(p:List Rn)(x:Rn)(f:Rn->Rn)(z:Rn):((p++[x]).toArray.modify ((p++[x]).toArray.size-1) f).push z=(p++[f x]++[z]).toArray:=by
 apply yf.mp;rw[Array.toList_push,Array.toList_modify];have:∀q:List Rn,(q++[x]).modify q.length f=q++[f x]:=λq=>by
  induction q with
  | nil=>rfl
  | cons y t ih=>rw[uq,xD,List.modify_succ_cons,ih];rfl
 rw[show(p++[x]).toArray.size-1=p.length by simp,this]
theorem w_mp(C:Cm prog w A s κ rk Gd)(hg:∀x∈a₀,Gd x){st:SortSt}{i lo:Nat}{p:List Rn}{Q:Bool->SortSt->Prop}(B:SB κ a₀ st)(hp:pendingOf st=p.toArray)(hi:i+1<p.length)(hP:Pd rk (arrOf st) p 0 lo)(hs:lo<=a₀.size)
  (h:∀st' p',SB κ a₀ st'->pendingOf st'=p'.toArray->p'.length+1=p.length->Pd rk (arrOf st') p' 0 lo->Out 0 lo (arrOf st) (arrOf st')->Q true st'):wpS (model prog w) A E s (mergeAt' i) Q st:=by
 obtain⟨u,x,y,v,rfl,hu⟩:∃u x y v,p=u++x::y::v/\u.length=i:=by refine⟨p.take i,p[i],p[i+1],p.drop (i+2),?_,by rw[vh];omega⟩;rw[List.getElem_cons_drop,List.getElem_cons_drop,vA]
 obtain⟨p,m,e⟩:=x;obtain⟨q,n,e'⟩:=y;obtain⟨mid,k1,k2⟩:=Pd.app.mp hP;obtain⟨rfl,hm,s1,rfl,hn,s2,k3⟩:=k2;dsimp only at hm s1 hn s2 k3;have l3:=k3.le;refine yAp C hg B (e:=e) (e':=e') (by rw[hp];simp[<- hu]) (by rw[hp];simp[<- hu]) rfl hm hn (by omega) s1 s2 λst' B' hp' o s'=>h st' (u++(p,m+n,e)::v) B' ?_ (by simp only[xH,xD];omega) ?_ (o.mono (by omega) (by omega))
 ·rw[hp',hp];simp[<- hu,List.eraseIdx_append];intro hh;omega
 ·refine Pd.app.mpr ⟨p,k1.out o (by omega),rfl,by dsimp only;omega,by dsimp only;rw[<- Nat.add_assoc];exact s',?_⟩;dsimp only;rw[<- Nat.add_assoc];exact k3.out o (by omega)
theorem w_sr(C:Cm prog w A s κ rk Gd)(hz:a₀.size<=2 ^ 21)(hg:∀x∈a₀,Gd x){st:SortSt}{Q:Unit->SortSt->Prop}(B:SB κ a₀ st)(hp:pendingOf st=#[])
  (h:∀st',SB κ a₀ st'->So rk (arrOf st') 0 a₀.size->Q () st'):wpS (model prog w) A E s sortRuns' Q st:=by
 rw[sortRuns'_eq];refine xi (wpS_get ?_);dsimp only;rw[B.size];generalize minRun' a₀.size a₀.size 0=mr;refine xi (ve (xW (I:=λx c st'=>∃lo p,c=(none,lo)/\SB κ a₀ st'/\pendingOf st'=List.toArray p/\Pd rk (arrOf st') p 0 lo/\lo<=a₀.size/\(x<=lo\/a₀.size<=lo))
  (Q:=λc st'=>∃p lo,c=(none,lo)/\SB κ a₀ st'/\pendingOf st'=List.toArray p/\Pd rk (arrOf st') p 0 a₀.size) ?step ?fin ?init) ?post)
 case init=>exact⟨0,[],rfl,B,hp,rfl,by omega,.inl (by omega)⟩
 case fin=>
  rintro c st' ⟨lo,p,rfl,B',hp',hP,h1,h2⟩;rw[show lo=a₀.size by omega]at hP ⊢;exact⟨p,_,rfl,B',hp',hP⟩
 case post=>
  rintro c st' ⟨p,lo,rfl,B',hp',hP⟩;dsimp only;refine xi (ve (xW (I:=λx c st2=>∃p,c=(none,())/\SB κ a₀ st2/\pendingOf st2=List.toArray p/\Pd rk (arrOf st2) p 0 a₀.size/\(p.length<=1\/p.length+x<=a₀.size))
   (Q:=λc st2=>∃p,c=(none,())/\SB κ a₀ st2/\pendingOf st2=List.toArray p/\Pd rk (arrOf st2) p 0 a₀.size/\p.length<=1) ?s2 ?f2 ?i2) ?p2)
  case i2=>have:=hP.le;exact⟨p,rfl,B',hp',hP,.inr (by omega)⟩
  case f2=>
   rintro c st2 ⟨p,rfl,B2,hp2,hP2,hl⟩;exact⟨p,rfl,B2,hp2,hP2,by omega⟩
  case p2=>
   rintro c st2 ⟨p,rfl,B2,hp2,hP2,hl⟩;refine xj (h st2 B2 ?_)
   match p,hP2,hl with
   | [],hP2,_=>intro i j h1 h2 h3;have:(0:Nat)=a₀.size:=hP2;omega
   | [(x1,x2,x3)],hP2,_=>
    obtain⟨_,_,k1,k2⟩:=hP2;have:=k2;rw[<- this];exact k1
  case s2=>
   rintro x c st2 _ hx ⟨p,rfl,B2,hp2,hP2,hl⟩;refine xi (wpS_get ?_);rw[hp2];refine w_if (λq=>?_) λq=>?_
   ·exact xj ⟨p,rfl,B2,hp2,hP2,by simpa using q⟩
   have q':¬ p.length<=1:=by simpa using q
   refine xi (w_mp C hg B2 hp2 ?_ hP2 (xk _) λst3 p3 B3 hp3 hl3 hP3 o3=>?_)
   ·simp only[xu]
    repeat' split
    all_goals omega
   ·exact xj ⟨p3,rfl,B3,hp3,hP3,by omega⟩
 case step=>
  rintro x c st' _ hx ⟨lo,p,rfl,B',hp',hP,h1,h2⟩;dsimp only;refine w_if (λq1=>?_) λq1=>?_
  ·rw[show lo=a₀.size by omega]at hP ⊢;exact xj ⟨p,_,rfl,B',hp',hP⟩
  refine xi (w_count C hg (by omega) (by omega) B' λm st2 R2 hm1 hm2 hs2=>?_);dsimp only;have hP2:=hP.out R2.out (.inl (xk _));have B2:=R2.b;have hp2:=R2.pend.trans hp';refine w_if (λq2=>?_) λq2=>?_
  ·refine xi (wpS_lift (vn ⟨rfl,?_⟩));refine xi (yAq C hg (by omega) (by omega) B2 hs2 λst3 R3 hs3=>?_);have hP3:=hP2.out R3.out (.inl (xk _));have B3:=R3.b;have hp3:=R3.pend.trans hp2;rw[xg (by decide)];refine xi (wpS_get ?_);rw[hp3];by_cases hpn:p=[]
   ·subst hpn;have e0:=hP3;subst e0;refine xi (vw (xj ⟨_,[(0,min (a₀.size-0) mr,0)],rfl,⟨B3.perm,B3.kind,B3.failed⟩,?_,Pd.one (by omega) hs3 rfl,by omega,.inl (by omega)⟩));show(pendingOf st3).push _=_;rw[hp3];rfl
   obtain⟨p0,x0,rfl⟩:∃p0 x0,p=p0++[x0]:=⟨p.dropLast,p.getLast hpn,(yx hpn).symm⟩
   rw[show(p0++[x0]).toArray.back?=some x0 by simp];dsimp only;refine xi (ve (xW (I:=λy c st4=>∃p,c=(none,())/\p≠[]/\SB κ a₀ st4/\pendingOf st4=List.toArray p/\Pd rk (arrOf st4) p 0 lo/\So rk (arrOf st4) lo (lo+min (a₀.size-lo) mr))
    (Q:=λc st4=>∃p,c=(none,())/\p≠[]/\SB κ a₀ st4/\pendingOf st4=List.toArray p/\Pd rk (arrOf st4) p 0 lo/\So rk (arrOf st4) lo (lo+min (a₀.size-lo) mr)) ?s3 ?f3 ?i3) ?p3)
   case i3=>exact⟨_,rfl,hpn,B3,hp3,hP3,hs3⟩
   case f3=>rintro c st4 hh;exact hh
   case p3=>
    rintro c st4 ⟨p4,rfl,hn4,B4,hp4,hP4,hs4⟩;dsimp only;obtain⟨p5,x5,rfl⟩:∃p0 x0,p4=p0++[x0]:=⟨p4.dropLast,p4.getLast hn4,(yx hn4).symm⟩
    generalize hpw:power' _ _ _ _=pw;refine xi (vw (xi (vw (xj ⟨_,p5++[(x5.1,x5.2.1,pw)]++[(lo,min (a₀.size-lo) mr,0)],rfl,⟨B4.perm,B4.kind,B4.failed⟩,?_,Pd.app.mpr ⟨lo,hP4.pw rfl rfl,Pd.one (by omega) hs4 rfl⟩,by omega,.inl (by omega)⟩))));show((pendingOf st4).modify ((pendingOf st4).size-1) _).push _=_;rw[hp4];exact zN1 _ _ _ _
   case s3=>
    rintro y c st4 _ hy ⟨p4,rfl,hn4,B4,hp4,hP4,hs4⟩;refine xi (wpS_get ?_);rw[hp4];generalize hz:(if p4.toArray.size > 1 then p4.toArray[p4.toArray.size-2]? else none)=z
    match z,hz with
    | none,_=>exact xj ⟨p4,rfl,hn4,B4,hp4,hP4,hs4⟩
    | some (z1,z2,z3),hz=>
     dsimp only;have hl4:p4.length > 1:=by
      by_cases q:p4.toArray.size > 1
      ·simpa using q
      ·rw[xg q]at hz;cases hz
     refine w_if (λq=>?_) λq=>?_
     ·exact xj ⟨p4,rfl,hn4,B4,hp4,hP4,hs4⟩
     ·refine xi (w_mp C hg B4 hp4 (by simp only[xu];omega) hP4 h1 λst5 p5 B5 hp5 hl5 hP5 o5=>?_);exact xj ⟨p5,rfl,λe=>by subst e;simp at hl5;omega,B5,hp5,hP5,hs4.out o5 (by omega)⟩
  ·skip
   refine xi (wpS_get ?_);rw[hp2];by_cases hpn:p=[]
   ·subst hpn;have e0:=hP2;subst e0;refine xi (vw (xj ⟨_,[(0,m,0)],rfl,⟨B2.perm,B2.kind,B2.failed⟩,?_,Pd.one (by omega) hs2 rfl,by omega,.inl (by omega)⟩));show(pendingOf st2).push _=_;rw[hp2];rfl
   obtain⟨p0,x0,rfl⟩:∃p0 x0,p=p0++[x0]:=⟨p.dropLast,p.getLast hpn,(yx hpn).symm⟩
   rw[show(p0++[x0]).toArray.back?=some x0 by simp];dsimp only;refine xi (ve (xW (I:=λy c st4=>∃p,c=(none,())/\p≠[]/\SB κ a₀ st4/\pendingOf st4=List.toArray p/\Pd rk (arrOf st4) p 0 lo/\So rk (arrOf st4) lo (lo+m))
    (Q:=λc st4=>∃p,c=(none,())/\p≠[]/\SB κ a₀ st4/\pendingOf st4=List.toArray p/\Pd rk (arrOf st4) p 0 lo/\So rk (arrOf st4) lo (lo+m)) ?s3 ?f3 ?i3) ?p3)
   case i3=>exact⟨_,rfl,hpn,B2,hp2,hP2,hs2⟩
   case f3=>rintro c st4 hh;exact hh
   case p3=>
    rintro c st4 ⟨p4,rfl,hn4,B4,hp4,hP4,hs4⟩;dsimp only;obtain⟨p5,x5,rfl⟩:∃p0 x0,p4=p0++[x0]:=⟨p4.dropLast,p4.getLast hn4,(yx hn4).symm⟩
    generalize hpw:power' _ _ _ _=pw;refine xi (vw (xi (vw (xj ⟨_,p5++[(x5.1,x5.2.1,pw)]++[(lo,m,0)],rfl,⟨B4.perm,B4.kind,B4.failed⟩,?_,Pd.app.mpr ⟨lo,hP4.pw rfl rfl,Pd.one (by omega) hs4 rfl⟩,by omega,.inl (by omega)⟩))));show((pendingOf st4).modify ((pendingOf st4).size-1) _).push _=_;rw[hp4];exact zN1 _ _ _ _
   case s3=>
    rintro y c st4 _ hy ⟨p4,rfl,hn4,B4,hp4,hP4,hs4⟩;refine xi (wpS_get ?_);rw[hp4];generalize hz:(if p4.toArray.size > 1 then p4.toArray[p4.toArray.size-2]? else none)=z
    match z,hz with
    | none,_=>exact xj ⟨p4,rfl,hn4,B4,hp4,hP4,hs4⟩
    | some (z1,z2,z3),hz=>
     dsimp only;have hl4:p4.length > 1:=by
      by_cases q:p4.toArray.size > 1
      ·simpa using q
      ·rw[xg q]at hz;cases hz
     refine w_if (λq=>?_) λq=>?_
     ·exact xj ⟨p4,rfl,hn4,B4,hp4,hP4,hs4⟩
     ·refine xi (w_mp C hg B4 hp4 (by simp only[xu];omega) hP4 h1 λst5 p5 B5 hp5 hl5 hP5 o5=>?_);exact xj ⟨p5,rfl,λe=>by subst e;simp at hl5;omega,B5,hp5,hP5,hs4.out o5 (by omega)⟩
end
end TM
namespace EK
open PySem
open DS (D)
inductive A2 {α β:Type}(R:α->β->Prop):List α->List β->Prop where
 | nil:A2 R [] []
 | cons {a:α}{b:β}{l:List α}{m:List β}:R a b->A2 R l m->A2 R (a::l) (b::m)
theorem A2.length{α β:Type}{R:α->β->Prop}{l:List α}{m:List β}(h:A2 R l m):l.length=m.length:=by
 induction h with
 | nil=>rfl
 | cons _ _ ih=>simp[ih]
theorem A2.imp{α β:Type}{R R':α->β->Prop}{l:List α}{m:List β}(h:A2 R l m)(k:∀a b,R a b->R' a b):A2 R' l m:=by
 induction h with
 | nil=>exact .nil
 | cons h _ ih=>exact .cons (k _ _ h) ih
def Ek(h:Heap):Nat->D->Value->Prop
 | 0,d,v=>∃i t,d=.int i/\v=.int i t
 | n+1,d,v=>∃ds a o items k,d=.tup ds/\v=.ref a/\h.get? a=some o/\o.cls=.type "tuple"/\o.data=.seq items k/\A2 (Ek h n) ds items.toList
theorem Ek.kept{h h':Heap}:∀{n:Nat}{d:D}{v:Value},Ek h n d v->(∀a o,h.get? a=some o->o.cls=.type "tuple"->h'.get? a=some o)->Ek h' n d v
 | 0,_,_,x,_=>x
 | n+1,_,_,⟨ds,a,o,items,k,e1,e2,h1,h2,h3,r⟩,kp=>⟨ds,a,o,items,k,e1,e2,kp a o h1 h2,h2,h3,r.imp λ_ _ q=>Ek.kept q kp⟩
theorem A2.inj{α β:Type}{R R':α->β->Prop}{l l':List α}{m:List β}(h:A2 R l m)(h':A2 R' l' m)(k:∀a a' b,R a b->R' a' b->a=a'):l=l':=by
 induction h generalizing l' with
 | nil=>cases h';rfl
 | cons h _ ih=>
  cases h' with
  | cons q r=>rw[k _ _ _ h q,ih r]
theorem Ek.inj :∀{n:Nat}{d d':D}{v:Value},Ek h n d v->Ek h n d' v->d=d'
 | 0,_,_,_,⟨i,t,e1,e2⟩,⟨j,u,e3,e4⟩=>by subst e1 e2 e3;cases e4;rfl
 | n+1,_,_,_,⟨ds,a,o,items,k,e1,e2,h1,h2,h3,r⟩,⟨ds',a',o',items',k',e1',e2',h1',h2',h3',r'⟩=>by
  subst e1 e2 e1';cases e2';obtain rfl:o=o':=xM (h1.symm.trans h1');rw[h3]at h3';injection h3' with q _
  subst q;rw[r.inj r' λ_ _ _ x y=>Ek.inj x y]
mutual
def hD:D->Int
 | .int i=>hashInt i
 | .tup l=>reduceHash (Builtin.Tuple.tupleHashOf (hL l))
 | _=>0
def hL:List D->List Int
 | []=>[]
 | d::r=>hD d::hL r
end
theorem zSb:∀(l m:List D),hL (l++m)=hL l++hL m
 | [],_=>rfl
 | d::l,m=>by simp[hL,zSb l m]
section
variable {prog:Program}{w:World}{s:Shared}
theorem Ek.typeIs{n:Nat}(h:Ek s.heap (n+1) d (.ref a)):s.TypeIs (.ref a) "tuple":=by obtain⟨ds,a',o,items,k,e1,e2,h1,h2,h3,r⟩:=h;cases e2;exact⟨o,h1,h2⟩
theorem zNv:∀(n:Nat) {d:D}{v:Value}{A:Around}{E:Value->Shared->Prop}{s:Shared}{Q:Int->Shared->Prop},Ek s.heap n d v->A.units+n<cLine->(∀tk,s.toks<=tk->Q (hD d) { s with toks:=tk })->wpAny (model prog w) A (pyHash v) Q E s
 | 0,_,_,A,E,s,Q,⟨i,t,e1,e2⟩,_,h=>by subst e1 e2;exact wpAny_pyHash_int (h _ (Nat.le_add_right _ _))
 | n+1,_,_,A,E,s,Q,hk,hu,h=>by
  have hk0:=hk;obtain⟨ds,a,o,items,k,rfl,rfl,ho,hc,hd,r⟩:=hk;have hT:=hk0.typeIs;unfold pyHash;first|unfold pyHashByItsType|skip
  first|refine xc (wpAny_cRoomFor_or (.inr (by nofun)) ?_)|skip
  refine xc (uO hT yg.lookup ?_);show wpAny _ _ (if(some (Value.builtin "tuple.__hash__") == some Value.none)=true then _ else _) Q E s;rw[xg (by rw[beq_builtin_none];exact vE)];refine xc (uO hT yg.lookup ?_);show wpAny _ _ (callSpecialIfBoundUnlessNone? (.ref a) "__hash__" _ >>= _) Q E s;refine xc (wpAny_callSpecialIfBoundUnlessNone?_slot hT yg (xK yg hT F.entry_tuple_hash ?_ (F.args_tuple_hash_1 _)));show wpAny _ _ (Builtin.Tuple.tupleItemsOf (.ref a) >>= _) _ _ s;refine xc (yh ho hd (xc ?_));rw[<- Array.forIn_toList];refine uw _ (λrest (b:Array Int) s'=>∃fst left tk,ds=fst++left/\s.toks<=tk/\A2 (Ek s.heap n) left rest/\b.toList=hL fst/\s'={ s with toks:=tk }) _ ?_ ?_ _ _ ⟨[],ds,s.toks,rfl,xk _,r,rfl,rfl⟩
  ·rintro x rest b s' ⟨fst,left,tk,rfl,ht,hl,hb,rfl⟩;cases hl with
   | @cons k' _ ks' _ h1 hl'=>
    refine xc (zNv n h1 (by show A.units+1+n<cLine;lia) λtk2 ht2=>?_);exact xh ⟨fst++[k'],ks',tk2,by simp,xm ht ht2,hl',by rw[zSb];simp[hb,hL],rfl⟩
  ·rintro b s' ⟨fst,left,tk,rfl,ht,hl,hb,rfl⟩;cases hl;rw[ug]at h;show wpAny _ _ (retInt (Builtin.Tuple.tupleHashOf b.toList)) _ _ _;rw[hb];refine wpAny_ret_mkInt ?_;show wpAny _ _ (if(decide (-(2:Int) ^ 63<=Builtin.Tuple.tupleHashOf (hL fst)) && decide (Builtin.Tuple.tupleHashOf (hL fst)<2 ^ 63))=true then _ else _) Q E _;have h':=h (tk+1) (Nat.le_succ_of_le ht);unfold hD reduceHash at h';by_cases hr:(decide (-(2:Int) ^ 63<=Builtin.Tuple.tupleHashOf (hL fst)) && decide (Builtin.Tuple.tupleHashOf (hL fst)<2 ^ 63))=true
   ·rw[xf hr];rw[xf hr]at h';exact xh h'
   ·rw[xg hr];rw[xg hr]at h';exact xc (vn (xh h'))
theorem zGf:∀(n f:Nat) {d:D}{v:Value}{A:Around}{E:Value->Shared->Prop}{s:Shared}{Q:Bool->Shared->Prop},Ek s.heap n d v->n<=f->Q false s->wpAny (model prog w) A (ofAClassStatement f v) Q E s
 | 0,f,_,_,A,E,s,Q,⟨i,t,e1,e2⟩,_,h=>by subst e1 e2;exact ur (show ofAClassStatement f (.int i t)=pure false by cases f <;> rfl) h
 | n+1,0,_,_,A,E,s,Q,hk,hf,h=>by nofun
 | n+1,f+1,_,_,A,E,s,Q,hk,hf,h=>by
  have hk0:=hk;obtain⟨ds,a,o,items,k,rfl,rfl,ho,hc,hd,r⟩:=hk;have hT:=hk0.typeIs;unfold ofAClassStatement;refine xc (wpAny_typeOf hT ?_);dsimp only;rw[xf (by decide)];refine xc (xh ?_);rw[xg (by decide)];refine xc (wpAny_seqItems ho hd (xc ?_));show wpAny _ _ (forIn items _ _) _ _ s;rw[<- Array.forIn_toList];refine uw _ (λrest r s'=>r.1=none/\s'=s/\∃l,A2 (Ek s.heap n) l rest) _ ?_ ?_ _ _ ⟨rfl,rfl,_,r⟩
  ·rintro v rest r s' ⟨hr,rfl,l,al⟩;cases al with
   | cons q al=>
    refine xc (zGf n f q (by nofun) ?_);rw[xg (by decide)];exact xh ⟨rfl,rfl,_,al⟩
  ·rintro⟨r1,r2⟩ s' ⟨hr,rfl,_⟩;simp only at hr;subst hr;exact xh h
theorem zK7:∀(n f:Nat) {d:D}{v:Value}{A:Around}{E:Value->Shared->Prop}{s:Shared}{Q:Bool->Shared->Prop},Ek s.heap n d v->n<=f->Q true s->wpAny (model prog w) A (hashByValue f v) Q E s
 | 0,f,_,_,A,E,s,Q,⟨i,t,e1,e2⟩,_,h=>by subst e1 e2;exact ur (show hashByValue f (.int i t)=pure true by cases f <;> rfl) h
 | n+1,0,_,_,A,E,s,Q,hk,hf,h=>by nofun
 | n+1,f+1,_,_,A,E,s,Q,hk,hf,h=>by
  have hk0:=hk;obtain⟨ds,a,o,items,k,rfl,rfl,ho,hc,hd,r⟩:=hk;have hT:=hk0.typeIs;unfold hashByValue;refine xc (uO hT yg.lookup ?_);dsimp only;refine xc (wpAny_seqItems ho hd (xc ?_));show wpAny _ _ (forIn items _ _) _ _ s;rw[<- Array.forIn_toList];refine uw _ (λrest r s'=>r.1=none/\s'=s/\∃l,A2 (Ek s.heap n) l rest) _ ?_ ?_ _ _ ⟨rfl,rfl,_,r⟩
  ·rintro v rest r s' ⟨hr,rfl,l,al⟩;cases al with
   | cons q al=>
    refine xc (zK7 n f q (by nofun) ?_);rw[xg (by decide)];exact xh ⟨rfl,rfl,_,al⟩
  ·rintro⟨r1,r2⟩ s' ⟨hr,rfl,_⟩;simp only at hr;subst hr;exact xh h
theorem zGe:∀(n f:Nat) {d:D}{v:Value}{A:Around}{E:Value->Shared->Prop}{s:Shared}{Q:Bool->Shared->Prop},Ek s.heap n d v->n<=f->Q true s->wpAny (model prog w) A (eqIsQuiet f v) Q E s
 | 0,f,_,_,A,E,s,Q,⟨i,t,e1,e2⟩,_,h=>by subst e1 e2;rw[eqIsQuiet_byValue _ (by rfl)];exact xh h
 | n+1,0,_,_,A,E,s,Q,hk,hf,h=>by nofun
 | n+1,f+1,_,_,A,E,s,Q,hk,hf,h=>by
  have hk0:=hk;obtain⟨ds,a,o,items,k,rfl,rfl,ho,hc,hd,r⟩:=hk;have hT:=hk0.typeIs;unfold eqIsQuiet;refine xc (uO hT F.slot_tuple_eq.lookup ?_);show wpAny _ _ (isInstance (.ref a) (.type "tuple") >>= _) _ _ s;refine xc (v7 hT isSubtype_tuple_tuple ?_);simp only[uy,xU,xJ];refine xc (wpAny_seqItems ho hd (xc ?_));show wpAny _ _ (forIn items _ _) _ _ s;rw[<- Array.forIn_toList];refine uw _ (λrest r s'=>r.1=none/\s'=s/\∃l,A2 (Ek s.heap n) l rest) _ ?_ ?_ _ _ ⟨rfl,rfl,_,r⟩
  ·rintro v rest r s' ⟨hr,rfl,l,al⟩;cases al with
   | cons q al=>
    refine xc (zGe n f q (by nofun) ?_);simp only[uy,xU,xJ];exact xh ⟨rfl,rfl,_,al⟩
  ·rintro⟨r1,r2⟩ s' ⟨hr,rfl,_⟩;simp only at hr;subst hr;exact xh h
open Classical in
theorem zIj:∀(n:Nat) {d d':D}{v v':Value}{A:Around}{E:Value->Shared->Prop}{s:Shared}{Q:Bool->Shared->Prop},Ek s.heap n d v->Ek s.heap n d' v'->A.units+n<cLine->Q (decide (d=d')) s->wpAny (model prog w) A (eqBool v v') Q E s
 | 0,_,_,_,_,A,E,s,Q,⟨i,t,e1,e2⟩,⟨j,u,e3,e4⟩,_,h=>by
  subst e1 e2 e3 e4;refine wpAny_eqBool_int ?_;have:(i == j)=decide (D.int i=D.int j):=by
   by_cases q:i=j
   ·subst q;simp
   ·rw[xy (λz=>q (by cases z;rfl))];simpa using q
  rw[this];exact h
 | n+1,_,_,_,_,A,E,s,Q,hx,hy,hu,h=>by
  have hx0:=hx;have hy0:=hy;obtain⟨ds,a,oa,xs,ka,rfl,rfl,hoa,hca,hda,ra⟩:=hx;obtain⟨es,b,ob,ys,kb,rfl,rfl,hob,hcb,hdb,rb⟩:=hy;unfold eqBool
  try with_reducible refine xP ?_
  show wpAny _ _ (if(Value.ref a == Value.ref b)=true then _ else _) Q E s;by_cases hab:(Value.ref a == Value.ref b)=true
  ·rw[xf hab];have e:a=b:=by have:=eq_of_beq hab;injection this
   subst e;have e2:=hx0.inj hy0;rw[xx e2]at h;exact xc (vn (xh h))
  ·rw[xg hab]
   suffices hc:wpAny (model prog w) A (call (.builtin "tuple.__eq__") [.ref a,.ref b]) (λv s'=>v=.bool (decide (D.tup ds=D.tup es))/\s'=s) E s from
    xc (wpAny_richCompare_same_room hx0.typeIs hy0.typeIs F.slot_tuple_eq (vm hc (λv s' q=>by
     obtain⟨rfl,rfl⟩:=q;exact⟨(λe=>nomatch e),uf h⟩) λ_ _ x=>x) (by nofun))
   refine xK F.slot_tuple_eq hx0.typeIs F.entry_tuple_eq ?_ (F.args_tuple_eq_2 _ _);have fin:∀c:Bool,c=decide (D.tup ds=D.tup es)->∃v,(PySem.Fin.done (.ret (.bool c)):PySem.Fin)=.done (.ret v)/\v=.bool (decide (D.tup ds=D.tup es))/\s=s:=λc hc=>⟨_,rfl,by rw[hc],rfl⟩
   show wpAny _ _ (isInstance (.ref b) (.type "tuple") >>= _) _ _ s;refine xc (v7 hy0.typeIs isSubtype_tuple_tuple ?_);simp only[uy,xU,xJ];refine xc (yh hoa hda (xc (yh hob hdb (xc ?_))));refine uw _ (λrest r s'=>r.1=none/\s'=s/\∃(x' y':List D) (xs' ys':List Value),rest=List.zip xs' ys'/\A2 (Ek s.heap n) x' xs'/\A2 (Ek s.heap n) y' ys'/\(x'=y' <-> ds=es)/\(xs'.length == ys'.length)=(xs.size == ys.size)) _ ?_ ?_ _ _ ⟨rfl,rfl,ds,es,xs.toList,ys.toList,rfl,ra,rb,Iff.rfl,by simp⟩
   ·rintro⟨u,v⟩ rest r s' ⟨hr,rfl,x',y',xs',ys',hz,hx',hy',hdec,hlen⟩;cases hx' with
    | nil=>simp at hz
    | @cons k1 u' x'' xs'' h1 hx''=>
     cases hy' with
     | nil=>simp at hz
     | @cons k2 v' y'' ys'' h2 hy''=>
      simp only[uo,List.cons.injEq,Prod.mk.injEq]at hz;obtain⟨⟨rfl,rfl⟩,rfl⟩:=hz;refine xc (zIj n h1 h2 (by show A.units+1+n<cLine;lia) ?_);by_cases hk:k1=k2
      ·subst hk;rw[xx rfl];simp only[uy,xU,xJ];refine xh ⟨rfl,rfl,x'',y'',xs'',ys'',rfl,hx'',hy'',?_,by simpa using hlen⟩;rw[<- hdec];simp
      ·rw[xy hk];simp only[Bool.not_false,xr];have hf:¬ ds=es:=λz=>hk (by have:=hdec.mpr z;cases this;rfl)
       exact xc (xh (xh (xh (fin false (by rw[xy];intro z;cases z;exact hf rfl)))))
   ·rintro⟨r1,r2⟩ s' ⟨hr,rfl,x',y',xs',ys',hz,hx',hy',hdec,hlen⟩;simp only at hr;subst hr;refine xh ?_;have hfin:(xs.size == ys.size)=decide (D.tup ds=D.tup es):=by
     have e3:decide (D.tup ds=D.tup es)=decide (x'=y'):=x4.mpr (by rw[D.tup.injEq];exact hdec.symm);rw[e3,<- hlen];cases hx' with
     | nil=>
      cases hy' with
      | nil=>simp
      | cons _ _=>simp
     | cons _ _=>
      cases hy' with
      | nil=>simp
      | cons _ _=>simp at hz
    exact fin _ hfin
end
end EK
namespace DS
open PySem (Str)
section
open Classical
mutual
def blt:D->D->Bool
 | .int a,.int b=>decide (a<b)
 | .tup l,.tup m=>bltL l m
 | _,_=>false
def bltL:List D->List D->Bool
 | [],[]=>false
 | [],_::_=>true
 | _::_,[]=>false
 | a::r,b::t=>if a=b then bltL r t else blt a b
end
def lv:Nat->D->Prop
 | 0,d=>∃i,d=.int i
 | n+1,d=>∃l,d=.tup l/\∀x∈l,lv n x
theorem zAx(a b:D)(r t:List D):bltL (a::r) (b::t)=if a=b then bltL r t else blt a b:=by rw[bltL]
theorem zKj:∀(l:List D),bltL l l=false
 | []=>by rw[bltL]
 | a::r=>by rw[zAx,xf rfl];exact zKj r
theorem zIz{n:Nat}(h:lv n d):blt d d=false:=by
 cases n with
 | zero=>obtain⟨i,rfl⟩:=h;rw[blt];simp
 | succ n=>obtain⟨l,rfl,_⟩:=h;rw[blt];exact zKj l
theorem zIy:∀(n:Nat) {a b:D},lv n a->lv n b->a≠b->blt a b=true\/blt b a=true
 | 0,_,_,⟨i,e⟩,⟨j,e'⟩,h=>by
  subst e e';rw[blt,blt];have:i≠j:=λz=>h (by rw[z])
  simp only[decide_eq_true_eq];lia
 | n+1,_,_,⟨l,e,hl⟩,⟨m,e',hm⟩,h=>by
  subst e e';rw[blt,blt];have hlm:l≠m:=λz=>h (by rw[z])
  clear h
  induction l generalizing m with
  | nil=>
   cases m with
   | nil=>exact absurd rfl hlm
   | cons b t=>left;rw[bltL]
  | cons a r ih=>
   cases m with
   | nil=>right;rw[bltL]
   | cons b t=>
    rw[zAx,zAx];by_cases q:a=b
    ·subst q;rw[xf rfl,xf rfl];exact ih (λx hx=>hl x (.tail _ hx)) t (λx hx=>hm x (.tail _ hx)) λz=>hlm (by rw[z])
    ·rw[xg q,xg (xG q)];exact zIy n (hl a (.head _)) (hm b (.head _)) q
theorem zKi:∀(n:Nat) {a b c:D},lv n a->lv n b->lv n c->blt a b=true->blt b c=true->blt a c=true
 | 0,_,_,_,⟨i,e⟩,⟨j,e'⟩,⟨k,e''⟩,h,h'=>by
  subst e e' e'';rw[blt]at h h' ⊢;simp only[decide_eq_true_eq]at *;lia
 | n+1,_,_,_,⟨l,e,hl⟩,⟨m,e',hm⟩,⟨k,e'',hk⟩,h,h'=>by
  subst e e' e'';rw[blt]at h h' ⊢;induction l generalizing m k with
  | nil=>
   cases k with
   | nil=>cases m with
    | nil=>exact h
    | cons b t=>rw[bltL]at h';cases h'
   | cons c u=>rw[bltL]
  | cons a r ih=>
   cases m with
   | nil=>rw[bltL]at h;cases h
   | cons b t=>
    cases k with
    | nil=>rw[bltL]at h';cases h'
    | cons c u=>
     rw[zAx]at h h' ⊢;by_cases q:a=b
     ·subst q;rw[xf rfl]at h;by_cases q2:a=c
      ·subst q2;rw[xf rfl]at h' ⊢;exact ih (λx hx=>hl x (.tail _ hx)) t (λx hx=>hm x (.tail _ hx)) u (λx hx=>hk x (.tail _ hx)) h h'
      ·rw[xg q2]at h' ⊢;exact h'
     ·rw[xg q]at h;by_cases q2:b=c
      ·subst q2;rw[xg q];exact h
      ·rw[xg q2]at h';have t1:=zKi n (hl a (.head _)) (hm b (.head _)) (hk c (.head _)) h h';rw[xg (λz=>by subst z;rw[zIz (hl _ (.head _))]at t1;cases t1)];exact t1
theorem zWc{n:Nat}(ha:lv n a)(hb:lv n b)(h:blt a b=true):blt b a=false:=by
 cases e:blt b a with
 | false=>rfl
 | true=>have:=zKi n ha hb ha h e;rw[zIz ha]at this;cases this
def dle(a b:D):Prop:=blt b a=false
theorem zSf{n:Nat}(ha:lv n a)(hb:lv n b)(hc:lv n c)(h:dle a b)(h':dle b c):dle a c:=by
 unfold dle at *;cases e:blt c a with
 | false=>rfl
 | true=>
  by_cases q:a=b
  ·subst q;rw[h']at e;cases e
  ·rcases zIy n ha hb q with z|z
   ·have:=zKi n hc ha hb e z;rw[h']at this;cases this
   ·rw[h]at z;cases z
theorem zR5{n:Nat}(ha:lv n a)(hb:lv n b)(h:dle a b)(h':dle b a):a=b:=by
 apply uP;intro q;rcases zIy n ha hb q with z|z
 ·rw[show blt a b=false from h']at z;cases z
 ·rw[show blt b a=false from h]at z;cases z
noncomputable def ins (x:D):List D->List D
 | []=>[x]
 | y::l=>if blt y x=true then y::ins x l else x::y::l
noncomputable def srt:List D->List D
 | []=>[]
 | x::l=>ins x (srt l)
theorem ins_perm(x:D):∀l,(ins x l).Perm (x::l)
 | []=>.refl _
 | y::l=>by
  unfold ins;split
  ·exact((ins_perm x l).cons y).trans (List.Perm.swap ..)
  ·exact .refl _
theorem zAy:∀l,(srt l).Perm l
 | []=>.refl _
 | x::l=>(ins_perm x _).trans ((zAy l).cons x)
abbrev Up(l:List D):Prop:=l.Pairwise dle
theorem ins_up{n:Nat}:∀{l:List D},lv n x->(∀y∈l,lv n y)->Up l->Up (ins x l)
 | [],_,_,_=>List.pairwise_singleton _ _
 | y::l,hx,hl,h=>by
  have h':=vR.mp h;unfold ins;split
  ·rename_i q;refine vR.mpr ⟨λz hz=>?_,ins_up hx (λz hz=>hl z (.tail _ hz)) h'.2⟩;rcases xo.mp ((ins_perm x l).mem_iff.mp hz)with rfl|hz
   ·exact zWc (hl y (.head _)) hx q
   ·exact h'.1 z hz
  ·rename_i q;refine vR.mpr ⟨λz hz=>?_,h⟩;rcases xo.mp hz with rfl|hz
   ·exact Bool.eq_false_iff.mpr q
   ·exact zSf hx (hl y (.head _)) (hl z (.tail _ hz)) (Bool.eq_false_iff.mpr q) (h'.1 z hz)
theorem zEd{n:Nat}:∀{l:List D},(∀y∈l,lv n y)->Up (srt l)
 | [],_=>.nil
 | x::l,h=>ins_up (h x (.head _)) (λy hy=>h y (.tail _ ((zAy l).mem_iff.mp hy))) (zEd λy hy=>h y (.tail _ hy))
theorem up_eq{n:Nat}:∀{l m:List D},(∀y∈l,lv n y)->l.Perm m->Up l->Up m->l=m
 | [],m,_,p,_,_=>by rw[List.nil_perm.mp p]
 | a::l,[],_,p,_,_=>by have:=p.length_eq;simp at this
 | a::l,b::m,hv,p,h,h'=>by
  have ha:=vR.mp h;have hb:=vR.mp h';have e:a=b:=by
   by_cases z:a=b
   ·exact z
   ·have m1:b∈l:=by
     rcases xo.mp (p.mem_iff.mpr (xS))with q|q
     ·exact absurd q.symm z
     ·exact q
    have m2:a∈m:=by
     rcases xo.mp (p.mem_iff.mp (xS))with q|q
     ·exact absurd q z
     ·exact q
    exact zR5 (hv a (.head _)) (hv b (.tail _ m1)) (ha.1 b m1) (hb.1 a m2)
  subst e;rw[up_eq (λy hy=>hv y (.tail _ hy)) (List.Perm.cons_inv p) ha.2 hb.2]
theorem zGs{n:Nat}{l:List D}(hv:∀y∈l,lv n y)(p:l.Perm m)(h:Up l):l=srt m:=up_eq hv (p.trans (zAy m).symm) h (zEd λy hy=>hv y (p.mem_iff.mpr hy))
noncomputable def rkD (l:List D) (d:D):Nat:=(l.filter λe=>blt e d).length
theorem zVa{p q:D->Bool}:∀(l:List D),(∀x∈l,p x=true->q x=true)->(l.filter p).length<=(l.filter q).length
 | [],_=>xk _
 | x::l,h=>by
  have ih:=zVa l λy hy=>h y (.tail _ hy)
  by_cases c:p x=true
  ·rw[uz c,uz (h x (.head _) c)];simpa using ih
  ·rw[yi c];by_cases c2:q x=true
   ·rw[uz c2,xD];lia
   ·rw[yi c2];exact ih
theorem zZf{p q:D->Bool}(hy:p y=false)(hy':q y=true):∀(l:List D),y∈l->(∀x∈l,p x=true->q x=true)->(l.filter p).length<(l.filter q).length
 | x::l,hm,h=>by
  rcases xo.mp hm with e|hm
  ·subst e;rw[yi (by rw[hy];decide),uz hy',xD];have:=zVa l λz hz=>h z (.tail _ hz)
   lia
  ·have ih:=zZf hy hy' l hm λz hz=>h z (.tail _ hz)
   by_cases c:p x=true
   ·rw[uz c,uz (h x (.head _) c)];simpa using ih
   ·rw[yi c];by_cases c2:q x=true
    ·rw[uz c2,xD];lia
    ·rw[yi c2];exact ih
theorem zTb{n:Nat}(hl:∀x∈l,lv n x)(ha:a∈l)(hb:b∈l):decide (rkD l a<rkD l b)=blt a b:=by
 cases e:blt a b with
 | true=>exact xx (zZf (p:=λe=>blt e a) (zIz (hl a ha)) e l ha λx hx q=>zKi n (hl x hx) (hl a ha) (hl b hb) q e)
 | false=>
  refine xy (Nat.not_lt.mpr (zVa l λx hx q=>?_));cases e2:blt x a with
  | true=>rfl
  | false=>exact absurd q (by rw[show blt x b=false from zSf (hl b hb) (hl a ha) (hl x hx) e e2];decide)
noncomputable def dedup:List D->List D
 | []=>[]
 | x::l=>if x∈l then dedup l else x::dedup l
theorem mem_dedup :∀{l:List D},x∈dedup l <-> x∈l
 | []=>Iff.rfl
 | y::l=>by
  unfold dedup;split
  ·rename_i h;rw[mem_dedup];constructor
   ·exact λq=>.tail _ q
   ·intro q;rcases xo.mp q with rfl|q
    ·exact h
    ·exact q
  ·rw[xo,xo,mem_dedup]
theorem zD6:∀{l:List D},(dedup l).Nodup
 | []=>.nil
 | y::l=>by
  unfold dedup;split
  ·exact zD6
  ·rename_i h;exact vo.mpr ⟨λq=>h (mem_dedup.mp q),zD6⟩
theorem zUg{l m:List D}(h:l.Nodup)(h':m.Nodup)(e:∀x,x∈l <-> x∈m):l.Perm m:=by
 induction l generalizing m with
 | nil=>
  cases m with
  | nil=>exact .refl _
  | cons b t=>exact absurd ((e b).mpr (.head _)) (by simp)
 | cons a l ih=>
  have ha:=(e a).mp (.head _);obtain⟨u,v,rfl⟩:=List.append_of_mem ha;have hn:=vo.mp h;have h2:=(u9.nodup_iff).mp h';have hm:=vo.mp h2;refine(List.Perm.cons a (ih hn.2 hm.2 λx=>?_)).trans u9.symm;constructor
  ·intro hx;have:=(e x).mp (.tail _ hx);rcases xo.mp ((u9).mem_iff.mp this)with rfl|q
   ·exact absurd hx hn.1
   ·exact q
  ·intro hx;have:=(e x).mpr ((u9).mem_iff.mpr (.tail _ hx));rcases xo.mp this with rfl|q
   ·exact absurd hx hm.1
   ·exact q
end
end DS
namespace EK
open PySem PyProof.Rows PySem.W
open DS (D blt bltL zAx)
open Classical
section
variable {prog:Program}{w:World}
theorem zFk{n:Nat}(ih:∀{d d':D}{v v':Value}{A:Around}{E:Value->Shared->Prop}{s:Shared}{Q:Value->Shared->Prop},Ek s.heap n d v->Ek s.heap n d' v'->A.units+n<cLine->Q (.bool (blt d d')) s->wpAny (model prog w) A (richCompare .Lt v v') Q E s)
  {d d':D}{a b:Addr}{A:Around}{E:Value->Shared->Prop}{s:Shared}{Q:Value->Shared->Prop}(hx:Ek s.heap (n+1) d (.ref a)) (hy:Ek s.heap (n+1) d' (.ref b)) (hu:A.units+(n+1)<cLine) (h:Q (.bool (blt d d')) s):wpAny (model prog w) A (call (.builtin "tuple.__lt__") [.ref a,.ref b]) Q E s:=by
 have hx0:=hx;have hy0:=hy;obtain⟨ds,a',oa,xs,ka,rfl,ea,hoa,hca,hda,ra⟩:=hx;cases ea;obtain⟨es,b',ob,ys,kb,rfl,eb,hob,hcb,hdb,rb⟩:=hy;cases eb;refine xK PySem.F.slot_tuple_lt hx0.typeIs PySem.F.entry_tuple_lt ?_ (PySem.F.args_tuple_lt_2 _ _);rw[blt]at h;show wpAny _ _ (isInstance (.ref b) (.type "tuple") >>= _) _ _ s;refine xc (v7 hy0.typeIs isSubtype_tuple_tuple ?_);simp only[uy,xU,xJ];refine xc (yh hoa hda (xc (yh hob hdb (xc ?_))));refine uw _ (λrest r s'=>r.1=none/\s'=s/\∃(x' y':List D) (xs' ys':List Value),rest=List.zip xs' ys'/\A2 (Ek s.heap n) x' xs'/\A2 (Ek s.heap n) y' ys'/\bltL x' y'=bltL ds es/\decide (xs'.length<ys'.length)=decide (xs.size<ys.size)) _ ?_ ?_ _ _ ⟨rfl,rfl,ds,es,xs.toList,ys.toList,rfl,ra,rb,rfl,by simp⟩
 ·rintro⟨u,v⟩ rest r s' ⟨hr,rfl,x',y',xs',ys',hz,hx',hy',hdec,hlen⟩;cases hx' with
  | nil=>simp at hz
  | @cons k1 u' x'' xs'' h1 hx''=>
   cases hy' with
   | nil=>simp at hz
   | @cons k2 v' y'' ys'' h2 hy''=>
    simp only[uo,List.cons.injEq,Prod.mk.injEq]at hz;obtain⟨⟨rfl,rfl⟩,rfl⟩:=hz;refine xc (zIj n h1 h2 (by show A.units+1+n<cLine;lia) ?_);rw[zAx]at hdec;by_cases hk:k1=k2
    ·subst hk;rw[xf rfl]at hdec;rw[xx rfl];simp only[uy,xU,xJ];exact xh ⟨rfl,rfl,x'',y'',xs'',ys'',rfl,hx'',hy'',hdec,by simpa using hlen⟩
    ·rw[xg hk]at hdec;rw[xy hk];simp only[Bool.not_false,xr];refine xc (vn (xc (ih h1 h2 (by show A.units+1+n<cLine;lia) ?_)));refine xc (xh (xh (xh ⟨_,rfl,?_⟩)));rw[hdec];exact h
 ·rintro⟨r1,r2⟩ s' ⟨hr,rfl,x',y',xs',ys',hz,hx',hy',hdec,hlen⟩;simp only at hr;subst hr;have hfin:bltL ds es=decide (xs.size<ys.size):=by
   rw[<- hdec,<- hlen];cases hx' with
   | nil=>
    cases hy' with
    | nil=>rw[bltL];rfl
    | cons _ _=>rw[bltL];simp
   | cons _ _=>
    cases hy' with
    | nil=>rw[bltL];simp
    | cons _ _=>simp at hz
  rw[hfin]at h;exact xh ⟨_,rfl,h⟩
theorem zR0:∀(n:Nat) {d d':D}{v v':Value}{A:Around}{E:Value->Shared->Prop}{s:Shared}{Q:Value->Shared->Prop},Ek s.heap n d v->Ek s.heap n d' v'->A.units+n<cLine->Q (.bool (blt d d')) s->wpAny (model prog w) A (richCompare .Lt v v') Q E s
 | 0,_,_,_,_,A,E,s,Q,⟨i,t,e1,e2⟩,⟨j,u,e3,e4⟩,_,h=>by
  subst e1 e2 e3 e4;rw[blt]at h;exact(lt_int h:wpAny (model prog w) A (compareOp .Lt (.int i t) (.int j u)) Q E s)
 | n+1,_,_,_,_,A,E,s,Q,hx,hy,hu,h=>by
  have hx0:=hx;have hy0:=hy;obtain⟨ds,a,oa,xs,ka,rfl,rfl,hoa,hca,hda,ra⟩:=hx;obtain⟨es,b,ob,ys,kb,rfl,rfl,hob,hcb,hdb,rb⟩:=hy;exact wpAny_richCompare_same_room hx0.typeIs hy0.typeIs PySem.F.slot_tuple_lt (zFk (λ{d d' v v' A E s Q}=>zR0 n) hx0 hy0 hu ⟨(λe=>nomatch e),h⟩) (by nofun)
theorem zMs(n:Nat){A:Around}{E:Value->Shared->Prop}{s:Shared}{Q:Bool->Shared->Prop}(hx:Ek s.heap n d v)(hy:Ek s.heap n d' v')(hu:A.units+n<cLine)(h:Q (blt d d') s)(b:Bool):wpAny (model prog w) A (oneLt' b v v') Q E s:=by
 rw[oneLt'_eq];cases b with
 | false=>
  simp only[xU,xJ];exact xc (zR0 n hx hy hu (uf h))
 | true=>
  simp only[xr];refine xc (wpAny_cRoomFor_or (.inr (by nofun)) ?_);cases n with
  | zero=>
   obtain⟨i,t,rfl,rfl⟩:=hx;obtain⟨j,u,rfl,rfl⟩:=hy;rw[blt]at h;exact xc (wpAny_callSpecialIfBound?_slot (typeIs_int s i t) slot_int_lt (call_int_lt (uf h)))
  | succ n=>
   have hx0:=hx;have hy0:=hy;obtain⟨ds,a,oa,xs,ka,rfl,rfl,hoa,hca,hda,ra⟩:=hx;obtain⟨es,b,ob,ys,kb,rfl,rfl,hob,hcb,hdb,rb⟩:=hy;exact xc (wpAny_callSpecialIfBound?_slot hx0.typeIs PySem.F.slot_tuple_lt (zFk (λ{d d' v v' A E s Q}=>zR0 n) hx0 hy0 hu (uf h)))
theorem zS6{n:Nat}{A:Around}{s:Shared}{Q:Bool->Shared->Prop}(hu:A.units+n<cLine):∀{ds es:List D}{xs ys:List Value}(i:Nat),A2 (Ek s.heap n) ds xs->A2 (Ek s.heap n) es ys->fin=decide (ds.length<es.length)->Q (bltL ds es) s->KatLex prog w A b fin Q (xs.zip ys) i s
 | _,_,_,_,i,.nil,.nil,hf,h=>by rw[bltL]at h;rw[hf];exact h
 | _,_,_,_,i,.nil,.cons _ _,hf,h=>by rw[bltL]at h;rw[List.zip_nil_left,hf];exact kat_nil (by simpa using h)
 | _,_,_,_,i,.cons _ _,.nil,hf,h=>by rw[bltL]at h;rw[List.zip_nil_right,hf];exact kat_nil (by simpa using h)
 | _,_,_,_,i,.cons (a:=d) h1 r1,.cons (a:=e) h2 r2,hf,h=>by
  rw[zAx]at h;rw[uo];refine kat_cons (zIj n h1 h2 hu ?_);by_cases q:d=e
  ·rw[xf q]at h;rw[xx q];exact kat_yes (zS6 hu (i+1) r1 r2 (by rw[hf];simp) h)
  ·rw[xg q]at h;rw[xy q];exact kat_no (zMs n h1 h2 hu h _)
inductive Kd:SortKind->Nat->Prop where
 | gen {n:Nat}:Kd general' n
 | one {n:Nat}:Kd oneType' n
 | tup {n:Nat}{b:Bool}:Kd (tuples' b) (n+1)
theorem zZ2{κ:SortKind}{n:Nat}(hκ:Kd κ n){A:Around}{E:Value->Shared->Prop}{s:Shared}{Q:Bool->Shared->Prop}(hx:Ek s.heap n d v)(hy:Ek s.heap n d' v')(hu:A.units+n<cLine)(h:Q (blt d d') s):wpAny (model prog w) A (keyLt' κ v v') Q E s:=by
 cases hκ with
 | gen=>exact(zMs n hx hy hu h false:wpAny (model prog w) A (oneLt' false v v') Q E s)
 | one=>rw[keyLt'_oneType];exact zMs n hx hy hu h true
 | @tup n b=>
  obtain⟨ds,a,oa,xs,ka,rfl,rfl,hoa,hca,hda,ra⟩:=hx;obtain⟨es,c,ob,ys,kb,rfl,rfl,hob,hcb,hdb,rb⟩:=hy;rw[blt]at h;exact kat_lt hoa hda hob hdb (zS6 (by nofun) 0 ra rb (by rw[ra.length,rb.length];simp) h)
end
open TM
open DS (lv srt rkD zTb zGs Up dle)
theorem Ek.lv :∀{n:Nat}{d:D}{v:Value},Ek h n d v->lv n d
 | 0,_,_,⟨i,t,e1,e2⟩=>⟨i,e1⟩
 | n+1,_,_,⟨ds,a,o,items,k,e1,e2,h1,h2,h3,r⟩=>⟨ds,e1,by
  clear e1 h3
  generalize items.toList=vs at r;induction r with
  | nil=>intro x hx;cases hx
  | cons q _ ih=>
   intro x hx;rcases xo.mp hx with rfl|hx
   ·exact Ek.lv q
   ·exact ih x hx⟩
section
variable {prog:Program}{w:World}{A:Around}{E:Value->Shared->Prop}{s:Shared}{n:Nat}{ds:List D}{vs:List Value}
noncomputable def ekTy:Nat->Value
 | 0=>.type "int"
 | _+1=>.type "tuple"
theorem zG2(h:Ek s.heap n d v):Looks M s.heap (typeOf v) (ekTy n):=by
 cases n with
 | zero=>obtain⟨i,t,rfl,rfl⟩:=h;exact .now
 | succ n=>
  obtain⟨ds,a,o,items,k,rfl,rfl,ho,hc,hd,r⟩:=h;have:Looks M s.heap (typeOf (.ref a)) o.cls:=(Looks.ld ho).andThen .now;rw[hc]at this;exact this
theorem A2.mem_r{α β:Type}{R:α->β->Prop}{l:List α}{m:List β}(h:A2 R l m):∀b∈m,∃a∈l,R a b:=by
 induction h with
 | nil=>intro b hb;cases hb
 | cons q _ ih=>
  intro b hb;rcases xo.mp hb with rfl|hb
  ·exact⟨_,.head _,q⟩
  ·obtain⟨a,ha,r⟩:=ih b hb;exact⟨a,.tail _ ha,r⟩
theorem A2.mem_l{α β:Type}{R:α->β->Prop}{l:List α}{m:List β}(h:A2 R l m):∀a∈l,∃b∈m,R a b:=by
 induction h with
 | nil=>intro b hb;cases hb
 | cons q _ ih=>
  intro b hb;rcases xo.mp hb with rfl|hb
  ·exact⟨_,.head _,q⟩
  ·obtain⟨a,ha,r⟩:=ih b hb;exact⟨a,.tail _ ha,r⟩
theorem zS2{vs:List Value}{Q:Option Value->Shared->Prop}(hT:∀v∈vs,Looks M s.heap (typeOf v) T)(h:∀r,Q r s):wpAny M A (oneTypeOnly' vs.toArray) Q E s:=by
 rw[oneTypeOnly'_eq,List.mapM_toArray,map_eq_pure_bind];refine xc (xc (kas_mapM _ (λv hv Q' hq=>(hT v hv).here hq) (xh ?_)));split
 ·exact xh (h _)
 ·exact xh (h _)
theorem firsts :∀{ds:List D}{vs:List Value}{Q:List (Option Value)->Shared->Prop},A2 (Ek s.heap n) ds vs->(∀fs:List (Option Value),fs.length=vs.length->(n=0->∀f∈fs,f=none)->(∀f∈fs,∀v,f=some v->∃m d,n=m+1/\Ek s.heap m d v)->Q fs s)->wpAny M A (vs.mapM firstOfTuple') Q E s
 | _,_,Q,.nil,h=>by rw[List.mapM_nil];exact xh (h [] rfl (λ_ f hf=>nomatch hf) λf hf=>nomatch hf)
 | _,_,Q,.cons (b:=v) (m:=vs) q r,h=>by
  rw[List.mapM_cons];refine xc ?_;have go:∀f:Option Value,(n=0->f=none)->(∀v,f=some v->∃m d,n=m+1/\Ek s.heap m d v)->wpAny M A (vs.mapM firstOfTuple' >>= λbs=>pure (f::bs)) Q E s:=λf h0 h1=>
   xc (firsts r λfs hl hz hs=>xh (h (f::fs) (by simp[hl]) (λz g hg=>by
    rcases xo.mp hg with rfl|hg
    ·exact h0 z
    ·exact hz z g hg) λg hg=>by
    rcases xo.mp hg with rfl|hg
    ·exact h1
    ·exact hs g hg))
  have lk:=zG2 (M:=M) q;rw[kas_first_eq];cases n with
  | zero=>
   obtain⟨i,t,rfl,rfl⟩:=q;refine xc (Looks.here (show Looks M s.heap (typeOf (.int i t)) (.type "int")from .now) ?_);rw[xf (by decide)];exact xh (go none (λ_=>rfl) λv e=>nomatch e)
  | succ n=>
   obtain⟨ds,a,o,items,k,rfl,rfl,ho,hc,hd,r'⟩:=q;refine xc (lk.here ?_);rw[show ekTy (n+1)=.type "tuple" from rfl,xg (by decide)];refine xc (listItems_at ho hd (xh (go _ (λz=>nomatch z) λv e=>?_)));obtain⟨d,hd',rr⟩:=r'.mem_r v (by obtain⟨z,e⟩:=vN.mp e;rw[<- e];simp);exact⟨n,d,rfl,rr⟩
theorem zUy{Q:SortKind->Shared->Prop}(h:A2 (Ek s.heap n) ds vs)(hne:vs≠[])(hQ:∀κ,Kd κ n->Q κ s):wpAny (model prog w) A (keyKind' vs.toArray) Q E s:=by
 rw[kat_kind_eq,List.mapM_toArray,map_eq_pure_bind];refine xc (xc (firsts h λfs hl hz hs=>xh ?_));by_cases q:(fs.toArray.all λx=>x.isSome)=true
 ·rw[xf q];have hn:∃m,n=m+1:=by
   cases n with
   | succ m=>exact⟨m,rfl⟩
   | zero=>
    exfalso
    match fs,hl with
    | [],hl=>exact hne (List.length_eq_zero_iff.mp hl.symm)
    | f::fs,hl=>
     have:=hz rfl f (.head _);subst this;simp at q
  obtain⟨m,rfl⟩:=hn;refine xc (vn ?_);have e:fs.toArray.filterMap id=(fs.filterMap id).toArray:=by simp
  rw[e];refine xc (zS2 (T:=ekTy m) (λv hv=>?_) λr=>xh (hQ _ .tup));obtain⟨f,hf,e2⟩:=uC.mp hv;obtain⟨m',d,e3,hk⟩:=hs f hf v e2;cases e3;exact zG2 hk
 ·rw[xg q];split
  ·exact xh (hQ _ .gen)
  ·refine xc (zS2 (T:=ekTy n) (λv hv=>?_) λr=>?_)
   ·obtain⟨d,_,hk⟩:=h.mem_r v hv;exact zG2 hk
   ·split
    ·exact xh (hQ _ .one)
    ·exact xh (hQ _ .gen)
noncomputable def kd (h:Heap) (n:Nat) (v:Value):D:=if z:∃d,Ek h n d v then choose z else .non
theorem zId(q:Ek h n d v):kd h n v=d:=by
 have z:∃d,Ek h n d v:=⟨d,q⟩
 unfold kd;rw[dif_pos z];exact(choose_spec z).inj q
theorem zZ3(r:A2 (Ek h n) ds vs):vs.map (kd h n)=ds:=by
 induction r with
 | nil=>rfl
 | cons q _ ih=>rw[xp,zId q,ih]
theorem yCg{vs:List Value}(al:∀v∈vs,∃d,Ek h n d v):A2 (Ek h n) (vs.map (kd h n)) vs:=by
 induction vs with
 | nil=>exact .nil
 | cons v vs ih=>
  obtain⟨d,q⟩:=al v (.head _);exact .cons (by rw[zId q];exact q) (ih λu hu=>al u (.tail _ hu))
theorem zJ7:∀(l:List Value),l.zip l=l.map λv=>(v,v)
 | []=>rfl
 | x::l=>by rw[uo,zJ7 l];rfl
theorem zPd{κ:SortKind}(hκ:Kd κ n)(hz:vs.length<=2 ^ 21)(h:A2 (Ek s.heap n) ds vs)(hu:A.units+n<cLine){Q:SortSt->Shared->Prop}
  (hQ:∀(st:SortSt) (vs':List Value),vs'.Perm vs->A2 (Ek s.heap n) (srt ds) vs'->failedOf st=none->(arrOf st).map (·.2)=vs'.toArray->Q st s):
  wpAny (model prog w) A ((sortRuns').run (SortSt.mk' κ (vs.toArray.zip vs.toArray) #[] 7 none)) (λr s'=>Q r.2 s') E s:=by
 have za:(vs.toArray.zip vs.toArray).toList=vs.map λv=>(v,v):=by rw[Array.toList_zip];exact zJ7 vs
 have mem:∀x∈vs.toArray.zip vs.toArray,∃v∈vs,x=(v,v):=λx hx=>by
  have:x∈vs.map λv=>(v,v):=by rw[<- za];exact Array.mem_toList_iff.mpr hx
  obtain⟨v,hv,e⟩:=xn.mp this;exact⟨v,hv,e.symm⟩
 have C:Cm prog w A s κ (λx=>rkD ds (kd s.heap n x.1)) (λx=>x∈vs.toArray.zip vs.toArray):=λx y hx hy Q E' q=>by
  obtain⟨v,hv,rfl⟩:=mem x hx;obtain⟨u,hu',rfl⟩:=mem y hy;obtain⟨d,hd,k1⟩:=h.mem_r v hv;obtain⟨e,he,k2⟩:=h.mem_r u hu';refine zZ2 hκ k1 k2 hu ?_;have hl:∀x∈ds,lv n x:=λx hx=>by obtain⟨b,_,r⟩:=h.mem_l x hx;exact r.lv
  have q2:Q (decide (rkD ds (kd s.heap n v)<rkD ds (kd s.heap n u))) s:=q;rw[zId k1,zId k2,zTb hl hd he]at q2;exact q2
 refine vm (w_sr (Q:=λ_ st=>∃vs':List Value,vs'.Perm vs/\A2 (Ek s.heap n) (srt ds) vs'/\failedOf st=none/\(arrOf st).map (·.2)=vs'.toArray) C (by simpa using hz) (λx hx=>hx) ⟨.refl _,rfl,rfl⟩ rfl λst' B so=>?_) (λr s' q=>?_) λ_ _ e=>e
 ·have pm:(arrOf st').toList.Perm (vs.map λv=>(v,v)):=by rw[<- za];exact Array.perm_iff_toList_perm.mp B.perm
  have p2:((arrOf st').toList.map (·.2)).Perm vs:=by
   have:=pm.map (·.2);rw[xC]at this
   rwa[show vs.map ((λx:Value × Value=>x.2) ∘ λv=>(v,v))=vs from List.map_id' vs]at this
  have al:∀v∈(arrOf st').toList.map (·.2),∃d,Ek s.heap n d v:=λv hv=>by
   obtain⟨d,_,q⟩:=h.mem_r v (p2.mem_iff.mp hv);exact⟨d,q⟩
  have a2:=yCg al;refine⟨_,p2,?_,B.failed,by apply yf.mp;rw[Array.toList_map]⟩;have pd:(((arrOf st').toList.map (·.2)).map (kd s.heap n)).Perm ds:=by
   have:=p2.map (kd s.heap n)
   rwa[zZ3 h]at this
  have up:Up (((arrOf st').toList.map (·.2)).map (kd s.heap n)):=by
   have hl:∀x∈ds,lv n x:=λx hx=>by obtain⟨b,_,r⟩:=h.mem_l x hx;exact r.lv
   have sz:=B.size;rw[<- sz]at so;have pw:=so.pw;rw[xC];refine vK.mpr (pw.imp_of_mem λ{x y} hx hy q=>?_);have ex:∀x∈(arrOf st').toList,x.1=x.2/\kd s.heap n x.2∈ds:=λx hx=>by
    obtain⟨v,hv,rfl⟩:=xn.mp (pm.mem_iff.mp hx);obtain⟨d,hd,k⟩:=h.mem_r v hv;exact⟨rfl,by show kd s.heap n v∈ds;rw[zId k];exact hd⟩
   obtain⟨e1,m1⟩:=ex x hx;obtain⟨e2,m2⟩:=ex y hy;dsimp only at q;rw[e1,e2]at q;show blt (kd s.heap n y.2) (kd s.heap n x.2)=false;rw[<- zTb hl m2 m1];exact xy (by nofun)
  rw[<- zGs (λy hy=>by obtain⟨b,_,r⟩:=a2.mem_l y hy;exact r.lv) pd up];exact a2
 ·obtain⟨rfl,vs',a,b,c,d⟩:=q;exact hQ _ vs' a b c d
theorem Ek.kept'{h h':Heap}{o₀:Obj}(ho:h.get? a=some o₀)(hc:o₀.cls≠.type "tuple")(k:∀b o,b≠a->h.get? b=some o->h'.get? b=some o)(x:Ek h n d v):Ek h' n d v:=
 x.kept λb o e ec=>k b o (λz=>by subst z;rw[ho]at e;cases e;exact hc ec) e
theorem zLz{P:PySem.Fin->Shared->Prop}(ho:s.heap.get? a=some (seqObj "list" vs.toArray c₀))(hk:A2 (Ek s.heap n) ds vs)(hz:vs.length<=2 ^ 21)(hu:A.units+n<cLine)
  (h:∀(vs':List Value) (c:Nat) (h':Heap),vs'.Perm vs->A2 (Ek h' n) (srt ds) vs'->(∀b o,b≠a->s.heap.get? b=some o->h'.get? b=some o)->h'.get? a=some (seqObj "list" vs'.toArray c)->P (.done (.ret .none)) { s with heap:=h' }):
  wpAny (model prog w) A (Builtin.«list.sort» ⟨[.ref a],[]⟩) P E s:=by
 have lz:vs.length<=sizeLine:=by rw[vF];lia
 rw[list_sort_plain];refine xc (listItems_at ho rfl (xc (listUpdate_at ho rfl ?_ (by simpa using lz) (xT _))));obtain⟨e1,ho1⟩:∃e1,(s.heap.update a (Obj.mapSeq λ_=>(#[]:Array Value))).get? a=some (seqObj "list" #[] e1):=⟨_,get?_update_seq ho λ_=>#[]⟩
 have k1:∀b o,b≠a->s.heap.get? b=some o->(s.heap.update a (Obj.mapSeq λ_=>(#[]:Array Value))).get? b=some o:=λb o hb e=>(u0 _ _ (xG hb)).trans e
 generalize s.heap.update a (Obj.mapSeq λ_=>(#[]:Array Value))=g1 at ho1 k1 ⊢;refine xc (seqEpoch_at ho1 rfl (xc (wpAny_newTuple (xc (wpAny_newList (xP ?_) (xT _))) (by simpa using lz))));have ho2:=xt (seqObj "list" #[] 0) (xt (seqObj "tuple" vs.toArray 0) ho1);have k2:∀b o,b≠a->s.heap.get? b=some o->((g1.push (seqObj "tuple" vs.toArray 0)).push (seqObj "list" #[] 0)).get? b=some o:=λb o hb e=>xt _ (xt _ (k1 b o hb e))
 show wpAny (model prog w) A _ P E { s with heap:=(g1.push (seqObj "tuple" vs.toArray 0)).push (seqObj "list" #[] 0) };generalize (g1.push (seqObj "tuple" vs.toArray 0)).push (seqObj "list" #[] 0)=g2 at ho2 k2 ⊢;dsimp only;have hk2:=hk.imp λ_ _ q=>q.kept' ho (show Value.type "list"≠Value.type "tuple" by decide) k2
 have fin:∀(st:SortSt) (vs':List Value),vs'.Perm vs->A2 (Ek g2 n) (srt ds) vs'->failedOf st=none->(arrOf st).map (·.2)=vs'.toArray->
   wpAny (model prog w) A (do
    let touched:=(<- seqEpoch a) != e1
    Builtin.List.listUpdate (.ref a) λ_=>(arrOf st).map (·.2)
    if let some e:=failedOf st then rule "list.sort.comparison-raised";throw e
    if touched then rule "list.sort.modified";raiseError "ValueError" "list modified during sort"
    ret .none) P E { s with heap:=g2 }:=λst vs' pm a2 hf ha=>by
  refine xc (seqEpoch_at ho2 rfl ?_);rw[ha];refine xc (listUpdate_at ho2 rfl ?_ (xT _) (by simp;rw[pm.length_eq];exact Nat.le_succ_of_le lz));rw[hf];simp only[bne_self_eq_false,xU,xJ];obtain⟨c,hc⟩:∃c,(g2.update a (Obj.mapSeq λ_=>vs'.toArray)).get? a=some (seqObj "list" vs'.toArray c):=⟨_,get?_update_seq ho2 λ_=>vs'.toArray⟩
  have k3:∀b o,b≠a->g2.get? b=some o->(g2.update a (Obj.mapSeq λ_=>vs'.toArray)).get? b=some o:=λb o hb e=>(u0 _ _ (xG hb)).trans e
  exact xh (h vs' c _ pm (a2.imp λ_ _ q=>q.kept' ho2 (show Value.type "list"≠Value.type "tuple" by decide) k3) (λb o hb e=>k3 b o hb (k2 b o hb e)) hc)
 by_cases c2:vs.toArray.size<2
 ·rw[xf c2,xf c2];refine xc (xh ?_);rw[StateT.run_pure];refine xc (xh ?_);refine fin (SortSt.mk' general' (vs.toArray.zip vs.toArray) #[] 7 none) vs (.refl _) ?_ rfl ?_
  ·have:srt ds=ds:=by
    have hl:ds.length<2:=by rw[hk.length];simpa using c2
    match ds,hl with
    | [],_=>rfl
    | [d],_=>rfl
   rw[this];exact hk2
  ·show((vs.toArray.zip vs.toArray)).map (·.2)=_;apply yf.mp;simp[List.map_snd_zip]
 ·rw[xg c2,xg c2];refine xc (zUy hk2 (λz=>by subst z;simp at c2) λκ hκ=>?_);refine xc (vm (zPd (Q:=λst s'=>s'={ s with heap:=g2 }/\∃vs',vs'.Perm vs/\A2 (Ek g2 n) (srt ds) vs'/\failedOf st=none/\(arrOf st).map (·.2)=vs'.toArray) hκ hz hk2 hu λst vs' a b c d=>⟨rfl,vs',a,b,c,d⟩) ?_ λ_ _ e=>e);rintro⟨⟨⟩,st⟩ s' ⟨rfl,vs',a1,a2,a3,a4⟩;exact fin st vs' a1 a2 a3 a4
theorem zEe{r:Value}{m:Nat}{G:List D->List Value->Prop}{Q:Value->Shared->Prop}(hu:A.units+2+n<cLine)
  (hcol:∀R:List Value->Shared->Prop,(∀(h':Heap) (tk:Nat) (ds:List D) (vs:List Value),m<=h'.objs.size->(∀b o,s.heap.get? b=some o->h'.get? b=some o)->A2 (Ek h' n) ds vs->vs.length<=2 ^ 21->G ds vs->R vs { s with heap:=h',toks:=tk })->wpAny (model prog w) A.in1 (collect r) R E s)
  (h:∀(ds:List D) (vs vs':List Value) (c tk:Nat) (h':Heap) (L:Addr),G ds vs->vs.length<=2 ^ 21->vs'.Perm vs->A2 (Ek h' n) (srt ds) vs'->m<=L->(∀b o,s.heap.get? b=some o->h'.get? b=some o)->h'.get? L=some (seqObj "list" vs'.toArray c)->Q (.ref L) { s with heap:=h',toks:=tk }):
  wpAny (model prog w) A (call (.builtin "sorted") [r]) Q E s:=by
 refine Calls.call_function_entry kind_sorted plain_sorted entry_sorted (args_sorted1 _) ?_
 unfold Builtin.«sorted»;refine xc (xh (xc (hcol _ λh' tk ds vs sz kp hk hz hg=>?_)));have lz:vs.length<=sizeLine:=by rw[vF];lia
 refine xc (wpAny_newList ?_ (by simpa using lz));have hoL:(h'.push (seqObj "list" vs.toArray 0)).get? h'.objs.size=some (seqObj "list" vs.toArray 0):=xv _ rfl;have k0:∀b o,h'.get? b=some o->(h'.push (seqObj "list" vs.toArray 0)).get? b=some o:=λb o e=>xt _ e
 refine xc (xP (xK slot_list_sort ⟨_,hoL,rfl⟩ entry_list_sort (zLz hoL (hk.imp λ_ _ q=>q.kept λb o e _=>k0 b o e) hz (by show A.units+1+1+n<cLine;lia) λvs' c h2 pm a2 k2 hD=>⟨_,rfl,?_⟩) (args_list_sort _)));exact xh ⟨_,rfl,h ds vs vs' c tk h2 _ hg hz pm a2 sz (λb o e=>k2 b o (xA (xq (kp b o e))) (k0 b o (kp b o e))) hD⟩
theorem zW6{o:Obj}{R:List Value->Shared->Prop}(ho:s.heap.get? l=some o)(hc:o.cls=.type T)(hT:T="list"\/T="tuple")(hd:o.data=.seq vs.toArray k)(hz:vs.length<=sizeLine)
  (h:∀h':Heap,s.heap.objs.size<=h'.objs.size->(∀b o,s.heap.get? b=some o->h'.get? b=some o)->R vs { s with heap:=h' }):wpAny (model prog w) A (collect (.ref l)) R E s:=by
 have kp:∀b o,s.heap.get? b=some o->((s.heap.push (seqObj "list" #[] 0)).update s.heap.objs.size (Obj.mapSeq (·++vs.toArray))).get? b=some o:=λb o e=>(u0 _ _ (xG (xA (xq e)))).trans (xt _ e)
 have hq:=h _ (by rw[Heap.size_update,size_push'];omega) kp;unfold collect;refine xc (wpAny_runValue (uS entry_proto_collect' (show wpAny _ _ (newList [] >>= λx=>again (.builtin "list.__iadd__" ⟨[x,.ref l],[]⟩)) _ _ s from xc (wpAny_newList (xh ⟨Code.quiet_builtin _ (by decide +kernel),uS entry_list_iadd' ?_⟩)))));have q1:∀x y:Value,Builtin.«list.__iadd__» ⟨[x,y],[]⟩=Builtin.List.listExtendWith x y x:=λx y=>rfl
 rw[q1];unfold Builtin.List.listExtendWith;have ho':(s.heap.push (seqObj "list" #[] 0)).get? l=some o:=xt _ ho;refine xc (wpAny_typeOf (T:=T) ⟨o,ho',hc⟩ ?_);rw[xf (by rcases hT with rfl|rfl <;> simp[show(Value.type "list" == Value.type "list")=true from rfl,show(Value.type "tuple" == Value.type "tuple")=true from rfl])];refine xc (listItems_at ho' hd (xc (listItems_at (xs:=#[]) (n:=0) (xv _ rfl) rfl ?_)));rw[xg (by simp)];refine xc (listUpdate_at (xs:=#[]) (n:=0) (xv _ rfl) rfl (xh ?_) (xT _) (by show(#[]++vs.toArray).size<=sizeLine+1;simp only[Array.size_append,xu,uH];omega));refine(show wpAny (model prog w) A (load s.heap.objs.size >>= λo=>match o.data with|.seq xs _=>pure xs.toList|_=>unsupported "internal:collect") R E _ from xc (wpAny_load (get?_update_seq (xv _ rfl) _) ?_));show wpAny _ _ (pure ((#[]:Array Value)++vs.toArray).toList) R E _;rw[show((#[]:Array Value)++vs.toArray).toList=vs by simp];exact xh hq
end
end EK
namespace TU
open PySem TB EK TS
open TS (sObj Tab.ft TabP.ft gate adr)
open DS (D)
open Classical
section
variable {prog:Program}{w:World}{A:Around}{E:Value->Shared->Prop}{s:Shared}{dp:Nat}
abbrev EA(h:Heap)(dp:Nat)(k:D)(a:Addr):Prop:=Ek h (dp+1) k (.ref a)
theorem unseen(hdp:dp+1<=8){Q:Bool->Shared->Prop}(hk:EA s.heap dp ks a)(hl:∀v∈l,∃b ls,v=.ref b/\EA s.heap dp ls b)(h:Q false s):
  wpAny (model prog w) A (searchCouldBeSeen (.ref a) l) Q E s:=by
 unfold searchCouldBeSeen;refine xc (uw _ (λrest r s'=>r.1=none/\s'=s/\∀v∈rest,∃b ls,v=.ref b/\EA s.heap dp ls b) _ ?_ ?_ _ _ ⟨rfl,rfl,hl⟩)
 ·rintro v rest r s' ⟨hr,rfl,al⟩;obtain⟨b,ls,rfl,hb⟩:=al v xS;have rest':∀v∈rest,∃b ls,v=.ref b/\EA s'.heap dp ls b:=λu hu=>al u (vf _ hu)
  dsimp only;split
  ·exact xh ⟨rfl,rfl,rest'⟩
  ·refine xc (zGe (dp+1) 8 hk hdp ?_);rw[xg (by decide)];refine xc (zGe (dp+1) 8 hb hdp ?_);rw[xg (by decide)];refine xc (zGf (dp+1) 8 hk hdp ?_);rw[xg (by decide)];refine xc (zGf (dp+1) 8 hb hdp ?_);rw[xg (by decide)];exact xh ⟨rfl,rfl,rest'⟩
 ·rintro⟨r1,r2⟩ s' ⟨hr,rfl,_⟩;simp only at hr;subst hr;exact xh h
noncomputable def kv (κ:Addr->D) (e:Int × Value):D:=κ (adr e.2)
def Els(dp:Nat)(κ:Addr->D)(h:Heap)(es:Array (Int × Value)):Prop:=∀e∈es.toList,∃b,e.2=.ref b/\EA h dp (κ b) b/\e.1=hD (κ b)
theorem search{κ:Addr->D}{x:Addr}{es:Array (Int × Value)}{Q:SetFound->Shared->Prop}(hdp:dp+1<=8)(hu:A.units+(dp+1)<cLine)(ho:s.heap.get? S=some (sObj es ep t))(T:Tab t es.size b)
  (hk:EA s.heap dp (κ x) x) (he:Els dp κ s.heap es) (h1:(∃e∈es.toList,kv κ e=κ x)->Q (.there none) s)
  (h2:∀M,t.slot (adv t M (t.probeStart (hD (κ x)))).j=.empty->(∀m',m'<M->∃i,∃hi:i<es.size,t.slot (adv t m' (t.probeStart (hD (κ x)))).j=.live i/\(es[i].1≠hD (κ x)\/kv κ es[i]≠κ x))->Q (.free (adv t M (t.probeStart (hD (κ x)))).j false) s):
  ∀(f m c:Nat) (st:Option SetTable.Probe),m<f->m<10*SetTable.turns t.mask->st.getD (t.probeStart (hD (κ x)))=adv t c (t.probeStart (hD (κ x)))->
   (∀m',m'<c->∃i,∃hi:i<es.size,t.slot (adv t m' (t.probeStart (hD (κ x)))).j=.live i/\(es[i].1≠hD (κ x)\/kv κ es[i]≠κ x))->
   Far t (adv t c (t.probeStart (hD (κ x)))) m->wpAny (model prog w) A (setSearchFrom S (.ref x) (hD (κ x)) true f st) Q E s:=by
 generalize ehx:hD (κ x)=hx at h2 ⊢;have lv:∀{j i:Nat},t.slot j=.live i->i<es.size:=λ{j i} hj=>by
  obtain⟨z,_⟩:=vN.mp (zIb T hj);rw[T.size]at z;exact z
 intro f;induction f with
 | zero=>intro m c st hm;lia
 | succ f ih=>
  intro m c st hm hm2 est seen fr;unfold setSearchFrom;refine xc (vY ho rfl (Tab.ft T) ?_);dsimp only;rw[T.way];rw[xg (by decide)];unfold SetTable.probe;rw[est];have more:∀d,(∀d',d'<d->∃i,t.slot (adv t d' (adv t c (t.probeStart hx))).j=.live i/\(((es[i]?.map (·.1)).getD 0 == hx)=false))->∀m',m'<c+d->∃i,∃hi:i<es.size,t.slot (adv t m' (t.probeStart hx)).j=.live i/\(es[i].1≠hx\/kv κ es[i]≠κ x):=λd hd m' hm'=>by
   rcases vz m' c with z|z
   ·exact seen m' z
   ·obtain⟨d',rfl⟩:∃d',m'=c+d':=⟨m' - c,by nofun⟩
    obtain⟨i,e1,e2⟩:=hd d' (by nofun);rw[<- zCb]at e1;have hi:=lv e1;refine⟨i,hi,e1,.inl λz=>?_⟩;rw[vt hi]at e2;have:(es[i].1 == hx)=false:=e2;rw[z]at this;simp at this
  rcases zFb T.nod _ m _ hm2 fr with⟨d,_,e,hj,hd⟩|⟨d,i,hlt,e,hj,hd,fr'⟩
  ·rw[e];dsimp only;rw[<- zCb]at hj ⊢;exact xh (h2 (c+d) hj (more d hd))
  ·rw[e];dsimp only;have hi:=lv hj;have ei:=vt hi;obtain⟨y,ey,hy,eyh⟩:=he es[i] (by simp);have e2:es[i]?=some (es[i].1,.ref y):=by rw[ei,<- ey]
   have ky:kv κ es[i]=κ y:=by unfold kv;rw[ey];rfl
   rw[e2];dsimp only;refine gate (λQ' hq=>unseen hdp hk (λv hv=>?_) hq) ?_
   ·obtain⟨e',he',rfl⟩:=xn.mp hv;obtain⟨b',q1,q2,_⟩:=he e' (by
     have:=Array.mem_filter.mp (Array.mem_toList_iff.mp he');exact Array.mem_toList_iff.mpr this.1)
    exact⟨b',_,q1,q2⟩
   refine xc (xP (zIj (dp+1) hy hk hu ?_));refine xc (vY ho rfl (Tab.ft T) ?_);dsimp only;by_cases cc:κ y=κ x
   ·rw[xx cc];exact xh (h1 ⟨es[i],by simp,ky.trans cc⟩)
   ·rw[xy cc];rw[xg (by decide)];have em:t.sameMemory t.moves t.mask=some true:=by unfold SetTable.sameMemory;simp
    rw[em];dsimp only;rw[xf rfl,hj];dsimp only;rw[e2];dsimp only;refine xc (wpAny_isSame_ref_self ?_);rw[xf rfl];refine xc (xh ?_);dsimp only;rw[xg (by decide)];refine ih (m-(d+1)) (c+(d+1)) _ (by nofun) (by nofun) (zCb t c (d+1) _).symm ?_ (by rw[zCb];exact fr');intro m' hm';rcases vz m' (c+d)with z|z
    ·exact more d hd m' z
    ·have:m'=c+d:=by nofun
     subst this;rw[<- zCb]at hj;exact⟨i,hi,hj,.inr (by rw[ky];exact cc)⟩
def IsS(dp:Nat)(κ:Addr->D)(h:Heap)(S:Addr)(es:Array (Int × Value))(b:Bool):Prop:=∃ep t,h.get? S=some (sObj es ep t)/\Tab t es.size b/\Els dp κ h es/\Chs t (es.toList.map (·.1))/\(es.toList.map (kv κ)).Nodup
theorem Els.keeps{κ:Addr->D}{h:Heap}{es es':Array (Int × Value)}{ep:Nat}(he:Els dp κ h es)(ho:h.get? S=some (sObj es' ep t))(hs:Heap.SameBut S h h'):Els dp κ h' es:=λe hm=>by
 obtain⟨b,e1,q,e2⟩:=he e hm;refine⟨b,e1,q.kept λc o ec et=>(hs.2 c λz=>?_).trans ec,e2⟩;subst z;rw[ho]at ec;cases ec;exact absurd (show Value.type "set"=Value.type "tuple" from et) (by decide)
theorem zNp{κ:Addr->D}{es:Array (Int × Value)}{t:SetTable}{M:Nat}(T:Tab t es.size b)(he:Els dp κ h es)(C:Chs t (es.toList.map (·.1)))(hM:t.slot (adv t M (t.probeStart (hD (κ x)))).j=.empty)
  (seen:∀m',m'<M->∃i,∃hi:i<es.size,t.slot (adv t m' (t.probeStart (hD (κ x)))).j=.live i/\(es[i].1≠hD (κ x)\/kv κ es[i]≠κ x)):κ x ∉ es.toList.map (kv κ):=by
 intro hm;obtain⟨e,hem,ek⟩:=xn.mp hm;obtain⟨i,hi,rfl⟩:=uk.mp hem;have hi':i<es.size:=by simpa using hi
 obtain⟨y,ey,_,eh⟩:=he _ hem;have ky:κ y=κ x:=by
  have:kv κ es.toList[i]=κ y:=by unfold kv;rw[ey];rfl
  rw[<- this,ek]
 rw[ky]at eh;have hp:i<t.place.size:=by rw[T.size];exact hi'
 obtain⟨m,em,al⟩:=C (t.place[i],es.toList[i].1) (uk.mpr ⟨i,by have:=Nat.lt_min.mpr ⟨hp,hi'⟩;simpa using this,by simp⟩);dsimp only at em al;rw[eh]at em al;rcases Nat.lt_trichotomy m M with z|z|z
 ·obtain⟨i',hi2,q1,q2⟩:=seen m z;rw[em]at q1;have q3:=zIb T q1;obtain⟨z3,e3⟩:=vN.mp q3;have:=zWv T.up (by simpa using z3) (by simpa using hp) (by simpa using e3);subst this;rcases q2 with q2|q2
  ·exact q2 (by simpa using eh)
  ·exact q2 (by simpa using ek)
 ·subst z;rw[em]at hM;exact(zH8 T _).mp hM (by simp)
 ·exact(zH8 T _).mp hM (al M z)
theorem zP2{κ:Addr->D}{es:Array (Int × Value)}{Q:Bool->Shared->Prop}(hdp:dp+1<=8)(hu:A.units+(dp+1)<cLine)(hS:IsS dp κ s.heap S es b)(hk:EA s.heap dp (κ x) x)(hn:es.size<1200)
  (h1:(∃e∈es.toList,kv κ e=κ x)->Q false s) (h2:∀h' es',Heap.SameBut S s.heap h'->IsS dp κ h' S es' b->es'.toList.Perm ((hD (κ x),.ref x)::es.toList)->Q true { s with heap:=h' }):
  ∀f,wpAny (model prog w) A (setAddHashedIn S (.ref x) (hD (κ x)) (f+1)) Q E s:=by
 intro f;obtain⟨ep,t,ho,T,he,C,nd⟩:=hS;unfold setAddHashedIn;refine xc (vY ho rfl (Tab.ft T) ?_);dsimp only;have eb:byScan (.ref x) es=false:=by unfold byScan;rfl
 rw[eb];rw[xg (by decide)];obtain⟨m,hm,fr⟩:=T.start (hD (κ x));refine xc (search hdp hu ho T hk he (λq=>?_) (λM hM seen=>?_) 100000 m 0 none (vL hm T.turns) hm rfl (λm' h=>by nofun) fr)
 ·exact xh (h1 q)
 ·have fk:=zNp T he C hM seen;have alM:∀m',m'<M->(adv t m' (t.probeStart (hD (κ x)))).j∈t.place.toList:=λm' h=>by
   obtain⟨i,_,q,_⟩:=seen m' h;exact zUp T q
  obtain⟨C1,ep2⟩:=zTh T (by simp) C hM rfl alM;have TP:=T.put hM;generalize (adv t M (t.probeStart (hD (κ x)))).j=j at TP C1 ep2 ⊢;dsimp only;refine xc (vY ho rfl (Tab.ft T) ?_);dsimp only;generalize ePT:t.put j=PT at TP C1 ep2;obtain⟨t1,p⟩:=PT;dsimp only at TP C1 ep2 ⊢;rw[TP.plain];rw[xf rfl];refine xc (zK7 (dp+1) 8 hk hdp ?_);rw[xf rfl];generalize ehx:hD (κ x)=hx at C1 h2 ⊢;have pm:=ins_perm es p (hx,Value.ref x);have sz:=zJy es p (hx,Value.ref x);have C2:Chs t1 ((SetTable.insertAt es p (hx,Value.ref x)).toList.map (·.1)):=by rw[zE6,vQ,xp,List.map_take,List.map_drop];exact C1
  generalize SetTable.insertAt es p (hx,Value.ref x)=es1 at pm sz C2 ⊢;have nd1:(es1.toList.map (kv κ)).Nodup:=by refine(pm.map (kv κ)).nodup_iff.mpr ?_;rw[xp];exact vo.mpr ⟨fk,nd⟩
  refine xc (wpAny_storeSet_of ho rfl ?_ (by rw[sz,vF];lia));have hg:=uj (Obj.putSet es1 t1) ho rfl;have sb:=vJ s.heap S (Obj.putSet es1 t1);have he1:Els dp κ (s.heap.update S (Obj.putSet es1 t1)) es1:=λe hm=>by
   rcases xo.mp (pm.mem_iff.mp hm)with rfl|hm
   ·exact Els.keeps (es:=#[(hx,Value.ref x)]) (λe hm=>by
     have:e=(hx,Value.ref x):=by simpa using hm
     subst this;exact⟨x,rfl,hk,ehx.symm⟩) ho sb _ (by simp)
   ·exact Els.keeps he ho sb e hm
  rw[<- sz]at TP;by_cases c:t1.tooFull=true
  ·rw[xf (by rw[c];rfl)];unfold setRelay;refine xc (xc (vY hg rfl (TabP.ft TP) ?_));dsimp only;obtain⟨hl,t2,order,er,T2,po,C3⟩:=zM8 TP c (by nofun) (es1.map (·.1)) (by simp);rw[<- sz];rw[xg (by simpa using hl)];rw[er];have pe:(order.filterMap (es1[·]?)).toList.Perm es1.toList:=by
    rw[Array.toList_filterMap];refine(po.filterMap _).trans ?_;have:=filterMap_getElem?_range es1;rw[this]
   have zz:(order.filterMap (es1[·]?)).size=es1.size:=by rw[<- vg,pe.length_eq,vg]
   have C4:Chs t2 ((order.filterMap (es1[·]?)).toList.map (·.1)):=by
    have e5:(order.filterMap (es1[·]?)).toList.map (·.1)=order.toList.map λk=>(es1.map (·.1)).toList.getD k 0:=by
     rw[Array.toList_filterMap];have al:∀k∈order.toList,k<es1.size:=λk hk=>vx.mp (po.mem_iff.mp hk)
     clear C3 po er pe zz
     generalize order.toList=l at al;induction l with
     | nil=>rfl
     | cons k l ih=>
      have hk:=al k (.head _);rw[uc,vt hk];simp only[xp];rw[ih λk hk=>al k (.tail _ hk)];congr 1;simp[hk]
    rw[e5];exact C3
   refine xc ?_;show wpAny _ _ (if((order.filterMap (es1[·]?)).size != es1.size)=true then _ else pure (order.filterMap (es1[·]?),t2)) _ _ _;rw[xg (by simp[zz])];refine xh ?_;dsimp only;generalize order.filterMap (es1[·]?)=es2 at pe zz C4 ⊢;refine wpAny_storeSet_of hg rfl ?_ (by rw[zz,sz,vF];lia);have hg2:=uj (Obj.putSet es2 t2) hg rfl;have sb2:=vJ (s.heap.update S (Obj.putSet es1 t1)) S (Obj.putSet es2 t2);refine xh (h2 _ es2 (sb.trans sb2) ⟨_,_,hg2,by rw[zz];exact T2,?_,C4,(pe.map (kv κ)).nodup_iff.mpr nd1⟩ (pe.trans pm));exact Els.keeps (λe hm=>he1 e (pe.mem_iff.mp hm)) hg sb2
  ·rw[xg (by simpa using c)];exact xh (h2 _ es1 sb ⟨_,_,hg,TP.tab (by simpa using c),he1,C2,nd1⟩ pm)
theorem add{κ:Addr->D}{es:Array (Int × Value)}{Q:Bool->Shared->Prop}(hdp:dp+1<=8)(hu:A.units+(dp+1)<cLine)(hS:IsS dp κ s.heap S es b)(hk:EA s.heap dp (κ x) x)(hn:es.size<1200)
  (h1:∀tk,s.toks<=tk->(∃e∈es.toList,kv κ e=κ x)->Q false { s with toks:=tk }) (h2:∀h' es' tk hx,s.toks<=tk->Heap.SameBut S s.heap h'->IsS dp κ h' S es' b->es'.toList.Perm ((hx,.ref x)::es.toList)->Q true { s with heap:=h',toks:=tk }):wpAny (model prog w) A (setAdd S (.ref x)) Q E s:=by
 unfold setAdd;refine xP (xc (zNv (dp+1) hk hu λtk htk=>?_));unfold setAddHashed;refine xP ?_;exact zP2 (s:={ s with toks:=tk }) hdp hu hS hk hn (λq=>h1 _ htk q) (λh' es' sb i p=>h2 h' es' _ _ htk sb i p) 99999
end
open TS (nObj zF3 zJg)
section
variable {prog:Program}{w:World}{A:Around}{R:Result->Shared->Prop}{I:Addr}{fp wr:List Addr}{G:Array GenState->Array GenState->Prop}{n:Nat}{P:Nat->Value->Prop}{St:Nat->Shared->Prop}{dp:Nat}
def Met(n:Nat)(P:Nat->Value->Prop)(es:Array (Int × Value)):Prop:=∀e∈es.toList,∃j,j<n/\P j e.2
theorem IsS.moved{κ:Addr->D}{h h':Heap}{S:Addr}{es:Array (Int × Value)}{b:Bool}{bad:List Addr}(i:IsS dp κ h S es b)(hS:S ∉ bad)(k:∀c o,c ∉ bad->h.get? c=some o->h'.get? c=some o)(hb:∀c∈bad,∀o,h.get? c=some o->o.cls≠.type "tuple"):IsS dp κ h' S es b:=by obtain⟨ep,t,ho,T,he,C,nd⟩:=i;refine⟨ep,t,k _ _ hS ho,T,λe hm=>?_,C,nd⟩;obtain⟨c,e1,q,e2⟩:=he e hm;exact⟨c,e1,q.kept λb o eb et=>k _ _ (λz=>hb b z o eb et) eb,e2⟩
def Cov(κ:Addr->D)(n:Nat)(P:Nat->Value->Prop)(es:Array (Int × Value)):Prop:=∀j v,j<n->P j v->∃e∈es.toList,kv κ e=κ (adr v)
theorem loop{κ:Addr->D}(W:WalksS prog w A.in1 I fp wr G n P St)(S:Addr)(hSf:S ∉ fp)(hdp:dp+1<=8)(hu:A.in1.units+(dp+1)<cLine)(h0:Heap)(hP:∀i v,P i v->∃a,v=.ref a/\EA h0 dp (κ a) a)(hbad:∀c∈S::wr,∀o,h0.get? c=some o->o.cls≠.type "tuple")(hPf:∀i v v',P i v->P i v'->v=v')(hn:n<=1199){led:Bool}
  (hwr:∀i s,St i s->∀c∈wr,∀o,s.heap.get? c=some o->o.cls≠.type "tuple"):
  ∀(k i:Nat) (s:Shared) (es:Array (Int × Value)),n-i=k->i<=n->St i s->IsS dp κ s.heap S es led->es.size<=i->Met n P es->Cov κ i P es->(∀c o,c ∉ S::wr->h0.get? c=some o->s.heap.get? c=some o)->
   (∀s' es',Moved (S::wr) G s s'->IsS dp κ s'.heap S es' led->es'.size<=n->Met n P es'->Cov κ n P es'->R (.ok (.ret .none)) s')->
   codeAny (model prog w) A (.builtin "set.update.loop" ⟨[.ref S,.ref I],[]⟩) R s:=by
 have hSw:S ∉ wr:=λh=>hSf (W.sub _ h)
 have sub:∀b∈wr,b∈S::wr:=λb hb=>.tail _ hb
 intro k;induction k with
 | zero=>
  intro i s es hk hi hst hS hz hM hC hkp hR;obtain rfl:i=n:=by nofun
  refine uS PyProof.Rows.F.entry_set_update_loop ?_;rw[Around.under_plainId yy _];show wpAny _ A.in1 (pyNext (.ref I) >>= _) _ _ s;refine xc (W.done s _ _ hst λs' hm=>?_);show wpAny _ A.in1 (ret Value.none) _ _ s';exact xh (hR s' es (hm.mono sub) (IsS.moved hS hSw hm.heap (hwr _ _ hst)) hz hM hC)
 | succ k ih=>
  intro i s es hk hi hst hS hz hM hC hkp hR;have hlt:i<n:=by nofun
  refine uS PyProof.Rows.F.entry_set_update_loop ?_;rw[Around.under_plainId yy _];show wpAny _ A.in1 (pyNext (.ref I) >>= _) _ _ s;refine xc (W.item i s _ _ hlt hst λv s' hp hst' hm=>?_);obtain⟨a,rfl,hq⟩:=hP i v hp;have hk':=hq.kept λb o eb et=>by
   have hb:b ∉ S::wr:=λz=>hbad b z o eb et
   exact hm.heap b o (λz=>hb (sub b z)) (hkp b o hb eb)
  have hS':=IsS.moved hS hSw hm.heap (hwr _ _ hst);show wpAny _ A.in1 (holding [Value.ref a] (setAdd S (.ref a)) >>= _) _ _ s';refine xc (xP (add hdp hu hS' hk' (by nofun) (λtk htk there=>?_) (λh' es' tk hx htk sb i' pm=>?_)))
  ·refine xh ⟨plainId_quiet yy _,ih (i+1) { s' with toks:=tk } es (by nofun) hlt (W.frame _ s' s'.heap tk hst' htk λ_ _ _ e=>e) hS' (by nofun) hM (λj v' hj hv'=>?_) (λc o hc e=>hm.heap c o (λz=>hc (sub c z)) (hkp c o hc e)) λs2 es2 m2 i2 z2 w2 c2=>?_⟩
   ·rcases vz j i with z|z
    ·exact hC j v' z hv'
    ·have:j=i:=by nofun
     subst this;rw[hPf _ _ _ hv' hp];exact there
   ·exact hR s2 es2 (Moved.trans W.gtrans ((hm.mono sub).then_heap htk λ_ _ _ e=>e) m2) i2 z2 w2 c2
  ·have hsz:es'.size=es.size+1:=by have:=pm.length_eq;simpa using this
   refine xh ⟨plainId_quiet yy _,ih (i+1) { s' with heap:=h',toks:=tk } es' (by nofun) hlt (W.frame _ s' h' tk hst' htk λc hc o e=>?_) i' (by nofun) (λe he=>?_) (λj v' hj hv'=>?_) (λc o hc e=>?_) λs2 es2 m2 i2 z2 w2 c2=>?_⟩
   ·rw[sb.2 c λz=>hSf (z ▸ hc)];exact e
   ·rcases xo.mp (pm.mem_iff.mp he)with rfl|he
    ·exact⟨i,hlt,hp⟩
    ·exact hM e he
   ·rcases vz j i with z|z
    ·obtain⟨e,he,ek⟩:=hC j v' z hv';exact⟨e,pm.mem_iff.mpr (vf _ he),ek⟩
    ·have:j=i:=by nofun
     subst this;rw[hPf _ _ _ hv' hp];exact⟨(hx,.ref a),pm.mem_iff.mpr xS,rfl⟩
   ·rw[sb.2 c λz=>hc (z ▸ xS)];exact hm.heap c o (λz=>hc (sub c z)) (hkp c o hc e)
   ·refine hR s2 es2 (Moved.trans W.gtrans ((hm.mono sub).then_heap htk λc o hc e=>?_) m2) i2 z2 w2 c2;rw[sb.2 c λz=>hc (z ▸ xS)];exact e
end
section
variable {prog:Program}{w:World}{A:Around}{E:Value->Shared->Prop}{s:Shared}{dp:Nat}
theorem zPf{κ:Addr->D}{items:Array Value}{Q:Value->Shared->Prop}(hh:A.handled=none)(hl:s.heap.IsList l items)(hdp:dp+1<=8)(hu:A.units+20<cLine)(hn:items.size<=1199)
  (hk:∀v∈items.toList,∃a,v=.ref a/\EA s.heap dp (κ a) a)
  (h:∀(h':Heap) (tk:Nat) (es:Array (Int × Value)),IsS dp κ h' s.heap.objs.size es (zF3 w)->es.size<=items.size->(∀e∈es.toList,e.2∈items.toList)->(∀v∈items.toList,∃e∈es.toList,kv κ e=κ (adr v))->
   (∀b o,b<s.heap.objs.size->s.heap.get? b=some o->h'.get? b=some o)->Q (.ref s.heap.objs.size) { s with heap:=h',toks:=tk }):
  wpAny (model prog w) A (call (.type "set") [.ref l]) Q E s:=by
 obtain⟨cc,tl,hmro⟩:=ub.mro;have hmade:=ub.made;have hsub:=ub.sub;refine wpAny_call (codeAny_of_tree (?_));refine xh ⟨Code.quiet_builtin _ (by decide +kernel),uS F.entry_type_call ?_⟩;rw[Around.under_plain (weight_type_call_type "set" [.ref l] []) rfl];have h1:=ub.notType;have h2:=ub.canCreate;have hct:=F.typeCall_set_1 (.ref l)
 repeat (any_goals (first|assumption|wp_step))
 refine codeAny_mono (zJg (.ref l) (E:=E) (Q₁:=λobj s₁=>obj=.ref s.heap.objs.size/\s₁={ s with heap:=s.heap.push (nObj w) }) ⟨rfl,rfl⟩) λr s₁ hr=>?_
 cases r with
 | error e=>exact hr
 | ok fl=>
  cases fl with
  | ret obj=>
   obtain⟨rfl,rfl⟩:=hr;have hS:(s.heap.push (nObj w)).get? s.heap.objs.size=some (nObj w):=xv _ rfl;have hT:Shared.TypeIs { s with heap:=s.heap.push (nObj w) } (.ref s.heap.objs.size) "set":=⟨_,hS,rfl⟩;have hli:=ub.init.lookup;have hbi:=ub.init.bind (.ref s.heap.objs.size)
   repeat (any_goals (first|assumption|wp_step))
   refine codeAny_mono (codeAny_call_builtin (R:=wants (λr s₂=>r=.none/\∃h' tk es,s₂={ s with heap:=h',toks:=tk }/\IsS dp κ h' s.heap.objs.size es (zF3 w)/\es.size<=items.size/\(∀e∈es.toList,e.2∈items.toList)/\(∀v∈items.toList,∃e∈es.toList,kv κ e=κ (adr v)) /\
     (∀b o,b<s.heap.objs.size->s.heap.get? b=some o->h'.get? b=some o)) E) ub.init.plain F.entry_set_init (check_set_init_1 hT ?_)) λr₂ s₂ hr₂=>?_
   ·have hlt:l<s.heap.objs.size:=by obtain⟨o,ho,_⟩:=hl;exact xq ho
    have hl1:(s.heap.push (nObj w)).IsList l items:=hl.push _;have hTl:Shared.TypeIs { s with heap:=s.heap.push (nObj w) } (.ref l) "list":=by obtain⟨o,ho,hc,_⟩:=hl1;exact⟨o,ho,hc⟩
    have q1:=F.sub_list_set;have q2:=F.sub_list_frozenset;have q3:(Value.type "list" == Value.type "dict")=false:=by decide
    unfold Builtin.«set.__init__» noKeywords Builtin.Frozenset.updateFrom;generalize hPI:pyIter=PI
    wp_walk
    subst hPI;refine uN hl1 (xc (wpAny_runValue ?_));have hs2:(s.heap.push (nObj w)).objs.size=s.heap.objs.size+1:=by rw[vM]
    have hneI:l≠(s.heap.push (nObj w)).objs.size:=by rw[hs2];exact xA (uL hlt)
    have hh3:A.in1.in1.in1.handled=none:=by simp[hh]
    have key:∀(i:Nat) (v:Value),items[i]?=some v->∃a,v=.ref a/\EA s.heap dp (κ a) a:=λi v hv=>hk v (by obtain⟨z,e⟩:=vN.mp hv;rw[<- e];simp)
    have bad:∀c∈s.heap.objs.size::[(s.heap.push (nObj w)).objs.size],∀o,s.heap.get? c=some o->o.cls≠.type "tuple":=λc hc o e=>by
     have:=xq e;rw[hs2]at hc;rcases xo.mp hc with rfl|hc
     ·exact absurd this (vk _)
     ·rw[xI.mp hc]at this;exact absurd this (Nat.not_lt.mpr (Nat.le_succ _))
    have kp:∀c o,s.heap.get? c=some o->((s.heap.push (nObj w)).push { cls:=.type "list_iterator",data:=.fields #[.ref l,.int 0 0] }).get? c=some o:=λc o e=>xt _ (xt _ e)
    refine loop (h0:=s.heap) ((Walks.list hh3 _ l hneI items).toS) s.heap.objs.size ?nA hdp (by show A.units+1+1+1+(dp+1)<cLine;lia) key bad (λi v v' q q'=>xM (q.symm.trans q')) hn ?nB (items.size-0) 0 _ #[] (by nofun) (xT _) ⟨⟨_,xv _ rfl,rfl,rfl⟩,hl1.push _⟩
     ⟨0,_,xt _ hS,zNo _,(λe he=>by cases he),(λq hq=>by cases hq),vH⟩ (xT _) (λe he=>by cases he) (λj v hj=>by nofun) (λc o _ e=>kp c o e) ?nD
    case nA=>
     rw[hs2];simp;exact Nat.ne_of_gt hlt
    case nB=>
     rintro i s' ⟨⟨o,ho,hc,_⟩,_⟩ c hcm o' ho';have:c=(s.heap.push (nObj w)).objs.size:=by simpa using hcm
     subst this;rw[ho]at ho';cases ho';rw[hc];decide
    case nD=>
     intro s' es' mv i' z' m' c';obtain⟨h',g',d',tk',os'⟩:=s';have eg:=mv.gens;have ed:=mv.drawn;have eo:=mv.os;subst eg ed eo;refine xh (xh ⟨rfl,h',tk',es',rfl,i',z',λe he=>?_,λv hv=>?_,λb o hb e=>?_⟩)
     ·obtain⟨j,hj,hp⟩:=m' e he;obtain⟨z,e2⟩:=vN.mp hp;rw[<- e2];simp
     ·obtain⟨j,hj,e2⟩:=uk.mp hv;exact c' j v (by simpa using hj) (by rw[<- e2];simp)
     ·refine mv.heap b o ?_ (kp b o e);rw[hs2];simp only[xo,yj,or_false,not_or];exact⟨xA hb,xA (uL hb)⟩
   ·cases r₂ with
    | error e=>exact hr₂
    | ok fl₂=>
     cases fl₂ with
     | ret r=>
      obtain⟨rfl,h',tk,es,rfl,i1,i2,i3,i4,i5⟩:=hr₂
      repeat (any_goals (first|assumption|wp_step))
      exact h _ _ _ i1 i2 i3 i4 i5
     | _=>exact hr₂.elim
  | _=>exact hr.elim
end
end TU
namespace DS
open PySem (Str)
section
open Classical
def sortable(l:List D):Prop:=l.length<=2 ^ 21/\∃n,n<=6/\∀x∈l,lv n x
noncomputable def zBb (S:Store):List D->Option D
 | [d]=>match items S d with
  | some l=>if sortable l then some (.lst (srt l))else none
  | none=>none
 | _=>none
def setable(l:List D):Prop:=l.length<=1199/\∃n,n+1<=6/\∀x∈l,lv (n+1) x
noncomputable def ltN (S:Store) (x y:D):Option D:=match x,y with
 | .int a,.int b=>some (.bl (decide (a<b)))
 | .str a,.str b=>some (.bl (decide (a.cps.toList<b.cps.toList)))
 | .tup l,.tup m=>if ∃n,n+1<=6/\lv (n+1) (.tup l)/\lv (n+1) (.tup m)then some (.bl (blt (.tup l) (.tup m)))else none
 | _,_=>none
end
end DS
namespace L2
open PySem PySem.Spec PyProof.Rows EK
open DS (D Store Exn Rs SR lv srt)
section
variable {X:Cx}{K:PySem.W.Frag}{E:XE}{J:Js}{S:Store}{H:Hp}{d d1 d2:D}{v:V}{pins:List (Addr × Obj)}{σ:St}{s:Shared}
theorem zIi(I:Inv X pins σ H s):∀(n:Nat) {d:D}{v:V}{u:Value},lv n d->Rep K J H d v->RelV v u->Ek s.heap n d u
 | 0,_,v,u,⟨i,e⟩,r,q=>by
  subst e;obtain rfl:v=.int i:=r;obtain⟨t,rfl⟩:=q;exact⟨i,t,rfl,rfl⟩
 | n+1,_,v,u,⟨l,e,hl⟩,r,q=>by
  subst e;obtain⟨a,xs,rfl,t,rl⟩:=r;cases q;obtain⟨_,its,rv,o,ho,hc,k,hd⟩:=(I.hok _ _ t.1);refine⟨l,a,o,_,k,rfl,rfl,ho,hc,hd,?_⟩;have go:∀(l:List D) (xs:List V) (its:List Value),(∀x∈l,lv n x)->RepL K J H l xs->Vals xs its->A2 (Ek s.heap n) l its:=by
   intro l;induction l with
   | nil=>intro xs its _ rl rv;obtain rfl:xs=[]:=rl;cases rv;exact .nil
   | cons d l ih=>
    intro xs its hl rl rv;obtain⟨x,r,rfl,h,rl⟩:=rl;cases rv with
    | cons q rv=>exact .cons (zIi I n (hl d (.head _)) h q) (ih _ _ (λy hy=>hl y (.tail _ hy)) rl rv)
  simpa using go l xs its hl rl rv
theorem zD5(I:Inv X pins σ H s){n:Nat}:∀{l:List D}{xs:List V}{us:List Value},(∀x∈l,lv n x)->RepL K J H l xs->Vals xs us->A2 (Ek s.heap n) l us
 | [],xs,us,_,rl,rv=>by obtain rfl:xs=[]:=rl;cases rv;exact .nil
 | d::l,_,_,hl,⟨x,r,e,h,rl⟩,rv=>by
  subst e;cases rv with
  | cons q rv=>exact .cons (zIi I n (hl d (.head _)) h q) (zD5 I (λy hy=>hl y (.tail _ hy)) rl rv)
theorem zM7(rl:RepL K J H l xs)(rv:Vals xs us):∀u∈us,∃d x,d∈l/\Rep K J H d x/\RelV x u:=by
 induction l generalizing xs us with
 | nil=>obtain rfl:xs=[]:=rl;cases rv;intro u hu;cases hu
 | cons d l ih=>
  obtain⟨x,r,rfl,h,rl⟩:=rl;cases rv with
  | cons q rv=>
   intro u hu;rcases xo.mp hu with rfl|hu
   ·exact⟨d,x,.head _,h,q⟩
   ·obtain⟨d',x',m,r1,r2⟩:=ih rl rv u hu;exact⟨d',x',.tail _ m,r1,r2⟩
theorem back{h h':Heap}(hk:A2 (Ek h n) l us)(kp:∀b o,h.get? b=some o->h'.get? b=some o)(rl:RepL K J H l xs)(rv:Vals xs us)
  (hl:∀x∈l,lv n x) (ek:∀d x u,d∈l->Rep K J H d x->RelV x u->Ek h n d u):∀{m:List D}{vs:List Value},A2 (Ek h' n) m vs->(∀u∈vs,u∈us)->∃ys,RepL K J H m ys/\Vals ys vs
 | [],_,.nil,_=>⟨[],rfl,.nil⟩
 | d::m,_,.cons (b:=u) q r,hm=>by
  obtain⟨ys,r1,r2⟩:=back hk kp rl rv hl ek r λu hu=>hm u (.tail _ hu)
  obtain⟨d',x,mem,rx,rq⟩:=zM7 rl rv u (hm u (.head _));have e:=((ek d' x u mem rx rq).kept λb o e _=>kp b o e).inj q;subst e;exact⟨x::ys,⟨x,ys,rfl,rx,r1⟩,.cons rq r2⟩
theorem zGj(hu:X.A.units+64<cLine)(hK:X.K=K:=by rfl):zB9 X (.builtin "sorted") (cOfF K DS.zBb):=by
 subst hK;intro pins s σ H xs us Q I r hq31;obtain⟨J,S,ds,d,ha,rl,e,k⟩:=hq31;unfold DS.zBb at e;split at e
 ·rename_i d0;obtain⟨x,rfl,rx⟩:=zCn (ds:=[]) rl;cases e1:DS.items S d0 with
  | none=>rw[e1]at e;cases e
  | some l=>
   rw[e1]at e;dsimp only at e;split at e
   ·rename_i hs;cases e;obtain⟨hz,n,hn,hl⟩:=hs;obtain⟨a,ys,rfl,hq,q⟩:=zE5 ha rx e1;obtain⟨u,rfl,ru⟩:=vals1 r;cases ru;have src:∃(o:Obj) (its:List Value) (c:Nat) (T:String),s.heap.get? a=some o/\o.cls=.type T/\(T="list"\/T="tuple")/\o.data=.seq its.toArray c/\Vals ys its/\its.length<=sizeLine:=by
     rcases hq with hq|hq
     ·obtain⟨its,rv',pl,hz'⟩:=I.list hq;obtain⟨o,ho,hc,c,hd⟩:=pl.isList;exact⟨o,its,c,"list",ho,hc,.inl rfl,hd,rv',by rw[<- Vals.length rv'];exact hz'⟩
     ·obtain⟨its,rv',pl,hz'⟩:=I.tuple hq;obtain⟨o,ho,hc,c,hd⟩:=pl;exact⟨o,its,c,"tuple",ho,hc,.inr rfl,hd,rv',by rw[<- Vals.length rv'];exact hz'⟩
    obtain⟨o,its,c,T,ho,hc,hT,hd,rv',hz'⟩:=src;have hk:=zD5 I hl q rv';refine EK.zEe (G:=λds vs=>ds=l/\vs=its) (by nofun) (λR hR=>zW6 ho hc hT hd hz' λh' sz kp=>hR h' s.toks l its sz kp (hk.imp λ_ _ z=>z.kept λb o e _=>kp b o e) (by rw[<- hk.length];exact hz) ⟨rfl,rfl⟩) λds vs vs' c tk h' L hg hz2 pm a2 hL kp hD=>?_
    obtain⟨rfl,rfl⟩:=hg;obtain⟨zs,r1,r2⟩:=back hk kp q rv' hl (λd x u m rx ru=>zIi I n (hl d m) rx ru) a2 λu hu=>pm.mem_iff.mp hu
    have len:zs.length<=sizeLine:=by rw[Vals.length r2,pm.length_eq];exact hz'
    exact⟨.ref L,_,I.laid kp hL (show ObjOk X.prog X.w _ h' _ (.lst zs)from⟨len,_,c,r2,hD⟩),rfl,k L _ H ha .refl (I.hok.fresh hL) ⟨zs,rfl,r1⟩⟩
   ·cases e
 ·cases e
end
open TU
open TS (sObj zF3 adr ordW zD0 zBy zI0 Tab.ft)
open DS (dedup)
section
variable {X:Cx}{K:PySem.W.Frag}{E:XE}{J:Js}{S:Store}{H:Hp}{d d1 d2:D}{v:V}{pins:List (Addr × Obj)}{σ:St}{s:Shared}
structure SGood (K:PySem.W.Frag) (J:Js) (H:Hp) (κ:Addr->D) (es:Array (Int × Value)) (l:List D):Prop where
 mem:∀d,d∈es.toList.map (kv κ) <-> d∈l
 rep:∀e∈es.toList,∃x,Rep K J H (kv κ e) x/\RelV x e.2
theorem zW5{prog:Program}{A:Around}{EE:Value->Shared->Prop}{κ:Addr->D}{es:Array (Int × Value)}{R:List Value->Shared->Prop}(hh:A.handled=none)(hS:IsS dp κ s.heap T es (zF3 w))(hz:es.size<=sizeLine)
  (h:∀(h':Heap) (tk:Nat) (vs:List Value),(∀b o,s.heap.get? b=some o->h'.get? b=some o)->vs.Perm (es.toList.map (·.2))->A2 (Ek h' (dp+1)) (vs.map λv=>κ (adr v)) vs->R vs { s with heap:=h',toks:=tk }):wpAny (model prog w) A (collect (.ref T)) R EE s:=by
 obtain⟨ep,t,ho,Tb,he,_,nd⟩:=hS;refine PySem.W.kdu_collect (zI0 Tb) hh ho hz λh' tk acc kp it=>?_
 have ea:acc.toList=((ordW w T ep es).map (·.2)).toList:=by
  refine List.ext_getElem? λi=>?_
  rcases vz i acc.size with z|z
  ·have e1:=it.2 i acc[i] (vt z);rw[uU,vt z,uU,e1]
  ·rw[vS (by simpa using z),vS (by simp[zBy];rw[<- it.1];exact z)]
 have pm:acc.toList.Perm (es.toList.map (·.2)):=by rw[ea,Array.toList_map];exact(zD0 w T ep es).map _
 refine h h' tk acc.toList kp pm ?_;have al:∀v∈acc.toList,∃b,v=.ref b/\EA s.heap dp (κ b) b:=λv hv=>by
  obtain⟨e,hm,rfl⟩:=xn.mp (pm.mem_iff.mp hv);obtain⟨b,e1,q,_⟩:=he e hm;exact⟨b,e1,q⟩
 generalize acc.toList=vs at al
 clear pm ea
 induction vs with
 | nil=>exact .nil
 | cons v vs ih=>
  obtain⟨b,rfl,q⟩:=al v (.head _);exact .cons (Ek.kept q λb o e _=>kp b o e) (ih λu hu=>al u (.tail _ hu))
theorem zSz{A:Around}{EE:Value->Shared->Prop}{dp:Nat}{κ:Addr->D}{es:Array (Int × Value)}{l:List D}{Q:VK}(I:Inv X pins σ H s1)(hh:A.handled=none)(hu:A.units+20<cLine)(hS:IsS dp κ s.heap T es (zF3 X.w))(hdp:dp+1<=6)
  (k1:∀b o,s1.heap.get? b=some o->s.heap.get? b=some o) (e1:s={ s1 with heap:=s.heap,toks:=s.toks }) (hT:s1.heap.objs.size<=T) (hz:es.size<=2 ^ 21) (g:SGood K J H κ es l) (hl:∀x∈l,lv (dp+1) x)
  (h:∀(L:Addr) (zs:List V),H L=none->RepL K J H (srt (dedup l)) zs->Q (.ref L) (upd H L (.lst zs))):wpAny (model X.prog X.w) A (call (.builtin "sorted") [.ref T]) (EP X pins σ Q) EE s:=by
 have nd:=hS;obtain⟨_,_,hoT,_,he,_,nd⟩:=nd;refine EK.zEe (G:=λds vs=>vs.Perm (es.toList.map (·.2))/\ds=vs.map λv=>κ (adr v)) (by nofun) (λR hR=>zW5 hh hS (by rw[vF];lia) λh' tk vs kp pm a2=>hR h' tk _ vs (xq (kp T _ hoT)) kp a2 (by rw[pm.length_eq];simpa using hz) ⟨pm,rfl⟩) λds vs vs' c tk h' L hg hz2 pm a2 hL kp hD=>?_
 obtain⟨pv,rfl⟩:=hg;have pd:(vs.map λv=>κ (adr v)).Perm (dedup l):=by
  have p1:(vs.map λv=>κ (adr v)).Perm (es.toList.map (kv κ)):=by
   have:=pv.map λv=>κ (adr v)
   rw[xC]at this;exact this
  refine p1.trans (DS.zUg nd DS.zD6 λx=>?_);rw[g.mem,DS.mem_dedup]
 have es1:srt (vs.map λv=>κ (adr v))=srt (dedup l):=by
  have lv1:∀y∈vs.map (λv=>κ (adr v)),lv (dp+1) y:=λy hy=>hl y (DS.mem_dedup.mp (pd.mem_iff.mp hy))
  exact DS.zGs (λy hy=>lv1 y ((DS.zAy _).mem_iff.mp hy)) ((DS.zAy _).trans pd) (DS.zEd lv1)
 rw[es1]at a2;have src:∀u∈vs',∃d x,Rep K J H d x/\RelV x u/\Ek h' (dp+1) d u:=λu hm=>by
  obtain⟨e,he',rfl⟩:=xn.mp (pv.mem_iff.mp (pm.mem_iff.mp hm));obtain⟨x,rx,rq⟩:=g.rep e he';obtain⟨b,eb,q,_⟩:=he e he';refine⟨kv κ e,x,rx,rq,?_⟩;unfold kv;rw[eb];exact q.kept λb o e _=>kp b o e
 have bk:∀{m:List D}{vs:List Value},A2 (Ek h' (dp+1)) m vs->(∀u∈vs,u∈vs')->∃ys,RepL K J H m ys/\Vals ys vs:=by
  intro m vs a2;induction a2 with
  | nil=>exact λ_=>⟨[],rfl,.nil⟩
  | @cons d u m vs q _ ih=>
   intro hm;obtain⟨ys,r1,r2⟩:=ih λu hu=>hm u (.tail _ hu)
   obtain⟨d',x,rx,rq,q'⟩:=src u (hm u (.head _));have e:=q'.inj q;subst e;exact⟨x::ys,⟨x,ys,rfl,rx,r1⟩,.cons rq r2⟩
 obtain⟨zs,r1,r2⟩:=bk a2 λu hu=>hu
 have len:zs.length<=sizeLine:=by rw[Vals.length r2,pm.length_eq,pv.length_eq,vF];simp;lia
 have hL':=xm hT (Nat.le_of_succ_le hL);have I':=I.laid (t':=tk) (λb o e=>kp b o (k1 b o e)) hL' (show ObjOk X.prog X.w _ h' _ (.lst zs)from⟨len,_,c,r2,hD⟩);rw[e1];exact⟨.ref L,_,I',rfl,h L zs (I.hok.fresh hL') r1⟩
theorem zU9(hu:X.A.units+64<cLine):OpR X (compareOp .Lt) (r2Of K DS.ltN):=by
 intro pins s σ H x y a b Q I rx ry hq32;obtain⟨J,S,d1,d2,d,ha,r1,r2,e,k⟩:=hq32;unfold DS.ltN at e;split at e
 ·cases e;obtain rfl:=r1;obtain rfl:=r2;exact yBb pins s σ H _ _ a b Q I rx ry ⟨_,_,rfl,rfl,k _ H ha .refl rfl⟩
 ·cases e;obtain rfl:=r1;obtain rfl:=r2;exact zMr pins s σ H _ _ a b Q I rx ry ⟨_,_,rfl,rfl,k _ H ha .refl rfl⟩
 ·split at e
  ·rename_i hs;cases e;obtain⟨n,hn,h1,h2⟩:=hs;have q1:=zIi I (n+1) h1 r1 rx;have q2:=zIi I (n+1) h2 r2 ry;exact(zR0 (n+1) q1 q2 (by nofun) ⟨.bl (DS.blt (.tup _) (.tup _)),H,I,rfl,k _ H ha .refl rfl⟩:wpAny (model X.prog X.w) X.A (richCompare .Lt a b) (EP X pins σ Q) X.xe s)
  ·cases e
 ·cases e
end
end L2
namespace DS
section
open Classical
noncomputable def trk (S:Store):D->Option (Bool × List D)
 | .tup l=>some (true,l)
 | .lst l=>some (false,l)
 | .ref n=>match S[n]? with
  | some (.lst l)=>some (false,l)
  | _=>none
 | _=>none
noncomputable def enW (b:Bool) (S:Store) (d:D):Option Walk:=match trk S d with
 | some (c,l)=>if c=b/\l.length<2 ^ 60 then some ⟨zDx l 0,gdOf S d⟩else none
 | none=>none
noncomputable def iEn (b:Bool) (a:EM):IM:=λenv S=>(a env S).bind λx S1=>lift (enW b S1 x) S1
theorem zK6:∀(l:List D) (n i:Nat),(zDx l n)[i]?=(l[i]?).map λd=>.tup [.int ((n+i:Nat):Int),d]
 | [],n,i=>by simp[zDx]
 | d::r,n,0=>by simp[zDx]
 | d::r,n,i+1=>by
  rw[zDx,yk,zK6 r (n+1) i,yk,show n+1+i=n+(i+1) by nofun]
theorem zEs:∀(l:List D) (n:Nat),(zDx l n).length=l.length
 | [],_=>rfl
 | d::r,n=>by rw[zDx,xD,zEs r,xD]
end
end DS
namespace L2
open PySem PySem.Spec PyProof.Rows
open DS (D Store Exn Rs SR)
section
variable {X:Cx}{K:PySem.W.Frag}{E:XE}{J:Js}{S:Store}{H:Hp}{d d1 d2:D}{v:V}
theorem zLw(ha:AbS K J S H)(r:Rep K J H d v)(e:DS.trk S d=some (c,l)):∃a,v=.ref a/\∀J' H' S' gd,Grow J H J' H'->AbS K J' S' H'->(∀p∈DS.gdOf S d,p∈gd)->DS.gOk S' gd->∃ys,H' a=some (hoK c ys)/\RepL K J' H' l ys:=by
 cases d with
 | tup l=>cases e;obtain⟨a,xs,rfl,t,rl⟩:=r;exact⟨a,rfl,λJ' H' S' gd g _ _ _=>⟨xs,(t.grow g).1,RepL.grow g _ _ rl⟩⟩
 | lst l=>cases e;obtain⟨a,xs,rfl,t,rl⟩:=r;exact⟨a,rfl,λJ' H' S' gd g _ _ _=>⟨xs,(t.grow g).1,RepL.grow g _ _ rl⟩⟩
 | ref n=>
  obtain⟨a,ea,rfl⟩:=r;obtain⟨c',ec,o,eo,rc⟩:=ha.at ea;have e:(match S[n]? with|some (.lst l)=>some (false,l)|_=>none)=some (c,l):=e;rw[ec]at e;cases c' with
  | lst l'=>
   cases e;refine⟨a,rfl,λJ' H' S' gd g ha' sub ok=>?_⟩;have e':=ok (n,.lst l) (sub _ (by simp[DS.gdOf,ec]));obtain⟨o',eo',rc'⟩:=ha'.ob n a _ (g.pre n a ea) e';obtain⟨ys,rfl,rl'⟩:=rc';exact⟨ys,eo',rl'⟩
  | _=>cases e
 | _=>cases e
end
end L2
namespace TS
open PySem
theorem zVs{A:Around}(hh:A.handled=none)(b:Bool)(it l:Addr)(hne:l≠it)(items:Array Value):Draws prog w A it [it,l] items.size (λi v=>items[i]?=some v) (λi h=>KIt b h it l i/\KSq b h l items) where
 live:=λ_ _ st=>let ⟨o,ho,_⟩:=st.1;⟨o,ho⟩
 frame:=λ_ _ _ st hk=>⟨st.1.at λo e=>hk it (by simp) o e,st.2.at λo e=>hk l (by simp) o e⟩
 item:=λi s Q E hi st hQ=>next_item st.1 st.2 (x:=items[i]) (by simp[hi]) λh' hit' hs'=>hQ _ h' s.toks (by simp[hi]) ⟨hit',st.2.xb hs'.extBut hne⟩ hs'
 done:=λs Q E st hE=>next_end hh st.1 st.2 (by simp) hE
noncomputable abbrev enO (it:Addr):Obj:={ cls:=.type "enumerate",data:=.fields #[.none,.bool false,.ref it,rawInt 0,.none,.none] }
theorem zZk(b:Bool)(l:Addr)(xs:Array Value):Meets (Builtin.«enumerate.__new__» ⟨[.type "enumerate",.ref l],[]⟩) (λ_ R s=>KSq b s.heap l xs/\R (.ok (.ret (.ref (s.heap.push (itO b l)).objs.size))) { s with heap:=(s.heap.push (itO b l)).push (enO s.heap.objs.size) }):=
 .of_wp λprog w A R s h=>by
  obtain⟨hp,g,d,tk,os⟩:=s;obtain⟨q1,h⟩:=h;have hsub:=sub_enumerate;have L1:=q1
  wp_walk using zJx L1
  refine wpAny_stack_any λst=>xh ?_
  split
  ·rename_i c _ _ _ _ _;cases(c == Value.type "enumerate")
   ·wp_walk using zJx L1
    exact⟨_,rfl,h⟩
   ·wp_walk using zJx L1
    exact⟨_,rfl,h⟩
  ·wp_walk using zJx L1
   exact⟨_,rfl,h⟩
section
variable {prog:Program}{w:World}{A:Around}{E:Value->Shared->Prop}{s:Shared}
theorem zVg{Q:Value->Shared->Prop}(q1:KSq b s.heap l xs)
  (h:∀h',IsEnum h' (s.heap.objs.size+1) s.heap.objs.size 0 .none->KIt b h' s.heap.objs.size l 0->(∀c o,s.heap.get? c=some o->h'.get? c=some o)->Q (.ref (s.heap.objs.size+1)) { s with heap:=h' }):
  wpAny (model prog w) A (call (.type "enumerate") [.ref l]) Q E s:=by
 refine callType_new F.called_enumerate (by decide) (F.typeCall_enumerate_1 _) (F.newCall_enumerate_1 _) (λobj=>F.args_object_init_2 obj _) F.entry_enumerate_new (zZk b l xs) ⟨q1,?_⟩;have z0:(s.heap.push (itO b l)).objs.size=s.heap.objs.size+1:=vM ..;have g2:((s.heap.push (itO b l)).push (enO s.heap.objs.size)).get? (s.heap.push (itO b l)).objs.size=some (enO s.heap.objs.size):=xv _ rfl;have g1:((s.heap.push (itO b l)).push (enO s.heap.objs.size)).get? s.heap.objs.size=some (itO b l):=xt _ (xv _ (by cases b <;> rfl));have gk:∀c o,s.heap.get? c=some o->((s.heap.push (itO b l)).push (enO s.heap.objs.size)).get? c=some o:=λc o x=>xt _ (xt _ x)
 show _/\_;rw[z0]at g2 ⊢;exact⟨⟨_,g2,rfl⟩,h _ g2 ⟨_,g1,rfl,rfl⟩ gk⟩
end
end TS
namespace L2
open PySem PySem.Spec PyProof.Rows TS
open DS (D Store Exn Rs SR)
noncomputable def Ite (b:Bool) (a:Addr):It:=
  ⟨λi H=>∃xs x,H a=some (hoK b xs)/\xs[i]?=some x,
   λi H v H'=>∃T xs x,v=.ref T/\H T=none/\H a=some (hoK b xs)/\xs[i]?=some x/\H'=upd H T (.tup [.int i,x]),
   λi H=>∃xs,H a=some (hoK b xs)/\xs.length<=i⟩
theorem zSp{P:Program}{w:World}{K:PySem.W.Frag}{es:List Expr}{k:Nat}{pos:Pos}(b:Bool)(a e it:Addr)(hei:e≠it):
  Turn P w K (.Tuple es k pos) (Ite b a) [e,it] e (λi h=>(∃old,IsEnum h e it i old)/\KIt b h it a i) where
 mem:=by simp
 obj:=λi h st c hc=>by
  obtain⟨⟨old,he⟩,o1,e1,c1,d1⟩:=st;simp only[xo,yj,or_false]at hc;rcases hc with rfl|rfl
  ·exact⟨_,he,λv z=>by cases z⟩
  ·exact⟨_,e1,λv z=>by rw[d1]at z;cases z⟩
 keep:=λi h h' st kk=>by
  obtain⟨⟨old,he⟩,h1⟩:=st;exact⟨⟨old,kk e (by simp) _ he⟩,h1.at λo x=>kk it (by simp) o x⟩
 item:=by
  intro X hP hw hK hc i pins s σ H E I hf st hg;subst hP hw hK;obtain⟨xs,x,ha,hx⟩:=hg;obtain⟨⟨old,he⟩,h1⟩:=st;obtain⟨its,rv,p1,z1⟩:=I.kSq ha;obtain⟨u,hu,ru⟩:=rv.get hx;have na:a ∉ [e,it]:=λm=>by rw[(hf a m).1]at ha;cases ha
  have nae:a≠e:=λz=>na (by simp[z])
  have nai:a≠it:=λz=>na (by simp[z])
  have hfr:=I.hok.fresh (xk _);have elt:=xq he;have ilt:it<s.heap.objs.size:=by obtain⟨o,ho,_⟩:=h1;exact xq ho
  have hi:i<its.toArray.size:=by obtain⟨z,_⟩:=xO.mp hu;simpa using z
  refine wpAny_pyNext_enum_itemD (zVs (A:=X.A.in1) (I.ok.hd hc) b it a nai its.toArray) he ⟨h1,p1⟩ hi hei (λm=>by rcases xo.mp m with z|z;exact hei z;exact nae (xI.mp z).symm) λv h' tk pv ho st' hT hsz hk=>?_
  have ev:v=u:=by
   have:its.toArray[i]?=some u:=by simpa using hu
   rw[this]at pv;exact(xM pv).symm
  subst ev;refine⟨_,rfl,wpAny_letOwnedTupleGo_enum ho λh2' he' hs'=>?_⟩;have hT2:=hs'.extBut _ _ (Nat.ne_of_gt elt) hT;refine⟨.ref s.heap.objs.size,upd H s.heap.objs.size (.tup [.int i,x]),I.turnedT hf (λc o hc e=>?_) (xk _) ⟨by show 2<=sizeLine;decide,[.int i tk,v],.cons ⟨tk,rfl⟩ (.cons ru .nil),⟨_,hT2,rfl,_,rfl⟩⟩,rfl,⟨_,xs,x,rfl,hfr,ha,hx,rfl⟩,⟨⟨_,by simpa using he'⟩,st'.1.xb hs'.extBut (xG hei)⟩,λc hc=>?_⟩
  ·simp only[xo,yj,or_false,not_or]at hc;exact hs'.extBut _ _ hc.1 (hk _ _ hc.1 hc.2 e)
  ·have hn:=(hf c hc).1;have ne:c≠s.heap.objs.size:=by
    simp only[xo,yj,or_false]at hc;rcases hc with rfl|rfl
    ·exact xA elt
    ·exact xA ilt
   rw[zAb ne];exact hn
 done:=by
  intro X hP hw hK hc i pins s σ H E I hf st hg;subst hP hw hK;obtain⟨xs,ha,hx⟩:=hg;obtain⟨⟨old,he⟩,h1⟩:=st;obtain⟨its,rv,p1,z1⟩:=I.kSq ha;have na:a ∉ [e,it]:=λm=>by rw[(hf a m).1]at ha;cases ha
  have nai:a≠it:=λz=>na (by simp[z])
  have l1:=rv.length;unfold pyNext;have hT:s.TypeIs (.ref e) "enumerate":=⟨_,he,rfl⟩;refine xc (vZ (vi hT F.slot_enumerate_next (xK F.slot_enumerate_next hT F.entry_enumerate_next ?_ (F.args_enumerate_next_1 _))));refine(show wpAny _ _ (field (.ref e) 2 >>= _) _ _ _ from xc (vq he rfl rfl (xc (next_end (I.ok.hd hc) h1 p1 (by simp;lia) λh' x he' hx'=>?_))));obtain⟨o,ho,hcl⟩:=hx';refine xc (v7 ⟨o,ho,hcl⟩ isSubtype_stop ?_);exact xh ⟨rfl,I.turnedL hf λc o hc e=>he' _ _ (λz=>hc (by simp[z])) e⟩
 self:=λ_ _ _ _ _ st h=>wpAny_pyIter_enum st.1.choose_spec h
section
variable {X:Cx}{K:PySem.W.Frag}{E:XE}{J:Js}{S:Store}{H:Hp}
theorem yBk{gd:List (Nat × D)}(h1:∀J' H' S',Grow J H J' H'->AbS K J' S' H'->DS.gOk S' gd->∃ys,H' a=some (hoK b ys)/\RepL K J' H' l ys):ItOk K J H ⟨DS.zDx l 0,gd⟩ (Ite b a) where
 go:=λi H' J' S' ha g gd hi=>by
  obtain⟨xs,q1,r1⟩:=h1 J' H' S' g ha gd;have hi':i<l.length:=by rw[DS.zEs]at hi;exact hi
  exact⟨xs,xs[i]'(by rw[<- r1.length];exact hi'),q1,xF _⟩
 yld:=λi H' J' S' x H'' ha g gd yl d ed=>by
  obtain⟨T,xs',x1,rfl,hT,e1,g1,rfl⟩:=yl;obtain⟨xs,q1,r1⟩:=h1 J' H' S' g ha gd;have ex:=zV5 (xM (q1.symm.trans e1));subst ex;obtain⟨dx,f1,p1⟩:=r1.get' g1;rw[DS.zK6,f1,vd]at ed;cases ed;exact⟨ha.push hT,.push hT,T,_,rfl,⟨zAe,ha.out hT⟩,_,_,rfl,rfl,x1,[],rfl,Rep.grow (.push hT) _ _ p1,rfl⟩
 stop:=λi H' J' S' ha g gd hi=>by
  obtain⟨xs,q1,r1⟩:=h1 J' H' S' g ha gd;rw[DS.zEs]at hi;exact⟨xs,q1,by rw[<- r1.length];exact hi⟩
theorem zVw(b:Bool)(hg:Gl X "enumerate")(hm:X.mg "enumerate"=none)(he:DE X K E a m)(h1:nst a=true:=by rfl)(hK:X.K=K:=by rfl):DI X K E (.Tuple es k tpos) (.Call (.Name "enumerate" p) [a] [] pos) (DS.iEn b m):=by
 subst hK;refine⟨⟨λpins s σ H R I hq1=>?_⟩⟩;obtain⟨env,S,J,ha,hE,q⟩:=hq1;have hs:starEach [a] X.env=[(false,eval a X.env)]:=zBq h1;refine Call_ (zFe I hg hm PyProof.Rows.boot_enumerate (yq ?_ hs rfl));rw[hs];refine(Calls.spliced_cons (thn (he.h.h pins s σ H (λx H1=>∃J1 S1 d w,AbS X.K J1 S1 H1/\Rep X.K J1 H1 d x/\DS.enW b S1 d=some w/\∀It,ItOk X.K J1 H1 w It->R It H1) I ⟨env,S,J,ha,hE,q.bind.imp λd S1 J1 H1 _ a1 g1 q1 x rx=>?_⟩) λv s1 hq1=>?_))
 ·obtain⟨w,ew,k⟩:=q1.lift;exact⟨J1,S1,d,w,a1,rx,ew,k J1 H1 a1 .refl⟩
 ·obtain⟨x,H1,I1,r1,J1,S1,d,w,a1,rx,ew,k⟩:=hq1;refine Calls.spliced_nil ?_;unfold DS.enW at ew;cases t1:DS.trk S1 d with
  | none=>rw[t1]at ew;cases ew
  | some p1=>
   obtain⟨c1,l⟩:=p1;rw[t1]at ew;simp only at ew;split at ew
   ·rename_i hc;obtain⟨rfl,_⟩:=hc;cases ew;obtain⟨a',rfl,s1'⟩:=zLw a1 rx t1;have z1:=λJ' H' S' g ab ok=>s1' J' H' S' (DS.gdOf S1 d) g ab (λp hp=>hp) ok
    have ok0:DS.gOk S1 (DS.gdOf S1 d):=λp hp=>by
     cases d with
     | ref n=>
      have hp:p∈(match S1[n]? with|some d=>[(n,d)]|none=>[]):=hp;cases en:S1[n]? with
      | none=>rw[en]at hp;cases hp
      | some c=>rw[en]at hp;rw[xI.mp hp];exact en
     | _=>cases hp
    obtain⟨xs,f1,_⟩:=z1 J1 H1 S1 .refl a1 ok0;cases r1;obtain⟨its,rv,p1,_⟩:=I1.kSq f1;refine zVg p1 λh' c1' c2 hk=>wpAny_pyIter_enum c1' ?_
    have hne:s1.heap.objs.size+1≠s1.heap.objs.size:=Nat.succ_ne_self _;refine⟨_,[s1.heap.objs.size+1,s1.heap.objs.size],_,_,H1,rfl,I1.kept hk,zSp c1 a' _ _ hne,⟨⟨_,by simpa using c1'⟩,c2⟩,λc hc=>?_,k _ (yBk z1)⟩;have hle:s1.heap.objs.size<=c:=by
     simp only[xo,yj,or_false]at hc;rcases hc with rfl|rfl
     ·exact Nat.le_add_right _ _
     ·exact xk _
    exact I1.fpOk hle (I1.hok.fresh hle)
   ·cases ew
end
noncomputable def locB (o:Option NameKind):Bool:=o == some .local || o == some .cell
noncomputable def visB (o:Option NameKind):Bool:=locB o || o == some .free
theorem zJr(h:locB o=true):o=some .local\/o=some .cell:=by simpa[locB]using h
theorem zP5(h:visB o=true):o=some .local\/o=some .cell\/o=some .free:=by simpa[visB,locB,or_assoc]using h
noncomputable def ndB:List Str->Bool
 | []=>true
 | x::r=>!(r.contains x) && ndB r
theorem zFz:∀{l:List Str},ndB l=true->l.Nodup
 | [],_=>vH
 | x::r,h=>by
  simp only[ndB,xE,Bool.not_eq_true',List.contains_eq_mem,decide_eq_false_iff_not]at h;exact vo.mpr ⟨h.1,zFz h.2⟩
noncomputable def varB (X:Cx) (i:Nat) (x:Str):Bool:=X.N[i]? == some x && (visB (X.env.scope.names.lookup x) && (!(x == ("__debug__":Str)) && !(x == ("__classdict__":Str))))
noncomputable def setB (X:Cx) (j:Nat) (x:Str):Bool:=ndB X.N && (X.N[j]? == some x && (locB (X.env.scope.names.lookup x) && (X.fn x || X.env.scope.names.lookup x == some .local)))
noncomputable def tgN:Expr->List Str
 | .Name x _=>[x]
 | .Tuple ts _ _=>ts.flatMap fun
  | .Name x _=>[x]
  | _=>[]
 | _=>[]
noncomputable def freN (N:List Str) (ix:List Nat):List Str:=ix.map λi=>N.getD i ""
noncomputable def cmpB (X:Cx) (tg iter:Expr) (n:Nat) (ix:List Nat) (scope:Scope):Bool:=X.calm && (nse iter && ((tgN tg).length == n && zO8 X.env.scope X.N (tgN tg) (freN X.N ix) ix scope))
section
variable {X:Cx}{K:PySem.W.Frag}{E:XE}{e a b c:Expr}{es:List Expr}{p pos:Pos}{m ma mb mc:DS.EM}{mt mu:DS.TM}
theorem zZn(h:varB X i x=true):DE X K E (.Name x pos) (DS.eVar i):=by simp only[varB,xE,Bool.not_eq_true']at h;exact yA0 i (by simpa using h.1) (zP5 h.2.1) h.2.2.1 h.2.2.2
theorem zFv(h:setB X j x=true):X.N.Nodup/\X.N[j]?=some x/\Loc X.env.scope x/\(X.fn x=true\/X.env.scope.names.lookup x=some .local):=by simp only[setB,xE,Bool.or_eq_true]at h;exact⟨zFz h.1,by simpa using h.2.1,zJr h.2.2.1,by simpa using h.2.2.2⟩
theorem zZp(h:(setB X j x && nco e)=true)(he:DE X K E e m):DS1 X K E (.Assign [.Name x pos'] e pos) (DS.sSet j m):=by rw[xE]at h;have z:=zFv h.1;exact zVo z.1 z.2.1 z.2.2.1 he z.2.2.2 h.2
theorem zVk(h:setB X j x=true):DG X K (.Name x pos) (DS.gName j):=
 have z:=zFv h
 zVy z.1 z.2.1 z.2.2.1 z.2.2.2
theorem zKd{n:Nat}{ix:List Nat}(h:cmpB X tg iter n ix scope=true):X.calm=true/\nse iter=true/\(tgN tg).length=n/\CompScope X (tgN tg) (freN X.N ix) ix scope:=by simp only[cmpB,xE]at h;exact⟨h.1,h.2.1,by simpa using h.2.2.1,.mk' rfl rfl h.2.2.2⟩
section
variable {ix:List Nat}{n:Nat}{scope:Scope}{j:Nat}{x:Str}{cpos pos':Pos}{tg elt iter:Expr}{ifs:List Expr}{im:DS.IM}{g:DS.GM}
theorem zVl(h:cmpB X tg iter n ix scope=true)(hi:DI X K E tg iter im)
  (hg:∀cl C s H fp,DG (zA7 X (tgN tg++freN X.N ix) scope cl C s H fp) K tg g) (ht:∀cl C s H fp,DIf (zA7 X (tgN tg++freN X.N ix) scope cl C s H fp) K E ifs mt) (he:∀cl C s H fp,DE (zA7 X (tgN tg++freN X.N ix) scope cl C s H fp) K E elt m):
  DF X K E (.ListComp elt [⟨tg,iter,ifs,0⟩] scope pos) (DS.zA6 n ix im g mt m):=
 have z:=zKd h
 zW1 z.1 z.2.2.2 hi hg ht he z.2.2.1 z.2.1
theorem zVj(hsw:swapsWith (.ListComp elt [⟨tg,iter,ifs,0⟩] scope cpos) (some (.Name x pos')) pos.line X.env=pure true)(h1:setB X j x=true)(h:cmpB X tg iter n ix scope=true)(hi:DI X K E tg iter im)
  (hg:∀cl C s H fp,DG (zA7 X (tgN tg++freN X.N ix) scope cl C s H fp) K tg g) (ht:∀cl C s H fp,DIf (zA7 X (tgN tg++freN X.N ix) scope cl C s H fp) K E ifs mt) (he:∀cl C s H fp,DE (zA7 X (tgN tg++freN X.N ix) scope cl C s H fp) K E elt m):
  DS1 X K E (.Assign [.Name x pos'] (.ListComp elt [⟨tg,iter,ifs,0⟩] scope cpos) pos) (DS.sSet j (DS.zA6 n ix im g mt m)):=
 have z:=zKd h;have y:=zFv h1
 zR2 y.1 y.2.1 y.2.2.1 z.1 z.2.2.2 hi hg ht he hsw z.2.1 y.2.2.2 z.2.2.1
end
noncomputable def glB (X:Cx) (x:Str):Bool:=X.env.kindOf x == some .globalImplicit
theorem zV6(h:glB X x=true):Gl X x:=by simpa[glB,Gl]using h
noncomputable def zLd (X:Cx) (x:Str) (es:List Expr):Bool:=glB X x && (!(x == ("__debug__":Str)) && (!(x == ("__name__":Str)) && es.all nst))
theorem zD9(h:zLd X x es=true):Gl X x/\(x == ("__debug__":Str))=false/\x≠"__name__"/\es.all nst=true:=by simp only[zLd,xE,Bool.not_eq_true']at h;exact⟨zV6 h.1,h.2.1,by simpa using h.2.2.1,h.2.2.2⟩
theorem zVm(C:Cal X.prog X.w X.K X.mg X.base x k ps (spOf K E F))(hr:Room k X.A)(h:zLd X x (e::es)=true)(ha:DA X K E (e::es) am):DE X K E (.Call (.Name x p) (e::es) [] pos) (DS.zA2 F am):=
 have z:=zD9 h
 zW2 C hr z.1 ha z.2.1 z.2.2.2
theorem yBs{g:Store->List D->Option D}(hc:zB9 X (.builtin iq) (cOf K g))(hv:bootBuiltins x=some (.builtin iq))(hm:X.mg x=none)(h:zLd X x (e::es)=true)(ha:DA X K E (e::es) am):DE X K E (.Call (.Name x p) (e::es) [] pos) (DS.eCB g am):=
 have z:=zD9 h
 yC4 hc z.1 hm hv ha z.2.2.1 z.2.1 z.2.2.2
theorem yBr{g:Store->List D->Option D}(hc:zB9 X (.type T) (cOf K g))(hv:bootBuiltins x=some (.type T))(hm:X.mg x=none)(h:zLd X x (e::es)=true)(ha:DA X K E (e::es) am):DE X K E (.Call (.Name x p) (e::es) [] pos) (DS.eCB g am):=
 have z:=zD9 h
 yC3 hc z.1 hm hv ha z.2.2.1 z.2.1 z.2.2.2
theorem yBq{g:Store->List D->Option D}(hc:zB9 X (.builtin iq) (cOfF K g))(hv:bootBuiltins x=some (.builtin iq))(hm:X.mg x=none)(h:zLd X x (e::es)=true)(ha:DA X K E (e::es) am):DF X K E (.Call (.Name x p) (e::es) [] pos) (DS.eCB g am):=
 have z:=zD9 h
 yBw hc z.1 hm hv ha z.2.2.1 z.2.1 z.2.2.2
theorem zZo(h:ntu e=true)(he:DE X K E e m)(hg:DG X K (.Tuple ts k tp) g):DS1 X K E (.Assign [.Tuple ts k tp] e pos) (DS.sUnp g m):=zVn he hg h
structure MtS (T:String) (x:Str) (iq:String):Prop where
 pa:PlainAttrs T
 sl:Slot T x iq
 ty:typeOf (.builtin iq)=pure (.type "method_descriptor")
 hT:T="str"\/T="list"\/T="dict"
theorem zPg:MtS "list" "append" "list.append":=⟨PySem.F.plainAttrs_list,PySem.F.slot_list_append,PySem.F.type_list_append,.inr (.inl rfl)⟩
theorem yAw:MtS "dict" "get" "dict.get":=⟨PySem.F.plainAttrs_dict,PySem.F.slot_dict_get,PySem.F.type_dict_get,.inr (.inr rfl)⟩
noncomputable def mtB (o:Expr) (es:List Expr) (apos cpos:Pos):Bool:=nba o && (es.all nst && (decide (es.length+0+0<30) && (apos.endLine == cpos.line)))
theorem zZq{g:Store->D->List D->Option (D × Store)}(S:MtS T x iq)(hm:MtR X iq (mOf K g))(h:mtB o (e::es) apos cpos=true)(hK:X.K=K)(ho:DE X K E o mo)(ha:DA X K E (e::es) am):
  DE X K E (.Call (.Attribute o x apos) (e::es) [] cpos) (DS.eMt T g mo am):=by
 simp only[mtB,xE]at h;exact yC1 S.pa S.sl S.ty hm S.hT ho ha h.1 h.2.1 h.2.2.1 h.2.2.2 hK
end
noncomputable def scB (N ps:List Str) (sc:Scope):Bool:=sc.kind == .function && (!sc.isCoroutine && (!sc.isGenerator && (ndB N && (N.take ps.length == ps && (ps.all (λx=>locB (sc.names.lookup x)) && sc.names.all λy=>y.2 != .free)))))
theorem zI1(h:scB N ps sc=true):zDl N ps sc:=by simp only[scB,xE,Bool.not_eq_true',vV]at h;obtain⟨h1,h2,h3,h4,h5,h6,h7⟩:=h;exact⟨by simpa using h1,h2,h3,zFz h4,by simpa using h5,λx hx=>zJr (h6 x hx),λy hy=>by simpa using h7 y hy⟩
noncomputable abbrev fO (x:Str) (tq:Stmt) (pm:Value) (cd:Addr):Obj:=⟨.type "function",none,.func (PySem.W.fnOf x x (zC9 tq) (zB8 tq) (zA8 tq) .none .none .none pm none (.ref cd) .none),#[]⟩
structure Gd (K:PySem.W.Frag) (mg:Str->Option Value):Prop where
 a:∀x v,PySem.W.nsIn K mainGlobals x=some (some v)->mg x=some v
 z:∀x,PySem.W.nsIn K mainGlobals x=some none->mg x=none
section
variable {P:Program}{w:World}{K:PySem.W.Frag}{mg:Str->Option Value}{base:Heap}
theorem zNm(l:K.lookup f=some (fO x tq pm cd))(c:PySem.W.codeIn K (.ref cd) x=true)(kp:PySem.W.keepIn K (.ref f)=true):Fun K x x tq f (PySem.W.fnOf x x (zC9 tq) (zB8 tq) (zA8 tq) .none .none .none pm none (.ref cd) .none):=zZe l c kp
theorem zB3(G:Gd K mg)(f cd:Addr)(tq:Stmt)(pm:Value)(N:List Str){x:Str}{ps:List Str}{k np nl:Nat}{b:DS.SM}
  (hb:∀(cdv:Value) (A:Around) (outer:List PySem.Env) (s:Shared) (H:Hp) (E:XK),Room k (A.deeper (envOfC x (zA8 tq) s.heap.objs.size f cdv))->DSs (cxOf CX0 P w K mg base N x (zA8 tq) f cdv A outer s H E).nox K XE0 (zB8 tq) b)
  (l:K.lookup f=some (fO x tq pm cd):=by kernel_rfl) (c:PySem.W.codeIn K (.ref cd) x=true:=by kernel_rfl) (kp:PySem.W.keepIn K (.ref f)=true:=by kernel_rfl) (hm:PySem.W.nsIn K mainGlobals x=some (some (.ref f)):=by kernel_rfl) (Sc:scB N ps (zA8 tq)=true:=by kernel_rfl)
  (bd:∀(kV doc pm:Value) (an:Option Addr) (cdv ct:Value) (us:List Value),us.length=ps.length->bindArgs (PySem.W.fnOf x x (zC9 tq) (zB8 tq) (zA8 tq) .none kV doc pm an cdv ct) ⟨us,[]⟩=pure (ps.zip us):=by intro _ _ _ _ _ _ us hl;first|(obtain⟨_,rfl⟩:=len1 hl;rfl)|(obtain⟨_,_,rfl⟩:=len2 hl;rfl)|(obtain⟨_,_,_,rfl⟩:=len3 hl;rfl)|(obtain⟨_,_,_,_,rfl⟩:=len4 hl;rfl)|(obtain⟨_,_,_,_,_,rfl⟩:=len5 hl;rfl))
  (hnp:ps.length=np:=by rfl) (hnl:N.length=nl:=by rfl):Cal P w K mg base x (k+1) ps (spOf K XE0 (DS.zAk np nl b)):=
 have F:=zNm l c kp
 ⟨_,_,fn_d F (zI1 Sc) hnp hnl hb,G.a _ _ hm,F.kp,F.binds bd⟩
theorem yC9(G:Gd K mg)(f cd:Addr)(tq:Stmt)(pm:Value)(N:List Str){x:Str}{ps:List Str}{k np nl:Nat}{b:DS.SM}
  (hb:∀(cdv:Value) (A:Around) (outer:List PySem.Env) (s:Shared) (H:Hp) (E:XK),Room k (A.deeper (envOfC x (zA8 tq) s.heap.objs.size f cdv))->DSs (cxOf CX0 P w K mg base N x (zA8 tq) f cdv A outer s H E).nox K XE0 (zB8 tq) b)
  (l:K.lookup f=some (fO x tq pm cd):=by kernel_rfl) (c:PySem.W.codeIn K (.ref cd) x=true:=by kernel_rfl) (kp:PySem.W.keepIn K (.ref f)=true:=by kernel_rfl) (hm:PySem.W.nsIn K mainGlobals x=some (some (.ref f)):=by kernel_rfl) (Sc:scB N ps (zA8 tq)=true:=by kernel_rfl)
  (bd:∀(kV doc pm:Value) (an:Option Addr) (cdv ct:Value) (us:List Value),us.length=ps.length->bindArgs (PySem.W.fnOf x x (zC9 tq) (zB8 tq) (zA8 tq) .none kV doc pm an cdv ct) ⟨us,[]⟩=pure (ps.zip us):=by intro _ _ _ _ _ _ us hl;first|(obtain⟨_,rfl⟩:=len1 hl;rfl)|(obtain⟨_,_,rfl⟩:=len2 hl;rfl)|(obtain⟨_,_,_,rfl⟩:=len3 hl;rfl))
  (hnp:ps.length=np:=by rfl) (hnl:N.length=nl:=by rfl):Cal P w K mg base x (k+1) ps (spOf K XE0 (DS.zF4 np nl b)):=
 have F:=zNm l c kp
 ⟨_,_,fn_r F (zI1 Sc) hnp hnl hb,G.a _ _ hm,F.kp,F.binds bd⟩
end
end L2
namespace DS
noncomputable def eqI (_:Store) (x y:D):Option D:=match x,y with
 | .int a,.int b=>some (.bl (decide (a=b)))
 | _,_=>none
section
open Classical
noncomputable def intsOf:List D->Option (List Int)
 | []=>some []
 | .int a::l=>(intsOf l).map (a::·)
 | _=>none
theorem zH6:∀{l:List D}{xs:List Int},intsOf l=some xs->l=xs.map D.int
 | [],xs,h=>by cases h;rfl
 | .int a::l,xs,h=>by
  obtain⟨r,e,rfl⟩:=vU.mp h;rw[xp,zH6 e]
theorem zFi:∀(xs:List Int),intsOf (xs.map D.int)=some xs
 | []=>rfl
 | a::r=>by rw[xp,intsOf,zFi r];rfl
noncomputable def lstI (S:Store) (d:D):Option (List Int):=match look S d with|some (.lst l)=>intsOf l|_=>none
theorem zQg{xs:List Int}:lstI S (.lst (xs.map D.int))=some xs:=zFi xs
end
open PySem (PyData)
section
open Classical
mutual
def pdOf:D->Option PyData
 | .int i=>some (.int i)
 | .tup l=>(zCl l).map PyData.tuple
 | _=>none
def zCl:List D->Option (List PyData)
 | []=>some []
 | d::l=>match pdOf d,zCl l with
  | some p,some r=>some (p::r)
  | _,_=>none
end
noncomputable def zBx (_:Store):List D->Option D
 | [.tup l]=>match pdOf (.tup l)with
  | some p=>if p.showable=true/\p.depth<=60/\p.shown.length<=most then some (.str p.shown)else none
  | none=>none
 | _=>none
mutual
theorem zMm:∀(d:D) (p:PyData),pdOf d=some p->p.hasDict=false
 | .int i,p,h=>by unfold pdOf at h;cases h;rfl
 | .tup l,p,h=>by
  unfold pdOf at h;obtain⟨r,e,rfl⟩:=vU.mp h;show PyData.hasDictAll r=false;exact zJm l r e
 | .non,p,h=>by unfold pdOf at h;cases h
 | .bl _,p,h=>by unfold pdOf at h;cases h
 | .str _,p,h=>by unfold pdOf at h;cases h
 | .ty _,p,h=>by unfold pdOf at h;cases h
 | .lst _,p,h=>by unfold pdOf at h;cases h
 | .ktup _,p,h=>by unfold pdOf at h;cases h
 | .klst _,p,h=>by unfold pdOf at h;cases h
 | .dct _ _ _,p,h=>by unfold pdOf at h;cases h
 | .st _,p,h=>by unfold pdOf at h;cases h
 | .ref _,p,h=>by unfold pdOf at h;cases h
theorem zJm:∀(l:List D) (r:List PyData),zCl l=some r->PyData.hasDictAll r=false
 | [],r,h=>by unfold zCl at h;cases h;rfl
 | d::l,r,h=>by
  unfold zCl at h;split at h
  ·rename_i p q e1 e2;cases h;show(p.hasDict || PyData.hasDictAll q)=false;rw[zMm d p e1,zJm l q e2];rfl
  ·cases h
end
end
section
open Classical
noncomputable def sumI (S:Store):List D->Option D
 | [d]=>match lstI S d with
  | some xs=>if xs.length<=1000/\∀x∈xs,x.natAbs<=2 ^ 50 then some (.int xs.sum)else none
  | none=>none
 | _=>none
def lvs(l:List D):Prop:=∃n,n<=5/\∀d∈l,lv n d
noncomputable def inKO (S:Store) (x y:D):Option Bool:=match look S y with
 | some (.tup l)=>if lvs (x::l)then some (decide (x∈l))else none
 | some (.lst l)=>if lvs (x::l)then some (decide (x∈l))else none
 | some (.dct t ks _)=>if zBk t x=true then some (decide (x∈ks))else none
 | _=>none
noncomputable def inK (S:Store) (x y:D):Option D:=(inKO S x y).map D.bl
noncomputable def zBf (S:Store) (x y:D):Option D:=(inKO S x y).map λb=>.bl (!b)
noncomputable def neK (_:Store) (x y:D):Option D:=match x,y with
 | .int a,.int b=>some (.bl (!decide (a=b)))
 | .bl a,.bl b=>some (.bl (!decide (a=b)))
 | .str a,.str b=>some (.bl (!decide (a=b)))
 | .tup l,.tup m=>if lvs (l++m)then some (.bl (!decide (l=m)))else none
 | _,_=>none
noncomputable def ssK (S:Store) (d:D):Option D:=match litems S d with
 | some l=>if setable l then some (.lst (srt (dedup l)))else none
 | none=>none
noncomputable def eqK (_:Store) (x y:D):Option D:=match x,y with
 | .int a,.int b=>some (.bl (decide (a=b)))
 | .tup l,.tup m=>if lvs (l++m)then some (.bl (decide (l=m)))else none
 | _,_=>none
noncomputable def dK1:D->Option (List D × List D)
 | .dct true ks vs=>some (ks,vs)
 | _=>none
noncomputable def zQt (a:EM):IM:=λenv S=>(a env S).bind λx S1=>lift ((dK1 x).map λp=>⟨p.1,[]⟩) S1
noncomputable def zQs (a:EM):IM:=λenv S=>(a env S).bind λx S1=>lift ((dK1 x).map λp=>⟨p.2,[]⟩) S1
noncomputable def zJz (a:EM):IM:=λenv S=>(a env S).bind λx S1=>lift ((dK1 x).map λp=>⟨(p.1.zip p.2).map λq=>.tup [q.1,q.2],[]⟩) S1
noncomputable def getM (S:Store) (o:D) (xs:List D):Option (D × Store):=match look S o,xs with
 | some (.dct true ks vs),[k,v]=>if zBk true k=true then some ((look2 ks vs k).getD v,S)else none
 | _,_=>none
noncomputable def eqE (S:Store) (x y:D):Option D:=match look S x,y with
 | some (.lst l),.lst []=>some (.bl (decide (l=[])))
 | _,_=>none
theorem eq_E :eqE S (.lst l) (.lst [])=some (.bl (decide (l=[]))):=rfl
end
end DS
namespace DP
open DS
section
noncomputable def zJ1:SM:=
  (sRet (eOp addD (eOp mulD (eOp ixD (eVar 0) (eC (.int 0))) (eOp ixD (eVar 1) (eC (.int 0)))) (eOp mulD (eOp ixD (eVar 0) (eC (.int 1))) (eOp ixD (eVar 1) (eC (.int 1))))))
noncomputable def zEq:Fn:=zAk 2 2 zJ1
noncomputable def zHu:SM:=
  (sRet (eTup (zA0 (eOp addD (eOp ixD (eVar 0) (eC (.int 0))) (eOp ixD (eVar 1) (eC (.int 0)))) (zA0 (eOp addD (eOp ixD (eVar 0) (eC (.int 1))) (eOp ixD (eVar 1) (eC (.int 1)))) aNil))))
noncomputable def zD3:Fn:=zAk 2 2 zHu
noncomputable def zOu:SM:=
  (sSeq (sSet 1 (eNew (eDct true)))
  (sSeq (sSet 2 (eC (.int 1)))
  (sSeq (sFor (iVal (eVar 0)) (gName 3) (sFor (iVal (eVar 3)) (gName 4) (sIf (tB (eOp zBf (eVar 4) (eVar 1))) (sSeq (sPut putD (eVar 1) (eVar 4) (eVar 2))
  (sSet 2 (eOp addD (eVar 2) (eVar 2)))) zAt)))
  (sRet (eVar 1)))))
noncomputable def zEr:Fn:=zAk 1 5 zOu
noncomputable def zOt:SM:=
  (sSeq (sSet 2 (eC (.int 0)))
  (sSeq (sFor (iVal (eVar 0)) (gName 3) (sSet 2 (eOp orD (eVar 2) (eOp ixD (eVar 1) (eVar 3)))))
  (sRet (eVar 2))))
noncomputable def zD2:Fn:=zAk 2 4 zOt
noncomputable def zHt:SM:=
  (sRet (eCB anyB (zA0 (zA6 1 [0] (iVal (eVar 1)) (gName 0) tYes (eOp eqI (eOp andD (eVar 0) (eVar 1)) (eVar 0))) aNil)))
noncomputable def zBm:Fn:=zAk 2 2 zHt
noncomputable def zF7:SM:=
  (sSeq (sSet 2 (eNew (eDct true)))
  (sSeq (sFor (zJz (eVar 0)) (gTup [(gName 3),(gName 4)]) (sFor (iVal (eVar 1)) (gName 5) (sSeq (sSet 6 (eTup (zA0 (eOp subD (eOp ixD (eVar 5) (eC (.int 0))) (eOp ixD (eVar 3) (eC (.int 0)))) (zA0 (eOp subD (eOp ixD (eVar 5) (eC (.int 1))) (eOp ixD (eVar 3) (eC (.int 1)))) aNil))))
  (sPut putD (eVar 2) (eVar 6) (eOp orD (eMt "dict" getM (eVar 2) (zA0 (eVar 6) (zA0 (eC (.int 0)) aNil))) (eVar 4))))))
  (sRet (eVar 2))))
noncomputable def zBt:Fn:=zAk 2 7 zF7
noncomputable def zJ5:SM:=
  (sSeq (sSet 2 (eOp addD (eOp mulD (eC (.int 7901)) (eVar 1)) (eC (.int 24697))))
  (sSeq (sIf (tB (eOp ltN (eVar 1) (eCB lenB (zA0 (eVar 0) aNil)))) (sSet 2 (eOp ixD (eVar 0) (eVar 1))) (sIf (tB (eOp gtD (eCB lenB (zA0 (eVar 0) aNil)) (eC (.int 0)))) (sSet 2 (eOp addD (eOp mulD (eOp modD (eOp ixD (eVar 0) (eOp modD (eVar 1) (eCB lenB (zA0 (eVar 0) aNil)))) (eC (.int 2147483629))) (eC (.int 31))) (eOp mulD (eC (.int 7901)) (eVar 1)))) zAt))
  (sSeq (sSet 3 (eC (.int 0)))
  (sSeq (sIf (tB (eOp geD (eVar 2) (eOp powD (eC (.int 10)) (eC (.int 18))))) (sSet 3 (eVar 2)) zAt)
  (sRet (eNew (eLst (zA0 (eVar 3) (zA0 (eOp addD (eOp modD (eOp powD (eOp addD (eOp mulD (eOp modD (eVar 2) (eC (.int 2147483629))) (eC (.int 48271))) (eOp mulD (eC (.int 40692)) (eVar 1))) (eC (.int 5))) (eC (.int 2147483629))) (eC (.int 1))) aNil)))))))))
noncomputable def zC7:Fn:=zF4 2 4 zJ5
noncomputable def zJ4:SM:=
  (sSeq (sIf (tB (eOp gtD (eOp ixD (eVar 0) (eC (.int 0))) (eC (.int 0)))) (sSeq (sSet 2 (eOp modD (eOp ixD (eVar 0) (eC (.int 0))) (eVar 1)))
  (sSeq (sPut putD (eVar 0) (eC (.int 0)) (eOp zDw (eOp ixD (eVar 0) (eC (.int 0))) (eVar 1)))
  (sRet (eVar 2)))) zAt)
  (sSeq (sSet 3 (eOp modD (eOp mulD (eOp ixD (eVar 0) (eC (.int 1))) (eC (.int 69623))) (eC (.int 2147483647))))
  (sSeq (sPut putD (eVar 0) (eC (.int 1)) (eOp addD (eOp modD (eOp addD (eOp mulD (eVar 3) (eC (.int 48271))) (eC (.int 30103))) (eC (.int 2147483629))) (eC (.int 1))))
  (sRet (eOp modD (eOp zDw (eOp addD (eOp mulD (eVar 3) (eC (.int 2147483647))) (eOp ixD (eVar 0) (eC (.int 1)))) (eC (.int 8191))) (eVar 1))))))
noncomputable def zA1:Fn:=zAk 2 4 zJ4
noncomputable def zLk:SM:=
  (sRet (eCB zAf (zA0 (zA6 2 [1] (iEn false (eVar 0)) (gTup [(gName 0),(gName 1)]) (tB (eOp eqI (eOp andD (eOp shrD (eVar 2) (eVar 0)) (eC (.int 1))) (eC (.int 1)))) (eVar 1)) aNil)))
noncomputable def zBd:Fn:=zAk 2 2 zLk
noncomputable def zHv:SM:=
  (sSeq (sSet 1 (eUn ssK (eVar 0)))
  (sSeq (sSet 2 (eNew (eLst aNil)))
  (sSeq (sFor (iVal (eVar 1)) (gName 3) (sIf (tB (eOp eqE (zA6 1 [3] (iVal (eVar 1)) (gName 0) (tAnd (tB (eOp neK (eVar 0) (eVar 1))) (tB (eOp eqE (zA6 1 [1] (iVal (eVar 0)) (gName 0) (tB (eOp zBf (eVar 0) (eVar 1))) (eVar 0)) (eLst aNil)))) (eVar 0)) (eLst aNil))) (zGy (eMt "list" zBv (eVar 2) (zA0 (eVar 3) aNil))) zAt))
  (sRet (eCB zAf (zA0 (eVar 2) aNil))))))
noncomputable def zCf:Fn:=zAk 1 4 zHv
noncomputable def zCp:SM:=
  (sRet (eTup (zA0 (eOp addD (eOp ixD (eVar 0) (eC (.int 0))) (eOp ixD (eVar 1) (eC (.int 0)))) (zA0 (eOp addD (eOp ixD (eVar 0) (eC (.int 1))) (eOp ixD (eVar 1) (eC (.int 1)))) aNil))))
noncomputable def zAh:Fn:=zAk 2 2 zCp
noncomputable def zDk:SM:=
  (sRet (eTup (zA0 (eOp addD (eOp mulD (eOp ixD (eVar 0) (eC (.int 0))) (eOp ixD (eVar 1) (eC (.int 0)))) (eOp mulD (eOp ixD (eVar 0) (eC (.int 1))) (eOp ixD (eVar 1) (eC (.int 1))))) (zA0 (eOp addD (eOp mulD (eOp ixD (eVar 0) (eC (.int 2))) (eOp ixD (eVar 1) (eC (.int 0)))) (eOp mulD (eOp ixD (eVar 0) (eC (.int 3))) (eOp ixD (eVar 1) (eC (.int 1))))) aNil))))
noncomputable def zAd:Fn:=zAk 2 2 zDk
noncomputable def zGo:SM:=
  (sRet (eCB zAf (zA0 (eCB zBb (zA0 (zA6 1 [] (iVal (eVar 0)) (gName 0) tYes (eCB zAf (zA0 (eCB zBb (zA0 (eVar 0) aNil)) aNil))) aNil)) aNil)))
noncomputable def zAq:Fn:=zAk 1 1 zGo
noncomputable def yAf:SM:=
  (sRet (eTup (zA0 (zA2 zEq (zA0 (eSl slD (eVar 0) pNo (pYes (eC (.int 2)))) (zA0 (eVar 1) aNil))) (zA0 (zA2 zEq (zA0 (eSl slD (eVar 0) (pYes (eC (.int 2))) pNo) (zA0 (eVar 1) aNil))) aNil))))
noncomputable def zQz:Fn:=zAk 2 2 yAf
noncomputable def zDz:SM:=
  (sRet (eCB zAf (zA0 (zA6 1 [1] (iVal (eVar 0)) (gName 0) tYes (zA2 zD3 (zA0 (eVar 0) (zA0 (eVar 1) aNil)))) aNil)))
noncomputable def zB1:Fn:=zAk 2 2 zDz
noncomputable def zLi:SM:=
  (sRet (zA6 1 [1] (iVal (eVar 0)) (gName 0) tYes (zA2 zD2 (zA0 (eVar 0) (zA0 (eVar 1) aNil)))))
noncomputable def zDi:Fn:=zAk 2 2 zLi
noncomputable def zCv:SM:=
  (sSeq (sSet 1 (eOp ixD (eLst (zA0 (eC (.int 2)) (zA0 (eC (.int 2)) (zA0 (eC (.int 2)) (zA0 (eC (.int 1000)) aNil))))) (zA2 zA1 (zA0 (eVar 0) (zA0 (eC (.int 4)) aNil)))))
  (sRet (eTup (zA0 (eOp subD (zA2 zA1 (zA0 (eVar 0) (zA0 (eOp addD (eOp mulD (eC (.int 2)) (eVar 1)) (eC (.int 1))) aNil))) (eVar 1)) (zA0 (eOp subD (zA2 zA1 (zA0 (eVar 0) (zA0 (eOp addD (eOp mulD (eC (.int 2)) (eVar 1)) (eC (.int 1))) aNil))) (eVar 1)) aNil)))))
noncomputable def zB2:Fn:=zAk 1 2 zCv
noncomputable def zDt:SM:=
  (sSeq (sSet 3 (zA6 1 [0,1] (zAi (zA0 (eOp addD (eC (.int 1)) (zA2 zA1 (zA0 (eVar 0) (zA0 (eVar 2) aNil)))) aNil)) (gName 0) tYes (eOp addD (eC (.int 1)) (zA2 zA1 (zA0 (eVar 1) (zA0 (eOp subD (eOp shlD (eC (.int 1)) (eCB lenB (zA0 (eVar 2) aNil))) (eC (.int 1))) aNil))))))
  (sRet (zA2 zCf (zA0 (zA6 1 [1] (iVal (eVar 3)) (gName 0) tYes (zA2 zBd (zA0 (eVar 1) (zA0 (eVar 0) aNil)))) aNil))))
noncomputable def zB5:Fn:=zAk 3 4 zDt
noncomputable def zCg:SM:=
  (sSeq (sUnp (gTup [(gName 1),(gName 2),(gName 3),(gName 4)]) (zA6 1 [0] (zAi (zA0 (eC (.int 4)) aNil)) (gName 0) tYes (eOp subD (zA2 zA1 (zA0 (eVar 1) (zA0 (eC (.int 19)) aNil))) (eC (.int 9)))))
  (sSeq (sIf (tB (eOp eqI (eOp mulD (eVar 1) (eVar 4)) (eOp mulD (eVar 2) (eVar 3)))) (sRet (eTup (zA0 (eCB max2B (zA0 (eC (.int 1)) (zA0 (eCB absB (zA0 (eVar 1) aNil)) aNil))) (zA0 (eC (.int 0)) (zA0 (eVar 3) (zA0 (eCB max2B (zA0 (eC (.int 1)) (zA0 (eCB absB (zA0 (eVar 4) aNil)) aNil))) aNil)))))) zAt)
  (sRet (eTup (zA0 (eVar 1) (zA0 (eVar 2) (zA0 (eVar 3) (zA0 (eVar 4) aNil))))))))
noncomputable def zBn:Fn:=zAk 1 5 zCg
noncomputable def zEz:SM:=
  (sSeq (sSet 2 (eNew (eLst aNil)))
  (sSeq (sFor (zAi (zA0 (eVar 1) aNil)) (gName 3) (sSeq (sSet 4 (zA2 zA1 (zA0 (eVar 0) (zA0 (eC (.int 25)) aNil))))
  (sSeq (zDn (tB (eOp inK (eTup (zA0 (eOp subD (eOp modD (eVar 4) (eC (.int 5))) (eC (.int 2))) (zA0 (eOp subD (eOp zDw (eVar 4) (eC (.int 5))) (eC (.int 2))) aNil))) (eVar 2))) (sSet 4 (eOp modD (eOp addD (eVar 4) (eC (.int 1))) (eC (.int 25)))))
  (zGy (eMt "list" zBv (eVar 2) (zA0 (eTup (zA0 (eOp subD (eOp modD (eVar 4) (eC (.int 5))) (eC (.int 2))) (zA0 (eOp subD (eOp zDw (eVar 4) (eC (.int 5))) (eC (.int 2))) aNil))) aNil))))))
  (sRet (eCB zBb (zA0 (eVar 2) aNil)))))
noncomputable def zC5:Fn:=zAk 2 5 zEz
noncomputable def zDb:SM:=
  (sSeq (sSet 1 (eOp ixD (eLst (zA0 (eC (.int 0)) (zA0 (eC (.int 0)) (zA0 (eOp subD (eOp powD (eC (.int 10)) (eC (.int 18))) (eC (.int 40))) (zA0 (eOp subD (eC (.int 40)) (eOp powD (eC (.int 10)) (eC (.int 18)))) aNil))))) (zA2 zA1 (zA0 (eVar 0) (zA0 (eC (.int 4)) aNil)))))
  (sSeq (sSet 2 (zA6 1 [1,0] (zAi (zA0 (zA2 zA1 (zA0 (eVar 0) (zA0 (eC (.int 31)) aNil))) aNil)) (gName 0) tYes (eTup (zA0 (eOp addD (eVar 1) (zA2 zA1 (zA0 (eVar 2) (zA0 (eC (.int 8)) aNil)))) (zA0 (zA2 zA1 (zA0 (eVar 2) (zA0 (eC (.int 8)) aNil))) aNil)))))
  (sRet (eCB zAf (zA0 (eUn ssK (eVar 2)) aNil)))))
noncomputable def zC6:Fn:=zAk 1 3 zDb
noncomputable def zF0:SM:=
  (sSeq (sSet 2 (eOp addD (eC (.int 1)) (zA2 zA1 (zA0 (eVar 0) (zA0 (eCB lenB (zA0 (eVar 1) aNil)) aNil)))))
  (sSeq (sSet 3 (zA6 1 [2,1] (zAi (zA0 (eOp shlD (eC (.int 1)) (eCB lenB (zA0 (eVar 1) aNil))) aNil)) (gName 0) (tB (eOp eqI (eCB sumI (zA0 (zA6 1 [0] (zAi (zA0 (eCB lenB (zA0 (eVar 2) aNil)) aNil)) (gName 0) tYes (eOp andD (eOp shrD (eVar 1) (eVar 0)) (eC (.int 1)))) aNil)) (eVar 1))) (eVar 0)))
  (sRet (eCB zAf (zA0 (eCB zBb (zA0 (zA6 1 [1] (iVal (eVar 3)) (gName 0) tYes (zA2 zBd (zA0 (eVar 1) (zA0 (eVar 0) aNil)))) aNil)) aNil)))))
noncomputable def zBj:Fn:=zAk 2 4 zF0
noncomputable def zLj:SM:=
  (sRet (eCB zAf (zA0 (zA6 1 [0] (iVal (eVar 1)) (gName 0) tYes (zA2 zQz (zA0 (eVar 1) (zA0 (eVar 0) aNil)))) aNil)))
noncomputable def zDj:Fn:=zAk 2 2 zLj
noncomputable def zEy:SM:=
  (sRet (eCB zAf (zA0 (zA6 1 [1] (iVal (eVar 0)) (gName 0) tYes (zA2 zB1 (zA0 (eVar 0) (zA0 (eVar 1) aNil)))) aNil)))
noncomputable def zAj:Fn:=zAk 2 2 zEy
noncomputable def yAg:SM:=
  (sSeq (sSet 2 (zA2 zEr (zA0 (eVar 0) aNil)))
  (sSeq (sSet 3 (zA2 zDi (zA0 (eVar 0) (zA0 (eVar 2) aNil))))
  (sSeq (sSet 4 (zA2 zBt (zA0 (eVar 2) (zA0 (eVar 1) aNil))))
  (sSeq (sSet 5 (eNew (eDct false)))
  (sSeq (sFor (zQs (eVar 4)) (gName 6) (sIf (tB (eOp zBf (eVar 6) (eVar 5))) (sPut putD (eVar 5) (eVar 6) (zA2 zBm (zA0 (eVar 6) (zA0 (eVar 3) aNil)))) zAt))
  (sRet (eCB zAf (zA0 (eCB zBb (zA0 (zA6 1 [5,4] (zQt (eVar 4)) (gName 0) (tTru (eOp ixD (eVar 1) (eOp ixD (eVar 2) (eVar 0)))) (eVar 0)) aNil)) aNil))))))))
noncomputable def zD4:Fn:=zAk 2 7 yAg
noncomputable def zDu:SM:=
  (sSeq (sSet 2 (eNew (eLst aNil)))
  (sSeq (sFor (zAi (zA0 (eVar 1) aNil)) (gName 3) (sSeq (sUnp (gTup [(gName 4),(gName 5)]) (zA2 zB2 (zA0 (eVar 0) aNil)))
  (sSeq (zDn (tB (eOp inK (eTup (zA0 (eVar 4) (zA0 (eVar 5) aNil))) (eVar 2))) (sSet 4 (eOp subD (eOp modD (eOp addD (eVar 4) (eC (.int 1001))) (eC (.int 2001))) (eC (.int 1000)))))
  (zGy (eMt "list" zBv (eVar 2) (zA0 (eTup (zA0 (eVar 4) (zA0 (eVar 5) aNil))) aNil))))))
  (sRet (eCB zBb (zA0 (eVar 2) aNil)))))
noncomputable def zAw:Fn:=zAk 2 6 zDu
noncomputable def zDs:SM:=
  (sRet (eCB zAf (zA0 (eCB zBb (zA0 (zA2 zDj (zA0 (eVar 1) (zA0 (eVar 0) aNil))) aNil)) aNil)))
noncomputable def zBl:Fn:=zAk 2 2 zDs
noncomputable def zJ2:SM:=
  (sRet (eCB zAf (zA0 (eCB zBb (zA0 (zA6 1 [1] (iVal (eVar 0)) (gName 0) tYes (zA2 zBl (zA0 (eVar 0) (zA0 (eVar 1) aNil)))) aNil)) aNil)))
noncomputable def zAn:Fn:=zAk 2 2 zJ2
noncomputable def zJ3:SM:=
  (sSeq (sSet 3 (zA2 zAq (zA0 (zA6 1 [1] (iVal (eVar 0)) (gName 0) tYes (zA6 1 [1] (iVal (eVar 0)) (gName 0) tYes (zA2 zAh (zA0 (eVar 0) (zA0 (eVar 1) aNil))))) aNil)))
  (sSeq (sFor (zAi (zA0 (eC (.int 2)) aNil)) (gName 4) (sSeq (sIf (tB (eOp neK (eCB zBx (zA0 (zA2 zAj (zA0 (eVar 0) (zA0 (eVar 1) aNil))) aNil)) (eCB zBx (zA0 (eVar 3) aNil)))) (sRet (eC (.bl false))) zAt)
  (sIf (tB (eOp neK (eCB zBx (zA0 (zA2 zAn (zA0 (eVar 0) (zA0 (eVar 2) aNil))) aNil)) (eCB zBx (zA0 (zA2 zAq (zA0 (zA6 1 [2] (iVal (eVar 0)) (gName 0) tYes (zA6 1 [1] (iVal (eVar 0)) (gName 0) tYes (zA2 zAd (zA0 (eVar 1) (zA0 (eVar 0) aNil))))) aNil)) aNil)))) (sRet (eC (.bl false))) zAt)))
  (sRet (eOp eqK (zA2 zAj (zA0 (eVar 3) (zA0 (eTup (zA0 (eOp subD (eC (.int 0)) (eOp ixD (eVar 1) (eC (.int 0)))) (zA0 (eOp subD (eC (.int 0)) (eOp ixD (eVar 1) (eC (.int 1)))) aNil))) aNil))) (eVar 0)))))
noncomputable def zC4:Fn:=zAk 3 5 zJ3
noncomputable def zBo:SM:=
  (sSeq (sUnp (gTup [(gName 2),(gName 3)]) (zA6 1 [0] (zAi (zA0 (eC (.int 2)) aNil)) (gName 0) tYes (zA6 1 [1] (zAi (zA0 (eC (.int 4)) aNil)) (gName 0) tYes (eOp subD (zA2 zA1 (zA0 (eVar 1) (zA0 (eC (.int 5)) aNil))) (eC (.int 2))))))
  (sSeq (sIf (tB (eOp eqK (eOp mulD (eOp ixD (eVar 2) (eC (.int 0))) (eOp ixD (eVar 2) (eC (.int 3)))) (eOp mulD (eOp ixD (eVar 2) (eC (.int 1))) (eOp ixD (eVar 2) (eC (.int 2)))))) (sSet 2 (eLst (zA0 (eC (.int 0)) (zA0 (eOp subD (eC (.int 0)) (eC (.int 1))) (zA0 (eC (.int 1)) (zA0 (eC (.int 0)) aNil)))))) zAt)
  (sSeq (sIf (tB (eOp eqK (eOp mulD (eOp ixD (eVar 3) (eC (.int 0))) (eOp ixD (eVar 3) (eC (.int 3)))) (eOp mulD (eOp ixD (eVar 3) (eC (.int 1))) (eOp ixD (eVar 3) (eC (.int 2)))))) (sSet 3 (eLst (zA0 (eC (.int 2)) (zA0 (eC (.int 1)) (zA0 (eC (.int 0)) (zA0 (eC (.int 1)) aNil)))))) zAt)
  (sSeq (sPar [4,5] (zA0 (zA2 zAd (zA0 (eVar 3) (zA0 (eTup (zA0 (eOp ixD (eVar 2) (eC (.int 0))) (zA0 (eOp ixD (eVar 2) (eC (.int 2))) aNil))) aNil))) (zA0 (zA2 zAd (zA0 (eVar 3) (zA0 (eTup (zA0 (eOp ixD (eVar 2) (eC (.int 1))) (zA0 (eOp ixD (eVar 2) (eC (.int 3))) aNil))) aNil))) aNil)))
  (sSeq (sSet 6 (eTup (zA0 (eOp ixD (eVar 4) (eC (.int 0))) (zA0 (eOp ixD (eVar 5) (eC (.int 0))) (zA0 (eOp ixD (eVar 4) (eC (.int 1))) (zA0 (eOp ixD (eVar 5) (eC (.int 1))) aNil))))))
  (sRet (eOp eqK (zA2 zAn (zA0 (zA2 zAn (zA0 (eVar 1) (zA0 (eCB zAf (zA0 (eVar 2) aNil)) aNil))) (zA0 (eCB zAf (zA0 (eVar 3) aNil)) aNil))) (zA2 zAn (zA0 (eVar 1) (zA0 (eVar 6) aNil))))))))))
noncomputable def zAs:Fn:=zAk 2 7 zBo
noncomputable def zB4:SM:=
  (sSeq (sSet 3 (zA2 zB5 (zA0 (eVar 0) (zA0 (zA2 zC5 (zA0 (eVar 0) (zA0 (eOp addD (eC (.int 1)) (zA2 zA1 (zA0 (eVar 0) (zA0 (eC (.int 5)) aNil)))) aNil))) (zA0 (eC (.int 5)) aNil)))))
  (sSeq (sSet 4 (zA2 zC6 (zA0 (eVar 0) aNil)))
  (sSeq (sSet 5 (zA2 zD4 (zA0 (eVar 3) (zA0 (eVar 4) aNil))))
  (sSeq (sSet 6 (eCB zAf (zA0 (zA6 1 [1] (iVal (eVar 5)) (gName 0) tYes (zA2 zAh (zA0 (eVar 0) (zA0 (eTup (zA0 (eOp subD (eC (.int 0)) (eOp ixD (eVar 1) (eC (.int 0)))) (zA0 (eOp subD (eC (.int 0)) (eOp ixD (eVar 1) (eC (.int 1)))) aNil))) aNil)))) aNil)))
  (sSeq (sIf (tB (eOp neK (eCB zBx (zA0 (zA2 zD4 (zA0 (zA2 zAj (zA0 (eVar 3) (zA0 (eVar 1) aNil))) (zA0 (eVar 4) aNil))) aNil)) (eCB zBx (zA0 (eVar 6) aNil)))) (sRet (eC (.bl false))) zAt)
  (sSeq (sIf (tAnd (tB (eOp gtD (eCB lenB (zA0 (eVar 4) aNil)) (eC (.int 0)))) (tB (eOp gtD (eCB absB (zA0 (eOp ixD (eOp ixD (eVar 4) (eC (.int 0))) (eC (.int 0))) aNil)) (eOp powD (eC (.int 10)) (eC (.int 9)))))) (sRet (eC (.bl true))) zAt)
  (sSeq (sSet 7 (eCB zAf (zA0 (eCB zBb (zA0 (zA6 1 [2] (iVal (eVar 4)) (gName 0) tYes (zA2 zAd (zA0 (eVar 1) (zA0 (eVar 0) aNil)))) aNil)) aNil)))
  (sRet (eOp eqK (zA2 zD4 (zA0 (zA2 zAn (zA0 (eVar 3) (zA0 (eVar 2) aNil))) (zA0 (eVar 7) aNil))) (eCB zAf (zA0 (eCB zBb (zA0 (zA6 1 [2] (iVal (eVar 5)) (gName 0) tYes (zA2 zAd (zA0 (eVar 1) (zA0 (eVar 0) aNil)))) aNil)) aNil)))))))))))
noncomputable def zAr:Fn:=zAk 3 8 zB4
noncomputable def zWg:SM:=
  (sSeq (sFor (zAi (zA0 (eCB max2B (zA0 (eC (.int 2)) (zA0 (eCB min2B (zA0 (eC (.int 4)) (zA0 (eCB lenB (zA0 (eVar 0) aNil)) aNil))) aNil))) aNil)) (gName 1) (sSeq (sSet 2 (zA2 zC7 (zA0 (eVar 0) (zA0 (eVar 1) aNil))))
  (sSeq (sSet 3 (zA2 zB5 (zA0 (eVar 2) (zA0 (zA2 zAw (zA0 (eVar 2) (zA0 (eOp addD (eC (.int 1)) (zA2 zA1 (zA0 (eVar 2) (zA0 (eC (.int 8)) aNil)))) aNil))) (zA0 (eC (.int 9)) aNil)))))
  (sSeq (sIf (tB (eOp eqI (zA2 zA1 (zA0 (eVar 2) (zA0 (eC (.int 4)) aNil))) (eC (.int 0)))) (sSet 3 (zA2 zBj (zA0 (eVar 2) (zA0 (zA2 zAw (zA0 (eVar 2) (zA0 (eOp addD (eC (.int 4)) (zA2 zA1 (zA0 (eVar 2) (zA0 (eC (.int 4)) aNil)))) aNil))) aNil)))) zAt)
  (sSeq (sPar [4,5] (zA0 (zA2 zB2 (zA0 (eVar 2) aNil)) (zA0 (zA2 zBn (zA0 (eVar 2) aNil)) aNil)))
  (sSeq (sIf (tOr (tNot (tTru (zA2 zC4 (zA0 (eVar 3) (zA0 (eVar 4) (zA0 (eVar 5) aNil)))))) (tNot (tTru (zA2 zAs (zA0 (eVar 2) (zA0 (eVar 3) aNil)))))) (sRet (eC (.bl false))) zAt)
  (sIf (tNot (tTru (zA2 zAr (zA0 (eVar 2) (zA0 (eVar 4) (zA0 (eVar 5) aNil)))))) (sRet (eC (.bl false))) zAt)))))))
  (sRet (eC (.bl true))))
noncomputable def zL1:Fn:=zAk 1 6 zWg
end
end DP
namespace TS
open PySem
open Sem (wp)
def DAt(h:Heap)(a:Addr)(es:Array DictEntry)(ep:Nat):Prop:=∃o,h.get? a=some o/\o.ExactDict/\o.data=.dict es ep
noncomputable abbrev itN (b:Bool):String:=if b then "dict_keyiterator" else "dict_valueiterator"
def DIt(b:Bool)(h:Heap)(it d:Addr)(i n ep:Nat):Prop:=∃o,h.get? it=some o/\o.cls=.type (itN b)/\o.data=.fields #[.ref d,.int i 0,.int n 0,.int ep 0]
noncomputable abbrev diO (b:Bool) (d:Addr) (n ep:Nat):Obj:={ cls:=.type (itN b),data:=.fields #[.ref d,.int 0 0,.int n 0,.int ep 0] }
theorem DIt.at{h h':Heap}(x:DIt b h it d i n ep)(k:∀o,h.get? it=some o->h'.get? it=some o):DIt b h' it d i n ep:=let ⟨o,ho,r⟩:=x;⟨o,k _ ho,r⟩
theorem DAt.ty{s:Shared}{ep:Nat}(x:DAt s.heap a es ep):s.TypeIs (.ref a) "dict":=let ⟨o,ho,hc,_⟩:=x;⟨o,ho,hc.1⟩
section
variable {prog:Program}{w:World}{A:Around}{E:Value->Shared->Prop}{s:Shared}{d it:Addr}{es:Array DictEntry}{ep i:Nat}
theorem yA8{Q:Value->Shared->Prop}(hd:(d == sysModules)=false)(hm:DAt s.heap d es ep)(hQ:Q (.ref s.heap.objs.size) { s with heap:=s.heap.push (diO true d es.size ep) }):wpAny (model prog w) A (pyIter (.ref d)) Q E s:=by have hT:=hm.ty;obtain⟨o,ho,hc,hx⟩:=hm;refine yc hT F.slot_dict_iter (xK F.slot_dict_iter hT F.entry_dict_iter ?_ (F.args_dict_iter_1 _));refine(xc (xc (wpAny_notOrdered_dict hT (xh ?_))));refine(show wpAny _ _ (Builtin.Dict.showsAll d >>= _) _ _ s from xc ?_);unfold Builtin.Dict.showsAll;rw[xg (by rw[hd];exact vE)];refine xh (xc (ua ho hx (xc (uA ho hx (xc (xQ (xh ⟨_,rfl,"dict_keyiterator",_,⟨_,xv _ rfl,rfl⟩,ym.lookup,?_⟩)))))));simpa[rawInt,diO,itN]using hQ
theorem zWu{Q:Value->Shared->Prop}(hv:s.heap.IsValuesView v d)(hm:DAt s.heap d es ep)(hQ:Q (.ref s.heap.objs.size) { s with heap:=s.heap.push (diO false d es.size ep) }):wpAny (model prog w) A (pyIter (.ref v)) Q E s:=by have hT:=hv.typeIs;obtain⟨ov,hov,_,hdv⟩:=hv;obtain⟨o,ho,hc,hx⟩:=hm;refine yc hT F.slot_dict_values_iter (xK F.slot_dict_values_iter hT F.entry_dict_values_iter ?_ (F.args_dict_values_iter_1 _));refine(xc (xh (xc (xc (vq hov hdv rfl (xh (xc ?_)))))));unfold Builtin.Dict_items.newIterator;refine xc (ua ho hx (xc (uA ho hx ?_)));simp only[show Builtin.Dict_items.ownsTuple "dict_valueiterator"=false by decide,xU,xJ];refine xQ (xh ⟨_,rfl,"dict_valueiterator",_,⟨_,xv _ rfl,rfl⟩,yn.lookup,?_⟩);simpa[rawInt,diO,itN]using hQ
theorem zZb{Q:Value->Shared->Prop}(hv:s.heap.IsItemsView v d)(hm:DAt s.heap d es ep)
  (hQ:Q (.ref s.heap.objs.size) { s with heap:=s.heap.push { cls:=.type "dict_itemiterator",data:=.fields #[.none,.bool false,.ref d,.int 0 0,.int es.size 0,.int ep 0,.none,.none] } }):wpAny (model prog w) A (pyIter (.ref v)) Q E s:=by
 have hT:=hv.typeIs;obtain⟨ov,hov,_,hdv⟩:=hv;obtain⟨o,ho,hc,hx⟩:=hm;refine yc hT F.slot_dict_items_iter (xK F.slot_dict_items_iter hT F.entry_dict_items_iter ?_ (F.args_dict_items_iter_1 _));refine(xc (xh (xc (xc (vq hov hdv rfl (xh (xc ?_)))))));unfold Builtin.Dict_items.newIterator;refine xc (ua ho hx (xc (uA ho hx ?_)));simp only[show Builtin.Dict_items.ownsTuple "dict_itemiterator"=true by decide,xr];refine xQ (xh ⟨_,rfl,"dict_itemiterator",_,⟨_,xv _ rfl,rfl⟩,yo.lookup,?_⟩) (by simp only[sizeOk,Builtin.Dict_items.ownedTupleFields,xu,xH,xD,uH,vF];lia);simpa[rawInt,Builtin.Dict_items.ownedTupleFields]using hQ
end
section
variable {prog:Program}{w:World}{A:Around}{E:Value->Shared->Prop}{s:Shared}{d it:Addr}{es:Array DictEntry}{ep i:Nat}{b:Bool}
theorem DIt.ty(x:DIt b s.heap it d i es.size ep):s.TypeIs (.ref it) (itN b):=let ⟨o,ho,hc,_⟩:=x;⟨o,ho,hc⟩
theorem d_nm{Q:String->Shared->Prop}(hT:s.TypeIs (.ref it) (itN b))(h:Q (itN b) s):wpAny (model prog w) A (typeNameOfWhole (.ref it)) Q E s:=by
 cases b
 ·exact wpAny_typeNameOfWhole_valiter hT h
 ·exact wpAny_typeNameOfWhole_keyiter hT h
theorem zRa{ts:List String}{Q:Bool->Shared->Prop}(hT:s.TypeIs (.ref it) (itN b))(h:Q (ts.any λt=>[Value.type (itN b),Value.type "object"].contains (.type t)) s):wpAny (model prog w) A (Builtin.Dict_items.isOneOf (.ref it) ts) Q E s:=by
 cases b
 ·exact wpAny_isOneOf_valiter hT h
 ·exact wpAny_isOneOf_keyiter hT h
theorem yA6{Q:Option Value->Shared->Prop}(hit:DIt b s.heap it d i es.size ep)(hm:DAt s.heap d es ep)(hx:es[i]?=some e)
  (hQ:∀h',DIt b h' it d (i+1) es.size ep->Heap.SameBut it s.heap h'->Q (some (if b then e.key else e.val)) { s with heap:=h' }):wpAny (model prog w) A (pyNext (.ref it)) Q E s:=by
 have hT:=hit.ty;obtain⟨o,ho,hc,hf⟩:=id hit;obtain⟨od,hod,_,hdd⟩:=id hm;have hup:DIt b (s.heap.update it (Obj.mapFields (·.setIfInBounds 1 (rawInt ((i:Int)+1))))) it d (i+1) es.size ep:=⟨_,uj _ ho (yv (v5 hf _)),(Obj.cls_mapFields ..).trans hc,by rw[v5 hf];simp[rawInt]⟩;unfold pyNext;refine xc (vZ ?_);have ow:Builtin.Dict_items.ownsTuple (itN b)=false:=by cases b <;> decide
 cases b
 all_goals
  first
   | refine vi hT yn (xK yn hT F.entry_dict_valueiterator_next ?_ (F.args_dict_valueiterator_next_1 _))
   | refine vi hT ym (xK ym hT F.entry_dict_keyiterator_next ?_ (F.args_dict_keyiterator_next_1 _))
  refine xc (xh (xc (xc (xc (d_nm hT (xh (xc (uT ho hf ?_))))))));simp only[ow,xU,xJ];refine(show wpAny _ _ (if(Value.ref d == Value.none)=true then _ else _) _ _ s from ?_);rw[xg (show ¬ ((Value.ref d == Value.none)=true)from vE)];refine xc (xh (xc (ua hod hdd ?_)));rw[xg (by simp)];refine xc (xh (xc (uA hod hdd ?_)));rw[xg (by simp)];refine xh ?_;simp only[show ¬ ((i:Int)<0)from by nofun,xJ,xZ,hx];refine xc (xc (d_nm hT (xh (xc (zRa hT ?_)))));refine(show wpAny _ _ (setField (.ref it) 1 (rawInt ((i:Int)+1)) >>= _) _ _ s from xc (v3 ho hf (by simp) (xc (xP (xc ?_)))))
 ·refine zRa hup.ty ?_;refine(xc (zRa hup.ty ?_));exact(xh (xh ⟨_,rfl,xh (hQ _ hup (vJ ..))⟩))
 ·refine zRa hup.ty ?_;exact(xh (xh ⟨_,rfl,xh (hQ _ hup (vJ ..))⟩))
theorem yC7{Q:Option Value->Shared->Prop}(hh:A.handled=none)(hit:DIt b s.heap it d i es.size ep)(hm:DAt s.heap d es ep)(hx:es[i]?=none)
  (hQ:∀h',Heap.ExtBut it s.heap h'->Q none { s with heap:=h' }):wpAny (model prog w) A (pyNext (.ref it)) Q E s:=by
 have hT:=hit.ty;obtain⟨o,ho,hc,hf⟩:=id hit;obtain⟨od,hod,_,hdd⟩:=id hm;unfold pyNext;refine xc (vZ ?_);have ow:Builtin.Dict_items.ownsTuple (itN b)=false:=by cases b <;> decide
 cases b
 all_goals
  first
   | refine vi hT yn (xK yn hT F.entry_dict_valueiterator_next ?_ (F.args_dict_valueiterator_next_1 _))
   | refine vi hT ym (xK ym hT F.entry_dict_keyiterator_next ?_ (F.args_dict_keyiterator_next_1 _))
  refine xc (xh (xc (xc (xc (d_nm hT (xh (xc (uT ho hf ?_))))))));simp only[ow,xU,xJ];refine(show wpAny _ _ (if(Value.ref d == Value.none)=true then _ else _) _ _ s from ?_);rw[xg (show ¬ ((Value.ref d == Value.none)=true)from vE)];refine xc (xh (xc (ua hod hdd ?_)));rw[xg (by simp)];refine xc (xh (xc (uA hod hdd ?_)));rw[xg (by simp)];refine xh ?_;simp only[show ¬ ((i:Int)<0)from by nofun,xJ,xZ,hx];refine xc (xc (d_nm hT (xh (show wpAny _ _ (setField (.ref it) 0 .none >>= _) _ _ s from xc (v3 ho hf (by simp) (xc ?_))))));simp only[newExc,newTuple];refine xc (xQ (xc (ur (by first|rfl|(simp only[firstArgMember];rfl)) (xQ ?_ (by size_fits)))) (by size_fits));simp only[raiseNew];refine xc (wpAny_handled ?_);rw[show A.in1.handled=none from hh];refine xc (xh (wpAny_throw ?_));exact xc (v7 ⟨_,xv _ rfl,rfl⟩ isSubtype_stop (xh (hQ _ (((vJ ..).extBut.push _).push _))))
end
section
variable {prog:Program}{w:World}{A:Around}{E:Value->Shared->Prop}{s:Shared}{d it:Addr}{es:Array DictEntry}{ep i:Nat}{ok ov:Value}
theorem zZa{Q:Option Value->Shared->Prop}(hit:IsItemIter s.heap it d i es.size ep ok ov)(hm:DAt s.heap d es ep)(hx:es[i]?=some e)
  (hQ:∀h',IsItemIterOut h' it d (i+1) es.size ep e.key e.val s.heap.objs.size->h'.get? s.heap.objs.size=some { cls:=.type "tuple",data:=.seq #[e.key,e.val] }->h'.objs.size=s.heap.objs.size+1->
   (∀b o,b≠it->s.heap.get? b=some o->h'.get? b=some o)->Q (some (.ref s.heap.objs.size)) { s with heap:=h' }):wpAny (model prog w) A (pyNext (.ref it)) Q E s:=by
 obtain⟨hp,g,dr,tk,os⟩:=s;obtain⟨od,hod,_,hdd⟩:=id hm;have hT:Shared.TypeIs ⟨hp,g,dr,tk,os⟩ (.ref it) "dict_itemiterator":=⟨_,hit,rfl⟩;unfold pyNext;refine xc (vZ (vi hT yo (xK yo hT F.entry_dict_itemiterator_next ?_ (F.args_dict_itemiterator_next_1 _))));refine xc (xh (xc (xc (xc (yz hT (xh (xc (uT hit rfl ?_))))))));simp only[show Builtin.Dict_items.ownsTuple "dict_itemiterator"=true by decide,xr];refine(show wpAny _ _ (if(Value.ref d == Value.none)=true then _ else _) _ _ _ from ?_);rw[xg (show ¬ ((Value.ref d == Value.none)=true)from vE)];refine xc (xh (xc (ua hod hdd ?_)));rw[xg (by simp)];refine xc (xh (xc (uA hod hdd ?_)));rw[xg (by simp)];refine xh ?_;simp only[show ¬ ((i:Int)<0)from by nofun,xJ,xZ,hx];refine xc (xc (yz hT (xh (xc (wpAny_isOneOf_itemiter hT ?_)))));refine(show wpAny _ _ (setField (.ref it) 3 (rawInt ((i:Int)+1)) >>= _) _ _ ⟨hp,g,dr,tk,os⟩from xc (yp hit (by simp) λh1 he1 hs1=>?_))
 replace hs1:Heap.SameBut it hp h1:=hs1
 replace he1:IsItemIter h1 it d (i+1) es.size ep ok ov:=by unfold IsItemIter;rw[show((i+1:Nat):Int)=(i:Int)+1 by nofun];simpa[rawInt]using he1
 have hT1:Shared.TypeIs ⟨h1,g,dr,tk,os⟩ (.ref it) "dict_itemiterator":=⟨_,he1,rfl⟩;refine xc (xP (xc (wpAny_isOneOf_itemiter hT1 (xc (wpAny_isOneOf_itemiter hT1 ?_)))));refine(?_);unfold Builtin.Dict_items.pairFromOwner;refine xc (wpAny_newTuple ?_);have he2:IsItemIter (h1.push { cls:=.type "tuple",data:=.seq #[e.key,e.val] }) it d (i+1) es.size ep ok ov:=xt _ he1;generalize hh2:h1.push { cls:=.type "tuple",data:=.seq #[e.key,e.val] }=h2 at he2;have z1:=hs1.1;have hil:=xq hit;have t2:h2.get? hp.objs.size=some { cls:=.type "tuple",data:=.seq #[e.key,e.val] }:=by rw[<- hh2,<- z1];exact xv _ rfl
 have z2:h2.objs.size=hp.objs.size+1:=by rw[<- hh2,vM,z1]
 have k2:∀b o,b≠it->hp.get? b=some o->h2.get? b=some o:=λb o hb q=>by rw[<- hh2];exact xt _ (hs1.extBut b o hb q)
 refine(show wpAny _ _ (Builtin.Dict_items.ownedTupleIsFree (.ref it) >>= _) _ _ ⟨h2,g,dr,tk,os⟩from ?_);rw[z1];clear hh2 he1 hs1 hT1 z1 h1;refine xc ?_;unfold Builtin.Dict_items.ownedTupleIsFree;refine xc (vq he2 rfl rfl (xh ?_));simp only[xr];refine xc (vq he2 rfl rfl (xc (vq he2 rfl rfl (xc (yp he2 (by simp) λh3 he3 hs3=>?_)))))
 replace hs3:Heap.SameBut it h2 h3:=hs3
 replace he3:IsItemIter h3 it d (i+1) es.size ep e.key ov:=he3
 refine xc (yp he3 (by simp) λh4 he4 hs4=>?_);replace hs4:Heap.SameBut it h3 h4:=hs4
 replace he4:IsItemIter h4 it d (i+1) es.size ep e.key e.val:=he4
 refine xc (yp he4 (by simp) λh5 he5 hs5=>?_);replace hs5:Heap.SameBut it h4 h5:=hs5
 replace he5:IsItemIterOut h5 it d (i+1) es.size ep e.key e.val hp.objs.size:=he5
 refine xc (yp he5 (by simp) λh6 he6 hs6=>?_);replace hs6:Heap.SameBut it h5 h6:=hs6
 replace he6:IsItemIterOut h6 it d (i+1) es.size ep e.key e.val hp.objs.size:=he6
 have ext:∀b o,b≠it->h2.get? b=some o->h6.get? b=some o:=λb o hb q=>hs6.extBut b o hb (hs5.extBut b o hb (hs4.extBut b o hb (hs3.extBut b o hb q)))
 refine xc (wpAny_letGo (xh (xh ⟨_,rfl,xh (hQ h6 he6 (ext _ _ (Nat.ne_of_gt hil) t2) ?_ λb o hb q=>ext b o hb (k2 b o hb q))⟩)));show h6.objs.size=hp.objs.size+1;rw[hs6.1,hs5.1,hs4.1,hs3.1,z2]
theorem yBl{Q:Option Value->Shared->Prop}(hh:A.handled=none)(hit:IsItemIter s.heap it d i es.size ep ok ov)(hm:DAt s.heap d es ep)(hx:es[i]?=none)
  (hQ:∀h',Heap.ExtBut it s.heap h'->Q none { s with heap:=h' }):wpAny (model prog w) A (pyNext (.ref it)) Q E s:=by
 obtain⟨od,hod,_,hdd⟩:=id hm;have hT:s.TypeIs (.ref it) "dict_itemiterator":=⟨_,hit,rfl⟩;unfold pyNext;refine xc (vZ (vi hT yo (xK yo hT F.entry_dict_itemiterator_next ?_ (F.args_dict_itemiterator_next_1 _))));refine xc (xh (xc (xc (xc (yz hT (xh (xc (uT hit rfl ?_))))))));simp only[show Builtin.Dict_items.ownsTuple "dict_itemiterator"=true by decide,xr];refine(show wpAny _ _ (if(Value.ref d == Value.none)=true then _ else _) _ _ _ from ?_);rw[xg (show ¬ ((Value.ref d == Value.none)=true)from vE)];refine xc (xh (xc (ua hod hdd ?_)));rw[xg (by simp)];refine xc (xh (xc (uA hod hdd ?_)));rw[xg (by simp)];refine xh ?_;simp only[show ¬ ((i:Int)<0)from by nofun,xJ,xZ,hx];refine xc (xc (yz hT (xh (show wpAny _ _ (setField (.ref it) 2 .none >>= _) _ _ s from xc (v3 hit rfl (by simp) (xc ?_))))));simp only[newExc,newTuple];refine xc (xQ (xc (ur (by first|rfl|(simp only[firstArgMember];rfl)) (xQ ?_ (by size_fits)))) (by size_fits));simp only[raiseNew];refine xc (wpAny_handled ?_);rw[show A.in1.handled=none from hh];refine xc (xh (wpAny_throw ?_));exact xc (v7 ⟨_,xv _ rfl,rfl⟩ isSubtype_stop (xh (hQ _ (((vJ ..).extBut.push _).push _))))
end
section
variable {prog:Program}{w:World}{A:Around}{E:Value->Shared->Prop}{s:Shared}{d:Addr}
theorem zIq{Q:Value->Shared->Prop}(hd:(d == sysModules)=false)(hT:s.TypeIs (.ref d) "dict")(h:Q (.ref s.heap.objs.size) { s with heap:=s.heap.push { cls:=.type "dict_values",data:=.fields #[.ref d] } }):
  wpAny (model prog w) A (call (.builtin "dict.values") [.ref d]) Q E s:=by
 refine xK F.slot_dict_values hT F.entry_dict_values ?_ (F.args_dict_values_1 _);refine(xc (xc (wpAny_notOrdered_dict hT (xh ?_))));refine(xc ?_);unfold Builtin.Dict.showsAll;rw[xg (by rw[hd];exact vE)];exact xh (xc (xQ (xh ⟨_,rfl,h⟩)))
theorem zLb{Q:Value->Shared->Prop}(hd:(d == sysModules)=false)(hT:s.TypeIs (.ref d) "dict")(h:Q (.ref s.heap.objs.size) { s with heap:=s.heap.push { cls:=.type "dict_items",data:=.fields #[.ref d] } }):
  wpAny (model prog w) A (call (.builtin "dict.items") [.ref d]) Q E s:=by
 refine xK F.slot_dict_items hT F.entry_dict_items ?_ (F.args_dict_items_1 _);refine(xc (xc (wpAny_notOrdered_dict hT (xh ?_))));refine(xc ?_);unfold Builtin.Dict.showsAll;rw[xg (by rw[hd];exact vE)];exact xh (xc (xQ (xh ⟨_,rfl,h⟩)))
theorem zX9{i n ep:Nat}{Q:Value->Shared->Prop}(hT:DIt b s.heap it d i n ep)(h:Q (.ref it) s):wpAny (model prog w) A (pyIter (.ref it)) Q E s:=by
 cases b
 ·exact wpAny_pyIter_valiter hT h
 ·exact wpAny_pyIter_keyiter hT h
end
end TS
namespace L2
open PySem PySem.Spec PyProof.Rows TS
open DS (D Store Exn Rs SR)
section
variable {X:Cx}{K:PySem.W.Frag}{E:XE}{J:Js}{S:Store}{H:Hp}{pins:List (Addr × Obj)}{σ:St}{s:Shared}{a:Addr}{kvs:List (List Key × V)}
theorem zNn(I:Inv X pins σ H s)(rd:Rd H a (.dT kvs)):∃H' ob,Inv X pins σ H' s/\H' a=some (.frz ob (.dT kvs))/\(∀b,b≠a->H' b=H b)/\(H' a=H a\/H a=some (.dT kvs)):=by
 rcases rd with e|⟨ob,e⟩
 ·obtain⟨z,y,xs,r,o,es,ep,h1,h2⟩:=(I.hok a _ e);refine⟨upd H a (.frz o (.dT kvs)),o,?_,zAe,λb hb=>zAb hb,.inr e⟩;refine I.write (by rw[e];exact True.intro) (.inl rfl) (λb q _ z=>z) ⟨o,h1⟩ ⟨h1,z,y,xs,?_,o,es,ep,h1,h2⟩;exact Paired.mapP r λp q z=>⟨z.1,by rw[zAb (zYl z.2.1 e (λz=>nomatch z))];exact z.2.1,z.2.2⟩
 ·exact⟨H,ob,I,e,λ_ _=>rfl,.inl rfl⟩
theorem zGa{H':Hp}(hn:a ∉ J)(ef:H' a=some (.frz ob (.dT kvs)))(he:∀b,b≠a->H' b=H b)(hd:H' a=H a\/H a=some (.dT kvs)):Grow J H J H' where
 pre:=λ_ _ h=>h
 new:=λ_ h n=>absurd h n
 keep:=λb o _ h=>by
  by_cases q:b=a
  ·subst q;rcases hd with z|z
   ·rw[z];exact .inl h
   ·rw[z]at h;cases h;exact .inr ⟨⟨_,rfl⟩,ob,ef⟩
  ·rw[he b q];exact .inl h
 dom:=λb h=>by
  by_cases q:b=a
  ·subst q;rw[ef]at h;cases h
  ·rw[<- he b q];exact h
theorem zIf{H':Hp}(ha:AbS K J S H)(hn:a ∉ J)(g:Grow J H J H')(he:∀b,b≠a->H' b=H b):AbS K J S H':=
 ⟨ha.len,ha.nd,λi c d e q=>by
  obtain⟨o,eo,r⟩:=ha.ob i c d e q;exact⟨o,by rw[he c (λz=>hn (by rw[<- z];exact uF e))];exact eo,r.grow g⟩⟩
theorem AbS.tupOut(ha:AbS K J S H)(h:H c=some (.tup xs)):c ∉ J:=λm=>by
 obtain⟨i,e⟩:=uK.mp m;obtain⟨d,_,o,eo,r⟩:=ha.at e;rw[h]at eo;cases eo;cases d with
 | lst ds=>obtain⟨_,z,_⟩:=r;cases z
 | dct t ks vs=>
  obtain⟨_,z,_⟩:=r;rcases z with⟨_,_,z,_⟩|⟨_,_,z,_⟩ <;> cases z
 | _=>exact r
theorem zFw:∀(k:List Key),RepL K J H (k.map keyD) (k.map kV)
 | []=>rfl
 | .inl i::k=>⟨_,_,rfl,rfl,zFw k⟩
 | .inr x::k=>⟨_,_,rfl,rfl,zFw k⟩
theorem zJj{k:List Key}(ha:AbS K J S H)(h:H c=some (.tup (k.map kV))):Rep K J H (zDv k) (.ref c):=⟨c,_,rfl,⟨h,ha.tupOut h⟩,zFw k⟩
structure FrzD (ob:Obj) (es:Array DictEntry) (ep:Nat) (n:Nat):Prop where
 ex:ob.ExactDict
 dat:ob.data=.dict es ep
 len:es.size=n
theorem zCr(I:Inv X pins σ H s)(h:H a=some (.frz ob (.dT kvs))):∃es ep,FrzD ob es ep kvs.length/\DAt s.heap a es ep/\(a == sysModules)=false /\
  ∀(i:Nat) (p:List Key × V),kvs[i]?=some p->∃(c:Addr) (u:Value) (t:Int),es[i]?=some (DictEntry.mk t (.ref c) u)/\H c=some (.tup (p.1.map kV))/\RelV p.2 u:=by
 obtain⟨h0,z,y,xs,r,o,es,ep,h1,h2,h3,h4,h5⟩:=(I.hok a _ h);rw[h0]at h1;cases h1;have l1:=uB r;have l2:es.size=xs.length:=by have:=congrArg List.length h4;rw[xl,vg]at this;exact this
 refine⟨es,ep,⟨h2,h3,by rw[l2,<- l1]⟩,⟨_,h0,h2,h3⟩,y,λi p hp=>?_⟩;have hi:i<xs.length:=by rw[<- l1];exact(xO.mp hp).1
 have key:∀{l:List (List Key × V)}{m:List (List Key × Addr × Value)}{i:Nat}{p:List Key × V},Paired (fun(p:List Key × V) (q:List Key × Addr × Value)=>p.1=q.1/\H q.2.1=some (.tup (p.1.map kV))/\RelV p.2 q.2.2) l m->l[i]?=some p->∃q,m[i]?=some q/\p.1=q.1/\H q.2.1=some (.tup (p.1.map kV))/\RelV p.2 q.2.2:=by
  intro l m i p r;induction r generalizing i with
  | nil=>intro e;simp at e
  | cons h t ih=>
   intro e;cases i with
   | zero=>simp at e;subst e;exact⟨_,rfl,h⟩
   | succ i=>simpa using ih (by simpa using e)
 obtain⟨q,e1,_,e3,e4⟩:=key r hp;exact⟨q.2.1,q.2.2,(entryOfKey (tupleKind (zAu X.prog X.w)) q).hash,by rw[<- uU,h4,xV,e1];rfl,e3,e4⟩
noncomputable def Itd (b:Bool) (a:Addr) (ob:Obj) (kvs:List (List Key × V)):It:=
  ⟨λi H=>H a=some (.frz ob (.dT kvs))/\i<kvs.length,
   λi H v H'=>H'=H/\H a=some (.frz ob (.dT kvs))/\∃p,kvs[i]?=some p/\((b=true/\∃c,v=.ref c/\H c=some (.tup (p.1.map kV)))\/(b=false/\v=p.2)),
   λi H=>H a=some (.frz ob (.dT kvs))/\kvs.length<=i⟩
theorem zRj{P:Program}{w:World}{tg:Expr}(b:Bool){a it:Addr}{ob:Obj}{es:Array DictEntry}{ep:Nat}(F:FrzD ob es ep kvs.length):Turn P w K tg (Itd b a ob kvs) [it] it (λi h=>DIt b h it a i es.size ep) where
 mem:=by simp
 obj:=λi h st c hc=>by
  rw[xI.mp hc];obtain⟨o,e,_,d⟩:=st;exact⟨o,e,λv z=>by rw[d]at z;cases z⟩
 keep:=λi h h' st k=>st.at λo e=>k it (by simp) o e
 item:=by
  intro X hP hw hK hc i pins s σ H E I hf st hg;subst hP hw hK;obtain⟨ha,hi⟩:=hg;obtain⟨es',ep',F',D,_,get⟩:=zCr I ha;obtain⟨rfl,rfl⟩:es'=es/\ep'=ep:=by have:=F'.dat.symm.trans F.dat;cases this;exact⟨rfl,rfl⟩
  obtain⟨c,u,t,e1,e2,e3⟩:=get i kvs[i] (xF hi);refine yA6 st D e1 λh' it' sb=>⟨_,rfl,?_⟩
  obtain⟨oi,g1,g2,g3⟩:=id it';refine zNk g1 g2 g3 (by cases b <;> decide) ?_;have I2:=I.turnedL (t':=s.toks) hf λc o hc e=>sb.extBut c o (λz=>hc (by simp[z])) e
  have nf:∀b∈[it],H b=none:=λb hb=>(hf b hb).1
  cases b
  ·exact⟨_,H,I2,e3,⟨rfl,ha,_,xF hi,.inr ⟨rfl,rfl⟩⟩,it',nf⟩
  ·exact⟨.ref c,H,I2,rfl,⟨rfl,ha,_,xF hi,.inl ⟨rfl,c,rfl,e2⟩⟩,it',nf⟩
 done:=by
  intro X hP hw hK hc i pins s σ H E I hf st hg;subst hP hw hK;obtain⟨ha,hi⟩:=hg;obtain⟨es',ep',F',D,_,get⟩:=zCr I ha;obtain⟨rfl,rfl⟩:es'=es/\ep'=ep:=by have:=F'.dat.symm.trans F.dat;cases this;exact⟨rfl,rfl⟩
  refine yC7 (I.ok.hd hc) st D (yb (by rw[F.len];exact hi)) λh' x=>⟨rfl,?_⟩
  exact I.turnedL hf λc o hc e=>x c o (λz=>hc (by simp[z])) e
 self:=λA i s Q E st h=>zX9 st h
noncomputable def Iti (a:Addr) (ob:Obj) (kvs:List (List Key × V)):It:=
  ⟨λi H=>H a=some (.frz ob (.dT kvs))/\i<kvs.length,
   λi H v H'=>H a=some (.frz ob (.dT kvs))/\∃p c T,kvs[i]?=some p/\H c=some (.tup (p.1.map kV))/\v=.ref T/\H T=none/\H'=upd H T (.tup [.ref c,p.2]),
   λi H=>H a=some (.frz ob (.dT kvs))/\kvs.length<=i⟩
theorem zX1{P:Program}{w:World}{ts:List Expr}{k:Nat}{tp:Pos}{a it:Addr}{ob:Obj}{es:Array DictEntry}{ep:Nat}(F:FrzD ob es ep kvs.length):Turn P w K (.Tuple ts k tp) (Iti a ob kvs) [it] it (λi h=>∃ok ov,IsItemIter h it a i es.size ep ok ov) where
 mem:=by simp
 obj:=λi h st c hc=>by
  rw[xI.mp hc];obtain⟨_,_,e⟩:=st;exact⟨_,e,λv z=>by cases z⟩
 keep:=λi h h' st k=>let ⟨ok,ov,e⟩:=st;⟨ok,ov,k it (by simp) _ e⟩
 item:=by
  intro X hP hw hK hc i pins s σ H E I hf st hg;subst hP hw hK;obtain⟨ha,hi⟩:=hg;obtain⟨ok,ov,st⟩:=st;obtain⟨es',ep',F',D,_,get⟩:=zCr I ha;obtain⟨rfl,rfl⟩:es'=es/\ep'=ep:=by have:=F'.dat.symm.trans F.dat;cases this;exact⟨rfl,rfl⟩
  obtain⟨c,u,t,e1,e2,e3⟩:=get i kvs[i] (xF hi);have elt:=xq st;have hfr:=I.hok.fresh (xk _);refine zZa st D e1 λh' o1 tp sz kp=>⟨_,rfl,wpAny_letOwnedTupleGo_items o1 λh2 i2 sb=>?_⟩
  have tp2:=sb.extBut _ _ (Nat.ne_of_gt elt) tp;refine⟨.ref s.heap.objs.size,upd H s.heap.objs.size (.tup [.ref c,kvs[i].2]),I.turnedT hf (λb o hb e=>sb.extBut _ _ (λz=>hb (by simp[z])) (kp _ _ (λz=>hb (by simp[z])) e)) (xk _) ⟨by show 2<=sizeLine;decide,[.ref c,u],.cons rfl (.cons e3 .nil),⟨_,tp2,rfl,_,rfl⟩⟩,rfl,⟨ha,_,c,_,xF hi,e2,rfl,hfr,rfl⟩,⟨_,_,i2⟩,λb hb=>?_⟩;rw[xI.mp hb,zAb (xA elt)];exact(hf it (by simp)).1
 done:=by
  intro X hP hw hK hc i pins s σ H E I hf st hg;subst hP hw hK;obtain⟨ha,hi⟩:=hg;obtain⟨ok,ov,st⟩:=st;obtain⟨es',ep',F',D,_,get⟩:=zCr I ha;obtain⟨rfl,rfl⟩:es'=es/\ep'=ep:=by have:=F'.dat.symm.trans F.dat;cases this;exact⟨rfl,rfl⟩
  refine yBl (I.ok.hd hc) st D (yb (by rw[F.len];exact hi)) λh' x=>⟨rfl,?_⟩
  exact I.turnedL hf λc o hc e=>x c o (λz=>hc (by simp[z])) e
 self:=λA i s Q E st h=>let ⟨_,_,e⟩:=st;PySem.W.kcp_self e h
theorem zQm{H':Hp}(hn:a ∉ J)(h:H a=some (.frz ob u))(g:Grow J H J' H'):H' a=some (.frz ob u):=(g.keep a _ hn h).frz
theorem it_d{b:Bool}{gd:List (Nat × D)}(hn:a ∉ J)(h:H a=some (.frz ob (.dT kvs)))(rl:RepL K J H vs (kvs.map (·.2))):ItOk K J H ⟨if b then kvs.map (λp=>zDv p.1)else vs,gd⟩ (Itd b a ob kvs) where
 go:=λi H' J' S' ha g _ hi=>⟨zQm hn h g,by
  cases b
  ·have:=rl.length;rw[xl]at this;rw[<- this];exact hi
  ·simpa using hi⟩
 yld:=λi H' J' S' x H'' ha g _ y d ed=>by
  obtain⟨rfl,hf,p,hp,q⟩:=y;refine⟨ha,.refl,?_⟩;rcases q with⟨rfl,c,rfl,hc⟩|⟨rfl,rfl⟩
  ·rw[xf rfl,xV,hp]at ed;cases ed;exact zJj ha hc
  ·have rl2:=RepL.grow g _ _ rl;obtain⟨x,ex,rx⟩:=rl2.get ed;rw[xV,hp]at ex;cases ex;exact rx
 stop:=λi H' J' S' ha g _ hi=>⟨zQm hn h g,by
  cases b
  ·have:=rl.length;rw[xl]at this;rw[<- this];exact hi
  ·simpa using hi⟩
theorem it_i{gd:List (Nat × D)}(hn:a ∉ J)(h:H a=some (.frz ob (.dT kvs)))(rl:RepL K J H vs (kvs.map (·.2))):ItOk K J H ⟨((kvs.map λp=>zDv p.1).zip vs).map λq=>.tup [q.1,q.2],gd⟩ (Iti a ob kvs):=by
 have l1:vs.length=kvs.length:=by rw[rl.length,xl]
 have l2:(((kvs.map λp=>zDv p.1).zip vs).map λq=>D.tup [q.1,q.2]).length=kvs.length:=by simp[l1]
 refine⟨λi H' J' S' ha g _ hi=>⟨zQm hn h g,by rw[<- l2];exact hi⟩,λi H' J' S' x H'' ha g _ y d ed=>?_,λi H' J' S' ha g _ hi=>⟨zQm hn h g,by rw[<- l2];exact hi⟩⟩;obtain⟨hf,p,c,T,hp,hc,rfl,hT,rfl⟩:=y;have rl2:=RepL.grow g _ _ rl;obtain⟨dv,ev,rv⟩:=rl2.get' (by rw[xV,hp];rfl);have e2:(((kvs.map λp=>zDv p.1).zip vs).map λq=>D.tup [q.1,q.2])[i]?=some (.tup [zDv p.1,dv]):=by rw[xV,List.getElem?_zip_eq_some (z:=(zDv p.1,dv)) |>.mpr ⟨by rw[xV,hp];rfl,ev⟩];rfl
 have ed:=ed.symm.trans e2;cases ed;exact⟨ha.push hT,.push hT,T,_,rfl,⟨zAe,ha.out hT⟩,_,_,rfl,Rep.grow (.push hT) _ _ (zJj ha hc),_,_,rfl,Rep.grow (.push hT) _ _ rv,rfl⟩
theorem zIm(r:Rep K J H (.dct true ks vs) v):∃a kvs,v=.ref a/\a ∉ J/\Rd H a (.dT kvs)/\ks=kvs.map (λp=>zDv p.1)/\RepL K J H vs (kvs.map (·.2)):=by
 obtain⟨a,o,xs,rfl,hn,rd,t,rl⟩:=r;rcases t with⟨z,_⟩|⟨_,kvs,rfl,rfl,rfl⟩
 ·cases z
 ·exact⟨a,kvs,rfl,hn,rd,rfl,rl⟩
theorem zO4{p:List D × List D}(h:DS.dK1 d=some p):d=.dct true p.1 p.2:=by
 unfold DS.dK1 at h;split at h
 ·cases h;rfl
 ·cases h
theorem zVv(he:DE X K E e m)(hK:X.K=K:=by rfl):DI X K E tg e (DS.zQt m):=by
 subst hK;refine⟨⟨λpins s σ H R I hq1=>?_⟩⟩;obtain⟨env,S,J,ha,hE,q⟩:=hq1;refine thn (he.h.h pins s σ H (λx H1=>∃J1 S1 d p,AbS X.K J1 S1 H1/\Rep X.K J1 H1 d x/\DS.dK1 d=some p/\∀J' H',AbS X.K J' S1 H'->Grow J1 H1 J' H'->∀It,ItOk X.K J' H' ⟨p.1,[]⟩ It->R It H') I ⟨env,S,J,ha,hE,q.bind.imp λd S1 J1 H1 _ a1 g1 q1 x rx=>?_⟩) λv s1 hq1=>?_
 ·obtain⟨w,ew,k⟩:=q1.lift;obtain⟨p,e1,rfl⟩:=vU.mp ew;exact⟨J1,S1,d,p,a1,rx,e1,k⟩
 ·obtain⟨x,H1,I1,r1,J1,S1,d,p,a1,rx,ew,k⟩:=hq1;obtain rfl:=zO4 ew;obtain⟨a,kvs,rfl,hn,rd,ek,rl⟩:=zIm rx;cases r1;obtain⟨H2,ob,I2,ef,eo,ed⟩:=zNn I1 rd;obtain⟨es,ep,F,D,ns,_⟩:=zCr I2 ef;have g:=zGa hn ef eo ed;refine yA8 ns D ?_;have hle:=xk s1.heap.objs.size;have I3:=I2.kept (t':=s1.toks) (h':=s1.heap.push (diO true a es.size ep)) λb o e=>xt _ e
  refine⟨_,[s1.heap.objs.size],_,_,H2,rfl,I3,zRj true F,⟨_,xv _ rfl,rfl,rfl⟩,λc hc=>?_,k J1 H2 (zIf a1 hn g eo) g _ ?_⟩
  ·rw[xI.mp hc];exact I2.fpOk hle (I2.hok.fresh hle)
  ·rw[ek];exact it_d (b:=true) hn ef (RepL.grow g _ _ rl)
def rVw(cl:String):V->List V->Hp->VK->Prop:=λx xs H Q=>xs=[]/\∃a,x=.ref a/\IsD H a/\∀p,H p=none->Q (.ref p) (upd H p (.ext λh=>∃o,h.get? p=some o/\o.cls=.type cl/\o.data=.fields #[.ref a]))
theorem zWt(I:Inv X pins σ H s):Inv X pins σ (upd H s.heap.objs.size (.ext λh=>∃o,h.get? s.heap.objs.size=some o/\o.cls=.type cl/\o.data=.fields #[.ref a])) { s with heap:=s.heap.push { cls:=.type cl,data:=.fields #[.ref a] } }:=
 I.laid (λb o e=>xt _ e) (xk _) ⟨⟨_,xv _ rfl,rfl,rfl⟩,⟨_,xv _ rfl⟩,λh1 h2 ⟨o,e,r⟩ k=>⟨o,k o e,r⟩⟩
theorem zMy:MtR X "dict.values" (rVw "dict_values"):=by intro pins s σ H x xs v us Q I rx rs hq33;obtain⟨e,a,ex,hd,k⟩:=hq33;subst e ex;cases rs;cases rx;obtain⟨hT,_,ns⟩:=zS9 I hd;exact zIq ns hT ⟨.ref s.heap.objs.size,_,zWt I,rfl,k _ (I.hok.fresh (xk _))⟩
theorem zQd:MtR X "dict.items" (rVw "dict_items"):=by intro pins s σ H x xs v us Q I rx rs hq34;obtain⟨e,a,ex,hd,k⟩:=hq34;subst e ex;cases rs;cases rx;obtain⟨hT,_,ns⟩:=zS9 I hd;exact zLb ns hT ⟨.ref s.heap.objs.size,_,zWt I,rfl,k _ (I.hok.fresh (xk _))⟩
theorem zNy{apos cpos:Pos}(he:DE X K E o m)(h:nba o=true:=by rfl)(hline:(apos.endLine == cpos.line)=true:=by rfl)(hK:X.K=K:=by rfl):DI X K E tg (.Call (.Attribute o "values" apos) [] [] cpos) (DS.zQs m):=by
 subst hK;refine⟨⟨λpins s σ H R I hq1=>?_⟩⟩;obtain⟨env,S,J,ha,hE,q⟩:=hq1;refine thn ((qbm0' PySem.F.plainAttrs_dict PySem.F.slot_dict_values PySem.F.type_dict_values zMy he.h h hline).h pins s σ H (λy H1=>∃J1 S1 a kvs vs p H0,y=.ref p/\H0 p=none/\H1=upd H0 p (.ext λh=>∃o,h.get? p=some o/\o.cls=.type "dict_values"/\o.data=.fields #[.ref a])/\a ∉ J1/\AbS X.K J1 S1 H1/\Rd H1 a (.dT kvs)/\RepL X.K J1 H1 vs (kvs.map (·.2))/\∀J' H',AbS X.K J' S1 H'->Grow J1 H1 J' H'->∀It,ItOk X.K J' H' ⟨vs,[]⟩ It->R It H') I ⟨env,S,J,ha,hE,q.bind.imp λd S1 J1 H1 _ a1 g1 q1 x rx=>?_⟩) λv s1 hq1=>?_
 ·obtain⟨w,ew,k⟩:=q1.lift;obtain⟨p,e1,rfl⟩:=vU.mp ew;obtain rfl:=zO4 e1;obtain⟨a,kvs,rfl,hn,rd,ek,rl⟩:=zIm rx;refine⟨.inr (.inr (.inl ⟨rfl,.inr ⟨kvs,rd⟩⟩)),rfl,a,rfl,.inr ⟨kvs,rd⟩,λz hz=>?_⟩;have g:Grow J1 H1 J1 (upd H1 z (.ext λh=>∃o,h.get? z=some o/\o.cls=.type "dict_values"/\o.data=.fields #[.ref a])):=.push hz;exact⟨J1,S1,a,kvs,_,z,H1,rfl,hz,rfl,hn,a1.push hz,(g.rd hn rd).1,RepL.grow g _ _ rl,λJ' H' h1 g1=>k J' H' h1 (g.trans g1)⟩
 ·obtain⟨y,H1,I1,r1,J1,S1,a,kvs,vs,p,H0,ey,n0,e0,hn,a1,rd,rl,k⟩:=hq1;subst ey;cases r1;have hv:s1.heap.IsValuesView p a:=by
   obtain⟨z,_⟩:=(I1.hok p _ (by rw[e0];exact zAe));exact z
  obtain⟨H2,ob,I2,ef,eo,ed⟩:=zNn I1 rd;obtain⟨es,ep,F,D,ns,_⟩:=zCr I2 ef;have g:=zGa hn ef eo ed;refine zWu hv D ?_;have hle:=xk s1.heap.objs.size;have I3:=I2.kept (t':=s1.toks) (h':=s1.heap.push (diO false a es.size ep)) λb o e=>xt _ e
  refine⟨_,[s1.heap.objs.size],_,_,H2,rfl,I3,zRj false F,⟨_,xv _ rfl,rfl,rfl⟩,λc hc=>?_,k J1 H2 (zIf a1 hn g eo) g _ ?_⟩
  ·rw[xI.mp hc];exact I2.fpOk hle (I2.hok.fresh hle)
  ·exact it_d (b:=false) hn ef (RepL.grow g _ _ rl)
theorem zR7{apos cpos:Pos}(he:DE X K E o m)(h:nba o=true:=by rfl)(hline:(apos.endLine == cpos.line)=true:=by rfl)(hK:X.K=K:=by rfl):DI X K E (.Tuple ts tk tp) (.Call (.Attribute o "items" apos) [] [] cpos) (DS.zJz m):=by
 subst hK;refine⟨⟨λpins s σ H R I hq1=>?_⟩⟩;obtain⟨env,S,J,ha,hE,q⟩:=hq1;refine thn ((qbm0' PySem.F.plainAttrs_dict PySem.F.slot_dict_items PySem.F.type_dict_items zQd he.h h hline).h pins s σ H (λy H1=>∃J1 S1 a kvs vs p H0,y=.ref p/\H0 p=none/\H1=upd H0 p (.ext λh=>∃o,h.get? p=some o/\o.cls=.type "dict_items"/\o.data=.fields #[.ref a])/\a ∉ J1/\AbS X.K J1 S1 H1/\Rd H1 a (.dT kvs)/\RepL X.K J1 H1 vs (kvs.map (·.2))/\∀J' H',AbS X.K J' S1 H'->Grow J1 H1 J' H'->∀It,ItOk X.K J' H' ⟨((kvs.map λp=>zDv p.1).zip vs).map λq=>.tup [q.1,q.2],[]⟩ It->R It H') I ⟨env,S,J,ha,hE,q.bind.imp λd S1 J1 H1 _ a1 g1 q1 x rx=>?_⟩) λv s1 hq1=>?_
 ·obtain⟨w,ew,k⟩:=q1.lift;obtain⟨p,e1,rfl⟩:=vU.mp ew;obtain rfl:=zO4 e1;obtain⟨a,kvs,rfl,hn,rd,ek,rl⟩:=zIm rx;refine⟨.inr (.inr (.inl ⟨rfl,.inr ⟨kvs,rd⟩⟩)),rfl,a,rfl,.inr ⟨kvs,rd⟩,λz hz=>?_⟩;have g:Grow J1 H1 J1 (upd H1 z (.ext λh=>∃o,h.get? z=some o/\o.cls=.type "dict_items"/\o.data=.fields #[.ref a])):=.push hz;refine⟨J1,S1,a,kvs,_,z,H1,rfl,hz,rfl,hn,a1.push hz,(g.rd hn rd).1,RepL.grow g _ _ rl,λJ' H' h1 g1=>?_⟩;rw[<- ek];exact k J' H' h1 (g.trans g1)
 ·obtain⟨y,H1,I1,r1,J1,S1,a,kvs,vs,p,H0,ey,n0,e0,hn,a1,rd,rl,k⟩:=hq1;subst ey;cases r1;have hv:s1.heap.IsItemsView p a:=by
   obtain⟨z,_⟩:=(I1.hok p _ (by rw[e0];exact zAe));exact z
  obtain⟨H2,ob,I2,ef,eo,ed⟩:=zNn I1 rd;obtain⟨es,ep,F,D,ns,_⟩:=zCr I2 ef;have g:=zGa hn ef eo ed;refine zZb hv D ?_;have hle:=xk s1.heap.objs.size;have I3:=I2.kept (t':=s1.toks) (h':=s1.heap.push { cls:=.type "dict_itemiterator",data:=.fields #[.none,.bool false,.ref a,.int 0 0,.int es.size 0,.int ep 0,.none,.none] }) λb o e=>xt _ e
  refine⟨_,[s1.heap.objs.size],_,_,H2,rfl,I3,zX1 F,⟨_,_,xv _ rfl⟩,λc hc=>?_,k J1 H2 (zIf a1 hn g eo) g _ (it_i hn ef (RepL.grow g _ _ rl))⟩;rw[xI.mp hc];exact I2.fpOk hle (I2.hok.fresh hle)
theorem zUi(hu:X.A.units+1<cLine):MtR X "dict.get" (mOf K DS.getM):=by
 intro pins s σ H x xs v us Q I rx rs hq35;obtain⟨J,S,d1,ds,d,S',ha,r1,rl,e,k⟩:=hq35;unfold DS.getM at e;split at e
 ·rename_i ks vs dk dv el;split at e
  ·rename_i hk;cases e;obtain⟨a,o,ys,rfl,he,q,rv⟩:=zKb ha r1 el;obtain⟨y,t,rfl,ry,rt⟩:=rl;obtain⟨z,rfl,rz⟩:=zCn (ds:=[]) rt;obtain⟨u1,u2,rfl,ru1,ru2⟩:=vals2 rs;cases rx;rcases zIl he q rv ry hk with⟨g,_,h⟩|⟨w,dw,g,_,h,rw'⟩
   ·rw[h]at k;exact zSg hu I g ru1 ru2 λw s' I' r'=>⟨_,H,I',r',k _ H ha .refl rz⟩
   ·rw[h]at k;exact zSg hu I g ru1 ru2 λw' s' I' r'=>⟨_,H,I',r',k _ H ha .refl rw'⟩
  ·cases e
 ·cases e
end
section
variable {X:Cx}{K:PySem.W.Frag}
theorem zS1:OpR X (compareOp .Eq) (r2Of K DS.eqI):=by
 intro pins s σ H x y v u Q I rx ry hq36;obtain⟨J,S,d1,d2,d,ha,r1,r2,e,k⟩:=hq36;unfold DS.eqI at e;split at e
 ·cases e;obtain rfl:=r1;obtain rfl:=r2;obtain⟨t,rfl⟩:=rx;obtain⟨t',rfl⟩:=ry;exact eq_int ⟨.bl _,H,I,rfl,k _ H ha .refl rfl⟩
 ·cases e
end
open EK
open DS (lv)
section
open Classical
variable {X:Cx}{K:PySem.W.Frag}{J:Js}{S:Store}{H:Hp}{d1 d2:D}
theorem zOy{us:List Value}(al:A2 (Ek h n) l us):us.any (λz=>decide (Ek h n d1 z))=true <-> d1∈l:=by
 induction al with
 | nil=>simp
 | @cons d u l us r _ ih=>
  rw[List.any_cons,Bool.or_eq_true,ih,uV,xo];exact or_congr ⟨λq=>q.inj r,λe=>e ▸ r⟩ Iff.rfl
theorem A2.at{α β:Type}{R:α->β->Prop}{l:List α}{m:List β}(h:A2 R l m):∀(i:Nat) (b:β),m[i]?=some b->∃a,l[i]?=some a/\R a b:=by
 induction h with
 | nil=>intro i b e;cases e
 | cons r _ ih=>
  intro i b e;cases i with
  | zero=>cases e;exact⟨_,rfl,r⟩
  | succ i=>exact ih i b e
theorem zN0{s:Shared}{A:Around}{n:Nat}(hu:A.units+64<cLine)(hn:n<=5)(q1:Ek s.heap n d1 u)(al:A2 (Ek s.heap n) l us):∀z∈us,SeqAt.EqAt A.in1 s z u (decide (Ek s.heap n d1 z)):=λz hz=>by
 obtain⟨i,ei⟩:=uK.mp hz;obtain⟨d,_,r⟩:=A2.at al i z ei;refine λprog w E Q hq=>zIj n r q1 (by show A.units+1+n<cLine;lia) ?_
 rw[show decide (d=d1)=decide (Ek s.heap n d1 z)from x4.mpr ⟨λe=>e ▸ r,λq=>r.inj q⟩];exact hq
theorem zSa{Q:VK}(neg:Bool)(hu:X.A.units+64<cLine)(I:Inv X pins σ H s)(rx:RelV x u)(ry:RelV y w)(ha:AbS X.K J S H)(r1:Rep X.K J H d1 x)(r2:Rep X.K J H d2 y)(e:DS.inKO S d1 d2=some b)
  (k:Q (.bl (if neg then !b else b)) H):wpAny (model X.prog X.w) X.A (compareOp (if neg then .NotIn else .In) u w) (EP X pins σ Q) X.xe s:=by
 have hu1:X.A.units+1<cLine:=by nofun
 have seq:∀(l:List D),DS.items S d2=some l->DS.lvs (d1::l)->(b=true <-> d1∈l)->wpAny (model X.prog X.w) X.A (compareOp (if neg then .NotIn else .In) u w) (EP X pins σ Q) X.xe s:=λl e1 hl eb=>by
  obtain⟨n,hn,hl⟩:=hl;obtain⟨a,xs,rfl,hq,rl⟩:=zE5 ha r2 e1;cases ry;have q1:=zIi I n (hl _ (.head _)) r1 rx;rcases hq with hq|hq
  ·obtain⟨its,r,pl,hz⟩:=I.list hq;have al:=zD5 I (λd hd=>hl d (.tail _ hd)) rl r;have ea:its.toArray.any (λz=>decide (Ek s.heap n d1 z))=b:=by rw[u5,eb,<- zOy al];simp
   have hg:=zN0 hu hn q1 al;cases neg with
   | true=>exact SeqAt.notIn_listAt _ pl.isList (λz hz=>hg z (by simpa using hz)) ⟨.bl _,H,I,rfl,by rw[ea];exact k⟩
   | false=>exact SeqAt.in_listAt _ pl.isList (λz hz=>hg z (by simpa using hz)) ⟨.bl _,H,I,rfl,by rw[ea];exact k⟩
  ·obtain⟨its,r,pl,hz⟩:=I.tuple hq;have al:=zD5 I (λd hd=>hl d (.tail _ hd)) rl r;have ea:its.toArray.any (λz=>decide (Ek s.heap n d1 z))=b:=by rw[u5,eb,<- zOy al];simp
   have hg:=zN0 hu hn q1 al;cases neg with
   | true=>exact SeqAt.notIn_tupleAt _ pl (λz hz=>hg z (by simpa using hz)) ⟨.bl _,H,I,rfl,by rw[ea];exact k⟩
   | false=>exact SeqAt.in_tupleAt _ pl (λz hz=>hg z (by simpa using hz)) ⟨.bl _,H,I,rfl,by rw[ea];exact k⟩
 unfold DS.inKO at e;split at e
 ·rename_i l e1;split at e
  ·rename_i h;cases e;exact seq l (zBc (.inl e1)) h uV
  ·cases e
 ·rename_i l e1;split at e
  ·rename_i h;cases e;exact seq l (zBc (.inr e1)) h uV
  ·cases e
 ·rename_i t ks vs e1;split at e
  ·rename_i hk;cases e;obtain⟨a,o,xs,rfl,he,q,rl⟩:=zKb ha r2 e1;cases ry;rcases zIl he q rl r1 hk with⟨g,h,_⟩|⟨w,dv,g,h,_⟩
   ·rw[xy h]at k;cases neg with
    | true=>exact zO2 hu1 I g rx λs' I'=>⟨.bl _,H,I',rfl,k⟩
    | false=>exact d_in hu1 I g rx λs' I'=>⟨.bl _,H,I',rfl,k⟩
   ·rw[xx h]at k;cases neg with
    | true=>exact zO2 hu1 I g rx λs' I'=>⟨.bl _,H,I',rfl,k⟩
    | false=>exact d_in hu1 I g rx λs' I'=>⟨.bl _,H,I',rfl,k⟩
  ·cases e
 ·cases e
theorem zYe(hu:X.A.units+64<cLine)(hK:X.K=K:=by rfl):OpR X (compareOp .In) (r2Of K DS.inK):=by
 subst hK;intro pins s σ H x y v u Q I rx ry hq37;obtain⟨J,S,d1,d2,d,ha,r1,r2,e,k⟩:=hq37;unfold DS.inK at e;cases e1:DS.inKO S d1 d2 with
 | none=>rw[e1]at e;cases e
 | some b=>rw[e1]at e;cases e;exact zSa false hu I rx ry ha r1 r2 e1 (k _ H ha .refl rfl)
theorem zMq(hu:X.A.units+64<cLine)(hK:X.K=K:=by rfl):OpR X (compareOp .NotIn) (r2Of K DS.zBf):=by
 subst hK;intro pins s σ H x y v u Q I rx ry hq38;obtain⟨J,S,d1,d2,d,ha,r1,r2,e,k⟩:=hq38;unfold DS.zBf at e;cases e1:DS.inKO S d1 d2 with
 | none=>rw[e1]at e;cases e
 | some b=>rw[e1]at e;cases e;exact zSa true hu I rx ry ha r1 r2 e1 (k _ H ha .refl rfl)
theorem zSk{l m:List D}:((List.range (min l.length m.length)).all (λj=>decide (l[j]?=m[j]?)) && l.length == m.length)=decide (l=m):=by
 by_cases c:l=m
 ·subst c;simp
 ·rw[xy c];refine Bool.eq_false_iff.mpr λz=>c ?_
  rw[xE,vV]at z;have hl:l.length=m.length:=by simpa using z.2
  refine List.ext_getElem? λi=>?_
  by_cases hi:i<l.length
  ·exact uR (z.1 i (vx.mpr (by nofun)))
  ·rw[vS (by nofun),vS (by nofun)]
theorem zYc(hu:X.A.units+64<cLine)(hK:X.K=K:=by rfl):OpR X (compareOp .NotEq) (r2Of K DS.neK):=by
 subst hK;intro pins s σ H x y v u Q I rx ry hq39;obtain⟨J,S,d1,d2,d,ha,r1,r2,e,k⟩:=hq39;unfold DS.neK at e;split at e
 ·cases e;obtain rfl:=r1;obtain rfl:=r2;obtain⟨t,rfl⟩:=rx;obtain⟨t',rfl⟩:=ry;exact ne_int ⟨.bl _,H,I,rfl,k _ H ha .refl rfl⟩
 ·cases e;obtain rfl:=r1;obtain rfl:=r2;cases rx;cases ry;exact SeqAt.RcNeAt.bool_bool _ _ _ _ _ _ ⟨.bl _,H,I,by rw[Bool.beq_eq_decide_eq];exact rfl,k _ H ha .refl rfl⟩
 ·cases e;obtain rfl:=r1;obtain rfl:=r2;obtain⟨t,rfl⟩:=rx;obtain⟨t',rfl⟩:=ry;exact SeqAt.RcNeAt.str_str _ _ _ _ _ _ _ _ ⟨.bl _,H,I,rfl,k _ H ha .refl rfl⟩
 ·rename_i l m;split at e
  ·rename_i hs;cases e;obtain⟨n,hn,hl⟩:=hs;obtain⟨a,xs,rfl,t1,q1⟩:=r1;obtain⟨b,ys,rfl,t2,q2⟩:=r2;cases rx;cases ry;obtain⟨its,va,ta,_⟩:=I.tuple t1.sq;obtain⟨jts,vb,tb,_⟩:=I.tuple t2.sq;have al:=zD5 I (λd hd=>hl d (vD _ hd)) q1 va;have bl:=zD5 I (λd hd=>hl d (xR _ hd)) q2 vb;refine SeqAt.RcNeAt.tuples (e:=λj=>decide (l[j]?=m[j]?)) (ta) (tb) (by nofun) (λj h1 h2=>?_) _ _ _ _ ?_
   ·simp only[xu]at h1 h2;simp only[List.getElem_toArray];obtain⟨d,ed,rd⟩:=A2.at al j _ (xF h1);obtain⟨d',ed',rd'⟩:=A2.at bl j _ (xF h2);rw[ed,ed',show decide (some d=some d')=decide (d=d')from x4.mpr ⟨xM,λz=>by rw[z]⟩];exact λprog w E Q hq=>zIj n rd rd' (by show X.A.units+1+n<cLine;lia) hq
   ·simp only[xu];rw[<- al.length,<- bl.length,zSk];exact⟨.bl _,H,I,rfl,k _ H ha .refl rfl⟩
  ·cases e
 ·cases e
end
open TU
open TS (sObj zF3 adr ordW zD0 zBy zI0 Tab.ft)
open DS (srt dedup)
section
variable {X:Cx}{K:PySem.W.Frag}{E:XE}{J:Js}{S:Store}{H:Hp}{d d1 d2:D}{v:V}{pins:List (Addr × Obj)}{σ:St}{s:Shared}
theorem zUj{A:Around}{EE:Value->Shared->Prop}{dp:Nat}{l:List D}{Q:Value->Shared->Prop}(I:Inv X pins σ H s)(hh:A.handled=none)(hu:A.units+20<cLine)(hq:Rd H a (.lst ys))(rl:RepL K J H l ys)(hdp:dp+1<=6)(hl:∀x∈l,lv (dp+1) x)(hz:l.length<=1199)
  (h:∀(h':Heap) (tk:Nat) (es:Array (Int × Value)) (κ:Addr->D),IsS dp κ h' s.heap.objs.size es (zF3 X.w)->es.size<=l.length->SGood K J H κ es l->(∀b o,s.heap.get? b=some o->h'.get? b=some o)->Q (.ref s.heap.objs.size) { s with heap:=h',toks:=tk }):
  wpAny (model X.prog X.w) A (call (.type "set") [.ref a]) Q EE s:=by
 obtain⟨z,its,c,rv,_,ho⟩:=I.lstR hq;have hk:=zD5 I hl rl rv;have key:∀u∈its,∃b d x,u=.ref b/\d∈l/\kd s.heap (dp+1) (.ref b)=d/\Ek s.heap (dp+1) d (.ref b)/\Rep K J H d x/\RelV x u:=λu hm=>by
  obtain⟨d,x,md,rx,rq⟩:=zM7 rl rv u hm;have q:=zIi I (dp+1) (hl d md) rx rq;have q0:=q;obtain⟨ds,b,ob,items,k,rfl,rfl,_⟩:=q;exact⟨b,_,x,rfl,md,zId q0,q0,rx,rq⟩
 have post:∀(h':Heap) (tk:Nat) (es:Array (Int × Value)),IsS dp (λb=>kd s.heap (dp+1) (.ref b)) h' s.heap.objs.size es (zF3 X.w)->es.size<=its.toArray.size->(∀e∈es.toList,e.2∈its.toArray.toList)->(∀v∈its.toArray.toList,∃e∈es.toList,kv (λb=>kd s.heap (dp+1) (.ref b)) e=(λb=>kd s.heap (dp+1) (.ref b)) (adr v))->
   (∀b o,b<s.heap.objs.size->s.heap.get? b=some o->h'.get? b=some o)->Q (.ref s.heap.objs.size) { s with heap:=h',toks:=tk }:=λh' tk es i1 z1 m1 cv k1=>by
  refine h h' tk es _ i1 (by rw[hk.length];simpa using z1) ⟨λd=>?_,λe he=>?_⟩ λb o e=>k1 b o (xq e) e
  ·constructor
   ·intro hm;obtain⟨e,he,rfl⟩:=xn.mp hm;obtain⟨b,d,x,eb,md,ek,_,_,_⟩:=key e.2 (by simpa using m1 e he);unfold kv;rw[eb];show kd s.heap (dp+1) (.ref b)∈l;rw[ek];exact md
   ·intro hm;obtain⟨u,hu',q⟩:=hk.mem_l d hm;obtain⟨e,he,ek⟩:=cv u (by simpa using hu');refine xn.mpr ⟨e,he,ek.trans ?_⟩;have q0:=q;obtain⟨ds,b,ob,items,k,rfl,rfl,_⟩:=q;exact zId q0
  ·obtain⟨b,d,x,eb,md,ek,_,rx,rq⟩:=key e.2 (by simpa using m1 e he);refine⟨x,?_,rq⟩;unfold kv;rw[eb];show Rep K J H (kd s.heap (dp+1) (.ref b)) x;rw[ek];exact rx
 have kk:∀v∈its.toArray.toList,∃b,v=.ref b/\EA s.heap dp (kd s.heap (dp+1) (.ref b)) b:=λv hv=>by
  obtain⟨b,d,x,eb,md,ek,q,_,_⟩:=key v (by simpa using hv);exact⟨b,eb,by rw[ek];exact q⟩
 have sz:its.toArray.size<=1199:=by simpa[<- hk.length]using hz
 exact zPf hh ⟨_,ho,rfl,c,rfl⟩ (by nofun) hu sz kk post
end
section
variable {X:Cx}{K:PySem.W.Frag}{E:XE}
theorem zZy{p p2 pos pos2:Pos}(hc:X.calm=true)(hu:X.A.units+64<cLine)(he:DE X K E e m)(hgs:Gl X "sorted")(hms:X.mg "sorted"=none)(hgt:Gl X "set")(hmt:X.mg "set"=none)(h:nst e=true:=by rfl)(hK:X.K=K:=by rfl):
  DF X K E (.Call (.Name "sorted" p) [.Call (.Name "set" p2) [e] [] pos2] [] pos) (DS.eUn DS.ssK m):=by
 subst hK;refine⟨⟨λpins s σ H Q I hq1=>?_⟩⟩;obtain⟨env,S,J,ha,hE,q⟩:=hq1;have hs:starEach [e] X.env=[(false,eval e X.env)]:=zBq h;have hs2:starEach [Expr.Call (.Name "set" p2) [e] [] pos2] X.env=[(false,eval (.Call (.Name "set" p2) [e] [] pos2) X.env)]:=rfl;refine uX (zFe I hgs hms PyProof.Rows.boot_sorted (PyProof.Rows.callWith_builtin1 ?_ hs2 rfl));rw[hs2];refine(Calls.spliced_cons ?_);refine uX (zFe I hgt hmt PyProof.Rows.boot_set (yq ?_ hs rfl));rw[hs];refine(Calls.spliced_cons ?_);refine thn (he.h.h pins s σ H (λx H1=>∃J1 S1 d0 d,AbS X.K J1 S1 H1/\Rep X.K J1 H1 d0 x/\DS.ssK S1 d0=some d/\∀p o,H1 p=none->ObD X.K J1 H1 d o->Q (.ref p) (upd H1 p o)) I ⟨env,S,J,ha,hE,q.bind.imp λd0 S1 J1 H1 _ a1 g1 q1 x rx=>?_⟩) λv s1 hq1=>?_
 ·obtain⟨c,ec,k⟩:=q1.lift;exact⟨J1,S1,d0,c,a1,rx,ec,k J1 H1 a1 .refl⟩
 ·obtain⟨x,H1,I1,r1,J1,S1,d0,d,a1,rx,ed,k⟩:=hq1;refine Calls.spliced_nil ?_;unfold DS.ssK at ed;cases e1:DS.litems S1 d0 with
  | none=>rw[e1]at ed;cases ed
  | some l=>
   rw[e1]at ed;dsimp only at ed;split at ed
   ·rename_i hs;cases ed;obtain⟨hz,n,hn,hl⟩:=hs;obtain⟨a,ys,rfl,hq,q⟩:=zCd a1 rx e1;cases r1;refine zUj I1 (I.ok.hd hc) (by nofun) hq q hn hl (by nofun) λh1 tk1 es κ i1 z1 g1 k1=>Calls.spliced_nil ?_
    refine zSz I1 (I.ok.hd hc) (by nofun) i1 hn k1 rfl (xk _) (by nofun) g1 hl λL zs hL r=>k L _ hL ⟨zs,rfl,r⟩
   ·cases ed
end
section
open Classical
variable {X:Cx}{K:PySem.W.Frag}{E:XE}{J:Js}{S:Store}{H:Hp}
theorem zS0(hu:X.A.units+64<cLine)(hK:X.K=K:=by rfl):OpR X (compareOp .Eq) (r2Of K DS.eqK):=by
 subst hK;intro pins s σ H x y v u Q I rx ry hq40;obtain⟨J,S,d1,d2,d,ha,r1,r2,e,k⟩:=hq40;unfold DS.eqK at e;split at e
 ·cases e;obtain rfl:=r1;obtain rfl:=r2;obtain⟨t,rfl⟩:=rx;obtain⟨t',rfl⟩:=ry;exact eq_int ⟨.bl _,H,I,rfl,k _ H ha .refl rfl⟩
 ·rename_i l m;split at e
  ·rename_i hs;cases e;obtain⟨n,hn,hl⟩:=hs;obtain⟨a,xs,rfl,t1,q1⟩:=r1;obtain⟨b,ys,rfl,t2,q2⟩:=r2;cases rx;cases ry;obtain⟨its,va,ta,_⟩:=I.tuple t1.sq;obtain⟨jts,vb,tb,_⟩:=I.tuple t2.sq;have al:=zD5 I (λd hd=>hl d (vD _ hd)) q1 va;have bl:=zD5 I (λd hd=>hl d (xR _ hd)) q2 vb;refine SeqAt.RcAt.tuples (e:=λj=>decide (l[j]?=m[j]?)) (show s.heap.IsTuple a its.toArray from ta) (show s.heap.IsTuple b jts.toArray from tb) (by nofun) (λj h1 h2=>?_) _ _ _ _ ?_
   ·simp only[xu]at h1 h2;simp only[List.getElem_toArray];obtain⟨d,ed,rd⟩:=A2.at al j _ (xF h1);obtain⟨d',ed',rd'⟩:=A2.at bl j _ (xF h2);rw[ed,ed',show decide (some d=some d')=decide (d=d')from x4.mpr ⟨xM,λz=>by rw[z]⟩];exact λprog w E Q hq=>zIj n rd rd' (by show X.A.units+1+n<cLine;lia) hq
   ·simp only[xu];rw[<- al.length,<- bl.length,zSk];exact⟨.bl _,H,I,rfl,k _ H ha .refl rfl⟩
  ·cases e
 ·cases e
end
section
variable {X:Cx}{K:PySem.W.Frag}{J:Js}{S:Store}{H:Hp}{pins:List (Addr × Obj)}{σ:St}{s:Shared}
mutual
theorem zJk(I:Inv X pins σ H s):∀(d:D) (p:PyData) (x:V) (u:Value),DS.pdOf d=some p->Rep X.K J H d x->RelV x u->∃as,Reads s.heap u p as
 | .int i,p,x,u,h,r,ru=>by
  unfold DS.pdOf at h;cases h;obtain rfl:=r;obtain⟨t,rfl⟩:=ru;exact⟨_,.int i t⟩
 | .tup l,p,x,u,h,r,ru=>by
  unfold DS.pdOf at h;obtain⟨q,e,rfl⟩:=vU.mp h;obtain⟨a,xs,rfl,ta,rl⟩:=r;cases ru;obtain⟨its,rv,⟨o,ho,hc,n,hd⟩,_⟩:=I.tuple ta.sq;obtain⟨as,ra⟩:=zH0 I l q xs its e rl rv;exact⟨as,.tuple ho hc hd (by simpa using ra)⟩
 | .non,p,_,_,h,_,_=>by unfold DS.pdOf at h;cases h
 | .bl _,p,_,_,h,_,_=>by unfold DS.pdOf at h;cases h
 | .str _,p,_,_,h,_,_=>by unfold DS.pdOf at h;cases h
 | .ty _,p,_,_,h,_,_=>by unfold DS.pdOf at h;cases h
 | .lst _,p,_,_,h,_,_=>by unfold DS.pdOf at h;cases h
 | .ktup _,p,_,_,h,_,_=>by unfold DS.pdOf at h;cases h
 | .klst _,p,_,_,h,_,_=>by unfold DS.pdOf at h;cases h
 | .dct _ _ _,p,_,_,h,_,_=>by unfold DS.pdOf at h;cases h
 | .st _,p,_,_,h,_,_=>by unfold DS.pdOf at h;cases h
 | .ref _,p,_,_,h,_,_=>by unfold DS.pdOf at h;cases h
theorem zH0(I:Inv X pins σ H s):∀(l:List D) (q:List PyData) (xs:List V) (us:List Value),DS.zCl l=some q->RepL X.K J H l xs->Vals xs us->∃as,ReadsAll s.heap us q as
 | [],q,xs,us,h,r,rv=>by
  unfold DS.zCl at h;cases h;cases(show xs=[]from r);cases rv;exact⟨_,.nil⟩
 | d::l,q,xs,us,h,r,rv=>by
  unfold DS.zCl at h;split at h
  ·rename_i p q' e1 e2;cases h;obtain⟨x,xs',rfl,rx,rl⟩:=r;cases rv with
   | cons ru rv'=>
    obtain⟨as,h1⟩:=zJk I d p x _ e1 rx ru;obtain⟨bs,h2⟩:=zH0 I l q' xs' _ e2 rl rv';exact⟨_,.cons h1 h2⟩
  ·cases h
end
theorem zL7(hu:X.A.units+64<cLine)(hK:X.K=K:=by rfl):zB9 X (.builtin "repr") (cOf K DS.zBx):=by
 subst hK;intro pins s σ H xs us Q I r hq41;obtain⟨J,S,ds,d,ha,rl,e,k⟩:=hq41;unfold DS.zBx at e;split at e
 ·rename_i l;split at e
  ·rename_i p ep;split at e
   ·rename_i hh;cases e;obtain⟨hs,hd,hz⟩:=hh;obtain⟨x,rfl,rx⟩:=zCn (ds:=[]) rl;obtain⟨u,rfl,ru⟩:=vals1 r;obtain⟨as,rd⟩:=zJk I _ p x u ep rx ru;obtain⟨a,xs,rfl,_⟩:=rx;cases ru;exact repr_of_reads' rd hs (PyData.noDict_hsm (DS.zMm _ p ep)) I.ok.gds (by nofun) (λ_ _ e=>e) (λh' u tk kp=>⟨.str p.shown,H,I.kept (t':=tk) kp,⟨u,rfl⟩,k _ H ha .refl rfl⟩) hz
   ·cases e
  ·cases e
 ·cases e
end
section
variable {X:Cx}{K:PySem.W.Frag}{J:Js}{S:Store}{H:Hp}{pins:List (Addr × Obj)}{σ:St}{s:Shared}
theorem zYh(hu:X.A.units+64<cLine)(hK:X.K=K:=by rfl):OpR X (compareOp .Eq) (r2Of K DS.eqE):=by
 subst hK;intro pins s σ H x y v u Q I rx ry hq42;obtain⟨J,S,d1,d2,d,ha,r1,r2,e,k⟩:=hq42;unfold DS.eqE at e;split at e
 ·rename_i l el;cases e;obtain⟨a,xs,rfl,q1,rl⟩:=zJq ha r1 el;obtain⟨b,ys,rfl,q2,r0⟩:=zJq (l:=[]) ha r2 rfl;cases(show ys=[]from r0);cases rx;cases ry;obtain⟨its,va,pa,_⟩:=I.list q1;obtain⟨jts,vb,pb,_⟩:=I.list q2;cases vb;have hl:l.length=its.length:=by rw[rl.length,va.length]
  cases its with
  | nil=>
   cases l with
   | nil=>
    have:=SeqAt.RcAt.lists (A:=X.A) (s:=s) (e:=λ_=>true) pa.isList pb.isList rfl (by nofun) (λj h1 _=>absurd h1 (by simp));exact this _ _ _ _ ⟨.bl _,H,I,rfl,k _ H ha .refl rfl⟩
   | cons=>cases hl
  | cons z its=>
   cases l with
   | nil=>cases hl
   | cons=>
    exact SeqAt.RcAt.lists_lengths pa.isList pb.isList (by simp) (by nofun) _ _ _ _ ⟨.bl _,H,I,rfl,k _ H ha .refl rfl⟩
 ·cases e
end
section
variable {X:Cx}{K:PySem.W.Frag}{J:Js}{S:Store}{H:Hp}
theorem zI2{xs:List Int}:∀(k:Nat),k<=xs.length->preSum (λi=>xs.getD i 0) k=(xs.take k).sum
 | 0,_=>rfl
 | k+1,h=>by
  rw[preSum,zI2 k (Nat.le_of_succ_le h),List.take_succ_eq_append_getElem (show k<xs.length from h),List.sum_append,List.sum_singleton,uM,xF (show k<xs.length from h)];rfl
theorem zRo:∀{xs:List Int},(∀x∈xs,x.natAbs<=2 ^ 50)->xs.sum.natAbs<=xs.length*2 ^ 50
 | [],_=>xT _
 | x::xs,h=>by
  have h1:=zRo (xs:=xs) λy hy=>h y (.tail _ hy)
  have h2:=h x (.head _);rw[List.sum_cons,xD,Nat.succ_mul];lia
theorem zOg(hc:X.calm=true)(hK:X.K=K:=by rfl):zB9 X (.builtin "sum") (cOf K DS.sumI):=by
 subst hK;intro pins s σ H xs us Q I r hq43;obtain⟨J,S,ds,d,ha,rl,e,k⟩:=hq43;unfold DS.sumI at e;split at e
 ·rename_i d0;obtain⟨x,rfl,rx⟩:=zCn (ds:=[]) rl;split at e
  ·rename_i ns e1;split at e
   ·rename_i hm;cases e;unfold DS.lstI at e1;split at e1
    ·rename_i l e2;have el:=DS.zH6 e1;obtain⟨b,ys,rfl,hq,q⟩:=zJq ha rx e2;obtain⟨u,rfl,ru⟩:=vals1 r;cases ru;obtain⟨its,rv,pl,_⟩:=I.list hq;have sz:its.toArray.size=ns.length:=by
      have h1:=q.length;rw[el,xl]at h1;rw[xu,<- rv.length,<- h1]
     have at_:∀(i:Nat) (v:Value),its.toArray[i]?=some v->∃t,v=.int (ns.getD i 0) t:=λi v hv=>by
      rw[el]at q;have hl:=q.length;rw[xl]at hl;have hv':its[i]?=some v:=by simpa using hv
      have hi:i<ns.length:=by rw[hl,rv.length];exact(xO.mp hv').1
      obtain⟨y,hy,ry⟩:=q.get (i:=i) (d:=.int ns[i]) (by rw[xV,xF hi];rfl);obtain rfl:=ry;obtain⟨w,hw,t,ew⟩:=rv.get hy;rw[hv']at hw;cases hw;exact⟨t,by rw[ew,uM,xF hi];rfl⟩
     have fit:∀z:Int,z.natAbs<=1000*2 ^ 50->InLong z:=λz hz=>by unfold InLong;lia
     have hlt:b<s.heap.objs.size:=pl.lt;have hne:b≠s.heap.objs.size:=xA hlt;have W:=Walks.list (prog:=X.prog) (w:=X.w) (A:=X.A.in1) (I.ok.hd hc) s.heap.objs.size b hne its.toArray;refine call_sum_walk (uN pl.isList ⟨_,_,_,_,_,_,λi=>ns.getD i 0,rfl,W,⟨⟨_,xv _ rfl,rfl,rfl⟩,pl.isList.push _⟩,λc hm=>?_,at_,λj hj=>?_,λh' tk t' kp=>?_⟩)
     ·rw[vM];rcases xo.mp hm with z|z
      ·rw[z];exact Nat.lt_succ_self _
      ·rw[xI.mp z];exact uL hlt
     ·rw[sz]at hj;refine⟨fit _ ?_,fit _ ?_⟩
      ·show(ns.getD j 0).natAbs<=_;rw[uM,xF hj];exact xm (hm.2 _ (List.getElem_mem hj)) (by decide)
      ·rw[zI2 (j+1) hj];refine xm (zRo λx hx=>hm.2 x (List.mem_of_mem_take hx)) (Nat.mul_le_mul_right _ ?_);rw[vh];have:=hm.1;lia
     ·rw[sz,zI2 _ (xk _),List.take_length];exact⟨.int _,H,I.kept (t':=tk) λc o e=>kp c o (λz=>xA (xq e) (xI.mp z)) (xt _ e),⟨t',rfl⟩,k _ H ha .refl rfl⟩
    ·cases e1
   ·cases e
  ·cases e
 ·cases e
end
end L2
namespace DS
open PySem (Str)
section
open Classical
theorem zFg{n:Nat}:∀(S:Store),keeps n S S
 | []=>trivial
 | _::r=>⟨.inl rfl,zFg r⟩
theorem zQw{S:Store}{d:D}(h:d.low S.length=true):fin S d S=.ok d S:=by unfold fin;rw[xf (zFg S),xf h,List.take_length]
theorem atN{i:Int}{k:Nat}(h:i=(k:Int))(e:l[k]?=some d):atL l i=some d:=by obtain⟨hk,_⟩:=xO.mp e;unfold atL ixN;rw[xf (by nofun),xf (by nofun)];show l[i.toNat]?=some d;rw[show i.toNat=k by nofun];exact e
theorem atL0 :atL (d::l) 0=some d:=atN rfl rfl
theorem atL1 :atL (d::e::l) 1=some e:=atN rfl rfl
theorem atL2 :atL (d::e::f::l) 2=some f:=atN rfl rfl
theorem atL3 :atL (d::e::f::g::l) 3=some g:=atN rfl rfl
theorem ixT{i:Int}:ixD S (.tup l) (.int i)=atL l i:=rfl
theorem ixL{i:Int}:ixD S (.lst l) (.int i)=atL l i:=rfl
theorem zNd :items S (.tup l)=some l:=rfl
theorem zNe :items S (.lst l)=some l:=rfl
theorem zQh :look S (.tup l)=some (.tup l):=rfl
theorem zQi :look S (.lst l)=some (.lst l):=rfl
theorem zQj{i:Int}:look S (.int i)=some (.int i):=rfl
theorem zUn :look S (.bl b)=some (.bl b):=rfl
theorem zD1{a b:Int}(h:sm a/\sm b):mulD S (.int a) (.int b)=some (.int (a*b)):=xf h
end
end DS
local macro_rules | `(tactic| simp_arith [$ls,*]) => `(tactic| simp only [DS.sSeq, DS.sSet, DS.sRet, DS.yAx, DS.zAt, DS.sIf, DS.sUnp, DS.zGy, DS.sPar, DS.zM3, DS.eVar, DS.eC, DS.eOp, DS.eUn, DS.aNil, DS.zA0, DS.eTup, DS.eLst, DS.eCB, DS.zA2, DS.eSl, DS.pNo, DS.pYes, DS.asI, DS.asB, DS.tB, DS.tAnd, DS.tOr, DS.tNot, DS.tYes, DS.eAnd, DS.eOr, DS.eNot, DS.eIf, DS.Rs.bind_ok, DS.Rs.then_ok, DS.zA5, DS.zKt, DS.gName, DS.gTup, DS.gAll, DS.zNd, DS.zNe, DS.zQh, DS.zQi, DS.zQj, DS.zUn, vO, Option.map_none, vX, yk, List.set_cons_zero, List.set_cons_succ, xD, uH, xp, x8, List.replicate, uq, List.nil_append, vd, Nat.reduceAdd, Nat.reduceSub, Nat.reduceLT, Nat.reduceEqDiff, xr, xJ, DS.addD, DS.subD, DS.ixT, DS.ixL, DS.atL0, DS.atL1, DS.atL2, DS.atL3, uy, Bool.not_false, xU, reduceIte, $ls,*])
namespace DS
open PySem (Str)
section
open Classical
noncomputable abbrev yBh:D:=.str (Str.ofString "seed")
noncomputable abbrev kNum:D:=.str (Str.ofString "number")
noncomputable abbrev yBi:D:=.str (Str.ofString "left")
noncomputable def yBx (seed num:Int) (m:Nat):D:=.dct false [yBh,kNum,yBi] [.int seed,.int num,.ref m]
structure yCh (S:Store) (n m:Nat) (seed num:Int) (left:List Int):Prop where
 d:S[n]?=some (yBx seed num m)
 l:S[m]?=some (.lst (left.map D.int))
 ne:n≠m
 lo:0<=seed
 hi:seed<2147483647
section
variable {S:Store}{n m:Nat}{seed num:Int}{left:List Int}
structure Only (n m:Nat) (S S':Store):Prop where
 len:S'.length=S.length
 at_:∀k,k≠n->k≠m->S'[k]?=S[k]?
theorem Only.refl:Only n m S S:=⟨rfl,λ_ _ _=>rfl⟩
theorem Only.trans(a:Only n m S S')(b:Only n m S' S''):Only n m S S'':=⟨b.len.trans a.len,λk h1 h2=>(b.at_ k h1 h2).trans (a.at_ k h1 h2)⟩
theorem Only.set1(d:D):Only n m S (S.set n d):=⟨by simp,λk h1 _=>vT (xG h1)⟩
theorem zC0{x:Int}(h1:0<=x)(h2:x<2147483648):sm x:=yAt (by nofun) (by nofun)
theorem zIh{a b:Int}(hb:0<b)(hs:sm b):zDw S (.int a) (.int b)=some (.int (a.fdiv b)):=xf ⟨by nofun,hs⟩
theorem zBr{a b:Int}(hb:0<b):modD S (.int a) (.int b)=some (.int (a % b)):=xf hb
end
structure AtJ (env:Env) (j:Nat) (d:D) (env':Env):Prop where
 len:env'.length=env.length
 at_:env'[j]?=some (some d)
 o:∀i:Nat,i≠j->env'[i]?=env[i]?
theorem zA9 :gOk S []:=λ_ h=>nomatch h
def BB(k:Nat)(x:Int):Prop:=x.natAbs<2 ^ k
theorem BB.mul{i j:Nat}{x y:Int}(h:BB i x)(h':BB j y):BB (i+j) (x*y):=by unfold BB at *;rw[Int.natAbs_mul,Nat.pow_add];exact Nat.mul_lt_mul_of_lt_of_le h (xN h') (Nat.two_pow_pos j)
theorem BB.mono{i j:Nat}{x:Int}(h:BB i x)(k:i<=j):BB j x:=xB h (v8 (by decide) k)
theorem BB.add{j:Nat}{x y:Int}(h:BB i x)(h':BB j y):BB (max i j+1) (x+y):=by unfold BB at *;refine uJ (Int.natAbs_add_le x y) ?_;rw[Nat.pow_succ,Nat.mul_two];exact Nat.add_lt_add (xB h (v8 (by decide) (Nat.le_max_left _ _))) (xB h' (v8 (by decide) (Nat.le_max_right _ _)))
theorem BB.neg{x:Int}(h:BB i x):BB i (-x):=by unfold BB at *;rwa[Int.natAbs_neg]
theorem BB.sub{j:Nat}{x y:Int}(h:BB i x)(h':BB j y):BB (max i j+1) (x-y):=by rw[Int.sub_eq_add_neg];exact h.add h'.neg
theorem BB.sm{i:Nat}{x:Int}(h:BB i x)(k:i<=4000):sm x:=xB h (v8 (by decide) (by nofun))
theorem BB.of{k:Nat}{x:Int}(h1:-(2 ^ k:Int)<x)(h2:x<2 ^ k):BB k x:=by
 unfold BB;have:((2 ^ k:Nat):Int)=2 ^ k:=by norm_cast
 lia
theorem BB.lit{x:Int}(h:Nat.ble (x.natAbs+1) (2 ^ k)=true):BB k x:=Nat.le_of_ble_eq_true h
theorem zEi{i j:Nat}{x y:Int}(h:BB i x)(h':BB j y)(hi:i<=4000:=by decide)(hj:j<=4000:=by decide):mulD S (.int x) (.int y)=some (.int (x*y)):=zD1 ⟨h.sm hi,h'.sm hj⟩
theorem zAl{np nl:Nat}{b:SM}{ds:List D}{S:Store}{d:D}(hl:ds.length=np)(h:b (ds.map some++List.replicate (nl-np) none) S=.rt d S)(hd:d.low S.length=true):zAk np nl b ds S=.ok d S:=by unfold zAk;rw[xf hl,h];exact zQw hd
structure Grow (n m:Nat) (S S':Store):Prop where
 len:S.length<=S'.length
 at_:∀k,k<S.length->k≠n->k≠m->S'[k]?=S[k]?
section
variable {n m:Nat}{S S' S'':Store}
theorem Grow.refl:Grow n m S S:=⟨xk _,λ_ _ _ _=>rfl⟩
theorem Grow.trans(a:Grow n m S S')(b:Grow n m S' S''):Grow n m S S'':=⟨xm a.len b.len,λk h h1 h2=>(b.at_ k (xB h a.len) h1 h2).trans (a.at_ k h h1 h2)⟩
theorem Only.grow(a:Only n m S S'):Grow n m S S':=⟨by rw[a.len];exact xk _,λk _ h1 h2=>a.at_ k h1 h2⟩
theorem Grow.app(T:Store):Grow n m S (S++T):=⟨by simp,λk h _ _=>vy h⟩
theorem Grow.set{c:Nat}(a:Grow n m S S')(h:S.length<=c):Grow n m S (S'.set c d):=⟨by simpa using a.len,λk hk h1 h2=>by rw[vT (by nofun)];exact a.at_ k hk h1 h2⟩
theorem zH4{n:Nat}:∀{S S':Store},S.length<=S'.length->(∀(i:Nat) (d:D),i<S.length->S'[i]?=some d->S[i]?=some d\/d.low n=true)->keeps n S S'
 | [],_,_,_=>trivial
 | a::r,[],e,_=>by simp at e
 | a::r,b::t,e,h=>⟨by
   rcases h 0 b (by simp) rfl with q|q
   ·exact .inl (by simpa using q)
   ·exact .inr q,zH4 (by simpa using e) λi d hi q=>by simpa using h (i+1) d (by simpa using hi) (by simpa using q)⟩
end
theorem zPi{k:Int}(h0:0<=k)(h:k<1000000):zFx [.int k]=some ⟨(List.range k.toNat).map fun(i:Nat)=>.int (i:Int),[]⟩:=by show(if fits62 k=true then some (Walk.mk (zFa 0 k) [])else none)=_;rw[xf (by unfold fits62;exact xx ⟨by nofun,by nofun⟩)];unfold zFa;simp
theorem zMx{α:Type}[BEq α][LawfulBEq α]:∀{l m:List α},l.Nodup->(∀x∈l,x∈m)->l.length<=m.length
 | [],_,_,_=>xT _
 | a::l,m,h,hm=>by
  have hn:=vo.mp h;have am:=hm a (.head _);have:=zMx hn.2 λx hx=>(List.mem_erase_of_ne λz=>hn.1 (by subst z;exact hx)).mpr (hm x (.tail _ hx))
  rw[List.length_erase_of_mem am]at this;have:=List.length_pos_of_mem am;rw[xD];lia
theorem zK2{N:Int}{v:Int}{taken:List Int}(hN:(taken.length:Int)<N)(h0:0<=v):∃j:Nat,(v+j) % N ∉ taken/\∀i:Nat,i<j->(v+i) % N∈taken:=by
 have ex:∃j:Nat,(v+j) % N ∉ taken:=by
  apply uP;intro h;have h:∀j:Nat,(v+j) % N∈taken:=λj=>uP λq=>h ⟨j,q⟩
  have nd:((List.range N.toNat).map fun(j:Nat)=>(v+j) % N).Nodup:=by refine vK.mpr ((List.pairwise_lt_range).imp_of_mem λ{a b} ha hb hab e=>?_);have ha:=vx.mp ha;have hb:=vx.mp hb;have d:=Int.emod_eq_emod_iff_emod_sub_eq_zero.mp e.symm;rw[show v+(b:Int)-(v+a)=((b-a:Nat):Int) by nofun,Int.emod_eq_of_lt (by nofun) (by nofun)]at d;lia
  have:=zMx nd λx hx=>by
   obtain⟨j,_,rfl⟩:=xn.mp hx;exact h j
  rw[xl,xY]at this;lia
 obtain⟨j,hj⟩:=ex;induction j using Nat.strongRecOn with
 | _ j ih=>
  by_cases q:∃i:Nat,i<j/\(v+i) % N ∉ taken
  ·obtain⟨i,hi,hn⟩:=q;exact ih i hi hn
  ·exact⟨j,hj,λi hi=>uP λz=>q ⟨i,hi,z⟩⟩
theorem zO9{α β:Type}{h:α->D}{k:β->D}{gd:List (Nat × D)}{g:GM}{e:EM}{I:Env->Prop}{J:Store->Prop}{P:β->Prop}(hg:∀S,J S->gOk S gd):∀(xs:List α) (c:Nat) (env:Env) (S:Store),I env->J S->c+xs.length<=most->
  (∀a∈xs,∀env S,I env->J S->∃env' b S',g S (h a) env=some env'/\I env'/\e env' S=.ok (k b) S'/\P b/\J S')->∃(bs:List β) (S':Store),zCm gd g tYes e c (xs.map h) env S=.ok (bs.map k) S'/\bs.length=xs.length/\(∀b∈bs,P b)/\J S'
 | [],c,env,S,_,hj,_,_=>⟨[],S,by rw[x8,zCm,xf (hg S hj)];rfl,rfl,(λb hb=>nomatch hb),hj⟩
 | a::xs,c,env,S,hi,hj,hk,he=>by
  have hk':c+(xs.length+1)<=most:=hk;obtain⟨env',b,S1,e1,i1,e2,p,j1⟩:=he a (.head _) env S hi hj;obtain⟨bs,S2,e3,l3,p3,j3⟩:=zO9 hg xs (c+1) env' S1 i1 j1 (by nofun) λa ha=>he a (.tail _ ha)
  refine⟨b::bs,S2,?_,by simp[l3],λz hz=>?_,j3⟩
  ·rw[xp,zCm,xf ⟨hg S hj,by nofun⟩,e1];show(tYes env' S).bind _=_;rw[tYes,Rs.bind_ok,xf rfl,e2,Rs.bind_ok,e3,Rs.bind_ok];rfl
  ·rcases xo.mp hz with rfl|z
   ·exact p
   ·exact p3 _ z
theorem zGg{α β:Type}{h:α->D}{k:β->D}{ix:List Nat}{i:IM}{gd:List (Nat × D)}{g:GM}{e:EM}{xs:List α}(I:Env->Prop)(J:Store->Prop)(P:β->Prop)(hi:i env S0=.ok ⟨xs.map h,gd⟩ S)(hg:∀S,J S->gOk S gd)(h0:I (compEnv own ix env))(j0:J S)(hk:xs.length<=most)
  (he:∀a∈xs,∀env S,I env->J S->∃env' b S',g S (h a) env=some env'/\I env'/\e env' S=.ok (k b) S'/\P b/\J S'):∃(bs:List β) (S':Store),zA6 own ix i g tYes e env S0=.ok (.lst (bs.map k)) S'/\bs.length=xs.length/\(∀b∈bs,P b)/\J S':=by
 obtain⟨bs,S',e1,l1,p1,j1⟩:=zO9 hg xs 0 _ S h0 j0 (by nofun) he;refine⟨bs,S',?_,l1,p1,j1⟩;rw[zA6,hi,Rs.bind_ok];rw[e1,Rs.bind_ok]
theorem zNr{α:Type}{h:α->D}{gd:List (Nat × D)}{g:GM}{b:SM}(I:Env->Store->Prop)(hg:∀env S,I env S->gOk S gd):∀(xs:List α) (env:Env) (S:Store),I env S->
  (∀a∈xs,∀env S,I env S->∃env' env'' S',g S (h a) env=some env'/\b env' S=.nx env'' S'/\I env'' S')->∃env' S',forL gd g b (xs.map h) env S=.nx env' S'/\I env' S'
 | [],env,S,hi,_=>⟨env,S,by rw[x8,forL,xf (hg env S hi)],hi⟩
 | a::xs,env,S,hi,he=>by
  obtain⟨env',env'',S1,e1,e2,e3⟩:=he a (.head _) env S hi;obtain⟨e4,S2,e5,e6⟩:=zNr I hg xs env'' S1 e3 λb hb=>he b (.tail _ hb)
  refine⟨e4,S2,?_,e6⟩;rw[xp,forL,xf (hg env S hi),e1];dsimp only;rw[e2];exact e5
section
variable {n m c:Nat}{S S' S0:Store}{d:D}
theorem zWl{l:List D}(h:S[c]?=some (.lst l))(hl:l.length<1000):zBv S (.ref c) [d]=some (.non,S.set c (.lst (l++[d]))):=by
 unfold zBv;simp only[h];have m9:1000<=most:=by decide
 rw[xf (by nofun)]
theorem ty_D(h:S[c]?=some (.lst l)):tyD S (.ref c)=some "list":=by unfold tyD;rw[show look S (.ref c)=_ from h]
end
end
end DS
namespace RW
open Classical
section
variable {α:Type}{rs:List (List α)}
def Sub(q r:List α):Prop:=∀x∈q,x∈r
theorem zUh{l m:List α}(h:l.Nodup)(s:∀x∈l,x∈m):l.length<=m.length:=by
 letI:BEq α:=instBEqOfDecidableEq
 exact DS.zMx h s
end
section
variable {α:Type}{bs:List α}
noncomputable def ix (bs:List α) (x:α):Nat:=bs.findIdx λy=>decide (y=x)
theorem ix_at{x:α}(h:x∈bs):bs[ix bs x]?=some x:=by have w:ix bs x<bs.length:=List.findIdx_lt_length_of_exists ⟨x,h,xx rfl⟩;have e:=List.findIdx_getElem (w:=w);rw[xF w];exact congrArg some (uR e)
theorem ix_inj{x y:α}(hx:x∈bs)(hy:y∈bs)(e:ix bs x=ix bs y):x=y:=by have:=ix_at hx;rw[e,ix_at hy]at this;exact(xM this).symm
noncomputable def mask (bs:List α) (r:List α):Nat:=r.foldl (λm x=>m ||| 2 ^ ix bs x) 0
theorem zN2(i:Nat):∀(r:List α) (m:Nat),(r.foldl (λm x=>m ||| 2 ^ ix bs x) m).testBit i=(m.testBit i || decide (∃x∈r,ix bs x=i))
 | [],m=>by simp
 | x::r,m=>by
  rw[um,zN2 i r,Nat.testBit_or,Nat.testBit_two_pow,Bool.or_assoc];congr 1;rw[u5];simp
theorem mask_bit{r:List α}{i:Nat}:(mask bs r).testBit i=true <-> ∃x∈r,ix bs x=i:=by unfold mask;rw[zN2];simp
end
end RW
namespace DS
section
open Classical
theorem zSd{α:Type}{h:α->D}{gd:List (Nat × D)}{g:GM}{b:SM}(I:List α->Env->Store->Prop)(hg:∀P env S,I P env S->gOk S gd):∀(xs P:List α) (env:Env) (S:Store),I P env S->
  (∀a∈xs,∀P env S,I P env S->∃env' env'' S',g S (h a) env=some env'/\b env' S=.nx env'' S'/\I (P++[a]) env'' S')->∃env' S',forL gd g b (xs.map h) env S=.nx env' S'/\I (P++xs) env' S'
 | [],P,env,S,hi,_=>⟨env,S,by rw[x8,forL,xf (hg P env S hi)],by rw[ug];exact hi⟩
 | a::xs,P,env,S,hi,he=>by
  obtain⟨env',env'',S1,e1,e2,e3⟩:=he a (.head _) P env S hi;obtain⟨e4,S2,e5,e6⟩:=zSd (h:=h) (gd:=gd) (g:=g) (b:=b) I hg xs (P++[a]) env'' S1 e3 λb hb=>he b (.tail _ hb)
  refine⟨e4,S2,?_,by rw[xw]at e6;exact e6⟩;rw[xp,forL,xf (hg P env S hi),e1];dsimp only;rw[e2];exact e5
theorem zEn{n:Nat}:∀(S T:Store),keeps n S (S++T)
 | [],_=>trivial
 | a::S,T=>⟨.inl rfl,zEn S T⟩
theorem zKg{np nl:Nat}{b:SM}{ds:List D}{S:Store}{d:D}{c:Nat}(hl:ds.length=np)(h:b (ds.map some++List.replicate (nl-np) none) S=.rt (.ref c) (S++T))(hc:S.length<=c)(hd:(S++T)[c]?=some d)(lo:d.low S.length=true):zAk np nl b ds S=.ok d S:=by unfold zAk;rw[xf hl,h];dsimp only;unfold fin;rw[xf (zEn S T),xg (by show ¬ decide (c<S.length)=true;simpa using hc)];dsimp only;rw[hd];dsimp only;rw[xf lo,List.take_left]
theorem zFn{np nl:Nat}{b:SM}{ds:List D}{S:Store}{d:D}(hl:ds.length=np)(h:b (ds.map some++List.replicate (nl-np) none) S=.rt d (S++T))(lo:d.low S.length=true):zAk np nl b ds S=.ok d S:=by unfold zAk;rw[xf hl,h];dsimp only;unfold fin;rw[xf (zEn S T),xf lo,List.take_left]
theorem zSh{α:Type}{h f:α->D}{gd:List (Nat × D)}{g:GM}{e:EM}{I:Env->Prop}(hg:gOk S gd):∀(xs:List α) (k:Nat) (env:Env),I env->k+xs.length<=most->
  (∀a∈xs,∀env,I env->∃env',g S (h a) env=some env'/\I env'/\e env' S=.ok (f a) S)->zCm gd g tYes e k (xs.map h) env S=.ok (xs.map f) S
 | [],k,env,_,_,_=>by rw[x8,zCm,xf hg];rfl
 | a::xs,k,env,hi,hk,he=>by
  have hk':k+(xs.length+1)<=most:=hk;obtain⟨env',e1,e2,e3⟩:=he a (.head _) env hi;rw[xp,zCm,xf ⟨hg,by nofun⟩,e1];dsimp only;rw[tYes,Rs.bind_ok,xf rfl,e3,Rs.bind_ok,zSh hg xs (k+1) env' e2 (by nofun) λb hb=>he b (.tail _ hb),Rs.bind_ok];rfl
theorem zCs{α:Type}{h f:α->D}{ix:List Nat}{i:IM}{gd:List (Nat × D)}{g:GM}{e:EM}{xs:List α}(I:Env->Prop)(hi:i env S=.ok ⟨xs.map h,gd⟩ S)(hg:gOk S gd)(h0:I (compEnv own ix env))(hk:xs.length<=most)
  (he:∀a∈xs,∀env,I env->∃env',g S (h a) env=some env'/\I env'/\e env' S=.ok (f a) S):zA6 own ix i g tYes e env S=.ok (.lst (xs.map f)) S:=by
 rw[zA6,hi,Rs.bind_ok];rw[zSh hg xs 0 _ h0 (by nofun) he,Rs.bind_ok]
theorem zO7{α:Type}{h f:α->D}{p:α->Bool}{gd:List (Nat × D)}{g:GM}{c:TM}{e:EM}{I:Env->Prop}(hg:gOk S gd):∀(xs:List α) (k:Nat) (env:Env),I env->k+xs.length<=most->
  (∀a∈xs,∀env,I env->∃env',g S (h a) env=some env'/\I env'/\c env' S=.ok (p a) S/\(p a=true->e env' S=.ok (f a) S))->zCm gd g c e k (xs.map h) env S=.ok ((xs.filter p).map f) S
 | [],k,env,_,_,_=>by rw[x8,zCm,xf hg];rfl
 | a::xs,k,env,hi,hk,he=>by
  have hk':k+(xs.length+1)<=most:=hk;obtain⟨env',e1,i1,e2,e3⟩:=he a (.head _) env hi;rw[xp,zCm,xf ⟨hg,by nofun⟩,e1];show(c env' S).bind _=_;rw[e2,Rs.bind_ok];cases q:p a with
  | true=>
   rw[xf rfl,e3 q,Rs.bind_ok,zO7 hg xs (k+1) env' i1 (by nofun) λb hb=>he b (.tail _ hb),Rs.bind_ok,List.filter_cons,xf q];rfl
  | false=>
   rw[xg (by decide),zO7 hg xs k env' i1 (by nofun) λb hb=>he b (.tail _ hb),List.filter_cons,xg (by rw[q];decide)]
theorem zEt{α:Type}{h f:α->D}{p:α->Bool}{ix:List Nat}{i:IM}{gd:List (Nat × D)}{g:GM}{c:TM}{e:EM}{xs:List α}(I:Env->Prop)(hi:i env S=.ok ⟨xs.map h,gd⟩ S)(hg:gOk S gd)(h0:I (compEnv own ix env))(hk:xs.length<=most)
  (he:∀a∈xs,∀env,I env->∃env',g S (h a) env=some env'/\I env'/\c env' S=.ok (p a) S/\(p a=true->e env' S=.ok (f a) S)):zA6 own ix i g c e env S=.ok (.lst ((xs.filter p).map f)) S:=by
 rw[zA6,hi,Rs.bind_ok];rw[zO7 hg xs 0 _ h0 (by nofun) he,Rs.bind_ok]
theorem zEp{α:Type}{h:α->D}{gd:List (Nat × D)}{g:GM}{b:SM}{ys:List α}(I:List α->Env->Store->Prop)(hg:∀P env S,I P env S->gOk S gd)(he:∀P a R,ys=P++a::R->∀env S,I P env S->∃env' env'' S',g S (h a) env=some env'/\b env' S=.nx env'' S'/\I (P++[a]) env'' S'):∀(xs P:List α) (env:Env) (S:Store),ys=P++xs->I P env S->∃env' S',forL gd g b (xs.map h) env S=.nx env' S'/\I ys env' S'
 | [],P,env,S,e,hi=>⟨env,S,by rw[x8,forL,xf (hg P env S hi)],by rw[e,ug];exact hi⟩
 | a::xs,P,env,S,e,hi=>by
  obtain⟨env',env'',S1,e1,e2,e3⟩:=he P a xs e env S hi;obtain⟨e4,S2,e5,e6⟩:=zEp I hg he xs (P++[a]) env'' S1 (by rw[e];simp) e3;refine⟨e4,S2,?_,e6⟩;rw[xp,forL,xf (hg P env S hi),e1];dsimp only;rw[e2];exact e5
end
end DS
namespace DP
open DS RW
section
open Classical
noncomputable abbrev Pt:=Int × Int
noncomputable abbrev cel (p:Pt):D:=.tup [.int p.1,.int p.2]
noncomputable abbrev rowD (r:List Pt):D:=.tup (r.map cel)
noncomputable abbrev zA3 (R:List (List Pt)):D:=.tup (R.map rowD)
theorem zCt(h:cel p=cel q):p=q:=by have:=(List.cons.inj (D.tup.inj h));exact vp (D.int.inj this.1) (D.int.inj (List.cons.inj this.2).1)
theorem zC1{l:List Pt}:cel p∈l.map cel <-> p∈l:=⟨λh=>by obtain⟨q,hq,e⟩:=xn.mp h;rw[<- zCt e];exact hq,λh=>xn.mpr ⟨p,h,rfl⟩⟩
theorem zS3(p:Pt):lv 1 (cel p):=⟨_,rfl,λx hx=>by
 rcases xo.mp hx with rfl|hx
 ·exact⟨p.1,rfl⟩
 ·exact⟨p.2,xI.mp hx⟩⟩
theorem zBs(l:List Pt):∀y∈l.map cel,lv 1 y:=λy hy=>by obtain⟨p,_,rfl⟩:=xn.mp hy;exact zS3 p
theorem zYs(p:Pt)(l:List Pt):lvs (cel p::l.map cel):=⟨1,by decide,zBs (p::l)⟩
theorem zD8{l m:List Pt}(h:l.map cel=m.map cel):l=m:=(List.map_inj_right λ_ _ e=>zCt e).mp h
theorem zJi(h:rowD q=rowD r):q=r:=zD8 (D.tup.inj h)
theorem zYk :neK S (rowD q) (rowD r)=some (.bl (decide (q≠r))):=by show(if lvs (q.map cel++r.map cel)then some (D.bl (!decide (q.map cel=r.map cel)))else none)=_;rw[xf ⟨1,by decide,by rw[<- vQ];exact zBs _⟩];congr 2;rw[<- decide_not];exact x4.mpr (not_congr ⟨zD8,λe=>by rw[e]⟩)
theorem zAv :∀(l:List Pt),lowL k (l.map cel)=true
 | []=>rfl
 | p::l=>by show((cel p).low k && lowL k (l.map cel))=true;rw[zAv l];rfl
theorem zC2 :∀(l:List (List Pt)),lowL k (l.map rowD)=true
 | []=>rfl
 | r::l=>by show((rowD r).low k && lowL k (l.map rowD))=true;rw[zC2 l,show(rowD r).low k=true from zAv r];rfl
theorem zH2{α:Type}{f:α->Int}:∀(l:List α),lowL k (l.map λx=>.int (f x))=true
 | []=>rfl
 | p::l=>by show(true && lowL k (l.map λx=>D.int (f x)))=true;rw[zH2 l];rfl
theorem zA4{a b:SM}(h:a env S=.nx e S1)(h':b e S1=r):sSeq a b env S=r:=by rw[sSeq,h];exact h'
theorem zRr{a:SM}(h:a env S=.rt d S1):sSeq a b env S=.rt d S1:=by rw[sSeq,h]
theorem tru :truth S (.bl b)=some b:=rfl
theorem zHn{α:Type}{p:α->Bool}:∀l:List α,bools (l.map λx=>D.bl (p x))=some (l.map p)
 | []=>rfl
 | a::l=>by
  have:=zHn (p:=p) l;show(bools (l.map λx=>D.bl (p x))).map (p a::·)=_;rw[this];rfl
theorem yAj{α:Type}{p:α->Prop}[DecidablePred p](l:List α)[Decidable (∃x∈l,p x)]:anyB S [.lst (l.map λx=>.bl (decide (p x)))]=some (.bl (decide (∃x∈l,p x))):=by show((bools (l.map λx=>D.bl (decide (p x)))).map λbs=>D.bl (bs.any id))=_;rw[zHn];show some (D.bl _)=_;congr 2;rw[u5,List.any_eq_true,uV];simp
theorem zQr{t:TM}{b:SM}(h:t env S=.ok false S)(h2:b env S=q):sIf t a b env S=q:=by rw[sIf,h,Rs.then_ok,xg (by decide)];exact h2
theorem zZ9{t:TM}{a:SM}(h:t env S=.ok true S)(h2:a env S=q):sIf t a b env S=q:=by rw[sIf,h,Rs.then_ok,xf rfl];exact h2
theorem zG9{t:TM}{a b:SM}{p:Prop}[Decidable p](h:t env S=.ok (decide p) S):sIf t a b env S=if p then a env S else b env S:=by
 rw[sIf,h,Rs.then_ok];by_cases c:p
 ·rw[xf c,xf (xx c)]
 ·rw[xg c,xg (by simpa using c)]
theorem zBa :zE9 S (.tup l)=some ⟨l,[]⟩:=rfl
theorem zCw :zE9 S (.lst l)=some ⟨l,[]⟩:=rfl
theorem zDh{e:EM}(h:e env S=.ok (.tup l) S):iVal e env S=.ok ⟨l,[]⟩ S:=by rw[iVal,h,Rs.bind_ok,zBa];rfl
theorem eq_int{x y:Int}:eqI S (.int x) (.int y)=some (.bl (decide (x=y))):=rfl
theorem gt_int{x y:Int}:gtD S (.int x) (.int y)=some (.bl (decide (y<x))):=rfl
theorem zYt(r:List Pt):lv 2 (rowD r):=⟨_,rfl,λx hx=>by
 obtain⟨p,_,rfl⟩:=xn.mp hx;exact zS3 p⟩
theorem zIp(h:∀x∈l,∃p,x=cel p):∃ps:List Pt,l=ps.map cel:=by
 induction l with
 | nil=>exact⟨[],rfl⟩
 | cons x l ih=>
  obtain⟨p,rfl⟩:=h x (.head _);obtain⟨ps,e⟩:=ih λy hy=>h y (.tail _ hy)
  exact⟨p::ps,by rw[e];rfl⟩
theorem nd_cel{l:List Pt}:(l.map cel).Nodup <-> l.Nodup:=⟨λh=>(vK.mp h).imp λ{a b} h z=>h (by rw[z]),λh=>vK.mpr (h.imp λ{a b} h z=>h (zCt z))⟩
structure Sr (l cs:List Pt):Prop where
 eq:srt (l.map cel)=cs.map cel
 up:Up (cs.map cel)
 mem:∀p,p∈cs <-> p∈l
 len:cs.length=l.length
 nd:l.Nodup->cs.Nodup
theorem zX8(l:List Pt):∃cs,Sr l cs:=by
 have pm:=zAy (l.map cel);obtain⟨cs,e⟩:=zIp λx hx=>by
  obtain⟨p,_,rfl⟩:=xn.mp (pm.mem_iff.mp hx);exact⟨p,rfl⟩
 refine⟨cs,e,by rw[<- e];exact zEd (zBs l),λp=>?_,?_,λh=>nd_cel.mp (by rw[<- e];exact pm.nodup_iff.mpr (nd_cel.mpr h))⟩
 ·rw[<- zC1,<- e,pm.mem_iff,zC1]
 ·have:=pm.length_eq;rw[e,xl,xl]at this;exact this
noncomputable def sr (l:List Pt):List Pt:=choose (zX8 l)
theorem zBw(l:List Pt):Sr l (sr l):=choose_spec (zX8 l)
theorem zT9(rows:List (List Pt)):∃us:List (List Pt),srt (dedup (rows.map rowD))=us.map rowD/\us.Nodup/\∀r,r∈us <-> r∈rows:=by
 have al:∀x∈srt (dedup (rows.map rowD)),∃r∈rows,x=rowD r:=λx hx=>by
  obtain⟨r,hr,e⟩:=xn.mp (mem_dedup.mp ((zAy _).mem_iff.mp hx));exact⟨r,hr,e.symm⟩
 obtain⟨us,e1⟩:∃us:List (List Pt),srt (dedup (rows.map rowD))=us.map rowD:=by
  generalize srt (dedup (rows.map rowD))=l at al;induction l with
  | nil=>exact⟨[],rfl⟩
  | cons x l ih=>
   obtain⟨r,_,rfl⟩:=al x (.head _);obtain⟨us,e⟩:=ih λy hy=>al y (.tail _ hy)
   exact⟨r::us,by rw[e];rfl⟩
 refine⟨us,e1,?_,λr=>?_⟩
 ·have:(us.map rowD).Nodup:=by rw[<- e1];exact(zAy _).nodup_iff.mpr zD6
  exact(vK.mp this).imp λ{a b} h z=>h (by rw[z])
 ·have m:rowD r∈us.map rowD <-> rowD r∈rows.map rowD:=by rw[<- e1,(zAy _).mem_iff,mem_dedup]
  constructor
  ·intro h;obtain⟨q,hq,e⟩:=xn.mp (m.mp (xn.mpr ⟨r,h,rfl⟩));rw[<- zJi e];exact hq
  ·intro h;obtain⟨q,hq,e⟩:=xn.mp (m.mpr (xn.mpr ⟨r,h,rfl⟩));rw[<- zJi e];exact hq
theorem zTa{n:Nat}(h:n<=1000):zFx [.int (n:Nat)]=some ⟨(List.range n).map fun(i:Nat)=>.int (i:Int),[]⟩:=by
 obtain⟨k,hk⟩:∃k:Int,k=(n:Int):=⟨_,rfl⟩
 rw[<- hk,zPi (by nofun) (by nofun),show k.toNat=n by nofun]
theorem zAz{e:EM}{n:Nat}(h:e env S=.ok (.int (n:Nat)) S')(hn:n<=1000):zAi (zA0 e aNil) env S=.ok ⟨(List.range n).map fun(i:Nat)=>.int (i:Int),[]⟩ S':=by unfold zAi zA0 aNil;rw[h,Rs.bind_ok,Rs.bind_ok,Rs.bind_ok,zTa hn];rfl
theorem plus1{e:EM}{k:Nat}(h:e env S=.ok (.int (k:Nat)) S'):eOp addD (eC (.int 1)) e env S=.ok (.int ((1+k:Nat):Int)) S':=by
 have ad:addD S' (.int 1) (.int (k:Nat))=some (.int ((1+k:Nat):Int)):=by show some (D.int (1+(k:Int)))=_;congr 2
 rw[eOp,eC,Rs.bind_ok,h,Rs.bind_ok,ad];rfl
theorem zH7:∀(l:List Pt) (n:Nat),zDx (l.map cel) n=(l.zipIdx n).map λa=>.tup [.int (a.2:Nat),cel a.1]
 | [],_=>rfl
 | p::l,n=>by
  rw[xp,zDx,zH7 l (n+1)];rfl
noncomputable def picked (cs:List Pt) (m:Nat):List Pt:=(cs.zipIdx.filter λa=>m.testBit a.2).map Prod.fst
theorem zDf(cs:List Pt)(m:Nat):(picked cs m).Sublist cs:=by have:=(List.filter_sublist (p:=λa=>m.testBit a.2) (l:=cs.zipIdx)).map Prod.fst;rw[yA]at this;exact this
noncomputable abbrev natD (n:Nat):D:=.int (n:Int)
noncomputable abbrev dctC (A:List (Pt × D)):D:=.dct true (A.map λa=>cel a.1) (A.map λa=>a.2)
noncomputable def lkA:List (Pt × D)->Pt->Option D
 | [],_=>none
 | a::A,p=>if a.1=p then some a.2 else lkA A p
noncomputable def putA (A:List (Pt × D)) (p:Pt) (v:D):List (Pt × D):=if p∈A.map Prod.fst then A.map (λa=>if a.1=p then(a.1,v)else a)else A++[(p,v)]
theorem zE3 :zBk true (cel p)=true:=rfl
theorem mem_keys{A:List (Pt × D)}:cel p∈A.map (λa=>cel a.1) <-> p∈A.map Prod.fst:=by rw[show(A.map λa=>cel a.1)=(A.map Prod.fst).map cel by rw[xC];rfl];exact zC1
theorem zI8:∀(A:List (Pt × D)) (p:Pt),look2 (A.map λa=>cel a.1) (A.map λa=>a.2) (cel p)=lkA A p
 | [],_=>rfl
 | a::A,p=>by
  rw[xp,xp,look2,lkA];by_cases e:a.1=p
  ·rw[xf (by rw[e]),xf e]
  ·rw[xg λz=>e (zCt z),xg e,zI8 A p]
theorem zRu:∀(A:List (Pt × D)) (p:Pt) (v:D),repl2 (A.map λa=>cel a.1) (A.map λa=>a.2) (cel p) v=(A.map (λa=>if a.1=p then(a.1,v)else a)).map λa=>a.2
 | [],_,_=>rfl
 | a::A,p,v=>by
  rw[xp,xp,xp,xp,repl2,zRu A p v];by_cases e:a.1=p
  ·rw[xf (by rw[e]),xf e]
  ·rw[xg λz=>e (zCt z),xg e]
theorem zXm{A:List (Pt × D)}:put2 (A.map λa=>cel a.1) (A.map λa=>a.2) (cel p) v=((putA A p v).map λa=>cel a.1,(putA A p v).map λa=>a.2):=by
 unfold put2 putA;by_cases h:p∈A.map Prod.fst
 ·rw[xf (mem_keys.mpr h),xf h,zRu];congr 1;rw[xC];refine vP λa _=>?_
  show cel a.1=cel (if a.1=p then(a.1,v)else a).1;split <;> rfl
 ·rw[xg λz=>h (mem_keys.mp z),xg h,vQ,vQ];rfl
theorem zXl{S:Store}{c:Nat}{A:List (Pt × D)}(h:S[c]?=some (dctC A))(hl:A.length<=2000000):putD S (.ref c) (cel p) v=some (S.set c (dctC (putA A p v))):=by unfold putD;simp only[h];rw[xf ⟨zE3,by rw[xl];exact uJ hl (by decide)⟩,zXm]
theorem zUe{A:List (Pt × D)}(h:look S v=some (dctC A)):zBf S (cel p) v=some (.bl (decide (p ∉ A.map Prod.fst))):=by unfold zBf inKO;rw[h];show((if zBk true (cel p)=true then some (decide (cel p∈A.map λa=>cel a.1))else none).map λb=>D.bl (!b))=_;rw[xf zE3];show some (D.bl _)=_;congr 2;rw[<- decide_not];exact x4.mpr (not_congr mem_keys)
theorem ix_C(h:look S v=some (dctC A)):ixD S v (cel p)=lkA A p:=by unfold ixD;rw[h];show(if zBk true (cel p)=true then look2 (A.map λa=>cel a.1) (A.map λa=>a.2) (cel p)else none)=_;rw[xf zE3,zI8]
theorem yBn(h:look S v=some (dctC A)):getM S v [cel p,w]=some ((lkA A p).getD w,S):=by unfold getM;rw[h];show(if zBk true (cel p)=true then some ((look2 (A.map λa=>cel a.1) (A.map λa=>a.2) (cel p)).getD w,S)else none)=_;rw[xf zE3,zI8]
theorem zJv{A:List (Pt × D)}:(putA A p v).map Prod.fst=if p∈A.map Prod.fst then A.map Prod.fst else A.map Prod.fst++[p]:=by
 unfold putA;by_cases h:p∈A.map Prod.fst
 ·rw[xf h,xf h,xC];refine vP λa _=>?_
  show(if a.1=p then(a.1,v)else a).1=a.1;split <;> rfl
 ·rw[xg h,xg h,vQ];rfl
theorem zUk{A:List (Pt × D)}:q∈(putA A p v).map Prod.fst <-> q∈A.map Prod.fst\/q=p:=by
 rw[zJv];split
 ·rename_i h;exact⟨.inl,λz=>z.elim id λe=>by rw[e];exact h⟩
 ·rw[xX,xI]
theorem zYm{A:List (Pt × D)}(h:(A.map Prod.fst).Nodup):((putA A p v).map Prod.fst).Nodup:=by
 rw[zJv];split
 ·exact h
 ·rename_i n;refine yd.mpr ⟨h,by simp,λa ha b hb z=>?_⟩;rw[xI.mp hb]at z;exact n (by rw[<- z];exact ha)
theorem zUt{A:List (Pt × D)}:(putA A p v).length<=A.length+1:=by
 unfold putA;split
 ·rw[xl];lia
 ·rw[xH];exact xk _
theorem zI9:∀{A:List (Pt × D)}{p:Pt},p ∉ A.map Prod.fst->lkA A p=none
 | [],_,_=>rfl
 | a::A,p,h=>by
  rw[xp,xo,not_or]at h;rw[lkA,xg (xG h.1),zI9 h.2]
theorem zEj:∀{A:List (Pt × D)}{p:Pt},p∈A.map Prod.fst->∃v,lkA A p=some v
 | [],_,h=>by cases h
 | a::A,p,h=>by
  rw[lkA];by_cases e:a.1=p
  ·exact⟨_,xf e⟩
  ·rw[xg e];rw[xp]at h;exact zEj ((xo.mp h).resolve_left (xG e))
theorem zS5{A:List (Pt × D)}(h:p ∉ A.map Prod.fst):lkA (A++B) p=lkA B p:=by
 induction A with
 | nil=>rfl
 | cons a A ih=>
  rw[xp,xo,not_or]at h;rw[uq,lkA,xg (xG h.1),ih h.2]
theorem zUo(h:lkA A p=some v):lkA (A++B) p=some v:=by
 induction A with
 | nil=>cases h
 | cons a A ih=>
  rw[lkA]at h;rw[uq,lkA];by_cases e:a.1=p
  ·rw[xf e]at h ⊢;exact h
  ·rw[xg e]at h ⊢;exact ih h
theorem zYv{A:List (Pt × D)}{p:Pt}:lkA (A.map (λa=>if a.1=p then(a.1,v)else a)) q=if q=p then(lkA A q).map (λ_=>v)else lkA A q:=by
 induction A with
 | nil=>rw[x8,lkA];split <;> rfl
 | cons a A ih=>
  rw[xp,lkA,lkA,ih];by_cases e:a.1=p
  ·rw[xf e];by_cases f:a.1=q
   ·rw[xf f,xf f,xf (by rw[<- f,e])];rfl
   ·rw[xg f,xg f]
  ·rw[xg e];by_cases f:a.1=q
   ·rw[xf f,xg (by rw[<- f];exact e)];rw[xf f]
   ·rw[xg f,xg f]
theorem zYu{p:Pt}:lkA (putA A p v) q=if q=p then some v else lkA A q:=by
 unfold putA;by_cases h:p∈A.map Prod.fst
 ·rw[xf h,zYv];by_cases e:q=p
  ·rw[xf e,xf e,e];obtain⟨w,ew⟩:=zEj h;rw[ew];rfl
  ·rw[xg e,xg e]
 ·rw[xg h];by_cases e:q=p
  ·rw[xf e,e,zS5 h,lkA,xf rfl]
  ·rw[xg e];by_cases m:q∈A.map Prod.fst
   ·obtain⟨w,ew⟩:=zEj m;rw[ew,zUo ew]
   ·rw[zS5 m,zI9 m,lkA,xg (xG e),lkA]
theorem zN3{k:Nat}(h:∀a∈A,a.2.low k=true):(dctC A).low k=true:=by
 show(lowL k (A.map λa=>cel a.1) && lowL k (A.map λa=>a.2))=true;have h1:lowL k (A.map λa=>cel a.1)=true:=by rw[show(A.map λa=>cel a.1)=(A.map Prod.fst).map cel by rw[xC];rfl];exact zAv _
 have h2:lowL k (A.map λa=>a.2)=true:=by
  clear h1
  induction A with
  | nil=>rfl
  | cons a A ih=>
   show(a.2.low k && lowL k (A.map λa=>a.2))=true;rw[h a (.head _),ih λb hb=>h b (.tail _ hb)];rfl
 rw[h1,h2];rfl
def Rz(r:List Pt):Prop:=r.Nodup/\Up (r.map cel)
theorem zT8(ha:Rz a)(hb:Rz b)(h:∀p,p∈a <-> p∈b):a=b:=
 zD8 (up_eq (zBs _) (((List.perm_ext_iff_of_nodup ha.1 hb.1).mpr h).map _) ha.2 hb.2)
theorem zCx{l:List Pt}(hi:items S v=some (l.map cel))(hl:l.length<=1000000):zBb S [v]=some (.lst ((sr l).map cel)):=by unfold zBb;simp only[hi];rw[xf ⟨by rw[xl];exact xm hl (by decide),1,by decide,zBs l⟩,(zBw l).eq]
theorem zPb{l:List Pt}(h:l.Nodup):Rz (sr l):=⟨(zBw l).nd h,(zBw l).up⟩
theorem zBp :zAf S [.lst l]=some (.tup l):=rfl
noncomputable abbrev addC (bs:List Pt) (p:Pt):List Pt:=if p∈bs then bs else bs++[p]
noncomputable abbrev bA (bs:List Pt):List (Pt × D):=bs.zipIdx.map λa=>(a.1,natD (2 ^ a.2))
noncomputable abbrev zAm (bs:List Pt):D:=dctC (bA bs)
theorem zOw(bs:List Pt):(bA bs).map Prod.fst=bs:=by rw[xC];exact yA 0 bs
theorem zWi(bs:List Pt)(p:Pt):bA (bs++[p])=bA bs++[(p,natD (2 ^ bs.length))]:=by unfold bA;rw[List.zipIdx_append,vQ,vd];rfl
theorem zPq{bs:List Pt}(n:p ∉ bs):putA (bA bs) p (natD (2 ^ bs.length))=bA (bs++[p]):=by unfold putA;rw[xg (by rw[zOw];exact n),zWi]
noncomputable abbrev ibB:SM:=(sIf (tB (eOp zBf (eVar 4) (eVar 1))) (sSeq (sPut putD (eVar 1) (eVar 4) (eVar 2)) (sSet 2 (eOp addD (eVar 2) (eVar 2)))) zAt)
theorem zP1{bs:List Pt}:(addC bs p).length<=bs.length+1:=by
 unfold addC;split
 ·lia
 ·simp
theorem zV3{S0:Store}{bs:List Pt}(hl:bs.length<=1000):ibB [some v,some (.ref S0.length),some (natD (2 ^ bs.length)),o3,some (cel p)] (S0++[zAm bs])=.nx [some v,some (.ref S0.length),some (natD (2 ^ (addC bs p).length)),o3,some (cel p)] (S0++[zAm (addC bs p)]):=by
 have at_:(S0++[zAm bs])[S0.length]?=some (zAm bs):=by simp
 have lk:look (S0++[zAm bs]) (.ref S0.length)=some (dctC (bA bs)):=at_;have t:tB (eOp zBf (eVar 4) (eVar 1)) [some v,some (.ref S0.length),some (natD (2 ^ bs.length)),o3,some (cel p)] (S0++[zAm bs])=.ok (decide (p ∉ bs)) (S0++[zAm bs]):=by have:=zUe (p:=p) lk;rw[zOw]at this;simp_arith [this]
 rw[ibB,zG9 t];by_cases h:p∈bs
 ·rw[xg (by simpa using h),show addC bs p=bs from xf h];rfl
 ·rw[xf h,show addC bs p=bs++[p]from xg h];have pu:=zXl (p:=p) (v:=natD (2 ^ bs.length)) at_ (by rw[xl,List.length_zipIdx];lia);rw[zPq h]at pu;have es:(S0++[zAm bs]).set S0.length (zAm (bs++[p]))=S0++[zAm (bs++[p])]:=by
   rw[yB _ _ (xk _)];simp
  rw[es]at pu;have ad:((2 ^ bs.length:Nat):Int)+((2 ^ bs.length:Nat):Int)=((2 ^ (bs++[p]).length:Nat):Int):=by rw[xH,uI,Nat.pow_succ];lia
  simp_arith [sPut,pu];rw[ad]
theorem zNi{S0:Store}:∀(r bs:List Pt) (o4:Option D),bs.length+r.length<=1000->∃o4',forL [] (gName 4) ibB (r.map cel) [some v,some (.ref S0.length),some (natD (2 ^ bs.length)),o3,o4] (S0++[zAm bs])=.nx [some v,some (.ref S0.length),some (natD (2 ^ (r.foldl addC bs).length)),o3,o4'] (S0++[zAm (r.foldl addC bs)])
 | [],bs,o4,_=>⟨o4,by rw[x8,forL,xf zA9];rfl⟩
 | p::r,bs,o4,hl=>by
  rw[xD]at hl;have al:=zP1 (bs:=bs) (p:=p);obtain⟨o4',e⟩:=zNi r (addC bs p) (some (cel p)) (by nofun);refine⟨o4',?_⟩;rw[xp,forL,xf zA9];have g:gName 4 (S0++[zAm bs]) (cel p) [some v,some (.ref S0.length),some (natD (2 ^ bs.length)),o3,o4]=some [some v,some (.ref S0.length),some (natD (2 ^ bs.length)),o3,some (cel p)]:=rfl;rw[g];dsimp only;rw[zV3 (by nofun)];exact e
theorem zGc:∀(r bs:List Pt),(r.foldl addC bs).length<=bs.length+r.length
 | [],_=>xk _
 | p::r,bs=>by
  have:=zGc r (addC bs p);have al:=zP1 (bs:=bs) (p:=p);rw[um,xD];lia
theorem zMu{S0:Store}:∀(rows:List (List Pt)) (bs:List Pt) (o3 o4:Option D),bs.length+rows.flatten.length<=1000->∃o3' o4',forL [] (gName 3) (sFor (iVal (eVar 3)) (gName 4) ibB) (rows.map rowD) [some v,some (.ref S0.length),some (natD (2 ^ bs.length)),o3,o4] (S0++[zAm bs])=.nx [some v,some (.ref S0.length),some (natD (2 ^ (rows.flatten.foldl addC bs).length)),o3',o4'] (S0++[zAm (rows.flatten.foldl addC bs)])
 | [],bs,o3,o4,_=>⟨o3,o4,by rw[x8,forL,xf zA9];rfl⟩
 | r::rows,bs,o3,o4,hl=>by
  rw[List.flatten_cons,xH]at hl;obtain⟨o4a,e1⟩:=zNi r bs o4 (by nofun);have fl:=zGc r bs;obtain⟨o3',o4',e2⟩:=zMu rows (r.foldl addC bs) (some (rowD r)) o4a (by nofun);refine⟨o3',o4',?_⟩;rw[xp,forL,xf zA9];have g:gName 3 (S0++[zAm bs]) (rowD r) [some v,some (.ref S0.length),some (natD (2 ^ bs.length)),o3,o4]=some [some v,some (.ref S0.length),some (natD (2 ^ bs.length)),some (rowD r),o4]:=rfl;have w:iVal (eVar 3) [some v,some (.ref S0.length),some (natD (2 ^ bs.length)),some (rowD r),o4] (S0++[zAm bs])=.ok ⟨r.map cel,[]⟩ (S0++[zAm bs]):=zDh rfl;rw[g];dsimp only;rw[sFor,w,Rs.then_ok,e1,List.flatten_cons,List.foldl_append];exact e2
noncomputable def bsOf (P:List (List Pt)):List Pt:=P.flatten.foldl addC []
theorem zK4 :∀(r bs:List Pt),x∈r.foldl addC bs <-> x∈bs\/x∈r
 | [],bs=>by simp
 | p::r,bs=>by
  rw[um,zK4 r,xo];unfold addC;split
  ·rename_i h;exact⟨λz=>z.elim .inl λz=>.inr (.inr z),λz=>z.elim .inl λz=>z.elim (λe=>.inl (by rw[e];exact h)) .inr⟩
  ·rw[xX,xI,or_assoc]
theorem zNs:∀(r bs:List Pt),bs.Nodup->(r.foldl addC bs).Nodup
 | [],_,h=>h
 | p::r,bs,h=>by
  rw[um];refine zNs r _ ?_;unfold addC;split
  ·exact h
  ·rename_i n;refine yd.mpr ⟨h,by simp,λa ha b hb z=>?_⟩;rw[xI.mp hb]at z;exact n (by rw[<- z];exact ha)
theorem bs_mem :x∈bsOf P <-> ∃r∈P,x∈r:=by unfold bsOf;rw[zK4,List.mem_flatten];simp
theorem yCe :(bsOf P).Nodup:=zNs _ _ vH
theorem zOp{P:List (List Pt)}:(bsOf P).length<=P.flatten.length:=by
 have:=zGc P.flatten []
 rwa[uH,vd]at this
theorem zOo(h:r∈P):Sub r (bsOf P):=λx hx=>bs_mem.mpr ⟨r,h,hx⟩
theorem zWd{P:List (List Pt)}(h:P.flatten.length<=1000):zEr [zA3 P] S=.ok (zAm (bsOf P)) S:=by
 obtain⟨o3,o4,e⟩:=zMu P [] none none (by simpa using h);refine zKg (T:=[zAm (bsOf P)]) rfl ?_ (xk _) (by simp) (zN3 λa ha=>?_)
 ·have w:iVal (eVar 0) [some (zA3 P),some (.ref S.length),some (.int 1),none,none] (S++[zAm []])=.ok ⟨P.map rowD,[]⟩ (S++[zAm []]):=zDh rfl;refine zA4 (S1:=S++[zAm []]) (by simp_arith [eNew,eDct];rfl) (zA4 (e:=[some (zA3 P),some (.ref S.length),some (.int 1),none,none]) (S1:=S++[zAm []]) (by simp_arith [xr]) (zA4 (e:=[some (zA3 P),some (.ref S.length),some (natD (2 ^ (bsOf P).length)),o3,o4]) (S1:=S++[zAm (bsOf P)]) ?_ (by simp_arith [xr])));rw[sFor,w,Rs.then_ok];exact e
 ·obtain⟨x,_,rfl⟩:=xn.mp ha;rfl
theorem zN6:∀(bs:List Pt) (x:Pt) (k:Nat),x∈bs->lkA ((bs.zipIdx k).map λa=>(a.1,natD (2 ^ a.2))) x=some (natD (2 ^ (k+RW.ix bs x)))
 | [],_,_,h=>by cases h
 | y::bs,x,k,h=>by
  rw[List.zipIdx_cons,xp,lkA];by_cases e:y=x
  ·subst e;have:RW.ix (y::bs) y=0:=by unfold RW.ix;rw[List.findIdx_cons];simp
   rw[xf rfl,this];rfl
  ·have:RW.ix (y::bs) x=RW.ix bs x+1:=by unfold RW.ix;rw[List.findIdx_cons];simp[e]
   rw[xg e,zN6 bs x (k+1) ((xo.mp h).resolve_left (xG e)),this,Nat.add_assoc,Nat.add_comm 1]
theorem zV0(h:x∈bs):ixD S (zAm bs) (cel x)=some (natD (2 ^ RW.ix bs x)):=by have:=zN6 bs x 0 h;rw[vd]at this;rw[ix_C rfl,this]
theorem zRz{m:Nat}:orD S (natD m) (natD n)=some (natD (m ||| n)):=by show(if 0<=(m:Int)/\0<=(n:Int)then some (D.int (((m:Int).toNat ||| (n:Int).toNat:Nat):Int))else none)=_;rw[xf ⟨by nofun,by nofun⟩,xZ,xZ]
theorem zOz{m:Nat}:andD S (natD m) (natD n)=some (natD (m &&& n)):=by show(if 0<=(m:Int)/\0<=(n:Int)then some (D.int (((m:Int).toNat &&& (n:Int).toNat:Nat):Int))else none)=_;rw[xf ⟨by nofun,by nofun⟩,xZ,xZ]
theorem zUl(h:Sub r bs):zD2 [rowD r,zAm bs] S=.ok (natD (RW.mask bs r)) S:=by
 refine zAl rfl ?_ rfl;obtain⟨env',S',e,⟨rfl,o3,rfl⟩⟩:=zSd (h:=cel) (g:=gName 3) (b:=(sSet 2 (eOp orD (eVar 2) (eOp ixD (eVar 1) (eVar 3))))) (λP env S'=>S'=S/\∃o3,env=[some (rowD r),some (zAm bs),some (natD (RW.mask bs P)),o3]) (λ_ _ _ _=>zA9) r [] [some (rowD r),some (zAm bs),some (natD 0),none] S ⟨rfl,none,rfl⟩ λp hp P env S' hh=>by
  obtain⟨rfl,o3,rfl⟩:=hh;have i:=zV0 (S:=S') (h p hp);have o:orD S' (natD (RW.mask bs P)) (natD (2 ^ RW.ix bs p))=some (natD (RW.mask bs (P++[p]))):=by rw[zRz];unfold RW.mask;rw[List.foldl_append];rfl
  exact⟨[some (rowD r),some (zAm bs),some (natD (RW.mask bs P)),some (cel p)],[some (rowD r),some (zAm bs),some (natD (RW.mask bs (P++[p]))),some (cel p)],S',by simp_arith [xr],by simp_arith [i,o],rfl,_,rfl⟩
 have w:iVal (eVar 0) [some (rowD r),some (zAm bs),some (natD 0),none] S'=.ok ⟨r.map cel,[]⟩ S':=zDh rfl;refine zA4 (e:=[some (rowD r),some (zAm bs),some (natD 0),none]) rfl (zA4 (e:=[some (rowD r),some (zAm bs),some (natD (RW.mask bs r)),o3]) (S1:=S') ?_ (by simp_arith [xr]));rw[sFor,w,Rs.then_ok];exact e
theorem zQf{P:List (List Pt)}(h:P.flatten.length<=1000)(hl:P.length<=1000):zDi [zA3 P,zAm (bsOf P)] S=.ok (.lst ((P.map (RW.mask (bsOf P))).map natD)) S:=by
 refine zAl rfl ?_ ?_
 ·have c:(zA6 1 [1] (iVal (eVar 0)) (gName 0) tYes (zA2 zD2 (zA0 (eVar 0) (zA0 (eVar 1) aNil)))) [some (zA3 P),some (zAm (bsOf P))] S=.ok (.lst (P.map λr=>natD (RW.mask (bsOf P) r))) S:=by
   refine zCs (λenv=>∃o,env=[o,some (zAm (bsOf P))]) (zDh rfl) zA9 ⟨none,rfl⟩ (xm hl (by decide)) ?_;rintro r hr env ⟨o,rfl⟩;exact⟨[some (rowD r),some (zAm (bsOf P))],by simp_arith [xr],⟨_,rfl⟩,by simp_arith [zUl (zOo hr)]⟩
  show sRet _ [some (zA3 P),some (zAm (bsOf P))] S=_;rw[sRet,c,Rs.then_ok,xC];rfl
 ·show lowL _ ((P.map (RW.mask (bsOf P))).map λn:Nat=>D.int (n:Int))=true;exact zH2 _
theorem zLn{m:Nat}{ms:List Nat}(hl:ms.length<=1000):zBm [natD m,.lst (ms.map natD)] S=.ok (.bl (decide (∃q∈ms,(q &&& m)=q))) S:=by
 refine zAl rfl ?_ rfl;have e:zA6 1 [0] (iVal (eVar 1)) (gName 0) tYes (eOp eqI (eOp andD (eVar 0) (eVar 1)) (eVar 0)) [some (natD m),some (.lst (ms.map natD))] S=.ok (.lst (ms.map λq=>.bl (decide ((q &&& m)=q)))) S:=by
  refine zCs (h:=natD) (λenv=>∃o,env=[o,some (natD m)]) ?_ zA9 ⟨none,rfl⟩ (xm hl (by decide)) ?_
  ·simp_arith [iVal,zCw]
  ·rintro q hq env ⟨o,rfl⟩;have b:eqI S (natD (q &&& m)) (natD q)=some (.bl (decide ((q &&& m)=q))):=by
    show some (D.bl (decide (((q &&& m:Nat):Int)=(q:Int))))=_;congr 2;exact x4.mpr (by nofun)
   exact⟨[some (natD q),some (natD m)],by simp_arith [xr],⟨_,rfl⟩,by simp_arith [zOz,b]⟩
 show(sRet (eCB anyB (zA0 _ aNil))) [some (natD m),some (.lst (ms.map natD))] S=_;rw[sRet,eCB,zA0,e,Rs.bind_ok,aNil,Rs.bind_ok,Rs.bind_ok,yAj];rfl
noncomputable abbrev sb (b c:Pt):Pt:=(b.1-c.1,b.2-c.2)
noncomputable abbrev ad (b c:Pt):Pt:=(b.1+c.1,b.2+c.2)
theorem sb_iff :p=sb b c <-> ad p c=b:=by
 constructor
 ·rintro rfl;exact vp (by show b.1-c.1+c.1=b.1;lia) (by show b.2-c.2+c.2=b.2;lia)
 ·rintro rfl;exact vp (by show p.1=p.1+c.1-c.1;lia) (by show p.2=p.2+c.2-c.2;lia)
structure AR (bs:List Pt) (Q:Pt->Pt->Prop) (n:Nat) (A:List (Pt × D)):Prop where
 nd:(A.map Prod.fst).Nodup
 key:∀p,p∈A.map Prod.fst <-> ∃c b,Q c b/\p=sb b c
 val:∀p v,lkA A p=some v->∃m:Nat,v=natD m/\∀i,m.testBit i=true <-> ∃c b,Q c b/\p=sb b c/\RW.ix bs c=i
 nat:∀a∈A,∃m:Nat,a.2=natD m
 len:A.length<=n
theorem AR.imp{Q Q':Pt->Pt->Prop}(h:AR bs Q n A)(e:∀c b,Q c b <-> Q' c b):AR bs Q' n A:=by
 have:Q=Q':=by funext c b;exact propext (e c b)
 rw[<- this];exact h
theorem AR.get{Q:Pt->Pt->Prop}(h:AR bs Q n A)(p:Pt):∃g:Nat,(lkA A p).getD (natD 0)=natD g/\∀i,g.testBit i=true <-> ∃c b,Q c b/\p=sb b c/\RW.ix bs c=i:=by
 by_cases m:p∈A.map Prod.fst
 ·obtain⟨v,ev⟩:=zEj m;obtain⟨g,rfl,hg⟩:=h.val p v ev;exact⟨g,by rw[ev];rfl,hg⟩
 ·refine⟨0,by rw[zI9 m];rfl,λi=>⟨(λz=>by rw[Nat.zero_testBit]at z;cases z),λhz9=>by obtain⟨c,b,q,e,_⟩:=hz9;exact absurd ((h.key p).mpr ⟨c,b,q,e⟩) m⟩⟩
theorem AR.put{Q:Pt->Pt->Prop}{g:Nat}(h:AR bs Q n A)(hg:∀i,g.testBit i=true <-> ∃c' b',Q c' b'/\sb b c=sb b' c'/\RW.ix bs c'=i):
  AR bs (λc' b'=>Q c' b'\/(c'=c/\b'=b)) (n+1) (putA A (sb b c) (natD (g ||| 2 ^ RW.ix bs c))) where
 nd:=zYm h.nd
 key:=λp=>by
  rw[zUk,h.key];constructor
  ·rintro(⟨c',b',q,e⟩|e)
   ·exact⟨c',b',.inl q,e⟩
   ·exact⟨c,b,.inr ⟨rfl,rfl⟩,e⟩
  ·rintro⟨c',b',q|⟨rfl,rfl⟩,e⟩
   ·exact .inl ⟨c',b',q,e⟩
   ·exact .inr e
 val:=λp v hv=>by
  rw[zYu]at hv;by_cases e:p=sb b c
  ·rw[xf e]at hv;cases hv;refine⟨_,rfl,λi=>?_⟩;rw[Nat.testBit_or,Bool.or_eq_true,hg,Nat.testBit_two_pow,uV];subst e;constructor
   ·rintro(⟨c',b',q,e1,e2⟩|e)
    ·exact⟨c',b',.inl q,e1,e2⟩
    ·exact⟨c,b,.inr ⟨rfl,rfl⟩,rfl,e⟩
   ·rintro⟨c',b',q|⟨rfl,rfl⟩,e1,e2⟩
    ·exact .inl ⟨c',b',q,e1,e2⟩
    ·exact .inr e2
  ·rw[xg e]at hv;obtain⟨m,rfl,hm⟩:=h.val p v hv;refine⟨m,rfl,λi=>?_⟩;rw[hm];constructor
   ·rintro⟨c',b',q,e1,e2⟩;exact⟨c',b',.inl q,e1,e2⟩
   ·rintro⟨c',b',q|⟨rfl,rfl⟩,e1,e2⟩
    ·exact⟨c',b',q,e1,e2⟩
    ·exact absurd e1 e
 nat:=λa ha=>by
  unfold putA at ha;split at ha
  ·obtain⟨x,hx,rfl⟩:=xn.mp ha;split
   ·exact⟨_,rfl⟩
   ·exact h.nat x hx
  ·rcases xX.mp ha with z|z
   ·exact h.nat a z
   ·rw[xI.mp z];exact⟨_,rfl⟩
 len:=by have:=zUt (A:=A) (p:=sb b c) (v:=natD (g ||| 2 ^ RW.ix bs c));have:=h.len;lia
noncomputable abbrev arB:SM:=(sSeq (sSet 6 (eTup (zA0 (eOp subD (eOp ixD (eVar 5) (eC (.int 0))) (eOp ixD (eVar 3) (eC (.int 0)))) (zA0 (eOp subD (eOp ixD (eVar 5) (eC (.int 1))) (eOp ixD (eVar 3) (eC (.int 1)))) aNil))))
  (sPut putD (eVar 2) (eVar 6) (eOp orD (eMt "dict" getM (eVar 2) (zA0 (eVar 6) (zA0 (eC (.int 0)) aNil))) (eVar 4))))
noncomputable abbrev arE (S0:Store) (bs I:List Pt) (o3 o4 o5 o6:Option D):Env:=[some (zAm bs),some (rowD I),some (.ref S0.length),o3,o4,o5,o6]
theorem zWk{Q:Pt->Pt->Prop}{n:Nat}(h:AR bs Q n A)(hn:n<=1000000):∃(A':List (Pt × D)) (o6':Option D),arB (arE S0 bs I (some (cel c)) (some (natD (2 ^ RW.ix bs c))) (some (cel b)) o6) (S0++[dctC A])=.nx (arE S0 bs I (some (cel c)) (some (natD (2 ^ RW.ix bs c))) (some (cel b)) o6') (S0++[dctC A'])/\AR bs (λc' b'=>Q c' b'\/(c'=c/\b'=b)) (n+1) A':=by
 obtain⟨g,eg,hg⟩:=h.get (sb b c);refine⟨_,some (cel (sb b c)),?_,h.put hg⟩;have at_:(S0++[dctC A])[S0.length]?=some (dctC A):=by simp
 have gt:=yBn (v:=.ref S0.length) (w:=.int 0) (p:=sb b c) at_;rw[show(lkA A (sb b c)).getD (.int 0)=natD g from eg]at gt;have ty:tyD (S0++[dctC A]) (.ref S0.length)=some "dict":=by unfold tyD;rw[show look (S0++[dctC A]) (.ref S0.length)=_ from at_]
 have pu:=zXl (p:=sb b c) (v:=natD (g ||| 2 ^ RW.ix bs c)) at_ (by have:=h.len;lia);have es:(S0++[dctC A]).set S0.length (dctC (putA A (sb b c) (natD (g ||| 2 ^ RW.ix bs c))))=S0++[dctC (putA A (sb b c) (natD (g ||| 2 ^ RW.ix bs c)))]:=by rw[yB _ _ (xk _)];simp
 rw[es]at pu;refine zA4 (e:=arE S0 bs I (some (cel c)) (some (natD (2 ^ RW.ix bs c))) (some (cel b)) (some (cel (sb b c)))) (S1:=S0++[dctC A]) (by simp_arith [xr]) ?_;simp_arith [sPut,eMt,ty,gt,zRz,pu]
theorem yCf{I:List Pt}{Q:Pt->Pt->Prop}{n:Nat}(h:AR bs Q n A)(hn:n+I.length<=1000000):∃(A':List (Pt × D)) (o5' o6':Option D),sFor (iVal (eVar 1)) (gName 5) arB (arE S0 bs I (some (cel c)) (some (natD (2 ^ RW.ix bs c))) o5 o6) (S0++[dctC A])=.nx (arE S0 bs I (some (cel c)) (some (natD (2 ^ RW.ix bs c))) o5' o6') (S0++[dctC A'])/\AR bs (λc' b'=>Q c' b'\/(c'=c/\b'∈I)) (n+I.length) A':=by
 have w:iVal (eVar 1) (arE S0 bs I (some (cel c)) (some (natD (2 ^ RW.ix bs c))) o5 o6) (S0++[dctC A])=.ok ⟨I.map cel,[]⟩ (S0++[dctC A]):=zDh rfl;obtain⟨env',S',e,A',o5',o6',rfl,rfl,ar⟩:=zEp (h:=cel) (g:=gName 5) (ys:=I) (λP env S=>∃(A':List (Pt × D)) (o5' o6':Option D),env=arE S0 bs I (some (cel c)) (some (natD (2 ^ RW.ix bs c))) o5' o6'/\S=S0++[dctC A']/\AR bs (λc' b'=>Q c' b'\/(c'=c/\b'∈P)) (n+P.length) A') (λ_ _ _ _=>zA9) (λP b R eq env S hh=>by
  obtain⟨A',o5',o6',rfl,rfl,ar⟩:=hh;have pl:P.length<I.length:=by rw[eq];simp
  obtain⟨A2,o62,e2,ar2⟩:=zWk ar (by nofun);refine⟨arE S0 bs I (some (cel c)) (some (natD (2 ^ RW.ix bs c))) (some (cel b)) o6',_,_,by simp_arith [xr],e2,A2,_,_,rfl,rfl,?_⟩;rw[xH,uI,<- Nat.add_assoc];refine ar2.imp λc' b'=>?_
  simp only[xX,xI];constructor
  ·rintro((q|⟨q1,q2⟩)|⟨q1,q2⟩)
   ·exact .inl q
   ·exact .inr ⟨q1,.inl q2⟩
   ·exact .inr ⟨q1,.inr q2⟩
  ·rintro(q|⟨q1,q2|q2⟩)
   ·exact .inl (.inl q)
   ·exact .inl (.inr ⟨q1,q2⟩)
   ·exact .inr ⟨q1,q2⟩) I [] (arE S0 bs I (some (cel c)) (some (natD (2 ^ RW.ix bs c))) o5 o6) (S0++[dctC A]) rfl ⟨A,o5,o6,rfl,rfl,h.imp λc' b'=>by simp⟩
 refine⟨A',o5',o6',?_,ar⟩;rw[sFor,w,Rs.then_ok];exact e
theorem zZ4{bs:List Pt}(nd:bs.Nodup){i:Nat}(h:(c,i)∈bs.zipIdx):RW.ix bs c=i:=by obtain⟨k,hk⟩:=uK.mp h;rw[List.getElem?_zipIdx]at hk;obtain⟨x,hx,e⟩:=vU.mp hk;cases e;have hc:=uF hx;have e2:=RW.ix_at hc;have:=(List.getElem?_inj (xO.mp hx).1 nd).mp (hx.trans e2.symm);lia
def SzI(P:List (List Pt))(I:List Pt):Prop:=I.length<=1000000/\P.flatten.length*I.length<=1000000
theorem zOx{P:List (List Pt)}(h:P.flatten.length<=1000)(hI:SzI P I):∃A,zBt [zAm (bsOf P),rowD I] S=.ok (dctC A) S/\AR (bsOf P) (λc b=>c∈bsOf P/\b∈I) 1000000 A:=by
 have bl:=xm zOp h;have ml:∀k,k<=(bsOf P).length->k*I.length<=1000000:=λk hk=>by
  exact xm (Nat.mul_le_mul_right _ (xm hk zOp)) hI.2
 have w:∀S',zJz (eVar 0) (arE S (bsOf P) I none none none none) S'=.ok ⟨(bsOf P).zipIdx.map λa=>.tup [cel a.1,natD (2 ^ a.2)],[]⟩ S':=λS'=>by
  have:dK1 (zAm (bsOf P))=some ((bA (bsOf P)).map λa=>cel a.1,(bA (bsOf P)).map λa=>a.2):=rfl;simp only[zJz,arE,eVar,vX,Rs.bind_ok,this,vO,zA5];rw[List.zip_map',xC,xC];rfl
 obtain⟨env',S',e,A',o3,o4,o5,o6,rfl,rfl,ar⟩:=zEp (h:=λa:Pt × Nat=>D.tup [cel a.1,natD (2 ^ a.2)]) (g:=gTup [gName 3,gName 4]) (ys:=(bsOf P).zipIdx) (λZ env S'=>∃(A':List (Pt × D)) (o3 o4 o5 o6:Option D),env=arE S (bsOf P) I o3 o4 o5 o6/\S'=S++[dctC A']/\AR (bsOf P) (λc b=>(∃i,(c,i)∈Z)/\b∈I) (Z.length*I.length) A') (λ_ _ _ _=>zA9) (λZ a R eq env S' hh=>by
  obtain⟨A',o3,o4,o5,o6,rfl,rfl,ar⟩:=hh;obtain⟨c,i⟩:=a;have zl:Z.length<(bsOf P).length:=by have:=congrArg List.length eq;rw[List.length_zipIdx,xH,xD]at this;lia
  have ei:=zZ4 yCe (show(c,i)∈(bsOf P).zipIdx by rw[eq];simp);have m1:=ml (Z.length+1) (by nofun);rw[Nat.succ_mul]at m1;obtain⟨A2,o52,o62,e2,ar2⟩:=yCf ar m1;rw[ei]at e2;refine⟨arE S (bsOf P) I (some (cel c)) (some (natD (2 ^ i))) o5 o6,_,_,by simp_arith [xr],e2,A2,_,_,_,_,rfl,rfl,?_⟩;rw[xH,uI,Nat.succ_mul];refine ar2.imp λc' b'=>?_
  constructor
  ·rintro(⟨⟨j,hj⟩,hb⟩|⟨rfl,hb⟩)
   ·exact⟨⟨j,vD _ hj⟩,hb⟩
   ·exact⟨⟨i,by simp⟩,hb⟩
  ·rintro⟨⟨j,hj⟩,hb⟩;rcases xX.mp hj with z|z
   ·exact .inl ⟨⟨j,z⟩,hb⟩
   ·cases xI.mp z;exact .inr ⟨rfl,hb⟩) (bsOf P).zipIdx [] (arE S (bsOf P) I none none none none) (S++[dctC []]) rfl ⟨[],none,none,none,none,rfl,rfl,⟨vH,λp=>⟨λz=>(nomatch z),fun⟨c,b,⟨⟨i,z⟩,_⟩,_⟩=>(nomatch z)⟩,λp v z=>(nomatch z),λa z=>(nomatch z),xT _⟩⟩
 have ar':AR (bsOf P) (λc b=>c∈bsOf P/\b∈I) 1000000 A':=by
  have a2:=ar.imp (Q':=λc b=>c∈bsOf P/\b∈I) λc b=>by
   refine and_congr_left λ_=>⟨λhq1=>?_,λz=>?_⟩
   ·obtain⟨i,z⟩:=hq1;have:=List.mem_map_of_mem (f:=Prod.fst) z;rw[yA]at this;exact this
   ·rw[<- yA 0 (bsOf P)]at z;obtain⟨⟨x,i⟩,hx,rfl⟩:=xn.mp z;exact⟨i,hx⟩
  refine⟨a2.nd,a2.key,a2.val,a2.nat,?_⟩;have:=ml (bsOf P).length (xk _);have:=a2.len;rw[List.length_zipIdx]at this;lia
 refine⟨A',zKg (T:=[dctC A']) rfl ?_ (xk _) (by simp) (zN3 λa ha=>?_),ar'⟩
 ·refine zA4 (by simp_arith [eNew,eDct];rfl) (zA4 (e:=arE S (bsOf P) I o3 o4 o5 o6) (S1:=S++[dctC A']) ?_ (by simp_arith [xr]));rw[sFor,w,Rs.then_ok];exact e
 ·obtain⟨m,e⟩:=ar'.nat a ha;rw[e];rfl
def Cand(P:List (List Pt))(I:List Pt)(p:Pt):Prop:=∃c b,(c∈bsOf P/\b∈I)/\p=sb b c
def Brk(P:List (List Pt))(I:List Pt)(p:Pt):Prop:=∃r∈P,∀c∈r,ad p c∈I
theorem zWm{q m:Nat}:(q &&& m)=q <-> ∀i,q.testBit i=true->m.testBit i=true:=by
 constructor
 ·intro h i hi;have:=congrArg (λx=>x.testBit i) h;simp only[Nat.testBit_and]at this;rw[hi]at this;simpa using this
 ·intro h;refine Nat.eq_of_testBit_eq λi=>?_
  rw[Nat.testBit_and];cases e:q.testBit i with
  | false=>rfl
  | true=>rw[h i e];rfl
theorem zW9{P:List (List Pt)}{m:Nat}(hm:∀i,m.testBit i=true <-> ∃c b,(c∈bsOf P/\b∈I)/\p=sb b c/\RW.ix (bsOf P) c=i):(∃q∈P.map (RW.mask (bsOf P)),(q &&& m)=q) <-> Brk P I p:=by
 have key:∀r∈P,((RW.mask (bsOf P) r &&& m)=RW.mask (bsOf P) r <-> ∀c∈r,ad p c∈I):=λr hr=>by
  rw[zWm];constructor
  ·intro h c hc;obtain⟨c',b,⟨h1,h2⟩,e1,e2⟩:=(hm _).mp (h (RW.ix (bsOf P) c) (RW.mask_bit.mpr ⟨c,hc,rfl⟩));have:=RW.ix_inj h1 (zOo hr c hc) e2;subst this;rw[sb_iff.mp e1];exact h2
  ·intro h i hi;obtain⟨c,hc,rfl⟩:=RW.mask_bit.mp hi;exact(hm _).mpr ⟨c,_,⟨zOo hr c hc,h c hc⟩,sb_iff.mpr rfl,rfl⟩
 constructor
 ·rintro⟨q,hq,e⟩;obtain⟨r,hr,rfl⟩:=xn.mp hq;exact⟨r,hr,(key r hr).mp e⟩
 ·rintro⟨r,hr,h⟩;exact⟨_,xn.mpr ⟨r,hr,rfl⟩,(key r hr).mpr h⟩
theorem zJp{m n:Nat}(h:natD m=natD n):m=n:=by have:=D.int.inj h;lia
theorem mem_nat{m:Nat}{l:List Nat}:natD m∈l.map natD <-> m∈l:=⟨λh=>by obtain⟨q,hq,e⟩:=xn.mp h;rw[<- zJp e];exact hq,λh=>xn.mpr ⟨m,h,rfl⟩⟩
noncomputable abbrev knD (W:Nat->Prop) (Kn:List Nat):D:=.dct false (Kn.map natD) (Kn.map λm=>.bl (decide (W m)))
theorem zN4{W:Nat->Prop}{m:Nat}:∀{Kn:List Nat},m∈Kn->look2 (Kn.map natD) (Kn.map λm=>D.bl (decide (W m))) (natD m)=some (.bl (decide (W m)))
 | [],h=>by cases h
 | k::Kn,h=>by
  rw[xp,xp,look2];by_cases e:k=m
  ·rw[xf (by rw[e]),e]
  ·rw[xg λz=>e (zJp z)];exact zN4 ((xo.mp h).resolve_left (xG e))
theorem zG5 :zBk false (natD m)=true:=rfl
theorem yBj{c:Nat}{W:Nat->Prop}{Kn:List Nat}(h:S[c]?=some (knD W Kn))(hm:m∈Kn):ixD S (.ref c) (natD m)=some (.bl (decide (W m))):=by unfold ixD;rw[show look S (.ref c)=_ from h];show(if zBk false (natD m)=true then look2 (Kn.map natD) (Kn.map λm=>D.bl (decide (W m))) (natD m)else none)=_;rw[xf zG5,zN4 hm]
noncomputable abbrev btB:SM:=(sIf (tB (eOp zBf (eVar 6) (eVar 5))) (sPut putD (eVar 5) (eVar 6) (zA2 zBm (zA0 (eVar 6) (zA0 (eVar 3) aNil)))) zAt)
noncomputable abbrev btE (S0:Store) (P:List (List Pt)) (I:List Pt) (A:List (Pt × D)) (o6:Option D):Env:=[some (zA3 P),some (rowD I),some (zAm (bsOf P)),some (.lst ((P.map (RW.mask (bsOf P))).map natD)),some (dctC A),some (.ref S0.length),o6]
abbrev Wn(P:List (List Pt))(m:Nat):Prop:=∃q∈P.map (RW.mask (bsOf P)),(q &&& m)=q
theorem zW8{P:List (List Pt)}{Kn:List Nat}{m:Nat}(hP:P.length<=1000)(hk:Kn.length<=2000000):∃Kn',btB (btE S0 P I A (some (natD m))) (S0++[knD (Wn P) Kn])=.nx (btE S0 P I A (some (natD m))) (S0++[knD (Wn P) Kn'])/\(∀k,k∈Kn' <-> k∈Kn\/k=m)/\Kn'.length<=Kn.length+1:=by
 have at_:(S0++[knD (Wn P) Kn])[S0.length]?=some (knD (Wn P) Kn):=by simp
 have t:tB (eOp zBf (eVar 6) (eVar 5)) (btE S0 P I A (some (natD m))) (S0++[knD (Wn P) Kn])=.ok (decide (m ∉ Kn)) (S0++[knD (Wn P) Kn]):=by
  have:zBf (S0++[knD (Wn P) Kn]) (natD m) (.ref S0.length)=some (.bl (decide (m ∉ Kn))):=by unfold zBf inKO;rw[show look (S0++[knD (Wn P) Kn]) (.ref S0.length)=_ from at_];show((if zBk false (natD m)=true then some (decide (natD m∈Kn.map natD))else none).map λb=>D.bl (!b))=_;rw[xf zG5];show some (D.bl _)=_;congr 2;rw[<- decide_not];exact x4.mpr (not_congr mem_nat)
  simp_arith [this]
 by_cases h:m∈Kn
 ·refine⟨Kn,?_,λk=>⟨.inl,λz=>z.elim id λe=>by rw[e];exact h⟩,by nofun⟩;rw[btB,zG9 t,xg (by simpa using h)];rfl
 ·refine⟨Kn++[m],?_,λk=>by rw[xX,xI],by simp⟩;rw[btB,zG9 t,xf h];have wi:=zLn (S:=S0++[knD (Wn P) Kn]) (m:=m) (ms:=P.map (RW.mask (bsOf P))) (by rw[xl];exact hP);have pu:putD (S0++[knD (Wn P) Kn]) (.ref S0.length) (natD m) (.bl (decide (Wn P m)))=some (S0++[knD (Wn P) (Kn++[m])]):=by
   unfold putD;simp only[at_];rw[xf ⟨zG5,by rw[xl];exact uJ hk (by decide)⟩];unfold put2;rw[xg λz=>h (mem_nat.mp z),yB _ _ (xk _)];simp
  simp_arith [sPut,wi,pu]
theorem zJo:∀(A:List (Pt × D)),(∀a∈A,∃m:Nat,a.2=natD m)->∃ms:List Nat,(A.map λa=>a.2)=ms.map natD
 | [],_=>⟨[],rfl⟩
 | a::A,h=>by
  obtain⟨m,e⟩:=h a (.head _);obtain⟨ms,e2⟩:=zJo A λb hb=>h b (.tail _ hb)
  exact⟨m::ms,by rw[xp,xp,e,e2]⟩
theorem zS4:∀{A:List (Pt × D)}{p:Pt}{v:D},lkA A p=some v->v∈A.map λa=>a.2
 | [],_,_,h=>by cases h
 | a::A,p,v,h=>by
  rw[lkA]at h;by_cases e:a.1=p
  ·rw[xf e]at h;cases h;exact .head _
  ·rw[xg e]at h;exact .tail _ (zS4 h)
theorem zOs{P:List (List Pt)}(h:P.flatten.length<=1000)(hP:P.length<=1000)(hI:SzI P I):∃B,zD4 [zA3 P,rowD I] S=.ok (rowD B) S/\Rz B/\(∀p,p∈B <-> Cand P I p/\Brk P I p)/\B.length<=1000000:=by
 obtain⟨A,eA,ar⟩:=zOx (S:=S) h hI;obtain⟨ms,em⟩:=zJo A ar.nat;have ml:ms.length<=1000000:=by have:=congrArg List.length em;rw[xl,xl]at this;rw[<- this];exact ar.len
 have w:∀S',zQs (eVar 4) (btE S P I A none) S'=.ok ⟨ms.map natD,[]⟩ S':=λS'=>by
  have:dK1 (dctC A)=some (A.map λa=>cel a.1,A.map λa=>a.2):=rfl;simp only[zQs,btE,eVar,vX,yk,Rs.bind_ok,this,vO,zA5];rw[em]
 obtain⟨env',S',e,Kn,o6,rfl,rfl,mem,kl⟩:=zEp (h:=natD) (g:=gName 6) (ys:=ms) (λZ env S'=>∃(Kn:List Nat) (o6:Option D),env=btE S P I A o6/\S'=S++[knD (Wn P) Kn]/\(∀k∈Z,k∈Kn)/\Kn.length<=Z.length) (λ_ _ _ _=>zA9) (λZ m R eq env S' hh=>by
  obtain⟨Kn,o6,rfl,rfl,mem,kl⟩:=hh;have zl:Z.length<=ms.length:=by rw[eq,xH];lia
  obtain⟨Kn',e1,m1,l1⟩:=zW8 (Kn:=Kn) hP (by nofun);refine⟨btE S P I A (some (natD m)),_,_,by simp_arith [xr],e1,Kn',_,rfl,rfl,λk hk=>?_,by rw[xH,uI];lia⟩;rcases xX.mp hk with z|z
  ·exact(m1 k).mpr (.inl (mem k z))
  ·exact(m1 k).mpr (.inr (xI.mp z))) ms [] (btE S P I A none) (S++[knD (Wn P) []]) rfl ⟨[],none,rfl,rfl,λk hk=>(nomatch hk),xk _⟩
 have at_:(S++[knD (Wn P) Kn])[S.length]?=some (knD (Wn P) Kn):=by simp
 have val:∀p∈A.map Prod.fst,∃m:Nat,lkA A p=some (natD m)/\m∈Kn/\(Wn P m <-> Brk P I p):=λp hp=>by
  obtain⟨v,ev⟩:=zEj hp;obtain⟨m,rfl,hm⟩:=ar.val p v ev;have:natD m∈ms.map natD:=by rw[<- em];exact zS4 ev
  exact⟨m,ev,mem m (mem_nat.mp this),zW9 hm⟩
 have cp:(zA6 1 [5,4] (zQt (eVar 4)) (gName 0) (tTru (eOp ixD (eVar 1) (eOp ixD (eVar 2) (eVar 0)))) (eVar 0)) (btE S P I A o6) (S++[knD (Wn P) Kn])=.ok (.lst (((A.map Prod.fst).filter λp=>decide (Brk P I p)).map cel)) (S++[knD (Wn P) Kn]):=by
  refine zEt (h:=cel) (λenv=>∃o,env=[o,some (.ref S.length),some (dctC A)]) ?_ zA9 ⟨none,rfl⟩ (by rw[xl];exact xm ar.len (by decide)) ?_
  ·have:dK1 (dctC A)=some (A.map λa=>cel a.1,A.map λa=>a.2):=rfl;simp only[zQt,btE,eVar,vX,yk,Rs.bind_ok,this,vO,zA5,xC];rfl
  ·rintro p hp env ⟨o,rfl⟩;obtain⟨m,e1,e2,e3⟩:=val p hp;have i1:=ix_C (S:=S++[knD (Wn P) Kn]) (v:=dctC A) (p:=p) rfl;rw[e1]at i1;have i2:=yBj at_ e2;refine⟨[some (cel p),some (.ref S.length),some (dctC A)],by simp_arith [xr],⟨_,rfl⟩,?_,λ_=>by simp_arith [xr]⟩;simp_arith [tTru,i1,i2,tru];congr 1;exact x4.mpr e3
 have nd:((A.map Prod.fst).filter λp=>decide (Brk P I p)).Nodup:=ar.nd.filter _;have fl:((A.map Prod.fst).filter λp=>decide (Brk P I p)).length<=1000000:=xm (yC _ _) (by rw[xl];exact ar.len);refine⟨sr ((A.map Prod.fst).filter λp=>decide (Brk P I p)),?_,zPb nd,λp=>?_,by rw[(zBw _).len];exact fl⟩
 ·refine zFn (T:=[knD (Wn P) Kn]) rfl ?_ (zAv _);have so:=zCx (S:=S++[knD (Wn P) Kn]) (v:=.lst (((A.map Prod.fst).filter λp=>decide (Brk P I p)).map cel)) rfl fl;refine zA4 (e:=[some (zA3 P),some (rowD I),some (zAm (bsOf P)),none,none,none,none]) (S1:=S) (by simp_arith [zWd h]) (zA4 (e:=[some (zA3 P),some (rowD I),some (zAm (bsOf P)),some (.lst ((P.map (RW.mask (bsOf P))).map natD)),none,none,none]) (S1:=S) (by simp_arith [zQf h hP]) (zA4 (e:=[some (zA3 P),some (rowD I),some (zAm (bsOf P)),some (.lst ((P.map (RW.mask (bsOf P))).map natD)),some (dctC A),none,none]) (S1:=S) (by simp_arith [eA]) (zA4 (by simp_arith [eNew,eDct];rfl) (zA4 (e:=btE S P I A o6) (S1:=S++[knD (Wn P) Kn]) ?_ ?_))))
  ·rw[sFor,w,Rs.then_ok];exact e
  ·show sRet (eCB zAf (zA0 (eCB zBb (zA0 _ aNil)) aNil)) (btE S P I A o6) _=_;simp only[sRet,eCB,zA0,aNil,cp,Rs.bind_ok,so,zA5,zBp,Rs.then_ok]
 ·rw[(zBw _).mem,uW,ar.key,uV];rfl
theorem yAe(P:List (List Pt))(I:List Pt):∃B:List Pt,(P.flatten.length<=1000->P.length<=1000->SzI P I->Rz B/\(∀p,p∈B <-> Cand P I p/\Brk P I p)/\B.length<=1000000):=by
 by_cases h:P.flatten.length<=1000/\P.length<=1000/\SzI P I
 ·obtain⟨B,_,h1⟩:=zOs (S:=[]) h.1 h.2.1 h.2.2;exact⟨B,λ_ _ _=>h1⟩
 ·exact⟨[],λa b c=>absurd ⟨a,b,c⟩ h⟩
noncomputable def bt (P:List (List Pt)) (I:List Pt):List Pt:=choose (yAe P I)
theorem yAd{P:List (List Pt)}(h:P.flatten.length<=1000)(hP:P.length<=1000)(hI:SzI P I):Rz (bt P I)/\(∀p,p∈bt P I <-> Cand P I p/\Brk P I p)/\(bt P I).length<=1000000:=choose_spec (yAe P I) h hP hI
theorem zWe{P:List (List Pt)}(h:P.flatten.length<=1000)(hP:P.length<=1000)(hI:SzI P I):zD4 [zA3 P,rowD I] S=.ok (rowD (bt P I)) S:=by obtain⟨B,e,h1,h2,_⟩:=zOs h hP hI;obtain⟨g1,g2,_⟩:=yAd h hP hI;rw[zT8 g1 h1 λp=>by rw[g2,h2]];exact e
end
end DP
namespace DS
section
open Classical
def FeedAt(S:Store)(c:Nat)(own seed:Int):Prop:=S[c]?=some (.lst [.int own,.int seed])/\0<=seed/\seed<=2147483629
def Feed(S:Store)(c:Nat):Prop:=∃own seed,FeedAt S c own seed
noncomputable def zOv:SM:=
  (sSeq (sIf (tB (eOp gtD (eOp ixD (eVar 0) (eC (.int 0))) (eC (.int 0)))) (sSeq (sSet 2 (eOp modD (eOp ixD (eVar 0) (eC (.int 0))) (eVar 1)))
  (sSeq (sPut putD (eVar 0) (eC (.int 0)) (eOp zDw (eOp ixD (eVar 0) (eC (.int 0))) (eVar 1)))
  (sRet (eVar 2)))) zAt)
  (sSeq (sSet 3 (eOp modD (eOp mulD (eOp ixD (eVar 0) (eC (.int 1))) (eC (.int 69623))) (eC (.int 2147483647))))
  (sSeq (sPut putD (eVar 0) (eC (.int 1)) (eOp addD (eOp modD (eOp addD (eOp mulD (eVar 3) (eC (.int 48271))) (eC (.int 30103))) (eC (.int 2147483629))) (eC (.int 1))))
  (sRet (eOp modD (eOp zDw (eOp addD (eOp mulD (eVar 3) (eC (.int 2147483647))) (eOp ixD (eVar 0) (eC (.int 1)))) (eC (.int 8191))) (eVar 1))))))
section
variable {S S':Store}{c:Nat}{own seed:Int}
theorem FeedAt.ix0(h:FeedAt S c own seed):ixD S (.ref c) (.int 0)=some (.int own):=by unfold ixD look;simp only[h.1];exact atL0
theorem FeedAt.ix1(h:FeedAt S c own seed):ixD S (.ref c) (.int 1)=some (.int seed):=by unfold ixD look;simp only[h.1];exact atL1
theorem FeedAt.put0(h:FeedAt S c own seed)(x:Int):putD S (.ref c) (.int 0) (.int x)=some (S.set c (.lst [.int x,.int seed])):=by unfold putD;simp only[h.1];rfl
theorem FeedAt.put1(h:FeedAt S c own seed)(x:Int):putD S (.ref c) (.int 1) (.int x)=some (S.set c (.lst [.int own,.int x])):=by unfold putD;simp only[h.1];rfl
theorem Feed.lt(h:Feed S c):c<S.length:=by obtain⟨_,_,h⟩:=h;exact(xO.mp h.1).1
theorem FeedAt.set(h:FeedAt S c own seed){a b:Int}(h1:0<=b)(h2:b<=2147483629):FeedAt (S.set c (.lst [.int a,.int b])) c a b:=⟨by rw[ud (Feed.lt ⟨_,_,h⟩)],h1,h2⟩
theorem Feed.app(h:Feed S c)(T:Store):Feed (S++T) c:=by have l:=h.lt;obtain⟨a,b,h,h1,h2⟩:=h;exact⟨a,b,by rw[vy l];exact h,h1,h2⟩
theorem Feed.setO{k:Nat}(h:Feed S c)(h1:k≠c):Feed (S.set k d) c:=by obtain⟨a,b,h,h2⟩:=h;exact⟨a,b,by rw[vT h1];exact h,h2⟩
theorem zL0(h':Feed S' c)(g:Grow c c S S'):keeps S.length S S':=by
 refine zH4 g.len λi e hi he=>?_
 obtain⟨_,_,h',_⟩:=h';by_cases h1:i=c
 ·subst h1;rw[h']at he;cases he;exact .inr rfl
 ·rw[g.at_ i hi h1 h1]at he;exact .inl he
theorem zQy(h:Feed S c)(h':Feed S' c)(g:Grow c c S S'):Feed (S'.take S.length) c/\Only c c S (S'.take S.length):=by
 have l:=h.lt;obtain⟨a,b,h',h2⟩:=h';refine⟨⟨a,b,by rw[uE l];exact h',h2⟩,by rw[vh];have:=g.len;lia,λk h1 h2=>?_⟩;by_cases hk:k<S.length
 ·rw[uE hk];exact g.at_ k hk h1 h2
 ·rw[vS (by rw[vh];lia),vS (by(lia))]
theorem zAo{np nl:Nat}{b:SM}{ds:List D}{d:D}(hl:ds.length=np)(h:b (ds.map some++List.replicate (nl-np) none) S=.rt d S')(h0:Feed S c)(h1:Feed S' c)(o:Grow c c S S')(hd:d.low S.length=true):∃S'',zAk np nl b ds S=.ok d S''/\Feed S'' c/\Only c c S S'':=by obtain⟨a,b'⟩:=zQy h0 h1 o;refine⟨S'.take S.length,?_,a,b'⟩;unfold zAk;rw[xf hl,h];dsimp only;unfold fin;rw[xf (zL0 h1 o),xf hd]
theorem zSt{many:Int}(hm:0<many)(hs:sm many)(h:Feed S c):∃(r:Int) (S':Store),zAk 2 4 zOv [.ref c,.int many] S=.ok (.int r) S'/\0<=r/\r<many/\Feed S' c/\Only c c S S':=by
 obtain⟨own,seed,h⟩:=h;have g:gtD S (.int own) (.int 0)=some (.bl (decide (0<own))):=rfl;by_cases hp:0<own
 ·have p1:=h.put0 (own.fdiv many);have f1:Feed (S.set c (.lst [.int (own.fdiv many),.int seed])) c:=⟨_,_,h.set h.2.1 h.2.2⟩;obtain⟨S'',e,a,b⟩:=zAo (np:=2) (nl:=4) (b:=zOv) (ds:=[.ref c,.int many]) (d:=.int (own % many)) rfl (by
   unfold zOv;rw[xx hp]at g;simp_arith [h.ix0,g,zBr hm,sPut,zIh hm hs,p1]) ⟨_,_,h⟩ f1 (Only.set1 _).grow rfl
  exact⟨_,S'',e,vC _ (by(lia)),vB _ hm,a,b⟩
 ·rw[xy hp]at g;have m1:mulD S (.int seed) (.int 69623)=some (.int (seed*69623)):=zD1 ⟨zC0 h.2.1 (by have:=h.2.2;lia),zC0 (by decide) (by decide)⟩;obtain⟨one,ho⟩:∃one:Int,one=seed*69623 % 2147483647:=⟨_,rfl⟩
  have o0:0<=one:=by rw[ho];exact vC _ (by decide)
  have o9:one<2147483647:=by rw[ho];exact vB _ (by decide)
  obtain⟨nx,hx⟩:∃nx:Int,nx=(one*48271+30103) % 2147483629+1:=⟨_,rfl⟩
  have n0:0<=nx:=by rw[hx];have:=vC (one*48271+30103) (b:=2147483629) (by decide);lia
  have n9:nx<=2147483629:=by rw[hx];have:=vB (one*48271+30103) (b:=2147483629) (by decide);lia
  have m2:mulD S (.int one) (.int 48271)=some (.int (one*48271)):=zD1 ⟨zC0 o0 (by(lia)),zC0 (by decide) (by decide)⟩;have p1:=h.put1 nx;have f1:=h.set (a:=own) n0 n9;have m3:∀S,mulD S (.int one) (.int 2147483647)=some (.int (one*2147483647)):=λ_=>zD1 ⟨zC0 o0 (by(lia)),zC0 (by decide) (by decide)⟩
  have q1:∀(S:Store) (x:Int),modD S (.int x) (.int 2147483647)=some (.int (x % 2147483647)):=λ_ _=>zBr (by decide)
  have q2:∀(S:Store) (x:Int),modD S (.int x) (.int 2147483629)=some (.int (x % 2147483629)):=λ_ _=>zBr (by decide)
  have q3:∀(S:Store) (x:Int),modD S (.int x) (.int many)=some (.int (x % many)):=λ_ _=>zBr hm
  have q4:∀(S:Store) (x:Int),zDw S (.int x) (.int 8191)=some (.int (x.fdiv 8191)):=λ_ _=>zIh (by decide) (zC0 (by decide) (by decide))
  obtain⟨S'',e,a,b⟩:=zAo (np:=2) (nl:=4) (b:=zOv) (ds:=[.ref c,.int many]) (d:=.int ((one*2147483647+nx).fdiv 8191 % many)) rfl (by
   unfold zOv;simp_arith [h.ix0,g,h.ix1,m1,q1,<- ho,m2,q2,<- hx,sPut,p1,m3,f1.ix1,q4,q3]) ⟨_,_,h⟩ ⟨_,_,f1⟩ (Only.set1 _).grow rfl
  exact⟨_,S'',e,vC _ (by(lia)),vB _ hm,a,b⟩
end
theorem ix_k{ns:List Int}{k:Nat}(h:k<ns.length):ixD S (.klst (ns.map D.int)) (.int k)=some (.int ns[k]):=by have:atL (ns.map D.int) (k:Int)=some (.int ns[k]):=atN rfl (by simp[h]);exact this
noncomputable def zWh:SM:=
  (sSeq (sSet 2 (eOp addD (eOp mulD (eC (.int 7901)) (eVar 1)) (eC (.int 24697))))
  (sSeq (sIf (tB (eOp ltN (eVar 1) (eCB lenB (zA0 (eVar 0) aNil)))) (sSet 2 (eOp ixD (eVar 0) (eVar 1))) (sIf (tB (eOp gtD (eCB lenB (zA0 (eVar 0) aNil)) (eC (.int 0)))) (sSet 2 (eOp addD (eOp mulD (eOp modD (eOp ixD (eVar 0) (eOp modD (eVar 1) (eCB lenB (zA0 (eVar 0) aNil)))) (eC (.int 2147483629))) (eC (.int 31))) (eOp mulD (eC (.int 7901)) (eVar 1)))) zAt))
  (sSeq (sSet 3 (eC (.int 0)))
  (sSeq (sIf (tB (eOp geD (eVar 2) (eOp powD (eC (.int 10)) (eC (.int 18))))) (sSet 3 (eVar 2)) zAt)
  (sRet (eNew (eLst (zA0 (eVar 3) (zA0 (eOp addD (eOp modD (eOp powD (eOp addD (eOp mulD (eOp modD (eVar 2) (eC (.int 2147483629))) (eC (.int 48271))) (eOp mulD (eC (.int 40692)) (eVar 1))) (eC (.int 5))) (eC (.int 2147483629))) (eC (.int 1))) aNil)))))))))
theorem zQx{S:Store}{s:D}{k:Nat}{x:Int}(hk:k<=63):∃own seed:Int,0<=seed/\seed<=2147483629/\(sSeq (sSet 3 (eC (.int 0)))
  (sSeq (sIf (tB (eOp geD (eVar 2) (eOp powD (eC (.int 10)) (eC (.int 18))))) (sSet 3 (eVar 2)) zAt)
  (sRet (eNew (eLst (zA0 (eVar 3) (zA0 (eOp addD (eOp modD (eOp powD (eOp addD (eOp mulD (eOp modD (eVar 2) (eC (.int 2147483629))) (eC (.int 48271))) (eOp mulD (eC (.int 40692)) (eVar 1))) (eC (.int 5))) (eC (.int 2147483629))) (eC (.int 1))) aNil))))))) [some s,some (.int k),some (.int x),none] S=.rt (.ref S.length) (S++[.lst [.int own,.int seed]]):=by
 have q2:∀(x:Int),modD S (.int x) (.int 2147483629)=some (.int (x % 2147483629)):=λ_=>zBr (by decide)
 have pw:powD S (.int 10) (.int 18)=some (.int ((10:Int) ^ 18)):=by show(if(0:Int)<=18/\(18:Int)<=1000000/\(10:Int).natAbs<2 ^ 64 then some (D.int ((10:Int) ^ (18:Int).toNat))else none)=_;rw[xf (by decide)];rfl
 have x0:0<=x % 2147483629:=vC _ (by decide);have x9:x % 2147483629<2147483629:=vB _ (by decide);have m1:mulD S (.int (x % 2147483629)) (.int 48271)=some (.int (x % 2147483629*48271)):=zD1 ⟨zC0 x0 (by(lia)),zC0 (by decide) (by decide)⟩;have m2:mulD S (.int 40692) (.int k)=some (.int (40692*k)):=zD1 ⟨zC0 (by decide) (by decide),zC0 (by(lia)) (by(lia))⟩;have p5:powD S (.int (x % 2147483629*48271+40692*k)) (.int 5)=some (.int ((x % 2147483629*48271+40692*k) ^ 5)):=by show(if(0:Int)<=5/\(5:Int)<=1000000/\(x % 2147483629*48271+40692*k).natAbs<2 ^ 64 then some (D.int ((x % 2147483629*48271+40692*k) ^ (5:Int).toNat))else none)=_;rw[xf ⟨by decide,by decide,by(lia)⟩];rfl
 have s0:=vC ((x % 2147483629*48271+40692*(k:Int)) ^ 5) (b:=2147483629) (by decide);have s9:=vB ((x % 2147483629*48271+40692*(k:Int)) ^ 5) (b:=2147483629) (by decide);have ge:geD S (.int x) (.int ((10:Int) ^ 18))=some (.bl (decide ((10:Int) ^ 18<=x))):=rfl;by_cases c:(10:Int) ^ 18<=x
 ·rw[xx c]at ge;refine⟨x,(x % 2147483629*48271+40692*(k:Int)) ^ 5 % 2147483629+1,?_,?_,by simp_arith [pw,ge,eNew,q2,m1,m2,p5]⟩ <;> lia
 ·rw[xy c]at ge;refine⟨0,(x % 2147483629*48271+40692*(k:Int)) ^ 5 % 2147483629+1,?_,?_,by simp_arith [pw,ge,eNew,q2,m1,m2,p5]⟩ <;> lia
theorem zVc{S:Store}{ns:List Int}{k:Nat}(hk:k<=63):∃own seed:Int,0<=seed/\seed<=2147483629/\zF4 2 4 zWh [.klst (ns.map D.int),.int k] S=.ok (.ref S.length) (S++[.lst [.int own,.int seed]]):=by
 have m1:mulD S (.int 7901) (.int k)=some (.int (7901*k)):=zD1 ⟨zC0 (by decide) (by decide),zC0 (by(lia)) (by(lia))⟩;have ln:lenB S [.klst (ns.map D.int)]=some (.int ns.length):=by show some (D.int ((ns.map D.int).length:Int))=_;rw[xl]
 have l1:ltN S (.int k) (.int ns.length)=some (.bl (decide ((k:Int)<ns.length))):=rfl;have g1:gtD S (.int ns.length) (.int 0)=some (.bl (decide ((0:Int)<ns.length))):=rfl
 suffices h:∃x:Int,∀r,(sSeq (sSet 2 (eOp addD (eOp mulD (eC (.int 7901)) (eVar 1)) (eC (.int 24697))))
  (sSeq (sIf (tB (eOp ltN (eVar 1) (eCB lenB (zA0 (eVar 0) aNil)))) (sSet 2 (eOp ixD (eVar 0) (eVar 1))) (sIf (tB (eOp gtD (eCB lenB (zA0 (eVar 0) aNil)) (eC (.int 0)))) (sSet 2 (eOp addD (eOp mulD (eOp modD (eOp ixD (eVar 0) (eOp modD (eVar 1) (eCB lenB (zA0 (eVar 0) aNil)))) (eC (.int 2147483629))) (eC (.int 31))) (eOp mulD (eC (.int 7901)) (eVar 1)))) zAt)) r)) [some (.klst (ns.map D.int)),some (.int k),none,none] S=r [some (.klst (ns.map D.int)),some (.int k),some (.int x),none] S by
  obtain⟨x,h⟩:=h;obtain⟨own,seed,s0,s9,e⟩:=zQx (S:=S) (s:=.klst (ns.map D.int)) (k:=k) (x:=x) hk;refine⟨own,seed,s0,s9,?_⟩;have:=h _ |>.trans e
  unfold zF4 zWh;simp only[xD,uH,Nat.reduceAdd,xr,xp,x8,Nat.reduceSub,List.replicate,uq,List.nil_append];rw[this]
 by_cases c:(k:Int)<ns.length
 ·rw[xx c]at l1;have i1:=ix_k (S:=S) (ns:=ns) (k:=k) (by(lia));exact⟨ns[k]'(by(lia)),λr=>by simp_arith [m1,ln,l1,i1]⟩
 ·rw[xy c]at l1;by_cases c2:(0:Int)<ns.length
  ·rw[xx c2]at g1;have q1:modD S (.int k) (.int ns.length)=some (.int ((k % ns.length:Nat):Int)):=by
    rw[zBr c2];norm_cast
   have i1:=ix_k (S:=S) (ns:=ns) (k:=k % ns.length) (vv _ (by(lia)));have q2:∀(x:Int),modD S (.int x) (.int 2147483629)=some (.int (x % 2147483629)):=λ_=>zBr (by decide)
   have x0:=vC (ns[k % ns.length]'(vv _ (by(lia)))) (b:=2147483629) (by decide);have x9:=vB (ns[k % ns.length]'(vv _ (by(lia)))) (b:=2147483629) (by decide);have m2:=zD1 (S:=S) (show sm (ns[k % ns.length]'(vv _ (by(lia))) % 2147483629)/\sm 31 from⟨zC0 x0 (by(lia)),zC0 (by decide) (by decide)⟩);exact⟨ns[k % ns.length]'(vv _ (by(lia))) % 2147483629*31+7901*k,λr=>by simp_arith [m1,ln,l1,g1,q1,i1,q2,m2]⟩
  ·rw[xy c2]at g1;exact⟨7901*k+24697,λr=>by simp_arith [m1,ln,l1,g1]⟩
end
end DS
namespace DP
open DS RW
open PySem (PyData)
section
open Classical
noncomputable def unC:D->Pt
 | .tup [.int x,.int y]=>(x,y)
 | _=>(0,0)
noncomputable def unR:D->List Pt
 | .tup l=>l.map unC
 | _=>[]
theorem zFo(l:List Pt):(l.map cel).map unC=l:=by rw[xC];exact List.map_id l
theorem zEb(l:List (List Pt)):(l.map rowD).map unR=l:=by rw[xC];exact(vP λr _=>zFo r).trans (List.map_id l)
theorem zLy(l:List Pt):(sr l).Perm l:=by
 have:=(zAy (l.map cel)).map unC
 rwa[(zBw l).eq,zFo,zFo]at this
theorem zDg(l:List (List Pt)):∀y∈l.map rowD,lv 2 y:=λy hy=>by obtain⟨p,_,rfl⟩:=xn.mp hy;exact zYt p
noncomputable def sR (l:List (List Pt)):List (List Pt):=(srt (l.map rowD)).map unR
theorem zDe(l:List (List Pt)):(sR l).Perm l:=by
 have:=(zAy (l.map rowD)).map unR
 rwa[zEb]at this
theorem zT7(l:List (List Pt)):srt (l.map rowD)=(sR l).map rowD:=by
 unfold sR;rw[xC];refine(vP (g:=id) λx hx=>?_).trans (List.map_id _) |>.symm
 obtain⟨r,_,rfl⟩:=xn.mp ((zAy _).mem_iff.mp hx);show rowD (unR (rowD r))=rowD r;rw[show unR (rowD r)=r from zFo r]
theorem zXa(l:List (List Pt)):Up ((sR l).map rowD):=by rw[<- zT7];exact zEd (zDg l)
theorem zXb{l:List (List Pt)}(p:l.Perm m)(h:Up (l.map rowD)):sR m=l:=by have:=zGs (zDg l) (p.map rowD) h;rw[zT7]at this;have:=congrArg (List.map unR) this;rw[zEb,zEb]at this;exact this.symm
theorem zX7{l:List Pt}(p:l.Perm m)(h:Up (l.map cel)):sr m=l:=by have:=zGs (zBs l) (p.map cel) h;rw[(zBw m).eq]at this;exact(zD8 this).symm
theorem yAs{l:List Pt}(p:l.Perm m):sr l=sr m:=(zX7 ((zLy l).trans p) (zBw l).up).symm
theorem yAy{l:List (List Pt)}(p:l.Perm m):sR l=sR m:=(zXb ((zDe l).trans p) (zXa l)).symm
theorem zEf{l:List (List Pt)}(hl:l.length<=1000):zBb S [.lst (l.map rowD)]=some (.lst ((sR l).map rowD)):=by show(if sortable (l.map rowD)then some (D.lst (srt (l.map rowD)))else none)=_;rw[xf ⟨by rw[xl];exact xm hl (by decide),2,by decide,zDg l⟩,zT7]
theorem zFr{r:List Pt}(hl:r.length<=1000):zBb S [.lst (r.map cel)]=some (.lst ((sr r).map cel)):=zCx rfl (by nofun)
theorem zPc{r:List Pt}(hl:r.length<=1000):zBb S [rowD r]=some (.lst ((sr r).map cel)):=zCx rfl (by nofun)
theorem zVf :eqK S (rowD q) (rowD r)=some (.bl (decide (q=r))):=by show(if lvs (q.map cel++r.map cel)then some (D.bl (decide (q.map cel=r.map cel)))else none)=_;rw[<- vQ,xf ⟨1,by decide,zBs _⟩];congr 2;exact x4.mpr ⟨zD8,λe=>by rw[e]⟩
theorem zPh{l m:List (List Pt)}(h:l.map rowD=m.map rowD):l=m:=by
 have:=congrArg (List.map unR) h
 rwa[zEb,zEb]at this
theorem zK5 :eqK S (zA3 q) (zA3 r)=some (.bl (decide (q=r))):=by show(if lvs (q.map rowD++r.map rowD)then some (D.bl (decide (q.map rowD=r.map rowD)))else none)=_;rw[<- vQ,xf ⟨2,by decide,zDg _⟩];congr 2;exact x4.mpr ⟨zPh,λe=>by rw[e]⟩
theorem zSm(h:ad p v=ad q v):p=q:=by have h1:=congrArg Prod.fst h;have h2:=congrArg Prod.snd h;exact vp (by simpa using h1) (by simpa using h2)
theorem zOq{p q:Pt}:blt (cel p) (cel q)=if p.1=q.1 then decide (p.2<q.2)else decide (p.1<q.1):=by
 show bltL [.int p.1,.int p.2] [.int q.1,.int q.2]=_;rw[zAx,zAx];by_cases h:p.1=q.1
 ·rw[xf (by rw[h]),xf h];by_cases h2:p.2=q.2
  ·rw[xf (by rw[h2]),bltL,h2];exact(xy (by nofun)).symm
  ·rw[xg λz=>h2 (D.int.inj z),blt]
 ·rw[xg λz=>h (D.int.inj z),xg h,blt]
theorem zSj :blt (cel (ad p v)) (cel (ad q v))=blt (cel p) (cel q):=by
 rw[zOq,zOq];by_cases h:p.1=q.1
 ·rw[xf h,xf (show p.1+v.1=q.1+v.1 by rw[h])];exact x4.mpr (by show p.2+v.2<q.2+v.2 <-> _;lia)
 ·rw[xg h,xg (show ¬ p.1+v.1=q.1+v.1 by nofun)];exact x4.mpr (by show p.1+v.1<q.1+v.1 <-> _;lia)
noncomputable abbrev cr (v:Pt) (r:List Pt):List Pt:=r.map (ad · v)
theorem zOr :∀(q r:List Pt),bltL ((cr v q).map cel) ((cr v r).map cel)=bltL (q.map cel) (r.map cel)
 | [],[]=>rfl
 | [],_::_=>by simp only[cr,x8,xp,bltL]
 | _::_,[]=>by simp only[cr,x8,xp,bltL]
 | p::q,s::r=>by
  have ih:=zOr (v:=v) q r;simp only[cr,xp]at ih ⊢;rw[zAx,zAx,ih,zSj];by_cases h:p=s
  ·rw[xf (by rw[h]),xf (by rw[h])]
  ·rw[xg λz=>h (zSm (zCt z)),xg λz=>h (zCt z)]
theorem zWy{r:List Pt}(h:Up (r.map cel)):Up ((cr v r).map cel):=by unfold cr;rw[xC];refine vK.mpr ((vK.mp h).imp λ{a b} z=>?_);show blt (cel (ad b v)) (cel (ad a v))=false;rw[zSj];exact z
theorem zWx{P:List (List Pt)}(h:Up (P.map rowD)):Up ((P.map (cr v)).map rowD):=by rw[xC];refine vK.mpr ((vK.mp h).imp λ{a b} z=>?_);have z:blt (rowD b) (rowD a)=false:=z;rw[blt]at z;show blt (rowD (cr v b)) (rowD (cr v a))=false;rw[blt,zOr];exact z
theorem yAz(h:Rz r):Rz (cr v r):=⟨vK.mpr (h.1.imp λ{a b} n z=>n (zSm z)),zWy h.2⟩
noncomputable abbrev lstD (r:List Pt):D:=.lst (r.map cel)
noncomputable abbrev Tb:=Int × Int × Int × Int
noncomputable abbrev tb (T:Tb):D:=.tup [.int T.1,.int T.2.1,.int T.2.2.1,.int T.2.2.2]
noncomputable abbrev ld (T:Tb) (p:Pt):Pt:=(T.1*p.1+T.2.1*p.2,T.2.2.1*p.1+T.2.2.2*p.2)
def Bt(T:Tb):Prop:=BB 30 T.1/\BB 30 T.2.1/\BB 30 T.2.2.1/\BB 30 T.2.2.2
def Bp(k:Nat)(p:Pt):Prop:=BB k p.1/\BB k p.2
theorem Bp.mono{i j:Nat}(h:Bp i p)(hi:i<=j):Bp j p:=⟨h.1.mono hi,h.2.mono hi⟩
theorem Bp.ld{k:Nat}(hT:Bt T)(hp:Bp k p):Bp (k+31) (ld T p):=
 ⟨((hT.1.mul hp.1).add (hT.2.1.mul hp.2)).mono (by nofun),((hT.2.2.1.mul hp.1).add (hT.2.2.2.mul hp.2)).mono (by nofun)⟩
section
variable {S:Store}{k:Nat}{T:Tb}{p v:Pt}
theorem zL6:zD3 [cel p,cel v] S=.ok (cel (ad p v)) S:=zAl rfl (by unfold zHu;simp_arith [xr]) rfl
theorem zEl:zAh [cel p,cel v] S=.ok (cel (ad p v)) S:=zAl rfl (by unfold zCp;simp_arith [xr]) rfl
theorem muls(hk:k<=3000)(hT:Bt T)(hp:Bp k p):(∀S,mulD S (.int T.1) (.int p.1)=some (.int (T.1*p.1)))/\(∀S,mulD S (.int T.2.1) (.int p.2)=some (.int (T.2.1*p.2)))/\(∀S,mulD S (.int T.2.2.1) (.int p.1)=some (.int (T.2.2.1*p.1)))/\∀S,mulD S (.int T.2.2.2) (.int p.2)=some (.int (T.2.2.2*p.2)):=
 ⟨λ_=>zEi hT.1 hp.1 (hj:=by nofun),λ_=>zEi hT.2.1 hp.2 (hj:=by nofun),λ_=>zEi hT.2.2.1 hp.1 (hj:=by nofun),λ_=>zEi hT.2.2.2 hp.2 (hj:=by nofun)⟩
theorem zYx(hk:k<=3000)(hT:Bt T)(hp:Bp k p):zQz [tb T,cel p] S=.ok (cel (ld T p)) S:=by obtain⟨m1,m2,m3,m4⟩:=muls hk hT hp;have w1:zEq [.tup [.int T.1,.int T.2.1],cel p] S=.ok (.int (T.1*p.1+T.2.1*p.2)) S:=zAl rfl (by unfold zJ1;simp_arith [m1,m2]) rfl;have w2:zEq [.tup [.int T.2.2.1,.int T.2.2.2],cel p] S=.ok (.int (T.2.2.1*p.1+T.2.2.2*p.2)) S:=zAl rfl (by unfold zJ1;simp_arith [m3,m4]) rfl;have s1:slD S (tb T) none (some 2)=some (.tup [.int T.1,.int T.2.1]):=rfl;have s2:slD S (tb T) (some 2) none=some (.tup [.int T.2.2.1,.int T.2.2.2]):=rfl;exact zAl rfl (by unfold yAf;simp_arith [s1,s2,w1,w2]) rfl
theorem zN5(hk:k<=3000)(hT:Bt T)(hp:Bp k p):zAd [tb T,cel p] S=.ok (cel (ld T p)) S:=by obtain⟨m1,m2,m3,m4⟩:=muls hk hT hp;exact zAl rfl (by unfold zDk;simp_arith [m1,m2,m3,m4]) rfl
theorem zJs(hk:k<=3000)(hT:Bt T)(hp:Bp k p):zAd [.lst [.int T.1,.int T.2.1,.int T.2.2.1,.int T.2.2.2],cel p] S=.ok (cel (ld T p)) S:=by obtain⟨m1,m2,m3,m4⟩:=muls hk hT hp;exact zAl rfl (by unfold zDk;simp_arith [m1,m2,m3,m4]) rfl
theorem zFl{e:EM}{i j:Nat}{l:List D}{f:Pt->Pt}{r:List Pt}(hw:zE9 S w=some ⟨r.map cel,[]⟩)(hi:env[i]?=some (some w))(hj:env[j]?=some (some d))(hl:r.length<=1000000)(he:∀p∈r,e [some (cel p),some d] S=.ok (cel (f p)) S):
  zA6 1 [j] (iVal (eVar i)) (gName 0) tYes e env S=.ok (lstD (r.map f)) S:=by
 have:=zCs (f:=λp=>cel (f p)) (own:=1) (ix:=[j]) (i:=iVal (eVar i)) (g:=gName 0) (e:=e) (S:=S) (env:=env) (xs:=r) (h:=cel) (λenv=>∃o,env=[o,some d]) (by simp only[iVal,eVar,hi,Rs.bind_ok,hw,zA5]) zA9 ⟨none,by simp[compEnv,hj]⟩ (xm hl (by decide)) λp hp env hq44=>by
  obtain⟨o,h⟩:=hq44;subst h;exact⟨[some (cel p),some d],rfl,⟨_,rfl⟩,he p hp⟩
 rw[this,lstD,xC];rfl
theorem zO6{e:EM}{i j:Nat}{hD gD:List Pt->D}{P:List (List Pt)}(hw:zE9 S w=some ⟨P.map hD,[]⟩)(hi:env[i]?=some (some w))(hj:env[j]?=some (some d))(hl:P.length<=1000){f:List Pt->List Pt}(he:∀r∈P,e [some (hD r),some d] S=.ok (gD (f r)) S):
  zA6 1 [j] (iVal (eVar i)) (gName 0) tYes e env S=.ok (.lst ((P.map f).map gD)) S:=by
 have:=zCs (f:=λr=>gD (f r)) (own:=1) (ix:=[j]) (i:=iVal (eVar i)) (g:=gName 0) (e:=e) (S:=S) (env:=env) (xs:=P) (h:=hD) (λenv=>∃o,env=[o,some d]) (by simp only[iVal,eVar,hi,Rs.bind_ok,hw,zA5]) zA9 ⟨none,by simp[compEnv,hj]⟩ (xm hl (by decide)) λp hp env hq45=>by
  obtain⟨o,h⟩:=hq45;subst h;exact⟨[some (hD p),some d],rfl,⟨_,rfl⟩,he p hp⟩
 rw[this,xC];rfl
variable {r:List Pt}{P:List (List Pt)}
theorem zIe(hl:r.length<=1000):zB1 [rowD r,cel v] S=.ok (rowD (cr v r)) S:=by
 refine zAl rfl ?_ (zAv _);have c:=zFl (S:=S) (e:=zA2 zD3 (zA0 (eVar 0) (zA0 (eVar 1) aNil))) (env:=[some (rowD r),some (cel v)]) (i:=0) (j:=1) (f:=(ad · v)) (l:=[]) zBa rfl rfl (by nofun) λp _=>by simp_arith [zL6]
 show sRet (eCB zAf (zA0 _ aNil)) [some (rowD r),some (cel v)] S=_;rw[sRet,eCB,zA0,c];rfl
theorem zCq(hl:P.length<=1000)(hr:∀r∈P,r.length<=1000):zAj [zA3 P,cel v] S=.ok (zA3 (P.map (cr v))) S:=by
 refine zAl rfl ?_ (zC2 _);have c:=zO6 (S:=S) (e:=zA2 zB1 (zA0 (eVar 0) (zA0 (eVar 1) aNil))) (env:=[some (zA3 P),some (cel v)]) (i:=0) (j:=1) (hD:=rowD) (gD:=rowD) (f:=cr v) zBa rfl rfl hl λr h=>by simp_arith [zIe (hr r h)]
 show sRet (eCB zAf (zA0 _ aNil)) [some (zA3 P),some (cel v)] S=_;rw[sRet,eCB,zA0,c];rfl
theorem zVh(hk:k<=3000)(hT:Bt T)(hl:r.length<=1000)(hb:∀p∈r,Bp k p):zDj [tb T,rowD r] S=.ok (rowD (r.map (ld T))) S:=by
 refine zAl rfl ?_ (zAv _);have c:=zFl (S:=S) (e:=zA2 zQz (zA0 (eVar 1) (zA0 (eVar 0) aNil))) (env:=[some (tb T),some (rowD r)]) (i:=1) (j:=0) (f:=ld T) (l:=[]) zBa rfl rfl (by nofun) λp hp=>by simp_arith [zYx hk hT (hb p hp)]
 show sRet (eCB zAf (zA0 _ aNil)) [some (tb T),some (rowD r)] S=_;rw[sRet,eCB,zA0,c];rfl
theorem zV2(hk:k<=3000)(hT:Bt T)(hl:r.length<=1000)(hb:∀p∈r,Bp k p):zBl [rowD r,tb T] S=.ok (rowD (sr (r.map (ld T)))) S:=
 zAl rfl (by unfold zDs;simp_arith [zVh hk hT hl hb,zPc (S:=S) (r:=r.map (ld T)) (by rw[xl];exact hl),zBp]) (zAv _)
noncomputable abbrev lds (T:Tb) (P:List (List Pt)):List (List Pt):=sR (P.map λr=>sr (r.map (ld T)))
theorem zEh(hk:k<=3000)(hT:Bt T)(hl:P.length<=1000)(hb:∀r∈P,r.length<=1000/\∀p∈r,Bp k p):zAn [zA3 P,tb T] S=.ok (zA3 (lds T P)) S:=by
 refine zAl rfl ?_ (zC2 _);have c:=zO6 (S:=S) (e:=zA2 zBl (zA0 (eVar 0) (zA0 (eVar 1) aNil))) (env:=[some (zA3 P),some (tb T)]) (i:=0) (j:=1) (hD:=rowD) (gD:=rowD) (f:=λr=>sr (r.map (ld T))) zBa rfl rfl hl λr h=>by simp_arith [zV2 hk hT (hb r h).1 (hb r h).2]
 show sRet (eCB zAf (zA0 (eCB zBb (zA0 _ aNil)) aNil)) [some (zA3 P),some (tb T)] S=_;simp only[sRet,eCB,zA0,aNil,c,Rs.bind_ok,zEf (S:=S) (l:=P.map λr=>sr (r.map (ld T))) (by rw[xl];exact hl),zA5,zBp,Rs.then_ok]
theorem zFd(hl:P.length<=1000)(hr:∀r∈P,r.length<=1000):zAq [.lst (P.map lstD)] S=.ok (zA3 (sR (P.map sr))) S:=by
 refine zAl rfl ?_ (zC2 _);have c:zA6 1 [] (iVal (eVar 0)) (gName 0) tYes (eCB zAf (zA0 (eCB zBb (zA0 (eVar 0) aNil)) aNil)) [some (.lst (P.map lstD))] S=.ok (.lst ((P.map sr).map rowD)) S:=by
  have:=zCs (f:=λr=>rowD (sr r)) (own:=1) (ix:=[]) (i:=iVal (eVar 0)) (g:=gName 0) (e:=eCB zAf (zA0 (eCB zBb (zA0 (eVar 0) aNil)) aNil)) (S:=S) (env:=[some (.lst (P.map lstD))]) (xs:=P) (h:=lstD) (λenv=>∃o,env=[o]) (by simp_arith [iVal,zCw]) zA9 ⟨none,rfl⟩ (xm hl (by decide)) λr h env hq46=>by
   obtain⟨o,hh⟩:=hq46;subst hh;exact⟨[some (lstD r)],rfl,⟨_,rfl⟩,by simp_arith [zFr (S:=S) (hr r h),zBp]⟩
  rw[this,xC];rfl
 show sRet (eCB zAf (zA0 (eCB zBb (zA0 _ aNil)) aNil)) [some (.lst (P.map lstD))] S=_;simp only[sRet,eCB,zA0,aNil,c,Rs.bind_ok,zEf (S:=S) (l:=P.map sr) (by rw[xl];exact hl),zA5,zBp,Rs.then_ok]
end
noncomputable abbrev cPD (p:Pt):PyData:=.tuple [.int p.1,.int p.2]
noncomputable abbrev rPD (r:List Pt):PyData:=.tuple (r.map cPD)
theorem zI3:∀(l:List Pt),zCl (l.map cel)=some (l.map cPD)
 | []=>by unfold zCl;rfl
 | p::l=>by
  rw[xp,zCl,show pdOf (cel p)=some (cPD p) by simp[pdOf,zCl],zI3 l];rfl
theorem zY5(r:List Pt):pdOf (rowD r)=some (rPD r):=by unfold pdOf;rw[zI3];rfl
theorem zMl:∀(l:List (List Pt)),zCl (l.map rowD)=some (l.map rPD)
 | []=>by unfold zCl;rfl
 | r::l=>by
  rw[xp,zCl,zY5 r,zMl l];rfl
theorem zJc{i:Int}(h:BB 64 i):(PyData.int i).showable=true/\(PyData.int i).leavesShort 21=true:=by
 have h:i.natAbs<2 ^ 64:=h;constructor
 ·show decide (i.natAbs.log2<1920)=true;by_cases z:i.natAbs=0
  ·rw[z];decide
  ·exact xx ((Nat.log2_lt z).mpr (vL h (by decide)))
 ·have e:=PySem.int_text_length_le10 (a:=i) (k:=20) (by decide) (vL h (by decide));show decide ((PySem.Str.ofString (toString i)).length<=21)=true;rw[PySem.ofString_length];exact xx e
theorem zHz:∀(l:List Pt),(∀p∈l,Bp 64 p)->PyData.showableAll (l.map cPD)=true/\PyData.leavesShortAll 21 (l.map cPD)=true/\PyData.depthAll (l.map cPD)<=1/\PyData.bulkAll (l.map cPD)=3*l.length
 | [],_=>⟨rfl,rfl,xT _,rfl⟩
 | p::l,h=>by
  obtain⟨i1,i2,i3,i4⟩:=zHz l λq hq=>h q (.tail _ hq)
  obtain⟨b1,b2⟩:=h p (.head _);refine⟨?_,?_,?_,?_⟩
  ·show(((PyData.int p.1).showable && ((PyData.int p.2).showable && true)) && PyData.showableAll (l.map cPD))=true;rw[i1,(zJc b1).1,(zJc b2).1];rfl
  ·show(((PyData.int p.1).leavesShort 21 && ((PyData.int p.2).leavesShort 21 && true)) && PyData.leavesShortAll 21 (l.map cPD))=true;rw[i2,(zJc b1).2,(zJc b2).2];rfl
  ·show max 1 (PyData.depthAll (l.map cPD))<=1;exact Nat.max_le.mpr ⟨xk 1,i3⟩
  ·show 2+1+PyData.bulkAll (l.map cPD)=3*(l.length+1);rw[i4];lia
theorem zLt:∀(l:List (List Pt)),(∀r∈l,r.length<=12/\∀p∈r,Bp 64 p)->PyData.showableAll (l.map rPD)=true/\PyData.leavesShortAll 21 (l.map rPD)=true/\PyData.depthAll (l.map rPD)<=2/\PyData.bulkAll (l.map rPD)<=37*l.length
 | [],_=>⟨rfl,rfl,xT _,xk 0⟩
 | r::l,h=>by
  obtain⟨i1,i2,i3,i4⟩:=zLt l λq hq=>h q (.tail _ hq)
  obtain⟨hl,hb⟩:=h r (.head _);obtain⟨c1,c2,c3,c4⟩:=zHz r hb;refine⟨?_,?_,?_,?_⟩
  ·show(PyData.showableAll (r.map cPD) && PyData.showableAll (l.map rPD))=true;rw[i1,c1];rfl
  ·show(PyData.leavesShortAll 21 (r.map cPD) && PyData.leavesShortAll 21 (l.map rPD))=true;rw[i2,c2];rfl
  ·show max (PyData.depthAll (r.map cPD)+1) (PyData.depthAll (l.map rPD))<=2;exact Nat.max_le.mpr ⟨Nat.succ_le_succ c3,i3⟩
  ·show PyData.bulkAll (r.map cPD)+1+PyData.bulkAll (l.map rPD)<=37*(l.length+1);lia
theorem zM6(e:zCl l=some q)(c1:PyData.showableAll q=true)(c2:PyData.leavesShortAll 21 q=true)(c3:PyData.depthAll q<=2)(c4:PyData.bulkAll q<=100000):∃t,∀S,zBx S [.tup l]=some (.str t):=by
 refine⟨(PyData.tuple q).shown,λS=>?_⟩;have e:pdOf (.tup l)=some (.tuple q):=by unfold pdOf;rw[e];rfl
 unfold zBx;dsimp only;rw[e];dsimp only;rw[xf];refine⟨c1,?_,?_⟩
 ·show PyData.depthAll q+1<=60;lia
 ·have h:=PyData.shown_le_bulk 21 (by decide) (.tuple q) c2;have b:(PyData.tuple q).bulk<=100001:=by
   show PyData.bulkAll q<=100001;lia
  have m:most=2 ^ 24:=rfl;rw[m];lia
theorem zGz{rs:List (List Pt)}(hb:∀r∈rs,r.length<=12/\∀p∈r,Bp 64 p)(hl:rs.length<=1000):∃t,∀S,zBx S [zA3 rs]=some (.str t):=by obtain⟨c1,c2,c3,c4⟩:=zLt rs hb;exact zM6 (zMl rs) c1 c2 c3 (by nofun)
theorem zPj{r:List Pt}(hb:∀p∈r,Bp 64 p)(hl:r.length<=1000):∃t,∀S,zBx S [rowD r]=some (.str t):=by obtain⟨c1,c2,c3,c4⟩:=zHz r hb;exact zM6 (zI3 r) c1 c2 (by nofun) (by nofun)
theorem ne_str :neK S (.str t) (.str t)=some (.bl false):=by show some (D.bl (!decide (t=t)))=_;simp
def Bd(p:Pt):Prop:=-1000<=p.1/\p.1<=1000/\-1000<=p.2/\p.2<=1000
theorem taken{c:Nat}{many:Int}(hm:0<many)(h9:many<2147483648)(h:Feed S c):∃(r:Int) (S':Store),zA1 [.ref c,.int many] S=.ok (.int r) S'/\0<=r/\r<many/\Feed S' c/\Only c c S S':=zSt hm (zC0 (by nofun) h9) h
theorem zZj{r:Int}(h0:0<=r)(h9:r<4):∃f:Int,2<=f/\f<=1000/\ixD S (.lst [.int 2,.int 2,.int 2,.int 1000]) (.int r)=some (.int f):=by
 rcases(show r=0\/r=1\/r=2\/r=3 by nofun)with rfl|rfl|rfl|rfl
 ·exact⟨2,by decide,by decide,atL0⟩
 ·exact⟨2,by decide,by decide,atL1⟩
 ·exact⟨2,by decide,by decide,atL2⟩
 ·exact⟨1000,by decide,by decide,atL3⟩
theorem zOe{c:Nat}(h:Feed S c):∃(p:Pt) (S':Store),zB2 [.ref c] S=.ok (cel p) S'/\Bd p/\Feed S' c/\Only c c S S':=by
 obtain⟨r,S1,e1,r0,r9,f1,o1⟩:=taken (many:=4) (by decide) (by decide) h;obtain⟨f,g0,g9,ef⟩:=zZj (S:=S1) r0 r9;obtain⟨x,S2,e2,x0,x9,f2,o2⟩:=taken (many:=2*f+1) (by nofun) (by nofun) f1;obtain⟨y,S3,e3,y0,y9,f3,o3⟩:=taken (many:=2*f+1) (by nofun) (by nofun) f2;have m1:∀S,mulD S (.int 2) (.int f)=some (.int (2*f)):=λ_=>zD1 ⟨zC0 (by decide) (by decide),zC0 (by nofun) (by nofun)⟩
 have o:=(o1.trans o2).trans o3;obtain⟨S4,e,a,b⟩:=zAo (np:=1) (nl:=2) (b:=zCv) (ds:=[.ref c]) (d:=cel (x-f,y-f)) rfl (by
  unfold zCv;simp_arith [e1,ef,m1,e2,e3]) h f3 o.grow rfl
 exact⟨(x-f,y-f),S4,e,⟨by show -1000<=x-f;lia,by show x-f<=1000;lia,by show -1000<=y-f;lia,by show y-f<=1000;lia⟩,a,b⟩
theorem zXe{cs:List Pt}{m:Nat}(hl:cs.length<=1000):zBd [.lst (cs.map cel),.int (m:Nat)] S=.ok (rowD (picked cs m)) S:=by
 have m9:1000<=most:=by decide
 refine zAl rfl ?_ (zAv _);have w:iEn false (eVar 0) [some (.lst (cs.map cel)),some (.int (m:Nat))] S=.ok ⟨cs.zipIdx.map λa=>.tup [.int (a.2:Nat),cel a.1],[]⟩ S:=by
  have w:enW false S (.lst (cs.map cel))=some ⟨cs.zipIdx.map λa=>.tup [.int (a.2:Nat),cel a.1],[]⟩:=by show(if false=false/\(cs.map cel).length<2 ^ 60 then some (Walk.mk (zDx (cs.map cel) 0) [])else none)=_;rw[xf ⟨rfl,by rw[xl];lia⟩,zH7]
  simp only[iEn,eVar,vX,Rs.bind_ok,w,zA5]
 have cp:=zEt (own:=2) (ix:=[1]) (g:=gTup [gName 0,gName 1]) (c:=tB (eOp eqI (eOp andD (eOp shrD (eVar 2) (eVar 0)) (eC (.int 1))) (eC (.int 1)))) (e:=eVar 1) (S:=S) (env:=[some (.lst (cs.map cel)),some (.int (m:Nat))]) (xs:=cs.zipIdx) (f:=λa=>cel a.1) (p:=λa=>m.testBit a.2) (λenv=>∃o1 o2,env=[o1,o2,some (.int (m:Nat))]) w zA9 ⟨none,none,rfl⟩ (by rw[List.length_zipIdx];lia) (λa ha env hh=>by
  obtain⟨o1,o2,rfl⟩:=hh;have sh:shrD S (.int (m:Nat)) (.int (a.2:Nat))=some (.int ((m / 2 ^ a.2:Nat):Int)):=by
   show(if(0:Int)<=(a.2:Nat)then some (D.int ((m:Int) / 2 ^ (a.2:Int).toNat))else none)=_;rw[xf (by nofun),xZ]
   norm_cast
  have an:andD S (.int ((m / 2 ^ a.2:Nat):Int)) (.int 1)=some (.int ((m / 2 ^ a.2 % 2:Nat):Int)):=by show(if(0:Int)<=((m / 2 ^ a.2:Nat):Int)/\(0:Int)<=1 then some (D.int (((((m / 2 ^ a.2:Nat):Int).toNat &&& (1:Int).toNat:Nat)):Int))else none)=_;rw[xf ⟨by nofun,by decide⟩,xZ,show(1:Int).toNat=1 from rfl,Nat.and_one_is_mod]
  have eq:eqI S (.int ((m / 2 ^ a.2 % 2:Nat):Int)) (.int 1)=some (.bl (m.testBit a.2)):=by show some (D.bl (decide (((m / 2 ^ a.2 % 2:Nat):Int)=1)))=_;rw[Nat.testBit_eq_decide_div_mod_eq];congr 2;exact x4.mpr (by nofun)
  refine⟨[some (.int (a.2:Nat)),some (cel a.1),some (.int (m:Nat))],rfl,⟨_,_,rfl⟩,by simp_arith [sh,an,eq],λ_=>by simp_arith [xr]⟩)
 show(sRet (eCB zAf (zA0 (zA6 2 [1] (iEn false (eVar 0)) (gTup [(gName 0),(gName 1)]) (tB (eOp eqI (eOp andD (eOp shrD (eVar 2) (eVar 0)) (eC (.int 1))) (eC (.int 1)))) (eVar 1)) aNil))) [some (.lst (cs.map cel)),some (.int (m:Nat))] S=_;have tp:∀l S,zAf S [.lst l]=some (.tup l):=λ_ _=>rfl
 unfold sRet eCB zA0 aNil;rw[cp];simp only[Rs.bind_ok,Rs.then_ok,tp,zA5];unfold picked rowD;rw[xC];rfl
structure MkF (c:Nat) (S0:Store) (n:Nat) (l:List D) (S:Store):Prop where
 feed:Feed S c
 grow:Grow c c S0 S
 at_:S[n]?=some (.lst l)
 far:S0.length<=n
section
variable {c n:Nat}{S0 S S':Store}{l:List D}
theorem MkF.take(h0:Feed S0 c)(h:MkF c S0 n l S)(d:Feed S' c)(o:Only c c S S'):MkF c S0 n l S':=by have l0:=h0.lt;have:=h.far;exact⟨d,h.grow.trans o.grow,by rw[o.at_ n (by nofun) (by nofun)];exact h.at_,h.far⟩
theorem MkF.add(h0:Feed S0 c)(h:MkF c S0 n l S)(d:D):MkF c S0 n (l++[d]) (S.set n (.lst (l++[d]))):=by have l0:=h0.lt;have:=h.far;exact⟨h.feed.setO (by nofun),h.grow.set h.far,by rw[ud (xO.mp h.at_).1],h.far⟩
theorem MkF.new(h0:Feed S0 c)(d:Feed S c)(g:Grow c c S0 S)(l:List D):MkF c S0 S.length l (S++[.lst l]):=⟨d.app _,g.trans (.app _),by simp,g.len⟩
end
noncomputable abbrev cCl:TM:=(tB (eOp inK (eTup (zA0 (eVar 4) (zA0 (eVar 5) aNil))) (eVar 2)))
noncomputable abbrev wCl:SM:=(sSet 4 (eOp subD (eOp modD (eOp addD (eVar 4) (eC (.int 1001))) (eC (.int 2001))) (eC (.int 1000))))
theorem zNh{n:Nat}{l:List Pt}(h:S[n]?=some (.lst (l.map cel))):inK S (cel p) (.ref n)=some (.bl (decide (p∈l))):=by unfold inK inKO;rw[show look S (.ref n)=some (.lst (l.map cel))from h];dsimp only;rw[xf (zYs p l)];show some (D.bl _)=_;congr 2;exact x4.mpr zC1
noncomputable abbrev nxt (v:Int) (j:Nat):Int:=(v+1000+j) % 2001-1000
theorem zJ9{n:Nat}{l:List Pt}{y:Int}{a0 a1 a3:Option D}(hT:S[n]?=some (.lst (l.map cel))):∀(j:Nat) (v:Int),-1000<=v->v<=1000->(nxt v j,y) ∉ l->(∀i:Nat,i<j->(nxt v i,y)∈l)->
  zB6 cCl wCl (j+1) [a0,a1,some (.ref n),a3,some (.int v),some (.int y)] S=.nx [a0,a1,some (.ref n),a3,some (.int (nxt v j)),some (.int y)] S
 | j,v,h0,h1,hn,hi=>by
  have c:cCl [a0,a1,some (.ref n),a3,some (.int v),some (.int y)] S=.ok (decide ((v,y)∈l)) S:=by have i:=zNh (p:=(v,y)) hT;unfold cCl;simp_arith [i]
  have z0:nxt v 0=v:=by show(v+1000+((0:Nat):Int)) % 2001-1000=v;rw[Int.natCast_zero,Int.add_zero,Int.emod_eq_of_lt (by nofun) (by nofun)];lia
  rw[zB6,c,Rs.then_ok]
  match j,hn,hi with
  | 0,hn,_=>
   rw[z0]at hn ⊢;rw[xy hn,xg (by decide)]
  | j+1,hn,hi=>
   have m0:(v,y)∈l:=by
    have:=hi 0 (by nofun)
    rwa[z0]at this
   have w:wCl [a0,a1,some (.ref n),a3,some (.int v),some (.int y)] S=.nx [a0,a1,some (.ref n),a3,some (.int ((v+1001) % 2001-1000)),some (.int y)] S:=by unfold wCl;simp_arith [zBr (show(0:Int)<2001 by decide)]
   have sh:∀i:Nat,nxt ((v+1001) % 2001-1000) i=nxt v (i+1):=λi=>by
    show((v+1001) % 2001-1000+1000+i) % 2001-1000=(v+1000+((i+1:Nat):Int)) % 2001-1000;rw[Int.sub_add_cancel,Int.emod_add_emod];congr 2;lia
   have b0:=vC (v+1001) (b:=2001) (by decide);have b9:=vB (v+1001) (b:=2001) (by decide);rw[xx m0,xf rfl,w];dsimp only;rw[zJ9 hT j _ (by nofun) (by nofun) (by rw[sh];exact hn) (λi hi'=>by rw[sh];exact hi (i+1) (by nofun)),sh]
theorem zV9{l:List Pt}{v y:Int}(hl:l.length<=100)(h0:-1000<=v):∃j:Nat,(nxt v j,y) ∉ l/\∀i:Nat,i<j->(nxt v i,y)∈l:=by
 obtain⟨j,hj,hi⟩:=zK2 (N:=2001) (v:=v+1000) (taken:=(l.filter λp=>decide (p.2=y)).map λp=>p.1+1000) (by
  rw[xl];have:=yC (λp:Pt=>decide (p.2=y)) l;lia) (by nofun)
 have key:∀i:Nat,(v+1000+i) % 2001∈((l.filter λp=>decide (p.2=y)).map λp=>p.1+1000) <-> (nxt v i,y)∈l:=λi=>by
  rw[xn];constructor
  ·rintro⟨p,hp,e⟩;obtain⟨hp,hy⟩:=uW.mp hp;have:p=(nxt v i,y):=vp (by show p.1=(v+1000+i) % 2001-1000;lia) (uR hy);rw[<- this];exact hp
  ·intro h;exact⟨_,uW.mpr ⟨h,xx rfl⟩,by show(v+1000+i) % 2001-1000+1000=_;lia⟩
 exact⟨j,λz=>hj ((key j).mpr z),λi h=>(key i).mp (hi i h)⟩
noncomputable abbrev bCl:SM:=(sSeq (sUnp (gTup [(gName 4),(gName 5)]) (zA2 zB2 (zA0 (eVar 0) aNil)))
  (sSeq (zDn cCl wCl)
  (zGy (eMt "list" zBv (eVar 2) (zA0 (eTup (zA0 (eVar 4) (zA0 (eVar 5) aNil))) aNil)))))
theorem zSx{l:List Pt}(h0:Feed S0 c)(h:MkF c S0 n (l.map cel) S)(hl:l.length<=100):∃(p:Pt) (S':Store),bCl [some (.ref c),a1,some (.ref n),some d,a4,a5] S=.nx [some (.ref c),a1,some (.ref n),some d,some (.int p.1),some (.int p.2)] S'/\Bd p/\p ∉ l/\MkF c S0 n ((l++[p]).map cel) S':=by
 obtain⟨p,S1,e1,bd,f1,o1⟩:=zOe h.feed;have m1:=h.take h0 f1 o1;obtain⟨j,hj,hi⟩:=zV9 (v:=p.1) (y:=p.2) hl bd.1;have w:=zJ9 (a0:=some (.ref c)) (a1:=a1) (a3:=some d) m1.at_ j p.1 bd.1 bd.2.1 hj hi;have w':=(zGx (n:=j+1) (by rw[w];exact λz=>nomatch z)).trans w;have b0:=vC (p.1+1000+j) (b:=2001) (by decide);have b9:=vB (p.1+1000+j) (b:=2001) (by decide);have ap:=zWl (d:=cel (nxt p.1 j,p.2)) m1.at_ (by rw[xl];lia);have m2:=m1.add h0 (cel (nxt p.1 j,p.2));have em:l.map cel++[cel (nxt p.1 j,p.2)]=(l++[(nxt p.1 j,p.2)]).map cel:=by simp
 rw[em]at ap m2;refine⟨(nxt p.1 j,p.2),_,?_,⟨by show -1000<=(p.1+1000+j) % 2001-1000;lia,by show(p.1+1000+j) % 2001-1000<=1000;lia,bd.2.2⟩,hj,m2⟩;have x1:sUnp (gTup [(gName 4),(gName 5)]) (zA2 zB2 (zA0 (eVar 0) aNil)) [some (.ref c),a1,some (.ref n),some d,a4,a5] S=.nx [some (.ref c),a1,some (.ref n),some d,some (.int p.1),some (.int p.2)] S1:=by simp_arith [sUnp,e1]
 refine zA4 x1 (zA4 w' ?_);simp_arith [eMt,ty_D m1.at_,ap]
theorem zPa{l:List Pt}(h:l.Nodup):∃cs:List Pt,srt (l.map cel)=cs.map cel/\Rz cs/\(∀p,p∈cs <-> p∈l)/\cs.length=l.length:=by
 have pm:=zAy (l.map cel);obtain⟨cs,e⟩:=zIp (l:=srt (l.map cel)) λx hx=>by
  obtain⟨p,_,rfl⟩:=xn.mp (pm.mem_iff.mp hx);exact⟨p,rfl⟩
 refine⟨cs,e,⟨nd_cel.mp (by rw[<- e];exact pm.nodup_iff.mpr (nd_cel.mpr h)),by rw[<- e];exact zEd (n:=1) (zBs l)⟩,λp=>?_,?_⟩
 ·rw[<- zC1 (l:=cs),<- e,pm.mem_iff,zC1]
 ·have:=pm.length_eq;rw[e,xl,xl]at this;exact this
theorem zL5{S:Store}{many:Nat}(hm:many<=12)(h:Feed S c):∃(S':Store) (l:List Pt) (a3 a4 a5:Option D),forL [] (gName 3) bCl ((List.range many).map λi:Nat=>.int (i:Int)) [some (.ref c),some (.int (many:Nat)),some (.ref S.length),none,none,none] (S++[.lst []])=.nx [some (.ref c),some (.int (many:Nat)),some (.ref S.length),a3,a4,a5] S'/\MkF c S S.length (l.map cel) S'/\l.Nodup/\(∀p∈l,Bd p)/\l.length=many:=by
 have i0:MkF c S S.length (([]:List Pt).map cel) (S++[.lst []]):=MkF.new h h .refl [];obtain⟨env',S',e,l,a3,a4,a5,rfl,mk,nd,bd,ln⟩:=zEp (h:=λi:Nat=>.int (i:Int)) (gd:=[]) (g:=gName 3) (b:=bCl) (ys:=List.range many) (λP env S'=>∃(l:List Pt) (a3 a4 a5:Option D),env=[some (.ref c),some (.int (many:Nat)),some (.ref S.length),a3,a4,a5]/\MkF c S S.length (l.map cel) S'/\l.Nodup/\(∀p∈l,Bd p)/\l.length=P.length) (λ_ _ _ _=>zA9) (λP i R eq env S1 hh=>by
  obtain⟨l,a3,a4,a5,rfl,mk,nd,bd,ln⟩:=hh;have pl:P.length<=12:=by have:=congrArg List.length eq;rw[xY,xH]at this;lia
  obtain⟨p,S2,e,pb,pn,m2⟩:=zSx (a1:=some (.int (many:Nat))) (a4:=a4) (a5:=a5) (d:=.int (i:Int)) h mk (by nofun);refine⟨_,_,S2,rfl,e,l++[p],_,_,_,rfl,m2,?_,λq hq=>?_,by simp[ln]⟩
  ·refine yd.mpr ⟨nd,vo.mpr ⟨(λz=>nomatch z),vH⟩,λa ha b hb z=>?_⟩;rw[xI.mp hb]at z;exact pn (z ▸ ha)
  ·rcases xX.mp hq with w|w
   ·exact bd q w
   ·rw[xI.mp w];exact pb) (List.range many) [] [some (.ref c),some (.int (many:Nat)),some (.ref S.length),none,none,none] (S++[.lst []]) rfl ⟨[],none,none,none,rfl,i0,vH,λp hp=>(by cases hp),rfl⟩
 rw[xY]at ln;exact⟨S',l,a3,a4,a5,e,mk,nd,bd,ln⟩
theorem zKe{c:Nat}{many:Nat}(hm:many<=12)(h:Feed S c):∃(cs:List Pt) (S':Store),zAw [.ref c,.int (many:Nat)] S=.ok (.lst (cs.map cel)) S'/\cs.length=many/\(∀p∈cs,Bd p)/\Rz cs/\Feed S' c/\Only c c S S':=by
 obtain⟨S',l,a3,a4,a5,e,mk,nd,bd,ln⟩:=zL5 hm h;obtain⟨cs,es,rz,mem,cl⟩:=zPa nd;have so:sortable (l.map cel):=⟨by rw[xl,ln];exact xm hm (by decide),1,by decide,zBs l⟩;have sb:zBb S' [.ref S.length]=some (.lst (cs.map cel)):=by
  have it:items S' (.ref S.length)=some (l.map cel):=by unfold items;rw[show look S' (.ref S.length)=_ from mk.at_]
  show(match items S' (.ref S.length)with|some l=>if sortable l then some (D.lst (srt l))else none|none=>none)=_;rw[it];dsimp only;rw[xf so,es]
 obtain⟨S2,e2,f2,o2⟩:=zAo (np:=2) (nl:=6) (b:=zDu) (ds:=[.ref c,.int (many:Nat)]) (d:=.lst (cs.map cel)) rfl (by
  show(sSeq (sSet 2 (eNew (eLst aNil))) (sSeq (sFor (zAi (zA0 (eVar 1) aNil)) (gName 3) bCl) (sRet (eCB zBb (zA0 (eVar 2) aNil))))) [some (.ref c),some (.int (many:Nat)),none,none,none,none] S=_;have x1:sSet 2 (eNew (eLst aNil)) [some (.ref c),some (.int (many:Nat)),none,none,none,none] S=.nx [some (.ref c),some (.int (many:Nat)),some (.ref S.length),none,none,none] (S++[.lst []]):=by simp_arith [eNew]
  have x2:sFor (zAi (zA0 (eVar 1) aNil)) (gName 3) bCl [some (.ref c),some (.int (many:Nat)),some (.ref S.length),none,none,none] (S++[.lst []])=.nx [some (.ref c),some (.int (many:Nat)),some (.ref S.length),a3,a4,a5] S':=by
   have w:zAi (zA0 (eVar 1) aNil) [some (.ref c),some (.int (many:Nat)),some (.ref S.length),none,none,none] (S++[.lst []])=.ok ⟨(List.range many).map λi:Nat=>.int (i:Int),[]⟩ (S++[.lst []]):=by exact zAz rfl (by nofun)
   rw[sFor,w,Rs.then_ok];exact e
  exact zA4 x1 (zA4 x2 (by simp_arith [sb]))) h mk.feed mk.grow (zAv cs)
 exact⟨cs,S2,e2,by rw[cl,ln],λp hp=>bd p ((mem p).mp hp),rz,f2,o2⟩
noncomputable abbrev nc (v:Int):Pt:=(v % 5-2,v.fdiv 5-2)
def Nr(p:Pt):Prop:=-2<=p.1/\p.1<=2/\-2<=p.2/\p.2<=2
noncomputable abbrev ncE:EM:=(eTup (zA0 (eOp subD (eOp modD (eVar 4) (eC (.int 5))) (eC (.int 2))) (zA0 (eOp subD (eOp zDw (eVar 4) (eC (.int 5))) (eC (.int 2))) aNil)))
noncomputable abbrev cNr:TM:=(tB (eOp inK ncE (eVar 2)))
noncomputable abbrev wNr:SM:=(sSet 4 (eOp modD (eOp addD (eVar 4) (eC (.int 1))) (eC (.int 25))))
theorem md5{x:Int}:modD S (.int x) (.int 5)=some (.int (x % 5)):=zBr (by decide)
theorem fd5{x:Int}:zDw S (.int x) (.int 5)=some (.int (x.fdiv 5)):=zIh (by decide) (zC0 (by decide) (by decide))
theorem md25{x:Int}:modD S (.int x) (.int 25)=some (.int (x % 25)):=zBr (by decide)
theorem yBe{v:Int}(h0:0<=v)(h9:v<25):Nr (nc v):=by unfold Nr nc;dsimp only;rw[yr v (by decide)];lia
theorem zJ8{n:Nat}{l:List Pt}{a0 a1 a3:Option D}(hT:S[n]?=some (.lst (l.map cel))):∀(j:Nat) (v:Int),0<=v->v<25->nc ((v+j) % 25) ∉ l->(∀i:Nat,i<j->nc ((v+i) % 25)∈l)->
  zB6 cNr wNr (j+1) [a0,a1,some (.ref n),a3,some (.int v)] S=.nx [a0,a1,some (.ref n),a3,some (.int ((v+j) % 25))] S
 | j,v,h0,h1,hn,hi=>by
  have c:cNr [a0,a1,some (.ref n),a3,some (.int v)] S=.ok (decide (nc v∈l)) S:=by have i:=zNh (p:=nc v) hT;unfold cNr;simp_arith [i,md5,fd5]
  have z0:(v+((0:Nat):Int)) % 25=v:=by rw[Int.natCast_zero,Int.add_zero,Int.emod_eq_of_lt (by nofun) (by nofun)]
  rw[zB6,c,Rs.then_ok]
  match j,hn,hi with
  | 0,hn,_=>
   rw[z0]at hn ⊢;rw[xy hn,xg (by decide)]
  | j+1,hn,hi=>
   have m0:nc v∈l:=by
    have:=hi 0 (by nofun)
    rwa[z0]at this
   have w:wNr [a0,a1,some (.ref n),a3,some (.int v)] S=.nx [a0,a1,some (.ref n),a3,some (.int ((v+1) % 25))] S:=by unfold wNr;simp_arith [md25]
   have sh:∀i:Nat,((v+1) % 25+i) % 25=(v+((i+1:Nat):Int)) % 25:=λi=>by
    rw[Int.emod_add_emod];congr 1;lia
   have b0:=vC (v+1) (b:=25) (by decide);have b9:=vB (v+1) (b:=25) (by decide);rw[xx m0,xf rfl,w];dsimp only;rw[zJ8 hT j _ b0 b9 (by rw[sh];exact hn) (λi hi'=>by rw[sh];exact hi (i+1) (by nofun)),sh]
theorem zV8{l:List Pt}{v:Int}(hl:l.length<=20)(hN:∀p∈l,Nr p)(h0:0<=v):∃j:Nat,nc ((v+j) % 25) ∉ l/\∀i:Nat,i<j->nc ((v+i) % 25)∈l:=by
 obtain⟨j,hj,hi⟩:=zK2 (N:=25) (v:=v) (taken:=l.map λp=>(p.1+2)+5*(p.2+2)) (by rw[xl];lia) h0;refine⟨j,λz=>hj (xn.mpr ⟨_,z,?_⟩),λi h=>?_⟩
 ·dsimp only;rw[yr _ (by decide)];lia
 ·obtain⟨p,hp,e⟩:=xn.mp (hi i h);obtain⟨q1,q2,q3,q4⟩:=hN p hp;rw[<- e];have:nc (p.1+2+5*(p.2+2))=p:=by
   unfold nc;rw[yr _ (by decide)];exact vp (by show(p.1+2+5*(p.2+2)) % 5-2=p.1;lia) (by show(p.1+2+5*(p.2+2)) / 5-2=p.2;lia)
  rw[this];exact hp
noncomputable abbrev bNr:SM:=(sSeq (sSet 4 (zA2 zA1 (zA0 (eVar 0) (zA0 (eC (.int 25)) aNil))))
  (sSeq (zDn cNr wNr)
  (zGy (eMt "list" zBv (eVar 2) (zA0 ncE aNil)))))
theorem zSw{l:List Pt}(h0:Feed S0 c)(h:MkF c S0 n (l.map cel) S)(hl:l.length<=20)(hN:∀p∈l,Nr p):∃(p:Pt) (a4':Option D) (S':Store),bNr [some (.ref c),a1,some (.ref n),some d,a4] S=.nx [some (.ref c),a1,some (.ref n),some d,a4'] S'/\Nr p/\p ∉ l/\MkF c S0 n ((l++[p]).map cel) S':=by
 obtain⟨v,S1,e1,v0,v9,f1,o1⟩:=taken (many:=25) (by decide) (by decide) h.feed;have m1:=h.take h0 f1 o1;obtain⟨j,hj,hi⟩:=zV8 (v:=v) hl hN v0;have w:=zJ8 (a0:=some (.ref c)) (a1:=a1) (a3:=some d) m1.at_ j v v0 v9 hj hi;have w':=(zGx (n:=j+1) (by rw[w];exact λz=>nomatch z)).trans w;have b0:=vC (v+j) (b:=25) (by decide);have b9:=vB (v+j) (b:=25) (by decide);have ap:=zWl (d:=cel (nc ((v+j) % 25))) m1.at_ (by rw[xl];lia);have m2:=m1.add h0 (cel (nc ((v+j) % 25)));have em:l.map cel++[cel (nc ((v+j) % 25))]=(l++[nc ((v+j) % 25)]).map cel:=by simp
 rw[em]at ap m2;refine⟨nc ((v+j) % 25),some (.int ((v+j) % 25)),_,zA4 (by simp_arith [e1]) (zA4 w' ?_),yBe b0 b9,hj,m2⟩;simp_arith [eMt,ty_D m1.at_,md5,fd5,ap]
theorem zUf{c:Nat}{many:Nat}(hm:many<=12)(h:Feed S c):∃(cs:List Pt) (S':Store),zC5 [.ref c,.int (many:Nat)] S=.ok (.lst (cs.map cel)) S'/\cs.length=many/\(∀p∈cs,Nr p)/\Rz cs/\Feed S' c/\Only c c S S':=by
 have i0:MkF c S S.length (([]:List Pt).map cel) (S++[.lst []]):=MkF.new h h .refl [];obtain⟨env',S',e,l,a3,a4,rfl,mk,nd,bd,ln⟩:=zEp (h:=λi:Nat=>.int (i:Int)) (gd:=[]) (g:=gName 3) (b:=bNr) (ys:=List.range many) (λP env S'=>∃(l:List Pt) (a3 a4:Option D),env=[some (.ref c),some (.int (many:Nat)),some (.ref S.length),a3,a4]/\MkF c S S.length (l.map cel) S'/\l.Nodup/\(∀p∈l,Nr p)/\l.length=P.length) (λ_ _ _ _=>zA9) (λP i R eq env S1 hh=>by
  obtain⟨l,a3,a4,rfl,mk,nd,bd,ln⟩:=hh;have pl:P.length<=12:=by have:=congrArg List.length eq;rw[xY,xH]at this;lia
  obtain⟨p,a4',S2,e,pb,pn,m2⟩:=zSw (a1:=some (.int (many:Nat))) (a4:=a4) (d:=.int (i:Int)) h mk (by nofun) bd;refine⟨_,_,S2,rfl,e,l++[p],_,_,rfl,m2,?_,λq hq=>?_,by simp[ln]⟩
  ·refine yd.mpr ⟨nd,vo.mpr ⟨(λz=>nomatch z),vH⟩,λa ha b hb z=>?_⟩;rw[xI.mp hb]at z;exact pn (z ▸ ha)
  ·rcases xX.mp hq with w|w
   ·exact bd q w
   ·rw[xI.mp w];exact pb) (List.range many) [] [some (.ref c),some (.int (many:Nat)),some (.ref S.length),none,none] (S++[.lst []]) rfl ⟨[],none,none,rfl,i0,vH,λp hp=>(by cases hp),rfl⟩
 rw[xY]at ln;have sb:zBb S' [.ref S.length]=some (.lst ((sr l).map cel)):=zCx (by
  unfold items;rw[show look S' (.ref S.length)=_ from mk.at_]) (by nofun)
 obtain⟨S2,e2,f2,o2⟩:=zAo (np:=2) (nl:=5) (b:=zEz) (ds:=[.ref c,.int (many:Nat)]) (d:=.lst ((sr l).map cel)) rfl (by
  refine zA4 (e:=[some (.ref c),some (.int (many:Nat)),some (.ref S.length),none,none]) (S1:=S++[.lst []]) (by simp_arith [eNew]) (zA4 (e:=[some (.ref c),some (.int (many:Nat)),some (.ref S.length),a3,a4]) (S1:=S') ?_ (by simp_arith [sb]));have w:zAi (zA0 (eVar 1) aNil) [some (.ref c),some (.int (many:Nat)),some (.ref S.length),none,none] (S++[.lst []])=.ok ⟨(List.range many).map λi:Nat=>.int (i:Int),[]⟩ (S++[.lst []]):=zAz rfl (by nofun);rw[sFor,w,Rs.then_ok];exact e) h mk.feed mk.grow (zAv _)
 exact⟨sr l,S2,e2,by rw[(zBw l).len,ln],λp hp=>bd p (((zBw l).mem p).mp hp),zPb nd,f2,o2⟩
theorem zMv :zBf S (cel p) (rowD r)=some (.bl (decide (p ∉ r))):=by show((if lvs (cel p::r.map cel)then some (decide (cel p∈r.map cel))else none).map λb=>D.bl (!b))=_;rw[xf (zYs p r)];show some (D.bl _)=_;congr 2;rw[<- decide_not];exact x4.mpr (not_congr zC1)
noncomputable abbrev lin1:EM:=(zA6 1 [1] (iVal (eVar 0)) (gName 0) (tB (eOp zBf (eVar 0) (eVar 1))) (eVar 0))
noncomputable abbrev lin2:EM:=(zA6 1 [3] (iVal (eVar 1)) (gName 0) (tAnd (tB (eOp neK (eVar 0) (eVar 1))) (tB (eOp eqE lin1 (eLst aNil)))) (eVar 0))
theorem zUr{q:List Pt}(hl:q.length<=1000):lin1 [some (rowD q),some (rowD r)] S=.ok (.lst ((q.filter λc=>decide (c ∉ r)).map cel)) S:=by refine zEt (h:=cel) (λenv=>∃o,env=[o,some (rowD r)]) (zDh rfl) zA9 ⟨none,rfl⟩ (xm hl (by decide)) ?_;rintro x hx env ⟨o,rfl⟩;exact⟨[some (cel x),some (rowD r)],by simp_arith [xr],⟨_,rfl⟩,by simp_arith [zMv],λ_=>by simp_arith [xr]⟩
theorem zUq{us:List (List Pt)}(hu:us.length<=1000)(hl:∀q∈us,q.length<=1000):∃p:List Pt->Bool,lin2 [some v,some (.lst (us.map rowD)),o2,some (rowD r)] S=.ok (.lst ((us.filter p).map rowD)) S:=by
 refine⟨λq=>decide (q≠r) && decide ((q.filter λc=>decide (c ∉ r)).map cel=[]),?_⟩;refine zEt (h:=rowD) (λenv=>∃o,env=[o,some (rowD r)]) (by simp_arith [iVal,zCw]) zA9 ⟨none,rfl⟩ (xm hu (by decide)) ?_;rintro q hq env ⟨o,rfl⟩;refine⟨[some (rowD q),some (rowD r)],by simp_arith [xr],⟨_,rfl⟩,?_,λ_=>by simp_arith [xr]⟩;have t1:tB (eOp neK (eVar 0) (eVar 1)) [some (rowD q),some (rowD r)] S=.ok (decide (q≠r)) S:=by simp_arith [zYk]
 have t2:tB (eOp eqE lin1 (eLst aNil)) [some (rowD q),some (rowD r)] S=.ok (decide ((q.filter λc=>decide (c ∉ r)).map cel=[])) S:=by simp only[tB,eOp,zUr (S:=S) (r:=r) (hl q hq),Rs.bind_ok,eLst,aNil,eq_E,zA5,asB]
 rw[tAnd,t1,Rs.bind_ok,t2];cases decide (q≠r) <;> rfl
noncomputable abbrev llB:SM:=(sIf (tB (eOp eqE lin2 (eLst aNil))) (zGy (eMt "list" zBv (eVar 2) (zA0 (eVar 3) aNil))) zAt)
theorem zQk{S0:Store}{rows:List (List Pt)}(hl:rows.length<=63)(hr:∀r∈rows,r.length<=1000):
  ∃P:List (List Pt),zCf [.lst (rows.map rowD)] S0=.ok (zA3 P) S0/\(∀r∈P,r∈rows)/\Up (P.map rowD)/\P.length<=rows.length:=by
 obtain⟨v,hv⟩:∃v:D,v=.lst (rows.map rowD):=⟨_,rfl⟩
 obtain⟨us,e1,nd,mem⟩:=zT9 rows;rw[<- hv];have ul:us.length<=rows.length:=zUh nd λr h=>(mem r).mp h
 have uu:Up (us.map rowD):=by rw[<- e1];exact zEd λy hy=>zDg rows y (mem_dedup.mp hy)
 have ss:∀S,ssK S v=some (.lst (us.map rowD)):=λS=>by
  rw[hv];show(if setable (rows.map rowD)then some (D.lst (srt (dedup (rows.map rowD))))else none)=_;rw[xf ⟨by rw[xl];exact xm hl (by decide),1,by decide,zDg rows⟩,e1]
 obtain⟨env',S',e,P,o3,rfl,rfl,sb⟩:=zEp (h:=rowD) (gd:=[]) (g:=gName 3) (b:=llB) (ys:=us) (λZ env S=>∃(P:List (List Pt)) (o3:Option D),env=[some v,some (.lst (us.map rowD)),some (.ref S0.length),o3]/\S=S0++[.lst (P.map rowD)]/\P.Sublist Z) (λ_ _ _ _=>zA9) (λZ r R eq env S hh=>by
  obtain⟨P,o3,rfl,rfl,sb⟩:=hh;have pl:P.length<63:=by have:=sb.length_le;have:=congrArg List.length eq;rw[xH,xD]at this;lia
  have at_:(S0++[D.lst (P.map rowD)])[S0.length]?=some (.lst (P.map rowD)):=by simp
  obtain⟨p,l2⟩:=zUq (S:=S0++[.lst (P.map rowD)]) (v:=v) (us:=us) (r:=r) (o2:=some (.ref S0.length)) (by nofun) λq hq=>hr q ((mem q).mp hq)
  have t:tB (eOp eqE lin2 (eLst aNil)) [some v,some (.lst (us.map rowD)),some (.ref S0.length),some (rowD r)] (S0++[.lst (P.map rowD)])=.ok (decide ((us.filter p).map rowD=[])) (S0++[.lst (P.map rowD)]):=by simp only[tB,eOp,l2,Rs.bind_ok,eLst,aNil,eq_E,zA5,asB]
  by_cases c:(us.filter p).map rowD=[]
  ·refine⟨[some v,some (.lst (us.map rowD)),some (.ref S0.length),some (rowD r)],[some v,some (.lst (us.map rowD)),some (.ref S0.length),some (rowD r)],S0++[.lst ((P++[r]).map rowD)],by simp_arith [xr],?_,_,_,rfl,rfl,sb.append (.refl _)⟩;rw[llB,zG9 t,xf c];have ap:=zWl (d:=rowD r) at_ (by rw[xl];lia);have es:(S0++[D.lst (P.map rowD)]).set S0.length (.lst (P.map rowD++[rowD r]))=S0++[.lst ((P++[r]).map rowD)]:=by
    rw[yB _ _ (xk _),vQ];simp
   rw[es]at ap;simp_arith [eMt,ty_D at_,ap]
  ·exact⟨[some v,some (.lst (us.map rowD)),some (.ref S0.length),some (rowD r)],[some v,some (.lst (us.map rowD)),some (.ref S0.length),some (rowD r)],_,by simp_arith [xr],by rw[llB,zG9 t,xg c];rfl,_,_,rfl,rfl,sb.trans (List.sublist_append_left _ _)⟩) us [] [some v,some (.lst (us.map rowD)),some (.ref S0.length),none] (S0++[.lst []]) rfl ⟨[],none,rfl,rfl,.refl _⟩
 refine⟨P,zFn (T:=[.lst (P.map rowD)]) rfl ?_ (zC2 _),λr h=>(mem r).mp (sb.subset h),uu.sublist (sb.map _),xm sb.length_le ul⟩;have at_:(S0++[D.lst (P.map rowD)])[S0.length]?=some (.lst (P.map rowD)):=by simp
 have tp:zAf (S0++[.lst (P.map rowD)]) [.ref S0.length]=some (zA3 P):=by simp only[zAf,litems,show look (S0++[D.lst (P.map rowD)]) (.ref S0.length)=_ from at_,vO]
 have w:iVal (eVar 1) [some v,some (.lst (us.map rowD)),some (.ref S0.length),none] (S0++[.lst []])=.ok ⟨us.map rowD,[]⟩ (S0++[.lst []]):=by simp_arith [iVal,zCw]
 refine zA4 (e:=[some v,some (.lst (us.map rowD)),none,none]) (S1:=S0) (by simp_arith [ss]) (zA4 (e:=[some v,some (.lst (us.map rowD)),some (.ref S0.length),none]) (S1:=S0++[.lst []]) (by simp_arith [eNew]) (zA4 (e:=[some v,some (.lst (us.map rowD)),some (.ref S0.length),o3]) (S1:=S0++[.lst (P.map rowD)]) ?_ (by simp_arith [tp])));rw[sFor,w,Rs.then_ok];exact e
theorem zDm{c:Nat}{many:Int}(hm:0<many)(h9:many<2147483648)(h:Feed S c):∃(r:Nat) (S':Store),zA1 [.ref c,.int many] S=.ok (natD r) S'/\(r:Int)<many/\Feed S' c/\Only c c S S':=by
 obtain⟨r,S',e,r0,r9,f,o⟩:=taken hm h9 h;obtain⟨k,rfl⟩:∃k:Nat,r=(k:Int):=⟨r.toNat,by nofun⟩
 exact⟨k,S',e,r9,f,o⟩
theorem zG3{l:List Pt}:lenB S [lstD l]=some (natD l.length):=by show some (D.int ((l.map cel).length:Int))=_;rw[xl]
theorem shl1{n:Nat}(h:n<=1000):shlD S (.int 1) (natD n)=some (natD (2 ^ n)):=by
 show(if(0:Int)<=(n:Nat)/\((n:Nat):Int)<=1000000/\(1:Int).natAbs<2 ^ 64 then some (D.int (1*2 ^ ((n:Nat):Int).toNat))else none)=_;rw[xf ⟨by nofun,by nofun,by decide⟩,xZ,Int.one_mul]
 norm_cast
theorem zHb{cs:List Pt}{ms:List Nat}(h1:env[1]?=some (some (lstD cs)))(h3:env[3]?=some (some (.lst (ms.map natD))))(hl:ms.length<=1000)(hc:cs.length<=1000):zA6 1 [1] (iVal (eVar 3)) (gName 0) tYes (zA2 zBd (zA0 (eVar 1) (zA0 (eVar 0) aNil))) env S=.ok (.lst ((ms.map (picked cs)).map rowD)) S:=by
 have:=zCs (f:=λm=>rowD (picked cs m)) (own:=1) (ix:=[1]) (i:=iVal (eVar 3)) (g:=gName 0) (e:=zA2 zBd (zA0 (eVar 1) (zA0 (eVar 0) aNil))) (S:=S) (env:=env) (xs:=ms) (h:=natD) (λenv=>∃o,env=[o,some (lstD cs)]) (by simp only[iVal,eVar,h3,Rs.bind_ok,zCw,zA5]) zA9 ⟨none,by simp[compEnv,h1]⟩ (xm hl (by decide)) λm hm env hq47=>by
  obtain⟨o,hh⟩:=hq47;subst hh;exact⟨[some (natD m),some (lstD cs)],rfl,⟨_,rfl⟩,by simp_arith [zXe (S:=S) (cs:=cs) (m:=m) hc]⟩
 rw[this,xC];rfl
structure Rl (n:Nat) (cs:List Pt) (P:List (List Pt)):Prop where
 len:P.length<=n
 sub:∀r∈P,r.Sublist cs
 up:Up (P.map rowD)
theorem zJl{c:Nat}{cs:List Pt}{most:Nat}(h:Feed S c)(c0:0<cs.length)(c9:cs.length<=12)(m0:0<most)(m9:most<=12):∃(P:List (List Pt)) (S':Store),zB5 [.ref c,lstD cs,natD most] S=.ok (zA3 P) S'/\Rl most cs P/\Feed S' c/\Only c c S S':=by
 obtain⟨k,S1,e1,k9,f1,o1⟩:=zDm (many:=(most:Nat)) (by nofun) (by nofun) h;obtain⟨w,hw⟩:∃w:Nat,w=2 ^ cs.length:=⟨_,rfl⟩
 have p0:2 ^ 1<=2 ^ cs.length:=v8 (by decide) c0;have p9:2 ^ cs.length<=2 ^ 12:=v8 (by decide) c9;rw[<- hw]at p0 p9;have q9:w<=4096:=p9;obtain⟨ms,S2,e2,l2,b2,f2,o2⟩:=zGg (h:=fun(i:Nat)=>D.int (i:Int)) (k:=natD) (own:=1) (ix:=[0,1]) (i:=zAi (zA0 (eOp addD (eC (.int 1)) (zA2 zA1 (zA0 (eVar 0) (zA0 (eVar 2) aNil)))) aNil)) (gd:=[]) (g:=gName 0) (e:=(eOp addD (eC (.int 1)) (zA2 zA1 (zA0 (eVar 1) (zA0 (eOp subD (eOp shlD (eC (.int 1)) (eCB lenB (zA0 (eVar 2) aNil))) (eC (.int 1))) aNil))))) (S:=S1) (S0:=S) (env:=[some (.ref c),some (lstD cs),some (natD most),none]) (xs:=List.range (1+k)) (λenv=>∃o,env=[o,some (.ref c),some (lstD cs)]) (λS'=>Feed S' c/\Only c c S S') (λm:Nat=>0<m/\m<w) (zAz (plus1 (by simp_arith [e1])) (by nofun)) (λ_ _=>zA9) ⟨none,rfl⟩ ⟨f1,o1⟩ (by rw[xY];exact xm (show 1+k<=1000 by nofun) (by decide)) (λi _ env S' hh hj=>by
  obtain⟨o,rfl⟩:=hh;obtain⟨hf,ho⟩:=hj;obtain⟨m,S3,e3,m3,f3,o3⟩:=zDm (many:=(w:Int)-1) (by nofun) (by nofun) hf;refine⟨[some (.int (i:Int)),some (.ref c),some (lstD cs)],1+m,S3,rfl,⟨_,rfl⟩,?_,⟨by nofun,by nofun⟩,f3,ho.trans o3⟩;have sh:=shl1 (S:=S') (n:=cs.length) (by nofun);rw[<- hw]at sh;exact plus1 (by simp_arith [zG3,sh,e3]))
 rw[xY]at l2;obtain⟨P,e3,mem,up,pl⟩:=zQk (S0:=S2) (rows:=ms.map (picked cs)) (by rw[xl];lia) (λr hr=>by
  obtain⟨m,_,rfl⟩:=xn.mp hr;exact xm (zDf cs m).length_le (by nofun))
 have cp:=zHb (S:=S2) (env:=[some (.ref c),some (lstD cs),some (natD most),some (.lst (ms.map natD))]) (cs:=cs) rfl rfl (by nofun) (by nofun);obtain⟨S4,e4,f4,o4⟩:=zAo (np:=3) (nl:=4) (b:=zDt) (ds:=[.ref c,lstD cs,natD most]) (d:=zA3 P) rfl (by
  refine zA4 (e:=[some (.ref c),some (lstD cs),some (natD most),some (.lst (ms.map natD))]) (S1:=S2) ?_ ?_
  ·show sSet 3 _ [some (.ref c),some (lstD cs),some (natD most),none] S=_;rw[sSet,e2,Rs.then_ok];rfl
  ·rw[sRet,zA2,zA0,cp,Rs.bind_ok,aNil,Rs.bind_ok,Rs.bind_ok,e3,Rs.then_ok]) h f2 o2.grow (zC2 _)
 rw[xl]at pl;exact⟨P,S4,e4,⟨by nofun,λr hr=>by obtain⟨m,_,rfl⟩:=xn.mp (mem r hr);exact zDf cs m,up⟩,f4,o4⟩
theorem zX6{xs:List Int}(hl:xs.length<=1000)(hb:∀x∈xs,x.natAbs<=2 ^ 50):sumI S [.lst (xs.map D.int)]=some (.int xs.sum):=by unfold sumI;simp only[zQg];rw[xf ⟨hl,hb⟩]
theorem zT5{m:Nat}:shrD S (natD m) (natD i)=some (natD (m / 2 ^ i)):=by
 show(if(0:Int)<=(i:Nat)then some (D.int ((m:Int) / 2 ^ (i:Int).toNat))else none)=_;rw[xf (by nofun),xZ]
 norm_cast
theorem zUm{c:Nat}{cs:List Pt}(h:Feed S c)(c0:0<cs.length)(c9:cs.length<=8):∃(P:List (List Pt)) (S':Store),zBj [.ref c,lstD cs] S=.ok (zA3 P) S'/\Rl 256 cs P/\Feed S' c/\Only c c S S':=by
 obtain⟨k,S1,e1,k9,f1,o1⟩:=zDm (many:=(cs.length:Nat)) (by nofun) (by nofun) h;have p9:2 ^ cs.length<=2 ^ 8:=v8 (by decide) c9;have p9:2 ^ cs.length<=256:=p9;have cm:=zEt (h:=fun(i:Nat)=>D.int (i:Int)) (own:=1) (ix:=[2,1]) (i:=zAi (zA0 (eOp shlD (eC (.int 1)) (eCB lenB (zA0 (eVar 1) aNil))) aNil)) (gd:=[]) (g:=gName 0) (c:=(tB (eOp eqI (eCB sumI (zA0 (zA6 1 [0] (zAi (zA0 (eCB lenB (zA0 (eVar 2) aNil)) aNil)) (gName 0) tYes (eOp andD (eOp shrD (eVar 1) (eVar 0)) (eC (.int 1)))) aNil)) (eVar 1)))) (e:=eVar 0) (S:=S1) (env:=[some (.ref c),some (lstD cs),some (natD (1+k)),none]) (xs:=List.range (2 ^ cs.length)) (f:=natD) (p:=λm=>decide (((List.range cs.length).map λi=>((m / 2 ^ i % 2:Nat):Int)).sum=((1+k:Nat):Int))) (λenv=>∃o,env=[o,some (natD (1+k)),some (lstD cs)]) (zAz (by simp_arith [zG3,shl1 (S:=S1) (n:=cs.length) (by nofun)]) (by nofun)) zA9 ⟨none,rfl⟩ (by rw[xY];exact xm p9 (by decide)) (λm hm env hh=>by
  obtain⟨o,rfl⟩:=hh;refine⟨[some (natD m),some (natD (1+k)),some (lstD cs)],rfl,⟨_,rfl⟩,?_,λ_=>by simp_arith [xr]⟩;have ci:=zCs (h:=fun(i:Nat)=>D.int (i:Int)) (f:=λi=>D.int ((m / 2 ^ i % 2:Nat):Int)) (own:=1) (ix:=[0]) (i:=zAi (zA0 (eCB lenB (zA0 (eVar 2) aNil)) aNil)) (gd:=[]) (g:=gName 0) (e:=(eOp andD (eOp shrD (eVar 1) (eVar 0)) (eC (.int 1)))) (S:=S1) (env:=[some (natD m),some (natD (1+k)),some (lstD cs)]) (xs:=List.range cs.length) (λenv=>∃o,env=[o,some (natD m)]) (zAz (by simp_arith [zG3]) (by nofun)) zA9 ⟨none,rfl⟩ (by rw[xY];exact xm c9 (by decide)) (λi _ env hh=>by
   obtain⟨o,rfl⟩:=hh;have an:andD S1 (natD (m / 2 ^ i)) (.int 1)=some (natD (m / 2 ^ i % 2)):=by rw[show(D.int 1)=natD 1 from rfl,zOz,Nat.and_one_is_mod]
   exact⟨[some (natD i),some (natD m)],rfl,⟨_,rfl⟩,by simp_arith [zT5,an]⟩)
  have su:=zX6 (S:=S1) (xs:=(List.range cs.length).map λi=>((m / 2 ^ i % 2:Nat):Int)) (by rw[xl,xY];lia) (λx hx=>by
   obtain⟨i,_,rfl⟩:=xn.mp hx;have:=vv (m / 2 ^ i) (show 0<2 by decide);exact xm (show _<=1 by nofun) (by decide))
  rw[xC]at su;simp only[tB,eOp,eCB,zA0,aNil,ci,Rs.bind_ok];rw[show((List.range cs.length).map λi=>D.int ((m / 2 ^ i % 2:Nat):Int))=(List.range cs.length).map (D.int ∘ λi=>((m / 2 ^ i % 2:Nat):Int))from rfl,su];simp_arith [eq_int])
 have cp:=zHb (S:=S1) (env:=[some (.ref c),some (lstD cs),some (natD (1+k)),some (.lst ((((List.range (2 ^ cs.length)).filter λm=>decide (((List.range cs.length).map λi=>((m / 2 ^ i % 2:Nat):Int)).sum=((1+k:Nat):Int)))).map natD))]) (cs:=cs) rfl rfl (xm (yC _ _) (by rw[xY];lia)) (by nofun);generalize hms:((List.range (2 ^ cs.length)).filter λm=>decide (((List.range cs.length).map λi=>((m / 2 ^ i % 2:Nat):Int)).sum=((1+k:Nat):Int)))=ms at cm cp;have ml:ms.length<=256:=by rw[<- hms];exact xm (yC _ _) (by rw[xY];exact p9)
 have so:=zEf (S:=S1) (l:=ms.map (picked cs)) (by rw[xl];lia);obtain⟨S4,e4,f4,o4⟩:=zAo (np:=2) (nl:=4) (b:=zF0) (ds:=[.ref c,lstD cs]) (d:=zA3 (sR (ms.map (picked cs)))) rfl (by
  refine zA4 (e:=[some (.ref c),some (lstD cs),some (natD (1+k)),none]) (S1:=S1) ?_ (zA4 (e:=[some (.ref c),some (lstD cs),some (natD (1+k)),some (.lst (ms.map natD))]) (S1:=S1) ?_ ?_)
  ·have:eOp addD (eC (.int 1)) (zA2 zA1 (zA0 (eVar 0) (zA0 (eCB lenB (zA0 (eVar 1) aNil)) aNil))) [some (.ref c),some (lstD cs),none,none] S=.ok (natD (1+k)) S1:=plus1 (by simp_arith [zG3,e1]);show sSet 2 _ [some (.ref c),some (lstD cs),none,none] S=_;rw[sSet,this,Rs.then_ok];rfl
  ·rw[sSet,cm,Rs.then_ok];rfl
  ·simp only[sRet,eCB,zA0,aNil,cp,Rs.bind_ok,so,zA5,zBp,Rs.then_ok]) h f1 o1.grow (zC2 _)
 refine⟨_,S4,e4,⟨?_,λr hr=>?_,zXa _⟩,f4,o4⟩
 ·rw[(zDe _).length_eq,xl];exact ml
 ·obtain⟨m,_,rfl⟩:=xn.mp ((zDe _).mem_iff.mp hr);exact zDf cs m
theorem zNq{S0:Store}{c:Nat}{many m:Int}{j:Nat}(hj:env[j]?=some (some (.ref c)))(h:Feed S c)(hm:0<many)(h9:many<2147483648):∃(x y z w:Int) (S':Store),zA6 1 [j] (zAi (zA0 (eC (.int 4)) aNil)) (gName 0) tYes (eOp subD (zA2 zA1 (zA0 (eVar 1) (zA0 (eC (.int many)) aNil))) (eC (.int m))) env S=.ok (.lst [.int x,.int y,.int z,.int w]) S'/\(∀v∈[x,y,z,w],-m<=v/\v<many-m)/\Feed S' c/\Only c c S S':=by
 obtain⟨bs,S',e,bl,bp,f,o⟩:=zGg (h:=fun(i:Nat)=>D.int (i:Int)) (k:=D.int) (own:=1) (ix:=[j]) (i:=zAi (zA0 (eC (.int 4)) aNil)) (gd:=[]) (g:=gName 0) (e:=eOp subD (zA2 zA1 (zA0 (eVar 1) (zA0 (eC (.int many)) aNil))) (eC (.int m))) (S:=S) (S0:=S) (env:=env) (xs:=List.range 4) (λenv=>∃o,env=[o,some (.ref c)]) (λS'=>Feed S' c/\Only c c S S') (λv:Int=>-m<=v/\v<many-m) (zAz (n:=4) rfl (by decide)) (λ_ _=>zA9) ⟨none,by simp[compEnv,hj]⟩ ⟨h,.refl⟩ (by decide) (λi _ env S1 he hj=>by
  obtain⟨o,rfl⟩:=he;obtain⟨r,S2,e2,r0,r9,f2,o2⟩:=taken hm h9 hj.1;exact⟨[some (.int (i:Int)),some (.ref c)],r-m,S2,rfl,⟨_,rfl⟩,by simp_arith [e2],⟨by nofun,by nofun⟩,f2,hj.2.trans o2⟩)
 match bs,bl with
 | [x,y,z,w],_=>exact⟨x,y,z,w,S',e,bp,f,o⟩
noncomputable def dt (T:Tb):Int:=T.1*T.2.2.2-T.2.1*T.2.2.1
theorem zWf{x:Int}(h1:-1000<=x)(h2:x<=1000):BB 10 x:=.of (by show -(1024:Int)<x;lia) (by show x<1024;lia)
theorem zSn{x:Int}:absB S [.int x]=some (.int (if x<0 then -x else x)):=rfl
theorem zYq{x y:Int}:max2B S [.int x,.int y]=some (.int (if y > x then y else x)):=rfl
theorem zP7{c:Nat}(h:Feed S c):∃(T:Tb) (S':Store),zBn [.ref c] S=.ok (tb T) S'/\dt T≠0/\Bt T/\Feed S' c/\Only c c S S':=by
 obtain⟨x,y,z,w,S1,e1,b1,f1,o1⟩:=zNq (S0:=S) (many:=19) (m:=9) (env:=[some (.ref c),none,none,none,none]) (j:=0) rfl h (by decide) (by decide);have bx:=b1 x (by simp);have by_:=b1 y (by simp);have bz:=b1 z (by simp);have bw:=b1 w (by simp);have b:∀v∈[x,y,z,w],BB 10 v:=λv hv=>zWf (by have:=b1 v hv;lia) (by have:=b1 v hv;lia)
 have m1:mulD S1 (.int x) (.int w)=some (.int (x*w)):=zEi (b x (by simp)) (b w (by simp));have m2:mulD S1 (.int y) (.int z)=some (.int (y*z)):=zEi (b y (by simp)) (b z (by simp));have s1:sUnp (gTup [(gName 1),(gName 2),(gName 3),(gName 4)]) (zA6 1 [0] (zAi (zA0 (eC (.int 4)) aNil)) (gName 0) tYes (eOp subD (zA2 zA1 (zA0 (eVar 1) (zA0 (eC (.int 19)) aNil))) (eC (.int 9)))) [some (.ref c),none,none,none,none] S=.nx [some (.ref c),some (.int x),some (.int y),some (.int z),some (.int w)] S1:=by rw[sUnp,e1,Rs.then_ok];rfl
 have t:tB (eOp eqI (eOp mulD (eVar 1) (eVar 4)) (eOp mulD (eVar 2) (eVar 3))) [some (.ref c),some (.int x),some (.int y),some (.int z),some (.int w)] S1=.ok (decide (x*w=y*z)) S1:=by simp_arith [m1,m2,eq_int]
 obtain⟨T,hb,hd,hB⟩:∃T:Tb,zCg [some (.ref c),none,none,none,none] S=.rt (tb T) S1/\dt T≠0/\Bt T:=by
  by_cases z0:x*w=y*z
  ·refine⟨(if(if x<0 then -x else x) > 1 then(if x<0 then -x else x)else 1,0,z,if(if w<0 then -w else w) > 1 then(if w<0 then -w else w)else 1),zA4 s1 (zRr ?_),?_,?_⟩
   ·rw[zG9 t,xf z0];simp_arith [zSn,zYq]
   ·unfold dt;dsimp only;rw[Int.zero_mul,Int.sub_zero];exact Int.mul_ne_zero (by split <;> lia) (by split <;> lia)
   ·exact⟨(zWf (by dsimp only;split <;> lia) (by dsimp only;split <;> lia)).mono (by decide),.lit rfl,(b z (by simp)).mono (by decide),(zWf (by dsimp only;split <;> lia) (by dsimp only;split <;> lia)).mono (by decide)⟩
  ·refine⟨(x,y,z,w),zA4 s1 (zA4 (e:=[some (.ref c),some (.int x),some (.int y),some (.int z),some (.int w)]) (S1:=S1) (by rw[zG9 t,xg z0];rfl) (by simp_arith [xr])),?_,(b x (by simp)).mono (by decide),(b y (by simp)).mono (by decide),(b z (by simp)).mono (by decide),(b w (by simp)).mono (by decide)⟩;unfold dt;dsimp only;lia
 obtain⟨S2,e2,f2,o2⟩:=zAo (np:=1) (nl:=5) (b:=zCg) (ds:=[.ref c]) (d:=tb T) rfl hb h f1 o1.grow rfl;exact⟨T,S2,e2,hd,hB,f2,o2⟩
theorem pow18 :powD S (.int 10) (.int 18)=some (.int ((10:Int) ^ 18)):=by show(if(0:Int)<=18/\(18:Int)<=1000000/\(10:Int).natAbs<2 ^ 64 then some (D.int ((10:Int) ^ (18:Int).toNat))else none)=_;rw[xf (by decide)];rfl
theorem far4{r a b:Int}(h0:0<=r)(h9:r<4):∃f:Int,(f=0\/f=a\/f=b)/\ixD S (.lst [.int 0,.int 0,.int a,.int b]) (.int r)=some (.int f):=by
 rcases(show r=0\/r=1\/r=2\/r=3 by nofun)with rfl|rfl|rfl|rfl
 ·exact⟨0,.inl rfl,atL0⟩
 ·exact⟨0,.inl rfl,atL1⟩
 ·exact⟨a,.inr (.inl rfl),atL2⟩
 ·exact⟨b,.inr (.inr rfl),atL3⟩
theorem zSy{l:List Pt}(hl:l.length<=1000):∃cs:List Pt,(∀S,ssK S (lstD l)=some (lstD cs))/\Rz cs/\(∀p,p∈cs <-> p∈l)/\cs.length<=l.length:=by
 obtain⟨ds,hd⟩:∃ds:List Pt,dedup (l.map cel)=ds.map cel:=zIp λx hx=>by
  obtain⟨p,_,rfl⟩:=xn.mp (mem_dedup.mp hx);exact⟨p,rfl⟩
 have nd:ds.Nodup:=nd_cel.mp (by rw[<- hd];exact zD6);have mem:∀p,p∈ds <-> p∈l:=λp=>by rw[<- zC1,<- hd,mem_dedup,zC1]
 refine⟨sr ds,λS=>?_,zPb nd,λp=>by rw[(zBw ds).mem,mem],by rw[(zBw ds).len];exact zUh nd λp hp=>(mem p).mp hp⟩;show(if setable (l.map cel)then some (D.lst (srt (dedup (l.map cel))))else none)=_;rw[xf ⟨by rw[xl];exact xm hl (by decide),0,by decide,zBs l⟩,hd,(zBw ds).eq]
theorem zNf{c:Nat}(h:Feed S c):∃(I:List Pt) (S':Store),zC6 [.ref c] S=.ok (rowD I) S'/\I.length<=30/\Rz I/\(∀p∈I,Bp 61 p)/\Feed S' c/\Only c c S S':=by
 obtain⟨r,S1,e1,r0,r9,f1,o1⟩:=taken (many:=4) (by decide) (by decide) h;obtain⟨f,hf,ef⟩:=far4 (S:=S1) (a:=(10:Int) ^ 18-40) (b:=40-(10:Int) ^ 18) r0 r9;have fb:-(10:Int) ^ 18<=f/\f<=(10:Int) ^ 18:=by rcases hf with rfl|rfl|rfl <;> constructor <;> decide
 have fb:-1000000000000000000<=f/\f<=1000000000000000000:=fb;obtain⟨k,S2,e2,k9,f2,o2⟩:=zDm (many:=31) (by decide) (by decide) f1;obtain⟨l,S3,e3,l3,b3,f3,o3⟩:=zGg (h:=fun(i:Nat)=>D.int (i:Int)) (k:=cel) (own:=1) (ix:=[1,0]) (i:=zAi (zA0 (zA2 zA1 (zA0 (eVar 0) (zA0 (eC (.int 31)) aNil))) aNil)) (gd:=[]) (g:=gName 0) (e:=(eTup (zA0 (eOp addD (eVar 1) (zA2 zA1 (zA0 (eVar 2) (zA0 (eC (.int 8)) aNil)))) (zA0 (zA2 zA1 (zA0 (eVar 2) (zA0 (eC (.int 8)) aNil))) aNil)))) (S:=S2) (S0:=S1) (env:=[some (.ref c),some (.int f),none]) (xs:=List.range k) (λenv=>∃o,env=[o,some (.int f),some (.ref c)]) (λS'=>Feed S' c/\Only c c S1 S') (λp:Pt=>Bp 61 p) (zAz (by simp_arith [e2]) (by nofun)) (λ_ _=>zA9) ⟨none,rfl⟩ ⟨f2,o2⟩ (by rw[xY];exact xm (show k<=1000 by nofun) (by decide)) (λi _ env S' hh hj=>by
  obtain⟨o,rfl⟩:=hh;obtain⟨hf,ho⟩:=hj;obtain⟨x,S4,e4,x0,x9,f4,o4⟩:=taken (many:=8) (by decide) (by decide) hf;obtain⟨y,S5,e5,y0,y9,f5,o5⟩:=taken (many:=8) (by decide) (by decide) f4;refine⟨[some (.int (i:Int)),some (.int f),some (.ref c)],(f+x,y),S5,rfl,⟨_,rfl⟩,by simp_arith [e4,e5],⟨.of ?_ ?_,.of ?_ ?_⟩,f5,(ho.trans o4).trans o5⟩
  ·show -(2305843009213693952:Int)<f+x;lia
  ·show f+x<(2305843009213693952:Int);lia
  ·show -(2305843009213693952:Int)<y;lia
  ·show y<(2305843009213693952:Int);lia)
 rw[xY]at l3;obtain⟨I,es,rz,mem,il⟩:=zSy (l:=l) (by nofun);obtain⟨S6,e6,f6,o6⟩:=zAo (np:=1) (nl:=3) (b:=zDb) (ds:=[.ref c]) (d:=rowD I) rfl (by
  refine zA4 (e:=[some (.ref c),some (.int f),none]) (S1:=S1) ?_ (zA4 (e:=[some (.ref c),some (.int f),some (lstD l)]) (S1:=S3) ?_ ?_)
  ·show sSet 1 _ [some (.ref c),none,none] S=_;simp_arith [pow18,e1,ef]
  ·rw[sSet,e3,Rs.then_ok];rfl
  ·simp_arith [es,zBp]) h f3 (o1.trans o3).grow (zAv _)
 exact⟨I,S6,e6,by nofun,rz,λp hp=>b3 p ((mem p).mp hp),f6,o6⟩
theorem yBg{A:Tb}:ld ((ld B (A.1,A.2.2.1)).1,(ld B (A.2.1,A.2.2.2)).1,(ld B (A.1,A.2.2.1)).2,(ld B (A.2.1,A.2.2.2)).2) p=ld B (ld A p):=by refine vp ?_ ?_ <;> dsimp only <;> grind
theorem zUu(h:∀p,ld V p=ld B (ld A p)):lds B (lds A P)=lds V P:=by
 unfold lds;refine(yAy ((zDe _).map _)).trans ?_;rw[xC];congr 1;refine vP λr _=>?_
 show sr ((sr (r.map (ld A))).map (ld B))=sr (r.map (ld V));refine(yAs ((zLy _).map _)).trans ?_;rw[xC];congr 1;exact vP λp _=>(h p).symm
theorem lds_mem :q∈lds T P <-> ∃r∈P,q=sr (r.map (ld T)):=by unfold lds;rw[(zDe _).mem_iff,xn];exact⟨λhz0=>by obtain⟨r,h,e⟩:=hz0;exact ⟨r,h,e.symm⟩,λhz1=>by obtain⟨r,h,e⟩:=hz1;exact ⟨r,h,e.symm⟩⟩
theorem zG4{P:List (List Pt)}:(lds T P).length=P.length:=by unfold lds;rw[(zDe _).length_eq,xl]
theorem led_mem{r:List Pt}:q∈sr (r.map (ld T)) <-> ∃p∈r,q=ld T p:=by rw[(zBw _).mem,xn];exact⟨λhz2=>by obtain⟨p,h,e⟩:=hz2;exact ⟨p,h,e.symm⟩,λhz3=>by obtain⟨p,h,e⟩:=hz3;exact ⟨p,h,e.symm⟩⟩
theorem zE7{m:Nat}:∀{P:List (List Pt)},(∀r∈P,r.length<=m)->P.flatten.length<=P.length*m
 | [],_=>xT _
 | r::P,h=>by
  have:=zE7 (P:=P) λq hq=>h q (.tail _ hq)
  have:=h r (.head _);rw[List.flatten_cons,xH,xD,Nat.succ_mul];lia
theorem zS7(h:dt T≠0)(e:ld T p=ld T q):p=q:=by
 have h1:=congrArg Prod.fst e;have h2:=congrArg Prod.snd e;dsimp only at h1 h2;unfold dt at h;have k1:(T.1*T.2.2.2-T.2.1*T.2.2.1)*(p.1-q.1)=0:=by grind
 have k2:(T.1*T.2.2.2-T.2.1*T.2.2.1)*(p.2-q.2)=0:=by grind
 have k1:=(Int.mul_eq_zero.mp k1).resolve_left h;have k2:=(Int.mul_eq_zero.mp k2).resolve_left h;exact vp (by nofun) (by nofun)
theorem zUw :ld T (ad p q)=ad (ld T p) (ld T q):=by refine vp ?_ ?_ <;> dsimp only <;> grind
noncomputable abbrev ng (v:Pt):Pt:=(0-v.1,0-v.2)
theorem yAl :ad (ad p v) (ng v)=p:=vp (by dsimp only;lia) (by dsimp only;lia)
theorem yAk :ad (ad p (ng v)) v=p:=vp (by dsimp only;lia) (by dsimp only;lia)
theorem zRe :ad p (ad c v)=ad (ad p v) c:=vp (by dsimp only;lia) (by dsimp only;lia)
structure Sz (P:List (List Pt)) (I:List Pt):Prop where
 p:P.length<=12
 r:∀r∈P,r.length<=12
 i:I.length<=100
theorem Sz.fl{P:List (List Pt)}(h:Sz P I):P.flatten.length<=1000:=by have:=zE7 h.r;have:=Nat.mul_le_mul h.p (xk 12);lia
theorem Sz.sz(h:Sz P I):SzI P I:=⟨by have:=h.i;lia,by
 have:=Nat.mul_le_mul h.fl h.i;lia⟩
theorem Sz.ok(h:Sz P I):zD4 [zA3 P,rowD I] S=.ok (rowD (bt P I)) S:=zWe h.fl (by have:=h.p;lia) h.sz
theorem Sz.is(h:Sz P I):Rz (bt P I)/\(∀p,p∈bt P I <-> Cand P I p/\Brk P I p):=by have:=yAd h.fl (by have:=h.p;lia) h.sz;exact⟨this.1,this.2.1⟩
theorem yCc{P:List (List Pt)}(h:Sz P I):bt (P.map (cr v)) I=(bt P I).map (ad · (ng v)):=by
 have h':Sz (P.map (cr v)) I:=⟨by rw[xl];exact h.p,λr hr=>by obtain⟨q,hq,rfl⟩:=xn.mp hr;rw[xl];exact h.r q hq,h.i⟩;obtain⟨z1,m1⟩:=h.is;obtain⟨z2,m2⟩:=h'.is;refine zT8 z2 (yAz z1) λp=>?_
 have e:p∈cr (ng v) (bt P I) <-> ad p v∈bt P I:=by
  rw[xn];constructor
  ·rintro⟨q,hq,rfl⟩;rw[yAk];exact hq
  ·exact λhp=>⟨_,hp,yAl⟩
 rw[e,m1,m2];refine and_congr ?_ ?_
 ·constructor
  ·rintro⟨c,b,⟨hc,hb⟩,e⟩;obtain⟨r,hr,hc⟩:=bs_mem.mp hc;obtain⟨q,hq,rfl⟩:=xn.mp hr;obtain⟨c,hd,rfl⟩:=xn.mp hc;exact⟨c,b,⟨bs_mem.mpr ⟨q,hq,hd⟩,hb⟩,sb_iff.mpr (by rw[<- sb_iff.mp e,zRe])⟩
  ·rintro⟨c,b,⟨hc,hb⟩,e⟩;obtain⟨r,hr,hc⟩:=bs_mem.mp hc;exact⟨ad c v,b,⟨bs_mem.mpr ⟨_,xn.mpr ⟨r,hr,rfl⟩,xn.mpr ⟨c,hc,rfl⟩⟩,hb⟩,sb_iff.mpr (by rw[<- sb_iff.mp e,zRe])⟩
 ·constructor
  ·rintro⟨r,hr,k⟩;obtain⟨q,hq,rfl⟩:=xn.mp hr;exact⟨q,hq,λc hc=>by rw[<- zRe];exact k _ (xn.mpr ⟨c,hc,rfl⟩)⟩
  ·rintro⟨r,hr,k⟩;refine⟨_,xn.mpr ⟨r,hr,rfl⟩,λc hc=>?_⟩;obtain⟨c,hd,rfl⟩:=xn.mp hc;rw[zRe];exact k c hd
theorem yCb{I:List Pt}(h:Sz P I)(hT:dt T≠0):bt (lds T P) (sr (I.map (ld T)))=sr ((bt P I).map (ld T)):=by
 have h':Sz (lds T P) (sr (I.map (ld T))):=⟨by rw[zG4];exact h.p,λr hr=>by obtain⟨q,hq,rfl⟩:=lds_mem.mp hr;rw[(zBw _).len,xl];exact h.r q hq,by rw[(zBw _).len,xl];exact h.i⟩;obtain⟨z1,m1⟩:=h.is;obtain⟨z2,m2⟩:=h'.is;refine zT8 z2 (zPb (vK.mpr (z1.1.imp λ{a b} n z=>n (zS7 hT z)))) λp'=>?_
 have brk:∀p,Brk (lds T P) (sr (I.map (ld T))) (ld T p) <-> Brk P I p:=λp=>by
  have key:∀c,ad (ld T p) (ld T c)∈sr (I.map (ld T)) <-> ad p c∈I:=λc=>by
   rw[<- zUw,led_mem];exact⟨λhq48=>by obtain⟨b,hb,e⟩:=hq48;rw[zS7 hT e];exact hb,λhb=>⟨_,hb,rfl⟩⟩
  constructor
  ·rintro⟨r,hr,k⟩;obtain⟨q,hq,rfl⟩:=lds_mem.mp hr;exact⟨q,hq,λc hc=>(key c).mp (k _ (led_mem.mpr ⟨c,hc,rfl⟩))⟩
  ·rintro⟨r,hr,k⟩;refine⟨_,lds_mem.mpr ⟨r,hr,rfl⟩,λc hc=>?_⟩;obtain⟨c,hd,rfl⟩:=led_mem.mp hc;exact(key c).mpr (k c hd)
 have cnd:Cand (lds T P) (sr (I.map (ld T))) p' <-> ∃p,p'=ld T p/\Cand P I p:=by
  constructor
  ·rintro⟨c,b,⟨hc,hb⟩,e⟩;obtain⟨r,hr,hc⟩:=bs_mem.mp hc;obtain⟨q,hq,rfl⟩:=lds_mem.mp hr;obtain⟨c,hd,rfl⟩:=led_mem.mp hc;obtain⟨b,he,rfl⟩:=led_mem.mp hb;refine⟨sb b c,?_,c,b,⟨bs_mem.mpr ⟨q,hq,hd⟩,he⟩,rfl⟩;rw[e];refine(sb_iff.mpr ?_).symm;rw[<- zUw,sb_iff.mp rfl]
  ·rintro⟨p,rfl,c,b,⟨hc,hb⟩,e⟩;obtain⟨r,hr,hc⟩:=bs_mem.mp hc;exact⟨ld T c,ld T b,⟨bs_mem.mpr ⟨_,lds_mem.mpr ⟨r,hr,rfl⟩,led_mem.mpr ⟨c,hc,rfl⟩⟩,led_mem.mpr ⟨b,hb,rfl⟩⟩,sb_iff.mpr (by rw[<- zUw,sb_iff.mp e])⟩
 rw[m2,led_mem,cnd];constructor
 ·rintro⟨⟨p,rfl,hc⟩,hb⟩;exact⟨p,(m1 p).mpr ⟨hc,(brk p).mp hb⟩,rfl⟩
 ·rintro⟨p,hp,rfl⟩;obtain⟨hc,hb⟩:=(m1 p).mp hp;exact⟨⟨p,rfl,hc⟩,(brk p).mpr hb⟩
theorem yAc{P:List (List Pt)}{I:List Pt}(h:Sz P I)(h5:P.length<=5)(hr:∀r∈P,r.length<=5)(hi:I.length<=30):(bt P I).length<=1000:=by
 obtain⟨z1,m1⟩:=h.is;have:=zUh z1.1 (m:=(bsOf P).flatMap λc=>I.map λb=>sb b c) λp hp=>by
  obtain⟨c,b,⟨hc,hb⟩,e⟩:=((m1 p).mp hp).1;exact List.mem_flatMap.mpr ⟨c,hc,xn.mpr ⟨b,hb,e.symm⟩⟩
 have l1:((bsOf P).flatMap λc=>I.map λb=>sb b c).length<=(bsOf P).length*30:=by
  rw[List.flatMap_def];have:=zE7 (P:=(bsOf P).map λc=>I.map λb=>sb b c) (m:=30) λr hr=>by
   obtain⟨c,_,rfl⟩:=xn.mp hr;rw[xl];exact hi
  rwa[xl]at this
 have l2:=zOp (P:=P);have l3:=zE7 hr;have l4:=Nat.mul_le_mul h5 (xk 5);have l5:=Nat.mul_le_mul (xm l2 (xm l3 l4)) (xk 30);lia
theorem yCd(h:Sz P I)(hp:∀r∈P,∀p∈r,Bp 61 p)(hi:∀p∈I,Bp 61 p):∀p∈bt P I,Bp 62 p:=λp hq=>by
 obtain⟨c,b,⟨hc,hb⟩,rfl⟩:=((h.is.2 p).mp hq).1;obtain⟨r,hr,hc⟩:=bs_mem.mp hc;exact⟨(hi b hb).1.sub (hp r hr c hc).1,(hi b hb).2.sub (hp r hr c hc).2⟩
structure Ru (P:List (List Pt)):Prop where
 len:P.length<=300
 up:Up (P.map rowD)
 row:∀r∈P,r.length<=12/\Up (r.map cel)/\∀p∈r,Bp 11 p
theorem Rl.ru{n:Nat}{cs:List Pt}(h:Rl n cs P)(hn:n<=300)(c9:cs.length<=12)(cb:∀p∈cs,Bd p)(cr:Rz cs):Ru P:=
 ⟨xm h.len hn,h.up,λr hr=>⟨xm (h.sub r hr).length_le c9,cr.2.sublist ((h.sub r hr).map _),λp hp=>by
  obtain⟨b1,b2,b3,b4⟩:=cb p ((h.sub r hr).subset hp);exact⟨.of (by show -(2048:Int)<p.1;lia) (by show p.1<(2048:Int);lia),.of (by show -(2048:Int)<p.2;lia) (by show p.2<(2048:Int);lia)⟩⟩⟩
theorem Ru.cr_is{P:List (List Pt)}(h:Ru P):sR ((P.map (cr v)).map sr)=P.map (cr v):=by
 have e:(P.map (cr v)).map sr=P.map (cr v):=by rw[xC];exact vP λr hr=>zX7 (.refl _) (zWy (h.row r hr).2.1)
 rw[e];exact zXb (.refl _) (zWx h.up)
theorem yC8{P:List (List Pt)}:(P.map (cr v)).map (cr (ng v))=P:=by rw[xC];refine(vP λr _=>?_).trans (List.map_id P);show cr (ng v) (cr v r)=r;unfold cr;rw[xC];exact(vP λp _=>yAl).trans (List.map_id r)
theorem comp2{P:List (List Pt)}{j:Nat}{e:EM}{f:Pt->Pt}(h0:env[0]?=some (some (zA3 P)))(hj:env[j]?=some (some d))(hl:P.length<=1000)(hr:∀r∈P,r.length<=1000)(he:∀r∈P,∀p∈r,e [some (cel p),some d] S=.ok (cel (f p)) S):zA6 1 [j] (iVal (eVar 0)) (gName 0) tYes (zA6 1 [1] (iVal (eVar 0)) (gName 0) tYes e) env S=.ok (.lst ((P.map (·.map f)).map lstD)) S:=
 zO6 (hD:=rowD) (gD:=lstD) (f:=(·.map f)) zBa h0 hj hl λr hr'=>zFl (l:=[]) zBa rfl rfl (by have:=hr r hr';lia) (he r hr')
noncomputable abbrev tlB:SM:=(sSeq (sIf (tB (eOp neK (eCB zBx (zA0 (zA2 zAj (zA0 (eVar 0) (zA0 (eVar 1) aNil))) aNil)) (eCB zBx (zA0 (eVar 3) aNil)))) (sRet (eC (.bl false))) zAt)
  (sIf (tB (eOp neK (eCB zBx (zA0 (zA2 zAn (zA0 (eVar 0) (zA0 (eVar 2) aNil))) aNil)) (eCB zBx (zA0 (zA2 zAq (zA0 (zA6 1 [2] (iVal (eVar 0)) (gName 0) tYes (zA6 1 [1] (iVal (eVar 0)) (gName 0) tYes (zA2 zAd (zA0 (eVar 1) (zA0 (eVar 0) aNil))))) aNil)) aNil)))) (sRet (eC (.bl false))) zAt))
theorem zSs(h:Ru P)(hv:Bp 11 v)(hT:Bt T):zC4 [zA3 P,cel v,tb T] S=.ok (.bl true) S:=by
 have l1:P.length<=1000:=by have:=h.len;lia
 have hr:∀r∈P,r.length<=1000:=λr hr=>by have:=(h.row r hr).1;lia
 have hb:∀r∈P,r.length<=1000/\∀p∈r,Bp 11 p:=λr hr'=>⟨hr r hr',(h.row r hr').2.2⟩
 have crow:∀r∈P.map (cr v),r.length<=12/\∀p∈r,Bp 64 p:=λr hr=>by
  obtain⟨q,hq,rfl⟩:=xn.mp hr;refine⟨by rw[xl];exact(h.row q hq).1,λp hp=>?_⟩;obtain⟨p,hp2,rfl⟩:=xn.mp hp;have:=(h.row q hq).2.2 p hp2;exact⟨(this.1.add hv.1).mono (by decide),(this.2.add hv.2).mono (by decide)⟩
 have lrow:∀r∈lds T P,r.length<=12/\∀p∈r,Bp 64 p:=λr hr=>by
  obtain⟨q,hq,rfl⟩:=lds_mem.mp hr;refine⟨by rw[(zBw _).len,xl];exact(h.row q hq).1,λp hp=>?_⟩;obtain⟨p,hp2,rfl⟩:=led_mem.mp hp;exact(Bp.ld hT ((h.row q hq).2.2 p hp2)).mono (by decide)
 obtain⟨t1,r1⟩:=zGz crow (by rw[xl];exact l1);obtain⟨t2,r2⟩:=zGz lrow (by rw[zG4];exact l1);have pc:=zCq (S:=S) (v:=v) l1 hr;have pl:=zEh (S:=S) (k:=11) (by decide) hT l1 hb;have c1:=comp2 (S:=S) (env:=[some (zA3 P),some (cel v),some (tb T),none,none]) (j:=1) (d:=cel v) (e:=zA2 zAh (zA0 (eVar 0) (zA0 (eVar 1) aNil))) (f:=(ad · v)) rfl rfl l1 hr λr _ p _=>by simp_arith [zEl]
 have s1:=zFd (S:=S) (P:=P.map (cr v)) (by rw[xl];exact l1) λr hr'=>by have:=(crow r hr').1;lia
 rw[h.cr_is]at s1;have s2:=zFd (S:=S) (P:=P.map (·.map (ld T))) (by rw[xl];exact l1) λr hr'=>by obtain⟨q,hq,rfl⟩:=xn.mp hr';rw[xl];exact hr q hq
 have e2:(P.map (·.map (ld T))).map sr=P.map λr=>sr (r.map (ld T)):=by rw[xC];rfl
 rw[e2]at s2;refine zAl rfl ?_ rfl;have x1:sSet 3 (zA2 zAq (zA0 (zA6 1 [1] (iVal (eVar 0)) (gName 0) tYes (zA6 1 [1] (iVal (eVar 0)) (gName 0) tYes (zA2 zAh (zA0 (eVar 0) (zA0 (eVar 1) aNil))))) aNil)) [some (zA3 P),some (cel v),some (tb T),none,none] S=.nx [some (zA3 P),some (cel v),some (tb T),some (zA3 (P.map (cr v))),none] S:=by rw[sSet,zA2,zA0,c1,Rs.bind_ok,aNil,Rs.bind_ok,Rs.bind_ok,s1,Rs.then_ok];rfl
 have w:zAi (zA0 (eC (.int 2)) aNil) [some (zA3 P),some (cel v),some (tb T),some (zA3 (P.map (cr v))),none] S=.ok ⟨(List.range 2).map fun(i:Nat)=>.int (i:Int),[]⟩ S:=zAz (n:=2) rfl (by decide);obtain⟨env',S',e,rfl,o,rfl⟩:=zNr (h:=fun(i:Nat)=>D.int (i:Int)) (gd:=[]) (g:=gName 4) (b:=tlB) (λenv S'=>S'=S/\∃o,env=[some (zA3 P),some (cel v),some (tb T),some (zA3 (P.map (cr v))),o]) (λ_ _ _=>zA9) (List.range 2) [some (zA3 P),some (cel v),some (tb T),some (zA3 (P.map (cr v))),none] S ⟨rfl,_,rfl⟩ (λi _ env S' hh=>by
  obtain⟨rfl,o,rfl⟩:=hh;refine⟨[some (zA3 P),some (cel v),some (tb T),some (zA3 (P.map (cr v))),some (.int (i:Int))],_,S',rfl,zA4 (e:=[some (zA3 P),some (cel v),some (tb T),some (zA3 (P.map (cr v))),some (.int (i:Int))]) (S1:=S') (zQr ?_ rfl) (zQr ?_ rfl),rfl,_,rfl⟩
  ·simp_arith [pc,r1,ne_str]
  ·have c2:=comp2 (S:=S') (env:=[some (zA3 P),some (cel v),some (tb T),some (zA3 (P.map (cr v))),some (.int (i:Int))]) (j:=2) (d:=tb T) (e:=zA2 zAd (zA0 (eVar 1) (zA0 (eVar 0) aNil))) (f:=ld T) rfl rfl l1 hr λr hr' p hp=>by simp_arith [zN5 (S:=S') (k:=11) (by decide) hT ((hb r hr').2 p hp)]
   have q1:(eCB zBx (zA0 (zA2 zAn (zA0 (eVar 0) (zA0 (eVar 2) aNil))) aNil)) [some (zA3 P),some (cel v),some (tb T),some (zA3 (P.map (cr v))),some (.int (i:Int))] S'=.ok (.str t2) S':=by simp_arith [pl,r2]
   have q2:(eCB zBx (zA0 (zA2 zAq (zA0 (zA6 1 [2] (iVal (eVar 0)) (gName 0) tYes (zA6 1 [1] (iVal (eVar 0)) (gName 0) tYes (zA2 zAd (zA0 (eVar 1) (zA0 (eVar 0) aNil))))) aNil)) aNil)) [some (zA3 P),some (cel v),some (tb T),some (zA3 (P.map (cr v))),some (.int (i:Int))] S'=.ok (.str t2) S':=by rw[eCB,zA0,zA2,zA0,c2];simp only[Rs.bind_ok,aNil,s2,r2,zA5]
   rw[tB,eOp,q1,Rs.bind_ok,q2,Rs.bind_ok,ne_str];rfl)
 refine zA4 x1 (zA4 (e:=[some (zA3 P),some (cel v),some (tb T),some (zA3 (P.map (cr v))),o]) (S1:=S') (by rw[sFor,w,Rs.then_ok];exact e) ?_);have pb:=zCq (S:=S') (P:=P.map (cr v)) (v:=ng v) (by rw[xl];exact l1) λr hr'=>by have:=(crow r hr').1;lia
 rw[yC8]at pb;simp_arith [pb,zK5,decide_true]
noncomputable abbrev l4 (T:Tb):D:=.lst [.int T.1,.int T.2.1,.int T.2.2.1,.int T.2.2.2]
def B3(T:Tb):Prop:=BB 3 T.1/\BB 3 T.2.1/\BB 3 T.2.2.1/\BB 3 T.2.2.2
theorem B3.bt(h:B3 T):Bt T:=⟨h.1.mono (by decide),h.2.1.mono (by decide),h.2.2.1.mono (by decide),h.2.2.2.mono (by decide)⟩
theorem zNu{x y:Int}:eqK S (.int x) (.int y)=some (.bl (decide (x=y))):=rfl
theorem mul3{x y:Int}(h:BB 3 x)(h':BB 3 y):mulD S (.int x) (.int y)=some (.int (x*y)):=zEi h h'
theorem zWa{c:Nat}(h:Ru P)(hf:Feed S c):∃S',zAs [.ref c,zA3 P] S=.ok (.bl true) S'/\Feed S' c/\Only c c S S':=by
 have l1:P.length<=1000:=by have:=h.len;lia
 have hb:∀r∈P,r.length<=1000/\∀p∈r,Bp 11 p:=λr hr'=>⟨by have:=(h.row r hr').1;lia,(h.row r hr').2.2⟩
 obtain⟨bs,S1,e1,n1,b1,f1,o1⟩:=zGg (h:=fun(i:Nat)=>D.int (i:Int)) (k:=l4) (own:=1) (ix:=[0]) (i:=zAi (zA0 (eC (.int 2)) aNil)) (gd:=[]) (g:=gName 0) (e:=(zA6 1 [1] (zAi (zA0 (eC (.int 4)) aNil)) (gName 0) tYes (eOp subD (zA2 zA1 (zA0 (eVar 1) (zA0 (eC (.int 5)) aNil))) (eC (.int 2))))) (S:=S) (S0:=S) (env:=[some (.ref c),some (zA3 P),none,none,none,none,none]) (xs:=List.range 2) (λenv=>∃o,env=[o,some (.ref c)]) (λS'=>Feed S' c/\Only c c S S') B3 (zAz (n:=2) rfl (by decide)) (λ_ _=>zA9) ⟨none,rfl⟩ ⟨hf,.refl⟩ (by decide) (λi _ env S1 he hj=>by
  obtain⟨o,rfl⟩:=he;obtain⟨x,y,z,w,S2,e2,b2,f2,o2⟩:=zNq (S0:=S1) (many:=5) (m:=2) (env:=[some (.int (i:Int)),some (.ref c)]) (j:=1) rfl hj.1 (by decide) (by decide);have b:∀v∈[x,y,z,w],BB 3 v:=λv hv=>.of (by have:=b2 v hv;show -(8:Int)<v;lia) (by have:=b2 v hv;show v<(8:Int);lia)
  exact⟨[some (.int (i:Int)),some (.ref c)],(x,y,z,w),S2,rfl,⟨_,rfl⟩,e2,⟨b x (by simp),b y (by simp),b z (by simp),b w (by simp)⟩,f2,hj.2.trans o2⟩)
 match bs,n1,e1,b1 with
 | [A0,B0],_,e1,b1=>
  have hA0:=b1 A0 (by simp);have hB0:=b1 B0 (by simp);have x1:sUnp (gTup [(gName 2),(gName 3)]) (zA6 1 [0] (zAi (zA0 (eC (.int 2)) aNil)) (gName 0) tYes (zA6 1 [1] (zAi (zA0 (eC (.int 4)) aNil)) (gName 0) tYes (eOp subD (zA2 zA1 (zA0 (eVar 1) (zA0 (eC (.int 5)) aNil))) (eC (.int 2))))) [some (.ref c),some (zA3 P),none,none,none,none,none] S=.nx [some (.ref c),some (zA3 P),some (l4 A0),some (l4 B0),none,none,none] S1:=by rw[sUnp,e1,Rs.then_ok];rfl
  obtain⟨A,x2,hA⟩:∃A,sIf (tB (eOp eqK (eOp mulD (eOp ixD (eVar 2) (eC (.int 0))) (eOp ixD (eVar 2) (eC (.int 3)))) (eOp mulD (eOp ixD (eVar 2) (eC (.int 1))) (eOp ixD (eVar 2) (eC (.int 2)))))) (sSet 2 (eLst (zA0 (eC (.int 0)) (zA0 (eOp subD (eC (.int 0)) (eC (.int 1))) (zA0 (eC (.int 1)) (zA0 (eC (.int 0)) aNil)))))) zAt [some (.ref c),some (zA3 P),some (l4 A0),some (l4 B0),none,none,none] S1=.nx [some (.ref c),some (zA3 P),some (l4 A),some (l4 B0),none,none,none] S1/\B3 A:=by
   have t:tB (eOp eqK (eOp mulD (eOp ixD (eVar 2) (eC (.int 0))) (eOp ixD (eVar 2) (eC (.int 3)))) (eOp mulD (eOp ixD (eVar 2) (eC (.int 1))) (eOp ixD (eVar 2) (eC (.int 2))))) [some (.ref c),some (zA3 P),some (l4 A0),some (l4 B0),none,none,none] S1=.ok (decide (A0.1*A0.2.2.2=A0.2.1*A0.2.2.1)) S1:=by simp_arith [mul3 (S:=S1) hA0.1 hA0.2.2.2,mul3 (S:=S1) hA0.2.1 hA0.2.2.1,zNu]
   rw[zG9 t];by_cases z:A0.1*A0.2.2.2=A0.2.1*A0.2.2.1
   ·exact⟨(0,0-1,1,0),by rw[xf z];simp_arith [xr],.lit rfl,.lit rfl,.lit rfl,.lit rfl⟩
   ·exact⟨A0,by rw[xg z];rfl,hA0⟩
  obtain⟨B,x3,hB⟩:∃B,sIf (tB (eOp eqK (eOp mulD (eOp ixD (eVar 3) (eC (.int 0))) (eOp ixD (eVar 3) (eC (.int 3)))) (eOp mulD (eOp ixD (eVar 3) (eC (.int 1))) (eOp ixD (eVar 3) (eC (.int 2)))))) (sSet 3 (eLst (zA0 (eC (.int 2)) (zA0 (eC (.int 1)) (zA0 (eC (.int 0)) (zA0 (eC (.int 1)) aNil)))))) zAt [some (.ref c),some (zA3 P),some (l4 A),some (l4 B0),none,none,none] S1=.nx [some (.ref c),some (zA3 P),some (l4 A),some (l4 B),none,none,none] S1/\B3 B:=by
   have t:tB (eOp eqK (eOp mulD (eOp ixD (eVar 3) (eC (.int 0))) (eOp ixD (eVar 3) (eC (.int 3)))) (eOp mulD (eOp ixD (eVar 3) (eC (.int 1))) (eOp ixD (eVar 3) (eC (.int 2))))) [some (.ref c),some (zA3 P),some (l4 A),some (l4 B0),none,none,none] S1=.ok (decide (B0.1*B0.2.2.2=B0.2.1*B0.2.2.1)) S1:=by simp_arith [mul3 (S:=S1) hB0.1 hB0.2.2.2,mul3 (S:=S1) hB0.2.1 hB0.2.2.1,zNu]
   rw[zG9 t];by_cases z:B0.1*B0.2.2.2=B0.2.1*B0.2.2.1
   ·exact⟨(2,1,0,1),by rw[xf z];simp_arith [xr],.lit rfl,.lit rfl,.lit rfl,.lit rfl⟩
   ·exact⟨B0,by rw[xg z];rfl,hB0⟩
  have d1:=zJs (S:=S1) (k:=3) (T:=B) (p:=(A.1,A.2.2.1)) (by decide) hB.bt ⟨hA.1,hA.2.2.1⟩;have d2:=zJs (S:=S1) (k:=3) (T:=B) (p:=(A.2.1,A.2.2.2)) (by decide) hB.bt ⟨hA.2.1,hA.2.2.2⟩;have b1':=Bp.ld (k:=3) (p:=(A.1,A.2.2.1)) hB.bt ⟨hA.1,hA.2.2.1⟩;obtain⟨V,hV⟩:∃V:Tb,V=((ld B (A.1,A.2.2.1)).1,(ld B (A.2.1,A.2.2.2)).1,(ld B (A.1,A.2.2.1)).2,(ld B (A.2.1,A.2.2.2)).2):=⟨_,rfl⟩
  have m6:∀{x y z w:Int},BB 3 x->BB 3 y->BB 3 z->BB 3 w->BB 30 (x*y+z*w):=λa b c d=>((a.mul b).add (c.mul d)).mono (by decide)
  have hVb:Bt V:=by rw[hV];exact⟨m6 hB.1 hA.1 hB.2.1 hA.2.2.1,m6 hB.1 hA.2.1 hB.2.1 hA.2.2.2,m6 hB.2.2.1 hA.1 hB.2.2.2 hA.2.2.1,m6 hB.2.2.1 hA.2.1 hB.2.2.2 hA.2.2.2⟩
  have p1:=zEh (S:=S1) (k:=11) (by decide) hA.bt l1 hb;have p2:=zEh (S:=S1) (k:=42) (P:=lds A P) (by decide) hB.bt (by rw[zG4];exact l1) λr hr=>by
   obtain⟨q,hq,rfl⟩:=lds_mem.mp hr;refine⟨by rw[(zBw _).len,xl];exact(hb q hq).1,λp hp=>?_⟩;obtain⟨p,hp2,rfl⟩:=led_mem.mp hp;exact Bp.ld hA.bt ((hb q hq).2 p hp2)
  have p3:=zEh (S:=S1) (k:=11) (by decide) hVb l1 hb;rw[zUu (V:=V) λp=>by rw[hV];exact yBg]at p2;rw[hV]at p3;obtain⟨S2,e2,f2,o2⟩:=zAo (np:=2) (nl:=7) (b:=zBo) (ds:=[.ref c,zA3 P]) (d:=.bl true) rfl (by
   refine zA4 x1 (zA4 x2 (zA4 x3 (zA4 (e:=[some (.ref c),some (zA3 P),some (l4 A),some (l4 B),some (cel (ld B (A.1,A.2.2.1))),some (cel (ld B (A.2.1,A.2.2.2))),none]) (S1:=S1) (by simp_arith [d1,d2]) (zA4 (e:=[some (.ref c),some (zA3 P),some (l4 A),some (l4 B),some (cel (ld B (A.1,A.2.2.1))),some (cel (ld B (A.2.1,A.2.2.2))),some (tb ((ld B (A.1,A.2.2.1)).1,(ld B (A.2.1,A.2.2.2)).1,(ld B (A.1,A.2.2.1)).2,(ld B (A.2.1,A.2.2.2)).2))]) (S1:=S1) (by simp_arith [xr]) ?_))));rw[hV]at p2;simp_arith [zBp,p1,p2,p3,zK5,decide_true]) hf f1 o1.grow rfl
  exact⟨S2,e2,f2,o2⟩
section
variable {g:Fn}{e:EM}{env:Env}{S S1 S2:Store}{i j n k:Nat}{x y w d:D}
theorem ecall2(h0:env[i]?=some (some x))(h:e env S=.ok y S1)(hg:g [x,y] S1=.ok d S2):zA2 g (zA0 (eVar i) (zA0 e aNil)) env S=.ok d S2:=by simp only[zA2,zA0,aNil,eVar,h0,Rs.bind_ok,h,hg]
theorem ecall3(h0:env[i]?=some (some x))(h:e env S=.ok y S1)(hg:g [x,y,w] S1=.ok d S2):zA2 g (zA0 (eVar i) (zA0 e (zA0 (eC w) aNil))) env S=.ok d S2:=by simp only[zA2,zA0,aNil,eVar,eC,h0,Rs.bind_ok,h,hg]
theorem yB5(h:e env S=.ok (natD k) S1):eOp addD (eC (natD n)) e env S=.ok (natD (n+k)) S1:=by simp only[eOp,eC,Rs.bind_ok,h,addD,zA5];congr 2
theorem zGw(h:e env S=.ok d S1):sSet j e env S=.nx (env.set j (some d)) S1:=by rw[sSet,h,Rs.then_ok]
end
noncomputable abbrev flA:TM:=(tAnd (tB (eOp gtD (eCB lenB (zA0 (eVar 4) aNil)) (eC (.int 0)))) (tB (eOp gtD (eCB absB (zA0 (eOp ixD (eOp ixD (eVar 4) (eC (.int 0))) (eC (.int 0))) aNil)) (eOp powD (eC (.int 10)) (eC (.int 9))))))
theorem zZg(h4:env[4]?=some (some (rowD I))):∃b:Bool,flA env S=.ok b S:=by
 have v4:eVar 4 env S=.ok (rowD I) S:=by simp only[eVar,h4]
 have pw:powD S (.int 10) (.int 9)=some (.int ((10:Int) ^ 9)):=by show(if(0:Int)<=9/\(9:Int)<=1000000/\(10:Int).natAbs<2 ^ 64 then some (D.int ((10:Int) ^ (9:Int).toNat))else none)=_;rw[xf (by decide)];rfl
 cases I with
 | nil=>
  refine⟨false,?_⟩;have l:lenB S [rowD []]=some (.int 0):=rfl;simp only[flA,tAnd,tB,eOp,eCB,zA0,aNil,v4,Rs.bind_ok,l,zA5,eC,gt_int,asB];rfl
 | cons p r=>
  refine⟨decide ((10:Int) ^ 9<if p.1<0 then -p.1 else p.1),?_⟩;have l:lenB S [rowD (p::r)]=some (.int ((r.map cel).length+1:Nat)):=rfl;have i0:ixD S (rowD (p::r)) (.int 0)=some (cel p):=atL0;have i1:ixD S (cel p) (.int 0)=some (.int p.1):=atL0;simp only[flA,tAnd,tB,eOp,eCB,zA0,aNil,v4,Rs.bind_ok,l,zA5,eC,gt_int,asB,i0,i1,zSn,pw];rw[xx (show(0:Int)<((r.map cel).length+1:Nat) by nofun),xf rfl]
theorem zNt{c:Nat}(hf:Feed S c)(hv:Bp 11 v)(hT:Bt T)(hd:dt T≠0):∃S',zAr [.ref c,cel v,tb T] S=.ok (.bl true) S'/\Feed S' c/\Only c c S S':=by
 obtain⟨k,S1,e1,k9,f1,o1⟩:=zDm (many:=5) (by decide) (by decide) hf;obtain⟨cs,S2,e2,l2,b2,z2,f2,o2⟩:=zUf (many:=1+k) (by nofun) f1;obtain⟨P,S3,e3,rl,f3,o3⟩:=zJl (cs:=cs) (most:=5) f2 (by nofun) (by nofun) (by decide) (by decide);obtain⟨I,S4,e4,il,iz,ib,f4,o4⟩:=zNf f3;have r5:∀r∈P,r.length<=5:=λr hr=>by have:=(rl.sub r hr).length_le;lia
 have rb:∀r∈P,∀p∈r,Bp 11 p:=λr hr p hp=>by
  obtain⟨q1,q2,q3,q4⟩:=b2 p ((rl.sub r hr).subset hp);exact⟨.of (by show -(2048:Int)<p.1;lia) (by show p.1<(2048:Int);lia),.of (by show -(2048:Int)<p.2;lia) (by show p.2<(2048:Int);lia)⟩
 have pl:=rl.len;have sz:Sz P I:=⟨by nofun,λr hr=>by have:=r5 r hr;lia,by nofun⟩;have szc:Sz (P.map (cr v)) I:=⟨by rw[xl];lia,λr hr=>by obtain⟨q,hq,rfl⟩:=xn.mp hr;rw[xl];exact sz.r q hq,sz.i⟩;have szl:Sz (lds T P) (sr (I.map (ld T))):=⟨by rw[zG4];exact sz.p,λr hr=>by obtain⟨q,hq,rfl⟩:=lds_mem.mp hr;rw[(zBw _).len,xl];exact sz.r q hq,by rw[(zBw _).len,xl];exact sz.i⟩;have bl:=yAc sz pl r5 il;have bb:=yCd sz (λr hr p hp=>(rb r hr p hp).mono (by decide)) ib;obtain⟨t,rt⟩:=zPj (r:=(bt P I).map (ad · (ng v))) (λp hp=>by
  obtain⟨q,hq,rfl⟩:=xn.mp hp;have n1:BB 12 (0-v.1):=(BB.lit (k:=0) (x:=0) rfl).sub hv.1;have n2:BB 12 (0-v.2):=(BB.lit (k:=0) (x:=0) rfl).sub hv.2;exact⟨((bb q hq).1.add n1).mono (by decide),((bb q hq).2.add n2).mono (by decide)⟩) (by rw[xl];exact bl)
 have pc:=zCq (S:=S4) (v:=v) (P:=P) (by nofun) (λr hr=>by have:=r5 r hr;lia);have bc:=szc.ok (S:=S4);rw[yCc sz]at bc;have pd:=zEh (S:=S4) (k:=11) (P:=P) (by decide) hT (by nofun) λr hr=>⟨by have:=r5 r hr;lia,rb r hr⟩
 have bd:=szl.ok (S:=S4);rw[yCb sz hd]at bd;have o:=((o1.trans o2).trans o3).trans o4;obtain⟨b,hb⟩:=zZg (S:=S4) (env:=[some (.ref c),some (cel v),some (tb T),some (zA3 P),some (rowD I),some (rowD (bt P I)),some (rowD ((bt P I).map (ad · (ng v)))),none]) (I:=I) rfl;have y1:sSet 3 (zA2 zB5 (zA0 (eVar 0) (zA0 (zA2 zC5 (zA0 (eVar 0) (zA0 (eOp addD (eC (.int 1)) (zA2 zA1 (zA0 (eVar 0) (zA0 (eC (.int 5)) aNil)))) aNil))) (zA0 (eC (.int 5)) aNil)))) [some (.ref c),some (cel v),some (tb T),none,none,none,none,none] S=.nx [some (.ref c),some (cel v),some (tb T),some (zA3 P),none,none,none,none] S3:=
  zGw (ecall3 rfl (ecall2 rfl (plus1 (by simp_arith [e1])) e2) e3)
 have c1:=zFl (S:=S4) (e:=zA2 zAh (zA0 (eVar 0) (zA0 (eTup (zA0 (eOp subD (eC (.int 0)) (eOp ixD (eVar 1) (eC (.int 0)))) (zA0 (eOp subD (eC (.int 0)) (eOp ixD (eVar 1) (eC (.int 1)))) aNil))) aNil))) (env:=[some (.ref c),some (cel v),some (tb T),some (zA3 P),some (rowD I),some (rowD (bt P I)),none,none]) (i:=5) (j:=1) (f:=(ad · (ng v))) (l:=[]) (r:=bt P I) zBa rfl rfl (by nofun) λp _=>by simp_arith [zEl (S:=S4) (p:=p) (v:=ng v)]
 have y4:sSet 6 (eCB zAf (zA0 (zA6 1 [1] (iVal (eVar 5)) (gName 0) tYes (zA2 zAh (zA0 (eVar 0) (zA0 (eTup (zA0 (eOp subD (eC (.int 0)) (eOp ixD (eVar 1) (eC (.int 0)))) (zA0 (eOp subD (eC (.int 0)) (eOp ixD (eVar 1) (eC (.int 1)))) aNil))) aNil)))) aNil)) [some (.ref c),some (cel v),some (tb T),some (zA3 P),some (rowD I),some (rowD (bt P I)),none,none] S4=.nx [some (.ref c),some (cel v),some (tb T),some (zA3 P),some (rowD I),some (rowD (bt P I)),some (rowD ((bt P I).map (ad · (ng v)))),none] S4:=
  zGw (by rw[eCB,zA0,c1];rfl)
 have y5:sIf (tB (eOp neK (eCB zBx (zA0 (zA2 zD4 (zA0 (zA2 zAj (zA0 (eVar 3) (zA0 (eVar 1) aNil))) (zA0 (eVar 4) aNil))) aNil)) (eCB zBx (zA0 (eVar 6) aNil)))) (sRet (eC (.bl false))) zAt [some (.ref c),some (cel v),some (tb T),some (zA3 P),some (rowD I),some (rowD (bt P I)),some (rowD ((bt P I).map (ad · (ng v)))),none] S4=.nx [some (.ref c),some (cel v),some (tb T),some (zA3 P),some (rowD I),some (rowD (bt P I)),some (rowD ((bt P I).map (ad · (ng v)))),none] S4:=
  zQr (by simp_arith [pc,bc,rt,ne_str]) rfl
 have le:∀(r:List Pt) (k:Nat),k<=3000->(∀p∈r,Bp k p)->∀p∈r,zA2 zAd (zA0 (eVar 1) (zA0 (eVar 0) aNil)) [some (cel p),some (tb T)] S4=.ok (cel (ld T p)) S4:=λr k hk hb p hp=>by simp_arith [zN5 (S:=S4) hk hT (hb p hp)]
 have body:zB4 [some (.ref c),some (cel v),some (tb T),none,none,none,none,none] S=.rt (.bl true) S4:=by
  refine zA4 y1 (zA4 (e:=[some (.ref c),some (cel v),some (tb T),some (zA3 P),some (rowD I),none,none,none]) (S1:=S4) (by simp_arith [e4]) (zA4 (e:=[some (.ref c),some (cel v),some (tb T),some (zA3 P),some (rowD I),some (rowD (bt P I)),none,none]) (S1:=S4) (by simp_arith [sz.ok (S:=S4)]) (zA4 y4 (zA4 y5 ?_))));cases b with
  | true=>exact zRr (zZ9 hb (by simp_arith [xr]))
  | false=>
   have c2:=zFl (S:=S4) (e:=zA2 zAd (zA0 (eVar 1) (zA0 (eVar 0) aNil))) (env:=[some (.ref c),some (cel v),some (tb T),some (zA3 P),some (rowD I),some (rowD (bt P I)),some (rowD ((bt P I).map (ad · (ng v)))),none]) (i:=4) (j:=2) (f:=ld T) (l:=[]) (r:=I) zBa rfl rfl (by nofun) (le I 61 (by decide) ib);refine zA4 (zQr hb rfl) (zA4 (e:=[some (.ref c),some (cel v),some (tb T),some (zA3 P),some (rowD I),some (rowD (bt P I)),some (rowD ((bt P I).map (ad · (ng v)))),some (rowD (sr (I.map (ld T))))]) (S1:=S4) (zGw ?_) ?_)
   ·simp only[eCB,zA0,aNil,c2,Rs.bind_ok,zFr (S:=S4) (r:=I.map (ld T)) (by rw[xl];lia),zA5,zBp]
   ·have c3:=zFl (S:=S4) (e:=zA2 zAd (zA0 (eVar 1) (zA0 (eVar 0) aNil))) (env:=[some (.ref c),some (cel v),some (tb T),some (zA3 P),some (rowD I),some (rowD (bt P I)),some (rowD ((bt P I).map (ad · (ng v)))),some (rowD (sr (I.map (ld T))))]) (i:=5) (j:=2) (f:=ld T) (l:=[]) (r:=bt P I) zBa rfl rfl (by nofun) (le (bt P I) 62 (by decide) bb);have q1:zA2 zD4 (zA0 (zA2 zAn (zA0 (eVar 3) (zA0 (eVar 2) aNil))) (zA0 (eVar 7) aNil)) [some (.ref c),some (cel v),some (tb T),some (zA3 P),some (rowD I),some (rowD (bt P I)),some (rowD ((bt P I).map (ad · (ng v)))),some (rowD (sr (I.map (ld T))))] S4=.ok (rowD (sr ((bt P I).map (ld T)))) S4:=by simp_arith [pd,bd]
    have q2:(eCB zAf (zA0 (eCB zBb (zA0 (zA6 1 [2] (iVal (eVar 5)) (gName 0) tYes (zA2 zAd (zA0 (eVar 1) (zA0 (eVar 0) aNil)))) aNil)) aNil)) [some (.ref c),some (cel v),some (tb T),some (zA3 P),some (rowD I),some (rowD (bt P I)),some (rowD ((bt P I).map (ad · (ng v)))),some (rowD (sr (I.map (ld T))))] S4=.ok (rowD (sr ((bt P I).map (ld T)))) S4:=by simp only[eCB,zA0,aNil,c3,Rs.bind_ok,zFr (S:=S4) (r:=(bt P I).map (ld T)) (by rw[xl];exact bl),zA5,zBp]
    rw[sRet,eOp,q1,Rs.bind_ok,q2,Rs.bind_ok,zVf,xx rfl];rfl
 obtain⟨S6,e6,f6,o6⟩:=zAo (np:=3) (nl:=8) (b:=zB4) (ds:=[.ref c,cel v,tb T]) (d:=.bl true) rfl body hf f4 o.grow rfl;exact⟨S6,e6,f6,o6⟩
theorem zVd:zC7=zF4 2 4 zWh:=rfl
theorem many2{l:Nat}(hl:lenB S [s]=some (.int (l:Nat))):∃m:Nat,m<=12/\eCB max2B (zA0 (eC (.int 2)) (zA0 (eCB min2B (zA0 (eC (.int 4)) (zA0 (eCB lenB (zA0 (eVar 0) aNil)) aNil))) aNil)) [some s,a1,a2,a3,a4,a5] S=.ok (.int (m:Nat)) S:=by
 have mn:min2B S [.int 4,.int (l:Nat)]=some (.int ((min 4 l:Nat):Int)):=by show some (D.int (if(l:Int)<4 then(l:Int)else 4))=_;congr 2;split <;> lia
 have mx:max2B S [.int 2,.int ((min 4 l:Nat):Int)]=some (.int ((max 2 (min 4 l):Nat):Int)):=by show some (D.int (if((min 4 l:Nat):Int) > 2 then((min 4 l:Nat):Int)else 2))=_;congr 2;split <;> lia
 refine⟨max 2 (min 4 l),by nofun,?_⟩;simp only[eCB,zA0,aNil,eC,eVar,vX,Rs.bind_ok,hl,zA5,mn,mx]
theorem Bd.bp(h:Bd p):Bp 11 p:=⟨.of (by have:=h.1;show -(2048:Int)<p.1;lia) (by have:=h.2.1;show p.1<(2048:Int);lia),.of (by have:=h.2.2.1;show -(2048:Int)<p.2;lia) (by have:=h.2.2.2;show p.2<(2048:Int);lia)⟩
noncomputable abbrev bLw:SM:=(sSeq (sSet 2 (zA2 zC7 (zA0 (eVar 0) (zA0 (eVar 1) aNil))))
  (sSeq (sSet 3 (zA2 zB5 (zA0 (eVar 2) (zA0 (zA2 zAw (zA0 (eVar 2) (zA0 (eOp addD (eC (.int 1)) (zA2 zA1 (zA0 (eVar 2) (zA0 (eC (.int 8)) aNil)))) aNil))) (zA0 (eC (.int 9)) aNil)))))
  (sSeq (sIf (tB (eOp eqI (zA2 zA1 (zA0 (eVar 2) (zA0 (eC (.int 4)) aNil))) (eC (.int 0)))) (sSet 3 (zA2 zBj (zA0 (eVar 2) (zA0 (zA2 zAw (zA0 (eVar 2) (zA0 (eOp addD (eC (.int 4)) (zA2 zA1 (zA0 (eVar 2) (zA0 (eC (.int 4)) aNil)))) aNil))) aNil)))) zAt)
  (sSeq (sPar [4,5] (zA0 (zA2 zB2 (zA0 (eVar 2) aNil)) (zA0 (zA2 zBn (zA0 (eVar 2) aNil)) aNil)))
  (sSeq (sIf (tOr (tNot (tTru (zA2 zC4 (zA0 (eVar 3) (zA0 (eVar 4) (zA0 (eVar 5) aNil)))))) (tNot (tTru (zA2 zAs (zA0 (eVar 2) (zA0 (eVar 3) aNil)))))) (sRet (eC (.bl false))) zAt)
  (sIf (tNot (tTru (zA2 zAr (zA0 (eVar 2) (zA0 (eVar 4) (zA0 (eVar 5) aNil)))))) (sRet (eC (.bl false))) zAt))))))
theorem zSo{ns:List Int}{k:Nat}(hk:k<=63):∃(o2' o3' o4' o5':Option D) (S':Store),bLw [some (.klst (ns.map D.int)),some (.int (k:Nat)),o2,o3,o4,o5] S=.nx [some (.klst (ns.map D.int)),some (.int (k:Nat)),o2',o3',o4',o5'] S':=by
 obtain⟨own,seed,s0,s9,e1⟩:=zVc (S:=S) (ns:=ns) hk;rw[<- zVd]at e1;have f1:Feed (S++[.lst [.int own,.int seed]]) S.length:=⟨own,seed,by simp,s0,s9⟩;obtain⟨j,S2,e2,j9,f2,_⟩:=zDm (many:=8) (by decide) (by decide) f1;obtain⟨cs,S3,e3,l3,b3,z3,f3,_⟩:=zKe (many:=1+j) (by nofun) f2;obtain⟨P0,S4,e4,r4,f4,_⟩:=zJl (cs:=cs) (most:=9) f3 (by nofun) (by nofun) (by decide) (by decide);have u4:=r4.ru (by decide) (by nofun) b3 z3;obtain⟨q,S5,e5,q9,f5,_⟩:=zDm (many:=4) (by decide) (by decide) f4;obtain⟨P,S6,x6,u6,f6⟩:∃(P:List (List Pt)) (S6:Store),sIf (tB (eOp eqI (zA2 zA1 (zA0 (eVar 2) (zA0 (eC (.int 4)) aNil))) (eC (.int 0)))) (sSet 3 (zA2 zBj (zA0 (eVar 2) (zA0 (zA2 zAw (zA0 (eVar 2) (zA0 (eOp addD (eC (.int 4)) (zA2 zA1 (zA0 (eVar 2) (zA0 (eC (.int 4)) aNil)))) aNil))) aNil)))) zAt [some (.klst (ns.map D.int)),some (.int (k:Nat)),some (.ref S.length),some (zA3 P0),o4,o5] S4=.nx [some (.klst (ns.map D.int)),some (.int (k:Nat)),some (.ref S.length),some (zA3 P),o4,o5] S6/\Ru P/\Feed S6 S.length:=by
  have t:tB (eOp eqI (zA2 zA1 (zA0 (eVar 2) (zA0 (eC (.int 4)) aNil))) (eC (.int 0))) [some (.klst (ns.map D.int)),some (.int (k:Nat)),some (.ref S.length),some (zA3 P0),o4,o5] S4=.ok (decide ((q:Int)=0)) S5:=by simp_arith [e5,eq_int]
  rw[sIf,t,Rs.then_ok];by_cases z:(q:Int)=0
  ·rw[xf (xx z)];obtain⟨i,S7,e7,i9,f7,_⟩:=zDm (many:=4) (by decide) (by decide) f5;obtain⟨ds,S8,e8,l8,b8,z8,f8,_⟩:=zKe (many:=4+i) (by nofun) f7;obtain⟨P,S9,e9,r9,f9,_⟩:=zUm (cs:=ds) f8 (by nofun) (by nofun);exact⟨P,S9,zGw (ecall2 rfl (ecall2 rfl (yB5 (n:=4) (by simp_arith [e7])) e8) e9),r9.ru (by decide) (by nofun) b8 z8,f9⟩
  ·rw[xg (by simpa using z)];exact⟨P0,S5,rfl,u4,f5⟩
 obtain⟨v,S7,e7,b7,f7,_⟩:=zOe f6;obtain⟨T,S8,e8,d8,b8,f8,_⟩:=zP7 f7;obtain⟨S9,e9,f9,_⟩:=zWa u6 f8;obtain⟨S10,e10,f10,_⟩:=zNt f9 b7.bp b8 d8;have tl:=zSs (S:=S8) u6 b7.bp b8;refine⟨some (.ref S.length),some (zA3 P),some (cel v),some (tb T),S10,zA4 (e:=[some (.klst (ns.map D.int)),some (.int (k:Nat)),some (.ref S.length),o3,o4,o5]) (S1:=S++[.lst [.int own,.int seed]]) (by simp_arith [e1]) (zA4 (zGw (ecall3 rfl (ecall2 rfl (plus1 (by simp_arith [e2])) e3) e4)) (zA4 x6 (zA4 (e:=[some (.klst (ns.map D.int)),some (.int (k:Nat)),some (.ref S.length),some (zA3 P),some (cel v),some (tb T)]) (S1:=S8) (by simp_arith [e7,e8]) (zA4 (e:=[some (.klst (ns.map D.int)),some (.int (k:Nat)),some (.ref S.length),some (zA3 P),some (cel v),some (tb T)]) (S1:=S9) ?_ ?_))))⟩
 ·simp_arith [tTru,tl,tru,e9]
 ·simp_arith [tTru,e10,tru]
theorem zVb :fin [] (.bl v) S=.ok (.bl v) []:=by unfold fin;rw[xf (show keeps ([]:Store).length [] S from trivial),xf (show(D.bl v).low ([]:Store).length=true from rfl)];rfl
theorem law_ok(ns:List Int)(h:ns.length<=63):∃S,zL1 [.klst (ns.map .int)] []=.ok (.bl true) S:=by
 have ln:lenB [] [.klst (ns.map D.int)]=some (.int (ns.length:Nat)):=by show some (D.int ((ns.map D.int).length:Int))=_;rw[xl]
 obtain⟨m,hm,em⟩:=many2 (a1:=none) (a2:=none) (a3:=none) (a4:=none) (a5:=none) ln;obtain⟨env',S',e,_⟩:=zNr (h:=fun(i:Nat)=>D.int (i:Int)) (gd:=[]) (g:=gName 1) (b:=bLw) (λenv _=>∃o1 o2 o3 o4 o5,env=[some (.klst (ns.map D.int)),o1,o2,o3,o4,o5]) (λ_ _ _=>zA9) (List.range m) [some (.klst (ns.map D.int)),none,none,none,none,none] [] ⟨_,_,_,_,_,rfl⟩ (λi hi env S' hh=>by
  obtain⟨o1,o2,o3,o4,o5,rfl⟩:=hh;have:=vx.mp hi;obtain⟨p2,p3,p4,p5,S2,e2⟩:=zSo (S:=S') (ns:=ns) (k:=i) (o2:=o2) (o3:=o3) (o4:=o4) (o5:=o5) (by nofun);exact⟨_,_,S2,rfl,e2,_,_,_,_,_,rfl⟩)
 refine⟨[],?_⟩;unfold zL1 zAk;rw[xf (show [D.klst (ns.map .int)].length=1 from rfl)]
 suffices hb':zWg ([D.klst (ns.map .int)].map some++List.replicate (6-1) none) []=.rt (.bl true) S' by rw[hb'];exact zVb
 refine zA4 (e:=env') (S1:=S') ?_ rfl;show sFor _ (gName 1) bLw [some (.klst (ns.map .int)),none,none,none,none,none] []=_;rw[sFor,zAz em (by nofun),Rs.then_ok];exact e
end
end DP
namespace Law
open PySem PySem.Spec PyProof.Rows L2
noncomputable abbrev n_0:List Str:=["plain","island","bits","masks","around","known","mask"]
noncomputable abbrev n_1:List Str:=["cell","known","around"]
noncomputable abbrev n_2:List Str:=["_law_k","_law_cell_here","_law_mask"]
noncomputable abbrev n_3:List Str:=["_law_rows","_law_unlike","_law_found","_law_row_here"]
noncomputable abbrev n_4:List Str:=["_law_feed_here","_law_cells_here","_law_most","_law_masks"]
noncomputable abbrev n_5:List Str:=["_law_k","_law_feed_here","_law_cells_here"]
noncomputable abbrev n_6:List Str:=["_law_feed_here","_law_a","_law_b","_law_c","_law_d"]
noncomputable abbrev n_7:List Str:=["_law_feed_here","_law_far","_law_cells_here"]
noncomputable abbrev n_8:List Str:=["_law_k","_law_far","_law_feed_here"]
noncomputable abbrev n_9:List Str:=["_law_plain_here","_law_by","_law_one","_law_due","_law_turn"]
noncomputable abbrev n_10:List Str:=["_law_feed_here","_law_plain_here","_law_one","_law_other","_law_left","_law_right","_law_both"]
noncomputable abbrev n_11:List Str:=["_law_feed_here","_law_by","_law_table_here","_law_plain_here","_law_island_here","_law_stepped","_law_due","_law_away"]
noncomputable abbrev n_12:List Str:=["_law_feed_here","_law_cells_here","_law_size","_law_masks"]
noncomputable abbrev n_13:List Str:=["_law_mask","_law_size","_law_cells_here"]
noncomputable abbrev n_14:List Str:=["rows","bits","bit","row","cell"]
noncomputable abbrev n_15:List Str:=["row","bits","mask","cell"]
noncomputable abbrev n_16:List Str:=["bits","island","around","beside","bit","broken","cell"]
noncomputable abbrev n_17:List Str:=["_law_script","_law_k","_law_cell_here","_law_own"]
noncomputable abbrev n_18:List Str:=["_law_feed_here","_law_many_here","_law_digit","_law_one"]
noncomputable abbrev n_19:List Str:=["_law_feed_here","_law_cells_here","_law_most"]
noncomputable abbrev n_20:List Str:=["_law_feed_here","_law_many_here","_law_found","_law_k","_law_spot"]
noncomputable abbrev n_21:List Str:=["_law_feed_here","_law_many_here","_law_found","_law_k","_law_x","_law_y"]
noncomputable abbrev n_22:List Str:=["_law_plain_here","_law_by","_law_one"]
noncomputable abbrev n_23:List Str:=["_law_feed_here","_law_by","_law_table_here"]
noncomputable abbrev n_24:List Str:=["_law_script","_law_k","_law_feed_here","_law_plain_here","_law_by","_law_table_here"]
noncomputable def top (i:Nat):Stmt:=PySem.Challenge.pw_healfloor_k51_rules_carried_and_led.main.body.getD i (.Pass ⟨0,0,0,0⟩)
noncomputable abbrev kD (P:Params) (l:List (Str × Tok × Value)):Array DictEntry:=(l.map λx=>⟨PyData.keyHash P x.1,.str x.1 x.2.1,x.2.2⟩).toArray
noncomputable abbrev mA_:Value:=(.str "healfloor.cells" 187)
noncomputable abbrev mB_:Value:=(.str "healfloor.rows" 235)
noncomputable abbrev mC_:Value:=(.str "healfloor.beats" 284)
noncomputable abbrev mD_:Value:=(.str "law_healfloor_k51_rules_carried_and_led" 305)
noncomputable abbrev mE_:Value:=(.str "healfloor.islands" 219)
noncomputable abbrev mF_:Value:=(.str "healfloor.changes" 270)
noncomputable abbrev cO (x f:Str) (t:Tok) (l n c:Int) (a:Addr) (g:Int) (v:List Value) (k:Int) (u:Tok):Obj:=⟨.type "code",none,.fields (([.str x t,.str x (t+1),.str f (t+2),.int l 0,.int n 0,.int 0 0,.int 0 0,.int c 0,.ref a,.bool true,.int g 0]:List Value)++v++([.int k 0,.int l 0,.str f u]:List Value)).toArray,#[]⟩
noncomputable def KF (P:Params):PySem.W.Frag:=[
 (3,⟨(.type "dict"),none,(.dict (kD P (List.append [("__name__",165,(.str "law_healfloor_k51_rules_carried_and_led" 305)),("__doc__",166,.none),("__package__",167,.none),("__loader__",168,(.builtin "__main__.__loader__#opaque")),("__spec__",169,.none),("__annotations__",170,(.ref 6)),("__builtins__",171,(.ref 4)),("__file__",173,(.str "/claim/cut.py" 172)),("__cached__",174,.none),("worth",196,(.ref 21)),("led",204,(.ref 28)),("each_led",210,(.ref 33)),("carried",218,(.ref 40)),("island_carried",226,(.ref 45)),("island_led",234,(.ref 52)),("bits_of",247,(.ref 59)),("mask_of",257,(.ref 66)),("masks_of",263,(.ref 71)),("has_within",269,(.ref 76)),("plain_carried",277,(.ref 81)),("plain_led",283,(.ref 86))] [("beat",291,(.ref 91)),("masks_around",304,(.ref 98)),("_law_feed",316,(.ref 105)),("_law_take",326,(.ref 112)),("_law_cell",334,(.ref 119)),("_law_cells",346,(.ref 126)),("_law_row",352,(.ref 131)),("_law_least",358,(.ref 136)),("_law_plain",364,(.ref 141)),("_law_table",370,(.ref 146)),("_law_carried",378,(.ref 153)),("_law_led",386,(.ref 160)),("_law_near",397,(.ref 167)),("_law_island",403,(.ref 172)),("_law_sorted",409,(.ref 177)),("_law_told",415,(.ref 182)),("_law_both_tables",421,(.ref 187)),("_law_floors_along",427,(.ref 192)),("_law_many",433,(.ref 197)),("law",445,(.ref 204))])) 41),#[]⟩),
 (20,cO "worth" "/claim/cut.py" 189 2 2 3 15 181 [.ref 16,.none,.ref 17,.ref 18,.ref 19] 194 195),
 (21,fO "worth" (top 1) mA_ 20),
 (27,cO "led" "/claim/cut.py" 197 4 2 3 22 181 [.ref 23,.none,.ref 24,.ref 25,.ref 26] 202 203),
 (28,fO "led" (top 2) mA_ 27),
 (32,cO "each_led" "/claim/cut.py" 205 6 2 3 29 181 [.ref 30,.none,.none,.none,.ref 31] 208 209),
 (33,fO "each_led" (top 3) mA_ 32),
 (39,cO "carried" "/claim/cut.py" 211 8 2 3 34 181 [.ref 35,.none,.ref 36,.ref 37,.ref 38] 216 217),
 (40,fO "carried" (top 4) mA_ 39),
 (44,cO "island_carried" "/claim/cut.py" 221 11 2 3 41 181 [.ref 42,.none,.none,.none,.ref 43] 224 225),
 (45,fO "island_carried" (top 6) mE_ 44),
 (51,cO "island_led" "/claim/cut.py" 227 13 2 3 46 181 [.ref 47,.none,.ref 48,.ref 49,.ref 50] 232 233),
 (52,fO "island_led" (top 7) mE_ 51),
 (58,cO "bits_of" "/claim/cut.py" 237 16 1 3 53 181 [.ref 54,.none,.ref 55,.ref 56,.ref 57] 245 246),
 (59,fO "bits_of" (top 9) mB_ 58),
 (65,cO "mask_of" "/claim/cut.py" 248 25 2 3 60 181 [.ref 61,.none,.ref 62,.ref 63,.ref 64] 255 256),
 (66,fO "mask_of" (top 10) mB_ 65),
 (70,cO "masks_of" "/claim/cut.py" 258 30 2 3 67 181 [.ref 68,.none,.none,.none,.ref 69] 261 262),
 (71,fO "masks_of" (top 11) mB_ 70),
 (75,cO "has_within" "/claim/cut.py" 264 32 2 3 72 181 [.ref 73,.none,.none,.none,.ref 74] 267 268),
 (76,fO "has_within" (top 12) mB_ 75),
 (80,cO "plain_carried" "/claim/cut.py" 272 35 2 3 77 181 [.ref 78,.none,.none,.none,.ref 79] 275 276),
 (81,fO "plain_carried" (top 14) mF_ 80),
 (85,cO "plain_led" "/claim/cut.py" 278 37 2 3 82 181 [.ref 83,.none,.none,.none,.ref 84] 281 282),
 (86,fO "plain_led" (top 15) mF_ 85),
 (90,cO "beat" "/claim/cut.py" 286 40 2 3 87 181 [.ref 88,.none,.none,.none,.ref 89] 289 290),
 (91,fO "beat" (top 17) mC_ 90),
 (97,cO "masks_around" "/claim/cut.py" 292 49 2 3 92 181 [.ref 93,.none,.ref 94,.ref 95,.ref 96] 302 303),
 (98,fO "masks_around" (top 18) mC_ 97),
 (104,cO "_law_feed" "/claim/cut.py" 307 57 2 3 99 181 [.ref 100,.none,.ref 101,.ref 102,.ref 103] 314 315),
 (105,fO "_law_feed" (top 20) mD_ 104),
 (111,cO "_law_take" "/claim/cut.py" 317 67 2 3 106 181 [.ref 107,.none,.ref 108,.ref 109,.ref 110] 324 325),
 (112,fO "_law_take" (top 21) mD_ 111),
 (118,cO "_law_cell" "/claim/cut.py" 327 75 1 3 113 181 [.ref 114,.none,.ref 115,.ref 116,.ref 117] 332 333),
 (119,fO "_law_cell" (top 22) mD_ 118),
 (125,cO "_law_cells" "/claim/cut.py" 335 78 2 3 120 181 [.ref 121,.none,.ref 122,.ref 123,.ref 124] 344 345),
 (126,fO "_law_cells" (top 23) mD_ 125),
 (130,cO "_law_row" "/claim/cut.py" 347 86 2 3 127 181 [.ref 128,.none,.none,.none,.ref 129] 350 351),
 (131,fO "_law_row" (top 24) mD_ 130),
 (135,cO "_law_least" "/claim/cut.py" 353 88 1 3 132 181 [.ref 133,.none,.none,.none,.ref 134] 356 357),
 (136,fO "_law_least" (top 25) mD_ 135),
 (140,cO "_law_plain" "/claim/cut.py" 359 95 3 3 137 181 [.ref 138,.none,.none,.none,.ref 139] 362 363),
 (141,fO "_law_plain" (top 26) mD_ 140),
 (145,cO "_law_table" "/claim/cut.py" 365 98 1 3 142 181 [.ref 143,.none,.none,.none,.ref 144] 368 369),
 (146,fO "_law_table" (top 27) mD_ 145),
 (152,cO "_law_carried" "/claim/cut.py" 371 103 2 3 147 181 [.ref 148,.none,.ref 149,.ref 150,.ref 151] 376 377),
 (153,fO "_law_carried" (top 28) mD_ 152),
 (159,cO "_law_led" "/claim/cut.py" 379 105 2 3 154 181 [.ref 155,.none,.ref 156,.ref 157,.ref 158] 384 385),
 (160,fO "_law_led" (top 29) mD_ 159),
 (166,cO "_law_near" "/claim/cut.py" 387 107 2 3 161 181 [.ref 162,.none,.ref 163,.ref 164,.ref 165] 395 396),
 (167,fO "_law_near" (top 30) mD_ 166),
 (171,cO "_law_island" "/claim/cut.py" 398 115 1 3 168 181 [.ref 169,.none,.none,.none,.ref 170] 401 402),
 (172,fO "_law_island" (top 31) mD_ 171),
 (176,cO "_law_sorted" "/claim/cut.py" 404 119 1 3 173 181 [.ref 174,.none,.none,.none,.ref 175] 407 408),
 (177,fO "_law_sorted" (top 32) mD_ 176),
 (181,cO "_law_told" "/claim/cut.py" 410 121 3 3 178 181 [.ref 179,.none,.none,.none,.ref 180] 413 414),
 (182,fO "_law_told" (top 33) mD_ 181),
 (186,cO "_law_both_tables" "/claim/cut.py" 416 129 2 3 183 181 [.ref 184,.none,.none,.none,.ref 185] 419 420),
 (187,fO "_law_both_tables" (top 34) mD_ 186),
 (191,cO "_law_floors_along" "/claim/cut.py" 422 138 3 3 188 181 [.ref 189,.none,.none,.none,.ref 190] 425 426),
 (192,fO "_law_floors_along" (top 35) mD_ 191),
 (196,cO "_law_many" "/claim/cut.py" 428 149 2 3 193 181 [.ref 194,.none,.none,.none,.ref 195] 431 432),
 (197,fO "_law_many" (top 36) mD_ 196),
 (203,cO "law" "/claim/cut.py" 434 153 1 3 198 181 [.ref 199,.none,.ref 200,.ref 201,.ref 202] 443 444),
 (204,fO "law" (top 37) mD_ 203)]
noncomputable def view:Program:={ PySem.Challenge.pw_healfloor_k51_rules_carried_and_led with main:={ PySem.Challenge.pw_healfloor_k51_rules_carried_and_led.main with body:=[1,2,3,4,6,7,9,10,11,12,14,15,17,18,20,21,22,23,24,25,26,27,28,29,30,31,32,33,34,35,36,37].map top } }
noncomputable abbrev hk:PySem.W.Hook:=PySem.W.kHook KF [3,20,21,27,28,32,33,39,40,44,45,51,52,58,59,65,66,70,71,75,76,80,81,85,86,90,91,97,98,104,105,111,112,118,119,125,126,130,131,135,136,140,141,145,146,152,153,159,160,166,167,171,172,176,177,181,182,186,187,191,192,196,197,203,204] (λ_=>by kernel_rfl)
theorem left:PySem.W.LeftO PySem.Challenge.pw_healfloor_k51_rules_carried_and_led view [] (λs=>PySem.W.xlAt view [] s && PySem.W.recOk [] s) (PySem.W.Hook.obs hk) (PySem.W.Hook.val hk) 2068:=λw=>by kernel_rfl
noncomputable abbrev CC (x:Str) (k:Nat) (ps:List Str) (F:DS.Fn):Prop:=∀{w:World}{mg:Str->Option Value}{base:Heap},Gd (KF w.params) mg->Cal PySem.Challenge.pw_healfloor_k51_rules_carried_and_led w (KF w.params) mg base x k ps (spOf (KF w.params) XE0 F)
set_option hygiene false in
local macro_rules | `(tactic| ac_rfl) => `(tactic| (intro cdv A outer s H E hr; (first | refine zK8 ?_ ?_ | refine zGh (zNx ?_) | refine zGh (zSe ?_ ?_ ?_) | refine zGh ?_); repeat' (first
 | with_reducible (show DE _ _ _ _ _;first|apply zZn|apply yA3|apply yA1|apply zVm|apply yA2|apply yC5|(apply yBz;first|apply zUc|apply zU7|apply zYb|apply zUb|apply zU2|apply zU8|apply zU5|apply zQb|apply zU3|apply zU4)|(apply yA4;first|apply zS1|apply zS0)|(apply yC2;first|apply ix_D)|(apply yBy;first|apply sl_D)|(apply yBs;first|apply zLc|apply zLa|apply zL9|apply zOk|apply zL7|apply zOg|apply zL8)|(apply yBr;first|apply zHd)|(apply zZq;exact yAw;apply zUi)|(apply zZq;exact zPg;apply zKr)|apply yC0)
 | with_reducible (show DA _ _ _ _ _;first|apply zW3|apply yA5)
 | with_reducible (show DT _ _ _ _ _;first|apply zZs|(apply zZt;first|apply zMq|apply zU9|apply zYf|apply zYg|apply zYe|apply zS1|apply zYh|apply zYc|apply zS0)|apply zZr|apply dt_w)
 | with_reducible (show DW _ _ _ _ _;first|apply zZm|apply zVi|apply yBp|apply zZl)
 | with_reducible (show DF _ _ _ _ _;first|apply zVl|apply zVz|apply zW0|apply zZz|apply zZy|(apply yBq;first|apply zGj))
 | with_reducible (show DG _ _ _ _;first|apply zVk|apply zZx)
 | with_reducible (show DGs _ _ _ _;first|apply zR8|apply zVx)
 | with_reducible (show DIf _ _ _ _ _;first|apply zVu|apply zVt)
 | with_reducible (show DI _ _ _ _ _ _;first|apply zZw|apply zNy|apply zVv|apply zR7|apply zNz|apply zVw)
 | with_reducible (show DS1 _ _ _ _ _;first|apply zNx|apply zVq|apply zSe|(apply zZo;kernel_rfl!)|apply zNw|apply zR4|(apply zVj;kernel_rfl!)|apply zR3|apply zZp|(apply zVp;first|apply yAv))
 | with_reducible (show DSs _ _ _ _ _;first|apply zK8|apply zGh|apply zVr)
 | with_reducible (show DO _ _ _ _ _;first|apply yBu|apply zZu)
 | exact G.z _ (by kernel_rfl)
 | kernel_rfl
 | exact PassesOwn.never
 | exact zFz (by kernel_rfl)
 | exact hr.units
 | exact yBm hr
 | exact hr.units0
 | exact hr.mono (by decide)
 | exact zW7 G
 | exact zOm G
 | exact zOn G
 | exact zOl G
 | exact zHi G
 | exact zF5 G
 | exact zIw G
 | exact zIt G
 | exact zLg G
 | exact zHl G
 | exact zF6 G
 | exact zLh G
 | exact zGk G
 | exact yCa G
 | exact zDy G
 | exact zLe G
 | exact zIx G
 | exact zHk G
 | exact zHj G
 | exact zIu G
 | exact zGl G
 | exact zIv G
 | exact zLf G
 | exact zEv G
 | exact yAb G
 | exact zHm G
 | exact zHh G
 | exact zIr G
 | exact zIs G
 | exact zDa G
 | exact zCu G
 | exact .inl rfl
 | exact .inr rfl
 | exact .inr (.inl rfl)
 | exact .inr (.inr rfl)
 | decide
 | exact nomark _
 | with_unfolding_all rfl
 | intro _ _ _ _ _)))
theorem zW7:CC "worth" 1 ["slope","cell"] DP.zEq:=λG=>zB3 G 21 20 (top 1) mA_ ["slope","cell"] (by ac_rfl)
theorem zOm:CC "carried" 1 ["cell","by"] DP.zD3:=λG=>zB3 G 40 39 (top 4) mA_ ["cell","by"] (by ac_rfl)
theorem zOn:CC "bits_of" 1 ["rows"] DP.zEr:=λG=>zB3 G 59 58 (top 9) mB_ n_14 (by ac_rfl)
theorem zOl:CC "mask_of" 1 ["row","bits"] DP.zD2:=λG=>zB3 G 66 65 (top 10) mB_ n_15 (by ac_rfl)
theorem zHi:CC "has_within" 1 ["mask","others"] DP.zBm:=λG=>zB3 G 76 75 (top 12) mB_ ["mask","others"] (by ac_rfl)
theorem zF5:CC "masks_around" 1 ["bits","island"] DP.zBt:=λG=>zB3 G 98 97 (top 18) mC_ n_16 (by ac_rfl)
theorem zIw:CC "_law_feed" 1 ["_law_script","_law_k"] DP.zC7:=λG=>yC9 G 105 104 (top 20) mD_ n_17 (by ac_rfl)
theorem zIt:CC "_law_take" 1 ["_law_feed_here","_law_many_here"] DP.zA1:=λG=>zB3 G 112 111 (top 21) mD_ n_18 (by ac_rfl)
theorem zLg:CC "_law_row" 1 ["_law_cells_here","_law_mask"] DP.zBd:=λG=>zB3 G 131 130 (top 24) mD_ ["_law_cells_here","_law_mask"] (by ac_rfl)
theorem zHl:CC "_law_least" 1 ["_law_rows"] DP.zCf:=λG=>zB3 G 136 135 (top 25) mD_ n_3 (by ac_rfl)
theorem zF6:CC "_law_carried" 1 ["_law_cell_here","_law_by"] DP.zAh:=λG=>zB3 G 153 152 (top 28) mD_ ["_law_cell_here","_law_by"] (by ac_rfl)
theorem zLh:CC "_law_led" 1 ["_law_table_here","_law_cell_here"] DP.zAd:=λG=>zB3 G 160 159 (top 29) mD_ ["_law_table_here","_law_cell_here"] (by ac_rfl)
theorem zGk:CC "_law_sorted" 1 ["_law_rows"] DP.zAq:=λG=>zB3 G 177 176 (top 32) mD_ ["_law_rows"] (by ac_rfl)
theorem yCa:CC "led" 2 ["table","cell"] DP.zQz:=λG=>zB3 G 28 27 (top 2) mA_ ["table","cell"] (by ac_rfl)
theorem zDy:CC "island_carried" 2 ["island","by"] DP.zB1:=λG=>zB3 G 45 44 (top 6) mE_ ["island","by"] (by ac_rfl)
theorem zLe:CC "masks_of" 2 ["rows","bits"] DP.zDi:=λG=>zB3 G 71 70 (top 11) mB_ ["rows","bits"] (by ac_rfl)
theorem zIx:CC "_law_cell" 2 ["_law_feed_here"] DP.zB2:=λG=>zB3 G 119 118 (top 22) mD_ ["_law_feed_here","_law_far"] (by ac_rfl)
theorem zHk:CC "_law_plain" 2 n_19 DP.zB5:=λG=>zB3 G 141 140 (top 26) mD_ n_4 (by ac_rfl)
theorem zHj:CC "_law_table" 2 ["_law_feed_here"] DP.zBn:=λG=>zB3 G 146 145 (top 27) mD_ n_6 (by ac_rfl)
theorem zIu:CC "_law_near" 2 ["_law_feed_here","_law_many_here"] DP.zC5:=λG=>zB3 G 167 166 (top 30) mD_ n_20 (by ac_rfl)
theorem zGl:CC "_law_island" 2 ["_law_feed_here"] DP.zC6:=λG=>zB3 G 172 171 (top 31) mD_ n_7 (by ac_rfl)
theorem zIv:CC "_law_many" 2 ["_law_feed_here","_law_cells_here"] DP.zBj:=λG=>zB3 G 197 196 (top 36) mD_ n_12 (by ac_rfl)
theorem zLf:CC "each_led" 3 ["table","cells"] DP.zDj:=λG=>zB3 G 33 32 (top 3) mA_ ["table","cells"] (by ac_rfl)
theorem zEv:CC "plain_carried" 3 ["plain","by"] DP.zAj:=λG=>zB3 G 81 80 (top 14) mF_ ["plain","by"] (by ac_rfl)
theorem yAb:CC "beat" 3 ["plain","island"] DP.zD4:=λG=>zB3 G 91 90 (top 17) mC_ n_0 (by ac_rfl)
theorem zHm:CC "_law_cells" 3 ["_law_feed_here","_law_many_here"] DP.zAw:=λG=>zB3 G 126 125 (top 23) mD_ n_21 (by ac_rfl)
theorem zHh:CC "island_led" 4 ["island","table"] DP.zBl:=λG=>zB3 G 52 51 (top 7) mE_ ["island","table"] (by ac_rfl)
theorem zIr:CC "plain_led" 5 ["plain","table"] DP.zAn:=λG=>zB3 G 86 85 (top 15) mF_ ["plain","table"] (by ac_rfl)
theorem zIs:CC "_law_told" 6 n_22 DP.zC4:=λG=>zB3 G 182 181 (top 33) mD_ n_9 (by ac_rfl)
theorem zDa:CC "_law_both_tables" 6 ["_law_feed_here","_law_plain_here"] DP.zAs:=λG=>zB3 G 187 186 (top 34) mD_ n_10 (by ac_rfl)
theorem zCu:CC "_law_floors_along" 6 n_23 DP.zAr:=λG=>zB3 G 192 191 (top 35) mD_ n_11 (by ac_rfl)
theorem yCi:CC "law" 7 ["_law_script"] DP.zL1:=λG=>zB3 G 204 203 (top 37) mD_ n_24 (by ac_rfl)
theorem walk{l:PySem.W.OpenLaw}{q:Program}{loose:List Str}{XP:(Str->Option Value)->Heap->Prop}{YP:World->Heap->Prop}{d:DefRec}{K:Params->PySem.W.Frag}(hn:l.most=some 63)(hdf:d.params.defaults=[])
  (hY:∀(w:World) (h:Heap),YP w h->(K w.params).In h)
  (F:∀(w:World) (mg:Str->Option Value) (fa:Addr) (h:Heap),(K w.params).In h->h.Ns mainGlobals mg->mg d.name=some (.ref fa)->
   ∃fd:FuncData,(∀(s:Shared) (u:Value),BindsTo s fd ⟨[u],[]⟩ [("_law_script",u)])/\∀base:Heap,(K w.params).In base->base.Ns mainGlobals mg->FnOk l.prog w (K w.params) mg base CX0 7 fa fd ["_law_script"] (spOf (K w.params) XE0 DP.zL1)):
  PySem.W.WalkO q loose XP YP l.row.toRowW d [] (λf vs=>PySem.call f vs):=
 L2.walk_of (n:=63) (k:=7) (x:="_law_script") (CX:=λ_=>CX0) (sp:=λw=>spOf (K w.params) XE0 DP.zL1) hn (by decide) hdf ⟨rfl,by decide,by decide⟩ hY F (λ_ _ a ns hl _ hS=>zM4 (DP.law_ok ns hl) hS) λ_ _ _ _ _ z=>z
noncomputable abbrev dl:DefRec:=⟨"law",zC9 (top 37),zB8 (top 37),zA8 (top 37),match top 37 with|.FunctionDef _ _ _ _ _ _ _ _ _ p=>p|_=>⟨0,0,0,0⟩⟩
theorem all_mk{w:World}{h:Heap}{mg:Str->Option Value}(X:(KF w.params).In h)(G:h.Ns mainGlobals mg)(hfa:mg "law"=some (.ref fa)):∃fd:FuncData,(∀(s:Shared) (v:Value),BindsTo s fd ⟨[v],[]⟩ [("_law_script",v)])/\∀base:Heap,(KF w.params).In base->base.Ns mainGlobals mg->FnOk PySem.Challenge.pw_healfloor_k51_rules_carried_and_led w (KF w.params) mg base CX0 7 fa fd ["_law_script"] (spOf (KF w.params) XE0 DP.zL1):=by
 have D:Gd (KF w.params) mg:=⟨λx v e=>PySem.W.mg_of X G e,λx e=>PySem.W.mg_none_of X G e⟩;have F:=zNm (K:=KF w.params) (f:=204) (cd:=203) (x:="law") (tq:=top 37) (pm:=mD_) (by kernel_rfl) (by kernel_rfl) (by kernel_rfl);have e:=hfa.symm.trans (D.a "law" (.ref 204) (by kernel_rfl));cases e;refine⟨_,λs v=>.of_eq rfl,λbase _ _=>fn_d F (zI1 (N:=n_24) (by kernel_rfl)) rfl rfl (b:=DP.zWg) ?_⟩;have G:=D
 ac_rfl
end Law
open PySem PySem.W PyProof.Rows
set_option maxRecDepth 100000 in
theorem PySem.Challenge.cw_healfloor_k51_rules_carried_and_led_holds : PySem.Challenge.rw_healfloor_k51_rules_carried_and_led.Holds := by
 refine PySem.W.holds_law (by decide +kernel) fun said=>PySem.W.holds_open (r:=PySem.W.OpenLaw.row PySem.Challenge.rw_healfloor_k51_rules_carried_and_led) (q:=Law.view) (loose:=[]) (Xt:=fun s=>xlAt Law.view [] s && recOk [] s) (XP:=XL Law.view []) (YP:=Hook.says Law.hk) (d:=Law.dl) (kwd:=[]) Law.left (Hook.of Law.hk) (Hook.keeps Law.hk) (fun s e=>xl_of s (Bool.and_eq_true_iff.mp e).1) XL.keeps (by kernel_rfl) (by kernel_rfl) (by kernel_rfl) (fun s e=>recFacts_of (Bool.and_eq_true_iff.mp e).2) (by kernel_rfl) said (by decide +kernel) ⟨by kernel_rfl,by kernel_rfl,by kernel_rfl,by kernel_rfl,by kernel_rfl,by decide +kernel⟩ ?hw ?hc
 case hw=>w_witness2
 case hc=>exact Law.walk (l:=PySem.Challenge.rw_healfloor_k51_rules_carried_and_led) (K:=Law.KF) (by kernel_rfl) (by kernel_rfl) (fun w h Y=>PySem.W.kIn_of Y) fun w mg fa h KX G hmg=>Law.all_mk KX G hmg
