import PyProof.Rows.All
import Wide.All
import OpenK.AllK
import Wide.FinOn
import Lean
import PyProof.EqAt
import PyProof.EqKinds
import PyProof.TupleCall
import PyProof.NeKinds
import PyProof.ZipIter
import KE.KSortTup
import PyProof.TupleKey
import PyProof.SetKind
import PyProof.IsRules
import PyProof.Rows.SetFrom
import PyProof.Rows.SortShell
import KE.KDictList
import KE.KDictSum
import PyProof.MinMaxWalk
import PyProof.Rows.CallKwBuiltin
import PyProof.TupleIter
import KE.KIntText
import PyProof.Rows.StrWeight2
import PyProof.Rows.StrNews
import PyProof.StrWalks
import PyProof.FString5
import PyProof.SliceStr2
import PyProof.FitsReplace
import PyProof.Rows.StrSplitCount
import PySem.Str
import PyProof.Rows.SortRuns
import PyProof.SetRoads
import PyProof.Draws
import PyProof.EnumStmt
import PyProof.Rows.EnumRows
import KE.KSortKey
import PyProof.ReprRoads
import PyProof.ReprBulk
import PyProof.Rows.ReprShort
import PySem.Challenge.RW_healfloor_k31_least_rows
set_option bootstrap.genMatcherCode false
set_option genSizeOf false
set_option compiler.extract_closed false
local macro_rules|`(tactic|nofun)=>`(tactic|first|assumption|lia)
noncomputable abbrev xa:=@PySem.wpAny_bind
noncomputable abbrev xc:=@if_pos
noncomputable abbrev xf:=@if_neg
noncomputable abbrev xg:=@PySem.wpAny_pure
noncomputable abbrev xh:=@Nat.le_refl
noncomputable abbrev xi:=@PySem.Heap.lt_size
noncomputable abbrev xj:=@decide_eq_false
noncomputable abbrev xk:=@List.mem_cons
noncomputable abbrev xl:=@PySem.Heap.get?_push_of_some
noncomputable abbrev xm:=@Nat.le_trans
noncomputable abbrev xn:=@List.size_toArray
noncomputable abbrev xo:=@List.length_map
noncomputable abbrev xp:=@List.getElem?_eq_getElem
noncomputable abbrev xq:=@decide_eq_true
noncomputable abbrev xr:=@List.map_cons
noncomputable abbrev xt:=@List.mem_map
noncomputable abbrev xu:=@Nat.ne_of_lt
noncomputable abbrev xv:=@PySem.Heap.get?_push_size
noncomputable abbrev xw:=@if_true
noncomputable abbrev xx:=@PyProof.Rows.wpS_bind
noncomputable abbrev xy:=@Nat.lt_of_lt_of_le
noncomputable abbrev xA:=@Bool.and_eq_true
noncomputable abbrev xB:=@Ne.symm
noncomputable abbrev xC:=@Nat.zero_le
noncomputable abbrev xD:=@Option.some.inj
noncomputable abbrev xE:=@List.getElem?_eq_some_iff
noncomputable abbrev xF:=@PyProof.Rows.wpS_pure
noncomputable abbrev xG:=@PySem.wpAny_holding
noncomputable abbrev xH:=@List.length_cons
noncomputable abbrev xI:=@List.mem_singleton
noncomputable abbrev xJ:=@PySem.sizeLine_eq
noncomputable abbrev xK:=@if_false
noncomputable abbrev xM:=@List.mem_cons_self
noncomputable abbrev xN:=@Nat.lt_or_ge
noncomputable abbrev xO:=@Nat.le_of_lt
noncomputable abbrev xP:=@List.mem_append
noncomputable abbrev xQ:=@Bool.false_ne_true
noncomputable abbrev xR:=@Bool.false_eq_true
noncomputable abbrev xS:=@decide_eq_decide
noncomputable abbrev xT:=@PySem.F.called_set
noncomputable abbrev xU:=@List.nodup_cons
noncomputable abbrev xV:=@List.lookup_cons
noncomputable abbrev xW:=@List.getElem?_cons_zero
noncomputable abbrev xX:=@Nat.lt_irrefl
noncomputable abbrev xY:=@List.mem_range
noncomputable abbrev xZ:=@List.mem_cons_of_mem
noncomputable abbrev x8:=@PySem.wpAny_mono
noncomputable abbrev vc:=@List.mem_append_right
noncomputable abbrev vd:=@List.length_append
noncomputable abbrev ve:=@PySem.wpAny_call_entry
noncomputable abbrev vf:=@PySem.wpAny_newObj_type
noncomputable abbrev vg:=@List.nodup_nil
noncomputable abbrev vh:=@Array.getElem?_eq_getElem
noncomputable abbrev vi:=@Array.getD_eq_getD_getElem?
noncomputable abbrev vj:=@PySem.W.mg_of
noncomputable abbrev vk:=@Nat.mod_lt
noncomputable abbrev vm:=@Array.getElem?_eq_some_iff
noncomputable abbrev vn:=@Int.toNat_natCast
noncomputable abbrev vo:=@PySem.boot_len
noncomputable abbrev vp:=@PySem.Heap.size_push
noncomputable abbrev vq:=@List.getElem?_append_left
noncomputable abbrev vt:=@List.getElem?_map
noncomputable abbrev vv:=@PySem.wpAny_field
noncomputable abbrev vw:=@PySem.W.mg_none_of
noncomputable abbrev vx:=@Array.length_toList
noncomputable abbrev vy:=@List.append_nil
noncomputable abbrev vz:=@List.length_take
noncomputable abbrev vA:=@PyProof.Rows.slot_tuple_getitem
noncomputable abbrev vB:=@List.pairwise_cons
noncomputable abbrev vC:=@Classical.byContradiction
noncomputable abbrev vD:=@Int.emod_lt_of_pos
noncomputable abbrev vE:=@Int.emod_nonneg
noncomputable abbrev vF:=@PySem.PassesOwn.never
noncomputable abbrev vG:=@Bool.eq_iff_iff
noncomputable abbrev vH:=@List.getElem?_append_right
noncomputable abbrev vI:=@List.map_nil
noncomputable abbrev vJ:=@PySem.wpAny_callSpecial?_slot
noncomputable abbrev vK:=@PySem.Heap.get?_update_other
noncomputable abbrev vL:=@List.getD_eq_getElem?_getD
noncomputable abbrev vM:=@List.all_cons
noncomputable abbrev vN:=@List.length_range
noncomputable abbrev vO:=@PySem.Heap.SameBut.update
noncomputable abbrev vP:=@PySem.wpAny_rule
noncomputable abbrev vQ:=@List.getElem?_cons_succ
noncomputable abbrev vR:=@List.getElem?_set_self
noncomputable abbrev vS:=@List.getElem?_set_ne
noncomputable abbrev vT:=@Nat.lt_trans
noncomputable abbrev vU:=@Nat.lt_succ_of_lt
noncomputable abbrev vV:=@List.mem_iff_getElem
noncomputable abbrev vW:=@Nat.zero_add
noncomputable abbrev vX:=@PySem.wpAny_setState_of
noncomputable abbrev vY:=@List.mem_filter
noncomputable abbrev vZ:=@List.filterMap_cons
noncomputable abbrev v3:=@List.mem_append_left
noncomputable abbrev v5:=@PySem.wpAny_passesOwn
noncomputable abbrev v7:=@PySem.wpAny_truthy_bool
noncomputable abbrev v8:=@PySem.codeAny_mono
noncomputable abbrev v9:=@PySem.wpAny_typeOf
noncomputable abbrev ua:=@List.all_eq_true
noncomputable abbrev ub:=@Option.map_some
noncomputable abbrev uc:=@List.zip_cons_cons
noncomputable abbrev ud:=@List.map_map
noncomputable abbrev ue:=@PySem.codeAny_builtin
noncomputable abbrev uf:=@List.getElem?_eq_none
noncomputable abbrev ug:=@List.map_append
noncomputable abbrev uh:=@PySem.wpAny_forIn_list
noncomputable abbrev ui:=@Bool.not_true
noncomputable abbrev uj:=@List.filter_cons_of_pos
noncomputable abbrev uk:=@List.pairwise_map
noncomputable abbrev uo:=@PyProof.Rows.listUpdate_at
noncomputable abbrev uq:=@List.mem_filterMap
noncomputable abbrev ur:=@PySem.wpAny_Call_Name_kw
noncomputable abbrev uu:=@PySem.mem_of_lookup
noncomputable abbrev uv:=@List.getElem?_take_of_lt
noncomputable abbrev uw:=@List.mem_of_getElem?
noncomputable abbrev uy:=@List.find?_cons
noncomputable abbrev uz:=@PySem.Heap.get?_update_self
noncomputable abbrev uA:=@Nat.le_of_not_lt
noncomputable abbrev uB:=@beq_self_eq_true
noncomputable abbrev uC:=@List.mem_iff_getElem?
noncomputable abbrev uD:=@PySem.wpAny_specialOf
noncomputable abbrev uE:=@PySem.Obj.data_mapFields
noncomputable abbrev uF:=@PySem.wpAny_isInstance
noncomputable abbrev uG:=@List.cons.inj
noncomputable abbrev uH:=@Array.forIn_toList
noncomputable abbrev uI:=@PyProof.Rows.get?_update_seq
noncomputable abbrev uJ:=@List.not_mem_nil
noncomputable abbrev uK:=@List.length_pos_iff
noncomputable abbrev uL:=@PySem.F.plainAttrs_list
noncomputable abbrev uM:=@PySem.F.slot_list_append
noncomputable abbrev uN:=@PySem.F.type_list_append
noncomputable abbrev uO:=@PySem.Calls.spliced_nil
noncomputable abbrev uP:=@PySem.Calls.spliced_cons
noncomputable abbrev uQ:=@List.length_drop
noncomputable abbrev uR:=@Bool.not_eq_true
noncomputable abbrev uS:=@PySem.wpAny_pyIter_list
noncomputable abbrev uT:=@Bool.eq_false_iff
noncomputable abbrev uU:=@List.take_of_length_le
noncomputable abbrev uV:=@List.perm_middle
noncomputable abbrev uW:=@PySem.wpAny_askSetting
noncomputable abbrev uX:=@List.nodup_append
noncomputable abbrev uY:=@of_decide_eq_true
noncomputable abbrev uZ:=@PySem.F.slot_tuple_hash
noncomputable abbrev u0:=@PySem.wpAny_tupleItemsOf
noncomputable abbrev u1:=@List.filter_cons_of_neg
noncomputable abbrev u2:=@PyProof.Rows.boot_tuple
noncomputable abbrev u3:=@PyProof.Rows.callWith_type1
noncomputable abbrev u4:=@Option.map_eq_some_iff
noncomputable abbrev u5:=@List.length_singleton
noncomputable abbrev u6:=@PySem.F.slot_tuple_iterator_next
noncomputable abbrev u7:=@PyProof.Rows.F.plain_set_update_loop
noncomputable abbrev u9:=@PyProof.Rows.boot_sorted
noncomputable abbrev ya:=@List.length_reverse
noncomputable abbrev yb:=@PyProof.Rows.boot_repr
set_option linter.all false
set_option maxRecDepth 100000
set_option Elab.async false
set_option maxHeartbeats 8000000
namespace L2
open PySem PySem.Spec PyProof.Rows
noncomputable abbrev Key:=Sum Int Str
noncomputable def zKj:Key->Value->Bool
 | .inl k,v=>Value.isInt k v
 | .inr x,v=>Value.isStrOf x v
noncomputable def keyH (w:World):Key->Int
 | .inl k=>hashInt k
 | .inr x=>hashStr w x
theorem zAo:∀{k:Key}{v:Value},zKj k v=true->(∃i t,k=Sum.inl i/\v=Value.int i t)\/(∃x t,k=Sum.inr x/\v=Value.str x t)
 | .inl i,v,h=>by
  obtain⟨t,e⟩:=Value.isInt_shape (k:=i) (v:=v) h
  exact .inl ⟨i,t,rfl,e⟩
 | .inr x,v,h=>by
  obtain⟨t,e⟩:=Value.isStrOf_shape (x:=x) (v:=v) h
  exact .inr ⟨x,t,rfl,e⟩
theorem zMq (i:Int) (t:Tok):zKj (.inl i) (.int i t)=true:=by simp[zKj,Value.isInt]
theorem zMp (x:Str) (t:Tok):zKj (.inr x) (.str x t)=true:=by simp[zKj,Value.isStrOf]
theorem zVf (a b:Int):decide ((Sum.inl a:Key)=Sum.inl b)=(a == b):=by
 by_cases e:a=b
 ·subst e;simp
 ·have h:¬ (Sum.inl a:Key)=Sum.inl b:=fun q=>e (Sum.inl.inj q)
  rw[xj h]
  exact(beq_eq_false_iff_ne.mpr e).symm
theorem zVc (a b:Str):decide ((Sum.inr a:Key)=Sum.inr b)=decide (a=b):=by
 by_cases e:a=b
 ·subst e;simp
 ·have h:¬ (Sum.inr a:Key)=Sum.inr b:=fun q=>e (Sum.inr.inj q)
  rw[xj h,xj e]
theorem zVe (a:Int) (b:Str):decide ((Sum.inl a:Key)=Sum.inr b)=false:=xj (fun q=>nomatch q)
theorem zVd (a:Str) (b:Int):decide ((Sum.inr a:Key)=Sum.inl b)=false:=xj (fun q=>nomatch q)
noncomputable def zAz (prog:Program) (w:World):PySem.KeyKind prog w Key where
 is:=zKj
 hash:=keyH w
 inj:=fun v a b ha hb=>by
  rcases zAo ha with⟨i,t,rfl,rfl⟩|⟨x,t,rfl,rfl⟩
  ·rcases zAo hb with⟨j,u,rfl,e⟩|⟨y,u,rfl,e⟩
   ·injection e with e1 _;rw[e1]
   ·exact nomatch e
  ·rcases zAo hb with⟨j,u,rfl,e⟩|⟨y,u,rfl,e⟩
   ·exact nomatch e
   ·injection e with e1 _;rw[e1]
 byValue:=fun k v h=>by
  rcases zAo h with⟨i,t,rfl,rfl⟩|⟨x,t,rfl,rfl⟩ <;> rfl
 pyHash:=fun hv h=>by
  rcases zAo hv with⟨i,t,rfl,rfl⟩|⟨x,t,rfl,rfl⟩
  ·exact wpAny_pyHash_int h
  ·exact wpAny_pyHash_str h
 eqBool:=fun hu hv h=>by
  rcases zAo hu with⟨i,t,rfl,rfl⟩|⟨x,t,rfl,rfl⟩
  ·rcases zAo hv with⟨j,u,rfl,rfl⟩|⟨y,u,rfl,rfl⟩
   ·rw[zVf]at h;exact wpAny_eqBool_int h
   ·rw[zVe]at h;exact SeqAt.EqAt.int_str i t y u _ _ _ _ h
  ·rcases zAo hv with⟨j,u,rfl,rfl⟩|⟨y,u,rfl,rfl⟩
   ·rw[zVd]at h;exact SeqAt.EqAt.str_int x t j u _ _ _ _ h
   ·rw[zVc]at h;exact wpAny_eqBool_str h
 «strs»:=fun k x t v h=>by
  rcases zAo h with⟨i,u,rfl,e⟩|⟨y,u,rfl,e⟩
  ·exact nomatch e
  ·injection e with e1 _
   subst e1
   cases v <;> rfl
theorem zIb (prog:Program) (w:World) (i:Int) (t:Tok):(zAz prog w).is (.inl i) (.int i t)=true:=zMq i t
theorem zIa (prog:Program) (w:World) (x:Str) (t:Tok):(zAz prog w).is (.inr x) (.str x t)=true:=zMp x t
end L2
namespace L2
open PySem PySem.Spec PyProof.Rows
inductive V where
 | non|bl (b:Bool)|int (i:Int)|str (x:Str)|byt (b:Array UInt8)|flt (b:UInt64)|ref (a:Addr)|ty (n:String)
 deriving DecidableEq
noncomputable def RelV:V->Value->Prop
 | .non,u=>u=Value.none
 | .bl b,u=>u=Value.bool b
 | .int i,u=>∃t,u=Value.int i t
 | .str x,u=>∃t,u=Value.str x t
 | .byt b,u=>∃t,u=Value.bytes b t
 | .flt b,u=>∃t,u=Value.float b t
 | .ref a,u=>u=Value.ref a
 | .ty n,u=>u=Value.type n
noncomputable abbrev Vals:List V->List Value->Prop:=Paired RelV
theorem Vals.length {xs:List V}{us:List Value}(r:Vals xs us):xs.length=us.length:=Paired.length r
theorem Vals.get:∀{xs:List V}{us:List Value}{i:Nat}{x:V},Vals xs us->xs[i]?=some x->∃u,us[i]?=some u/\RelV x u
 | _,_,_,_,.nil,e=>by simp at e
 | _,_,0,_,.cons r _,e=>by simp at e;subst e;exact⟨_,rfl,r⟩
 | _,_,i+1,x,.cons _ t,e=>by
  obtain⟨u,h1,h2⟩:=Vals.get (i:=i) (x:=x) t (by simpa using e)
  exact⟨u,by simpa using h1,h2⟩
theorem Vals.set {x:V}{u:Value}(r:RelV x u):∀{xs:List V}{us:List Value}(i:Nat),Vals xs us->Vals (xs.set i x) (us.set i u)
 | _,_,_,.nil=>.nil
 | _,_,0,.cons _ t=>.cons r t
 | _,_,i+1,.cons q t=>.cons q (Vals.set r i t)
theorem Vals.append:∀{xs ys:List V}{us ws:List Value},Vals xs us->Vals ys ws->Vals (xs++ys) (us++ws)
 | _,_,_,_,.nil,s=>s
 | _,_,_,_,.cons r t,s=>.cons r (Vals.append t s)
theorem Vals.take:∀{xs:List V}{us:List Value}(n:Nat),Vals xs us->Vals (xs.take n) (us.take n)
 | _,_,0,_=>.nil
 | _,_,_+1,.nil=>.nil
 | _,_,n+1,.cons r t=>.cons r (Vals.take n t)
theorem Vals.drop:∀{xs:List V}{us:List Value}(n:Nat),Vals xs us->Vals (xs.drop n) (us.drop n)
 | _,_,0,r=>r
 | _,_,_+1,.nil=>.nil
 | _,_,n+1,.cons _ t=>Vals.drop n t
noncomputable def RelO:Option V->Option Value->Prop
 | some v,some u=>RelV v u
 | none,none=>True
 | _,_=>False
noncomputable def KV {κ:Type}:List (κ × V)->List (κ × Value)->Prop:=Paired fun(p:κ × V) (q:κ × Value)=>p.1=q.1/\RelV p.2 q.2
noncomputable def kV:Key->V
 | .inl i=>.int i
 | .inr x=>.str x
inductive HO where
 /-- a list -/
 | lst (xs:List V)
 /-- a tuple (never changes) -/
 | tup (xs:List V)
 /-- a dict whose keys are ints and texts;one whose keys are tuples of ints and texts (the empty one is both) -/
 | dK (kvs:List (Key × V))|dT (kvs:List (List Key × V))
 /-- a set of ints: its members,its size -/
 | set (S:Int->Bool) (n:Nat)
 /-- an instance of the class at C,its dict at dx,its attributes -/
 | ins (C dx:Addr) (fs:List (Str × V))
 /-- the dict of the instance at x -/
 | own (x:Addr)
 /-- the dict of an exception -/
 | xd (fs:List (Str × V))
 /-- a bound method,f of x -/
 | met (f x:Addr)
 /-- a range object lo,lo+1,.. below hi -/
 | rng (lo hi:Int)
 /-- a thing that is known to the object (the script;a dict while a loop walks it): read,never written while it is so -/
 | frz (o:Obj) (u:HO)
 /-- a code object's table -/
 | tbl (ps:Array Value)
 /-- any other thing,by what is true of its one object (a def of one's own: SetO a S n:=HO.ext fun h=>..) -/
 | ext (φ:Heap->Prop)
noncomputable abbrev Hp:=Addr->Option HO
noncomputable def upd (H:Hp) (a:Addr) (o:HO):Hp:=fun b=>if b=a then some o else H b
theorem zAi {H:Hp}{a:Addr}{o:HO}:upd H a o a=some o:=by unfold upd;rw[xc rfl]
theorem zAd {H:Hp}{a b:Addr}{o:HO}(h:b≠a):upd H a o b=H b:=by unfold upd;rw[xf h]
theorem zX0 {H:Hp}{a b:Addr}{o u:HO}(h:H a=some o) (h':H b=some u) (d:o≠u):a≠b:=by
 intro e;subst e;rw[h]at h';exact d (xD h')
theorem zAc {H:Hp}{a b:Addr}{o:HO}(h:H a=some o) (h':H b=none):a≠b:=by
 intro e;subst e;rw[h]at h';cases h'
section
variable (P:Program) (w:World)
noncomputable def ObjOk (H:Hp) (h:Heap) (a:Addr):HO->Prop
 | .lst xs=>xs.length<=sizeLine/\∃(its:List Value) (n:Nat),Vals xs its/\h.get? a=some { cls:=.type "list",data:=.seq its.toArray n }
 | .tup xs=>xs.length<=sizeLine/\∃its:List Value,Vals xs its/\IsTup h a its.toArray
 | .dK kvs=>kvs.length<=sizeLine/\(a == sysModules)=false/\∃vs,KV kvs vs/\h.DictOf (zAz P w) a vs
 | .dT kvs=>kvs.length<=sizeLine/\(a == sysModules)=false/\∃xs:List (List Key × Addr × Value),
   Paired (fun(p:List Key × V) (q:List Key × Addr × Value)=>p.1=q.1/\H q.2.1=some (.tup (p.1.map kV))/\RelV p.2 q.2.2) kvs xs /\
   ∃o es ep,h.get? a=some o/\o.ExactDict/\o.data=.dict es ep/\es.toList=xs.map (entryOfKey (tupleKind (zAz P w)))/\(xs.map (·.1)).Nodup
 | .set S n=>h.SetOf (intKind P w) a S n
 | .ins C dx fs=>H dx=some (.own a)/\fs.length<=1000/\dx≠a/\h.get? a=some (PySem.W.instObj C dx) /\
   ∃mA,h.Ns1 dx mA/\(∀f,RelO (fs.lookup f) (mA f))/\PySem.Within mA (fs.map (·.1))
 | .own _=>∃o,h.get? a=some o
 | .xd fs=>∃mA,h.Ns1 a mA/\∀f,RelO (fs.lookup f) (mA f)
 | .rng lo hi=>∃t u v,h.get? a=some { cls:=.type "range",data:=.fields #[.int lo t,.int hi u,.int 1 v] }
 | .frz o u=>h.get? a=some o/\ObjOk H h a u
 | .tbl ps=>h.get? a=some { cls:=.none,data:=.fields ps }
 | .met f x=>h.get? a=some (PySem.W.methodObj (.ref f) (.ref x))
 | .ext φ=>φ h/\(∃o,h.get? a=some o)/\∀h1 h2:Heap,φ h1->(∀o,h1.get? a=some o->h2.get? a=some o)->φ h2
noncomputable def HOk (H:Hp) (h:Heap):Prop:=∀a o,H a=some o->ObjOk P w H h a o
end
section
variable {P:Program}{w:World}{H H':Hp}{h h':Heap}{a:Addr}{o:HO}
theorem ObjOk.lt (x:ObjOk P w H h a o):a<h.objs.size:=by
 cases o with
 | lst xs=>obtain⟨_,_,_,_,e⟩:=x;exact xi e
 | tup xs=>obtain⟨_,_,_,p⟩:=x;exact p.lt
 | dK kvs=>obtain⟨_,_,_,_,o,_,_,e,_⟩:=x;exact xi e
 | dT kvs=>obtain⟨_,_,_,_,o,_,_,e,_⟩:=x;exact xi e
 | set S n=>obtain⟨o,_,_,_,e,_⟩:=x;exact xi e
 | ins C dx fs=>obtain⟨_,_,_,e,_⟩:=x;exact xi e
 | own y=>obtain⟨_,e⟩:=x;exact xi e
 | xd fs=>obtain⟨_,⟨_,_,_,e,_⟩,_⟩:=x;exact xi e
 | rng lo hi=>obtain⟨_,_,_,e⟩:=x;exact xi e
 | frz ob u=>obtain⟨e,_⟩:=x;exact xi e
 | tbl ps=>exact xi (show h.get? a=some _ from x)
 | met f y=>exact xi (show h.get? a=some _ from x)
 | ext φ=>obtain⟨_,⟨_,e⟩,_⟩:=x;exact xi e
theorem Paired.mapP {α β:Type}{F G:α->β->Prop}:∀{l₁:List α}{l₂:List β},Paired F l₁ l₂->(∀a b,F a b->G a b)->Paired G l₁ l₂
 | _,_,.nil,_=>.nil
 | _,_,.cons r t,f=>.cons (f _ _ r) (Paired.mapP t f)
theorem ObjOk.stay (x:ObjOk P w H h a o) (k:∀b u,(b=a\/H b=some (.own a))->h.get? b=some u->h'.get? b=some u)
  (ho:∀b,H b=some (.own a)->H' b=some (.own a)) (ht:∀b xs,H b=some (.tup xs)->H' b=some (.tup xs)):ObjOk P w H' h' a o:=by
 induction o with
 | lst xs=>obtain⟨z,its,n,r,e⟩:=x;exact⟨z,its,n,r,k _ _ (.inl rfl) e⟩
 | tup xs=>obtain⟨z,its,r,ob,e,c⟩:=x;exact⟨z,its,r,ob,k _ _ (.inl rfl) e,c⟩
 | dK kvs=>obtain⟨z,y,vs,r,ob,es,ep,e,c⟩:=x;exact⟨z,y,vs,r,ob,es,ep,k _ _ (.inl rfl) e,c⟩
 | dT kvs=>
  obtain⟨z,y,xs,r,ob,es,ep,e,c⟩:=x
  exact⟨z,y,xs,Paired.mapP r fun p q z=>⟨z.1,ht _ _ z.2.1,z.2.2⟩,ob,es,ep,k _ _ (.inl rfl) e,c⟩
 | set S n=>obtain⟨ob,es,ep,t,e,c⟩:=x;exact⟨ob,es,ep,t,k _ _ (.inl rfl) e,c⟩
 | ins C dx fs=>
  obtain⟨d,z,ne,e,mA,⟨od,es,ep,e2,c⟩,r⟩:=x
  exact⟨ho _ d,z,ne,k _ _ (.inl rfl) e,mA,⟨od,es,ep,k _ _ (.inr d) e2,c⟩,r⟩
 | own y=>obtain⟨ob,e⟩:=x;exact⟨ob,k _ _ (.inl rfl) e⟩
 | xd fs=>obtain⟨mA,⟨od,es,ep,e,c⟩,r⟩:=x;exact⟨mA,⟨od,es,ep,k _ _ (.inl rfl) e,c⟩,r⟩
 | rng lo hi=>obtain⟨t,u,v,e⟩:=x;exact⟨t,u,v,k _ _ (.inl rfl) e⟩
 | frz ob u ih=>obtain⟨e,q⟩:=x;exact⟨k _ _ (.inl rfl) e,ih q⟩
 | tbl ps=>
  have e:h.get? a=some { cls:=.none,data:=.fields ps }:=x
  show h'.get? a=some { cls:=.none,data:=.fields ps }
  exact k a _ (.inl rfl) e
 | met f y=>
  have e:h.get? a=some (PySem.W.methodObj (.ref f) (.ref y)):=x
  show h'.get? a=some (PySem.W.methodObj (.ref f) (.ref y))
  exact k a _ (.inl rfl) e
 | ext φ=>obtain⟨p,⟨o,e⟩,st⟩:=x;exact⟨st _ _ p fun o q=>k _ _ (.inl rfl) q,⟨o,k _ _ (.inl rfl) e⟩,st⟩
theorem HOk.lt (x:HOk P w H h) (e:H a=some o):a<h.objs.size:=(x a o e).lt
theorem HOk.fresh (x:HOk P w H h) (e:h.objs.size<=a):H a=none:=by
 cases q:H a with
 | none=>rfl
 | some u=>exact absurd (xy (x.lt q) e) (xX _)
theorem HOk.kept (x:HOk P w H h) (k:∀b u,h.get? b=some u->h'.get? b=some u):HOk P w H h':=fun a o e=>
 (x a o e).stay (fun b u _ q=>k b u q) (fun _ q=>q) fun _ _ q=>q
theorem HOk.laid (x:HOk P w H h) (k:∀b u,h.get? b=some u->h'.get? b=some u) (hp:h.objs.size<=a) (new:ObjOk P w (upd H a o) h' a o):HOk P w (upd H a o) h':=fun b u e=>by
 have hn:=x.fresh hp
 by_cases hb:b=a
 ·subst hb;rw[zAi]at e;cases e;exact new
 ·rw[zAd hb]at e
  exact(x b u e).stay (fun c v _ q=>k c v q) (fun c q=>by rw[zAd (zAc q hn)];exact q) fun c xs q=>by rw[zAd (zAc q hn)];exact q
end
noncomputable def Rd (H:Hp) (a:Addr) (u:HO):Prop:=H a=some u\/∃o,H a=some (.frz o u)
theorem Rd.ok {P:Program}{w:World}{H:Hp}{h:Heap}{a:Addr}{u:HO}(r:Rd H a u) (x:HOk P w H h):ObjOk P w H h a u:=by
 rcases r with r|⟨o,r⟩
 ·exact x a u r
 ·obtain⟨_,q⟩:=x a _ r
  exact q
noncomputable def Mut:Option HO->Prop
 | some (.lst _)=>True
 | some (.dK _)=>True
 | some (.dT _)=>True
 | some (.set _ _)=>True
 | some (.ins _ _ _)=>True
 | some (.ext _)=>True
 | _=>False
section
variable {P:Program}{w:World}{H:Hp}{h h':Heap}{x e:Addr}{o':HO}
theorem HOk.write (ok:HOk P w H h) (mu:Mut (H x)) (he:e=x\/H e=some (.own x)) (k:∀b u,b≠e->h.get? b=some u->h'.get? b=some u) (heo:∃u,h'.get? e=some u)
  (new:ObjOk P w (upd H x o') h' x o'):HOk P w (upd H x o') h':=fun b u q=>by
 have nown:∀c y,H c=some (.own y)->c≠x:=fun c y r z=>by subst z;rw[r]at mu;exact mu
 have ntup:∀c xs,H c=some (.tup xs)->c≠x:=fun c xs r z=>by subst z;rw[r]at mu;exact mu
 by_cases hb:b=x
 ·subst hb;rw[zAi]at q;cases q;exact new
 ·rw[zAd hb]at q
  by_cases hbe:b=e
  ·have q':H b=some (.own x):=by
    rcases he with z|z
    ·exact absurd (hbe.trans z) hb
    ·rw[hbe];exact z
   rw[q]at q';cases q'
   obtain⟨v,hv⟩:=heo
   exact⟨v,by rw[hbe];exact hv⟩
  ·refine(ok b u q).stay (fun c v hc r=>k c v ?_ r) (fun c r=>by rw[zAd (nown c b r)];exact r) fun c xs r=>by rw[zAd (ntup c xs r)];exact r
   rcases hc with rfl|hc
   ·exact hbe
   ·rintro rfl
    rcases he with z|z
    ·exact nown c b hc z
    ·rw[hc]at z;cases z;exact hb rfl
end
structure Un (fs ex:List Addr) (H H':Hp) (h h':Heap):Prop where
 keep:∀b o,h.get? b=some o->H b=none->b ∉ fs->b ∉ ex->h'.get? b=some o
 slot:∀b o,h.get? b=some o->H b=none->b∈fs->b ∉ ex->∃sl,h'.get? b=some { o with slots:=sl }
 free:∀b o,h.get? b=some o->H b=none->b ∉ ex->H' b=none
 there:∀b o,h.get? b=some o->b ∉ ex->∃o',h'.get? b=some o'
 tups:∀b xs,H b=some (.tup xs)->H' b=some (.tup xs)
 frzs:∀b o u,H b=some (.frz o u)->H' b=some (.frz o u)
 tbls:∀b ps,H b=some (.tbl ps)->∃more,H' b=some (.tbl (ps++more))
section
variable {fs fs' ex ex':List Addr}{H H1 H2:Hp}{h h1 h2 h':Heap}{a x e:Addr}{o:HO}
theorem Un.any (u:Un fs ex H H1 h h1) {b:Addr}{ob:Obj}(q:h.get? b=some ob) (n:H b=none) (hx:b ∉ ex):∃sl,h1.get? b=some { ob with slots:=sl }:=by
 by_cases hb:b∈fs
 ·exact u.slot b ob q n hb hx
 ·exact⟨ob.slots,u.keep b ob q n hb hx⟩
theorem Un.kept (k:∀b u,h.get? b=some u->h'.get? b=some u):Un fs ex H H h h':=
 ⟨fun b ob q _ _ _=>k b ob q,fun b ob q _ _ _=>⟨ob.slots,k b ob q⟩,fun _ _ _ n _=>n,fun b ob q _=>⟨ob,k b ob q⟩,fun _ _ q=>q,fun _ _ _ q=>q,fun _ ps q=>⟨#[],by rw[q];simp⟩⟩
theorem Un.refl:Un fs ex H H h h:=Un.kept fun _ _ q=>q
theorem Un.laid (k:∀b u,h.get? b=some u->h'.get? b=some u) (hp:h.objs.size<=a) (hn:H a=none):Un fs ex H (upd H a o) h h' where
 keep:=fun b u q _ _ _=>k b u q
 slot:=fun b u q _ _ _=>⟨u.slots,k b u q⟩
 free:=fun b u q n _=>by rw[zAd (xu (xy (xi q) hp))];exact n
 there:=fun b u q _=>⟨u,k b u q⟩
 tups:=fun b xs q=>by rw[zAd (zAc q hn)];exact q
 frzs:=fun b u xs q=>by rw[zAd (zAc q hn)];exact q
 tbls:=fun b ps q=>⟨#[],by rw[zAd (zAc q hn),q];simp⟩
theorem Un.write (mu:Mut (H x)) (he:e=x\/H e=some (.own x)) (k:∀b u,b≠e->h.get? b=some u->h'.get? b=some u) (heo:∃u,h'.get? e=some u):Un fs ex H (upd H x o) h h':=by
 have hx:∀b,H b=none->b≠x:=fun b n z=>by subst z;rw[n]at mu;exact mu
 have hb:∀b,H b=none->b≠e:=fun b n z=>by
  subst z
  rcases he with r|r
  ·exact hx b n r
  ·rw[n]at r;cases r
 have hm:∀b u,H b=some u->¬ Mut (some u)->b≠x:=fun b u q nm z=>by subst z;rw[q]at mu;exact nm mu
 refine⟨fun b u q n _ _=>k b u (hb b n) q,fun b u q n _ _=>⟨u.slots,k b u (hb b n) q⟩,fun b u q n _=>by rw[zAd (hx b n)];exact n,fun b u q _=>?_,
  fun b xs q=>by rw[zAd (hm b _ q fun z=>z)];exact q,fun b u xs q=>by rw[zAd (hm b _ q fun z=>z)];exact q,fun b ps q=>⟨#[],by rw[zAd (hm b _ q fun z=>z),q];simp⟩⟩
 by_cases hbe:b=e
 ·subst hbe;exact heo
 ·exact⟨u,k b u hbe q⟩
end
noncomputable def trk (h:Heap) (H:Hp):List Addr:=(List.range h.objs.size).filter fun a=>(H a).isSome
noncomputable def hidT (h:Heap) (H:Hp):Heap:=PySem.W.hideAll h (trk h H)
theorem zMy (h:Heap) (H:Hp):(hidT h H).objs.size=h.objs.size:=PySem.W.hideAll_size _ _
theorem zP8 {h:Heap}{H:Hp}{b:Addr}{o:Obj}(e:h.get? b=some o) (n:H b=none):(hidT h H).get? b=some o:=
 PySem.W.hideAll_get _ e fun hm=>by
  have q:(H b).isSome=true:=(vY.mp hm).2
  rw[n]at q;simp at q
theorem zSd {h:Heap}{H:Hp}{b:Addr}{o:Obj}(e:(hidT h H).get? b=some o):h.get? b=some o/\H b=none:=by
 have e':h.get? b=some o:=PySem.W.of_hideAll (trk h H) e
 refine⟨e',?_⟩
 cases q:H b with
 | none=>rfl
 | some x=>
  have hm:b∈trk h H:=vY.mpr ⟨xY.mpr (xi e'),by simp[q]⟩
  have z:(hidT h H).get? b=none:=PySem.W.hideAll_none (trk h H) hm
  rw[z]at e;cases e
noncomputable def zTo (g h:Heap) (L:Addr):List (Addr × Obj):=(List.range h.objs.size).filterMap fun a=>if a=L\/(g.get? a).isSome=true then none else(h.get? a).map fun o=>(a,o)
noncomputable def rest (g h:Heap) (L d:Addr):List (Addr × Obj):=(zTo g h L).filter fun p=>decide (p.1≠d)
end L2
namespace L2
open PySem PySem.Spec PyProof.Rows
structure Mod (K:PySem.W.Frag) (mg:Str->Option Value) (base:Heap):Prop where
 kin:K.In base
 glob:base.Ns mainGlobals mg
 blt:∃mb,base.Ns builtinsNs mb/\∀x:Str,x≠"__name__"->mb x=bootBuiltins x
 nolimit:base.NoLimit
/-- the context: a def's body (or a comprehension's block) running. base: fixed through the whole law;s₀,H₀: the entry;outer: the frames whose slots others may change (a def's callers);stack: all frames that run;
   ex: iterators that were made ahead of the entry and are walked here (a comprehension's);fn: the names whose cells were made at the entry (a def: all;a comprehension's block: its own);calm: not within an except suite;pn: pins that every state bears;xe: what is wanted of an exception that leaves the code -/
structure Cx where
  prog:Program
  w:World
  K:PySem.W.Frag
  mg:Str->Option Value
  base:Heap
  A:Around
  N:List Str
  s₀:Shared
  H₀:Hp
  env:Env
  outer:List Env
  stack:List Env
  ex:List Addr
  fn:Str->Bool
  calm:Bool
  pn:List (Addr × Obj)
  xe:Value->Shared->Prop
noncomputable def frs (l:List Env):List Addr:=l.filterMap (·.frame)
noncomputable abbrev Cx.fs (X:Cx):List Addr:=frs X.outer
noncomputable def Vis (sc:Scope) (x:Str):Prop:=sc.names.lookup x=some .local\/sc.names.lookup x=some .cell\/sc.names.lookup x=some .free
noncomputable def Loc (sc:Scope) (x:Str):Prop:=sc.names.lookup x=some .local\/sc.names.lookup x=some .cell
noncomputable def Look (env:Env) (h:Heap) (m:Str->Option Value) (x:Str) (u:Value):Prop:=
 (env.kindOf x=some .local/\m x=some u)\/((env.kindOf x=some .cell\/env.kindOf x=some .free)/\∃c,env.cells.lookup x=some c/\h.IsCell c (some u))
structure Cx.Ok (X:Cx):Prop where
 mod:Mod X.K X.mg X.base
 kind:X.env.scope.kind=.function
 glob:X.env.globals=mainGlobals
 blt:X.env.builtins=builtinsNs
 above:X.s₀.heap.objs.size<=X.env.locals
 inj:∀x y c,X.env.cells.lookup x=some c->X.env.cells.lookup y=some c->x=y
 has:∀x,(X.env.kindOf x=some .cell\/X.env.kindOf x=some .free)->∃c,X.env.cells.lookup x=some c
 cab:∀x c,X.fn x=true->X.env.cells.lookup x=some c->X.s₀.heap.objs.size<=c
 hd:X.calm=true->X.A.handled=none
 frames:X.A.frames=some X.stack
 stk:X.stack=X.outer\/(X.stack=X.env::X.outer/\X.env.frame=some X.env.locals)
 exf:∀b∈X.ex,b≠X.env.locals/\∀x c,X.env.cells.lookup x=some c->c≠b
 bs:∀b o,X.base.get? b=some o->X.s₀.heap.get? b=some o/\X.H₀ b=none
 bsz:X.base.objs.size<=X.s₀.heap.objs.size
 noex:∀b o,X.base.get? b=some o->b ∉ X.ex
 exfs:∀b∈X.ex,b ∉ X.fs
 funs:X.s₀.heap.FunFrames X.base X.outer
 frf:∀b∈X.fs,X.H₀ b=none
 gds:X.A.guards=some []
structure Inv (X:Cx) (pins:List (Addr × Obj)) (σ:List (Option V)) (H:Hp) (s:Shared):Prop where
 ok:X.Ok
 os:s.os=X.s₀.os
 bare:AllBare s.gens
 base:Un X.fs X.ex X.H₀ H X.s₀.heap s.heap
 loc:∃m,s.heap.Ns X.env.locals m/\∀(i:Nat) (x:Str) (v:V),X.N[i]?=some x->σ[i]?=some (some v)->Vis X.env.scope x->∃u,RelV v u/\Look X.env s.heap m x u
 cell:∀x c,X.env.cells.lookup x=some c->∃v,s.heap.IsCell c v
 free:H X.env.locals=none
 freeC:∀x c,X.env.cells.lookup x=some c->H c=none
 pin:∀p∈X.pn++pins,s.heap.get? p.1=some p.2/\H p.1=none/\p.1≠X.env.locals/\p.1 ∉ X.fs/\∀v,p.2.data≠.cell v
 hok:HOk X.prog X.w H s.heap
 len:σ.length=X.N.length
section
variable {X:Cx}{pins:List (Addr × Obj)}{σ:List (Option V)}{H H':Hp}{s:Shared}{h':Heap}
theorem Cx.Ok.nofr (ok:X.Ok) {b:Addr}{o:Obj}(e:X.base.get? b=some o):b ∉ X.fs:=fun hb=>by
 have:=(ok.funs.mem hb).1
 rw[e]at this;cases this
theorem Inv.bs (I:Inv X pins σ H s):∀b o,X.base.get? b=some o->s.heap.get? b=some o/\H b=none:=fun b o e=>
 ⟨I.base.keep b o (I.ok.bs b o e).1 (I.ok.bs b o e).2 (I.ok.nofr e) (I.ok.noex b o e),I.base.free b o (I.ok.bs b o e).1 (I.ok.bs b o e).2 (I.ok.noex b o e)⟩
theorem Inv.bk (I:Inv X pins σ H s):∀b o,X.base.get? b=some o->s.heap.get? b=some o:=fun b o e=>(I.bs b o e).1
theorem Inv.mod (I:Inv X pins σ H s):Mod X.K X.mg X.base:=I.ok.mod
theorem Inv.kIn (I:Inv X pins σ H s):X.K.In s.heap:=I.ok.mod.kin.keeps I.bk
theorem Inv.lt (I:Inv X pins σ H s):X.env.locals<s.heap.objs.size:=let ⟨_,hn,_⟩:=I.loc;hn.lt
theorem Inv.sz (I:Inv X pins σ H s):X.s₀.heap.objs.size<=s.heap.objs.size:=xm I.ok.above (xO I.lt)
theorem Inv.nofs (I:Inv X pins σ H s) {a:Addr}(h:s.heap.objs.size<=a):a ∉ X.fs:=fun hb=>by
 obtain⟨_,o,ho,_⟩:=I.ok.funs.mem hb
 exact absurd (xy (xi ho) (xm I.sz h)) (xX _)
theorem Inv.cne (I:Inv X pins σ H s):∀x c,X.env.cells.lookup x=some c->c≠X.env.locals:=fun x c e z=>by
 obtain⟨v,o,ho,hd⟩:=I.cell x c e
 obtain⟨m,⟨o',es,ep,ho',hd',_⟩,_⟩:=I.loc
 rw[z,ho']at ho;cases ho;rw[hd']at hd;cases hd
theorem Inv.funs (I:Inv X pins σ H s):s.heap.FunFrames X.base X.outer:=by
 have all:∀(l:List Env),(∀b∈frs l,b∈X.fs)->X.s₀.heap.FunFrames X.base l->s.heap.FunFrames X.base l:=by
  intro l
  induction l with
  | nil=>intro _ _;trivial
  | cons env r ih=>
   intro hs hl
   obtain⟨hk,⟨L,o,hf,hn,ho,hd⟩,hr⟩:=hl
   have hL:L∈X.fs:=hs L (by unfold frs;rw[vZ,hf];exact xM)
   obtain⟨sl,e⟩:=I.base.slot L o ho (I.ok.frf L hL) hL fun z=>I.ok.exfs L z hL
   exact⟨hk,⟨L,_,hf,hn,e,hd⟩,ih (fun b hb=>hs b (by unfold frs;rw[vZ,hf];exact xZ _ hb)) hr⟩
 exact all X.outer (fun _ hb=>hb) I.ok.funs
theorem Inv.stack (I:Inv X pins σ H s):s.heap.FunFrames X.base X.stack:=by
 rcases I.ok.stk with e|⟨e,hf⟩
 ·rw[e];exact I.funs
 ·rw[e]
  obtain⟨m,hn,_⟩:=I.loc
  refine .cons (by rw[I.ok.kind];decide) hf hn ?_ I.funs
  exact Heap.get?_none_of_le (xm I.ok.bsz I.ok.above)
theorem Inv.stkSub (I:Inv X pins σ H s):∀b∈frs X.stack,b∈X.env.locals::X.fs:=fun b hb=>by
 rcases I.ok.stk with e|⟨e,hf⟩
 ·rw[e]at hb;exact xZ _ hb
 ·rw[e]at hb
  unfold frs at hb
  rw[vZ,hf]at hb
  exact hb
theorem Inv.stkFree (I:Inv X pins σ H s):∀b∈frs X.stack,H b=none:=fun b hb=>by
 rcases xk.mp (I.stkSub b hb)with e|hb
 ·rw[e];exact I.free
 ·obtain⟨_,o,ho,_⟩:=I.ok.funs.mem hb
  exact I.base.free b o ho (I.ok.frf b hb) fun z=>I.ok.exfs b z hb
theorem Inv.step {g':Array GenState}{t':Nat}{d':Drawn}{ch:List Addr}(I:Inv X pins σ H s)
  (hch:∀b∈ch,(b∈X.ex\/X.s₀.heap.objs.size<=b)/\b≠X.env.locals/\(∀x c,X.env.cells.lookup x=some c->c≠b)/\∀p∈X.pn++pins,p.1≠b)
  (keep:∀b o,b≠X.env.locals->b ∉ X.fs->b ∉ ch->s.heap.get? b=some o->H b=none->h'.get? b=some o)
  (slot:∀b o,b≠X.env.locals->b∈X.fs->b ∉ ch->s.heap.get? b=some o->H b=none->∃sl,h'.get? b=some { o with slots:=sl }) (free:∀b o,b ∉ ch->s.heap.get? b=some o->H b=none->H' b=none)
  (there:∀b o,b ∉ ch->s.heap.get? b=some o->∃o',h'.get? b=some o')
  (tups:∀b xs,H b=some (.tup xs)->H' b=some (.tup xs)) (frzs:∀b o u,H b=some (.frz o u)->H' b=some (.frz o u)) (tbls:∀b ps,H b=some (.tbl ps)->∃more,H' b=some (.tbl (ps++more)))
  (ns:∀m,s.heap.Ns X.env.locals m->h'.Ns X.env.locals m) (hok:HOk X.prog X.w H' h') (hg:AllBare g'):
  Inv X pins σ H' { s with heap:=h',gens:=g',drawn:=d',toks:=t' }:=by
 have neL:∀b o,X.s₀.heap.get? b=some o->b≠X.env.locals:=fun b o e=>xu (xy (xi e) I.ok.above)
 have neC:∀b o,X.s₀.heap.get? b=some o->b ∉ X.ex->b ∉ ch:=fun b o e hx hb=>by
  rcases(hch b hb).1 with z|z
  ·exact hx z
  ·exact absurd (xy (xi e) z) (xX _)
 have cellK:∀x c,X.env.cells.lookup x=some c->∀v,s.heap.IsCell c v->h'.IsCell c v:=fun x c e v ⟨o,ho,hd⟩=>by
  have nch:c ∉ ch:=fun z=>(hch c z).2.2.1 x c e rfl
  by_cases hc:c∈X.fs
  ·obtain⟨sl,q⟩:=slot c o (I.cne x c e) hc nch ho (I.freeC x c e)
   exact⟨_,q,hd⟩
  ·exact⟨o,keep c o (I.cne x c e) hc nch ho (I.freeC x c e),hd⟩
 refine⟨I.ok,I.os,hg,⟨fun b o e n hb hx=>?_,fun b o e n hb hx=>?_,fun b o e n hx=>?_,fun b o e hx=>?_,fun b xs e=>tups b xs (I.base.tups b xs e),fun b o xs e=>frzs b o xs (I.base.frzs b o xs e),fun b ps e=>?_⟩,?_,fun x c e=>?_,?_,fun x c e=>?_,fun p hp=>?_,hok,I.len⟩
 ·exact keep b o (neL b o e) hb (neC b o e hx) (I.base.keep b o e n hb hx) (I.base.free b o e n hx)
 ·obtain⟨sl,e1⟩:=I.base.slot b o e n hb hx
  obtain⟨sl',e2⟩:=slot b _ (neL b o e) hb (neC b o e hx) e1 (I.base.free b o e n hx)
  exact⟨sl',e2⟩
 ·obtain⟨o',e1⟩:=I.base.there b o e hx
  exact free b o' (neC b o e hx) e1 (I.base.free b o e n hx)
 ·obtain⟨o',e1⟩:=I.base.there b o e hx
  exact there b o' (neC b o e hx) e1
 ·obtain⟨m1,e1⟩:=I.base.tbls b ps e
  obtain⟨m2,e2⟩:=tbls b _ e1
  exact⟨m1++m2,by rw[e2,Array.append_assoc]⟩
 ·obtain⟨m,hn,hl⟩:=I.loc
  refine⟨m,ns m hn,fun i x v e1 e2 e3=>?_⟩
  obtain⟨u,r,l⟩:=hl i x v e1 e2 e3
  refine⟨u,r,?_⟩
  rcases l with l|⟨k,c,e,z⟩
  ·exact .inl l
  ·exact .inr ⟨k,c,e,cellK x c e _ z⟩
 ·obtain⟨v,z⟩:=I.cell x c e
  exact⟨v,cellK x c e v z⟩
 ·obtain⟨m,⟨o,_,_,ho,_⟩,_⟩:=I.loc
  exact free _ o (fun z=>(hch _ z).2.1 rfl) ho I.free
 ·obtain⟨v,o,ho,hd⟩:=I.cell x c e
  exact free c o (fun z=>(hch c z).2.2.1 x c e rfl) ho (I.freeC x c e)
 ·obtain⟨e,n,ne,nf,d⟩:=I.pin p hp
  have nch:p.1 ∉ ch:=fun z=>(hch p.1 z).2.2.2 p hp rfl
  exact⟨keep p.1 p.2 ne nf nch e n,free p.1 p.2 nch e n,ne,nf,d⟩
theorem Inv.un {t':Nat}(I:Inv X pins σ H s) (u:Un X.fs [] H H' s.heap h') (hok:HOk X.prog X.w H' h'):Inv X pins σ H' { s with heap:=h',toks:=t' }:=by
 obtain⟨m,⟨o,es,ep,ho,r⟩,_⟩:=id I.loc
 obtain⟨sl,hL⟩:=u.any ho I.free (by simp)
 exact I.step (g':=s.gens) (d':=s.drawn) (ch:=[]) (fun _ z=>nomatch z) (fun b o _ hb _ e n=>u.keep b o e n hb (by simp)) (fun b o _ hb _ e n=>u.slot b o e n hb (by simp)) (fun b o _ e n=>u.free b o e n (by simp)) (fun b o _ e=>u.there b o e (by simp)) u.tups u.frzs u.tbls (fun m' hm=>by
  obtain⟨o',es',ep',ho',r'⟩:=hm
  rw[ho]at ho';cases ho'
  exact⟨_,es',ep',hL,r'⟩) hok I.bare
theorem Inv.call {g':Array GenState}{t':Nat}{d':Drawn}{ch:List Addr}(I:Inv X pins σ H s) (u:Un (frs X.stack) ch H H' s.heap h') (hok:HOk X.prog X.w H' h') (hg:AllBare g')
  (hch:∀b∈ch,(b∈X.ex\/X.s₀.heap.objs.size<=b)/\b≠X.env.locals/\(∀x c,X.env.cells.lookup x=some c->c≠b)/\∀p∈X.pn++pins,p.1≠b):
  Inv X pins σ H' { s with heap:=h',gens:=g',drawn:=d',toks:=t' }:=by
 obtain⟨m,⟨o,es,ep,ho,r⟩,_⟩:=id I.loc
 obtain⟨sl,hL⟩:=u.any ho I.free fun z=>(hch _ z).2.1 rfl
 exact I.step (ch:=ch) hch (fun b o hL hb hc e n=>u.keep b o e n (fun z=>(xk.mp (I.stkSub b z)).elim hL hb) hc) (fun b o _ _ hc e n=>u.any e n hc) (fun b o hc e n=>u.free b o e n hc) (fun b o hc e=>u.there b o e hc) u.tups u.frzs u.tbls (fun m' hm=>by
  obtain⟨o',es',ep',ho',r'⟩:=hm
  rw[ho]at ho';cases ho'
  exact⟨_,es',ep',hL,r'⟩) hok hg
theorem Inv.turned {t':Nat}{it:Addr}(I:Inv X pins σ H s) (k:∀b o,b≠it->s.heap.get? b=some o->h'.get? b=some o) (hn:H it=none) (hL:it≠X.env.locals)
  (h1:it∈X.ex\/X.s₀.heap.objs.size<=it) (h2:∀x c,X.env.cells.lookup x=some c->c≠it) (h3:∀p∈X.pn++pins,p.1≠it):Inv X pins σ H { s with heap:=h',toks:=t' }:=by
 have nit:∀b u,H b=some u->b≠it:=fun b u e z=>by rw[z,hn]at e;cases e
 refine I.step (g':=s.gens) (d':=s.drawn) (ch:=[it]) (fun b hb=>?_) (fun b o _ _ hc e _=>k b o (fun z=>hc (by simp[z])) e) (fun b o _ _ hc e _=>⟨o.slots,k b o (fun z=>hc (by simp[z])) e⟩) (fun _ _ _ _ n=>n)
  (fun b o hc e=>⟨o,k b o (fun z=>hc (by simp[z])) e⟩) (fun _ _ e=>e) (fun _ _ _ e=>e) (fun b ps e=>⟨#[],by rw[e];simp⟩) (fun m hm=>?_) (fun b u e=>?_) I.bare
 ·have e:b=it:=by simpa using hb
  subst e
  exact⟨h1,hL,h2,h3⟩
 ·obtain⟨o,es,ep,ho,r⟩:=hm
  exact⟨o,es,ep,k _ o (xB hL) ho,r⟩
 ·refine(I.hok b u e).stay (fun c v hc q=>k c v ?_ q) (fun _ q=>q) fun _ _ q=>q
  rcases hc with z|z
  ·rw[z];exact nit b u e
  ·exact nit c _ z
theorem Inv.tok (I:Inv X pins σ H s) (t:Nat):Inv X pins σ H { s with toks:=t }:=I.un (h':=s.heap) (t':=t) Un.refl I.hok
theorem Inv.kept {t':Nat}(I:Inv X pins σ H s) (k:∀b u,s.heap.get? b=some u->h'.get? b=some u):Inv X pins σ H { s with heap:=h',toks:=t' }:=I.un (Un.kept k) (I.hok.kept k)
theorem Inv.laid {a:Addr}{o:HO}{t':Nat}(I:Inv X pins σ H s) (k:∀b u,s.heap.get? b=some u->h'.get? b=some u) (hp:s.heap.objs.size<=a) (new:ObjOk X.prog X.w (upd H a o) h' a o):
  Inv X pins σ (upd H a o) { s with heap:=h',toks:=t' }:=I.un (Un.laid k hp (I.hok.fresh hp)) (I.hok.laid k hp new)
theorem Inv.write {x e:Addr}{o:HO}{t':Nat}(I:Inv X pins σ H s) (mu:Mut (H x)) (he:e=x\/H e=some (.own x)) (k:∀b u,b≠e->s.heap.get? b=some u->h'.get? b=some u) (heo:∃u,h'.get? e=some u)
  (new:ObjOk X.prog X.w (upd H x o) h' x o):Inv X pins σ (upd H x o) { s with heap:=h',toks:=t' }:=I.un (Un.write mu he k heo) (I.hok.write mu he k heo new)
theorem Inv.pins_of {pins':List (Addr × Obj)}(I:Inv X pins σ H s) (h:∀p∈pins',s.heap.get? p.1=some p.2/\H p.1=none/\p.1≠X.env.locals/\p.1 ∉ X.fs/\∀v,p.2.data≠.cell v):Inv X pins' σ H s:=
 ⟨I.ok,I.os,I.bare,I.base,I.loc,I.cell,I.free,I.freeC,fun p hp=>(xP.mp hp).elim (fun z=>I.pin p (v3 _ z)) (h p),I.hok,I.len⟩
theorem zJh {N:List Str}(hN:N.Nodup) {i j:Nat}{x:Str}(a:N[i]?=some x) (b:N[j]?=some x):i=j:=by
 obtain⟨h1,e1⟩:=xE.mp a
 obtain⟨h2,e2⟩:=xE.mp b
 exact(List.getElem_inj hN).mp (e1.trans e2.symm)
theorem zGw {M:Model}{A:Around}{E:Value->Shared->Prop}{i:Nat}{x:Str}{v:V}{u:Value}{Q:Unit->Shared->Prop}(I:Inv X pins σ H s) (hN:X.N.Nodup) (hi:X.N[i]?=some x) (hx:Loc X.env.scope x) (r:RelV v u)
  (h:∀s',Inv X pins (σ.set i (some v)) H s'->(∃a,Heap.SameBut a s.heap s'.heap/\(a=X.env.locals\/X.env.cells.lookup x=some a))->Q () s') (hf:X.fn x=true\/X.env.scope.names.lookup x=some .local:=by first|exact .inl rfl|exact .inr rfl|assumption):wpAny M A (storeName X.env x u) Q E s:=by
 obtain⟨m,hn,hl⟩:=id I.loc
 have hcls:(X.env.scope.kind == .class || (X.env.scope.kind == .module && X.env.locals != X.env.globals))=false:=by rw[I.ok.kind];rfl
 have hiσ:i<σ.length:=by rw[I.len];exact(xE.mp hi).1
 have cne:=I.cne
 have tracked:∀{a:Addr}{h':Heap},(∃o,s.heap.get? a=some o/\H a=none)->Heap.SameBut a s.heap h'->HOk X.prog X.w H h':=fun {a h'} ha hs b ob e=>by
  obtain⟨_,_,hfree⟩:=ha
  refine(I.hok b ob e).stay (fun c w' hc q=>(hs.2 c ?_).trans q) (fun _ q=>q) fun _ _ q=>q
  rintro rfl
  rcases hc with rfl|hc
  ·rw[hfree]at e;cases e
  ·rw[hfree]at hc;cases hc
 rcases hx with hk|hk
 ·refine wpAny_storeName_local hk hn (fun h' hn' hs=>?_) hcls
  obtain⟨oL,_,_,hoL,_⟩:=id hn
  refine h _ ⟨I.ok,I.os,I.bare,⟨fun b o e n hb hx=>?_,fun b o e n hb hx=>?_,I.base.free,fun b o e hx=>?_,I.base.tups,I.base.frzs,I.base.tbls⟩,⟨_,hn',fun j y v' e1 e2 e3=>?_⟩,fun y c e=>?_,I.free,I.freeC,fun p hp=>?_,tracked ⟨oL,hoL,I.free⟩ hs,by simpa using I.len⟩ ⟨_,hs,.inl rfl⟩
  ·exact(hs.2 b (xu (xy (xi e) I.ok.above))).trans (I.base.keep b o e n hb hx)
  ·obtain⟨sl,e1⟩:=I.base.slot b o e n hb hx
   exact⟨sl,(hs.2 b (xu (xy (xi e) I.ok.above))).trans e1⟩
  ·obtain⟨o',e1⟩:=I.base.there b o e hx
   exact⟨o',(hs.2 b (xu (xy (xi e) I.ok.above))).trans e1⟩
  ·by_cases hj:j=i
   ·subst hj
    rw[hi]at e1;cases e1
    rw[vR hiσ]at e2
    cases e2
    exact⟨u,r,.inl ⟨hk,by simp⟩⟩
   ·rw[vS (xB hj)]at e2
    obtain⟨u',r',q⟩:=hl j y v' e1 e2 e3
    refine⟨u',r',?_⟩
    rcases q with⟨k,e⟩|⟨k,c,e,z⟩
    ·refine .inl ⟨k,?_⟩
     have:y≠x:=fun e=>hj (zJh hN e1 (e ▸ hi))
     simp[this,e]
    ·exact .inr ⟨k,c,e,z.sameBut hs (cne y c e)⟩
  ·obtain⟨w',z⟩:=I.cell y c e
   exact⟨w',z.sameBut hs (cne y c e)⟩
  ·obtain⟨e,n,ne,nf,d⟩:=I.pin p hp
   exact⟨(hs.2 p.1 ne).trans e,n,ne,nf,d⟩
 ·have hfn:X.fn x=true:=by
   rcases hf with z|z
   ·exact z
   ·rw[z]at hk;cases hk
  obtain⟨c,hc⟩:=I.ok.has x (.inl hk)
  obtain⟨w',z⟩:=I.cell x c hc
  refine wpAny_storeName_cell I.ok.kind hk hc z (fun h' hc' hs=>?_)
  obtain⟨oc,hoc,hocd⟩:=id z
  refine h { s with heap:=h' } ⟨I.ok,I.os,I.bare,⟨fun b o e n hb hx=>?_,fun b o e n hb hx=>?_,I.base.free,fun b o e hx=>?_,I.base.tups,I.base.frzs,I.base.tbls⟩,⟨m,hn.sameBut hs (xB (cne x c hc)),fun j y v' e1 e2 e3=>?_⟩,fun y c' e=>?_,I.free,I.freeC,fun p hp=>?_,tracked ⟨oc,hoc,I.freeC x c hc⟩ hs,by simpa using I.len⟩ ⟨c,hs,.inr hc⟩
  ·exact(hs.2 b (xu (xy (xi e) (I.ok.cab x c hfn hc)))).trans (I.base.keep b o e n hb hx)
  ·obtain⟨sl,e1⟩:=I.base.slot b o e n hb hx
   exact⟨sl,(hs.2 b (xu (xy (xi e) (I.ok.cab x c hfn hc)))).trans e1⟩
  ·obtain⟨o',e1⟩:=I.base.there b o e hx
   exact⟨o',(hs.2 b (xu (xy (xi e) (I.ok.cab x c hfn hc)))).trans e1⟩
  ·by_cases hj:j=i
   ·subst hj
    rw[hi]at e1;cases e1
    rw[vR hiσ]at e2
    cases e2
    exact⟨u,r,.inr ⟨.inl hk,c,hc,hc'⟩⟩
   ·rw[vS (xB hj)]at e2
    obtain⟨u',r',q⟩:=hl j y v' e1 e2 e3
    refine⟨u',r',?_⟩
    rcases q with q|⟨k,c',e,z'⟩
    ·exact .inl q
    ·refine .inr ⟨k,c',e,z'.sameBut hs ?_⟩
     rintro rfl
     exact hj (zJh hN e1 (I.ok.inj _ _ _ e hc ▸ hi))
  ·by_cases hcc:c'=c
   ·subst hcc;exact⟨_,hc'⟩
   ·obtain⟨w2,z2⟩:=I.cell y c' e
    exact⟨w2,z2.sameBut hs hcc⟩
  ·obtain⟨e,n,ne,nf,d⟩:=I.pin p hp
   refine⟨(hs.2 p.1 ?_).trans e,n,ne,nf,d⟩
   intro q
   rw[q,hoc]at e
   have q':oc=p.2:=xD e
   exact d w' (by rw[<- q'];exact hocd)
theorem zJ3 {M:Model}{A:Around}{E:Value->Shared->Prop}{i:Nat}{x:Str}{v:V}{u:Value}{Q:Unit->Shared->Prop}(I:Inv X pins σ H s) (hN:X.N.Nodup) (hi:X.N[i]?=some x) (hx:Loc X.env.scope x) (r:RelV v u)
  (h:∀s',Inv X pins (σ.set i (some v)) H s'->Q () s') (hf:X.fn x=true\/X.env.scope.names.lookup x=some .local:=by first|exact .inl rfl|exact .inr rfl|assumption):wpAny M A (storeName X.env x u) Q E s:=
 zGw I hN hi hx r (fun s' I' _=>h s' I') hf
theorem Inv.call' {s':Shared}{ch:List Addr}(I:Inv X pins σ H s) (ho:s'.os=s.os) (u:Un (frs X.stack) ch H H' s.heap s'.heap) (hok:HOk X.prog X.w H' s'.heap) (hg:AllBare s'.gens)
  (hch:∀b∈ch,(b∈X.ex\/X.s₀.heap.objs.size<=b)/\b≠X.env.locals/\(∀x c,X.env.cells.lookup x=some c->c≠b)/\∀p∈X.pn++pins,p.1≠b):Inv X pins σ H' s':=by
 obtain⟨h',g',d',t',o'⟩:=s'
 have e:o'=s.os:=ho
 subst e
 exact I.call (g':=g') (t':=t') (d':=d') u hok hg hch
end
noncomputable abbrev XK:=Value->Option Addr->Hp->Prop
noncomputable abbrev St:=List (Option V)
noncomputable abbrev VK:=V->Hp->Prop
noncomputable abbrev TE:=St->Hp->VK->Prop
noncomputable abbrev TT:=St->Hp->(Bool->Hp->Prop)->Prop
noncomputable abbrev TA:=St->Hp->(List V->Hp->Prop)->Prop
structure Ends where
 nx:St->Hp->Prop
 rt:VK
 bk:St->Hp->Prop:=fun _ _=>False
 ct:St->Hp->Prop:=fun _ _=>False
noncomputable abbrev TS:=Ends->St->Hp->Prop
noncomputable def EP (X:Cx) (pins:List (Addr × Obj)) (σ:St) (Q:VK) (u:Value) (s':Shared):Prop:=∃v H',Inv X pins σ H' s'/\RelV v u/\Q v H'
noncomputable def TP (X:Cx) (pins:List (Addr × Obj)) (σ:St) (Q:Bool->Hp->Prop) (b:Bool) (s':Shared):Prop:=∃H',Inv X pins σ H' s'/\Q b H'
noncomputable def AP (X:Cx) (pins:List (Addr × Obj)) (σ:St) (Q:List V->Hp->Prop) (us:List Value) (s':Shared):Prop:=∃vs H',Inv X pins σ H' s'/\Vals vs us/\Q vs H'
noncomputable def SP (X:Cx) (pins:List (Addr × Obj)) (D:Ends) (f:Flow) (s':Shared):Prop:=
 match f with
 | .next=>∃σ' H',Inv X pins σ' H' s'/\D.nx σ' H'
 | .brk=>∃σ' H',Inv X pins σ' H' s'/\D.bk σ' H'
 | .cont=>∃σ' H',Inv X pins σ' H' s'/\D.ct σ' H'
 | .ret u=>∃v σ' H',Inv X pins σ' H' s'/\RelV v u/\D.rt v H'
noncomputable def PE (X:Cx) (e:Expr) (t:TE):Prop:=
 ∀(pins:List (Addr × Obj)) (s:Shared) (σ:St) (H:Hp) (Q:VK),Inv X pins σ H s->t σ H Q->wpAny (model X.prog X.w) X.A (eval e X.env) (EP X pins σ Q) X.xe s
noncomputable def PT (X:Cx) (e:Expr) (t:TT):Prop:=
 ∀(pins:List (Addr × Obj)) (s:Shared) (σ:St) (H:Hp) (Q:Bool->Hp->Prop),Inv X pins σ H s->t σ H Q->wpAny (model X.prog X.w) X.A (isTrue e X.env (eval e X.env)) (TP X pins σ Q) X.xe s
noncomputable def PW (X:Cx) (e:Expr) (t:TT):Prop:=
 ∀(whole:Sem Value) (pins:List (Addr × Obj)) (s:Shared) (σ:St) (H:Hp) (Q:Bool->Hp->Prop),Inv X pins σ H s->t σ H Q->wpAny (model X.prog X.w) X.A (isTrue e X.env whole) (TP X pins σ Q) X.xe s
theorem PW.pt {X:Cx}{e:Expr}{t:TT}(h:PW X e t):PT X e t:=h _
noncomputable def PA (X:Cx) (es:List Expr) (t:TA):Prop:=
 ∀(pos:Pos) (pins:List (Addr × Obj)) (s:Shared) (σ:St) (H:Hp) (Q:List V->Hp->Prop),Inv X pins σ H s->t σ H Q->wpAny (model X.prog X.w) X.A (spliced (backTo pos (starEach es X.env))) (AP X pins σ Q) X.xe s
noncomputable def PS (X:Cx) (st:Stmt) (t:TS):Prop:=
 ∀(pins:List (Addr × Obj)) (s:Shared) (σ:St) (H:Hp) (D:Ends),Inv X pins σ H s->t D σ H->wpAny (model X.prog X.w) X.A (exec st X.env) (SP X pins D) X.xe s
noncomputable def PSs (X:Cx) (st:List Stmt) (t:TS):Prop:=
 ∀(pins:List (Addr × Obj)) (s:Shared) (σ:St) (H:Hp) (D:Ends),Inv X pins σ H s->t D σ H->wpAny (model X.prog X.w) X.A (execs st X.env) (SP X pins D) X.xe s
theorem thn {α:Type}{t:Sem α}{Q Q':α->Shared->Prop}{M:Model}{A:Around}{E:Value->Shared->Prop}{s:Shared}(h:wpAny M A t Q E s) (hQ:∀a s,Q a s->Q' a s):wpAny M A t Q' E s:=x8 h hQ fun _ _ x=>x
end L2
namespace L2
open PySem PySem.Spec PyProof.Rows
section
variable {X:Cx}
noncomputable def tVar (i:Nat):TE:=fun σ H Q=>∃v,σ[i]?=some (some v)/\Q v H
noncomputable def tC (v:V):TE:=fun _ H Q=>Q v H
theorem zUo {i:Nat}{x:Str}{pos:Pos}(hN:X.N[i]?=some x) (hv:Vis X.env.scope x) (hd:(x == ("__debug__":Str))=false:=by decide) (hcd:(x == ("__classdict__":Str))=false:=by decide):PE X (.Name x pos) (tVar i):=by
 intro pins s σ H Q I h
 obtain⟨v,e,h⟩:=h
 obtain⟨m,hn,hl⟩:=I.loc
 obtain⟨u,r,l⟩:=hl i x v hN e hv
 have fin:EP X pins σ Q u s:=⟨v,H,I,r,h⟩
 rcases l with⟨hk,hm⟩|⟨hk,c,hc,hcell⟩
 ·exact wpAny_Name (wpAny_loadName_local I.ok.kind hk hn hm fin) hd
 ·rcases hk with hk|hk
  ·exact wpAny_Name (wpAny_loadName_cell I.ok.kind hk hc hcell fin) hd
  ·exact wpAny_Name (wpAny_loadName_free I.ok.kind hk hc hcell fin hcd) hd
theorem zUt {i j pos}:PE X (.Constant (.int i) j pos) (tC (.int i)):=fun _ _ _ H _ I h=>wpAny_Constant_int ⟨.int i,H,I.tok _,⟨_,rfl⟩,h⟩
theorem zWv {b j pos}:PE X (.Constant (.bool b) j pos) (tC (.bl b)):=fun _ _ _ H _ I h=>Constant_bool ⟨.bl b,H,I,rfl,h⟩
noncomputable def Gl (X:Cx) (x:Str):Prop:=X.env.kindOf x=some .globalImplicit
theorem zSp {E:Value->Shared->Prop}{pins:List (Addr × Obj)}{s:Shared}{σ:St}{H:Hp}{x:Str}{u:Value}{pos:Pos}{Q:Value->Shared->Prop}(I:Inv X pins σ H s) (hg:Gl X x) (hm:X.mg x=some u) (h:Q u s)
  (hd:(x == ("__debug__":Str))=false:=by decide):wpAny (model X.prog X.w) X.A (eval (.Name x pos) X.env) Q E s:=
 Calls.Name_function_global I.ok.kind hg (Calls.loadGlobal_global (by rw[I.ok.glob];exact I.mod.glob.keeps I.bk) hm h) hd
theorem zE0 {E:Value->Shared->Prop}{pins:List (Addr × Obj)}{s:Shared}{σ:St}{H:Hp}{x:Str}{u:Value}{pos:Pos}{Q:Value->Shared->Prop}(I:Inv X pins σ H s) (hg:Gl X x) (hm:X.mg x=none) (hv:bootBuiltins x=some u) (h:Q u s)
  (hn:x≠"__name__":=by decide) (hd:(x == ("__debug__":Str))=false:=by decide):wpAny (model X.prog X.w) X.A (eval (.Name x pos) X.env) Q E s:=by
 obtain⟨mb,h1,h2⟩:=I.mod.blt
 exact Calls.Name_function_global I.ok.kind hg (Calls.loadGlobal_builtin (by rw[I.ok.glob];exact I.mod.glob.keeps I.bk) hm (by rw[I.ok.blt];exact h1.keeps I.bk) ((h2 x hn).trans hv) h) hd
variable {a b:Expr}{ta tb:TE}{pos:Pos}
variable {tA tB':TT}{rest:List Expr}
noncomputable def tAnd (t u:TT):TT:=fun σ H Q=>t σ H fun c H1=>if c=true then u σ H1 Q else Q false H1
noncomputable def tOr (t u:TT):TT:=fun σ H Q=>t σ H fun c H1=>if c=true then Q true H1 else u σ H1 Q
noncomputable def tNot (t:TT):TT:=fun σ H Q=>t σ H fun c H1=>Q (!c) H1
theorem zRj (ha:PT X a tA):PW X (.BoolOp .And [a] pos) tA:=by
 intro wh pins s σ H Q I h
 refine isTrue_and (thn (ha pins s σ H Q I h) fun c s1 e=>?_)
 cases c with
 | true=>exact isTrue_and_nil e
 | false=>exact e
theorem zUd (ha:PT X a tA):PW X (.BoolOp .Or [a] pos) tA:=by
 intro wh pins s σ H Q I h
 refine isTrue_or (thn (ha pins s σ H Q I h) fun c s1 e=>?_)
 cases c with
 | false=>exact isTrue_or_nil e
 | true=>exact e
theorem zUf (ha:PT X a tA) (hb:PW X (.BoolOp .And (b::rest) pos) tB'):PW X (.BoolOp .And (a::b::rest) pos) (tAnd tA tB'):=by
 intro wh pins s σ H Q I h
 refine isTrue_and (thn (ha pins s σ H _ I h) fun c s1 hq1=>?_)
 obtain⟨H1,I1,q1⟩:=hq1
 cases c with
 | true=>exact hb wh pins s1 σ H1 Q I1 q1
 | false=>exact⟨H1,I1,q1⟩
theorem zWp (ha:PT X a tA) (hb:PW X (.BoolOp .Or (b::rest) pos) tB'):PW X (.BoolOp .Or (a::b::rest) pos) (tOr tA tB'):=by
 intro wh pins s σ H Q I h
 refine isTrue_or (thn (ha pins s σ H _ I h) fun c s1 hq1=>?_)
 obtain⟨H1,I1,q1⟩:=hq1
 cases c with
 | true=>exact⟨H1,I1,q1⟩
 | false=>exact hb wh pins s1 σ H1 Q I1 q1
theorem zUg (ha:PT X a tA):PT X (.UnaryOp .Not a pos) (tNot tA):=by
 intro pins s σ H Q I h
 exact isTrue_not (ha pins s σ H (fun c H1=>Q (!c) H1) I h)
end
end L2
namespace L2
open PySem PySem.Spec PyProof.Rows
noncomputable def SqL (K:PySem.W.Frag) (H:Hp) (a:Addr) (xs:List V):Prop:=
 Rd H a (.lst xs) \/
  ∃(o:Obj) (its:Array Value) (n:Nat),K.lookup a=some o/\o.cls=.type "list"/\o.dict=none/\o.data=.seq its n/\its.size<=sizeLine/\Vals xs its.toList
noncomputable def SqT (K:PySem.W.Frag) (H:Hp) (a:Addr) (xs:List V):Prop:=
 Rd H a (.tup xs) \/
  ∃(o:Obj) (its:Array Value) (n:Nat),K.lookup a=some o/\o.cls=.type "tuple"/\o.data=.seq its n/\its.size<=sizeLine/\Vals xs its.toList
noncomputable def absV:Value->Option V
 | .none=>some .non
 | .bool b=>some (.bl b)
 | .int i _=>some (.int i)
 | .str x _=>some (.str x)
 | .bytes b _=>some (.byt b)
 | .float b _=>some (.flt b)
 | .ref a=>some (.ref a)
 | .type n=>some (.ty n)
 | _=>none
theorem RelV.abs {x:V}{u:Value}(r:RelV x u):absV u=some x:=by
 cases x with
 | non=>cases r;rfl
 | bl _=>cases r;rfl
 | int _=>obtain⟨t,rfl⟩:=r;rfl
 | str _=>obtain⟨t,rfl⟩:=r;rfl
 | byt _=>obtain⟨t,rfl⟩:=r;rfl
 | flt _=>obtain⟨t,rfl⟩:=r;rfl
 | ref _=>cases r;rfl
 | ty _=>cases r;rfl
theorem RelV.inj {x y:V}{u:Value}(r:RelV x u) (q:RelV y u):x=y:=xD (r.abs.symm.trans q.abs)
theorem Vals.inj:∀{xs ys:List V}{us:List Value},Vals xs us->Vals ys us->xs=ys
 | _,_,_,.nil,.nil=>rfl
 | _,_,_,.cons r t,.cons r' t'=>by rw[r.inj r',Vals.inj t t']
section
variable {X:Cx}{pins:List (Addr × Obj)}{σ:St}{H:Hp}{s:Shared}{a:Addr}{xs ys:List V}
theorem SqL.of {K:PySem.W.Frag}(h:H a=some (.lst xs)):SqL K H a xs:=.inl (.inl h)
theorem SqT.of {K:PySem.W.Frag}(h:H a=some (.tup xs)):SqT K H a xs:=.inl (.inl h)
theorem Inv.list (I:Inv X pins σ H s) (h:SqL X.K H a xs):∃its:List Value,Vals xs its/\PlainL s.heap a its.toArray/\xs.length<=sizeLine:=by
 rcases h with h|⟨o,its,n,hk,hc,hd,hs,hz,r⟩
 ·obtain⟨z,its,n,r,e⟩:=h.ok I.hok
  exact⟨its,r,⟨_,n,e,rfl,rfl,rfl⟩,z⟩
 ·refine⟨its.toList,r,⟨o,n,I.kIn a o hk,hc,hd,by simpa using hs⟩,?_⟩
  have e:=r.length
  simp only[vx]at e
  lia
theorem Inv.tuple (I:Inv X pins σ H s) (h:SqT X.K H a xs):∃its:List Value,Vals xs its/\IsTup s.heap a its.toArray/\xs.length<=sizeLine:=by
 rcases h with h|⟨o,its,n,hk,hc,hs,hz,r⟩
 ·obtain⟨z,its,r,p⟩:=h.ok I.hok
  exact⟨its,r,p,z⟩
 ·refine⟨its.toList,r,⟨o,I.kIn a o hk,hc,n,by simpa using hs⟩,?_⟩
  have e:=r.length
  simp only[vx]at e
  lia
theorem Inv.list_inj (I:Inv X pins σ H s) (h:SqL X.K H a xs) (h':SqL X.K H a ys):xs=ys:=by
 obtain⟨its,r,⟨o,n,e,_,_,d⟩,_⟩:=I.list h
 obtain⟨its',r',⟨o',n',e',_,_,d'⟩,_⟩:=I.list h'
 rw[e]at e';cases e'
 rw[d]at d'
 injection d' with d1 _
 have:its=its':=by simpa using congrArg Array.toList d1
 subst this
 exact r.inj r'
theorem Inv.tuple_inj (I:Inv X pins σ H s) (h:SqT X.K H a xs) (h':SqT X.K H a ys):xs=ys:=by
 obtain⟨its,r,⟨o,e,_,n,d⟩,_⟩:=I.tuple h
 obtain⟨its',r',⟨o',e',_,n',d'⟩,_⟩:=I.tuple h'
 rw[e]at e';cases e'
 rw[d]at d'
 injection d' with d1 _
 have:its=its':=by simpa using congrArg Array.toList d1
 subst this
 exact r.inj r'
end
noncomputable abbrev Cx.wish (X:Cx) (E:Value->Shared->Prop):Cx:={ X with xe:=E }
noncomputable abbrev Cx.nox (X:Cx):Cx:=X.wish fun _ _=>False
theorem Cx.Ok.wish {X:Cx}(ok:X.Ok) (E:Value->Shared->Prop):(X.wish E).Ok:=
 ⟨ok.mod,ok.kind,ok.glob,ok.blt,ok.above,ok.inj,ok.has,ok.cab,ok.hd,ok.frames,ok.stk,ok.exf,ok.bs,ok.bsz,ok.noex,ok.exfs,ok.funs,ok.frf,ok.gds⟩
theorem Cx.Ok.unwish {X:Cx}{E:Value->Shared->Prop}(ok:(X.wish E).Ok):X.Ok:=
 ⟨ok.mod,ok.kind,ok.glob,ok.blt,ok.above,ok.inj,ok.has,ok.cab,ok.hd,ok.frames,ok.stk,ok.exf,ok.bs,ok.bsz,ok.noex,ok.exfs,ok.funs,ok.frf,ok.gds⟩
section
variable {X:Cx}{pins:List (Addr × Obj)}{σ:St}{H:Hp}{s:Shared}{E:Value->Shared->Prop}
theorem Inv.wish (I:Inv X pins σ H s) (E:Value->Shared->Prop):Inv (X.wish E) pins σ H s:=⟨I.ok.wish E,I.os,I.bare,I.base,I.loc,I.cell,I.free,I.freeC,I.pin,I.hok,I.len⟩
theorem Inv.unwish (I:Inv (X.wish E) pins σ H s):Inv X pins σ H s:=⟨I.ok.unwish,I.os,I.bare,I.base,I.loc,I.cell,I.free,I.freeC,I.pin,I.hok,I.len⟩
theorem SP.unwish {D:Ends}{f:Flow}{s':Shared}(h:SP (X.wish E) pins D f s'):SP X pins D f s':=by
 cases f with
 | next=>obtain⟨σ',H',I,q⟩:=h;exact⟨σ',H',I.unwish,q⟩
 | brk=>obtain⟨σ',H',I,q⟩:=h;exact⟨σ',H',I.unwish,q⟩
 | cont=>obtain⟨σ',H',I,q⟩:=h;exact⟨σ',H',I.unwish,q⟩
 | ret u=>obtain⟨v,σ',H',I,r,q⟩:=h;exact⟨v,σ',H',I.unwish,r,q⟩
theorem PSs.nox {st:List Stmt}{t:TS}(h:PSs X.nox st t):PSs X st t:=fun pins s σ H D I hw=>
 x8 (h pins s σ H D (I.wish _) hw) (fun _ _ q=>q.unwish) fun _ _ z=>False.elim z
end
section
variable {X:Cx}{st:Stmt}{rest:List Stmt}{t u:TS}{e:Expr}{te:TE}{pos:Pos}
noncomputable def zU4:TS:=fun D σ H=>D.nx σ H
noncomputable def tSeq (t u:TS):TS:=fun D σ H=>t { D with nx:=u D } σ H
theorem zRp:PSs X [] zU4:=fun _ _ σ H _ I h=>wpAny_execs_nil ⟨σ,H,I,h⟩
theorem zOe (h1:PS X st t) (h2:PSs X rest u):PSs X (st::rest) (tSeq t u):=by
 intro pins s σ H D I h
 refine wpAny_execs_cons (thn (h1 pins s σ H { D with nx:=u D } I h) fun f s1 q=>?_)
 cases f with
 | next=>
  obtain⟨σ',H',I',q⟩:=q
  exact h2 pins s1 σ' H' D I' q
 | ret v=>exact q
 | brk=>exact q
 | cont=>exact q
theorem zRo (h1:PS X st t):PSs X [st] t:=by
 intro pins s σ H D I h
 refine wpAny_execs_cons (thn (h1 pins s σ H D I h) fun f s1 q=>?_)
 cases f with
 | next=>exact wpAny_execs_nil q
 | ret v=>exact q
 | brk=>exact q
 | cont=>exact q
theorem Inv.quiet {pins:List (Addr × Obj)}{σ:St}{H:Hp}{s:Shared}(I:Inv X pins σ H s):interactive X.env=false:=by simp[interactive,I.ok.kind]
noncomputable def zQy (te:TE):TS:=fun D σ H=>te σ H fun _ H1=>D.nx σ H1
theorem zRs (he:PE X e te) (hs:swapsWith e none pos.line X.env=pure false:=by rfl):PS X (.Expr e pos) (zQy te):=by
 intro pins s σ H D I h
 exact wpAny_Expr_any (thn (he pins s σ H _ I h) fun v s1 hz1=>by obtain⟨x,H1,I1,r1,q1⟩:=hz1;exact ⟨σ,H1,I1,q1⟩) I.quiet hs
noncomputable def tRet (te:TE):TS:=fun D σ H=>te σ H D.rt
theorem zUi (he:PE X e te):PS X (.Return (some e) pos) (tRet te):=by
 intro pins s σ H D I h
 exact wpAny_Return_some (thn (he pins s σ H _ I h) fun v s1 hz2=>by obtain⟨x,H1,I1,r1,q1⟩:=hz2;exact ⟨x,σ,H1,I1,r1,q1⟩)
noncomputable def tIfS (c:TT) (t u:TS):TS:=fun D σ H=>c σ H fun b H1=>if b=true then t D σ H1 else u D σ H1
theorem zWq {c:Expr}{a b:List Stmt}{tc:TT}(hc:PT X c tc) (ha:PSs X a t) (hb:PSs X b u):PS X (.If c a b pos) (tIfS tc t u):=by
 intro pins s σ H D I h
 refine wpAny_If (thn (hc pins s σ H _ I h) fun d s1 hq1=>?_)
 obtain⟨H1,I1,q1⟩:=hq1
 cases d with
 | true=>exact ha pins s1 σ H1 D I1 q1
 | false=>exact hb pins s1 σ H1 D I1 q1
end
noncomputable abbrev TG:=V->St->Hp->(St->Hp->Prop)->Prop
noncomputable abbrev TGs:=List V->St->Hp->(St->Hp->Prop)->Prop
noncomputable def PG (X:Cx) (target:Expr) (t:TG):Prop:=
 ∀(pins:List (Addr × Obj)) (s:Shared) (σ:St) (H:Hp) (v:V) (u:Value) (Q:St->Hp->Prop),Inv X pins σ H s->RelV v u->t v σ H Q->
  wpAny (model X.prog X.w) X.A (assign target X.env u) (fun _ s'=>∃σ' H',Inv X pins σ' H' s'/\Q σ' H') X.xe s
noncomputable def PGs (X:Cx) (ts:List Expr) (t:TGs):Prop:=
 ∀(pins:List (Addr × Obj)) (s:Shared) (σ:St) (H:Hp) (vs:List V) (us:List Value) (Q:St->Hp->Prop),Inv X pins σ H s->Vals vs us->t vs σ H Q->
  wpAny (model X.prog X.w) X.A (assignInOrder ((assignEach ts X.env).map (·.2)) us) (fun _ s'=>∃σ' H',Inv X pins σ' H' s'/\Q σ' H') X.xe s
noncomputable abbrev TSet:=V->V->V->Hp->(Hp->Prop)->Prop
noncomputable def PSet (X:Cx) (t:TSet):Prop:=
 ∀(pins:List (Addr × Obj)) (s:Shared) (σ:St) (H:Hp) (o i v:V) (ov iv u:Value) (Q:Hp->Prop),Inv X pins σ H s->RelV o ov->RelV i iv->RelV v u->t o i v H Q->
  wpAny (model X.prog X.w) X.A (setItem ov iv u) (fun _ s'=>∃H',Inv X pins σ H' s'/\Q H') X.xe s
section
variable {X:Cx}{pos:Pos}
noncomputable def gName (i:Nat):TG:=fun v σ H Q=>Q (σ.set i (some v)) H
theorem zRx {i:Nat}{x:Str}(hN:X.N.Nodup) (hi:X.N[i]?=some x) (hx:Loc X.env.scope x) (hf:X.fn x=true\/X.env.scope.names.lookup x=some .local:=by first|exact .inl rfl|exact .inr rfl|assumption):PG X (.Name x pos) (gName i):=by
 intro pins s σ H v u Q I r h
 exact wpAny_assign_Name (zJ3 I hN hi hx r (fun s' I'=>⟨_,H,I',h⟩) hf)
noncomputable def gNil:TGs:=fun vs σ H Q=>vs=[]/\Q σ H
noncomputable def zT2 (t:TG) (u:TGs):TGs:=fun vs σ H Q=>∃v r,vs=v::r/\t v σ H fun σ' H'=>u r σ' H' Q
theorem zRv:PGs X [] gNil:=by
 intro pins s σ H vs us Q I r h
 obtain⟨e,h⟩:=h
 subst e
 cases r
 exact assignInOrder_nil ⟨σ,H,I,h⟩
theorem zOm {e:Expr}{es:List Expr}{t:TG}{u:TGs}(h1:PG X e t) (h2:PGs X es u)
  (hs:(assignEach (e::es) X.env).map (·.2)=assign e X.env::(assignEach es X.env).map (·.2):=by rfl):PGs X (e::es) (zT2 t u):=by
 intro pins s σ H vs us Q I r h
 obtain⟨v,vr,e1,h⟩:=h
 subst e1
 cases r with
 | cons r rr=>
  rw[hs]
  refine assignInOrder_cons (thn (h1 pins s σ H _ _ _ I r h) fun _ s1 hq1=>?_)
  obtain⟨σ1,H1,I1,q1⟩:=hq1
  exact h2 pins s1 σ1 H1 _ _ Q I1 rr q1
noncomputable def gTup (K:PySem.W.Frag) (n:Nat) (t:TGs):TG:=fun v σ H Q=>∃a xs,v=.ref a/\SqT K H a xs/\xs.length=n/\t xs σ H Q
theorem zUm {es:List Expr}{k:Nat}{t:TGs}{n:Nat}(hc:X.calm=true) (h:PGs X es t)
  (hn:(assignEach es X.env).length=n:=by rfl) (hst:(assignEach es X.env).findIdx? (·.1)=none:=by rfl):PG X (.Tuple es k pos) (gTup X.K n t):=by
 intro pins s σ H v u Q I r hw
 obtain⟨a,xs,e1,hq,hl,hw⟩:=hw
 subst e1
 cases r
 obtain⟨its,rv,ht,hz⟩:=I.tuple hq
 refine assign_Tuple_tuple (I.ok.hd hc) ht (by simp[hn,<- hl,rv.length]) hst fun h' hx=>?_
 have I1:Inv X pins σ H { s with heap:=h' }:=I.kept (t':=s.toks) fun b o e=>hx b o (xu (xi e)) e
 exact h pins _ σ H xs _ Q I1 (by simpa using rv) hw
noncomputable def gSub (to ti:TE) (t:TSet):TG:=fun v σ H Q=>to σ H fun o H1=>ti σ H1 fun i H2=>t o i v H2 fun H3=>Q σ H3
theorem zUn {o i:Expr}{to ti:TE}{t:TSet}(ho:PE X o to) (hi:PE X i ti) (hs:PSet X t)
  (ha:∀v,assign (.Subscript o i pos) X.env v=(do
   let ov <- holding [v] (eval o X.env)
   let iv <- holding [v,ov] (eval i X.env)
   standAt pos
   holding [v,ov,iv] (setItem ov iv v)
   release [v,ov,iv] []):=by intro _;rfl):PG X (.Subscript o i pos) (gSub to ti t):=by
 intro pins s σ H v u Q I r h
 rw[ha]
 refine xa (xG (thn (ho pins s σ H _ I h) fun ov s1 hq1=>?_))
 obtain⟨x,H1,I1,r1,q1⟩:=hq1
 refine xa (xG (thn (hi pins s1 σ H1 _ I1 q1) fun iv s2 hq1=>?_))
 obtain⟨y,H2,I2,r2,q2⟩:=hq1
 refine xa (wpAny_standAt (xa (xG (thn (hs pins s2 σ H2 x y v ov iv u _ I2 r1 r2 r q2) fun _ s3 hq1=>?_))))
 obtain⟨H3,I3,q3⟩:=hq1
 exact wpAny_release ⟨σ,H3,I3,q3⟩
noncomputable def tAsg (te:TE) (g:TG):TS:=fun D σ H=>te σ H fun x H1=>g x σ H1 D.nx
theorem zQ2 {tg e:Expr}{te:TE}{g:TG}(he:PE X e te) (hg:PG X tg g) (hs:swapsWithSole [tg] e pos.line X.env=pure false:=by rfl) (hw:swappedStores [tg] e X.env=pure none:=by rfl)
  (h1:(assignEach [tg] X.env).map (·.2)=[assign tg X.env]:=by rfl):PS X (.Assign [tg] e pos) (tAsg te g):=by
 intro pins s σ H D I h
 refine wpAny_Assign_stores (thn (he pins s σ H _ I h) fun v s1 hq1=>?_) hs hw
 obtain⟨x,H1,I1,r1,q1⟩:=hq1
 rw[h1]
 exact thn (hg pins s1 σ H1 x v _ I1 r1 q1) fun _ s2 q=>q
theorem zUh {i:Nat}{x:Str}{e:Expr}{te:TE}{pos':Pos}(hN:X.N.Nodup) (hi:X.N[i]?=some x) (hx:Loc X.env.scope x) (he:PE X e te) (hs:swapsWith e (some (.Name x pos')) pos.line X.env=pure false:=by rfl) (hf:X.fn x=true\/X.env.scope.names.lookup x=some .local:=by first|exact .inl rfl|exact .inr rfl|assumption):
  PS X (.Assign [.Name x pos'] e pos) (tAsg te (gName i)):=by
 intro pins s σ H D I h
 refine wpAny_Assign_Name (thn (he pins s σ H _ I h) fun v s1 hq1=>?_) hs
 obtain⟨y,H1,I1,r1,q1⟩:=hq1
 exact zJ3 I1 hN hi hx r1 (fun s2 I2=>⟨_,H1,I2,q1⟩) hf
end
section
variable {X:Cx}{pos:Pos}
noncomputable def zPu (c:TT) (tb:TS):TS:=fun D σ H=>∃W:Nat->St->Hp->Prop,(∃m,W m σ H)/\∀m σ H,W m σ H->
 c σ H fun b H1=>if b=true then ∃N:St->Hp->Prop,(∀σ' H',N σ' H'->∃m',m'<m/\W m' σ' H')/\tb { D with nx:=N,ct:=N,bk:=D.nx } σ H1 else D.nx σ H1
theorem zOf {c:Expr}{body:List Stmt}{tc:TT}{tb:TS}(hp:PassesOwn (model X.prog X.w) X.A X.env X.xe) (hc:PT X c tc) (hb:PSs X body tb):PS X (.While c body [] pos) (zPu tc tb):=by
 intro pins s σ H D I h
 obtain⟨W,⟨m0,w0⟩,turn⟩:=h
 refine wpAny_While (codeAny_whileLoop (fun n s'=>∃σ' H',Inv X pins σ' H' s'/\W n σ' H') ?_ m0 ⟨σ,H,I,w0⟩)
 rintro n s1 ⟨σ1,H1,I1,w1⟩
 refine v5 hp (thn (hc pins s1 σ1 H1 _ I1 (turn n σ1 H1 w1)) fun b s2 hq1=>?_)
 obtain⟨H2,I2,q2⟩:=hq1
 cases b with
 | true=>
  obtain⟨N,hN,q2⟩:=q2
  rw[xc rfl]
  refine v5 hp (thn (hb pins s2 σ1 H2 _ I2 q2) fun f s3 q3=>?_)
  cases f with
  | next=>
   obtain⟨σ3,H3,I3,n3⟩:=q3
   obtain⟨m',hm,w3⟩:=hN σ3 H3 n3
   exact⟨m',hm,σ3,H3,I3,w3⟩
  | cont=>
   obtain⟨σ3,H3,I3,n3⟩:=q3
   obtain⟨m',hm,w3⟩:=hN σ3 H3 n3
   exact⟨m',hm,σ3,H3,I3,w3⟩
  | brk=>exact q3
  | ret v=>exact q3
 | false=>
  rw[xf xQ]
  exact wpAny_execs_nil ⟨σ1,H2,I2,q2⟩
end
structure It where
 go:Nat->Hp->Prop
 yld:Nat->Hp->V->Hp->Prop
 stop:Nat->Hp->Prop
noncomputable def FpOk (X:Cx) (pins:List (Addr × Obj)) (H:Hp) (b:Addr):Prop:=
 H b=none/\b≠X.env.locals/\b ∉ X.fs/\(b∈X.ex\/X.s₀.heap.objs.size<=b)/\(∀x c,X.env.cells.lookup x=some c->c≠b)/\∀p∈X.pn++pins,p.1≠b
theorem Inv.fpOk {X:Cx}{pins:List (Addr × Obj)}{σ:St}{H H':Hp}{s:Shared}{b:Addr}(I:Inv X pins σ H s) (hb:s.heap.objs.size<=b) (hn:H' b=none):FpOk X pins H' b:=by
 refine⟨hn,Nat.ne_of_gt (xy I.lt hb),I.nofs hb,.inr (xm I.sz hb),fun x c e z=>?_,fun p hp z=>?_⟩
 ·obtain⟨v,q⟩:=I.cell x c e
  exact absurd (xy q.lt (by rw[z];exact hb)) (xX _)
 ·exact absurd (xy (xi (I.pin p hp).1) (by rw[z];exact hb)) (xX _)
structure Turn (P:Program) (w:World) (K:PySem.W.Frag) (tg:Expr) (J:It) (fp:List Addr) (it:Addr) (tn:Nat->Heap->Prop):Prop where
 mem:it∈fp
 obj:∀i h,tn i h->∀b∈fp,∃o,h.get? b=some o/\∀v,o.data≠.cell v
 keep:∀i h h',tn i h->(∀b∈fp,∀o,h.get? b=some o->h'.get? b=some o)->tn i h'
 item:∀(X:Cx),X.prog=P->X.w=w->X.K=K->X.calm=true->∀(i:Nat) (pins:List (Addr × Obj)) (s:Shared) (σ:St) (H:Hp) (E:Value->Shared->Prop),Inv X pins σ H s->(∀b∈fp,FpOk X pins H b)->tn i s.heap->J.go i H->
  wpAny (model P w) X.A (pyNext (.ref it)) (fun r s1=>∃u,r=some u /\
   wpAny (model P w) X.A (letOwnedTupleGo tg (.ref it) u) (fun _ s2=>∃x H',Inv X pins σ H' s2/\RelV x u/\J.yld i H x H'/\tn (i+1) s2.heap/\∀b∈fp,H' b=none) E s1) E s
 done:∀(X:Cx),X.prog=P->X.w=w->X.K=K->X.calm=true->∀(i:Nat) (pins:List (Addr × Obj)) (s:Shared) (σ:St) (H:Hp) (E:Value->Shared->Prop),Inv X pins σ H s->(∀b∈fp,FpOk X pins H b)->tn i s.heap->J.stop i H->
  wpAny (model P w) X.A (pyNext (.ref it)) (fun r s1=>r=none/\Inv X pins σ H s1) E s
 self:∀(A:Around) (i:Nat) (s:Shared) (Q:Value->Shared->Prop) (E:Value->Shared->Prop),tn i s.heap->Q (.ref it) s->wpAny (model P w) A (pyIter (.ref it)) Q E s
noncomputable abbrev TI:=St->Hp->(It->Hp->Prop)->Prop
noncomputable def PIE (X:Cx) (pins:List (Addr × Obj)) (σ:St) (tg:Expr) (R:It->Hp->Prop) (itv:Value) (s2:Shared):Prop:=
 ∃(it:Addr) (fp:List Addr) (tn:Nat->Heap->Prop) (J:It) (H':Hp),itv=.ref it/\Inv X pins σ H' s2/\Turn X.prog X.w X.K tg J fp it tn/\tn 0 s2.heap/\(∀b∈fp,FpOk X pins H' b)/\R J H'
noncomputable def PI (X:Cx) (tg iter:Expr) (wi:TI):Prop:=
 ∀(pins:List (Addr × Obj)) (s:Shared) (σ:St) (H:Hp) (R:It->Hp->Prop),Inv X pins σ H s->wi σ H R->
  wpAny (model X.prog X.w) X.A (eval iter X.env) (fun v s1=>wpAny (model X.prog X.w) X.A (pyIter v) (PIE X pins σ tg R) X.xe s1) X.xe s
theorem zP9 {M:Model}{A:Around}{E:Value->Shared->Prop}{s:Shared}{tg:Expr}{it:Addr}{u:Value}{o:Obj}{n:String}{vs:Array Value}{Q:Unit->Shared->Prop}(ho:s.heap.get? it=some o) (hc:o.cls=.type n) (hd:o.data=.fields vs)
    (hn:["enumerate","zip","dict_itemiterator","dict_reverseitemiterator","odict_iterator","itertools.zip_longest","itertools.pairwise"].contains n=false) (hQ:Q () s):wpAny M A (letOwnedTupleGo tg (.ref it) u) Q E s:=by
  unfold letOwnedTupleGo
  cases tg <;> first
    | exact xg hQ
    | (cases u <;> first
        | exact xg hQ
        | (refine xa (wpAny_load ho ?_)
           rw[hc,hd]
           show wpAny M A (if(["enumerate","zip","dict_itemiterator","dict_reverseitemiterator","odict_iterator","itertools.zip_longest","itertools.pairwise"].contains n && vs[0]? == some (rawInt _))=true then _ else _) Q E s
           rw[xf (by intro h;rw[hn,Bool.false_and]at h;cases h)]
           exact xg hQ))
noncomputable def Itl (K:PySem.W.Frag) (a:Addr):It:=
 ⟨fun i H=>∃xs x,SqL K H a xs/\xs[i]?=some x,fun i H x H'=>H'=H/\∀xs,SqL K H a xs->xs[i]?=some x,fun i H=>∃xs,SqL K H a xs/\xs.length<=i⟩
noncomputable def Itt (K:PySem.W.Frag) (a:Addr):It:=
 ⟨fun i H=>∃xs x,SqT K H a xs/\xs[i]?=some x,fun i H x H'=>H'=H/\∀xs,SqT K H a xs->xs[i]?=some x,fun i H=>∃xs,SqT K H a xs/\xs.length<=i⟩
noncomputable def Itr (lo:Int) (n:Nat):It:=⟨fun i _=>i<n,fun i H x H'=>H'=H/\x=.int (lo+i),fun i _=>n<=i⟩
theorem zL3 {P:Program}{w:World}{K:PySem.W.Frag}{tg:Expr}(a it:Addr):Turn P w K tg (Itl K a) [it] it (fun i h=>h.IsListIter it a i) where
 mem:=by simp
 obj:=fun i h st b hb=>by
  have e:b=it:=by simpa using hb
  subst e
  obtain⟨o,e,c,d⟩:=st
  exact⟨o,e,fun v z=>by rw[d]at z;cases z⟩
 keep:=fun i h h' st k=>st.at fun o e=>k it (by simp) o e
 item:=by
  intro X hP hw hK hc i pins s σ H E I hf st hg
  subst hP hw hK
  obtain⟨xs,x,hq,hx⟩:=hg
  obtain⟨its,rv,p,hz⟩:=I.list hq
  obtain⟨u,hu,ru⟩:=rv.get hx
  obtain⟨f0,f1,f2,f3,f4,f5⟩:=hf it (by simp)
  refine wpAny_pyNext_list_item st p.isList (x:=u) (by simpa using hu) fun h' st' sb=>?_
  have I1:Inv X pins σ H { s with heap:=h' }:=I.turned (t':=s.toks) (fun b o hb e=>(sb.2 b hb).trans e) f0 f1 f3 f4 f5
  obtain⟨o,e,c,d⟩:=id st'
  exact⟨u,rfl,zP9 (s:={ s with heap:=h' }) e c d (by decide) ⟨x,H,I1,ru,⟨rfl,fun ys hy=>by rw[I.list_inj hy hq];exact hx⟩,st',fun b hb=>(hf b hb).1⟩⟩
 done:=by
  intro X hP hw hK hc i pins s σ H E I hf st hg
  subst hP hw hK
  obtain⟨xs,hq,hx⟩:=hg
  obtain⟨its,rv,p,hz⟩:=I.list hq
  obtain⟨f0,f1,f2,f3,f4,f5⟩:=hf it (by simp)
  have hl:=rv.length
  exact wpAny_pyNext_list_end (I.ok.hd hc) st p.isList (by simp;lia) fun h' eb=>⟨rfl,I.turned (t':=s.toks) (fun b o hb e=>eb b o hb e) f0 f1 f3 f4 f5⟩
 self:=fun _ _ _ _ _ st h=>wpAny_pyIter_listiter st h
theorem zK6 {P:Program}{w:World}{K:PySem.W.Frag}{tg:Expr}(a it:Addr):Turn P w K tg (Itt K a) [it] it (fun i h=>h.IsTupleIter it a i) where
 mem:=by simp
 obj:=fun i h st b hb=>by
  have e:b=it:=by simpa using hb
  subst e
  obtain⟨o,e,c,d⟩:=st
  exact⟨o,e,fun v z=>by rw[d]at z;cases z⟩
 keep:=fun i h h' st k=>st.at fun o e=>k it (by simp) o e
 item:=by
  intro X hP hw hK hc i pins s σ H E I hf st hg
  subst hP hw hK
  obtain⟨xs,x,hq,hx⟩:=hg
  obtain⟨its,rv,p,hz⟩:=I.tuple hq
  obtain⟨u,hu,ru⟩:=rv.get hx
  obtain⟨f0,f1,f2,f3,f4,f5⟩:=hf it (by simp)
  refine wpAny_pyNext_tuple_item st (show s.heap.IsTuple a its.toArray from p) (x:=u) (by simpa using hu) fun h' st' sb=>?_
  have I1:Inv X pins σ H { s with heap:=h' }:=I.turned (t':=s.toks) (fun b o hb e=>(sb.2 b hb).trans e) f0 f1 f3 f4 f5
  obtain⟨o,e,c,d⟩:=id st'
  exact⟨u,rfl,zP9 (s:={ s with heap:=h' }) e c d (by decide) ⟨x,H,I1,ru,⟨rfl,fun ys hy=>by rw[I.tuple_inj hy hq];exact hx⟩,st',fun b hb=>(hf b hb).1⟩⟩
 done:=by
  intro X hP hw hK hc i pins s σ H E I hf st hg
  subst hP hw hK
  obtain⟨xs,hq,hx⟩:=hg
  obtain⟨its,rv,p,hz⟩:=I.tuple hq
  obtain⟨f0,f1,f2,f3,f4,f5⟩:=hf it (by simp)
  have hl:=rv.length
  exact wpAny_pyNext_tuple_end (I.ok.hd hc) st (show s.heap.IsTuple a its.toArray from p) (by simp;lia) fun h' eb=>⟨rfl,I.turned (t':=s.toks) (fun b o hb e=>eb b o hb e) f0 f1 f3 f4 f5⟩
 self:=fun _ _ _ _ _ st h=>wpAny_pyIter_tupleiter st h
theorem zK7 {P:Program}{w:World}{K:PySem.W.Frag}{tg:Expr}(it:Addr) (lo:Int) (n:Nat):Turn P w K tg (Itr lo n) [it] it (fun i h=>IsRangeIter h it (lo+(i:Nat)*1) ((n:Int)-(i:Nat)) 1) where
 mem:=by simp
 obj:=fun i h st b hb=>by
  have e:b=it:=by simpa using hb
  subst e
  exact⟨_,st,fun v z=>by
   have z':Data.fields _=Data.cell v:=z
   cases z'⟩
 keep:=fun i h h' st k=>k it (by simp) _ st
 item:=by
  intro X hP hw hK hc i pins s σ H E I hf st hg
  subst hP hw hK
  obtain⟨f0,f1,f2,f3,f4,f5⟩:=hf it (by simp)
  have W:=Walks.range (prog:=X.prog) (w:=X.w) (I.ok.hd hc) it lo 1 n
  refine W.item i s _ _ hg st fun v h' tk hv st' kk=>?_
  obtain⟨t,rfl⟩:=hv
  have I1:Inv X pins σ H { s with heap:=h',toks:=tk }:=I.turned (fun b o hb e=>kk b o (by simpa using hb) e) f0 f1 f3 f4 f5
  refine⟨_,rfl,zP9 (s:={ s with heap:=h',toks:=tk }) (n:="range_iterator") st' rfl rfl (by decide) ⟨.int (lo+i),H,I1,⟨t,?_⟩,⟨rfl,rfl⟩,st',fun b hb=>(hf b hb).1⟩⟩
  rw[Int.mul_one]
 done:=by
  intro X hP hw hK hc i pins s σ H E I hf st hg
  subst hP hw hK
  obtain⟨f0,f1,f2,f3,f4,f5⟩:=hf it (by simp)
  exact wpAny_pyNext_range_end (I.ok.hd hc) st (by have:n<=i:=hg;lia) fun h' eb=>⟨rfl,I.turned (t':=s.toks) (fun b o hb e=>eb b o hb e) f0 f1 f3 f4 f5⟩
 self:=fun _ _ _ _ _ st h=>wpAny_pyIter_rangeiter st h
end L2
namespace L2
open PySem PySem.Spec PyProof.Rows
section
variable {X:Cx}{tg:Expr}
theorem zO8 {pins:List (Addr × Obj)}{σ:St}{H:Hp}{s:Shared}{R:It->Hp->Prop}{E:Value->Shared->Prop}{lo hi:Int}{t u v:Tok}{tk:Nat}(I:Inv X pins σ H s) (h1:-(2 ^ 62)<=lo) (h2:lo<2 ^ 62) (h3:-(2 ^ 62)<=hi) (h4:hi<2 ^ 62)
  (q:R (Itr lo (hi-lo).toNat) H):wpAny (model X.prog X.w) X.A (pyIter (.ref s.heap.objs.size)) (PIE X pins σ tg R) E { s with heap:=s.heap.push { cls:=.type "range",data:=.fields #[.int lo t,.int hi u,.int 1 v] },toks:=tk }:=by
 refine wpAny_pyIter_range (IsRange.new ..) (small_one h1 h2 h3 h4) ?_
 have I1:Inv X pins σ H { s with heap:=s.heap.push { cls:=.type "range",data:=.fields #[.int lo t,.int hi u,.int 1 v] },toks:=tk }:=I.kept fun b o e=>xl _ e
 refine⟨(s.heap.push { cls:=.type "range",data:=.fields #[.int lo t,.int hi u,.int 1 v] }).objs.size,[(s.heap.push { cls:=.type "range",data:=.fields #[.int lo t,.int hi u,.int 1 v] }).objs.size],_,_,H,rfl,
  I1.kept (t':=tk) fun b o e=>xl _ e,zK7 _ lo (hi-lo).toNat,?_,fun b hb=>?_,q⟩
 ·have e1:lo+((0:Nat):Int)*1=lo:=by simp
  have e2:(((hi-lo).toNat:Nat):Int)-((0:Nat):Int)=Builtin.Range.rangeSize lo hi 1:=by rw[rangeSize_one];split <;> lia
  show IsRangeIter _ _ (lo+((0:Nat):Int)*1) ((((hi-lo).toNat:Nat):Int)-((0:Nat):Int)) 1
  rw[e1,e2]
  exact xv _ rfl
 ·have e:b=(s.heap.push { cls:=.type "range",data:=.fields #[.int lo t,.int hi u,.int 1 v] }).objs.size:=by simpa using hb
  subst e
  exact I1.fpOk (xh _) (I1.hok.fresh (xh _))
noncomputable def zSy (ta:TA):TI:=fun σ H R=>ta σ H fun vs H1=>∃j:Int,vs=[.int j]/\-(2 ^ 62)<=j/\j<2 ^ 62/\R (Itr 0 j.toNat) H1
theorem zM0 {a:Expr}{ta:TA}{p pos:Pos}(hg:Gl X "range") (hm:X.mg "range"=none) (ha:PA X [a] ta) (hs:starEach [a] X.env=[(false,eval a X.env)]:=by rfl):PI X tg (.Call (.Name "range" p) [a] [] pos) (zSy ta):=by
 intro pins s σ H R I h
 refine Call_ (zE0 I hg hm boot_range (u3 (thn (ha pos pins s σ H _ I h) fun us s1 hq1=>?_) hs rfl))
 obtain⟨vs,H1,I1,r1,q1⟩:=hq1
 obtain⟨j,e,q1,q2,q⟩:=q1
 subst e
 cases r1 with
 | cons r rr=>
  cases rr
  obtain⟨t,rfl⟩:=r
  exact call_range_1 (zO8 I1 (by nofun) (by nofun) q1 q2 (by simpa using q))
noncomputable def tFor (wi:TI) (g:TG) (tb:TS):TS:=fun D σ H=>wi σ H fun J H1=>∃W:Nat->Nat->St->Hp->Prop,(∃m,W 0 m σ H1)/\∀i m σ H,W i m σ H->
 (J.stop i H/\D.nx σ H)\/(J.go i H/\∃N:St->Hp->Prop,(∀σ' H',N σ' H'->∃m',m'<m/\W (i+1) m' σ' H')/\∀x H',J.yld i H x H'->g x σ H' fun σ2 H2=>tb { D with nx:=N,ct:=N,bk:=D.nx } σ2 H2)
noncomputable def zH2 (fp:List Addr) (h:Heap):List (Addr × Obj):=fp.filterMap fun b=>(h.get? b).map fun o=>(b,o)
theorem zD0 {fp:List Addr}{h:Heap}{b:Addr}{o:Obj}(hb:b∈fp) (e:h.get? b=some o):(b,o)∈zH2 fp h:=uq.mpr ⟨b,hb,by rw[e];rfl⟩
theorem zMe {fp:List Addr}{h:Heap}{p:Addr × Obj}(hp:p∈zH2 fp h):p.1∈fp/\h.get? p.1=some p.2:=by
 obtain⟨b,hb,e⟩:=uq.mp hp
 cases q:h.get? b with
 | none=>rw[q]at e;cases e
 | some o=>
  rw[q]at e
  have e':(b,o)=p:=xD e
  subst e'
  exact⟨hb,q⟩
theorem Inv.pinned {pins:List (Addr × Obj)}{σ:St}{H:Hp}{s:Shared}{fp:List Addr}(I:Inv X pins σ H s) (hf:∀b∈fp,FpOk X pins H b) (ho:∀b∈fp,∃o,s.heap.get? b=some o/\∀v,o.data≠.cell v):Inv X (pins++zH2 fp s.heap) σ H s:=
 I.pins_of fun p hp=>(xP.mp hp).elim (fun z=>I.pin p (vc _ z)) fun z=>by
  obtain⟨hb,e⟩:=zMe z
  obtain⟨f0,f1,f2,_⟩:=hf p.1 hb
  obtain⟨o,e',d⟩:=ho p.1 hb
  rw[e]at e';cases e'
  exact⟨e,f0,f1,f2,d⟩
theorem Inv.unpinned {pins pl:List (Addr × Obj)}{σ:St}{H:Hp}{s:Shared}(I:Inv X (pins++pl) σ H s):Inv X pins σ H s:=I.pins_of fun p hp=>I.pin p (vc _ (v3 _ hp))
theorem zUk {iter:Expr}{body:List Stmt}{wi:TI}{g:TG}{tb:TS}{pos:Pos}(hp:PassesOwn (model X.prog X.w) X.A X.env X.xe) (hc:X.calm=true) (hi:PI X tg iter wi) (hg:PG X tg g) (hb:PSs X body tb)
  (hs:∀x,foldedSetIterable iter X.env x=pure x:=by intro _;rfl):PS X (.For tg iter body [] pos) (tFor wi g tb):=by
 intro pins s σ H D I h
 refine wpAny_For (thn (hi pins s σ H _ I h) fun v s1 h1=>thn h1 fun itv s2 h2=>?_) hs
 obtain⟨it,fp,tn,J,H2,e,I2,T,st2,f2,W,⟨m0,w0⟩,turn⟩:=h2
 subst e
 -- what stays true of the iterator's objects through the loop
 have stat:∀{H':Hp},(∀b∈fp,H' b=none)->∀b∈fp,FpOk X pins H' b:=fun hn b hb=>⟨hn b hb,(f2 b hb).2⟩
 refine codeAny_forLoop_any (fun n s'=>∃i σ' H',Inv X pins σ' H' s'/\tn i s'.heap/\(∀b∈fp,H' b=none)/\W i n σ' H') ?_ m0 ⟨0,σ,H2,I2,st2,fun b hb=>(f2 b hb).1,w0⟩
 rintro n s3 ⟨i,σ3,H3,I3,st3,fr3,w3⟩
 rcases turn i n σ3 H3 w3 with⟨stop,qn⟩|⟨go,N,hN,step⟩
 ·refine v5 hp (thn (T.done X rfl rfl rfl hc i pins s3 σ3 H3 X.xe I3 (stat fr3) st3 stop) fun r s4 hq1=>?_)
  obtain⟨hr,I4⟩:=hq1
  subst hr
  exact wpAny_execs_nil ⟨σ3,H3,I4,qn⟩
 ·refine v5 hp (thn (T.item X rfl rfl rfl hc i pins s3 σ3 H3 X.xe I3 (stat fr3) st3 go) fun r s4 hq1=>?_)
  obtain⟨u,hr,h4⟩:=hq1
  subst hr
  refine v5 hp (thn h4 fun _ s5 hq1=>?_)
  obtain⟨x,H5,I5,r5,y5,st5,fr5⟩:=hq1
  have I5':=I5.pinned (stat fr5) (T.obj _ _ st5)
  refine v5 hp (thn (hg _ s5 σ3 H5 x u _ I5' r5 (step x H5 y5)) fun _ s6 hq1=>?_)
  obtain⟨σ6,H6,I6,q6⟩:=hq1
  refine v5 hp (thn (hb _ s6 σ6 H6 _ I6 q6) fun f s7 q7=>?_)
  have again:∀{σ7:St}{H7:Hp},Inv X (pins++zH2 fp s5.heap) σ7 H7 s7->N σ7 H7->∃m,m<n/\∃i σ' H',Inv X pins σ' H' s7/\tn i s7.heap/\(∀b∈fp,H' b=none)/\W i m σ' H':=fun {σ7 H7} I7 n7=>by
   obtain⟨m',hm,w7⟩:=hN σ7 H7 n7
   refine⟨m',hm,i+1,σ7,H7,I7.unpinned,T.keep _ _ _ st5 fun b hb o e=>(I7.pin (b,o) (vc _ (vc _ (zD0 hb e)))).1,fun b hb=>?_,w7⟩
   obtain⟨o,e,d⟩:=T.obj _ _ st5 b hb
   exact(I7.pin (b,o) (vc _ (vc _ (zD0 hb e)))).2.1
  cases f with
  | next=>obtain⟨σ7,H7,I7,n7⟩:=q7;exact again I7 n7
  | cont=>obtain⟨σ7,H7,I7,n7⟩:=q7;exact again I7 n7
  | brk=>obtain⟨σ7,H7,I7,q7⟩:=q7;exact⟨σ7,H7,I7.unpinned,q7⟩
  | ret v=>obtain⟨x7,σ7,H7,I7,r7,q7⟩:=q7;exact⟨x7,σ7,H7,I7.unpinned,r7,q7⟩
end
end L2
namespace L2
open PySem PySem.Spec PyProof.Rows
noncomputable abbrev R2:=V->V->Hp->VK->Prop
noncomputable def OpR (X:Cx) (f:Value->Value->Sem Value) (r:R2):Prop:=
 ∀(pins:List (Addr × Obj)) (s:Shared) (σ:St) (H:Hp) (x y:V) (v u:Value) (Q:VK),Inv X pins σ H s->RelV x v->RelV y u->r x y H Q->
  wpAny (model X.prog X.w) X.A (f v u) (EP X pins σ Q) X.xe s
noncomputable def UnR (X:Cx) (f:Value->Sem Value) (r:V->Hp->VK->Prop):Prop:=
 ∀(pins:List (Addr × Obj)) (s:Shared) (σ:St) (H:Hp) (x:V) (v:Value) (Q:VK),Inv X pins σ H s->RelV x v->r x H Q->
  wpAny (model X.prog X.w) X.A (f v) (EP X pins σ Q) X.xe s
noncomputable def zBa (X:Cx) (f:Value) (r:List V->Hp->VK->Prop):Prop:=
 ∀(pins:List (Addr × Obj)) (s:Shared) (σ:St) (H:Hp) (xs:List V) (us:List Value) (Q:VK),Inv X pins σ H s->Vals xs us->r xs H Q->
  wpAny (model X.prog X.w) X.A (call f us) (EP X pins σ Q) X.xe s
noncomputable def TruR (X:Cx) (r:V->Hp->(Bool->Hp->Prop)->Prop):Prop:=
 ∀(pins:List (Addr × Obj)) (s:Shared) (σ:St) (H:Hp) (x:V) (v:Value) (Q:Bool->Hp->Prop),Inv X pins σ H s->RelV x v->r x H Q->
  wpAny (model X.prog X.w) X.A (truthy v) (TP X pins σ Q) X.xe s
noncomputable def tOp (r:R2) (ta tb:TE):TE:=fun σ H Q=>ta σ H fun x H1=>tb σ H1 fun y H2=>r x y H2 Q
noncomputable def tUn (r:V->Hp->VK->Prop) (ta:TE):TE:=fun σ H Q=>ta σ H fun x H1=>r x H1 Q
noncomputable def rI (C:Int->Int->Prop) (g:Int->Int->V):R2:=fun x y H Q=>∃i j,x=.int i/\y=.int j/\C i j/\Q (g i j) H
noncomputable def rI0 (g:Int->Int->V):R2:=fun x y H Q=>∃i j,x=.int i/\y=.int j/\Q (g i j) H
noncomputable def rU (g:Int->V):V->Hp->VK->Prop:=fun x H Q=>∃i,x=.int i/\Q (g i) H
section
variable {X:Cx}{a b c:Expr}{ta tb tc:TE}{pos:Pos}
theorem binT (ha:PE X a ta) (hb:PE X b tb) {pins:List (Addr × Obj)}{s:Shared}{σ:St}{H:Hp}{R:V->V->Hp->Prop}(I:Inv X pins σ H s)
  (h:ta σ H fun x H1=>tb σ H1 fun y H2=>R x y H2) {Q:Value->Shared->Prop}{f:Value->Value->Sem Value}
  (hf:∀v u s2 x y H2,Inv X pins σ H2 s2->RelV x v->RelV y u->R x y H2->wpAny (model X.prog X.w) X.A (f v u) Q X.xe s2):
  wpAny (model X.prog X.w) X.A (eval a X.env) (fun v s₁=>wpAny (model X.prog X.w) X.A (eval b X.env) (fun u s₂=>wpAny (model X.prog X.w) X.A (f v u) Q X.xe s₂) X.xe s₁) X.xe s:=by
 refine thn (ha pins s σ H _ I h) fun v s1 hq1=>?_
 obtain⟨x,H1,I1,r1,q1⟩:=hq1
 refine thn (hb pins s1 σ H1 _ I1 q1) fun u s2 hq1=>?_
 obtain⟨y,H2,I2,r2,q2⟩:=hq1
 exact hf v u s2 x y H2 I2 r1 r2 q2
theorem zWs {op:Operator}{r:R2}(ho:OpR X (binaryOp op) r) (ha:PE X a ta) (hb:PE X b tb):PE X (.BinOp a op b pos) (tOp r ta tb):=by
 intro pins s σ H Q I h
 exact wpAny_BinOp (binT ha hb I h fun v u s2 x y H2 I2 rx ry q=>ho pins s2 σ H2 x y v u Q I2 rx ry q)
theorem zWr {op:UnaryOp}{r:V->Hp->VK->Prop}(ho:UnR X (unaryOp op) r) (ha:PE X a ta):PE X (.UnaryOp op a pos) (tUn r ta):=by
 intro pins s σ H Q I h
 exact UnaryOp_ (thn (ha pins s σ H _ I h) fun v s1 hz3=>by obtain⟨x,H1,I1,r1,q1⟩:=hz3;exact ho pins s1 σ H1 x v Q I1 r1 q1)
theorem opI {f:Value->Value->Sem Value}{C:Int->Int->Prop}{g:Int->Int->Int}
  (rule:∀(i j:Int) (t u:Tok) (s:Shared) (Q:Value->Shared->Prop) (E:Value->Shared->Prop),C i j->Q (.int (g i j) s.toks) { s with toks:=s.toks+1 }->wpAny (model X.prog X.w) X.A (f (.int i t) (.int j u)) Q E s):
  OpR X f (rI C fun i j=>.int (g i j)):=by
 intro pins s σ H x y v u Q I rx ry h
 obtain⟨i,j,rfl,rfl,hc,q⟩:=h
 obtain⟨t,rfl⟩:=rx
 obtain⟨t',rfl⟩:=ry
 exact rule i j t t' s _ _ hc ⟨.int (g i j),H,I.tok _,⟨_,rfl⟩,q⟩
theorem opI0 {f:Value->Value->Sem Value}{g:Int->Int->Int}
  (rule:∀(i j:Int) (t u:Tok) (s:Shared) (Q:Value->Shared->Prop) (E:Value->Shared->Prop),Q (.int (g i j) s.toks) { s with toks:=s.toks+1 }->wpAny (model X.prog X.w) X.A (f (.int i t) (.int j u)) Q E s):
  OpR X f (rI0 fun i j=>.int (g i j)):=by
 intro pins s σ H x y v u Q I rx ry h
 obtain⟨i,j,rfl,rfl,q⟩:=h
 obtain⟨t,rfl⟩:=rx
 obtain⟨t',rfl⟩:=ry
 exact rule i j t t' s _ _ ⟨.int (g i j),H,I.tok _,⟨_,rfl⟩,q⟩
theorem opB0 {f:Value->Value->Sem Value}{g:Int->Int->Bool}
  (rule:∀(i j:Int) (t u:Tok) (s:Shared) (Q:Value->Shared->Prop) (E:Value->Shared->Prop),Q (.bool (g i j)) s->wpAny (model X.prog X.w) X.A (f (.int i t) (.int j u)) Q E s):
  OpR X f (rI0 fun i j=>.bl (g i j)):=by
 intro pins s σ H x y v u Q I rx ry h
 obtain⟨i,j,rfl,rfl,q⟩:=h
 obtain⟨t,rfl⟩:=rx
 obtain⟨t',rfl⟩:=ry
 exact rule i j t t' s _ _ ⟨.bl (g i j),H,I,rfl,q⟩
noncomputable def CPow (i j:Int):Prop:=0<=j/\j<=1000000/\i.natAbs<2 ^ 64
theorem zK5 (k:Nat):(0:Int)<=2 ^ k:=by
 rw[two_pow_cast]
 exact Int.natCast_nonneg _
theorem zV7:OpR X (binaryOp .Add) (rI0 fun i j=>.int (i+j)):=opI0 fun _ _ _ _ _ _ _ q=>add_int q
theorem zUz:OpR X (binaryOp .Sub) (rI0 fun i j=>.int (i-j)):=opI0 fun _ _ _ _ _ _ _ q=>sub_int q
theorem zV4:OpR X (binaryOp .Mod) (rI (fun _ j=>0<j) fun i j=>.int (i % j)):=opI fun i j _ _ _ _ _ hc q=>by
 have h1:(0:Int)<j:=hc
 exact mod_int' (by nofun) (by rw[Int.fmod_eq_emod_of_nonneg i (by nofun)];exact q)
theorem zV2:OpR X (binaryOp .Pow) (rI CPow fun i j=>.int (i ^ j.toNat)):=opI fun _ _ _ _ _ _ _ hc q=>pow_int_small hc.1 hc.2.1 hc.2.2 q
theorem zV1:OpR X (binaryOp .LShift) (rI CPow fun i j=>.int (i*2 ^ j.toNat)):=opI fun _ _ _ _ _ _ _ hc q=>lshift_int_small hc.1 hc.2.1 hc.2.2 q
theorem zV0:OpR X (binaryOp .RShift) (rI (fun _ j=>0<=j) fun i j=>.int (i / 2 ^ j.toNat)):=opI fun i j _ _ _ _ _ hc q=>
 rshift_int hc (by rw[Int.fdiv_eq_ediv_of_nonneg i (zK5 _)];exact q)
theorem zV6:OpR X (binaryOp .BitAnd) (rI0 fun i j=>.int (Builtin.bitAnd i j)):=opI0 fun _ _ _ _ _ _ _ q=>and_int q
theorem zWw:OpR X (binaryOp .BitOr) (rI0 fun i j=>.int (Builtin.bitOr i j)):=opI0 fun _ _ _ _ _ _ _ q=>or_int q
theorem unI {f:Value->Sem Value}{g:Int->Int}
  (rule:∀(i:Int) (t:Tok) (s:Shared) (Q:Value->Shared->Prop) (E:Value->Shared->Prop),Q (.int (g i) s.toks) { s with toks:=s.toks+1 }->wpAny (model X.prog X.w) X.A (f (.int i t)) Q E s):
  UnR X f (rU fun i=>.int (g i)):=by
 intro pins s σ H x v Q I rx h
 obtain⟨i,rfl,q⟩:=h
 obtain⟨t,rfl⟩:=rx
 exact rule i t s _ _ ⟨.int (g i),H,I.tok _,⟨_,rfl⟩,q⟩
theorem zTx:UnR X (unaryOp .USub) (rU fun i=>.int (-i)):=unI fun _ _ _ _ _ q=>neg_int q
end
noncomputable def scal:V->V->Bool
 | .non,.non=>true|.non,.int _=>true|.int _,.non=>true|.non,.bl _=>true|.bl _,.non=>true|.non,.str _=>true|.str _,.non=>true
 | .int _,.int _=>true|.bl _,.bl _=>true|.str _,.str _=>true|.byt _,.byt _=>true
 | .int _,.str _=>true|.str _,.int _=>true|.bl _,.str _=>true|.str _,.bl _=>true
 | _,_=>false
noncomputable def rEq:R2:=fun x y H Q=>scal x y=true/\Q (.bl (decide (x=y))) H
noncomputable def rNe:R2:=fun x y H Q=>scal x y=true/\Q (.bl (!decide (x=y))) H
theorem zN9 {i j:Int}:decide (V.int i=V.int j)=(i == j):=by
 rw[vG]
 simp
theorem zQk {i j:Bool}:decide (V.bl i=V.bl j)=(i == j):=by
 rw[vG]
 simp
theorem zN8 {i j:Str}:decide (V.str i=V.str j)=(i == j):=by
 rw[vG]
 simp
theorem zNa {i j:Array UInt8}:decide (V.byt i=V.byt j)=(i.toList == j.toList):=by
 rw[vG]
 cases i
 cases j
 simp
section
variable {X:Cx}{a b c:Expr}{ta tb tc:TE}{pos:Pos}
theorem zAj {pins:List (Addr × Obj)}{σ:St}{H:Hp}{s:Shared}{Q:VK}{k k':Bool}(I:Inv X pins σ H s) (q:Q (.bl k) H) (e:k=k'):EP X pins σ Q (.bool k') s:=by
 subst e
 exact⟨.bl k,H,I,rfl,q⟩
theorem zSb:OpR X (compareOp .Eq) rEq:=by
 intro pins s σ H x y v u Q I rx ry h
 obtain⟨hs,q⟩:=h
 cases x with
 | non=>
  cases rx
  cases y with
  | non=>cases ry;exact PySem.EqNone.eq_none_none (zAj I q (by simp))
  | bl j=>cases ry;exact PySem.EqNone.eq_none_bool (zAj I q (by simp))
  | int j=>obtain⟨t',rfl⟩:=ry;exact PySem.EqNone.eq_none_int (zAj I q (by simp))
  | str j=>obtain⟨t',rfl⟩:=ry;exact PySem.EqNone.eq_none_str (zAj I q (by simp))
  | _=>exact absurd (show false=true from hs) xQ
 | bl i=>
  cases rx
  cases y with
  | non=>cases ry;exact PySem.EqNone.eq_bool_none (zAj I q (by simp))
  | bl j=>cases ry;exact eq_bool (zAj I q zQk)
  | str j=>obtain⟨t',rfl⟩:=ry;exact PySem.EqMixed.eq_bool_str (zAj I q (by simp))
  | _=>exact absurd (show false=true from hs) xQ
 | int i=>
  obtain⟨t,rfl⟩:=rx
  cases y with
  | non=>cases ry;exact PySem.EqNone.eq_int_none (zAj I q (by simp))
  | int j=>obtain⟨t',rfl⟩:=ry;exact eq_int (zAj I q zN9)
  | str j=>obtain⟨t',rfl⟩:=ry;exact PySem.EqMixed.eq_int_str (zAj I q (by simp))
  | _=>exact absurd (show false=true from hs) xQ
 | str i=>
  obtain⟨t,rfl⟩:=rx
  cases y with
  | non=>cases ry;exact PySem.EqNone.eq_str_none (zAj I q (by simp))
  | bl j=>cases ry;exact PySem.EqMixed.eq_str_bool (zAj I q (by simp))
  | int j=>obtain⟨t',rfl⟩:=ry;exact PySem.EqMixed.eq_str_int (zAj I q (by simp))
  | str j=>obtain⟨t',rfl⟩:=ry;exact eq_str (zAj I q zN8)
  | _=>exact absurd (show false=true from hs) xQ
 | byt i=>
  obtain⟨t,rfl⟩:=rx
  cases y with
  | byt j=>obtain⟨t',rfl⟩:=ry;exact PySem.W.eq_bytes (zAj I q zNa)
  | _=>exact absurd (show false=true from hs) xQ
 | _=>cases y <;> exact absurd (show false=true from hs) xQ
theorem zS7:OpR X (compareOp .NotEq) rNe:=by
 intro pins s σ H x y v u Q I rx ry h
 obtain⟨hs,q⟩:=h
 cases x with
 | non=>
  cases rx
  cases y with
  | non=>cases ry;exact PySem.EqNone.ne_none_none (zAj I q (by simp))
  | bl j=>cases ry;exact PySem.EqNone.ne_none_bool (zAj I q (by simp))
  | int j=>obtain⟨t',rfl⟩:=ry;exact PySem.EqNone.ne_none_int (zAj I q (by simp))
  | str j=>obtain⟨t',rfl⟩:=ry;exact PySem.EqNone.ne_none_str (zAj I q (by simp))
  | _=>exact absurd (show false=true from hs) xQ
 | bl i=>
  cases rx
  cases y with
  | non=>cases ry;exact PySem.EqNone.ne_bool_none (zAj I q (by simp))
  | bl j=>cases ry;exact ne_bool (zAj I q (congrArg not zQk))
  | str j=>obtain⟨t',rfl⟩:=ry;exact PySem.EqMixed.ne_bool_str (zAj I q (by simp))
  | _=>exact absurd (show false=true from hs) xQ
 | int i=>
  obtain⟨t,rfl⟩:=rx
  cases y with
  | non=>cases ry;exact PySem.EqNone.ne_int_none (zAj I q (by simp))
  | int j=>obtain⟨t',rfl⟩:=ry;exact ne_int (zAj I q (congrArg not zN9))
  | str j=>obtain⟨t',rfl⟩:=ry;exact PySem.EqMixed.ne_int_str (zAj I q (by simp))
  | _=>exact absurd (show false=true from hs) xQ
 | str i=>
  obtain⟨t,rfl⟩:=rx
  cases y with
  | non=>cases ry;exact PySem.EqNone.ne_str_none (zAj I q (by simp))
  | bl j=>cases ry;exact PySem.EqMixed.ne_str_bool (zAj I q (by simp))
  | int j=>obtain⟨t',rfl⟩:=ry;exact PySem.EqMixed.ne_str_int (zAj I q (by simp))
  | str j=>obtain⟨t',rfl⟩:=ry;exact ne_str (zAj I q (congrArg not zN8))
  | _=>exact absurd (show false=true from hs) xQ
 | byt i=>
  obtain⟨t,rfl⟩:=rx
  cases y with
  | byt j=>obtain⟨t',rfl⟩:=ry;exact PySem.W.ne_bytes (zAj I q (congrArg not zNa))
  | _=>exact absurd (show false=true from hs) xQ
 | _=>cases y <;> exact absurd (show false=true from hs) xQ
theorem zWx:OpR X (compareOp .Lt) (rI0 fun i j=>.bl (decide (i<j))):=opB0 fun _ _ _ _ _ _ _ q=>lt_int q
theorem zWy:OpR X (compareOp .Gt) (rI0 fun i j=>.bl (decide (j<i))):=opB0 fun _ _ _ _ _ _ _ q=>gt_int q
theorem zWz:OpR X (compareOp .GtE) (rI0 fun i j=>.bl (decide (j<=i))):=opB0 fun _ _ _ _ _ _ _ q=>ge_int q
theorem zMb:OpR X (compareOp .Lt) (fun x y H Q=>∃i j,x=.str i/\y=.str j/\Q (.bl (decide (i.cps.toList<j.cps.toList))) H):=by
 intro pins s σ H x y v u Q I rx ry h
 obtain⟨i,j,rfl,rfl,q⟩:=h
 obtain⟨t,rfl⟩:=rx
 obtain⟨t',rfl⟩:=ry
 exact lt_str (zAj I q rfl)
theorem nomark (b:Expr) {op:CmpOp}(h:op≠.In:=by decide) (h2:op≠.NotIn:=by decide):behindInMarks op b=false:=by
 have e1:(op == CmpOp.In)=false:=by cases op <;> first|rfl|exact absurd rfl h
 have e2:(op == CmpOp.NotIn)=false:=by cases op <;> first|rfl|exact absurd rfl h2
 cases b <;> simp[behindInMarks,e1,e2]
theorem zS1 {op:CmpOp}{r:R2}(ho:OpR X (compareOp op) r) (ha:PE X a ta) (hb:PE X b tb) (hm:behindInMarks op b=false):PE X (.Compare a [op] [b] pos) (tOp r ta tb):=by
 intro pins s σ H Q I h
 exact wpAny_Compare1 (binT ha hb I h fun v u s2 x y H2 I2 rx ry q=>ho pins s2 σ H2 x y v u Q I2 rx ry q) hm
noncomputable def zU2 (t:TE):TT:=fun σ H Q=>t σ H fun x H'=>∃k,x=.bl k/\Q k H'
theorem zRn {op:CmpOp}{r:R2}(ho:OpR X (compareOp op) r) (ha:PE X a ta) (hb:PE X b tb) (hm:behindInMarks op b=false):PT X (.Compare a [op] [b] pos) (zU2 (tOp r ta tb)):=by
 intro pins s σ H Q I h
 refine wpAny_isTrue_Compare1 (thn (ha pins s σ H _ I h) fun v s1 ⟨x,H1,I1,r1,q1⟩=>thn (hb pins s1 σ H1 _ I1 q1) fun u s2 ⟨y,H2,I2,r2,q2⟩=>
  thn (ho pins s2 σ H2 x y v u _ I2 r1 r2 q2) fun c s3 ⟨z,H3,I3,r3,k,e,q3⟩=>?_) hm
 subst e
 cases r3
 exact v7 ⟨H3,I3,q3⟩
noncomputable def TruV (K:PySem.W.Frag) (x:V) (H:Hp) (k:Bool):Prop:=
 match x with
 | .non=>k=false
 | .bl b=>k=b
 | .int i=>k=(i != 0)
 | .str y=>y.length<=sizeLine/\k=((y.length:Int) != 0)
 | .byt y=>y.size<=sizeLine/\k=((y.size:Int) != 0)
 | .ref p=>(∃xs,SqL K H p xs/\k=!xs.isEmpty)\/(∃xs,SqT K H p xs/\k=!xs.isEmpty)\/∃kvs,H p=some (.dK kvs)/\k=!kvs.isEmpty
 | _=>False
theorem zKk {κ:Type}{kvs:List (κ × V)}{vs:List (κ × Value)}(r:KV kvs vs):(!vs.isEmpty)=!kvs.isEmpty:=by
 cases r <;> rfl
theorem zFk {xs:List V}{its:List Value}(r:Vals xs its):(!its.toArray.isEmpty)=!xs.isEmpty:=by
 cases r <;> simp
theorem line63:(sizeLine:Nat)<2 ^ 63:=by rw[xJ];decide
theorem zU0:TruR X (fun x H Q=>∃k,TruV X.K x H k/\Q k H):=by
 intro pins s σ H x v Q I rx h
 obtain⟨k,e,q⟩:=h
 have hl:=line63
 have hs:sizeLine=16777216:=xJ
 cases x with
 | non=>
  cases rx
  have e':k=false:=e
  subst e'
  exact truthy_none ⟨H,I,q⟩
 | bl b=>
  cases rx
  have e':k=b:=e
  subst e'
  exact v7 ⟨H,I,q⟩
 | int i=>
  obtain⟨t,rfl⟩:=rx
  have e':k=(i != 0):=e
  subst e'
  exact PySem.P.truthy_int ⟨H,I,q⟩
 | str y=>
  obtain⟨t,rfl⟩:=rx
  obtain⟨hy,e'⟩:y.length<=sizeLine/\k=((y.length:Int) != 0):=e
  subst e'
  exact PySem.P.truthy_str (by nofun) ⟨H,I.tok _,q⟩
 | byt y=>
  obtain⟨t,rfl⟩:=rx
  obtain⟨hy,e'⟩:y.size<=sizeLine/\k=((y.size:Int) != 0):=e
  subst e'
  exact PySem.W.truthy_bytes (by nofun) ⟨H,I.tok _,q⟩
 | ref p=>
  cases rx
  have e':(∃xs,SqL X.K H p xs/\k=!xs.isEmpty)\/(∃xs,SqT X.K H p xs/\k=!xs.isEmpty)\/∃kvs,H p=some (.dK kvs)/\k=!kvs.isEmpty:=e
  rcases e' with⟨xs,hx,e'⟩|⟨xs,hx,e'⟩|⟨kvs,hx,e'⟩
  ·subst e'
   obtain⟨its,r,pl,hz⟩:=I.list hx
   have hlen:=r.length
   exact wpAny_truthy_list pl.isList (by simp only[xn];lia) ⟨H,I.tok _,by rw[zFk r];exact q⟩
  ·subst e'
   obtain⟨its,r,pl,hz⟩:=I.tuple hx
   have hlen:=r.length
   exact truthy_tuple pl (by simp only[xn];lia) ⟨H,I.tok _,by rw[zFk r];exact q⟩
  ·subst e'
   obtain⟨hz,hS,vs,r,m⟩:kvs.length<=sizeLine/\(p == sysModules)=false/\∃vs,KV kvs vs/\s.heap.DictOf (zAz X.prog X.w) p vs:=I.hok p _ hx
   have hlen:kvs.length=vs.length:=Paired.length r
   exact wpAny_truthy_dict hS m (by nofun) ⟨H,I.tok _,by rw[zKk r];exact q⟩
 | _=>exact(show False from e).elim
theorem zOb (ha:PE X a ta) (he:∀whole,isTrue a X.env whole=(do let v <- whole;standAt a.pos;holding [v] (truthy v))):
  PT X a (fun σ H Q=>ta σ H fun x H'=>∃k,TruV X.K x H' k/\Q k H'):=by
 intro pins s σ H Q I h
 exact isTrue_plain (thn (ha pins s σ H _ I h) fun v s1 hz4=>by obtain⟨x,H1,I1,r1,q1⟩:=hz4;exact zU0 pins s1 σ H1 x v Q I1 r1 q1) (he _)
theorem zKa:OpR X (binaryOp .Add) (fun x y H Q=>∃i j,x=.str i/\y=.str j/\i.length+j.length<=sizeLine/\Q (.str (i++j)) H):=by
 intro pins s σ H x y v u Q I rx ry h
 obtain⟨i,j,rfl,rfl,hz,q⟩:=h
 obtain⟨t,rfl⟩:=rx
 obtain⟨t',rfl⟩:=ry
 exact add_str (fun t' tk=>⟨.str (i++j),H,I.tok _,⟨_,rfl⟩,q⟩) hz
theorem vals1 {x:V}{us:List Value}(r:Vals [x] us):∃u,us=[u]/\RelV x u:=by
 cases r with
 | cons r1 r2=>cases r2;exact⟨_,rfl,r1⟩
theorem vals2 {x y:V}{us:List Value}(r:Vals [x,y] us):∃u w',us=[u,w']/\RelV x u/\RelV y w':=by
 cases r with
 | cons r1 r2=>
  cases r2 with
  | cons r3 r4=>cases r4;exact⟨_,_,rfl,r1,r3⟩
theorem zNs (hc:X.calm=true):zBa X (.builtin "max") (fun xs H Q=>∃i j,xs=[.int i,.int j]/\Q (.int (if j > i then j else i)) H):=by
 intro pins s σ H xs us Q I r h
 obtain⟨i,j,rfl,q⟩:=h
 obtain⟨u,w',rfl,⟨t,rfl⟩,⟨t',rfl⟩⟩:=vals2 r
 refine max_two_ints (I.ok.hd hc) fun h' tk k=>⟨_,H,I.kept k,?_,q⟩
 by_cases hj:j > i
 ·rw[xc hj,xc hj];exact⟨_,rfl⟩
 ·rw[xf hj,xf hj];exact⟨_,rfl⟩
theorem zNr (hc:X.calm=true):zBa X (.builtin "min") (fun xs H Q=>∃i j,xs=[.int i,.int j]/\Q (.int (if j<i then j else i)) H):=by
 intro pins s σ H xs us Q I r h
 obtain⟨i,j,rfl,q⟩:=h
 obtain⟨u,w',rfl,⟨t,rfl⟩,⟨t',rfl⟩⟩:=vals2 r
 refine min_two_ints (I.ok.hd hc) fun h' tk k=>⟨_,H,I.kept k,?_,q⟩
 by_cases hj:j<i
 ·rw[xc hj,xc hj];exact⟨_,rfl⟩
 ·rw[xf hj,xf hj];exact⟨_,rfl⟩
end
end L2
namespace L2
open PySem PySem.Spec PyProof.Rows
structure ObjM (h:Heap) (x dx C:Addr) (mA:Str->Option Value):Prop where
 obj:h.get? x=some (PySem.W.instObj C dx)
 ns:h.Ns1 dx mA
 ne:dx≠x
theorem RelO.some_of {v:V}{o:Option Value}(r:RelO (some v) o):∃u,o=some u/\RelV v u:=by
 cases o with
 | none=>exact(show False from r).elim
 | some u=>exact⟨u,rfl,r⟩
structure Cls (K:PySem.W.Frag) (C:Addr):Prop where
 pg:PySem.W.plainGet K C Str.empty=true
 hd:PySem.W.hasDictIn K C=true
 po:PySem.W.plainOver K C=true
 sa:PySem.W.findIn K (.ref C) "__setattr__"=some (some (.builtin "object.__setattr__"))
structure Con (K:PySem.W.Frag) (C:Addr) (f:Str) (v:V) (u:Value):Prop where
 at_:PySem.W.findIn K (.ref C) f=some (some u)
 rel:RelV v u
 get:PySem.W.specialIn K u "__get__"=some none
 cp:PySem.W.copiedNames.contains f=false
section
variable {X:Cx}{pins:List (Addr × Obj)}{σ:St}{H:Hp}{s:Shared}{a C dx:Addr}{fs:List (Str × V)}{f:Str}{v:V}{A:Around}{E:Value->Shared->Prop}
theorem Inv.made (I:Inv X pins σ H s):Inv X pins σ (upd (upd H s.heap.objs.size (.own (s.heap.objs.size+1))) (s.heap.objs.size+1) (.ins C s.heap.objs.size []))
  { s with heap:=(s.heap.push PySem.W.emptyDict).push (PySem.W.instObj C s.heap.objs.size) }:=by
 have e1:(s.heap.push PySem.W.emptyDict).get? s.heap.objs.size=some PySem.W.emptyDict:=xv s.heap rfl
 have e2:((s.heap.push PySem.W.emptyDict).push (PySem.W.instObj C s.heap.objs.size)).get? (s.heap.objs.size+1)=some (PySem.W.instObj C s.heap.objs.size):=by
  have:=xv (s.heap.push PySem.W.emptyDict) (o:=PySem.W.instObj C s.heap.objs.size) rfl
  rwa[vp]at this
 have e3:(s.heap.push PySem.W.emptyDict).Ns s.heap.objs.size (fun _=>none):=⟨PySem.W.emptyDict,#[],_,e1,rfl,(fun e he=>absurd he (by simp)),fun _=>rfl⟩
 have I1:=I.laid (a:=s.heap.objs.size) (o:=.own (s.heap.objs.size+1)) (h':=s.heap.push PySem.W.emptyDict) (t':=s.toks) (fun b u q=>xl _ q) (xh _) ⟨_,e1⟩
 refine I1.laid (a:=s.heap.objs.size+1) (o:=.ins C s.heap.objs.size []) (t':=s.toks) (fun b u q=>xl _ q) (Nat.le_of_eq (vp _ _)) ?_
 have ne:s.heap.objs.size≠s.heap.objs.size+1:=xu (Nat.lt_succ_self _)
 refine⟨by rw[zAd ne,zAi],xC _,ne,e2,fun _=>none,(Heap.Ns1.of_empty e3).at fun o q=>xl _ q,fun _=>True.intro,fun y hy=>absurd rfl hy⟩
end
section
variable {X:Cx}{pins:List (Addr × Obj)}{σ:St}{H:Hp}{s:Shared}{A:Around}{E:Value->Shared->Prop}{Q:Value->Shared->Prop}{c:Value}{b:Bool}
inductive TyOf (K:PySem.W.Frag) (H:Hp):V->Value->Prop where
 | non:TyOf K H .non (.type "NoneType")
 | bl (x:Bool):TyOf K H (.bl x) (.type "bool")
 | int (i:Int):TyOf K H (.int i) (.type "int")
 | str (x:Str):TyOf K H (.str x) (.type "str")
 | flt (x:UInt64):TyOf K H (.flt x) (.type "float")
 | lst {a:Addr}{xs:List V}(e:H a=some (.lst xs)):TyOf K H (.ref a) (.type "list")
 | frz {a:Addr}{o:Obj}{xs:List V}(e:H a=some (.frz o (.lst xs))):TyOf K H (.ref a) (.type "list")
 | tup {a:Addr}{xs:List V}(e:H a=some (.tup xs)):TyOf K H (.ref a) (.type "tuple")
 | dK {a:Addr}{kvs:List (Key × V)}(e:H a=some (.dK kvs)):TyOf K H (.ref a) (.type "dict")
 | dT {a:Addr}{kvs:List (List Key × V)}(e:H a=some (.dT kvs)):TyOf K H (.ref a) (.type "dict")
 | ins {a C dx:Addr}{fs:List (Str × V)}(e:H a=some (.ins C dx fs)) (cl:Cls K C) (ha:PySem.W.findIn K (.ref C) "__class__"=some (some (.builtin "object.__class__")))
   (hn:PySem.W.specialIn K (.builtin "object.__class__") "__get__"=some (some (.builtin "getset_descriptor.__get__"))) (htk:PySem.W.takesIn K (.builtin "object.__class__")=some true)
   (hm:PySem.W.mroIn K C (.type "object")=some true):TyOf K H (.ref a) (.ref C)
end
end L2
namespace L2
open PySem PySem.Spec PyProof.Rows
structure Room (k:Nat) (A:Around):Prop where
 hd:A.handled=none
 dp:A.depth+3*k+5<recursionLimit
 un:A.units+16*k+200<cLine
theorem Room.mono {j k:Nat}{A:Around}(r:Room k A) (h:j<=k):Room j A:=⟨r.hd,by have:=r.dp;lia,by have:=r.un;lia⟩
theorem Room.deeper {k:Nat}{A:Around}(r:Room (k+1) A) (env:Env):Room k (A.deeper env):=
 ⟨r.hd,by have:=r.dp;show A.depth+1+3*k+5<_;lia,by have:=r.un;show A.units+3+16*k+200<_;lia⟩
theorem Room.in1 {k:Nat}{A:Around}(r:Room (k+1) A):Room k A.in1:=
 ⟨r.hd,by have:=r.dp;show A.depth+3*k+5<_;lia,by have:=r.un;show A.units+1+16*k+200<_;lia⟩
theorem Room.depth {k:Nat}{A:Around}(r:Room k A):A.depth<recursionLimit:=by have:=r.dp;lia
theorem Room.units {k:Nat}{A:Around}(r:Room k A):A.units+64<cLine:=by have:=r.un;lia
theorem Room.units0 {k:Nat}{A:Around}(r:Room k A):A.units<cLine:=by have:=r.un;lia
noncomputable def tNil:TA:=fun _ H Q=>Q [] H
noncomputable def zQz (ta:TE) (tr:TA):TA:=fun σ H Q=>ta σ H fun x H1=>tr σ H1 fun xs H2=>Q (x::xs) H2
section
variable {X:Cx}{e:Expr}{es:List Expr}{te:TE}{t:TA}{pos:Pos}
theorem zUy:PA X [] tNil:=fun _ _ _ _ H Q I h=>uO ⟨[],H,I,.nil,h⟩
theorem zS3 (ha:PE X e te) (hr:PA X es t) (hs:starEach (e::es) X.env=(false,eval e X.env)::starEach es X.env:=by rfl):PA X (e::es) (zQz te t):=by
 intro pos pins s σ H Q I h
 rw[hs]
 show wpAny _ _ (spliced ((false,eval e X.env)::backTo pos (starEach es X.env))) _ _ s
 refine uP (thn (ha pins s σ H _ I h) fun u s1 hq1=>?_)
 obtain⟨x,H1,I1,r1,q1⟩:=hq1
 exact thn (hr pos pins s1 σ H1 _ I1 q1) fun us s2 hz5=>by obtain⟨xs,H2,I2,r2,q2⟩:=hz5;exact ⟨x::xs,H2,I2,.cons r1 r2,q2⟩
noncomputable def tTup (t:TA):TE:=fun σ H Q=>t σ H fun xs H1=>xs.length<=sizeLine/\∀p,H1 p=none->Q (.ref p) (upd H1 p (.tup xs))
noncomputable def tLst (t:TA):TE:=fun σ H Q=>t σ H fun xs H1=>xs.length<=sizeLine/\∀p,H1 p=none->Q (.ref p) (upd H1 p (.lst xs))
theorem zUq {x1} (h:PA X es t):PE X (.Tuple es x1 pos) (tTup t):=by
 intro pins s σ H Q I hq
 refine wpAny_Tuple_spliced (thn (h pos pins s σ H _ I hq) fun us s1 ⟨xs,H1,I1,r,z,q⟩=>⟨by rw[<- r.length];exact z,?_⟩)
 have hf:H1 s1.heap.objs.size=none:=I1.hok.fresh (xh _)
 refine⟨.ref s1.heap.objs.size,upd H1 s1.heap.objs.size (.tup xs),I1.laid (t':=s1.toks) (fun b u e=>xl _ e) (xh _) ?_,rfl,q _ hf⟩
 exact⟨z,us,r,⟨_,xv _ rfl,rfl,_,rfl⟩⟩
theorem zUs (h:PA X es t):PE X (.List es pos) (tLst t):=by
 intro pins s σ H Q I hq
 refine wpAny_List_spliced (thn (h pos pins s σ H _ I hq) fun us s1 ⟨xs,H1,I1,r,z,q⟩=>⟨by rw[<- r.length];exact z,?_⟩)
 have hf:H1 s1.heap.objs.size=none:=I1.hok.fresh (xh _)
 refine⟨.ref s1.heap.objs.size,upd H1 s1.heap.objs.size (.lst xs),I1.laid (t':=s1.toks) (fun b u e=>xl _ e) (xh _) ?_,rfl,q _ hf⟩
 exact⟨z,us,0,r,xv _ rfl⟩
end
noncomputable abbrev Sp:=List V->Hp->VK->XK->Prop
noncomputable abbrev CXT:=List Env->Hp->Shared->XK->Value->Shared->Prop
structure Env0 (P:Program) (w:World) (K:PySem.W.Frag) (mg:Str->Option Value) (base:Heap) (A:Around) (outer:List Env) (s:Shared) (H:Hp):Prop where
 frames:A.frames=some outer
 mod:Mod K mg base
 bs:∀b o,base.get? b=some o->s.heap.get? b=some o/\H b=none
 bsz:base.objs.size<=s.heap.objs.size
 funs:s.heap.FunFrames base outer
 frf:∀b∈frs outer,H b=none
 hok:HOk P w H s.heap
 bare:AllBare s.gens
 gds:A.guards=some []
noncomputable def CE (outer:List Env) (P:Program) (w:World) (H:Hp) (s:Shared) (Q:VK) (u:Value) (s':Shared):Prop:=
 ∃v H',s'.os=s.os/\AllBare s'.gens/\Un (frs outer) [] H H' s.heap s'.heap/\HOk P w H' s'.heap/\RelV v u/\Q v H'
noncomputable def CR (CX:CXT) (outer:List Env) (P:Program) (w:World) (H:Hp) (s:Shared) (Q:VK) (E:XK) (r:Result) (s':Shared):Prop:=
 match r with
 | .ok (.ret u)=>CE outer P w H s Q u s'
 | .ok _=>False
 | .error e=>CX outer H s E e s'
structure FnOk (P:Program) (w:World) (K:PySem.W.Frag) (mg:Str->Option Value) (base:Heap) (CX:CXT) (k:Nat) (f:Addr) (fd:FuncData) (ps:List Str) (sp:Sp):Prop where
 len:∀vs H Q E,sp vs H Q E->vs.length=ps.length
 run:∀(A:Around) (outer:List Env) (s:Shared) (H:Hp) (args:Args) (us:List Value) (vs:List V) (Q:VK) (E:XK),Room k A->Env0 P w K mg base A outer s H->BindsTo s fd args (ps.zip us)->Vals vs us->sp vs H Q E->
  codeAny (model P w) A (.call (.ref f) args) (CR CX outer P w H s Q E) s
theorem Env0.in1 {P:Program}{w:World}{K:PySem.W.Frag}{mg:Str->Option Value}{base:Heap}{A:Around}{outer:List Env}{s:Shared}{H:Hp}(e:Env0 P w K mg base A outer s H):
  Env0 P w K mg base A.in1 outer s H:=⟨e.frames,e.mod,e.bs,e.bsz,e.funs,e.frf,e.hok,e.bare,e.gds⟩
section
variable {X:Cx}{pins:List (Addr × Obj)}{σ:St}{H:Hp}{s s':Shared}
theorem Inv.env0 (I:Inv X pins σ H s):Env0 X.prog X.w X.K X.mg X.base X.A X.stack s H:=
 ⟨I.ok.frames,I.ok.mod,I.bs,xm I.ok.bsz I.sz,I.stack,I.stkFree,I.hok,I.bare,I.ok.gds⟩
theorem Inv.after {Q:VK}{u:Value}(I:Inv X pins σ H s) (h:CE X.stack X.prog X.w H s Q u s'):EP X pins σ Q u s':=by
 obtain⟨v,H',os,bare,un,hok,r,q⟩:=h
 obtain⟨hh,g,d,t,os'⟩:=s'
 obtain rfl:os'=s.os:=os
 exact⟨v,H',I.call (h':=hh) (g':=g) (d':=d) (t':=t) (ch:=[]) un hok bare (fun b z=>absurd z (by simp)),r,q⟩
end
noncomputable def zO1 (sp:Sp) (dvs:List V) (E:XK) (t:TA):TE:=fun σ H Q=>t σ H fun vs H1=>sp (vs++dvs) H1 Q E
noncomputable def Binds (K:PySem.W.Frag) (fd:FuncData) (ps:List Str) (ds:List Value):Prop:=
 ∀(s:Shared) (us:List Value),K.In s.heap->(us++ds).length=ps.length->BindsTo s fd ⟨us,[]⟩ (ps.zip (us++ds))
theorem Binds.all {K:PySem.W.Frag}{fd:FuncData}{ps:List Str}(h:∀us:List Value,us.length=ps.length->bindArgs fd ⟨us,[]⟩=pure (ps.zip us)):Binds K fd ps []:=fun s us _ hl=>by
 rw[vy]at hl ⊢
 exact .of_eq (h us hl)
noncomputable def Passes (CX:CXT) (X:Cx) (E:XK):Prop:=∀(pins:List (Addr × Obj)) (σ:St) (H:Hp) (s:Shared) (e:Value) (s':Shared),Inv X pins σ H s->CX X.stack H s E e s'->X.xe e s'
section
variable {X:Cx}{CX:CXT}{k:Nat}{f C:Addr}{fd:FuncData}{ps:List Str}{sp:Sp}{dvs:List V}{ds:List Value}{E:XK}{x m:Str}{p pos apos:Pos}{e o:Expr}{es:List Expr}{ta:TE}{t:TA}
theorem zU6 {pins:List (Addr × Obj)}{σ:St}{H:Hp}{s:Shared}{Q:VK}{us:List Value}{vs:List V}(F:FnOk X.prog X.w X.K X.mg X.base CX k f fd ps sp) (hr:Room k X.A) (hb:Binds X.K fd ps ds) (hd:Vals dvs ds) (hx:Passes CX X E)
  (I:Inv X pins σ H s) (r:Vals vs us) (h:sp (vs++dvs) H Q E):wpAny (model X.prog X.w) X.A (call (.ref f) us) (EP X pins σ Q) X.xe s:=by
 have r2:Vals (vs++dvs) (us++ds):=r.append hd
 have hl:(us++ds).length=ps.length:=by rw[<- r2.length];exact F.len _ _ _ _ h
 refine wpAny_call (v8 (F.run X.A X.stack s H ⟨us,[]⟩ (us++ds) (vs++dvs) Q E hr I.env0 (hb s us I.kIn hl) r2 h) fun r s' hq=>?_)
 cases r with
 | error e=>exact hx pins σ H s e s' I hq
 | ok fl=>
  cases fl with
  | ret u=>exact I.after hq
  | next=>exact False.elim hq
  | brk=>exact False.elim hq
  | cont=>exact False.elim hq
theorem zS2 (F:FnOk X.prog X.w X.K X.mg X.base CX k f fd ps sp) (hr:Room k X.A) (hg:Gl X x) (hm:X.mg x=some (.ref f)) (hk:PySem.W.keepIn X.K (.ref f)=true) (hb:Binds X.K fd ps ds) (hd:Vals dvs ds) (hx:Passes CX X E)
  (ha:PA X (e::es) t) (hdb:(x == ("__debug__":Str))=false:=by decide) (he:starEach (e::es) X.env=(false,eval e X.env)::starEach es X.env:=by rfl) (hpl:(backTo pos (starEach es X.env)).any (·.1)=false:=by rfl):
  PE X (.Call (.Name x p) (e::es) [] pos) (zO1 sp dvs E t):=by
 intro pins s σ H Q I h
 refine ur (zSp I hg hm ?_ hdb)
 refine PySem.W.callWith_K (h₀:=X.base) I.ok.mod.kin hk (thn (ha pos pins s σ H _ I h) fun us s1 ⟨vs,H1,I1,r,q⟩=>⟨I1.kIn,?_⟩) he hpl
 exact zU6 F hr hb hd hx I1 r q
structure Mk (K:PySem.W.Frag) (C f:Addr):Prop where
 makes:PySem.W.makesIn K C=true
 init:PySem.W.findIn K (.ref C) "__init__"=some (some (.ref f))
 fn:PySem.W.isFn K (.ref f)=true
 kp:PySem.W.keepIn K (.ref C)=true
end
section
variable {X:Cx}{CX:CXT}{k:Nat}{f C:Addr}{fd:FuncData}{ps ks:List Str}{sp:Sp}{E:XK}{x m:Str}{p pos apos kpos:Pos}{e o:Expr}{es:List Expr}{kws:List Keyword}{te ta:TE}{t tk:TA}{nm:Option Str}
structure KBinds (K:PySem.W.Frag) (fd:FuncData) (ps ks:List Str) (g:List Value->List Value->List Value) (gV:List V->List V->List V):Prop where
 to:∀(s:Shared) (us ws:List Value),K.In s.heap->(g us ws).length=ps.length->BindsTo s fd ⟨us,ks.zip ws⟩ (ps.zip (g us ws))
 rel:∀{vs:List V}{us:List Value}{zs:List V}{ws:List Value},Vals vs us->Vals zs ws->Vals (gV vs zs) (g us ws)
variable {g:List Value->List Value->List Value}{gV:List V->List V->List V}
end
structure zAr (N P:List Str) (sc:Scope):Prop where
 kind:sc.kind=.function
 co:sc.isCoroutine=false
 gen:sc.isGenerator=false
 nd:N.Nodup
 pre:N.take P.length=P
 par:∀x∈P,sc.names.lookup x=some .local\/sc.names.lookup x=some .cell
 nofree:∀y∈sc.names,y.2≠.free
theorem zHq {kindOf:Str->Option NameKind}{x:Str}:∀{binds:List (Str × Value)}{m:Str->Option Value},(∀v,(x,v) ∉ binds)->bindL kindOf binds m x=m x
 | [],_,_=>rfl
 | (n,v)::r,m,h=>by
  unfold bindL
  rw[zHq fun w hw=>h w (xZ _ hw)]
  split
  ·have:x≠n:=by rintro rfl;exact h v xM
   simp[this]
  ·rfl
theorem zHs {kindOf:Str->Option NameKind}{x:Str}:∀{binds:List (Str × Value)}{m:Str->Option Value},(∀v,(x,v) ∉ binds)->bindC kindOf binds m x=m x
 | [],_,_=>rfl
 | (n,v)::r,m,h=>by
  unfold bindC
  rw[zHs fun w hw=>h w (xZ _ hw)]
  split
  ·rfl
  ·have:x≠n:=by rintro rfl;exact h v xM
   simp[this]
theorem zHr {kindOf:Str->Option NameKind}{x:Str}{v:Value}:∀{P:List Str}{vs:List Value}{i:Nat}{m:Str->Option Value},P.Nodup->P[i]?=some x->vs[i]?=some v->kindOf x=some .local->
  bindL kindOf (P.zip vs) m x=some v
 | [],_,_,_,_,h,_,_=>by simp at h
 | _::_,[],_,_,_,_,h,_=>by simp at h
 | p::P,w::vs,0,m,nd,h1,h2,hk=>by
  simp at h1 h2;subst h1;subst h2
  show bindL kindOf ((p,w)::P.zip vs) m p=_
  unfold bindL
  rw[zHq fun v hv=>(xU.mp nd).1 (List.of_mem_zip hv).1,xc hk]
  simp
 | p::P,w::vs,i+1,m,nd,h1,h2,hk=>by
  show bindL kindOf ((p,w)::P.zip vs) m x=_
  unfold bindL
  exact zHr (i:=i) (xU.mp nd).2 (by simpa using h1) (by simpa using h2) hk
theorem zHt {kindOf:Str->Option NameKind}{x:Str}{v:Value}:∀{P:List Str}{vs:List Value}{i:Nat}{m:Str->Option Value},P.Nodup->P[i]?=some x->vs[i]?=some v->kindOf x≠some .local->
  bindC kindOf (P.zip vs) m x=some v
 | [],_,_,_,_,h,_,_=>by simp at h
 | _::_,[],_,_,_,_,h,_=>by simp at h
 | p::P,w::vs,0,m,nd,h1,h2,hk=>by
  simp at h1 h2;subst h1;subst h2
  show bindC kindOf ((p,w)::P.zip vs) m p=_
  unfold bindC
  rw[zHs fun v hv=>(xU.mp nd).1 (List.of_mem_zip hv).1,xf hk]
  simp
 | p::P,w::vs,i+1,m,nd,h1,h2,hk=>by
  show bindC kindOf ((p,w)::P.zip vs) m x=_
  unfold bindC
  exact zHt (i:=i) (xU.mp nd).2 (by simpa using h1) (by simpa using h2) hk
noncomputable def start (N:List Str) (vs:List V):St:=vs.map some++List.replicate (N.length-vs.length) none
noncomputable def cxOf (CX:CXT) (P:Program) (w:World) (K:PySem.W.Frag) (mg:Str->Option Value) (base:Heap) (N:List Str) (qual:Str) (scope:Scope) (f:Addr) (cd:Value) (A:Around) (outer:List Env) (s:Shared) (H:Hp) (E:XK):Cx where
 prog:=P
 w:=w
 K:=K
 mg:=mg
 base:=base
 A:=A.deeper (envOfC qual scope s.heap.objs.size f cd)
 N:=N
 s₀:=s
 H₀:=H
 env:=envOfC qual scope s.heap.objs.size f cd
 outer:=outer
 stack:=envOfC qual scope s.heap.objs.size f cd::outer
 ex:=[]
 calm:=true
 fn:=fun _=>true
 pn:=[]
 xe:=fun e s'=>wpAny (model P w) (A.deeper (envOfC qual scope s.heap.objs.size f cd)) (leaving (envOfC qual scope s.heap.objs.size f cd) e) (fun _ s''=>CX outer H s E e s'') (fun e' s''=>CX outer H s E e' s'') s'
theorem zJz {sc:Scope}{n:Nat}{x:Str}(h:sc.names.lookup x=some .cell):∃c,(cellsFrom n sc.names []).lookup x=some c:=by
 have q:=PySem.W.cellsFrom_some sc.names n [] (.inl h)
 exact Option.isSome_iff_exists.mp q
theorem zMw {CX:CXT}{P:Program}{w:World}{K:PySem.W.Frag}{mg:Str->Option Value}{base:Heap}{N ps:List Str}{qual:Str}{scope:Scope}{f:Addr}{cd:Value}{A:Around}{outer:List Env}{s s1:Shared}{H:Hp}{E:XK}{us:List Value}{vs:List V}
  (S:zAr N ps scope) (hd:A.handled=none) (e0:Env0 P w K mg base A outer s H) (hl:vs.length=ps.length) (r:Vals vs us)
  (x:InCallC s s.heap.objs.size (bindL (envOfC qual scope s.heap.objs.size f cd).kindOf (ps.zip us) fun _=>none) (cellsFrom (s.heap.objs.size+1) scope.names []) (bindC (envOfC qual scope s.heap.objs.size f cd).kindOf (ps.zip us) fun _=>none) s1):
  Inv (cxOf CX P w K mg base N qual scope f cd A outer s H E) [] (start N vs) H s1:=by
 have hpl:ps.length<=N.length:=by have:=congrArg List.length S.pre;rw[vz]at this;lia
 obtain⟨h1,tk,rfl,hk⟩:=x.done
 have noA:∀b:Addr,b ∉ (cxOf CX P w K mg base N qual scope f cd A outer s H E).ex:=fun b z=>absurd (show b∈([]:List Addr)from z) (by simp)
 refine⟨⟨e0.mod,S.kind,rfl,rfl,xh _,fun y z c h1 h2=>?_,fun y hy=>?_,fun y c _ h=>?_,fun _=>hd,Around.frames_deeper e0.frames,.inr ⟨rfl,rfl⟩,fun b z=>absurd z (noA b),e0.bs,e0.bsz,fun b _ _=>noA b,fun b z=>absurd z (noA b),e0.funs,e0.frf,e0.gds⟩,
  rfl,e0.bare,Un.kept hk,⟨_,x.toInCall.ns,fun i y v h1 h2 h3=>?_⟩,fun y c h=>⟨_,x.cell y c h⟩,e0.hok.fresh (xh _),fun y c h=>?_,fun p hp=>absurd (show p∈([]:List (Addr × Obj))from hp) (by simp),e0.hok.kept hk,?_⟩
 ·exact name_of_addr x.apart (uu h1) (uu h2)
 ·have hy:scope.names.lookup y=some .cell\/scope.names.lookup y=some .free:=hy
  rcases hy with hy|hy
  ·exact zJz hy
  ·exact absurd rfl (S.nofree _ (uu hy))
 ·exact xO (x.above y c (uu h))
 ·have hi:i<vs.length:=by
   unfold start at h2
   by_cases hi:i<vs.length
   ·exact hi
   ·rw[vH (by simpa using hi)]at h2
    rw[List.getElem?_replicate]at h2
    split at h2 <;> cases h2
  have ha:vs[i]?=some v:=by
   unfold start at h2
   rw[vq (by simpa using hi),vt]at h2
   cases e:vs[i]? with
   | none=>rw[e]at h2;cases h2
   | some a=>rw[e]at h2;cases h2;rfl
  obtain⟨u,hu,rv⟩:=r.get ha
  have hp:ps[i]?=some y:=by
   rw[<- S.pre,uv (by nofun)];exact h1
  have ndP:ps.Nodup:=by rw[<- S.pre];exact S.nd.sublist (List.take_sublist _ _)
  refine⟨u,rv,?_⟩
  rcases S.par y (uw hp)with k|k
  ·exact .inl ⟨k,zHr ndP hp hu k⟩
  ·obtain⟨c,e⟩:=zJz (n:=s.heap.objs.size+1) k
   refine .inr ⟨.inl k,c,e,?_⟩
   have q:=x.cell y c e
   rw[zHt ndP hp hu (by show scope.names.lookup y≠_;rw[k];decide)]at q
   exact q
 ·exact e0.hok.fresh (xO (x.above y c (uu h)))
 ·unfold start
  show _=N.length
  rw[vd,xo,List.length_replicate]
  lia
theorem zX5 {CX:CXT}{P:Program}{w:World}{K:PySem.W.Frag}{mg:Str->Option Value}{base:Heap}{k:Nat}{f:Addr}{name qual:Str}{params:Arguments}{body:List Stmt}{scope:Scope}{dV kV doc pm cdv ct oc:Value}{an od:Option Addr}
  {osl:Array (Option Value)}{N ps:List Str}{sp:Sp}(lk:K.lookup f=some ⟨oc,od,.func (PySem.W.fnOf name qual params body scope dV kV doc pm an cdv ct),osl⟩) (hcd:PySem.W.codeIn K cdv qual=true) (S:zAr N ps scope)
  (len:∀vs H Q E,sp vs H Q E->vs.length=ps.length)
  (hbody:∀(A:Around) (outer:List Env) (s:Shared) (H:Hp) (vs:List V) (Q:VK) (E:XK),Room k (A.deeper (envOfC qual scope s.heap.objs.size f cdv))->sp vs H Q E->
   ∃t,PSs (cxOf CX P w K mg base N qual scope f cdv A outer s H E) body t/\t { nx:=fun _ H'=>Q .non H',rt:=Q } (start N vs) H):
  FnOk P w K mg base CX (k+1) f (PySem.W.fnOf name qual params body scope dV kV doc pm an cdv ct) ps sp:=by
 refine⟨len,fun A outer s H args us vs Q E hr e0 hb r hsp=>?_⟩
 have hl:=len _ _ _ _ hsp
 have KX:K.In s.heap:=e0.mod.kin.keeps fun b o e=>(e0.bs b o e).1
 have lim:s.heap.NoLimit:=e0.mod.nolimit.keeps fun b o e=>(e0.bs b o e).1
 have hkind:∀y∈ps.zip us,scope.names.lookup y.1=some .local\/(scope.names.lookup y.1=some .cell/\((cellsFrom (s.heap.objs.size+1) scope.names []).lookup y.1).isSome=true):=fun⟨n,v⟩ hy=>by
  rcases S.par n (List.of_mem_zip hy).1 with q|q
  ·exact .inl q
  ·exact .inr ⟨q,PySem.W.cellsFrom_some _ _ _ (.inl q)⟩
 refine codeAny_call_function hr.depth (KX _ _ lk) rfl S.co S.gen rfl (PySem.W.codeRec_of KX hcd) (hb _ _ _ _ ?_)
 refine wpAny_newFunctionEnv_cells S.kind hkind fun env he s1 x=>?_
 subst he
 refine⟨lim.keeps x.toInCall.keep,codeAny_func ?_⟩
 obtain⟨t,ht,hq⟩:=hbody A outer s H vs Q E (hr.deeper _) hsp
 have I:Inv (cxOf CX P w K mg base N qual scope f cdv A outer s H E) [] (start N vs) H s1:=zMw S hr.hd e0 hl r x
 refine x8 (ht [] s1 (start N vs) H _ I hq) (fun fl s' hs=>?_) fun e s' hs=>hs
 have fin:∀{σ':St}{H':Hp}{v:V}{u:Value},Inv (cxOf CX P w K mg base N qual scope f cdv A outer s H E) [] σ' H' s'->RelV v u->Q v H'->CE outer P w H s Q u s':=
  fun {σ' H' v u} J rv q=>⟨v,H',J.os,J.bare,J.base,J.hok,rv,q⟩
 cases fl with
 | ret u=>
  obtain⟨v,σ',H',J,rv,q⟩:=hs
  exact fin J rv q
 | next=>
  obtain⟨σ',H',J,q⟩:=hs
  exact fin (v:=V.non) (u:=Value.none) J rfl q
 | brk=>
  obtain⟨_,_,_,q⟩:=hs
  exact False.elim q
 | cont=>
  obtain⟨_,_,_,q⟩:=hs
  exact False.elim q
end L2
namespace L2
open PySem PySem.Spec PyProof.Rows
section
variable {X:Cx}{x:Str}{p pos:Pos}{e:Expr}{es:List Expr}{t:TA}{id T:String}{r:List V->Hp->VK->Prop}
noncomputable def tCB (r:List V->Hp->VK->Prop) (t:TA):TE:=fun σ H Q=>t σ H fun vs H1=>r vs H1 Q
theorem zOs (hc:zBa X (.builtin id) r) (hg:Gl X x) (hm:X.mg x=none) (hv:bootBuiltins x=some (.builtin id)) (ha:PA X (e::es) t) (hn:x≠"__name__":=by decide) (hdb:(x == ("__debug__":Str))=false:=by decide)
  (he:starEach (e::es) X.env=(false,eval e X.env)::starEach es X.env:=by rfl) (hpl:(backTo pos (starEach es X.env)).any (·.1)=false:=by rfl):PE X (.Call (.Name x p) (e::es) [] pos) (tCB r t):=by
 intro pins s σ H Q I h
 refine ur (zE0 I hg hm hv ?_ hn hdb)
 exact PyProof.Rows.callWith_builtin1 (thn (ha pos pins s σ H _ I h) fun us s1 hz6=>by obtain⟨vs,H1,I1,r1,q1⟩:=hz6;exact hc pins s1 σ H1 vs us Q I1 r1 q1) he hpl
theorem zM2 (hc:zBa X (.type T) r) (hg:Gl X x) (hm:X.mg x=none) (hv:bootBuiltins x=some (.type T)) (ha:PA X (e::es) t) (hn:x≠"__name__":=by decide) (hdb:(x == ("__debug__":Str))=false:=by decide)
  (he:starEach (e::es) X.env=(false,eval e X.env)::starEach es X.env:=by rfl) (hpl:(backTo pos (starEach es X.env)).any (·.1)=false:=by rfl):PE X (.Call (.Name x p) (e::es) [] pos) (tCB r t):=by
 intro pins s σ H Q I h
 refine ur (zE0 I hg hm hv ?_ hn hdb)
 exact u3 (thn (ha pos pins s σ H _ I h) fun us s1 hz7=>by obtain⟨vs,H1,I1,r1,q1⟩:=hz7;exact hc pins s1 σ H1 vs us Q I1 r1 q1) he hpl
end
end L2
namespace L2
open PySem PySem.Spec PyProof.Rows
section
variable {κ:Type}[DecidableEq κ]
noncomputable def valV (kvs:List (κ × V)) (k:κ):Option V:=(kvs.find? fun kv=>decide (kv.1=k)).map (·.2)
noncomputable def putK (kvs:List (κ × V)) (k:κ) (v:V):List (κ × V):=
 if(kvs.any fun kv=>decide (kv.1=k))=true then kvs.map (fun kv=>if kv.1=k then(kv.1,v)else kv)else kvs++[(k,v)]
theorem zEb {p:κ × V}{r:List (κ × V)}{k:κ}(e:p.1=k):valV (p::r) k=some p.2:=by simp[valV,uy,e]
theorem zEc {p:κ × V}{r:List (κ × V)}{k:κ}(e:¬ p.1=k):valV (p::r) k=valV r k:=by simp[valV,uy,e]
theorem zIz (k:κ):∀kvs:List (κ × V),(kvs.any fun kv=>decide (kv.1=k))=(valV kvs k).isSome
 | []=>rfl
 | p::r=>by
  rw[List.any_cons]
  by_cases e:p.1=k
  ·simp only[zEb e,xq e,Bool.true_or,Option.isSome_some]
  ·rw[zEc e,xj e,Bool.false_or];exact zIz k r
theorem zEr (kvs:List (κ × V)) (k:κ) (v:V):(putK kvs k v).length<=kvs.length+1:=by
 unfold putK
 split
 ·rw[xo];lia
 ·rw[vd,xH,List.length_nil];lia
theorem RelO.isSome_eq {o:Option V}{u:Option Value}(r:RelO o u):o.isSome=u.isSome:=by
 cases o with
 | none=>cases u with
  | none=>rfl
  | some _=>exact(show False from r).elim
 | some _=>cases u with
  | none=>exact(show False from r).elim
  | some _=>rfl
theorem RelO.getD {o:Option V}{u:Option Value}{d:V}{d':Value}(r:RelO o u) (rd:RelV d d'):RelV (o.getD d) (u.getD d'):=by
 cases o with
 | none=>cases u with
  | none=>exact rd
  | some _=>exact(show False from r).elim
 | some _=>cases u with
  | none=>exact(show False from r).elim
  | some _=>exact r
theorem KV.val {kvs:List (κ × V)}{vs:List (κ × Value)}(r:KV kvs vs) (k:κ):RelO (valV kvs k) (valueAt vs k):=by
 unfold KV at r
 induction r with
 | nil=>exact True.intro
 | @cons p q ps qs h t ih=>
  obtain⟨h1,h2⟩:=h
  by_cases e:p.1=k
  ·have e':q.1=k:=h1.symm.trans e
   have b:valueAt (q::qs) k=some q.2:=by simp[valueAt,uy,e']
   rw[zEb e,b];exact h2
  ·have e':¬ q.1=k:=fun z=>e (h1.trans z)
   have b:valueAt (q::qs) k=valueAt qs k:=by simp[valueAt,uy,e']
   rw[zEc e,b];exact ih
theorem KV.any {kvs:List (κ × V)}{vs:List (κ × Value)}(r:KV kvs vs) (k:κ):(kvs.any fun kv=>decide (kv.1=k))=vs.any fun kv=>decide (kv.1=k):=by
 unfold KV at r
 induction r with
 | nil=>rfl
 | cons h t ih=>rw[List.any_cons,List.any_cons,ih,h.1]
theorem KV.repl {kvs:List (κ × V)}{vs:List (κ × Value)}(r:KV kvs vs) (k:κ) {y:V}{u:Value}(ry:RelV y u):
  KV (kvs.map fun kv=>if kv.1=k then(kv.1,y)else kv) (vs.map fun kv=>if kv.1=k then(kv.1,u)else kv):=by
 unfold KV at r ⊢
 induction r with
 | nil=>exact .nil
 | @cons p q ps qs h t ih=>
  rw[xr,xr]
  refine .cons ?_ ih
  obtain⟨h1,h2⟩:=h
  by_cases e:p.1=k
  ·rw[xc e,xc (h1.symm.trans e)];exact⟨h1,ry⟩
  ·rw[xf e,xf (fun z=>e (h1.trans z))];exact⟨h1,h2⟩
theorem KV.put {kvs:List (κ × V)}{vs:List (κ × Value)}(r:KV kvs vs) (k:κ) {y:V}{u:Value}(ry:RelV y u):KV (putK kvs k y) (stored vs k u):=by
 unfold putK stored
 rw[r.any k]
 by_cases e:(vs.any fun kv=>decide (kv.1=k))=true
 ·rw[xc e,xc e];exact r.repl k ry
 ·rw[xf e,xf e];exact Paired.snoc r ⟨rfl,ry⟩
theorem KV.keys {kvs:List (κ × V)}{vs:List (κ × Value)}(r:KV kvs vs):kvs.map (·.1)=vs.map (·.1):=by
 unfold KV at r
 induction r with
 | nil=>rfl
 | cons h t ih=>rw[xr,xr,ih,h.1]
theorem KV.length {kvs:List (κ × V)}{vs:List (κ × Value)}(r:KV kvs vs):kvs.length=vs.length:=Paired.length r
end
theorem zMr {P:Program}{w:World}{k:Key}{u:Value}(r:RelV (kV k) u):(zAz P w).is k u=true:=by
 cases k with
 | inl i=>obtain⟨t,e⟩:=(show ∃t,u=Value.int i t from r);subst e;exact zIb P w i t
 | inr x=>obtain⟨t,e⟩:=(show ∃t,u=Value.str x t from r);subst e;exact zIa P w x t
theorem zHc {P:Program}{w:World}:∀{ks:List Key}{us:List Value},Vals (ks.map kV) us->ItemsAre (zAz P w) ks us
 | [],_,r=>by rw[vI]at r;cases r;exact .nil
 | k::ks,_,r=>by
  rw[xr]at r
  cases r with
  | cons h t=>exact .cons (zMr h) (zHc t)
noncomputable abbrev KT (H:Hp):List (List Key × V)->List (List Key × Addr × Value)->Prop:=Paired fun p q=>p.1=q.1/\H q.2.1=some (.tup (p.1.map kV))/\RelV p.2 q.2.2
theorem KT.val {H:Hp}{kvs:List (List Key × V)}{xs:List (List Key × Addr × Value)}(r:KT H kvs xs) (k:List Key):RelO (valV kvs k) ((atKey xs k).map (·.2)):=by
 induction r with
 | nil=>exact True.intro
 | @cons p q ps qs h t ih=>
  obtain⟨h1,_,h2⟩:=h
  by_cases e:p.1=k
  ·have e':q.1=k:=h1.symm.trans e
   have b:atKey (q::qs) k=some q.2:=by simp[atKey,uy,e']
   rw[zEb e,b];exact h2
  ·have e':¬ q.1=k:=fun z=>e (h1.trans z)
   have b:atKey (q::qs) k=atKey qs k:=by simp[atKey,uy,e']
   rw[zEc e,b];exact ih
theorem KT.repl {H:Hp}{kvs:List (List Key × V)}{xs:List (List Key × Addr × Value)}(r:KT H kvs xs) (k:List Key) {y:V}{u:Value}(ry:RelV y u):
  KT H (kvs.map fun kv=>if kv.1=k then(kv.1,y)else kv) (xs.map (putAt k u)):=by
 induction r with
 | nil=>exact .nil
 | @cons p q ps qs h t ih=>
  rw[xr,xr]
  refine .cons ?_ ih
  obtain⟨h1,h2,h3⟩:=h
  unfold putAt
  by_cases e:p.1=k
  ·rw[xc e,xc (h1.symm.trans e)];exact⟨h1,h2,ry⟩
  ·rw[xf e,xf (fun z=>e (h1.trans z))];exact⟨h1,h2,h3⟩
theorem KT.put {H:Hp}{kvs:List (List Key × V)}{xs:List (List Key × Addr × Value)}(r:KT H kvs xs) (k:List Key) {b:Addr}{y:V}{u:Value}(hb:H b=some (.tup (k.map kV))) (ry:RelV y u):
  KT H (putK kvs k y) (storedH xs k b u):=by
 have e:(kvs.any fun kv=>decide (kv.1=k))=(atKey xs k).isSome:=by
  rw[zIz,(r.val k).isSome_eq,Option.isSome_map]
 unfold putK storedH
 rw[e]
 by_cases q:(atKey xs k).isSome=true
 ·rw[xc q,xc q];exact r.repl k ry
 ·rw[xf q,xf q];exact Paired.snoc r ⟨rfl,hb,ry⟩
theorem KT.keeps {H H':Hp}{kvs:List (List Key × V)}{xs:List (List Key × Addr × Value)}(r:KT H kvs xs) (ht:∀b ys,H b=some (.tup ys)->H' b=some (.tup ys)):KT H' kvs xs:=
 Paired.mapP r fun _ _ z=>⟨z.1,ht _ _ z.2.1,z.2.2⟩
section
variable {P:Program}{w:World}{H:Hp}{h:Heap}{a:Addr}
theorem zU9 {u:HO}(ok:HOk P w H h) (e:Rd H a u):ObjOk P w H h a u:=e.ok ok
theorem zKo {kvs:List (Key × V)}(ok:HOk P w H h) (e:Rd H a (.dK kvs)):kvs.length<=sizeLine/\(a == sysModules)=false/\∃vs,KV kvs vs/\h.DictOf (zAz P w) a vs:=
 show ObjOk P w H h a (.dK kvs)from zU9 ok e
theorem zX8 {kvs:List (Key × V)}(ok:HOk P w H h) (e:H a=some (.dK kvs)):kvs.length<=sizeLine/\(a == sysModules)=false/\∃vs,KV kvs vs/\h.DictOf (zAz P w) a vs:=zKo ok (.inl e)
theorem zHa {ks:List Key}(ok:HOk P w H h) (e:H a=some (.tup (ks.map kV))):(tupleKind (zAz P w)).is h ks a:=by
 obtain⟨_,its,r,o,h1,h2,n,h3⟩:=(show ObjOk P w H h a (.tup (ks.map kV))from ok a _ e)
 exact⟨o,its.toArray,n,h1,h2,h3,by simpa using zHc r⟩
theorem zKn {kvs:List (List Key × V)}(ok:HOk P w H h) (e:Rd H a (.dT kvs)):kvs.length<=sizeLine/\(a == sysModules)=false /\
  ∃xs,KT H kvs xs/\h.DictOfH (tupleKind (zAz P w)) a xs:=by
 obtain⟨z,y,xs,r,o,es,ep,h1,h2,h3,h4,h5⟩:=(show ObjOk P w H h a (.dT kvs)from zU9 ok e)
 refine⟨z,y,xs,r,o,es,ep,h1,h2,h3,h4,fun x hx=>?_,h5⟩
 have all:∀{l:List (List Key × V)}{m:List (List Key × Addr × Value)},KT H l m->∀x∈m,(tupleKind (zAz P w)).is h x.1 x.2.1:=by
  intro l m q
  induction q with
  | nil=>intro x hx;exact nomatch hx
  | @cons p q ps qs hq t ih=>
   intro x hx
   rcases xk.mp hx with e|hx
   ·subst e
    exact zHa ok (by rw[<- hq.1];exact hq.2.1)
   ·exact ih x hx
 exact all r x hx
theorem zX7 {kvs:List (List Key × V)}(ok:HOk P w H h) (e:H a=some (.dT kvs)):kvs.length<=sizeLine/\(a == sysModules)=false /\
  ∃xs,KT H kvs xs/\h.DictOfH (tupleKind (zAz P w)) a xs:=zKn ok (.inl e)
end
noncomputable def DGet (H:Hp) (a:Addr) (y:V) (r:Option V):Prop:=
 (∃kvs k,Rd H a (.dK kvs)/\y=kV k/\r=valV kvs k)\/∃kvs k b,Rd H a (.dT kvs)/\y=.ref b/\H b=some (.tup (k.map kV))/\r=valV kvs k
noncomputable def DPut (H:Hp) (a:Addr) (y v:V) (H':Hp):Prop:=
 (∃kvs k,H a=some (.dK kvs)/\y=kV k/\kvs.length<sizeLine/\H'=upd H a (.dK (putK kvs k v))) \/
 ∃kvs k b,H a=some (.dT kvs)/\y=.ref b/\H b=some (.tup (k.map kV))/\kvs.length<sizeLine/\H'=upd H a (.dT (putK kvs k v))
theorem DGet.k {H:Hp}{a:Addr}{kvs:List (Key × V)}{k:Key}(e:H a=some (.dK kvs)):DGet H a (kV k) (valV kvs k):=.inl ⟨kvs,k,.inl e,rfl,rfl⟩
theorem DGet.t {H:Hp}{a b:Addr}{kvs:List (List Key × V)}{k:List Key}(e:H a=some (.dT kvs)) (eb:H b=some (.tup (k.map kV))):DGet H a (.ref b) (valV kvs k):=.inr ⟨kvs,k,b,.inl e,rfl,eb,rfl⟩
theorem DPut.k {H:Hp}{a:Addr}{kvs:List (Key × V)}{k:Key}{v:V}(e:H a=some (.dK kvs)) (hl:kvs.length<sizeLine):DPut H a (kV k) v (upd H a (.dK (putK kvs k v))):=.inl ⟨kvs,k,e,rfl,hl,rfl⟩
theorem DPut.t {H:Hp}{a b:Addr}{kvs:List (List Key × V)}{k:List Key}{v:V}(e:H a=some (.dT kvs)) (eb:H b=some (.tup (k.map kV))) (hl:kvs.length<sizeLine):
  DPut H a (.ref b) v (upd H a (.dT (putK kvs k v))):=.inr ⟨kvs,k,b,e,rfl,eb,hl,rfl⟩
section
variable {X:Cx}{pins:List (Addr × Obj)}{σ:St}{H:Hp}{s:Shared}{a:Addr}{y v:V}{u r:Value}{o:Option V}{A:Around}{E:Value->Shared->Prop}
theorem Inv.big (I:Inv X pins σ H s):sysModules<s.heap.objs.size:=by
 have h:mainGlobals<s.heap.objs.size:=(I.mod.glob.keeps I.bk).lt
 exact vT (by decide) h
theorem zNh {Q:Value->Shared->Prop}(hu:A.units+1<cLine) (I:Inv X pins σ H s) (g:DGet H a y (some v)) (ry:RelV y u) (h:∀w' s',Inv X pins σ H s'->RelV v w'->Q w' s'):
  wpAny (model X.prog X.w) A (getItem (.ref a) u) Q E s:=by
 rcases g with⟨kvs,k,e,ey,l⟩|⟨kvs,k,b,e,ey,eb,l⟩
 ·subst ey
  obtain⟨z,hd,vs,rel,dd⟩:=zKo I.hok e
  obtain⟨w',hw,rw'⟩:=RelO.some_of (v:=v) (o:=valueAt vs k) (by rw[l];exact rel.val k)
  exact wpAny_getItem_of (zMr ry) dd.mapOf hw (h w' _ (I.tok _) rw')
 ·subst ey
  cases(show u=Value.ref b from ry)
  obtain⟨z,hd,xs,rel,dd⟩:=zKn I.hok e
  obtain⟨w',hw,rw'⟩:=RelO.some_of (v:=v) (o:=(atKey xs k).map (·.2)) (by rw[l];exact rel.val k)
  obtain⟨p,hp,hp2⟩:=u4.mp hw
  refine wpAny_getItem_heap (tupleKind_room_in1 hu) (zHa I.hok eb) dd hp ?_
  rw[hp2]
  exact h w' _ (I.tok _) rw'
theorem d_in {Q:Value->Shared->Prop}(hu:A.units+1<cLine) (I:Inv X pins σ H s) (g:DGet H a y o) (ry:RelV y u) (h:∀s',Inv X pins σ H s'->Q (.bool o.isSome) s'):
  wpAny (model X.prog X.w) A (compareOp .In u (.ref a)) Q E s:=by
 rcases g with⟨kvs,k,e,ey,l⟩|⟨kvs,k,b,e,ey,eb,l⟩
 ·subst ey
  obtain⟨z,hd,vs,rel,dd⟩:=zKo I.hok e
  refine wpAny_in_of (zMr ry) hd dd.mapOf ?_
  rw[<- (rel.val k).isSome_eq,<- l]
  exact h _ (I.tok _)
 ·subst ey
  cases(show u=Value.ref b from ry)
  obtain⟨z,hd,xs,rel,dd⟩:=zKn I.hok e
  refine wpAny_in_heap (tupleKind_room_in1 hu) (zHa I.hok eb) hd dd ?_
  have q:=(rel.val k).isSome_eq
  rw[Option.isSome_map]at q
  rw[<- q,<- l]
  exact h _ (I.tok _)
theorem zNg {Q:Value->Shared->Prop}(hu:A.units+1<cLine) (I:Inv X pins σ H s) (g:DGet H a y o) (ry:RelV y u) (h:∀s',Inv X pins σ H s'->Q (.bool (!o.isSome)) s'):
  wpAny (model X.prog X.w) A (compareOp .NotIn u (.ref a)) Q E s:=by
 rcases g with⟨kvs,k,e,ey,l⟩|⟨kvs,k,b,e,ey,eb,l⟩
 ·subst ey
  obtain⟨z,hd,vs,rel,dd⟩:=zKo I.hok e
  refine wpAny_notIn_of (zMr ry) hd dd.mapOf ?_
  rw[<- (rel.val k).isSome_eq,<- l]
  exact h _ (I.tok _)
 ·subst ey
  cases(show u=Value.ref b from ry)
  obtain⟨z,hd,xs,rel,dd⟩:=zKn I.hok e
  refine wpAny_notIn_heap (tupleKind_room_in1 hu) (zHa I.hok eb) hd dd ?_
  have q:=(rel.val k).isSome_eq
  rw[Option.isSome_map]at q
  rw[<- q,<- l]
  exact h _ (I.tok _)
theorem zNe {h':Heap}{t':Nat}{ob:HO}(I:Inv X pins σ H s) (mu:Mut (H a)) (hs:Heap.SameBut a s.heap h') (he:∃q,h'.get? a=some q) (new:ObjOk X.prog X.w (upd H a ob) h' a ob):
  Inv X pins σ (upd H a ob) { s with heap:=h',toks:=t' }:=
 I.write (x:=a) (e:=a) mu (.inl rfl) (fun b q hb z=>(hs.2 b hb).trans z) he new
theorem zVy {P:Program}{w:World}{H':Hp}{h':Heap}{kvs:List (Key × V)}{vs:List (Key × Value)}(z:kvs.length<=sizeLine) (hd:(a == sysModules)=false) (rel:KV kvs vs) (dd:h'.DictOf (zAz P w) a vs):
  ObjOk P w H' h' a (.dK kvs):=⟨z,hd,vs,rel,dd⟩
theorem zNf {H':Hp}{Q:Unit->Shared->Prop}(hu:A.units+1<cLine) (I:Inv X pins σ H s) (g:DPut H a y v H') (ry:RelV y u) (rv:RelV v r) (h:∀s',Inv X pins σ H' s'->Q () s'):
  wpAny (model X.prog X.w) A (setItem (.ref a) u r) Q E s:=by
 rcases g with⟨kvs,k,e,ey,l,eH⟩|⟨kvs,k,b,e,ey,eb,l,eH⟩
 ·subst ey eH
  obtain⟨z,hd,vs,rel,dd⟩:=zX8 I.hok e
  have hz:vs.length<=sizeLine:=by rw[<- rel.length];exact z
  have hl:(putK kvs k v).length<=sizeLine:=by have:=zEr kvs k v;lia
  refine wpAny_setItem_pairs (hsz:=hz) (zMr ry) dd fun h' dd' hs=>h _ ?_
  have he:∃q,h'.get? a=some q:=let ⟨q,_,_,hq,_⟩:=dd';⟨q,hq⟩
  exact zNe I (by rw[e];exact True.intro) hs he (zVy hl hd (rel.put k rv) dd')
 ·subst ey eH
  cases(show u=Value.ref b from ry)
  obtain⟨z,hd,xs,rel,dd⟩:=zX7 I.hok e
  have hz:xs.length<=sizeLine:=by rw[<- Paired.length rel];exact z
  have hl:(putK kvs k v).length<=sizeLine:=by have:=zEr kvs k v;lia
  refine wpAny_setItem_heap (hsz:=hz) (tupleKind_room_in1 hu) (zHa I.hok eb) dd fun h' dd' hs=>h _ ?_
  obtain⟨q,es,ep,hq,h2,h3,h4,_,h5⟩:=dd'
  refine zNe I (by rw[e];exact True.intro) hs ⟨q,hq⟩ ⟨hl,hd,_,(rel.put k eb rv).keeps fun c ys ec=>?_,q,es,ep,hq,h2,h3,h4,h5⟩
  rw[zAd (zX0 ec e (fun z=>nomatch z))]
  exact ec
end
section
variable {X:Cx}{pins:List (Addr × Obj)}{σ:St}{H:Hp}{s:Shared}{a:Addr}{kvs:List (Key × V)}{k:Key}{u:Value}{A:Around}{E:Value->Shared->Prop}
theorem zXc {Q:Value->Shared->Prop}(I:Inv X pins σ H s) (e:Rd H a (.dK kvs)) (h:∀t s',Inv X pins σ H s'->Q (.int kvs.length t) s'):wpAny (model X.prog X.w) A (call (.builtin "len") [.ref a]) Q E s:=by
 obtain⟨z,hd,vs,rel,dd⟩:=zKo I.hok e
 refine call_len_dict hd dd (by rw[<- rel.length];rw[xJ]at z;lia) ?_
 rw[<- rel.length]
 exact h _ _ (I.tok _)
end
theorem zIn {X:Cx}{pins:List (Addr × Obj)}{σ:St}{H:Hp}{s:Shared}{a:Addr}{y:V}{o:Option V}(I:Inv X pins σ H s) (g:DGet H a y o):s.TypeIs (.ref a) "dict":=by
 rcases g with⟨kvs,k,e,_,_⟩|⟨kvs,k,b,e,_,_,_⟩
 ·obtain⟨_,_,vs,_,dd⟩:=zKo I.hok e
  exact dd.typeIs
 ·obtain⟨_,_,xs,_,dd⟩:=zKn I.hok e
  exact dd.typeIs
theorem zPh {P:Program}{w:World}{H:Hp}(h:Heap) (hb:sysModules<h.objs.size):ObjOk P w H (h.push { cls:=.type "dict",data:=.dict #[] }) h.objs.size (.dT []):=
 ⟨xC _,beq_eq_false_iff_ne.mpr (xB (xu hb)),[],.nil,_,#[],0,xv _ rfl,⟨rfl,rfl,rfl⟩,rfl,rfl,vg⟩
noncomputable def zPv:TE:=fun _ H Q=>∀p,H p=none->Q (.ref p) (upd H p (.dT []))
section
variable {X:Cx}{pos:Pos}
theorem zOq:PE X (.Dict [] [] pos) zPv:=fun pins s σ H Q I h=>
 wpAny_Dict_empty ⟨.ref s.heap.objs.size,_,I.laid (a:=s.heap.objs.size) (o:=.dT []) (t':=s.toks) (fun _ _ q=>xl _ q) (xh _) (zPh s.heap I.big),rfl,h _ (I.hok.fresh (xh _))⟩
end
structure M1 (X:Cx) (o:Expr) (m:Str) (apos:Pos) (e:Expr) (cpos:Pos):Prop where
 base:attributeBase o m X.env (eval o X.env)=eval o X.env
 few:((backTo cpos (starEach [e] X.env)).all (fun x=>!x.1) && (backToKw cpos (keywordEach [] X.env)).all (fun x=>x.1.isSome)
  && decide (([e]:List Expr).length+([]:List Keyword).length+(if([]:List Keyword).isEmpty then 0 else 1)<30))=true
 line:(apos.endLine == cpos.line)=true
 trees:backTo cpos (starEach [e] X.env)=[(false,eval e X.env)]
structure M2 (X:Cx) (o:Expr) (m:Str) (apos:Pos) (e f:Expr) (cpos:Pos):Prop where
 base:attributeBase o m X.env (eval o X.env)=eval o X.env
 few:((backTo cpos (starEach [e,f] X.env)).all (fun x=>!x.1) && (backToKw cpos (keywordEach [] X.env)).all (fun x=>x.1.isSome)
  && decide (([e,f]:List Expr).length+([]:List Keyword).length+(if([]:List Keyword).isEmpty then 0 else 1)<30))=true
 line:(apos.endLine == cpos.line)=true
 trees:backTo cpos (starEach [e,f] X.env)=[(false,eval e X.env),(false,eval f X.env)]
end L2
namespace HT
open PySem PyProof.Rows
section
open PySem.SeqAt
open PySem.AutoSeq1 (wpAny_loadPart')
open PySem.MeetsSeq PySem.MeetsSeq2 PySem.MeetsSeq3
end
section
variable {prog:Program}{w:World}{A:Around}{E:Value->Shared->Prop}{s:Shared}
theorem cat_tup {t b:Addr}{vs ws:List Value}{Q:Value->Shared->Prop}(ht:IsTup s.heap t vs.toArray) (hb:IsTup s.heap b ws.toArray) (hv:vs≠[])
  (h1:ws=[]->Q (.ref t) s) (h2:ws≠[]->Q (.ref s.heap.objs.size) { s with heap:=s.heap.push { cls:=.type "tuple",data:=.seq (vs++ws).toArray } })
  (hsz:vs.length+ws.length<=sizeLine):wpAny (model prog w) A (binaryOp .Add (.ref t) (.ref b)) Q E s:=by
 obtain⟨⟨cls,dd,data,sl⟩,ho,hc,n,hd⟩:=id ht
 obtain⟨⟨cls2,dd2,data2,sl2⟩,ho2,hc2,n2,hd2⟩:=id hb
 simp only at hc hd hc2 hd2
 subst hc hd hc2 hd2
 have e:vs.toArray++ws.toArray=(vs++ws).toArray:=by simp
 by_cases hw:ws=[]
 ·exact concat_meets ⟨_,ho,rfl⟩ ⟨_,ho2,rfl⟩ noFill_tuple_add seq_tuple_add PySem.F.slot_tuple_add PySem.F.entry_tuple_add (PySem.F.args_tuple_add_2 _ _)
   (tuple_addW1 t b vs.toArray ws.toArray n n2 dd dd2 sl sl2 (by simpa using hv) (by simp[hw])) ⟨ho,ho2,h1 hw⟩
 ·refine concat_meets ⟨_,ho,rfl⟩ ⟨_,ho2,rfl⟩ noFill_tuple_add seq_tuple_add PySem.F.slot_tuple_add PySem.F.entry_tuple_add (PySem.F.args_tuple_add_2 _ _)
   (tuple_addW2 t b vs.toArray ws.toArray n n2 dd dd2 sl sl2 (by simpa using hv) (by simpa using hw) (by rw[xn,xn];exact hsz)) ⟨ho,ho2,?_⟩
  rw[e]
  exact h2 hw
noncomputable def sIx (n d:Nat):Option Int->Nat
 | none=>d
 | some v=>if v<0 then(v+(n:Int)).toNat else min v.toNat n
theorem zU5 (n d:Nat) (hd:d<=n) (o:Option Int):sIx n d o<=n:=by
 cases o with
 | none=>exact hd
 | some v=>
  show(if v<0 then(v+(n:Int)).toNat else min v.toNat n)<=n
  by_cases hv:v<0
  ·rw[xc hv];lia
  ·rw[xf hv];exact Nat.min_le_right _ _
theorem zNl (v:Int) (n d:Nat):(if v<0 then max (v+(n:Int)) 0 else min v (n:Int))=((sIx n d (some v):Nat):Int):=by
 show(if v<0 then max (v+(n:Int)) 0 else min v (n:Int))=(((if v<0 then(v+(n:Int)).toNat else min v.toNat n):Nat):Int)
 by_cases hv:v<0
 ·simp only[xc hv];lia
 ·simp only[xf hv];lia
theorem zKy (lo hi:Option Int) (n:Nat):Builtin.Slice.sliceAdjust lo hi 1 (n:Int)=(((sIx n 0 lo:Nat):Int),((sIx n n hi:Nat):Int)):=by
 have h1:¬ ((1:Int)<0):=by nofun
 unfold Builtin.Slice.sliceAdjust
 simp only[h1,xK]
 refine Prod.ext ?_ ?_
 ·cases lo with
  | none=>rfl
  | some v=>exact zNl v n 0
 ·cases hi with
  | none=>rfl
  | some v=>exact zNl v n n
theorem zK8 (i j:Nat):Builtin.Slice.slicePlaces (i:Int) (j:Int) 1=j-i:=by
 unfold Builtin.Slice.slicePlaces
 have h1:(1:Int) > 0:=by nofun
 simp only[h1,xw,Int.ediv_one]
 split <;> lia
theorem slicePart_ {v:Value}{o:Option Int}{Q:Option Int->Shared->Prop}(p:IsPart v o) (h:Q o s):wpAny (model prog w) A (Builtin.Slice.slicePartIndex v) Q E s:=by
 cases p with
 | none=>exact slicePart_none h
 | int i t=>exact slicePart_int h
theorem sliceApplied_gen {sl:Addr}{vl vu:Value}{lo hi:Option Int}{n:Nat}{Q:Int × Int × Nat->Shared->Prop}(hs:s.heap.IsSliceOf sl vl vu .none) (pl:IsPart vl lo) (pu:IsPart vu hi)
  (h:Q (((sIx n 0 lo:Nat):Int),1,sIx n n hi-sIx n 0 lo) s):wpAny (model prog w) A (Builtin.Slice.sliceApplied (.ref sl) (pure (n:Int))) Q E s:=by
 obtain⟨os,hos,hcs,hds⟩:=id hs
 unfold Builtin.Slice.sliceApplied Builtin.Slice.sliceFields
 refine xa (xa (vv hos hds (x:=vl) rfl (xa (vv hos hds (x:=vu) rfl (xa (vv hos hds (x:=.none) rfl (xg ?_)))))))
 refine xa (slicePart_none ?_)
 show wpAny _ _ (if((1:Int) == 0)=true then _ else _) _ _ s
 rw[xf (by decide)]
 refine xa (slicePart_ pl (xa (slicePart_ pu (xa (xg ?_)))))
 show wpAny _ _ (match Builtin.Slice.sliceAdjust lo hi 1 (n:Int)with|(lo,hi)=>pure (lo,(1:Int),Builtin.Slice.slicePlaces lo hi 1)) _ _ s
 rw[zKy lo hi n]
 show wpAny _ _ (pure (((sIx n 0 lo:Nat):Int),(1:Int),Builtin.Slice.slicePlaces ((sIx n 0 lo:Nat):Int) ((sIx n n hi:Nat):Int) 1)) _ _ s
 rw[zK8]
 exact xg h
theorem zOl (xs:Array Value) (i k:Nat):((List.range k).filterMap fun(m:Nat)=>xs[((i:Int)+(m:Int)*1).toNat]?).toArray=((xs.toList.drop i).take k).toArray:=by
 have e:(fun(m:Nat)=>xs[((i:Int)+(m:Int)*1).toNat]?)=fun m=>xs[i+m]?:=by
  funext m
  have:((i:Int)+(m:Int)*1).toNat=i+m:=by nofun
  rw[this]
 rw[e]
 have:=pick_run xs i k
 rw[List.filterMap_map]at this
 have e2:((fun x=>xs[x]?) ∘ fun x=>i+x)=fun m=>xs[i+m]?:=rfl
 rw[e2]at this
 rw[this]
theorem getItem_tuple_cut {t sl:Addr}{items:Array Value}{vl vu:Value}{lo hi:Option Int}{Q:Value->Shared->Prop}(ht:IsTup s.heap t items) (hs:s.heap.IsSliceOf sl vl vu .none) (pl:IsPart vl lo) (pu:IsPart vu hi)
  (hw:¬ (sIx items.size 0 lo=0/\sIx items.size items.size hi=items.size))
  (h:Q (.ref s.heap.objs.size) { s with heap:=s.heap.push { cls:=.type "tuple",data:=.seq ((items.toList.drop (sIx items.size 0 lo)).take (sIx items.size items.size hi-sIx items.size 0 lo)).toArray } })
  (hsz:items.size<=sizeLine):wpAny (model prog w) A (getItem (.ref t) (.ref sl)) Q E s:=by
 have htake:sizeOk (.seq ((items.toList.drop (sIx items.size 0 lo)).take (sIx items.size items.size hi-sIx items.size 0 lo)).toArray):=by
  show((items.toList.drop (sIx items.size 0 lo)).take (sIx items.size items.size hi-sIx items.size 0 lo)).toArray.size<=sizeLine
  rw[xn,vz,uQ,vx]
  lia
 have hj:sIx items.size items.size hi<=items.size:=zU5 _ _ (xh _) hi
 obtain⟨os,hos,hcs,hds⟩:=id hs
 have hTs:s.TypeIs (.ref sl) "slice":=⟨os,hos,hcs⟩
 unfold getItem
 try with_reducible refine xG ?_
 first|refine xa (xg ?_)|skip
 refine xa (wpAny_sequenceKey ht.typeIs (by decide) ?_)
 refine xa (vJ (name:=Str.ofString "__getitem__") ht.typeIs vA
  (ve vA ht.typeIs entry_tuple_getitem ?_ (args_tuple_getitem _ _)))
 show wpAny _ _ (Builtin.Tuple.tupleItemsOf (.ref t) >>= _) _ _ s
 refine xa (tupleItemsOf_ ht ?_)
 refine xa (v9 hTs ?_)
 rw[xc (by decide)]
 refine xa (sliceApplied_gen hs pl pu ?_)
 have hno:¬ ((((sIx items.size 0 lo:Nat):Int) == 0 && (1:Int) == 1 && (sIx items.size items.size hi-sIx items.size 0 lo) == items.size)=true):=by
  intro q
  rw[xA,xA]at q
  have q1:((sIx items.size 0 lo:Nat):Int)=0:=eq_of_beq q.1.1
  have q2:sIx items.size items.size hi-sIx items.size 0 lo=items.size:=eq_of_beq q.2
  exact hw ⟨by nofun,by nofun⟩
 show wpAny _ _ (if(((sIx items.size 0 lo:Nat):Int) == 0 && (1:Int) == 1 && (sIx items.size items.size hi-sIx items.size 0 lo) == items.size)=true then _ else _) _ _ s
 rw[xf hno,zOl]
 first
  | exact xa (m:=Builtin.Tuple.tupleExact _) (vf (xg ⟨_,rfl,xg h⟩) htake)
  | exact xa (m:=Builtin.Tuple.tupleExact _) (vf (xa (xg (xg ⟨_,rfl,xg h⟩))) htake)
  | exact xa (xa (m:=Builtin.Tuple.tupleExact _) (vf (xg (xg ⟨_,rfl,xg h⟩)) htake))
  | exact xa (xa (m:=Builtin.Tuple.tupleExact _) (vf (xg ⟨_,rfl,xg h⟩) htake))
end
end HT
namespace L2
open PySem PySem.Spec PyProof.Rows
noncomputable abbrev TO:=St->Hp->(Option Int->Hp->Prop)->Prop
noncomputable def PO (X:Cx) (e:Option Expr) (t:TO):Prop:=
 ∀(pins:List (Addr × Obj)) (s:Shared) (σ:St) (H:Hp) (Q:Option Int->Hp->Prop),Inv X pins σ H s->t σ H Q->
  wpAny (model X.prog X.w) X.A (evalPart e X.env) (fun u s'=>∃o H',Inv X pins σ H' s'/\IsPart u o/\Q o H') X.xe s
noncomputable def zL6:TO:=fun _ H Q=>Q none H
noncomputable def zU3 (t:TE):TO:=fun σ H Q=>t σ H fun x H1=>∃i,x=.int i/\Q (some i) H1
section
variable {X:Cx}{e:Expr}{te:TE}{lo hi:Option Expr}{tl th:TO}{pos p2:Pos}
theorem zRu:PO X none zL6:=by
 intro pins s σ H Q I h
 rw[evalPart_none]
 exact xg ⟨none,H,I,.none,h⟩
theorem zRt (h:PE X e te):PO X (some e) (zU3 te):=by
 intro pins s σ H Q I hw
 rw[evalPart_some]
 refine thn (h pins s σ H _ I hw) fun u s1 hq1=>?_
 obtain⟨x,H1,I1,r1,q1⟩:=hq1
 obtain⟨i,rfl,q⟩:=q1
 obtain⟨t,rfl⟩:=r1
 exact⟨some i,H1,I1,.int i t,q⟩
noncomputable def SlR (X:Cx) (r:V->Option Int->Option Int->Hp->VK->Prop):Prop:=
 ∀(pins:List (Addr × Obj)) (s:Shared) (σ:St) (H:Hp) (x:V) (v vl vu:Value) (lo hi:Option Int) (sl:Addr) (Q:VK),Inv X pins σ H s->RelV x v->s.heap.IsSliceOf sl vl vu .none->IsPart vl lo->IsPart vu hi->r x lo hi H Q->
  ∃T id,typeLookup (.type T) "__getitem__"=pure (some (.builtin id))/\s.TypeIs v T/\wpAny (model X.prog X.w) X.A (getItem v (.ref sl)) (EP X pins σ Q) X.xe s
noncomputable def tSl (r:V->Option Int->Option Int->Hp->VK->Prop) (te:TE) (tl th:TO):TE:=fun σ H Q=>te σ H fun x H1=>tl σ H1 fun l H2=>th σ H2 fun u H3=>r x l u H3 Q
theorem zOo {r:V->Option Int->Option Int->Hp->VK->Prop}(hr:SlR X r) (he:PE X e te) (hl:PO X lo tl) (hu:PO X hi th):PE X (.Subscript e (.Slice lo hi none p2) pos) (tSl r te tl th):=by
 intro pins s σ H Q I h
 refine Subscript_ (thn (he pins s σ H _ I h) fun v s1 hq1=>?_)
 obtain⟨x,H1,I1,r1,q1⟩:=hq1
 refine wpAny_Slice (thn (hl pins s1 σ H1 _ I1 q1) fun vl s2 ⟨l,H2,I2,pl,q2⟩=>thn (hu pins s2 σ H2 _ I2 q2) fun vu s3 hq1=>?_)
 obtain⟨u,H3,I3,pu,q3⟩:=hq1
 rw[evalPart_none]
 refine xg ?_
 have I4:Inv X pins σ H3 { s3 with heap:=s3.heap.push { cls:=.type "slice",data:=.fields #[vl,vu,.none] } }:=I3.kept (t':=s3.toks) fun b ob q=>xl _ q
 obtain⟨T,id,hT,ht,hg⟩:=hr pins { s3 with heap:=s3.heap.push { cls:=.type "slice",data:=.fields #[vl,vu,.none] } } σ H3 x v vl vu l u s3.heap.objs.size Q I4 r1 (Heap.IsSliceOf.new ..) pl pu q3
 show wpAny (model X.prog X.w) X.A (subscriptTail e (.Slice lo hi none p2) v (.ref s3.heap.objs.size)) (EP X pins σ Q) X.xe { s3 with heap:=s3.heap.push { cls:=.type "slice",data:=.fields #[vl,vu,.none] } }
 exact tail_any (ops:=[.ref s3.heap.objs.size,v]) ht hT hg (by with_unfolding_all rfl)
noncomputable def cutV (xs:List V) (lo hi:Option Int):List V:=(xs.drop (HT.sIx xs.length 0 lo)).take (HT.sIx xs.length xs.length hi-HT.sIx xs.length 0 lo)
theorem zEz (xs:List V) (lo hi:Option Int):(cutV xs lo hi).length<=xs.length:=by
 unfold cutV
 rw[vz,uQ]
 lia
noncomputable def rSlT (K:PySem.W.Frag):V->Option Int->Option Int->Hp->VK->Prop:=fun x lo hi H Q=>∃a xs,x=.ref a/\SqT K H a xs /\
 ¬ (HT.sIx xs.length 0 lo=0/\HT.sIx xs.length xs.length hi=xs.length)/\∀p,H p=none->Q (.ref p) (upd H p (.tup (cutV xs lo hi)))
theorem zPy:SlR X (rSlT X.K):=by
 intro pins s σ H x v vl vu lo hi sl Q I rx hs pl pu h
 obtain⟨a,xs,rfl,hx,hw,q⟩:=h
 cases rx
 obtain⟨its,r,ht,hz⟩:=I.tuple hx
 have hlen:its.toArray.size=xs.length:=by rw[xn];exact r.length.symm
 refine⟨"tuple",_,vA.lookup,ht.typeIs,?_⟩
 refine HT.getItem_tuple_cut ht hs pl pu (by rw[hlen];exact hw) ?_ (by rw[hlen];exact hz)
 rw[hlen]
 refine⟨.ref s.heap.objs.size,_,I.laid (t':=s.toks) (o:=.tup (cutV xs lo hi)) (fun b ob q=>xl _ q) (xh _) ?_,rfl,q _ (I.hok.fresh (xh _))⟩
 exact⟨xm (zEz xs lo hi) hz,_,(r.drop (HT.sIx xs.length 0 lo)).take (HT.sIx xs.length xs.length hi-HT.sIx xs.length 0 lo),IsTup.new _ _⟩
noncomputable def zWn (K:PySem.W.Frag):R2:=fun x y H Q=>∃a b xs ys,x=.ref a/\y=.ref b/\SqT K H a xs/\SqT K H b ys/\xs≠[]/\xs.length+ys.length<=sizeLine /\
 (ys=[]->Q (.ref a) H)/\(ys≠[]->∀p,H p=none->Q (.ref p) (upd H p (.tup (xs++ys))))
theorem Vals.nil_iff {xs:List V}{us:List Value}(r:Vals xs us):us=[] <-> xs=[]:=by
 cases r with
 | nil=>simp
 | cons _ _=>simp
theorem zSc:OpR X (binaryOp .Add) (zWn X.K):=by
 intro pins s σ H x y v u Q I rx ry h
 obtain⟨a,b,xs,ys,rfl,rfl,ha,hb,hx,hz,q1,q2⟩:=h
 cases rx
 cases ry
 obtain⟨its,r1,p1,_⟩:=I.tuple ha
 obtain⟨its2,r2,p2,_⟩:=I.tuple hb
 refine HT.cat_tup p1 p2 (fun z=>hx (r1.nil_iff.mp z)) (fun z=>⟨.ref a,H,I,rfl,q1 (r2.nil_iff.mp z)⟩) (fun z=>?_) (by rw[<- r1.length,<- r2.length];exact hz)
 refine⟨.ref s.heap.objs.size,_,I.laid (t':=s.toks) (o:=.tup (xs++ys)) (fun b ob q=>xl _ q) (xh _) ?_,rfl,q2 (fun w=>z (r2.nil_iff.mpr w)) _ (I.hok.fresh (xh _))⟩
 exact⟨by rw[vd];exact hz,_,r1.append r2,IsTup.new _ _⟩
end
end L2
namespace L2
open PySem PySem.Spec PyProof.Rows
noncomputable def ixN (n:Nat) (i:Int):Option Nat:=if 0<=i then(if i<n then some i.toNat else none)else if -(n:Int)<=i then some (i+n).toNat else none
noncomputable def atI {α:Type}(xs:List α) (i:Int):Option α:=(ixN xs.length i).bind fun j=>xs[j]?
theorem zMs {n:Nat}{i:Int}{j:Nat}(h:ixN n i=some j):seqIndex? i n=some j/\j<n/\-(n:Int)<=i/\i<n:=by
 unfold ixN at h
 by_cases h0:0<=i
 ·rw[xc h0]at h
  by_cases h1:i<n
  ·rw[xc h1]at h
   have e:i.toNat=j:=xD h
   exact⟨by rw[seqIndex_of h0 h1,e],by nofun,by nofun,h1⟩
  ·rw[xf h1]at h;cases h
 ·rw[xf h0]at h
  by_cases h1:-(n:Int)<=i
  ·rw[xc h1]at h
   have e:(i+n).toNat=j:=xD h
   exact⟨by rw[seqIndex_neg (by nofun) h1,e],by nofun,h1,by nofun⟩
  ·rw[xf h1]at h;cases h
theorem zIv {α:Type}{xs:List α}{i:Int}{v:α}(h:atI xs i=some v):∃j,seqIndex? i xs.length=some j/\xs[j]?=some v/\j<xs.length/\-(xs.length:Int)<=i/\i<xs.length:=by
 unfold atI at h
 cases e:ixN xs.length i with
 | none=>rw[e]at h;cases h
 | some j=>
  rw[e]at h
  obtain⟨h1,h2,h3,h4⟩:=zMs e
  exact⟨j,h1,h,h2,h3,h4⟩
noncomputable def zNy (b:Expr):Prop:=∀o i,subscripted b false o i=operate [o,i] (getItem o i)
noncomputable def IxR (X:Cx) (r:R2):Prop:=
 ∀(value slice:Expr) (pins:List (Addr × Obj)) (s:Shared) (σ:St) (H:Hp) (x y:V) (v u:Value) (Q:VK),Inv X pins σ H s->RelV x v->RelV y u->r x y H Q->
  subscripted slice false v u=operate [v,u] (getItem v u)->wpAny (model X.prog X.w) X.A (subscriptTail value slice v u) (EP X pins σ Q) X.xe s
noncomputable def MtR (X:Cx) (id:String) (r:V->List V->Hp->VK->Prop):Prop:=
 ∀(pins:List (Addr × Obj)) (s:Shared) (σ:St) (H:Hp) (x:V) (xs:List V) (v:Value) (us:List Value) (Q:VK),Inv X pins σ H s->RelV x v->Vals xs us->r x xs H Q->
  wpAny (model X.prog X.w) X.A (call (.builtin id) (v::us)) (EP X pins σ Q) X.xe s
section
variable {X:Cx}{a b:Expr}{ta tb:TE}{pos:Pos}
theorem zWt {r:R2}(hr:IxR X r) (ha:PE X a ta) (hb:PE X b tb) (hs:zNy b):PE X (.Subscript a b pos) (tOp r ta tb):=by
 intro pins s σ H Q I h
 exact Subscript_ (binT ha hb I h fun v u s2 x y H2 I2 rx ry q=>hr a b pins s2 σ H2 x y v u Q I2 rx ry q (hs _ _))
noncomputable def rIxL (K:PySem.W.Frag):R2:=fun x y H Q=>∃p xs i v,x=.ref p/\y=.int i/\SqL K H p xs/\atI xs i=some v/\Q v H
noncomputable def rIxT (K:PySem.W.Frag):R2:=fun x y H Q=>∃p xs i v,x=.ref p/\y=.int i/\SqT K H p xs/\atI xs i=some v/\Q v H
noncomputable def rIxS:R2:=fun x y H Q=>∃z i c,x=.str z/\y=.int i/\z.length<=sizeLine/\atI z.cps.toList i=some c/\Q (.str ⟨#[c]⟩) H
theorem zSt:IxR X (rIxL X.K):=by
 intro value slice pins s σ H x y v u Q I rx ry h hs
 obtain⟨p,xs,i,z,rfl,rfl,hq,he,q⟩:=h
 cases rx
 obtain⟨t,rfl⟩:=ry
 obtain⟨its,r,pl,hz⟩:=I.list hq
 obtain⟨j,h1,h2,h3,h4,h5⟩:=zIv he
 obtain⟨w,ew,rw'⟩:=r.get h2
 have hl:=r.length
 have hn:=line63
 have fin:EP X pins σ Q w s:=⟨z,H,I,rw',q⟩
 by_cases h0:0<=i
 ·have hj:i.toNat=j:=by
   rw[seqIndex_of h0 h5]at h1
   exact xD h1
  exact item_listR pl.isList h0 (by nofun) (by rw[hj];simpa using ew) fin hs
 ·have hj:(i+(its.toArray.size:Int)).toNat=j:=by
   rw[seqIndex_neg (by nofun) h4]at h1
   rw[xn,<- hl]
   exact xD h1
  exact subscriptTail_builtinR (x:=w) pl.isList.typeIs slot_list_getitem.lookup
   (wpAny_getItem_list_neg (Q:=fun r s'=>r=w/\EP X pins σ Q r s') pl.isList (by nofun) (by rw[xn] <;> lia) (by nofun) (by rw[hj];simpa using ew) ⟨rfl,fin⟩) hs
theorem zVi:IxR X (rIxT X.K):=by
 intro value slice pins s σ H x y v u Q I rx ry h hs
 obtain⟨p,xs,i,z,rfl,rfl,hq,he,q⟩:=h
 cases rx
 obtain⟨t,rfl⟩:=ry
 obtain⟨its,r,pl,hz⟩:=I.tuple hq
 obtain⟨j,h1,h2,h3,h4,h5⟩:=zIv he
 obtain⟨w,ew,rw'⟩:=r.get h2
 have hl:=r.length
 have hn:=line63
 have fin:EP X pins σ Q w s:=⟨z,H,I,rw',q⟩
 exact subscriptTail_builtinR (x:=w) pl.typeIs slot_tuple_getitem.lookup
  (getItem_tuple (j:=j) (Q:=fun r s'=>r=w/\EP X pins σ Q r s') pl (by nofun) (by nofun) (by rw[xn,<- hl];exact h1) (by simpa using ew) ⟨rfl,fin⟩) hs
theorem zVj:IxR X rIxS:=by
 intro value slice pins s σ H x y v u Q I rx ry h hs
 obtain⟨z,i,c,rfl,rfl,hz,he,q⟩:=h
 obtain⟨t,rfl⟩:=rx
 obtain⟨t',rfl⟩:=ry
 obtain⟨j,h1,h2,h3,h4,h5⟩:=zIv he
 have hl:z.cps.toList.length=z.length:=by simp[Str.length]
 rw[hl]at h1 h4 h5
 have hn:=line63
 exact tail_any (typeIs_str s z t) slot_str_getitem.lookup (getItem_str (c:=c) (by
  have e1:decide (i < -(2 ^ 63:Int))=false:=xj (by nofun)
  have e2:decide (i >= 2 ^ 63)=false:=xj (by nofun)
  rw[e1,e2,Bool.or_false]) (by rw[h1];simpa using h2) ⟨.str ⟨#[c]⟩,H,I.tok _,⟨_,rfl⟩,q⟩) hs
theorem zKe (its:List Value) (n j:Nat) (u:Value):Obj.mapSeq (·.setIfInBounds j u) { cls:=.type "list",data:=.seq its.toArray n }={ cls:=.type "list",data:=.seq (its.set j u).toArray n }:=by
 simp[Obj.mapSeq]
theorem Inv.lst {pins:List (Addr × Obj)}{σ:St}{H:Hp}{s:Shared}{p:Addr}{xs:List V}(I:Inv X pins σ H s) (h:H p=some (.lst xs)):
  ∃(its:List Value) (n:Nat),Vals xs its/\s.heap.get? p=some { cls:=.type "list",data:=.seq its.toArray n }/\xs.length<=sizeLine:=by
 obtain⟨z,its,n,r,e⟩:=I.hok p _ h
 exact⟨its,n,r,e,z⟩
theorem Inv.lstUpd {pins:List (Addr × Obj)}{σ:St}{H:Hp}{s:Shared}{p:Addr}{xs ys:List V}{its its':List Value}{n n':Nat}{f:Obj->Obj}(I:Inv X pins σ H s) (h:H p=some (.lst xs))
  (ho:s.heap.get? p=some { cls:=.type "list",data:=.seq its.toArray n }) (hf:f { cls:=.type "list",data:=.seq its.toArray n }={ cls:=.type "list",data:=.seq its'.toArray n' }) (r:Vals ys its') (hz:ys.length<=sizeLine) (t:Nat):
  Inv X pins σ (upd H p (.lst ys)) { s with heap:=s.heap.update p f,toks:=t }:=by
 have e:(s.heap.update p f).get? p=some { cls:=.type "list",data:=.seq its'.toArray n' }:=by
  rw[uz f ho (by rw[hf] <;> rfl),hf]
 refine I.write (x:=p) (e:=p) (by rw[h];trivial) (.inl rfl) (fun b u hb q=>(vK _ _ (xB hb)).trans q) ⟨_,e⟩ ?_
 exact⟨hz,its',n',r,e⟩
noncomputable def zWm:V->V->V->Hp->(Hp->Prop)->Prop:=fun o i v H Q=>∃p xs k j,o=.ref p/\i=.int k/\H p=some (.lst xs)/\ixN xs.length k=some j/\Q (upd H p (.lst (xs.set j v)))
theorem set_list:PSet X zWm:=by
 intro pins s σ H o i v ov iv u Q I ro ri rv h
 obtain⟨p,xs,k,j,rfl,rfl,hp,hj,q⟩:=h
 cases ro
 obtain⟨t,rfl⟩:=ri
 obtain⟨its,n,r,ho,hz⟩:=I.lst hp
 obtain⟨h1,h2,h3,h4⟩:=zMs hj
 have hl:=r.length
 have hn:=line63
 have I':Inv X pins σ (upd H p (.lst (xs.set j v))) { s with heap:=s.heap.update p (Obj.mapSeq (·.setIfInBounds j u)) }:=
  I.lstUpd hp ho (zKe its n j u) (r.set rv j) (by rw[List.length_set];exact hz) s.toks
 by_cases h0:0<=k
 ·have hk:k.toNat=j:=by
   rw[seqIndex_of h0 h4]at h1
   exact xD h1
  exact PySem.W.ki_setAt ho h0 (by nofun) (by rw[xn,<- hl];exact h4) (by rw[hk];exact⟨_,I',q⟩)
 ·have hk:(k+(its.toArray.size:Int)).toNat=j:=by
   rw[seqIndex_neg (by nofun) h3]at h1
   rw[xn,<- hl]
   exact xD h1
  exact PySem.W.ki_setBack ho (by nofun) (by rw[xn,<- hl];exact h3) (by nofun) (by rw[hk];exact⟨_,I',q⟩)
theorem zGz (lo hi:Option Int) (n:Nat):(sliceBounds lo hi none n).1=((HT.sIx n 0 lo:Nat):Int)/\(sliceBounds lo hi none n).2.1=((HT.sIx n n hi:Nat):Int)/\(sliceBounds lo hi none n).2.2=1:=by
 refine⟨?_,?_,rfl⟩
 ·cases lo with
  | none=>simp[sliceBounds,HT.sIx]
  | some i=>
   simp only[sliceBounds,HT.sIx,Option.getD_none,show(1:Int) > 0 by decide,xw]
   by_cases h:i<0
   ·simp only[h,xw] <;> lia
   ·simp only[h,xK] <;> lia
 ·cases hi with
  | none=>simp[sliceBounds,HT.sIx]
  | some i=>
   simp only[sliceBounds,HT.sIx,Option.getD_none,show(1:Int) > 0 by decide,xw]
   by_cases h:i<0
   ·simp only[h,xw] <;> lia
   ·simp only[h,xK] <;> lia
theorem zFv (its:List Value) (lo hi:Option Int):slicePick its.toArray lo hi none=((its.drop (HT.sIx its.length 0 lo)).take (HT.sIx its.length its.length hi-HT.sIx its.length 0 lo)).toArray:=by
 obtain⟨h1,h2,h3⟩:=zGz lo hi its.toArray.size
 unfold slicePick
 rw[h1,h2,h3]
 simp only[sliceRange_one,pick_run,xn] <;> rfl
noncomputable def rSlL (K:PySem.W.Frag):V->Option Int->Option Int->Hp->VK->Prop:=fun x lo hi H Q=>∃a xs,x=.ref a/\SqL K H a xs/\∀p,H p=none->Q (.ref p) (upd H p (.lst (cutV xs lo hi)))
theorem zR8:SlR X (rSlL X.K):=by
 intro pins s σ H x v vl vu lo hi sl Q I rx hs pl pu h
 obtain⟨a,xs,rfl,hx,q⟩:=h
 cases rx
 obtain⟨its,r,ht,hz⟩:=I.list hx
 have hlen:=r.length
 refine⟨"list",_,slot_list_getitem.lookup,ht.isList.typeIs,?_⟩
 refine wpAny_getItem_list_slice ht.isList hs pl pu .none (by simp) ?_ (by rw[xn] <;> lia)
 rw[zFv,<- hlen]
 refine⟨.ref s.heap.objs.size,_,I.laid (t':=s.toks) (o:=.lst (cutV xs lo hi)) (fun b ob q=>xl _ q) (xh _) ?_,rfl,q _ (I.hok.fresh (xh _))⟩
 exact⟨xm (zEz xs lo hi) hz,_,0,(r.drop (HT.sIx xs.length 0 lo)).take (HT.sIx xs.length xs.length hi-HT.sIx xs.length 0 lo),xv _ rfl⟩
theorem zHo:zBa X (.builtin "len") (fun xs H Q=>∃p ys,xs=[.ref p]/\(SqL X.K H p ys\/SqT X.K H p ys)/\Q (.int ys.length) H):=by
 intro pins s σ H xs us Q I r h
 obtain⟨p,ys,rfl,hq,q⟩:=h
 obtain⟨u,rfl,rx⟩:=vals1 r
 cases rx
 have hn:=line63
 rcases hq with hq|hq
 ·obtain⟨its,r',pl,hz⟩:=I.list hq
  have hlen:=r'.length
  exact Calls.call_len_list pl.isList (by simp only[xn] <;> lia) ⟨.int ys.length,H,I.tok _,⟨s.toks+1,by rw[xn,hlen]⟩,q⟩
 ·obtain⟨its,r',pl,hz⟩:=I.tuple hq
  have hlen:=r'.length
  exact len_tuple pl (by simp only[xn] <;> lia) ⟨.int ys.length,H,I.tok _,⟨s.toks+1,by rw[xn,hlen]⟩,q⟩
theorem zHn:zBa X (.builtin "len") (fun xs H Q=>∃z,xs=[.str z]/\z.length<=sizeLine/\Q (.int z.length) H):=by
 intro pins s σ H xs us Q I r h
 obtain⟨z,rfl,hz,q⟩:=h
 obtain⟨u,rfl,t,rfl⟩:=vals1 r
 have hn:=line63
 exact len_str (by nofun) ⟨.int z.length,H,I.tok _,⟨_,rfl⟩,q⟩
theorem zHm:zBa X (.type "list") (fun xs H Q=>∃p ys,xs=[.ref p]/\(SqL X.K H p ys\/SqT X.K H p ys)/\∀l,H l=none->Q (.ref l) (upd H l (.lst ys))):=by
 intro pins s σ H xs us Q I r h
 obtain⟨p,ys,rfl,hq,q⟩:=h
 obtain⟨u,rfl,rx⟩:=vals1 r
 cases rx
 have fin:∀(its:List Value),Vals ys its->ys.length<=sizeLine->∀(h':Heap) (c':Nat),(∀b o',s.heap.get? b=some o'->h'.get? b=some o')->
   h'.get? s.heap.objs.size=some { cls:=.type "list",dict:=none,data:=.seq its.toArray c',slots:=#[] }->EP X pins σ Q (.ref s.heap.objs.size) { s with heap:=h' }:=fun its r' hz h' c' kp e=>
  ⟨.ref s.heap.objs.size,_,I.laid (t':=s.toks) kp (xh _) (show ObjOk X.prog X.w _ h' _ (.lst ys)from⟨hz,its,c',r',e⟩),rfl,q _ (I.hok.fresh (xh _))⟩
 rcases hq with hq|hq
 ·obtain⟨its,r',pl,hz⟩:=I.list hq
  have hlen:=r'.length
  obtain⟨o,ho,hc,n,hd⟩:=pl.isList
  exact call_list_seq p (.inl rfl) ho hc hd (fun h' c' kp e=>fin its r' hz h' c' kp e) (by simp only[xn] <;> lia)
 ·obtain⟨its,r',pl,hz⟩:=I.tuple hq
  have hlen:=r'.length
  obtain⟨o,ho,hc,n,hd⟩:=pl
  exact call_list_seq p (.inr rfl) ho hc hd (fun h' c' kp e=>fin its r' hz h' c' kp e) (by simp only[xn] <;> lia)
theorem zCe:zBa X (.type "tuple") (fun xs H Q=>∃p ys,xs=[.ref p]/\((SqL X.K H p ys/\∀l,H l=none->Q (.ref l) (upd H l (.tup ys)))\/(SqT X.K H p ys/\Q (.ref p) H))):=by
 intro pins s σ H xs us Q I r h
 obtain⟨p,ys,rfl,h⟩:=h
 obtain⟨u,rfl,rx⟩:=vals1 r
 cases rx
 rcases h with⟨hq,q⟩|⟨hq,q⟩
 ·obtain⟨its,r',pl,hz⟩:=I.list hq
  have hlen:=r'.length
  refine call_tuple_list pl.isList (fun h' kp=>?_) (by simp only[xn] <;> lia)
  have I1:Inv X pins σ H { s with heap:=h' }:=I.kept (t':=s.toks) kp
  have I2:Inv X pins σ (upd H h'.objs.size (.tup ys)) { s with heap:=h'.push { cls:=.type "tuple",data:=.seq its.toArray } }:=
   I1.laid (t':=s.toks) (fun b o e=>xl _ e) (xh _) (show ObjOk X.prog X.w _ _ _ (.tup ys)from⟨hz,its,r',IsTup.new _ _⟩)
  exact⟨.ref h'.objs.size,_,I2,rfl,q _ (I1.hok.fresh (xh _))⟩
 ·obtain⟨its,r',pl,hz⟩:=I.tuple hq
  exact call_tuple_same pl ⟨.ref p,H,I,rfl,q⟩
noncomputable def tyV (K:PySem.W.Frag) (T:String) (x:V) (H:Hp):Prop:=match x with
 | .str _=>T="str"
 | .int _=>T="int"
 | .ref p=>(T="list"/\∃xs,SqL K H p xs)\/(T="tuple"/\∃o,K.lookup p=some o/\o.cls=.type "tuple"/\o.dict=none) \/
   (T="dict"/\((∃kvs,H p=some (.dK kvs))\/∃kvs,H p=some (.dT kvs)))\/(T="set"/\∃S n,H p=some (.set S n))
 | _=>False
theorem zTz {pins:List (Addr × Obj)}{σ:St}{H:Hp}{s:Shared}{T:String}{x:V}{v:Value}(I:Inv X pins σ H s) (r:RelV x v) (ty:tyV X.K T x H):
  s.TypeIs v T/\∀a,v=.ref a->∃ob,s.heap.get? a=some ob/\ob.dict=none:=by
 cases x with
 | str z=>
  obtain⟨t,rfl⟩:=r
  cases(show T="str" from ty)
  exact⟨typeIs_str s z t,fun _ e=>nomatch e⟩
 | int i=>
  obtain⟨t,rfl⟩:=r
  cases(show T="int" from ty)
  exact⟨typeIs_int s i t,fun _ e=>nomatch e⟩
 | ref p=>
  cases r
  rcases ty with⟨rfl,xs,hq⟩|⟨rfl,o,hk,hc,hd⟩|⟨rfl,hk⟩|⟨rfl,S,n,hk⟩
  ·obtain⟨its,_,pl,_⟩:=I.list hq
   refine⟨pl.isList.typeIs,fun a e=>?_⟩
   cases e
   obtain⟨o,n,e,c,hd,_⟩:=pl
   exact⟨o,e,hd⟩
  ·refine⟨⟨o,I.kIn p o hk,hc⟩,fun a e=>?_⟩
   cases e
   exact⟨o,I.kIn _ o hk,hd⟩
  ·have z:∃o,s.heap.get? p=some o/\o.ExactDict:=by
    rcases hk with⟨kvs,hk⟩|⟨kvs,hk⟩
    ·obtain⟨_,_,_,_,o,_,_,e,ex,_⟩:=I.hok p _ hk
     exact⟨o,e,ex⟩
    ·obtain⟨_,_,_,_,o,_,_,e,ex,_⟩:=I.hok p _ hk
     exact⟨o,e,ex⟩
   obtain⟨o,e,ex⟩:=z
   refine⟨⟨o,e,ex.1⟩,fun a e2=>?_⟩
   cases e2
   exact⟨o,e,ex.2.1⟩
  ·obtain⟨o,_,_,_,e,ex,_⟩:=I.hok p _ hk
   refine⟨⟨o,e,ex.1⟩,fun a e2=>?_⟩
   cases e2
   exact⟨o,e,ex.2.1⟩
 | _=>exact False.elim ty
noncomputable def tBM (K:PySem.W.Frag) (T:String) (r:V->List V->Hp->VK->Prop) (to:TE) (t:TA):TE:=fun σ H Q=>to σ H fun x H1=>tyV K T x H1/\t σ H1 fun xs H2=>r x xs H2 Q
variable {o e:Expr}{es:List Expr}{to:TE}{t:TA}{name:Str}{apos cpos:Pos}{T id:String}{r:V->List V->Hp->VK->Prop}
theorem zWu (pa:PlainAttrs T) (slot:Slot T name id) (hty:typeOf (.builtin id)=pure (.type "method_descriptor")) (hm:MtR X id r) (ho:PE X o to) (ha:PA X (e::es) t)
  (hbase:attributeBase o name X.env (eval o X.env)=eval o X.env:=by rfl)
  (hfew:((backTo cpos (starEach (e::es) X.env)).all (fun x=>!x.1) && (backToKw cpos (keywordEach [] X.env)).all (fun x=>x.1.isSome)
   && decide ((e::es).length+([]:List Keyword).length+(if([]:List Keyword).isEmpty then 0 else 1)<30))=true:=by rfl)
  (hline:(apos.endLine == cpos.line)=true:=by rfl) (hs:starEach (e::es) X.env=(false,eval e X.env)::starEach es X.env:=by rfl) (hplain:(backTo cpos (starEach es X.env)).any (·.1)=false:=by rfl):
  PE X (.Call (.Attribute o name apos) (e::es) [] cpos) (tBM X.K T r to t):=by
 intro pins s σ H Q I h
 refine wpAny_Call_method_late hbase hfew hline rfl (thn (ho pins s σ H _ I h) fun v s1 hq1=>?_)
 obtain⟨x,H1,I1,r1,ty,q1⟩:=hq1
 obtain⟨h1,h2⟩:=zTz I1 r1 ty
 refine⟨T,id,pa,slot,hty,h1,h2,?_⟩
 have hA:=ha cpos pins s1 σ H1 _ I1 q1
 rw[hs]at hA ⊢
 refine Calls.callWith_builtin (by show(false || (backTo cpos (starEach es X.env)).any (·.1))=false;rw[hplain] <;> rfl) (Calls.evalArgs_plain ?_)
 exact thn hA fun us s2 hz8=>by obtain⟨vs,H2,I2,r2,q2⟩:=hz8;exact hm pins s2 σ H2 x vs v us Q I2 r1 r2 q2
end
end L2
namespace L2
open PySem PySem.Spec PyProof.Rows
noncomputable def MtM (X:Cx) (id:String) (r:V->List V->Hp->VK->Prop):Prop:=
 ∀(pins:List (Addr × Obj)) (s:Shared) (σ:St) (H:Hp) (x:V) (xs:List V) (v:Value) (us:List Value) (Q:VK),Inv X pins σ H s->RelV x v->Vals xs us->r x xs H Q->
  wpAny (model X.prog X.w) X.A (call (.builtin id) (v::us)) (EP X pins σ Q) X.xe s
theorem Vals.one:∀{x:V}{us:List Value},Vals [x] us->∃u,us=[u]/\RelV x u
 | _,_,.cons r .nil=>⟨_,rfl,r⟩
theorem Vals.zero:∀{us:List Value},Vals [] us->us=[]
 | _,.nil=>rfl
theorem Vals.eraseIdx:∀{xs:List V}{us:List Value}(i:Nat),Vals xs us->Vals (xs.eraseIdx i) (us.eraseIdx i)
 | _,_,_,.nil=>.nil
 | _,_,0,.cons _ t=>t
 | _,_,i+1,.cons r t=>.cons r (Vals.eraseIdx i t)
theorem Vals.reverse {xs:List V}{us:List Value}(h:Vals xs us):Vals xs.reverse us.reverse:=by
 induction h with
 | nil=>exact .nil
 | cons r t ih=>rw[List.reverse_cons,List.reverse_cons];exact Vals.append ih (.cons r .nil)
section
variable {X:Cx}{pins:List (Addr × Obj)}{σ:St}{H:Hp}{s:Shared}{l b:Addr}{xs ys zs:List V}
theorem Inv.lset {its its':List Value}{n:Nat}{f:Array Value->Array Value}{t':Nat}(I:Inv X pins σ H s) (hH:H l=some (.lst xs))
  (e:s.heap.get? l=some { cls:=.type "list",data:=.seq its.toArray n }) (hf:f its.toArray=its'.toArray) (hv:Vals ys its') (hz:ys.length<=sizeLine):
  Inv X pins σ (upd H l (.lst ys)) { s with heap:=s.heap.update l (Obj.mapSeq f),toks:=t' }:=by
 have q:=PySem.IsL.update e f
 rw[hf]at q
 refine I.write (x:=l) (e:=l) (by rw[hH];exact trivial) (.inl rfl) (fun b' u hb hu=>(vK s.heap (Obj.mapSeq f) (xB hb)).trans hu) ⟨_,q⟩ ?_
 exact⟨hz,its',_,hv,q⟩
theorem Inv.lnew {its:List Value}{t':Nat}(I:Inv X pins σ H s) (hv:Vals ys its) (hz:ys.length<=sizeLine):
  Inv X pins σ (upd H s.heap.objs.size (.lst ys)) { s with heap:=s.heap.push { cls:=.type "list",data:=.seq its.toArray },toks:=t' }:=
 I.laid (fun _ _ q=>xl _ q) (xh _) ⟨hz,its,0,hv,xv _ rfl⟩
theorem Inv.fresh (I:Inv X pins σ H s):H s.heap.objs.size=none:=I.hok.fresh (xh _)
theorem Inv.lstM (I:Inv X pins σ H s) (hH:H l=some (.lst xs)):xs.length<=sizeLine/\∃(its:List Value) (n:Nat),Vals xs its/\xs.length=its.length/\s.heap.get? l=some { cls:=.type "list",data:=.seq its.toArray n }:=by
 obtain⟨z,its,n,r,e⟩:=I.hok l _ hH
 exact⟨z,its,n,r,r.length,e⟩
end
section
variable {X:Cx}
noncomputable def zRh:V->List V->Hp->VK->Prop:=fun x vs H Q=>∃l xs y,x=.ref l/\vs=[y]/\H l=some (.lst xs)/\xs.length<sizeLine/\Q .non (upd H l (.lst (xs++[y])))
theorem zMi:MtM X "list.append" zRh:=by
 intro pins s σ H x vs v us Q I rx rv h
 obtain⟨l,xs,y,rfl,rfl,hH,hz,q⟩:=h
 cases rx
 obtain⟨u,rfl,ru⟩:=rv.one
 obtain⟨z,its,n,r,hl,e⟩:=I.lstM hH
 refine call_meets F.slot_list_append ⟨_,e,rfl⟩ F.entry_list_append (F.args_list_append_2 _ _) (PySem.list_append l its.toArray n u (by rw[xn];lia)) ⟨e,?_⟩
 refine⟨.non,_,I.lset (its':=its++[u]) hH e (by simp) (r.append (.cons ru .nil)) ?_,rfl,q⟩
 rw[vd,u5]
 lia
end
end L2
namespace Att
open PySem PySem.W PySem.Calls PyProof.Rows
theorem zEu {P:Params}{h:Heap}:∀(ns:List Int) (vs:List Value),WellAll P h vs (ns.map WData.int)->IntsAre vs ns:=by
 intro ns
 induction ns with
 | nil=>
  intro vs w
  rw[vI]at w
  cases w
  exact .nil
 | cons n ns ih=>
  intro vs w
  rw[xr]at w
  cases w with
  | cons a b=>
   cases a
   exact .cons _ _ (ih _ b)
theorem zLl {l:OpenLaw}{n:Nat}(hn:l.most=some n) {P:Params}{h:Heap}{args:List WData}{vals:List Value}
  (hpre:l.row.toRowW.claim.pre args=true) (hwl:WellAll P h vals args):
  ∃a vs ns,vals=[Value.ref a]/\args=[WData.list (ns.map WData.int)]/\h.get? a=some { cls:=.type "list",data:=.seq vs.toArray }/\IntsAre vs ns/\ns.length<=n:=by
 have hsh:WShape.hasAll [] args [.list .int]=true:=(pre_splitW hpre).1
 have hc:l.pre.holds [] { args:=args }=true:=(pre_splitW hpre).2
 obtain⟨d,r,rfl,h1,h2⟩:=hasAllW_cons hsh
 obtain rfl:=hasAllW_nil h2
 obtain⟨xs,rfl,h3⟩:=hasW_list h1
 obtain⟨ns,rfl⟩:=items_int h3
 have hlen:ns.length<=n:=by
  unfold OpenLaw.pre at hc
  have h4:(WTm.not (.lt (.lit (.int (n:Int))) (.len (.arg 0)))).holds [] { args:=[.list (ns.map .int)] }=true:=by
   have h4:=(holds_andW hc).1
   rw[hn]at h4
   exact h4
  have h5:=condW_of h4 (w_not (w_lt w_lit (w_len_list (w_arg rfl))))
  rw[xo]at h5
  refine uA fun q=>?_
  have q':(n:Int)<((ns.length:Nat):Int):=by nofun
  first
   | (rw[xq q']at h5;exact absurd h5 (by decide))
   | (simp at h5;lia)
 cases hwl with
 | cons w1 w2=>
  cases w2
  cases w1 with
  | list ho hall=>exact⟨_,_,ns,rfl,rfl,ho,zEu ns _ hall,hlen⟩
theorem zLv (l:OpenLaw) (args:List WData):l.row.toRowW.claim.post args (.bool true) args=true:=
 postW_of (r:=l.row.toRowW) (X:=(true == true))
  (show WShape.has [] (.bool true) .bool=true by first|rfl|decide|simp[WShape.has,WShape.arms,WShape.armsAll])
  (show(WTm.eq .res (.lit (.bool true))).value [] { args:=args,res:=some (.bool true),after:=args }=some (.bool (true == true))from w_eq_bool (w_res rfl) w_lit) rfl
theorem attach_call {l:OpenLaw}{n:Nat}{q:Program}{loose:List Str}{XP:(Str->Option Value)->Heap->Prop}{YP:World->Heap->Prop}{d:DefRec}
  (hn:l.most=some n) (hdf:d.params.defaults=[])
  (call:∀(w:World) (s₀ s₁:Shared) (mg mb:Str->Option Value) (fa:Addr) (o:Obj) (pm cd doc:Value) (a:Addr) (vs:List Value) (ns:List Int),
   Ground q loose [] XP w s₀ mg mb s₁.heap->YP w s₁.heap->
   s₁.heap.get? fa=some o->o.data=.func (docDef d.name d.params d.body d.scope pm cd doc)->s₁.heap.CodeRec cd d.name->mg d.name=some (.ref fa)->
   s₁.heap.get? a=some { cls:=.type "list",data:=.seq vs.toArray }->IntsAre vs ns->ns.length<=n->s₁.gens=#[]->
   codeAny (model l.prog w) callerA (.call (.ref fa) ⟨[.ref a],[]⟩) (fun r s'=>r=.ok (.ret (.bool true))/\OldK s₁.heap s'.heap/\s'.os=s₁.os/\AllBare s'.gens) s₁):
  WalkO q loose XP YP l.row.toRowW d [] (fun f vs=>PySem.call f vs):=by
 intro w s₀ s₁ mg mb G Y fa o pm cd doc dV kV ho hd hcd hD hmg hg args vals as hpre hlay hrd hwl hlo
 obtain rfl:dV=.none:=Dflts.none hD hdf
 obtain rfl:kV=.none:=Dflts.noKw hD
 obtain⟨a,vs,ns,rfl,rfl,hobj,hints,hlen⟩:=zLl hn hpre hwl
 refine enter_call (v8 (call w s₀ s₁ mg mb fa o pm cd doc a vs ns G Y ho (fd_plain hd) hcd hmg hobj hints hlen hg) fun r s' hq=>?_)
 obtain⟨rfl,h2,h3,h4⟩:=hq
 exact⟨.inl ⟨.bool true,.bool true,[],rfl,fun _=>rfl,.bool true,zLv l _,fun _=>⟨List.Pairwise.nil,fun _ hm=>(nomatch hm)⟩⟩,h2,h3,h4⟩
end Att
namespace L2
open PySem PySem.Spec PyProof.Rows
theorem zGu:∀{vs:List Value}{ns:List Int},IntsAre vs ns->Vals (ns.map V.int) vs
 | _,_,.nil=>.nil
 | _,_,.cons n t h=>.cons ⟨t,rfl⟩ (zGu h)
noncomputable def Only (H:Hp):Prop:=∀b,H b=none\/∃o xs,H b=some (.frz o (.lst xs))
theorem law_call {P:Program}{w:World}{K:PySem.W.Frag}{mg mb:Str->Option Value}{CX:CXT}{k:Nat}{fa a:Addr}{fd:FuncData}{x:Str}{sp:Sp}{s₁:Shared}{vs:List Value}{ns:List Int}
  (KX:K.In s₁.heap) (hns:s₁.heap.Ns mainGlobals mg) (hb:s₁.heap.Ns builtinsNs mb) (hbb:∀x:Str,x≠"__name__"->mb x=bootBuiltins x) (hlim:s₁.heap.NoLimit) (hg:s₁.gens=#[])
  (ha:s₁.heap.get? a=some { cls:=.type "list",data:=.seq vs.toArray }) (hi:IntsAre vs ns) (hl:ns.length<=sizeLine) (hr:Room k callerA)
  (F:∀base:Heap,K.In base->base.Ns mainGlobals mg->FnOk P w K mg base CX k fa fd [x] sp) (hbind:∀(s:Shared) (u:Value),BindsTo s fd ⟨[u],[]⟩ [(x,u)])
  (hsp:∀H:Hp,Only H->SqL K H a (ns.map V.int)->sp [.ref a] H (fun v _=>v=.bl true) fun _ _ _=>False)
  (hCX:∀H e s',CX [] H s₁ (fun _ _ _=>False) e s'->False):
  codeAny (model P w) callerA (.call (.ref fa) ⟨[.ref a],[]⟩) (fun r s'=>r=.ok (.ret (.bool true))/\OldK s₁.heap s'.heap/\s'.os=s₁.os/\AllBare s'.gens) s₁:=by
 have rv:=zGu hi
 have lenV:=hi.length
 -- from an abstract heap in which nothing but the script may be tracked
 have core:∀H:Hp,Only H->SqL K H a (ns.map V.int)->HOk P w H s₁.heap->(∀b,H b≠none->b=a)->(H a≠none->K.lookup a=none)->
   codeAny (model P w) callerA (.call (.ref fa) ⟨[.ref a],[]⟩) (fun r s'=>r=.ok (.ret (.bool true))/\OldK s₁.heap s'.heap/\s'.os=s₁.os/\AllBare s'.gens) s₁:=by
  intro H hO hS hok hA hK
  have zGs:∀{b:Addr}{o:Obj},s₁.heap.get? b=some o->H b=none->(hidT s₁.heap H).get? b=some o:=fun e n=>zP8 e n
  have noA:∀{b:Addr}{o:Obj}{es:Array DictEntry}{ep:Nat},s₁.heap.get? b=some o->o.data=.dict es ep->H b=none:=fun {b o es ep} e d=>by
   cases q:H b with
   | none=>rfl
   | some u=>
    have e':b=a:=hA b (by rw[q];simp)
    subst e'
    rw[ha]at e;cases e
    have d':Data.seq vs.toArray _=Data.dict es ep:=d
    cases d'
  have nsK:∀{b:Addr}{m:Str->Option Value},s₁.heap.Ns b m->(hidT s₁.heap H).Ns b m:=fun {b m} ⟨o,es,ep,e,d,r⟩=>⟨o,es,ep,zGs e (noA e d),d,r⟩
  have hKb:K.In (hidT s₁.heap H):=fun b o e=>zGs (KX b o e) (by
   cases q:H b with
   | none=>rfl
   | some u=>
    have e':b=a:=hA b (by rw[q];simp)
    subst e'
    rw[hK (by rw[q];simp)]at e;cases e)
  have hM:Mod K mg (hidT s₁.heap H):=⟨hKb,nsK hns,⟨mb,nsK hb,hbb⟩,let ⟨mc,h1,h2⟩:=hlim;⟨mc,nsK h1,h2⟩⟩
  have e0:Env0 P w K mg (hidT s₁.heap H) callerA [] s₁ H:=⟨rfl,hM,fun b o e=>zSd e,Nat.le_of_eq (zMy _ _),trivial,fun b hb=>absurd (show b∈([]:List Addr)from hb) (by simp),hok,.of_eq hg,rfl⟩
  refine v8 ((F _ hKb (nsK hns)).run callerA [] s₁ H ⟨[.ref a],[]⟩ [.ref a] [.ref a] _ _ hr e0 (hbind s₁ (.ref a)) (.cons rfl .nil) (hsp H hO hS)) fun r s' h=>?_
  cases r with
  | error e=>exact(hCX H e s' h).elim
  | ok fl=>
   cases fl with
   | next=>exact False.elim h
   | brk=>exact False.elim h
   | cont=>exact False.elim h
   | ret u=>
    obtain⟨v,H',os,bare,un,hok',r',q⟩:=h
    have q':v=.bl true:=q
    subst q'
    obtain rfl:u=Value.bool true:=r'
    refine⟨rfl,OldK.of_keep fun b o e=>?_,os,bare⟩
    cases q:H b with
    | none=>exact un.keep b o e q (by intro z;exact absurd (show b∈([]:List Addr)from z) (by simp)) (by simp)
    | some u=>
     rcases hO b with z|⟨ob,xs,z⟩
     ·rw[q]at z;cases z
     ·have z2:=un.frzs b ob _ z
      obtain⟨e1,_⟩:=hok b _ z
      obtain⟨e2,_⟩:=hok' b _ z2
      rw[e]at e1;cases e1
      exact e2
 cases hk:K.lookup a with
 | some o=>
  -- the script is one of the module's own objects
  have e:=KX a o hk
  rw[ha]at e
  cases e
  refine core (fun _=>none) (fun _=>.inl rfl) (.inr ⟨_,vs.toArray,_,hk,rfl,rfl,rfl,by rw[xn,lenV];exact hl,by simpa using rv⟩) (fun b u z=>by have z':(none:Option HO)=some u:=z;cases z') (fun b z=>absurd rfl z) fun z=>absurd rfl z
 | none=>
  refine core (fun b=>if b=a then some (.frz { cls:=.type "list",data:=.seq vs.toArray } (.lst (ns.map V.int)))else none) (fun b=>?_) (.inl (.inr ⟨{ cls:=.type "list",data:=.seq vs.toArray },xc rfl⟩)) (fun b u z=>?_) (fun b z=>?_) fun _=>hk
  ·by_cases hb:b=a
   ·exact .inr ⟨_,_,xc hb⟩
   ·exact .inl (xf hb)
  ·by_cases hb:b=a
   ·have z':=(xc hb).symm.trans z
    cases z'
    subst hb
    exact⟨ha,by rw[xo];exact hl,vs,_,rv,ha⟩
   ·have z':=(xf hb).symm.trans z
    cases z'
  ·by_cases hb:b=a
   ·exact hb
   ·exact absurd (xf hb) z
end L2
namespace L2
open PySem PySem.Spec PyProof.Rows
theorem walk_of {l:PySem.W.OpenLaw}{n k:Nat}{q:Program}{loose:List Str}{XP:(Str->Option Value)->Heap->Prop}{YP:World->Heap->Prop}{d:DefRec}{K:Params->PySem.W.Frag}{CX:World->CXT}{sp:World->Sp}{x:Str}
  (hn:l.most=some n) (hn2:n<=sizeLine) (hdf:d.params.defaults=[]) (hr:Room k callerA)
  (hY:∀(w:World) (h:Heap),YP w h->(K w.params).In h)
  (F:∀(w:World) (mg:Str->Option Value) (fa:Addr) (h:Heap),(K w.params).In h->h.Ns mainGlobals mg->mg d.name=some (.ref fa)->
   ∃fd:FuncData,(∀(s:Shared) (u:Value),BindsTo s fd ⟨[u],[]⟩ [(x,u)]) /\
    ∀base:Heap,(K w.params).In base->base.Ns mainGlobals mg->FnOk l.prog w (K w.params) mg base (CX w) k fa fd [x] (sp w))
  (hsp:∀(w:World) (H:Hp) (a:Addr) (ns:List Int),ns.length<=n->Only H->SqL (K w.params) H a (ns.map V.int)->sp w [.ref a] H (fun v _=>v=.bl true) fun _ _ _=>False)
  (hCX:∀(w:World) (H:Hp) (s:Shared) (e:Value) (s':Shared),CX w [] H s (fun _ _ _=>False) e s'->False):
  PySem.W.WalkO q loose XP YP l.row.toRowW d [] (fun f vs=>PySem.call f vs):=by
 refine Att.attach_call hn hdf fun w s₀ s₁ mg mb fa o pm cd doc a vs ns G Y ho hd hcd hmg hobj hints hlen hg=>?_
 have KX:=hY w _ Y
 obtain⟨fd,hb,hF⟩:=F w mg fa _ KX G.T.g hmg
 exact law_call KX G.T.g G.T.b G.T.builtins G.T.nolimit hg hobj hints (xm hlen hn2) hr hF hb (fun H hO hS=>hsp w H a ns hlen hO hS) fun H e s'=>hCX w H s₁ e s'
end L2
namespace L2
open PySem PySem.Spec PyProof.Rows
noncomputable def zDu (s:Stmt):Arguments:=match s with
 | .FunctionDef _ a _ _ _ _ _ _ _ _=>a
 | _=>{ posonlyargs:=[],args:=[],vararg:=none,kwonlyargs:=[],kw_defaults:=[],kwarg:=none,defaults:=[] }
noncomputable def zCd (s:Stmt):List Stmt:=match s with
 | .FunctionDef _ _ b _ _ _ _ _ _ _=>b
 | _=>[]
noncomputable def zA7 (s:Stmt):Scope:=match s with
 | .FunctionDef _ _ _ _ _ _ sc _ _ _=>sc
 | _=>{ kind:=.function,names:=[],isGenerator:=false,isCoroutine:=false }
noncomputable abbrev CX0:CXT:=fun _ _ _ _ _ _=>False
noncomputable abbrev E0:XK:=fun _ _ _=>False
theorem pass0 {X:Cx}:Passes CX0 X E0:=fun _ _ _ _ _ _ _ h=>h.elim
structure Fun (K:PySem.W.Frag) (x qual:Str) (st:Stmt) (f:Addr) (fd:FuncData):Prop where
 ex:∃(oc:Value) (od:Option Addr) (kV doc pm:Value) (an:Option Addr) (cdv ct:Value) (osl:Array (Option Value)),
  fd=PySem.W.fnOf x qual (zDu st) (zCd st) (zA7 st) .none kV doc pm an cdv ct/\K.lookup f=some ⟨oc,od,.func fd,osl⟩/\PySem.W.codeIn K cdv qual=true
 kp:PySem.W.keepIn K (.ref f)=true
section
variable {P:Program}{w:World}{K:PySem.W.Frag}{mg:Str->Option Value}{base:Heap}
theorem Fun.ok {x qual:Str}{st:Stmt}{f:Addr}{fd:FuncData}{N ps:List Str}{k:Nat}{sp:Sp}(F:Fun K x qual st f fd) (S:zAr N ps (zA7 st)) (len:∀vs H Q E,sp vs H Q E->vs.length=ps.length)
  (hbody:∀(cdv:Value) (A:Around) (outer:List Env) (s:Shared) (H:Hp) (vs:List V) (Q:VK) (E:XK),Room k (A.deeper (envOfC qual (zA7 st) s.heap.objs.size f cdv))->sp vs H Q E->
   ∃t,PSs (cxOf CX0 P w K mg base N qual (zA7 st) f cdv A outer s H E).nox (zCd st) t/\t { nx:=fun _ H'=>Q .non H',rt:=Q } (start N vs) H):FnOk P w K mg base CX0 (k+1) f fd ps sp:=by
 obtain⟨oc,od,kV,doc,pm,an,cdv,ct,osl,rfl,lk,hcd⟩:=F.ex
 refine zX5 lk hcd S len fun A outer s H vs Q E hr hsp=>?_
 obtain⟨t,h,q⟩:=hbody cdv A outer s H vs Q E hr hsp
 exact⟨t,h.nox,q⟩
theorem Fun.binds {x qual:Str}{st:Stmt}{f:Addr}{fd:FuncData}{ps:List Str}(F:Fun K x qual st f fd)
  (h:∀(kV doc pm:Value) (an:Option Addr) (cdv ct:Value) (us:List Value),us.length=ps.length->bindArgs (PySem.W.fnOf x qual (zDu st) (zCd st) (zA7 st) .none kV doc pm an cdv ct) ⟨us,[]⟩=pure (ps.zip us)):Binds K fd ps []:=by
 obtain⟨oc,od,kV,doc,pm,an,cdv,ct,osl,rfl,lk,hcd⟩:=F.ex
 exact .all (h kV doc pm an cdv ct)
theorem zBz {x qual:Str}{st:Stmt}{f:Addr}{oc:Value}{od an:Option Addr}{osl:Array (Option Value)}{kV doc pm cdv ct:Value}(l:K.lookup f=some ⟨oc,od,.func (PySem.W.fnOf x qual (zDu st) (zCd st) (zA7 st) .none kV doc pm an cdv ct),osl⟩)
  (c:PySem.W.codeIn K cdv qual=true) (k:PySem.W.keepIn K (.ref f)=true):Fun K x qual st f (PySem.W.fnOf x qual (zDu st) (zCd st) (zA7 st) .none kV doc pm an cdv ct):=⟨⟨oc,od,kV,doc,pm,an,cdv,ct,osl,rfl,l,c⟩,k⟩
end
theorem zDs {A:Around}{k:Nat}(hr:Room k A):A.units+1<cLine:=Nat.lt_of_le_of_lt (Nat.add_le_add_left (by decide:1<=64) _) hr.units
section
variable {X:Cx}
theorem pv (i:Nat) {x:Str}{pos:Pos}(hN:X.N[i]?=some x:=by rfl) (hv:Vis X.env.scope x:=by first|exact Or.inl rfl|exact Or.inr (Or.inl rfl)|exact Or.inr (Or.inr rfl)) (hd:(x == ("__debug__":Str))=false:=by decide)
  (hcd:(x == ("__classdict__":Str))=false:=by decide):PE X (.Name x pos) (tVar i):=zUo hN hv hd hcd
end
noncomputable def Same (H H':Hp):Prop:=∀b o,H b=some o->H' b=some o
theorem Same.seq {K:PySem.W.Frag}{H H':Hp}{a:Addr}{xs:List V}(e:Same H H') (h:SqL K H a xs):SqL K H' a xs:=by
 rcases h with(h|⟨o,h⟩)|h
 ·exact .inl (.inl (e _ _ h))
 ·exact .inl (.inr ⟨o,e _ _ h⟩)
 ·exact .inr h
end L2
namespace L2
open PySem PySem.Spec PyProof.Rows
section
variable {prog:Program}{w:World}{A:Around}{R:Result->Shared->Prop}{s:Shared}
theorem zHl {elt target iter:Expr}{ifs:List Expr}{scope:Scope}{pos:Pos}{it acc:Value}{env:Env}(I:Nat->Shared->Prop)
  (turn:∀n s,I n s->wpAny (model prog w) A (pyNext it) (fun r s₁=>match r with
   | none=>R (.ok .next) s₁
   | some v=>wpAny (model prog w) A (letOwnedTupleGo target it v) (fun _ s₂=>wpAny (model prog w) A (assign target env v) (fun _ s₂=>
     wpAny (model prog w) A (forIn ifs true fun c r=>if r=true then do let ok <- isTrue c env (eval c env);pure (ForInStep.yield ok)else pure (ForInStep.yield r)) (fun ok s₃=>
      if ok=true then wpAny (model prog w) A (eval elt env) (fun x s₄=>
       wpAny (model prog w) A (call (.builtin "list.append") [acc,x]) (fun _ s₅=>∃m,m<n/\I m s₅) (fun _ _=>False) s₄) (fun _ _=>False) s₃
      else ∃m,m<n/\I m s₃) (fun _ _=>False) s₂) (fun _ _=>False) s₂) (fun _ _=>False) s₁) (fun _ _=>False) s)
  (n:Nat) (h:I n s):
  codeAny (model prog w) A (.compLoop (.ListComp elt [⟨target,iter,ifs,0⟩] scope pos) 0 it acc env) R s:=by
 refine codeAny_loop rfl I (fun n s hI=>?_) n h
 show wpAny _ A ((compTurn (.ListComp elt [⟨target,iter,ifs,0⟩] scope pos) 0 it acc env).onRaise (fun x=>do noteFrame x env;theTreesLotGoes x)) _ _ s
 refine wpAny_noted ?_
 rw[compTurn_list]
 refine xa (wpAny_standAt (xa (x8 (turn n s hI) (fun r s₁ h₁=>?_) fun _ _ h'=>h'.elim)))
 cases r with
 | none=>exact xg h₁
 | some v=>
  refine xa (x8 h₁ (fun _ s₁' h₁=>?_) fun _ _ h'=>h'.elim)
  refine xa (x8 h₁ (fun _ s₂ h₂=>xa (x8 h₂ (fun ok s₃ h₃=>?_) fun _ _ h'=>h'.elim)) fun _ _ h'=>h'.elim)
  cases ok with
  | false=>exact xg ⟨rfl,h₃⟩
  | true=>
   exact xa (xa (x8 h₃ (fun x s₄ h₄=>xa (x8 h₄ (fun _ s₅ h₅=>xg (xg ⟨rfl,h₅⟩)) fun _ _ h'=>h'.elim)) fun _ _ h'=>h'.elim))
end
theorem zKs {env:Env}:∀(names:List (Str × NameKind)) (cs:List (Str × Addr)),(∀y∈names,y.2=.free->∃c,env.cells.lookup y.1=some c)->∃cl:List (Str × Addr),
  (forIn names cs fun x r=>(match x,r with|(name,kind),cs=>if(kind == NameKind.free)=true then do let c <- cellOf env name;pure (ForInStep.yield ((name,c)::cs))else pure (ForInStep.yield cs)):Sem (List (Str × Addr)))=pure cl /\
  (∀x c,cl.lookup x=some c->cs.lookup x=some c\/env.cells.lookup x=some c)/\(∀x c,cs.lookup x=some c->∃c',cl.lookup x=some c')/\∀y∈names,y.2=.free->∃c,cl.lookup y.1=some c:=by
 intro names
 induction names with
 | nil=>intro cs _;exact⟨cs,rfl,fun _ _ h=>.inl h,fun x c h=>⟨c,h⟩,fun _ h=>nomatch h⟩
 | cons y r ih=>
  intro cs h
  obtain⟨n,k⟩:=y
  have hr:∀y∈r,y.2=.free->∃c,env.cells.lookup y.1=some c:=fun y hy=>h y (xZ _ hy)
  by_cases hk:k=.free
  ·subst hk
   obtain⟨c,hc⟩:=h (n,.free) xM rfl
   obtain⟨cl,e,h1,h2,h3⟩:=ih ((n,c)::cs) hr
   refine⟨cl,?_,fun x d hx=>?_,fun x d hx=>?_,fun y hy hf=>?_⟩
   ·rw[List.forIn_cons]
    have hcell:cellOf env n=(pure c:Sem Addr):=by simp only[cellOf,hc]
    simp only[uB,xw,hcell]
    simpa using e
   ·rcases h1 x d hx with z|z
    ·rw[xV]at z
     by_cases hxn:(x == n)=true
     ·rw[hxn]at z;simp at z;subst z
      have:x=n:=by simpa using hxn
      subst this;exact .inr hc
     ·rw[uR]at hxn;rw[hxn]at z;exact .inl z
    ·exact .inr z
   ·by_cases hxn:(x == n)=true
    ·exact h2 x c (by rw[xV,hxn])
    ·rw[uR]at hxn
     exact h2 x d (by rw[xV,hxn];exact hx)
   ·rcases xk.mp hy with z|z
    ·subst z;exact h2 n c (by rw[xV];simp)
    ·exact h3 y z hf
  ·have hb:(k == NameKind.free)=false:=by simpa using hk
   obtain⟨cl,e,h1,h2,h3⟩:=ih cs hr
   refine⟨cl,?_,h1,h2,fun y hy hf=>?_⟩
   ·rw[List.forIn_cons]
    simp only[hb,xR,xK]
    simpa using e
   ·rcases xk.mp hy with z|z
    ·subst z;exact absurd hf hk
    ·exact h3 y z hf
theorem zDo {scope:Scope}{env:Env}(h:∀y∈scope.names,y.2=.free->∃c,env.cells.lookup y.1=some c):∃cl:List (Str × Addr),closureFor scope env=pure cl /\
  (∀x c,cl.lookup x=some c->env.cells.lookup x=some c)/\∀y∈scope.names,y.2=.free->∃c,cl.lookup y.1=some c:=by
 obtain⟨cl,e,h1,_,h3⟩:=zKs (env:=env) scope.names [] h
 refine⟨cl,?_,fun x c hx=>(h1 x c hx).elim (fun z=>nomatch z) id,h3⟩
 simp only[closureFor]
 rw[e]
 rfl
theorem zDx {scope:Scope}{env:Env}{x:Str}(h:(relabel scope env).names.lookup x=some .cell\/(relabel scope env).names.lookup x=some .free):∃y∈scope.names,y.1=x/\(y.2=.free\/y.2=.cell):=by
 have key:∀(l:List (Str × NameKind)),((l.map fun(n,k)=>if(k == NameKind.free && env.scope.kind == .function && env.kindOf n == some .cell)then(n,NameKind.cell)else(n,k)).lookup x=some .cell \/
   (l.map fun(n,k)=>if(k == NameKind.free && env.scope.kind == .function && env.kindOf n == some .cell)then(n,NameKind.cell)else(n,k)).lookup x=some .free)->∃y∈l,y.1=x/\(y.2=.free\/y.2=.cell):=by
  intro l
  induction l with
  | nil=>intro h;rcases h with h|h <;> simp at h
  | cons y r ih=>
   intro h
   obtain⟨n,k⟩:=y
   by_cases hb:(k == NameKind.free && env.scope.kind == .function && env.kindOf n == some .cell)=true
   ·have kf:k=.free:=by simp at hb;exact hb.1.1
    by_cases hx:(x == n)=true
    ·have:x=n:=by simpa using hx
     exact⟨(n,k),xM,this.symm,.inl kf⟩
    ·rw[uR]at hx
     simp only[xr,hb,xw,xV,hx]at h
     obtain⟨y,hy,z⟩:=ih h
     exact⟨y,xZ _ hy,z⟩
   ·rw[uR]at hb
    by_cases hx:(x == n)=true
    ·have e:x=n:=by simpa using hx
     simp only[xr,hb,xV,hx,xR,xK]at h
     rcases h with h|h
     ·exact⟨(n,k),xM,e.symm,.inr (xD h)⟩
     ·exact⟨(n,k),xM,e.symm,.inl (xD h)⟩
    ·rw[uR]at hx
     simp only[xr,hb,xV,hx,xR,xK]at h
     obtain⟨y,hy,z⟩:=ih h
     exact⟨y,xZ _ hy,z⟩
 exact key scope.names h
noncomputable def zAf (X:Cx) (N:List Str) (scope:Scope) (cl:List (Str × Addr)) (C:Addr) (s:Shared) (H:Hp) (fp:List Addr):Cx where
 prog:=X.prog
 w:=X.w
 K:=X.K
 mg:=X.mg
 base:=X.base
 A:=X.A
 N:=N
 s₀:=s
 H₀:=H
 env:=compEnvC scope cl C X.env
 outer:=X.stack
 stack:=X.stack
 ex:=fp
 fn:=fun x=>scope.names.lookup x == some .cell
 calm:=X.calm
 pn:=[]
 xe:=fun _ _=>False
structure CompScope (X:Cx) (own fre:List Str) (ix:List Nat) (scope:Scope):Prop where
 kind:scope.kind=.function
 cell:∀y∈scope.names,y.2=.cell->scope.names.lookup y.1=some .cell
 loc:∀y∈scope.names,y.2=.local->scope.names.lookup y.1=some .local
 fr:∀y∈scope.names,y.2=.free->X.env.kindOf y.1=some .cell\/X.env.kindOf y.1=some .free
 len:fre.length=ix.length
 at_:∀(j:Nat) (i:Nat) (x:Str),fre[j]?=some x->ix[j]?=some i->X.N[i]?=some x/\(X.env.kindOf x=some .cell\/X.env.kindOf x=some .free)
 vis:∀x∈fre,(relabel scope X.env).names.lookup x=some .cell\/(relabel scope X.env).names.lookup x=some .free
 fno:∀x∈fre,scope.names.lookup x≠some .cell
noncomputable def zJb (scope sc:Scope):Scope:=
 { scope with names:=scope.names.map fun(n,k)=>if(k == .free && sc.kind == .function && sc.names.lookup n == some .cell)then(n,.cell)else(n,k) }
noncomputable def zBe (o:Option NameKind):Bool:=o == some .cell || o == some .free
theorem zBv {o:Option NameKind}(h:zBe o=true):o=some .cell\/o=some .free:=by
 simpa[zBe]using h
noncomputable def zQm (sc:Scope) (N own fre:List Str) (ix:List Nat) (scope:Scope):Bool:=
 (scope.kind == .function) && (scope.names.all fun y=>y.2 != .cell || scope.names.lookup y.1 == some .cell) && (scope.names.all fun y=>y.2 != .local || scope.names.lookup y.1 == some .local) &&
 (scope.names.all fun y=>y.2 != .free || zBe (sc.names.lookup y.1)) && (fre.length == ix.length) && ((fre.zip ix).all fun p=>N[p.2]? == some p.1 && zBe (sc.names.lookup p.1)) &&
 (fre.all fun x=>zBe ((zJb scope sc).names.lookup x)) && fre.all fun x=>scope.names.lookup x != some .cell
theorem CompScope.mk' {X:Cx}{N own fre:List Str}{ix:List Nat}{scope sc:Scope}(hs:X.env.scope=sc) (hN:X.N=N) (h:zQm sc N own fre ix scope=true):CompScope X own fre ix scope:=by
 simp only[zQm,xA]at h
 obtain⟨⟨⟨⟨⟨⟨⟨h1,h2⟩,h3⟩,h4⟩,h5⟩,h6⟩,h7⟩,h8⟩:=h
 subst hs
 subst hN
 refine⟨by simpa using h1,fun y hy hl=>?_,fun y hy hl=>?_,fun y hy hl=>?_,by simpa using h5,fun j i x e1 e2=>?_,fun x hx=>?_,fun x hx=>?_⟩
 ·have:=ua.mp h2 y hy
  rw[hl]at this
  simpa using this
 ·have:=ua.mp h3 y hy
  rw[hl]at this
  simpa using this
 ·have:=ua.mp h4 y hy
  rw[hl]at this
  exact zBv (show zBe (X.env.scope.names.lookup y.1)=true by simpa using this)
 ·have hz:(x,i)∈fre.zip ix:=by
   refine uC.mpr ⟨j,?_⟩
   rw[List.getElem?_zip_eq_some]
   exact⟨e1,e2⟩
  have:=ua.mp h6 (x,i) hz
  simp only[xA]at this
  exact⟨by simpa using this.1,zBv this.2⟩
 ·exact zBv (ua.mp h7 x hx)
 ·have:=ua.mp h8 x hx
  simpa using this
section
variable {M:Model}{A:Around}{E:Value->Shared->Prop}{s:Shared}
theorem zNm {lo:Nat}:∀(names:List (Str × NameKind)) (n:Nat) (acc:List (Str × Addr)) (x:Str) (c:Addr),lo<=n->((x,NameKind.cell)∈names\/∀c,acc.lookup x=some c->lo<=c)->(cellsFrom n names acc).lookup x=some c->lo<=c
 | [],_,_,_,_,_,h,e=>h.elim (fun z=>nomatch z) fun z=>z _ e
 | (m,k)::r,n,acc,x,c,hn,h,e=>by
  unfold cellsFrom at e
  split at e
  ·refine zNm r (n+1) _ x c (by nofun) ?_ e
   by_cases hx:x=m
   ·refine .inr fun c' q=>?_
    rw[xV,show(x == m)=true by rw[hx];exact uB m]at q
    cases q;exact hn
   ·have hb:(x == m)=false:=by simpa using hx
    rcases h with h|h
    ·rcases xk.mp h with z|z
     ·exact absurd (congrArg Prod.fst z) hx
     ·exact .inl z
    ·exact .inr fun c' q=>h c' (by rw[xV,hb]at q;exact q)
  ·rename_i hk
   refine zNm r n acc x c hn ?_ e
   rcases h with h|h
   ·rcases xk.mp h with z|z
    ·cases z;exact absurd rfl hk
    ·exact .inl z
   ·exact .inr h
theorem zNn:∀(names:List (Str × NameKind)) (n:Nat) (acc:List (Str × Addr)) (x:Str),(∀y∈names,y.1=x->y.2≠.cell)->(cellsFrom n names acc).lookup x=acc.lookup x
 | [],_,_,_,_=>rfl
 | (m,k)::r,n,acc,x,h=>by
  unfold cellsFrom
  split
  ·rename_i hk
   rw[zNn r _ _ x fun y hy=>h y (xZ _ hy),xV]
   have hx:(x == m)=false:=by
    cases q:x == m with
    | false=>rfl
    | true=>exact absurd (by simpa using hk) (h (m,k) xM (by simpa using(beq_iff_eq.mp q).symm))
   rw[hx]
  ·exact zNn r n acc x fun y hy=>h y (xZ _ hy)
theorem zNo:∀(names:List (Str × NameKind)) (n:Nat) (acc:List (Str × Addr)),(∀x c,acc.lookup x=some c->c<n)->(∀x y c,acc.lookup x=some c->acc.lookup y=some c->x=y)->
  ∀x y c,(cellsFrom n names acc).lookup x=some c->(cellsFrom n names acc).lookup y=some c->x=y
 | [],_,_,_,h=>h
 | (m,k)::r,n,acc,hl,h=>by
  unfold cellsFrom
  split
  ·refine zNo r (n+1) _ (fun x c e=>?_) fun x y c e1 e2=>?_
   ·rw[xV]at e
    cases q:x == m with
    | true=>rw[q]at e;cases e;exact Nat.lt_succ_self _
    | false=>rw[q]at e;exact vU (hl x c e)
   ·rw[xV]at e1 e2
    cases q:x == m with
    | true=>
     cases q':y == m with
     | true=>rw[beq_iff_eq.mp q,beq_iff_eq.mp q']
     | false=>rw[q]at e1;rw[q']at e2;cases e1;exact absurd (hl y _ e2) (xX _)
    | false=>
     cases q':y == m with
     | true=>rw[q]at e1;rw[q']at e2;cases e2;exact absurd (hl x _ e1) (xX _)
     | false=>rw[q]at e1;rw[q']at e2;exact h x y c e1 e2
  ·exact zNo r n acc hl h
theorem zGl:∀(names:List (Str × NameKind)) (n:Nat) (acc:List (Str × Addr)) (x:Str),((x,NameKind.cell)∈names\/∃c,acc.lookup x=some c)->∃c,(cellsFrom n names acc).lookup x=some c
 | [],_,_,_,h=>h.elim (fun z=>nomatch z) id
 | (m,k)::r,n,acc,x,h=>by
  unfold cellsFrom
  split
  ·refine zGl r (n+1) _ x ?_
   cases q:x == m with
   | true=>exact .inr ⟨n,by rw[xV,q]⟩
   | false=>
    rcases h with h|⟨c,h⟩
    ·rcases xk.mp h with z|z
     ·rw[show x=m from congrArg Prod.fst z,uB]at q;cases q
     ·exact .inl z
    ·exact .inr ⟨c,by rw[xV,q];exact h⟩
  ·rename_i hk
   refine zGl r n acc x ?_
   rcases h with h|h
   ·rcases xk.mp h with z|z
    ·cases z;exact absurd rfl hk
    ·exact .inl z
   ·exact .inr h
theorem zIp:∀(names:List (Str × NameKind)) (h:Heap) (acc:List (Str × Addr)) (lo:Nat),lo<=h.objs.size->(∀x c,acc.lookup x=some c->lo<=c->h.IsCell c none)->∀x c,(cellsFrom h.objs.size names acc).lookup x=some c->lo<=c->(pushCells h names).IsCell c none
 | [],_,_,_,_,q=>q
 | (m,k)::r,h,acc,lo,hl,q=>by
  unfold cellsFrom pushCells
  split
  ·have:=zIp r (h.push { cls:=.type "cell",data:=.cell none }) ((m,h.objs.size)::acc) lo (by rw[vp];lia) fun x c e hc=>by
    rw[xV]at e
    cases z:x == m with
    | true=>rw[z]at e;cases e;exact⟨_,xv _ rfl,rfl⟩
    | false=>rw[z]at e;exact(q x c e hc).keeps fun b o e=>xl _ e
   rwa[vp]at this
  ·exact zIp r h acc lo hl q
theorem zMg {scope:Scope}{globals:Addr}{closure:List (Str × Addr)}{qual:Str}{around:Env}{Q:Env->Shared->Prop}
  (hQ:Q (newEnv scope s.heap.objs.size globals (cellsFrom (s.heap.objs.size+1) scope.names closure) qual none .none (some around) builtinsNs) { s with heap:=pushCells (s.heap.push { cls:=.type "dict",data:=.dict #[] }) scope.names }):
  wpAny M A (newFunctionEnv scope globals closure [] qual none .none (some around)) Q E s:=by
 simp only[newFunctionEnv,Option.isSome_some,xw]
 refine xa (wpAny_alloc ?_)
 refine xa (wpAny_layCells _ (fun name kind cells=>by cases hkc:kind == NameKind.cell <;> simp[hkc]) _ _ _ _ ?_)
 rw[show({ s with heap:=s.heap.push { cls:=.type "dict",data:=.dict #[] } }:Shared).heap.objs.size=s.heap.objs.size+1 from vp ..]
 simp only[List.forIn_nil]
 exact xa (xg (xg hQ))
end
structure ClOk (X:Cx) (scope:Scope) (C:Addr) (cl:List (Str × Addr)):Prop where
 inj:∀x y c,cl.lookup x=some c->cl.lookup y=some c->x=y
 own:∀x c,scope.names.lookup x=some .cell->cl.lookup x=some c->C<c
 old:∀x c,scope.names.lookup x≠some .cell->cl.lookup x=some c->X.env.cells.lookup x=some c
 has:∀y∈scope.names,(y.2=.free\/y.2=.cell)->∃c,cl.lookup y.1=some c
theorem ClOk.or {X:Cx}{scope:Scope}{C:Addr}{cl:List (Str × Addr)}(h:ClOk X scope C cl) {x:Str}{c:Addr}(e:cl.lookup x=some c):X.env.cells.lookup x=some c\/C<c:=by
 by_cases q:scope.names.lookup x=some .cell
 ·exact .inr (h.own x c q e)
 ·exact .inl (h.old x c q e)
noncomputable def zD8 (own:List Str) (ix:List Nat) (σ:St):St:=own.map (fun _=>none)++ix.map fun i=>(σ[i]?).join
section
variable {X:Cx}{pins:List (Addr × Obj)}{σ:St}{H:Hp}{s:Shared}{own fre:List Str}{ix:List Nat}{scope:Scope}{cl:List (Str × Addr)}{fp:List Addr}{C:Addr}
theorem Inv.stkNo (I:Inv X pins σ H s) {b:Addr}(h:FpOk X pins H b):b ∉ frs X.stack:=fun hb=>
 (xk.mp (I.stkSub b hb)).elim h.2.1 h.2.2.1
theorem zTg (I:Inv X pins σ H s) (hf:∀b∈fp,FpOk X pins H b) (hlt:∀b∈fp,b<s.heap.objs.size) (S:CompScope X own fre ix scope) (hcl:ClOk X scope C cl)
  (hC:s.heap.objs.size<=C):(zAf X (own++fre) scope cl C s H fp).Ok where
 mod:=I.ok.mod
 kind:=S.kind
 glob:=I.ok.glob
 blt:=I.ok.blt
 above:=hC
 inj:=hcl.inj
 has:=fun x hx=>by
  obtain⟨y,hy,e,k⟩:=zDx hx
  subst e
  exact hcl.has y hy k
 cab:=fun x c h e=>xO (Nat.lt_of_le_of_lt hC (hcl.own x c (by simpa[zAf]using h) e))
 hd:=I.ok.hd
 frames:=I.ok.frames
 gds:=I.ok.gds
 stk:=.inl rfl
 exf:=fun b hb=>⟨xu (xy (hlt b hb) hC),fun x c e=>(hcl.or e).elim (fun e=>(hf b hb).2.2.2.2.1 x c e) fun z=>xB (xu (vT (xy (hlt b hb) hC) z))⟩
 bs:=I.bs
 bsz:=xm I.ok.bsz I.sz
 noex:=fun b o e hb=>by
  rcases(hf b hb).2.2.2.1 with z|z
  ·exact I.ok.noex b o e z
  ·exact absurd (xy (xi e) (xm I.ok.bsz z)) (xX _)
 exfs:=fun b hb=>I.stkNo (hf b hb)
 funs:=I.stack
 frf:=I.stkFree
theorem zKq {h₁:Heap}{t':Nat}{m:Str->Option Value}(I:Inv X pins σ H s) (hf:∀b∈fp,FpOk X pins H b) (hlt:∀b∈fp,b<s.heap.objs.size) (S:CompScope X own fre ix scope) (hcl:ClOk X scope C cl) (hnew:∀x c,cl.lookup x=some c->C<c->h₁.IsCell c none)
  (hC:s.heap.objs.size<=C) (old:∀b o,s.heap.get? b=some o->h₁.get? b=some o) (hn:h₁.Ns C m):
  Inv (zAf X (own++fre) scope cl C s H fp) [] (zD8 own ix σ) H { s with heap:=h₁,toks:=t' } where
 ok:=zTg I hf hlt S hcl hC
 os:=rfl
 bare:=I.bare
 base:=Un.kept old
 loc:=by
  refine⟨m,hn,fun i x v e1 e2 e3=>?_⟩
  obtain⟨m0,hn0,hl⟩:=I.loc
  have hi:own.length<=i:=by
   rcases xN i own.length with z|z
   ·rw[zD8,vq (by simpa using z),vt]at e2
    cases q:own[i]? <;> rw[q]at e2 <;> simp at e2
   ·exact z
  have e1':(own++fre)[i]?=some x:=e1
  rw[vH hi]at e1'
  rw[zD8,vH (by simpa using hi),vt,xo]at e2
  cases q:ix[i-own.length]? with
  | none=>rw[q]at e2;simp at e2
  | some j=>
   rw[q]at e2
   obtain⟨hN,hk⟩:=S.at_ _ _ _ e1' q
   have e2':(σ[j]?).join=some v:=by simpa using e2
   have e4:σ[j]?=some (some v):=by
    cases z:σ[j]? with
    | none=>rw[z]at e2';cases e2'
    | some o=>rw[z]at e2';exact congrArg some e2'
   obtain⟨u,r,lk⟩:=hl j x v hN e4 (hk.elim (fun z=>.inr (.inl z)) fun z=>.inr (.inr z))
   refine⟨u,r,.inr ?_⟩
   rcases lk with⟨k,_⟩|⟨k,c,ec,hc⟩
   ·rcases hk with z|z <;> · rw[k]at z;cases z
   ·have fin:((zAf X (own++fre) scope cl C s H fp).env.kindOf x=some .cell\/(zAf X (own++fre) scope cl C s H fp).env.kindOf x=some .free):=by
     exact S.vis x (uw e1')
    refine⟨fin,?_⟩
    obtain⟨y,hy,e,kf⟩:=zDx (env:=X.env) (x:=x) fin
    subst e
    obtain⟨c',hc'⟩:=hcl.has y hy kf
    have:=(hcl.old _ _ (S.fno _ (uw e1')) hc').symm.trans ec
    cases this
    exact⟨c,hc',by obtain⟨o,ho,hd⟩:=hc;exact⟨o,old _ _ ho,hd⟩⟩
 cell:=fun x c e=>by
  rcases hcl.or e with q|q
  ·obtain⟨v,o,ho,hd⟩:=I.cell x c q
   exact⟨v,o,old _ _ ho,hd⟩
  ·exact⟨none,hnew x c e q⟩
 free:=I.hok.fresh hC
 freeC:=fun x c e=>(hcl.or e).elim (fun q=>I.freeC x c q) fun q=>I.hok.fresh (xO (Nat.lt_of_le_of_lt hC q))
 pin:=fun p hp=>nomatch hp
 hok:=I.hok.kept old
 len:=by simp[zD8,zAf,S.len]
end
noncomputable def PIfs (X:Cx) (ifs:List Expr) (t:TT):Prop:=
 ∀(pins:List (Addr × Obj)) (s:Shared) (σ:St) (H:Hp) (Q:Bool->Hp->Prop),Inv X pins σ H s->t σ H Q->
  wpAny (model X.prog X.w) X.A (forIn ifs true fun c r=>if r=true then do let ok <- isTrue c X.env (eval c X.env);pure (ForInStep.yield ok)else pure (ForInStep.yield r)) (TP X pins σ Q) X.xe s
noncomputable def tYes:TT:=fun _ H Q=>Q true H
theorem zOj {X:Cx}:PIfs X [] tYes:=fun pins s σ H Q I h=>xg ⟨H,I,h⟩
theorem zOi {X:Cx}{c:Expr}{t:TT}(hc:PT X c t):PIfs X [c] t:=by
 intro pins s σ H Q I h
 rw[List.forIn_cons]
 simp only[xw]
 refine xa (xa (thn (hc pins s σ H Q I h) fun b s1 q=>xg ?_))
 simp only[List.forIn_nil]
 exact xg q
noncomputable def zPw (J:It) (g:TG) (tt:TT) (te:TE) (σc:St) (H1:Hp) (Qd:List V->Hp->Prop):Prop:=
 ∃W:Nat->Nat->List V->St->Hp->Prop,(∃m,W 0 m [] σc H1)/\∀i m ys σ H,W i m ys σ H->
  (J.stop i H/\Qd ys H)\/(J.go i H/\ys.length<sizeLine/\∃N:List V->St->Hp->Prop,(∀zs σ' H',N zs σ' H'->∃m',m'<m/\W (i+1) m' zs σ' H')/\∀x H',J.yld i H x H'->g x σ H' fun σ2 H2=>tt σ2 H2 fun c H3=>
   if c=true then te σ2 H3 fun y H4=>N (ys++[y]) σ2 H4 else N ys σ2 H3)
theorem HOk.adopt {P:Program}{w:World}{H:Hp}{h:Heap}{D:Addr}{o:HO}(x:HOk P w H h) (n:H D=none) (new:ObjOk P w (upd H D o) h D o):HOk P w (upd H D o) h:=fun b u e=>by
 by_cases hb:b=D
 ·subst hb
  rw[zAi]at e
  cases e
  exact new
 ·rw[zAd hb]at e
  refine(x b u e).stay (fun c v _ q=>q) (fun c q=>?_) fun c xs q=>?_
  ·rw[zAd (zAc q n)];exact q
  ·rw[zAd (zAc q n)];exact q
theorem Un.adopt {fs ex:List Addr}{H H':Hp}{h h':Heap}{D:Addr}{o:HO}(u:Un fs ex H H' h h') (hD:h.objs.size<=D) (n:H' D=none):Un fs ex H (upd H' D o) h h' where
 keep:=u.keep
 slot:=u.slot
 free:=fun b ob e n' hx=>by rw[zAd (xu (xy (xi e) hD))];exact u.free b ob e n' hx
 there:=u.there
 tups:=fun b xs e=>by have:=u.tups b xs e;rw[zAd (zAc this n)];exact this
 frzs:=fun b ob xs e=>by have:=u.frzs b ob xs e;rw[zAd (zAc this n)];exact this
 tbls:=fun b ps e=>by obtain⟨m,z⟩:=u.tbls b ps e;exact⟨m,by rw[zAd (zAc z n)];exact z⟩
section
variable {X:Cx}{pins:List (Addr × Obj)}{σ:St}{H2:Hp}{s2:Shared}{own fre:List Str}{ix:List Nat}{scope:Scope}{cl:List (Str × Addr)}{fp:List Addr}{C:Addr}
theorem zFo {tg elt iter:Expr}{ifs:List Expr}{pos:Pos}{J:It}{it:Addr}{tn:Nat->Heap->Prop}{g:TG}{tt:TT}{te:TE}{Qd:List V->Hp->Prop}{RR:Value->Addr->Result->Shared->Prop}{E:Value->Shared->Prop}{cl0:List (Str × Addr)}
  (I2:Inv X pins σ H2 s2) (T:Turn X.prog X.w X.K tg J fp it tn) (st2:tn 0 s2.heap) (f2:∀b∈fp,FpOk X pins H2 b) (hc:X.calm=true) (S:CompScope X own fre ix scope)
  (hcl0:∀x c,cl0.lookup x=some c->X.env.cells.lookup x=some c) (hcf0:∀y∈scope.names,y.2=.free->∃c,cl0.lookup y.1=some c)
  (hg:∀cl C,PG (zAf X (own++fre) scope cl C s2 H2 fp) tg g) (hi:∀cl C,PIfs (zAf X (own++fre) scope cl C s2 H2 fp) ifs tt) (he:∀cl C,PE (zAf X (own++fre) scope cl C s2 H2 fp) elt te)
  (q:zPw J g tt te (zD8 own ix σ) H2 Qd)
  (hRR:∀D C s' m' ys H',Inv X pins σ (upd H' D (.lst ys)) s'->s'.heap.Ns C m'->FpOk X pins (upd H' D (.lst ys)) C->H' D=none->Qd ys H'->RR (.ref D) C (.ok .next) s'):
  wpAny (model X.prog X.w) X.A (newList []) (fun acc s₃=>wpAny (model X.prog X.w) X.A (newFunctionEnv scope X.env.globals cl0 [] X.env.qual none .none (some X.env)) (fun cenv s₄=>
   codeAny (model X.prog X.w) X.A (.compStart (.ListComp elt [⟨tg,iter,ifs,0⟩] scope pos) 0 (.ref it) acc { cenv with scope:=relabel scope X.env }) (RR acc cenv.locals) s₄) E s₃) E s2:=by
 obtain⟨W,⟨m0,w0⟩,turn⟩:=q
 refine vf (zMg ?_)
 dsimp only
 generalize hHH:s2.heap.push { cls:=.type "list",dict:=none,data:=.seq ([]:List Value).toArray }=HH
 have hC:HH.objs.size=s2.heap.objs.size+1:=by rw[<- hHH,vp]
 have hns₁:(pushCells (HH.push { cls:=.type "dict",data:=.dict #[] }) scope.names).Ns HH.objs.size fun _=>none:=(Heap.Ns.new HH (.type "dict")).keeps (pushCells_keeps _ _)
 have hkp:∀b o,HH.get? b=some o->(pushCells (HH.push { cls:=.type "dict",data:=.dict #[] }) scope.names).get? b=some o:=fun b o e=>pushCells_keeps _ _ b o (xl _ e)
 have hltc:∀x c,cl0.lookup x=some c->c<HH.objs.size+1:=fun x c e=>by
  obtain⟨v,o,ho,_⟩:=I2.cell x c (hcl0 x c e)
  rw[hC]
  exact vU (vU (xi ho))
 have hnew:∀x c,(cellsFrom (HH.objs.size+1) scope.names cl0).lookup x=some c->HH.objs.size<c->(pushCells (HH.push { cls:=.type "dict",data:=.dict #[] }) scope.names).IsCell c none:=by
  have:=zIp scope.names (HH.push { cls:=.type "dict",data:=.dict #[] }) cl0 (HH.objs.size+1) (by rw[vp];exact xh _) fun x c e hc=>absurd (xy (hltc x c e) hc) (xX _)
  rw[vp]at this
  exact fun x c e h=>this x c e h
 have hcl:ClOk X scope HH.objs.size (cellsFrom (HH.objs.size+1) scope.names cl0):={
  inj:=zNo _ _ _ hltc fun x y c e1 e2=>I2.ok.inj x y c (hcl0 x c e1) (hcl0 y c e2)
  own:=fun x c h e=>zNm (lo:=HH.objs.size+1) _ _ _ x c (xh _) (.inl (uu h)) e
  old:=fun x c h e=>by
   rw[zNn _ _ _ x fun y hy ex ec=>h (by rw[<- ex];exact S.cell y hy ec)]at e
   exact hcl0 x c e
  has:=fun y hy hk=>by
   obtain⟨n,k⟩:=y
   rcases hk with hk|hk
   ·exact zGl _ _ _ _ (.inr (hcf0 _ hy hk))
   ·dsimp only at hk
    subst hk
    exact zGl _ _ _ _ (.inl hy) }
 generalize cellsFrom (HH.objs.size+1) scope.names cl0=cl at hnew hcl ⊢
 generalize pushCells (HH.push { cls:=.type "dict",data:=.dict #[] }) scope.names=h₁ at hns₁ hkp hnew ⊢
 generalize hDe:s2.heap.objs.size=D at *
 generalize hCe:HH.objs.size=C at *
 have hDC:D≠C:=by nofun
 have hDle:s2.heap.objs.size<=D:=by nofun
 have hCle:s2.heap.objs.size<=C:=by nofun
 have below:∀b o,s2.heap.get? b=some o->b≠C/\b≠D:=fun b o e=>⟨xu (xy (xi e) hCle),xu (xy (xi e) hDle)⟩
 have old:∀b o,s2.heap.get? b=some o->h₁.get? b=some o:=fun b o e=>hkp b o (hHH ▸ xl _ e)
 have hacc:h₁.get? D=some { cls:=.type "list",dict:=none,data:=.seq ([]:List Value).toArray }:=hkp _ _ (hHH ▸ hDe ▸ xv _ rfl)
 have fpo:∀b∈fp,∃o,s2.heap.get? b=some o/\∀v,o.data≠.cell v:=T.obj _ _ st2
 have hlt:∀b∈fp,b<s2.heap.objs.size:=fun b hb=>by obtain⟨o,e,_⟩:=fpo b hb;exact xi e
 have hDf:D ∉ fp:=fun hm=>absurd (xy (hlt D hm) hDle) (xX _)
 have hcD:∀x c,cl.lookup x=some c->c≠D:=fun x c e z=>by
  rcases hcl.or e with q|q
  ·obtain⟨v,o,ho,_⟩:=I2.cell x c q
   exact(below c o ho).2 z
  ·exact absurd (xy q (by rw[z,hC];exact Nat.le_succ _)) (xX _)
 let Xc:=zAf X (own++fre) scope cl C s2 H2 fp
 have hnoS:∀b,s2.heap.objs.size<=b->b ∉ frs X.stack:=fun b hb z=>by
  rcases xk.mp (I2.stkSub b z)with z|z
  ·exact absurd (xy I2.lt hb) (by rw[z];exact xX _)
  ·exact I2.nofs hb z
 have loop:∀t',codeAny (model X.prog X.w) X.A (.compLoop (.ListComp elt [⟨tg,iter,ifs,0⟩] scope pos) 0 (.ref it) (.ref D) (compEnvC scope cl C X.env)) (RR (.ref D) C) { s2 with heap:=h₁,toks:=t' }:=by
  intro t'
  have I4:Inv Xc [] (zD8 own ix σ) H2 { s2 with heap:=h₁,toks:=t' }:=zKq I2 f2 hlt S hcl hnew hCle old hns₁
  refine zHl (fun n s'=>∃i ys σ' H' its k,Inv Xc [] σ' H' s'/\tn i s'.heap/\(∀b∈fp,H' b=none)/\H' D=none/\s'.heap.get? D=some ({ cls:=.type "list",data:=.seq (List.toArray its) k }:Obj)/\Vals ys its/\ys.length<=sizeLine/\W i n ys σ' H')
   ?_ m0 ⟨0,[],_,H2,[],_,I4,T.keep _ _ _ st2 (fun b _ o e=>old b o e),fun b hb=>(f2 b hb).1,I2.hok.fresh hDle,hacc,.nil,xC _,w0⟩
  rintro n s3 ⟨i,ys,σ3,H3,its,k,I3,st3,fr3,hD3,ho3,hv3,hz3,w3⟩
  have I3p:Inv Xc [(D,{ cls:=.type "list",data:=.seq (List.toArray its) k })] σ3 H3 s3:=I3.pins_of fun p hp=>by
   have e:p=(D,({ cls:=.type "list",data:=.seq (List.toArray its) k }:Obj)):=by simpa using hp
   subst e
   exact⟨ho3,hD3,hDC,hnoS D hDle,fun v z=>by cases z⟩
  have stat:∀{H':Hp},(∀b∈fp,H' b=none)->∀b∈fp,FpOk Xc [(D,({ cls:=.type "list",data:=.seq (List.toArray its) k }:Obj))] H' b:=fun hn b hb=>
   ⟨hn b hb,xu (xy (hlt b hb) hCle),I2.stkNo (f2 b hb),.inl hb,fun x c e=>(hcl.or e).elim (fun e=>(f2 b hb).2.2.2.2.1 x c e) fun z=>xB (xu (vT (xy (hlt b hb) hCle) z)),fun p hp z=>by
    have e:p=(D,({ cls:=.type "list",data:=.seq (List.toArray its) k }:Obj)):=by simpa[Xc,zAf]using hp
    rw[e]at z;exact hDf (by rw[show D=b from z];exact hb)⟩
  rcases turn i n ys σ3 H3 w3 with⟨stop,qn⟩|⟨go,hys,N,hN,step⟩
  ·refine thn (T.done Xc rfl rfl rfl hc i _ s3 σ3 H3 _ I3p (stat fr3) st3 stop) fun r s4 hq1=>?_
   obtain⟨hr,I4⟩:=hq1
   subst hr
   have ho4:=(I4.pin (D,_) (vc _ xM)).1
   obtain⟨m',hn',_⟩:=I4.loc
   have un:Un (frs X.stack) fp H2 (upd H3 D (.lst ys)) s2.heap s4.heap:=Un.adopt (show Un (frs X.stack) fp H2 H3 s2.heap s4.heap from I4.base) hDle hD3
   have hok:HOk X.prog X.w (upd H3 D (.lst ys)) s4.heap:=HOk.adopt (show HOk X.prog X.w H3 s4.heap from I4.hok) hD3 ⟨hz3,its,_,hv3,ho4⟩
   have IX:Inv X pins σ (upd H3 D (.lst ys)) s4:=I2.call' (ch:=fp) I4.os un hok I4.bare fun b hb=>⟨(f2 b hb).2.2.2.1,(f2 b hb).2.1,(f2 b hb).2.2.2.2.1,(f2 b hb).2.2.2.2.2⟩
   exact hRR D C s4 m' ys H3 IX hn' (I2.fpOk hCle (by rw[zAd (xB hDC)];exact I4.free)) hD3 qn
  ·refine thn (T.item Xc rfl rfl rfl hc i _ s3 σ3 H3 _ I3p (stat fr3) st3 go) fun r s4 hq1=>?_
   obtain⟨u,hr,h4⟩:=hq1
   subst hr
   refine thn h4 fun _ s5 hq1=>?_
   obtain⟨x,H5,I5,r5,y5,st5,fr5⟩:=hq1
   have I5':=I5.pinned (stat fr5) (T.obj _ _ st5)
   refine thn (hg cl C _ s5 σ3 H5 x u _ I5' r5 (step x H5 y5)) fun _ s6 hq1=>?_
   obtain⟨σ6,H6,I6,q6⟩:=hq1
   refine thn (hi cl C _ s6 σ6 H6 _ I6 q6) fun b s7 hq1=>?_
   obtain⟨H7,I7,q7⟩:=hq1
   have keepT:∀{σ7:St}{H7:Hp}{s7:Shared}{h':Heap},Inv Xc ([(D,({ cls:=.type "list",data:=.seq (List.toArray its) k }:Obj))]++zH2 fp s5.heap) σ7 H7 s7->(∀b o,b≠D->s7.heap.get? b=some o->h'.get? b=some o)->tn (i+1) h'/\∀b∈fp,H7 b=none:=fun {σ7 H7 s7 h'} I7 hk=>by
    refine⟨T.keep _ _ _ st5 fun b hb o e=>hk b o (fun z=>hDf (z ▸ hb)) (I7.pin (b,o) (vc _ (vc _ (zD0 hb e)))).1,fun b hb=>?_⟩
    obtain⟨o,e,d⟩:=T.obj _ _ st5 b hb
    exact(I7.pin (b,o) (vc _ (vc _ (zD0 hb e)))).2.1
   cases b with
   | false=>
    obtain⟨m',hm,w7⟩:=hN _ _ _ q7
    obtain⟨t7,f7⟩:=keepT (h':=s7.heap) I7 fun _ _ _ e=>e
    have pD:=I7.pin (D,_) (vc _ (v3 _ xM))
    exact⟨m',hm,i+1,ys,σ6,H7,its,k,I7.pins_of (fun p hp=>nomatch hp),t7,f7,pD.2.1,pD.1,hv3,hz3,w7⟩
   | true=>
    refine thn (he cl C _ s7 σ6 H7 _ I7 q7) fun y s8 hq1=>?_
    obtain⟨v,H8,I8,r8,n8⟩:=hq1
    obtain⟨m',hm,w8⟩:=hN _ _ _ n8
    have pD:=I8.pin (D,_) (vc _ (v3 _ xM))
    have hsz:its.toArray.size<=sizeLine:=by rw[xn,<- hv3.length];exact hz3
    refine wpAny_list_append_plain (hsz:=hsz) (show s8.heap.PlainList D its.toArray from⟨_,pD.1⟩) fun h₅ hl₅ hs₅=>?_
    obtain⟨t8,f8⟩:=keepT (h':=h₅) I8 fun b o hb e=>hs₅.extBut b o hb e
    obtain⟨k',ho5⟩:=hl₅
    have I9:Inv Xc [] σ6 H8 { s8 with heap:=h₅ }:=(I8.pins_of (pins':=[]) (fun p hp=>nomatch hp)).turned (it:=D) (t':=s8.toks) (fun b o hb e=>hs₅.extBut b o hb e) pD.2.1 hDC (.inr hDle) hcD fun p hp=>nomatch hp
    refine⟨m',hm,i+1,ys++[v],σ6,H8,its++[y],k',I9,t8,f8,pD.2.1,?_,hv3.append (.cons r8 .nil),(by rw[vd,u5];exact hys),w8⟩
    show h₅.get? D=_
    rw[ho5];simp
 exact codeAny_compStart_list (loop _) (T.self _ 0 _ _ _ (T.keep _ _ _ st2 (fun b _ o e=>old b o e)) (loop _))
end
noncomputable def zI4 (own:List Str) (ix:List Nat) (wi:TI) (g:TG) (tt:TT) (te:TE):TE:=fun σ H Q=>wi σ H fun J H1=>
 zPw J g tt te (zD8 own ix σ) H1 fun ys H2=>∀D,H2 D=none->Q (.ref D) (upd H2 D (.lst ys))
section
variable {X:Cx}{own fre:List Str}{ix:List Nat}{scope:Scope}
theorem zOp {tg elt iter:Expr}{ifs:List Expr}{pos:Pos}{wi:TI}{g:TG}{tt:TT}{te:TE}(hc:X.calm=true) (S:CompScope X own fre ix scope) (hi:PI X tg iter wi)
  (hg:∀cl C s H fp,PG (zAf X (own++fre) scope cl C s H fp) tg g) (ht:∀cl C s H fp,PIfs (zAf X (own++fre) scope cl C s H fp) ifs tt) (he:∀cl C s H fp,PE (zAf X (own++fre) scope cl C s H fp) elt te)
  (hs:∀x,foldedSetIterable iter X.env x=pure x:=by intro _;rfl):PE X (.ListComp elt [⟨tg,iter,ifs,0⟩] scope pos) (zI4 own ix wi g tt te):=by
 intro pins s σ H Q I h
 obtain⟨cl,ecl,hcl,hcf⟩:=zDo (scope:=scope) (env:=X.env) fun y hy hf=>I.ok.has y.1 (S.fr y hy hf)
 rw[eval_ListComp]
 refine wpAny_comprehension_free (use:=none) rfl hs ecl S.kind S.loc (thn (hi pins s σ H _ I h) fun v s1 h1=>thn h1 fun itv s2 h2=>?_)
 obtain⟨it,fp,tn,J,H2,e,I2,T,st2,f2,q⟩:=h2
 subst e
 refine zFo (RR:=fun acc C=>compPost (model X.prog X.w) X.A X.xe none (EP X pins σ Q) acc C) I2 T st2 f2 hc S hcl hcf (fun cl C=>hg _ _ _ _ _) (fun cl C=>ht _ _ _ _ _) (fun cl C=>he _ _ _ _ _) q ?_
 intro D C s' m' ys H' IX hn fC hD qd
 refine⟨m',hn,fun h' hs'=>?_⟩
 exact⟨.ref D,_,IX.turned (it:=C) (t':=s'.toks) (fun b o hb e=>hs'.extBut b o hb e) fC.1 fC.2.1 fC.2.2.2.1 fC.2.2.2.2.1 fC.2.2.2.2.2,rfl,qd D hD⟩
theorem zRq {i:Nat}{x:Str}{pos':Pos}{tg elt iter:Expr}{ifs:List Expr}{pos cpos:Pos}{wi:TI}{g:TG}{tt:TT}{te:TE}(hN:X.N.Nodup) (hix:X.N[i]?=some x) (hx:Loc X.env.scope x)
  (hc:X.calm=true) (S:CompScope X own fre ix scope) (hi:PI X tg iter wi)
  (hg:∀cl C s H fp,PG (zAf X (own++fre) scope cl C s H fp) tg g) (ht:∀cl C s H fp,PIfs (zAf X (own++fre) scope cl C s H fp) ifs tt) (he:∀cl C s H fp,PE (zAf X (own++fre) scope cl C s H fp) elt te)
  (hsw:swapsWith (.ListComp elt [⟨tg,iter,ifs,0⟩] scope cpos) (some (.Name x pos')) pos.line X.env=pure true:=by rfl)
  (hs:∀x,foldedSetIterable iter X.env x=pure x:=by intro _;rfl) (hf:X.fn x=true\/X.env.scope.names.lookup x=some .local:=by first|exact .inl rfl|exact .inr rfl|assumption):
  PS X (.Assign [.Name x pos'] (.ListComp elt [⟨tg,iter,ifs,0⟩] scope cpos) pos) (tAsg (zI4 own ix wi g tt te) (gName i)):=by
 intro pins s σ H D I h
 obtain⟨cl,ecl,hcl,hcf⟩:=zDo (scope:=scope) (env:=X.env) fun y hy hf=>I.ok.has y.1 (S.fr y hy hf)
 rw[exec_Assign_Name_used _ _ _ _ hsw]
 refine xa (wpAny_standAt (xa ?_))
 show wpAny _ X.A (do let _ <- comprehension (.ListComp elt [⟨tg,iter,ifs,0⟩] scope cpos) scope X.env _ (newList []) false (eval iter X.env) (some (assign (.Name x pos') X.env))) _ _ s
 refine xa (x8 (wpAny_comprehension_free (use:=some (assign (.Name x pos') X.env)) (Q:=fun _ s'=>SP X pins D .next s') rfl hs ecl S.kind S.loc
  (thn (hi pins s σ H _ I h) fun v s1 h1=>thn h1 fun itv s2 h2=>?_)) (fun _ s' hq=>xg (xg hq)) fun _ _ e=>e)
 obtain⟨it,fp,tn,J,H2,e,I2,T,st2,f2,q⟩:=h2
 subst e
 refine zFo (RR:=fun acc C=>compPost (model X.prog X.w) X.A X.xe (some (assign (.Name x pos') X.env)) (fun _ s'=>SP X pins D .next s') acc C) I2 T st2 f2 hc S hcl hcf (fun cl C=>hg _ _ _ _ _) (fun cl C=>ht _ _ _ _ _) (fun cl C=>he _ _ _ _ _) q ?_
 intro D' C s' m' ys H' IX hn fC hD qd
 show wpAny _ X.A (assign (.Name x pos') X.env (.ref D')) _ _ _
 refine wpAny_assign_Name (zGw (v:=.ref D') IX hN hix hx rfl (fun s'' I'' hsb=>?_) hf)
 obtain⟨a,hsb,ha⟩:=hsb
 have hCa:C≠a:=by
  rcases ha with z|z
  ·rw[z];exact fC.2.1
  ·exact xB (fC.2.2.2.2.1 x a z)
 refine⟨m',hn.sameBut hsb hCa,fun h' hs'=>?_⟩
 exact⟨_,_,I''.turned (it:=C) (t':=s''.toks) (fun b o hb e=>hs'.extBut b o hb e) fC.1 fC.2.1 fC.2.2.2.1 fC.2.2.2.2.1 fC.2.2.2.2.2,qd D' hD⟩
end
end L2
namespace L2
open PySem PySem.Spec PyProof.Rows
section
variable {X:Cx}
theorem zFr {A:Around}{P:Program}{w:World}{bs:List Bool}{its:List Value}(r:Vals (bs.map V.bl) its):TruthOf P w A (fun i v=>its.toArray[i]?=some v) (fun i=>bs.getD i false):=by
 intro i v s Q E hv hq
 have hv':its[i]?=some v:=by simpa using hv
 have hlt:i<its.length:=(xE.mp hv').1
 have hl:=r.length
 rw[xo]at hl
 have hb:(bs.map V.bl)[i]?=some (V.bl (bs[i]'(by nofun))):=by rw[vt,xp (by nofun)];rfl
 obtain⟨u,hu,ru⟩:=r.get hb
 rw[hv']at hu
 cases hu
 cases ru
 dsimp only at hq
 rw[vL,xp (by nofun)]at hq
 exact v7 hq
theorem zF8:∀bs:List Bool,((List.range bs.length).any fun i=>bs.getD i false)=bs.any id:=by
 intro bs
 rw[vG,List.any_eq_true,List.any_eq_true]
 constructor
 ·rintro⟨i,hi,h⟩
  have hi':=xY.mp hi
  exact⟨bs[i],List.getElem_mem hi',by simpa[vL,hi']using h⟩
 ·rintro⟨b,hb,h⟩
  obtain⟨i,hi,rfl⟩:=vV.mp hb
  exact⟨i,xY.mpr hi,by simpa[vL,hi]using h⟩
theorem zNt (hc:X.calm=true):zBa X (.builtin "any") (fun xs H Q=>∃(p:Addr) (bs:List Bool),xs=[.ref p]/\SqL X.K H p (bs.map V.bl)/\Q (.bl (bs.any id)) H):=by
 intro pins s σ H xs us Q I r h
 obtain⟨p,bs,rfl,hq,q⟩:=h
 obtain⟨u,rfl,rx⟩:=vals1 r
 cases rx
 obtain⟨its,rv,pl,hz⟩:=I.list hq
 have hl:=rv.length
 rw[xo]at hl
 have hne:p≠s.heap.objs.size:=by obtain⟨o,ho,_⟩:=pl.isList;exact xu (xi ho)
 refine call_any_walk (uS pl.isList ?_)
 refine⟨_,_,_,_,_,_,_,rfl,Walks.list (A:=X.A.in1) (I.ok.hd hc) _ p hne its.toArray,⟨⟨_,xv _ rfl,rfl,rfl⟩,pl.isList.at fun o e=>xl _ e⟩,zFr rv,fun h' tk hk=>?_⟩
 have hfr:H s.heap.objs.size=none:=I.hok.fresh (xh _)
 have fp:FpOk X pins H s.heap.objs.size:=I.fpOk (xh _) hfr
 have e:((List.range its.toArray.size).any fun i=>bs.getD i false)=bs.any id:=by rw[xn,<- hl];exact zF8 bs
 rw[e]
 exact⟨.bl (bs.any id),H,Inv.turned (it:=s.heap.objs.size) (h':=h') (t':=tk) (I.kept (t':=s.toks) fun b o e=>xl _ e) (fun b o hb e=>hk b o (by simpa using hb) e) fp.1 fp.2.1 fp.2.2.2.1 fp.2.2.2.2.1 fp.2.2.2.2.2,rfl,q⟩
end
end L2
namespace L2
open PySem PySem.Spec PyProof.Rows
inductive Dv where
 | non|bl (b:Bool)|int (i:Int)|str (x:Str)|tup (l:List Dv)|lst (l:List Dv)
mutual
noncomputable def Dv.eqv:Dv->Dv->Bool
 | .non,.non=>true
 | .bl a,.bl b=>a == b
 | .int a,.int b=>a == b
 | .str a,.str b=>decide (a=b)
 | .tup a,.tup b=>eqvL a b
 | .lst a,.lst b=>eqvL a b
 | _,_=>false
noncomputable def eqvL:List Dv->List Dv->Bool
 | [],[]=>true
 | a::r,b::t=>a.eqv b && eqvL r t
 | _,_=>false
end
mutual
noncomputable def Dv.cmp:Dv->Dv->Bool
 | .non,.non=>true
 | .bl _,.bl _=>true
 | .int _,.int _=>true
 | .str _,.str _=>true
 | .tup a,.tup b=>cmpL a b
 | .lst a,.lst b=>cmpL a b
 | _,_=>false
noncomputable def cmpL:List Dv->List Dv->Bool
 | a::r,b::t=>a.cmp b && cmpL r t
 | _,_=>true
end
mutual
noncomputable def Dv.dep:Dv->Nat
 | .tup l=>depL l+1
 | .lst l=>depL l+1
 | _=>0
noncomputable def depL:List Dv->Nat
 | []=>0
 | d::r=>max d.dep (depL r)
end
mutual
noncomputable def Den (K:PySem.W.Frag) (H:Hp):Dv->V->Prop
 | .non,v=>v=.non
 | .bl b,v=>v=.bl b
 | .int i,v=>v=.int i
 | .str x,v=>v=.str x
 | .tup ds,v=>∃a xs,v=.ref a/\SqT K H a xs/\DenL K H ds xs
 | .lst ds,v=>∃a xs,v=.ref a/\SqL K H a xs/\DenL K H ds xs
noncomputable def DenL (K:PySem.W.Frag) (H:Hp):List Dv->List V->Prop
 | [],xs=>xs=[]
 | d::ds,xs=>∃x r,xs=x::r/\Den K H d x/\DenL K H ds r
end
mutual
theorem Dv.eqv_iff:∀(a b:Dv),a.eqv b=true <-> a=b
 | .non,b=>by cases b <;> simp[Dv.eqv]
 | .bl x,b=>by cases b <;> simp[Dv.eqv]
 | .int x,b=>by cases b <;> simp[Dv.eqv]
 | .str x,b=>by cases b <;> simp[Dv.eqv]
 | .tup l,b=>by
  cases b with
  | tup m=>simp only[Dv.eqv,Dv.tup.injEq];exact zCa l m
  | _=>simp[Dv.eqv]
 | .lst l,b=>by
  cases b with
  | lst m=>simp only[Dv.eqv,Dv.lst.injEq];exact zCa l m
  | _=>simp[Dv.eqv]
theorem zCa:∀(a b:List Dv),eqvL a b=true <-> a=b
 | [],b=>by cases b <;> simp[eqvL]
 | x::r,b=>by
  cases b with
  | nil=>simp[eqvL]
  | cons y t=>simp only[eqvL,xA,List.cons.injEq,Dv.eqv_iff x y,zCa r t]
end
section
variable {X:Cx}{pins:List (Addr × Obj)}{σ:St}{H:Hp}{s:Shared}
mutual
theorem Den.inj (I:Inv X pins σ H s):∀(d e:Dv) (v:V),Den X.K H d v->Den X.K H e v->d.cmp e=true->d=e
 | .non,e,v,h,h',c=>by cases e <;> simp[Dv.cmp]at c;rfl
 | .bl x,e,v,h,h',c=>by
  cases e <;> simp[Dv.cmp]at c
  have:=Eq.trans (Eq.symm (show v=.bl x from h)) (show v=.bl _ from h')
  cases this;rfl
 | .int x,e,v,h,h',c=>by
  cases e <;> simp[Dv.cmp]at c
  have:=Eq.trans (Eq.symm (show v=.int x from h)) (show v=.int _ from h')
  cases this;rfl
 | .str x,e,v,h,h',c=>by
  cases e <;> simp[Dv.cmp]at c
  have:=Eq.trans (Eq.symm (show v=.str x from h)) (show v=.str _ from h')
  cases this;rfl
 | .tup l,e,v,h,h',c=>by
  cases e with
  | tup m=>
   obtain⟨a,xs,e1,q1,r1⟩:=h
   obtain⟨b,ys,e2,q2,r2⟩:=h'
   have e3:=Eq.trans (Eq.symm e1) e2
   cases e3
   have e4:=I.tuple_inj q1 q2
   subst e4
   rw[DenL.inj I l m xs r1 r2 (by simpa[Dv.cmp]using c)]
  | _=>simp[Dv.cmp]at c
 | .lst l,e,v,h,h',c=>by
  cases e with
  | lst m=>
   obtain⟨a,xs,e1,q1,r1⟩:=h
   obtain⟨b,ys,e2,q2,r2⟩:=h'
   have e3:=Eq.trans (Eq.symm e1) e2
   cases e3
   have e4:=I.list_inj q1 q2
   subst e4
   rw[DenL.inj I l m xs r1 r2 (by simpa[Dv.cmp]using c)]
  | _=>simp[Dv.cmp]at c
theorem DenL.inj (I:Inv X pins σ H s):∀(ds es:List Dv) (xs:List V),DenL X.K H ds xs->DenL X.K H es xs->cmpL ds es=true->ds=es
 | [],es,xs,h,h',c=>by
  cases es with
  | nil=>rfl
  | cons e es=>
   obtain⟨x,r,e1,_⟩:=h'
   rw[show xs=[]from h]at e1
   cases e1
 | d::ds,es,xs,h,h',c=>by
  cases es with
  | nil=>
   obtain⟨x,r,e1,_⟩:=h
   rw[show xs=[]from h']at e1
   cases e1
  | cons e es=>
   obtain⟨x,r,e1,h1,h2⟩:=h
   obtain⟨y,t,e2,h3,h4⟩:=h'
   have e3:=Eq.trans (Eq.symm e1) e2
   cases e3
   simp only[cmpL,xA]at c
   rw[Den.inj I d e x h1 h3 c.1,DenL.inj I ds es r h2 h4 c.2]
end
theorem DenL.len {K:PySem.W.Frag}{H:Hp}:∀{ds:List Dv}{xs:List V},DenL K H ds xs->ds.length=xs.length
 | [],_,h=>by rw[show _=[]from h];rfl
 | d::ds,xs,⟨x,r,e,_,h⟩=>by rw[e,xH,xH,DenL.len h]
theorem DenL.get {K:PySem.W.Frag}{H:Hp}:∀{ds:List Dv}{xs:List V}{j:Nat}{d:Dv}{x:V},DenL K H ds xs->ds[j]?=some d->xs[j]?=some x->Den K H d x
 | [],_,_,_,_,_,e,_=>by simp at e
 | d::ds,xs,0,d',x',⟨x,r,e,h1,_⟩,e1,e2=>by
  subst e
  simp at e1 e2
  subst e1 e2
  exact h1
 | d::ds,xs,j+1,d',x',⟨x,r,e,_,h2⟩,e1,e2=>by
  subst e
  exact DenL.get (j:=j) h2 (by simpa using e1) (by simpa using e2)
theorem zEl:∀{ds es:List Dv}{j:Nat}{d e:Dv},cmpL ds es=true->ds[j]?=some d->es[j]?=some e->d.cmp e=true
 | [],_,_,_,_,_,h,_=>by simp at h
 | _::_,[],_,_,_,_,_,h=>by simp at h
 | a::r,b::t,0,d,e,c,h1,h2=>by
  simp at h1 h2
  subst h1 h2
  simp only[cmpL,xA]at c
  exact c.1
 | a::r,b::t,j+1,d,e,c,h1,h2=>by
  simp only[cmpL,xA]at c
  exact zEl (j:=j) c.2 (by simpa using h1) (by simpa using h2)
theorem zEj:∀{ds:List Dv}{j:Nat}{d:Dv},ds[j]?=some d->d.dep<=depL ds
 | [],_,_,h=>by simp at h
 | a::r,0,d,h=>by simp at h;subst h;simp only[depL];lia
 | a::r,j+1,d,h=>by
  have:=zEj (ds:=r) (j:=j) (d:=d) (by simpa using h)
  simp only[depL];lia
noncomputable def zCr (ds es:List Dv) (j:Nat):Bool:=match ds[j]?,es[j]? with
 | some d,some e=>d.eqv e
 | _,_=>true
theorem zCb:∀(ds es:List Dv),((List.range (min ds.length es.length)).all (zCr ds es) && ds.length == es.length)=eqvL ds es
 | [],[]=>rfl
 | [],e::es=>by simp[eqvL]
 | d::ds,[]=>by simp[eqvL]
 | d::ds,e::es=>by
  have ih:=zCb ds es
  have h1:min (d::ds).length (e::es).length=min ds.length es.length+1:=by simp only[xH];lia
  have hf:((List.range (min ds.length es.length)).map Nat.succ).all (zCr (d::ds) (e::es))=(List.range (min ds.length es.length)).all (zCr ds es):=by
   rw[List.all_map]
   rfl
  have h0:zCr (d::ds) (e::es) 0=d.eqv e:=rfl
  have h2:((d::ds).length == (e::es).length)=(ds.length == es.length):=by simp
  rw[h1,List.range_succ_eq_map,vM,hf,h0,h2,Bool.and_assoc,ih,eqvL]
theorem units_in1 (A:Around):A.in1.units=A.units+1:=rfl
theorem zQg (I:Inv X pins σ H s):∀(n:Nat) (d e:Dv),d.dep<=n->∀(A:Around) (x y:V) (u v:Value),A.units+n<cLine->Den X.K H d x->Den X.K H e y->RelV x u->RelV y v->d.cmp e=true->SeqAt.EqAt A s u v (d.eqv e):=by
 intro n
 induction n with
 | zero=>
  intro d e hd A x y u v hu h1 h2 r1 r2 hc
  cases d with
  | non=>cases e <;> simp[Dv.cmp]at hc;rw[show x=.non from h1]at r1;rw[show y=.non from h2]at r2;cases r1;cases r2;exact SeqAt.EqAt.same _
  | bl a=>cases e with|bl b=>(rw[show x=.bl a from h1]at r1;rw[show y=.bl b from h2]at r2;cases r1;cases r2;exact SeqAt.EqAt.bool_bool a b)|_=>simp[Dv.cmp]at hc
  | int a=>cases e with|int b=>(rw[show x=.int a from h1]at r1;rw[show y=.int b from h2]at r2;obtain⟨t,rfl⟩:=r1;obtain⟨t',rfl⟩:=r2;exact SeqAt.EqAt.int_int a t b t')|_=>simp[Dv.cmp]at hc
  | str a=>cases e with|str b=>(rw[show x=.str a from h1]at r1;rw[show y=.str b from h2]at r2;obtain⟨t,rfl⟩:=r1;obtain⟨t',rfl⟩:=r2;have q:=SeqAt.EqAt.str_str (A:=A) (s:=s) a t b t';rw[Bool.beq_eq_decide_eq]at q;exact q)|_=>simp[Dv.cmp]at hc
  | tup l=>simp[Dv.dep]at hd
  | lst l=>simp[Dv.dep]at hd
 | succ n ih=>
  intro d e hd A x y u v hu h1 h2 r1 r2 hc
  cases d with
  | non=>exact ih .non e (by simp[Dv.dep]) A x y u v (by nofun) h1 h2 r1 r2 hc
  | bl a=>exact ih (.bl a) e (by simp[Dv.dep]) A x y u v (by nofun) h1 h2 r1 r2 hc
  | int a=>exact ih (.int a) e (by simp[Dv.dep]) A x y u v (by nofun) h1 h2 r1 r2 hc
  | str a=>exact ih (.str a) e (by simp[Dv.dep]) A x y u v (by nofun) h1 h2 r1 r2 hc
  | tup l=>
   cases e with
   | tup m=>
    obtain⟨a,xs,ea,qa,ra⟩:=id h1
    obtain⟨b,ys,eb,qb,rb⟩:=id h2
    subst ea eb
    cases r1
    cases r2
    by_cases hab:a=b
    ·subst hab
     have e1:=Den.inj I _ _ _ h1 h2 hc
     rw[(Dv.eqv_iff _ _).mpr e1]
     exact SeqAt.EqAt.same _
    ·obtain⟨its,va,ta,_⟩:=I.tuple qa
     obtain⟨jts,vb,tb,_⟩:=I.tuple qb
     have la:=ra.len.trans va.length
     have lb:=rb.len.trans vb.length
     refine SeqAt.EqAt.of_refs hab ?_
     have key:=SeqAt.RcAt.tuples (A:=A) (e:=zCr l m) (show s.heap.IsTuple a its.toArray from ta) (show s.heap.IsTuple b jts.toArray from tb) (by nofun) (fun j h1' h2'=>?_)
     ·simp only[xn]at key
      rw[<- la,<- lb,zCb]at key
      exact key
     ·simp only[xn]at h1' h2'
      simp only[List.getElem_toArray]
      have gl:l[j]?=some (l[j]'(by nofun)):=xp (by nofun)
      have gm:m[j]?=some (m[j]'(by nofun)):=xp (by nofun)
      have gx:xs[j]?=some (xs[j]'(by rw[va.length];lia)):=xp _
      have gy:ys[j]?=some (ys[j]'(by rw[vb.length];lia)):=xp _
      obtain⟨u',gu,ru⟩:=va.get gx
      obtain⟨v',gv,rv⟩:=vb.get gy
      rw[xp h1']at gu
      rw[xp h2']at gv
      cases gu
      cases gv
      have e1:zCr l m j=(l[j]'(by nofun)).eqv (m[j]'(by nofun)):=by simp only[zCr,gl,gm]
      rw[e1]
      have hdep:=zEj gl
      simp only[Dv.dep]at hd
      simp only[Dv.cmp]at hc
      exact ih _ _ (by nofun) A.in1 _ _ _ _ (by rw[units_in1];lia) (ra.get gl gx) (rb.get gm gy) ru rv (zEl hc gl gm)
   | _=>simp[Dv.cmp]at hc
  | lst l=>
   cases e with
   | lst m=>
    obtain⟨a,xs,ea,qa,ra⟩:=id h1
    obtain⟨b,ys,eb,qb,rb⟩:=id h2
    subst ea eb
    cases r1
    cases r2
    by_cases hab:a=b
    ·subst hab
     have e1:=Den.inj I _ _ _ h1 h2 hc
     rw[(Dv.eqv_iff _ _).mpr e1]
     exact SeqAt.EqAt.same _
    ·obtain⟨its,va,ta,_⟩:=I.list qa
     obtain⟨jts,vb,tb,_⟩:=I.list qb
     have la:=ra.len.trans va.length
     have lb:=rb.len.trans vb.length
     refine SeqAt.EqAt.of_refs hab ?_
     by_cases hsz:its.length=jts.length
     ·have key:=SeqAt.RcAt.lists (A:=A) (e:=zCr l m) ta.isList tb.isList (by simpa using hsz) (by nofun) (fun j h1' h2'=>?_)
      ·simp only[xn]at key
       have e2:=zCb l m
       rw[la,lb,hsz,Nat.min_self,uB,Bool.and_true]at e2
       rw[hsz,e2]at key
       exact key
      ·simp only[xn]at h1' h2'
       simp only[List.getElem_toArray]
       have gl:l[j]?=some (l[j]'(by nofun)):=xp (by nofun)
       have gm:m[j]?=some (m[j]'(by nofun)):=xp (by nofun)
       have gx:xs[j]?=some (xs[j]'(by rw[va.length];lia)):=xp _
       have gy:ys[j]?=some (ys[j]'(by rw[vb.length];lia)):=xp _
       obtain⟨u',gu,ru⟩:=va.get gx
       obtain⟨v',gv,rv⟩:=vb.get gy
       rw[xp h1']at gu
       rw[xp h2']at gv
       cases gu
       cases gv
       have e1:zCr l m j=(l[j]'(by nofun)).eqv (m[j]'(by nofun)):=by simp only[zCr,gl,gm]
       rw[e1]
       have hdep:=zEj gl
       simp only[Dv.dep]at hd
       simp only[Dv.cmp]at hc
       exact ih _ _ (by nofun) A.in1 _ _ _ _ (by rw[units_in1];lia) (ra.get gl gx) (rb.get gm gy) ru rv (zEl hc gl gm)
     ·have e2:(Dv.lst l).eqv (.lst m)=false:=by
       rw[uT]
       intro z
       have z':=(Dv.eqv_iff _ _).mp z
       cases z'
       lia
      rw[e2]
      exact SeqAt.RcAt.lists_lengths ta.isList tb.isList (by simpa using hsz) (by nofun)
   | _=>simp[Dv.cmp]at hc
theorem zGf (I:Inv X pins σ H s) {l m:List Dv}{xs ys:List V}{its jts:List Value}{A:Around}(hd:depL l<=60) (hu:A.units+64<cLine) (ra:DenL X.K H l xs) (rb:DenL X.K H m ys) (va:Vals xs its) (vb:Vals ys jts) (hc:cmpL l m=true)
  (j:Nat) (h1':j<its.toArray.size) (h2':j<jts.toArray.size):SeqAt.EqAt A.in1 s its.toArray[j] jts.toArray[j] (zCr l m j):=by
 simp only[xn]at h1' h2'
 simp only[List.getElem_toArray]
 have la:=ra.len.trans va.length
 have lb:=rb.len.trans vb.length
 have gl:l[j]?=some (l[j]'(by nofun)):=xp (by nofun)
 have gm:m[j]?=some (m[j]'(by nofun)):=xp (by nofun)
 have gx:xs[j]?=some (xs[j]'(by rw[va.length];lia)):=xp _
 have gy:ys[j]?=some (ys[j]'(by rw[vb.length];lia)):=xp _
 obtain⟨u',gu,ru⟩:=va.get gx
 obtain⟨v',gv,rv⟩:=vb.get gy
 rw[xp h1']at gu
 rw[xp h2']at gv
 cases gu
 cases gv
 have e1:zCr l m j=(l[j]'(by nofun)).eqv (m[j]'(by nofun)):=by simp only[zCr,gl,gm]
 rw[e1]
 have hdep:=zEj gl
 exact zQg I 60 _ _ (by nofun) A.in1 _ _ _ _ (by rw[units_in1];lia) (ra.get gl gx) (rb.get gm gy) ru rv (zEl hc gl gm)
noncomputable def rEqD (K:PySem.W.Frag) (neg:Bool):R2:=fun x y H Q=>(∃l m,Den K H (.tup l) x/\Den K H (.tup m) y/\cmpL l m=true/\depL l<=60/\Q (.bl (if neg then !eqvL l m else eqvL l m)) H) \/
 ∃l m,Den K H (.lst l) x/\Den K H (.lst m) y/\cmpL l m=true/\depL l<=60/\Q (.bl (if neg then !eqvL l m else eqvL l m)) H
theorem zQ6 (hu:X.A.units+64<cLine):OpR X (compareOp .Eq) (rEqD X.K false):=by
 intro pins s σ H x y v u Q I rx ry h
 rcases h with⟨l,m,⟨a,xs,ea,qa,ra⟩,⟨b,ys,eb,qb,rb⟩,hc,hd,q⟩|⟨l,m,⟨a,xs,ea,qa,ra⟩,⟨b,ys,eb,qb,rb⟩,hc,hd,q⟩
 ·subst ea eb
  cases rx
  cases ry
  obtain⟨its,va,ta,_⟩:=I.tuple qa
  obtain⟨jts,vb,tb,_⟩:=I.tuple qb
  have la:=ra.len.trans va.length
  have lb:=rb.len.trans vb.length
  refine SeqAt.RcAt.tuples (A:=X.A) (e:=zCr l m) (show s.heap.IsTuple a its.toArray from ta) (show s.heap.IsTuple b jts.toArray from tb) (by nofun) (fun j h1 h2=>zGf I hd hu ra rb va vb hc j h1 h2) _ _ _ _ ?_
  simp only[xn]
  rw[<- la,<- lb,zCb]
  exact⟨.bl _,H,I,rfl,q⟩
 ·subst ea eb
  cases rx
  cases ry
  obtain⟨its,va,ta,_⟩:=I.list qa
  obtain⟨jts,vb,tb,_⟩:=I.list qb
  have la:=ra.len.trans va.length
  have lb:=rb.len.trans vb.length
  by_cases hsz:its.length=jts.length
  ·refine SeqAt.RcAt.lists (A:=X.A) (e:=zCr l m) ta.isList tb.isList (by simpa using hsz) (by nofun) (fun j h1 h2=>zGf I hd hu ra rb va vb hc j h1 h2) _ _ _ _ ?_
   have e2:=zCb l m
   rw[la,lb,hsz,Nat.min_self,uB,Bool.and_true]at e2
   simp only[xn]
   rw[hsz,e2]
   exact⟨.bl _,H,I,rfl,q⟩
  ·refine SeqAt.RcAt.lists_lengths (A:=X.A) ta.isList tb.isList (by simpa using hsz) (by nofun) _ _ _ _ ?_
   have e2:eqvL l m=false:=by
    rw[uT]
    intro z
    have z':=(zCa _ _).mp z
    subst z'
    lia
   rw[e2]at q
   exact⟨.bl _,H,I,rfl,q⟩
theorem zQ5 (hu:X.A.units+64<cLine):OpR X (compareOp .NotEq) (rEqD X.K true):=by
 intro pins s σ H x y v u Q I rx ry h
 rcases h with⟨l,m,⟨a,xs,ea,qa,ra⟩,⟨b,ys,eb,qb,rb⟩,hc,hd,q⟩|⟨l,m,⟨a,xs,ea,qa,ra⟩,⟨b,ys,eb,qb,rb⟩,hc,hd,q⟩
 ·subst ea eb
  cases rx
  cases ry
  obtain⟨its,va,ta,_⟩:=I.tuple qa
  obtain⟨jts,vb,tb,_⟩:=I.tuple qb
  have la:=ra.len.trans va.length
  have lb:=rb.len.trans vb.length
  refine SeqAt.RcNeAt.tuples (A:=X.A) (e:=zCr l m) (show s.heap.IsTuple a its.toArray from ta) (show s.heap.IsTuple b jts.toArray from tb) (by nofun) (fun j h1 h2=>zGf I hd hu ra rb va vb hc j h1 h2) _ _ _ _ ?_
  simp only[xn]
  rw[<- la,<- lb,zCb]
  exact⟨.bl _,H,I,rfl,q⟩
 ·subst ea eb
  cases rx
  cases ry
  obtain⟨its,va,ta,_⟩:=I.list qa
  obtain⟨jts,vb,tb,_⟩:=I.list qb
  have la:=ra.len.trans va.length
  have lb:=rb.len.trans vb.length
  by_cases hsz:its.length=jts.length
  ·refine SeqAt.RcNeAt.lists (A:=X.A) (e:=zCr l m) ta.isList tb.isList (by simpa using hsz) (by nofun) (fun j h1 h2=>zGf I hd hu ra rb va vb hc j h1 h2) _ _ _ _ ?_
   have e2:=zCb l m
   rw[la,lb,hsz,Nat.min_self,uB,Bool.and_true]at e2
   simp only[xn]
   rw[hsz,e2]
   exact⟨.bl _,H,I,rfl,q⟩
  ·refine SeqAt.RcNeAt.lists_lengths (A:=X.A) ta.isList tb.isList (by simpa using hsz) (by nofun) _ _ _ _ ?_
   have e2:eqvL l m=false:=by
    rw[uT]
    intro z
    have z':=(zCa _ _).mp z
    subst z'
    lia
   rw[e2]at q
   exact⟨.bl _,H,I,rfl,q⟩
noncomputable def gLst (K:PySem.W.Frag) (n:Nat) (t:TGs):TG:=fun v σ H Q=>∃a xs,v=.ref a/\SqL K H a xs/\xs.length=n/\t xs σ H Q
theorem zJx {prog:Program}{w:World}{A:Around}{E:Value->Shared->Prop}{it t:Addr}{items:Array Value}(hne:t≠it):∀(n i:Nat) (s:Shared) (Q:List Value->Shared->Prop),s.heap.IsListIter it t i->s.heap.IsList t items->i+n<=items.size->
  (∀h',h'.IsListIter it t (i+n)->Heap.SameBut it s.heap h'->Q ((items.toList.drop i).take n) { s with heap:=h' })->wpAny (model prog w) A (draw (.ref it) n) Q E s
 | 0,i,s,Q,hit,_,_,hQ=>by
  show wpAny _ _ (pure []) Q E s
  exact xg (by simpa using hQ s.heap hit (Heap.SameBut.refl ..))
 | n+1,i,s,Q,hit,ht,hle,hQ=>by
  have hlt:i<items.size:=by nofun
  show wpAny _ _ (pyNext (.ref it) >>= _) Q E s
  refine xa (wpAny_pyNext_list_item hit ht (x:=items[i]) (by simp[hlt]) fun h₁ hit₁ hs₁=>?_)
  refine xa (xG (zJx hne n (i+1) { s with heap:=h₁ } _ hit₁ (ht.at fun o e=>hs₁.extBut t o hne e) (by nofun) fun h₂ hit₂ hs₂=>xg ?_))
  have hd:items.toList.drop i=items[i]::items.toList.drop (i+1):=by simp[List.drop_eq_getElem_cons,hlt]
  have:=hQ h₂ (by rw[show i+(n+1)=i+1+n by nofun];exact hit₂) (hs₁.trans hs₂)
  rw[hd,List.take_succ_cons]at this
  exact this
theorem zEm {prog:Program}{w:World}{A:Around}{E:Value->Shared->Prop}{s:Shared}{t:Addr}{items:Array Value}{Q:List Value->Shared->Prop}(hh:A.handled=none) (ht:s.heap.IsList t items)
  (hQ:∀h',Heap.ExtBut s.heap.objs.size s.heap h'->Q items.toList { s with heap:=h' }):wpAny (model prog w) A (unpackItems (.ref t) items.size none) Q E s:=by
 have hlt:t≠s.heap.objs.size:=by obtain⟨o,ho,_⟩:=ht;exact xu (xi ho)
 unfold unpackItems
 refine xa ?_
 ·unfold notIterableAtAll
  refine xa (uD ht.typeIs slot_list_iter.lookup ?_)
  refine xg ?_
  simp only[xR,xK]
  refine xa (xG (uS ht ?_))
  refine xa (xG (zJx hlt items.size 0 _ _ ⟨_,xv _ rfl,rfl,rfl⟩ (ht.at fun o e=>xl _ e) (by nofun) fun h₁ hit₁ hs₁=>?_))
  have hall:List.take items.size (List.drop 0 items.toList)=items.toList:=by
   rw[List.drop_zero];exact uU (by simp)
  rw[hall]
  rw[xf (by simp)]
  have ht₁:h₁.IsList t items:=ht.at fun o e=>hs₁.extBut t o hlt (xl _ e)
  refine xa (xG (wpAny_pyNext_list_end hh hit₁ ht₁ (by simp) fun h₂ he₂=>?_))
  simp only[Option.isSome_none,xR,xK]
  refine xg (hQ h₂ fun b o hb e=>he₂ b o hb (hs₁.extBut b o hb (xl _ e)))
theorem zUl {es:List Expr}{k:Nat}{t:TGs}{n:Nat}{pos:Pos}(hc:X.calm=true) (h:PGs X es t)
  (hn:(assignEach es X.env).length=n:=by rfl) (hst:(assignEach es X.env).findIdx? (·.1)=none:=by rfl):PG X (.Tuple es k pos) (gLst X.K n t):=by
 intro pins s σ H v u Q I r hw
 obtain⟨a,xs,e1,hq,hl,hw⟩:=hw
 subst e1
 cases r
 obtain⟨its,rv,ht,hz⟩:=I.list hq
 rw[assign_Tuple]
 refine xa (wpAny_standAt ?_)
 unfold unpack
 rw[hst,hn,show n=its.toArray.size by rw[xn,<- rv.length,hl]]
 refine xa (xG (zEm (I.ok.hd hc) ht.isList fun h' hx=>?_))
 have I1:Inv X pins σ H { s with heap:=h' }:=I.kept (t':=s.toks) fun b o e=>hx b o (xu (xi e)) e
 exact h pins _ σ H xs _ Q I1 (by simpa using rv) hw
end
end L2
namespace L2
open PySem PySem.Spec PyProof.Rows
structure Cal (P:Program) (w:World) (K:PySem.W.Frag) (mg:Str->Option Value) (base:Heap) (x:Str) (k:Nat) (ps:List Str) (sp:Sp):Prop where
 ex:∃f fd,FnOk P w K mg base CX0 k f fd ps sp/\mg x=some (.ref f)/\PySem.W.keepIn K (.ref f)=true/\Binds K fd ps []
section
variable {X:Cx}{x:Str}{k:Nat}{ps:List Str}{sp:Sp}{e:Expr}{es:List Expr}{t:TA}{p pos:Pos}
theorem zUu (C:Cal X.prog X.w X.K X.mg X.base x k ps sp) (hr:Room k X.A) (hg:Gl X x) (ha:PA X (e::es) t) (hdb:(x == ("__debug__":Str))=false:=by decide)
  (hs:starEach (e::es) X.env=(false,eval e X.env)::starEach es X.env:=by rfl) (hpl:(backTo pos (starEach es X.env)).any (·.1)=false:=by rfl):
  PE X (.Call (.Name x p) (e::es) [] pos) (zO1 sp [] E0 t):=by
 obtain⟨f,fd,F,hm,hk,hb⟩:=C.ex
 exact zS2 F hr hg hm hk hb .nil pass0 ha hdb hs hpl
end
structure zXe (s n:Int) (ls:List Int):Prop where
 s0:0<=s
 s1:s<2147483647
 n0:0<=n
 all:∀i∈ls,0<=i
 len:ls.length<=100
end L2
namespace L2
open PySem PySem.Spec PyProof.Rows
noncomputable def nst:Expr->Bool
 | .Starred ..=>false
 | _=>true
theorem zBg {e:Expr}{es:List Expr}{env:Env}(h:nst e=true):starEach (e::es) env=(false,eval e env)::starEach es env:=by
 cases e <;> first|rfl|cases h
theorem zF0 {env:Env}{pos:Pos}:∀{es:List Expr},es.all nst=true->(backTo pos (starEach es env)).any (·.1)=false
 | [],_=>rfl
 | e::es,h=>by
  simp only[vM,xA]at h
  rw[zBg h.1]
  show(false || (backTo pos (starEach es env)).any (·.1))=false
  rw[zF0 h.2];rfl
noncomputable def nsl:Expr->Bool
 | .Slice ..=>false
 | _=>true
theorem zOh {b:Expr}(h:nsl b=true):zNy b:=fun o i=>by cases b <;> first|rfl|cases h
noncomputable def nco:Expr->Bool
 | .ListComp ..|.SetComp ..|.DictComp ..=>false
 | _=>true
theorem zFu {e:Expr}{tg:Option Expr}{l:Nat}{env:Env}(h:nco e=true):swapsWith e tg l env=pure false:=by cases e <;> first|rfl|cases h
theorem zR7 {e:Expr}{tg:Expr}{l:Nat}{env:Env}(h:nco e=true):swapsWithSole [tg] e l env=pure false:=zFu h
theorem zO4 {e:Expr}{es:List Expr}{k:Nat}{p:Pos}{l:Nat}{env:Env}:swapsWithSole [.Tuple es k p] e l env=pure false:=by
 show swapsWith e (some (.Tuple es k p)) l env=pure false
 cases e <;> rfl
noncomputable def ntu:Expr->Bool
 | .Tuple ..=>false
 | _=>true
theorem zL8 {e:Expr}{tg:Expr}{env:Env}(h:ntu e=true):swappedStores [tg] e env=pure none:=by
 cases tg with
 | Tuple _ _ _=>cases e with
  | Tuple _ _ _=>cases h
  | _=>rfl
 | List _ _=>cases e with
  | Tuple _ _ _=>cases h
  | _=>rfl
 | _=>rfl
theorem zF3 {tg:Expr}{es:List Expr}{env:Env}(h:nst tg=true):(assignEach (tg::es) env).map (·.2)=assign tg env::(assignEach es env).map (·.2):=by cases tg <;> first|rfl|cases h
theorem zAt {env:Env}:∀{es:List Expr},es.all nst=true->(assignEach es env).length=es.length/\(assignEach es env).findIdx? (·.1)=none
 | [],_=>⟨rfl,rfl⟩
 | e::es,h=>by
  simp only[vM,xA]at h
  obtain⟨h1,h2⟩:=zAt (env:=env) h.2
  have e1:assignEach (e::es) env=(false,assign e env)::assignEach es env:=by
   have:=h.1
   cases e <;> first|rfl|cases this
  rw[e1]
  refine⟨by rw[xH,h1,xH],?_⟩
  rw[List.findIdx?_cons]
  simp[h2]
noncomputable def nse:Expr->Bool
 | .Set ..=>false
 | _=>true
theorem zFw {e:Expr}{env:Env}(h:nse e=true) (x:Value):foldedSetIterable e env x=pure x:=by cases e <;> first|rfl|cases h
noncomputable def nba:Expr->Bool
 | .Call ..=>false
 | _=>true
theorem zGs {o:Expr}{m:Str}{env:Env}(h:nba o=true):attributeBase o m env (eval o env)=eval o env:=by cases o <;> first|rfl|cases h
noncomputable def ntt:Expr->Bool
 | .UnaryOp ..|.BoolOp ..|.IfExp ..|.Compare ..=>false
 | _=>true
theorem zQv {e:Expr}{env:Env}(h:ntt e=true) (whole:Sem Value):isTrue e env whole=(do let v <- whole;standAt e.pos;holding [v] (truthy v)):=by cases e <;> first|rfl|cases h
section
variable {X:Cx}{e o i a b:Expr}{es:List Expr}{te ta tb to ti:TE}{t:TA}{p pos cpos apos:Pos}
theorem qa (ha:PE X e te) (hr:PA X es t) (h:nst e=true:=by rfl):PA X (e::es) (zQz te t):=zS3 ha hr (zBg h)
theorem qix {r:R2}(hr:IxR X r) (ha:PE X a ta) (hb:PE X b tb) (h:nsl b=true:=by rfl):PE X (.Subscript a b pos) (tOp r ta tb):=zWt hr ha hb (zOh h)
theorem qcal {x:Str}{k:Nat}{ps:List Str}{sp:Sp}(C:Cal X.prog X.w X.K X.mg X.base x k ps sp) (hr:Room k X.A) (hg:Gl X x) (ha:PA X (e::es) t) (hdb:(x == ("__debug__":Str))=false:=by decide)
  (h:(e::es).all nst=true:=by rfl):PE X (.Call (.Name x p) (e::es) [] pos) (zO1 sp [] E0 t):=by
 simp only[vM,xA]at h
 exact zUu C hr hg ha hdb (zBg h.1) (zF0 h.2)
theorem zUb {x:Str}{id:String}{r:List V->Hp->VK->Prop}(hc:zBa X (.builtin id) r) (hg:Gl X x) (hm:X.mg x=none) (hv:bootBuiltins x=some (.builtin id)) (ha:PA X (e::es) t) (hn:x≠"__name__":=by decide) (hdb:(x == ("__debug__":Str))=false:=by decide)
  (h:(e::es).all nst=true:=by rfl):PE X (.Call (.Name x p) (e::es) [] pos) (tCB r t):=by
 simp only[vM,xA]at h
 exact zOs hc hg hm hv ha hn hdb (zBg h.1) (zF0 h.2)
theorem zUa {x:Str}{T:String}{r:List V->Hp->VK->Prop}(hc:zBa X (.type T) r) (hg:Gl X x) (hm:X.mg x=none) (hv:bootBuiltins x=some (.type T)) (ha:PA X (e::es) t) (hn:x≠"__name__":=by decide) (hdb:(x == ("__debug__":Str))=false:=by decide)
  (h:(e::es).all nst=true:=by rfl):PE X (.Call (.Name x p) (e::es) [] pos) (tCB r t):=by
 simp only[vM,xA]at h
 exact zM2 hc hg hm hv ha hn hdb (zBg h.1) (zF0 h.2)
theorem qtruth (ha:PE X e te) (h:ntt e=true:=by rfl):PT X e (fun σ H Q=>te σ H fun x H1=>∃k,TruV X.K x H1 k/\Q k H1):=zOb ha (zQv h)
theorem qset {j:Nat}{x:Str}{pos':Pos}(hN:X.N.Nodup) (hi:X.N[j]?=some x) (hx:Loc X.env.scope x) (he:PE X e te) (hf:X.fn x=true\/X.env.scope.names.lookup x=some .local:=by first|exact .inl rfl|exact .inr rfl|assumption) (h:nco e=true:=by rfl):
  PS X (.Assign [.Name x pos'] e pos) (tAsg te (gName j)):=zUh hN hi hx he (zFu h) hf
theorem qasgt {ts:List Expr}{k:Nat}{tp:Pos}{g:TG}(he:PE X e te) (hg:PG X (.Tuple ts k tp) g) (h1:ntu e=true:=by rfl):PS X (.Assign [.Tuple ts k tp] e pos) (tAsg te g):=zQ2 he hg zO4 (zL8 h1) rfl
theorem qgs {tg:Expr}{ts:List Expr}{g:TG}{gs:TGs}(h1:PG X tg g) (h2:PGs X ts gs) (h:nst tg=true:=by rfl):PGs X (tg::ts) (zT2 g gs):=zOm h1 h2 (zF3 h)
theorem qtup {ts:List Expr}{k n:Nat}{gs:TGs}(hc:X.calm=true) (h:PGs X ts gs) (hn:ts.length=n:=by rfl) (h1:ts.all nst=true:=by rfl):PG X (.Tuple ts k pos) (gTup X.K n gs):=zUm hc h ((zAt h1).1.trans hn) (zAt h1).2
theorem qunl {ts:List Expr}{k n:Nat}{gs:TGs}(hc:X.calm=true) (h:PGs X ts gs) (hn:ts.length=n:=by rfl) (h1:ts.all nst=true:=by rfl):PG X (.Tuple ts k pos) (gLst X.K n gs):=zUl hc h ((zAt h1).1.trans hn) (zAt h1).2
theorem qfor {tg iter:Expr}{body:List Stmt}{wi:TI}{g:TG}{tb:TS}(hp:PassesOwn (model X.prog X.w) X.A X.env X.xe) (hc:X.calm=true) (hi:PI X tg iter wi) (hg:PG X tg g) (hb:PSs X body tb) (h:nse iter=true:=by rfl):
  PS X (.For tg iter body [] pos) (tFor wi g tb):=zUk hp hc hi hg hb (zFw h)
theorem qexpr (he:PE X e te) (h:nco e=true:=by rfl):PS X (.Expr e pos) (zQy te):=zRs he (zFu h)
theorem qlcomp {own fre:List Str}{ix:List Nat}{scope:Scope}{tg elt iter:Expr}{ifs:List Expr}{wi:TI}{g:TG}{tt:TT}(hc:X.calm=true) (S:CompScope X own fre ix scope) (hi:PI X tg iter wi)
  (hg:∀cl C s H fp,PG (zAf X (own++fre) scope cl C s H fp) tg g) (ht:∀cl C s H fp,PIfs (zAf X (own++fre) scope cl C s H fp) ifs tt) (he:∀cl C s H fp,PE (zAf X (own++fre) scope cl C s H fp) elt te)
  (h:nse iter=true:=by rfl):PE X (.ListComp elt [⟨tg,iter,ifs,0⟩] scope pos) (zI4 own ix wi g tt te):=zOp hc S hi hg ht he (zFw h)
theorem qsetc {own fre:List Str}{ix:List Nat}{scope:Scope}{j:Nat}{x:Str}{pos':Pos}{tg elt iter:Expr}{ifs:List Expr}{wi:TI}{g:TG}{tt:TT}(hN:X.N.Nodup) (hix:X.N[j]?=some x) (hx:Loc X.env.scope x)
  (hc:X.calm=true) (S:CompScope X own fre ix scope) (hi:PI X tg iter wi)
  (hg:∀cl C s H fp,PG (zAf X (own++fre) scope cl C s H fp) tg g) (ht:∀cl C s H fp,PIfs (zAf X (own++fre) scope cl C s H fp) ifs tt) (he:∀cl C s H fp,PE (zAf X (own++fre) scope cl C s H fp) elt te)
  (hsw:swapsWith (.ListComp elt [⟨tg,iter,ifs,0⟩] scope cpos) (some (.Name x pos')) pos.line X.env=pure true:=by rfl) (h:nse iter=true:=by rfl) (hf:X.fn x=true\/X.env.scope.names.lookup x=some .local:=by first|exact .inl rfl|exact .inr rfl|assumption):
  PS X (.Assign [.Name x pos'] (.ListComp elt [⟨tg,iter,ifs,0⟩] scope cpos) pos) (tAsg (zI4 own ix wi g tt te) (gName j)):=zRq hN hix hx hc S hi hg ht he hsw (zFw h) hf
theorem qrange1 {tg:Expr}{ta:TA}(hg:Gl X "range") (hm:X.mg "range"=none) (ha:PA X [a] ta) (h:nst a=true:=by rfl):PI X tg (.Call (.Name "range" p) [a] [] pos) (zSy ta):=zM0 hg hm ha (zBg h)
end
end L2
namespace L2
open PySem PySem.Spec PyProof.Rows
structure SE (X:Cx) (e:Expr) (t:TE):Prop where h:PE X e t
structure ST (X:Cx) (e:Expr) (t:TT):Prop where h:PT X e t
structure SW (X:Cx) (e:Expr) (t:TT):Prop where h:PW X e t
structure SA (X:Cx) (es:List Expr) (t:TA):Prop where h:PA X es t
structure SS (X:Cx) (st:Stmt) (t:TS):Prop where h:PS X st t
structure SSs (X:Cx) (st:List Stmt) (t:TS):Prop where h:PSs X st t
structure SG (X:Cx) (e:Expr) (t:TG):Prop where h:PG X e t
structure SGs (X:Cx) (es:List Expr) (t:TGs):Prop where h:PGs X es t
structure SI (X:Cx) (tg e:Expr) (t:TI):Prop where h:PI X tg e t
structure SIfs (X:Cx) (es:List Expr) (t:TT):Prop where h:PIfs X es t
structure SO (X:Cx) (e:Option Expr) (t:TO):Prop where h:PO X e t
section
variable {X:Cx}{e o i a b c:Expr}{es:List Expr}{te ta tb tc to ti tv td ty:TE}{t:TA}{p pos cpos apos:Pos}{tA tB':TT}
theorem pv' (i:Nat) {x:Str}{pos:Pos}(hN:X.N[i]?=some x:=by rfl) (hv:Vis X.env.scope x:=by first|exact Or.inl rfl|exact Or.inr (Or.inl rfl)|exact Or.inr (Or.inr rfl)) (hd:(x == ("__debug__":Str))=false:=by decide)
  (hcd:(x == ("__classdict__":Str))=false:=by decide):SE X (.Name x pos) (tVar i):=⟨pv i hN hv hd hcd⟩
theorem zS0 {i:Int}{j:Nat}:SE X (.Constant (.int i) j pos) (tC (.int i)):=⟨zUt⟩
theorem zUw {b:Bool}{j:Nat}:SE X (.Constant (.bool b) j pos) (tC (.bl b)):=⟨zWv⟩
theorem zUr {op:Operator}{r:R2}(ho:OpR X (binaryOp op) r) (ha:SE X a ta) (hb:SE X b tb):SE X (.BinOp a op b pos) (tOp r ta tb):=⟨zWs ho ha.h hb.h⟩
theorem zUp {op:UnaryOp}{r:V->Hp->VK->Prop}(ho:UnR X (unaryOp op) r) (ha:SE X a ta):SE X (.UnaryOp op a pos) (tUn r ta):=⟨zWr ho ha.h⟩
theorem zRy {k:Nat}(h:SA X es t):SE X (.Tuple es k pos) (tTup t):=⟨zUq h.h⟩
theorem zRz (h:SA X es t):SE X (.List es pos) (tLst t):=⟨zUs h.h⟩
theorem pe_dnewT':SE X (.Dict [] [] pos) zPv:=⟨zOq⟩
theorem zM1 {r:V->Option Int->Option Int->Hp->VK->Prop}{lo hi:Option Expr}{tl th:TO}{p2:Pos}(hr:SlR X r) (he:SE X e te) (hl:SO X lo tl) (hu:SO X hi th):SE X (.Subscript e (.Slice lo hi none p2) pos) (tSl r te tl th):=⟨zOo hr he.h hl.h hu.h⟩
theorem po_none':SO X none zL6:=⟨zRu⟩
theorem zOg (h:SE X e te):SO X (some e) (zU3 te):=⟨zRt h.h⟩
theorem pa_nil':SA X [] tNil:=⟨zUy⟩
theorem qa' (ha:SE X e te) (hr:SA X es t) (h:nst e=true:=by rfl):SA X (e::es) (zQz te t):=⟨qa ha.h hr.h h⟩
theorem qix' {r:R2}(hr:IxR X r) (ha:SE X a ta) (hb:SE X b tb) (h:nsl b=true:=by rfl):SE X (.Subscript a b pos) (tOp r ta tb):=⟨qix hr ha.h hb.h h⟩
theorem qcal' {x:Str}{k:Nat}{ps:List Str}{sp:Sp}(C:Cal X.prog X.w X.K X.mg X.base x k ps sp) (hr:Room k X.A) (hg:Gl X x) (ha:SA X (e::es) t) (hdb:(x == ("__debug__":Str))=false:=by decide)
  (h:(e::es).all nst=true:=by rfl):SE X (.Call (.Name x p) (e::es) [] pos) (zO1 sp [] E0 t):=⟨qcal C hr hg ha.h hdb h⟩
theorem zLs {x:Str}{id:String}{r:List V->Hp->VK->Prop}(hc:zBa X (.builtin id) r) (hg:Gl X x) (hm:X.mg x=none) (hv:bootBuiltins x=some (.builtin id)) (ha:SA X (e::es) t) (hn:x≠"__name__":=by decide) (hdb:(x == ("__debug__":Str))=false:=by decide)
  (h:(e::es).all nst=true:=by rfl):SE X (.Call (.Name x p) (e::es) [] pos) (tCB r t):=⟨zUb hc hg hm hv ha.h hn hdb h⟩
theorem zLr {x:Str}{T:String}{r:List V->Hp->VK->Prop}(hc:zBa X (.type T) r) (hg:Gl X x) (hm:X.mg x=none) (hv:bootBuiltins x=some (.type T)) (ha:SA X (e::es) t) (hn:x≠"__name__":=by decide) (hdb:(x == ("__debug__":Str))=false:=by decide)
  (h:(e::es).all nst=true:=by rfl):SE X (.Call (.Name x p) (e::es) [] pos) (tCB r t):=⟨zUa hc hg hm hv ha.h hn hdb h⟩
theorem zK3 {env:Env}{pos:Pos}:∀{es:List Expr},es.all nst=true->(backTo pos (starEach es env)).all (fun x=>!x.1)=true
 | [],_=>rfl
 | e::es,h=>by
  simp only[vM,xA]at h
  rw[zBg h.1]
  show(true && (backTo pos (starEach es env)).all (fun x=>!x.1))=true
  rw[zK3 h.2];rfl
theorem zUv {T name id:_}{r:V->List V->Hp->VK->Prop}(pa:PlainAttrs T) (slot:Slot T name id) (hty:typeOf (.builtin id)=pure (.type "method_descriptor")) (hm:MtR X id r) (ho:SE X o to) (ha:SA X (e::es) t) (h:nba o=true:=by rfl) (hs:(e::es).all nst=true:=by rfl)
  (hlen:decide ((e::es).length+0+0<30)=true:=by rfl) (hline:(apos.endLine == cpos.line)=true:=by rfl):SE X (.Call (.Attribute o name apos) (e::es) [] cpos) (tBM X.K T r to t):=by
 have hs':=hs
 simp only[vM,xA]at hs'
 refine⟨zWu pa slot hty hm ho.h ha.h (zGs h) ?_ hline (zBg hs'.1) (zF0 hs'.2)⟩
 rw[zK3 hs]
 exact hlen
theorem zOr {op:CmpOp}{r:R2}(ho:OpR X (compareOp op) r) (ha:SE X a ta) (hb:SE X b tb) (hm:behindInMarks op b=false):SE X (.Compare a [op] [b] pos) (tOp r ta tb):=⟨zS1 ho ha.h hb.h hm⟩
theorem zOc {op:CmpOp}{r:R2}(ho:OpR X (compareOp op) r) (ha:SE X a ta) (hb:SE X b tb) (hm:behindInMarks op b=false):ST X (.Compare a [op] [b] pos) (zU2 (tOp r ta tb)):=⟨zRn ho ha.h hb.h hm⟩
theorem zRm (ha:ST X a tA):ST X (.UnaryOp .Not a pos) (tNot tA):=⟨zUg ha.h⟩
theorem zO9 (ha:ST X a tA):SW X (.BoolOp .And [a] pos) tA:=⟨zRj ha.h⟩
theorem zRi (ha:ST X a tA):SW X (.BoolOp .Or [a] pos) tA:=⟨zUd ha.h⟩
theorem zRk (ha:ST X a tA) (hb:SW X (.BoolOp .And (b::es) pos) tB'):SW X (.BoolOp .And (a::b::es) pos) (tAnd tA tB'):=⟨zUf ha.h hb.h⟩
theorem zUe (ha:ST X a tA) (hb:SW X (.BoolOp .Or (b::es) pos) tB'):SW X (.BoolOp .Or (a::b::es) pos) (tOr tA tB'):=⟨zWp ha.h hb.h⟩
theorem zUc (h:SW X e tA):ST X e tA:=⟨h.h.pt⟩
noncomputable def tTru (K:PySem.W.Frag) (te:TE):TT:=fun σ H Q=>te σ H fun x H1=>∃k,TruV K x H1 k/\Q k H1
theorem qtruth' (ha:SE X e te) (h:ntt e=true:=by rfl):ST X e (tTru X.K te):=⟨qtruth ha.h h⟩
theorem qrange1' {tg:Expr}{ta:TA}(hg:Gl X "range") (hm:X.mg "range"=none) (ha:SA X [a] ta) (h:nst a=true:=by rfl):SI X tg (.Call (.Name "range" p) [a] [] pos) (zSy ta):=⟨qrange1 hg hm ha.h h⟩
theorem zOn {j:Nat}{x:Str}(hN:X.N.Nodup) (hi:X.N[j]?=some x) (hx:Loc X.env.scope x) (hf:X.fn x=true\/X.env.scope.names.lookup x=some .local:=by first|exact .inl rfl|exact .inr rfl|assumption):SG X (.Name x pos) (gName j):=⟨zRx hN hi hx hf⟩
theorem pgs_nil':SGs X [] gNil:=⟨zRv⟩
theorem qgs' {tg:Expr}{ts:List Expr}{g:TG}{gs:TGs}(h1:SG X tg g) (h2:SGs X ts gs) (h:nst tg=true:=by rfl):SGs X (tg::ts) (zT2 g gs):=⟨qgs h1.h h2.h h⟩
theorem qtup' {ts:List Expr}{k n:Nat}{gs:TGs}(hc:X.calm=true) (h:SGs X ts gs) (hn:ts.length=n:=by rfl) (h1:ts.all nst=true:=by rfl):SG X (.Tuple ts k pos) (gTup X.K n gs):=⟨qtup hc h.h hn h1⟩
theorem qunl' {ts:List Expr}{k n:Nat}{gs:TGs}(hc:X.calm=true) (h:SGs X ts gs) (hn:ts.length=n:=by rfl) (h1:ts.all nst=true:=by rfl):SG X (.Tuple ts k pos) (gLst X.K n gs):=⟨qunl hc h.h hn h1⟩
theorem zRw {ts:TSet}(ho:SE X o to) (hi:SE X i ti) (hs:PSet X ts) (h:nsl i=true:=by rfl):SG X (.Subscript o i pos) (gSub to ti ts):=by
 refine⟨zUn ho.h hi.h hs fun v=>?_⟩
 cases i <;> first|rfl|cases h
theorem pifs_nil':SIfs X [] tYes:=⟨zOj⟩
theorem zLw (hc:ST X c tA):SIfs X [c] tA:=⟨zOi hc.h⟩
theorem qlcomp' {own fre:List Str}{ix:List Nat}{scope:Scope}{tg elt iter:Expr}{ifs:List Expr}{wi:TI}{g:TG}{tt:TT}(hc:X.calm=true) (S:CompScope X own fre ix scope) (hi:SI X tg iter wi)
  (hg:∀cl C s H fp,SG (zAf X (own++fre) scope cl C s H fp) tg g) (ht:∀cl C s H fp,SIfs (zAf X (own++fre) scope cl C s H fp) ifs tt) (he:∀cl C s H fp,SE (zAf X (own++fre) scope cl C s H fp) elt te)
  (h:nse iter=true:=by rfl):SE X (.ListComp elt [⟨tg,iter,ifs,0⟩] scope pos) (zI4 own ix wi g tt te):=⟨qlcomp hc S hi.h (fun _ _ _ _ _=>(hg _ _ _ _ _).h) (fun _ _ _ _ _=>(ht _ _ _ _ _).h) (fun _ _ _ _ _=>(he _ _ _ _ _).h) h⟩
theorem qsetc' {own fre:List Str}{ix:List Nat}{scope:Scope}{j:Nat}{x:Str}{pos':Pos}{tg elt iter:Expr}{ifs:List Expr}{wi:TI}{g:TG}{tt:TT}(hN:X.N.Nodup) (hix:X.N[j]?=some x) (hx:Loc X.env.scope x)
  (hc:X.calm=true) (S:CompScope X own fre ix scope) (hi:SI X tg iter wi)
  (hg:∀cl C s H fp,SG (zAf X (own++fre) scope cl C s H fp) tg g) (ht:∀cl C s H fp,SIfs (zAf X (own++fre) scope cl C s H fp) ifs tt) (he:∀cl C s H fp,SE (zAf X (own++fre) scope cl C s H fp) elt te)
  (hsw:swapsWith (.ListComp elt [⟨tg,iter,ifs,0⟩] scope cpos) (some (.Name x pos')) pos.line X.env=pure true:=by rfl) (h:nse iter=true:=by rfl) (hf:X.fn x=true\/X.env.scope.names.lookup x=some .local:=by first|exact .inl rfl|exact .inr rfl|assumption):
  SS X (.Assign [.Name x pos'] (.ListComp elt [⟨tg,iter,ifs,0⟩] scope cpos) pos) (tAsg (zI4 own ix wi g tt te) (gName j)):=⟨qsetc hN hix hx hc S hi.h (fun _ _ _ _ _=>(hg _ _ _ _ _).h) (fun _ _ _ _ _=>(ht _ _ _ _ _).h) (fun _ _ _ _ _=>(he _ _ _ _ _).h) hsw h hf⟩
theorem qset' {j:Nat}{x:Str}{pos':Pos}(hN:X.N.Nodup) (hi:X.N[j]?=some x) (hx:Loc X.env.scope x) (he:SE X e te) (hf:X.fn x=true\/X.env.scope.names.lookup x=some .local:=by first|exact .inl rfl|exact .inr rfl|assumption) (h:nco e=true:=by rfl):
  SS X (.Assign [.Name x pos'] e pos) (tAsg te (gName j)):=⟨qset hN hi hx he.h hf h⟩
theorem qasgt' {ts:List Expr}{k:Nat}{tp:Pos}{g:TG}(he:SE X e te) (hg:SG X (.Tuple ts k tp) g) (h1:ntu e=true:=by rfl):SS X (.Assign [.Tuple ts k tp] e pos) (tAsg te g):=⟨qasgt he.h hg.h h1⟩
theorem qasgs' {g:TG}{sp2:Pos}(he:SE X e te) (hg:SG X (.Subscript o i sp2) g) (h2:nco e=true:=by rfl):SS X (.Assign [.Subscript o i sp2] e pos) (tAsg te g):=⟨zQ2 he.h hg.h (zR7 h2) (by cases e <;> rfl) rfl⟩
theorem zRr (he:SE X e te):SS X (.Return (some e) pos) (tRet te):=⟨zUi he.h⟩
theorem zUj {ba bb:List Stmt}{t u:TS}(hc:ST X c tA) (ha:SSs X ba t) (hb:SSs X bb u):SS X (.If c ba bb pos) (tIfS tA t u):=⟨zWq hc.h ha.h hb.h⟩
theorem zLu {body:List Stmt}{t:TS}(hp:PassesOwn (model X.prog X.w) X.A X.env X.xe) (hc:ST X c tA) (hb:SSs X body t):SS X (.While c body [] pos) (zPu tA t):=⟨zOf hp hc.h hb.h⟩
theorem qfor' {tg iter:Expr}{body:List Stmt}{wi:TI}{g:TG}{t:TS}(hp:PassesOwn (model X.prog X.w) X.A X.env X.xe) (hc:X.calm=true) (hi:SI X tg iter wi) (hg:SG X tg g) (hb:SSs X body t) (h:nse iter=true:=by rfl):
  SS X (.For tg iter body [] pos) (tFor wi g t):=⟨qfor hp hc hi.h hg.h hb.h h⟩
theorem qexpr' (he:SE X e te) (h:nco e=true:=by rfl):SS X (.Expr e pos) (zQy te):=⟨qexpr he.h h⟩
theorem pss_nil':SSs X [] zU4:=⟨zRp⟩
theorem zOd {st:Stmt}{t:TS}(h:SS X st t):SSs X [st] t:=⟨zRo h.h⟩
theorem zLt {st:Stmt}{r:List Stmt}{t u:TS}(h1:SS X st t) (h2:SSs X r u):SSs X (st::r) (tSeq t u):=⟨zOe h1.h h2.h⟩
end
end L2
namespace L2
open PySem PySem.Spec PyProof.Rows
noncomputable def BN (n:Nat) (x:Int):Prop:=x.natAbs<2 ^ n
theorem BN.neg {n:Nat}{x:Int}(h:BN n x):BN n (-x):=by unfold BN at *;lia
theorem BN.bits {x:Int}(h:BN 5000 x):Builtin.Int.intBits x<=2 ^ 20:=by
 unfold Builtin.Int.intBits
 split
 ·exact xC _
 ·rename_i hx
  have h0:x.natAbs≠0:=by
   intro z
   apply hx
   have:x=0:=by nofun
   rw[this];rfl
  have:=(Nat.log2_lt h0).mpr h
  lia
theorem BN.log {x:Int}(h:BN 5000 x):x.natAbs.log2<9000:=by
 by_cases h0:x.natAbs=0
 ·rw[h0];decide +kernel
 ·have:=(Nat.log2_lt h0).mpr h
  lia
section
variable {X:Cx}
theorem zS8:OpR X (binaryOp .Mult) (rI (fun i j=>BN 5000 i/\BN 5000 j) fun i j=>.int (i*j)):=opI fun _ _ _ _ _ _ _ hc q=>mul_int q (IntMulOk.of_bits hc.1.bits hc.2.bits)
theorem zOt:OpR X (binaryOp .FloorDiv) (rI (fun _ j=>j≠0/\BN 5000 j) fun i j=>.int (i.fdiv j)):=opI fun _ _ _ _ _ _ _ hc q=>floordiv_int hc.1 q (.inl (PyProof.noPylong_of_log2 hc.2.log))
end
noncomputable def dv (u l:Int):Int:=if l<0 then -(Int.gcd u l:Int)else(Int.gcd u l:Int)
end L2
namespace L2
open PySem PySem.Spec PyProof.Rows
section
variable {X:Cx}{pins:List (Addr × Obj)}{σ:St}{H:Hp}{s:Shared}{h':Heap}
theorem Inv.turnedT {t':Nat}{fp:List Addr}{T:Addr}{o:HO}(I:Inv X pins σ H s) (hf:∀b∈fp,FpOk X pins H b) (k:∀b o,b ∉ fp->s.heap.get? b=some o->h'.get? b=some o) (hT:s.heap.objs.size<=T)
  (new:ObjOk X.prog X.w (upd H T o) h' T o):Inv X pins σ (upd H T o) { s with heap:=h',toks:=t' }:=by
 have hn:H T=none:=I.hok.fresh hT
 have nit:∀b u,H b=some u->b ∉ fp:=fun b u e z=>by rw[(hf b z).1]at e;cases e
 refine I.step (g':=s.gens) (d':=s.drawn) (ch:=fp) (fun b hb=>⟨(hf b hb).2.2.2.1,(hf b hb).2.1,(hf b hb).2.2.2.2.1,(hf b hb).2.2.2.2.2⟩) (fun b o _ _ hc e _=>k b o hc e) (fun b o _ _ hc e _=>⟨o.slots,k b o hc e⟩)
  (fun b u _ q n=>by rw[zAd (xu (xy (xi q) hT))];exact n)
  (fun b o hc e=>⟨o,k b o hc e⟩) (fun b xs q=>by rw[zAd (zAc q hn)];exact q) (fun b u xs q=>by rw[zAd (zAc q hn)];exact q) (fun b ps q=>⟨#[],by rw[zAd (zAc q hn),q];simp⟩) (fun m hm=>?_) (fun b u e=>?_) I.bare
 ·obtain⟨o,es,ep,ho,r⟩:=hm
  exact⟨o,es,ep,k _ o (fun z=>(hf _ z).2.1 rfl) ho,r⟩
 ·by_cases hb:b=T
  ·subst hb;rw[zAi]at e;cases e;exact new
  ·rw[zAd hb]at e
   refine(I.hok b u e).stay (fun c v hc q=>k c v ?_ q) (fun c q=>by rw[zAd (zAc q hn)];exact q) fun c xs q=>by rw[zAd (zAc q hn)];exact q
   rcases hc with z|z
   ·rw[z];exact nit b u e
   ·exact nit c _ z
theorem Inv.turnedL {t':Nat}{fp:List Addr}(I:Inv X pins σ H s) (hf:∀b∈fp,FpOk X pins H b) (k:∀b o,b ∉ fp->s.heap.get? b=some o->h'.get? b=some o):Inv X pins σ H { s with heap:=h',toks:=t' }:=by
 have nit:∀b u,H b=some u->b ∉ fp:=fun b u e z=>by rw[(hf b z).1]at e;cases e
 refine I.step (g':=s.gens) (d':=s.drawn) (ch:=fp) (fun b hb=>⟨(hf b hb).2.2.2.1,(hf b hb).2.1,(hf b hb).2.2.2.2.1,(hf b hb).2.2.2.2.2⟩) (fun b o _ _ hc e _=>k b o hc e) (fun b o _ _ hc e _=>⟨o.slots,k b o hc e⟩)
  (fun _ _ _ _ n=>n) (fun b o hc e=>⟨o,k b o hc e⟩) (fun _ _ e=>e) (fun _ _ _ e=>e) (fun b ps e=>⟨#[],by rw[e];simp⟩) (fun m hm=>?_) (fun b u e=>?_) I.bare
 ·obtain⟨o,es,ep,ho,r⟩:=hm
  exact⟨o,es,ep,k _ o (fun z=>(hf _ z).2.1 rfl) ho,r⟩
 ·refine(I.hok b u e).stay (fun c v hc q=>k c v ?_ q) (fun _ q=>q) fun _ _ q=>q
  rcases hc with z|z
  ·rw[z];exact nit b u e
  ·exact nit c _ z
end
end L2
namespace TB
open PySem
noncomputable abbrev Up (l:List Nat):Prop:=l.Pairwise (·<·)
theorem zF9 {l:List Nat}(h:Up l) {i j:Nat}(hij:i<j) (hj:j<l.length):l[i]'(vT hij hj)<l[j]:=List.pairwise_iff_getElem.mp h i j _ hj hij
theorem zI3:∀(l:List Nat) (a b:Nat),Up l->(∀e,a<=e->e<b->e∈l)->b-a<=l.length
 | [],a,b,_,h=>by
  by_cases c:a<b
  ·exact absurd (h a (xh _) c) (by simp)
  ·simp;lia
 | x::xs,a,b,u,h=>by
  have ux:=vB.mp u
  by_cases c:a<b
  ·have ha:=h a (xh _) c
   rcases Nat.lt_trichotomy a x with q|q|q
   ·rcases xk.mp ha with z|z
    ·lia
    ·exact absurd (ux.1 a z) (by nofun)
   ·subst q
    have r:=zI3 xs (a+1) b ux.2 fun e h1 h2=>by
     rcases xk.mp (h e (by nofun) h2)with z|z
     ·lia
     ·exact z
    simp only[xH];lia
   ·have r:=zI3 xs a b ux.2 fun e h1 h2=>by
     rcases xk.mp (h e h1 h2)with z|z
     ·lia
     ·exact z
    simp only[xH];lia
  ·lia
theorem zTv {l:List Nat}{m:Nat}(u:Up l) (h:l.length<=m):∃e,e<=m/\e ∉ l:=by
 refine vC fun n=>?_
 have r:=zI3 l 0 (m+1) u fun e _ h2=>vC fun q=>n ⟨e,by nofun,q⟩
 lia
theorem zGr {xs:Array Nat}{j:Nat}(u:Up xs.toList):∀(f lo hi:Nat),hi-lo<=f->lo<=hi->hi<=xs.size->(∀i (q:i<xs.size),i<lo->xs[i]<j)->(∀i (q:i<xs.size),hi<=i->j<=xs[i])->
  (SetTable.below.go xs j f lo hi<=xs.size/\(∀i (q:i<xs.size),i<SetTable.below.go xs j f lo hi->xs[i]<j)/\(∀i (q:i<xs.size),SetTable.below.go xs j f lo hi<=i->j<=xs[i]))
 | 0,lo,hi,h1,h2,h3,h4,h5=>by
  have e:lo=hi:=by nofun
  subst e
  exact⟨h3,h4,h5⟩
 | f+1,lo,hi,h1,h2,h3,h4,h5=>by
  unfold SetTable.below.go
  by_cases c:lo<hi
  ·rw[xc c]
   have hm:(lo+hi) / 2<hi:=by nofun
   have hl:lo<=(lo+hi) / 2:=by nofun
   have hz:(lo+hi) / 2<xs.size:=by nofun
   have eg:xs.getD ((lo+hi) / 2) j=xs[(lo+hi) / 2]:=by simp[Array.getD,hz]
   dsimp only
   rw[eg]
   have rise:∀i k (q:i<xs.size) (r:k<xs.size),i<k->xs[i]<xs[k]:=fun i k q r hik=>by
    have:=zF9 u hik (by simpa using r)
    simpa using this
   by_cases d:xs[(lo+hi) / 2]<j
   ·rw[xc d]
    refine zGr u f _ hi (by nofun) (by nofun) h3 (fun i q hi'=>?_) h5
    rcases xN i ((lo+hi) / 2)with z|z
    ·exact vT (rise _ _ q hz z) d
    ·have:i=(lo+hi) / 2:=by nofun
     subst this;exact d
   ·rw[xf d]
    refine zGr u f lo _ (by nofun) hl (by nofun) h4 (fun i q hi'=>?_)
    rcases xN ((lo+hi) / 2) i with z|z
    ·have:=rise _ _ hz q z;lia
    ·have:i=(lo+hi) / 2:=by nofun
     subst this;lia
  ·rw[xf c]
   have e:lo=hi:=by nofun
   subst e
   exact⟨h3,h4,h5⟩
theorem zGq {xs:Array Nat}(j:Nat) (u:Up xs.toList):SetTable.below xs j<=xs.size/\(∀i (q:i<xs.size),i<SetTable.below xs j->xs[i]<j)/\(∀i (q:i<xs.size),SetTable.below xs j<=i->j<=xs[i]):=
 zGr u xs.size 0 xs.size (by nofun) (by nofun) (xh _) (fun i q h=>by nofun) (fun i q h=>by nofun)
theorem zPp {xs:Array Nat}{j k:Nat}(u:Up xs.toList) (hk:k<=xs.size) (h1:∀i (q:i<xs.size),i<k->xs[i]<j) (h2:∀i (q:i<xs.size),k<=i->j<=xs[i]):SetTable.below xs j=k:=by
 obtain⟨a,b,c⟩:=zGq j u
 rcases Nat.lt_trichotomy (SetTable.below xs j) k with z|z|z
 ·have p:=h1 _ (by nofun) z;have q:=c _ (by nofun) (xh _);lia
 ·exact z
 ·have p:=h2 k (by nofun) (xh _);have q:=b k (by nofun) z;lia
noncomputable def slotAt (xs:Array Nat) (k:Nat):Nat:=if k=0 then 0 else xs.getD (k-1) 0+1
theorem zHu {xs:Array Nat}{k:Nat}(u:Up xs.toList) (hk:k<=xs.size):SetTable.below xs (slotAt xs k)=k:=by
 have rise:∀i k (q:i<xs.size) (r:k<xs.size),i<k->xs[i]<xs[k]:=fun i k q r hik=>by
  have:=zF9 u hik (by simpa using r)
  simpa using this
 refine zPp u hk (fun i q h=>?_) (fun i q h=>?_)
 ·unfold slotAt
  rw[xf (by nofun)]
  have hz:k-1<xs.size:=by nofun
  have:xs.getD (k-1) 0=xs[k-1]:=by simp[Array.getD,hz]
  rw[this]
  rcases xN i (k-1)with z|z
  ·have:=rise _ _ q hz z;lia
  ·have:i=k-1:=by nofun
   subst this;lia
 ·unfold slotAt
  by_cases c:k=0
  ·rw[xc c];lia
  ·rw[xf c]
   have hz:k-1<xs.size:=by nofun
   have:xs.getD (k-1) 0=xs[k-1]:=by simp[Array.getD,hz]
   rw[this]
   have:=rise _ _ hz q (by nofun);lia
theorem zEg {α:Type}(xs:Array α) (p:Nat) (x:α):(SetTable.insertAt xs p x).toList=xs.toList.take p++x::xs.toList.drop p:=by
 unfold SetTable.insertAt
 simp[Array.toList_extract]
 exact uU (by simp)
theorem ins_perm {α:Type}(xs:Array α) (p:Nat) (x:α):(SetTable.insertAt xs p x).toList.Perm (x::xs.toList):=by
 rw[zEg]
 exact uV.trans (by rw[List.take_append_drop])
theorem zJp {α:Type}(xs:Array α) (p:Nat) (x:α):(SetTable.insertAt xs p x).size=xs.size+1:=by
 have:=(ins_perm xs p x).length_eq
 simpa using this
theorem ins_up {xs:Array Nat}{j:Nat}(u:Up xs.toList) (h:xs[SetTable.below xs j]?≠some j):Up (SetTable.insertAt xs (SetTable.below xs j) j).toList:=by
 obtain⟨a,b,c⟩:=zGq j u
 rw[zEg]
 have h1:∀v∈xs.toList.take (SetTable.below xs j),v<j:=fun v hv=>by
  obtain⟨i,hi,rfl⟩:=vV.mp hv
  rw[vz]at hi
  rw[List.getElem_take]
  have:=b i (by simp at hi;lia) (by nofun)
  simpa using this
 have h2:∀v∈xs.toList.drop (SetTable.below xs j),j<v:=fun v hv=>by
  obtain⟨i,hi,rfl⟩:=vV.mp hv
  rw[uQ]at hi
  rw[List.getElem_drop]
  have hz:SetTable.below xs j+i<xs.size:=by simp at hi;lia
  have h3:=c _ hz (by nofun)
  have h4:xs[SetTable.below xs j]'(by nofun)≠j:=fun e=>h (by rw[vh (by nofun),e])
  have h5:=c (SetTable.below xs j) (by nofun) (xh _)
  have h6:xs[SetTable.below xs j]'(by nofun)<=xs[SetTable.below xs j+i]:=by
   rcases Nat.eq_zero_or_pos i with z|z
   ·subst z;exact xh _
   ·have:=zF9 u (i:=SetTable.below xs j) (j:=SetTable.below xs j+i) (by nofun) (by simpa using hz)
    exact xO (by simpa using this)
  simp only[Array.getElem_toList]
  lia
 refine List.pairwise_append.mpr ⟨u.sublist (List.take_sublist _ _),vB.mpr ⟨fun v hv=>h2 v hv,u.sublist (List.drop_sublist _ _)⟩,fun p hp q hq=>?_⟩
 rcases xk.mp hq with rfl|hq
 ·exact h1 p hp
 ·exact vT (h1 p hp) (h2 q hq)
noncomputable def orb (m:Nat):Nat->Nat × Nat->Nat × Nat
 | 0,x=>x
 | L+1,x=>orb m L (SetTable.leap m x.1 x.2)
noncomputable def gs (m:Nat):Nat->Nat->Nat
 | 0,i=>i
 | k+1,i=>gs m k ((i*5+1) % (m+1))
theorem zJr (m:Nat):∀(a b i:Nat),gs m (a+b) i=gs m b (gs m a i)
 | 0,b,i=>by rw[vW];rfl
 | a+1,b,i=>by rw[show a+1+b=(a+b)+1 by nofun];exact zJr m a b _
noncomputable def Msk (m:Nat):Prop:=m=7\/m=31\/m=127\/m=511
theorem zVo {m:Nat}(h:Msk m):gs m (m+1) 0=0/\∀e,e<m+1->∃k,k<m+1/\gs m k 0=e:=by
 have t:∀(M:Nat) (f:Nat->Nat),(gs M (M+1) 0 == 0 && (List.range (M+1)).all fun e=>decide (f e<M+1) && gs M (f e) 0 == e)=true->gs M (M+1) 0=0/\∀e,e<M+1->∃k,k<M+1/\gs M k 0=e:=fun M f hh=>by
  rw[xA,ua]at hh
  refine⟨by simpa using hh.1,fun e he=>⟨f e,?_⟩⟩
  have:=hh.2 e (xY.mpr he)
  simpa using this
 rcases h with rfl|rfl|rfl|rfl
 ·exact t 7 (fun e=>((List.range 8).find? fun k=>gs 7 k 0 == e).getD 0) (by decide +kernel)
 ·exact t 31 (fun e=>((List.range 32).find? fun k=>gs 31 k 0 == e).getD 0) (by decide +kernel)
 ·exact t 127 (fun e=>((List.range 128).find? fun k=>gs 127 k 0 == e).getD 0) (by decide +kernel)
 ·exact t 511 (fun e=>((List.range 512).find? fun k=>gs 511 k 0 == e).getD 0) (by decide +kernel)
theorem zVn {m i e:Nat}(h:Msk m) (hi:i<m+1) (he:e<m+1):∃k,k<=m/\gs m k i=e:=by
 obtain⟨z,al⟩:=zVo h
 obtain⟨a,ha,rfl⟩:=al i hi
 obtain⟨b,hb,rfl⟩:=al e he
 rcases xN b a with c|c
 ·refine⟨m+1-a+b,by nofun,?_⟩
  rw[<- zJr,show a+(m+1-a+b)=(m+1)+b by nofun,zJr,z]
 ·exact⟨b-a,by nofun,by rw[<- zJr,show a+(b-a)=b by nofun]⟩
theorem zM8 (m:Nat):∀(a b:Nat) (x:Nat × Nat),orb m (a+b) x=orb m b (orb m a x)
 | 0,b,x=>by rw[vW];rfl
 | a+1,b,x=>by rw[show a+1+b=(a+b)+1 by nofun];exact zM8 m a b _
theorem zM7 (m:Nat):∀(L:Nat) (x:Nat × Nat),(orb m L x).2=x.2 / 32 ^ L
 | 0,x=>by simp[orb]
 | L+1,x=>by
  show(orb m L _).2=_
  rw[zM7 m L]
  show x.2 / 32 / 32 ^ L=_
  rw[Nat.div_div_eq_div_mul,Nat.pow_succ,Nat.mul_comm]
theorem zQ3 {m:Nat}:∀(L:Nat) (x:Nat × Nat),x.1<m+1->(orb m L x).1<m+1
 | 0,x,h=>h
 | L+1,x,h=>zQ3 L _ (vk _ (by nofun))
theorem zQ4 (m:Nat):∀(k:Nat) (x:Nat × Nat),x.2=0->(orb m k x).1=gs m k x.1
 | 0,x,h=>rfl
 | k+1,x,h=>by
  show(orb m k (SetTable.leap m x.1 x.2)).1=gs m k _
  rw[zQ4 m k _ (by show x.2 / 32=0;rw[h])]
  show gs m k ((x.1*5+1+x.2 / 32) % (m+1))=_
  rw[h]
theorem zI6 {m i p e:Nat}(h:Msk m) (hi:i<m+1) (hp:p<2 ^ 64) (he:e<m+1):∃L,L<=13+m/\(orb m L (i,p)).1=e:=by
 obtain⟨k,hk,ek⟩:=zVn h (zQ3 13 (i,p) hi) he
 have h0:(orb m 13 (i,p)).2=0:=by rw[zM7];exact Nat.div_eq_of_lt (vT hp (by decide))
 exact⟨13+k,by nofun,by rw[zM8,zQ4 m k _ h0,ek]⟩
end TB
namespace TB
open PySem
noncomputable def adv (t:SetTable):Nat->SetTable.Probe->SetTable.Probe
 | 0,p=>p
 | m+1,p=>adv t m (t.advance p)
theorem zCg (t:SetTable):∀(a b:Nat) (p:SetTable.Probe),adv t (a+b) p=adv t b (adv t a p)
 | 0,b,p=>by rw[vW];rfl
 | a+1,b,p=>by rw[show a+1+b=(a+b)+1 by nofun];exact zCg t a b _
theorem zHx (t:SetTable):∀(m:Nat) (p:SetTable.Probe),(adv t m p).dummy=p.dummy
 | 0,p=>rfl
 | m+1,p=>by
  show(adv t m (t.advance p)).dummy=_
  rw[zHx t m]
  unfold SetTable.advance
  split <;> rfl
noncomputable def beg (t:SetTable) (x:Nat × Nat) (d:Option Nat):SetTable.Probe:={ j:=x.1,more:=SetTable.runEnd t.mask x.1-x.1,i:=x.1,perturb:=x.2,dummy:=d }
theorem zGt (t:SetTable):∀(c:Nat) (p:SetTable.Probe),p.more=c->adv t (c+1) p=beg t (SetTable.leap t.mask p.i p.perturb) p.dummy
 | 0,p,h=>by
  show t.advance p=_
  unfold SetTable.advance
  rw[xf (by nofun)]
  rfl
 | c+1,p,h=>by
  show adv t (c+1) (t.advance p)=_
  have e:t.advance p={ p with j:=p.j+1,more:=p.more-1 }:=by
   unfold SetTable.advance
   rw[xc (by nofun)]
  rw[e]
  exact zGt t c _ (by show p.more-1=c;lia)
theorem zTp (t:SetTable) (x:Nat × Nat) (d:Option Nat):∃c,1<=c/\c<=10/\adv t c (beg t x d)=beg t (SetTable.leap t.mask x.1 x.2) d:=by
 refine⟨SetTable.runEnd t.mask x.1-x.1+1,by nofun,?_,zGt t _ (beg t x d) rfl⟩
 unfold SetTable.runEnd
 split <;> lia
theorem zNv (t:SetTable) (d:Option Nat):∀(L:Nat) (x:Nat × Nat),∃c,c<=10*L/\adv t c (beg t x d)=beg t (orb t.mask L x) d
 | 0,x=>⟨0,by nofun,rfl⟩
 | L+1,x=>by
  obtain⟨c,_,h1,e1⟩:=zTp t x d
  obtain⟨c',h2,e2⟩:=zNv t d L (SetTable.leap t.mask x.1 x.2)
  refine⟨c+c',by nofun,?_⟩
  rw[zCg,e1,e2]
  rfl
theorem zIu (h:Int):SetTable.bits h<2 ^ 64:=by
 unfold SetTable.bits
 have:=vD h (show(0:Int)<2 ^ 64 by decide)
 have:=vE h (show(2 ^ 64:Int)≠0 by decide)
 lia
theorem zLa {t:SetTable}{h:Int}{e:Nat}(hm:Msk t.mask) (he:e<=t.mask):∃c,c<10*SetTable.turns t.mask/\(adv t c (t.probeStart h)).j=e:=by
 obtain⟨L,hL,eL⟩:=zI6 (p:=SetTable.bits h) (i:=SetTable.bits h % (t.mask+1)) hm (vk _ (by nofun)) (zIu h) (show e<t.mask+1 by nofun)
 obtain⟨c,hc,ec⟩:=zNv t none L (SetTable.bits h % (t.mask+1),SetTable.bits h)
 refine⟨c,by unfold SetTable.turns;lia,?_⟩
 have e0:t.probeStart h=beg t (SetTable.bits h % (t.mask+1),SetTable.bits h) none:=rfl
 rw[e0,ec]
 exact eL
noncomputable def Far (t:SetTable) (p:SetTable.Probe) (m:Nat):Prop:=t.slot (adv t m p).j=.empty/\p.dummy=none
theorem zCm {t:SetTable}(hd:t.dummies=#[]) (j:Nat):t.slot j=(if t.place[SetTable.below t.place j]? == some j then .live (SetTable.below t.place j)else .empty):=by
 have e:SetTable.has t.dummies j=false:=by rw[hd];rfl
 unfold SetTable.slot
 simp only[e]
 simp
theorem zDr {t:SetTable}(hd:t.dummies=#[]) {j:Nat}:t.slot j=.empty <-> t.place[SetTable.below t.place j]?≠some j:=by
 rw[zCm hd]
 by_cases c:t.place[SetTable.below t.place j]?=some j
 ·simp[c]
 ·simp[c]
structure Tab (t:SetTable) (n:Nat) (led:Bool):Prop where
 hm:Msk t.mask
 size:t.place.size=n
 nod:t.dummies=#[]
 up:Up t.place.toList
 room:n*5<t.mask*3
 plain:t.plain=true
 led:t.led=led
theorem Tab.fill {t:SetTable}{n:Nat}{b:Bool}(T:Tab t n b):t.fill=n:=by unfold SetTable.fill;rw[T.size,T.nod];rfl
theorem Tab.fits {t:SetTable}{n:Nat}{b:Bool}(T:Tab t n b):(t.place.size != n || decide (t.fill > t.mask))=false:=by
 have:=T.room
 rw[T.fill,T.size]
 simp;lia
theorem Tab.way {t:SetTable}{n:Nat}{b:Bool}(T:Tab t n b):t.gaveWay=false:=by
 unfold SetTable.gaveWay
 rcases T.hm with e|e|e|e <;> rw[e] <;> rfl
theorem Tab.start {t:SetTable}{n:Nat}{b:Bool}(T:Tab t n b) (h:Int):∃m,m<10*SetTable.turns t.mask/\Far t (t.probeStart h) m:=by
 have hn:t.place.toList.length<=t.mask:=by have:=T.room;have:=T.size;simp;lia
 obtain⟨e,he,hne⟩:=zTv T.up hn
 obtain⟨c,hc,ec⟩:=zLa (t:=t) (h:=h) T.hm he
 refine⟨c,hc,?_,rfl⟩
 rw[ec,zDr T.nod]
 intro q
 exact hne (by
  obtain⟨hz,e'⟩:=vm.mp q
  rw[<- e']
  simp)
theorem Tab.turns {t:SetTable}{n:Nat}{b:Bool}(T:Tab t n b):10*SetTable.turns t.mask<100000:=by
 rcases T.hm with e|e|e|e <;> rw[e] <;> decide
theorem zHd (b:Bool):Tab (SetTable.fresh 0 0 b) 0 b:=⟨.inl rfl,rfl,rfl,.nil,(show 0*5<7*3 by decide),rfl,rfl⟩
structure TabP (t:SetTable) (n:Nat) (led:Bool):Prop where
 hm:Msk t.mask
 size:t.place.size=n
 nod:t.dummies=#[]
 up:Up t.place.toList
 most:(n-1)*5<t.mask*3
 plain:t.plain=true
 led:t.led=led
theorem Tab.put {t:SetTable}{n j:Nat}{b:Bool}(T:Tab t n b) (hj:t.slot j=.empty):TabP (t.put j).1 (n+1) b:=by
 have e:SetTable.has t.dummies j=false:=by rw[T.nod];rfl
 have e2:(t.put j).1={ t with place:=SetTable.insertAt t.place (SetTable.below t.place j) j }:=by
  unfold SetTable.put
  simp[e]
 rw[e2]
 exact⟨T.hm,by show(SetTable.insertAt _ _ _).size=_;rw[zJp,T.size],T.nod,ins_up T.up ((zDr T.nod).mp hj),by show(n+1-1)*5<t.mask*3;have:=T.room;simpa using this,T.plain,T.led⟩
theorem TabP.fill {t:SetTable}{n:Nat}{b:Bool}(T:TabP t n b):t.fill=n:=by unfold SetTable.fill;rw[T.size,T.nod];rfl
theorem TabP.tab {t:SetTable}{n:Nat}{b:Bool}(T:TabP t n b) (h:t.tooFull=false):Tab t n b:=by
 refine⟨T.hm,T.size,T.nod,T.up,?_,T.plain,T.led⟩
 unfold SetTable.tooFull at h
 rw[T.fill]at h
 simpa using h
theorem TabP.fits {t:SetTable}{n:Nat}{b:Bool}(T:TabP t n b):(t.place.size != n || decide (t.fill > t.mask))=false:=by
 have h:=T.most
 have hm:7<=t.mask:=by rcases T.hm with e|e|e|e <;> rw[e] <;> decide
 rw[T.fill,T.size]
 simp;lia
theorem zGg {m:Nat}{owner:Array (Option Nat)}{e:Nat}(ho:owner.getD e (some 0)=none):∀(L f:Nat) (x:Nat × Nat),L<f->(orb m L x).1=e->∃j,SetTable.layClean.free m owner f x.1 x.2=some j/\owner.getD j (some 0)=none
 | L,0,x,h,_=>by nofun
 | L,f+1,x,h,he=>by
  unfold SetTable.layClean.free
  cases hf:(List.range (SetTable.runEnd m x.1+1-x.1)).find? fun k=>(owner.getD (x.1+k) (some 0)).isNone with
  | some k=>
   have:=List.find?_some hf
   exact⟨x.1+k,rfl,by simpa using this⟩
  | none=>
   cases L with
   | zero=>
    have hx:x.1=e:=he
    have:=List.find?_eq_none.mp hf 0 (xY.mpr (by unfold SetTable.runEnd;split <;> lia))
    rw[Nat.add_zero,hx,ho]at this
    exact absurd rfl this
   | succ L=>exact zGg ho L f (SetTable.leap m x.1 x.2) (by nofun) he
theorem zI8:∀(l:List (Option Nat)),(l.filterMap id).length<l.length->∃e,e<l.length/\l[e]?=some none
 | [],h=>by simp at h
 | none::l,_=>⟨0,by simp,rfl⟩
 | some v::l,h=>by
  obtain⟨e,h1,h2⟩:=zI8 l (by simpa using h)
  exact⟨e+1,by simp;lia,by simpa using h2⟩
theorem zFx:∀(l:List (Option Nat)) (j k:Nat),l[j]?=some none->((l.set j (some k)).filterMap id).Perm (k::l.filterMap id)
 | [],j,k,h=>by simp at h
 | x::l,0,k,h=>by
  have:x=none:=by simpa using h
  subst this
  simp
 | x::l,j+1,k,h=>by
  have ih:=zFx l j k (by simpa using h)
  cases x with
  | none=>simpa using ih
  | some v=>
   simp only[List.set_cons_succ,vZ,id]
   exact(List.Perm.cons v ih).trans (List.Perm.swap _ _ _)
noncomputable def Laid (m:Nat) (acc:Option (Array (Option Nat) × Nat)) (k:Nat):Prop:=∃owner,acc=some (owner,k)/\owner.size=m+1/\(owner.toList.filterMap id).Perm (List.range k)
theorem zMm {m k:Nat}(hm:Msk m) (hk:k<=m) {owner:Array (Option Nat)}(hs:owner.size=m+1) (hp:(owner.toList.filterMap id).Perm (List.range k)) (h:Int):
  ∃j,SetTable.layClean.free m owner (SetTable.turns m) (SetTable.bits h % (m+1)) (SetTable.bits h)=some j/\Laid m (some (owner.setIfInBounds j (some k),k+1)) (k+1):=by
 obtain⟨e,h1,h2⟩:=zI8 owner.toList (by rw[hp.length_eq,vN];simp[hs];lia)
 have h1':e<owner.size:=by simpa using h1
 have ho:owner.getD e (some 0)=none:=by
  have:owner[e]?=some none:=by simpa using h2
  simp[vi,this]
 obtain⟨L,hL,eL⟩:=zI6 (p:=SetTable.bits h) (i:=SetTable.bits h % (m+1)) hm (vk _ (by nofun)) (zIu h) (show e<m+1 by nofun)
 obtain⟨j,ej,hj⟩:=zGg ho L (SetTable.turns m) (SetTable.bits h % (m+1),SetTable.bits h) (by unfold SetTable.turns;lia) eL
 refine⟨j,ej,_,rfl,by simpa using hs,?_⟩
 have hj2:owner.toList[j]?=some none:=by
  rw[vi]at hj
  cases hq:owner[j]? with
  | none=>rw[hq]at hj;cases hj
  | some v=>rw[hq]at hj;have:v=none:=hj;subst this;simpa using hq
 rw[Array.toList_setIfInBounds]
 refine(zFx _ j k hj2).trans ((List.Perm.cons k hp).trans ?_)
 rw[List.range_succ]
 exact(List.perm_append_singleton k (List.range k)).symm
theorem zJm {m:Nat}(hm:Msk m):∀(hs:List Int) (k:Nat) (acc:Option (Array (Option Nat) × Nat)),k+hs.length<=m+1->Laid m acc k->
  Laid m (hs.foldl (fun acc h=>do
   let (owner,k) <- acc
   let j <- SetTable.layClean.free m owner (SetTable.turns m) (SetTable.bits h % (m+1)) (SetTable.bits h)
   pure (owner.setIfInBounds j (some k),k+1)) acc) (k+hs.length)
 | [],k,acc,_,L=>L
 | h::hs,k,acc,hl,⟨owner,ea,h1,h2⟩=>by
  subst ea
  obtain⟨j,ej,L⟩:=zMm hm (by simp at hl;lia) h1 h2 h
  have:=zJm hm hs (k+1) _ (by simp at hl;lia) L
  rw[List.foldl_cons]
  have e2:(do
   let (owner,k) <- some (owner,k)
   let j <- SetTable.layClean.free m owner (SetTable.turns m) (SetTable.bits h % (m+1)) (SetTable.bits h)
   pure (owner.setIfInBounds j (some k),k+1))=some (owner.setIfInBounds j (some k),k+1):=by
   show(SetTable.layClean.free m owner (SetTable.turns m) (SetTable.bits h % (m+1)) (SetTable.bits h) >>= fun j=>pure (owner.setIfInBounds j (some k),k+1))=_
   rw[ej];rfl
  rw[e2,xH,show k+(hs.length+1)=k+1+hs.length by nofun]
  exact this
theorem zJk:∀(l:List (Option Nat)) (g:Nat->Nat),((List.range l.length).filterMap fun j=>((l[j]?).getD none).map fun v=>(g j,v)).map (·.2)=l.filterMap id
 | [],g=>rfl
 | x::l,g=>by
  have ih:=zJk l (fun j=>g (j+1))
  rw[xH,List.range_succ_eq_map,vZ]
  have e:((List.map Nat.succ (List.range l.length)).filterMap fun j=>(((x::l)[j]?).getD none).map fun v=>(g j,v))=(List.range l.length).filterMap fun j=>((l[j]?).getD none).map fun v=>(g (j+1),v):=by
   rw[List.filterMap_map];rfl
  cases x with
  | none=>simp only[xW,Option.getD_some,Option.map_none];rw[e,ih];rfl
  | some v=>simp only[xW,Option.getD_some,ub,xr];rw[e,ih];rfl
theorem zIc (f:Nat->Option Nat):∀(l:List Nat),Up l->Up ((l.filterMap fun j=>(f j).map fun v=>(j,v)).map (·.1))
 | [],_=>.nil
 | x::l,u=>by
  have ux:=vB.mp u
  rw[vZ]
  cases hx:f x with
  | none=>exact zIc f l ux.2
  | some v=>
   simp only[ub,xr]
   refine vB.mpr ⟨fun y hy=>?_,zIc f l ux.2⟩
   obtain⟨q,hq,rfl⟩:=xt.mp hy
   obtain⟨z,hz,ez⟩:=uq.mp hq
   cases hf:f z with
   | none=>rw[hf]at ez;cases ez
   | some w=>rw[hf]at ez;cases ez;exact ux.1 _ hz
theorem zSq {m:Nat}(hm:Msk m) {hs:Array Int}(hl:hs.size<=m) (hr:hs.size*5<m*3) (fing moves:Nat) (led:Bool):∃t order,SetTable.laid m fing moves led true hs=some (t,order)/\Tab t hs.size led/\order.toList.Perm (List.range hs.size):=by
 obtain⟨owner,e,h1,h2⟩:=zJm hm hs.toList 0 (some (Array.replicate (m+1) none,0)) (by simp;lia) ⟨_,rfl,by simp,by simp⟩
 have ec:SetTable.layClean m hs=some owner:=by
  unfold SetTable.layClean
  rw[<- Array.foldl_toList,e]
  rfl
 have es:=zJk owner.toList id
 have eg:∀j,(owner.getD j none).map (j,·)=((owner.toList[j]?).getD none).map fun v=>(id j,v):=fun j=>by
  rw[vi];simp
 refine⟨_,_,by unfold SetTable.laid;rw[ec];rfl,⟨hm,?_,rfl,?_,hr,rfl,rfl⟩,?_⟩
 ·show(List.map _ _).toArray.size=_
  rw[xn,xo,<- xo (f:=(·.2))]
  rw[<- h1] 
  rw[show owner.size=owner.toList.length by simp]
  simp only[eg]
  rw[es,h2.length_eq]
  simp
 ·show Up (List.map _ _).toArray.toList
  exact zIc _ _ (List.pairwise_lt_range)
 ·show(List.map _ _).toArray.toList.Perm _
  rw[<- h1,show owner.size=owner.toList.length by simp]
  simp only[eg]
  rw[List.toList_toArray,es]
  simpa using h2
end TB
namespace SR
open PySem PySem.W PyProof.Rows
noncomputable def TW {α:Type}(key:Nat->Nat) (n:Nat):KasT α->(α->Prop)->Prop
 | .ret a,Q=>Q a
 | .ask i j k,Q=>i<n/\j<n/\TW key n (k (decide (key i<key j))) Q
theorem TW.bind {α β:Type}{key:Nat->Nat}{n:Nat}{f:α->KasT β}{Q:β->Prop}:∀{t:KasT α},TW key n t (fun a=>TW key n (f a) Q)->TW key n (t.bind f) Q
 | .ret _,h=>h
 | .ask i j k,⟨h1,h2,h3⟩=>⟨h1,h2,TW.bind h3⟩
theorem TW.wp {α:Type}{key:Nat->Nat}{n:Nat}{cmp:Nat->Nat->(Bool->Shared->Prop)->Shared->Prop}{G:α->Shared->Prop}{s:Shared}
  (hc:∀i j (C:Bool->Shared->Prop),i<n->j<n->C (decide (key i<key j)) s->cmp i j C s):∀(t:KasT α),TW key n t (fun a=>G a s)->t.kasWp cmp G s
 | .ret _,h=>h
 | .ask i j k,⟨h1,h2,h3⟩=>hc i j _ h1 h2 (TW.wp hc _ h3)
noncomputable def Pm (n:Nat) (p:Array Nat):Prop:=p.Perm (List.range n).toArray
theorem Pm.size {n:Nat}{p:Array Nat}(h:Pm n p):p.size=n:=by have:=h.size_eq;simpa using this
theorem Pm.lt {n:Nat}{p:Array Nat}(h:Pm n p) {i:Nat}(hi:i<n):p.getD i 0<n:=by
 have hz:i<p.size:=by rw[h.size];exact hi
 have e:p.getD i 0=p[i]:=by simp[Array.getD,hz]
 rw[e]
 have:p[i]∈p:=Array.getElem_mem hz
 have:=h.mem_iff.mp this
 simpa using this
section
variable {key:Nat->Nat}{n:Nat}
noncomputable def Ky (key:Nat->Nat) (p:Array Nat) (i:Nat):Nat:=key (p.getD i 0)
noncomputable def Inc (key:Nat->Nat) (p:Array Nat) (m:Nat):Prop:=∀i j,i<=j->j<m->Ky key p i<=Ky key p j
noncomputable def Dec (key:Nat->Nat) (p:Array Nat) (m:Nat):Prop:=∀i j,i<=j->j<m->Ky key p j<=Ky key p i
theorem zI2 {p r:Array Nat}{i j:Nat}(h:p[i]?=r[j]?):Ky key p i=Ky key r j:=by
 unfold Ky
 rw[vi,vi,h]
theorem zI1 {p:Array Nat}{i j:Nat}(hj:j<=p.size) (k:Nat):Ky key (kas_rev p i j) k=if i<=k/\k<j then Ky key p (i+j-1-k)else Ky key p k:=by
 have e:=getElem?_mirror_all (i:=i) hj k
 by_cases c:i<=k/\k<j
 ·rw[xc c]at e ⊢;exact zI2 e
 ·rw[xf c]at e ⊢;exact zI2 e
theorem zQq {p:Array Nat}{k d:Nat}(hk:k<p.size) (hd:d<=k) (j:Nat):Ky key (bubble p k d) j=if j=k-d then Ky key p k else if k-d<j/\j<=k then Ky key p (j-1)else Ky key p j:=by
 have e:=getElem?_bubble hk d hd j
 by_cases c:j=k-d
 ·rw[xc c]at e ⊢;exact zI2 e
 ·rw[xf c]at e ⊢
  by_cases c':k-d<j/\j<=k
  ·rw[xc c']at e ⊢;exact zI2 e
  ·rw[xf c']at e ⊢;exact zI2 e
theorem Pm.rev {p:Array Nat}(h:Pm n p) (i j:Nat):Pm n (kas_rev p i j):=(mirror_perm p i j _).trans h
theorem ask_ {α:Type}{i j:Nat}{k:Bool->KasT α}{Q:α->Prop}(hi:i<n) (hj:j<n) (h1:key i<key j->TW key n (k true) Q) (h2:¬ key i<key j->TW key n (k false) Q):TW key n (.ask i j k) Q:=by
 refine⟨hi,hj,?_⟩
 by_cases c:key i<key j
 ·rw[xq c];exact h1 c
 ·rw[xj c];exact h2 c
theorem asc_ {p:Array Nat}(hp:Pm n p) {nrem:Nat}(hn:nrem<=n) {Q:Nat->Prop}:∀(f m:Nat),1<=m->m+f=nrem->Inc key p m->
  (∀m',m<=m'->m'<=nrem->Inc key p m'->(m'<nrem->Ky key p m'<Ky key p (m' - 1))->Q m')->TW key n (kas_asc p f m) Q
 | 0,m,h1,h2,h3,h=>h m (xh _) (by nofun) h3 (by nofun)
 | f+1,m,h1,h2,h3,h=>by
  refine ask_ (hp.lt (by nofun)) (hp.lt (by nofun)) (fun c=>?_) (fun c=>?_)
  ·exact h m (xh _) (by nofun) h3 fun _=>c
  ·refine asc_ hp hn f (m+1) (by nofun) (by nofun) (fun i j hij hj=>?_) fun m' a b c d=>h m' (by nofun) b c d
   have c':Ky key p (m-1)<=Ky key p m:=uA c
   rcases xN j m with z|z
   ·exact h3 i j hij z
   ·have ej:j=m:=by nofun
    subst ej
    rcases xN i j with y|y
    ·exact xm (h3 i (j-1) (by nofun) (by nofun)) c'
    ·have:i=j:=by nofun
     subst this;exact xh _
structure Fall (key:Nat->Nat) (n:Nat) (p:Array Nat) (m q:Nat):Prop where
 pm:Pm n p
 dec:Dec key p m
 le:q+1<=m
 eq:∀i,m-(q+1)<=i->i<m->Ky key p i=Ky key p (m-1)
theorem Fall.turned {p:Array Nat}{m q:Nat}(h:Fall key n p m q) (hm:m<=n):∀k,Ky key (kas_rev p (m-(q+1)) m) k=Ky key p k:=fun k=>by
 have:=h.le
 rw[zI1 (by rw[h.pm.size];exact hm)]
 split
 ·rw[h.eq _ (by nofun) (by nofun),h.eq k (by nofun) (by nofun)]
 ·rfl
theorem Dec.more {p r:Array Nat}{m:Nat}(h:Dec key p m) (hm:1<=m) (e:∀k,Ky key r k=Ky key p k) (c:Ky key p m<=Ky key p (m-1)):Dec key r (m+1):=fun i j hij hj=>by
 rw[e,e]
 rcases xN j m with z|z
 ·exact h i j hij z
 ·have ej:j=m:=by nofun
  subst ej
  rcases xN i j with y|y
  ·exact xm c (h i (j-1) (by nofun) (by nofun))
  ·have:i=j:=by nofun
   subst this;exact xh _
theorem desc_ {nrem:Nat}(hn:nrem<=n) {Q:Array Nat × Nat × Nat->Prop}:∀(f:Nat) (p:Array Nat) (m q:Nat),m+f=nrem->Fall key n p m q->
  (∀p' m' q',m'<=nrem->Fall key n p' m' q'->Q (p',m',q'))->TW key n (kas_desc f p m q) Q
 | 0,p,m,q,h1,h2,h=>h p m q (by nofun) h2
 | f+1,p,m,q,h1,h2,h=>by
  have hl:=h2.le
  refine ask_ (h2.pm.lt (by nofun)) (h2.pm.lt (by nofun)) (fun c=>?_) (fun c=>?_)
  ·rw[xc rfl]
   have c':Ky key p m<=Ky key p (m-1):=xO c
   have one:∀r:Array Nat,∀i,m+1-(0+1)<=i->i<m+1->Ky key r i=Ky key r (m+1-1):=fun r i a b=>by
    have:i=m+1-1:=by nofun
    rw[this]
   by_cases hq:q > 0
   ·rw[xc hq]
    exact desc_ hn f _ (m+1) 0 (by nofun) ⟨h2.pm.rev _ _,h2.dec.more (by nofun) (h2.turned (by nofun)) c',by nofun,one _⟩ h
   ·rw[xf hq]
    exact desc_ hn f _ (m+1) 0 (by nofun) ⟨h2.pm,h2.dec.more (by nofun) (fun _=>rfl) c',by nofun,one _⟩ h
  ·rw[xf (by decide)]
   refine ask_ (h2.pm.lt (by nofun)) (h2.pm.lt (by nofun)) (fun d=>?_) (fun d=>?_)
   ·rw[xc rfl];exact h p m q (by nofun) h2
   ·rw[xf (by decide)]
    have e1:Ky key p (m-1)<=Ky key p m:=uA c
    have e2:Ky key p m<=Ky key p (m-1):=uA d
    refine desc_ hn f _ (m+1) (q+1) (by nofun) ⟨h2.pm,h2.dec.more (by nofun) (fun _=>rfl) e2,by nofun,fun i a b=>?_⟩ h
    show Ky key p i=Ky key p m
    rcases xN i m with z|z
    ·rw[h2.eq i (by nofun) z];lia
    ·have:i=m:=by nofun
     rw[this]
theorem tail3_ {nrem m:Nat}(hn:nrem<=n) {p:Array Nat}(hp:Pm n p) (h1:1<=m) (hm:m<=nrem) (hd:Dec key p m) {Q:Nat × Array Nat->Prop}
  (h:∀m' p',1<=m'->m'<=nrem->Pm n p'->Inc key p' m'->Q (m',p')):TW key n (kas_tail3 m nrem p) Q:=by
 unfold kas_tail3
 refine TW.bind (asc_ (hp.rev 0 m) hn (nrem-m) m h1 (by nofun) (fun i j hij hj=>?_) fun m' a b c _=>h m' _ (by nofun) b (hp.rev 0 m) c)
 rw[zI1 (by rw[hp.size];lia),zI1 (by rw[hp.size];lia),xc ⟨by nofun,by nofun⟩,xc ⟨by nofun,by nofun⟩]
 exact hd _ _ (by nofun) (by nofun)
theorem zHk {nrem m:Nat}(hn:nrem<=n) {p:Array Nat}(hp:Pm n p) (h1:1<=m) (hm:m+1<=nrem) (heq:∀i,i<m->Ky key p i=Ky key p 0) (hl:Ky key p m<Ky key p (m-1)) {Q:Nat × Array Nat->Prop}
  (h:∀m' p',1<=m'->m'<=nrem->Pm n p'->Inc key p' m'->Q (m',p')):TW key n (kas_descPart m nrem p) Q:=by
 unfold kas_descPart
 have hd:Dec key p (m+1):=Dec.more (p:=p) (fun i j hij hj=>by rw[heq i (by nofun),heq j hj];exact xh _) h1 (fun _=>rfl) (xO hl)
 refine TW.bind (desc_ hn _ p (m+1) 0 (by nofun) ⟨hp,hd,by nofun,fun i a b=>congrArg (Ky key p) (by nofun)⟩ fun p' m' q' hm' F=>?_)
 have:=F.le
 dsimp only
 by_cases c:q' > 0
 ·rw[xc c]
  exact tail3_ hn (F.pm.rev _ _) (by nofun) hm' (fun i j hij hj=>by rw[F.turned (by nofun),F.turned (by nofun)];exact F.dec i j hij hj) h
 ·rw[xf c]
  exact tail3_ hn F.pm (by nofun) hm' F.dec h
theorem count_ {nrem:Nat}(h1:1<=nrem) (hn:nrem<=n) {p:Array Nat}(hp:Pm n p) {Q:Nat × Array Nat->Prop}
  (h:∀m' p',1<=m'->m'<=nrem->Pm n p'->Inc key p' m'->Q (m',p')):TW key n (kas_count nrem p) Q:=by
 unfold kas_count
 refine TW.bind (asc_ hp hn (nrem-1) 1 (by nofun) (by nofun) (fun i j hij hj=>Nat.le_of_eq (congrArg (Ky key p) (by nofun))) fun m a b c d=>?_)
 by_cases e:(m == nrem)=true
 ·rw[xc e]
  exact h m p a b hp c
 ·rw[xf e]
  have hlt:m<nrem:=by
   have:m≠nrem:=by simpa using e
   lia
  by_cases g:m > 1
  ·rw[xc g]
   refine ask_ (hp.lt (by nofun)) (hp.lt (by nofun)) (fun _=>?_) (fun z=>?_)
   ·rw[xc rfl];exact h m p a b hp c
   ·rw[xf (by decide)]
    have z':Ky key p (m-1)<=Ky key p 0:=uA z
    have al:∀i,i<m->Ky key p i=Ky key p 0:=fun i hi=>by
     have:=c 0 i (by nofun) hi
     have:=c i (m-1) (by nofun) (by nofun)
     lia
    have rv:∀i,i<m->Ky key (kas_rev p 0 m) i=Ky key p 0:=fun i hi=>by
     rw[zI1 (by rw[hp.size];lia),xc ⟨by nofun,hi⟩];exact al _ (by nofun)
    refine zHk hn (hp.rev 0 m) a (by nofun) (fun i hi=>?_) ?_ h
    ·rw[rv i hi,rv 0 (by nofun)]
    ·rw[rv (m-1) (by nofun),zI1 (by rw[hp.size];lia),xf (by nofun)]
     have:=d hlt
     rw[al (m-1) (by nofun)]at this
     exact this
  ·rw[xf g]
   have em:m=1:=by nofun
   subst em
   exact zHk hn hp (by nofun) (by nofun) (fun i hi=>by rw[show i=0 by nofun]) (d hlt) h
theorem place_ {p:Array Nat}(hp:Pm n p) {k:Nat}(hk:k<n) {Q:Nat->Prop}(hI:Inc key p k):∀(f l r:Nat),r-l<=f->l<=r->r<=k->(∀i,i<l->Ky key p i<=Ky key p k)->(∀i,r<=i->i<k->Ky key p k<Ky key p i)->
  (∀l,l<=k->(∀i,i<l->Ky key p i<=Ky key p k)->(∀i,l<=i->i<k->Ky key p k<Ky key p i)->Q l)->TW key n (kas_place p k f l r) Q
 | 0,l,r,h1,h2,h3,h4,h5,h=>by
  have:l=r:=by nofun
  subst this
  exact h l h3 h4 h5
 | f+1,l,r,h1,h2,h3,h4,h5,h=>by
  unfold kas_place
  by_cases c:l >= r
  ·rw[xc c]
   have:l=r:=by nofun
   subst this
   exact h l h3 h4 h5
  ·rw[xf c]
   refine ask_ (hp.lt hk) (hp.lt (by nofun)) (fun z=>?_) (fun z=>?_)
   ·rw[xc rfl]
    have z':Ky key p k<Ky key p ((l+r) / 2):=z
    exact place_ hp hk hI f l _ (by nofun) (by nofun) (by nofun) h4 (fun i a b=>xy z' (hI _ _ a b)) h
   ·rw[xf (by decide)]
    have z':Ky key p ((l+r) / 2)<=Ky key p k:=uA z
    exact place_ hp hk hI f _ r (by nofun) (by nofun) h3 (fun i a=>xm (hI i ((l+r) / 2) (by nofun) (by nofun)) z') h5 h
theorem bin_ {Q:Array Nat->Prop}:∀(f:Nat) (p:Array Nat) (k:Nat),k+f=n->Pm n p->Inc key p k->(∀p',Pm n p'->Inc key p' n->Q p')->TW key n (kas_bin f p k) Q
 | 0,p,k,h1,hp,hI,h=>h p hp ((show k=n by nofun) ▸ hI)
 | f+1,p,k,h1,hp,hI,h=>by
  refine TW.bind (place_ hp (by nofun) hI k 0 k (by nofun) (by nofun) (xh _) (fun i a=>by nofun) (fun i a b=>by nofun) fun l hl a b=>?_)
  refine bin_ f _ (k+1) (by nofun) ((bubble_perm p k (k-l)).trans hp) (fun i j hij hj=>?_) h
  have hs:k<p.size:=by rw[hp.size];lia
  rw[zQq hs (by nofun),zQq hs (by nofun)]
  have el:k-(k-l)=l:=by nofun
  rw[el]
  by_cases c1:i=l
  ·rw[xc c1]
   by_cases c2:j=l
   ·rw[xc c2];exact xh _
   ·rw[xf c2,xc ⟨by nofun,by nofun⟩];exact xO (b _ (by nofun) (by nofun))
  ·rw[xf c1]
   by_cases c2:l<i/\i<=k
   ·rw[xc c2,xf (by nofun),xc ⟨by nofun,by nofun⟩]
    exact hI _ _ (by nofun) (by nofun)
   ·rw[xf c2]
    by_cases c3:j=l
    ·rw[xc c3];exact a i (by nofun)
    ·rw[xf c3]
     by_cases c4:l<j/\j<=k
     ·rw[xc c4];exact hI _ _ (by nofun) (by nofun)
     ·rw[xf c4];exact hI _ _ hij (by nofun)
theorem sort_ (hn:1<=n) {Q:Array Nat->Prop}(h:∀p,Pm n p->Inc key p n->Q p):TW key n (kas_sort n) Q:=by
 unfold kas_sort
 refine TW.bind (count_ hn (xh _) (Array.Perm.refl _) fun m p h1 h2 hp hI=>?_)
 dsimp only
 by_cases c:m<n
 ·rw[xc c,show max m 1=m by nofun]
  exact bin_ _ p m (by nofun) hp hI h
 ·rw[xf c]
  exact h p hp ((show m=n by nofun) ▸ hI)
end
end SR
namespace TB
open PySem
theorem zDq {t t':SetTable}(h:t.mask=t'.mask):∀(m:Nat) (p:SetTable.Probe),adv t m p=adv t' m p
 | 0,_=>rfl
 | m+1,p=>by
  show adv t m (t.advance p)=adv t' m (t'.advance p)
  have e:t.advance p=t'.advance p:=by unfold SetTable.advance;rw[h]
  rw[e];exact zDq h m _
theorem zCy {t t':SetTable}(h:t.mask=t'.mask) (x:Int):t.probeStart x=t'.probeStart x:=by unfold SetTable.probeStart;rw[h]
theorem zOy {xs:Array Nat}{j:Nat}(u:Up xs.toList):xs[SetTable.below xs j]?=some j <-> j∈xs.toList:=by
 constructor
 ·intro h
  obtain⟨z,e⟩:=vm.mp h
  rw[<- e];simp
 ·intro h
  obtain⟨i,hi,e⟩:=vV.mp h
  have hi':i<xs.size:=by simpa using hi
  have e':xs[i]=j:=by simpa using e
  obtain⟨a,b,c⟩:=zGq j u
  have h1:¬ i<SetTable.below xs j:=fun q=>by have:=b i hi' q;lia
  have h2:¬ SetTable.below xs j<i:=fun q=>by
   have h3:=c _ (by nofun) (xh _)
   have:=zF9 u q (by simpa using hi')
   have:xs[SetTable.below xs j]'(by nofun)<xs[i]:=by simpa using this
   lia
  have h3:SetTable.below xs j=i:=by nofun
  rw[h3,vh hi',e']
theorem zHj {t:SetTable}{n:Nat}{b:Bool}(T:Tab t n b) (j:Nat):t.slot j=.empty <-> j ∉ t.place.toList:=by
 rw[zDr T.nod,ne_eq,zOy T.up]
noncomputable def Chn (t:SetTable) (h:Int) (j:Nat):Prop:=∃m,(adv t m (t.probeStart h)).j=j/\∀m',m'<m->(adv t m' (t.probeStart h)).j∈t.place.toList
noncomputable def Chs (t:SetTable) (hs:List Int):Prop:=∀q∈t.place.toList.zip hs,Chn t q.2 q.1
theorem Chn.grow {t t':SetTable}{h:Int}{j:Nat}(c:Chn t h j) (hm:t.mask=t'.mask) (hp:∀j∈t.place.toList,j∈t'.place.toList):Chn t' h j:=by
 obtain⟨m,e,al⟩:=c
 refine⟨m,by rw[<- zCy hm,<- zDq hm];exact e,fun m' hm'=>?_⟩
 rw[<- zCy hm,<- zDq hm]
 exact hp _ (al m' hm')
theorem zKz {α β:Type}:∀(p:Nat) (a:List α) (b:List β) (x:α) (y:β),a.length=b.length->∀q∈(a.take p++x::a.drop p).zip (b.take p++y::b.drop p),q=(x,y)\/q∈a.zip b
 | 0,a,b,x,y,h,q,hq=>by
  simp only[List.take_zero,List.nil_append,List.drop_zero,uc]at hq
  exact xk.mp hq
 | p+1,[],[],x,y,h,q,hq=>by
  simp at hq
  exact .inl hq
 | p+1,c::a,d::b,x,y,h,q,hq=>by
  simp only[List.take_succ_cons,List.drop_succ_cons,List.cons_append,uc]at hq
  rcases xk.mp hq with rfl|hq
  ·exact .inr (xM)
  ·rcases zKz p a b x y (by simpa using h) q hq with z|z
   ·exact .inl z
   ·exact .inr (xZ _ z)
 | p+1,[],_::_,x,y,h,q,hq=>by simp at h
 | p+1,_::_,[],x,y,h,q,hq=>by simp at h
theorem zRl {t:SetTable}{n j M:Nat}{b:Bool}{hs:List Int}{h:Int}(T:Tab t n b) (hn:hs.length=n) (C:Chs t hs) (hj:t.slot j=.empty) (hM:(adv t M (t.probeStart h)).j=j) (al:∀m',m'<M->(adv t m' (t.probeStart h)).j∈t.place.toList):
  Chs (t.put j).1 (hs.take (t.put j).2++h::hs.drop (t.put j).2)/\(t.put j).2=SetTable.below t.place j:=by
 have e:SetTable.has t.dummies j=false:=by rw[T.nod];rfl
 have e2:t.put j=({ t with place:=SetTable.insertAt t.place (SetTable.below t.place j) j },SetTable.below t.place j):=by
  unfold SetTable.put
  simp[e]
 rw[e2]
 have pl:({ t with place:=SetTable.insertAt t.place (SetTable.below t.place j) j }:SetTable).place.toList=t.place.toList.take (SetTable.below t.place j)++j::t.place.toList.drop (SetTable.below t.place j):=zEg _ _ _
 have sub:∀i∈t.place.toList,i∈({ t with place:=SetTable.insertAt t.place (SetTable.below t.place j) j }:SetTable).place.toList:=fun i hi=>(ins_perm t.place _ j).mem_iff.mpr (xZ _ hi)
 refine⟨fun q hq=>?_,rfl⟩
 rw[pl]at hq
 rcases zKz _ _ _ _ _ (by simp[T.size,hn]) q hq with rfl|z
 ·exact Chn.grow (t:=t) ⟨M,hM,al⟩ rfl sub
 ·exact(C q z).grow rfl sub
theorem zK4 (t:SetTable):∀(c:Nat) (p:SetTable.Probe),c<=p.more->(adv t c p).j=p.j+c
 | 0,p,_=>rfl
 | c+1,p,h=>by
  show(adv t c (t.advance p)).j=_
  have e:t.advance p={ p with j:=p.j+1,more:=p.more-1 }:=by
   unfold SetTable.advance
   rw[xc (by nofun)]
  rw[e,zK4 t c _ (by show c<=p.more-1;lia)]
  show p.j+1+c=p.j+(c+1)
  lia
theorem zJs {t:SetTable}{owner:Array (Option Nat)}:∀(f:Nat) (x:Nat × Nat) (j:Nat),SetTable.layClean.free t.mask owner f x.1 x.2=some j->
  ∃m,(adv t m (beg t x none)).j=j/\∀m',m'<m->owner.getD (adv t m' (beg t x none)).j (some 0)≠none
 | 0,x,j,h=>by cases h
 | f+1,x,j,h=>by
  unfold SetTable.layClean.free at h
  have rl:SetTable.runEnd t.mask x.1+1-x.1=(beg t x none).more+1:=by
   show _=SetTable.runEnd t.mask x.1-x.1+1
   unfold SetTable.runEnd;split <;> lia
  rw[rl]at h
  cases hf:(List.range ((beg t x none).more+1)).find? fun k=>(owner.getD (x.1+k) (some 0)).isNone with
  | some k=>
   rw[hf]at h
   have ej:x.1+k=j:=xD h
   obtain⟨h1,h2,h3⟩:=List.find?_range_eq_some.mp hf
   have hk:k<(beg t x none).more+1:=xY.mp h2
   refine⟨k,by rw[zK4 t k _ (by nofun)];exact ej,fun m' hm'=>?_⟩
   rw[zK4 t m' _ (by nofun)]
   have:=h3 m' hm'
   intro z
   have z':owner.getD (x.1+m') (some 0)=none:=z
   rw[z']at this
   simp at this
  | none=>
   rw[hf]at h
   obtain⟨m,e,al⟩:=zJs f (SetTable.leap t.mask x.1 x.2) j h
   refine⟨(beg t x none).more+1+m,by rw[zCg,zGt t _ _ rfl];exact e,fun m' hm'=>?_⟩
   rcases xN m' ((beg t x none).more+1)with z|z
   ·rw[zK4 t m' _ (by nofun)]
    have:=List.find?_eq_none.mp hf m' (xY.mpr z)
    intro w
    have w':owner.getD (x.1+m') (some 0)=none:=w
    rw[w']at this
    simp at this
   ·obtain⟨c,rfl⟩:∃c,m'=(beg t x none).more+1+c:=⟨m' - ((beg t x none).more+1),by nofun⟩
    rw[zCg,zGt t _ _ rfl]
    exact al c (by nofun)
end TB
namespace TB
open PySem
theorem zPz (m i:Nat) (h:i<=m):SetTable.runEnd m i<=m:=by unfold SetTable.runEnd;split <;> lia
theorem zQ0 (m i:Nat):i<=SetTable.runEnd m i:=by unfold SetTable.runEnd;split <;> lia
theorem zQp (t:SetTable):∀(m:Nat) (p:SetTable.Probe),p.j+p.more<=t.mask->(adv t m p).j<=t.mask
 | 0,p,h=>by show p.j<=_;lia
 | m+1,p,h=>by
  refine zQp t m (t.advance p) ?_
  unfold SetTable.advance
  by_cases c:p.more > 0
  ·rw[xc c];show p.j+1+(p.more-1)<=_;lia
  ·rw[xf c]
   have:(p.i*5+1+p.perturb / 32) % (t.mask+1)<t.mask+1:=vk _ (by nofun)
   show(p.i*5+1+p.perturb / 32) % (t.mask+1)+(SetTable.runEnd t.mask ((p.i*5+1+p.perturb / 32) % (t.mask+1))-(p.i*5+1+p.perturb / 32) % (t.mask+1))<=t.mask
   have a:=zPz t.mask ((p.i*5+1+p.perturb / 32) % (t.mask+1)) (by nofun)
   have b:=zQ0 t.mask ((p.i*5+1+p.perturb / 32) % (t.mask+1))
   lia
theorem zO2 (t:SetTable) (h:Int) (m:Nat):(adv t m (t.probeStart h)).j<=t.mask:=by
 refine zQp t m _ ?_
 have:SetTable.bits h % (t.mask+1)<t.mask+1:=vk _ (by nofun)
 show SetTable.bits h % (t.mask+1)+(SetTable.runEnd t.mask (SetTable.bits h % (t.mask+1))-SetTable.bits h % (t.mask+1))<=t.mask
 have a:=zPz t.mask (SetTable.bits h % (t.mask+1)) (by nofun)
 have b:=zQ0 t.mask (SetTable.bits h % (t.mask+1))
 lia
noncomputable def OwnC (t:SetTable) (hs:List Int) (owner:Array (Option Nat)):Prop:=∀j v,owner[j]?=some (some v)->∃m,(adv t m (t.probeStart (hs.getD v 0))).j=j/\∀m',m'<m->owner.getD (adv t m' (t.probeStart (hs.getD v 0))).j (some 0)≠none
noncomputable def zTq (t:SetTable) (hs:List Int) (acc:Option (Array (Option Nat) × Nat)) (k:Nat):Prop:=∃owner,acc=some (owner,k)/\owner.size=t.mask+1/\(owner.toList.filterMap id).Perm (List.range k)/\OwnC t hs owner
theorem zKh {t:SetTable}{hs:List Int}{k:Nat}(hm:Msk t.mask) (hk:k<=t.mask) {owner:Array (Option Nat)}(hz:owner.size=t.mask+1) (hp:(owner.toList.filterMap id).Perm (List.range k)) (C:OwnC t hs owner) {h:Int}(eh:hs.getD k 0=h):
  ∃j,SetTable.layClean.free t.mask owner (SetTable.turns t.mask) (SetTable.bits h % (t.mask+1)) (SetTable.bits h)=some j/\zTq t hs (some (owner.setIfInBounds j (some k),k+1)) (k+1):=by
 obtain⟨e,h1,h2⟩:=zI8 owner.toList (by rw[hp.length_eq,vN];simp[hz];lia)
 have h1':e<owner.size:=by simpa using h1
 have ho:owner.getD e (some 0)=none:=by
  have:owner[e]?=some none:=by simpa using h2
  simp[vi,this]
 obtain⟨L,hL,eL⟩:=zI6 (p:=SetTable.bits h) (i:=SetTable.bits h % (t.mask+1)) hm (vk _ (by nofun)) (zIu h) (show e<t.mask+1 by nofun)
 obtain⟨j,ej,hj⟩:=zGg ho L (SetTable.turns t.mask) (SetTable.bits h % (t.mask+1),SetTable.bits h) (by unfold SetTable.turns;lia) eL
 have hj1:owner[j]?=some none:=by
  rw[vi]at hj
  cases hq:owner[j]? with
  | none=>rw[hq]at hj;cases hj
  | some v=>rw[hq]at hj;have:v=none:=hj;subst this;rfl
 have hj2:owner.toList[j]?=some none:=by simpa using hj1
 have hjz:j<owner.size:=(vm.mp hj1).1
 have gd:∀i,owner.getD i (some 0)≠none->(owner.setIfInBounds j (some k)).getD i (some 0)≠none:=fun i hi=>by
  rw[vi]at hi ⊢
  rw[Array.getElem?_setIfInBounds]
  by_cases c:j=i
  ·rw[xc c];split <;> simp
  ·rw[xf c];exact hi
 refine⟨j,ej,_,rfl,by simpa using hz,?_,fun i v hv=>?_⟩
 ·rw[Array.toList_setIfInBounds]
  refine(zFx _ j k hj2).trans ((List.Perm.cons k hp).trans ?_)
  rw[List.range_succ]
  exact(List.perm_append_singleton k (List.range k)).symm
 ·rw[Array.getElem?_setIfInBounds]at hv
  by_cases c:j=i
  ·rw[xc c,xc hjz]at hv
   have ev:k=v:=by simpa using hv
   subst ev c
   obtain⟨m,em,al⟩:=zJs _ (SetTable.bits h % (t.mask+1),SetTable.bits h) j ej
   rw[eh]
   exact⟨m,em,fun m' hm'=>gd _ (al m' hm')⟩
  ·rw[xf c]at hv
   obtain⟨m,em,al⟩:=C i v hv
   exact⟨m,em,fun m' hm'=>gd _ (al m' hm')⟩
theorem zH9 {t:SetTable}(hm:Msk t.mask) (hs0:List Int):∀(hs:List Int) (k:Nat) (acc:Option (Array (Option Nat) × Nat)),k+hs.length<=t.mask+1->(∀i,hs.getD i 0=hs0.getD (k+i) 0)->zTq t hs0 acc k->
  zTq t hs0 (hs.foldl (fun acc h=>do
   let (owner,k) <- acc
   let j <- SetTable.layClean.free t.mask owner (SetTable.turns t.mask) (SetTable.bits h % (t.mask+1)) (SetTable.bits h)
   pure (owner.setIfInBounds j (some k),k+1)) acc) (k+hs.length)
 | [],k,acc,_,_,L=>L
 | h::hs,k,acc,hl,he,⟨owner,ea,h1,h2,h3⟩=>by
  subst ea
  obtain⟨j,ej,L⟩:=zKh hm (by simp at hl;lia) h1 h2 h3 (h:=h) (by have:=he 0;simpa using this.symm)
  have:=zH9 hm hs0 hs (k+1) _ (by simp at hl;lia) (fun i=>by have:=he (i+1);rw[show k+1+i=k+(i+1) by nofun];simpa using this) L
  rw[List.foldl_cons]
  have e2:(do
   let (owner,k) <- some (owner,k)
   let j <- SetTable.layClean.free t.mask owner (SetTable.turns t.mask) (SetTable.bits h % (t.mask+1)) (SetTable.bits h)
   pure (owner.setIfInBounds j (some k),k+1))=some (owner.setIfInBounds j (some k),k+1):=by
   show(SetTable.layClean.free t.mask owner (SetTable.turns t.mask) (SetTable.bits h % (t.mask+1)) (SetTable.bits h) >>= fun j=>pure (owner.setIfInBounds j (some k),k+1))=_
   rw[ej];rfl
  rw[e2,xH,show k+(hs.length+1)=k+1+hs.length by nofun]
  exact this
theorem zP2 {m:Nat}(hm:Msk m) {hs:Array Int}(hl:hs.size<=m) (hr:hs.size*5<m*3) (fing moves:Nat) (led:Bool):∃t order,SetTable.laid m fing moves led true hs=some (t,order)/\Tab t hs.size led/\order.toList.Perm (List.range hs.size)/\Chs t (order.toList.map fun k=>hs.toList.getD k 0):=by
 let t0:SetTable:={ mask:=m,place:=#[],dummies:=#[],finger:=fing,led:=led,moves:=moves,plain:=true }
 obtain⟨owner,e,h1,h2,h3⟩:=zH9 (t:=t0) hm hs.toList hs.toList 0 (some (Array.replicate (m+1) none,0)) (by show 0+hs.toList.length<=m+1;simp;lia) (fun i=>by rw[vW]) ⟨_,rfl,by show _=m+1;simp,by show((Array.replicate (m+1) (none:Option Nat)).toList.filterMap id).Perm (List.range 0);simp,fun j v hv=>by rw[Array.getElem?_replicate]at hv;split at hv <;> cases hv⟩
 have h1:owner.size=m+1:=h1
 have ec:SetTable.layClean m hs=some owner:=by
  unfold SetTable.layClean
  rw[<- Array.foldl_toList]
  have e':(hs.toList.foldl (fun acc h=>do
   let (owner,k) <- acc
   let j <- SetTable.layClean.free m owner (SetTable.turns m) (SetTable.bits h % (m+1)) (SetTable.bits h)
   pure (owner.setIfInBounds j (some k),k+1)) (some (Array.replicate (m+1) none,0)))=some (owner,0+hs.toList.length):=e
  rw[e']
  rfl
 obtain⟨t,order,a,T,p⟩:=zSq hm hl hr fing moves led
 refine⟨t,order,a,T,p,?_⟩
 unfold SetTable.laid at a
 rw[ec]at a
 have a':((({ mask:=m,place:=(((List.range (m+1)).filterMap fun j=>(owner.getD j none).map (j,·)).map (·.1)).toArray,dummies:=#[],finger:=fing,led:=led,moves:=moves,plain:=true }:SetTable),(((List.range (m+1)).filterMap fun j=>(owner.getD j none).map (j,·)).map (·.2)).toArray):SetTable × Array Nat)=(t,order):=xD a
 obtain⟨e1,e2⟩:=Prod.mk.inj a'
 have mem:∀j,j<=m->owner.getD j (some 0)≠none->j∈t.place.toList:=fun j hj hn=>by
  rw[<- e1]
  show j∈(List.map (fun r:Nat × Nat=>r.1) _).toArray.toList
  have hz:j<owner.size:=by nofun
  have hg:owner[j]?=some owner[j]:=vh hz
  rw[vi,hg]at hn
  cases hv:owner[j]with
  | none=>rw[hv]at hn;exact absurd rfl hn
  | some v=>exact xt.mpr ⟨(j,v),uq.mpr ⟨j,xY.mpr (by nofun),by rw[vi,hg,hv];rfl⟩,rfl⟩
 have tm:t.mask=t0.mask:=by rw[<- e1]
 intro q hq
 have zq:∃r∈((List.range (m+1)).filterMap fun j=>(owner.getD j none).map (j,·)),q=(r.1,hs.toList.getD r.2 0):=by
  rw[<- e1,<- e2]at hq
  simp only[ud]at hq
  generalize ((List.range (m+1)).filterMap fun j=>(owner.getD j none).map (j,·))=live at hq
  clear a a' e1 e2 T p mem
  induction live with
  | nil=>simp at hq
  | cons r live ih=>
   simp only[xr,uc]at hq
   rcases xk.mp hq with rfl|hq
   ·exact⟨r,.head _,rfl⟩
   ·obtain⟨r',hr',e'⟩:=ih hq
    exact⟨r',.tail _ hr',e'⟩
 obtain⟨⟨j,v⟩,hr,rfl⟩:=zq
 obtain⟨j',hj',ej⟩:=uq.mp hr
 have hov:owner[j']?=some (some v)/\j'=j:=by
  rw[vi]at ej
  cases ho:owner[j']? with
  | none=>rw[ho]at ej;cases ej
  | some w=>
   rw[ho]at ej
   cases w with
   | none=>cases ej
   | some u=>cases ej;exact⟨rfl,rfl⟩
 obtain⟨hov,rfl⟩:=hov
 obtain⟨mm,em,al⟩:=h3 j' v hov
 refine⟨mm,by rw[zCy tm,zDq tm];exact em,fun m' hm'=>?_⟩
 rw[zCy tm,zDq tm]
 exact mem _ (zO2 t0 _ m') (al m' hm')
end TB
namespace TB
open PySem
theorem zFe {t:SetTable}{hashAt:Nat->Int}{h:Int}(hd:t.dummies=#[]):∀(f m:Nat) (p:SetTable.Probe),m<f->Far t p m->
  (∃d,d<=m/\SetTable.probe.go t hashAt h f p=some (.empty (adv t d p).j none)/\t.slot (adv t d p).j=.empty/\∀d',d'<d->∃i,t.slot (adv t d' p).j=.live i/\(hashAt i == h)=false) \/
  (∃d i,d<m/\SetTable.probe.go t hashAt h f p=some (.candidate (adv t d p).j i (adv t (d+1) p))/\t.slot (adv t d p).j=.live i/\(∀d',d'<d->∃i,t.slot (adv t d' p).j=.live i/\(hashAt i == h)=false)/\Far t (adv t (d+1) p) (m-(d+1)))
 | 0,m,p,hf,_=>by nofun
 | f+1,m,p,hf,⟨hm,hp⟩=>by
  unfold SetTable.probe.go
  have nd:=zCm hd p.j
  cases hs:t.slot p.j with
  | empty=>exact .inl ⟨0,xC _,by rw[hp];rfl,hs,fun d' h=>by nofun⟩
  | dummy=>rw[hs]at nd;split at nd <;> cases nd
  | live i=>
   obtain⟨m',rfl⟩:∃m',m=m'+1:=by
    cases m with
    | zero=>
     have:t.slot p.j=.empty:=hm
     rw[hs]at this;cases this
    | succ k=>exact⟨k,rfl⟩
   have fr:Far t (t.advance p) m':=⟨hm,(zHx t 1 p).trans hp⟩
   dsimp only
   by_cases c:(hashAt i == h)=true
   ·rw[xc c]
    exact .inr ⟨0,i,by nofun,rfl,hs,fun d' h=>by nofun,by rw[show m'+1-(0+1)=m' by nofun];exact fr⟩
   ·rw[xf c]
    have c':(hashAt i == h)=false:=by simpa using c
    rcases zFe hd f m' _ (by nofun) fr with⟨d,h1,h2,h3,h4⟩|⟨d,i',h1,h2,h3,h4,h5⟩
    ·refine .inl ⟨d+1,by nofun,h2,h3,fun d' hd'=>?_⟩
     cases d' with
     | zero=>exact⟨i,hs,c'⟩
     | succ d'=>exact h4 d' (by nofun)
    ·refine .inr ⟨d+1,i',by nofun,h2,h3,fun d' hd'=>?_,by rw[show m'+1-(d+1+1)=m' - (d+1) by nofun];exact h5⟩
     cases d' with
     | zero=>exact⟨i,hs,c'⟩
     | succ d'=>exact h4 d' (by nofun)
theorem zId {t:SetTable}{n j i:Nat}{b:Bool}(T:Tab t n b) (h:t.slot j=.live i):t.place[i]?=some j:=by
 rw[zCm T.nod]at h
 split at h
 ·rename_i c
  cases h
  exact eq_of_beq c
 ·cases h
theorem zSl {t:SetTable}{n j i:Nat}{b:Bool}(T:Tab t n b) (h:t.slot j=.live i):j∈t.place.toList:=by
 obtain⟨z,e⟩:=vm.mp (zId T h)
 rw[<- e];simp
theorem zTu {l:List Nat}(u:Up l) {i j:Nat}(hi:i<l.length) (hj:j<l.length) (e:l[i]=l[j]):i=j:=by
 rcases Nat.lt_trichotomy i j with z|z|z
 ·have:=zF9 u z hj;lia
 ·exact z
 ·have:=zF9 u z hi;lia
theorem zLq {t:SetTable}{n:Nat}{b:Bool}(T:TabP t n b) (hf:t.tooFull=true) (hn:n<=300) (hs:Array Int) (hz:hs.size=n):
  (decide (SetTable.sizeAbove (SetTable.grown n) > sizeLine)=false)/\∃t' order,t.relaid hs (SetTable.grown n)=some (t',order)/\Tab t' n b/\order.toList.Perm (List.range n)/\Chs t' (order.toList.map fun k=>hs.toList.getD k 0):=by
 have h1:=T.most
 unfold SetTable.tooFull at hf
 rw[T.fill]at hf
 have hf:t.mask*3<=n*5:=by simpa using hf
 have c:n=5\/n=19\/n=77:=by
  rcases T.hm with e|e|e|e <;> rw[e]at h1 hf <;> lia
 have key:∀M,Msk M->SetTable.sizeAbove (SetTable.grown n)=M+1->n<=M->n*5<M*3->∃t' order,t.relaid hs (SetTable.grown n)=some (t',order)/\Tab t' n b/\order.toList.Perm (List.range n)/\Chs t' (order.toList.map fun k=>hs.toList.getD k 0):=fun M hM e1 e2 e3=>by
  obtain⟨t',order,a,T',p,C⟩:=zP2 hM (hs:=hs) (by nofun) (by nofun) t.finger (t.movedTo M) b
  rw[hz]at T' p
  refine⟨t',order,?_,T',p,C⟩
  unfold SetTable.relaid
  rw[e1,T.plain,T.led]
  exact a
 rcases c with rfl|rfl|rfl
 ·exact⟨by decide +kernel,key 31 (by simp[Msk]) (by decide +kernel) (by decide) (by decide)⟩
 ·exact⟨by decide +kernel,key 127 (by simp[Msk]) (by decide +kernel) (by decide) (by decide)⟩
 ·exact⟨by decide +kernel,key 511 (by simp[Msk]) (by decide +kernel) (by decide) (by decide)⟩
end TB
namespace TS
open PySem TB
noncomputable abbrev sObj (es:Array (Int × Value)) (ep:Nat) (t:SetTable):Obj:={ cls:=.type "set",dict:=none,data:=.set es ep t,slots:=#[] }
theorem Tab.ft {t:SetTable}{n:Nat}{b:Bool}(T:Tab t n b):t.fits n=true:=by
 have:=T.fits
 unfold SetTable.fits
 simp at this ⊢
 exact⟨this.1,this.2⟩
theorem TabP.ft {t:SetTable}{n:Nat}{b:Bool}(T:TabP t n b):t.fits n=true:=by
 have:=T.fits
 unfold SetTable.fits
 simp at this ⊢
 exact⟨this.1,this.2⟩
section
variable {prog:Program}{w:World}{A:Around}{E:Value->Shared->Prop}{s:Shared}
theorem gate {M:Model}{α:Type}{c:Prop}[Decidable c] {m:Sem Bool}{U R:Sem α}{Q:α->Shared->Prop}(hm:∀Q':Bool->Shared->Prop,Q' false s->wpAny M A m Q' E s) (hR:wpAny M A R Q E s):
  wpAny M A (if c then m >>= fun b=>if b=true then U else R else R) Q E s:=by
 by_cases h:c
 ·rw[xc h]
  exact xa (hm _ (by rw[xf (by decide)];exact hR))
 ·rw[xf h];exact hR
noncomputable def adr:Value->Addr
 | .ref a=>a
 | _=>0
end
end TS
namespace TS
open PySem TB
noncomputable abbrev zDj (w:World):Bool:=!(w.params.followText "set-order")
section
variable {prog:Program}{w:World}{A:Around}{E:Value->Shared->Prop}{s:Shared}
noncomputable abbrev nObj (w:World):Obj:=sObj #[] 0 (.fresh 0 0 (zDj w))
theorem zEd (a:Value) {Q₁:Value->Shared->Prop}(h:Q₁ (.ref s.heap.objs.size) { s with heap:=s.heap.push (nObj w) }):
  codeAny (model prog w) A (.call (.builtin "set.__new__") ⟨[.type "set",a],[]⟩) (wants Q₁ E) s:=by
 refine codeAny_of_tree (show wpAny _ A.in1 (checkBuiltinCall "set.__new__" ⟨[.type "set",a],[]⟩ >>= fun _=>again (.builtin "set.__new__" ⟨[.type "set",a],[]⟩)) _ _ s from ?_)
 refine xa (wpAny_of_eq (F.newCall_set_1 a) (xg ⟨plainId_quiet F.plain_set_new _,ue F.entry_set_new ?_⟩));rw[Around.under_plainId F.plain_set_new _]
 unfold Builtin.«set.__new__» Builtin.Frozenset.newClass;have hsub:=sub_set_self;obtain⟨hp,g,d,tk,os⟩:=s;dsimp only;wp_walk
 refine uW (xg ?_);dsimp only;simp only[newObj]
 exact xa (wpAny_alloc (xg (xg h)))
end
end TS
namespace TS
open PySem TB
theorem si_next:Slot "set_iterator" "__next__" "set_iterator.__next__":=
 .of (owner:="set_iterator") (n:="__next__") (by rw[typeLookup_type,builtinLookup_eq_fast];kernel_rfl) (by decide +kernel) (by decide +kernel) (by decide +kernel) (by first|exact .inl (by decide +kernel)|exact .inr (by decide +kernel)) (by rw[isSubtype_type];kernel_rfl)
theorem zJ6:entryFor table "set_iterator.__next__"=some Builtin.«set_iterator.__next__»:=entryFor_of_tree (by kernel_rfl)
theorem zLf (a:Value):argsOk "set_iterator.__next__" ⟨[a],[]⟩:=by unfold argsOk;kernel_rfl
theorem zLd:Slot "set_iterator" "__iter__" "set_iterator.__iter__":=
 .of (owner:="set_iterator") (n:="__iter__") (by rw[typeLookup_type,builtinLookup_eq_fast];kernel_rfl) (by decide +kernel) (by decide +kernel) (by decide +kernel) (by first|exact .inl (by decide +kernel)|exact .inr (by decide +kernel)) (by rw[isSubtype_type];kernel_rfl)
theorem zLe:entryFor table "set_iterator.__iter__"=some Builtin.«dict_keyiterator.__iter__»:=entryFor_alias (id':="dict_keyiterator.__iter__") (by kernel_rfl) rfl (by decide +kernel) (by kernel_rfl)
theorem zO5 (a:Value):argsOk "set_iterator.__iter__" ⟨[a],[]⟩:=by unfold argsOk;kernel_rfl
theorem zWf:entryFor table "set.__iter__"=some Builtin.«frozenset.__iter__»:=entryFor_alias (id':="frozenset.__iter__") (by kernel_rfl) rfl (by decide +kernel) (by kernel_rfl)
theorem zFm {α:Type}:∀(l:List α) (i:Nat) (h:i<l.length),(l[i]::l.eraseIdx i).Perm l
 | [],i,h=>by simp at h
 | x::l,0,h=>by simp
 | x::l,i+1,h=>by
  simp only[List.getElem_cons_succ,List.eraseIdx_cons_succ]
  exact(List.Perm.swap _ _ _).trans (List.Perm.cons x (zFm l i (by simpa using h)))
theorem zLz {α:Type}(next:Nat->Nat):∀(f k:Nat) (left:List α) (out:Array α),left.length=f->∃l,(pickOrder.go next f k left out).toList=out.toList++l/\l.Perm left
 | 0,k,left,out,h=>⟨[],by simp[pickOrder.go],by rw[List.length_eq_zero_iff.mp h]⟩
 | f+1,k,left,out,h=>by
  have hl:next k % left.length<left.length:=vk _ (by nofun)
  unfold pickOrder.go
  rw[xp hl]
  dsimp only
  obtain⟨l,e,p⟩:=zLz next f (k+1) (left.eraseIdx (next k % left.length)) (out.push left[next k % left.length]) (by rw[List.length_eraseIdx];simp[hl];lia)
  refine⟨left[next k % left.length]::l,by rw[e];simp,(List.Perm.cons _ p).trans ?_⟩
  exact zFm left _ hl
theorem zLy {α:Type}(next:Nat->Nat) (xs:Array α):(pickOrder next xs).toList.Perm xs.toList:=by
 obtain⟨l,e,p⟩:=zLz next xs.size 0 xs.toList #[] (by simp)
 unfold pickOrder
 rw[e]
 simpa using p
noncomputable def ordW (w:World) (S:Addr) (ep:Nat) (es:Array (Int × Value)):Array (Int × Value):=if w.params.followText "set-order"=true then pickOrder (w.params.setOrder S ep) es else es
theorem zEp (w:World) (S:Addr) (ep:Nat) (es:Array (Int × Value)):(ordW w S ep es).toList.Perm es.toList:=by
 unfold ordW
 split
 ·exact zLy _ _
 ·exact .refl _
theorem zCo (w:World) (S:Addr) (ep:Nat) (es:Array (Int × Value)):(ordW w S ep es).size=es.size:=by simpa using(zEp w S ep es).length_eq
noncomputable def zEo (w:World) (t:SetTable) (i:Nat):Nat:=if w.params.followText "set-order"=true then 0 else TB.slotAt t.place i
section
variable {prog:Program}{w:World}{A:Around}{E:Value->Shared->Prop}{s:Shared}
noncomputable def IsSI (w:World) (h:Heap) (I S:Addr) (i n ep:Nat) (t:SetTable):Prop:=∃o,h.get? I=some o/\o.cls=.type "set_iterator"/\o.data=.fields #[.int (zEo w t i) 0,.int i 0,.ref S,.int n 0,.int ep 0]
theorem IsSI.typeIs {I S:Addr}{i n ep:Nat}{t:SetTable}(x:IsSI w s.heap I S i n ep t):s.TypeIs (.ref I) "set_iterator":=let ⟨o,ho,hc,_⟩:=x;⟨o,ho,hc⟩
theorem walk_of {S:Addr}{es:Array (Int × Value)}{ep:Nat}{t:SetTable}(ho:s.heap.get? S=some (sObj es ep t)) (T:Tab t es.size (!(w.params.followText "set-order"))) (i:Nat) (hi:i<=es.size) {Q:Option (Value × Nat)->Shared->Prop}
  (h:Q (((ordW w S ep es)[i]?).map fun e=>(e.2,zEo w t (i+1))) s):wpAny (model prog w) A (setNext S (zEo w t i) i ep) Q E s:=by
 unfold setNext
 refine xa (vX ho rfl (Tab.ft T) ?_)
 dsimp only
 unfold setsByText
 refine xa (xa (uW (xg ?_)))
 show wpAny _ _ (if(w.params.followText "set-order")=true then _ else _) _ _ _
 by_cases c:w.params.followText "set-order"=true
 ·rw[xc c]
  rw[xf (by simp)]
  refine xa ?_
  unfold setWalk
  refine xa (vX ho rfl (Tab.ft T) ?_)
  dsimp only
  unfold setsByText
  refine xa (xa (uW (xg ?_)))
  show wpAny _ _ (if(w.params.followText "set-order")=true then _ else _) _ _ _
  rw[xc c]
  refine xa (uW (xg (xg ?_)))
  unfold ordW zEo at h
  rw[xc c,xc c]at h
  unfold zEo
  rw[xc c]
  exact h
 ·rw[xf c]
  have hl:t.led=true:=by rw[T.led];simpa using c
  have e1:(!t.plain && decide (es.size > 1))=false:=by rw[T.plain];rfl
  show wpAny _ _ (if(!t.plain && decide (es.size > 1))=true then _ else _) _ _ _
  rw[e1]
  rw[xf (by decide)]
  show wpAny _ _ ((if(!t.led && !es.isEmpty)=true then _ else pure ()) >>= _) _ _ _
  rw[hl]
  rw[xf (by simp)]
  refine xa (xg ?_)
  unfold ordW zEo at h
  rw[xf c,xf c]at h
  unfold zEo
  rw[xf c,zHu T.up (by rw[T.size];exact hi)]
  refine xg ?_
  rcases xN i es.size with z|z
  ·have z2:i<t.place.size:=by rw[T.size];exact z
   rw[vh z,vh z2]
   rw[vh z]at h
   have:TB.slotAt t.place (i+1)=t.place[i]+1:=by unfold TB.slotAt;simp[Array.getD,z2]
   rw[this]at h
   exact h
  ·rw[Array.getElem?_eq_none z]
   rw[Array.getElem?_eq_none z]at h
   exact h
theorem zR9 {I S:Addr}{i ep:Nat}{es:Array (Int × Value)}{t:SetTable}{e:Int × Value}{Q:Option Value->Shared->Prop}(hit:IsSI w s.heap I S i es.size ep t) (ho:s.heap.get? S=some (sObj es ep t)) (T:Tab t es.size (!(w.params.followText "set-order"))) (hne:S≠I)
  (hx:(ordW w S ep es)[i]?=some e) (hQ:∀h',IsSI w h' I S (i+1) es.size ep t->Heap.SameBut I s.heap h'->Q (some e.2) { s with heap:=h' }):wpAny (model prog w) A (pyNext (.ref I)) Q E s:=by
 have hlt:i<es.size:=by rw[<- zCo w S ep es];exact(vm.mp hx).1
 obtain⟨o,hi,hc,hd⟩:=id hit
 unfold pyNext
 refine xa (wpAny_attempt (vJ (name:=Str.ofString "__next__") hit.typeIs si_next (ve si_next hit.typeIs zJ6 ?_ (zLf _))))
 unfold Builtin.«set_iterator.__next__»
 refine xa (xg ?_)
 refine xa (wpAny_fieldsOf hi hd ?_)
 dsimp only
 refine xa (wpAny_setEntries_of ho rfl (Tab.ft T) ?_)
 rw[xf (by simp)]
 simp only[vn]
 refine xa (walk_of ho T i (xO hlt) ?_)
 rw[hx]
 simp only[ub]
 refine xa (wpAny_setField hi hd (by simp) ?_)
 have g1:=uz (Obj.mapFields fun x=>x.setIfInBounds 0 (rawInt ↑(zEo w t (i+1)))) hi (Obj.isFreed_of_fields (uE hd _))
 have d1:=uE hd fun x=>x.setIfInBounds 0 (rawInt ↑(zEo w t (i+1)))
 refine xa (wpAny_setField g1 d1 (by simp) (xg ⟨e.2,rfl,xg (hQ _ ⟨_,uz _ g1 (Obj.isFreed_of_fields (uE d1 _)),(Obj.cls_mapFields ..).trans ((Obj.cls_mapFields ..).trans hc),?_⟩ ((vO ..).trans (vO ..)))⟩))
 rw[uE d1]
 simp[rawInt]
theorem zRa {I S:Addr}{ep:Nat}{es:Array (Int × Value)}{t:SetTable}{Q:Option Value->Shared->Prop}(hh:A.handled=none) (hit:IsSI w s.heap I S es.size es.size ep t) (ho:s.heap.get? S=some (sObj es ep t)) (T:Tab t es.size (!(w.params.followText "set-order"))) (hne:S≠I)
  (hQ:∀h',Heap.ExtBut I s.heap h'->Q none { s with heap:=h' }):wpAny (model prog w) A (pyNext (.ref I)) Q E s:=by
 obtain⟨o,hi,hc,hd⟩:=id hit
 unfold pyNext
 refine xa (wpAny_attempt (vJ (name:=Str.ofString "__next__") hit.typeIs si_next (ve si_next hit.typeIs zJ6 ?_ (zLf _))))
 unfold Builtin.«set_iterator.__next__»
 refine xa (xg ?_)
 refine xa (wpAny_fieldsOf hi hd ?_)
 dsimp only
 refine xa (wpAny_setEntries_of ho rfl (Tab.ft T) ?_)
 rw[xf (by simp)]
 simp only[vn]
 refine xa (walk_of ho T es.size (xh _) ?_)
 rw[Array.getElem?_eq_none (by rw[zCo];exact xh _)]
 simp only[Option.map_none]
 refine xa (wpAny_setField hi hd (by simp) ?_)
 refine xa ?_
 simp only[newExc,newTuple]
 refine xa (vf (xa (m:=firstArgMember _ _) (wpAny_of_eq (a:=Value.none) (by first|rfl|(simp only[firstArgMember];rfl)) (vf ?_ (by size_fits)))) (by size_fits))
 simp only[raiseNew]
 refine xa (wpAny_handled ?_);rw[show A.in1.handled=none from hh]
 refine xa (xg (wpAny_throw ?_))
 refine xa (uF (b:=true) (T:="StopIteration") ⟨_,xv _ rfl,rfl⟩ isSubtype_stop (xg (hQ _ (((vO ..).extBut.push _).push _))))
theorem zL1 (hh:A.handled=none) (I S:Addr) (hne:S≠I) (es:Array (Int × Value)) (ep:Nat) (t:SetTable) (T:Tab t es.size (!(w.params.followText "set-order"))):
  Walks prog w A I [I,S] [I] es.size (fun i v=>((ordW w S ep es).map (·.2))[i]?=some v) (fun i h=>IsSI w h I S i es.size ep t/\h.get? S=some (sObj es ep t)) where
 sub:=fun b hb=>by simp at hb;simp[hb]
 frame:=fun _ _ _ st hk=>⟨let ⟨o,ho,r⟩:=st.1;⟨o,hk I (by simp) o ho,r⟩,hk S (by simp) _ st.2⟩
 item:=fun i s Q E hi st hQ=>by
  have hz:i<(ordW w S ep es).size:=by rw[zCo];exact hi
  refine zR9 st.1 st.2 T hne (vh hz) fun h' it' sb=>?_
  exact hQ _ h' s.toks (by rw[Array.getElem?_map,vh hz];rfl) ⟨it',(sb.2 S hne).trans st.2⟩ fun b o hb e=>(sb.2 b fun z=>hb (by simp[z])).trans e
 done:=fun s Q E st hQ=>zRa hh st.1 st.2 T hne fun h' he'=>hQ h' s.toks fun b o hb e=>he' b o (fun h=>hb (by simp[h])) e
 self:=fun i s Q E st hQ=>wpAny_pyIter_slot st.1.typeIs zLd (ve zLd st.1.typeIs zLe (show wpAny _ _ (ret (.ref I)) _ _ s from xg ⟨_,rfl,"set_iterator",_,st.1.typeIs,si_next.lookup,hQ⟩) (zO5 _))
theorem zP5 {S:Addr}{es:Array (Int × Value)}{ep:Nat}{t:SetTable}{Q:Value->Shared->Prop}(ho:s.heap.get? S=some (sObj es ep t)) (T:Tab t es.size (!(w.params.followText "set-order")))
  (h:Q (.ref s.heap.objs.size) { s with heap:=s.heap.push { cls:=.type "set_iterator",data:=.fields #[.int 0 0,.int 0 0,.ref S,.int es.size 0,.int ep 0] } }):wpAny (model prog w) A (pyIter (.ref S)) Q E s:=by
 have hT:s.TypeIs (.ref S) "set":=⟨_,ho,rfl⟩
 refine wpAny_pyIter_slot hT F.slot_set_iter (ve F.slot_set_iter hT zWf ?_ (F.args_set_iter_1 _))
 unfold Builtin.«frozenset.__iter__»
 refine xa (m:=Builtin.Frozenset.slot0 _ _) (xg ?_)
 unfold Builtin.Frozenset.sizeOf
 refine xa (xa (wpAny_setEntries_of ho rfl (Tab.ft T) (xg ?_)))
 unfold setDrawn
 refine xa (xa (vX ho rfl (Tab.ft T) ?_))
 dsimp only
 unfold setsByText
 refine xa (xa (uW (xg (xg ?_))))
 show wpAny _ _ (if(!(w.params.followText "set-order") && (!t.plain && decide (es.size > 1)))=true then _ else _) _ _ _
 rw[xf (by rw[T.plain];simp)]
 refine xa (xg ?_)
 refine xa (wpAny_setEpoch_of ho rfl (Tab.ft T) ?_)
 unfold newFields
 refine xa (vf (xg ⟨_,rfl,"set_iterator",_,⟨_,xv _ rfl,rfl⟩,si_next.lookup,?_⟩))
 simpa[rawInt]using h
theorem zP7 {S:Addr}{Q:Bool->Shared->Prop}(hT:s.TypeIs (.ref S) "set") (h:Q false s):wpAny (model prog w) A (Builtin.List.listLengthHint (.ref S)) Q E s:=by
 unfold Builtin.List.listLengthHint
 refine xa (uD hT F.slot_set_len.lookup ?_)
 generalize hid:("set.__len__":String)=id0;wp_delta;rw[show splitId id0=some ("set","__len__")from by subst hid;decide +kernel];subst hid
 refine xa (uF (T:="set") (b:=true) hT sub_set_self (wpAny_ite_split (fun hab=>absurd hab (by decide)) fun _=>wpAny_ite_split (fun _=>xa (v9 hT (xg h))) fun hab=>absurd (by decide +kernel) hab))
open PySem.W in
theorem zLb {S:Addr}{es:Array (Int × Value)}{ep:Nat}{t:SetTable}(T:Tab t es.size (!(w.params.followText "set-order"))):
  KdlSrc prog w "set" S S es.size (fun i v=>((ordW w S ep es).map (·.2))[i]?=some v) (fun h=>h.get? S=some (sObj es ep t)) where
 type:=fun s ok=>⟨_,ok,rfl⟩
 there:=fun h ok=>⟨xi ok,xi ok⟩
 keep:=fun h h' ok k=>k S (.inl rfl) _ ok
 notList:=by decide
 notTuple:=by decide
 hint:=fun A E s Q ok h=>zP7 ⟨_,ok,rfl⟩ h
 iter:=fun A s hh ok=>⟨{ cls:=.type "set_iterator",data:=.fields #[.int 0 0,.int 0 0,.ref S,.int es.size 0,.int ep 0] },_,fun E Q h=>zP5 ok T h,
  zL1 hh _ S (xu (xi ok)) es ep t T,⟨_,xv _ rfl,rfl,by
   have:zEo w t 0=0:=by unfold zEo;split <;> rfl
   rw[this];rfl⟩,xl _ ok⟩
end
end TS
namespace TS
open PySem
noncomputable def KIt (b:Bool) (h:Heap) (i a:Addr) (k:Nat):Prop:=∃o,h.get? i=some o/\o.cls=.type (if b then "tuple_iterator" else "list_iterator")/\o.data=.fields #[.ref a,.int k 0]
noncomputable def KSq (b:Bool) (h:Heap) (a:Addr) (xs:Array Value):Prop:=∃o,h.get? a=some o/\o.cls=.type (if b then "tuple" else "list")/\∃n,o.data=.seq xs n
theorem KIt.at {b:Bool}{h h':Heap}{i a:Addr}{k:Nat}(x:KIt b h i a k) (e:∀o,h.get? i=some o->h'.get? i=some o):KIt b h' i a k:=let ⟨o,ho,r⟩:=x;⟨o,e _ ho,r⟩
theorem KSq.at {b:Bool}{h h':Heap}{a:Addr}{xs:Array Value}(x:KSq b h a xs) (e:∀o,h.get? a=some o->h'.get? a=some o):KSq b h' a xs:=let ⟨o,ho,r⟩:=x;⟨o,e _ ho,r⟩
theorem KIt.xb {b:Bool}{h h':Heap}{i a c:Addr}{k:Nat}(x:KIt b h i a k) (e:Heap.ExtBut c h h') (n:i≠c):KIt b h' i a k:=x.at fun o q=>e _ _ n q
theorem KSq.xb {b:Bool}{h h':Heap}{a c:Addr}{xs:Array Value}(x:KSq b h a xs) (e:Heap.ExtBut c h h') (n:a≠c):KSq b h' a xs:=x.at fun o q=>e _ _ n q
section
variable {prog:Program}{w:World}{A:Around}{E:Value->Shared->Prop}{s:Shared}
theorem next_item {b:Bool}{it l:Addr}{i:Nat}{items:Array Value}{x:Value}{Q:Value->Shared->Prop}(hit:KIt b s.heap it l i) (hl:KSq b s.heap l items) (hx:items[i]?=some x)
  (hQ:∀h',KIt b h' it l (i+1)->Heap.SameBut it s.heap h'->Q x { s with heap:=h' }):wpAny (model prog w) A (Builtin.SmallTypes.nextOf (.ref it)) Q E s:=by
 cases b with
 | false=>exact wpAny_nextOf_list_item hit hl hx hQ
 | true=>
  obtain⟨o,ho,hc,hd⟩:=id hit
  obtain⟨ol,hol,_,nl,hdl⟩:=hl
  have hT:s.TypeIs (.ref it) "tuple_iterator":=⟨o,ho,hc⟩
  unfold Builtin.SmallTypes.nextOf
  refine xa (vJ (name:=Str.ofString "__next__") hT u6 (ve u6 hT F.entry_tuple_iterator_next ?_ (F.args_tuple_iterator_next_1 _)))
  refine(show wpAny _ _ (field (.ref it) 0 >>= _) _ _ s from xa (vv ho hd (x:=.ref l) rfl (show wpAny _ _ (if(Value.ref l == Value.none)=true then _ else _) _ _ s from ?_)))
  rw[xf (show ¬ ((Value.ref l == Value.none)=true)from xQ)]
  refine(show wpAny _ _ (field (.ref it) 1 >>= _) _ _ s from xa (vv ho hd (x:=.int i 0) rfl (show wpAny _ _ (seqItems? (.ref l) >>= _) _ _ s from xa (wpAny_seqItems hol hdl ?_))))
  simp only[vn,hx]
  refine xa (wpAny_setField ho hd (by simp) (xg ⟨x,rfl,xg (hQ _ ⟨_,uz _ ho (Obj.isFreed_of_fields (uE hd _)),(Obj.cls_mapFields ..).trans hc,?_⟩ (vO ..))⟩))
  rw[uE hd];simp[rawInt]
theorem next_end {b:Bool}{it l:Addr}{i:Nat}{items:Array Value}{Q:Value->Shared->Prop}(hh:A.handled=none) (hit:KIt b s.heap it l i) (hl:KSq b s.heap l items) (hx:items[i]?=none)
  (hE:∀h' e,Heap.ExtBut it s.heap h'->(∃o,h'.get? e=some o/\o.cls=.type "StopIteration")->E (.ref e) { s with heap:=h' }):wpAny (model prog w) A (Builtin.SmallTypes.nextOf (.ref it)) Q E s:=by
 cases b with
 | false=>exact wpAny_nextOf_list_end hh hit hl hx hE
 | true=>
  obtain⟨o,ho,hc,hd⟩:=id hit
  obtain⟨ol,hol,_,nl,hdl⟩:=hl
  have hT:s.TypeIs (.ref it) "tuple_iterator":=⟨o,ho,hc⟩
  unfold Builtin.SmallTypes.nextOf
  refine xa (vJ (name:=Str.ofString "__next__") hT u6 (ve u6 hT F.entry_tuple_iterator_next ?_ (F.args_tuple_iterator_next_1 _)))
  refine(show wpAny _ _ (field (.ref it) 0 >>= _) _ _ s from xa (vv ho hd (x:=.ref l) rfl (show wpAny _ _ (if(Value.ref l == Value.none)=true then _ else _) _ _ s from ?_)))
  rw[xf (show ¬ ((Value.ref l == Value.none)=true)from xQ)]
  refine(show wpAny _ _ (field (.ref it) 1 >>= _) _ _ s from xa (vv ho hd (x:=.int i 0) rfl (show wpAny _ _ (seqItems? (.ref l) >>= _) _ _ s from xa (wpAny_seqItems hol hdl ?_))))
  simp only[vn,hx]
  refine xa (vP (xa (wpAny_setField ho hd (by simp) (show wpAny _ _ (newExc (.type "StopIteration") [] >>= _) _ _ _ from xa ?_))))
  simp only[newExc,newTuple]
  refine xa (vf (xa (m:=firstArgMember _ _) (wpAny_of_eq (a:=Value.none) (by first|rfl|(simp only[firstArgMember];rfl)) (vf ?_ (by size_fits)))) (by size_fits))
  simp only[raiseNew]
  refine xa (wpAny_handled ?_);rw[show A.in1.handled=none from hh]
  refine xa (xg (wpAny_throw ?_))
  exact hE _ _ (((vO ..).extBut.push _).push _) ⟨_,xv _ rfl,rfl⟩
end
end TS
namespace TS
open PySem
noncomputable abbrev itO (b:Bool) (l:Addr):Obj:={ cls:=.type (if b then "tuple_iterator" else "list_iterator"),data:=.fields #[.ref l,.int 0 0] }
section
variable {prog:Program}{w:World}{A:Around}{E:Value->Shared->Prop}{s:Shared}
theorem zJo {b:Bool}{l:Addr}{xs:Array Value}{Q:Value->Shared->Prop}(q:KSq b s.heap l xs) (h:Q (.ref s.heap.objs.size) { s with heap:=s.heap.push (itO b l) }):wpAny (model prog w) A (pyIter (.ref l)) Q E s:=by
 cases b with
 | false=>exact uS q h
 | true=>exact wpAny_pyIter_tuple q h
end
end TS
namespace L2
open PySem PySem.Spec PyProof.Rows TS
noncomputable def hoK (b:Bool) (xs:List V):HO:=if b then .tup xs else .lst xs
theorem Inv.kSq {X:Cx}{pins:List (Addr × Obj)}{σ:St}{H:Hp}{s:Shared}{b:Bool}{a:Addr}{xs:List V}(I:Inv X pins σ H s) (h:H a=some (hoK b xs)):∃its:List Value,Vals xs its/\KSq b s.heap a its.toArray/\xs.length<=sizeLine:=by
 cases b with
 | false=>obtain⟨its,r,p,z⟩:=I.list (SqL.of h);exact⟨its,r,p.isList,z⟩
 | true=>obtain⟨its,r,p,z⟩:=I.tuple (SqT.of h);exact⟨its,r,p,z⟩
section
variable {A:TA}{σ σc:St}{H:Hp}{g:TG}{tt:TT}{te:TE}{Qd:List V->Hp->Prop}
theorem zSz {b:Bool}{xs ys:List V}(h:hoK b xs=hoK b ys):xs=ys:=by
 cases b with
 | false=>exact HO.lst.inj h
 | true=>exact HO.tup.inj h
end
end L2
namespace L2
open PySem PySem.Spec PyProof.Rows TS
section
variable {X:Cx}{K:PySem.W.Frag}
noncomputable def Its (x:Str):It:=⟨fun i _=>i<x.cps.size,fun i H v H'=>H'=H/\∃c,x.cps[i]?=some c/\v=.str ⟨#[c]⟩,fun i _=>x.cps.size<=i⟩
theorem zO0 {P:Program}{w:World}{tg:Expr}(it:Addr) (x:Str) (t:Tok):Turn P w K tg (Its x) [it] it (fun i h=>i<=x.cps.size/\h.IsStrIter it "str_ascii_iterator" x t i) where
 mem:=by simp
 obj:=fun i h st b hb=>by
  have e:b=it:=by simpa using hb
  subst e
  obtain⟨_,o,e,c,d⟩:=st
  exact⟨o,e,fun v z=>by rw[d]at z;cases z⟩
 keep:=fun i h h' st k=>⟨st.1,let ⟨o,ho,r⟩:=st.2;⟨o,k it (by simp) o ho,r⟩⟩
 item:=by
  intro X hP hw hK hc i pins s σ H E I hf st hg
  subst hP hw hK
  obtain⟨f0,f1,f2,f3,f4,f5⟩:=hf it (by simp)
  have hg:i<x.cps.size:=hg
  refine wpAny_pyNext_ascii_item st.2 (c:=x.cps[i]) (by simp[hg]) fun h' st' sb=>?_
  have I1:Inv X pins σ H { s with heap:=h',toks:=s.toks+1 }:=I.turned (t':=s.toks+1) (fun b o hb e=>(sb.2 b hb).trans e) f0 f1 f3 f4 f5
  obtain⟨o,e,c,d⟩:=id st'
  exact⟨_,rfl,zP9 (s:={ s with heap:=h',toks:=s.toks+1 }) e c d (by decide) ⟨.str ⟨#[x.cps[i]]⟩,H,I1,⟨_,rfl⟩,⟨rfl,_,by simp[hg],rfl⟩,⟨hg,st'⟩,fun b hb=>(hf b hb).1⟩⟩
 done:=by
  intro X hP hw hK hc i pins s σ H E I hf st hg
  subst hP hw hK
  obtain⟨f0,f1,f2,f3,f4,f5⟩:=hf it (by simp)
  have hg:x.cps.size<=i:=hg
  exact wpAny_pyNext_ascii_end (I.ok.hd hc) st.2 (by simp[hg]) fun h' eb=>⟨rfl,I.turned (t':=s.toks) (fun b o hb e=>eb b o hb e) f0 f1 f3 f4 f5⟩
 self:=fun _ _ _ _ _ st h=>wpAny_pyIter_striter_ascii st.2 h
end
end L2
namespace DS
open PySem (Str)
inductive D where
 | non|bl (b:Bool)|int (i:Int)|str (x:Str)|ty (n:String)
 | tup (l:List D)|ktup (l:List D)|lst (l:List D)|klst (l:List D)|dct (t:Bool) (ks vs:List D)|st (l:List D)
 | ref (n:Nat)
noncomputable abbrev Store:=List D
noncomputable abbrev Env:=List (Option D)
structure Exn where
 cls:Str
 fs:List (Str × D)
inductive Rs (α:Type) where
 | ok (a:α) (S:Store)|ex (x:Exn) (S:Store)|bad
inductive SR where
 | nx (e:Env) (S:Store)|rt (d:D) (S:Store)|bk (e:Env) (S:Store)|ct (e:Env) (S:Store)|ex (x:Exn) (S:Store)|bad
noncomputable def Rs.bind {α β:Type}(r:Rs α) (k:α->Store->Rs β):Rs β:=match r with
 | .ok a S=>k a S
 | .ex x S=>.ex x S
 | .bad=>.bad
@[simp] theorem Rs.bind_ok {α β:Type}{a:α}{S:Store}{k:α->Store->Rs β}:(Rs.ok a S).bind k=k a S:=rfl
@[simp] theorem Rs.bind_ex {α β:Type}{x:Exn}{S:Store}{k:α->Store->Rs β}:(Rs.ex x S:Rs α).bind k=.ex x S:=rfl
@[simp] theorem Rs.bind_bad {α β:Type}{k:α->Store->Rs β}:(Rs.bad:Rs α).bind k=.bad:=rfl
noncomputable def Rs.then {α:Type}(r:Rs α) (k:α->Store->SR):SR:=match r with
 | .ok a S=>k a S
 | .ex x S=>.ex x S
 | .bad=>.bad
@[simp] theorem Rs.then_ok {α:Type}{a:α}{S:Store}{k:α->Store->SR}:(Rs.ok a S).then k=k a S:=rfl
@[simp] theorem Rs.then_ex {α:Type}{x:Exn}{S:Store}{k:α->Store->SR}:(Rs.ex x S:Rs α).then k=.ex x S:=rfl
@[simp] theorem Rs.then_bad {α:Type}{k:α->Store->SR}:(Rs.bad:Rs α).then k=.bad:=rfl
noncomputable def lift {α:Type}(o:Option α) (S:Store):Rs α:=match o with
 | some a=>.ok a S
 | none=>.bad
@[simp] theorem zAa {α:Type}{a:α}{S:Store}:lift (some a) S=.ok a S:=rfl
@[simp] theorem zVb {α:Type}{S:Store}:lift (none:Option α) S=.bad:=rfl
noncomputable def zSo {α:Type}(o:Option (α × Store)):Rs α:=match o with
 | some a=>.ok a.1 a.2
 | none=>.bad
@[simp] theorem zKg {α:Type}{a:α × Store}:zSo (some a)=.ok a.1 a.2:=rfl
@[simp] theorem zTr {α:Type}:zSo (none:Option (α × Store))=.bad:=rfl
mutual
/-- all refs are below n -/
noncomputable def D.low (n:Nat):D->Bool
 | .ref m=>decide (m<n)
 | .tup l=>lowL n l
 | .lst l=>lowL n l
 | .ktup l=>lowL n l
 | .klst l=>lowL n l
 | .dct _ ks vs=>lowL n ks && lowL n vs
 | .st l=>lowL n l
 | .non=>true
 | .bl _=>true
 | .int _=>true
 | .str _=>true
 | .ty _=>true
noncomputable def lowL (n:Nat):List D->Bool
 | []=>true
 | d::r=>d.low n && lowL n r
end
mutual
/-- numbers,texts,truths,None,tuples and lists of them -/
noncomputable def D.flat:D->Bool
 | .ref _=>false
 | .tup l=>zBt l
 | .lst l=>zBt l
 | .dct _ _ _=>false
 | .ktup _=>false
 | .klst _=>false
 | .st _=>false
 | .ty _=>false
 | .non=>true
 | .bl _=>true
 | .int _=>true
 | .str _=>true
noncomputable def zBt:List D->Bool
 | []=>true
 | d::r=>d.flat && zBt r
end
mutual
/-- they may be compared: of one kind wherever == looks;no refs -/
noncomputable def D.cmp:D->D->Bool
 | .non,.non=>true
 | .bl _,.bl _=>true
 | .int _,.int _=>true
 | .str _,.str _=>true
 | .tup a,.tup b=>cmpL a b
 | .lst a,.lst b=>cmpL a b
 | _,_=>false
noncomputable def cmpL:List D->List D->Bool
 | a::r,b::t=>a.cmp b && cmpL r t
 | _,_=>true
end
mutual
noncomputable def D.dep:D->Nat
 | .tup l=>depL l+1
 | .lst l=>depL l+1
 | .dct _ _ _=>0
 | .ktup _=>0
 | .klst _=>0
 | .st _=>0
 | .non=>0
 | .bl _=>0
 | .int _=>0
 | .str _=>0
 | .ty _=>0
 | .ref _=>0
noncomputable def depL:List D->Nat
 | []=>0
 | d::r=>max d.dep (depL r)
end
noncomputable section
open Classical
noncomputable def look (S:Store):D->Option D
 | .ref n=>S[n]?
 | .ktup l=>some (.tup l)
 | .klst l=>some (.lst l)
 | d=>some d
noncomputable def items (S:Store) (d:D):Option (List D):=match look S d with
 | some (.tup l)=>some l
 | some (.lst l)=>some l
 | _=>none
noncomputable def litems (S:Store) (d:D):Option (List D):=match d with
 | .klst _=>none
 | d=>match look S d with
  | some (.lst l)=>some l
  | _=>none
noncomputable abbrev EM:=Env->Store->Rs D
noncomputable abbrev TM:=Env->Store->Rs Bool
noncomputable abbrev AM:=Env->Store->Rs (List D)
noncomputable abbrev SM:=Env->Store->SR
noncomputable abbrev GM:=Store->D->Env->Option Env
noncomputable abbrev Fn:=List D->Store->Rs D
noncomputable def eVar (i:Nat):EM:=fun env S=>match env[i]? with
 | some (some d)=>.ok d S
 | _=>.bad
noncomputable def eC (d:D):EM:=fun _ S=>.ok d S
noncomputable def eOp (g:Store->D->D->Option D) (a b:EM):EM:=fun env S=>(a env S).bind fun x S1=>(b env S1).bind fun y S2=>lift (g S2 x y) S2
noncomputable def eUn (g:Store->D->Option D) (a:EM):EM:=fun env S=>(a env S).bind fun x S1=>lift (g S1 x) S1
noncomputable def aNil:AM:=fun _ S=>.ok [] S
noncomputable def zA0 (a:EM) (r:AM):AM:=fun env S=>(a env S).bind fun x S1=>(r env S1).bind fun xs S2=>.ok (x::xs) S2
noncomputable def eTup (a:AM):EM:=fun env S=>(a env S).bind fun xs S1=>.ok (.tup xs) S1
noncomputable def eLst (a:AM):EM:=fun env S=>(a env S).bind fun xs S1=>.ok (.lst xs) S1
noncomputable def eDct (t:Bool):EM:=fun _ S=>.ok (.dct t [] []) S
noncomputable def eNew (a:EM):EM:=fun env S=>(a env S).bind fun x S1=>.ok (.ref S1.length) (S1++[x])
noncomputable def eCB (g:Store->List D->Option D) (a:AM):EM:=fun env S=>(a env S).bind fun xs S1=>lift (g S1 xs) S1
noncomputable def zAb (F:Fn) (a:AM):EM:=fun env S=>(a env S).bind fun xs S1=>F xs S1
noncomputable def tyD (S:Store) (d:D):Option String:=match look S d with
 | some (.str _)=>some "str"
 | some (.lst _)=>some "list"
 | some (.dct _ _ _)=>some "dict"
 | some (.tup _)=>some "tuple"
 | some (.int _)=>some "int"
 | some (.bl _)=>some "bool"
 | some .non=>some "NoneType"
 | some (.st _)=>some "set"
 | _=>none
noncomputable def eMt (T:String) (g:Store->D->List D->Option (D × Store)) (o:EM) (a:AM):EM:=fun env S=>(o env S).bind fun x S1=>if tyD S1 x=some T then(a env S1).bind fun xs S2=>zSo (g S2 x xs)else .bad
noncomputable def asI:D->Option Int
 | .int i=>some i
 | _=>none
noncomputable def pNo:Env->Store->Rs (Option Int):=fun _ S=>.ok none S
noncomputable def pYes (a:EM):Env->Store->Rs (Option Int):=fun env S=>(a env S).bind fun x S1=>lift ((asI x).map some) S1
noncomputable def eSl (g:Store->D->Option Int->Option Int->Option D) (a:EM) (lo hi:Env->Store->Rs (Option Int)):EM:=fun env S=>
 (a env S).bind fun x S1=>(lo env S1).bind fun l S2=>(hi env S2).bind fun h S3=>lift (g S3 x l h) S3
noncomputable def asB:D->Option Bool
 | .bl b=>some b
 | _=>none
noncomputable def tB (a:EM):TM:=fun env S=>(a env S).bind fun x S1=>lift (asB x) S1
noncomputable def most:Nat:=2 ^ 24
noncomputable def truth (S:Store) (d:D):Option Bool:=match look S d with
 | some (.bl b)=>some b
 | some (.int i)=>some (decide (i≠0))
 | some (.str x)=>if x.length<=most then some (decide (x.length≠0))else none
 | some (.tup l)=>some (decide (l≠[]))
 | some (.lst l)=>some (decide (l≠[]))
 | some .non=>some false
 | _=>none
noncomputable def tTru (a:EM):TM:=fun env S=>(a env S).bind fun x S1=>lift (truth S1 x) S1
noncomputable def tAnd (a b:TM):TM:=fun env S=>(a env S).bind fun c S1=>if c=true then b env S1 else .ok false S1
noncomputable def tOr (a b:TM):TM:=fun env S=>(a env S).bind fun c S1=>if c=true then .ok true S1 else b env S1
noncomputable def tNot (a:TM):TM:=fun env S=>(a env S).bind fun c S1=>.ok (!c) S1
noncomputable def tYes:TM:=fun _ S=>.ok true S
noncomputable def eAnd (a b:EM):EM:=fun env S=>(a env S).bind fun x S1=>(lift (asB x) S1).bind fun c S1=>if c=true then b env S1 else .ok (.bl false) S1
noncomputable def eOr (a b:EM):EM:=fun env S=>(a env S).bind fun x S1=>(lift (asB x) S1).bind fun c S1=>if c=true then .ok (.bl true) S1 else b env S1
noncomputable def eNot (a:EM):EM:=fun env S=>(a env S).bind fun x S1=>(lift (asB x) S1).bind fun c S1=>.ok (.bl (!c)) S1
noncomputable def eIf (c:TM) (a b:EM):EM:=fun env S=>(c env S).bind fun k S1=>if k=true then a env S1 else b env S1
structure Walk where
 its:List D
 gd:List (Nat × D)
noncomputable def gOk (S:Store) (gd:List (Nat × D)):Prop:=∀p∈gd,S[p.1]?=some p.2
noncomputable abbrev IM:=Env->Store->Rs Walk
noncomputable def gdOf (S:Store):D->List (Nat × D)
 | .ref n=>match S[n]? with
  | some d=>[(n,d)]
  | none=>[]
 | _=>[]
noncomputable def chars (x:Str):List D:=x.cps.toList.map fun c=>.str ⟨#[c]⟩
noncomputable def zBn (S:Store) (d:D):Option Walk:=match look S d with
 | some (.tup l)=>some ⟨l,gdOf S d⟩
 | some (.lst l)=>some ⟨l,gdOf S d⟩
 | some (.str x)=>if x.cps.all (·<128)then some ⟨chars x,[]⟩else none
 | _=>none
noncomputable def iVal (a:EM):IM:=fun env S=>(a env S).bind fun x S1=>lift (zBn S1 x) S1
noncomputable def fits62 (i:Int):Bool:=decide (-(2 ^ 62)<=i/\i<2 ^ 62)
noncomputable def zFd (i j:Int):List D:=(List.range (j-i).toNat).map fun(k:Nat)=>.int (i+k)
noncomputable def zFy:List D->Option Walk
 | [.int j]=>if fits62 j then some ⟨zFd 0 j,[]⟩else none
 | [.int i,.int j]=>if fits62 i && fits62 j then some ⟨zFd i j,[]⟩else none
 | _=>none
noncomputable def zBq (a:AM):IM:=fun env S=>(a env S).bind fun xs S1=>lift (zFy xs) S1
noncomputable def zEa (l:List D) (n:Nat):List D:=match l with
 | []=>[]
 | d::r=>.tup [.int n,d]::zEa r (n+1)
noncomputable def gName (i:Nat):GM:=fun _ d env=>some (env.set i (some d))
noncomputable def gAll:List GM->Store->List D->Env->Option Env
 | [],_,[],env=>some env
 | g::gs,S,d::ds,env=>match g S d env with
  | some env'=>gAll gs S ds env'
  | none=>none
 | _,_,_,_=>none
noncomputable def gTup (gs:List GM):GM:=fun S d env=>match items S d with
 | some l=>gAll gs S l env
 | none=>none
noncomputable def zDv (gd:List (Nat × D)) (g:GM) (c:TM) (e:EM):Nat->List D->Env->Store->Rs (List D)
 | _,[],_,S=>if gOk S gd then .ok [] S else .bad
 | k,d::r,env,S=>if gOk S gd/\k<most then(match g S d env with
  | some env'=>(c env' S).bind fun b S1=>if b=true then(e env' S1).bind fun v S2=>(zDv gd g c e (k+1) r env' S2).bind fun vs S3=>.ok (v::vs) S3 else zDv gd g c e k r env' S1
  | none=>.bad)else .bad
noncomputable def compEnv (own:Nat) (ix:List Nat) (env:Env):Env:=List.replicate own none++ix.map fun i=>(env[i]?).join
noncomputable def zCs (own:Nat) (ix:List Nat) (i:IM) (g:GM) (c:TM) (e:EM):EM:=fun env S=>
 (i env S).bind fun w S1=>(zDv w.gd g c e 0 w.its (compEnv own ix env) S1).bind fun vs S2=>.ok (.lst vs) S2
noncomputable def zB6:SM:=fun env S=>.nx env S
noncomputable def sSeq (a b:SM):SM:=fun env S=>match a env S with
 | .nx e S1=>b e S1
 | r=>r
noncomputable def sSet (i:Nat) (e:EM):SM:=fun env S=>(e env S).then fun d S1=>.nx (env.set i (some d)) S1
noncomputable def sUnp (g:GM) (e:EM):SM:=fun env S=>(e env S).then fun d S1=>match g S1 d env with
 | some env'=>.nx env' S1
 | none=>.bad
noncomputable def zDg (e:EM):SM:=fun env S=>(e env S).then fun _ S1=>.nx env S1
noncomputable def sRet (e:EM):SM:=fun env S=>(e env S).then fun d S1=>.rt d S1
noncomputable def zWg:SM:=fun _ S=>.rt .non S
noncomputable def sIf (c:TM) (a b:SM):SM:=fun env S=>(c env S).then fun k S1=>if k=true then a env S1 else b env S1
noncomputable def zLj:List Nat->List D->Env->Option Env
 | [],[],env=>some env
 | i::is,d::ds,env=>zLj is ds (env.set i (some d))
 | _,_,_=>none
noncomputable def sPar (is:List Nat) (a:AM):SM:=fun env S=>(a env S).then fun ds S1=>match zLj is ds env with
 | some env'=>.nx env' S1
 | none=>.bad
noncomputable def sPut (g:Store->D->D->D->Option Store) (o i v:EM):SM:=fun env S=>(v env S).then fun y S1=>(o env S1).then fun x S2=>(i env S2).then fun k S3=>match g S3 x k y with
 | some S4=>.nx env S4
 | none=>.bad
noncomputable def forL (gd:List (Nat × D)) (g:GM) (b:SM):List D->Env->Store->SR
 | [],env,S=>if gOk S gd then .nx env S else .bad
 | d::r,env,S=>if gOk S gd then(match g S d env with
  | some env'=>(match b env' S with
   | .nx e S1=>forL gd g b r e S1
   | .ct e S1=>forL gd g b r e S1
   | .bk e S1=>.nx e S1
   | q=>q)
  | none=>.bad)else .bad
noncomputable def sFor (i:IM) (g:GM) (b:SM):SM:=fun env S=>(i env S).then fun w S1=>forL w.gd g b w.its env S1
noncomputable def zB4 (c:TM) (b:SM):Nat->Env->Store->SR
 | 0,_,_=>.bad
 | n+1,env,S=>(c env S).then fun k S1=>if k=true then(match b env S1 with
   | .nx e S2=>zB4 c b n e S2
   | .ct e S2=>zB4 c b n e S2
   | .bk e S2=>.nx e S2
   | q=>q)else .nx env S1
noncomputable def zFa (c:TM) (b:SM):SM:=fun env S=>if h:∃n,zB4 c b n env S≠.bad then zB4 c b (choose h) env S else .bad
theorem zC2 {c:TM}{b:SM}:∀{n:Nat}{env:Env}{S:Store},zB4 c b n env S≠.bad->∀m,n<=m->zB4 c b m env S=zB4 c b n env S
 | 0,_,_,h,_,_=>absurd rfl h
 | n+1,env,S,h,m,hm=>by
  obtain⟨m,rfl⟩:∃k,m=k+1:=⟨m-1,by nofun⟩
  unfold zB4 at h ⊢
  cases hc:c env S with
  | ok k S1=>
   rw[hc]at h
   simp only[Rs.then_ok]at h ⊢
   by_cases hk:k=true
   ·rw[xc hk]at h ⊢
    rw[xc hk]
    cases hb:b env S1 with
    | nx e S2=>rw[hb]at h;exact zC2 h m (by nofun)
    | ct e S2=>rw[hb]at h;exact zC2 h m (by nofun)
    | _=>rfl
   ·rw[xf hk,xf hk]
  | ex x S1=>rfl
  | bad=>rfl
theorem zLm {c:TM}{b:SM}{n:Nat}{env:Env}{S:Store}(h:zB4 c b n env S≠.bad):zFa c b env S=zB4 c b n env S:=by
 unfold zFa
 have hx:∃n,zB4 c b n env S≠.bad:=⟨n,h⟩
 rw[dif_pos hx]
 have h1:=choose_spec hx
 rw[<- zC2 h1 (max (choose hx) n) (Nat.le_max_left _ _),<- zC2 h (max (choose hx) n) (Nat.le_max_right _ _)]
noncomputable def keeps (n:Nat):Store->Store->Prop
 | [],_=>True
 | a::r,b::t=>(a=b\/b.low n=true)/\keeps n r t
 | _::_,[]=>False
noncomputable def fin (S:Store) (d:D) (S':Store):Rs D:=
 if keeps S.length S S' then
  if d.low S.length=true then .ok d (S'.take S.length)
  else match d with
   | .ref n=>match S'[n]? with
    | some c=>if c.low S.length=true then .ok c (S'.take S.length)else .ok d S'
    | none=>.bad
   | _=>.ok d S'
 else .ok d S'
noncomputable def zB1 (np nl:Nat) (b:SM):Fn:=fun ds S=>if ds.length=np then
  (match b (ds.map some++List.replicate (nl-np) none) S with
  | .nx _ S'=>fin S .non S'
  | .rt d S'=>fin S d S'
  | .ex x S'=>.ex x S'
  | _=>.bad)
 else .bad
noncomputable def zGo (np nl:Nat) (b:SM):Fn:=fun ds S=>if ds.length=np then
  (match b (ds.map some++List.replicate (nl-np) none) S with
  | .nx _ S'=>.ok .non S'
  | .rt d S'=>.ok d S'
  | .ex x S'=>.ex x S'
  | _=>.bad)
 else .bad
end
end DS
namespace L2
open PySem PySem.Spec PyProof.Rows
open DS (D Store Exn Rs SR)
noncomputable abbrev Js:=List Addr
noncomputable def TAt (K:PySem.W.Frag) (J:Js) (H:Hp) (a:Addr) (xs:List V):Prop:=H a=some (.tup xs)/\a ∉ J
noncomputable def KAt (K:PySem.W.Frag) (a:Addr) (xs:List V):Prop:=∃(o:Obj) (its:Array Value) (n:Nat),K.lookup a=some o/\o.cls=.type "tuple"/\o.data=.seq its n/\its.size<=sizeLine/\Vals xs its.toList
noncomputable def LAt (K:PySem.W.Frag) (J:Js) (H:Hp) (a:Addr) (xs:List V):Prop:=H a=some (.lst xs)/\a ∉ J
noncomputable def SAt (K:PySem.W.Frag) (J:Js) (H:Hp) (a:Addr) (xs:List V):Prop:=
 (Rd H a (.lst xs)/\a ∉ J)\/∃(o:Obj) (its:Array Value) (n:Nat),K.lookup a=some o/\o.cls=.type "list"/\o.dict=none/\o.data=.seq its n/\its.size<=sizeLine/\Vals xs its.toList
noncomputable def keyD:Key->D
 | .inl i=>.int i
 | .inr x=>.str x
noncomputable def zL4 (k:List Key):D:=.tup (k.map keyD)
noncomputable def DOb (o:HO) (t:Bool) (ks:List D) (xs:List V):Prop:=
 (t=false/\∃kvs:List (Key × V),o=.dK kvs/\ks=kvs.map (fun p=>keyD p.1)/\xs=kvs.map (·.2)) \/
  (t=true/\∃kvs:List (List Key × V),o=.dT kvs/\ks=kvs.map (fun p=>zL4 p.1)/\xs=kvs.map (·.2))
mutual
noncomputable def Rep (K:PySem.W.Frag) (J:Js) (H:Hp):D->V->Prop
 | .non,v=>v=.non
 | .bl b,v=>v=.bl b
 | .int i,v=>v=.int i
 | .str x,v=>v=.str x
 | .ty n,v=>v=.ty n
 | .tup ds,v=>∃a xs,v=.ref a/\TAt K J H a xs/\RepL K J H ds xs
 | .lst ds,v=>∃a xs,v=.ref a/\LAt K J H a xs/\RepL K J H ds xs
 | .ktup ds,v=>∃a xs,v=.ref a/\KAt K a xs/\RepL K J H ds xs
 | .klst ds,v=>∃a xs,v=.ref a/\SAt K J H a xs/\RepL K J H ds xs
 | .dct t ks vs,v=>∃a o xs,v=.ref a/\a ∉ J/\H a=some o/\DOb o t ks xs/\RepL K J H vs xs
 | .st _,_=>False
 | .ref n,v=>∃a,J[n]?=some a/\v=.ref a
noncomputable def RepL (K:PySem.W.Frag) (J:Js) (H:Hp):List D->List V->Prop
 | [],xs=>xs=[]
 | d::ds,xs=>∃x r,xs=x::r/\Rep K J H d x/\RepL K J H ds r
end
noncomputable def ObD (K:PySem.W.Frag) (J:Js) (H:Hp):D->HO->Prop
 | .lst ds,o=>∃xs,o=.lst xs/\RepL K J H ds xs
 | .dct t ks vs,o=>∃xs,DOb o t ks xs/\RepL K J H vs xs
 | _,_=>False
noncomputable def RepO (K:PySem.W.Frag) (J:Js) (H:Hp) (d:D) (a:Addr):Prop:=∃o,H a=some o/\ObD K J H d o
structure AbS (K:PySem.W.Frag) (J:Js) (S:Store) (H:Hp):Prop where
 len:J.length=S.length
 nd:J.Nodup
 ob:∀(i:Nat) (a:Addr) (d:D),J[i]?=some a->S[i]?=some d->RepO K J H d a
structure Grow (J:Js) (H:Hp) (J':Js) (H':Hp):Prop where
 pre:∀(i:Nat) (a:Addr),J[i]?=some a->J'[i]?=some a
 new:∀a∈J',a ∉ J->H a=none
 keep:∀b o,b ∉ J->H b=some o->H' b=some o
 dom:∀b,H' b=none->H b=none
structure RepE (K:PySem.W.Frag) (J:Js) (H:Hp) (env:DS.Env) (σ:St):Prop where
 len:env.length=σ.length
 get:∀(i:Nat) (d:D),env[i]?=some (some d)->∃v,σ[i]?=some (some v)/\Rep K J H d v
section
variable {K:PySem.W.Frag}{J J' J1 J2:Js}{H H' H1 H2:Hp}{a:Addr}{d:D}{v:V}{S S':Store}{env:DS.Env}{σ:St}
theorem Grow.refl:Grow J H J H:=⟨fun _ _ h=>h,fun _ h n=>absurd h n,fun _ _ _ h=>h,fun _ h=>h⟩
theorem Grow.trans (g:Grow J H J1 H1) (k:Grow J1 H1 J2 H2):Grow J H J2 H2 where
 pre:=fun i a h=>k.pre i a (g.pre i a h)
 new:=fun a h n=>by
  by_cases z:a∈J1
  ·exact g.new a z n
  ·exact g.dom a (k.new a h z)
 keep:=fun b o n h=>k.keep b o (fun z=>by rw[g.new b z n]at h;cases h) (g.keep b o n h)
 dom:=fun b h=>g.dom b (k.dom b h)
theorem Grow.out {o:HO}(g:Grow J H J' H') (n:a ∉ J) (h:H a=some o):a ∉ J':=fun z=>by rw[g.new a z n]at h;cases h
theorem Grow.rd {u:HO}(g:Grow J H J' H') (n:a ∉ J) (h:Rd H a u):Rd H' a u/\a ∉ J':=by
 rcases h with h|⟨o,h⟩
 ·exact⟨.inl (g.keep _ _ n h),g.out n h⟩
 ·exact⟨.inr ⟨o,g.keep _ _ n h⟩,g.out n h⟩
theorem TAt.sq {xs:List V}(h:TAt K J H a xs):SqT K H a xs:=.inl (.inl h.1)
theorem KAt.sq {xs:List V}(h:KAt K a xs):SqT K H a xs:=.inr h
theorem LAt.sq {xs:List V}(h:LAt K J H a xs):SqL K H a xs:=.inl (.inl h.1)
theorem SAt.sq {xs:List V}(h:SAt K J H a xs):SqL K H a xs:=by
 rcases h with h|h
 ·exact .inl h.1
 ·exact .inr h
theorem SAt.grow {xs:List V}(g:Grow J H J' H') (h:SAt K J H a xs):SAt K J' H' a xs:=by
 rcases h with h|h
 ·exact .inl (g.rd h.2 h.1)
 ·exact .inr h
theorem TAt.grow {xs:List V}(g:Grow J H J' H') (h:TAt K J H a xs):TAt K J' H' a xs:=⟨g.keep _ _ h.2 h.1,g.out h.2 h.1⟩
theorem LAt.grow {xs:List V}(g:Grow J H J' H') (h:LAt K J H a xs):LAt K J' H' a xs:=⟨g.keep _ _ h.2 h.1,g.out h.2 h.1⟩
mutual
theorem Rep.grow (g:Grow J H J' H'):∀(d:D) (v:V),Rep K J H d v->Rep K J' H' d v
 | .non,_,h=>h
 | .bl _,_,h=>h
 | .int _,_,h=>h
 | .str _,_,h=>h
 | .ty _,_,h=>h
 | .tup ds,v,⟨a,xs,e,t,r⟩=>⟨a,xs,e,t.grow g,RepL.grow g ds xs r⟩
 | .lst ds,v,⟨a,xs,e,t,r⟩=>⟨a,xs,e,t.grow g,RepL.grow g ds xs r⟩
 | .ktup ds,v,⟨a,xs,e,t,r⟩=>⟨a,xs,e,t,RepL.grow g ds xs r⟩
 | .klst ds,v,⟨a,xs,e,t,r⟩=>⟨a,xs,e,t.grow g,RepL.grow g ds xs r⟩
 | .dct _ ks vs,v,⟨a,o,xs,e,n,h,t,r⟩=>⟨a,o,xs,e,g.out n h,g.keep _ _ n h,t,RepL.grow g vs xs r⟩
 | .st _,_,h=>h
 | .ref n,v,⟨a,e,h⟩=>⟨a,g.pre n a e,h⟩
theorem RepL.grow (g:Grow J H J' H'):∀(ds:List D) (xs:List V),RepL K J H ds xs->RepL K J' H' ds xs
 | [],_,h=>h
 | d::ds,xs,⟨x,r,e,h,t⟩=>⟨x,r,e,Rep.grow g d x h,RepL.grow g ds r t⟩
end
theorem RepE.grow (g:Grow J H J' H') (h:RepE K J H env σ):RepE K J' H' env σ:=⟨h.len,fun i d e=>by
 obtain⟨v,q,r⟩:=h.get i d e
 exact⟨v,q,Rep.grow g d v r⟩⟩
theorem RepL.length:∀{ds:List D}{xs:List V},RepL K J H ds xs->ds.length=xs.length
 | [],_,h=>by cases h;rfl
 | _::ds,_,⟨x,r,e,_,t⟩=>by subst e;simp[RepL.length t]
theorem RepL.get:∀{ds:List D}{xs:List V}{i:Nat}{d:D},RepL K J H ds xs->ds[i]?=some d->∃x,xs[i]?=some x/\Rep K J H d x
 | [],_,_,_,_,e=>by simp at e
 | d::ds,_,0,_,⟨x,r,e,h,t⟩,q=>by subst e;simp at q;subst q;exact⟨x,rfl,h⟩
 | _::ds,_,i+1,d,⟨x,r,e,_,t⟩,q=>by subst e;exact RepL.get (i:=i) t (by simpa using q)
theorem RepL.get' {ds:List D}{xs:List V}{i:Nat}{x:V}(h:RepL K J H ds xs) (e:xs[i]?=some x):∃d,ds[i]?=some d/\Rep K J H d x:=by
 have hl:=h.length
 have hi:i<ds.length:=by rw[hl];exact(xE.mp e).1
 obtain⟨y,ey,r⟩:=h.get (xp hi)
 rw[e]at ey;cases ey
 exact⟨_,xp hi,r⟩
theorem RepL.append:∀{ds es:List D}{xs ys:List V},RepL K J H ds xs->RepL K J H es ys->RepL K J H (ds++es) (xs++ys)
 | [],_,_,_,h,k=>by cases h;exact k
 | d::ds,_,_,_,⟨x,r,e,h,t⟩,k=>by subst e;exact⟨x,_,rfl,h,t.append k⟩
theorem RepL.snoc {ds:List D}{xs:List V}{x:V}(h:RepL K J H ds xs) (r:Rep K J H d x):RepL K J H (ds++[d]) (xs++[x]):=h.append ⟨x,[],rfl,r,rfl⟩
theorem RepL.take:∀{ds:List D}{xs:List V}(n:Nat),RepL K J H ds xs->RepL K J H (ds.take n) (xs.take n)
 | _,_,0,_=>rfl
 | [],_,_+1,h=>by cases h;rfl
 | d::ds,_,n+1,⟨x,r,e,h,t⟩=>by subst e;exact⟨x,_,rfl,h,t.take n⟩
theorem RepL.drop:∀{ds:List D}{xs:List V}(n:Nat),RepL K J H ds xs->RepL K J H (ds.drop n) (xs.drop n)
 | _,_,0,h=>h
 | [],_,_+1,h=>by cases h;rfl
 | d::ds,_,n+1,⟨x,r,e,h,t⟩=>by subst e;exact t.drop n
theorem RepL.reverse:∀{ds:List D}{xs:List V},RepL K J H ds xs->RepL K J H ds.reverse xs.reverse
 | [],_,h=>by cases h;rfl
 | d::ds,_,⟨x,r,e,h,t⟩=>by subst e;rw[List.reverse_cons,List.reverse_cons];exact t.reverse.snoc h
theorem RepL.set:∀{ds:List D}{xs:List V}{x:V}(n:Nat),RepL K J H ds xs->Rep K J H d x->RepL K J H (ds.set n d) (xs.set n x)
 | [],_,_,_,h,_=>by cases h;rfl
 | _::ds,_,_,0,⟨y,r,e,_,t⟩,k=>by subst e;exact⟨_,_,rfl,k,t⟩
 | _::ds,_,_,n+1,⟨y,r,e,h,t⟩,k=>by subst e;exact⟨_,_,rfl,h,RepL.set n t k⟩
theorem RepL.ints:∀{ns:List Int},RepL K J H (ns.map D.int) (ns.map V.int)
 | []=>rfl
 | n::ns=>⟨_,_,rfl,rfl,RepL.ints⟩
theorem AbS.lt (h:AbS K J S H) {n:Nat}(e:J[n]?=some a):n<S.length:=by rw[<- h.len];exact(xE.mp e).1
theorem AbS.at (h:AbS K J S H) {n:Nat}(e:J[n]?=some a):∃d,S[n]?=some d/\RepO K J H d a:=
 ⟨S[n]'(h.lt e),xp (h.lt e),h.ob n a _ e (xp (h.lt e))⟩
theorem AbS.mem (h:AbS K J S H) (m:a∈J):∃o,H a=some o:=by
 obtain⟨i,e⟩:=uC.mp m
 obtain⟨d,_,o,r,_⟩:=h.at e
 exact⟨o,r⟩
theorem AbS.out (h:AbS K J S H) (n:H a=none):a ∉ J:=fun m=>by
 obtain⟨o,e⟩:=h.mem m
 rw[n]at e;cases e
theorem ObD.imp {o:HO}(rl:∀ds xs,RepL K J H ds xs->RepL K J' H' ds xs):∀{d:D},ObD K J H d o->ObD K J' H' d o
 | .lst ds,⟨xs,e,r⟩=>⟨xs,e,rl _ _ r⟩
 | .dct _ ks vs,⟨xs,e,r⟩=>⟨xs,e,rl _ _ r⟩
 | .non,h=>False.elim h
 | .bl _,h=>False.elim h
 | .int _,h=>False.elim h
 | .str _,h=>False.elim h
 | .ty _,h=>False.elim h
 | .tup _,h=>False.elim h
 | .ktup _,h=>False.elim h
 | .klst _,h=>False.elim h
 | .st _,h=>False.elim h
 | .ref _,h=>False.elim h
theorem ObD.grow {o:HO}(g:Grow J H J' H') (h:ObD K J H d o):ObD K J' H' d o:=h.imp (RepL.grow g)
theorem Grow.of (k:∀b o,H b=some o->H' b=some o):Grow J H J H':=⟨fun _ _ h=>h,fun _ h n=>absurd h n,fun b o _ h=>k b o h,fun b h=>by
 cases e:H b with
 | none=>rfl
 | some o=>rw[k b o e]at h;cases h⟩
theorem AbS.more (h:AbS K J S H) (k:∀b o,H b=some o->H' b=some o):AbS K J S H':=
 ⟨h.len,h.nd,fun i a d e q=>by
  obtain⟨o,eo,r⟩:=h.ob i a d e q
  exact⟨o,k _ _ eo,r.grow (.of k)⟩⟩
theorem zEf {p:Addr}{o:HO}(n:H p=none):∀b u,H b=some u->upd H p o b=some u:=fun b u e=>by rw[zAd (zAc e n)];exact e
theorem AbS.push {p:Addr}{o:HO}(h:AbS K J S H) (n:H p=none):AbS K J S (upd H p o):=h.more (zEf n)
theorem Grow.push {p:Addr}{o:HO}(n:H p=none):Grow J H J (upd H p o):=.of (zEf n)
theorem Grow.name {p:Addr}{o:HO}(n:H p=none):Grow J H (J++[p]) (upd H p o) where
 pre:=fun i a h=>by rw[vq (xE.mp h).1];exact h
 new:=fun a h z=>by
  rcases xP.mp h with h|h
  ·exact absurd h z
  ·rw[xI.mp h];exact n
 keep:=fun b u _ e=>zEf n b u e
 dom:=(Grow.push (J:=J) n).dom
theorem AbS.name {p:Addr}{o:HO}(h:AbS K J S H) (n:H p=none) (r:ObD K J H d o):AbS K (J++[p]) (S++[d]) (upd H p o):=by
 have hp:p ∉ J:=h.out n
 have g:Grow J H (J++[p]) (upd H p o):=.name n
 refine⟨by simp[h.len],?_,fun i a d' e q=>?_⟩
 ·refine uX.mpr ⟨h.nd,(xU.mpr ⟨by simp,vg⟩),fun x hx y hy=>?_⟩
  rintro rfl
  exact hp (by rw[<- xI.mp hy];exact hx)
 ·by_cases hi:i<J.length
  ·rw[vq hi]at e
   rw[vq (by rw[<- h.len];exact hi)]at q
   obtain⟨o',eo,r'⟩:=h.ob i a d' e q
   exact⟨o',zEf n _ _ eo,r'.grow g⟩
  ·have hl:i=J.length:=by
    have:=(xE.mp e).1
    simp at this
    lia
   subst hl
   rw[vH (xh _)]at e
   rw[vH (by rw[h.len];exact xh _),h.len]at q
   simp at e q
   subst e q
   exact⟨o,zAi,r.grow g⟩
theorem Grow.write {n:Nat}{o:HO}(e:J[n]?=some a):Grow J H J (upd H a o) where
 pre:=fun _ _ h=>h
 new:=fun b h z=>absurd h z
 keep:=fun b u z h=>by rw[zAd (fun q=>z (by rw[q];exact uw e))];exact h
 dom:=fun b h=>by
  by_cases q:b=a
  ·subst q;rw[zAi]at h;cases h
  ·rw[zAd q]at h;exact h
theorem AbS.write {n:Nat}{o:HO}(h:AbS K J S H) (e:J[n]?=some a) (r:ObD K J H d o):AbS K J (S.set n d) (upd H a o):=by
 have g:Grow J H J (upd H a o):=.write e
 refine⟨by simp[h.len],h.nd,fun i b d' ei q=>?_⟩
 by_cases hi:i=n
 ·subst hi
  rw[e]at ei;cases ei
  rw[vR (h.lt e)]at q
  cases q
  exact⟨o,zAi,r.grow g⟩
 ·rw[vS (xB hi)]at q
  obtain⟨o',eo,r'⟩:=h.ob i b d' ei q
  have hb:b≠a:=fun z=>by
   subst z
   exact hi ((List.getElem?_inj (xE.mp ei).1 h.nd).mp (ei.trans e.symm))
  exact⟨o',by rw[zAd hb];exact eo,r'.grow g⟩
theorem lowL_iff {n:Nat}:∀{l:List D},DS.lowL n l=true <-> ∀d∈l,d.low n=true
 | []=>⟨(fun _ _ h=>nomatch h),fun _=>rfl⟩
 | d::r=>by
  show(d.low n && DS.lowL n r)=true <-> _
  rw[xA,lowL_iff (l:=r)]
  simp
theorem zJn (n:Nat) (k:Key):(keyD k).low n=true:=by cases k <;> rfl
theorem DOb.low {o:HO}{t:Bool}{ks:List D}{xs:List V}{n:Nat}(h:DOb o t ks xs):DS.lowL n ks=true:=by
 rcases h with⟨_,kvs,_,rfl,_⟩|⟨_,kvs,_,rfl,_⟩
 ·exact lowL_iff.mpr fun d hd=>by obtain⟨p,_,rfl⟩:=xt.mp hd;exact zJn n p.1
 ·exact lowL_iff.mpr fun d hd=>by
   obtain⟨p,_,rfl⟩:=xt.mp hd
   show DS.lowL n (p.1.map keyD)=true
   exact lowL_iff.mpr fun d hd=>by obtain⟨q,_,rfl⟩:=xt.mp hd;exact zJn n q
mutual
theorem Rep.low:∀(d:D) (v:V),Rep K J H d v->d.low J.length=true
 | .non,_,_=>rfl
 | .bl _,_,_=>rfl
 | .int _,_,_=>rfl
 | .str _,_,_=>rfl
 | .ty _,_,_=>rfl
 | .tup ds,v,⟨a,xs,e,t,r⟩=>RepL.low ds xs r
 | .lst ds,v,⟨a,xs,e,t,r⟩=>RepL.low ds xs r
 | .ktup ds,v,⟨a,xs,e,t,r⟩=>RepL.low ds xs r
 | .klst ds,v,⟨a,xs,e,t,r⟩=>RepL.low ds xs r
 | .dct _ ks vs,v,⟨a,o,xs,e,n,h,t,r⟩=>by
  show(DS.lowL J.length ks && DS.lowL J.length vs)=true
  rw[RepL.low vs xs r,Bool.and_true]
  exact DOb.low t
 | .st _,_,h=>False.elim h
 | .ref n,v,⟨a,e,h⟩=>xq (xE.mp e).1
theorem RepL.low:∀(ds:List D) (xs:List V),RepL K J H ds xs->DS.lowL J.length ds=true
 | [],_,_=>rfl
 | d::ds,xs,⟨x,r,e,h,t⟩=>by
  show(d.low J.length && DS.lowL J.length ds)=true
  rw[Rep.low d x h,RepL.low ds r t];rfl
end
theorem ObD.low {o:HO}:∀{d:D},ObD K J H d o->d.low J.length=true
 | .lst ds,⟨xs,_,r⟩=>RepL.low ds xs r
 | .dct _ ks vs,⟨xs,t,r⟩=>by
  show(DS.lowL J.length ks && DS.lowL J.length vs)=true
  rw[RepL.low vs xs r,Bool.and_true]
  exact DOb.low t
 | .non,h=>False.elim h
 | .bl _,h=>False.elim h
 | .int _,h=>False.elim h
 | .str _,h=>False.elim h
 | .ty _,h=>False.elim h
 | .tup _,h=>False.elim h
 | .ktup _,h=>False.elim h
 | .klst _,h=>False.elim h
 | .st _,h=>False.elim h
 | .ref _,h=>False.elim h
theorem zCz {n:Nat}(h:a ∉ J):a ∉ J.take n:=fun z=>h (List.mem_of_mem_take z)
mutual
theorem Rep.cut (n:Nat):∀(d:D) (v:V),d.low n=true->Rep K J H d v->Rep K (J.take n) H d v
 | .non,_,_,h=>h
 | .bl _,_,_,h=>h
 | .int _,_,_,h=>h
 | .str _,_,_,h=>h
 | .ty _,_,_,h=>h
 | .tup ds,v,l,⟨a,xs,e,t,r⟩=>⟨a,xs,e,⟨t.1,zCz t.2⟩,RepL.cut n ds xs l r⟩
 | .ktup ds,v,l,⟨a,xs,e,t,r⟩=>⟨a,xs,e,t,RepL.cut n ds xs l r⟩
 | .klst ds,v,l,⟨a,xs,e,t,r⟩=>⟨a,xs,e,by
   rcases t with t|t
   ·exact .inl ⟨t.1,zCz t.2⟩
   ·exact .inr t,RepL.cut n ds xs l r⟩
 | .lst ds,v,l,⟨a,xs,e,t,r⟩=>⟨a,xs,e,⟨t.1,zCz t.2⟩,RepL.cut n ds xs l r⟩
 | .dct _ ks vs,v,l,⟨a,o,xs,e,q,h,t,r⟩=>⟨a,o,xs,e,zCz q,h,t,RepL.cut n vs xs (by
   have l:(DS.lowL n ks && DS.lowL n vs)=true:=l
   rw[xA]at l
   exact l.2) r⟩
 | .st _,_,_,h=>h
 | .ref m,v,l,⟨a,e,h⟩=>⟨a,by rw[uv (uY l)];exact e,h⟩
theorem RepL.cut (n:Nat):∀(ds:List D) (xs:List V),DS.lowL n ds=true->RepL K J H ds xs->RepL K (J.take n) H ds xs
 | [],_,_,h=>h
 | d::ds,xs,l,⟨x,r,e,h,t⟩=>by
  have l:(d.low n && DS.lowL n ds)=true:=l
  rw[xA]at l
  exact⟨x,r,e,Rep.cut n d x l.1 h,RepL.cut n ds r l.2 t⟩
end
theorem ObD.cut {n:Nat}{o:HO}:∀{d:D},d.low n=true->ObD K J H d o->ObD K (J.take n) H d o
 | .lst ds,l,⟨xs,e,r⟩=>⟨xs,e,RepL.cut n ds xs l r⟩
 | .dct _ ks vs,l,⟨xs,t,r⟩=>⟨xs,t,RepL.cut n vs xs (by
   have l:(DS.lowL n ks && DS.lowL n vs)=true:=l
   rw[xA]at l
   exact l.2) r⟩
 | .non,_,h=>False.elim h
 | .bl _,_,h=>False.elim h
 | .int _,_,h=>False.elim h
 | .str _,_,h=>False.elim h
 | .ty _,_,h=>False.elim h
 | .tup _,_,h=>False.elim h
 | .ktup _,_,h=>False.elim h
 | .klst _,_,h=>False.elim h
 | .st _,_,h=>False.elim h
 | .ref _,_,h=>False.elim h
theorem zEs {n:Nat}:∀{S S':Store},DS.keeps n S S'->∀i,i<S.length->∃b,S'[i]?=some b/\(S[i]?=some b\/b.low n=true)
 | [],_,_,i,hi=>by simp at hi
 | a::r,[],h,_,_=>False.elim h
 | a::r,b::t,h,0,_=>⟨b,rfl,by
   rcases h.1 with e|e
   ·subst e;exact .inl rfl
   ·exact .inr e⟩
 | a::r,b::t,h,i+1,hi=>by simpa using zEs h.2 i (by simpa using hi)
theorem Grow.take (h:AbS K J S H) (g:Grow J H J' H'):J'.take S.length=J:=by
 refine List.ext_getElem? fun i=>?_
 by_cases hi:i<S.length
 ·rw[uv hi]
  have hj:i<J.length:=by rw[h.len];exact hi
  rw[xp hj]
  exact g.pre i _ (xp hj)
 ·rw[uf (by rw[vz];lia),uf (by rw[h.len];lia)]
theorem Grow.cut (g:Grow J H J' H'):Grow J H J H':=⟨fun _ _ h=>h,fun _ h n=>absurd h n,g.keep,g.dom⟩
theorem AbS.cut (h:AbS K J S H) (g:Grow J H J' H') (h':AbS K J' S' H') (k:DS.keeps S.length S S'):AbS K J (S'.take S.length) H':=by
 have e:=g.take h
 refine⟨?_,h.nd,fun i a d ei q=>?_⟩
 ·have l:∀i,i<S.length->i<S'.length:=fun i hi=>by
   obtain⟨b,eb,_⟩:=zEs k i hi
   exact(xE.mp eb).1
  rw[h.len,vz]
  by_cases z:S.length=0
  ·lia
  ·have:=l (S.length-1) (by nofun)
   lia
 ·have hi:=h.lt ei
  rw[uv hi]at q
  obtain⟨b,eb,lo⟩:=zEs k i hi
  rw[q]at eb;cases eb
  obtain⟨o,eo,r⟩:=h'.ob i a d (g.pre i a ei) q
  have low:d.low S.length=true:=by
   rcases lo with lo|lo
   ·obtain⟨o',_,r'⟩:=h.ob i a d ei lo
    have:=r'.low
    rw[h.len]at this
    exact this
   ·exact lo
  have:=r.cut low
  rw[e]at this
  exact⟨o,eo,this⟩
theorem zVq {d2:D}{S2:Store}(h:AbS K J S H) (g:Grow J H J' H') (h':AbS K J' S' H') (r:Rep K J' H' d v) (e:DS.fin S d S'=.ok d2 S2):∃J2,AbS K J2 S2 H'/\Grow J H J2 H'/\Rep K J2 H' d2 v:=by
 have ek:=g.take h
 unfold DS.fin at e
 by_cases k:DS.keeps S.length S S'
 ·rw[xc k]at e
  by_cases l:d.low S.length=true
  ·rw[xc l]at e
   cases e
   refine⟨J,h.cut g h' k,g.cut,?_⟩
   have:=Rep.cut _ _ _ l r
   rw[ek]at this
   exact this
  ·rw[xf l]at e
   cases d with
   | ref n=>
    obtain⟨a,ea,rfl⟩:=r
    obtain⟨c,ec,o,eo,rc⟩:=h'.at ea
    simp only[ec]at e
    by_cases lc:c.low S.length=true
    ·rw[xc lc]at e
     cases e
     refine⟨J,h.cut g h' k,g.cut,?_⟩
     have ha:a ∉ J:=fun z=>by
      obtain⟨i,ei⟩:=uC.mp z
      have hi:=h.lt ei
      have e2:=g.pre i a ei
      have:i=n:=(List.getElem?_inj (xE.mp e2).1 h'.nd).mp (e2.trans ea.symm)
      subst this
      exact l (xq hi)
     have rc2:=rc.cut lc
     rw[ek]at rc2
     cases d2 with
     | lst ds=>obtain⟨xs,rfl,rl⟩:=rc2;exact⟨a,xs,rfl,⟨eo,ha⟩,rl⟩
     | dct _ ks vs=>obtain⟨xs,t,rl⟩:=rc2;exact⟨a,o,xs,rfl,ha,eo,t,rl⟩
     | _=>exact False.elim rc2
    ·rw[xf lc]at e
     cases e
     exact⟨J',h',g,a,ea,rfl⟩
   | _=>cases e;exact⟨J',h',g,r⟩
 ·rw[xf k]at e
  cases e
  exact⟨J',h',g,r⟩
end
end L2
namespace L2
open PySem PySem.Spec PyProof.Rows
open DS (D Store Exn Rs SR)
noncomputable abbrev XE:=Exn->Store->Js->Hp->Prop
noncomputable def XE0:XE:=fun _ _ _ _=>False
noncomputable def Post {α:Type}(K:PySem.W.Frag) (E:XE) (J:Js) (H:Hp) (r:Rs α) (P:α->Store->Js->Hp->Prop):Prop:=match r with
 | .ok a S=>∀J' H',AbS K J' S H'->Grow J H J' H'->P a S J' H'
 | .ex x S=>∀J' H',AbS K J' S H'->Grow J H J' H'->E x S J' H'
 | .bad=>False
noncomputable def PostS (K:PySem.W.Frag) (E:XE) (J:Js) (H:Hp) (r:SR) (D:Ends):Prop:=match r with
 | .nx e S=>∀J' H' σ,AbS K J' S H'->Grow J H J' H'->RepE K J' H' e σ->D.nx σ H'
 | .rt d S=>∀J' H' v,AbS K J' S H'->Grow J H J' H'->Rep K J' H' d v->D.rt v H'
 | .bk e S=>∀J' H' σ,AbS K J' S H'->Grow J H J' H'->RepE K J' H' e σ->D.bk σ H'
 | .ct e S=>∀J' H' σ,AbS K J' S H'->Grow J H J' H'->RepE K J' H' e σ->D.ct σ H'
 | .ex x S=>∀J' H',AbS K J' S H'->Grow J H J' H'->E x S J' H'
 | .bad=>False
section
variable {α β:Type}{K:PySem.W.Frag}{E:XE}{J J1:Js}{H H1:Hp}{S:Store}
theorem Post.grow {r:Rs α}{P:α->Store->Js->Hp->Prop}(g:Grow J H J1 H1) (h:Post K E J H r P):Post K E J1 H1 r P:=by
 cases r with
 | ok a S=>exact fun J' H' h1 h2=>h J' H' h1 (g.trans h2)
 | ex x S=>exact fun J' H' h1 h2=>h J' H' h1 (g.trans h2)
 | bad=>exact h
theorem Post.bind {r:Rs α}{k:α->Store->Rs β}{P:β->Store->Js->Hp->Prop}(h:Post K E J H (r.bind k) P):Post K E J H r (fun a S J' H'=>Post K E J' H' (k a S) P):=by
 cases r with
 | ok a S=>exact fun J' H' _ g=>Post.grow g h
 | ex x S=>exact h
 | bad=>exact h
theorem Post.imp {r:Rs α}{P P':α->Store->Js->Hp->Prop}(h:Post K E J H r P) (k:∀a S J' H',r=.ok a S->AbS K J' S H'->Grow J H J' H'->P a S J' H'->P' a S J' H'):Post K E J H r P':=by
 cases r with
 | ok a S=>exact fun J' H' h1 h2=>k a S J' H' rfl h1 h2 (h J' H' h1 h2)
 | ex x S=>exact h
 | bad=>exact h
theorem Post.map {r:Rs α}{P P':α->Store->Js->Hp->Prop}(h:Post K E J H r P) (k:∀a S J' H',r=.ok a S->AbS K J' S H'->Grow J H J' H'->(∀J2 H2,AbS K J2 S H2->Grow J H J2 H2->P a S J2 H2)->P' a S J' H'):Post K E J H r P':=by
 cases r with
 | ok a S=>exact fun J' H' h1 h2=>k a S J' H' rfl h1 h2 h
 | ex x S=>exact h
 | bad=>exact h
theorem Post.lift {o:Option α}{P:α->Store->Js->Hp->Prop}(h:Post K E J H (DS.lift o S) P):∃a,o=some a/\∀J' H',AbS K J' S H'->Grow J H J' H'->P a S J' H':=by
 cases o with
 | some a=>exact⟨a,rfl,h⟩
 | none=>exact False.elim h
theorem PostS.grow {r:SR}{D:Ends}(g:Grow J H J1 H1) (h:PostS K E J H r D):PostS K E J1 H1 r D:=by
 cases r with
 | nx e S=>exact fun J' H' σ h1 h2=>h J' H' σ h1 (g.trans h2)
 | bk e S=>exact fun J' H' σ h1 h2=>h J' H' σ h1 (g.trans h2)
 | ct e S=>exact fun J' H' σ h1 h2=>h J' H' σ h1 (g.trans h2)
 | rt e S=>exact fun J' H' σ h1 h2=>h J' H' σ h1 (g.trans h2)
 | ex x S=>exact fun J' H' h1 h2=>h J' H' h1 (g.trans h2)
 | bad=>exact h
theorem PostS.then {r:Rs α}{k:α->Store->SR}{D:Ends}(h:PostS K E J H (r.then k) D):Post K E J H r (fun a S J' H'=>PostS K E J' H' (k a S) D):=by
 cases r with
 | ok a S=>exact fun J' H' _ g=>PostS.grow g h
 | ex x S=>exact h
 | bad=>exact h
end
section
variable (K:PySem.W.Frag) (E:XE)
noncomputable def tOf (m:DS.EM):TE:=fun σ H Q=>∃env S J,AbS K J S H/\RepE K J H env σ/\Post K E J H (m env S) (fun d _ J' H'=>∀v,Rep K J' H' d v->Q v H')
noncomputable def tOfF (m:DS.EM):TE:=fun σ H Q=>∃env S J,AbS K J S H/\RepE K J H env σ/\Post K E J H (m env S) (fun d _ J' H'=>∀p o,H' p=none->ObD K J' H' d o->Q (.ref p) (upd H' p o))
noncomputable def ttOf (m:DS.TM):TT:=fun σ H Q=>∃env S J,AbS K J S H/\RepE K J H env σ/\Post K E J H (m env S) (fun b _ _ H'=>Q b H')
noncomputable def aOf (m:DS.AM):TA:=fun σ H Q=>∃env S J,AbS K J S H/\RepE K J H env σ/\Post K E J H (m env S) (fun ds _ J' H'=>∀vs,RepL K J' H' ds vs->Q vs H')
noncomputable def tsOf (m:DS.SM):TS:=fun D σ H=>∃env S J,AbS K J S H/\RepE K J H env σ/\PostS K E J H (m env S) D
noncomputable def gOf (m:DS.GM):TG:=fun v σ H Q=>∃env S J d env',AbS K J S H/\RepE K J H env σ/\Rep K J H d v/\m S d env=some env'/\∀σ',RepE K J H env' σ'->Q σ' H
noncomputable def gsOf (m:Store->List D->DS.Env->Option DS.Env):TGs:=fun vs σ H Q=>∃env S J ds env',AbS K J S H/\RepE K J H env σ/\RepL K J H ds vs/\m S ds env=some env'/\∀σ',RepE K J H env' σ'->Q σ' H
structure ItOk (J0:Js) (H0:Hp) (w:DS.Walk) (I:It):Prop where
 go:∀(i:Nat) (H:Hp) (J:Js) (S:Store),AbS K J S H->Grow J0 H0 J H->DS.gOk S w.gd->i<w.its.length->I.go i H
 yld:∀(i:Nat) (H:Hp) (J:Js) (S:Store) (x:V) (H':Hp),AbS K J S H->Grow J0 H0 J H->DS.gOk S w.gd->I.yld i H x H'->∀d,w.its[i]?=some d->AbS K J S H'/\Grow J H J H'/\Rep K J H' d x
 stop:∀(i:Nat) (H:Hp) (J:Js) (S:Store),AbS K J S H->Grow J0 H0 J H->DS.gOk S w.gd->w.its.length<=i->I.stop i H
noncomputable def iOf (m:DS.IM):TI:=fun σ H R=>∃env S J,AbS K J S H/\RepE K J H env σ/\Post K E J H (m env S) (fun w _ J' H'=>∀I,ItOk K J' H' w I->R I H')
noncomputable def r2Of (g:Store->D->D->Option D):R2:=fun x y H Q=>∃J S d1 d2 d,AbS K J S H/\Rep K J H d1 x/\Rep K J H d2 y/\g S d1 d2=some d/\∀v H',AbS K J S H'->Grow J H J H'->Rep K J H' d v->Q v H'
noncomputable def r1Of (g:Store->D->Option D):V->Hp->VK->Prop:=fun x H Q=>∃J S d1 d,AbS K J S H/\Rep K J H d1 x/\g S d1=some d/\∀v H',AbS K J S H'->Grow J H J H'->Rep K J H' d v->Q v H'
noncomputable def cOf (g:Store->List D->Option D):List V->Hp->VK->Prop:=fun xs H Q=>∃J S ds d,AbS K J S H/\RepL K J H ds xs/\g S ds=some d/\∀v H',AbS K J S H'->Grow J H J H'->Rep K J H' d v->Q v H'
noncomputable def zWo (g:Store->D->D->Option D):R2:=fun x y H Q=>∃J S d1 d2 d,AbS K J S H/\Rep K J H d1 x/\Rep K J H d2 y/\g S d1 d2=some d/\∀p o H',AbS K J S H'->Grow J H J H'->H' p=none->ObD K J H' d o->Q (.ref p) (upd H' p o)
noncomputable def cOfF (g:Store->List D->Option D):List V->Hp->VK->Prop:=fun xs H Q=>∃J S ds d,AbS K J S H/\RepL K J H ds xs/\g S ds=some d/\∀p o H',AbS K J S H'->Grow J H J H'->H' p=none->ObD K J H' d o->Q (.ref p) (upd H' p o)
noncomputable def mOf (g:Store->D->List D->Option (D × Store)):V->List V->Hp->VK->Prop:=fun x xs H Q=>∃J S d1 ds d S',AbS K J S H/\Rep K J H d1 x/\RepL K J H ds xs/\g S d1 ds=some (d,S')/\∀v H',AbS K J S' H'->Grow J H J H'->Rep K J H' d v->Q v H'
noncomputable def spOf (F:DS.Fn):Sp:=fun vs H Q _=>∃J S ds,AbS K J S H/\RepL K J H ds vs/\Post K E J H (F ds S) (fun d _ J' H'=>∀v,Rep K J' H' d v->Q v H')
end
structure DE (X:Cx) (K:PySem.W.Frag) (E:XE) (e:Expr) (m:DS.EM):Prop where h:SE X e (tOf K E m)
structure DF (X:Cx) (K:PySem.W.Frag) (E:XE) (e:Expr) (m:DS.EM):Prop where h:SE X e (tOfF K E m)
structure DT (X:Cx) (K:PySem.W.Frag) (E:XE) (e:Expr) (m:DS.TM):Prop where h:ST X e (ttOf K E m)
structure DW (X:Cx) (K:PySem.W.Frag) (E:XE) (e:Expr) (m:DS.TM):Prop where h:SW X e (ttOf K E m)
structure DIf (X:Cx) (K:PySem.W.Frag) (E:XE) (es:List Expr) (m:DS.TM):Prop where h:SIfs X es (ttOf K E m)
structure DA (X:Cx) (K:PySem.W.Frag) (E:XE) (es:List Expr) (m:DS.AM):Prop where
 h:SA X es (aOf K E m)
 len:∀env S ds S',m env S=.ok ds S'->ds.length=es.length
structure DS1 (X:Cx) (K:PySem.W.Frag) (E:XE) (st:Stmt) (m:DS.SM):Prop where h:SS X st (tsOf K E m)
structure DSs (X:Cx) (K:PySem.W.Frag) (E:XE) (st:List Stmt) (m:DS.SM):Prop where h:SSs X st (tsOf K E m)
structure DG (X:Cx) (K:PySem.W.Frag) (e:Expr) (m:DS.GM):Prop where h:SG X e (gOf K m)
structure DGs (X:Cx) (K:PySem.W.Frag) (es:List Expr) (m:List DS.GM):Prop where h:SGs X es (gsOf K (DS.gAll m))
structure DI (X:Cx) (K:PySem.W.Frag) (E:XE) (tg e:Expr) (m:DS.IM):Prop where h:SI X tg e (iOf K E m)
section
variable {X:Cx}{K:PySem.W.Frag}{E:XE}{e a b c:Expr}{es:List Expr}{p pos:Pos}{m ma mb mc:DS.EM}{mt mu:DS.TM}
theorem SE.imp {t t':TE}(h:SE X e t) (k:∀σ H Q,t' σ H Q->t σ H Q):SE X e t':=⟨fun pins s σ H Q I q=>h.h pins s σ H Q I (k σ H Q q)⟩
theorem ST.imp {t t':TT}(h:ST X e t) (k:∀σ H Q,t' σ H Q->t σ H Q):ST X e t':=⟨fun pins s σ H Q I q=>h.h pins s σ H Q I (k σ H Q q)⟩
theorem SW.imp {t t':TT}(h:SW X e t) (k:∀σ H Q,t' σ H Q->t σ H Q):SW X e t':=⟨fun whole pins s σ H Q I q=>h.h whole pins s σ H Q I (k σ H Q q)⟩
theorem SIfs.imp {t t':TT}(h:SIfs X es t) (k:∀σ H Q,t' σ H Q->t σ H Q):SIfs X es t':=⟨fun pins s σ H Q I q=>h.h pins s σ H Q I (k σ H Q q)⟩
theorem SA.imp {t t':TA}(h:SA X es t) (k:∀σ H Q,t' σ H Q->t σ H Q):SA X es t':=⟨fun pos pins s σ H Q I q=>h.h pos pins s σ H Q I (k σ H Q q)⟩
theorem SS.imp {st:Stmt}{t t':TS}(h:SS X st t) (k:∀D σ H,t' D σ H->t D σ H):SS X st t':=⟨fun pins s σ H D I q=>h.h pins s σ H D I (k D σ H q)⟩
theorem SSs.imp {st:List Stmt}{t t':TS}(h:SSs X st t) (k:∀D σ H,t' D σ H->t D σ H):SSs X st t':=⟨fun pins s σ H D I q=>h.h pins s σ H D I (k D σ H q)⟩
theorem SG.imp {t t':TG}(h:SG X e t) (k:∀v σ H Q,t' v σ H Q->t v σ H Q):SG X e t':=⟨fun pins s σ H v u Q I r q=>h.h pins s σ H v u Q I r (k v σ H Q q)⟩
theorem SGs.imp {t t':TGs}(h:SGs X es t) (k:∀v σ H Q,t' v σ H Q->t v σ H Q):SGs X es t':=⟨fun pins s σ H v u Q I r q=>h.h pins s σ H v u Q I r (k v σ H Q q)⟩
theorem SI.imp {tg:Expr}{t t':TI}(h:SI X tg e t) (k:∀σ H R,t' σ H R->t σ H R):SI X tg e t':=⟨fun pins s σ H R I q=>h.h pins s σ H R I (k σ H R q)⟩
theorem ObD.rep {K:PySem.W.Frag}{J:Js}{S:Store}{H:Hp}{d:D}{o:HO}{p:Addr}(ha:AbS K J S H) (n:H p=none) (r:ObD K J H d o):Rep K J (upd H p o) d (.ref p):=by
 have r2:=r.grow (Grow.push (o:=o) n)
 have hp:=ha.out n
 cases d with
 | lst ds=>obtain⟨xs,rfl,rl⟩:=r2;exact⟨p,xs,rfl,⟨zAi,hp⟩,rl⟩
 | dct _ ks vs=>obtain⟨xs,t,rl⟩:=r2;exact⟨p,o,xs,rfl,hp,zAi,t,rl⟩
 | _=>exact False.elim r2
theorem zDb (h:DF X K E e m):DE X K E e m:=⟨h.h.imp fun σ H Q ⟨env,S,J,ha,he,q⟩=>⟨env,S,J,ha,he,q.map fun d S' J' H' _ h1 g k p o n r=>
 k J' (upd H' p o) (h1.push n) (g.trans (.push n)) (.ref p) (r.rep h1 n)⟩⟩
theorem zE3 (h:DF X K E e m):DE X K E e (DS.eNew m):=⟨h.h.imp fun σ H Q ⟨env,S,J,ha,he,q⟩=>⟨env,S,J,ha,he,q.bind.map fun d S' J' H' _ h1 g k p o n r=>
 k J' H' h1 g (J'++[p]) (upd H' p o) (h1.name n r) (.name n) (.ref p) ⟨p,by rw[<- h1.len,vH (xh _)];simp,rfl⟩⟩⟩
theorem zA1 (i:Nat) {x:Str}(hN:X.N[i]?=some x:=by rfl) (hv:Vis X.env.scope x:=by first|exact Or.inl rfl|exact Or.inr (Or.inl rfl)|exact Or.inr (Or.inr rfl)) (hd:(x == ("__debug__":Str))=false:=by decide)
  (hcd:(x == ("__classdict__":Str))=false:=by decide):DE X K E (.Name x pos) (DS.eVar i):=⟨(pv' i hN hv hd hcd).imp fun σ H Q ⟨env,S,J,ha,he,q⟩=>by
 unfold DS.eVar at q
 cases e1:env[i]? with
 | none=>rw[e1]at q;exact False.elim q
 | some o=>
  cases o with
  | none=>rw[e1]at q;exact False.elim q
  | some d=>
   rw[e1]at q
   obtain⟨v,ev,r⟩:=he.get i d e1
   exact⟨v,ev,q J H ha .refl v r⟩⟩
theorem de_c {v:V}{d:D}(h:SE X e (tC v)) (r:∀J H,Rep K J H d v):DE X K E e (DS.eC d):=⟨h.imp fun σ H Q hz9=>by obtain⟨env,S,J,ha,he,q⟩:=hz9;exact q J H ha .refl v (r J H)⟩
theorem zA6 {i:Int}{j:_}:DE X K E (.Constant (.int i) j pos) (DS.eC (.int i)):=de_c zS0 fun _ _=>rfl
theorem zW4 {i:Bool}{j:_}:DE X K E (.Constant (.bool i) j pos) (DS.eC (.bl i)):=de_c zUw fun _ _=>rfl
theorem zJ1 {r:R2}{g:Store->D->D->Option D}(hr:∀x y H Q,r2Of K g x y H Q->r x y H Q):∀σ H Q,tOf K E (DS.eOp g ma mb) σ H Q->tOp r (tOf K E ma) (tOf K E mb) σ H Q:=fun σ H Q ⟨env,S,J,ha,he,q⟩=>
 ⟨env,S,J,ha,he,q.bind.imp fun d1 S1 J1 H1 _ a1 g1 q1 x rx=>⟨env,S1,J1,a1,he.grow g1,q1.bind.imp fun d2 S2 J2 H2 _ a2 g2 q2 y ry=>by
  obtain⟨d,e,k⟩:=q2.lift
  exact hr _ _ _ _ ⟨J2,S2,d1,d2,d,a2,Rep.grow g2 _ _ rx,ry,e,fun v H' h1 h2 h3=>k J2 H' h1 h2 v h3⟩⟩⟩
theorem zAg {op:Operator}{g:Store->D->D->Option D}(ho:OpR X (binaryOp op) (r2Of K g)) (ha:DE X K E a ma) (hb:DE X K E b mb):DE X K E (.BinOp a op b pos) (DS.eOp g ma mb):=⟨(zUr ho ha.h hb.h).imp (zJ1 fun _ _ _ _ h=>h)⟩
theorem zW3 {op:CmpOp}{g:Store->D->D->Option D}(ho:OpR X (compareOp op) (r2Of K g)) (ha:DE X K E a ma) (hb:DE X K E b mb) (hm:behindInMarks op b=false):DE X K E (.Compare a [op] [b] pos) (DS.eOp g ma mb):=⟨(zOr ho ha.h hb.h hm).imp (zJ1 fun _ _ _ _ h=>h)⟩
theorem zEy {g:Store->D->D->Option D}(hr:IxR X (r2Of K g)) (ha:DE X K E a ma) (hb:DE X K E b mb) (h:nsl b=true:=by rfl):DE X K E (.Subscript a b pos) (DS.eOp g ma mb):=⟨(qix' hr ha.h hb.h h).imp (zJ1 fun _ _ _ _ h=>h)⟩
theorem zXb {op:UnaryOp}{g:Store->D->Option D}(ho:UnR X (unaryOp op) (r1Of K g)) (ha:DE X K E a ma):DE X K E (.UnaryOp op a pos) (DS.eUn g ma):=⟨(zUp ho ha.h).imp fun σ H Q ⟨env,S,J,h,he,q⟩=>
 ⟨env,S,J,h,he,q.bind.imp fun d1 S1 J1 H1 _ a1 g1 q1 x rx=>by
  obtain⟨d,e,k⟩:=q1.lift
  exact⟨J1,S1,d1,d,a1,rx,e,fun v H' h1 h2 h3=>k J1 H' h1 h2 v h3⟩⟩⟩
theorem zA3:DA X K E [] DS.aNil:=⟨pa_nil'.imp fun σ H Q hz0=>by obtain⟨env,S,J,ha,he,q⟩:=hz0;exact q J H ha .refl [] rfl,fun _ _ _ _ e=>by cases e;rfl⟩
theorem zA2 {am:DS.AM}(ha:DE X K E e m) (hr:DA X K E es am) (h:nst e=true:=by rfl):DA X K E (e::es) (DS.zA0 m am):=by
 refine⟨(qa' ha.h hr.h h).imp fun σ H Q ⟨env,S,J,h,he,q⟩=>⟨env,S,J,h,he,q.bind.imp fun d1 S1 J1 H1 _ a1 g1 q1 x rx=>⟨env,S1,J1,a1,he.grow g1,q1.bind.imp fun d2 S2 J2 H2 _ a2 g2 q2 ys ry=>
  q2 J2 H2 a2 .refl (x::ys) ⟨x,ys,rfl,Rep.grow g2 _ _ rx,ry⟩⟩⟩,fun env S ds S' e1=>?_⟩
 unfold DS.zA0 at e1
 cases e2:m env S with
 | ok d S1=>
  rw[e2,Rs.bind_ok]at e1
  cases e3:am env S1 with
  | ok dr S2=>rw[e3,Rs.bind_ok]at e1;cases e1;simp[hr.len _ _ _ _ e3]
  | _=>rw[e3]at e1;cases e1
 | _=>rw[e2]at e1;cases e1
theorem z1000 {n:Nat}(h:n<=1000):n<=sizeLine:=xm h (by decide)
theorem zNb {am:DS.AM}{k:Nat}(h:DA X K E es am) (hz:es.length<=1000:=by decide):DE X K E (.Tuple es k pos) (DS.eTup am):=⟨(zRy h.h).imp fun σ H Q ⟨env,S,J,ha,he,q⟩=>
 ⟨env,S,J,ha,he,q.bind.imp fun ds S1 J1 H1 e1 a1 g1 q1 xs rx=>⟨by rw[<- rx.length,h.len _ _ _ _ e1];exact z1000 hz,fun p n=>
  q1 J1 (upd H1 p (.tup xs)) (a1.push n) (.push n) (.ref p) ⟨p,xs,rfl,⟨zAi,a1.out n⟩,RepL.grow (.push n) _ _ rx⟩⟩⟩⟩
theorem zCu {am:DS.AM}(h:DA X K E es am) (hz:es.length<=1000:=by decide):DF X K E (.List es pos) (DS.eLst am):=⟨(zRz h.h).imp fun σ H Q ⟨env,S,J,ha,he,q⟩=>
 ⟨env,S,J,ha,he,q.bind.imp fun ds S1 J1 H1 e1 a1 g1 q1 xs rx=>⟨by rw[<- rx.length,h.len _ _ _ _ e1];exact z1000 hz,fun p n=>
  q1 J1 H1 a1 .refl p (.lst xs) n ⟨xs,rfl,rx⟩⟩⟩⟩
theorem zTf:DF X K E (.Dict [] [] pos) (DS.eDct true):=⟨pe_dnewT'.imp fun σ H Q ⟨env,S,J,ha,he,q⟩ p n=>q J H ha .refl p (.dT []) n ⟨[],.inr ⟨rfl,[],rfl,rfl,rfl⟩,rfl⟩⟩
theorem zW8 {r:List V->Hp->VK->Prop}{am:DS.AM}{g:Store->List D->Option D}(hr:∀xs H Q,cOf K g xs H Q->r xs H Q):∀σ H Q,tOf K E (DS.eCB g am) σ H Q->tCB r (aOf K E am) σ H Q:=fun σ H Q ⟨env,S,J,ha,he,q⟩=>
 ⟨env,S,J,ha,he,q.bind.imp fun ds S1 J1 H1 _ a1 g1 q1 xs rx=>by
  obtain⟨d,e,k⟩:=q1.lift
  exact hr _ _ _ ⟨J1,S1,ds,d,a1,rx,e,fun v H' h1 h2 h3=>k J1 H' h1 h2 v h3⟩⟩
theorem zQn {r:List V->Hp->VK->Prop}{am:DS.AM}{g:Store->List D->Option D}(hr:∀xs H Q,cOfF K g xs H Q->r xs H Q):∀σ H Q,tOfF K E (DS.eCB g am) σ H Q->tCB r (aOf K E am) σ H Q:=fun σ H Q ⟨env,S,J,ha,he,q⟩=>
 ⟨env,S,J,ha,he,q.bind.imp fun ds S1 J1 H1 _ a1 g1 q1 xs rx=>by
  obtain⟨d,e,k⟩:=q1.lift
  exact hr _ _ _ ⟨J1,S1,ds,d,a1,rx,e,fun p o H' h1 h2 h3=>k J1 H' h1 h2 p o h3⟩⟩
theorem zCk {x:Str}{id:String}{am:DS.AM}{g:Store->List D->Option D}(hc:zBa X (.builtin id) (cOf K g)) (hg:Gl X x) (hm:X.mg x=none) (hv:bootBuiltins x=some (.builtin id)) (ha:DA X K E (e::es) am) (hn:x≠"__name__":=by decide) (hdb:(x == ("__debug__":Str))=false:=by decide)
  (h:(e::es).all nst=true:=by rfl):DE X K E (.Call (.Name x p) (e::es) [] pos) (DS.eCB g am):=⟨(zLs hc hg hm hv ha.h hn hdb h).imp (zW8 fun _ _ _ h=>h)⟩
theorem zNc {x:Str}{T:String}{am:DS.AM}{g:Store->List D->Option D}(hc:zBa X (.type T) (cOf K g)) (hg:Gl X x) (hm:X.mg x=none) (hv:bootBuiltins x=some (.type T)) (ha:DA X K E (e::es) am) (hn:x≠"__name__":=by decide) (hdb:(x == ("__debug__":Str))=false:=by decide)
  (h:(e::es).all nst=true:=by rfl):DE X K E (.Call (.Name x p) (e::es) [] pos) (DS.eCB g am):=⟨(zLr hc hg hm hv ha.h hn hdb h).imp (zW8 fun _ _ _ h=>h)⟩
theorem zW0 {x:Str}{id:String}{am:DS.AM}{g:Store->List D->Option D}(hc:zBa X (.builtin id) (cOfF K g)) (hg:Gl X x) (hm:X.mg x=none) (hv:bootBuiltins x=some (.builtin id)) (ha:DA X K E (e::es) am) (hn:x≠"__name__":=by decide) (hdb:(x == ("__debug__":Str))=false:=by decide)
  (h:(e::es).all nst=true:=by rfl):DF X K E (.Call (.Name x p) (e::es) [] pos) (DS.eCB g am):=⟨(zLs hc hg hm hv ha.h hn hdb h).imp (zQn fun _ _ _ h=>h)⟩
theorem zX9 {x:Str}{T:String}{am:DS.AM}{g:Store->List D->Option D}(hc:zBa X (.type T) (cOfF K g)) (hg:Gl X x) (hm:X.mg x=none) (hv:bootBuiltins x=some (.type T)) (ha:DA X K E (e::es) am) (hn:x≠"__name__":=by decide) (hdb:(x == ("__debug__":Str))=false:=by decide)
  (h:(e::es).all nst=true:=by rfl):DF X K E (.Call (.Name x p) (e::es) [] pos) (DS.eCB g am):=⟨(zLr hc hg hm hv ha.h hn hdb h).imp (zQn fun _ _ _ h=>h)⟩
theorem zAh {x:Str}{k:Nat}{ps:List Str}{F:DS.Fn}{am:DS.AM}(C:Cal X.prog X.w X.K X.mg X.base x k ps (spOf K E F)) (hr:Room k X.A) (hg:Gl X x) (ha:DA X K E (e::es) am) (hdb:(x == ("__debug__":Str))=false:=by decide)
  (h:(e::es).all nst=true:=by rfl):DE X K E (.Call (.Name x p) (e::es) [] pos) (DS.zAb F am):=⟨(qcal' C hr hg ha.h hdb h).imp fun σ H Q ⟨env,S,J,h,he,q⟩=>
 ⟨env,S,J,h,he,q.bind.imp fun ds S1 J1 H1 _ a1 g1 q1 xs rx=>by
  show spOf K E F (xs++[]) H1 Q E0
  rw[vy]
  exact⟨J1,S1,ds,a1,rx,q1⟩⟩⟩
theorem zTy {J:Js}{S:Store}{H:Hp}{d:D}{v:V}{T:String}(ha:AbS K J S H) (r:Rep K J H d v) (hT:T="str"\/T="list"\/T="dict") (h:DS.tyD S d=some T):tyV K T v H:=by
 cases d with
 | str x=>obtain rfl:=r;cases h;exact rfl
 | lst ds=>obtain⟨a,xs,rfl,t,_⟩:=r;cases h;exact .inl ⟨rfl,xs,t.sq⟩
 | klst ds=>obtain⟨a,xs,rfl,t,_⟩:=r;cases h;exact .inl ⟨rfl,xs,t.sq⟩
 | dct _ ks vs=>
  obtain⟨a,o,xs,rfl,_,e,t,_⟩:=r;cases h
  refine .inr (.inr (.inl ⟨rfl,?_⟩))
  rcases t with⟨_,kvs,rfl,_⟩|⟨_,kvs,rfl,_⟩
  ·exact .inl ⟨kvs,e⟩
  ·exact .inr ⟨kvs,e⟩
 | ref n=>
  obtain⟨a,ea,rfl⟩:=r
  obtain⟨c,ec,o,eo,rc⟩:=ha.at ea
  have el:DS.look S (.ref n)=some c:=ec
  unfold DS.tyD at h
  rw[el]at h
  cases c with
  | lst ds=>cases h;obtain⟨xs,rfl,_⟩:=rc;exact .inl ⟨rfl,xs,.inl (.inl eo)⟩
  | dct _ ks vs=>
   cases h
   obtain⟨xs,t,_⟩:=rc
   refine .inr (.inr (.inl ⟨rfl,?_⟩))
   rcases t with⟨_,kvs,rfl,_⟩|⟨_,kvs,rfl,_⟩
   ·exact .inl ⟨kvs,eo⟩
   ·exact .inr ⟨kvs,eo⟩
  | _=>exact False.elim rc
 | _=>first|(cases h;rcases hT with z|z|z <;> exact absurd z (by decide))|cases h
theorem zX1 {T:String}{r:V->List V->Hp->VK->Prop}{am:DS.AM}{g:Store->D->List D->Option (D × Store)}(hT:T="str"\/T="list"\/T="dict") (hr:∀x xs H Q,mOf K g x xs H Q->r x xs H Q):∀σ H Q,tOf K E (DS.eMt T g ma am) σ H Q->tBM K T r (tOf K E ma) (aOf K E am) σ H Q:=fun σ H Q ⟨env,S,J,ha,he,q⟩=>
 ⟨env,S,J,ha,he,q.bind.imp fun d1 S1 J1 H1 _ a1 g1 q1 x rx=>by
  by_cases hty:DS.tyD S1 d1=some T
  ·rw[xc hty]at q1
   refine⟨zTy a1 rx hT hty,env,S1,J1,a1,he.grow g1,q1.bind.imp fun ds S2 J2 H2 _ a2 g2 q2 xs rs=>?_⟩
   cases e:g S2 d1 ds with
   | none=>rw[e]at q2;exact False.elim q2
   | some w=>
    rw[e]at q2
    exact hr _ _ _ _ ⟨J2,S2,d1,ds,w.1,w.2,a2,Rep.grow g2 _ _ rx,rs,e,fun v H' h1 h2 h3=>q2 J2 H' h1 h2 v h3⟩
  ·rw[xf hty]at q1;exact False.elim q1⟩
theorem zKp {T name id:_}{o:Expr}{apos cpos:Pos}{g:Store->D->List D->Option (D × Store)}{mo:DS.EM}{am:DS.AM}(pa:PlainAttrs T) (slot:Slot T name id) (hty:typeOf (.builtin id)=pure (.type "method_descriptor")) (hm:MtR X id (mOf K g))
  (hT:T="str"\/T="list"\/T="dict") (ho:DE X K E o mo) (ha:DA X K E (e::es) am) (h:nba o=true:=by rfl) (hs:(e::es).all nst=true:=by rfl)
  (hlen:decide ((e::es).length+0+0<30)=true:=by rfl) (hline:(apos.endLine == cpos.line)=true:=by rfl) (hK:X.K=K:=by rfl):DE X K E (.Call (.Attribute o name apos) (e::es) [] cpos) (DS.eMt T g mo am):=by
 subst hK
 exact⟨(zUv pa slot hty hm ho.h ha.h h hs hlen hline).imp (zX1 hT fun _ _ _ _ h=>h)⟩
noncomputable def poOf (K:PySem.W.Frag) (E:XE) (m:DS.Env->Store->Rs (Option Int)):TO:=fun σ H Q=>∃env S J,AbS K J S H/\RepE K J H env σ/\Post K E J H (m env S) (fun oi _ _ H'=>Q oi H')
structure DO (X:Cx) (K:PySem.W.Frag) (E:XE) (e:Option Expr) (m:DS.Env->Store->Rs (Option Int)):Prop where h:SO X e (poOf K E m)
theorem SO.imp {o:Option Expr}{t t':TO}(h:SO X o t) (k:∀σ H Q,t' σ H Q->t σ H Q):SO X o t':=⟨fun pins s σ H Q I q=>h.h pins s σ H Q I (k σ H Q q)⟩
theorem zVx:DO X K E none DS.pNo:=⟨po_none'.imp fun σ H Q hz1=>by obtain⟨env,S,J,ha,he,q⟩:=hz1;exact q J H ha .refl⟩
theorem zQh (h:DE X K E e m):DO X K E (some e) (DS.pYes m):=⟨(zOg h.h).imp fun σ H Q ⟨env,S,J,ha,he,q⟩=>⟨env,S,J,ha,he,q.bind.imp fun d S1 J1 H1 _ a1 g1 q1 x rx=>by
 obtain⟨oi,e,k⟩:=q1.lift
 cases d with
 | int i=>cases e;obtain rfl:=rx;exact⟨i,rfl,k J1 H1 a1 .refl⟩
 | _=>cases e⟩⟩
noncomputable def slOf (K:PySem.W.Frag) (g:Store->D->Option Int->Option Int->Option D):V->Option Int->Option Int->Hp->VK->Prop:=fun x lo hi H Q=>∃J S d1 d,AbS K J S H/\Rep K J H d1 x/\g S d1 lo hi=some d/\∀v H',AbS K J S H'->Grow J H J H'->Rep K J H' d v->Q v H'
theorem zW1 {g:Store->D->Option Int->Option Int->Option D}{lo hi:Option Expr}{ml mh:DS.Env->Store->Rs (Option Int)}{p2:Pos}(hr:SlR X (slOf K g)) (he:DE X K E e m) (hl:DO X K E lo ml) (hu:DO X K E hi mh):DE X K E (.Subscript e (.Slice lo hi none p2) pos) (DS.eSl g m ml mh):=
 ⟨(zM1 hr he.h hl.h hu.h).imp fun σ H Q ⟨env,S,J,ha,he,q⟩=>⟨env,S,J,ha,he,q.bind.imp fun d S1 J1 H1 _ a1 g1 q1 x rx=>⟨env,S1,J1,a1,he.grow g1,q1.bind.imp fun l S2 J2 H2 _ a2 g2 q2=>
  ⟨env,S2,J2,a2,he.grow (g1.trans g2),q2.bind.imp fun h S3 J3 H3 _ a3 g3 q3=>by
   obtain⟨r,er,k⟩:=q3.lift
   exact⟨J3,S3,d,r,a3,Rep.grow (g2.trans g3) _ _ rx,er,fun v H' h1 h2 h3=>k J3 H' h1 h2 v h3⟩⟩⟩⟩⟩
theorem zWb {J:Js}{H:Hp}{d:D}{x:V}{k:Bool}(e:DS.asB d=some k) (r:Rep K J H d x):x=.bl k:=by
 cases d with
 | bl i=>cases e;exact r
 | _=>cases e
theorem zWd:∀σ H Q,ttOf K E (DS.tB m) σ H Q->tOf K E m σ H (fun x H'=>∃k,x=.bl k/\Q k H'):=fun σ H Q ⟨env,S,J,ha,he,q⟩=>⟨env,S,J,ha,he,q.bind.imp fun d S1 J1 H1 _ a1 g1 q1 x rx=>by
 obtain⟨k,e,z⟩:=q1.lift
 exact⟨k,zWb e rx,z J1 H1 a1 .refl⟩⟩
theorem zB0 {op:CmpOp}{g:Store->D->D->Option D}(ho:OpR X (compareOp op) (r2Of K g)) (ha:DE X K E a ma) (hb:DE X K E b mb) (hm:behindInMarks op b=false):DT X K E (.Compare a [op] [b] pos) (DS.tB (DS.eOp g ma mb)):=
 ⟨(zOc ho ha.h hb.h hm).imp fun σ H Q h=>zJ1 (K:=K) (E:=E) (fun _ _ _ _ h=>h) σ H _ (zWd σ H Q h)⟩
theorem zVw (ha:DT X K E a mt):DT X K E (.UnaryOp .Not a pos) (DS.tNot mt):=⟨(zRm ha.h).imp fun σ H Q hz2=>by obtain⟨env,S,J,ha,he,q⟩:=hz2;exact ⟨env,S,J,ha,he,q.bind.imp fun k S1 J1 H1 _ a1 g1 q1=>q1 J1 H1 a1 .refl⟩⟩
theorem zIj (ha:DT X K E a mt):DW X K E (.BoolOp .And [a] pos) mt:=⟨zO9 ha.h⟩
theorem zVt (ha:DT X K E a mt):DW X K E (.BoolOp .Or [a] pos) mt:=⟨zRi ha.h⟩
theorem zN3 (ha:DT X K E a mt) (hb:DW X K E (.BoolOp .And (b::es) pos) mu):DW X K E (.BoolOp .And (a::b::es) pos) (DS.tAnd mt mu):=⟨(zRk ha.h hb.h).imp fun σ H Q ⟨env,S,J,ha,he,q⟩=>⟨env,S,J,ha,he,q.bind.imp fun k S1 J1 H1 _ a1 g1 q1=>by
 cases k with
 | true=>exact⟨env,S1,J1,a1,he.grow g1,q1⟩
 | false=>exact q1 J1 H1 a1 .refl⟩⟩
theorem zVu (ha:DT X K E a mt) (hb:DW X K E (.BoolOp .Or (b::es) pos) mu):DW X K E (.BoolOp .Or (a::b::es) pos) (DS.tOr mt mu):=⟨(zUe ha.h hb.h).imp fun σ H Q ⟨env,S,J,ha,he,q⟩=>⟨env,S,J,ha,he,q.bind.imp fun k S1 J1 H1 _ a1 g1 q1=>by
 cases k with
 | true=>exact q1 J1 H1 a1 .refl
 | false=>exact⟨env,S1,J1,a1,he.grow g1,q1⟩⟩⟩
theorem dt_w (h:DW X K E e mt):DT X K E e mt:=⟨zUc h.h⟩
theorem zIm:DIf X K E [] DS.tYes:=⟨pifs_nil'.imp fun σ H Q hz3=>by obtain⟨env,S,J,ha,he,q⟩:=hz3;exact q J H ha .refl⟩
theorem zIl (h:DT X K E c mt):DIf X K E [c] mt:=⟨zLw h.h⟩
theorem zBh {J:Js}{H:Hp}{ds:List D}{xs:List V}(r:RepL K J H ds xs):decide (ds≠[])=!xs.isEmpty:=by
 cases ds with
 | nil=>cases r;simp
 | cons d ds=>obtain⟨x,t,rfl,_⟩:=r;simp
theorem zQw {J:Js}{S:Store}{H:Hp}{d:D}{v:V}{k:Bool}(ha:AbS K J S H) (r:Rep K J H d v) (h:DS.truth S d=some k):TruV K v H k:=by
 cases d with
 | non=>obtain rfl:=r;cases h;exact rfl
 | bl b=>obtain rfl:=r;cases h;exact rfl
 | int i=>
  obtain rfl:=r
  have h:=xD h
  subst h
  show decide (i≠0)=(i != 0)
  by_cases z:i=0 <;> simp[z]
 | str x=>
  obtain rfl:=r
  have h:(if x.length<=DS.most then some (decide (x.length≠0))else none)=some k:=h
  by_cases z:x.length<=DS.most
  ·rw[xc z]at h
   have h:=xD h
   subst h
   refine⟨z,?_⟩
   by_cases z:x.length=0 <;> simp[z]
  ·rw[xf z]at h;cases h
 | tup ds=>obtain⟨a,xs,rfl,t,rl⟩:=r;cases h;exact .inr (.inl ⟨xs,t.sq,zBh rl⟩)
 | ktup ds=>obtain⟨a,xs,rfl,t,rl⟩:=r;cases h;exact .inr (.inl ⟨xs,t.sq,zBh rl⟩)
 | klst ds=>obtain⟨a,xs,rfl,t,rl⟩:=r;cases h;exact .inl ⟨xs,t.sq,zBh rl⟩
 | lst ds=>obtain⟨a,xs,rfl,t,rl⟩:=r;cases h;exact .inl ⟨xs,t.sq,zBh rl⟩
 | ref n=>
  obtain⟨a,ea,rfl⟩:=r
  obtain⟨c,ec,o,eo,rc⟩:=ha.at ea
  have el:DS.look S (.ref n)=some c:=ec
  unfold DS.truth at h
  rw[el]at h
  cases c with
  | lst ds=>cases h;obtain⟨xs,rfl,rl⟩:=rc;exact .inl ⟨xs,.inl (.inl eo),zBh rl⟩
  | dct _ ks vs=>cases h
  | _=>exact False.elim rc
 | _=>cases h
theorem zVv (ha:DE X K E e m) (h:ntt e=true:=by rfl) (hK:X.K=K:=by rfl):DT X K E e (DS.tTru m):=by
 subst hK
 exact⟨(qtruth' ha.h h).imp fun σ H Q ⟨env,S,J,ha,he,q⟩=>⟨env,S,J,ha,he,q.bind.imp fun d S1 J1 H1 _ a1 g1 q1 x rx=>by
  obtain⟨k,e,z⟩:=q1.lift
  exact⟨k,zQw a1 rx e,z J1 H1 a1 .refl⟩⟩⟩
theorem RepE.set {J:Js}{H:Hp}{env:DS.Env}{σ:St}{d:D}{v:V}{i:Nat}(h:RepE K J H env σ) (r:Rep K J H d v):RepE K J H (env.set i (some d)) (σ.set i (some v)):=by
 refine⟨by simp[h.len],fun j d' e=>?_⟩
 by_cases hj:i=j
 ·subst hj
  have hi:i<env.length:=by
   have:=(xE.mp e).1
   simpa using this
  rw[vR hi]at e
  cases e
  exact⟨v,vR (by rw[<- h.len];exact hi),r⟩
 ·rw[vS hj]at e
  rw[vS hj]
  exact h.get j d' e
theorem zAq {j:Nat}{x:Str}(hN:X.N.Nodup) (hi:X.N[j]?=some x) (hx:Loc X.env.scope x) (hf:X.fn x=true\/X.env.scope.names.lookup x=some .local:=by first|exact .inl rfl|exact .inr rfl|assumption):DG X K (.Name x pos) (DS.gName j):=
 ⟨(zOn hN hi hx hf).imp fun v σ H Q ⟨env,S,J,d,env',ha,he,r,e,k⟩=>by
  cases e
  exact k _ (he.set r)⟩
theorem zN5:DGs X K [] []:=⟨pgs_nil'.imp fun v σ H Q ⟨env,S,J,ds,env',ha,he,r,e,k⟩=>by
 cases ds with
 | nil=>cases e;cases r;exact⟨rfl,k _ he⟩
 | cons d ds=>cases e⟩
theorem zEi {tg:Expr}{ts:List Expr}{g:DS.GM}{gs:List DS.GM}(h1:DG X K tg g) (h2:DGs X K ts gs) (h:nst tg=true:=by rfl):DGs X K (tg::ts) (g::gs):=⟨(qgs' h1.h h2.h h).imp fun v σ H Q ⟨env,S,J,ds,env',ha,he,r,e,k⟩=>by
 cases ds with
 | nil=>cases e
 | cons d ds=>
  obtain⟨x,xs,rfl,rx,rl⟩:=r
  unfold DS.gAll at e
  cases e1:g S d env with
  | none=>rw[e1]at e;cases e
  | some env1=>
   rw[e1]at e
   exact⟨x,xs,rfl,env,S,J,d,env1,ha,he,rx,e1,fun σ' he'=>⟨env1,S,J,ds,env',ha,he',rl,e,k⟩⟩⟩
theorem zD1:∀{gs:List DS.GM}{S:Store}{ds:List D}{env env':DS.Env},DS.gAll gs S ds env=some env'->ds.length=gs.length
 | [],_,[],_,_,_=>rfl
 | [],_,_::_,_,_,e=>by cases e
 | _::_,_,[],_,_,e=>by cases e
 | g::gs,S,d::ds,env,env',e=>by
  unfold DS.gAll at e
  cases e1:g S d env with
  | none=>rw[e1]at e;cases e
  | some env1=>rw[e1]at e;simp[zD1 e]
theorem SG.or {t u:TG}(h:SG X e t) (h':SG X e u):SG X e (fun v σ H Q=>t v σ H Q\/u v σ H Q):=⟨fun pins s σ H v w Q I r q=>by
 rcases q with q|q
 ·exact h.h pins s σ H v w Q I r q
 ·exact h'.h pins s σ H v w Q I r q⟩
theorem zQj {ts:List Expr}{k:Nat}{gs:List DS.GM}(hc:X.calm=true) (h:DGs X K ts gs) (hn:ts.length=gs.length:=by rfl) (h1:ts.all nst=true:=by rfl) (hK:X.K=K:=by rfl):DG X K (.Tuple ts k pos) (DS.gTup gs):=by
 subst hK
 refine⟨((qtup' (n:=gs.length) hc h.h hn h1).or (qunl' (n:=gs.length) hc h.h hn h1)).imp fun v σ H Q hq1=>?_⟩
 obtain⟨env,S,J,d,env',ha,he,r,e,k⟩:=hq1
 unfold DS.gTup DS.items DS.look at e
 cases d with
 | tup ds=>obtain⟨a,xs,rfl,t,rl⟩:=r;exact .inl ⟨a,xs,rfl,t.sq,by rw[<- rl.length];exact zD1 e,env,S,J,ds,env',ha,he,rl,e,k⟩
 | klst ds=>obtain⟨a,xs,rfl,t,rl⟩:=r;exact .inr ⟨a,xs,rfl,t.sq,by rw[<- rl.length];exact zD1 e,env,S,J,ds,env',ha,he,rl,e,k⟩
 | ktup ds=>obtain⟨a,xs,rfl,t,rl⟩:=r;exact .inl ⟨a,xs,rfl,t.sq,by rw[<- rl.length];exact zD1 e,env,S,J,ds,env',ha,he,rl,e,k⟩
 | lst ds=>obtain⟨a,xs,rfl,t,rl⟩:=r;exact .inr ⟨a,xs,rfl,t.sq,by rw[<- rl.length];exact zD1 e,env,S,J,ds,env',ha,he,rl,e,k⟩
 | ref n=>
  obtain⟨a,ea,rfl⟩:=r
  obtain⟨c,ec,o,eo,rc⟩:=ha.at ea
  simp only[ec]at e
  cases c with
  | lst ds=>obtain⟨xs,rfl,rl⟩:=rc;exact .inr ⟨a,xs,rfl,.inl (.inl eo),by rw[<- rl.length];exact zD1 e,env,S,J,ds,env',ha,he,rl,e,k⟩
  | dct _ ks vs=>cases e
  | _=>exact False.elim rc
 | _=>cases e
variable {st:Stmt}{sts:List Stmt}{ms mu' mv:DS.SM}
theorem zBu:DSs X K E [] DS.zB6:=⟨pss_nil'.imp fun D σ H hz4=>by obtain⟨env,S,J,ha,he,q⟩:=hz4;exact q J H σ ha .refl he⟩
theorem zA8 (h:DS1 X K E st ms):DSs X K E [st] ms:=⟨zOd h.h⟩
theorem zA4 (h:DS1 X K E st ms) (k:DSs X K E sts mv):DSs X K E (st::sts) (DS.sSeq ms mv):=⟨(zLt h.h k.h).imp fun D σ H ⟨env,S,J,ha,he,q⟩=>⟨env,S,J,ha,he,by
 unfold DS.sSeq at q
 cases e:ms env S with
 | nx e1 S1=>rw[e]at q;exact fun J' H' σ' h1 g1 h2=>⟨e1,S1,J',h1,h2,PostS.grow g1 q⟩
 | _=>rw[e]at q;exact q⟩⟩
theorem zA9 {j:Nat}{x:Str}{pos':Pos}(hN:X.N.Nodup) (hi:X.N[j]?=some x) (hx:Loc X.env.scope x) (he:DE X K E e m) (hf:X.fn x=true\/X.env.scope.names.lookup x=some .local:=by first|exact .inl rfl|exact .inr rfl|assumption) (h:nco e=true:=by rfl):
  DS1 X K E (.Assign [.Name x pos'] e pos) (DS.sSet j m):=⟨(qset' hN hi hx he.h hf h).imp fun D σ H hz5=>by obtain⟨env,S,J,ha,he,q⟩:=hz5;exact ⟨env,S,J,ha,he,q.then.imp fun d S1 J1 H1 _ a1 g1 q1 v rv=>q1 J1 H1 _ a1 .refl ((he.grow g1).set rv)⟩⟩
theorem zTw {g:DS.GM}:∀D σ H,tsOf K E (DS.sUnp g m) D σ H->tAsg (tOf K E m) (gOf K g) D σ H:=fun D σ H ⟨env,S,J,ha,he,q⟩=>⟨env,S,J,ha,he,q.then.imp fun d S1 J1 H1 _ a1 g1 q1 v rv=>by
 cases e1:g S1 d env with
 | none=>rw[e1]at q1;exact False.elim q1
 | some env'=>rw[e1]at q1;exact⟨env,S1,J1,d,env',a1,he.grow g1,rv,e1,fun σ' he'=>q1 J1 H1 σ' a1 .refl he'⟩⟩
theorem zTb {ts:List Expr}{k:Nat}{tp:Pos}{g:DS.GM}(he:DE X K E e m) (hg:DG X K (.Tuple ts k tp) g) (h1:ntu e=true:=by rfl):DS1 X K E (.Assign [.Tuple ts k tp] e pos) (DS.sUnp g m):=⟨(qasgt' he.h hg.h h1).imp zTw⟩
theorem zD2 (he:DE X K E e m) (h:nco e=true:=by rfl):DS1 X K E (.Expr e pos) (DS.zDg m):=⟨(qexpr' he.h h).imp fun D σ H hz6=>by obtain⟨env,S,J,ha,he,q⟩:=hz6;exact ⟨env,S,J,ha,he,q.then.imp fun d S1 J1 H1 _ a1 g1 q1 v rv=>q1 J1 H1 σ a1 .refl (he.grow g1)⟩⟩
theorem zAu (he:DE X K E e m):DS1 X K E (.Return (some e) pos) (DS.sRet m):=⟨(zRr he.h).imp fun D σ H hz7=>by obtain⟨env,S,J,ha,he,q⟩:=hz7;exact ⟨env,S,J,ha,he,q.then.imp fun d S1 J1 H1 _ a1 g1 q1 v rv=>q1 J1 H1 v a1 .refl rv⟩⟩
theorem zCt {ba bb:List Stmt}(hc:DT X K E c mt) (ha:DSs X K E ba ms) (hb:DSs X K E bb mv):DS1 X K E (.If c ba bb pos) (DS.sIf mt ms mv):=⟨(zUj hc.h ha.h hb.h).imp fun D σ H ⟨env,S,J,ha,he,q⟩=>⟨env,S,J,ha,he,q.then.imp fun k S1 J1 H1 _ a1 g1 q1=>by
 cases k with
 | true=>exact⟨env,S1,J1,a1,he.grow g1,q1⟩
 | false=>exact⟨env,S1,J1,a1,he.grow g1,q1⟩⟩⟩
theorem zN4 {body:List Stmt}(hp:PassesOwn (model X.prog X.w) X.A X.env X.xe) (hc:DT X K E c mt) (hb:DSs X K E body ms):DS1 X K E (.While c body [] pos) (DS.zFa mt ms):=⟨(zLu hp hc.h hb.h).imp fun D σ H ⟨env,S,J,ha,he,q⟩=>by
 unfold DS.zFa at q
 by_cases hx:∃n,DS.zB4 mt ms n env S≠.bad
 ·rw[dif_pos hx]at q
  generalize Classical.choose hx=n at q
  refine⟨fun n σ H=>∃env S J,AbS K J S H/\RepE K J H env σ/\PostS K E J H (DS.zB4 mt ms n env S) D,⟨n,env,S,J,ha,he,q⟩,?_⟩
  rintro m σ H ⟨env,S,J,ha,he,q⟩
  cases m with
  | zero=>exact False.elim q
  | succ m=>
   refine⟨env,S,J,ha,he,(PostS.then (r:=mt env S) (by unfold DS.zB4 at q;exact q)).imp fun k S1 J1 H1 _ a1 g1 q1=>?_⟩
   cases k with
   | false=>exact q1 J1 H1 σ a1 .refl (he.grow g1)
   | true=>
    rw[xc rfl]at q1 ⊢
    refine⟨fun σ H=>∃env S J,AbS K J S H/\RepE K J H env σ/\PostS K E J H (DS.zB4 mt ms m env S) D,fun σ' H' w=>⟨m,Nat.lt_succ_self m,w⟩,env,S1,J1,a1,he.grow g1,?_⟩
    cases e:ms env S1 with
    | nx e1 S2=>rw[e]at q1;exact fun J' H' σ' h1 g2 h2=>⟨e1,S2,J',h1,h2,PostS.grow g2 q1⟩
    | ct e1 S2=>rw[e]at q1;exact fun J' H' σ' h1 g2 h2=>⟨e1,S2,J',h1,h2,PostS.grow g2 q1⟩
    | _=>rw[e]at q1;exact q1
 ·rw[dif_neg hx]at q;exact False.elim q⟩
theorem zJw {α:Type}{l:List α}{i:Nat}(h:i<l.length):l.drop i=l[i]::l.drop (i+1):=List.drop_eq_getElem_cons h
theorem zCc {tg iter:Expr}{body:List Stmt}{im:DS.IM}{g:DS.GM}(hp:PassesOwn (model X.prog X.w) X.A X.env X.xe) (hc:X.calm=true) (hi:DI X K E tg iter im) (hg:DG X K tg g) (hb:DSs X K E body ms) (h:nse iter=true:=by rfl):
  DS1 X K E (.For tg iter body [] pos) (DS.sFor im g ms):=⟨(qfor' hp hc hi.h hg.h hb.h h).imp fun D σ H ⟨env,S,J,ha,he,q⟩=>⟨env,S,J,ha,he,q.then.imp fun w S1 J1 H1 _ a1 g1 q1 I ok=>by
 refine⟨fun i m σ H=>m+i=w.its.length/\∃env S J,AbS K J S H/\Grow J1 H1 J H/\RepE K J H env σ/\PostS K E J H (DS.forL w.gd g ms (w.its.drop i) env S) D,⟨w.its.length,rfl,env,S1,J1,a1,.refl,he.grow g1,q1⟩,?_⟩
 rintro i m σ H ⟨hm,env,S,J,ha,gr,he,q⟩
 by_cases hi:i<w.its.length
 ·rw[zJw hi]at q
  unfold DS.forL at q
  by_cases gd:DS.gOk S w.gd
  ·rw[xc gd]at q
   refine .inr ⟨ok.go i H J S ha gr gd hi,fun σ H=>(m-1)+(i+1)=w.its.length/\∃env S J,AbS K J S H/\Grow J1 H1 J H/\RepE K J H env σ/\PostS K E J H (DS.forL w.gd g ms (w.its.drop (i+1)) env S) D,fun σ' H' wq=>⟨m-1,by nofun,wq⟩,fun x H' y=>?_⟩
   obtain⟨a2,g2,rx⟩:=ok.yld i H J S x H' ha gr gd y _ (xp hi)
   cases eg:g S w.its[i] env with
   | none=>rw[eg]at q;exact False.elim q
   | some env'=>
    rw[eg]at q
    refine⟨env,S,J,w.its[i],env',a2,he.grow g2,rx,eg,fun σ2 he2=>⟨env',S,J,a2,he2,?_⟩⟩
    simp only at q
    cases e:ms env' S with
    | nx e1 S2=>rw[e]at q;exact fun J' H' σ' h1 g3 h2=>⟨by nofun,e1,S2,J',h1,gr.trans (g2.trans g3),h2,PostS.grow (g2.trans g3) q⟩
    | ct e1 S2=>rw[e]at q;exact fun J' H' σ' h1 g3 h2=>⟨by nofun,e1,S2,J',h1,gr.trans (g2.trans g3),h2,PostS.grow (g2.trans g3) q⟩
    | bk e1 S2=>rw[e]at q;exact fun J' H' σ' h1 g3 h2=>q J' H' σ' h1 (g2.trans g3) h2
    | rt e1 S2=>rw[e]at q;exact fun J' H' σ' h1 g3 h2=>q J' H' σ' h1 (g2.trans g3) h2
    | ex e1 S2=>rw[e]at q;exact fun J' H' h1 g3=>q J' H' h1 (g2.trans g3)
    | bad=>rw[e]at q;exact q
  ·rw[xf gd]at q;exact False.elim q
 ·have e0:w.its.drop i=[]:=List.drop_eq_nil_of_le (by nofun)
  rw[e0]at q
  unfold DS.forL at q
  by_cases gd:DS.gOk S w.gd
  ·rw[xc gd]at q
   exact .inl ⟨ok.stop i H J S ha gr gd (by nofun),q J H σ ha .refl he⟩
  ·rw[xf gd]at q;exact False.elim q⟩⟩
theorem zKr {J:Js}{H:Hp}{env:DS.Env}{σ:St}{own:List Str}{ix:List Nat}(he:RepE K J H env σ):RepE K J H (DS.compEnv own.length ix env) (zD8 own ix σ):=by
 refine⟨by simp[DS.compEnv,zD8],fun i d e=>?_⟩
 unfold DS.compEnv at e
 unfold zD8
 by_cases hi:i<own.length
 ·rw[vq (by simpa using hi),List.getElem?_replicate,xc hi]at e
  cases e
 ·rw[vH (by simpa using hi),vt]at e
  rw[vH (by simpa using hi),vt]
  simp only[List.length_replicate,xo]at e ⊢
  cases ej:ix[i-own.length]? with
  | none=>rw[ej]at e;cases e
  | some j=>
   rw[ej]at e
   simp only[ub,Option.some.injEq]at e ⊢
   cases en:env[j]? with
   | none=>rw[en]at e;cases e
   | some o=>
    rw[en]at e
    obtain⟨v,ev,r⟩:=he.get j d (by rw[en];exact congrArg some e)
    exact⟨v,by rw[ev];rfl,r⟩
theorem zJy {own:List Str}{ix:List Nat}{im:DS.IM}{g:DS.GM}:∀σ H Q,tOfF K E (DS.zCs own.length ix im g mt m) σ H Q->zI4 own ix (iOf K E im) (gOf K g) (ttOf K E mt) (tOf K E m) σ H Q:=by
 refine fun σ H Q ⟨env,St,J,ha,hE,q⟩=>⟨env,St,J,ha,hE,q.bind.imp fun w S1 J1 H1 _ a1 g1 q1 I ok=>?_⟩
 refine⟨fun i k ys σ H=>k+i=w.its.length/\∃env S J ds,AbS K J S H/\Grow J1 H1 J H/\RepE K J H env σ/\RepL K J H ds ys/\Post K E J H (DS.zDv w.gd g mt m ys.length (w.its.drop i) env S) (fun vs S2 J2 H2=>∀p o,H2 p=none->ObD K J2 H2 (.lst (ds++vs)) o->Q (.ref p) (upd H2 p o)),
  ⟨w.its.length,rfl,_,S1,J1,[],a1,.refl,zKr (hE.grow g1),rfl,q1.bind.imp fun vs S2 J2 H2 _ a2 g2 q2=>q2 J2 H2 a2 .refl⟩,?_⟩
 rintro i k ys σ H ⟨hk,env,S,J,ds,ha,gr,hE,rl,q⟩
 by_cases hi:i<w.its.length
 ·rw[zJw hi]at q
  unfold DS.zDv at q
  by_cases gd:DS.gOk S w.gd/\ys.length<DS.most
  ·rw[xc gd]at q
   refine .inr ⟨ok.go i H J S ha gr gd.1 hi,gd.2,fun ys σ H=>(k-1)+(i+1)=w.its.length/\∃env S J ds,AbS K J S H/\Grow J1 H1 J H/\RepE K J H env σ/\RepL K J H ds ys/\Post K E J H (DS.zDv w.gd g mt m ys.length (w.its.drop (i+1)) env S) (fun vs S2 J2 H2=>∀p o,H2 p=none->ObD K J2 H2 (.lst (ds++vs)) o->Q (.ref p) (upd H2 p o)),
    fun zs σ' H' wq=>⟨k-1,by nofun,wq⟩,fun x H' y=>?_⟩
   obtain⟨a2,g2,rx⟩:=ok.yld i H J S x H' ha gr gd.1 y _ (xp hi)
   cases eg:g S w.its[i] env with
   | none=>rw[eg]at q;exact False.elim q
   | some env'=>
    rw[eg]at q
    refine⟨env,S,J,w.its[i],env',a2,hE.grow g2,rx,eg,fun σ2 he2=>⟨env',S,J,a2,he2,(Post.grow g2 q).bind.imp fun b S3 J3 H3 _ a3 g3 q3=>?_⟩⟩
    cases b with
    | false=>exact⟨by nofun,env',S3,J3,ds,a3,gr.trans (g2.trans g3),he2.grow g3,RepL.grow (g2.trans g3) _ _ rl,q3⟩
    | true=>
     rw[xc rfl]at q3 ⊢
     refine⟨env',S3,J3,a3,he2.grow g3,q3.bind.imp fun d4 S4 J4 H4 _ a4 g4 q4 v rv=>?_⟩
     have g24:=g2.trans (g3.trans g4)
     refine⟨by nofun,env',S4,J4,ds++[d4],a4,gr.trans g24,he2.grow (g3.trans g4),(RepL.grow g24 _ _ rl).snoc rv,?_⟩
     rw[show(ys++[v]).length=ys.length+1 by simp]
     refine q4.bind.imp fun vs S5 J5 H5 _ a5 g5 q5=>?_
     have:=q5 J5 H5 a5 .refl
     rw[List.append_assoc]
     exact this
  ·rw[xf gd]at q;exact False.elim q
 ·have e0:w.its.drop i=[]:=List.drop_eq_nil_of_le (by nofun)
  rw[e0]at q
  unfold DS.zDv at q
  by_cases gd:DS.gOk S w.gd
  ·rw[xc gd]at q
   have q2:∀(p:Addr) (o:HO),H p=none->ObD K J H (.lst (ds++[])) o->Q (.ref p) (upd H p o):=q J H ha .refl
   rw[vy]at q2
   exact .inl ⟨ok.stop i H J S ha gr gd (by nofun),fun p n=>q2 p (.lst ys) n ⟨ys,rfl,rl⟩⟩
  ·rw[xf gd]at q;exact False.elim q
theorem of_imp:∀σ H Q,tOf K E m σ H Q->tOfF K E m σ H Q:=fun σ H Q hz8=>by obtain⟨env,S,J,ha,he,q⟩:=hz8;exact ⟨env,S,J,ha,he,q.map fun d S' J' H' _ h1 g k p o n r=>k J' (upd H' p o) (h1.push n) (g.trans (.push n)) (.ref p) (r.rep h1 n)⟩
theorem zRb {j:Nat}:∀D σ H,tsOf K E (DS.sSet j m) D σ H->tOf K E m σ H (fun x H1=>gName j x σ H1 D.nx):=fun D σ H hz9=>by obtain⟨env,S,J,ha,he,q⟩:=hz9;exact ⟨env,S,J,ha,he,q.then.imp fun d S1 J1 H1 _ a1 g1 q1 v rv=>q1 J1 H1 _ a1 .refl ((he.grow g1).set rv)⟩
theorem zEx {own fre:List Str}{ix:List Nat}{n:Nat}{scope:Scope}{tg elt iter:Expr}{ifs:List Expr}{im:DS.IM}{g:DS.GM}(hc:X.calm=true) (S:CompScope X own fre ix scope) (hi:DI X K E tg iter im)
  (hg:∀cl C s H fp,DG (zAf X (own++fre) scope cl C s H fp) K tg g) (ht:∀cl C s H fp,DIf (zAf X (own++fre) scope cl C s H fp) K E ifs mt) (he:∀cl C s H fp,DE (zAf X (own++fre) scope cl C s H fp) K E elt m)
  (hn:own.length=n:=by rfl) (h:nse iter=true:=by rfl):DF X K E (.ListComp elt [⟨tg,iter,ifs,0⟩] scope pos) (DS.zCs n ix im g mt m):=by
 subst hn
 exact⟨(qlcomp' hc S hi.h (fun _ _ _ _ _=>(hg _ _ _ _ _).h) (fun _ _ _ _ _=>(ht _ _ _ _ _).h) (fun _ _ _ _ _=>(he _ _ _ _ _).h) h).imp zJy⟩
theorem zPi {own fre:List Str}{ix:List Nat}{n:Nat}{scope:Scope}{j:Nat}{x:Str}{cpos pos':Pos}{tg elt iter:Expr}{ifs:List Expr}{im:DS.IM}{g:DS.GM}(hN:X.N.Nodup) (hix:X.N[j]?=some x) (hx:Loc X.env.scope x)
  (hc:X.calm=true) (S:CompScope X own fre ix scope) (hi:DI X K E tg iter im)
  (hg:∀cl C s H fp,DG (zAf X (own++fre) scope cl C s H fp) K tg g) (ht:∀cl C s H fp,DIf (zAf X (own++fre) scope cl C s H fp) K E ifs mt) (he:∀cl C s H fp,DE (zAf X (own++fre) scope cl C s H fp) K E elt m)
  (hsw:swapsWith (.ListComp elt [⟨tg,iter,ifs,0⟩] scope cpos) (some (.Name x pos')) pos.line X.env=pure true:=by rfl) (h:nse iter=true:=by rfl) (hf:X.fn x=true\/X.env.scope.names.lookup x=some .local:=by first|exact .inl rfl|exact .inr rfl|assumption) (hn:own.length=n:=by rfl):
  DS1 X K E (.Assign [.Name x pos'] (.ListComp elt [⟨tg,iter,ifs,0⟩] scope cpos) pos) (DS.sSet j (DS.zCs n ix im g mt m)):=by
 subst hn
 exact⟨(qsetc' hN hix hx hc S hi.h (fun _ _ _ _ _=>(hg _ _ _ _ _).h) (fun _ _ _ _ _=>(ht _ _ _ _ _).h) (fun _ _ _ _ _=>(he _ _ _ _ _).h) hsw h hf).imp fun D σ H h=>zJy σ H _ (of_imp σ H _ (zRb D σ H h))⟩
end
section
variable {P:Program}{w:World}{K:PySem.W.Frag}{mg:Str->Option Value}{base:Heap}
theorem zHp {E:XE}{J:Js}{H:Hp}{np nl:Nat}{b:DS.SM}{ds:List D}{S:Store}{P:D->Store->Js->Hp->Prop}(h:Post K E J H (DS.zB1 np nl b ds S) P):ds.length=np:=by
 unfold DS.zB1 at h
 by_cases e:ds.length=np
 ·exact e
 ·rw[xf e]at h;exact False.elim h
theorem zJ4 {J:Js}{H:Hp}{ds:List D}{vs:List V}{N:List Str}(r:RepL K J H ds vs):RepE K J H (ds.map some++List.replicate (N.length-ds.length) none) (start N vs):=by
 refine⟨by simp[start,r.length],fun i d e=>?_⟩
 unfold start
 by_cases hi:i<ds.length
 ·rw[vq (by simpa using hi),vt]at e
  rw[vq (by simpa[<- r.length]using hi),vt]
  cases ed:ds[i]? with
  | none=>rw[ed]at e;cases e
  | some d'=>
   rw[ed]at e;cases e
   obtain⟨x,ex,rx⟩:=r.get ed
   exact⟨x,by rw[ex];rfl,rx⟩
 ·rw[vH (by simpa using hi),List.getElem?_replicate]at e
  split at e <;> cases e
theorem zTj {J:Js}{H:Hp}{np:Nat}{N:List Str}{b:DS.SM}{ds:List D}{vs:List V}{S:Store}{Q:VK}(ha:AbS K J S H) (r:RepL K J H ds vs)
  (h:Post K XE0 J H (DS.zB1 np N.length b ds S) (fun d _ J' H'=>∀v,Rep K J' H' d v->Q v H')):tsOf K XE0 b { nx:=fun _ H'=>Q .non H',rt:=Q } (start N vs) H:=by
 have hl:=zHp h
 unfold DS.zB1 at h
 rw[xc hl,<- hl]at h
 refine⟨_,S,J,ha,zJ4 r,?_⟩
 have fin:∀d S' J' H' v,AbS K J' S' H'->Grow J H J' H'->Rep K J' H' d v->Post K XE0 J H (DS.fin S d S') (fun d _ J' H'=>∀v,Rep K J' H' d v->Q v H')->Q v H':=fun d S' J' H' v a1 g1 r1 q=>by
  cases e:DS.fin S d S' with
  | ok d2 S2=>
   obtain⟨J2,a2,g2,r2⟩:=zVq ha g1 a1 r1 e
   rw[e]at q
   exact q J2 H' a2 g2 v r2
  | ex x S2=>rw[e]at q;exact False.elim (q J' H' (by
    exfalso
    unfold DS.fin at e
    split at e <;> try cases e
    split at e <;> try cases e
    split at e <;> try cases e
    split at e <;> try cases e
    split at e <;> cases e) g1)
  | bad=>rw[e]at q;exact False.elim q
 cases e:b (ds.map some++List.replicate (N.length-ds.length) none) S with
 | nx e1 S1=>rw[e]at h;exact fun J' H' σ h1 g1 _=>fin .non S1 J' H' .non h1 g1 rfl h
 | rt d S1=>rw[e]at h;exact fun J' H' v h1 g1 r1=>fin d S1 J' H' v h1 g1 r1 h
 | bk e1 S1=>rw[e]at h;exact False.elim h
 | ct e1 S1=>rw[e]at h;exact False.elim h
 | ex x S1=>rw[e]at h;exact h
 | bad=>rw[e]at h;exact False.elim h
theorem fn_d {k:Nat}{x qual:Str}{st:Stmt}{f:Addr}{fd:FuncData}{N ps:List Str}{np nl:Nat}{b:DS.SM}(F:Fun K x qual st f fd) (Sc:zAr N ps (zA7 st)) (hnp:ps.length=np) (hnl:N.length=nl)
  (hb:∀(cdv:Value) (A:Around) (outer:List PySem.Env) (s:Shared) (H:Hp) (E:XK),Room k (A.deeper (envOfC qual (zA7 st) s.heap.objs.size f cdv))->DSs (cxOf CX0 P w K mg base N qual (zA7 st) f cdv A outer s H E).nox K XE0 (zCd st) b):
  FnOk P w K mg base CX0 (k+1) f fd ps (spOf K XE0 (DS.zB1 np nl b)):=by
 subst hnp hnl
 refine F.ok (k:=k) Sc (fun vs H Q E h=>?_) (fun cdv A outer s H vs Q E hr h=>?_)
 ·obtain⟨J,S,ds,ha,r,q⟩:=h
  rw[<- r.length];exact zHp q
 ·obtain⟨J,S,ds,ha,r,q⟩:=h
  exact⟨_,(hb cdv A outer s H E hr).h.h,zTj ha r q⟩
theorem zPo {J:Js}{H:Hp}{np:Nat}{N:List Str}{b:DS.SM}{ds:List D}{vs:List V}{S:Store}{Q:VK}(hl:ds.length=np) (ha:AbS K J S H) (r:RepL K J H ds vs)
  (h:Post K XE0 J H (DS.zGo np N.length b ds S) (fun d _ J' H'=>∀v,Rep K J' H' d v->Q v H')):tsOf K XE0 b { nx:=fun _ H'=>Q .non H',rt:=Q } (start N vs) H:=by
 unfold DS.zGo at h
 rw[xc hl,<- hl]at h
 refine⟨_,S,J,ha,zJ4 r,?_⟩
 cases e:b (ds.map some++List.replicate (N.length-ds.length) none) S with
 | nx e1 S1=>rw[e]at h;exact fun J' H' σ h1 g1 _=>h J' H' h1 g1 .non rfl
 | rt d S1=>rw[e]at h;exact fun J' H' v h1 g1 r1=>h J' H' h1 g1 v r1
 | bk e1 S1=>rw[e]at h;exact False.elim h
 | ct e1 S1=>rw[e]at h;exact False.elim h
 | ex x S1=>rw[e]at h;exact h
 | bad=>rw[e]at h;exact False.elim h
theorem fn_r {k:Nat}{x qual:Str}{st:Stmt}{f:Addr}{fd:FuncData}{N ps:List Str}{np nl:Nat}{b:DS.SM}(F:Fun K x qual st f fd) (Sc:zAr N ps (zA7 st)) (hnp:ps.length=np) (hnl:N.length=nl)
  (hb:∀(cdv:Value) (A:Around) (outer:List PySem.Env) (s:Shared) (H:Hp) (E:XK),Room k (A.deeper (envOfC qual (zA7 st) s.heap.objs.size f cdv))->DSs (cxOf CX0 P w K mg base N qual (zA7 st) f cdv A outer s H E).nox K XE0 (zCd st) b):
  FnOk P w K mg base CX0 (k+1) f fd ps (spOf K XE0 (DS.zGo np nl b)):=by
 subst hnp hnl
 have cl:∀{J:Js}{H:Hp}{ds:List D}{S:Store}{P:D->Store->Js->Hp->Prop},Post K XE0 J H (DS.zGo ps.length N.length b ds S) P->ds.length=ps.length:=fun {J H ds S P} h=>by
  unfold DS.zGo at h
  by_cases e:ds.length=ps.length
  ·exact e
  ·rw[xf e]at h;exact False.elim h
 refine F.ok (k:=k) Sc (fun vs H Q E h=>?_) (fun cdv A outer s H vs Q E hr h=>?_)
 ·obtain⟨J,S,ds,ha,r,q⟩:=h
  rw[<- r.length];exact cl q
 ·obtain⟨J,S,ds,ha,r,q⟩:=h
  exact⟨_,(hb cdv A outer s H E hr).h.h,zPo (cl q) ha r q⟩
end
end L2
namespace DS
open PySem (Str)
noncomputable section
open Classical
noncomputable def big:Nat:=2 ^ 5000
noncomputable def sm (x:Int):Prop:=x.natAbs<big
theorem zWe {x:Int}(h1:-(2 ^ 200)<x) (h2:x<2 ^ 200):sm x:=by
 have h:(2:Nat) ^ 200<=big:=Nat.pow_le_pow_right (by decide) (by decide)
 have e:((2 ^ 200:Nat):Int)=2 ^ 200:=by norm_cast
 unfold sm
 lia
noncomputable def addD (S:Store) (x y:D):Option D:=match x,y with
 | .int a,.int b=>some (.int (a+b))
 | .str a,.str b=>if a.length+b.length<=most then some (.str (a++b))else none
 | .tup l,.tup m=>if l≠[]/\l.length+m.length<=most then some (.tup (l++m))else none
 | x,y=>match litems S x,litems S y with
  | some l,some m=>if l.length+m.length<=most then some (.lst (l++m))else none
  | _,_=>none
noncomputable def catD (S:Store) (x y:D):Option D:=match litems S x,litems S y with
 | some l,some m=>if l.length+m.length<=most then some (.lst (l++m))else none
 | _,_=>none
noncomputable def subD (_:Store) (x y:D):Option D:=match x,y with
 | .int a,.int b=>some (.int (a-b))
 | _,_=>none
noncomputable def mulD (S:Store) (x y:D):Option D:=match x,y with
 | .int a,.int b=>if sm a/\sm b then some (.int (a*b))else none
 | _,_=>none
noncomputable def zHh (_:Store) (x y:D):Option D:=match x,y with
 | .int a,.int b=>if b≠0/\sm b then some (.int (a.fdiv b))else none
 | _,_=>none
noncomputable def modD (_:Store) (x y:D):Option D:=match x,y with
 | .int a,.int b=>if 0<b then some (.int (a % b))else none
 | _,_=>none
noncomputable def powD (_:Store) (x y:D):Option D:=match x,y with
 | .int a,.int b=>if 0<=b/\b<=1000000/\a.natAbs<2 ^ 64 then some (.int (a ^ b.toNat))else none
 | _,_=>none
noncomputable def shlD (_:Store) (x y:D):Option D:=match x,y with
 | .int a,.int b=>if 0<=b/\b<=1000000/\a.natAbs<2 ^ 64 then some (.int (a*2 ^ b.toNat))else none
 | _,_=>none
noncomputable def shrD (_:Store) (x y:D):Option D:=match x,y with
 | .int a,.int b=>if 0<=b then some (.int (a / 2 ^ b.toNat))else none
 | _,_=>none
noncomputable def andD (_:Store) (x y:D):Option D:=match x,y with
 | .int a,.int b=>if 0<=a/\0<=b then some (.int ((a.toNat &&& b.toNat:Nat):Int))else none
 | _,_=>none
noncomputable def orD (_:Store) (x y:D):Option D:=match x,y with
 | .int a,.int b=>if 0<=a/\0<=b then some (.int ((a.toNat ||| b.toNat:Nat):Int))else none
 | _,_=>none
noncomputable def negD (_:Store) (x:D):Option D:=match x with
 | .int a=>some (.int (-a))
 | _=>none
noncomputable def okL (l m:List D):Prop:=zBt l=true/\zBt m=true/\cmpL l m=true/\depL l<=60
noncomputable def eqO (S:Store) (x y:D):Option Bool:=match look S x,look S y with
 | some (.int a),some (.int b)=>some (decide (a=b))
 | some (.bl a),some (.bl b)=>some (decide (a=b))
 | some (.str a),some (.str b)=>some (decide (a=b))
 | some (.tup l),some (.tup m)=>if okL l m then some (decide (l=m))else none
 | some (.lst l),some (.lst m)=>if okL l m then some (decide (l=m))else none
 | _,_=>none
noncomputable def eqD (S:Store) (x y:D):Option D:=(eqO S x y).map D.bl
noncomputable def neD (S:Store) (x y:D):Option D:=(eqO S x y).map fun b=>.bl (!b)
noncomputable def gtD (_:Store) (x y:D):Option D:=match x,y with
 | .int a,.int b=>some (.bl (decide (b<a)))
 | _,_=>none
noncomputable def geD (_:Store) (x y:D):Option D:=match x,y with
 | .int a,.int b=>some (.bl (decide (b<=a)))
 | _,_=>none
noncomputable def ixN (n:Nat) (i:Int):Option Nat:=if 0<=i then(if i<n then some i.toNat else none)else if -(n:Int)<=i then some (i+n).toNat else none
noncomputable def atL {α:Type}(xs:List α) (i:Int):Option α:=(ixN xs.length i).bind fun j=>xs[j]?
noncomputable def look2 (ks vs:List D) (k:D):Option D:=match ks,vs with
 | a::r,v::t=>if a=k then some v else look2 r t k
 | _,_=>none
noncomputable def isKey:D->Bool
 | .int _=>true
 | .str _=>true
 | .tup l=>l.all fun d=>match d with
  | .int _=>true
  | .str _=>true
  | _=>false
 | _=>false
noncomputable def zE1 (t:Bool) (k:D):Bool:=isKey k && (match k with
 | .tup _=>t
 | _=>!t)
noncomputable def ixD (S:Store) (x y:D):Option D:=match look S x,y with
 | some (.tup l),.int i=>atL l i
 | some (.lst l),.int i=>atL l i
 | some (.str z),.int i=>if z.length<=most then(atL z.cps.toList i).map fun c=>.str ⟨#[c]⟩else none
 | some (.dct t ks vs),k=>if zE1 t k=true then look2 ks vs k else none
 | _,_=>none
noncomputable def sIx (n d:Nat):Option Int->Nat
 | none=>d
 | some v=>if v<0 then(v+(n:Int)).toNat else min v.toNat n
noncomputable def cutL {α:Type}(xs:List α) (lo hi:Option Int):List α:=(xs.drop (sIx xs.length 0 lo)).take (sIx xs.length xs.length hi-sIx xs.length 0 lo)
noncomputable def slD (S:Store) (x:D) (lo hi:Option Int):Option D:=match x with
 | .tup l=>some (.tup (cutL l lo hi))
 | .ktup l=>if sIx l.length 0 lo=0/\sIx l.length l.length hi=l.length then some (.ktup l)else some (.tup (cutL l lo hi))
 | x=>match look S x with
  | some (.lst l)=>some (.lst (cutL l lo hi))
  | _=>none
noncomputable def okIn (x:D) (l:List D):Prop:=x.flat=true/\zBt l=true/\depL l<=60/\∀d∈l,d.cmp x=true
noncomputable def inO (S:Store) (x y:D):Option Bool:=match look S y with
 | some (.tup l)=>if okIn x l then some (decide (x∈l))else none
 | some (.lst l)=>if okIn x l then some (decide (x∈l))else none
 | some (.dct t ks _)=>if zE1 t x=true then some (decide (x∈ks))else none
 | _=>none
noncomputable def inD (S:Store) (x y:D):Option D:=(inO S x y).map D.bl
noncomputable def zDh (S:Store) (x y:D):Option D:=(inO S x y).map fun b=>.bl (!b)
noncomputable def repl2:List D->List D->D->D->List D
 | a::r,w::t,k,v=>(if a=k then v else w)::repl2 r t k v
 | _,_,_,_=>[]
noncomputable def put2 (ks vs:List D) (k v:D):List D × List D:=if k∈ks then(ks,repl2 ks vs k v)else(ks++[k],vs++[v])
noncomputable def putD (S:Store) (o k v:D):Option Store:=match o with
 | .ref n=>match S[n]? with
  | some (.lst l)=>(match k with
   | .int i=>(ixN l.length i).map fun j=>S.set n (.lst (l.set j v))
   | _=>none)
  | some (.dct t ks vs)=>if zE1 t k=true/\ks.length<most then some (S.set n (.dct t (put2 ks vs k v).1 (put2 ks vs k v).2))else none
  | _=>none
 | _=>none
noncomputable def lenB (S:Store):List D->Option D
 | [d]=>match look S d with
  | some (.tup l)=>some (.int l.length)
  | some (.lst l)=>some (.int l.length)
  | some (.dct _ ks _)=>some (.int ks.length)
  | some (.str x)=>if x.length<=most then some (.int x.length)else none
  | _=>none
 | _=>none
noncomputable def zKf (S:Store):List D->Option D
 | [d]=>(items S d).map D.lst
 | _=>none
noncomputable def zAv (S:Store):List D->Option D
 | [d]=>match d with
  | .tup l=>some (.tup l)
  | .ktup l=>some (.ktup l)
  | d=>(litems S d).map D.tup
 | _=>none
noncomputable def bools:List D->Option (List Bool)
 | []=>some []
 | .bl b::r=>(bools r).map (b::·)
 | _=>none
noncomputable def anyB (S:Store):List D->Option D
 | [d]=>((litems S d).bind bools).map fun bs=>.bl (bs.any id)
 | _=>none
noncomputable def max2B (_:Store):List D->Option D
 | [.int i,.int j]=>some (.int (if j > i then j else i))
 | _=>none
noncomputable def min2B (_:Store):List D->Option D
 | [.int i,.int j]=>some (.int (if j<i then j else i))
 | _=>none
noncomputable def zAs (S:Store) (o:D) (xs:List D):Option (D × Store):=match o,xs with
 | .ref n,[v]=>match S[n]? with
  | some (.lst l)=>if l.length<most then some (.non,S.set n (.lst (l++[v])))else none
  | _=>none
 | _,_=>none
end
end DS
namespace L2
open PySem PySem.Spec PyProof.Rows
open DS (D Store Exn Rs SR)
section
variable {X:Cx}{K:PySem.W.Frag}{E:XE}{J:Js}{S:Store}{H:Hp}{d d1 d2:D}{v:V}
theorem Inv.lstR {pins:List (Addr × Obj)}{σ:St}{s:Shared}{l:Addr}{xs:List V}(I:Inv X pins σ H s) (hH:Rd H l (.lst xs)):xs.length<=sizeLine/\∃(its:List Value) (n:Nat),Vals xs its/\xs.length=its.length/\s.heap.get? l=some { cls:=.type "list",data:=.seq its.toArray n }:=by
 obtain⟨z,its,n,r,e⟩:=hH.ok I.hok
 exact⟨z,its,n,r,r.length,e⟩
theorem zDi {l:List D}(ha:AbS K J S H) (r:Rep K J H d v) (e:DS.litems S d=some l):∃a xs,v=.ref a/\Rd H a (.lst xs)/\RepL K J H l xs:=by
 cases d with
 | lst ds=>cases e;obtain⟨a,xs,rfl,t,rl⟩:=r;exact⟨a,xs,rfl,.inl t.1,rl⟩
 | ref n=>
  obtain⟨a,ea,rfl⟩:=r
  obtain⟨c,ec,o,eo,rc⟩:=ha.at ea
  unfold DS.litems DS.look at e
  simp only[ec]at e
  cases c with
  | lst ds=>cases e;obtain⟨xs,rfl,rl⟩:=rc;exact⟨a,xs,rfl,.inl eo,rl⟩
  | dct _ ks vs=>cases e
  | _=>exact False.elim rc
 | _=>cases e
theorem zC9 {l:List D}(ha:AbS K J S H) (r:Rep K J H d v) (e:DS.items S d=some l):∃a xs,v=.ref a/\(SqL K H a xs\/SqT K H a xs)/\RepL K J H l xs:=by
 cases d with
 | tup ds=>cases e;obtain⟨a,xs,rfl,t,rl⟩:=r;exact⟨a,xs,rfl,.inr t.sq,rl⟩
 | ktup ds=>cases e;obtain⟨a,xs,rfl,t,rl⟩:=r;exact⟨a,xs,rfl,.inr t.sq,rl⟩
 | klst ds=>cases e;obtain⟨a,xs,rfl,t,rl⟩:=r;exact⟨a,xs,rfl,.inl t.sq,rl⟩
 | lst ds=>cases e;obtain⟨a,xs,rfl,t,rl⟩:=r;exact⟨a,xs,rfl,.inl t.sq,rl⟩
 | ref n=>
  obtain⟨a,ea,rfl⟩:=r
  obtain⟨c,ec,o,eo,rc⟩:=ha.at ea
  unfold DS.items DS.look at e
  simp only[ec]at e
  cases c with
  | lst ds=>cases e;obtain⟨xs,rfl,rl⟩:=rc;exact⟨a,xs,rfl,.inl (.inl (.inl eo)),rl⟩
  | dct _ ks vs=>cases e
  | _=>exact False.elim rc
 | _=>cases e
theorem zEq:OpR X (binaryOp .Sub) (r2Of K DS.subD):=by
 intro pins s σ H x y v u Q I rx ry ⟨J,S,d1,d2,d,ha,r1,r2,e,k⟩
 unfold DS.subD at e
 split at e
 ·cases e;obtain rfl:=r1;obtain rfl:=r2
  exact zUz pins s σ H _ _ v u Q I rx ry ⟨_,_,rfl,rfl,k _ H ha .refl rfl⟩
 ·cases e
theorem zBs:OpR X (binaryOp .Mult) (r2Of K DS.mulD):=by
 intro pins s σ H x y v u Q I rx ry ⟨J,S,d1,d2,d,ha,r1,r2,e,k⟩
 unfold DS.mulD at e
 split at e
 ·split at e
  ·rename_i h
   cases e;obtain rfl:=r1;obtain rfl:=r2
   exact zS8 pins s σ H _ _ v u Q I rx ry ⟨_,_,rfl,rfl,h,k _ H ha .refl rfl⟩
  ·cases e
 ·cases e
theorem zJg:OpR X (binaryOp .FloorDiv) (r2Of K DS.zHh):=by
 intro pins s σ H x y v u Q I rx ry ⟨J,S,d1,d2,d,ha,r1,r2,e,k⟩
 unfold DS.zHh at e
 split at e
 ·split at e
  ·rename_i h
   cases e;obtain rfl:=r1;obtain rfl:=r2
   exact zOt pins s σ H _ _ v u Q I rx ry ⟨_,_,rfl,rfl,h,k _ H ha .refl rfl⟩
  ·cases e
 ·cases e
theorem zC8:OpR X (binaryOp .Mod) (r2Of K DS.modD):=by
 intro pins s σ H x y v u Q I rx ry ⟨J,S,d1,d2,d,ha,r1,r2,e,k⟩
 unfold DS.modD at e
 split at e
 ·split at e
  ·rename_i h
   cases e;obtain rfl:=r1;obtain rfl:=r2
   exact zV4 pins s σ H _ _ v u Q I rx ry ⟨_,_,rfl,rfl,h,k _ H ha .refl rfl⟩
  ·cases e
 ·cases e
theorem zMa:OpR X (binaryOp .Pow) (r2Of K DS.powD):=by
 intro pins s σ H x y v u Q I rx ry ⟨J,S,d1,d2,d,ha,r1,r2,e,k⟩
 unfold DS.powD at e
 split at e
 ·split at e
  ·rename_i h
   cases e;obtain rfl:=r1;obtain rfl:=r2
   exact zV2 pins s σ H _ _ v u Q I rx ry ⟨_,_,rfl,rfl,h,k _ H ha .refl rfl⟩
  ·cases e
 ·cases e
theorem zM9:OpR X (binaryOp .LShift) (r2Of K DS.shlD):=by
 intro pins s σ H x y v u Q I rx ry ⟨J,S,d1,d2,d,ha,r1,r2,e,k⟩
 unfold DS.shlD at e
 split at e
 ·split at e
  ·rename_i h
   cases e;obtain rfl:=r1;obtain rfl:=r2
   exact zV1 pins s σ H _ _ v u Q I rx ry ⟨_,_,rfl,rfl,h,k _ H ha .refl rfl⟩
  ·cases e
 ·cases e
theorem zS6:OpR X (binaryOp .RShift) (r2Of K DS.shrD):=by
 intro pins s σ H x y v u Q I rx ry ⟨J,S,d1,d2,d,ha,r1,r2,e,k⟩
 unfold DS.shrD at e
 split at e
 ·split at e
  ·rename_i h
   cases e;obtain rfl:=r1;obtain rfl:=r2
   exact zV0 pins s σ H _ _ v u Q I rx ry ⟨_,_,rfl,rfl,h,k _ H ha .refl rfl⟩
  ·cases e
 ·cases e
theorem bAnd {a b:Int}(h1:0<=a) (h2:0<=b):Builtin.bitAnd a b=((a.toNat &&& b.toNat:Nat):Int):=by
 unfold Builtin.bitAnd
 rw[xq h1,xq h2]
theorem bOr {a b:Int}(h1:0<=a) (h2:0<=b):Builtin.bitOr a b=((a.toNat ||| b.toNat:Nat):Int):=by
 have n1:decide (0<=Builtin.bitNot a)=false:=xj (by unfold Builtin.bitNot;lia)
 have n2:decide (0<=Builtin.bitNot b)=false:=xj (by unfold Builtin.bitNot;lia)
 have e:∀z:Int,Builtin.bitNot (Builtin.bitNot z)=z:=fun z=>by unfold Builtin.bitNot;lia
 unfold Builtin.bitOr Builtin.bitAnd
 rw[n1,n2,e,e,e]
theorem zMc:OpR X (binaryOp .BitAnd) (r2Of K DS.andD):=by
 intro pins s σ H x y v u Q I rx ry ⟨J,S,d1,d2,d,ha,r1,r2,e,k⟩
 unfold DS.andD at e
 split at e
 ·split at e
  ·rename_i h
   cases e;obtain rfl:=r1;obtain rfl:=r2
   exact zV6 pins s σ H _ _ v u Q I rx ry ⟨_,_,rfl,rfl,by show Q (.int (Builtin.bitAnd _ _)) H;rw[bAnd h.1 h.2];exact k _ H ha .refl rfl⟩
  ·cases e
 ·cases e
theorem zV3:OpR X (binaryOp .BitOr) (r2Of K DS.orD):=by
 intro pins s σ H x y v u Q I rx ry ⟨J,S,d1,d2,d,ha,r1,r2,e,k⟩
 unfold DS.orD at e
 split at e
 ·split at e
  ·rename_i h
   cases e;obtain rfl:=r1;obtain rfl:=r2
   exact zWw pins s σ H _ _ v u Q I rx ry ⟨_,_,rfl,rfl,by show Q (.int (Builtin.bitOr _ _)) H;rw[bOr h.1 h.2];exact k _ H ha .refl rfl⟩
  ·cases e
 ·cases e
theorem zQs:UnR X (unaryOp .USub) (r1Of K DS.negD):=by
 intro pins s σ H x v Q I rx ⟨J,S,d1,d,ha,r1,e,k⟩
 unfold DS.negD at e
 split at e
 ·cases e;obtain rfl:=r1
  exact zTx pins s σ H _ v Q I rx ⟨_,rfl,k _ H ha .refl rfl⟩
 ·cases e
theorem zNq {pins:List (Addr × Obj)}{σ:St}{s:Shared}{a b:Addr}{xs ys:List V}{Q:VK}(I:Inv X pins σ H s) (h1:Rd H a (.lst xs)) (h2:Rd H b (.lst ys)) (hz:xs.length+ys.length<=sizeLine) (q:∀p,H p=none->Q (.ref p) (upd H p (.lst (xs++ys)))):
  wpAny (model X.prog X.w) X.A (binaryOp .Add (.ref a) (.ref b)) (EP X pins σ Q) X.xe s:=by
 obtain⟨z,its,n,r,hl,e⟩:=I.lstR h1
 obtain⟨z2,its2,n2,r2,hl2,e2⟩:=I.lstR h2
 refine PySem.P.add_list e e2 ?_ (by rw[xn,xn,<- hl,<- hl2];exact hz)
 rw[show its.toArray++its2.toArray=(its++its2).toArray by simp]
 exact⟨.ref _,_,I.lnew (t':=s.toks) (r.append r2) (by rw[vd];exact hz),rfl,q _ I.fresh⟩
theorem zOu:OpR X (binaryOp .Add) (zWo K DS.catD):=by
 intro pins s σ H x y v u Q I rx ry ⟨J,S,d1,d2,d,ha,r1,r2,e,k⟩
 unfold DS.catD at e
 split at e
 ·rename_i l m e1 e2
  split at e
  ·rename_i h
   cases e
   obtain⟨a,xs,rfl,h1,q1⟩:=zDi ha r1 e1
   obtain⟨b,ys,rfl,h2,q2⟩:=zDi ha r2 e2
   cases rx
   cases ry
   exact zNq I h1 h2 (by rw[<- q1.length,<- q2.length];exact h) fun p n=>k p _ H ha .refl n ⟨_,rfl,q1.append q2⟩
  ·cases e
 ·cases e
theorem zAp (hK:X.K=K:=by rfl):OpR X (binaryOp .Add) (r2Of K DS.addD):=by
 subst hK
 intro pins s σ H x y v u Q I rx ry ⟨J,S,d1,d2,d,ha,r1,r2,e,k⟩
 unfold DS.addD at e
 split at e
 ·cases e;obtain rfl:=r1;obtain rfl:=r2
  exact zV7 pins s σ H _ _ v u Q I rx ry ⟨_,_,rfl,rfl,k _ H ha .refl rfl⟩
 ·split at e
  ·rename_i h
   cases e;obtain rfl:=r1;obtain rfl:=r2
   exact zKa pins s σ H _ _ v u Q I rx ry ⟨_,_,rfl,rfl,h,k _ H ha .refl rfl⟩
  ·cases e
 ·split at e
  ·rename_i l m h
   cases e
   obtain⟨a,xs,rfl,t1,q1⟩:=r1
   obtain⟨b,ys,rfl,t2,q2⟩:=r2
   have e1:=q1.length
   have e2:=q2.length
   refine zSc pins s σ H _ _ v u Q I rx ry ⟨a,b,xs,ys,rfl,rfl,t1.sq,t2.sq,fun z=>h.1 (by subst z;exact List.eq_nil_of_length_eq_zero e1),by rw[<- e1,<- e2];exact h.2,fun z=>?_,fun z p n=>?_⟩
   ·subst z
    obtain rfl:m=[]:=List.eq_nil_of_length_eq_zero e2
    rw[vy]at k
    exact k _ H ha .refl ⟨a,xs,rfl,t1,q1⟩
   ·exact k _ _ (ha.push n) (.push n) ⟨p,_,rfl,⟨zAi,ha.out n⟩,RepL.grow (.push n) _ _ (q1.append q2)⟩
  ·cases e
 ·exact zOu pins s σ H _ _ v u Q I rx ry ⟨J,S,d1,d2,d,ha,r1,r2,e,fun p o H' a1 g1 n r=>k _ _ (a1.push n) (g1.trans (.push n)) (r.rep a1 n)⟩
mutual
noncomputable def toDv:D->Dv
 | .non=>.non
 | .bl b=>.bl b
 | .int i=>.int i
 | .str x=>.str x
 | .tup l=>.tup (zCi l)
 | .lst l=>.lst (zCi l)
 | .dct _ _ _=>.non
 | .ktup _=>.non
 | .klst _=>.non
 | .st _=>.non
 | .ty _=>.non
 | .ref _=>.non
noncomputable def zCi:List D->List Dv
 | []=>[]
 | d::r=>toDv d::zCi r
end
mutual
theorem zCx:∀(d:D) (v:V),d.flat=true->Rep K J H d v->Den K H (toDv d) v
 | .non,_,_,r=>r
 | .bl _,_,_,r=>r
 | .int _,_,_,r=>r
 | .str _,_,_,r=>r
 | .tup l,v,f,⟨a,xs,e,t,rl⟩=>⟨a,xs,e,t.sq,zBw l xs f rl⟩
 | .lst l,v,f,⟨a,xs,e,t,rl⟩=>⟨a,xs,e,t.sq,zBw l xs f rl⟩
 | .dct _ _ _,_,f,_=>by cases f
 | .ktup _,_,f,_=>by cases f
 | .klst _,_,f,_=>by cases f
 | .st _,_,f,_=>by cases f
 | .ty _,_,f,_=>by cases f
 | .ref _,_,f,_=>by cases f
theorem zBw:∀(l:List D) (xs:List V),DS.zBt l=true->RepL K J H l xs->DenL K H (zCi l) xs
 | [],_,_,r=>r
 | d::l,xs,f,⟨x,r,e,h,t⟩=>by
  have f:(d.flat && DS.zBt l)=true:=f
  rw[xA]at f
  exact⟨x,r,e,zCx d x f.1 h,zBw l r f.2 t⟩
end
mutual
theorem zFs:∀(d e:D),d.flat=true->e.flat=true->toDv d=toDv e->d=e
 | .non,e,_,f,h=>by cases e <;> first|rfl|(exact Bool.noConfusion (show false=true from f))|(cases h;done)
 | .bl _,e,_,f,h=>by cases e <;> first|(cases h;rfl)|exact nomatch h|exact nomatch f
 | .int _,e,_,f,h=>by cases e <;> first|(cases h;rfl)|exact nomatch h|exact nomatch f
 | .str _,e,_,f,h=>by cases e <;> first|(cases h;rfl)|exact nomatch h|exact nomatch f
 | .tup l,e,f,f',h=>by
  cases e with
  | tup m=>exact congrArg D.tup (zDd l m f f' (Dv.tup.inj h))
  | _=>first|exact nomatch h|exact nomatch f'
 | .lst l,e,f,f',h=>by
  cases e with
  | lst m=>exact congrArg D.lst (zDd l m f f' (Dv.lst.inj h))
  | _=>first|exact nomatch h|exact nomatch f'
 | .dct _ _ _,_,f,_,_=>by cases f
 | .ktup _,_,f,_,_=>by cases f
 | .klst _,_,f,_,_=>by cases f
 | .st _,_,f,_,_=>by cases f
 | .ty _,_,f,_,_=>by cases f
 | .ref _,_,f,_,_=>by cases f
theorem zDd:∀(l m:List D),DS.zBt l=true->DS.zBt m=true->zCi l=zCi m->l=m
 | [],[],_,_,_=>rfl
 | [],_::_,_,_,h=>by cases h
 | _::_,[],_,_,h=>by cases h
 | d::l,e::m,f,f',h=>by
  have f:(d.flat && DS.zBt l)=true:=f
  have f':(e.flat && DS.zBt m)=true:=f'
  rw[xA]at f f'
  have h:=uG (show toDv d::zCi l=toDv e::zCi m from h)
  rw[zFs d e f.1 f'.1 h.1,zDd l m f.2 f'.2 h.2]
end
mutual
theorem zFt:∀(d e:D),d.cmp e=true->(toDv d).cmp (toDv e)=true
 | .non,e,h=>by cases e <;> first|rfl|cases h
 | .bl _,e,h=>by cases e <;> first|rfl|cases h
 | .int _,e,h=>by cases e <;> first|rfl|cases h
 | .str _,e,h=>by cases e <;> first|rfl|cases h
 | .tup l,e,h=>by
  cases e with
  | tup m=>exact zBf l m h
  | _=>cases h
 | .lst l,e,h=>by
  cases e with
  | lst m=>exact zBf l m h
  | _=>cases h
 | .dct _ _ _,e,h=>by cases e <;> cases h
 | .ktup _,e,h=>by cases e <;> cases h
 | .klst _,e,h=>by cases e <;> cases h
 | .st _,e,h=>by cases e <;> cases h
 | .ty _,e,h=>by cases e <;> cases h
 | .ref _,e,h=>by cases e <;> cases h
theorem zBf:∀(l m:List D),DS.cmpL l m=true->L2.cmpL (zCi l) (zCi m)=true
 | [],[],_=>rfl
 | [],_::_,_=>rfl
 | _::_,[],_=>rfl
 | d::l,e::m,h=>by
  have h:(d.cmp e && DS.cmpL l m)=true:=h
  rw[xA]at h
  show((toDv d).cmp (toDv e) && L2.cmpL (zCi l) (zCi m))=true
  rw[zFt d e h.1,zBf l m h.2];rfl
end
mutual
theorem zJ2:∀(d:D),(toDv d).dep<=d.dep
 | .tup l=>Nat.succ_le_succ (zCl l)
 | .lst l=>Nat.succ_le_succ (zCl l)
 | .non=>xh _
 | .bl _=>xh _
 | .int _=>xh _
 | .str _=>xh _
 | .dct _ _ _=>xh _
 | .ktup _=>xh _
 | .klst _=>xh _
 | .st _=>xh _
 | .ty _=>xh _
 | .ref _=>xh _
theorem zCl:∀(l:List D),L2.depL (zCi l)<=DS.depL l
 | []=>xh _
 | d::l=>by
  show max (toDv d).dep (L2.depL (zCi l))<=max d.dep (DS.depL l)
  have:=zJ2 d
  have:=zCl l
  lia
end
open Classical in
theorem zEh {l m:List D}(f:DS.zBt l=true) (f':DS.zBt m=true):eqvL (zCi l) (zCi m)=decide (l=m):=by
 by_cases e:l=m
 ·subst e
  rw[xq rfl]
  exact(zCa _ _).mpr rfl
 ·rw[xj e]
  cases q:eqvL (zCi l) (zCi m)with
  | false=>rfl
  | true=>exact absurd (zDd l m f f' ((zCa _ _).mp q)) e
theorem zEe {c:D}(ha:AbS K J S H) (r:Rep K J H d v) (e:DS.look S d=some c) (f:c.flat=true):Den K H (toDv c) v:=by
 cases d with
 | ref n=>
  obtain⟨a,ea,rfl⟩:=r
  obtain⟨c',ec,o,eo,rc⟩:=ha.at ea
  have e:S[n]?=some c:=e
  rw[ec]at e;cases e
  cases c with
  | lst ds=>obtain⟨xs,rfl,rl⟩:=rc;exact⟨a,xs,rfl,.inl (.inl eo),zBw _ _ f rl⟩
  | dct _ ks vs=>cases f
  | _=>exact False.elim rc
 | ktup l=>cases e;obtain⟨a,xs,rfl,t,rl⟩:=r;exact⟨a,xs,rfl,t.sq,zBw _ _ f rl⟩
 | klst l=>cases e;obtain⟨a,xs,rfl,t,rl⟩:=r;exact⟨a,xs,rfl,t.sq,zBw _ _ f rl⟩
 | _=>cases e;exact zCx _ _ f r
open Classical in
theorem zQf {pins:List (Addr × Obj)}{σ:St}{s:Shared}{x y:V}{u w:Value}{Q:VK}{b:Bool}(neg:Bool) (hu:X.A.units+64<cLine) (I:Inv X pins σ H s) (rx:RelV x u) (ry:RelV y w) (ha:AbS X.K J S H) (r1:Rep X.K J H d1 x) (r2:Rep X.K J H d2 y) (e:DS.eqO S d1 d2=some b)
  (k:Q (.bl (if neg then !b else b)) H):wpAny (model X.prog X.w) X.A (compareOp (if neg then .NotEq else .Eq) u w) (EP X pins σ Q) X.xe s:=by
 unfold DS.eqO at e
 have sc:∀(c1 c2:D) (v1 v2:V),DS.look S d1=some c1->DS.look S d2=some c2->(∀z,c1≠.lst z)->(∀z z' z2,c1≠.dct z z' z2)->(∀z,c1≠.tup z)->(∀z,c2≠.lst z)->(∀z z' z2,c2≠.dct z z' z2)->(∀z,c2≠.tup z)->Rep X.K J H c1 x/\Rep X.K J H c2 y:=fun c1 c2 _ _ e1 e2 n1 n2 n1' n3 n4 n3'=>by
  have key:∀(d c:D) (v:V),Rep X.K J H d v->DS.look S d=some c->(∀z,c≠.lst z)->(∀z z' z2,c≠.dct z z' z2)->(∀z,c≠.tup z)->Rep X.K J H c v:=fun d c v r e n n' n2=>by
   cases d with
   | ref n0=>
    obtain⟨a,ea,rfl⟩:=r
    obtain⟨c',ec,o,eo,rc⟩:=ha.at ea
    have e:S[n0]?=some c:=e
    rw[ec]at e;cases e
    cases c with
    | lst ds=>exact absurd rfl (n ds)
    | dct t ks vs=>exact absurd rfl (n' t ks vs)
    | _=>exact False.elim rc
   | ktup l=>cases e;exact absurd rfl (n2 l)
   | klst l=>cases e;exact absurd rfl (n l)
   | _=>cases e;exact r
  exact⟨key _ _ _ r1 e1 n1 n2 n1',key _ _ _ r2 e2 n3 n4 n3'⟩
 split at e
 ·rename_i a b e1 e2
  obtain⟨q1,q2⟩:=sc _ _ x y e1 e2 (fun _ z=>nomatch z) (fun _ _ _ z=>nomatch z) (fun _ z=>nomatch z) (fun _ z=>nomatch z) (fun _ _ _ z=>nomatch z) (fun _ z=>nomatch z)
  obtain rfl:=q1;obtain rfl:=q2
  cases e
  have ed:decide (V.int a=V.int b)=decide (a=b):=by
   by_cases z:a=b
   ·subst z;simp
   ·rw[xj z,xj fun q=>z (V.int.inj q)]
  cases neg with
  | true=>exact zS7 pins s σ H _ _ u w Q I rx ry ⟨rfl,by rw[ed];exact k⟩
  | false=>exact zSb pins s σ H _ _ u w Q I rx ry ⟨rfl,by rw[ed];exact k⟩
 ·rename_i a b e1 e2
  obtain⟨q1,q2⟩:=sc _ _ x y e1 e2 (fun _ z=>nomatch z) (fun _ _ _ z=>nomatch z) (fun _ z=>nomatch z) (fun _ z=>nomatch z) (fun _ _ _ z=>nomatch z) (fun _ z=>nomatch z)
  obtain rfl:=q1;obtain rfl:=q2
  cases e
  have ed:decide (V.bl a=V.bl b)=decide (a=b):=by
   by_cases z:a=b
   ·subst z;simp
   ·rw[xj z,xj fun q=>z (V.bl.inj q)]
  cases neg with
  | true=>exact zS7 pins s σ H _ _ u w Q I rx ry ⟨rfl,by rw[ed];exact k⟩
  | false=>exact zSb pins s σ H _ _ u w Q I rx ry ⟨rfl,by rw[ed];exact k⟩
 ·rename_i a b e1 e2
  obtain⟨q1,q2⟩:=sc _ _ x y e1 e2 (fun _ z=>nomatch z) (fun _ _ _ z=>nomatch z) (fun _ z=>nomatch z) (fun _ z=>nomatch z) (fun _ _ _ z=>nomatch z) (fun _ z=>nomatch z)
  obtain rfl:=q1;obtain rfl:=q2
  cases e
  have ed:decide (V.str a=V.str b)=decide (a=b):=by
   by_cases z:a=b
   ·subst z;simp
   ·rw[xj z,xj fun q=>z (V.str.inj q)]
  cases neg with
  | true=>exact zS7 pins s σ H _ _ u w Q I rx ry ⟨rfl,by rw[ed];exact k⟩
  | false=>exact zSb pins s σ H _ _ u w Q I rx ry ⟨rfl,by rw[ed];exact k⟩
 ·rename_i l m e1 e2
  split at e
  ·rename_i h
   cases e
   have q1:=zEe ha r1 e1 h.1
   have q2:=zEe ha r2 e2 h.2.1
   have hd:=xm (zCl l) h.2.2.2
   cases neg with
   | true=>exact zQ5 hu pins s σ H _ _ u w Q I rx ry (.inl ⟨_,_,q1,q2,zBf _ _ h.2.2.1,hd,by rw[zEh h.1 h.2.1];exact k⟩)
   | false=>exact zQ6 hu pins s σ H _ _ u w Q I rx ry (.inl ⟨_,_,q1,q2,zBf _ _ h.2.2.1,hd,by rw[zEh h.1 h.2.1];exact k⟩)
  ·cases e
 ·rename_i l m e1 e2
  split at e
  ·rename_i h
   cases e
   have q1:=zEe ha r1 e1 h.1
   have q2:=zEe ha r2 e2 h.2.1
   have hd:=xm (zCl l) h.2.2.2
   cases neg with
   | true=>exact zQ5 hu pins s σ H _ _ u w Q I rx ry (.inr ⟨_,_,q1,q2,zBf _ _ h.2.2.1,hd,by rw[zEh h.1 h.2.1];exact k⟩)
   | false=>exact zQ6 hu pins s σ H _ _ u w Q I rx ry (.inr ⟨_,_,q1,q2,zBf _ _ h.2.2.1,hd,by rw[zEh h.1 h.2.1];exact k⟩)
  ·cases e
 ·cases e
theorem zDa (hu:X.A.units+64<cLine) (hK:X.K=K:=by rfl):OpR X (compareOp .Eq) (r2Of K DS.eqD):=by
 subst hK
 intro pins s σ H x y v u Q I rx ry ⟨J,S,d1,d2,d,ha,r1,r2,e,k⟩
 unfold DS.eqD at e
 cases e1:DS.eqO S d1 d2 with
 | none=>rw[e1]at e;cases e
 | some b=>rw[e1]at e;cases e;exact zQf false hu I rx ry ha r1 r2 e1 (k _ H ha .refl rfl)
theorem zG0 (hu:X.A.units+64<cLine) (hK:X.K=K:=by rfl):OpR X (compareOp .NotEq) (r2Of K DS.neD):=by
 subst hK
 intro pins s σ H x y v u Q I rx ry ⟨J,S,d1,d2,d,ha,r1,r2,e,k⟩
 unfold DS.neD at e
 cases e1:DS.eqO S d1 d2 with
 | none=>rw[e1]at e;cases e
 | some b=>rw[e1]at e;cases e;exact zQf true hu I rx ry ha r1 r2 e1 (k _ H ha .refl rfl)
end
end L2
namespace L2
open PySem PySem.Spec PyProof.Rows
open DS (D Store Exn Rs SR)
section
variable {X:Cx}{K:PySem.W.Frag}{E:XE}{J:Js}{S:Store}{H:Hp}{d d1 d2:D}{v:V}
theorem zJf:OpR X (compareOp .Gt) (r2Of K DS.gtD):=by
 intro pins s σ H x y v u Q I rx ry ⟨J,S,d1,d2,d,ha,r1,r2,e,k⟩
 unfold DS.gtD at e
 split at e
 ·cases e;obtain rfl:=r1;obtain rfl:=r2
  exact zWy pins s σ H _ _ v u Q I rx ry ⟨_,_,rfl,rfl,k _ H ha .refl (congrArg V.bl (by congr))⟩
 ·cases e
theorem zV5:OpR X (compareOp .GtE) (r2Of K DS.geD):=by
 intro pins s σ H x y v u Q I rx ry ⟨J,S,d1,d2,d,ha,r1,r2,e,k⟩
 unfold DS.geD at e
 split at e
 ·cases e;obtain rfl:=r1;obtain rfl:=r2
  exact zWz pins s σ H _ _ v u Q I rx ry ⟨_,_,rfl,rfl,k _ H ha .refl (congrArg V.bl (by congr))⟩
 ·cases e
theorem zWa {α β:Type}{l:List α}{xs:List β}{i:Int}{a:α}(hl:l.length=xs.length) (e:DS.atL l i=some a):∃j:Nat,l[j]?=some a/\∀b,xs[j]?=some b->atI xs i=some b:=by
 unfold DS.atL at e
 unfold atI
 rw[show DS.ixN l.length i=L2.ixN xs.length i by rw[hl];rfl]at e
 cases e1:L2.ixN xs.length i with
 | none=>rw[e1]at e;cases e
 | some j=>rw[e1]at e;exact⟨j,e,fun b eb=>eb⟩
theorem zGc {k k':Key}(h:keyD k=keyD k'):k=k':=by
 cases k <;> cases k' <;> first|(cases h;rfl)|cases h
theorem zGb {k:Key}(r:Rep K J H (keyD k) v):v=kV k:=by cases k <;> exact r
theorem zFg:∀{l m:List Key},l.map keyD=m.map keyD->l=m
 | [],[],_=>rfl
 | [],_::_,h=>by cases h
 | _::_,[],h=>by cases h
 | a::l,b::m,h=>by
  have h:=uG h
  rw[zGc h.1,zFg h.2]
theorem zGv {k k':List Key}(h:zL4 k=zL4 k'):k=k':=zFg (D.tup.inj h)
theorem zJ9 (h:DS.isKey d=true) (n:∀l,d≠.tup l):∃k,d=keyD k:=by
 cases d with
 | int i=>exact⟨.inl i,rfl⟩
 | str x=>exact⟨.inr x,rfl⟩
 | tup l=>exact absurd rfl (n l)
 | _=>cases h
theorem zIe:∀{l:List D},(l.all fun d=>match d with
  | .int _=>true
  | .str _=>true
  | _=>false)=true->∃k:List Key,l=k.map keyD
 | [],_=>⟨[],rfl⟩
 | d::l,h=>by
  rw[vM,xA]at h
  obtain⟨k,rfl⟩:=zIe h.2
  cases d with
  | int i=>exact⟨.inl i::k,rfl⟩
  | str x=>exact⟨.inr x::k,rfl⟩
  | _=>cases h.1
theorem zGa:∀{k:List Key}{xs:List V},RepL K J H (k.map keyD) xs->xs=k.map kV
 | [],_,h=>h
 | a::k,_,⟨x,r,e,h,t⟩=>by subst e;rw[zGb h,zGa t];rfl
open Classical in
theorem zIh {κ:Type}[DecidableEq κ] {f:κ->D}(fi:∀a b,f a=f b->a=b) (k:κ):∀{kvs:List (κ × V)}{vs:List D},RepL K J H vs (kvs.map (·.2))->
  (valV kvs k=none/\f k ∉ kvs.map (fun p=>f p.1)/\DS.look2 (kvs.map fun p=>f p.1) vs (f k)=none)\/∃w dv,valV kvs k=some w/\f k∈kvs.map (fun p=>f p.1)/\DS.look2 (kvs.map fun p=>f p.1) vs (f k)=some dv/\Rep K J H dv w
 | [],vs,r=>.inl ⟨rfl,by simp,by cases vs <;> rfl⟩
 | p::kvs,[],r=>by have h:p.2::kvs.map (·.2)=[]:=r;cases h
 | p::kvs,dv::vs,⟨x,t,e,h,rl⟩=>by
  have e:=uG (show p.2::kvs.map (·.2)=x::t from e)
  obtain⟨rfl,rfl⟩:=e
  by_cases z:p.1=k
  ·refine .inr ⟨p.2,dv,zEb z,by simp[z],?_,h⟩
   unfold DS.look2
   rw[xr]
   exact xc (by rw[z])
  ·have zf:f p.1≠f k:=fun q=>z (fi _ _ q)
   have e1:DS.look2 ((p::kvs).map fun p=>f p.1) (dv::vs) (f k)=DS.look2 (kvs.map fun p=>f p.1) vs (f k):=by
    rw[xr]
    conv=>lhs;unfold DS.look2
    exact xf zf
   rw[zEc z,e1]
   rcases zIh fi k rl with⟨a1,a2,a3⟩|⟨w,dv',a1,a2,a3,a4⟩
   ·exact .inl ⟨a1,by simp[a2,xB zf] <;> simpa using a2,a3⟩
   ·exact .inr ⟨w,dv',a1,by rw[xr];exact xZ _ a2,a3,a4⟩
theorem zN6 {t:Bool}{ks vs:List D}{a:Addr}{o:HO}{xs:List V}{y:V}(he:H a=some o) (ht:DOb o t ks xs) (rl:RepL K J H vs xs) (ry:Rep K J H d y) (hk:DS.zE1 t d=true):
  (DGet H a y none/\d ∉ ks/\DS.look2 ks vs d=none)\/∃w dv,DGet H a y (some w)/\d∈ks/\DS.look2 ks vs d=some dv/\Rep K J H dv w:=by
 unfold DS.zE1 at hk
 rw[xA]at hk
 rcases ht with⟨rfl,kvs,rfl,rfl,rfl⟩|⟨rfl,kvs,rfl,rfl,rfl⟩
 ·obtain⟨k,rfl⟩:=zJ9 hk.1 fun l z=>by subst z;cases hk.2
  obtain rfl:=zGb ry
  rcases zIh (fun a b=>zGc) k rl with⟨a1,a2,a3⟩|⟨w,dv,a1,a2,a3,a4⟩
  ·exact .inl ⟨.inl ⟨kvs,k,.inl he,rfl,a1.symm⟩,a2,a3⟩
  ·exact .inr ⟨w,dv,.inl ⟨kvs,k,.inl he,rfl,a1.symm⟩,a2,a3,a4⟩
 ·cases d with
  | tup l=>
   obtain⟨k,rfl⟩:=zIe (show _=true from hk.1)
   obtain⟨b,zs,rfl,tb,rz⟩:=ry
   obtain rfl:=zGa rz
   rcases zIh (f:=zL4) (fun a b=>zGv) k rl with⟨a1,a2,a3⟩|⟨w,dv,a1,a2,a3,a4⟩
   ·exact .inl ⟨.inr ⟨kvs,k,b,.inl he,rfl,tb.1,a1.symm⟩,a2,a3⟩
   ·exact .inr ⟨w,dv,.inr ⟨kvs,k,b,.inl he,rfl,tb.1,a1.symm⟩,a2,a3,a4⟩
  | _=>cases hk.2
theorem zNd {t:Bool}{ks vs:List D}(ha:AbS K J S H) (r:Rep K J H d v) (e:DS.look S d=some (.dct t ks vs)):∃a o xs,v=.ref a/\H a=some o/\DOb o t ks xs/\RepL K J H vs xs:=by
 cases d with
 | dct t ks vs=>cases e;obtain⟨a,o,xs,rfl,_,h,q,rl⟩:=r;exact⟨a,o,xs,rfl,h,q,rl⟩
 | ref n=>
  obtain⟨a,ea,rfl⟩:=r
  obtain⟨c,ec,o,eo,rc⟩:=ha.at ea
  have e:S[n]?=_:=e
  rw[ec]at e;cases e
  obtain⟨xs,q,rl⟩:=rc
  exact⟨a,o,xs,rfl,eo,q,rl⟩
 | _=>cases e
theorem zL7 {x:Str}(ha:AbS K J S H) (r:Rep K J H d v) (e:DS.look S d=some (.str x)):v=.str x:=by
 cases d with
 | str x=>cases e;exact r
 | ref n=>
  obtain⟨a,ea,rfl⟩:=r
  obtain⟨c,ec,o,eo,rc⟩:=ha.at ea
  have e:S[n]?=_:=e
  rw[ec]at e;cases e
  exact False.elim rc
 | _=>cases e
theorem zBc {l:List D}(e:DS.look S d=some (.tup l)\/DS.look S d=some (.lst l)):DS.items S d=some l:=by
 unfold DS.items
 rcases e with e|e <;> rw[e]
theorem ix_D (hu:X.A.units+1<cLine) (hK:X.K=K:=by rfl):IxR X (r2Of K DS.ixD):=by
 subst hK
 intro value slice pins s σ H x y v u Q I rx ry ⟨J,S,d1,d2,d,ha,r1,r2,e,k⟩ hs
 have seq:∀(l:List D) (i:Int),DS.items S d1=some l->d2=.int i->DS.atL l i=some d->wpAny (model X.prog X.w) X.A (subscriptTail value slice v u) (EP X pins σ Q) X.xe s:=fun l i e1 e2 e3=>by
  subst e2
  obtain rfl:=r2
  obtain⟨a,xs,rfl,hq,rl⟩:=zC9 ha r1 e1
  obtain⟨j,ej,h⟩:=zWa (xs:=xs) rl.length e3
  obtain⟨w,ew,rw'⟩:=rl.get ej
  rcases hq with hq|hq
  ·exact zSt value slice pins s σ H _ _ v u Q I rx ry ⟨a,xs,i,w,rfl,rfl,hq,h w ew,k w H ha .refl rw'⟩ hs
  ·exact zVi value slice pins s σ H _ _ v u Q I rx ry ⟨a,xs,i,w,rfl,rfl,hq,h w ew,k w H ha .refl rw'⟩ hs
 unfold DS.ixD at e
 split at e
 ·rename_i l i e1;exact seq l i (zBc (.inl e1)) rfl e
 ·rename_i l i e1;exact seq l i (zBc (.inr e1)) rfl e
 ·rename_i z i e1
  split at e
  ·rename_i hz
   cases e2:DS.atL z.cps.toList i with
   | none=>rw[e2]at e;cases e
   | some c=>
    rw[e2]at e;cases e
    obtain rfl:=zL7 ha r1 e1
    obtain rfl:=r2
    exact zVj value slice pins s σ H _ _ v u Q I rx ry ⟨z,i,c,rfl,rfl,hz,by unfold DS.atL at e2;unfold atI;exact e2,k _ H ha .refl rfl⟩ hs
  ·cases e
 ·rename_i t ks vs kk e1
  split at e
  ·rename_i hk
   obtain⟨a,o,xs,rfl,he,q,rl⟩:=zNd ha r1 e1
   rcases zN6 he q rl r2 hk with⟨_,_,h⟩|⟨w,dv,g,_,h,rw'⟩
   ·rw[h]at e;cases e
   ·rw[h]at e;cases e
    obtain rfl:v=Value.ref a:=rx
    exact tail_any (ops:=[.ref a,u]) (zIn I g) PySem.F.slot_dict_getitem.lookup (zNh hu I g ry fun w' s3 I3 rw2=>⟨w,H,I3,rw2,k w H ha .refl rw'⟩) hs
  ·cases e
 ·cases e
theorem zBi {prog:Program}{w:World}{A:Around}{E:Value->Shared->Prop}{s:Shared}{t sl:Addr}{items:Array Value}{vl vu:Value}{lo hi:Option Int}{Q:Value->Shared->Prop}(ht:IsTup s.heap t items) (hs:s.heap.IsSliceOf sl vl vu .none) (pl:IsPart vl lo) (pu:IsPart vu hi)
  (hw:HT.sIx items.size 0 lo=0/\HT.sIx items.size items.size hi=items.size) (h:Q (.ref t) s):wpAny (model prog w) A (getItem (.ref t) (.ref sl)) Q E s:=by
 obtain⟨os,hos,hcs,hds⟩:=id hs
 have hTs:s.TypeIs (.ref sl) "slice":=⟨os,hos,hcs⟩
 unfold getItem
 try with_reducible refine xG ?_
 first|refine xa (xg ?_)|skip
 refine xa (wpAny_sequenceKey ht.typeIs (by decide) ?_)
 refine xa (vJ (name:=Str.ofString "__getitem__") ht.typeIs vA (ve vA ht.typeIs entry_tuple_getitem ?_ (args_tuple_getitem _ _)))
 show wpAny _ _ (Builtin.Tuple.tupleItemsOf (.ref t) >>= _) _ _ s
 refine xa (tupleItemsOf_ ht ?_)
 refine xa (v9 hTs ?_)
 rw[xc (by decide)]
 refine xa (HT.sliceApplied_gen hs pl pu ?_)
 show wpAny _ _ (if(((HT.sIx items.size 0 lo:Nat):Int) == 0 && (1:Int) == 1 && (HT.sIx items.size items.size hi-HT.sIx items.size 0 lo) == items.size)=true then _ else _) _ _ s
 rw[xc (by rw[hw.1,hw.2];simp)]
 have tex:∀{Q:Bool->Shared->Prop},Q true s->wpAny (model prog w) A.in1 (Builtin.Tuple.tupleIsExact (.ref t)) Q E s:=fun {Q} q=>by
  unfold Builtin.Tuple.tupleIsExact
  refine xa (v9 ht.typeIs (xg ?_))
  exact q
 refine xa (tex ?_)
 rw[xc rfl]
 refine xa (vP ?_)
 exact xg ⟨_,rfl,xg h⟩
theorem zIo {l:List D}{xs:List V}(rl:RepL K J H l xs) (lo hi:Option Int):RepL K J H (DS.cutL l lo hi) (cutV xs lo hi):=by
 unfold DS.cutL cutV
 rw[show DS.sIx l.length 0 lo=HT.sIx xs.length 0 lo by rw[rl.length];rfl,show DS.sIx l.length l.length hi=HT.sIx xs.length xs.length hi by rw[rl.length];rfl]
 exact(rl.drop _).take _
theorem zNi {l:List D}{xs:List V}{lo hi:Option Int}(rl:RepL K J H l xs) (hw:HT.sIx xs.length 0 lo=0/\HT.sIx xs.length xs.length hi=xs.length):DS.cutL l lo hi=l:=by
 unfold DS.cutL
 rw[show DS.sIx l.length 0 lo=HT.sIx xs.length 0 lo by rw[rl.length];rfl,show DS.sIx l.length l.length hi=HT.sIx xs.length xs.length hi by rw[rl.length];rfl,hw.1,hw.2,<- rl.length]
 simp
theorem zQ9 {l:List D}(ha:AbS K J S H) (r:Rep K J H d v) (e:DS.look S d=some (.lst l)):∃a xs,v=.ref a/\SqL K H a xs/\RepL K J H l xs:=by
 cases d with
 | lst l=>cases e;obtain⟨a,xs,rfl,t,rl⟩:=r;exact⟨a,xs,rfl,t.sq,rl⟩
 | klst l=>cases e;obtain⟨a,xs,rfl,t,rl⟩:=r;exact⟨a,xs,rfl,t.sq,rl⟩
 | ref n=>
  obtain⟨a,ea,rfl⟩:=r
  obtain⟨c,ec,o,eo,rc⟩:=ha.at ea
  have e:S[n]?=_:=e
  rw[ec]at e;cases e
  obtain⟨xs,rfl,rl⟩:=rc
  exact⟨a,xs,rfl,.inl (.inl eo),rl⟩
 | _=>cases e
theorem sl_D (hK:X.K=K:=by rfl):SlR X (slOf K DS.slD):=by
 subst hK
 intro pins s σ H x v vl vu lo hi sl Q I rx hs pl pu ⟨J,S,d1,d,ha,r1,e,k⟩
 unfold DS.slD at e
 split at e
 ·rename_i l
  cases e
  have r0:=r1
  obtain⟨a,xs,rfl,t,rl⟩:=r1
  by_cases hw:HT.sIx xs.length 0 lo=0/\HT.sIx xs.length xs.length hi=xs.length
  ·cases rx
   obtain⟨its,r,ht,hz⟩:=I.tuple t.sq
   have hlen:its.toArray.size=xs.length:=by rw[xn];exact r.length.symm
   refine⟨"tuple",_,vA.lookup,ht.typeIs,zBi ht hs pl pu (by rw[hlen];exact hw) ⟨.ref a,H,I,rfl,k _ H ha .refl ?_⟩⟩
   rw[zNi rl hw];exact r0
  ·exact zPy pins s σ H _ v vl vu lo hi sl Q I rx hs pl pu ⟨a,xs,rfl,t.sq,hw,fun p n=>k _ _ (ha.push n) (.push n) ⟨p,_,rfl,⟨zAi,ha.out n⟩,RepL.grow (.push n) _ _ (zIo rl lo hi)⟩⟩
 ·rename_i l
  have r0:=r1
  obtain⟨a,xs,rfl,t,rl⟩:=r1
  split at e
  ·rename_i hw
   cases e
   have hw:HT.sIx xs.length 0 lo=0/\HT.sIx xs.length xs.length hi=xs.length:=by rw[<- rl.length];exact hw
   cases rx
   obtain⟨its,r,ht,hz⟩:=I.tuple (t.sq (H:=H))
   have hlen:its.toArray.size=xs.length:=by rw[xn];exact r.length.symm
   exact⟨"tuple",_,vA.lookup,ht.typeIs,zBi ht hs pl pu (by rw[hlen];exact hw) ⟨.ref a,H,I,rfl,k _ H ha .refl r0⟩⟩
  ·rename_i hw
   cases e
   have hw:¬ (HT.sIx xs.length 0 lo=0/\HT.sIx xs.length xs.length hi=xs.length):=by rw[<- rl.length];exact hw
   exact zPy pins s σ H _ v vl vu lo hi sl Q I rx hs pl pu ⟨a,xs,rfl,t.sq,hw,fun p n=>k _ _ (ha.push n) (.push n) ⟨p,_,rfl,⟨zAi,ha.out n⟩,RepL.grow (.push n) _ _ (zIo rl lo hi)⟩⟩
 ·split at e
  ·rename_i l e1
   cases e
   obtain⟨a,xs,rfl,t,rl⟩:=zQ9 ha r1 e1
   exact zR8 pins s σ H _ v vl vu lo hi sl Q I rx hs pl pu ⟨a,xs,rfl,t,fun p n=>k _ _ (ha.push n) (.push n) ⟨p,_,rfl,⟨zAi,ha.out n⟩,RepL.grow (.push n) _ _ (zIo rl lo hi)⟩⟩
  ·cases e
theorem RelV.one {x y:V}{u:Value}(h:RelV x u) (h':RelV y u):x=y:=by
 have inv:∀{z:V},RelV z u->absV u=some z:=fun {z} q=>by
  cases z with
  | non=>obtain rfl:u=Value.none:=q;rfl
  | bl b=>obtain rfl:u=Value.bool b:=q;rfl
  | int i=>obtain⟨t,rfl⟩:=q;rfl
  | str i=>obtain⟨t,rfl⟩:=q;rfl
  | byt i=>obtain⟨t,rfl⟩:=q;rfl
  | flt i=>obtain⟨t,rfl⟩:=q;rfl
  | ref a=>obtain rfl:u=Value.ref a:=q;rfl
  | ty n=>obtain rfl:u=Value.type n:=q;rfl
 exact xD ((inv h).symm.trans (inv h'))
theorem zHg:∀{l:List D}{i:Nat}{d:D},DS.zBt l=true->l[i]?=some d->d.flat=true
 | [],_,_,_,e=>by simp at e
 | a::l,0,_,f,e=>by
  have f:(a.flat && DS.zBt l)=true:=f
  rw[xA]at f
  simp at e;subst e;exact f.1
 | a::l,i+1,d,f,e=>by
  have f:(a.flat && DS.zBt l)=true:=f
  rw[xA]at f
  exact zHg (i:=i) f.2 (by simpa using e)
theorem zN7:∀{l:List D}{i:Nat}{d:D},l[i]?=some d->d.dep<=DS.depL l
 | [],_,_,e=>by simp at e
 | a::l,0,_,e=>by
  simp at e;subst e
  show a.dep<=max a.dep (DS.depL l)
  lia
 | a::l,i+1,d,e=>by
  have:=zN7 (l:=l) (i:=i) (d:=d) (by simpa using e)
  show d.dep<=max a.dep (DS.depL l)
  lia
open Classical in
theorem zSf (hu:X.A.units+64<cLine) {pins:List (Addr × Obj)}{σ:St}{s:Shared}{x:V}{u:Value}{l:List D}{xs:List V}(I:Inv X pins σ H s) (rx:RelV x u) (r1:Rep X.K J H d1 x) (rl:RepL X.K J H l xs) (h:DS.okIn d1 l) (us:List Value) (rv:Vals xs us):
  ∃g:Value->Bool,(∀z∈us,SeqAt.EqAt X.A.in1 s z u (g z))/\us.any g=decide (d1∈l):=by
 obtain⟨f1,f2,hd,hc⟩:=h
 have hxl:=rv.length
 have hl:=rl.length
 refine⟨fun z=>decide (∃i:Nat,us[i]?=some z/\l[i]?=some d1),fun z hz=>?_,?_⟩
 ·obtain⟨i,ei⟩:=uC.mp hz
  have hi:i<us.length:=(xE.mp ei).1
  have hx:xs[i]?=some xs[i]:=xp (by nofun)
  obtain⟨d,ed,rd⟩:=rl.get' hx
  obtain⟨z',ez,rz⟩:=rv.get hx
  rw[ei]at ez;cases ez
  have fd:=zHg f2 ed
  have cd:=hc d (uw ed)
  have e:=zQg I 60 (toDv d) (toDv d1) (xm (zJ2 d) (xm (zN7 ed) hd)) X.A.in1 xs[i] x z u (by show X.A.units+1+60<cLine;lia) (zCx _ _ fd rd) (zCx _ _ f1 r1) rz rx (zFt _ _ cd)
  have eb:(toDv d).eqv (toDv d1)=decide (∃i:Nat,us[i]?=some z/\l[i]?=some d1):=by
   by_cases q:d=d1
   ·subst q
    rw[xq ⟨i,ei,ed⟩]
    exact(Dv.eqv_iff _ _).mpr rfl
   ·have n1:¬ ∃i:Nat,us[i]?=some z/\l[i]?=some d1:=by
     rintro⟨j,ej,dj⟩
     obtain⟨x',ex,rj⟩:=rl.get dj
     obtain⟨z'',ez,rz'⟩:=rv.get ex
     rw[ej]at ez;cases ez
     have:=RelV.one rz rz'
     subst this
     exact q (zFs _ _ fd f1 (Den.inj I _ _ _ (zCx _ _ fd rd) (zCx _ _ f1 rj) (zFt _ _ cd)))
    rw[xj n1]
    cases qq:(toDv d).eqv (toDv d1)with
    | false=>rfl
    | true=>exact absurd (zFs _ _ fd f1 ((Dv.eqv_iff _ _).mp qq)) q
  show SeqAt.EqAt X.A.in1 s z u (decide (∃i:Nat,us[i]?=some z/\l[i]?=some d1))
  rw[<- eb]
  exact e
 ·rw[vG]
  simp only[List.any_eq_true,decide_eq_true_eq]
  constructor
  ·rintro⟨z,_,i,_,e⟩
   exact uw e
  ·intro hm
   obtain⟨i,e⟩:=uC.mp hm
   have hi:i<us.length:=by rw[<- hxl,<- hl];exact(xE.mp e).1
   exact⟨us[i],List.getElem_mem hi,i,xp hi,e⟩
open Classical in
theorem zQc {pins:List (Addr × Obj)}{σ:St}{s:Shared}{x y:V}{u w:Value}{Q:VK}{b:Bool}(neg:Bool) (hu:X.A.units+64<cLine) (I:Inv X pins σ H s) (rx:RelV x u) (ry:RelV y w) (ha:AbS X.K J S H) (r1:Rep X.K J H d1 x) (r2:Rep X.K J H d2 y) (e:DS.inO S d1 d2=some b)
  (k:Q (.bl (if neg then !b else b)) H):wpAny (model X.prog X.w) X.A (compareOp (if neg then .NotIn else .In) u w) (EP X pins σ Q) X.xe s:=by
 have hu1:X.A.units+1<cLine:=by nofun
 have seq:∀(l:List D),DS.items S d2=some l->DS.okIn d1 l->b=decide (d1∈l)->wpAny (model X.prog X.w) X.A (compareOp (if neg then .NotIn else .In) u w) (EP X pins σ Q) X.xe s:=fun l e1 ⟨f1,f2,hd,hc⟩ eb=>by
  obtain⟨a,xs,rfl,hq,rl⟩:=zC9 ha r2 e1
  cases ry
  have all:=zSf hu I rx r1 rl ⟨f1,f2,hd,hc⟩
  rcases hq with hq|hq
  ·obtain⟨its,r,pl,hz⟩:=I.list hq
   obtain⟨g,hg,ea⟩:=all its r
   have ea2:its.toArray.any g=b:=by rw[eb,<- ea];simp
   cases neg with
   | true=>exact SeqAt.notIn_listAt g pl.isList (fun z hz=>hg z (by simpa using hz)) ⟨.bl _,H,I,rfl,by rw[ea2];exact k⟩
   | false=>exact SeqAt.in_listAt g pl.isList (fun z hz=>hg z (by simpa using hz)) ⟨.bl _,H,I,rfl,by rw[ea2];exact k⟩
  ·obtain⟨its,r,pl,hz⟩:=I.tuple hq
   obtain⟨g,hg,ea⟩:=all its r
   have ea2:its.toArray.any g=b:=by rw[eb,<- ea];simp
   cases neg with
   | true=>exact SeqAt.notIn_tupleAt g pl (fun z hz=>hg z (by simpa using hz)) ⟨.bl _,H,I,rfl,by rw[ea2];exact k⟩
   | false=>exact SeqAt.in_tupleAt g pl (fun z hz=>hg z (by simpa using hz)) ⟨.bl _,H,I,rfl,by rw[ea2];exact k⟩
 unfold DS.inO at e
 split at e
 ·rename_i l e1
  split at e
  ·rename_i h;cases e;exact seq l (zBc (.inl e1)) h rfl
  ·cases e
 ·rename_i l e1
  split at e
  ·rename_i h;cases e;exact seq l (zBc (.inr e1)) h rfl
  ·cases e
 ·rename_i t ks vs e1
  split at e
  ·rename_i hk
   cases e
   obtain⟨a,o,xs,rfl,he,q,rl⟩:=zNd ha r2 e1
   cases ry
   rcases zN6 he q rl r1 hk with⟨g,h,_⟩|⟨w,dv,g,h,_⟩
   ·rw[xj h]at k
    cases neg with
    | true=>exact zNg hu1 I g rx fun s' I'=>⟨.bl _,H,I',rfl,k⟩
    | false=>exact d_in hu1 I g rx fun s' I'=>⟨.bl _,H,I',rfl,k⟩
   ·rw[xq h]at k
    cases neg with
    | true=>exact zNg hu1 I g rx fun s' I'=>⟨.bl _,H,I',rfl,k⟩
    | false=>exact d_in hu1 I g rx fun s' I'=>⟨.bl _,H,I',rfl,k⟩
  ·cases e
 ·cases e
theorem zSa (hu:X.A.units+64<cLine) (hK:X.K=K:=by rfl):OpR X (compareOp .In) (r2Of K DS.inD):=by
 subst hK
 intro pins s σ H x y v u Q I rx ry ⟨J,S,d1,d2,d,ha,r1,r2,e,k⟩
 unfold DS.inD at e
 cases e1:DS.inO S d1 d2 with
 | none=>rw[e1]at e;cases e
 | some b=>rw[e1]at e;cases e;exact zQc false hu I rx ry ha r1 r2 e1 (k _ H ha .refl rfl)
theorem zFf (hu:X.A.units+64<cLine) (hK:X.K=K:=by rfl):OpR X (compareOp .NotIn) (r2Of K DS.zDh):=by
 subst hK
 intro pins s σ H x y v u Q I rx ry ⟨J,S,d1,d2,d,ha,r1,r2,e,k⟩
 unfold DS.zDh at e
 cases e1:DS.inO S d1 d2 with
 | none=>rw[e1]at e;cases e
 | some b=>rw[e1]at e;cases e;exact zQc true hu I rx ry ha r1 r2 e1 (k _ H ha .refl rfl)
end
end L2
namespace L2
open PySem PySem.Spec PyProof.Rows
open DS (D Store Exn Rs SR)
section
variable {X:Cx}{K:PySem.W.Frag}{E:XE}{J:Js}{S:Store}{H:Hp}{d d1 d2:D}{v:V}
noncomputable def pOf (K:PySem.W.Frag) (g:Store->D->D->D->Option Store):TSet:=fun o i v H Q=>∃J S d1 d2 d3 S',AbS K J S H/\Rep K J H d1 o/\Rep K J H d2 i/\Rep K J H d3 v/\g S d1 d2 d3=some S'/\∀H',AbS K J S' H'->Grow J H J H'->Q H'
open Classical in
theorem zQ1 {κ:Type}[DecidableEq κ] {f:κ->D}(fi:∀a b,f a=f b->a=b) {k:κ}{dv:D}{w:V}{kvs:List (κ × V)}{vs:List D}(r:RepL K J H vs (kvs.map (·.2))) (rv:Rep K J H dv w):
  (DS.put2 (kvs.map fun p=>f p.1) vs (f k) dv).1=(putK kvs k w).map (fun p=>f p.1)/\RepL K J H (DS.put2 (kvs.map fun p=>f p.1) vs (f k) dv).2 ((putK kvs k w).map (·.2)):=by
 have any_iff:(kvs.any fun kv=>decide (kv.1=k))=true <-> f k∈kvs.map fun p=>f p.1:=by
  simp only[List.any_eq_true,decide_eq_true_eq,xt]
  constructor
  ·rintro⟨p,hp,e⟩;exact⟨p,hp,by rw[e]⟩
  ·rintro⟨p,hp,e⟩;exact⟨p,hp,fi _ _ e⟩
 unfold DS.put2 putK
 by_cases hm:f k∈kvs.map fun p=>f p.1
 ·rw[xc hm,xc (any_iff.mpr hm)]
  refine⟨?_,?_⟩
  ·rw[ud]
   refine List.map_congr_left fun p _=>?_
   show f p.1=f (if p.1=k then(p.1,w)else p).1
   split <;> rfl
  ·clear hm any_iff
   induction kvs generalizing vs with
   | nil=>cases vs <;> rfl
   | cons p kvs ih=>
    cases vs with
    | nil=>cases r
    | cons dw vs=>
     obtain⟨x,t,e,h,rl⟩:=r
     have e:=uG (show p.2::kvs.map (·.2)=x::t from e)
     obtain⟨rfl,rfl⟩:=e
     refine⟨(if p.1=k then(p.1,w)else p).2,_,rfl,?_,ih rl⟩
     by_cases z:p.1=k
     ·rw[xc z,xc (show f p.1=f k by rw[z])];exact rv
     ·rw[xf z,xf fun q=>z (fi _ _ q)];exact h
 ·rw[xf hm,xf (fun z=>hm (any_iff.mp z))]
  refine⟨by simp,?_⟩
  rw[ug]
  exact r.snoc rv
theorem zRc (hu:X.A.units+1<cLine):PSet X (pOf K DS.putD):=by
 intro pins s σ H o i v ov iv u Q I ro ri rv ⟨J,S,d1,d2,d3,S',ha,r1,r2,r3,e,k⟩
 unfold DS.putD at e
 split at e
 ·rename_i n
  obtain⟨a,ea,rfl⟩:=r1
  obtain⟨c,ec,ob,eo,rc⟩:=ha.at ea
  split at e
  ·rename_i l es
   rw[ec]at es;cases es
   obtain⟨xs,rfl,rl⟩:=rc
   cases d2 with
   | int i'=>
    obtain rfl:=r2
    simp only at e
    cases ej:DS.ixN l.length i' with
    | none=>rw[ej]at e;cases e
    | some j=>
     rw[ej]at e;cases e
     refine set_list pins s σ H _ _ v ov iv u Q I ro ri rv ⟨a,xs,i',j,rfl,rfl,eo,by rw[<- rl.length];exact ej,?_⟩
     exact k _ (ha.write ea ⟨_,rfl,rl.set j r3⟩) (.write ea)
   | _=>cases e
  ·rename_i t ks vs es
   rw[ec]at es;cases es
   obtain⟨xs,q,rl⟩:=rc
   split at e
   ·rename_i hk
    cases e
    cases ro
    have fin:∀H',DPut H a i v H'->AbS K J (S.set n (.dct t (DS.put2 ks vs d2 d3).1 (DS.put2 ks vs d2 d3).2)) H'->Grow J H J H'->wpAny (model X.prog X.w) X.A (setItem (.ref a) iv u) (fun _ s'=>∃H',Inv X pins σ H' s'/\Q H') X.xe s:=fun H' g a1 g1=>
     zNf hu I g ri rv fun s' I'=>⟨H',I',k H' a1 g1⟩
    have hk1:=hk.1
    unfold DS.zE1 at hk1
    rw[xA]at hk1
    rcases q with⟨rfl,kvs,rfl,rfl,rfl⟩|⟨rfl,kvs,rfl,rfl,rfl⟩
    ·obtain⟨kk,rfl⟩:=zJ9 hk1.1 fun l z=>by subst z;cases hk1.2
     obtain rfl:=zGb r2
     obtain⟨p1,p2⟩:=zQ1 (fun a b=>zGc) (k:=kk) rl r3
     refine fin _ (.inl ⟨kvs,kk,eo,rfl,by have:=hk.2;rw[xo]at this;exact this,rfl⟩) (ha.write ea ⟨_,.inl ⟨rfl,_,rfl,p1,rfl⟩,p2⟩) (.write ea)
    ·cases d2 with
     | tup l=>
      obtain⟨kk,rfl⟩:=zIe (show _=true from hk1.1)
      obtain⟨b,zs,rfl,tb,rz⟩:=r2
      obtain rfl:=zGa rz
      obtain⟨p1,p2⟩:=zQ1 (f:=zL4) (fun a b=>zGv) (k:=kk) rl r3
      refine fin _ (.inr ⟨kvs,kk,b,eo,rfl,tb.1,by have:=hk.2;rw[xo]at this;exact this,rfl⟩) (ha.write ea ⟨_,.inr ⟨rfl,_,rfl,p1,rfl⟩,p2⟩) (.write ea)
     | _=>cases hk1.2
   ·cases e
  ·cases e
 ·cases e
theorem zIk {o i e:Expr}{mo mi m:DS.EM}{sp2 pos:Pos}{g:Store->D->D->D->Option Store}(hs:PSet X (pOf K g)) (ho:DE X K E o mo) (hi:DE X K E i mi) (he:DE X K E e m) (h:nsl i=true:=by rfl) (h2:nco e=true:=by rfl):DS1 X K E (.Assign [.Subscript o i sp2] e pos) (DS.sPut g mo mi m):=
 ⟨(qasgs' he.h (zRw ho.h hi.h hs h) h2).imp fun D σ H ⟨env,S,J,ha,he,q⟩=>⟨env,S,J,ha,he,q.then.imp fun dv S1 J1 H1 _ a1 g1 q1 v rv=>⟨env,S1,J1,a1,he.grow g1,q1.then.imp fun dx S2 J2 H2 _ a2 g2 q2 x rx=>
  ⟨env,S2,J2,a2,he.grow (g1.trans g2),q2.then.imp fun di S3 J3 H3 _ a3 g3 q3 y ry=>by
   cases e1:g S3 dx di dv with
   | none=>rw[e1]at q3;exact False.elim q3
   | some S4=>
    rw[e1]at q3
    exact⟨J3,S3,dx,di,dv,S4,a3,Rep.grow g3 _ _ rx,ry,Rep.grow (g2.trans g3) _ _ rv,e1,fun H' h1 h2=>q3 J3 H' σ h1 h2 (he.grow (g1.trans (g2.trans (g3.trans h2))))⟩⟩⟩⟩⟩
theorem zDy {ds:List D}{xs:List V}{d:D}(r:RepL K J H [d] xs):∃x,xs=[x]/\Rep K J H d x:=by
 obtain⟨x,t,rfl,h,rfl⟩:=r
 exact⟨x,rfl,h⟩
theorem zW5 {pins:List (Addr × Obj)}{σ:St}{s:Shared}{a:Addr}{kvs:List (List Key × V)}{Q:Value->Shared->Prop}{A:Around}{E:Value->Shared->Prop}(I:Inv X pins σ H s) (e:H a=some (.dT kvs)) (h:∀t s',Inv X pins σ H s'->Q (.int kvs.length t) s'):wpAny (model X.prog X.w) A (call (.builtin "len") [.ref a]) Q E s:=by
 obtain⟨z,hd,xs,rel,dd⟩:=zKn I.hok (.inl e)
 have hT:s.TypeIs (.ref a) "dict":=dd.typeIs
 obtain⟨o,es,ep,ho,hx,hdat,hes,hall,hn⟩:=dd
 have hsz:es.size=kvs.length:=by rw[<- vx,hes,xo,<- Paired.length rel]
 rw[xJ]at z
 have mt:MeetsIn X.prog X.w (Builtin.«dict.__len__» ⟨[.ref a],[]⟩) (fun _ R s'=>s'=s/\R (.ok (.ret (.int kvs.length s'.toks))) { s' with toks:=s'.toks+1 }):=.of_wp fun A R s' ⟨e,h⟩=>by
  subst e
  show wpAny _ _ (dictSize a >>= _) _ _ s'
  unfold dictSize
  refine xa (xa (wpAny_dictEntries ho hdat (xg ?_)))
  show wpAny _ _ (Builtin.Dict.pendingCount a >>= _) _ _ s'
  refine xa (wpAny_pendingCount_other hd ?_)
  refine wpAny_ret_mkInt ?_
  rw[Nat.add_zero,hsz];exact h
 refine Calls.call_function_entry kind_len plain_len entry_len (args_len1 _) ?_
 unfold Builtin.«len»
 refine xa (m:=oneArg "len" _) (xg ?_)
 refine xa (m:=callSpecial? (.ref a) (Str.ofString "__len__")) (vJ (name:=Str.ofString "__len__") hT PySem.F.slot_dict_len (call_meetsIn PySem.F.slot_dict_len hT PySem.F.entry_dict_len (PySem.F.args_dict_len_1 _) mt ⟨rfl,?_⟩))
 show wpAny _ _ _ _ _ { s with toks:=s.toks+1 }
 refine xa (xG (xg ?_))
 refine xa (wpAny_letGo ?_)
 show wpAny _ _ (if((kvs.length:Nat):Int)<0 then _ else _) _ _ _
 rw[xf (by nofun)]
 show wpAny _ _ (if((kvs.length:Nat):Int) >= 2 ^ 63 then _ else _) _ _ _
 rw[xf (by nofun)]
 exact xa (wpAny_mkInt (xg ⟨_,rfl,h _ _ (I.tok _)⟩))
theorem zAm (hK:X.K=K:=by rfl):zBa X (.builtin "len") (cOf K DS.lenB):=by
 subst hK
 intro pins s σ H xs us Q I r ⟨J,S,ds,d,ha,rl,e,k⟩
 unfold DS.lenB at e
 split at e
 ·rename_i d0
  obtain⟨x,rfl,rx⟩:=zDy (ds:=[]) rl
  have seq:∀l,DS.items S d0=some l->d=.int l.length->wpAny (model X.prog X.w) X.A (call (.builtin "len") us) (EP X pins σ Q) X.xe s:=fun l e1 e2=>by
   subst e2
   obtain⟨a,ys,rfl,hq,q⟩:=zC9 ha rx e1
   exact zHo pins s σ H _ us Q I r ⟨a,ys,rfl,hq,k _ H ha .refl (by rw[q.length];rfl)⟩
  split at e
  ·rename_i l e1;cases e;exact seq l (zBc (.inl e1)) rfl
  ·rename_i l e1;cases e;exact seq l (zBc (.inr e1)) rfl
  ·rename_i t ks vs e1
   cases e
   obtain⟨a,o,ys,rfl,he,q,_⟩:=zNd ha rx e1
   obtain⟨u,rfl,ru⟩:=vals1 r
   cases ru
   rcases q with⟨rfl,kvs,rfl,rfl,rfl⟩|⟨rfl,kvs,rfl,rfl,rfl⟩
   ·exact zXc I (.inl he) fun t s' I'=>⟨.int kvs.length,H,I',⟨t,rfl⟩,k _ H ha .refl (by rw[xo];rfl)⟩
   ·exact zW5 I he fun t s' I'=>⟨.int kvs.length,H,I',⟨t,rfl⟩,k _ H ha .refl (by rw[xo];rfl)⟩
  ·rename_i z e1
   split at e
   ·rename_i hz
    cases e
    obtain rfl:=zL7 ha rx e1
    exact zHn pins s σ H _ us Q I r ⟨z,rfl,hz,k _ H ha .refl rfl⟩
   ·cases e
  ·cases e
 ·cases e
theorem zIq (hK:X.K=K:=by rfl):zBa X (.type "list") (cOfF K DS.zKf):=by
 subst hK
 intro pins s σ H xs us Q I r ⟨J,S,ds,d,ha,rl,e,k⟩
 unfold DS.zKf at e
 split at e
 ·rename_i d0
  obtain⟨x,rfl,rx⟩:=zDy (ds:=[]) rl
  cases e1:DS.items S d0 with
  | none=>rw[e1]at e;cases e
  | some l=>
   rw[e1]at e;cases e
   obtain⟨a,ys,rfl,hq,q⟩:=zC9 ha rx e1
   exact zHm pins s σ H _ us Q I r ⟨a,ys,rfl,hq,fun p n=>k p _ H ha .refl n ⟨ys,rfl,q⟩⟩
 ·cases e
theorem zB8 (hK:X.K=K:=by rfl):zBa X (.type "tuple") (cOf K DS.zAv):=by
 subst hK
 intro pins s σ H xs us Q I r ⟨J,S,ds,d,ha,rl,e,k⟩
 unfold DS.zAv at e
 split at e
 ·rename_i d0
  obtain⟨x,rfl,rx⟩:=zDy (ds:=[]) rl
  split at e
  ·rename_i l
   cases e
   have r0:=rx
   obtain⟨a,ys,rfl,t,q⟩:=rx
   exact zCe pins s σ H _ us Q I r ⟨a,ys,rfl,.inr ⟨t.sq,k _ H ha .refl r0⟩⟩
  ·rename_i l
   cases e
   have r0:=rx
   obtain⟨a,ys,rfl,t,q⟩:=rx
   exact zCe pins s σ H _ us Q I r ⟨a,ys,rfl,.inr ⟨t.sq,k _ H ha .refl r0⟩⟩
  ·cases e1:DS.litems S d0 with
   | none=>rw[e1]at e;cases e
   | some l=>
    rw[e1]at e;cases e
    obtain⟨a,ys,rfl,hq,q⟩:=zDi ha rx e1
    exact zCe pins s σ H _ us Q I r ⟨a,ys,rfl,.inl ⟨.inl hq,fun p n=>k _ _ (ha.push n) (.push n) ⟨p,ys,rfl,⟨zAi,ha.out n⟩,RepL.grow (.push n) _ _ q⟩⟩⟩
 ·cases e
theorem zK0:∀{l:List D}{xs:List V}{bs:List Bool},RepL K J H l xs->DS.bools l=some bs->xs=bs.map V.bl
 | [],_,_,r,e=>by cases e;exact r
 | d::l,_,bs,⟨x,t,e0,h,rl⟩,e=>by
  subst e0
  cases d with
  | bl b=>
   unfold DS.bools at e
   cases e1:DS.bools l with
   | none=>rw[e1]at e;cases e
   | some cs=>rw[e1]at e;cases e;rw[zK0 rl e1,show x=.bl b from h];rfl
  | _=>cases e
theorem zKw (hc:X.calm=true) (hK:X.K=K:=by rfl):zBa X (.builtin "any") (cOf K DS.anyB):=by
 subst hK
 intro pins s σ H xs us Q I r ⟨J,S,ds,d,ha,rl,e,k⟩
 unfold DS.anyB at e
 split at e
 ·rename_i d0
  obtain⟨x,rfl,rx⟩:=zDy (ds:=[]) rl
  cases e1:DS.litems S d0 with
  | none=>rw[e1]at e;cases e
  | some l=>
   rw[e1]at e
   cases e2:DS.bools l with
   | none=>simp[e2]at e
   | some bs=>
    simp only[Option.bind_some,e2,ub,Option.some.injEq]at e
    subst e
    obtain⟨a,ys,rfl,hq,q⟩:=zDi ha rx e1
    obtain rfl:=zK0 q e2
    exact zNt hc pins s σ H _ us Q I r ⟨a,bs,rfl,.inl hq,k _ H ha .refl rfl⟩
 ·cases e
theorem zL2 {d1 d2:D}{xs:List V}(r:RepL K J H [d1,d2] xs):∃x y,xs=[x,y]/\Rep K J H d1 x/\Rep K J H d2 y:=by
 obtain⟨x,t,rfl,h,y,t',rfl,h',rfl⟩:=r
 exact⟨x,y,rfl,h,h'⟩
theorem zKv (hc:X.calm=true):zBa X (.builtin "max") (cOf K DS.max2B):=by
 intro pins s σ H xs us Q I r ⟨J,S,ds,d,ha,rl,e,k⟩
 unfold DS.max2B at e
 split at e
 ·obtain⟨x,y,rfl,rx,ry⟩:=zL2 rl
  obtain rfl:=rx;obtain rfl:=ry
  cases e
  exact zNs hc pins s σ H _ us Q I r ⟨_,_,rfl,k _ H ha .refl (congrArg V.int (by congr))⟩
 ·cases e
theorem zKu (hc:X.calm=true):zBa X (.builtin "min") (cOf K DS.min2B):=by
 intro pins s σ H xs us Q I r ⟨J,S,ds,d,ha,rl,e,k⟩
 unfold DS.min2B at e
 split at e
 ·obtain⟨x,y,rfl,rx,ry⟩:=zL2 rl
  obtain rfl:=rx;obtain rfl:=ry
  cases e
  exact zNr hc pins s σ H _ us Q I r ⟨_,_,rfl,k _ H ha .refl (congrArg V.int (by congr))⟩
 ·cases e
theorem zBb:MtR X "list.append" (mOf K DS.zAs):=by
 intro pins s σ H x xs v us Q I rx rs ⟨J,S,d1,ds,d,S',ha,r1,rl,e,k⟩
 unfold DS.zAs at e
 split at e
 ·rename_i n dv
  obtain⟨a,ea,rfl⟩:=r1
  obtain⟨c,ec,ob,eo,rc⟩:=ha.at ea
  obtain⟨y,rfl,ry⟩:=zDy (ds:=[]) rl
  split at e
  ·rename_i l es
   rw[ec]at es;cases es
   obtain⟨ys,rfl,rl⟩:=rc
   split at e
   ·rename_i hz
    cases e
    exact zMi pins s σ H _ _ v us Q I rx rs ⟨a,ys,y,rfl,rfl,eo,by rw[<- rl.length];exact hz,k _ _ (ha.write ea ⟨_,rfl,rl.snoc ry⟩) (.write ea) rfl⟩
   ·cases e
  ·cases e
 ·cases e
end
end L2
namespace L2
open PySem PySem.Spec PyProof.Rows
open DS (D Store Exn Rs SR)
section
variable {X:Cx}{K:PySem.W.Frag}{E:XE}{J:Js}{S:Store}{H:Hp}{d d1 d2:D}{v:V}
theorem zMt {tg:Expr}{pins:List (Addr × Obj)}{s1:Shared}{σ:St}{H1:Hp}{R:It->Hp->Prop}{a:Addr}{xs:List V}(I1:Inv X pins σ H1 s1) (hq:SqL X.K H1 a xs) (q:R (Itl X.K a) H1):wpAny (model X.prog X.w) X.A (pyIter (.ref a)) (PIE X pins σ tg R) X.xe s1:=by
 obtain⟨its,rv,p,hz⟩:=I1.list hq
 refine uS p.isList ?_
 refine⟨s1.heap.objs.size,[s1.heap.objs.size],_,_,H1,rfl,I1.kept (t':=s1.toks) fun b o e=>xl _ e,zL3 a _,⟨_,xv _ rfl,rfl,rfl⟩,fun b hb=>?_,q⟩
 have e:b=s1.heap.objs.size:=by simpa using hb
 subst e
 exact I1.fpOk (xh _) (I1.hok.fresh (xh _))
theorem zP3 {tg:Expr}{pins:List (Addr × Obj)}{s1:Shared}{σ:St}{H1:Hp}{R:It->Hp->Prop}{a:Addr}{xs:List V}(I1:Inv X pins σ H1 s1) (hq:SqT X.K H1 a xs) (q:R (Itt X.K a) H1):wpAny (model X.prog X.w) X.A (pyIter (.ref a)) (PIE X pins σ tg R) X.xe s1:=by
 obtain⟨its,rv,p,hz⟩:=I1.tuple hq
 refine wpAny_pyIter_tuple (show s1.heap.IsTuple a its.toArray from p) ?_
 refine⟨s1.heap.objs.size,[s1.heap.objs.size],_,_,H1,rfl,I1.kept (t':=s1.toks) fun b o e=>xl _ e,zK6 a _,⟨_,xv _ rfl,rfl,rfl⟩,fun b hb=>?_,q⟩
 have e:b=s1.heap.objs.size:=by simpa using hb
 subst e
 exact I1.fpOk (xh _) (I1.hok.fresh (xh _))
theorem zP4 {tg:Expr}{pins:List (Addr × Obj)}{s1:Shared}{σ:St}{H1:Hp}{R:It->Hp->Prop}{z:Str}{t:Tok}(I1:Inv X pins σ H1 s1) (ha:z.cps.all (·<128)=true) (q:R (Its z) H1):wpAny (model X.prog X.w) X.A (pyIter (.str z t)) (PIE X pins σ tg R) X.xe s1:=by
 refine wpAny_pyIter_ascii ha ?_
 refine⟨s1.heap.objs.size,[s1.heap.objs.size],_,Its z,H1,rfl,I1.kept (t':=s1.toks) fun b o e=>xl _ e,zO0 s1.heap.objs.size z t,⟨xC _,_,xv _ rfl,rfl,rfl⟩,fun b hb=>?_,q⟩
 have e:b=s1.heap.objs.size:=by simpa using hb
 subst e
 exact I1.fpOk (xh _) (I1.hok.fresh (xh _))
theorem stays_list {l:List D}(ha:AbS K J S H) (r:Rep K J H d v) (e:DS.look S d=some (.lst l)):∃a xs,v=.ref a/\SqL K H a xs/\∀J' H' S',Grow J H J' H'->AbS K J' S' H'->DS.gOk S' (DS.gdOf S d)->∃ys,SqL K H' a ys/\RepL K J' H' l ys:=by
 cases d with
 | lst l=>cases e;obtain⟨a,xs,rfl,t,rl⟩:=r;exact⟨a,xs,rfl,t.sq,fun J' H' S' g _ _=>⟨xs,(t.grow g).sq,RepL.grow g _ _ rl⟩⟩
 | klst l=>cases e;obtain⟨a,xs,rfl,t,rl⟩:=r;exact⟨a,xs,rfl,t.sq,fun J' H' S' g _ _=>⟨xs,(t.grow g).sq,RepL.grow g _ _ rl⟩⟩
 | ref n=>
  obtain⟨a,ea,rfl⟩:=r
  obtain⟨c,ec,o,eo,rc⟩:=ha.at ea
  have e:S[n]?=_:=e
  rw[ec]at e;cases e
  obtain⟨xs,rfl,rl⟩:=rc
  refine⟨a,xs,rfl,.inl (.inl eo),fun J' H' S' g ha' gd=>?_⟩
  have e':S'[n]?=some (.lst l):=gd (n,.lst l) (by simp[DS.gdOf,ec])
  obtain⟨o',eo',rc'⟩:=ha'.ob n a _ (g.pre n a ea) e'
  obtain⟨ys,rfl,rl'⟩:=rc'
  exact⟨ys,.inl (.inl eo'),rl'⟩
 | _=>cases e
theorem stays_tup {l:List D}(ha:AbS K J S H) (r:Rep K J H d v) (e:DS.look S d=some (.tup l)):∃a xs,v=.ref a/\SqT K H a xs/\∀J' H',Grow J H J' H'->SqT K H' a xs/\RepL K J' H' l xs:=by
 cases d with
 | tup l=>cases e;obtain⟨a,xs,rfl,t,rl⟩:=r;exact⟨a,xs,rfl,t.sq,fun J' H' g=>⟨(t.grow g).sq,RepL.grow g _ _ rl⟩⟩
 | ktup l=>cases e;obtain⟨a,xs,rfl,t,rl⟩:=r;exact⟨a,xs,rfl,t.sq,fun J' H' g=>⟨t.sq,RepL.grow g _ _ rl⟩⟩
 | ref n=>
  obtain⟨a,ea,rfl⟩:=r
  obtain⟨c,ec,o,eo,rc⟩:=ha.at ea
  have e:S[n]?=_:=e
  rw[ec]at e;cases e
  exact False.elim rc
 | _=>cases e
theorem zSv {a:Addr}{l:List D}{gd:List (Nat × D)}(h:∀J' H' S',Grow J H J' H'->AbS K J' S' H'->DS.gOk S' gd->∃ys,SqL K H' a ys/\RepL K J' H' l ys):ItOk K J H ⟨l,gd⟩ (Itl K a) where
 go:=fun i H' J' S' ha g gd hi=>by
  obtain⟨ys,q,rl⟩:=h J' H' S' g ha gd
  exact⟨ys,ys[i]'(by rw[<- rl.length];exact hi),q,xp _⟩
 yld:=fun i H' J' S' x H'' ha g gd y d ed=>by
  obtain⟨rfl,y⟩:=y
  obtain⟨ys,q,rl⟩:=h J' H'' S' g ha gd
  obtain⟨x',ex,rx⟩:=rl.get ed
  rw[y ys q]at ex;cases ex
  exact⟨ha,.refl,rx⟩
 stop:=fun i H' J' S' ha g gd hi=>by
  obtain⟨ys,q,rl⟩:=h J' H' S' g ha gd
  exact⟨ys,q,by rw[<- rl.length];exact hi⟩
theorem zVl {a:Addr}{xs:List V}{l:List D}{gd:List (Nat × D)}(h:∀J' H',Grow J H J' H'->SqT K H' a xs/\RepL K J' H' l xs):ItOk K J H ⟨l,gd⟩ (Itt K a) where
 go:=fun i H' J' S' ha g gd hi=>by
  obtain⟨q,rl⟩:=h J' H' g
  exact⟨xs,xs[i]'(by rw[<- rl.length];exact hi),q,xp _⟩
 yld:=fun i H' J' S' x H'' ha g gd y d ed=>by
  obtain⟨rfl,y⟩:=y
  obtain⟨q,rl⟩:=h J' H'' g
  obtain⟨x',ex,rx⟩:=rl.get ed
  rw[y xs q]at ex;cases ex
  exact⟨ha,.refl,rx⟩
 stop:=fun i H' J' S' ha g gd hi=>by
  obtain⟨q,rl⟩:=h J' H' g
  exact⟨xs,q,by rw[<- rl.length];exact hi⟩
theorem zVm {x:Str}:ItOk K J H ⟨DS.chars x,[]⟩ (Its x) where
 go:=fun i H' J' S' ha g gd hi=>by
  have:(DS.chars x).length=x.cps.size:=by simp[DS.chars]
  show i<x.cps.size
  rw[<- this];exact hi
 yld:=fun i H' J' S' y H'' ha g gd yl d ed=>by
  obtain⟨rfl,c,ec,rfl⟩:=yl
  have e:(DS.chars x)[i]?=some (D.str ⟨#[c]⟩):=by
   unfold DS.chars
   rw[vt,Array.getElem?_toList,ec];rfl
  rw[e]at ed;cases ed
  exact⟨ha,.refl,rfl⟩
 stop:=fun i H' J' S' ha g gd hi=>by
  have:(DS.chars x).length=x.cps.size:=by simp[DS.chars]
  show x.cps.size<=i
  rw[<- this];exact hi
theorem zD7 {tg e:Expr}{m:DS.EM}(he:DE X K E e m) (hK:X.K=K:=by rfl):DI X K E tg e (DS.iVal m):=by
 subst hK
 refine⟨⟨fun pins s σ H R I hq1=>?_⟩⟩
 obtain⟨env,S,J,ha,hE,q⟩:=hq1
 refine thn (he.h.h pins s σ H (fun x H1=>∃J1 S1 d w,AbS X.K J1 S1 H1/\Rep X.K J1 H1 d x/\DS.zBn S1 d=some w/\∀It,ItOk X.K J1 H1 w It->R It H1) I ⟨env,S,J,ha,hE,q.bind.imp fun d S1 J1 H1 _ a1 g1 q1 x rx=>?_⟩) fun v s1 hq1=>?_
 ·obtain⟨w,ew,k⟩:=q1.lift
  exact⟨J1,S1,d,w,a1,rx,ew,k J1 H1 a1 .refl⟩
 ·obtain⟨x,H1,I1,r1,J1,S1,d,w,a1,rx,ew,k⟩:=hq1
  unfold DS.zBn at ew
  split at ew
  ·rename_i l el
   cases ew
   obtain⟨a,xs,rfl,hq,st⟩:=stays_tup a1 rx el
   cases r1
   exact zP3 I1 hq (k _ (zVl st))
  ·rename_i l el
   cases ew
   obtain⟨a,xs,rfl,hq,st⟩:=stays_list a1 rx el
   cases r1
   exact zMt I1 hq (k _ (zSv st))
  ·rename_i z ez
   split at ew
   ·rename_i hz
    cases ew
    obtain rfl:=zL7 a1 rx ez
    obtain⟨t,rfl⟩:=r1
    exact zP4 I1 hz (k _ zVm)
   ·cases ew
  ·cases ew
theorem zP6 {lo:Int}{n:Nat}:ItOk K J H ⟨(List.range n).map fun(k:Nat)=>D.int (lo+k),[]⟩ (Itr lo n) where
 go:=fun i H' J' S' ha g gd hi=>by show i<n;simpa using hi
 yld:=fun i H' J' S' y H'' ha g gd yl d ed=>by
  obtain⟨rfl,rfl⟩:=yl
  rw[vt]at ed
  by_cases hi:i<n
  ·rw[List.getElem?_range hi]at ed
   cases ed
   exact⟨ha,.refl,rfl⟩
  ·rw[uf (by simpa using hi)]at ed
   cases ed
 stop:=fun i H' J' S' ha g gd hi=>by show n<=i;simpa using hi
theorem fits_of {i:Int}(h:DS.fits62 i=true):-(2 ^ 62)<=i/\i<2 ^ 62:=uY h
theorem zDm {tg a:Expr}{p pos:Pos}{am:DS.AM}(hg:Gl X "range") (hm:X.mg "range"=none) (ha:DA X K E [a] am) (h:nst a=true:=by rfl):DI X K E tg (.Call (.Name "range" p) [a] [] pos) (DS.zBq am):=
 ⟨(qrange1' hg hm ha.h h).imp fun σ H R ⟨env,S,J,h,hE,q⟩=>⟨env,S,J,h,hE,q.bind.imp fun ds S1 J1 H1 e1 a1 g1 q1 xs rx=>by
  obtain⟨w,ew,k⟩:=q1.lift
  have hl:=ha.len _ _ _ _ e1
  match ds,hl with
  | [d],_=>
   obtain⟨x,rfl,r⟩:=zDy (ds:=[]) rx
   cases d with
   | int j=>
    unfold DS.zFy at ew
    simp only at ew
    by_cases hf:DS.fits62 j=true
    ·rw[xc hf]at ew;cases ew
     obtain rfl:=r
     refine⟨j,rfl,(fits_of hf).1,(fits_of hf).2,k J1 H1 a1 .refl _ ?_⟩
     have e:DS.zFd 0 j=(List.range j.toNat).map fun(k:Nat)=>D.int (0+k):=by unfold DS.zFd;rw[Int.sub_zero]
     rw[e]
     exact zP6
    ·rw[xf hf]at ew;cases ew
   | _=>cases ew⟩⟩
end
end L2
namespace L2
open PySem PySem.Spec PyProof.Rows
open DS (D Store Exn Rs SR)
theorem zLk {K:PySem.W.Frag}{F:DS.Fn}{H:Hp}{a:Addr}{ns:List Int}{XX:XK}(h:∃S,F [.klst (ns.map D.int)] []=.ok (.bl true) S) (hS:SqL K H a (ns.map V.int)):spOf K XE0 F [.ref a] H (fun v _=>v=.bl true) XX:=by
 obtain⟨S,e⟩:=h
 refine⟨[],[],[.klst (ns.map D.int)],⟨rfl,vg,fun i a d e _=>by simp at e⟩,⟨.ref a,[],rfl,⟨a,ns.map V.int,rfl,?_,.ints⟩,rfl⟩,?_⟩
 ·rcases hS with h|h
  ·exact .inl ⟨h,by simp⟩
  ·exact .inr h
 ·rw[e]
  exact fun J' H' _ _ v r=>r
end L2
namespace TM
open PySem PyProof.Rows
noncomputable def dk:Keyed:=(Value.none,Value.none)
noncomputable def Cm (prog:Program) (w:World) (A:Around) (s:Shared) (κ:SortKind) (rk:Keyed->Nat) (Gd:Keyed->Prop):Prop:=
 ∀x y,Gd x->Gd y->∀(Q:Bool->Shared->Prop) (E':Value->Shared->Prop),Q (decide (rk x<rk y)) s->wpAny (model prog w) A (keyLt' κ x.1 y.1) Q E' s
structure SB (κ:SortKind) (a₀:Array Keyed) (st:SortSt):Prop where
 perm:(arrOf st).Perm a₀
 kind:kindOf st=κ
 failed:failedOf st=none
section
variable {κ:SortKind}{a₀:Array Keyed}{st:SortSt}{rk:Keyed->Nat}
theorem SB.size (h:SB κ a₀ st):(arrOf st).size=a₀.size:=h.perm.size_eq
theorem SB.set (h:SB κ a₀ st) {xs:Array Keyed}(hp:xs.Perm (arrOf st)):SB κ a₀ (setArr st xs):=⟨hp.trans h.perm,h.kind,h.failed⟩
noncomputable def ky (rk:Keyed->Nat) (xs:Array Keyed) (i:Nat):Nat:=rk (xs.getD i dk)
noncomputable def So (rk:Keyed->Nat) (xs:Array Keyed) (a b:Nat):Prop:=∀i j,a<=i->i<=j->j<b->ky rk xs i<=ky rk xs j
noncomputable def Fa (rk:Keyed->Nat) (xs:Array Keyed) (a b:Nat):Prop:=∀i j,a<=i->i<=j->j<b->ky rk xs j<=ky rk xs i
noncomputable def Out (a b:Nat) (xs ys:Array Keyed):Prop:=∀k,k<a\/b<=k->ys[k]?=xs[k]?
theorem Out.refl {a b:Nat}{xs:Array Keyed}:Out a b xs xs:=fun _ _=>rfl
theorem Out.trans {a b:Nat}{xs ys zs:Array Keyed}(h:Out a b xs ys) (h':Out a b ys zs):Out a b xs zs:=fun k hk=>(h' k hk).trans (h k hk)
theorem Out.mono {a b a' b':Nat}{xs ys:Array Keyed}(h:Out a b xs ys) (h1:a'<=a) (h2:b<=b'):Out a' b' xs ys:=fun k hk=>h k (by nofun)
theorem zT0 {xs ys:Array Keyed}{i j:Nat}(h:xs[i]?=ys[j]?):xs.getD i dk=ys.getD j dk:=by
 rw[vi,vi,h]
theorem zKi {xs ys:Array Keyed}{i j:Nat}(h:xs[i]?=ys[j]?):ky rk xs i=ky rk ys j:=by unfold ky;rw[zT0 h]
theorem Out.ky {a b k:Nat}{xs ys:Array Keyed}(h:Out a b xs ys) (hk:k<a\/b<=k):TM.ky rk ys k=TM.ky rk xs k:=zKi (h k hk)
theorem So.out {a b c d:Nat}{xs ys:Array Keyed}(h:So rk xs c d) (o:Out a b xs ys) (hd:d<=a\/b<=c):So rk ys c d:=fun i j h1 h2 h3=>by
 rw[o.ky (by nofun),o.ky (by nofun)];exact h i j h1 h2 h3
theorem zMn {xs:Array Keyed}{i j:Nat}(hj:j<=xs.size) (k:Nat):ky rk (mirror xs i j ((j-i) / 2)) k=if i<=k/\k<j then ky rk xs (i+j-1-k)else ky rk xs k:=by
 have e:=getElem?_mirror_all (i:=i) hj k
 split at e <;> rename_i h1
 ·rw[xc h1];exact zKi e
 ·rw[xf h1];exact zKi e
theorem zCq {xs:Array Keyed}{i j:Nat}(hj:j<=xs.size) (he:∀k,i<=k->k<j->ky rk xs k=ky rk xs (j-1)) (k:Nat):ky rk (mirror xs i j ((j-i) / 2)) k=ky rk xs k:=by
 rw[zMn hj]
 split
 ·rw[he _ (by nofun) (by nofun),he k (by nofun) (by nofun)]
 ·rfl
theorem zS4 {xs:Array Keyed}{i j:Nat}(hj:j<=xs.size):Out i j xs (mirror xs i j ((j-i) / 2)):=fun k hk=>by
 rw[getElem?_mirror_all hj,xf (by nofun)]
theorem zQb {xs:Array Keyed}{src d:Nat}(hs:src<xs.size) (hd:d<=src) (k:Nat):ky rk (bubble xs src d) k=if k=src-d then ky rk xs src else if src-d<k/\k<=src then ky rk xs (k-1)else ky rk xs k:=by
 have e:=getElem?_bubble hs d hd k
 split at e <;> rename_i h1
 ·rw[xc h1];exact zKi e
 ·rw[xf h1]
  split at e <;> rename_i h2
  ·rw[xc h2];exact zKi e
  ·rw[xf h2];exact zKi e
theorem zS5 {xs:Array Keyed}{src d:Nat}(hs:src<xs.size) (hd:d<=src):Out (src-d) (src+1) xs (bubble xs src d):=fun k hk=>by
 rw[getElem?_bubble hs d hd,xf (by nofun),xf (by nofun)]
end
section
variable {prog:Program}{w:World}{A:Around}{E:Value->Shared->Prop}{s:Shared}{κ:SortKind}{a₀:Array Keyed}{rk:Keyed->Nat}{Gd:Keyed->Prop}
theorem zW9 {xs:Array Keyed}(hp:xs.Perm a₀) (hg:∀x∈a₀,Gd x) {i:Nat}(hi:i<a₀.size):xs[i]?=some (xs.getD i dk)/\Gd (xs.getD i dk):=by
 have hi':i<xs.size:=by rw[hp.size_eq];exact hi
 have e:xs.getD i dk=xs[i]:=by simp[Array.getD,hi']
 refine⟨by rw[e];exact getElem?_pos _ i hi',?_⟩
 rw[e]
 exact hg _ (hp.mem_iff.mp (Array.getElem_mem hi'))
theorem w_lt (C:Cm prog w A s κ rk Gd) {st:SortSt}{x y:Keyed}{Q:Option Bool->SortSt->Prop}(hk:kindOf st=κ) (hx:Gd x) (hy:Gd y) (h:Q (some (decide (rk x<rk y))) st):wpS (model prog w) A E s (lt' x y) Q st:=by
 rw[lt'_eq]
 refine xx (wpS_get ?_)
 rw[hk]
 exact xx (wpS_lift (wpAny_attempt (C x y hx hy _ _ ⟨rfl,xF h⟩)))
theorem zPs {st:SortSt}{xs:Array Keyed}{i:Nat}{x:Keyed}{Q:Keyed->SortSt->Prop}(e:xs[i]?=some x) (h:Q x st):wpS (model prog w) A E s (elem' xs i) Q st:=by
 rw[elem'_eq,e];exact xF h
theorem w_at (C:Cm prog w A s κ rk Gd) (hg:∀x∈a₀,Gd x) {st:SortSt}{i j:Nat}{Q:Option Bool->SortSt->Prop}(B:SB κ a₀ st) (hi:i<a₀.size) (hj:j<a₀.size)
  (h:Q (some (decide (ky rk (arrOf st) i<ky rk (arrOf st) j))) st):wpS (model prog w) A E s (ltAt' i j) Q st:=by
 obtain⟨e1,g1⟩:=zW9 B.perm hg hi
 obtain⟨e2,g2⟩:=zW9 B.perm hg hj
 rw[ltAt'_eq]
 refine xx (wpS_get ?_)
 exact xx (zPs e1 (xx (zPs e2 (w_lt C B.kind g1 g2 h))))
noncomputable def ascL (lo a nrem:Nat):StateT SortSt Sem AscSt:=forIn [a:nrem] ((none,a):AscSt) fun _ z=>do
 let x <- ltAt' (lo+z.snd) (lo+z.snd-1)
 match x with
 | some smaller=>if smaller=true then pure (ForInStep.done (none,z.snd))else pure (ForInStep.yield (none,z.snd+1))
 | _=>pure (ForInStep.done (some none,z.snd))
noncomputable def zL5 (lo n nrem:Nat):StateT SortSt Sem (Option Nat):=do
 reverseSlice' lo (lo+n)
 let z <- ascL lo n nrem
 match z.fst with
 | some r=>pure r
 | none=>pure (some z.snd)
noncomputable def zPl (lo n nrem:Nat):StateT SortSt Sem DescSt:=forIn [n:nrem] ((none,n,0):DescSt) fun _ z=>do
 let x <- ltAt' (lo+z.snd.fst) (lo+z.snd.fst-1)
 match x with
 | some smaller=>
  if smaller=true then
   if z.snd.snd > 0 then do
    reverseSlice' (lo+z.snd.fst-(z.snd.snd+1)) (lo+z.snd.fst)
    pure (ForInStep.yield (none,z.snd.fst+1,0))
   else pure (ForInStep.yield (none,z.snd.fst+1,0))
  else do
   let x <- ltAt' (lo+z.snd.fst-1) (lo+z.snd.fst)
   match x with
   | some larger=>if larger=true then pure (ForInStep.done (none,z.snd.fst,z.snd.snd))else pure (ForInStep.yield (none,z.snd.fst+1,z.snd.snd+1))
   | _=>pure (ForInStep.done (some none,z.snd.fst,z.snd.snd))
 | _=>pure (ForInStep.done (some none,z.snd.fst,z.snd.snd))
noncomputable def zM6 (lo n nrem:Nat):StateT SortSt Sem (Option Nat):=do
 liftM (rule "list.sort.descending-run")
 let z <- zPl lo (n+1) nrem
 match z.fst with
 | some r=>pure r
 | none=>
  if z.snd.snd > 0 then do
   reverseSlice' (lo+z.snd.fst-(z.snd.snd+1)) (lo+z.snd.fst)
   zL5 lo z.snd.fst nrem
  else zL5 lo z.snd.fst nrem
theorem count_eq (lo nrem:Nat):countRun' lo nrem=(do
  let z <- ascL lo 1 nrem
  match z.fst with
  | some r=>pure r
  | none=>
   if(z.snd == nrem)=true then pure (some z.snd)
   else if z.snd > 1 then do
    let x <- ltAt' lo (lo+z.snd-1)
    match x with
    | some rose=>if rose=true then pure (some z.snd)else do
      reverseSlice' lo (lo+z.snd)
      zM6 lo z.snd nrem
    | _=>pure none
   else zM6 lo z.snd nrem):=by
 rw[countRun'_eq]
 unfold zM6 zL5 zPl ascL
 refine congrArg (Bind.bind _) ?_
 funext z
 obtain⟨r,n⟩:=z
 cases r with
 | some r=>rfl
 | none=>
  dsimp only
  split
  ·rfl
  ·split
   ·congr 1;funext x
    cases x with
    | none=>rfl
    | some rose=>
     dsimp only
     split
     ·rfl
     ·congr 1;funext _r
      congr 1;funext _u;congr 1;congr 1;funext s2;obtain⟨r2,n2,q2⟩:=s2
      cases r2 with
      | some r2=>rfl
      | none=>
       dsimp only
       split
       ·congr 1;funext _v;congr 1;funext _w;congr 1;funext s3;obtain⟨r3,n3⟩:=s3;cases r3 <;> rfl
       ·congr 1;funext _w;congr 1;funext s3;obtain⟨r3,n3⟩:=s3;cases r3 <;> rfl
   ·congr 1;funext _u;congr 1;congr 1;funext s2;obtain⟨r2,n2,q2⟩:=s2
    cases r2 with
    | some r2=>rfl
    | none=>
     dsimp only
     split
     ·congr 1;funext _v;congr 1;funext _w;congr 1;funext s3;obtain⟨r3,n3⟩:=s3;cases r3 <;> rfl
     ·congr 1;funext _w;congr 1;funext s3;obtain⟨r3,n3⟩:=s3;cases r3 <;> rfl
structure Ran (κ:SortKind) (a₀:Array Keyed) (lo hi:Nat) (st st':SortSt):Prop where
 b:SB κ a₀ st'
 pend:pendingOf st'=pendingOf st
 out:Out lo hi (arrOf st) (arrOf st')
theorem Ran.refl {lo hi:Nat}{st:SortSt}(B:SB κ a₀ st):Ran κ a₀ lo hi st st:=⟨B,rfl,.refl⟩
theorem Ran.trans {lo hi:Nat}{st st1 st2:SortSt}(a:Ran κ a₀ lo hi st st1) (b:Ran κ a₀ lo hi st1 st2):Ran κ a₀ lo hi st st2:=⟨b.b,b.pend.trans a.pend,a.out.trans b.out⟩
theorem Ran.mono {lo hi lo' hi':Nat}{st st1:SortSt}(a:Ran κ a₀ lo hi st st1) (h1:lo'<=lo) (h2:hi<=hi'):Ran κ a₀ lo' hi' st st1:=⟨a.b,a.pend,a.out.mono h1 h2⟩
theorem w_rev {st:SortSt}{i j:Nat}{Q:Unit->SortSt->Prop}(h:Q () (setArr st (mirror (arrOf st) i j ((j-i) / 2)))):wpS (model prog w) A E s (reverseSlice' i j) Q st:=by
 rw[reverseSlice'_eq];exact wpS_modify h
theorem zFz {st:SortSt}{i j:Nat}(B:SB κ a₀ st) (hj:j<=a₀.size):Ran κ a₀ i j st (setArr st (mirror (arrOf st) i j ((j-i) / 2))):=⟨B.set (mirror_perm _ _ _ _),rfl,zS4 (by rw[B.size];exact hj)⟩
theorem zTt (C:Cm prog w A s κ rk Gd) (hg:∀x∈a₀,Gd x) {st:SortSt}{lo a nrem:Nat}{Q:AscSt->SortSt->Prop}(hn:lo+nrem<=a₀.size) (ha:1<=a) (han:a<=nrem) (B:SB κ a₀ st) (hs:So rk (arrOf st) lo (lo+a))
  (h:∀n,a<=n->n<=nrem->So rk (arrOf st) lo (lo+n)->(n=nrem\/ky rk (arrOf st) (lo+n)<ky rk (arrOf st) (lo+n-1))->Q (none,n) st):wpS (model prog w) A E s (ascL lo a nrem) Q st:=by
 unfold ascL
 refine wpS_forRange (I:=fun x c st'=>st'=st/\c=(none,x)/\So rk (arrOf st) lo (lo+x)) ?step ?fin ⟨rfl,rfl,hs⟩
 case fin=>
  rintro c st' ⟨rfl,rfl,hs'⟩
  rw[show max a nrem=nrem by nofun]at hs' ⊢
  exact h nrem han (xh _) hs' (.inl rfl)
 case step=>
  rintro x c st' hax hxn ⟨rfl,rfl,hs'⟩
  dsimp only
  refine xx (w_at C hg B (by nofun) (by nofun) ?_)
  by_cases q:ky rk (arrOf st') (lo+x)<ky rk (arrOf st') (lo+x-1)
  ·rw[xq q]
   exact xF (h x hax (by nofun) hs' (.inr q))
  ·rw[xj q]
   refine xF ⟨rfl,rfl,fun i j h1 hij hj=>?_⟩
   by_cases hjx:j<lo+x
   ·exact hs' i j h1 hij hjx
   ·obtain rfl:j=lo+x:=by nofun
    by_cases hi':i=lo+x
    ·rw[hi'];exact xh _
    ·exact xm (hs' i (lo+x-1) h1 (by nofun) (by nofun)) (Nat.not_lt.mp q)
theorem zPq (C:Cm prog w A s κ rk Gd) (hg:∀x∈a₀,Gd x) {st:SortSt}{lo n nrem:Nat}{Q:Option Nat->SortSt->Prop}(hn:lo+nrem<=a₀.size) (h1:1<=n) (hnn:n<=nrem) (B:SB κ a₀ st) (hs:Fa rk (arrOf st) lo (lo+n))
  (h:∀m st',Ran κ a₀ lo (lo+nrem) st st'->1<=m->m<=nrem->So rk (arrOf st') lo (lo+m)->Q (some m) st'):wpS (model prog w) A E s (zL5 lo n nrem) Q st:=by
 unfold zL5
 have R:=zFz (i:=lo) (j:=lo+n) B (by nofun)
 have hsz:lo+n<=(arrOf st).size:=by rw[B.size];lia
 refine xx (w_rev (xx (zTt C hg hn h1 hnn R.b ?_ fun m hm1 hm2 hsm _=>xF (h m _ (R.mono (xh _) (by nofun)) (by nofun) hm2 hsm))))
 intro i j h0 hij hj
 show ky rk (mirror (arrOf st) lo (lo+n) ((lo+n-lo) / 2)) i<=ky rk (mirror (arrOf st) lo (lo+n) ((lo+n-lo) / 2)) j
 rw[zMn hsz,zMn hsz,xc (by nofun),xc (by nofun)]
 exact hs _ _ (by nofun) (by nofun) (by nofun)
theorem zTs (C:Cm prog w A s κ rk Gd) (hg:∀x∈a₀,Gd x) {st:SortSt}{lo n nrem:Nat}{Q:DescSt->SortSt->Prop}(hn:lo+nrem<=a₀.size) (h1:1<=n) (hnn:n<=nrem) (B:SB κ a₀ st) (hs:Fa rk (arrOf st) lo (lo+n))
  (h:∀m neq st',Ran κ a₀ lo (lo+nrem) st st'->n<=m->m<=nrem->Fa rk (arrOf st') lo (lo+m)->neq+1<=m->(∀i,lo+m-(neq+1)<=i->i<lo+m->ky rk (arrOf st') i=ky rk (arrOf st') (lo+m-1))->Q (none,m,neq) st'):
  wpS (model prog w) A E s (zPl lo n nrem) Q st:=by
 unfold zPl
 refine wpS_forRange (I:=fun x c st'=>∃neq,c=(none,x,neq)/\Ran κ a₀ lo (lo+nrem) st st'/\Fa rk (arrOf st') lo (lo+x)/\neq+1<=x/\(∀i,lo+x-(neq+1)<=i->i<lo+x->ky rk (arrOf st') i=ky rk (arrOf st') (lo+x-1))) ?step ?fin
  ⟨0,rfl,.refl B,hs,by nofun,fun i h1 h2=>by congr 1;lia⟩
 case fin=>
  rintro c st' ⟨neq,rfl,R,hs',hq,he⟩
  rw[show max n nrem=nrem by nofun]at hs' hq he ⊢
  exact h nrem neq st' R hnn (xh _) hs' hq he
 case step=>
  rintro x c st' hax hxn ⟨neq,rfl,R,hs',hq,he⟩
  dsimp only
  have hsz:lo+x<=(arrOf st').size:=by rw[R.b.size];lia
  refine xx (w_at C hg R.b (by nofun) (by nofun) ?_)
  by_cases q:ky rk (arrOf st') (lo+x)<ky rk (arrOf st') (lo+x-1)
  ·rw[xq q]
   simp only[xw]
   have st1:∀xs:Array Keyed,(∀k,ky rk xs k=ky rk (arrOf st') k)->Fa rk xs lo (lo+(x+1)):=fun xs hk i j h0 hij hj=>by
    rw[hk,hk]
    by_cases hjx:j<lo+x
    ·exact hs' i j h0 hij hjx
    ·obtain rfl:j=lo+x:=by nofun
     by_cases hi':i=lo+x
     ·rw[hi'];exact xh _
     ·exact xm (xO q) (hs' i (lo+x-1) h0 (by nofun) (by nofun))
   by_cases hneq:neq > 0
   ·rw[xc hneq]
    have R2:=zFz (i:=lo+x-(neq+1)) (j:=lo+x) R.b (by nofun)
    exact xx (w_rev (xF ⟨0,rfl,R.trans (R2.mono (by nofun) (by nofun)),st1 _ (zCq hsz he),by nofun,fun i h1 h2=>by congr 1;lia⟩))
   ·rw[xf hneq]
    exact xF ⟨0,rfl,R,st1 _ (fun _=>rfl),by nofun,fun i h1 h2=>by congr 1;lia⟩
  ·rw[xj q]
   simp only[xR,xK]
   refine xx (w_at C hg R.b (by nofun) (by nofun) ?_)
   by_cases ql:ky rk (arrOf st') (lo+x-1)<ky rk (arrOf st') (lo+x)
   ·rw[xq ql]
    exact xF (h x neq st' R hax (by nofun) hs' hq he)
   ·rw[xj ql]
    have ex:ky rk (arrOf st') (lo+x)=ky rk (arrOf st') (lo+x-1):=by nofun
    refine xF ⟨neq+1,rfl,R,fun i j h0 hij hj=>?_,by nofun,fun i h1 h2=>?_⟩
    ·by_cases hjx:j<lo+x
     ·exact hs' i j h0 hij hjx
     ·obtain rfl:j=lo+x:=by nofun
      by_cases hi':i=lo+x
      ·rw[hi'];exact xh _
      ·rw[ex];exact hs' i (lo+x-1) h0 (by nofun) (by nofun)
    ·rw[show lo+(x+1)-1=lo+x by nofun]
     by_cases hix:i=lo+x
     ·rw[hix]
     ·rw[ex];exact he i (by nofun) (by nofun)
theorem zPr (C:Cm prog w A s κ rk Gd) (hg:∀x∈a₀,Gd x) {st:SortSt}{lo n nrem:Nat}{Q:Option Nat->SortSt->Prop}(hn:lo+nrem<=a₀.size) (hnn:n+1<=nrem) (B:SB κ a₀ st) (hs:Fa rk (arrOf st) lo (lo+(n+1)))
  (h:∀m st',Ran κ a₀ lo (lo+nrem) st st'->1<=m->m<=nrem->So rk (arrOf st') lo (lo+m)->Q (some m) st'):wpS (model prog w) A E s (zM6 lo n nrem) Q st:=by
 unfold zM6
 refine xx (wpS_lift (vP ⟨rfl,xx (zTs C hg hn (by nofun) hnn B hs fun m neq st' R hm1 hm2 hs' hq he=>?_)⟩))
 dsimp only
 have hsz:lo+m<=(arrOf st').size:=by rw[R.b.size];lia
 by_cases hneq:neq > 0
 ·rw[xc hneq]
  have R2:=zFz (i:=lo+m-(neq+1)) (j:=lo+m) R.b (by nofun)
  refine xx (w_rev (zPq C hg hn (by nofun) hm2 R2.b (fun i j h0 hij hj=>?_) fun m' st'' R3 a1 a2 a3=>h m' st'' ((R.trans (R2.mono (by nofun) (by nofun))).trans R3) a1 a2 a3))
  show ky rk (mirror (arrOf st') _ _ _) j<=ky rk (mirror (arrOf st') _ _ _) i
  rw[zCq hsz he,zCq hsz he]
  exact hs' i j h0 hij hj
 ·rw[xf hneq]
  exact zPq C hg hn (by nofun) hm2 R.b hs' fun m' st'' R3 a1 a2 a3=>h m' st'' (R.trans R3) a1 a2 a3
theorem w_count (C:Cm prog w A s κ rk Gd) (hg:∀x∈a₀,Gd x) {st:SortSt}{lo nrem:Nat}{Q:Option Nat->SortSt->Prop}(hn:lo+nrem<=a₀.size) (h1:1<=nrem) (B:SB κ a₀ st)
  (h:∀m st',Ran κ a₀ lo (lo+nrem) st st'->1<=m->m<=nrem->So rk (arrOf st') lo (lo+m)->Q (some m) st'):wpS (model prog w) A E s (countRun' lo nrem) Q st:=by
 rw[count_eq]
 refine xx (zTt C hg hn (xh 1) h1 B (fun i j h0 hij hj=>Nat.le_of_eq (congrArg _ (show i=j by nofun))) fun n hn1 hn2 hsn hor=>?_)
 dsimp only
 by_cases hnn:n=nrem
 ·rw[xc (by simpa using hnn)]
  exact xF (h n st (.refl B) hn1 hn2 hsn)
 ·rw[xf (by simpa using hnn)]
  have hlt:=hor.resolve_left hnn
  by_cases hgt:n > 1
  ·rw[xc hgt]
   refine xx (w_at C hg B (by nofun) (by nofun) ?_)
   by_cases hr:ky rk (arrOf st) lo<ky rk (arrOf st) (lo+n-1)
   ·rw[xq hr]
    exact xF (h n st (.refl B) hn1 hn2 hsn)
   ·rw[xj hr]
    have hsz:lo+n<=(arrOf st).size:=by rw[B.size];lia
    have hall:∀k,lo<=k->k<lo+n->ky rk (arrOf st) k=ky rk (arrOf st) (lo+n-1):=fun k hk0 hk=>by
     have a1:=hsn lo k (xh _) hk0 hk
     have a2:=hsn k (lo+n-1) hk0 (by nofun) (by nofun)
     lia
    have R2:=zFz (i:=lo) (j:=lo+n) B (by nofun)
    refine xx (w_rev (zPr C hg hn (by nofun) R2.b (fun i j h0 hij hj=>?_) fun m' st'' R3 a1 a2 a3=>h m' st'' ((R2.mono (xh _) (by nofun)).trans R3) a1 a2 a3))
    show ky rk (mirror (arrOf st) _ _ _) j<=ky rk (mirror (arrOf st) _ _ _) i
    rw[zCq hsz hall,zCq hsz hall]
    by_cases hjn:j<lo+n
    ·rw[hall i (by nofun) (by nofun),hall j (by nofun) hjn];exact xh _
    ·obtain rfl:j=lo+n:=by nofun
     by_cases hi':i=lo+n
     ·rw[hi'];exact xh _
     ·rw[hall i (by nofun) (by nofun)];exact xO hlt
  ·rw[xf hgt]
   obtain rfl:n=1:=by nofun
   refine zPr C hg hn (by nofun) B (fun i j h0 hij hj=>?_) h
   by_cases hi':i=j
   ·rw[hi'];exact xh _
   ·obtain rfl:i=lo:=by nofun
    obtain rfl:j=i+1:=by nofun
    exact xO hlt
end
end TM
namespace TM
open PySem PyProof.Rows
section
variable {prog:Program}{w:World}{A:Around}{E:Value->Shared->Prop}{s:Shared}{κ:SortKind}{a₀:Array Keyed}{rk:Keyed->Nat}{Gd:Keyed->Prop}
theorem zWc (C:Cm prog w A s κ rk Gd) (hg:∀x∈a₀,Gd x) {st:SortSt}{lo n ok:Nat}{Q:Bool->SortSt->Prop}(hn:lo+n<=a₀.size) (hok:ok<=n) (B:SB κ a₀ st) (hs:So rk (arrOf st) lo (lo+ok))
  (h:∀st',Ran κ a₀ lo (lo+n) st st'->So rk (arrOf st') lo (lo+n)->Q true st'):wpS (model prog w) A E s (binarySort' lo n ok) Q st:=by
 rw[binarySort'_eq]
 refine xx (wpS_mono (wpS_forRange (I:=fun k c st'=>c=(none,())/\Ran κ a₀ lo (lo+n) st st'/\So rk (arrOf st') lo (lo+min k n)) (Q:=fun c st'=>c=(none,())/\Ran κ a₀ lo (lo+n) st st'/\So rk (arrOf st') lo (lo+n)) ?step ?fin ?init) ?post)
 case post=>
  rintro c st' ⟨rfl,R,hs'⟩
  exact xF (h st' R hs')
 case init=>
  refine⟨rfl,.refl B,fun i j h0 hij hj=>?_⟩
  by_cases h1:ok=0
  ·exact Nat.le_of_eq (congrArg _ (show i=j by nofun))
  ·exact hs i j h0 hij (by nofun)
 case fin=>
  rintro c st' ⟨hc,R,hs'⟩
  rw[show min (max (max ok 1) n) n=n by nofun]at hs'
  exact⟨hc,R,hs'⟩
 case step=>
  rintro k c st' hak hkn ⟨rfl,R,hs'⟩
  rw[show min k n=k by nofun]at hs'
  have hk:lo+k<a₀.size:=by nofun
  refine xx (wpS_mono (wpS_forRange (I:=fun x c st''=>st''=st'/\∃l r,c=(none,l,r)/\l<=r/\r<=k/\r-l<=k-x/\(∀i,i<l->ky rk (arrOf st') (lo+i)<=ky rk (arrOf st') (lo+k))/\(∀i,r<=i->i<k->ky rk (arrOf st') (lo+k)<ky rk (arrOf st') (lo+i)))
   (Q:=fun c st''=>st''=st'/\∃l r,c=(none,l,r)/\l<=k/\(∀i,i<l->ky rk (arrOf st') (lo+i)<=ky rk (arrOf st') (lo+k))/\(∀i,l<=i->i<k->ky rk (arrOf st') (lo+k)<ky rk (arrOf st') (lo+i))) ?istep ?ifin ?iinit) ?ipost)
  case iinit=>exact⟨rfl,0,k,rfl,by nofun,by nofun,by nofun,fun i hi=>by nofun,fun i h1 h2=>by nofun⟩
  case ifin=>
   rintro c st'' ⟨rfl,l,r,rfl,hlr,hrk,hm,hlo,hhi⟩
   obtain rfl:l=r:=by nofun
   exact⟨rfl,l,l,rfl,hrk,hlo,hhi⟩
  case istep=>
   rintro x c st'' _ hxk ⟨rfl,l,r,rfl,hlr,hrk,hm,hlo,hhi⟩
   dsimp only
   by_cases hge:l >= r
   ·rw[xc hge]
    obtain rfl:l=r:=by nofun
    exact xF ⟨rfl,l,l,rfl,hrk,hlo,hhi⟩
   ·rw[xf hge]
    refine xx (w_at C hg R.b hk (by nofun) ?_)
    by_cases q:ky rk (arrOf st'') (lo+k)<ky rk (arrOf st'') (lo+(l+r) / 2)
    ·rw[xq q]
     exact xF ⟨rfl,l,(l+r) / 2,rfl,by nofun,by nofun,by nofun,hlo,fun i h1 h2=>xy q (hs' _ _ (by nofun) (by nofun) (by nofun))⟩
    ·rw[xj q]
     exact xF ⟨rfl,(l+r) / 2+1,r,rfl,by nofun,by nofun,by nofun,fun i h1=>xm (hs' (lo+i) (lo+(l+r) / 2) (by nofun) (by nofun) (by nofun)) (Nat.not_lt.mp q),hhi⟩
  case ipost=>
   rintro c st'' ⟨rfl,l,r,rfl,hlk,hlo,hhi⟩
   show wpS _ _ _ _ (do moveDown' (lo+k) (lo+l);pure (ForInStep.yield (none,()))) _ _
   rw[moveDown'_eq]
   have hks:lo+k<(arrOf st'').size:=by rw[R.b.size];exact hk
   have ob:=zS5 (d:=lo+k-(lo+l)) hks (by nofun)
   refine xx (wpS_modify (xF ⟨rfl,R.trans ⟨R.b.set (bubble_perm _ _ _),rfl,ob.mono (by nofun) (by nofun)⟩,?_⟩))
   rw[show min (k+1) n=k+1 by nofun]
   intro i j h0 hij hj
   show ky rk (bubble (arrOf st'') (lo+k) (lo+k-(lo+l))) i<=ky rk (bubble (arrOf st'') (lo+k) (lo+k-(lo+l))) j
   rw[zQb hks (by nofun),zQb hks (by nofun),show lo+k-(lo+k-(lo+l))=lo+l by nofun]
   have lo':∀i,lo<=i->i<lo+l->ky rk (arrOf st'') i<=ky rk (arrOf st'') (lo+k):=fun i h1 h2=>by
    have:=hlo (i-lo) (by nofun)
    rwa[show lo+(i-lo)=i by nofun]at this
   have hi':∀i,lo+l<=i->i<lo+k->ky rk (arrOf st'') (lo+k)<=ky rk (arrOf st'') i:=fun i h1 h2=>by
    have:=hhi (i-lo) (by nofun) (by nofun)
    rw[show lo+(i-lo)=i by nofun]at this
    exact xO this
   repeat' split
   all_goals first
    | (exfalso;lia)
    | exact xh _
    | exact lo' _ (by nofun) (by nofun)
    | exact hi' _ (by nofun) (by nofun)
    | exact hs' _ _ (by nofun) (by nofun) (by nofun)
end
end TM
namespace TM
open PySem PyProof.Rows
section
variable {rk:Keyed->Nat}
noncomputable abbrev Pw (rk:Keyed->Nat) (l:List Keyed):Prop:=l.Pairwise fun x y=>rk x<=rk y
theorem getD_list (a:Array Keyed) (i:Nat) (h:i<a.size):a.getD i dk=a.toList[i]'(by simpa using h):=by simp[Array.getD,h]
theorem So.pw {a:Array Keyed}(h:So rk a 0 a.size):Pw rk a.toList:=by
 rw[Pw,List.pairwise_iff_getElem]
 intro i j hi hj hij
 have:=h i j (by nofun) (by nofun) (by simpa using hj)
 unfold ky at this
 rwa[getD_list a i (by simpa using hi),getD_list a j (by simpa using hj)]at this
variable {a b out:Array Keyed}{ia ib k:Nat}
variable {na nb:Nat}
end
end TM
namespace TM
open PySem PyProof.Rows
section
variable {prog:Program}{w:World}{A:Around}{E:Value->Shared->Prop}{s:Shared}{κ:SortKind}{a₀:Array Keyed}{rk:Keyed->Nat}{Gd:Keyed->Prop}
theorem zOx (n:Nat) (h:n<64):minRun' n n 0=n:=by
 match n,h with
 | 0,_=>rfl
 | n+1,h=>
  show(if n+1<64 then n+1+0 else minRun' n ((n+1) / 2) (max 0 ((n+1) % 2)))=n+1
  rw[xc h]
theorem zQr {γ:Type}{c:Prop}[Decidable c] {st:SortSt}{m n:StateT SortSt Sem γ}{Q:γ->SortSt->Prop}(h1:c->wpS (model prog w) A E s m Q st) (h2:¬ c->wpS (model prog w) A E s n Q st):wpS (model prog w) A E s (if c then m else n) Q st:=by
 split
 ·exact h1 ‹_›
 ·exact h2 ‹_›
theorem w_sr (C:Cm prog w A s κ rk Gd) (hz:a₀.size<=63) (hg:∀x∈a₀,Gd x) {st:SortSt}{Q:Unit->SortSt->Prop}(B:SB κ a₀ st) (hp:pendingOf st=#[])
  (h:∀st',SB κ a₀ st'->So rk (arrOf st') 0 a₀.size->Q () st'):wpS (model prog w) A E s sortRuns' Q st:=by
 rw[sortRuns'_eq]
 refine xx (wpS_get ?_)
 dsimp only
 rw[B.size,zOx _ (by nofun)]
 refine xx (wpS_mono (wpS_forRange (I:=fun x c st'=>∃lo p,c=(none,lo)/\SB κ a₀ st'/\pendingOf st'=List.toArray p/\((lo=0/\p=[]/\x<=lo)\/(lo=a₀.size/\p.length<=1/\So rk (arrOf st') 0 a₀.size)))
  (Q:=fun c st'=>∃p lo,c=(none,lo)/\SB κ a₀ st'/\pendingOf st'=List.toArray p/\p.length<=1/\So rk (arrOf st') 0 a₀.size) ?step ?fin ?init) ?post)
 case init=>exact⟨0,[],rfl,B,hp,.inl ⟨rfl,rfl,by nofun⟩⟩
 case fin=>
  rintro c st' ⟨lo,p,rfl,B',hp',q⟩
  rcases q with⟨rfl,rfl,q⟩|⟨rfl,q1,q2⟩
  ·exact⟨[],_,rfl,B',hp',by simp,fun i j h1 h2 h3=>by nofun⟩
  ·exact⟨p,_,rfl,B',hp',q1,q2⟩
 case post=>
  rintro c st' ⟨p,lo,rfl,B',hp',hl,hs⟩
  dsimp only
  refine xx (wpS_mono (wpS_forRange (I:=fun x c st2=>c=(none,())/\SB κ a₀ st2/\pendingOf st2=List.toArray p/\So rk (arrOf st2) 0 a₀.size)
   (Q:=fun c st2=>c=(none,())/\SB κ a₀ st2/\So rk (arrOf st2) 0 a₀.size) ?s2 ?f2 ?i2) ?p2)
  case i2=>exact⟨rfl,B',hp',hs⟩
  case f2=>
   rintro c st2 ⟨rfl,B2,hp2,hs2⟩
   exact⟨rfl,B2,hs2⟩
  case p2=>
   rintro c st2 ⟨rfl,B2,hs2⟩
   exact xF (h st2 B2 hs2)
  case s2=>
   rintro x c st2 _ hx ⟨rfl,B2,hp2,hs2⟩
   refine xx (wpS_get ?_)
   rw[hp2]
   refine zQr (fun q=>?_) fun q=>?_
   ·exact xF ⟨rfl,B2,hs2⟩
   ·exact absurd hl (by simpa using q)
 case step=>
  rintro x c st' _ hx ⟨lo,p,rfl,B',hp',q⟩
  dsimp only
  refine zQr (fun q1=>?_) fun q1=>?_
  ·rcases q with⟨rfl,rfl,q⟩|⟨rfl,q3,q4⟩
   ·exact xF ⟨[],_,rfl,B',hp',by simp,fun i j h1 h2 h3=>by nofun⟩
   ·exact xF ⟨p,_,rfl,B',hp',q3,q4⟩
  obtain⟨rfl,rfl,q⟩:lo=0/\p=[]/\x<=lo:=by
   rcases q with q|⟨rfl,_⟩
   ·exact q
   ·lia
  refine xx (w_count C hg (by nofun) (by nofun) B' fun m st2 R2 hm1 hm2 hs2=>?_)
  dsimp only
  have B2:=R2.b
  have hp2:pendingOf st2=#[]:=R2.pend.trans hp'
  refine zQr (fun q2=>?_) fun q2=>?_
  ·refine xx (wpS_lift (vP ⟨rfl,?_⟩))
   refine xx (zWc C hg (by nofun) (by nofun) B2 hs2 fun st3 R3 hs3=>?_)
   have B3:=R3.b
   have hp3:pendingOf st3=#[]:=R3.pend.trans hp2
   rw[xf (by decide)]
   refine xx (wpS_get ?_)
   rw[hp3]
   refine xx (wpS_modify (xF ⟨_,[(0,min (a₀.size-0) a₀.size,0)],rfl,⟨B3.perm,B3.kind,B3.failed⟩,?_,.inr ⟨by nofun,by simp,?_⟩⟩))
   ·show(pendingOf st3).push _=_
    rw[hp3];rfl
   ·have:0+min (a₀.size-0) a₀.size=a₀.size:=by nofun
    rw[this]at hs3
    exact hs3
  ·refine xx (wpS_get ?_)
   rw[hp2]
   refine xx (wpS_modify (xF ⟨_,[(0,m,0)],rfl,⟨B2.perm,B2.kind,B2.failed⟩,?_,.inr ⟨by nofun,by simp,?_⟩⟩))
   ·show(pendingOf st2).push _=_
    rw[hp2];rfl
   ·have:0+m=a₀.size:=by nofun
    rw[this]at hs2
    exact hs2
end
end TM
namespace EK
open PySem
open DS (D)
inductive A2 {α β:Type}(R:α->β->Prop):List α->List β->Prop where
 | nil:A2 R [] []
 | cons {a:α}{b:β}{l:List α}{m:List β}:R a b->A2 R l m->A2 R (a::l) (b::m)
theorem A2.length {α β:Type}{R:α->β->Prop}{l:List α}{m:List β}(h:A2 R l m):l.length=m.length:=by
 induction h with
 | nil=>rfl
 | cons _ _ ih=>simp[ih]
theorem A2.imp {α β:Type}{R R':α->β->Prop}{l:List α}{m:List β}(h:A2 R l m) (k:∀a b,R a b->R' a b):A2 R' l m:=by
 induction h with
 | nil=>exact .nil
 | cons h _ ih=>exact .cons (k _ _ h) ih
noncomputable def Ek (h:Heap):Nat->D->Value->Prop
 | 0,d,v=>∃i t,d=.int i/\v=.int i t
 | n+1,d,v=>∃ds a o items k,d=.tup ds/\v=.ref a/\h.get? a=some o/\o.cls=.type "tuple"/\o.data=.seq items k/\A2 (Ek h n) ds items.toList
theorem Ek.kept {h h':Heap}:∀{n:Nat}{d:D}{v:Value},Ek h n d v->(∀a o,h.get? a=some o->o.cls=.type "tuple"->h'.get? a=some o)->Ek h' n d v
 | 0,_,_,x,_=>x
 | n+1,_,_,⟨ds,a,o,items,k,e1,e2,h1,h2,h3,r⟩,kp=>⟨ds,a,o,items,k,e1,e2,kp a o h1 h2,h2,h3,r.imp fun _ _ q=>Ek.kept q kp⟩
theorem A2.inj {α β:Type}{R R':α->β->Prop}{l l':List α}{m:List β}(h:A2 R l m) (h':A2 R' l' m) (k:∀a a' b,R a b->R' a' b->a=a'):l=l':=by
 induction h generalizing l' with
 | nil=>cases h';rfl
 | cons h _ ih=>
  cases h' with
  | cons q r=>rw[k _ _ _ h q,ih r]
theorem Ek.inj {h:Heap}:∀{n:Nat}{d d':D}{v:Value},Ek h n d v->Ek h n d' v->d=d'
 | 0,_,_,_,⟨i,t,e1,e2⟩,⟨j,u,e3,e4⟩=>by subst e1 e2 e3;cases e4;rfl
 | n+1,_,_,_,⟨ds,a,o,items,k,e1,e2,h1,h2,h3,r⟩,⟨ds',a',o',items',k',e1',e2',h1',h2',h3',r'⟩=>by
  subst e1 e2 e1'
  cases e2'
  obtain rfl:o=o':=xD (h1.symm.trans h1')
  rw[h3]at h3'
  injection h3' with q _
  subst q
  rw[r.inj r' fun _ _ _ x y=>Ek.inj x y]
mutual
noncomputable def hD:D->Int
 | .int i=>hashInt i
 | .tup l=>reduceHash (Builtin.Tuple.tupleHashOf (hL l))
 | _=>0
noncomputable def hL:List D->List Int
 | []=>[]
 | d::r=>hD d::hL r
end
theorem zQd:∀(l m:List D),hL (l++m)=hL l++hL m
 | [],_=>rfl
 | d::l,m=>by simp[hL,zQd l m]
section
variable {prog:Program}{w:World}{s:Shared}
theorem Ek.typeIs {n:Nat}{d:D}{a:Addr}(h:Ek s.heap (n+1) d (.ref a)):s.TypeIs (.ref a) "tuple":=by
 obtain⟨ds,a',o,items,k,e1,e2,h1,h2,h3,r⟩:=h
 cases e2
 exact⟨o,h1,h2⟩
theorem zN2:∀(n:Nat) {d:D}{v:Value}{A:Around}{E:Value->Shared->Prop}{s:Shared}{Q:Int->Shared->Prop},Ek s.heap n d v->A.units+n<cLine->(∀tk,s.toks<=tk->Q (hD d) { s with toks:=tk })->wpAny (model prog w) A (pyHash v) Q E s
 | 0,_,_,A,E,s,Q,⟨i,t,e1,e2⟩,_,h=>by subst e1 e2;exact wpAny_pyHash_int (h _ (Nat.le_add_right _ _))
 | n+1,_,_,A,E,s,Q,hk,hu,h=>by
  have hk0:=hk
  obtain⟨ds,a,o,items,k,rfl,rfl,ho,hc,hd,r⟩:=hk
  have hT:=hk0.typeIs
  unfold pyHash
  first|unfold pyHashByItsType|skip
  first|refine xa (wpAny_cRoomFor_or (.inr (by nofun)) ?_)|skip
  refine xa (uD hT uZ.lookup ?_)
  show wpAny _ _ (if(some (Value.builtin "tuple.__hash__") == some Value.none)=true then _ else _) Q E s
  rw[xf (by rw[beq_builtin_none];exact xQ)]
  refine xa (uD hT uZ.lookup ?_)
  show wpAny _ _ (callSpecialIfBoundUnlessNone? (.ref a) "__hash__" _ >>= _) Q E s
  refine xa (wpAny_callSpecialIfBoundUnlessNone?_slot hT uZ (ve uZ hT F.entry_tuple_hash ?_ (F.args_tuple_hash_1 _)))
  show wpAny _ _ (Builtin.Tuple.tupleItemsOf (.ref a) >>= _) _ _ s
  refine xa (u0 ho hd (xa ?_))
  rw[<- uH]
  refine uh _ (fun rest (b:Array Int) s'=>∃fst left tk,ds=fst++left/\s.toks<=tk/\A2 (Ek s.heap n) left rest/\b.toList=hL fst/\s'={ s with toks:=tk }) _ ?_ ?_ _ _ ⟨[],ds,s.toks,rfl,xh _,r,rfl,rfl⟩
  ·rintro x rest b s' ⟨fst,left,tk,rfl,ht,hl,hb,rfl⟩
   cases hl with
   | @cons k' _ ks' _ h1 hl'=>
    refine xa (zN2 n (s:={ s with toks:=tk }) h1 (by show A.units+1+n<cLine;lia) fun tk2 ht2=>?_)
    exact xg ⟨fst++[k'],ks',tk2,by simp,xm ht ht2,hl',by rw[zQd];simp[hb,hL],rfl⟩
  ·rintro b s' ⟨fst,left,tk,rfl,ht,hl,hb,rfl⟩
   cases hl
   rw[vy]at h
   show wpAny _ _ (retInt (Builtin.Tuple.tupleHashOf b.toList)) _ _ _
   rw[hb]
   refine wpAny_ret_mkInt ?_
   show wpAny _ _ (if(decide (-(2:Int) ^ 63<=Builtin.Tuple.tupleHashOf (hL fst)) && decide (Builtin.Tuple.tupleHashOf (hL fst)<2 ^ 63))=true then _ else _) Q E _
   have h':=h (tk+1) (Nat.le_succ_of_le ht)
   unfold hD reduceHash at h'
   by_cases hr:(decide (-(2:Int) ^ 63<=Builtin.Tuple.tupleHashOf (hL fst)) && decide (Builtin.Tuple.tupleHashOf (hL fst)<2 ^ 63))=true
   ·rw[xc hr]
    rw[xc hr]at h'
    exact xg h'
   ·rw[xf hr]
    rw[xf hr]at h'
    exact xa (vP (xg h'))
theorem zGi:∀(n f:Nat) {d:D}{v:Value}{A:Around}{E:Value->Shared->Prop}{s:Shared}{Q:Bool->Shared->Prop},Ek s.heap n d v->n<=f->Q false s->wpAny (model prog w) A (ofAClassStatement f v) Q E s
 | 0,f,_,_,A,E,s,Q,⟨i,t,e1,e2⟩,_,h=>by subst e1 e2;exact wpAny_of_eq (show ofAClassStatement f (.int i t)=pure false by cases f <;> rfl) h
 | n+1,0,_,_,A,E,s,Q,hk,hf,h=>by nofun
 | n+1,f+1,_,_,A,E,s,Q,hk,hf,h=>by
  have hk0:=hk
  obtain⟨ds,a,o,items,k,rfl,rfl,ho,hc,hd,r⟩:=hk
  have hT:=hk0.typeIs
  unfold ofAClassStatement
  refine xa (v9 hT ?_)
  dsimp only
  rw[xc (by decide)]
  refine xa (xg ?_)
  rw[xf (by decide)]
  refine xa (wpAny_seqItems ho hd (xa ?_))
  show wpAny _ _ (forIn items _ _) _ _ s
  rw[<- uH]
  refine uh _ (fun rest r s'=>r.1=none/\s'=s/\∃l,A2 (Ek s.heap n) l rest) _ ?_ ?_ _ _ ⟨rfl,rfl,_,r⟩
  ·rintro v rest r s' ⟨hr,rfl,l,al⟩
   cases al with
   | cons q al=>
    refine xa (zGi n f q (by nofun) ?_)
    rw[xf (by decide)]
    exact xg ⟨rfl,rfl,_,al⟩
  ·rintro⟨r1,r2⟩ s' ⟨hr,rfl,_⟩
   simp only at hr
   subst hr
   exact xg h
theorem zJv:∀(n f:Nat) {d:D}{v:Value}{A:Around}{E:Value->Shared->Prop}{s:Shared}{Q:Bool->Shared->Prop},Ek s.heap n d v->n<=f->Q true s->wpAny (model prog w) A (hashByValue f v) Q E s
 | 0,f,_,_,A,E,s,Q,⟨i,t,e1,e2⟩,_,h=>by subst e1 e2;exact wpAny_of_eq (show hashByValue f (.int i t)=pure true by cases f <;> rfl) h
 | n+1,0,_,_,A,E,s,Q,hk,hf,h=>by nofun
 | n+1,f+1,_,_,A,E,s,Q,hk,hf,h=>by
  have hk0:=hk
  obtain⟨ds,a,o,items,k,rfl,rfl,ho,hc,hd,r⟩:=hk
  have hT:=hk0.typeIs
  unfold hashByValue
  refine xa (uD hT uZ.lookup ?_)
  dsimp only
  refine xa (wpAny_seqItems ho hd (xa ?_))
  show wpAny _ _ (forIn items _ _) _ _ s
  rw[<- uH]
  refine uh _ (fun rest r s'=>r.1=none/\s'=s/\∃l,A2 (Ek s.heap n) l rest) _ ?_ ?_ _ _ ⟨rfl,rfl,_,r⟩
  ·rintro v rest r s' ⟨hr,rfl,l,al⟩
   cases al with
   | cons q al=>
    refine xa (zJv n f q (by nofun) ?_)
    rw[xf (by decide)]
    exact xg ⟨rfl,rfl,_,al⟩
  ·rintro⟨r1,r2⟩ s' ⟨hr,rfl,_⟩
   simp only at hr
   subst hr
   exact xg h
theorem zGh:∀(n f:Nat) {d:D}{v:Value}{A:Around}{E:Value->Shared->Prop}{s:Shared}{Q:Bool->Shared->Prop},Ek s.heap n d v->n<=f->Q true s->wpAny (model prog w) A (eqIsQuiet f v) Q E s
 | 0,f,_,_,A,E,s,Q,⟨i,t,e1,e2⟩,_,h=>by subst e1 e2;rw[eqIsQuiet_byValue _ (by rfl)];exact xg h
 | n+1,0,_,_,A,E,s,Q,hk,hf,h=>by nofun
 | n+1,f+1,_,_,A,E,s,Q,hk,hf,h=>by
  have hk0:=hk
  obtain⟨ds,a,o,items,k,rfl,rfl,ho,hc,hd,r⟩:=hk
  have hT:=hk0.typeIs
  unfold eqIsQuiet
  refine xa (uD hT F.slot_tuple_eq.lookup ?_)
  show wpAny _ _ (isInstance (.ref a) (.type "tuple") >>= _) _ _ s
  refine xa (uF hT isSubtype_tuple_tuple ?_)
  simp only[ui,xR,xK]
  refine xa (wpAny_seqItems ho hd (xa ?_))
  show wpAny _ _ (forIn items _ _) _ _ s
  rw[<- uH]
  refine uh _ (fun rest r s'=>r.1=none/\s'=s/\∃l,A2 (Ek s.heap n) l rest) _ ?_ ?_ _ _ ⟨rfl,rfl,_,r⟩
  ·rintro v rest r s' ⟨hr,rfl,l,al⟩
   cases al with
   | cons q al=>
    refine xa (zGh n f q (by nofun) ?_)
    simp only[ui,xR,xK]
    exact xg ⟨rfl,rfl,_,al⟩
  ·rintro⟨r1,r2⟩ s' ⟨hr,rfl,_⟩
   simp only at hr
   subst hr
   exact xg h
open Classical in
theorem zPg:∀(n:Nat) {d d':D}{v v':Value}{A:Around}{E:Value->Shared->Prop}{s:Shared}{Q:Bool->Shared->Prop},Ek s.heap n d v->Ek s.heap n d' v'->A.units+n<cLine->Q (decide (d=d')) s->wpAny (model prog w) A (eqBool v v') Q E s
 | 0,_,_,_,_,A,E,s,Q,⟨i,t,e1,e2⟩,⟨j,u,e3,e4⟩,_,h=>by
  subst e1 e2 e3 e4
  refine wpAny_eqBool_int ?_
  have:(i == j)=decide (D.int i=D.int j):=by
   by_cases q:i=j
   ·subst q;simp
   ·rw[xj (fun z=>q (by cases z;rfl))];simpa using q
  rw[this];exact h
 | n+1,_,_,_,_,A,E,s,Q,hx,hy,hu,h=>by
  have hx0:=hx
  have hy0:=hy
  obtain⟨ds,a,oa,xs,ka,rfl,rfl,hoa,hca,hda,ra⟩:=hx
  obtain⟨es,b,ob,ys,kb,rfl,rfl,hob,hcb,hdb,rb⟩:=hy
  unfold eqBool
  try with_reducible refine xG ?_
  show wpAny _ _ (if(Value.ref a == Value.ref b)=true then _ else _) Q E s
  by_cases hab:(Value.ref a == Value.ref b)=true
  ·rw[xc hab]
   have e:a=b:=by have:=eq_of_beq hab;injection this
   subst e
   have e2:=hx0.inj hy0
   rw[xq e2]at h
   exact xa (vP (xg h))
  ·rw[xf hab]
   suffices hc:wpAny (model prog w) A (call (.builtin "tuple.__eq__") [.ref a,.ref b]) (fun v s'=>v=.bool (decide (D.tup ds=D.tup es))/\s'=s) E s from
    xa (wpAny_richCompare_same_room (op:=.Eq) hx0.typeIs hy0.typeIs F.slot_tuple_eq (x8 hc (fun v s' q=>by
     obtain⟨rfl,rfl⟩:=q
     exact⟨(fun e=>nomatch e),v7 h⟩) fun _ _ x=>x) (by nofun))
   refine ve F.slot_tuple_eq hx0.typeIs F.entry_tuple_eq ?_ (F.args_tuple_eq_2 _ _)
   have fin:∀c:Bool,c=decide (D.tup ds=D.tup es)->∃v,(PySem.Fin.done (.ret (.bool c)):PySem.Fin)=.done (.ret v)/\v=.bool (decide (D.tup ds=D.tup es))/\s=s:=fun c hc=>⟨_,rfl,by rw[hc],rfl⟩
   show wpAny _ _ (isInstance (.ref b) (.type "tuple") >>= _) _ _ s
   refine xa (uF hy0.typeIs isSubtype_tuple_tuple ?_)
   simp only[ui,xR,xK]
   refine xa (u0 hoa hda (xa (u0 hob hdb (xa ?_))))
   refine uh _ (fun rest r s'=>r.1=none/\s'=s/\∃(x' y':List D) (xs' ys':List Value),rest=List.zip xs' ys'/\A2 (Ek s.heap n) x' xs'/\A2 (Ek s.heap n) y' ys'/\(x'=y' <-> ds=es)/\(xs'.length == ys'.length)=(xs.size == ys.size)) _ ?_ ?_ _ _ ⟨rfl,rfl,ds,es,xs.toList,ys.toList,rfl,ra,rb,Iff.rfl,by simp⟩
   ·rintro⟨u,v⟩ rest r s' ⟨hr,rfl,x',y',xs',ys',hz,hx',hy',hdec,hlen⟩
    cases hx' with
    | nil=>simp at hz
    | @cons k1 u' x'' xs'' h1 hx''=>
     cases hy' with
     | nil=>simp at hz
     | @cons k2 v' y'' ys'' h2 hy''=>
      simp only[uc,List.cons.injEq,Prod.mk.injEq]at hz
      obtain⟨⟨rfl,rfl⟩,rfl⟩:=hz
      refine xa (zPg n h1 h2 (by show A.units+1+n<cLine;lia) ?_)
      by_cases hk:k1=k2
      ·subst hk
       rw[xq rfl]
       simp only[ui,xR,xK]
       refine xg ⟨rfl,rfl,x'',y'',xs'',ys'',rfl,hx'',hy'',?_,by simpa using hlen⟩
       rw[<- hdec];simp
      ·rw[xj hk]
       simp only[Bool.not_false,xw]
       have hf:¬ ds=es:=fun z=>hk (by have:=hdec.mpr z;cases this;rfl)
       exact xa (xg (xg (xg (fin false (by rw[xj];intro z;cases z;exact hf rfl)))))
   ·rintro⟨r1,r2⟩ s' ⟨hr,rfl,x',y',xs',ys',hz,hx',hy',hdec,hlen⟩
    simp only at hr
    subst hr
    refine xg ?_
    have hfin:(xs.size == ys.size)=decide (D.tup ds=D.tup es):=by
     have e3:decide (D.tup ds=D.tup es)=decide (x'=y'):=xS.mpr (by rw[D.tup.injEq];exact hdec.symm)
     rw[e3,<- hlen]
     cases hx' with
     | nil=>
      cases hy' with
      | nil=>simp
      | cons _ _=>simp
     | cons _ _=>
      cases hy' with
      | nil=>simp
      | cons _ _=>simp at hz
    exact fin _ hfin
end
end EK
namespace DS
open PySem (Str)
noncomputable section
open Classical
mutual
noncomputable def blt:D->D->Bool
 | .int a,.int b=>decide (a<b)
 | .tup l,.tup m=>bltL l m
 | _,_=>false
noncomputable def bltL:List D->List D->Bool
 | [],[]=>false
 | [],_::_=>true
 | _::_,[]=>false
 | a::r,b::t=>if a=b then bltL r t else blt a b
end
noncomputable def lv:Nat->D->Prop
 | 0,d=>∃i,d=.int i
 | n+1,d=>∃l,d=.tup l/\∀x∈l,lv n x
theorem zBm (a b:D) (r t:List D):bltL (a::r) (b::t)=if a=b then bltL r t else blt a b:=by rw[bltL]
theorem zK2:∀(l:List D),bltL l l=false
 | []=>by rw[bltL]
 | a::r=>by rw[zBm,xc rfl];exact zK2 r
theorem zIt {n:Nat}{d:D}(h:lv n d):blt d d=false:=by
 cases n with
 | zero=>obtain⟨i,rfl⟩:=h;rw[blt];simp
 | succ n=>obtain⟨l,rfl,_⟩:=h;rw[blt];exact zK2 l
theorem zIs:∀(n:Nat) {a b:D},lv n a->lv n b->a≠b->blt a b=true\/blt b a=true
 | 0,_,_,⟨i,e⟩,⟨j,e'⟩,h=>by
  subst e e'
  rw[blt,blt]
  have:i≠j:=fun z=>h (by rw[z])
  simp only[decide_eq_true_eq]
  lia
 | n+1,_,_,⟨l,e,hl⟩,⟨m,e',hm⟩,h=>by
  subst e e'
  rw[blt,blt]
  have hlm:l≠m:=fun z=>h (by rw[z])
  clear h
  induction l generalizing m with
  | nil=>
   cases m with
   | nil=>exact absurd rfl hlm
   | cons b t=>left;rw[bltL]
  | cons a r ih=>
   cases m with
   | nil=>right;rw[bltL]
   | cons b t=>
    rw[zBm,zBm]
    by_cases q:a=b
    ·subst q
     rw[xc rfl,xc rfl]
     exact ih (fun x hx=>hl x (.tail _ hx)) t (fun x hx=>hm x (.tail _ hx)) fun z=>hlm (by rw[z])
    ·rw[xf q,xf (xB q)]
     exact zIs n (hl a (.head _)) (hm b (.head _)) q
theorem zK1:∀(n:Nat) {a b c:D},lv n a->lv n b->lv n c->blt a b=true->blt b c=true->blt a c=true
 | 0,_,_,_,⟨i,e⟩,⟨j,e'⟩,⟨k,e''⟩,h,h'=>by
  subst e e' e''
  rw[blt]at h h' ⊢
  simp only[decide_eq_true_eq]at *
  lia
 | n+1,_,_,_,⟨l,e,hl⟩,⟨m,e',hm⟩,⟨k,e'',hk⟩,h,h'=>by
  subst e e' e''
  rw[blt]at h h' ⊢
  induction l generalizing m k with
  | nil=>
   cases k with
   | nil=>cases m with
    | nil=>exact h
    | cons b t=>rw[bltL]at h';cases h'
   | cons c u=>rw[bltL]
  | cons a r ih=>
   cases m with
   | nil=>rw[bltL]at h;cases h
   | cons b t=>
    cases k with
    | nil=>rw[bltL]at h';cases h'
    | cons c u=>
     rw[zBm]at h h' ⊢
     by_cases q:a=b
     ·subst q
      rw[xc rfl]at h
      by_cases q2:a=c
      ·subst q2
       rw[xc rfl]at h' ⊢
       exact ih (fun x hx=>hl x (.tail _ hx)) t (fun x hx=>hm x (.tail _ hx)) u (fun x hx=>hk x (.tail _ hx)) h h'
      ·rw[xf q2]at h' ⊢;exact h'
     ·rw[xf q]at h
      by_cases q2:b=c
      ·subst q2;rw[xf q];exact h
      ·rw[xf q2]at h'
       have t1:=zK1 n (hl a (.head _)) (hm b (.head _)) (hk c (.head _)) h h'
       rw[xf (fun z=>by subst z;rw[zIt (hl _ (.head _))]at t1;cases t1)]
       exact t1
theorem zTk {n:Nat}{a b:D}(ha:lv n a) (hb:lv n b) (h:blt a b=true):blt b a=false:=by
 cases e:blt b a with
 | false=>rfl
 | true=>have:=zK1 n ha hb ha h e;rw[zIt ha]at this;cases this
noncomputable def dle (a b:D):Prop:=blt b a=false
theorem zQi {n:Nat}{a b c:D}(ha:lv n a) (hb:lv n b) (hc:lv n c) (h:dle a b) (h':dle b c):dle a c:=by
 unfold dle at *
 cases e:blt c a with
 | false=>rfl
 | true=>
  by_cases q:a=b
  ·subst q;rw[h']at e;cases e
  ·rcases zIs n ha hb q with z|z
   ·have:=zK1 n hc ha hb e z;rw[h']at this;cases this
   ·rw[h]at z;cases z
theorem zPj {n:Nat}{a b:D}(ha:lv n a) (hb:lv n b) (h:dle a b) (h':dle b a):a=b:=by
 apply vC
 intro q
 rcases zIs n ha hb q with z|z
 ·rw[show blt a b=false from h']at z;cases z
 ·rw[show blt b a=false from h]at z;cases z
noncomputable def ins (x:D):List D->List D
 | []=>[x]
 | y::l=>if blt y x=true then y::ins x l else x::y::l
noncomputable def srt:List D->List D
 | []=>[]
 | x::l=>ins x (srt l)
theorem ins_perm (x:D):∀l,(ins x l).Perm (x::l)
 | []=>.refl _
 | y::l=>by
  unfold ins
  split
  ·exact((ins_perm x l).cons y).trans (List.Perm.swap ..)
  ·exact .refl _
theorem zB3:∀l,(srt l).Perm l
 | []=>.refl _
 | x::l=>(ins_perm x _).trans ((zB3 l).cons x)
noncomputable abbrev Up (l:List D):Prop:=l.Pairwise dle
theorem ins_up {n:Nat}{x:D}:∀{l:List D},lv n x->(∀y∈l,lv n y)->Up l->Up (ins x l)
 | [],_,_,_=>List.pairwise_singleton _ _
 | y::l,hx,hl,h=>by
  have h':=vB.mp h
  unfold ins
  split
  ·rename_i q
   refine vB.mpr ⟨fun z hz=>?_,ins_up hx (fun z hz=>hl z (.tail _ hz)) h'.2⟩
   rcases xk.mp ((ins_perm x l).mem_iff.mp hz)with rfl|hz
   ·exact zTk (hl y (.head _)) hx q
   ·exact h'.1 z hz
  ·rename_i q
   refine vB.mpr ⟨fun z hz=>?_,h⟩
   rcases xk.mp hz with rfl|hz
   ·exact uT.mpr q
   ·exact zQi hx (hl y (.head _)) (hl z (.tail _ hz)) (uT.mpr q) (h'.1 z hz)
theorem zGx {n:Nat}:∀{l:List D},(∀y∈l,lv n y)->Up (srt l)
 | [],_=>.nil
 | x::l,h=>ins_up (h x (.head _)) (fun y hy=>h y (.tail _ ((zB3 l).mem_iff.mp hy))) (zGx fun y hy=>h y (.tail _ hy))
theorem up_eq {n:Nat}:∀{l m:List D},(∀y∈l,lv n y)->l.Perm m->Up l->Up m->l=m
 | [],m,_,p,_,_=>by rw[List.nil_perm.mp p]
 | a::l,[],_,p,_,_=>by have:=p.length_eq;simp at this
 | a::l,b::m,hv,p,h,h'=>by
  have ha:=vB.mp h
  have hb:=vB.mp h'
  have e:a=b:=by
   by_cases z:a=b
   ·exact z
   ·have m1:b∈l:=by
     rcases xk.mp (p.mem_iff.mpr (xM (a:=b) (l:=m)))with q|q
     ·exact absurd q.symm z
     ·exact q
    have m2:a∈m:=by
     rcases xk.mp (p.mem_iff.mp (xM (a:=a) (l:=l)))with q|q
     ·exact absurd q z
     ·exact q
    exact zPj (hv a (.head _)) (hv b (.tail _ m1)) (ha.1 b m1) (hb.1 a m2)
  subst e
  rw[up_eq (fun y hy=>hv y (.tail _ hy)) (List.Perm.cons_inv p) ha.2 hb.2]
theorem zJ0 {n:Nat}{l m:List D}(hv:∀y∈l,lv n y) (p:l.Perm m) (h:Up l):l=srt m:=up_eq hv (p.trans (zB3 m).symm) h (zGx fun y hy=>hv y (p.mem_iff.mpr hy))
noncomputable def rkD (l:List D) (d:D):Nat:=(l.filter fun e=>blt e d).length
theorem zT5 {p q:D->Bool}:∀(l:List D),(∀x∈l,p x=true->q x=true)->(l.filter p).length<=(l.filter q).length
 | [],_=>xh _
 | x::l,h=>by
  have ih:=zT5 l fun y hy=>h y (.tail _ hy)
  by_cases c:p x=true
  ·rw[uj c,uj (h x (.head _) c)];simpa using ih
  ·rw[u1 c]
   by_cases c2:q x=true
   ·rw[uj c2,xH];lia
   ·rw[u1 c2];exact ih
theorem zVp {p q:D->Bool}{y:D}(hy:p y=false) (hy':q y=true):∀(l:List D),y∈l->(∀x∈l,p x=true->q x=true)->(l.filter p).length<(l.filter q).length
 | x::l,hm,h=>by
  rcases xk.mp hm with e|hm
  ·subst e
   rw[u1 (by rw[hy];decide),uj hy',xH]
   have:=zT5 l fun z hz=>h z (.tail _ hz)
   lia
  ·have ih:=zVp hy hy' l hm fun z hz=>h z (.tail _ hz)
   by_cases c:p x=true
   ·rw[uj c,uj (h x (.head _) c)];simpa using ih
   ·rw[u1 c]
    by_cases c2:q x=true
    ·rw[uj c2,xH];lia
    ·rw[u1 c2];exact ih
theorem zRg {n:Nat}{l:List D}{a b:D}(hl:∀x∈l,lv n x) (ha:a∈l) (hb:b∈l):decide (rkD l a<rkD l b)=blt a b:=by
 cases e:blt a b with
 | true=>exact xq (zVp (p:=fun e=>blt e a) (q:=fun e=>blt e b) (zIt (hl a ha)) e l ha fun x hx q=>zK1 n (hl x hx) (hl a ha) (hl b hb) q e)
 | false=>
  refine xj (Nat.not_lt.mpr (zT5 l fun x hx q=>?_))
  cases e2:blt x a with
  | true=>rfl
  | false=>exact absurd q (by rw[show blt x b=false from zQi (hl b hb) (hl a ha) (hl x hx) e e2];decide)
noncomputable def dedup:List D->List D
 | []=>[]
 | x::l=>if x∈l then dedup l else x::dedup l
theorem mem_dedup {x:D}:∀{l:List D},x∈dedup l <-> x∈l
 | []=>Iff.rfl
 | y::l=>by
  unfold dedup
  split
  ·rename_i h
   rw[mem_dedup]
   constructor
   ·exact fun q=>.tail _ q
   ·intro q
    rcases xk.mp q with rfl|q
    ·exact h
    ·exact q
  ·rw[xk,xk,mem_dedup]
theorem zDn:∀{l:List D},(dedup l).Nodup
 | []=>.nil
 | y::l=>by
  unfold dedup
  split
  ·exact zDn
  ·rename_i h
   exact xU.mpr ⟨fun q=>h (mem_dedup.mp q),zDn⟩
theorem zSe {l m:List D}(h:l.Nodup) (h':m.Nodup) (e:∀x,x∈l <-> x∈m):l.Perm m:=by
 induction l generalizing m with
 | nil=>
  cases m with
  | nil=>exact .refl _
  | cons b t=>exact absurd ((e b).mpr (.head _)) (by simp)
 | cons a l ih=>
  have ha:a∈m:=(e a).mp (.head _)
  obtain⟨u,v,rfl⟩:=List.append_of_mem ha
  have hn:=xU.mp h
  have h2:(a::(u++v)).Nodup:=(uV.nodup_iff).mp h'
  have hm:=xU.mp h2
  refine(List.Perm.cons a (ih hn.2 hm.2 fun x=>?_)).trans uV.symm
  constructor
  ·intro hx
   have:=(e x).mp (.tail _ hx)
   rcases xk.mp ((uV (a:=a) (l₁:=u) (l₂:=v)).mem_iff.mp this)with rfl|q
   ·exact absurd hx hn.1
   ·exact q
  ·intro hx
   have:x∈a::l:=(e x).mpr ((uV (a:=a) (l₁:=u) (l₂:=v)).mem_iff.mpr (.tail _ hx))
   rcases xk.mp this with rfl|q
   ·exact absurd hx hm.1
   ·exact q
end
end DS
namespace EK
open PySem PyProof.Rows PySem.W
open DS (D blt bltL zBm)
open Classical
section
variable {prog:Program}{w:World}
theorem zFn {n:Nat}(ih:∀{d d':D}{v v':Value}{A:Around}{E:Value->Shared->Prop}{s:Shared}{Q:Value->Shared->Prop},Ek s.heap n d v->Ek s.heap n d' v'->A.units+n<cLine->Q (.bool (blt d d')) s->wpAny (model prog w) A (richCompare .Lt v v') Q E s)
  {d d':D}{a b:Addr}{A:Around}{E:Value->Shared->Prop}{s:Shared}{Q:Value->Shared->Prop}(hx:Ek s.heap (n+1) d (.ref a)) (hy:Ek s.heap (n+1) d' (.ref b)) (hu:A.units+(n+1)<cLine) (h:Q (.bool (blt d d')) s):wpAny (model prog w) A (call (.builtin "tuple.__lt__") [.ref a,.ref b]) Q E s:=by
 have hx0:=hx
 have hy0:=hy
 obtain⟨ds,a',oa,xs,ka,rfl,ea,hoa,hca,hda,ra⟩:=hx
 cases ea
 obtain⟨es,b',ob,ys,kb,rfl,eb,hob,hcb,hdb,rb⟩:=hy
 cases eb
 refine ve PySem.F.slot_tuple_lt hx0.typeIs PySem.F.entry_tuple_lt ?_ (PySem.F.args_tuple_lt_2 _ _)
 rw[blt]at h
 show wpAny _ _ (isInstance (.ref b) (.type "tuple") >>= _) _ _ s
 refine xa (uF hy0.typeIs isSubtype_tuple_tuple ?_)
 simp only[ui,xR,xK]
 refine xa (u0 hoa hda (xa (u0 hob hdb (xa ?_))))
 refine uh _ (fun rest r s'=>r.1=none/\s'=s/\∃(x' y':List D) (xs' ys':List Value),rest=List.zip xs' ys'/\A2 (Ek s.heap n) x' xs'/\A2 (Ek s.heap n) y' ys'/\bltL x' y'=bltL ds es/\decide (xs'.length<ys'.length)=decide (xs.size<ys.size)) _ ?_ ?_ _ _ ⟨rfl,rfl,ds,es,xs.toList,ys.toList,rfl,ra,rb,rfl,by simp⟩
 ·rintro⟨u,v⟩ rest r s' ⟨hr,rfl,x',y',xs',ys',hz,hx',hy',hdec,hlen⟩
  cases hx' with
  | nil=>simp at hz
  | @cons k1 u' x'' xs'' h1 hx''=>
   cases hy' with
   | nil=>simp at hz
   | @cons k2 v' y'' ys'' h2 hy''=>
    simp only[uc,List.cons.injEq,Prod.mk.injEq]at hz
    obtain⟨⟨rfl,rfl⟩,rfl⟩:=hz
    refine xa (zPg n h1 h2 (by show A.units+1+n<cLine;lia) ?_)
    rw[zBm]at hdec
    by_cases hk:k1=k2
    ·subst hk
     rw[xc rfl]at hdec
     rw[xq rfl]
     simp only[ui,xR,xK]
     exact xg ⟨rfl,rfl,x'',y'',xs'',ys'',rfl,hx'',hy'',hdec,by simpa using hlen⟩
    ·rw[xf hk]at hdec
     rw[xj hk]
     simp only[Bool.not_false,xw]
     refine xa (vP (xa (ih h1 h2 (by show A.units+1+n<cLine;lia) ?_)))
     refine xa (xg (xg (xg ⟨_,rfl,?_⟩)))
     rw[hdec];exact h
 ·rintro⟨r1,r2⟩ s' ⟨hr,rfl,x',y',xs',ys',hz,hx',hy',hdec,hlen⟩
  simp only at hr
  subst hr
  have hfin:bltL ds es=decide (xs.size<ys.size):=by
   rw[<- hdec,<- hlen]
   cases hx' with
   | nil=>
    cases hy' with
    | nil=>rw[bltL];rfl
    | cons _ _=>rw[bltL];simp
   | cons _ _=>
    cases hy' with
    | nil=>rw[bltL];simp
    | cons _ _=>simp at hz
  rw[hfin]at h
  exact xg ⟨_,rfl,h⟩
theorem zPf:∀(n:Nat) {d d':D}{v v':Value}{A:Around}{E:Value->Shared->Prop}{s:Shared}{Q:Value->Shared->Prop},Ek s.heap n d v->Ek s.heap n d' v'->A.units+n<cLine->Q (.bool (blt d d')) s->wpAny (model prog w) A (richCompare .Lt v v') Q E s
 | 0,_,_,_,_,A,E,s,Q,⟨i,t,e1,e2⟩,⟨j,u,e3,e4⟩,_,h=>by
  subst e1 e2 e3 e4
  rw[blt]at h
  exact(lt_int h:wpAny (model prog w) A (compareOp .Lt (.int i t) (.int j u)) Q E s)
 | n+1,_,_,_,_,A,E,s,Q,hx,hy,hu,h=>by
  have hx0:=hx
  have hy0:=hy
  obtain⟨ds,a,oa,xs,ka,rfl,rfl,hoa,hca,hda,ra⟩:=hx
  obtain⟨es,b,ob,ys,kb,rfl,rfl,hob,hcb,hdb,rb⟩:=hy
  exact wpAny_richCompare_same_room (op:=.Lt) hx0.typeIs hy0.typeIs PySem.F.slot_tuple_lt (zFn (fun {d d' v v' A E s Q}=>zPf n) hx0 hy0 hu ⟨(fun e=>nomatch e),h⟩) (by nofun)
theorem zMd (n:Nat) {d d':D}{v v':Value}{A:Around}{E:Value->Shared->Prop}{s:Shared}{Q:Bool->Shared->Prop}(hx:Ek s.heap n d v) (hy:Ek s.heap n d' v') (hu:A.units+n<cLine) (h:Q (blt d d') s) (b:Bool):wpAny (model prog w) A (oneLt' b v v') Q E s:=by
 rw[oneLt'_eq]
 cases b with
 | false=>
  simp only[xR,xK]
  exact xa (zPf n hx hy hu (v7 h))
 | true=>
  simp only[xw]
  refine xa (wpAny_cRoomFor_or (.inr (by nofun)) ?_)
  cases n with
  | zero=>
   obtain⟨i,t,rfl,rfl⟩:=hx
   obtain⟨j,u,rfl,rfl⟩:=hy
   rw[blt]at h
   exact xa (wpAny_callSpecialIfBound?_slot (typeIs_int s i t) slot_int_lt (call_int_lt (v7 h)))
  | succ n=>
   have hx0:=hx
   have hy0:=hy
   obtain⟨ds,a,oa,xs,ka,rfl,rfl,hoa,hca,hda,ra⟩:=hx
   obtain⟨es,b,ob,ys,kb,rfl,rfl,hob,hcb,hdb,rb⟩:=hy
   exact xa (wpAny_callSpecialIfBound?_slot hx0.typeIs PySem.F.slot_tuple_lt (zFn (fun {d d' v v' A E s Q}=>zPf n) hx0 hy0 hu (v7 h)))
theorem zQa {n:Nat}{A:Around}{b:Bool}{s:Shared}{Q:Bool->Shared->Prop}(hu:A.units+n<cLine) {fin:Bool}:∀{ds es:List D}{xs ys:List Value}(i:Nat),A2 (Ek s.heap n) ds xs->A2 (Ek s.heap n) es ys->fin=decide (ds.length<es.length)->Q (bltL ds es) s->KatLex prog w A b fin Q (xs.zip ys) i s
 | _,_,_,_,i,.nil,.nil,hf,h=>by rw[bltL]at h;rw[hf];exact h
 | _,_,_,_,i,.nil,.cons _ _,hf,h=>by rw[bltL]at h;rw[List.zip_nil_left,hf];exact kat_nil (by simpa using h)
 | _,_,_,_,i,.cons _ _,.nil,hf,h=>by rw[bltL]at h;rw[List.zip_nil_right,hf];exact kat_nil (by simpa using h)
 | _,_,_,_,i,.cons (a:=d) h1 r1,.cons (a:=e) h2 r2,hf,h=>by
  rw[zBm]at h
  rw[uc]
  refine kat_cons (zPg n h1 h2 hu ?_)
  by_cases q:d=e
  ·rw[xc q]at h
   rw[xq q]
   exact kat_yes (zQa hu (i+1) r1 r2 (by rw[hf];simp) h)
  ·rw[xf q]at h
   rw[xj q]
   exact kat_no (zMd n h1 h2 hu h _)
inductive Kd:SortKind->Nat->Prop where
 | gen {n:Nat}:Kd general' n
 | one {n:Nat}:Kd oneType' n
 | tup {n:Nat}{b:Bool}:Kd (tuples' b) (n+1)
theorem zVg {κ:SortKind}{n:Nat}(hκ:Kd κ n) {d d':D}{v v':Value}{A:Around}{E:Value->Shared->Prop}{s:Shared}{Q:Bool->Shared->Prop}(hx:Ek s.heap n d v) (hy:Ek s.heap n d' v') (hu:A.units+n<cLine) (h:Q (blt d d') s):wpAny (model prog w) A (keyLt' κ v v') Q E s:=by
 cases hκ with
 | gen=>exact(zMd n hx hy hu h false:wpAny (model prog w) A (oneLt' false v v') Q E s)
 | one=>rw[keyLt'_oneType];exact zMd n hx hy hu h true
 | @tup n b=>
  obtain⟨ds,a,oa,xs,ka,rfl,rfl,hoa,hca,hda,ra⟩:=hx
  obtain⟨es,c,ob,ys,kb,rfl,rfl,hob,hcb,hdb,rb⟩:=hy
  rw[blt]at h
  exact kat_lt hoa hda hob hdb (zQa (by nofun) 0 ra rb (by rw[ra.length,rb.length];simp) h)
end
end EK
namespace EK
open PySem PyProof.Rows PySem.W TM
open DS (D blt bltL lv srt rkD zRg zJ0 Up dle)
open Classical
theorem Ek.lv {h:Heap}:∀{n:Nat}{d:D}{v:Value},Ek h n d v->lv n d
 | 0,_,_,⟨i,t,e1,e2⟩=>⟨i,e1⟩
 | n+1,_,_,⟨ds,a,o,items,k,e1,e2,h1,h2,h3,r⟩=>⟨ds,e1,by
  clear e1 h3
  generalize items.toList=vs at r
  induction r with
  | nil=>intro x hx;cases hx
  | cons q _ ih=>
   intro x hx
   rcases xk.mp hx with rfl|hx
   ·exact Ek.lv q
   ·exact ih x hx⟩
section
variable {prog:Program}{w:World}{A:Around}{E:Value->Shared->Prop}{s:Shared}{n:Nat}{ds:List D}{vs:List Value}
noncomputable def ekTy:Nat->Value
 | 0=>.type "int"
 | _+1=>.type "tuple"
theorem zG8 {M:Model}{d:D}{v:Value}(h:Ek s.heap n d v):Looks M s.heap (typeOf v) (ekTy n):=by
 cases n with
 | zero=>obtain⟨i,t,rfl,rfl⟩:=h;exact .now
 | succ n=>
  obtain⟨ds,a,o,items,k,rfl,rfl,ho,hc,hd,r⟩:=h
  have:Looks M s.heap (typeOf (.ref a)) o.cls:=(Looks.ld ho).andThen .now
  rw[hc]at this;exact this
theorem A2.mem_r {α β:Type}{R:α->β->Prop}{l:List α}{m:List β}(h:A2 R l m):∀b∈m,∃a∈l,R a b:=by
 induction h with
 | nil=>intro b hb;cases hb
 | cons q _ ih=>
  intro b hb
  rcases xk.mp hb with rfl|hb
  ·exact⟨_,.head _,q⟩
  ·obtain⟨a,ha,r⟩:=ih b hb;exact⟨a,.tail _ ha,r⟩
theorem A2.mem_l {α β:Type}{R:α->β->Prop}{l:List α}{m:List β}(h:A2 R l m):∀a∈l,∃b∈m,R a b:=by
 induction h with
 | nil=>intro b hb;cases hb
 | cons q _ ih=>
  intro b hb
  rcases xk.mp hb with rfl|hb
  ·exact⟨_,.head _,q⟩
  ·obtain⟨a,ha,r⟩:=ih b hb;exact⟨a,.tail _ ha,r⟩
theorem zQ7 {M:Model}{vs:List Value}{T:Value}{Q:Option Value->Shared->Prop}(hT:∀v∈vs,Looks M s.heap (typeOf v) T) (h:∀r,Q r s):wpAny M A (oneTypeOnly' vs.toArray) Q E s:=by
 rw[oneTypeOnly'_eq,List.mapM_toArray,map_eq_pure_bind]
 refine xa (xa (kas_mapM (r:=T) _ (fun v hv Q' hq=>(hT v hv).here hq) (xg ?_)))
 split
 ·exact xg (h _)
 ·exact xg (h _)
theorem firsts {M:Model}:∀{ds:List D}{vs:List Value}{Q:List (Option Value)->Shared->Prop},A2 (Ek s.heap n) ds vs->(∀fs:List (Option Value),fs.length=vs.length->(n=0->∀f∈fs,f=none)->(∀f∈fs,∀v,f=some v->∃m d,n=m+1/\Ek s.heap m d v)->Q fs s)->wpAny M A (vs.mapM firstOfTuple') Q E s
 | _,_,Q,.nil,h=>by rw[List.mapM_nil];exact xg (h [] rfl (fun _ f hf=>nomatch hf) fun f hf=>nomatch hf)
 | _,_,Q,.cons (b:=v) (m:=vs) q r,h=>by
  rw[List.mapM_cons]
  refine xa ?_
  have go:∀f:Option Value,(n=0->f=none)->(∀v,f=some v->∃m d,n=m+1/\Ek s.heap m d v)->wpAny M A (vs.mapM firstOfTuple' >>= fun bs=>pure (f::bs)) Q E s:=fun f h0 h1=>
   xa (firsts (Q:=fun bs s'=>wpAny M A (pure (f::bs)) Q E s') r fun fs hl hz hs=>xg (h (f::fs) (by simp[hl]) (fun z g hg=>by
    rcases xk.mp hg with rfl|hg
    ·exact h0 z
    ·exact hz z g hg) fun g hg=>by
    rcases xk.mp hg with rfl|hg
    ·exact h1
    ·exact hs g hg))
  have lk:=zG8 (M:=M) q
  rw[kas_first_eq]
  cases n with
  | zero=>
   obtain⟨i,t,rfl,rfl⟩:=q
   refine xa (Looks.here (show Looks M s.heap (typeOf (.int i t)) (.type "int")from .now) ?_)
   rw[xc (by decide)]
   exact xg (go none (fun _=>rfl) fun v e=>nomatch e)
  | succ n=>
   obtain⟨ds,a,o,items,k,rfl,rfl,ho,hc,hd,r'⟩:=q
   refine xa (lk.here ?_)
   rw[show ekTy (n+1)=.type "tuple" from rfl,xf (by decide)]
   refine xa (listItems_at ho hd (xg (go _ (fun z=>nomatch z) fun v e=>?_)))
   obtain⟨d,hd',rr⟩:=r'.mem_r v (by obtain⟨z,e⟩:=vm.mp e;rw[<- e];simp)
   exact⟨n,d,rfl,rr⟩
theorem zSr {Q:SortKind->Shared->Prop}(h:A2 (Ek s.heap n) ds vs) (hne:vs≠[]) (hQ:∀κ,Kd κ n->Q κ s):wpAny (model prog w) A (keyKind' vs.toArray) Q E s:=by
 rw[kat_kind_eq,List.mapM_toArray,map_eq_pure_bind]
 refine xa (xa (firsts h fun fs hl hz hs=>xg ?_))
 by_cases q:(fs.toArray.all fun x=>x.isSome)=true
 ·rw[xc q]
  have hn:∃m,n=m+1:=by
   cases n with
   | succ m=>exact⟨m,rfl⟩
   | zero=>
    exfalso
    match fs,hl with
    | [],hl=>exact hne (List.length_eq_zero_iff.mp hl.symm)
    | f::fs,hl=>
     have:f=none:=hz rfl f (.head _)
     subst this
     simp at q
  obtain⟨m,rfl⟩:=hn
  refine xa (vP ?_)
  have e:fs.toArray.filterMap id=(fs.filterMap id).toArray:=by simp
  rw[e]
  refine xa (zQ7 (T:=ekTy m) (fun v hv=>?_) fun r=>xg (hQ _ .tup))
  obtain⟨f,hf,e2⟩:=uq.mp hv
  obtain⟨m',d,e3,hk⟩:=hs f hf v e2
  cases e3
  exact zG8 hk
 ·rw[xf q]
  split
  ·exact xg (hQ _ .gen)
  ·refine xa (zQ7 (T:=ekTy n) (fun v hv=>?_) fun r=>?_)
   ·obtain⟨d,_,hk⟩:=h.mem_r v hv
    exact zG8 hk
   ·split
    ·exact xg (hQ _ .one)
    ·exact xg (hQ _ .gen)
noncomputable def kd (h:Heap) (n:Nat) (v:Value):D:=if z:∃d,Ek h n d v then choose z else .non
theorem zIg {h:Heap}{d:D}{v:Value}(q:Ek h n d v):kd h n v=d:=by
 have z:∃d,Ek h n d v:=⟨d,q⟩
 unfold kd
 rw[dif_pos z]
 exact(choose_spec z).inj q
theorem zVh {h:Heap}(r:A2 (Ek h n) ds vs):vs.map (kd h n)=ds:=by
 induction r with
 | nil=>rfl
 | cons q _ ih=>rw[xr,zIg q,ih]
theorem zXd {h:Heap}{vs:List Value}(al:∀v∈vs,∃d,Ek h n d v):A2 (Ek h n) (vs.map (kd h n)) vs:=by
 induction vs with
 | nil=>exact .nil
 | cons v vs ih=>
  obtain⟨d,q⟩:=al v (.head _)
  exact .cons (by rw[zIg q];exact q) (ih fun u hu=>al u (.tail _ hu))
theorem zIx:∀(l:List Value),l.zip l=l.map fun v=>(v,v)
 | []=>rfl
 | x::l=>by rw[uc,zIx l];rfl
theorem zO3 {κ:SortKind}(hκ:Kd κ n) (hz:vs.length<=63) (h:A2 (Ek s.heap n) ds vs) (hu:A.units+n<cLine) {Q:SortSt->Shared->Prop}
  (hQ:∀(st:SortSt) (vs':List Value),vs'.Perm vs->A2 (Ek s.heap n) (srt ds) vs'->failedOf st=none->(arrOf st).map (·.2)=vs'.toArray->Q st s):
  wpAny (model prog w) A ((sortRuns').run (SortSt.mk' κ (vs.toArray.zip vs.toArray) #[] 7 none)) (fun r s'=>Q r.2 s') E s:=by
 have za:(vs.toArray.zip vs.toArray).toList=vs.map fun v=>(v,v):=by
  rw[Array.toList_zip]
  exact zIx vs
 have mem:∀x∈vs.toArray.zip vs.toArray,∃v∈vs,x=(v,v):=fun x hx=>by
  have:x∈vs.map fun v=>(v,v):=by rw[<- za];exact Array.mem_toList_iff.mpr hx
  obtain⟨v,hv,e⟩:=xt.mp this
  exact⟨v,hv,e.symm⟩
 have C:Cm prog w A s κ (fun x=>rkD ds (kd s.heap n x.1)) (fun x=>x∈vs.toArray.zip vs.toArray):=fun x y hx hy Q E' q=>by
  obtain⟨v,hv,rfl⟩:=mem x hx
  obtain⟨u,hu',rfl⟩:=mem y hy
  obtain⟨d,hd,k1⟩:=h.mem_r v hv
  obtain⟨e,he,k2⟩:=h.mem_r u hu'
  refine zVg hκ k1 k2 hu ?_
  have hl:∀x∈ds,lv n x:=fun x hx=>by obtain⟨b,_,r⟩:=h.mem_l x hx;exact r.lv
  have q2:Q (decide (rkD ds (kd s.heap n v)<rkD ds (kd s.heap n u))) s:=q
  rw[zIg k1,zIg k2,zRg hl hd he]at q2
  exact q2
 refine x8 (w_sr (E:=E) (Q:=fun _ st=>∃vs':List Value,vs'.Perm vs/\A2 (Ek s.heap n) (srt ds) vs'/\failedOf st=none/\(arrOf st).map (·.2)=vs'.toArray) C (a₀:=vs.toArray.zip vs.toArray) (by simpa using hz) (fun x hx=>hx) (st:=SortSt.mk' κ (vs.toArray.zip vs.toArray) #[] 7 none) ⟨.refl _,rfl,rfl⟩ rfl fun st' B so=>?_) (fun r s' q=>?_) fun _ _ e=>e
 ·have pm:(arrOf st').toList.Perm (vs.map fun v=>(v,v)):=by rw[<- za];exact Array.perm_iff_toList_perm.mp B.perm
  have p2:((arrOf st').toList.map (·.2)).Perm vs:=by
   have:=pm.map (·.2)
   rw[ud]at this
   rwa[show vs.map ((fun x:Value × Value=>x.2) ∘ fun v=>(v,v))=vs from List.map_id' vs]at this
  have al:∀v∈(arrOf st').toList.map (·.2),∃d,Ek s.heap n d v:=fun v hv=>by
   obtain⟨d,_,q⟩:=h.mem_r v (p2.mem_iff.mp hv)
   exact⟨d,q⟩
  have a2:=zXd al
  refine⟨_,p2,?_,B.failed,by apply Array.toList_inj.mp;rw[Array.toList_map]⟩
  have pd:(((arrOf st').toList.map (·.2)).map (kd s.heap n)).Perm ds:=by
   have:=p2.map (kd s.heap n)
   rwa[zVh h]at this
  have up:Up (((arrOf st').toList.map (·.2)).map (kd s.heap n)):=by
   have hl:∀x∈ds,lv n x:=fun x hx=>by obtain⟨b,_,r⟩:=h.mem_l x hx;exact r.lv
   have sz:(arrOf st').size=(vs.toArray.zip vs.toArray).size:=B.size
   rw[<- sz]at so
   have pw:=so.pw
   rw[ud]
   refine uk.mpr (pw.imp_of_mem fun {x y} hx hy q=>?_)
   have ex:∀x∈(arrOf st').toList,x.1=x.2/\kd s.heap n x.2∈ds:=fun x hx=>by
    obtain⟨v,hv,rfl⟩:=xt.mp (pm.mem_iff.mp hx)
    obtain⟨d,hd,k⟩:=h.mem_r v hv
    exact⟨rfl,by show kd s.heap n v∈ds;rw[zIg k];exact hd⟩
   obtain⟨e1,m1⟩:=ex x hx
   obtain⟨e2,m2⟩:=ex y hy
   dsimp only at q
   rw[e1,e2]at q
   show blt (kd s.heap n y.2) (kd s.heap n x.2)=false
   rw[<- zRg hl m2 m1]
   exact xj (by nofun)
  rw[<- zJ0 (fun y hy=>by obtain⟨b,_,r⟩:=a2.mem_l y hy;exact r.lv) pd up]
  exact a2
 ·obtain⟨rfl,vs',a,b,c,d⟩:=q
  exact hQ _ vs' a b c d
theorem Ek.kept' {h h':Heap}{a:Addr}{o₀:Obj}(ho:h.get? a=some o₀) (hc:o₀.cls≠.type "tuple") (k:∀b o,b≠a->h.get? b=some o->h'.get? b=some o) {d:D}{v:Value}(x:Ek h n d v):Ek h' n d v:=
 x.kept fun b o e ec=>k b o (fun z=>by subst z;rw[ho]at e;cases e;exact hc ec) e
theorem zLc {a:Addr}{c₀:Nat}{P:PySem.Fin->Shared->Prop}(ho:s.heap.get? a=some (seqObj "list" vs.toArray c₀)) (hk:A2 (Ek s.heap n) ds vs) (hz:vs.length<=63) (hu:A.units+n<cLine)
  (h:∀(vs':List Value) (c:Nat) (h':Heap),vs'.Perm vs->A2 (Ek h' n) (srt ds) vs'->(∀b o,b≠a->s.heap.get? b=some o->h'.get? b=some o)->h'.get? a=some (seqObj "list" vs'.toArray c)->P (.done (.ret .none)) { s with heap:=h' }):
  wpAny (model prog w) A (Builtin.«list.sort» ⟨[.ref a],[]⟩) P E s:=by
 have lz:vs.length<=sizeLine:=by rw[xJ];lia
 rw[list_sort_plain]
 refine xa (listItems_at ho rfl (xa (uo ho rfl ?_ (by simpa using lz) (xC _))))
 obtain⟨e1,ho1⟩:∃e1,(s.heap.update a (Obj.mapSeq fun _=>(#[]:Array Value))).get? a=some (seqObj "list" #[] e1):=⟨_,uI ho fun _=>#[]⟩
 have k1:∀b o,b≠a->s.heap.get? b=some o->(s.heap.update a (Obj.mapSeq fun _=>(#[]:Array Value))).get? b=some o:=fun b o hb e=>(vK _ _ (xB hb)).trans e
 generalize s.heap.update a (Obj.mapSeq fun _=>(#[]:Array Value))=g1 at ho1 k1 ⊢
 refine xa (seqEpoch_at ho1 rfl (xa (wpAny_newTuple (xa (wpAny_newList (xG ?_) (xC _))) (by simpa using lz))))
 have ho2:=xl (seqObj "list" #[] 0) (xl (seqObj "tuple" vs.toArray 0) ho1)
 have k2:∀b o,b≠a->s.heap.get? b=some o->((g1.push (seqObj "tuple" vs.toArray 0)).push (seqObj "list" #[] 0)).get? b=some o:=fun b o hb e=>xl _ (xl _ (k1 b o hb e))
 show wpAny (model prog w) A _ P E { s with heap:=(g1.push (seqObj "tuple" vs.toArray 0)).push (seqObj "list" #[] 0) }
 generalize (g1.push (seqObj "tuple" vs.toArray 0)).push (seqObj "list" #[] 0)=g2 at ho2 k2 ⊢
 dsimp only
 have hk2:A2 (Ek g2 n) ds vs:=hk.imp fun _ _ q=>q.kept' ho (show Value.type "list"≠Value.type "tuple" by decide) k2
 have fin:∀(st:SortSt) (vs':List Value),vs'.Perm vs->A2 (Ek g2 n) (srt ds) vs'->failedOf st=none->(arrOf st).map (·.2)=vs'.toArray->
   wpAny (model prog w) A (do
    let touched:=(<- seqEpoch a) != e1
    Builtin.List.listUpdate (.ref a) fun _=>(arrOf st).map (·.2)
    if let some e:=failedOf st then rule "list.sort.comparison-raised";throw e
    if touched then rule "list.sort.modified";raiseError "ValueError" "list modified during sort"
    ret .none) P E { s with heap:=g2 }:=fun st vs' pm a2 hf ha=>by
  refine xa (seqEpoch_at ho2 rfl ?_)
  rw[ha]
  refine xa (uo ho2 rfl ?_ (xC _) (by simp;rw[pm.length_eq];exact Nat.le_succ_of_le lz))
  rw[hf]
  simp only[bne_self_eq_false,xR,xK]
  obtain⟨c,hc⟩:∃c,(g2.update a (Obj.mapSeq fun _=>vs'.toArray)).get? a=some (seqObj "list" vs'.toArray c):=⟨_,uI ho2 fun _=>vs'.toArray⟩
  have k3:∀b o,b≠a->g2.get? b=some o->(g2.update a (Obj.mapSeq fun _=>vs'.toArray)).get? b=some o:=fun b o hb e=>(vK _ _ (xB hb)).trans e
  exact xg (h vs' c _ pm (a2.imp fun _ _ q=>q.kept' ho2 (show Value.type "list"≠Value.type "tuple" by decide) k3) (fun b o hb e=>k3 b o hb (k2 b o hb e)) hc)
 by_cases c2:vs.toArray.size<2
 ·rw[xc c2,xc c2]
  refine xa (xg ?_)
  rw[StateT.run_pure]
  refine xa (xg ?_)
  refine fin (SortSt.mk' general' (vs.toArray.zip vs.toArray) #[] 7 none) vs (.refl _) ?_ rfl ?_
  ·have:srt ds=ds:=by
    have hl:ds.length<2:=by rw[hk.length];simpa using c2
    match ds,hl with
    | [],_=>rfl
    | [d],_=>rfl
   rw[this];exact hk2
  ·show((vs.toArray.zip vs.toArray)).map (·.2)=_
   apply Array.toList_inj.mp
   simp[List.map_snd_zip]
 ·rw[xf c2,xf c2]
  refine xa (zSr (s:={ s with heap:=g2 }) hk2 (fun z=>by subst z;simp at c2) fun κ hκ=>?_)
  refine xa (x8 (zO3 (s:={ s with heap:=g2 }) (Q:=fun st s'=>s'={ s with heap:=g2 }/\∃vs',vs'.Perm vs/\A2 (Ek g2 n) (srt ds) vs'/\failedOf st=none/\(arrOf st).map (·.2)=vs'.toArray) hκ hz hk2 hu fun st vs' a b c d=>⟨rfl,vs',a,b,c,d⟩) ?_ fun _ _ e=>e)
  rintro⟨⟨⟩,st⟩ s' ⟨rfl,vs',a1,a2,a3,a4⟩
  exact fin st vs' a1 a2 a3 a4
theorem zEn {r:Value}{m:Nat}{G:List D->List Value->Prop}{Q:Value->Shared->Prop}(hu:A.units+2+n<cLine)
  (hcol:∀R:List Value->Shared->Prop,(∀(h':Heap) (tk:Nat) (ds:List D) (vs:List Value),m<=h'.objs.size->(∀b o,s.heap.get? b=some o->h'.get? b=some o)->A2 (Ek h' n) ds vs->vs.length<=63->G ds vs->R vs { s with heap:=h',toks:=tk })->wpAny (model prog w) A.in1 (collect r) R E s)
  (h:∀(ds:List D) (vs vs':List Value) (c tk:Nat) (h':Heap) (L:Addr),G ds vs->vs.length<=63->vs'.Perm vs->A2 (Ek h' n) (srt ds) vs'->m<=L->(∀b o,s.heap.get? b=some o->h'.get? b=some o)->h'.get? L=some (seqObj "list" vs'.toArray c)->Q (.ref L) { s with heap:=h',toks:=tk }):
  wpAny (model prog w) A (call (.builtin "sorted") [r]) Q E s:=by
 refine Calls.call_function_entry kind_sorted plain_sorted entry_sorted (args_sorted1 _) ?_
 unfold Builtin.«sorted»
 refine xa (m:=checkCount "sorted" 1 1 _) (xg (xa (hcol _ fun h' tk ds vs sz kp hk hz hg=>?_)))
 have lz:vs.length<=sizeLine:=by rw[xJ];lia
 refine xa (wpAny_newList ?_ (by simpa using lz))
 have hoL:(h'.push (seqObj "list" vs.toArray 0)).get? h'.objs.size=some (seqObj "list" vs.toArray 0):=xv _ rfl
 have k0:∀b o,h'.get? b=some o->(h'.push (seqObj "list" vs.toArray 0)).get? b=some o:=fun b o e=>xl _ e
 refine xa (xG (ve slot_list_sort ⟨_,hoL,rfl⟩ entry_list_sort (zLc (s:={ s with heap:=h'.push (seqObj "list" vs.toArray 0),toks:=tk }) hoL (hk.imp fun _ _ q=>q.kept fun b o e _=>k0 b o e) hz (by show A.units+1+1+n<cLine;lia) fun vs' c h2 pm a2 k2 hD=>⟨_,rfl,?_⟩) (args_list_sort _)))
 exact xg ⟨_,rfl,h ds vs vs' c tk h2 _ hg hz pm a2 sz (fun b o e=>k2 b o (xu (xi (kp b o e))) (k0 b o (kp b o e))) hD⟩
end
end EK
namespace EK
open PySem PyProof.Rows PySem.W TM
open DS (D)
section
variable {prog:Program}{w:World}{A:Around}{E:Value->Shared->Prop}{s:Shared}{n:Nat}{ds:List D}{vs:List Value}
theorem zNk {l:Addr}{o:Obj}{k:Nat}{T:String}{R:List Value->Shared->Prop}(ho:s.heap.get? l=some o) (hc:o.cls=.type T) (hT:T="list"\/T="tuple") (hd:o.data=.seq vs.toArray k) (hz:vs.length<=sizeLine)
  (h:∀h':Heap,s.heap.objs.size<=h'.objs.size->(∀b o,s.heap.get? b=some o->h'.get? b=some o)->R vs { s with heap:=h' }):wpAny (model prog w) A (collect (.ref l)) R E s:=by
 have kp:∀b o,s.heap.get? b=some o->((s.heap.push (seqObj "list" #[] 0)).update s.heap.objs.size (Obj.mapSeq (·++vs.toArray))).get? b=some o:=fun b o e=>(vK _ _ (xB (xu (xi e)))).trans (xl _ e)
 have hq:=h _ (by rw[Heap.size_update,size_push'];omega) kp
 unfold collect
 refine xa (wpAny_runValue (ue entry_proto_collect' (show wpAny _ _ (newList [] >>= fun x=>again (.builtin "list.__iadd__" ⟨[x,.ref l],[]⟩)) _ _ s from xa (wpAny_newList (xg ⟨Code.quiet_builtin _ (by decide +kernel),ue entry_list_iadd' ?_⟩)))))
 have q1:∀x y:Value,Builtin.«list.__iadd__» ⟨[x,y],[]⟩=Builtin.List.listExtendWith x y x:=fun x y=>rfl
 rw[q1]
 unfold Builtin.List.listExtendWith
 have ho':(s.heap.push (seqObj "list" #[] 0)).get? l=some o:=xl _ ho
 refine xa (v9 (T:=T) ⟨o,ho',hc⟩ ?_)
 rw[xc (by rcases hT with rfl|rfl <;> simp[show(Value.type "list" == Value.type "list")=true from rfl,show(Value.type "tuple" == Value.type "tuple")=true from rfl])]
 refine xa (listItems_at ho' hd (xa (listItems_at (xs:=#[]) (n:=0) (xv _ rfl) rfl ?_)))
 rw[xf (by simp)]
 refine xa (uo (xs:=#[]) (n:=0) (xv _ rfl) rfl (xg ?_) (xC _) (by show(#[]++vs.toArray).size<=sizeLine+1;simp only[Array.size_append,xn,List.length_nil];omega))
 refine(show wpAny (model prog w) A (load s.heap.objs.size >>= fun o=>match o.data with|.seq xs _=>pure xs.toList|_=>unsupported "internal:collect") R E _ from xa (wpAny_load (uI (xv _ rfl) _) ?_))
 show wpAny _ _ (pure ((#[]:Array Value)++vs.toArray).toList) R E _
 rw[show((#[]:Array Value)++vs.toArray).toList=vs by simp]
 exact xg hq
end
end EK
namespace TU
open PySem TB EK TS
open TS (sObj Tab.ft TabP.ft gate adr)
open DS (D)
open Classical
section
variable {prog:Program}{w:World}{A:Around}{E:Value->Shared->Prop}{s:Shared}{dp:Nat}
noncomputable abbrev EA (h:Heap) (dp:Nat) (k:D) (a:Addr):Prop:=Ek h (dp+1) k (.ref a)
theorem unseen (hdp:dp+1<=8) {a:Addr}{ks:D}{l:List Value}{Q:Bool->Shared->Prop}(hk:EA s.heap dp ks a) (hl:∀v∈l,∃b ls,v=.ref b/\EA s.heap dp ls b) (h:Q false s):
  wpAny (model prog w) A (searchCouldBeSeen (.ref a) l) Q E s:=by
 unfold searchCouldBeSeen
 refine xa (uh _ (fun rest r s'=>r.1=none/\s'=s/\∀v∈rest,∃b ls,v=.ref b/\EA s.heap dp ls b) _ ?_ ?_ _ _ ⟨rfl,rfl,hl⟩)
 ·rintro v rest r s' ⟨hr,rfl,al⟩
  obtain⟨b,ls,rfl,hb⟩:=al v xM
  have rest':∀v∈rest,∃b ls,v=.ref b/\EA s'.heap dp ls b:=fun u hu=>al u (xZ _ hu)
  dsimp only
  split
  ·exact xg ⟨rfl,rfl,rest'⟩
  ·refine xa (zGh (dp+1) 8 hk hdp ?_)
   rw[xf (by decide)]
   refine xa (zGh (dp+1) 8 hb hdp ?_)
   rw[xf (by decide)]
   refine xa (zGi (dp+1) 8 hk hdp ?_)
   rw[xf (by decide)]
   refine xa (zGi (dp+1) 8 hb hdp ?_)
   rw[xf (by decide)]
   exact xg ⟨rfl,rfl,rest'⟩
 ·rintro⟨r1,r2⟩ s' ⟨hr,rfl,_⟩
  simp only at hr
  subst hr
  exact xg h
noncomputable def kv (κ:Addr->D) (e:Int × Value):D:=κ (adr e.2)
noncomputable def Els (dp:Nat) (κ:Addr->D) (h:Heap) (es:Array (Int × Value)):Prop:=∀e∈es.toList,∃b,e.2=.ref b/\EA h dp (κ b) b/\e.1=hD (κ b)
theorem search {κ:Addr->D}{S x:Addr}{es:Array (Int × Value)}{ep:Nat}{t:SetTable}{b:Bool}{Q:SetFound->Shared->Prop}(hdp:dp+1<=8) (hu:A.units+(dp+1)<cLine) (ho:s.heap.get? S=some (sObj es ep t)) (T:Tab t es.size b)
  (hk:EA s.heap dp (κ x) x) (he:Els dp κ s.heap es) (h1:(∃e∈es.toList,kv κ e=κ x)->Q (.there none) s)
  (h2:∀M,t.slot (adv t M (t.probeStart (hD (κ x)))).j=.empty->(∀m',m'<M->∃i,∃hi:i<es.size,t.slot (adv t m' (t.probeStart (hD (κ x)))).j=.live i/\(es[i].1≠hD (κ x)\/kv κ es[i]≠κ x))->Q (.free (adv t M (t.probeStart (hD (κ x)))).j false) s):
  ∀(f m c:Nat) (st:Option SetTable.Probe),m<f->m<10*SetTable.turns t.mask->st.getD (t.probeStart (hD (κ x)))=adv t c (t.probeStart (hD (κ x)))->
   (∀m',m'<c->∃i,∃hi:i<es.size,t.slot (adv t m' (t.probeStart (hD (κ x)))).j=.live i/\(es[i].1≠hD (κ x)\/kv κ es[i]≠κ x))->
   Far t (adv t c (t.probeStart (hD (κ x)))) m->wpAny (model prog w) A (setSearchFrom S (.ref x) (hD (κ x)) true f st) Q E s:=by
 generalize ehx:hD (κ x)=hx at h2 ⊢
 have lv:∀{j i:Nat},t.slot j=.live i->i<es.size:=fun {j i} hj=>by
  obtain⟨z,_⟩:=vm.mp (zId T hj)
  rw[T.size]at z;exact z
 intro f
 induction f with
 | zero=>intro m c st hm;lia
 | succ f ih=>
  intro m c st hm hm2 est seen fr
  unfold setSearchFrom
  refine xa (vX ho rfl (Tab.ft T) ?_)
  dsimp only
  rw[T.way]
  rw[xf (by decide)]
  unfold SetTable.probe
  rw[est]
  have more:∀d,(∀d',d'<d->∃i,t.slot (adv t d' (adv t c (t.probeStart hx))).j=.live i/\(((es[i]?.map (·.1)).getD 0 == hx)=false))->∀m',m'<c+d->∃i,∃hi:i<es.size,t.slot (adv t m' (t.probeStart hx)).j=.live i/\(es[i].1≠hx\/kv κ es[i]≠κ x):=fun d hd m' hm'=>by
   rcases xN m' c with z|z
   ·exact seen m' z
   ·obtain⟨d',rfl⟩:∃d',m'=c+d':=⟨m' - c,by nofun⟩
    obtain⟨i,e1,e2⟩:=hd d' (by nofun)
    rw[<- zCg]at e1
    have hi:=lv e1
    refine⟨i,hi,e1,.inl fun z=>?_⟩
    rw[vh hi]at e2
    have:(es[i].1 == hx)=false:=e2
    rw[z]at this;simp at this
  rcases zFe (hashAt:=_) (h:=hx) T.nod _ m _ hm2 fr with⟨d,_,e,hj,hd⟩|⟨d,i,hlt,e,hj,hd,fr'⟩
  ·rw[e]
   dsimp only
   rw[<- zCg]at hj ⊢
   exact xg (h2 (c+d) hj (more d hd))
  ·rw[e]
   dsimp only
   have hi:i<es.size:=lv hj
   have ei:es[i]?=some es[i]:=vh hi
   obtain⟨y,ey,hy,eyh⟩:=he es[i] (by simp)
   have e2:es[i]?=some (es[i].1,.ref y):=by rw[ei,<- ey]
   have ky:kv κ es[i]=κ y:=by unfold kv;rw[ey];rfl
   rw[e2]
   dsimp only
   refine gate (fun Q' hq=>unseen hdp hk (fun v hv=>?_) hq) ?_
   ·obtain⟨e',he',rfl⟩:=xt.mp hv
    obtain⟨b',q1,q2,_⟩:=he e' (by
     have:=Array.mem_filter.mp (Array.mem_toList_iff.mp he')
     exact Array.mem_toList_iff.mpr this.1)
    exact⟨b',_,q1,q2⟩
   refine xa (xG (zPg (dp+1) hy hk hu ?_))
   refine xa (vX ho rfl (Tab.ft T) ?_)
   dsimp only
   by_cases cc:κ y=κ x
   ·rw[xq cc]
    exact xg (h1 ⟨es[i],by simp,ky.trans cc⟩)
   ·rw[xj cc]
    rw[xf (by decide)]
    have em:t.sameMemory t.moves t.mask=some true:=by unfold SetTable.sameMemory;simp
    rw[em]
    dsimp only
    rw[xc rfl,hj]
    dsimp only
    rw[e2]
    dsimp only
    refine xa (wpAny_isSame_ref_self ?_)
    rw[xc rfl]
    refine xa (xg ?_)
    dsimp only
    rw[xf (by decide)]
    refine ih (m-(d+1)) (c+(d+1)) _ (by nofun) (by nofun) (zCg t c (d+1) _).symm ?_ (by rw[zCg];exact fr')
    intro m' hm'
    rcases xN m' (c+d)with z|z
    ·exact more d hd m' z
    ·have:m'=c+d:=by nofun
     subst this
     rw[<- zCg]at hj
     exact⟨i,hi,hj,.inr (by rw[ky];exact cc)⟩
noncomputable def IsS (dp:Nat) (κ:Addr->D) (h:Heap) (S:Addr) (es:Array (Int × Value)) (b:Bool):Prop:=∃ep t,h.get? S=some (sObj es ep t)/\Tab t es.size b/\Els dp κ h es/\Chs t (es.toList.map (·.1))/\(es.toList.map (kv κ)).Nodup
theorem Els.keeps {κ:Addr->D}{h h':Heap}{S:Addr}{es es':Array (Int × Value)}{ep:Nat}{t:SetTable}(he:Els dp κ h es) (ho:h.get? S=some (sObj es' ep t)) (hs:Heap.SameBut S h h'):Els dp κ h' es:=fun e hm=>by
 obtain⟨b,e1,q,e2⟩:=he e hm
 refine⟨b,e1,q.kept fun c o ec et=>(hs.2 c fun z=>?_).trans ec,e2⟩
 subst z
 rw[ho]at ec
 cases ec
 exact absurd (show Value.type "set"=Value.type "tuple" from et) (by decide)
theorem zMz {κ:Addr->D}{x:Addr}{es:Array (Int × Value)}{t:SetTable}{b:Bool}{h:Heap}{M:Nat}(T:Tab t es.size b) (he:Els dp κ h es) (C:Chs t (es.toList.map (·.1))) (hM:t.slot (adv t M (t.probeStart (hD (κ x)))).j=.empty)
  (seen:∀m',m'<M->∃i,∃hi:i<es.size,t.slot (adv t m' (t.probeStart (hD (κ x)))).j=.live i/\(es[i].1≠hD (κ x)\/kv κ es[i]≠κ x)):κ x ∉ es.toList.map (kv κ):=by
 intro hm
 obtain⟨e,hem,ek⟩:=xt.mp hm
 obtain⟨i,hi,rfl⟩:=vV.mp hem
 have hi':i<es.size:=by simpa using hi
 obtain⟨y,ey,_,eh⟩:=he _ hem
 have ky:κ y=κ x:=by
  have:kv κ es.toList[i]=κ y:=by unfold kv;rw[ey];rfl
  rw[<- this,ek]
 rw[ky]at eh
 have hp:i<t.place.size:=by rw[T.size];exact hi'
 obtain⟨m,em,al⟩:=C (t.place[i],es.toList[i].1) (vV.mpr ⟨i,by have:i<min t.place.size es.size:=Nat.lt_min.mpr ⟨hp,hi'⟩;simpa using this,by simp⟩)
 dsimp only at em al
 rw[eh]at em al
 rcases Nat.lt_trichotomy m M with z|z|z
 ·obtain⟨i',hi2,q1,q2⟩:=seen m z
  rw[em]at q1
  have q3:=zId T q1
  obtain⟨z3,e3⟩:=vm.mp q3
  have:i'=i:=zTu T.up (by simpa using z3) (by simpa using hp) (by simpa using e3)
  subst this
  rcases q2 with q2|q2
  ·exact q2 (by simpa using eh)
  ·exact q2 (by simpa using ek)
 ·subst z
  rw[em]at hM
  exact(zHj T _).mp hM (by simp)
 ·exact(zHj T _).mp hM (al M z)
theorem zNw {κ:Addr->D}{S x:Addr}{es:Array (Int × Value)}{b:Bool}{Q:Bool->Shared->Prop}(hdp:dp+1<=8) (hu:A.units+(dp+1)<cLine) (hS:IsS dp κ s.heap S es b) (hk:EA s.heap dp (κ x) x) (hn:es.size<300)
  (h1:(∃e∈es.toList,kv κ e=κ x)->Q false s) (h2:∀h' es',Heap.SameBut S s.heap h'->IsS dp κ h' S es' b->es'.toList.Perm ((hD (κ x),.ref x)::es.toList)->Q true { s with heap:=h' }):
  ∀f,wpAny (model prog w) A (setAddHashedIn S (.ref x) (hD (κ x)) (f+1)) Q E s:=by
 intro f
 obtain⟨ep,t,ho,T,he,C,nd⟩:=hS
 unfold setAddHashedIn
 refine xa (vX ho rfl (Tab.ft T) ?_)
 dsimp only
 have eb:byScan (.ref x) es=false:=by unfold byScan;rfl
 rw[eb]
 rw[xf (by decide)]
 obtain⟨m,hm,fr⟩:=T.start (hD (κ x))
 refine xa (search hdp hu ho T hk he (fun q=>?_) (fun M hM seen=>?_) 100000 m 0 none (vT hm T.turns) hm rfl (fun m' h=>by nofun) fr)
 ·exact xg (h1 q)
 ·have fk:=zMz T he C hM seen
  have alM:∀m',m'<M->(adv t m' (t.probeStart (hD (κ x)))).j∈t.place.toList:=fun m' h=>by
   obtain⟨i,_,q,_⟩:=seen m' h
   exact zSl T q
  obtain⟨C1,ep2⟩:=zRl T (hs:=es.toList.map (·.1)) (by simp) C hM rfl alM
  have TP:=T.put hM
  generalize (adv t M (t.probeStart (hD (κ x)))).j=j at TP C1 ep2 ⊢
  dsimp only
  refine xa (vX ho rfl (Tab.ft T) ?_)
  dsimp only
  generalize ePT:t.put j=PT at TP C1 ep2
  obtain⟨t1,p⟩:=PT
  dsimp only at TP C1 ep2 ⊢
  rw[TP.plain]
  rw[xc rfl]
  refine xa (zJv (dp+1) 8 hk hdp ?_)
  rw[xc rfl]
  generalize ehx:hD (κ x)=hx at C1 h2 ⊢
  have pm:=ins_perm es p (hx,Value.ref x)
  have sz:=zJp es p (hx,Value.ref x)
  have C2:Chs t1 ((SetTable.insertAt es p (hx,Value.ref x)).toList.map (·.1)):=by
   rw[zEg,ug,xr,List.map_take,List.map_drop]
   exact C1
  generalize SetTable.insertAt es p (hx,Value.ref x)=es1 at pm sz C2 ⊢
  have nd1:(es1.toList.map (kv κ)).Nodup:=by
   refine(pm.map (kv κ)).nodup_iff.mpr ?_
   rw[xr]
   exact xU.mpr ⟨fk,nd⟩
  refine xa (wpAny_storeSet_of ho rfl ?_ (by rw[sz,xJ];lia))
  have hg:(s.heap.update S (Obj.putSet es1 t1)).get? S=some (sObj es1 (ep+1) t1):=uz (Obj.putSet es1 t1) ho rfl
  have sb:=vO s.heap S (Obj.putSet es1 t1)
  have he1:Els dp κ (s.heap.update S (Obj.putSet es1 t1)) es1:=fun e hm=>by
   rcases xk.mp (pm.mem_iff.mp hm)with rfl|hm
   ·exact Els.keeps (es:=#[(hx,Value.ref x)]) (fun e hm=>by
     have:e=(hx,Value.ref x):=by simpa using hm
     subst this;exact⟨x,rfl,hk,ehx.symm⟩) ho sb _ (by simp)
   ·exact Els.keeps he ho sb e hm
  rw[<- sz]at TP
  by_cases c:t1.tooFull=true
  ·rw[xc (by rw[c];rfl)]
   unfold setRelay
   refine xa (xa (vX (s:={ s with heap:=s.heap.update S (Obj.putSet es1 t1) }) hg rfl (TabP.ft TP) ?_))
   dsimp only
   obtain⟨hl,t2,order,er,T2,po,C3⟩:=zLq TP c (by nofun) (es1.map (·.1)) (by simp)
   rw[<- sz]
   rw[xf (by simpa using hl)]
   rw[er]
   have pe:(order.filterMap (es1[·]?)).toList.Perm es1.toList:=by
    rw[Array.toList_filterMap]
    refine(po.filterMap _).trans ?_
    have:=filterMap_getElem?_range es1
    rw[this]
   have zz:(order.filterMap (es1[·]?)).size=es1.size:=by rw[<- vx,pe.length_eq,vx]
   have C4:Chs t2 ((order.filterMap (es1[·]?)).toList.map (·.1)):=by
    have e5:(order.filterMap (es1[·]?)).toList.map (·.1)=order.toList.map fun k=>(es1.map (·.1)).toList.getD k 0:=by
     rw[Array.toList_filterMap]
     have al:∀k∈order.toList,k<es1.size:=fun k hk=>xY.mp (po.mem_iff.mp hk)
     clear C3 po er pe zz
     generalize order.toList=l at al
     induction l with
     | nil=>rfl
     | cons k l ih=>
      have hk:=al k (.head _)
      rw[vZ,vh hk]
      simp only[xr]
      rw[ih fun k hk=>al k (.tail _ hk)]
      congr 1
      simp[hk]
    rw[e5];exact C3
   refine xa ?_
   show wpAny _ _ (if((order.filterMap (es1[·]?)).size != es1.size)=true then _ else pure (order.filterMap (es1[·]?),t2)) _ _ _
   rw[xf (by simp[zz])]
   refine xg ?_
   dsimp only
   generalize order.filterMap (es1[·]?)=es2 at pe zz C4 ⊢
   refine wpAny_storeSet_of hg rfl ?_ (by rw[zz,sz,xJ];lia)
   have hg2:((s.heap.update S (Obj.putSet es1 t1)).update S (Obj.putSet es2 t2)).get? S=some (sObj es2 (ep+1+1) t2):=uz (Obj.putSet es2 t2) hg rfl
   have sb2:=vO (s.heap.update S (Obj.putSet es1 t1)) S (Obj.putSet es2 t2)
   refine xg (h2 _ es2 (sb.trans sb2) ⟨_,_,hg2,by rw[zz];exact T2,?_,C4,(pe.map (kv κ)).nodup_iff.mpr nd1⟩ (pe.trans pm))
   exact Els.keeps (fun e hm=>he1 e (pe.mem_iff.mp hm)) hg sb2
  ·rw[xf (by simpa using c)]
   exact xg (h2 _ es1 sb ⟨_,_,hg,TP.tab (by simpa using c),he1,C2,nd1⟩ pm)
theorem add {κ:Addr->D}{S x:Addr}{es:Array (Int × Value)}{b:Bool}{Q:Bool->Shared->Prop}(hdp:dp+1<=8) (hu:A.units+(dp+1)<cLine) (hS:IsS dp κ s.heap S es b) (hk:EA s.heap dp (κ x) x) (hn:es.size<300)
  (h1:∀tk,s.toks<=tk->(∃e∈es.toList,kv κ e=κ x)->Q false { s with toks:=tk }) (h2:∀h' es' tk hx,s.toks<=tk->Heap.SameBut S s.heap h'->IsS dp κ h' S es' b->es'.toList.Perm ((hx,.ref x)::es.toList)->Q true { s with heap:=h',toks:=tk }):wpAny (model prog w) A (setAdd S (.ref x)) Q E s:=by
 unfold setAdd
 refine xG (xa (zN2 (dp+1) hk hu fun tk htk=>?_))
 unfold setAddHashed
 refine xG ?_
 exact zNw (s:={ s with toks:=tk }) hdp hu hS hk hn (fun q=>h1 _ htk q) (fun h' es' sb i p=>h2 h' es' _ _ htk sb i p) 99999
end
end TU
namespace TU
open PySem TB EK TS
open TS (sObj Tab.ft TabP.ft gate adr nObj zDj zEd)
open DS (D)
open Classical
section
variable {prog:Program}{w:World}{A:Around}{R:Result->Shared->Prop}{I:Addr}{fp wr:List Addr}{G:Array GenState->Array GenState->Prop}{n:Nat}{P:Nat->Value->Prop}{St:Nat->Shared->Prop}{dp:Nat}
noncomputable def Met (n:Nat) (P:Nat->Value->Prop) (es:Array (Int × Value)):Prop:=∀e∈es.toList,∃j,j<n/\P j e.2
theorem IsS.moved {κ:Addr->D}{h h':Heap}{S:Addr}{es:Array (Int × Value)}{b:Bool}{bad:List Addr}(i:IsS dp κ h S es b) (hS:S ∉ bad) (k:∀c o,c ∉ bad->h.get? c=some o->h'.get? c=some o) (hb:∀c∈bad,∀o,h.get? c=some o->o.cls≠.type "tuple"):IsS dp κ h' S es b:=by
 obtain⟨ep,t,ho,T,he,C,nd⟩:=i
 refine⟨ep,t,k _ _ hS ho,T,fun e hm=>?_,C,nd⟩
 obtain⟨c,e1,q,e2⟩:=he e hm
 exact⟨c,e1,q.kept fun b o eb et=>k _ _ (fun z=>hb b z o eb et) eb,e2⟩
noncomputable def Cov (κ:Addr->D) (n:Nat) (P:Nat->Value->Prop) (es:Array (Int × Value)):Prop:=∀j v,j<n->P j v->∃e∈es.toList,kv κ e=κ (adr v)
theorem loop {κ:Addr->D}(W:WalksS prog w A.in1 I fp wr G n P St) (S:Addr) (hSf:S ∉ fp) (hdp:dp+1<=8) (hu:A.in1.units+(dp+1)<cLine) (h0:Heap) (hP:∀i v,P i v->∃a,v=.ref a/\EA h0 dp (κ a) a) (hbad:∀c∈S::wr,∀o,h0.get? c=some o->o.cls≠.type "tuple") (hPf:∀i v v',P i v->P i v'->v=v') (hn:n<=299) {led:Bool}
  (hwr:∀i s,St i s->∀c∈wr,∀o,s.heap.get? c=some o->o.cls≠.type "tuple"):
  ∀(k i:Nat) (s:Shared) (es:Array (Int × Value)),n-i=k->i<=n->St i s->IsS dp κ s.heap S es led->es.size<=i->Met n P es->Cov κ i P es->(∀c o,c ∉ S::wr->h0.get? c=some o->s.heap.get? c=some o)->
   (∀s' es',Moved (S::wr) G s s'->IsS dp κ s'.heap S es' led->es'.size<=n->Met n P es'->Cov κ n P es'->R (.ok (.ret .none)) s')->
   codeAny (model prog w) A (.builtin "set.update.loop" ⟨[.ref S,.ref I],[]⟩) R s:=by
 have hSw:S ∉ wr:=fun h=>hSf (W.sub _ h)
 have sub:∀b∈wr,b∈S::wr:=fun b hb=>.tail _ hb
 intro k
 induction k with
 | zero=>
  intro i s es hk hi hst hS hz hM hC hkp hR
  obtain rfl:i=n:=by nofun
  refine ue PyProof.Rows.F.entry_set_update_loop ?_
  rw[Around.under_plainId u7 _]
  show wpAny _ A.in1 (pyNext (.ref I) >>= _) _ _ s
  refine xa (W.done s _ _ hst fun s' hm=>?_)
  show wpAny _ A.in1 (ret Value.none) _ _ s'
  exact xg (hR s' es (hm.mono sub) (IsS.moved hS hSw hm.heap (hwr _ _ hst)) hz hM hC)
 | succ k ih=>
  intro i s es hk hi hst hS hz hM hC hkp hR
  have hlt:i<n:=by nofun
  refine ue PyProof.Rows.F.entry_set_update_loop ?_
  rw[Around.under_plainId u7 _]
  show wpAny _ A.in1 (pyNext (.ref I) >>= _) _ _ s
  refine xa (W.item i s _ _ hlt hst fun v s' hp hst' hm=>?_)
  obtain⟨a,rfl,hq⟩:=hP i v hp
  have hk':EA s'.heap dp (κ a) a:=hq.kept fun b o eb et=>by
   have hb:b ∉ S::wr:=fun z=>hbad b z o eb et
   exact hm.heap b o (fun z=>hb (sub b z)) (hkp b o hb eb)
  have hS':=IsS.moved hS hSw hm.heap (hwr _ _ hst)
  show wpAny _ A.in1 (holding [Value.ref a] (setAdd S (.ref a)) >>= _) _ _ s'
  refine xa (xG (add hdp hu hS' hk' (by nofun) (fun tk htk there=>?_) (fun h' es' tk hx htk sb i' pm=>?_)))
  ·refine xg ⟨plainId_quiet u7 _,ih (i+1) { s' with toks:=tk } es (by nofun) hlt (W.frame _ s' s'.heap tk hst' htk fun _ _ _ e=>e) hS' (by nofun) hM (fun j v' hj hv'=>?_) (fun c o hc e=>hm.heap c o (fun z=>hc (sub c z)) (hkp c o hc e)) fun s2 es2 m2 i2 z2 w2 c2=>?_⟩
   ·rcases xN j i with z|z
    ·exact hC j v' z hv'
    ·have:j=i:=by nofun
     subst this
     rw[hPf _ _ _ hv' hp]
     exact there
   ·exact hR s2 es2 (Moved.trans W.gtrans ((hm.mono sub).then_heap (h':=s'.heap) htk fun _ _ _ e=>e) m2) i2 z2 w2 c2
  ·have hsz:es'.size=es.size+1:=by have:=pm.length_eq;simpa using this
   refine xg ⟨plainId_quiet u7 _,ih (i+1) { s' with heap:=h',toks:=tk } es' (by nofun) hlt (W.frame _ s' h' tk hst' htk fun c hc o e=>?_) i' (by nofun) (fun e he=>?_) (fun j v' hj hv'=>?_) (fun c o hc e=>?_) fun s2 es2 m2 i2 z2 w2 c2=>?_⟩
   ·rw[sb.2 c fun z=>hSf (z ▸ hc)];exact e
   ·rcases xk.mp (pm.mem_iff.mp he)with rfl|he
    ·exact⟨i,hlt,hp⟩
    ·exact hM e he
   ·rcases xN j i with z|z
    ·obtain⟨e,he,ek⟩:=hC j v' z hv'
     exact⟨e,pm.mem_iff.mpr (xZ _ he),ek⟩
    ·have:j=i:=by nofun
     subst this
     rw[hPf _ _ _ hv' hp]
     exact⟨(hx,.ref a),pm.mem_iff.mpr xM,rfl⟩
   ·rw[sb.2 c fun z=>hc (z ▸ xM)]
    exact hm.heap c o (fun z=>hc (sub c z)) (hkp c o hc e)
   ·refine hR s2 es2 (Moved.trans W.gtrans ((hm.mono sub).then_heap (h':=h') htk fun c o hc e=>?_) m2) i2 z2 w2 c2
    rw[sb.2 c fun z=>hc (z ▸ xM)];exact e
end
section
variable {prog:Program}{w:World}{A:Around}{E:Value->Shared->Prop}{s:Shared}{dp:Nat}
theorem zO6 {κ:Addr->D}{l:Addr}{items:Array Value}{Q:Value->Shared->Prop}(hh:A.handled=none) (hl:s.heap.IsList l items) (hdp:dp+1<=8) (hu:A.units+20<cLine) (hn:items.size<=299)
  (hk:∀v∈items.toList,∃a,v=.ref a/\EA s.heap dp (κ a) a)
  (h:∀(h':Heap) (tk:Nat) (es:Array (Int × Value)),IsS dp κ h' s.heap.objs.size es (zDj w)->es.size<=items.size->(∀e∈es.toList,e.2∈items.toList)->(∀v∈items.toList,∃e∈es.toList,kv κ e=κ (adr v))->
   (∀b o,b<s.heap.objs.size->s.heap.get? b=some o->h'.get? b=some o)->Q (.ref s.heap.objs.size) { s with heap:=h',toks:=tk }):
  wpAny (model prog w) A (call (.type "set") [.ref l]) Q E s:=by
 obtain⟨cc,tl,hmro⟩:=xT.mro;have hmade:=xT.made;have hsub:=xT.sub
 refine wpAny_call (codeAny_of_tree (show wpAny _ _ (callAny (.type "set") _) _ _ _ from ?_))
 refine xg ⟨Code.quiet_builtin _ (by decide +kernel),ue F.entry_type_call ?_⟩;rw[Around.under_plain (weight_type_call_type "set" [.ref l] []) rfl]
 have h1:=xT.notType;have h2:=xT.canCreate;have hct:=F.typeCall_set_1 (.ref l)
 repeat (any_goals (first|assumption|wp_step))
 refine v8 (zEd (.ref l) (E:=E) (Q₁:=fun obj s₁=>obj=.ref s.heap.objs.size/\s₁={ s with heap:=s.heap.push (nObj w) }) ⟨rfl,rfl⟩) fun r s₁ hr=>?_
 cases r with
 | error e=>exact hr
 | ok fl=>
  cases fl with
  | ret obj=>
   obtain⟨rfl,rfl⟩:=hr
   have hS:(s.heap.push (nObj w)).get? s.heap.objs.size=some (nObj w):=xv _ rfl
   have hT:Shared.TypeIs { s with heap:=s.heap.push (nObj w) } (.ref s.heap.objs.size) "set":=⟨_,hS,rfl⟩
   have hli:=xT.init.lookup;have hbi:=xT.init.bind (.ref s.heap.objs.size)
   repeat (any_goals (first|assumption|wp_step))
   refine v8 (codeAny_call_builtin (R:=wants (fun r s₂=>r=.none/\∃h' tk es,s₂={ s with heap:=h',toks:=tk }/\IsS dp κ h' s.heap.objs.size es (zDj w)/\es.size<=items.size/\(∀e∈es.toList,e.2∈items.toList)/\(∀v∈items.toList,∃e∈es.toList,kv κ e=κ (adr v)) /\
     (∀b o,b<s.heap.objs.size->s.heap.get? b=some o->h'.get? b=some o)) E) xT.init.plain F.entry_set_init (check_set_init_1 hT ?_)) fun r₂ s₂ hr₂=>?_
   ·have hlt:l<s.heap.objs.size:=by obtain⟨o,ho,_⟩:=hl;exact xi ho
    have hl1:(s.heap.push (nObj w)).IsList l items:=hl.push _
    have hTl:Shared.TypeIs { s with heap:=s.heap.push (nObj w) } (.ref l) "list":=by obtain⟨o,ho,hc,_⟩:=hl1;exact⟨o,ho,hc⟩
    have q1:=F.sub_list_set;have q2:=F.sub_list_frozenset;have q3:(Value.type "list" == Value.type "dict")=false:=by decide
    unfold Builtin.«set.__init__» noKeywords Builtin.Frozenset.updateFrom
    generalize hPI:pyIter=PI
    wp_walk
    subst hPI
    refine uS hl1 (xa (wpAny_runValue ?_))
    have hs2:(s.heap.push (nObj w)).objs.size=s.heap.objs.size+1:=by rw[vp]
    have hneI:l≠(s.heap.push (nObj w)).objs.size:=by rw[hs2];exact xu (vU hlt)
    have hh3:A.in1.in1.in1.handled=none:=by simp[hh]
    have key:∀(i:Nat) (v:Value),items[i]?=some v->∃a,v=.ref a/\EA s.heap dp (κ a) a:=fun i v hv=>hk v (by obtain⟨z,e⟩:=vm.mp hv;rw[<- e];simp)
    have bad:∀c∈s.heap.objs.size::[(s.heap.push (nObj w)).objs.size],∀o,s.heap.get? c=some o->o.cls≠.type "tuple":=fun c hc o e=>by
     have:=xi e
     rw[hs2]at hc
     rcases xk.mp hc with rfl|hc
     ·exact absurd this (xX _)
     ·rw[xI.mp hc]at this
      exact absurd this (Nat.not_lt.mpr (Nat.le_succ _))
    have kp:∀c o,s.heap.get? c=some o->((s.heap.push (nObj w)).push { cls:=.type "list_iterator",data:=.fields #[.ref l,.int 0 0] }).get? c=some o:=fun c o e=>xl _ (xl _ e)
    refine loop (h0:=s.heap) (led:=zDj w) ((Walks.list hh3 _ l hneI items).toS) s.heap.objs.size ?nA hdp (by show A.units+1+1+1+(dp+1)<cLine;lia) key bad (fun i v v' q q'=>xD (q.symm.trans q')) hn ?nB (items.size-0) 0 _ #[] (by nofun) (xC _) ⟨⟨_,xv _ rfl,rfl,rfl⟩,hl1.push _⟩
     ⟨0,_,xl _ hS,zHd _,(fun e he=>by cases he),(fun q hq=>by cases hq),vg⟩ (xC _) (fun e he=>by cases he) (fun j v hj=>by nofun) (fun c o _ e=>kp c o e) ?nD
    case nA=>
     rw[hs2];simp;exact Nat.ne_of_gt hlt
    case nB=>
     rintro i s' ⟨⟨o,ho,hc,_⟩,_⟩ c hcm o' ho'
     have:c=(s.heap.push (nObj w)).objs.size:=by simpa using hcm
     subst this
     rw[ho]at ho';cases ho';rw[hc];decide
    case nD=>
     intro s' es' mv i' z' m' c'
     obtain⟨h',g',d',tk',os'⟩:=s'
     have eg:g'=s.gens:=mv.gens
     have ed:d'=s.drawn:=mv.drawn
     have eo:os'=s.os:=mv.os
     subst eg ed eo
     refine xg (show wpAny _ _ (ret Value.none) _ _ _ from xg ⟨rfl,h',tk',es',rfl,i',z',fun e he=>?_,fun v hv=>?_,fun b o hb e=>?_⟩)
     ·obtain⟨j,hj,hp⟩:=m' e he
      obtain⟨z,e2⟩:=vm.mp hp
      rw[<- e2];simp
     ·obtain⟨j,hj,e2⟩:=vV.mp hv
      exact c' j v (by simpa using hj) (by rw[<- e2];simp)
     ·refine mv.heap b o ?_ (kp b o e)
      rw[hs2];simp only[xk,uJ,or_false,not_or]
      exact⟨xu hb,xu (vU hb)⟩
   ·cases r₂ with
    | error e=>exact hr₂
    | ok fl₂=>
     cases fl₂ with
     | ret r=>
      obtain⟨rfl,h',tk,es,rfl,i1,i2,i3,i4,i5⟩:=hr₂
      repeat (any_goals (first|assumption|wp_step))
      exact h _ _ _ i1 i2 i3 i4 i5
     | _=>exact hr₂.elim
  | _=>exact hr.elim
end
end TU
namespace TU
open PySem TB EK TS
open TS (sObj Tab.ft TabP.ft gate adr nObj zDj zEd)
open DS (D)
open Classical
section
variable {prog:Program}{w:World}{A:Around}{E:Value->Shared->Prop}{s:Shared}{dp:Nat}
theorem zF7:isSubtype (.type "tuple") (.type "set")=pure false:=by rw[isSubtype_type];kernel_rfl
theorem zD6:isSubtype (.type "tuple") (.type "frozenset")=pure false:=by rw[isSubtype_type];kernel_rfl
theorem zLi {κ:Addr->D}{l:Addr}{items:Array Value}{Q:Value->Shared->Prop}(hh:A.handled=none) (hl:s.heap.IsTuple l items) (hdp:dp+1<=8) (hu:A.units+20<cLine) (hn:items.size<=299)
  (hk:∀v∈items.toList,∃a,v=.ref a/\EA s.heap dp (κ a) a)
  (h:∀(h':Heap) (tk:Nat) (es:Array (Int × Value)),IsS dp κ h' s.heap.objs.size es (zDj w)->es.size<=items.size->(∀e∈es.toList,e.2∈items.toList)->(∀v∈items.toList,∃e∈es.toList,kv κ e=κ (adr v))->
   (∀b o,b<s.heap.objs.size->s.heap.get? b=some o->h'.get? b=some o)->Q (.ref s.heap.objs.size) { s with heap:=h',toks:=tk }):
  wpAny (model prog w) A (call (.type "set") [.ref l]) Q E s:=by
 obtain⟨cc,tl,hmro⟩:=xT.mro;have hmade:=xT.made;have hsub:=xT.sub
 refine wpAny_call (codeAny_of_tree (show wpAny _ _ (callAny (.type "set") _) _ _ _ from ?_))
 refine xg ⟨Code.quiet_builtin _ (by decide +kernel),ue F.entry_type_call ?_⟩;rw[Around.under_plain (weight_type_call_type "set" [.ref l] []) rfl]
 have h1:=xT.notType;have h2:=xT.canCreate;have hct:=F.typeCall_set_1 (.ref l)
 repeat (any_goals (first|assumption|wp_step))
 refine v8 (zEd (.ref l) (E:=E) (Q₁:=fun obj s₁=>obj=.ref s.heap.objs.size/\s₁={ s with heap:=s.heap.push (nObj w) }) ⟨rfl,rfl⟩) fun r s₁ hr=>?_
 cases r with
 | error e=>exact hr
 | ok fl=>
  cases fl with
  | ret obj=>
   obtain⟨rfl,rfl⟩:=hr
   have hS:(s.heap.push (nObj w)).get? s.heap.objs.size=some (nObj w):=xv _ rfl
   have hT:Shared.TypeIs { s with heap:=s.heap.push (nObj w) } (.ref s.heap.objs.size) "set":=⟨_,hS,rfl⟩
   have hli:=xT.init.lookup;have hbi:=xT.init.bind (.ref s.heap.objs.size)
   repeat (any_goals (first|assumption|wp_step))
   refine v8 (codeAny_call_builtin (R:=wants (fun r s₂=>r=.none/\∃h' tk es,s₂={ s with heap:=h',toks:=tk }/\IsS dp κ h' s.heap.objs.size es (zDj w)/\es.size<=items.size/\(∀e∈es.toList,e.2∈items.toList)/\(∀v∈items.toList,∃e∈es.toList,kv κ e=κ (adr v)) /\
     (∀b o,b<s.heap.objs.size->s.heap.get? b=some o->h'.get? b=some o)) E) xT.init.plain F.entry_set_init (check_set_init_1 hT ?_)) fun r₂ s₂ hr₂=>?_
   ·have hlt:l<s.heap.objs.size:=by obtain⟨o,ho,_⟩:=hl;exact xi ho
    have hl1:(s.heap.push (nObj w)).IsTuple l items:=hl.push _
    have hTl:Shared.TypeIs { s with heap:=s.heap.push (nObj w) } (.ref l) "tuple":=by obtain⟨o,ho,hc,_⟩:=hl1;exact⟨o,ho,hc⟩
    have q1:=zF7;have q2:=zD6;have q3:(Value.type "tuple" == Value.type "dict")=false:=by decide
    unfold Builtin.«set.__init__» noKeywords Builtin.Frozenset.updateFrom
    generalize hPI:pyIter=PI
    wp_walk
    subst hPI
    refine wpAny_pyIter_tuple hl1 (xa (wpAny_runValue ?_))
    have hs2:(s.heap.push (nObj w)).objs.size=s.heap.objs.size+1:=by rw[vp]
    have hneI:l≠(s.heap.push (nObj w)).objs.size:=by rw[hs2];exact xu (vU hlt)
    have hh3:A.in1.in1.in1.handled=none:=by simp[hh]
    have key:∀(i:Nat) (v:Value),items[i]?=some v->∃a,v=.ref a/\EA s.heap dp (κ a) a:=fun i v hv=>hk v (by obtain⟨z,e⟩:=vm.mp hv;rw[<- e];simp)
    have bad:∀c∈s.heap.objs.size::[(s.heap.push (nObj w)).objs.size],∀o,s.heap.get? c=some o->o.cls≠.type "tuple":=fun c hc o e=>by
     have:=xi e
     rw[hs2]at hc
     rcases xk.mp hc with rfl|hc
     ·exact absurd this (xX _)
     ·rw[xI.mp hc]at this
      exact absurd this (Nat.not_lt.mpr (Nat.le_succ _))
    have kp:∀c o,s.heap.get? c=some o->((s.heap.push (nObj w)).push { cls:=.type "tuple_iterator",data:=.fields #[.ref l,.int 0 0] }).get? c=some o:=fun c o e=>xl _ (xl _ e)
    refine loop (h0:=s.heap) (led:=zDj w) ((Walks.tuple hh3 _ l hneI items).toS) s.heap.objs.size ?nA hdp (by show A.units+1+1+1+(dp+1)<cLine;lia) key bad (fun i v v' q q'=>xD (q.symm.trans q')) hn ?nB (items.size-0) 0 _ #[] (by nofun) (xC _) ⟨⟨_,xv _ rfl,rfl,rfl⟩,hl1.push _⟩
     ⟨0,_,xl _ hS,zHd _,(fun e he=>by cases he),(fun q hq=>by cases hq),vg⟩ (xC _) (fun e he=>by cases he) (fun j v hj=>by nofun) (fun c o _ e=>kp c o e) ?nD
    case nA=>
     rw[hs2];simp;exact Nat.ne_of_gt hlt
    case nB=>
     rintro i s' ⟨⟨o,ho,hc,_⟩,_⟩ c hcm o' ho'
     have:c=(s.heap.push (nObj w)).objs.size:=by simpa using hcm
     subst this
     rw[ho]at ho';cases ho';rw[hc];decide
    case nD=>
     intro s' es' mv i' z' m' c'
     obtain⟨h',g',d',tk',os'⟩:=s'
     have eg:g'=s.gens:=mv.gens
     have ed:d'=s.drawn:=mv.drawn
     have eo:os'=s.os:=mv.os
     subst eg ed eo
     refine xg (show wpAny _ _ (ret Value.none) _ _ _ from xg ⟨rfl,h',tk',es',rfl,i',z',fun e he=>?_,fun v hv=>?_,fun b o hb e=>?_⟩)
     ·obtain⟨j,hj,hp⟩:=m' e he
      obtain⟨z,e2⟩:=vm.mp hp
      rw[<- e2];simp
     ·obtain⟨j,hj,e2⟩:=vV.mp hv
      exact c' j v (by simpa using hj) (by rw[<- e2];simp)
     ·refine mv.heap b o ?_ (kp b o e)
      rw[hs2];simp only[xk,uJ,or_false,not_or]
      exact⟨xu hb,xu (vU hb)⟩
   ·cases r₂ with
    | error e=>exact hr₂
    | ok fl₂=>
     cases fl₂ with
     | ret r=>
      obtain⟨rfl,h',tk,es,rfl,i1,i2,i3,i4,i5⟩:=hr₂
      repeat (any_goals (first|assumption|wp_step))
      exact h _ _ _ i1 i2 i3 i4 i5
     | _=>exact hr₂.elim
  | _=>exact hr.elim
end
end TU
namespace DS
open PySem (Str)
noncomputable section
open Classical
noncomputable def sortable (l:List D):Prop:=l.length<=63/\∃n,n<=6/\∀x∈l,lv n x
noncomputable def zGy (S:Store):List D->Option D
 | [d]=>match items S d with
  | some l=>if sortable l then some (.lst (srt l))else none
  | none=>none
 | _=>none
noncomputable def setable (l:List D):Prop:=l.length<=63/\∃n,n+1<=6/\∀x∈l,lv (n+1) x
noncomputable def ssL (S:Store) (d:D):Option D:=match items S d with
 | some l=>if setable l then some (.lst (srt (dedup l)))else none
 | none=>none
noncomputable def ltN (S:Store) (x y:D):Option D:=match x,y with
 | .int a,.int b=>some (.bl (decide (a<b)))
 | .str a,.str b=>some (.bl (decide (a.cps.toList<b.cps.toList)))
 | .tup l,.tup m=>if ∃n,n+1<=6/\lv (n+1) (.tup l)/\lv (n+1) (.tup m)then some (.bl (blt (.tup l) (.tup m)))else none
 | _,_=>none
noncomputable def revS (S:Store) (x:D):Option D:=match x with
 | .tup l=>some (.tup l.reverse)
 | x=>match look S x with
  | some (.lst l)=>some (.lst l.reverse)
  | _=>none
end
end DS
namespace L2
open PySem PySem.Spec PyProof.Rows EK
open DS (D Store Exn Rs SR lv srt)
section
variable {X:Cx}{K:PySem.W.Frag}{E:XE}{J:Js}{S:Store}{H:Hp}{d d1 d2:D}{v:V}{pins:List (Addr × Obj)}{σ:St}{s:Shared}
theorem zKm (I:Inv X pins σ H s):∀(n:Nat) {d:D}{v:V}{u:Value},lv n d->Rep K J H d v->RelV v u->Ek s.heap n d u
 | 0,_,v,u,⟨i,e⟩,r,q=>by
  subst e
  obtain rfl:v=.int i:=r
  obtain⟨t,rfl⟩:=q
  exact⟨i,t,rfl,rfl⟩
 | n+1,_,v,u,⟨l,e,hl⟩,r,q=>by
  subst e
  obtain⟨a,xs,rfl,t,rl⟩:=r
  cases q
  obtain⟨_,its,rv,o,ho,hc,k,hd⟩:=(show ObjOk X.prog X.w H s.heap a (.tup xs)from I.hok _ _ t.1)
  refine⟨l,a,o,_,k,rfl,rfl,ho,hc,hd,?_⟩
  have go:∀(l:List D) (xs:List V) (its:List Value),(∀x∈l,lv n x)->RepL K J H l xs->Vals xs its->A2 (Ek s.heap n) l its:=by
   intro l
   induction l with
   | nil=>intro xs its _ rl rv;obtain rfl:xs=[]:=rl;cases rv;exact .nil
   | cons d l ih=>
    intro xs its hl rl rv
    obtain⟨x,r,rfl,h,rl⟩:=rl
    cases rv with
    | cons q rv=>exact .cons (zKm I n (hl d (.head _)) h q) (ih _ _ (fun y hy=>hl y (.tail _ hy)) rl rv)
  simpa using go l xs its hl rl rv
theorem zN1 (I:Inv X pins σ H s) {n:Nat}:∀{l:List D}{xs:List V}{us:List Value},(∀x∈l,lv n x)->RepL K J H l xs->Vals xs us->A2 (Ek s.heap n) l us
 | [],xs,us,_,rl,rv=>by obtain rfl:xs=[]:=rl;cases rv;exact .nil
 | d::l,_,_,hl,⟨x,r,e,h,rl⟩,rv=>by
  subst e
  cases rv with
  | cons q rv=>exact .cons (zKm I n (hl d (.head _)) h q) (zN1 I (fun y hy=>hl y (.tail _ hy)) rl rv)
theorem zLp {l:List D}{xs:List V}{us:List Value}(rl:RepL K J H l xs) (rv:Vals xs us):∀u∈us,∃d x,d∈l/\Rep K J H d x/\RelV x u:=by
 induction l generalizing xs us with
 | nil=>obtain rfl:xs=[]:=rl;cases rv;intro u hu;cases hu
 | cons d l ih=>
  obtain⟨x,r,rfl,h,rl⟩:=rl
  cases rv with
  | cons q rv=>
   intro u hu
   rcases xk.mp hu with rfl|hu
   ·exact⟨d,x,.head _,h,q⟩
   ·obtain⟨d',x',m,r1,r2⟩:=ih rl rv u hu
    exact⟨d',x',.tail _ m,r1,r2⟩
theorem back {n:Nat}{h h':Heap}{l:List D}{xs:List V}{us:List Value}(hk:A2 (Ek h n) l us) (kp:∀b o,h.get? b=some o->h'.get? b=some o) (rl:RepL K J H l xs) (rv:Vals xs us)
  (hl:∀x∈l,lv n x) (ek:∀d x u,d∈l->Rep K J H d x->RelV x u->Ek h n d u):∀{m:List D}{vs:List Value},A2 (Ek h' n) m vs->(∀u∈vs,u∈us)->∃ys,RepL K J H m ys/\Vals ys vs
 | [],_,.nil,_=>⟨[],rfl,.nil⟩
 | d::m,_,.cons (b:=u) q r,hm=>by
  obtain⟨ys,r1,r2⟩:=back hk kp rl rv hl ek r fun u hu=>hm u (.tail _ hu)
  obtain⟨d',x,mem,rx,rq⟩:=zLp rl rv u (hm u (.head _))
  have e:=((ek d' x u mem rx rq).kept fun b o e _=>kp b o e).inj q
  subst e
  exact⟨x::ys,⟨x,ys,rfl,rx,r1⟩,.cons rq r2⟩
theorem zDp (hu:X.A.units+64<cLine) (hK:X.K=K:=by rfl):zBa X (.builtin "sorted") (cOfF K DS.zGy):=by
 subst hK
 intro pins s σ H xs us Q I r ⟨J,S,ds,d,ha,rl,e,k⟩
 unfold DS.zGy at e
 split at e
 ·rename_i d0
  obtain⟨x,rfl,rx⟩:=zDy (ds:=[]) rl
  cases e1:DS.items S d0 with
  | none=>rw[e1]at e;cases e
  | some l=>
   rw[e1]at e
   dsimp only at e
   split at e
   ·rename_i hs
    cases e
    obtain⟨hz,n,hn,hl⟩:=hs
    obtain⟨a,ys,rfl,hq,q⟩:=zC9 ha rx e1
    obtain⟨u,rfl,ru⟩:=vals1 r
    cases ru
    have src:∃(o:Obj) (its:List Value) (c:Nat) (T:String),s.heap.get? a=some o/\o.cls=.type T/\(T="list"\/T="tuple")/\o.data=.seq its.toArray c/\Vals ys its/\its.length<=sizeLine:=by
     rcases hq with hq|hq
     ·obtain⟨its,rv',pl,hz'⟩:=I.list hq
      obtain⟨o,ho,hc,c,hd⟩:=pl.isList
      exact⟨o,its,c,"list",ho,hc,.inl rfl,hd,rv',by rw[<- Vals.length rv'];exact hz'⟩
     ·obtain⟨its,rv',pl,hz'⟩:=I.tuple hq
      obtain⟨o,ho,hc,c,hd⟩:=pl
      exact⟨o,its,c,"tuple",ho,hc,.inr rfl,hd,rv',by rw[<- Vals.length rv'];exact hz'⟩
    obtain⟨o,its,c,T,ho,hc,hT,hd,rv',hz'⟩:=src
    have hk:=zN1 (J:=J) (K:=X.K) I hl q rv'
    refine EK.zEn (n:=n) (m:=s.heap.objs.size) (G:=fun ds vs=>ds=l/\vs=its) (by nofun) (fun R hR=>zNk ho hc hT hd hz' fun h' sz kp=>hR h' s.toks l its sz kp (hk.imp fun _ _ z=>z.kept fun b o e _=>kp b o e) (by rw[<- hk.length];exact hz) ⟨rfl,rfl⟩) fun ds vs vs' c tk h' L hg hz2 pm a2 hL kp hD=>?_
    obtain⟨rfl,rfl⟩:=hg
    obtain⟨zs,r1,r2⟩:=back hk kp q rv' hl (fun d x u m rx ru=>zKm I n (hl d m) rx ru) a2 fun u hu=>pm.mem_iff.mp hu
    have len:zs.length<=sizeLine:=by rw[Vals.length r2,pm.length_eq];exact hz'
    exact⟨.ref L,_,I.laid (t':=tk) kp hL (show ObjOk X.prog X.w _ h' _ (.lst zs)from⟨len,_,c,r2,hD⟩),rfl,k L _ H ha .refl (I.hok.fresh hL) ⟨zs,rfl,r1⟩⟩
   ·cases e
 ·cases e
end
end L2
namespace L2
open PySem PySem.Spec PyProof.Rows EK TU
open TS (sObj zDj adr ordW zEp zCo zLb Tab.ft)
open DS (D Store Exn Rs SR lv srt dedup)
section
variable {X:Cx}{K:PySem.W.Frag}{E:XE}{J:Js}{S:Store}{H:Hp}{d d1 d2:D}{v:V}{pins:List (Addr × Obj)}{σ:St}{s:Shared}
theorem zPx (I:Inv X pins σ H s) {a:Addr}{ys:List V}(hq:SqL X.K H a ys\/SqT X.K H a ys):∃(o:Obj) (its:List Value) (c:Nat) (T:String),s.heap.get? a=some o/\o.cls=.type T/\(T="list"\/T="tuple")/\o.data=.seq its.toArray c/\Vals ys its/\its.length<=sizeLine:=by
 rcases hq with hq|hq
 ·obtain⟨its,rv',pl,hz'⟩:=I.list hq
  obtain⟨o,ho,hc,c,hd⟩:=pl.isList
  exact⟨o,its,c,"list",ho,hc,.inl rfl,hd,rv',by rw[<- Vals.length rv'];exact hz'⟩
 ·obtain⟨its,rv',pl,hz'⟩:=I.tuple hq
  obtain⟨o,ho,hc,c,hd⟩:=pl
  exact⟨o,its,c,"tuple",ho,hc,.inr rfl,hd,rv',by rw[<- Vals.length rv'];exact hz'⟩
structure SGood (K:PySem.W.Frag) (J:Js) (H:Hp) (κ:Addr->D) (es:Array (Int × Value)) (l:List D):Prop where
 mem:∀d,d∈es.toList.map (kv κ) <-> d∈l
 rep:∀e∈es.toList,∃x,Rep K J H (kv κ e) x/\RelV x e.2
theorem zVa {A:Around}{EE:Value->Shared->Prop}{dp:Nat}{l:List D}{a:Addr}{ys:List V}{Q:Value->Shared->Prop}(I:Inv X pins σ H s) (hh:A.handled=none) (hu:A.units+20<cLine) (hq:SqL X.K H a ys\/SqT X.K H a ys) (rl:RepL K J H l ys) (hdp:dp+1<=6) (hl:∀x∈l,lv (dp+1) x) (hz:l.length<=299)
  (h:∀(h':Heap) (tk:Nat) (es:Array (Int × Value)) (κ:Addr->D),IsS dp κ h' s.heap.objs.size es (zDj X.w)->es.size<=l.length->SGood K J H κ es l->(∀b o,s.heap.get? b=some o->h'.get? b=some o)->Q (.ref s.heap.objs.size) { s with heap:=h',toks:=tk }):
  wpAny (model X.prog X.w) A (call (.type "set") [.ref a]) Q EE s:=by
 obtain⟨o,its,c,T,ho,hc,hT,hd,rv,_⟩:=zPx I hq
 have hk:=zN1 (J:=J) (K:=K) I hl rl rv
 have key:∀u∈its,∃b d x,u=.ref b/\d∈l/\kd s.heap (dp+1) (.ref b)=d/\Ek s.heap (dp+1) d (.ref b)/\Rep K J H d x/\RelV x u:=fun u hm=>by
  obtain⟨d,x,md,rx,rq⟩:=zLp rl rv u hm
  have q:=zKm (K:=K) (J:=J) I (dp+1) (hl d md) rx rq
  have q0:=q
  obtain⟨ds,b,ob,items,k,rfl,rfl,_⟩:=q
  exact⟨b,_,x,rfl,md,zIg q0,q0,rx,rq⟩
 have post:∀(h':Heap) (tk:Nat) (es:Array (Int × Value)),IsS dp (fun b=>kd s.heap (dp+1) (.ref b)) h' s.heap.objs.size es (zDj X.w)->es.size<=its.toArray.size->(∀e∈es.toList,e.2∈its.toArray.toList)->(∀v∈its.toArray.toList,∃e∈es.toList,kv (fun b=>kd s.heap (dp+1) (.ref b)) e=(fun b=>kd s.heap (dp+1) (.ref b)) (adr v))->
   (∀b o,b<s.heap.objs.size->s.heap.get? b=some o->h'.get? b=some o)->Q (.ref s.heap.objs.size) { s with heap:=h',toks:=tk }:=fun h' tk es i1 z1 m1 cv k1=>by
  refine h h' tk es _ i1 (by rw[hk.length];simpa using z1) ⟨fun d=>?_,fun e he=>?_⟩ fun b o e=>k1 b o (xi e) e
  ·constructor
   ·intro hm
    obtain⟨e,he,rfl⟩:=xt.mp hm
    obtain⟨b,d,x,eb,md,ek,_,_,_⟩:=key e.2 (by simpa using m1 e he)
    unfold kv
    rw[eb]
    show kd s.heap (dp+1) (.ref b)∈l
    rw[ek];exact md
   ·intro hm
    obtain⟨u,hu',q⟩:=hk.mem_l d hm
    obtain⟨e,he,ek⟩:=cv u (by simpa using hu')
    refine xt.mpr ⟨e,he,ek.trans ?_⟩
    have q0:=q
    obtain⟨ds,b,ob,items,k,rfl,rfl,_⟩:=q
    exact zIg q0
  ·obtain⟨b,d,x,eb,md,ek,_,rx,rq⟩:=key e.2 (by simpa using m1 e he)
   refine⟨x,?_,rq⟩
   unfold kv
   rw[eb]
   show Rep K J H (kd s.heap (dp+1) (.ref b)) x
   rw[ek];exact rx
 have kk:∀v∈its.toArray.toList,∃b,v=.ref b/\EA s.heap dp (kd s.heap (dp+1) (.ref b)) b:=fun v hv=>by
  obtain⟨b,d,x,eb,md,ek,q,_,_⟩:=key v (by simpa using hv)
  exact⟨b,eb,by rw[ek];exact q⟩
 have sz:its.toArray.size<=299:=by simpa[<- hk.length]using hz
 rcases hT with rfl|rfl
 ·exact zO6 (κ:=fun b=>kd s.heap (dp+1) (.ref b)) (items:=its.toArray) hh ⟨o,ho,hc,c,hd⟩ (by nofun) hu sz kk post
 ·exact zLi (κ:=fun b=>kd s.heap (dp+1) (.ref b)) (items:=its.toArray) hh ⟨o,ho,hc,c,hd⟩ (by nofun) hu sz kk post
theorem zTh {prog:Program}{w:World}{A:Around}{EE:Value->Shared->Prop}{dp:Nat}{κ:Addr->D}{T:Addr}{es:Array (Int × Value)}{R:List Value->Shared->Prop}(hh:A.handled=none) (hS:IsS dp κ s.heap T es (zDj w)) (hz:es.size<=sizeLine)
  (h:∀(h':Heap) (tk:Nat) (vs:List Value),(∀b o,s.heap.get? b=some o->h'.get? b=some o)->vs.Perm (es.toList.map (·.2))->A2 (Ek h' (dp+1)) (vs.map fun v=>κ (adr v)) vs->R vs { s with heap:=h',toks:=tk }):wpAny (model prog w) A (collect (.ref T)) R EE s:=by
 obtain⟨ep,t,ho,Tb,he,_,nd⟩:=hS
 refine PySem.W.kdu_collect (zLb Tb) hh ho hz fun h' tk acc kp it=>?_
 have ea:acc.toList=((ordW w T ep es).map (·.2)).toList:=by
  refine List.ext_getElem? fun i=>?_
  rcases xN i acc.size with z|z
  ·have e1:=it.2 i acc[i] (vh z)
   rw[Array.getElem?_toList,vh z,Array.getElem?_toList,e1]
  ·rw[uf (by simpa using z),uf (by simp[zCo];rw[<- it.1];exact z)]
 have pm:acc.toList.Perm (es.toList.map (·.2)):=by rw[ea,Array.toList_map];exact(zEp w T ep es).map _
 refine h h' tk acc.toList kp pm ?_
 have al:∀v∈acc.toList,∃b,v=.ref b/\EA s.heap dp (κ b) b:=fun v hv=>by
  obtain⟨e,hm,rfl⟩:=xt.mp (pm.mem_iff.mp hv)
  obtain⟨b,e1,q,_⟩:=he e hm
  exact⟨b,e1,q⟩
 generalize acc.toList=vs at al
 clear pm ea
 induction vs with
 | nil=>exact .nil
 | cons v vs ih=>
  obtain⟨b,rfl,q⟩:=al v (.head _)
  exact .cons (Ek.kept q fun b o e _=>kp b o e) (ih fun u hu=>al u (.tail _ hu))
theorem zR5 {A:Around}{EE:Value->Shared->Prop}{dp:Nat}{κ:Addr->D}{T:Addr}{es:Array (Int × Value)}{l:List D}{Q:VK}{s1:Shared}(I:Inv X pins σ H s1) (hh:A.handled=none) (hu:A.units+20<cLine) (hS:IsS dp κ s.heap T es (zDj X.w)) (hdp:dp+1<=6)
  (k1:∀b o,s1.heap.get? b=some o->s.heap.get? b=some o) (e1:s={ s1 with heap:=s.heap,toks:=s.toks }) (hT:s1.heap.objs.size<=T) (hz:es.size<=63) (g:SGood K J H κ es l) (hl:∀x∈l,lv (dp+1) x)
  (h:∀(L:Addr) (zs:List V),H L=none->RepL K J H (srt (dedup l)) zs->Q (.ref L) (upd H L (.lst zs))):wpAny (model X.prog X.w) A (call (.builtin "sorted") [.ref T]) (EP X pins σ Q) EE s:=by
 have nd:=hS
 obtain⟨_,_,hoT,_,he,_,nd⟩:=nd
 refine EK.zEn (n:=dp+1) (m:=T+1) (G:=fun ds vs=>vs.Perm (es.toList.map (·.2))/\ds=vs.map fun v=>κ (adr v)) (by nofun) (fun R hR=>zTh (A:=A.in1) hh hS (by rw[xJ];lia) fun h' tk vs kp pm a2=>hR h' tk _ vs (xi (kp T _ hoT)) kp a2 (by rw[pm.length_eq];simpa using hz) ⟨pm,rfl⟩) fun ds vs vs' c tk h' L hg hz2 pm a2 hL kp hD=>?_
 obtain⟨pv,rfl⟩:=hg
 have pd:(vs.map fun v=>κ (adr v)).Perm (dedup l):=by
  have p1:(vs.map fun v=>κ (adr v)).Perm (es.toList.map (kv κ)):=by
   have:=pv.map fun v=>κ (adr v)
   rw[ud]at this
   exact this
  refine p1.trans (DS.zSe nd DS.zDn fun x=>?_)
  rw[g.mem,DS.mem_dedup]
 have es1:srt (vs.map fun v=>κ (adr v))=srt (dedup l):=by
  have lv1:∀y∈vs.map (fun v=>κ (adr v)),lv (dp+1) y:=fun y hy=>hl y (DS.mem_dedup.mp (pd.mem_iff.mp hy))
  exact DS.zJ0 (fun y hy=>lv1 y ((DS.zB3 _).mem_iff.mp hy)) ((DS.zB3 _).trans pd) (DS.zGx lv1)
 rw[es1]at a2
 have src:∀u∈vs',∃d x,Rep K J H d x/\RelV x u/\Ek h' (dp+1) d u:=fun u hm=>by
  obtain⟨e,he',rfl⟩:=xt.mp (pv.mem_iff.mp (pm.mem_iff.mp hm))
  obtain⟨x,rx,rq⟩:=g.rep e he'
  obtain⟨b,eb,q,_⟩:=he e he'
  refine⟨kv κ e,x,rx,rq,?_⟩
  unfold kv
  rw[eb]
  exact q.kept fun b o e _=>kp b o e
 have bk:∀{m:List D}{vs:List Value},A2 (Ek h' (dp+1)) m vs->(∀u∈vs,u∈vs')->∃ys,RepL K J H m ys/\Vals ys vs:=by
  intro m vs a2
  induction a2 with
  | nil=>exact fun _=>⟨[],rfl,.nil⟩
  | @cons d u m vs q _ ih=>
   intro hm
   obtain⟨ys,r1,r2⟩:=ih fun u hu=>hm u (.tail _ hu)
   obtain⟨d',x,rx,rq,q'⟩:=src u (hm u (.head _))
   have e:=q'.inj q
   subst e
   exact⟨x::ys,⟨x,ys,rfl,rx,r1⟩,.cons rq r2⟩
 obtain⟨zs,r1,r2⟩:=bk a2 fun u hu=>hu
 have len:zs.length<=sizeLine:=by rw[Vals.length r2,pm.length_eq,pv.length_eq,xJ];simp;lia
 have hL':s1.heap.objs.size<=L:=xm hT (Nat.le_of_succ_le hL)
 have I':Inv X pins σ (upd H L (.lst zs)) { s1 with heap:=h',toks:=tk }:=I.laid (t':=tk) (fun b o e=>kp b o (k1 b o e)) hL' (show ObjOk X.prog X.w _ h' _ (.lst zs)from⟨len,_,c,r2,hD⟩)
 rw[e1]
 exact⟨.ref L,_,I',rfl,h L zs (I.hok.fresh hL') r1⟩
end
section
variable {X:Cx}{K:PySem.W.Frag}{E:XE}
theorem zVz {e:Expr}{m:DS.EM}{p p2 pos pos2:Pos}(hc:X.calm=true) (hu:X.A.units+64<cLine) (he:DE X K E e m) (hgs:Gl X "sorted") (hms:X.mg "sorted"=none) (hgt:Gl X "set") (hmt:X.mg "set"=none) (h:nst e=true:=by rfl) (hK:X.K=K:=by rfl):
  DF X K E (.Call (.Name "sorted" p) [.Call (.Name "set" p2) [e] [] pos2] [] pos) (DS.eUn DS.ssL m):=by
 subst hK
 refine⟨⟨fun pins s σ H Q I hq1=>?_⟩⟩
 obtain⟨env,S,J,ha,hE,q⟩:=hq1
 have hs:starEach [e] X.env=[(false,eval e X.env)]:=zBg h
 have hs2:starEach [Expr.Call (.Name "set" p2) [e] [] pos2] X.env=[(false,eval (.Call (.Name "set" p2) [e] [] pos2) X.env)]:=rfl
 refine ur (zE0 I hgs hms u9 (PyProof.Rows.callWith_builtin1 ?_ hs2 rfl))
 rw[hs2]
 refine(show wpAny _ _ (spliced ((false,eval (.Call (.Name "set" p2) [e] [] pos2) X.env)::backTo pos [])) _ _ s from uP ?_)
 refine ur (zE0 I hgt hmt PyProof.Rows.boot_set (u3 ?_ hs rfl))
 rw[hs]
 refine(show wpAny _ _ (spliced ((false,eval e X.env)::backTo pos2 [])) _ _ s from uP ?_)
 refine thn (he.h.h pins s σ H (fun x H1=>∃J1 S1 d0 d,AbS X.K J1 S1 H1/\Rep X.K J1 H1 d0 x/\DS.ssL S1 d0=some d/\∀p o,H1 p=none->ObD X.K J1 H1 d o->Q (.ref p) (upd H1 p o)) I ⟨env,S,J,ha,hE,q.bind.imp fun d0 S1 J1 H1 _ a1 g1 q1 x rx=>?_⟩) fun v s1 hq1=>?_
 ·obtain⟨c,ec,k⟩:=q1.lift
  exact⟨J1,S1,d0,c,a1,rx,ec,k J1 H1 a1 .refl⟩
 ·obtain⟨x,H1,I1,r1,J1,S1,d0,d,a1,rx,ed,k⟩:=hq1
  refine uO ?_
  unfold DS.ssL at ed
  cases e1:DS.items S1 d0 with
  | none=>rw[e1]at ed;cases ed
  | some l=>
   rw[e1]at ed
   dsimp only at ed
   split at ed
   ·rename_i hs
    cases ed
    obtain⟨hz,n,hn,hl⟩:=hs
    obtain⟨a,ys,rfl,hq,q⟩:=zC9 a1 rx e1
    cases r1
    refine zVa (K:=X.K) (J:=J1) I1 (I.ok.hd hc) (by nofun) hq q hn hl (by nofun) fun h1 tk1 es κ i1 z1 g1 k1=>uO ?_
    refine zR5 (K:=X.K) (J:=J1) (s:={ s1 with heap:=h1,toks:=tk1 }) (s1:=s1) I1 (I.ok.hd hc) (by nofun) i1 hn k1 rfl (xh _) (by nofun) g1 hl fun L zs hL r=>k L _ hL ⟨zs,rfl,r⟩
   ·cases ed
end
end L2
namespace L2
open PySem PySem.Spec PyProof.Rows EK
open DS (D Store Exn Rs SR lv srt dedup)
section
variable {X:Cx}{K:PySem.W.Frag}{E:XE}{J:Js}{S:Store}{H:Hp}{d d1 d2:D}{v:V}{pins:List (Addr × Obj)}{σ:St}{s:Shared}
theorem zS9 (hu:X.A.units+64<cLine):OpR X (compareOp .Lt) (r2Of K DS.ltN):=by
 intro pins s σ H x y a b Q I rx ry ⟨J,S,d1,d2,d,ha,r1,r2,e,k⟩
 unfold DS.ltN at e
 split at e
 ·cases e
  obtain rfl:=r1
  obtain rfl:=r2
  exact zWx pins s σ H _ _ a b Q I rx ry ⟨_,_,rfl,rfl,k _ H ha .refl rfl⟩
 ·cases e
  obtain rfl:=r1
  obtain rfl:=r2
  exact zMb pins s σ H _ _ a b Q I rx ry ⟨_,_,rfl,rfl,k _ H ha .refl rfl⟩
 ·split at e
  ·rename_i hs
   cases e
   obtain⟨n,hn,h1,h2⟩:=hs
   have q1:=zKm (K:=K) (J:=J) I (n+1) h1 r1 rx
   have q2:=zKm (K:=K) (J:=J) I (n+1) h2 r2 ry
   exact(zPf (n+1) q1 q2 (by nofun) ⟨.bl (DS.blt (.tup _) (.tup _)),H,I,rfl,k _ H ha .refl rfl⟩:wpAny (model X.prog X.w) X.A (richCompare .Lt a b) (EP X pins σ Q) X.xe s)
  ·cases e
 ·cases e
theorem zFb (xs:List Value) (i:Nat) (hi:i<xs.length):xs[((xs.length:Int)-1+-1*(i:Int)).toNat]?=xs.reverse[i]?:=by
 rw[List.getElem?_reverse hi]
 congr 1
 lia
theorem zFc (xs:List Value) (f:Nat->Option Value) (hf:∀i,i<xs.length->f i=xs[i]?):(List.range xs.length).filterMap f=xs:=by
 have:∀n,n<=xs.length->(List.range n).filterMap f=xs.take n:=by
  intro n
  induction n with
  | zero=>intro _;rfl
  | succ n ih=>
   intro hn
   rw[List.range_succ,List.filterMap_append,ih (by nofun),List.take_add_one]
   rw[xp (by nofun)]
   have e:f n=some (xs[n]'(by nofun)):=by rw[hf n (by nofun),xp (by nofun)]
   simp[e]
 rw[this _ (xh _),List.take_length]
theorem zOk (xs:List Value):slicePick xs.toArray none none (some (-1))=xs.reverse.toArray:=by
 unfold slicePick
 have e1:(sliceBounds none none (some (-1)) xs.toArray.size).1=(xs.length:Int)-1:=by simp[sliceBounds]
 have e2:(sliceBounds none none (some (-1)) xs.toArray.size).2.1=-1:=by simp[sliceBounds]
 have e3:(sliceBounds none none (some (-1)) xs.toArray.size).2.2=-1:=by simp[sliceBounds]
 rw[e1,e2,e3]
 unfold sliceRange
 have ec:(if(-1:Int) > 0 then(if(xs.length:Int)-1 < -1 then(-1-((xs.length:Int)-1)+-1-1) / -1 else 0)else(if(xs.length:Int)-1 > -1 then((xs.length:Int)-1 - -1 - -1-1) / (- -1)else 0)).toNat=xs.reverse.length:=by
  rw[ya,xf (by nofun),show(- -1:Int)=1 by decide,Int.ediv_one]
  split <;> lia
 dsimp only
 rw[ec,List.filterMap_map]
 congr 1
 refine zFc _ _ fun i hi=>?_
 show xs.toArray[((xs.length:Int)-1+-1*(i:Int)).toNat]?=_
 rw[List.getElem?_toArray]
 exact zFb xs i (by simpa using hi)
end
end L2
namespace L2
open PySem PySem.Spec PyProof.Rows EK
open DS (D Store Exn Rs SR lv srt dedup)
section
variable {prog:Program}{w:World}{A:Around}{E:Value->Shared->Prop}{s:Shared}
theorem zIw {sl:Addr}{t:Tok}{n:Nat}{Q:Int × Int × Nat->Shared->Prop}(hs:s.heap.IsSliceOf sl .none .none (.int (-1) t)) (h:Q ((n:Int)-1,-1,n) s):wpAny (model prog w) A (Builtin.Slice.sliceApplied (.ref sl) (pure (n:Int))) Q E s:=by
 obtain⟨os,hos,hcs,hds⟩:=id hs
 unfold Builtin.Slice.sliceApplied Builtin.Slice.sliceFields
 refine xa (xa (vv hos hds (x:=.none) rfl (xa (vv hos hds (x:=.none) rfl (xa (vv hos hds (x:=.int (-1) t) rfl (xg (xa (HT.slicePart_ (.int (-1) t) ?_)))))))))
 refine(show wpAny _ _ (if((-1:Int) == 0)=true then _ else _) _ _ s from ?_)
 rw[xf (by decide)]
 refine xa (HT.slicePart_ .none (xa (HT.slicePart_ .none (xa (xg ?_)))))
 have e:Builtin.Slice.sliceAdjust none none (-1) (n:Int)=((n:Int)-1,-1):=by simp[Builtin.Slice.sliceAdjust]
 have e2:Builtin.Slice.slicePlaces ((n:Int)-1) (-1) (-1)=n:=by
  unfold Builtin.Slice.slicePlaces
  rw[xf (by decide),show(- -1:Int)=1 by decide,Int.ediv_one]
  split <;> lia
 refine(show wpAny _ _ (match Builtin.Slice.sliceAdjust none none (-1) (n:Int)with|(lo,hi)=>pure (lo,(-1:Int),Builtin.Slice.slicePlaces lo hi (-1))) _ _ s from ?_)
 rw[e]
 dsimp only
 rw[e2]
 exact xg h
theorem zDt {t sl:Addr}{its:List Value}{tk:Tok}{Q:Value->Shared->Prop}(ht:IsTup s.heap t its.toArray) (hs:s.heap.IsSliceOf sl .none .none (.int (-1) tk)) (h:Q (.ref s.heap.objs.size) { s with heap:=s.heap.push { cls:=.type "tuple",data:=.seq its.reverse.toArray } }) (hz:its.length<=sizeLine):
  wpAny (model prog w) A (getItem (.ref t) (.ref sl)) Q E s:=by
 have htake:sizeOk (.seq its.reverse.toArray):=by show its.reverse.toArray.size<=sizeLine;simpa using hz
 obtain⟨os,hos,hcs,hds⟩:=id hs
 have hTs:s.TypeIs (.ref sl) "slice":=⟨os,hos,hcs⟩
 unfold getItem
 try with_reducible refine xG ?_
 first|refine xa (xg ?_)|skip
 refine xa (wpAny_sequenceKey ht.typeIs (by decide) (xa (vJ (name:=Str.ofString "__getitem__") ht.typeIs vA (ve vA ht.typeIs entry_tuple_getitem ?_ (args_tuple_getitem _ _)))))
 refine(show wpAny _ _ (Builtin.Tuple.tupleItemsOf (.ref t) >>= _) _ _ s from xa (tupleItemsOf_ ht (xa (v9 hTs ?_))))
 rw[xc (by decide)]
 refine xa (zIw (n:=its.toArray.size) hs ?_)
 refine(show wpAny _ _ (if(((its.toArray.size:Int)-1 == 0 && (-1:Int) == 1) && its.toArray.size == its.toArray.size)=true then _ else _) _ _ s from ?_)
 rw[xf (by simp)]
 have e:((List.range its.toArray.size).filterMap fun(k:Nat)=>its.toArray[(((its.toArray.size:Nat):Int)-1+(k:Int)*(-1)).toNat]?)=its.reverse:=by
  have hl:its.toArray.size=its.reverse.length:=by simp
  rw[hl]
  refine zFc _ _ fun i hi=>?_
  rw[List.getElem?_toArray,<- zFb its i (by simpa using hi)]
  congr 2
  simp
 rw[e]
 first
  | exact xa (m:=Builtin.Tuple.tupleExact _) (vf (xg ⟨_,rfl,xg h⟩) htake)
  | exact xa (m:=Builtin.Tuple.tupleExact _) (vf (xa (xg (xg ⟨_,rfl,xg h⟩))) htake)
  | exact xa (xa (m:=Builtin.Tuple.tupleExact _) (vf (xg (xg ⟨_,rfl,xg h⟩)) htake))
  | exact xa (xa (m:=Builtin.Tuple.tupleExact _) (vf (xg ⟨_,rfl,xg h⟩) htake))
end
section
variable {X:Cx}{K:PySem.W.Frag}{E:XE}{e:Expr}{m:DS.EM}{p2 pos:Pos}
theorem zW2 {stp:Expr}{m2:DS.EM}(he:DE X K E e m) (h2:DE X K E stp m2) (e2:∀env S,m2 env S=.ok (.int (-1)) S:=by intros;rfl) (hK:X.K=K:=by rfl):DE X K E (.Subscript e (.Slice none none (some stp) p2) pos) (DS.eUn DS.revS m):=by
 subst hK
 refine⟨⟨fun pins s σ H Q I hq1=>?_⟩⟩
 obtain⟨env,S,J,ha,hE,q⟩:=hq1
 refine Subscript_ (thn (he.h.h pins s σ H (fun x H1=>∃J1 S1 d0 d,AbS X.K J1 S1 H1/\RepE X.K J1 H1 env σ/\Rep X.K J1 H1 d0 x/\DS.revS S1 d0=some d/\∀v H',AbS X.K J1 S1 H'->Grow J1 H1 J1 H'->Rep X.K J1 H' d v->Q v H') I ⟨env,S,J,ha,hE,q.bind.imp fun d0 S1 J1 H1 _ a1 g1 q1 x rx=>?_⟩) fun v s1 hq1=>?_)
 ·obtain⟨c,ec,k⟩:=q1.lift
  exact⟨J1,S1,d0,c,a1,hE.grow g1,rx,ec,fun v H' h1 h2 h3=>k J1 H' h1 h2 v h3⟩
 ·obtain⟨x,H1,I1,r1,J1,S1,d0,d,a1,hE1,rx,ed,k⟩:=hq1
  have n1:∀(s:Shared) (R:Value->Shared->Prop),R .none s->wpAny (model X.prog X.w) X.A (evalPart none X.env) R X.xe s:=fun s R h=>by rw[evalPart_none];exact xg h
  refine wpAny_Slice (n1 _ _ (n1 _ _ ?_))
  rw[evalPart_some]
  refine thn (h2.h.h pins s1 σ H1 (fun y H2=>y=.int (-1)/\H2=H2/\∃g:Grow J1 H1 J1 H2,AbS X.K J1 S1 H2) I1 ⟨env,S1,J1,a1,hE1,?_⟩) fun u s2 hq1=>?_
  ·rw[e2]
   exact fun J' H' h1 g v rv=>⟨rv,rfl,by
    have ej:J'=J1:=by
     have:=g.take a1
     rw[<- h1.len]at this
     simpa using this
    subst ej
    exact⟨g,h1⟩⟩
  obtain⟨y,H2,I2,r2,ey,_,g2,a2⟩:=hq1
  subst ey
  obtain⟨t,rfl⟩:=r2
  have I4:Inv X pins σ H2 { s2 with heap:=s2.heap.push { cls:=.type "slice",data:=.fields #[.none,.none,.int (-1) t] } }:=I2.kept (t':=s2.toks) fun b ob q=>xl _ q
  have hs:(s2.heap.push { cls:=.type "slice",data:=.fields #[.none,.none,.int (-1) t] }).IsSliceOf s2.heap.objs.size .none .none (.int (-1) t):=Heap.IsSliceOf.new ..
  have rx2:=Rep.grow g2 _ _ rx
  have k2:∀v H',AbS X.K J1 S1 H'->Grow J1 H2 J1 H'->Rep X.K J1 H' d v->Q v H':=fun v H' h1 h2 h3=>k v H' h1 (g2.trans h2) h3
  refine(show wpAny (model X.prog X.w) X.A (subscriptTail e (.Slice none none (some stp) p2) v (.ref s2.heap.objs.size)) (EP X pins σ Q) X.xe { s2 with heap:=s2.heap.push { cls:=.type "slice",data:=.fields #[.none,.none,.int (-1) t] } }from ?_)
  unfold DS.revS at ed
  split at ed
  ·rename_i l
   cases ed
   obtain⟨a,xs,rfl,ta,rl⟩:=rx2
   cases r1
   obtain⟨its,r,ht,hz⟩:=I4.tuple ta.sq
   refine tail_any (ops:=[.ref a,.ref s2.heap.objs.size]) (T:="tuple") ht.typeIs vA.lookup (zDt ht hs ?_ (by rw[<- Vals.length r];exact hz)) (by with_unfolding_all rfl)
   refine⟨.ref _,_,I4.laid (t':=s2.toks) (o:=.tup xs.reverse) (fun b ob q=>xl _ q) (xh _) ⟨by rw[ya];exact hz,_,r.reverse,IsTup.new _ _⟩,rfl,k2 _ _ (a2.push (I4.hok.fresh (xh _))) (.push (I4.hok.fresh (xh _))) ⟨_,_,rfl,⟨zAi,a2.out (I4.hok.fresh (xh _))⟩,(RepL.grow (.push (I4.hok.fresh (xh _))) _ _ rl).reverse⟩⟩
  ·split at ed
   ·rename_i l el
    cases ed
    obtain⟨a,xs,rfl,hq,rl⟩:=zQ9 a2 rx2 el
    cases r1
    obtain⟨its,r,ht,hz⟩:=I4.list hq
    refine tail_any (ops:=[.ref a,.ref s2.heap.objs.size]) (T:="list") ht.isList.typeIs slot_list_getitem.lookup (wpAny_getItem_list_slice ht.isList hs .none .none (.int (-1) t) (by simp) ?_ (by rw[xn,<- Vals.length r];exact hz)) (by with_unfolding_all rfl)
    rw[zOk]
    refine⟨.ref _,_,I4.laid (t':=s2.toks) (o:=.lst xs.reverse) (fun b ob q=>xl _ q) (xh _) ⟨by rw[ya];exact hz,_,0,r.reverse,xv _ rfl⟩,rfl,k2 _ _ (a2.push (I4.hok.fresh (xh _))) (.push (I4.hok.fresh (xh _))) ⟨_,_,rfl,⟨zAi,a2.out (I4.hok.fresh (xh _))⟩,(RepL.grow (.push (I4.hok.fresh (xh _))) _ _ rl).reverse⟩⟩
   ·cases ed
end
end L2
namespace DS
noncomputable section
open Classical
noncomputable def trk (S:Store):D->Option (Bool × List D)
 | .tup l=>some (true,l)
 | .lst l=>some (false,l)
 | .ref n=>match S[n]? with
  | some (.lst l)=>some (false,l)
  | _=>none
 | _=>none
end
end DS
namespace DS
noncomputable section
open Classical
noncomputable def enW (b:Bool) (S:Store) (d:D):Option Walk:=match trk S d with
 | some (c,l)=>if c=b/\l.length<2 ^ 60 then some ⟨zEa l 0,gdOf S d⟩else none
 | none=>none
noncomputable def iEn (b:Bool) (a:EM):IM:=fun env S=>(a env S).bind fun x S1=>lift (enW b S1 x) S1
theorem zJu:∀(l:List D) (n i:Nat),(zEa l n)[i]?=(l[i]?).map fun d=>.tup [.int ((n+i:Nat):Int),d]
 | [],n,i=>by simp[zEa]
 | d::r,n,0=>by simp[zEa]
 | d::r,n,i+1=>by
  rw[zEa,vQ,zJu r (n+1) i,vQ,show n+1+i=n+(i+1) by nofun]
theorem zEw:∀(l:List D) (n:Nat),(zEa l n).length=l.length
 | [],_=>rfl
 | d::r,n=>by rw[zEa,xH,zEw r,xH]
end
end DS
namespace L2
open PySem PySem.Spec PyProof.Rows
open DS (D Store Exn Rs SR)
section
variable {X:Cx}{K:PySem.W.Frag}{E:XE}{J:Js}{S:Store}{H:Hp}{d d1 d2:D}{v:V}
theorem zL9 {l:List D}{c:Bool}(ha:AbS K J S H) (r:Rep K J H d v) (e:DS.trk S d=some (c,l)):∃a,v=.ref a/\∀J' H' S' gd,Grow J H J' H'->AbS K J' S' H'->(∀p∈DS.gdOf S d,p∈gd)->DS.gOk S' gd->∃ys,H' a=some (hoK c ys)/\RepL K J' H' l ys:=by
 cases d with
 | tup l=>cases e;obtain⟨a,xs,rfl,t,rl⟩:=r;exact⟨a,rfl,fun J' H' S' gd g _ _ _=>⟨xs,(t.grow g).1,RepL.grow g _ _ rl⟩⟩
 | lst l=>cases e;obtain⟨a,xs,rfl,t,rl⟩:=r;exact⟨a,rfl,fun J' H' S' gd g _ _ _=>⟨xs,(t.grow g).1,RepL.grow g _ _ rl⟩⟩
 | ref n=>
  obtain⟨a,ea,rfl⟩:=r
  obtain⟨c',ec,o,eo,rc⟩:=ha.at ea
  have e:(match S[n]? with|some (.lst l)=>some (false,l)|_=>none)=some (c,l):=e
  rw[ec]at e
  cases c' with
  | lst l'=>
   cases e
   refine⟨a,rfl,fun J' H' S' gd g ha' sub ok=>?_⟩
   have e':S'[n]?=some (.lst l):=ok (n,.lst l) (sub _ (by simp[DS.gdOf,ec]))
   obtain⟨o',eo',rc'⟩:=ha'.ob n a _ (g.pre n a ea) e'
   obtain⟨ys,rfl,rl'⟩:=rc'
   exact⟨ys,eo',rl'⟩
  | _=>cases e
 | _=>cases e
end
end L2
namespace TS
open PySem
theorem zTc {prog:Program}{w:World}{A:Around}(hh:A.handled=none) (b:Bool) (it l:Addr) (hne:l≠it) (items:Array Value):Draws prog w A it [it,l] items.size (fun i v=>items[i]?=some v) (fun i h=>KIt b h it l i/\KSq b h l items) where
 live:=fun _ _ st=>let ⟨o,ho,_⟩:=st.1;⟨o,ho⟩
 frame:=fun _ _ _ st hk=>⟨st.1.at fun o e=>hk it (by simp) o e,st.2.at fun o e=>hk l (by simp) o e⟩
 item:=fun i s Q E hi st hQ=>next_item st.1 st.2 (x:=items[i]) (by simp[hi]) fun h' hit' hs'=>hQ _ h' s.toks (by simp[hi]) ⟨hit',st.2.xb hs'.extBut hne⟩ hs'
 done:=fun s Q E st hE=>next_end hh st.1 st.2 (by simp) hE
noncomputable abbrev enO (it:Addr):Obj:={ cls:=.type "enumerate",data:=.fields #[.none,.bool false,.ref it,rawInt 0,.none,.none] }
theorem zVs (b:Bool) (l:Addr) (xs:Array Value):Meets (Builtin.«enumerate.__new__» ⟨[.type "enumerate",.ref l],[]⟩) (fun _ R s=>KSq b s.heap l xs/\R (.ok (.ret (.ref (s.heap.push (itO b l)).objs.size))) { s with heap:=(s.heap.push (itO b l)).push (enO s.heap.objs.size) }):=
 .of_wp fun prog w A R s h=>by
  obtain⟨hp,g,d,tk,os⟩:=s;obtain⟨q1,h⟩:=h
  have hsub:=sub_enumerate
  have L1:KSq b (Shared.heap ⟨hp,g,d,tk,os⟩) l xs:=q1
  wp_walk using zJo L1
  refine wpAny_stack_any fun st=>xg ?_
  split
  ·rename_i c _ _ _ _ _
   cases(c == Value.type "enumerate")
   ·wp_walk using zJo L1
    exact⟨_,rfl,h⟩
   ·wp_walk using zJo L1
    exact⟨_,rfl,h⟩
  ·wp_walk using zJo L1
   exact⟨_,rfl,h⟩
section
variable {prog:Program}{w:World}{A:Around}{E:Value->Shared->Prop}{s:Shared}
theorem zT9 {b:Bool}{l:Addr}{xs:Array Value}{Q:Value->Shared->Prop}(q1:KSq b s.heap l xs)
  (h:∀h',IsEnum h' (s.heap.objs.size+1) s.heap.objs.size 0 .none->KIt b h' s.heap.objs.size l 0->(∀c o,s.heap.get? c=some o->h'.get? c=some o)->Q (.ref (s.heap.objs.size+1)) { s with heap:=h' }):
  wpAny (model prog w) A (call (.type "enumerate") [.ref l]) Q E s:=by
 refine callType_new F.called_enumerate (by decide) (F.typeCall_enumerate_1 _) (F.newCall_enumerate_1 _) (fun obj=>F.args_object_init_2 obj _) F.entry_enumerate_new (zVs b l xs) ⟨q1,?_⟩
 have z0:(s.heap.push (itO b l)).objs.size=s.heap.objs.size+1:=vp ..
 have g2:((s.heap.push (itO b l)).push (enO s.heap.objs.size)).get? (s.heap.push (itO b l)).objs.size=some (enO s.heap.objs.size):=xv _ rfl
 have g1:((s.heap.push (itO b l)).push (enO s.heap.objs.size)).get? s.heap.objs.size=some (itO b l):=xl _ (xv _ (by cases b <;> rfl))
 have gk:∀c o,s.heap.get? c=some o->((s.heap.push (itO b l)).push (enO s.heap.objs.size)).get? c=some o:=fun c o x=>xl _ (xl _ x)
 show _/\_
 rw[z0]at g2 ⊢
 exact⟨⟨_,g2,rfl⟩,h _ g2 ⟨_,g1,rfl,rfl⟩ gk⟩
end
end TS
namespace L2
open PySem PySem.Spec PyProof.Rows TS
open DS (D Store Exn Rs SR)
noncomputable def Ite (b:Bool) (a:Addr):It:=
  ⟨fun i H=>∃xs x,H a=some (hoK b xs)/\xs[i]?=some x,
   fun i H v H'=>∃T xs x,v=.ref T/\H T=none/\H a=some (hoK b xs)/\xs[i]?=some x/\H'=upd H T (.tup [.int i,x]),
   fun i H=>∃xs,H a=some (hoK b xs)/\xs.length<=i⟩
theorem zQu {P:Program}{w:World}{K:PySem.W.Frag}{es:List Expr}{k:Nat}{pos:Pos}(b:Bool) (a e it:Addr) (hei:e≠it):
  Turn P w K (.Tuple es k pos) (Ite b a) [e,it] e (fun i h=>(∃old,IsEnum h e it i old)/\KIt b h it a i) where
 mem:=by simp
 obj:=fun i h st c hc=>by
  obtain⟨⟨old,he⟩,o1,e1,c1,d1⟩:=st
  simp only[xk,uJ,or_false]at hc
  rcases hc with rfl|rfl
  ·exact⟨_,he,fun v z=>by cases z⟩
  ·exact⟨_,e1,fun v z=>by rw[d1]at z;cases z⟩
 keep:=fun i h h' st kk=>by
  obtain⟨⟨old,he⟩,h1⟩:=st
  exact⟨⟨old,kk e (by simp) _ he⟩,h1.at fun o x=>kk it (by simp) o x⟩
 item:=by
  intro X hP hw hK hc i pins s σ H E I hf st hg
  subst hP hw hK
  obtain⟨xs,x,ha,hx⟩:=hg
  obtain⟨⟨old,he⟩,h1⟩:=st
  obtain⟨its,rv,p1,z1⟩:=I.kSq ha
  obtain⟨u,hu,ru⟩:=rv.get hx
  have na:a ∉ [e,it]:=fun m=>by rw[(hf a m).1]at ha;cases ha
  have nae:a≠e:=fun z=>na (by simp[z])
  have nai:a≠it:=fun z=>na (by simp[z])
  have hfr:H s.heap.objs.size=none:=I.hok.fresh (xh _)
  have elt:e<s.heap.objs.size:=xi he
  have ilt:it<s.heap.objs.size:=by obtain⟨o,ho,_⟩:=h1;exact xi ho
  have hi:i<its.toArray.size:=by obtain⟨z,_⟩:=xE.mp hu;simpa using z
  refine wpAny_pyNext_enum_itemD (zTc (A:=X.A.in1) (I.ok.hd hc) b it a nai its.toArray) he ⟨h1,p1⟩ hi hei (fun m=>by rcases xk.mp m with z|z;exact hei z;exact nae (xI.mp z).symm) fun v h' tk pv ho st' hT hsz hk=>?_
  have ev:v=u:=by
   have:its.toArray[i]?=some u:=by simpa using hu
   rw[this]at pv;exact(xD pv).symm
  subst ev
  refine⟨_,rfl,wpAny_letOwnedTupleGo_enum (s:={ s with heap:=h',toks:=tk+1 }) ho fun h2' he' hs'=>?_⟩
  have hT2:h2'.get? s.heap.objs.size=some { cls:=.type "tuple",data:=.seq #[.int i tk,v] }:=hs'.extBut _ _ (Nat.ne_of_gt elt) hT
  refine⟨.ref s.heap.objs.size,upd H s.heap.objs.size (.tup [.int i,x]),I.turnedT (t':=tk+1) hf (fun c o hc e=>?_) (xh _) ⟨by show 2<=sizeLine;decide,[.int i tk,v],.cons ⟨tk,rfl⟩ (.cons ru .nil),⟨_,hT2,rfl,_,rfl⟩⟩,rfl,⟨_,xs,x,rfl,hfr,ha,hx,rfl⟩,⟨⟨_,by simpa using he'⟩,st'.1.xb hs'.extBut (xB hei)⟩,fun c hc=>?_⟩
  ·simp only[xk,uJ,or_false,not_or]at hc
   exact hs'.extBut _ _ hc.1 (hk _ _ hc.1 hc.2 e)
  ·have hn:=(hf c hc).1
   have ne:c≠s.heap.objs.size:=by
    simp only[xk,uJ,or_false]at hc
    rcases hc with rfl|rfl
    ·exact xu elt
    ·exact xu ilt
   rw[zAd ne];exact hn
 done:=by
  intro X hP hw hK hc i pins s σ H E I hf st hg
  subst hP hw hK
  obtain⟨xs,ha,hx⟩:=hg
  obtain⟨⟨old,he⟩,h1⟩:=st
  obtain⟨its,rv,p1,z1⟩:=I.kSq ha
  have na:a ∉ [e,it]:=fun m=>by rw[(hf a m).1]at ha;cases ha
  have nai:a≠it:=fun z=>na (by simp[z])
  have l1:=rv.length
  unfold pyNext
  have hT:s.TypeIs (.ref e) "enumerate":=⟨_,he,rfl⟩
  refine xa (wpAny_attempt (vJ (name:=Str.ofString "__next__") hT F.slot_enumerate_next (ve F.slot_enumerate_next hT F.entry_enumerate_next ?_ (F.args_enumerate_next_1 _))))
  refine(show wpAny _ _ (field (.ref e) 2 >>= _) _ _ _ from xa (vv he rfl (x:=.ref it) rfl (xa (next_end (I.ok.hd hc) h1 p1 (by simp;lia) fun h' x he' hx'=>?_))))
  obtain⟨o,ho,hcl⟩:=hx'
  refine xa (uF (T:="StopIteration") (b:=true) ⟨o,ho,hcl⟩ isSubtype_stop ?_)
  exact xg ⟨rfl,I.turnedL (t':=s.toks) hf fun c o hc e=>he' _ _ (fun z=>hc (by simp[z])) e⟩
 self:=fun _ _ _ _ _ st h=>wpAny_pyIter_enum st.1.choose_spec h
section
variable {X:Cx}{K:PySem.W.Frag}{E:XE}{J:Js}{S:Store}{H:Hp}
theorem zX4 {a:Addr}{b:Bool}{l:List D}{gd:List (Nat × D)}(h1:∀J' H' S',Grow J H J' H'->AbS K J' S' H'->DS.gOk S' gd->∃ys,H' a=some (hoK b ys)/\RepL K J' H' l ys):ItOk K J H ⟨DS.zEa l 0,gd⟩ (Ite b a) where
 go:=fun i H' J' S' ha g gd hi=>by
  obtain⟨xs,q1,r1⟩:=h1 J' H' S' g ha gd
  have hi':i<l.length:=by rw[DS.zEw]at hi;exact hi
  exact⟨xs,xs[i]'(by rw[<- r1.length];exact hi'),q1,xp _⟩
 yld:=fun i H' J' S' x H'' ha g gd yl d ed=>by
  obtain⟨T,xs',x1,rfl,hT,e1,g1,rfl⟩:=yl
  obtain⟨xs,q1,r1⟩:=h1 J' H' S' g ha gd
  have ex:xs=xs':=zSz (xD (q1.symm.trans e1))
  subst ex
  obtain⟨dx,f1,p1⟩:=r1.get' g1
  rw[DS.zJu,f1,vW]at ed
  cases ed
  exact⟨ha.push hT,.push hT,T,_,rfl,⟨zAi,ha.out hT⟩,_,_,rfl,rfl,x1,[],rfl,Rep.grow (.push hT) _ _ p1,rfl⟩
 stop:=fun i H' J' S' ha g gd hi=>by
  obtain⟨xs,q1,r1⟩:=h1 J' H' S' g ha gd
  rw[DS.zEw]at hi
  exact⟨xs,q1,by rw[<- r1.length];exact hi⟩
theorem zTe (b:Bool) {a:Expr}{es:List Expr}{k:Nat}{tpos p pos:Pos}{m:DS.EM}(hg:Gl X "enumerate") (hm:X.mg "enumerate"=none) (he:DE X K E a m) (h1:nst a=true:=by rfl) (hK:X.K=K:=by rfl):DI X K E (.Tuple es k tpos) (.Call (.Name "enumerate" p) [a] [] pos) (DS.iEn b m):=by
 subst hK
 refine⟨⟨fun pins s σ H R I hq1=>?_⟩⟩
 obtain⟨env,S,J,ha,hE,q⟩:=hq1
 have hs:starEach [a] X.env=[(false,eval a X.env)]:=zBg h1
 refine Call_ (zE0 I hg hm PyProof.Rows.boot_enumerate (u3 ?_ hs rfl))
 rw[hs]
 refine(show wpAny _ _ (spliced ((false,eval a X.env)::backTo pos [])) _ _ s from uP (thn (he.h.h pins s σ H (fun x H1=>∃J1 S1 d w,AbS X.K J1 S1 H1/\Rep X.K J1 H1 d x/\DS.enW b S1 d=some w/\∀It,ItOk X.K J1 H1 w It->R It H1) I ⟨env,S,J,ha,hE,q.bind.imp fun d S1 J1 H1 _ a1 g1 q1 x rx=>?_⟩) fun v s1 hq1=>?_))
 ·obtain⟨w,ew,k⟩:=q1.lift
  exact⟨J1,S1,d,w,a1,rx,ew,k J1 H1 a1 .refl⟩
 ·obtain⟨x,H1,I1,r1,J1,S1,d,w,a1,rx,ew,k⟩:=hq1
  refine uO ?_
  unfold DS.enW at ew
  cases t1:DS.trk S1 d with
  | none=>rw[t1]at ew;cases ew
  | some p1=>
   obtain⟨c1,l⟩:=p1
   rw[t1]at ew
   simp only at ew
   split at ew
   ·rename_i hc
    obtain⟨rfl,_⟩:=hc
    cases ew
    obtain⟨a',rfl,s1'⟩:=zL9 a1 rx t1
    have z1:=fun J' H' S' g ab ok=>s1' J' H' S' (DS.gdOf S1 d) g ab (fun p hp=>hp) ok
    have ok0:DS.gOk S1 (DS.gdOf S1 d):=fun p hp=>by
     cases d with
     | ref n=>
      have hp:p∈(match S1[n]? with|some d=>[(n,d)]|none=>[]):=hp
      cases en:S1[n]? with
      | none=>rw[en]at hp;cases hp
      | some c=>rw[en]at hp;rw[xI.mp hp];exact en
     | _=>cases hp
    obtain⟨xs,f1,_⟩:=z1 J1 H1 S1 .refl a1 ok0
    cases r1
    obtain⟨its,rv,p1,_⟩:=I1.kSq f1
    refine zT9 p1 fun h' c1' c2 hk=>wpAny_pyIter_enum c1' ?_
    have hne:s1.heap.objs.size+1≠s1.heap.objs.size:=Nat.succ_ne_self _
    refine⟨_,[s1.heap.objs.size+1,s1.heap.objs.size],_,_,H1,rfl,I1.kept (t':=s1.toks) hk,zQu c1 a' _ _ hne,⟨⟨_,by simpa using c1'⟩,c2⟩,fun c hc=>?_,k _ (zX4 z1)⟩
    have hle:s1.heap.objs.size<=c:=by
     simp only[xk,uJ,or_false]at hc
     rcases hc with rfl|rfl
     ·exact Nat.le_add_right _ _
     ·exact xh _
    exact I1.fpOk hle (I1.hok.fresh hle)
   ·cases ew
end
end L2
namespace SR
open PySem PySem.W PyProof.Rows
noncomputable def runK {α:Type}(key:Nat->Nat):KasT α->α
 | .ret a=>a
 | .ask i j k=>runK key (k (decide (key i<key j)))
theorem TW.exact {α:Type}{key:Nat->Nat}{n:Nat}{Q:α->Prop}:∀{t:KasT α},TW key n t Q->TW key n t (fun a=>a=runK key t)
 | .ret _,_=>rfl
 | .ask i j k,⟨h1,h2,h3⟩=>⟨h1,h2,TW.exact h3⟩
theorem TW.run {α:Type}{key:Nat->Nat}{n:Nat}{Q:α->Prop}:∀{t:KasT α},TW key n t Q->Q (runK key t)
 | .ret _,h=>h
 | .ask i j k,⟨_,_,h3⟩=>TW.run (t:=k (decide (key i<key j))) h3
theorem TW.mono {α:Type}{key:Nat->Nat}{n:Nat}{Q R:α->Prop}(h:∀a,Q a->R a):∀{t:KasT α},TW key n t Q->TW key n t R
 | .ret _,q=>h _ q
 | .ask i j k,⟨h1,h2,h3⟩=>⟨h1,h2,TW.mono h h3⟩
noncomputable def ordK (ks:List Nat):List Nat:=if ks.length<2 then List.range ks.length else(runK (fun i=>ks.getD i 0) (kas_sort ks.length)).toList
theorem ordK_ok (ks:List Nat):(ordK ks).Perm (List.range ks.length)/\((ordK ks).map fun i=>ks.getD i 0).Pairwise (·<=·):=by
 unfold ordK
 by_cases c:ks.length<2
 ·rw[xc c]
  refine⟨.refl _,?_⟩
  match ks,c with
  | [],_=>exact .nil
  | [a],_=>exact List.pairwise_singleton _ _
 ·rw[xf c]
  obtain⟨pm,inc⟩:=TW.run (sort_ (key:=fun i=>ks.getD i 0) (n:=ks.length) (by nofun) (Q:=fun p=>Pm ks.length p/\Inc (fun i=>ks.getD i 0) p ks.length) fun p a b=>⟨a,b⟩)
  have pl:(runK (fun i=>ks.getD i 0) (kas_sort ks.length)).toList.Perm (List.range ks.length):=by simpa using pm.toList
  refine⟨pl,?_⟩
  generalize runK (fun i=>ks.getD i 0) (kas_sort ks.length)=p at *
  refine List.pairwise_iff_getElem.mpr fun i j h1 h2 hij=>?_
  have hl:p.toList.length=ks.length:=by simpa using pl.length_eq
  rw[xo]at h1 h2
  have q:=inc i j (xO hij) (by nofun)
  unfold Ky at q
  have g1:p.getD i 0=p.toList[i]:=by simp[Array.getD,show i<p.size by simpa using h1]
  have g2:p.getD j 0=p.toList[j]:=by simp[Array.getD,show j<p.size by simpa using h2]
  rw[g1,g2]at q
  simpa using q
end SR
namespace DS
noncomputable section
open Classical
noncomputable def zFi:List D->Option (List Nat)
 | []=>some []
 | .tup l::r=>(zFi r).map (l.length::·)
 | _=>none
noncomputable def zC3 (S:Store) (d:D):Option D:=match items S d with
 | some l=>match zFi l with
  | some ks=>if l.length<=63 then some (.lst ((SR.ordK ks).map fun i=>l.getD i .non))else none
  | none=>none
 | none=>none
theorem zH8:∀{l:List D}{ks:List Nat},zFi l=some ks->ks.length=l.length/\∀(i:Nat) (d:D) (k:Nat),l[i]?=some d->ks[i]?=some k->∃m,d=.tup m/\m.length=k
 | [],ks,h=>by cases h;exact⟨rfl,fun i d k h=>by simp at h⟩
 | .tup m::r,ks,h=>by
  obtain⟨ks',e,rfl⟩:=u4.mp h
  obtain⟨h1,h2⟩:=zH8 e
  refine⟨by simp[h1],fun i d k a b=>?_⟩
  cases i with
  | zero=>simp at a b;exact⟨m,a.symm,b⟩
  | succ i=>exact h2 i d k (by simpa using a) (by simpa using b)
theorem zFh {α:Type}{f:α->List D}:∀(l:List α),zFi (l.map fun x=>.tup (f x))=some (l.map fun x=>(f x).length)
 | []=>rfl
 | a::r=>by rw[xr,zFi,zFh r];rfl
end
end DS
namespace DS
open PySem (PyData)
noncomputable section
open Classical
mutual
noncomputable def pdOf:D->Option PyData
 | .int i=>some (.int i)
 | .tup l=>(zD9 l).map PyData.tuple
 | _=>none
noncomputable def zD9:List D->Option (List PyData)
 | []=>some []
 | d::l=>match pdOf d,zD9 l with
  | some p,some r=>some (p::r)
  | _,_=>none
end
noncomputable def zCn (_:Store):List D->Option D
 | [.tup l]=>match pdOf (.tup l)with
  | some p=>if p.showable=true/\p.depth<=60/\p.shown.length<=most then some (.str p.shown)else none
  | none=>none
 | _=>none
mutual
theorem zM5:∀(d:D) (p:PyData),pdOf d=some p->p.hasDict=false
 | .int i,p,h=>by unfold pdOf at h;cases h;rfl
 | .tup l,p,h=>by
  unfold pdOf at h
  obtain⟨r,e,rfl⟩:=u4.mp h
  show PyData.hasDictAll r=false
  exact zJe l r e
 | .non,p,h=>by unfold pdOf at h;cases h
 | .bl _,p,h=>by unfold pdOf at h;cases h
 | .str _,p,h=>by unfold pdOf at h;cases h
 | .ty _,p,h=>by unfold pdOf at h;cases h
 | .lst _,p,h=>by unfold pdOf at h;cases h
 | .ktup _,p,h=>by unfold pdOf at h;cases h
 | .klst _,p,h=>by unfold pdOf at h;cases h
 | .dct _ _ _,p,h=>by unfold pdOf at h;cases h
 | .st _,p,h=>by unfold pdOf at h;cases h
 | .ref _,p,h=>by unfold pdOf at h;cases h
theorem zJe:∀(l:List D) (r:List PyData),zD9 l=some r->PyData.hasDictAll r=false
 | [],r,h=>by unfold zD9 at h;cases h;rfl
 | d::l,r,h=>by
  unfold zD9 at h
  split at h
  ·rename_i p q e1 e2
   cases h
   show(p.hasDict || PyData.hasDictAll q)=false
   rw[zM5 d p e1,zJe l q e2];rfl
  ·cases h
end
end
end DS
namespace DP
open DS
noncomputable section
noncomputable def zHw:SM:=
  (sSeq (sSet 1 (eNew (eDct true)))
  (sSeq (sSet 2 (eC (.int 1)))
  (sSeq (sFor (iVal (eVar 0)) (gName 3) (sFor (iVal (eVar 3)) (gName 4) (sIf (tB (eOp zDh (eVar 4) (eVar 1))) (sSeq (sPut putD (eVar 1) (eVar 4) (eVar 2))
  (sSet 2 (eOp addD (eVar 2) (eVar 2)))) zB6)))
  (sRet (eVar 1)))))
noncomputable def zC1:Fn:=zB1 1 5 zHw
noncomputable def zHv:SM:=
  (sSeq (sSet 2 (eC (.int 0)))
  (sSeq (sFor (iVal (eVar 0)) (gName 3) (sSet 2 (eOp orD (eVar 2) (eOp ixD (eVar 1) (eVar 3)))))
  (sRet (eVar 2))))
noncomputable def zC0:Fn:=zB1 2 4 zHv
noncomputable def zBr:SM:=
  (sRet (eCB anyB (zA0 (zCs 1 [0] (iVal (eVar 1)) (gName 0) tYes (eOp eqD (eOp andD (eVar 0) (eVar 1)) (eVar 0))) aNil)))
noncomputable def zB7:Fn:=zB1 2 2 zBr
noncomputable def zF2:SM:=
  (sSeq (sSet 2 (eOp addD (eOp mulD (eC (.int 7901)) (eVar 1)) (eC (.int 24697))))
  (sSeq (sIf (tB (eOp ltN (eVar 1) (eCB lenB (zA0 (eVar 0) aNil)))) (sSet 2 (eOp ixD (eVar 0) (eVar 1))) (sIf (tB (eOp gtD (eCB lenB (zA0 (eVar 0) aNil)) (eC (.int 0)))) (sSet 2 (eOp addD (eOp mulD (eOp modD (eOp ixD (eVar 0) (eOp modD (eVar 1) (eCB lenB (zA0 (eVar 0) aNil)))) (eC (.int 2147483629))) (eC (.int 31))) (eOp mulD (eC (.int 7901)) (eVar 1)))) zB6))
  (sSeq (sSet 3 (eC (.int 0)))
  (sSeq (sIf (tB (eOp geD (eVar 2) (eOp powD (eC (.int 10)) (eC (.int 18))))) (sSet 3 (eVar 2)) zB6)
  (sRet (eNew (eLst (zA0 (eVar 3) (zA0 (eOp addD (eOp modD (eOp powD (eOp addD (eOp mulD (eOp modD (eVar 2) (eC (.int 2147483629))) (eC (.int 48271))) (eOp mulD (eC (.int 40692)) (eVar 1))) (eC (.int 5))) (eC (.int 2147483629))) (eC (.int 1))) aNil)))))))))
noncomputable def zBl:Fn:=zGo 2 4 zF2
noncomputable def zF1:SM:=
  (sSeq (sIf (tB (eOp gtD (eOp ixD (eVar 0) (eC (.int 0))) (eC (.int 0)))) (sSeq (sSet 2 (eOp modD (eOp ixD (eVar 0) (eC (.int 0))) (eVar 1)))
  (sSeq (sPut putD (eVar 0) (eC (.int 0)) (eOp zHh (eOp ixD (eVar 0) (eC (.int 0))) (eVar 1)))
  (sRet (eVar 2)))) zB6)
  (sSeq (sSet 3 (eOp modD (eOp mulD (eOp ixD (eVar 0) (eC (.int 1))) (eC (.int 69623))) (eC (.int 2147483647))))
  (sSeq (sPut putD (eVar 0) (eC (.int 1)) (eOp addD (eOp modD (eOp addD (eOp mulD (eVar 3) (eC (.int 48271))) (eC (.int 30103))) (eC (.int 2147483629))) (eC (.int 1))))
  (sRet (eOp modD (eOp zHh (eOp addD (eOp mulD (eVar 3) (eC (.int 2147483647))) (eOp ixD (eVar 0) (eC (.int 1)))) (eC (.int 8191))) (eVar 1))))))
noncomputable def zA5:Fn:=zB1 2 4 zF1
noncomputable def zFq:SM:=
  (sRet (eCB zAv (zA0 (zCs 2 [1] (iEn false (eVar 0)) (gTup [(gName 0),(gName 1)]) (tB (eOp eqD (eOp andD (eOp shrD (eVar 2) (eVar 0)) (eC (.int 1))) (eC (.int 1)))) (eVar 1)) aNil)))
noncomputable def zBd:Fn:=zB1 2 2 zFq
noncomputable def zE6:SM:=
  (sSeq (sSet 1 (eUn ssL (eVar 0)))
  (sSeq (sSet 2 (eNew (eLst aNil)))
  (sSeq (sFor (iVal (eVar 1)) (gName 3) (sIf (tB (eOp eqD (zCs 1 [3] (iVal (eVar 1)) (gName 0) (tAnd (tB (eOp neD (eVar 0) (eVar 1))) (tB (eOp eqD (zCs 1 [1] (iVal (eVar 0)) (gName 0) (tB (eOp zDh (eVar 0) (eVar 1))) (eVar 0)) (eLst aNil)))) (eVar 0)) (eLst aNil))) (zDg (eMt "list" zAs (eVar 2) (zA0 (eVar 3) aNil))) zB6))
  (sRet (eCB zAv (zA0 (eVar 2) aNil))))))
noncomputable def zAn:Fn:=zB1 1 4 zE6
noncomputable def zE4:SM:=
  (sSeq (sSet 1 (zAb zC1 (zA0 (eVar 0) aNil)))
  (sSeq (sSet 2 (eNew (eLst aNil)))
  (sSeq (sSet 3 (eNew (eLst aNil)))
  (sSeq (sFor (iVal (eUn zC3 (eVar 0))) (gName 4) (sSeq (sSet 5 (zAb zC0 (zA0 (eVar 4) (zA0 (eVar 1) aNil))))
  (sIf (tNot (tTru (zAb zB7 (zA0 (eVar 5) (zA0 (eVar 2) aNil))))) (sSeq (zDg (eMt "list" zAs (eVar 2) (zA0 (eVar 5) aNil)))
  (zDg (eMt "list" zAs (eVar 3) (zA0 (eVar 4) aNil)))) zB6)))
  (sRet (eCB zAv (zA0 (eCB zGy (zA0 (eVar 3) aNil)) aNil)))))))
noncomputable def zAe:Fn:=zB1 1 6 zE4
noncomputable def zCf:SM:=
  (sSeq (sSet 1 (eOp ixD (eLst (zA0 (eC (.int 2)) (zA0 (eC (.int 2)) (zA0 (eC (.int 2)) (zA0 (eC (.int 1000)) aNil))))) (zAb zA5 (zA0 (eVar 0) (zA0 (eC (.int 4)) aNil)))))
  (sRet (eTup (zA0 (eOp subD (zAb zA5 (zA0 (eVar 0) (zA0 (eOp addD (eOp mulD (eC (.int 2)) (eVar 1)) (eC (.int 1))) aNil))) (eVar 1)) (zA0 (eOp subD (zAb zA5 (zA0 (eVar 0) (zA0 (eOp addD (eOp mulD (eC (.int 2)) (eVar 1)) (eC (.int 1))) aNil))) (eVar 1)) aNil)))))
noncomputable def zB2:Fn:=zB1 1 2 zCf
noncomputable def zE5:SM:=
  (sSeq (sSet 3 (zCs 1 [0,1] (zBq (zA0 (eOp addD (eC (.int 1)) (zAb zA5 (zA0 (eVar 0) (zA0 (eVar 2) aNil)))) aNil)) (gName 0) tYes (eOp addD (eC (.int 1)) (zAb zA5 (zA0 (eVar 1) (zA0 (eOp subD (eOp shlD (eC (.int 1)) (eCB lenB (zA0 (eVar 2) aNil))) (eC (.int 1))) aNil))))))
  (sRet (zAb zAn (zA0 (zCs 1 [1] (iVal (eVar 3)) (gName 0) tYes (zAb zBd (zA0 (eVar 1) (zA0 (eVar 0) aNil)))) aNil))))
noncomputable def zE2:Fn:=zB1 3 4 zE5
noncomputable def zCv:SM:=
  (sSeq (sSet 2 (eNew (eLst aNil)))
  (sSeq (sFor (zBq (zA0 (eVar 1) aNil)) (gName 3) (sSeq (sUnp (gTup [(gName 4),(gName 5)]) (zAb zB2 (zA0 (eVar 0) aNil)))
  (sSeq (zFa (tB (eOp inD (eTup (zA0 (eVar 4) (zA0 (eVar 5) aNil))) (eVar 2))) (sSet 4 (eOp subD (eOp modD (eOp addD (eVar 4) (eC (.int 1001))) (eC (.int 2001))) (eC (.int 1000)))))
  (zDg (eMt "list" zAs (eVar 2) (zA0 (eTup (zA0 (eVar 4) (zA0 (eVar 5) aNil))) aNil))))))
  (sRet (eCB zGy (zA0 (eVar 2) aNil)))))
noncomputable def zAy:Fn:=zB1 2 6 zCv
noncomputable def zDc:SM:=
  (sSeq (sSet 1 (zAb zAy (zA0 (eVar 0) (zA0 (eOp addD (eC (.int 1)) (zAb zA5 (zA0 (eVar 0) (zA0 (eC (.int 12)) aNil)))) aNil))))
  (sSeq (sSet 2 (eNew (eLst aNil)))
  (sSeq (sFor (zBq (zA0 (eOp addD (eC (.int 1)) (zAb zA5 (zA0 (eVar 0) (zA0 (eC (.int 12)) aNil)))) aNil)) (gName 3) (sSeq (sSet 4 (zAb zA5 (zA0 (eVar 0) (zA0 (eC (.int 4)) aNil))))
  (sSeq (sSet 5 (zAb zBd (zA0 (eVar 1) (zA0 (eOp addD (eC (.int 1)) (zAb zA5 (zA0 (eVar 0) (zA0 (eOp subD (eOp shlD (eC (.int 1)) (eCB lenB (zA0 (eVar 1) aNil))) (eC (.int 1))) aNil)))) aNil))))
  (sSeq (sIf (tAnd (tB (eOp eqD (eVar 4) (eC (.int 0)))) (tB (eOp gtD (eCB lenB (zA0 (eVar 2) aNil)) (eC (.int 0))))) (sSet 5 (eOp ixD (eVar 2) (zAb zA5 (zA0 (eVar 0) (zA0 (eCB lenB (zA0 (eVar 2) aNil)) aNil))))) zB6)
  (sSeq (sIf (tB (eOp eqD (eVar 4) (eC (.int 1)))) (sSet 5 (eSl slD (eVar 5) (pYes (zAb zA5 (zA0 (eVar 0) (zA0 (eCB lenB (zA0 (eVar 5) aNil)) aNil)))) pNo)) zB6)
  (sSeq (sIf (tAnd (tB (eOp eqD (eVar 4) (eC (.int 2)))) (tB (eOp gtD (eCB lenB (zA0 (eVar 2) aNil)) (eC (.int 0))))) (sSet 5 (eCB zAv (zA0 (eUn ssL (eOp addD (eVar 5) (eOp ixD (eVar 2) (zAb zA5 (zA0 (eVar 0) (zA0 (eCB lenB (zA0 (eVar 2) aNil)) aNil)))))) aNil))) zB6)
  (zDg (eMt "list" zAs (eVar 2) (zA0 (eSl slD (eVar 5) pNo (pYes (eC (.int 8)))) aNil)))))))))
  (sRet (eVar 2)))))
noncomputable def zBk:Fn:=zB1 1 6 zDc
noncomputable def zTm:SM:=
  (sSeq (sSet 1 (eNew (eLst (zA0 (eLst aNil) aNil))))
  (sSeq (sFor (zBq (zA0 (eCB max2B (zA0 (eC (.int 2)) (zA0 (eCB min2B (zA0 (eC (.int 4)) (zA0 (eCB lenB (zA0 (eVar 0) aNil)) aNil))) aNil))) aNil)) (gName 2) (zDg (eMt "list" zAs (eVar 1) (zA0 (zAb zBk (zA0 (zAb zBl (zA0 (eVar 0) (zA0 (eVar 2) aNil))) aNil)) aNil))))
  (sSeq (sFor (iVal (eOp addD (eVar 1) (eUn revS (eVar 1)))) (gName 3) (sSeq (sSet 4 (zAb zAn (zA0 (eVar 3) aNil)))
  (sSeq (sSet 5 (eCB zKf (zA0 (eVar 3) aNil)))
  (sIf (tOr (tB (eOp neD (eCB zCn (zA0 (zAb zAe (zA0 (eVar 5) aNil)) aNil)) (eCB zCn (zA0 (eVar 4) aNil)))) (tOr (tB (eOp neD (eVar 5) (eVar 3))) (tB (eOp neD (eCB zCn (zA0 (zAb zAe (zA0 (eCB zAv (zA0 (eVar 3) aNil)) aNil)) aNil)) (eCB zCn (zA0 (eVar 4) aNil)))))) (sRet (eC (.bl false))) zB6))))
  (sRet (eC (.bl true))))))
noncomputable def zKl:Fn:=zB1 1 6 zTm
end
end DP
namespace SR
open PySem PySem.W PyProof.Rows
section
variable {prog:Program}{w:World}{A:Around}{E:Value->Shared->Prop}{s:Shared}{a kS:Addr}{vs:List Value}{kz:List Nat}{keys:Array Value}{e e1:Nat}{P:PySem.Fin->Shared->Prop}
noncomputable abbrev zz (kz:List Nat):List Int:=kz.map fun(n:Nat)=>(n:Int)
noncomputable abbrev outK (kz:List Nat) (vs:List Value):List Value:=(ordK kz).map fun i=>vs.getD i Value.none
theorem zMo {keys:List Value}(hk:IntsAre keys (zz kz)) {i:Nat}(hi:i<kz.length):∃t,keys.getD i Value.none=.int ((kz.getD i 0:Nat):Int) t:=by
 have hl:i<keys.length:=by rw[hk.length];simpa using hi
 obtain⟨t,e⟩:=hk.int_at i keys[i] (xp hl)
 refine⟨t,?_⟩
 rw[vL,xp hl,Option.getD_some,e]
 congr 1
 rw[vL,vt,vL,xp hi]
 rfl
theorem zPt {st:SortSt}{out:List Value}(hk:s.heap.get? kS=some (seqObj "list" keys e)) (ha:s.heap.get? a=some (seqObj "list" #[] e1)) (hka:kS≠a) (hz:keys.size<64) (ho:out.length<64) (har:(arrOf st).map (·.2)=out.toArray) (hfl:failedOf st=none)
  (h:∀h' tk c,(∀b o,b≠a->b≠kS->s.heap.get? b=some o->h'.get? b=some o)->h'.get? a=some (seqObj "list" out.toArray c)->P (.done (.ret .none)) { s with heap:=h',toks:=tk }):
  wpAny (model prog w) A (ksk_tail a false e1 (.ref kS) st) P E s:=by
 have s1:=vO s.heap kS (Obj.mapSeq fun _=>(#[]:Array Value))
 have na1:(s.heap.update kS (Obj.mapSeq fun _=>(#[]:Array Value))).get? a=some (seqObj "list" #[] e1):=(s1.2 a hka.symm).trans ha
 unfold ksk_tail
 dsimp only
 rw[har]
 have s2:=vO (s.heap.update kS (Obj.mapSeq fun _=>(#[]:Array Value))) a (Obj.mapSeq fun _=>if false=true then out.toArray.reverse else out.toArray)
 refine xa (uo hk rfl ?_ (by rw[xJ];lia) (xC _))
 refine xa (wpAny_letGo ?_)
 refine xa (seqEpoch_at na1 rfl ?_)
 refine xa (uo na1 rfl ?_ (xC _) (by simp;rw[xJ];lia))
 rw[hfl]
 simp only[bne_self_eq_false,xR,xK]
 obtain⟨c2,hc2⟩:∃c2,((s.heap.update kS (Obj.mapSeq fun _=>(#[]:Array Value))).update a (Obj.mapSeq fun _=>out.toArray)).get? a=some (seqObj "list" out.toArray c2):=⟨_,uI na1 fun _=>out.toArray⟩
 exact xg (h _ _ c2 (fun b o b1 b2 q=>(vK _ _ (xB b1)).trans ((vK _ _ (xB b2)).trans q)) hc2)
theorem ordK_len (kz:List Nat):(ordK kz).length=kz.length:=by simpa using(ordK_ok kz).1.length_eq
theorem zX6 (hk:s.heap.get? kS=some (seqObj "list" keys e)) (ha:s.heap.get? a=some (seqObj "list" #[] e1)) (hka:kS≠a) (hi:IntsAre keys.toList (zz kz)) (hlen:kz.length=vs.length) (h64:vs.length<64)
  (h:∀h' tk c,(∀b o,b≠a->b≠kS->s.heap.get? b=some o->h'.get? b=some o)->h'.get? a=some (seqObj "list" (outK kz vs).toArray c)->P (.done (.ret .none)) { s with heap:=h',toks:=tk }):
  wpAny (model prog w) A (ksk_end a false vs.toArray e1 (.ref kS) keys) P E s:=by
 have hsz:keys.size=vs.length:=by
  have h1:=hi.length
  rw[vx]at h1
  simp at h1;lia
 have ol:(outK kz vs).length<64:=by rw[xo,ordK_len];lia
 unfold ksk_end
 dsimp only
 rw[xf (by decide)]
 by_cases h2:vs.toArray.size<2
 ·rw[xc h2,xc h2]
  refine xa (xg ?_)
  rw[StateT.run_pure]
  refine xa (xg ?_)
  dsimp only
  refine zPt hk ha hka (by nofun) ol ?_ rfl h
  have h2':kz.length<2:=by rw[xn]at h2;lia
  show((if false=true then(keys.zip vs.toArray).reverse else keys.zip vs.toArray)).map (·.2)=_
  rw[xf (by decide)]
  apply Array.toList_inj.mp
  unfold outK ordK
  rw[xc h2',hlen]
  rw[Array.toList_map,ksk_zip,List.map_snd_zip (show vs.length<=keys.size by rw[hsz];exact xh _)]
  refine List.ext_getElem (by simp) fun i a1 a2=>?_
  simp at a1 a2
  simp[vL,a1]
 ·rw[xf h2,xf h2]
  rw[xn]at h2
  rw[ksk_kind hi (by rw[hsz];lia)]
  refine xa (xg ?_)
  have run:=kat_run (prog:=prog) (w:=w) (A:=A) (E:=E) (s:=s) (κ:=oneType') (ks:=keys.toList) (vs:=vs) (Q:=fun st s'=>s'=s/\failedOf st=none/\(arrOf st).map (·.2)=(outK kz vs).toArray) (G:=fun p s'=>s'=s/\p=runK (fun i=>kz.getD i 0) (kas_sort kz.length)) (by rw[vx,hsz]) (by nofun) h64 (fun p st' s' hp har hf hg=>by
   obtain⟨rfl,rfl⟩:=hg
   refine⟨rfl,hf,?_⟩
   rw[kat_snds (by rw[vx,hsz]) har]
   unfold outK ordK
   rw[xf (by nofun)]) (by
   rw[<- hlen]
   have tw:=TW.exact (sort_ (key:=fun i=>kz.getD i 0) (n:=kz.length) (by nofun) (Q:=fun _=>True) fun _ _ _=>trivial)
   refine TW.wp (key:=fun i=>kz.getD i 0) (n:=kz.length) (fun i j C hi' hj' hC=>?_) _ ?_
   ·unfold kas_ask
    obtain⟨t,e1⟩:=zMo hi hi'
    obtain⟨u,e2⟩:=zMo hi hj'
    rw[e1,e2,keyLt'_oneType]
    refine oneLt_int ?_
    rw[show decide (((kz.getD i 0:Nat):Int)<((kz.getD j 0:Nat):Int))=decide (kz.getD i 0<kz.getD j 0)from xS.mpr (by nofun)]
    exact hC
   ·exact tw.mono fun a ha=>⟨rfl,ha⟩)
  refine xa (x8 (by simpa using run) ?_ fun _ _ e=>e)
  rintro⟨⟨⟩,st'⟩ s' ⟨rfl,hf,har⟩
  exact zPt hk ha hka (by nofun) ol har hf h
noncomputable def zNx (h:Heap) (kz:List Nat) (vs:List Value):Prop:=∀(i:Nat) (v:Value) (k:Nat),vs[i]?=some v->kz[i]?=some k->∃x its,v=.ref x/\IsTup h x its/\its.size=k/\k<=sizeLine
theorem zU8 (hk:s.heap.get? kS=some (seqObj "list" #[] 0)) (ha:s.heap.get? a=some (seqObj "list" #[] e1)) (hka:kS≠a) (hlen:kz.length=vs.length) (h64:vs.length<64) (R:zNx s.heap kz vs)
  (h:∀h' tk c,(∀b o,b≠a->b≠kS->s.heap.get? b=some o->h'.get? b=some o)->h'.get? a=some (seqObj "list" (outK kz vs).toArray c)->P (.done (.ret .none)) { s with heap:=h',toks:=tk }):
  wpAny (model prog w) A (ksk_rest a (.builtin "len") false vs.toArray e1 (.ref kS)) P E s:=by
 unfold ksk_rest
 refine xa (vP ?_)
 first
  | rw[List.forIn_toArray]
  | (rw[<- uH];simp only[List.toList_toArray])
  | rw[<- uH]
 refine xa (ksk_fold (fun i s'=>∃h' tk kA e,s'={ s with heap:=h',toks:=tk }/\(∀b o,b≠kS->s.heap.get? b=some o->h'.get? b=some o)/\h'.get? kS=some (seqObj "list" kA e)/\IntsAre kA.toList (zz (kz.take i))) vs 0 s
  ⟨s.heap,s.toks,#[],0,rfl,fun _ _ _ q=>q,hk,by simpa using IntsAre.nil⟩ ?step ?done)
 case step=>
  rintro j x s' hx ⟨h',tk,kA,e,rfl,kp,hkS,hi⟩
  simp only[vW]at hi ⊢
  have hj:j<vs.length:=(xE.mp hx).1
  obtain⟨k,hkj⟩:∃k,kz[j]?=some k:=⟨_,xp (by nofun)⟩
  have hz:kA.size<=vs.length:=by
   have h1:=hi.length
   rw[vx,xo,vz]at h1
   lia
  obtain⟨y,its,rfl,ht,hs,hsz⟩:=R j x k hx hkj
  have ht':IsTup h' y its:=by
   obtain⟨o,ho,hc,r⟩:=ht
   refine⟨o,kp y o (fun z=>?_) ho,hc,r⟩
   rw[z,hk]at ho
   cases ho
   exact absurd (show Value.type "list"=Value.type "tuple" from hc) (by decide)
  have h63:(its.size:Int)<2 ^ 63:=by rw[xJ]at hsz;lia
  refine xa (wpAny_attempt (len_tuple (s:={ s with heap:=h',toks:=tk }) ht' h63 ?_))
  dsimp only
  obtain⟨c2,hc2⟩:∃c2,(h'.update kS (Obj.mapSeq (·.push (.int (its.size:Int) (tk+1))))).get? kS=some (seqObj "list" (kA.push (.int (its.size:Int) (tk+1))) c2):=⟨_,uI hkS (·.push (.int (its.size:Int) (tk+1)))⟩
  have ek:kz.take (j+1)=kz.take j++[k]:=by rw[List.take_add_one,hkj];simp
  refine xa (uo hkS rfl ?_ (by rw[xJ];lia) (xm (Nat.le_of_eq (Array.size_push ..)) (by rw[xJ];lia)))
  refine xg ⟨rfl,_,_,kA.push (.int (its.size:Int) (tk+1)),c2,rfl,fun b o nb q=>(vK _ _ (xB nb)).trans (kp b o nb q),hc2,?_⟩
  rw[ek,show(kA.push (Value.int (its.size:Int) (tk+1))).toList=kA.toList++[Value.int (its.size:Int) (tk+1)] by simp,hs,show zz (kz.take j++[k])=zz (kz.take j)++[(k:Int)] by simp]
  exact ksk_snoc hi
 case done=>
  rintro s' ⟨h',tk,kA,e,rfl,kp,hkS,hi⟩
  have hi':IntsAre kA.toList (zz kz):=by
   rw[show kz.take (0+vs.length)=kz from uU (by nofun)]at hi
   exact hi
  try dsimp only
  refine xa (listItems_at hkS rfl ?_)
  exact zX6 (s:={ s with heap:=h',toks:=tk }) hkS (kp a _ hka.symm ha) hka hi' hlen h64 fun h3 tk3 c k3 q3=>h h3 tk3 c (fun b o n1 n2 q=>k3 b o n1 n2 (kp b o n2 q)) q3
theorem zU1 {n:Nat}(ho:s.heap.get? a=some (seqObj "list" vs.toArray n)) (hlen:kz.length=vs.length) (h64:vs.length<64) (R:zNx s.heap kz vs)
  (h:∀h' tk c,(∀b o,b≠a->s.heap.get? b=some o->h'.get? b=some o)->h'.get? a=some (seqObj "list" (outK kz vs).toArray c)->P (.done (.ret .none)) { s with heap:=h',toks:=tk }):
  wpAny (model prog w) A (ksk_tree a (.builtin "len") false) P E s:=by
 have hlt:a<s.heap.objs.size:=xi ho
 obtain⟨e1,ho1⟩:∃e1,(s.heap.update a (Obj.mapSeq fun _=>(#[]:Array Value))).get? a=some (seqObj "list" #[] e1):=⟨_,uI ho fun _=>#[]⟩
 have k1:∀b o,b≠a->s.heap.get? b=some o->(s.heap.update a (Obj.mapSeq fun _=>(#[]:Array Value))).get? b=some o:=fun b o hb q=>(vK _ _ (xB hb)).trans q
 have hz1:(s.heap.update a (Obj.mapSeq fun _=>(#[]:Array Value))).objs.size=s.heap.objs.size:=Heap.size_update ..
 unfold ksk_tree
 refine xa (listItems_at ho rfl ?_)
 refine xa (uo ho rfl ?_ (by rw[xn,xJ];lia) (xC _))
 refine xa (seqEpoch_at ho1 rfl ?_)
 refine xa (wpAny_newTuple ?_ (by show vs.length<=_;rw[xJ];lia))
 refine xa (wpAny_newList ?_ (xC _))
 refine xG ?_
 generalize (s.heap.update a (Obj.mapSeq fun _=>(#[]:Array Value)))=g at *
 have kk:∀b o,g.get? b=some o->((g.push (seqObj "tuple" vs.toArray 0)).push (seqObj "list" #[] 0)).get? b=some o:=fun b o q=>xl _ (xl _ q)
 have hs2:(g.push (seqObj "tuple" vs.toArray 0)).objs.size=s.heap.objs.size+1:=by rw[size_push',hz1]
 have hna:(g.push (seqObj "tuple" vs.toArray 0)).objs.size≠a:=by rw[hs2];exact Nat.ne_of_gt (vU hlt)
 refine zU8 (s:={ s with heap:=(g.push (seqObj "tuple" vs.toArray 0)).push (seqObj "list" #[] 0) }) (kS:=(g.push (seqObj "tuple" vs.toArray 0)).objs.size) (xv _ rfl) (kk a _ ho1) hna hlen h64 (fun i v k h1 h2=>?_) fun h' tk c kp q=>h h' tk c (fun b o nb hb=>kp b o nb (fun z=>?_) (kk b o (k1 b o nb hb))) q
 ·obtain⟨x,its,rfl,ht,hr⟩:=R i v k h1 h2
  obtain⟨o,ho',hc,r⟩:=ht
  refine⟨x,its,rfl,⟨o,kk x o (k1 x o (fun z=>?_) ho'),hc,r⟩,hr⟩
  rw[z,ho]at ho'
  cases ho'
  exact absurd (show Value.type "list"=Value.type "tuple" from hc) (by decide)
 ·have:=xi hb
  rw[z,hs2]at this
  exact absurd this (Nat.not_lt.mpr (Nat.le_succ _))
theorem sorted_K {r:Addr}{o:Obj}{k:Nat}{T:String}{Q:Value->Shared->Prop}(ho:s.heap.get? r=some o) (hc:o.cls=.type T) (hT:T="list"\/T="tuple") (hd:o.data=.seq vs.toArray k) (hlen:kz.length=vs.length) (h64:vs.length<64) (R:zNx s.heap kz vs)
  (h:∀h' tk c D,s.heap.objs.size<=D->(∀b o,s.heap.get? b=some o->h'.get? b=some o)->h'.get? D=some (seqObj "list" (outK kz vs).toArray c)->Q (.ref D) { s with heap:=h',toks:=tk }):
  wpAny (model prog w) A (call (.builtin "sorted") [.ref r] [(Str.ofString "key",.builtin "len")]) Q E s:=by
 refine call_function_entry_kw kind_sorted plain_sorted entry_sorted (ksk_s1 _ _) ?_
 unfold Builtin.«sorted»
 refine xa (m:=checkCount "sorted" 1 1 _) (xg ?_)
 have lz:vs.length<=sizeLine:=by rw[xJ];lia
 refine xa (EK.zNk ho hc hT hd lz fun h' hz kp=>?_)
 refine xa (wpAny_newList ?_ (by simpa using lz))
 have hoL:(h'.push (seqObj "list" vs.toArray 0)).get? h'.objs.size=some (seqObj "list" vs.toArray 0):=xv _ rfl
 have k0:∀b o,h'.get? b=some o->(h'.push (seqObj "list" vs.toArray 0)).get? b=some o:=fun b o e=>xl _ e
 refine xa (xG (wpAny_call_entry_kw slot_list_sort ⟨_,hoL,rfl⟩ entry_list_sort ?body (ksk_l1 _ _)))
 case body=>
  show wpAny (model prog w) A.in1.in1 (Builtin.«list.sort» ⟨[.ref h'.objs.size],[(Str.ofString "key",.builtin "len")]⟩) _ _ _
  rw[ksk_t4]
  refine zU1 (s:={ s with heap:=h'.push (seqObj "list" vs.toArray 0) }) hoL hlen h64 (fun i v k h1 h2=>?_) fun h2 tk c k2 q2=>⟨_,rfl,?_⟩
  ·obtain⟨x,its,rfl,⟨o,ho',hc',r'⟩,hr⟩:=R i v k h1 h2
   exact⟨x,its,rfl,⟨o,k0 x o (kp x o ho'),hc',r'⟩,hr⟩
  ·exact xg ⟨_,rfl,h h2 tk c _ hz (fun b o e=>k2 b o (xu (xi (kp b o e))) (k0 b o (kp b o e))) q2⟩
end
end SR
namespace L2
open PySem PySem.Spec PyProof.Rows
open DS (D Store Exn Rs SR)
section
variable {X:Cx}{K:PySem.W.Frag}{E:XE}{J:Js}{S:Store}{H:Hp}
theorem zJd {l:List D}{ys:List V}{its:List Value}(rl:RepL K J H l ys) (rv:Vals ys its):∀(js:List Nat),(∀i∈js,i<l.length)->RepL K J H (js.map fun i=>l.getD i .non) (js.map fun i=>ys.getD i .non)/\Vals (js.map fun i=>ys.getD i .non) (js.map fun i=>its.getD i Value.none)
 | [],_=>⟨rfl,.nil⟩
 | i::js,h=>by
  obtain⟨h1,h2⟩:=zJd rl rv js fun j hj=>h j (.tail _ hj)
  have hi:=h i (.head _)
  obtain⟨y,ey,ry⟩:=rl.get (xp hi)
  obtain⟨u,eu,ru⟩:=rv.get ey
  have e1:l.getD i .non=l[i]:=by simp[hi]
  have e2:ys.getD i .non=y:=by rw[vL,ey];rfl
  have e3:its.getD i Value.none=u:=by rw[vL,eu];rfl
  simp only[xr,e1,e2,e3]
  exact⟨⟨y,_,rfl,ry,h1⟩,.cons ru h2⟩
theorem zPk {e:Expr}{m:DS.EM}{p p3 pos kpos:Pos}(he:DE X K E e m) (hgs:Gl X "sorted") (hms:X.mg "sorted"=none) (hgl:Gl X "len") (hml:X.mg "len"=none) (h:nst e=true:=by rfl) (hK:X.K=K:=by rfl):
  DF X K E (.Call (.Name "sorted" p) [e] [⟨some "key",.Name "len" p3,kpos⟩] pos) (DS.eUn DS.zC3 m):=by
 subst hK
 refine⟨⟨fun pins s σ H Q I hq1=>?_⟩⟩
 obtain⟨env,S,J,ha,hE,q⟩:=hq1
 have hs:starEach [e] X.env=[(false,eval e X.env)]:=zBg h
 refine ur (zE0 I hgs hms u9 ?_)
 refine PyProof.Rows.callWith_kw ?_ (by rw[hs];rfl) (by rw[hs];rfl)
 rw[hs]
 refine(show wpAny _ _ (spliced ((false,eval e X.env)::backTo pos [])) _ _ s from uP ?_)
 refine thn (he.h.h pins s σ H (fun x H1=>∃J1 S1 d0 d,AbS X.K J1 S1 H1/\Rep X.K J1 H1 d0 x/\DS.zC3 S1 d0=some d/\∀p o,H1 p=none->ObD X.K J1 H1 d o->Q (.ref p) (upd H1 p o)) I ⟨env,S,J,ha,hE,q.bind.imp fun d0 S1 J1 H1 _ a1 g1 q1 x rx=>?_⟩) fun v s1 hq1=>?_
 ·obtain⟨c,ec,k⟩:=q1.lift
  exact⟨J1,S1,d0,c,a1,rx,ec,k J1 H1 a1 .refl⟩
 ·obtain⟨x,H1,I1,r1,J1,S1,d0,d,a1,rx,ed,k⟩:=hq1
  refine uO ?_
  refine evalAll_cons (xa (zE0 I1 hgl hml vo (xa (wpAny_standAt (xg (evalAll_nil ?_))))))
  unfold DS.zC3 at ed
  split at ed
  ·rename_i l e1
   split at ed
   ·rename_i ks e2
    split at ed
    ·rename_i hz
     cases ed
     obtain⟨kl,kat⟩:=DS.zH8 e2
     obtain⟨a,ys,rfl,hq,rl⟩:=zC9 a1 rx e1
     cases r1
     obtain⟨o,its,c,T,ho,hc,hT,hd,rv,hsz⟩:=zPx I1 hq
     have il:its.length=l.length:=by rw[rl.length,rv.length]
     refine SR.sorted_K (kz:=ks) ho hc hT hd (by nofun) (by nofun) (fun i v k h1 h2=>?_) fun h' tk c' L hL kp hD=>?_
     ·have hi:i<l.length:=by rw[<- il];exact(xE.mp h1).1
      obtain⟨m,em,hm⟩:=kat i l[i] k (xp hi) h2
      obtain⟨y,ey,ry⟩:=rl.get (xp hi)
      obtain⟨u,eu,ru⟩:=rv.get ey
      rw[h1]at eu
      cases eu
      rw[em]at ry
      obtain⟨b,zs,rfl,tb,rz⟩:=ry
      cases ru
      obtain⟨jts,rj,pj,zj⟩:=I1.tuple tb.sq
      exact⟨b,jts.toArray,rfl,pj,by rw[xn,<- rj.length,<- rz.length,hm],by rw[<- hm,rz.length];exact zj⟩
     ·obtain⟨r2,v2⟩:=zJd rl rv (SR.ordK ks) fun i hi=>by rw[<- kl];exact xY.mp ((SR.ordK_ok ks).1.mem_iff.mp hi)
      have len:((SR.ordK ks).map fun i=>ys.getD i .non).length<=sizeLine:=by rw[xo,SR.ordK_len,xJ];lia
      exact⟨.ref L,_,I1.laid (t':=tk) kp hL (show ObjOk X.prog X.w _ h' _ (.lst ((SR.ordK ks).map fun i=>ys.getD i .non))from⟨len,_,c',v2,hD⟩),rfl,k L _ (I1.hok.fresh hL) ⟨_,rfl,r2⟩⟩
    ·cases ed
   ·cases ed
  ·cases ed
end
end L2
namespace L2
open PySem PySem.Spec PyProof.Rows
open DS (D Store Exn Rs SR)
section
variable {X:Cx}{K:PySem.W.Frag}{J:Js}{S:Store}{H:Hp}{pins:List (Addr × Obj)}{σ:St}{s:Shared}
mutual
theorem zJc (I:Inv X pins σ H s):∀(d:D) (p:PyData) (x:V) (u:Value),DS.pdOf d=some p->Rep X.K J H d x->RelV x u->∃as,Reads s.heap u p as
 | .int i,p,x,u,h,r,ru=>by
  unfold DS.pdOf at h
  cases h
  obtain rfl:=r
  obtain⟨t,rfl⟩:=ru
  exact⟨_,.int i t⟩
 | .tup l,p,x,u,h,r,ru=>by
  unfold DS.pdOf at h
  obtain⟨q,e,rfl⟩:=u4.mp h
  obtain⟨a,xs,rfl,ta,rl⟩:=r
  cases ru
  obtain⟨its,rv,⟨o,ho,hc,n,hd⟩,_⟩:=I.tuple ta.sq
  obtain⟨as,ra⟩:=zH1 I l q xs its e rl rv
  exact⟨as,.tuple ho hc hd (by simpa using ra)⟩
 | .non,p,_,_,h,_,_=>by unfold DS.pdOf at h;cases h
 | .bl _,p,_,_,h,_,_=>by unfold DS.pdOf at h;cases h
 | .str _,p,_,_,h,_,_=>by unfold DS.pdOf at h;cases h
 | .ty _,p,_,_,h,_,_=>by unfold DS.pdOf at h;cases h
 | .lst _,p,_,_,h,_,_=>by unfold DS.pdOf at h;cases h
 | .ktup _,p,_,_,h,_,_=>by unfold DS.pdOf at h;cases h
 | .klst _,p,_,_,h,_,_=>by unfold DS.pdOf at h;cases h
 | .dct _ _ _,p,_,_,h,_,_=>by unfold DS.pdOf at h;cases h
 | .st _,p,_,_,h,_,_=>by unfold DS.pdOf at h;cases h
 | .ref _,p,_,_,h,_,_=>by unfold DS.pdOf at h;cases h
theorem zH1 (I:Inv X pins σ H s):∀(l:List D) (q:List PyData) (xs:List V) (us:List Value),DS.zD9 l=some q->RepL X.K J H l xs->Vals xs us->∃as,ReadsAll s.heap us q as
 | [],q,xs,us,h,r,rv=>by
  unfold DS.zD9 at h
  cases h
  cases(show xs=[]from r)
  cases rv
  exact⟨_,.nil⟩
 | d::l,q,xs,us,h,r,rv=>by
  unfold DS.zD9 at h
  split at h
  ·rename_i p q' e1 e2
   cases h
   obtain⟨x,xs',rfl,rx,rl⟩:=r
   cases rv with
   | cons ru rv'=>
    obtain⟨as,h1⟩:=zJc I d p x _ e1 rx ru
    obtain⟨bs,h2⟩:=zH1 I l q' xs' _ e2 rl rv'
    exact⟨_,.cons h1 h2⟩
  ·cases h
end
theorem zD4 (hu:X.A.units+64<cLine) (hK:X.K=K:=by rfl):zBa X (.builtin "repr") (cOf K DS.zCn):=by
 subst hK
 intro pins s σ H xs us Q I r ⟨J,S,ds,d,ha,rl,e,k⟩
 unfold DS.zCn at e
 split at e
 ·rename_i l
  split at e
  ·rename_i p ep
   split at e
   ·rename_i hh
    cases e
    obtain⟨hs,hd,hz⟩:=hh
    obtain⟨x,rfl,rx⟩:=zDy (ds:=[]) rl
    obtain⟨u,rfl,ru⟩:=vals1 r
    obtain⟨as,rd⟩:=zJc I _ p x u ep rx ru
    obtain⟨a,xs,rfl,_⟩:=rx
    cases ru
    exact repr_of_reads' rd hs (PyData.noDict_hsm (DS.zM5 _ p ep)) I.ok.gds (by nofun) (fun _ _ e=>e) (fun h' u tk kp=>⟨.str p.shown,H,I.kept (t':=tk) kp,⟨u,rfl⟩,k _ H ha .refl rfl⟩) hz
   ·cases e
  ·cases e
 ·cases e
end
end L2
namespace DS
open PySem (Str)
noncomputable section
open Classical
theorem zFj {n:Nat}:∀(S:Store),keeps n S S
 | []=>trivial
 | _::r=>⟨.inl rfl,zFj r⟩
theorem zPb {S:Store}{d:D}(h:d.low S.length=true):fin S d S=.ok d S:=by
 unfold fin
 rw[xc (zFj S),xc h,List.take_length]
theorem atN {l:List D}{i:Int}{k:Nat}{d:D}(h:i=(k:Int)) (e:l[k]?=some d):atL l i=some d:=by
 obtain⟨hk,_⟩:=xE.mp e
 unfold atL ixN
 rw[xc (by nofun),xc (by nofun)]
 show l[i.toNat]?=some d
 rw[show i.toNat=k by nofun];exact e
theorem atL0 {d:D}{l:List D}:atL (d::l) 0=some d:=atN (k:=0) rfl rfl
theorem atL1 {d e:D}{l:List D}:atL (d::e::l) 1=some e:=atN (k:=1) rfl rfl
theorem atL2 {d e f:D}{l:List D}:atL (d::e::f::l) 2=some f:=atN (k:=2) rfl rfl
theorem atL3 {d e f g:D}{l:List D}:atL (d::e::f::g::l) 3=some g:=atN (k:=3) rfl rfl
theorem ixT {S:Store}{l:List D}{i:Int}:ixD S (.tup l) (.int i)=atL l i:=rfl
theorem ixL {S:Store}{l:List D}{i:Int}:ixD S (.lst l) (.int i)=atL l i:=rfl
theorem zMu {S:Store}{l:List D}:items S (.tup l)=some l:=rfl
theorem zMv {S:Store}{l:List D}:items S (.lst l)=some l:=rfl
theorem zOz {S:Store}{l:List D}:look S (.tup l)=some (.tup l):=rfl
theorem zP0 {S:Store}{l:List D}:look S (.lst l)=some (.lst l):=rfl
theorem zP1 {S:Store}{i:Int}:look S (.int i)=some (.int i):=rfl
theorem zSk {S:Store}{b:Bool}:look S (.bl b)=some (.bl b):=rfl
theorem zDz {S:Store}{a b:Int}(h:sm a/\sm b):mulD S (.int a) (.int b)=some (.int (a*b)):=xc h
end
end DS
local macro_rules | `(tactic| simp_arith [$ls,*]) => `(tactic| simp only [DS.sSeq, DS.sSet, DS.sRet, DS.zWg, DS.zB6, DS.sIf, DS.sUnp, DS.zDg, DS.sPar, DS.zLj, DS.eVar, DS.eC, DS.eOp, DS.eUn, DS.aNil, DS.zA0, DS.eTup, DS.eLst, DS.eCB, DS.zAb, DS.eSl, DS.pNo, DS.pYes, DS.asI, DS.asB, DS.tB, DS.tAnd, DS.tOr, DS.tNot, DS.tYes, DS.eAnd, DS.eOr, DS.eNot, DS.eIf, DS.Rs.bind_ok, DS.Rs.then_ok, DS.zAa, DS.zKg, DS.gName, DS.gTup, DS.gAll, DS.zMu, DS.zMv, DS.zOz, DS.zP0, DS.zP1, DS.zSk, ub, Option.map_none, xW, vQ, List.set_cons_zero, List.set_cons_succ, xH, List.length_nil, xr, vI, List.replicate, List.cons_append, List.nil_append, vW, Nat.reduceAdd, Nat.reduceSub, Nat.reduceLT, Nat.reduceEqDiff, xw, xK, DS.addD, DS.subD, DS.ixT, DS.ixL, DS.atL0, DS.atL1, DS.atL2, DS.atL3, ui, Bool.not_false, xR, reduceIte, $ls,*])
namespace DS
open PySem (Str)
noncomputable section
open Classical
noncomputable abbrev zX2:D:=.str (Str.ofString "seed")
noncomputable abbrev kNum:D:=.str (Str.ofString "number")
noncomputable abbrev zX3:D:=.str (Str.ofString "left")
noncomputable def zXa (seed num:Int) (m:Nat):D:=.dct false [zX2,kNum,zX3] [.int seed,.int num,.ref m]
structure zXf (S:Store) (n m:Nat) (seed num:Int) (left:List Int):Prop where
 d:S[n]?=some (zXa seed num m)
 l:S[m]?=some (.lst (left.map D.int))
 ne:n≠m
 lo:0<=seed
 hi:seed<2147483647
section
variable {S:Store}{n m:Nat}{seed num:Int}{left:List Int}
structure Only (n m:Nat) (S S':Store):Prop where
 len:S'.length=S.length
 at_:∀k,k≠n->k≠m->S'[k]?=S[k]?
theorem Only.trans {S' S'':Store}(a:Only n m S S') (b:Only n m S' S''):Only n m S S'':=⟨b.len.trans a.len,fun k h1 h2=>(b.at_ k h1 h2).trans (a.at_ k h1 h2)⟩
theorem Only.set1 (d:D):Only n m S (S.set n d):=⟨by simp,fun k h1 _=>vS (xB h1)⟩
theorem zCj {x:Int}(h1:0<=x) (h2:x<2147483648):sm x:=zWe (by nofun) (by nofun)
theorem zN0 {a b:Int}(hb:0<b) (hs:sm b):zHh S (.int a) (.int b)=some (.int (a.fdiv b)):=xc ⟨by nofun,hs⟩
theorem zCp {a b:Int}(hb:0<b):modD S (.int a) (.int b)=some (.int (a % b)):=xc hb
end
end
end DS
namespace DS
open PySem (Str)
noncomputable section
open Classical
structure AtJ (env:Env) (j:Nat) (d:D) (env':Env):Prop where
 len:env'.length=env.length
 at_:env'[j]?=some (some d)
 o:∀i:Nat,i≠j->env'[i]?=env[i]?
theorem zB9 {S:Store}:gOk S []:=fun _ h=>nomatch h
end
end DS
namespace DS
open PySem (Str)
noncomputable section
open Classical
theorem zGp {np nl:Nat}{b:SM}{ds:List D}{S:Store}{d:D}(hl:ds.length=np) (h:b (ds.map some++List.replicate (nl-np) none) S=.rt d S) (hd:d.low S.length=true):zB1 np nl b ds S=.ok d S:=by
 unfold zB1
 rw[xc hl,h]
 exact zPb hd
end
end DS
namespace DS
open PySem (Str)
noncomputable section
open Classical
structure Grow (n m:Nat) (S S':Store):Prop where
 len:S.length<=S'.length
 at_:∀k,k<S.length->k≠n->k≠m->S'[k]?=S[k]?
section
variable {n m:Nat}{S S' S'':Store}
theorem Grow.refl:Grow n m S S:=⟨xh _,fun _ _ _ _=>rfl⟩
theorem Grow.trans (a:Grow n m S S') (b:Grow n m S' S''):Grow n m S S'':=⟨xm a.len b.len,fun k h h1 h2=>(b.at_ k (xy h a.len) h1 h2).trans (a.at_ k h h1 h2)⟩
theorem Only.grow (a:Only n m S S'):Grow n m S S':=⟨by rw[a.len];exact xh _,fun k _ h1 h2=>a.at_ k h1 h2⟩
theorem Grow.app (T:Store):Grow n m S (S++T):=⟨by simp,fun k h _ _=>vq h⟩
theorem Grow.set {c:Nat}{d:D}(a:Grow n m S S') (h:S.length<=c):Grow n m S (S'.set c d):=⟨by simpa using a.len,fun k hk h1 h2=>by rw[vS (by nofun)];exact a.at_ k hk h1 h2⟩
theorem zHb {n:Nat}:∀{S S':Store},S.length<=S'.length->(∀(i:Nat) (d:D),i<S.length->S'[i]?=some d->S[i]?=some d\/d.low n=true)->keeps n S S'
 | [],_,_,_=>trivial
 | a::r,[],e,_=>by simp at e
 | a::r,b::t,e,h=>⟨by
   rcases h 0 b (by simp) rfl with q|q
   ·exact .inl (by simpa using q)
   ·exact .inr q,zHb (by simpa using e) fun i d hi q=>by simpa using h (i+1) d (by simpa using hi) (by simpa using q)⟩
end
theorem zO7 {k:Int}(h0:0<=k) (h:k<1000000):zFy [.int k]=some ⟨(List.range k.toNat).map fun(i:Nat)=>.int (i:Int),[]⟩:=by
 show(if fits62 k=true then some (Walk.mk (zFd 0 k) [])else none)=_
 rw[xc (by unfold fits62;exact xq ⟨by nofun,by nofun⟩)]
 unfold zFd
 simp
theorem zMh {α:Type}[BEq α] [LawfulBEq α]:∀{l m:List α},l.Nodup->(∀x∈l,x∈m)->l.length<=m.length
 | [],_,_,_=>xC _
 | a::l,m,h,hm=>by
  have hn:=xU.mp h
  have am:=hm a (.head _)
  have:=zMh (l:=l) (m:=m.erase a) hn.2 fun x hx=>(List.mem_erase_of_ne fun z=>hn.1 (by subst z;exact hx)).mpr (hm x (.tail _ hx))
  rw[List.length_erase_of_mem am]at this
  have:0<m.length:=List.length_pos_of_mem am
  rw[xH];lia
theorem zPa {N:Int}{v:Int}{taken:List Int}(hN:(taken.length:Int)<N) (h0:0<=v):∃j:Nat,(v+j) % N ∉ taken/\∀i:Nat,i<j->(v+i) % N∈taken:=by
 have ex:∃j:Nat,(v+j) % N ∉ taken:=by
  apply vC
  intro h
  have h:∀j:Nat,(v+j) % N∈taken:=fun j=>vC fun q=>h ⟨j,q⟩
  have nd:((List.range N.toNat).map fun(j:Nat)=>(v+j) % N).Nodup:=by
   refine uk.mpr ((List.pairwise_lt_range (n:=N.toNat)).imp_of_mem fun {a b} ha hb hab e=>?_)
   have ha:=xY.mp ha
   have hb:=xY.mp hb
   have d:(v+b-(v+a)) % N=0:=Int.emod_eq_emod_iff_emod_sub_eq_zero.mp e.symm
   rw[show v+(b:Int)-(v+a)=((b-a:Nat):Int) by nofun,Int.emod_eq_of_lt (by nofun) (by nofun)]at d
   lia
  have:=zMh nd fun x hx=>by
   obtain⟨j,_,rfl⟩:=xt.mp hx
   exact h j
  rw[xo,vN]at this
  lia
 obtain⟨j,hj⟩:=ex
 induction j using Nat.strongRecOn with
 | _ j ih=>
  by_cases q:∃i:Nat,i<j/\(v+i) % N ∉ taken
  ·obtain⟨i,hi,hn⟩:=q
   exact ih i hi hn
  ·exact⟨j,hj,fun i hi=>vC fun z=>q ⟨i,hi,z⟩⟩
theorem zT1 {S:Store}{c:Nat}{d:D}(h:S[c]?=some d):gOk S [(c,d)]:=fun p hp=>by rw[xI.mp hp];exact h
theorem zNz {S:Store}{c:Nat}{l:List D}(h:S[c]?=some (.lst l)):zBn S (.ref c)=some ⟨l,[(c,.lst l)]⟩:=by
 unfold zBn look gdOf
 simp only[h]
end
end DS
namespace DS
noncomputable section
open Classical
theorem zQe {α:Type}{h:α->D}{gd:List (Nat × D)}{g:GM}{b:SM}(I:Env->Store->Prop) (hg:∀env S,I env S->gOk S gd):∀(xs:List α) (env:Env) (S:Store),I env S->
  (∀a∈xs,∀env S,I env S->∃env' env'' S',g S (h a) env=some env'/\b env' S=.nx env'' S'/\I env'' S')->∃env' S',forL gd g b (xs.map h) env S=.nx env' S'/\I env' S'
 | [],env,S,hi,_=>⟨env,S,by rw[vI,forL,xc (hg env S hi)],hi⟩
 | a::xs,env,S,hi,he=>by
  obtain⟨env',env'',S1,e1,e2,e3⟩:=he a (.head _) env S hi
  obtain⟨e4,S2,e5,e6⟩:=zQe (h:=h) (gd:=gd) (g:=g) (b:=b) I hg xs env'' S1 e3 fun b hb=>he b (.tail _ hb)
  refine⟨e4,S2,?_,e6⟩
  rw[xr,forL,xc (hg env S hi),e1]
  dsimp only
  rw[e2]
  exact e5
section
variable {n m c:Nat}{S S' S0:Store}{d:D}
theorem zKx {l:List D}(h:S[c]?=some (.lst l)) (hl:l.length<1000):zAs S (.ref c) [d]=some (.non,S.set c (.lst (l++[d]))):=by
 unfold zAs
 simp only[h]
 have m9:1000<=most:=by decide
 rw[xc (by nofun)]
theorem ty_D {l:List D}(h:S[c]?=some (.lst l)):tyD S (.ref c)=some "list":=by unfold tyD;rw[show look S (.ref c)=_ from h]
end
end
end DS
namespace RW
open Classical
section
variable {α:Type}{rs:List (List α)}
noncomputable def Sub (q r:List α):Prop:=∀x∈q,x∈r
structure Cn (rs:List (List α)):Prop where
 nd:∀r∈rs,r.Nodup
 eq:∀q∈rs,∀r∈rs,Sub q r->Sub r q->q=r
noncomputable def Mn (rs:List (List α)) (r:List α):Prop:=r∈rs/\∀q∈rs,Sub q r->q=r
theorem zI9 {l m:List α}(h:l.Nodup) (s:∀x∈l,x∈m):l.length<=m.length:=by
 letI:BEq α:=instBEqOfDecidableEq
 exact DS.zMh h s
theorem Cn.lt (c:Cn rs) {q r:List α}(hq:q∈rs) (hr:r∈rs) (s:Sub q r) (n:q≠r):q.length<r.length:=by
 have:¬ Sub r q:=fun z=>n (c.eq q hq r hr s z)
 obtain⟨x,hx⟩:=Classical.not_forall.mp this
 obtain⟨hx,nx⟩:=Classical.not_imp.mp hx
 have:=zI9 (l:=x::q) (m:=r) (xU.mpr ⟨nx,c.nd q hq⟩) fun y hy=>by
  rcases xk.mp hy with rfl|hy
  ·exact hx
  ·exact s y hy
 exact this
theorem Cn.min (c:Cn rs):∀(n:Nat) (q:List α),q.length<=n->q∈rs->∃m,Mn rs m/\Sub m q
 | n,q,hn,hq=>by
  by_cases h:Mn rs q
  ·exact⟨q,h,fun _ h=>h⟩
  ·have:∃p∈rs,Sub p q/\p≠q:=by
    refine vC fun z=>h ⟨hq,fun p hp s=>vC fun e=>z ⟨p,hp,s,e⟩⟩
   obtain⟨p,hp,s,e⟩:=this
   have l:=c.lt hp hq s e
   match n,hn with
   | 0,hn=>lia
   | n+1,hn=>
    obtain⟨m,h1,h2⟩:=c.min n p (by nofun) hp
    exact⟨m,h1,fun x hx=>s x (h2 x hx)⟩
noncomputable def kept:List (List α)->List (List α)->List (List α)
 | K,[]=>K
 | K,r::R=>kept (if ∃q∈K,Sub q r then K else K++[r]) R
theorem zGe (c:Cn rs) (hs:rs.Pairwise fun a b=>a.length<=b.length):∀(R P K:List (List α)),rs=P++R->K.Nodup->(∀r,r∈K <-> (r∈P/\Mn rs r))->(kept K R).Nodup/\∀r,r∈kept K R <-> Mn rs r
 | [],P,K,e,nd,h=>by
  unfold kept
  refine⟨nd,fun r=>(h r).trans ⟨fun z=>z.2,fun z=>⟨?_,z⟩⟩⟩
  have:=z.1
  rw[e,vy]at this
  exact this
 | r::R,P,K,e,nd,h=>by
  have hr:r∈rs:=by rw[e];simp
  unfold kept
  have e':rs=(P++[r])++R:=by rw[e];simp
  by_cases q:∃q∈K,Sub q r
  ·rw[xc q]
   refine zGe c hs R (P++[r]) K e' nd fun x=>(h x).trans ⟨fun z=>⟨v3 _ z.1,z.2⟩,fun z=>⟨?_,z.2⟩⟩
   rcases xP.mp z.1 with w|w
   ·exact w
   ·obtain rfl:=xI.mp w
    obtain⟨p,hp,s⟩:=q
    have:=(h p).mp hp
    have e2:=z.2.2 p this.2.1 s
    rw[<- e2];exact this.1
  ·rw[xf q]
   have mr:Mn rs r:=by
    refine⟨hr,fun p hp s=>vC fun n=>?_⟩
    obtain⟨m,hm,sm⟩:=c.min p.length p (xh _) hp
    have smr:Sub m r:=fun x hx=>s x (sm x hx)
    have mn:m≠r:=fun z=>n (c.eq p hp r hr s (by rw[<- z];exact sm))
    have l:=c.lt hm.1 hr smr mn
    have mP:m∈P:=by
     have:=hm.1
     rw[e]at this
     rcases xP.mp this with w|w
     ·exact w
     ·exfalso
      rcases xk.mp w with w|w
      ·exact mn w
      ·rw[e]at hs
       have:=(vB.mp (List.pairwise_append.mp hs).2.1).1 m w
       lia
    exact q ⟨m,(h m).mpr ⟨mP,hm⟩,smr⟩
   refine zGe c hs R (P++[r]) (K++[r]) e' ?_ fun x=>?_
   ·refine uX.mpr ⟨nd,xU.mpr ⟨(fun z=>nomatch z),vg⟩,fun a ha b hb z=>?_⟩
    rw[xI.mp hb]at z
    subst z
    exact q ⟨_,ha,fun _ h=>h⟩
   ·rw[xP,xP,h x]
    constructor
    ·rintro(z|z)
     ·exact⟨.inl z.1,z.2⟩
     ·exact⟨.inr z,by rw[xI.mp z];exact mr⟩
    ·rintro⟨z|z,w⟩
     ·exact .inl ⟨z,w⟩
     ·exact .inr z
theorem zSs (c:Cn rs) (hs:rs.Pairwise fun a b=>a.length<=b.length):(kept [] rs).Nodup/\∀r,r∈kept [] rs <-> Mn rs r:=
 zGe c hs rs [] [] rfl vg fun r=>⟨fun z=>(by cases z),fun z=>(by cases z.1)⟩
theorem Mn.of_mem {ss:List (List α)}(h:∀r,r∈rs <-> r∈ss) {r:List α}:Mn rs r <-> Mn ss r:=
 ⟨fun z=>⟨(h r).mp z.1,fun q hq=>z.2 q ((h q).mpr hq)⟩,fun z=>⟨(h r).mpr z.1,fun q hq=>z.2 q ((h q).mp hq)⟩⟩
end
end RW
namespace RW
open Classical
section
variable {α:Type}{bs:List α}
noncomputable def ix (bs:List α) (x:α):Nat:=bs.findIdx fun y=>decide (y=x)
theorem ix_at {x:α}(h:x∈bs):bs[ix bs x]?=some x:=by
 have w:ix bs x<bs.length:=List.findIdx_lt_length_of_exists ⟨x,h,xq rfl⟩
 have e:=List.findIdx_getElem (w:=w)
 rw[xp w]
 exact congrArg some (uY e)
theorem zVk {x y:α}(hx:x∈bs) (hy:y∈bs) (e:ix bs x=ix bs y):x=y:=by
 have:=ix_at hx
 rw[e,ix_at hy]at this
 exact(xD this).symm
noncomputable def mask (bs:List α) (r:List α):Nat:=r.foldl (fun m x=>m ||| 2 ^ ix bs x) 0
theorem zMj (i:Nat):∀(r:List α) (m:Nat),(r.foldl (fun m x=>m ||| 2 ^ ix bs x) m).testBit i=(m.testBit i || decide (∃x∈r,ix bs x=i))
 | [],m=>by simp
 | x::r,m=>by
  rw[List.foldl_cons,zMj i r,Nat.testBit_or,Nat.testBit_two_pow,Bool.or_assoc]
  congr 1
  rw[vG]
  simp
theorem mask_bit {r:List α}{i:Nat}:(mask bs r).testBit i=true <-> ∃x∈r,ix bs x=i:=by
 unfold mask
 rw[zMj]
 simp
theorem zJi {q r:List α}(hq:Sub q bs) (hr:Sub r bs):(mask bs q &&& mask bs r)=mask bs q <-> Sub q r:=by
 constructor
 ·intro e x hx
  have b:(mask bs q).testBit (ix bs x)=true:=mask_bit.mpr ⟨x,hx,rfl⟩
  rw[<- e,Nat.testBit_and,xA]at b
  obtain⟨y,hy,e2⟩:=mask_bit.mp b.2
  rw[<- zVk (hr y hy) (hq x hx) e2]
  exact hy
 ·intro s
  apply Nat.eq_of_testBit_eq
  intro i
  rw[Nat.testBit_and,vG,xA]
  refine⟨fun z=>z.1,fun z=>⟨z,?_⟩⟩
  obtain⟨x,hx,e⟩:=mask_bit.mp z
  exact mask_bit.mpr ⟨x,s x hx,e⟩
end
end RW
namespace DS
noncomputable section
open Classical
theorem zHf {α:Type}{h:α->D}{gd:List (Nat × D)}{g:GM}{b:SM}(I:List α->Env->Store->Prop) (hg:∀P env S,I P env S->gOk S gd):∀(xs P:List α) (env:Env) (S:Store),I P env S->
  (∀a∈xs,∀P env S,I P env S->∃env' env'' S',g S (h a) env=some env'/\b env' S=.nx env'' S'/\I (P++[a]) env'' S')->∃env' S',forL gd g b (xs.map h) env S=.nx env' S'/\I (P++xs) env' S'
 | [],P,env,S,hi,_=>⟨env,S,by rw[vI,forL,xc (hg P env S hi)],by rw[vy];exact hi⟩
 | a::xs,P,env,S,hi,he=>by
  obtain⟨env',env'',S1,e1,e2,e3⟩:=he a (.head _) P env S hi
  obtain⟨e4,S2,e5,e6⟩:=zHf (h:=h) (gd:=gd) (g:=g) (b:=b) I hg xs (P++[a]) env'' S1 e3 fun b hb=>he b (.tail _ hb)
  refine⟨e4,S2,?_,by rw[List.append_assoc]at e6;exact e6⟩
  rw[xr,forL,xc (hg P env S hi),e1]
  dsimp only
  rw[e2]
  exact e5
end
end DS
namespace DP
open DS RW
noncomputable section
open Classical
noncomputable abbrev Pt:=Int × Int
noncomputable abbrev cel (p:Pt):D:=.tup [.int p.1,.int p.2]
noncomputable abbrev rowD (r:List Pt):D:=.tup (r.map cel)
theorem zGn {p q:Pt}(h:cel p=cel q):p=q:=by
 have:=(uG (D.tup.inj h))
 exact Prod.ext (D.int.inj this.1) (D.int.inj (uG this.2).1)
theorem mem_cel {p:Pt}{l:List Pt}:cel p∈l.map cel <-> p∈l:=⟨fun h=>by obtain⟨q,hq,e⟩:=xt.mp h;rw[<- zGn e];exact hq,fun h=>xt.mpr ⟨p,h,rfl⟩⟩
noncomputable abbrev powL (n:Nat):List D:=(List.range n).map fun i=>.int ((2 ^ i:Nat):Int)
noncomputable abbrev zAl (bs:List Pt):D:=.dct true (bs.map cel) (powL bs.length)
theorem zG9 {p:Pt}:zE1 true (cel p)=true:=rfl
theorem zKd {S:Store}{c:Nat}{bs:List Pt}{p:Pt}(h:S[c]?=some (zAl bs)):zDh S (cel p) (.ref c)=some (.bl (decide (p ∉ bs))):=by
 unfold zDh inO
 rw[show look S (.ref c)=some (zAl bs)from h]
 dsimp only
 rw[xc zG9]
 show some (D.bl (!decide (cel p∈bs.map cel)))=_
 congr 2
 rw[<- decide_not]
 exact xS.mpr (not_congr mem_cel)
theorem zOa {S:Store}{c:Nat}{bs:List Pt}{p:Pt}(h:S[c]?=some (zAl bs)) (n:p ∉ bs) (hl:bs.length<=1000):putD S (.ref c) (cel p) (.int ((2 ^ bs.length:Nat):Int))=some (S.set c (zAl (bs++[p]))):=by
 have m9:1001<=most:=by decide
 unfold putD
 simp only[h]
 rw[xc ⟨zG9,by rw[xo];lia⟩]
 unfold put2
 rw[xf fun z=>n (mem_cel.mp z)]
 have e:zAl (bs++[p])=.dct true (bs.map cel++[cel p]) (powL bs.length++[.int ((2 ^ bs.length:Nat):Int)]):=by
  unfold zAl powL
  rw[vd,u5,List.range_succ,ug,ug]
  rfl
 rw[e]
noncomputable abbrev ibB:SM:=(sIf (tB (eOp zDh (eVar 4) (eVar 1))) (sSeq (sPut putD (eVar 1) (eVar 4) (eVar 2)) (sSet 2 (eOp addD (eVar 2) (eVar 2)))) zB6)
structure IB (v:D) (S0:Store) (A Q:List Pt) (env:Env) (S:Store):Prop where
 ex:∃bs o3 o4,env=[some v,some (.ref S0.length),some (.int ((2 ^ bs.length:Nat):Int)),o3,o4]/\S=S0++[zAl bs]/\bs.Nodup/\(∀x∈bs,x∈A)/\∀x∈Q,x∈bs
theorem zSx {v:D}{S0:Store}{A Q:List Pt}{env:Env}{S:Store}{p:Pt}(hA:A.length<=1000) (hp:p∈A) (h:IB v S0 A Q env S):∃env' env'' S',gName 4 S (cel p) env=some env'/\ibB env' S=.nx env'' S'/\IB v S0 A (Q++[p]) env'' S':=by
 obtain⟨bs,o3,o4,rfl,rfl,nd,sub,cov⟩:=h.ex
 have at_:(S0++[zAl bs])[S0.length]?=some (zAl bs):=by simp
 have ni:=zKd (p:=p) at_
 have bl:bs.length<=1000:=xm (zI9 nd sub) hA
 refine⟨[some v,some (.ref S0.length),some (.int ((2 ^ bs.length:Nat):Int)),o3,some (cel p)],?_⟩
 by_cases q:p∈bs
 ·rw[xj (not_not_intro q)]at ni
  refine⟨_,S0++[zAl bs],by simp_arith [xw],by unfold ibB;simp_arith [ni],bs,o3,some (cel p),rfl,rfl,nd,sub,fun x hx=>?_⟩
  rcases xP.mp hx with w|w
  ·exact cov x w
  ·rw[xI.mp w];exact q
 ·rw[xq q]at ni
  have pu:=zOa at_ q bl
  have es:(S0++[zAl bs]).set S0.length (zAl (bs++[p]))=S0++[zAl (bs++[p])]:=by simp
  rw[es]at pu
  refine⟨[some v,some (.ref S0.length),some (.int ((2 ^ (bs++[p]).length:Nat):Int)),o3,some (cel p)],S0++[zAl (bs++[p])],by simp_arith [xw],?_,bs++[p],o3,some (cel p),rfl,rfl,?_,fun x hx=>?_,fun x hx=>?_⟩
  ·have e2:((2 ^ bs.length:Nat):Int)+((2 ^ bs.length:Nat):Int)=((2 ^ (bs++[p]).length:Nat):Int):=by
    rw[vd,u5,Nat.pow_succ];lia
   unfold ibB
   simp_arith [ni,sPut,pu,e2]
  ·refine uX.mpr ⟨nd,xU.mpr ⟨(fun z=>nomatch z),vg⟩,fun a ha b hb z=>?_⟩
   rw[xI.mp hb]at z
   exact q (z ▸ ha)
  ·rcases xP.mp hx with w|w
   ·exact sub x w
   ·rw[xI.mp w];exact hp
  ·rcases xP.mp hx with w|w
   ·exact v3 _ (cov x w)
   ·exact vc _ w
end
end DP
namespace DS
noncomputable section
open Classical
theorem zEt {n:Nat}:∀(S T:Store),keeps n S (S++T)
 | [],_=>trivial
 | a::S,T=>⟨.inl rfl,zEt S T⟩
theorem zPn {np nl:Nat}{b:SM}{ds:List D}{S T:Store}{d:D}{c:Nat}(hl:ds.length=np) (h:b (ds.map some++List.replicate (nl-np) none) S=.rt (.ref c) (S++T)) (hc:S.length<=c) (hd:(S++T)[c]?=some d) (lo:d.low S.length=true):zB1 np nl b ds S=.ok d S:=by
 unfold zB1
 rw[xc hl,h]
 dsimp only
 unfold fin
 rw[xc (zEt S T),xf (by show ¬ decide (c<S.length)=true;simpa using hc)]
 dsimp only
 rw[hd]
 dsimp only
 rw[xc lo,List.take_left]
theorem zFp {np nl:Nat}{b:SM}{ds:List D}{S T:Store}{d:D}(hl:ds.length=np) (h:b (ds.map some++List.replicate (nl-np) none) S=.rt d (S++T)) (lo:d.low S.length=true):zB1 np nl b ds S=.ok d S:=by
 unfold zB1
 rw[xc hl,h]
 dsimp only
 unfold fin
 rw[xc (zEt S T),xc lo,List.take_left]
theorem zQl {α:Type}{h f:α->D}{gd:List (Nat × D)}{g:GM}{e:EM}{S:Store}{I:Env->Prop}(hg:gOk S gd):∀(xs:List α) (k:Nat) (env:Env),I env->k+xs.length<=most->
  (∀a∈xs,∀env,I env->∃env',g S (h a) env=some env'/\I env'/\e env' S=.ok (f a) S)->zDv gd g tYes e k (xs.map h) env S=.ok (xs.map f) S
 | [],k,env,_,_,_=>by rw[vI,zDv,xc hg];rfl
 | a::xs,k,env,hi,hk,he=>by
  have hk':k+(xs.length+1)<=most:=hk
  obtain⟨env',e1,e2,e3⟩:=he a (.head _) env hi
  rw[xr,zDv,xc ⟨hg,by nofun⟩,e1]
  dsimp only
  rw[tYes,Rs.bind_ok,xc rfl,e3,Rs.bind_ok,zQl (I:=I) hg xs (k+1) env' e2 (by nofun) fun b hb=>he b (.tail _ hb),Rs.bind_ok]
  rfl
theorem zTa {α:Type}{h f:α->D}{own:Nat}{ix:List Nat}{i:IM}{gd:List (Nat × D)}{g:GM}{e:EM}{S:Store}{env:Env}{xs:List α}(I:Env->Prop) (hi:i env S=.ok ⟨xs.map h,gd⟩ S) (hg:gOk S gd) (h0:I (compEnv own ix env)) (hk:xs.length<=most)
  (he:∀a∈xs,∀env,I env->∃env',g S (h a) env=some env'/\I env'/\e env' S=.ok (f a) S):zCs own ix i g tYes e env S=.ok (.lst (xs.map f)) S:=by
 rw[zCs,hi,Rs.bind_ok]
 rw[zQl (I:=I) hg xs 0 _ h0 (by nofun) he,Rs.bind_ok]
theorem zNj {α:Type}{h f:α->D}{p:α->Bool}{gd:List (Nat × D)}{g:GM}{c:TM}{e:EM}{S:Store}{I:Env->Prop}(hg:gOk S gd):∀(xs:List α) (k:Nat) (env:Env),I env->k+xs.length<=most->
  (∀a∈xs,∀env,I env->∃env',g S (h a) env=some env'/\I env'/\c env' S=.ok (p a) S/\(p a=true->e env' S=.ok (f a) S))->zDv gd g c e k (xs.map h) env S=.ok ((xs.filter p).map f) S
 | [],k,env,_,_,_=>by rw[vI,zDv,xc hg];rfl
 | a::xs,k,env,hi,hk,he=>by
  have hk':k+(xs.length+1)<=most:=hk
  obtain⟨env',e1,i1,e2,e3⟩:=he a (.head _) env hi
  rw[xr,zDv,xc ⟨hg,by nofun⟩,e1]
  show(c env' S).bind _=_
  rw[e2,Rs.bind_ok]
  cases q:p a with
  | true=>
   rw[xc rfl,e3 q,Rs.bind_ok,zNj hg xs (k+1) env' i1 (by nofun) fun b hb=>he b (.tail _ hb),Rs.bind_ok,List.filter_cons,xc q]
   rfl
  | false=>
   rw[xf (by decide),zNj hg xs k env' i1 (by nofun) fun b hb=>he b (.tail _ hb),List.filter_cons,xf (by rw[q];decide)]
theorem zIi {α:Type}{h f:α->D}{p:α->Bool}{own:Nat}{ix:List Nat}{i:IM}{gd:List (Nat × D)}{g:GM}{c:TM}{e:EM}{S:Store}{env:Env}{xs:List α}(I:Env->Prop) (hi:i env S=.ok ⟨xs.map h,gd⟩ S) (hg:gOk S gd) (h0:I (compEnv own ix env)) (hk:xs.length<=most)
  (he:∀a∈xs,∀env,I env->∃env',g S (h a) env=some env'/\I env'/\c env' S=.ok (p a) S/\(p a=true->e env' S=.ok (f a) S)):zCs own ix i g c e env S=.ok (.lst ((xs.filter p).map f)) S:=by
 rw[zCs,hi,Rs.bind_ok]
 rw[zNj (I:=I) hg xs 0 _ h0 (by nofun) he,Rs.bind_ok]
theorem zHe {α:Type}{h:α->D}{gd:List (Nat × D)}{g:GM}{b:SM}{ys:List α}(I:List α->Env->Store->Prop) (hg:∀P env S,I P env S->gOk S gd) (he:∀P a R,ys=P++a::R->∀env S,I P env S->∃env' env'' S',g S (h a) env=some env'/\b env' S=.nx env'' S'/\I (P++[a]) env'' S'):∀(xs P:List α) (env:Env) (S:Store),ys=P++xs->I P env S->∃env' S',forL gd g b (xs.map h) env S=.nx env' S'/\I ys env' S'
 | [],P,env,S,e,hi=>⟨env,S,by rw[vI,forL,xc (hg P env S hi)],by rw[e,vy];exact hi⟩
 | a::xs,P,env,S,e,hi=>by
  obtain⟨env',env'',S1,e1,e2,e3⟩:=he P a xs e env S hi
  obtain⟨e4,S2,e5,e6⟩:=zHe (h:=h) (gd:=gd) (g:=g) (b:=b) (ys:=ys) I hg he xs (P++[a]) env'' S1 (by rw[e];simp) e3
  refine⟨e4,S2,?_,e6⟩
  rw[xr,forL,xc (hg P env S hi),e1]
  dsimp only
  rw[e2]
  exact e5
end
end DS
namespace DP
open DS RW
noncomputable section
open Classical
theorem zBy {k:Nat}:∀(l:List Pt),lowL k (l.map cel)=true
 | []=>rfl
 | x::l=>by show((cel x).low k && lowL k (l.map cel))=true;rw[zBy l];rfl
theorem zH7 {k:Nat}{α:Type}{f:α->Int}:∀(l:List α),lowL k (l.map fun x=>.int (f x))=true
 | []=>rfl
 | x::l=>by show(true && lowL k (l.map fun x=>.int (f x)))=true;rw[zH7 l];rfl
theorem zG7 {k:Nat}:∀(l:List (List Pt)),lowL k (l.map rowD)=true
 | []=>rfl
 | x::l=>by show((rowD x).low k && lowL k (l.map rowD))=true;rw[zG7 l,show(rowD x).low k=true from zBy x];rfl
theorem zAk {a b:SM}{env e:Env}{S S1:Store}{r:SR}(h:a env S=.nx e S1) (h':b e S1=r):sSeq a b env S=r:=by rw[sSeq,h];exact h'
noncomputable abbrev obB:SM:=(sFor (iVal (eVar 3)) (gName 4) ibB)
theorem zTl {S0:Store}{v:D}{rows:List (List Pt)}(hw:∀S,zBn S v=some ⟨rows.map rowD,[]⟩) (hA:rows.flatten.length<=1000):∃bs,zC1 [v] S0=.ok (zAl bs) S0/\bs.Nodup/\∀r∈rows,Sub r bs:=by
 have i0:IB v S0 rows.flatten ([]:List (List Pt)).flatten [some v,some (.ref S0.length),some (.int 1),none,none] (S0++[zAl []]):=⟨[],none,none,rfl,rfl,vg,fun x hx=>(by cases hx),fun x hx=>(by cases hx)⟩
 obtain⟨env',S',e,hi⟩:=zHf (h:=rowD) (gd:=[]) (g:=gName 3) (b:=obB) (fun P env S=>IB v S0 rows.flatten P.flatten env S) (fun _ _ _ _=>zB9) rows [] _ _ i0 fun r hr P env S h=>by
  obtain⟨bs,o3,o4,rfl,rfl,nd,sub,cov⟩:=h.ex
  have i1:IB v S0 rows.flatten (P.flatten++[]) [some v,some (.ref S0.length),some (.int ((2 ^ bs.length:Nat):Int)),some (rowD r),o4] (S0++[zAl bs]):=⟨bs,some (rowD r),o4,rfl,rfl,nd,sub,by rw[vy];exact cov⟩
  obtain⟨env',S',e,hi⟩:=zHf (h:=cel) (gd:=[]) (g:=gName 4) (b:=ibB) (fun Q env S=>IB v S0 rows.flatten (P.flatten++Q) env S) (fun _ _ _ _=>zB9) r [] _ _ i1 fun p hp Q env S h=>by
   obtain⟨e1,e2,e3,a,b,c⟩:=zSx hA (List.mem_flatten.mpr ⟨r,hr,hp⟩) h
   rw[List.append_assoc]at c
   exact⟨e1,e2,e3,a,b,c⟩
  refine⟨[some v,some (.ref S0.length),some (.int ((2 ^ bs.length:Nat):Int)),some (rowD r),o4],env',S',by simp_arith [xw],?_,?_⟩
  ·have w:iVal (eVar 3) [some v,some (.ref S0.length),some (.int ((2 ^ bs.length:Nat):Int)),some (rowD r),o4] (S0++[zAl bs])=.ok ⟨r.map cel,[]⟩ (S0++[zAl bs]):=by
    have w:∀S,zBn S (rowD r)=some ⟨r.map cel,[]⟩:=fun _=>rfl
    simp only[iVal,eVar,xW,vQ,Rs.bind_ok,w,zAa]
   unfold obB
   rw[sFor,w,Rs.then_ok]
   exact e
  ·rw[List.flatten_append,List.flatten_singleton]
   exact hi
 obtain⟨bs,o3,o4,rfl,rfl,nd,sub,cov⟩:=hi.ex
 refine⟨bs,?_,nd,fun r hr x hx=>cov x (List.mem_flatten.mpr ⟨r,hr,hx⟩)⟩
 refine zPn (T:=[zAl bs]) (c:=S0.length) rfl ?_ (xh _) (by simp) ?_
 ·show(sSeq (sSet 1 (eNew (eDct true))) (sSeq (sSet 2 (eC (.int 1))) (sSeq (sFor (iVal (eVar 0)) (gName 3) obB) (sRet (eVar 1))))) [some v,none,none,none,none] S0=_
  have x1:sSet 1 (eNew (eDct true)) [some v,none,none,none,none] S0=.nx [some v,some (.ref S0.length),none,none,none] (S0++[zAl []]):=by simp_arith [eNew,eDct];rfl
  have x2:sSet 2 (eC (.int 1)) [some v,some (.ref S0.length),none,none,none] (S0++[zAl []])=.nx [some v,some (.ref S0.length),some (.int 1),none,none] (S0++[zAl []]):=by simp_arith [xw]
  have x3:sFor (iVal (eVar 0)) (gName 3) obB [some v,some (.ref S0.length),some (.int 1),none,none] (S0++[zAl []])=.nx [some v,some (.ref S0.length),some (.int ((2 ^ bs.length:Nat):Int)),o3,o4] (S0++[zAl bs]):=by
   have w:iVal (eVar 0) [some v,some (.ref S0.length),some (.int 1),none,none] (S0++[zAl []])=.ok ⟨rows.map rowD,[]⟩ (S0++[zAl []]):=by
    simp only[iVal,eVar,xW,Rs.bind_ok,hw,zAa]
   rw[sFor,w,Rs.then_ok]
   exact e
  exact zAk x1 (zAk x2 (zAk x3 (by simp_arith [xw])))
 ·show(lowL S0.length (bs.map cel) && lowL S0.length (powL bs.length))=true
  rw[zBy,zH7];rfl
theorem zJj:∀(bs:List Pt) (x:Pt) (k:Nat),x∈bs->look2 (bs.map cel) ((List.range' k bs.length).map fun i=>.int ((2 ^ i:Nat):Int)) (cel x)=some (.int ((2 ^ (k+RW.ix bs x):Nat):Int))
 | [],_,_,h=>by cases h
 | y::bs,x,k,h=>by
  rw[xr,xH,List.range'_succ,xr,look2]
  by_cases e:y=x
  ·subst e
   rw[xc rfl]
   have:RW.ix (y::bs) y=0:=by unfold RW.ix;rw[List.findIdx_cons];simp
   rw[this];rfl
  ·rw[xf fun z=>e (zGn z),zJj bs x (k+1) ((xk.mp h).resolve_left (xB e))]
   have:RW.ix (y::bs) x=RW.ix bs x+1:=by unfold RW.ix;rw[List.findIdx_cons];simp[e]
   rw[this]
   congr 3
   lia
theorem zSu {S:Store}{bs:List Pt}{x:Pt}(h:x∈bs):ixD S (zAl bs) (cel x)=some (.int ((2 ^ RW.ix bs x:Nat):Int)):=by
 show(if zE1 true (cel x)=true then look2 (bs.map cel) (powL bs.length) (cel x)else none)=_
 rw[xc zG9]
 have:=zJj bs x 0 h
 rw[vW]at this
 rw[<- this]
 unfold powL
 rw[List.range_eq_range']
theorem zSg {S:Store}{bs r:List Pt}(h:Sub r bs):zC0 [rowD r,zAl bs] S=.ok (.int ((RW.mask bs r:Nat):Int)) S:=by
 refine zGp rfl ?_ rfl
 show(sSeq (sSet 2 (eC (.int 0))) (sSeq (sFor (iVal (eVar 0)) (gName 3) (sSet 2 (eOp orD (eVar 2) (eOp ixD (eVar 1) (eVar 3))))) (sRet (eVar 2)))) [some (rowD r),some (zAl bs),none,none] S=_
 obtain⟨env',S',e,⟨rfl,o3,rfl⟩⟩:=zHf (h:=cel) (gd:=[]) (g:=gName 3) (b:=(sSet 2 (eOp orD (eVar 2) (eOp ixD (eVar 1) (eVar 3))))) (fun P env S'=>S'=S/\∃o3,env=[some (rowD r),some (zAl bs),some (.int ((RW.mask bs P:Nat):Int)),o3]) (fun _ _ _ _=>zB9) r [] [some (rowD r),some (zAl bs),some (.int 0),none] S ⟨rfl,none,rfl⟩ fun p hp P env S' hh=>by
  obtain⟨rfl,o3,rfl⟩:=hh
  have i:=zSu (S:=S') (h p hp)
  have o:orD S' (.int ((RW.mask bs P:Nat):Int)) (.int ((2 ^ RW.ix bs p:Nat):Int))=some (.int ((RW.mask bs (P++[p]):Nat):Int)):=by
   show(if 0<=((RW.mask bs P:Nat):Int)/\0<=((2 ^ RW.ix bs p:Nat):Int)then some (D.int ((((RW.mask bs P:Nat):Int).toNat ||| ((2 ^ RW.ix bs p:Nat):Int).toNat:Nat):Int))else none)=_
   rw[xc ⟨by nofun,by nofun⟩,vn,vn]
   unfold RW.mask
   rw[List.foldl_append]
   rfl
  exact⟨[some (rowD r),some (zAl bs),some (.int ((RW.mask bs P:Nat):Int)),some (cel p)],[some (rowD r),some (zAl bs),some (.int ((RW.mask bs (P++[p]):Nat):Int)),some (cel p)],S',by simp_arith [xw],by simp_arith [i,o],rfl,_,rfl⟩
 have x1:sSet 2 (eC (.int 0)) [some (rowD r),some (zAl bs),none,none] S'=.nx [some (rowD r),some (zAl bs),some (.int 0),none] S':=by simp_arith [xw]
 have x2:sFor (iVal (eVar 0)) (gName 3) (sSet 2 (eOp orD (eVar 2) (eOp ixD (eVar 1) (eVar 3)))) [some (rowD r),some (zAl bs),some (.int 0),none] S'=.nx [some (rowD r),some (zAl bs),some (.int ((RW.mask bs r:Nat):Int)),o3] S':=by
  have w:iVal (eVar 0) [some (rowD r),some (zAl bs),some (.int 0),none] S'=.ok ⟨r.map cel,[]⟩ S':=by
   have w:zBn S' (rowD r)=some ⟨r.map cel,[]⟩:=rfl
   simp only[iVal,eVar,xW,Rs.bind_ok,w,zAa]
  rw[sFor,w,Rs.then_ok]
  exact e
 exact zAk x1 (zAk x2 (by simp_arith [xw]))
end
end DP
namespace DP
open DS RW
noncomputable section
open Classical
noncomputable abbrev natD (n:Nat):D:=.int (n:Int)
theorem zL0 {S:Store}{c m:Nat}{ms:List Nat}(h:S[c]?=some (.lst (ms.map natD))) (hl:ms.length<=1000):zB7 [natD m,.ref c] S=.ok (.bl (decide (∃q∈ms,(q &&& m)=q))) S:=by
 have m9:1000<=most:=by decide
 refine zGp rfl ?_ rfl
 show zBr [some (natD m),some (.ref c)] S=_
 have e:zCs 1 [0] (iVal (eVar 1)) (gName 0) tYes (eOp eqD (eOp andD (eVar 0) (eVar 1)) (eVar 0)) [some (natD m),some (.ref c)] S=.ok (.lst (ms.map fun q=>.bl (decide ((q &&& m)=q)))) S:=by
  refine zTa (xs:=ms) (h:=natD) (gd:=[(c,.lst (ms.map natD))]) (fun env=>∃o,env=[o,some (natD m)]) (f:=fun q=>.bl (decide ((q &&& m)=q))) ?_ (zT1 h) ⟨none,rfl⟩ (by nofun) ?_
  ·have w:=zNz h
   simp only[iVal,eVar,xW,vQ,Rs.bind_ok,w,zAa]
  ·rintro q hq env ⟨o,rfl⟩
   have a:andD S (natD q) (natD m)=some (natD (q &&& m)):=by
    show(if 0<=(q:Int)/\0<=(m:Int)then some (D.int (((q:Int).toNat &&& (m:Int).toNat:Nat):Int))else none)=_
    rw[xc ⟨by nofun,by nofun⟩,vn,vn]
   have b:eqD S (natD (q &&& m)) (natD q)=some (.bl (decide ((q &&& m)=q))):=by
    show some (D.bl (decide (((q &&& m:Nat):Int)=(q:Int))))=_
    congr 2
    exact xS.mpr (by nofun)
   exact⟨[some (natD q),some (natD m)],by simp_arith [xw],⟨_,rfl⟩,by simp_arith [a,b]⟩
 have an:anyB S [.lst (ms.map fun q=>.bl (decide ((q &&& m)=q)))]=some (.bl (decide (∃q∈ms,(q &&& m)=q))):=by
  have bl:∀l:List Nat,bools (l.map fun q=>.bl (decide ((q &&& m)=q)))=some (l.map fun q=>decide ((q &&& m)=q)):=fun l=>by
   induction l with
   | nil=>rfl
   | cons a l ih=>rw[xr,bools,ih];rfl
  show((bools (ms.map fun q=>.bl (decide ((q &&& m)=q)))).map fun bs=>D.bl (bs.any id))=_
  rw[bl]
  show some (D.bl _)=_
  congr 2
  rw[vG,decide_eq_true_iff]
  simp
 unfold zBr
 simp only[sRet,eCB,zA0,aNil]
 rw[e]
 simp only[Rs.bind_ok,Rs.then_ok,an,zAa]
theorem zGd {α:Type}{K:List (List α)}{r:List α}(h:∃q∈K,Sub q r):kept K [r]=K:=by
 unfold kept kept
 exact xc h
theorem zIf {α:Type}{K:List (List α)}{r:List α}(h:¬ ∃q∈K,Sub q r):kept K [r]=K++[r]:=by
 unfold kept kept
 exact xf h
theorem zDk {α:Type}{r:List α}:∀(P K:List (List α)),kept K (P++[r])=kept (kept K P) [r]
 | [],K=>rfl
 | p::P,K=>by
  rw[List.cons_append]
  exact zDk P _
theorem zR6 {S:Store}{v:D}{rows:List (List Pt)}(hi:items S v=some (rows.map rowD)) (hl:rows.length<=63):∃ss:List (List Pt),zC3 S v=some (.lst (ss.map rowD))/\ss.Perm rows/\ss.Pairwise fun a b=>a.length<=b.length:=by
 have ls:zFi (rows.map rowD)=some (rows.map List.length):=by
  have:=zFh (f:=fun r:List Pt=>r.map cel) rows
  rw[this]
  congr 1
  apply List.map_congr_left
  intro r _
  rw[xo]
 obtain⟨p,o⟩:=SR.ordK_ok (rows.map List.length)
 rw[xo]at p
 have get:∀i∈SR.ordK (rows.map List.length),i<rows.length:=fun i h=>xY.mp (p.mem_iff.mp h)
 refine⟨(SR.ordK (rows.map List.length)).map fun i=>rows.getD i [],?_,?_,?_⟩
 ·unfold zC3
  rw[hi]
  dsimp only
  rw[ls]
  dsimp only
  rw[xc (by rw[xo];exact hl),ud]
  congr 2
  apply List.map_congr_left
  intro i hi'
  have:=get i hi'
  simp[this]
 ·refine(p.map _).trans ?_
  have:(List.range rows.length).map (fun i=>rows.getD i [])=rows:=by
   refine List.ext_getElem (by simp) fun i h1 h2=>?_
   simp
   rw[xp h2];rfl
  rw[this]
 ·refine uk.mpr ((uk.mp o).imp_of_mem fun {a b} ha hb h=>?_)
  have h1:=get a ha
  have h2:=get b hb
  simpa[h1,h2]using h
end
end DP
namespace DP
open DS RW
noncomputable section
open Classical
theorem tru {S:Store}{b:Bool}:truth S (.bl b)=some b:=rfl
theorem zQ8 (p:Pt):lv 1 (cel p):=⟨_,rfl,fun x hx=>by
 rcases xk.mp hx with rfl|hx
 ·exact⟨p.1,rfl⟩
 ·exact⟨p.2,xI.mp hx⟩⟩
theorem zMk (r:List Pt):lv 2 (rowD r):=⟨_,rfl,fun x hx=>by
 obtain⟨p,_,rfl⟩:=xt.mp hx
 exact zQ8 p⟩
noncomputable abbrev lrB:SM:=(sSeq (sSet 5 (zAb zC0 (zA0 (eVar 4) (zA0 (eVar 1) aNil)))) (sIf (tNot (tTru (zAb zB7 (zA0 (eVar 5) (zA0 (eVar 2) aNil))))) (sSeq (zDg (eMt "list" zAs (eVar 2) (zA0 (eVar 5) aNil))) (zDg (eMt "list" zAs (eVar 3) (zA0 (eVar 4) aNil)))) zB6))
noncomputable abbrev lrS (S0:Store) (bs:List Pt) (K:List (List Pt)):Store:=S0++[.lst ((K.map (RW.mask bs)).map natD),.lst (K.map rowD)]
noncomputable abbrev lrE (v:D) (S0:Store) (bs:List Pt) (o4 o5:Option D):Env:=[some v,some (zAl bs),some (.ref S0.length),some (.ref (S0.length+1)),o4,o5]
theorem zSj {v:D}{S0:Store}{bs r:List Pt}{K:List (List Pt)}{o4 o5:Option D}(hr:Sub r bs) (hK:∀q∈K,Sub q bs) (hl:K.length<=900):∃o5',lrB (lrE v S0 bs (some (rowD r)) o5) (lrS S0 bs K)=.nx (lrE v S0 bs (some (rowD r)) o5') (lrS S0 bs (kept K [r])):=by
 have at1:(lrS S0 bs K)[S0.length]?=some (.lst ((K.map (RW.mask bs)).map natD)):=by simp
 have at2:(lrS S0 bs K)[S0.length+1]?=some (.lst (K.map rowD)):=by simp
 have mk:=zSg (S:=lrS S0 bs K) hr
 have wi:=zL0 (m:=RW.mask bs r) at1 (by rw[xo];lia)
 have key:(∃q∈K.map (RW.mask bs),(q &&& RW.mask bs r)=q) <-> ∃q∈K,Sub q r:=by
  constructor
  ·rintro⟨m,hm,e⟩
   obtain⟨q,hq,rfl⟩:=xt.mp hm
   exact⟨q,hq,(zJi (hK q hq) hr).mp e⟩
  ·rintro⟨q,hq,s⟩
   exact⟨_,xt.mpr ⟨q,hq,rfl⟩,(zJi (hK q hq) hr).mpr s⟩
 rw[show decide (∃q∈K.map (RW.mask bs),(q &&& RW.mask bs r)=q)=decide (∃q∈K,Sub q r)from xS.mpr key]at wi
 have x1:sSet 5 (zAb zC0 (zA0 (eVar 4) (zA0 (eVar 1) aNil))) (lrE v S0 bs (some (rowD r)) o5) (lrS S0 bs K)=.nx (lrE v S0 bs (some (rowD r)) (some (natD (RW.mask bs r)))) (lrS S0 bs K):=by simp_arith [mk]
 refine⟨some (natD (RW.mask bs r)),zAk x1 ?_⟩
 by_cases q:∃q∈K,Sub q r
 ·rw[xq q]at wi
  rw[zGd q]
  simp_arith [tTru,wi,tru]
 ·rw[xj q]at wi
  rw[zIf q]
  have a1:=zKx (d:=natD (RW.mask bs r)) at1 (by simp;lia)
  have e1:(lrS S0 bs K).set S0.length (.lst ((K.map (RW.mask bs)).map natD++[natD (RW.mask bs r)]))=S0++[.lst (((K++[r]).map (RW.mask bs)).map natD),.lst (K.map rowD)]:=by simp
  rw[e1]at a1
  have at3:(S0++[D.lst (((K++[r]).map (RW.mask bs)).map natD),.lst (K.map rowD)])[S0.length+1]?=some (.lst (K.map rowD)):=by simp
  have a2:=zKx (d:=rowD r) at3 (by simp;lia)
  have e2:(S0++[D.lst (((K++[r]).map (RW.mask bs)).map natD),.lst (K.map rowD)]).set (S0.length+1) (.lst (K.map rowD++[rowD r]))=lrS S0 bs (K++[r]):=by
   rw[List.set_append_right _ _ (by simp)]
   simp
  rw[e2]at a2
  simp_arith [tTru,wi,tru,eMt,ty_D at1,a1,ty_D at3,a2]
theorem zJl {S0:Store}{v:D}{rows:List (List Pt)}(hw:∀S,zBn S v=some ⟨rows.map rowD,[]⟩) (hi:∀S,items S v=some (rows.map rowD)) (c:Cn rows) (hl:rows.length<=63) (hA:rows.flatten.length<=1000):
  ∃K:List (List Pt),zAe [v] S0=.ok (.tup (srt (K.map rowD))) S0/\K.Nodup/\∀r,r∈K <-> Mn rows r:=by
 obtain⟨bs,eb,_,cov⟩:=zTl (S0:=S0) hw hA
 obtain⟨ss,es,pm,so⟩:=zR6 (S:=lrS S0 bs []) (hi _) hl
 have css:Cn ss:=⟨fun r hr=>c.nd r (pm.mem_iff.mp hr),fun q hq r hr=>c.eq q (pm.mem_iff.mp hq) r (pm.mem_iff.mp hr)⟩
 obtain⟨nd,mem⟩:=zSs css so
 have sl:ss.length<=63:=by rw[pm.length_eq];exact hl
 have sub:∀r∈ss,Sub r bs:=fun r hr=>cov r (pm.mem_iff.mp hr)
 obtain⟨env',S',e,⟨o4,o5,rfl,rfl⟩,_⟩:=zHf (h:=rowD) (gd:=[]) (g:=gName 4) (b:=lrB) (fun P env S=>(∃o4 o5,env=lrE v S0 bs o4 o5/\S=lrS S0 bs (kept [] P))/\(kept [] P).Nodup/\∀q∈kept [] P,q∈ss) (fun _ _ _ _=>zB9) ss [] (lrE v S0 bs none none) (lrS S0 bs []) ⟨⟨none,none,rfl,rfl⟩,vg,fun q hq=>(by cases hq)⟩ fun r hr P env S hh=>by
  obtain⟨⟨o4,o5,rfl,rfl⟩,kn,ks⟩:=hh
  have kl:(kept [] P).length<=900:=xm (zI9 kn ks) (by nofun)
  obtain⟨o5',e⟩:=zSj (v:=v) (S0:=S0) (o4:=o4) (o5:=o5) (sub r hr) (fun q hq=>sub q (ks q hq)) kl
  refine⟨lrE v S0 bs (some (rowD r)) o5,_,_,by simp_arith [xw],e,⟨_,_,rfl,by rw[zDk]⟩,?_,?_⟩
  ·rw[zDk]
   by_cases q:∃q∈kept [] P,Sub q r
   ·rw[zGd q];exact kn
   ·rw[zIf q]
    refine uX.mpr ⟨kn,xU.mpr ⟨(fun z=>nomatch z),vg⟩,fun a ha b hb z=>?_⟩
    rw[xI.mp hb]at z
    exact q ⟨a,ha,by rw[z];exact fun _ h=>h⟩
  ·rw[zDk]
   by_cases q:∃q∈kept [] P,Sub q r
   ·rw[zGd q];exact ks
   ·rw[zIf q]
    intro x hx
    rcases xP.mp hx with w|w
    ·exact ks x w
    ·rw[xI.mp w];exact hr
 rw[List.nil_append]at e
 refine⟨kept [] ss,?_,nd,fun r=>(mem r).trans (Mn.of_mem fun q=>pm.mem_iff)⟩
 have kl:(kept [] ss).length<=63:=xm (zI9 nd fun r hr=>((mem r).mp hr).1) sl
 have so2:sortable ((kept [] ss).map rowD):=⟨by rw[xo];exact xm kl (by decide),2,by decide,fun x hx=>by obtain⟨r,_,rfl⟩:=xt.mp hx;exact zMk r⟩
 have at2:(lrS S0 bs (kept [] ss))[S0.length+1]?=some (.lst ((kept [] ss).map rowD)):=by simp
 have sb:zGy (lrS S0 bs (kept [] ss)) [.ref (S0.length+1)]=some (.lst (srt ((kept [] ss).map rowD))):=by
  have it:items (lrS S0 bs (kept [] ss)) (.ref (S0.length+1))=some ((kept [] ss).map rowD):=by
   unfold items
   rw[show look (lrS S0 bs (kept [] ss)) (.ref (S0.length+1))=_ from at2]
  show(match items (lrS S0 bs (kept [] ss)) (.ref (S0.length+1))with|some l=>if sortable l then some (D.lst (srt l))else none|none=>none)=_
  rw[it]
  exact xc so2
 refine zFp (T:=[.lst (((kept [] ss).map (RW.mask bs)).map natD),.lst ((kept [] ss).map rowD)]) rfl ?_ ?_
 ·show(sSeq (sSet 1 (zAb zC1 (zA0 (eVar 0) aNil))) (sSeq (sSet 2 (eNew (eLst aNil))) (sSeq (sSet 3 (eNew (eLst aNil))) (sSeq (sFor (iVal (eUn zC3 (eVar 0))) (gName 4) lrB) (sRet (eCB zAv (zA0 (eCB zGy (zA0 (eVar 3) aNil)) aNil))))))) [some v,none,none,none,none,none] S0=_
  have x1:sSet 1 (zAb zC1 (zA0 (eVar 0) aNil)) [some v,none,none,none,none,none] S0=.nx [some v,some (zAl bs),none,none,none,none] S0:=by simp_arith [eb]
  have x2:sSet 2 (eNew (eLst aNil)) [some v,some (zAl bs),none,none,none,none] S0=.nx [some v,some (zAl bs),some (.ref S0.length),none,none,none] (S0++[.lst []]):=by simp_arith [eNew]
  have x3:sSet 3 (eNew (eLst aNil)) [some v,some (zAl bs),some (.ref S0.length),none,none,none] (S0++[.lst []])=.nx (lrE v S0 bs none none) (lrS S0 bs []):=by
   simp_arith [eNew]
   simp
  have x4:sFor (iVal (eUn zC3 (eVar 0))) (gName 4) lrB (lrE v S0 bs none none) (lrS S0 bs [])=.nx (lrE v S0 bs o4 o5) (lrS S0 bs (kept [] ss)):=by
   have w:iVal (eUn zC3 (eVar 0)) (lrE v S0 bs none none) (lrS S0 bs [])=.ok ⟨ss.map rowD,[]⟩ (lrS S0 bs []):=by
    have w:zBn (lrS S0 bs []) (.lst (ss.map rowD))=some ⟨ss.map rowD,[]⟩:=rfl
    simp only[iVal,eUn,eVar,xW,Rs.bind_ok,es,w,zAa]
   rw[sFor,w,Rs.then_ok]
   exact e
  have tp:∀l S,zAv S [.lst l]=some (.tup l):=fun _ _=>rfl
  exact zAk x1 (zAk x2 (zAk x3 (zAk x4 (by simp_arith [sb,tp]))))
 ·have:∀x∈srt ((kept [] ss).map rowD),∃r,x=rowD r:=fun x hx=>by
   obtain⟨r,_,rfl⟩:=xt.mp ((zB3 _).mem_iff.mp hx)
   exact⟨r,rfl⟩
  show lowL S0.length (srt ((kept [] ss).map rowD))=true
  generalize srt ((kept [] ss).map rowD)=l at this
  induction l with
  | nil=>rfl
  | cons a l ih=>
   obtain⟨r,rfl⟩:=this a (.head _)
   show((rowD r).low S0.length && lowL S0.length l)=true
   rw[ih fun x hx=>this x (.tail _ hx),show(rowD r).low S0.length=true from zBy r];rfl
end
end DP
namespace DP
open DS RW
noncomputable section
open Classical
theorem zBj:∀(l:List Pt),zBt (l.map cel)=true
 | []=>rfl
 | p::l=>by show((cel p).flat && zBt (l.map cel))=true;rw[zBj l];rfl
theorem zD3:∀(l:List Pt),depL (l.map cel)<=1
 | []=>xC _
 | p::l=>by show max (cel p).dep (depL (l.map cel))<=1;exact Nat.max_le.mpr ⟨xh 1,zD3 l⟩
theorem zEk:∀(l m:List Pt),cmpL (l.map cel) (m.map cel)=true
 | [],_=>by unfold cmpL;rfl
 | _::_,[]=>by unfold cmpL;rfl
 | p::l,q::m=>by show((cel p).cmp (cel q) && cmpL (l.map cel) (m.map cel))=true;rw[zEk l m];rfl
theorem zDl:∀(l:List (List Pt)),zBt (l.map rowD)=true
 | []=>rfl
 | r::l=>by show((rowD r).flat && zBt (l.map rowD))=true;rw[zDl l,show(rowD r).flat=true from zBj r];rfl
theorem zGj:∀(l:List (List Pt)),depL (l.map rowD)<=2
 | []=>xC _
 | r::l=>by
  show max (depL (r.map cel)+1) (depL (l.map rowD))<=2
  exact Nat.max_le.mpr ⟨Nat.succ_le_succ (zD3 r),zGj l⟩
theorem zGk:∀(l m:List (List Pt)),cmpL (l.map rowD) (m.map rowD)=true
 | [],_=>by unfold cmpL;rfl
 | _::_,[]=>by unfold cmpL;rfl
 | p::l,q::m=>by show((rowD p).cmp (rowD q) && cmpL (l.map rowD) (m.map rowD))=true;rw[zGk l m,show(rowD p).cmp (rowD q)=true from zEk p q];rfl
theorem zGm {l m:List Pt}(h:l.map cel=m.map cel):l=m:=(List.map_inj_right fun _ _ e=>zGn e).mp h
theorem zJa {q r:List Pt}(h:rowD q=rowD r):q=r:=zGm (D.tup.inj h)
theorem zV9 {S:Store}{q r:List Pt}:neD S (rowD q) (rowD r)=some (.bl (decide (q≠r))):=by
 show((if okL (q.map cel) (r.map cel)then some (decide (q.map cel=r.map cel))else none).map fun b=>D.bl (!b))=_
 rw[xc ⟨zBj q,zBj r,zEk q r,xm (zD3 q) (by decide)⟩]
 show some (D.bl _)=_
 congr 2
 rw[<- decide_not]
 exact xS.mpr (not_congr ⟨zGm,fun e=>by rw[e]⟩)
theorem zOw {S:Store}{l:List Pt}:eqD S (.lst (l.map cel)) (.lst [])=some (.bl (decide (l=[]))):=by
 show((if okL (l.map cel) []then some (decide (l.map cel=[]))else none).map D.bl)=_
 rw[xc ⟨zBj l,rfl,zEk l [],xm (zD3 l) (by decide)⟩]
 show some (D.bl _)=_
 congr 2
 exact xS.mpr List.map_eq_nil_iff
theorem zOv {S:Store}{l:List (List Pt)}:eqD S (.lst (l.map rowD)) (.lst [])=some (.bl (decide (l=[]))):=by
 show((if okL (l.map rowD) []then some (decide (l.map rowD=[]))else none).map D.bl)=_
 rw[xc ⟨zDl l,rfl,zGk l [],xm (zGj l) (by decide)⟩]
 show some (D.bl _)=_
 congr 2
 exact xS.mpr List.map_eq_nil_iff
theorem zMf {S:Store}{p:Pt}{r:List Pt}:zDh S (cel p) (rowD r)=some (.bl (decide (p ∉ r))):=by
 show((if okIn (cel p) (r.map cel)then some (decide (cel p∈r.map cel))else none).map fun b=>D.bl (!b))=_
 rw[xc ⟨rfl,zBj r,xm (zD3 r) (by decide),fun d hd=>by obtain⟨q,_,rfl⟩:=xt.mp hd;rfl⟩]
 show some (D.bl _)=_
 congr 2
 rw[<- decide_not]
 exact xS.mpr (not_congr mem_cel)
noncomputable abbrev lin1:EM:=(zCs 1 [1] (iVal (eVar 0)) (gName 0) (tB (eOp zDh (eVar 0) (eVar 1))) (eVar 0))
theorem zSn {S:Store}{q r:List Pt}(hl:q.length<=1000):lin1 [some (rowD q),some (rowD r)] S=.ok (.lst ((q.filter fun x=>decide (x ∉ r)).map cel)) S:=by
 have m9:1000<=most:=by decide
 refine zIi (xs:=q) (h:=cel) (gd:=[]) (p:=fun x=>decide (x ∉ r)) (fun env=>∃o,env=[o,some (rowD r)]) ?_ zB9 ⟨none,rfl⟩ (by nofun) ?_
 ·have w:zBn S (rowD q)=some ⟨q.map cel,[]⟩:=rfl
  simp only[iVal,eVar,xW,Rs.bind_ok,w,zAa]
 ·rintro x hx env ⟨o,rfl⟩
  exact⟨[some (cel x),some (rowD r)],by simp_arith [xw],⟨_,rfl⟩,by simp_arith [zMf],fun _=>by simp_arith [xw]⟩
theorem zPc {q r:List Pt}:(q.filter fun x=>decide (x ∉ r))=[] <-> Sub q r:=by
 rw[List.filter_eq_nil_iff]
 unfold RW.Sub
 simp
noncomputable abbrev lin2:EM:=(zCs 1 [3] (iVal (eVar 1)) (gName 0) (tAnd (tB (eOp neD (eVar 0) (eVar 1))) (tB (eOp eqD lin1 (eLst aNil)))) (eVar 0))
theorem zSm {S:Store}{v:D}{us:List (List Pt)}{r:List Pt}{o2:Option D}(hu:us.length<=1000) (hl:∀q∈us,q.length<=1000):lin2 [some v,some (.lst (us.map rowD)),o2,some (rowD r)] S=.ok (.lst ((us.filter fun q=>decide (q≠r/\Sub q r)).map rowD)) S:=by
 have m9:1000<=most:=by decide
 refine zIi (xs:=us) (h:=rowD) (gd:=[]) (p:=fun q=>decide (q≠r/\Sub q r)) (fun env=>∃o,env=[o,some (rowD r)]) ?_ zB9 ⟨none,rfl⟩ (by nofun) ?_
 ·have w:zBn S (.lst (us.map rowD))=some ⟨us.map rowD,[]⟩:=rfl
  simp only[iVal,eVar,xW,vQ,Rs.bind_ok,w,zAa]
 ·rintro q hq env ⟨o,rfl⟩
  refine⟨[some (rowD q),some (rowD r)],by simp_arith [xw],⟨_,rfl⟩,?_,fun _=>by simp_arith [xw]⟩
  have i:=zSn (S:=S) (r:=r) (hl q hq)
  have ne:=zV9 (S:=S) (q:=q) (r:=r)
  have nl:=zOw (S:=S) (l:=q.filter fun x=>decide (x ∉ r))
  rw[show decide ((q.filter fun x=>decide (x ∉ r))=[])=decide (Sub q r)from xS.mpr zPc]at nl
  have t1:tB (eOp neD (eVar 0) (eVar 1)) [some (rowD q),some (rowD r)] S=.ok (decide (q≠r)) S:=by simp_arith [ne]
  have t2:tB (eOp eqD lin1 (eLst aNil)) [some (rowD q),some (rowD r)] S=.ok (decide (Sub q r)) S:=by
   simp only[tB,eOp,i,Rs.bind_ok,eLst,aNil,nl,zAa,asB]
  rw[tAnd,t1,Rs.bind_ok]
  by_cases c:q≠r
  ·rw[xq c,xc rfl,t2]
   congr 1
   exact xS.mpr ⟨fun z=>⟨c,z⟩,fun z=>z.2⟩
  ·rw[xj c,xf (by decide),xj fun z=>c z.1]
theorem zPd {us:List (List Pt)}{r:List Pt}(hr:r∈us):(us.filter fun q=>decide (q≠r/\Sub q r))=[] <-> Mn us r:=by
 rw[List.filter_eq_nil_iff]
 unfold Mn
 constructor
 ·intro h
  refine⟨hr,fun q hq s=>vC fun n=>h q hq (xq ⟨n,s⟩)⟩
 ·intro h q hq z
  have:=uY z
  exact this.1 (h.2 q hq this.2)
end
end DP
namespace DP
open DS RW
noncomputable section
open Classical
theorem zRe (rows:List (List Pt)):∃us:List (List Pt),srt (dedup (rows.map rowD))=us.map rowD/\us.Nodup/\∀r,r∈us <-> r∈rows:=by
 have al:∀x∈srt (dedup (rows.map rowD)),∃r∈rows,x=rowD r:=fun x hx=>by
  obtain⟨r,hr,e⟩:=xt.mp (mem_dedup.mp ((zB3 _).mem_iff.mp hx))
  exact⟨r,hr,e.symm⟩
 obtain⟨us,e1⟩:∃us:List (List Pt),srt (dedup (rows.map rowD))=us.map rowD:=by
  generalize srt (dedup (rows.map rowD))=l at al
  induction l with
  | nil=>exact⟨[],rfl⟩
  | cons x l ih=>
   obtain⟨r,_,rfl⟩:=al x (.head _)
   obtain⟨us,e⟩:=ih fun y hy=>al y (.tail _ hy)
   exact⟨r::us,by rw[e];rfl⟩
 refine⟨us,e1,?_,fun r=>?_⟩
 ·have:(us.map rowD).Nodup:=by rw[<- e1];exact(zB3 _).nodup_iff.mpr zDn
  exact(uk.mp this).imp fun {a b} h z=>h (by rw[z])
 ·have m:rowD r∈us.map rowD <-> rowD r∈rows.map rowD:=by rw[<- e1,(zB3 _).mem_iff,mem_dedup]
  constructor
  ·intro h
   obtain⟨q,hq,e⟩:=xt.mp (m.mp (xt.mpr ⟨r,h,rfl⟩))
   rw[<- zJa e];exact hq
  ·intro h
   obtain⟨q,hq,e⟩:=xt.mp (m.mpr (xt.mpr ⟨r,h,rfl⟩))
   rw[<- zJa e];exact hq
noncomputable abbrev llB:SM:=(sIf (tB (eOp eqD lin2 (eLst aNil))) (zDg (eMt "list" zAs (eVar 2) (zA0 (eVar 3) aNil))) zB6)
theorem law_least_ok {S0:Store}{v:D}{rows:List (List Pt)}(hi:∀S,items S v=some (rows.map rowD)) (hl:rows.length<=63) (hr:∀r∈rows,r.length<=1000):
  ∃us:List (List Pt),srt (dedup (rows.map rowD))=us.map rowD/\us.Nodup/\(∀r,r∈us <-> r∈rows)/\zAn [v] S0=.ok (.tup ((us.filter fun r=>decide (Mn us r)).map rowD)) S0:=by
 obtain⟨us,e1,nd,mem⟩:=zRe rows
 refine⟨us,e1,nd,mem,?_⟩
 have ul:us.length<=63:=xm (zI9 nd fun r h=>(mem r).mp h) hl
 have ss:∀S,ssL S v=some (.lst (us.map rowD)):=fun S=>by
  unfold ssL
  rw[hi]
  dsimp only
  rw[xc ⟨by rw[xo];exact xm hl (by decide),1,by decide,fun x hx=>by obtain⟨r,_,rfl⟩:=xt.mp hx;exact zMk r⟩,e1]
 obtain⟨env',S',e,o3,rfl,rfl⟩:=zHe (h:=rowD) (gd:=[]) (g:=gName 3) (b:=llB) (ys:=us) (fun P env S=>∃o3,env=[some v,some (.lst (us.map rowD)),some (.ref S0.length),o3]/\S=S0++[.lst ((P.filter fun r=>decide (Mn us r)).map rowD)]) (fun _ _ _ _=>zB9) (fun P r R eq env S hh=>by
  obtain⟨o3,rfl,rfl⟩:=hh
  have hr':r∈us:=by rw[eq];simp
  have pl:(P.filter fun r=>decide (Mn us r)).length<=63:=xm (List.length_filter_le _ _) (xm (by rw[eq,vd];lia) ul)
  have at_:(S0++[D.lst ((P.filter fun r=>decide (Mn us r)).map rowD)])[S0.length]?=some (.lst ((P.filter fun r=>decide (Mn us r)).map rowD)):=by simp
  have l2:=zSm (S:=S0++[.lst ((P.filter fun r=>decide (Mn us r)).map rowD)]) (v:=v) (us:=us) (r:=r) (o2:=some (.ref S0.length)) (by nofun) fun q hq=>hr q ((mem q).mp hq)
  have nl:=zOv (S:=S0++[.lst ((P.filter fun r=>decide (Mn us r)).map rowD)]) (l:=us.filter fun q=>decide (q≠r/\Sub q r))
  rw[show decide ((us.filter fun q=>decide (q≠r/\Sub q r))=[])=decide (Mn us r)from xS.mpr (zPd hr')]at nl
  have t:tB (eOp eqD lin2 (eLst aNil)) [some v,some (.lst (us.map rowD)),some (.ref S0.length),some (rowD r)] (S0++[.lst ((P.filter fun r=>decide (Mn us r)).map rowD)])=.ok (decide (Mn us r)) (S0++[.lst ((P.filter fun r=>decide (Mn us r)).map rowD)]):=by
   simp only[tB,eOp,l2,Rs.bind_ok,eLst,aNil,nl,zAa,asB]
  have fs:(P++[r]).filter (fun r=>decide (Mn us r))=(P.filter fun r=>decide (Mn us r))++if Mn us r then [r]else []:=by
   rw[List.filter_append]
   congr 1
   by_cases c:Mn us r
   ·rw[xc c,List.filter_cons,xc (xq c)];rfl
   ·rw[xf c,List.filter_cons,xf (by rw[xj c];decide)];rfl
  refine⟨[some v,some (.lst (us.map rowD)),some (.ref S0.length),some (rowD r)],[some v,some (.lst (us.map rowD)),some (.ref S0.length),some (rowD r)],S0++[.lst (((P++[r]).filter fun r=>decide (Mn us r)).map rowD)],by simp_arith [xw],?_,_,rfl,rfl⟩
  rw[llB,sIf,t,Rs.then_ok,fs]
  by_cases c:Mn us r
  ·rw[xq c,xc rfl,xc c]
   have ap:=zKx (d:=rowD r) at_ (by rw[xo];lia)
   have es:(S0++[D.lst ((P.filter fun r=>decide (Mn us r)).map rowD)]).set S0.length (.lst ((P.filter fun r=>decide (Mn us r)).map rowD++[rowD r]))=S0++[.lst (((P.filter fun r=>decide (Mn us r))++[r]).map rowD)]:=by
    rw[List.set_append_right _ _ (xh _),ug]
    simp
   rw[es]at ap
   simp_arith [eMt,ty_D at_,ap]
  ·rw[xj c,xf (by decide),xf c,vy]
   rfl) us [] [some v,some (.lst (us.map rowD)),some (.ref S0.length),none] (S0++[.lst []]) rfl ⟨none,rfl,rfl⟩
 have at_:(S0++[D.lst ((us.filter fun r=>decide (Mn us r)).map rowD)])[S0.length]?=some (.lst ((us.filter fun r=>decide (Mn us r)).map rowD)):=by simp
 refine zFp (T:=[.lst ((us.filter fun r=>decide (Mn us r)).map rowD)]) rfl ?_ (zG7 _)
 show(sSeq (sSet 1 (eUn ssL (eVar 0))) (sSeq (sSet 2 (eNew (eLst aNil))) (sSeq (sFor (iVal (eVar 1)) (gName 3) llB) (sRet (eCB zAv (zA0 (eVar 2) aNil)))))) [some v,none,none,none] S0=_
 have x1:sSet 1 (eUn ssL (eVar 0)) [some v,none,none,none] S0=.nx [some v,some (.lst (us.map rowD)),none,none] S0:=by simp_arith [ss]
 have x2:sSet 2 (eNew (eLst aNil)) [some v,some (.lst (us.map rowD)),none,none] S0=.nx [some v,some (.lst (us.map rowD)),some (.ref S0.length),none] (S0++[.lst []]):=by simp_arith [eNew]
 have x3:sFor (iVal (eVar 1)) (gName 3) llB [some v,some (.lst (us.map rowD)),some (.ref S0.length),none] (S0++[.lst []])=.nx [some v,some (.lst (us.map rowD)),some (.ref S0.length),o3] (S0++[.lst ((us.filter fun r=>decide (Mn us r)).map rowD)]):=by
  have w:iVal (eVar 1) [some v,some (.lst (us.map rowD)),some (.ref S0.length),none] (S0++[.lst []])=.ok ⟨us.map rowD,[]⟩ (S0++[.lst []]):=by
   have w:zBn (S0++[.lst []]) (.lst (us.map rowD))=some ⟨us.map rowD,[]⟩:=rfl
   simp only[iVal,eVar,xW,vQ,Rs.bind_ok,w,zAa]
  rw[sFor,w,Rs.then_ok]
  exact e
 have tp:zAv (S0++[.lst ((us.filter fun r=>decide (Mn us r)).map rowD)]) [.ref S0.length]=some (.tup ((us.filter fun r=>decide (Mn us r)).map rowD)):=by
  simp only[zAv,litems,show look (S0++[D.lst ((us.filter fun r=>decide (Mn us r)).map rowD)]) (.ref S0.length)=_ from at_,ub]
 exact zAk x1 (zAk x2 (zAk x3 (by simp_arith [tp])))
theorem zH0 {rows us K:List (List Pt)}(eu:srt (dedup (rows.map rowD))=us.map rowD) (nu:us.Nodup) (mu:∀r,r∈us <-> r∈rows) (nK:K.Nodup) (mK:∀r,r∈K <-> Mn rows r):srt (K.map rowD)=(us.filter fun r=>decide (Mn us r)).map rowD:=by
 have lvs:∀(l:List (List Pt)),∀y∈l.map rowD,lv 2 y:=fun l y hy=>by obtain⟨r,_,rfl⟩:=xt.mp hy;exact zMk r
 symm
 refine zJ0 (n:=2) (lvs _) ?_ ?_
 ·refine List.Perm.map _ ?_
  refine(List.perm_ext_iff_of_nodup (nu.filter _) nK).mpr fun r=>?_
  rw[vY,mK,decide_eq_true_iff]
  exact⟨fun h=>(Mn.of_mem mu).mp h.2,fun h=>⟨(mu r).mpr h.1,(Mn.of_mem mu).mpr h⟩⟩
 ·have u:Up (us.map rowD):=by
   rw[<- eu]
   exact zGx (n:=2) fun y hy=>lvs rows y (mem_dedup.mp hy)
  exact u.sublist (List.filter_sublist.map _)
end
end DP
namespace DP
open DS RW
open PySem (PyData)
noncomputable section
open Classical
noncomputable def Bd (p:Pt):Prop:=-1000<=p.1/\p.1<=1000/\-1000<=p.2/\p.2<=1000
noncomputable abbrev cPD (p:Pt):PyData:=.tuple [.int p.1,.int p.2]
noncomputable abbrev rPD (r:List Pt):PyData:=.tuple (r.map cPD)
theorem zM4:∀(l:List Pt),zD9 (l.map cel)=some (l.map cPD)
 | []=>by unfold zD9;rfl
 | p::l=>by
  rw[xr,zD9,show pdOf (cel p)=some (cPD p) by simp[pdOf,zD9],zM4 l]
  rfl
theorem zUx (r:List Pt):pdOf (rowD r)=some (rPD r):=by
 unfold pdOf
 rw[zM4]
 rfl
theorem zM3:∀(l:List (List Pt)),zD9 (l.map rowD)=some (l.map rPD)
 | []=>by unfold zD9;rfl
 | r::l=>by
  rw[xr,zD9,zUx r,zM3 l]
  rfl
theorem zLg {i:Int}(h1:-1000<=i) (h2:i<=1000):(PyData.int i).showable=true:=by
 show decide (i.natAbs.log2<1920)=true
 have:=Nat.log2_le_self i.natAbs
 exact xq (by nofun)
theorem zLh {i:Int}(h1:-1000<=i) (h2:i<=1000):(PyData.int i).leavesShort 13=true:=by
 show decide _=true
 exact xq (PyData.shown_int_le2 (by nofun) (by nofun))
theorem zJ8:∀(l:List Pt),(∀p∈l,Bd p)->PyData.showableAll (l.map cPD)=true/\PyData.leavesShortAll 13 (l.map cPD)=true/\PyData.depthAll (l.map cPD)<=1/\PyData.bulkAll (l.map cPD)=3*l.length
 | [],_=>⟨rfl,rfl,xC _,rfl⟩
 | p::l,h=>by
  obtain⟨i1,i2,i3,i4⟩:=zJ8 l fun q hq=>h q (.tail _ hq)
  obtain⟨b1,b2,b3,b4⟩:=h p (.head _)
  refine⟨?_,?_,?_,?_⟩
  ·show(((PyData.int p.1).showable && ((PyData.int p.2).showable && true)) && PyData.showableAll (l.map cPD))=true
   rw[i1,zLg b1 b2,zLg b3 b4];rfl
  ·show(((PyData.int p.1).leavesShort 13 && ((PyData.int p.2).leavesShort 13 && true)) && PyData.leavesShortAll 13 (l.map cPD))=true
   rw[i2,zLh b1 b2,zLh b3 b4];rfl
  ·show max 1 (PyData.depthAll (l.map cPD))<=1
   exact Nat.max_le.mpr ⟨xh 1,i3⟩
  ·show 2+1+PyData.bulkAll (l.map cPD)=3*(l.length+1)
   rw[i4];lia
theorem zJ7:∀(l:List (List Pt)),(∀r∈l,r.length<=8/\∀p∈r,Bd p)->PyData.showableAll (l.map rPD)=true/\PyData.leavesShortAll 13 (l.map rPD)=true/\PyData.depthAll (l.map rPD)<=2/\PyData.bulkAll (l.map rPD)<=25*l.length
 | [],_=>⟨rfl,rfl,xC _,xh 0⟩
 | r::l,h=>by
  obtain⟨i1,i2,i3,i4⟩:=zJ7 l fun q hq=>h q (.tail _ hq)
  obtain⟨hl,hb⟩:=h r (.head _)
  obtain⟨c1,c2,c3,c4⟩:=zJ8 r hb
  refine⟨?_,?_,?_,?_⟩
  ·show(PyData.showableAll (r.map cPD) && PyData.showableAll (l.map rPD))=true
   rw[i1,c1];rfl
  ·show(PyData.leavesShortAll 13 (r.map cPD) && PyData.leavesShortAll 13 (l.map rPD))=true
   rw[i2,c2];rfl
  ·show max (PyData.depthAll (r.map cPD)+1) (PyData.depthAll (l.map rPD))<=2
   exact Nat.max_le.mpr ⟨Nat.succ_le_succ c3,i3⟩
  ·show PyData.bulkAll (r.map cPD)+1+PyData.bulkAll (l.map rPD)<=25*(l.length+1)
   lia
theorem zLo {rs:List (List Pt)}(hb:∀r∈rs,r.length<=8/\∀p∈r,Bd p) (hl:rs.length<=63):∃t,∀S,zCn S [.tup (rs.map rowD)]=some (.str t):=by
 obtain⟨c1,c2,c3,c4⟩:=zJ7 rs hb
 refine⟨(PyData.tuple (rs.map rPD)).shown,fun S=>?_⟩
 have e:pdOf (.tup (rs.map rowD))=some (.tuple (rs.map rPD)):=by
  unfold pdOf
  rw[zM3]
  rfl
 unfold zCn
 dsimp only
 rw[e]
 dsimp only
 rw[xc]
 refine⟨c1,?_,?_⟩
 ·show PyData.depthAll (rs.map rPD)+1<=60
  lia
 ·have:=PyData.shown_fits_bulk (B:=13) (d:=.tuple (rs.map rPD)) (by decide) (by decide) c2 (by
   show PyData.bulkAll (rs.map rPD)<=1048576
   lia)
  rw[PySem.sizeLine_eq]at this
  exact this
end
end DP
namespace DS
noncomputable section
open Classical
noncomputable def FeedAt (S:Store) (c:Nat) (own seed:Int):Prop:=S[c]?=some (.lst [.int own,.int seed])/\0<=seed/\seed<=2147483629
noncomputable def Feed (S:Store) (c:Nat):Prop:=∃own seed,FeedAt S c own seed
noncomputable def zNu:SM:=
  (sSeq (sIf (tB (eOp gtD (eOp ixD (eVar 0) (eC (.int 0))) (eC (.int 0)))) (sSeq (sSet 2 (eOp modD (eOp ixD (eVar 0) (eC (.int 0))) (eVar 1)))
  (sSeq (sPut putD (eVar 0) (eC (.int 0)) (eOp zHh (eOp ixD (eVar 0) (eC (.int 0))) (eVar 1)))
  (sRet (eVar 2)))) zB6)
  (sSeq (sSet 3 (eOp modD (eOp mulD (eOp ixD (eVar 0) (eC (.int 1))) (eC (.int 69623))) (eC (.int 2147483647))))
  (sSeq (sPut putD (eVar 0) (eC (.int 1)) (eOp addD (eOp modD (eOp addD (eOp mulD (eVar 3) (eC (.int 48271))) (eC (.int 30103))) (eC (.int 2147483629))) (eC (.int 1))))
  (sRet (eOp modD (eOp zHh (eOp addD (eOp mulD (eVar 3) (eC (.int 2147483647))) (eOp ixD (eVar 0) (eC (.int 1)))) (eC (.int 8191))) (eVar 1))))))
section
variable {S S':Store}{c:Nat}{own seed:Int}
theorem FeedAt.ix0 (h:FeedAt S c own seed):ixD S (.ref c) (.int 0)=some (.int own):=by
 unfold ixD look
 simp only[h.1]
 exact atL0
theorem FeedAt.ix1 (h:FeedAt S c own seed):ixD S (.ref c) (.int 1)=some (.int seed):=by
 unfold ixD look
 simp only[h.1]
 exact atL1
theorem FeedAt.put0 (h:FeedAt S c own seed) (x:Int):putD S (.ref c) (.int 0) (.int x)=some (S.set c (.lst [.int x,.int seed])):=by
 unfold putD
 simp only[h.1]
 rfl
theorem FeedAt.put1 (h:FeedAt S c own seed) (x:Int):putD S (.ref c) (.int 1) (.int x)=some (S.set c (.lst [.int own,.int x])):=by
 unfold putD
 simp only[h.1]
 rfl
theorem Feed.lt (h:Feed S c):c<S.length:=by
 obtain⟨_,_,h⟩:=h
 exact(xE.mp h.1).1
theorem FeedAt.set (h:FeedAt S c own seed) {a b:Int}(h1:0<=b) (h2:b<=2147483629):FeedAt (S.set c (.lst [.int a,.int b])) c a b:=⟨by rw[vR (Feed.lt ⟨_,_,h⟩)],h1,h2⟩
theorem Feed.app (h:Feed S c) (T:Store):Feed (S++T) c:=by
 have l:=h.lt
 obtain⟨a,b,h,h1,h2⟩:=h
 exact⟨a,b,by rw[vq l];exact h,h1,h2⟩
theorem Feed.setO {k:Nat}{d:D}(h:Feed S c) (h1:k≠c):Feed (S.set k d) c:=by
 obtain⟨a,b,h,h2⟩:=h
 exact⟨a,b,by rw[vS h1];exact h,h2⟩
theorem zFl (h':Feed S' c) (g:Grow c c S S'):keeps S.length S S':=by
 refine zHb g.len fun i e hi he=>?_
 obtain⟨_,_,h',_⟩:=h'
 by_cases h1:i=c
 ·subst h1;rw[h']at he;cases he;exact .inr rfl
 ·rw[g.at_ i hi h1 h1]at he;exact .inl he
theorem zJt (h:Feed S c) (h':Feed S' c) (g:Grow c c S S'):Feed (S'.take S.length) c/\Only c c S (S'.take S.length):=by
 have l:=h.lt
 obtain⟨a,b,h',h2⟩:=h'
 refine⟨⟨a,b,by rw[uv l];exact h',h2⟩,by rw[vz];have:=g.len;lia,fun k h1 h2=>?_⟩
 by_cases hk:k<S.length
 ·rw[uv hk];exact g.at_ k hk h1 h2
 ·rw[uf (by rw[vz];lia),uf (by(lia))]
theorem zD5 {np nl:Nat}{b:SM}{ds:List D}{d:D}(hl:ds.length=np) (h:b (ds.map some++List.replicate (nl-np) none) S=.rt d S') (h0:Feed S c) (h1:Feed S' c) (o:Grow c c S S') (hd:d.low S.length=true):∃S'',zB1 np nl b ds S=.ok d S''/\Feed S'' c/\Only c c S S'':=by
 obtain⟨a,b'⟩:=zJt h0 h1 o
 refine⟨S'.take S.length,?_,a,b'⟩
 unfold zB1
 rw[xc hl,h]
 dsimp only
 unfold fin
 rw[xc (zFl h1 o),xc hd]
theorem zIr {np nl n:Nat}{b:SM}{ds:List D}{d:D}(hl:ds.length=np) (h:b (ds.map some++List.replicate (nl-np) none) S=.rt (.ref n) S') (h0:Feed S c) (h1:Feed S' c) (o:Grow c c S S') (hn:S.length<=n) (hd:S'[n]?=some d) (lo:d.low S.length=true):∃S'',zB1 np nl b ds S=.ok d S''/\Feed S'' c/\Only c c S S'':=by
 obtain⟨a,b'⟩:=zJt h0 h1 o
 refine⟨S'.take S.length,?_,a,b'⟩
 unfold zB1
 rw[xc hl,h]
 dsimp only
 unfold fin
 rw[xc (zFl h1 o),xf (by show ¬ decide (n<S.length)=true;simpa using hn)]
 dsimp only
 rw[hd]
 dsimp only
 rw[xc lo]
theorem zQx {many:Int}(hm:0<many) (hs:sm many) (h:Feed S c):∃(r:Int) (S':Store),zB1 2 4 zNu [.ref c,.int many] S=.ok (.int r) S'/\0<=r/\r<many/\Feed S' c/\Only c c S S':=by
 obtain⟨own,seed,h⟩:=h
 have g:gtD S (.int own) (.int 0)=some (.bl (decide (0<own))):=rfl
 by_cases hp:0<own
 ·have p1:=h.put0 (own.fdiv many)
  have f1:Feed (S.set c (.lst [.int (own.fdiv many),.int seed])) c:=⟨_,_,h.set h.2.1 h.2.2⟩
  obtain⟨S'',e,a,b⟩:=zD5 (np:=2) (nl:=4) (b:=zNu) (ds:=[.ref c,.int many]) (d:=.int (own % many)) rfl (by
   unfold zNu
   rw[xq hp]at g
   simp_arith [h.ix0,g,zCp hm,sPut,zN0 hm hs,p1]) ⟨_,_,h⟩ f1 (Only.set1 _).grow rfl
  exact⟨_,S'',e,vE _ (by(lia)),vD _ hm,a,b⟩
 ·rw[xj hp]at g
  have m1:mulD S (.int seed) (.int 69623)=some (.int (seed*69623)):=zDz ⟨zCj h.2.1 (by have:=h.2.2;lia),zCj (by decide) (by decide)⟩
  obtain⟨one,ho⟩:∃one:Int,one=seed*69623 % 2147483647:=⟨_,rfl⟩
  have o0:0<=one:=by rw[ho];exact vE _ (by decide)
  have o9:one<2147483647:=by rw[ho];exact vD _ (by decide)
  obtain⟨nx,hx⟩:∃nx:Int,nx=(one*48271+30103) % 2147483629+1:=⟨_,rfl⟩
  have n0:0<=nx:=by rw[hx];have:=vE (one*48271+30103) (b:=2147483629) (by decide);lia
  have n9:nx<=2147483629:=by rw[hx];have:=vD (one*48271+30103) (b:=2147483629) (by decide);lia
  have m2:mulD S (.int one) (.int 48271)=some (.int (one*48271)):=zDz ⟨zCj o0 (by(lia)),zCj (by decide) (by decide)⟩
  have p1:=h.put1 nx
  have f1:=h.set (a:=own) n0 n9
  have m3:∀S,mulD S (.int one) (.int 2147483647)=some (.int (one*2147483647)):=fun _=>zDz ⟨zCj o0 (by(lia)),zCj (by decide) (by decide)⟩
  have q1:∀(S:Store) (x:Int),modD S (.int x) (.int 2147483647)=some (.int (x % 2147483647)):=fun _ _=>zCp (by decide)
  have q2:∀(S:Store) (x:Int),modD S (.int x) (.int 2147483629)=some (.int (x % 2147483629)):=fun _ _=>zCp (by decide)
  have q3:∀(S:Store) (x:Int),modD S (.int x) (.int many)=some (.int (x % many)):=fun _ _=>zCp hm
  have q4:∀(S:Store) (x:Int),zHh S (.int x) (.int 8191)=some (.int (x.fdiv 8191)):=fun _ _=>zN0 (by decide) (zCj (by decide) (by decide))
  obtain⟨S'',e,a,b⟩:=zD5 (np:=2) (nl:=4) (b:=zNu) (ds:=[.ref c,.int many]) (d:=.int ((one*2147483647+nx).fdiv 8191 % many)) rfl (by
   unfold zNu
   simp_arith [h.ix0,g,h.ix1,m1,q1,<- ho,m2,q2,<- hx,sPut,p1,m3,f1.ix1,q4,q3]) ⟨_,_,h⟩ ⟨_,_,f1⟩ (Only.set1 _).grow rfl
  exact⟨_,S'',e,vE _ (by(lia)),vD _ hm,a,b⟩
end
theorem ix_k {S:Store}{ns:List Int}{k:Nat}(h:k<ns.length):ixD S (.klst (ns.map D.int)) (.int k)=some (.int ns[k]):=by
 have:atL (ns.map D.int) (k:Int)=some (.int ns[k]):=atN rfl (by simp[h])
 exact this
noncomputable def zTn:SM:=
  (sSeq (sSet 2 (eOp addD (eOp mulD (eC (.int 7901)) (eVar 1)) (eC (.int 24697))))
  (sSeq (sIf (tB (eOp ltN (eVar 1) (eCB lenB (zA0 (eVar 0) aNil)))) (sSet 2 (eOp ixD (eVar 0) (eVar 1))) (sIf (tB (eOp gtD (eCB lenB (zA0 (eVar 0) aNil)) (eC (.int 0)))) (sSet 2 (eOp addD (eOp mulD (eOp modD (eOp ixD (eVar 0) (eOp modD (eVar 1) (eCB lenB (zA0 (eVar 0) aNil)))) (eC (.int 2147483629))) (eC (.int 31))) (eOp mulD (eC (.int 7901)) (eVar 1)))) zB6))
  (sSeq (sSet 3 (eC (.int 0)))
  (sSeq (sIf (tB (eOp geD (eVar 2) (eOp powD (eC (.int 10)) (eC (.int 18))))) (sSet 3 (eVar 2)) zB6)
  (sRet (eNew (eLst (zA0 (eVar 3) (zA0 (eOp addD (eOp modD (eOp powD (eOp addD (eOp mulD (eOp modD (eVar 2) (eC (.int 2147483629))) (eC (.int 48271))) (eOp mulD (eC (.int 40692)) (eVar 1))) (eC (.int 5))) (eC (.int 2147483629))) (eC (.int 1))) aNil)))))))))
theorem zPe {S:Store}{s:D}{k:Nat}{x:Int}(hk:k<=63):∃own seed:Int,0<=seed/\seed<=2147483629/\(sSeq (sSet 3 (eC (.int 0)))
  (sSeq (sIf (tB (eOp geD (eVar 2) (eOp powD (eC (.int 10)) (eC (.int 18))))) (sSet 3 (eVar 2)) zB6)
  (sRet (eNew (eLst (zA0 (eVar 3) (zA0 (eOp addD (eOp modD (eOp powD (eOp addD (eOp mulD (eOp modD (eVar 2) (eC (.int 2147483629))) (eC (.int 48271))) (eOp mulD (eC (.int 40692)) (eVar 1))) (eC (.int 5))) (eC (.int 2147483629))) (eC (.int 1))) aNil))))))) [some s,some (.int k),some (.int x),none] S=.rt (.ref S.length) (S++[.lst [.int own,.int seed]]):=by
 have q2:∀(x:Int),modD S (.int x) (.int 2147483629)=some (.int (x % 2147483629)):=fun _=>zCp (by decide)
 have pw:powD S (.int 10) (.int 18)=some (.int ((10:Int) ^ 18)):=by
  show(if(0:Int)<=18/\(18:Int)<=1000000/\(10:Int).natAbs<2 ^ 64 then some (D.int ((10:Int) ^ (18:Int).toNat))else none)=_
  rw[xc (by decide)];rfl
 have x0:0<=x % 2147483629:=vE _ (by decide)
 have x9:x % 2147483629<2147483629:=vD _ (by decide)
 have m1:mulD S (.int (x % 2147483629)) (.int 48271)=some (.int (x % 2147483629*48271)):=zDz ⟨zCj x0 (by(lia)),zCj (by decide) (by decide)⟩
 have m2:mulD S (.int 40692) (.int k)=some (.int (40692*k)):=zDz ⟨zCj (by decide) (by decide),zCj (by(lia)) (by(lia))⟩
 have p5:powD S (.int (x % 2147483629*48271+40692*k)) (.int 5)=some (.int ((x % 2147483629*48271+40692*k) ^ 5)):=by
  show(if(0:Int)<=5/\(5:Int)<=1000000/\(x % 2147483629*48271+40692*k).natAbs<2 ^ 64 then some (D.int ((x % 2147483629*48271+40692*k) ^ (5:Int).toNat))else none)=_
  rw[xc ⟨by decide,by decide,by(lia)⟩];rfl
 have s0:=vE ((x % 2147483629*48271+40692*(k:Int)) ^ 5) (b:=2147483629) (by decide)
 have s9:=vD ((x % 2147483629*48271+40692*(k:Int)) ^ 5) (b:=2147483629) (by decide)
 have ge:geD S (.int x) (.int ((10:Int) ^ 18))=some (.bl (decide ((10:Int) ^ 18<=x))):=rfl
 by_cases c:(10:Int) ^ 18<=x
 ·rw[xq c]at ge
  refine⟨x,(x % 2147483629*48271+40692*(k:Int)) ^ 5 % 2147483629+1,?_,?_,by simp_arith [pw,ge,eNew,q2,m1,m2,p5]⟩ <;> lia
 ·rw[xj c]at ge
  refine⟨0,(x % 2147483629*48271+40692*(k:Int)) ^ 5 % 2147483629+1,?_,?_,by simp_arith [pw,ge,eNew,q2,m1,m2,p5]⟩ <;> lia
theorem zT7 {S:Store}{ns:List Int}{k:Nat}(hk:k<=63):∃own seed:Int,0<=seed/\seed<=2147483629/\zGo 2 4 zTn [.klst (ns.map D.int),.int k] S=.ok (.ref S.length) (S++[.lst [.int own,.int seed]]):=by
 have m1:mulD S (.int 7901) (.int k)=some (.int (7901*k)):=zDz ⟨zCj (by decide) (by decide),zCj (by(lia)) (by(lia))⟩
 have ln:lenB S [.klst (ns.map D.int)]=some (.int ns.length):=by
  show some (D.int ((ns.map D.int).length:Int))=_
  rw[xo]
 have l1:ltN S (.int k) (.int ns.length)=some (.bl (decide ((k:Int)<ns.length))):=rfl
 have g1:gtD S (.int ns.length) (.int 0)=some (.bl (decide ((0:Int)<ns.length))):=rfl
 suffices h:∃x:Int,∀r,(sSeq (sSet 2 (eOp addD (eOp mulD (eC (.int 7901)) (eVar 1)) (eC (.int 24697))))
  (sSeq (sIf (tB (eOp ltN (eVar 1) (eCB lenB (zA0 (eVar 0) aNil)))) (sSet 2 (eOp ixD (eVar 0) (eVar 1))) (sIf (tB (eOp gtD (eCB lenB (zA0 (eVar 0) aNil)) (eC (.int 0)))) (sSet 2 (eOp addD (eOp mulD (eOp modD (eOp ixD (eVar 0) (eOp modD (eVar 1) (eCB lenB (zA0 (eVar 0) aNil)))) (eC (.int 2147483629))) (eC (.int 31))) (eOp mulD (eC (.int 7901)) (eVar 1)))) zB6)) r)) [some (.klst (ns.map D.int)),some (.int k),none,none] S=r [some (.klst (ns.map D.int)),some (.int k),some (.int x),none] S by
  obtain⟨x,h⟩:=h
  obtain⟨own,seed,s0,s9,e⟩:=zPe (S:=S) (s:=.klst (ns.map D.int)) (k:=k) (x:=x) hk
  refine⟨own,seed,s0,s9,?_⟩
  have:=h _ |>.trans e
  unfold zGo zTn
  simp only[xH,List.length_nil,Nat.reduceAdd,xw,xr,vI,Nat.reduceSub,List.replicate,List.cons_append,List.nil_append]
  rw[this]
 by_cases c:(k:Int)<ns.length
 ·rw[xq c]at l1
  have i1:=ix_k (S:=S) (ns:=ns) (k:=k) (by(lia))
  exact⟨ns[k]'(by(lia)),fun r=>by simp_arith [m1,ln,l1,i1]⟩
 ·rw[xj c]at l1
  by_cases c2:(0:Int)<ns.length
  ·rw[xq c2]at g1
   have q1:modD S (.int k) (.int ns.length)=some (.int ((k % ns.length:Nat):Int)):=by
    rw[zCp c2];norm_cast
   have i1:=ix_k (S:=S) (ns:=ns) (k:=k % ns.length) (vk _ (by(lia)))
   have q2:∀(x:Int),modD S (.int x) (.int 2147483629)=some (.int (x % 2147483629)):=fun _=>zCp (by decide)
   have x0:=vE (ns[k % ns.length]'(vk _ (by(lia)))) (b:=2147483629) (by decide)
   have x9:=vD (ns[k % ns.length]'(vk _ (by(lia)))) (b:=2147483629) (by decide)
   have m2:=zDz (S:=S) (show sm (ns[k % ns.length]'(vk _ (by(lia))) % 2147483629)/\sm 31 from⟨zCj x0 (by(lia)),zCj (by decide) (by decide)⟩)
   exact⟨ns[k % ns.length]'(vk _ (by(lia))) % 2147483629*31+7901*k,fun r=>by simp_arith [m1,ln,l1,g1,q1,i1,q2,m2]⟩
  ·rw[xj c2]at g1
   exact⟨7901*k+24697,fun r=>by simp_arith [m1,ln,l1,g1]⟩
end
end DS
namespace DP
open DS RW
noncomputable section
open Classical
theorem taken {S:Store}{c:Nat}{many:Int}(hm:0<many) (h9:many<2147483648) (h:Feed S c):∃(r:Int) (S':Store),zA5 [.ref c,.int many] S=.ok (.int r) S'/\0<=r/\r<many/\Feed S' c/\Only c c S S':=zQx hm (zCj (by nofun) h9) h
theorem zVr {S:Store}{r:Int}(h0:0<=r) (h9:r<4):∃f:Int,2<=f/\f<=1000/\ixD S (.lst [.int 2,.int 2,.int 2,.int 1000]) (.int r)=some (.int f):=by
 rcases(show r=0\/r=1\/r=2\/r=3 by nofun)with rfl|rfl|rfl|rfl
 ·exact⟨2,by decide,by decide,atL0⟩
 ·exact⟨2,by decide,by decide,atL1⟩
 ·exact⟨2,by decide,by decide,atL2⟩
 ·exact⟨1000,by decide,by decide,atL3⟩
theorem zTi {S:Store}{c:Nat}(h:Feed S c):∃(p:Pt) (S':Store),zB2 [.ref c] S=.ok (cel p) S'/\Bd p/\Feed S' c/\Only c c S S':=by
 obtain⟨r,S1,e1,r0,r9,f1,o1⟩:=taken (many:=4) (by decide) (by decide) h
 obtain⟨f,g0,g9,ef⟩:=zVr (S:=S1) r0 r9
 obtain⟨x,S2,e2,x0,x9,f2,o2⟩:=taken (many:=2*f+1) (by nofun) (by nofun) f1
 obtain⟨y,S3,e3,y0,y9,f3,o3⟩:=taken (many:=2*f+1) (by nofun) (by nofun) f2
 have m1:∀S,mulD S (.int 2) (.int f)=some (.int (2*f)):=fun _=>zDz ⟨zCj (by decide) (by decide),zCj (by nofun) (by nofun)⟩
 have o:=(o1.trans o2).trans o3
 obtain⟨S4,e,a,b⟩:=zD5 (np:=1) (nl:=2) (b:=zCf) (ds:=[.ref c]) (d:=cel (x-f,y-f)) rfl (by
  unfold zCf
  simp_arith [e1,ef,m1,e2,e3]) h f3 o.grow rfl
 exact⟨(x-f,y-f),S4,e,⟨by show -1000<=x-f;lia,by show x-f<=1000;lia,by show -1000<=y-f;lia,by show y-f<=1000;lia⟩,a,b⟩
theorem zHi:∀(l:List Pt) (n:Nat),zEa (l.map cel) n=(l.zipIdx n).map fun a=>.tup [.int (a.2:Nat),cel a.1]
 | [],_=>rfl
 | p::l,n=>by
  rw[xr,zEa,zHi l (n+1)]
  rfl
noncomputable def picked (cs:List Pt) (m:Nat):List Pt:=(cs.zipIdx.filter fun a=>m.testBit a.2).map Prod.fst
theorem zK9 (cs:List Pt) (m:Nat):(picked cs m).Sublist cs:=by
 have:=(List.filter_sublist (p:=fun a=>m.testBit a.2) (l:=cs.zipIdx)).map Prod.fst
 rw[List.zipIdx_map_fst]at this
 exact this
theorem zLx {cs:List Pt}{m:Nat}(h0:m≠0) (h9:m<2 ^ cs.length):picked cs m≠[]:=by
 obtain⟨i,hi⟩:=Nat.exists_testBit_of_ne_zero h0
 have il:i<cs.length:=by
  have:=Nat.ge_two_pow_of_testBit hi
  exact(Nat.pow_lt_pow_iff_right (by decide)).mp (Nat.lt_of_le_of_lt this h9)
 have:cs[i]∈picked cs m:=xt.mpr ⟨(cs[i],i),vY.mpr ⟨uC.mpr ⟨i,by simp[il]⟩,hi⟩,rfl⟩
 exact List.ne_nil_of_mem this
theorem zU7 {S:Store}{cs:List Pt}{m:Nat}(hl:cs.length<=1000):zBd [.lst (cs.map cel),.int (m:Nat)] S=.ok (rowD (picked cs m)) S:=by
 have m9:1000<=most:=by decide
 refine zGp rfl ?_ (zBy _)
 have w:iEn false (eVar 0) [some (.lst (cs.map cel)),some (.int (m:Nat))] S=.ok ⟨cs.zipIdx.map fun a=>.tup [.int (a.2:Nat),cel a.1],[]⟩ S:=by
  have w:enW false S (.lst (cs.map cel))=some ⟨cs.zipIdx.map fun a=>.tup [.int (a.2:Nat),cel a.1],[]⟩:=by
   show(if false=false/\(cs.map cel).length<2 ^ 60 then some (Walk.mk (zEa (cs.map cel) 0) [])else none)=_
   rw[xc ⟨rfl,by rw[xo];lia⟩,zHi]
  simp only[iEn,eVar,xW,Rs.bind_ok,w,zAa]
 have cp:=zIi (own:=2) (ix:=[1]) (g:=gTup [gName 0,gName 1]) (c:=tB (eOp eqD (eOp andD (eOp shrD (eVar 2) (eVar 0)) (eC (.int 1))) (eC (.int 1)))) (e:=eVar 1) (S:=S) (env:=[some (.lst (cs.map cel)),some (.int (m:Nat))]) (xs:=cs.zipIdx) (f:=fun a=>cel a.1) (p:=fun a=>m.testBit a.2) (fun env=>∃o1 o2,env=[o1,o2,some (.int (m:Nat))]) w zB9 ⟨none,none,rfl⟩ (by rw[List.length_zipIdx];lia) (fun a ha env hh=>by
  obtain⟨o1,o2,rfl⟩:=hh
  have sh:shrD S (.int (m:Nat)) (.int (a.2:Nat))=some (.int ((m / 2 ^ a.2:Nat):Int)):=by
   show(if(0:Int)<=(a.2:Nat)then some (D.int ((m:Int) / 2 ^ (a.2:Int).toNat))else none)=_
   rw[xc (by nofun),vn]
   norm_cast
  have an:andD S (.int ((m / 2 ^ a.2:Nat):Int)) (.int 1)=some (.int ((m / 2 ^ a.2 % 2:Nat):Int)):=by
   show(if(0:Int)<=((m / 2 ^ a.2:Nat):Int)/\(0:Int)<=1 then some (D.int (((((m / 2 ^ a.2:Nat):Int).toNat &&& (1:Int).toNat:Nat)):Int))else none)=_
   rw[xc ⟨by nofun,by decide⟩,vn,show(1:Int).toNat=1 from rfl,Nat.and_one_is_mod]
  have eq:eqD S (.int ((m / 2 ^ a.2 % 2:Nat):Int)) (.int 1)=some (.bl (m.testBit a.2)):=by
   show some (D.bl (decide (((m / 2 ^ a.2 % 2:Nat):Int)=1)))=_
   rw[Nat.testBit_eq_decide_div_mod_eq]
   congr 2
   exact xS.mpr (by nofun)
  refine⟨[some (.int (a.2:Nat)),some (cel a.1),some (.int (m:Nat))],rfl,⟨_,_,rfl⟩,by simp_arith [sh,an,eq],fun _=>by simp_arith [xw]⟩)
 show(sRet (eCB zAv (zA0 (zCs 2 [1] (iEn false (eVar 0)) (gTup [(gName 0),(gName 1)]) (tB (eOp eqD (eOp andD (eOp shrD (eVar 2) (eVar 0)) (eC (.int 1))) (eC (.int 1)))) (eVar 1)) aNil))) [some (.lst (cs.map cel)),some (.int (m:Nat))] S=_
 have tp:∀l S,zAv S [.lst l]=some (.tup l):=fun _ _=>rfl
 unfold sRet eCB zA0 aNil
 rw[cp]
 simp only[Rs.bind_ok,Rs.then_ok,tp,zAa]
 unfold picked rowD
 rw[ud]
 rfl
end
end DP
namespace DP
open DS RW
noncomputable section
open Classical
structure MkF (c:Nat) (S0:Store) (n:Nat) (l:List D) (S:Store):Prop where
 feed:Feed S c
 grow:Grow c c S0 S
 at_:S[n]?=some (.lst l)
 far:S0.length<=n
section
variable {c n:Nat}{S0 S S':Store}{l:List D}
theorem MkF.take (h0:Feed S0 c) (h:MkF c S0 n l S) (d:Feed S' c) (o:Only c c S S'):MkF c S0 n l S':=by
 have l0:=h0.lt
 have:=h.far
 exact⟨d,h.grow.trans o.grow,by rw[o.at_ n (by nofun) (by nofun)];exact h.at_,h.far⟩
theorem MkF.add (h0:Feed S0 c) (h:MkF c S0 n l S) (d:D):MkF c S0 n (l++[d]) (S.set n (.lst (l++[d]))):=by
 have l0:=h0.lt
 have:=h.far
 exact⟨h.feed.setO (by nofun),h.grow.set h.far,by rw[vR (xE.mp h.at_).1],h.far⟩
theorem MkF.new (h0:Feed S0 c) (d:Feed S c) (g:Grow c c S0 S) (l:List D):MkF c S0 S.length l (S++[.lst l]):=⟨d.app _,g.trans (.app _),by simp,g.len⟩
end
noncomputable abbrev cCl:TM:=(tB (eOp inD (eTup (zA0 (eVar 4) (zA0 (eVar 5) aNil))) (eVar 2)))
noncomputable abbrev wCl:SM:=(sSet 4 (eOp subD (eOp modD (eOp addD (eVar 4) (eC (.int 1001))) (eC (.int 2001))) (eC (.int 1000))))
theorem zSw {S:Store}{n:Nat}{l:List Pt}{p:Pt}(h:S[n]?=some (.lst (l.map cel))):inD S (cel p) (.ref n)=some (.bl (decide (p∈l))):=by
 unfold inD inO
 rw[show look S (.ref n)=some (.lst (l.map cel))from h]
 dsimp only
 rw[xc ⟨rfl,zBj l,xm (zD3 l) (by decide),fun d hd=>by obtain⟨q,_,rfl⟩:=xt.mp hd;rfl⟩]
 show some (D.bl _)=_
 congr 2
 exact xS.mpr mem_cel
noncomputable abbrev nxt (v:Int) (j:Nat):Int:=(v+1000+j) % 2001-1000
theorem zIy {S:Store}{n:Nat}{l:List Pt}{y:Int}{a0 a1 a3:Option D}(hT:S[n]?=some (.lst (l.map cel))):∀(j:Nat) (v:Int),-1000<=v->v<=1000->(nxt v j,y) ∉ l->(∀i:Nat,i<j->(nxt v i,y)∈l)->
  zB4 cCl wCl (j+1) [a0,a1,some (.ref n),a3,some (.int v),some (.int y)] S=.nx [a0,a1,some (.ref n),a3,some (.int (nxt v j)),some (.int y)] S
 | j,v,h0,h1,hn,hi=>by
  have c:cCl [a0,a1,some (.ref n),a3,some (.int v),some (.int y)] S=.ok (decide ((v,y)∈l)) S:=by
   have i:=zSw (p:=(v,y)) hT
   unfold cCl
   simp_arith [i]
  have z0:nxt v 0=v:=by
   show(v+1000+((0:Nat):Int)) % 2001-1000=v
   rw[Int.natCast_zero,Int.add_zero,Int.emod_eq_of_lt (by nofun) (by nofun)];lia
  rw[zB4,c,Rs.then_ok]
  match j,hn,hi with
  | 0,hn,_=>
   rw[z0]at hn ⊢
   rw[xj hn,xf (by decide)]
  | j+1,hn,hi=>
   have m0:(v,y)∈l:=by
    have:=hi 0 (by nofun)
    rwa[z0]at this
   have w:wCl [a0,a1,some (.ref n),a3,some (.int v),some (.int y)] S=.nx [a0,a1,some (.ref n),a3,some (.int ((v+1001) % 2001-1000)),some (.int y)] S:=by
    unfold wCl
    simp_arith [zCp (show(0:Int)<2001 by decide)]
   have sh:∀i:Nat,nxt ((v+1001) % 2001-1000) i=nxt v (i+1):=fun i=>by
    show((v+1001) % 2001-1000+1000+i) % 2001-1000=(v+1000+((i+1:Nat):Int)) % 2001-1000
    rw[Int.sub_add_cancel,Int.emod_add_emod]
    congr 2
    lia
   have b0:=vE (v+1001) (b:=2001) (by decide)
   have b9:=vD (v+1001) (b:=2001) (by decide)
   rw[xq m0,xc rfl,w]
   dsimp only
   rw[zIy hT j _ (by nofun) (by nofun) (by rw[sh];exact hn) (fun i hi'=>by rw[sh];exact hi (i+1) (by nofun)),sh]
theorem zT3 {l:List Pt}{v y:Int}(hl:l.length<=100) (h0:-1000<=v):∃j:Nat,(nxt v j,y) ∉ l/\∀i:Nat,i<j->(nxt v i,y)∈l:=by
 obtain⟨j,hj,hi⟩:=zPa (N:=2001) (v:=v+1000) (taken:=(l.filter fun p=>decide (p.2=y)).map fun p=>p.1+1000) (by
  rw[xo]
  have:=List.length_filter_le (fun p:Pt=>decide (p.2=y)) l
  lia) (by nofun)
 have key:∀i:Nat,(v+1000+i) % 2001∈((l.filter fun p=>decide (p.2=y)).map fun p=>p.1+1000) <-> (nxt v i,y)∈l:=fun i=>by
  rw[xt]
  constructor
  ·rintro⟨p,hp,e⟩
   obtain⟨hp,hy⟩:=vY.mp hp
   have:p=(nxt v i,y):=Prod.ext (by show p.1=(v+1000+i) % 2001-1000;lia) (uY hy)
   rw[<- this];exact hp
  ·intro h
   exact⟨_,vY.mpr ⟨h,xq rfl⟩,by show(v+1000+i) % 2001-1000+1000=_;lia⟩
 exact⟨j,fun z=>hj ((key j).mpr z),fun i h=>(key i).mp (hi i h)⟩
noncomputable abbrev bCl:SM:=(sSeq (sUnp (gTup [(gName 4),(gName 5)]) (zAb zB2 (zA0 (eVar 0) aNil)))
  (sSeq (zFa cCl wCl)
  (zDg (eMt "list" zAs (eVar 2) (zA0 (eTup (zA0 (eVar 4) (zA0 (eVar 5) aNil))) aNil)))))
theorem zR3 {c n:Nat}{S0 S:Store}{l:List Pt}{a1 a4 a5:Option D}{d:D}(h0:Feed S0 c) (h:MkF c S0 n (l.map cel) S) (hl:l.length<=100):∃(p:Pt) (S':Store),bCl [some (.ref c),a1,some (.ref n),some d,a4,a5] S=.nx [some (.ref c),a1,some (.ref n),some d,some (.int p.1),some (.int p.2)] S'/\Bd p/\p ∉ l/\MkF c S0 n ((l++[p]).map cel) S':=by
 obtain⟨p,S1,e1,bd,f1,o1⟩:=zTi h.feed
 have m1:=h.take h0 f1 o1
 obtain⟨j,hj,hi⟩:=zT3 (v:=p.1) (y:=p.2) hl bd.1
 have w:=zIy (a0:=some (.ref c)) (a1:=a1) (a3:=some d) m1.at_ j p.1 bd.1 bd.2.1 hj hi
 have w':=(zLm (n:=j+1) (by rw[w];exact fun z=>nomatch z)).trans w
 have b0:=vE (p.1+1000+j) (b:=2001) (by decide)
 have b9:=vD (p.1+1000+j) (b:=2001) (by decide)
 have ap:=zKx (d:=cel (nxt p.1 j,p.2)) m1.at_ (by rw[xo];lia)
 have m2:=m1.add h0 (cel (nxt p.1 j,p.2))
 have em:l.map cel++[cel (nxt p.1 j,p.2)]=(l++[(nxt p.1 j,p.2)]).map cel:=by simp
 rw[em]at ap m2
 refine⟨(nxt p.1 j,p.2),_,?_,⟨by show -1000<=(p.1+1000+j) % 2001-1000;lia,by show(p.1+1000+j) % 2001-1000<=1000;lia,bd.2.2⟩,hj,m2⟩
 have x1:sUnp (gTup [(gName 4),(gName 5)]) (zAb zB2 (zA0 (eVar 0) aNil)) [some (.ref c),a1,some (.ref n),some d,a4,a5] S=.nx [some (.ref c),a1,some (.ref n),some d,some (.int p.1),some (.int p.2)] S1:=by
  simp_arith [sUnp,e1]
 refine zAk x1 (zAk w' ?_)
 simp_arith [eMt,ty_D m1.at_,ap]
noncomputable def Rz (r:List Pt):Prop:=r.Nodup/\Up (r.map cel)
theorem zG6 (l:List Pt):∀y∈l.map cel,lv 1 y:=fun y hy=>by obtain⟨p,_,rfl⟩:=xt.mp hy;exact zQ8 p
theorem zNp {l:List D}(h:∀x∈l,∃p,x=cel p):∃ps:List Pt,l=ps.map cel:=by
 induction l with
 | nil=>exact⟨[],rfl⟩
 | cons x l ih=>
  obtain⟨p,rfl⟩:=h x (.head _)
  obtain⟨ps,e⟩:=ih fun y hy=>h y (.tail _ hy)
  exact⟨p::ps,by rw[e];rfl⟩
theorem nd_cel {l:List Pt}:(l.map cel).Nodup <-> l.Nodup:=⟨fun h=>(uk.mp h).imp fun {a b} h z=>h (by rw[z]),fun h=>uk.mpr (h.imp fun {a b} h z=>h (zGn z))⟩
theorem zJ5 {l:List Pt}(h:l.Nodup):∃cs:List Pt,srt (l.map cel)=cs.map cel/\Rz cs/\(∀p,p∈cs <-> p∈l)/\cs.length=l.length:=by
 have pm:=zB3 (l.map cel)
 obtain⟨cs,e⟩:=zNp (l:=srt (l.map cel)) fun x hx=>by
  obtain⟨p,_,rfl⟩:=xt.mp (pm.mem_iff.mp hx)
  exact⟨p,rfl⟩
 refine⟨cs,e,⟨nd_cel.mp (by rw[<- e];exact pm.nodup_iff.mpr (nd_cel.mpr h)),by rw[<- e];exact zGx (n:=1) (zG6 l)⟩,fun p=>?_,?_⟩
 ·rw[<- mem_cel (l:=cs),<- e,pm.mem_iff,mem_cel]
 ·have:=pm.length_eq
  rw[e,xo,xo]at this
  exact this
theorem zRf {n:Nat}(h:n<=1000):zFy [.int (n:Nat)]=some ⟨(List.range n).map fun(i:Nat)=>.int (i:Int),[]⟩:=by
 obtain⟨k,hk⟩:∃k:Int,k=(n:Int):=⟨_,rfl⟩
 rw[<- hk,zO7 (by nofun) (by nofun),show k.toNat=n by nofun]
theorem zEv {e:EM}{env:Env}{S S':Store}{n:Nat}(h:e env S=.ok (.int (n:Nat)) S') (hn:n<=1000):zBq (zA0 e aNil) env S=.ok ⟨(List.range n).map fun(i:Nat)=>.int (i:Int),[]⟩ S':=by
 unfold zBq zA0 aNil
 rw[h,Rs.bind_ok,Rs.bind_ok,Rs.bind_ok,zRf hn]
 rfl
theorem zKt {S:Store}{c:Nat}{many:Nat}(hm:many<=12) (h:Feed S c):∃(S':Store) (l:List Pt) (a3 a4 a5:Option D),forL [] (gName 3) bCl ((List.range many).map fun i:Nat=>.int (i:Int)) [some (.ref c),some (.int (many:Nat)),some (.ref S.length),none,none,none] (S++[.lst []])=.nx [some (.ref c),some (.int (many:Nat)),some (.ref S.length),a3,a4,a5] S'/\MkF c S S.length (l.map cel) S'/\l.Nodup/\(∀p∈l,Bd p)/\l.length=many:=by
 have i0:MkF c S S.length (([]:List Pt).map cel) (S++[.lst []]):=MkF.new h h .refl []
 obtain⟨env',S',e,l,a3,a4,a5,rfl,mk,nd,bd,ln⟩:=zHe (h:=fun i:Nat=>.int (i:Int)) (gd:=[]) (g:=gName 3) (b:=bCl) (ys:=List.range many) (fun P env S'=>∃(l:List Pt) (a3 a4 a5:Option D),env=[some (.ref c),some (.int (many:Nat)),some (.ref S.length),a3,a4,a5]/\MkF c S S.length (l.map cel) S'/\l.Nodup/\(∀p∈l,Bd p)/\l.length=P.length) (fun _ _ _ _=>zB9) (fun P i R eq env S1 hh=>by
  obtain⟨l,a3,a4,a5,rfl,mk,nd,bd,ln⟩:=hh
  have pl:P.length<=12:=by
   have:=congrArg List.length eq
   rw[vN,vd]at this
   lia
  obtain⟨p,S2,e,pb,pn,m2⟩:=zR3 (a1:=some (.int (many:Nat))) (a4:=a4) (a5:=a5) (d:=.int (i:Int)) h mk (by nofun)
  refine⟨_,_,S2,rfl,e,l++[p],_,_,_,rfl,m2,?_,fun q hq=>?_,by simp[ln]⟩
  ·refine uX.mpr ⟨nd,xU.mpr ⟨(fun z=>nomatch z),vg⟩,fun a ha b hb z=>?_⟩
   rw[xI.mp hb]at z
   exact pn (z ▸ ha)
  ·rcases xP.mp hq with w|w
   ·exact bd q w
   ·rw[xI.mp w];exact pb) (List.range many) [] [some (.ref c),some (.int (many:Nat)),some (.ref S.length),none,none,none] (S++[.lst []]) rfl ⟨[],none,none,none,rfl,i0,vg,fun p hp=>(by cases hp),rfl⟩
 rw[vN]at ln
 exact⟨S',l,a3,a4,a5,e,mk,nd,bd,ln⟩
theorem zPm {S:Store}{c:Nat}{many:Nat}(hm:many<=12) (h:Feed S c):∃(cs:List Pt) (S':Store),zAy [.ref c,.int (many:Nat)] S=.ok (.lst (cs.map cel)) S'/\cs.length=many/\(∀p∈cs,Bd p)/\Rz cs/\Feed S' c/\Only c c S S':=by
 obtain⟨S',l,a3,a4,a5,e,mk,nd,bd,ln⟩:=zKt hm h
 obtain⟨cs,es,rz,mem,cl⟩:=zJ5 nd
 have so:sortable (l.map cel):=⟨by rw[xo,ln];exact xm hm (by decide),1,by decide,zG6 l⟩
 have sb:zGy S' [.ref S.length]=some (.lst (cs.map cel)):=by
  have it:items S' (.ref S.length)=some (l.map cel):=by
   unfold items
   rw[show look S' (.ref S.length)=_ from mk.at_]
  show(match items S' (.ref S.length)with|some l=>if sortable l then some (D.lst (srt l))else none|none=>none)=_
  rw[it]
  dsimp only
  rw[xc so,es]
 obtain⟨S2,e2,f2,o2⟩:=zD5 (np:=2) (nl:=6) (b:=zCv) (ds:=[.ref c,.int (many:Nat)]) (d:=.lst (cs.map cel)) rfl (by
  show(sSeq (sSet 2 (eNew (eLst aNil))) (sSeq (sFor (zBq (zA0 (eVar 1) aNil)) (gName 3) bCl) (sRet (eCB zGy (zA0 (eVar 2) aNil))))) [some (.ref c),some (.int (many:Nat)),none,none,none,none] S=_
  have x1:sSet 2 (eNew (eLst aNil)) [some (.ref c),some (.int (many:Nat)),none,none,none,none] S=.nx [some (.ref c),some (.int (many:Nat)),some (.ref S.length),none,none,none] (S++[.lst []]):=by simp_arith [eNew]
  have x2:sFor (zBq (zA0 (eVar 1) aNil)) (gName 3) bCl [some (.ref c),some (.int (many:Nat)),some (.ref S.length),none,none,none] (S++[.lst []])=.nx [some (.ref c),some (.int (many:Nat)),some (.ref S.length),a3,a4,a5] S':=by
   have w:zBq (zA0 (eVar 1) aNil) [some (.ref c),some (.int (many:Nat)),some (.ref S.length),none,none,none] (S++[.lst []])=.ok ⟨(List.range many).map fun i:Nat=>.int (i:Int),[]⟩ (S++[.lst []]):=by
    exact zEv rfl (by nofun)
   rw[sFor,w,Rs.then_ok]
   exact e
  exact zAk x1 (zAk x2 (by simp_arith [sb]))) h mk.feed mk.grow (zBy cs)
 exact⟨cs,S2,e2,by rw[cl,ln],fun p hp=>bd p ((mem p).mp hp),rz,f2,o2⟩
end
end DP
namespace DP
open DS RW
noncomputable section
open Classical
structure Gr (k:Nat) (r:List Pt):Prop where
 ne:r≠[]
 len:r.length<=k
 bd:∀p∈r,Bd p
 rz:Rz r
theorem Rz.sub {q r:List Pt}(h:Rz r) (s:q.Sublist r):Rz q:=⟨h.1.sublist s,h.2.sublist (s.map _)⟩
theorem Gr.sub {k j:Nat}{q r:List Pt}(h:Gr k r) (s:q.Sublist r) (n:q≠[]) (l:q.length<=j):Gr j q:=⟨n,l,fun p hp=>h.bd p (s.subset hp),h.rz.sub s⟩
theorem zW6 {r:List Pt}{i:Nat}(h:i<=r.length):cutL (r.map cel) (some (i:Int)) none=(r.drop i).map cel:=by
 have e:sIx (r.map cel).length 0 (some (i:Int))=i:=by
  show(if(i:Int)<0 then((i:Int)+((r.map cel).length:Int)).toNat else min (i:Int).toNat (r.map cel).length)=i
  rw[xf (by nofun),vn,xo,Nat.min_eq_left h]
 unfold cutL
 rw[e,show sIx (r.map cel).length (r.map cel).length none=(r.map cel).length from rfl,List.map_drop,uU (by rw[uQ];exact xh _)]
theorem zW7 {r:List Pt}:cutL (r.map cel) none (some 8)=(r.take 8).map cel:=by
 have e:sIx (r.map cel).length (r.map cel).length (some 8)=min 8 (r.map cel).length:=by
  show(if(8:Int)<0 then((8:Int)+((r.map cel).length:Int)).toNat else min (8:Int).toNat (r.map cel).length)=_
  rw[xf (by decide)];rfl
 unfold cutL
 rw[e,show sIx (r.map cel).length 0 none=0 from rfl,List.drop_zero,Nat.sub_zero,List.map_take]
 rcases Nat.le_total 8 (r.map cel).length with h|h
 ·rw[Nat.min_eq_left h]
 ·rw[Nat.min_eq_right h,List.take_length,uU h]
noncomputable abbrev rE (c n:Nat) (cs:List Pt) (d:D) (f:Int) (r:List Pt):Env:=[some (.ref c),some (.lst (cs.map cel)),some (.ref n),some d,some (.int f),some (rowD r)]
section
variable {c n:Nat}{S0 S:Store}{cs r:List Pt}{F:List (List Pt)}{d:D}{f:Int}
theorem zMl (h:MkF c S0 n (F.map rowD) S):lenB S [.ref n]=some (.int (F.length:Nat)):=by
 have e:look S (.ref n)=some (.lst (F.map rowD)):=h.at_
 simp only[lenB,e,xo]
theorem ix_at (h:MkF c S0 n (F.map rowD) S) {i:Int}(h0:0<=i) (h9:i<F.length):∃q∈F,ixD S (.ref n) (.int i)=some (rowD q):=by
 obtain⟨k,rfl⟩:∃k:Nat,i=(k:Int):=⟨i.toNat,by nofun⟩
 have hk:k<F.length:=by nofun
 refine⟨F[k],List.getElem_mem hk,?_⟩
 unfold ixD
 rw[show look S (.ref n)=_ from h.at_]
 exact atN rfl (by simp[hk])
theorem gt0:gtD S (.int (F.length:Nat)) (.int 0)=some (.bl (decide (0<F.length))):=by
 show some (D.bl (decide ((0:Int)<(F.length:Nat))))=_
 congr 2
 exact xS.mpr (by nofun)
theorem eqf {g:Int}:eqD S (.int f) (.int g)=some (.bl (decide (f=g))):=rfl
noncomputable abbrev s3:SM:=(sIf (tAnd (tB (eOp eqD (eVar 4) (eC (.int 0)))) (tB (eOp gtD (eCB lenB (zA0 (eVar 2) aNil)) (eC (.int 0))))) (sSet 5 (eOp ixD (eVar 2) (zAb zA5 (zA0 (eVar 0) (zA0 (eCB lenB (zA0 (eVar 2) aNil)) aNil))))) zB6)
theorem zJq {t:TM}{a:SM}{env:Env}(h:t env S=.ok false S):sIf t a zB6 env S=.nx env S:=by
 rw[sIf,h,Rs.then_ok,xf (by decide)]
 rfl
theorem zMx {t:TM}{a:SM}{env:Env}{q:SR}(h:t env S=.ok true S) (h2:a env S=q):sIf t a zB6 env S=q:=by
 rw[sIf,h,Rs.then_ok,xc rfl,h2]
theorem zQo (h:MkF c S0 n (F.map rowD) S) (g:Int):tAnd (tB (eOp eqD (eVar 4) (eC (.int g)))) (tB (eOp gtD (eCB lenB (zA0 (eVar 2) aNil)) (eC (.int 0)))) (rE c n cs d f r) S=.ok (decide (f=g/\0<F.length)) S:=by
 have t1:tB (eOp eqD (eVar 4) (eC (.int g))) (rE c n cs d f r) S=.ok (decide (f=g)) S:=by simp_arith [eqf (S:=S) (f:=f) (g:=g)]
 have t2:tB (eOp gtD (eCB lenB (zA0 (eVar 2) aNil)) (eC (.int 0))) (rE c n cs d f r) S=.ok (decide (0<F.length)) S:=by simp_arith [zMl h,gt0 (S:=S) (F:=F)]
 rw[tAnd,t1,Rs.bind_ok]
 by_cases e:f=g
 ·rw[xq e,xc rfl,t2]
  congr 1
  exact xS.mpr ⟨fun z=>⟨e,z⟩,fun z=>z.2⟩
 ·rw[xj e,xf (by decide),xj fun z=>e z.1]
theorem zWk (h0:Feed S0 c) (h:MkF c S0 n (F.map rowD) S) (hF:∀q∈F,Gr 8 q) (fl:F.length<=100) (hr:Gr 20 r):∃(r':List Pt) (S':Store),s3 (rE c n cs d f r) S=.nx (rE c n cs d f r') S'/\Gr 20 r'/\(f≠0->r'=r)/\MkF c S0 n (F.map rowD) S':=by
 have t:=zQo (cs:=cs) (d:=d) (f:=f) (r:=r) h 0
 by_cases e:f=0/\0<F.length
 ·rw[xq e]at t
  obtain⟨i,S1,e1,i0,i9,f1,o1⟩:=taken (many:=(F.length:Nat)) (by have:=e.2;lia) (by nofun) h.feed
  have m1:=h.take h0 f1 o1
  obtain⟨q,hq,e2⟩:=ix_at m1 i0 i9
  have gq:=hF q hq
  refine⟨q,S1,zMx t ?_,⟨gq.ne,xm gq.len (by decide),gq.bd,gq.rz⟩,fun z=>absurd e.1 z,m1⟩
  simp_arith [zMl h,e1,e2]
 ·rw[xj e]at t
  exact⟨r,S,zJq t,hr,fun _=>rfl,h⟩
noncomputable abbrev s4:SM:=(sIf (tB (eOp eqD (eVar 4) (eC (.int 1)))) (sSet 5 (eSl slD (eVar 5) (pYes (zAb zA5 (zA0 (eVar 0) (zA0 (eCB lenB (zA0 (eVar 5) aNil)) aNil)))) pNo)) zB6)
theorem zWj (h0:Feed S0 c) (h:MkF c S0 n (F.map rowD) S) (hr:Gr 20 r):∃(r':List Pt) (S':Store),s4 (rE c n cs d f r) S=.nx (rE c n cs d f r') S'/\Gr 20 r'/\(f≠1->r'=r)/\MkF c S0 n (F.map rowD) S':=by
 have t:tB (eOp eqD (eVar 4) (eC (.int 1))) (rE c n cs d f r) S=.ok (decide (f=1)) S:=by simp_arith [eqf (S:=S) (f:=f) (g:=1)]
 by_cases e:f=1
 ·rw[xq e]at t
  have rp:0<r.length:=uK.mpr hr.ne
  have rl:=hr.len
  obtain⟨i,S1,e1,i0,i9,f1,o1⟩:=taken (many:=(r.length:Nat)) (by nofun) (by nofun) h.feed
  obtain⟨k,rfl⟩:∃k:Nat,i=(k:Int):=⟨i.toNat,by nofun⟩
  have kl:k<r.length:=by nofun
  have ln:lenB S [rowD r]=some (.int (r.length:Nat)):=by
   show some (D.int ((r.map cel).length:Int))=_
   rw[xo]
  have sl:slD S1 (rowD r) (some (k:Int)) none=some (rowD (r.drop k)):=by
   show some (D.tup (cutL (r.map cel) (some (k:Int)) none))=_
   rw[zW6 (xO kl)]
  have dl:(r.drop k).length=r.length-k:=uQ
  refine⟨r.drop k,S1,zMx t ?_,hr.sub (List.drop_sublist _ _) (uK.mp (by nofun)) (by nofun),fun z=>absurd e z,h.take h0 f1 o1⟩
  simp_arith [eSl,pYes,pNo,ln,e1,asI,sl]
 ·rw[xj e]at t
  exact⟨r,S,zJq t,hr,fun _=>rfl,h⟩
noncomputable abbrev s5:SM:=(sIf (tAnd (tB (eOp eqD (eVar 4) (eC (.int 2)))) (tB (eOp gtD (eCB lenB (zA0 (eVar 2) aNil)) (eC (.int 0))))) (sSet 5 (eCB zAv (zA0 (eUn ssL (eOp addD (eVar 5) (eOp ixD (eVar 2) (zAb zA5 (zA0 (eVar 0) (zA0 (eCB lenB (zA0 (eVar 2) aNil)) aNil)))))) aNil))) zB6)
theorem zR4 {l:List Pt}(hl:l.length<=63):∃cs:List Pt,(∀S,ssL S (rowD l)=some (.lst (cs.map cel)))/\Rz cs/\(∀p,p∈cs <-> p∈l)/\cs.length<=l.length:=by
 obtain⟨u,eu⟩:=zNp (l:=dedup (l.map cel)) fun x hx=>by
  obtain⟨p,_,rfl⟩:=xt.mp (mem_dedup.mp hx)
  exact⟨p,rfl⟩
 have un:u.Nodup:=nd_cel.mp (by rw[<- eu];exact zDn)
 have um:∀p,p∈u <-> p∈l:=fun p=>by rw[<- mem_cel (l:=u),<- eu,mem_dedup,mem_cel]
 obtain⟨cs,es,rz,mem,cl⟩:=zJ5 un
 refine⟨cs,fun S=>?_,rz,fun p=>(mem p).trans (um p),by rw[cl];exact zI9 un fun p hp=>(um p).mp hp⟩
 show(if setable (l.map cel)then some (D.lst (srt (dedup (l.map cel))))else none)=_
 rw[xc ⟨by rw[xo];exact xm hl (by decide),0,by decide,zG6 l⟩,eu,es]
theorem zWi (h0:Feed S0 c) (h:MkF c S0 n (F.map rowD) S) (hF:∀q∈F,Gr 8 q) (fl:F.length<=100) (hr:Gr 20 r) (hr2:f=2->r.length<=12):∃(r':List Pt) (S':Store),s5 (rE c n cs d f r) S=.nx (rE c n cs d f r') S'/\Gr 20 r'/\MkF c S0 n (F.map rowD) S':=by
 have t:=zQo (cs:=cs) (d:=d) (f:=f) (r:=r) h 2
 by_cases e:f=2/\0<F.length
 ·rw[xq e]at t
  obtain⟨i,S1,e1,i0,i9,f1,o1⟩:=taken (many:=(F.length:Nat)) (by have:=e.2;lia) (by nofun) h.feed
  have m1:=h.take h0 f1 o1
  obtain⟨q,hq,e2⟩:=ix_at m1 i0 i9
  have gq:=hF q hq
  have l1:=gq.len
  have l2:=hr2 e.1
  have l3:(r++q).length=r.length+q.length:=vd
  have m9:1000<=most:=by decide
  obtain⟨u,eu,rz,mem,ul⟩:=zR4 (l:=r++q) (by nofun)
  have ad:addD S1 (rowD r) (rowD q)=some (rowD (r++q)):=by
   show(if r.map cel≠[]/\(r.map cel).length+(q.map cel).length<=most then some (D.tup (r.map cel++q.map cel))else none)=_
   rw[xc ⟨fun z=>hr.ne (List.map_eq_nil_iff.mp z),by rw[xo,xo];lia⟩,<- ug]
  have tp:∀l S,zAv S [.lst l]=some (.tup l):=fun _ _=>rfl
  have ne:u≠[]:=by
   obtain⟨p,hp⟩:=List.exists_mem_of_ne_nil r hr.ne
   exact List.ne_nil_of_mem ((mem p).mpr (v3 _ hp))
  refine⟨u,S1,zMx t ?_,⟨ne,by nofun,fun p hp=>?_,rz⟩,m1⟩
  ·have x:eOp addD (eVar 5) (eOp ixD (eVar 2) (zAb zA5 (zA0 (eVar 0) (zA0 (eCB lenB (zA0 (eVar 2) aNil)) aNil)))) (rE c n cs d f r) S=.ok (rowD (r++q)) S1:=by
    rw[<- zAa (S:=S1) (a:=rowD (r++q)),<- ad]
    simp only[eOp,eVar,xW,vQ,Rs.bind_ok,zAb,zA0,aNil,eCB,zMl h,zAa,e1,e2]
   have key:∀E:EM,E (rE c n cs d f r) S=.ok (rowD (r++q)) S1->sSet 5 (eCB zAv (zA0 (eUn ssL E) aNil)) (rE c n cs d f r) S=.nx (rE c n cs d f u) S1:=fun E hE=>by
    simp only[sSet,eCB,zA0,aNil,eUn,hE,Rs.bind_ok,Rs.then_ok,eu,zAa,tp]
    rfl
   exact key _ x
  ·rcases xP.mp ((mem p).mp hp)with w|w
   ·exact hr.bd p w
   ·exact gq.bd p w
 ·rw[xj e]at t
  exact⟨r,S,zJq t,hr,h⟩
end
end
end DP
namespace DP
open DS RW
noncomputable section
open Classical
section
variable {c n:Nat}{S0 S:Store}{cs r:List Pt}{F:List (List Pt)}{d:D}{f:Int}
noncomputable abbrev s1:SM:=(sSet 4 (zAb zA5 (zA0 (eVar 0) (zA0 (eC (.int 4)) aNil))))
noncomputable abbrev s2:SM:=(sSet 5 (zAb zBd (zA0 (eVar 1) (zA0 (eOp addD (eC (.int 1)) (zAb zA5 (zA0 (eVar 0) (zA0 (eOp subD (eOp shlD (eC (.int 1)) (eCB lenB (zA0 (eVar 1) aNil))) (eC (.int 1))) aNil)))) aNil))))
noncomputable abbrev s6:SM:=(zDg (eMt "list" zAs (eVar 2) (zA0 (eSl slD (eVar 5) pNo (pYes (eC (.int 8)))) aNil)))
theorem zWl {o5:Option D}(h0:Feed S0 c) (h:MkF c S0 n (F.map rowD) S) (c0:cs≠[]) (c9:cs.length<=12) (cb:∀p∈cs,Bd p) (cr:Rz cs):∃(r:List Pt) (S':Store),s2 [some (.ref c),some (.lst (cs.map cel)),some (.ref n),some d,some (.int f),o5] S=.nx (rE c n cs d f r) S'/\Gr 12 r/\MkF c S0 n (F.map rowD) S':=by
 have cp:0<cs.length:=uK.mpr c0
 have p0:2 ^ 1<=2 ^ cs.length:=Nat.pow_le_pow_right (by decide) cp
 have p9:2 ^ cs.length<=2 ^ 12:=Nat.pow_le_pow_right (by decide) c9
 obtain⟨w,hw⟩:∃w:Nat,w=2 ^ cs.length:=⟨_,rfl⟩
 rw[<- hw]at p0 p9
 have q9:w<=4096:=p9
 obtain⟨i,S1,e1,i0,i9,f1,o1⟩:=taken (many:=(w:Int)-1) (by nofun) (by nofun) h.feed
 obtain⟨k,rfl⟩:∃k:Nat,i=(k:Int):=⟨i.toNat,by nofun⟩
 have m1:=h.take h0 f1 o1
 have ln:lenB S [.lst (cs.map cel)]=some (.int (cs.length:Nat)):=by
  show some (D.int ((cs.map cel).length:Int))=_
  rw[xo]
 have sh:shlD S (.int 1) (.int (cs.length:Nat))=some (.int (w:Nat)):=by
  show(if(0:Int)<=(cs.length:Nat)/\((cs.length:Nat):Int)<=1000000/\(1:Int).natAbs<2 ^ 64 then some (D.int (1*2 ^ ((cs.length:Nat):Int).toNat))else none)=_
  rw[xc ⟨by nofun,by nofun,by decide⟩,vn,Int.one_mul,hw]
  norm_cast
 have ad:(1:Int)+(k:Int)=((1+k:Nat):Int):=by nofun
 have rw_:=zU7 (S:=S1) (cs:=cs) (m:=1+k) (by nofun)
 have ps:=zK9 cs (1+k)
 have pn:picked cs (1+k)≠[]:=zLx (by nofun) (by rw[<- hw];lia)
 refine⟨picked cs (1+k),S1,?_,⟨pn,xm ps.length_le c9,fun p hp=>cb p (ps.subset hp),cr.sub ps⟩,m1⟩
 simp_arith [ln,sh,e1,ad,rw_]
theorem zWh (h0:Feed S0 c) (h:MkF c S0 n (F.map rowD) S) (fl:F.length<=100) (hr:Gr 20 r):∃S',s6 (rE c n cs d f r) S=.nx (rE c n cs d f r) S'/\Gr 8 (r.take 8)/\MkF c S0 n ((F++[r.take 8]).map rowD) S':=by
 have sl:slD S (rowD r) none (some 8)=some (rowD (r.take 8)):=by
  show some (D.tup (cutL (r.map cel) none (some 8)))=_
  rw[zW7]
 have ap:=zKx (d:=rowD (r.take 8)) h.at_ (by rw[xo];lia)
 have m2:=h.add h0 (rowD (r.take 8))
 have em:F.map rowD++[rowD (r.take 8)]=(F++[r.take 8]).map rowD:=by simp
 rw[em]at ap m2
 have rp:0<r.length:=uK.mpr hr.ne
 have tl:(r.take 8).length=min 8 r.length:=vz
 refine⟨_,?_,hr.sub (List.take_sublist _ _) (uK.mp (by nofun)) (by nofun),m2⟩
 simp_arith [eMt,eSl,pNo,pYes,asI,sl,ty_D h.at_,ap]
noncomputable abbrev bRw:SM:=(sSeq s1 (sSeq s2 (sSeq s3 (sSeq s4 (sSeq s5 s6)))))
theorem zR0 {o4 o5:Option D}(h0:Feed S0 c) (h:MkF c S0 n (F.map rowD) S) (hF:∀q∈F,Gr 8 q) (fl:F.length<=100) (c0:cs≠[]) (c9:cs.length<=12) (cb:∀p∈cs,Bd p) (cr:Rz cs):∃(f:Int) (r q:List Pt) (S':Store),bRw [some (.ref c),some (.lst (cs.map cel)),some (.ref n),some d,o4,o5] S=.nx (rE c n cs d f r) S'/\Gr 8 q/\MkF c S0 n ((F++[q]).map rowD) S':=by
 obtain⟨f,S1,e1,f0,f9,g1,o1⟩:=taken (many:=4) (by decide) (by decide) h.feed
 have x1:s1 [some (.ref c),some (.lst (cs.map cel)),some (.ref n),some d,o4,o5] S=.nx [some (.ref c),some (.lst (cs.map cel)),some (.ref n),some d,some (.int f),o5] S1:=by simp_arith [e1]
 obtain⟨r2,S2,x2,g2,m2⟩:=zWl (d:=d) (f:=f) (o5:=o5) h0 (h.take h0 g1 o1) c0 c9 cb cr
 obtain⟨r3,S3,x3,g3,k3,m3⟩:=zWk (cs:=cs) (d:=d) (f:=f) h0 m2 hF fl ⟨g2.ne,xm g2.len (by decide),g2.bd,g2.rz⟩
 obtain⟨r4,S4,x4,g4,k4,m4⟩:=zWj (cs:=cs) (d:=d) (f:=f) h0 m3 g3
 obtain⟨r5,S5,x5,g5,m5⟩:=zWi (cs:=cs) (d:=d) (f:=f) h0 m4 hF fl g4 fun z=>by
  rw[k4 (by nofun),k3 (by nofun)]
  exact g2.len
 obtain⟨S6,x6,g6,m6⟩:=zWh (cs:=cs) (d:=d) (f:=f) h0 m5 fl g5
 exact⟨f,r5,_,S6,zAk x1 (zAk x2 (zAk x3 (zAk x4 (zAk x5 x6)))),g6,m6⟩
theorem zLn {m:Nat}(h0:Feed S0 c) (h:MkF c S0 n (([]:List (List Pt)).map rowD) S) (hm:m<=12) (c0:cs≠[]) (c9:cs.length<=12) (cb:∀p∈cs,Bd p) (cr:Rz cs):∃(S':Store) (F:List (List Pt)) (o3 o4 o5:Option D),forL [] (gName 3) bRw ((List.range m).map fun i:Nat=>.int (i:Int)) [some (.ref c),some (.lst (cs.map cel)),some (.ref n),none,none,none] S=.nx [some (.ref c),some (.lst (cs.map cel)),some (.ref n),o3,o4,o5] S'/\MkF c S0 n (F.map rowD) S'/\(∀q∈F,Gr 8 q)/\F.length=m:=by
 obtain⟨env',S',e,F,o3,o4,o5,rfl,mk,hF,ln⟩:=zHe (h:=fun i:Nat=>.int (i:Int)) (gd:=[]) (g:=gName 3) (b:=bRw) (ys:=List.range m) (fun P env S'=>∃(F:List (List Pt)) (o3 o4 o5:Option D),env=[some (.ref c),some (.lst (cs.map cel)),some (.ref n),o3,o4,o5]/\MkF c S0 n (F.map rowD) S'/\(∀q∈F,Gr 8 q)/\F.length=P.length) (fun _ _ _ _=>zB9) (fun P i R eq env S1 hh=>by
  obtain⟨F,o3,o4,o5,rfl,mk,hF,ln⟩:=hh
  have pl:P.length<=12:=by
   have:=congrArg List.length eq
   rw[vN,vd]at this
   lia
  obtain⟨f,r,q,S2,e,gq,m2⟩:=zR0 (d:=.int (i:Int)) (o4:=o4) (o5:=o5) h0 mk hF (by nofun) c0 c9 cb cr
  refine⟨_,_,S2,rfl,e,F++[q],_,_,_,rfl,m2,fun x hx=>?_,by simp[ln]⟩
  rcases xP.mp hx with w|w
  ·exact hF x w
  ·rw[xI.mp w];exact gq) (List.range m) [] _ _ rfl ⟨[],none,none,none,rfl,h,fun p hp=>(by cases hp),rfl⟩
 rw[vN]at ln
 exact⟨S',F,o3,o4,o5,e,mk,hF,ln⟩
end
theorem plus1 {e:EM}{env:Env}{S S':Store}{k:Nat}(h:e env S=.ok (.int (k:Nat)) S'):eOp addD (eC (.int 1)) e env S=.ok (.int ((1+k:Nat):Int)) S':=by
 have ad:addD S' (.int 1) (.int (k:Nat))=some (.int ((1+k:Nat):Int)):=by
  show some (D.int (1+(k:Int)))=_
  congr 2
 rw[eOp,eC,Rs.bind_ok,h,Rs.bind_ok,ad]
 rfl
theorem call2 {g:Fn}{e:EM}{env:Env}{S S1 S2:Store}{i j:Nat}{x y d:D}(h0:env[i]?=some (some x)) (h:e env S=.ok y S1) (hg:g [x,y] S1=.ok d S2):sSet j (zAb g (zA0 (eVar i) (zA0 e aNil))) env S=.nx (env.set j (some d)) S2:=by
 have v:eVar i env S=.ok x S:=by unfold eVar;rw[h0]
 simp only[sSet,zAb,zA0,aNil,v,Rs.bind_ok,Rs.then_ok,h,hg]
theorem zRd {S:Store}{c:Nat}(h:Feed S c):∃(F:List (List Pt)) (S':Store),zBk [.ref c] S=.ok (.lst (F.map rowD)) S'/\F.length<=12/\(∀q∈F,Gr 8 q)/\Feed S' c/\Only c c S S':=by
 obtain⟨i,S1,e1,i0,i9,f1,o1⟩:=taken (many:=12) (by decide) (by decide) h
 obtain⟨k,rfl⟩:∃k:Nat,i=(k:Int):=⟨i.toNat,by(lia)⟩
 have ad:∀k:Nat,(1:Int)+(k:Int)=((1+k:Nat):Int):=fun k=>by(lia)
 obtain⟨cs,S2,e2,cl,cb,cr,f2,o2⟩:=zPm (many:=1+k) (by(lia)) f1
 have g2:=(o1.trans o2).grow
 have m3:=MkF.new h f2 g2 []
 obtain⟨j,S4,e4,j0,j9,f4,o4⟩:=taken (many:=12) (by decide) (by decide) m3.feed
 obtain⟨j,rfl⟩:∃k:Nat,j=(k:Int):=⟨j.toNat,by(lia)⟩
 have m4:MkF c S S2.length (([]:List (List Pt)).map rowD) S4:=m3.take h f4 o4
 obtain⟨S5,F,a3,a4,a5,e5,m5,hF,fl⟩:=zLn (m:=1+j) (cs:=cs) h m4 (by(lia)) (uK.mp (by(lia))) (by(lia)) cb cr
 obtain⟨S6,e6,f6,o6⟩:=zIr (np:=1) (nl:=6) (b:=zDc) (ds:=[.ref c]) (n:=S2.length) (d:=.lst (F.map rowD)) rfl (by
  show(sSeq (sSet 1 (zAb zAy (zA0 (eVar 0) (zA0 (eOp addD (eC (.int 1)) (zAb zA5 (zA0 (eVar 0) (zA0 (eC (.int 12)) aNil)))) aNil)))) (sSeq (sSet 2 (eNew (eLst aNil))) (sSeq (sFor (zBq (zA0 (eOp addD (eC (.int 1)) (zAb zA5 (zA0 (eVar 0) (zA0 (eC (.int 12)) aNil)))) aNil)) (gName 3) bRw) (sRet (eVar 2))))) [some (.ref c),none,none,none,none,none] S=_
  have x1:sSet 1 (zAb zAy (zA0 (eVar 0) (zA0 (eOp addD (eC (.int 1)) (zAb zA5 (zA0 (eVar 0) (zA0 (eC (.int 12)) aNil)))) aNil))) [some (.ref c),none,none,none,none,none] S=.nx [some (.ref c),some (.lst (cs.map cel)),none,none,none,none] S2:=call2 (x:=.ref c) rfl (plus1 (k:=k) (by simp_arith [e1])) e2
  have x2:sSet 2 (eNew (eLst aNil)) [some (.ref c),some (.lst (cs.map cel)),none,none,none,none] S2=.nx [some (.ref c),some (.lst (cs.map cel)),some (.ref S2.length),none,none,none] (S2++[.lst []]):=by simp_arith [eNew]
  have x3:sFor (zBq (zA0 (eOp addD (eC (.int 1)) (zAb zA5 (zA0 (eVar 0) (zA0 (eC (.int 12)) aNil)))) aNil)) (gName 3) bRw [some (.ref c),some (.lst (cs.map cel)),some (.ref S2.length),none,none,none] (S2++[.lst []])=.nx [some (.ref c),some (.lst (cs.map cel)),some (.ref S2.length),a3,a4,a5] S5:=by
   have w:=zEv (e:=eOp addD (eC (.int 1)) (zAb zA5 (zA0 (eVar 0) (zA0 (eC (.int 12)) aNil)))) (env:=[some (.ref c),some (.lst (cs.map cel)),some (.ref S2.length),none,none,none]) (S:=S2++[.lst []]) (S':=S4) (n:=1+j) (plus1 (k:=j) (by simp_arith [e4])) (by(lia))
   rw[sFor,w,Rs.then_ok]
   exact e5
  exact zAk x1 (zAk x2 (zAk x3 (by simp_arith [xw])))) h m5.feed m5.grow m5.far m5.at_ (zG7 F)
 exact⟨F,S6,e6,by(lia),hF,f6,o6⟩
end
end DP
namespace DP
open DS RW
noncomputable section
open Classical
noncomputable abbrev rsD (F:List (List Pt)):D:=.lst (F.map rowD)
structure Gs (F:List (List Pt)):Prop where
 len:F.length<=12
 gr:∀q∈F,Gr 8 q
theorem Gs.cn {F:List (List Pt)}(h:Gs F):Cn F:=⟨fun r hr=>(h.gr r hr).rz.1,fun q hq r hr s s'=>by
 have a:=(h.gr q hq).rz
 have b:=(h.gr r hr).rz
 have pm:(q.map cel).Perm (r.map cel):=((List.perm_ext_iff_of_nodup a.1 b.1).mpr fun p=>⟨s p,s' p⟩).map _
 exact zGm (up_eq (zG6 q) pm a.2 b.2)⟩
theorem zT4 {F:List (List Pt)}(h:∀q∈F,q.length<=8):F.flatten.length<=8*F.length:=by
 induction F with
 | nil=>exact xh 0
 | cons q F ih=>
  have a:=ih fun x hx=>h x (.tail _ hx)
  have b:=h q (.head _)
  rw[List.flatten_cons,vd,xH]
  lia
theorem zQt {S:Store}{F:List (List Pt)}(h:Gs F):∃(v:D) (t:PySem.Str),zAn [rsD F] S=.ok v S/\zAe [rsD F] S=.ok v S/\zAe [.tup (F.map rowD)] S=.ok v S/\zCn S [v]=some (.str t):=by
 have fl:=h.len
 have fa:F.flatten.length<=1000:=xm (zT4 fun q hq=>(h.gr q hq).len) (by nofun)
 obtain⟨us,eu,nu,mu,e1⟩:=law_least_ok (S0:=S) (v:=rsD F) (rows:=F) (fun _=>rfl) (by nofun) fun r hr=>xm (h.gr r hr).len (by decide)
 obtain⟨K,e2,nK,mK⟩:=zJl (S0:=S) (v:=rsD F) (rows:=F) (fun _=>rfl) (fun _=>rfl) h.cn (by nofun) fa
 obtain⟨L,e3,nL,mL⟩:=zJl (S0:=S) (v:=.tup (F.map rowD)) (rows:=F) (fun _=>rfl) (fun _=>rfl) h.cn (by nofun) fa
 rw[zH0 eu nu mu nK mK]at e2
 rw[zH0 eu nu mu nL mL]at e3
 have sub:∀r∈us.filter (fun r=>decide (Mn us r)),r∈F:=fun r hr=>(mu r).mp (vY.mp hr).1
 obtain⟨t,et⟩:=zLo (rs:=us.filter fun r=>decide (Mn us r)) (fun r hr=>⟨(h.gr r (sub r hr)).len,(h.gr r (sub r hr)).bd⟩) (xm (zI9 (nu.filter _) sub) (by nofun))
 exact⟨_,t,e1,e2,e3,et S⟩
noncomputable abbrev cLw:TM:=(tOr (tB (eOp neD (eCB zCn (zA0 (zAb zAe (zA0 (eVar 5) aNil)) aNil)) (eCB zCn (zA0 (eVar 4) aNil)))) (tOr (tB (eOp neD (eVar 5) (eVar 3))) (tB (eOp neD (eCB zCn (zA0 (zAb zAe (zA0 (eCB zAv (zA0 (eVar 3) aNil)) aNil)) aNil)) (eCB zCn (zA0 (eVar 4) aNil))))))
noncomputable abbrev bLw:SM:=(sSeq (sSet 4 (zAb zAn (zA0 (eVar 3) aNil))) (sSeq (sSet 5 (eCB zKf (zA0 (eVar 3) aNil))) (sIf cLw (sRet (eC (.bl false))) zB6)))
theorem zR1 {S:Store}{F:List (List Pt)}{a0 a1 a2 o4 o5:Option D}(h:Gs F):∃o4' o5',bLw [a0,a1,a2,some (rsD F),o4,o5] S=.nx [a0,a1,a2,some (rsD F),o4',o5'] S:=by
 obtain⟨v,t,e1,e2,e3,et⟩:=zQt (S:=S) h
 have ls:zKf S [rsD F]=some (rsD F):=rfl
 have tp:zAv S [rsD F]=some (.tup (F.map rowD)):=rfl
 have n1:neD S (.str t) (.str t)=some (.bl false):=by
  show some (D.bl (!decide (t=t)))=_
  rw[xq rfl];rfl
 have n2:neD S (rsD F) (rsD F)=some (.bl false):=by
  show((if okL (F.map rowD) (F.map rowD)then some (decide (F.map rowD=F.map rowD))else none).map fun b=>D.bl (!b))=_
  rw[xc ⟨zDl F,zDl F,zGk F F,xm (zGj F) (by decide)⟩,xq rfl]
  rfl
 have x1:sSet 4 (zAb zAn (zA0 (eVar 3) aNil)) [a0,a1,a2,some (rsD F),o4,o5] S=.nx [a0,a1,a2,some (rsD F),some v,o5] S:=by simp_arith [e1]
 have x2:sSet 5 (eCB zKf (zA0 (eVar 3) aNil)) [a0,a1,a2,some (rsD F),some v,o5] S=.nx [a0,a1,a2,some (rsD F),some v,some (rsD F)] S:=by simp_arith [ls]
 have t1:tB (eOp neD (eCB zCn (zA0 (zAb zAe (zA0 (eVar 5) aNil)) aNil)) (eCB zCn (zA0 (eVar 4) aNil))) [a0,a1,a2,some (rsD F),some v,some (rsD F)] S=.ok false S:=by simp_arith [e2,et,n1]
 have t2:tB (eOp neD (eVar 5) (eVar 3)) [a0,a1,a2,some (rsD F),some v,some (rsD F)] S=.ok false S:=by simp_arith [n2]
 have t3:tB (eOp neD (eCB zCn (zA0 (zAb zAe (zA0 (eCB zAv (zA0 (eVar 3) aNil)) aNil)) aNil)) (eCB zCn (zA0 (eVar 4) aNil))) [a0,a1,a2,some (rsD F),some v,some (rsD F)] S=.ok false S:=by simp_arith [tp,e3,et,n1]
 have c:cLw [a0,a1,a2,some (rsD F),some v,some (rsD F)] S=.ok false S:=by
  unfold cLw
  rw[tOr,t1,Rs.bind_ok,xf (by decide),tOr,t2,Rs.bind_ok,xf (by decide),t3]
 exact⟨some v,some (rsD F),zAk x1 (zAk x2 (zJq c))⟩
noncomputable abbrev bDr:SM:=(zDg (eMt "list" zAs (eVar 1) (zA0 (zAb zBk (zA0 (zAb zBl (zA0 (eVar 0) (zA0 (eVar 2) aNil))) aNil)) aNil)))
theorem zT8:zBl=zGo 2 4 zTn:=rfl
theorem zR2 {S:Store}{ns:List Int}{n k:Nat}{Fs:List (List (List Pt))}{a3 a4 a5:Option D}(hk:k<=63) (at_:S[n]?=some (.lst (Fs.map rsD))) (fl:Fs.length<=100):∃(F:List (List Pt)) (S':Store),bDr [some (.klst (ns.map D.int)),some (.ref n),some (.int (k:Nat)),a3,a4,a5] S=.nx [some (.klst (ns.map D.int)),some (.ref n),some (.int (k:Nat)),a3,a4,a5] S'/\Gs F/\S'[n]?=some (.lst ((Fs++[F]).map rsD)):=by
 have nl:=(xE.mp at_).1
 obtain⟨own,seed,s0,s9,e1⟩:=zT7 (S:=S) (ns:=ns) hk
 rw[<- zT8]at e1
 have fd:Feed (S++[.lst [.int own,.int seed]]) S.length:=⟨own,seed,by simp,s0,s9⟩
 obtain⟨F,S2,e2,l2,g2,f2,o2⟩:=zRd fd
 have at2:S2[n]?=some (.lst (Fs.map rsD)):=by
  rw[o2.at_ n (by nofun) (by nofun),vq nl];exact at_
 have ap:=zKx (d:=rsD F) at2 (by rw[xo];lia)
 have em:Fs.map rsD++[rsD F]=(Fs++[F]).map rsD:=by simp
 rw[em]at ap
 refine⟨F,_,?_,⟨l2,g2⟩,vR (xE.mp at2).1⟩
 simp_arith [eMt,ty_D at_,e1,e2,ap]
theorem zTd {S:Store}{ns:List Int}{n m:Nat}(hm:m<=12) (at_:S[n]?=some (.lst (([[]]:List (List (List Pt))).map rsD))):∃(S':Store) (Fs:List (List (List Pt))) (a2:Option D),forL [] (gName 2) bDr ((List.range m).map fun i:Nat=>.int (i:Int)) [some (.klst (ns.map D.int)),some (.ref n),none,none,none,none] S=.nx [some (.klst (ns.map D.int)),some (.ref n),a2,none,none,none] S'/\S'[n]?=some (.lst (Fs.map rsD))/\(∀F∈Fs,Gs F)/\Fs.length=m+1:=by
 obtain⟨env',S',e,Fs,a2,rfl,at2,hF,ln⟩:=zHe (h:=fun i:Nat=>.int (i:Int)) (gd:=[]) (g:=gName 2) (b:=bDr) (ys:=List.range m) (fun P env S'=>∃(Fs:List (List (List Pt))) (a2:Option D),env=[some (.klst (ns.map D.int)),some (.ref n),a2,none,none,none]/\S'[n]?=some (.lst (Fs.map rsD))/\(∀F∈Fs,Gs F)/\Fs.length=P.length+1) (fun _ _ _ _=>zB9) (fun P i R eq env S1 hh=>by
  obtain⟨Fs,a2,rfl,at1,hF,ln⟩:=hh
  have pl:P.length<=12:=by
   have:=congrArg List.length eq
   rw[vN,vd]at this
   lia
  have il:i<m:=xY.mp (by rw[eq];simp)
  obtain⟨F,S2,e,gF,at2⟩:=zR2 (ns:=ns) (k:=i) (a3:=none) (a4:=none) (a5:=none) (by nofun) at1 (by nofun)
  refine⟨_,_,S2,rfl,e,Fs++[F],_,rfl,at2,fun x hx=>?_,by simp[ln]⟩
  rcases xP.mp hx with w|w
  ·exact hF x w
  ·rw[xI.mp w];exact gF) (List.range m) [] _ _ rfl ⟨[[]],none,rfl,at_,fun F hF=>by rw[xI.mp hF];exact⟨xC _,fun q hq=>nomatch hq⟩,rfl⟩
 rw[vN]at ln
 exact⟨S',Fs,a2,e,at2,hF,ln⟩
theorem zSi {S:Store}{a0 a1 a2 a3 a4 a5:Option D}{Fs:List (List (List Pt))}(hF:∀F∈Fs,Gs F):∃env',forL [] (gName 3) bLw (Fs.map rsD) [a0,a1,a2,a3,a4,a5] S=.nx env' S:=by
 obtain⟨env',S',e,rfl,_⟩:=zQe (h:=rsD) (gd:=[]) (g:=gName 3) (b:=bLw) (fun env S'=>S'=S/\∃o3 o4 o5,env=[a0,a1,a2,o3,o4,o5]) (fun _ _ _=>zB9) Fs [a0,a1,a2,a3,a4,a5] S ⟨rfl,_,_,_,rfl⟩ fun F hf env S1 hh=>by
  obtain⟨rfl,o3,o4,o5,rfl⟩:=hh
  obtain⟨o4',o5',e⟩:=zR1 (S:=S1) (a0:=a0) (a1:=a1) (a2:=a2) (o4:=o4) (o5:=o5) (hF F hf)
  exact⟨[a0,a1,a2,some (rsD F),o4,o5],_,S1,rfl,e,rfl,_,_,_,rfl⟩
 exact⟨env',e⟩
theorem zT6 {v:Bool}{S:Store}:fin [] (.bl v) S=.ok (.bl v) []:=by
 unfold fin
 rw[xc (show keeps ([]:Store).length [] S from trivial),xc (show(D.bl v).low ([]:Store).length=true from rfl)]
 rfl
theorem zSh {S:Store}{s:D}{l:Nat}{a1 a2 a3 a4 a5:Option D}(hl:lenB S [s]=some (.int (l:Nat))):∃m:Nat,m<=12/\eCB max2B (zA0 (eC (.int 2)) (zA0 (eCB min2B (zA0 (eC (.int 4)) (zA0 (eCB lenB (zA0 (eVar 0) aNil)) aNil))) aNil)) [some s,a1,a2,a3,a4,a5] S=.ok (.int (m:Nat)) S:=by
 have mn:min2B S [.int 4,.int (l:Nat)]=some (.int ((min 4 l:Nat):Int)):=by
  show some (D.int (if(l:Int)<4 then(l:Int)else 4))=_
  congr 2
  split <;> lia
 have mx:max2B S [.int 2,.int ((min 4 l:Nat):Int)]=some (.int ((max 2 (min 4 l):Nat):Int)):=by
  show some (D.int (if((min 4 l:Nat):Int) > 2 then((min 4 l:Nat):Int)else 2))=_
  congr 2
  split <;> lia
 refine⟨max 2 (min 4 l),by nofun,?_⟩
 simp only[eCB,zA0,aNil,eC,eVar,xW,Rs.bind_ok,hl,zAa,mn,mx]
theorem law_ok (ns:List Int) (h:ns.length<=63):∃S,zKl [.klst (ns.map .int)] []=.ok (.bl true) S:=by
 have ln:lenB [.lst [.lst []]] [.klst (ns.map D.int)]=some (.int (ns.length:Nat)):=by
  show some (D.int ((ns.map D.int).length:Int))=_
  rw[xo]
 obtain⟨m,hm,em⟩:=zSh (a1:=some (.ref 0)) (a2:=none) (a3:=none) (a4:=none) (a5:=none) ln
 obtain⟨S2,Fs,a2,e2,at2,hF,fl⟩:=zTd (ns:=ns) (n:=0) (S:=[.lst [.lst []]]) hm rfl
 obtain⟨env',e3⟩:=zSi (S:=S2) (a0:=some (.klst (ns.map D.int))) (a1:=some (.ref 0)) (a2:=a2) (a3:=none) (a4:=none) (a5:=none) (Fs:=Fs++Fs.reverse) fun F hf=>by
  rcases xP.mp hf with w|w
  ·exact hF F w
  ·exact hF F (List.mem_reverse.mp w)
 refine⟨[],?_⟩
 unfold zKl zB1
 rw[xc (show [D.klst (ns.map .int)].length=1 from rfl)]
 suffices hb':zTm ([D.klst (ns.map .int)].map some++List.replicate (6-1) none) []=.rt (.bl true) S2 by rw[hb'];exact zT6
 show(sSeq (sSet 1 (eNew (eLst (zA0 (eLst aNil) aNil)))) (sSeq (sFor (zBq (zA0 (eCB max2B (zA0 (eC (.int 2)) (zA0 (eCB min2B (zA0 (eC (.int 4)) (zA0 (eCB lenB (zA0 (eVar 0) aNil)) aNil))) aNil))) aNil)) (gName 2) bDr) (sSeq (sFor (iVal (eOp addD (eVar 1) (eUn revS (eVar 1)))) (gName 3) bLw) (sRet (eC (.bl true)))))) [some (.klst (ns.map .int)),none,none,none,none,none] []=_
 have x1:sSet 1 (eNew (eLst (zA0 (eLst aNil) aNil))) [some (.klst (ns.map .int)),none,none,none,none,none] []=.nx [some (.klst (ns.map .int)),some (.ref 0),none,none,none,none] [.lst [.lst []]]:=by simp_arith [eNew]
 have x2:sFor (zBq (zA0 (eCB max2B (zA0 (eC (.int 2)) (zA0 (eCB min2B (zA0 (eC (.int 4)) (zA0 (eCB lenB (zA0 (eVar 0) aNil)) aNil))) aNil))) aNil)) (gName 2) bDr [some (.klst (ns.map .int)),some (.ref 0),none,none,none,none] [.lst [.lst []]]=.nx [some (.klst (ns.map .int)),some (.ref 0),a2,none,none,none] S2:=by
  rw[sFor,zEv em (by nofun),Rs.then_ok]
  exact e2
 have x3:sFor (iVal (eOp addD (eVar 1) (eUn revS (eVar 1)))) (gName 3) bLw [some (.klst (ns.map .int)),some (.ref 0),a2,none,none,none] S2=.nx env' S2:=by
  have lk:look S2 (.ref 0)=some (.lst (Fs.map rsD)):=at2
  have rv:revS S2 (.ref 0)=some (.lst ((Fs.map rsD).reverse)):=by simp only[revS,lk]
  have li:litems S2 (.ref 0)=some (Fs.map rsD):=by simp only[litems,lk]
  have ad:addD S2 (.ref 0) (.lst ((Fs.map rsD).reverse))=some (.lst ((Fs++Fs.reverse).map rsD)):=by
   have m9:1000<=most:=by decide
   show(match litems S2 (.ref 0),litems S2 (.lst ((Fs.map rsD).reverse))with|some l,some m=>if l.length+m.length<=most then some (D.lst (l++m))else none|_,_=>none)=_
   rw[li,show litems S2 (.lst ((Fs.map rsD).reverse))=some ((Fs.map rsD).reverse)from rfl]
   dsimp only
   rw[xc (by rw[ya,xo];lia),ug,List.map_reverse]
  have w:iVal (eOp addD (eVar 1) (eUn revS (eVar 1))) [some (.klst (ns.map .int)),some (.ref 0),a2,none,none,none] S2=.ok ⟨(Fs++Fs.reverse).map rsD,[]⟩ S2:=by
   have w:zBn S2 (.lst ((Fs++Fs.reverse).map rsD))=some ⟨(Fs++Fs.reverse).map rsD,[]⟩:=rfl
   simp only[iVal,eOp,eUn,eVar,xW,vQ,Rs.bind_ok,rv,zAa,ad,w]
  rw[sFor,w,Rs.then_ok]
  exact e3
 exact zAk x1 (zAk x2 (zAk x3 rfl))
end
end DP
namespace Law
open PySem PySem.Spec PyProof.Rows L2
noncomputable abbrev n_0:List Str:=["_law_k","_law_cell_here","_law_mask"]
noncomputable abbrev n_1:List Str:=["_law_rows_here","_law_unlike","_law_found","_law_row_here"]
noncomputable abbrev n_2:List Str:=["_law_feed_here","_law_cells_here","_law_most","_law_masks"]
noncomputable abbrev n_3:List Str:=["_law_k","_law_feed_here","_law_cells_here"]
noncomputable abbrev n_4:List Str:=["_law_feed_here","_law_cells_here","_law_most"]
noncomputable abbrev n_5:List Str:=["rows","bits","bit","row","cell"]
noncomputable abbrev n_6:List Str:=["row","bits","mask","cell"]
noncomputable abbrev n_7:List Str:=["_law_script","_law_k","_law_cell_here","_law_own"]
noncomputable abbrev n_8:List Str:=["_law_feed_here","_law_many","_law_digit","_law_one"]
noncomputable abbrev n_9:List Str:=["rows","bits","masks","least","row","mask"]
noncomputable abbrev n_10:List Str:=["_law_feed_here","_law_many","_law_found","_law_k","_law_x","_law_y"]
noncomputable abbrev n_11:List Str:=["_law_feed_here","_law_cells_here","_law_found","_law_k","_law_form","_law_row_here"]
noncomputable abbrev n_12:List Str:=["_law_script","_law_some","_law_k","_law_rows_here","_law_due","_law_handed"]
noncomputable def top (i:Nat):Stmt:=PySem.Challenge.pw_healfloor_k31_least_rows.main.body.getD i (.Pass ⟨0,0,0,0⟩)
structure Txt (K:PySem.W.Frag) (mg:Str->Option Value):Prop where
 b_any:mg "any"=none
 b_enumerate:mg "enumerate"=none
 b_len:mg "len"=none
 b_list:mg "list"=none
 b_max:mg "max"=none
 b_min:mg "min"=none
 b_range:mg "range"=none
 b_repr:mg "repr"=none
 b_set:mg "set"=none
 b_sorted:mg "sorted"=none
 b_tuple:mg "tuple"=none
section
variable (P:Program) (w:World) (K:PySem.W.Frag) (mg:Str->Option Value) (base:Heap)
noncomputable abbrev zHz:Prop:=Cal P w K mg base "bits_of" 1 ["rows"] (spOf K XE0 DP.zC1)
noncomputable abbrev zHy:Prop:=Cal P w K mg base "mask_of" 1 ["row","bits"] (spOf K XE0 DP.zC0)
noncomputable abbrev zE8:Prop:=Cal P w K mg base "has_within" 1 ["mask","others"] (spOf K XE0 DP.zB7)
noncomputable abbrev zF5:Prop:=Cal P w K mg base "_law_feed" 1 ["_law_script","_law_k"] (spOf K XE0 DP.zBl)
noncomputable abbrev zCh:Prop:=Cal P w K mg base "_law_take" 1 ["_law_feed_here","_law_many"] (spOf K XE0 DP.zA5)
noncomputable abbrev zDw:Prop:=Cal P w K mg base "_law_row" 1 ["_law_cells_here","_law_mask"] (spOf K XE0 DP.zBd)
noncomputable abbrev zCw:Prop:=Cal P w K mg base "_law_least" 1 ["_law_rows_here"] (spOf K XE0 DP.zAn)
noncomputable abbrev zE7:Prop:=Cal P w K mg base "least_rows" 2 ["rows"] (spOf K XE0 DP.zAe)
noncomputable abbrev zF6:Prop:=Cal P w K mg base "_law_cell" 2 ["_law_feed_here"] (spOf K XE0 DP.zB2)
noncomputable abbrev zI0:Prop:=Cal P w K mg base "_law_plain" 2 n_4 (spOf K XE0 DP.zE2)
noncomputable abbrev zE9:Prop:=Cal P w K mg base "_law_cells" 3 ["_law_feed_here","_law_many"] (spOf K XE0 DP.zAy)
noncomputable abbrev zF4:Prop:=Cal P w K mg base "_law_rows" 4 ["_law_feed_here"] (spOf K XE0 DP.zBk)
end
section
variable {P:Program}{w:World}{K:PySem.W.Frag}{mg:Str->Option Value}{base:Heap}
noncomputable abbrev zDf:Stmt:=top 1
theorem sc_bits_of:zAr n_5 ["rows"] (zA7 zDf):=⟨rfl,rfl,rfl,by decide +kernel,rfl,by decide +kernel,by decide +kernel⟩
theorem zKc {f:Addr}{fd:FuncData}(F:Fun K "bits_of" "bits_of" zDf f fd) (T:Txt K mg):FnOk P w K mg base CX0 1 f fd ["rows"] (spOf K XE0 DP.zC1):=by
 refine fn_d (k:=0) (b:=DP.zHw) F sc_bits_of rfl rfl fun cdv A outer s H E hr=>?_
 have hu:=zDs hr
 have hu64:=hr.units
 have hu1:=hr.units0
 have nd:=sc_bits_of.nd
 exact(zA4 (zA9 (j:=1) nd rfl (by first|exact Or.inl rfl|exact Or.inr rfl) (zE3 zTf))
   (zA4 (zA9 (j:=2) nd rfl (by first|exact Or.inl rfl|exact Or.inr rfl) zA6)
   (zA4 (zCc vF rfl (zD7 (zA1 0)) (zAq (j:=3) nd rfl (by first|exact Or.inl rfl|exact Or.inr rfl)) (zA8 (zCc vF rfl (zD7 (zA1 3)) (zAq (j:=4) nd rfl (by first|exact Or.inl rfl|exact Or.inr rfl)) (zA8 (zCt (zB0 (zFf hu64) (zA1 4) (zA1 1) (by with_unfolding_all rfl)) (zA4 (zIk (zRc hu) (zA1 1) (zA1 4) (zA1 2))
   (zA8 (zA9 (j:=2) nd rfl (by first|exact Or.inl rfl|exact Or.inr rfl) (zAg zAp (zA1 2) (zA1 2))))) zBu)))))
   (zA8 (zAu (zA1 1))))))
noncomputable abbrev zDe:Stmt:=top 2
theorem sc_mask_of:zAr n_6 ["row","bits"] (zA7 zDe):=⟨rfl,rfl,rfl,by decide +kernel,rfl,by decide +kernel,by decide +kernel⟩
theorem zKb {f:Addr}{fd:FuncData}(F:Fun K "mask_of" "mask_of" zDe f fd) (T:Txt K mg):FnOk P w K mg base CX0 1 f fd ["row","bits"] (spOf K XE0 DP.zC0):=by
 refine fn_d (k:=0) (b:=DP.zHv) F sc_mask_of rfl rfl fun cdv A outer s H E hr=>?_
 have hu:=zDs hr
 have hu64:=hr.units
 have hu1:=hr.units0
 have nd:=sc_mask_of.nd
 exact(zA4 (zA9 (j:=2) nd rfl (by first|exact Or.inl rfl|exact Or.inr rfl) zA6)
   (zA4 (zCc vF rfl (zD7 (zA1 0)) (zAq (j:=3) nd rfl (by first|exact Or.inl rfl|exact Or.inr rfl)) (zA8 (zA9 (j:=2) nd rfl (by first|exact Or.inl rfl|exact Or.inr rfl) (zAg zV3 (zA1 2) (zEy (ix_D hu) (zA1 1) (zA1 3))))))
   (zA8 (zAu (zA1 2)))))
noncomputable abbrev zB5:Stmt:=top 3
theorem sc_has_within:zAr ["mask","others"] ["mask","others"] (zA7 zB5):=⟨rfl,rfl,rfl,by decide +kernel,rfl,by decide +kernel,by decide +kernel⟩
theorem zG2 {f:Addr}{fd:FuncData}(F:Fun K "has_within" "has_within" zB5 f fd) (T:Txt K mg):FnOk P w K mg base CX0 1 f fd ["mask","others"] (spOf K XE0 DP.zB7):=by
 refine fn_d (k:=0) (b:=DP.zBr) F sc_has_within rfl rfl fun cdv A outer s H E hr=>?_
 have hu:=zDs hr
 have hu64:=hr.units
 have hu1:=hr.units0
 have nd:=sc_has_within.nd
 exact(zA8 (zAu (zCk (zKw rfl) rfl T.b_any PyProof.Rows.boot_any (zA2 (zDb (zEx rfl (CompScope.mk' (sc:=zA7 zB5) (N:=["mask","others"]) (own:=["other"]) (fre:=["mask"]) (ix:=[0]) rfl rfl (by decide +kernel)) (zD7 (zA1 1)) (fun cl C s0 H0 fp=>(zAq (j:=0) (show List.Nodup (["other","mask"]:List Str) by decide +kernel) rfl (Or.inl rfl) (Or.inr rfl))) (fun cl C s0 H0 fp=>zIm) (fun cl C s0 H0 fp=>(zW3 (zDa hu64) (zAg zMc (zA1 0) (zA1 1)) (zA1 0) (nomark _))))) zA3))))
noncomputable abbrev zC6:Stmt:=top 6
theorem sc__law_feed:zAr n_7 ["_law_script","_law_k"] (zA7 zC6):=⟨rfl,rfl,rfl,by decide +kernel,rfl,by decide +kernel,by decide +kernel⟩
theorem zH5 {f:Addr}{fd:FuncData}(F:Fun K "_law_feed" "_law_feed" zC6 f fd) (T:Txt K mg):FnOk P w K mg base CX0 1 f fd ["_law_script","_law_k"] (spOf K XE0 DP.zBl):=by
 refine fn_r (k:=0) (b:=DP.zF2) F sc__law_feed rfl rfl fun cdv A outer s H E hr=>?_
 have hu:=zDs hr
 have hu64:=hr.units
 have hu1:=hr.units0
 have nd:=sc__law_feed.nd
 exact(zA4 (zA9 (j:=2) nd rfl (by first|exact Or.inl rfl|exact Or.inr rfl) (zAg zAp (zAg zBs zA6 (zA1 1)) zA6))
   (zA4 (zCt (zB0 (zS9 hu64) (zA1 1) (zCk zAm rfl T.b_len vo (zA2 (zA1 0) zA3)) (nomark _)) (zA8 (zA9 (j:=2) nd rfl (by first|exact Or.inl rfl|exact Or.inr rfl) (zEy (ix_D hu) (zA1 0) (zA1 1)))) (zA8 (zCt (zB0 zJf (zCk zAm rfl T.b_len vo (zA2 (zA1 0) zA3)) zA6 (nomark _)) (zA8 (zA9 (j:=2) nd rfl (by first|exact Or.inl rfl|exact Or.inr rfl) (zAg zAp (zAg zBs (zAg zC8 (zEy (ix_D hu) (zA1 0) (zAg zC8 (zA1 1) (zCk zAm rfl T.b_len vo (zA2 (zA1 0) zA3)))) zA6) zA6) (zAg zBs zA6 (zA1 1))))) zBu)))
   (zA4 (zA9 (j:=3) nd rfl (by first|exact Or.inl rfl|exact Or.inr rfl) zA6)
   (zA4 (zCt (zB0 zV5 (zA1 2) (zAg zMa zA6 zA6) (nomark _)) (zA8 (zA9 (j:=3) nd rfl (by first|exact Or.inl rfl|exact Or.inr rfl) (zA1 2))) zBu)
   (zA8 (zAu (zE3 (zCu (zA2 (zA1 3) (zA2 (zAg zAp (zAg zC8 (zAg zMa (zAg zAp (zAg zBs (zAg zC8 (zA1 2) zA6) zA6) (zAg zBs zA6 (zA1 1))) zA6) zA6) zA6) zA3))))))))))
noncomputable abbrev zC4:Stmt:=top 7
theorem sc__law_take:zAr n_8 ["_law_feed_here","_law_many"] (zA7 zC4):=⟨rfl,rfl,rfl,by decide +kernel,rfl,by decide +kernel,by decide +kernel⟩
theorem zH3 {f:Addr}{fd:FuncData}(F:Fun K "_law_take" "_law_take" zC4 f fd) (T:Txt K mg):FnOk P w K mg base CX0 1 f fd ["_law_feed_here","_law_many"] (spOf K XE0 DP.zA5):=by
 refine fn_d (k:=0) (b:=DP.zF1) F sc__law_take rfl rfl fun cdv A outer s H E hr=>?_
 have hu:=zDs hr
 have hu64:=hr.units
 have hu1:=hr.units0
 have nd:=sc__law_take.nd
 exact(zA4 (zCt (zB0 zJf (zEy (ix_D hu) (zA1 0) zA6) zA6 (nomark _)) (zA4 (zA9 (j:=2) nd rfl (by first|exact Or.inl rfl|exact Or.inr rfl) (zAg zC8 (zEy (ix_D hu) (zA1 0) zA6) (zA1 1)))
   (zA4 (zIk (zRc hu) (zA1 0) zA6 (zAg zJg (zEy (ix_D hu) (zA1 0) zA6) (zA1 1)))
   (zA8 (zAu (zA1 2))))) zBu)
   (zA4 (zA9 (j:=3) nd rfl (by first|exact Or.inl rfl|exact Or.inr rfl) (zAg zC8 (zAg zBs (zEy (ix_D hu) (zA1 0) zA6) zA6) zA6))
   (zA4 (zIk (zRc hu) (zA1 0) zA6 (zAg zAp (zAg zC8 (zAg zAp (zAg zBs (zA1 3) zA6) zA6) zA6) zA6))
   (zA8 (zAu (zAg zC8 (zAg zJg (zAg zAp (zAg zBs (zA1 3) zA6) (zEy (ix_D hu) (zA1 0) zA6)) zA6) (zA1 1)))))))
noncomputable abbrev zBx:Stmt:=top 10
theorem sc__law_row:zAr ["_law_cells_here","_law_mask"] ["_law_cells_here","_law_mask"] (zA7 zBx):=⟨rfl,rfl,rfl,by decide +kernel,rfl,by decide +kernel,by decide +kernel⟩
theorem zI7 {f:Addr}{fd:FuncData}(F:Fun K "_law_row" "_law_row" zBx f fd) (T:Txt K mg):FnOk P w K mg base CX0 1 f fd ["_law_cells_here","_law_mask"] (spOf K XE0 DP.zBd):=by
 refine fn_d (k:=0) (b:=DP.zFq) F sc__law_row rfl rfl fun cdv A outer s H E hr=>?_
 have hu:=zDs hr
 have hu64:=hr.units
 have hu1:=hr.units0
 have nd:=sc__law_row.nd
 exact(zA8 (zAu (zNc zB8 rfl T.b_tuple u2 (zA2 (zDb (zEx rfl (CompScope.mk' (sc:=zA7 zBx) (N:=["_law_cells_here","_law_mask"]) (own:=["_law_k","_law_cell_here"]) (fre:=["_law_mask"]) (ix:=[1]) rfl rfl (by decide +kernel)) (zTe false rfl T.b_enumerate (zA1 0)) (fun cl C s0 H0 fp=>(zQj rfl (zEi (zAq (j:=0) (show List.Nodup n_0 by decide +kernel) rfl (Or.inl rfl) (Or.inr rfl)) (zEi (zAq (j:=1) (show List.Nodup n_0 by decide +kernel) rfl (Or.inl rfl) (Or.inr rfl)) zN5)))) (fun cl C s0 H0 fp=>(zIl (zB0 (zDa hu64) (zAg zMc (zAg zS6 (zA1 2) (zA1 0)) zA6) zA6 (nomark _)))) (fun cl C s0 H0 fp=>(zA1 1)))) zA3))))
noncomputable abbrev zAx:Stmt:=top 11
theorem sc__law_least:zAr n_1 ["_law_rows_here"] (zA7 zAx):=⟨rfl,rfl,rfl,by decide +kernel,rfl,by decide +kernel,by decide +kernel⟩
theorem zG4 {f:Addr}{fd:FuncData}(F:Fun K "_law_least" "_law_least" zAx f fd) (T:Txt K mg):FnOk P w K mg base CX0 1 f fd ["_law_rows_here"] (spOf K XE0 DP.zAn):=by
 refine fn_d (k:=0) (b:=DP.zE6) F sc__law_least rfl rfl fun cdv A outer s H E hr=>?_
 have hu:=zDs hr
 have hu64:=hr.units
 have hu1:=hr.units0
 have nd:=sc__law_least.nd
 exact(zA4 (zA9 (j:=1) nd rfl (by first|exact Or.inl rfl|exact Or.inr rfl) (zDb (zVz rfl hu64 (zA1 0) rfl T.b_sorted rfl T.b_set)))
   (zA4 (zA9 (j:=2) nd rfl (by first|exact Or.inl rfl|exact Or.inr rfl) (zE3 (zCu zA3)))
   (zA4 (zCc vF rfl (zD7 (zA1 1)) (zAq (j:=3) nd rfl (by first|exact Or.inl rfl|exact Or.inr rfl)) (zA8 (zCt (zB0 (zDa hu64) (zDb (zEx rfl (CompScope.mk' (sc:=zA7 zAx) (N:=n_1) (own:=["_law_one"]) (fre:=["_law_row_here"]) (ix:=[3]) rfl rfl (by decide +kernel)) (zD7 (zA1 1)) (fun cl C s0 H0 fp=>(zAq (j:=0) (show List.Nodup (["_law_one","_law_row_here"]:List Str) by decide +kernel) rfl (Or.inl rfl) (Or.inr rfl))) (fun cl C s0 H0 fp=>(zIl (dt_w (zN3 (zB0 (zG0 hu64) (zA1 0) (zA1 1) (nomark _)) (zIj (zB0 (zDa hu64) (zDb (zEx rfl (CompScope.mk' (sc:=(zJb _ (zA7 zAx))) (N:=["_law_one","_law_row_here"]) (own:=["_law_cell_here"]) (fre:=["_law_row_here"]) (ix:=[1]) rfl rfl (by decide +kernel)) (zD7 (zA1 0)) (fun cl C s0 H0 fp=>(zAq (j:=0) (show List.Nodup (["_law_cell_here","_law_row_here"]:List Str) by decide +kernel) rfl (Or.inl rfl) (Or.inr rfl))) (fun cl C s0 H0 fp=>(zIl (zB0 (zFf hu64) (zA1 0) (zA1 1) (by with_unfolding_all rfl)))) (fun cl C s0 H0 fp=>(zA1 0)))) (zDb (zCu zA3)) (nomark _))))))) (fun cl C s0 H0 fp=>(zA1 0)))) (zDb (zCu zA3)) (nomark _)) (zA8 (zD2 (zKp uL uM uN zBb (.inr (.inl rfl)) (zA1 2) (zA2 (zA1 3) zA3)))) zBu)))
   (zA8 (zAu (zNc zB8 rfl T.b_tuple u2 (zA2 (zA1 2) zA3)))))))
noncomputable abbrev zBo:Stmt:=top 4
theorem sc_least_rows:zAr n_9 ["rows"] (zA7 zBo):=⟨rfl,rfl,rfl,by decide +kernel,rfl,by decide +kernel,by decide +kernel⟩
theorem zG1 {f:Addr}{fd:FuncData}(F:Fun K "least_rows" "least_rows" zBo f fd) (T:Txt K mg) (C_bits_of:zHz P w K mg base) (C_mask_of:zHy P w K mg base) (C_has_within:zE8 P w K mg base):FnOk P w K mg base CX0 2 f fd ["rows"] (spOf K XE0 DP.zAe):=by
 refine fn_d (k:=1) (b:=DP.zE4) F sc_least_rows rfl rfl fun cdv A outer s H E hr=>?_
 have hu:=zDs hr
 have hu64:=hr.units
 have hu1:=hr.units0
 have nd:=sc_least_rows.nd
 exact(zA4 (zA9 (j:=1) nd rfl (by first|exact Or.inl rfl|exact Or.inr rfl) (zAh C_bits_of (hr.mono (by decide)) rfl (zA2 (zA1 0) zA3)))
   (zA4 (zA9 (j:=2) nd rfl (by first|exact Or.inl rfl|exact Or.inr rfl) (zE3 (zCu zA3)))
   (zA4 (zA9 (j:=3) nd rfl (by first|exact Or.inl rfl|exact Or.inr rfl) (zE3 (zCu zA3)))
   (zA4 (zCc vF rfl (zD7 (zDb (zPk (zA1 0) rfl T.b_sorted rfl T.b_len))) (zAq (j:=4) nd rfl (by first|exact Or.inl rfl|exact Or.inr rfl)) (zA4 (zA9 (j:=5) nd rfl (by first|exact Or.inl rfl|exact Or.inr rfl) (zAh C_mask_of (hr.mono (by decide)) rfl (zA2 (zA1 4) (zA2 (zA1 1) zA3))))
   (zA8 (zCt (zVw (zVv (zAh C_has_within (hr.mono (by decide)) rfl (zA2 (zA1 5) (zA2 (zA1 2) zA3))))) (zA4 (zD2 (zKp uL uM uN zBb (.inr (.inl rfl)) (zA1 2) (zA2 (zA1 5) zA3)))
   (zA8 (zD2 (zKp uL uM uN zBb (.inr (.inl rfl)) (zA1 3) (zA2 (zA1 4) zA3))))) zBu))))
   (zA8 (zAu (zNc zB8 rfl T.b_tuple u2 (zA2 (zDb (zW0 (zDp hu64) rfl T.b_sorted u9 (zA2 (zA1 3) zA3))) zA3))))))))
noncomputable abbrev zC7:Stmt:=top 8
theorem sc__law_cell:zAr ["_law_feed_here","_law_far"] ["_law_feed_here"] (zA7 zC7):=⟨rfl,rfl,rfl,by decide +kernel,rfl,by decide +kernel,by decide +kernel⟩
theorem zH6 {f:Addr}{fd:FuncData}(F:Fun K "_law_cell" "_law_cell" zC7 f fd) (T:Txt K mg) (C__law_take:zCh P w K mg base):FnOk P w K mg base CX0 2 f fd ["_law_feed_here"] (spOf K XE0 DP.zB2):=by
 refine fn_d (k:=1) (b:=DP.zCf) F sc__law_cell rfl rfl fun cdv A outer s H E hr=>?_
 have hu:=zDs hr
 have hu64:=hr.units
 have hu1:=hr.units0
 have nd:=sc__law_cell.nd
 exact(zA4 (zA9 (j:=1) nd rfl (by first|exact Or.inl rfl|exact Or.inr rfl) (zEy (ix_D hu) (zDb (zCu (zA2 zA6 (zA2 zA6 (zA2 zA6 (zA2 zA6 zA3)))))) (zAh C__law_take (hr.mono (by decide)) rfl (zA2 (zA1 0) (zA2 zA6 zA3)))))
   (zA8 (zAu (zNb (zA2 (zAg zEq (zAh C__law_take (hr.mono (by decide)) rfl (zA2 (zA1 0) (zA2 (zAg zAp (zAg zBs zA6 (zA1 1)) zA6) zA3))) (zA1 1)) (zA2 (zAg zEq (zAh C__law_take (hr.mono (by decide)) rfl (zA2 (zA1 0) (zA2 (zAg zAp (zAg zBs zA6 (zA1 1)) zA6) zA3))) (zA1 1)) zA3))))))
noncomputable abbrev zAw:Stmt:=top 12
theorem sc__law_plain:zAr n_2 n_4 (zA7 zAw):=⟨rfl,rfl,rfl,by decide +kernel,rfl,by decide +kernel,by decide +kernel⟩
theorem zG3 {f:Addr}{fd:FuncData}(F:Fun K "_law_plain" "_law_plain" zAw f fd) (T:Txt K mg) (C__law_least:zCw P w K mg base) (C__law_take:zCh P w K mg base) (C__law_row:zDw P w K mg base):FnOk P w K mg base CX0 2 f fd n_4 (spOf K XE0 DP.zE2):=by
 refine fn_d (k:=1) (b:=DP.zE5) F sc__law_plain rfl rfl fun cdv A outer s H E hr=>?_
 have hu:=zDs hr
 have hu64:=hr.units
 have hu1:=hr.units0
 have nd:=sc__law_plain.nd
 exact(zA4 (zPi (j:=3) nd rfl (by first|exact Or.inl rfl|exact Or.inr rfl) rfl (CompScope.mk' (sc:=zA7 zAw) (N:=n_2) (own:=["_law_k"]) (fre:=["_law_feed_here","_law_cells_here"]) (ix:=[0,1]) rfl rfl (by decide +kernel)) (zDm rfl T.b_range (zA2 (zAg zAp zA6 (zAh C__law_take (hr.mono (by decide)) rfl (zA2 (zA1 0) (zA2 (zA1 2) zA3)))) zA3)) (fun cl C s0 H0 fp=>(zAq (j:=0) (show List.Nodup n_3 by decide +kernel) rfl (Or.inl rfl) (Or.inr rfl))) (fun cl C s0 H0 fp=>zIm) (fun cl C s0 H0 fp=>(zAg zAp zA6 (zAh C__law_take (hr.mono (by decide)) rfl (zA2 (zA1 1) (zA2 (zAg zEq (zAg zM9 zA6 (zCk zAm rfl T.b_len vo (zA2 (zA1 2) zA3))) zA6) zA3))))))
   (zA8 (zAu (zAh C__law_least (hr.mono (by decide)) rfl (zA2 (zDb (zEx rfl (CompScope.mk' (sc:=zA7 zAw) (N:=n_2) (own:=["_law_mask"]) (fre:=["_law_cells_here"]) (ix:=[1]) rfl rfl (by decide +kernel)) (zD7 (zA1 3)) (fun cl C s0 H0 fp=>(zAq (j:=0) (show List.Nodup (["_law_mask","_law_cells_here"]:List Str) by decide +kernel) rfl (Or.inl rfl) (Or.inr rfl))) (fun cl C s0 H0 fp=>zIm) (fun cl C s0 H0 fp=>(zAh C__law_row (hr.mono (by decide)) rfl (zA2 (zA1 1) (zA2 (zA1 0) zA3)))))) zA3)))))
noncomputable abbrev zBp:Stmt:=top 9
theorem sc__law_cells:zAr n_10 ["_law_feed_here","_law_many"] (zA7 zBp):=⟨rfl,rfl,rfl,by decide +kernel,rfl,by decide +kernel,by decide +kernel⟩
theorem zG5 {f:Addr}{fd:FuncData}(F:Fun K "_law_cells" "_law_cells" zBp f fd) (T:Txt K mg) (C__law_cell:zF6 P w K mg base):FnOk P w K mg base CX0 3 f fd ["_law_feed_here","_law_many"] (spOf K XE0 DP.zAy):=by
 refine fn_d (k:=2) (b:=DP.zCv) F sc__law_cells rfl rfl fun cdv A outer s H E hr=>?_
 have hu:=zDs hr
 have hu64:=hr.units
 have hu1:=hr.units0
 have nd:=sc__law_cells.nd
 exact(zA4 (zA9 (j:=2) nd rfl (by first|exact Or.inl rfl|exact Or.inr rfl) (zE3 (zCu zA3)))
   (zA4 (zCc vF rfl (zDm rfl T.b_range (zA2 (zA1 1) zA3)) (zAq (j:=3) nd rfl (by first|exact Or.inl rfl|exact Or.inr rfl)) (zA4 (zTb (zAh C__law_cell (hr.mono (by decide)) rfl (zA2 (zA1 0) zA3)) (zQj rfl (zEi (zAq (j:=4) nd rfl (by first|exact Or.inl rfl|exact Or.inr rfl)) (zEi (zAq (j:=5) nd rfl (by first|exact Or.inl rfl|exact Or.inr rfl)) zN5))))
   (zA4 (zN4 vF (zB0 (zSa hu64) (zNb (zA2 (zA1 4) (zA2 (zA1 5) zA3))) (zA1 2) (by with_unfolding_all rfl)) (zA8 (zA9 (j:=4) nd rfl (by first|exact Or.inl rfl|exact Or.inr rfl) (zAg zEq (zAg zC8 (zAg zAp (zA1 4) zA6) zA6) zA6))))
   (zA8 (zD2 (zKp uL uM uN zBb (.inr (.inl rfl)) (zA1 2) (zA2 (zNb (zA2 (zA1 4) (zA2 (zA1 5) zA3))) zA3)))))))
   (zA8 (zAu (zDb (zW0 (zDp hu64) rfl T.b_sorted u9 (zA2 (zA1 2) zA3)))))))
noncomputable abbrev zC5:Stmt:=top 13
theorem sc__law_rows:zAr n_11 ["_law_feed_here"] (zA7 zC5):=⟨rfl,rfl,rfl,by decide +kernel,rfl,by decide +kernel,by decide +kernel⟩
theorem zH4 {f:Addr}{fd:FuncData}(F:Fun K "_law_rows" "_law_rows" zC5 f fd) (T:Txt K mg) (C__law_cells:zE9 P w K mg base) (C__law_take:zCh P w K mg base) (C__law_row:zDw P w K mg base):FnOk P w K mg base CX0 4 f fd ["_law_feed_here"] (spOf K XE0 DP.zBk):=by
 refine fn_d (k:=3) (b:=DP.zDc) F sc__law_rows rfl rfl fun cdv A outer s H E hr=>?_
 have hu:=zDs hr
 have hu64:=hr.units
 have hu1:=hr.units0
 have nd:=sc__law_rows.nd
 exact(zA4 (zA9 (j:=1) nd rfl (by first|exact Or.inl rfl|exact Or.inr rfl) (zAh C__law_cells (hr.mono (by decide)) rfl (zA2 (zA1 0) (zA2 (zAg zAp zA6 (zAh C__law_take (hr.mono (by decide)) rfl (zA2 (zA1 0) (zA2 zA6 zA3)))) zA3))))
   (zA4 (zA9 (j:=2) nd rfl (by first|exact Or.inl rfl|exact Or.inr rfl) (zE3 (zCu zA3)))
   (zA4 (zCc vF rfl (zDm rfl T.b_range (zA2 (zAg zAp zA6 (zAh C__law_take (hr.mono (by decide)) rfl (zA2 (zA1 0) (zA2 zA6 zA3)))) zA3)) (zAq (j:=3) nd rfl (by first|exact Or.inl rfl|exact Or.inr rfl)) (zA4 (zA9 (j:=4) nd rfl (by first|exact Or.inl rfl|exact Or.inr rfl) (zAh C__law_take (hr.mono (by decide)) rfl (zA2 (zA1 0) (zA2 zA6 zA3))))
   (zA4 (zA9 (j:=5) nd rfl (by first|exact Or.inl rfl|exact Or.inr rfl) (zAh C__law_row (hr.mono (by decide)) rfl (zA2 (zA1 1) (zA2 (zAg zAp zA6 (zAh C__law_take (hr.mono (by decide)) rfl (zA2 (zA1 0) (zA2 (zAg zEq (zAg zM9 zA6 (zCk zAm rfl T.b_len vo (zA2 (zA1 1) zA3))) zA6) zA3)))) zA3))))
   (zA4 (zCt (dt_w (zN3 (zB0 (zDa hu64) (zA1 4) zA6 (nomark _)) (zIj (zB0 zJf (zCk zAm rfl T.b_len vo (zA2 (zA1 2) zA3)) zA6 (nomark _))))) (zA8 (zA9 (j:=5) nd rfl (by first|exact Or.inl rfl|exact Or.inr rfl) (zEy (ix_D hu) (zA1 2) (zAh C__law_take (hr.mono (by decide)) rfl (zA2 (zA1 0) (zA2 (zCk zAm rfl T.b_len vo (zA2 (zA1 2) zA3)) zA3)))))) zBu)
   (zA4 (zCt (zB0 (zDa hu64) (zA1 4) zA6 (nomark _)) (zA8 (zA9 (j:=5) nd rfl (by first|exact Or.inl rfl|exact Or.inr rfl) (zW1 sl_D (zA1 5) (zQh (zAh C__law_take (hr.mono (by decide)) rfl (zA2 (zA1 0) (zA2 (zCk zAm rfl T.b_len vo (zA2 (zA1 5) zA3)) zA3)))) zVx))) zBu)
   (zA4 (zCt (dt_w (zN3 (zB0 (zDa hu64) (zA1 4) zA6 (nomark _)) (zIj (zB0 zJf (zCk zAm rfl T.b_len vo (zA2 (zA1 2) zA3)) zA6 (nomark _))))) (zA8 (zA9 (j:=5) nd rfl (by first|exact Or.inl rfl|exact Or.inr rfl) (zNc zB8 rfl T.b_tuple u2 (zA2 (zDb (zVz rfl hu64 (zAg zAp (zA1 5) (zEy (ix_D hu) (zA1 2) (zAh C__law_take (hr.mono (by decide)) rfl (zA2 (zA1 0) (zA2 (zCk zAm rfl T.b_len vo (zA2 (zA1 2) zA3)) zA3))))) rfl T.b_sorted rfl T.b_set)) zA3)))) zBu)
   (zA8 (zD2 (zKp uL uM uN zBb (.inr (.inl rfl)) (zA1 2) (zA2 (zW1 sl_D (zA1 5) zVx (zQh zA6)) zA3))))))))))
   (zA8 (zAu (zA1 2))))))
noncomputable abbrev zI5:Stmt:=top 14
theorem sc_law:zAr n_12 ["_law_script"] (zA7 zI5):=⟨rfl,rfl,rfl,by decide +kernel,rfl,by decide +kernel,by decide +kernel⟩
theorem zV8 {f:Addr}{fd:FuncData}(F:Fun K "law" "law" zI5 f fd) (T:Txt K mg) (C__law_least:zCw P w K mg base) (C__law_rows:zF4 P w K mg base) (C__law_feed:zF5 P w K mg base) (C_least_rows:zE7 P w K mg base):FnOk P w K mg base CX0 5 f fd ["_law_script"] (spOf K XE0 DP.zKl):=by
 refine fn_d (k:=4) (b:=DP.zTm) F sc_law rfl rfl fun cdv A outer s H E hr=>?_
 have hu:=zDs hr
 have hu64:=hr.units
 have hu1:=hr.units0
 have nd:=sc_law.nd
 exact(zA4 (zA9 (j:=1) nd rfl (by first|exact Or.inl rfl|exact Or.inr rfl) (zE3 (zCu (zA2 (zDb (zCu zA3)) zA3))))
   (zA4 (zCc vF rfl (zDm rfl T.b_range (zA2 (zCk (zKv rfl) rfl T.b_max PyProof.Rows.boot_max (zA2 zA6 (zA2 (zCk (zKu rfl) rfl T.b_min PyProof.Rows.boot_min (zA2 zA6 (zA2 (zCk zAm rfl T.b_len vo (zA2 (zA1 0) zA3)) zA3))) zA3))) zA3)) (zAq (j:=2) nd rfl (by first|exact Or.inl rfl|exact Or.inr rfl)) (zA8 (zD2 (zKp uL uM uN zBb (.inr (.inl rfl)) (zA1 1) (zA2 (zAh C__law_rows (hr.mono (by decide)) rfl (zA2 (zAh C__law_feed (hr.mono (by decide)) rfl (zA2 (zA1 0) (zA2 (zA1 2) zA3))) zA3)) zA3)))))
   (zA4 (zCc vF rfl (zD7 (zAg zAp (zA1 1) (zW2 (zA1 1) (zXb zQs zA6)))) (zAq (j:=3) nd rfl (by first|exact Or.inl rfl|exact Or.inr rfl)) (zA4 (zA9 (j:=4) nd rfl (by first|exact Or.inl rfl|exact Or.inr rfl) (zAh C__law_least (hr.mono (by decide)) rfl (zA2 (zA1 3) zA3)))
   (zA4 (zA9 (j:=5) nd rfl (by first|exact Or.inl rfl|exact Or.inr rfl) (zDb (zX9 zIq rfl T.b_list PyProof.Rows.boot_list (zA2 (zA1 3) zA3))))
   (zA8 (zCt (dt_w (zVu (zB0 (zG0 hu64) (zCk (zD4 hu64) rfl T.b_repr yb (zA2 (zAh C_least_rows (hr.mono (by decide)) rfl (zA2 (zA1 5) zA3)) zA3)) (zCk (zD4 hu64) rfl T.b_repr yb (zA2 (zA1 4) zA3)) (nomark _)) (zVu (zB0 (zG0 hu64) (zA1 5) (zA1 3) (nomark _)) (zVt (zB0 (zG0 hu64) (zCk (zD4 hu64) rfl T.b_repr yb (zA2 (zAh C_least_rows (hr.mono (by decide)) rfl (zA2 (zNc zB8 rfl T.b_tuple u2 (zA2 (zA1 3) zA3)) zA3)) zA3)) (zCk (zD4 hu64) rfl T.b_repr yb (zA2 (zA1 4) zA3)) (nomark _)))))) (zA8 (zAu zW4)) zBu)))))
   (zA8 (zAu zW4)))))
end
noncomputable abbrev FO (x:Str) (st:Stmt) (oc:Value) (od:Option Addr) (kV dc pm:Value) (an:Option Addr) (cd ct:Value) (sl:Array (Option Value)):Option Obj:=some ⟨oc,od,.func (PySem.W.fnOf x x (zDu st) (zCd st) (zA7 st) .none kV dc pm an cd ct),sl⟩
theorem all_mk {l:PySem.W.OpenLaw}{w:World}{K:PySem.W.Frag}{h:Heap}{mg:Str->Option Value}{fa f0 f1 f2 f3 f4 f5 f6 f7 f8 f9 f10 f11 f12:Addr}(X:K.In h) (G:h.Ns mainGlobals mg) (hfa:mg "law"=some (.ref fa))
  {od0 an0 od1 an1 od2 an2 od3 an3 od4 an4 od5 an5 od6 an6 od7 an7 od8 an8 od9 an9 od10 an10 od11 an11 od12 an12:Option Addr}{sl0 sl1 sl2 sl3 sl4 sl5 sl6 sl7 sl8 sl9 sl10 sl11 sl12:Array (Option Value)}{oc0 kV0 dc0 pm0 cd0 ct0 oc1 kV1 dc1 pm1 cd1 ct1 oc2 kV2 dc2 pm2 cd2 ct2 oc3 kV3 dc3 pm3 cd3 ct3 oc4 kV4 dc4 pm4 cd4 ct4 oc5 kV5 dc5 pm5 cd5 ct5 oc6 kV6 dc6 pm6 cd6 ct6 oc7 kV7 dc7 pm7 cd7 ct7 oc8 kV8 dc8 pm8 cd8 ct8 oc9 kV9 dc9 pm9 cd9 ct9 oc10 kV10 dc10 pm10 cd10 ct10 oc11 kV11 dc11 pm11 cd11 ct11 oc12 kV12 dc12 pm12 cd12 ct12:Value}
  (a0:PySem.W.nsIn K mainGlobals "bits_of"=some (some (.ref f0))) (l0:K.lookup f0=FO "bits_of" zDf oc0 od0 kV0 dc0 pm0 an0 cd0 ct0 sl0) (c0:PySem.W.codeIn K cd0 "bits_of"=true) (k0:PySem.W.keepIn K (.ref f0)=true)
  (a1:PySem.W.nsIn K mainGlobals "mask_of"=some (some (.ref f1))) (l1:K.lookup f1=FO "mask_of" zDe oc1 od1 kV1 dc1 pm1 an1 cd1 ct1 sl1) (c1:PySem.W.codeIn K cd1 "mask_of"=true) (k1:PySem.W.keepIn K (.ref f1)=true)
  (a2:PySem.W.nsIn K mainGlobals "has_within"=some (some (.ref f2))) (l2:K.lookup f2=FO "has_within" zB5 oc2 od2 kV2 dc2 pm2 an2 cd2 ct2 sl2) (c2:PySem.W.codeIn K cd2 "has_within"=true) (k2:PySem.W.keepIn K (.ref f2)=true)
  (a3:PySem.W.nsIn K mainGlobals "_law_feed"=some (some (.ref f3))) (l3:K.lookup f3=FO "_law_feed" zC6 oc3 od3 kV3 dc3 pm3 an3 cd3 ct3 sl3) (c3:PySem.W.codeIn K cd3 "_law_feed"=true) (k3:PySem.W.keepIn K (.ref f3)=true)
  (a4:PySem.W.nsIn K mainGlobals "_law_take"=some (some (.ref f4))) (l4:K.lookup f4=FO "_law_take" zC4 oc4 od4 kV4 dc4 pm4 an4 cd4 ct4 sl4) (c4:PySem.W.codeIn K cd4 "_law_take"=true) (k4:PySem.W.keepIn K (.ref f4)=true)
  (a5:PySem.W.nsIn K mainGlobals "_law_row"=some (some (.ref f5))) (l5:K.lookup f5=FO "_law_row" zBx oc5 od5 kV5 dc5 pm5 an5 cd5 ct5 sl5) (c5:PySem.W.codeIn K cd5 "_law_row"=true) (k5:PySem.W.keepIn K (.ref f5)=true)
  (a6:PySem.W.nsIn K mainGlobals "_law_least"=some (some (.ref f6))) (l6:K.lookup f6=FO "_law_least" zAx oc6 od6 kV6 dc6 pm6 an6 cd6 ct6 sl6) (c6:PySem.W.codeIn K cd6 "_law_least"=true) (k6:PySem.W.keepIn K (.ref f6)=true)
  (a7:PySem.W.nsIn K mainGlobals "least_rows"=some (some (.ref f7))) (l7:K.lookup f7=FO "least_rows" zBo oc7 od7 kV7 dc7 pm7 an7 cd7 ct7 sl7) (c7:PySem.W.codeIn K cd7 "least_rows"=true) (k7:PySem.W.keepIn K (.ref f7)=true)
  (a8:PySem.W.nsIn K mainGlobals "_law_cell"=some (some (.ref f8))) (l8:K.lookup f8=FO "_law_cell" zC7 oc8 od8 kV8 dc8 pm8 an8 cd8 ct8 sl8) (c8:PySem.W.codeIn K cd8 "_law_cell"=true) (k8:PySem.W.keepIn K (.ref f8)=true)
  (a9:PySem.W.nsIn K mainGlobals "_law_plain"=some (some (.ref f9))) (l9:K.lookup f9=FO "_law_plain" zAw oc9 od9 kV9 dc9 pm9 an9 cd9 ct9 sl9) (c9:PySem.W.codeIn K cd9 "_law_plain"=true) (k9:PySem.W.keepIn K (.ref f9)=true)
  (a10:PySem.W.nsIn K mainGlobals "_law_cells"=some (some (.ref f10))) (l10:K.lookup f10=FO "_law_cells" zBp oc10 od10 kV10 dc10 pm10 an10 cd10 ct10 sl10) (c10:PySem.W.codeIn K cd10 "_law_cells"=true) (k10:PySem.W.keepIn K (.ref f10)=true)
  (a11:PySem.W.nsIn K mainGlobals "_law_rows"=some (some (.ref f11))) (l11:K.lookup f11=FO "_law_rows" zC5 oc11 od11 kV11 dc11 pm11 an11 cd11 ct11 sl11) (c11:PySem.W.codeIn K cd11 "_law_rows"=true) (k11:PySem.W.keepIn K (.ref f11)=true)
  (a12:PySem.W.nsIn K mainGlobals "law"=some (some (.ref f12))) (l12:K.lookup f12=FO "law" zI5 oc12 od12 kV12 dc12 pm12 an12 cd12 ct12 sl12) (c12:PySem.W.codeIn K cd12 "law"=true) (k12:PySem.W.keepIn K (.ref f12)=true)
  (z0:PySem.W.nsIn K mainGlobals "any"=some none)
  (z1:PySem.W.nsIn K mainGlobals "enumerate"=some none)
  (z2:PySem.W.nsIn K mainGlobals "len"=some none)
  (z3:PySem.W.nsIn K mainGlobals "list"=some none)
  (z4:PySem.W.nsIn K mainGlobals "max"=some none)
  (z5:PySem.W.nsIn K mainGlobals "min"=some none)
  (z6:PySem.W.nsIn K mainGlobals "range"=some none)
  (z7:PySem.W.nsIn K mainGlobals "repr"=some none)
  (z8:PySem.W.nsIn K mainGlobals "set"=some none)
  (z9:PySem.W.nsIn K mainGlobals "sorted"=some none)
  (z10:PySem.W.nsIn K mainGlobals "tuple"=some none)
  : ∃fd:FuncData,(∀(s:Shared) (v:Value),BindsTo s fd ⟨[v],[]⟩ [("_law_script",v)])/\∀base:Heap,K.In base->base.Ns mainGlobals mg->FnOk l.prog w K mg base CX0 5 fa fd ["_law_script"] (spOf K XE0 DP.zKl):=by
 have e:=hfa.symm.trans (vj X G a12)
 cases e
 have T:Txt K mg:=⟨vw X G z0,vw X G z1,vw X G z2,vw X G z3,vw X G z4,vw X G z5,vw X G z6,vw X G z7,vw X G z8,vw X G z9,vw X G z10⟩
 have F0:=zBz (st:=zDf) l0 c0 k0
 have F1:=zBz (st:=zDe) l1 c1 k1
 have F2:=zBz (st:=zB5) l2 c2 k2
 have F3:=zBz (st:=zC6) l3 c3 k3
 have F4:=zBz (st:=zC4) l4 c4 k4
 have F5:=zBz (st:=zBx) l5 c5 k5
 have F6:=zBz (st:=zAx) l6 c6 k6
 have F7:=zBz (st:=zBo) l7 c7 k7
 have F8:=zBz (st:=zC7) l8 c8 k8
 have F9:=zBz (st:=zAw) l9 c9 k9
 have F10:=zBz (st:=zBp) l10 c10 k10
 have F11:=zBz (st:=zC5) l11 c11 k11
 have F12:=zBz (st:=zI5) l12 c12 k12
 refine⟨PySem.W.fnOf "law" "law" (zDu zI5) (zCd zI5) (zA7 zI5) .none kV12 dc12 pm12 an12 cd12 ct12,fun s v=>.of_eq rfl,fun base _ _=>?_⟩
 have C_bits_of:zHz l.prog w K mg base:=⟨_,_,zKc F0 T,vj X G a0,F0.kp,F0.binds (ps:=["rows"]) fun _ _ _ _ _ _ us hl=>match us,hl with | [_],_=>rfl⟩
 have C_mask_of:zHy l.prog w K mg base:=⟨_,_,zKb F1 T,vj X G a1,F1.kp,F1.binds (ps:=["row","bits"]) fun _ _ _ _ _ _ us hl=>match us,hl with | [_,_],_=>rfl⟩
 have C_has_within:zE8 l.prog w K mg base:=⟨_,_,zG2 F2 T,vj X G a2,F2.kp,F2.binds (ps:=["mask","others"]) fun _ _ _ _ _ _ us hl=>match us,hl with | [_,_],_=>rfl⟩
 have C__law_feed:zF5 l.prog w K mg base:=⟨_,_,zH5 F3 T,vj X G a3,F3.kp,F3.binds (ps:=["_law_script","_law_k"]) fun _ _ _ _ _ _ us hl=>match us,hl with | [_,_],_=>rfl⟩
 have C__law_take:zCh l.prog w K mg base:=⟨_,_,zH3 F4 T,vj X G a4,F4.kp,F4.binds (ps:=["_law_feed_here","_law_many"]) fun _ _ _ _ _ _ us hl=>match us,hl with | [_,_],_=>rfl⟩
 have C__law_row:zDw l.prog w K mg base:=⟨_,_,zI7 F5 T,vj X G a5,F5.kp,F5.binds (ps:=["_law_cells_here","_law_mask"]) fun _ _ _ _ _ _ us hl=>match us,hl with | [_,_],_=>rfl⟩
 have C__law_least:zCw l.prog w K mg base:=⟨_,_,zG4 F6 T,vj X G a6,F6.kp,F6.binds (ps:=["_law_rows_here"]) fun _ _ _ _ _ _ us hl=>match us,hl with | [_],_=>rfl⟩
 have C_least_rows:zE7 l.prog w K mg base:=⟨_,_,zG1 F7 T C_bits_of C_mask_of C_has_within,vj X G a7,F7.kp,F7.binds (ps:=["rows"]) fun _ _ _ _ _ _ us hl=>match us,hl with | [_],_=>rfl⟩
 have C__law_cell:zF6 l.prog w K mg base:=⟨_,_,zH6 F8 T C__law_take,vj X G a8,F8.kp,F8.binds (ps:=["_law_feed_here"]) fun _ _ _ _ _ _ us hl=>match us,hl with | [_],_=>rfl⟩
 have C__law_plain:zI0 l.prog w K mg base:=⟨_,_,zG3 F9 T C__law_least C__law_take C__law_row,vj X G a9,F9.kp,F9.binds (ps:=n_4) fun _ _ _ _ _ _ us hl=>match us,hl with | [_,_,_],_=>rfl⟩
 have C__law_cells:zE9 l.prog w K mg base:=⟨_,_,zG5 F10 T C__law_cell,vj X G a10,F10.kp,F10.binds (ps:=["_law_feed_here","_law_many"]) fun _ _ _ _ _ _ us hl=>match us,hl with | [_,_],_=>rfl⟩
 have C__law_rows:zF4 l.prog w K mg base:=⟨_,_,zH4 F11 T C__law_cells C__law_take C__law_row,vj X G a11,F11.kp,F11.binds (ps:=["_law_feed_here"]) fun _ _ _ _ _ _ us hl=>match us,hl with | [_],_=>rfl⟩
 exact zV8 F12 T C__law_least C__law_rows C__law_feed C_least_rows
theorem walk {l:PySem.W.OpenLaw}{q:Program}{loose:List Str}{XP:(Str->Option Value)->Heap->Prop}{YP:World->Heap->Prop}{d:DefRec}{K:Params->PySem.W.Frag}(hn:l.most=some 63) (hdf:d.params.defaults=[])
  (hY:∀(w:World) (h:Heap),YP w h->(K w.params).In h)
  (F:∀(w:World) (mg:Str->Option Value) (fa:Addr) (h:Heap),(K w.params).In h->h.Ns mainGlobals mg->mg d.name=some (.ref fa)->
   ∃fd:FuncData,(∀(s:Shared) (u:Value),BindsTo s fd ⟨[u],[]⟩ [("_law_script",u)])/\∀base:Heap,(K w.params).In base->base.Ns mainGlobals mg->FnOk l.prog w (K w.params) mg base CX0 5 fa fd ["_law_script"] (spOf (K w.params) XE0 DP.zKl)):
  PySem.W.WalkO q loose XP YP l.row.toRowW d [] (fun f vs=>PySem.call f vs):=
 L2.walk_of (n:=63) (k:=5) (x:="_law_script") (CX:=fun _=>CX0) (sp:=fun w=>spOf (K w.params) XE0 DP.zKl) hn (by decide) hdf ⟨rfl,by decide,by decide⟩ hY F (fun _ _ a ns hl _ hS=>zLk (DP.law_ok ns hl) hS) fun _ _ _ _ _ z=>z
end Law
open PySem PySem.W PyProof.Rows
set_option maxRecDepth 100000 in
theorem PySem.Challenge.cw_healfloor_k31_least_rows_holds : PySem.Challenge.rw_healfloor_k31_least_rows.Holds := by
 w_on;o_law;k_head;(case hw=>w_witness2)
 k_fill
 refine Law.walk (l:=PySem.Challenge.rw_healfloor_k31_least_rows) rfl rfl (fun w h Y=>PySem.W.kIn_of Y) ?F
 case F=>
  intro w mg fa h KX G hmg
  refine' Law.all_mk KX G hmg ?_ ?_ ?_ ?_ ?_ ?_ ?_ ?_ ?_ ?_ ?_ ?_ ?_ ?_ ?_ ?_ ?_ ?_ ?_ ?_ ?_ ?_ ?_ ?_ ?_ ?_ ?_ ?_ ?_ ?_ ?_ ?_ ?_ ?_ ?_ ?_ ?_ ?_ ?_ ?_ ?_ ?_ ?_ ?_ ?_ ?_ ?_ ?_ ?_ ?_ ?_ ?_ ?_ ?_ ?_ ?_ ?_ ?_ ?_ ?_ ?_ ?_ ?_
  all_goals (try k_is)
#print axioms PySem.Challenge.cw_healfloor_k31_least_rows_holds
