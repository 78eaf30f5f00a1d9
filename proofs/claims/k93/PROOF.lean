import PyProof.Rows.All
import Wide.All
import OpenK.AllK
import Wide.FinOn
import Lean
import PyProof.EqAt
import PyProof.EqKinds
import PyProof.TupleCall
import PyProof.NeKinds
import PyProof.ZipIter
import KE.KSortTup
import PyProof.TupleKey
import PyProof.SetKind
import PyProof.IsRules
import PyProof.Rows.SetFrom
import PyProof.Rows.SortShell
import KE.KDictList
import KE.KDictSum
import PyProof.MinMaxWalk
import PyProof.Rows.CallKwBuiltin
import PyProof.TupleIter
import KE.KIntText
import PyProof.Rows.StrWeight2
import PyProof.Rows.StrNews
import PyProof.StrWalks
import PyProof.FString5
import PyProof.SliceStr2
import PyProof.FitsReplace
import PyProof.Rows.StrSplitCount
import PySem.Str
import PyProof.Rows.SortRuns
import PyProof.SetRoads
import PyProof.Draws
import PyProof.EnumStmt
import PyProof.Rows.EnumRows
import KE.KSortKey
import PyProof.ReprRoads
import PyProof.StrBlockL
import PyProof.Rows.StrNews2
import PyProof.CollectWalk
import PyProof.MeetsStr
import PyProof.StrOps2
import PyProof.StrLawsFirst
import PySem.Challenge.RW_healfloor_k93_papers_written_and_read
set_option bootstrap.genMatcherCode false
set_option genSizeOf false
set_option compiler.extract_closed false
local macro_rules|`(tactic|nofun)=>`(tactic|first|assumption|lia)
local macro_rules|`(tactic|trivial)=>`(tactic|first|exact Or.inl rfl|exact Or.inr rfl)
noncomputable abbrev xa:=@PySem.wpAny_bind
noncomputable abbrev xc:=@if_pos
noncomputable abbrev xf:=@PySem.wpAny_pure
noncomputable abbrev xg:=@if_neg
noncomputable abbrev xh:=@Nat.le_refl
noncomputable abbrev xi:=@List.mem_cons
noncomputable abbrev xj:=@PySem.Heap.lt_size
noncomputable abbrev xk:=@PySem.Heap.get?_push_of_some
noncomputable abbrev xl:=@decide_eq_true
noncomputable abbrev xm:=@List.length_map
noncomputable abbrev xn:=@Nat.le_trans
noncomputable abbrev xo:=@List.size_toArray
noncomputable abbrev xp:=@PySem.W.mg_of
noncomputable abbrev xq:=@decide_eq_false
noncomputable abbrev xr:=@Nat.ne_of_lt
noncomputable abbrev xt:=@List.not_mem_nil
noncomputable abbrev xu:=@or_false
noncomputable abbrev xv:=@Nat.lt_of_lt_of_le
noncomputable abbrev xw:=@List.map_cons
noncomputable abbrev xx:=@List.getElem?_eq_getElem
noncomputable abbrev xy:=@if_true
noncomputable abbrev xA:=@PySem.Heap.get?_push_size
noncomputable abbrev xB:=@Ne.symm
noncomputable abbrev xC:=@PySem.wpAny_field
noncomputable abbrev xD:=@Option.some.inj
noncomputable abbrev xE:=@List.length_cons
noncomputable abbrev xF:=@Bool.and_eq_true
noncomputable abbrev xG:=@List.mem_map
noncomputable abbrev xH:=@PySem.wpAny_holding
noncomputable abbrev xI:=@List.length_append
noncomputable abbrev xJ:=@List.mem_singleton
noncomputable abbrev xK:=@List.getElem?_eq_some_iff
noncomputable abbrev xM:=@List.map_map
noncomputable abbrev xN:=@List.mem_append_right
noncomputable abbrev xO:=@if_false
noncomputable abbrev xP:=@PySem.F.plainAttrs_str
noncomputable abbrev xQ:=@PySem.boot_len
noncomputable abbrev xR:=@List.getElem?_map
noncomputable abbrev xS:=@List.lookup_cons
noncomputable abbrev xT:=@List.mem_append
noncomputable abbrev xU:=@PyProof.Rows.boot_tuple
noncomputable abbrev xV:=@PySem.W.mg_none_of
noncomputable abbrev xW:=@PySem.wpAny_mono
noncomputable abbrev xX:=@Bool.false_eq_true
noncomputable abbrev xY:=@PySem.Heap.size_push
noncomputable abbrev xZ:=@List.length_zip
noncomputable abbrev x4:=@Nat.lt_irrefl
noncomputable abbrev x5:=@PySem.wpAny_newObj_type
noncomputable abbrev x6:=@Nat.ne_of_gt
noncomputable abbrev x8:=@PySem.wpAny_call_entry
noncomputable abbrev vc:=@List.mem_cons_self
noncomputable abbrev vd:=@PySem.W.kia_one
noncomputable abbrev ve:=@List.getElem?_append_right
noncomputable abbrev vf:=@PySem.wpAny_callSpecial?_slot
noncomputable abbrev vg:=@List.all_eq_true
noncomputable abbrev vh:=@PySem.wpAny_seqItems
noncomputable abbrev vk:=@List.length_range
noncomputable abbrev vm:=@Nat.le_of_ble_eq_true
noncomputable abbrev vn:=@List.mem_cons_of_mem
noncomputable abbrev vo:=@List.getElem?_append_left
noncomputable abbrev vp:=@PyProof.Rows.slot_tuple_getitem
noncomputable abbrev vq:=@Nat.le_add_right
noncomputable abbrev vt:=@List.length_take
noncomputable abbrev vv:=@List.mem_of_getElem?
noncomputable abbrev vw:=@Nat.mod_lt
noncomputable abbrev vx:=@PyProof.Rows.boot_isinstance
noncomputable abbrev vy:=@Nat.le_of_lt
noncomputable abbrev vz:=@PySem.wpAny_truthy_bool
noncomputable abbrev vA:=@PySem.wpAny_rule
noncomputable abbrev vB:=@List.map_nil
noncomputable abbrev vC:=@Nat.lt_of_le_of_lt
noncomputable abbrev vD:=@List.all_cons
noncomputable abbrev vE:=@PySem.F.slot_zip_next
noncomputable abbrev vF:=@PySem.F.slot_str_split
noncomputable abbrev vG:=@List.getElem?_eq_none
noncomputable abbrev vH:=@Int.emod_nonneg
noncomputable abbrev vI:=@Int.emod_lt_of_pos
noncomputable abbrev vJ:=@PyProof.Rows.boot_str
noncomputable abbrev vK:=@PySem.F.slot_str_join
noncomputable abbrev vL:=@PySem.F.type_str_join
noncomputable abbrev vM:=@List.mem_append_left
noncomputable abbrev vN:=@PySem.wpAny_standAt
noncomputable abbrev vO:=@PySem.wpAny_passesOwn
noncomputable abbrev vP:=@PySem.sizeLine_eq
noncomputable abbrev vQ:=@List.append_nil
noncomputable abbrev vR:=@List.nodup_cons
noncomputable abbrev vS:=@List.getElem?_take_of_lt
noncomputable abbrev vT:=@PySem.wpAny_setField_rec
noncomputable abbrev vU:=@List.map_append
noncomputable abbrev vV:=@PySem.PassesOwn.never
noncomputable abbrev vW:=@List.getElem?_set_self
noncomputable abbrev vX:=@List.getElem?_set_ne
noncomputable abbrev vY:=@PySem.mem_of_lookup
noncomputable abbrev vZ:=@List.find?_cons
noncomputable abbrev v3:=@PySem.Heap.get?_update_self
noncomputable abbrev v5:=@List.forIn_cons
noncomputable abbrev v7:=@List.getD_eq_getElem?_getD
noncomputable abbrev v8:=@List.take_of_length_le
noncomputable abbrev v9:=@List.cons_append
noncomputable abbrev ua:=@PyProof.Rows.boot_abs
noncomputable abbrev ub:=@PyProof.Rows.boot_int
noncomputable abbrev uc:=@Bool.false_ne_true
noncomputable abbrev ud:=@PyProof.Rows.callWith_type1
noncomputable abbrev ue:=@PySem.wpAny_Call_Name_kw
noncomputable abbrev uf:=@List.of_mem_zip
noncomputable abbrev ug:=@PySem.Heap.get?_update_other
noncomputable abbrev uh:=@Bool.not_eq_true
noncomputable abbrev ui:=@PySem.wpAny_pyIter_list
noncomputable abbrev uj:=@PySem.wpAny_isInstance
noncomputable abbrev uk:=@Option.map_some
noncomputable abbrev um:=@List.append_assoc
noncomputable abbrev uo:=@List.zip_cons_cons
noncomputable abbrev uq:=@List.drop_of_length_le
noncomputable abbrev ur:=@PySem.F.type_str_split
noncomputable abbrev uu:=@Array.length_toList
noncomputable abbrev uv:=@PySem.F.slot_tuple_iterator_next
noncomputable abbrev uw:=@Nat.pow_le_pow_right
noncomputable abbrev ux:=@List.length_reverse
noncomputable abbrev uy:=@PySem.F.plain_extend_loop
noncomputable abbrev uz:=@List.eq_nil_of_length_eq_zero
set_option linter.all false
set_option maxRecDepth 100000
set_option Elab.async false
set_option maxHeartbeats 8000000
namespace L2
open PySem PySem.Spec PyProof.Rows
noncomputable abbrev Key:=Sum Int Str
noncomputable def zN8:Key->Value->Bool
 | .inl k,v=>Value.isInt k v
 | .inr x,v=>Value.isStrOf x v
noncomputable def keyH (w:World):Key->Int
 | .inl k=>hashInt k
 | .inr x=>hashStr w x
theorem zBf:∀{k:Key}{v:Value},zN8 k v=true->(∃i t,k=Sum.inl i/\v=Value.int i t)\/(∃x t,k=Sum.inr x/\v=Value.str x t)
 | .inl i,v,h=>by
  obtain⟨t,e⟩:=Value.isInt_shape (k:=i) (v:=v) h
  exact .inl ⟨i,t,rfl,e⟩
 | .inr x,v,h=>by
  obtain⟨t,e⟩:=Value.isStrOf_shape (x:=x) (v:=v) h
  exact .inr ⟨x,t,rfl,e⟩
theorem zOu (i:Int) (t:Tok):zN8 (.inl i) (.int i t)=true:=by simp[zN8,Value.isInt]
theorem zOt (x:Str) (t:Tok):zN8 (.inr x) (.str x t)=true:=by simp[zN8,Value.isStrOf]
theorem zXa (a b:Int):decide ((Sum.inl a:Key)=Sum.inl b)=(a == b):=by
 by_cases e:a=b
 ·subst e;simp
 ·have h:¬ (Sum.inl a:Key)=Sum.inl b:=fun q=>e (Sum.inl.inj q)
  rw[xq h]
  exact(beq_eq_false_iff_ne.mpr e).symm
theorem zX7 (a b:Str):decide ((Sum.inr a:Key)=Sum.inr b)=decide (a=b):=by
 by_cases e:a=b
 ·subst e;simp
 ·have h:¬ (Sum.inr a:Key)=Sum.inr b:=fun q=>e (Sum.inr.inj q)
  rw[xq h,xq e]
theorem zX9 (a:Int) (b:Str):decide ((Sum.inl a:Key)=Sum.inr b)=false:=xq (fun q=>nomatch q)
theorem zX8 (a:Str) (b:Int):decide ((Sum.inr a:Key)=Sum.inl b)=false:=xq (fun q=>nomatch q)
noncomputable def zCi (prog:Program) (w:World):PySem.KeyKind prog w Key where
 is:=zN8
 hash:=keyH w
 inj:=fun v a b ha hb=>by
  rcases zBf ha with⟨i,t,rfl,rfl⟩|⟨x,t,rfl,rfl⟩
  ·rcases zBf hb with⟨j,u,rfl,e⟩|⟨y,u,rfl,e⟩
   ·injection e with e1 _;rw[e1]
   ·exact nomatch e
  ·rcases zBf hb with⟨j,u,rfl,e⟩|⟨y,u,rfl,e⟩
   ·exact nomatch e
   ·injection e with e1 _;rw[e1]
 byValue:=fun k v h=>by
  rcases zBf h with⟨i,t,rfl,rfl⟩|⟨x,t,rfl,rfl⟩ <;> rfl
 pyHash:=fun hv h=>by
  rcases zBf hv with⟨i,t,rfl,rfl⟩|⟨x,t,rfl,rfl⟩
  ·exact wpAny_pyHash_int h
  ·exact wpAny_pyHash_str h
 eqBool:=fun hu hv h=>by
  rcases zBf hu with⟨i,t,rfl,rfl⟩|⟨x,t,rfl,rfl⟩
  ·rcases zBf hv with⟨j,u,rfl,rfl⟩|⟨y,u,rfl,rfl⟩
   ·rw[zXa]at h;exact wpAny_eqBool_int h
   ·rw[zX9]at h;exact SeqAt.EqAt.int_str i t y u _ _ _ _ h
  ·rcases zBf hv with⟨j,u,rfl,rfl⟩|⟨y,u,rfl,rfl⟩
   ·rw[zX8]at h;exact SeqAt.EqAt.str_int x t j u _ _ _ _ h
   ·rw[zX7]at h;exact wpAny_eqBool_str h
 «strs»:=fun k x t v h=>by
  rcases zBf h with⟨i,u,rfl,e⟩|⟨y,u,rfl,e⟩
  ·exact nomatch e
  ·injection e with e1 _
   subst e1
   cases v <;> rfl
theorem zLe (prog:Program) (w:World) (i:Int) (t:Tok):(zCi prog w).is (.inl i) (.int i t)=true:=zOu i t
theorem zLd (prog:Program) (w:World) (x:Str) (t:Tok):(zCi prog w).is (.inr x) (.str x t)=true:=zOt x t
end L2
namespace L2
open PySem PySem.Spec PyProof.Rows
inductive V where
 | non|bl (b:Bool)|int (i:Int)|str (x:Str)|byt (b:Array UInt8)|flt (b:UInt64)|ref (a:Addr)|ty (n:String)
 deriving DecidableEq
noncomputable def RelV:V->Value->Prop
 | .non,u=>u=Value.none
 | .bl b,u=>u=Value.bool b
 | .int i,u=>∃t,u=Value.int i t
 | .str x,u=>∃t,u=Value.str x t
 | .byt b,u=>∃t,u=Value.bytes b t
 | .flt b,u=>∃t,u=Value.float b t
 | .ref a,u=>u=Value.ref a
 | .ty n,u=>u=Value.type n
noncomputable abbrev Vals:List V->List Value->Prop:=Paired RelV
theorem Vals.length {xs:List V}{us:List Value}(r:Vals xs us):xs.length=us.length:=Paired.length r
theorem Vals.get:∀{xs:List V}{us:List Value}{i:Nat}{x:V},Vals xs us->xs[i]?=some x->∃u,us[i]?=some u/\RelV x u
 | _,_,_,_,.nil,e=>by simp at e
 | _,_,0,_,.cons r _,e=>by simp at e;subst e;exact⟨_,rfl,r⟩
 | _,_,i+1,x,.cons _ t,e=>by
  obtain⟨u,h1,h2⟩:=Vals.get (i:=i) (x:=x) t (by simpa using e)
  exact⟨u,by simpa using h1,h2⟩
theorem Vals.set {x:V}{u:Value}(r:RelV x u):∀{xs:List V}{us:List Value}(i:Nat),Vals xs us->Vals (xs.set i x) (us.set i u)
 | _,_,_,.nil=>.nil
 | _,_,0,.cons _ t=>.cons r t
 | _,_,i+1,.cons q t=>.cons q (Vals.set r i t)
theorem Vals.append:∀{xs ys:List V}{us ws:List Value},Vals xs us->Vals ys ws->Vals (xs++ys) (us++ws)
 | _,_,_,_,.nil,s=>s
 | _,_,_,_,.cons r t,s=>.cons r (Vals.append t s)
theorem Vals.take:∀{xs:List V}{us:List Value}(n:Nat),Vals xs us->Vals (xs.take n) (us.take n)
 | _,_,0,_=>.nil
 | _,_,_+1,.nil=>.nil
 | _,_,n+1,.cons r t=>.cons r (Vals.take n t)
theorem Vals.drop:∀{xs:List V}{us:List Value}(n:Nat),Vals xs us->Vals (xs.drop n) (us.drop n)
 | _,_,0,r=>r
 | _,_,_+1,.nil=>.nil
 | _,_,n+1,.cons _ t=>Vals.drop n t
noncomputable def RelO:Option V->Option Value->Prop
 | some v,some u=>RelV v u
 | none,none=>True
 | _,_=>False
noncomputable def KV {κ:Type}:List (κ × V)->List (κ × Value)->Prop:=Paired fun(p:κ × V) (q:κ × Value)=>p.1=q.1/\RelV p.2 q.2
noncomputable def kV:Key->V
 | .inl i=>.int i
 | .inr x=>.str x
inductive HO where
 /-- a list -/
 | lst (xs:List V)
 /-- a tuple (never changes) -/
 | tup (xs:List V)
 /-- a dict whose keys are ints and texts;one whose keys are tuples of ints and texts (the empty one is both) -/
 | dK (kvs:List (Key × V))|dT (kvs:List (List Key × V))
 /-- a set of ints: its members,its size -/
 | set (S:Int->Bool) (n:Nat)
 /-- an instance of the class at C,its dict at dx,its attributes -/
 | ins (C dx:Addr) (fs:List (Str × V))
 /-- the dict of the instance at x -/
 | own (x:Addr)
 /-- the dict of an exception -/
 | xd (fs:List (Str × V))
 /-- a bound method,f of x -/
 | met (f x:Addr)
 /-- a range object lo,lo+1,.. below hi -/
 | rng (lo hi:Int)
 /-- a thing that is known to the object (the script;a dict while a loop walks it): read,never written while it is so -/
 | frz (o:Obj) (u:HO)
 /-- a code object's table -/
 | tbl (ps:Array Value)
 /-- any other thing,by what is true of its one object (a def of one's own: SetO a S n:=HO.ext fun h=>..) -/
 | ext (φ:Heap->Prop)
noncomputable abbrev Hp:=Addr->Option HO
noncomputable def upd (H:Hp) (a:Addr) (o:HO):Hp:=fun b=>if b=a then some o else H b
theorem zAt {H:Hp}{a:Addr}{o:HO}:upd H a o a=some o:=by unfold upd;rw[xc rfl]
theorem zAo {H:Hp}{a b:Addr}{o:HO}(h:b≠a):upd H a o b=H b:=by unfold upd;rw[xg h]
theorem zYl {H:Hp}{a b:Addr}{o u:HO}(h:H a=some o) (h':H b=some u) (d:o≠u):a≠b:=by
 intro e;subst e;rw[h]at h';exact d (xD h')
theorem zAp {H:Hp}{a b:Addr}{o:HO}(h:H a=some o) (h':H b=none):a≠b:=by
 intro e;subst e;rw[h]at h';cases h'
section
variable (P:Program) (w:World)
noncomputable def ObjOk (H:Hp) (h:Heap) (a:Addr):HO->Prop
 | .lst xs=>xs.length<=sizeLine/\∃(its:List Value) (n:Nat),Vals xs its/\h.get? a=some { cls:=.type "list",data:=.seq its.toArray n }
 | .tup xs=>xs.length<=sizeLine/\∃its:List Value,Vals xs its/\IsTup h a its.toArray
 | .dK kvs=>kvs.length<=sizeLine/\(a == sysModules)=false/\∃vs,KV kvs vs/\h.DictOf (zCi P w) a vs
 | .dT kvs=>kvs.length<=sizeLine/\(a == sysModules)=false/\∃xs:List (List Key × Addr × Value),
   Paired (fun(p:List Key × V) (q:List Key × Addr × Value)=>p.1=q.1/\H q.2.1=some (.tup (p.1.map kV))/\RelV p.2 q.2.2) kvs xs /\
   ∃o es ep,h.get? a=some o/\o.ExactDict/\o.data=.dict es ep/\es.toList=xs.map (entryOfKey (tupleKind (zCi P w)))/\(xs.map (·.1)).Nodup
 | .set S n=>h.SetOf (intKind P w) a S n
 | .ins C dx fs=>H dx=some (.own a)/\fs.length<=1000/\dx≠a/\h.get? a=some (PySem.W.instObj C dx) /\
   ∃mA,h.Ns1 dx mA/\(∀f,RelO (fs.lookup f) (mA f))/\PySem.Within mA (fs.map (·.1))
 | .own _=>∃o,h.get? a=some o
 | .xd fs=>∃mA,h.Ns1 a mA/\∀f,RelO (fs.lookup f) (mA f)
 | .rng lo hi=>∃t u v,h.get? a=some { cls:=.type "range",data:=.fields #[.int lo t,.int hi u,.int 1 v] }
 | .frz o u=>h.get? a=some o/\ObjOk H h a u
 | .tbl ps=>h.get? a=some { cls:=.none,data:=.fields ps }
 | .met f x=>h.get? a=some (PySem.W.methodObj (.ref f) (.ref x))
 | .ext φ=>φ h/\(∃o,h.get? a=some o)/\∀h1 h2:Heap,φ h1->(∀o,h1.get? a=some o->h2.get? a=some o)->φ h2
noncomputable def HOk (H:Hp) (h:Heap):Prop:=∀a o,H a=some o->ObjOk P w H h a o
end
section
variable {P:Program}{w:World}{H H':Hp}{h h':Heap}{a:Addr}{o:HO}
theorem ObjOk.lt (x:ObjOk P w H h a o):a<h.objs.size:=by
 cases o with
 | lst xs=>obtain⟨_,_,_,_,e⟩:=x;exact xj e
 | tup xs=>obtain⟨_,_,_,p⟩:=x;exact p.lt
 | dK kvs=>obtain⟨_,_,_,_,o,_,_,e,_⟩:=x;exact xj e
 | dT kvs=>obtain⟨_,_,_,_,o,_,_,e,_⟩:=x;exact xj e
 | set S n=>obtain⟨o,_,_,_,e,_⟩:=x;exact xj e
 | ins C dx fs=>obtain⟨_,_,_,e,_⟩:=x;exact xj e
 | own y=>obtain⟨_,e⟩:=x;exact xj e
 | xd fs=>obtain⟨_,⟨_,_,_,e,_⟩,_⟩:=x;exact xj e
 | rng lo hi=>obtain⟨_,_,_,e⟩:=x;exact xj e
 | frz ob u=>obtain⟨e,_⟩:=x;exact xj e
 | tbl ps=>exact xj (show h.get? a=some _ from x)
 | met f y=>exact xj (show h.get? a=some _ from x)
 | ext φ=>obtain⟨_,⟨_,e⟩,_⟩:=x;exact xj e
theorem Paired.mapP {α β:Type}{F G:α->β->Prop}:∀{l₁:List α}{l₂:List β},Paired F l₁ l₂->(∀a b,F a b->G a b)->Paired G l₁ l₂
 | _,_,.nil,_=>.nil
 | _,_,.cons r t,f=>.cons (f _ _ r) (Paired.mapP t f)
theorem ObjOk.stay (x:ObjOk P w H h a o) (k:∀b u,(b=a\/H b=some (.own a))->h.get? b=some u->h'.get? b=some u)
  (ho:∀b,H b=some (.own a)->H' b=some (.own a)) (ht:∀b xs,H b=some (.tup xs)->H' b=some (.tup xs)):ObjOk P w H' h' a o:=by
 induction o with
 | lst xs=>obtain⟨z,its,n,r,e⟩:=x;exact⟨z,its,n,r,k _ _ (.inl rfl) e⟩
 | tup xs=>obtain⟨z,its,r,ob,e,c⟩:=x;exact⟨z,its,r,ob,k _ _ (.inl rfl) e,c⟩
 | dK kvs=>obtain⟨z,y,vs,r,ob,es,ep,e,c⟩:=x;exact⟨z,y,vs,r,ob,es,ep,k _ _ (.inl rfl) e,c⟩
 | dT kvs=>
  obtain⟨z,y,xs,r,ob,es,ep,e,c⟩:=x
  exact⟨z,y,xs,Paired.mapP r fun p q z=>⟨z.1,ht _ _ z.2.1,z.2.2⟩,ob,es,ep,k _ _ (.inl rfl) e,c⟩
 | set S n=>obtain⟨ob,es,ep,t,e,c⟩:=x;exact⟨ob,es,ep,t,k _ _ (.inl rfl) e,c⟩
 | ins C dx fs=>
  obtain⟨d,z,ne,e,mA,⟨od,es,ep,e2,c⟩,r⟩:=x
  exact⟨ho _ d,z,ne,k _ _ (.inl rfl) e,mA,⟨od,es,ep,k _ _ (.inr d) e2,c⟩,r⟩
 | own y=>obtain⟨ob,e⟩:=x;exact⟨ob,k _ _ (.inl rfl) e⟩
 | xd fs=>obtain⟨mA,⟨od,es,ep,e,c⟩,r⟩:=x;exact⟨mA,⟨od,es,ep,k _ _ (.inl rfl) e,c⟩,r⟩
 | rng lo hi=>obtain⟨t,u,v,e⟩:=x;exact⟨t,u,v,k _ _ (.inl rfl) e⟩
 | frz ob u ih=>obtain⟨e,q⟩:=x;exact⟨k _ _ (.inl rfl) e,ih q⟩
 | tbl ps=>
  have e:h.get? a=some { cls:=.none,data:=.fields ps }:=x
  show h'.get? a=some { cls:=.none,data:=.fields ps }
  exact k a _ (.inl rfl) e
 | met f y=>
  have e:h.get? a=some (PySem.W.methodObj (.ref f) (.ref y)):=x
  show h'.get? a=some (PySem.W.methodObj (.ref f) (.ref y))
  exact k a _ (.inl rfl) e
 | ext φ=>obtain⟨p,⟨o,e⟩,st⟩:=x;exact⟨st _ _ p fun o q=>k _ _ (.inl rfl) q,⟨o,k _ _ (.inl rfl) e⟩,st⟩
theorem HOk.lt (x:HOk P w H h) (e:H a=some o):a<h.objs.size:=(x a o e).lt
theorem HOk.fresh (x:HOk P w H h) (e:h.objs.size<=a):H a=none:=by
 cases q:H a with
 | none=>rfl
 | some u=>exact absurd (xv (x.lt q) e) (x4 _)
theorem HOk.kept (x:HOk P w H h) (k:∀b u,h.get? b=some u->h'.get? b=some u):HOk P w H h':=fun a o e=>
 (x a o e).stay (fun b u _ q=>k b u q) (fun _ q=>q) fun _ _ q=>q
theorem HOk.laid (x:HOk P w H h) (k:∀b u,h.get? b=some u->h'.get? b=some u) (hp:h.objs.size<=a) (new:ObjOk P w (upd H a o) h' a o):HOk P w (upd H a o) h':=fun b u e=>by
 have hn:=x.fresh hp
 by_cases hb:b=a
 ·subst hb;rw[zAt]at e;cases e;exact new
 ·rw[zAo hb]at e
  exact(x b u e).stay (fun c v _ q=>k c v q) (fun c q=>by rw[zAo (zAp q hn)];exact q) fun c xs q=>by rw[zAo (zAp q hn)];exact q
end
noncomputable def Rd (H:Hp) (a:Addr) (u:HO):Prop:=H a=some u\/∃o,H a=some (.frz o u)
theorem Rd.ok {P:Program}{w:World}{H:Hp}{h:Heap}{a:Addr}{u:HO}(r:Rd H a u) (x:HOk P w H h):ObjOk P w H h a u:=by
 rcases r with r|⟨o,r⟩
 ·exact x a u r
 ·obtain⟨_,q⟩:=x a _ r
  exact q
noncomputable def Mut:Option HO->Prop
 | some (.lst _)=>True
 | some (.dK _)=>True
 | some (.dT _)=>True
 | some (.set _ _)=>True
 | some (.ins _ _ _)=>True
 | some (.ext _)=>True
 | _=>False
section
variable {P:Program}{w:World}{H:Hp}{h h':Heap}{x e:Addr}{o':HO}
theorem HOk.write (ok:HOk P w H h) (mu:Mut (H x)) (he:e=x\/H e=some (.own x)) (k:∀b u,b≠e->h.get? b=some u->h'.get? b=some u) (heo:∃u,h'.get? e=some u)
  (new:ObjOk P w (upd H x o') h' x o'):HOk P w (upd H x o') h':=fun b u q=>by
 have nown:∀c y,H c=some (.own y)->c≠x:=fun c y r z=>by subst z;rw[r]at mu;exact mu
 have ntup:∀c xs,H c=some (.tup xs)->c≠x:=fun c xs r z=>by subst z;rw[r]at mu;exact mu
 by_cases hb:b=x
 ·subst hb;rw[zAt]at q;cases q;exact new
 ·rw[zAo hb]at q
  by_cases hbe:b=e
  ·have q':H b=some (.own x):=by
    rcases he with z|z
    ·exact absurd (hbe.trans z) hb
    ·rw[hbe];exact z
   rw[q]at q';cases q'
   obtain⟨v,hv⟩:=heo
   exact⟨v,by rw[hbe];exact hv⟩
  ·refine(ok b u q).stay (fun c v hc r=>k c v ?_ r) (fun c r=>by rw[zAo (nown c b r)];exact r) fun c xs r=>by rw[zAo (ntup c xs r)];exact r
   rcases hc with rfl|hc
   ·exact hbe
   ·rintro rfl
    rcases he with z|z
    ·exact nown c b hc z
    ·rw[hc]at z;cases z;exact hb rfl
end
structure Un (fs ex:List Addr) (H H':Hp) (h h':Heap):Prop where
 keep:∀b o,h.get? b=some o->H b=none->b ∉ fs->b ∉ ex->h'.get? b=some o
 slot:∀b o,h.get? b=some o->H b=none->b∈fs->b ∉ ex->∃sl,h'.get? b=some { o with slots:=sl }
 free:∀b o,h.get? b=some o->H b=none->b ∉ ex->H' b=none
 there:∀b o,h.get? b=some o->b ∉ ex->∃o',h'.get? b=some o'
 tups:∀b xs,H b=some (.tup xs)->H' b=some (.tup xs)
 frzs:∀b o u,H b=some (.frz o u)->H' b=some (.frz o u)
 tbls:∀b ps,H b=some (.tbl ps)->∃more,H' b=some (.tbl (ps++more))
section
variable {fs fs' ex ex':List Addr}{H H1 H2:Hp}{h h1 h2 h':Heap}{a x e:Addr}{o:HO}
theorem Un.any (u:Un fs ex H H1 h h1) {b:Addr}{ob:Obj}(q:h.get? b=some ob) (n:H b=none) (hx:b ∉ ex):∃sl,h1.get? b=some { ob with slots:=sl }:=by
 by_cases hb:b∈fs
 ·exact u.slot b ob q n hb hx
 ·exact⟨ob.slots,u.keep b ob q n hb hx⟩
theorem Un.kept (k:∀b u,h.get? b=some u->h'.get? b=some u):Un fs ex H H h h':=
 ⟨fun b ob q _ _ _=>k b ob q,fun b ob q _ _ _=>⟨ob.slots,k b ob q⟩,fun _ _ _ n _=>n,fun b ob q _=>⟨ob,k b ob q⟩,fun _ _ q=>q,fun _ _ _ q=>q,fun _ ps q=>⟨#[],by rw[q];simp⟩⟩
theorem Un.refl:Un fs ex H H h h:=Un.kept fun _ _ q=>q
theorem Un.laid (k:∀b u,h.get? b=some u->h'.get? b=some u) (hp:h.objs.size<=a) (hn:H a=none):Un fs ex H (upd H a o) h h' where
 keep:=fun b u q _ _ _=>k b u q
 slot:=fun b u q _ _ _=>⟨u.slots,k b u q⟩
 free:=fun b u q n _=>by rw[zAo (xr (xv (xj q) hp))];exact n
 there:=fun b u q _=>⟨u,k b u q⟩
 tups:=fun b xs q=>by rw[zAo (zAp q hn)];exact q
 frzs:=fun b u xs q=>by rw[zAo (zAp q hn)];exact q
 tbls:=fun b ps q=>⟨#[],by rw[zAo (zAp q hn),q];simp⟩
theorem Un.write (mu:Mut (H x)) (he:e=x\/H e=some (.own x)) (k:∀b u,b≠e->h.get? b=some u->h'.get? b=some u) (heo:∃u,h'.get? e=some u):Un fs ex H (upd H x o) h h':=by
 have hx:∀b,H b=none->b≠x:=fun b n z=>by subst z;rw[n]at mu;exact mu
 have hb:∀b,H b=none->b≠e:=fun b n z=>by
  subst z
  rcases he with r|r
  ·exact hx b n r
  ·rw[n]at r;cases r
 have hm:∀b u,H b=some u->¬ Mut (some u)->b≠x:=fun b u q nm z=>by subst z;rw[q]at mu;exact nm mu
 refine⟨fun b u q n _ _=>k b u (hb b n) q,fun b u q n _ _=>⟨u.slots,k b u (hb b n) q⟩,fun b u q n _=>by rw[zAo (hx b n)];exact n,fun b u q _=>?_,
  fun b xs q=>by rw[zAo (hm b _ q fun z=>z)];exact q,fun b u xs q=>by rw[zAo (hm b _ q fun z=>z)];exact q,fun b ps q=>⟨#[],by rw[zAo (hm b _ q fun z=>z),q];simp⟩⟩
 by_cases hbe:b=e
 ·subst hbe;exact heo
 ·exact⟨u,k b u hbe q⟩
end
noncomputable def trk (h:Heap) (H:Hp):List Addr:=(List.range h.objs.size).filter fun a=>(H a).isSome
noncomputable def hidT (h:Heap) (H:Hp):Heap:=PySem.W.hideAll h (trk h H)
theorem zP2 (h:Heap) (H:Hp):(hidT h H).objs.size=h.objs.size:=PySem.W.hideAll_size _ _
theorem zRm {h:Heap}{H:Hp}{b:Addr}{o:Obj}(e:h.get? b=some o) (n:H b=none):(hidT h H).get? b=some o:=
 PySem.W.hideAll_get _ e fun hm=>by
  have q:(H b).isSome=true:=(List.mem_filter.mp hm).2
  rw[n]at q;simp at q
theorem zUd {h:Heap}{H:Hp}{b:Addr}{o:Obj}(e:(hidT h H).get? b=some o):h.get? b=some o/\H b=none:=by
 have e':h.get? b=some o:=PySem.W.of_hideAll (trk h H) e
 refine⟨e',?_⟩
 cases q:H b with
 | none=>rfl
 | some x=>
  have hm:b∈trk h H:=List.mem_filter.mpr ⟨List.mem_range.mpr (xj e'),by simp[q]⟩
  have z:(hidT h H).get? b=none:=PySem.W.hideAll_none (trk h H) hm
  rw[z]at e;cases e
noncomputable def zVb (g h:Heap) (L:Addr):List (Addr × Obj):=(List.range h.objs.size).filterMap fun a=>if a=L\/(g.get? a).isSome=true then none else(h.get? a).map fun o=>(a,o)
noncomputable def rest (g h:Heap) (L d:Addr):List (Addr × Obj):=(zVb g h L).filter fun p=>decide (p.1≠d)
end L2
namespace L2
open PySem PySem.Spec PyProof.Rows
structure Mod (K:PySem.W.Frag) (mg:Str->Option Value) (base:Heap):Prop where
 kin:K.In base
 glob:base.Ns mainGlobals mg
 blt:∃mb,base.Ns builtinsNs mb/\∀x:Str,x≠"__name__"->mb x=bootBuiltins x
 nolimit:base.NoLimit
/-- the context: a def's body (or a comprehension's block) running. base: fixed through the whole law;s₀,H₀: the entry;outer: the frames whose slots others may change (a def's callers);stack: all frames that run;
   ex: iterators that were made ahead of the entry and are walked here (a comprehension's);fn: the names whose cells were made at the entry (a def: all;a comprehension's block: its own);calm: not within an except suite;pn: pins that every state bears;xe: what is wanted of an exception that leaves the code -/
structure Cx where
  prog:Program
  w:World
  K:PySem.W.Frag
  mg:Str->Option Value
  base:Heap
  A:Around
  N:List Str
  s₀:Shared
  H₀:Hp
  env:Env
  outer:List Env
  stack:List Env
  ex:List Addr
  fn:Str->Bool
  calm:Bool
  pn:List (Addr × Obj)
  xe:Value->Shared->Prop
noncomputable def frs (l:List Env):List Addr:=l.filterMap (·.frame)
noncomputable abbrev Cx.fs (X:Cx):List Addr:=frs X.outer
noncomputable def Vis (sc:Scope) (x:Str):Prop:=sc.names.lookup x=some .local\/sc.names.lookup x=some .cell\/sc.names.lookup x=some .free
noncomputable def Loc (sc:Scope) (x:Str):Prop:=sc.names.lookup x=some .local\/sc.names.lookup x=some .cell
noncomputable def Look (env:Env) (h:Heap) (m:Str->Option Value) (x:Str) (u:Value):Prop:=
 (env.kindOf x=some .local/\m x=some u)\/((env.kindOf x=some .cell\/env.kindOf x=some .free)/\∃c,env.cells.lookup x=some c/\h.IsCell c (some u))
structure Cx.Ok (X:Cx):Prop where
 mod:Mod X.K X.mg X.base
 kind:X.env.scope.kind=.function
 glob:X.env.globals=mainGlobals
 blt:X.env.builtins=builtinsNs
 above:X.s₀.heap.objs.size<=X.env.locals
 inj:∀x y c,X.env.cells.lookup x=some c->X.env.cells.lookup y=some c->x=y
 has:∀x,(X.env.kindOf x=some .cell\/X.env.kindOf x=some .free)->∃c,X.env.cells.lookup x=some c
 cab:∀x c,X.fn x=true->X.env.cells.lookup x=some c->X.s₀.heap.objs.size<=c
 hd:X.calm=true->X.A.handled=none
 frames:X.A.frames=some X.stack
 stk:X.stack=X.outer\/(X.stack=X.env::X.outer/\X.env.frame=some X.env.locals)
 exf:∀b∈X.ex,b≠X.env.locals/\∀x c,X.env.cells.lookup x=some c->c≠b
 bs:∀b o,X.base.get? b=some o->X.s₀.heap.get? b=some o/\X.H₀ b=none
 bsz:X.base.objs.size<=X.s₀.heap.objs.size
 noex:∀b o,X.base.get? b=some o->b ∉ X.ex
 exfs:∀b∈X.ex,b ∉ X.fs
 funs:X.s₀.heap.FunFrames X.base X.outer
 frf:∀b∈X.fs,X.H₀ b=none
structure Inv (X:Cx) (pins:List (Addr × Obj)) (σ:List (Option V)) (H:Hp) (s:Shared):Prop where
 ok:X.Ok
 os:s.os=X.s₀.os
 bare:AllBare s.gens
 base:Un X.fs X.ex X.H₀ H X.s₀.heap s.heap
 loc:∃m,s.heap.Ns X.env.locals m/\∀(i:Nat) (x:Str) (v:V),X.N[i]?=some x->σ[i]?=some (some v)->Vis X.env.scope x->∃u,RelV v u/\Look X.env s.heap m x u
 cell:∀x c,X.env.cells.lookup x=some c->∃v,s.heap.IsCell c v
 free:H X.env.locals=none
 freeC:∀x c,X.env.cells.lookup x=some c->H c=none
 pin:∀p∈X.pn++pins,s.heap.get? p.1=some p.2/\H p.1=none/\p.1≠X.env.locals/\p.1 ∉ X.fs/\∀v,p.2.data≠.cell v
 hok:HOk X.prog X.w H s.heap
 len:σ.length=X.N.length
section
variable {X:Cx}{pins:List (Addr × Obj)}{σ:List (Option V)}{H H':Hp}{s:Shared}{h':Heap}
theorem Cx.Ok.nofr (ok:X.Ok) {b:Addr}{o:Obj}(e:X.base.get? b=some o):b ∉ X.fs:=fun hb=>by
 have:=(ok.funs.mem hb).1
 rw[e]at this;cases this
theorem Inv.bs (I:Inv X pins σ H s):∀b o,X.base.get? b=some o->s.heap.get? b=some o/\H b=none:=fun b o e=>
 ⟨I.base.keep b o (I.ok.bs b o e).1 (I.ok.bs b o e).2 (I.ok.nofr e) (I.ok.noex b o e),I.base.free b o (I.ok.bs b o e).1 (I.ok.bs b o e).2 (I.ok.noex b o e)⟩
theorem Inv.bk (I:Inv X pins σ H s):∀b o,X.base.get? b=some o->s.heap.get? b=some o:=fun b o e=>(I.bs b o e).1
theorem Inv.mod (I:Inv X pins σ H s):Mod X.K X.mg X.base:=I.ok.mod
theorem Inv.kIn (I:Inv X pins σ H s):X.K.In s.heap:=I.ok.mod.kin.keeps I.bk
theorem Inv.lt (I:Inv X pins σ H s):X.env.locals<s.heap.objs.size:=let ⟨_,hn,_⟩:=I.loc;hn.lt
theorem Inv.sz (I:Inv X pins σ H s):X.s₀.heap.objs.size<=s.heap.objs.size:=xn I.ok.above (vy I.lt)
theorem Inv.nofs (I:Inv X pins σ H s) {a:Addr}(h:s.heap.objs.size<=a):a ∉ X.fs:=fun hb=>by
 obtain⟨_,o,ho,_⟩:=I.ok.funs.mem hb
 exact absurd (xv (xj ho) (xn I.sz h)) (x4 _)
theorem Inv.cne (I:Inv X pins σ H s):∀x c,X.env.cells.lookup x=some c->c≠X.env.locals:=fun x c e z=>by
 obtain⟨v,o,ho,hd⟩:=I.cell x c e
 obtain⟨m,⟨o',es,ep,ho',hd',_⟩,_⟩:=I.loc
 rw[z,ho']at ho;cases ho;rw[hd']at hd;cases hd
theorem Inv.funs (I:Inv X pins σ H s):s.heap.FunFrames X.base X.outer:=by
 have all:∀(l:List Env),(∀b∈frs l,b∈X.fs)->X.s₀.heap.FunFrames X.base l->s.heap.FunFrames X.base l:=by
  intro l
  induction l with
  | nil=>intro _ _;trivial
  | cons env r ih=>
   intro hs hl
   obtain⟨hk,⟨L,o,hf,hn,ho,hd⟩,hr⟩:=hl
   have hL:L∈X.fs:=hs L (by unfold frs;rw[List.filterMap_cons,hf];exact vc)
   obtain⟨sl,e⟩:=I.base.slot L o ho (I.ok.frf L hL) hL fun z=>I.ok.exfs L z hL
   exact⟨hk,⟨L,_,hf,hn,e,hd⟩,ih (fun b hb=>hs b (by unfold frs;rw[List.filterMap_cons,hf];exact vn _ hb)) hr⟩
 exact all X.outer (fun _ hb=>hb) I.ok.funs
theorem Inv.stack (I:Inv X pins σ H s):s.heap.FunFrames X.base X.stack:=by
 rcases I.ok.stk with e|⟨e,hf⟩
 ·rw[e];exact I.funs
 ·rw[e]
  obtain⟨m,hn,_⟩:=I.loc
  refine .cons (by rw[I.ok.kind];decide) hf hn ?_ I.funs
  exact Heap.get?_none_of_le (xn I.ok.bsz I.ok.above)
theorem Inv.stkSub (I:Inv X pins σ H s):∀b∈frs X.stack,b∈X.env.locals::X.fs:=fun b hb=>by
 rcases I.ok.stk with e|⟨e,hf⟩
 ·rw[e]at hb;exact vn _ hb
 ·rw[e]at hb
  unfold frs at hb
  rw[List.filterMap_cons,hf]at hb
  exact hb
theorem Inv.stkFree (I:Inv X pins σ H s):∀b∈frs X.stack,H b=none:=fun b hb=>by
 rcases xi.mp (I.stkSub b hb)with e|hb
 ·rw[e];exact I.free
 ·obtain⟨_,o,ho,_⟩:=I.ok.funs.mem hb
  exact I.base.free b o ho (I.ok.frf b hb) fun z=>I.ok.exfs b z hb
theorem Inv.step {g':Array GenState}{t':Nat}{d':Drawn}{ch:List Addr}(I:Inv X pins σ H s)
  (hch:∀b∈ch,(b∈X.ex\/X.s₀.heap.objs.size<=b)/\b≠X.env.locals/\(∀x c,X.env.cells.lookup x=some c->c≠b)/\∀p∈X.pn++pins,p.1≠b)
  (keep:∀b o,b≠X.env.locals->b ∉ X.fs->b ∉ ch->s.heap.get? b=some o->H b=none->h'.get? b=some o)
  (slot:∀b o,b≠X.env.locals->b∈X.fs->b ∉ ch->s.heap.get? b=some o->H b=none->∃sl,h'.get? b=some { o with slots:=sl }) (free:∀b o,b ∉ ch->s.heap.get? b=some o->H b=none->H' b=none)
  (there:∀b o,b ∉ ch->s.heap.get? b=some o->∃o',h'.get? b=some o')
  (tups:∀b xs,H b=some (.tup xs)->H' b=some (.tup xs)) (frzs:∀b o u,H b=some (.frz o u)->H' b=some (.frz o u)) (tbls:∀b ps,H b=some (.tbl ps)->∃more,H' b=some (.tbl (ps++more)))
  (ns:∀m,s.heap.Ns X.env.locals m->h'.Ns X.env.locals m) (hok:HOk X.prog X.w H' h') (hg:AllBare g'):
  Inv X pins σ H' { s with heap:=h',gens:=g',drawn:=d',toks:=t' }:=by
 have neL:∀b o,X.s₀.heap.get? b=some o->b≠X.env.locals:=fun b o e=>xr (xv (xj e) I.ok.above)
 have neC:∀b o,X.s₀.heap.get? b=some o->b ∉ X.ex->b ∉ ch:=fun b o e hx hb=>by
  rcases(hch b hb).1 with z|z
  ·exact hx z
  ·exact absurd (xv (xj e) z) (x4 _)
 have cellK:∀x c,X.env.cells.lookup x=some c->∀v,s.heap.IsCell c v->h'.IsCell c v:=fun x c e v hq1=>by
  obtain⟨o,ho,hd⟩:=hq1
  have nch:c ∉ ch:=fun z=>(hch c z).2.2.1 x c e rfl
  by_cases hc:c∈X.fs
  ·obtain⟨sl,q⟩:=slot c o (I.cne x c e) hc nch ho (I.freeC x c e)
   exact⟨_,q,hd⟩
  ·exact⟨o,keep c o (I.cne x c e) hc nch ho (I.freeC x c e),hd⟩
 refine⟨I.ok,I.os,hg,⟨fun b o e n hb hx=>?_,fun b o e n hb hx=>?_,fun b o e n hx=>?_,fun b o e hx=>?_,fun b xs e=>tups b xs (I.base.tups b xs e),fun b o xs e=>frzs b o xs (I.base.frzs b o xs e),fun b ps e=>?_⟩,?_,fun x c e=>?_,?_,fun x c e=>?_,fun p hp=>?_,hok,I.len⟩
 ·exact keep b o (neL b o e) hb (neC b o e hx) (I.base.keep b o e n hb hx) (I.base.free b o e n hx)
 ·obtain⟨sl,e1⟩:=I.base.slot b o e n hb hx
  obtain⟨sl',e2⟩:=slot b _ (neL b o e) hb (neC b o e hx) e1 (I.base.free b o e n hx)
  exact⟨sl',e2⟩
 ·obtain⟨o',e1⟩:=I.base.there b o e hx
  exact free b o' (neC b o e hx) e1 (I.base.free b o e n hx)
 ·obtain⟨o',e1⟩:=I.base.there b o e hx
  exact there b o' (neC b o e hx) e1
 ·obtain⟨m1,e1⟩:=I.base.tbls b ps e
  obtain⟨m2,e2⟩:=tbls b _ e1
  exact⟨m1++m2,by rw[e2,Array.append_assoc]⟩
 ·obtain⟨m,hn,hl⟩:=I.loc
  refine⟨m,ns m hn,fun i x v e1 e2 e3=>?_⟩
  obtain⟨u,r,l⟩:=hl i x v e1 e2 e3
  refine⟨u,r,?_⟩
  rcases l with l|⟨k,c,e,z⟩
  ·exact .inl l
  ·exact .inr ⟨k,c,e,cellK x c e _ z⟩
 ·obtain⟨v,z⟩:=I.cell x c e
  exact⟨v,cellK x c e v z⟩
 ·obtain⟨m,⟨o,_,_,ho,_⟩,_⟩:=I.loc
  exact free _ o (fun z=>(hch _ z).2.1 rfl) ho I.free
 ·obtain⟨v,o,ho,hd⟩:=I.cell x c e
  exact free c o (fun z=>(hch c z).2.2.1 x c e rfl) ho (I.freeC x c e)
 ·obtain⟨e,n,ne,nf,d⟩:=I.pin p hp
  have nch:p.1 ∉ ch:=fun z=>(hch p.1 z).2.2.2 p hp rfl
  exact⟨keep p.1 p.2 ne nf nch e n,free p.1 p.2 nch e n,ne,nf,d⟩
theorem Inv.un {t':Nat}(I:Inv X pins σ H s) (u:Un X.fs [] H H' s.heap h') (hok:HOk X.prog X.w H' h'):Inv X pins σ H' { s with heap:=h',toks:=t' }:=by
 obtain⟨m,⟨o,es,ep,ho,r⟩,_⟩:=id I.loc
 obtain⟨sl,hL⟩:=u.any ho I.free (by simp)
 exact I.step (g':=s.gens) (d':=s.drawn) (ch:=[]) (fun _ z=>nomatch z) (fun b o _ hb _ e n=>u.keep b o e n hb (by simp)) (fun b o _ hb _ e n=>u.slot b o e n hb (by simp)) (fun b o _ e n=>u.free b o e n (by simp)) (fun b o _ e=>u.there b o e (by simp)) u.tups u.frzs u.tbls (fun m' hm=>by
  obtain⟨o',es',ep',ho',r'⟩:=hm
  rw[ho]at ho';cases ho'
  exact⟨_,es',ep',hL,r'⟩) hok I.bare
theorem Inv.call {g':Array GenState}{t':Nat}{d':Drawn}{ch:List Addr}(I:Inv X pins σ H s) (u:Un (frs X.stack) ch H H' s.heap h') (hok:HOk X.prog X.w H' h') (hg:AllBare g')
  (hch:∀b∈ch,(b∈X.ex\/X.s₀.heap.objs.size<=b)/\b≠X.env.locals/\(∀x c,X.env.cells.lookup x=some c->c≠b)/\∀p∈X.pn++pins,p.1≠b):
  Inv X pins σ H' { s with heap:=h',gens:=g',drawn:=d',toks:=t' }:=by
 obtain⟨m,⟨o,es,ep,ho,r⟩,_⟩:=id I.loc
 obtain⟨sl,hL⟩:=u.any ho I.free fun z=>(hch _ z).2.1 rfl
 exact I.step (ch:=ch) hch (fun b o hL hb hc e n=>u.keep b o e n (fun z=>(xi.mp (I.stkSub b z)).elim hL hb) hc) (fun b o _ _ hc e n=>u.any e n hc) (fun b o hc e n=>u.free b o e n hc) (fun b o hc e=>u.there b o e hc) u.tups u.frzs u.tbls (fun m' hm=>by
  obtain⟨o',es',ep',ho',r'⟩:=hm
  rw[ho]at ho';cases ho'
  exact⟨_,es',ep',hL,r'⟩) hok hg
theorem Inv.turned {t':Nat}{it:Addr}(I:Inv X pins σ H s) (k:∀b o,b≠it->s.heap.get? b=some o->h'.get? b=some o) (hn:H it=none) (hL:it≠X.env.locals)
  (h1:it∈X.ex\/X.s₀.heap.objs.size<=it) (h2:∀x c,X.env.cells.lookup x=some c->c≠it) (h3:∀p∈X.pn++pins,p.1≠it):Inv X pins σ H { s with heap:=h',toks:=t' }:=by
 have nit:∀b u,H b=some u->b≠it:=fun b u e z=>by rw[z,hn]at e;cases e
 refine I.step (g':=s.gens) (d':=s.drawn) (ch:=[it]) (fun b hb=>?_) (fun b o _ _ hc e _=>k b o (fun z=>hc (by simp[z])) e) (fun b o _ _ hc e _=>⟨o.slots,k b o (fun z=>hc (by simp[z])) e⟩) (fun _ _ _ _ n=>n)
  (fun b o hc e=>⟨o,k b o (fun z=>hc (by simp[z])) e⟩) (fun _ _ e=>e) (fun _ _ _ e=>e) (fun b ps e=>⟨#[],by rw[e];simp⟩) (fun m hm=>?_) (fun b u e=>?_) I.bare
 ·have e:b=it:=by simpa using hb
  subst e
  exact⟨h1,hL,h2,h3⟩
 ·obtain⟨o,es,ep,ho,r⟩:=hm
  exact⟨o,es,ep,k _ o (xB hL) ho,r⟩
 ·refine(I.hok b u e).stay (fun c v hc q=>k c v ?_ q) (fun _ q=>q) fun _ _ q=>q
  rcases hc with z|z
  ·rw[z];exact nit b u e
  ·exact nit c _ z
theorem Inv.tok (I:Inv X pins σ H s) (t:Nat):Inv X pins σ H { s with toks:=t }:=I.un (h':=s.heap) (t':=t) Un.refl I.hok
theorem Inv.kept {t':Nat}(I:Inv X pins σ H s) (k:∀b u,s.heap.get? b=some u->h'.get? b=some u):Inv X pins σ H { s with heap:=h',toks:=t' }:=I.un (Un.kept k) (I.hok.kept k)
theorem Inv.laid {a:Addr}{o:HO}{t':Nat}(I:Inv X pins σ H s) (k:∀b u,s.heap.get? b=some u->h'.get? b=some u) (hp:s.heap.objs.size<=a) (new:ObjOk X.prog X.w (upd H a o) h' a o):
  Inv X pins σ (upd H a o) { s with heap:=h',toks:=t' }:=I.un (Un.laid k hp (I.hok.fresh hp)) (I.hok.laid k hp new)
theorem Inv.write {x e:Addr}{o:HO}{t':Nat}(I:Inv X pins σ H s) (mu:Mut (H x)) (he:e=x\/H e=some (.own x)) (k:∀b u,b≠e->s.heap.get? b=some u->h'.get? b=some u) (heo:∃u,h'.get? e=some u)
  (new:ObjOk X.prog X.w (upd H x o) h' x o):Inv X pins σ (upd H x o) { s with heap:=h',toks:=t' }:=I.un (Un.write mu he k heo) (I.hok.write mu he k heo new)
theorem Inv.pins_of {pins':List (Addr × Obj)}(I:Inv X pins σ H s) (h:∀p∈pins',s.heap.get? p.1=some p.2/\H p.1=none/\p.1≠X.env.locals/\p.1 ∉ X.fs/\∀v,p.2.data≠.cell v):Inv X pins' σ H s:=
 ⟨I.ok,I.os,I.bare,I.base,I.loc,I.cell,I.free,I.freeC,fun p hp=>(xT.mp hp).elim (fun z=>I.pin p (vM _ z)) (h p),I.hok,I.len⟩
theorem zM3 {N:List Str}(hN:N.Nodup) {i j:Nat}{x:Str}(a:N[i]?=some x) (b:N[j]?=some x):i=j:=by
 obtain⟨h1,e1⟩:=xK.mp a
 obtain⟨h2,e2⟩:=xK.mp b
 exact(List.getElem_inj hN).mp (e1.trans e2.symm)
theorem zJs {M:Model}{A:Around}{E:Value->Shared->Prop}{i:Nat}{x:Str}{v:V}{u:Value}{Q:Unit->Shared->Prop}(I:Inv X pins σ H s) (hN:X.N.Nodup) (hi:X.N[i]?=some x) (hx:Loc X.env.scope x) (r:RelV v u)
  (h:∀s',Inv X pins (σ.set i (some v)) H s'->(∃a,Heap.SameBut a s.heap s'.heap/\(a=X.env.locals\/X.env.cells.lookup x=some a))->Q () s') (hf:X.fn x=true\/X.env.scope.names.lookup x=some .local:=by first|exact .inl rfl|exact .inr rfl|assumption):wpAny M A (storeName X.env x u) Q E s:=by
 obtain⟨m,hn,hl⟩:=id I.loc
 have hcls:(X.env.scope.kind == .class || (X.env.scope.kind == .module && X.env.locals != X.env.globals))=false:=by rw[I.ok.kind];rfl
 have hiσ:i<σ.length:=by rw[I.len];exact(xK.mp hi).1
 have cne:=I.cne
 have tracked:∀{a:Addr}{h':Heap},(∃o,s.heap.get? a=some o/\H a=none)->Heap.SameBut a s.heap h'->HOk X.prog X.w H h':=fun {a h'} ha hs b ob e=>by
  obtain⟨_,_,hfree⟩:=ha
  refine(I.hok b ob e).stay (fun c w' hc q=>(hs.2 c ?_).trans q) (fun _ q=>q) fun _ _ q=>q
  rintro rfl
  rcases hc with rfl|hc
  ·rw[hfree]at e;cases e
  ·rw[hfree]at hc;cases hc
 rcases hx with hk|hk
 ·refine wpAny_storeName_local hk hn (fun h' hn' hs=>?_) hcls
  obtain⟨oL,_,_,hoL,_⟩:=id hn
  refine h _ ⟨I.ok,I.os,I.bare,⟨fun b o e n hb hx=>?_,fun b o e n hb hx=>?_,I.base.free,fun b o e hx=>?_,I.base.tups,I.base.frzs,I.base.tbls⟩,⟨_,hn',fun j y v' e1 e2 e3=>?_⟩,fun y c e=>?_,I.free,I.freeC,fun p hp=>?_,tracked ⟨oL,hoL,I.free⟩ hs,by simpa using I.len⟩ ⟨_,hs,.inl rfl⟩
  ·exact(hs.2 b (xr (xv (xj e) I.ok.above))).trans (I.base.keep b o e n hb hx)
  ·obtain⟨sl,e1⟩:=I.base.slot b o e n hb hx
   exact⟨sl,(hs.2 b (xr (xv (xj e) I.ok.above))).trans e1⟩
  ·obtain⟨o',e1⟩:=I.base.there b o e hx
   exact⟨o',(hs.2 b (xr (xv (xj e) I.ok.above))).trans e1⟩
  ·by_cases hj:j=i
   ·subst hj
    rw[hi]at e1;cases e1
    rw[vW hiσ]at e2
    cases e2
    exact⟨u,r,.inl ⟨hk,by simp⟩⟩
   ·rw[vX (xB hj)]at e2
    obtain⟨u',r',q⟩:=hl j y v' e1 e2 e3
    refine⟨u',r',?_⟩
    rcases q with⟨k,e⟩|⟨k,c,e,z⟩
    ·refine .inl ⟨k,?_⟩
     have:y≠x:=fun e=>hj (zM3 hN e1 (e ▸ hi))
     simp[this,e]
    ·exact .inr ⟨k,c,e,z.sameBut hs (cne y c e)⟩
  ·obtain⟨w',z⟩:=I.cell y c e
   exact⟨w',z.sameBut hs (cne y c e)⟩
  ·obtain⟨e,n,ne,nf,d⟩:=I.pin p hp
   exact⟨(hs.2 p.1 ne).trans e,n,ne,nf,d⟩
 ·have hfn:X.fn x=true:=by
   rcases hf with z|z
   ·exact z
   ·rw[z]at hk;cases hk
  obtain⟨c,hc⟩:=I.ok.has x (.inl hk)
  obtain⟨w',z⟩:=I.cell x c hc
  refine wpAny_storeName_cell I.ok.kind hk hc z (fun h' hc' hs=>?_)
  obtain⟨oc,hoc,hocd⟩:=id z
  refine h { s with heap:=h' } ⟨I.ok,I.os,I.bare,⟨fun b o e n hb hx=>?_,fun b o e n hb hx=>?_,I.base.free,fun b o e hx=>?_,I.base.tups,I.base.frzs,I.base.tbls⟩,⟨m,hn.sameBut hs (xB (cne x c hc)),fun j y v' e1 e2 e3=>?_⟩,fun y c' e=>?_,I.free,I.freeC,fun p hp=>?_,tracked ⟨oc,hoc,I.freeC x c hc⟩ hs,by simpa using I.len⟩ ⟨c,hs,.inr hc⟩
  ·exact(hs.2 b (xr (xv (xj e) (I.ok.cab x c hfn hc)))).trans (I.base.keep b o e n hb hx)
  ·obtain⟨sl,e1⟩:=I.base.slot b o e n hb hx
   exact⟨sl,(hs.2 b (xr (xv (xj e) (I.ok.cab x c hfn hc)))).trans e1⟩
  ·obtain⟨o',e1⟩:=I.base.there b o e hx
   exact⟨o',(hs.2 b (xr (xv (xj e) (I.ok.cab x c hfn hc)))).trans e1⟩
  ·by_cases hj:j=i
   ·subst hj
    rw[hi]at e1;cases e1
    rw[vW hiσ]at e2
    cases e2
    exact⟨u,r,.inr ⟨.inl hk,c,hc,hc'⟩⟩
   ·rw[vX (xB hj)]at e2
    obtain⟨u',r',q⟩:=hl j y v' e1 e2 e3
    refine⟨u',r',?_⟩
    rcases q with q|⟨k,c',e,z'⟩
    ·exact .inl q
    ·refine .inr ⟨k,c',e,z'.sameBut hs ?_⟩
     rintro rfl
     exact hj (zM3 hN e1 (I.ok.inj _ _ _ e hc ▸ hi))
  ·by_cases hcc:c'=c
   ·subst hcc;exact⟨_,hc'⟩
   ·obtain⟨w2,z2⟩:=I.cell y c' e
    exact⟨w2,z2.sameBut hs hcc⟩
  ·obtain⟨e,n,ne,nf,d⟩:=I.pin p hp
   refine⟨(hs.2 p.1 ?_).trans e,n,ne,nf,d⟩
   intro q
   rw[q,hoc]at e
   have q':oc=p.2:=xD e
   exact d w' (by rw[<- q'];exact hocd)
theorem zH3 {M:Model}{A:Around}{E:Value->Shared->Prop}{i:Nat}{x:Str}{v:V}{u:Value}{Q:Unit->Shared->Prop}(I:Inv X pins σ H s) (hN:X.N.Nodup) (hi:X.N[i]?=some x) (hx:Loc X.env.scope x) (r:RelV v u)
  (h:∀s',Inv X pins (σ.set i (some v)) H s'->Q () s') (hf:X.fn x=true\/X.env.scope.names.lookup x=some .local:=by first|exact .inl rfl|exact .inr rfl|assumption):wpAny M A (storeName X.env x u) Q E s:=
 zJs I hN hi hx r (fun s' I' _=>h s' I') hf
theorem Inv.call' {s':Shared}{ch:List Addr}(I:Inv X pins σ H s) (ho:s'.os=s.os) (u:Un (frs X.stack) ch H H' s.heap s'.heap) (hok:HOk X.prog X.w H' s'.heap) (hg:AllBare s'.gens)
  (hch:∀b∈ch,(b∈X.ex\/X.s₀.heap.objs.size<=b)/\b≠X.env.locals/\(∀x c,X.env.cells.lookup x=some c->c≠b)/\∀p∈X.pn++pins,p.1≠b):Inv X pins σ H' s':=by
 obtain⟨h',g',d',t',o'⟩:=s'
 have e:o'=s.os:=ho
 subst e
 exact I.call (g':=g') (t':=t') (d':=d') u hok hg hch
end
noncomputable abbrev XK:=Value->Option Addr->Hp->Prop
noncomputable abbrev St:=List (Option V)
noncomputable abbrev VK:=V->Hp->Prop
noncomputable abbrev TE:=St->Hp->VK->Prop
noncomputable abbrev TT:=St->Hp->(Bool->Hp->Prop)->Prop
noncomputable abbrev TA:=St->Hp->(List V->Hp->Prop)->Prop
structure Ends where
 nx:St->Hp->Prop
 rt:VK
 bk:St->Hp->Prop:=fun _ _=>False
 ct:St->Hp->Prop:=fun _ _=>False
noncomputable abbrev TS:=Ends->St->Hp->Prop
noncomputable def EP (X:Cx) (pins:List (Addr × Obj)) (σ:St) (Q:VK) (u:Value) (s':Shared):Prop:=∃v H',Inv X pins σ H' s'/\RelV v u/\Q v H'
noncomputable def TP (X:Cx) (pins:List (Addr × Obj)) (σ:St) (Q:Bool->Hp->Prop) (b:Bool) (s':Shared):Prop:=∃H',Inv X pins σ H' s'/\Q b H'
noncomputable def AP (X:Cx) (pins:List (Addr × Obj)) (σ:St) (Q:List V->Hp->Prop) (us:List Value) (s':Shared):Prop:=∃vs H',Inv X pins σ H' s'/\Vals vs us/\Q vs H'
noncomputable def SP (X:Cx) (pins:List (Addr × Obj)) (D:Ends) (f:Flow) (s':Shared):Prop:=
 match f with
 | .next=>∃σ' H',Inv X pins σ' H' s'/\D.nx σ' H'
 | .brk=>∃σ' H',Inv X pins σ' H' s'/\D.bk σ' H'
 | .cont=>∃σ' H',Inv X pins σ' H' s'/\D.ct σ' H'
 | .ret u=>∃v σ' H',Inv X pins σ' H' s'/\RelV v u/\D.rt v H'
noncomputable def PE (X:Cx) (e:Expr) (t:TE):Prop:=
 ∀(pins:List (Addr × Obj)) (s:Shared) (σ:St) (H:Hp) (Q:VK),Inv X pins σ H s->t σ H Q->wpAny (model X.prog X.w) X.A (eval e X.env) (EP X pins σ Q) X.xe s
noncomputable def PT (X:Cx) (e:Expr) (t:TT):Prop:=
 ∀(pins:List (Addr × Obj)) (s:Shared) (σ:St) (H:Hp) (Q:Bool->Hp->Prop),Inv X pins σ H s->t σ H Q->wpAny (model X.prog X.w) X.A (isTrue e X.env (eval e X.env)) (TP X pins σ Q) X.xe s
noncomputable def PW (X:Cx) (e:Expr) (t:TT):Prop:=
 ∀(whole:Sem Value) (pins:List (Addr × Obj)) (s:Shared) (σ:St) (H:Hp) (Q:Bool->Hp->Prop),Inv X pins σ H s->t σ H Q->wpAny (model X.prog X.w) X.A (isTrue e X.env whole) (TP X pins σ Q) X.xe s
theorem PW.pt {X:Cx}{e:Expr}{t:TT}(h:PW X e t):PT X e t:=h _
noncomputable def PA (X:Cx) (es:List Expr) (t:TA):Prop:=
 ∀(pos:Pos) (pins:List (Addr × Obj)) (s:Shared) (σ:St) (H:Hp) (Q:List V->Hp->Prop),Inv X pins σ H s->t σ H Q->wpAny (model X.prog X.w) X.A (spliced (backTo pos (starEach es X.env))) (AP X pins σ Q) X.xe s
noncomputable def PS (X:Cx) (st:Stmt) (t:TS):Prop:=
 ∀(pins:List (Addr × Obj)) (s:Shared) (σ:St) (H:Hp) (D:Ends),Inv X pins σ H s->t D σ H->wpAny (model X.prog X.w) X.A (exec st X.env) (SP X pins D) X.xe s
noncomputable def PSs (X:Cx) (st:List Stmt) (t:TS):Prop:=
 ∀(pins:List (Addr × Obj)) (s:Shared) (σ:St) (H:Hp) (D:Ends),Inv X pins σ H s->t D σ H->wpAny (model X.prog X.w) X.A (execs st X.env) (SP X pins D) X.xe s
theorem thn {α:Type}{t:Sem α}{Q Q':α->Shared->Prop}{M:Model}{A:Around}{E:Value->Shared->Prop}{s:Shared}(h:wpAny M A t Q E s) (hQ:∀a s,Q a s->Q' a s):wpAny M A t Q' E s:=xW h hQ fun _ _ x=>x
end L2
namespace L2
open PySem PySem.Spec PyProof.Rows
section
variable {X:Cx}
noncomputable def tVar (i:Nat):TE:=fun σ H Q=>∃v,σ[i]?=some (some v)/\Q v H
noncomputable def tC (v:V):TE:=fun _ H Q=>Q v H
theorem zWc {i:Nat}{x:Str}{pos:Pos}(hN:X.N[i]?=some x) (hv:Vis X.env.scope x) (hd:(x == ("__debug__":Str))=false:=by decide) (hcd:(x == ("__classdict__":Str))=false:=by decide):PE X (.Name x pos) (tVar i):=by
 intro pins s σ H Q I h
 obtain⟨v,e,h⟩:=h
 obtain⟨m,hn,hl⟩:=I.loc
 obtain⟨u,r,l⟩:=hl i x v hN e hv
 have fin:EP X pins σ Q u s:=⟨v,H,I,r,h⟩
 rcases l with⟨hk,hm⟩|⟨hk,c,hc,hcell⟩
 ·exact wpAny_Name (wpAny_loadName_local I.ok.kind hk hn hm fin) hd
 ·rcases hk with hk|hk
  ·exact wpAny_Name (wpAny_loadName_cell I.ok.kind hk hc hcell fin) hd
  ·exact wpAny_Name (wpAny_loadName_free I.ok.kind hk hc hcell fin hcd) hd
theorem zWl {i j pos}:PE X (.Constant (.int i) j pos) (tC (.int i)):=fun _ _ _ H _ I h=>wpAny_Constant_int ⟨.int i,H,I.tok _,⟨_,rfl⟩,h⟩
theorem zYg {b j pos}:PE X (.Constant (.bool b) j pos) (tC (.bl b)):=fun _ _ _ H _ I h=>Constant_bool ⟨.bl b,H,I,rfl,h⟩
theorem zWj {j pos}:PE X (.Constant .none j pos) (tC .non):=fun _ _ _ H _ I h=>Constant_none ⟨.non,H,I,rfl,h⟩
theorem zWf {x j pos}:PE X (.Constant (.str x) j pos) (tC (.str x)):=fun _ _ _ H _ I h=>Calls.Constant_str ⟨.str x,H,I.tok _,⟨_,rfl⟩,h⟩
noncomputable def Gl (X:Cx) (x:Str):Prop:=X.env.kindOf x=some .globalImplicit
theorem zOq {E:Value->Shared->Prop}{pins:List (Addr × Obj)}{s:Shared}{σ:St}{H:Hp}{x:Str}{u:Value}{pos:Pos}{Q:Value->Shared->Prop}(I:Inv X pins σ H s) (hg:Gl X x) (hm:X.mg x=some u) (h:Q u s)
  (hd:(x == ("__debug__":Str))=false:=by decide):wpAny (model X.prog X.w) X.A (eval (.Name x pos) X.env) Q E s:=
 Calls.Name_function_global I.ok.kind hg (Calls.loadGlobal_global (by rw[I.ok.glob];exact I.mod.glob.keeps I.bk) hm h) hd
theorem zGe {E:Value->Shared->Prop}{pins:List (Addr × Obj)}{s:Shared}{σ:St}{H:Hp}{x:Str}{u:Value}{pos:Pos}{Q:Value->Shared->Prop}(I:Inv X pins σ H s) (hg:Gl X x) (hm:X.mg x=none) (hv:bootBuiltins x=some u) (h:Q u s)
  (hn:x≠"__name__":=by decide) (hd:(x == ("__debug__":Str))=false:=by decide):wpAny (model X.prog X.w) X.A (eval (.Name x pos) X.env) Q E s:=by
 obtain⟨mb,h1,h2⟩:=I.mod.blt
 exact Calls.Name_function_global I.ok.kind hg (Calls.loadGlobal_builtin (by rw[I.ok.glob];exact I.mod.glob.keeps I.bk) hm (by rw[I.ok.blt];exact h1.keeps I.bk) ((h2 x hn).trans hv) h) hd
theorem zU4 {x:Str}{v:V}{u:Value}{pos:Pos}(hg:Gl X x) (hm:X.mg x=some u) (r:RelV v u) (hd:(x == ("__debug__":Str))=false:=by decide):PE X (.Name x pos) (tC v):=
 fun _ _ _ H _ I h=>zOq I hg hm ⟨v,H,I,r,h⟩ hd
theorem zU7 {x:Str}{v:V}{u:Value}{pos:Pos}(hg:Gl X x) (hm:X.mg x=none) (hv:bootBuiltins x=some u) (r:RelV v u) (hn:x≠"__name__":=by decide) (hd:(x == ("__debug__":Str))=false:=by decide):PE X (.Name x pos) (tC v):=
 fun _ _ _ H _ I h=>zGe I hg hm hv ⟨v,H,I,r,h⟩ hn hd
variable {a b:Expr}{ta tb:TE}{pos:Pos}
variable {tA tB':TT}{rest:List Expr}
noncomputable def tAnd (t u:TT):TT:=fun σ H Q=>t σ H fun c H1=>if c=true then u σ H1 Q else Q false H1
noncomputable def tOr (t u:TT):TT:=fun σ H Q=>t σ H fun c H1=>if c=true then Q true H1 else u σ H1 Q
noncomputable def tNot (t:TT):TT:=fun σ H Q=>t σ H fun c H1=>Q (!c) H1
theorem zTi (ha:PT X a tA):PW X (.BoolOp .And [a] pos) tA:=by
 intro wh pins s σ H Q I h
 refine isTrue_and (thn (ha pins s σ H Q I h) fun c s1 e=>?_)
 cases c with
 | true=>exact isTrue_and_nil e
 | false=>exact e
theorem zW0 (ha:PT X a tA):PW X (.BoolOp .Or [a] pos) tA:=by
 intro wh pins s σ H Q I h
 refine isTrue_or (thn (ha pins s σ H Q I h) fun c s1 e=>?_)
 cases c with
 | false=>exact isTrue_or_nil e
 | true=>exact e
theorem zW2 (ha:PT X a tA) (hb:PW X (.BoolOp .And (b::rest) pos) tB'):PW X (.BoolOp .And (a::b::rest) pos) (tAnd tA tB'):=by
 intro wh pins s σ H Q I h
 refine isTrue_and (thn (ha pins s σ H _ I h) fun c s1 hq1=>?_)
 obtain⟨H1,I1,q1⟩:=hq1
 cases c with
 | true=>exact hb wh pins s1 σ H1 Q I1 q1
 | false=>exact⟨H1,I1,q1⟩
theorem zY8 (ha:PT X a tA) (hb:PW X (.BoolOp .Or (b::rest) pos) tB'):PW X (.BoolOp .Or (a::b::rest) pos) (tOr tA tB'):=by
 intro wh pins s σ H Q I h
 refine isTrue_or (thn (ha pins s σ H _ I h) fun c s1 hq1=>?_)
 obtain⟨H1,I1,q1⟩:=hq1
 cases c with
 | true=>exact⟨H1,I1,q1⟩
 | false=>exact hb wh pins s1 σ H1 Q I1 q1
theorem zW3 (ha:PT X a tA):PT X (.UnaryOp .Not a pos) (tNot tA):=by
 intro pins s σ H Q I h
 exact isTrue_not (ha pins s σ H (fun c H1=>Q (!c) H1) I h)
noncomputable def tOrV (ta tb:TE):TE:=fun σ H Q=>ta σ H fun x H1=>∃c,x=.bl c/\if c=true then Q (.bl true) H1 else tb σ H1 Q
theorem zWi {op}{t:TE}(h:PE X a t):PE X (.BoolOp op [a] pos) t:=fun pins s σ H Q I hw=>BoolOp_one (h pins s σ H Q I hw)
theorem zYc (ha:PE X a ta) (hb:PE X (.BoolOp .Or (b::rest) pos) tb):PE X (.BoolOp .Or (a::b::rest) pos) (tOrV ta tb):=by
 intro pins s σ H Q I h
 refine BoolOp_or (thn (ha pins s σ H _ I h) fun v s1 hq1=>?_)
 obtain⟨x,H1,I1,r1,q1⟩:=hq1
 obtain⟨c,rfl,q1⟩:=q1
 cases r1
 refine vz ?_
 cases c with
 | false=>exact hb pins s1 σ H1 Q I1 q1
 | true=>exact⟨.bl true,H1,I1,rfl,q1⟩
noncomputable def tIf (t:TT) (ta tb:TE):TE:=fun σ H Q=>t σ H fun c H1=>if c=true then ta σ H1 Q else tb σ H1 Q
theorem zR1 {c:Expr}(hc:PT X c tA) (ha:PE X a ta) (hb:PE X b tb):PE X (.IfExp c a b pos) (tIf tA ta tb):=by
 intro pins s σ H Q I h
 refine wpAny_IfExp (thn (hc pins s σ H _ I h) fun d s1 hq1=>?_)
 obtain⟨H1,I1,q1⟩:=hq1
 cases d with
 | true=>exact ha pins s1 σ H1 Q I1 q1
 | false=>exact hb pins s1 σ H1 Q I1 q1
end
end L2
namespace L2
open PySem PySem.Spec PyProof.Rows
noncomputable def SqL (K:PySem.W.Frag) (H:Hp) (a:Addr) (xs:List V):Prop:=
 Rd H a (.lst xs) \/
  ∃(o:Obj) (its:Array Value) (n:Nat),K.lookup a=some o/\o.cls=.type "list"/\o.dict=none/\o.data=.seq its n/\its.size<=sizeLine/\Vals xs its.toList
noncomputable def SqT (K:PySem.W.Frag) (H:Hp) (a:Addr) (xs:List V):Prop:=
 Rd H a (.tup xs) \/
  ∃(o:Obj) (its:Array Value) (n:Nat),K.lookup a=some o/\o.cls=.type "tuple"/\o.data=.seq its n/\its.size<=sizeLine/\Vals xs its.toList
noncomputable def absV:Value->Option V
 | .none=>some .non
 | .bool b=>some (.bl b)
 | .int i _=>some (.int i)
 | .str x _=>some (.str x)
 | .bytes b _=>some (.byt b)
 | .float b _=>some (.flt b)
 | .ref a=>some (.ref a)
 | .type n=>some (.ty n)
 | _=>none
theorem RelV.abs {x:V}{u:Value}(r:RelV x u):absV u=some x:=by
 cases x with
 | non=>cases r;rfl
 | bl _=>cases r;rfl
 | int _=>obtain⟨t,rfl⟩:=r;rfl
 | str _=>obtain⟨t,rfl⟩:=r;rfl
 | byt _=>obtain⟨t,rfl⟩:=r;rfl
 | flt _=>obtain⟨t,rfl⟩:=r;rfl
 | ref _=>cases r;rfl
 | ty _=>cases r;rfl
theorem RelV.inj {x y:V}{u:Value}(r:RelV x u) (q:RelV y u):x=y:=xD (r.abs.symm.trans q.abs)
theorem Vals.inj:∀{xs ys:List V}{us:List Value},Vals xs us->Vals ys us->xs=ys
 | _,_,_,.nil,.nil=>rfl
 | _,_,_,.cons r t,.cons r' t'=>by rw[r.inj r',Vals.inj t t']
section
variable {X:Cx}{pins:List (Addr × Obj)}{σ:St}{H:Hp}{s:Shared}{a:Addr}{xs ys:List V}
theorem SqL.of {K:PySem.W.Frag}(h:H a=some (.lst xs)):SqL K H a xs:=.inl (.inl h)
theorem SqT.of {K:PySem.W.Frag}(h:H a=some (.tup xs)):SqT K H a xs:=.inl (.inl h)
theorem Inv.list (I:Inv X pins σ H s) (h:SqL X.K H a xs):∃its:List Value,Vals xs its/\PlainL s.heap a its.toArray/\xs.length<=sizeLine:=by
 rcases h with h|⟨o,its,n,hk,hc,hd,hs,hz,r⟩
 ·obtain⟨z,its,n,r,e⟩:=h.ok I.hok
  exact⟨its,r,⟨_,n,e,rfl,rfl,rfl⟩,z⟩
 ·refine⟨its.toList,r,⟨o,n,I.kIn a o hk,hc,hd,by simpa using hs⟩,?_⟩
  have e:=r.length
  simp only[uu]at e
  lia
theorem Inv.tuple (I:Inv X pins σ H s) (h:SqT X.K H a xs):∃its:List Value,Vals xs its/\IsTup s.heap a its.toArray/\xs.length<=sizeLine:=by
 rcases h with h|⟨o,its,n,hk,hc,hs,hz,r⟩
 ·obtain⟨z,its,r,p⟩:=h.ok I.hok
  exact⟨its,r,p,z⟩
 ·refine⟨its.toList,r,⟨o,I.kIn a o hk,hc,n,by simpa using hs⟩,?_⟩
  have e:=r.length
  simp only[uu]at e
  lia
theorem Inv.list_inj (I:Inv X pins σ H s) (h:SqL X.K H a xs) (h':SqL X.K H a ys):xs=ys:=by
 obtain⟨its,r,⟨o,n,e,_,_,d⟩,_⟩:=I.list h
 obtain⟨its',r',⟨o',n',e',_,_,d'⟩,_⟩:=I.list h'
 rw[e]at e';cases e'
 rw[d]at d'
 injection d' with d1 _
 have:its=its':=by simpa using congrArg Array.toList d1
 subst this
 exact r.inj r'
theorem Inv.tuple_inj (I:Inv X pins σ H s) (h:SqT X.K H a xs) (h':SqT X.K H a ys):xs=ys:=by
 obtain⟨its,r,⟨o,e,_,n,d⟩,_⟩:=I.tuple h
 obtain⟨its',r',⟨o',e',_,n',d'⟩,_⟩:=I.tuple h'
 rw[e]at e';cases e'
 rw[d]at d'
 injection d' with d1 _
 have:its=its':=by simpa using congrArg Array.toList d1
 subst this
 exact r.inj r'
end
noncomputable abbrev Cx.wish (X:Cx) (E:Value->Shared->Prop):Cx:={ X with xe:=E }
noncomputable abbrev Cx.nox (X:Cx):Cx:=X.wish fun _ _=>False
theorem Cx.Ok.wish {X:Cx}(ok:X.Ok) (E:Value->Shared->Prop):(X.wish E).Ok:=
 ⟨ok.mod,ok.kind,ok.glob,ok.blt,ok.above,ok.inj,ok.has,ok.cab,ok.hd,ok.frames,ok.stk,ok.exf,ok.bs,ok.bsz,ok.noex,ok.exfs,ok.funs,ok.frf⟩
theorem Cx.Ok.unwish {X:Cx}{E:Value->Shared->Prop}(ok:(X.wish E).Ok):X.Ok:=
 ⟨ok.mod,ok.kind,ok.glob,ok.blt,ok.above,ok.inj,ok.has,ok.cab,ok.hd,ok.frames,ok.stk,ok.exf,ok.bs,ok.bsz,ok.noex,ok.exfs,ok.funs,ok.frf⟩
section
variable {X:Cx}{pins:List (Addr × Obj)}{σ:St}{H:Hp}{s:Shared}{E:Value->Shared->Prop}
theorem Inv.wish (I:Inv X pins σ H s) (E:Value->Shared->Prop):Inv (X.wish E) pins σ H s:=⟨I.ok.wish E,I.os,I.bare,I.base,I.loc,I.cell,I.free,I.freeC,I.pin,I.hok,I.len⟩
theorem Inv.unwish (I:Inv (X.wish E) pins σ H s):Inv X pins σ H s:=⟨I.ok.unwish,I.os,I.bare,I.base,I.loc,I.cell,I.free,I.freeC,I.pin,I.hok,I.len⟩
theorem SP.unwish {D:Ends}{f:Flow}{s':Shared}(h:SP (X.wish E) pins D f s'):SP X pins D f s':=by
 cases f with
 | next=>obtain⟨σ',H',I,q⟩:=h;exact⟨σ',H',I.unwish,q⟩
 | brk=>obtain⟨σ',H',I,q⟩:=h;exact⟨σ',H',I.unwish,q⟩
 | cont=>obtain⟨σ',H',I,q⟩:=h;exact⟨σ',H',I.unwish,q⟩
 | ret u=>obtain⟨v,σ',H',I,r,q⟩:=h;exact⟨v,σ',H',I.unwish,r,q⟩
theorem PSs.nox {st:List Stmt}{t:TS}(h:PSs X.nox st t):PSs X st t:=fun pins s σ H D I hw=>
 xW (h pins s σ H D (I.wish _) hw) (fun _ _ q=>q.unwish) fun _ _ z=>False.elim z
end
section
variable {X:Cx}{st:Stmt}{rest:List Stmt}{t u:TS}{e:Expr}{te:TE}{pos:Pos}
noncomputable def zVm:TS:=fun D σ H=>D.nx σ H
noncomputable def tSeq (t u:TS):TS:=fun D σ H=>t { D with nx:=u D } σ H
theorem zTn:PSs X [] zVm:=fun _ _ σ H _ I h=>wpAny_execs_nil ⟨σ,H,I,h⟩
theorem zQp (h1:PS X st t) (h2:PSs X rest u):PSs X (st::rest) (tSeq t u):=by
 intro pins s σ H D I h
 refine wpAny_execs_cons (thn (h1 pins s σ H { D with nx:=u D } I h) fun f s1 q=>?_)
 cases f with
 | next=>
  obtain⟨σ',H',I',q⟩:=q
  exact h2 pins s1 σ' H' D I' q
 | ret v=>exact q
 | brk=>exact q
 | cont=>exact q
theorem zTm (h1:PS X st t):PSs X [st] t:=by
 intro pins s σ H D I h
 refine wpAny_execs_cons (thn (h1 pins s σ H D I h) fun f s1 q=>?_)
 cases f with
 | next=>exact wpAny_execs_nil q
 | ret v=>exact q
 | brk=>exact q
 | cont=>exact q
theorem Inv.quiet {pins:List (Addr × Obj)}{σ:St}{H:Hp}{s:Shared}(I:Inv X pins σ H s):interactive X.env=false:=by simp[interactive,I.ok.kind]
noncomputable def zT4 (te:TE):TS:=fun D σ H=>te σ H fun _ H1=>D.nx σ H1
theorem zTq (he:PE X e te) (hs:swapsWith e none pos.line X.env=pure false:=by rfl):PS X (.Expr e pos) (zT4 te):=by
 intro pins s σ H D I h
 exact wpAny_Expr_any (thn (he pins s σ H _ I h) fun v s1 hz1=>by obtain⟨x,H1,I1,r1,q1⟩:=hz1;exact ⟨σ,H1,I1,q1⟩) I.quiet hs
noncomputable def tRet (te:TE):TS:=fun D σ H=>te σ H D.rt
theorem zW5 (he:PE X e te):PS X (.Return (some e) pos) (tRet te):=by
 intro pins s σ H D I h
 exact wpAny_Return_some (thn (he pins s σ H _ I h) fun v s1 hz2=>by obtain⟨x,H1,I1,r1,q1⟩:=hz2;exact ⟨x,σ,H1,I1,r1,q1⟩)
noncomputable def tIfS (c:TT) (t u:TS):TS:=fun D σ H=>c σ H fun b H1=>if b=true then t D σ H1 else u D σ H1
theorem zY9 {c:Expr}{a b:List Stmt}{tc:TT}(hc:PT X c tc) (ha:PSs X a t) (hb:PSs X b u):PS X (.If c a b pos) (tIfS tc t u):=by
 intro pins s σ H D I h
 refine wpAny_If (thn (hc pins s σ H _ I h) fun d s1 hq1=>?_)
 obtain⟨H1,I1,q1⟩:=hq1
 cases d with
 | true=>exact ha pins s1 σ H1 D I1 q1
 | false=>exact hb pins s1 σ H1 D I1 q1
end
noncomputable abbrev TG:=V->St->Hp->(St->Hp->Prop)->Prop
noncomputable abbrev TGs:=List V->St->Hp->(St->Hp->Prop)->Prop
noncomputable def PG (X:Cx) (target:Expr) (t:TG):Prop:=
 ∀(pins:List (Addr × Obj)) (s:Shared) (σ:St) (H:Hp) (v:V) (u:Value) (Q:St->Hp->Prop),Inv X pins σ H s->RelV v u->t v σ H Q->
  wpAny (model X.prog X.w) X.A (assign target X.env u) (fun _ s'=>∃σ' H',Inv X pins σ' H' s'/\Q σ' H') X.xe s
noncomputable def PGs (X:Cx) (ts:List Expr) (t:TGs):Prop:=
 ∀(pins:List (Addr × Obj)) (s:Shared) (σ:St) (H:Hp) (vs:List V) (us:List Value) (Q:St->Hp->Prop),Inv X pins σ H s->Vals vs us->t vs σ H Q->
  wpAny (model X.prog X.w) X.A (assignInOrder ((assignEach ts X.env).map (·.2)) us) (fun _ s'=>∃σ' H',Inv X pins σ' H' s'/\Q σ' H') X.xe s
noncomputable abbrev TSet:=V->V->V->Hp->(Hp->Prop)->Prop
noncomputable def PSet (X:Cx) (t:TSet):Prop:=
 ∀(pins:List (Addr × Obj)) (s:Shared) (σ:St) (H:Hp) (o i v:V) (ov iv u:Value) (Q:Hp->Prop),Inv X pins σ H s->RelV o ov->RelV i iv->RelV v u->t o i v H Q->
  wpAny (model X.prog X.w) X.A (setItem ov iv u) (fun _ s'=>∃H',Inv X pins σ H' s'/\Q H') X.xe s
section
variable {X:Cx}{pos:Pos}
noncomputable def gName (i:Nat):TG:=fun v σ H Q=>Q (σ.set i (some v)) H
theorem zTx {i:Nat}{x:Str}(hN:X.N.Nodup) (hi:X.N[i]?=some x) (hx:Loc X.env.scope x) (hf:X.fn x=true\/X.env.scope.names.lookup x=some .local:=by first|exact .inl rfl|exact .inr rfl|assumption):PG X (.Name x pos) (gName i):=by
 intro pins s σ H v u Q I r h
 exact wpAny_assign_Name (zH3 I hN hi hx r (fun s' I'=>⟨_,H,I',h⟩) hf)
noncomputable def gNil:TGs:=fun vs σ H Q=>vs=[]/\Q σ H
noncomputable def zUt (t:TG) (u:TGs):TGs:=fun vs σ H Q=>∃v r,vs=v::r/\t v σ H fun σ' H'=>u r σ' H' Q
theorem zTv:PGs X [] gNil:=by
 intro pins s σ H vs us Q I r h
 obtain⟨e,h⟩:=h
 subst e
 cases r
 exact assignInOrder_nil ⟨σ,H,I,h⟩
theorem zQx {e:Expr}{es:List Expr}{t:TG}{u:TGs}(h1:PG X e t) (h2:PGs X es u)
  (hs:(assignEach (e::es) X.env).map (·.2)=assign e X.env::(assignEach es X.env).map (·.2):=by rfl):PGs X (e::es) (zUt t u):=by
 intro pins s σ H vs us Q I r h
 obtain⟨v,vr,e1,h⟩:=h
 subst e1
 cases r with
 | cons r rr=>
  rw[hs]
  refine assignInOrder_cons (thn (h1 pins s σ H _ _ _ I r h) fun _ s1 hq1=>?_)
  obtain⟨σ1,H1,I1,q1⟩:=hq1
  exact h2 pins s1 σ1 H1 _ _ Q I1 rr q1
noncomputable def gTup (K:PySem.W.Frag) (n:Nat) (t:TGs):TG:=fun v σ H Q=>∃a xs,v=.ref a/\SqT K H a xs/\xs.length=n/\t xs σ H Q
theorem zWa {es:List Expr}{k:Nat}{t:TGs}{n:Nat}(hc:X.calm=true) (h:PGs X es t)
  (hn:(assignEach es X.env).length=n:=by rfl) (hst:(assignEach es X.env).findIdx? (·.1)=none:=by rfl):PG X (.Tuple es k pos) (gTup X.K n t):=by
 intro pins s σ H v u Q I r hw
 obtain⟨a,xs,e1,hq,hl,hw⟩:=hw
 subst e1
 cases r
 obtain⟨its,rv,ht,hz⟩:=I.tuple hq
 refine assign_Tuple_tuple (I.ok.hd hc) ht (by simp[hn,<- hl,rv.length]) hst fun h' hx=>?_
 have I1:Inv X pins σ H { s with heap:=h' }:=I.kept (t':=s.toks) fun b o e=>hx b o (xr (xj e)) e
 exact h pins _ σ H xs _ Q I1 (by simpa using rv) hw
noncomputable def gSub (to ti:TE) (t:TSet):TG:=fun v σ H Q=>to σ H fun o H1=>ti σ H1 fun i H2=>t o i v H2 fun H3=>Q σ H3
theorem zWb {o i:Expr}{to ti:TE}{t:TSet}(ho:PE X o to) (hi:PE X i ti) (hs:PSet X t)
  (ha:∀v,assign (.Subscript o i pos) X.env v=(do
   let ov <- holding [v] (eval o X.env)
   let iv <- holding [v,ov] (eval i X.env)
   standAt pos
   holding [v,ov,iv] (setItem ov iv v)
   release [v,ov,iv] []):=by intro _;rfl):PG X (.Subscript o i pos) (gSub to ti t):=by
 intro pins s σ H v u Q I r h
 rw[ha]
 refine xa (xH (thn (ho pins s σ H _ I h) fun ov s1 hq1=>?_))
 obtain⟨x,H1,I1,r1,q1⟩:=hq1
 refine xa (xH (thn (hi pins s1 σ H1 _ I1 q1) fun iv s2 hq1=>?_))
 obtain⟨y,H2,I2,r2,q2⟩:=hq1
 refine xa (vN (xa (xH (thn (hs pins s2 σ H2 x y v ov iv u _ I2 r1 r2 r q2) fun _ s3 hq1=>?_))))
 obtain⟨H3,I3,q3⟩:=hq1
 exact wpAny_release ⟨σ,H3,I3,q3⟩
noncomputable def tAsg (te:TE) (g:TG):TS:=fun D σ H=>te σ H fun x H1=>g x σ H1 D.nx
theorem zSi {tg e:Expr}{te:TE}{g:TG}(he:PE X e te) (hg:PG X tg g) (hs:swapsWithSole [tg] e pos.line X.env=pure false:=by rfl) (hw:swappedStores [tg] e X.env=pure none:=by rfl)
  (h1:(assignEach [tg] X.env).map (·.2)=[assign tg X.env]:=by rfl):PS X (.Assign [tg] e pos) (tAsg te g):=by
 intro pins s σ H D I h
 refine wpAny_Assign_stores (thn (he pins s σ H _ I h) fun v s1 hq1=>?_) hs hw
 obtain⟨x,H1,I1,r1,q1⟩:=hq1
 rw[h1]
 exact thn (hg pins s1 σ H1 x v _ I1 r1 q1) fun _ s2 q=>q
theorem zW4 {i:Nat}{x:Str}{e:Expr}{te:TE}{pos':Pos}(hN:X.N.Nodup) (hi:X.N[i]?=some x) (hx:Loc X.env.scope x) (he:PE X e te) (hs:swapsWith e (some (.Name x pos')) pos.line X.env=pure false:=by rfl) (hf:X.fn x=true\/X.env.scope.names.lookup x=some .local:=by first|exact .inl rfl|exact .inr rfl|assumption):
  PS X (.Assign [.Name x pos'] e pos) (tAsg te (gName i)):=by
 intro pins s σ H D I h
 refine wpAny_Assign_Name (thn (he pins s σ H _ I h) fun v s1 hq1=>?_) hs
 obtain⟨y,H1,I1,r1,q1⟩:=hq1
 exact zH3 I1 hN hi hx r1 (fun s2 I2=>⟨_,H1,I2,q1⟩) hf
noncomputable def tPar (i j:Nat) (ta:TA):TS:=fun D σ H=>ta σ H fun vs H1=>∃v w,vs=[v,w]/\D.nx ((σ.set i (some v)).set j (some w)) H1
theorem zW6 {i j:Nat}{x y:Str}{a b:Expr}{ta:TA}{px py pt:Pos}{kt k2 pt2} (hc:X.calm=true) (hN:X.N.Nodup) (hi:X.N[i]?=some x) (hj:X.N[j]?=some y) (hij:i≠j)
  (hx:X.env.scope.names.lookup x=some .local) (hy:X.env.scope.names.lookup y=some .local) (ha:PA X [a,b] ta)
  (hw:swappedStores [.Tuple [.Name x px,.Name y py] kt pt] (.Tuple [a,b] k2 pt2) X.env=pure (some [x,y]))
  (hs:swapsWithSole [.Tuple [.Name x px,.Name y py] kt pt] (.Tuple [a,b] k2 pt2) pos.line X.env=pure false:=by rfl):
  PS X (.Assign [.Tuple [.Name x px,.Name y py] kt pt] (.Tuple [a,b] k2 pt2) pos) (tPar i j ta):=by
 intro pins s σ H D I h
 rw[exec_Assign_arm]
 refine xa (vN ?_)
 rw[hs]
 refine xa (xf ?_)
 rw[xg (by decide)]
 refine xa (Tuple_ (thn (ha _ pins s σ H _ I h) fun us s1 hq1=>?_))
 obtain⟨vs,H1,I1,r1,q1⟩:=hq1
 obtain⟨v,w,e1,q1⟩:=q1
 subst e1
 obtain⟨u1,u2,rfl,rv,rw'⟩:∃u1 u2,us=[u1,u2]/\RelV v u1/\RelV w u2:=by
  cases r1 with
  | cons p q=>
   cases q with
   | cons p' q'=>
    cases q'
    exact⟨_,_,rfl,p,p'⟩
 refine x5 ?_ (by show 2<=sizeLine;decide)
 have I2:Inv X pins σ H1 { s1 with heap:=s1.heap.push { cls:=.type "tuple",data:=.seq [u1,u2].toArray } }:=I1.kept (t':=s1.toks) fun b o e=>xk _ e
 rw[hw]
 refine xa (xf ?_)
 show wpAny (model X.prog X.w) X.A (do rule "assign.swapped-stores";let items <- unpackItems (.ref s1.heap.objs.size) 2 none;assignInOrder [fun v=>bindName X.env y v,fun v=>bindName X.env x v] items.reverse;pure Flow.next) _ _ _
 refine xa (vA (xa (unpackItems_tuple (items:=#[u1,u2]) (I.ok.hd hc) (IsTup.new s1.heap _) fun h' hx'=>?_)))
 have I3:=I2.kept (h':=h') (t':=s1.toks) fun b o e=>hx' b o (xr (xj e)) e
 show wpAny _ _ (assignInOrder [fun v=>bindName X.env y v,fun v=>bindName X.env x v] [u2,u1] >>= fun _=>pure Flow.next) _ _ _
 refine xa (assignInOrder_cons (wpAny_bindName (zH3 I3 hN hj (.inl hy) rw' (fun s2 I4=>?_) (.inr hy))))
 refine assignInOrder_cons (wpAny_bindName (zH3 I4 hN hi (.inl hx) rv (fun s3 I5=>assignInOrder_nil (xf ?_)) (.inr hx)))
 rw[List.set_comm _ _ (xB hij)]at I5
 exact⟨_,H1,I5,q1⟩
end
section
variable {X:Cx}{pos:Pos}
noncomputable def zSc (c:TT) (tb:TS):TS:=fun D σ H=>∃W:Nat->St->Hp->Prop,(∃m,W m σ H)/\∀m σ H,W m σ H->
 c σ H fun b H1=>if b=true then ∃N:St->Hp->Prop,(∀σ' H',N σ' H'->∃m',m'<m/\W m' σ' H')/\tb { D with nx:=N,ct:=N,bk:=D.nx } σ H1 else D.nx σ H1
theorem zQq {c:Expr}{body:List Stmt}{tc:TT}{tb:TS}(hp:PassesOwn (model X.prog X.w) X.A X.env X.xe) (hc:PT X c tc) (hb:PSs X body tb):PS X (.While c body [] pos) (zSc tc tb):=by
 intro pins s σ H D I h
 obtain⟨W,⟨m0,w0⟩,turn⟩:=h
 refine wpAny_While (codeAny_whileLoop (fun n s'=>∃σ' H',Inv X pins σ' H' s'/\W n σ' H') ?_ m0 ⟨σ,H,I,w0⟩)
 rintro n s1 ⟨σ1,H1,I1,w1⟩
 refine vO hp (thn (hc pins s1 σ1 H1 _ I1 (turn n σ1 H1 w1)) fun b s2 hq1=>?_)
 obtain⟨H2,I2,q2⟩:=hq1
 cases b with
 | true=>
  obtain⟨N,hN,q2⟩:=q2
  rw[xc rfl]
  refine vO hp (thn (hb pins s2 σ1 H2 _ I2 q2) fun f s3 q3=>?_)
  cases f with
  | next=>
   obtain⟨σ3,H3,I3,n3⟩:=q3
   obtain⟨m',hm,w3⟩:=hN σ3 H3 n3
   exact⟨m',hm,σ3,H3,I3,w3⟩
  | cont=>
   obtain⟨σ3,H3,I3,n3⟩:=q3
   obtain⟨m',hm,w3⟩:=hN σ3 H3 n3
   exact⟨m',hm,σ3,H3,I3,w3⟩
  | brk=>exact q3
  | ret v=>exact q3
 | false=>
  rw[xg uc]
  exact wpAny_execs_nil ⟨σ1,H2,I2,q2⟩
end
structure It where
 go:Nat->Hp->Prop
 yld:Nat->Hp->V->Hp->Prop
 stop:Nat->Hp->Prop
noncomputable def FpOk (X:Cx) (pins:List (Addr × Obj)) (H:Hp) (b:Addr):Prop:=
 H b=none/\b≠X.env.locals/\b ∉ X.fs/\(b∈X.ex\/X.s₀.heap.objs.size<=b)/\(∀x c,X.env.cells.lookup x=some c->c≠b)/\∀p∈X.pn++pins,p.1≠b
theorem Inv.fpOk {X:Cx}{pins:List (Addr × Obj)}{σ:St}{H H':Hp}{s:Shared}{b:Addr}(I:Inv X pins σ H s) (hb:s.heap.objs.size<=b) (hn:H' b=none):FpOk X pins H' b:=by
 refine⟨hn,x6 (xv I.lt hb),I.nofs hb,.inr (xn I.sz hb),fun x c e z=>?_,fun p hp z=>?_⟩
 ·obtain⟨v,q⟩:=I.cell x c e
  exact absurd (xv q.lt (by rw[z];exact hb)) (x4 _)
 ·exact absurd (xv (xj (I.pin p hp).1) (by rw[z];exact hb)) (x4 _)
structure Turn (P:Program) (w:World) (K:PySem.W.Frag) (tg:Expr) (J:It) (fp:List Addr) (it:Addr) (tn:Nat->Heap->Prop):Prop where
 mem:it∈fp
 obj:∀i h,tn i h->∀b∈fp,∃o,h.get? b=some o/\∀v,o.data≠.cell v
 keep:∀i h h',tn i h->(∀b∈fp,∀o,h.get? b=some o->h'.get? b=some o)->tn i h'
 item:∀(X:Cx),X.prog=P->X.w=w->X.K=K->X.calm=true->∀(i:Nat) (pins:List (Addr × Obj)) (s:Shared) (σ:St) (H:Hp) (E:Value->Shared->Prop),Inv X pins σ H s->(∀b∈fp,FpOk X pins H b)->tn i s.heap->J.go i H->
  wpAny (model P w) X.A (pyNext (.ref it)) (fun r s1=>∃u,r=some u /\
   wpAny (model P w) X.A (letOwnedTupleGo tg (.ref it) u) (fun _ s2=>∃x H',Inv X pins σ H' s2/\RelV x u/\J.yld i H x H'/\tn (i+1) s2.heap/\∀b∈fp,H' b=none) E s1) E s
 done:∀(X:Cx),X.prog=P->X.w=w->X.K=K->X.calm=true->∀(i:Nat) (pins:List (Addr × Obj)) (s:Shared) (σ:St) (H:Hp) (E:Value->Shared->Prop),Inv X pins σ H s->(∀b∈fp,FpOk X pins H b)->tn i s.heap->J.stop i H->
  wpAny (model P w) X.A (pyNext (.ref it)) (fun r s1=>r=none/\Inv X pins σ H s1) E s
 self:∀(A:Around) (i:Nat) (s:Shared) (Q:Value->Shared->Prop) (E:Value->Shared->Prop),tn i s.heap->Q (.ref it) s->wpAny (model P w) A (pyIter (.ref it)) Q E s
noncomputable abbrev TI:=St->Hp->(It->Hp->Prop)->Prop
noncomputable def PIE (X:Cx) (pins:List (Addr × Obj)) (σ:St) (tg:Expr) (R:It->Hp->Prop) (itv:Value) (s2:Shared):Prop:=
 ∃(it:Addr) (fp:List Addr) (tn:Nat->Heap->Prop) (J:It) (H':Hp),itv=.ref it/\Inv X pins σ H' s2/\Turn X.prog X.w X.K tg J fp it tn/\tn 0 s2.heap/\(∀b∈fp,FpOk X pins H' b)/\R J H'
noncomputable def PI (X:Cx) (tg iter:Expr) (wi:TI):Prop:=
 ∀(pins:List (Addr × Obj)) (s:Shared) (σ:St) (H:Hp) (R:It->Hp->Prop),Inv X pins σ H s->wi σ H R->
  wpAny (model X.prog X.w) X.A (eval iter X.env) (fun v s1=>wpAny (model X.prog X.w) X.A (pyIter v) (PIE X pins σ tg R) X.xe s1) X.xe s
theorem zRn {M:Model}{A:Around}{E:Value->Shared->Prop}{s:Shared}{tg:Expr}{it:Addr}{u:Value}{o:Obj}{n:String}{vs:Array Value}{Q:Unit->Shared->Prop}(ho:s.heap.get? it=some o) (hc:o.cls=.type n) (hd:o.data=.fields vs)
    (hn:["enumerate","zip","dict_itemiterator","dict_reverseitemiterator","odict_iterator","itertools.zip_longest","itertools.pairwise"].contains n=false) (hQ:Q () s):wpAny M A (letOwnedTupleGo tg (.ref it) u) Q E s:=by
  unfold letOwnedTupleGo
  cases tg <;> first
    | exact xf hQ
    | (cases u <;> first
        | exact xf hQ
        | (refine xa (wpAny_load ho ?_)
           rw[hc,hd]
           show wpAny M A (if(["enumerate","zip","dict_itemiterator","dict_reverseitemiterator","odict_iterator","itertools.zip_longest","itertools.pairwise"].contains n && vs[0]? == some (rawInt _))=true then _ else _) Q E s
           rw[xg (by intro h;rw[hn,Bool.false_and]at h;cases h)]
           exact xf hQ))
noncomputable def Itl (K:PySem.W.Frag) (a:Addr):It:=
 ⟨fun i H=>∃xs x,SqL K H a xs/\xs[i]?=some x,fun i H x H'=>H'=H/\∀xs,SqL K H a xs->xs[i]?=some x,fun i H=>∃xs,SqL K H a xs/\xs.length<=i⟩
noncomputable def Itt (K:PySem.W.Frag) (a:Addr):It:=
 ⟨fun i H=>∃xs x,SqT K H a xs/\xs[i]?=some x,fun i H x H'=>H'=H/\∀xs,SqT K H a xs->xs[i]?=some x,fun i H=>∃xs,SqT K H a xs/\xs.length<=i⟩
noncomputable def Itr (lo:Int) (n:Nat):It:=⟨fun i _=>i<n,fun i H x H'=>H'=H/\x=.int (lo+i),fun i _=>n<=i⟩
theorem zNn {P:Program}{w:World}{K:PySem.W.Frag}{tg:Expr}(a it:Addr):Turn P w K tg (Itl K a) [it] it (fun i h=>h.IsListIter it a i) where
 mem:=by simp
 obj:=fun i h st b hb=>by
  have e:b=it:=by simpa using hb
  subst e
  obtain⟨o,e,c,d⟩:=st
  exact⟨o,e,fun v z=>by rw[d]at z;cases z⟩
 keep:=fun i h h' st k=>st.at fun o e=>k it (by simp) o e
 item:=by
  intro X hP hw hK hc i pins s σ H E I hf st hg
  subst hP hw hK
  obtain⟨xs,x,hq,hx⟩:=hg
  obtain⟨its,rv,p,hz⟩:=I.list hq
  obtain⟨u,hu,ru⟩:=rv.get hx
  obtain⟨f0,f1,f2,f3,f4,f5⟩:=hf it (by simp)
  refine wpAny_pyNext_list_item st p.isList (x:=u) (by simpa using hu) fun h' st' sb=>?_
  have I1:Inv X pins σ H { s with heap:=h' }:=I.turned (t':=s.toks) (fun b o hb e=>(sb.2 b hb).trans e) f0 f1 f3 f4 f5
  obtain⟨o,e,c,d⟩:=id st'
  exact⟨u,rfl,zRn (s:={ s with heap:=h' }) e c d (by decide) ⟨x,H,I1,ru,⟨rfl,fun ys hy=>by rw[I.list_inj hy hq];exact hx⟩,st',fun b hb=>(hf b hb).1⟩⟩
 done:=by
  intro X hP hw hK hc i pins s σ H E I hf st hg
  subst hP hw hK
  obtain⟨xs,hq,hx⟩:=hg
  obtain⟨its,rv,p,hz⟩:=I.list hq
  obtain⟨f0,f1,f2,f3,f4,f5⟩:=hf it (by simp)
  have hl:=rv.length
  exact wpAny_pyNext_list_end (I.ok.hd hc) st p.isList (by simp;lia) fun h' eb=>⟨rfl,I.turned (t':=s.toks) (fun b o hb e=>eb b o hb e) f0 f1 f3 f4 f5⟩
 self:=fun _ _ _ _ _ st h=>wpAny_pyIter_listiter st h
theorem zMt {P:Program}{w:World}{K:PySem.W.Frag}{tg:Expr}(a it:Addr):Turn P w K tg (Itt K a) [it] it (fun i h=>h.IsTupleIter it a i) where
 mem:=by simp
 obj:=fun i h st b hb=>by
  have e:b=it:=by simpa using hb
  subst e
  obtain⟨o,e,c,d⟩:=st
  exact⟨o,e,fun v z=>by rw[d]at z;cases z⟩
 keep:=fun i h h' st k=>st.at fun o e=>k it (by simp) o e
 item:=by
  intro X hP hw hK hc i pins s σ H E I hf st hg
  subst hP hw hK
  obtain⟨xs,x,hq,hx⟩:=hg
  obtain⟨its,rv,p,hz⟩:=I.tuple hq
  obtain⟨u,hu,ru⟩:=rv.get hx
  obtain⟨f0,f1,f2,f3,f4,f5⟩:=hf it (by simp)
  refine wpAny_pyNext_tuple_item st (show s.heap.IsTuple a its.toArray from p) (x:=u) (by simpa using hu) fun h' st' sb=>?_
  have I1:Inv X pins σ H { s with heap:=h' }:=I.turned (t':=s.toks) (fun b o hb e=>(sb.2 b hb).trans e) f0 f1 f3 f4 f5
  obtain⟨o,e,c,d⟩:=id st'
  exact⟨u,rfl,zRn (s:={ s with heap:=h' }) e c d (by decide) ⟨x,H,I1,ru,⟨rfl,fun ys hy=>by rw[I.tuple_inj hy hq];exact hx⟩,st',fun b hb=>(hf b hb).1⟩⟩
 done:=by
  intro X hP hw hK hc i pins s σ H E I hf st hg
  subst hP hw hK
  obtain⟨xs,hq,hx⟩:=hg
  obtain⟨its,rv,p,hz⟩:=I.tuple hq
  obtain⟨f0,f1,f2,f3,f4,f5⟩:=hf it (by simp)
  have hl:=rv.length
  exact wpAny_pyNext_tuple_end (I.ok.hd hc) st (show s.heap.IsTuple a its.toArray from p) (by simp;lia) fun h' eb=>⟨rfl,I.turned (t':=s.toks) (fun b o hb e=>eb b o hb e) f0 f1 f3 f4 f5⟩
 self:=fun _ _ _ _ _ st h=>wpAny_pyIter_tupleiter st h
theorem zMu {P:Program}{w:World}{K:PySem.W.Frag}{tg:Expr}(it:Addr) (lo:Int) (n:Nat):Turn P w K tg (Itr lo n) [it] it (fun i h=>IsRangeIter h it (lo+(i:Nat)*1) ((n:Int)-(i:Nat)) 1) where
 mem:=by simp
 obj:=fun i h st b hb=>by
  have e:b=it:=by simpa using hb
  subst e
  exact⟨_,st,fun v z=>by
   have z':Data.fields _=Data.cell v:=z
   cases z'⟩
 keep:=fun i h h' st k=>k it (by simp) _ st
 item:=by
  intro X hP hw hK hc i pins s σ H E I hf st hg
  subst hP hw hK
  obtain⟨f0,f1,f2,f3,f4,f5⟩:=hf it (by simp)
  have W:=Walks.range (prog:=X.prog) (w:=X.w) (I.ok.hd hc) it lo 1 n
  refine W.item i s _ _ hg st fun v h' tk hv st' kk=>?_
  obtain⟨t,rfl⟩:=hv
  have I1:Inv X pins σ H { s with heap:=h',toks:=tk }:=I.turned (fun b o hb e=>kk b o (by simpa using hb) e) f0 f1 f3 f4 f5
  refine⟨_,rfl,zRn (s:={ s with heap:=h',toks:=tk }) (n:="range_iterator") st' rfl rfl (by decide) ⟨.int (lo+i),H,I1,⟨t,?_⟩,⟨rfl,rfl⟩,st',fun b hb=>(hf b hb).1⟩⟩
  rw[Int.mul_one]
 done:=by
  intro X hP hw hK hc i pins s σ H E I hf st hg
  subst hP hw hK
  obtain⟨f0,f1,f2,f3,f4,f5⟩:=hf it (by simp)
  exact wpAny_pyNext_range_end (I.ok.hd hc) st (by have:n<=i:=hg;lia) fun h' eb=>⟨rfl,I.turned (t':=s.toks) (fun b o hb e=>eb b o hb e) f0 f1 f3 f4 f5⟩
 self:=fun _ _ _ _ _ st h=>wpAny_pyIter_rangeiter st h
end L2
namespace L2
open PySem PySem.Spec PyProof.Rows
section
variable {X:Cx}{tg:Expr}
theorem zQj {pins:List (Addr × Obj)}{σ:St}{H:Hp}{s:Shared}{R:It->Hp->Prop}{E:Value->Shared->Prop}{lo hi:Int}{t u v:Tok}{tk:Nat}(I:Inv X pins σ H s) (h1:-(2 ^ 62)<=lo) (h2:lo<2 ^ 62) (h3:-(2 ^ 62)<=hi) (h4:hi<2 ^ 62)
  (q:R (Itr lo (hi-lo).toNat) H):wpAny (model X.prog X.w) X.A (pyIter (.ref s.heap.objs.size)) (PIE X pins σ tg R) E { s with heap:=s.heap.push { cls:=.type "range",data:=.fields #[.int lo t,.int hi u,.int 1 v] },toks:=tk }:=by
 refine wpAny_pyIter_range (IsRange.new ..) (small_one h1 h2 h3 h4) ?_
 have I1:Inv X pins σ H { s with heap:=s.heap.push { cls:=.type "range",data:=.fields #[.int lo t,.int hi u,.int 1 v] },toks:=tk }:=I.kept fun b o e=>xk _ e
 refine⟨(s.heap.push { cls:=.type "range",data:=.fields #[.int lo t,.int hi u,.int 1 v] }).objs.size,[(s.heap.push { cls:=.type "range",data:=.fields #[.int lo t,.int hi u,.int 1 v] }).objs.size],_,_,H,rfl,
  I1.kept (t':=tk) fun b o e=>xk _ e,zMu _ lo (hi-lo).toNat,?_,fun b hb=>?_,q⟩
 ·have e1:lo+((0:Nat):Int)*1=lo:=by simp
  have e2:(((hi-lo).toNat:Nat):Int)-((0:Nat):Int)=Builtin.Range.rangeSize lo hi 1:=by rw[rangeSize_one];split <;> lia
  show IsRangeIter _ _ (lo+((0:Nat):Int)*1) ((((hi-lo).toNat:Nat):Int)-((0:Nat):Int)) 1
  rw[e1,e2]
  exact xA _ rfl
 ·have e:b=(s.heap.push { cls:=.type "range",data:=.fields #[.int lo t,.int hi u,.int 1 v] }).objs.size:=by simpa using hb
  subst e
  exact I1.fpOk (xh _) (I1.hok.fresh (xh _))
noncomputable def zUr (ta:TA):TI:=fun σ H R=>ta σ H fun vs H1=>∃j:Int,vs=[.int j]/\-(2 ^ 62)<=j/\j<2 ^ 62/\R (Itr 0 j.toNat) H1
theorem zO5 {a:Expr}{ta:TA}{p pos:Pos}(hg:Gl X "range") (hm:X.mg "range"=none) (ha:PA X [a] ta) (hs:starEach [a] X.env=[(false,eval a X.env)]:=by rfl):PI X tg (.Call (.Name "range" p) [a] [] pos) (zUr ta):=by
 intro pins s σ H R I h
 refine Call_ (zGe I hg hm boot_range (ud (thn (ha pos pins s σ H _ I h) fun us s1 hq1=>?_) hs rfl))
 obtain⟨vs,H1,I1,r1,q1⟩:=hq1
 obtain⟨j,e,q1,q2,q⟩:=q1
 subst e
 cases r1 with
 | cons r rr=>
  cases rr
  obtain⟨t,rfl⟩:=r
  exact call_range_1 (zQj I1 (by nofun) (by nofun) q1 q2 (by simpa using q))
noncomputable def tFor (wi:TI) (g:TG) (tb:TS):TS:=fun D σ H=>wi σ H fun J H1=>∃W:Nat->Nat->St->Hp->Prop,(∃m,W 0 m σ H1)/\∀i m σ H,W i m σ H->
 (J.stop i H/\D.nx σ H)\/(J.go i H/\∃N:St->Hp->Prop,(∀σ' H',N σ' H'->∃m',m'<m/\W (i+1) m' σ' H')/\∀x H',J.yld i H x H'->g x σ H' fun σ2 H2=>tb { D with nx:=N,ct:=N,bk:=D.nx } σ2 H2)
noncomputable def zJx (fp:List Addr) (h:Heap):List (Addr × Obj):=fp.filterMap fun b=>(h.get? b).map fun o=>(b,o)
theorem zEw {fp:List Addr}{h:Heap}{b:Addr}{o:Obj}(hb:b∈fp) (e:h.get? b=some o):(b,o)∈zJx fp h:=List.mem_filterMap.mpr ⟨b,hb,by rw[e];rfl⟩
theorem zOg {fp:List Addr}{h:Heap}{p:Addr × Obj}(hp:p∈zJx fp h):p.1∈fp/\h.get? p.1=some p.2:=by
 obtain⟨b,hb,e⟩:=List.mem_filterMap.mp hp
 cases q:h.get? b with
 | none=>rw[q]at e;cases e
 | some o=>
  rw[q]at e
  have e':(b,o)=p:=xD e
  subst e'
  exact⟨hb,q⟩
theorem Inv.pinned {pins:List (Addr × Obj)}{σ:St}{H:Hp}{s:Shared}{fp:List Addr}(I:Inv X pins σ H s) (hf:∀b∈fp,FpOk X pins H b) (ho:∀b∈fp,∃o,s.heap.get? b=some o/\∀v,o.data≠.cell v):Inv X (pins++zJx fp s.heap) σ H s:=
 I.pins_of fun p hp=>(xT.mp hp).elim (fun z=>I.pin p (xN _ z)) fun z=>by
  obtain⟨hb,e⟩:=zOg z
  obtain⟨f0,f1,f2,_⟩:=hf p.1 hb
  obtain⟨o,e',d⟩:=ho p.1 hb
  rw[e]at e';cases e'
  exact⟨e,f0,f1,f2,d⟩
theorem Inv.unpinned {pins pl:List (Addr × Obj)}{σ:St}{H:Hp}{s:Shared}(I:Inv X (pins++pl) σ H s):Inv X pins σ H s:=I.pins_of fun p hp=>I.pin p (xN _ (vM _ hp))
theorem zW8 {iter:Expr}{body:List Stmt}{wi:TI}{g:TG}{tb:TS}{pos:Pos}(hp:PassesOwn (model X.prog X.w) X.A X.env X.xe) (hc:X.calm=true) (hi:PI X tg iter wi) (hg:PG X tg g) (hb:PSs X body tb)
  (hs:∀x,foldedSetIterable iter X.env x=pure x:=by intro _;rfl):PS X (.For tg iter body [] pos) (tFor wi g tb):=by
 intro pins s σ H D I h
 refine wpAny_For (thn (hi pins s σ H _ I h) fun v s1 h1=>thn h1 fun itv s2 h2=>?_) hs
 obtain⟨it,fp,tn,J,H2,e,I2,T,st2,f2,W,⟨m0,w0⟩,turn⟩:=h2
 subst e
 -- what stays true of the iterator's objects through the loop
 have stat:∀{H':Hp},(∀b∈fp,H' b=none)->∀b∈fp,FpOk X pins H' b:=fun hn b hb=>⟨hn b hb,(f2 b hb).2⟩
 refine codeAny_forLoop_any (fun n s'=>∃i σ' H',Inv X pins σ' H' s'/\tn i s'.heap/\(∀b∈fp,H' b=none)/\W i n σ' H') ?_ m0 ⟨0,σ,H2,I2,st2,fun b hb=>(f2 b hb).1,w0⟩
 rintro n s3 ⟨i,σ3,H3,I3,st3,fr3,w3⟩
 rcases turn i n σ3 H3 w3 with⟨stop,qn⟩|⟨go,N,hN,step⟩
 ·refine vO hp (thn (T.done X rfl rfl rfl hc i pins s3 σ3 H3 X.xe I3 (stat fr3) st3 stop) fun r s4 hq1=>?_)
  obtain⟨hr,I4⟩:=hq1
  subst hr
  exact wpAny_execs_nil ⟨σ3,H3,I4,qn⟩
 ·refine vO hp (thn (T.item X rfl rfl rfl hc i pins s3 σ3 H3 X.xe I3 (stat fr3) st3 go) fun r s4 hq1=>?_)
  obtain⟨u,hr,h4⟩:=hq1
  subst hr
  refine vO hp (thn h4 fun _ s5 hq1=>?_)
  obtain⟨x,H5,I5,r5,y5,st5,fr5⟩:=hq1
  have I5':=I5.pinned (stat fr5) (T.obj _ _ st5)
  refine vO hp (thn (hg _ s5 σ3 H5 x u _ I5' r5 (step x H5 y5)) fun _ s6 hq1=>?_)
  obtain⟨σ6,H6,I6,q6⟩:=hq1
  refine vO hp (thn (hb _ s6 σ6 H6 _ I6 q6) fun f s7 q7=>?_)
  have again:∀{σ7:St}{H7:Hp},Inv X (pins++zJx fp s5.heap) σ7 H7 s7->N σ7 H7->∃m,m<n/\∃i σ' H',Inv X pins σ' H' s7/\tn i s7.heap/\(∀b∈fp,H' b=none)/\W i m σ' H':=fun {σ7 H7} I7 n7=>by
   obtain⟨m',hm,w7⟩:=hN σ7 H7 n7
   refine⟨m',hm,i+1,σ7,H7,I7.unpinned,T.keep _ _ _ st5 fun b hb o e=>(I7.pin (b,o) (xN _ (xN _ (zEw hb e)))).1,fun b hb=>?_,w7⟩
   obtain⟨o,e,d⟩:=T.obj _ _ st5 b hb
   exact(I7.pin (b,o) (xN _ (xN _ (zEw hb e)))).2.1
  cases f with
  | next=>obtain⟨σ7,H7,I7,n7⟩:=q7;exact again I7 n7
  | cont=>obtain⟨σ7,H7,I7,n7⟩:=q7;exact again I7 n7
  | brk=>obtain⟨σ7,H7,I7,q7⟩:=q7;exact⟨σ7,H7,I7.unpinned,q7⟩
  | ret v=>obtain⟨x7,σ7,H7,I7,r7,q7⟩:=q7;exact⟨x7,σ7,H7,I7.unpinned,r7,q7⟩
end
end L2
namespace L2
open PySem PySem.Spec PyProof.Rows
noncomputable abbrev R2:=V->V->Hp->VK->Prop
noncomputable def OpR (X:Cx) (f:Value->Value->Sem Value) (r:R2):Prop:=
 ∀(pins:List (Addr × Obj)) (s:Shared) (σ:St) (H:Hp) (x y:V) (v u:Value) (Q:VK),Inv X pins σ H s->RelV x v->RelV y u->r x y H Q->
  wpAny (model X.prog X.w) X.A (f v u) (EP X pins σ Q) X.xe s
noncomputable def UnR (X:Cx) (f:Value->Sem Value) (r:V->Hp->VK->Prop):Prop:=
 ∀(pins:List (Addr × Obj)) (s:Shared) (σ:St) (H:Hp) (x:V) (v:Value) (Q:VK),Inv X pins σ H s->RelV x v->r x H Q->
  wpAny (model X.prog X.w) X.A (f v) (EP X pins σ Q) X.xe s
noncomputable def zCb (X:Cx) (f:Value) (r:List V->Hp->VK->Prop):Prop:=
 ∀(pins:List (Addr × Obj)) (s:Shared) (σ:St) (H:Hp) (xs:List V) (us:List Value) (Q:VK),Inv X pins σ H s->Vals xs us->r xs H Q->
  wpAny (model X.prog X.w) X.A (call f us) (EP X pins σ Q) X.xe s
noncomputable def TruR (X:Cx) (r:V->Hp->(Bool->Hp->Prop)->Prop):Prop:=
 ∀(pins:List (Addr × Obj)) (s:Shared) (σ:St) (H:Hp) (x:V) (v:Value) (Q:Bool->Hp->Prop),Inv X pins σ H s->RelV x v->r x H Q->
  wpAny (model X.prog X.w) X.A (truthy v) (TP X pins σ Q) X.xe s
noncomputable def tOp (r:R2) (ta tb:TE):TE:=fun σ H Q=>ta σ H fun x H1=>tb σ H1 fun y H2=>r x y H2 Q
noncomputable def tUn (r:V->Hp->VK->Prop) (ta:TE):TE:=fun σ H Q=>ta σ H fun x H1=>r x H1 Q
noncomputable def rI (C:Int->Int->Prop) (g:Int->Int->V):R2:=fun x y H Q=>∃i j,x=.int i/\y=.int j/\C i j/\Q (g i j) H
noncomputable def rI0 (g:Int->Int->V):R2:=fun x y H Q=>∃i j,x=.int i/\y=.int j/\Q (g i j) H
noncomputable def rU (g:Int->V):V->Hp->VK->Prop:=fun x H Q=>∃i,x=.int i/\Q (g i) H
section
variable {X:Cx}{a b c:Expr}{ta tb tc:TE}{pos:Pos}
theorem binT (ha:PE X a ta) (hb:PE X b tb) {pins:List (Addr × Obj)}{s:Shared}{σ:St}{H:Hp}{R:V->V->Hp->Prop}(I:Inv X pins σ H s)
  (h:ta σ H fun x H1=>tb σ H1 fun y H2=>R x y H2) {Q:Value->Shared->Prop}{f:Value->Value->Sem Value}
  (hf:∀v u s2 x y H2,Inv X pins σ H2 s2->RelV x v->RelV y u->R x y H2->wpAny (model X.prog X.w) X.A (f v u) Q X.xe s2):
  wpAny (model X.prog X.w) X.A (eval a X.env) (fun v s₁=>wpAny (model X.prog X.w) X.A (eval b X.env) (fun u s₂=>wpAny (model X.prog X.w) X.A (f v u) Q X.xe s₂) X.xe s₁) X.xe s:=by
 refine thn (ha pins s σ H _ I h) fun v s1 hq1=>?_
 obtain⟨x,H1,I1,r1,q1⟩:=hq1
 refine thn (hb pins s1 σ H1 _ I1 q1) fun u s2 hq1=>?_
 obtain⟨y,H2,I2,r2,q2⟩:=hq1
 exact hf v u s2 x y H2 I2 r1 r2 q2
theorem zYd {op:Operator}{r:R2}(ho:OpR X (binaryOp op) r) (ha:PE X a ta) (hb:PE X b tb):PE X (.BinOp a op b pos) (tOp r ta tb):=by
 intro pins s σ H Q I h
 exact wpAny_BinOp (binT ha hb I h fun v u s2 x y H2 I2 rx ry q=>ho pins s2 σ H2 x y v u Q I2 rx ry q)
theorem zYb {op:UnaryOp}{r:V->Hp->VK->Prop}(ho:UnR X (unaryOp op) r) (ha:PE X a ta):PE X (.UnaryOp op a pos) (tUn r ta):=by
 intro pins s σ H Q I h
 exact UnaryOp_ (thn (ha pins s σ H _ I h) fun v s1 hz3=>by obtain⟨x,H1,I1,r1,q1⟩:=hz3;exact ho pins s1 σ H1 x v Q I1 r1 q1)
theorem opI {f:Value->Value->Sem Value}{C:Int->Int->Prop}{g:Int->Int->Int}
  (rule:∀(i j:Int) (t u:Tok) (s:Shared) (Q:Value->Shared->Prop) (E:Value->Shared->Prop),C i j->Q (.int (g i j) s.toks) { s with toks:=s.toks+1 }->wpAny (model X.prog X.w) X.A (f (.int i t) (.int j u)) Q E s):
  OpR X f (rI C fun i j=>.int (g i j)):=by
 intro pins s σ H x y v u Q I rx ry h
 obtain⟨i,j,rfl,rfl,hc,q⟩:=h
 obtain⟨t,rfl⟩:=rx
 obtain⟨t',rfl⟩:=ry
 exact rule i j t t' s _ _ hc ⟨.int (g i j),H,I.tok _,⟨_,rfl⟩,q⟩
theorem opI0 {f:Value->Value->Sem Value}{g:Int->Int->Int}
  (rule:∀(i j:Int) (t u:Tok) (s:Shared) (Q:Value->Shared->Prop) (E:Value->Shared->Prop),Q (.int (g i j) s.toks) { s with toks:=s.toks+1 }->wpAny (model X.prog X.w) X.A (f (.int i t) (.int j u)) Q E s):
  OpR X f (rI0 fun i j=>.int (g i j)):=by
 intro pins s σ H x y v u Q I rx ry h
 obtain⟨i,j,rfl,rfl,q⟩:=h
 obtain⟨t,rfl⟩:=rx
 obtain⟨t',rfl⟩:=ry
 exact rule i j t t' s _ _ ⟨.int (g i j),H,I.tok _,⟨_,rfl⟩,q⟩
theorem opB0 {f:Value->Value->Sem Value}{g:Int->Int->Bool}
  (rule:∀(i j:Int) (t u:Tok) (s:Shared) (Q:Value->Shared->Prop) (E:Value->Shared->Prop),Q (.bool (g i j)) s->wpAny (model X.prog X.w) X.A (f (.int i t) (.int j u)) Q E s):
  OpR X f (rI0 fun i j=>.bl (g i j)):=by
 intro pins s σ H x y v u Q I rx ry h
 obtain⟨i,j,rfl,rfl,q⟩:=h
 obtain⟨t,rfl⟩:=rx
 obtain⟨t',rfl⟩:=ry
 exact rule i j t t' s _ _ ⟨.bl (g i j),H,I,rfl,q⟩
noncomputable def CPow (i j:Int):Prop:=0<=j/\j<=1000000/\i.natAbs<2 ^ 64
theorem zWy:OpR X (binaryOp .Add) (rI0 fun i j=>.int (i+j)):=opI0 fun _ _ _ _ _ _ _ q=>add_int q
theorem zWs:OpR X (binaryOp .Sub) (rI0 fun i j=>.int (i-j)):=opI0 fun _ _ _ _ _ _ _ q=>sub_int q
theorem zWu:OpR X (binaryOp .Mod) (rI (fun _ j=>0<j) fun i j=>.int (i % j)):=opI fun i j _ _ _ _ _ hc q=>by
 have h1:(0:Int)<j:=hc
 exact mod_int' (by nofun) (by rw[Int.fmod_eq_emod_of_nonneg i (by nofun)];exact q)
theorem zWt:OpR X (binaryOp .Pow) (rI CPow fun i j=>.int (i ^ j.toNat)):=opI fun _ _ _ _ _ _ _ hc q=>pow_int_small hc.1 hc.2.1 hc.2.2 q
theorem unI {f:Value->Sem Value}{g:Int->Int}
  (rule:∀(i:Int) (t:Tok) (s:Shared) (Q:Value->Shared->Prop) (E:Value->Shared->Prop),Q (.int (g i) s.toks) { s with toks:=s.toks+1 }->wpAny (model X.prog X.w) X.A (f (.int i t)) Q E s):
  UnR X f (rU fun i=>.int (g i)):=by
 intro pins s σ H x v Q I rx h
 obtain⟨i,rfl,q⟩:=h
 obtain⟨t,rfl⟩:=rx
 exact rule i t s _ _ ⟨.int (g i),H,I.tok _,⟨_,rfl⟩,q⟩
theorem zVf:UnR X (unaryOp .USub) (rU fun i=>.int (-i)):=unI fun _ _ _ _ _ q=>neg_int q
end
section
variable {X:Cx}{a b c:Expr}{ta tb tc:TE}{pos:Pos}
theorem zSq {pins:List (Addr × Obj)}{σ:St}{H:Hp}{s:Shared}{Q:VK}{k k':Bool}(I:Inv X pins σ H s) (q:Q (.bl k) H) (e:k=k'):EP X pins σ Q (.bool k') s:=by
 subst e
 exact⟨.bl k,H,I,rfl,q⟩
theorem zYh:OpR X (compareOp .Lt) (rI0 fun i j=>.bl (decide (i<j))):=opB0 fun _ _ _ _ _ _ _ q=>lt_int q
theorem zYi:OpR X (compareOp .LtE) (rI0 fun i j=>.bl (decide (i<=j))):=opB0 fun _ _ _ _ _ _ _ q=>le_int q
theorem zYj:OpR X (compareOp .Gt) (rI0 fun i j=>.bl (decide (j<i))):=opB0 fun _ _ _ _ _ _ _ q=>gt_int q
theorem zYk:OpR X (compareOp .GtE) (rI0 fun i j=>.bl (decide (j<=i))):=opB0 fun _ _ _ _ _ _ _ q=>ge_int q
theorem zOc:OpR X (compareOp .Lt) (fun x y H Q=>∃i j,x=.str i/\y=.str j/\Q (.bl (decide (i.cps.toList<j.cps.toList))) H):=by
 intro pins s σ H x y v u Q I rx ry h
 obtain⟨i,j,rfl,rfl,q⟩:=h
 obtain⟨t,rfl⟩:=rx
 obtain⟨t',rfl⟩:=ry
 exact lt_str (zSq I q rfl)
theorem zWv:OpR X (compareOp .Is) (fun x y H Q=>y=.non/\Q (.bl (decide (x=.non))) H):=by
 intro pins s σ H x y v u Q I rx ry h
 obtain⟨rfl,q⟩:=h
 cases ry
 refine is_none_gen (zSq I q ?_)
 cases x <;> first
  | (cases rx;rfl)
  | (obtain⟨t,rfl⟩:=rx;rfl)
theorem nomark (b:Expr) {op:CmpOp}(h:op≠.In:=by decide) (h2:op≠.NotIn:=by decide):behindInMarks op b=false:=by
 have e1:(op == CmpOp.In)=false:=by cases op <;> first|rfl|exact absurd rfl h
 have e2:(op == CmpOp.NotIn)=false:=by cases op <;> first|rfl|exact absurd rfl h2
 cases b <;> simp[behindInMarks,e1,e2]
theorem zU5 {op:CmpOp}{r:R2}(ho:OpR X (compareOp op) r) (ha:PE X a ta) (hb:PE X b tb) (hm:behindInMarks op b=false):PE X (.Compare a [op] [b] pos) (tOp r ta tb):=by
 intro pins s σ H Q I h
 exact wpAny_Compare1 (binT ha hb I h fun v u s2 x y H2 I2 rx ry q=>ho pins s2 σ H2 x y v u Q I2 rx ry q) hm
noncomputable def zQ9 (t:TE):TT:=fun σ H Q=>t σ H fun x H'=>∃k,x=.bl k/\Q k H'
theorem zTl {op:CmpOp}{r:R2}(ho:OpR X (compareOp op) r) (ha:PE X a ta) (hb:PE X b tb) (hm:behindInMarks op b=false):PT X (.Compare a [op] [b] pos) (zQ9 (tOp r ta tb)):=by
 intro pins s σ H Q I h
 refine wpAny_isTrue_Compare1 (thn (ha pins s σ H _ I h) fun v s1 ⟨x,H1,I1,r1,q1⟩=>thn (hb pins s1 σ H1 _ I1 q1) fun u s2 ⟨y,H2,I2,r2,q2⟩=>
  thn (ho pins s2 σ H2 x y v u _ I2 r1 r2 q2) fun c s3 ⟨z,H3,I3,r3,k,e,q3⟩=>?_) hm
 subst e
 cases r3
 exact vz ⟨H3,I3,q3⟩
noncomputable def zJq (r r':R2) (ta tb tc:TE):TE:=fun σ H Q=>ta σ H fun x H1=>tb σ H1 fun y H2=>r x y H2 fun z H3=>∃k,z=.bl k /\
 (if k=true then tc σ H3 fun w' H4=>r' y w' H4 Q else Q (.bl false) H3)
theorem zR3 {op op':CmpOp}{r r':R2}(ho:OpR X (compareOp op) r) (ho':OpR X (compareOp op') r') (ha:PE X a ta) (hb:PE X b tb) (hc:PE X c tc)
  (hm:lastMarks [op,op'] [b,c]=false:=by with_unfolding_all rfl):PE X (.Compare a [op,op'] [b,c] pos) (zJq r r' ta tb tc):=by
 intro pins s σ H Q I h
 refine Compare_chain (thn (ha pins s σ H _ I h) fun v s1 ⟨x,H1,I1,r1,q1⟩=>chain_link (thn (hb pins s1 σ H1 _ I1 q1) fun u s2 ⟨y,H2,I2,r2,q2⟩=>
  thn (ho pins s2 σ H2 x y v u _ I2 r1 r2 q2) fun d s3 ⟨z,H3,I3,r3,k,e,q3⟩=>?_)) hm
 subst e
 cases r3
 refine vz ?_
 cases k with
 | false=>exact ite_ff ⟨.bl false,H3,I3,rfl,q3⟩
 | true=>exact ite_tt (chain_last (thn (hc pins s3 σ H3 _ I3 q3) fun w' s4 hz4=>by obtain⟨z',H4,I4,r4,q4⟩:=hz4;exact ho' pins s4 σ H4 y z' u w' Q I4 r2 r4 q4))
theorem zQn {op op':CmpOp}{r r':R2}(ho:OpR X (compareOp op) r) (ho':OpR X (compareOp op') r') (ha:PE X a ta) (hb:PE X b tb) (hc:PE X c tc)
  (hm:lastMarks [op,op'] [b,c]=false:=by with_unfolding_all rfl):PT X (.Compare a [op,op'] [b,c] pos) (zQ9 (zJq r r' ta tb tc)):=by
 intro pins s σ H Q I h
 refine isTrue_chain (thn (ha pins s σ H _ I h) fun v s1 ⟨x,H1,I1,r1,q1⟩=>test_link (thn (hb pins s1 σ H1 _ I1 q1) fun u s2 ⟨y,H2,I2,r2,q2⟩=>
  thn (ho pins s2 σ H2 x y v u _ I2 r1 r2 q2) fun d s3 ⟨z,H3,I3,r3,k,e,q3⟩=>?_)) hm
 subst e
 cases r3
 refine vz ?_
 cases k with
 | false=>
  obtain⟨k',e',q'⟩:=q3
  cases e'
  exact ite_ff ⟨H3,I3,q'⟩
 | true=>
  refine ite_tt (test_last (thn (hc pins s3 σ H3 _ I3 q3) fun w' s4 ⟨z',H4,I4,r4,q4⟩=>thn (ho' pins s4 σ H4 y z' u w' _ I4 r2 r4 q4) fun d' s5 hq1=>?_))
  obtain⟨z2,H5,I5,r5,k2,e2,q5⟩:=hq1
  subst e2
  cases r5
  exact vz ⟨H5,I5,q5⟩
noncomputable def TruV (K:PySem.W.Frag) (x:V) (H:Hp) (k:Bool):Prop:=
 match x with
 | .non=>k=false
 | .bl b=>k=b
 | .int i=>k=(i != 0)
 | .str y=>y.length<=sizeLine/\k=((y.length:Int) != 0)
 | .byt y=>y.size<=sizeLine/\k=((y.size:Int) != 0)
 | .ref p=>(∃xs,SqL K H p xs/\k=!xs.isEmpty)\/(∃xs,SqT K H p xs/\k=!xs.isEmpty)\/∃kvs,H p=some (.dK kvs)/\k=!kvs.isEmpty
 | _=>False
theorem zN9 {κ:Type}{kvs:List (κ × V)}{vs:List (κ × Value)}(r:KV kvs vs):(!vs.isEmpty)=!kvs.isEmpty:=by
 cases r <;> rfl
theorem zIj {xs:List V}{its:List Value}(r:Vals xs its):(!its.toArray.isEmpty)=!xs.isEmpty:=by
 cases r <;> simp
theorem line63:(sizeLine:Nat)<2 ^ 63:=by rw[vP];decide
theorem zVi:TruR X (fun x H Q=>∃k,TruV X.K x H k/\Q k H):=by
 intro pins s σ H x v Q I rx h
 obtain⟨k,e,q⟩:=h
 have hl:=line63
 have hs:sizeLine=16777216:=vP
 cases x with
 | non=>
  cases rx
  have e':k=false:=e
  subst e'
  exact truthy_none ⟨H,I,q⟩
 | bl b=>
  cases rx
  have e':k=b:=e
  subst e'
  exact vz ⟨H,I,q⟩
 | int i=>
  obtain⟨t,rfl⟩:=rx
  have e':k=(i != 0):=e
  subst e'
  exact PySem.P.truthy_int ⟨H,I,q⟩
 | str y=>
  obtain⟨t,rfl⟩:=rx
  obtain⟨hy,e'⟩:y.length<=sizeLine/\k=((y.length:Int) != 0):=e
  subst e'
  exact PySem.P.truthy_str (by nofun) ⟨H,I.tok _,q⟩
 | byt y=>
  obtain⟨t,rfl⟩:=rx
  obtain⟨hy,e'⟩:y.size<=sizeLine/\k=((y.size:Int) != 0):=e
  subst e'
  exact PySem.W.truthy_bytes (by nofun) ⟨H,I.tok _,q⟩
 | ref p=>
  cases rx
  have e':(∃xs,SqL X.K H p xs/\k=!xs.isEmpty)\/(∃xs,SqT X.K H p xs/\k=!xs.isEmpty)\/∃kvs,H p=some (.dK kvs)/\k=!kvs.isEmpty:=e
  rcases e' with⟨xs,hx,e'⟩|⟨xs,hx,e'⟩|⟨kvs,hx,e'⟩
  ·subst e'
   obtain⟨its,r,pl,hz⟩:=I.list hx
   have hlen:=r.length
   exact wpAny_truthy_list pl.isList (by simp only[xo];lia) ⟨H,I.tok _,by rw[zIj r];exact q⟩
  ·subst e'
   obtain⟨its,r,pl,hz⟩:=I.tuple hx
   have hlen:=r.length
   exact truthy_tuple pl (by simp only[xo];lia) ⟨H,I.tok _,by rw[zIj r];exact q⟩
  ·subst e'
   obtain⟨hz,hS,vs,r,m⟩:kvs.length<=sizeLine/\(p == sysModules)=false/\∃vs,KV kvs vs/\s.heap.DictOf (zCi X.prog X.w) p vs:=I.hok p _ hx
   have hlen:kvs.length=vs.length:=Paired.length r
   exact wpAny_truthy_dict hS m (by nofun) ⟨H,I.tok _,by rw[zN9 r];exact q⟩
 | _=>exact(show False from e).elim
theorem zQl (ha:PE X a ta) (he:∀whole,isTrue a X.env whole=(do let v <- whole;standAt a.pos;holding [v] (truthy v))):
  PT X a (fun σ H Q=>ta σ H fun x H'=>∃k,TruV X.K x H' k/\Q k H'):=by
 intro pins s σ H Q I h
 exact isTrue_plain (thn (ha pins s σ H _ I h) fun v s1 hz5=>by obtain⟨x,H1,I1,r1,q1⟩:=hz5;exact zVi pins s1 σ H1 x v Q I1 r1 q1) (he _)
theorem zN1:OpR X (binaryOp .Add) (fun x y H Q=>∃i j,x=.str i/\y=.str j/\i.length+j.length<=sizeLine/\Q (.str (i++j)) H):=by
 intro pins s σ H x y v u Q I rx ry h
 obtain⟨i,j,rfl,rfl,hz,q⟩:=h
 obtain⟨t,rfl⟩:=rx
 obtain⟨t',rfl⟩:=ry
 exact add_str (fun t' tk=>⟨.str (i++j),H,I.tok _,⟨_,rfl⟩,q⟩) hz
theorem vals1 {x:V}{us:List Value}(r:Vals [x] us):∃u,us=[u]/\RelV x u:=by
 cases r with
 | cons r1 r2=>cases r2;exact⟨_,rfl,r1⟩
theorem vals2 {x y:V}{us:List Value}(r:Vals [x,y] us):∃u w',us=[u,w']/\RelV x u/\RelV y w':=by
 cases r with
 | cons r1 r2=>
  cases r2 with
  | cons r3 r4=>cases r4;exact⟨_,_,rfl,r1,r3⟩
theorem zS3:zCb X (.builtin "abs") (fun xs H Q=>∃i,xs=[.int i]/\Q (.int (if i<0 then -i else i)) H):=by
 intro pins s σ H xs us Q I r h
 obtain⟨i,rfl,q⟩:=h
 obtain⟨u,rfl,t,rfl⟩:=vals1 r
 exact call_abs_int fun u tk=>⟨.int (if i<0 then -i else i),H,I.tok _,⟨_,rfl⟩,q⟩
theorem zPq (hc:X.calm=true):zCb X (.builtin "max") (fun xs H Q=>∃i j,xs=[.int i,.int j]/\Q (.int (if j > i then j else i)) H):=by
 intro pins s σ H xs us Q I r h
 obtain⟨i,j,rfl,q⟩:=h
 obtain⟨u,w',rfl,⟨t,rfl⟩,⟨t',rfl⟩⟩:=vals2 r
 refine max_two_ints (I.ok.hd hc) fun h' tk k=>⟨_,H,I.kept k,?_,q⟩
 by_cases hj:j > i
 ·rw[xc hj,xc hj];exact⟨_,rfl⟩
 ·rw[xg hj,xg hj];exact⟨_,rfl⟩
theorem zPo (hc:X.calm=true):zCb X (.builtin "min") (fun xs H Q=>∃i j,xs=[.int i,.int j]/\Q (.int (if j<i then j else i)) H):=by
 intro pins s σ H xs us Q I r h
 obtain⟨i,j,rfl,q⟩:=h
 obtain⟨u,w',rfl,⟨t,rfl⟩,⟨t',rfl⟩⟩:=vals2 r
 refine min_two_ints (I.ok.hd hc) fun h' tk k=>⟨_,H,I.kept k,?_,q⟩
 by_cases hj:j<i
 ·rw[xc hj,xc hj];exact⟨_,rfl⟩
 ·rw[xg hj,xg hj];exact⟨_,rfl⟩
theorem zKm:zCb X (.type "int") (fun xs H Q=>(∃i,xs=[.int i]/\Q (.int i) H)\/∃k,xs=[.bl k]/\Q (.int (if k then 1 else 0)) H):=by
 intro pins s σ H xs us Q I r h
 rcases h with⟨i,rfl,q⟩|⟨k,rfl,q⟩
 ·obtain⟨u,rfl,t,rfl⟩:=vals1 r
  exact call_int_int ⟨.int i,H,I,⟨_,rfl⟩,q⟩
 ·obtain⟨u,rfl,r1⟩:=vals1 r
  cases r1
  exact call_int_bool ⟨.int (if k then 1 else 0),H,I.tok _,⟨_,rfl⟩,q⟩
theorem zKj:zCb X (.type "str") (fun xs H Q=>∃i,xs=[.int i]/\i.natAbs.log2<1920/\Q (.str (toString i)) H):=by
 intro pins s σ H xs us Q I r h
 obtain⟨i,rfl,hz,q⟩:=h
 obtain⟨u,rfl,t,rfl⟩:=vals1 r
 exact PySem.P.str_of_int hz ⟨.str _,H,I.tok _,⟨_,rfl⟩,q⟩
end
end L2
namespace L2
open PySem PySem.Spec PyProof.Rows
structure ObjM (h:Heap) (x dx C:Addr) (mA:Str->Option Value):Prop where
 obj:h.get? x=some (PySem.W.instObj C dx)
 ns:h.Ns1 dx mA
 ne:dx≠x
theorem zOp {h:Heap}{dx:Addr}{mA:Str->Option Value}(n:h.Ns1 dx mA):∃od,h.get? dx=some od/\∀name,PySem.W.lookIn name od=some (mA name):=by
 obtain⟨o,es,ep,ho,hd,hk,_,hm⟩:=n
 refine⟨o,ho,fun name=>?_⟩
 have e:=hm name
 unfold nsFind findBy at e
 rw[<- Array.find?_toList]at e
 unfold PySem.W.lookIn
 rw[hd]
 dsimp only
 split
 ·rename_i y q
  rw[q]at e
  exact congrArg some e
 ·rename_i q
  rw[q]at e
  have a:es.toList.any (·.refKey)=false:=by
   rw[List.any_eq_false]
   intro y hy
   obtain⟨z,t,hkey⟩:=hk y (Array.mem_toList_iff.mp hy)
   simp[DictEntry.refKey,hkey]
  have a':¬ es.toList.any (·.refKey)=true:=by rw[a];exact uc
  rw[xg a']
  exact congrArg some e
theorem ObjM.look {h:Heap}{x dx C:Addr}{mA:Str->Option Value}(I:ObjM h x dx C mA):∃od,PySem.W.InstAt h x (PySem.W.instObj C dx) C (some od)/\∀name,PySem.W.lookIn name od=some (mA name):=
 let ⟨od,ho,hl⟩:=zOp I.ns
 ⟨od,⟨I.obj,rfl,rfl,ho⟩,hl⟩
theorem RelO.some_of {v:V}{o:Option Value}(r:RelO (some v) o):∃u,o=some u/\RelV v u:=by
 cases o with
 | none=>exact(show False from r).elim
 | some u=>exact⟨u,rfl,r⟩
section
variable {P:Program}{w:World}{H H':Hp}{h h':Heap}{a C dx:Addr}{fs fs':List (Str × V)}
theorem zUp (hok:HOk P w H h) (e:H a=some (.ins C dx fs)):∃mA,ObjM h a dx C mA/\(∀f,RelO (fs.lookup f) (mA f))/\PySem.Within mA (fs.map (·.1))/\fs.length<=1000/\H dx=some (.own a):=by
 obtain⟨d,z,ne,ob,mA,n,r,q⟩:=(show ObjOk P w H h a (.ins C dx fs)from hok a _ e)
 exact⟨mA,⟨ob,n,ne⟩,r,q,z,d⟩
end
structure Cls (K:PySem.W.Frag) (C:Addr):Prop where
 pg:PySem.W.plainGet K C Str.empty=true
 hd:PySem.W.hasDictIn K C=true
 po:PySem.W.plainOver K C=true
 sa:PySem.W.findIn K (.ref C) "__setattr__"=some (some (.builtin "object.__setattr__"))
theorem Cls.get {K:PySem.W.Frag}{C:Addr}(c:Cls K C) (f:Str):PySem.W.plainGet K C f=true:=c.pg
section
variable {X:Cx}{pins:List (Addr × Obj)}{σ:St}{H:Hp}{s:Shared}{A:Around}{E:Value->Shared->Prop}{Q:Value->Shared->Prop}{c:Value}{b:Bool}
inductive TyOf (K:PySem.W.Frag) (H:Hp):V->Value->Prop where
 | non:TyOf K H .non (.type "NoneType")
 | bl (x:Bool):TyOf K H (.bl x) (.type "bool")
 | int (i:Int):TyOf K H (.int i) (.type "int")
 | str (x:Str):TyOf K H (.str x) (.type "str")
 | flt (x:UInt64):TyOf K H (.flt x) (.type "float")
 | lst {a:Addr}{xs:List V}(e:H a=some (.lst xs)):TyOf K H (.ref a) (.type "list")
 | frz {a:Addr}{o:Obj}{xs:List V}(e:H a=some (.frz o (.lst xs))):TyOf K H (.ref a) (.type "list")
 | tup {a:Addr}{xs:List V}(e:H a=some (.tup xs)):TyOf K H (.ref a) (.type "tuple")
 | dK {a:Addr}{kvs:List (Key × V)}(e:H a=some (.dK kvs)):TyOf K H (.ref a) (.type "dict")
 | dT {a:Addr}{kvs:List (List Key × V)}(e:H a=some (.dT kvs)):TyOf K H (.ref a) (.type "dict")
 | ins {a C dx:Addr}{fs:List (Str × V)}(e:H a=some (.ins C dx fs)) (cl:Cls K C) (ha:PySem.W.findIn K (.ref C) "__class__"=some (some (.builtin "object.__class__")))
   (hn:PySem.W.specialIn K (.builtin "object.__class__") "__get__"=some (some (.builtin "getset_descriptor.__get__"))) (htk:PySem.W.takesIn K (.builtin "object.__class__")=some true)
   (hm:PySem.W.mroIn K C (.type "object")=some true):TyOf K H (.ref a) (.ref C)
theorem zP0 {x:V}{u t:Value}(I:Inv X pins σ H s) (rx:RelV x u) (ty:TyOf X.K H x t) (e:PySem.W.kitOne X.K t c=some b) (h:∀tk,Q (.bool b) { s with toks:=tk }):
  wpAny (model X.prog X.w) A (call (.builtin "isinstance") [u,c]) Q E s:=by
 cases ty with
 | non=>cases(show u=Value.none from rx);exact vd PySem.W.kitx_none I.kIn True.intro e (fun z=>nomatch z) h
 | bl y=>cases(show u=Value.bool y from rx);exact vd PySem.W.kitx_bool I.kIn True.intro e (fun z=>nomatch z) h
 | int i=>obtain⟨t,q⟩:=(show ∃t,u=Value.int i t from rx);cases q;exact vd PySem.W.kitx_int I.kIn True.intro e (fun z=>nomatch z) h
 | str y=>obtain⟨t,q⟩:=(show ∃t,u=Value.str y t from rx);cases q;exact vd PySem.W.kitx_str I.kIn True.intro e (fun z=>nomatch z) h
 | flt y=>obtain⟨t,q⟩:=(show ∃t,u=Value.float y t from rx);cases q;exact vd PySem.W.kitx_float I.kIn True.intro e (fun z=>nomatch z) h
 | @lst a xs ea=>
  cases(show u=Value.ref a from rx)
  obtain⟨_,_,n,_,h1⟩:=(show ObjOk X.prog X.w H s.heap a (.lst xs)from I.hok a _ ea)
  exact vd PySem.W.kitx_list I.kIn ⟨_,h1,rfl⟩ e (fun z=>nomatch z) h
 | @frz a ob xs ea=>
  cases(show u=Value.ref a from rx)
  obtain⟨_,_,_,n,_,h1⟩:=(show ObjOk X.prog X.w H s.heap a (.frz ob (.lst xs))from I.hok a _ ea)
  exact vd PySem.W.kitx_list I.kIn ⟨_,h1,rfl⟩ e (fun z=>nomatch z) h
 | @tup a xs ea=>
  cases(show u=Value.ref a from rx)
  obtain⟨_,_,_,p⟩:=(show ObjOk X.prog X.w H s.heap a (.tup xs)from I.hok a _ ea)
  obtain⟨o,h1,h2,_⟩:=p
  exact vd PySem.W.kitx_tuple I.kIn ⟨o,h1,h2⟩ e (fun z=>nomatch z) h
 | @dK a kvs ea=>
  cases(show u=Value.ref a from rx)
  obtain⟨_,_,vs,_,p⟩:=(show ObjOk X.prog X.w H s.heap a (.dK kvs)from I.hok a _ ea)
  obtain⟨o,es,ep,h1,h2,_⟩:=p
  exact vd PySem.W.kitx_dict I.kIn ⟨o,h1,h2.1⟩ e (fun z=>nomatch z) h
 | @dT a kvs ea=>
  cases(show u=Value.ref a from rx)
  obtain⟨_,_,xs,_,o,es,ep,h1,h2,_⟩:=(show ObjOk X.prog X.w H s.heap a (.dT kvs)from I.hok a _ ea)
  exact vd PySem.W.kitx_dict I.kIn ⟨o,h1,h2.1⟩ e (fun z=>nomatch z) h
 | @ins a C dx fs ea cl ha hn htk hm=>
  cases(show u=Value.ref a from rx)
  obtain⟨mA,O,_⟩:=zUp I.hok ea
  obtain⟨od,J,_⟩:=O.look
  exact vd (PySem.W.kitx_own (cl.get _) cl.hd ha hn htk hm) I.kIn J e (fun z=>nomatch z) h
end
end L2
namespace L2
open PySem PySem.Spec PyProof.Rows
structure Room (k:Nat) (A:Around):Prop where
 hd:A.handled=none
 dp:A.depth+3*k+5<recursionLimit
 un:A.units+16*k+200<cLine
theorem Room.mono {j k:Nat}{A:Around}(r:Room k A) (h:j<=k):Room j A:=⟨r.hd,by have:=r.dp;lia,by have:=r.un;lia⟩
theorem Room.deeper {k:Nat}{A:Around}(r:Room (k+1) A) (env:Env):Room k (A.deeper env):=
 ⟨r.hd,by have:=r.dp;show A.depth+1+3*k+5<_;lia,by have:=r.un;show A.units+3+16*k+200<_;lia⟩
theorem Room.depth {k:Nat}{A:Around}(r:Room k A):A.depth<recursionLimit:=by have:=r.dp;lia
theorem Room.units {k:Nat}{A:Around}(r:Room k A):A.units+64<cLine:=by have:=r.un;lia
theorem Room.units0 {k:Nat}{A:Around}(r:Room k A):A.units<cLine:=by have:=r.un;lia
noncomputable def tNil:TA:=fun _ H Q=>Q [] H
noncomputable def zT5 (ta:TE) (tr:TA):TA:=fun σ H Q=>ta σ H fun x H1=>tr σ H1 fun xs H2=>Q (x::xs) H2
section
variable {X:Cx}{e:Expr}{es:List Expr}{te:TE}{t:TA}{pos:Pos}
theorem zWr:PA X [] tNil:=fun _ _ _ _ H Q I h=>Calls.spliced_nil ⟨[],H,I,.nil,h⟩
theorem zU9 (ha:PE X e te) (hr:PA X es t) (hs:starEach (e::es) X.env=(false,eval e X.env)::starEach es X.env:=by rfl):PA X (e::es) (zT5 te t):=by
 intro pos pins s σ H Q I h
 rw[hs]
 show wpAny _ _ (spliced ((false,eval e X.env)::backTo pos (starEach es X.env))) _ _ s
 refine Calls.spliced_cons (thn (ha pins s σ H _ I h) fun u s1 hq1=>?_)
 obtain⟨x,H1,I1,r1,q1⟩:=hq1
 exact thn (hr pos pins s1 σ H1 _ I1 q1) fun us s2 hz6=>by obtain⟨xs,H2,I2,r2,q2⟩:=hz6;exact ⟨x::xs,H2,I2,.cons r1 r2,q2⟩
noncomputable def tTup (t:TA):TE:=fun σ H Q=>t σ H fun xs H1=>xs.length<=sizeLine/\∀p,H1 p=none->Q (.ref p) (upd H1 p (.tup xs))
noncomputable def tLst (t:TA):TE:=fun σ H Q=>t σ H fun xs H1=>xs.length<=sizeLine/\∀p,H1 p=none->Q (.ref p) (upd H1 p (.lst xs))
theorem zWe {x1} (h:PA X es t):PE X (.Tuple es x1 pos) (tTup t):=by
 intro pins s σ H Q I hq
 refine wpAny_Tuple_spliced (thn (h pos pins s σ H _ I hq) fun us s1 ⟨xs,H1,I1,r,z,q⟩=>⟨by rw[<- r.length];exact z,?_⟩)
 have hf:H1 s1.heap.objs.size=none:=I1.hok.fresh (xh _)
 refine⟨.ref s1.heap.objs.size,upd H1 s1.heap.objs.size (.tup xs),I1.laid (t':=s1.toks) (fun b u e=>xk _ e) (xh _) ?_,rfl,q _ hf⟩
 exact⟨z,us,r,⟨_,xA _ rfl,rfl,_,rfl⟩⟩
theorem zWk (h:PA X es t):PE X (.List es pos) (tLst t):=by
 intro pins s σ H Q I hq
 refine wpAny_List_spliced (thn (h pos pins s σ H _ I hq) fun us s1 ⟨xs,H1,I1,r,z,q⟩=>⟨by rw[<- r.length];exact z,?_⟩)
 have hf:H1 s1.heap.objs.size=none:=I1.hok.fresh (xh _)
 refine⟨.ref s1.heap.objs.size,upd H1 s1.heap.objs.size (.lst xs),I1.laid (t':=s1.toks) (fun b u e=>xk _ e) (xh _) ?_,rfl,q _ hf⟩
 exact⟨z,us,0,r,xA _ rfl⟩
end
noncomputable abbrev Sp:=List V->Hp->VK->XK->Prop
noncomputable abbrev CXT:=List Env->Hp->Shared->XK->Value->Shared->Prop
structure Env0 (P:Program) (w:World) (K:PySem.W.Frag) (mg:Str->Option Value) (base:Heap) (A:Around) (outer:List Env) (s:Shared) (H:Hp):Prop where
 frames:A.frames=some outer
 mod:Mod K mg base
 bs:∀b o,base.get? b=some o->s.heap.get? b=some o/\H b=none
 bsz:base.objs.size<=s.heap.objs.size
 funs:s.heap.FunFrames base outer
 frf:∀b∈frs outer,H b=none
 hok:HOk P w H s.heap
 bare:AllBare s.gens
noncomputable def CE (outer:List Env) (P:Program) (w:World) (H:Hp) (s:Shared) (Q:VK) (u:Value) (s':Shared):Prop:=
 ∃v H',s'.os=s.os/\AllBare s'.gens/\Un (frs outer) [] H H' s.heap s'.heap/\HOk P w H' s'.heap/\RelV v u/\Q v H'
noncomputable def CR (CX:CXT) (outer:List Env) (P:Program) (w:World) (H:Hp) (s:Shared) (Q:VK) (E:XK) (r:Result) (s':Shared):Prop:=
 match r with
 | .ok (.ret u)=>CE outer P w H s Q u s'
 | .ok _=>False
 | .error e=>CX outer H s E e s'
structure FnOk (P:Program) (w:World) (K:PySem.W.Frag) (mg:Str->Option Value) (base:Heap) (CX:CXT) (k:Nat) (f:Addr) (fd:FuncData) (ps:List Str) (sp:Sp):Prop where
 len:∀vs H Q E,sp vs H Q E->vs.length=ps.length
 run:∀(A:Around) (outer:List Env) (s:Shared) (H:Hp) (args:Args) (us:List Value) (vs:List V) (Q:VK) (E:XK),Room k A->Env0 P w K mg base A outer s H->BindsTo s fd args (ps.zip us)->Vals vs us->sp vs H Q E->
  codeAny (model P w) A (.call (.ref f) args) (CR CX outer P w H s Q E) s
section
variable {X:Cx}{pins:List (Addr × Obj)}{σ:St}{H:Hp}{s s':Shared}
theorem Inv.env0 (I:Inv X pins σ H s):Env0 X.prog X.w X.K X.mg X.base X.A X.stack s H:=
 ⟨I.ok.frames,I.ok.mod,I.bs,xn I.ok.bsz I.sz,I.stack,I.stkFree,I.hok,I.bare⟩
theorem Inv.after {Q:VK}{u:Value}(I:Inv X pins σ H s) (h:CE X.stack X.prog X.w H s Q u s'):EP X pins σ Q u s':=by
 obtain⟨v,H',os,bare,un,hok,r,q⟩:=h
 obtain⟨hh,g,d,t,os'⟩:=s'
 obtain rfl:os'=s.os:=os
 exact⟨v,H',I.call (h':=hh) (g':=g) (d':=d) (t':=t) (ch:=[]) un hok bare (fun b z=>absurd z (by simp)),r,q⟩
end
noncomputable def zQa (sp:Sp) (dvs:List V) (E:XK) (t:TA):TE:=fun σ H Q=>t σ H fun vs H1=>sp (vs++dvs) H1 Q E
noncomputable def Binds (K:PySem.W.Frag) (fd:FuncData) (ps:List Str) (ds:List Value):Prop:=
 ∀(s:Shared) (us:List Value),K.In s.heap->(us++ds).length=ps.length->BindsTo s fd ⟨us,[]⟩ (ps.zip (us++ds))
theorem Binds.all {K:PySem.W.Frag}{fd:FuncData}{ps:List Str}(h:∀us:List Value,us.length=ps.length->bindArgs fd ⟨us,[]⟩=pure (ps.zip us)):Binds K fd ps []:=fun s us _ hl=>by
 rw[vQ]at hl ⊢
 exact .of_eq (h us hl)
noncomputable def Passes (CX:CXT) (X:Cx) (E:XK):Prop:=∀(pins:List (Addr × Obj)) (σ:St) (H:Hp) (s:Shared) (e:Value) (s':Shared),Inv X pins σ H s->CX X.stack H s E e s'->X.xe e s'
section
variable {X:Cx}{CX:CXT}{k:Nat}{f C:Addr}{fd:FuncData}{ps:List Str}{sp:Sp}{dvs:List V}{ds:List Value}{E:XK}{x m:Str}{p pos apos:Pos}{e o:Expr}{es:List Expr}{ta:TE}{t:TA}
theorem zVs {pins:List (Addr × Obj)}{σ:St}{H:Hp}{s:Shared}{Q:VK}{us:List Value}{vs:List V}(F:FnOk X.prog X.w X.K X.mg X.base CX k f fd ps sp) (hr:Room k X.A) (hb:Binds X.K fd ps ds) (hd:Vals dvs ds) (hx:Passes CX X E)
  (I:Inv X pins σ H s) (r:Vals vs us) (h:sp (vs++dvs) H Q E):wpAny (model X.prog X.w) X.A (call (.ref f) us) (EP X pins σ Q) X.xe s:=by
 have r2:Vals (vs++dvs) (us++ds):=r.append hd
 have hl:(us++ds).length=ps.length:=by rw[<- r2.length];exact F.len _ _ _ _ h
 refine wpAny_call (codeAny_mono (F.run X.A X.stack s H ⟨us,[]⟩ (us++ds) (vs++dvs) Q E hr I.env0 (hb s us I.kIn hl) r2 h) fun r s' hq=>?_)
 cases r with
 | error e=>exact hx pins σ H s e s' I hq
 | ok fl=>
  cases fl with
  | ret u=>exact I.after hq
  | next=>exact False.elim hq
  | brk=>exact False.elim hq
  | cont=>exact False.elim hq
theorem zU6 (F:FnOk X.prog X.w X.K X.mg X.base CX k f fd ps sp) (hr:Room k X.A) (hg:Gl X x) (hm:X.mg x=some (.ref f)) (hk:PySem.W.keepIn X.K (.ref f)=true) (hb:Binds X.K fd ps ds) (hd:Vals dvs ds) (hx:Passes CX X E)
  (ha:PA X (e::es) t) (hdb:(x == ("__debug__":Str))=false:=by decide) (he:starEach (e::es) X.env=(false,eval e X.env)::starEach es X.env:=by rfl) (hpl:(backTo pos (starEach es X.env)).any (·.1)=false:=by rfl):
  PE X (.Call (.Name x p) (e::es) [] pos) (zQa sp dvs E t):=by
 intro pins s σ H Q I h
 refine ue (zOq I hg hm ?_ hdb)
 refine PySem.W.callWith_K (h₀:=X.base) I.ok.mod.kin hk (thn (ha pos pins s σ H _ I h) fun us s1 ⟨vs,H1,I1,r,q⟩=>⟨I1.kIn,?_⟩) he hpl
 exact zVs F hr hb hd hx I1 r q
end
structure zAh (N P:List Str) (sc:Scope):Prop where
 kind:sc.kind=.function
 co:sc.isCoroutine=false
 gen:sc.isGenerator=false
 nd:N.Nodup
 pre:N.take P.length=P
 par:∀x∈P,sc.names.lookup x=some .local\/sc.names.lookup x=some .cell
 nofree:∀y∈sc.names,y.2≠.free
theorem zKq {kindOf:Str->Option NameKind}{x:Str}:∀{binds:List (Str × Value)}{m:Str->Option Value},(∀v,(x,v) ∉ binds)->bindL kindOf binds m x=m x
 | [],_,_=>rfl
 | (n,v)::r,m,h=>by
  unfold bindL
  rw[zKq fun w hw=>h w (vn _ hw)]
  split
  ·have:x≠n:=by rintro rfl;exact h v vc
   simp[this]
  ·rfl
theorem zKs {kindOf:Str->Option NameKind}{x:Str}:∀{binds:List (Str × Value)}{m:Str->Option Value},(∀v,(x,v) ∉ binds)->bindC kindOf binds m x=m x
 | [],_,_=>rfl
 | (n,v)::r,m,h=>by
  unfold bindC
  rw[zKs fun w hw=>h w (vn _ hw)]
  split
  ·rfl
  ·have:x≠n:=by rintro rfl;exact h v vc
   simp[this]
theorem zKr {kindOf:Str->Option NameKind}{x:Str}{v:Value}:∀{P:List Str}{vs:List Value}{i:Nat}{m:Str->Option Value},P.Nodup->P[i]?=some x->vs[i]?=some v->kindOf x=some .local->
  bindL kindOf (P.zip vs) m x=some v
 | [],_,_,_,_,h,_,_=>by simp at h
 | _::_,[],_,_,_,_,h,_=>by simp at h
 | p::P,w::vs,0,m,nd,h1,h2,hk=>by
  simp at h1 h2;subst h1;subst h2
  show bindL kindOf ((p,w)::P.zip vs) m p=_
  unfold bindL
  rw[zKq fun v hv=>(vR.mp nd).1 (uf hv).1,xc hk]
  simp
 | p::P,w::vs,i+1,m,nd,h1,h2,hk=>by
  show bindL kindOf ((p,w)::P.zip vs) m x=_
  unfold bindL
  exact zKr (i:=i) (vR.mp nd).2 (by simpa using h1) (by simpa using h2) hk
theorem zKt {kindOf:Str->Option NameKind}{x:Str}{v:Value}:∀{P:List Str}{vs:List Value}{i:Nat}{m:Str->Option Value},P.Nodup->P[i]?=some x->vs[i]?=some v->kindOf x≠some .local->
  bindC kindOf (P.zip vs) m x=some v
 | [],_,_,_,_,h,_,_=>by simp at h
 | _::_,[],_,_,_,_,h,_=>by simp at h
 | p::P,w::vs,0,m,nd,h1,h2,hk=>by
  simp at h1 h2;subst h1;subst h2
  show bindC kindOf ((p,w)::P.zip vs) m p=_
  unfold bindC
  rw[zKs fun v hv=>(vR.mp nd).1 (uf hv).1,xg hk]
  simp
 | p::P,w::vs,i+1,m,nd,h1,h2,hk=>by
  show bindC kindOf ((p,w)::P.zip vs) m x=_
  unfold bindC
  exact zKt (i:=i) (vR.mp nd).2 (by simpa using h1) (by simpa using h2) hk
noncomputable def start (N:List Str) (vs:List V):St:=vs.map some++List.replicate (N.length-vs.length) none
noncomputable def cxOf (CX:CXT) (P:Program) (w:World) (K:PySem.W.Frag) (mg:Str->Option Value) (base:Heap) (N:List Str) (qual:Str) (scope:Scope) (f:Addr) (cd:Value) (A:Around) (outer:List Env) (s:Shared) (H:Hp) (E:XK):Cx where
 prog:=P
 w:=w
 K:=K
 mg:=mg
 base:=base
 A:=A.deeper (envOfC qual scope s.heap.objs.size f cd)
 N:=N
 s₀:=s
 H₀:=H
 env:=envOfC qual scope s.heap.objs.size f cd
 outer:=outer
 stack:=envOfC qual scope s.heap.objs.size f cd::outer
 ex:=[]
 calm:=true
 fn:=fun _=>true
 pn:=[]
 xe:=fun e s'=>wpAny (model P w) (A.deeper (envOfC qual scope s.heap.objs.size f cd)) (leaving (envOfC qual scope s.heap.objs.size f cd) e) (fun _ s''=>CX outer H s E e s'') (fun e' s''=>CX outer H s E e' s'') s'
theorem zMm {sc:Scope}{n:Nat}{x:Str}(h:sc.names.lookup x=some .cell):∃c,(cellsFrom n sc.names []).lookup x=some c:=by
 have q:=PySem.W.cellsFrom_some sc.names n [] (.inl h)
 exact Option.isSome_iff_exists.mp q
theorem zP1 {CX:CXT}{P:Program}{w:World}{K:PySem.W.Frag}{mg:Str->Option Value}{base:Heap}{N ps:List Str}{qual:Str}{scope:Scope}{f:Addr}{cd:Value}{A:Around}{outer:List Env}{s s1:Shared}{H:Hp}{E:XK}{us:List Value}{vs:List V}
  (S:zAh N ps scope) (hd:A.handled=none) (e0:Env0 P w K mg base A outer s H) (hl:vs.length=ps.length) (r:Vals vs us)
  (x:InCallC s s.heap.objs.size (bindL (envOfC qual scope s.heap.objs.size f cd).kindOf (ps.zip us) fun _=>none) (cellsFrom (s.heap.objs.size+1) scope.names []) (bindC (envOfC qual scope s.heap.objs.size f cd).kindOf (ps.zip us) fun _=>none) s1):
  Inv (cxOf CX P w K mg base N qual scope f cd A outer s H E) [] (start N vs) H s1:=by
 have hpl:ps.length<=N.length:=by have:=congrArg List.length S.pre;rw[vt]at this;lia
 obtain⟨h1,tk,rfl,hk⟩:=x.done
 have noA:∀b:Addr,b ∉ (cxOf CX P w K mg base N qual scope f cd A outer s H E).ex:=fun b z=>absurd (show b∈([]:List Addr)from z) (by simp)
 refine⟨⟨e0.mod,S.kind,rfl,rfl,xh _,fun y z c h1 h2=>?_,fun y hy=>?_,fun y c _ h=>?_,fun _=>hd,Around.frames_deeper e0.frames,.inr ⟨rfl,rfl⟩,fun b z=>absurd z (noA b),e0.bs,e0.bsz,fun b _ _=>noA b,fun b z=>absurd z (noA b),e0.funs,e0.frf⟩,
  rfl,e0.bare,Un.kept hk,⟨_,x.toInCall.ns,fun i y v h1 h2 h3=>?_⟩,fun y c h=>⟨_,x.cell y c h⟩,e0.hok.fresh (xh _),fun y c h=>?_,fun p hp=>absurd (show p∈([]:List (Addr × Obj))from hp) (by simp),e0.hok.kept hk,?_⟩
 ·exact name_of_addr x.apart (vY h1) (vY h2)
 ·have hy:scope.names.lookup y=some .cell\/scope.names.lookup y=some .free:=hy
  rcases hy with hy|hy
  ·exact zMm hy
  ·exact absurd rfl (S.nofree _ (vY hy))
 ·exact vy (x.above y c (vY h))
 ·have hi:i<vs.length:=by
   unfold start at h2
   by_cases hi:i<vs.length
   ·exact hi
   ·rw[ve (by simpa using hi)]at h2
    rw[List.getElem?_replicate]at h2
    split at h2 <;> cases h2
  have ha:vs[i]?=some v:=by
   unfold start at h2
   rw[vo (by simpa using hi),xR]at h2
   cases e:vs[i]? with
   | none=>rw[e]at h2;cases h2
   | some a=>rw[e]at h2;cases h2;rfl
  obtain⟨u,hu,rv⟩:=r.get ha
  have hp:ps[i]?=some y:=by
   rw[<- S.pre,vS (by nofun)];exact h1
  have ndP:ps.Nodup:=by rw[<- S.pre];exact S.nd.sublist (List.take_sublist _ _)
  refine⟨u,rv,?_⟩
  rcases S.par y (vv hp)with k|k
  ·exact .inl ⟨k,zKr ndP hp hu k⟩
  ·obtain⟨c,e⟩:=zMm (n:=s.heap.objs.size+1) k
   refine .inr ⟨.inl k,c,e,?_⟩
   have q:=x.cell y c e
   rw[zKt ndP hp hu (by show scope.names.lookup y≠_;rw[k];decide)]at q
   exact q
 ·exact e0.hok.fresh (vy (x.above y c (vY h)))
 ·unfold start
  show _=N.length
  rw[xI,xm,List.length_replicate]
  lia
theorem zYq {CX:CXT}{P:Program}{w:World}{K:PySem.W.Frag}{mg:Str->Option Value}{base:Heap}{k:Nat}{f:Addr}{name qual:Str}{params:Arguments}{body:List Stmt}{scope:Scope}{dV kV doc pm cdv ct oc:Value}{an od:Option Addr}
  {osl:Array (Option Value)}{N ps:List Str}{sp:Sp}(lk:K.lookup f=some ⟨oc,od,.func (PySem.W.fnOf name qual params body scope dV kV doc pm an cdv ct),osl⟩) (hcd:PySem.W.codeIn K cdv qual=true) (S:zAh N ps scope)
  (len:∀vs H Q E,sp vs H Q E->vs.length=ps.length)
  (hbody:∀(A:Around) (outer:List Env) (s:Shared) (H:Hp) (vs:List V) (Q:VK) (E:XK),Room k (A.deeper (envOfC qual scope s.heap.objs.size f cdv))->sp vs H Q E->
   ∃t,PSs (cxOf CX P w K mg base N qual scope f cdv A outer s H E) body t/\t { nx:=fun _ H'=>Q .non H',rt:=Q } (start N vs) H):
  FnOk P w K mg base CX (k+1) f (PySem.W.fnOf name qual params body scope dV kV doc pm an cdv ct) ps sp:=by
 refine⟨len,fun A outer s H args us vs Q E hr e0 hb r hsp=>?_⟩
 have hl:=len _ _ _ _ hsp
 have KX:K.In s.heap:=e0.mod.kin.keeps fun b o e=>(e0.bs b o e).1
 have lim:s.heap.NoLimit:=e0.mod.nolimit.keeps fun b o e=>(e0.bs b o e).1
 have hkind:∀y∈ps.zip us,scope.names.lookup y.1=some .local\/(scope.names.lookup y.1=some .cell/\((cellsFrom (s.heap.objs.size+1) scope.names []).lookup y.1).isSome=true):=fun⟨n,v⟩ hy=>by
  rcases S.par n (uf hy).1 with q|q
  ·exact .inl q
  ·exact .inr ⟨q,PySem.W.cellsFrom_some _ _ _ (.inl q)⟩
 refine codeAny_call_function hr.depth (KX _ _ lk) rfl S.co S.gen rfl (PySem.W.codeRec_of KX hcd) (hb _ _ _ _ ?_)
 refine wpAny_newFunctionEnv_cells S.kind hkind fun env he s1 x=>?_
 subst he
 refine⟨lim.keeps x.toInCall.keep,codeAny_func ?_⟩
 obtain⟨t,ht,hq⟩:=hbody A outer s H vs Q E (hr.deeper _) hsp
 have I:Inv (cxOf CX P w K mg base N qual scope f cdv A outer s H E) [] (start N vs) H s1:=zP1 S hr.hd e0 hl r x
 refine xW (ht [] s1 (start N vs) H _ I hq) (fun fl s' hs=>?_) fun e s' hs=>hs
 have fin:∀{σ':St}{H':Hp}{v:V}{u:Value},Inv (cxOf CX P w K mg base N qual scope f cdv A outer s H E) [] σ' H' s'->RelV v u->Q v H'->CE outer P w H s Q u s':=
  fun {σ' H' v u} J rv q=>⟨v,H',J.os,J.bare,J.base,J.hok,rv,q⟩
 cases fl with
 | ret u=>
  obtain⟨v,σ',H',J,rv,q⟩:=hs
  exact fin J rv q
 | next=>
  obtain⟨σ',H',J,q⟩:=hs
  exact fin (v:=V.non) (u:=Value.none) J rfl q
 | brk=>
  obtain⟨_,_,_,q⟩:=hs
  exact False.elim q
 | cont=>
  obtain⟨_,_,_,q⟩:=hs
  exact False.elim q
end L2
namespace L2
open PySem PySem.Spec PyProof.Rows
section
variable {X:Cx}{x:Str}{p pos:Pos}{e:Expr}{es:List Expr}{t:TA}{id T:String}{r:List V->Hp->VK->Prop}
noncomputable def tCB (r:List V->Hp->VK->Prop) (t:TA):TE:=fun σ H Q=>t σ H fun vs H1=>r vs H1 Q
theorem zR4 (hc:zCb X (.builtin id) r) (hg:Gl X x) (hm:X.mg x=none) (hv:bootBuiltins x=some (.builtin id)) (ha:PA X (e::es) t) (hn:x≠"__name__":=by decide) (hdb:(x == ("__debug__":Str))=false:=by decide)
  (he:starEach (e::es) X.env=(false,eval e X.env)::starEach es X.env:=by rfl) (hpl:(backTo pos (starEach es X.env)).any (·.1)=false:=by rfl):PE X (.Call (.Name x p) (e::es) [] pos) (tCB r t):=by
 intro pins s σ H Q I h
 refine ue (zGe I hg hm hv ?_ hn hdb)
 exact PyProof.Rows.callWith_builtin1 (thn (ha pos pins s σ H _ I h) fun us s1 hz7=>by obtain⟨vs,H1,I1,r1,q1⟩:=hz7;exact hc pins s1 σ H1 vs us Q I1 r1 q1) he hpl
theorem zO9 (hc:zCb X (.type T) r) (hg:Gl X x) (hm:X.mg x=none) (hv:bootBuiltins x=some (.type T)) (ha:PA X (e::es) t) (hn:x≠"__name__":=by decide) (hdb:(x == ("__debug__":Str))=false:=by decide)
  (he:starEach (e::es) X.env=(false,eval e X.env)::starEach es X.env:=by rfl) (hpl:(backTo pos (starEach es X.env)).any (·.1)=false:=by rfl):PE X (.Call (.Name x p) (e::es) [] pos) (tCB r t):=by
 intro pins s σ H Q I h
 refine ue (zGe I hg hm hv ?_ hn hdb)
 exact ud (thn (ha pos pins s σ H _ I h) fun us s1 hz8=>by obtain⟨vs,H1,I1,r1,q1⟩:=hz8;exact hc pins s1 σ H1 vs us Q I1 r1 q1) he hpl
end
end L2
namespace L2
open PySem PySem.Spec PyProof.Rows
section
variable {κ:Type}[DecidableEq κ]
noncomputable def valV (kvs:List (κ × V)) (k:κ):Option V:=(kvs.find? fun kv=>decide (kv.1=k)).map (·.2)
noncomputable def putK (kvs:List (κ × V)) (k:κ) (v:V):List (κ × V):=
 if(kvs.any fun kv=>decide (kv.1=k))=true then kvs.map (fun kv=>if kv.1=k then(kv.1,v)else kv)else kvs++[(k,v)]
theorem zGz {p:κ × V}{r:List (κ × V)}{k:κ}(e:p.1=k):valV (p::r) k=some p.2:=by simp[valV,vZ,e]
theorem zH0 {p:κ × V}{r:List (κ × V)}{k:κ}(e:¬ p.1=k):valV (p::r) k=valV r k:=by simp[valV,vZ,e]
theorem zLr (k:κ):∀kvs:List (κ × V),(kvs.any fun kv=>decide (kv.1=k))=(valV kvs k).isSome
 | []=>rfl
 | p::r=>by
  rw[List.any_cons]
  by_cases e:p.1=k
  ·simp only[zGz e,xl e,Bool.true_or,Option.isSome_some]
  ·rw[zH0 e,xq e,Bool.false_or];exact zLr k r
theorem zHm (kvs:List (κ × V)) (k:κ) (v:V):(putK kvs k v).length<=kvs.length+1:=by
 unfold putK
 split
 ·rw[xm];lia
 ·rw[xI,xE,List.length_nil];lia
theorem RelO.isSome_eq {o:Option V}{u:Option Value}(r:RelO o u):o.isSome=u.isSome:=by
 cases o with
 | none=>cases u with
  | none=>rfl
  | some _=>exact(show False from r).elim
 | some _=>cases u with
  | none=>exact(show False from r).elim
  | some _=>rfl
theorem KV.val {kvs:List (κ × V)}{vs:List (κ × Value)}(r:KV kvs vs) (k:κ):RelO (valV kvs k) (valueAt vs k):=by
 unfold KV at r
 induction r with
 | nil=>exact True.intro
 | @cons p q ps qs h t ih=>
  obtain⟨h1,h2⟩:=h
  by_cases e:p.1=k
  ·have e':q.1=k:=h1.symm.trans e
   have b:valueAt (q::qs) k=some q.2:=by simp[valueAt,vZ,e']
   rw[zGz e,b];exact h2
  ·have e':¬ q.1=k:=fun z=>e (h1.trans z)
   have b:valueAt (q::qs) k=valueAt qs k:=by simp[valueAt,vZ,e']
   rw[zH0 e,b];exact ih
theorem KV.any {kvs:List (κ × V)}{vs:List (κ × Value)}(r:KV kvs vs) (k:κ):(kvs.any fun kv=>decide (kv.1=k))=vs.any fun kv=>decide (kv.1=k):=by
 unfold KV at r
 induction r with
 | nil=>rfl
 | cons h t ih=>rw[List.any_cons,List.any_cons,ih,h.1]
theorem KV.repl {kvs:List (κ × V)}{vs:List (κ × Value)}(r:KV kvs vs) (k:κ) {y:V}{u:Value}(ry:RelV y u):
  KV (kvs.map fun kv=>if kv.1=k then(kv.1,y)else kv) (vs.map fun kv=>if kv.1=k then(kv.1,u)else kv):=by
 unfold KV at r ⊢
 induction r with
 | nil=>exact .nil
 | @cons p q ps qs h t ih=>
  rw[xw,xw]
  refine .cons ?_ ih
  obtain⟨h1,h2⟩:=h
  by_cases e:p.1=k
  ·rw[xc e,xc (h1.symm.trans e)];exact⟨h1,ry⟩
  ·rw[xg e,xg (fun z=>e (h1.trans z))];exact⟨h1,h2⟩
theorem KV.put {kvs:List (κ × V)}{vs:List (κ × Value)}(r:KV kvs vs) (k:κ) {y:V}{u:Value}(ry:RelV y u):KV (putK kvs k y) (stored vs k u):=by
 unfold putK stored
 rw[r.any k]
 by_cases e:(vs.any fun kv=>decide (kv.1=k))=true
 ·rw[xc e,xc e];exact r.repl k ry
 ·rw[xg e,xg e];exact Paired.snoc r ⟨rfl,ry⟩
theorem KV.length {kvs:List (κ × V)}{vs:List (κ × Value)}(r:KV kvs vs):kvs.length=vs.length:=Paired.length r
end
theorem zUm {P:Program}{w:World}{k:Key}{u:Value}(r:RelV (kV k) u):(zCi P w).is k u=true:=by
 cases k with
 | inl i=>obtain⟨t,e⟩:=(show ∃t,u=Value.int i t from r);subst e;exact zLe P w i t
 | inr x=>obtain⟨t,e⟩:=(show ∃t,u=Value.str x t from r);subst e;exact zLd P w x t
theorem zKd {P:Program}{w:World}:∀{ks:List Key}{us:List Value},Vals (ks.map kV) us->ItemsAre (zCi P w) ks us
 | [],_,r=>by rw[vB]at r;cases r;exact .nil
 | k::ks,_,r=>by
  rw[xw]at r
  cases r with
  | cons h t=>exact .cons (zUm h) (zKd t)
noncomputable abbrev KT (H:Hp):List (List Key × V)->List (List Key × Addr × Value)->Prop:=Paired fun p q=>p.1=q.1/\H q.2.1=some (.tup (p.1.map kV))/\RelV p.2 q.2.2
theorem KT.val {H:Hp}{kvs:List (List Key × V)}{xs:List (List Key × Addr × Value)}(r:KT H kvs xs) (k:List Key):RelO (valV kvs k) ((atKey xs k).map (·.2)):=by
 induction r with
 | nil=>exact True.intro
 | @cons p q ps qs h t ih=>
  obtain⟨h1,_,h2⟩:=h
  by_cases e:p.1=k
  ·have e':q.1=k:=h1.symm.trans e
   have b:atKey (q::qs) k=some q.2:=by simp[atKey,vZ,e']
   rw[zGz e,b];exact h2
  ·have e':¬ q.1=k:=fun z=>e (h1.trans z)
   have b:atKey (q::qs) k=atKey qs k:=by simp[atKey,vZ,e']
   rw[zH0 e,b];exact ih
theorem KT.repl {H:Hp}{kvs:List (List Key × V)}{xs:List (List Key × Addr × Value)}(r:KT H kvs xs) (k:List Key) {y:V}{u:Value}(ry:RelV y u):
  KT H (kvs.map fun kv=>if kv.1=k then(kv.1,y)else kv) (xs.map (putAt k u)):=by
 induction r with
 | nil=>exact .nil
 | @cons p q ps qs h t ih=>
  rw[xw,xw]
  refine .cons ?_ ih
  obtain⟨h1,h2,h3⟩:=h
  unfold putAt
  by_cases e:p.1=k
  ·rw[xc e,xc (h1.symm.trans e)];exact⟨h1,h2,ry⟩
  ·rw[xg e,xg (fun z=>e (h1.trans z))];exact⟨h1,h2,h3⟩
theorem KT.put {H:Hp}{kvs:List (List Key × V)}{xs:List (List Key × Addr × Value)}(r:KT H kvs xs) (k:List Key) {b:Addr}{y:V}{u:Value}(hb:H b=some (.tup (k.map kV))) (ry:RelV y u):
  KT H (putK kvs k y) (storedH xs k b u):=by
 have e:(kvs.any fun kv=>decide (kv.1=k))=(atKey xs k).isSome:=by
  rw[zLr,(r.val k).isSome_eq,Option.isSome_map]
 unfold putK storedH
 rw[e]
 by_cases q:(atKey xs k).isSome=true
 ·rw[xc q,xc q];exact r.repl k ry
 ·rw[xg q,xg q];exact Paired.snoc r ⟨rfl,hb,ry⟩
theorem KT.keeps {H H':Hp}{kvs:List (List Key × V)}{xs:List (List Key × Addr × Value)}(r:KT H kvs xs) (ht:∀b ys,H b=some (.tup ys)->H' b=some (.tup ys)):KT H' kvs xs:=
 Paired.mapP r fun _ _ z=>⟨z.1,ht _ _ z.2.1,z.2.2⟩
section
variable {P:Program}{w:World}{H:Hp}{h:Heap}{a:Addr}
theorem zVu {u:HO}(ok:HOk P w H h) (e:Rd H a u):ObjOk P w H h a u:=e.ok ok
theorem zRz {kvs:List (Key × V)}(ok:HOk P w H h) (e:Rd H a (.dK kvs)):kvs.length<=sizeLine/\(a == sysModules)=false/\∃vs,KV kvs vs/\h.DictOf (zCi P w) a vs:=
 show ObjOk P w H h a (.dK kvs)from zVu ok e
theorem zYs {kvs:List (Key × V)}(ok:HOk P w H h) (e:H a=some (.dK kvs)):kvs.length<=sizeLine/\(a == sysModules)=false/\∃vs,KV kvs vs/\h.DictOf (zCi P w) a vs:=zRz ok (.inl e)
theorem zOs {ks:List Key}(ok:HOk P w H h) (e:H a=some (.tup (ks.map kV))):(tupleKind (zCi P w)).is h ks a:=by
 obtain⟨_,its,r,o,h1,h2,n,h3⟩:=(show ObjOk P w H h a (.tup (ks.map kV))from ok a _ e)
 exact⟨o,its.toArray,n,h1,h2,h3,by simpa using zKd r⟩
theorem zRv {kvs:List (List Key × V)}(ok:HOk P w H h) (e:Rd H a (.dT kvs)):kvs.length<=sizeLine/\(a == sysModules)=false /\
  ∃xs,KT H kvs xs/\h.DictOfH (tupleKind (zCi P w)) a xs:=by
 obtain⟨z,y,xs,r,o,es,ep,h1,h2,h3,h4,h5⟩:=(show ObjOk P w H h a (.dT kvs)from zVu ok e)
 refine⟨z,y,xs,r,o,es,ep,h1,h2,h3,h4,fun x hx=>?_,h5⟩
 have all:∀{l:List (List Key × V)}{m:List (List Key × Addr × Value)},KT H l m->∀x∈m,(tupleKind (zCi P w)).is h x.1 x.2.1:=by
  intro l m q
  induction q with
  | nil=>intro x hx;exact nomatch hx
  | @cons p q ps qs hq t ih=>
   intro x hx
   rcases xi.mp hx with e|hx
   ·subst e
    exact zOs ok (by rw[<- hq.1];exact hq.2.1)
   ·exact ih x hx
 exact all r x hx
theorem zYr {kvs:List (List Key × V)}(ok:HOk P w H h) (e:H a=some (.dT kvs)):kvs.length<=sizeLine/\(a == sysModules)=false /\
  ∃xs,KT H kvs xs/\h.DictOfH (tupleKind (zCi P w)) a xs:=zRv ok (.inl e)
end
noncomputable def DGet (H:Hp) (a:Addr) (y:V) (r:Option V):Prop:=
 (∃kvs k,Rd H a (.dK kvs)/\y=kV k/\r=valV kvs k)\/∃kvs k b,Rd H a (.dT kvs)/\y=.ref b/\H b=some (.tup (k.map kV))/\r=valV kvs k
noncomputable def DPut (H:Hp) (a:Addr) (y v:V) (H':Hp):Prop:=
 (∃kvs k,H a=some (.dK kvs)/\y=kV k/\kvs.length<sizeLine/\H'=upd H a (.dK (putK kvs k v))) \/
 ∃kvs k b,H a=some (.dT kvs)/\y=.ref b/\H b=some (.tup (k.map kV))/\kvs.length<sizeLine/\H'=upd H a (.dT (putK kvs k v))
section
variable {X:Cx}{pins:List (Addr × Obj)}{σ:St}{H:Hp}{s:Shared}{a:Addr}{y v:V}{u r:Value}{o:Option V}{A:Around}{E:Value->Shared->Prop}
theorem zPe {Q:Value->Shared->Prop}(hu:A.units+1<cLine) (I:Inv X pins σ H s) (g:DGet H a y (some v)) (ry:RelV y u) (h:∀w' s',Inv X pins σ H s'->RelV v w'->Q w' s'):
  wpAny (model X.prog X.w) A (getItem (.ref a) u) Q E s:=by
 rcases g with⟨kvs,k,e,ey,l⟩|⟨kvs,k,b,e,ey,eb,l⟩
 ·subst ey
  obtain⟨z,hd,vs,rel,dd⟩:=zRz I.hok e
  obtain⟨w',hw,rw'⟩:=RelO.some_of (v:=v) (o:=valueAt vs k) (by rw[l];exact rel.val k)
  exact wpAny_getItem_of (zUm ry) dd.mapOf hw (h w' _ (I.tok _) rw')
 ·subst ey
  cases(show u=Value.ref b from ry)
  obtain⟨z,hd,xs,rel,dd⟩:=zRv I.hok e
  obtain⟨w',hw,rw'⟩:=RelO.some_of (v:=v) (o:=(atKey xs k).map (·.2)) (by rw[l];exact rel.val k)
  obtain⟨p,hp,hp2⟩:=Option.map_eq_some_iff.mp hw
  refine wpAny_getItem_heap (tupleKind_room_in1 hu) (zOs I.hok eb) dd hp ?_
  rw[hp2]
  exact h w' _ (I.tok _) rw'
theorem zPc {h':Heap}{t':Nat}{ob:HO}(I:Inv X pins σ H s) (mu:Mut (H a)) (hs:Heap.SameBut a s.heap h') (he:∃q,h'.get? a=some q) (new:ObjOk X.prog X.w (upd H a ob) h' a ob):
  Inv X pins σ (upd H a ob) { s with heap:=h',toks:=t' }:=
 I.write (x:=a) (e:=a) mu (.inl rfl) (fun b q hb z=>(hs.2 b hb).trans z) he new
theorem zXr {P:Program}{w:World}{H':Hp}{h':Heap}{kvs:List (Key × V)}{vs:List (Key × Value)}(z:kvs.length<=sizeLine) (hd:(a == sysModules)=false) (rel:KV kvs vs) (dd:h'.DictOf (zCi P w) a vs):
  ObjOk P w H' h' a (.dK kvs):=⟨z,hd,vs,rel,dd⟩
theorem zPd {H':Hp}{Q:Unit->Shared->Prop}(hu:A.units+1<cLine) (I:Inv X pins σ H s) (g:DPut H a y v H') (ry:RelV y u) (rv:RelV v r) (h:∀s',Inv X pins σ H' s'->Q () s'):
  wpAny (model X.prog X.w) A (setItem (.ref a) u r) Q E s:=by
 rcases g with⟨kvs,k,e,ey,l,eH⟩|⟨kvs,k,b,e,ey,eb,l,eH⟩
 ·subst ey eH
  obtain⟨z,hd,vs,rel,dd⟩:=zYs I.hok e
  have hz:vs.length<=sizeLine:=by rw[<- rel.length];exact z
  have hl:(putK kvs k v).length<=sizeLine:=by have:=zHm kvs k v;lia
  refine wpAny_setItem_pairs (hsz:=hz) (zUm ry) dd fun h' dd' hs=>h _ ?_
  have he:∃q,h'.get? a=some q:=let ⟨q,_,_,hq,_⟩:=dd';⟨q,hq⟩
  exact zPc I (by rw[e];exact True.intro) hs he (zXr hl hd (rel.put k rv) dd')
 ·subst ey eH
  cases(show u=Value.ref b from ry)
  obtain⟨z,hd,xs,rel,dd⟩:=zYr I.hok e
  have hz:xs.length<=sizeLine:=by rw[<- Paired.length rel];exact z
  have hl:(putK kvs k v).length<=sizeLine:=by have:=zHm kvs k v;lia
  refine wpAny_setItem_heap (hsz:=hz) (tupleKind_room_in1 hu) (zOs I.hok eb) dd fun h' dd' hs=>h _ ?_
  obtain⟨q,es,ep,hq,h2,h3,h4,_,h5⟩:=dd'
  refine zPc I (by rw[e];exact True.intro) hs ⟨q,hq⟩ ⟨hl,hd,_,(rel.put k eb rv).keeps fun c ys ec=>?_,q,es,ep,hq,h2,h3,h4,h5⟩
  rw[zAo (zYl ec e (fun z=>nomatch z))]
  exact ec
end
section
variable {X:Cx}{pins:List (Addr × Obj)}{σ:St}{H:Hp}{s:Shared}{a:Addr}{kvs:List (Key × V)}{k:Key}{u:Value}{A:Around}{E:Value->Shared->Prop}
theorem zYv {Q:Value->Shared->Prop}(I:Inv X pins σ H s) (e:Rd H a (.dK kvs)) (h:∀t s',Inv X pins σ H s'->Q (.int kvs.length t) s'):wpAny (model X.prog X.w) A (call (.builtin "len") [.ref a]) Q E s:=by
 obtain⟨z,hd,vs,rel,dd⟩:=zRz I.hok e
 refine call_len_dict hd dd (by rw[<- rel.length];rw[vP]at z;lia) ?_
 rw[<- rel.length]
 exact h _ _ (I.tok _)
end
theorem zLj {X:Cx}{pins:List (Addr × Obj)}{σ:St}{H:Hp}{s:Shared}{a:Addr}{y:V}{o:Option V}(I:Inv X pins σ H s) (g:DGet H a y o):s.TypeIs (.ref a) "dict":=by
 rcases g with⟨kvs,k,e,_,_⟩|⟨kvs,k,b,e,_,_,_⟩
 ·obtain⟨_,_,vs,_,dd⟩:=zRz I.hok e
  exact dd.typeIs
 ·obtain⟨_,_,xs,_,dd⟩:=zRv I.hok e
  exact dd.typeIs
end L2
namespace HT
open PySem PyProof.Rows
section
open PySem.SeqAt
open PySem.AutoSeq1 (wpAny_loadPart')
open PySem.MeetsSeq PySem.MeetsSeq2 PySem.MeetsSeq3
end
section
variable {prog:Program}{w:World}{A:Around}{E:Value->Shared->Prop}{s:Shared}
theorem cat_tup {t b:Addr}{vs ws:List Value}{Q:Value->Shared->Prop}(ht:IsTup s.heap t vs.toArray) (hb:IsTup s.heap b ws.toArray) (hv:vs≠[])
  (h1:ws=[]->Q (.ref t) s) (h2:ws≠[]->Q (.ref s.heap.objs.size) { s with heap:=s.heap.push { cls:=.type "tuple",data:=.seq (vs++ws).toArray } })
  (hsz:vs.length+ws.length<=sizeLine):wpAny (model prog w) A (binaryOp .Add (.ref t) (.ref b)) Q E s:=by
 obtain⟨⟨cls,dd,data,sl⟩,ho,hc,n,hd⟩:=id ht
 obtain⟨⟨cls2,dd2,data2,sl2⟩,ho2,hc2,n2,hd2⟩:=id hb
 simp only at hc hd hc2 hd2
 subst hc hd hc2 hd2
 have e:vs.toArray++ws.toArray=(vs++ws).toArray:=by simp
 by_cases hw:ws=[]
 ·exact concat_meets ⟨_,ho,rfl⟩ ⟨_,ho2,rfl⟩ noFill_tuple_add seq_tuple_add PySem.F.slot_tuple_add PySem.F.entry_tuple_add (PySem.F.args_tuple_add_2 _ _)
   (tuple_addW1 t b vs.toArray ws.toArray n n2 dd dd2 sl sl2 (by simpa using hv) (by simp[hw])) ⟨ho,ho2,h1 hw⟩
 ·refine concat_meets ⟨_,ho,rfl⟩ ⟨_,ho2,rfl⟩ noFill_tuple_add seq_tuple_add PySem.F.slot_tuple_add PySem.F.entry_tuple_add (PySem.F.args_tuple_add_2 _ _)
   (tuple_addW2 t b vs.toArray ws.toArray n n2 dd dd2 sl sl2 (by simpa using hv) (by simpa using hw) (by rw[xo,xo];exact hsz)) ⟨ho,ho2,?_⟩
  rw[e]
  exact h2 hw
noncomputable def sIx (n d:Nat):Option Int->Nat
 | none=>d
 | some v=>if v<0 then(v+(n:Int)).toNat else min v.toNat n
theorem zVr (n d:Nat) (hd:d<=n) (o:Option Int):sIx n d o<=n:=by
 cases o with
 | none=>exact hd
 | some v=>
  show(if v<0 then(v+(n:Int)).toNat else min v.toNat n)<=n
  by_cases hv:v<0
  ·rw[xc hv];lia
  ·rw[xg hv];exact Nat.min_le_right _ _
theorem zPh (v:Int) (n d:Nat):(if v<0 then max (v+(n:Int)) 0 else min v (n:Int))=((sIx n d (some v):Nat):Int):=by
 show(if v<0 then max (v+(n:Int)) 0 else min v (n:Int))=(((if v<0 then(v+(n:Int)).toNat else min v.toNat n):Nat):Int)
 by_cases hv:v<0
 ·simp only[xc hv];lia
 ·simp only[xg hv];lia
theorem zNl (lo hi:Option Int) (n:Nat):Builtin.Slice.sliceAdjust lo hi 1 (n:Int)=(((sIx n 0 lo:Nat):Int),((sIx n n hi:Nat):Int)):=by
 have h1:¬ ((1:Int)<0):=by nofun
 unfold Builtin.Slice.sliceAdjust
 simp only[h1,xO]
 refine Prod.ext ?_ ?_
 ·cases lo with
  | none=>rfl
  | some v=>exact zPh v n 0
 ·cases hi with
  | none=>rfl
  | some v=>exact zPh v n n
theorem zMz (i j:Nat):Builtin.Slice.slicePlaces (i:Int) (j:Int) 1=j-i:=by
 unfold Builtin.Slice.slicePlaces
 have h1:(1:Int) > 0:=by nofun
 simp only[h1,xy,Int.ediv_one]
 split <;> lia
theorem slicePart_ {v:Value}{o:Option Int}{Q:Option Int->Shared->Prop}(p:IsPart v o) (h:Q o s):wpAny (model prog w) A (Builtin.Slice.slicePartIndex v) Q E s:=by
 cases p with
 | none=>exact slicePart_none h
 | int i t=>exact slicePart_int h
theorem sliceApplied_gen {sl:Addr}{vl vu:Value}{lo hi:Option Int}{n:Nat}{Q:Int × Int × Nat->Shared->Prop}(hs:s.heap.IsSliceOf sl vl vu .none) (pl:IsPart vl lo) (pu:IsPart vu hi)
  (h:Q (((sIx n 0 lo:Nat):Int),1,sIx n n hi-sIx n 0 lo) s):wpAny (model prog w) A (Builtin.Slice.sliceApplied (.ref sl) (pure (n:Int))) Q E s:=by
 obtain⟨os,hos,hcs,hds⟩:=id hs
 unfold Builtin.Slice.sliceApplied Builtin.Slice.sliceFields
 refine xa (xa (xC hos hds (x:=vl) rfl (xa (xC hos hds (x:=vu) rfl (xa (xC hos hds (x:=.none) rfl (xf ?_)))))))
 refine xa (slicePart_none ?_)
 show wpAny _ _ (if((1:Int) == 0)=true then _ else _) _ _ s
 rw[xg (by decide)]
 refine xa (slicePart_ pl (xa (slicePart_ pu (xa (xf ?_)))))
 show wpAny _ _ (match Builtin.Slice.sliceAdjust lo hi 1 (n:Int)with|(lo,hi)=>pure (lo,(1:Int),Builtin.Slice.slicePlaces lo hi 1)) _ _ s
 rw[zNl lo hi n]
 show wpAny _ _ (pure (((sIx n 0 lo:Nat):Int),(1:Int),Builtin.Slice.slicePlaces ((sIx n 0 lo:Nat):Int) ((sIx n n hi:Nat):Int) 1)) _ _ s
 rw[zMz]
 exact xf h
theorem zQw (xs:Array Value) (i k:Nat):((List.range k).filterMap fun(m:Nat)=>xs[((i:Int)+(m:Int)*1).toNat]?).toArray=((xs.toList.drop i).take k).toArray:=by
 have e:(fun(m:Nat)=>xs[((i:Int)+(m:Int)*1).toNat]?)=fun m=>xs[i+m]?:=by
  funext m
  have:((i:Int)+(m:Int)*1).toNat=i+m:=by nofun
  rw[this]
 rw[e]
 have:=pick_run xs i k
 rw[List.filterMap_map]at this
 have e2:((fun x=>xs[x]?) ∘ fun x=>i+x)=fun m=>xs[i+m]?:=rfl
 rw[e2]at this
 rw[this]
theorem getItem_tuple_cut {t sl:Addr}{items:Array Value}{vl vu:Value}{lo hi:Option Int}{Q:Value->Shared->Prop}(ht:IsTup s.heap t items) (hs:s.heap.IsSliceOf sl vl vu .none) (pl:IsPart vl lo) (pu:IsPart vu hi)
  (hw:¬ (sIx items.size 0 lo=0/\sIx items.size items.size hi=items.size))
  (h:Q (.ref s.heap.objs.size) { s with heap:=s.heap.push { cls:=.type "tuple",data:=.seq ((items.toList.drop (sIx items.size 0 lo)).take (sIx items.size items.size hi-sIx items.size 0 lo)).toArray } })
  (hsz:items.size<=sizeLine):wpAny (model prog w) A (getItem (.ref t) (.ref sl)) Q E s:=by
 have htake:sizeOk (.seq ((items.toList.drop (sIx items.size 0 lo)).take (sIx items.size items.size hi-sIx items.size 0 lo)).toArray):=by
  show((items.toList.drop (sIx items.size 0 lo)).take (sIx items.size items.size hi-sIx items.size 0 lo)).toArray.size<=sizeLine
  rw[xo,vt,List.length_drop,uu]
  lia
 have hj:sIx items.size items.size hi<=items.size:=zVr _ _ (xh _) hi
 obtain⟨os,hos,hcs,hds⟩:=id hs
 have hTs:s.TypeIs (.ref sl) "slice":=⟨os,hos,hcs⟩
 unfold getItem
 try with_reducible refine xH ?_
 first|refine xa (xf ?_)|skip
 refine xa (wpAny_sequenceKey ht.typeIs (by decide) ?_)
 refine xa (vf (name:=Str.ofString "__getitem__") ht.typeIs vp
  (x8 vp ht.typeIs entry_tuple_getitem ?_ (args_tuple_getitem _ _)))
 show wpAny _ _ (Builtin.Tuple.tupleItemsOf (.ref t) >>= _) _ _ s
 refine xa (tupleItemsOf_ ht ?_)
 refine xa (wpAny_typeOf hTs ?_)
 rw[xc (by decide)]
 refine xa (sliceApplied_gen hs pl pu ?_)
 have hno:¬ ((((sIx items.size 0 lo:Nat):Int) == 0 && (1:Int) == 1 && (sIx items.size items.size hi-sIx items.size 0 lo) == items.size)=true):=by
  intro q
  rw[xF,xF]at q
  have q1:((sIx items.size 0 lo:Nat):Int)=0:=eq_of_beq q.1.1
  have q2:sIx items.size items.size hi-sIx items.size 0 lo=items.size:=eq_of_beq q.2
  exact hw ⟨by nofun,by nofun⟩
 show wpAny _ _ (if(((sIx items.size 0 lo:Nat):Int) == 0 && (1:Int) == 1 && (sIx items.size items.size hi-sIx items.size 0 lo) == items.size)=true then _ else _) _ _ s
 rw[xg hno,zQw]
 first
  | exact xa (m:=Builtin.Tuple.tupleExact _) (x5 (xf ⟨_,rfl,xf h⟩) htake)
  | exact xa (m:=Builtin.Tuple.tupleExact _) (x5 (xa (xf (xf ⟨_,rfl,xf h⟩))) htake)
  | exact xa (xa (m:=Builtin.Tuple.tupleExact _) (x5 (xf (xf ⟨_,rfl,xf h⟩)) htake))
  | exact xa (xa (m:=Builtin.Tuple.tupleExact _) (x5 (xf ⟨_,rfl,xf h⟩) htake))
end
end HT
namespace L2
open PySem PySem.Spec PyProof.Rows
noncomputable abbrev TO:=St->Hp->(Option Int->Hp->Prop)->Prop
noncomputable def PO (X:Cx) (e:Option Expr) (t:TO):Prop:=
 ∀(pins:List (Addr × Obj)) (s:Shared) (σ:St) (H:Hp) (Q:Option Int->Hp->Prop),Inv X pins σ H s->t σ H Q->
  wpAny (model X.prog X.w) X.A (evalPart e X.env) (fun u s'=>∃o H',Inv X pins σ H' s'/\IsPart u o/\Q o H') X.xe s
noncomputable def zNq:TO:=fun _ H Q=>Q none H
noncomputable def zVl (t:TE):TO:=fun σ H Q=>t σ H fun x H1=>∃i,x=.int i/\Q (some i) H1
section
variable {X:Cx}{e:Expr}{te:TE}{lo hi:Option Expr}{tl th:TO}{pos p2:Pos}
theorem zTu:PO X none zNq:=by
 intro pins s σ H Q I h
 rw[evalPart_none]
 exact xf ⟨none,H,I,.none,h⟩
theorem zTt (h:PE X e te):PO X (some e) (zVl te):=by
 intro pins s σ H Q I hw
 rw[evalPart_some]
 refine thn (h pins s σ H _ I hw) fun u s1 hq1=>?_
 obtain⟨x,H1,I1,r1,q1⟩:=hq1
 obtain⟨i,rfl,q⟩:=q1
 obtain⟨t,rfl⟩:=r1
 exact⟨some i,H1,I1,.int i t,q⟩
noncomputable def SlR (X:Cx) (r:V->Option Int->Option Int->Hp->VK->Prop):Prop:=
 ∀(pins:List (Addr × Obj)) (s:Shared) (σ:St) (H:Hp) (x:V) (v vl vu:Value) (lo hi:Option Int) (sl:Addr) (Q:VK),Inv X pins σ H s->RelV x v->s.heap.IsSliceOf sl vl vu .none->IsPart vl lo->IsPart vu hi->r x lo hi H Q->
  ∃T id,typeLookup (.type T) "__getitem__"=pure (some (.builtin id))/\s.TypeIs v T/\wpAny (model X.prog X.w) X.A (getItem v (.ref sl)) (EP X pins σ Q) X.xe s
noncomputable def tSl (r:V->Option Int->Option Int->Hp->VK->Prop) (te:TE) (tl th:TO):TE:=fun σ H Q=>te σ H fun x H1=>tl σ H1 fun l H2=>th σ H2 fun u H3=>r x l u H3 Q
theorem zQz {r:V->Option Int->Option Int->Hp->VK->Prop}(hr:SlR X r) (he:PE X e te) (hl:PO X lo tl) (hu:PO X hi th):PE X (.Subscript e (.Slice lo hi none p2) pos) (tSl r te tl th):=by
 intro pins s σ H Q I h
 refine Subscript_ (thn (he pins s σ H _ I h) fun v s1 hq1=>?_)
 obtain⟨x,H1,I1,r1,q1⟩:=hq1
 refine wpAny_Slice (thn (hl pins s1 σ H1 _ I1 q1) fun vl s2 ⟨l,H2,I2,pl,q2⟩=>thn (hu pins s2 σ H2 _ I2 q2) fun vu s3 hq1=>?_)
 obtain⟨u,H3,I3,pu,q3⟩:=hq1
 rw[evalPart_none]
 refine xf ?_
 have I4:Inv X pins σ H3 { s3 with heap:=s3.heap.push { cls:=.type "slice",data:=.fields #[vl,vu,.none] } }:=I3.kept (t':=s3.toks) fun b ob q=>xk _ q
 obtain⟨T,id,hT,ht,hg⟩:=hr pins { s3 with heap:=s3.heap.push { cls:=.type "slice",data:=.fields #[vl,vu,.none] } } σ H3 x v vl vu l u s3.heap.objs.size Q I4 r1 (Heap.IsSliceOf.new ..) pl pu q3
 show wpAny (model X.prog X.w) X.A (subscriptTail e (.Slice lo hi none p2) v (.ref s3.heap.objs.size)) (EP X pins σ Q) X.xe { s3 with heap:=s3.heap.push { cls:=.type "slice",data:=.fields #[vl,vu,.none] } }
 exact tail_any (ops:=[.ref s3.heap.objs.size,v]) ht hT hg (by with_unfolding_all rfl)
noncomputable def cutV (xs:List V) (lo hi:Option Int):List V:=(xs.drop (HT.sIx xs.length 0 lo)).take (HT.sIx xs.length xs.length hi-HT.sIx xs.length 0 lo)
theorem zHu (xs:List V) (lo hi:Option Int):(cutV xs lo hi).length<=xs.length:=by
 unfold cutV
 rw[vt,List.length_drop]
 lia
noncomputable def rSlT (K:PySem.W.Frag):V->Option Int->Option Int->Hp->VK->Prop:=fun x lo hi H Q=>∃a xs,x=.ref a/\SqT K H a xs /\
 ¬ (HT.sIx xs.length 0 lo=0/\HT.sIx xs.length xs.length hi=xs.length)/\∀p,H p=none->Q (.ref p) (upd H p (.tup (cutV xs lo hi)))
theorem zSe:SlR X (rSlT X.K):=by
 intro pins s σ H x v vl vu lo hi sl Q I rx hs pl pu h
 obtain⟨a,xs,rfl,hx,hw,q⟩:=h
 cases rx
 obtain⟨its,r,ht,hz⟩:=I.tuple hx
 have hlen:its.toArray.size=xs.length:=by rw[xo];exact r.length.symm
 refine⟨"tuple",_,vp.lookup,ht.typeIs,?_⟩
 refine HT.getItem_tuple_cut ht hs pl pu (by rw[hlen];exact hw) ?_ (by rw[hlen];exact hz)
 rw[hlen]
 refine⟨.ref s.heap.objs.size,_,I.laid (t':=s.toks) (o:=.tup (cutV xs lo hi)) (fun b ob q=>xk _ q) (xh _) ?_,rfl,q _ (I.hok.fresh (xh _))⟩
 exact⟨xn (zHu xs lo hi) hz,_,(r.drop (HT.sIx xs.length 0 lo)).take (HT.sIx xs.length xs.length hi-HT.sIx xs.length 0 lo),IsTup.new _ _⟩
noncomputable def zY6 (K:PySem.W.Frag):R2:=fun x y H Q=>∃a b xs ys,x=.ref a/\y=.ref b/\SqT K H a xs/\SqT K H b ys/\xs≠[]/\xs.length+ys.length<=sizeLine /\
 (ys=[]->Q (.ref a) H)/\(ys≠[]->∀p,H p=none->Q (.ref p) (upd H p (.tup (xs++ys))))
theorem Vals.nil_iff {xs:List V}{us:List Value}(r:Vals xs us):us=[] <-> xs=[]:=by
 cases r with
 | nil=>simp
 | cons _ _=>simp
theorem zUc:OpR X (binaryOp .Add) (zY6 X.K):=by
 intro pins s σ H x y v u Q I rx ry h
 obtain⟨a,b,xs,ys,rfl,rfl,ha,hb,hx,hz,q1,q2⟩:=h
 cases rx
 cases ry
 obtain⟨its,r1,p1,_⟩:=I.tuple ha
 obtain⟨its2,r2,p2,_⟩:=I.tuple hb
 refine HT.cat_tup p1 p2 (fun z=>hx (r1.nil_iff.mp z)) (fun z=>⟨.ref a,H,I,rfl,q1 (r2.nil_iff.mp z)⟩) (fun z=>?_) (by rw[<- r1.length,<- r2.length];exact hz)
 refine⟨.ref s.heap.objs.size,_,I.laid (t':=s.toks) (o:=.tup (xs++ys)) (fun b ob q=>xk _ q) (xh _) ?_,rfl,q2 (fun w=>z (r2.nil_iff.mpr w)) _ (I.hok.fresh (xh _))⟩
 exact⟨by rw[xI];exact hz,_,r1.append r2,IsTup.new _ _⟩
end
end L2
namespace L2
open PySem PySem.Spec PyProof.Rows
noncomputable def ixN (n:Nat) (i:Int):Option Nat:=if 0<=i then(if i<n then some i.toNat else none)else if -(n:Int)<=i then some (i+n).toNat else none
noncomputable def atI {α:Type}(xs:List α) (i:Int):Option α:=(ixN xs.length i).bind fun j=>xs[j]?
theorem zOw {n:Nat}{i:Int}{j:Nat}(h:ixN n i=some j):seqIndex? i n=some j/\j<n/\-(n:Int)<=i/\i<n:=by
 unfold ixN at h
 by_cases h0:0<=i
 ·rw[xc h0]at h
  by_cases h1:i<n
  ·rw[xc h1]at h
   have e:i.toNat=j:=xD h
   exact⟨by rw[seqIndex_of h0 h1,e],by nofun,by nofun,h1⟩
  ·rw[xg h1]at h;cases h
 ·rw[xg h0]at h
  by_cases h1:-(n:Int)<=i
  ·rw[xc h1]at h
   have e:(i+n).toNat=j:=xD h
   exact⟨by rw[seqIndex_neg (by nofun) h1,e],by nofun,h1,by nofun⟩
  ·rw[xg h1]at h;cases h
theorem zLo {α:Type}{xs:List α}{i:Int}{v:α}(h:atI xs i=some v):∃j,seqIndex? i xs.length=some j/\xs[j]?=some v/\j<xs.length/\-(xs.length:Int)<=i/\i<xs.length:=by
 unfold atI at h
 cases e:ixN xs.length i with
 | none=>rw[e]at h;cases h
 | some j=>
  rw[e]at h
  obtain⟨h1,h2,h3,h4⟩:=zOw e
  exact⟨j,h1,h,h2,h3,h4⟩
noncomputable def zQ1 (b:Expr):Prop:=∀o i,subscripted b false o i=operate [o,i] (getItem o i)
noncomputable def IxR (X:Cx) (r:R2):Prop:=
 ∀(value slice:Expr) (pins:List (Addr × Obj)) (s:Shared) (σ:St) (H:Hp) (x y:V) (v u:Value) (Q:VK),Inv X pins σ H s->RelV x v->RelV y u->r x y H Q->
  subscripted slice false v u=operate [v,u] (getItem v u)->wpAny (model X.prog X.w) X.A (subscriptTail value slice v u) (EP X pins σ Q) X.xe s
noncomputable def MtR (X:Cx) (id:String) (r:V->List V->Hp->VK->Prop):Prop:=
 ∀(pins:List (Addr × Obj)) (s:Shared) (σ:St) (H:Hp) (x:V) (xs:List V) (v:Value) (us:List Value) (Q:VK),Inv X pins σ H s->RelV x v->Vals xs us->r x xs H Q->
  wpAny (model X.prog X.w) X.A (call (.builtin id) (v::us)) (EP X pins σ Q) X.xe s
section
variable {X:Cx}{a b:Expr}{ta tb:TE}{pos:Pos}
theorem zYe {r:R2}(hr:IxR X r) (ha:PE X a ta) (hb:PE X b tb) (hs:zQ1 b):PE X (.Subscript a b pos) (tOp r ta tb):=by
 intro pins s σ H Q I h
 exact Subscript_ (binT ha hb I h fun v u s2 x y H2 I2 rx ry q=>hr a b pins s2 σ H2 x y v u Q I2 rx ry q (hs _ _))
noncomputable def rIxL (K:PySem.W.Frag):R2:=fun x y H Q=>∃p xs i v,x=.ref p/\y=.int i/\SqL K H p xs/\atI xs i=some v/\Q v H
noncomputable def rIxT (K:PySem.W.Frag):R2:=fun x y H Q=>∃p xs i v,x=.ref p/\y=.int i/\SqT K H p xs/\atI xs i=some v/\Q v H
noncomputable def rIxS:R2:=fun x y H Q=>∃z i c,x=.str z/\y=.int i/\z.length<=sizeLine/\atI z.cps.toList i=some c/\Q (.str ⟨#[c]⟩) H
theorem zUn:IxR X (rIxL X.K):=by
 intro value slice pins s σ H x y v u Q I rx ry h hs
 obtain⟨p,xs,i,z,rfl,rfl,hq,he,q⟩:=h
 cases rx
 obtain⟨t,rfl⟩:=ry
 obtain⟨its,r,pl,hz⟩:=I.list hq
 obtain⟨j,h1,h2,h3,h4,h5⟩:=zLo he
 obtain⟨w,ew,rw'⟩:=r.get h2
 have hl:=r.length
 have hn:=line63
 have fin:EP X pins σ Q w s:=⟨z,H,I,rw',q⟩
 by_cases h0:0<=i
 ·have hj:i.toNat=j:=by
   rw[seqIndex_of h0 h5]at h1
   exact xD h1
  exact item_listR pl.isList h0 (by nofun) (by rw[hj];simpa using ew) fin hs
 ·have hj:(i+(its.toArray.size:Int)).toNat=j:=by
   rw[seqIndex_neg (by nofun) h4]at h1
   rw[xo,<- hl]
   exact xD h1
  exact subscriptTail_builtinR (x:=w) pl.isList.typeIs slot_list_getitem.lookup
   (wpAny_getItem_list_neg (Q:=fun r s'=>r=w/\EP X pins σ Q r s') pl.isList (by nofun) (by rw[xo] <;> lia) (by nofun) (by rw[hj];simpa using ew) ⟨rfl,fin⟩) hs
theorem zXc:IxR X (rIxT X.K):=by
 intro value slice pins s σ H x y v u Q I rx ry h hs
 obtain⟨p,xs,i,z,rfl,rfl,hq,he,q⟩:=h
 cases rx
 obtain⟨t,rfl⟩:=ry
 obtain⟨its,r,pl,hz⟩:=I.tuple hq
 obtain⟨j,h1,h2,h3,h4,h5⟩:=zLo he
 obtain⟨w,ew,rw'⟩:=r.get h2
 have hl:=r.length
 have hn:=line63
 have fin:EP X pins σ Q w s:=⟨z,H,I,rw',q⟩
 exact subscriptTail_builtinR (x:=w) pl.typeIs slot_tuple_getitem.lookup
  (getItem_tuple (j:=j) (Q:=fun r s'=>r=w/\EP X pins σ Q r s') pl (by nofun) (by nofun) (by rw[xo,<- hl];exact h1) (by simpa using ew) ⟨rfl,fin⟩) hs
theorem zXd:IxR X rIxS:=by
 intro value slice pins s σ H x y v u Q I rx ry h hs
 obtain⟨z,i,c,rfl,rfl,hz,he,q⟩:=h
 obtain⟨t,rfl⟩:=rx
 obtain⟨t',rfl⟩:=ry
 obtain⟨j,h1,h2,h3,h4,h5⟩:=zLo he
 have hl:z.cps.toList.length=z.length:=by simp[Str.length]
 rw[hl]at h1 h4 h5
 have hn:=line63
 exact tail_any (typeIs_str s z t) slot_str_getitem.lookup (getItem_str (c:=c) (by
  have e1:decide (i < -(2 ^ 63:Int))=false:=xq (by nofun)
  have e2:decide (i >= 2 ^ 63)=false:=xq (by nofun)
  rw[e1,e2,Bool.or_false]) (by rw[h1];simpa using h2) ⟨.str ⟨#[c]⟩,H,I.tok _,⟨_,rfl⟩,q⟩) hs
theorem zN6 (its:List Value) (n j:Nat) (u:Value):Obj.mapSeq (·.setIfInBounds j u) { cls:=.type "list",data:=.seq its.toArray n }={ cls:=.type "list",data:=.seq (its.set j u).toArray n }:=by
 simp[Obj.mapSeq]
theorem Inv.lst {pins:List (Addr × Obj)}{σ:St}{H:Hp}{s:Shared}{p:Addr}{xs:List V}(I:Inv X pins σ H s) (h:H p=some (.lst xs)):
  ∃(its:List Value) (n:Nat),Vals xs its/\s.heap.get? p=some { cls:=.type "list",data:=.seq its.toArray n }/\xs.length<=sizeLine:=by
 obtain⟨z,its,n,r,e⟩:=I.hok p _ h
 exact⟨its,n,r,e,z⟩
theorem Inv.lstUpd {pins:List (Addr × Obj)}{σ:St}{H:Hp}{s:Shared}{p:Addr}{xs ys:List V}{its its':List Value}{n n':Nat}{f:Obj->Obj}(I:Inv X pins σ H s) (h:H p=some (.lst xs))
  (ho:s.heap.get? p=some { cls:=.type "list",data:=.seq its.toArray n }) (hf:f { cls:=.type "list",data:=.seq its.toArray n }={ cls:=.type "list",data:=.seq its'.toArray n' }) (r:Vals ys its') (hz:ys.length<=sizeLine) (t:Nat):
  Inv X pins σ (upd H p (.lst ys)) { s with heap:=s.heap.update p f,toks:=t }:=by
 have e:(s.heap.update p f).get? p=some { cls:=.type "list",data:=.seq its'.toArray n' }:=by
  rw[v3 f ho (by rw[hf] <;> rfl),hf]
 refine I.write (x:=p) (e:=p) (by rw[h];trivial) (.inl rfl) (fun b u hb q=>(ug _ _ (xB hb)).trans q) ⟨_,e⟩ ?_
 exact⟨hz,its',n',r,e⟩
noncomputable def zY4:V->V->V->Hp->(Hp->Prop)->Prop:=fun o i v H Q=>∃p xs k j,o=.ref p/\i=.int k/\H p=some (.lst xs)/\ixN xs.length k=some j/\Q (upd H p (.lst (xs.set j v)))
theorem set_list:PSet X zY4:=by
 intro pins s σ H o i v ov iv u Q I ro ri rv h
 obtain⟨p,xs,k,j,rfl,rfl,hp,hj,q⟩:=h
 cases ro
 obtain⟨t,rfl⟩:=ri
 obtain⟨its,n,r,ho,hz⟩:=I.lst hp
 obtain⟨h1,h2,h3,h4⟩:=zOw hj
 have hl:=r.length
 have hn:=line63
 have I':Inv X pins σ (upd H p (.lst (xs.set j v))) { s with heap:=s.heap.update p (Obj.mapSeq (·.setIfInBounds j u)) }:=
  I.lstUpd hp ho (zN6 its n j u) (r.set rv j) (by rw[List.length_set];exact hz) s.toks
 by_cases h0:0<=k
 ·have hk:k.toNat=j:=by
   rw[seqIndex_of h0 h4]at h1
   exact xD h1
  exact PySem.W.ki_setAt ho h0 (by nofun) (by rw[xo,<- hl];exact h4) (by rw[hk];exact⟨_,I',q⟩)
 ·have hk:(k+(its.toArray.size:Int)).toNat=j:=by
   rw[seqIndex_neg (by nofun) h3]at h1
   rw[xo,<- hl]
   exact xD h1
  exact PySem.W.ki_setBack ho (by nofun) (by rw[xo,<- hl];exact h3) (by nofun) (by rw[hk];exact⟨_,I',q⟩)
theorem zJt (lo hi:Option Int) (n:Nat):(sliceBounds lo hi none n).1=((HT.sIx n 0 lo:Nat):Int)/\(sliceBounds lo hi none n).2.1=((HT.sIx n n hi:Nat):Int)/\(sliceBounds lo hi none n).2.2=1:=by
 refine⟨?_,?_,rfl⟩
 ·cases lo with
  | none=>simp[sliceBounds,HT.sIx]
  | some i=>
   simp only[sliceBounds,HT.sIx,Option.getD_none,show(1:Int) > 0 by decide,xy]
   by_cases h:i<0
   ·simp only[h,xy] <;> lia
   ·simp only[h,xO] <;> lia
 ·cases hi with
  | none=>simp[sliceBounds,HT.sIx]
  | some i=>
   simp only[sliceBounds,HT.sIx,Option.getD_none,show(1:Int) > 0 by decide,xy]
   by_cases h:i<0
   ·simp only[h,xy] <;> lia
   ·simp only[h,xO] <;> lia
theorem zIy (its:List Value) (lo hi:Option Int):slicePick its.toArray lo hi none=((its.drop (HT.sIx its.length 0 lo)).take (HT.sIx its.length its.length hi-HT.sIx its.length 0 lo)).toArray:=by
 obtain⟨h1,h2,h3⟩:=zJt lo hi its.toArray.size
 unfold slicePick
 rw[h1,h2,h3]
 simp only[sliceRange_one,pick_run,xo] <;> rfl
noncomputable def rSlL (K:PySem.W.Frag):V->Option Int->Option Int->Hp->VK->Prop:=fun x lo hi H Q=>∃a xs,x=.ref a/\SqL K H a xs/\∀p,H p=none->Q (.ref p) (upd H p (.lst (cutV xs lo hi)))
theorem zT7:SlR X (rSlL X.K):=by
 intro pins s σ H x v vl vu lo hi sl Q I rx hs pl pu h
 obtain⟨a,xs,rfl,hx,q⟩:=h
 cases rx
 obtain⟨its,r,ht,hz⟩:=I.list hx
 have hlen:=r.length
 refine⟨"list",_,slot_list_getitem.lookup,ht.isList.typeIs,?_⟩
 refine wpAny_getItem_list_slice ht.isList hs pl pu .none (by simp) ?_ (by rw[xo] <;> lia)
 rw[zIy,<- hlen]
 refine⟨.ref s.heap.objs.size,_,I.laid (t':=s.toks) (o:=.lst (cutV xs lo hi)) (fun b ob q=>xk _ q) (xh _) ?_,rfl,q _ (I.hok.fresh (xh _))⟩
 exact⟨xn (zHu xs lo hi) hz,_,0,(r.drop (HT.sIx xs.length 0 lo)).take (HT.sIx xs.length xs.length hi-HT.sIx xs.length 0 lo),xA _ rfl⟩
theorem zKl:zCb X (.builtin "len") (fun xs H Q=>∃p ys,xs=[.ref p]/\(SqL X.K H p ys\/SqT X.K H p ys)/\Q (.int ys.length) H):=by
 intro pins s σ H xs us Q I r h
 obtain⟨p,ys,rfl,hq,q⟩:=h
 obtain⟨u,rfl,rx⟩:=vals1 r
 cases rx
 have hn:=line63
 rcases hq with hq|hq
 ·obtain⟨its,r',pl,hz⟩:=I.list hq
  have hlen:=r'.length
  exact Calls.call_len_list pl.isList (by simp only[xo] <;> lia) ⟨.int ys.length,H,I.tok _,⟨s.toks+1,by rw[xo,hlen]⟩,q⟩
 ·obtain⟨its,r',pl,hz⟩:=I.tuple hq
  have hlen:=r'.length
  exact len_tuple pl (by simp only[xo] <;> lia) ⟨.int ys.length,H,I.tok _,⟨s.toks+1,by rw[xo,hlen]⟩,q⟩
theorem zKk:zCb X (.builtin "len") (fun xs H Q=>∃z,xs=[.str z]/\z.length<=sizeLine/\Q (.int z.length) H):=by
 intro pins s σ H xs us Q I r h
 obtain⟨z,rfl,hz,q⟩:=h
 obtain⟨u,rfl,t,rfl⟩:=vals1 r
 have hn:=line63
 exact len_str (by nofun) ⟨.int z.length,H,I.tok _,⟨_,rfl⟩,q⟩
theorem zE4:zCb X (.type "tuple") (fun xs H Q=>∃p ys,xs=[.ref p]/\((SqL X.K H p ys/\∀l,H l=none->Q (.ref l) (upd H l (.tup ys)))\/(SqT X.K H p ys/\Q (.ref p) H))):=by
 intro pins s σ H xs us Q I r h
 obtain⟨p,ys,rfl,h⟩:=h
 obtain⟨u,rfl,rx⟩:=vals1 r
 cases rx
 rcases h with⟨hq,q⟩|⟨hq,q⟩
 ·obtain⟨its,r',pl,hz⟩:=I.list hq
  have hlen:=r'.length
  refine call_tuple_list pl.isList (fun h' kp=>?_) (by simp only[xo] <;> lia)
  have I1:Inv X pins σ H { s with heap:=h' }:=I.kept (t':=s.toks) kp
  have I2:Inv X pins σ (upd H h'.objs.size (.tup ys)) { s with heap:=h'.push { cls:=.type "tuple",data:=.seq its.toArray } }:=
   I1.laid (t':=s.toks) (fun b o e=>xk _ e) (xh _) (show ObjOk X.prog X.w _ _ _ (.tup ys)from⟨hz,its,r',IsTup.new _ _⟩)
  exact⟨.ref h'.objs.size,_,I2,rfl,q _ (I1.hok.fresh (xh _))⟩
 ·obtain⟨its,r',pl,hz⟩:=I.tuple hq
  exact call_tuple_same pl ⟨.ref p,H,I,rfl,q⟩
noncomputable def tyV (K:PySem.W.Frag) (T:String) (x:V) (H:Hp):Prop:=match x with
 | .str _=>T="str"
 | .int _=>T="int"
 | .ref p=>(T="list"/\∃xs,SqL K H p xs)\/(T="tuple"/\∃o,K.lookup p=some o/\o.cls=.type "tuple"/\o.dict=none) \/
   (T="dict"/\((∃kvs,H p=some (.dK kvs))\/∃kvs,H p=some (.dT kvs)))\/(T="set"/\∃S n,H p=some (.set S n))
 | _=>False
theorem zS9 {pins:List (Addr × Obj)}{σ:St}{H:Hp}{s:Shared}{T:String}{x:V}{v:Value}(I:Inv X pins σ H s) (r:RelV x v) (ty:tyV X.K T x H):
  s.TypeIs v T/\∀a,v=.ref a->∃ob,s.heap.get? a=some ob/\ob.dict=none:=by
 cases x with
 | str z=>
  obtain⟨t,rfl⟩:=r
  cases(show T="str" from ty)
  exact⟨typeIs_str s z t,fun _ e=>nomatch e⟩
 | int i=>
  obtain⟨t,rfl⟩:=r
  cases(show T="int" from ty)
  exact⟨typeIs_int s i t,fun _ e=>nomatch e⟩
 | ref p=>
  cases r
  rcases ty with⟨rfl,xs,hq⟩|⟨rfl,o,hk,hc,hd⟩|⟨rfl,hk⟩|⟨rfl,S,n,hk⟩
  ·obtain⟨its,_,pl,_⟩:=I.list hq
   refine⟨pl.isList.typeIs,fun a e=>?_⟩
   cases e
   obtain⟨o,n,e,c,hd,_⟩:=pl
   exact⟨o,e,hd⟩
  ·refine⟨⟨o,I.kIn p o hk,hc⟩,fun a e=>?_⟩
   cases e
   exact⟨o,I.kIn _ o hk,hd⟩
  ·have z:∃o,s.heap.get? p=some o/\o.ExactDict:=by
    rcases hk with⟨kvs,hk⟩|⟨kvs,hk⟩
    ·obtain⟨_,_,_,_,o,_,_,e,ex,_⟩:=I.hok p _ hk
     exact⟨o,e,ex⟩
    ·obtain⟨_,_,_,_,o,_,_,e,ex,_⟩:=I.hok p _ hk
     exact⟨o,e,ex⟩
   obtain⟨o,e,ex⟩:=z
   refine⟨⟨o,e,ex.1⟩,fun a e2=>?_⟩
   cases e2
   exact⟨o,e,ex.2.1⟩
  ·obtain⟨o,_,_,_,e,ex,_⟩:=I.hok p _ hk
   refine⟨⟨o,e,ex.1⟩,fun a e2=>?_⟩
   cases e2
   exact⟨o,e,ex.2.1⟩
 | _=>exact False.elim ty
noncomputable def tBM0 (K:PySem.W.Frag) (T:String) (r:V->List V->Hp->VK->Prop) (to:TE):TE:=fun σ H Q=>to σ H fun x H1=>tyV K T x H1/\r x [] H1 Q
noncomputable def tBM (K:PySem.W.Frag) (T:String) (r:V->List V->Hp->VK->Prop) (to:TE) (t:TA):TE:=fun σ H Q=>to σ H fun x H1=>tyV K T x H1/\t σ H1 fun xs H2=>r x xs H2 Q
variable {o e:Expr}{es:List Expr}{to:TE}{t:TA}{name:Str}{apos cpos:Pos}{T id:String}{r:V->List V->Hp->VK->Prop}
theorem zWn (pa:PlainAttrs T) (slot:Slot T name id) (hty:typeOf (.builtin id)=pure (.type "method_descriptor")) (hm:MtR X id r) (ho:PE X o to)
  (hbase:attributeBase o name X.env (eval o X.env)=eval o X.env:=by rfl) (hline:(apos.endLine == cpos.line)=true:=by rfl):PE X (.Call (.Attribute o name apos) [] [] cpos) (tBM0 X.K T r to):=by
 intro pins s σ H Q I h
 refine wpAny_Call_method0_late hbase hline (thn (ho pins s σ H _ I h) fun v s1 hq1=>?_)
 obtain⟨x,H1,I1,r1,ty,q1⟩:=hq1
 obtain⟨h1,h2⟩:=zS9 I1 r1 ty
 exact⟨T,id,pa,slot,hty,h1,h2,Calls.callWith_builtin rfl (PySem.evalArgs_none (hm pins s1 σ H1 x [] v [] Q I1 r1 .nil q1))⟩
theorem zYf (pa:PlainAttrs T) (slot:Slot T name id) (hty:typeOf (.builtin id)=pure (.type "method_descriptor")) (hm:MtR X id r) (ho:PE X o to) (ha:PA X (e::es) t)
  (hbase:attributeBase o name X.env (eval o X.env)=eval o X.env:=by rfl)
  (hfew:((backTo cpos (starEach (e::es) X.env)).all (fun x=>!x.1) && (backToKw cpos (keywordEach [] X.env)).all (fun x=>x.1.isSome)
   && decide ((e::es).length+([]:List Keyword).length+(if([]:List Keyword).isEmpty then 0 else 1)<30))=true:=by rfl)
  (hline:(apos.endLine == cpos.line)=true:=by rfl) (hs:starEach (e::es) X.env=(false,eval e X.env)::starEach es X.env:=by rfl) (hplain:(backTo cpos (starEach es X.env)).any (·.1)=false:=by rfl):
  PE X (.Call (.Attribute o name apos) (e::es) [] cpos) (tBM X.K T r to t):=by
 intro pins s σ H Q I h
 refine wpAny_Call_method_late hbase hfew hline rfl (thn (ho pins s σ H _ I h) fun v s1 hq1=>?_)
 obtain⟨x,H1,I1,r1,ty,q1⟩:=hq1
 obtain⟨h1,h2⟩:=zS9 I1 r1 ty
 refine⟨T,id,pa,slot,hty,h1,h2,?_⟩
 have hA:=ha cpos pins s1 σ H1 _ I1 q1
 rw[hs]at hA ⊢
 refine Calls.callWith_builtin (by show(false || (backTo cpos (starEach es X.env)).any (·.1))=false;rw[hplain] <;> rfl) (Calls.evalArgs_plain ?_)
 exact thn hA fun us s2 hz9=>by obtain⟨vs,H2,I2,r2,q2⟩:=hz9;exact hm pins s2 σ H2 x vs v us Q I2 r1 r2 q2
end
end L2
namespace L2
open PySem PySem.Spec PyProof.Rows
noncomputable def MtM (X:Cx) (id:String) (r:V->List V->Hp->VK->Prop):Prop:=
 ∀(pins:List (Addr × Obj)) (s:Shared) (σ:St) (H:Hp) (x:V) (xs:List V) (v:Value) (us:List Value) (Q:VK),Inv X pins σ H s->RelV x v->Vals xs us->r x xs H Q->
  wpAny (model X.prog X.w) X.A (call (.builtin id) (v::us)) (EP X pins σ Q) X.xe s
theorem Vals.one:∀{x:V}{us:List Value},Vals [x] us->∃u,us=[u]/\RelV x u
 | _,_,.cons r .nil=>⟨_,rfl,r⟩
theorem Vals.zero:∀{us:List Value},Vals [] us->us=[]
 | _,.nil=>rfl
theorem Vals.dropLast {xs:List V}{us:List Value}(h:Vals xs us):Vals xs.dropLast us.dropLast:=by
 induction h with
 | nil=>exact .nil
 | cons r t ih=>
  cases t with
  | nil=>exact .nil
  | cons q t'=>exact .cons r ih
theorem Vals.reverse {xs:List V}{us:List Value}(h:Vals xs us):Vals xs.reverse us.reverse:=by
 induction h with
 | nil=>exact .nil
 | cons r t ih=>rw[List.reverse_cons,List.reverse_cons];exact Vals.append ih (.cons r .nil)
theorem zNd {α:Type}(l:List α):l.eraseIdx (l.length-1)=l.dropLast:=by
 induction l with
 | nil=>rfl
 | cons a r ih=>
  cases r with
  | nil=>rfl
  | cons b r=>
   have e:(a::b::r).length-1=((b::r).length-1)+1:=by
    have h1:(a::b::r).length=r.length+2:=rfl
    have h2:(b::r).length=r.length+1:=rfl
    lia
   rw[e,List.eraseIdx_cons_succ,ih]
   all_goals rfl
section
variable {X:Cx}{pins:List (Addr × Obj)}{σ:St}{H:Hp}{s:Shared}{l b:Addr}{xs ys zs:List V}
theorem Inv.lset {its its':List Value}{n:Nat}{f:Array Value->Array Value}{t':Nat}(I:Inv X pins σ H s) (hH:H l=some (.lst xs))
  (e:s.heap.get? l=some { cls:=.type "list",data:=.seq its.toArray n }) (hf:f its.toArray=its'.toArray) (hv:Vals ys its') (hz:ys.length<=sizeLine):
  Inv X pins σ (upd H l (.lst ys)) { s with heap:=s.heap.update l (Obj.mapSeq f),toks:=t' }:=by
 have q:=PySem.IsL.update e f
 rw[hf]at q
 refine I.write (x:=l) (e:=l) (by rw[hH];exact trivial) (.inl rfl) (fun b' u hb hu=>(ug s.heap (Obj.mapSeq f) (xB hb)).trans hu) ⟨_,q⟩ ?_
 exact⟨hz,its',_,hv,q⟩
theorem Inv.lnew {its:List Value}{t':Nat}(I:Inv X pins σ H s) (hv:Vals ys its) (hz:ys.length<=sizeLine):
  Inv X pins σ (upd H s.heap.objs.size (.lst ys)) { s with heap:=s.heap.push { cls:=.type "list",data:=.seq its.toArray },toks:=t' }:=
 I.laid (fun _ _ q=>xk _ q) (xh _) ⟨hz,its,0,hv,xA _ rfl⟩
theorem Inv.fresh (I:Inv X pins σ H s):H s.heap.objs.size=none:=I.hok.fresh (xh _)
theorem Inv.lstM (I:Inv X pins σ H s) (hH:H l=some (.lst xs)):xs.length<=sizeLine/\∃(its:List Value) (n:Nat),Vals xs its/\xs.length=its.length/\s.heap.get? l=some { cls:=.type "list",data:=.seq its.toArray n }:=by
 obtain⟨z,its,n,r,e⟩:=I.hok l _ hH
 exact⟨z,its,n,r,r.length,e⟩
theorem zR8 {n:Nat}(h:n<=sizeLine):Builtin.List.listTooLong n=false:=by
 unfold Builtin.List.listTooLong
 exact xq (by nofun)
end
section
variable {X:Cx}
noncomputable def zTe:V->List V->Hp->VK->Prop:=fun x vs H Q=>∃l xs y,x=.ref l/\vs=[y]/\H l=some (.lst xs)/\xs.length<sizeLine/\Q .non (upd H l (.lst (xs++[y])))
theorem zOm:MtM X "list.append" zTe:=by
 intro pins s σ H x vs v us Q I rx rv h
 obtain⟨l,xs,y,rfl,rfl,hH,hz,q⟩:=h
 cases rx
 obtain⟨u,rfl,ru⟩:=rv.one
 obtain⟨z,its,n,r,hl,e⟩:=I.lstM hH
 refine call_meets F.slot_list_append ⟨_,e,rfl⟩ F.entry_list_append (F.args_list_append_2 _ _) (PySem.list_append l its.toArray n u (by rw[xo];lia)) ⟨e,?_⟩
 refine⟨.non,_,I.lset (its':=its++[u]) hH e (by simp) (r.append (.cons ru .nil)) ?_,rfl,q⟩
 rw[xI,List.length_singleton]
 lia
noncomputable def rPop:V->List V->Hp->VK->Prop:=fun x vs H Q=>∃l xs y,x=.ref l/\vs=[]/\H l=some (.lst xs)/\xs[xs.length-1]?=some y/\Q y (upd H l (.lst xs.dropLast))
theorem zX3:MtM X "list.pop" rPop:=by
 intro pins s σ H x vs v us Q I rx rv h
 obtain⟨l,xs,y,rfl,rfl,hH,hy,q⟩:=h
 cases rx
 have hus:=rv.zero
 subst hus
 obtain⟨z,its,n,r,hl,e⟩:=I.lstM hH
 obtain⟨u,hu,ru⟩:=r.get hy
 have hy':its.toArray[its.toArray.size-1]?=some u:=by
  show its.toArray[its.length-1]?=some u
  rw[<- Array.getElem?_toList,<- hl]
  exact hu
 refine call_meets F.slot_list_pop ⟨_,e,rfl⟩ F.entry_list_pop (F.args_list_pop_1 _) (MeetsSeq.list_pop_last l its.toArray n u hy' (by rw[xo];lia)) ⟨e,?_⟩
 refine⟨y,_,I.lset (its':=its.dropLast) hH e ?_ r.dropLast ?_,ru,q⟩
 ·show its.toArray.eraseIdxIfInBounds (its.toArray.size-1)=its.dropLast.toArray
  rw[xo,List.eraseIdxIfInBounds_toArray,zNd]
 ·rw[List.length_dropLast]
  lia
end
end L2
namespace Att
open PySem PySem.W PySem.Calls PyProof.Rows
theorem zHp {P:Params}{h:Heap}:∀(ns:List Int) (vs:List Value),WellAll P h vs (ns.map WData.int)->IntsAre vs ns:=by
 intro ns
 induction ns with
 | nil=>
  intro vs w
  rw[vB]at w
  cases w
  exact .nil
 | cons n ns ih=>
  intro vs w
  rw[xw]at w
  cases w with
  | cons a b=>
   cases a
   exact .cons _ _ (ih _ b)
theorem zNx {l:OpenLaw}{n:Nat}(hn:l.most=some n) {P:Params}{h:Heap}{args:List WData}{vals:List Value}
  (hpre:l.row.toRowW.claim.pre args=true) (hwl:WellAll P h vals args):
  ∃a vs ns,vals=[Value.ref a]/\args=[WData.list (ns.map WData.int)]/\h.get? a=some { cls:=.type "list",data:=.seq vs.toArray }/\IntsAre vs ns/\ns.length<=n:=by
 have hsh:WShape.hasAll [] args [.list .int]=true:=(pre_splitW hpre).1
 have hc:l.pre.holds [] { args:=args }=true:=(pre_splitW hpre).2
 obtain⟨d,r,rfl,h1,h2⟩:=hasAllW_cons hsh
 obtain rfl:=hasAllW_nil h2
 obtain⟨xs,rfl,h3⟩:=hasW_list h1
 obtain⟨ns,rfl⟩:=items_int h3
 have hlen:ns.length<=n:=by
  unfold OpenLaw.pre at hc
  have h4:(WTm.not (.lt (.lit (.int (n:Int))) (.len (.arg 0)))).holds [] { args:=[.list (ns.map .int)] }=true:=by
   have h4:=(holds_andW hc).1
   rw[hn]at h4
   exact h4
  have h5:=condW_of h4 (w_not (w_lt w_lit (w_len_list (w_arg rfl))))
  rw[xm]at h5
  refine Nat.le_of_not_lt fun q=>?_
  have q':(n:Int)<((ns.length:Nat):Int):=by nofun
  first
   | (rw[xl q']at h5;exact absurd h5 (by decide))
   | (simp at h5;lia)
 cases hwl with
 | cons w1 w2=>
  cases w2
  cases w1 with
  | list ho hall=>exact⟨_,_,ns,rfl,rfl,ho,zHp ns _ hall,hlen⟩
theorem zO3 (l:OpenLaw) (args:List WData):l.row.toRowW.claim.post args (.bool true) args=true:=
 postW_of (r:=l.row.toRowW) (X:=(true == true))
  (show WShape.has [] (.bool true) .bool=true by first|rfl|decide|simp[WShape.has,WShape.arms,WShape.armsAll])
  (show(WTm.eq .res (.lit (.bool true))).value [] { args:=args,res:=some (.bool true),after:=args }=some (.bool (true == true))from w_eq_bool (w_res rfl) w_lit) rfl
theorem attach_call {l:OpenLaw}{n:Nat}{q:Program}{loose:List Str}{XP:(Str->Option Value)->Heap->Prop}{YP:World->Heap->Prop}{d:DefRec}
  (hn:l.most=some n) (hdf:d.params.defaults=[])
  (call:∀(w:World) (s₀ s₁:Shared) (mg mb:Str->Option Value) (fa:Addr) (o:Obj) (pm cd doc:Value) (a:Addr) (vs:List Value) (ns:List Int),
   Ground q loose [] XP w s₀ mg mb s₁.heap->YP w s₁.heap->
   s₁.heap.get? fa=some o->o.data=.func (docDef d.name d.params d.body d.scope pm cd doc)->s₁.heap.CodeRec cd d.name->mg d.name=some (.ref fa)->
   s₁.heap.get? a=some { cls:=.type "list",data:=.seq vs.toArray }->IntsAre vs ns->ns.length<=n->s₁.gens=#[]->
   codeAny (model l.prog w) callerA (.call (.ref fa) ⟨[.ref a],[]⟩) (fun r s'=>r=.ok (.ret (.bool true))/\OldK s₁.heap s'.heap/\s'.os=s₁.os/\AllBare s'.gens) s₁):
  WalkO q loose XP YP l.row.toRowW d [] (fun f vs=>PySem.call f vs):=by
 intro w s₀ s₁ mg mb G Y fa o pm cd doc dV kV ho hd hcd hD hmg hg args vals as hpre hlay hrd hwl hlo
 obtain rfl:dV=.none:=Dflts.none hD hdf
 obtain rfl:kV=.none:=Dflts.noKw hD
 obtain⟨a,vs,ns,rfl,rfl,hobj,hints,hlen⟩:=zNx hn hpre hwl
 refine enter_call (codeAny_mono (call w s₀ s₁ mg mb fa o pm cd doc a vs ns G Y ho (fd_plain hd) hcd hmg hobj hints hlen hg) fun r s' hq=>?_)
 obtain⟨rfl,h2,h3,h4⟩:=hq
 exact⟨.inl ⟨.bool true,.bool true,[],rfl,fun _=>rfl,.bool true,zO3 l _,fun _=>⟨List.Pairwise.nil,fun _ hm=>(nomatch hm)⟩⟩,h2,h3,h4⟩
end Att
namespace L2
open PySem PySem.Spec PyProof.Rows
theorem zJo:∀{vs:List Value}{ns:List Int},IntsAre vs ns->Vals (ns.map V.int) vs
 | _,_,.nil=>.nil
 | _,_,.cons n t h=>.cons ⟨t,rfl⟩ (zJo h)
noncomputable def Only (H:Hp):Prop:=∀b,H b=none\/∃o xs,H b=some (.frz o (.lst xs))
theorem law_call {P:Program}{w:World}{K:PySem.W.Frag}{mg mb:Str->Option Value}{CX:CXT}{k:Nat}{fa a:Addr}{fd:FuncData}{x:Str}{sp:Sp}{s₁:Shared}{vs:List Value}{ns:List Int}
  (KX:K.In s₁.heap) (hns:s₁.heap.Ns mainGlobals mg) (hb:s₁.heap.Ns builtinsNs mb) (hbb:∀x:Str,x≠"__name__"->mb x=bootBuiltins x) (hlim:s₁.heap.NoLimit) (hg:s₁.gens=#[])
  (ha:s₁.heap.get? a=some { cls:=.type "list",data:=.seq vs.toArray }) (hi:IntsAre vs ns) (hl:ns.length<=sizeLine) (hr:Room k callerA)
  (F:∀base:Heap,K.In base->base.Ns mainGlobals mg->FnOk P w K mg base CX k fa fd [x] sp) (hbind:∀(s:Shared) (u:Value),BindsTo s fd ⟨[u],[]⟩ [(x,u)])
  (hsp:∀H:Hp,Only H->SqL K H a (ns.map V.int)->sp [.ref a] H (fun v _=>v=.bl true) fun _ _ _=>False)
  (hCX:∀H e s',CX [] H s₁ (fun _ _ _=>False) e s'->False):
  codeAny (model P w) callerA (.call (.ref fa) ⟨[.ref a],[]⟩) (fun r s'=>r=.ok (.ret (.bool true))/\OldK s₁.heap s'.heap/\s'.os=s₁.os/\AllBare s'.gens) s₁:=by
 have rv:=zJo hi
 have lenV:=hi.length
 -- from an abstract heap in which nothing but the script may be tracked
 have core:∀H:Hp,Only H->SqL K H a (ns.map V.int)->HOk P w H s₁.heap->(∀b,H b≠none->b=a)->(H a≠none->K.lookup a=none)->
   codeAny (model P w) callerA (.call (.ref fa) ⟨[.ref a],[]⟩) (fun r s'=>r=.ok (.ret (.bool true))/\OldK s₁.heap s'.heap/\s'.os=s₁.os/\AllBare s'.gens) s₁:=by
  intro H hO hS hok hA hK
  have zHv:∀{b:Addr}{o:Obj},s₁.heap.get? b=some o->H b=none->(hidT s₁.heap H).get? b=some o:=fun e n=>zRm e n
  have noA:∀{b:Addr}{o:Obj}{es:Array DictEntry}{ep:Nat},s₁.heap.get? b=some o->o.data=.dict es ep->H b=none:=fun {b o es ep} e d=>by
   cases q:H b with
   | none=>rfl
   | some u=>
    have e':b=a:=hA b (by rw[q];simp)
    subst e'
    rw[ha]at e;cases e
    have d':Data.seq vs.toArray _=Data.dict es ep:=d
    cases d'
  have nsK:∀{b:Addr}{m:Str->Option Value},s₁.heap.Ns b m->(hidT s₁.heap H).Ns b m:=fun {b m} ⟨o,es,ep,e,d,r⟩=>⟨o,es,ep,zHv e (noA e d),d,r⟩
  have hKb:K.In (hidT s₁.heap H):=fun b o e=>zHv (KX b o e) (by
   cases q:H b with
   | none=>rfl
   | some u=>
    have e':b=a:=hA b (by rw[q];simp)
    subst e'
    rw[hK (by rw[q];simp)]at e;cases e)
  have hM:Mod K mg (hidT s₁.heap H):=⟨hKb,nsK hns,⟨mb,nsK hb,hbb⟩,let ⟨mc,h1,h2⟩:=hlim;⟨mc,nsK h1,h2⟩⟩
  have e0:Env0 P w K mg (hidT s₁.heap H) callerA [] s₁ H:=⟨rfl,hM,fun b o e=>zUd e,Nat.le_of_eq (zP2 _ _),trivial,fun b hb=>absurd (show b∈([]:List Addr)from hb) (by simp),hok,.of_eq hg⟩
  refine codeAny_mono ((F _ hKb (nsK hns)).run callerA [] s₁ H ⟨[.ref a],[]⟩ [.ref a] [.ref a] _ _ hr e0 (hbind s₁ (.ref a)) (.cons rfl .nil) (hsp H hO hS)) fun r s' h=>?_
  cases r with
  | error e=>exact(hCX H e s' h).elim
  | ok fl=>
   cases fl with
   | next=>exact False.elim h
   | brk=>exact False.elim h
   | cont=>exact False.elim h
   | ret u=>
    obtain⟨v,H',os,bare,un,hok',r',q⟩:=h
    have q':v=.bl true:=q
    subst q'
    obtain rfl:u=Value.bool true:=r'
    refine⟨rfl,OldK.of_keep fun b o e=>?_,os,bare⟩
    cases q:H b with
    | none=>exact un.keep b o e q (by intro z;exact absurd (show b∈([]:List Addr)from z) (by simp)) (by simp)
    | some u=>
     rcases hO b with z|⟨ob,xs,z⟩
     ·rw[q]at z;cases z
     ·have z2:=un.frzs b ob _ z
      obtain⟨e1,_⟩:=hok b _ z
      obtain⟨e2,_⟩:=hok' b _ z2
      rw[e]at e1;cases e1
      exact e2
 cases hk:K.lookup a with
 | some o=>
  -- the script is one of the module's own objects
  have e:=KX a o hk
  rw[ha]at e
  cases e
  refine core (fun _=>none) (fun _=>.inl rfl) (.inr ⟨_,vs.toArray,_,hk,rfl,rfl,rfl,by rw[xo,lenV];exact hl,by simpa using rv⟩) (fun b u z=>by have z':(none:Option HO)=some u:=z;cases z') (fun b z=>absurd rfl z) fun z=>absurd rfl z
 | none=>
  refine core (fun b=>if b=a then some (.frz { cls:=.type "list",data:=.seq vs.toArray } (.lst (ns.map V.int)))else none) (fun b=>?_) (.inl (.inr ⟨{ cls:=.type "list",data:=.seq vs.toArray },xc rfl⟩)) (fun b u z=>?_) (fun b z=>?_) fun _=>hk
  ·by_cases hb:b=a
   ·exact .inr ⟨_,_,xc hb⟩
   ·exact .inl (xg hb)
  ·by_cases hb:b=a
   ·have z':=(xc hb).symm.trans z
    cases z'
    subst hb
    exact⟨ha,by rw[xm];exact hl,vs,_,rv,ha⟩
   ·have z':=(xg hb).symm.trans z
    cases z'
  ·by_cases hb:b=a
   ·exact hb
   ·exact absurd (xg hb) z
end L2
namespace L2
open PySem PySem.Spec PyProof.Rows
theorem zT0 {l:PySem.W.OpenLaw}{n k:Nat}{q:Program}{loose:List Str}{XP:(Str->Option Value)->Heap->Prop}{YP:World->Heap->Prop}{d:DefRec}{K:Params->PySem.W.Frag}{CX:World->CXT}{sp:World->Sp}{x:Str}
  (hn:l.most=some n) (hn2:n<=sizeLine) (hdf:d.params.defaults=[]) (hr:Room k callerA)
  (hY:∀(w:World) (h:Heap),YP w h->(K w.params).In h)
  (F:∀(w:World) (mg:Str->Option Value) (fa:Addr) (h:Heap),(K w.params).In h->h.Ns mainGlobals mg->mg d.name=some (.ref fa)->
   ∃fd:FuncData,(∀(s:Shared) (u:Value),BindsTo s fd ⟨[u],[]⟩ [(x,u)]) /\
    ∀base:Heap,(K w.params).In base->base.Ns mainGlobals mg->FnOk l.prog w (K w.params) mg base (CX w) k fa fd [x] (sp w))
  (hsp:∀(w:World) (H:Hp) (a:Addr) (ns:List Int),ns.length<=n->Only H->SqL (K w.params) H a (ns.map V.int)->sp w [.ref a] H (fun v _=>v=.bl true) fun _ _ _=>False)
  (hCX:∀(w:World) (H:Hp) (s:Shared) (e:Value) (s':Shared),CX w [] H s (fun _ _ _=>False) e s'->False):
  PySem.W.WalkO q loose XP YP l.row.toRowW d [] (fun f vs=>PySem.call f vs):=by
 refine Att.attach_call hn hdf fun w s₀ s₁ mg mb fa o pm cd doc a vs ns G Y ho hd hcd hmg hobj hints hlen hg=>?_
 have KX:=hY w _ Y
 obtain⟨fd,hb,hF⟩:=F w mg fa _ KX G.T.g hmg
 exact law_call KX G.T.g G.T.b G.T.builtins G.T.nolimit hg hobj hints (xn hlen hn2) hr hF hb (fun H hO hS=>hsp w H a ns hlen hO hS) fun H e s'=>hCX w H s₁ e s'
end L2
namespace L2
open PySem PySem.Spec PyProof.Rows
noncomputable def zG5 (s:Stmt):Arguments:=match s with
 | .FunctionDef _ a _ _ _ _ _ _ _ _=>a
 | _=>{ posonlyargs:=[],args:=[],vararg:=none,kwonlyargs:=[],kw_defaults:=[],kwarg:=none,defaults:=[] }
noncomputable def zE3 (s:Stmt):List Stmt:=match s with
 | .FunctionDef _ _ b _ _ _ _ _ _ _=>b
 | _=>[]
noncomputable def zA6 (s:Stmt):Scope:=match s with
 | .FunctionDef _ _ _ _ _ _ sc _ _ _=>sc
 | _=>{ kind:=.function,names:=[],isGenerator:=false,isCoroutine:=false }
noncomputable abbrev CX0:CXT:=fun _ _ _ _ _ _=>False
noncomputable abbrev E0:XK:=fun _ _ _=>False
theorem pass0 {X:Cx}:Passes CX0 X E0:=fun _ _ _ _ _ _ _ h=>h.elim
structure Fun (K:PySem.W.Frag) (x qual:Str) (st:Stmt) (f:Addr) (fd:FuncData):Prop where
 ex:∃(oc:Value) (od:Option Addr) (kV doc pm:Value) (an:Option Addr) (cdv ct:Value) (osl:Array (Option Value)),
  fd=PySem.W.fnOf x qual (zG5 st) (zE3 st) (zA6 st) .none kV doc pm an cdv ct/\K.lookup f=some ⟨oc,od,.func fd,osl⟩/\PySem.W.codeIn K cdv qual=true
 kp:PySem.W.keepIn K (.ref f)=true
section
variable {P:Program}{w:World}{K:PySem.W.Frag}{mg:Str->Option Value}{base:Heap}
theorem Fun.ok {x qual:Str}{st:Stmt}{f:Addr}{fd:FuncData}{N ps:List Str}{k:Nat}{sp:Sp}(F:Fun K x qual st f fd) (S:zAh N ps (zA6 st)) (len:∀vs H Q E,sp vs H Q E->vs.length=ps.length)
  (hbody:∀(cdv:Value) (A:Around) (outer:List Env) (s:Shared) (H:Hp) (vs:List V) (Q:VK) (E:XK),Room k (A.deeper (envOfC qual (zA6 st) s.heap.objs.size f cdv))->sp vs H Q E->
   ∃t,PSs (cxOf CX0 P w K mg base N qual (zA6 st) f cdv A outer s H E).nox (zE3 st) t/\t { nx:=fun _ H'=>Q .non H',rt:=Q } (start N vs) H):FnOk P w K mg base CX0 (k+1) f fd ps sp:=by
 obtain⟨oc,od,kV,doc,pm,an,cdv,ct,osl,rfl,lk,hcd⟩:=F.ex
 refine zYq lk hcd S len fun A outer s H vs Q E hr hsp=>?_
 obtain⟨t,h,q⟩:=hbody cdv A outer s H vs Q E hr hsp
 exact⟨t,h.nox,q⟩
theorem Fun.binds {x qual:Str}{st:Stmt}{f:Addr}{fd:FuncData}{ps:List Str}(F:Fun K x qual st f fd)
  (h:∀(kV doc pm:Value) (an:Option Addr) (cdv ct:Value) (us:List Value),us.length=ps.length->bindArgs (PySem.W.fnOf x qual (zG5 st) (zE3 st) (zA6 st) .none kV doc pm an cdv ct) ⟨us,[]⟩=pure (ps.zip us)):Binds K fd ps []:=by
 obtain⟨oc,od,kV,doc,pm,an,cdv,ct,osl,rfl,lk,hcd⟩:=F.ex
 exact .all (h kV doc pm an cdv ct)
theorem zB2 {x qual:Str}{st:Stmt}{f:Addr}{oc:Value}{od an:Option Addr}{osl:Array (Option Value)}{kV doc pm cdv ct:Value}(l:K.lookup f=some ⟨oc,od,.func (PySem.W.fnOf x qual (zG5 st) (zE3 st) (zA6 st) .none kV doc pm an cdv ct),osl⟩)
  (c:PySem.W.codeIn K cdv qual=true) (k:PySem.W.keepIn K (.ref f)=true):Fun K x qual st f (PySem.W.fnOf x qual (zG5 st) (zE3 st) (zA6 st) .none kV doc pm an cdv ct):=⟨⟨oc,od,kV,doc,pm,an,cdv,ct,osl,rfl,l,c⟩,k⟩
end
theorem zC3 {A:Around}{k:Nat}(hr:Room k A):A.units+1<cLine:=vC (Nat.add_le_add_left (by decide:1<=64) _) hr.units
section
variable {X:Cx}
theorem pv (i:Nat) {x:Str}{pos:Pos}(hN:X.N[i]?=some x:=by rfl) (hv:Vis X.env.scope x:=by first|exact Or.inl rfl|exact Or.inr (Or.inl rfl)|exact Or.inr (Or.inr rfl)) (hd:(x == ("__debug__":Str))=false:=by decide)
  (hcd:(x == ("__classdict__":Str))=false:=by decide):PE X (.Name x pos) (tVar i):=zWc hN hv hd hcd
end
end L2
namespace L2
open PySem PySem.Spec PyProof.Rows
section
variable {prog:Program}{w:World}{A:Around}{R:Result->Shared->Prop}{s:Shared}
theorem zKh {elt target iter:Expr}{ifs:List Expr}{scope:Scope}{pos:Pos}{it acc:Value}{env:Env}(I:Nat->Shared->Prop)
  (turn:∀n s,I n s->wpAny (model prog w) A (pyNext it) (fun r s₁=>match r with
   | none=>R (.ok .next) s₁
   | some v=>wpAny (model prog w) A (letOwnedTupleGo target it v) (fun _ s₂=>wpAny (model prog w) A (assign target env v) (fun _ s₂=>
     wpAny (model prog w) A (forIn ifs true fun c r=>if r=true then do let ok <- isTrue c env (eval c env);pure (ForInStep.yield ok)else pure (ForInStep.yield r)) (fun ok s₃=>
      if ok=true then wpAny (model prog w) A (eval elt env) (fun x s₄=>
       wpAny (model prog w) A (call (.builtin "list.append") [acc,x]) (fun _ s₅=>∃m,m<n/\I m s₅) (fun _ _=>False) s₄) (fun _ _=>False) s₃
      else ∃m,m<n/\I m s₃) (fun _ _=>False) s₂) (fun _ _=>False) s₂) (fun _ _=>False) s₁) (fun _ _=>False) s)
  (n:Nat) (h:I n s):
  codeAny (model prog w) A (.compLoop (.ListComp elt [⟨target,iter,ifs,0⟩] scope pos) 0 it acc env) R s:=by
 refine codeAny_loop rfl I (fun n s hI=>?_) n h
 show wpAny _ A ((compTurn (.ListComp elt [⟨target,iter,ifs,0⟩] scope pos) 0 it acc env).onRaise (fun x=>do noteFrame x env;theTreesLotGoes x)) _ _ s
 refine wpAny_noted ?_
 rw[compTurn_list]
 refine xa (vN (xa (xW (turn n s hI) (fun r s₁ h₁=>?_) fun _ _ h'=>h'.elim)))
 cases r with
 | none=>exact xf h₁
 | some v=>
  refine xa (xW h₁ (fun _ s₁' h₁=>?_) fun _ _ h'=>h'.elim)
  refine xa (xW h₁ (fun _ s₂ h₂=>xa (xW h₂ (fun ok s₃ h₃=>?_) fun _ _ h'=>h'.elim)) fun _ _ h'=>h'.elim)
  cases ok with
  | false=>exact xf ⟨rfl,h₃⟩
  | true=>
   exact xa (xa (xW h₃ (fun x s₄ h₄=>xa (xW h₄ (fun _ s₅ h₅=>xf (xf ⟨rfl,h₅⟩)) fun _ _ h'=>h'.elim)) fun _ _ h'=>h'.elim))
end
theorem zNj {env:Env}:∀(names:List (Str × NameKind)) (cs:List (Str × Addr)),(∀y∈names,y.2=.free->∃c,env.cells.lookup y.1=some c)->∃cl:List (Str × Addr),
  (forIn names cs fun x r=>(match x,r with|(name,kind),cs=>if(kind == NameKind.free)=true then do let c <- cellOf env name;pure (ForInStep.yield ((name,c)::cs))else pure (ForInStep.yield cs)):Sem (List (Str × Addr)))=pure cl /\
  (∀x c,cl.lookup x=some c->cs.lookup x=some c\/env.cells.lookup x=some c)/\(∀x c,cs.lookup x=some c->∃c',cl.lookup x=some c')/\∀y∈names,y.2=.free->∃c,cl.lookup y.1=some c:=by
 intro names
 induction names with
 | nil=>intro cs _;exact⟨cs,rfl,fun _ _ h=>.inl h,fun x c h=>⟨c,h⟩,fun _ h=>nomatch h⟩
 | cons y r ih=>
  intro cs h
  obtain⟨n,k⟩:=y
  have hr:∀y∈r,y.2=.free->∃c,env.cells.lookup y.1=some c:=fun y hy=>h y (vn _ hy)
  by_cases hk:k=.free
  ·subst hk
   obtain⟨c,hc⟩:=h (n,.free) vc rfl
   obtain⟨cl,e,h1,h2,h3⟩:=ih ((n,c)::cs) hr
   refine⟨cl,?_,fun x d hx=>?_,fun x d hx=>?_,fun y hy hf=>?_⟩
   ·rw[v5]
    have hcell:cellOf env n=(pure c:Sem Addr):=by simp only[cellOf,hc]
    simp only[beq_self_eq_true,xy,hcell]
    simpa using e
   ·rcases h1 x d hx with z|z
    ·rw[xS]at z
     by_cases hxn:(x == n)=true
     ·rw[hxn]at z;simp at z;subst z
      have:x=n:=by simpa using hxn
      subst this;exact .inr hc
     ·rw[uh]at hxn;rw[hxn]at z;exact .inl z
    ·exact .inr z
   ·by_cases hxn:(x == n)=true
    ·exact h2 x c (by rw[xS,hxn])
    ·rw[uh]at hxn
     exact h2 x d (by rw[xS,hxn];exact hx)
   ·rcases xi.mp hy with z|z
    ·subst z;exact h2 n c (by rw[xS];simp)
    ·exact h3 y z hf
  ·have hb:(k == NameKind.free)=false:=by simpa using hk
   obtain⟨cl,e,h1,h2,h3⟩:=ih cs hr
   refine⟨cl,?_,h1,h2,fun y hy hf=>?_⟩
   ·rw[v5]
    simp only[hb,xX,xO]
    simpa using e
   ·rcases xi.mp hy with z|z
    ·subst z;exact absurd hf hk
    ·exact h3 y z hf
theorem zFr {scope:Scope}{env:Env}(h:∀y∈scope.names,y.2=.free->∃c,env.cells.lookup y.1=some c):∃cl:List (Str × Addr),closureFor scope env=pure cl /\
  (∀x c,cl.lookup x=some c->env.cells.lookup x=some c)/\∀y∈scope.names,y.2=.free->∃c,cl.lookup y.1=some c:=by
 obtain⟨cl,e,h1,_,h3⟩:=zNj (env:=env) scope.names [] h
 refine⟨cl,?_,fun x c hx=>(h1 x c hx).elim (fun z=>nomatch z) id,h3⟩
 simp only[closureFor]
 rw[e]
 rfl
theorem zGc {scope:Scope}{env:Env}{x:Str}(h:(relabel scope env).names.lookup x=some .cell\/(relabel scope env).names.lookup x=some .free):∃y∈scope.names,y.1=x/\(y.2=.free\/y.2=.cell):=by
 have key:∀(l:List (Str × NameKind)),((l.map fun(n,k)=>if(k == NameKind.free && env.scope.kind == .function && env.kindOf n == some .cell)then(n,NameKind.cell)else(n,k)).lookup x=some .cell \/
   (l.map fun(n,k)=>if(k == NameKind.free && env.scope.kind == .function && env.kindOf n == some .cell)then(n,NameKind.cell)else(n,k)).lookup x=some .free)->∃y∈l,y.1=x/\(y.2=.free\/y.2=.cell):=by
  intro l
  induction l with
  | nil=>intro h;rcases h with h|h <;> simp at h
  | cons y r ih=>
   intro h
   obtain⟨n,k⟩:=y
   by_cases hb:(k == NameKind.free && env.scope.kind == .function && env.kindOf n == some .cell)=true
   ·have kf:k=.free:=by simp at hb;exact hb.1.1
    by_cases hx:(x == n)=true
    ·have:x=n:=by simpa using hx
     exact⟨(n,k),vc,this.symm,.inl kf⟩
    ·rw[uh]at hx
     simp only[xw,hb,xy,xS,hx]at h
     obtain⟨y,hy,z⟩:=ih h
     exact⟨y,vn _ hy,z⟩
   ·rw[uh]at hb
    by_cases hx:(x == n)=true
    ·have e:x=n:=by simpa using hx
     simp only[xw,hb,xS,hx,xX,xO]at h
     rcases h with h|h
     ·exact⟨(n,k),vc,e.symm,.inr (xD h)⟩
     ·exact⟨(n,k),vc,e.symm,.inl (xD h)⟩
    ·rw[uh]at hx
     simp only[xw,hb,xS,hx,xX,xO]at h
     obtain⟨y,hy,z⟩:=ih h
     exact⟨y,vn _ hy,z⟩
 exact key scope.names h
noncomputable def zAx (X:Cx) (N:List Str) (scope:Scope) (cl:List (Str × Addr)) (C:Addr) (s:Shared) (H:Hp) (fp:List Addr):Cx where
 prog:=X.prog
 w:=X.w
 K:=X.K
 mg:=X.mg
 base:=X.base
 A:=X.A
 N:=N
 s₀:=s
 H₀:=H
 env:=compEnvC scope cl C X.env
 outer:=X.stack
 stack:=X.stack
 ex:=fp
 fn:=fun x=>scope.names.lookup x == some .cell
 calm:=X.calm
 pn:=[]
 xe:=fun _ _=>False
structure CompScope (X:Cx) (own fre:List Str) (ix:List Nat) (scope:Scope):Prop where
 kind:scope.kind=.function
 cell:∀y∈scope.names,y.2=.cell->scope.names.lookup y.1=some .cell
 loc:∀y∈scope.names,y.2=.local->scope.names.lookup y.1=some .local
 fr:∀y∈scope.names,y.2=.free->X.env.kindOf y.1=some .cell\/X.env.kindOf y.1=some .free
 len:fre.length=ix.length
 at_:∀(j:Nat) (i:Nat) (x:Str),fre[j]?=some x->ix[j]?=some i->X.N[i]?=some x/\(X.env.kindOf x=some .cell\/X.env.kindOf x=some .free)
 vis:∀x∈fre,(relabel scope X.env).names.lookup x=some .cell\/(relabel scope X.env).names.lookup x=some .free
 fno:∀x∈fre,scope.names.lookup x≠some .cell
noncomputable def zQi (scope sc:Scope):Scope:=
 { scope with names:=scope.names.map fun(n,k)=>if(k == .free && sc.kind == .function && sc.names.lookup n == some .cell)then(n,.cell)else(n,k) }
noncomputable def zD0 (o:Option NameKind):Bool:=o == some .cell || o == some .free
theorem zDm {o:Option NameKind}(h:zD0 o=true):o=some .cell\/o=some .free:=by
 simpa[zD0]using h
noncomputable def zSv (sc:Scope) (N own fre:List Str) (ix:List Nat) (scope:Scope):Bool:=
 (scope.kind == .function) && (scope.names.all fun y=>y.2 != .cell || scope.names.lookup y.1 == some .cell) && (scope.names.all fun y=>y.2 != .local || scope.names.lookup y.1 == some .local) &&
 (scope.names.all fun y=>y.2 != .free || zD0 (sc.names.lookup y.1)) && (fre.length == ix.length) && ((fre.zip ix).all fun p=>N[p.2]? == some p.1 && zD0 (sc.names.lookup p.1)) &&
 (fre.all fun x=>zD0 ((zQi scope sc).names.lookup x)) && fre.all fun x=>scope.names.lookup x != some .cell
theorem CompScope.mk' {X:Cx}{N own fre:List Str}{ix:List Nat}{scope sc:Scope}(hs:X.env.scope=sc) (hN:X.N=N) (h:zSv sc N own fre ix scope=true):CompScope X own fre ix scope:=by
 simp only[zSv,xF]at h
 obtain⟨⟨⟨⟨⟨⟨⟨h1,h2⟩,h3⟩,h4⟩,h5⟩,h6⟩,h7⟩,h8⟩:=h
 subst hs
 subst hN
 refine⟨by simpa using h1,fun y hy hl=>?_,fun y hy hl=>?_,fun y hy hl=>?_,by simpa using h5,fun j i x e1 e2=>?_,fun x hx=>?_,fun x hx=>?_⟩
 ·have:=vg.mp h2 y hy
  rw[hl]at this
  simpa using this
 ·have:=vg.mp h3 y hy
  rw[hl]at this
  simpa using this
 ·have:=vg.mp h4 y hy
  rw[hl]at this
  exact zDm (show zD0 (X.env.scope.names.lookup y.1)=true by simpa using this)
 ·have hz:(x,i)∈fre.zip ix:=by
   refine List.mem_iff_getElem?.mpr ⟨j,?_⟩
   rw[List.getElem?_zip_eq_some]
   exact⟨e1,e2⟩
  have:=vg.mp h6 (x,i) hz
  simp only[xF]at this
  exact⟨by simpa using this.1,zDm this.2⟩
 ·exact zDm (vg.mp h7 x hx)
 ·have:=vg.mp h8 x hx
  simpa using this
section
variable {M:Model}{A:Around}{E:Value->Shared->Prop}{s:Shared}
theorem zPi {lo:Nat}:∀(names:List (Str × NameKind)) (n:Nat) (acc:List (Str × Addr)) (x:Str) (c:Addr),lo<=n->((x,NameKind.cell)∈names\/∀c,acc.lookup x=some c->lo<=c)->(cellsFrom n names acc).lookup x=some c->lo<=c
 | [],_,_,_,_,_,h,e=>h.elim (fun z=>nomatch z) fun z=>z _ e
 | (m,k)::r,n,acc,x,c,hn,h,e=>by
  unfold cellsFrom at e
  split at e
  ·refine zPi r (n+1) _ x c (by nofun) ?_ e
   by_cases hx:x=m
   ·refine .inr fun c' q=>?_
    rw[xS,show(x == m)=true by rw[hx];exact beq_self_eq_true m]at q
    cases q;exact hn
   ·have hb:(x == m)=false:=by simpa using hx
    rcases h with h|h
    ·rcases xi.mp h with z|z
     ·exact absurd (congrArg Prod.fst z) hx
     ·exact .inl z
    ·exact .inr fun c' q=>h c' (by rw[xS,hb]at q;exact q)
  ·rename_i hk
   refine zPi r n acc x c hn ?_ e
   rcases h with h|h
   ·rcases xi.mp h with z|z
    ·cases z;exact absurd rfl hk
    ·exact .inl z
   ·exact .inr h
theorem zPj:∀(names:List (Str × NameKind)) (n:Nat) (acc:List (Str × Addr)) (x:Str),(∀y∈names,y.1=x->y.2≠.cell)->(cellsFrom n names acc).lookup x=acc.lookup x
 | [],_,_,_,_=>rfl
 | (m,k)::r,n,acc,x,h=>by
  unfold cellsFrom
  split
  ·rename_i hk
   rw[zPj r _ _ x fun y hy=>h y (vn _ hy),xS]
   have hx:(x == m)=false:=by
    cases q:x == m with
    | false=>rfl
    | true=>exact absurd (by simpa using hk) (h (m,k) vc (by simpa using(beq_iff_eq.mp q).symm))
   rw[hx]
  ·exact zPj r n acc x fun y hy=>h y (vn _ hy)
theorem zPk:∀(names:List (Str × NameKind)) (n:Nat) (acc:List (Str × Addr)),(∀x c,acc.lookup x=some c->c<n)->(∀x y c,acc.lookup x=some c->acc.lookup y=some c->x=y)->
  ∀x y c,(cellsFrom n names acc).lookup x=some c->(cellsFrom n names acc).lookup y=some c->x=y
 | [],_,_,_,h=>h
 | (m,k)::r,n,acc,hl,h=>by
  unfold cellsFrom
  split
  ·refine zPk r (n+1) _ (fun x c e=>?_) fun x y c e1 e2=>?_
   ·rw[xS]at e
    cases q:x == m with
    | true=>rw[q]at e;cases e;exact Nat.lt_succ_self _
    | false=>rw[q]at e;exact Nat.lt_succ_of_lt (hl x c e)
   ·rw[xS]at e1 e2
    cases q:x == m with
    | true=>
     cases q':y == m with
     | true=>rw[beq_iff_eq.mp q,beq_iff_eq.mp q']
     | false=>rw[q]at e1;rw[q']at e2;cases e1;exact absurd (hl y _ e2) (x4 _)
    | false=>
     cases q':y == m with
     | true=>rw[q]at e1;rw[q']at e2;cases e2;exact absurd (hl x _ e1) (x4 _)
     | false=>rw[q]at e1;rw[q']at e2;exact h x y c e1 e2
  ·exact zPk r n acc hl h
theorem zJj:∀(names:List (Str × NameKind)) (n:Nat) (acc:List (Str × Addr)) (x:Str),((x,NameKind.cell)∈names\/∃c,acc.lookup x=some c)->∃c,(cellsFrom n names acc).lookup x=some c
 | [],_,_,_,h=>h.elim (fun z=>nomatch z) id
 | (m,k)::r,n,acc,x,h=>by
  unfold cellsFrom
  split
  ·refine zJj r (n+1) _ x ?_
   cases q:x == m with
   | true=>exact .inr ⟨n,by rw[xS,q]⟩
   | false=>
    rcases h with h|⟨c,h⟩
    ·rcases xi.mp h with z|z
     ·rw[show x=m from congrArg Prod.fst z,beq_self_eq_true]at q;cases q
     ·exact .inl z
    ·exact .inr ⟨c,by rw[xS,q];exact h⟩
  ·rename_i hk
   refine zJj r n acc x ?_
   rcases h with h|h
   ·rcases xi.mp h with z|z
    ·cases z;exact absurd rfl hk
    ·exact .inl z
   ·exact .inr h
theorem zLm:∀(names:List (Str × NameKind)) (h:Heap) (acc:List (Str × Addr)) (lo:Nat),lo<=h.objs.size->(∀x c,acc.lookup x=some c->lo<=c->h.IsCell c none)->∀x c,(cellsFrom h.objs.size names acc).lookup x=some c->lo<=c->(pushCells h names).IsCell c none
 | [],_,_,_,_,q=>q
 | (m,k)::r,h,acc,lo,hl,q=>by
  unfold cellsFrom pushCells
  split
  ·have:=zLm r (h.push { cls:=.type "cell",data:=.cell none }) ((m,h.objs.size)::acc) lo (by rw[xY];lia) fun x c e hc=>by
    rw[xS]at e
    cases z:x == m with
    | true=>rw[z]at e;cases e;exact⟨_,xA _ rfl,rfl⟩
    | false=>rw[z]at e;exact(q x c e hc).keeps fun b o e=>xk _ e
   rwa[xY]at this
  ·exact zLm r h acc lo hl q
theorem zOk {scope:Scope}{globals:Addr}{closure:List (Str × Addr)}{qual:Str}{around:Env}{Q:Env->Shared->Prop}
  (hQ:Q (newEnv scope s.heap.objs.size globals (cellsFrom (s.heap.objs.size+1) scope.names closure) qual none .none (some around) builtinsNs) { s with heap:=pushCells (s.heap.push { cls:=.type "dict",data:=.dict #[] }) scope.names }):
  wpAny M A (newFunctionEnv scope globals closure [] qual none .none (some around)) Q E s:=by
 simp only[newFunctionEnv,Option.isSome_some,xy]
 refine xa (wpAny_alloc ?_)
 refine xa (wpAny_layCells _ (fun name kind cells=>by cases hkc:kind == NameKind.cell <;> simp[hkc]) _ _ _ _ ?_)
 rw[show({ s with heap:=s.heap.push { cls:=.type "dict",data:=.dict #[] } }:Shared).heap.objs.size=s.heap.objs.size+1 from xY ..]
 simp only[List.forIn_nil]
 exact xa (xf (xf hQ))
end
structure ClOk (X:Cx) (scope:Scope) (C:Addr) (cl:List (Str × Addr)):Prop where
 inj:∀x y c,cl.lookup x=some c->cl.lookup y=some c->x=y
 own:∀x c,scope.names.lookup x=some .cell->cl.lookup x=some c->C<c
 old:∀x c,scope.names.lookup x≠some .cell->cl.lookup x=some c->X.env.cells.lookup x=some c
 has:∀y∈scope.names,(y.2=.free\/y.2=.cell)->∃c,cl.lookup y.1=some c
theorem ClOk.or {X:Cx}{scope:Scope}{C:Addr}{cl:List (Str × Addr)}(h:ClOk X scope C cl) {x:Str}{c:Addr}(e:cl.lookup x=some c):X.env.cells.lookup x=some c\/C<c:=by
 by_cases q:scope.names.lookup x=some .cell
 ·exact .inr (h.own x c q e)
 ·exact .inl (h.old x c q e)
noncomputable def zF5 (own:List Str) (ix:List Nat) (σ:St):St:=own.map (fun _=>none)++ix.map fun i=>(σ[i]?).join
section
variable {X:Cx}{pins:List (Addr × Obj)}{σ:St}{H:Hp}{s:Shared}{own fre:List Str}{ix:List Nat}{scope:Scope}{cl:List (Str × Addr)}{fp:List Addr}{C:Addr}
theorem Inv.stkNo (I:Inv X pins σ H s) {b:Addr}(h:FpOk X pins H b):b ∉ frs X.stack:=fun hb=>
 (xi.mp (I.stkSub b hb)).elim h.2.1 h.2.2.1
theorem zV6 (I:Inv X pins σ H s) (hf:∀b∈fp,FpOk X pins H b) (hlt:∀b∈fp,b<s.heap.objs.size) (S:CompScope X own fre ix scope) (hcl:ClOk X scope C cl)
  (hC:s.heap.objs.size<=C):(zAx X (own++fre) scope cl C s H fp).Ok where
 mod:=I.ok.mod
 kind:=S.kind
 glob:=I.ok.glob
 blt:=I.ok.blt
 above:=hC
 inj:=hcl.inj
 has:=fun x hx=>by
  obtain⟨y,hy,e,k⟩:=zGc hx
  subst e
  exact hcl.has y hy k
 cab:=fun x c h e=>vy (vC hC (hcl.own x c (by simpa[zAx]using h) e))
 hd:=I.ok.hd
 frames:=I.ok.frames
 stk:=.inl rfl
 exf:=fun b hb=>⟨xr (xv (hlt b hb) hC),fun x c e=>(hcl.or e).elim (fun e=>(hf b hb).2.2.2.2.1 x c e) fun z=>xB (xr (Nat.lt_trans (xv (hlt b hb) hC) z))⟩
 bs:=I.bs
 bsz:=xn I.ok.bsz I.sz
 noex:=fun b o e hb=>by
  rcases(hf b hb).2.2.2.1 with z|z
  ·exact I.ok.noex b o e z
  ·exact absurd (xv (xj e) (xn I.ok.bsz z)) (x4 _)
 exfs:=fun b hb=>I.stkNo (hf b hb)
 funs:=I.stack
 frf:=I.stkFree
theorem zNh {h₁:Heap}{t':Nat}{m:Str->Option Value}(I:Inv X pins σ H s) (hf:∀b∈fp,FpOk X pins H b) (hlt:∀b∈fp,b<s.heap.objs.size) (S:CompScope X own fre ix scope) (hcl:ClOk X scope C cl) (hnew:∀x c,cl.lookup x=some c->C<c->h₁.IsCell c none)
  (hC:s.heap.objs.size<=C) (old:∀b o,s.heap.get? b=some o->h₁.get? b=some o) (hn:h₁.Ns C m):
  Inv (zAx X (own++fre) scope cl C s H fp) [] (zF5 own ix σ) H { s with heap:=h₁,toks:=t' } where
 ok:=zV6 I hf hlt S hcl hC
 os:=rfl
 bare:=I.bare
 base:=Un.kept old
 loc:=by
  refine⟨m,hn,fun i x v e1 e2 e3=>?_⟩
  obtain⟨m0,hn0,hl⟩:=I.loc
  have hi:own.length<=i:=by
   rcases Nat.lt_or_ge i own.length with z|z
   ·rw[zF5,vo (by simpa using z),xR]at e2
    cases q:own[i]? <;> rw[q]at e2 <;> simp at e2
   ·exact z
  have e1':(own++fre)[i]?=some x:=e1
  rw[ve hi]at e1'
  rw[zF5,ve (by simpa using hi),xR,xm]at e2
  cases q:ix[i-own.length]? with
  | none=>rw[q]at e2;simp at e2
  | some j=>
   rw[q]at e2
   obtain⟨hN,hk⟩:=S.at_ _ _ _ e1' q
   have e2':(σ[j]?).join=some v:=by simpa using e2
   have e4:σ[j]?=some (some v):=by
    cases z:σ[j]? with
    | none=>rw[z]at e2';cases e2'
    | some o=>rw[z]at e2';exact congrArg some e2'
   obtain⟨u,r,lk⟩:=hl j x v hN e4 (hk.elim (fun z=>.inr (.inl z)) fun z=>.inr (.inr z))
   refine⟨u,r,.inr ?_⟩
   rcases lk with⟨k,_⟩|⟨k,c,ec,hc⟩
   ·rcases hk with z|z <;> · rw[k]at z;cases z
   ·have fin:((zAx X (own++fre) scope cl C s H fp).env.kindOf x=some .cell\/(zAx X (own++fre) scope cl C s H fp).env.kindOf x=some .free):=by
     exact S.vis x (vv e1')
    refine⟨fin,?_⟩
    obtain⟨y,hy,e,kf⟩:=zGc (env:=X.env) (x:=x) fin
    subst e
    obtain⟨c',hc'⟩:=hcl.has y hy kf
    have:=(hcl.old _ _ (S.fno _ (vv e1')) hc').symm.trans ec
    cases this
    exact⟨c,hc',by obtain⟨o,ho,hd⟩:=hc;exact⟨o,old _ _ ho,hd⟩⟩
 cell:=fun x c e=>by
  rcases hcl.or e with q|q
  ·obtain⟨v,o,ho,hd⟩:=I.cell x c q
   exact⟨v,o,old _ _ ho,hd⟩
  ·exact⟨none,hnew x c e q⟩
 free:=I.hok.fresh hC
 freeC:=fun x c e=>(hcl.or e).elim (fun q=>I.freeC x c q) fun q=>I.hok.fresh (vy (vC hC q))
 pin:=fun p hp=>nomatch hp
 hok:=I.hok.kept old
 len:=by simp[zF5,zAx,S.len]
end
noncomputable def PIfs (X:Cx) (ifs:List Expr) (t:TT):Prop:=
 ∀(pins:List (Addr × Obj)) (s:Shared) (σ:St) (H:Hp) (Q:Bool->Hp->Prop),Inv X pins σ H s->t σ H Q->
  wpAny (model X.prog X.w) X.A (forIn ifs true fun c r=>if r=true then do let ok <- isTrue c X.env (eval c X.env);pure (ForInStep.yield ok)else pure (ForInStep.yield r)) (TP X pins σ Q) X.xe s
noncomputable def tYes:TT:=fun _ H Q=>Q true H
theorem zQu {X:Cx}:PIfs X [] tYes:=fun pins s σ H Q I h=>xf ⟨H,I,h⟩
noncomputable def zSd (J:It) (g:TG) (tt:TT) (te:TE) (σc:St) (H1:Hp) (Qd:List V->Hp->Prop):Prop:=
 ∃W:Nat->Nat->List V->St->Hp->Prop,(∃m,W 0 m [] σc H1)/\∀i m ys σ H,W i m ys σ H->
  (J.stop i H/\Qd ys H)\/(J.go i H/\ys.length<sizeLine/\∃N:List V->St->Hp->Prop,(∀zs σ' H',N zs σ' H'->∃m',m'<m/\W (i+1) m' zs σ' H')/\∀x H',J.yld i H x H'->g x σ H' fun σ2 H2=>tt σ2 H2 fun c H3=>
   if c=true then te σ2 H3 fun y H4=>N (ys++[y]) σ2 H4 else N ys σ2 H3)
theorem HOk.adopt {P:Program}{w:World}{H:Hp}{h:Heap}{D:Addr}{o:HO}(x:HOk P w H h) (n:H D=none) (new:ObjOk P w (upd H D o) h D o):HOk P w (upd H D o) h:=fun b u e=>by
 by_cases hb:b=D
 ·subst hb
  rw[zAt]at e
  cases e
  exact new
 ·rw[zAo hb]at e
  refine(x b u e).stay (fun c v _ q=>q) (fun c q=>?_) fun c xs q=>?_
  ·rw[zAo (zAp q n)];exact q
  ·rw[zAo (zAp q n)];exact q
theorem Un.adopt {fs ex:List Addr}{H H':Hp}{h h':Heap}{D:Addr}{o:HO}(u:Un fs ex H H' h h') (hD:h.objs.size<=D) (n:H' D=none):Un fs ex H (upd H' D o) h h' where
 keep:=u.keep
 slot:=u.slot
 free:=fun b ob e n' hx=>by rw[zAo (xr (xv (xj e) hD))];exact u.free b ob e n' hx
 there:=u.there
 tups:=fun b xs e=>by have:=u.tups b xs e;rw[zAo (zAp this n)];exact this
 frzs:=fun b ob xs e=>by have:=u.frzs b ob xs e;rw[zAo (zAp this n)];exact this
 tbls:=fun b ps e=>by obtain⟨m,z⟩:=u.tbls b ps e;exact⟨m,by rw[zAo (zAp z n)];exact z⟩
section
variable {X:Cx}{pins:List (Addr × Obj)}{σ:St}{H2:Hp}{s2:Shared}{own fre:List Str}{ix:List Nat}{scope:Scope}{cl:List (Str × Addr)}{fp:List Addr}{C:Addr}
theorem zIm {tg elt iter:Expr}{ifs:List Expr}{pos:Pos}{J:It}{it:Addr}{tn:Nat->Heap->Prop}{g:TG}{tt:TT}{te:TE}{Qd:List V->Hp->Prop}{RR:Value->Addr->Result->Shared->Prop}{E:Value->Shared->Prop}{cl0:List (Str × Addr)}
  (I2:Inv X pins σ H2 s2) (T:Turn X.prog X.w X.K tg J fp it tn) (st2:tn 0 s2.heap) (f2:∀b∈fp,FpOk X pins H2 b) (hc:X.calm=true) (S:CompScope X own fre ix scope)
  (hcl0:∀x c,cl0.lookup x=some c->X.env.cells.lookup x=some c) (hcf0:∀y∈scope.names,y.2=.free->∃c,cl0.lookup y.1=some c)
  (hg:∀cl C,PG (zAx X (own++fre) scope cl C s2 H2 fp) tg g) (hi:∀cl C,PIfs (zAx X (own++fre) scope cl C s2 H2 fp) ifs tt) (he:∀cl C,PE (zAx X (own++fre) scope cl C s2 H2 fp) elt te)
  (q:zSd J g tt te (zF5 own ix σ) H2 Qd)
  (hRR:∀D C s' m' ys H',Inv X pins σ (upd H' D (.lst ys)) s'->s'.heap.Ns C m'->FpOk X pins (upd H' D (.lst ys)) C->H' D=none->Qd ys H'->RR (.ref D) C (.ok .next) s'):
  wpAny (model X.prog X.w) X.A (newList []) (fun acc s₃=>wpAny (model X.prog X.w) X.A (newFunctionEnv scope X.env.globals cl0 [] X.env.qual none .none (some X.env)) (fun cenv s₄=>
   codeAny (model X.prog X.w) X.A (.compStart (.ListComp elt [⟨tg,iter,ifs,0⟩] scope pos) 0 (.ref it) acc { cenv with scope:=relabel scope X.env }) (RR acc cenv.locals) s₄) E s₃) E s2:=by
 obtain⟨W,⟨m0,w0⟩,turn⟩:=q
 refine x5 (zOk ?_)
 dsimp only
 generalize hHH:s2.heap.push { cls:=.type "list",dict:=none,data:=.seq ([]:List Value).toArray }=HH
 have hC:HH.objs.size=s2.heap.objs.size+1:=by rw[<- hHH,xY]
 have hns₁:(pushCells (HH.push { cls:=.type "dict",data:=.dict #[] }) scope.names).Ns HH.objs.size fun _=>none:=(Heap.Ns.new HH (.type "dict")).keeps (pushCells_keeps _ _)
 have hkp:∀b o,HH.get? b=some o->(pushCells (HH.push { cls:=.type "dict",data:=.dict #[] }) scope.names).get? b=some o:=fun b o e=>pushCells_keeps _ _ b o (xk _ e)
 have hltc:∀x c,cl0.lookup x=some c->c<HH.objs.size+1:=fun x c e=>by
  obtain⟨v,o,ho,_⟩:=I2.cell x c (hcl0 x c e)
  rw[hC]
  exact Nat.lt_succ_of_lt (Nat.lt_succ_of_lt (xj ho))
 have hnew:∀x c,(cellsFrom (HH.objs.size+1) scope.names cl0).lookup x=some c->HH.objs.size<c->(pushCells (HH.push { cls:=.type "dict",data:=.dict #[] }) scope.names).IsCell c none:=by
  have:=zLm scope.names (HH.push { cls:=.type "dict",data:=.dict #[] }) cl0 (HH.objs.size+1) (by rw[xY];exact xh _) fun x c e hc=>absurd (xv (hltc x c e) hc) (x4 _)
  rw[xY]at this
  exact fun x c e h=>this x c e h
 have hcl:ClOk X scope HH.objs.size (cellsFrom (HH.objs.size+1) scope.names cl0):={
  inj:=zPk _ _ _ hltc fun x y c e1 e2=>I2.ok.inj x y c (hcl0 x c e1) (hcl0 y c e2)
  own:=fun x c h e=>zPi (lo:=HH.objs.size+1) _ _ _ x c (xh _) (.inl (vY h)) e
  old:=fun x c h e=>by
   rw[zPj _ _ _ x fun y hy ex ec=>h (by rw[<- ex];exact S.cell y hy ec)]at e
   exact hcl0 x c e
  has:=fun y hy hk=>by
   obtain⟨n,k⟩:=y
   rcases hk with hk|hk
   ·exact zJj _ _ _ _ (.inr (hcf0 _ hy hk))
   ·dsimp only at hk
    subst hk
    exact zJj _ _ _ _ (.inl hy) }
 generalize cellsFrom (HH.objs.size+1) scope.names cl0=cl at hnew hcl ⊢
 generalize pushCells (HH.push { cls:=.type "dict",data:=.dict #[] }) scope.names=h₁ at hns₁ hkp hnew ⊢
 generalize hDe:s2.heap.objs.size=D at *
 generalize hCe:HH.objs.size=C at *
 have hDC:D≠C:=by nofun
 have hDle:s2.heap.objs.size<=D:=by nofun
 have hCle:s2.heap.objs.size<=C:=by nofun
 have below:∀b o,s2.heap.get? b=some o->b≠C/\b≠D:=fun b o e=>⟨xr (xv (xj e) hCle),xr (xv (xj e) hDle)⟩
 have old:∀b o,s2.heap.get? b=some o->h₁.get? b=some o:=fun b o e=>hkp b o (hHH ▸ xk _ e)
 have hacc:h₁.get? D=some { cls:=.type "list",dict:=none,data:=.seq ([]:List Value).toArray }:=hkp _ _ (hHH ▸ hDe ▸ xA _ rfl)
 have fpo:∀b∈fp,∃o,s2.heap.get? b=some o/\∀v,o.data≠.cell v:=T.obj _ _ st2
 have hlt:∀b∈fp,b<s2.heap.objs.size:=fun b hb=>by obtain⟨o,e,_⟩:=fpo b hb;exact xj e
 have hDf:D ∉ fp:=fun hm=>absurd (xv (hlt D hm) hDle) (x4 _)
 have hcD:∀x c,cl.lookup x=some c->c≠D:=fun x c e z=>by
  rcases hcl.or e with q|q
  ·obtain⟨v,o,ho,_⟩:=I2.cell x c q
   exact(below c o ho).2 z
  ·exact absurd (xv q (by rw[z,hC];exact Nat.le_succ _)) (x4 _)
 let Xc:=zAx X (own++fre) scope cl C s2 H2 fp
 have hnoS:∀b,s2.heap.objs.size<=b->b ∉ frs X.stack:=fun b hb z=>by
  rcases xi.mp (I2.stkSub b z)with z|z
  ·exact absurd (xv I2.lt hb) (by rw[z];exact x4 _)
  ·exact I2.nofs hb z
 have loop:∀t',codeAny (model X.prog X.w) X.A (.compLoop (.ListComp elt [⟨tg,iter,ifs,0⟩] scope pos) 0 (.ref it) (.ref D) (compEnvC scope cl C X.env)) (RR (.ref D) C) { s2 with heap:=h₁,toks:=t' }:=by
  intro t'
  have I4:Inv Xc [] (zF5 own ix σ) H2 { s2 with heap:=h₁,toks:=t' }:=zNh I2 f2 hlt S hcl hnew hCle old hns₁
  refine zKh (fun n s'=>∃i ys σ' H' its k,Inv Xc [] σ' H' s'/\tn i s'.heap/\(∀b∈fp,H' b=none)/\H' D=none/\s'.heap.get? D=some ({ cls:=.type "list",data:=.seq (List.toArray its) k }:Obj)/\Vals ys its/\ys.length<=sizeLine/\W i n ys σ' H')
   ?_ m0 ⟨0,[],_,H2,[],_,I4,T.keep _ _ _ st2 (fun b _ o e=>old b o e),fun b hb=>(f2 b hb).1,I2.hok.fresh hDle,hacc,.nil,Nat.zero_le _,w0⟩
  rintro n s3 ⟨i,ys,σ3,H3,its,k,I3,st3,fr3,hD3,ho3,hv3,hz3,w3⟩
  have I3p:Inv Xc [(D,{ cls:=.type "list",data:=.seq (List.toArray its) k })] σ3 H3 s3:=I3.pins_of fun p hp=>by
   have e:p=(D,({ cls:=.type "list",data:=.seq (List.toArray its) k }:Obj)):=by simpa using hp
   subst e
   exact⟨ho3,hD3,hDC,hnoS D hDle,fun v z=>by cases z⟩
  have stat:∀{H':Hp},(∀b∈fp,H' b=none)->∀b∈fp,FpOk Xc [(D,({ cls:=.type "list",data:=.seq (List.toArray its) k }:Obj))] H' b:=fun hn b hb=>
   ⟨hn b hb,xr (xv (hlt b hb) hCle),I2.stkNo (f2 b hb),.inl hb,fun x c e=>(hcl.or e).elim (fun e=>(f2 b hb).2.2.2.2.1 x c e) fun z=>xB (xr (Nat.lt_trans (xv (hlt b hb) hCle) z)),fun p hp z=>by
    have e:p=(D,({ cls:=.type "list",data:=.seq (List.toArray its) k }:Obj)):=by simpa[Xc,zAx]using hp
    rw[e]at z;exact hDf (by rw[show D=b from z];exact hb)⟩
  rcases turn i n ys σ3 H3 w3 with⟨stop,qn⟩|⟨go,hys,N,hN,step⟩
  ·refine thn (T.done Xc rfl rfl rfl hc i _ s3 σ3 H3 _ I3p (stat fr3) st3 stop) fun r s4 hq1=>?_
   obtain⟨hr,I4⟩:=hq1
   subst hr
   have ho4:=(I4.pin (D,_) (xN _ vc)).1
   obtain⟨m',hn',_⟩:=I4.loc
   have un:Un (frs X.stack) fp H2 (upd H3 D (.lst ys)) s2.heap s4.heap:=Un.adopt (show Un (frs X.stack) fp H2 H3 s2.heap s4.heap from I4.base) hDle hD3
   have hok:HOk X.prog X.w (upd H3 D (.lst ys)) s4.heap:=HOk.adopt (show HOk X.prog X.w H3 s4.heap from I4.hok) hD3 ⟨hz3,its,_,hv3,ho4⟩
   have IX:Inv X pins σ (upd H3 D (.lst ys)) s4:=I2.call' (ch:=fp) I4.os un hok I4.bare fun b hb=>⟨(f2 b hb).2.2.2.1,(f2 b hb).2.1,(f2 b hb).2.2.2.2.1,(f2 b hb).2.2.2.2.2⟩
   exact hRR D C s4 m' ys H3 IX hn' (I2.fpOk hCle (by rw[zAo (xB hDC)];exact I4.free)) hD3 qn
  ·refine thn (T.item Xc rfl rfl rfl hc i _ s3 σ3 H3 _ I3p (stat fr3) st3 go) fun r s4 hq1=>?_
   obtain⟨u,hr,h4⟩:=hq1
   subst hr
   refine thn h4 fun _ s5 hq1=>?_
   obtain⟨x,H5,I5,r5,y5,st5,fr5⟩:=hq1
   have I5':=I5.pinned (stat fr5) (T.obj _ _ st5)
   refine thn (hg cl C _ s5 σ3 H5 x u _ I5' r5 (step x H5 y5)) fun _ s6 hq1=>?_
   obtain⟨σ6,H6,I6,q6⟩:=hq1
   refine thn (hi cl C _ s6 σ6 H6 _ I6 q6) fun b s7 hq1=>?_
   obtain⟨H7,I7,q7⟩:=hq1
   have keepT:∀{σ7:St}{H7:Hp}{s7:Shared}{h':Heap},Inv Xc ([(D,({ cls:=.type "list",data:=.seq (List.toArray its) k }:Obj))]++zJx fp s5.heap) σ7 H7 s7->(∀b o,b≠D->s7.heap.get? b=some o->h'.get? b=some o)->tn (i+1) h'/\∀b∈fp,H7 b=none:=fun {σ7 H7 s7 h'} I7 hk=>by
    refine⟨T.keep _ _ _ st5 fun b hb o e=>hk b o (fun z=>hDf (z ▸ hb)) (I7.pin (b,o) (xN _ (xN _ (zEw hb e)))).1,fun b hb=>?_⟩
    obtain⟨o,e,d⟩:=T.obj _ _ st5 b hb
    exact(I7.pin (b,o) (xN _ (xN _ (zEw hb e)))).2.1
   cases b with
   | false=>
    obtain⟨m',hm,w7⟩:=hN _ _ _ q7
    obtain⟨t7,f7⟩:=keepT (h':=s7.heap) I7 fun _ _ _ e=>e
    have pD:=I7.pin (D,_) (xN _ (vM _ vc))
    exact⟨m',hm,i+1,ys,σ6,H7,its,k,I7.pins_of (fun p hp=>nomatch hp),t7,f7,pD.2.1,pD.1,hv3,hz3,w7⟩
   | true=>
    refine thn (he cl C _ s7 σ6 H7 _ I7 q7) fun y s8 hq1=>?_
    obtain⟨v,H8,I8,r8,n8⟩:=hq1
    obtain⟨m',hm,w8⟩:=hN _ _ _ n8
    have pD:=I8.pin (D,_) (xN _ (vM _ vc))
    have hsz:its.toArray.size<=sizeLine:=by rw[xo,<- hv3.length];exact hz3
    refine wpAny_list_append_plain (hsz:=hsz) (show s8.heap.PlainList D its.toArray from⟨_,pD.1⟩) fun h₅ hl₅ hs₅=>?_
    obtain⟨t8,f8⟩:=keepT (h':=h₅) I8 fun b o hb e=>hs₅.extBut b o hb e
    obtain⟨k',ho5⟩:=hl₅
    have I9:Inv Xc [] σ6 H8 { s8 with heap:=h₅ }:=(I8.pins_of (pins':=[]) (fun p hp=>nomatch hp)).turned (it:=D) (t':=s8.toks) (fun b o hb e=>hs₅.extBut b o hb e) pD.2.1 hDC (.inr hDle) hcD fun p hp=>nomatch hp
    refine⟨m',hm,i+1,ys++[v],σ6,H8,its++[y],k',I9,t8,f8,pD.2.1,?_,hv3.append (.cons r8 .nil),(by rw[xI,List.length_singleton];exact hys),w8⟩
    show h₅.get? D=_
    rw[ho5];simp
 exact codeAny_compStart_list (loop _) (T.self _ 0 _ _ _ (T.keep _ _ _ st2 (fun b _ o e=>old b o e)) (loop _))
end
noncomputable def zL1 (own:List Str) (ix:List Nat) (wi:TI) (g:TG) (tt:TT) (te:TE):TE:=fun σ H Q=>wi σ H fun J H1=>
 zSd J g tt te (zF5 own ix σ) H1 fun ys H2=>∀D,H2 D=none->Q (.ref D) (upd H2 D (.lst ys))
section
variable {X:Cx}{own fre:List Str}{ix:List Nat}{scope:Scope}
theorem zR0 {tg elt iter:Expr}{ifs:List Expr}{pos:Pos}{wi:TI}{g:TG}{tt:TT}{te:TE}(hc:X.calm=true) (S:CompScope X own fre ix scope) (hi:PI X tg iter wi)
  (hg:∀cl C s H fp,PG (zAx X (own++fre) scope cl C s H fp) tg g) (ht:∀cl C s H fp,PIfs (zAx X (own++fre) scope cl C s H fp) ifs tt) (he:∀cl C s H fp,PE (zAx X (own++fre) scope cl C s H fp) elt te)
  (hs:∀x,foldedSetIterable iter X.env x=pure x:=by intro _;rfl):PE X (.ListComp elt [⟨tg,iter,ifs,0⟩] scope pos) (zL1 own ix wi g tt te):=by
 intro pins s σ H Q I h
 obtain⟨cl,ecl,hcl,hcf⟩:=zFr (scope:=scope) (env:=X.env) fun y hy hf=>I.ok.has y.1 (S.fr y hy hf)
 rw[eval_ListComp]
 refine wpAny_comprehension_free (use:=none) rfl hs ecl S.kind S.loc (thn (hi pins s σ H _ I h) fun v s1 h1=>thn h1 fun itv s2 h2=>?_)
 obtain⟨it,fp,tn,J,H2,e,I2,T,st2,f2,q⟩:=h2
 subst e
 refine zIm (RR:=fun acc C=>compPost (model X.prog X.w) X.A X.xe none (EP X pins σ Q) acc C) I2 T st2 f2 hc S hcl hcf (fun cl C=>hg _ _ _ _ _) (fun cl C=>ht _ _ _ _ _) (fun cl C=>he _ _ _ _ _) q ?_
 intro D C s' m' ys H' IX hn fC hD qd
 refine⟨m',hn,fun h' hs'=>?_⟩
 exact⟨.ref D,_,IX.turned (it:=C) (t':=s'.toks) (fun b o hb e=>hs'.extBut b o hb e) fC.1 fC.2.1 fC.2.2.2.1 fC.2.2.2.2.1 fC.2.2.2.2.2,rfl,qd D hD⟩
theorem zTo {i:Nat}{x:Str}{pos':Pos}{tg elt iter:Expr}{ifs:List Expr}{pos cpos:Pos}{wi:TI}{g:TG}{tt:TT}{te:TE}(hN:X.N.Nodup) (hix:X.N[i]?=some x) (hx:Loc X.env.scope x)
  (hc:X.calm=true) (S:CompScope X own fre ix scope) (hi:PI X tg iter wi)
  (hg:∀cl C s H fp,PG (zAx X (own++fre) scope cl C s H fp) tg g) (ht:∀cl C s H fp,PIfs (zAx X (own++fre) scope cl C s H fp) ifs tt) (he:∀cl C s H fp,PE (zAx X (own++fre) scope cl C s H fp) elt te)
  (hsw:swapsWith (.ListComp elt [⟨tg,iter,ifs,0⟩] scope cpos) (some (.Name x pos')) pos.line X.env=pure true:=by rfl)
  (hs:∀x,foldedSetIterable iter X.env x=pure x:=by intro _;rfl) (hf:X.fn x=true\/X.env.scope.names.lookup x=some .local:=by first|exact .inl rfl|exact .inr rfl|assumption):
  PS X (.Assign [.Name x pos'] (.ListComp elt [⟨tg,iter,ifs,0⟩] scope cpos) pos) (tAsg (zL1 own ix wi g tt te) (gName i)):=by
 intro pins s σ H D I h
 obtain⟨cl,ecl,hcl,hcf⟩:=zFr (scope:=scope) (env:=X.env) fun y hy hf=>I.ok.has y.1 (S.fr y hy hf)
 rw[exec_Assign_Name_used _ _ _ _ hsw]
 refine xa (vN (xa ?_))
 show wpAny _ X.A (do let _ <- comprehension (.ListComp elt [⟨tg,iter,ifs,0⟩] scope cpos) scope X.env _ (newList []) false (eval iter X.env) (some (assign (.Name x pos') X.env))) _ _ s
 refine xa (xW (wpAny_comprehension_free (use:=some (assign (.Name x pos') X.env)) (Q:=fun _ s'=>SP X pins D .next s') rfl hs ecl S.kind S.loc
  (thn (hi pins s σ H _ I h) fun v s1 h1=>thn h1 fun itv s2 h2=>?_)) (fun _ s' hq=>xf (xf hq)) fun _ _ e=>e)
 obtain⟨it,fp,tn,J,H2,e,I2,T,st2,f2,q⟩:=h2
 subst e
 refine zIm (RR:=fun acc C=>compPost (model X.prog X.w) X.A X.xe (some (assign (.Name x pos') X.env)) (fun _ s'=>SP X pins D .next s') acc C) I2 T st2 f2 hc S hcl hcf (fun cl C=>hg _ _ _ _ _) (fun cl C=>ht _ _ _ _ _) (fun cl C=>he _ _ _ _ _) q ?_
 intro D' C s' m' ys H' IX hn fC hD qd
 show wpAny _ X.A (assign (.Name x pos') X.env (.ref D')) _ _ _
 refine wpAny_assign_Name (zJs (v:=.ref D') IX hN hix hx rfl (fun s'' I'' hsb=>?_) hf)
 obtain⟨a,hsb,ha⟩:=hsb
 have hCa:C≠a:=by
  rcases ha with z|z
  ·rw[z];exact fC.2.1
  ·exact xB (fC.2.2.2.2.1 x a z)
 refine⟨m',hn.sameBut hsb hCa,fun h' hs'=>?_⟩
 exact⟨_,_,I''.turned (it:=C) (t':=s''.toks) (fun b o hb e=>hs'.extBut b o hb e) fC.1 fC.2.1 fC.2.2.2.1 fC.2.2.2.2.1 fC.2.2.2.2.2,qd D' hD⟩
end
end L2
namespace L2
open PySem PySem.Spec PyProof.Rows
section
variable {X:Cx}
theorem zIv {A:Around}{P:Program}{w:World}{bs:List Bool}{its:List Value}(r:Vals (bs.map V.bl) its):TruthOf P w A (fun i v=>its.toArray[i]?=some v) (fun i=>bs.getD i false):=by
 intro i v s Q E hv hq
 have hv':its[i]?=some v:=by simpa using hv
 have hlt:i<its.length:=(xK.mp hv').1
 have hl:=r.length
 rw[xm]at hl
 have hb:(bs.map V.bl)[i]?=some (V.bl (bs[i]'(by nofun))):=by rw[xR,xx (by nofun)];rfl
 obtain⟨u,hu,ru⟩:=r.get hb
 rw[hv']at hu
 cases hu
 cases ru
 dsimp only at hq
 rw[v7,xx (by nofun)]at hq
 exact vz hq
theorem zI6:∀bs:List Bool,((List.range bs.length).all fun i=>bs.getD i false)=bs.all id:=by
 intro bs
 rw[Bool.eq_iff_iff,vg,vg]
 constructor
 ·intro h b hb
  obtain⟨i,hi,rfl⟩:=List.mem_iff_getElem.mp hb
  have:=h i (List.mem_range.mpr hi)
  simpa[v7,hi]using this
 ·intro h i hi
  have hi':=List.mem_range.mp hi
  have:=h bs[i] (List.getElem_mem hi')
  simpa[v7,hi']using this
theorem zPt (hc:X.calm=true):zCb X (.builtin "all") (fun xs H Q=>∃(p:Addr) (bs:List Bool),xs=[.ref p]/\SqL X.K H p (bs.map V.bl)/\Q (.bl (bs.all id)) H):=by
 intro pins s σ H xs us Q I r h
 obtain⟨p,bs,rfl,hq,q⟩:=h
 obtain⟨u,rfl,rx⟩:=vals1 r
 cases rx
 obtain⟨its,rv,pl,hz⟩:=I.list hq
 have hl:=rv.length
 rw[xm]at hl
 have hne:p≠s.heap.objs.size:=by obtain⟨o,ho,_⟩:=pl.isList;exact xr (xj ho)
 refine call_all_walk (ui pl.isList ?_)
 refine⟨_,_,_,_,_,_,_,rfl,Walks.list (A:=X.A.in1) (I.ok.hd hc) _ p hne its.toArray,⟨⟨_,xA _ rfl,rfl,rfl⟩,pl.isList.at fun o e=>xk _ e⟩,zIv rv,fun h' tk hk=>?_⟩
 have hfr:H s.heap.objs.size=none:=I.hok.fresh (xh _)
 have fp:FpOk X pins H s.heap.objs.size:=I.fpOk (xh _) hfr
 have e:((List.range its.toArray.size).all fun i=>bs.getD i false)=bs.all id:=by rw[xo,<- hl];exact zI6 bs
 rw[e]
 exact⟨.bl (bs.all id),H,Inv.turned (it:=s.heap.objs.size) (h':=h') (t':=tk) (I.kept (t':=s.toks) fun b o e=>xk _ e) (fun b o hb e=>hk b o (by simpa using hb) e) fp.1 fp.2.1 fp.2.2.2.1 fp.2.2.2.2.1 fp.2.2.2.2.2,rfl,q⟩
end
end L2
namespace L2
open PySem PySem.Spec PyProof.Rows
inductive Dv where
 | non|bl (b:Bool)|int (i:Int)|str (x:Str)|tup (l:List Dv)|lst (l:List Dv)
mutual
noncomputable def Dv.cmp:Dv->Dv->Bool
 | .non,.non=>true
 | .bl _,.bl _=>true
 | .int _,.int _=>true
 | .str _,.str _=>true
 | .tup a,.tup b=>cmpL a b
 | .lst a,.lst b=>cmpL a b
 | _,_=>false
noncomputable def cmpL:List Dv->List Dv->Bool
 | a::r,b::t=>a.cmp b && cmpL r t
 | _,_=>true
end
mutual
noncomputable def Den (K:PySem.W.Frag) (H:Hp):Dv->V->Prop
 | .non,v=>v=.non
 | .bl b,v=>v=.bl b
 | .int i,v=>v=.int i
 | .str x,v=>v=.str x
 | .tup ds,v=>∃a xs,v=.ref a/\SqT K H a xs/\DenL K H ds xs
 | .lst ds,v=>∃a xs,v=.ref a/\SqL K H a xs/\DenL K H ds xs
noncomputable def DenL (K:PySem.W.Frag) (H:Hp):List Dv->List V->Prop
 | [],xs=>xs=[]
 | d::ds,xs=>∃x r,xs=x::r/\Den K H d x/\DenL K H ds r
end
mutual
theorem Den.up {K:PySem.W.Frag}{H H':Hp}(ht:∀a xs,SqT K H a xs->SqT K H' a xs) (hl:∀a xs,SqL K H a xs->SqL K H' a xs):∀(d:Dv) (v:V),Den K H d v->Den K H' d v
 | .non,_,h=>h
 | .bl _,_,h=>h
 | .int _,_,h=>h
 | .str _,_,h=>h
 | .tup ds,v,⟨a,xs,e,q,r⟩=>⟨a,xs,e,ht _ _ q,DenL.up ht hl ds xs r⟩
 | .lst ds,v,⟨a,xs,e,q,r⟩=>⟨a,xs,e,hl _ _ q,DenL.up ht hl ds xs r⟩
theorem DenL.up {K:PySem.W.Frag}{H H':Hp}(ht:∀a xs,SqT K H a xs->SqT K H' a xs) (hl:∀a xs,SqL K H a xs->SqL K H' a xs):∀(ds:List Dv) (xs:List V),DenL K H ds xs->DenL K H' ds xs
 | [],_,h=>h
 | d::ds,xs,⟨x,r,e,h1,h2⟩=>⟨x,r,e,Den.up ht hl d x h1,DenL.up ht hl ds r h2⟩
end
section
variable {X:Cx}{pins:List (Addr × Obj)}{σ:St}{H:Hp}{s:Shared}
theorem zS2 {T:String}(b:Bool):zCb X (.builtin "isinstance") (fun xs H Q=>∃x t,xs=[x,.ty T]/\TyOf X.K H x t/\PySem.W.kitOne X.K t (.type T)=some b/\Q (.bl b) H):=by
 intro pins s σ H xs us Q I r h
 obtain⟨x,t,rfl,ty,e,q⟩:=h
 obtain⟨u,w',rfl,ru,rw'⟩:=vals2 r
 cases(show w'=Value.type T from rw')
 exact zP0 I ru ty e fun tk=>⟨.bl b,H,I.tok _,rfl,q⟩
noncomputable def gLst (K:PySem.W.Frag) (n:Nat) (t:TGs):TG:=fun v σ H Q=>∃a xs,v=.ref a/\SqL K H a xs/\xs.length=n/\t xs σ H Q
theorem zMf {prog:Program}{w:World}{A:Around}{E:Value->Shared->Prop}{it t:Addr}{items:Array Value}(hne:t≠it):∀(n i:Nat) (s:Shared) (Q:List Value->Shared->Prop),s.heap.IsListIter it t i->s.heap.IsList t items->i+n<=items.size->
  (∀h',h'.IsListIter it t (i+n)->Heap.SameBut it s.heap h'->Q ((items.toList.drop i).take n) { s with heap:=h' })->wpAny (model prog w) A (draw (.ref it) n) Q E s
 | 0,i,s,Q,hit,_,_,hQ=>by
  show wpAny _ _ (pure []) Q E s
  exact xf (by simpa using hQ s.heap hit (Heap.SameBut.refl ..))
 | n+1,i,s,Q,hit,ht,hle,hQ=>by
  have hlt:i<items.size:=by nofun
  show wpAny _ _ (pyNext (.ref it) >>= _) Q E s
  refine xa (wpAny_pyNext_list_item hit ht (x:=items[i]) (by simp[hlt]) fun h₁ hit₁ hs₁=>?_)
  refine xa (xH (zMf hne n (i+1) { s with heap:=h₁ } _ hit₁ (ht.at fun o e=>hs₁.extBut t o hne e) (by nofun) fun h₂ hit₂ hs₂=>xf ?_))
  have hd:items.toList.drop i=items[i]::items.toList.drop (i+1):=by simp[List.drop_eq_getElem_cons,hlt]
  have:=hQ h₂ (by rw[show i+(n+1)=i+1+n by nofun];exact hit₂) (hs₁.trans hs₂)
  rw[hd,List.take_succ_cons]at this
  exact this
theorem zH8 {prog:Program}{w:World}{A:Around}{E:Value->Shared->Prop}{s:Shared}{t:Addr}{items:Array Value}{Q:List Value->Shared->Prop}(hh:A.handled=none) (ht:s.heap.IsList t items)
  (hQ:∀h',Heap.ExtBut s.heap.objs.size s.heap h'->Q items.toList { s with heap:=h' }):wpAny (model prog w) A (unpackItems (.ref t) items.size none) Q E s:=by
 have hlt:t≠s.heap.objs.size:=by obtain⟨o,ho,_⟩:=ht;exact xr (xj ho)
 unfold unpackItems
 refine xa ?_
 ·unfold notIterableAtAll
  refine xa (wpAny_specialOf ht.typeIs slot_list_iter.lookup ?_)
  refine xf ?_
  simp only[xX,xO]
  refine xa (xH (ui ht ?_))
  refine xa (xH (zMf hlt items.size 0 _ _ ⟨_,xA _ rfl,rfl,rfl⟩ (ht.at fun o e=>xk _ e) (by nofun) fun h₁ hit₁ hs₁=>?_))
  have hall:List.take items.size (List.drop 0 items.toList)=items.toList:=by
   rw[List.drop_zero];exact v8 (by simp)
  rw[hall]
  rw[xg (by simp)]
  have ht₁:h₁.IsList t items:=ht.at fun o e=>hs₁.extBut t o hlt (xk _ e)
  refine xa (xH (wpAny_pyNext_list_end hh hit₁ ht₁ (by simp) fun h₂ he₂=>?_))
  simp only[Option.isSome_none,xX,xO]
  refine xf (hQ h₂ fun b o hb e=>he₂ b o hb (hs₁.extBut b o hb (xk _ e)))
theorem zW9 {es:List Expr}{k:Nat}{t:TGs}{n:Nat}{pos:Pos}(hc:X.calm=true) (h:PGs X es t)
  (hn:(assignEach es X.env).length=n:=by rfl) (hst:(assignEach es X.env).findIdx? (·.1)=none:=by rfl):PG X (.Tuple es k pos) (gLst X.K n t):=by
 intro pins s σ H v u Q I r hw
 obtain⟨a,xs,e1,hq,hl,hw⟩:=hw
 subst e1
 cases r
 obtain⟨its,rv,ht,hz⟩:=I.list hq
 rw[assign_Tuple]
 refine xa (vN ?_)
 unfold unpack
 rw[hst,hn,show n=its.toArray.size by rw[xo,<- rv.length,hl]]
 refine xa (xH (zH8 (I.ok.hd hc) ht.isList fun h' hx=>?_))
 have I1:Inv X pins σ H { s with heap:=h' }:=I.kept (t':=s.toks) fun b o e=>hx b o (xr (xj e)) e
 exact h pins _ σ H xs _ Q I1 (by simpa using rv) hw
end
end L2
namespace L2
open PySem PySem.Spec PyProof.Rows
structure Cal (P:Program) (w:World) (K:PySem.W.Frag) (mg:Str->Option Value) (base:Heap) (x:Str) (k:Nat) (ps:List Str) (sp:Sp):Prop where
 ex:∃f fd,FnOk P w K mg base CX0 k f fd ps sp/\mg x=some (.ref f)/\PySem.W.keepIn K (.ref f)=true/\Binds K fd ps []
section
variable {X:Cx}{x:Str}{k:Nat}{ps:List Str}{sp:Sp}{e:Expr}{es:List Expr}{t:TA}{p pos:Pos}
theorem zWm (C:Cal X.prog X.w X.K X.mg X.base x k ps sp) (hr:Room k X.A) (hg:Gl X x) (ha:PA X (e::es) t) (hdb:(x == ("__debug__":Str))=false:=by decide)
  (hs:starEach (e::es) X.env=(false,eval e X.env)::starEach es X.env:=by rfl) (hpl:(backTo pos (starEach es X.env)).any (·.1)=false:=by rfl):
  PE X (.Call (.Name x p) (e::es) [] pos) (zQa sp [] E0 t):=by
 obtain⟨f,fd,F,hm,hk,hb⟩:=C.ex
 exact zU6 F hr hg hm hk hb .nil pass0 ha hdb hs hpl
end
end L2
namespace L2
open PySem PySem.Spec PyProof.Rows
noncomputable def nst:Expr->Bool
 | .Starred ..=>false
 | _=>true
theorem zC9 {e:Expr}{es:List Expr}{env:Env}(h:nst e=true):starEach (e::es) env=(false,eval e env)::starEach es env:=by
 cases e <;> first|rfl|cases h
theorem zHw {env:Env}{pos:Pos}:∀{es:List Expr},es.all nst=true->(backTo pos (starEach es env)).any (·.1)=false
 | [],_=>rfl
 | e::es,h=>by
  simp only[vD,xF]at h
  rw[zC9 h.1]
  show(false || (backTo pos (starEach es env)).any (·.1))=false
  rw[zHw h.2];rfl
noncomputable def nsl:Expr->Bool
 | .Slice ..=>false
 | _=>true
theorem zQt {b:Expr}(h:nsl b=true):zQ1 b:=fun o i=>by cases b <;> first|rfl|cases h
noncomputable def nco:Expr->Bool
 | .ListComp ..|.SetComp ..|.DictComp ..=>false
 | _=>true
theorem zIx {e:Expr}{tg:Option Expr}{l:Nat}{env:Env}(h:nco e=true):swapsWith e tg l env=pure false:=by cases e <;> first|rfl|cases h
theorem zT6 {e:Expr}{tg:Expr}{l:Nat}{env:Env}(h:nco e=true):swapsWithSole [tg] e l env=pure false:=zIx h
theorem zLw {e:Expr}{es:List Expr}{k:Nat}{p:Pos}{l:Nat}{env:Env}:swapsWithSole [.Tuple es k p] e l env=pure false:=by
 show swapsWith e (some (.Tuple es k p)) l env=pure false
 cases e <;> rfl
noncomputable def ntu:Expr->Bool
 | .Tuple ..=>false
 | _=>true
theorem zNu {e:Expr}{tg:Expr}{env:Env}(h:ntu e=true):swappedStores [tg] e env=pure none:=by
 cases tg with
 | Tuple _ _ _=>cases e with
  | Tuple _ _ _=>cases h
  | _=>rfl
 | List _ _=>cases e with
  | Tuple _ _ _=>cases h
  | _=>rfl
 | _=>rfl
theorem zI2 {tg:Expr}{es:List Expr}{env:Env}(h:nst tg=true):(assignEach (tg::es) env).map (·.2)=assign tg env::(assignEach es env).map (·.2):=by cases tg <;> first|rfl|cases h
theorem zC6 {env:Env}:∀{es:List Expr},es.all nst=true->(assignEach es env).length=es.length/\(assignEach es env).findIdx? (·.1)=none
 | [],_=>⟨rfl,rfl⟩
 | e::es,h=>by
  simp only[vD,xF]at h
  obtain⟨h1,h2⟩:=zC6 (env:=env) h.2
  have e1:assignEach (e::es) env=(false,assign e env)::assignEach es env:=by
   have:=h.1
   cases e <;> first|rfl|cases this
  rw[e1]
  refine⟨by rw[xE,h1,xE],?_⟩
  rw[List.findIdx?_cons]
  simp[h2]
noncomputable def nse:Expr->Bool
 | .Set ..=>false
 | _=>true
theorem zIz {e:Expr}{env:Env}(h:nse e=true) (x:Value):foldedSetIterable e env x=pure x:=by cases e <;> first|rfl|cases h
noncomputable def nba:Expr->Bool
 | .Call ..=>false
 | _=>true
theorem zHv {o:Expr}{m:Str}{env:Env}(h:nba o=true):attributeBase o m env (eval o env)=eval o env:=by cases o <;> first|rfl|cases h
noncomputable def ntt:Expr->Bool
 | .UnaryOp ..|.BoolOp ..|.IfExp ..|.Compare ..=>false
 | _=>true
theorem zT1 {e:Expr}{env:Env}(h:ntt e=true) (whole:Sem Value):isTrue e env whole=(do let v <- whole;standAt e.pos;holding [v] (truthy v)):=by cases e <;> first|rfl|cases h
section
variable {X:Cx}{e o i a b:Expr}{es:List Expr}{te ta tb to ti:TE}{t:TA}{p pos cpos apos:Pos}
theorem qa (ha:PE X e te) (hr:PA X es t) (h:nst e=true:=by rfl):PA X (e::es) (zT5 te t):=zU9 ha hr (zC9 h)
theorem qix {r:R2}(hr:IxR X r) (ha:PE X a ta) (hb:PE X b tb) (h:nsl b=true:=by rfl):PE X (.Subscript a b pos) (tOp r ta tb):=zYe hr ha hb (zQt h)
theorem qcal {x:Str}{k:Nat}{ps:List Str}{sp:Sp}(C:Cal X.prog X.w X.K X.mg X.base x k ps sp) (hr:Room k X.A) (hg:Gl X x) (ha:PA X (e::es) t) (hdb:(x == ("__debug__":Str))=false:=by decide)
  (h:(e::es).all nst=true:=by rfl):PE X (.Call (.Name x p) (e::es) [] pos) (zQa sp [] E0 t):=by
 simp only[vD,xF]at h
 exact zWm C hr hg ha hdb (zC9 h.1) (zHw h.2)
theorem zVy {x:Str}{id:String}{r:List V->Hp->VK->Prop}(hc:zCb X (.builtin id) r) (hg:Gl X x) (hm:X.mg x=none) (hv:bootBuiltins x=some (.builtin id)) (ha:PA X (e::es) t) (hn:x≠"__name__":=by decide) (hdb:(x == ("__debug__":Str))=false:=by decide)
  (h:(e::es).all nst=true:=by rfl):PE X (.Call (.Name x p) (e::es) [] pos) (tCB r t):=by
 simp only[vD,xF]at h
 exact zR4 hc hg hm hv ha hn hdb (zC9 h.1) (zHw h.2)
theorem zVx {x:Str}{T:String}{r:List V->Hp->VK->Prop}(hc:zCb X (.type T) r) (hg:Gl X x) (hm:X.mg x=none) (hv:bootBuiltins x=some (.type T)) (ha:PA X (e::es) t) (hn:x≠"__name__":=by decide) (hdb:(x == ("__debug__":Str))=false:=by decide)
  (h:(e::es).all nst=true:=by rfl):PE X (.Call (.Name x p) (e::es) [] pos) (tCB r t):=by
 simp only[vD,xF]at h
 exact zO9 hc hg hm hv ha hn hdb (zC9 h.1) (zHw h.2)
theorem qtruth (ha:PE X e te) (h:ntt e=true:=by rfl):PT X e (fun σ H Q=>te σ H fun x H1=>∃k,TruV X.K x H1 k/\Q k H1):=zQl ha (zT1 h)
theorem qset {j:Nat}{x:Str}{pos':Pos}(hN:X.N.Nodup) (hi:X.N[j]?=some x) (hx:Loc X.env.scope x) (he:PE X e te) (hf:X.fn x=true\/X.env.scope.names.lookup x=some .local:=by first|exact .inl rfl|exact .inr rfl|assumption) (h:nco e=true:=by rfl):
  PS X (.Assign [.Name x pos'] e pos) (tAsg te (gName j)):=zW4 hN hi hx he (zIx h) hf
theorem qasgt {ts:List Expr}{k:Nat}{tp:Pos}{g:TG}(he:PE X e te) (hg:PG X (.Tuple ts k tp) g) (h1:ntu e=true:=by rfl):PS X (.Assign [.Tuple ts k tp] e pos) (tAsg te g):=zSi he hg zLw (zNu h1) rfl
theorem qgs {tg:Expr}{ts:List Expr}{g:TG}{gs:TGs}(h1:PG X tg g) (h2:PGs X ts gs) (h:nst tg=true:=by rfl):PGs X (tg::ts) (zUt g gs):=zQx h1 h2 (zI2 h)
theorem qtup {ts:List Expr}{k n:Nat}{gs:TGs}(hc:X.calm=true) (h:PGs X ts gs) (hn:ts.length=n:=by rfl) (h1:ts.all nst=true:=by rfl):PG X (.Tuple ts k pos) (gTup X.K n gs):=zWa hc h ((zC6 h1).1.trans hn) (zC6 h1).2
theorem qunl {ts:List Expr}{k n:Nat}{gs:TGs}(hc:X.calm=true) (h:PGs X ts gs) (hn:ts.length=n:=by rfl) (h1:ts.all nst=true:=by rfl):PG X (.Tuple ts k pos) (gLst X.K n gs):=zW9 hc h ((zC6 h1).1.trans hn) (zC6 h1).2
theorem qfor {tg iter:Expr}{body:List Stmt}{wi:TI}{g:TG}{tb:TS}(hp:PassesOwn (model X.prog X.w) X.A X.env X.xe) (hc:X.calm=true) (hi:PI X tg iter wi) (hg:PG X tg g) (hb:PSs X body tb) (h:nse iter=true:=by rfl):
  PS X (.For tg iter body [] pos) (tFor wi g tb):=zW8 hp hc hi hg hb (zIz h)
theorem qexpr (he:PE X e te) (h:nco e=true:=by rfl):PS X (.Expr e pos) (zT4 te):=zTq he (zIx h)
theorem qlcomp {own fre:List Str}{ix:List Nat}{scope:Scope}{tg elt iter:Expr}{ifs:List Expr}{wi:TI}{g:TG}{tt:TT}(hc:X.calm=true) (S:CompScope X own fre ix scope) (hi:PI X tg iter wi)
  (hg:∀cl C s H fp,PG (zAx X (own++fre) scope cl C s H fp) tg g) (ht:∀cl C s H fp,PIfs (zAx X (own++fre) scope cl C s H fp) ifs tt) (he:∀cl C s H fp,PE (zAx X (own++fre) scope cl C s H fp) elt te)
  (h:nse iter=true:=by rfl):PE X (.ListComp elt [⟨tg,iter,ifs,0⟩] scope pos) (zL1 own ix wi g tt te):=zR0 hc S hi hg ht he (zIz h)
theorem qsetc {own fre:List Str}{ix:List Nat}{scope:Scope}{j:Nat}{x:Str}{pos':Pos}{tg elt iter:Expr}{ifs:List Expr}{wi:TI}{g:TG}{tt:TT}(hN:X.N.Nodup) (hix:X.N[j]?=some x) (hx:Loc X.env.scope x)
  (hc:X.calm=true) (S:CompScope X own fre ix scope) (hi:PI X tg iter wi)
  (hg:∀cl C s H fp,PG (zAx X (own++fre) scope cl C s H fp) tg g) (ht:∀cl C s H fp,PIfs (zAx X (own++fre) scope cl C s H fp) ifs tt) (he:∀cl C s H fp,PE (zAx X (own++fre) scope cl C s H fp) elt te)
  (hsw:swapsWith (.ListComp elt [⟨tg,iter,ifs,0⟩] scope cpos) (some (.Name x pos')) pos.line X.env=pure true:=by rfl) (h:nse iter=true:=by rfl) (hf:X.fn x=true\/X.env.scope.names.lookup x=some .local:=by first|exact .inl rfl|exact .inr rfl|assumption):
  PS X (.Assign [.Name x pos'] (.ListComp elt [⟨tg,iter,ifs,0⟩] scope cpos) pos) (tAsg (zL1 own ix wi g tt te) (gName j)):=zTo hN hix hx hc S hi hg ht he hsw (zIz h) hf
theorem qrange1 {tg:Expr}{ta:TA}(hg:Gl X "range") (hm:X.mg "range"=none) (ha:PA X [a] ta) (h:nst a=true:=by rfl):PI X tg (.Call (.Name "range" p) [a] [] pos) (zUr ta):=zO5 hg hm ha (zC9 h)
theorem qbm0 {T name id:_}{r:V->List V->Hp->VK->Prop}(pa:PlainAttrs T) (slot:Slot T name id) (hty:typeOf (.builtin id)=pure (.type "method_descriptor")) (hm:MtR X id r) (ho:PE X o to) (h:nba o=true:=by rfl) (hline:(apos.endLine == cpos.line)=true:=by rfl):
  PE X (.Call (.Attribute o name apos) [] [] cpos) (tBM0 X.K T r to):=zWn pa slot hty hm ho (zHv h) hline
theorem qpar {x y:Str}{px py pt pt2:Pos}{kt k2 i j:Nat}{ta:TA}(hc:X.calm=true) (hN:X.N.Nodup) (hi:X.N[i]?=some x) (hj:X.N[j]?=some y) (hij:i≠j)
  (hx:X.env.scope.names.lookup x=some .local) (hy:X.env.scope.names.lookup y=some .local) (ha:PA X [a,b] ta)
  (hw:swappedStores [.Tuple [.Name x px,.Name y py] kt pt] (.Tuple [a,b] k2 pt2) X.env=pure (some [x,y])):
  PS X (.Assign [.Tuple [.Name x px,.Name y py] kt pt] (.Tuple [a,b] k2 pt2) pos) (tPar i j ta):=zW6 hc hN hi hj hij hx hy ha hw zLw
end
end L2
namespace L2
open PySem PySem.Spec PyProof.Rows
structure SE (X:Cx) (e:Expr) (t:TE):Prop where h:PE X e t
structure ST (X:Cx) (e:Expr) (t:TT):Prop where h:PT X e t
structure SW (X:Cx) (e:Expr) (t:TT):Prop where h:PW X e t
structure SA (X:Cx) (es:List Expr) (t:TA):Prop where h:PA X es t
structure SS (X:Cx) (st:Stmt) (t:TS):Prop where h:PS X st t
structure SSs (X:Cx) (st:List Stmt) (t:TS):Prop where h:PSs X st t
structure SG (X:Cx) (e:Expr) (t:TG):Prop where h:PG X e t
structure SGs (X:Cx) (es:List Expr) (t:TGs):Prop where h:PGs X es t
structure SI (X:Cx) (tg e:Expr) (t:TI):Prop where h:PI X tg e t
structure SIfs (X:Cx) (es:List Expr) (t:TT):Prop where h:PIfs X es t
structure SO (X:Cx) (e:Option Expr) (t:TO):Prop where h:PO X e t
section
variable {X:Cx}{e o i a b c:Expr}{es:List Expr}{te ta tb tc to ti tv td ty:TE}{t:TA}{p pos cpos apos:Pos}{tA tB':TT}
theorem pv' (i:Nat) {x:Str}{pos:Pos}(hN:X.N[i]?=some x:=by rfl) (hv:Vis X.env.scope x:=by first|exact Or.inl rfl|exact Or.inr (Or.inl rfl)|exact Or.inr (Or.inr rfl)) (hd:(x == ("__debug__":Str))=false:=by decide)
  (hcd:(x == ("__classdict__":Str))=false:=by decide):SE X (.Name x pos) (tVar i):=⟨pv i hN hv hd hcd⟩
theorem zU3 {i:Int}{j:Nat}:SE X (.Constant (.int i) j pos) (tC (.int i)):=⟨zWl⟩
theorem zWp {b:Bool}{j:Nat}:SE X (.Constant (.bool b) j pos) (tC (.bl b)):=⟨zYg⟩
theorem zU1 {j:Nat}:SE X (.Constant .none j pos) (tC .non):=⟨zWj⟩
theorem zTz {x:Str}{j:Nat}:SE X (.Constant (.str x) j pos) (tC (.str x)):=⟨zWf⟩
theorem zR5 {x:Str}{v:V}{u:Value}(hg:Gl X x) (hm:X.mg x=none) (hv:bootBuiltins x=some u) (r:RelV v u) (hn:x≠"__name__":=by decide) (hd:(x == ("__debug__":Str))=false:=by decide):SE X (.Name x pos) (tC v):=⟨zU7 hg hm hv r hn hd⟩
theorem zWh {op:Operator}{r:R2}(ho:OpR X (binaryOp op) r) (ha:SE X a ta) (hb:SE X b tb):SE X (.BinOp a op b pos) (tOp r ta tb):=⟨zYd ho ha.h hb.h⟩
theorem zWd {op:UnaryOp}{r:V->Hp->VK->Prop}(ho:UnR X (unaryOp op) r) (ha:SE X a ta):SE X (.UnaryOp op a pos) (tUn r ta):=⟨zYb ho ha.h⟩
theorem zWg (ha:SE X a ta) (hb:SE X (.BoolOp .Or (b::es) pos) tb):SE X (.BoolOp .Or (a::b::es) pos) (tOrV ta tb):=⟨zYc ha.h hb.h⟩
theorem zU0 {op:BoolOp}(ha:SE X a ta):SE X (.BoolOp op [a] pos) ta:=⟨zWi ha.h⟩
theorem zO7 (hc:ST X c tA) (ha:SE X a ta) (hb:SE X b tb):SE X (.IfExp c a b pos) (tIf tA ta tb):=⟨zR1 hc.h ha.h hb.h⟩
theorem zTy {k:Nat}(h:SA X es t):SE X (.Tuple es k pos) (tTup t):=⟨zWe h.h⟩
theorem zU2 (h:SA X es t):SE X (.List es pos) (tLst t):=⟨zWk h.h⟩
theorem zO6 {r:V->Option Int->Option Int->Hp->VK->Prop}{lo hi:Option Expr}{tl th:TO}{p2:Pos}(hr:SlR X r) (he:SE X e te) (hl:SO X lo tl) (hu:SO X hi th):SE X (.Subscript e (.Slice lo hi none p2) pos) (tSl r te tl th):=⟨zQz hr he.h hl.h hu.h⟩
theorem po_none':SO X none zNq:=⟨zTu⟩
theorem zQs (h:SE X e te):SO X (some e) (zVl te):=⟨zTt h.h⟩
theorem pa_nil':SA X [] tNil:=⟨zWr⟩
theorem qa' (ha:SE X e te) (hr:SA X es t) (h:nst e=true:=by rfl):SA X (e::es) (zT5 te t):=⟨qa ha.h hr.h h⟩
theorem qix' {r:R2}(hr:IxR X r) (ha:SE X a ta) (hb:SE X b tb) (h:nsl b=true:=by rfl):SE X (.Subscript a b pos) (tOp r ta tb):=⟨qix hr ha.h hb.h h⟩
theorem qcal' {x:Str}{k:Nat}{ps:List Str}{sp:Sp}(C:Cal X.prog X.w X.K X.mg X.base x k ps sp) (hr:Room k X.A) (hg:Gl X x) (ha:SA X (e::es) t) (hdb:(x == ("__debug__":Str))=false:=by decide)
  (h:(e::es).all nst=true:=by rfl):SE X (.Call (.Name x p) (e::es) [] pos) (zQa sp [] E0 t):=⟨qcal C hr hg ha.h hdb h⟩
theorem zTg {x:Str}{id:String}{r:List V->Hp->VK->Prop}(hc:zCb X (.builtin id) r) (hg:Gl X x) (hm:X.mg x=none) (hv:bootBuiltins x=some (.builtin id)) (ha:SA X (e::es) t) (hn:x≠"__name__":=by decide) (hdb:(x == ("__debug__":Str))=false:=by decide)
  (h:(e::es).all nst=true:=by rfl):SE X (.Call (.Name x p) (e::es) [] pos) (tCB r t):=⟨zVy hc hg hm hv ha.h hn hdb h⟩
theorem zTf {x:Str}{T:String}{r:List V->Hp->VK->Prop}(hc:zCb X (.type T) r) (hg:Gl X x) (hm:X.mg x=none) (hv:bootBuiltins x=some (.type T)) (ha:SA X (e::es) t) (hn:x≠"__name__":=by decide) (hdb:(x == ("__debug__":Str))=false:=by decide)
  (h:(e::es).all nst=true:=by rfl):SE X (.Call (.Name x p) (e::es) [] pos) (tCB r t):=⟨zVx hc hg hm hv ha.h hn hdb h⟩
theorem qbm0' {T name id:_}{r:V->List V->Hp->VK->Prop}(pa:PlainAttrs T) (slot:Slot T name id) (hty:typeOf (.builtin id)=pure (.type "method_descriptor")) (hm:MtR X id r) (ho:SE X o to) (h:nba o=true:=by rfl) (hline:(apos.endLine == cpos.line)=true:=by rfl):
  SE X (.Call (.Attribute o name apos) [] [] cpos) (tBM0 X.K T r to):=⟨qbm0 pa slot hty hm ho.h h hline⟩
theorem zMq {env:Env}{pos:Pos}:∀{es:List Expr},es.all nst=true->(backTo pos (starEach es env)).all (fun x=>!x.1)=true
 | [],_=>rfl
 | e::es,h=>by
  simp only[vD,xF]at h
  rw[zC9 h.1]
  show(true && (backTo pos (starEach es env)).all (fun x=>!x.1))=true
  rw[zMq h.2];rfl
theorem zWo {T name id:_}{r:V->List V->Hp->VK->Prop}(pa:PlainAttrs T) (slot:Slot T name id) (hty:typeOf (.builtin id)=pure (.type "method_descriptor")) (hm:MtR X id r) (ho:SE X o to) (ha:SA X (e::es) t) (h:nba o=true:=by rfl) (hs:(e::es).all nst=true:=by rfl)
  (hlen:decide ((e::es).length+0+0<30)=true:=by rfl) (hline:(apos.endLine == cpos.line)=true:=by rfl):SE X (.Call (.Attribute o name apos) (e::es) [] cpos) (tBM X.K T r to t):=by
 have hs':=hs
 simp only[vD,xF]at hs'
 refine⟨zYf pa slot hty hm ho.h ha.h (zHv h) ?_ hline (zC9 hs'.1) (zHw hs'.2)⟩
 rw[zMq hs]
 exact hlen
theorem zR2 {op:CmpOp}{r:R2}(ho:OpR X (compareOp op) r) (ha:SE X a ta) (hb:SE X b tb) (hm:behindInMarks op b=false):SE X (.Compare a [op] [b] pos) (tOp r ta tb):=⟨zU5 ho ha.h hb.h hm⟩
theorem zQm {op:CmpOp}{r:R2}(ho:OpR X (compareOp op) r) (ha:SE X a ta) (hb:SE X b tb) (hm:behindInMarks op b=false):ST X (.Compare a [op] [b] pos) (zQ9 (tOp r ta tb)):=⟨zTl ho ha.h hb.h hm⟩
theorem zO0 {op op':CmpOp}{r r':R2}(ho:OpR X (compareOp op) r) (ho':OpR X (compareOp op') r') (ha:SE X a ta) (hb:SE X b tb) (hc:SE X c tc) (hm:lastMarks [op,op'] [b,c]=false:=by with_unfolding_all rfl):ST X (.Compare a [op,op'] [b,c] pos) (zQ9 (zJq r r' ta tb tc)):=⟨zQn ho ho' ha.h hb.h hc.h hm⟩
theorem zO8 {op op':CmpOp}{r r':R2}(ho:OpR X (compareOp op) r) (ho':OpR X (compareOp op') r') (ha:SE X a ta) (hb:SE X b tb) (hc:SE X c tc) (hm:lastMarks [op,op'] [b,c]=false:=by with_unfolding_all rfl):SE X (.Compare a [op,op'] [b,c] pos) (zJq r r' ta tb tc):=⟨zR3 ho ho' ha.h hb.h hc.h hm⟩
theorem zTk (ha:ST X a tA):ST X (.UnaryOp .Not a pos) (tNot tA):=⟨zW3 ha.h⟩
theorem zQk (ha:ST X a tA):SW X (.BoolOp .And [a] pos) tA:=⟨zTi ha.h⟩
theorem zTh (ha:ST X a tA):SW X (.BoolOp .Or [a] pos) tA:=⟨zW0 ha.h⟩
theorem zTj (ha:ST X a tA) (hb:SW X (.BoolOp .And (b::es) pos) tB'):SW X (.BoolOp .And (a::b::es) pos) (tAnd tA tB'):=⟨zW2 ha.h hb.h⟩
theorem zW1 (ha:ST X a tA) (hb:SW X (.BoolOp .Or (b::es) pos) tB'):SW X (.BoolOp .Or (a::b::es) pos) (tOr tA tB'):=⟨zY8 ha.h hb.h⟩
theorem zVz (h:SW X e tA):ST X e tA:=⟨h.h.pt⟩
noncomputable def tTru (K:PySem.W.Frag) (te:TE):TT:=fun σ H Q=>te σ H fun x H1=>∃k,TruV K x H1 k/\Q k H1
theorem qtruth' (ha:SE X e te) (h:ntt e=true:=by rfl):ST X e (tTru X.K te):=⟨qtruth ha.h h⟩
theorem qrange1' {tg:Expr}{ta:TA}(hg:Gl X "range") (hm:X.mg "range"=none) (ha:SA X [a] ta) (h:nst a=true:=by rfl):SI X tg (.Call (.Name "range" p) [a] [] pos) (zUr ta):=⟨qrange1 hg hm ha.h h⟩
theorem zQy {j:Nat}{x:Str}(hN:X.N.Nodup) (hi:X.N[j]?=some x) (hx:Loc X.env.scope x) (hf:X.fn x=true\/X.env.scope.names.lookup x=some .local:=by first|exact .inl rfl|exact .inr rfl|assumption):SG X (.Name x pos) (gName j):=⟨zTx hN hi hx hf⟩
theorem pgs_nil':SGs X [] gNil:=⟨zTv⟩
theorem qgs' {tg:Expr}{ts:List Expr}{g:TG}{gs:TGs}(h1:SG X tg g) (h2:SGs X ts gs) (h:nst tg=true:=by rfl):SGs X (tg::ts) (zUt g gs):=⟨qgs h1.h h2.h h⟩
theorem qtup' {ts:List Expr}{k n:Nat}{gs:TGs}(hc:X.calm=true) (h:SGs X ts gs) (hn:ts.length=n:=by rfl) (h1:ts.all nst=true:=by rfl):SG X (.Tuple ts k pos) (gTup X.K n gs):=⟨qtup hc h.h hn h1⟩
theorem qunl' {ts:List Expr}{k n:Nat}{gs:TGs}(hc:X.calm=true) (h:SGs X ts gs) (hn:ts.length=n:=by rfl) (h1:ts.all nst=true:=by rfl):SG X (.Tuple ts k pos) (gLst X.K n gs):=⟨qunl hc h.h hn h1⟩
theorem zTw {ts:TSet}(ho:SE X o to) (hi:SE X i ti) (hs:PSet X ts) (h:nsl i=true:=by rfl):SG X (.Subscript o i pos) (gSub to ti ts):=by
 refine⟨zWb ho.h hi.h hs fun v=>?_⟩
 cases i <;> first|rfl|cases h
theorem pifs_nil':SIfs X [] tYes:=⟨zQu⟩
theorem qlcomp' {own fre:List Str}{ix:List Nat}{scope:Scope}{tg elt iter:Expr}{ifs:List Expr}{wi:TI}{g:TG}{tt:TT}(hc:X.calm=true) (S:CompScope X own fre ix scope) (hi:SI X tg iter wi)
  (hg:∀cl C s H fp,SG (zAx X (own++fre) scope cl C s H fp) tg g) (ht:∀cl C s H fp,SIfs (zAx X (own++fre) scope cl C s H fp) ifs tt) (he:∀cl C s H fp,SE (zAx X (own++fre) scope cl C s H fp) elt te)
  (h:nse iter=true:=by rfl):SE X (.ListComp elt [⟨tg,iter,ifs,0⟩] scope pos) (zL1 own ix wi g tt te):=⟨qlcomp hc S hi.h (fun _ _ _ _ _=>(hg _ _ _ _ _).h) (fun _ _ _ _ _=>(ht _ _ _ _ _).h) (fun _ _ _ _ _=>(he _ _ _ _ _).h) h⟩
theorem qsetc' {own fre:List Str}{ix:List Nat}{scope:Scope}{j:Nat}{x:Str}{pos':Pos}{tg elt iter:Expr}{ifs:List Expr}{wi:TI}{g:TG}{tt:TT}(hN:X.N.Nodup) (hix:X.N[j]?=some x) (hx:Loc X.env.scope x)
  (hc:X.calm=true) (S:CompScope X own fre ix scope) (hi:SI X tg iter wi)
  (hg:∀cl C s H fp,SG (zAx X (own++fre) scope cl C s H fp) tg g) (ht:∀cl C s H fp,SIfs (zAx X (own++fre) scope cl C s H fp) ifs tt) (he:∀cl C s H fp,SE (zAx X (own++fre) scope cl C s H fp) elt te)
  (hsw:swapsWith (.ListComp elt [⟨tg,iter,ifs,0⟩] scope cpos) (some (.Name x pos')) pos.line X.env=pure true:=by rfl) (h:nse iter=true:=by rfl) (hf:X.fn x=true\/X.env.scope.names.lookup x=some .local:=by first|exact .inl rfl|exact .inr rfl|assumption):
  SS X (.Assign [.Name x pos'] (.ListComp elt [⟨tg,iter,ifs,0⟩] scope cpos) pos) (tAsg (zL1 own ix wi g tt te) (gName j)):=⟨qsetc hN hix hx hc S hi.h (fun _ _ _ _ _=>(hg _ _ _ _ _).h) (fun _ _ _ _ _=>(ht _ _ _ _ _).h) (fun _ _ _ _ _=>(he _ _ _ _ _).h) hsw h hf⟩
theorem qset' {j:Nat}{x:Str}{pos':Pos}(hN:X.N.Nodup) (hi:X.N[j]?=some x) (hx:Loc X.env.scope x) (he:SE X e te) (hf:X.fn x=true\/X.env.scope.names.lookup x=some .local:=by first|exact .inl rfl|exact .inr rfl|assumption) (h:nco e=true:=by rfl):
  SS X (.Assign [.Name x pos'] e pos) (tAsg te (gName j)):=⟨qset hN hi hx he.h hf h⟩
theorem qasgt' {ts:List Expr}{k:Nat}{tp:Pos}{g:TG}(he:SE X e te) (hg:SG X (.Tuple ts k tp) g) (h1:ntu e=true:=by rfl):SS X (.Assign [.Tuple ts k tp] e pos) (tAsg te g):=⟨qasgt he.h hg.h h1⟩
theorem qasgs' {g:TG}{sp2:Pos}(he:SE X e te) (hg:SG X (.Subscript o i sp2) g) (h2:nco e=true:=by rfl):SS X (.Assign [.Subscript o i sp2] e pos) (tAsg te g):=⟨zSi he.h hg.h (zT6 h2) (by cases e <;> rfl) rfl⟩
theorem qpar' {x y:Str}{px py pt pt2:Pos}{kt k2 i j:Nat}{ta:TA}(hc:X.calm=true) (hN:X.N.Nodup) (hi:X.N[i]?=some x) (hj:X.N[j]?=some y) (hij:i≠j)
  (hx:X.env.scope.names.lookup x=some .local) (hy:X.env.scope.names.lookup y=some .local) (ha:SA X [a,b] ta)
  (hw:swappedStores [.Tuple [.Name x px,.Name y py] kt pt] (.Tuple [a,b] k2 pt2) X.env=pure (some [x,y])):
  SS X (.Assign [.Tuple [.Name x px,.Name y py] kt pt] (.Tuple [a,b] k2 pt2) pos) (tPar i j ta):=⟨qpar hc hN hi hj hij hx hy ha.h hw⟩
theorem zTp (he:SE X e te):SS X (.Return (some e) pos) (tRet te):=⟨zW5 he.h⟩
theorem zW7 {ba bb:List Stmt}{t u:TS}(hc:ST X c tA) (ha:SSs X ba t) (hb:SSs X bb u):SS X (.If c ba bb pos) (tIfS tA t u):=⟨zY9 hc.h ha.h hb.h⟩
theorem zO2 {body:List Stmt}{t:TS}(hp:PassesOwn (model X.prog X.w) X.A X.env X.xe) (hc:ST X c tA) (hb:SSs X body t):SS X (.While c body [] pos) (zSc tA t):=⟨zQq hp hc.h hb.h⟩
theorem qfor' {tg iter:Expr}{body:List Stmt}{wi:TI}{g:TG}{t:TS}(hp:PassesOwn (model X.prog X.w) X.A X.env X.xe) (hc:X.calm=true) (hi:SI X tg iter wi) (hg:SG X tg g) (hb:SSs X body t) (h:nse iter=true:=by rfl):
  SS X (.For tg iter body [] pos) (tFor wi g t):=⟨qfor hp hc hi.h hg.h hb.h h⟩
theorem qexpr' (he:SE X e te) (h:nco e=true:=by rfl):SS X (.Expr e pos) (zT4 te):=⟨qexpr he.h h⟩
theorem pss_nil':SSs X [] zVm:=⟨zTn⟩
theorem zQo {st:Stmt}{t:TS}(h:SS X st t):SSs X [st] t:=⟨zTm h.h⟩
theorem zO1 {st:Stmt}{r:List Stmt}{t u:TS}(h1:SS X st t) (h2:SSs X r u):SSs X (st::r) (tSeq t u):=⟨zQp h1.h h2.h⟩
end
end L2
namespace L2
open PySem PySem.Spec PyProof.Rows
noncomputable def BN (n:Nat) (x:Int):Prop:=x.natAbs<2 ^ n
theorem BN.bits {x:Int}(h:BN 5000 x):Builtin.Int.intBits x<=2 ^ 20:=by
 unfold Builtin.Int.intBits
 split
 ·exact Nat.zero_le _
 ·rename_i hx
  have h0:x.natAbs≠0:=by
   intro z
   apply hx
   have:x=0:=by nofun
   rw[this];rfl
  have:=(Nat.log2_lt h0).mpr h
  lia
theorem BN.log {x:Int}(h:BN 5000 x):x.natAbs.log2<9000:=by
 by_cases h0:x.natAbs=0
 ·rw[h0];decide +kernel
 ·have:=(Nat.log2_lt h0).mpr h
  lia
section
variable {X:Cx}
theorem zUb:OpR X (binaryOp .Mult) (rI (fun i j=>BN 5000 i/\BN 5000 j) fun i j=>.int (i*j)):=opI fun _ _ _ _ _ _ _ hc q=>mul_int q (IntMulOk.of_bits hc.1.bits hc.2.bits)
theorem zR6:OpR X (binaryOp .FloorDiv) (rI (fun _ j=>j≠0/\BN 5000 j) fun i j=>.int (i.fdiv j)):=opI fun _ _ _ _ _ _ _ hc q=>floordiv_int hc.1 q (.inl (PyProof.noPylong_of_log2 hc.2.log))
end
noncomputable def dv (u l:Int):Int:=if l<0 then -(Int.gcd u l:Int)else(Int.gcd u l:Int)
noncomputable def sg (z:Int):Int:=if 0<z then 1 else if z<0 then -1 else 0
end L2
namespace L2
open PySem PySem.Spec PyProof.Rows
section
variable {X:Cx}{pins:List (Addr × Obj)}{σ:St}{H:Hp}{s:Shared}{h':Heap}
theorem Inv.turnedT {t':Nat}{fp:List Addr}{T:Addr}{o:HO}(I:Inv X pins σ H s) (hf:∀b∈fp,FpOk X pins H b) (k:∀b o,b ∉ fp->s.heap.get? b=some o->h'.get? b=some o) (hT:s.heap.objs.size<=T)
  (new:ObjOk X.prog X.w (upd H T o) h' T o):Inv X pins σ (upd H T o) { s with heap:=h',toks:=t' }:=by
 have hn:H T=none:=I.hok.fresh hT
 have nit:∀b u,H b=some u->b ∉ fp:=fun b u e z=>by rw[(hf b z).1]at e;cases e
 refine I.step (g':=s.gens) (d':=s.drawn) (ch:=fp) (fun b hb=>⟨(hf b hb).2.2.2.1,(hf b hb).2.1,(hf b hb).2.2.2.2.1,(hf b hb).2.2.2.2.2⟩) (fun b o _ _ hc e _=>k b o hc e) (fun b o _ _ hc e _=>⟨o.slots,k b o hc e⟩)
  (fun b u _ q n=>by rw[zAo (xr (xv (xj q) hT))];exact n)
  (fun b o hc e=>⟨o,k b o hc e⟩) (fun b xs q=>by rw[zAo (zAp q hn)];exact q) (fun b u xs q=>by rw[zAo (zAp q hn)];exact q) (fun b ps q=>⟨#[],by rw[zAo (zAp q hn),q];simp⟩) (fun m hm=>?_) (fun b u e=>?_) I.bare
 ·obtain⟨o,es,ep,ho,r⟩:=hm
  exact⟨o,es,ep,k _ o (fun z=>(hf _ z).2.1 rfl) ho,r⟩
 ·by_cases hb:b=T
  ·subst hb;rw[zAt]at e;cases e;exact new
  ·rw[zAo hb]at e
   refine(I.hok b u e).stay (fun c v hc q=>k c v ?_ q) (fun c q=>by rw[zAo (zAp q hn)];exact q) fun c xs q=>by rw[zAo (zAp q hn)];exact q
   rcases hc with z|z
   ·rw[z];exact nit b u e
   ·exact nit c _ z
theorem Inv.turnedL {t':Nat}{fp:List Addr}(I:Inv X pins σ H s) (hf:∀b∈fp,FpOk X pins H b) (k:∀b o,b ∉ fp->s.heap.get? b=some o->h'.get? b=some o):Inv X pins σ H { s with heap:=h',toks:=t' }:=by
 have nit:∀b u,H b=some u->b ∉ fp:=fun b u e z=>by rw[(hf b z).1]at e;cases e
 refine I.step (g':=s.gens) (d':=s.drawn) (ch:=fp) (fun b hb=>⟨(hf b hb).2.2.2.1,(hf b hb).2.1,(hf b hb).2.2.2.2.1,(hf b hb).2.2.2.2.2⟩) (fun b o _ _ hc e _=>k b o hc e) (fun b o _ _ hc e _=>⟨o.slots,k b o hc e⟩)
  (fun _ _ _ _ n=>n) (fun b o hc e=>⟨o,k b o hc e⟩) (fun _ _ e=>e) (fun _ _ _ e=>e) (fun b ps e=>⟨#[],by rw[e];simp⟩) (fun m hm=>?_) (fun b u e=>?_) I.bare
 ·obtain⟨o,es,ep,ho,r⟩:=hm
  exact⟨o,es,ep,k _ o (fun z=>(hf _ z).2.1 rfl) ho,r⟩
 ·refine(I.hok b u e).stay (fun c v hc q=>k c v ?_ q) (fun _ q=>q) fun _ _ q=>q
  rcases hc with z|z
  ·rw[z];exact nit b u e
  ·exact nit c _ z
end
structure ZipOwn (z TI TO i1 i2:Addr):Prop where
 TIz:TI≠z
 TOz:TO≠z
 i1z:i1≠z
 i2z:i2≠z
 TITO:TI≠TO
 TIi1:TI≠i1
 TIi2:TI≠i2
 TOi1:TO≠i1
 TOi2:TO≠i2
 i12:i1≠i2
theorem ZipOwn.apart {z TI TO i1 i2 a b:Addr}(D:ZipOwn z TI TO i1 i2) (ha:a ∉ [z,TI,TO,i1,i2]) (hb:b ∉ [z,TI,TO,i1,i2]):ZipApart z TI TO i1 i2 a b:=by
 simp only[xi,xt,xu,not_or]at ha hb
 obtain⟨a1,a2,a3,a4,a5⟩:=ha
 obtain⟨b1,b2,b3,b4,b5⟩:=hb
 exact⟨D.TIz,D.TOz,D.i1z,D.i2z,D.TITO,D.TIi1,D.TIi2,D.TOi1,D.TOi2,D.i12,a1,a3,a4,a5,b1,b3,b4,b5⟩
end L2
namespace TS
open PySem
noncomputable def KIt (b:Bool) (h:Heap) (i a:Addr) (k:Nat):Prop:=∃o,h.get? i=some o/\o.cls=.type (if b then "tuple_iterator" else "list_iterator")/\o.data=.fields #[.ref a,.int k 0]
noncomputable def KSq (b:Bool) (h:Heap) (a:Addr) (xs:Array Value):Prop:=∃o,h.get? a=some o/\o.cls=.type (if b then "tuple" else "list")/\∃n,o.data=.seq xs n
theorem KIt.at {b:Bool}{h h':Heap}{i a:Addr}{k:Nat}(x:KIt b h i a k) (e:∀o,h.get? i=some o->h'.get? i=some o):KIt b h' i a k:=let ⟨o,ho,r⟩:=x;⟨o,e _ ho,r⟩
theorem KSq.at {b:Bool}{h h':Heap}{a:Addr}{xs:Array Value}(x:KSq b h a xs) (e:∀o,h.get? a=some o->h'.get? a=some o):KSq b h' a xs:=let ⟨o,ho,r⟩:=x;⟨o,e _ ho,r⟩
theorem KIt.xb {b:Bool}{h h':Heap}{i a c:Addr}{k:Nat}(x:KIt b h i a k) (e:Heap.ExtBut c h h') (n:i≠c):KIt b h' i a k:=x.at fun o q=>e _ _ n q
theorem KSq.xb {b:Bool}{h h':Heap}{a c:Addr}{xs:Array Value}(x:KSq b h a xs) (e:Heap.ExtBut c h h') (n:a≠c):KSq b h' a xs:=x.at fun o q=>e _ _ n q
section
variable {prog:Program}{w:World}{A:Around}{E:Value->Shared->Prop}{s:Shared}
theorem next_item {b:Bool}{it l:Addr}{i:Nat}{items:Array Value}{x:Value}{Q:Value->Shared->Prop}(hit:KIt b s.heap it l i) (hl:KSq b s.heap l items) (hx:items[i]?=some x)
  (hQ:∀h',KIt b h' it l (i+1)->Heap.SameBut it s.heap h'->Q x { s with heap:=h' }):wpAny (model prog w) A (Builtin.SmallTypes.nextOf (.ref it)) Q E s:=by
 cases b with
 | false=>exact wpAny_nextOf_list_item hit hl hx hQ
 | true=>
  obtain⟨o,ho,hc,hd⟩:=id hit
  obtain⟨ol,hol,_,nl,hdl⟩:=hl
  have hT:s.TypeIs (.ref it) "tuple_iterator":=⟨o,ho,hc⟩
  unfold Builtin.SmallTypes.nextOf
  refine xa (vf (name:=Str.ofString "__next__") hT uv (x8 uv hT F.entry_tuple_iterator_next ?_ (F.args_tuple_iterator_next_1 _)))
  refine(show wpAny _ _ (field (.ref it) 0 >>= _) _ _ s from xa (xC ho hd (x:=.ref l) rfl (show wpAny _ _ (if(Value.ref l == Value.none)=true then _ else _) _ _ s from ?_)))
  rw[xg (show ¬ ((Value.ref l == Value.none)=true)from uc)]
  refine(show wpAny _ _ (field (.ref it) 1 >>= _) _ _ s from xa (xC ho hd (x:=.int i 0) rfl (show wpAny _ _ (seqItems? (.ref l) >>= _) _ _ s from xa (vh hol hdl ?_))))
  simp only[Int.toNat_natCast,hx]
  refine xa (wpAny_setField ho hd (by simp) (xf ⟨x,rfl,xf (hQ _ ⟨_,v3 _ ho (Obj.isFreed_of_fields (Obj.data_mapFields hd _)),(Obj.cls_mapFields ..).trans hc,?_⟩ (Heap.SameBut.update ..))⟩))
  rw[Obj.data_mapFields hd];simp[rawInt]
theorem next_end {b:Bool}{it l:Addr}{i:Nat}{items:Array Value}{Q:Value->Shared->Prop}(hh:A.handled=none) (hit:KIt b s.heap it l i) (hl:KSq b s.heap l items) (hx:items[i]?=none)
  (hE:∀h' e,Heap.ExtBut it s.heap h'->(∃o,h'.get? e=some o/\o.cls=.type "StopIteration")->E (.ref e) { s with heap:=h' }):wpAny (model prog w) A (Builtin.SmallTypes.nextOf (.ref it)) Q E s:=by
 cases b with
 | false=>exact wpAny_nextOf_list_end hh hit hl hx hE
 | true=>
  obtain⟨o,ho,hc,hd⟩:=id hit
  obtain⟨ol,hol,_,nl,hdl⟩:=hl
  have hT:s.TypeIs (.ref it) "tuple_iterator":=⟨o,ho,hc⟩
  unfold Builtin.SmallTypes.nextOf
  refine xa (vf (name:=Str.ofString "__next__") hT uv (x8 uv hT F.entry_tuple_iterator_next ?_ (F.args_tuple_iterator_next_1 _)))
  refine(show wpAny _ _ (field (.ref it) 0 >>= _) _ _ s from xa (xC ho hd (x:=.ref l) rfl (show wpAny _ _ (if(Value.ref l == Value.none)=true then _ else _) _ _ s from ?_)))
  rw[xg (show ¬ ((Value.ref l == Value.none)=true)from uc)]
  refine(show wpAny _ _ (field (.ref it) 1 >>= _) _ _ s from xa (xC ho hd (x:=.int i 0) rfl (show wpAny _ _ (seqItems? (.ref l) >>= _) _ _ s from xa (vh hol hdl ?_))))
  simp only[Int.toNat_natCast,hx]
  refine xa (vA (xa (wpAny_setField ho hd (by simp) (show wpAny _ _ (newExc (.type "StopIteration") [] >>= _) _ _ _ from xa ?_))))
  simp only[newExc,newTuple]
  refine xa (x5 (xa (m:=firstArgMember _ _) (wpAny_of_eq (a:=Value.none) (by first|rfl|(simp only[firstArgMember];rfl)) (x5 ?_ (by size_fits)))) (by size_fits))
  simp only[raiseNew]
  refine xa (wpAny_handled ?_);rw[show A.in1.handled=none from hh]
  refine xa (xf (wpAny_throw ?_))
  exact hE _ _ (((Heap.SameBut.update ..).extBut.push _).push _) ⟨_,xA _ rfl,rfl⟩
theorem zNm {b1 b2:Bool}{z TI TO i1 i2 l1 l2:Addr}{k1 k2:Nat}{xs ys:Array Value}{x y a b:Value}{Q:Option Value->Shared->Prop}(D:ZipApart z TI TO i1 i2 l1 l2)
  (hz:IsZip s.heap z TI TO .none) (hTI:IsPair s.heap TI (.ref i1) (.ref i2)) (hTO:IsPair s.heap TO a b) (h1:KIt b1 s.heap i1 l1 k1) (h2:KIt b2 s.heap i2 l2 k2) (q1:KSq b1 s.heap l1 xs) (q2:KSq b2 s.heap l2 ys) (hx:xs[k1]?=some x) (hy:ys[k2]?=some y)
  (hQ:∀h',IsZip h' z TI TO (rawInt s.heap.objs.size)->IsPair h' TO x y->KIt b1 h' i1 l1 (k1+1)->KIt b2 h' i2 l2 (k2+1)->IsPair h' s.heap.objs.size x y->(∀c o,c≠z->c≠TO->c≠i1->c≠i2->s.heap.get? c=some o->h'.get? c=some o)->Q (some (.ref s.heap.objs.size)) { s with heap:=h' }):
  wpAny (model prog w) A (pyNext (.ref z)) Q E s:=by
 have hT:s.TypeIs (.ref z) "zip":=⟨_,hz,rfl⟩
 unfold pyNext
 refine xa (wpAny_attempt (vf (name:=Str.ofString "__next__") hT vE (x8 vE hT F.entry_zip_next ?_ (F.args_zip_next_1 _))))
 refine(show wpAny _ _ (field (.ref z) 2 >>= _) _ _ _ from xa (xC hz rfl (x:=.bool false) rfl (show wpAny _ _ (field (.ref z) 3 >>= _) _ _ _ from xa (xC hz rfl (x:=.ref TI) rfl (xa (vh hTI rfl (show wpAny _ _ (Builtin.SmallTypes.ownedTupleIsFree (.ref z) >>= _) _ _ _ from xa ?_)))))))
 unfold Builtin.SmallTypes.ownedTupleIsFree;refine xa (xC hz rfl (x:=.none) rfl (xf ?_));simp only[xy]
 refine xa (vA (xa (xC hz rfl (x:=.ref TO) rfl (xa (vT hz (by simp) fun g1 z1 s1=>xa ?_)))))
 replace z1:IsZip g1 z TI TO .ellipsis:=z1
 simp only[List.zipIdx_cons,List.zipIdx_nil,v5,List.forIn_nil]
 refine xa (xa (wpAny_onRaise (show wpAny _ _ (Builtin.SmallTypes.nextOf (.ref i1) >>= _) _ _ _ from xa (next_item (h1.xb s1.extBut D.i1z) (q1.xb s1.extBut D.l1z) hx fun g2 h12 s2=>xf ?_))))
 have T2:IsPair g2 TO a b:=s2.extBut _ _ D.TOi1 (s1.extBut _ _ D.TOz hTO)
 refine xa (vh T2 rfl (xa (wpAny_updateSeq_pair T2 fun g3 T3 s3=>xa (wpAny_letGo (xf ?_)))))
 replace T3:IsPair g3 TO x b:=T3
 refine xa (xa (wpAny_onRaise (show wpAny _ _ (Builtin.SmallTypes.nextOf (.ref i2) >>= _) _ _ _ from xa (next_item (((h2.xb s1.extBut D.i2z).xb s2.extBut D.i12.symm).xb s3.extBut D.TOi2.symm) (((q2.xb s1.extBut D.l2z).xb s2.extBut D.l2i1).xb s3.extBut D.l2TO) hy fun g4 h24 s4=>xf ?_))))
 have T4:IsPair g4 TO x b:=s4.extBut _ _ D.TOi2 T3
 refine xa (vh T4 rfl (xa (wpAny_updateSeq_pair T4 fun g5 T5 s5=>xa (wpAny_letGo (xf (xf ?_))))))
 replace T5:IsPair g5 TO x y:=T5
 refine xa (vh T5 rfl (xa (wpAny_newTuple ?_)))
 have sz:g5.objs.size=s.heap.objs.size:=by rw[s5.1,s4.1,s3.1,s2.1,s1.1]
 have z5:IsZip g5 z TI TO .ellipsis:=s5.extBut _ _ D.TOz.symm (s4.extBut _ _ D.i2z.symm (s3.extBut _ _ D.TOz.symm (s2.extBut _ _ D.i1z.symm z1)))
 have k5:∀c o,c≠z->c≠TO->c≠i1->c≠i2->s.heap.get? c=some o->g5.get? c=some o:=fun c o c1 c2 c3 c4 e=>s5.extBut _ _ c2 (s4.extBut _ _ c4 (s3.extBut _ _ c2 (s2.extBut _ _ c3 (s1.extBut _ _ c1 e))))
 have a5:KIt b1 g5 i1 l1 (k1+1):=((h12.xb s3.extBut D.TOi1.symm).xb s4.extBut D.i12).xb s5.extBut D.TOi1.symm
 have b5:KIt b2 g5 i2 l2 (k2+1):=h24.xb s5.extBut D.TOi2.symm
 have zlt:z<g5.objs.size:=xj z5
 refine(show wpAny _ _ (Builtin.SmallTypes.ownedTupleHandOut (.ref z) (.ref g5.objs.size) >>= _) _ _ _ from xa ?_)
 unfold Builtin.SmallTypes.ownedTupleHandOut
 have z6:IsZip (g5.push { cls:=.type "tuple",data:=.seq #[x,y] }) z TI TO .ellipsis:=xk _ z5
 refine xa (vT z6 (by simp) fun g7 z7 s7=>?_)
 replace z7:IsZip g7 z TI TO (rawInt g5.objs.size):=z7
 refine vT z7 (by simp) fun g8 z8 s8=>?_
 replace z8:IsZip g8 z TI TO (rawInt g5.objs.size):=z8
 have up:∀c o,c≠z->g5.get? c=some o->g8.get? c=some o:=fun c o c1 e=>s8.extBut _ _ c1 (s7.extBut _ _ c1 (xk _ e))
 have T8:IsPair g8 g5.objs.size x y:=s8.extBut _ _ (x6 zlt) (s7.extBut _ _ (x6 zlt) (xA _ rfl))
 rw[sz]at z8 T8
 refine xf ⟨_,rfl,?_⟩
 show wpAny _ _ (pure (some (Value.ref g5.objs.size))) _ _ _
 rw[sz]
 exact xf (hQ g8 z8 (up _ _ D.TOz T5) (a5.at fun o e=>up _ o D.i1z e) (b5.at fun o e=>up _ o D.i2z e) T8 fun c o c1 c2 c3 c4 e=>up c o c1 (k5 c o c1 c2 c3 c4 e))
theorem zS7 {b1 b2:Bool}{z TI TO i1 i2 l1 l2:Addr}{k1 k2:Nat}{xs ys:Array Value}{a b:Value}{Q:Option Value->Shared->Prop}(hh:A.handled=none) (D:ZipApart z TI TO i1 i2 l1 l2)
  (hz:IsZip s.heap z TI TO .none) (hTI:IsPair s.heap TI (.ref i1) (.ref i2)) (hTO:IsPair s.heap TO a b) (h1:KIt b1 s.heap i1 l1 k1) (h2:KIt b2 s.heap i2 l2 k2) (q1:KSq b1 s.heap l1 xs) (q2:KSq b2 s.heap l2 ys) (hend:xs[k1]?=none\/ys[k2]?=none)
  (hQ:∀h',(∀c o,c≠z->c≠TO->c≠i1->c≠i2->s.heap.get? c=some o->h'.get? c=some o)->Q none { s with heap:=h' }):wpAny (model prog w) A (pyNext (.ref z)) Q E s:=by
 have hT:s.TypeIs (.ref z) "zip":=⟨_,hz,rfl⟩
 unfold pyNext
 have stop:∀(g:Heap) (e:Addr),(∀c o,c≠z->c≠TO->c≠i1->c≠i2->s.heap.get? c=some o->g.get? c=some o)->(∃o,g.get? e=some o/\o.cls=.type "StopIteration")->wpAny (model prog w) A (do
   let b <- isInstance (.ref e) (.type "StopIteration")
   if b=true then pure none else throw (.ref e)) Q E { s with heap:=g }:=fun g e kp hz0=>by obtain⟨o,ho,hc⟩:=hz0;exact xa (uj (b:=true) (T:="StopIteration") ⟨o,ho,hc⟩ isSubtype_stop (xf (hQ _ kp)))
 refine xa (wpAny_attempt (vf (name:=Str.ofString "__next__") hT vE (x8 vE hT F.entry_zip_next ?_ (F.args_zip_next_1 _))))
 refine(show wpAny _ _ (field (.ref z) 2 >>= _) _ _ _ from xa (xC hz rfl (x:=.bool false) rfl (show wpAny _ _ (field (.ref z) 3 >>= _) _ _ _ from xa (xC hz rfl (x:=.ref TI) rfl (xa (vh hTI rfl (show wpAny _ _ (Builtin.SmallTypes.ownedTupleIsFree (.ref z) >>= _) _ _ _ from xa ?_)))))))
 unfold Builtin.SmallTypes.ownedTupleIsFree;refine xa (xC hz rfl (x:=.none) rfl (xf ?_));simp only[xy]
 refine xa (vA (xa (xC hz rfl (x:=.ref TO) rfl (xa (vT hz (by simp) fun g1 z1 s1=>xa ?_)))))
 replace z1:IsZip g1 z TI TO .ellipsis:=z1
 simp only[List.zipIdx_cons,List.zipIdx_nil,v5,List.forIn_nil]
 have hhi:A.in1.handled=none:=hh
 refine xa (xa (wpAny_onRaise (show wpAny _ _ (Builtin.SmallTypes.nextOf (.ref i1) >>= _) _ _ _ from xa ?_)))
 cases hx:xs[k1]? with
 | none=>
  refine next_end hhi (h1.xb s1.extBut D.i1z) (q1.xb s1.extBut D.l1z) hx fun g2 e s2 he=>?_
  obtain⟨oe,hoe,hce⟩:=he
  have z2:IsZip g2 z TI TO .ellipsis:=s2 _ _ D.i1z.symm z1
  have ne:e≠z:=fun x=>by subst x;rw[z2]at hoe;cases hoe;simp at hce
  exact vT z2 (by simp) fun g3 _ s3=>stop g3 e (fun c o c1 _ c3 _ x=>s3.extBut _ _ c1 (s2 _ _ c3 (s1.extBut _ _ c1 x))) ⟨oe,s3.extBut _ _ ne hoe,hce⟩
 | some x=>
  have hy:ys[k2]?=none:=by rcases hend with h|h;rw[hx]at h;cases h;exact h
  refine next_item (h1.xb s1.extBut D.i1z) (q1.xb s1.extBut D.l1z) hx fun g2 h12 s2=>xf ?_
  have T2:IsPair g2 TO a b:=s2.extBut _ _ D.TOi1 (s1.extBut _ _ D.TOz hTO)
  refine xa (vh T2 rfl (xa (wpAny_updateSeq_pair T2 fun g3 T3 s3=>xa (wpAny_letGo (xf ?_)))))
  refine xa (xa (wpAny_onRaise (show wpAny _ _ (Builtin.SmallTypes.nextOf (.ref i2) >>= _) _ _ _ from xa (next_end hhi (((h2.xb s1.extBut D.i2z).xb s2.extBut D.i12.symm).xb s3.extBut D.TOi2.symm) (((q2.xb s1.extBut D.l2z).xb s2.extBut D.l2i1).xb s3.extBut D.l2TO) hy fun g4 e s4 he=>?_))))
  obtain⟨oe,hoe,hce⟩:=he
  have z4:IsZip g4 z TI TO .ellipsis:=s4 _ _ D.i2z.symm (s3.extBut _ _ D.TOz.symm (s2.extBut _ _ D.i1z.symm z1))
  have ne:e≠z:=fun x=>by subst x;rw[z4]at hoe;cases hoe;simp at hce
  exact vT z4 (by simp) fun g5 _ s5=>stop g5 e (fun c o c1 c2 c3 c4 x=>s5.extBut _ _ c1 (s4 _ _ c4 (s3.extBut _ _ c2 (s2.extBut _ _ c3 (s1.extBut _ _ c1 x))))) ⟨oe,s5.extBut _ _ ne hoe,hce⟩
end
end TS
namespace TS
open PySem
noncomputable abbrev itO (b:Bool) (l:Addr):Obj:={ cls:=.type (if b then "tuple_iterator" else "list_iterator"),data:=.fields #[.ref l,.int 0 0] }
section
variable {prog:Program}{w:World}{A:Around}{E:Value->Shared->Prop}{s:Shared}
theorem zKc {b:Bool}{l:Addr}{xs:Array Value}{Q:Value->Shared->Prop}(q:KSq b s.heap l xs) (h:Q (.ref s.heap.objs.size) { s with heap:=s.heap.push (itO b l) }):wpAny (model prog w) A (pyIter (.ref l)) Q E s:=by
 cases b with
 | false=>exact ui q h
 | true=>exact wpAny_pyIter_tuple q h
end
noncomputable abbrev kz1 (b1 b2:Bool) (h:Heap) (l1 l2:Addr):Heap:=(h.push (itO b1 l1)).push (itO b2 l2)
noncomputable abbrev kz2 (b1 b2:Bool) (h:Heap) (l1 l2:Addr):Heap:=(kz1 b1 b2 h l1 l2).push { cls:=.type "tuple",data:=.seq #[.ref h.objs.size,.ref (h.push (itO b1 l1)).objs.size] }
noncomputable abbrev kz3 (b1 b2:Bool) (h:Heap) (l1 l2:Addr):Heap:=(kz2 b1 b2 h l1 l2).push { cls:=.type "tuple",data:=.seq #[.none,.none] }
noncomputable abbrev kz4 (b1 b2:Bool) (h:Heap) (l1 l2:Addr):Heap:=(kz3 b1 b2 h l1 l2).push { cls:=.type "zip",data:=.fields #[.none,.bool false,.bool false,.ref (kz1 b1 b2 h l1 l2).objs.size,.ref (kz2 b1 b2 h l1 l2).objs.size] }
theorem zX6 (b1 b2:Bool) (l1 l2:Addr) (xs ys:Array Value):Meets (Builtin.«zip.__new__» ⟨[.type "zip",.ref l1,.ref l2],[]⟩) (fun _ R s=>KSq b1 s.heap l1 xs/\KSq b2 s.heap l2 ys/\R (.ok (.ret (.ref (kz3 b1 b2 s.heap l1 l2).objs.size))) { s with heap:=kz4 b1 b2 s.heap l1 l2 }):=
 .of_wp fun prog w A R s h=>by
  obtain⟨hp,g,d,tk,os⟩:=s;obtain⟨q1,q2,h⟩:=h
  have hsub:=sub_zip
  have L1:KSq b1 (Shared.heap ⟨hp,g,d,tk,os⟩) l1 xs:=q1
  have L2:KSq b2 (Shared.heap ⟨hp.push (itO b1 l1),g,d,tk,os⟩) l2 ys:=q2.at fun o e=>xk _ e
  wp_walk using zKc L1,zKc L2
  exact⟨_,rfl,h⟩
section
variable {prog:Program}{w:World}{A:Around}{E:Value->Shared->Prop}{s:Shared}
theorem zOr {b1 b2:Bool}{l1 l2:Addr}{xs ys:Array Value}{Q:Value->Shared->Prop}(q1:KSq b1 s.heap l1 xs) (q2:KSq b2 s.heap l2 ys)
  (h:∀h',IsZip h' (s.heap.objs.size+4) (s.heap.objs.size+2) (s.heap.objs.size+3) .none->IsPair h' (s.heap.objs.size+2) (.ref s.heap.objs.size) (.ref (s.heap.objs.size+1))->
   IsPair h' (s.heap.objs.size+3) .none .none->KIt b1 h' s.heap.objs.size l1 0->KIt b2 h' (s.heap.objs.size+1) l2 0->(∀c o,s.heap.get? c=some o->h'.get? c=some o)->Q (.ref (s.heap.objs.size+4)) { s with heap:=h' }):
  wpAny (model prog w) A (call (.type "zip") [.ref l1,.ref l2]) Q E s:=by
 refine callType_new F.called_zip (by decide) (F.typeCall_zip_2 _ _) (F.newCall_zip_2 _ _) (fun obj=>F.args_object_init_3 obj _ _) F.entry_zip_new (zX6 b1 b2 l1 l2 xs ys) ⟨q1,q2,?_⟩
 have z0:(s.heap.push (itO b1 l1)).objs.size=s.heap.objs.size+1:=xY ..
 have z1:(kz1 b1 b2 s.heap l1 l2).objs.size=s.heap.objs.size+2:=by rw[xY,z0]
 have z2:(kz2 b1 b2 s.heap l1 l2).objs.size=s.heap.objs.size+3:=by rw[xY,z1]
 have z3:(kz3 b1 b2 s.heap l1 l2).objs.size=s.heap.objs.size+4:=by rw[xY,z2]
 have g5:(kz4 b1 b2 s.heap l1 l2).get? (kz3 b1 b2 s.heap l1 l2).objs.size=some _:=xA _ rfl
 have g4:(kz4 b1 b2 s.heap l1 l2).get? (kz2 b1 b2 s.heap l1 l2).objs.size=some _:=xk _ (xA _ rfl)
 have g3:(kz4 b1 b2 s.heap l1 l2).get? (kz1 b1 b2 s.heap l1 l2).objs.size=some _:=xk _ (xk _ (xA _ rfl))
 have g2:(kz4 b1 b2 s.heap l1 l2).get? (s.heap.push (itO b1 l1)).objs.size=some (itO b2 l2):=xk _ (xk _ (xk _ (xA _ (by cases b2 <;> rfl))))
 have g1:(kz4 b1 b2 s.heap l1 l2).get? s.heap.objs.size=some (itO b1 l1):=xk _ (xk _ (xk _ (xk _ (xA _ (by cases b1 <;> rfl)))))
 have gk:∀c o,s.heap.get? c=some o->(kz4 b1 b2 s.heap l1 l2).get? c=some o:=fun c o x=>xk _ (xk _ (xk _ (xk _ (xk _ x))))
 show _/\_
 rw[z3]at g5 ⊢
 rw[z1,z2]at g5
 rw[z1,z0]at g3
 rw[z2]at g4
 rw[z0]at g2
 exact⟨⟨_,g5,rfl⟩,h _ g5 g3 g4 ⟨_,g1,rfl,rfl⟩ ⟨_,g2,rfl,rfl⟩ gk⟩
end
end TS
namespace L2
open PySem PySem.Spec PyProof.Rows TS
noncomputable def hoK (b:Bool) (xs:List V):HO:=if b then .tup xs else .lst xs
noncomputable def Itk (b1 b2:Bool) (a b:Addr):It:=
  ⟨fun i H=>∃xs ys x y,H a=some (hoK b1 xs)/\H b=some (hoK b2 ys)/\xs[i]?=some x/\ys[i]?=some y,
   fun i H v H'=>∃T xs ys x y,v=.ref T/\H T=none/\H a=some (hoK b1 xs)/\H b=some (hoK b2 ys)/\xs[i]?=some x/\ys[i]?=some y/\H'=upd H T (.tup [x,y]),
   fun i H=>∃xs ys,H a=some (hoK b1 xs)/\H b=some (hoK b2 ys)/\(xs.length<=i\/ys.length<=i)⟩
theorem Inv.kSq {X:Cx}{pins:List (Addr × Obj)}{σ:St}{H:Hp}{s:Shared}{b:Bool}{a:Addr}{xs:List V}(I:Inv X pins σ H s) (h:H a=some (hoK b xs)):∃its:List Value,Vals xs its/\KSq b s.heap a its.toArray/\xs.length<=sizeLine:=by
 cases b with
 | false=>obtain⟨its,r,p,z⟩:=I.list (SqL.of h);exact⟨its,r,p.isList,z⟩
 | true=>obtain⟨its,r,p,z⟩:=I.tuple (SqT.of h);exact⟨its,r,p,z⟩
theorem zVh {P:Program}{w:World}{K:PySem.W.Frag}{es:List Expr}{k:Nat}{pos:Pos}(b1 b2:Bool) (a b z TI TO i1 i2:Addr) (D:ZipOwn z TI TO i1 i2):
  Turn P w K (.Tuple es k pos) (Itk b1 b2 a b) [z,TI,TO,i1,i2] z (fun i h=>IsZip h z TI TO .none/\IsPair h TI (.ref i1) (.ref i2)/\(∃p q,IsPair h TO p q)/\KIt b1 h i1 a i/\KIt b2 h i2 b i) where
 mem:=by simp
 obj:=fun i h st c hc=>by
  obtain⟨hz,hTI,⟨p,q,hTO⟩,⟨o1,e1,c1,d1⟩,⟨o2,e2,c2,d2⟩⟩:=st
  simp only[xi,xt,xu]at hc
  rcases hc with rfl|rfl|rfl|rfl|rfl
  ·exact⟨_,hz,fun v z=>by cases z⟩
  ·exact⟨_,hTI,fun v z=>by cases z⟩
  ·exact⟨_,hTO,fun v z=>by cases z⟩
  ·exact⟨_,e1,fun v z=>by rw[d1]at z;cases z⟩
  ·exact⟨_,e2,fun v z=>by rw[d2]at z;cases z⟩
 keep:=fun i h h' st kk=>by
  obtain⟨hz,hTI,⟨p,q,hTO⟩,h1,h2⟩:=st
  exact⟨kk z (by simp) _ hz,kk TI (by simp) _ hTI,⟨p,q,kk TO (by simp) _ hTO⟩,h1.at fun o e=>kk i1 (by simp) o e,h2.at fun o e=>kk i2 (by simp) o e⟩
 item:=by
  intro X hP hw hK hc i pins s σ H E I hf st hg
  subst hP hw hK
  obtain⟨xs,ys,x,y,ha,hb,hx,hy⟩:=hg
  obtain⟨hz,hTI,⟨p,q,hTO⟩,h1,h2⟩:=st
  obtain⟨its,rv,p1,z1⟩:=I.kSq ha
  obtain⟨jts,rw',p2,z2⟩:=I.kSq hb
  obtain⟨u,hu,ru⟩:=rv.get hx
  obtain⟨v,hv,rv'⟩:=rw'.get hy
  have na:a ∉ [z,TI,TO,i1,i2]:=fun m=>by rw[(hf a m).1]at ha;cases ha
  have nb:b ∉ [z,TI,TO,i1,i2]:=fun m=>by rw[(hf b m).1]at hb;cases hb
  have hfr:H s.heap.objs.size=none:=I.hok.fresh (xh _)
  have zlt:z<s.heap.objs.size:=xj hz
  refine zNm (D.apart na nb) hz hTI hTO h1 h2 p1 p2 (x:=u) (y:=v) (by simpa using hu) (by simpa using hv) fun h' a1 a2 a3 a4 a5 hk=>?_
  refine⟨_,rfl,wpAny_letOwnedTupleGo_zip (s:={ s with heap:=h' }) a1 fun h2' hz' hs'=>?_⟩
  have hT:IsPair h2' s.heap.objs.size u v:=hs'.extBut _ _ (x6 zlt) a5
  refine⟨.ref s.heap.objs.size,upd H s.heap.objs.size (.tup [x,y]),I.turnedT (t':=s.toks) hf (fun c o hc e=>?_) (xh _) ⟨by show 2<=sizeLine;decide,[u,v],.cons ru (.cons rv' .nil),⟨_,hT,rfl,_,rfl⟩⟩,rfl,
   ⟨_,xs,ys,x,y,rfl,hfr,ha,hb,hx,hy,rfl⟩,⟨hz',hs'.extBut _ _ D.TIz (hk _ _ D.TIz D.TITO D.TIi1 D.TIi2 hTI),⟨_,_,hs'.extBut _ _ D.TOz a2⟩,a3.xb hs'.extBut D.i1z,a4.xb hs'.extBut D.i2z⟩,fun c hc=>?_⟩
  ·simp only[xi,xt,xu,not_or]at hc
   exact hs'.extBut _ _ hc.1 (hk _ _ hc.1 hc.2.2.1 hc.2.2.2.1 hc.2.2.2.2 e)
  ·have hn:=(hf c hc).1
   have ne:c≠s.heap.objs.size:=by
    obtain⟨o1,e1,_⟩:=h1
    obtain⟨o2,e2,_⟩:=h2
    simp only[xi,xt,xu]at hc
    rcases hc with rfl|rfl|rfl|rfl|rfl
    ·exact xr (xj hz)
    ·exact xr (xj hTI)
    ·exact xr (xj hTO)
    ·exact xr (xj e1)
    ·exact xr (xj e2)
   rw[zAo ne];exact hn
 done:=by
  intro X hP hw hK hc i pins s σ H E I hf st hg
  subst hP hw hK
  obtain⟨xs,ys,ha,hb,hx⟩:=hg
  obtain⟨hz,hTI,⟨p,q,hTO⟩,h1,h2⟩:=st
  obtain⟨its,rv,p1,z1⟩:=I.kSq ha
  obtain⟨jts,rw',p2,z2⟩:=I.kSq hb
  have na:a ∉ [z,TI,TO,i1,i2]:=fun m=>by rw[(hf a m).1]at ha;cases ha
  have nb:b ∉ [z,TI,TO,i1,i2]:=fun m=>by rw[(hf b m).1]at hb;cases hb
  have l1:=rv.length
  have l2:=rw'.length
  refine zS7 (I.ok.hd hc) (D.apart na nb) hz hTI hTO h1 h2 p1 p2 ?_ fun h' hk=>⟨rfl,I.turnedL (t':=s.toks) hf fun c o hc e=>?_⟩
  ·rcases hx with hx|hx
   ·exact .inl (by simp;lia)
   ·exact .inr (by simp;lia)
  ·simp only[xi,xt,xu,not_or]at hc
   exact hk _ _ hc.1 hc.2.2.1 hc.2.2.2.1 hc.2.2.2.2 e
 self:=fun _ _ _ _ _ st h=>wpAny_pyIter_zip st.1 h
section
variable {X:Cx}{tg:Expr}
noncomputable def iZk (b1 b2:Bool) (ta:TA):TI:=fun σ H R=>ta σ H fun vs H1=>∃a b,vs=[.ref a,.ref b]/\(∃xs,H1 a=some (hoK b1 xs))/\(∃ys,H1 b=some (hoK b2 ys))/\R (Itk b1 b2 a b) H1
theorem zYa (b1 b2:Bool) {a b:Expr}{es:List Expr}{k:Nat}{tpos:Pos}{ta:TA}{p pos:Pos}(hg:Gl X "zip") (hm:X.mg "zip"=none) (ha:PA X [a,b] ta) (hs:starEach [a,b] X.env=[(false,eval a X.env),(false,eval b X.env)]:=by rfl) (hs2:starEach [b] X.env=[(false,eval b X.env)]:=by rfl):
  PI X (.Tuple es k tpos) (.Call (.Name "zip" p) [a,b] [] pos) (iZk b1 b2 ta):=by
 intro pins s σ H R I h
 refine Call_ (zGe I hg hm PyProof.Rows.boot_zip (ud (thn (ha pos pins s σ H _ I h) fun us s1 ⟨vs,H1,I1,r1,q1⟩=>?_) (by rw[hs,hs2]) (by rw[hs2];rfl)))
 obtain⟨l1,l2,e,⟨xs,ha1⟩,⟨ys,hb1⟩,q⟩:=q1
 subst e
 obtain⟨u1,u2,rfl,rfl,rfl⟩:=vals2 r1
 obtain⟨its,rv,p1,z1⟩:=I1.kSq ha1
 obtain⟨jts,rw',p2,z2⟩:=I1.kSq hb1
 refine zOr p1 p2 fun h' c1 c2 c3 c4 c5 hk=>?_
 refine wpAny_pyIter_zip c1 ?_
 have DZ:∀n:Nat,ZipOwn (n+4) (n+2) (n+3) n (n+1):=fun n=>by constructor <;> exact fun e=>absurd (show(_:Nat)=_ from e) (by nofun)
 refine⟨_,[s1.heap.objs.size+4,s1.heap.objs.size+2,s1.heap.objs.size+3,s1.heap.objs.size,s1.heap.objs.size+1],_,_,H1,rfl,I1.kept (t':=s1.toks) hk,zVh b1 b2 l1 l2 _ _ _ _ _ (DZ _),⟨c1,c2,⟨_,_,c3⟩,c4,c5⟩,fun c hc=>?_,q⟩
 have hle:s1.heap.objs.size<=c:=by
  simp only[xi,xt,xu]at hc
  rcases hc with rfl|rfl|rfl|rfl|rfl
  ·exact vq _ _
  ·exact vq _ _
  ·exact vq _ _
  ·exact xh _
  ·exact vq _ _
 exact I1.fpOk hle (I1.hok.fresh hle)
end
section
variable {X:Cx}{a b:Expr}{p pos:Pos}
theorem qzk (b1 b2:Bool) {es:List Expr}{k:Nat}{tpos:Pos}{ta:TA}(hg:Gl X "zip") (hm:X.mg "zip"=none) (ha:SA X [a,b] ta) (hs:starEach [a,b] X.env=[(false,eval a X.env),(false,eval b X.env)]:=by rfl) (hs2:starEach [b] X.env=[(false,eval b X.env)]:=by rfl):
  SI X (.Tuple es k tpos) (.Call (.Name "zip" p) [a,b] [] pos) (iZk b1 b2 ta):=⟨zYa b1 b2 hg hm ha.h hs hs2⟩
end
section
variable {A:TA}{σ σc:St}{H:Hp}{g:TG}{tt:TT}{te:TE}{Qd:List V->Hp->Prop}
theorem zLh {b:Bool}{xs ys:List V}(h:hoK b xs=hoK b ys):xs=ys:=by
 cases b with
 | false=>exact HO.lst.inj h
 | true=>exact HO.tup.inj h
end
end L2
namespace TS
open PySem PyProof.Rows Builtin Builtin.Str
section
variable {prog:Program}{w:World}{A:Around}{E:Value->Shared->Prop}{s:Shared}
theorem zMx {x y:Str}{t u:Tok}{Q:Value->Shared->Prop}(hy:(y.length == 0)=false) (hsz:x.length+2<=sizeLine)
  (h:∀(l:List (Str × Tok)) k,l.map (·.1)=Txt.split x y->Q (.ref s.heap.objs.size) { s with heap:=s.heap.push { cls:=.type "list",data:=.seq (strValues l).toArray },toks:=k }):wpAny (model prog w) A (call (.builtin "str.split") [.str x t,.str y u]) Q E s:=by
 have hn:(partsBetween x (occurrences x y 0 x.length (x.length+1)) y.length).length<=sizeLine:=by have e1:=StrLaws.occ_length_le x y 0 x.length (x.length+1);rw[length_partsBetween];lia
 cases h1:(decide (x.length<y.length) || decide (strKind x<strKind y))with
 | false=>
  cases hf:(occurrences x y 0 x.length (x.length+1)).isEmpty with
  | false=>
   refine call_meets vF (typeIs_str _ _ _) PySem.F.entry_str_split (PySem.F.args_str_split_2 _ _) (meets_str_split_sep x y t u h1 hy hf (by nofun) hn) (show wants Q E _ { s with toks:=_,heap:=s.heap.push { cls:=.type "list",data:=.seq (strsFrom s.toks (partsBetween x (occurrences x y 0 x.length (x.length+1)) y.length)).toArray } }from ?_)
   rw[strsFrom_eq]
   exact h (numbered s.toks _) _ ((numbered_texts _ _).trans ((xg (ne_true_of_eq_false h1)).trans (xg (ne_true_of_eq_false hf))).symm)
  | true=>exact call_meets vF (typeIs_str _ _ _) PySem.F.entry_str_split (PySem.F.args_str_split_2 _ _) (meets_str_split_not_found x y t u h1 hy hf) (h [(x,t)] s.toks ((xg (ne_true_of_eq_false h1)).trans (xc hf)).symm)
 | true=>exact call_meets vF (typeIs_str _ _ _) PySem.F.entry_str_split (PySem.F.args_str_split_2 _ _) (meets_str_split_cannot_occur x y t u h1) (h [(x,t)] s.toks (xc h1).symm)
end
end TS
namespace L2
open PySem PySem.Spec PyProof.Rows TS
section
variable {X:Cx}{K:PySem.W.Frag}
noncomputable def rLeS:R2:=fun x y H Q=>∃i j,x=.str i/\y=.str j/\Q (.bl (!decide (j.cps.toList<i.cps.toList))) H
theorem zOd:OpR X (compareOp .LtE) rLeS:=by
 intro pins s σ H x y v u Q I rx ry h
 obtain⟨i,j,rfl,rfl,q⟩:=h
 obtain⟨t,rfl⟩:=rx
 obtain⟨t',rfl⟩:=ry
 exact P.le_str ⟨.bl _,H,I,rfl,q⟩
noncomputable def zY5:List V->Hp->VK->Prop:=fun xs H Q=>∃x n,xs=[.str x]/\PySem.intText? x=some n/\x.length<=640/\Q (.int n) H
theorem zPr:zCb X (.type "int") zY5:=by
 intro pins s σ H xs us Q I r h
 obtain⟨x,n,rfl,hn,hl,q⟩:=h
 obtain⟨u,rfl,t,rfl⟩:=vals1 r
 exact PySem.W.KIN.call_text hn hl ⟨.int n,H,I.tok _,⟨_,rfl⟩,q⟩
theorem zNs:∀{ys:List Str}{us:List Value},Vals (ys.map V.str) us->StrsAre us ys
 | [],_,.nil=>.nil
 | y::ys,_,.cons ⟨t,e⟩ r=>by subst e;exact .cons _ _ (zNs r)
theorem zJm:∀(l:List (Str × Tok)),Vals ((l.map (·.1)).map V.str) (strValues l)
 | []=>.nil
 | (x,t)::l=>.cons ⟨t,rfl⟩ (zJm l)
noncomputable def rJoin (K:PySem.W.Frag):V->List V->Hp->VK->Prop:=fun x vs H Q=>∃sep a ys,x=.str sep/\vs=[.ref a]/\SqL K H a (ys.map V.str)/\sep.length<=16/\(ys.map (·.length)).sum+ys.length<=1048576/\Q (.str (Txt.join sep ys)) H
theorem zUf (hK:X.K=K:=by rfl):MtR X "str.join" (rJoin K):=by
 subst hK
 intro pins s σ H x xs v us Q I rx r h
 obtain⟨sep,a,ys,rfl,rfl,hq,h1,h2,q⟩:=h
 obtain⟨t,rfl⟩:=rx
 obtain⟨u,rfl,ru⟩:=vals1 r
 cases ru
 obtain⟨its,rv,pl,hz⟩:=I.list hq
 exact join_listW pl.isList (by simpa using zNs rv) h1 h2 fun t' k=>⟨.str _,H,I.tok _,⟨_,rfl⟩,q⟩
noncomputable def zVw:V->List V->Hp->VK->Prop:=fun x vs H Q=>∃z y,x=.str z/\vs=[.str y]/\0<y.length/\z.length<=100000/\(Txt.split z y).length<=sizeLine/\∀l,H l=none->Q (.ref l) (upd H l (.lst ((Txt.split z y).map V.str)))
theorem zRa:MtR X "str.split" zVw:=by
 intro pins s σ H x xs v us Q I rx r h
 obtain⟨z,y,rfl,rfl,h0,h1,h2,q⟩:=h
 obtain⟨t,rfl⟩:=rx
 obtain⟨u,rfl,t',rfl⟩:=vals1 r
 refine zMx (by simp;lia) (by rw[vP];lia) fun l k e=>?_
 have e':(Txt.split z y).map V.str=(l.map (·.1)).map V.str:=by rw[e]
 refine⟨.ref s.heap.objs.size,_,I.laid (t':=k) (o:=.lst ((Txt.split z y).map V.str)) (fun b ob q=>xk _ q) (xh _) ?_,rfl,q _ (I.hok.fresh (xh _))⟩
 exact⟨by rw[xm];exact h2,_,0,by rw[e'];exact zJm l,xA _ rfl⟩
noncomputable def zVv:V->List V->Hp->VK->Prop:=fun x vs H Q=>∃z y,x=.str z/\vs=[.str y]/\Q (.bl (Txt.startswith z y)) H
theorem zJa:MtR X "str.startswith" zVv:=by
 intro pins s σ H x xs v us Q I rx r h
 obtain⟨z,y,rfl,rfl,q⟩:=h
 obtain⟨t,rfl⟩:=rx
 obtain⟨u,rfl,t',rfl⟩:=vals1 r
 exact SC.startswith ⟨.bl _,H,I,rfl,q⟩
noncomputable def rInN (K:PySem.W.Frag):R2:=fun x y H Q=>∃p xs,x=.non/\y=.ref p/\SqT K H p xs/\(∀v∈xs,∃a ys,v=.ref a/\SqT K H a ys)/\Q (.bl false) H
theorem zWw (hu:X.A.units+64<cLine) (hK:X.K=K:=by rfl):OpR X (compareOp .In) (rInN K):=by
 subst hK
 intro pins s σ H x y v u Q I rx ry h
 obtain⟨p,xs,rfl,rfl,hq,al,q⟩:=h
 cases rx
 cases ry
 obtain⟨its,r,pl,hz⟩:=I.tuple hq
 have hl:=r.length
 refine SeqAt.in_tupleAt (fun _=>false) pl (fun y hy=>?_) ⟨.bl false,H,I,?_,q⟩
 ·obtain⟨i,hi,e⟩:=List.mem_iff_getElem.mp (show y∈its from by simpa using hy)
  have hx:i<xs.length:=by nofun
  obtain⟨u,hu,ru⟩:=r.get (xx hx)
  rw[xx hi]at hu
  have eu:y=u:=e.symm.trans (xD hu)
  subst eu
  obtain⟨a,ys,ea,qa⟩:=al xs[i] (List.getElem_mem hx)
  rw[ea]at ru
  cases ru
  obtain⟨_,_,pa,_⟩:=I.tuple qa
  exact SeqAt.EqAt.tuple_none pa (by show X.A.units+1<cLine;lia)
 ·show Value.bool _=Value.bool false
  rw[show its.toArray.any (fun _=>false)=false from by simp]
noncomputable def Its (x:Str):It:=⟨fun i _=>i<x.cps.size,fun i H v H'=>H'=H/\∃c,x.cps[i]?=some c/\v=.str ⟨#[c]⟩,fun i _=>x.cps.size<=i⟩
theorem zQ7 {P:Program}{w:World}{tg:Expr}(it:Addr) (x:Str) (t:Tok):Turn P w K tg (Its x) [it] it (fun i h=>i<=x.cps.size/\h.IsStrIter it "str_ascii_iterator" x t i) where
 mem:=by simp
 obj:=fun i h st b hb=>by
  have e:b=it:=by simpa using hb
  subst e
  obtain⟨_,o,e,c,d⟩:=st
  exact⟨o,e,fun v z=>by rw[d]at z;cases z⟩
 keep:=fun i h h' st k=>⟨st.1,let ⟨o,ho,r⟩:=st.2;⟨o,k it (by simp) o ho,r⟩⟩
 item:=by
  intro X hP hw hK hc i pins s σ H E I hf st hg
  subst hP hw hK
  obtain⟨f0,f1,f2,f3,f4,f5⟩:=hf it (by simp)
  have hg:i<x.cps.size:=hg
  refine wpAny_pyNext_ascii_item st.2 (c:=x.cps[i]) (by simp[hg]) fun h' st' sb=>?_
  have I1:Inv X pins σ H { s with heap:=h',toks:=s.toks+1 }:=I.turned (t':=s.toks+1) (fun b o hb e=>(sb.2 b hb).trans e) f0 f1 f3 f4 f5
  obtain⟨o,e,c,d⟩:=id st'
  exact⟨_,rfl,zRn (s:={ s with heap:=h',toks:=s.toks+1 }) e c d (by decide) ⟨.str ⟨#[x.cps[i]]⟩,H,I1,⟨_,rfl⟩,⟨rfl,_,by simp[hg],rfl⟩,⟨hg,st'⟩,fun b hb=>(hf b hb).1⟩⟩
 done:=by
  intro X hP hw hK hc i pins s σ H E I hf st hg
  subst hP hw hK
  obtain⟨f0,f1,f2,f3,f4,f5⟩:=hf it (by simp)
  have hg:x.cps.size<=i:=hg
  exact wpAny_pyNext_ascii_end (I.ok.hd hc) st.2 (by simp[hg]) fun h' eb=>⟨rfl,I.turned (t':=s.toks) (fun b o hb e=>eb b o hb e) f0 f1 f3 f4 f5⟩
 self:=fun _ _ _ _ _ st h=>wpAny_pyIter_striter_ascii st.2 h
end
end L2
namespace TX
open PySem PySem.Builtin PySem.Builtin.Str
noncomputable abbrev ls (x:Str):List Nat:=x.cps.toList
theorem zCt {x y:Str}(h:ls x=ls y):x=y:=by
 cases x;cases y
 exact congrArg Str.mk (Array.toList_inj.mp h)
noncomputable def jn (c:Nat):List (List Nat)->List Nat
 | []=>[]
 | a::l=>a++l.flatMap fun p=>c::p
theorem zP4 (g:Array Nat):∀(l:List Str) (a:Array Nat),(l.foldl (fun acc p=>acc++g++p.cps) a).toList=a.toList++l.flatMap fun p=>g.toList++p.cps.toList
 | [],a=>by simp
 | p::l,a=>by rw[List.foldl_cons,zP4 g l];simp
theorem zFo (c:Nat) (ps:List Str):ls (glued ⟨#[c]⟩ ps)=jn c (ps.map ls):=by
 cases ps with
 | nil=>rfl
 | cons p ps=>
  show((List.drop 1 (p::ps)).foldl (fun acc q=>acc++(#[c]:Array Nat)++q.cps) ((p::ps).headD Str.empty).cps).toList=_
  rw[zP4]
  simp only[jn,xw,List.flatMap_map,List.drop_one,List.tail_cons,List.headD_cons]
  rfl
theorem zXm (c:Nat):∀(l:List (List Nat)),(l.flatMap fun p=>c::p).takeWhile (· != c)=[]
 | []=>rfl
 | p::l=>by simp
theorem zSa {c:Nat}{a b:List Nat}(h:c ∉ a) (hb:b.takeWhile (· != c)=[]):(a++b).takeWhile (· != c)=a:=by
 induction a with
 | nil=>simpa using hb
 | cons x a ih=>
  have hx:(x != c)=true:=by simp;exact fun e=>h (by simp[e])
  rw[v9,List.takeWhile_cons,xc hx,ih fun m=>h (.tail _ m)]
theorem zSm {c:Nat}:∀(l m:List (List Nat)) (a b:List Nat),(∀p∈a::l,c ∉ p)->(∀p∈b::m,c ∉ p)->(a++l.flatMap fun p=>c::p)=(b++m.flatMap fun p=>c::p)->a=b/\l=m
 | l,m,a,b,hl,hm,e=>by
  have ha:a=b:=by
   have:=congrArg (List.takeWhile (· != c)) e
   rw[zSa (hl a (.head _)) (zXm c l),zSa (hm b (.head _)) (zXm c m)]at this
   exact this
  subst ha
  have e2:=List.append_cancel_left e
  cases l with
  | nil=>
   cases m with
   | nil=>exact⟨rfl,rfl⟩
   | cons q m=>simp at e2
  | cons p l=>
   cases m with
   | nil=>simp at e2
   | cons q m=>
    simp only[List.flatMap_cons,v9]at e2
    have e3:=(List.cons.inj e2).2
    obtain⟨r1,r2⟩:=zSm l m p q (fun x hx=>hl x (.tail _ hx)) (fun x hx=>hm x (.tail _ hx)) e3
    exact⟨rfl,by rw[r1,r2]⟩
termination_by l=>l.length
theorem join_split (x:Str) (c:Nat):glued ⟨#[c]⟩ (Txt.split x ⟨#[c]⟩)=x:=by
 unfold Txt.split
 split
 ·exact zCt (by rw[zFo];simp[jn])
 ·split
  ·exact zCt (by rw[zFo];simp[jn])
  ·exact StrLaws.glued_between_self x ⟨#[c]⟩ _
theorem zDx {x:Str}{c:Nat}{p:Str}{ps:List Str}(h:ls x=jn c ((p::ps).map ls)) (hc:∀q∈p::ps,c ∉ ls q):Txt.split x ⟨#[c]⟩=p::ps:=by
 have hs:=join_split x c
 have hf:=StrLaws.split_free x c
 cases hq:Txt.split x ⟨#[c]⟩with
 | nil=>
  have:=PyProof.Rows.split_pos x ⟨#[c]⟩
  rw[hq]at this
  simp at this
 | cons q qs=>
  rw[hq]at hs hf
  have e:jn c ((q::qs).map ls)=jn c ((p::ps).map ls):=by rw[<- zFo,hs,h]
  obtain⟨e1,e2⟩:=zSm (qs.map ls) (ps.map ls) (ls q) (ls p) (fun z hz=>by
    rcases xi.mp hz with rfl|hz
    ·exact hf q (.head _)
    ·obtain⟨y,hy,rfl⟩:=xG.mp hz;exact hf y (.tail _ hy)) (fun z hz=>by
    rcases xi.mp hz with rfl|hz
    ·exact hc p (.head _)
    ·obtain⟨y,hy,rfl⟩:=xG.mp hz;exact hc y (.tail _ hy)) e
  have inj:∀(a b:List Str),a.map ls=b.map ls->a=b:=fun a b=>by
   induction a generalizing b with
   | nil=>intro h;cases b with|nil=>rfl|cons _ _=>simp at h
   | cons x a ih=>
    intro h
    cases b with
    | nil=>simp at h
    | cons y b=>
     simp only[xw,List.cons.injEq]at h
     rw[zCt h.1,ih b h.2]
  rw[zCt e1,inj _ _ e2]
noncomputable def dg (m:Nat):List Nat:=(Nat.toDigits 10 m).map Char.toNat
theorem zLk {m:Nat}(h:10<=m):dg m=dg (m / 10)++[(Nat.digitChar (m % 10)).toNat]:=by
 have hm:m % 10<10:=vw m (by decide)
 have t:Nat.toDigits 10 (m / 10)++Nat.toDigits 10 (m % 10)=Nat.toDigits 10 (10*(m / 10)+m % 10):=Nat.toDigits_append_toDigits (by decide) (by omega) hm
 rw[Nat.div_add_mod]at t
 unfold dg
 rw[<- t,vU,Nat.toDigits_of_lt_base hm]
 rfl
theorem zMg {m:Nat}(h:m<10):dg m=[(Nat.digitChar m).toNat]:=by
 unfold dg
 rw[Nat.toDigits_of_lt_base h];rfl
theorem dc:∀d:Nat,d<10->(Nat.digitChar d).toNat=48+d:=by decide
theorem zGi (m:Nat):∀c∈dg m,48<=c/\c<=57:=by
 induction m using Nat.strongRecOn with
 | _ m ih=>
  by_cases h:m<10
  ·rw[zMg h];intro c hc;rw[xJ.mp hc,dc m h];omega
  ·rw[zLk (by omega)]
   intro c hc
   rcases xT.mp hc with z|z
   ·exact ih (m / 10) (by omega) c z
   ·rw[xJ.mp z,dc _ (vw m (by decide))];have:=vw m (show 0<10 by decide);omega
theorem zMh:∀(k m:Nat),1<=k->m<10 ^ k->1<=(dg m).length/\(dg m).length<=k
 | 0,m,h,_=>by omega
 | 1,m,_,h=>by rw[zMg (by simpa using h)];simp
 | k+2,m,_,h=>by
  by_cases c:m<10
  ·rw[zMg c];simp
  ·rw[zLk (by omega),xI]
   have:=zMh (k+1) (m / 10) (by omega) (by rw[Nat.div_lt_iff_lt_mul (by decide)];rw[Nat.pow_succ]at h;exact h)
   simp;omega
theorem zPa (m:Nat):∃c r,dg m=c::r/\(m=0->r=[]/\c=48)/\(m≠0->c≠48):=by
 induction m using Nat.strongRecOn with
 | _ m ih=>
  by_cases h:m<10
  ·refine⟨_,[],zMg h,fun z=>⟨rfl,by rw[z];rfl⟩,fun z=>by rw[dc m h];omega⟩
  ·obtain⟨c,r,e,_,h2⟩:=ih (m / 10) (by omega)
   exact⟨c,r++[_],by rw[zLk (by omega),e];rfl,fun z=>by omega,fun _=>h2 (by omega)⟩
noncomputable def nm (n:Int):List Nat:=if n<0 then 45::dg n.natAbs else dg n.natAbs
theorem zR9 (n:Int):ls (Str.ofString (toString n))=nm n:=by
 cases n with
 | ofNat m=>
  have:nm (Int.ofNat m)=dg m:=by unfold nm;rw[xg (by simp)];rfl
  rw[this];exact PySem.W.KIN.signs_num m
 | negSucc m=>
  have e0:nm (Int.negSucc m)=45::dg (m+1):=by unfold nm;rw[xc (Int.negSucc_lt_zero m)];rfl
  rw[e0]
  show(Str.ofString ("-"++Nat.repr (m+1))).cps.toList=_
  rw[PyProof.Rows.signs_ofString,String.toList_append,vU]
  unfold dg
  rw[Nat.toList_repr]
  rfl
end TX
namespace L2
open PySem PySem.Spec PyProof.Rows TS
section
variable {X:Cx}{K:PySem.W.Frag}
theorem zL5 (z:Str) (n:Nat) (tk:Tok):slicePicked z (some ((n:Int),tk)) none none=(List.range (z.length-n)).map fun k=>n+k:=by
 unfold slicePicked Builtin.Str.strSliceIndices
 simp only[uk,Option.map_none,Option.getD_none]
 rw[xc (by decide),xg (by nofun),xc (by decide)]
 unfold sliceRange
 rw[xc (by decide)]
 rcases Nat.lt_or_ge n z.length with c|c
 ·have e1:max (0:Int) (min (n:Int) (z.length:Int))=n:=by nofun
  rw[e1,xc (by nofun)]
  have e2:(((z.length:Int)-n+1-1) / 1).toNat=z.length-n:=by nofun
  dsimp only
  rw[e2]
  refine List.map_congr_left fun k _=>?_
  lia
 ·have e1:max (0:Int) (min (n:Int) (z.length:Int))=z.length:=by nofun
  rw[e1,xg (by nofun)]
  rw[show z.length-n=0 by nofun]
  rfl
theorem zO4 (z:Str) (n:Nat):(((List.range (z.length-n)).map fun k=>n+k).filterMap (z.cps[·]?))=z.cps.toList.drop n:=by
 rw[List.filterMap_map]
 refine List.ext_getElem? fun i=>?_
 rw[List.getElem?_drop]
 have e:∀(m:Nat),m<=z.length-n->(List.range m).filterMap ((fun x=>z.cps[x]?) ∘ fun k=>n+k)=(z.cps.toList.drop n).take m:=fun m=>by
  induction m with
  | zero=>intro _;simp
  | succ m ih=>
   intro hm
   have hz:n+m<z.cps.size:=by have:z.length=z.cps.size:=rfl;lia
   rw[List.range_succ,List.filterMap_append,ih (by nofun),List.take_succ]
   congr 1
   simp[hz]
 rw[e _ (xh _),v8 (by simp[Str.length]),List.getElem?_drop]
noncomputable def rSlS:V->Option Int->Option Int->Hp->VK->Prop:=fun x lo hi H Q=>∃(z:Str) (n:Nat),x=.str z/\lo=some (n:Int)/\hi=none/\z.length<=100000/\Q (.str ⟨(z.cps.toList.drop n).toArray⟩) H
theorem zVo:SlR X rSlS:=by
 intro pins s σ H x v vl vu lo hi sl Q I rx hs pl pu h
 obtain⟨z,n,rfl,rfl,rfl,hz,q⟩:=h
 obtain⟨t,rfl⟩:=rx
 cases pu
 obtain⟨tk,rfl⟩:∃tk,vl=.int n tk:=by cases pl with|int i tk=>exact⟨tk,rfl⟩
 refine⟨"str",_,PySem.F.slot_str_getitem.lookup,typeIs_str s z t,wpAny_getItem_str_slice (l:=some ((n:Int),tk)) (u:=none) (st:=none) hs rfl ?_⟩
 unfold sliceMade
 rw[zL5,zO4]
 split
 ·rename_i c
  have e:z.cps.toList.drop n=z.cps.toList:=by
   simp only[xF,beq_iff_eq,xm,vk]at c
   rcases Nat.eq_zero_or_pos n with h0|h0
   ·rw[h0];rfl
   ·have:z.length=0:=by nofun
    have:z.cps.toList=[]:=List.length_eq_zero_iff.mp (by simpa[Str.length]using this)
    rw[this];simp
  rw[e]at q
  exact⟨.str _,H,I,⟨t,rfl⟩,q⟩
 ·refine⟨?_,⟨.str _,H,I.tok _,⟨_,rfl⟩,q⟩⟩
  show((z.cps.toList.drop n).toArray).size<=_
  rw[vP]
  simp
  have:z.length=z.cps.size:=rfl
  lia
theorem ss_never {st:Stmt}:SS X st (fun _ _ _=>False):=⟨fun _ _ _ _ _ _ h=>h.elim⟩
theorem zBy {x:Str}{v:V}{u:Value}{pos:Pos}(hg:Gl X x) (hm:X.mg x=some u) (r:RelV v u) (hd:(x == ("__debug__":Str))=false:=by decide):SE X (.Name x pos) (tC v):=⟨zU4 hg hm r hd⟩
variable {σ:St}{H:Hp}{Q:VK}
end
end L2
namespace TX
open PySem PySem.Builtin PySem.Builtin.Str TS L2
noncomputable def tn (n:Int):Str:=Str.ofString (toString n)
noncomputable abbrev sC:Str:=Str.ofString ","
noncomputable abbrev sB:Str:=Str.ofString " "
noncomputable abbrev sM:Str:=Str.ofString "-"
theorem eC:sC=⟨#[44]⟩:=by rfl
theorem eB:sB=⟨#[32]⟩:=by rfl
theorem eM:sM=⟨#[45]⟩:=by rfl
noncomputable def wd (p:Int × Int):Str:=Txt.join sC [tn p.1,tn p.2]
theorem zHl {n:Int}{c:Nat}(h:c∈nm n):c=45\/(48<=c/\c<=57):=by
 unfold nm at h
 split at h
 ·rcases xi.mp h with z|z
  ·exact .inl z
  ·exact .inr (zGi _ c z)
 ·exact .inr (zGi _ c h)
theorem zG2 (n:Int):ls (tn n)=nm n:=zR9 n
theorem zRe (p:Int × Int):ls (wd p)=nm p.1++44::nm p.2:=by
 unfold wd Txt.join
 rw[eC,zFo]
 simp[jn,zG2]
theorem zIt {p:Int × Int}{c:Nat}(h:c∈ls (wd p)):c=44\/c=45\/(48<=c/\c<=57):=by
 rw[zRe]at h
 rcases xT.mp h with z|z
 ·exact .inr (zHl z)
 ·rcases xi.mp z with z|z
  ·exact .inl z
  ·exact .inr (zHl z)
theorem zQb (p:Int × Int):Txt.split (wd p) sC=[tn p.1,tn p.2]:=by
 rw[eC]
 refine zDx (by rw[zRe];simp[jn,zG2]) fun q hq=>?_
 have:∀n:Int,44 ∉ ls (tn n):=fun n h=>by rw[zG2]at h;have:=zHl h;omega
 rcases xi.mp hq with rfl|hq
 ·exact this _
 ·rw[xJ.mp hq];exact this _
theorem zE9 (x:Str):x.length=(ls x).length:=by simp[Str.length]
theorem zY1 (n:Int):Txt.startswith (tn n) sM=decide (n<0):=by
 have e:=zG2 n
 obtain⟨c,r,ec,_⟩:=zPa n.natAbs
 have key:∀(z:Str) (a:Nat) (b:List Nat),ls z=a::b->Txt.startswith z sM=decide (a=45):=fun z a b h=>by
  unfold Txt.startswith
  have h1:decide (0+sM.length<=z.length)=true:=xl (by rw[zE9 z,h];show 1<=_;simp)
  rw[h1,Bool.true_and]
  unfold subAt
  have h2:z.cps.extract 0 (0+sM.length)=#[a]:=by
   apply Array.toList_inj.mp
   rw[Array.toList_extract]
   show List.take (0+1-0) (List.drop 0 (ls z))=[a]
   rw[h];rfl
  rw[h2]
  show(#[a] == (sM).cps)=_
  rw[eM]
  rw[Bool.eq_iff_iff]
  simp
 by_cases c0:n<0
 ·rw[key _ 45 (dg n.natAbs) (by rw[e];unfold nm;rw[xc c0]),xl c0];rfl
 ·have:=zGi n.natAbs c (by rw[ec];simp)
  rw[key _ c r (by rw[e];unfold nm;rw[xg c0,ec]),xq c0]
  exact xq (by omega)
noncomputable def tdg (n:Int):Str:=⟨(dg n.natAbs).toArray⟩
theorem zM6 (n:Int):ls (tdg n)=dg n.natAbs:=rfl
theorem zV5 {n:Int}(h:n<0):(⟨((tn n).cps.toList.drop 1).toArray⟩:Str)=tdg n:=by
 have e:(tn n).cps.toList=45::dg n.natAbs:=by rw[show(tn n).cps.toList=nm n from zG2 n];unfold nm;rw[xc h]
 rw[e];rfl
theorem zV4 {n:Int}(h:¬ n<0):tn n=tdg n:=zCt (by rw[zG2,zM6];unfold nm;rw[xg h])
theorem zNp (n:Int):(tdg n).cps.all (·<128)=true:=by
 rw[<- Array.all_toList]
 rw[vg]
 intro c hc
 have:=zGi n.natAbs c hc
 exact xl (by omega)
end TX
namespace DS
open PySem (Str)
inductive D where
 | non|bl (b:Bool)|int (i:Int)|str (x:Str)|ty (n:String)
 | tup (l:List D)|ktup (l:List D)|lst (l:List D)|klst (l:List D)|dct (t:Bool) (ks vs:List D)|st (l:List D)
 | ref (n:Nat)
noncomputable abbrev Store:=List D
noncomputable abbrev Env:=List (Option D)
structure Exn where
 cls:Str
 fs:List (Str × D)
inductive Rs (α:Type) where
 | ok (a:α) (S:Store)|ex (x:Exn) (S:Store)|bad
inductive SR where
 | nx (e:Env) (S:Store)|rt (d:D) (S:Store)|bk (e:Env) (S:Store)|ct (e:Env) (S:Store)|ex (x:Exn) (S:Store)|bad
noncomputable def Rs.bind {α β:Type}(r:Rs α) (k:α->Store->Rs β):Rs β:=match r with
 | .ok a S=>k a S
 | .ex x S=>.ex x S
 | .bad=>.bad
@[simp] theorem Rs.bind_ok {α β:Type}{a:α}{S:Store}{k:α->Store->Rs β}:(Rs.ok a S).bind k=k a S:=rfl
@[simp] theorem Rs.bind_ex {α β:Type}{x:Exn}{S:Store}{k:α->Store->Rs β}:(Rs.ex x S:Rs α).bind k=.ex x S:=rfl
@[simp] theorem Rs.bind_bad {α β:Type}{k:α->Store->Rs β}:(Rs.bad:Rs α).bind k=.bad:=rfl
noncomputable def Rs.then {α:Type}(r:Rs α) (k:α->Store->SR):SR:=match r with
 | .ok a S=>k a S
 | .ex x S=>.ex x S
 | .bad=>.bad
@[simp] theorem Rs.then_ok {α:Type}{a:α}{S:Store}{k:α->Store->SR}:(Rs.ok a S).then k=k a S:=rfl
@[simp] theorem Rs.then_ex {α:Type}{x:Exn}{S:Store}{k:α->Store->SR}:(Rs.ex x S:Rs α).then k=.ex x S:=rfl
@[simp] theorem Rs.then_bad {α:Type}{k:α->Store->SR}:(Rs.bad:Rs α).then k=.bad:=rfl
noncomputable def lift {α:Type}(o:Option α) (S:Store):Rs α:=match o with
 | some a=>.ok a S
 | none=>.bad
@[simp] theorem zK8 {α:Type}{a:α}{S:Store}:lift (some a) S=.ok a S:=rfl
@[simp] theorem zX5 {α:Type}{S:Store}:lift (none:Option α) S=.bad:=rfl
noncomputable def zUi {α:Type}(o:Option (α × Store)):Rs α:=match o with
 | some a=>.ok a.1 a.2
 | none=>.bad
@[simp] theorem zN7 {α:Type}{a:α × Store}:zUi (some a)=.ok a.1 a.2:=rfl
@[simp] theorem zVc {α:Type}:zUi (none:Option (α × Store))=.bad:=rfl
mutual
/-- all refs are below n -/
noncomputable def D.low (n:Nat):D->Bool
 | .ref m=>decide (m<n)
 | .tup l=>lowL n l
 | .lst l=>lowL n l
 | .ktup l=>lowL n l
 | .klst l=>lowL n l
 | .dct _ ks vs=>lowL n ks && lowL n vs
 | .st l=>lowL n l
 | .non=>true
 | .bl _=>true
 | .int _=>true
 | .str _=>true
 | .ty _=>true
noncomputable def lowL (n:Nat):List D->Bool
 | []=>true
 | d::r=>d.low n && lowL n r
end
mutual
/-- they may be compared: of one kind wherever == looks;no refs -/
noncomputable def D.cmp:D->D->Bool
 | .non,.non=>true
 | .bl _,.bl _=>true
 | .int _,.int _=>true
 | .str _,.str _=>true
 | .tup a,.tup b=>cmpL a b
 | .lst a,.lst b=>cmpL a b
 | _,_=>false
noncomputable def cmpL:List D->List D->Bool
 | a::r,b::t=>a.cmp b && cmpL r t
 | _,_=>true
end
noncomputable section
open Classical
noncomputable def look (S:Store):D->Option D
 | .ref n=>S[n]?
 | .ktup l=>some (.tup l)
 | .klst l=>some (.lst l)
 | d=>some d
noncomputable def items (S:Store) (d:D):Option (List D):=match look S d with
 | some (.tup l)=>some l
 | some (.lst l)=>some l
 | _=>none
noncomputable def litems (S:Store) (d:D):Option (List D):=match d with
 | .klst _=>none
 | d=>match look S d with
  | some (.lst l)=>some l
  | _=>none
noncomputable abbrev EM:=Env->Store->Rs D
noncomputable abbrev TM:=Env->Store->Rs Bool
noncomputable abbrev AM:=Env->Store->Rs (List D)
noncomputable abbrev SM:=Env->Store->SR
noncomputable abbrev GM:=Store->D->Env->Option Env
noncomputable abbrev Fn:=List D->Store->Rs D
noncomputable def eVar (i:Nat):EM:=fun env S=>match env[i]? with
 | some (some d)=>.ok d S
 | _=>.bad
noncomputable def eC (d:D):EM:=fun _ S=>.ok d S
noncomputable def eOp (g:Store->D->D->Option D) (a b:EM):EM:=fun env S=>(a env S).bind fun x S1=>(b env S1).bind fun y S2=>lift (g S2 x y) S2
noncomputable def eUn (g:Store->D->Option D) (a:EM):EM:=fun env S=>(a env S).bind fun x S1=>lift (g S1 x) S1
noncomputable def aNil:AM:=fun _ S=>.ok [] S
noncomputable def zA0 (a:EM) (r:AM):AM:=fun env S=>(a env S).bind fun x S1=>(r env S1).bind fun xs S2=>.ok (x::xs) S2
noncomputable def eTup (a:AM):EM:=fun env S=>(a env S).bind fun xs S1=>.ok (.tup xs) S1
noncomputable def eLst (a:AM):EM:=fun env S=>(a env S).bind fun xs S1=>.ok (.lst xs) S1
noncomputable def eNew (a:EM):EM:=fun env S=>(a env S).bind fun x S1=>.ok (.ref S1.length) (S1++[x])
noncomputable def eCB (g:Store->List D->Option D) (a:AM):EM:=fun env S=>(a env S).bind fun xs S1=>lift (g S1 xs) S1
noncomputable def zA7 (F:Fn) (a:AM):EM:=fun env S=>(a env S).bind fun xs S1=>F xs S1
noncomputable def tyD (S:Store) (d:D):Option String:=match look S d with
 | some (.str _)=>some "str"
 | some (.lst _)=>some "list"
 | some (.dct _ _ _)=>some "dict"
 | some (.tup _)=>some "tuple"
 | some (.int _)=>some "int"
 | some (.bl _)=>some "bool"
 | some .non=>some "NoneType"
 | some (.st _)=>some "set"
 | _=>none
noncomputable def eMt (T:String) (g:Store->D->List D->Option (D × Store)) (o:EM) (a:AM):EM:=fun env S=>(o env S).bind fun x S1=>if tyD S1 x=some T then(a env S1).bind fun xs S2=>zUi (g S2 x xs)else .bad
noncomputable def asI:D->Option Int
 | .int i=>some i
 | _=>none
noncomputable def pNo:Env->Store->Rs (Option Int):=fun _ S=>.ok none S
noncomputable def pYes (a:EM):Env->Store->Rs (Option Int):=fun env S=>(a env S).bind fun x S1=>lift ((asI x).map some) S1
noncomputable def eSl (g:Store->D->Option Int->Option Int->Option D) (a:EM) (lo hi:Env->Store->Rs (Option Int)):EM:=fun env S=>
 (a env S).bind fun x S1=>(lo env S1).bind fun l S2=>(hi env S2).bind fun h S3=>lift (g S3 x l h) S3
noncomputable def asB:D->Option Bool
 | .bl b=>some b
 | _=>none
noncomputable def tB (a:EM):TM:=fun env S=>(a env S).bind fun x S1=>lift (asB x) S1
noncomputable def most:Nat:=2 ^ 24
noncomputable def truth (S:Store) (d:D):Option Bool:=match look S d with
 | some (.bl b)=>some b
 | some (.int i)=>some (decide (i≠0))
 | some (.str x)=>if x.length<=most then some (decide (x.length≠0))else none
 | some (.tup l)=>some (decide (l≠[]))
 | some (.lst l)=>some (decide (l≠[]))
 | some .non=>some false
 | _=>none
noncomputable def tTru (a:EM):TM:=fun env S=>(a env S).bind fun x S1=>lift (truth S1 x) S1
noncomputable def tAnd (a b:TM):TM:=fun env S=>(a env S).bind fun c S1=>if c=true then b env S1 else .ok false S1
noncomputable def tOr (a b:TM):TM:=fun env S=>(a env S).bind fun c S1=>if c=true then .ok true S1 else b env S1
noncomputable def tNot (a:TM):TM:=fun env S=>(a env S).bind fun c S1=>.ok (!c) S1
noncomputable def tYes:TM:=fun _ S=>.ok true S
noncomputable def eAnd (a b:EM):EM:=fun env S=>(a env S).bind fun x S1=>(lift (asB x) S1).bind fun c S1=>if c=true then b env S1 else .ok (.bl false) S1
noncomputable def eOr (a b:EM):EM:=fun env S=>(a env S).bind fun x S1=>(lift (asB x) S1).bind fun c S1=>if c=true then .ok (.bl true) S1 else b env S1
noncomputable def eNot (a:EM):EM:=fun env S=>(a env S).bind fun x S1=>(lift (asB x) S1).bind fun c S1=>.ok (.bl (!c)) S1
noncomputable def eIf (c:TM) (a b:EM):EM:=fun env S=>(c env S).bind fun k S1=>if k=true then a env S1 else b env S1
noncomputable def zF3 (g g':Store->D->D->Option D) (a b c:EM):EM:=fun env S=>(a env S).bind fun x S1=>(b env S1).bind fun y S2=>(lift (g S2 x y) S2).bind fun z S3=>(lift (asB z) S3).bind fun k S3=>
 if k=true then(c env S3).bind fun w S4=>lift (g' S4 y w) S4 else .ok (.bl false) S3
structure Walk where
 its:List D
 gd:List (Nat × D)
noncomputable def gOk (S:Store) (gd:List (Nat × D)):Prop:=∀p∈gd,S[p.1]?=some p.2
noncomputable abbrev IM:=Env->Store->Rs Walk
noncomputable def gdOf (S:Store):D->List (Nat × D)
 | .ref n=>match S[n]? with
  | some d=>[(n,d)]
  | none=>[]
 | _=>[]
noncomputable def chars (x:Str):List D:=x.cps.toList.map fun c=>.str ⟨#[c]⟩
noncomputable def zFl (S:Store) (d:D):Option Walk:=match look S d with
 | some (.tup l)=>some ⟨l,gdOf S d⟩
 | some (.lst l)=>some ⟨l,gdOf S d⟩
 | some (.str x)=>if x.cps.all (·<128)then some ⟨chars x,[]⟩else none
 | _=>none
noncomputable def iVal (a:EM):IM:=fun env S=>(a env S).bind fun x S1=>lift (zFl S1 x) S1
noncomputable def fits62 (i:Int):Bool:=decide (-(2 ^ 62)<=i/\i<2 ^ 62)
noncomputable def zIf (i j:Int):List D:=(List.range (j-i).toNat).map fun(k:Nat)=>.int (i+k)
noncomputable def zJ1:List D->Option Walk
 | [.int j]=>if fits62 j then some ⟨zIf 0 j,[]⟩else none
 | [.int i,.int j]=>if fits62 i && fits62 j then some ⟨zIf i j,[]⟩else none
 | _=>none
noncomputable def zF2 (a:AM):IM:=fun env S=>(a env S).bind fun xs S1=>lift (zJ1 xs) S1
noncomputable def zGy (l:List D) (n:Nat):List D:=match l with
 | []=>[]
 | d::r=>.tup [.int n,d]::zGy r (n+1)
noncomputable def gName (i:Nat):GM:=fun _ d env=>some (env.set i (some d))
noncomputable def gAll:List GM->Store->List D->Env->Option Env
 | [],_,[],env=>some env
 | g::gs,S,d::ds,env=>match g S d env with
  | some env'=>gAll gs S ds env'
  | none=>none
 | _,_,_,_=>none
noncomputable def gTup (gs:List GM):GM:=fun S d env=>match items S d with
 | some l=>gAll gs S l env
 | none=>none
noncomputable def zG6 (gd:List (Nat × D)) (g:GM) (c:TM) (e:EM):Nat->List D->Env->Store->Rs (List D)
 | _,[],_,S=>if gOk S gd then .ok [] S else .bad
 | k,d::r,env,S=>if gOk S gd/\k<most then(match g S d env with
  | some env'=>(c env' S).bind fun b S1=>if b=true then(e env' S1).bind fun v S2=>(zG6 gd g c e (k+1) r env' S2).bind fun vs S3=>.ok (v::vs) S3 else zG6 gd g c e k r env' S1
  | none=>.bad)else .bad
noncomputable def compEnv (own:Nat) (ix:List Nat) (env:Env):Env:=List.replicate own none++ix.map fun i=>(env[i]?).join
noncomputable def zAl (own:Nat) (ix:List Nat) (i:IM) (g:GM) (c:TM) (e:EM):EM:=fun env S=>
 (i env S).bind fun w S1=>(zG6 w.gd g c e 0 w.its (compEnv own ix env) S1).bind fun vs S2=>.ok (.lst vs) S2
noncomputable def zB7:SM:=fun env S=>.nx env S
noncomputable def zGb:SM:=fun _ _=>.bad
noncomputable def sSeq (a b:SM):SM:=fun env S=>match a env S with
 | .nx e S1=>b e S1
 | r=>r
noncomputable def sSet (i:Nat) (e:EM):SM:=fun env S=>(e env S).then fun d S1=>.nx (env.set i (some d)) S1
noncomputable def sUnp (g:GM) (e:EM):SM:=fun env S=>(e env S).then fun d S1=>match g S1 d env with
 | some env'=>.nx env' S1
 | none=>.bad
noncomputable def zMy (e:EM):SM:=fun env S=>(e env S).then fun _ S1=>.nx env S1
noncomputable def sRet (e:EM):SM:=fun env S=>(e env S).then fun d S1=>.rt d S1
noncomputable def zY3:SM:=fun _ S=>.rt .non S
noncomputable def sIf (c:TM) (a b:SM):SM:=fun env S=>(c env S).then fun k S1=>if k=true then a env S1 else b env S1
noncomputable def zNv:List Nat->List D->Env->Option Env
 | [],[],env=>some env
 | i::is,d::ds,env=>zNv is ds (env.set i (some d))
 | _,_,_=>none
noncomputable def sPar (is:List Nat) (a:AM):SM:=fun env S=>(a env S).then fun ds S1=>match zNv is ds env with
 | some env'=>.nx env' S1
 | none=>.bad
noncomputable def sPut (g:Store->D->D->D->Option Store) (o i v:EM):SM:=fun env S=>(v env S).then fun y S1=>(o env S1).then fun x S2=>(i env S2).then fun k S3=>match g S3 x k y with
 | some S4=>.nx env S4
 | none=>.bad
noncomputable def forL (gd:List (Nat × D)) (g:GM) (b:SM):List D->Env->Store->SR
 | [],env,S=>if gOk S gd then .nx env S else .bad
 | d::r,env,S=>if gOk S gd then(match g S d env with
  | some env'=>(match b env' S with
   | .nx e S1=>forL gd g b r e S1
   | .ct e S1=>forL gd g b r e S1
   | .bk e S1=>.nx e S1
   | q=>q)
  | none=>.bad)else .bad
noncomputable def sFor (i:IM) (g:GM) (b:SM):SM:=fun env S=>(i env S).then fun w S1=>forL w.gd g b w.its env S1
noncomputable def zBl (c:TM) (b:SM):Nat->Env->Store->SR
 | 0,_,_=>.bad
 | n+1,env,S=>(c env S).then fun k S1=>if k=true then(match b env S1 with
   | .nx e S2=>zBl c b n e S2
   | .ct e S2=>zBl c b n e S2
   | .bk e S2=>.nx e S2
   | q=>q)else .nx env S1
noncomputable def zDr (c:TM) (b:SM):SM:=fun env S=>if h:∃n,zBl c b n env S≠.bad then zBl c b (choose h) env S else .bad
theorem zCm {c:TM}{b:SM}:∀{n:Nat}{env:Env}{S:Store},zBl c b n env S≠.bad->∀m,n<=m->zBl c b m env S=zBl c b n env S
 | 0,_,_,h,_,_=>absurd rfl h
 | n+1,env,S,h,m,hm=>by
  obtain⟨m,rfl⟩:∃k,m=k+1:=⟨m-1,by nofun⟩
  unfold zBl at h ⊢
  cases hc:c env S with
  | ok k S1=>
   rw[hc]at h
   simp only[Rs.then_ok]at h ⊢
   by_cases hk:k=true
   ·rw[xc hk]at h ⊢
    rw[xc hk]
    cases hb:b env S1 with
    | nx e S2=>rw[hb]at h;exact zCm h m (by nofun)
    | ct e S2=>rw[hb]at h;exact zCm h m (by nofun)
    | _=>rfl
   ·rw[xg hk,xg hk]
  | ex x S1=>rfl
  | bad=>rfl
theorem zNy {c:TM}{b:SM}{n:Nat}{env:Env}{S:Store}(h:zBl c b n env S≠.bad):zDr c b env S=zBl c b n env S:=by
 unfold zDr
 have hx:∃n,zBl c b n env S≠.bad:=⟨n,h⟩
 rw[dif_pos hx]
 have h1:=choose_spec hx
 rw[<- zCm h1 (max (choose hx) n) (Nat.le_max_left _ _),<- zCm h (max (choose hx) n) (Nat.le_max_right _ _)]
noncomputable def keeps (n:Nat):Store->Store->Prop
 | [],_=>True
 | a::r,b::t=>(a=b\/b.low n=true)/\keeps n r t
 | _::_,[]=>False
noncomputable def fin (S:Store) (d:D) (S':Store):Rs D:=
 if keeps S.length S S' then
  if d.low S.length=true then .ok d (S'.take S.length)
  else match d with
   | .ref n=>match S'[n]? with
    | some c=>if c.low S.length=true then .ok c (S'.take S.length)else .ok d S'
    | none=>.bad
   | _=>.ok d S'
 else .ok d S'
noncomputable def zB1 (np nl:Nat) (b:SM):Fn:=fun ds S=>if ds.length=np then
  (match b (ds.map some++List.replicate (nl-np) none) S with
  | .nx _ S'=>fin S .non S'
  | .rt d S'=>fin S d S'
  | .ex x S'=>.ex x S'
  | _=>.bad)
 else .bad
noncomputable def zJl (np nl:Nat) (b:SM):Fn:=fun ds S=>if ds.length=np then
  (match b (ds.map some++List.replicate (nl-np) none) S with
  | .nx _ S'=>.ok .non S'
  | .rt d S'=>.ok d S'
  | .ex x S'=>.ex x S'
  | _=>.bad)
 else .bad
end
end DS
namespace L2
open PySem PySem.Spec PyProof.Rows
open DS (D Store Exn Rs SR)
noncomputable abbrev Js:=List Addr
noncomputable def TAt (K:PySem.W.Frag) (J:Js) (H:Hp) (a:Addr) (xs:List V):Prop:=H a=some (.tup xs)/\a ∉ J
noncomputable def KAt (K:PySem.W.Frag) (a:Addr) (xs:List V):Prop:=∃(o:Obj) (its:Array Value) (n:Nat),K.lookup a=some o/\o.cls=.type "tuple"/\o.data=.seq its n/\its.size<=sizeLine/\Vals xs its.toList
noncomputable def LAt (K:PySem.W.Frag) (J:Js) (H:Hp) (a:Addr) (xs:List V):Prop:=H a=some (.lst xs)/\a ∉ J
noncomputable def SAt (K:PySem.W.Frag) (J:Js) (H:Hp) (a:Addr) (xs:List V):Prop:=
 (Rd H a (.lst xs)/\a ∉ J)\/∃(o:Obj) (its:Array Value) (n:Nat),K.lookup a=some o/\o.cls=.type "list"/\o.dict=none/\o.data=.seq its n/\its.size<=sizeLine/\Vals xs its.toList
noncomputable def keyD:Key->D
 | .inl i=>.int i
 | .inr x=>.str x
noncomputable def zNo (k:List Key):D:=.tup (k.map keyD)
noncomputable def DOb (o:HO) (t:Bool) (ks:List D) (xs:List V):Prop:=
 (t=false/\∃kvs:List (Key × V),o=.dK kvs/\ks=kvs.map (fun p=>keyD p.1)/\xs=kvs.map (·.2)) \/
  (t=true/\∃kvs:List (List Key × V),o=.dT kvs/\ks=kvs.map (fun p=>zNo p.1)/\xs=kvs.map (·.2))
mutual
noncomputable def Rep (K:PySem.W.Frag) (J:Js) (H:Hp):D->V->Prop
 | .non,v=>v=.non
 | .bl b,v=>v=.bl b
 | .int i,v=>v=.int i
 | .str x,v=>v=.str x
 | .ty n,v=>v=.ty n
 | .tup ds,v=>∃a xs,v=.ref a/\TAt K J H a xs/\RepL K J H ds xs
 | .lst ds,v=>∃a xs,v=.ref a/\LAt K J H a xs/\RepL K J H ds xs
 | .ktup ds,v=>∃a xs,v=.ref a/\KAt K a xs/\RepL K J H ds xs
 | .klst ds,v=>∃a xs,v=.ref a/\SAt K J H a xs/\RepL K J H ds xs
 | .dct t ks vs,v=>∃a o xs,v=.ref a/\a ∉ J/\H a=some o/\DOb o t ks xs/\RepL K J H vs xs
 | .st _,_=>False
 | .ref n,v=>∃a,J[n]?=some a/\v=.ref a
noncomputable def RepL (K:PySem.W.Frag) (J:Js) (H:Hp):List D->List V->Prop
 | [],xs=>xs=[]
 | d::ds,xs=>∃x r,xs=x::r/\Rep K J H d x/\RepL K J H ds r
end
noncomputable def ObD (K:PySem.W.Frag) (J:Js) (H:Hp):D->HO->Prop
 | .lst ds,o=>∃xs,o=.lst xs/\RepL K J H ds xs
 | .dct t ks vs,o=>∃xs,DOb o t ks xs/\RepL K J H vs xs
 | _,_=>False
noncomputable def RepO (K:PySem.W.Frag) (J:Js) (H:Hp) (d:D) (a:Addr):Prop:=∃o,H a=some o/\ObD K J H d o
structure AbS (K:PySem.W.Frag) (J:Js) (S:Store) (H:Hp):Prop where
 len:J.length=S.length
 nd:J.Nodup
 ob:∀(i:Nat) (a:Addr) (d:D),J[i]?=some a->S[i]?=some d->RepO K J H d a
structure Grow (J:Js) (H:Hp) (J':Js) (H':Hp):Prop where
 pre:∀(i:Nat) (a:Addr),J[i]?=some a->J'[i]?=some a
 new:∀a∈J',a ∉ J->H a=none
 keep:∀b o,b ∉ J->H b=some o->H' b=some o
 dom:∀b,H' b=none->H b=none
structure RepE (K:PySem.W.Frag) (J:Js) (H:Hp) (env:DS.Env) (σ:St):Prop where
 len:env.length=σ.length
 get:∀(i:Nat) (d:D),env[i]?=some (some d)->∃v,σ[i]?=some (some v)/\Rep K J H d v
section
variable {K:PySem.W.Frag}{J J' J1 J2:Js}{H H' H1 H2:Hp}{a:Addr}{d:D}{v:V}{S S':Store}{env:DS.Env}{σ:St}
theorem Grow.refl:Grow J H J H:=⟨fun _ _ h=>h,fun _ h n=>absurd h n,fun _ _ _ h=>h,fun _ h=>h⟩
theorem Grow.trans (g:Grow J H J1 H1) (k:Grow J1 H1 J2 H2):Grow J H J2 H2 where
 pre:=fun i a h=>k.pre i a (g.pre i a h)
 new:=fun a h n=>by
  by_cases z:a∈J1
  ·exact g.new a z n
  ·exact g.dom a (k.new a h z)
 keep:=fun b o n h=>k.keep b o (fun z=>by rw[g.new b z n]at h;cases h) (g.keep b o n h)
 dom:=fun b h=>g.dom b (k.dom b h)
theorem Grow.out {o:HO}(g:Grow J H J' H') (n:a ∉ J) (h:H a=some o):a ∉ J':=fun z=>by rw[g.new a z n]at h;cases h
theorem Grow.rd {u:HO}(g:Grow J H J' H') (n:a ∉ J) (h:Rd H a u):Rd H' a u/\a ∉ J':=by
 rcases h with h|⟨o,h⟩
 ·exact⟨.inl (g.keep _ _ n h),g.out n h⟩
 ·exact⟨.inr ⟨o,g.keep _ _ n h⟩,g.out n h⟩
theorem TAt.sq {xs:List V}(h:TAt K J H a xs):SqT K H a xs:=.inl (.inl h.1)
theorem KAt.sq {xs:List V}(h:KAt K a xs):SqT K H a xs:=.inr h
theorem LAt.sq {xs:List V}(h:LAt K J H a xs):SqL K H a xs:=.inl (.inl h.1)
theorem SAt.sq {xs:List V}(h:SAt K J H a xs):SqL K H a xs:=by
 rcases h with h|h
 ·exact .inl h.1
 ·exact .inr h
theorem SAt.grow {xs:List V}(g:Grow J H J' H') (h:SAt K J H a xs):SAt K J' H' a xs:=by
 rcases h with h|h
 ·exact .inl (g.rd h.2 h.1)
 ·exact .inr h
theorem TAt.grow {xs:List V}(g:Grow J H J' H') (h:TAt K J H a xs):TAt K J' H' a xs:=⟨g.keep _ _ h.2 h.1,g.out h.2 h.1⟩
theorem LAt.grow {xs:List V}(g:Grow J H J' H') (h:LAt K J H a xs):LAt K J' H' a xs:=⟨g.keep _ _ h.2 h.1,g.out h.2 h.1⟩
mutual
theorem Rep.grow (g:Grow J H J' H'):∀(d:D) (v:V),Rep K J H d v->Rep K J' H' d v
 | .non,_,h=>h
 | .bl _,_,h=>h
 | .int _,_,h=>h
 | .str _,_,h=>h
 | .ty _,_,h=>h
 | .tup ds,v,⟨a,xs,e,t,r⟩=>⟨a,xs,e,t.grow g,RepL.grow g ds xs r⟩
 | .lst ds,v,⟨a,xs,e,t,r⟩=>⟨a,xs,e,t.grow g,RepL.grow g ds xs r⟩
 | .ktup ds,v,⟨a,xs,e,t,r⟩=>⟨a,xs,e,t,RepL.grow g ds xs r⟩
 | .klst ds,v,⟨a,xs,e,t,r⟩=>⟨a,xs,e,t.grow g,RepL.grow g ds xs r⟩
 | .dct _ ks vs,v,⟨a,o,xs,e,n,h,t,r⟩=>⟨a,o,xs,e,g.out n h,g.keep _ _ n h,t,RepL.grow g vs xs r⟩
 | .st _,_,h=>h
 | .ref n,v,⟨a,e,h⟩=>⟨a,g.pre n a e,h⟩
theorem RepL.grow (g:Grow J H J' H'):∀(ds:List D) (xs:List V),RepL K J H ds xs->RepL K J' H' ds xs
 | [],_,h=>h
 | d::ds,xs,⟨x,r,e,h,t⟩=>⟨x,r,e,Rep.grow g d x h,RepL.grow g ds r t⟩
end
theorem RepE.grow (g:Grow J H J' H') (h:RepE K J H env σ):RepE K J' H' env σ:=⟨h.len,fun i d e=>by
 obtain⟨v,q,r⟩:=h.get i d e
 exact⟨v,q,Rep.grow g d v r⟩⟩
theorem RepL.length:∀{ds:List D}{xs:List V},RepL K J H ds xs->ds.length=xs.length
 | [],_,h=>by cases h;rfl
 | _::ds,_,⟨x,r,e,_,t⟩=>by subst e;simp[RepL.length t]
theorem RepL.get:∀{ds:List D}{xs:List V}{i:Nat}{d:D},RepL K J H ds xs->ds[i]?=some d->∃x,xs[i]?=some x/\Rep K J H d x
 | [],_,_,_,_,e=>by simp at e
 | d::ds,_,0,_,⟨x,r,e,h,t⟩,q=>by subst e;simp at q;subst q;exact⟨x,rfl,h⟩
 | _::ds,_,i+1,d,⟨x,r,e,_,t⟩,q=>by subst e;exact RepL.get (i:=i) t (by simpa using q)
theorem RepL.get' {ds:List D}{xs:List V}{i:Nat}{x:V}(h:RepL K J H ds xs) (e:xs[i]?=some x):∃d,ds[i]?=some d/\Rep K J H d x:=by
 have hl:=h.length
 have hi:i<ds.length:=by rw[hl];exact(xK.mp e).1
 obtain⟨y,ey,r⟩:=h.get (xx hi)
 rw[e]at ey;cases ey
 exact⟨_,xx hi,r⟩
theorem RepL.append:∀{ds es:List D}{xs ys:List V},RepL K J H ds xs->RepL K J H es ys->RepL K J H (ds++es) (xs++ys)
 | [],_,_,_,h,k=>by cases h;exact k
 | d::ds,_,_,_,⟨x,r,e,h,t⟩,k=>by subst e;exact⟨x,_,rfl,h,t.append k⟩
theorem RepL.snoc {ds:List D}{xs:List V}{x:V}(h:RepL K J H ds xs) (r:Rep K J H d x):RepL K J H (ds++[d]) (xs++[x]):=h.append ⟨x,[],rfl,r,rfl⟩
theorem RepL.take:∀{ds:List D}{xs:List V}(n:Nat),RepL K J H ds xs->RepL K J H (ds.take n) (xs.take n)
 | _,_,0,_=>rfl
 | [],_,_+1,h=>by cases h;rfl
 | d::ds,_,n+1,⟨x,r,e,h,t⟩=>by subst e;exact⟨x,_,rfl,h,t.take n⟩
theorem RepL.drop:∀{ds:List D}{xs:List V}(n:Nat),RepL K J H ds xs->RepL K J H (ds.drop n) (xs.drop n)
 | _,_,0,h=>h
 | [],_,_+1,h=>by cases h;rfl
 | d::ds,_,n+1,⟨x,r,e,h,t⟩=>by subst e;exact t.drop n
theorem RepL.reverse:∀{ds:List D}{xs:List V},RepL K J H ds xs->RepL K J H ds.reverse xs.reverse
 | [],_,h=>by cases h;rfl
 | d::ds,_,⟨x,r,e,h,t⟩=>by subst e;rw[List.reverse_cons,List.reverse_cons];exact t.reverse.snoc h
theorem RepL.set:∀{ds:List D}{xs:List V}{x:V}(n:Nat),RepL K J H ds xs->Rep K J H d x->RepL K J H (ds.set n d) (xs.set n x)
 | [],_,_,_,h,_=>by cases h;rfl
 | _::ds,_,_,0,⟨y,r,e,_,t⟩,k=>by subst e;exact⟨_,_,rfl,k,t⟩
 | _::ds,_,_,n+1,⟨y,r,e,h,t⟩,k=>by subst e;exact⟨_,_,rfl,h,RepL.set n t k⟩
theorem RepL.dropLast {ds:List D}{xs:List V}(h:RepL K J H ds xs):RepL K J H ds.dropLast xs.dropLast:=by
 rw[List.dropLast_eq_take,List.dropLast_eq_take,h.length];exact h.take _
theorem RepL.ints:∀{ns:List Int},RepL K J H (ns.map D.int) (ns.map V.int)
 | []=>rfl
 | n::ns=>⟨_,_,rfl,rfl,RepL.ints⟩
theorem AbS.lt (h:AbS K J S H) {n:Nat}(e:J[n]?=some a):n<S.length:=by rw[<- h.len];exact(xK.mp e).1
theorem AbS.at (h:AbS K J S H) {n:Nat}(e:J[n]?=some a):∃d,S[n]?=some d/\RepO K J H d a:=
 ⟨S[n]'(h.lt e),xx (h.lt e),h.ob n a _ e (xx (h.lt e))⟩
theorem AbS.mem (h:AbS K J S H) (m:a∈J):∃o,H a=some o:=by
 obtain⟨i,e⟩:=List.mem_iff_getElem?.mp m
 obtain⟨d,_,o,r,_⟩:=h.at e
 exact⟨o,r⟩
theorem AbS.out (h:AbS K J S H) (n:H a=none):a ∉ J:=fun m=>by
 obtain⟨o,e⟩:=h.mem m
 rw[n]at e;cases e
theorem ObD.imp {o:HO}(rl:∀ds xs,RepL K J H ds xs->RepL K J' H' ds xs):∀{d:D},ObD K J H d o->ObD K J' H' d o
 | .lst ds,⟨xs,e,r⟩=>⟨xs,e,rl _ _ r⟩
 | .dct _ ks vs,⟨xs,e,r⟩=>⟨xs,e,rl _ _ r⟩
 | .non,h=>False.elim h
 | .bl _,h=>False.elim h
 | .int _,h=>False.elim h
 | .str _,h=>False.elim h
 | .ty _,h=>False.elim h
 | .tup _,h=>False.elim h
 | .ktup _,h=>False.elim h
 | .klst _,h=>False.elim h
 | .st _,h=>False.elim h
 | .ref _,h=>False.elim h
theorem ObD.grow {o:HO}(g:Grow J H J' H') (h:ObD K J H d o):ObD K J' H' d o:=h.imp (RepL.grow g)
theorem Grow.of (k:∀b o,H b=some o->H' b=some o):Grow J H J H':=⟨fun _ _ h=>h,fun _ h n=>absurd h n,fun b o _ h=>k b o h,fun b h=>by
 cases e:H b with
 | none=>rfl
 | some o=>rw[k b o e]at h;cases h⟩
theorem AbS.more (h:AbS K J S H) (k:∀b o,H b=some o->H' b=some o):AbS K J S H':=
 ⟨h.len,h.nd,fun i a d e q=>by
  obtain⟨o,eo,r⟩:=h.ob i a d e q
  exact⟨o,k _ _ eo,r.grow (.of k)⟩⟩
theorem zH7 {p:Addr}{o:HO}(n:H p=none):∀b u,H b=some u->upd H p o b=some u:=fun b u e=>by rw[zAo (zAp e n)];exact e
theorem AbS.push {p:Addr}{o:HO}(h:AbS K J S H) (n:H p=none):AbS K J S (upd H p o):=h.more (zH7 n)
theorem Grow.push {p:Addr}{o:HO}(n:H p=none):Grow J H J (upd H p o):=.of (zH7 n)
theorem Grow.name {p:Addr}{o:HO}(n:H p=none):Grow J H (J++[p]) (upd H p o) where
 pre:=fun i a h=>by rw[vo (xK.mp h).1];exact h
 new:=fun a h z=>by
  rcases xT.mp h with h|h
  ·exact absurd h z
  ·rw[xJ.mp h];exact n
 keep:=fun b u _ e=>zH7 n b u e
 dom:=(Grow.push (J:=J) n).dom
theorem AbS.name {p:Addr}{o:HO}(h:AbS K J S H) (n:H p=none) (r:ObD K J H d o):AbS K (J++[p]) (S++[d]) (upd H p o):=by
 have hp:p ∉ J:=h.out n
 have g:Grow J H (J++[p]) (upd H p o):=.name n
 refine⟨by simp[h.len],?_,fun i a d' e q=>?_⟩
 ·refine List.nodup_append.mpr ⟨h.nd,(vR.mpr ⟨by simp,List.nodup_nil⟩),fun x hx y hy=>?_⟩
  rintro rfl
  exact hp (by rw[<- xJ.mp hy];exact hx)
 ·by_cases hi:i<J.length
  ·rw[vo hi]at e
   rw[vo (by rw[<- h.len];exact hi)]at q
   obtain⟨o',eo,r'⟩:=h.ob i a d' e q
   exact⟨o',zH7 n _ _ eo,r'.grow g⟩
  ·have hl:i=J.length:=by
    have:=(xK.mp e).1
    simp at this
    lia
   subst hl
   rw[ve (xh _)]at e
   rw[ve (by rw[h.len];exact xh _),h.len]at q
   simp at e q
   subst e q
   exact⟨o,zAt,r.grow g⟩
theorem Grow.write {n:Nat}{o:HO}(e:J[n]?=some a):Grow J H J (upd H a o) where
 pre:=fun _ _ h=>h
 new:=fun b h z=>absurd h z
 keep:=fun b u z h=>by rw[zAo (fun q=>z (by rw[q];exact vv e))];exact h
 dom:=fun b h=>by
  by_cases q:b=a
  ·subst q;rw[zAt]at h;cases h
  ·rw[zAo q]at h;exact h
theorem AbS.write {n:Nat}{o:HO}(h:AbS K J S H) (e:J[n]?=some a) (r:ObD K J H d o):AbS K J (S.set n d) (upd H a o):=by
 have g:Grow J H J (upd H a o):=.write e
 refine⟨by simp[h.len],h.nd,fun i b d' ei q=>?_⟩
 by_cases hi:i=n
 ·subst hi
  rw[e]at ei;cases ei
  rw[vW (h.lt e)]at q
  cases q
  exact⟨o,zAt,r.grow g⟩
 ·rw[vX (xB hi)]at q
  obtain⟨o',eo,r'⟩:=h.ob i b d' ei q
  have hb:b≠a:=fun z=>by
   subst z
   exact hi ((List.getElem?_inj (xK.mp ei).1 h.nd).mp (ei.trans e.symm))
  exact⟨o',by rw[zAo hb];exact eo,r'.grow g⟩
theorem lowL_iff {n:Nat}:∀{l:List D},DS.lowL n l=true <-> ∀d∈l,d.low n=true
 | []=>⟨(fun _ _ h=>nomatch h),fun _=>rfl⟩
 | d::r=>by
  show(d.low n && DS.lowL n r)=true <-> _
  rw[xF,lowL_iff (l:=r)]
  simp
theorem zM8 (n:Nat) (k:Key):(keyD k).low n=true:=by cases k <;> rfl
theorem DOb.low {o:HO}{t:Bool}{ks:List D}{xs:List V}{n:Nat}(h:DOb o t ks xs):DS.lowL n ks=true:=by
 rcases h with⟨_,kvs,_,rfl,_⟩|⟨_,kvs,_,rfl,_⟩
 ·exact lowL_iff.mpr fun d hd=>by obtain⟨p,_,rfl⟩:=xG.mp hd;exact zM8 n p.1
 ·exact lowL_iff.mpr fun d hd=>by
   obtain⟨p,_,rfl⟩:=xG.mp hd
   show DS.lowL n (p.1.map keyD)=true
   exact lowL_iff.mpr fun d hd=>by obtain⟨q,_,rfl⟩:=xG.mp hd;exact zM8 n q
mutual
theorem Rep.low:∀(d:D) (v:V),Rep K J H d v->d.low J.length=true
 | .non,_,_=>rfl
 | .bl _,_,_=>rfl
 | .int _,_,_=>rfl
 | .str _,_,_=>rfl
 | .ty _,_,_=>rfl
 | .tup ds,v,⟨a,xs,e,t,r⟩=>RepL.low ds xs r
 | .lst ds,v,⟨a,xs,e,t,r⟩=>RepL.low ds xs r
 | .ktup ds,v,⟨a,xs,e,t,r⟩=>RepL.low ds xs r
 | .klst ds,v,⟨a,xs,e,t,r⟩=>RepL.low ds xs r
 | .dct _ ks vs,v,⟨a,o,xs,e,n,h,t,r⟩=>by
  show(DS.lowL J.length ks && DS.lowL J.length vs)=true
  rw[RepL.low vs xs r,Bool.and_true]
  exact DOb.low t
 | .st _,_,h=>False.elim h
 | .ref n,v,⟨a,e,h⟩=>xl (xK.mp e).1
theorem RepL.low:∀(ds:List D) (xs:List V),RepL K J H ds xs->DS.lowL J.length ds=true
 | [],_,_=>rfl
 | d::ds,xs,⟨x,r,e,h,t⟩=>by
  show(d.low J.length && DS.lowL J.length ds)=true
  rw[Rep.low d x h,RepL.low ds r t];rfl
end
theorem ObD.low {o:HO}:∀{d:D},ObD K J H d o->d.low J.length=true
 | .lst ds,⟨xs,_,r⟩=>RepL.low ds xs r
 | .dct _ ks vs,⟨xs,t,r⟩=>by
  show(DS.lowL J.length ks && DS.lowL J.length vs)=true
  rw[RepL.low vs xs r,Bool.and_true]
  exact DOb.low t
 | .non,h=>False.elim h
 | .bl _,h=>False.elim h
 | .int _,h=>False.elim h
 | .str _,h=>False.elim h
 | .ty _,h=>False.elim h
 | .tup _,h=>False.elim h
 | .ktup _,h=>False.elim h
 | .klst _,h=>False.elim h
 | .st _,h=>False.elim h
 | .ref _,h=>False.elim h
theorem zEv {n:Nat}(h:a ∉ J):a ∉ J.take n:=fun z=>h (List.mem_of_mem_take z)
mutual
theorem Rep.cut (n:Nat):∀(d:D) (v:V),d.low n=true->Rep K J H d v->Rep K (J.take n) H d v
 | .non,_,_,h=>h
 | .bl _,_,_,h=>h
 | .int _,_,_,h=>h
 | .str _,_,_,h=>h
 | .ty _,_,_,h=>h
 | .tup ds,v,l,⟨a,xs,e,t,r⟩=>⟨a,xs,e,⟨t.1,zEv t.2⟩,RepL.cut n ds xs l r⟩
 | .ktup ds,v,l,⟨a,xs,e,t,r⟩=>⟨a,xs,e,t,RepL.cut n ds xs l r⟩
 | .klst ds,v,l,⟨a,xs,e,t,r⟩=>⟨a,xs,e,by
   rcases t with t|t
   ·exact .inl ⟨t.1,zEv t.2⟩
   ·exact .inr t,RepL.cut n ds xs l r⟩
 | .lst ds,v,l,⟨a,xs,e,t,r⟩=>⟨a,xs,e,⟨t.1,zEv t.2⟩,RepL.cut n ds xs l r⟩
 | .dct _ ks vs,v,l,⟨a,o,xs,e,q,h,t,r⟩=>⟨a,o,xs,e,zEv q,h,t,RepL.cut n vs xs (by
   have l:(DS.lowL n ks && DS.lowL n vs)=true:=l
   rw[xF]at l
   exact l.2) r⟩
 | .st _,_,_,h=>h
 | .ref m,v,l,⟨a,e,h⟩=>⟨a,by rw[vS (of_decide_eq_true l)];exact e,h⟩
theorem RepL.cut (n:Nat):∀(ds:List D) (xs:List V),DS.lowL n ds=true->RepL K J H ds xs->RepL K (J.take n) H ds xs
 | [],_,_,h=>h
 | d::ds,xs,l,⟨x,r,e,h,t⟩=>by
  have l:(d.low n && DS.lowL n ds)=true:=l
  rw[xF]at l
  exact⟨x,r,e,Rep.cut n d x l.1 h,RepL.cut n ds r l.2 t⟩
end
theorem ObD.cut {n:Nat}{o:HO}:∀{d:D},d.low n=true->ObD K J H d o->ObD K (J.take n) H d o
 | .lst ds,l,⟨xs,e,r⟩=>⟨xs,e,RepL.cut n ds xs l r⟩
 | .dct _ ks vs,l,⟨xs,t,r⟩=>⟨xs,t,RepL.cut n vs xs (by
   have l:(DS.lowL n ks && DS.lowL n vs)=true:=l
   rw[xF]at l
   exact l.2) r⟩
 | .non,_,h=>False.elim h
 | .bl _,_,h=>False.elim h
 | .int _,_,h=>False.elim h
 | .str _,_,h=>False.elim h
 | .ty _,_,h=>False.elim h
 | .tup _,_,h=>False.elim h
 | .ktup _,_,h=>False.elim h
 | .klst _,_,h=>False.elim h
 | .st _,_,h=>False.elim h
 | .ref _,_,h=>False.elim h
theorem zHn {n:Nat}:∀{S S':Store},DS.keeps n S S'->∀i,i<S.length->∃b,S'[i]?=some b/\(S[i]?=some b\/b.low n=true)
 | [],_,_,i,hi=>by simp at hi
 | a::r,[],h,_,_=>False.elim h
 | a::r,b::t,h,0,_=>⟨b,rfl,by
   rcases h.1 with e|e
   ·subst e;exact .inl rfl
   ·exact .inr e⟩
 | a::r,b::t,h,i+1,hi=>by simpa using zHn h.2 i (by simpa using hi)
theorem Grow.take (h:AbS K J S H) (g:Grow J H J' H'):J'.take S.length=J:=by
 refine List.ext_getElem? fun i=>?_
 by_cases hi:i<S.length
 ·rw[vS hi]
  have hj:i<J.length:=by rw[h.len];exact hi
  rw[xx hj]
  exact g.pre i _ (xx hj)
 ·rw[vG (by rw[vt];lia),vG (by rw[h.len];lia)]
theorem Grow.cut (g:Grow J H J' H'):Grow J H J H':=⟨fun _ _ h=>h,fun _ h n=>absurd h n,g.keep,g.dom⟩
theorem AbS.cut (h:AbS K J S H) (g:Grow J H J' H') (h':AbS K J' S' H') (k:DS.keeps S.length S S'):AbS K J (S'.take S.length) H':=by
 have e:=g.take h
 refine⟨?_,h.nd,fun i a d ei q=>?_⟩
 ·have l:∀i,i<S.length->i<S'.length:=fun i hi=>by
   obtain⟨b,eb,_⟩:=zHn k i hi
   exact(xK.mp eb).1
  rw[h.len,vt]
  by_cases z:S.length=0
  ·lia
  ·have:=l (S.length-1) (by nofun)
   lia
 ·have hi:=h.lt ei
  rw[vS hi]at q
  obtain⟨b,eb,lo⟩:=zHn k i hi
  rw[q]at eb;cases eb
  obtain⟨o,eo,r⟩:=h'.ob i a d (g.pre i a ei) q
  have low:d.low S.length=true:=by
   rcases lo with lo|lo
   ·obtain⟨o',_,r'⟩:=h.ob i a d ei lo
    have:=r'.low
    rw[h.len]at this
    exact this
   ·exact lo
  have:=r.cut low
  rw[e]at this
  exact⟨o,eo,this⟩
theorem zXn {d2:D}{S2:Store}(h:AbS K J S H) (g:Grow J H J' H') (h':AbS K J' S' H') (r:Rep K J' H' d v) (e:DS.fin S d S'=.ok d2 S2):∃J2,AbS K J2 S2 H'/\Grow J H J2 H'/\Rep K J2 H' d2 v:=by
 have ek:=g.take h
 unfold DS.fin at e
 by_cases k:DS.keeps S.length S S'
 ·rw[xc k]at e
  by_cases l:d.low S.length=true
  ·rw[xc l]at e
   cases e
   refine⟨J,h.cut g h' k,g.cut,?_⟩
   have:=Rep.cut _ _ _ l r
   rw[ek]at this
   exact this
  ·rw[xg l]at e
   cases d with
   | ref n=>
    obtain⟨a,ea,rfl⟩:=r
    obtain⟨c,ec,o,eo,rc⟩:=h'.at ea
    simp only[ec]at e
    by_cases lc:c.low S.length=true
    ·rw[xc lc]at e
     cases e
     refine⟨J,h.cut g h' k,g.cut,?_⟩
     have ha:a ∉ J:=fun z=>by
      obtain⟨i,ei⟩:=List.mem_iff_getElem?.mp z
      have hi:=h.lt ei
      have e2:=g.pre i a ei
      have:i=n:=(List.getElem?_inj (xK.mp e2).1 h'.nd).mp (e2.trans ea.symm)
      subst this
      exact l (xl hi)
     have rc2:=rc.cut lc
     rw[ek]at rc2
     cases d2 with
     | lst ds=>obtain⟨xs,rfl,rl⟩:=rc2;exact⟨a,xs,rfl,⟨eo,ha⟩,rl⟩
     | dct _ ks vs=>obtain⟨xs,t,rl⟩:=rc2;exact⟨a,o,xs,rfl,ha,eo,t,rl⟩
     | _=>exact False.elim rc2
    ·rw[xg lc]at e
     cases e
     exact⟨J',h',g,a,ea,rfl⟩
   | _=>cases e;exact⟨J',h',g,r⟩
 ·rw[xg k]at e
  cases e
  exact⟨J',h',g,r⟩
end
end L2
namespace L2
open PySem PySem.Spec PyProof.Rows
open DS (D Store Exn Rs SR)
noncomputable abbrev XE:=Exn->Store->Js->Hp->Prop
noncomputable def XE0:XE:=fun _ _ _ _=>False
noncomputable def Post {α:Type}(K:PySem.W.Frag) (E:XE) (J:Js) (H:Hp) (r:Rs α) (P:α->Store->Js->Hp->Prop):Prop:=match r with
 | .ok a S=>∀J' H',AbS K J' S H'->Grow J H J' H'->P a S J' H'
 | .ex x S=>∀J' H',AbS K J' S H'->Grow J H J' H'->E x S J' H'
 | .bad=>False
noncomputable def PostS (K:PySem.W.Frag) (E:XE) (J:Js) (H:Hp) (r:SR) (D:Ends):Prop:=match r with
 | .nx e S=>∀J' H' σ,AbS K J' S H'->Grow J H J' H'->RepE K J' H' e σ->D.nx σ H'
 | .rt d S=>∀J' H' v,AbS K J' S H'->Grow J H J' H'->Rep K J' H' d v->D.rt v H'
 | .bk e S=>∀J' H' σ,AbS K J' S H'->Grow J H J' H'->RepE K J' H' e σ->D.bk σ H'
 | .ct e S=>∀J' H' σ,AbS K J' S H'->Grow J H J' H'->RepE K J' H' e σ->D.ct σ H'
 | .ex x S=>∀J' H',AbS K J' S H'->Grow J H J' H'->E x S J' H'
 | .bad=>False
section
variable {α β:Type}{K:PySem.W.Frag}{E:XE}{J J1:Js}{H H1:Hp}{S:Store}
theorem Post.grow {r:Rs α}{P:α->Store->Js->Hp->Prop}(g:Grow J H J1 H1) (h:Post K E J H r P):Post K E J1 H1 r P:=by
 cases r with
 | ok a S=>exact fun J' H' h1 h2=>h J' H' h1 (g.trans h2)
 | ex x S=>exact fun J' H' h1 h2=>h J' H' h1 (g.trans h2)
 | bad=>exact h
theorem Post.bind {r:Rs α}{k:α->Store->Rs β}{P:β->Store->Js->Hp->Prop}(h:Post K E J H (r.bind k) P):Post K E J H r (fun a S J' H'=>Post K E J' H' (k a S) P):=by
 cases r with
 | ok a S=>exact fun J' H' _ g=>Post.grow g h
 | ex x S=>exact h
 | bad=>exact h
theorem Post.imp {r:Rs α}{P P':α->Store->Js->Hp->Prop}(h:Post K E J H r P) (k:∀a S J' H',r=.ok a S->AbS K J' S H'->Grow J H J' H'->P a S J' H'->P' a S J' H'):Post K E J H r P':=by
 cases r with
 | ok a S=>exact fun J' H' h1 h2=>k a S J' H' rfl h1 h2 (h J' H' h1 h2)
 | ex x S=>exact h
 | bad=>exact h
theorem Post.map {r:Rs α}{P P':α->Store->Js->Hp->Prop}(h:Post K E J H r P) (k:∀a S J' H',r=.ok a S->AbS K J' S H'->Grow J H J' H'->(∀J2 H2,AbS K J2 S H2->Grow J H J2 H2->P a S J2 H2)->P' a S J' H'):Post K E J H r P':=by
 cases r with
 | ok a S=>exact fun J' H' h1 h2=>k a S J' H' rfl h1 h2 h
 | ex x S=>exact h
 | bad=>exact h
theorem Post.lift {o:Option α}{P:α->Store->Js->Hp->Prop}(h:Post K E J H (DS.lift o S) P):∃a,o=some a/\∀J' H',AbS K J' S H'->Grow J H J' H'->P a S J' H':=by
 cases o with
 | some a=>exact⟨a,rfl,h⟩
 | none=>exact False.elim h
theorem PostS.grow {r:SR}{D:Ends}(g:Grow J H J1 H1) (h:PostS K E J H r D):PostS K E J1 H1 r D:=by
 cases r with
 | nx e S=>exact fun J' H' σ h1 h2=>h J' H' σ h1 (g.trans h2)
 | bk e S=>exact fun J' H' σ h1 h2=>h J' H' σ h1 (g.trans h2)
 | ct e S=>exact fun J' H' σ h1 h2=>h J' H' σ h1 (g.trans h2)
 | rt e S=>exact fun J' H' σ h1 h2=>h J' H' σ h1 (g.trans h2)
 | ex x S=>exact fun J' H' h1 h2=>h J' H' h1 (g.trans h2)
 | bad=>exact h
theorem PostS.then {r:Rs α}{k:α->Store->SR}{D:Ends}(h:PostS K E J H (r.then k) D):Post K E J H r (fun a S J' H'=>PostS K E J' H' (k a S) D):=by
 cases r with
 | ok a S=>exact fun J' H' _ g=>PostS.grow g h
 | ex x S=>exact h
 | bad=>exact h
end
section
variable (K:PySem.W.Frag) (E:XE)
noncomputable def tOf (m:DS.EM):TE:=fun σ H Q=>∃env S J,AbS K J S H/\RepE K J H env σ/\Post K E J H (m env S) (fun d _ J' H'=>∀v,Rep K J' H' d v->Q v H')
noncomputable def tOfF (m:DS.EM):TE:=fun σ H Q=>∃env S J,AbS K J S H/\RepE K J H env σ/\Post K E J H (m env S) (fun d _ J' H'=>∀p o,H' p=none->ObD K J' H' d o->Q (.ref p) (upd H' p o))
noncomputable def ttOf (m:DS.TM):TT:=fun σ H Q=>∃env S J,AbS K J S H/\RepE K J H env σ/\Post K E J H (m env S) (fun b _ _ H'=>Q b H')
noncomputable def aOf (m:DS.AM):TA:=fun σ H Q=>∃env S J,AbS K J S H/\RepE K J H env σ/\Post K E J H (m env S) (fun ds _ J' H'=>∀vs,RepL K J' H' ds vs->Q vs H')
noncomputable def tsOf (m:DS.SM):TS:=fun D σ H=>∃env S J,AbS K J S H/\RepE K J H env σ/\PostS K E J H (m env S) D
noncomputable def gOf (m:DS.GM):TG:=fun v σ H Q=>∃env S J d env',AbS K J S H/\RepE K J H env σ/\Rep K J H d v/\m S d env=some env'/\∀σ',RepE K J H env' σ'->Q σ' H
noncomputable def gsOf (m:Store->List D->DS.Env->Option DS.Env):TGs:=fun vs σ H Q=>∃env S J ds env',AbS K J S H/\RepE K J H env σ/\RepL K J H ds vs/\m S ds env=some env'/\∀σ',RepE K J H env' σ'->Q σ' H
structure ItOk (J0:Js) (H0:Hp) (w:DS.Walk) (I:It):Prop where
 go:∀(i:Nat) (H:Hp) (J:Js) (S:Store),AbS K J S H->Grow J0 H0 J H->DS.gOk S w.gd->i<w.its.length->I.go i H
 yld:∀(i:Nat) (H:Hp) (J:Js) (S:Store) (x:V) (H':Hp),AbS K J S H->Grow J0 H0 J H->DS.gOk S w.gd->I.yld i H x H'->∀d,w.its[i]?=some d->AbS K J S H'/\Grow J H J H'/\Rep K J H' d x
 stop:∀(i:Nat) (H:Hp) (J:Js) (S:Store),AbS K J S H->Grow J0 H0 J H->DS.gOk S w.gd->w.its.length<=i->I.stop i H
noncomputable def iOf (m:DS.IM):TI:=fun σ H R=>∃env S J,AbS K J S H/\RepE K J H env σ/\Post K E J H (m env S) (fun w _ J' H'=>∀I,ItOk K J' H' w I->R I H')
noncomputable def r2Of (g:Store->D->D->Option D):R2:=fun x y H Q=>∃J S d1 d2 d,AbS K J S H/\Rep K J H d1 x/\Rep K J H d2 y/\g S d1 d2=some d/\∀v H',AbS K J S H'->Grow J H J H'->Rep K J H' d v->Q v H'
noncomputable def r1Of (g:Store->D->Option D):V->Hp->VK->Prop:=fun x H Q=>∃J S d1 d,AbS K J S H/\Rep K J H d1 x/\g S d1=some d/\∀v H',AbS K J S H'->Grow J H J H'->Rep K J H' d v->Q v H'
noncomputable def cOf (g:Store->List D->Option D):List V->Hp->VK->Prop:=fun xs H Q=>∃J S ds d,AbS K J S H/\RepL K J H ds xs/\g S ds=some d/\∀v H',AbS K J S H'->Grow J H J H'->Rep K J H' d v->Q v H'
noncomputable def zY7 (g:Store->D->D->Option D):R2:=fun x y H Q=>∃J S d1 d2 d,AbS K J S H/\Rep K J H d1 x/\Rep K J H d2 y/\g S d1 d2=some d/\∀p o H',AbS K J S H'->Grow J H J H'->H' p=none->ObD K J H' d o->Q (.ref p) (upd H' p o)
noncomputable def mOf (g:Store->D->List D->Option (D × Store)):V->List V->Hp->VK->Prop:=fun x xs H Q=>∃J S d1 ds d S',AbS K J S H/\Rep K J H d1 x/\RepL K J H ds xs/\g S d1 ds=some (d,S')/\∀v H',AbS K J S' H'->Grow J H J H'->Rep K J H' d v->Q v H'
noncomputable def spOf (F:DS.Fn):Sp:=fun vs H Q _=>∃J S ds,AbS K J S H/\RepL K J H ds vs/\Post K E J H (F ds S) (fun d _ J' H'=>∀v,Rep K J' H' d v->Q v H')
end
structure DE (X:Cx) (K:PySem.W.Frag) (E:XE) (e:Expr) (m:DS.EM):Prop where h:SE X e (tOf K E m)
structure DF (X:Cx) (K:PySem.W.Frag) (E:XE) (e:Expr) (m:DS.EM):Prop where h:SE X e (tOfF K E m)
structure DT (X:Cx) (K:PySem.W.Frag) (E:XE) (e:Expr) (m:DS.TM):Prop where h:ST X e (ttOf K E m)
structure DW (X:Cx) (K:PySem.W.Frag) (E:XE) (e:Expr) (m:DS.TM):Prop where h:SW X e (ttOf K E m)
structure DIf (X:Cx) (K:PySem.W.Frag) (E:XE) (es:List Expr) (m:DS.TM):Prop where h:SIfs X es (ttOf K E m)
structure DA (X:Cx) (K:PySem.W.Frag) (E:XE) (es:List Expr) (m:DS.AM):Prop where
 h:SA X es (aOf K E m)
 len:∀env S ds S',m env S=.ok ds S'->ds.length=es.length
structure DS1 (X:Cx) (K:PySem.W.Frag) (E:XE) (st:Stmt) (m:DS.SM):Prop where h:SS X st (tsOf K E m)
structure DSs (X:Cx) (K:PySem.W.Frag) (E:XE) (st:List Stmt) (m:DS.SM):Prop where h:SSs X st (tsOf K E m)
structure DG (X:Cx) (K:PySem.W.Frag) (e:Expr) (m:DS.GM):Prop where h:SG X e (gOf K m)
structure DGs (X:Cx) (K:PySem.W.Frag) (es:List Expr) (m:List DS.GM):Prop where h:SGs X es (gsOf K (DS.gAll m))
structure DI (X:Cx) (K:PySem.W.Frag) (E:XE) (tg e:Expr) (m:DS.IM):Prop where h:SI X tg e (iOf K E m)
section
variable {X:Cx}{K:PySem.W.Frag}{E:XE}{e a b c:Expr}{es:List Expr}{p pos:Pos}{m ma mb mc:DS.EM}{mt mu:DS.TM}
theorem SE.imp {t t':TE}(h:SE X e t) (k:∀σ H Q,t' σ H Q->t σ H Q):SE X e t':=⟨fun pins s σ H Q I q=>h.h pins s σ H Q I (k σ H Q q)⟩
theorem ST.imp {t t':TT}(h:ST X e t) (k:∀σ H Q,t' σ H Q->t σ H Q):ST X e t':=⟨fun pins s σ H Q I q=>h.h pins s σ H Q I (k σ H Q q)⟩
theorem SW.imp {t t':TT}(h:SW X e t) (k:∀σ H Q,t' σ H Q->t σ H Q):SW X e t':=⟨fun whole pins s σ H Q I q=>h.h whole pins s σ H Q I (k σ H Q q)⟩
theorem SIfs.imp {t t':TT}(h:SIfs X es t) (k:∀σ H Q,t' σ H Q->t σ H Q):SIfs X es t':=⟨fun pins s σ H Q I q=>h.h pins s σ H Q I (k σ H Q q)⟩
theorem SA.imp {t t':TA}(h:SA X es t) (k:∀σ H Q,t' σ H Q->t σ H Q):SA X es t':=⟨fun pos pins s σ H Q I q=>h.h pos pins s σ H Q I (k σ H Q q)⟩
theorem SS.imp {st:Stmt}{t t':TS}(h:SS X st t) (k:∀D σ H,t' D σ H->t D σ H):SS X st t':=⟨fun pins s σ H D I q=>h.h pins s σ H D I (k D σ H q)⟩
theorem SSs.imp {st:List Stmt}{t t':TS}(h:SSs X st t) (k:∀D σ H,t' D σ H->t D σ H):SSs X st t':=⟨fun pins s σ H D I q=>h.h pins s σ H D I (k D σ H q)⟩
theorem SG.imp {t t':TG}(h:SG X e t) (k:∀v σ H Q,t' v σ H Q->t v σ H Q):SG X e t':=⟨fun pins s σ H v u Q I r q=>h.h pins s σ H v u Q I r (k v σ H Q q)⟩
theorem SGs.imp {t t':TGs}(h:SGs X es t) (k:∀v σ H Q,t' v σ H Q->t v σ H Q):SGs X es t':=⟨fun pins s σ H v u Q I r q=>h.h pins s σ H v u Q I r (k v σ H Q q)⟩
theorem SI.imp {tg:Expr}{t t':TI}(h:SI X tg e t) (k:∀σ H R,t' σ H R->t σ H R):SI X tg e t':=⟨fun pins s σ H R I q=>h.h pins s σ H R I (k σ H R q)⟩
theorem ObD.rep {K:PySem.W.Frag}{J:Js}{S:Store}{H:Hp}{d:D}{o:HO}{p:Addr}(ha:AbS K J S H) (n:H p=none) (r:ObD K J H d o):Rep K J (upd H p o) d (.ref p):=by
 have r2:=r.grow (Grow.push (o:=o) n)
 have hp:=ha.out n
 cases d with
 | lst ds=>obtain⟨xs,rfl,rl⟩:=r2;exact⟨p,xs,rfl,⟨zAt,hp⟩,rl⟩
 | dct _ ks vs=>obtain⟨xs,t,rl⟩:=r2;exact⟨p,o,xs,rfl,hp,zAt,t,rl⟩
 | _=>exact False.elim r2
theorem zC5 (h:DF X K E e m):DE X K E e m:=⟨h.h.imp fun σ H Q ⟨env,S,J,ha,he,q⟩=>⟨env,S,J,ha,he,q.map fun d S' J' H' _ h1 g k p o n r=>
 k J' (upd H' p o) (h1.push n) (g.trans (.push n)) (.ref p) (r.rep h1 n)⟩⟩
theorem zPb (h:DF X K E e m):DE X K E e (DS.eNew m):=⟨h.h.imp fun σ H Q ⟨env,S,J,ha,he,q⟩=>⟨env,S,J,ha,he,q.bind.map fun d S' J' H' _ h1 g k p o n r=>
 k J' H' h1 g (J'++[p]) (upd H' p o) (h1.name n r) (.name n) (.ref p) ⟨p,by rw[<- h1.len,ve (xh _)];simp,rfl⟩⟩⟩
theorem zA2 (i:Nat) {x:Str}(hN:X.N[i]?=some x:=by rfl) (hv:Vis X.env.scope x:=by first|exact Or.inl rfl|exact Or.inr (Or.inl rfl)|exact Or.inr (Or.inr rfl)) (hd:(x == ("__debug__":Str))=false:=by decide)
  (hcd:(x == ("__classdict__":Str))=false:=by decide):DE X K E (.Name x pos) (DS.eVar i):=⟨(pv' i hN hv hd hcd).imp fun σ H Q hq2=>by
 obtain⟨env,S,J,ha,he,q⟩:=hq2
 unfold DS.eVar at q
 cases e1:env[i]? with
 | none=>rw[e1]at q;exact False.elim q
 | some o=>
  cases o with
  | none=>rw[e1]at q;exact False.elim q
  | some d=>
   rw[e1]at q
   obtain⟨v,ev,r⟩:=he.get i d e1
   exact⟨v,ev,q J H ha .refl v r⟩⟩
theorem de_c {v:V}{d:D}(h:SE X e (tC v)) (r:∀J H,Rep K J H d v):DE X K E e (DS.eC d):=⟨h.imp fun σ H Q hz1=>by obtain⟨env,S,J,ha,he,q⟩:=hz1;exact q J H ha .refl v (r J H)⟩
theorem zA5 {i:Int}{j:_}:DE X K E (.Constant (.int i) j pos) (DS.eC (.int i)):=de_c zU3 fun _ _=>rfl
theorem zHt {i:Bool}{j:_}:DE X K E (.Constant (.bool i) j pos) (DS.eC (.bl i)):=de_c zWp fun _ _=>rfl
theorem zDf {j:_}:DE X K E (.Constant .none j pos) (DS.eC .non):=de_c zU1 fun _ _=>rfl
theorem zAw {i:Str}{j:_}:DE X K E (.Constant (.str i) j pos) (DS.eC (.str i)):=de_c zTz fun _ _=>rfl
theorem zJi {x:Str}{T:String}{u:Value}(hg:Gl X x) (hm:X.mg x=none) (hv:bootBuiltins x=some u) (r:RelV (.ty T) u) (hn:x≠"__name__":=by decide) (hd:(x == ("__debug__":Str))=false:=by decide):DE X K E (.Name x pos) (DS.eC (.ty T)):=de_c (zR5 hg hm hv r hn hd) fun _ _=>rfl
theorem zLs {r:R2}{g:Store->D->D->Option D}(hr:∀x y H Q,r2Of K g x y H Q->r x y H Q):∀σ H Q,tOf K E (DS.eOp g ma mb) σ H Q->tOp r (tOf K E ma) (tOf K E mb) σ H Q:=fun σ H Q ⟨env,S,J,ha,he,q⟩=>
 ⟨env,S,J,ha,he,q.bind.imp fun d1 S1 J1 H1 _ a1 g1 q1 x rx=>⟨env,S1,J1,a1,he.grow g1,q1.bind.imp fun d2 S2 J2 H2 _ a2 g2 q2 y ry=>by
  obtain⟨d,e,k⟩:=q2.lift
  exact hr _ _ _ _ ⟨J2,S2,d1,d2,d,a2,Rep.grow g2 _ _ rx,ry,e,fun v H' h1 h2 h3=>k J2 H' h1 h2 v h3⟩⟩⟩
theorem zAg {op:Operator}{g:Store->D->D->Option D}(ho:OpR X (binaryOp op) (r2Of K g)) (ha:DE X K E a ma) (hb:DE X K E b mb):DE X K E (.BinOp a op b pos) (DS.eOp g ma mb):=⟨(zWh ho ha.h hb.h).imp (zLs fun _ _ _ _ h=>h)⟩
theorem zMi {op:CmpOp}{g:Store->D->D->Option D}(ho:OpR X (compareOp op) (r2Of K g)) (ha:DE X K E a ma) (hb:DE X K E b mb) (hm:behindInMarks op b=false):DE X K E (.Compare a [op] [b] pos) (DS.eOp g ma mb):=⟨(zR2 ho ha.h hb.h hm).imp (zLs fun _ _ _ _ h=>h)⟩
theorem zBc {g:Store->D->D->Option D}(hr:IxR X (r2Of K g)) (ha:DE X K E a ma) (hb:DE X K E b mb) (h:nsl b=true:=by rfl):DE X K E (.Subscript a b pos) (DS.eOp g ma mb):=⟨(qix' hr ha.h hb.h h).imp (zLs fun _ _ _ _ h=>h)⟩
theorem zV3 {op:UnaryOp}{g:Store->D->Option D}(ho:UnR X (unaryOp op) (r1Of K g)) (ha:DE X K E a ma):DE X K E (.UnaryOp op a pos) (DS.eUn g ma):=⟨(zWd ho ha.h).imp fun σ H Q ⟨env,S,J,h,he,q⟩=>
 ⟨env,S,J,h,he,q.bind.imp fun d1 S1 J1 H1 _ a1 g1 q1 x rx=>by
  obtain⟨d,e,k⟩:=q1.lift
  exact⟨J1,S1,d1,d,a1,rx,e,fun v H' h1 h2 h3=>k J1 H' h1 h2 v h3⟩⟩⟩
theorem zA3:DA X K E [] DS.aNil:=⟨pa_nil'.imp fun σ H Q hz2=>by obtain⟨env,S,J,ha,he,q⟩:=hz2;exact q J H ha .refl [] rfl,fun _ _ _ _ e=>by cases e;rfl⟩
theorem zA1 {am:DS.AM}(ha:DE X K E e m) (hr:DA X K E es am) (h:nst e=true:=by rfl):DA X K E (e::es) (DS.zA0 m am):=by
 refine⟨(qa' ha.h hr.h h).imp fun σ H Q ⟨env,S,J,h,he,q⟩=>⟨env,S,J,h,he,q.bind.imp fun d1 S1 J1 H1 _ a1 g1 q1 x rx=>⟨env,S1,J1,a1,he.grow g1,q1.bind.imp fun d2 S2 J2 H2 _ a2 g2 q2 ys ry=>
  q2 J2 H2 a2 .refl (x::ys) ⟨x,ys,rfl,Rep.grow g2 _ _ rx,ry⟩⟩⟩,fun env S ds S' e1=>?_⟩
 unfold DS.zA0 at e1
 cases e2:m env S with
 | ok d S1=>
  rw[e2,Rs.bind_ok]at e1
  cases e3:am env S1 with
  | ok dr S2=>rw[e3,Rs.bind_ok]at e1;cases e1;simp[hr.len _ _ _ _ e3]
  | _=>rw[e3]at e1;cases e1
 | _=>rw[e2]at e1;cases e1
theorem z1000 {n:Nat}(h:n<=1000):n<=sizeLine:=xn h (by decide)
theorem zDu {am:DS.AM}{k:Nat}(h:DA X K E es am) (hz:es.length<=1000:=by decide):DE X K E (.Tuple es k pos) (DS.eTup am):=⟨(zTy h.h).imp fun σ H Q ⟨env,S,J,ha,he,q⟩=>
 ⟨env,S,J,ha,he,q.bind.imp fun ds S1 J1 H1 e1 a1 g1 q1 xs rx=>⟨by rw[<- rx.length,h.len _ _ _ _ e1];exact z1000 hz,fun p n=>
  q1 J1 (upd H1 p (.tup xs)) (a1.push n) (.push n) (.ref p) ⟨p,xs,rfl,⟨zAt,a1.out n⟩,RepL.grow (.push n) _ _ rx⟩⟩⟩⟩
theorem zDt {am:DS.AM}(h:DA X K E es am) (hz:es.length<=1000:=by decide):DF X K E (.List es pos) (DS.eLst am):=⟨(zU2 h.h).imp fun σ H Q ⟨env,S,J,ha,he,q⟩=>
 ⟨env,S,J,ha,he,q.bind.imp fun ds S1 J1 H1 e1 a1 g1 q1 xs rx=>⟨by rw[<- rx.length,h.len _ _ _ _ e1];exact z1000 hz,fun p n=>
  q1 J1 H1 a1 .refl p (.lst xs) n ⟨xs,rfl,rx⟩⟩⟩⟩
theorem zXx {r:List V->Hp->VK->Prop}{am:DS.AM}{g:Store->List D->Option D}(hr:∀xs H Q,cOf K g xs H Q->r xs H Q):∀σ H Q,tOf K E (DS.eCB g am) σ H Q->tCB r (aOf K E am) σ H Q:=fun σ H Q ⟨env,S,J,ha,he,q⟩=>
 ⟨env,S,J,ha,he,q.bind.imp fun ds S1 J1 H1 _ a1 g1 q1 xs rx=>by
  obtain⟨d,e,k⟩:=q1.lift
  exact hr _ _ _ ⟨J1,S1,ds,d,a1,rx,e,fun v H' h1 h2 h3=>k J1 H' h1 h2 v h3⟩⟩
theorem zBj {x:Str}{id:String}{am:DS.AM}{g:Store->List D->Option D}(hc:zCb X (.builtin id) (cOf K g)) (hg:Gl X x) (hm:X.mg x=none) (hv:bootBuiltins x=some (.builtin id)) (ha:DA X K E (e::es) am) (hn:x≠"__name__":=by decide) (hdb:(x == ("__debug__":Str))=false:=by decide)
  (h:(e::es).all nst=true:=by rfl):DE X K E (.Call (.Name x p) (e::es) [] pos) (DS.eCB g am):=⟨(zTg hc hg hm hv ha.h hn hdb h).imp (zXx fun _ _ _ h=>h)⟩
theorem zDl {x:Str}{T:String}{am:DS.AM}{g:Store->List D->Option D}(hc:zCb X (.type T) (cOf K g)) (hg:Gl X x) (hm:X.mg x=none) (hv:bootBuiltins x=some (.type T)) (ha:DA X K E (e::es) am) (hn:x≠"__name__":=by decide) (hdb:(x == ("__debug__":Str))=false:=by decide)
  (h:(e::es).all nst=true:=by rfl):DE X K E (.Call (.Name x p) (e::es) [] pos) (DS.eCB g am):=⟨(zTf hc hg hm hv ha.h hn hdb h).imp (zXx fun _ _ _ h=>h)⟩
theorem zAa {x:Str}{k:Nat}{ps:List Str}{F:DS.Fn}{am:DS.AM}(C:Cal X.prog X.w X.K X.mg X.base x k ps (spOf K E F)) (hr:Room k X.A) (hg:Gl X x) (ha:DA X K E (e::es) am) (hdb:(x == ("__debug__":Str))=false:=by decide)
  (h:(e::es).all nst=true:=by rfl):DE X K E (.Call (.Name x p) (e::es) [] pos) (DS.zA7 F am):=⟨(qcal' C hr hg ha.h hdb h).imp fun σ H Q ⟨env,S,J,h,he,q⟩=>
 ⟨env,S,J,h,he,q.bind.imp fun ds S1 J1 H1 _ a1 g1 q1 xs rx=>by
  show spOf K E F (xs++[]) H1 Q E0
  rw[vQ]
  exact⟨J1,S1,ds,a1,rx,q1⟩⟩⟩
theorem zVg {J:Js}{S:Store}{H:Hp}{d:D}{v:V}{T:String}(ha:AbS K J S H) (r:Rep K J H d v) (hT:T="str"\/T="list"\/T="dict") (h:DS.tyD S d=some T):tyV K T v H:=by
 cases d with
 | str x=>obtain rfl:=r;cases h;exact rfl
 | lst ds=>obtain⟨a,xs,rfl,t,_⟩:=r;cases h;exact .inl ⟨rfl,xs,t.sq⟩
 | klst ds=>obtain⟨a,xs,rfl,t,_⟩:=r;cases h;exact .inl ⟨rfl,xs,t.sq⟩
 | dct _ ks vs=>
  obtain⟨a,o,xs,rfl,_,e,t,_⟩:=r;cases h
  refine .inr (.inr (.inl ⟨rfl,?_⟩))
  rcases t with⟨_,kvs,rfl,_⟩|⟨_,kvs,rfl,_⟩
  ·exact .inl ⟨kvs,e⟩
  ·exact .inr ⟨kvs,e⟩
 | ref n=>
  obtain⟨a,ea,rfl⟩:=r
  obtain⟨c,ec,o,eo,rc⟩:=ha.at ea
  have el:DS.look S (.ref n)=some c:=ec
  unfold DS.tyD at h
  rw[el]at h
  cases c with
  | lst ds=>cases h;obtain⟨xs,rfl,_⟩:=rc;exact .inl ⟨rfl,xs,.inl (.inl eo)⟩
  | dct _ ks vs=>
   cases h
   obtain⟨xs,t,_⟩:=rc
   refine .inr (.inr (.inl ⟨rfl,?_⟩))
   rcases t with⟨_,kvs,rfl,_⟩|⟨_,kvs,rfl,_⟩
   ·exact .inl ⟨kvs,eo⟩
   ·exact .inr ⟨kvs,eo⟩
  | _=>exact False.elim rc
 | _=>first|(cases h;rcases hT with z|z|z <;> exact absurd z (by decide))|cases h
theorem zX4 {T:String}{r:V->List V->Hp->VK->Prop}{am:DS.AM}{g:Store->D->List D->Option (D × Store)}(hT:T="str"\/T="list"\/T="dict") (hr:∀x xs H Q,mOf K g x xs H Q->r x xs H Q):∀σ H Q,tOf K E (DS.eMt T g ma am) σ H Q->tBM K T r (tOf K E ma) (aOf K E am) σ H Q:=fun σ H Q ⟨env,S,J,ha,he,q⟩=>
 ⟨env,S,J,ha,he,q.bind.imp fun d1 S1 J1 H1 _ a1 g1 q1 x rx=>by
  by_cases hty:DS.tyD S1 d1=some T
  ·rw[xc hty]at q1
   refine⟨zVg a1 rx hT hty,env,S1,J1,a1,he.grow g1,q1.bind.imp fun ds S2 J2 H2 _ a2 g2 q2 xs rs=>?_⟩
   cases e:g S2 d1 ds with
   | none=>rw[e]at q2;exact False.elim q2
   | some w=>
    rw[e]at q2
    exact hr _ _ _ _ ⟨J2,S2,d1,ds,w.1,w.2,a2,Rep.grow g2 _ _ rx,rs,e,fun v H' h1 h2 h3=>q2 J2 H' h1 h2 v h3⟩
  ·rw[xg hty]at q1;exact False.elim q1⟩
theorem zEg {T name id:_}{o:Expr}{apos cpos:Pos}{g:Store->D->List D->Option (D × Store)}{mo:DS.EM}{am:DS.AM}(pa:PlainAttrs T) (slot:Slot T name id) (hty:typeOf (.builtin id)=pure (.type "method_descriptor")) (hm:MtR X id (mOf K g))
  (hT:T="str"\/T="list"\/T="dict") (ho:DE X K E o mo) (ha:DA X K E (e::es) am) (h:nba o=true:=by rfl) (hs:(e::es).all nst=true:=by rfl)
  (hlen:decide ((e::es).length+0+0<30)=true:=by rfl) (hline:(apos.endLine == cpos.line)=true:=by rfl) (hK:X.K=K:=by rfl):DE X K E (.Call (.Attribute o name apos) (e::es) [] cpos) (DS.eMt T g mo am):=by
 subst hK
 exact⟨(zWo pa slot hty hm ho.h ha.h h hs hlen hline).imp (zX4 hT fun _ _ _ _ h=>h)⟩
theorem zXv {T name id:_}{o:Expr}{apos cpos:Pos}{g:Store->D->List D->Option (D × Store)}{mo:DS.EM}(pa:PlainAttrs T) (slot:Slot T name id) (hty:typeOf (.builtin id)=pure (.type "method_descriptor")) (hm:MtR X id (mOf K g))
  (hT:T="str"\/T="list"\/T="dict") (ho:DE X K E o mo) (h:nba o=true:=by rfl) (hline:(apos.endLine == cpos.line)=true:=by rfl) (hK:X.K=K:=by rfl):DE X K E (.Call (.Attribute o name apos) [] [] cpos) (DS.eMt T g mo DS.aNil):=by
 subst hK
 refine⟨(qbm0' pa slot hty hm ho.h h hline).imp fun σ H Q h=>?_⟩
 obtain⟨env,S,J,ha,he,q⟩:=zX4 hT (fun _ _ _ _ h=>h) σ H Q h
 refine⟨env,S,J,ha,he,q.imp fun d1 S1 J1 H1 _ a1 g1 q1 x rx=>?_⟩
 obtain⟨ht,env',S',J',ha',he',q'⟩:=q1 x rx
 exact⟨ht,q' J' H1 ha' .refl [] rfl⟩
noncomputable def poOf (K:PySem.W.Frag) (E:XE) (m:DS.Env->Store->Rs (Option Int)):TO:=fun σ H Q=>∃env S J,AbS K J S H/\RepE K J H env σ/\Post K E J H (m env S) (fun oi _ _ H'=>Q oi H')
structure DO (X:Cx) (K:PySem.W.Frag) (E:XE) (e:Option Expr) (m:DS.Env->Store->Rs (Option Int)):Prop where h:SO X e (poOf K E m)
theorem SO.imp {o:Option Expr}{t t':TO}(h:SO X o t) (k:∀σ H Q,t' σ H Q->t σ H Q):SO X o t':=⟨fun pins s σ H Q I q=>h.h pins s σ H Q I (k σ H Q q)⟩
theorem zXq:DO X K E none DS.pNo:=⟨po_none'.imp fun σ H Q hz3=>by obtain⟨env,S,J,ha,he,q⟩:=hz3;exact q J H ha .refl⟩
theorem zIl (h:DE X K E e m):DO X K E (some e) (DS.pYes m):=⟨(zQs h.h).imp fun σ H Q ⟨env,S,J,ha,he,q⟩=>⟨env,S,J,ha,he,q.bind.imp fun d S1 J1 H1 _ a1 g1 q1 x rx=>by
 obtain⟨oi,e,k⟩:=q1.lift
 cases d with
 | int i=>cases e;obtain rfl:=rx;exact⟨i,rfl,k J1 H1 a1 .refl⟩
 | _=>cases e⟩⟩
noncomputable def slOf (K:PySem.W.Frag) (g:Store->D->Option Int->Option Int->Option D):V->Option Int->Option Int->Hp->VK->Prop:=fun x lo hi H Q=>∃J S d1 d,AbS K J S H/\Rep K J H d1 x/\g S d1 lo hi=some d/\∀v H',AbS K J S H'->Grow J H J H'->Rep K J H' d v->Q v H'
theorem zS0 {g:Store->D->Option Int->Option Int->Option D}{lo hi:Option Expr}{ml mh:DS.Env->Store->Rs (Option Int)}{p2:Pos}(hr:SlR X (slOf K g)) (he:DE X K E e m) (hl:DO X K E lo ml) (hu:DO X K E hi mh):DE X K E (.Subscript e (.Slice lo hi none p2) pos) (DS.eSl g m ml mh):=
 ⟨(zO6 hr he.h hl.h hu.h).imp fun σ H Q ⟨env,S,J,ha,he,q⟩=>⟨env,S,J,ha,he,q.bind.imp fun d S1 J1 H1 _ a1 g1 q1 x rx=>⟨env,S1,J1,a1,he.grow g1,q1.bind.imp fun l S2 J2 H2 _ a2 g2 q2=>
  ⟨env,S2,J2,a2,he.grow (g1.trans g2),q2.bind.imp fun h S3 J3 H3 _ a3 g3 q3=>by
   obtain⟨r,er,k⟩:=q3.lift
   exact⟨J3,S3,d,r,a3,Rep.grow (g2.trans g3) _ _ rx,er,fun v H' h1 h2 h3=>k J3 H' h1 h2 v h3⟩⟩⟩⟩⟩
theorem zPx {J:Js}{H:Hp}{d:D}{x:V}{k:Bool}(e:DS.asB d=some k) (r:Rep K J H d x):x=.bl k:=by
 cases d with
 | bl i=>cases e;exact r
 | _=>cases e
theorem zVk:∀σ H Q,ttOf K E (DS.tB m) σ H Q->tOf K E m σ H (fun x H'=>∃k,x=.bl k/\Q k H'):=fun σ H Q ⟨env,S,J,ha,he,q⟩=>⟨env,S,J,ha,he,q.bind.imp fun d S1 J1 H1 _ a1 g1 q1 x rx=>by
 obtain⟨k,e,z⟩:=q1.lift
 exact⟨k,zPx e rx,z J1 H1 a1 .refl⟩⟩
theorem zAn {op:CmpOp}{g:Store->D->D->Option D}(ho:OpR X (compareOp op) (r2Of K g)) (ha:DE X K E a ma) (hb:DE X K E b mb) (hm:behindInMarks op b=false):DT X K E (.Compare a [op] [b] pos) (DS.tB (DS.eOp g ma mb)):=
 ⟨(zQm ho ha.h hb.h hm).imp fun σ H Q h=>zLs (K:=K) (E:=E) (fun _ _ _ _ h=>h) σ H _ (zVk σ H Q h)⟩
theorem zMk {g g':Store->D->D->Option D}:∀σ H Q,tOf K E (DS.zF3 g g' ma mb mc) σ H Q->zJq (r2Of K g) (r2Of K g') (tOf K E ma) (tOf K E mb) (tOf K E mc) σ H Q:=fun σ H Q ⟨env,S,J,ha,he,q⟩=>
 ⟨env,S,J,ha,he,q.bind.imp fun d1 S1 J1 H1 _ a1 g1 q1 x rx=>⟨env,S1,J1,a1,he.grow g1,q1.bind.imp fun d2 S2 J2 H2 _ a2 g2 q2 y ry=>by
  obtain⟨z,ez,k⟩:=q2.bind.lift
  refine⟨J2,S2,d1,d2,z,a2,Rep.grow g2 _ _ rx,ry,ez,fun v H3 a3 g3 rv=>?_⟩
  obtain⟨b,eb,k2⟩:=(k J2 H3 a3 g3).bind.lift
  refine⟨b,zPx eb rv,?_⟩
  have k3:=k2 J2 H3 a3 .refl
  cases b with
  | false=>exact k3 J2 H3 a3 .refl _ rfl
  | true=>
   refine⟨env,S2,J2,a3,he.grow (g1.trans (g2.trans g3)),k3.bind.imp fun d4 S4 J4 H4 _ a4 g4 q4 w rw=>?_⟩
   obtain⟨d,e,k⟩:=q4.lift
   exact⟨J4,S4,d2,d4,d,a4,Rep.grow (g3.trans g4) _ _ ry,rw,e,fun v H' h1 h2 h3=>k J4 H' h1 h2 v h3⟩⟩⟩
theorem zRw {op op':CmpOp}{g g':Store->D->D->Option D}(ho:OpR X (compareOp op) (r2Of K g)) (ho':OpR X (compareOp op') (r2Of K g')) (ha:DE X K E a ma) (hb:DE X K E b mb) (hc:DE X K E c mc) (hm:lastMarks [op,op'] [b,c]=false:=by with_unfolding_all rfl):
  DT X K E (.Compare a [op,op'] [b,c] pos) (DS.tB (DS.zF3 g g' ma mb mc)):=⟨(zO0 ho ho' ha.h hb.h hc.h hm).imp fun σ H Q h=>zMk σ H _ (zVk σ H Q h)⟩
theorem zS1 {op op':CmpOp}{g g':Store->D->D->Option D}(ho:OpR X (compareOp op) (r2Of K g)) (ho':OpR X (compareOp op') (r2Of K g')) (ha:DE X K E a ma) (hb:DE X K E b mb) (hc:DE X K E c mc) (hm:lastMarks [op,op'] [b,c]=false:=by with_unfolding_all rfl):
  DE X K E (.Compare a [op,op'] [b,c] pos) (DS.zF3 g g' ma mb mc):=⟨(zO8 ho ho' ha.h hb.h hc.h hm).imp zMk⟩
theorem zHs (ha:DT X K E a mt):DT X K E (.UnaryOp .Not a pos) (DS.tNot mt):=⟨(zTk ha.h).imp fun σ H Q hz4=>by obtain⟨env,S,J,ha,he,q⟩:=hz4;exact ⟨env,S,J,ha,he,q.bind.imp fun k S1 J1 H1 _ a1 g1 q1=>q1 J1 H1 a1 .refl⟩⟩
theorem zP6 (ha:DT X K E a mt):DW X K E (.BoolOp .And [a] pos) mt:=⟨zQk ha.h⟩
theorem zGg (ha:DT X K E a mt):DW X K E (.BoolOp .Or [a] pos) mt:=⟨zTh ha.h⟩
theorem zSr (ha:DT X K E a mt) (hb:DW X K E (.BoolOp .And (b::es) pos) mu):DW X K E (.BoolOp .And (a::b::es) pos) (DS.tAnd mt mu):=⟨(zTj ha.h hb.h).imp fun σ H Q ⟨env,S,J,ha,he,q⟩=>⟨env,S,J,ha,he,q.bind.imp fun k S1 J1 H1 _ a1 g1 q1=>by
 cases k with
 | true=>exact⟨env,S1,J1,a1,he.grow g1,q1⟩
 | false=>exact q1 J1 H1 a1 .refl⟩⟩
theorem zJf (ha:DT X K E a mt) (hb:DW X K E (.BoolOp .Or (b::es) pos) mu):DW X K E (.BoolOp .Or (a::b::es) pos) (DS.tOr mt mu):=⟨(zW1 ha.h hb.h).imp fun σ H Q ⟨env,S,J,ha,he,q⟩=>⟨env,S,J,ha,he,q.bind.imp fun k S1 J1 H1 _ a1 g1 q1=>by
 cases k with
 | true=>exact q1 J1 H1 a1 .refl
 | false=>exact⟨env,S1,J1,a1,he.grow g1,q1⟩⟩⟩
theorem dt_w (h:DW X K E e mt):DT X K E e mt:=⟨zVz h.h⟩
theorem zYu (ha:DE X K E a ma) (hb:DE X K E (.BoolOp .Or (b::es) pos) mb):DE X K E (.BoolOp .Or (a::b::es) pos) (DS.eOr ma mb):=⟨(zWg ha.h hb.h).imp fun σ H Q ⟨env,S,J,ha,he,q⟩=>⟨env,S,J,ha,he,q.bind.imp fun d S1 J1 H1 _ a1 g1 q1 x rx=>by
 obtain⟨k,e,z⟩:=q1.bind.lift
 have z:=z J1 H1 a1 .refl
 refine⟨k,zPx e rx,?_⟩
 cases k with
 | true=>exact z J1 H1 a1 .refl _ rfl
 | false=>exact⟨env,S1,J1,a1,he.grow g1,z⟩⟩⟩
theorem zXu {op:BoolOp}(ha:DE X K E a ma):DE X K E (.BoolOp op [a] pos) ma:=⟨zU0 ha.h⟩
theorem zNg (hc:DT X K E c mt) (ha:DE X K E a ma) (hb:DE X K E b mb):DE X K E (.IfExp c a b pos) (DS.eIf mt ma mb):=⟨(zO7 hc.h ha.h hb.h).imp fun σ H Q ⟨env,S,J,ha,he,q⟩=>⟨env,S,J,ha,he,q.bind.imp fun k S1 J1 H1 _ a1 g1 q1=>by
 cases k with
 | true=>exact⟨env,S1,J1,a1,he.grow g1,q1⟩
 | false=>exact⟨env,S1,J1,a1,he.grow g1,q1⟩⟩⟩
theorem zB0:DIf X K E [] DS.tYes:=⟨pifs_nil'.imp fun σ H Q hz5=>by obtain⟨env,S,J,ha,he,q⟩:=hz5;exact q J H ha .refl⟩
theorem zD4 {J:Js}{H:Hp}{ds:List D}{xs:List V}(r:RepL K J H ds xs):decide (ds≠[])=!xs.isEmpty:=by
 cases ds with
 | nil=>cases r;simp
 | cons d ds=>obtain⟨x,t,rfl,_⟩:=r;simp
theorem zT2 {J:Js}{S:Store}{H:Hp}{d:D}{v:V}{k:Bool}(ha:AbS K J S H) (r:Rep K J H d v) (h:DS.truth S d=some k):TruV K v H k:=by
 cases d with
 | non=>obtain rfl:=r;cases h;exact rfl
 | bl b=>obtain rfl:=r;cases h;exact rfl
 | int i=>
  obtain rfl:=r
  have h:=xD h
  subst h
  show decide (i≠0)=(i != 0)
  by_cases z:i=0 <;> simp[z]
 | str x=>
  obtain rfl:=r
  have h:(if x.length<=DS.most then some (decide (x.length≠0))else none)=some k:=h
  by_cases z:x.length<=DS.most
  ·rw[xc z]at h
   have h:=xD h
   subst h
   refine⟨z,?_⟩
   by_cases z:x.length=0 <;> simp[z]
  ·rw[xg z]at h;cases h
 | tup ds=>obtain⟨a,xs,rfl,t,rl⟩:=r;cases h;exact .inr (.inl ⟨xs,t.sq,zD4 rl⟩)
 | ktup ds=>obtain⟨a,xs,rfl,t,rl⟩:=r;cases h;exact .inr (.inl ⟨xs,t.sq,zD4 rl⟩)
 | klst ds=>obtain⟨a,xs,rfl,t,rl⟩:=r;cases h;exact .inl ⟨xs,t.sq,zD4 rl⟩
 | lst ds=>obtain⟨a,xs,rfl,t,rl⟩:=r;cases h;exact .inl ⟨xs,t.sq,zD4 rl⟩
 | ref n=>
  obtain⟨a,ea,rfl⟩:=r
  obtain⟨c,ec,o,eo,rc⟩:=ha.at ea
  have el:DS.look S (.ref n)=some c:=ec
  unfold DS.truth at h
  rw[el]at h
  cases c with
  | lst ds=>cases h;obtain⟨xs,rfl,rl⟩:=rc;exact .inl ⟨xs,.inl (.inl eo),zD4 rl⟩
  | dct _ ks vs=>cases h
  | _=>exact False.elim rc
 | _=>cases h
theorem zF4 (ha:DE X K E e m) (h:ntt e=true:=by rfl) (hK:X.K=K:=by rfl):DT X K E e (DS.tTru m):=by
 subst hK
 exact⟨(qtruth' ha.h h).imp fun σ H Q ⟨env,S,J,ha,he,q⟩=>⟨env,S,J,ha,he,q.bind.imp fun d S1 J1 H1 _ a1 g1 q1 x rx=>by
  obtain⟨k,e,z⟩:=q1.lift
  exact⟨k,zT2 a1 rx e,z J1 H1 a1 .refl⟩⟩⟩
theorem RepE.set {J:Js}{H:Hp}{env:DS.Env}{σ:St}{d:D}{v:V}{i:Nat}(h:RepE K J H env σ) (r:Rep K J H d v):RepE K J H (env.set i (some d)) (σ.set i (some v)):=by
 refine⟨by simp[h.len],fun j d' e=>?_⟩
 by_cases hj:i=j
 ·subst hj
  have hi:i<env.length:=by
   have:=(xK.mp e).1
   simpa using this
  rw[vW hi]at e
  cases e
  exact⟨v,vW (by rw[<- h.len];exact hi),r⟩
 ·rw[vX hj]at e
  rw[vX hj]
  exact h.get j d' e
theorem zAi {j:Nat}{x:Str}(hN:X.N.Nodup) (hi:X.N[j]?=some x) (hx:Loc X.env.scope x) (hf:X.fn x=true\/X.env.scope.names.lookup x=some .local:=by first|exact .inl rfl|exact .inr rfl|assumption):DG X K (.Name x pos) (DS.gName j):=
 ⟨(zQy hN hi hx hf).imp fun v σ H Q hq3=>by
  obtain⟨env,S,J,d,env',ha,he,r,e,k⟩:=hq3
  cases e
  exact k _ (he.set r)⟩
theorem zEp:DGs X K [] []:=⟨pgs_nil'.imp fun v σ H Q hq4=>by
 obtain⟨env,S,J,ds,env',ha,he,r,e,k⟩:=hq4
 cases ds with
 | nil=>cases e;cases r;exact⟨rfl,k _ he⟩
 | cons d ds=>cases e⟩
theorem zBb {tg:Expr}{ts:List Expr}{g:DS.GM}{gs:List DS.GM}(h1:DG X K tg g) (h2:DGs X K ts gs) (h:nst tg=true:=by rfl):DGs X K (tg::ts) (g::gs):=⟨(qgs' h1.h h2.h h).imp fun v σ H Q hq5=>by
 obtain⟨env,S,J,ds,env',ha,he,r,e,k⟩:=hq5
 cases ds with
 | nil=>cases e
 | cons d ds=>
  obtain⟨x,xs,rfl,rx,rl⟩:=r
  unfold DS.gAll at e
  cases e1:g S d env with
  | none=>rw[e1]at e;cases e
  | some env1=>
   rw[e1]at e
   exact⟨x,xs,rfl,env,S,J,d,env1,ha,he,rx,e1,fun σ' he'=>⟨env1,S,J,ds,env',ha,he',rl,e,k⟩⟩⟩
theorem zF0:∀{gs:List DS.GM}{S:Store}{ds:List D}{env env':DS.Env},DS.gAll gs S ds env=some env'->ds.length=gs.length
 | [],_,[],_,_,_=>rfl
 | [],_,_::_,_,_,e=>by cases e
 | _::_,_,[],_,_,e=>by cases e
 | g::gs,S,d::ds,env,env',e=>by
  unfold DS.gAll at e
  cases e1:g S d env with
  | none=>rw[e1]at e;cases e
  | some env1=>rw[e1]at e;simp[zF0 e]
theorem SG.or {t u:TG}(h:SG X e t) (h':SG X e u):SG X e (fun v σ H Q=>t v σ H Q\/u v σ H Q):=⟨fun pins s σ H v w Q I r q=>by
 rcases q with q|q
 ·exact h.h pins s σ H v w Q I r q
 ·exact h'.h pins s σ H v w Q I r q⟩
theorem zGh {ts:List Expr}{k:Nat}{gs:List DS.GM}(hc:X.calm=true) (h:DGs X K ts gs) (hn:ts.length=gs.length:=by rfl) (h1:ts.all nst=true:=by rfl) (hK:X.K=K:=by rfl):DG X K (.Tuple ts k pos) (DS.gTup gs):=by
 subst hK
 refine⟨((qtup' (n:=gs.length) hc h.h hn h1).or (qunl' (n:=gs.length) hc h.h hn h1)).imp fun v σ H Q hq1=>?_⟩
 obtain⟨env,S,J,d,env',ha,he,r,e,k⟩:=hq1
 unfold DS.gTup DS.items DS.look at e
 cases d with
 | tup ds=>obtain⟨a,xs,rfl,t,rl⟩:=r;exact .inl ⟨a,xs,rfl,t.sq,by rw[<- rl.length];exact zF0 e,env,S,J,ds,env',ha,he,rl,e,k⟩
 | klst ds=>obtain⟨a,xs,rfl,t,rl⟩:=r;exact .inr ⟨a,xs,rfl,t.sq,by rw[<- rl.length];exact zF0 e,env,S,J,ds,env',ha,he,rl,e,k⟩
 | ktup ds=>obtain⟨a,xs,rfl,t,rl⟩:=r;exact .inl ⟨a,xs,rfl,t.sq,by rw[<- rl.length];exact zF0 e,env,S,J,ds,env',ha,he,rl,e,k⟩
 | lst ds=>obtain⟨a,xs,rfl,t,rl⟩:=r;exact .inr ⟨a,xs,rfl,t.sq,by rw[<- rl.length];exact zF0 e,env,S,J,ds,env',ha,he,rl,e,k⟩
 | ref n=>
  obtain⟨a,ea,rfl⟩:=r
  obtain⟨c,ec,o,eo,rc⟩:=ha.at ea
  simp only[ec]at e
  cases c with
  | lst ds=>obtain⟨xs,rfl,rl⟩:=rc;exact .inr ⟨a,xs,rfl,.inl (.inl eo),by rw[<- rl.length];exact zF0 e,env,S,J,ds,env',ha,he,rl,e,k⟩
  | dct _ ks vs=>cases e
  | _=>exact False.elim rc
 | _=>cases e
variable {st:Stmt}{sts:List Stmt}{ms mu' mv:DS.SM}
theorem zFq:DS1 X K E st DS.zGb:=⟨ss_never.imp fun D σ H hz6=>by obtain⟨env,S,J,ha,he,q⟩:=hz6;exact q⟩
theorem zAv:DSs X K E [] DS.zB7:=⟨pss_nil'.imp fun D σ H hz7=>by obtain⟨env,S,J,ha,he,q⟩:=hz7;exact q J H σ ha .refl he⟩
theorem zA9 (h:DS1 X K E st ms):DSs X K E [st] ms:=⟨zQo h.h⟩
theorem zA4 (h:DS1 X K E st ms) (k:DSs X K E sts mv):DSs X K E (st::sts) (DS.sSeq ms mv):=⟨(zO1 h.h k.h).imp fun D σ H ⟨env,S,J,ha,he,q⟩=>⟨env,S,J,ha,he,by
 unfold DS.sSeq at q
 cases e:ms env S with
 | nx e1 S1=>rw[e]at q;exact fun J' H' σ' h1 g1 h2=>⟨e1,S1,J',h1,h2,PostS.grow g1 q⟩
 | _=>rw[e]at q;exact q⟩⟩
theorem zAc {j:Nat}{x:Str}{pos':Pos}(hN:X.N.Nodup) (hi:X.N[j]?=some x) (hx:Loc X.env.scope x) (he:DE X K E e m) (hf:X.fn x=true\/X.env.scope.names.lookup x=some .local:=by first|exact .inl rfl|exact .inr rfl|assumption) (h:nco e=true:=by rfl):
  DS1 X K E (.Assign [.Name x pos'] e pos) (DS.sSet j m):=⟨(qset' hN hi hx he.h hf h).imp fun D σ H hz8=>by obtain⟨env,S,J,ha,he,q⟩:=hz8;exact ⟨env,S,J,ha,he,q.then.imp fun d S1 J1 H1 _ a1 g1 q1 v rv=>q1 J1 H1 _ a1 .refl ((he.grow g1).set rv)⟩⟩
theorem zVe {g:DS.GM}:∀D σ H,tsOf K E (DS.sUnp g m) D σ H->tAsg (tOf K E m) (gOf K g) D σ H:=fun D σ H ⟨env,S,J,ha,he,q⟩=>⟨env,S,J,ha,he,q.then.imp fun d S1 J1 H1 _ a1 g1 q1 v rv=>by
 cases e1:g S1 d env with
 | none=>rw[e1]at q1;exact False.elim q1
 | some env'=>rw[e1]at q1;exact⟨env,S1,J1,d,env',a1,he.grow g1,rv,e1,fun σ' he'=>q1 J1 H1 σ' a1 .refl he'⟩⟩
theorem zV0 {ts:List Expr}{k:Nat}{tp:Pos}{g:DS.GM}(he:DE X K E e m) (hg:DG X K (.Tuple ts k tp) g) (h1:ntu e=true:=by rfl):DS1 X K E (.Assign [.Tuple ts k tp] e pos) (DS.sUnp g m):=⟨(qasgt' he.h hg.h h1).imp zVe⟩
theorem zMd (he:DE X K E e m) (h:nco e=true:=by rfl):DS1 X K E (.Expr e pos) (DS.zMy m):=⟨(qexpr' he.h h).imp fun D σ H hz9=>by obtain⟨env,S,J,ha,he,q⟩:=hz9;exact ⟨env,S,J,ha,he,q.then.imp fun d S1 J1 H1 _ a1 g1 q1 v rv=>q1 J1 H1 σ a1 .refl (he.grow g1)⟩⟩
theorem zAd (he:DE X K E e m):DS1 X K E (.Return (some e) pos) (DS.sRet m):=⟨(zTp he.h).imp fun D σ H hz0=>by obtain⟨env,S,J,ha,he,q⟩:=hz0;exact ⟨env,S,J,ha,he,q.then.imp fun d S1 J1 H1 _ a1 g1 q1 v rv=>q1 J1 H1 v a1 .refl rv⟩⟩
theorem zB4 {ba bb:List Stmt}(hc:DT X K E c mt) (ha:DSs X K E ba ms) (hb:DSs X K E bb mv):DS1 X K E (.If c ba bb pos) (DS.sIf mt ms mv):=⟨(zW7 hc.h ha.h hb.h).imp fun D σ H ⟨env,S,J,ha,he,q⟩=>⟨env,S,J,ha,he,q.then.imp fun k S1 J1 H1 _ a1 g1 q1=>by
 cases k with
 | true=>exact⟨env,S1,J1,a1,he.grow g1,q1⟩
 | false=>exact⟨env,S1,J1,a1,he.grow g1,q1⟩⟩⟩
theorem zRx {x y:Str}{px py pt pt2:Pos}{kt k2 i j:Nat}{am:DS.AM}(hc:X.calm=true) (hN:X.N.Nodup) (hi:X.N[i]?=some x) (hj:X.N[j]?=some y) (hij:i≠j)
  (hx:X.env.scope.names.lookup x=some .local) (hy:X.env.scope.names.lookup y=some .local) (ha:DA X K E [a,b] am)
  (hw:swappedStores [.Tuple [.Name x px,.Name y py] kt pt] (.Tuple [a,b] k2 pt2) X.env=pure (some [x,y])):
  DS1 X K E (.Assign [.Tuple [.Name x px,.Name y py] kt pt] (.Tuple [a,b] k2 pt2) pos) (DS.sPar [i,j] am):=⟨(qpar' hc hN hi hj hij hx hy ha.h hw).imp fun D σ H ⟨env,S,J,h,he,q⟩=>⟨env,S,J,h,he,q.then.imp fun ds S1 J1 H1 e1 a1 g1 q1 vs rv=>by
 have hl:=ha.len _ _ _ _ e1
 match ds,hl with
 | [d1,d2],_=>
  obtain⟨v1,r1,rfl,rv1,v2,r2,rfl,rv2,rfl⟩:=rv
  exact⟨v1,v2,rfl,q1 J1 H1 _ a1 .refl (((he.grow g1).set rv1).set rv2)⟩⟩⟩
theorem zEn {body:List Stmt}(hp:PassesOwn (model X.prog X.w) X.A X.env X.xe) (hc:DT X K E c mt) (hb:DSs X K E body ms):DS1 X K E (.While c body [] pos) (DS.zDr mt ms):=⟨(zO2 hp hc.h hb.h).imp fun D σ H hq6=>by
 obtain⟨env,S,J,ha,he,q⟩:=hq6
 unfold DS.zDr at q
 by_cases hx:∃n,DS.zBl mt ms n env S≠.bad
 ·rw[dif_pos hx]at q
  generalize Classical.choose hx=n at q
  refine⟨fun n σ H=>∃env S J,AbS K J S H/\RepE K J H env σ/\PostS K E J H (DS.zBl mt ms n env S) D,⟨n,env,S,J,ha,he,q⟩,?_⟩
  rintro m σ H ⟨env,S,J,ha,he,q⟩
  cases m with
  | zero=>exact False.elim q
  | succ m=>
   refine⟨env,S,J,ha,he,(PostS.then (r:=mt env S) (by unfold DS.zBl at q;exact q)).imp fun k S1 J1 H1 _ a1 g1 q1=>?_⟩
   cases k with
   | false=>exact q1 J1 H1 σ a1 .refl (he.grow g1)
   | true=>
    rw[xc rfl]at q1 ⊢
    refine⟨fun σ H=>∃env S J,AbS K J S H/\RepE K J H env σ/\PostS K E J H (DS.zBl mt ms m env S) D,fun σ' H' w=>⟨m,Nat.lt_succ_self m,w⟩,env,S1,J1,a1,he.grow g1,?_⟩
    cases e:ms env S1 with
    | nx e1 S2=>rw[e]at q1;exact fun J' H' σ' h1 g2 h2=>⟨e1,S2,J',h1,h2,PostS.grow g2 q1⟩
    | ct e1 S2=>rw[e]at q1;exact fun J' H' σ' h1 g2 h2=>⟨e1,S2,J',h1,h2,PostS.grow g2 q1⟩
    | _=>rw[e]at q1;exact q1
 ·rw[dif_neg hx]at q;exact False.elim q⟩
theorem zMe {α:Type}{l:List α}{i:Nat}(h:i<l.length):l.drop i=l[i]::l.drop (i+1):=List.drop_eq_getElem_cons h
theorem zP8 {tg iter:Expr}{body:List Stmt}{im:DS.IM}{g:DS.GM}(hp:PassesOwn (model X.prog X.w) X.A X.env X.xe) (hc:X.calm=true) (hi:DI X K E tg iter im) (hg:DG X K tg g) (hb:DSs X K E body ms) (h:nse iter=true:=by rfl):
  DS1 X K E (.For tg iter body [] pos) (DS.sFor im g ms):=⟨(qfor' hp hc hi.h hg.h hb.h h).imp fun D σ H ⟨env,S,J,ha,he,q⟩=>⟨env,S,J,ha,he,q.then.imp fun w S1 J1 H1 _ a1 g1 q1 I ok=>by
 refine⟨fun i m σ H=>m+i=w.its.length/\∃env S J,AbS K J S H/\Grow J1 H1 J H/\RepE K J H env σ/\PostS K E J H (DS.forL w.gd g ms (w.its.drop i) env S) D,⟨w.its.length,rfl,env,S1,J1,a1,.refl,he.grow g1,q1⟩,?_⟩
 rintro i m σ H ⟨hm,env,S,J,ha,gr,he,q⟩
 by_cases hi:i<w.its.length
 ·rw[zMe hi]at q
  unfold DS.forL at q
  by_cases gd:DS.gOk S w.gd
  ·rw[xc gd]at q
   refine .inr ⟨ok.go i H J S ha gr gd hi,fun σ H=>(m-1)+(i+1)=w.its.length/\∃env S J,AbS K J S H/\Grow J1 H1 J H/\RepE K J H env σ/\PostS K E J H (DS.forL w.gd g ms (w.its.drop (i+1)) env S) D,fun σ' H' wq=>⟨m-1,by nofun,wq⟩,fun x H' y=>?_⟩
   obtain⟨a2,g2,rx⟩:=ok.yld i H J S x H' ha gr gd y _ (xx hi)
   cases eg:g S w.its[i] env with
   | none=>rw[eg]at q;exact False.elim q
   | some env'=>
    rw[eg]at q
    refine⟨env,S,J,w.its[i],env',a2,he.grow g2,rx,eg,fun σ2 he2=>⟨env',S,J,a2,he2,?_⟩⟩
    simp only at q
    cases e:ms env' S with
    | nx e1 S2=>rw[e]at q;exact fun J' H' σ' h1 g3 h2=>⟨by nofun,e1,S2,J',h1,gr.trans (g2.trans g3),h2,PostS.grow (g2.trans g3) q⟩
    | ct e1 S2=>rw[e]at q;exact fun J' H' σ' h1 g3 h2=>⟨by nofun,e1,S2,J',h1,gr.trans (g2.trans g3),h2,PostS.grow (g2.trans g3) q⟩
    | bk e1 S2=>rw[e]at q;exact fun J' H' σ' h1 g3 h2=>q J' H' σ' h1 (g2.trans g3) h2
    | rt e1 S2=>rw[e]at q;exact fun J' H' σ' h1 g3 h2=>q J' H' σ' h1 (g2.trans g3) h2
    | ex e1 S2=>rw[e]at q;exact fun J' H' h1 g3=>q J' H' h1 (g2.trans g3)
    | bad=>rw[e]at q;exact q
  ·rw[xg gd]at q;exact False.elim q
 ·have e0:w.its.drop i=[]:=List.drop_eq_nil_of_le (by nofun)
  rw[e0]at q
  unfold DS.forL at q
  by_cases gd:DS.gOk S w.gd
  ·rw[xc gd]at q
   exact .inl ⟨ok.stop i H J S ha gr gd (by nofun),q J H σ ha .refl he⟩
  ·rw[xg gd]at q;exact False.elim q⟩⟩
theorem zNi {J:Js}{H:Hp}{env:DS.Env}{σ:St}{own:List Str}{ix:List Nat}(he:RepE K J H env σ):RepE K J H (DS.compEnv own.length ix env) (zF5 own ix σ):=by
 refine⟨by simp[DS.compEnv,zF5],fun i d e=>?_⟩
 unfold DS.compEnv at e
 unfold zF5
 by_cases hi:i<own.length
 ·rw[vo (by simpa using hi),List.getElem?_replicate,xc hi]at e
  cases e
 ·rw[ve (by simpa using hi),xR]at e
  rw[ve (by simpa using hi),xR]
  simp only[List.length_replicate,xm]at e ⊢
  cases ej:ix[i-own.length]? with
  | none=>rw[ej]at e;cases e
  | some j=>
   rw[ej]at e
   simp only[uk,Option.some.injEq]at e ⊢
   cases en:env[j]? with
   | none=>rw[en]at e;cases e
   | some o=>
    rw[en]at e
    obtain⟨v,ev,r⟩:=he.get j d (by rw[en];exact congrArg some e)
    exact⟨v,by rw[ev];rfl,r⟩
theorem zMj {own:List Str}{ix:List Nat}{im:DS.IM}{g:DS.GM}:∀σ H Q,tOfF K E (DS.zAl own.length ix im g mt m) σ H Q->zL1 own ix (iOf K E im) (gOf K g) (ttOf K E mt) (tOf K E m) σ H Q:=by
 refine fun σ H Q ⟨env,St,J,ha,hE,q⟩=>⟨env,St,J,ha,hE,q.bind.imp fun w S1 J1 H1 _ a1 g1 q1 I ok=>?_⟩
 refine⟨fun i k ys σ H=>k+i=w.its.length/\∃env S J ds,AbS K J S H/\Grow J1 H1 J H/\RepE K J H env σ/\RepL K J H ds ys/\Post K E J H (DS.zG6 w.gd g mt m ys.length (w.its.drop i) env S) (fun vs S2 J2 H2=>∀p o,H2 p=none->ObD K J2 H2 (.lst (ds++vs)) o->Q (.ref p) (upd H2 p o)),
  ⟨w.its.length,rfl,_,S1,J1,[],a1,.refl,zNi (hE.grow g1),rfl,q1.bind.imp fun vs S2 J2 H2 _ a2 g2 q2=>q2 J2 H2 a2 .refl⟩,?_⟩
 rintro i k ys σ H ⟨hk,env,S,J,ds,ha,gr,hE,rl,q⟩
 by_cases hi:i<w.its.length
 ·rw[zMe hi]at q
  unfold DS.zG6 at q
  by_cases gd:DS.gOk S w.gd/\ys.length<DS.most
  ·rw[xc gd]at q
   refine .inr ⟨ok.go i H J S ha gr gd.1 hi,gd.2,fun ys σ H=>(k-1)+(i+1)=w.its.length/\∃env S J ds,AbS K J S H/\Grow J1 H1 J H/\RepE K J H env σ/\RepL K J H ds ys/\Post K E J H (DS.zG6 w.gd g mt m ys.length (w.its.drop (i+1)) env S) (fun vs S2 J2 H2=>∀p o,H2 p=none->ObD K J2 H2 (.lst (ds++vs)) o->Q (.ref p) (upd H2 p o)),
    fun zs σ' H' wq=>⟨k-1,by nofun,wq⟩,fun x H' y=>?_⟩
   obtain⟨a2,g2,rx⟩:=ok.yld i H J S x H' ha gr gd.1 y _ (xx hi)
   cases eg:g S w.its[i] env with
   | none=>rw[eg]at q;exact False.elim q
   | some env'=>
    rw[eg]at q
    refine⟨env,S,J,w.its[i],env',a2,hE.grow g2,rx,eg,fun σ2 he2=>⟨env',S,J,a2,he2,(Post.grow g2 q).bind.imp fun b S3 J3 H3 _ a3 g3 q3=>?_⟩⟩
    cases b with
    | false=>exact⟨by nofun,env',S3,J3,ds,a3,gr.trans (g2.trans g3),he2.grow g3,RepL.grow (g2.trans g3) _ _ rl,q3⟩
    | true=>
     rw[xc rfl]at q3 ⊢
     refine⟨env',S3,J3,a3,he2.grow g3,q3.bind.imp fun d4 S4 J4 H4 _ a4 g4 q4 v rv=>?_⟩
     have g24:=g2.trans (g3.trans g4)
     refine⟨by nofun,env',S4,J4,ds++[d4],a4,gr.trans g24,he2.grow (g3.trans g4),(RepL.grow g24 _ _ rl).snoc rv,?_⟩
     rw[show(ys++[v]).length=ys.length+1 by simp]
     refine q4.bind.imp fun vs S5 J5 H5 _ a5 g5 q5=>?_
     have:=q5 J5 H5 a5 .refl
     rw[um]
     exact this
  ·rw[xg gd]at q;exact False.elim q
 ·have e0:w.its.drop i=[]:=List.drop_eq_nil_of_le (by nofun)
  rw[e0]at q
  unfold DS.zG6 at q
  by_cases gd:DS.gOk S w.gd
  ·rw[xc gd]at q
   have q2:∀(p:Addr) (o:HO),H p=none->ObD K J H (.lst (ds++[])) o->Q (.ref p) (upd H p o):=q J H ha .refl
   rw[vQ]at q2
   exact .inl ⟨ok.stop i H J S ha gr gd (by nofun),fun p n=>q2 p (.lst ys) n ⟨ys,rfl,rl⟩⟩
  ·rw[xg gd]at q;exact False.elim q
theorem of_imp:∀σ H Q,tOf K E m σ H Q->tOfF K E m σ H Q:=fun σ H Q hz1=>by obtain⟨env,S,J,ha,he,q⟩:=hz1;exact ⟨env,S,J,ha,he,q.map fun d S' J' H' _ h1 g k p o n r=>k J' (upd H' p o) (h1.push n) (g.trans (.push n)) (.ref p) (r.rep h1 n)⟩
theorem zTa {j:Nat}:∀D σ H,tsOf K E (DS.sSet j m) D σ H->tOf K E m σ H (fun x H1=>gName j x σ H1 D.nx):=fun D σ H hz2=>by obtain⟨env,S,J,ha,he,q⟩:=hz2;exact ⟨env,S,J,ha,he,q.then.imp fun d S1 J1 H1 _ a1 g1 q1 v rv=>q1 J1 H1 _ a1 .refl ((he.grow g1).set rv)⟩
theorem zBa {own fre:List Str}{ix:List Nat}{n:Nat}{scope:Scope}{tg elt iter:Expr}{ifs:List Expr}{im:DS.IM}{g:DS.GM}(hc:X.calm=true) (S:CompScope X own fre ix scope) (hi:DI X K E tg iter im)
  (hg:∀cl C s H fp,DG (zAx X (own++fre) scope cl C s H fp) K tg g) (ht:∀cl C s H fp,DIf (zAx X (own++fre) scope cl C s H fp) K E ifs mt) (he:∀cl C s H fp,DE (zAx X (own++fre) scope cl C s H fp) K E elt m)
  (hn:own.length=n:=by rfl) (h:nse iter=true:=by rfl):DF X K E (.ListComp elt [⟨tg,iter,ifs,0⟩] scope pos) (DS.zAl n ix im g mt m):=by
 subst hn
 exact⟨(qlcomp' hc S hi.h (fun _ _ _ _ _=>(hg _ _ _ _ _).h) (fun _ _ _ _ _=>(ht _ _ _ _ _).h) (fun _ _ _ _ _=>(he _ _ _ _ _).h) h).imp zMj⟩
theorem zJg {own fre:List Str}{ix:List Nat}{n:Nat}{scope:Scope}{j:Nat}{x:Str}{cpos pos':Pos}{tg elt iter:Expr}{ifs:List Expr}{im:DS.IM}{g:DS.GM}(hN:X.N.Nodup) (hix:X.N[j]?=some x) (hx:Loc X.env.scope x)
  (hc:X.calm=true) (S:CompScope X own fre ix scope) (hi:DI X K E tg iter im)
  (hg:∀cl C s H fp,DG (zAx X (own++fre) scope cl C s H fp) K tg g) (ht:∀cl C s H fp,DIf (zAx X (own++fre) scope cl C s H fp) K E ifs mt) (he:∀cl C s H fp,DE (zAx X (own++fre) scope cl C s H fp) K E elt m)
  (hsw:swapsWith (.ListComp elt [⟨tg,iter,ifs,0⟩] scope cpos) (some (.Name x pos')) pos.line X.env=pure true:=by rfl) (h:nse iter=true:=by rfl) (hf:X.fn x=true\/X.env.scope.names.lookup x=some .local:=by first|exact .inl rfl|exact .inr rfl|assumption) (hn:own.length=n:=by rfl):
  DS1 X K E (.Assign [.Name x pos'] (.ListComp elt [⟨tg,iter,ifs,0⟩] scope cpos) pos) (DS.sSet j (DS.zAl n ix im g mt m)):=by
 subst hn
 exact⟨(qsetc' hN hix hx hc S hi.h (fun _ _ _ _ _=>(hg _ _ _ _ _).h) (fun _ _ _ _ _=>(ht _ _ _ _ _).h) (fun _ _ _ _ _=>(he _ _ _ _ _).h) hsw h hf).imp fun D σ H h=>zMj σ H _ (of_imp σ H _ (zTa D σ H h))⟩
end
section
variable {P:Program}{w:World}{K:PySem.W.Frag}{mg:Str->Option Value}{base:Heap}
theorem zKn {E:XE}{J:Js}{H:Hp}{np nl:Nat}{b:DS.SM}{ds:List D}{S:Store}{P:D->Store->Js->Hp->Prop}(h:Post K E J H (DS.zB1 np nl b ds S) P):ds.length=np:=by
 unfold DS.zB1 at h
 by_cases e:ds.length=np
 ·exact e
 ·rw[xg e]at h;exact False.elim h
theorem zLv {J:Js}{H:Hp}{ds:List D}{vs:List V}{N:List Str}(r:RepL K J H ds vs):RepE K J H (ds.map some++List.replicate (N.length-ds.length) none) (start N vs):=by
 refine⟨by simp[start,r.length],fun i d e=>?_⟩
 unfold start
 by_cases hi:i<ds.length
 ·rw[vo (by simpa using hi),xR]at e
  rw[vo (by simpa[<- r.length]using hi),xR]
  cases ed:ds[i]? with
  | none=>rw[ed]at e;cases e
  | some d'=>
   rw[ed]at e;cases e
   obtain⟨x,ex,rx⟩:=r.get ed
   exact⟨x,by rw[ex];rfl,rx⟩
 ·rw[ve (by simpa using hi),List.getElem?_replicate]at e
  split at e <;> cases e
theorem zV8 {J:Js}{H:Hp}{np:Nat}{N:List Str}{b:DS.SM}{ds:List D}{vs:List V}{S:Store}{Q:VK}(ha:AbS K J S H) (r:RepL K J H ds vs)
  (h:Post K XE0 J H (DS.zB1 np N.length b ds S) (fun d _ J' H'=>∀v,Rep K J' H' d v->Q v H')):tsOf K XE0 b { nx:=fun _ H'=>Q .non H',rt:=Q } (start N vs) H:=by
 have hl:=zKn h
 unfold DS.zB1 at h
 rw[xc hl,<- hl]at h
 refine⟨_,S,J,ha,zLv r,?_⟩
 have fin:∀d S' J' H' v,AbS K J' S' H'->Grow J H J' H'->Rep K J' H' d v->Post K XE0 J H (DS.fin S d S') (fun d _ J' H'=>∀v,Rep K J' H' d v->Q v H')->Q v H':=fun d S' J' H' v a1 g1 r1 q=>by
  cases e:DS.fin S d S' with
  | ok d2 S2=>
   obtain⟨J2,a2,g2,r2⟩:=zXn ha g1 a1 r1 e
   rw[e]at q
   exact q J2 H' a2 g2 v r2
  | ex x S2=>rw[e]at q;exact False.elim (q J' H' (by
    exfalso
    unfold DS.fin at e
    split at e <;> try cases e
    split at e <;> try cases e
    split at e <;> try cases e
    split at e <;> try cases e
    split at e <;> cases e) g1)
  | bad=>rw[e]at q;exact False.elim q
 cases e:b (ds.map some++List.replicate (N.length-ds.length) none) S with
 | nx e1 S1=>rw[e]at h;exact fun J' H' σ h1 g1 _=>fin .non S1 J' H' .non h1 g1 rfl h
 | rt d S1=>rw[e]at h;exact fun J' H' v h1 g1 r1=>fin d S1 J' H' v h1 g1 r1 h
 | bk e1 S1=>rw[e]at h;exact False.elim h
 | ct e1 S1=>rw[e]at h;exact False.elim h
 | ex x S1=>rw[e]at h;exact h
 | bad=>rw[e]at h;exact False.elim h
theorem fn_d {k:Nat}{x qual:Str}{st:Stmt}{f:Addr}{fd:FuncData}{N ps:List Str}{np nl:Nat}{b:DS.SM}(F:Fun K x qual st f fd) (Sc:zAh N ps (zA6 st)) (hnp:ps.length=np) (hnl:N.length=nl)
  (hb:∀(cdv:Value) (A:Around) (outer:List PySem.Env) (s:Shared) (H:Hp) (E:XK),Room k (A.deeper (envOfC qual (zA6 st) s.heap.objs.size f cdv))->DSs (cxOf CX0 P w K mg base N qual (zA6 st) f cdv A outer s H E).nox K XE0 (zE3 st) b):
  FnOk P w K mg base CX0 (k+1) f fd ps (spOf K XE0 (DS.zB1 np nl b)):=by
 subst hnp hnl
 refine F.ok (k:=k) Sc (fun vs H Q E h=>?_) (fun cdv A outer s H vs Q E hr h=>?_)
 ·obtain⟨J,S,ds,ha,r,q⟩:=h
  rw[<- r.length];exact zKn q
 ·obtain⟨J,S,ds,ha,r,q⟩:=h
  exact⟨_,(hb cdv A outer s H E hr).h.h,zV8 ha r q⟩
theorem zS6 {J:Js}{H:Hp}{np:Nat}{N:List Str}{b:DS.SM}{ds:List D}{vs:List V}{S:Store}{Q:VK}(hl:ds.length=np) (ha:AbS K J S H) (r:RepL K J H ds vs)
  (h:Post K XE0 J H (DS.zJl np N.length b ds S) (fun d _ J' H'=>∀v,Rep K J' H' d v->Q v H')):tsOf K XE0 b { nx:=fun _ H'=>Q .non H',rt:=Q } (start N vs) H:=by
 unfold DS.zJl at h
 rw[xc hl,<- hl]at h
 refine⟨_,S,J,ha,zLv r,?_⟩
 cases e:b (ds.map some++List.replicate (N.length-ds.length) none) S with
 | nx e1 S1=>rw[e]at h;exact fun J' H' σ h1 g1 _=>h J' H' h1 g1 .non rfl
 | rt d S1=>rw[e]at h;exact fun J' H' v h1 g1 r1=>h J' H' h1 g1 v r1
 | bk e1 S1=>rw[e]at h;exact False.elim h
 | ct e1 S1=>rw[e]at h;exact False.elim h
 | ex x S1=>rw[e]at h;exact h
 | bad=>rw[e]at h;exact False.elim h
theorem fn_r {k:Nat}{x qual:Str}{st:Stmt}{f:Addr}{fd:FuncData}{N ps:List Str}{np nl:Nat}{b:DS.SM}(F:Fun K x qual st f fd) (Sc:zAh N ps (zA6 st)) (hnp:ps.length=np) (hnl:N.length=nl)
  (hb:∀(cdv:Value) (A:Around) (outer:List PySem.Env) (s:Shared) (H:Hp) (E:XK),Room k (A.deeper (envOfC qual (zA6 st) s.heap.objs.size f cdv))->DSs (cxOf CX0 P w K mg base N qual (zA6 st) f cdv A outer s H E).nox K XE0 (zE3 st) b):
  FnOk P w K mg base CX0 (k+1) f fd ps (spOf K XE0 (DS.zJl np nl b)):=by
 subst hnp hnl
 have cl:∀{J:Js}{H:Hp}{ds:List D}{S:Store}{P:D->Store->Js->Hp->Prop},Post K XE0 J H (DS.zJl ps.length N.length b ds S) P->ds.length=ps.length:=fun {J H ds S P} h=>by
  unfold DS.zJl at h
  by_cases e:ds.length=ps.length
  ·exact e
  ·rw[xg e]at h;exact False.elim h
 refine F.ok (k:=k) Sc (fun vs H Q E h=>?_) (fun cdv A outer s H vs Q E hr h=>?_)
 ·obtain⟨J,S,ds,ha,r,q⟩:=h
  rw[<- r.length];exact cl q
 ·obtain⟨J,S,ds,ha,r,q⟩:=h
  exact⟨_,(hb cdv A outer s H E hr).h.h,zS6 (cl q) ha r q⟩
end
end L2
namespace DS
open PySem (Str)
noncomputable section
open Classical
noncomputable def big:Nat:=2 ^ 5000
noncomputable def sm (x:Int):Prop:=x.natAbs<big
theorem zQg {x:Int}(h1:-(2 ^ 200)<x) (h2:x<2 ^ 200):sm x:=by
 have h:(2:Nat) ^ 200<=big:=uw (by decide) (by decide)
 have e:((2 ^ 200:Nat):Int)=2 ^ 200:=by norm_cast
 unfold sm
 lia
noncomputable def addD (S:Store) (x y:D):Option D:=match x,y with
 | .int a,.int b=>some (.int (a+b))
 | .str a,.str b=>if a.length+b.length<=most then some (.str (a++b))else none
 | .tup l,.tup m=>if l≠[]/\l.length+m.length<=most then some (.tup (l++m))else none
 | x,y=>match litems S x,litems S y with
  | some l,some m=>if l.length+m.length<=most then some (.lst (l++m))else none
  | _,_=>none
noncomputable def catD (S:Store) (x y:D):Option D:=match litems S x,litems S y with
 | some l,some m=>if l.length+m.length<=most then some (.lst (l++m))else none
 | _,_=>none
noncomputable def subD (_:Store) (x y:D):Option D:=match x,y with
 | .int a,.int b=>some (.int (a-b))
 | _,_=>none
noncomputable def mulD (S:Store) (x y:D):Option D:=match x,y with
 | .int a,.int b=>if sm a/\sm b then some (.int (a*b))else none
 | _,_=>none
noncomputable def zFp (_:Store) (x y:D):Option D:=match x,y with
 | .int a,.int b=>if b≠0/\sm b then some (.int (a.fdiv b))else none
 | _,_=>none
noncomputable def modD (_:Store) (x y:D):Option D:=match x,y with
 | .int a,.int b=>if 0<b then some (.int (a % b))else none
 | _,_=>none
noncomputable def powD (_:Store) (x y:D):Option D:=match x,y with
 | .int a,.int b=>if 0<=b/\b<=1000000/\a.natAbs<2 ^ 64 then some (.int (a ^ b.toNat))else none
 | _,_=>none
noncomputable def negD (_:Store) (x:D):Option D:=match x with
 | .int a=>some (.int (-a))
 | _=>none
noncomputable def iLt (p:Int->Int->Bool) (q:List Nat->List Nat->Bool) (x y:D):Option D:=match x,y with
 | .int a,.int b=>some (.bl (p a b))
 | .str a,.str b=>some (.bl (q a.cps.toList b.cps.toList))
 | _,_=>none
noncomputable def leD (_:Store) (x y:D):Option D:=iLt (fun a b=>decide (a<=b)) (fun a b=>!decide (b<a)) x y
noncomputable def gtD (_:Store) (x y:D):Option D:=match x,y with
 | .int a,.int b=>some (.bl (decide (b<a)))
 | _,_=>none
noncomputable def geD (_:Store) (x y:D):Option D:=match x,y with
 | .int a,.int b=>some (.bl (decide (b<=a)))
 | _,_=>none
noncomputable def isN:D->Bool
 | .non=>true
 | _=>false
noncomputable def isD (_:Store) (x y:D):Option D:=match y with
 | .non=>some (.bl (isN x))
 | _=>none
noncomputable def ixN (n:Nat) (i:Int):Option Nat:=if 0<=i then(if i<n then some i.toNat else none)else if -(n:Int)<=i then some (i+n).toNat else none
noncomputable def atL {α:Type}(xs:List α) (i:Int):Option α:=(ixN xs.length i).bind fun j=>xs[j]?
noncomputable def look2 (ks vs:List D) (k:D):Option D:=match ks,vs with
 | a::r,v::t=>if a=k then some v else look2 r t k
 | _,_=>none
noncomputable def isKey:D->Bool
 | .int _=>true
 | .str _=>true
 | .tup l=>l.all fun d=>match d with
  | .int _=>true
  | .str _=>true
  | _=>false
 | _=>false
noncomputable def zK9 (t:Bool) (k:D):Bool:=isKey k && (match k with
 | .tup _=>t
 | _=>!t)
noncomputable def ixD (S:Store) (x y:D):Option D:=match look S x,y with
 | some (.tup l),.int i=>atL l i
 | some (.lst l),.int i=>atL l i
 | some (.str z),.int i=>if z.length<=most then(atL z.cps.toList i).map fun c=>.str ⟨#[c]⟩else none
 | some (.dct t ks vs),k=>if zK9 t k=true then look2 ks vs k else none
 | _,_=>none
noncomputable def sIx (n d:Nat):Option Int->Nat
 | none=>d
 | some v=>if v<0 then(v+(n:Int)).toNat else min v.toNat n
noncomputable def cutL {α:Type}(xs:List α) (lo hi:Option Int):List α:=(xs.drop (sIx xs.length 0 lo)).take (sIx xs.length xs.length hi-sIx xs.length 0 lo)
noncomputable def slD (S:Store) (x:D) (lo hi:Option Int):Option D:=match x with
 | .tup l=>some (.tup (cutL l lo hi))
 | .ktup l=>if sIx l.length 0 lo=0/\sIx l.length l.length hi=l.length then some (.ktup l)else some (.tup (cutL l lo hi))
 | x=>match look S x with
  | some (.lst l)=>some (.lst (cutL l lo hi))
  | _=>none
noncomputable def repl2:List D->List D->D->D->List D
 | a::r,w::t,k,v=>(if a=k then v else w)::repl2 r t k v
 | _,_,_,_=>[]
noncomputable def put2 (ks vs:List D) (k v:D):List D × List D:=if k∈ks then(ks,repl2 ks vs k v)else(ks++[k],vs++[v])
noncomputable def putD (S:Store) (o k v:D):Option Store:=match o with
 | .ref n=>match S[n]? with
  | some (.lst l)=>(match k with
   | .int i=>(ixN l.length i).map fun j=>S.set n (.lst (l.set j v))
   | _=>none)
  | some (.dct t ks vs)=>if zK9 t k=true/\ks.length<most then some (S.set n (.dct t (put2 ks vs k v).1 (put2 ks vs k v).2))else none
  | _=>none
 | _=>none
noncomputable def lenB (S:Store):List D->Option D
 | [d]=>match look S d with
  | some (.tup l)=>some (.int l.length)
  | some (.lst l)=>some (.int l.length)
  | some (.dct _ ks _)=>some (.int ks.length)
  | some (.str x)=>if x.length<=most then some (.int x.length)else none
  | _=>none
 | _=>none
noncomputable def zC2 (S:Store):List D->Option D
 | [d]=>match d with
  | .tup l=>some (.tup l)
  | .ktup l=>some (.ktup l)
  | d=>(litems S d).map D.tup
 | _=>none
noncomputable def bools:List D->Option (List Bool)
 | []=>some []
 | .bl b::r=>(bools r).map (b::·)
 | _=>none
noncomputable def allB (S:Store):List D->Option D
 | [d]=>((litems S d).bind bools).map fun bs=>.bl (bs.all id)
 | _=>none
noncomputable def max2B (_:Store):List D->Option D
 | [.int i,.int j]=>some (.int (if j > i then j else i))
 | _=>none
noncomputable def min2B (_:Store):List D->Option D
 | [.int i,.int j]=>some (.int (if j<i then j else i))
 | _=>none
noncomputable def absB (_:Store):List D->Option D
 | [.int i]=>some (.int (if i<0 then -i else i))
 | _=>none
noncomputable def kinds:List String:=["int","bool","str","tuple","list","NoneType"]
noncomputable def zXi (U T:String):Bool:=U == T || (U == "bool" && T == "int")
noncomputable def isiB (S:Store):List D->Option D
 | [d,.ty T]=>match d with
  | .ktup _=>none
  | .klst _=>none
  | d=>match tyD S d with
   | some U=>if U∈kinds/\T∈kinds then some (.bl (zXi U T))else none
   | none=>none
 | _=>none
noncomputable def zG9 (S:Store) (o:D) (xs:List D):Option (D × Store):=match o,xs with
 | .ref n,[v]=>match S[n]? with
  | some (.lst l)=>if l.length<most then some (.non,S.set n (.lst (l++[v])))else none
  | _=>none
 | _,_=>none
noncomputable def popM (S:Store) (o:D) (xs:List D):Option (D × Store):=match o,xs with
 | .ref n,[]=>match S[n]? with
  | some (.lst l)=>(l[l.length-1]?).map fun v=>(v,S.set n (.lst l.dropLast))
  | _=>none
 | _,_=>none
noncomputable def zG4 (S:Store) (o:D) (xs:List D):Option (D × Store):=match o,xs with
 | .ref n,[d]=>if d=.ref n then none else match S[n]?,litems S d with
  | some (.lst l),some m=>if l.length+m.length<=most then some (.non,S.set n (.lst (l++m)))else none
  | _,_=>none
 | _,_=>none
end
end DS
namespace L2
open PySem PySem.Spec PyProof.Rows
open DS (D Store Exn Rs SR)
section
variable {X:Cx}{K:PySem.W.Frag}{E:XE}{J:Js}{S:Store}{H:Hp}{d d1 d2:D}{v:V}
theorem Inv.lstR {pins:List (Addr × Obj)}{σ:St}{s:Shared}{l:Addr}{xs:List V}(I:Inv X pins σ H s) (hH:Rd H l (.lst xs)):xs.length<=sizeLine/\∃(its:List Value) (n:Nat),Vals xs its/\xs.length=its.length/\s.heap.get? l=some { cls:=.type "list",data:=.seq its.toArray n }:=by
 obtain⟨z,its,n,r,e⟩:=hH.ok I.hok
 exact⟨z,its,n,r,r.length,e⟩
theorem zEk {l:List D}(ha:AbS K J S H) (r:Rep K J H d v) (e:DS.litems S d=some l):∃a xs,v=.ref a/\Rd H a (.lst xs)/\RepL K J H l xs:=by
 cases d with
 | lst ds=>cases e;obtain⟨a,xs,rfl,t,rl⟩:=r;exact⟨a,xs,rfl,.inl t.1,rl⟩
 | ref n=>
  obtain⟨a,ea,rfl⟩:=r
  obtain⟨c,ec,o,eo,rc⟩:=ha.at ea
  unfold DS.litems DS.look at e
  simp only[ec]at e
  cases c with
  | lst ds=>cases e;obtain⟨xs,rfl,rl⟩:=rc;exact⟨a,xs,rfl,.inl eo,rl⟩
  | dct _ ks vs=>cases e
  | _=>exact False.elim rc
 | _=>cases e
theorem zM9 {l:List D}(ha:AbS K J S H) (r:Rep K J H d v) (e:DS.items S d=some l):∃a xs,v=.ref a/\(SqL K H a xs\/SqT K H a xs)/\RepL K J H l xs:=by
 cases d with
 | tup ds=>cases e;obtain⟨a,xs,rfl,t,rl⟩:=r;exact⟨a,xs,rfl,.inr t.sq,rl⟩
 | ktup ds=>cases e;obtain⟨a,xs,rfl,t,rl⟩:=r;exact⟨a,xs,rfl,.inr t.sq,rl⟩
 | klst ds=>cases e;obtain⟨a,xs,rfl,t,rl⟩:=r;exact⟨a,xs,rfl,.inl t.sq,rl⟩
 | lst ds=>cases e;obtain⟨a,xs,rfl,t,rl⟩:=r;exact⟨a,xs,rfl,.inl t.sq,rl⟩
 | ref n=>
  obtain⟨a,ea,rfl⟩:=r
  obtain⟨c,ec,o,eo,rc⟩:=ha.at ea
  unfold DS.items DS.look at e
  simp only[ec]at e
  cases c with
  | lst ds=>cases e;obtain⟨xs,rfl,rl⟩:=rc;exact⟨a,xs,rfl,.inl (.inl (.inl eo)),rl⟩
  | dct _ ks vs=>cases e
  | _=>exact False.elim rc
 | _=>cases e
theorem zHd:OpR X (binaryOp .Sub) (r2Of K DS.subD):=by
 intro pins s σ H x y v u Q I rx ry hq7
 obtain⟨J,S,d1,d2,d,ha,r1,r2,e,k⟩:=hq7
 unfold DS.subD at e
 split at e
 ·cases e;obtain rfl:=r1;obtain rfl:=r2
  exact zWs pins s σ H _ _ v u Q I rx ry ⟨_,_,rfl,rfl,k _ H ha .refl rfl⟩
 ·cases e
theorem zDi:OpR X (binaryOp .Mult) (r2Of K DS.mulD):=by
 intro pins s σ H x y v u Q I rx ry hq8
 obtain⟨J,S,d1,d2,d,ha,r1,r2,e,k⟩:=hq8
 unfold DS.mulD at e
 split at e
 ·split at e
  ·rename_i h
   cases e;obtain rfl:=r1;obtain rfl:=r2
   exact zUb pins s σ H _ _ v u Q I rx ry ⟨_,_,rfl,rfl,h,k _ H ha .refl rfl⟩
  ·cases e
 ·cases e
theorem zEu:OpR X (binaryOp .FloorDiv) (r2Of K DS.zFp):=by
 intro pins s σ H x y v u Q I rx ry hq9
 obtain⟨J,S,d1,d2,d,ha,r1,r2,e,k⟩:=hq9
 unfold DS.zFp at e
 split at e
 ·split at e
  ·rename_i h
   cases e;obtain rfl:=r1;obtain rfl:=r2
   exact zR6 pins s σ H _ _ v u Q I rx ry ⟨_,_,rfl,rfl,h,k _ H ha .refl rfl⟩
  ·cases e
 ·cases e
theorem zDj:OpR X (binaryOp .Mod) (r2Of K DS.modD):=by
 intro pins s σ H x y v u Q I rx ry hq10
 obtain⟨J,S,d1,d2,d,ha,r1,r2,e,k⟩:=hq10
 unfold DS.modD at e
 split at e
 ·split at e
  ·rename_i h
   cases e;obtain rfl:=r1;obtain rfl:=r2
   exact zWu pins s σ H _ _ v u Q I rx ry ⟨_,_,rfl,rfl,h,k _ H ha .refl rfl⟩
  ·cases e
 ·cases e
theorem zEi:OpR X (binaryOp .Pow) (r2Of K DS.powD):=by
 intro pins s σ H x y v u Q I rx ry hq11
 obtain⟨J,S,d1,d2,d,ha,r1,r2,e,k⟩:=hq11
 unfold DS.powD at e
 split at e
 ·split at e
  ·rename_i h
   cases e;obtain rfl:=r1;obtain rfl:=r2
   exact zWt pins s σ H _ _ v u Q I rx ry ⟨_,_,rfl,rfl,h,k _ H ha .refl rfl⟩
  ·cases e
 ·cases e
theorem zL0:UnR X (unaryOp .USub) (r1Of K DS.negD):=by
 intro pins s σ H x v Q I rx hq12
 obtain⟨J,S,d1,d,ha,r1,e,k⟩:=hq12
 unfold DS.negD at e
 split at e
 ·cases e;obtain rfl:=r1
  exact zVf pins s σ H _ v Q I rx ⟨_,rfl,k _ H ha .refl rfl⟩
 ·cases e
theorem zPm {pins:List (Addr × Obj)}{σ:St}{s:Shared}{a b:Addr}{xs ys:List V}{Q:VK}(I:Inv X pins σ H s) (h1:Rd H a (.lst xs)) (h2:Rd H b (.lst ys)) (hz:xs.length+ys.length<=sizeLine) (q:∀p,H p=none->Q (.ref p) (upd H p (.lst (xs++ys)))):
  wpAny (model X.prog X.w) X.A (binaryOp .Add (.ref a) (.ref b)) (EP X pins σ Q) X.xe s:=by
 obtain⟨z,its,n,r,hl,e⟩:=I.lstR h1
 obtain⟨z2,its2,n2,r2,hl2,e2⟩:=I.lstR h2
 refine PySem.P.add_list e e2 ?_ (by rw[xo,xo,<- hl,<- hl2];exact hz)
 rw[show its.toArray++its2.toArray=(its++its2).toArray by simp]
 exact⟨.ref _,_,I.lnew (t':=s.toks) (r.append r2) (by rw[xI];exact hz),rfl,q _ I.fresh⟩
theorem zR7:OpR X (binaryOp .Add) (zY7 K DS.catD):=by
 intro pins s σ H x y v u Q I rx ry hq13
 obtain⟨J,S,d1,d2,d,ha,r1,r2,e,k⟩:=hq13
 unfold DS.catD at e
 split at e
 ·rename_i l m e1 e2
  split at e
  ·rename_i h
   cases e
   obtain⟨a,xs,rfl,h1,q1⟩:=zEk ha r1 e1
   obtain⟨b,ys,rfl,h2,q2⟩:=zEk ha r2 e2
   cases rx
   cases ry
   exact zPm I h1 h2 (by rw[<- q1.length,<- q2.length];exact h) fun p n=>k p _ H ha .refl n ⟨_,rfl,q1.append q2⟩
  ·cases e
 ·cases e
theorem zAf (hK:X.K=K:=by rfl):OpR X (binaryOp .Add) (r2Of K DS.addD):=by
 subst hK
 intro pins s σ H x y v u Q I rx ry hq14
 obtain⟨J,S,d1,d2,d,ha,r1,r2,e,k⟩:=hq14
 unfold DS.addD at e
 split at e
 ·cases e;obtain rfl:=r1;obtain rfl:=r2
  exact zWy pins s σ H _ _ v u Q I rx ry ⟨_,_,rfl,rfl,k _ H ha .refl rfl⟩
 ·split at e
  ·rename_i h
   cases e;obtain rfl:=r1;obtain rfl:=r2
   exact zN1 pins s σ H _ _ v u Q I rx ry ⟨_,_,rfl,rfl,h,k _ H ha .refl rfl⟩
  ·cases e
 ·split at e
  ·rename_i l m h
   cases e
   obtain⟨a,xs,rfl,t1,q1⟩:=r1
   obtain⟨b,ys,rfl,t2,q2⟩:=r2
   have e1:=q1.length
   have e2:=q2.length
   refine zUc pins s σ H _ _ v u Q I rx ry ⟨a,b,xs,ys,rfl,rfl,t1.sq,t2.sq,fun z=>h.1 (by subst z;exact uz e1),by rw[<- e1,<- e2];exact h.2,fun z=>?_,fun z p n=>?_⟩
   ·subst z
    obtain rfl:m=[]:=uz e2
    rw[vQ]at k
    exact k _ H ha .refl ⟨a,xs,rfl,t1,q1⟩
   ·exact k _ _ (ha.push n) (.push n) ⟨p,_,rfl,⟨zAt,ha.out n⟩,RepL.grow (.push n) _ _ (q1.append q2)⟩
  ·cases e
 ·exact zR7 pins s σ H _ _ v u Q I rx ry ⟨J,S,d1,d2,d,ha,r1,r2,e,fun p o H' a1 g1 n r=>k _ _ (a1.push n) (g1.trans (.push n)) (r.rep a1 n)⟩
end
end L2
namespace L2
open PySem PySem.Spec PyProof.Rows
open DS (D Store Exn Rs SR)
section
variable {X:Cx}{K:PySem.W.Frag}{E:XE}{J:Js}{S:Store}{H:Hp}{d d1 d2:D}{v:V}
theorem zJy:OpR X (compareOp .LtE) (r2Of K DS.leD):=by
 intro pins s σ H x y v u Q I rx ry hq15
 obtain⟨J,S,d1,d2,d,ha,r1,r2,e,k⟩:=hq15
 unfold DS.leD DS.iLt at e
 split at e
 ·cases e;obtain rfl:=r1;obtain rfl:=r2
  exact zYi pins s σ H _ _ v u Q I rx ry ⟨_,_,rfl,rfl,k _ H ha .refl (congrArg V.bl (by congr))⟩
 ·cases e;obtain rfl:=r1;obtain rfl:=r2
  exact zOd pins s σ H _ _ v u Q I rx ry ⟨_,_,rfl,rfl,k _ H ha .refl (congrArg V.bl (by congr))⟩
 ·cases e
theorem zHf:OpR X (compareOp .Gt) (r2Of K DS.gtD):=by
 intro pins s σ H x y v u Q I rx ry hq16
 obtain⟨J,S,d1,d2,d,ha,r1,r2,e,k⟩:=hq16
 unfold DS.gtD at e
 split at e
 ·cases e;obtain rfl:=r1;obtain rfl:=r2
  exact zYj pins s σ H _ _ v u Q I rx ry ⟨_,_,rfl,rfl,k _ H ha .refl (congrArg V.bl (by congr))⟩
 ·cases e
theorem zOf:OpR X (compareOp .GtE) (r2Of K DS.geD):=by
 intro pins s σ H x y v u Q I rx ry hq17
 obtain⟨J,S,d1,d2,d,ha,r1,r2,e,k⟩:=hq17
 unfold DS.geD at e
 split at e
 ·cases e;obtain rfl:=r1;obtain rfl:=r2
  exact zYk pins s σ H _ _ v u Q I rx ry ⟨_,_,rfl,rfl,k _ H ha .refl (congrArg V.bl (by congr))⟩
 ·cases e
theorem zXj (r:Rep K J H d v):decide (v=.non)=DS.isN d:=by
 cases d with
 | non=>obtain rfl:=r;rfl
 | bl b=>obtain rfl:=r;rfl
 | int b=>obtain rfl:=r;rfl
 | str b=>obtain rfl:=r;rfl
 | ty b=>obtain rfl:=r;rfl
 | tup l=>obtain⟨a,xs,rfl,_⟩:=r;rfl
 | ktup l=>obtain⟨a,xs,rfl,_⟩:=r;rfl
 | klst l=>obtain⟨a,xs,rfl,_⟩:=r;rfl
 | lst l=>obtain⟨a,xs,rfl,_⟩:=r;rfl
 | dct t l m=>obtain⟨a,o,xs,rfl,_⟩:=r;rfl
 | st l=>exact False.elim r
 | ref n=>obtain⟨a,_,rfl⟩:=r;rfl
theorem zJz:OpR X (compareOp .Is) (r2Of K DS.isD):=by
 intro pins s σ H x y v u Q I rx ry hq18
 obtain⟨J,S,d1,d2,d,ha,r1,r2,e,k⟩:=hq18
 unfold DS.isD at e
 split at e
 ·cases e;obtain rfl:=r2
  exact zWv pins s σ H _ _ v u Q I rx ry ⟨rfl,k _ H ha .refl (by rw[zXj r1];rfl)⟩
 ·cases e
theorem zXz {α β:Type}{l:List α}{xs:List β}{i:Int}{a:α}(hl:l.length=xs.length) (e:DS.atL l i=some a):∃j:Nat,l[j]?=some a/\∀b,xs[j]?=some b->atI xs i=some b:=by
 unfold DS.atL at e
 unfold atI
 rw[show DS.ixN l.length i=L2.ixN xs.length i by rw[hl];rfl]at e
 cases e1:L2.ixN xs.length i with
 | none=>rw[e1]at e;cases e
 | some j=>rw[e1]at e;exact⟨j,e,fun b eb=>eb⟩
theorem zJe {k k':Key}(h:keyD k=keyD k'):k=k':=by
 cases k <;> cases k' <;> first|(cases h;rfl)|cases h
theorem zJd {k:Key}(r:Rep K J H (keyD k) v):v=kV k:=by cases k <;> exact r
theorem zIh:∀{l m:List Key},l.map keyD=m.map keyD->l=m
 | [],[],_=>rfl
 | [],_::_,h=>by cases h
 | _::_,[],h=>by cases h
 | a::l,b::m,h=>by
  have h:=List.cons.inj h
  rw[zJe h.1,zIh h.2]
theorem zJp {k k':List Key}(h:zNo k=zNo k'):k=k':=zIh (D.tup.inj h)
theorem zLy (h:DS.isKey d=true) (n:∀l,d≠.tup l):∃k,d=keyD k:=by
 cases d with
 | int i=>exact⟨.inl i,rfl⟩
 | str x=>exact⟨.inr x,rfl⟩
 | tup l=>exact absurd rfl (n l)
 | _=>cases h
theorem zLg:∀{l:List D},(l.all fun d=>match d with
  | .int _=>true
  | .str _=>true
  | _=>false)=true->∃k:List Key,l=k.map keyD
 | [],_=>⟨[],rfl⟩
 | d::l,h=>by
  rw[vD,xF]at h
  obtain⟨k,rfl⟩:=zLg h.2
  cases d with
  | int i=>exact⟨.inl i::k,rfl⟩
  | str x=>exact⟨.inr x::k,rfl⟩
  | _=>cases h.1
theorem zJc:∀{k:List Key}{xs:List V},RepL K J H (k.map keyD) xs->xs=k.map kV
 | [],_,h=>h
 | a::k,_,⟨x,r,e,h,t⟩=>by subst e;rw[zJd h,zJc t];rfl
open Classical in
theorem zLi {κ:Type}[DecidableEq κ] {f:κ->D}(fi:∀a b,f a=f b->a=b) (k:κ):∀{kvs:List (κ × V)}{vs:List D},RepL K J H vs (kvs.map (·.2))->
  (valV kvs k=none/\f k ∉ kvs.map (fun p=>f p.1)/\DS.look2 (kvs.map fun p=>f p.1) vs (f k)=none)\/∃w dv,valV kvs k=some w/\f k∈kvs.map (fun p=>f p.1)/\DS.look2 (kvs.map fun p=>f p.1) vs (f k)=some dv/\Rep K J H dv w
 | [],vs,r=>.inl ⟨rfl,by simp,by cases vs <;> rfl⟩
 | p::kvs,[],r=>by have h:p.2::kvs.map (·.2)=[]:=r;cases h
 | p::kvs,dv::vs,⟨x,t,e,h,rl⟩=>by
  have e:=List.cons.inj (show p.2::kvs.map (·.2)=x::t from e)
  obtain⟨rfl,rfl⟩:=e
  by_cases z:p.1=k
  ·refine .inr ⟨p.2,dv,zGz z,by simp[z],?_,h⟩
   unfold DS.look2
   rw[xw]
   exact xc (by rw[z])
  ·have zf:f p.1≠f k:=fun q=>z (fi _ _ q)
   have e1:DS.look2 ((p::kvs).map fun p=>f p.1) (dv::vs) (f k)=DS.look2 (kvs.map fun p=>f p.1) vs (f k):=by
    rw[xw]
    conv=>lhs;unfold DS.look2
    exact xg zf
   rw[zH0 z,e1]
   rcases zLi fi k rl with⟨a1,a2,a3⟩|⟨w,dv',a1,a2,a3,a4⟩
   ·exact .inl ⟨a1,by simp[a2,xB zf] <;> simpa using a2,a3⟩
   ·exact .inr ⟨w,dv',a1,by rw[xw];exact vn _ a2,a3,a4⟩
theorem zV2 {t:Bool}{ks vs:List D}{a:Addr}{o:HO}{xs:List V}{y:V}(he:H a=some o) (ht:DOb o t ks xs) (rl:RepL K J H vs xs) (ry:Rep K J H d y) (hk:DS.zK9 t d=true):
  (DGet H a y none/\d ∉ ks/\DS.look2 ks vs d=none)\/∃w dv,DGet H a y (some w)/\d∈ks/\DS.look2 ks vs d=some dv/\Rep K J H dv w:=by
 unfold DS.zK9 at hk
 rw[xF]at hk
 rcases ht with⟨rfl,kvs,rfl,rfl,rfl⟩|⟨rfl,kvs,rfl,rfl,rfl⟩
 ·obtain⟨k,rfl⟩:=zLy hk.1 fun l z=>by subst z;cases hk.2
  obtain rfl:=zJd ry
  rcases zLi (fun a b=>zJe) k rl with⟨a1,a2,a3⟩|⟨w,dv,a1,a2,a3,a4⟩
  ·exact .inl ⟨.inl ⟨kvs,k,.inl he,rfl,a1.symm⟩,a2,a3⟩
  ·exact .inr ⟨w,dv,.inl ⟨kvs,k,.inl he,rfl,a1.symm⟩,a2,a3,a4⟩
 ·cases d with
  | tup l=>
   obtain⟨k,rfl⟩:=zLg (show _=true from hk.1)
   obtain⟨b,zs,rfl,tb,rz⟩:=ry
   obtain rfl:=zJc rz
   rcases zLi (f:=zNo) (fun a b=>zJp) k rl with⟨a1,a2,a3⟩|⟨w,dv,a1,a2,a3,a4⟩
   ·exact .inl ⟨.inr ⟨kvs,k,b,.inl he,rfl,tb.1,a1.symm⟩,a2,a3⟩
   ·exact .inr ⟨w,dv,.inr ⟨kvs,k,b,.inl he,rfl,tb.1,a1.symm⟩,a2,a3,a4⟩
  | _=>cases hk.2
theorem zSt {t:Bool}{ks vs:List D}(ha:AbS K J S H) (r:Rep K J H d v) (e:DS.look S d=some (.dct t ks vs)):∃a o xs,v=.ref a/\H a=some o/\DOb o t ks xs/\RepL K J H vs xs:=by
 cases d with
 | dct t ks vs=>cases e;obtain⟨a,o,xs,rfl,_,h,q,rl⟩:=r;exact⟨a,o,xs,rfl,h,q,rl⟩
 | ref n=>
  obtain⟨a,ea,rfl⟩:=r
  obtain⟨c,ec,o,eo,rc⟩:=ha.at ea
  have e:S[n]?=_:=e
  rw[ec]at e;cases e
  obtain⟨xs,q,rl⟩:=rc
  exact⟨a,o,xs,rfl,eo,q,rl⟩
 | _=>cases e
theorem zNt {x:Str}(ha:AbS K J S H) (r:Rep K J H d v) (e:DS.look S d=some (.str x)):v=.str x:=by
 cases d with
 | str x=>cases e;exact r
 | ref n=>
  obtain⟨a,ea,rfl⟩:=r
  obtain⟨c,ec,o,eo,rc⟩:=ha.at ea
  have e:S[n]?=_:=e
  rw[ec]at e;cases e
  exact False.elim rc
 | _=>cases e
theorem zEz {l:List D}(e:DS.look S d=some (.tup l)\/DS.look S d=some (.lst l)):DS.items S d=some l:=by
 unfold DS.items
 rcases e with e|e <;> rw[e]
theorem ix_D (hu:X.A.units+1<cLine) (hK:X.K=K:=by rfl):IxR X (r2Of K DS.ixD):=by
 subst hK
 intro value slice pins s σ H x y v u Q I rx ry hq19 hs
 obtain⟨J,S,d1,d2,d,ha,r1,r2,e,k⟩:=hq19
 have seq:∀(l:List D) (i:Int),DS.items S d1=some l->d2=.int i->DS.atL l i=some d->wpAny (model X.prog X.w) X.A (subscriptTail value slice v u) (EP X pins σ Q) X.xe s:=fun l i e1 e2 e3=>by
  subst e2
  obtain rfl:=r2
  obtain⟨a,xs,rfl,hq,rl⟩:=zM9 ha r1 e1
  obtain⟨j,ej,h⟩:=zXz (xs:=xs) rl.length e3
  obtain⟨w,ew,rw'⟩:=rl.get ej
  rcases hq with hq|hq
  ·exact zUn value slice pins s σ H _ _ v u Q I rx ry ⟨a,xs,i,w,rfl,rfl,hq,h w ew,k w H ha .refl rw'⟩ hs
  ·exact zXc value slice pins s σ H _ _ v u Q I rx ry ⟨a,xs,i,w,rfl,rfl,hq,h w ew,k w H ha .refl rw'⟩ hs
 unfold DS.ixD at e
 split at e
 ·rename_i l i e1;exact seq l i (zEz (.inl e1)) rfl e
 ·rename_i l i e1;exact seq l i (zEz (.inr e1)) rfl e
 ·rename_i z i e1
  split at e
  ·rename_i hz
   cases e2:DS.atL z.cps.toList i with
   | none=>rw[e2]at e;cases e
   | some c=>
    rw[e2]at e;cases e
    obtain rfl:=zNt ha r1 e1
    obtain rfl:=r2
    exact zXd value slice pins s σ H _ _ v u Q I rx ry ⟨z,i,c,rfl,rfl,hz,by unfold DS.atL at e2;unfold atI;exact e2,k _ H ha .refl rfl⟩ hs
  ·cases e
 ·rename_i t ks vs kk e1
  split at e
  ·rename_i hk
   obtain⟨a,o,xs,rfl,he,q,rl⟩:=zSt ha r1 e1
   rcases zV2 he q rl r2 hk with⟨_,_,h⟩|⟨w,dv,g,_,h,rw'⟩
   ·rw[h]at e;cases e
   ·rw[h]at e;cases e
    obtain rfl:v=Value.ref a:=rx
    exact tail_any (ops:=[.ref a,u]) (zLj I g) PySem.F.slot_dict_getitem.lookup (zPe hu I g ry fun w' s3 I3 rw2=>⟨w,H,I3,rw2,k w H ha .refl rw'⟩) hs
  ·cases e
 ·cases e
theorem zD5 {prog:Program}{w:World}{A:Around}{E:Value->Shared->Prop}{s:Shared}{t sl:Addr}{items:Array Value}{vl vu:Value}{lo hi:Option Int}{Q:Value->Shared->Prop}(ht:IsTup s.heap t items) (hs:s.heap.IsSliceOf sl vl vu .none) (pl:IsPart vl lo) (pu:IsPart vu hi)
  (hw:HT.sIx items.size 0 lo=0/\HT.sIx items.size items.size hi=items.size) (h:Q (.ref t) s):wpAny (model prog w) A (getItem (.ref t) (.ref sl)) Q E s:=by
 obtain⟨os,hos,hcs,hds⟩:=id hs
 have hTs:s.TypeIs (.ref sl) "slice":=⟨os,hos,hcs⟩
 unfold getItem
 try with_reducible refine xH ?_
 first|refine xa (xf ?_)|skip
 refine xa (wpAny_sequenceKey ht.typeIs (by decide) ?_)
 refine xa (vf (name:=Str.ofString "__getitem__") ht.typeIs vp (x8 vp ht.typeIs entry_tuple_getitem ?_ (args_tuple_getitem _ _)))
 show wpAny _ _ (Builtin.Tuple.tupleItemsOf (.ref t) >>= _) _ _ s
 refine xa (tupleItemsOf_ ht ?_)
 refine xa (wpAny_typeOf hTs ?_)
 rw[xc (by decide)]
 refine xa (HT.sliceApplied_gen hs pl pu ?_)
 show wpAny _ _ (if(((HT.sIx items.size 0 lo:Nat):Int) == 0 && (1:Int) == 1 && (HT.sIx items.size items.size hi-HT.sIx items.size 0 lo) == items.size)=true then _ else _) _ _ s
 rw[xc (by rw[hw.1,hw.2];simp)]
 have tex:∀{Q:Bool->Shared->Prop},Q true s->wpAny (model prog w) A.in1 (Builtin.Tuple.tupleIsExact (.ref t)) Q E s:=fun {Q} q=>by
  unfold Builtin.Tuple.tupleIsExact
  refine xa (wpAny_typeOf ht.typeIs (xf ?_))
  exact q
 refine xa (tex ?_)
 rw[xc rfl]
 refine xa (vA ?_)
 exact xf ⟨_,rfl,xf h⟩
theorem zLl {l:List D}{xs:List V}(rl:RepL K J H l xs) (lo hi:Option Int):RepL K J H (DS.cutL l lo hi) (cutV xs lo hi):=by
 unfold DS.cutL cutV
 rw[show DS.sIx l.length 0 lo=HT.sIx xs.length 0 lo by rw[rl.length];rfl,show DS.sIx l.length l.length hi=HT.sIx xs.length xs.length hi by rw[rl.length];rfl]
 exact(rl.drop _).take _
theorem zPf {l:List D}{xs:List V}{lo hi:Option Int}(rl:RepL K J H l xs) (hw:HT.sIx xs.length 0 lo=0/\HT.sIx xs.length xs.length hi=xs.length):DS.cutL l lo hi=l:=by
 unfold DS.cutL
 rw[show DS.sIx l.length 0 lo=HT.sIx xs.length 0 lo by rw[rl.length];rfl,show DS.sIx l.length l.length hi=HT.sIx xs.length xs.length hi by rw[rl.length];rfl,hw.1,hw.2,<- rl.length]
 simp
theorem zM5 {l:List D}(ha:AbS K J S H) (r:Rep K J H d v) (e:DS.look S d=some (.lst l)):∃a xs,v=.ref a/\SqL K H a xs/\RepL K J H l xs:=by
 cases d with
 | lst l=>cases e;obtain⟨a,xs,rfl,t,rl⟩:=r;exact⟨a,xs,rfl,t.sq,rl⟩
 | klst l=>cases e;obtain⟨a,xs,rfl,t,rl⟩:=r;exact⟨a,xs,rfl,t.sq,rl⟩
 | ref n=>
  obtain⟨a,ea,rfl⟩:=r
  obtain⟨c,ec,o,eo,rc⟩:=ha.at ea
  have e:S[n]?=_:=e
  rw[ec]at e;cases e
  obtain⟨xs,rfl,rl⟩:=rc
  exact⟨a,xs,rfl,.inl (.inl eo),rl⟩
 | _=>cases e
theorem sl_D (hK:X.K=K:=by rfl):SlR X (slOf K DS.slD):=by
 subst hK
 intro pins s σ H x v vl vu lo hi sl Q I rx hs pl pu hq20
 obtain⟨J,S,d1,d,ha,r1,e,k⟩:=hq20
 unfold DS.slD at e
 split at e
 ·rename_i l
  cases e
  have r0:=r1
  obtain⟨a,xs,rfl,t,rl⟩:=r1
  by_cases hw:HT.sIx xs.length 0 lo=0/\HT.sIx xs.length xs.length hi=xs.length
  ·cases rx
   obtain⟨its,r,ht,hz⟩:=I.tuple t.sq
   have hlen:its.toArray.size=xs.length:=by rw[xo];exact r.length.symm
   refine⟨"tuple",_,vp.lookup,ht.typeIs,zD5 ht hs pl pu (by rw[hlen];exact hw) ⟨.ref a,H,I,rfl,k _ H ha .refl ?_⟩⟩
   rw[zPf rl hw];exact r0
  ·exact zSe pins s σ H _ v vl vu lo hi sl Q I rx hs pl pu ⟨a,xs,rfl,t.sq,hw,fun p n=>k _ _ (ha.push n) (.push n) ⟨p,_,rfl,⟨zAt,ha.out n⟩,RepL.grow (.push n) _ _ (zLl rl lo hi)⟩⟩
 ·rename_i l
  have r0:=r1
  obtain⟨a,xs,rfl,t,rl⟩:=r1
  split at e
  ·rename_i hw
   cases e
   have hw:HT.sIx xs.length 0 lo=0/\HT.sIx xs.length xs.length hi=xs.length:=by rw[<- rl.length];exact hw
   cases rx
   obtain⟨its,r,ht,hz⟩:=I.tuple (t.sq (H:=H))
   have hlen:its.toArray.size=xs.length:=by rw[xo];exact r.length.symm
   exact⟨"tuple",_,vp.lookup,ht.typeIs,zD5 ht hs pl pu (by rw[hlen];exact hw) ⟨.ref a,H,I,rfl,k _ H ha .refl r0⟩⟩
  ·rename_i hw
   cases e
   have hw:¬ (HT.sIx xs.length 0 lo=0/\HT.sIx xs.length xs.length hi=xs.length):=by rw[<- rl.length];exact hw
   exact zSe pins s σ H _ v vl vu lo hi sl Q I rx hs pl pu ⟨a,xs,rfl,t.sq,hw,fun p n=>k _ _ (ha.push n) (.push n) ⟨p,_,rfl,⟨zAt,ha.out n⟩,RepL.grow (.push n) _ _ (zLl rl lo hi)⟩⟩
 ·split at e
  ·rename_i l e1
   cases e
   obtain⟨a,xs,rfl,t,rl⟩:=zM5 ha r1 e1
   exact zT7 pins s σ H _ v vl vu lo hi sl Q I rx hs pl pu ⟨a,xs,rfl,t,fun p n=>k _ _ (ha.push n) (.push n) ⟨p,_,rfl,⟨zAt,ha.out n⟩,RepL.grow (.push n) _ _ (zLl rl lo hi)⟩⟩
  ·cases e
end
end L2
namespace L2
open PySem PySem.Spec PyProof.Rows
open DS (D Store Exn Rs SR)
section
variable {X:Cx}{K:PySem.W.Frag}{E:XE}{J:Js}{S:Store}{H:Hp}{d d1 d2:D}{v:V}
noncomputable def pOf (K:PySem.W.Frag) (g:Store->D->D->D->Option Store):TSet:=fun o i v H Q=>∃J S d1 d2 d3 S',AbS K J S H/\Rep K J H d1 o/\Rep K J H d2 i/\Rep K J H d3 v/\g S d1 d2 d3=some S'/\∀H',AbS K J S' H'->Grow J H J H'->Q H'
open Classical in
theorem zSh {κ:Type}[DecidableEq κ] {f:κ->D}(fi:∀a b,f a=f b->a=b) {k:κ}{dv:D}{w:V}{kvs:List (κ × V)}{vs:List D}(r:RepL K J H vs (kvs.map (·.2))) (rv:Rep K J H dv w):
  (DS.put2 (kvs.map fun p=>f p.1) vs (f k) dv).1=(putK kvs k w).map (fun p=>f p.1)/\RepL K J H (DS.put2 (kvs.map fun p=>f p.1) vs (f k) dv).2 ((putK kvs k w).map (·.2)):=by
 have any_iff:(kvs.any fun kv=>decide (kv.1=k))=true <-> f k∈kvs.map fun p=>f p.1:=by
  simp only[List.any_eq_true,decide_eq_true_eq,xG]
  constructor
  ·rintro⟨p,hp,e⟩;exact⟨p,hp,by rw[e]⟩
  ·rintro⟨p,hp,e⟩;exact⟨p,hp,fi _ _ e⟩
 unfold DS.put2 putK
 by_cases hm:f k∈kvs.map fun p=>f p.1
 ·rw[xc hm,xc (any_iff.mpr hm)]
  refine⟨?_,?_⟩
  ·rw[xM]
   refine List.map_congr_left fun p _=>?_
   show f p.1=f (if p.1=k then(p.1,w)else p).1
   split <;> rfl
  ·clear hm any_iff
   induction kvs generalizing vs with
   | nil=>cases vs <;> rfl
   | cons p kvs ih=>
    cases vs with
    | nil=>cases r
    | cons dw vs=>
     obtain⟨x,t,e,h,rl⟩:=r
     have e:=List.cons.inj (show p.2::kvs.map (·.2)=x::t from e)
     obtain⟨rfl,rfl⟩:=e
     refine⟨(if p.1=k then(p.1,w)else p).2,_,rfl,?_,ih rl⟩
     by_cases z:p.1=k
     ·rw[xc z,xc (show f p.1=f k by rw[z])];exact rv
     ·rw[xg z,xg fun q=>z (fi _ _ q)];exact h
 ·rw[xg hm,xg (fun z=>hm (any_iff.mp z))]
  refine⟨by simp,?_⟩
  rw[vU]
  exact r.snoc rv
theorem zVp (hu:X.A.units+1<cLine):PSet X (pOf K DS.putD):=by
 intro pins s σ H o i v ov iv u Q I ro ri rv hq21
 obtain⟨J,S,d1,d2,d3,S',ha,r1,r2,r3,e,k⟩:=hq21
 unfold DS.putD at e
 split at e
 ·rename_i n
  obtain⟨a,ea,rfl⟩:=r1
  obtain⟨c,ec,ob,eo,rc⟩:=ha.at ea
  split at e
  ·rename_i l es
   rw[ec]at es;cases es
   obtain⟨xs,rfl,rl⟩:=rc
   cases d2 with
   | int i'=>
    obtain rfl:=r2
    simp only at e
    cases ej:DS.ixN l.length i' with
    | none=>rw[ej]at e;cases e
    | some j=>
     rw[ej]at e;cases e
     refine set_list pins s σ H _ _ v ov iv u Q I ro ri rv ⟨a,xs,i',j,rfl,rfl,eo,by rw[<- rl.length];exact ej,?_⟩
     exact k _ (ha.write ea ⟨_,rfl,rl.set j r3⟩) (.write ea)
   | _=>cases e
  ·rename_i t ks vs es
   rw[ec]at es;cases es
   obtain⟨xs,q,rl⟩:=rc
   split at e
   ·rename_i hk
    cases e
    cases ro
    have fin:∀H',DPut H a i v H'->AbS K J (S.set n (.dct t (DS.put2 ks vs d2 d3).1 (DS.put2 ks vs d2 d3).2)) H'->Grow J H J H'->wpAny (model X.prog X.w) X.A (setItem (.ref a) iv u) (fun _ s'=>∃H',Inv X pins σ H' s'/\Q H') X.xe s:=fun H' g a1 g1=>
     zPd hu I g ri rv fun s' I'=>⟨H',I',k H' a1 g1⟩
    have hk1:=hk.1
    unfold DS.zK9 at hk1
    rw[xF]at hk1
    rcases q with⟨rfl,kvs,rfl,rfl,rfl⟩|⟨rfl,kvs,rfl,rfl,rfl⟩
    ·obtain⟨kk,rfl⟩:=zLy hk1.1 fun l z=>by subst z;cases hk1.2
     obtain rfl:=zJd r2
     obtain⟨p1,p2⟩:=zSh (fun a b=>zJe) (k:=kk) rl r3
     refine fin _ (.inl ⟨kvs,kk,eo,rfl,by have:=hk.2;rw[xm]at this;exact this,rfl⟩) (ha.write ea ⟨_,.inl ⟨rfl,_,rfl,p1,rfl⟩,p2⟩) (.write ea)
    ·cases d2 with
     | tup l=>
      obtain⟨kk,rfl⟩:=zLg (show _=true from hk1.1)
      obtain⟨b,zs,rfl,tb,rz⟩:=r2
      obtain rfl:=zJc rz
      obtain⟨p1,p2⟩:=zSh (f:=zNo) (fun a b=>zJp) (k:=kk) rl r3
      refine fin _ (.inr ⟨kvs,kk,b,eo,rfl,tb.1,by have:=hk.2;rw[xm]at this;exact this,rfl⟩) (ha.write ea ⟨_,.inr ⟨rfl,_,rfl,p1,rfl⟩,p2⟩) (.write ea)
     | _=>cases hk1.2
   ·cases e
  ·cases e
 ·cases e
theorem zP7 {o i e:Expr}{mo mi m:DS.EM}{sp2 pos:Pos}{g:Store->D->D->D->Option Store}(hs:PSet X (pOf K g)) (ho:DE X K E o mo) (hi:DE X K E i mi) (he:DE X K E e m) (h:nsl i=true:=by rfl) (h2:nco e=true:=by rfl):DS1 X K E (.Assign [.Subscript o i sp2] e pos) (DS.sPut g mo mi m):=
 ⟨(qasgs' he.h (zTw ho.h hi.h hs h) h2).imp fun D σ H ⟨env,S,J,ha,he,q⟩=>⟨env,S,J,ha,he,q.then.imp fun dv S1 J1 H1 _ a1 g1 q1 v rv=>⟨env,S1,J1,a1,he.grow g1,q1.then.imp fun dx S2 J2 H2 _ a2 g2 q2 x rx=>
  ⟨env,S2,J2,a2,he.grow (g1.trans g2),q2.then.imp fun di S3 J3 H3 _ a3 g3 q3 y ry=>by
   cases e1:g S3 dx di dv with
   | none=>rw[e1]at q3;exact False.elim q3
   | some S4=>
    rw[e1]at q3
    exact⟨J3,S3,dx,di,dv,S4,a3,Rep.grow g3 _ _ rx,ry,Rep.grow (g2.trans g3) _ _ rv,e1,fun H' h1 h2=>q3 J3 H' σ h1 h2 (he.grow (g1.trans (g2.trans (g3.trans h2))))⟩⟩⟩⟩⟩
theorem zCu {ds:List D}{xs:List V}{d:D}(r:RepL K J H [d] xs):∃x,xs=[x]/\Rep K J H d x:=by
 obtain⟨x,t,rfl,h,rfl⟩:=r
 exact⟨x,rfl,h⟩
theorem zXw {pins:List (Addr × Obj)}{σ:St}{s:Shared}{a:Addr}{kvs:List (List Key × V)}{Q:Value->Shared->Prop}{A:Around}{E:Value->Shared->Prop}(I:Inv X pins σ H s) (e:H a=some (.dT kvs)) (h:∀t s',Inv X pins σ H s'->Q (.int kvs.length t) s'):wpAny (model X.prog X.w) A (call (.builtin "len") [.ref a]) Q E s:=by
 obtain⟨z,hd,xs,rel,dd⟩:=zRv I.hok (.inl e)
 have hT:s.TypeIs (.ref a) "dict":=dd.typeIs
 obtain⟨o,es,ep,ho,hx,hdat,hes,hall,hn⟩:=dd
 have hsz:es.size=kvs.length:=by rw[<- uu,hes,xm,<- Paired.length rel]
 rw[vP]at z
 have mt:MeetsIn X.prog X.w (Builtin.«dict.__len__» ⟨[.ref a],[]⟩) (fun _ R s'=>s'=s/\R (.ok (.ret (.int kvs.length s'.toks))) { s' with toks:=s'.toks+1 }):=.of_wp fun A R s' hq22=>by
  obtain⟨e,h⟩:=hq22
  subst e
  show wpAny _ _ (dictSize a >>= _) _ _ s'
  unfold dictSize
  refine xa (xa (wpAny_dictEntries ho hdat (xf ?_)))
  show wpAny _ _ (Builtin.Dict.pendingCount a >>= _) _ _ s'
  refine xa (wpAny_pendingCount_other hd ?_)
  refine wpAny_ret_mkInt ?_
  rw[Nat.add_zero,hsz];exact h
 refine Calls.call_function_entry kind_len plain_len entry_len (args_len1 _) ?_
 unfold Builtin.«len»
 refine xa (m:=oneArg "len" _) (xf ?_)
 refine xa (m:=callSpecial? (.ref a) (Str.ofString "__len__")) (vf (name:=Str.ofString "__len__") hT PySem.F.slot_dict_len (call_meetsIn PySem.F.slot_dict_len hT PySem.F.entry_dict_len (PySem.F.args_dict_len_1 _) mt ⟨rfl,?_⟩))
 show wpAny _ _ _ _ _ { s with toks:=s.toks+1 }
 refine xa (xH (xf ?_))
 refine xa (wpAny_letGo ?_)
 show wpAny _ _ (if((kvs.length:Nat):Int)<0 then _ else _) _ _ _
 rw[xg (by nofun)]
 show wpAny _ _ (if((kvs.length:Nat):Int) >= 2 ^ 63 then _ else _) _ _ _
 rw[xg (by nofun)]
 exact xa (wpAny_mkInt (xf ⟨_,rfl,h _ _ (I.tok _)⟩))
theorem zAq (hK:X.K=K:=by rfl):zCb X (.builtin "len") (cOf K DS.lenB):=by
 subst hK
 intro pins s σ H xs us Q I r hq23
 obtain⟨J,S,ds,d,ha,rl,e,k⟩:=hq23
 unfold DS.lenB at e
 split at e
 ·rename_i d0
  obtain⟨x,rfl,rx⟩:=zCu (ds:=[]) rl
  have seq:∀l,DS.items S d0=some l->d=.int l.length->wpAny (model X.prog X.w) X.A (call (.builtin "len") us) (EP X pins σ Q) X.xe s:=fun l e1 e2=>by
   subst e2
   obtain⟨a,ys,rfl,hq,q⟩:=zM9 ha rx e1
   exact zKl pins s σ H _ us Q I r ⟨a,ys,rfl,hq,k _ H ha .refl (by rw[q.length];rfl)⟩
  split at e
  ·rename_i l e1;cases e;exact seq l (zEz (.inl e1)) rfl
  ·rename_i l e1;cases e;exact seq l (zEz (.inr e1)) rfl
  ·rename_i t ks vs e1
   cases e
   obtain⟨a,o,ys,rfl,he,q,_⟩:=zSt ha rx e1
   obtain⟨u,rfl,ru⟩:=vals1 r
   cases ru
   rcases q with⟨rfl,kvs,rfl,rfl,rfl⟩|⟨rfl,kvs,rfl,rfl,rfl⟩
   ·exact zYv I (.inl he) fun t s' I'=>⟨.int kvs.length,H,I',⟨t,rfl⟩,k _ H ha .refl (by rw[xm];rfl)⟩
   ·exact zXw I he fun t s' I'=>⟨.int kvs.length,H,I',⟨t,rfl⟩,k _ H ha .refl (by rw[xm];rfl)⟩
  ·rename_i z e1
   split at e
   ·rename_i hz
    cases e
    obtain rfl:=zNt ha rx e1
    exact zKk pins s σ H _ us Q I r ⟨z,rfl,hz,k _ H ha .refl rfl⟩
   ·cases e
  ·cases e
 ·cases e
theorem zAy (hK:X.K=K:=by rfl):zCb X (.type "tuple") (cOf K DS.zC2):=by
 subst hK
 intro pins s σ H xs us Q I r hq24
 obtain⟨J,S,ds,d,ha,rl,e,k⟩:=hq24
 unfold DS.zC2 at e
 split at e
 ·rename_i d0
  obtain⟨x,rfl,rx⟩:=zCu (ds:=[]) rl
  split at e
  ·rename_i l
   cases e
   have r0:=rx
   obtain⟨a,ys,rfl,t,q⟩:=rx
   exact zE4 pins s σ H _ us Q I r ⟨a,ys,rfl,.inr ⟨t.sq,k _ H ha .refl r0⟩⟩
  ·rename_i l
   cases e
   have r0:=rx
   obtain⟨a,ys,rfl,t,q⟩:=rx
   exact zE4 pins s σ H _ us Q I r ⟨a,ys,rfl,.inr ⟨t.sq,k _ H ha .refl r0⟩⟩
  ·cases e1:DS.litems S d0 with
   | none=>rw[e1]at e;cases e
   | some l=>
    rw[e1]at e;cases e
    obtain⟨a,ys,rfl,hq,q⟩:=zEk ha rx e1
    exact zE4 pins s σ H _ us Q I r ⟨a,ys,rfl,.inl ⟨.inl hq,fun p n=>k _ _ (ha.push n) (.push n) ⟨p,ys,rfl,⟨zAt,ha.out n⟩,RepL.grow (.push n) _ _ q⟩⟩⟩
 ·cases e
theorem zMn:∀{l:List D}{xs:List V}{bs:List Bool},RepL K J H l xs->DS.bools l=some bs->xs=bs.map V.bl
 | [],_,_,r,e=>by cases e;exact r
 | d::l,_,bs,⟨x,t,e0,h,rl⟩,e=>by
  subst e0
  cases d with
  | bl b=>
   unfold DS.bools at e
   cases e1:DS.bools l with
   | none=>rw[e1]at e;cases e
   | some cs=>rw[e1]at e;cases e;rw[zMn rl e1,show x=.bl b from h];rfl
  | _=>cases e
theorem zG8 (hc:X.calm=true) (hK:X.K=K:=by rfl):zCb X (.builtin "all") (cOf K DS.allB):=by
 subst hK
 intro pins s σ H xs us Q I r hq25
 obtain⟨J,S,ds,d,ha,rl,e,k⟩:=hq25
 unfold DS.allB at e
 split at e
 ·rename_i d0
  obtain⟨x,rfl,rx⟩:=zCu (ds:=[]) rl
  cases e1:DS.litems S d0 with
  | none=>rw[e1]at e;cases e
  | some l=>
   rw[e1]at e
   cases e2:DS.bools l with
   | none=>simp[e2]at e
   | some bs=>
    simp only[Option.bind_some,e2,uk,Option.some.injEq]at e
    subst e
    obtain⟨a,ys,rfl,hq,q⟩:=zEk ha rx e1
    obtain rfl:=zMn q e2
    exact zPt hc pins s σ H _ us Q I r ⟨a,bs,rfl,.inl hq,k _ H ha .refl rfl⟩
 ·cases e
theorem zH9 {d1 d2:D}{xs:List V}(r:RepL K J H [d1,d2] xs):∃x y,xs=[x,y]/\Rep K J H d1 x/\Rep K J H d2 y:=by
 obtain⟨x,t,rfl,h,y,t',rfl,h',rfl⟩:=r
 exact⟨x,y,rfl,h,h'⟩
theorem zIo (hc:X.calm=true):zCb X (.builtin "max") (cOf K DS.max2B):=by
 intro pins s σ H xs us Q I r hq26
 obtain⟨J,S,ds,d,ha,rl,e,k⟩:=hq26
 unfold DS.max2B at e
 split at e
 ·obtain⟨x,y,rfl,rx,ry⟩:=zH9 rl
  obtain rfl:=rx;obtain rfl:=ry
  cases e
  exact zPq hc pins s σ H _ us Q I r ⟨_,_,rfl,k _ H ha .refl (congrArg V.int (by congr))⟩
 ·cases e
theorem zIn (hc:X.calm=true):zCb X (.builtin "min") (cOf K DS.min2B):=by
 intro pins s σ H xs us Q I r hq27
 obtain⟨J,S,ds,d,ha,rl,e,k⟩:=hq27
 unfold DS.min2B at e
 split at e
 ·obtain⟨x,y,rfl,rx,ry⟩:=zH9 rl
  obtain rfl:=rx;obtain rfl:=ry
  cases e
  exact zPo hc pins s σ H _ us Q I r ⟨_,_,rfl,k _ H ha .refl (congrArg V.int (by congr))⟩
 ·cases e
theorem zDw:zCb X (.builtin "abs") (cOf K DS.absB):=by
 intro pins s σ H xs us Q I r hq28
 obtain⟨J,S,ds,d,ha,rl,e,k⟩:=hq28
 unfold DS.absB at e
 split at e
 ·obtain⟨x,rfl,rx⟩:=zCu (ds:=[]) rl
  obtain rfl:=rx
  cases e
  exact zS3 pins s σ H _ us Q I r ⟨_,rfl,k _ H ha .refl (congrArg V.int (by congr))⟩
 ·cases e
theorem zN5:MtR X "list.append" (mOf K DS.zG9):=by
 intro pins s σ H x xs v us Q I rx rs hq29
 obtain⟨J,S,d1,ds,d,S',ha,r1,rl,e,k⟩:=hq29
 unfold DS.zG9 at e
 split at e
 ·rename_i n dv
  obtain⟨a,ea,rfl⟩:=r1
  obtain⟨c,ec,ob,eo,rc⟩:=ha.at ea
  obtain⟨y,rfl,ry⟩:=zCu (ds:=[]) rl
  split at e
  ·rename_i l es
   rw[ec]at es;cases es
   obtain⟨ys,rfl,rl⟩:=rc
   split at e
   ·rename_i hz
    cases e
    exact zOm pins s σ H _ _ v us Q I rx rs ⟨a,ys,y,rfl,rfl,eo,by rw[<- rl.length];exact hz,k _ _ (ha.write ea ⟨_,rfl,rl.snoc ry⟩) (.write ea) rfl⟩
   ·cases e
  ·cases e
 ·cases e
theorem zUe:MtR X "list.pop" (mOf K DS.popM):=by
 intro pins s σ H x xs v us Q I rx rs hq30
 obtain⟨J,S,d1,ds,d,S',ha,r1,rl,e,k⟩:=hq30
 unfold DS.popM at e
 split at e
 ·rename_i n
  obtain⟨a,ea,rfl⟩:=r1
  obtain⟨c,ec,ob,eo,rc⟩:=ha.at ea
  obtain rfl:=rl
  split at e
  ·rename_i l es
   rw[ec]at es;cases es
   obtain⟨ys,rfl,rl⟩:=rc
   cases e1:l[l.length-1]? with
   | none=>rw[e1]at e;cases e
   | some w=>
    rw[e1]at e
    simp only[uk,Option.some.injEq,Prod.mk.injEq]at e
    obtain⟨rfl,rfl⟩:=e
    obtain⟨y,ey,ry⟩:=rl.get e1
    have g:Grow J H J (upd H a (.lst ys.dropLast)):=.write ea
    exact zX3 pins s σ H _ _ v us Q I rx rs ⟨a,ys,y,rfl,rfl,eo,by rw[<- rl.length];exact ey,k _ _ (ha.write ea ⟨_,rfl,rl.dropLast⟩) g (Rep.grow g _ _ ry)⟩
  ·cases e
 ·cases e
theorem zN4:MtR X "list.extend" (mOf K DS.zG4):=by
 intro pins s σ H x xs v us Q I rx rs hq31
 obtain⟨J,S,d1,ds,d,S',ha,r1,rl,e,k⟩:=hq31
 unfold DS.zG4 at e
 split at e
 ·rename_i n dv
  obtain⟨a,ea,rfl⟩:=r1
  obtain⟨c,ec,ob,eo,rc⟩:=ha.at ea
  obtain⟨y,rfl,ry⟩:=zCu (ds:=[]) rl
  split at e
  ·cases e
  ·split at e
   ·rename_i l m es em
    rw[ec]at es;cases es
    obtain⟨ys,rfl,rl'⟩:=rc
    obtain⟨b,zs,rfl,hq,q⟩:=zEk ha ry em
    split at e
    ·rename_i hz
     cases e
     cases rx
     obtain⟨u,rfl,ru⟩:=rs.one
     cases ru
     obtain⟨z,its,n,r,hl,e⟩:=I.lstM eo
     obtain⟨z2,its2,n2,r2,hl2,e2⟩:=I.lstR hq
     have hsz:its.toArray.size+its2.toArray.size<=sizeLine:=by rw[xo,xo,<- hl,<- hl2,<- rl'.length,<- q.length];exact hz
     have hlong:¬ (!its.toArray.isEmpty && Builtin.List.listTooLong (its.toArray.size+its2.toArray.size))=true:=by rw[zR8 hsz,Bool.and_false];exact uc
     refine call_meets F.slot_list_extend ⟨_,e,rfl⟩ F.entry_list_extend (F.args_list_extend_2 _ _) (AutoSeq1.list_extend_list_list_0 a its.toArray n b its2.toArray n2 hlong (by rw[xo];lia) (by nofun)) ⟨e,e2,?_⟩
     exact⟨.non,_,I.lset (its':=its++its2) eo e (by simp) (r.append r2) (by rw[xI,<- rl'.length,<- q.length];exact hz),rfl,k _ _ (ha.write ea ⟨_,rfl,rl'.append q⟩) (.write ea) rfl⟩
    ·cases e
   ·cases e
 ·cases e
end
end L2
namespace L2
open PySem PySem.Spec PyProof.Rows
open DS (D Store Exn Rs SR)
section
variable {X:Cx}{K:PySem.W.Frag}{E:XE}{J:Js}{S:Store}{H:Hp}{d d1 d2:D}{v:V}
theorem zOx {tg:Expr}{pins:List (Addr × Obj)}{s1:Shared}{σ:St}{H1:Hp}{R:It->Hp->Prop}{a:Addr}{xs:List V}(I1:Inv X pins σ H1 s1) (hq:SqL X.K H1 a xs) (q:R (Itl X.K a) H1):wpAny (model X.prog X.w) X.A (pyIter (.ref a)) (PIE X pins σ tg R) X.xe s1:=by
 obtain⟨its,rv,p,hz⟩:=I1.list hq
 refine ui p.isList ?_
 refine⟨s1.heap.objs.size,[s1.heap.objs.size],_,_,H1,rfl,I1.kept (t':=s1.toks) fun b o e=>xk _ e,zNn a _,⟨_,xA _ rfl,rfl,rfl⟩,fun b hb=>?_,q⟩
 have e:b=s1.heap.objs.size:=by simpa using hb
 subst e
 exact I1.fpOk (xh _) (I1.hok.fresh (xh _))
theorem zRi {tg:Expr}{pins:List (Addr × Obj)}{s1:Shared}{σ:St}{H1:Hp}{R:It->Hp->Prop}{a:Addr}{xs:List V}(I1:Inv X pins σ H1 s1) (hq:SqT X.K H1 a xs) (q:R (Itt X.K a) H1):wpAny (model X.prog X.w) X.A (pyIter (.ref a)) (PIE X pins σ tg R) X.xe s1:=by
 obtain⟨its,rv,p,hz⟩:=I1.tuple hq
 refine wpAny_pyIter_tuple (show s1.heap.IsTuple a its.toArray from p) ?_
 refine⟨s1.heap.objs.size,[s1.heap.objs.size],_,_,H1,rfl,I1.kept (t':=s1.toks) fun b o e=>xk _ e,zMt a _,⟨_,xA _ rfl,rfl,rfl⟩,fun b hb=>?_,q⟩
 have e:b=s1.heap.objs.size:=by simpa using hb
 subst e
 exact I1.fpOk (xh _) (I1.hok.fresh (xh _))
theorem zRj {tg:Expr}{pins:List (Addr × Obj)}{s1:Shared}{σ:St}{H1:Hp}{R:It->Hp->Prop}{z:Str}{t:Tok}(I1:Inv X pins σ H1 s1) (ha:z.cps.all (·<128)=true) (q:R (Its z) H1):wpAny (model X.prog X.w) X.A (pyIter (.str z t)) (PIE X pins σ tg R) X.xe s1:=by
 refine wpAny_pyIter_ascii ha ?_
 refine⟨s1.heap.objs.size,[s1.heap.objs.size],_,Its z,H1,rfl,I1.kept (t':=s1.toks) fun b o e=>xk _ e,zQ7 s1.heap.objs.size z t,⟨Nat.zero_le _,_,xA _ rfl,rfl,rfl⟩,fun b hb=>?_,q⟩
 have e:b=s1.heap.objs.size:=by simpa using hb
 subst e
 exact I1.fpOk (xh _) (I1.hok.fresh (xh _))
theorem stays_list {l:List D}(ha:AbS K J S H) (r:Rep K J H d v) (e:DS.look S d=some (.lst l)):∃a xs,v=.ref a/\SqL K H a xs/\∀J' H' S',Grow J H J' H'->AbS K J' S' H'->DS.gOk S' (DS.gdOf S d)->∃ys,SqL K H' a ys/\RepL K J' H' l ys:=by
 cases d with
 | lst l=>cases e;obtain⟨a,xs,rfl,t,rl⟩:=r;exact⟨a,xs,rfl,t.sq,fun J' H' S' g _ _=>⟨xs,(t.grow g).sq,RepL.grow g _ _ rl⟩⟩
 | klst l=>cases e;obtain⟨a,xs,rfl,t,rl⟩:=r;exact⟨a,xs,rfl,t.sq,fun J' H' S' g _ _=>⟨xs,(t.grow g).sq,RepL.grow g _ _ rl⟩⟩
 | ref n=>
  obtain⟨a,ea,rfl⟩:=r
  obtain⟨c,ec,o,eo,rc⟩:=ha.at ea
  have e:S[n]?=_:=e
  rw[ec]at e;cases e
  obtain⟨xs,rfl,rl⟩:=rc
  refine⟨a,xs,rfl,.inl (.inl eo),fun J' H' S' g ha' gd=>?_⟩
  have e':S'[n]?=some (.lst l):=gd (n,.lst l) (by simp[DS.gdOf,ec])
  obtain⟨o',eo',rc'⟩:=ha'.ob n a _ (g.pre n a ea) e'
  obtain⟨ys,rfl,rl'⟩:=rc'
  exact⟨ys,.inl (.inl eo'),rl'⟩
 | _=>cases e
theorem stays_tup {l:List D}(ha:AbS K J S H) (r:Rep K J H d v) (e:DS.look S d=some (.tup l)):∃a xs,v=.ref a/\SqT K H a xs/\∀J' H',Grow J H J' H'->SqT K H' a xs/\RepL K J' H' l xs:=by
 cases d with
 | tup l=>cases e;obtain⟨a,xs,rfl,t,rl⟩:=r;exact⟨a,xs,rfl,t.sq,fun J' H' g=>⟨(t.grow g).sq,RepL.grow g _ _ rl⟩⟩
 | ktup l=>cases e;obtain⟨a,xs,rfl,t,rl⟩:=r;exact⟨a,xs,rfl,t.sq,fun J' H' g=>⟨t.sq,RepL.grow g _ _ rl⟩⟩
 | ref n=>
  obtain⟨a,ea,rfl⟩:=r
  obtain⟨c,ec,o,eo,rc⟩:=ha.at ea
  have e:S[n]?=_:=e
  rw[ec]at e;cases e
  exact False.elim rc
 | _=>cases e
theorem zUo {a:Addr}{l:List D}{gd:List (Nat × D)}(h:∀J' H' S',Grow J H J' H'->AbS K J' S' H'->DS.gOk S' gd->∃ys,SqL K H' a ys/\RepL K J' H' l ys):ItOk K J H ⟨l,gd⟩ (Itl K a) where
 go:=fun i H' J' S' ha g gd hi=>by
  obtain⟨ys,q,rl⟩:=h J' H' S' g ha gd
  exact⟨ys,ys[i]'(by rw[<- rl.length];exact hi),q,xx _⟩
 yld:=fun i H' J' S' x H'' ha g gd y d ed=>by
  obtain⟨rfl,y⟩:=y
  obtain⟨ys,q,rl⟩:=h J' H'' S' g ha gd
  obtain⟨x',ex,rx⟩:=rl.get ed
  rw[y ys q]at ex;cases ex
  exact⟨ha,.refl,rx⟩
 stop:=fun i H' J' S' ha g gd hi=>by
  obtain⟨ys,q,rl⟩:=h J' H' S' g ha gd
  exact⟨ys,q,by rw[<- rl.length];exact hi⟩
theorem zXf {a:Addr}{xs:List V}{l:List D}{gd:List (Nat × D)}(h:∀J' H',Grow J H J' H'->SqT K H' a xs/\RepL K J' H' l xs):ItOk K J H ⟨l,gd⟩ (Itt K a) where
 go:=fun i H' J' S' ha g gd hi=>by
  obtain⟨q,rl⟩:=h J' H' g
  exact⟨xs,xs[i]'(by rw[<- rl.length];exact hi),q,xx _⟩
 yld:=fun i H' J' S' x H'' ha g gd y d ed=>by
  obtain⟨rfl,y⟩:=y
  obtain⟨q,rl⟩:=h J' H'' g
  obtain⟨x',ex,rx⟩:=rl.get ed
  rw[y xs q]at ex;cases ex
  exact⟨ha,.refl,rx⟩
 stop:=fun i H' J' S' ha g gd hi=>by
  obtain⟨q,rl⟩:=h J' H' g
  exact⟨xs,q,by rw[<- rl.length];exact hi⟩
theorem zXg {x:Str}:ItOk K J H ⟨DS.chars x,[]⟩ (Its x) where
 go:=fun i H' J' S' ha g gd hi=>by
  have:(DS.chars x).length=x.cps.size:=by simp[DS.chars]
  show i<x.cps.size
  rw[<- this];exact hi
 yld:=fun i H' J' S' y H'' ha g gd yl d ed=>by
  obtain⟨rfl,c,ec,rfl⟩:=yl
  have e:(DS.chars x)[i]?=some (D.str ⟨#[c]⟩):=by
   unfold DS.chars
   rw[xR,Array.getElem?_toList,ec];rfl
  rw[e]at ed;cases ed
  exact⟨ha,.refl,rfl⟩
 stop:=fun i H' J' S' ha g gd hi=>by
  have:(DS.chars x).length=x.cps.size:=by simp[DS.chars]
  show x.cps.size<=i
  rw[<- this];exact hi
theorem zCs {tg e:Expr}{m:DS.EM}(he:DE X K E e m) (hK:X.K=K:=by rfl):DI X K E tg e (DS.iVal m):=by
 subst hK
 refine⟨⟨fun pins s σ H R I hq1=>?_⟩⟩
 obtain⟨env,S,J,ha,hE,q⟩:=hq1
 refine thn (he.h.h pins s σ H (fun x H1=>∃J1 S1 d w,AbS X.K J1 S1 H1/\Rep X.K J1 H1 d x/\DS.zFl S1 d=some w/\∀It,ItOk X.K J1 H1 w It->R It H1) I ⟨env,S,J,ha,hE,q.bind.imp fun d S1 J1 H1 _ a1 g1 q1 x rx=>?_⟩) fun v s1 hq1=>?_
 ·obtain⟨w,ew,k⟩:=q1.lift
  exact⟨J1,S1,d,w,a1,rx,ew,k J1 H1 a1 .refl⟩
 ·obtain⟨x,H1,I1,r1,J1,S1,d,w,a1,rx,ew,k⟩:=hq1
  unfold DS.zFl at ew
  split at ew
  ·rename_i l el
   cases ew
   obtain⟨a,xs,rfl,hq,st⟩:=stays_tup a1 rx el
   cases r1
   exact zRi I1 hq (k _ (zXf st))
  ·rename_i l el
   cases ew
   obtain⟨a,xs,rfl,hq,st⟩:=stays_list a1 rx el
   cases r1
   exact zOx I1 hq (k _ (zUo st))
  ·rename_i z ez
   split at ew
   ·rename_i hz
    cases ew
    obtain rfl:=zNt a1 rx ez
    obtain⟨t,rfl⟩:=r1
    exact zRj I1 hz (k _ zXg)
   ·cases ew
  ·cases ew
theorem zRk {lo:Int}{n:Nat}:ItOk K J H ⟨(List.range n).map fun(k:Nat)=>D.int (lo+k),[]⟩ (Itr lo n) where
 go:=fun i H' J' S' ha g gd hi=>by show i<n;simpa using hi
 yld:=fun i H' J' S' y H'' ha g gd yl d ed=>by
  obtain⟨rfl,rfl⟩:=yl
  rw[xR]at ed
  by_cases hi:i<n
  ·rw[List.getElem?_range hi]at ed
   cases ed
   exact⟨ha,.refl,rfl⟩
  ·rw[vG (by simpa using hi)]at ed
   cases ed
 stop:=fun i H' J' S' ha g gd hi=>by show n<=i;simpa using hi
theorem fits_of {i:Int}(h:DS.fits62 i=true):-(2 ^ 62)<=i/\i<2 ^ 62:=of_decide_eq_true h
theorem zEo {tg a:Expr}{p pos:Pos}{am:DS.AM}(hg:Gl X "range") (hm:X.mg "range"=none) (ha:DA X K E [a] am) (h:nst a=true:=by rfl):DI X K E tg (.Call (.Name "range" p) [a] [] pos) (DS.zF2 am):=
 ⟨(qrange1' hg hm ha.h h).imp fun σ H R ⟨env,S,J,h,hE,q⟩=>⟨env,S,J,h,hE,q.bind.imp fun ds S1 J1 H1 e1 a1 g1 q1 xs rx=>by
  obtain⟨w,ew,k⟩:=q1.lift
  have hl:=ha.len _ _ _ _ e1
  match ds,hl with
  | [d],_=>
   obtain⟨x,rfl,r⟩:=zCu (ds:=[]) rx
   cases d with
   | int j=>
    unfold DS.zJ1 at ew
    simp only at ew
    by_cases hf:DS.fits62 j=true
    ·rw[xc hf]at ew;cases ew
     obtain rfl:=r
     refine⟨j,rfl,(fits_of hf).1,(fits_of hf).2,k J1 H1 a1 .refl _ ?_⟩
     have e:DS.zIf 0 j=(List.range j.toNat).map fun(k:Nat)=>D.int (0+k):=by unfold DS.zIf;rw[Int.sub_zero]
     rw[e]
     exact zRk
    ·rw[xg hf]at ew;cases ew
   | _=>cases ew⟩⟩
theorem zUl (K:PySem.W.Frag) {U T:String}(hU:U∈DS.kinds) (hT:T∈DS.kinds):PySem.W.kitOne K (.type U) (.type T)=some (DS.zXi U T):=by
 unfold DS.kinds at hU hT
 simp only[xi,xt,xu]at hU hT
 rcases hU with rfl|rfl|rfl|rfl|rfl|rfl <;> rcases hT with rfl|rfl|rfl|rfl|rfl|rfl <;> first
  | rfl
  | (unfold PySem.W.kitOne;rfl)
  | (unfold PySem.W.kitOne;simp;rfl)
theorem zQ6 {U:String}(ha:AbS K J S H) (r:Rep K J H d v) (h:DS.tyD S d=some U) (hn:∀l,d≠.ktup l) (hn':∀l,d≠.klst l) (hU:U≠"set"):TyOf K H v (.type U):=by
 cases d with
 | non=>obtain rfl:=r;cases h;exact .non
 | bl b=>obtain rfl:=r;cases h;exact .bl b
 | int b=>obtain rfl:=r;cases h;exact .int b
 | str b=>obtain rfl:=r;cases h;exact .str b
 | tup l=>obtain⟨a,xs,rfl,t,_⟩:=r;cases h;exact .tup t.1
 | lst l=>
  obtain⟨a,xs,rfl,t,_⟩:=r;cases h
  exact .lst t.1
 | dct t ks vs=>
  obtain⟨a,o,xs,rfl,_,e,t,_⟩:=r;cases h
  rcases t with⟨_,kvs,rfl,_⟩|⟨_,kvs,rfl,_⟩
  ·exact .dK e
  ·exact .dT e
 | ktup l=>exact absurd rfl (hn l)
 | klst l=>exact absurd rfl (hn' l)
 | ref n=>
  obtain⟨a,ea,rfl⟩:=r
  obtain⟨c,ec,o,eo,rc⟩:=ha.at ea
  have el:DS.look S (.ref n)=some c:=ec
  unfold DS.tyD at h
  rw[el]at h
  cases c with
  | lst ds=>cases h;obtain⟨xs,rfl,_⟩:=rc;exact .lst eo
  | dct _ ks vs=>
   cases h
   obtain⟨xs,t,_⟩:=rc
   rcases t with⟨_,kvs,rfl,_⟩|⟨_,kvs,rfl,_⟩
   ·exact .dK eo
   ·exact .dT eo
  | _=>exact False.elim rc
 | st l=>exact False.elim r
 | ty n=>cases h
theorem zCk (hK:X.K=K:=by rfl):zCb X (.builtin "isinstance") (cOf K DS.isiB):=by
 subst hK
 intro pins s σ H xs us Q I r hq32
 obtain⟨J,S,ds,d,ha,rl,e,k⟩:=hq32
 unfold DS.isiB at e
 split at e
 ·rename_i d0 T
  obtain⟨x,y,rfl,rx,ry⟩:=zH9 rl
  obtain rfl:=ry
  split at e
  ·cases e
  ·cases e
  ·rename_i n1 n2
   cases e1:DS.tyD S d0 with
   | none=>rw[e1]at e;cases e
   | some U=>
    rw[e1]at e
    simp only at e
    split at e
    ·rename_i h
     cases e
     have hs:U≠"set":=fun z=>by subst z;exact absurd h.1 (by decide)
     exact zS2 _ pins s σ H _ us Q I r ⟨x,_,rfl,zQ6 ha rx e1 (fun l z=>n1 l z) (fun l z=>n2 l z) hs,zUl _ h.1 h.2,k _ H ha .refl rfl⟩
    ·cases e
 ·cases e
end
end L2
namespace L2
theorem len0 {α:Type}:∀{l:List α},l.length=0->l=[]
 | [],_=>rfl
 | _::_,h=>nomatch h
theorem lenS {α:Type}{n:Nat}{l:List α}(h:l.length=n+1):∃a r,l=a::r/\r.length=n:=by
 cases l with
 | nil=>cases h
 | cons a r=>exact⟨a,r,rfl,Nat.succ.inj h⟩
theorem len1 {α:Type}{l:List α}(h:l.length=1):∃a,l=[a]:=by obtain⟨a,r,e,q⟩:=lenS h;exact⟨a,by rw[e,len0 q]⟩
theorem len2 {α:Type}{l:List α}(h:l.length=2):∃a b,l=[a,b]:=by obtain⟨a,r,e,q⟩:=lenS h;obtain⟨b,e2⟩:=len1 q;exact⟨a,b,by rw[e,e2]⟩
theorem len3 {α:Type}{l:List α}(h:l.length=3):∃a b c,l=[a,b,c]:=by obtain⟨a,r,e,q⟩:=lenS h;obtain⟨b,c,e2⟩:=len2 q;exact⟨a,b,c,by rw[e,e2]⟩
end L2
namespace L2
open PySem PySem.Spec PyProof.Rows
open DS (D Store Exn Rs SR)
theorem zNw {K:PySem.W.Frag}{F:DS.Fn}{H:Hp}{a:Addr}{ns:List Int}{XX:XK}(h:∃S,F [.klst (ns.map D.int)] []=.ok (.bl true) S) (hS:SqL K H a (ns.map V.int)):spOf K XE0 F [.ref a] H (fun v _=>v=.bl true) XX:=by
 obtain⟨S,e⟩:=h
 refine⟨[],[],[.klst (ns.map D.int)],⟨rfl,List.nodup_nil,fun i a d e _=>by simp at e⟩,⟨.ref a,[],rfl,⟨a,ns.map V.int,rfl,?_,.ints⟩,rfl⟩,?_⟩
 ·rcases hS with h|h
  ·exact .inl ⟨h,by simp⟩
  ·exact .inr h
 ·rw[e]
  exact fun J' H' _ _ v r=>r
end L2
namespace EK
open PySem
open DS (D)
inductive A2 {α β:Type}(R:α->β->Prop):List α->List β->Prop where
 | nil:A2 R [] []
 | cons {a:α}{b:β}{l:List α}{m:List β}:R a b->A2 R l m->A2 R (a::l) (b::m)
theorem A2.length {α β:Type}{R:α->β->Prop}{l:List α}{m:List β}(h:A2 R l m):l.length=m.length:=by
 induction h with
 | nil=>rfl
 | cons _ _ ih=>simp[ih]
noncomputable def Ek (h:Heap):Nat->D->Value->Prop
 | 0,d,v=>∃i t,d=.int i/\v=.int i t
 | n+1,d,v=>∃ds a o items k,d=.tup ds/\v=.ref a/\h.get? a=some o/\o.cls=.type "tuple"/\o.data=.seq items k/\A2 (Ek h n) ds items.toList
theorem A2.inj {α β:Type}{R R':α->β->Prop}{l l':List α}{m:List β}(h:A2 R l m) (h':A2 R' l' m) (k:∀a a' b,R a b->R' a' b->a=a'):l=l':=by
 induction h generalizing l' with
 | nil=>cases h';rfl
 | cons h _ ih=>
  cases h' with
  | cons q r=>rw[k _ _ _ h q,ih r]
theorem Ek.inj {h:Heap}:∀{n:Nat}{d d':D}{v:Value},Ek h n d v->Ek h n d' v->d=d'
 | 0,_,_,_,⟨i,t,e1,e2⟩,⟨j,u,e3,e4⟩=>by subst e1 e2 e3;cases e4;rfl
 | n+1,_,_,_,⟨ds,a,o,items,k,e1,e2,h1,h2,h3,r⟩,⟨ds',a',o',items',k',e1',e2',h1',h2',h3',r'⟩=>by
  subst e1 e2 e1'
  cases e2'
  obtain rfl:o=o':=xD (h1.symm.trans h1')
  rw[h3]at h3'
  injection h3' with q _
  subst q
  rw[r.inj r' fun _ _ _ x y=>Ek.inj x y]
mutual
noncomputable def hD:D->Int
 | .int i=>hashInt i
 | .tup l=>reduceHash (Builtin.Tuple.tupleHashOf (hL l))
 | _=>0
noncomputable def hL:List D->List Int
 | []=>[]
 | d::r=>hD d::hL r
end
section
variable {prog:Program}{w:World}{s:Shared}
theorem Ek.typeIs {n:Nat}{d:D}{a:Addr}(h:Ek s.heap (n+1) d (.ref a)):s.TypeIs (.ref a) "tuple":=by
 obtain⟨ds,a',o,items,k,e1,e2,h1,h2,h3,r⟩:=h
 cases e2
 exact⟨o,h1,h2⟩
open Classical in
theorem zRu:∀(n:Nat) {d d':D}{v v':Value}{A:Around}{E:Value->Shared->Prop}{s:Shared}{Q:Bool->Shared->Prop},Ek s.heap n d v->Ek s.heap n d' v'->A.units+n<cLine->Q (decide (d=d')) s->wpAny (model prog w) A (eqBool v v') Q E s
 | 0,_,_,_,_,A,E,s,Q,⟨i,t,e1,e2⟩,⟨j,u,e3,e4⟩,_,h=>by
  subst e1 e2 e3 e4
  refine wpAny_eqBool_int ?_
  have:(i == j)=decide (D.int i=D.int j):=by
   by_cases q:i=j
   ·subst q;simp
   ·rw[xq (fun z=>q (by cases z;rfl))];simpa using q
  rw[this];exact h
 | n+1,_,_,_,_,A,E,s,Q,hx,hy,hu,h=>by
  have hx0:=hx
  have hy0:=hy
  obtain⟨ds,a,oa,xs,ka,rfl,rfl,hoa,hca,hda,ra⟩:=hx
  obtain⟨es,b,ob,ys,kb,rfl,rfl,hob,hcb,hdb,rb⟩:=hy
  unfold eqBool
  try with_reducible refine xH ?_
  show wpAny _ _ (if(Value.ref a == Value.ref b)=true then _ else _) Q E s
  by_cases hab:(Value.ref a == Value.ref b)=true
  ·rw[xc hab]
   have e:a=b:=by have:=eq_of_beq hab;injection this
   subst e
   have e2:=hx0.inj hy0
   rw[xl e2]at h
   exact xa (vA (xf h))
  ·rw[xg hab]
   suffices hc:wpAny (model prog w) A (call (.builtin "tuple.__eq__") [.ref a,.ref b]) (fun v s'=>v=.bool (decide (D.tup ds=D.tup es))/\s'=s) E s from
    xa (wpAny_richCompare_same_room (op:=.Eq) hx0.typeIs hy0.typeIs F.slot_tuple_eq (xW hc (fun v s' q=>by
     obtain⟨rfl,rfl⟩:=q
     exact⟨(fun e=>nomatch e),vz h⟩) fun _ _ x=>x) (by nofun))
   refine x8 F.slot_tuple_eq hx0.typeIs F.entry_tuple_eq ?_ (F.args_tuple_eq_2 _ _)
   have fin:∀c:Bool,c=decide (D.tup ds=D.tup es)->∃v,(PySem.Fin.done (.ret (.bool c)):PySem.Fin)=.done (.ret v)/\v=.bool (decide (D.tup ds=D.tup es))/\s=s:=fun c hc=>⟨_,rfl,by rw[hc],rfl⟩
   show wpAny _ _ (isInstance (.ref b) (.type "tuple") >>= _) _ _ s
   refine xa (uj hy0.typeIs isSubtype_tuple_tuple ?_)
   simp only[Bool.not_true,xX,xO]
   refine xa (wpAny_tupleItemsOf hoa hda (xa (wpAny_tupleItemsOf hob hdb (xa ?_))))
   refine wpAny_forIn_list _ (fun rest r s'=>r.1=none/\s'=s/\∃(x' y':List D) (xs' ys':List Value),rest=List.zip xs' ys'/\A2 (Ek s.heap n) x' xs'/\A2 (Ek s.heap n) y' ys'/\(x'=y' <-> ds=es)/\(xs'.length == ys'.length)=(xs.size == ys.size)) _ ?_ ?_ _ _ ⟨rfl,rfl,ds,es,xs.toList,ys.toList,rfl,ra,rb,Iff.rfl,by simp⟩
   ·rintro⟨u,v⟩ rest r s' ⟨hr,rfl,x',y',xs',ys',hz,hx',hy',hdec,hlen⟩
    cases hx' with
    | nil=>simp at hz
    | @cons k1 u' x'' xs'' h1 hx''=>
     cases hy' with
     | nil=>simp at hz
     | @cons k2 v' y'' ys'' h2 hy''=>
      simp only[uo,List.cons.injEq,Prod.mk.injEq]at hz
      obtain⟨⟨rfl,rfl⟩,rfl⟩:=hz
      refine xa (zRu n h1 h2 (by show A.units+1+n<cLine;lia) ?_)
      by_cases hk:k1=k2
      ·subst hk
       rw[xl rfl]
       simp only[Bool.not_true,xX,xO]
       refine xf ⟨rfl,rfl,x'',y'',xs'',ys'',rfl,hx'',hy'',?_,by simpa using hlen⟩
       rw[<- hdec];simp
      ·rw[xq hk]
       simp only[Bool.not_false,xy]
       have hf:¬ ds=es:=fun z=>hk (by have:=hdec.mpr z;cases this;rfl)
       exact xa (xf (xf (xf (fin false (by rw[xq];intro z;cases z;exact hf rfl)))))
   ·rintro⟨r1,r2⟩ s' ⟨hr,rfl,x',y',xs',ys',hz,hx',hy',hdec,hlen⟩
    simp only at hr
    subst hr
    refine xf ?_
    have hfin:(xs.size == ys.size)=decide (D.tup ds=D.tup es):=by
     have e3:decide (D.tup ds=D.tup es)=decide (x'=y'):=decide_eq_decide.mpr (by rw[D.tup.injEq];exact hdec.symm)
     rw[e3,<- hlen]
     cases hx' with
     | nil=>
      cases hy' with
      | nil=>simp
      | cons _ _=>simp
     | cons _ _=>
      cases hy' with
      | nil=>simp
      | cons _ _=>simp at hz
    exact fin _ hfin
end
end EK
namespace DS
open PySem (Str)
noncomputable section
open Classical
mutual
noncomputable def blt:D->D->Bool
 | .int a,.int b=>decide (a<b)
 | .tup l,.tup m=>bltL l m
 | _,_=>false
noncomputable def bltL:List D->List D->Bool
 | [],[]=>false
 | [],_::_=>true
 | _::_,[]=>false
 | a::r,b::t=>if a=b then bltL r t else blt a b
end
noncomputable def lv:Nat->D->Prop
 | 0,d=>∃i,d=.int i
 | n+1,d=>∃l,d=.tup l/\∀x∈l,lv n x
theorem zKp (a b:D) (r t:List D):bltL (a::r) (b::t)=if a=b then bltL r t else blt a b:=by rw[bltL]
end
end DS
namespace EK
open PySem PyProof.Rows PySem.W
open DS (D blt bltL zKp)
open Classical
section
variable {prog:Program}{w:World}
theorem zNe {n:Nat}(ih:∀{d d':D}{v v':Value}{A:Around}{E:Value->Shared->Prop}{s:Shared}{Q:Value->Shared->Prop},Ek s.heap n d v->Ek s.heap n d' v'->A.units+n<cLine->Q (.bool (blt d d')) s->wpAny (model prog w) A (richCompare .Lt v v') Q E s)
  {d d':D}{a b:Addr}{A:Around}{E:Value->Shared->Prop}{s:Shared}{Q:Value->Shared->Prop}(hx:Ek s.heap (n+1) d (.ref a)) (hy:Ek s.heap (n+1) d' (.ref b)) (hu:A.units+(n+1)<cLine) (h:Q (.bool (blt d d')) s):wpAny (model prog w) A (call (.builtin "tuple.__lt__") [.ref a,.ref b]) Q E s:=by
 have hx0:=hx
 have hy0:=hy
 obtain⟨ds,a',oa,xs,ka,rfl,ea,hoa,hca,hda,ra⟩:=hx
 cases ea
 obtain⟨es,b',ob,ys,kb,rfl,eb,hob,hcb,hdb,rb⟩:=hy
 cases eb
 refine x8 PySem.F.slot_tuple_lt hx0.typeIs PySem.F.entry_tuple_lt ?_ (PySem.F.args_tuple_lt_2 _ _)
 rw[blt]at h
 show wpAny _ _ (isInstance (.ref b) (.type "tuple") >>= _) _ _ s
 refine xa (uj hy0.typeIs isSubtype_tuple_tuple ?_)
 simp only[Bool.not_true,xX,xO]
 refine xa (wpAny_tupleItemsOf hoa hda (xa (wpAny_tupleItemsOf hob hdb (xa ?_))))
 refine wpAny_forIn_list _ (fun rest r s'=>r.1=none/\s'=s/\∃(x' y':List D) (xs' ys':List Value),rest=List.zip xs' ys'/\A2 (Ek s.heap n) x' xs'/\A2 (Ek s.heap n) y' ys'/\bltL x' y'=bltL ds es/\decide (xs'.length<ys'.length)=decide (xs.size<ys.size)) _ ?_ ?_ _ _ ⟨rfl,rfl,ds,es,xs.toList,ys.toList,rfl,ra,rb,rfl,by simp⟩
 ·rintro⟨u,v⟩ rest r s' ⟨hr,rfl,x',y',xs',ys',hz,hx',hy',hdec,hlen⟩
  cases hx' with
  | nil=>simp at hz
  | @cons k1 u' x'' xs'' h1 hx''=>
   cases hy' with
   | nil=>simp at hz
   | @cons k2 v' y'' ys'' h2 hy''=>
    simp only[uo,List.cons.injEq,Prod.mk.injEq]at hz
    obtain⟨⟨rfl,rfl⟩,rfl⟩:=hz
    refine xa (zRu n h1 h2 (by show A.units+1+n<cLine;lia) ?_)
    rw[zKp]at hdec
    by_cases hk:k1=k2
    ·subst hk
     rw[xc rfl]at hdec
     rw[xl rfl]
     simp only[Bool.not_true,xX,xO]
     exact xf ⟨rfl,rfl,x'',y'',xs'',ys'',rfl,hx'',hy'',hdec,by simpa using hlen⟩
    ·rw[xg hk]at hdec
     rw[xq hk]
     simp only[Bool.not_false,xy]
     refine xa (vA (xa (ih h1 h2 (by show A.units+1+n<cLine;lia) ?_)))
     refine xa (xf (xf (xf ⟨_,rfl,?_⟩)))
     rw[hdec];exact h
 ·rintro⟨r1,r2⟩ s' ⟨hr,rfl,x',y',xs',ys',hz,hx',hy',hdec,hlen⟩
  simp only at hr
  subst hr
  have hfin:bltL ds es=decide (xs.size<ys.size):=by
   rw[<- hdec,<- hlen]
   cases hx' with
   | nil=>
    cases hy' with
    | nil=>rw[bltL];rfl
    | cons _ _=>rw[bltL];simp
   | cons _ _=>
    cases hy' with
    | nil=>rw[bltL];simp
    | cons _ _=>simp at hz
  rw[hfin]at h
  exact xf ⟨_,rfl,h⟩
theorem zXp:∀(n:Nat) {d d':D}{v v':Value}{A:Around}{E:Value->Shared->Prop}{s:Shared}{Q:Value->Shared->Prop},Ek s.heap n d v->Ek s.heap n d' v'->A.units+n<cLine->Q (.bool (blt d d')) s->wpAny (model prog w) A (richCompare .Lt v v') Q E s
 | 0,_,_,_,_,A,E,s,Q,⟨i,t,e1,e2⟩,⟨j,u,e3,e4⟩,_,h=>by
  subst e1 e2 e3 e4
  rw[blt]at h
  exact(lt_int h:wpAny (model prog w) A (compareOp .Lt (.int i t) (.int j u)) Q E s)
 | n+1,_,_,_,_,A,E,s,Q,hx,hy,hu,h=>by
  have hx0:=hx
  have hy0:=hy
  obtain⟨ds,a,oa,xs,ka,rfl,rfl,hoa,hca,hda,ra⟩:=hx
  obtain⟨es,b,ob,ys,kb,rfl,rfl,hob,hcb,hdb,rb⟩:=hy
  exact wpAny_richCompare_same_room (op:=.Lt) hx0.typeIs hy0.typeIs PySem.F.slot_tuple_lt (zNe (fun {d d' v v' A E s Q}=>zXp n) hx0 hy0 hu ⟨(fun e=>nomatch e),h⟩) (by nofun)
end
end EK
namespace DS
open PySem (Str)
noncomputable section
open Classical
noncomputable def ltN (S:Store) (x y:D):Option D:=match x,y with
 | .int a,.int b=>some (.bl (decide (a<b)))
 | .str a,.str b=>some (.bl (decide (a.cps.toList<b.cps.toList)))
 | .tup l,.tup m=>if ∃n,n+1<=6/\lv (n+1) (.tup l)/\lv (n+1) (.tup m)then some (.bl (blt (.tup l) (.tup m)))else none
 | _,_=>none
noncomputable def intB (_:Store):List D->Option D
 | [.int i]=>some (.int i)
 | [.bl b]=>some (.int (if b then 1 else 0))
 | _=>none
noncomputable def revS (S:Store) (x:D):Option D:=match x with
 | .tup l=>some (.tup l.reverse)
 | x=>match look S x with
  | some (.lst l)=>some (.lst l.reverse)
  | _=>none
end
end DS
namespace L2
open PySem PySem.Spec PyProof.Rows EK
open DS (D Store Exn Rs SR lv)
section
variable {X:Cx}{K:PySem.W.Frag}{E:XE}{J:Js}{S:Store}{H:Hp}{d d1 d2:D}{v:V}{pins:List (Addr × Obj)}{σ:St}{s:Shared}
theorem zRt (I:Inv X pins σ H s):∀(n:Nat) {d:D}{v:V}{u:Value},lv n d->Rep K J H d v->RelV v u->Ek s.heap n d u
 | 0,_,v,u,⟨i,e⟩,r,q=>by
  subst e
  obtain rfl:v=.int i:=r
  obtain⟨t,rfl⟩:=q
  exact⟨i,t,rfl,rfl⟩
 | n+1,_,v,u,⟨l,e,hl⟩,r,q=>by
  subst e
  obtain⟨a,xs,rfl,t,rl⟩:=r
  cases q
  obtain⟨_,its,rv,o,ho,hc,k,hd⟩:=(show ObjOk X.prog X.w H s.heap a (.tup xs)from I.hok _ _ t.1)
  refine⟨l,a,o,_,k,rfl,rfl,ho,hc,hd,?_⟩
  have go:∀(l:List D) (xs:List V) (its:List Value),(∀x∈l,lv n x)->RepL K J H l xs->Vals xs its->A2 (Ek s.heap n) l its:=by
   intro l
   induction l with
   | nil=>intro xs its _ rl rv;obtain rfl:xs=[]:=rl;cases rv;exact .nil
   | cons d l ih=>
    intro xs its hl rl rv
    obtain⟨x,r,rfl,h,rl⟩:=rl
    cases rv with
    | cons q rv=>exact .cons (zRt I n (hl d (.head _)) h q) (ih _ _ (fun y hy=>hl y (.tail _ hy)) rl rv)
  simpa using go l xs its hl rl rv
theorem zKg (I:Inv X pins σ H s) {n:Nat}:∀{l:List D}{xs:List V}{us:List Value},(∀x∈l,lv n x)->RepL K J H l xs->Vals xs us->A2 (Ek s.heap n) l us
 | [],xs,us,_,rl,rv=>by obtain rfl:xs=[]:=rl;cases rv;exact .nil
 | d::l,_,_,hl,⟨x,r,e,h,rl⟩,rv=>by
  subst e
  cases rv with
  | cons q rv=>exact .cons (zRt I n (hl d (.head _)) h q) (zKg I (fun y hy=>hl y (.tail _ hy)) rl rv)
end
end L2
namespace L2
open PySem PySem.Spec PyProof.Rows EK
open DS (D Store Exn Rs SR lv)
section
variable {X:Cx}{K:PySem.W.Frag}{E:XE}{J:Js}{S:Store}{H:Hp}{d d1 d2:D}{v:V}{pins:List (Addr × Obj)}{σ:St}{s:Shared}
theorem zHe (hu:X.A.units+64<cLine):OpR X (compareOp .Lt) (r2Of K DS.ltN):=by
 intro pins s σ H x y a b Q I rx ry hq33
 obtain⟨J,S,d1,d2,d,ha,r1,r2,e,k⟩:=hq33
 unfold DS.ltN at e
 split at e
 ·cases e
  obtain rfl:=r1
  obtain rfl:=r2
  exact zYh pins s σ H _ _ a b Q I rx ry ⟨_,_,rfl,rfl,k _ H ha .refl rfl⟩
 ·cases e
  obtain rfl:=r1
  obtain rfl:=r2
  exact zOc pins s σ H _ _ a b Q I rx ry ⟨_,_,rfl,rfl,k _ H ha .refl rfl⟩
 ·split at e
  ·rename_i hs
   cases e
   obtain⟨n,hn,h1,h2⟩:=hs
   have q1:=zRt (K:=K) (J:=J) I (n+1) h1 r1 rx
   have q2:=zRt (K:=K) (J:=J) I (n+1) h2 r2 ry
   exact(zXp (n+1) q1 q2 (by nofun) ⟨.bl (DS.blt (.tup _) (.tup _)),H,I,rfl,k _ H ha .refl rfl⟩:wpAny (model X.prog X.w) X.A (richCompare .Lt a b) (EP X pins σ Q) X.xe s)
  ·cases e
 ·cases e
theorem zPs:zCb X (.type "int") (cOf K DS.intB):=by
 intro pins s σ H xs us Q I r hq34
 obtain⟨J,S,ds,d,ha,rl,e,k⟩:=hq34
 unfold DS.intB at e
 split at e
 ·cases e
  obtain⟨x,rfl,rx⟩:=zCu (ds:=[]) rl
  obtain rfl:=rx
  exact zKm pins s σ H _ us Q I r (.inl ⟨_,rfl,k _ H ha .refl rfl⟩)
 ·cases e
  obtain⟨x,rfl,rx⟩:=zCu (ds:=[]) rl
  obtain rfl:=rx
  exact zKm pins s σ H _ us Q I r (.inr ⟨_,rfl,k _ H ha .refl rfl⟩)
 ·cases e
theorem zId (xs:List Value) (i:Nat) (hi:i<xs.length):xs[((xs.length:Int)-1+-1*(i:Int)).toNat]?=xs.reverse[i]?:=by
 rw[List.getElem?_reverse hi]
 congr 1
 lia
theorem zIe (xs:List Value) (f:Nat->Option Value) (hf:∀i,i<xs.length->f i=xs[i]?):(List.range xs.length).filterMap f=xs:=by
 have:∀n,n<=xs.length->(List.range n).filterMap f=xs.take n:=by
  intro n
  induction n with
  | zero=>intro _;rfl
  | succ n ih=>
   intro hn
   rw[List.range_succ,List.filterMap_append,ih (by nofun),List.take_add_one]
   rw[xx (by nofun)]
   have e:f n=some (xs[n]'(by nofun)):=by rw[hf n (by nofun),xx (by nofun)]
   simp[e]
 rw[this _ (xh _),List.take_length]
theorem zQv (xs:List Value):slicePick xs.toArray none none (some (-1))=xs.reverse.toArray:=by
 unfold slicePick
 have e1:(sliceBounds none none (some (-1)) xs.toArray.size).1=(xs.length:Int)-1:=by simp[sliceBounds]
 have e2:(sliceBounds none none (some (-1)) xs.toArray.size).2.1=-1:=by simp[sliceBounds]
 have e3:(sliceBounds none none (some (-1)) xs.toArray.size).2.2=-1:=by simp[sliceBounds]
 rw[e1,e2,e3]
 unfold sliceRange
 have ec:(if(-1:Int) > 0 then(if(xs.length:Int)-1 < -1 then(-1-((xs.length:Int)-1)+-1-1) / -1 else 0)else(if(xs.length:Int)-1 > -1 then((xs.length:Int)-1 - -1 - -1-1) / (- -1)else 0)).toNat=xs.reverse.length:=by
  rw[ux,xg (by nofun),show(- -1:Int)=1 by decide,Int.ediv_one]
  split <;> lia
 dsimp only
 rw[ec,List.filterMap_map]
 congr 1
 refine zIe _ _ fun i hi=>?_
 show xs.toArray[((xs.length:Int)-1+-1*(i:Int)).toNat]?=_
 rw[List.getElem?_toArray]
 exact zId xs i (by simpa using hi)
end
end L2
namespace L2
open PySem PySem.Spec PyProof.Rows EK
open DS (D Store Exn Rs SR lv)
section
variable {prog:Program}{w:World}{A:Around}{E:Value->Shared->Prop}{s:Shared}
theorem zLp {sl:Addr}{t:Tok}{n:Nat}{Q:Int × Int × Nat->Shared->Prop}(hs:s.heap.IsSliceOf sl .none .none (.int (-1) t)) (h:Q ((n:Int)-1,-1,n) s):wpAny (model prog w) A (Builtin.Slice.sliceApplied (.ref sl) (pure (n:Int))) Q E s:=by
 obtain⟨os,hos,hcs,hds⟩:=id hs
 unfold Builtin.Slice.sliceApplied Builtin.Slice.sliceFields
 refine xa (xa (xC hos hds (x:=.none) rfl (xa (xC hos hds (x:=.none) rfl (xa (xC hos hds (x:=.int (-1) t) rfl (xf (xa (HT.slicePart_ (.int (-1) t) ?_)))))))))
 refine(show wpAny _ _ (if((-1:Int) == 0)=true then _ else _) _ _ s from ?_)
 rw[xg (by decide)]
 refine xa (HT.slicePart_ .none (xa (HT.slicePart_ .none (xa (xf ?_)))))
 have e:Builtin.Slice.sliceAdjust none none (-1) (n:Int)=((n:Int)-1,-1):=by simp[Builtin.Slice.sliceAdjust]
 have e2:Builtin.Slice.slicePlaces ((n:Int)-1) (-1) (-1)=n:=by
  unfold Builtin.Slice.slicePlaces
  rw[xg (by decide),show(- -1:Int)=1 by decide,Int.ediv_one]
  split <;> lia
 refine(show wpAny _ _ (match Builtin.Slice.sliceAdjust none none (-1) (n:Int)with|(lo,hi)=>pure (lo,(-1:Int),Builtin.Slice.slicePlaces lo hi (-1))) _ _ s from ?_)
 rw[e]
 dsimp only
 rw[e2]
 exact xf h
theorem zG3 {t sl:Addr}{its:List Value}{tk:Tok}{Q:Value->Shared->Prop}(ht:IsTup s.heap t its.toArray) (hs:s.heap.IsSliceOf sl .none .none (.int (-1) tk)) (h:Q (.ref s.heap.objs.size) { s with heap:=s.heap.push { cls:=.type "tuple",data:=.seq its.reverse.toArray } }) (hz:its.length<=sizeLine):
  wpAny (model prog w) A (getItem (.ref t) (.ref sl)) Q E s:=by
 have htake:sizeOk (.seq its.reverse.toArray):=by show its.reverse.toArray.size<=sizeLine;simpa using hz
 obtain⟨os,hos,hcs,hds⟩:=id hs
 have hTs:s.TypeIs (.ref sl) "slice":=⟨os,hos,hcs⟩
 unfold getItem
 try with_reducible refine xH ?_
 first|refine xa (xf ?_)|skip
 refine xa (wpAny_sequenceKey ht.typeIs (by decide) (xa (vf (name:=Str.ofString "__getitem__") ht.typeIs vp (x8 vp ht.typeIs entry_tuple_getitem ?_ (args_tuple_getitem _ _)))))
 refine(show wpAny _ _ (Builtin.Tuple.tupleItemsOf (.ref t) >>= _) _ _ s from xa (tupleItemsOf_ ht (xa (wpAny_typeOf hTs ?_))))
 rw[xc (by decide)]
 refine xa (zLp (n:=its.toArray.size) hs ?_)
 refine(show wpAny _ _ (if(((its.toArray.size:Int)-1 == 0 && (-1:Int) == 1) && its.toArray.size == its.toArray.size)=true then _ else _) _ _ s from ?_)
 rw[xg (by simp)]
 have e:((List.range its.toArray.size).filterMap fun(k:Nat)=>its.toArray[(((its.toArray.size:Nat):Int)-1+(k:Int)*(-1)).toNat]?)=its.reverse:=by
  have hl:its.toArray.size=its.reverse.length:=by simp
  rw[hl]
  refine zIe _ _ fun i hi=>?_
  rw[List.getElem?_toArray,<- zId its i (by simpa using hi)]
  congr 2
  simp
 rw[e]
 first
  | exact xa (m:=Builtin.Tuple.tupleExact _) (x5 (xf ⟨_,rfl,xf h⟩) htake)
  | exact xa (m:=Builtin.Tuple.tupleExact _) (x5 (xa (xf (xf ⟨_,rfl,xf h⟩))) htake)
  | exact xa (xa (m:=Builtin.Tuple.tupleExact _) (x5 (xf (xf ⟨_,rfl,xf h⟩)) htake))
  | exact xa (xa (m:=Builtin.Tuple.tupleExact _) (x5 (xf ⟨_,rfl,xf h⟩) htake))
end
section
variable {X:Cx}{K:PySem.W.Frag}{E:XE}{e:Expr}{m:DS.EM}{p2 pos:Pos}
theorem zXt {stp:Expr}{m2:DS.EM}(he:DE X K E e m) (h2:DE X K E stp m2) (e2:∀env S,m2 env S=.ok (.int (-1)) S:=by intros;rfl) (hK:X.K=K:=by rfl):DE X K E (.Subscript e (.Slice none none (some stp) p2) pos) (DS.eUn DS.revS m):=by
 subst hK
 refine⟨⟨fun pins s σ H Q I hq1=>?_⟩⟩
 obtain⟨env,S,J,ha,hE,q⟩:=hq1
 refine Subscript_ (thn (he.h.h pins s σ H (fun x H1=>∃J1 S1 d0 d,AbS X.K J1 S1 H1/\RepE X.K J1 H1 env σ/\Rep X.K J1 H1 d0 x/\DS.revS S1 d0=some d/\∀v H',AbS X.K J1 S1 H'->Grow J1 H1 J1 H'->Rep X.K J1 H' d v->Q v H') I ⟨env,S,J,ha,hE,q.bind.imp fun d0 S1 J1 H1 _ a1 g1 q1 x rx=>?_⟩) fun v s1 hq1=>?_)
 ·obtain⟨c,ec,k⟩:=q1.lift
  exact⟨J1,S1,d0,c,a1,hE.grow g1,rx,ec,fun v H' h1 h2 h3=>k J1 H' h1 h2 v h3⟩
 ·obtain⟨x,H1,I1,r1,J1,S1,d0,d,a1,hE1,rx,ed,k⟩:=hq1
  have n1:∀(s:Shared) (R:Value->Shared->Prop),R .none s->wpAny (model X.prog X.w) X.A (evalPart none X.env) R X.xe s:=fun s R h=>by rw[evalPart_none];exact xf h
  refine wpAny_Slice (n1 _ _ (n1 _ _ ?_))
  rw[evalPart_some]
  refine thn (h2.h.h pins s1 σ H1 (fun y H2=>y=.int (-1)/\H2=H2/\∃g:Grow J1 H1 J1 H2,AbS X.K J1 S1 H2) I1 ⟨env,S1,J1,a1,hE1,?_⟩) fun u s2 hq1=>?_
  ·rw[e2]
   exact fun J' H' h1 g v rv=>⟨rv,rfl,by
    have ej:J'=J1:=by
     have:=g.take a1
     rw[<- h1.len]at this
     simpa using this
    subst ej
    exact⟨g,h1⟩⟩
  obtain⟨y,H2,I2,r2,ey,_,g2,a2⟩:=hq1
  subst ey
  obtain⟨t,rfl⟩:=r2
  have I4:Inv X pins σ H2 { s2 with heap:=s2.heap.push { cls:=.type "slice",data:=.fields #[.none,.none,.int (-1) t] } }:=I2.kept (t':=s2.toks) fun b ob q=>xk _ q
  have hs:(s2.heap.push { cls:=.type "slice",data:=.fields #[.none,.none,.int (-1) t] }).IsSliceOf s2.heap.objs.size .none .none (.int (-1) t):=Heap.IsSliceOf.new ..
  have rx2:=Rep.grow g2 _ _ rx
  have k2:∀v H',AbS X.K J1 S1 H'->Grow J1 H2 J1 H'->Rep X.K J1 H' d v->Q v H':=fun v H' h1 h2 h3=>k v H' h1 (g2.trans h2) h3
  refine(show wpAny (model X.prog X.w) X.A (subscriptTail e (.Slice none none (some stp) p2) v (.ref s2.heap.objs.size)) (EP X pins σ Q) X.xe { s2 with heap:=s2.heap.push { cls:=.type "slice",data:=.fields #[.none,.none,.int (-1) t] } }from ?_)
  unfold DS.revS at ed
  split at ed
  ·rename_i l
   cases ed
   obtain⟨a,xs,rfl,ta,rl⟩:=rx2
   cases r1
   obtain⟨its,r,ht,hz⟩:=I4.tuple ta.sq
   refine tail_any (ops:=[.ref a,.ref s2.heap.objs.size]) (T:="tuple") ht.typeIs vp.lookup (zG3 ht hs ?_ (by rw[<- Vals.length r];exact hz)) (by with_unfolding_all rfl)
   refine⟨.ref _,_,I4.laid (t':=s2.toks) (o:=.tup xs.reverse) (fun b ob q=>xk _ q) (xh _) ⟨by rw[ux];exact hz,_,r.reverse,IsTup.new _ _⟩,rfl,k2 _ _ (a2.push (I4.hok.fresh (xh _))) (.push (I4.hok.fresh (xh _))) ⟨_,_,rfl,⟨zAt,a2.out (I4.hok.fresh (xh _))⟩,(RepL.grow (.push (I4.hok.fresh (xh _))) _ _ rl).reverse⟩⟩
  ·split at ed
   ·rename_i l el
    cases ed
    obtain⟨a,xs,rfl,hq,rl⟩:=zM5 a2 rx2 el
    cases r1
    obtain⟨its,r,ht,hz⟩:=I4.list hq
    refine tail_any (ops:=[.ref a,.ref s2.heap.objs.size]) (T:="list") ht.isList.typeIs slot_list_getitem.lookup (wpAny_getItem_list_slice ht.isList hs .none .none (.int (-1) t) (by simp) ?_ (by rw[xo,<- Vals.length r];exact hz)) (by with_unfolding_all rfl)
    rw[zQv]
    refine⟨.ref _,_,I4.laid (t':=s2.toks) (o:=.lst xs.reverse) (fun b ob q=>xk _ q) (xh _) ⟨by rw[ux];exact hz,_,0,r.reverse,xA _ rfl⟩,rfl,k2 _ _ (a2.push (I4.hok.fresh (xh _))) (.push (I4.hok.fresh (xh _))) ⟨_,_,rfl,⟨zAt,a2.out (I4.hok.fresh (xh _))⟩,(RepL.grow (.push (I4.hok.fresh (xh _))) _ _ rl).reverse⟩⟩
   ·cases ed
end
end L2
namespace DS
noncomputable section
open Classical
noncomputable def trk (S:Store):D->Option (Bool × List D)
 | .tup l=>some (true,l)
 | .lst l=>some (false,l)
 | .ref n=>match S[n]? with
  | some (.lst l)=>some (false,l)
  | _=>none
 | _=>none
noncomputable def zipW (b1 b2:Bool) (S:Store):List D->Option Walk
 | [a,b]=>match trk S a,trk S b with
  | some (c1,l),some (c2,m)=>if c1=b1/\c2=b2 then some ⟨(l.zip m).map fun p=>.tup [p.1,p.2],gdOf S a++gdOf S b⟩else none
  | _,_=>none
 | _=>none
noncomputable def iZp (b1 b2:Bool) (a:AM):IM:=fun env S=>(a env S).bind fun xs S1=>lift (zipW b1 b2 S1 xs) S1
end
end DS
namespace DS
noncomputable section
open Classical
theorem zMc:∀(l:List D) (n i:Nat),(zGy l n)[i]?=(l[i]?).map fun d=>.tup [.int ((n+i:Nat):Int),d]
 | [],n,i=>by simp[zGy]
 | d::r,n,0=>by simp[zGy]
 | d::r,n,i+1=>by
  rw[zGy,List.getElem?_cons_succ,zMc r (n+1) i,List.getElem?_cons_succ,show n+1+i=n+(i+1) by nofun]
theorem zHr:∀(l:List D) (n:Nat),(zGy l n).length=l.length
 | [],_=>rfl
 | d::r,n=>by rw[zGy,xE,zHr r,xE]
end
end DS
namespace DS
noncomputable section
open Classical
noncomputable def zipT (S:Store):List D->Option D
 | [a,b]=>match trk S a,trk S b with
  | some (_,l),some (_,m)=>some (.lst ((l.zip m).map fun p=>.tup [p.1,p.2]))
  | _,_=>none
 | _=>none
end
end DS
namespace L2
open PySem PySem.Spec PyProof.Rows
open DS (D Store Exn Rs SR)
section
variable {X:Cx}{K:PySem.W.Frag}{E:XE}{J:Js}{S:Store}{H:Hp}{d d1 d2:D}{v:V}
theorem zHb {l:List D}{c:Bool}(ha:AbS K J S H) (r:Rep K J H d v) (e:DS.trk S d=some (c,l)):∃a,v=.ref a/\∀J' H' S' gd,Grow J H J' H'->AbS K J' S' H'->(∀p∈DS.gdOf S d,p∈gd)->DS.gOk S' gd->∃ys,H' a=some (hoK c ys)/\RepL K J' H' l ys:=by
 cases d with
 | tup l=>cases e;obtain⟨a,xs,rfl,t,rl⟩:=r;exact⟨a,rfl,fun J' H' S' gd g _ _ _=>⟨xs,(t.grow g).1,RepL.grow g _ _ rl⟩⟩
 | lst l=>cases e;obtain⟨a,xs,rfl,t,rl⟩:=r;exact⟨a,rfl,fun J' H' S' gd g _ _ _=>⟨xs,(t.grow g).1,RepL.grow g _ _ rl⟩⟩
 | ref n=>
  obtain⟨a,ea,rfl⟩:=r
  obtain⟨c',ec,o,eo,rc⟩:=ha.at ea
  have e:(match S[n]? with|some (.lst l)=>some (false,l)|_=>none)=some (c,l):=e
  rw[ec]at e
  cases c' with
  | lst l'=>
   cases e
   refine⟨a,rfl,fun J' H' S' gd g ha' sub ok=>?_⟩
   have e':S'[n]?=some (.lst l):=ok (n,.lst l) (sub _ (by simp[DS.gdOf,ec]))
   obtain⟨o',eo',rc'⟩:=ha'.ob n a _ (g.pre n a ea) e'
   obtain⟨ys,rfl,rl'⟩:=rc'
   exact⟨ys,eo',rl'⟩
  | _=>cases e
 | _=>cases e
theorem zXe {a b:Addr}{b1 b2:Bool}{l m:List D}{gd:List (Nat × D)}(h1:∀J' H' S',Grow J H J' H'->AbS K J' S' H'->DS.gOk S' gd->∃ys,H' a=some (hoK b1 ys)/\RepL K J' H' l ys)
  (h2:∀J' H' S',Grow J H J' H'->AbS K J' S' H'->DS.gOk S' gd->∃ys,H' b=some (hoK b2 ys)/\RepL K J' H' m ys):ItOk K J H ⟨(l.zip m).map fun p=>.tup [p.1,p.2],gd⟩ (Itk b1 b2 a b) where
 go:=fun i H' J' S' ha g gd hi=>by
  obtain⟨xs,q1,r1⟩:=h1 J' H' S' g ha gd
  obtain⟨ys,q2,r2⟩:=h2 J' H' S' g ha gd
  have hi':i<l.length/\i<m.length:=by rw[xm,xZ]at hi;lia
  exact⟨xs,ys,xs[i]'(by rw[<- r1.length];exact hi'.1),ys[i]'(by rw[<- r2.length];exact hi'.2),q1,q2,xx _,xx _⟩
 yld:=fun i H' J' S' x H'' ha g gd yl d ed=>by
  obtain⟨T,xs',ys',x1,y1,rfl,hT,e1,e2,g1,g2,rfl⟩:=yl
  obtain⟨xs,q1,r1⟩:=h1 J' H' S' g ha gd
  obtain⟨ys,q2,r2⟩:=h2 J' H' S' g ha gd
  have ex:xs=xs':=zLh (xD (q1.symm.trans e1))
  have ey:ys=ys':=zLh (xD (q2.symm.trans e2))
  subst ex ey
  obtain⟨dx,f1,p1⟩:=r1.get' g1
  obtain⟨dy,f2,p2⟩:=r2.get' g2
  rw[xR,show(l.zip m)[i]?=some (dx,dy)from List.getElem?_zip_eq_some.mpr ⟨f1,f2⟩]at ed
  cases ed
  refine⟨ha.push hT,.push hT,T,_,rfl,⟨zAt,ha.out hT⟩,x1,[y1],rfl,Rep.grow (.push hT) _ _ p1,y1,[],rfl,Rep.grow (.push hT) _ _ p2,rfl⟩
 stop:=fun i H' J' S' ha g gd hi=>by
  obtain⟨xs,q1,r1⟩:=h1 J' H' S' g ha gd
  obtain⟨ys,q2,r2⟩:=h2 J' H' S' g ha gd
  refine⟨xs,ys,q1,q2,?_⟩
  rw[xm,xZ]at hi
  rw[<- r1.length,<- r2.length]
  lia
theorem zP9 (b1 b2:Bool) {a b:Expr}{es:List Expr}{k:Nat}{tpos p pos:Pos}{am:DS.AM}(hg:Gl X "zip") (hm:X.mg "zip"=none) (ha:DA X K E [a,b] am) (h1:nst a=true:=by rfl) (h2:nst b=true:=by rfl):DI X K E (.Tuple es k tpos) (.Call (.Name "zip" p) [a,b] [] pos) (DS.iZp b1 b2 am):=
 ⟨(qzk b1 b2 hg hm ha.h (by rw[zC9 h1,zC9 h2];rfl) (by rw[zC9 h2];rfl)).imp fun σ H R ⟨env,S,J,h,hE,q⟩=>⟨env,S,J,h,hE,q.bind.imp fun ds S1 J1 H1 e1 a1 g1 q1 xs rx=>by
  obtain⟨w,ew,k⟩:=q1.lift
  have hl:=ha.len _ _ _ _ e1
  match ds,hl with
  | [d,d'],_=>
   obtain⟨x,y,rfl,r,r'⟩:=zH9 rx
   unfold DS.zipW at ew
   simp only at ew
   cases t1:DS.trk S1 d with
   | none=>rw[t1]at ew;cases ew
   | some p1=>
    cases t2:DS.trk S1 d' with
    | none=>rw[t1,t2]at ew;cases ew
    | some p2=>
     obtain⟨c1,l⟩:=p1
     obtain⟨c2,m⟩:=p2
     rw[t1,t2]at ew
     simp only at ew
     split at ew
     ·rename_i hc
      obtain⟨rfl,rfl⟩:=hc
      cases ew
      obtain⟨a',rfl,s1⟩:=zHb a1 r t1
      obtain⟨b',rfl,s2⟩:=zHb a1 r' t2
      have z1:=fun J' H' S' g ab ok=>s1 J' H' S' (DS.gdOf S1 d++DS.gdOf S1 d') g ab (fun p hp=>vM _ hp) ok
      have z2:=fun J' H' S' g ab ok=>s2 J' H' S' (DS.gdOf S1 d++DS.gdOf S1 d') g ab (fun p hp=>xN _ hp) ok
      have ok0:DS.gOk S1 (DS.gdOf S1 d++DS.gdOf S1 d'):=fun p hp=>by
       have key:∀e,∀p∈DS.gdOf S1 e,S1[p.1]?=some p.2:=fun e p hp=>by
        cases e with
        | ref n=>
         have hp:p∈(match S1[n]? with|some d=>[(n,d)]|none=>[]):=hp
         cases en:S1[n]? with
         | none=>rw[en]at hp;cases hp
         | some c=>rw[en]at hp;rw[xJ.mp hp];exact en
        | _=>cases hp
       rcases xT.mp hp with hp|hp
       ·exact key _ p hp
       ·exact key _ p hp
      obtain⟨xs,f1,_⟩:=z1 J1 H1 S1 .refl a1 ok0
      obtain⟨ys,f2,_⟩:=z2 J1 H1 S1 .refl a1 ok0
      exact⟨a',b',rfl,⟨xs,f1⟩,⟨ys,f2⟩,k J1 H1 a1 .refl _ (zXe z1 z2)⟩
     ·cases ew⟩⟩
end
end L2
namespace TS
open PySem
theorem zJh {prog:Program}{w:World}{A:Around}(hh:A.handled=none) (b:Bool) (it l:Addr) (hne:l≠it) (items:Array Value):Draws prog w A it [it,l] items.size (fun i v=>items[i]?=some v) (fun i h=>KIt b h it l i/\KSq b h l items) where
 live:=fun _ _ st=>let ⟨o,ho,_⟩:=st.1;⟨o,ho⟩
 frame:=fun _ _ _ st hk=>⟨st.1.at fun o e=>hk it (by simp) o e,st.2.at fun o e=>hk l (by simp) o e⟩
 item:=fun i s Q E hi st hQ=>next_item st.1 st.2 (x:=items[i]) (by simp[hi]) fun h' hit' hs'=>hQ _ h' s.toks (by simp[hi]) ⟨hit',st.2.xb hs'.extBut hne⟩ hs'
 done:=fun s Q E st hE=>next_end hh st.1 st.2 (by simp) hE
end TS
namespace DS
noncomputable def eqI (_:Store) (x y:D):Option D:=match x,y with
 | .int a,.int b=>some (.bl (decide (a=b)))
 | _,_=>none
end DS
namespace DS
noncomputable section
open Classical
noncomputable def intsOf:List D->Option (List Int)
 | []=>some []
 | .int a::l=>(intsOf l).map (a::·)
 | _=>none
theorem zKe:∀{l:List D}{xs:List Int},intsOf l=some xs->l=xs.map D.int
 | [],xs,h=>by cases h;rfl
 | .int a::l,xs,h=>by
  obtain⟨r,e,rfl⟩:=Option.map_eq_some_iff.mp h
  rw[xw,zKe e]
theorem zIk:∀(xs:List Int),intsOf (xs.map D.int)=some xs
 | []=>rfl
 | a::r=>by rw[xw,intsOf,zIk r];rfl
noncomputable def bst (p:Int->Int->Prop):Int->List Int->Int
 | a,[]=>a
 | a,b::r=>bst p (if p b a then b else a) r
theorem zPu {p:Int->Int->Prop}(tr:∀a b c,¬ p b a->¬ p c b->¬ p c a) (as:∀a b,p a b->¬ p b a):∀(r:List Int) (a:Int),bst p a r∈a::r/\∀x∈a::r,¬ p x (bst p a r)
 | [],a=>⟨.head _,fun x hx=>by rw[xJ.mp hx];exact fun z=>as _ _ z z⟩
 | b::r,a=>by
  obtain⟨h1,h2⟩:=zPu tr as r (if p b a then b else a)
  unfold bst
  refine⟨?_,fun x hx=>?_⟩
  ·rcases xi.mp h1 with z|z
   ·rw[z];split
    ·exact .tail _ (.head _)
    ·exact .head _
   ·exact .tail _ (.tail _ z)
  ·rcases xi.mp hx with rfl|hx
   ·by_cases c:p b x
    ·rw[xc c]at h2 ⊢
     exact tr _ _ _ (h2 b (.head _)) (as _ _ c)
    ·rw[xg c]at h2 ⊢
     exact h2 x (.head _)
   ·rcases xi.mp hx with rfl|hx
    ·by_cases c:p x a
     ·rw[xc c]at h2 ⊢
      exact h2 x (.head _)
     ·rw[xg c]at h2 ⊢
      exact tr _ _ _ (h2 a (.head _)) c
    ·exact h2 x (.tail _ hx)
noncomputable def bstL (p:Int->Int->Prop) (S:Store):List D->Option D
 | [d]=>match(match look S d with|some (.lst l)=>intsOf l|_=>none)with
  | some (a::r)=>some (.int (bst p a r))
  | _=>none
 | _=>none
noncomputable def maxI:Store->List D->Option D:=bstL fun a b=>b<a
theorem zPv {p:Int->Int->Prop}(tr:∀a b c,¬ p b a->¬ p c b->¬ p c a) (as:∀a b,p a b->¬ p b a) {S:Store}{xs:List Int}(hn:xs≠[]):∃v∈xs,bstL p S [.lst (xs.map D.int)]=some (.int v)/\∀x∈xs,¬ p x v:=by
 cases xs with
 | nil=>exact absurd rfl hn
 | cons a r=>
  obtain⟨h1,h2⟩:=zPu tr as r a
  refine⟨_,h1,?_,h2⟩
  show(match intsOf ((a::r).map D.int)with|some (a::r)=>some (D.int (bst p a r))|_=>none)=_
  rw[zIk]
end
end DS
namespace DS
noncomputable section
open Classical
noncomputable def lvs (l:List D):Prop:=∃n,n<=5/\∀d∈l,lv n d
noncomputable def neK (_:Store) (x y:D):Option D:=match x,y with
 | .int a,.int b=>some (.bl (!decide (a=b)))
 | .bl a,.bl b=>some (.bl (!decide (a=b)))
 | .str a,.str b=>some (.bl (!decide (a=b)))
 | .tup l,.tup m=>if lvs (l++m)then some (.bl (!decide (l=m)))else none
 | _,_=>none
end
end DS
namespace DS
noncomputable section
open Classical
noncomputable def eqK (_:Store) (x y:D):Option D:=match x,y with
 | .int a,.int b=>some (.bl (decide (a=b)))
 | .tup l,.tup m=>if lvs (l++m)then some (.bl (decide (l=m)))else none
 | _,_=>none
end
end DS
namespace DS
open PySem (Str)
noncomputable section
open Classical
noncomputable def startM (S:Store) (x:D) (xs:List D):Option (D × Store):=match x,xs with
 | .str z,[.str y]=>some (.bl (PySem.Txt.startswith z y),S)
 | _,_=>none
noncomputable def splitM (S:Store) (x:D) (xs:List D):Option (D × Store):=match x,xs with
 | .str z,[.str y]=>if 0<y.length/\z.length<=100000/\(PySem.Txt.split z y).length<=most then some (.lst ((PySem.Txt.split z y).map D.str),S)else none
 | _,_=>none
noncomputable def strsOf:List D->Option (List Str)
 | []=>some []
 | .str x::r=>(strsOf r).map (x::·)
 | _=>none
theorem zIc:∀l:List Str,strsOf (l.map D.str)=some l
 | []=>rfl
 | a::l=>by show(strsOf (l.map D.str)).map (a::·)=_;rw[zIc l];rfl
theorem zJr:∀{l:List D}{xs:List Str},strsOf l=some xs->l=xs.map D.str
 | [],xs,h=>by cases h;rfl
 | a::l,xs,h=>by
  cases a with
  | str x=>
   have h:(strsOf l).map (x::·)=some xs:=h
   cases e:strsOf l with
   | none=>rw[e]at h;cases h
   | some ys=>rw[e]at h;cases h;rw[zJr e];rfl
  | _=>cases h
noncomputable def joinM (S:Store) (x:D) (xs:List D):Option (D × Store):=match x,xs with
 | .str sep,[d]=>match(match look S d with|some (.lst l)=>strsOf l|_=>none)with
  | some ys=>if sep.length<=16/\(ys.map (·.length)).sum+ys.length<=1048576 then some (.str (PySem.Txt.join sep ys),S)else none
  | none=>none
 | _,_=>none
noncomputable def strI (_:Store):List D->Option D
 | [.int i]=>if i.natAbs.log2<1920 then some (.str (Str.ofString (toString i)))else none
 | _=>none
noncomputable def intS (_:Store):List D->Option D
 | [.str x]=>match PySem.intText? x with
  | some n=>if x.length<=640 then some (.int n)else none
  | none=>none
 | _=>none
noncomputable def slT (S:Store) (x:D) (lo hi:Option Int):Option D:=match x,lo,hi with
 | .str z,some n,none=>if 0<=n/\z.length<=100000 then some (.str ⟨(z.cps.toList.drop n.toNat).toArray⟩)else none
 | x,lo,hi=>slD S x lo hi
noncomputable def inN (_:Store) (x y:D):Option D:=match x,y with
 | .non,.tup l=>if ∀d∈l,∃m,d=.tup m then some (.bl false)else none
 | _,_=>none
noncomputable def eqT (S:Store) (x y:D):Option D:=match x,y with
 | .str a,.str b=>some (.bl (decide (a=b)))
 | x,y=>eqK S x y
noncomputable def eBad:EM:=fun _ _=>.bad
end
end DS
namespace DS
open PySem (Str)
noncomputable section
open Classical
noncomputable def enWS (b:Bool) (S:Store) (d k:D):Option Walk:=match trk S d,k with
 | some (c,l),.int n=>if c=b/\l.length<2 ^ 60/\0<=n/\n<1000000 then some ⟨zGy l n.toNat,gdOf S d⟩else none
 | _,_=>none
noncomputable def iEnS (b:Bool) (a k:EM):IM:=fun env S=>(a env S).bind fun x S1=>(k env S1).bind fun y S2=>lift (enWS b S2 x y) S2
noncomputable def zL6 (S:Store) (x:D) (xs:List D):Option (D × Store):=match x,xs with
 | .str z,[.str y]=>if 0<y.length/\z.length<=100000 then some (.tup [.str (PySem.Txt.partition z y).1,.str (PySem.Txt.partition z y).2.1,.str (PySem.Txt.partition z y).2.2],S)else none
 | _,_=>none
noncomputable def mulS (S:Store) (x y:D):Option D:=match x,y with
 | .str z,.int n=>if n=1 then some (.str z)else if n=0 then some (.str PySem.Str.empty)else none
 | x,y=>mulD S x y
end
end DS
namespace DP
open DS
noncomputable section
noncomputable def zEa:SM:=
  (sSeq (sSet 0 (eCB absB (zA0 (eVar 0) aNil)))
  (sSeq (sSet 1 (eCB absB (zA0 (eVar 1) aNil)))
  (sSeq (zDr (tTru (eVar 1)) (sSeq (sSet 2 (eOp modD (eVar 0) (eVar 1)))
  (sSeq (sSet 0 (eVar 1))
  (sSet 1 (eVar 2)))))
  (sRet (eVar 0)))))
noncomputable def zC8:Fn:=zB1 2 3 zEa
noncomputable def zHx:SM:=
  (sSeq (sSet 2 (eIf (tTru (eMt "str" startM (eVar 0) (zA0 (eC (.str (PySem.Str.ofString "-"))) aNil))) (eSl slT (eVar 0) (pYes (eC (.int 1))) pNo) (eVar 0)))
  (sSeq (sIf (tNot (tB (zF3 leD leD (eC (.int 1)) (eCB lenB (zA0 (eVar 2) aNil)) (eVar 1)))) (sRet (eC (.bl false))) zB7)
  (sSeq (sIf (tNot (tTru (eCB allB (zA0 (zAl 1 [] (iVal (eVar 2)) (gName 0) tYes (zF3 leD leD (eC (.str (PySem.Str.ofString "0"))) (eVar 0) (eC (.str (PySem.Str.ofString "9"))))) aNil)))) (sRet (eC (.bl false))) zB7)
  (sRet (eOr (eOp eqT (eVar 0) (eC (.str (PySem.Str.ofString "0")))) (eOp neK (eOp ixD (eVar 2) (eC (.int 0))) (eC (.str (PySem.Str.ofString "0")))))))))
noncomputable def zB3:Fn:=zB1 2 3 zHx
noncomputable def zDg:SM:=
  (sRet (eCB zC2 (zA0 (zAl 1 [] (iVal (eVar 0)) (gName 0) tYes (eOp ixD (eVar 0) (eC (.int 0)))) aNil)))
noncomputable def zAz:Fn:=zB1 1 1 zDg
noncomputable def zEb:SM:=
  (sRet (eCB zC2 (zA0 (zAl 1 [] (iVal (eVar 0)) (gName 0) tYes (eOp ixD (eVar 0) (eC (.int 1)))) aNil)))
noncomputable def zB5:Fn:=zB1 1 1 zEb
noncomputable def zI1:SM:=
  (sSeq (sSet 2 (eOp addD (eOp mulD (eC (.int 7901)) (eVar 1)) (eC (.int 24697))))
  (sSeq (sIf (tB (eOp ltN (eVar 1) (eCB lenB (zA0 (eVar 0) aNil)))) (sSet 2 (eOp ixD (eVar 0) (eVar 1))) (sIf (tB (eOp gtD (eCB lenB (zA0 (eVar 0) aNil)) (eC (.int 0)))) (sSet 2 (eOp addD (eOp mulD (eOp modD (eOp ixD (eVar 0) (eOp modD (eVar 1) (eCB lenB (zA0 (eVar 0) aNil)))) (eC (.int 2147483629))) (eC (.int 31))) (eOp mulD (eC (.int 7901)) (eVar 1)))) zB7))
  (sSeq (sSet 3 (eC (.int 0)))
  (sSeq (sIf (tB (eOp geD (eVar 2) (eOp powD (eC (.int 10)) (eC (.int 18))))) (sSet 3 (eVar 2)) zB7)
  (sRet (eNew (eLst (zA0 (eVar 3) (zA0 (eOp addD (eOp modD (eOp powD (eOp addD (eOp mulD (eOp modD (eVar 2) (eC (.int 2147483629))) (eC (.int 48271))) (eOp mulD (eC (.int 40692)) (eVar 1))) (eC (.int 5))) (eC (.int 2147483629))) (eC (.int 1))) aNil)))))))))
noncomputable def zD6:Fn:=zJl 2 4 zI1
noncomputable def zHz:SM:=
  (sSeq (sIf (tB (eOp gtD (eOp ixD (eVar 0) (eC (.int 0))) (eC (.int 0)))) (sSeq (sSet 2 (eOp modD (eOp ixD (eVar 0) (eC (.int 0))) (eVar 1)))
  (sSeq (sPut putD (eVar 0) (eC (.int 0)) (eOp zFp (eOp ixD (eVar 0) (eC (.int 0))) (eVar 1)))
  (sRet (eVar 2)))) zB7)
  (sSeq (sSet 3 (eOp modD (eOp mulD (eOp ixD (eVar 0) (eC (.int 1))) (eC (.int 69623))) (eC (.int 2147483647))))
  (sSeq (sPut putD (eVar 0) (eC (.int 1)) (eOp addD (eOp modD (eOp addD (eOp mulD (eVar 3) (eC (.int 48271))) (eC (.int 30103))) (eC (.int 2147483629))) (eC (.int 1))))
  (sRet (eOp modD (eOp zFp (eOp addD (eOp mulD (eVar 3) (eC (.int 2147483647))) (eOp ixD (eVar 0) (eC (.int 1)))) (eC (.int 8191))) (eVar 1))))))
noncomputable def zA8:Fn:=zB1 2 4 zHz
noncomputable def zGo:SM:=
  (sSeq (sSet 2 (eNew (eLst (zA0 (eTup (zA0 (eVar 0) (zA0 (eVar 1) aNil))) aNil))))
  (sSeq (zDr (tB (eOp gtD (eCB lenB (zA0 (eVar 2) aNil)) (eC (.int 0)))) (sSeq (sUnp (gTup [(gName 3),(gName 4)]) (eMt "list" popM (eVar 2) aNil))
  (sSeq (sIf (tOr (tB (eOp neK (eCB isiB (zA0 (eVar 3) (zA0 (eC (.ty "bool")) aNil))) (eCB isiB (zA0 (eVar 4) (zA0 (eC (.ty "bool")) aNil))))) (tB (eOp neK (eCB isiB (zA0 (eVar 3) (zA0 (eC (.ty "tuple")) aNil))) (eCB isiB (zA0 (eVar 4) (zA0 (eC (.ty "tuple")) aNil)))))) (sRet (eC (.bl false))) zB7)
  (sSeq (sIf (tOr (tB (eOp neK (eCB isiB (zA0 (eVar 3) (zA0 (eC (.ty "int")) aNil))) (eCB isiB (zA0 (eVar 4) (zA0 (eC (.ty "int")) aNil))))) (tB (eOp neK (eCB isiB (zA0 (eVar 3) (zA0 (eC (.ty "str")) aNil))) (eCB isiB (zA0 (eVar 4) (zA0 (eC (.ty "str")) aNil)))))) (sRet (eC (.bl false))) zB7)
  (sIf (tTru (eCB isiB (zA0 (eVar 4) (zA0 (eC (.ty "tuple")) aNil)))) (sSeq (sIf (tB (eOp neK (eCB lenB (zA0 (eVar 3) aNil)) (eCB lenB (zA0 (eVar 4) aNil)))) (sRet (eC (.bl false))) zB7)
  (zMy (eMt "list" zG4 (eVar 2) (zA0 (eCB zipT (zA0 (eVar 3) (zA0 (eVar 4) aNil))) aNil)))) (sIf (tB (eOp neK (eVar 3) (eVar 4))) (sRet (eC (.bl false))) zB7))))))
  (sRet (eC (.bl true)))))
noncomputable def zAm:Fn:=zB1 2 5 zGo
noncomputable def zFv:SM:=
  (sSeq (zDr (tB (eOp neK (eVar 1) (eC (.int 0)))) (sPar [0,1] (zA0 (eVar 1) (zA0 (eOp modD (eVar 0) (eVar 1)) aNil))))
  (sRet (eCB absB (zA0 (eVar 0) aNil))))
noncomputable def zCx:Fn:=zB1 2 2 zFv
noncomputable def zI0:SM:=
  (sRet (eMt "str" joinM (eC (.str (PySem.Str.ofString " "))) (zA0 (zAl 2 [] (iVal (eVar 0)) (gTup [(gName 0),(gName 1)]) tYes (eOp addD (eOp addD (eCB strI (zA0 (eVar 0) aNil)) (eC (.str (PySem.Str.ofString ",")))) (eCB strI (zA0 (eVar 1) aNil)))) aNil)))
noncomputable def zAe:Fn:=zB1 1 1 zI0
noncomputable def zEc:SM:=
  (sSeq (sIf (tB (eOp eqT (eOp ixD (eVar 0) (eC (.int 0))) (eC (.str (PySem.Str.ofString "lives"))))) (sRet (eC (.bl true))) zB7)
  (sRet (eOp leD (eCB maxI (zA0 (zAl 2 [] (iVal (eOp ixD (eVar 0) (eC (.int 2)))) (gTup [(gName 0),(gName 1)]) tYes (eCB max2B (zA0 (eCB absB (zA0 (eVar 0) aNil)) (zA0 (eCB absB (zA0 (eVar 1) aNil)) aNil)))) aNil)) (eOp powD (eC (.int 10)) (eC (.int 6))))))
noncomputable def zAs:Fn:=zB1 1 1 zEc
noncomputable def zF8:SM:=
  zGb
noncomputable def zDk:Fn:=zB1 1 3 zF8
noncomputable def zF9:SM:=
  (sSeq (sSet 3 (eMt "str" splitM (eVar 0) (zA0 (eC (.str (PySem.Str.ofString ","))) aNil)))
  (sSeq (sIf (tOr (tB (eOp neK (eCB lenB (zA0 (eVar 3) aNil)) (eVar 1))) (tNot (tTru (eCB allB (zA0 (zAl 1 [2] (iVal (eVar 3)) (gName 0) tYes (zA7 zB3 (zA0 (eVar 0) (zA0 (eVar 1) aNil)))) aNil))))) (sRet (eC .non)) zB7)
  (sRet (eCB zC2 (zA0 (zAl 1 [] (iVal (eVar 3)) (gName 0) tYes (eCB intS (zA0 (eVar 0) aNil))) aNil)))))
noncomputable def zB9:Fn:=zB1 3 4 zF9
noncomputable def zFu:SM:=
  (sSeq (sSet 1 (eMt "str" splitM (eVar 0) (zA0 (eC (.str (PySem.Str.ofString "/"))) aNil)))
  (sSeq (sIf (tOr (tB (eOp gtD (eCB lenB (zA0 (eVar 1) aNil)) (eC (.int 2)))) (tNot (tTru (eCB allB (zA0 (zAl 1 [] (iVal (eVar 1)) (gName 0) tYes (zA7 zB3 (zA0 (eVar 0) (zA0 (eC (.int 40)) aNil)))) aNil))))) (sRet (eC .non)) zB7)
  (sSeq (sSet 2 (eCB intS (zA0 (eOp ixD (eVar 1) (eC (.int 0))) aNil)))
  (sSeq (sIf (tB (eOp eqI (eCB lenB (zA0 (eVar 1) aNil)) (eC (.int 1)))) (sRet (eTup (zA0 (eVar 2) (zA0 (eC (.int 1)) aNil)))) zB7)
  (sSeq (sSet 3 (eCB intS (zA0 (eOp ixD (eVar 1) (eC (.int 1))) aNil)))
  (sRet (eIf (tAnd (tB (eOp gtD (eVar 3) (eC (.int 1)))) (tB (eOp eqI (zA7 zC8 (zA0 (eVar 2) (zA0 (eVar 3) aNil))) (eC (.int 1))))) (eTup (zA0 (eVar 2) (zA0 (eVar 3) aNil))) (eC .non))))))))
noncomputable def zBz:Fn:=zB1 1 4 zFu
noncomputable def zCy:SM:=
  (sSeq (sSet 1 (eOp ixD (eLst (zA0 (eC (.int 3)) (zA0 (eC (.int 3)) (zA0 (eC (.int 1000)) (zA0 (eOp powD (eC (.int 10)) (eC (.int 30))) (zA0 (eOp subD (eOp powD (eC (.int 10)) (eC (.int 40))) (eC (.int 1))) aNil)))))) (zA7 zA8 (zA0 (eVar 0) (zA0 (eC (.int 5)) aNil)))))
  (sRet (eOp subD (zA7 zA8 (zA0 (eVar 0) (zA0 (eOp addD (eOp mulD (eC (.int 2)) (eVar 1)) (eC (.int 1))) aNil))) (eVar 1))))
noncomputable def zBi:Fn:=zB1 1 2 zCy
noncomputable def zHy:SM:=
  (sSeq (sIf (tB (eOp eqT (eOp ixD (eVar 0) (eC (.int 0))) (eC (.str (PySem.Str.ofString "heals"))))) (sSeq (sSet 1 (zAl 2 [] (iZp true true (zA0 (eOp ixD (eVar 0) (eC (.int 1))) (zA0 (eOp ixD (eVar 0) (eC (.int 2))) aNil))) (gTup [(gName 0),(gName 1)]) tYes (eOp addD (eOp addD (zA7 zAe (zA0 (eLst (zA0 (eVar 1) aNil)) aNil)) (eC (.str (PySem.Str.ofString " | ")))) (zA7 zAe (zA0 (eVar 0) aNil)))))
  (sRet (eMt "str" joinM (eC (.str (PySem.Str.ofString "\n"))) (zA0 (eOp addD (eLst (zA0 (eC (.str (PySem.Str.ofString "heals"))) aNil)) (eVar 1)) aNil)))) zB7)
  (sSeq (sSet 2 (zAl 2 [] (iVal (eOp ixD (eVar 0) (eC (.int 1)))) (gTup [(gName 0),(gName 1)]) tYes (eOp addD (eCB strI (zA0 (eVar 0) aNil)) (eOp mulS (eOp addD (eC (.str (PySem.Str.ofString "/"))) (eCB strI (zA0 (eVar 1) aNil))) (eCB intB (zA0 (eOp gtD (eVar 1) (eC (.int 1))) aNil))))))
  (sSeq (sSet 1 (eLst (zA0 (eOp addD (eC (.str (PySem.Str.ofString "lives "))) (eMt "str" joinM (eC (.str (PySem.Str.ofString ","))) (zA0 (eVar 2) aNil))) (zA0 (zA7 zAe (zA0 (eSl slD (eVar 0) (pYes (eC (.int 3))) (pYes (eC (.int 5)))) aNil)) aNil))))
  (sRet (eMt "str" joinM (eC (.str (PySem.Str.ofString "\n"))) (zA0 (eOp addD (eVar 1) (zAl 2 [] (iZp true true (zA0 (eOp ixD (eVar 0) (eC (.int 2))) (zA0 (eOp ixD (eVar 0) (eC (.int 5))) aNil))) (gTup [(gName 0),(gName 1)]) tYes (eOp addD (eOp addD (zA7 zAe (zA0 (eLst (zA0 (eVar 0) aNil)) aNil)) (eC (.str (PySem.Str.ofString " | ")))) (zA7 zAe (zA0 (eVar 1) aNil))))) aNil))))))
noncomputable def zBv:Fn:=zB1 1 3 zHy
noncomputable def zF7:SM:=
  (sSeq (sIf (tB (eOp ltN (eVar 0) (eC (.int 0)))) (sRet (eOp addD (eC (.str (PySem.Str.ofString "-"))) (zA7 zDk (zA0 (eUn negD (eVar 0)) aNil)))) zB7)
  (sSeq (sSet 1 (eOp powD (eC (.int 10)) (eC (.int 64))))
  (sSeq (sSet 2 (eC (.str (PySem.Str.ofString ""))))
  (sSeq (zDr (tB (eOp geD (eVar 0) (eVar 1))) (sSeq (sSet 2 (eOp addD eBad (eVar 2)))
  (sSet 0 (eOp zFp (eVar 0) (eVar 1)))))
  (sRet (eOp addD (eCB strI (zA0 (eVar 0) aNil)) (eVar 2)))))))
noncomputable def zCn:Fn:=zB1 1 3 zF7
noncomputable def zFt:SM:=
  (sSeq (sIf (tB (eOp ltN (eVar 0) (eC (.int 0)))) (sRet (eOp addD (eC (.str (PySem.Str.ofString "-"))) (zA7 zCn (zA0 (eUn negD (eVar 0)) aNil)))) zB7)
  (sSeq (sSet 1 (eOp powD (eC (.int 10)) (eC (.int 64))))
  (sSeq (sSet 2 (eC (.str (PySem.Str.ofString ""))))
  (sSeq (zDr (tB (eOp geD (eVar 0) (eVar 1))) (sSeq (sSet 2 (eOp addD eBad (eVar 2)))
  (sSet 0 (eOp zFp (eVar 0) (eVar 1)))))
  (sRet (eOp addD (eCB strI (zA0 (eVar 0) aNil)) (eVar 2)))))))
noncomputable def zBh:Fn:=zB1 1 3 zFt
noncomputable def zIq:SM:=
  (sSeq (sSet 1 (eCB zC2 (zA0 (zAl 1 [] (iVal (eMt "str" splitM (eVar 0) (zA0 (eC (.str (PySem.Str.ofString " "))) aNil))) (gName 0) tYes (zA7 zB9 (zA0 (eVar 0) (zA0 (eC (.int 2)) (zA0 (eC (.int 40)) aNil))))) aNil)))
  (sRet (eIf (tB (eOp inN (eC .non) (eVar 1))) (eC .non) (eVar 1))))
noncomputable def zDs:Fn:=zB1 1 2 zIq
noncomputable def zIp:SM:=
  (sSeq (sSet 1 (eMt "str" zL6 (eVar 0) (zA0 (eC (.str (PySem.Str.ofString " "))) aNil)))
  (sSeq (sSet 2 (eCB zC2 (zA0 (zAl 1 [] (iVal (eMt "str" splitM (eOp ixD (eVar 1) (eC (.int 2))) (zA0 (eC (.str (PySem.Str.ofString ","))) aNil))) (gName 0) tYes (zA7 zBz (zA0 (eVar 0) aNil))) aNil)))
  (sSeq (sIf (tOr (tB (eOp neK (eOp ixD (eVar 1) (eC (.int 0))) (eC (.str (PySem.Str.ofString "lives"))))) (tOr (tB (eOp neK (eCB lenB (zA0 (eVar 2) aNil)) (eC (.int 2)))) (tB (eOp inN (eC .non) (eVar 2))))) (sRet (eC .non)) zB7)
  (sRet (eVar 2)))))
noncomputable def zF1:Fn:=zB1 1 3 zIp
noncomputable def zE5:SM:=
  (sRet (eTup (zA0 (zA7 zBi (zA0 (eVar 0) aNil)) (zA0 (zA7 zBi (zA0 (eVar 0) aNil)) aNil))))
noncomputable def zAk:Fn:=zB1 1 1 zE5
noncomputable def zCl:SM:=
  (sSeq (sSet 1 (zA7 zBi (zA0 (eVar 0) aNil)))
  (sSeq (sSet 2 (eOp addD (eC (.int 1)) (eCB absB (zA0 (eOp ixD (eLst (zA0 (eC (.int 0)) (zA0 (zA7 zBi (zA0 (eVar 0) aNil)) aNil))) (zA7 zA8 (zA0 (eVar 0) (zA0 (eC (.int 2)) aNil)))) aNil))))
  (sSeq (sSet 2 (eCB min2B (zA0 (eVar 2) (zA0 (eOp subD (eOp powD (eC (.int 10)) (eC (.int 40))) (eC (.int 1))) aNil))))
  (sSeq (sSet 3 (zA7 zCx (zA0 (eVar 1) (zA0 (eVar 2) aNil))))
  (sRet (eTup (zA0 (eOp zFp (eVar 1) (eVar 3)) (zA0 (eOp zFp (eVar 2) (eVar 3)) aNil))))))))
noncomputable def zBw:Fn:=zB1 1 4 zCl
noncomputable def zF6:SM:=
  (sRet (eMt "str" joinM (eC (.str (PySem.Str.ofString ","))) (zA0 (zAl 1 [] (iVal (eVar 0)) (gName 0) tYes (zA7 zBh (zA0 (eVar 0) aNil))) aNil)))
noncomputable def zB8:Fn:=zB1 1 1 zF6
noncomputable def zEq:SM:=
  (sSeq (sSet 1 (zA7 zBh (zA0 (eOp ixD (eVar 0) (eC (.int 0))) aNil)))
  (sRet (eIf (tB (eOp eqI (eOp ixD (eVar 0) (eC (.int 1))) (eC (.int 1)))) (eVar 1) (eOp addD (eOp addD (eVar 1) (eC (.str (PySem.Str.ofString "/")))) (zA7 zBh (zA0 (eOp ixD (eVar 0) (eC (.int 1))) aNil))))))
noncomputable def zBs:Fn:=zB1 1 2 zEq
noncomputable def zKu:SM:=
  (sSeq (sSet 1 (eMt "str" zL6 (eVar 0) (zA0 (eC (.str (PySem.Str.ofString " | "))) aNil)))
  (sSeq (sSet 2 (zA7 zB9 (zA0 (eOp ixD (eVar 1) (eC (.int 0))) (zA0 (eC (.int 2)) (zA0 (eC (.int 40)) aNil)))))
  (sSeq (sSet 3 (zA7 zDs (zA0 (eOp ixD (eVar 1) (eC (.int 2))) aNil)))
  (sRet (eIf (tOr (tB (eOp isD (eVar 2) (eC .non))) (tB (eOp isD (eVar 3) (eC .non)))) (eC .non) (eTup (zA0 (eVar 2) (zA0 (eVar 3) aNil))))))))
noncomputable def zEm:Fn:=zB1 1 4 zKu
noncomputable def zD1:SM:=
  (sSeq (sIf (tB (eOp eqI (zA7 zA8 (zA0 (eVar 0) (zA0 (eC (.int 8)) aNil))) (eC (.int 1)))) (sRet (eCB zC2 (zA0 (zAl 1 [0] (zF2 (zA0 (eOp addD (eC (.int 10)) (zA7 zA8 (zA0 (eVar 0) (zA0 (eC (.int 31)) aNil)))) aNil)) (gName 0) tYes (eTup (zA0 (eOp subD (zA7 zA8 (zA0 (eVar 1) (zA0 (eC (.int 19)) aNil))) (eC (.int 9))) (zA0 (eOp subD (zA7 zA8 (zA0 (eVar 1) (zA0 (eC (.int 19)) aNil))) (eC (.int 9))) aNil)))) aNil))) zB7)
  (sRet (eCB zC2 (zA0 (zAl 1 [0] (zF2 (zA0 (eOp addD (eC (.int 1)) (zA7 zA8 (zA0 (eVar 0) (zA0 (eOp ixD (eLst (zA0 (eC (.int 3)) (zA0 (eC (.int 9)) aNil))) (zA7 zA8 (zA0 (eVar 0) (zA0 (eC (.int 2)) aNil)))) aNil)))) aNil)) (gName 0) tYes (zA7 zAk (zA0 (eVar 1) aNil))) aNil))))
noncomputable def zC0:Fn:=zB1 1 1 zD1
noncomputable def zGl:SM:=
  (sRet (eMt "str" joinM (eC (.str (PySem.Str.ofString " "))) (zA0 (zAl 1 [] (iVal (eVar 0)) (gName 0) tYes (zA7 zB8 (zA0 (eVar 0) aNil))) aNil)))
noncomputable def zBt:Fn:=zB1 1 1 zGl
noncomputable def zGj:SM:=
  (sRet (eMt "str" joinM (eC (.str (PySem.Str.ofString ","))) (zA0 (zAl 1 [] (iVal (eVar 0)) (gName 0) tYes (zA7 zBs (zA0 (eVar 0) aNil))) aNil)))
noncomputable def zCq:Fn:=zB1 1 1 zGj
noncomputable def zGn:SM:=
  (sSeq (sSet 3 (eNew (eLst aNil)))
  (sSeq (sFor (iEnS false (eSl slD (eVar 0) (pYes (eVar 1)) pNo) (eVar 1)) (gTup [(gName 4),(gName 5)]) (sSeq (sSet 6 (zA7 zEm (zA0 (eVar 5) aNil)))
  (sSeq (sIf (tB (eOp isD (eVar 6) (eC .non))) zGb zB7)
  (zMy (eMt "list" zG9 (eVar 3) (zA0 (eVar 6) aNil))))))
  (sSeq (sIf (tB (eOp ltN (eCB lenB (zA0 (eVar 3) aNil)) (eVar 2))) zGb zB7)
  (sRet (eVar 3)))))
noncomputable def zBe:Fn:=zB1 3 7 zGn
noncomputable def zCc:SM:=
  (sSeq (sIf (tB (eOp eqI (zA7 zA8 (zA0 (eVar 0) (zA0 (eC (.int 2)) aNil))) (eC (.int 0)))) (sSeq (sSet 1 (eCB zC2 (zA0 (zAl 1 [0] (zF2 (zA0 (eOp addD (eC (.int 1)) (zA7 zA8 (zA0 (eVar 0) (zA0 (eC (.int 8)) aNil)))) aNil)) (gName 0) tYes (zA7 zC0 (zA0 (eVar 1) aNil))) aNil)))
  (sRet (eTup (zA0 (eC (.str (PySem.Str.ofString "heals"))) (zA0 (eVar 1) (zA0 (eCB zC2 (zA0 (zAl 1 [0] (iVal (eVar 1)) (gName 0) tYes (zA7 zAk (zA0 (eVar 1) aNil))) aNil)) aNil)))))) zB7)
  (sSeq (sSet 2 (eCB zC2 (zA0 (zAl 1 [0] (zF2 (zA0 (eOp addD (eC (.int 3)) (zA7 zA8 (zA0 (eVar 0) (zA0 (eOp ixD (eLst (zA0 (eC (.int 2)) (zA0 (eC (.int 10)) aNil))) (zA7 zA8 (zA0 (eVar 0) (zA0 (eC (.int 2)) aNil)))) aNil)))) aNil)) (gName 0) tYes (zA7 zAk (zA0 (eVar 1) aNil))) aNil)))
  (sSeq (sSet 3 (eTup (zA0 (zA7 zBw (zA0 (eVar 0) aNil)) (zA0 (zA7 zBw (zA0 (eVar 0) aNil)) aNil))))
  (sRet (eTup (zA0 (eC (.str (PySem.Str.ofString "lives"))) (zA0 (eVar 3) (zA0 (eVar 2) (zA0 (zA7 zAk (zA0 (eVar 0) aNil)) (zA0 (zA7 zAk (zA0 (eVar 0) aNil)) (zA0 (eCB zC2 (zA0 (zAl 1 [0] (iVal (eVar 2)) (gName 0) tYes (zA7 zC0 (zA0 (eVar 1) aNil))) aNil)) aNil)))))))))))
noncomputable def zCr:Fn:=zB1 1 4 zCc
noncomputable def zFs:SM:=
  (sRet (zAl 2 [] (iZp true true (zA0 (eVar 0) (zA0 (eVar 1) aNil))) (gTup [(gName 0),(gName 1)]) tYes (eOp addD (eOp addD (zA7 zB8 (zA0 (eVar 0) aNil)) (eC (.str (PySem.Str.ofString " | ")))) (zA7 zBt (zA0 (eVar 1) aNil)))))
noncomputable def zBg:Fn:=zB1 2 2 zFs
noncomputable def zGm:SM:=
  (sSeq (sSet 1 (eMt "str" splitM (eVar 0) (zA0 (eC (.str (PySem.Str.ofString "\n"))) aNil)))
  (sSeq (sIf (tB (eOp eqT (eOp ixD (eVar 1) (eC (.int 0))) (eC (.str (PySem.Str.ofString "heals"))))) (sSeq (sSet 2 (zA7 zBe (zA0 (eVar 1) (zA0 (eC (.int 1)) (zA0 (eC (.int 1)) aNil)))))
  (sRet (eTup (zA0 (eC (.str (PySem.Str.ofString "heals"))) (zA0 (zA7 zB5 (zA0 (eVar 2) aNil)) (zA0 (zA7 zAz (zA0 (eVar 2) aNil)) aNil)))))) zB7)
  (sSeq (sSet 3 (zA7 zF1 (zA0 (eOp ixD (eVar 1) (eC (.int 0))) aNil)))
  (sSeq (sIf (tB (eOp isD (eVar 3) (eC .non))) zGb zB7)
  (sSeq (sSet 4 (eIf (tB (eOp gtD (eCB lenB (zA0 (eVar 1) aNil)) (eC (.int 1)))) (zA7 zDs (zA0 (eOp ixD (eVar 1) (eC (.int 1))) aNil)) (eC .non)))
  (sSeq (sIf (tOr (tB (eOp isD (eVar 4) (eC .non))) (tB (eOp neK (eCB lenB (zA0 (eVar 4) aNil)) (eC (.int 2))))) zGb zB7)
  (sSeq (sSet 2 (zA7 zBe (zA0 (eVar 1) (zA0 (eC (.int 2)) (zA0 (eC (.int 3)) aNil)))))
  (sRet (eOp addD (eOp addD (eTup (zA0 (eC (.str (PySem.Str.ofString "lives"))) (zA0 (eVar 3) (zA0 (zA7 zAz (zA0 (eVar 2) aNil)) aNil)))) (eVar 4)) (eTup (zA0 (zA7 zB5 (zA0 (eVar 2) aNil)) aNil)))))))))))
noncomputable def zBu:Fn:=zB1 1 5 zGm
noncomputable def zGk:SM:=
  (sSeq (sIf (tB (eOp eqT (eOp ixD (eVar 0) (eC (.int 0))) (eC (.str (PySem.Str.ofString "heals"))))) (sSet 1 (eOp addD (eLst (zA0 (eC (.str (PySem.Str.ofString "heals"))) aNil)) (zA7 zBg (zA0 (eOp ixD (eVar 0) (eC (.int 2))) (zA0 (eOp ixD (eVar 0) (eC (.int 1))) aNil))))) (sSet 1 (eOp addD (eLst (zA0 (eOp addD (eOp addD (eC (.str (PySem.Str.ofString "lives"))) (eC (.str (PySem.Str.ofString " ")))) (zA7 zCq (zA0 (eOp ixD (eVar 0) (eC (.int 1))) aNil))) (zA0 (zA7 zBt (zA0 (eSl slD (eVar 0) (pYes (eC (.int 3))) (pYes (eC (.int 5)))) aNil)) aNil))) (zA7 zBg (zA0 (eOp ixD (eVar 0) (eC (.int 2))) (zA0 (eOp ixD (eVar 0) (eC (.int 5))) aNil))))))
  (sRet (eMt "str" joinM (eC (.str (PySem.Str.ofString "\n"))) (zA0 (eVar 1) aNil))))
noncomputable def zAr:Fn:=zB1 1 2 zGk
noncomputable def zV9:SM:=
  (sSeq (sSet 1 (zAl 1 [0] (zF2 (zA0 (eCB max2B (zA0 (eC (.int 3)) (zA0 (eCB min2B (zA0 (eC (.int 4)) (zA0 (eCB lenB (zA0 (eVar 0) aNil)) aNil))) aNil))) aNil)) (gName 0) tYes (zA7 zCr (zA0 (zA7 zD6 (zA0 (eVar 1) (zA0 (eVar 0) aNil))) aNil))))
  (sSeq (sFor (iVal (eOp addD (eVar 1) (eUn revS (eVar 1)))) (gName 2) (sSeq (sSet 3 (zA7 zBv (zA0 (eVar 2) aNil)))
  (sSeq (sIf (tAnd (tTru (zA7 zAs (zA0 (eVar 2) aNil))) (tNot (tTru (zA7 zAm (zA0 (zA7 zAr (zA0 (eVar 2) aNil)) (zA0 (eVar 3) aNil)))))) (sRet (eC (.bl false))) zB7)
  (sIf (tB (eOp ltN (eCB lenB (zA0 (eVar 3) aNil)) (eC (.int 2001)))) (sSeq (sSet 4 (zA7 zBu (zA0 (eVar 3) aNil)))
  (sIf (tOr (tNot (tTru (zA7 zAm (zA0 (eVar 4) (zA0 (eVar 2) aNil))))) (tNot (tTru (zA7 zAm (zA0 (zA7 zAr (zA0 (eVar 4) aNil)) (zA0 (eVar 3) aNil)))))) (sRet (eC (.bl false))) zB7)) zB7))))
  (sRet (eC (.bl true)))))
noncomputable def zNb:Fn:=zB1 1 5 zV9
end
end DP
namespace TS
open PySem
noncomputable abbrev zGv (h:Heap) (z TI TO T:Addr) (f:Bool):Prop:=h.get? z=some { cls:=.type "zip",dict:=none,data:=.fields #[rawInt T,.bool f,.bool false,.ref TI,.ref TO],slots:=#[] }
section
variable {prog:Program}{w:World}{A:Around}{E:Value->Shared->Prop}{s:Shared}
theorem alive {a:Addr}{o:Obj}{Q:Option Obj->Shared->Prop}(ho:s.heap.get? a=some o) (h:Q (some o) s):wpAny (model prog w) A (loadIfAlive a) Q E s:=by
 have h':Q (s.heap.get? a) s:=by rw[ho];exact h
 exact fun _ _ _=>h'
theorem zM2 {z TI TO T:Addr}{f:Bool}{o:Obj}{Q:Bool->Shared->Prop}(hz:zGv s.heap z TI TO T f) (hT:s.heap.get? T=some o) (h:∀h',zGv h' z TI TO T true->Heap.SameBut z s.heap h'->Q false { s with heap:=h' }):wpAny (model prog w) A (Builtin.SmallTypes.ownedTupleIsFree (.ref z)) Q E s:=by
 unfold Builtin.SmallTypes.ownedTupleIsFree
 refine xa (xC hz rfl (x:=rawInt T) rfl ?_)
 show wpAny _ _ (loadIfAlive ((T:Int).toNat) >>= _) _ _ _
 rw[Int.toNat_natCast]
 refine xa (alive hT ?_)
 simp only[Option.isNone_some,xX,xO]
 refine xa (xC hz rfl (x:=.bool f) rfl ?_)
 cases f with
 | true=>
  rw[xg (by decide)]
  exact xf (h s.heap hz (Heap.SameBut.refl ..))
 | false=>
  rw[xc (by decide)]
  refine xa (vT hz (by simp) fun g1 z1 s1=>xf ?_)
  exact h g1 z1 s1
theorem zSy {b1 b2 f:Bool}{z TI TO T i1 i2 l1 l2:Addr}{o:Obj}{k1 k2:Nat}{xs ys:Array Value}{x y:Value}{Q:Option Value->Shared->Prop}(D:ZipApart z TI TO i1 i2 l1 l2)
  (hz:zGv s.heap z TI TO T f) (hT:s.heap.get? T=some o) (hTI:IsPair s.heap TI (.ref i1) (.ref i2)) (h1:KIt b1 s.heap i1 l1 k1) (h2:KIt b2 s.heap i2 l2 k2) (q1:KSq b1 s.heap l1 xs) (q2:KSq b2 s.heap l2 ys) (hx:xs[k1]?=some x) (hy:ys[k2]?=some y)
  (hQ:∀h',zGv h' z TI TO T true->KIt b1 h' i1 l1 (k1+1)->KIt b2 h' i2 l2 (k2+1)->IsPair h' s.heap.objs.size x y->(∀c o,c≠z->c≠i1->c≠i2->s.heap.get? c=some o->h'.get? c=some o)->Q (some (.ref s.heap.objs.size)) { s with heap:=h' }):
  wpAny (model prog w) A (pyNext (.ref z)) Q E s:=by
 have hTy:s.TypeIs (.ref z) "zip":=⟨_,hz,rfl⟩
 unfold pyNext
 refine xa (wpAny_attempt (vf (name:=Str.ofString "__next__") hTy vE (x8 vE hTy F.entry_zip_next ?_ (F.args_zip_next_1 _))))
 refine(show wpAny _ _ (field (.ref z) 2 >>= _) _ _ _ from xa (xC hz rfl (x:=.bool false) rfl (show wpAny _ _ (field (.ref z) 3 >>= _) _ _ _ from xa (xC hz rfl (x:=.ref TI) rfl (xa (vh hTI rfl (show wpAny _ _ (Builtin.SmallTypes.ownedTupleIsFree (.ref z) >>= _) _ _ _ from xa (zM2 hz hT fun g1 z1 s1=>?_))))))))
 simp only[xX,xO]
 rw[<- Array.forIn_toList]
 simp only[v5,List.forIn_nil]
 refine xa (xa (xa (xH (show wpAny _ _ (Builtin.SmallTypes.nextOf (.ref i1) >>= _) _ _ _ from xa (next_item (h1.xb s1.extBut D.i1z) (q1.xb s1.extBut D.l1z) hx fun g2 h12 s2=>xf ?_)))))
 refine xf ?_
 dsimp only
 refine xa (xa (xH (show wpAny _ _ (Builtin.SmallTypes.nextOf (.ref i2) >>= _) _ _ _ from xa (next_item ((h2.xb s1.extBut D.i2z).xb s2.extBut D.i12.symm) ((q2.xb s1.extBut D.l2z).xb s2.extBut D.l2i1) hy fun g3 h23 s3=>xf ?_))))
 refine xf (xf ?_)
 dsimp only
 have sz:g3.objs.size=s.heap.objs.size:=by rw[s3.1,s2.1,s1.1]
 refine xa (wpAny_newTuple (s:={ s with heap:=g3 }) ?_ (by show 2<=sizeLine;decide))
 have k3:∀c o,c≠z->c≠i1->c≠i2->s.heap.get? c=some o->g3.get? c=some o:=fun c o c1 c3 c4 e=>s3.extBut _ _ c4 (s2.extBut _ _ c3 (s1.extBut _ _ c1 e))
 have z3:zGv g3 z TI TO T true:=s3.extBut _ _ D.i2z.symm (s2.extBut _ _ D.i1z.symm z1)
 have a3:KIt b1 g3 i1 l1 (k1+1):=h12.xb s3.extBut D.i12
 refine xf ⟨_,rfl,xf ?_⟩
 show Q (some (.ref g3.objs.size)) { s with heap:=g3.push { cls:=.type "tuple",data:=.seq #[x,y] } }
 rw[sz]
 refine hQ _ (xk _ z3) (a3.at fun o e=>xk _ e) (h23.at fun o e=>xk _ e) ?_ fun c o c1 c3 c4 e=>xk _ (k3 c o c1 c3 c4 e)
 have:=xA g3 (o:={ cls:=.type "tuple",data:=.seq #[x,y] }) rfl
 rw[sz]at this
 exact this
theorem zVd {b1 b2 f:Bool}{z TI TO T i1 i2 l1 l2:Addr}{o:Obj}{k1 k2:Nat}{xs ys:Array Value}{Q:Option Value->Shared->Prop}(hh:A.handled=none) (D:ZipApart z TI TO i1 i2 l1 l2)
  (hz:zGv s.heap z TI TO T f) (hT:s.heap.get? T=some o) (hTI:IsPair s.heap TI (.ref i1) (.ref i2)) (h1:KIt b1 s.heap i1 l1 k1) (h2:KIt b2 s.heap i2 l2 k2) (q1:KSq b1 s.heap l1 xs) (q2:KSq b2 s.heap l2 ys) (hend:xs[k1]?=none\/ys[k2]?=none)
  (hQ:∀h',(∀c o,c≠z->c≠i1->c≠i2->s.heap.get? c=some o->h'.get? c=some o)->Q none { s with heap:=h' }):wpAny (model prog w) A (pyNext (.ref z)) Q E s:=by
 have hTy:s.TypeIs (.ref z) "zip":=⟨_,hz,rfl⟩
 unfold pyNext
 have stop:∀(g:Heap) (e:Addr),(∀c o,c≠z->c≠i1->c≠i2->s.heap.get? c=some o->g.get? c=some o)->(∃o,g.get? e=some o/\o.cls=.type "StopIteration")->wpAny (model prog w) A (do
   let b <- isInstance (.ref e) (.type "StopIteration")
   if b=true then pure none else throw (.ref e)) Q E { s with heap:=g }:=fun g e kp hz3=>by obtain⟨o,ho,hc⟩:=hz3;exact xa (uj (b:=true) (T:="StopIteration") ⟨o,ho,hc⟩ isSubtype_stop (xf (hQ _ kp)))
 refine xa (wpAny_attempt (vf (name:=Str.ofString "__next__") hTy vE (x8 vE hTy F.entry_zip_next ?_ (F.args_zip_next_1 _))))
 refine(show wpAny _ _ (field (.ref z) 2 >>= _) _ _ _ from xa (xC hz rfl (x:=.bool false) rfl (show wpAny _ _ (field (.ref z) 3 >>= _) _ _ _ from xa (xC hz rfl (x:=.ref TI) rfl (xa (vh hTI rfl (show wpAny _ _ (Builtin.SmallTypes.ownedTupleIsFree (.ref z) >>= _) _ _ _ from xa (zM2 hz hT fun g1 z1 s1=>?_))))))))
 simp only[xX,xO]
 rw[<- Array.forIn_toList]
 simp only[v5,List.forIn_nil]
 have hhi:A.in1.handled=none:=hh
 refine xa (xa (xa (xH (show wpAny _ _ (Builtin.SmallTypes.nextOf (.ref i1) >>= _) _ _ _ from xa ?_))))
 cases hx:xs[k1]? with
 | none=>
  refine next_end hhi (h1.xb s1.extBut D.i1z) (q1.xb s1.extBut D.l1z) hx fun g2 e s2 he=>?_
  exact stop g2 e (fun c o c1 c3 _ x=>s2 _ _ c3 (s1.extBut _ _ c1 x)) he
 | some x=>
  have hy:ys[k2]?=none:=by rcases hend with h|h;rw[hx]at h;cases h;exact h
  refine next_item (h1.xb s1.extBut D.i1z) (q1.xb s1.extBut D.l1z) hx fun g2 h12 s2=>xf ?_
  refine xf ?_
  dsimp only
  refine xa (xa (xH (show wpAny _ _ (Builtin.SmallTypes.nextOf (.ref i2) >>= _) _ _ _ from xa (next_end hhi ((h2.xb s1.extBut D.i2z).xb s2.extBut D.i12.symm) ((q2.xb s1.extBut D.l2z).xb s2.extBut D.l2i1) hy fun g4 e s4 he=>?_))))
  exact stop g4 e (fun c o c1 c3 c4 x=>s4 _ _ c4 (s2.extBut _ _ c3 (s1.extBut _ _ c1 x))) he
end
end TS
namespace TS
open PySem
noncomputable abbrev own6 (z TI TO i1 i2 S:Addr):List Addr:=[z,TI,TO,i1,i2,S]
structure ZS (b1 b2:Bool) (h0:Heap) (z TI TO i1 i2 l1 l2 S:Addr) (xs ys:Array Value) (i:Nat) (h:Heap) (Ts:List (Addr × Value × Value)):Prop where
 zip:IsZip h z TI TO .none\/∃T f o,zGv h z TI TO T f/\h.get? T=some o/\T≠S
 ti:IsPair h TI (.ref i1) (.ref i2)
 tu:∃p q,IsPair h TO p q
 k1:KIt b1 h i1 l1 i
 k2:KIt b2 h i2 l2 i
 q1:KSq b1 h l1 xs
 q2:KSq b2 h l2 ys
 kp:∀c o,h0.get? c=some o->h.get? c=some o
 len:Ts.length=i
 at_:∀(j:Nat) (t:Addr × Value × Value),Ts[j]?=some t->xs[j]?=some t.2.1/\ys[j]?=some t.2.2/\IsPair h t.1 t.2.1 t.2.2
 ord:Ts.Pairwise fun a b=>a.1<b.1
 apt:∀t∈Ts,h0.objs.size<=t.1/\t.1 ∉ own6 z TI TO i1 i2 S
 own:∀a∈own6 z TI TO i1 i2 S,h0.objs.size<=a
 sz:h0.objs.size<=h.objs.size
section
variable {prog:Program}{w:World}{A:Around}{E:Value->Shared->Prop}{s:Shared}{b1 b2:Bool}{h0:Heap}{z TI TO i1 i2 l1 l2 S:Addr}{xs ys:Array Value}{i:Nat}{Ts:List (Addr × Value × Value)}
theorem ZS.frame {h h':Heap}(x:ZS b1 b2 h0 z TI TO i1 i2 l1 l2 S xs ys i h Ts) (hS:S ∉ [z,TI,TO,i1,i2]) (n1:l1≠S) (n2:l2≠S) (hz:h.objs.size<=h'.objs.size) (k:∀b o,b≠S->h.get? b=some o->h'.get? b=some o):ZS b1 b2 h0 z TI TO i1 i2 l1 l2 S xs ys i h' Ts:=by
 simp only[xi,xt,xu,not_or]at hS
 refine⟨?_,k _ _ (xB hS.2.1) x.ti,?_,x.k1.at fun o e=>k _ o (xB hS.2.2.2.1) e,x.k2.at fun o e=>k _ o (xB hS.2.2.2.2) e,x.q1.at fun o e=>k _ o n1 e,x.q2.at fun o e=>k _ o n2 e,fun c o e=>k c o (fun z=>?_) (x.kp c o e),x.len,fun j t e=>?_,x.ord,x.apt,x.own,xn x.sz hz⟩
 ·rcases x.zip with q|⟨T,f,o,q1,q2,q3⟩
  ·exact .inl (k _ _ (xB hS.1) q)
  ·exact .inr ⟨T,f,o,k _ _ (xB hS.1) q1,k _ _ q3 q2,q3⟩
 ·obtain⟨p,q,e⟩:=x.tu
  exact⟨p,q,k _ _ (xB hS.2.2.1) e⟩
 ·exact xr (xv (xj e) (x.own S (by simp))) z
 ·obtain⟨a1,a2,a3⟩:=x.at_ j t e
  have:=(x.apt t (vv e)).2
  simp only[xi,xt,xu,not_or]at this
  exact⟨a1,a2,k _ _ this.2.2.2.2.2 a3⟩
theorem ZS.item {Q:Option Value->Shared->Prop}{x y:Value}(g:ZS b1 b2 h0 z TI TO i1 i2 l1 l2 S xs ys i s.heap Ts) (D:ZipApart z TI TO i1 i2 l1 l2) (hS:S ∉ [z,TI,TO,i1,i2]) (hSs:S<s.heap.objs.size) (hx:xs[i]?=some x) (hy:ys[i]?=some y)
  (hQ:∀h',ZS b1 b2 h0 z TI TO i1 i2 l1 l2 S xs ys (i+1) h' (Ts++[(s.heap.objs.size,x,y)])->(∀o,s.heap.get? S=some o->h'.get? S=some o)->Q (some (.ref s.heap.objs.size)) { s with heap:=h' }):wpAny (model prog w) A (pyNext (.ref z)) Q E s:=by
 have hS':=hS
 simp only[xi,xt,xu,not_or]at hS'
 have zl:∀a o,s.heap.get? a=some o->a<s.heap.objs.size:=fun a o e=>xj e
 obtain⟨p,q,hTO⟩:=g.tu
 have lz:z<s.heap.objs.size:=by
  rcases g.zip with q|⟨T,f,o,q1,_⟩
  ·exact zl _ _ q
  ·exact zl _ _ q1
 have li1:i1<s.heap.objs.size:=by obtain⟨o,e,_⟩:=g.k1;exact zl _ _ e
 have li2:i2<s.heap.objs.size:=by obtain⟨o,e,_⟩:=g.k2;exact zl _ _ e
 have lTI:=zl _ _ g.ti
 have lTO:=zl _ _ hTO
 have done:∀h':Heap,(IsZip h' z TI TO .none\/∃T f o,zGv h' z TI TO T f/\h'.get? T=some o/\T≠S)->(∃p q,IsPair h' TO p q)->KIt b1 h' i1 l1 (i+1)->KIt b2 h' i2 l2 (i+1)->IsPair h' s.heap.objs.size x y->(∀c o,c≠z->c≠TO->c≠i1->c≠i2->s.heap.get? c=some o->h'.get? c=some o)->Q (some (.ref s.heap.objs.size)) { s with heap:=h' }:=fun h' c1 c2 c3 c4 c5 kk=>by
  refine hQ h' ⟨c1,kk _ _ D.TIz D.TITO D.TIi1 D.TIi2 g.ti,c2,c3,c4,g.q1.at fun o e=>kk _ o D.l1z D.l1TO D.l1i1 D.l1i2 e,g.q2.at fun o e=>kk _ o D.l2z D.l2TO D.l2i1 D.l2i2 e,fun c o e=>?_,by rw[xI,g.len];rfl,fun j t e=>?_,?_,fun t ht=>?_,g.own,?_⟩ fun o e=>kk _ o hS'.1 hS'.2.2.1 hS'.2.2.2.1 hS'.2.2.2.2 e
  ·have lc:=xj e
   have ne:∀a,a∈own6 z TI TO i1 i2 S->c≠a:=fun a ha=>xr (xv lc (g.own a ha))
   exact kk c o (ne _ (by simp)) (ne _ (by simp)) (ne _ (by simp)) (ne _ (by simp)) (g.kp c o e)
  ·rcases Nat.lt_or_ge j Ts.length with hj|hj
   ·rw[vo hj]at e
    obtain⟨a1,a2,a3⟩:=g.at_ j t e
    have:=(g.apt t (vv e)).2
    simp only[xi,xt,xu,not_or]at this
    exact⟨a1,a2,kk _ _ this.1 this.2.2.1 this.2.2.2.1 this.2.2.2.2.1 a3⟩
   ·rw[ve hj]at e
    have hj0:j-Ts.length=0:=by
     rcases Nat.lt_or_ge (j-Ts.length) 1 with q|q
     ·lia
     ·rw[vG (by simpa using q)]at e;cases e
    rw[hj0]at e
    cases e
    have:j=i:=by have:=g.len;lia
    subst this
    exact⟨hx,hy,c5⟩
  ·refine List.pairwise_append.mpr ⟨g.ord,List.pairwise_singleton _ _,fun a ha b hb=>?_⟩
   rw[xJ.mp hb]
   obtain⟨j,hj,e⟩:=List.getElem_of_mem ha
   have:=(g.at_ j a (by rw[xx hj,e])).2.2
   exact zl _ _ this
  ·rcases xT.mp ht with ht|ht
   ·exact g.apt t ht
   ·rw[xJ.mp ht]
    refine⟨g.sz,?_⟩
    simp only[xi,xt,xu,not_or]
    exact⟨x6 lz,x6 lTI,x6 lTO,x6 li1,x6 li2,x6 hSs⟩
  ·exact xn g.sz (vy (xj c5))
 have nS:s.heap.objs.size≠S:=x6 hSs
 rcases g.zip with hz|⟨T,f,o,hz,hT,nT⟩
 ·refine zNm D hz g.ti hTO g.k1 g.k2 g.q1 g.q2 hx hy fun h' c1 c2 c3 c4 c5 kk=>?_
  exact done h' (.inr ⟨s.heap.objs.size,false,_,c1,c5,nS⟩) ⟨_,_,c2⟩ c3 c4 c5 kk
 ·refine zSy D hz hT g.ti g.k1 g.k2 g.q1 g.q2 hx hy fun h' c1 c3 c4 c5 kk=>?_
  have hT':∃o',h'.get? T=some o':=by
   by_cases e1:T=z
   ·subst e1;exact⟨_,c1⟩
   ·by_cases e2:T=i1
    ·subst e2;obtain⟨o',e',_⟩:=c3;exact⟨o',e'⟩
    ·by_cases e3:T=i2
     ·subst e3;obtain⟨o',e',_⟩:=c4;exact⟨o',e'⟩
     ·exact⟨o,kk T o e1 e2 e3 hT⟩
  obtain⟨o',hT'⟩:=hT'
  exact done h' (.inr ⟨T,true,o',c1,hT',nT⟩) ⟨p,q,kk _ _ D.TOz D.TOi1 D.TOi2 hTO⟩ c3 c4 c5 fun c o c1 _ c3 c4 e=>kk c o c1 c3 c4 e
theorem ZS.end_ {Q:Option Value->Shared->Prop}(hh:A.handled=none) (g:ZS b1 b2 h0 z TI TO i1 i2 l1 l2 S xs ys i s.heap Ts) (D:ZipApart z TI TO i1 i2 l1 l2) (hx:xs[i]?=none\/ys[i]?=none)
  (hQ:∀h',(∀c o,c≠z->c≠TO->c≠i1->c≠i2->s.heap.get? c=some o->h'.get? c=some o)->Q none { s with heap:=h' }):wpAny (model prog w) A (pyNext (.ref z)) Q E s:=by
 obtain⟨p,q,hTO⟩:=g.tu
 rcases g.zip with hz|⟨T,f,o,hz,hT,nT⟩
 ·exact zS7 hh D hz g.ti hTO g.k1 g.k2 g.q1 g.q2 hx hQ
 ·exact zVd hh D hz hT g.ti g.k1 g.k2 g.q1 g.q2 hx fun h' kk=>hQ h' fun c o c1 _ c3 c4 e=>kk c o c1 c3 c4 e
theorem zQ2 {R:Result->Shared->Prop}(hh:A.handled=none) (D:ZipApart z TI TO i1 i2 l1 l2) (hS:S ∉ [z,TI,TO,i1,i2]) (n1:l1≠S) (n2:l2≠S) (hn:xs.size<=sizeLine) (res:Value):
  ∀(k i:Nat) (s:Shared) (Ts:List (Addr × Value × Value)) (c:Nat),min xs.size ys.size-i=k->i<=min xs.size ys.size->ZS b1 b2 h0 z TI TO i1 i2 l1 l2 S xs ys i s.heap Ts->s.heap.get? S=some { cls:=.type "list",dict:=none,data:=.seq (Ts.map fun t=>Value.ref t.1).toArray c,slots:=#[] }->
  (∀(h':Heap) (Ts':List (Addr × Value × Value)) (c':Nat),(∀c o,h0.get? c=some o->h'.get? c=some o)->h0.objs.size<=h'.objs.size->Ts'.length=min xs.size ys.size->(∀(j:Nat) (t:Addr × Value × Value),Ts'[j]?=some t->xs[j]?=some t.2.1/\ys[j]?=some t.2.2/\IsPair h' t.1 t.2.1 t.2.2)->Ts'.Pairwise (fun a b=>a.1<b.1)->(∀t∈Ts',h0.objs.size<=t.1/\t.1≠S)->
   h'.get? S=some { cls:=.type "list",dict:=none,data:=.seq (Ts'.map fun t=>Value.ref t.1).toArray c',slots:=#[] }->R (.ok (.ret res)) { s with heap:=h' })->
  codeAny (model prog w) A (.builtin "list.extend.loop" ⟨[.ref S,.ref z,res],[]⟩) R s:=by
 have hS':=hS
 simp only[xi,xt,xu,not_or]at hS'
 have hhi:A.in1.handled=none:=hh
 intro k
 induction k with
 | zero=>
  intro i s Ts c hk hi g hSl hR
  refine codeAny_builtin F.entry_extend_loop ?_
  rw[Around.under_plainId uy _]
  show wpAny _ A.in1 (pyNext (.ref z) >>= _) _ _ s
  refine xa (g.end_ hhi D (by
   rcases Nat.le_total xs.size ys.size with q|q
   ·exact .inl (Array.getElem?_eq_none (by nofun))
   ·exact .inr (Array.getElem?_eq_none (by nofun))) fun h' kk=>?_)
  refine xf (hR h' Ts c (fun c o e=>?_) ?_ (by rw[g.len];lia) (fun j t e=>?_) g.ord (fun t ht=>?_) (kk _ _ hS'.1 hS'.2.2.1 hS'.2.2.2.1 hS'.2.2.2.2 hSl))
  ·have lc:=xj e
   have ne:∀a,a∈own6 z TI TO i1 i2 S->c≠a:=fun a ha=>xr (xv lc (g.own a ha))
   exact kk c o (ne _ (by simp)) (ne _ (by simp)) (ne _ (by simp)) (ne _ (by simp)) (g.kp c o e)
  ·have h1:=g.own S (by simp)
   exact xn h1 (vy (xj (kk _ _ hS'.1 hS'.2.2.1 hS'.2.2.2.1 hS'.2.2.2.2 hSl)))
  ·obtain⟨a1,a2,a3⟩:=g.at_ j t e
   have:=(g.apt t (vv e)).2
   simp only[xi,xt,xu,not_or]at this
   exact⟨a1,a2,kk _ _ this.1 this.2.2.1 this.2.2.2.1 this.2.2.2.2.1 a3⟩
  ·have:=g.apt t ht
   simp only[xi,xt,xu,not_or]at this
   exact⟨this.1,this.2.2.2.2.2.2⟩
 | succ k ih=>
  intro i s Ts c hk hi g hSl hR
  refine codeAny_builtin F.entry_extend_loop ?_
  rw[Around.under_plainId uy _]
  show wpAny _ A.in1 (pyNext (.ref z) >>= _) _ _ s
  have e1:xs[i]?=some (xs[i]'(by nofun)):=Array.getElem?_eq_getElem _
  have e2:ys[i]?=some (ys[i]'(by nofun)):=Array.getElem?_eq_getElem _
  refine xa (g.item D hS (xj hSl) e1 e2 fun h' g' kS=>?_)
  have hS2:=kS _ hSl
  show wpAny _ A.in1 (updateSeq S (·.push (.ref s.heap.objs.size)) >>= _) _ _ _
  refine xa ?_
  have asz:(Ts.map fun t=>Value.ref t.1).toArray.size=i:=by simp[g.len]
  have ea:((Ts++[(s.heap.objs.size,xs[i]'(by nofun),ys[i]'(by nofun))]).map fun t=>Value.ref t.1).toArray=(Ts.map fun t=>Value.ref t.1).toArray.push (.ref s.heap.objs.size):=by simp
  obtain⟨c2,hu⟩:∃c2,(h'.update S (Obj.mapSeq (·.push (.ref s.heap.objs.size)))).get? S=some { cls:=.type "list",dict:=none,data:=.seq ((Ts++[(s.heap.objs.size,xs[i]'(by nofun),ys[i]'(by nofun))]).map fun t=>Value.ref t.1).toArray c2,slots:=#[] }:=by
   rw[ea]
   exact⟨_,v3 _ hS2 rfl⟩
  refine wpAny_updateSeq hS2 rfl (xf ⟨plainId_quiet uy _,ih (i+1) _ (Ts++[(s.heap.objs.size,xs[i]'(by nofun),ys[i]'(by nofun))]) c2 (by nofun) (by nofun) (g'.frame hS n1 n2 ?_ fun b o hb e=>?_) ?_ fun h2 Ts' c' q1 q2 q3 q4 q5 q6 q7=>?_⟩) (by rw[asz];lia) (by show((Ts.map fun t=>Value.ref t.1).toArray.push _).size<=sizeLine+1;rw[Array.size_push,asz];lia)
  ·rw[Heap.size_update];exact xh _
  ·exact(ug _ _ (xB hb)).trans e
  ·exact hu
  ·exact hR h2 Ts' c' q1 q2 q3 q4 q5 q6 q7
end
end TS
namespace TS
open PySem
theorem zOi:typeLookup (.type "zip") "__len__"=pure none:=by rw[typeLookup_type,builtinLookup_eq_fast];kernel_rfl
theorem zN3:typeLookup (.type "zip") "__length_hint__"=pure none:=by rw[typeLookup_type,builtinLookup_eq_fast];kernel_rfl
section
variable {prog:Program}{w:World}{A:Around}{E:Value->Shared->Prop}{s:Shared}{b1 b2:Bool}{h0:Heap}{z TI TO i1 i2 l1 l2 S:Addr}{xs ys:Array Value}{i:Nat}{Ts:List (Addr × Value × Value)}
theorem zNc {R:Result->Shared->Prop}(hh:A.handled=none) (res:Value) (c₀:Nat) (g:ZS b1 b2 h0 z TI TO i1 i2 l1 l2 S xs ys 0 s.heap []) (hz:IsZip s.heap z TI TO .none) (D:ZipApart z TI TO i1 i2 l1 l2) (hS:S ∉ [z,TI,TO,i1,i2]) (n1:l1≠S) (n2:l2≠S) (hn:xs.size<=sizeLine)
  (hl:s.heap.get? S=some { cls:=.type "list",data:=.seq #[] c₀ })
  (hR:∀(h':Heap) (Ts':List (Addr × Value × Value)) (c':Nat),(∀c o,h0.get? c=some o->h'.get? c=some o)->h0.objs.size<=h'.objs.size->Ts'.length=min xs.size ys.size->(∀(j:Nat) (t:Addr × Value × Value),Ts'[j]?=some t->xs[j]?=some t.2.1/\ys[j]?=some t.2.2/\IsPair h' t.1 t.2.1 t.2.2)->Ts'.Pairwise (fun a b=>a.1<b.1)->(∀t∈Ts',h0.objs.size<=t.1/\t.1≠S)->
   h'.get? S=some { cls:=.type "list",dict:=none,data:=.seq (Ts'.map fun t=>Value.ref t.1).toArray c',slots:=#[] }->R (.ok (.ret res)) { s with heap:=h' }):
  wpAny (model prog w) A.in1 (Builtin.List.listExtendWith (.ref S) (.ref z) res)
   (fun fin s'=>match fin with|.done f=>R (.ok f) s'|.again c'=>c'.quiet=true/\codeAny (model prog w) A c' R s') (fun e s'=>R (.error e) s') s:=by
 have hT:s.TypeIs (.ref z) "zip":=⟨_,hz,rfl⟩
 have hSz:S≠z:=fun e=>hS (by simp[e])
 have h1:Builtin.List.listSameRef (.ref S) (.ref z)=false:=by simp[Builtin.List.listSameRef,hSz]
 unfold Builtin.List.listExtendWith
 refine xa (wpAny_typeOf hT ?_)
 rw[xg (by rw[h1];decide)]
 refine xa (wpAny_pyIter_zip hz ?_)
 refine xa (xH ?_)
 unfold Builtin.List.listLengthHint
 refine xa (wpAny_specialOf hT zOi ?_)
 show wpAny _ A.in1 (specialOf (Value.ref z) (Str.ofString "__length_hint__") >>= _) _ _ _
 refine xa (wpAny_specialOf hT zN3 ?_)
 refine xf ?_
 dsimp only
 rw[xc (by rfl)]
 refine xa (vA ?_)
 have frm:∀(f:Array Value->Array Value) (h:Heap),ZS b1 b2 h0 z TI TO i1 i2 l1 l2 S xs ys 0 h []->ZS b1 b2 h0 z TI TO i1 i2 l1 l2 S xs ys 0 (h.update S (Obj.mapSeq f)) []:=fun f h q=>q.frame hS n1 n2 (by rw[Heap.size_update];exact xh _) fun b o hb e=>(ug _ _ (xB hb)).trans e
 unfold Builtin.List.listTouch
 refine xa (show wpAny _ A.in1 (updateSeq S (·.push .none) >>= fun _=>updateSeq S (·.pop)) _ _ _ from xa (wpAny_updateSeq hl rfl ?_ (by simp) (by simp)))
 have e1:=v3 (Obj.mapSeq (fun x:Array Value=>x.push .none)) hl rfl
 refine wpAny_updateSeq e1 rfl ?_ (by show 1<=sizeLine;decide) (by show 0<=sizeLine+1;exact Nat.zero_le _)
 have e2:=v3 (Obj.mapSeq (fun x:Array Value=>x.pop)) e1 rfl
 exact xf ⟨plainId_quiet uy _,zQ2 hh D hS n1 n2 hn res _ 0 _ [] _ rfl (Nat.zero_le _) (frm _ _ (frm _ _ g)) e2 hR⟩
theorem zRl {R:Result->Shared->Prop}(hh:A.handled=none) (g:ZS b1 b2 h0 z TI TO i1 i2 l1 l2 S xs ys 0 s.heap []) (hz:IsZip s.heap z TI TO .none) (D:ZipApart z TI TO i1 i2 l1 l2) (hS:S ∉ [z,TI,TO,i1,i2]) (n1:l1≠S) (n2:l2≠S) (hn:xs.size<=sizeLine)
  (hl:s.heap.get? S=some { cls:=.type "list",data:=.seq #[] })
  (hR:∀(h':Heap) (Ts':List (Addr × Value × Value)) (c':Nat),(∀c o,h0.get? c=some o->h'.get? c=some o)->h0.objs.size<=h'.objs.size->Ts'.length=min xs.size ys.size->(∀(j:Nat) (t:Addr × Value × Value),Ts'[j]?=some t->xs[j]?=some t.2.1/\ys[j]?=some t.2.2/\IsPair h' t.1 t.2.1 t.2.2)->Ts'.Pairwise (fun a b=>a.1<b.1)->(∀t∈Ts',h0.objs.size<=t.1/\t.1≠S)->
   h'.get? S=some { cls:=.type "list",dict:=none,data:=.seq (Ts'.map fun t=>Value.ref t.1).toArray c',slots:=#[] }->R (.ok (.ret .none)) { s with heap:=h' }):
  wpAny (model prog w) A.in1 (Builtin.«list.__init__» ⟨[.ref S,.ref z],[]⟩)
   (fun fin s'=>match fin with|.done f=>R (.ok f) s'|.again c'=>c'.quiet=true/\codeAny (model prog w) A c' R s') (fun e s'=>R (.error e) s') s:=by
 have hS':=hS
 simp only[xi,xt,xu,not_or]at hS'
 show wpAny _ A.in1 (do let old <- Builtin.List.listItems (.ref S);Builtin.List.listUpdate (.ref S) (fun _=>#[]);letGo old.toList.reverse;Builtin.List.listExtendWith (.ref S) (.ref z) .none) _ _ s
 refine xa ?_
 unfold Builtin.List.listItems
 refine xa (vh hl rfl (xf ?_))
 show wpAny _ A.in1 (updateSeq S (fun _=>#[]) >>= fun _=>letGo (#[]:Array Value).toList.reverse >>= fun _=>Builtin.List.listExtendWith (.ref S) (.ref z) .none) _ _ s
 refine xa (wpAny_updateSeq hl rfl ?_)
 have hS₂:=v3 (Obj.mapSeq (fun _=>(#[]:Array Value))) hl rfl
 have oth:∀b o,b≠S->s.heap.get? b=some o->(s.heap.update S (Obj.mapSeq (fun _=>(#[]:Array Value)))).get? b=some o:=fun b o hb e=>(ug _ _ (xB hb)).trans e
 refine xa (wpAny_letGo ?_)
 exact zNc (s:={ s with heap:=s.heap.update S (Obj.mapSeq (fun _=>(#[]:Array Value))) }) hh .none _ (g.frame hS n1 n2 (by rw[Heap.size_update];exact xh _) oth) (oth _ _ (xB hS'.1) hz) D hS n1 n2 hn hS₂ hR
theorem zJk {Q:Value->Shared->Prop}(hh:A.handled=none) (hz:IsZip s.heap z TI TO .none) (hTI:IsPair s.heap TI (.ref i1) (.ref i2)) (hTO:∃p q,IsPair s.heap TO p q) (k1:KIt b1 s.heap i1 l1 0) (k2:KIt b2 s.heap i2 l2 0) (q1:KSq b1 s.heap l1 xs) (q2:KSq b2 s.heap l2 ys) (D:ZipApart z TI TO i1 i2 l1 l2)
  (kp:∀c o,h0.get? c=some o->s.heap.get? c=some o) (own:∀a∈[z,TI,TO,i1,i2],h0.objs.size<=a) (hsz:h0.objs.size<=s.heap.objs.size) (hn:xs.size<=sizeLine)
  (hQ:∀(h':Heap) (Ts':List (Addr × Value × Value)) (c':Nat),(∀c o,h0.get? c=some o->h'.get? c=some o)->h0.objs.size<=h'.objs.size->Ts'.length=min xs.size ys.size->(∀(j:Nat) (t:Addr × Value × Value),Ts'[j]?=some t->xs[j]?=some t.2.1/\ys[j]?=some t.2.2/\IsPair h' t.1 t.2.1 t.2.2)->Ts'.Pairwise (fun a b=>a.1<b.1)->(∀t∈Ts',h0.objs.size<=t.1/\t.1≠s.heap.objs.size)->
   h'.get? s.heap.objs.size=some { cls:=.type "list",dict:=none,data:=.seq (Ts'.map fun t=>Value.ref t.1).toArray c',slots:=#[] }->Q (.ref s.heap.objs.size) { s with heap:=h' }):wpAny (model prog w) A (call (.type "list") [.ref z]) Q E s:=by
 refine callType_codes (Q₁:=fun obj s₁=>obj=.ref s.heap.objs.size/\s₁={ s with heap:=s.heap.push { cls:=.type "list",data:=.seq #[] } }) F.called_list (F.typeCall_list_1 _) F.entry_list_init
  (code_list_new _ ⟨rfl,rfl⟩) fun obj s₁ h₁=>?_
 obtain⟨rfl,rfl⟩:=h₁
 have hl:(s.heap.push { cls:=.type "list",data:=.seq #[] }).get? s.heap.objs.size=some { cls:=.type "list",data:=.seq #[] }:=xA _ rfl
 have up:∀b o,s.heap.get? b=some o->(s.heap.push { cls:=.type "list",data:=.seq #[] }).get? b=some o:=fun b o e=>xk _ e
 have ne:∀b o,s.heap.get? b=some o->b≠s.heap.objs.size:=fun b o e=>xr (xj e)
 obtain⟨p,q,hTO⟩:=hTO
 have nz:=ne _ _ hz
 have nI:=ne _ _ hTI
 have nO:=ne _ _ hTO
 have n1:i1≠s.heap.objs.size:=by obtain⟨o,e,_⟩:=k1;exact ne _ _ e
 have n2:i2≠s.heap.objs.size:=by obtain⟨o,e,_⟩:=k2;exact ne _ _ e
 have m1:l1≠s.heap.objs.size:=by obtain⟨o,e,_⟩:=q1;exact ne _ _ e
 have m2:l2≠s.heap.objs.size:=by obtain⟨o,e,_⟩:=q2;exact ne _ _ e
 have hS:s.heap.objs.size ∉ [z,TI,TO,i1,i2]:=by
  simp only[xi,xt,xu,not_or]
  exact⟨nz.symm,nI.symm,nO.symm,n1.symm,n2.symm⟩
 have g:ZS b1 b2 h0 z TI TO i1 i2 l1 l2 s.heap.objs.size xs ys 0 (s.heap.push { cls:=.type "list",data:=.seq #[] }) []:=
  ⟨.inl (up _ _ hz),up _ _ hTI,⟨p,q,up _ _ hTO⟩,k1.at fun o e=>up _ o e,k2.at fun o e=>up _ o e,q1.at fun o e=>up _ o e,q2.at fun o e=>up _ o e,fun c o e=>up c o (kp c o e),rfl,(fun j t e=>by simp at e),.nil,(fun t ht=>nomatch ht),(fun a ha=>by
   simp only[xi,xt,xu]at ha
   rcases ha with rfl|rfl|rfl|rfl|rfl|rfl
   ·exact own _ (by simp)
   ·exact own _ (by simp)
   ·exact own _ (by simp)
   ·exact own _ (by simp)
   ·exact own _ (by simp)
   ·exact hsz),xn hsz (by rw[xY];exact Nat.le_succ _)⟩
 refine⟨⟨_,hl,rfl⟩,F.args_list_init_2 _ _,zRl (A:=A.in1) hh g (up _ _ hz) D hS m1 m2 hn hl fun h' Ts' c' a1 a2 a3 a4 a5 a6 a7=>?_⟩
 exact⟨rfl,hQ h' Ts' c' a1 a2 a3 a4 a5 a6 a7⟩
end
end TS
namespace L2
open PySem PySem.Spec PyProof.Rows TS
noncomputable def updT (H:Hp):List (Addr × V × V)->Hp
 | []=>H
 | t::r=>updT (upd H t.1 (.tup [t.2.1,t.2.2])) r
theorem zH1:∀(Ts:List (Addr × V × V)) (H:Hp) (b:Addr),b ∉ Ts.map (·.1)->updT H Ts b=H b
 | [],_,_,_=>rfl
 | t::r,H,b,h=>by
  simp only[xw,xi,not_or]at h
  show updT (upd H t.1 _) r b=_
  rw[zH1 r _ b h.2,zAo h.1]
theorem zSx {P:Program}{w:World}{h:Heap}:∀(Ts:List (Addr × V × V)) (H:Hp),HOk P w H h->(∀t∈Ts,H t.1=none)->(Ts.map (·.1)).Nodup->(∀t∈Ts,∃u v,RelV t.2.1 u/\RelV t.2.2 v/\IsPair h t.1 u v)->HOk P w (updT H Ts) h
 | [],_,x,_,_,_=>x
 | t::r,H,x,hn,nd,al=>by
  have nd':=vR.mp nd
  obtain⟨u,v,ru,rv,hp⟩:=al t (.head _)
  refine zSx r _ (HOk.adopt x (hn t (.head _)) ⟨by show 2<=sizeLine;decide,[u,v],.cons ru (.cons rv .nil),⟨_,hp,rfl,_,rfl⟩⟩) (fun q hq=>?_) nd'.2 fun q hq=>al q (.tail _ hq)
  rw[zAo fun e=>nd'.1 (xG.mpr ⟨q,hq,e⟩)]
  exact hn q (.tail _ hq)
noncomputable def zLt (ta:TA):TE:=fun σ H Q=>ta σ H fun vs H1=>∃b1 b2 a b xs ys,vs=[.ref a,.ref b]/\H1 a=some (hoK b1 xs)/\H1 b=some (hoK b2 ys) /\
 ∀(Ts:List (Addr × V × V)) (l:Addr),Ts.map (·.2)=xs.zip ys->(∀t∈Ts,H1 t.1=none)->(Ts.map (·.1)).Nodup->H1 l=none->l ∉ Ts.map (·.1)->Q (.ref l) (upd (updT H1 Ts) l (.lst (Ts.map fun t=>.ref t.1)))
section
variable {X:Cx}{a b:Expr}{p p2 pos pos2:Pos}
theorem zJn:∀(l:List Addr),Vals (l.map fun t=>V.ref t) (l.map fun t=>Value.ref t)
 | []=>.nil
 | x::l=>.cons rfl (zJn l)
theorem zN0 {ta:TA}(hc:X.calm=true) (ha:PA X [a,b] ta) (hgl:Gl X "list") (hml:X.mg "list"=none) (hg:Gl X "zip") (hm:X.mg "zip"=none) (hs:starEach [a,b] X.env=[(false,eval a X.env),(false,eval b X.env)]) (hs2:starEach [b] X.env=[(false,eval b X.env)])
  (hs3:starEach [Expr.Call (.Name "zip" p2) [a,b] [] pos2] X.env=[(false,eval (.Call (.Name "zip" p2) [a,b] [] pos2) X.env)]:=by rfl):
  PE X (.Call (.Name "list" p) [.Call (.Name "zip" p2) [a,b] [] pos2] [] pos) (zLt ta):=by
 intro pins s σ H Q I h
 refine ue (zGe I hgl hml PyProof.Rows.boot_list ?_)
 refine ud ?_ hs3 rfl
 rw[hs3]
 show wpAny _ _ (spliced ((false,eval (.Call (.Name "zip" p2) [a,b] [] pos2) X.env)::backTo pos [])) _ _ s
 refine Calls.spliced_cons ?_
 refine Call_ (zGe I hg hm PyProof.Rows.boot_zip (ud (thn (ha pos2 pins s σ H _ I h) fun us s1 ⟨vs,H1,I1,r1,q1⟩=>?_) (by rw[hs,hs2]) (by rw[hs2];rfl)))
 obtain⟨b1,b2,l1,l2,xs,ys,e,ha1,hb1,q⟩:=q1
 subst e
 obtain⟨u1,u2,rfl,rfl,rfl⟩:=vals2 r1
 obtain⟨its,rv,p1,z1⟩:=I1.kSq ha1
 obtain⟨jts,rw',p2',z2⟩:=I1.kSq hb1
 refine zOr p1 p2' fun h1 c1 c2 c3 c4 c5 hk=>?_
 refine Calls.spliced_nil ?_
 have DZ:∀n:Nat,ZipOwn (n+4) (n+2) (n+3) n (n+1):=fun n=>by constructor <;> exact fun e=>absurd (show(_:Nat)=_ from e) (by nofun)
 have out:∀c,c∈[s1.heap.objs.size+4,s1.heap.objs.size+2,s1.heap.objs.size+3,s1.heap.objs.size,s1.heap.objs.size+1]->s1.heap.objs.size<=c:=fun c hc=>by
  simp only[xi,xt,xu]at hc
  rcases hc with rfl|rfl|rfl|rfl|rfl
  ·exact vq _ _
  ·exact vq _ _
  ·exact vq _ _
  ·exact xh _
  ·exact vq _ _
 have nl1:l1 ∉ [s1.heap.objs.size+4,s1.heap.objs.size+2,s1.heap.objs.size+3,s1.heap.objs.size,s1.heap.objs.size+1]:=fun hm=>by
  obtain⟨o,e,_⟩:=p1
  exact absurd (xj e) (Nat.not_lt.mpr (out _ hm))
 have nl2:l2 ∉ [s1.heap.objs.size+4,s1.heap.objs.size+2,s1.heap.objs.size+3,s1.heap.objs.size,s1.heap.objs.size+1]:=fun hm=>by
  obtain⟨o,e,_⟩:=p2'
  exact absurd (xj e) (Nat.not_lt.mpr (out _ hm))
 have sz1:s1.heap.objs.size<=h1.objs.size:=by
  have:=xj c1
  exact xn (vq _ _) (vy this)
 have lx:=rv.length
 have ly:=rw'.length
 refine zJk (s:={ s1 with heap:=h1 }) (h0:=s1.heap) (I.ok.hd hc) c1 c2 ⟨_,_,c3⟩ c4 c5 (p1.at fun o e=>hk _ o e) (p2'.at fun o e=>hk _ o e) ((DZ _).apart nl1 nl2) hk out sz1 (by simpa[<- lx]using z1) fun h' Ts c kp sz len at_ ord apt hS=>?_
 have lTs:Ts.length=(xs.zip ys).length:=by rw[len,xZ];simp[<- lx,<- ly]
 generalize hL:h1.objs.size=L at hS apt ⊢
 have hLs:s1.heap.objs.size<=L:=by rw[<- hL];exact sz1
 obtain⟨Us,hU1,hU2⟩:∃Us:List (Addr × V × V),Us.map (·.1)=Ts.map (·.1)/\Us.map (·.2)=xs.zip ys:=by
  refine⟨(Ts.map (·.1)).zip (xs.zip ys),?_,?_⟩
  ·rw[List.map_fst_zip];rw[xm];lia
  ·rw[List.map_snd_zip];rw[xm];lia
 have memU:∀t∈Us,s1.heap.objs.size<=t.1/\t.1≠L:=fun t ht=>by
  have:t.1∈Ts.map (·.1):=by rw[<- hU1];exact xG.mpr ⟨t,ht,rfl⟩
  obtain⟨r,hr,e⟩:=xG.mp this
  rw[<- e];exact apt r hr
 have fresh:∀c,s1.heap.objs.size<=c->H1 c=none:=fun c hc=>I1.hok.fresh hc
 have nd:(Us.map (·.1)).Nodup:=by
  rw[hU1]
  exact List.pairwise_map.mpr (ord.imp fun h z=>xr h z)
 have hok0:HOk X.prog X.w H1 h':=I1.hok.kept kp
 have rel:∀t∈Us,∃u v,RelV t.2.1 u/\RelV t.2.2 v/\IsPair h' t.1 u v:=fun t ht=>by
  obtain⟨j,hj,e⟩:=List.getElem_of_mem ht
  have lU:Us.length=Ts.length:=by have:=congrArg List.length hU1;simpa using this
  obtain⟨a1,a2,a3⟩:=at_ j (Ts[j]'(by nofun)) (xx _)
  have e1:(Us.map (·.1))[j]?=(Ts.map (·.1))[j]?:=by rw[hU1]
  have e2:(Us.map (·.2))[j]?=(xs.zip ys)[j]?:=by rw[hU2]
  rw[xR,xR,xx hj,xx (by nofun),e]at e1
  rw[xR,xx hj,e]at e2
  simp at e1
  obtain⟨f1,f2⟩:=List.getElem?_zip_eq_some.mp e2.symm
  obtain⟨u,hu,ru⟩:=rv.get f1
  obtain⟨v,hv,rv'⟩:=rw'.get f2
  refine⟨u,v,ru,rv',?_⟩
  rw[e1]
  have g1:u=(Ts[j]'(by nofun)).2.1:=by
   have:its.toArray[j]?=some u:=by simpa using hu
   rw[this]at a1;exact xD a1
  have g2:v=(Ts[j]'(by nofun)).2.2:=by
   have:jts.toArray[j]?=some v:=by simpa using hv
   rw[this]at a2;exact xD a2
  rw[g1,g2];exact a3
 have hokT:=zSx Us H1 hok0 (fun t ht=>fresh _ (memU t ht).1) nd rel
 have nL:L ∉ Us.map (·.1):=fun hm=>by
  obtain⟨t,ht,e⟩:=xG.mp hm
  exact(memU t ht).2 e
 have hLn:updT H1 Us L=none:=by rw[zH1 _ _ _ nL];exact fresh _ hLs
 have refs:Us.map (fun t=>V.ref t.1)=(Us.map (·.1)).map fun t=>V.ref t:=by rw[xM];rfl
 have refs':Ts.map (fun t=>Value.ref t.1)=(Us.map (·.1)).map fun t=>Value.ref t:=by rw[hU1,xM];rfl
 have hok:=HOk.adopt (D:=L) (o:=.lst (Us.map fun t=>.ref t.1)) hokT hLn ⟨by
  have lU:Us.length=Ts.length:=by have:=congrArg List.length hU1;simpa using this
  rw[xm,lU,lTs,xZ];lia,_,c,by rw[refs];exact zJn _,by rw[hS,refs']⟩
 have keep:∀c,c<s1.heap.objs.size->upd (updT H1 Us) L (.lst (Us.map fun t=>.ref t.1)) c=H1 c:=fun c hc=>by
  rw[zAo (xr (xv hc hLs)),zH1 _ _ _ fun hm=>by
   obtain⟨t,ht,e⟩:=xG.mp hm
   have:=(memU t ht).1
   rw[e]at this
   exact absurd hc (Nat.not_lt.mpr this)]
 have keepS:∀c u,H1 c=some u->upd (updT H1 Us) L (.lst (Us.map fun t=>.ref t.1)) c=some u:=fun c u e=>by
  rw[keep c ?_,e]
  rcases Nat.lt_or_ge c s1.heap.objs.size with q|q
  ·exact q
  ·rw[fresh c q]at e;cases e
 have I4:Inv X pins σ (upd (updT H1 Us) L (.lst (Us.map fun t=>.ref t.1))) { s1 with heap:=h' }:=by
  refine Inv.call' (s:=s1) (s':={ s1 with heap:=h' }) (ch:=[]) I1 rfl ?_ hok I1.bare fun b hb=>nomatch hb
  exact⟨fun b o e _ _ hx=>kp b o e,fun b o e _ _ hx=>⟨o.slots,kp b o e⟩,fun b o e n _=>by rw[keep b (xj e)];exact n,fun b o e hx=>⟨o,kp b o e⟩,
    fun b ys e=>keepS b _ e,fun b o u e=>keepS b _ e,fun b ps e=>⟨#[],by rw[keepS b _ e];simp⟩⟩
 exact⟨.ref L,_,I4,rfl,q Us L hU2 (fun t ht=>fresh _ (memU t ht).1) nd (fresh _ hLs) nL⟩
theorem qlistzip' {ta:TA}(hc:X.calm=true) (ha:SA X [a,b] ta) (hgl:Gl X "list") (hml:X.mg "list"=none) (hg:Gl X "zip") (hm:X.mg "zip"=none) (hs:starEach [a,b] X.env=[(false,eval a X.env),(false,eval b X.env)]) (hs2:starEach [b] X.env=[(false,eval b X.env)]):
  SE X (.Call (.Name "list" p) [.Call (.Name "zip" p2) [a,b] [] pos2] [] pos) (zLt ta):=⟨zN0 hc ha.h hgl hml hg hm hs hs2⟩
end
end L2
namespace L2
open PySem PySem.Spec PyProof.Rows
open DS (D Store Exn Rs SR)
section
variable {X:Cx}{K:PySem.W.Frag}{E:XE}{J:Js}{S:Store}{H:Hp}{d d1 d2:D}{v:V}
theorem zSb {l:List D}{c:Bool}(ha:AbS K J S H) (r:Rep K J H d v) (e:DS.trk S d=some (c,l)):∃a xs,v=.ref a/\H a=some (hoK c xs)/\RepL K J H l xs:=by
 cases d with
 | tup l=>cases e;obtain⟨a,xs,rfl,t,rl⟩:=r;exact⟨a,xs,rfl,t.1,rl⟩
 | lst l=>cases e;obtain⟨a,xs,rfl,t,rl⟩:=r;exact⟨a,xs,rfl,t.1,rl⟩
 | ref n=>
  obtain⟨a,ea,rfl⟩:=r
  obtain⟨c',ec,o,eo,rc⟩:=ha.at ea
  have e:(match S[n]? with|some (.lst l)=>some (false,l)|_=>none)=some (c,l):=e
  rw[ec]at e
  cases c' with
  | lst l'=>
   cases e
   obtain⟨ys,rfl,rl⟩:=rc
   exact⟨a,ys,rfl,eo,rl⟩
  | _=>cases e
 | _=>cases e
theorem zNz:∀(Ts:List (Addr × V × V)) (l m:List D) (xs ys:List V) (H:Hp),AbS K J S H->RepL K J H l xs->RepL K J H m ys->Ts.map (·.2)=xs.zip ys->(∀t∈Ts,H t.1=none)->(Ts.map (·.1)).Nodup->
  AbS K J S (updT H Ts)/\Grow J H J (updT H Ts)/\RepL K J (updT H Ts) ((l.zip m).map fun p=>.tup [p.1,p.2]) (Ts.map fun t=>.ref t.1)
 | [],l,m,xs,ys,H,ha,r1,r2,e,_,_=>by
  refine⟨ha,.refl,?_⟩
  have:(l.zip m).length=0:=by rw[xZ,r1.length,r2.length,<- xZ,<- e];rfl
  rw[List.length_eq_zero_iff.mp this]
  rfl
 | t::Ts,[],m,xs,ys,H,ha,r1,r2,e,_,_=>by cases r1;cases e
 | t::Ts,d::l,[],xs,ys,H,ha,r1,r2,e,_,_=>by
  cases r2
  rw[List.zip_nil_right]at e
  cases e
 | t::Ts,d::l,d'::m,xs,ys,H,ha,r1,r2,e,hn,nd=>by
  obtain⟨x,xs,rfl,rx,r1⟩:=r1
  obtain⟨y,ys,rfl,ry,r2⟩:=r2
  have e0:t.2::Ts.map (·.2)=(x,y)::xs.zip ys:=e
  injection e0 with e1 e2
  obtain⟨ta,tx,ty⟩:=t
  simp only[Prod.mk.injEq]at e1
  obtain⟨rfl,rfl⟩:=e1
  have nd':=vR.mp nd
  have g0:Grow J H J (upd H ta (.tup [tx,ty])):=.push (hn (ta,tx,ty) (.head _))
  have a0:AbS K J S (upd H ta (.tup [tx,ty])):=ha.push (hn (ta,tx,ty) (.head _))
  obtain⟨a1,g1,q1⟩:=zNz Ts l m xs ys _ a0 (RepL.grow g0 _ _ r1) (RepL.grow g0 _ _ r2) e2 (fun q hq=>by
   rw[zAo fun z=>nd'.1 (xG.mpr ⟨q,hq,z⟩)]
   exact hn q (.tail _ hq)) nd'.2
  refine⟨a1,g0.trans g1,?_⟩
  refine⟨.ref ta,_,rfl,Rep.grow g1 (.tup [d,d']) _ ?_,q1⟩
  refine⟨ta,_,rfl,⟨zAt,ha.out (hn (ta,tx,ty) (.head _))⟩,tx,[ty],rfl,?_,ty,[],rfl,?_,rfl⟩
  ·exact Rep.grow g0 _ _ rx
  ·exact Rep.grow g0 _ _ ry
theorem zNf {a b:Expr}{am:DS.AM}{p p2 pos pos2:Pos}(hc:X.calm=true) (ha:DA X K E [a,b] am) (hgl:Gl X "list") (hml:X.mg "list"=none) (hg:Gl X "zip") (hm:X.mg "zip"=none) (h1:nst a=true:=by rfl) (h2:nst b=true:=by rfl):
  DF X K E (.Call (.Name "list" p) [.Call (.Name "zip" p2) [a,b] [] pos2] [] pos) (DS.eCB DS.zipT am):=by
 refine⟨(qlistzip' hc ha.h hgl hml hg hm (by rw[zC9 h1,zC9 h2];rfl) (by rw[zC9 h2];rfl)).imp fun σ H Q ⟨env,S,J,hA,hE,q⟩=>⟨env,S,J,hA,hE,q.bind.imp fun ds S1 J1 H1 e1 a1 g1 q1 xs rx=>?_⟩⟩
 obtain⟨c,ec,k⟩:=q1.lift
 have hl:=ha.len _ _ _ _ e1
 match ds,hl with
 | [d,d'],_=>
  obtain⟨x,y,rfl,r,r'⟩:=zH9 rx
  unfold DS.zipT at ec
  simp only at ec
  cases t1:DS.trk S1 d with
  | none=>rw[t1]at ec;cases ec
  | some p1=>
   cases t2:DS.trk S1 d' with
   | none=>rw[t1,t2]at ec;cases ec
   | some p2=>
    obtain⟨c1,l⟩:=p1
    obtain⟨c2,m⟩:=p2
    rw[t1,t2]at ec
    cases ec
    obtain⟨a',xs,rfl,f1,s1⟩:=zSb a1 r t1
    obtain⟨b',ys,rfl,f2,s2⟩:=zSb a1 r' t2
    refine⟨c1,c2,a',b',xs,ys,rfl,f1,f2,fun Ts L hz hn nd hLn nL=>?_⟩
    obtain⟨a2,g2,q2⟩:=zNz Ts l m xs ys H1 a1 s1 s2 hz hn nd
    exact k J1 (updT H1 Ts) a2 g2 L _ (by rw[zH1 _ _ _ nL];exact hLn) ⟨_,rfl,q2⟩
end
end L2
namespace L2
open PySem PySem.Spec PyProof.Rows
open DS (D Store Exn Rs SR)
section
variable {X:Cx}{K:PySem.W.Frag}
theorem zK1:OpR X (compareOp .Eq) (r2Of K DS.eqI):=by
 intro pins s σ H x y v u Q I rx ry hq35
 obtain⟨J,S,d1,d2,d,ha,r1,r2,e,k⟩:=hq35
 unfold DS.eqI at e
 split at e
 ·cases e
  obtain rfl:=r1
  obtain rfl:=r2
  obtain⟨t,rfl⟩:=rx
  obtain⟨t',rfl⟩:=ry
  exact eq_int ⟨.bl _,H,I,rfl,k _ H ha .refl rfl⟩
 ·cases e
end
end L2
namespace L2
open PySem PySem.Spec PyProof.Rows
open DS (D Store Exn Rs SR)
section
variable {X:Cx}{K:PySem.W.Frag}{J:Js}{S:Store}{H:Hp}
theorem zMo {bt:Nat->Nat->Bool}{f:Nat->Int}(le:Int->Int->Prop) (rf:∀a,le a a) (tr:∀a b c,le a b->le b c->le a c) (h1:∀i j,bt i j=true->le (f i) (f j)) (h2:∀i j,bt i j=false->le (f j) (f i)):∀(k:Nat),argBest bt k<=k/\∀i,i<=k->le (f (argBest bt k)) (f i)
 | 0=>⟨xh _,fun i hi=>by rw[Nat.le_zero.mp hi];exact rf _⟩
 | k+1=>by
  obtain⟨a,b⟩:=zMo le rf tr h1 h2 k
  unfold argBest
  split
  ·rename_i c
   refine⟨xh _,fun i hi=>?_⟩
   rcases Nat.lt_or_eq_of_le hi with z|z
   ·exact tr _ _ _ (h1 _ _ c) (b i (Nat.le_of_lt_succ z))
   ·rw[z];exact rf _
  ·rename_i c
   refine⟨Nat.le_succ_of_le a,fun i hi=>?_⟩
   rcases Nat.lt_or_eq_of_le hi with z|z
   ·exact b i (Nat.le_of_lt_succ z)
   ·rw[z];exact h2 _ _ (Bool.eq_false_iff.mpr c)
theorem zXy {p:Int->Int->Prop}{bt:Nat->Nat->Bool}(tr:∀a b c,¬ p b a->¬ p c b->¬ p c a) (as:∀a b,p a b->¬ p b a) (tot:∀a b,¬ p a b->¬ p b a->a=b) {a:Int}{r:List Int}(hb:∀i j,bt i j=true <-> p ((a::r).getD i 0) ((a::r).getD j 0)):(a::r).getD (argBest bt r.length) 0=DS.bst p a r:=by
 obtain⟨h1,h2⟩:=DS.zPu tr as r a
 obtain⟨k1,k2⟩:=zMo (bt:=bt) (f:=fun i=>(a::r).getD i 0) (fun x y=>¬ p y x) (fun x z=>as _ _ z z) (fun x y z h h'=>tr _ _ _ h h') (fun i j h=>as _ _ ((hb i j).mp h)) (fun i j h=>fun z=>by rw[(hb i j).mpr z]at h;cases h) r.length
 have kl:argBest bt r.length<(a::r).length:=Nat.lt_succ_of_le k1
 obtain⟨i,hi,e⟩:=List.mem_iff_getElem.mp h1
 refine tot _ _ (fun z=>?_) fun z=>?_
 ·refine h2 _ ?_ z
  rw[v7,xx kl]
  exact List.getElem_mem kl
 ·refine k2 i (Nat.le_of_lt_succ hi) ?_
  rw[v7,xx hi]
  show p (a::r)[i] _
  rw[e]
  exact z
theorem zS5 {p:Int->Int->Prop}{op:CmpOp}{nm:String}(tr:∀a b c,¬ p b a->¬ p c b->¬ p c a) (as:∀a b,p a b->¬ p b a) (tot:∀a b,¬ p a b->¬ p b a->a=b) [DecidableRel p]
  (cmp:∀{x y:Int}{t u:Tok}{s:Shared}{A:Around}{Q:Value->Shared->Prop}{E:Value->Shared->Prop},Q (.bool (decide (p x y))) s->wpAny (model X.prog X.w) A (richCompare op (.int x t) (.int y u)) Q E s)
  (wk:∀{x:Value}{s:Shared}{Q:Value->Shared->Prop},wpAny (model X.prog X.w) X.A.in1 (pyIter x) (fun it s₂=>∃I fp wr n P St bt,it=.ref I/\Walks X.prog X.w X.A.in1 I fp wr n P St/\St 0 s₂.heap/\(∀b∈fp,b<s₂.heap.objs.size)/\0<n/\CmpOf X.prog X.w X.A.in1 op P bt /\
   ∀v h' tk,P (argBest bt (n-1)) v->(∀b o,b ∉ wr->s₂.heap.get? b=some o->h'.get? b=some o)->Q v { s₂ with heap:=h',toks:=tk }) X.xe s->wpAny (model X.prog X.w) X.A (call (.builtin nm) [x]) Q X.xe s)
  (hc:X.calm=true) (hK:X.K=K:=by rfl):zCb X (.builtin nm) (cOf K (DS.bstL p)):=by
 subst hK
 intro pins s σ H xs us Q I r hq36
 obtain⟨J,S,ds,d,ha,rl,e,k⟩:=hq36
 unfold DS.bstL at e
 split at e
 ·rename_i d0
  obtain⟨x,rfl,rx⟩:=zCu (ds:=[]) rl
  split at e
  ·rename_i a r' e1
   cases e
   split at e1
   ·rename_i l e2
    have el:=DS.zKe e1
    obtain⟨b,ys,rfl,hq,q⟩:=zM5 ha rx e2
    obtain⟨u,rfl,ru⟩:=vals1 r
    cases ru
    obtain⟨its,rv,pl,_⟩:=I.list hq
    have at_:∀(i:Nat) (v:Value),its.toArray[i]?=some v->∃t,v=.int ((a::r').getD i 0) t:=fun i v hv=>by
     rw[el]at q
     have hl:=q.length
     rw[xm]at hl
     have hv':its[i]?=some v:=by simpa using hv
     have hi:i<(a::r').length:=by rw[hl,rv.length];exact(xK.mp hv').1
     obtain⟨y,hy,ry⟩:=q.get (i:=i) (d:=.int (a::r')[i]) (by rw[xR,xx hi];rfl)
     obtain rfl:=ry
     obtain⟨w,hw,t,ew⟩:=rv.get hy
     rw[hv']at hw
     cases hw
     exact⟨t,by rw[ew,v7,xx hi];rfl⟩
    have sz:its.toArray.size=r'.length+1:=by
     have h1:=q.length
     rw[el,xm]at h1
     rw[xo,<- rv.length,<- h1];rfl
    have hlt:b<s.heap.objs.size:=by obtain⟨o,ho,_⟩:=pl.isList;exact xj ho
    have hne:b≠s.heap.objs.size:=xr hlt
    have W:=Walks.list (prog:=X.prog) (w:=X.w) (A:=X.A.in1) (I.ok.hd hc) s.heap.objs.size b hne its.toArray
    refine wk (ui pl.isList ⟨_,_,_,_,_,_,fun i j=>decide (p ((a::r').getD i 0) ((a::r').getD j 0)),rfl,W,⟨⟨_,xA _ rfl,rfl,rfl⟩,pl.isList.push _⟩,fun c hm=>?_,by rw[sz];exact Nat.succ_pos _,fun i j vi vj s' Q' E' hi hj hQ=>?_,fun v h' tk hv kp=>?_⟩)
    ·rw[xY]
     rcases xi.mp hm with z|z
     ·rw[z];exact Nat.lt_succ_self _
     ·rw[xJ.mp z];exact Nat.lt_succ_of_lt hlt
    ·obtain⟨t,rfl⟩:=at_ i vi hi
     obtain⟨t',rfl⟩:=at_ j vj hj
     exact cmp hQ
    ·obtain⟨t,rfl⟩:=at_ _ v hv
     rw[sz,Nat.add_sub_cancel,zXy tr as tot fun i j=>decide_eq_true_iff]
     exact⟨.int _,H,I.kept (t':=tk) fun c o e=>kp c o (fun z=>xr (xj e) (xJ.mp z)) (xk _ e),⟨t,rfl⟩,k _ H ha .refl rfl⟩
   ·cases e1
  ·cases e
 ·cases e
theorem zPp (hc:X.calm=true) (hK:X.K=K:=by rfl):zCb X (.builtin "max") (cOf K DS.maxI):=
 zS5 (op:=.Gt) (fun a b c h h'=>by nofun) (fun a b h=>by nofun) (fun a b h h'=>by nofun) (fun h=>gt_int h) (fun h=>call_max_walk h) hc hK
end
end L2
namespace L2
open PySem PySem.Spec PyProof.Rows EK
open DS (D Store Exn Rs SR lv)
section
open Classical
variable {X:Cx}{K:PySem.W.Frag}{J:Js}{S:Store}{H:Hp}{d1 d2:D}
theorem A2.at {α β:Type}{R:α->β->Prop}{l:List α}{m:List β}(h:A2 R l m):∀(i:Nat) (b:β),m[i]?=some b->∃a,l[i]?=some a/\R a b:=by
 induction h with
 | nil=>intro i b e;cases e
 | cons r _ ih=>
  intro i b e
  cases i with
  | zero=>cases e;exact⟨_,rfl,r⟩
  | succ i=>exact ih i b e
theorem zSw {l m:List D}:((List.range (min l.length m.length)).all (fun j=>decide (l[j]?=m[j]?)) && l.length == m.length)=decide (l=m):=by
 by_cases c:l=m
 ·subst c;simp
 ·rw[xq c]
  refine Bool.eq_false_iff.mpr fun z=>c ?_
  rw[xF,vg]at z
  have hl:l.length=m.length:=by simpa using z.2
  refine List.ext_getElem? fun i=>?_
  by_cases hi:i<l.length
  ·exact of_decide_eq_true (z.1 i (List.mem_range.mpr (by nofun)))
  ·rw[vG (by nofun),vG (by nofun)]
theorem zE8 (hu:X.A.units+64<cLine) (hK:X.K=K:=by rfl):OpR X (compareOp .NotEq) (r2Of K DS.neK):=by
 subst hK
 intro pins s σ H x y v u Q I rx ry hq37
 obtain⟨J,S,d1,d2,d,ha,r1,r2,e,k⟩:=hq37
 unfold DS.neK at e
 split at e
 ·cases e
  obtain rfl:=r1
  obtain rfl:=r2
  obtain⟨t,rfl⟩:=rx
  obtain⟨t',rfl⟩:=ry
  exact ne_int ⟨.bl _,H,I,rfl,k _ H ha .refl rfl⟩
 ·cases e
  obtain rfl:=r1
  obtain rfl:=r2
  cases rx
  cases ry
  exact SeqAt.RcNeAt.bool_bool _ _ _ _ _ _ ⟨.bl _,H,I,by rw[Bool.beq_eq_decide_eq];exact rfl,k _ H ha .refl rfl⟩
 ·cases e
  obtain rfl:=r1
  obtain rfl:=r2
  obtain⟨t,rfl⟩:=rx
  obtain⟨t',rfl⟩:=ry
  exact SeqAt.RcNeAt.str_str _ _ _ _ _ _ _ _ ⟨.bl _,H,I,rfl,k _ H ha .refl rfl⟩
 ·rename_i l m
  split at e
  ·rename_i hs
   cases e
   obtain⟨n,hn,hl⟩:=hs
   obtain⟨a,xs,rfl,t1,q1⟩:=r1
   obtain⟨b,ys,rfl,t2,q2⟩:=r2
   cases rx
   cases ry
   obtain⟨its,va,ta,_⟩:=I.tuple t1.sq
   obtain⟨jts,vb,tb,_⟩:=I.tuple t2.sq
   have al:=zKg (K:=X.K) (J:=J) I (fun d hd=>hl d (vM _ hd)) q1 va
   have bl:=zKg (K:=X.K) (J:=J) I (fun d hd=>hl d (xN _ hd)) q2 vb
   refine SeqAt.RcNeAt.tuples (A:=X.A) (e:=fun j=>decide (l[j]?=m[j]?)) (show s.heap.IsTuple a its.toArray from ta) (show s.heap.IsTuple b jts.toArray from tb) (by nofun) (fun j h1 h2=>?_) _ _ _ _ ?_
   ·simp only[xo]at h1 h2
    simp only[List.getElem_toArray]
    obtain⟨d,ed,rd⟩:=A2.at al j _ (xx h1)
    obtain⟨d',ed',rd'⟩:=A2.at bl j _ (xx h2)
    rw[ed,ed',show decide (some d=some d')=decide (d=d')from decide_eq_decide.mpr ⟨xD,fun z=>by rw[z]⟩]
    exact fun prog w E Q hq=>zRu n rd rd' (by show X.A.units+1+n<cLine;lia) hq
   ·simp only[xo]
    rw[<- al.length,<- bl.length,zSw]
    exact⟨.bl _,H,I,rfl,k _ H ha .refl rfl⟩
  ·cases e
 ·cases e
end
end L2
namespace L2
open PySem PySem.Spec PyProof.Rows EK
open DS (D Store Exn Rs SR lv)
section
open Classical
variable {X:Cx}{K:PySem.W.Frag}{E:XE}{J:Js}{S:Store}{H:Hp}
theorem zWx (hu:X.A.units+64<cLine) (hK:X.K=K:=by rfl):OpR X (compareOp .Eq) (r2Of K DS.eqK):=by
 subst hK
 intro pins s σ H x y v u Q I rx ry hq38
 obtain⟨J,S,d1,d2,d,ha,r1,r2,e,k⟩:=hq38
 unfold DS.eqK at e
 split at e
 ·cases e
  obtain rfl:=r1
  obtain rfl:=r2
  obtain⟨t,rfl⟩:=rx
  obtain⟨t',rfl⟩:=ry
  exact eq_int ⟨.bl _,H,I,rfl,k _ H ha .refl rfl⟩
 ·rename_i l m
  split at e
  ·rename_i hs
   cases e
   obtain⟨n,hn,hl⟩:=hs
   obtain⟨a,xs,rfl,t1,q1⟩:=r1
   obtain⟨b,ys,rfl,t2,q2⟩:=r2
   cases rx
   cases ry
   obtain⟨its,va,ta,_⟩:=I.tuple t1.sq
   obtain⟨jts,vb,tb,_⟩:=I.tuple t2.sq
   have al:=zKg (K:=X.K) (J:=J) I (fun d hd=>hl d (vM _ hd)) q1 va
   have bl:=zKg (K:=X.K) (J:=J) I (fun d hd=>hl d (xN _ hd)) q2 vb
   refine SeqAt.RcAt.tuples (A:=X.A) (e:=fun j=>decide (l[j]?=m[j]?)) (show s.heap.IsTuple a its.toArray from ta) (show s.heap.IsTuple b jts.toArray from tb) (by nofun) (fun j h1 h2=>?_) _ _ _ _ ?_
   ·simp only[xo]at h1 h2
    simp only[List.getElem_toArray]
    obtain⟨d,ed,rd⟩:=A2.at al j _ (xx h1)
    obtain⟨d',ed',rd'⟩:=A2.at bl j _ (xx h2)
    rw[ed,ed',show decide (some d=some d')=decide (d=d')from decide_eq_decide.mpr ⟨xD,fun z=>by rw[z]⟩]
    exact fun prog w E Q hq=>zRu n rd rd' (by show X.A.units+1+n<cLine;lia) hq
   ·simp only[xo]
    rw[<- al.length,<- bl.length,zSw]
    exact⟨.bl _,H,I,rfl,k _ H ha .refl rfl⟩
  ·cases e
 ·cases e
end
end L2
namespace L2
open PySem PySem.Spec PyProof.Rows EK
open DS (D Store Exn Rs SR lv)
section
open Classical
variable {X:Cx}{K:PySem.W.Frag}{E:XE}{J:Js}{S:Store}{H:Hp}
theorem zLz:∀{ys:List Str}{xs:List V},RepL K J H (ys.map D.str) xs->xs=ys.map V.str
 | [],xs,h=>by cases h;rfl
 | y::ys,xs,h=>by
  obtain⟨x,r,rfl,hx,hr⟩:=h
  obtain rfl:=hx
  rw[zLz hr]
  rfl
theorem zLu:∀(ys:List Str),RepL K J H (ys.map D.str) (ys.map V.str)
 | []=>rfl
 | y::ys=>⟨.str y,ys.map V.str,rfl,rfl,zLu ys⟩
theorem zOl:MtR X "str.startswith" (mOf K DS.startM):=by
 intro pins s σ H x xs v us Q I rx rs hq
 obtain⟨J,S,d1,ds,d,S',ha,r1,rl,e,k⟩:=hq
 unfold DS.startM at e
 split at e
 ·cases e
  obtain⟨y,rfl,ry⟩:=zCu (ds:=[]) rl
  obtain rfl:=r1
  obtain rfl:=ry
  exact zJa pins s σ H _ _ v us Q I rx rs ⟨_,_,rfl,rfl,k _ H ha .refl rfl⟩
 ·cases e
theorem zEj:MtR X "str.split" (mOf K DS.splitM):=by
 intro pins s σ H x xs v us Q I rx rs hq
 obtain⟨J,S,d1,ds,d,S',ha,r1,rl,e,k⟩:=hq
 unfold DS.splitM at e
 split at e
 ·split at e
  ·rename_i h
   cases e
   obtain⟨y,rfl,ry⟩:=zCu (ds:=[]) rl
   obtain rfl:=r1
   obtain rfl:=ry
   exact zRa pins s σ H _ _ v us Q I rx rs ⟨_,_,rfl,rfl,h.1,h.2.1,h.2.2,fun l n=>k _ _ (ha.push n) (.push n) ⟨l,_,rfl,⟨zAt,ha.out n⟩,zLu _⟩⟩
  ·cases e
 ·cases e
theorem zDe (hK:X.K=K:=by rfl):MtR X "str.join" (mOf K DS.joinM):=by
 subst hK
 intro pins s σ H x xs v us Q I rx rs hq
 obtain⟨J,S,d1,ds,d,S',ha,r1,rl,e,k⟩:=hq
 unfold DS.joinM at e
 split at e
 ·rename_i sep d0
  obtain⟨y,rfl,ry⟩:=zCu (ds:=[]) rl
  obtain rfl:=r1
  split at e
  ·rename_i ys e1
   split at e
   ·rename_i h
    cases e
    split at e1
    ·rename_i l e2
     have el:=DS.zJr e1
     obtain⟨b,zs,rfl,hq,q⟩:=zM5 ha ry e2
     rw[el]at q
     obtain rfl:=zLz q
     exact zUf rfl pins s σ H _ _ v us Q I rx rs ⟨_,_,_,rfl,rfl,hq,h.1,h.2,k _ H ha .refl rfl⟩
    ·cases e1
   ·cases e
  ·cases e
 ·cases e
theorem zDv:zCb X (.type "str") (cOf K DS.strI):=by
 intro pins s σ H xs us Q I r hq
 obtain⟨J,S,ds,d,ha,rl,e,k⟩:=hq
 unfold DS.strI at e
 split at e
 ·split at e
  ·rename_i h
   cases e
   obtain⟨x,rfl,rx⟩:=zCu (ds:=[]) rl
   obtain rfl:=rx
   exact zKj pins s σ H _ us Q I r ⟨_,rfl,h,k _ H ha .refl rfl⟩
  ·cases e
 ·cases e
theorem zG7:zCb X (.type "int") (cOf K DS.intS):=by
 intro pins s σ H xs us Q I r hq
 obtain⟨J,S,ds,d,ha,rl,e,k⟩:=hq
 unfold DS.intS at e
 split at e
 ·split at e
  ·rename_i n e1
   split at e
   ·rename_i h
    cases e
    obtain⟨x,rfl,rx⟩:=zCu (ds:=[]) rl
    obtain rfl:=rx
    exact zPr pins s σ H _ us Q I r ⟨_,n,rfl,e1,h,k _ H ha .refl rfl⟩
   ·cases e
  ·cases e
 ·cases e
theorem sl_T (hK:X.K=K:=by rfl):SlR X (slOf K DS.slT):=by
 intro pins s σ H x v vl vu lo hi sl Q I rx hs pl pu hq
 obtain⟨J,S,d1,d,ha,r1,e,k⟩:=hq
 unfold DS.slT at e
 split at e
 ·split at e
  ·rename_i z n h
   cases e
   obtain rfl:=r1
   exact zVo pins s σ H _ v vl vu _ _ sl Q I rx hs pl pu ⟨z,n.toNat,rfl,by rw[Int.toNat_of_nonneg h.1],rfl,h.2,k _ H ha .refl rfl⟩
  ·cases e
 ·exact sl_D hK pins s σ H x v vl vu lo hi sl Q I rx hs pl pu ⟨J,S,d1,d,ha,r1,e,k⟩
theorem zOe (hu:X.A.units+64<cLine) (hK:X.K=K:=by rfl):OpR X (compareOp .In) (r2Of K DS.inN):=by
 subst hK
 intro pins s σ H x y v u Q I rx ry hq
 obtain⟨J,S,d1,d2,d,ha,r1,r2,e,k⟩:=hq
 unfold DS.inN at e
 split at e
 ·split at e
  ·rename_i l h
   cases e
   obtain rfl:=r1
   obtain⟨p,xs,rfl,t1,q1⟩:=r2
   refine zWw hu rfl pins s σ H _ _ v u Q I rx ry ⟨p,xs,rfl,rfl,t1.sq,fun z hz=>?_,k _ H ha .refl rfl⟩
   obtain⟨i,hi⟩:=List.getElem?_of_mem hz
   obtain⟨d,ed,rd⟩:=q1.get' hi
   obtain⟨m,rfl⟩:=h d (vv ed)
   obtain⟨a,ys,rfl,t2,_⟩:=rd
   exact⟨a,ys,rfl,t2.sq⟩
  ·cases e
 ·cases e
theorem zK0 (hu:X.A.units+64<cLine) (hK:X.K=K:=by rfl):OpR X (compareOp .Eq) (r2Of K DS.eqT):=by
 intro pins s σ H x y v u Q I rx ry hq
 obtain⟨J,S,d1,d2,d,ha,r1,r2,e,k⟩:=hq
 unfold DS.eqT at e
 split at e
 ·cases e
  obtain rfl:=r1
  obtain rfl:=r2
  obtain⟨t,rfl⟩:=rx
  obtain⟨t',rfl⟩:=ry
  exact SeqAt.RcAt.str_str _ _ _ _ _ _ _ _ ⟨.bl _,H,I,rfl,k _ H ha .refl rfl⟩
 ·exact zWx hu hK pins s σ H x y v u Q I rx ry ⟨J,S,d1,d2,d,ha,r1,r2,e,k⟩
theorem zSs {e:Expr}:DE X K E e DS.eBad:=⟨⟨fun pins s σ H Q I h=>by
 obtain⟨env,S,J,ha,hE,q⟩:=h
 exact q.elim⟩⟩
theorem zV1 {ss:List Stmt}:DSs X K E ss DS.zGb:=⟨⟨fun pins s σ H D I h=>by
 obtain⟨env,S,J,ha,hE,q⟩:=h
 exact q.elim⟩⟩
end
end L2
namespace TS
open PySem
noncomputable abbrev enOS (it:Addr) (n:Int):Obj:={ cls:=.type "enumerate",data:=.fields #[.none,.bool false,.ref it,rawInt n,.none,.none] }
theorem zUz (b:Bool) (l:Addr) (xs:Array Value) (n:Int) (t:Tok) (hn:Builtin.SmallTypes.fitsIndex n=true):Meets (Builtin.«enumerate.__new__» ⟨[.type "enumerate",.ref l],[("start",.int n t)]⟩) (fun _ R s=>KSq b s.heap l xs/\R (.ok (.ret (.ref (s.heap.push (itO b l)).objs.size))) { s with heap:=(s.heap.push (itO b l)).push (enOS s.heap.objs.size n) }):=
 .of_wp fun prog w A R s h=>by
  obtain⟨hp,g,d,tk,os⟩:=s;obtain⟨q1,h⟩:=h
  have hsub:=sub_enumerate
  have L1:KSq b (Shared.heap ⟨hp,g,d,tk,os⟩) l xs:=q1
  wp_walk using zKc L1
  refine wpAny_stack_any fun st=>xf ?_
  split
  ·rename_i c _ _ _ _ _
   cases(c == Value.type "enumerate") <;> (wp_walk using zKc L1;exact⟨_,rfl,h⟩)
  ·wp_walk using zKc L1
   exact⟨_,rfl,h⟩
section
variable {prog:Program}{w:World}{A:Around}{E:Value->Shared->Prop}{s:Shared}
theorem zUq {T newId:String}{self:Value}{rest:List Value}{kw:List (Str × Value)}(hl:typeLookup (.type T) "__init__"=pure (some (.builtin "object.__init__"))) (hm:Bind.madeBy (.type T)=pure (some newId)) (hne:(some newId != some "object.__new__")=true):Meets (Builtin.«object.__init__» ⟨self::rest,kw⟩) (fun _ R s=>s.TypeIs self T/\R (.ok (.ret .none)) s):=by
 refine Meets.of_wp fun prog w A R s hq1=>?_
 obtain⟨hT,hq⟩:=hq1
 cases rest with
 | nil=>cases kw with
  | nil=>exact xf ⟨_,rfl,hq⟩
  | cons b kw=>
   repeat (any_goals (first|assumption|wp_step))
   exact⟨_,rfl,hq⟩
 | cons a rest=>
  repeat (any_goals (first|assumption|wp_step))
  exact⟨_,rfl,hq⟩
theorem zLn {T newId initId:String}{Bn Bi:Builtin}{args:List Value}{kw:List (Str × Value)}{S:Spec}{Q Q₁:Value->Shared->Prop}(ft:TypeCalled T newId initId)
  (hct:checkTypeCall T ⟨args,kw⟩=pure ()) (hcn:checkBuiltinCall newId ⟨.type T::args,kw⟩=pure ()) (entryN:entryFor table newId=some Bn) (entryI:entryFor table initId=some Bi) (g:Meets (Bn ⟨.type T::args,kw⟩) S) (h:S A.in1 (wants Q₁ E) s)
  (hnext:∀obj s₁,Q₁ obj s₁->s₁.TypeIs obj T/\argsOk initId ⟨obj::args,kw⟩/\∃Si,Meets (Bi ⟨obj::args,kw⟩) Si/\Si A.in1 (wants (fun r s₂=>r=.none/\Q obj s₂) E) s₁):wpAny (model prog w) A (call (.type T) args kw) Q E s:=by
 obtain⟨c,tl,hmro⟩:=ft.mro;have hmade:=ft.made;have hsub:=ft.sub
 refine wpAny_call (codeAny_of_tree (show wpAny _ _ (callAny (.type T) _) _ _ _ from xf ⟨Code.quiet_builtin _ (by decide +kernel),codeAny_builtin F.entry_type_call ?_⟩))
 rw[Around.under_plain (weight_type_call_type T args kw) (units_type_call_type T args kw)]
 have h1:=ft.notType;have h2:=ft.canCreate
 repeat (any_goals (first|assumption|wp_step))
 refine codeAny_mono (codeAny_call_builtin ft.plain entryN (wpAny_of_eq hcn (g prog w A.in1 _ s h))) fun r s₁ hr=>?_
 cases r with
 | error e=>exact hr
 | ok fl=>
  cases fl with
  | ret obj=>
   obtain⟨hT,hok,Si,gi,hsi⟩:=hnext _ _ hr;have hli:=ft.init.lookup;have hbi:=ft.init.bind obj
   repeat (any_goals (first|assumption|wp_step))
   refine codeAny_mono (codeAny_call_builtin ft.init.plain entryI (ft.init.check _ _ _ _ _ _ _ _ hT hok (gi prog w A.in1 _ s₁ hsi))) fun r₂ s₂ hr₂=>?_
   cases r₂ with
   | error e=>exact hr₂
   | ok fl₂=>
    cases fl₂ with
    | ret r=>
     obtain⟨rfl,hq⟩:=hr₂
     repeat (any_goals (first|assumption|wp_step))
    | _=>exact hr₂.elim
  | _=>exact hr.elim
theorem zVj (a b:Value):checkTypeCall "enumerate" ⟨[a],[("start",b)]⟩=pure ():=by kernel_rfl
theorem zX2 (a b:Value):checkBuiltinCall "enumerate.__new__" ⟨[.type "enumerate",a],[("start",b)]⟩=pure ():=by kernel_rfl
theorem zX0 (a b c:Value):argsOk "object.__init__" ⟨[a,b],[("start",c)]⟩:=by
 unfold argsOk;rw[signature?_of (id:="object.__init__") (n:=['_','_','t','i','n','i','_','_']) (o:=['t','c','e','j','b','o']) (by kernel_rfl) F.owner_object];kernel_rfl
theorem zRs {b:Bool}{l:Addr}{xs:Array Value}{n:Int}{t:Tok}{Q:Value->Shared->Prop}(hn:Builtin.SmallTypes.fitsIndex n=true) (q1:KSq b s.heap l xs)
  (h:∀h',IsEnum h' (s.heap.objs.size+1) s.heap.objs.size n .none->KIt b h' s.heap.objs.size l 0->(∀c o,s.heap.get? c=some o->h'.get? c=some o)->Q (.ref (s.heap.objs.size+1)) { s with heap:=h' }):
  wpAny (model prog w) A (call (.type "enumerate") [.ref l] [("start",.int n t)]) Q E s:=by
 have ft:=F.called_enumerate
 have z0:(s.heap.push (itO b l)).objs.size=s.heap.objs.size+1:=xY ..
 have g2:((s.heap.push (itO b l)).push (enOS s.heap.objs.size n)).get? (s.heap.push (itO b l)).objs.size=some (enOS s.heap.objs.size n):=xA _ rfl
 have g1:((s.heap.push (itO b l)).push (enOS s.heap.objs.size n)).get? s.heap.objs.size=some (itO b l):=xk _ (xA _ (by cases b <;> rfl))
 have gk:∀c o,s.heap.get? c=some o->((s.heap.push (itO b l)).push (enOS s.heap.objs.size n)).get? c=some o:=fun c o x=>xk _ (xk _ x)
 refine zLn (Q₁:=fun obj s₁=>s₁.TypeIs obj "enumerate"/\Q obj s₁) ft (zVj _ _) (zX2 _ _) F.entry_enumerate_new F.entry_object_init (zUz b l xs n t hn) ⟨q1,?_⟩ fun obj _ hq=>⟨hq.1,zX0 obj _ _,_,zUq ft.init.lookup ft.made (by decide),hq.1,rfl,hq.2⟩
 show _/\_
 rw[z0]at g2 ⊢
 exact⟨⟨_,g2,rfl⟩,h _ g2 ⟨_,g1,rfl,rfl⟩ gk⟩
theorem zYw {M:Model}{env:Env}{pos:Pos}{T:String}{e:Expr}{kws:List Keyword}{Q:Value->Shared->Prop}(he:starEach [e] env=[(false,eval e env)])
  (h:wpAny M A (spliced (backTo pos (starEach [e] env))) (fun vs s₁=>wpAny M A (evalAll ((backToKw pos (keywordEach kws env)).map (·.2))) (fun kvs s₂=>wpAny M A (call (.type T) vs (((backToKw pos (keywordEach kws env)).filterMap (·.1)).zip kvs)) Q E s₂) E s₁) E s)
  (hall:(backToKw pos (keywordEach kws env)).all (·.1.isSome)=true) (hkw:(backToKw pos (keywordEach kws env)).any (·.1.isNone)=false):wpAny M A (callWith pos (.type T) [] (backTo pos (starEach [e] env)) (backToKw pos (keywordEach kws env))) Q E s:=by
 have hb:backTo pos (starEach [e] env)=(false,eval e env)::backTo pos []:=by rw[he];rfl
 have hp:(backTo pos (starEach [e] env)).any (·.1)=false:=by rw[hb];rfl
 unfold callWith
 refine xa (xH (xW (Q:=fun a s₁=>wpAny M A (call (.type T) ([]++a.pos) a.kw) Q E s₁) ?_ (fun a s₁ h₁=>xa (vN ?_)) fun _ _ x=>x))
 ·rw[hb]at h ⊢
  exact PyProof.Rows.evalArgs_kwB hall h
 ·simp only[hp,hkw,Bool.or_false]
  exact xa (xf (xa (xW h₁ (fun r s₂ hr=>xa (xH (wpAny_point (xf hr)))) fun _ _ x=>x)))
end
theorem zRy {prog:Program}{w:World}{A:Around}(hh:A.handled=none) (b:Bool) (it l:Addr) (hne:l≠it) (items:Array Value) (n:Nat):Draws prog w A it [it,l] (n+items.size) (fun i v=>items[i-n]?=some v) (fun i h=>n<=i/\KIt b h it l (i-n)/\KSq b h l items) where
 live:=fun i h st=>(zJh (prog:=prog) (w:=w) hh b it l hne items).live (i-n) h st.2
 frame:=fun i h h' st hk=>⟨st.1,(zJh (prog:=prog) (w:=w) hh b it l hne items).frame (i-n) h h' st.2 hk⟩
 item:=fun i s Q E hi st hQ=>(zJh (prog:=prog) (w:=w) hh b it l hne items).item (i-n) s Q E (by nofun) st.2 fun x h' tk hx st' hs=>hQ x h' tk hx ⟨by nofun,by rw[show i+1-n=i-n+1 by nofun];exact st'⟩ hs
 done:=fun s Q E st hE=>(zJh (prog:=prog) (w:=w) hh b it l hne items).done s Q E (by have:=st.2;rw[Nat.add_sub_cancel_left]at this;exact this) hE
end TS
namespace L2
open PySem PySem.Spec PyProof.Rows TS
open DS (D Store Exn Rs SR)
noncomputable def IteS (b:Bool) (a:Addr) (n:Nat):It:=
  ⟨fun i H=>∃xs x,H a=some (hoK b xs)/\xs[i]?=some x,
   fun i H v H'=>∃T xs x,v=.ref T/\H T=none/\H a=some (hoK b xs)/\xs[i]?=some x/\H'=upd H T (.tup [.int ((n+i:Nat):Int),x]),
   fun i H=>∃xs,H a=some (hoK b xs)/\xs.length<=i⟩
theorem zQ8 {P:Program}{w:World}{K:PySem.W.Frag}{es:List Expr}{k:Nat}{pos:Pos}(b:Bool) (a e it:Addr) (n:Nat) (hei:e≠it):
  Turn P w K (.Tuple es k pos) (IteS b a n) [e,it] e (fun i h=>(∃old,IsEnum h e it ((n+i:Nat):Int) old)/\KIt b h it a i) where
 mem:=by simp
 obj:=fun i h st c hc=>by
  obtain⟨⟨old,he⟩,o1,e1,c1,d1⟩:=st
  simp only[xi,xt,xu]at hc
  rcases hc with rfl|rfl
  ·exact⟨_,he,fun v z=>by cases z⟩
  ·exact⟨_,e1,fun v z=>by rw[d1]at z;cases z⟩
 keep:=fun i h h' st kk=>by
  obtain⟨⟨old,he⟩,h1⟩:=st
  exact⟨⟨old,kk e (by simp) _ he⟩,h1.at fun o x=>kk it (by simp) o x⟩
 item:=by
  intro X hP hw hK hc i pins s σ H E I hf st hg
  subst hP hw hK
  obtain⟨xs,x,ha,hx⟩:=hg
  obtain⟨⟨old,he⟩,h1⟩:=st
  obtain⟨its,rv,p1,z1⟩:=I.kSq ha
  obtain⟨u,hu,ru⟩:=rv.get hx
  have na:a ∉ [e,it]:=fun m=>by rw[(hf a m).1]at ha;cases ha
  have nae:a≠e:=fun z=>na (by simp[z])
  have nai:a≠it:=fun z=>na (by simp[z])
  have hfr:H s.heap.objs.size=none:=I.hok.fresh (xh _)
  have elt:e<s.heap.objs.size:=xj he
  have ilt:it<s.heap.objs.size:=by obtain⟨o,ho,_⟩:=h1;exact xj ho
  have hi:n+i<n+its.toArray.size:=by obtain⟨z,_⟩:=xK.mp hu;simpa using z
  have h1':n<=n+i/\KIt b s.heap it a (n+i-n)/\KSq b s.heap a its.toArray:=⟨by nofun,by rw[Nat.add_sub_cancel_left];exact h1,p1⟩
  refine wpAny_pyNext_enum_itemD (zRy (A:=X.A.in1) (I.ok.hd hc) b it a nai its.toArray n) he h1' hi hei (fun m=>by rcases xi.mp m with z|z;exact hei z;exact nae (xJ.mp z).symm) fun v h' tk pv ho st' hT hsz hk=>?_
  have ev:v=u:=by
   have:its.toArray[n+i-n]?=some u:=by rw[Nat.add_sub_cancel_left];simpa using hu
   rw[this]at pv;exact(xD pv).symm
  subst ev
  refine⟨_,rfl,wpAny_letOwnedTupleGo_enum (s:={ s with heap:=h',toks:=tk+1 }) ho fun h2' he' hs'=>?_⟩
  have hT2:h2'.get? s.heap.objs.size=some { cls:=.type "tuple",data:=.seq #[.int ((n+i:Nat):Int) tk,v] }:=hs'.extBut _ _ (x6 elt) hT
  have st2:KIt b h' it a (i+1):=by have:=st'.2.1;rw[show n+i+1-n=i+1 by nofun]at this;exact this
  refine⟨.ref s.heap.objs.size,upd H s.heap.objs.size (.tup [.int ((n+i:Nat):Int),x]),I.turnedT (t':=tk+1) hf (fun c o hc e=>?_) (xh _) ⟨by show 2<=sizeLine;decide,[.int ((n+i:Nat):Int) tk,v],.cons ⟨tk,rfl⟩ (.cons ru .nil),⟨_,hT2,rfl,_,rfl⟩⟩,rfl,⟨_,xs,x,rfl,hfr,ha,hx,rfl⟩,⟨⟨_,by rw[show((n+(i+1):Nat):Int)=((n+i:Nat):Int)+1 by nofun];exact he'⟩,st2.xb hs'.extBut (xB hei)⟩,fun c hc=>?_⟩
  ·simp only[xi,xt,xu,not_or]at hc
   exact hs'.extBut _ _ hc.1 (hk _ _ hc.1 hc.2 e)
  ·have hn:=(hf c hc).1
   have ne:c≠s.heap.objs.size:=by
    simp only[xi,xt,xu]at hc
    rcases hc with rfl|rfl
    ·exact xr elt
    ·exact xr ilt
   rw[zAo ne];exact hn
 done:=by
  intro X hP hw hK hc i pins s σ H E I hf st hg
  subst hP hw hK
  obtain⟨xs,ha,hx⟩:=hg
  obtain⟨⟨old,he⟩,h1⟩:=st
  obtain⟨its,rv,p1,z1⟩:=I.kSq ha
  have na:a ∉ [e,it]:=fun m=>by rw[(hf a m).1]at ha;cases ha
  have nai:a≠it:=fun z=>na (by simp[z])
  have l1:=rv.length
  unfold pyNext
  have hT:s.TypeIs (.ref e) "enumerate":=⟨_,he,rfl⟩
  refine xa (wpAny_attempt (vf (name:=Str.ofString "__next__") hT F.slot_enumerate_next (x8 F.slot_enumerate_next hT F.entry_enumerate_next ?_ (F.args_enumerate_next_1 _))))
  refine(show wpAny _ _ (field (.ref e) 2 >>= _) _ _ _ from xa (xC he rfl (x:=.ref it) rfl (xa (next_end (I.ok.hd hc) h1 p1 (by simp;lia) fun h' x he' hx'=>?_))))
  obtain⟨o,ho,hcl⟩:=hx'
  refine xa (uj (T:="StopIteration") (b:=true) ⟨o,ho,hcl⟩ isSubtype_stop ?_)
  exact xf ⟨rfl,I.turnedL (t':=s.toks) hf fun c o hc e=>he' _ _ (fun z=>hc (by simp[z])) e⟩
 self:=fun _ _ _ _ _ st h=>wpAny_pyIter_enum st.1.choose_spec h
section
variable {X:Cx}{K:PySem.W.Frag}{E:XE}{J:Js}{S:Store}{H:Hp}
theorem zXh {a:Addr}{b:Bool}{n:Nat}{l:List D}{gd:List (Nat × D)}(h1:∀J' H' S',Grow J H J' H'->AbS K J' S' H'->DS.gOk S' gd->∃ys,H' a=some (hoK b ys)/\RepL K J' H' l ys):ItOk K J H ⟨DS.zGy l n,gd⟩ (IteS b a n) where
 go:=fun i H' J' S' ha g gd hi=>by
  obtain⟨xs,q1,r1⟩:=h1 J' H' S' g ha gd
  have hi':i<l.length:=by rw[DS.zHr]at hi;exact hi
  exact⟨xs,xs[i]'(by rw[<- r1.length];exact hi'),q1,xx _⟩
 yld:=fun i H' J' S' x H'' ha g gd yl d ed=>by
  obtain⟨T,xs',x1,rfl,hT,e1,g1,rfl⟩:=yl
  obtain⟨xs,q1,r1⟩:=h1 J' H' S' g ha gd
  have ex:xs=xs':=zLh (xD (q1.symm.trans e1))
  subst ex
  obtain⟨dx,f1,p1⟩:=r1.get' g1
  rw[DS.zMc,f1]at ed
  cases ed
  exact⟨ha.push hT,.push hT,T,_,rfl,⟨zAt,ha.out hT⟩,_,_,rfl,rfl,x1,[],rfl,Rep.grow (.push hT) _ _ p1,rfl⟩
 stop:=fun i H' J' S' ha g gd hi=>by
  obtain⟨xs,q1,r1⟩:=h1 J' H' S' g ha gd
  rw[DS.zHr]at hi
  exact⟨xs,q1,by rw[<- r1.length];exact hi⟩
theorem zXs (b:Bool) {a e2:Expr}{es:List Expr}{k:Nat}{tpos p pos kpos:Pos}{m m2:DS.EM}(hg:Gl X "enumerate") (hm:X.mg "enumerate"=none) (he:DE X K E a m) (he2:DE X K E e2 m2) (h1:nst a=true:=by rfl) (hK:X.K=K:=by rfl):DI X K E (.Tuple es k tpos) (.Call (.Name "enumerate" p) [a] [⟨some "start",e2,kpos⟩] pos) (DS.iEnS b m m2):=by
 subst hK
 refine⟨⟨fun pins s σ H R I hq1=>?_⟩⟩
 obtain⟨env,S,J,ha,hE,q⟩:=hq1
 have hs:starEach [a] X.env=[(false,eval a X.env)]:=zC9 h1
 refine ue (zGe I hg hm PyProof.Rows.boot_enumerate (zYw hs ?_ rfl rfl))
 rw[hs]
 refine(show wpAny _ _ (spliced ((false,eval a X.env)::backTo pos [])) _ _ s from Calls.spliced_cons (thn (he.h.h pins s σ H (fun x H1=>∃J1 S1 d,AbS X.K J1 S1 H1/\Rep X.K J1 H1 d x/\tOf X.K E m2 σ H1 fun y H2=>∃J2 S2 d2 w,AbS X.K J2 S2 H2/\Rep X.K J2 H2 d x/\Rep X.K J2 H2 d2 y/\DS.enWS b S2 d d2=some w/\∀It,ItOk X.K J2 H2 w It->R It H2) I ⟨env,S,J,ha,hE,q.bind.imp fun d S1 J1 H1 _ a1 g1 q1 x rx=>⟨J1,S1,d,a1,rx,env,S1,J1,a1,hE.grow g1,q1.bind.imp fun d2 S2 J2 H2 _ a2 g2 q2 y ry=>?_⟩⟩) fun v s1 hq1=>?_))
 ·obtain⟨w,ew,k⟩:=q2.lift
  exact⟨J2,S2,d2,w,a2,Rep.grow g2 _ _ rx,ry,ew,k J2 H2 a2 .refl⟩
 ·obtain⟨x,H1,I1,r1,J1,S1,d,a1,rx,t2⟩:=hq1
  refine Calls.spliced_nil (evalAll_cons (xa (thn (he2.h.h pins s1 σ H1 _ I1 t2) fun v2 s2 ⟨y,H2,I2,r2,J2,S2,d2,w,a2,rx,ry,ew,k⟩=>xa (vN (xf (evalAll_nil ?_))))))
  unfold DS.enWS at ew
  cases t1:DS.trk S2 d with
  | none=>rw[t1]at ew;cases ew
  | some p1=>
   obtain⟨c1,l⟩:=p1
   rw[t1]at ew
   cases d2 with
   | int n=>
    simp only at ew
    split at ew
    ·rename_i hc
     obtain⟨rfl,_,n0,n9⟩:=hc
     cases ew
     obtain⟨a',rfl,s1'⟩:=zHb a2 rx t1
     have z1:=fun J' H' S' g ab ok=>s1' J' H' S' (DS.gdOf S2 d) g ab (fun p hp=>hp) ok
     have ok0:DS.gOk S2 (DS.gdOf S2 d):=fun p hp=>by
      cases d with
      | ref n=>
       have hp:p∈(match S2[n]? with|some d=>[(n,d)]|none=>[]):=hp
       cases en:S2[n]? with
       | none=>rw[en]at hp;cases hp
       | some c=>rw[en]at hp;rw[xJ.mp hp];exact en
      | _=>cases hp
     obtain⟨xs,f1,_⟩:=z1 J2 H2 S2 .refl a2 ok0
     cases r1
     obtain rfl:=ry
     obtain⟨tk,rfl⟩:=r2
     obtain⟨its,rv,p1,_⟩:=I2.kSq f1
     refine zRs (by unfold Builtin.SmallTypes.fitsIndex;simp;lia) p1 fun h' c1' c2 hk=>wpAny_pyIter_enum c1' ?_
     have hne:s2.heap.objs.size+1≠s2.heap.objs.size:=Nat.succ_ne_self _
     refine⟨_,[s2.heap.objs.size+1,s2.heap.objs.size],_,_,H2,rfl,I2.kept (t':=s2.toks) hk,zQ8 c1 a' _ _ n.toNat hne,⟨⟨_,by rw[show((n.toNat+0:Nat):Int)=n by nofun];exact c1'⟩,c2⟩,fun c hc=>?_,k _ (zXh z1)⟩
     have hle:s2.heap.objs.size<=c:=by
      simp only[xi,xt,xu]at hc
      rcases hc with rfl|rfl
      ·exact vq _ _
      ·exact xh _
     exact I2.fpOk hle (I2.hok.fresh hle)
    ·cases ew
   | _=>cases ew
end
end L2
namespace L2
open PySem PySem.Spec PyProof.Rows EK
open DS (D Store Exn Rs SR lv)
section
open Classical
variable {X:Cx}{K:PySem.W.Frag}{E:XE}{J:Js}{S:Store}{H:Hp}
theorem zM4:MtR X "str.partition" (mOf K DS.zL6):=by
 intro pins s σ H x xs v us Q I rx rs hq
 obtain⟨J,S,d1,ds,d,S',ha,r1,rl,e,k⟩:=hq
 unfold DS.zL6 at e
 split at e
 ·split at e
  ·rename_i z y h
   cases e
   obtain⟨w,rfl,ry⟩:=zCu (ds:=[]) rl
   obtain rfl:=r1
   obtain rfl:=ry
   obtain⟨t,rfl⟩:=rx
   obtain⟨u,rfl,t',rfl⟩:=vals1 rs
   have new:∀(a b c:Tok) (k':Nat),EP X pins σ Q (.ref s.heap.objs.size) { s with toks:=k',heap:=s.heap.push { cls:=.type "tuple",data:=.seq [.str (Txt.partition z y).1 a,.str (Txt.partition z y).2.1 b,.str (Txt.partition z y).2.2 c].toArray } }:=fun a b c k'=>by
    have fr:=I.hok.fresh (xh s.heap.objs.size)
    refine⟨.ref s.heap.objs.size,_,I.laid (t':=k') (o:=.tup [.str (Txt.partition z y).1,.str (Txt.partition z y).2.1,.str (Txt.partition z y).2.2]) (fun b ob q=>xk _ q) (xh _) ⟨by show 3<=sizeLine;decide,_,.cons ⟨a,rfl⟩ (.cons ⟨b,rfl⟩ (.cons ⟨c,rfl⟩ .nil)),IsTup.new _ _⟩,rfl,?_⟩
    exact k _ _ (ha.push fr) (.push fr) ⟨_,_,rfl,⟨zAt,ha.out fr⟩,_,_,rfl,rfl,_,_,rfl,rfl,_,_,rfl,rfl,rfl⟩
   refine call_meets PySem.F.slot_str_partition (typeIs_str _ _ _) PySem.F.entry_str_partition (PySem.F.args_str_partition_2 _ _) (meets_str_partition z y t t' (by simp;lia) (by rw[vP];lia)) ?_
   unfold Txt.partition at new
   revert new
   cases Builtin.Str.occurrences z y 0 z.length 1 with
   | nil=>intro new;exact new _ _ _ _
   | cons i r=>intro new;exact new _ _ _ _
  ·cases e
 ·cases e
theorem zUa:OpR X (binaryOp .Mult) (r2Of K DS.mulS):=by
 intro pins s σ H x y v u Q I rx ry hq39
 obtain⟨J,S,d1,d2,d,ha,r1,r2,e,k⟩:=hq39
 unfold DS.mulS at e
 split at e
 ·rename_i z n
  obtain rfl:=r1
  obtain rfl:=r2
  obtain⟨t,rfl⟩:=rx
  obtain⟨t',rfl⟩:=ry
  split at e
  ·rename_i h
   subst h
   cases e
   exact P.mul_str (by decide) (fun _ h=>by cases h) (fun _ h=>by cases h) ⟨.str z,H,I,⟨t,rfl⟩,k _ H ha .refl rfl⟩
  ·split at e
   ·rename_i h
    subst h
    cases e
    exact P.mul_str_none (by decide) (by decide) ⟨.str _,H,I.tok _,⟨_,rfl⟩,k _ H ha .refl rfl⟩
   ·cases e
 ·exact zDi pins s σ H x y v u Q I rx ry ⟨J,S,d1,_,d,ha,r1,r2,e,k⟩
end
end L2
namespace DS
open PySem (Str)
noncomputable section
open Classical
theorem zIi {n:Nat}:∀(S:Store),keeps n S S
 | []=>trivial
 | _::r=>⟨.inl rfl,zIi r⟩
theorem zRp {S:Store}{d:D}(h:d.low S.length=true):fin S d S=.ok d S:=by
 unfold fin
 rw[xc (zIi S),xc h,List.take_length]
theorem atN {l:List D}{i:Int}{k:Nat}{d:D}(h:i=(k:Int)) (e:l[k]?=some d):atL l i=some d:=by
 obtain⟨hk,_⟩:=xK.mp e
 unfold atL ixN
 rw[xc (by nofun),xc (by nofun)]
 show l[i.toNat]?=some d
 rw[show i.toNat=k by nofun];exact e
theorem atL0 {d:D}{l:List D}:atL (d::l) 0=some d:=atN (k:=0) rfl rfl
theorem atL1 {d e:D}{l:List D}:atL (d::e::l) 1=some e:=atN (k:=1) rfl rfl
theorem atL2 {d e f:D}{l:List D}:atL (d::e::f::l) 2=some f:=atN (k:=2) rfl rfl
theorem atL3 {d e f g:D}{l:List D}:atL (d::e::f::g::l) 3=some g:=atN (k:=3) rfl rfl
theorem ixT {S:Store}{l:List D}{i:Int}:ixD S (.tup l) (.int i)=atL l i:=rfl
theorem ixL {S:Store}{l:List D}{i:Int}:ixD S (.lst l) (.int i)=atL l i:=rfl
theorem zOy {S:Store}{l:List D}:items S (.tup l)=some l:=rfl
theorem zOz {S:Store}{l:List D}:items S (.lst l)=some l:=rfl
theorem zRf {S:Store}{l:List D}:look S (.tup l)=some (.tup l):=rfl
theorem zRg {S:Store}{l:List D}:look S (.lst l)=some (.lst l):=rfl
theorem zRh {S:Store}{i:Int}:look S (.int i)=some (.int i):=rfl
theorem zUh {S:Store}{b:Bool}:look S (.bl b)=some (.bl b):=rfl
theorem zGd {S:Store}{a b:Int}(h:sm a/\sm b):mulD S (.int a) (.int b)=some (.int (a*b)):=xc h
end
end DS
local macro_rules | `(tactic| simp_arith [$ls,*]) => `(tactic| simp only [DS.sSeq, DS.sSet, DS.sRet, DS.zY3, DS.zB7, DS.sIf, DS.sUnp, DS.zMy, DS.sPar, DS.zNv, DS.eVar, DS.eC, DS.eOp, DS.eUn, DS.aNil, DS.zA0, DS.eTup, DS.eLst, DS.eCB, DS.zA7, DS.eSl, DS.pNo, DS.pYes, DS.asI, DS.asB, DS.tB, DS.tAnd, DS.tOr, DS.tNot, DS.tYes, DS.eAnd, DS.eOr, DS.eNot, DS.eIf, DS.Rs.bind_ok, DS.Rs.then_ok, DS.zK8, DS.zN7, DS.gName, DS.gTup, DS.gAll, DS.zOy, DS.zOz, DS.zRf, DS.zRg, DS.zRh, DS.zUh, uk, Option.map_none, List.getElem?_cons_zero, List.getElem?_cons_succ, List.set_cons_zero, List.set_cons_succ, xE, List.length_nil, xw, vB, List.replicate, v9, List.nil_append, Nat.zero_add, Nat.reduceAdd, Nat.reduceSub, Nat.reduceLT, Nat.reduceEqDiff, xy, xO, DS.addD, DS.subD, DS.ixT, DS.ixL, DS.atL0, DS.atL1, DS.atL2, DS.atL3, Bool.not_true, Bool.not_false, xX, reduceIte, $ls,*])
namespace DS
open PySem (Str)
noncomputable section
open Classical
noncomputable abbrev zYo:D:=.str (Str.ofString "seed")
noncomputable abbrev kNum:D:=.str (Str.ofString "number")
noncomputable abbrev zYp:D:=.str (Str.ofString "left")
noncomputable def zYt (seed num:Int) (m:Nat):D:=.dct false [zYo,kNum,zYp] [.int seed,.int num,.ref m]
structure zYz (S:Store) (n m:Nat) (seed num:Int) (left:List Int):Prop where
 d:S[n]?=some (zYt seed num m)
 l:S[m]?=some (.lst (left.map D.int))
 ne:n≠m
 lo:0<=seed
 hi:seed<2147483647
section
variable {S:Store}{n m:Nat}{seed num:Int}{left:List Int}
structure Only (n m:Nat) (S S':Store):Prop where
 len:S'.length=S.length
 at_:∀k,k≠n->k≠m->S'[k]?=S[k]?
theorem Only.trans {S' S'':Store}(a:Only n m S S') (b:Only n m S' S''):Only n m S S'':=⟨b.len.trans a.len,fun k h1 h2=>(b.at_ k h1 h2).trans (a.at_ k h1 h2)⟩
theorem Only.set1 (d:D):Only n m S (S.set n d):=⟨by simp,fun k h1 _=>vX (xB h1)⟩
theorem zFc {x:Int}(h1:0<=x) (h2:x<2147483648):sm x:=zQg (by nofun) (by nofun)
theorem zP5 {a b:Int}(hb:0<b) (hs:sm b):zFp S (.int a) (.int b)=some (.int (a.fdiv b)):=xc ⟨by nofun,hs⟩
theorem zFe {a b:Int}(hb:0<b):modD S (.int a) (.int b)=some (.int (a % b)):=xc hb
end
end
end DS
namespace DS
open PySem (Str)
noncomputable section
open Classical
structure AtJ (env:Env) (j:Nat) (d:D) (env':Env):Prop where
 len:env'.length=env.length
 at_:env'[j]?=some (some d)
 o:∀i:Nat,i≠j->env'[i]?=env[i]?
theorem zAu {S:Store}:gOk S []:=fun _ h=>nomatch h
end
end DS
namespace DS
open PySem (Str)
noncomputable section
open Classical
noncomputable def BB (k:Nat) (x:Int):Prop:=x.natAbs<2 ^ k
theorem BB.add {i j:Nat}{x y:Int}(h:BB i x) (h':BB j y):BB (max i j+1) (x+y):=by
 unfold BB at *
 refine vC (Int.natAbs_add_le x y) ?_
 rw[Nat.pow_succ,Nat.mul_two]
 exact Nat.add_lt_add (xv h (uw (by decide) (Nat.le_max_left _ _))) (xv h' (uw (by decide) (Nat.le_max_right _ _)))
theorem BB.neg {i:Nat}{x:Int}(h:BB i x):BB i (-x):=by unfold BB at *;rwa[Int.natAbs_neg]
theorem BB.sub {i j:Nat}{x y:Int}(h:BB i x) (h':BB j y):BB (max i j+1) (x-y):=by
 rw[Int.sub_eq_add_neg];exact h.add h'.neg
theorem zAj {np nl:Nat}{b:SM}{ds:List D}{S:Store}{d:D}(hl:ds.length=np) (h:b (ds.map some++List.replicate (nl-np) none) S=.rt d S) (hd:d.low S.length=true):zB1 np nl b ds S=.ok d S:=by
 unfold zB1
 rw[xc hl,h]
 exact zRp hd
end
end DS
namespace DS
open PySem (Str)
noncomputable section
open Classical
structure Grow (n m:Nat) (S S':Store):Prop where
 len:S.length<=S'.length
 at_:∀k,k<S.length->k≠n->k≠m->S'[k]?=S[k]?
section
variable {n m:Nat}{S S' S'':Store}
theorem Only.grow (a:Only n m S S'):Grow n m S S':=⟨by rw[a.len];exact xh _,fun k _ h1 h2=>a.at_ k h1 h2⟩
theorem zKa {n:Nat}:∀{S S':Store},S.length<=S'.length->(∀(i:Nat) (d:D),i<S.length->S'[i]?=some d->S[i]?=some d\/d.low n=true)->keeps n S S'
 | [],_,_,_=>trivial
 | a::r,[],e,_=>by simp at e
 | a::r,b::t,e,h=>⟨by
   rcases h 0 b (by simp) rfl with q|q
   ·exact .inl (by simpa using q)
   ·exact .inr q,zKa (by simpa using e) fun i d hi q=>by simpa using h (i+1) d (by simpa using hi) (by simpa using q)⟩
end
theorem zQh {k:Int}(h0:0<=k) (h:k<1000000):zJ1 [.int k]=some ⟨(List.range k.toNat).map fun(i:Nat)=>.int (i:Int),[]⟩:=by
 show(if fits62 k=true then some (Walk.mk (zIf 0 k) [])else none)=_
 rw[xc (by unfold fits62;exact xl ⟨by nofun,by nofun⟩)]
 unfold zIf
 simp
end
end DS
namespace DS
noncomputable section
open Classical
theorem zPg {α β:Type}{h:α->D}{k:β->D}{gd:List (Nat × D)}{g:GM}{e:EM}{I:Env->Prop}{J:Store->Prop}{P:β->Prop}(hg:∀S,J S->gOk S gd):∀(xs:List α) (c:Nat) (env:Env) (S:Store),I env->J S->c+xs.length<=most->
  (∀a∈xs,∀env S,I env->J S->∃env' b S',g S (h a) env=some env'/\I env'/\e env' S=.ok (k b) S'/\P b/\J S')->∃(bs:List β) (S':Store),zG6 gd g tYes e c (xs.map h) env S=.ok (bs.map k) S'/\bs.length=xs.length/\(∀b∈bs,P b)/\J S'
 | [],c,env,S,_,hj,_,_=>⟨[],S,by rw[vB,zG6,xc (hg S hj)];rfl,rfl,(fun b hb=>nomatch hb),hj⟩
 | a::xs,c,env,S,hi,hj,hk,he=>by
  have hk':c+(xs.length+1)<=most:=hk
  obtain⟨env',b,S1,e1,i1,e2,p,j1⟩:=he a (.head _) env S hi hj
  obtain⟨bs,S2,e3,l3,p3,j3⟩:=zPg (h:=h) (k:=k) (g:=g) (e:=e) (I:=I) (J:=J) (P:=P) hg xs (c+1) env' S1 i1 j1 (by nofun) fun a ha=>he a (.tail _ ha)
  refine⟨b::bs,S2,?_,by simp[l3],fun z hz=>?_,j3⟩
  ·rw[xw,zG6,xc ⟨hg S hj,by nofun⟩,e1]
   show(tYes env' S).bind _=_
   rw[tYes,Rs.bind_ok,xc rfl,e2,Rs.bind_ok,e3,Rs.bind_ok]
   rfl
  ·rcases xi.mp hz with rfl|z
   ·exact p
   ·exact p3 _ z
theorem zFi {α β:Type}{h:α->D}{k:β->D}{own:Nat}{ix:List Nat}{i:IM}{gd:List (Nat × D)}{g:GM}{e:EM}{S S0:Store}{env:Env}{xs:List α}(I:Env->Prop) (J:Store->Prop) (P:β->Prop) (hi:i env S0=.ok ⟨xs.map h,gd⟩ S) (hg:∀S,J S->gOk S gd) (h0:I (compEnv own ix env)) (j0:J S) (hk:xs.length<=most)
  (he:∀a∈xs,∀env S,I env->J S->∃env' b S',g S (h a) env=some env'/\I env'/\e env' S=.ok (k b) S'/\P b/\J S'):∃(bs:List β) (S':Store),zAl own ix i g tYes e env S0=.ok (.lst (bs.map k)) S'/\bs.length=xs.length/\(∀b∈bs,P b)/\J S':=by
 obtain⟨bs,S',e1,l1,p1,j1⟩:=zPg (h:=h) (k:=k) (g:=g) (e:=e) (I:=I) (J:=J) (P:=P) hg xs 0 _ S h0 j0 (by nofun) he
 refine⟨bs,S',?_,l1,p1,j1⟩
 rw[zAl,hi,Rs.bind_ok]
 rw[e1,Rs.bind_ok]
theorem zSo {α:Type}{h:α->D}{gd:List (Nat × D)}{g:GM}{b:SM}(I:Env->Store->Prop) (hg:∀env S,I env S->gOk S gd):∀(xs:List α) (env:Env) (S:Store),I env S->
  (∀a∈xs,∀env S,I env S->∃env' env'' S',g S (h a) env=some env'/\b env' S=.nx env'' S'/\I env'' S')->∃env' S',forL gd g b (xs.map h) env S=.nx env' S'/\I env' S'
 | [],env,S,hi,_=>⟨env,S,by rw[vB,forL,xc (hg env S hi)],hi⟩
 | a::xs,env,S,hi,he=>by
  obtain⟨env',env'',S1,e1,e2,e3⟩:=he a (.head _) env S hi
  obtain⟨e4,S2,e5,e6⟩:=zSo (h:=h) (gd:=gd) (g:=g) (b:=b) I hg xs env'' S1 e3 fun b hb=>he b (.tail _ hb)
  refine⟨e4,S2,?_,e6⟩
  rw[xw,forL,xc (hg env S hi),e1]
  dsimp only
  rw[e2]
  exact e5
section
variable {n m c:Nat}{S S' S0:Store}{d:D}
theorem zYx {l:List D}(h:S[c]?=some (.lst l)) (hl:l.length<1000):zG9 S (.ref c) [d]=some (.non,S.set c (.lst (l++[d]))):=by
 unfold zG9
 simp only[h]
 have m9:1000<=most:=by decide
 rw[xc (by nofun)]
theorem ty_D {l:List D}(h:S[c]?=some (.lst l)):tyD S (.ref c)=some "list":=by unfold tyD;rw[show look S (.ref c)=_ from h]
end
end
end DS
namespace DS
noncomputable section
open Classical
theorem zHo {n:Nat}:∀(S T:Store),keeps n S (S++T)
 | [],_=>trivial
 | a::S,T=>⟨.inl rfl,zHo S T⟩
theorem zS4 {np nl:Nat}{b:SM}{ds:List D}{S T:Store}{d:D}{c:Nat}(hl:ds.length=np) (h:b (ds.map some++List.replicate (nl-np) none) S=.rt (.ref c) (S++T)) (hc:S.length<=c) (hd:(S++T)[c]?=some d) (lo:d.low S.length=true):zB1 np nl b ds S=.ok d S:=by
 unfold zB1
 rw[xc hl,h]
 dsimp only
 unfold fin
 rw[xc (zHo S T),xg (by show ¬ decide (c<S.length)=true;simpa using hc)]
 dsimp only
 rw[hd]
 dsimp only
 rw[xc lo,List.take_left]
theorem zNk {np nl:Nat}{b:SM}{ds:List D}{S T:Store}{d:D}(hl:ds.length=np) (h:b (ds.map some++List.replicate (nl-np) none) S=.rt d (S++T)) (lo:d.low S.length=true):zB1 np nl b ds S=.ok d S:=by
 unfold zB1
 rw[xc hl,h]
 dsimp only
 unfold fin
 rw[xc (zHo S T),xc lo,List.take_left]
theorem zSu {α:Type}{h f:α->D}{gd:List (Nat × D)}{g:GM}{e:EM}{S:Store}{I:Env->Prop}(hg:gOk S gd):∀(xs:List α) (k:Nat) (env:Env),I env->k+xs.length<=most->
  (∀a∈xs,∀env,I env->∃env',g S (h a) env=some env'/\I env'/\e env' S=.ok (f a) S)->zG6 gd g tYes e k (xs.map h) env S=.ok (xs.map f) S
 | [],k,env,_,_,_=>by rw[vB,zG6,xc hg];rfl
 | a::xs,k,env,hi,hk,he=>by
  have hk':k+(xs.length+1)<=most:=hk
  obtain⟨env',e1,e2,e3⟩:=he a (.head _) env hi
  rw[xw,zG6,xc ⟨hg,by nofun⟩,e1]
  dsimp only
  rw[tYes,Rs.bind_ok,xc rfl,e3,Rs.bind_ok,zSu (I:=I) hg xs (k+1) env' e2 (by nofun) fun b hb=>he b (.tail _ hb),Rs.bind_ok]
  rfl
theorem zBq {α:Type}{h f:α->D}{own:Nat}{ix:List Nat}{i:IM}{gd:List (Nat × D)}{g:GM}{e:EM}{S:Store}{env:Env}{xs:List α}(I:Env->Prop) (hi:i env S=.ok ⟨xs.map h,gd⟩ S) (hg:gOk S gd) (h0:I (compEnv own ix env)) (hk:xs.length<=most)
  (he:∀a∈xs,∀env,I env->∃env',g S (h a) env=some env'/\I env'/\e env' S=.ok (f a) S):zAl own ix i g tYes e env S=.ok (.lst (xs.map f)) S:=by
 rw[zAl,hi,Rs.bind_ok]
 rw[zSu (I:=I) hg xs 0 _ h0 (by nofun) he,Rs.bind_ok]
theorem zSp {α:Type}{h:α->D}{gd:List (Nat × D)}{g:GM}{b:SM}{ys:List α}(I:List α->Env->Store->Prop) (hg:∀P env S,I P env S->gOk S gd) (he:∀P a R,ys=P++a::R->∀env S,I P env S->∃env' env'' S',g S (h a) env=some env'/\b env' S=.nx env'' S'/\I (P++[a]) env'' S'):∀(xs P:List α) (env:Env) (S:Store),ys=P++xs->I P env S->∃env' S',forL gd g b (xs.map h) env S=.nx env' S'/\I ys env' S'
 | [],P,env,S,e,hi=>⟨env,S,by rw[vB,forL,xc (hg P env S hi)],by rw[e,vQ];exact hi⟩
 | a::xs,P,env,S,e,hi=>by
  obtain⟨env',env'',S1,e1,e2,e3⟩:=he P a xs e env S hi
  obtain⟨e4,S2,e5,e6⟩:=zSp (h:=h) (gd:=gd) (g:=g) (b:=b) (ys:=ys) I hg he xs (P++[a]) env'' S1 (by rw[e];simp) e3
  refine⟨e4,S2,?_,e6⟩
  rw[xw,forL,xc (hg P env S hi),e1]
  dsimp only
  rw[e2]
  exact e5
end
end DS
namespace DS
noncomputable section
open Classical
noncomputable def FeedAt (S:Store) (c:Nat) (own seed:Int):Prop:=S[c]?=some (.lst [.int own,.int seed])/\0<=seed/\seed<=2147483629
noncomputable def Feed (S:Store) (c:Nat):Prop:=∃own seed,FeedAt S c own seed
noncomputable def zPw:SM:=
  (sSeq (sIf (tB (eOp gtD (eOp ixD (eVar 0) (eC (.int 0))) (eC (.int 0)))) (sSeq (sSet 2 (eOp modD (eOp ixD (eVar 0) (eC (.int 0))) (eVar 1)))
  (sSeq (sPut putD (eVar 0) (eC (.int 0)) (eOp zFp (eOp ixD (eVar 0) (eC (.int 0))) (eVar 1)))
  (sRet (eVar 2)))) zB7)
  (sSeq (sSet 3 (eOp modD (eOp mulD (eOp ixD (eVar 0) (eC (.int 1))) (eC (.int 69623))) (eC (.int 2147483647))))
  (sSeq (sPut putD (eVar 0) (eC (.int 1)) (eOp addD (eOp modD (eOp addD (eOp mulD (eVar 3) (eC (.int 48271))) (eC (.int 30103))) (eC (.int 2147483629))) (eC (.int 1))))
  (sRet (eOp modD (eOp zFp (eOp addD (eOp mulD (eVar 3) (eC (.int 2147483647))) (eOp ixD (eVar 0) (eC (.int 1)))) (eC (.int 8191))) (eVar 1))))))
section
variable {S S':Store}{c:Nat}{own seed:Int}
theorem FeedAt.ix0 (h:FeedAt S c own seed):ixD S (.ref c) (.int 0)=some (.int own):=by
 unfold ixD look
 simp only[h.1]
 exact atL0
theorem FeedAt.ix1 (h:FeedAt S c own seed):ixD S (.ref c) (.int 1)=some (.int seed):=by
 unfold ixD look
 simp only[h.1]
 exact atL1
theorem FeedAt.put0 (h:FeedAt S c own seed) (x:Int):putD S (.ref c) (.int 0) (.int x)=some (S.set c (.lst [.int x,.int seed])):=by
 unfold putD
 simp only[h.1]
 rfl
theorem FeedAt.put1 (h:FeedAt S c own seed) (x:Int):putD S (.ref c) (.int 1) (.int x)=some (S.set c (.lst [.int own,.int x])):=by
 unfold putD
 simp only[h.1]
 rfl
theorem Feed.lt (h:Feed S c):c<S.length:=by
 obtain⟨_,_,h⟩:=h
 exact(xK.mp h.1).1
theorem FeedAt.set (h:FeedAt S c own seed) {a b:Int}(h1:0<=b) (h2:b<=2147483629):FeedAt (S.set c (.lst [.int a,.int b])) c a b:=⟨by rw[vW (Feed.lt ⟨_,_,h⟩)],h1,h2⟩
theorem zNa (h':Feed S' c) (g:Grow c c S S'):keeps S.length S S':=by
 refine zKa g.len fun i e hi he=>?_
 obtain⟨_,_,h',_⟩:=h'
 by_cases h1:i=c
 ·subst h1;rw[h']at he;cases he;exact .inr rfl
 ·rw[g.at_ i hi h1 h1]at he;exact .inl he
theorem zRr (h:Feed S c) (h':Feed S' c) (g:Grow c c S S'):Feed (S'.take S.length) c/\Only c c S (S'.take S.length):=by
 have l:=h.lt
 obtain⟨a,b,h',h2⟩:=h'
 refine⟨⟨a,b,by rw[vS l];exact h',h2⟩,by rw[vt];have:=g.len;lia,fun k h1 h2=>?_⟩
 by_cases hk:k<S.length
 ·rw[vS hk];exact g.at_ k hk h1 h2
 ·rw[vG (by rw[vt];lia),vG (by(lia))]
theorem zC1 {np nl:Nat}{b:SM}{ds:List D}{d:D}(hl:ds.length=np) (h:b (ds.map some++List.replicate (nl-np) none) S=.rt d S') (h0:Feed S c) (h1:Feed S' c) (o:Grow c c S S') (hd:d.low S.length=true):∃S'',zB1 np nl b ds S=.ok d S''/\Feed S'' c/\Only c c S S'':=by
 obtain⟨a,b'⟩:=zRr h0 h1 o
 refine⟨S'.take S.length,?_,a,b'⟩
 unfold zB1
 rw[xc hl,h]
 dsimp only
 unfold fin
 rw[xc (zNa h1 o),xc hd]
theorem zT3 {many:Int}(hm:0<many) (hs:sm many) (h:Feed S c):∃(r:Int) (S':Store),zB1 2 4 zPw [.ref c,.int many] S=.ok (.int r) S'/\0<=r/\r<many/\Feed S' c/\Only c c S S':=by
 obtain⟨own,seed,h⟩:=h
 have g:gtD S (.int own) (.int 0)=some (.bl (decide (0<own))):=rfl
 by_cases hp:0<own
 ·have p1:=h.put0 (own.fdiv many)
  have f1:Feed (S.set c (.lst [.int (own.fdiv many),.int seed])) c:=⟨_,_,h.set h.2.1 h.2.2⟩
  obtain⟨S'',e,a,b⟩:=zC1 (np:=2) (nl:=4) (b:=zPw) (ds:=[.ref c,.int many]) (d:=.int (own % many)) rfl (by
   unfold zPw
   rw[xl hp]at g
   simp_arith [h.ix0,g,zFe hm,sPut,zP5 hm hs,p1]) ⟨_,_,h⟩ f1 (Only.set1 _).grow rfl
  exact⟨_,S'',e,vH _ (by(lia)),vI _ hm,a,b⟩
 ·rw[xq hp]at g
  have m1:mulD S (.int seed) (.int 69623)=some (.int (seed*69623)):=zGd ⟨zFc h.2.1 (by have:=h.2.2;lia),zFc (by decide) (by decide)⟩
  obtain⟨one,ho⟩:∃one:Int,one=seed*69623 % 2147483647:=⟨_,rfl⟩
  have o0:0<=one:=by rw[ho];exact vH _ (by decide)
  have o9:one<2147483647:=by rw[ho];exact vI _ (by decide)
  obtain⟨nx,hx⟩:∃nx:Int,nx=(one*48271+30103) % 2147483629+1:=⟨_,rfl⟩
  have n0:0<=nx:=by rw[hx];have:=vH (one*48271+30103) (b:=2147483629) (by decide);lia
  have n9:nx<=2147483629:=by rw[hx];have:=vI (one*48271+30103) (b:=2147483629) (by decide);lia
  have m2:mulD S (.int one) (.int 48271)=some (.int (one*48271)):=zGd ⟨zFc o0 (by(lia)),zFc (by decide) (by decide)⟩
  have p1:=h.put1 nx
  have f1:=h.set (a:=own) n0 n9
  have m3:∀S,mulD S (.int one) (.int 2147483647)=some (.int (one*2147483647)):=fun _=>zGd ⟨zFc o0 (by(lia)),zFc (by decide) (by decide)⟩
  have q1:∀(S:Store) (x:Int),modD S (.int x) (.int 2147483647)=some (.int (x % 2147483647)):=fun _ _=>zFe (by decide)
  have q2:∀(S:Store) (x:Int),modD S (.int x) (.int 2147483629)=some (.int (x % 2147483629)):=fun _ _=>zFe (by decide)
  have q3:∀(S:Store) (x:Int),modD S (.int x) (.int many)=some (.int (x % many)):=fun _ _=>zFe hm
  have q4:∀(S:Store) (x:Int),zFp S (.int x) (.int 8191)=some (.int (x.fdiv 8191)):=fun _ _=>zP5 (by decide) (zFc (by decide) (by decide))
  obtain⟨S'',e,a,b⟩:=zC1 (np:=2) (nl:=4) (b:=zPw) (ds:=[.ref c,.int many]) (d:=.int ((one*2147483647+nx).fdiv 8191 % many)) rfl (by
   unfold zPw
   simp_arith [h.ix0,g,h.ix1,m1,q1,<- ho,m2,q2,<- hx,sPut,p1,m3,f1.ix1,q4,q3]) ⟨_,_,h⟩ ⟨_,_,f1⟩ (Only.set1 _).grow rfl
  exact⟨_,S'',e,vH _ (by(lia)),vI _ hm,a,b⟩
end
theorem ix_k {S:Store}{ns:List Int}{k:Nat}(h:k<ns.length):ixD S (.klst (ns.map D.int)) (.int k)=some (.int ns[k]):=by
 have:atL (ns.map D.int) (k:Int)=some (.int ns[k]):=atN rfl (by simp[h])
 exact this
noncomputable def zVa:SM:=
  (sSeq (sSet 2 (eOp addD (eOp mulD (eC (.int 7901)) (eVar 1)) (eC (.int 24697))))
  (sSeq (sIf (tB (eOp ltN (eVar 1) (eCB lenB (zA0 (eVar 0) aNil)))) (sSet 2 (eOp ixD (eVar 0) (eVar 1))) (sIf (tB (eOp gtD (eCB lenB (zA0 (eVar 0) aNil)) (eC (.int 0)))) (sSet 2 (eOp addD (eOp mulD (eOp modD (eOp ixD (eVar 0) (eOp modD (eVar 1) (eCB lenB (zA0 (eVar 0) aNil)))) (eC (.int 2147483629))) (eC (.int 31))) (eOp mulD (eC (.int 7901)) (eVar 1)))) zB7))
  (sSeq (sSet 3 (eC (.int 0)))
  (sSeq (sIf (tB (eOp geD (eVar 2) (eOp powD (eC (.int 10)) (eC (.int 18))))) (sSet 3 (eVar 2)) zB7)
  (sRet (eNew (eLst (zA0 (eVar 3) (zA0 (eOp addD (eOp modD (eOp powD (eOp addD (eOp mulD (eOp modD (eVar 2) (eC (.int 2147483629))) (eC (.int 48271))) (eOp mulD (eC (.int 40692)) (eVar 1))) (eC (.int 5))) (eC (.int 2147483629))) (eC (.int 1))) aNil)))))))))
theorem zRq {S:Store}{s:D}{k:Nat}{x:Int}(hk:k<=63):∃own seed:Int,0<=seed/\seed<=2147483629/\(sSeq (sSet 3 (eC (.int 0)))
  (sSeq (sIf (tB (eOp geD (eVar 2) (eOp powD (eC (.int 10)) (eC (.int 18))))) (sSet 3 (eVar 2)) zB7)
  (sRet (eNew (eLst (zA0 (eVar 3) (zA0 (eOp addD (eOp modD (eOp powD (eOp addD (eOp mulD (eOp modD (eVar 2) (eC (.int 2147483629))) (eC (.int 48271))) (eOp mulD (eC (.int 40692)) (eVar 1))) (eC (.int 5))) (eC (.int 2147483629))) (eC (.int 1))) aNil))))))) [some s,some (.int k),some (.int x),none] S=.rt (.ref S.length) (S++[.lst [.int own,.int seed]]):=by
 have q2:∀(x:Int),modD S (.int x) (.int 2147483629)=some (.int (x % 2147483629)):=fun _=>zFe (by decide)
 have pw:powD S (.int 10) (.int 18)=some (.int ((10:Int) ^ 18)):=by
  show(if(0:Int)<=18/\(18:Int)<=1000000/\(10:Int).natAbs<2 ^ 64 then some (D.int ((10:Int) ^ (18:Int).toNat))else none)=_
  rw[xc (by decide)];rfl
 have x0:0<=x % 2147483629:=vH _ (by decide)
 have x9:x % 2147483629<2147483629:=vI _ (by decide)
 have m1:mulD S (.int (x % 2147483629)) (.int 48271)=some (.int (x % 2147483629*48271)):=zGd ⟨zFc x0 (by(lia)),zFc (by decide) (by decide)⟩
 have m2:mulD S (.int 40692) (.int k)=some (.int (40692*k)):=zGd ⟨zFc (by decide) (by decide),zFc (by(lia)) (by(lia))⟩
 have p5:powD S (.int (x % 2147483629*48271+40692*k)) (.int 5)=some (.int ((x % 2147483629*48271+40692*k) ^ 5)):=by
  show(if(0:Int)<=5/\(5:Int)<=1000000/\(x % 2147483629*48271+40692*k).natAbs<2 ^ 64 then some (D.int ((x % 2147483629*48271+40692*k) ^ (5:Int).toNat))else none)=_
  rw[xc ⟨by decide,by decide,by(lia)⟩];rfl
 have s0:=vH ((x % 2147483629*48271+40692*(k:Int)) ^ 5) (b:=2147483629) (by decide)
 have s9:=vI ((x % 2147483629*48271+40692*(k:Int)) ^ 5) (b:=2147483629) (by decide)
 have ge:geD S (.int x) (.int ((10:Int) ^ 18))=some (.bl (decide ((10:Int) ^ 18<=x))):=rfl
 by_cases c:(10:Int) ^ 18<=x
 ·rw[xl c]at ge
  refine⟨x,(x % 2147483629*48271+40692*(k:Int)) ^ 5 % 2147483629+1,?_,?_,by simp_arith [pw,ge,eNew,q2,m1,m2,p5]⟩ <;> lia
 ·rw[xq c]at ge
  refine⟨0,(x % 2147483629*48271+40692*(k:Int)) ^ 5 % 2147483629+1,?_,?_,by simp_arith [pw,ge,eNew,q2,m1,m2,p5]⟩ <;> lia
theorem zUx {S:Store}{ns:List Int}{k:Nat}(hk:k<=63):∃own seed:Int,0<=seed/\seed<=2147483629/\zJl 2 4 zVa [.klst (ns.map D.int),.int k] S=.ok (.ref S.length) (S++[.lst [.int own,.int seed]]):=by
 have m1:mulD S (.int 7901) (.int k)=some (.int (7901*k)):=zGd ⟨zFc (by decide) (by decide),zFc (by(lia)) (by(lia))⟩
 have ln:lenB S [.klst (ns.map D.int)]=some (.int ns.length):=by
  show some (D.int ((ns.map D.int).length:Int))=_
  rw[xm]
 have l1:ltN S (.int k) (.int ns.length)=some (.bl (decide ((k:Int)<ns.length))):=rfl
 have g1:gtD S (.int ns.length) (.int 0)=some (.bl (decide ((0:Int)<ns.length))):=rfl
 suffices h:∃x:Int,∀r,(sSeq (sSet 2 (eOp addD (eOp mulD (eC (.int 7901)) (eVar 1)) (eC (.int 24697))))
  (sSeq (sIf (tB (eOp ltN (eVar 1) (eCB lenB (zA0 (eVar 0) aNil)))) (sSet 2 (eOp ixD (eVar 0) (eVar 1))) (sIf (tB (eOp gtD (eCB lenB (zA0 (eVar 0) aNil)) (eC (.int 0)))) (sSet 2 (eOp addD (eOp mulD (eOp modD (eOp ixD (eVar 0) (eOp modD (eVar 1) (eCB lenB (zA0 (eVar 0) aNil)))) (eC (.int 2147483629))) (eC (.int 31))) (eOp mulD (eC (.int 7901)) (eVar 1)))) zB7)) r)) [some (.klst (ns.map D.int)),some (.int k),none,none] S=r [some (.klst (ns.map D.int)),some (.int k),some (.int x),none] S by
  obtain⟨x,h⟩:=h
  obtain⟨own,seed,s0,s9,e⟩:=zRq (S:=S) (s:=.klst (ns.map D.int)) (k:=k) (x:=x) hk
  refine⟨own,seed,s0,s9,?_⟩
  have:=h _ |>.trans e
  unfold zJl zVa
  simp only[xE,List.length_nil,Nat.reduceAdd,xy,xw,vB,Nat.reduceSub,List.replicate,v9,List.nil_append]
  rw[this]
 by_cases c:(k:Int)<ns.length
 ·rw[xl c]at l1
  have i1:=ix_k (S:=S) (ns:=ns) (k:=k) (by(lia))
  exact⟨ns[k]'(by(lia)),fun r=>by simp_arith [m1,ln,l1,i1]⟩
 ·rw[xq c]at l1
  by_cases c2:(0:Int)<ns.length
  ·rw[xl c2]at g1
   have q1:modD S (.int k) (.int ns.length)=some (.int ((k % ns.length:Nat):Int)):=by
    rw[zFe c2];norm_cast
   have i1:=ix_k (S:=S) (ns:=ns) (k:=k % ns.length) (vw _ (by(lia)))
   have q2:∀(x:Int),modD S (.int x) (.int 2147483629)=some (.int (x % 2147483629)):=fun _=>zFe (by decide)
   have x0:=vH (ns[k % ns.length]'(vw _ (by(lia)))) (b:=2147483629) (by decide)
   have x9:=vI (ns[k % ns.length]'(vw _ (by(lia)))) (b:=2147483629) (by decide)
   have m2:=zGd (S:=S) (show sm (ns[k % ns.length]'(vw _ (by(lia))) % 2147483629)/\sm 31 from⟨zFc x0 (by(lia)),zFc (by decide) (by decide)⟩)
   exact⟨ns[k % ns.length]'(vw _ (by(lia))) % 2147483629*31+7901*k,fun r=>by simp_arith [m1,ln,l1,g1,q1,i1,q2,m2]⟩
  ·rw[xq c2]at g1
   exact⟨7901*k+24697,fun r=>by simp_arith [m1,ln,l1,g1]⟩
end
end DS
namespace DP
open DS TX
open PySem (Str)
noncomputable section
open Classical
noncomputable abbrev Pt:=Int × Int
noncomputable abbrev cel (p:Pt):D:=.tup [.int p.1,.int p.2]
noncomputable abbrev rowD (r:List Pt):D:=.tup (r.map cel)
theorem zBo {k:Nat}:∀(l:List Pt),lowL k (l.map cel)=true
 | []=>rfl
 | p::l=>by show((cel p).low k && lowL k (l.map cel))=true;rw[zBo l];rfl
theorem zAb {a b:SM}{env e:Env}{S S1:Store}{r:SR}(h:a env S=.nx e S1) (h':b e S1=r):sSeq a b env S=r:=by rw[sSeq,h];exact h'
theorem zHc {a b:SM}{env:Env}{S S1:Store}{d:D}(h:a env S=.rt d S1):sSeq a b env S=.rt d S1:=by rw[sSeq,h]
theorem tru {S:Store}{b:Bool}:truth S (.bl b)=some b:=rfl
theorem zKo {α:Type}{p:α->Bool}:∀l:List α,bools (l.map fun x=>D.bl (p x))=some (l.map p)
 | []=>rfl
 | a::l=>by
  have:=zKo (p:=p) l
  show(bools (l.map fun x=>D.bl (p x))).map (p a::·)=_
  rw[this];rfl
theorem zMr {α:Type}{S:Store}{p:α->Prop}[DecidablePred p] (l:List α) [Decidable (∀x∈l,p x)]:allB S [.lst (l.map fun x=>.bl (decide (p x)))]=some (.bl (decide (∀x∈l,p x))):=by
 show((bools (l.map fun x=>D.bl (decide (p x)))).map fun bs=>D.bl (bs.all id))=_
 rw[zKo]
 show some (D.bl _)=_
 congr 2
 rw[Bool.eq_iff_iff,vg,decide_eq_true_iff]
 simp
theorem zCj {t:TM}{a b:SM}{env:Env}{S:Store}{q:SR}(h:t env S=.ok false S) (h2:b env S=q):sIf t a b env S=q:=by
 rw[sIf,h,Rs.then_ok,xg (by decide)];exact h2
theorem zHq {t:TM}{a b:SM}{env:Env}{S:Store}{q:SR}(h:t env S=.ok true S) (h2:a env S=q):sIf t a b env S=q:=by
 rw[sIf,h,Rs.then_ok,xc rfl];exact h2
theorem zXk {t:TM}{a b:SM}{env:Env}{S:Store}{p:Prop}[Decidable p] (h:t env S=.ok (decide p) S):sIf t a b env S=if p then a env S else b env S:=by
 rw[sIf,h,Rs.then_ok]
 by_cases c:p
 ·rw[xc c,xc (xl c)]
 ·rw[xg c,xg (by simpa using c)]
theorem zQ4 {S:Store}{l:List D}:zFl S (.tup l)=some ⟨l,[]⟩:=rfl
theorem zQ5 {S:Store}{l:List D}:zFl S (.lst l)=some ⟨l,[]⟩:=rfl
theorem zFg {e:EM}{env:Env}{S:Store}{l:List D}(h:e env S=.ok (.tup l) S):iVal e env S=.ok ⟨l,[]⟩ S:=by rw[iVal,h,Rs.bind_ok,zQ4];rfl
theorem zFn {e:EM}{env:Env}{S:Store}{l:List D}(h:e env S=.ok (.lst l) S):iVal e env S=.ok ⟨l,[]⟩ S:=by rw[iVal,h,Rs.bind_ok,zQ5];rfl
theorem gt_int {S:Store}{x y:Int}:gtD S (.int x) (.int y)=some (.bl (decide (y<x))):=rfl
theorem le_int {S:Store}{x y:Int}:leD S (.int x) (.int y)=some (.bl (decide (x<=y))):=rfl
theorem zUj {S:Store}{l:List D}:lenB S [.tup l]=some (.int (l.length:Nat)):=rfl
theorem zTb {n:Nat}(h:n<=1000):zJ1 [.int (n:Nat)]=some ⟨(List.range n).map fun(i:Nat)=>.int (i:Int),[]⟩:=by
 obtain⟨k,hk⟩:∃k:Int,k=(n:Int):=⟨_,rfl⟩
 rw[<- hk,zQh (by nofun) (by nofun),show k.toNat=n by nofun]
theorem zEl {e:EM}{env:Env}{S S':Store}{n:Nat}(h:e env S=.ok (.int (n:Nat)) S') (hn:n<=1000):zF2 (zA0 e aNil) env S=.ok ⟨(List.range n).map fun(i:Nat)=>.int (i:Int),[]⟩ S':=by
 unfold zF2 zA0 aNil
 rw[h,Rs.bind_ok,Rs.bind_ok,Rs.bind_ok,zTb hn]
 rfl
theorem zUw {v:Bool}{S:Store}:fin [] (.bl v) S=.ok (.bl v) []:=by
 unfold fin
 rw[xc (show keeps ([]:Store).length [] S from trivial),xc (show(D.bl v).low ([]:Store).length=true from rfl)]
 rfl
noncomputable abbrev Bn (n:Int):Prop:=n.natAbs<10 ^ 40
theorem zBr (a b:Str):ls (a++b)=ls a++ls b:=by show(a.cps++b.cps).toList=_;simp
theorem add_str {a b:Str}(h:a.length+b.length<=1000000):(if a.length+b.length<=most then some (D.str (a++b))else none)=some (.str (a++b)):=xc (xn h (by decide))
theorem zCh {g:Store->D->List D->Option (D × Store)}{o:EM}{z:Str}{a:AM}{env:Env}{S:Store}{ds:List D}{r:D}(ho:o env S=.ok (.str z) S) (ha:a env S=.ok ds S) (hg:g S (.str z) ds=some (r,S)):eMt "str" g o a env S=.ok r S:=by
 rw[eMt,ho,Rs.bind_ok,xc (show tyD S (.str z)=some "str" from rfl),ha,Rs.bind_ok,hg]
 rfl
theorem zBk {e:EM}{env:Env}{S S1:Store}{d:D}(h:e env S=.ok d S1):zA0 e aNil env S=.ok [d] S1:=by rw[zA0,h];rfl
theorem zLc {n:Int}(h:Bn n):1<=(nm n).length/\(nm n).length<=41:=by
 have:=zMh 40 n.natAbs (by decide) h
 unfold nm
 split
 ·rw[xE];lia
 ·lia
theorem zD9 {n:Int}(h:Bn n):1<=(tn n).length/\(tn n).length<=41:=by rw[zE9,zG2];exact zLc h
theorem zOj {n:Int}(h:Bn n):PySem.intText? (Str.ofString (toString n))=some n:=by
 have hl:=zMh 40 n.natAbs (by decide) h
 have hne:dg n.natAbs≠[]:=fun e=>by rw[e]at hl;simp at hl
 have lz:(Str.ofString (toString n)).length=(nm n).length:=by rw[<- zR9];simp[Str.length]
 have vb:PySem.NumText.digitsVal (dg n.natAbs)=n.natAbs:=PySem.W.KIN.val_back n.natAbs
 unfold nm at lz
 by_cases c:n<0
 ·rw[xc c]at lz
  have e:=PySem.intText_neg (x:=Str.ofString (toString n)) (cs:=dg n.natAbs) (by rw[show(Str.ofString (toString n)).cps.toList=nm n from zR9 n];unfold nm;rw[xc c]) (zGi _) hne (by rw[lz];simp;lia)
  rw[e,vb]
  congr 1;lia
 ·rw[xg c]at lz
  have en:(Str.ofString (toString n)).cps.toList=dg n.natAbs:=by rw[show(Str.ofString (toString n)).cps.toList=nm n from zR9 n];unfold nm;rw[xg c]
  have e:=PySem.intText_digits (x:=Str.ofString (toString n)) (by rw[en];exact zGi _) (by rw[en];exact hne) (by rw[lz];lia)
  rw[e,en,vb]
  congr 1;lia
theorem zHa {S:Store}{n:Int}(h:Bn n):strI S [.int n]=some (.str (tn n)):=by
 have l:n.natAbs.log2<1920:=by
  have:n.natAbs<2 ^ 200:=xv h (by decide)
  by_cases z:n.natAbs=0
  ·rw[z];decide
  ·exact Nat.lt_trans ((Nat.log2_lt z).mpr this) (by decide)
 show(if n.natAbs.log2<1920 then some (D.str (Str.ofString (toString n)))else none)=_
 rw[xc l];rfl
theorem zQ3 {c:TM}{b:SM}{env:Env}{S:Store}(h:c env S=.ok false S):zDr c b env S=.nx env S:=by
 have w1:zBl c b 1 env S=.nx env S:=by unfold zBl;rw[h,Rs.then_ok,xg (by decide)]
 have hx:∃n,zBl c b n env S≠.bad:=⟨1,by rw[w1];intro z;cases z⟩
 unfold zDr
 rw[dif_pos hx]
 have c1:=choose_spec hx
 have e1:zBl c b (max (choose hx) 1) env S=zBl c b (choose hx) env S:=zCm c1 _ (Nat.le_max_left _ _)
 have e2:zBl c b (max (choose hx) 1) env S=zBl c b 1 env S:=zCm (by rw[w1];intro z;cases z) _ (Nat.le_max_right _ _)
 rw[<- e1,e2,w1]
theorem zPy (a:Str):a++Str.ofString ""=a:=zCt (by rw[zBr];show ls a++[]=_;simp)
theorem zX1 {n:Int}(h:n<0):Str.ofString "-"++tn (-n)=tn n:=by
 refine zCt ?_
 rw[zBr,zG2,zG2]
 unfold nm
 rw[xg (by nofun),xc h,Int.natAbs_neg]
 rfl
theorem zLx {S:Store}{n:Int}{F:Fn}(h:Bn n) (hn:¬ n<0):zB1 1 3 (sSeq (sIf (tB (eOp ltN (eVar 0) (eC (.int 0)))) (sRet (eOp addD (eC (.str (PySem.Str.ofString "-"))) (zA7 F (zA0 (eUn negD (eVar 0)) aNil)))) zB7) (sSeq (sSet 1 (eOp powD (eC (.int 10)) (eC (.int 64)))) (sSeq (sSet 2 (eC (.str (PySem.Str.ofString "")))) (sSeq (zDr (tB (eOp geD (eVar 0) (eVar 1))) (sSeq (sSet 2 (eOp addD eBad (eVar 2))) (sSet 0 (eOp zFp (eVar 0) (eVar 1))))) (sRet (eOp addD (eCB strI (zA0 (eVar 0) aNil)) (eVar 2))))))) [.int n] S=.ok (.str (tn n)) S:=by
 refine zAj rfl ?_ rfl
 have l0:ltN S (.int n) (.int 0)=some (.bl false):=by show some (D.bl (decide (n<0)))=_;rw[xq hn]
 have pw:powD S (.int 10) (.int 64)=some (.int (10 ^ 64)):=rfl
 have g0:geD S (.int n) (.int (10 ^ 64))=some (.bl false):=by
  show some (D.bl (decide ((10:Int) ^ 64<=n)))=_
  rw[xq]
  unfold Bn at h
  lia
 have ad:=add_str (a:=tn n) (b:=Str.ofString "") (by have:=zD9 h;show _+0<=_;lia)
 refine zAb (e:=[some (.int n),none,none]) (S1:=S) (zCj (by simp_arith [l0]) rfl) (zAb (e:=[some (.int n),some (.int (10 ^ 64)),none]) (S1:=S) (by simp_arith [pw]) (zAb (e:=[some (.int n),some (.int (10 ^ 64)),some (.str (Str.ofString ""))]) (S1:=S) (by simp_arith [xy]) (zAb (e:=[some (.int n),some (.int (10 ^ 64)),some (.str (Str.ofString ""))]) (S1:=S) (zQ3 (by simp_arith [g0])) ?_)))
 simp_arith [zHa h,ad]
 rw[zPy]
theorem zL4 {S:Store}{n:Int}(h:Bn n):zBh [.int n] S=.ok (.str (tn n)) S:=by
 by_cases c:n<0
 ·refine zAj rfl ?_ rfl
  have l0:ltN S (.int n) (.int 0)=some (.bl true):=by show some (D.bl (decide (n<0)))=_;rw[xl c]
  have ng:negD S (.int n)=some (.int (-n)):=rfl
  have i:zCn [.int (-n)] S=.ok (.str (tn (-n))) S:=zLx (by rw[Bn,Int.natAbs_neg];exact h) (by nofun)
  have ad:=add_str (a:=Str.ofString "-") (b:=tn (-n)) (by have:=zD9 (n:=-n) (by rw[Bn,Int.natAbs_neg];exact h);show 1+_<=_;lia)
  refine zHc (zHq (by simp_arith [l0]) ?_)
  simp_arith [ng,i,ad]
  rw[zX1 c]
 ·exact zLx h c
structure Bp (p:Pt):Prop where
 x:Bn p.1
 y:Bn p.2
theorem zOv {S:Store}{sep:Str}{ys:List Str}(h1:sep.length<=16) (h2:(ys.map fun y:Str=>y.length).sum+ys.length<=1048576):joinM S (.str sep) [.lst (ys.map D.str)]=some (.str (PySem.Txt.join sep ys),S):=by
 show(match strsOf (ys.map D.str)with|some ys=>if sep.length<=16/\(ys.map fun y:Str=>y.length).sum+ys.length<=1048576 then some (D.str (PySem.Txt.join sep ys),S)else none|none=>none)=_
 rw[zIc]
 show(if sep.length<=16/\(ys.map fun y:Str=>y.length).sum+ys.length<=1048576 then some (D.str (PySem.Txt.join sep ys),S)else none)=_
 rw[xc ⟨h1,h2⟩]
theorem zIg {S:Store}{p:Pt}(h:Bp p):zB8 [cel p] S=.ok (.str (wd p)) S:=by
 refine zAj rfl ?_ rfl
 have c:(zAl 1 [] (iVal (eVar 0)) (gName 0) tYes (zA7 zBh (zA0 (eVar 0) aNil))) [some (cel p)] S=.ok (.lst ([p.1,p.2].map fun n=>.str (tn n))) S:=by
  refine zBq (xs:=[p.1,p.2]) (h:=D.int) (gd:=[]) (fun env=>∃o,env=[o]) (zFg rfl) zAu ⟨none,rfl⟩ (show 2<=most by decide) ?_
  rintro x hx env ⟨o,rfl⟩
  have b:Bn x:=by
   simp only[xi,xt,xu]at hx
   rcases hx with rfl|rfl
   ·exact h.x
   ·exact h.y
  exact⟨[some (.int x)],rfl,⟨_,rfl⟩,by simp_arith [zL4 b]⟩
 have l1:=zD9 h.x
 have l2:=zD9 h.y
 have j:=zOv (S:=S) (sep:=sC) (ys:=[tn p.1,tn p.2]) (by decide) (by simp;lia)
 show(sRet (eMt "str" joinM _ (zA0 _ aNil))) [some (cel p)] S=_
 rw[sRet,zCh (z:=Str.ofString ",") (r:=.str (wd p)) rfl (zBk c) j]
 rfl
theorem zOh {S:Store}{n:Int}(h:Bn n):zB3 [.str (tn n),.int 40] S=.ok (.bl true) S:=by
 refine zAj rfl ?_ rfl
 have dl:=zMh 40 n.natAbs (by decide) h
 have tl':=zD9 h
 have ll:(tdg n).length=(dg n.natAbs).length:=by rw[zE9,zM6]
 have x1:sSet 2 (eIf (tTru (eMt "str" startM (eVar 0) (zA0 (eC (.str (PySem.Str.ofString "-"))) aNil))) (eSl slT (eVar 0) (pYes (eC (.int 1))) pNo) (eVar 0)) [some (.str (tn n)),some (.int 40),none] S=.nx [some (.str (tn n)),some (.int 40),some (.str (tdg n))] S:=by
  have m:eMt "str" startM (eVar 0) (zA0 (eC (.str (PySem.Str.ofString "-"))) aNil) [some (.str (tn n)),some (.int 40),none] S=.ok (.bl (decide (n<0))) S:=zCh rfl (zBk rfl) (by show some (D.bl (PySem.Txt.startswith (tn n) sM),S)=_;rw[zY1])
  rw[sSet,eIf,tTru,m,Rs.bind_ok]
  by_cases c:n<0
  ·rw[xl c]
   have sl:slT S (.str (tn n)) (some 1) none=some (.str (tdg n)):=by
    show(if(0:Int)<=1/\(tn n).length<=100000 then some (D.str ⟨((tn n).cps.toList.drop (1:Int).toNat).toArray⟩)else none)=_
    rw[xc ⟨by decide,by nofun⟩,<- zV5 c]
    rfl
   simp_arith [tru,sl]
  ·rw[xq c,zV4 c]
   simp_arith [tru]
 refine zAb x1 ?_
 have ln:lenB S [.str (tdg n)]=some (.int ((dg n.natAbs).length:Nat)):=by
  show(if(tdg n).length<=most then some (D.int ((tdg n).length:Nat))else none)=_
  rw[ll,xc (xn dl.2 (by decide))]
 have t1:tB (zF3 leD leD (eC (.int 1)) (eCB lenB (zA0 (eVar 2) aNil)) (eVar 1)) [some (.str (tn n)),some (.int 40),some (.str (tdg n))] S=.ok true S:=by
  have l1:leD S (.int 1) (.int ((dg n.natAbs).length:Nat))=some (.bl true):=by rw[le_int,xl (by nofun)]
  have l2:leD S (.int ((dg n.natAbs).length:Nat)) (.int 40)=some (.bl true):=by rw[le_int,xl (by nofun)]
  simp_arith [zF3,ln,l1,l2]
 refine zAb (e:=[some (.str (tn n)),some (.int 40),some (.str (tdg n))]) (S1:=S) (zCj (by rw[tNot,t1];rfl) rfl) ?_
 have wk:iVal (eVar 2) [some (.str (tn n)),some (.int 40),some (.str (tdg n))] S=.ok ⟨(dg n.natAbs).map fun c=>.str ⟨#[c]⟩,[]⟩ S:=by
  have w:zFl S (.str (tdg n))=some ⟨(dg n.natAbs).map fun c=>.str ⟨#[c]⟩,[]⟩:=by
   show(if(tdg n).cps.all (·<128)then some (Walk.mk (chars (tdg n)) [])else none)=_
   rw[xc (zNp n)]
   unfold chars
   rw[show(tdg n).cps.toList=dg n.natAbs from zM6 n]
  rw[iVal]
  show lift (zFl S (.str (tdg n))) S=_
  rw[w]
  rfl
 have c:(zAl 1 [] (iVal (eVar 2)) (gName 0) tYes (zF3 leD leD (eC (.str (PySem.Str.ofString "0"))) (eVar 0) (eC (.str (PySem.Str.ofString "9"))))) [some (.str (tn n)),some (.int 40),some (.str (tdg n))] S=.ok (.lst ((dg n.natAbs).map fun c=>.bl (decide (48<=c/\c<=57)))) S:=by
  refine zBq (xs:=dg n.natAbs) (h:=fun c=>.str ⟨#[c]⟩) (gd:=[]) (fun env=>∃o,env=[o]) wk zAu ⟨none,rfl⟩ (xn dl.2 (by decide)) ?_
  rintro x hx env ⟨o,rfl⟩
  have b:=zGi _ x hx
  have l1:leD S (.str (PySem.Str.ofString "0")) (.str ⟨#[x]⟩)=some (.bl true):=by
   show some (D.bl (!decide ([x]<[48])))=_
   rw[xq (by intro z;have:=(List.cons_lt_cons_iff.mp z);simp at this;lia)]
   rfl
  have l2:leD S (.str ⟨#[x]⟩) (.str (PySem.Str.ofString "9"))=some (.bl true):=by
   show some (D.bl (!decide ([57]<[x])))=_
   rw[xq (by intro z;have:=(List.cons_lt_cons_iff.mp z);simp at this;lia)]
   rfl
  refine⟨[some (.str ⟨#[x]⟩)],rfl,⟨_,rfl⟩,?_⟩
  rw[xl b]
  simp_arith [zF3,l1,l2]
 have al:=zMr (S:=S) (p:=fun c:Nat=>48<=c/\c<=57) (dg n.natAbs)
 rw[xl (zGi n.natAbs)]at al
 have t2:tTru (eCB allB (zA0 (zAl 1 [] (iVal (eVar 2)) (gName 0) tYes (zF3 leD leD (eC (.str (PySem.Str.ofString "0"))) (eVar 0) (eC (.str (PySem.Str.ofString "9"))))) aNil)) [some (.str (tn n)),some (.int 40),some (.str (tdg n))] S=.ok true S:=by
  rw[tTru,eCB,zBk c,Rs.bind_ok,al]
  rfl
 refine zAb (e:=[some (.str (tn n)),some (.int 40),some (.str (tdg n))]) (S1:=S) (zCj (by rw[tNot,t2];rfl) rfl) ?_
 have e0:eqT S (.str (tn n)) (.str (PySem.Str.ofString "0"))=some (.bl (decide (tn n=PySem.Str.ofString "0"))):=rfl
 by_cases z:tn n=PySem.Str.ofString "0"
 ·rw[xl z]at e0
  simp_arith [e0]
 ·rw[xq z]at e0
  obtain⟨cc,r,ec,h0,h1⟩:=zPa n.natAbs
  have nz:n.natAbs≠0:=fun q=>z (by rw[show n=0 by nofun];rfl)
  have ix:ixD S (.str (tdg n)) (.int 0)=some (.str ⟨#[cc]⟩):=by
   show(if(tdg n).length<=most then(atL (tdg n).cps.toList 0).map fun c=>D.str ⟨#[c]⟩else none)=_
   rw[xc (by rw[ll];exact xn dl.2 (by decide)),show(tdg n).cps.toList=cc::r from(zM6 n).trans ec]
   unfold atL ixN
   simp
  have n0:neK S (.str ⟨#[cc]⟩) (.str (PySem.Str.ofString "0"))=some (.bl true):=by
   show some (D.bl (!decide ((⟨#[cc]⟩:Str)=PySem.Str.ofString "0")))=_
   rw[xq fun q=>h1 nz (by
    have:=congrArg ls q
    have e2:ls (⟨#[cc]⟩:Str)=[cc]:=rfl
    have e3:ls (PySem.Str.ofString "0")=[48]:=rfl
    rw[e2,e3]at this
    exact(List.cons.inj this).1)]
   rfl
  simp_arith [e0,ix,n0]
theorem zDy {S:Store}{z y:Str}{ys:List Str}(h0:0<y.length) (h1:z.length<=100000) (e:PySem.Txt.split z y=ys) (h2:ys.length<=1000):splitM S (.str z) [.str y]=some (.lst (ys.map D.str),S):=by
 show(if 0<y.length/\z.length<=100000/\(PySem.Txt.split z y).length<=most then some (D.lst ((PySem.Txt.split z y).map D.str),S)else none)=_
 rw[e,xc ⟨h0,h1,xn h2 (by decide)⟩]
theorem zMa {S:Store}{n:Int}(h:Bn n):intS S [.str (tn n)]=some (.int n):=by
 show(match PySem.intText? (tn n)with|some m=>if(tn n).length<=640 then some (D.int m)else none|none=>none)=_
 rw[show PySem.intText? (tn n)=some n from zOj h]
 show(if(tn n).length<=640 then some (D.int n)else none)=_
 rw[xc (by have:=zD9 h;lia)]
theorem zIu {p:Pt}(h:Bp p):3<=(wd p).length/\(wd p).length<=83:=by
 have h1:=zLc h.x
 have h2:=zLc h.y
 rw[zE9,zRe,xI,xE]
 lia
theorem zJw {S:Store}{p:Pt}(h:Bp p):zB9 [.str (wd p),.int 2,.int 40] S=.ok (cel p) S:=by
 refine zAj rfl ?_ rfl
 have wl:=zIu h
 have sp:=zDy (S:=S) (z:=wd p) (y:=Str.ofString ",") (ys:=[tn p.1,tn p.2]) (by decide) (by nofun) (zQb p) (by simp)
 have x1:sSet 3 (eMt "str" splitM (eVar 0) (zA0 (eC (.str (PySem.Str.ofString ","))) aNil)) [some (.str (wd p)),some (.int 2),some (.int 40),none] S=.nx [some (.str (wd p)),some (.int 2),some (.int 40),some (.lst [.str (tn p.1),.str (tn p.2)])] S:=by
  rw[sSet,zCh (z:=wd p) rfl (zBk rfl) sp]
  rfl
 refine zAb x1 ?_
 have bn:∀n∈[p.1,p.2],Bn n:=fun n hn=>by
  simp only[xi,xt,xu]at hn
  rcases hn with rfl|rfl
  ·exact h.x
  ·exact h.y
 have c1:(zAl 1 [2] (iVal (eVar 3)) (gName 0) tYes (zA7 zB3 (zA0 (eVar 0) (zA0 (eVar 1) aNil)))) [some (.str (wd p)),some (.int 2),some (.int 40),some (.lst [.str (tn p.1),.str (tn p.2)])] S=.ok (.lst ([p.1,p.2].map fun n=>.bl (decide (Bn n)))) S:=by
  refine zBq (xs:=[p.1,p.2]) (h:=fun n=>.str (tn n)) (gd:=[]) (fun env=>∃o,env=[o,some (.int 40)]) (zFn rfl) zAu ⟨none,rfl⟩ (show 2<=most by decide) ?_
  rintro x hx env ⟨o,rfl⟩
  refine⟨[some (.str (tn x)),some (.int 40)],rfl,⟨_,rfl⟩,?_⟩
  rw[xl (bn x hx)]
  simp_arith [zOh (bn x hx)]
 have al:=zMr (S:=S) (p:=fun n:Int=>Bn n) [p.1,p.2]
 rw[xl bn]at al
 have c2:(zAl 1 [] (iVal (eVar 3)) (gName 0) tYes (eCB intS (zA0 (eVar 0) aNil))) [some (.str (wd p)),some (.int 2),some (.int 40),some (.lst [.str (tn p.1),.str (tn p.2)])] S=.ok (.lst ([p.1,p.2].map D.int)) S:=by
  refine zBq (xs:=[p.1,p.2]) (h:=fun n=>.str (tn n)) (gd:=[]) (fun env=>∃o,env=[o]) (zFn rfl) zAu ⟨none,rfl⟩ (show 2<=most by decide) ?_
  rintro x hx env ⟨o,rfl⟩
  exact⟨[some (.str (tn x))],rfl,⟨_,rfl⟩,by simp_arith [zMa (bn x hx)]⟩
 have ln:lenB S [.lst [.str (tn p.1),.str (tn p.2)]]=some (.int 2):=rfl
 have n2:neK S (.int 2) (.int 2)=some (.bl false):=rfl
 have t1:tB (eOp neK (eCB lenB (zA0 (eVar 3) aNil)) (eVar 1)) [some (.str (wd p)),some (.int 2),some (.int 40),some (.lst [.str (tn p.1),.str (tn p.2)])] S=.ok false S:=by simp_arith [ln,n2]
 have t2:tTru (eCB allB (zA0 (zAl 1 [2] (iVal (eVar 3)) (gName 0) tYes (zA7 zB3 (zA0 (eVar 0) (zA0 (eVar 1) aNil)))) aNil)) [some (.str (wd p)),some (.int 2),some (.int 40),some (.lst [.str (tn p.1),.str (tn p.2)])] S=.ok true S:=by
  rw[tTru,eCB,zBk c1,Rs.bind_ok,al]
  rfl
 refine zAb (e:=[some (.str (wd p)),some (.int 2),some (.int 40),some (.lst [.str (tn p.1),.str (tn p.2)])]) (S1:=S) (zCj (by rw[tOr,t1,Rs.bind_ok,xg (by decide),tNot,t2];rfl) rfl) ?_
 rw[sRet,eCB,zBk c2,Rs.bind_ok]
 rfl
end
end DP
namespace DP
open DS TX
open PySem (Str)
noncomputable section
open Classical
theorem zOn (x:Str) (i j:Nat):ls (PySem.Builtin.Str.strSub x i j)=((ls x).take j).drop i:=by
 show(x.cps.extract i j).toList=_
 rw[Array.toList_extract,List.extract_eq_take_drop,List.take_drop]
 by_cases h:i<=j
 ·rw[show i+(j-i)=j by nofun]
 ·rw[uq (by rw[vt];lia),uq (by rw[vt];lia)]
theorem part_of {z y a b:Str}{c:Nat}{r:List Nat}(hz:ls z=ls a++ls y++ls b) (hy:ls y=c::r) (hc:c ∉ ls a):PySem.Txt.partition z y=(a,y,b):=by
 have zl:z.length=(ls a).length+(ls y).length+(ls b).length:=by rw[zE9,hz,xI,xI]
 have yl:y.length=(ls y).length:=zE9 y
 have sub:∀i,PySem.Builtin.Str.subAt z y i=true <-> ((ls z).take (i+y.length)).drop i=ls y:=fun i=>by
  unfold PySem.Builtin.Str.subAt
  rw[beq_iff_eq,<- Array.toList_inj]
  have:=zOn z i (i+y.length)
  show(z.cps.extract i (i+y.length)).toList=ls y <-> _
  rw[show(z.cps.extract i (i+y.length)).toList=_ from this]
 have at0:PySem.StrLaws.At z y z.length (ls a).length:=⟨by rw[zl,yl];lia,(sub _).mpr (by rw[yl,hz,um,List.take_append,v8 (by nofun),List.drop_append,uq (by nofun)];simp)⟩
 have nn:∀i,i<(ls a).length->¬ PySem.StrLaws.At z y z.length i:=fun i hi h=>by
  have e:=(sub i).mp h.2
  have g:(((ls z).take (i+y.length)).drop i)[0]?=some c:=by rw[e,hy];rfl
  rw[List.getElem?_drop,Nat.add_zero,vS (by rw[yl,hy];simp),hz,um,vo hi]at g
  exact hc (vv g)
 unfold PySem.Txt.partition
 rcases PySem.StrLaws.occ_head z y 1 (xh 1)with⟨_,hn⟩|⟨i,q,e,hi,hn⟩
 ·exact absurd at0 (hn _)
 ·have ei:i=(ls a).length:=by
   rcases Nat.lt_trichotomy i (ls a).length with l|l|l
   ·exact absurd hi (nn i l)
   ·exact l
   ·exact absurd at0 (hn _ l)
  subst ei
  rw[e]
  show(PySem.Builtin.Str.strSub z 0 (ls a).length,y,PySem.Builtin.Str.strSub z ((ls a).length+y.length) z.length)=_
  refine Prod.ext (zCt ?_) (Prod.ext rfl (zCt ?_))
  ·rw[zOn,hz,um,List.take_append,v8 (xh _)];simp
  ·rw[zOn,zE9 z,v8 (xh _),hz,yl]
   rw[<- xI,List.drop_append,uq (xh _)];simp
end
end DP
namespace DP
open DS TX
open PySem (Str)
noncomputable section
open Classical
theorem zLq {c:TM}{b:SM}{I:Nat->Env->Store->Prop}(h0:∀env S,I 0 env S->c env S=.ok false S) (hs:∀n env S,I (n+1) env S->c env S=.ok true S/\∃env' S' m,b env S=.nx env' S'/\m<=n/\I m env' S'):∀(k n:Nat) (env:Env) (S:Store),n<=k->I n env S->∃env' S',zBl c b (k+1) env S=.nx env' S'/\I 0 env' S'
 | k,0,env,S,_,h=>⟨env,S,by unfold zBl;rw[h0 env S h,Rs.then_ok,xg (by decide)],h⟩
 | 0,n+1,env,S,hk,h=>absurd hk (by nofun)
 | k+1,n+1,env,S,hk,h=>by
  obtain⟨hc,env',S',m,hb,hm,hi⟩:=hs n env S h
  obtain⟨e2,S2,e,hi2⟩:=zLq h0 hs k m env' S' (by nofun) hi
  refine⟨e2,S2,?_,hi2⟩
  unfold zBl
  rw[hc,Rs.then_ok,xc rfl,hb]
  exact e
theorem zKy {c:TM}{b:SM}(I:Nat->Env->Store->Prop) (h0:∀env S,I 0 env S->c env S=.ok false S) (hs:∀n env S,I (n+1) env S->c env S=.ok true S/\∃env' S' m,b env S=.nx env' S'/\m<=n/\I m env' S') (n:Nat) {env:Env}{S:Store}(h:I n env S):∃env' S',zDr c b env S=.nx env' S'/\I 0 env' S':=by
 obtain⟨e2,S2,e,hi⟩:=zLq h0 hs n n env S (xh _) h
 exact⟨e2,S2,by rw[zNy (n:=n+1) (by rw[e];intro z;cases z),e],hi⟩
theorem zKw {S:Store}{x:Int}:absB S [.int x]=some (.int (x.natAbs:Int)):=by
 show some (D.int (if x<0 then -x else x))=_
 congr 2
 split <;> lia
theorem zRo {a b:Nat}(h:0<b):Nat.gcd a b=Nat.gcd b (a % b):=by rw[Nat.gcd_comm a b,Nat.gcd_rec b a,Nat.gcd_comm]
theorem zV7 {S:Store}{X L:Int}:zC8 [.int X,.int L] S=.ok (.int (Nat.gcd X.natAbs L.natAbs:Nat)) S:=by
 refine zAj rfl ?_ rfl
 refine zAb (e:=[some (.int (X.natAbs:Int)),some (.int L),none]) (S1:=S) (by simp_arith [zKw]) (zAb (e:=[some (.int (X.natAbs:Int)),some (.int (L.natAbs:Int)),none]) (S1:=S) (by simp_arith [zKw]) ?_)
 obtain⟨env',S',e,a,o,rfl,rfl,hg⟩:=zKy (c:=tTru (eVar 1)) (b:=sSeq (sSet 2 (eOp modD (eVar 0) (eVar 1))) (sSeq (sSet 0 (eVar 1)) (sSet 1 (eVar 2)))) (fun n env S'=>∃(a:Nat) (o:Option D),env=[some (.int (a:Int)),some (.int (n:Int)),o]/\S=S'/\Nat.gcd a n=Nat.gcd X.natAbs L.natAbs) (fun env S' h=>by
   obtain⟨a,o,rfl,rfl,_⟩:=h
   rfl) (fun n env S' h=>by
   obtain⟨a,o,rfl,rfl,hg⟩:=h
   have t:truth S (.int ((n+1:Nat):Int))=some true:=by show some (decide (((n+1:Nat):Int)≠0))=_;rw[xl (by nofun)]
   have md:modD S (.int (a:Int)) (.int ((n+1:Nat):Int))=some (.int ((a % (n+1):Nat):Int)):=by
    show(if 0<((n+1:Nat):Int)then some (D.int ((a:Int) % ((n+1:Nat):Int)))else none)=_
    rw[xc (by nofun),<- Int.natCast_emod]
   have lt:=vw a (show 0<n+1 by nofun)
   refine⟨by simp_arith [tTru,t],[some (.int ((n+1:Nat):Int)),some (.int ((a % (n+1):Nat):Int)),some (.int ((a % (n+1):Nat):Int))],S,a % (n+1),by simp_arith [md],by nofun,n+1,_,rfl,rfl,by rw[<- hg];exact(zRo (by nofun)).symm⟩) L.natAbs ⟨X.natAbs,none,rfl,rfl,rfl⟩
 refine zAb e ?_
 rw[Nat.gcd_zero_right]at hg
 rw[<- hg]
 simp_arith [xy]
theorem zUk {S:Store}{X L:Int}(h:0<L):zCx [.int X,.int L] S=.ok (.int (Nat.gcd X.natAbs L.natAbs:Nat)) S:=by
 refine zAj rfl ?_ rfl
 obtain⟨env',S',e,a,rfl,rfl,hg⟩:=zKy (c:=tB (eOp neK (eVar 1) (eC (.int 0)))) (b:=sPar [0,1] (zA0 (eVar 1) (zA0 (eOp modD (eVar 0) (eVar 1)) aNil))) (fun n env S'=>∃a:Int,env=[some (.int a),some (.int (n:Int))]/\S=S'/\Nat.gcd a.natAbs n=Nat.gcd X.natAbs L.natAbs) (fun env S' h=>by
   obtain⟨a,rfl,rfl,_⟩:=h
   have n0:neK S (.int ((0:Nat):Int)) (.int 0)=some (.bl false):=rfl
   simp_arith [n0]) (fun n env S' h=>by
   obtain⟨a,rfl,rfl,hg⟩:=h
   have n1:neK S (.int ((n+1:Nat):Int)) (.int 0)=some (.bl true):=by show some (D.bl (!decide (((n+1:Nat):Int)=0)))=_;rw[xq (by nofun)];rfl
   have md:modD S (.int a) (.int ((n+1:Nat):Int))=some (.int (a % ((n+1:Nat):Int))):=by
    show(if 0<((n+1:Nat):Int)then some (D.int (a % ((n+1:Nat):Int)))else none)=_
    rw[xc (by nofun)]
   have lt:=vI a (show(0:Int)<((n+1:Nat):Int) by nofun)
   have ge:=vH a (show((n+1:Nat):Int)≠0 by nofun)
   have ez:a % ((n+1:Nat):Int)=(((a % ((n+1:Nat):Int)).toNat:Nat):Int):=by nofun
   have gg:Nat.gcd (n+1) (a % ((n+1:Nat):Int)).toNat=Nat.gcd a.natAbs (n+1):=by
    have k:=Int.gcd_add_mul_right_left ((n+1:Nat):Int) (a % ((n+1:Nat):Int)) (a / ((n+1:Nat):Int))
    rw[Int.mul_comm,Int.emod_add_mul_ediv]at k
    have k1:Int.gcd a ((n+1:Nat):Int)=Nat.gcd a.natAbs (n+1):=rfl
    have k2:Int.gcd (a % ((n+1:Nat):Int)) ((n+1:Nat):Int)=Nat.gcd (a % ((n+1:Nat):Int)).natAbs (n+1):=rfl
    rw[Nat.gcd_comm,<- k1,k,k2,show(a % ((n+1:Nat):Int)).natAbs=(a % ((n+1:Nat):Int)).toNat by nofun]
   rw[ez]at md
   refine⟨by simp_arith [n1],[some (.int ((n+1:Nat):Int)),some (.int (((a % ((n+1:Nat):Int)).toNat:Nat):Int))],S,(a % ((n+1:Nat):Int)).toNat,by simp_arith [md],by nofun,((n+1:Nat):Int),rfl,rfl,by rw[<- hg,<- gg];rfl⟩) L.natAbs ⟨X,by rw[show((L.natAbs:Nat):Int)=L by nofun],rfl,rfl⟩
 refine zAb e ?_
 rw[Nat.gcd_zero_right]at hg
 rw[<- hg]
 simp_arith [zKw]
end
end DP
namespace DP
open DS TX
open PySem (Str)
noncomputable section
open Classical
mutual
noncomputable def sz:D->Nat
 | .tup l=>szL l+1
 | _=>1
noncomputable def szL:List D->Nat
 | []=>0
 | d::l=>sz d+szL l
end
mutual
noncomputable def nz:D->Bool
 | .tup l=>nzL l
 | .int _=>true
 | .str _=>true
 | _=>false
noncomputable def nzL:List D->Bool
 | []=>true
 | d::l=>nz d && nzL l
end
theorem zVn (d:D):1<=sz d:=by cases d <;> simp[sz]
theorem zL3:∀(a b:List D),szL (a++b)=szL a+szL b
 | [],b=>by simp[szL]
 | d::a,b=>by rw[v9,szL,zL3 a b,szL];lia
theorem zIw:∀(a:List D),a.length<=szL a
 | []=>by simp[szL]
 | d::a=>by have:=zIw a;have:=zVn d;rw[szL,xE];lia
theorem zLb:∀(a b:List D),nzL (a++b)=(nzL a && nzL b)
 | [],b=>by simp[nzL]
 | d::a,b=>by rw[v9,nzL,zLb a b,nzL,Bool.and_assoc]
noncomputable abbrev dbl (d:D):D:=.tup [d,d]
theorem zSz (m:List D):((m.zip m).map fun p=>D.tup [p.1,p.2])=m.map dbl:=by
 induction m with
 | nil=>rfl
 | cons a m ih=>rw[uo,xw,ih];rfl
theorem zJ0 {S:Store}{x y:D}:(S++[x]).set S.length y=S++[y]:=by simp
theorem zD7 {S:Store}{x:D}:(S++[x])[S.length]?=some x:=by simp
section
variable {S:Store}
theorem i_ib {n:Int}:isiB S [.int n,.ty "bool"]=some (.bl false):=rfl
theorem i_ii {n:Int}:isiB S [.int n,.ty "int"]=some (.bl true):=rfl
theorem i_it {n:Int}:isiB S [.int n,.ty "tuple"]=some (.bl false):=rfl
theorem i_is {n:Int}:isiB S [.int n,.ty "str"]=some (.bl false):=rfl
theorem i_sb {n:Str}:isiB S [.str n,.ty "bool"]=some (.bl false):=rfl
theorem i_si {n:Str}:isiB S [.str n,.ty "int"]=some (.bl false):=rfl
theorem i_st {n:Str}:isiB S [.str n,.ty "tuple"]=some (.bl false):=rfl
theorem i_ss {n:Str}:isiB S [.str n,.ty "str"]=some (.bl true):=rfl
theorem i_tb {n:List D}:isiB S [.tup n,.ty "bool"]=some (.bl false):=rfl
theorem i_ti {n:List D}:isiB S [.tup n,.ty "int"]=some (.bl false):=rfl
theorem i_tt {n:List D}:isiB S [.tup n,.ty "tuple"]=some (.bl true):=rfl
theorem i_ts {n:List D}:isiB S [.tup n,.ty "str"]=some (.bl false):=rfl
theorem nk_b {b:Bool}:neK S (.bl b) (.bl b)=some (.bl false):=by show some (D.bl (!decide (b=b)))=_;rw[xl rfl];rfl
theorem nk_i {b:Int}:neK S (.int b) (.int b)=some (.bl false):=by show some (D.bl (!decide (b=b)))=_;rw[xl rfl];rfl
theorem nk_s {b:Str}:neK S (.str b) (.str b)=some (.bl false):=by show some (D.bl (!decide (b=b)))=_;rw[xl rfl];rfl
end
noncomputable abbrev aB:SM:=(sSeq (sUnp (gTup [(gName 3),(gName 4)]) (eMt "list" popM (eVar 2) aNil))
  (sSeq (sIf (tOr (tB (eOp neK (eCB isiB (zA0 (eVar 3) (zA0 (eC (.ty "bool")) aNil))) (eCB isiB (zA0 (eVar 4) (zA0 (eC (.ty "bool")) aNil))))) (tB (eOp neK (eCB isiB (zA0 (eVar 3) (zA0 (eC (.ty "tuple")) aNil))) (eCB isiB (zA0 (eVar 4) (zA0 (eC (.ty "tuple")) aNil)))))) (sRet (eC (.bl false))) zB7)
  (sSeq (sIf (tOr (tB (eOp neK (eCB isiB (zA0 (eVar 3) (zA0 (eC (.ty "int")) aNil))) (eCB isiB (zA0 (eVar 4) (zA0 (eC (.ty "int")) aNil))))) (tB (eOp neK (eCB isiB (zA0 (eVar 3) (zA0 (eC (.ty "str")) aNil))) (eCB isiB (zA0 (eVar 4) (zA0 (eC (.ty "str")) aNil)))))) (sRet (eC (.bl false))) zB7)
  (sIf (tTru (eCB isiB (zA0 (eVar 4) (zA0 (eC (.ty "tuple")) aNil)))) (sSeq (sIf (tB (eOp neK (eCB lenB (zA0 (eVar 3) aNil)) (eCB lenB (zA0 (eVar 4) aNil)))) (sRet (eC (.bl false))) zB7)
  (zMy (eMt "list" zG4 (eVar 2) (zA0 (eCB zipT (zA0 (eVar 3) (zA0 (eVar 4) aNil))) aNil)))) (sIf (tB (eOp neK (eVar 3) (eVar 4))) (sRet (eC (.bl false))) zB7)))))
theorem zYy {S:Store}{a b o3 o4:Option D}{l:List D}{d:D}(hd:nz d=true) (hz:szL l+sz d<=100000):∃m,nzL m=true/\szL m+1=sz d/\aB [a,b,some (.ref S.length),o3,o4] (S++[.lst ((l++[d]).map dbl)])=.nx [a,b,some (.ref S.length),some d,some d] (S++[.lst ((l++m).map dbl)]):=by
 have ty:tyD (S++[D.lst ((l++[d]).map dbl)]) (.ref S.length)=some "list":=ty_D zD7
 have pp:popM (S++[D.lst ((l++[d]).map dbl)]) (.ref S.length) []=some (dbl d,S++[D.lst (l.map dbl)]):=by
  unfold popM
  dsimp only
  rw[zD7]
  dsimp only
  rw[zJ0,vU,xI,show([d].map dbl).length=1 from rfl,Nat.add_sub_cancel,ve (xh _),Nat.sub_self]
  show some (dbl d,S++[D.lst ((l.map dbl++[dbl d]).dropLast)])=_
  rw[List.dropLast_concat]
 have x1:sUnp (gTup [(gName 3),(gName 4)]) (eMt "list" popM (eVar 2) aNil) [a,b,some (.ref S.length),o3,o4] (S++[D.lst ((l++[d]).map dbl)])=.nx [a,b,some (.ref S.length),some d,some d] (S++[D.lst (l.map dbl)]):=by
  simp_arith [eMt,ty,pp]
 generalize hS:S++[D.lst (l.map dbl)]=S1 at x1
 have ty1:tyD S1 (.ref S.length)=some "list":=by rw[<- hS];exact ty_D zD7
 cases d with
 | int n=>
  refine⟨[],rfl,rfl,zAb x1 (zAb (e:=[a,b,some (.ref S.length),some (.int n),some (.int n)]) (S1:=S1) (zCj (by simp_arith [i_ib,i_it,nk_b]) rfl) (zAb (e:=[a,b,some (.ref S.length),some (.int n),some (.int n)]) (S1:=S1) (zCj (by simp_arith [i_ii,i_is,nk_b]) rfl) (zCj (by simp_arith [tTru,i_it,tru]) (zCj (by simp_arith [nk_i]) ?_))))⟩
  rw[vQ,hS]
  rfl
 | str n=>
  refine⟨[],rfl,rfl,zAb x1 (zAb (e:=[a,b,some (.ref S.length),some (.str n),some (.str n)]) (S1:=S1) (zCj (by simp_arith [i_sb,i_st,nk_b]) rfl) (zAb (e:=[a,b,some (.ref S.length),some (.str n),some (.str n)]) (S1:=S1) (zCj (by simp_arith [i_si,i_ss,nk_b]) rfl) (zCj (by simp_arith [tTru,i_st,tru]) (zCj (by simp_arith [nk_s]) ?_))))⟩
  rw[vQ,hS]
  rfl
 | tup m=>
  have lm:=zIw m
  have ll:=zIw l
  have es:sz (.tup m)=szL m+1:=by rw[sz]
  have zp:zipT S1 [.tup m,.tup m]=some (.lst (m.map dbl)):=by
   show some (D.lst ((m.zip m).map fun p=>.tup [p.1,p.2]))=_
   rw[zSz]
  have ex:zG4 S1 (.ref S.length) [.lst (m.map dbl)]=some (.non,S++[D.lst ((l++m).map dbl)]):=by
   unfold zG4
   dsimp only
   rw[xg (by intro z;cases z),<- hS,zD7,show litems (S++[D.lst (l.map dbl)]) (.lst (m.map dbl))=some (m.map dbl)from rfl]
   dsimp only
   rw[xc (xn (show _<=200000 by rw[xm,xm];lia) (by decide)),zJ0,vU]
  refine⟨m,by rw[nz]at hd;exact hd,es.symm,zAb x1 (zAb (e:=[a,b,some (.ref S.length),some (.tup m),some (.tup m)]) (S1:=S1) (zCj (by simp_arith [i_tb,i_tt,nk_b]) rfl) (zAb (e:=[a,b,some (.ref S.length),some (.tup m),some (.tup m)]) (S1:=S1) (zCj (by simp_arith [i_ti,i_ts,nk_b]) rfl) (zHq (by simp_arith [tTru,i_tt,tru]) (zAb (e:=[a,b,some (.ref S.length),some (.tup m),some (.tup m)]) (S1:=S1) (zCj (by simp_arith [zUj,nk_i]) rfl) ?_))))⟩
  simp_arith [eMt,ty1,zp,ex]
 | _=>cases hd
theorem zLf {S:Store}{c:Nat}{l:List D}(h:S[c]?=some (.lst l)):lenB S [.ref c]=some (.int (l.length:Nat)):=by
 unfold lenB
 dsimp only
 rw[show look S (.ref c)=some (.lst l)from h]
theorem zMs {S:Store}{d:D}(hd:nz d=true) (hz:sz d<=100000):zAm [d,d] S=.ok (.bl true) S:=by
 obtain⟨env',S',e,l,o3,o4,rfl,rfl,hn,hs,_⟩:=zKy (c:=tB (eOp gtD (eCB lenB (zA0 (eVar 2) aNil)) (eC (.int 0)))) (b:=aB) (fun n env S'=>∃(l:List D) (o3 o4:Option D),env=[some d,some d,some (.ref S.length),o3,o4]/\S++[D.lst (l.map dbl)]=S'/\nzL l=true/\szL l=n/\n<=100000) (fun env S' h=>by
   obtain⟨l,o3,o4,rfl,rfl,_,hs,_⟩:=h
   have l0:l=[]:=uz (by have:=zIw l;lia)
   subst l0
   have ln:lenB (S++[D.lst []]) [.ref S.length]=some (.int ((0:Nat):Int)):=zLf zD7
   have g:∀S,gtD S (.int ((0:Nat):Int)) (.int 0)=some (.bl false):=fun _=>rfl
   simp_arith [ln,g]) (fun n env S' h=>by
   obtain⟨l,o3,o4,rfl,rfl,hn,hs,hb⟩:=h
   have lne:l≠[]:=fun z=>by subst z;rw[szL]at hs;lia
   obtain⟨l',d',rfl⟩:∃l' d',l=l'++[d']:=⟨l.dropLast,l.getLast lne,(List.dropLast_concat_getLast lne).symm⟩
   rw[zLb,xF]at hn
   rw[zL3]at hs
   have s1:szL [d']=sz d':=by rw[szL,szL];lia
   have n1:nz d'=true:=by have:=hn.2;rw[nzL,nzL,Bool.and_true]at this;exact this
   obtain⟨m,nm',sm',e⟩:=zYy (S:=S) (a:=some d) (b:=some d) (o3:=o3) (o4:=o4) (l:=l') n1 (by nofun)
   have ln:lenB (S++[D.lst ((l'++[d']).map dbl)]) [.ref S.length]=some (.int ((l'.length+1:Nat):Int)):=by rw[zLf zD7,xm,xI];rfl
   have g:∀S,gtD S (.int ((l'.length+1:Nat):Int)) (.int 0)=some (.bl true):=fun _=>by rw[gt_int,xl (by nofun)]
   refine⟨?_,_,_,szL l'+szL m,e,by nofun,l'++m,_,_,rfl,rfl,by rw[zLb,hn.1,nm'];rfl,zL3 _ _,by nofun⟩
   generalize S++[D.lst ((l'++[d']).map dbl)]=S1 at ln
   simp_arith [ln,g]) (sz d) ⟨[d],none,none,rfl,rfl,by rw[nzL,nzL,hd];rfl,by rw[szL,szL];lia,hz⟩
 refine zNk (T:=[D.lst (l.map dbl)]) rfl ?_ rfl
 refine zAb (e:=[some d,some d,some (.ref S.length),none,none]) (S1:=S++[D.lst ([d].map dbl)]) (by simp_arith [eNew]) (zAb e ?_)
 simp_arith [xy]
end
end DP
namespace DP
open DS TX
open PySem (Str)
noncomputable section
open Classical
noncomputable abbrev sN:Str:=Str.ofString "\n"
noncomputable abbrev sS:Str:=Str.ofString " | "
noncomputable abbrev sL:Str:=Str.ofString "/"
theorem eN:sN=⟨#[10]⟩:=by rfl
theorem eL:sL=⟨#[47]⟩:=by rfl
theorem lsS:ls sS=[32,124,32]:=by rfl
theorem lsL:ls sL=[47]:=by rfl
theorem zFf (c:Nat) (ys:List Str):ls (PySem.Txt.join ⟨#[c]⟩ ys)=jn c (ys.map ls):=zFo c ys
noncomputable def said (r:List Pt):Str:=PySem.Txt.join sB (r.map wd)
noncomputable def pr (h:Pt) (r:List Pt):Str:=wd h++sS++said r
noncomputable def frT (f:Pt):Str:=if f.2=1 then tn f.1 else tn f.1++sL++tn f.2
theorem len_app (a b:Str):(a++b).length=a.length+b.length:=by rw[zE9,zE9,zE9,zBr,xI]
theorem zXb {c:Nat}:∀(l:List (List Nat)) (k:Nat),(∀x∈l,x.length<=k)->(jn c l).length<=(k+1)*l.length
 | [],k,_=>by simp[jn]
 | a::l,k,h=>by
  have ha:=h a (.head _)
  have:(l.flatMap fun p=>c::p).length<=(k+1)*l.length:=by
   have hl:∀x∈l,x.length<=k:=fun x hx=>h x (.tail _ hx)
   clear h ha
   induction l with
   | nil=>simp
   | cons b l ih=>
    have hb:=hl b (.head _)
    have:=ih fun x hx=>hl x (.tail _ hx)
    rw[List.flatMap_cons,xI,xE,xE,Nat.mul_add]
    lia
  rw[jn,xI,xE,Nat.mul_add]
  lia
theorem zEy {c:Nat}{ys:List Str}{k:Nat}(h:∀y∈ys,y.length<=k):(PySem.Txt.join ⟨#[c]⟩ ys).length<=(k+1)*ys.length:=by
 rw[zE9,zFf]
 have:=zXb (c:=c) (ys.map ls) k fun x hx=>by
  obtain⟨y,hy,rfl⟩:=xG.mp hx
  have:=h y hy
  rw[zE9]at this
  exact this
 rw[xm]at this
 exact this
theorem zNr {k:Nat}:∀{ys:List Str},(∀y∈ys,y.length<=k)->(ys.map fun y:Str=>y.length).sum<=k*ys.length
 | [],_=>by simp
 | y::ys,h=>by
  have h1:=h y (.head _)
  have:=zNr (ys:=ys) fun z hz=>h z (.tail _ hz)
  rw[xw,List.sum_cons,xE,Nat.mul_add]
  lia
structure Row (r:List Pt):Prop where
 ne:r≠[]
 ln:r.length<=40
 bd:∀p∈r,Bp p
theorem zKz {r:List Pt}(h:∀p∈r,Bp p):∀y∈r.map wd,y.length<=83:=fun y hy=>by
 obtain⟨p,hp,rfl⟩:=xG.mp hy
 exact(zIu (h p hp)).2
theorem zH4 {r:List Pt}(h:∀p∈r,Bp p) (hl:r.length<=40):(said r).length<=3360:=by
 have:=zEy (c:=32) (zKz h)
 rw[xm]at this
 have:(said r).length<=(83+1)*r.length:=this
 lia
theorem zKb {S:Store}{sep:Str}{r:List Str}{k:Nat}(h1:sep.length<=16) (h:∀y∈r,y.length<=k) (hk:k<=10000) (hl:r.length<=100):joinM S (.str sep) [.lst (r.map D.str)]=some (.str (PySem.Txt.join sep r),S):=by
 refine zOv h1 ?_
 have:=zNr h
 have:k*r.length<=10000*100:=Nat.mul_le_mul hk hl
 lia
theorem zY0 (p:Pt):tn p.1++sC++tn p.2=wd p:=zCt (by rw[zBr,zBr,zRe,zG2,zG2];show nm p.1++[44]++nm p.2=_;simp)
theorem zKv {a b c:Str}(h:a.length+b.length<=1000000) (e:a++b=c):(if a.length+b.length<=most then some (D.str (a++b))else none)=some (.str c):=by rw[add_str h,e]
theorem lsaid {S:Store}{d:D}{r:List Pt}(hw:∀S,zFl S d=some ⟨r.map cel,[]⟩) (h:∀p∈r,Bp p) (hl:r.length<=40):zAe [d] S=.ok (.str (said r)) S:=by
 refine zAj rfl ?_ rfl
 have wk:iVal (eVar 0) [some d] S=.ok ⟨r.map cel,[]⟩ S:=by
  rw[iVal]
  show lift (zFl S d) S=_
  rw[hw];rfl
 have c:(zAl 2 [] (iVal (eVar 0)) (gTup [(gName 0),(gName 1)]) tYes (eOp addD (eOp addD (eCB strI (zA0 (eVar 0) aNil)) (eC (.str (PySem.Str.ofString ",")))) (eCB strI (zA0 (eVar 1) aNil)))) [some d] S=.ok (.lst (r.map fun p=>.str (wd p))) S:=by
  refine zBq (xs:=r) (h:=cel) (gd:=[]) (fun env=>∃o p,env=[o,p]) wk zAu ⟨none,none,rfl⟩ (xn hl (by decide)) ?_
  rintro p hp env ⟨o,q,rfl⟩
  have b:=h p hp
  have l1:=zD9 b.x
  have l2:=zD9 b.y
  have a1:=add_str (a:=tn p.1) (b:=PySem.Str.ofString ",") (by show _+1<=_;lia)
  have a2:=zKv (a:=tn p.1++PySem.Str.ofString ",") (b:=tn p.2) (by rw[len_app];show _+1+_<=_;lia) (zY0 p)
  exact⟨[some (.int p.1),some (.int p.2)],by simp_arith [xy],⟨_,_,rfl⟩,by simp_arith [zHa b.x,zHa b.y,a1,a2]⟩
 have j:=zKb (S:=S) (sep:=sB) (by decide) (zKz h) (by decide) (show(r.map wd).length<=100 by rw[xm];lia)
 rw[xM]at j
 show(sRet (eMt "str" joinM _ (zA0 _ aNil))) [some d] S=_
 rw[sRet,zCh (z:=Str.ofString " ") (r:=.str (said r)) rfl (zBk c) j]
 rfl
theorem zSf {S:Store}{r:List Pt}(h:Row r):zAe [rowD r] S=.ok (.str (said r)) S:=lsaid (fun _=>rfl) h.bd h.ln
theorem zSg {S:Store}{p:Pt}(h:Bp p):zAe [.lst [cel p]] S=.ok (.str (wd p)) S:=by
 have e:=lsaid (S:=S) (d:=.lst [cel p]) (r:=[p]) (fun _=>rfl) (fun q hq=>by rw[xJ.mp hq];exact h) (vm rfl)
 rw[e]
 rfl
theorem zMl {S:Store}{r:List Pt}(h:∀p∈r,Bp p) (hl:r.length<=40):zBt [rowD r] S=.ok (.str (said r)) S:=by
 refine zAj rfl ?_ rfl
 have c:(zAl 1 [] (iVal (eVar 0)) (gName 0) tYes (zA7 zB8 (zA0 (eVar 0) aNil))) [some (rowD r)] S=.ok (.lst (r.map fun p=>.str (wd p))) S:=by
  refine zBq (xs:=r) (h:=cel) (gd:=[]) (fun env=>∃o,env=[o]) (zFg rfl) zAu ⟨none,rfl⟩ (xn hl (by decide)) ?_
  rintro p hp env ⟨o,rfl⟩
  exact⟨[some (cel p)],rfl,⟨_,rfl⟩,by simp_arith [zIg (h p hp)]⟩
 have j:=zKb (S:=S) (sep:=sB) (by decide) (zKz h) (by decide) (show(r.map wd).length<=100 by rw[xm];lia)
 rw[xM]at j
 show(sRet (eMt "str" joinM _ (zA0 _ aNil))) [some (rowD r)] S=_
 rw[sRet,zCh (z:=Str.ofString " ") (r:=.str (said r)) rfl (zBk c) j]
 rfl
theorem zSj {h:Pt}{r:List Pt}(hh:Bp h) (hr:Row r):(pr h r).length<=3446:=by
 have l1:=zIu hh
 have l2:=zH4 hr.bd hr.ln
 rw[pr,len_app,len_app]
 show _+3+_<=_
 lia
theorem zQ0 {h:Pt}{r:List Pt}(hh:Bp h) (hr:Row r):(if(wd h).length+(PySem.Str.ofString " | ").length<=most then some (D.str (wd h++PySem.Str.ofString " | "))else none)=some (.str (wd h++PySem.Str.ofString " | "))/\(if(wd h++PySem.Str.ofString " | ").length+(said r).length<=most then some (D.str (wd h++PySem.Str.ofString " | "++said r))else none)=some (.str (pr h r)):=by
 have l1:=zIu hh
 have l2:=zH4 hr.bd hr.ln
 exact⟨add_str (by show _+3<=_;lia),zKv (by rw[len_app];show _+3+_<=_;lia) rfl⟩
noncomputable abbrev zEh (rs:List (List Pt)):D:=.tup (rs.map rowD)
structure Prs (hs:List Pt) (rs:List (List Pt)):Prop where
 eq:hs.length=rs.length
 ln:rs.length<=12
 h:∀p∈hs,Bp p
 r:∀r∈rs,Row r
theorem Prs.mem {hs:List Pt}{rs:List (List Pt)}(h:Prs hs rs) {a:Pt × List Pt}(ha:a∈hs.zip rs):Bp a.1/\Row a.2:=⟨h.h _ (uf ha).1,h.r _ (uf ha).2⟩
noncomputable def prs (hs:List Pt) (rs:List (List Pt)):List Str:=(hs.zip rs).map fun a=>pr a.1 a.2
theorem zipD {S:Store}{hs:List Pt}{rs:List (List Pt)}:zipW true true S [rowD hs,zEh rs]=some ⟨(hs.zip rs).map fun a=>.tup [cel a.1,rowD a.2],[]⟩:=by
 show(if true=true/\true=true then some (Walk.mk (((hs.map cel).zip (rs.map rowD)).map fun p=>D.tup [p.1,p.2]) ([]++[]))else none)=_
 rw[xc ⟨rfl,rfl⟩,List.zip_map,xM]
 rfl
theorem zM7 {k:Nat}:∀(l:List Str),lowL k (l.map D.str)=true
 | []=>rfl
 | p::l=>by show((D.str p).low k && lowL k (l.map D.str))=true;rw[zM7 l];rfl
theorem zM1 {S:Store}{hs:List Pt}{rs:List (List Pt)}(h:Prs hs rs):zBg [rowD hs,zEh rs] S=.ok (.lst ((prs hs rs).map D.str)) S:=by
 refine zAj rfl ?_ ?_
 ·have c:(zAl 2 [] (iZp true true (zA0 (eVar 0) (zA0 (eVar 1) aNil))) (gTup [(gName 0),(gName 1)]) tYes (eOp addD (eOp addD (zA7 zB8 (zA0 (eVar 0) aNil)) (eC (.str (PySem.Str.ofString " | ")))) (zA7 zBt (zA0 (eVar 1) aNil)))) [some (rowD hs),some (zEh rs)] S=.ok (.lst ((hs.zip rs).map fun a=>.str (pr a.1 a.2))) S:=by
   refine zBq (xs:=hs.zip rs) (h:=fun a=>.tup [cel a.1,rowD a.2]) (gd:=[]) (fun env=>∃o p,env=[o,p]) (by simp_arith [iZp,zipD]) zAu ⟨none,none,rfl⟩ (xn (show _<=100 by rw[xZ];have:=h.ln;lia) (by decide)) ?_
   rintro a ha env ⟨o,q,rfl⟩
   obtain⟨b1,b2⟩:=h.mem ha
   have ad:=zQ0 b1 b2
   exact⟨[some (cel a.1),some (rowD a.2)],by simp_arith [xy],⟨_,_,rfl⟩,by simp_arith [zIg b1,zMl b2.bd b2.ln,ad.1,ad.2]⟩
  show(sRet _) [some (rowD hs),some (zEh rs)] S=_
  rw[sRet,c,prs,xM]
  rfl
 ·exact zM7 _
end
end DP
namespace DP
open DS TX
open PySem (Str)
noncomputable section
open Classical
structure Frc (f:Pt):Prop where
 u:Bn f.1
 l:Bn f.2
 pos:1<=f.2
 one:Nat.gcd f.1.natAbs f.2.natAbs=1
theorem zFh {f:Pt}(h:Frc f):1<=(frT f).length/\(frT f).length<=83:=by
 have l1:=zD9 h.u
 have l2:=zD9 h.l
 unfold frT
 split
 ·lia
 ·rw[len_app,len_app]
  show 1<=_+1+_/\_+1+_<=_
  lia
theorem zKf {S:Store}{a b:Int}:eqI S (.int a) (.int b)=some (.bl (decide (a=b))):=rfl
theorem zUu {S:Store}{f:Pt}(h:Frc f):zBs [cel f] S=.ok (.str (frT f)) S:=by
 refine zAj rfl ?_ rfl
 have l1:=zD9 h.u
 have l2:=zD9 h.l
 have q:=zKf (S:=S) (a:=f.2) (b:=1)
 refine zAb (e:=[some (cel f),some (.str (tn f.1))]) (S1:=S) (by simp_arith [zL4 h.u]) ?_
 unfold frT
 by_cases c:f.2=1
 ·rw[xl c]at q
  rw[xc c]
  simp_arith [q]
 ·rw[xq c]at q
  rw[xg c]
  have a1:=add_str (a:=tn f.1) (b:=PySem.Str.ofString "/") (by show _+1<=_;lia)
  have a2:=add_str (a:=tn f.1++PySem.Str.ofString "/") (b:=tn f.2) (by rw[len_app];show _+1+_<=_;lia)
  simp_arith [q,zL4 h.l,a1,a2]
noncomputable abbrev ptD (u w:Pt):D:=.tup [cel u,cel w]
noncomputable def ptT (u w:Pt):Str:=PySem.Txt.join sC [frT u,frT w]
theorem zJ2 {u w:Pt}(hu:Frc u) (hw:Frc w):(ptT u w).length<=168:=by
 have:=zEy (c:=44) (ys:=[frT u,frT w]) (k:=83) fun y hy=>by
  simp only[xi,xt,xu]at hy
  rcases hy with rfl|rfl
  ·exact(zFh hu).2
  ·exact(zFh hw).2
 exact this
theorem zQr {S:Store}{u w:Pt}(hu:Frc u) (hw:Frc w):zCq [ptD u w] S=.ok (.str (ptT u w)) S:=by
 refine zAj rfl ?_ rfl
 have c:(zAl 1 [] (iVal (eVar 0)) (gName 0) tYes (zA7 zBs (zA0 (eVar 0) aNil))) [some (ptD u w)] S=.ok (.lst ([u,w].map fun p=>.str (frT p))) S:=by
  refine zBq (xs:=[u,w]) (h:=cel) (gd:=[]) (fun env=>∃o,env=[o]) (zFg rfl) zAu ⟨none,rfl⟩ (show 2<=most by decide) ?_
  rintro p hp env ⟨o,rfl⟩
  have f:Frc p:=by
   simp only[xi,xt,xu]at hp
   rcases hp with rfl|rfl
   ·exact hu
   ·exact hw
  exact⟨[some (cel p)],rfl,⟨_,rfl⟩,by simp_arith [zUu f]⟩
 have j:=zKb (S:=S) (sep:=sC) (r:=[frT u,frT w]) (k:=83) (by decide) (fun y hy=>by
  simp only[xi,xt,xu]at hy
  rcases hy with rfl|rfl
  ·exact(zFh hu).2
  ·exact(zFh hw).2) (by decide) (show 2<=100 by decide)
 show(sRet (eMt "str" joinM _ (zA0 _ aNil))) [some (ptD u w)] S=_
 rw[sRet,zCh (z:=Str.ofString ",") (r:=.str (ptT u w)) rfl (zBk c) j]
 rfl
noncomputable abbrev sH:Str:=Str.ofString "heals"
noncomputable abbrev sV:Str:=Str.ofString "lives"
noncomputable abbrev sW:Str:=Str.ofString "lives "
noncomputable abbrev heD (rs:List (List Pt)) (hs:List Pt):D:=.tup [.str sH,zEh rs,rowD hs]
noncomputable abbrev liD (u w:Pt) (ring:List Pt) (a b:Pt) (rs:List (List Pt)):D:=.tup [.str sV,ptD u w,rowD ring,cel a,cel b,zEh rs]
noncomputable def heT (rs:List (List Pt)) (hs:List Pt):Str:=PySem.Txt.join sN (sH::prs hs rs)
noncomputable def liT (u w:Pt) (ring:List Pt) (a b:Pt) (rs:List (List Pt)):Str:=PySem.Txt.join sN ((sW++ptT u w)::said [a,b]::prs ring rs)
theorem zE2 {hs:List Pt}{rs:List (List Pt)}(h:Prs hs rs):(∀y∈prs hs rs,y.length<=3446)/\(prs hs rs).length<=12:=by
 refine⟨fun y hy=>?_,?_⟩
 ·obtain⟨a,ha,rfl⟩:=xG.mp hy
  obtain⟨b1,b2⟩:=h.mem ha
  exact zSj b1 b2
 ·unfold prs
  rw[xm,xZ]
  have:=h.ln
  lia
theorem zGf {S:Store}{a b:Str}:eqT S (.str a) (.str b)=some (.bl (decide (a=b))):=rfl
theorem zPn {S:Store}{l m:List D}(h:l.length+m.length<=100):addD S (.lst l) (.lst m)=some (.lst (l++m)):=by
 show(if l.length+m.length<=most then some (D.lst (l++m))else none)=_
 rw[xc (xn h (by decide))]
theorem zT9 {S:Store}{rs:List (List Pt)}{hs:List Pt}(h:Prs hs rs):zAr [heD rs hs] S=.ok (.str (heT rs hs)) S:=by
 refine zAj rfl ?_ rfl
 obtain⟨pl,pn⟩:=zE2 h
 have q:∀S,eqT S (.str sH) (.str (PySem.Str.ofString "heals"))=some (.bl true):=fun _=>by rw[zGf,xl rfl]
 have ct:addD S (.lst [.str sH]) (.lst ((prs hs rs).map D.str))=some (.lst ((sH::prs hs rs).map D.str)):=zPn (by rw[xm];show 1+_<=_;lia)
 have j:=zKb (S:=S) (sep:=sN) (r:=sH::prs hs rs) (k:=3446) (by decide) (fun y hy=>by
  rcases xi.mp hy with rfl|z
  ·decide
  ·exact pl y z) (by decide) (by rw[xE];lia)
 have x1:(sSet 1 (eOp addD (eLst (zA0 (eC (.str (PySem.Str.ofString "heals"))) aNil)) (zA7 zBg (zA0 (eOp ixD (eVar 0) (eC (.int 2))) (zA0 (eOp ixD (eVar 0) (eC (.int 1))) aNil))))) [some (heD rs hs),none] S=.nx [some (heD rs hs),some (.lst ((sH::prs hs rs).map D.str))] S:=by
  simp_arith [zM1 h]
  show((lift (addD S (.lst [.str sH]) (.lst ((prs hs rs).map D.str))) S).then _)=_
  rw[ct]
  rfl
 refine zAb (zHq (by simp_arith [q]) x1) ?_
 rw[sRet,zCh (z:=Str.ofString "\n") (r:=.str (heT rs hs)) rfl (zBk rfl) j]
 rfl
theorem bp2 {a b:Pt}(ha:Bp a) (hb:Bp b):∀p∈[a,b],Bp p:=fun p hp=>by
 simp only[xi,xt,xu]at hp
 rcases hp with rfl|rfl
 ·exact ha
 ·exact hb
theorem at5 {a b c d e f:D}{l:List D}:atL (a::b::c::d::e::f::l) 5=some f:=atN (k:=5) rfl rfl
theorem zVq:sW.length=6:=rfl
theorem cut35 {S:Store}{u w:Pt}{ring:List Pt}{a b:Pt}{rs:List (List Pt)}:slD S (liD u w ring a b rs) (some 3) (some 5)=some (rowD [a,b]):=rfl
theorem zY2 (x:Str):PySem.Str.ofString "lives"++PySem.Str.ofString " "++x=sW++x:=zCt (by rw[zBr,zBr,zBr];rfl)
noncomputable abbrev liR (u w:Pt) (ring:List Pt) (a b:Pt) (rs:List (List Pt)):List Str:=(sW++ptT u w)::said [a,b]::prs ring rs
theorem zJb {u w:Pt}{ring:List Pt}{a b:Pt}{rs:List (List Pt)}(hu:Frc u) (hw:Frc w) (ha:Bp a) (hb:Bp b) (h:Prs ring rs):(∀y∈liR u w ring a b rs,y.length<=3446)/\(liR u w ring a b rs).length<=14:=by
 obtain⟨pl,pn⟩:=zE2 h
 have l1:=zJ2 hu hw
 have l2:=zH4 (r:=[a,b]) (bp2 ha hb) (vm rfl)
 refine⟨fun y hy=>?_,by rw[xE,xE];lia⟩
 rcases xi.mp hy with rfl|z
 ·rw[len_app,zVq];lia
 ·rcases xi.mp z with rfl|z
  ·lia
  ·exact pl y z
theorem zT8 {S:Store}{u w:Pt}{ring:List Pt}{a b:Pt}{rs:List (List Pt)}(hu:Frc u) (hw:Frc w) (ha:Bp a) (hb:Bp b) (h:Prs ring rs):zAr [liD u w ring a b rs] S=.ok (.str (liT u w ring a b rs)) S:=by
 refine zAj rfl ?_ rfl
 obtain⟨pl,pn⟩:=zE2 h
 obtain⟨ll,ln⟩:=zJb hu hw ha hb h
 have lp:=zJ2 hu hw
 have q:∀S,eqT S (.str sV) (.str (PySem.Str.ofString "heals"))=some (.bl false):=fun _=>by rw[zGf,xq (by decide)]
 have ct:addD S (.lst [.str (sW++ptT u w),.str (said [a,b])]) (.lst ((prs ring rs).map D.str))=some (.lst ((liR u w ring a b rs).map D.str)):=zPn (by rw[xm];show 2+_<=_;lia)
 have j:=zKb (S:=S) (sep:=sN) (r:=liR u w ring a b rs) (k:=3446) (by decide) ll (by decide) (by nofun)
 have a1:=add_str (a:=PySem.Str.ofString "lives") (b:=PySem.Str.ofString " ") (vm rfl)
 have a2:=zKv (a:=PySem.Str.ofString "lives"++PySem.Str.ofString " ") (b:=ptT u w) (by rw[len_app];show 5+1+_<=_;lia) (zY2 _)
 have x1:(sSet 1 (eOp addD (eLst (zA0 (eOp addD (eOp addD (eC (.str (PySem.Str.ofString "lives"))) (eC (.str (PySem.Str.ofString " ")))) (zA7 zCq (zA0 (eOp ixD (eVar 0) (eC (.int 1))) aNil))) (zA0 (zA7 zBt (zA0 (eSl slD (eVar 0) (pYes (eC (.int 3))) (pYes (eC (.int 5)))) aNil)) aNil))) (zA7 zBg (zA0 (eOp ixD (eVar 0) (eC (.int 2))) (zA0 (eOp ixD (eVar 0) (eC (.int 5))) aNil))))) [some (liD u w ring a b rs),none] S=.nx [some (liD u w ring a b rs),some (.lst ((liR u w ring a b rs).map D.str))] S:=by
  simp_arith [at5,zM1 h,zQr hu hw,a1,a2,cut35,zMl (r:=[a,b]) (bp2 ha hb) (vm rfl)]
  show((lift (addD S (.lst [.str (sW++ptT u w),.str (said [a,b])]) (.lst ((prs ring rs).map D.str))) S).then _)=_
  rw[ct]
  rfl
 refine zAb (zCj (by simp_arith [q]) x1) ?_
 rw[sRet,zCh (z:=Str.ofString "\n") (r:=.str (liT u w ring a b rs)) rfl (zBk rfl) j]
 rfl
end
end DP
namespace DP
open DS TX
open PySem (Str)
noncomputable section
open Classical
theorem zHg {g:Store->D->D->Option D}{a b:EM}{env:Env}{S:Store}{x y z:D}(ha:a env S=.ok x S) (hb:b env S=.ok y S) (hg:g S x y=some z):eOp g a b env S=.ok z S:=by
 rw[eOp,ha,Rs.bind_ok,hb,Rs.bind_ok,hg];rfl
theorem zS8 {α β:Type}:∀(a:List α) (b:List β),b.zip a=(a.zip b).map Prod.swap
 | [],b=>by simp
 | _::_,[]=>rfl
 | x::a,y::b=>by rw[uo,uo,xw,<- zS8 a b];rfl
theorem zipR {S:Store}{hs:List Pt}{rs:List (List Pt)}:zipW true true S [zEh rs,rowD hs]=some ⟨(hs.zip rs).map fun a=>.tup [rowD a.2,cel a.1],[]⟩:=by
 show(if true=true/\true=true then some (Walk.mk (((rs.map rowD).zip (hs.map cel)).map fun p=>D.tup [p.1,p.2]) ([]++[]))else none)=_
 rw[xc ⟨rfl,rfl⟩,List.zip_map,xM]
 rw[zS8 hs rs,xM]
 rfl
theorem zRc {S:Store}{rs:List (List Pt)}{hs:List Pt}(h:Prs hs rs):zBv [heD rs hs] S=.ok (.str (heT rs hs)) S:=by
 refine zAj rfl ?_ rfl
 obtain⟨pl,pn⟩:=zE2 h
 have q:∀S,eqT S (.str sH) (.str (PySem.Str.ofString "heals"))=some (.bl true):=fun _=>by rw[zGf,xl rfl]
 have ct:addD S (.lst [.str sH]) (.lst ((prs hs rs).map D.str))=some (.lst ((sH::prs hs rs).map D.str)):=zPn (by rw[xm];show 1+_<=_;lia)
 have j:=zKb (S:=S) (sep:=sN) (r:=sH::prs hs rs) (k:=3446) (by decide) (fun y hy=>by
  rcases xi.mp hy with rfl|z
  ·decide
  ·exact pl y z) (by decide) (by rw[xE];lia)
 have c:(zAl 2 [] (iZp true true (zA0 (eOp ixD (eVar 0) (eC (.int 1))) (zA0 (eOp ixD (eVar 0) (eC (.int 2))) aNil))) (gTup [(gName 0),(gName 1)]) tYes (eOp addD (eOp addD (zA7 zAe (zA0 (eLst (zA0 (eVar 1) aNil)) aNil)) (eC (.str (PySem.Str.ofString " | ")))) (zA7 zAe (zA0 (eVar 0) aNil)))) [some (heD rs hs),none,none] S=.ok (.lst ((hs.zip rs).map fun a=>.str (pr a.1 a.2))) S:=by
  refine zBq (xs:=hs.zip rs) (h:=fun a=>.tup [rowD a.2,cel a.1]) (gd:=[]) (fun env=>∃o p,env=[o,p]) (by simp_arith [iZp,zipR]) zAu ⟨none,none,rfl⟩ (xn (show _<=100 by rw[xZ];have:=h.ln;lia) (by decide)) ?_
  rintro a ha env ⟨o,q,rfl⟩
  obtain⟨b1,b2⟩:=h.mem ha
  have ad:=zQ0 b1 b2
  exact⟨[some (rowD a.2),some (cel a.1)],by simp_arith [xy],⟨_,_,rfl⟩,by simp_arith [zSg b1,zSf b2,ad.1,ad.2]⟩
 have x1:(sSet 1 (zAl 2 [] (iZp true true (zA0 (eOp ixD (eVar 0) (eC (.int 1))) (zA0 (eOp ixD (eVar 0) (eC (.int 2))) aNil))) (gTup [(gName 0),(gName 1)]) tYes (eOp addD (eOp addD (zA7 zAe (zA0 (eLst (zA0 (eVar 1) aNil)) aNil)) (eC (.str (PySem.Str.ofString " | ")))) (zA7 zAe (zA0 (eVar 0) aNil))))) [some (heD rs hs),none,none] S=.nx [some (heD rs hs),some (.lst ((prs hs rs).map D.str)),none] S:=by
  rw[sSet,c,prs,xM]
  rfl
 have ad:eOp addD (eLst (zA0 (eC (.str (PySem.Str.ofString "heals"))) aNil)) (eVar 1) [some (heD rs hs),some (.lst ((prs hs rs).map D.str)),none] S=.ok (.lst ((sH::prs hs rs).map D.str)) S:=by
  show lift (addD S (.lst [.str sH]) (.lst ((prs hs rs).map D.str))) S=_
  rw[ct];rfl
 refine zHc (zHq (by simp_arith [q]) (zAb x1 ?_))
 rw[sRet,zCh (z:=Str.ofString "\n") (r:=.str (heT rs hs)) rfl (zBk ad) j]
 rfl
theorem zYm {S:Store}{z:Str}:mulS S (.str z) (.int 1)=some (.str z):=by show(if(1:Int)=1 then some (D.str z)else if(1:Int)=0 then some (D.str PySem.Str.empty)else none)=_;rw[xc rfl]
theorem mul_0 {S:Store}{z:Str}:mulS S (.str z) (.int 0)=some (.str PySem.Str.empty):=by show(if(0:Int)=1 then some (D.str z)else if(0:Int)=0 then some (D.str PySem.Str.empty)else none)=_;rw[xg (by decide),xc rfl]
theorem zRd {S:Store}{f:Pt}(h:Frc f):(eOp addD (eCB strI (zA0 (eVar 0) aNil)) (eOp mulS (eOp addD (eC (.str (PySem.Str.ofString "/"))) (eCB strI (zA0 (eVar 1) aNil))) (eCB intB (zA0 (eOp gtD (eVar 1) (eC (.int 1))) aNil)))) [some (.int f.1),some (.int f.2)] S=.ok (.str (frT f)) S:=by
 have l1:=zD9 h.u
 have l2:=zD9 h.l
 have pos:=h.pos
 have a1:=add_str (a:=PySem.Str.ofString "/") (b:=tn f.2) (by show 1+_<=_;lia)
 have g:gtD S (.int f.2) (.int 1)=some (.bl (decide (1<f.2))):=gt_int
 unfold frT
 by_cases c:f.2=1
 ·rw[xq (by nofun)]at g
  rw[xc c]
  have i0:intB S [.bl false]=some (.int 0):=rfl
  have a2:=zKv (a:=tn f.1) (b:=PySem.Str.empty) (c:=tn f.1) (by show _+0<=_;lia) (zPy (tn f.1))
  simp_arith [zHa h.u,zHa h.l,a1,g,i0,mul_0,a2]
 ·rw[xl (by nofun)]at g
  rw[xg c]
  have i1:intB S [.bl true]=some (.int 1):=rfl
  have a2:=zKv (a:=tn f.1) (b:=PySem.Str.ofString "/"++tn f.2) (c:=tn f.1++sL++tn f.2) (by rw[len_app];show _+(1+_)<=_;lia) (zCt (by rw[zBr,zBr,zBr,zBr,um]))
  simp_arith [zHa h.u,zHa h.l,a1,g,i1,zYm,a2]
theorem zRb {S:Store}{u w:Pt}{ring:List Pt}{a b:Pt}{rs:List (List Pt)}(hu:Frc u) (hw:Frc w) (ha:Bp a) (hb:Bp b) (h:Prs ring rs):zBv [liD u w ring a b rs] S=.ok (.str (liT u w ring a b rs)) S:=by
 refine zAj rfl ?_ rfl
 obtain⟨pl,pn⟩:=zE2 h
 obtain⟨ll,ln⟩:=zJb hu hw ha hb h
 have lp:=zJ2 hu hw
 have q:∀S,eqT S (.str sV) (.str (PySem.Str.ofString "heals"))=some (.bl false):=fun _=>by rw[zGf,xq (by decide)]
 have ct:addD S (.lst [.str (sW++ptT u w),.str (said [a,b])]) (.lst ((prs ring rs).map D.str))=some (.lst ((liR u w ring a b rs).map D.str)):=zPn (by rw[xm];show 2+_<=_;lia)
 have j:=zKb (S:=S) (sep:=sN) (r:=liR u w ring a b rs) (k:=3446) (by decide) ll (by decide) (by nofun)
 have c1:(zAl 2 [] (iVal (eOp ixD (eVar 0) (eC (.int 1)))) (gTup [(gName 0),(gName 1)]) tYes (eOp addD (eCB strI (zA0 (eVar 0) aNil)) (eOp mulS (eOp addD (eC (.str (PySem.Str.ofString "/"))) (eCB strI (zA0 (eVar 1) aNil))) (eCB intB (zA0 (eOp gtD (eVar 1) (eC (.int 1))) aNil))))) [some (liD u w ring a b rs),none,none] S=.ok (.lst ([u,w].map fun f=>.str (frT f))) S:=by
  refine zBq (xs:=[u,w]) (h:=cel) (gd:=[]) (fun env=>∃o p,env=[o,p]) (zFg rfl) zAu ⟨none,none,rfl⟩ (show 2<=most by decide) ?_
  rintro p hp env ⟨o,q,rfl⟩
  have f:Frc p:=by
   simp only[xi,xt,xu]at hp
   rcases hp with rfl|rfl
   ·exact hu
   ·exact hw
  exact⟨[some (.int p.1),some (.int p.2)],by simp_arith [xy],⟨_,_,rfl⟩,zRd f⟩
 have x1:=(show(sSet 2 (zAl 2 [] (iVal (eOp ixD (eVar 0) (eC (.int 1)))) (gTup [(gName 0),(gName 1)]) tYes (eOp addD (eCB strI (zA0 (eVar 0) aNil)) (eOp mulS (eOp addD (eC (.str (PySem.Str.ofString "/"))) (eCB strI (zA0 (eVar 1) aNil))) (eCB intB (zA0 (eOp gtD (eVar 1) (eC (.int 1))) aNil)))))) [some (liD u w ring a b rs),none,none] S=.nx [some (liD u w ring a b rs),none,some (.lst [.str (frT u),.str (frT w)])] S by rw[sSet,c1];rfl)
 have j2:=zKb (S:=S) (sep:=sC) (r:=[frT u,frT w]) (k:=83) (by decide) (fun y hy=>by
  simp only[xi,xt,xu]at hy
  rcases hy with rfl|rfl
  ·exact(zFh hu).2
  ·exact(zFh hw).2) (by decide) (show 2<=100 by decide)
 have m2:eMt "str" joinM (eC (.str (PySem.Str.ofString ","))) (zA0 (eVar 2) aNil) [some (liD u w ring a b rs),none,some (.lst [.str (frT u),.str (frT w)])] S=.ok (.str (ptT u w)) S:=zCh (z:=Str.ofString ",") rfl (zBk rfl) j2
 have a2:addD S (.str (PySem.Str.ofString "lives ")) (.str (ptT u w))=some (.str (sW++ptT u w)):=add_str (by show 6+_<=_;lia)
 have sd:zAe [rowD [a,b]] S=.ok (.str (said [a,b])) S:=lsaid (fun _=>rfl) (bp2 ha hb) (vm rfl)
 have x2:(sSet 1 (eLst (zA0 (eOp addD (eC (.str (PySem.Str.ofString "lives "))) (eMt "str" joinM (eC (.str (PySem.Str.ofString ","))) (zA0 (eVar 2) aNil))) (zA0 (zA7 zAe (zA0 (eSl slD (eVar 0) (pYes (eC (.int 3))) (pYes (eC (.int 5)))) aNil)) aNil)))) [some (liD u w ring a b rs),none,some (.lst [.str (frT u),.str (frT w)])] S=.nx [some (liD u w ring a b rs),some (.lst [.str (sW++ptT u w),.str (said [a,b])]),some (.lst [.str (frT u),.str (frT w)])] S:=by
  have z1:eOp addD (eC (.str (PySem.Str.ofString "lives "))) (eMt "str" joinM (eC (.str (PySem.Str.ofString ","))) (zA0 (eVar 2) aNil)) [some (liD u w ring a b rs),none,some (.lst [.str (frT u),.str (frT w)])] S=.ok (.str (sW++ptT u w)) S:=by
   rw[eOp,DS.eC,Rs.bind_ok,m2,Rs.bind_ok,a2];rfl
  have z2:zA7 zAe (zA0 (eSl slD (eVar 0) (pYes (eC (.int 3))) (pYes (eC (.int 5)))) aNil) [some (liD u w ring a b rs),none,some (.lst [.str (frT u),.str (frT w)])] S=.ok (.str (said [a,b])) S:=by simp_arith [cut35,sd]
  rw[sSet,eLst,zA0,z1,Rs.bind_ok,zBk z2]
  rfl
 have c2:(zAl 2 [] (iZp true true (zA0 (eOp ixD (eVar 0) (eC (.int 2))) (zA0 (eOp ixD (eVar 0) (eC (.int 5))) aNil))) (gTup [(gName 0),(gName 1)]) tYes (eOp addD (eOp addD (zA7 zAe (zA0 (eLst (zA0 (eVar 0) aNil)) aNil)) (eC (.str (PySem.Str.ofString " | ")))) (zA7 zAe (zA0 (eVar 1) aNil)))) [some (liD u w ring a b rs),some (.lst [.str (sW++ptT u w),.str (said [a,b])]),some (.lst [.str (frT u),.str (frT w)])] S=.ok (.lst ((ring.zip rs).map fun a=>.str (pr a.1 a.2))) S:=by
  refine zBq (xs:=ring.zip rs) (h:=fun a=>.tup [cel a.1,rowD a.2]) (gd:=[]) (fun env=>∃o p,env=[o,p]) (by simp_arith [iZp,at5,zipD]) zAu ⟨none,none,rfl⟩ (xn (show _<=100 by rw[xZ];have:=h.ln;lia) (by decide)) ?_
  rintro a ha env ⟨o,q,rfl⟩
  obtain⟨b1,b2⟩:=h.mem ha
  have ad:=zQ0 b1 b2
  exact⟨[some (cel a.1),some (rowD a.2)],by simp_arith [xy],⟨_,_,rfl⟩,by simp_arith [zSg b1,zSf b2,ad.1,ad.2]⟩
 refine zAb (e:=[some (liD u w ring a b rs),none,none]) (S1:=S) (zCj (by simp_arith [q]) rfl) (zAb x1 (zAb x2 ?_))
 have ad:eOp addD (eVar 1) (zAl 2 [] (iZp true true (zA0 (eOp ixD (eVar 0) (eC (.int 2))) (zA0 (eOp ixD (eVar 0) (eC (.int 5))) aNil))) (gTup [(gName 0),(gName 1)]) tYes (eOp addD (eOp addD (zA7 zAe (zA0 (eLst (zA0 (eVar 0) aNil)) aNil)) (eC (.str (PySem.Str.ofString " | ")))) (zA7 zAe (zA0 (eVar 1) aNil)))) [some (liD u w ring a b rs),some (.lst [.str (sW++ptT u w),.str (said [a,b])]),some (.lst [.str (frT u),.str (frT w)])] S=.ok (.lst ((liR u w ring a b rs).map D.str)) S:=by
  rw[show((ring.zip rs).map fun a=>D.str (pr a.1 a.2))=(prs ring rs).map D.str by rw[prs,xM];rfl]at c2
  exact zHg rfl c2 ct
 rw[sRet,zCh (z:=Str.ofString "\n") (r:=.str (liT u w ring a b rs)) rfl (zBk ad) j]
 rfl
end
end DP
namespace DP
open DS TX
open PySem (Str)
noncomputable section
open Classical
theorem zMw {r:List Pt}(h:r≠[]):PySem.Txt.split (said r) sB=r.map wd:=by
 cases r with
 | nil=>exact absurd rfl h
 | cons p ps=>
  rw[eB,xw]
  refine zDx (show ls (PySem.Txt.join ⟨#[32]⟩ ((p::ps).map wd))=_ from zFf _ _) fun q hq=>?_
  obtain⟨r,_,rfl⟩:=xG.mp (show q∈(p::ps).map wd from hq)
  intro m
  have:=zIt m
  lia
theorem zSk {S:Store}{r:List Pt}:inN S .non (rowD r)=some (.bl false):=by
 show(if ∀d∈r.map cel,∃m,d=.tup m then some (D.bl false)else none)=_
 rw[xc fun d hd=>by obtain⟨p,_,rfl⟩:=xG.mp hd;exact⟨_,rfl⟩]
theorem zPl {S:Store}{r:List Pt}(ne:r≠[]) (h:∀p∈r,Bp p) (hl:r.length<=40):zDs [.str (said r)] S=.ok (rowD r) S:=by
 refine zAj rfl ?_ (zBo _)
 have sl:=zH4 h hl
 have sp:=zDy (S:=S) (z:=said r) (y:=Str.ofString " ") (ys:=r.map wd) (by decide) (by nofun) (zMw ne) (by rw[xm];lia)
 have wk:iVal (eMt "str" splitM (eVar 0) (zA0 (eC (.str (PySem.Str.ofString " "))) aNil)) [some (.str (said r)),none] S=.ok ⟨r.map fun p=>.str (wd p),[]⟩ S:=by
  refine zFn ?_
  rw[zCh (z:=said r) rfl (zBk rfl) sp,xM]
  rfl
 have c:(zAl 1 [] (iVal (eMt "str" splitM (eVar 0) (zA0 (eC (.str (PySem.Str.ofString " "))) aNil))) (gName 0) tYes (zA7 zB9 (zA0 (eVar 0) (zA0 (eC (.int 2)) (zA0 (eC (.int 40)) aNil))))) [some (.str (said r)),none] S=.ok (.lst (r.map cel)) S:=by
  refine zBq (xs:=r) (h:=fun p=>.str (wd p)) (gd:=[]) (fun env=>∃o,env=[o]) wk zAu ⟨none,rfl⟩ (xn hl (by decide)) ?_
  rintro x hx env ⟨o,rfl⟩
  exact⟨[some (.str (wd x))],rfl,⟨_,rfl⟩,by simp_arith [zJw (h x hx)]⟩
 have x2:sSet 1 (eCB zC2 (zA0 (zAl 1 [] (iVal (eMt "str" splitM (eVar 0) (zA0 (eC (.str (PySem.Str.ofString " "))) aNil))) (gName 0) tYes (zA7 zB9 (zA0 (eVar 0) (zA0 (eC (.int 2)) (zA0 (eC (.int 40)) aNil))))) aNil)) [some (.str (said r)),none] S=.nx [some (.str (said r)),some (rowD r)] S:=by
  rw[sSet,eCB,zBk c,Rs.bind_ok]
  rfl
 refine zAb x2 ?_
 simp_arith [zSk]
theorem zOa {S:Store}{z y a b:Str}(h0:0<y.length) (h1:z.length<=100000) (e:PySem.Txt.partition z y=(a,y,b)):zL6 S (.str z) [.str y]=some (.tup [.str a,.str y,.str b],S):=by
 show(if 0<y.length/\z.length<=100000 then some (D.tup [.str (PySem.Txt.partition z y).1,.str (PySem.Txt.partition z y).2.1,.str (PySem.Txt.partition z y).2.2],S)else none)=_
 rw[e,xc ⟨h0,h1⟩]
theorem is_t {S:Store}{l:List D}:isD S (.tup l) .non=some (.bl false):=rfl
theorem zWq {S:Store}{h:Pt}{r:List Pt}(hh:Bp h) (hr:Row r):zEm [.str (pr h r)] S=.ok (.tup [cel h,rowD r]) S:=by
 refine zAj rfl ?_ (by show((cel h).low S.length && (lowL S.length (r.map cel) && true))=true;rw[zBo];rfl)
 have pl:=zSj hh hr
 have pt:=zOa (S:=S) (z:=pr h r) (y:=sS) (by decide) (by nofun) (part_of (a:=wd h) (b:=said r) (c:=32) (r:=[124,32]) (by rw[pr,zBr,zBr]) lsS (fun m=>by have:=zIt m;lia))
 have x1:sSet 1 (eMt "str" zL6 (eVar 0) (zA0 (eC (.str (PySem.Str.ofString " | "))) aNil)) [some (.str (pr h r)),none,none,none] S=.nx [some (.str (pr h r)),some (.tup [.str (wd h),.str sS,.str (said r)]),none,none] S:=by
  rw[sSet,zCh (z:=pr h r) rfl (zBk rfl) pt]
  rfl
 refine zAb x1 (zAb (e:=[some (.str (pr h r)),some (.tup [.str (wd h),.str sS,.str (said r)]),some (cel h),none]) (S1:=S) (by simp_arith [zJw hh]) (zAb (e:=[some (.str (pr h r)),some (.tup [.str (wd h),.str sS,.str (said r)]),some (cel h),some (rowD r)]) (S1:=S) (by simp_arith [zPl hr.ne hr.bd hr.ln]) ?_))
 simp_arith [is_t]
theorem zQf {f:Pt}:PySem.Txt.split (frT f) sL=if f.2=1 then [tn f.1]else [tn f.1,tn f.2]:=by
 have no:∀n:Int,47 ∉ ls (tn n):=fun n m=>by rw[zG2]at m;have:=zHl m;lia
 unfold frT
 rw[eL]
 by_cases c:f.2=1
 ·rw[xc c,xc c]
  exact zDx (by simp[jn]) fun q hq=>by rw[xJ.mp hq];exact no _
 ·rw[xg c,xg c]
  refine zDx (by rw[zBr,zBr];simp[jn];rfl) fun q hq=>?_
  simp only[xi,xt,xu]at hq
  rcases hq with rfl|rfl <;> exact no _
theorem zXl {S:Store}{f:Pt}(h:Frc f):zBz [.str (frT f)] S=.ok (cel f) S:=by
 refine zAj rfl ?_ rfl
 have fl:=zFh h
 have sp0:=zQf (f:=f)
 have q1:=zKf (S:=S) (a:=1) (b:=1)
 have q2:=zKf (S:=S) (a:=2) (b:=1)
 rw[xl rfl]at q1
 rw[xq (by decide)]at q2
 by_cases c:f.2=1
 ·rw[xc c]at sp0
  have sp:=zDy (S:=S) (z:=frT f) (y:=Str.ofString "/") (ys:=[tn f.1]) (by decide) (by nofun) sp0 (vm rfl)
  have x1:sSet 1 (eMt "str" splitM (eVar 0) (zA0 (eC (.str (PySem.Str.ofString "/"))) aNil)) [some (.str (frT f)),none,none,none] S=.nx [some (.str (frT f)),some (.lst [.str (tn f.1)]),none,none] S:=by
   rw[sSet,zCh (z:=frT f) rfl (zBk rfl) sp]
   rfl
  have cm:(zAl 1 [] (iVal (eVar 1)) (gName 0) tYes (zA7 zB3 (zA0 (eVar 0) (zA0 (eC (.int 40)) aNil)))) [some (.str (frT f)),some (.lst [.str (tn f.1)]),none,none] S=.ok (.lst ([f.1].map fun n=>.bl (decide (Bn n)))) S:=by
   refine zBq (xs:=[f.1]) (h:=fun n=>.str (tn n)) (gd:=[]) (fun env=>∃o,env=[o]) (zFn rfl) zAu ⟨none,rfl⟩ (show 1<=most by decide) ?_
   rintro x hx env ⟨o,rfl⟩
   have b:Bn x:=by rw[xJ.mp hx];exact h.u
   refine⟨[some (.str (tn x))],rfl,⟨_,rfl⟩,?_⟩
   rw[xl b]
   simp_arith [zOh b]
  have al:=zMr (S:=S) (p:=fun n:Int=>Bn n) [f.1]
  rw[xl fun n hn=>by rw[xJ.mp hn];exact h.u]at al
  have t2:tTru (eCB allB (zA0 (zAl 1 [] (iVal (eVar 1)) (gName 0) tYes (zA7 zB3 (zA0 (eVar 0) (zA0 (eC (.int 40)) aNil)))) aNil)) [some (.str (frT f)),some (.lst [.str (tn f.1)]),none,none] S=.ok true S:=by
   rw[tTru,eCB,zBk cm,Rs.bind_ok,al]
   rfl
  have ln:lenB S [.lst [.str (tn f.1)]]=some (.int 1):=rfl
  have g2:gtD S (.int 1) (.int 2)=some (.bl false):=rfl
  have t1:tB (eOp gtD (eCB lenB (zA0 (eVar 1) aNil)) (eC (.int 2))) [some (.str (frT f)),some (.lst [.str (tn f.1)]),none,none] S=.ok false S:=by simp_arith [ln,g2]
  refine zAb x1 (zAb (e:=[some (.str (frT f)),some (.lst [.str (tn f.1)]),none,none]) (S1:=S) (zCj (by rw[tOr,t1,Rs.bind_ok,xg (by decide),tNot,t2];rfl) rfl) (zAb (e:=[some (.str (frT f)),some (.lst [.str (tn f.1)]),some (.int f.1),none]) (S1:=S) (by simp_arith [zMa h.u]) (zHc (zHq (by simp_arith [ln,q1]) ?_))))
  rw[cel,c]
  simp_arith [xy]
 ·rw[xg c]at sp0
  have pos:=h.pos
  have sp:=zDy (S:=S) (z:=frT f) (y:=Str.ofString "/") (ys:=[tn f.1,tn f.2]) (by decide) (by nofun) sp0 (vm rfl)
  have x1:sSet 1 (eMt "str" splitM (eVar 0) (zA0 (eC (.str (PySem.Str.ofString "/"))) aNil)) [some (.str (frT f)),none,none,none] S=.nx [some (.str (frT f)),some (.lst [.str (tn f.1),.str (tn f.2)]),none,none] S:=by
   rw[sSet,zCh (z:=frT f) rfl (zBk rfl) sp]
   rfl
  have bb:∀n∈[f.1,f.2],Bn n:=fun n hn=>by
   simp only[xi,xt,xu]at hn
   rcases hn with rfl|rfl
   ·exact h.u
   ·exact h.l
  have cm:(zAl 1 [] (iVal (eVar 1)) (gName 0) tYes (zA7 zB3 (zA0 (eVar 0) (zA0 (eC (.int 40)) aNil)))) [some (.str (frT f)),some (.lst [.str (tn f.1),.str (tn f.2)]),none,none] S=.ok (.lst ([f.1,f.2].map fun n=>.bl (decide (Bn n)))) S:=by
   refine zBq (xs:=[f.1,f.2]) (h:=fun n=>.str (tn n)) (gd:=[]) (fun env=>∃o,env=[o]) (zFn rfl) zAu ⟨none,rfl⟩ (show 2<=most by decide) ?_
   rintro x hx env ⟨o,rfl⟩
   refine⟨[some (.str (tn x))],rfl,⟨_,rfl⟩,?_⟩
   rw[xl (bb x hx)]
   simp_arith [zOh (bb x hx)]
  have al:=zMr (S:=S) (p:=fun n:Int=>Bn n) [f.1,f.2]
  rw[xl bb]at al
  have t2:tTru (eCB allB (zA0 (zAl 1 [] (iVal (eVar 1)) (gName 0) tYes (zA7 zB3 (zA0 (eVar 0) (zA0 (eC (.int 40)) aNil)))) aNil)) [some (.str (frT f)),some (.lst [.str (tn f.1),.str (tn f.2)]),none,none] S=.ok true S:=by
   rw[tTru,eCB,zBk cm,Rs.bind_ok,al]
   rfl
  have ln:lenB S [.lst [.str (tn f.1),.str (tn f.2)]]=some (.int 2):=rfl
  have g2:gtD S (.int 2) (.int 2)=some (.bl false):=rfl
  have g3:gtD S (.int f.2) (.int 1)=some (.bl true):=by rw[gt_int,xl (by nofun)]
  have cd:=zV7 (S:=S) (X:=f.1) (L:=f.2)
  rw[h.one]at cd
  have q3:eqI S (.int ((1:Nat):Int)) (.int 1)=some (.bl true):=q1
  have t1:tB (eOp gtD (eCB lenB (zA0 (eVar 1) aNil)) (eC (.int 2))) [some (.str (frT f)),some (.lst [.str (tn f.1),.str (tn f.2)]),none,none] S=.ok false S:=by simp_arith [ln,g2]
  refine zAb x1 (zAb (e:=[some (.str (frT f)),some (.lst [.str (tn f.1),.str (tn f.2)]),none,none]) (S1:=S) (zCj (by rw[tOr,t1,Rs.bind_ok,xg (by decide),tNot,t2];rfl) rfl) (zAb (e:=[some (.str (frT f)),some (.lst [.str (tn f.1),.str (tn f.2)]),some (.int f.1),none]) (S1:=S) (by simp_arith [zMa h.u]) (zAb (e:=[some (.str (frT f)),some (.lst [.str (tn f.1),.str (tn f.2)]),some (.int f.1),none]) (S1:=S) (zCj (by simp_arith [ln,q2]) rfl) (zAb (e:=[some (.str (frT f)),some (.lst [.str (tn f.1),.str (tn f.2)]),some (.int f.1),some (.int f.2)]) (S1:=S) (by simp_arith [zMa h.l]) ?_))))
  simp_arith [g3,cd,q3]
end
end DP
namespace DP
open DS TX
open PySem (Str)
noncomputable section
open Classical
theorem zP3 {f:Pt}{c:Nat}(h:c∈ls (frT f)):c=45\/c=47\/(48<=c/\c<=57):=by
 have n:∀{n:Int},c∈ls (tn n)->c=45\/(48<=c/\c<=57):=fun h=>by rw[zG2]at h;exact zHl h
 unfold frT at h
 split at h
 ·have:=n h;lia
 ·rw[zBr,zBr,lsL]at h
  rcases xT.mp h with z|z
  ·rcases xT.mp z with z|z
   ·have:=n z;lia
   ·have:=xJ.mp z;lia
  ·have:=n z;lia
theorem zQc {u w:Pt}:PySem.Txt.split (ptT u w) sC=[frT u,frT w]:=by
 rw[TX.eC]
 refine zDx (show ls (PySem.Txt.join ⟨#[44]⟩ [frT u,frT w])=_ from zFf _ _) fun q hq=>?_
 simp only[xi,xt,xu]at hq
 rcases hq with rfl|rfl <;> exact fun m=>by have:=zP3 m;lia
theorem zTs {S:Store}{u w:Pt}(hu:Frc u) (hw:Frc w):zF1 [.str (sW++ptT u w)] S=.ok (ptD u w) S:=by
 refine zAj rfl ?_ rfl
 have pl:=zJ2 hu hw
 have pt:=zOa (S:=S) (z:=sW++ptT u w) (y:=sB) (by decide) (by rw[len_app,zVq];lia) (part_of (a:=sV) (b:=ptT u w) (c:=32) (r:=[]) (by rw[zBr];rfl) rfl (by decide))
 have x1:sSet 1 (eMt "str" zL6 (eVar 0) (zA0 (eC (.str (PySem.Str.ofString " "))) aNil)) [some (.str (sW++ptT u w)),none,none] S=.nx [some (.str (sW++ptT u w)),some (.tup [.str sV,.str sB,.str (ptT u w)]),none] S:=by
  rw[sSet,zCh (z:=sW++ptT u w) rfl (zBk rfl) pt]
  rfl
 have sp:=zDy (S:=S) (z:=ptT u w) (y:=Str.ofString ",") (ys:=[frT u,frT w]) (by decide) (by nofun) zQc (vm rfl)
 have c:(zAl 1 [] (iVal (eMt "str" splitM (eOp ixD (eVar 1) (eC (.int 2))) (zA0 (eC (.str (PySem.Str.ofString ","))) aNil))) (gName 0) tYes (zA7 zBz (zA0 (eVar 0) aNil))) [some (.str (sW++ptT u w)),some (.tup [.str sV,.str sB,.str (ptT u w)]),none] S=.ok (.lst ([u,w].map cel)) S:=by
  refine zBq (xs:=[u,w]) (h:=fun f=>.str (frT f)) (gd:=[]) (fun env=>∃o,env=[o]) (zFn (zCh (z:=ptT u w) (by simp_arith [xy]) (zBk rfl) sp)) zAu ⟨none,rfl⟩ (show 2<=most by decide) ?_
  rintro p hp env ⟨o,rfl⟩
  have f:Frc p:=by
   simp only[xi,xt,xu]at hp
   rcases hp with rfl|rfl
   ·exact hu
   ·exact hw
  exact⟨[some (.str (frT p))],rfl,⟨_,rfl⟩,by simp_arith [zXl f]⟩
 have x2:sSet 2 (eCB zC2 (zA0 (zAl 1 [] (iVal (eMt "str" splitM (eOp ixD (eVar 1) (eC (.int 2))) (zA0 (eC (.str (PySem.Str.ofString ","))) aNil))) (gName 0) tYes (zA7 zBz (zA0 (eVar 0) aNil))) aNil)) [some (.str (sW++ptT u w)),some (.tup [.str sV,.str sB,.str (ptT u w)]),none] S=.nx [some (.str (sW++ptT u w)),some (.tup [.str sV,.str sB,.str (ptT u w)]),some (ptD u w)] S:=by
  rw[sSet,eCB,zBk c,Rs.bind_ok]
  rfl
 have n1:neK S (.str sV) (.str (PySem.Str.ofString "lives"))=some (.bl false):=nk_s
 have n2:neK S (.int 2) (.int 2)=some (.bl false):=nk_i
 have ln:lenB S [ptD u w]=some (.int 2):=rfl
 have nn:inN S .non (ptD u w)=some (.bl false):=zSk (r:=[u,w])
 refine zAb x1 (zAb x2 (zAb (e:=[some (.str (sW++ptT u w)),some (.tup [.str sV,.str sB,.str (ptT u w)]),some (ptD u w)]) (S1:=S) (zCj (by simp_arith [n1,ln,n2,nn]) rfl) (by simp_arith [xy])))
theorem zMb {α:Type}{h:α->D}:∀(l:List α) (n:Nat),zGy (l.map h) n=(l.zipIdx n).map fun a=>.tup [.int (a.2:Nat),h a.1]
 | [],n=>rfl
 | a::l,n=>by
  rw[xw,zGy,zMb l (n+1)]
  rfl
noncomputable abbrev prD (a:Pt × List Pt):D:=.tup [cel a.1,rowD a.2]
noncomputable abbrev pB:SM:=(sSeq (sSet 6 (zA7 zEm (zA0 (eVar 5) aNil)))
  (sSeq (sIf (tB (eOp isD (eVar 6) (eC .non))) zGb zB7)
  (zMy (eMt "list" zG9 (eVar 3) (zA0 (eVar 6) aNil)))))
theorem zOo {k:Nat}:∀(l:List (Pt × List Pt)),lowL k (l.map prD)=true
 | []=>rfl
 | a::l=>by show(((cel a.1).low k && (lowL k (a.2.map cel) && true)) && lowL k (l.map prD))=true;rw[zOo l,zBo];rfl
theorem zOb {S:Store}{pre:List Str}{hs:List Pt}{rs:List (List Pt)}{least:Nat}(h:Prs hs rs) (hp:pre.length<=100) (hl:least<=rs.length):zBe [.lst ((pre++prs hs rs).map D.str),.int (pre.length:Nat),.int (least:Nat)] S=.ok (.lst ((hs.zip rs).map prD)) S:=by
 have l12:=h.ln
 have zl:(hs.zip rs).length=rs.length:=by rw[xZ,h.eq];lia
 have sl:slD (S++[D.lst []]) (.lst ((pre++prs hs rs).map D.str)) (some (pre.length:Nat)) none=some (.lst ((prs hs rs).map D.str)):=by
  show some (D.lst (cutL ((pre++prs hs rs).map D.str) (some (pre.length:Nat)) none))=_
  unfold cutL
  have e:sIx ((pre++prs hs rs).map D.str).length 0 (some ((pre.length:Nat):Int))=pre.length:=by
   show(if((pre.length:Nat):Int)<0 then(((pre.length:Nat):Int)+(((pre++prs hs rs).map D.str).length:Int)).toNat else min ((pre.length:Nat):Int).toNat ((pre++prs hs rs).map D.str).length)=_
   rw[xg (by nofun),xm,xI]
   lia
  rw[e,show sIx ((pre++prs hs rs).map D.str).length ((pre++prs hs rs).map D.str).length none=((pre++prs hs rs).map D.str).length from rfl,v8 (by rw[List.length_drop];lia),vU,List.drop_append_of_le_length (by rw[xm];exact xh _),uq (by rw[xm];exact xh _),List.nil_append]
 have wk:iEnS false (eSl slD (eVar 0) (pYes (eVar 1)) pNo) (eVar 1) [some (.lst ((pre++prs hs rs).map D.str)),some (.int (pre.length:Nat)),some (.int (least:Nat)),some (.ref S.length),none,none,none] (S++[D.lst []])=.ok ⟨((hs.zip rs).zipIdx pre.length).map fun a=>.tup [.int (a.2:Nat),.str (pr a.1.1 a.1.2)],[]⟩ (S++[D.lst []]):=by
  have ew:enWS false (S++[D.lst []]) (.lst ((prs hs rs).map D.str)) (.int (pre.length:Nat))=some ⟨((hs.zip rs).zipIdx pre.length).map fun a=>.tup [.int (a.2:Nat),.str (pr a.1.1 a.1.2)],[]⟩:=by
   show(if false=false/\((prs hs rs).map D.str).length<2 ^ 60/\(0:Int)<=(pre.length:Nat)/\((pre.length:Nat):Int)<1000000 then some (Walk.mk (zGy ((prs hs rs).map D.str) ((pre.length:Nat):Int).toNat) [])else none)=_
   have:=(zE2 h).2
   rw[xc ⟨rfl,vC (show _<=12 by rw[xm];exact this) (by decide),by nofun,by nofun⟩,Int.toNat_natCast,prs,xM,zMb]
   rfl
  simp_arith [iEnS,sl,ew]
 obtain⟨env',S5,e5,a4,a5,a6,rfl,rfl⟩:=zSp (h:=fun a:(Pt × List Pt) × Nat=>D.tup [.int (a.2:Nat),.str (pr a.1.1 a.1.2)]) (gd:=[]) (g:=gTup [(gName 4),(gName 5)]) (b:=pB) (ys:=(hs.zip rs).zipIdx pre.length) (fun P env S'=>∃(a4 a5 a6:Option D),env=[some (.lst ((pre++prs hs rs).map D.str)),some (.int (pre.length:Nat)),some (.int (least:Nat)),some (.ref S.length),a4,a5,a6]/\S++[D.lst (P.map fun a=>prD a.1)]=S') (fun _ _ _ _=>zAu) (fun P a R eq env S' hh=>by
  obtain⟨a4,a5,a6,rfl,rfl⟩:=hh
  have am:a.1∈hs.zip rs:=by
   have:a∈(hs.zip rs).zipIdx pre.length:=by rw[eq];simp
   have:=List.mem_map_of_mem (f:=Prod.fst) this
   rw[List.zipIdx_map_fst]at this
   exact this
  obtain⟨b1,b2⟩:=h.mem am
  have pl:P.length<=12:=by
   have:=congrArg List.length eq
   rw[List.length_zipIdx,zl,xI]at this
   lia
  have ty:=ty_D (S:=S++[D.lst (P.map fun a=>prD a.1)]) (c:=S.length) zD7
  have ap:=zYx (S:=S++[D.lst (P.map fun a=>prD a.1)]) (c:=S.length) (d:=prD a.1) zD7 (by rw[xm];lia)
  rw[zJ0]at ap
  refine⟨[some (.lst ((pre++prs hs rs).map D.str)),some (.int (pre.length:Nat)),some (.int (least:Nat)),some (.ref S.length),some (.int (a.2:Nat)),some (.str (pr a.1.1 a.1.2)),a6],_,_,by simp_arith [xy],?_,some (.int (a.2:Nat)),some (.str (pr a.1.1 a.1.2)),some (prD a.1),rfl,by rw[vU]⟩
  generalize S++[D.lst (P.map fun a=>prD a.1)]=S1 at ty ap
  refine zAb (e:=[some (.lst ((pre++prs hs rs).map D.str)),some (.int (pre.length:Nat)),some (.int (least:Nat)),some (.ref S.length),some (.int (a.2:Nat)),some (.str (pr a.1.1 a.1.2)),some (prD a.1)]) (S1:=S1) (by simp_arith [zWq b1 b2]) (zAb (e:=[some (.lst ((pre++prs hs rs).map D.str)),some (.int (pre.length:Nat)),some (.int (least:Nat)),some (.ref S.length),some (.int (a.2:Nat)),some (.str (pr a.1.1 a.1.2)),some (prD a.1)]) (S1:=S1) (zCj (by simp_arith [is_t]) rfl) ?_)
  simp_arith [eMt,ty,ap]) ((hs.zip rs).zipIdx pre.length) [] [some (.lst ((pre++prs hs rs).map D.str)),some (.int (pre.length:Nat)),some (.int (least:Nat)),some (.ref S.length),none,none,none] (S++[D.lst []]) rfl ⟨none,none,none,rfl,rfl⟩
 have em:(((hs.zip rs).zipIdx pre.length).map fun a=>prD a.1)=(hs.zip rs).map prD:=by
  rw[show(fun a:(Pt × List Pt) × Nat=>prD a.1)=prD ∘ Prod.fst from rfl,<- xM,List.zipIdx_map_fst]
 rw[em]at e5
 have lz:=zLf (S:=S++[D.lst ((hs.zip rs).map prD)]) (c:=S.length) zD7
 rw[xm,zl]at lz
 have lt:∀S,ltN S (.int (rs.length:Nat)) (.int (least:Nat))=some (.bl false):=fun S=>by show some (D.bl (decide ((rs.length:Int)<(least:Nat))))=_;rw[xq (by nofun)]
 refine zS4 (T:=[D.lst ((hs.zip rs).map prD)]) (c:=S.length) rfl ?_ (xh _) zD7 (zOo _)
 refine zAb (e:=[some (.lst ((pre++prs hs rs).map D.str)),some (.int (pre.length:Nat)),some (.int (least:Nat)),some (.ref S.length),none,none,none]) (S1:=S++[D.lst []]) (by simp_arith [eNew]) (zAb (e:=[some (.lst ((pre++prs hs rs).map D.str)),some (.int (pre.length:Nat)),some (.int (least:Nat)),some (.ref S.length),a4,a5,a6]) (S1:=S++[D.lst ((hs.zip rs).map prD)]) (by rw[sFor,wk,Rs.then_ok];exact e5) ?_)
 generalize S++[D.lst ((hs.zip rs).map prD)]=S1 at lz
 refine zAb (e:=[some (.lst ((pre++prs hs rs).map D.str)),some (.int (pre.length:Nat)),some (.int (least:Nat)),some (.ref S.length),a4,a5,a6]) (S1:=S1) (zCj (by simp_arith [lz,lt]) rfl) (by simp_arith [xy])
end
end DP
namespace DP
open DS TX
open PySem (Str)
noncomputable section
open Classical
theorem zPz {S:Store}{hs:List Pt}{rs:List (List Pt)}(h:Prs hs rs):zAz [.lst ((hs.zip rs).map prD)] S=.ok (rowD hs) S:=by
 refine zAj rfl ?_ (zBo _)
 have c:(zAl 1 [] (iVal (eVar 0)) (gName 0) tYes (eOp ixD (eVar 0) (eC (.int 0)))) [some (.lst ((hs.zip rs).map prD))] S=.ok (.lst ((hs.zip rs).map fun a=>cel a.1)) S:=by
  refine zBq (xs:=hs.zip rs) (h:=prD) (gd:=[]) (fun env=>∃o,env=[o]) (zFn rfl) zAu ⟨none,rfl⟩ (xn (show _<=100 by rw[xZ];have:=h.ln;lia) (by decide)) ?_
  rintro a ha env ⟨o,rfl⟩
  exact⟨[some (prD a)],rfl,⟨_,rfl⟩,by simp_arith [xy]⟩
 have e:((hs.zip rs).map fun a=>cel a.1)=hs.map cel:=by
  rw[show(fun a:Pt × List Pt=>cel a.1)=cel ∘ Prod.fst from rfl,<- xM,List.map_fst_zip (by rw[h.eq];exact xh _)]
 rw[e]at c
 show(sRet (eCB zC2 (zA0 _ aNil))) [some (.lst ((hs.zip rs).map prD))] S=_
 rw[sRet,eCB,zBk c,Rs.bind_ok]
 rfl
theorem zEx {k:Nat}:∀(l:List (List Pt)),lowL k (l.map rowD)=true
 | []=>rfl
 | r::l=>by show(lowL k (r.map cel) && lowL k (l.map rowD))=true;rw[zEx l,zBo];rfl
theorem zMp {S:Store}{hs:List Pt}{rs:List (List Pt)}(h:Prs hs rs):zB5 [.lst ((hs.zip rs).map prD)] S=.ok (zEh rs) S:=by
 refine zAj rfl ?_ (zEx _)
 have c:(zAl 1 [] (iVal (eVar 0)) (gName 0) tYes (eOp ixD (eVar 0) (eC (.int 1)))) [some (.lst ((hs.zip rs).map prD))] S=.ok (.lst ((hs.zip rs).map fun a=>rowD a.2)) S:=by
  refine zBq (xs:=hs.zip rs) (h:=prD) (gd:=[]) (fun env=>∃o,env=[o]) (zFn rfl) zAu ⟨none,rfl⟩ (xn (show _<=100 by rw[xZ];have:=h.ln;lia) (by decide)) ?_
  rintro a ha env ⟨o,rfl⟩
  exact⟨[some (prD a)],rfl,⟨_,rfl⟩,by simp_arith [xy]⟩
 have e:((hs.zip rs).map fun a=>rowD a.2)=rs.map rowD:=by
  rw[show(fun a:Pt × List Pt=>rowD a.2)=rowD ∘ Prod.snd from rfl,<- xM,List.map_snd_zip (by rw[h.eq];exact xh _)]
 rw[e]at c
 show(sRet (eCB zC2 (zA0 _ aNil))) [some (.lst ((hs.zip rs).map prD))] S=_
 rw[sRet,eCB,zBk c,Rs.bind_ok]
 rfl
theorem zSl {k c:Nat}:∀{l:List (List Nat)},c∈jn k l->c=k\/∃x∈l,c∈x
 | [],h=>by cases h
 | a::l,h=>by
  rcases xT.mp h with z|z
  ·exact .inr ⟨a,.head _,z⟩
  ·obtain⟨p,hp,z⟩:=List.mem_flatMap.mp z
   rcases xi.mp z with z|z
   ·exact .inl z
   ·exact .inr ⟨p,.tail _ hp,z⟩
theorem zJu {r:List Pt}{c:Nat}(h:c∈ls (said r)):c≠10:=by
 have h:c∈ls (PySem.Txt.join ⟨#[32]⟩ (r.map wd)):=h
 rw[zFf]at h
 rcases zSl h with z|⟨x,hx,z⟩
 ·lia
 ·obtain⟨y,hy,rfl⟩:=xG.mp hx
  obtain⟨p,_,rfl⟩:=xG.mp hy
  have:=zIt z
  lia
theorem zTr {h:Pt}{r:List Pt}:10 ∉ ls (pr h r):=fun m=>by
 rw[pr,zBr,zBr,lsS]at m
 rcases xT.mp m with z|z
 ·rcases xT.mp z with z|z
  ·have:=zIt z;lia
  ·revert z;decide
 ·exact zJu z rfl
theorem zM0 {hs:List Pt}{rs:List (List Pt)}{q:Str}(h:q∈prs hs rs):10 ∉ ls q:=by
 obtain⟨a,_,rfl⟩:=xG.mp h
 exact zTr
theorem zQe {rs:List (List Pt)}{hs:List Pt}:PySem.Txt.split (heT rs hs) sN=sH::prs hs rs:=by
 rw[eN]
 refine zDx (show ls (PySem.Txt.join ⟨#[10]⟩ (sH::prs hs rs))=_ from zFf _ _) fun q hq=>?_
 rcases xi.mp hq with rfl|z
 ·decide
 ·exact zM0 z
theorem zQd {u w:Pt}{ring:List Pt}{a b:Pt}{rs:List (List Pt)}:PySem.Txt.split (liT u w ring a b rs) sN=liR u w ring a b rs:=by
 rw[eN]
 refine zDx (show ls (PySem.Txt.join ⟨#[10]⟩ (liR u w ring a b rs))=_ from zFf _ _) fun q hq=>?_
 rcases xi.mp hq with rfl|z
 ·intro m
  rw[zBr]at m
  rcases xT.mp m with z|z
  ·revert z;decide
  ·have z:10∈ls (PySem.Txt.join ⟨#[44]⟩ [frT u,frT w]):=z
   rw[zFf]at z
   rcases zSl z with z|⟨x,hx,z⟩
   ·lia
   ·obtain⟨y,hy,rfl⟩:=xG.mp hx
    simp only[xi,xt,xu]at hy
    rcases hy with rfl|rfl <;> (have:=zP3 z;lia)
 ·rcases xi.mp z with rfl|z
  ·exact fun m=>zJu m rfl
  ·exact zM0 z
theorem zTd {S:Store}{rs:List (List Pt)}{hs:List Pt}(h:Prs hs rs) (h1:1<=rs.length):zBu [.str (heT rs hs)] S=.ok (heD rs hs) S:=by
 refine zAj rfl ?_ (by show(true && (lowL S.length (rs.map rowD) && (lowL S.length (hs.map cel) && true)))=true;rw[zEx,zBo];rfl)
 obtain⟨pl,pn⟩:=zE2 h
 have tl:(heT rs hs).length<=50000:=by
  have:=zEy (c:=10) (ys:=sH::prs hs rs) (k:=3446) fun y hy=>by
   rcases xi.mp hy with rfl|z
   ·decide
   ·exact pl y z
  rw[xE]at this
  have:(heT rs hs).length<=(3446+1)*((prs hs rs).length+1):=this
  lia
 have sp:=zDy (S:=S) (z:=heT rs hs) (y:=sN) (ys:=sH::prs hs rs) (by decide) (by nofun) zQe (by rw[xE];lia)
 have q:∀S,eqT S (.str sH) (.str (PySem.Str.ofString "heals"))=some (.bl true):=fun _=>by rw[zGf,xl rfl]
 have rp:zBe [.lst ((sH::prs hs rs).map D.str),.int 1,.int 1] S=.ok (.lst ((hs.zip rs).map prD)) S:=zOb (pre:=[sH]) (least:=1) h (vm rfl) h1
 have x1:sSet 1 (eMt "str" splitM (eVar 0) (zA0 (eC (.str (PySem.Str.ofString "\n"))) aNil)) [some (.str (heT rs hs)),none,none,none,none] S=.nx [some (.str (heT rs hs)),some (.lst (.str sH::(prs hs rs).map D.str)),none,none,none] S:=by
  rw[sSet,zCh (z:=heT rs hs) rfl (zBk rfl) sp]
  rfl
 have rp':zBe [.lst (.str sH::(prs hs rs).map D.str),.int 1,.int 1] S=.ok (.lst ((hs.zip rs).map prD)) S:=rp
 refine zAb x1 (zHc (zHq (by simp_arith [q]) (zAb (e:=[some (.str (heT rs hs)),some (.lst (.str sH::(prs hs rs).map D.str)),some (.lst ((hs.zip rs).map prD)),none,none]) (S1:=S) (by simp_arith [rp']) ?_)))
 simp_arith [zPz h,zMp h]
theorem zTc {S:Store}{u w:Pt}{ring:List Pt}{a b:Pt}{rs:List (List Pt)}(hu:Frc u) (hw:Frc w) (ha:Bp a) (hb:Bp b) (h:Prs ring rs) (h3:3<=rs.length):zBu [.str (liT u w ring a b rs)] S=.ok (liD u w ring a b rs) S:=by
 refine zAj rfl ?_ (by show(true && (true && (lowL S.length (ring.map cel) && (true && (true && (lowL S.length (rs.map rowD) && true))))))=true;rw[zEx,zBo];rfl)
 obtain⟨pl,pn⟩:=zE2 h
 obtain⟨ll,ln⟩:=zJb hu hw ha hb h
 have tl:(liT u w ring a b rs).length<=50000:=by
  have:=zEy (c:=10) ll
  have:(liT u w ring a b rs).length<=(3446+1)*(liR u w ring a b rs).length:=this
  lia
 have sp:=zDy (S:=S) (z:=liT u w ring a b rs) (y:=sN) (ys:=liR u w ring a b rs) (by decide) (by nofun) zQd (by nofun)
 have q:∀S,eqT S (.str (sW++ptT u w)) (.str (PySem.Str.ofString "heals"))=some (.bl false):=fun _=>by
  rw[zGf,xq]
  intro z
  have:=congrArg ls z
  rw[zBr]at this
  have:=congrArg List.head? this
  revert this
  show ¬ (some 108=some 104)
  decide
 have rp:zBe [.lst (.str (sW++ptT u w)::.str (said [a,b])::(prs ring rs).map D.str),.int 2,.int 3] S=.ok (.lst ((ring.zip rs).map prD)) S:=zOb (pre:=[sW++ptT u w,said [a,b]]) (least:=3) h (vm rfl) h3
 have x1:sSet 1 (eMt "str" splitM (eVar 0) (zA0 (eC (.str (PySem.Str.ofString "\n"))) aNil)) [some (.str (liT u w ring a b rs)),none,none,none,none] S=.nx [some (.str (liT u w ring a b rs)),some (.lst (.str (sW++ptT u w)::.str (said [a,b])::(prs ring rs).map D.str)),none,none,none] S:=by
  rw[sSet,zCh (z:=liT u w ring a b rs) rfl (zBk rfl) sp]
  rfl
 have lb:lenB S [.lst (.str (sW++ptT u w)::.str (said [a,b])::(prs ring rs).map D.str)]=some (.int (((prs ring rs).length+2:Nat):Int)):=by
  show some (D.int (((prs ring rs).map D.str).length+1+1:Nat))=_
  rw[xm]
 have g1:gtD S (.int (((prs ring rs).length+2:Nat):Int)) (.int 1)=some (.bl true):=by rw[gt_int,xl (by nofun)]
 have l2:lenB S [rowD [a,b]]=some (.int 2):=rfl
 have n2:neK S (.int 2) (.int 2)=some (.bl false):=nk_i
 have cr:=zPl (S:=S) (r:=[a,b]) (by simp) (bp2 ha hb) (vm rfl)
 generalize hL:D.lst (.str (sW++ptT u w)::.str (said [a,b])::(prs ring rs).map D.str)=L at x1 rp lb
 have i0:ixD S L (.int 0)=some (.str (sW++ptT u w)):=by rw[<- hL,ixL];exact atL0
 have i1:ixD S L (.int 1)=some (.str (said [a,b])):=by rw[<- hL,ixL];exact atL1
 refine zAb x1 (zAb (e:=[some (.str (liT u w ring a b rs)),some L,none,none,none]) (S1:=S) (zCj (by simp_arith [i0,q]) rfl) (zAb (e:=[some (.str (liT u w ring a b rs)),some L,none,some (ptD u w),none]) (S1:=S) (by simp_arith [i0,zTs hu hw]) (zAb (e:=[some (.str (liT u w ring a b rs)),some L,none,some (ptD u w),none]) (S1:=S) (zCj (by simp_arith [is_t]) rfl) (zAb (e:=[some (.str (liT u w ring a b rs)),some L,none,some (ptD u w),some (rowD [a,b])]) (S1:=S) (by simp_arith [lb,g1,i1,cr]) (zAb (e:=[some (.str (liT u w ring a b rs)),some L,none,some (ptD u w),some (rowD [a,b])]) (S1:=S) (zCj (by simp_arith [is_t,l2,n2]) rfl) (zAb (e:=[some (.str (liT u w ring a b rs)),some L,some (.lst ((ring.zip rs).map prD)),some (ptD u w),some (rowD [a,b])]) (S1:=S) (by simp_arith [rp]) ?_))))))
 have ad1:addD S (.tup [.str sV,ptD u w,rowD ring]) (rowD [a,b])=some (.tup [.str sV,ptD u w,rowD ring,cel a,cel b]):=by
  show(if [D.str sV,ptD u w,rowD ring]≠[]/\5<=most then some (D.tup [.str sV,ptD u w,rowD ring,cel a,cel b])else none)=_
  rw[xc ⟨by simp,by decide⟩]
 have ad2:addD S (.tup [.str sV,ptD u w,rowD ring,cel a,cel b]) (.tup [zEh rs])=some (liD u w ring a b rs):=by
  show(if [D.str sV,ptD u w,rowD ring,cel a,cel b]≠[]/\6<=most then some (D.tup [.str sV,ptD u w,rowD ring,cel a,cel b,zEh rs])else none)=_
  rw[xc ⟨by simp,by decide⟩]
 have y1:eTup (zA0 (eC (.str (PySem.Str.ofString "lives"))) (zA0 (eVar 3) (zA0 (zA7 zAz (zA0 (eVar 2) aNil)) aNil))) [some (.str (liT u w ring a b rs)),some L,some (.lst ((ring.zip rs).map prD)),some (ptD u w),some (rowD [a,b])] S=.ok (.tup [.str sV,ptD u w,rowD ring]) S:=by simp_arith [zPz h]
 have y2:eTup (zA0 (zA7 zB5 (zA0 (eVar 2) aNil)) aNil) [some (.str (liT u w ring a b rs)),some L,some (.lst ((ring.zip rs).map prD)),some (ptD u w),some (rowD [a,b])] S=.ok (.tup [zEh rs]) S:=by simp_arith [zMp h]
 rw[sRet,zHg (zHg y1 rfl ad1) y2 ad2]
 rfl
end
end DP
namespace DP
open DS TX
open PySem (Str)
noncomputable section
open Classical
theorem taken {S:Store}{c:Nat}{many:Int}(hm:0<many) (h9:many<10 ^ 50) (h:Feed S c):∃(r:Int) (S':Store),zA8 [.ref c,.int many] S=.ok (.int r) S'/\0<=r/\r<many/\Feed S' c/\Only c c S S':=zT3 hm (zQg (by nofun) (Int.lt_trans h9 (by decide))) h
theorem zXo {S:Store}{r:Int}(h0:0<=r) (h9:r<5):∃f:Int,3<=f/\f<10 ^ 40/\atL [D.int 3,D.int 3,D.int 1000,D.int (10 ^ 30),D.int (10 ^ 40-1)] r=some (.int f):=by
 rcases(show r=0\/r=1\/r=2\/r=3\/r=4 by nofun)with rfl|rfl|rfl|rfl|rfl
 ·exact⟨3,by decide,by decide,atL0⟩
 ·exact⟨3,by decide,by decide,atL1⟩
 ·exact⟨1000,by decide,by decide,atL2⟩
 ·exact⟨10 ^ 30,by decide,by decide,atL3⟩
 ·exact⟨10 ^ 40-1,by decide,by decide,atN (k:=4) rfl rfl⟩
theorem pw30 {S:Store}:powD S (.int 10) (.int 30)=some (.int (10 ^ 30)):=rfl
theorem pw40 {S:Store}:powD S (.int 10) (.int 40)=some (.int (10 ^ 40)):=rfl
theorem zH6 {S:Store}{c:Nat}(h:Feed S c):∃(n:Int) (S':Store),zBi [.ref c] S=.ok (.int n) S'/\Bn n/\Feed S' c/\Only c c S S':=by
 obtain⟨r,S1,e1,r0,r9,f1,o1⟩:=taken (many:=5) (by decide) (by decide) h
 obtain⟨f,g0,g9,ef⟩:=zXo (S:=S1) r0 r9
 obtain⟨x,S2,e2,x0,x9,f2,o2⟩:=taken (many:=2*f+1) (by nofun) (by nofun) f1
 have m1:∀S,mulD S (.int 2) (.int f)=some (.int (2*f)):=fun _=>zGd ⟨zQg (by decide) (by decide),zQg (by nofun) (Int.lt_trans g9 (by decide))⟩
 have sb:∀S,subD S (.int (10 ^ 40)) (.int 1)=some (.int (10 ^ 40-1)):=fun _=>rfl
 have sb2:∀S,subD S (.int x) (.int f)=some (.int (x-f)):=fun _=>rfl
 have ix:eOp ixD (eLst (zA0 (eC (.int 3)) (zA0 (eC (.int 3)) (zA0 (eC (.int 1000)) (zA0 (eOp powD (eC (.int 10)) (eC (.int 30))) (zA0 (eOp subD (eOp powD (eC (.int 10)) (eC (.int 40))) (eC (.int 1))) aNil)))))) (zA7 zA8 (zA0 (eVar 0) (zA0 (eC (.int 5)) aNil))) [some (.ref c),none] S=.ok (.int f) S1:=by
  have z1:eOp subD (eOp powD (eC (.int 10)) (eC (.int 40))) (eC (.int 1)) [some (.ref c),none] S=.ok (.int (10 ^ 40-1)) S:=zHg (zHg rfl rfl pw40) rfl (sb S)
  have z2:eOp powD (eC (.int 10)) (eC (.int 30)) [some (.ref c),none] S=.ok (.int (10 ^ 30)) S:=zHg rfl rfl pw30
  have z3:eLst (zA0 (eC (.int 3)) (zA0 (eC (.int 3)) (zA0 (eC (.int 1000)) (zA0 (eOp powD (eC (.int 10)) (eC (.int 30))) (zA0 (eOp subD (eOp powD (eC (.int 10)) (eC (.int 40))) (eC (.int 1))) aNil))))) [some (.ref c),none] S=.ok (.lst [.int 3,.int 3,.int 1000,.int (10 ^ 30),.int (10 ^ 40-1)]) S:=by
   simp only[eLst,zA0,z1,z2,Rs.bind_ok,aNil,DS.eC]
  have z4:zA7 zA8 (zA0 (eVar 0) (zA0 (eC (.int 5)) aNil)) [some (.ref c),none] S=.ok (.int r) S1:=by simp_arith [e1]
  rw[eOp,z3,Rs.bind_ok,z4,Rs.bind_ok,ixL,ef]
  rfl
 have body:zCy ([.ref c].map some++List.replicate (2-1) none) S=.rt (.int (x-f)) S2:=by
  refine zAb (e:=[some (.ref c),some (.int f)]) (S1:=S1) ?_ ?_
  ·show sSet 1 _ [some (.ref c),none] S=_
   rw[sSet,ix];rfl
  ·simp_arith [m1,e2,sb2]
 obtain⟨S3,e3,f3,o3⟩:=zC1 (np:=1) (nl:=2) (b:=zCy) (ds:=[.ref c]) rfl body h f2 (o1.trans o2).grow rfl
 exact⟨x-f,S3,e3,by show(x-f).natAbs<10 ^ 40;lia,f3,o3⟩
theorem zKi {S:Store}{c:Nat}(h:Feed S c):∃(p:Pt) (S':Store),zAk [.ref c] S=.ok (cel p) S'/\Bp p/\Feed S' c/\Only c c S S':=by
 obtain⟨x,S1,e1,b1,f1,o1⟩:=zH6 h
 obtain⟨y,S2,e2,b2,f2,o2⟩:=zH6 f1
 have body:zE5 ([.ref c].map some++List.replicate (1-1) none) S=.rt (cel (x,y)) S2:=by
  show sRet _ [some (.ref c)] S=_
  simp_arith [e1,e2]
 obtain⟨S3,e3,f3,o3⟩:=zC1 (np:=1) (nl:=1) (b:=zE5) (ds:=[.ref c]) rfl body h f2 (o1.trans o2).grow rfl
 exact⟨(x,y),S3,e3,⟨b1,b2⟩,f3,o3⟩
theorem zMv {S:Store}{l:List D}:zC2 S [.lst l]=some (.tup l):=rfl
theorem zVt {S:Store}{c:Nat}(h:Feed S c):∃(r:List Pt) (S':Store),zC0 [.ref c] S=.ok (rowD r) S'/\Row r/\Feed S' c/\Only c c S S':=by
 obtain⟨t,S1,e1,t0,t9,f1,o1⟩:=taken (many:=8) (by decide) (by decide) h
 have q:=zKf (S:=S1) (a:=t) (b:=1)
 have tt:tB (eOp eqI (zA7 zA8 (zA0 (eVar 0) (zA0 (eC (.int 8)) aNil))) (eC (.int 1))) [some (.ref c)] S=.ok (decide (t=1)) S1:=by simp_arith [e1,q]
 by_cases z:t=1
 ·obtain⟨k,S2,e2,k0,k9,f2,o2⟩:=taken (many:=31) (by decide) (by decide) f1
  have ad:∀S,addD S (.int 10) (.int k)=some (.int ((k.toNat+10:Nat):Int)):=fun S=>by show some (D.int (10+k))=_;congr 2;lia
  have rg:=zEl (e:=eOp addD (eC (.int 10)) (zA7 zA8 (zA0 (eVar 0) (zA0 (eC (.int 31)) aNil)))) (env:=[some (.ref c)]) (S:=S1) (S':=S2) (n:=k.toNat+10) (by
   have z4:zA7 zA8 (zA0 (eVar 0) (zA0 (eC (.int 31)) aNil)) [some (.ref c)] S1=.ok (.int k) S2:=by simp_arith [e2]
   rw[eOp,DS.eC,Rs.bind_ok,z4,Rs.bind_ok,ad];rfl) (by nofun)
  obtain⟨r,S3,e3,rl,rb,f3,o3⟩:=zFi (h:=fun(i:Nat)=>D.int (i:Int)) (k:=cel) (own:=1) (ix:=[0]) (g:=gName 0) (e:=eTup (zA0 (eOp subD (zA7 zA8 (zA0 (eVar 1) (zA0 (eC (.int 19)) aNil))) (eC (.int 9))) (zA0 (eOp subD (zA7 zA8 (zA0 (eVar 1) (zA0 (eC (.int 19)) aNil))) (eC (.int 9))) aNil))) (fun env=>∃x,env=[x,some (.ref c)]) (fun S'=>Feed S' c/\Only c c S S') Bp rg (fun _ _=>zAu) ⟨none,rfl⟩ ⟨f2,o1.trans o2⟩ (xn (show _<=100 by rw[vk];lia) (by decide)) (fun i _ env S' he hj=>by
   obtain⟨x,rfl⟩:=he
   obtain⟨a,T1,d1,a0,a9,g1,p1⟩:=taken (many:=19) (by decide) (by decide) hj.1
   obtain⟨b,T2,d2,b0,b9,g2,p2⟩:=taken (many:=19) (by decide) (by decide) g1
   refine⟨[some (.int (i:Int)),some (.ref c)],(a-9,b-9),T2,rfl,⟨_,rfl⟩,by simp_arith [d1,d2],⟨by show(a-9).natAbs<10 ^ 40;lia,by show(b-9).natAbs<10 ^ 40;lia⟩,g2,hj.2.trans (p1.trans p2)⟩)
  rw[vk]at rl
  have body:zD1 ([.ref c].map some++List.replicate (1-1) none) S=.rt (rowD r) S3:=by
   refine zHc ?_
   show sIf _ _ _ [some (.ref c)] S=_
   rw[sIf,tt,Rs.then_ok,xc (xl z),sRet,eCB,zBk e3,Rs.bind_ok,zMv]
   rfl
  obtain⟨S4,e4,f4,o4⟩:=zC1 (np:=1) (nl:=1) (b:=zD1) (ds:=[.ref c]) rfl body h f3 o3.grow (zBo _)
  exact⟨r,S4,e4,⟨fun n=>by rw[n]at rl;simp at rl,by nofun,rb⟩,f4,o4⟩
 ·obtain⟨p,S2,e2,p0,p9,f2,o2⟩:=taken (many:=2) (by decide) (by decide) f1
  obtain⟨m,m0,m9,em⟩:∃m:Int,3<=m/\m<=9/\atL [D.int 3,D.int 9] p=some (.int m):=by
   rcases(show p=0\/p=1 by nofun)with rfl|rfl
   ·exact⟨3,by decide,by decide,atL0⟩
   ·exact⟨9,by decide,by decide,atL1⟩
  obtain⟨k,S3,e3,k0,k9,f3,o3⟩:=taken (many:=m) (by nofun) (by nofun) f2
  have ad:∀S,addD S (.int 1) (.int k)=some (.int ((k.toNat+1:Nat):Int)):=fun S=>by show some (D.int (1+k))=_;congr 2;lia
  have rg:=zEl (e:=eOp addD (eC (.int 1)) (zA7 zA8 (zA0 (eVar 0) (zA0 (eOp ixD (eLst (zA0 (eC (.int 3)) (zA0 (eC (.int 9)) aNil))) (zA7 zA8 (zA0 (eVar 0) (zA0 (eC (.int 2)) aNil)))) aNil)))) (env:=[some (.ref c)]) (S:=S1) (S':=S3) (n:=k.toNat+1) (by
   have z4:zA7 zA8 (zA0 (eVar 0) (zA0 (eOp ixD (eLst (zA0 (eC (.int 3)) (zA0 (eC (.int 9)) aNil))) (zA7 zA8 (zA0 (eVar 0) (zA0 (eC (.int 2)) aNil)))) aNil)) [some (.ref c)] S1=.ok (.int k) S3:=by simp_arith [e2,em,e3]
   rw[eOp,DS.eC,Rs.bind_ok,z4,Rs.bind_ok,ad];rfl) (by nofun)
  obtain⟨r,S4,e4,rl,rb,f4,o4⟩:=zFi (h:=fun(i:Nat)=>D.int (i:Int)) (k:=cel) (own:=1) (ix:=[0]) (g:=gName 0) (e:=zA7 zAk (zA0 (eVar 1) aNil)) (fun env=>∃x,env=[x,some (.ref c)]) (fun S'=>Feed S' c/\Only c c S S') Bp rg (fun _ _=>zAu) ⟨none,rfl⟩ ⟨f3,(o1.trans o2).trans o3⟩ (xn (show _<=100 by rw[vk];lia) (by decide)) (fun i _ env S' he hj=>by
   obtain⟨x,rfl⟩:=he
   obtain⟨a,T1,d1,b1,g1,p1⟩:=zKi hj.1
   exact⟨[some (.int (i:Int)),some (.ref c)],a,T1,rfl,⟨_,rfl⟩,by simp_arith [d1],b1,g1,hj.2.trans p1⟩)
  rw[vk]at rl
  have body:zD1 ([.ref c].map some++List.replicate (1-1) none) S=.rt (rowD r) S4:=by
   refine zAb (e:=[some (.ref c)]) (S1:=S1) ?_ ?_
   ·show sIf _ _ _ [some (.ref c)] S=_
    rw[sIf,tt,Rs.then_ok,xg (by simpa using z)]
    rfl
   ·rw[sRet,eCB,zBk e4,Rs.bind_ok,zMv]
    rfl
  obtain⟨S5,e5,f5,o5⟩:=zC1 (np:=1) (nl:=1) (b:=zD1) (ds:=[.ref c]) rfl body h f4 o4.grow (zBo _)
  exact⟨r,S5,e5,⟨fun n=>by rw[n]at rl;simp at rl,by nofun,rb⟩,f5,o5⟩
end
end DP
namespace DP
open DS TX
open PySem (Str)
noncomputable section
open Classical
theorem zUg {X L:Int}(hX:Bn X) (hL:Bn L) (h:0<L):Frc (X.fdiv (Nat.gcd X.natAbs L.natAbs:Nat),L.fdiv (Nat.gcd X.natAbs L.natAbs:Nat)):=by
 have gp:0<Nat.gcd X.natAbs L.natAbs:=Nat.gcd_pos_of_pos_right _ (by nofun)
 generalize hg:Nat.gcd X.natAbs L.natAbs=g at gp
 obtain⟨k,hk⟩:(g:Int) ∣ X:=Int.ofNat_dvd_left.mpr (by rw[<- hg];exact Nat.gcd_dvd_left _ _)
 obtain⟨l,hl⟩:(g:Int) ∣ L:=Int.ofNat_dvd_left.mpr (by rw[<- hg];exact Nat.gcd_dvd_right _ _)
 have g0:(g:Int)≠0:=by nofun
 have e1:X.fdiv (g:Int)=k:=by rw[hk];exact Int.mul_fdiv_cancel_left k g0
 have e2:L.fdiv (g:Int)=l:=by rw[hl];exact Int.mul_fdiv_cancel_left l g0
 have n1:X.natAbs=g*k.natAbs:=by rw[hk,Int.natAbs_mul];rfl
 have n2:L.natAbs=g*l.natAbs:=by rw[hl,Int.natAbs_mul];rfl
 have b1:k.natAbs<=X.natAbs:=by rw[n1];exact Nat.le_mul_of_pos_left _ gp
 have b2:l.natAbs<=L.natAbs:=by rw[n2];exact Nat.le_mul_of_pos_left _ gp
 have lp:0<l:=by
  rcases Int.lt_trichotomy l 0 with z|z|z
  ·have:(g:Int)*l<0:=Int.mul_neg_of_pos_of_neg (by nofun) z
   lia
  ·rw[z]at hl;simp at hl;lia
  ·exact z
 rw[e1,e2]
 refine⟨vC b1 hX,vC b2 hL,by show 1<=l;lia,?_⟩
 show Nat.gcd k.natAbs l.natAbs=1
 rw[n1,n2,Nat.gcd_mul_left]at hg
 have:g*Nat.gcd k.natAbs l.natAbs=g*1:=by rw[hg,Nat.mul_one]
 exact Nat.eq_of_mul_eq_mul_left gp this
theorem zSn {S:Store}{c:Nat}(h:Feed S c):∃(f:Pt) (S':Store),zBw [.ref c] S=.ok (cel f) S'/\Frc f/\Feed S' c/\Only c c S S':=by
 obtain⟨u,S1,e1,b1,f1,o1⟩:=zH6 h
 obtain⟨v,S2,e2,b2,f2,o2⟩:=zH6 f1
 obtain⟨t,S3,e3,t0,t9,f3,o3⟩:=taken (many:=2) (by decide) (by decide) f2
 obtain⟨m,mb,em⟩:∃m:Int,Bn m/\atL [D.int 0,D.int v] t=some (.int m):=by
  rcases(show t=0\/t=1 by nofun)with rfl|rfl
  ·exact⟨0,by decide,atL0⟩
  ·exact⟨v,b2,atL1⟩
 have ad:∀S,addD S (.int 1) (.int (m.natAbs:Int))=some (.int (1+(m.natAbs:Int))):=fun _=>rfl
 obtain⟨L,lp,lb,mn⟩:∃L:Int,0<L/\Bn L/\∀S,min2B S [.int (1+(m.natAbs:Int)),.int (10 ^ 40-1)]=some (.int L):=by
  by_cases z:(10:Int) ^ 40-1<1+(m.natAbs:Int)
  ·exact⟨10 ^ 40-1,by decide,by decide,fun _=>by show some (D.int (if _ then _ else _))=_;rw[xc z]⟩
  ·exact⟨1+(m.natAbs:Int),by nofun,by show(1+(m.natAbs:Int)).natAbs<10 ^ 40;lia,fun _=>by show some (D.int (if _ then _ else _))=_;rw[xg z]⟩
 have sb:∀S,subD S (.int (10 ^ 40)) (.int 1)=some (.int (10 ^ 40-1)):=fun _=>rfl
 have cm:=zUk (S:=S3) (X:=u) (L:=L) lp
 have fr:=zUg b1 lb lp
 have gp:0<Nat.gcd u.natAbs L.natAbs:=Nat.gcd_pos_of_pos_right _ (by nofun)
 have gl:Nat.gcd u.natAbs L.natAbs<=L.natAbs:=Nat.gcd_le_right _ (by nofun)
 generalize Nat.gcd u.natAbs L.natAbs=g at cm fr gp gl
 have sg:sm (g:Int):=Nat.lt_trans (show g<10 ^ 40 from vC gl lb) (xv (show(10:Nat) ^ 40<2 ^ 200 by decide) (uw (by decide) (by decide)))
 have d1:∀(S:Store) (x:Int),zFp S (.int x) (.int (g:Int))=some (.int (x.fdiv (g:Int))):=fun S x=>by
  show(if(g:Int)≠0/\sm (g:Int)then some (D.int (x.fdiv (g:Int)))else none)=_
  rw[xc ⟨by nofun,sg⟩]
 have z1:eOp subD (eOp powD (eC (.int 10)) (eC (.int 40))) (eC (.int 1)) [some (.ref c),some (.int u),some (.int (1+(m.natAbs:Int))),none] S3=.ok (.int (10 ^ 40-1)) S3:=zHg (zHg rfl rfl pw40) rfl (sb S3)
 have x3:sSet 2 (eCB min2B (zA0 (eVar 2) (zA0 (eOp subD (eOp powD (eC (.int 10)) (eC (.int 40))) (eC (.int 1))) aNil))) [some (.ref c),some (.int u),some (.int (1+(m.natAbs:Int))),none] S3=.nx [some (.ref c),some (.int u),some (.int L),none] S3:=by
  have y:zA0 (eVar 2) (zA0 (eOp subD (eOp powD (eC (.int 10)) (eC (.int 40))) (eC (.int 1))) aNil) [some (.ref c),some (.int u),some (.int (1+(m.natAbs:Int))),none] S3=.ok [.int (1+(m.natAbs:Int)),.int (10 ^ 40-1)] S3:=by
   rw[zA0,show eVar 2 [some (.ref c),some (.int u),some (.int (1+(m.natAbs:Int))),none] S3=.ok (.int (1+(m.natAbs:Int))) S3 from rfl,Rs.bind_ok,zBk z1]
   rfl
  rw[sSet,eCB,y,Rs.bind_ok,mn]
  rfl
 have body:zCl ([.ref c].map some++List.replicate (4-1) none) S=.rt (cel (u.fdiv (g:Int),L.fdiv (g:Int))) S3:=by
  refine zAb (e:=[some (.ref c),some (.int u),none,none]) (S1:=S1) (by simp_arith [e1]) (zAb (e:=[some (.ref c),some (.int u),some (.int (1+(m.natAbs:Int))),none]) (S1:=S3) (by simp_arith [e2,e3,em,zKw]) (zAb x3 (zAb (e:=[some (.ref c),some (.int u),some (.int L),some (.int (g:Int))]) (S1:=S3) (by simp_arith [cm]) ?_)))
  simp_arith [d1]
 obtain⟨S4,e4,f4,o4⟩:=zC1 (np:=1) (nl:=4) (b:=zCl) (ds:=[.ref c]) rfl body h f3 ((o1.trans o2).trans o3).grow rfl
 exact⟨_,S4,e4,fr,f4,o4⟩
inductive Pp:D->Prop where
 | he (rs:List (List Pt)) (hs:List Pt) (h:Prs hs rs) (n:1<=rs.length):Pp (heD rs hs)
 | li (u w:Pt) (ring:List Pt) (a b:Pt) (rs:List (List Pt)) (hu:Frc u) (hw:Frc w) (ha:Bp a) (hb:Bp b) (h:Prs ring rs) (n:3<=rs.length):Pp (liD u w ring a b rs)
theorem zU8 {S:Store}{c:Nat}(h:Feed S c):∃(d:D) (S':Store),zCr [.ref c] S=.ok d S'/\Pp d/\Feed S' c/\Only c c S S':=by
 obtain⟨t,S1,e1,t0,t9,f1,o1⟩:=taken (many:=2) (by decide) (by decide) h
 have q:=zKf (S:=S1) (a:=t) (b:=0)
 have tt:tB (eOp eqI (zA7 zA8 (zA0 (eVar 0) (zA0 (eC (.int 2)) aNil))) (eC (.int 0))) [some (.ref c),none,none,none] S=.ok (decide (t=0)) S1:=by simp_arith [e1,q]
 by_cases z:t=0
 ·obtain⟨k,S2,e2,k0,k9,f2,o2⟩:=taken (many:=8) (by decide) (by decide) f1
  have ad:∀S,addD S (.int 1) (.int k)=some (.int ((k.toNat+1:Nat):Int)):=fun S=>by show some (D.int (1+k))=_;congr 2;lia
  have rg:=zEl (e:=eOp addD (eC (.int 1)) (zA7 zA8 (zA0 (eVar 0) (zA0 (eC (.int 8)) aNil)))) (env:=[some (.ref c),none,none,none]) (S:=S1) (S':=S2) (n:=k.toNat+1) (by
   have z4:zA7 zA8 (zA0 (eVar 0) (zA0 (eC (.int 8)) aNil)) [some (.ref c),none,none,none] S1=.ok (.int k) S2:=by simp_arith [e2]
   rw[eOp,DS.eC,Rs.bind_ok,z4,Rs.bind_ok,ad];rfl) (by nofun)
  obtain⟨rs,S3,e3,rl,rb,f3,o3⟩:=zFi (h:=fun(i:Nat)=>D.int (i:Int)) (k:=rowD) (own:=1) (ix:=[0]) (g:=gName 0) (e:=zA7 zC0 (zA0 (eVar 1) aNil)) (fun env=>∃x,env=[x,some (.ref c)]) (fun S'=>Feed S' c/\Only c c S S') Row rg (fun _ _=>zAu) ⟨none,rfl⟩ ⟨f2,o1.trans o2⟩ (xn (show _<=100 by rw[vk];lia) (by decide)) (fun i _ env S' he hj=>by
   obtain⟨x,rfl⟩:=he
   obtain⟨a,T1,d1,b1,g1,p1⟩:=zVt hj.1
   exact⟨[some (.int (i:Int)),some (.ref c)],a,T1,rfl,⟨_,rfl⟩,by simp_arith [d1],b1,g1,hj.2.trans p1⟩)
  rw[vk]at rl
  obtain⟨hs,S4,e4,hl,hb,f4,o4⟩:=zFi (h:=rowD) (k:=cel) (own:=1) (ix:=[0]) (i:=iVal (eVar 1)) (g:=gName 0) (e:=zA7 zAk (zA0 (eVar 1) aNil)) (S:=S3) (S0:=S3) (env:=[some (.ref c),some (zEh rs),none,none]) (xs:=rs) (gd:=[]) (fun env=>∃x,env=[x,some (.ref c)]) (fun S'=>Feed S' c/\Only c c S S') Bp (zFg rfl) (fun _ _=>zAu) ⟨none,rfl⟩ ⟨f3,o3⟩ (xn (show _<=100 by nofun) (by decide)) (fun i _ env S' he hj=>by
   obtain⟨x,rfl⟩:=he
   obtain⟨a,T1,d1,b1,g1,p1⟩:=zKi hj.1
   exact⟨[some (rowD i),some (.ref c)],a,T1,rfl,⟨_,rfl⟩,by simp_arith [d1],b1,g1,hj.2.trans p1⟩)
  have ps:Prs hs rs:=⟨hl,by nofun,hb,rb⟩
  have x1:sSet 1 (eCB zC2 (zA0 (zAl 1 [0] (zF2 (zA0 (eOp addD (eC (.int 1)) (zA7 zA8 (zA0 (eVar 0) (zA0 (eC (.int 8)) aNil)))) aNil)) (gName 0) tYes (zA7 zC0 (zA0 (eVar 1) aNil))) aNil)) [some (.ref c),none,none,none] S1=.nx [some (.ref c),some (zEh rs),none,none] S3:=by
   rw[sSet,eCB,zBk e3,Rs.bind_ok,zMv]
   rfl
  have y1:eCB zC2 (zA0 (zAl 1 [0] (iVal (eVar 1)) (gName 0) tYes (zA7 zAk (zA0 (eVar 1) aNil))) aNil) [some (.ref c),some (zEh rs),none,none] S3=.ok (rowD hs) S4:=by
   rw[eCB,zBk e4,Rs.bind_ok,zMv]
   rfl
  have body:zCc ([.ref c].map some++List.replicate (4-1) none) S=.rt (heD rs hs) S4:=by
   refine zHc ?_
   show sIf _ _ _ [some (.ref c),none,none,none] S=_
   rw[sIf,tt,Rs.then_ok,xc (xl z)]
   refine zAb x1 ?_
   rw[sRet,eTup,zA0,DS.eC,Rs.bind_ok,zA0,show eVar 1 [some (.ref c),some (zEh rs),none,none] S3=.ok (zEh rs) S3 from rfl,Rs.bind_ok,zBk y1]
   rfl
  obtain⟨S5,e5,f5,o5⟩:=zC1 (np:=1) (nl:=4) (b:=zCc) (ds:=[.ref c]) rfl body h f4 o4.grow (by show(true && (lowL S.length (rs.map rowD) && (lowL S.length (hs.map cel) && true)))=true;rw[zEx,zBo];rfl)
  exact⟨_,S5,e5,.he rs hs ps (by nofun),f5,o5⟩
 ·obtain⟨p,S2,e2,p0,p9,f2,o2⟩:=taken (many:=2) (by decide) (by decide) f1
  obtain⟨m,m0,m9,em⟩:∃m:Int,2<=m/\m<=10/\atL [D.int 2,D.int 10] p=some (.int m):=by
   rcases(show p=0\/p=1 by nofun)with rfl|rfl
   ·exact⟨2,by decide,by decide,atL0⟩
   ·exact⟨10,by decide,by decide,atL1⟩
  obtain⟨k,S3,e3,k0,k9,f3,o3⟩:=taken (many:=m) (by nofun) (by nofun) f2
  have ad:∀S,addD S (.int 3) (.int k)=some (.int ((k.toNat+3:Nat):Int)):=fun S=>by show some (D.int (3+k))=_;congr 2;lia
  have rg:=zEl (e:=eOp addD (eC (.int 3)) (zA7 zA8 (zA0 (eVar 0) (zA0 (eOp ixD (eLst (zA0 (eC (.int 2)) (zA0 (eC (.int 10)) aNil))) (zA7 zA8 (zA0 (eVar 0) (zA0 (eC (.int 2)) aNil)))) aNil)))) (env:=[some (.ref c),none,none,none]) (S:=S1) (S':=S3) (n:=k.toNat+3) (by
   have z4:zA7 zA8 (zA0 (eVar 0) (zA0 (eOp ixD (eLst (zA0 (eC (.int 2)) (zA0 (eC (.int 10)) aNil))) (zA7 zA8 (zA0 (eVar 0) (zA0 (eC (.int 2)) aNil)))) aNil)) [some (.ref c),none,none,none] S1=.ok (.int k) S3:=by simp_arith [e2,em,e3]
   rw[eOp,DS.eC,Rs.bind_ok,z4,Rs.bind_ok,ad];rfl) (by nofun)
  obtain⟨ring,S4,e4,rl,rb,f4,o4⟩:=zFi (h:=fun(i:Nat)=>D.int (i:Int)) (k:=cel) (own:=1) (ix:=[0]) (g:=gName 0) (e:=zA7 zAk (zA0 (eVar 1) aNil)) (fun env=>∃x,env=[x,some (.ref c)]) (fun S'=>Feed S' c/\Only c c S S') Bp rg (fun _ _=>zAu) ⟨none,rfl⟩ ⟨f3,(o1.trans o2).trans o3⟩ (xn (show _<=100 by rw[vk];lia) (by decide)) (fun i _ env S' he hj=>by
   obtain⟨x,rfl⟩:=he
   obtain⟨a,T1,d1,b1,g1,p1⟩:=zKi hj.1
   exact⟨[some (.int (i:Int)),some (.ref c)],a,T1,rfl,⟨_,rfl⟩,by simp_arith [d1],b1,g1,hj.2.trans p1⟩)
  rw[vk]at rl
  obtain⟨u,S5,e5,hu,f5,o5⟩:=zSn f4
  obtain⟨w,S6,e6,hw,f6,o6⟩:=zSn f5
  obtain⟨a,S7,e7,ha,f7,o7⟩:=zKi f6
  obtain⟨b,S8,e8,hb,f8,o8⟩:=zKi f7
  obtain⟨rs,S9,e9,sl,sb,f9,o9⟩:=zFi (h:=cel) (k:=rowD) (own:=1) (ix:=[0]) (i:=iVal (eVar 2)) (g:=gName 0) (e:=zA7 zC0 (zA0 (eVar 1) aNil)) (S:=S8) (S0:=S8) (env:=[some (.ref c),none,some (rowD ring),some (ptD u w)]) (xs:=ring) (gd:=[]) (fun env=>∃x,env=[x,some (.ref c)]) (fun S'=>Feed S' c/\Only c c S S') Row (zFg rfl) (fun _ _=>zAu) ⟨none,rfl⟩ ⟨f8,(((o4.trans o5).trans o6).trans o7).trans o8⟩ (xn (show _<=100 by nofun) (by decide)) (fun i _ env S' he hj=>by
   obtain⟨x,rfl⟩:=he
   obtain⟨a,T1,d1,b1,g1,p1⟩:=zVt hj.1
   exact⟨[some (cel i),some (.ref c)],a,T1,rfl,⟨_,rfl⟩,by simp_arith [d1],b1,g1,hj.2.trans p1⟩)
  have ps:Prs ring rs:=⟨sl.symm,by nofun,rb,sb⟩
  have x1:sSet 2 (eCB zC2 (zA0 (zAl 1 [0] (zF2 (zA0 (eOp addD (eC (.int 3)) (zA7 zA8 (zA0 (eVar 0) (zA0 (eOp ixD (eLst (zA0 (eC (.int 2)) (zA0 (eC (.int 10)) aNil))) (zA7 zA8 (zA0 (eVar 0) (zA0 (eC (.int 2)) aNil)))) aNil)))) aNil)) (gName 0) tYes (zA7 zAk (zA0 (eVar 1) aNil))) aNil)) [some (.ref c),none,none,none] S1=.nx [some (.ref c),none,some (rowD ring),none] S4:=by
   rw[sSet,eCB,zBk e4,Rs.bind_ok,zMv]
   rfl
  have y1:eCB zC2 (zA0 (zAl 1 [0] (iVal (eVar 2)) (gName 0) tYes (zA7 zC0 (zA0 (eVar 1) aNil))) aNil) [some (.ref c),none,some (rowD ring),some (ptD u w)] S8=.ok (zEh rs) S9:=by
   rw[eCB,zBk e9,Rs.bind_ok,zMv]
   rfl
  have y2:zA7 zAk (zA0 (eVar 0) aNil) [some (.ref c),none,some (rowD ring),some (ptD u w)] S6=.ok (cel a) S7:=by simp_arith [e7]
  have y3:zA7 zAk (zA0 (eVar 0) aNil) [some (.ref c),none,some (rowD ring),some (ptD u w)] S7=.ok (cel b) S8:=by simp_arith [e8]
  have body:zCc ([.ref c].map some++List.replicate (4-1) none) S=.rt (liD u w ring a b rs) S9:=by
   refine zAb (e:=[some (.ref c),none,none,none]) (S1:=S1) ?_ (zAb x1 (zAb (e:=[some (.ref c),none,some (rowD ring),some (ptD u w)]) (S1:=S6) (by simp_arith [e5,e6]) ?_))
   ·show sIf _ _ _ [some (.ref c),none,none,none] S=_
    rw[sIf,tt,Rs.then_ok,xg (by simpa using z)]
    rfl
   ·rw[sRet,eTup,zA0,DS.eC,Rs.bind_ok,zA0,show eVar 3 [some (.ref c),none,some (rowD ring),some (ptD u w)] S6=.ok (ptD u w) S6 from rfl,Rs.bind_ok,zA0,show eVar 2 [some (.ref c),none,some (rowD ring),some (ptD u w)] S6=.ok (rowD ring) S6 from rfl,Rs.bind_ok,zA0,y2,Rs.bind_ok,zA0,y3,Rs.bind_ok,zBk y1]
    rfl
  obtain⟨S10,e10,f10,o10⟩:=zC1 (np:=1) (nl:=4) (b:=zCc) (ds:=[.ref c]) rfl body h f9 o9.grow (by show(true && (true && (lowL S.length (ring.map cel) && (true && (true && (lowL S.length (rs.map rowD) && true))))))=true;rw[zEx,zBo];rfl)
  exact⟨_,S10,e10,.li u w ring a b rs hu hw ha hb ps (by nofun),f10,o10⟩
end
end DP
namespace DP
open DS TX
open PySem (Str)
noncomputable section
open Classical
theorem zH5:∀(r:List Pt),nzL (r.map cel)=true
 | []=>by simp[nzL]
 | p::r=>by rw[xw,nzL,zH5 r];simp[nz,nzL]
theorem zLa:∀(r:List (List Pt)),nzL (r.map rowD)=true
 | []=>by simp[nzL]
 | p::r=>by rw[xw,nzL,zLa r,nz,zH5];rfl
theorem zH2:∀(r:List Pt),szL (r.map cel)=3*r.length
 | []=>by simp[szL]
 | p::r=>by rw[xw,szL,zH2 r,xE];simp[sz,szL];lia
theorem zL2:∀(r:List (List Pt)),(∀x∈r,x.length<=40)->szL (r.map rowD)<=121*r.length
 | [],_=>by simp[szL]
 | p::r,h=>by
  have h1:=h p (.head _)
  have h2:=zL2 r fun x hx=>h x (.tail _ hx)
  rw[xw,szL,sz,zH2,xE]
  lia
structure Fine (d:D) (T:Str):Prop where
 tl:T.length<=50000
 txt:∀S,zBv [d] S=.ok (.str T) S
 shw:∀S,zAr [d] S=.ok (.str T) S
 rd:∀S,zBu [.str T] S=.ok d S
 hd:∀S,∃b,zAs [d] S=.ok (.bl b) S
 nz:nz d=true
 sz:sz d<=100000
theorem zUs {S:Store}{rs:List (List Pt)}{hs:List Pt}(h:hs≠[]) (hl:hs.length<=100):∃b,zAs [heD rs hs] S=.ok (.bl b) S:=by
 have q:eqT S (.str sH) (.str (PySem.Str.ofString "lives"))=some (.bl false):=by rw[zGf,xq (by decide)]
 have c:(zAl 2 [] (iVal (eOp ixD (eVar 0) (eC (.int 2)))) (gTup [(gName 0),(gName 1)]) tYes (eCB max2B (zA0 (eCB absB (zA0 (eVar 0) aNil)) (zA0 (eCB absB (zA0 (eVar 1) aNil)) aNil)))) [some (heD rs hs)] S=.ok (.lst (hs.map fun p=>.int (if(p.2.natAbs:Int) > (p.1.natAbs:Int)then(p.2.natAbs:Int)else(p.1.natAbs:Int)))) S:=by
  refine zBq (xs:=hs) (h:=cel) (gd:=[]) (fun env=>∃o p,env=[o,p]) (zFg (by simp_arith [xy])) zAu ⟨none,none,rfl⟩ (xn hl (by decide)) ?_
  rintro p hp env ⟨o,q,rfl⟩
  have mx:max2B S [.int (p.1.natAbs:Int),.int (p.2.natAbs:Int)]=some (.int (if(p.2.natAbs:Int) > (p.1.natAbs:Int)then(p.2.natAbs:Int)else(p.1.natAbs:Int))):=rfl
  exact⟨[some (.int p.1),some (.int p.2)],by simp_arith [xy],⟨_,_,rfl⟩,by simp_arith [zKw,mx]⟩
 obtain⟨v,_,ev',_⟩:=zPv (p:=fun a b:Int=>b<a) (fun a b c h1 h2=>by nofun) (fun a b h1=>by nofun) (S:=S) (xs:=hs.map fun p:Pt=>if(p.2.natAbs:Int) > (p.1.natAbs:Int)then(p.2.natAbs:Int)else(p.1.natAbs:Int)) (by simpa using h)
 rw[xM]at ev'
 have mx:maxI S [.lst (hs.map fun p=>.int (if(p.2.natAbs:Int) > (p.1.natAbs:Int)then(p.2.natAbs:Int)else(p.1.natAbs:Int)))]=some (.int v):=ev'
 refine⟨decide (v<=10 ^ 6),zAj rfl ?_ rfl⟩
 refine zAb (e:=[some (heD rs hs)]) (S1:=S) (zCj (by simp_arith [q]) rfl) ?_
 have y:eCB maxI (zA0 (zAl 2 [] (iVal (eOp ixD (eVar 0) (eC (.int 2)))) (gTup [(gName 0),(gName 1)]) tYes (eCB max2B (zA0 (eCB absB (zA0 (eVar 0) aNil)) (zA0 (eCB absB (zA0 (eVar 1) aNil)) aNil)))) aNil) [some (heD rs hs)] S=.ok (.int v) S:=by
  rw[eCB,zBk c,Rs.bind_ok,mx];rfl
 have pw:powD S (.int 10) (.int 6)=some (.int (10 ^ 6)):=rfl
 rw[sRet,zHg y (zHg rfl rfl pw) le_int]
 rfl
theorem zUv {d:D}(h:Pp d):∃T,Fine d T:=by
 cases h with
 | he rs hs h n=>
  obtain⟨pl,pn⟩:=zE2 h
  have l12:=h.ln
  have eq:=h.eq
  have tl:(heT rs hs).length<=50000:=by
   have:=zEy (c:=10) (ys:=sH::prs hs rs) (k:=3446) fun y hy=>by
    rcases xi.mp hy with rfl|z
    ·decide
    ·exact pl y z
   rw[xE]at this
   have:(heT rs hs).length<=(3446+1)*((prs hs rs).length+1):=this
   lia
  refine⟨heT rs hs,tl,fun S=>zRc h,fun S=>zT9 h,fun S=>zTd h n,fun S=>zUs (fun z=>by rw[z]at eq;simp at eq;lia) (by nofun),?_,?_⟩
  ·simp[nz,nzL,zLa,zH5]
  ·have:=zL2 rs fun x hx=>(h.r x hx).ln
   simp only[sz,szL,zH2]
   lia
 | li u w ring a b rs hu hw ha hb h n=>
  obtain⟨ll,ln⟩:=zJb hu hw ha hb h
  have l12:=h.ln
  have eq:=h.eq
  have tl:(liT u w ring a b rs).length<=50000:=by
   have:=zEy (c:=10) ll
   have:(liT u w ring a b rs).length<=(3446+1)*(liR u w ring a b rs).length:=this
   lia
  refine⟨liT u w ring a b rs,tl,fun S=>zRb hu hw ha hb h,fun S=>zT8 hu hw ha hb h,fun S=>zTc hu hw ha hb h n,fun S=>⟨true,?_⟩,?_,?_⟩
  ·refine zAj rfl ?_ rfl
   have q:eqT S (.str sV) (.str (PySem.Str.ofString "lives"))=some (.bl true):=by rw[zGf,xl rfl]
   exact zHc (zHq (by simp_arith [q]) rfl)
  ·simp[nz,nzL,zLa,zH5]
  ·have:=zL2 rs fun x hx=>(h.r x hx).ln
   simp only[sz,szL,zH2]
   lia
noncomputable abbrev lB:SM:=(sSeq (sSet 3 (zA7 zBv (zA0 (eVar 2) aNil)))
  (sSeq (sIf (tAnd (tTru (zA7 zAs (zA0 (eVar 2) aNil))) (tNot (tTru (zA7 zAm (zA0 (zA7 zAr (zA0 (eVar 2) aNil)) (zA0 (eVar 3) aNil)))))) (sRet (eC (.bl false))) zB7)
  (sIf (tB (eOp ltN (eCB lenB (zA0 (eVar 3) aNil)) (eC (.int 2001)))) (sSeq (sSet 4 (zA7 zBu (zA0 (eVar 3) aNil)))
  (sIf (tOr (tNot (tTru (zA7 zAm (zA0 (eVar 4) (zA0 (eVar 2) aNil))))) (tNot (tTru (zA7 zAm (zA0 (zA7 zAr (zA0 (eVar 4) aNil)) (zA0 (eVar 3) aNil)))))) (sRet (eC (.bl false))) zB7)) zB7)))
theorem zYn {S:Store}{d:D}{a0 a1 a3 a4:Option D}(h:Pp d):∃b3 b4,lB [a0,a1,some d,a3,a4] S=.nx [a0,a1,some d,b3,b4] S:=by
 obtain⟨T,f⟩:=zUv h
 obtain⟨b,hb⟩:=f.hd S
 have tl:=f.tl
 have k1:=zMs (S:=S) (d:=.str T) (by simp[nz]) (by simp[sz])
 have k2:=zMs (S:=S) f.nz f.sz
 have t1:tTru (zA7 zAm (zA0 (zA7 zAr (zA0 (eVar 2) aNil)) (zA0 (eVar 3) aNil))) [a0,a1,some d,some (.str T),a4] S=.ok true S:=by simp_arith [tTru,f.shw,k1,tru]
 have t0:tTru (zA7 zAs (zA0 (eVar 2) aNil)) [a0,a1,some d,some (.str T),a4] S=.ok b S:=by simp_arith [tTru,hb,tru]
 have ln:lenB S [.str T]=some (.int (T.length:Nat)):=by
  show(if T.length<=most then some (D.int (T.length:Nat))else none)=_
  rw[xc (xn tl (by decide))]
 have lt:ltN S (.int (T.length:Nat)) (.int 2001)=some (.bl (decide (((T.length:Nat):Int)<2001))):=rfl
 have tc:tB (eOp ltN (eCB lenB (zA0 (eVar 3) aNil)) (eC (.int 2001))) [a0,a1,some d,some (.str T),a4] S=.ok (decide (((T.length:Nat):Int)<2001)) S:=by simp_arith [ln,lt]
 have x1:sSet 3 (zA7 zBv (zA0 (eVar 2) aNil)) [a0,a1,some d,a3,a4] S=.nx [a0,a1,some d,some (.str T),a4] S:=by simp_arith [f.txt]
 have x2:(sIf (tAnd (tTru (zA7 zAs (zA0 (eVar 2) aNil))) (tNot (tTru (zA7 zAm (zA0 (zA7 zAr (zA0 (eVar 2) aNil)) (zA0 (eVar 3) aNil)))))) (sRet (eC (.bl false))) zB7) [a0,a1,some d,some (.str T),a4] S=.nx [a0,a1,some d,some (.str T),a4] S:=by
  refine zCj ?_ rfl
  rw[tAnd,t0,Rs.bind_ok]
  cases b
  ·rfl
  ·rw[xc rfl,tNot,t1];rfl
 by_cases c:((T.length:Nat):Int)<2001
 ·refine⟨some (.str T),some d,zAb x1 (zAb x2 ?_)⟩
  rw[zXk tc,xc c]
  have t2:tTru (zA7 zAm (zA0 (eVar 4) (zA0 (eVar 2) aNil))) [a0,a1,some d,some (.str T),some d] S=.ok true S:=by simp_arith [tTru,k2,tru]
  have t3:tTru (zA7 zAm (zA0 (zA7 zAr (zA0 (eVar 4) aNil)) (zA0 (eVar 3) aNil))) [a0,a1,some d,some (.str T),some d] S=.ok true S:=by simp_arith [tTru,f.shw,k1,tru]
  refine zAb (e:=[a0,a1,some d,some (.str T),some d]) (S1:=S) (by simp_arith [f.rd]) (zCj ?_ rfl)
  rw[tOr,tNot,t2,Rs.bind_ok,Rs.bind_ok]
  show tNot _ _ _=_
  rw[tNot,t3]
  rfl
 ·refine⟨some (.str T),a4,zAb x1 (zAb x2 ?_)⟩
  rw[zXk tc,xg c]
  rfl
theorem zUy:zD6=zJl 2 4 zVa:=rfl
theorem law_ok (ns:List Int) (hn:ns.length<=63):∃S,zNb [.klst (ns.map .int)] []=.ok (.bl true) S:=by
 obtain⟨n,n9,en⟩:∃n:Nat,n<=4/\eCB max2B (zA0 (eC (.int 3)) (zA0 (eCB min2B (zA0 (eC (.int 4)) (zA0 (eCB lenB (zA0 (eVar 0) aNil)) aNil))) aNil)) [some (.klst (ns.map .int)),none,none,none,none] []=.ok (.int (n:Nat)) []:=by
  have ln:lenB [] [.klst (ns.map D.int)]=some (.int (ns.length:Nat)):=by
   show some (D.int ((ns.map D.int).length:Int))=_
   rw[xm]
  obtain⟨l,hl,mn⟩:∃l:Int,l<=4/\min2B [] [.int 4,.int (ns.length:Nat)]=some (.int l):=⟨_,by split <;> lia,rfl⟩
  obtain⟨m,hm,h4,mx⟩:∃m:Int,0<=m/\m<=4/\max2B [] [.int 3,.int l]=some (.int m):=⟨_,by split <;> lia,by split <;> lia,rfl⟩
  refine⟨m.toNat,by nofun,?_⟩
  rw[Int.toNat_of_nonneg hm]
  simp only[eCB,zA0,aNil,DS.eC,eVar,List.getElem?_cons_zero,Rs.bind_ok,ln,zK8,mn,mx]
 have rg:=zEl en (by nofun)
 obtain⟨ds,S1,e1,dl,dp,_⟩:=zFi (h:=fun(i:Nat)=>D.int (i:Int)) (k:=fun d:D=>d) (own:=1) (ix:=[0]) (g:=gName 0) (e:=zA7 zCr (zA0 (zA7 zD6 (zA0 (eVar 1) (zA0 (eVar 0) aNil))) aNil)) (fun env=>∃x,env=[x,some (.klst (ns.map .int))]) (fun _=>True) Pp rg (fun _ _=>zAu) ⟨none,rfl⟩ trivial (xn (show _<=100 by rw[vk];lia) (by decide)) (fun i hi env S' he hj=>by
  obtain⟨x,rfl⟩:=he
  have i9:i<n:=List.mem_range.mp hi
  obtain⟨own,seed,s0,s9,ef⟩:=zUx (S:=S') (ns:=ns) (k:=i) (by nofun)
  rw[<- zUy]at ef
  have fd:Feed (S'++[D.lst [.int own,.int seed]]) S'.length:=⟨own,seed,zD7,s0,s9⟩
  obtain⟨d,S2,e2,p2,_,_⟩:=zU8 fd
  exact⟨[some (.int (i:Int)),some (.klst (ns.map .int))],d,S2,rfl,⟨_,rfl⟩,by simp_arith [ef,e2],p2,trivial⟩)
 rw[List.map_id']at e1
 rw[vk]at dl
 have rv:revS S1 (.lst ds)=some (.lst ds.reverse):=rfl
 have ct:addD S1 (.lst ds) (.lst ds.reverse)=some (.lst (ds++ds.reverse)):=zPn (by rw[ux];lia)
 obtain⟨env',S2,e2,b2,b3,b4,rfl,rfl⟩:=zSo (h:=fun d:D=>d) (gd:=[]) (g:=gName 2) (b:=lB) (fun env S'=>∃b2 b3 b4,env=[some (.klst (ns.map .int)),some (.lst ds),b2,b3,b4]/\S1=S') (fun _ _ _=>zAu) (ds++ds.reverse) [some (.klst (ns.map .int)),some (.lst ds),none,none,none] S1 ⟨none,none,none,rfl,rfl⟩ (fun d hd env S' he=>by
  obtain⟨b2,b3,b4,rfl,rfl⟩:=he
  have pd:Pp d:=by
   rcases xT.mp hd with z|z
   ·exact dp d z
   ·exact dp d (List.mem_reverse.mp z)
  obtain⟨c3,c4,e⟩:=zYn (S:=S1) (a0:=some (.klst (ns.map .int))) (a1:=some (.lst ds)) (a3:=b3) (a4:=b4) pd
  exact⟨_,_,S1,rfl,e,_,_,_,rfl,rfl⟩)
 rw[List.map_id']at e2
 refine⟨[],?_⟩
 unfold zNb zB1
 rw[xc (show [D.klst (ns.map .int)].length=1 from rfl)]
 suffices hb':zV9 ([D.klst (ns.map .int)].map some++List.replicate (5-1) none) []=.rt (.bl true) S1 by rw[hb'];exact zUw
 refine zAb (e:=[some (.klst (ns.map .int)),some (.lst ds),none,none,none]) (S1:=S1) ?_ (zAb (e:=[some (.klst (ns.map .int)),some (.lst ds),b2,b3,b4]) (S1:=S1) ?_ rfl)
 ·show sSet 1 _ [some (.klst (ns.map .int)),none,none,none,none] []=_
  rw[sSet,e1]
  rfl
 ·have w:iVal (eOp addD (eVar 1) (eUn revS (eVar 1))) [some (.klst (ns.map .int)),some (.lst ds),none,none,none] S1=.ok ⟨ds++ds.reverse,[]⟩ S1:=by
   refine zFn (zHg rfl ?_ ct)
   show lift (revS S1 (.lst ds)) S1=_
   rw[rv]
   rfl
  rw[sFor,w,Rs.then_ok]
  exact e2
end
end DP
namespace Law
open PySem PySem.Spec PyProof.Rows L2
noncomputable abbrev n_0:List Str:=["text","figures","digits"]
noncomputable abbrev n_1:List Str:=["text","many","figures","words"]
noncomputable abbrev n_2:List Str:=["row","cut","point"]
noncomputable abbrev n_3:List Str:=["text","words","upper","lower"]
noncomputable abbrev n_4:List Str:=["_law_feed_here","_law_rows","_law_ring","_law_v"]
noncomputable abbrev n_5:List Str:=["_law_paper_here","_law_rows","_law_words"]
noncomputable abbrev n_6:List Str:=["_law_script","_law_some","_law_paper_here","_law_text_here","_law_found"]
noncomputable abbrev n_7:List Str:=["text","many","figures"]
noncomputable abbrev n_8:List Str:=["rows","start","least"]
noncomputable abbrev n_9:List Str:=["one","other","rest"]
noncomputable abbrev n_10:List Str:=["_law_script","_law_k","_law_cell_here","_law_own"]
noncomputable abbrev n_11:List Str:=["_law_feed_here","_law_many","_law_digit","_law_one"]
noncomputable abbrev n_12:List Str:=["_law_found","_law_due","_law_left","_law_one","_law_other"]
noncomputable abbrev n_13:List Str:=["number","piece","behind"]
noncomputable abbrev n_14:List Str:=["_law_feed_here","_law_upper","_law_lower","_law_by"]
noncomputable abbrev n_15:List Str:=["row","cut","head","cells"]
noncomputable abbrev n_16:List Str:=["rows","start","least","pairs","number","row","pair"]
noncomputable abbrev n_17:List Str:=["text","rows","pairs","v","cells"]
noncomputable def top (i:Nat):Stmt:=PySem.Challenge.pw_healfloor_k93_papers_written_and_read.main.body.getD i (.Pass ⟨0,0,0,0⟩)
structure Txt (K:PySem.W.Frag) (mg:Str->Option Value):Prop where
 b_abs:mg "abs"=none
 b_all:mg "all"=none
 b_bool:mg "bool"=none
 b_enumerate:mg "enumerate"=none
 b_int:mg "int"=none
 b_isinstance:mg "isinstance"=none
 b_len:mg "len"=none
 b_list:mg "list"=none
 b_max:mg "max"=none
 b_min:mg "min"=none
 b_range:mg "range"=none
 b_str:mg "str"=none
 b_tuple:mg "tuple"=none
 b_zip:mg "zip"=none
 c_HEALS:∃u,mg "HEALS"=some u/\RelV (.str (Str.ofString "heals")) u
 c_LEAST_RING:∃u,mg "LEAST_RING"=some u/\RelV (.int 3) u
 c_LIVES:∃u,mg "LIVES"=some u/\RelV (.str (Str.ofString "lives")) u
 c_MOST_FIGURES:∃u,mg "MOST_FIGURES"=some u/\RelV (.int 40) u
 c_STROKE:∃u,mg "STROKE"=some u/\RelV (.str (Str.ofString " | ")) u
section
variable (P:Program) (w:World) (K:PySem.W.Frag) (mg:Str->Option Value) (base:Heap)
noncomputable abbrev zEd:Prop:=Cal P w K mg base "common_divisor" 1 ["one","other"] (spOf K XE0 DP.zC8)
noncomputable abbrev zFj:Prop:=Cal P w K mg base "is_number" 1 ["text","figures"] (spOf K XE0 DP.zB3)
noncomputable abbrev zDh:Prop:=Cal P w K mg base "ahead_of_strokes" 1 ["pairs"] (spOf K XE0 DP.zAz)
noncomputable abbrev zEe:Prop:=Cal P w K mg base "behind_strokes" 1 ["pairs"] (spOf K XE0 DP.zB5)
noncomputable abbrev zI5:Prop:=Cal P w K mg base "_law_feed" 1 ["_law_script","_law_k"] (spOf K XE0 DP.zD6)
noncomputable abbrev zD8:Prop:=Cal P w K mg base "_law_take" 1 ["_law_feed_here","_law_many"] (spOf K XE0 DP.zA8)
noncomputable abbrev zGu:Prop:=Cal P w K mg base "_law_alike" 1 ["_law_found","_law_due"] (spOf K XE0 DP.zAm)
noncomputable abbrev zFy:Prop:=Cal P w K mg base "_law_common" 1 ["_law_one","_law_other"] (spOf K XE0 DP.zCx)
noncomputable abbrev zI4:Prop:=Cal P w K mg base "_law_said" 1 ["_law_cells"] (spOf K XE0 DP.zAe)
noncomputable abbrev zEf:Prop:=Cal P w K mg base "_law_is_handed" 1 ["_law_paper_here"] (spOf K XE0 DP.zAs)
noncomputable abbrev zFb:Prop:=Cal P w K mg base "show_number" 1 ["number"] (spOf K XE0 DP.zDk)
noncomputable abbrev zDo:Prop:=Cal P w K mg base "read_numbers" 2 n_7 (spOf K XE0 DP.zB9)
noncomputable abbrev zFx:Prop:=Cal P w K mg base "fraction_in" 2 ["text"] (spOf K XE0 DP.zBz)
noncomputable abbrev zE7:Prop:=Cal P w K mg base "_law_number" 2 ["_law_feed_here"] (spOf K XE0 DP.zBi)
noncomputable abbrev zI3:Prop:=Cal P w K mg base "_law_text" 2 ["_law_paper_here"] (spOf K XE0 DP.zBv)
noncomputable abbrev zFa:Prop:=Cal P w K mg base "show_number" 2 ["number"] (spOf K XE0 DP.zCn)
noncomputable abbrev zE6:Prop:=Cal P w K mg base "show_number" 3 ["number"] (spOf K XE0 DP.zBh)
noncomputable abbrev zGa:Prop:=Cal P w K mg base "cells_in" 3 ["text"] (spOf K XE0 DP.zDs)
noncomputable abbrev zIr:Prop:=Cal P w K mg base "point_in" 3 ["row"] (spOf K XE0 DP.zF1)
noncomputable abbrev zFk:Prop:=Cal P w K mg base "_law_cell" 3 ["_law_feed_here"] (spOf K XE0 DP.zAk)
noncomputable abbrev zEt:Prop:=Cal P w K mg base "_law_fraction" 3 ["_law_feed_here"] (spOf K XE0 DP.zBw)
noncomputable abbrev zDn:Prop:=Cal P w K mg base "show_numbers" 4 ["numbers"] (spOf K XE0 DP.zB8)
noncomputable abbrev zEr:Prop:=Cal P w K mg base "show_fraction" 4 ["one"] (spOf K XE0 DP.zBs)
noncomputable abbrev zKx:Prop:=Cal P w K mg base "pair_in" 4 ["row"] (spOf K XE0 DP.zEm)
noncomputable abbrev zIs:Prop:=Cal P w K mg base "_law_row" 4 ["_law_feed_here"] (spOf K XE0 DP.zC0)
noncomputable abbrev zEs:Prop:=Cal P w K mg base "show_cells" 5 ["cells"] (spOf K XE0 DP.zBt)
noncomputable abbrev zGp:Prop:=Cal P w K mg base "show_point" 5 ["point"] (spOf K XE0 DP.zCq)
noncomputable abbrev zGs:Prop:=Cal P w K mg base "read_pairs" 5 n_8 (spOf K XE0 DP.zBe)
noncomputable abbrev zGt:Prop:=Cal P w K mg base "_law_paper" 5 ["_law_feed_here"] (spOf K XE0 DP.zCr)
noncomputable abbrev zFw:Prop:=Cal P w K mg base "shown_pairs" 6 ["heads","rows"] (spOf K XE0 DP.zBg)
noncomputable abbrev zGr:Prop:=Cal P w K mg base "read_paper" 6 ["text"] (spOf K XE0 DP.zBu)
noncomputable abbrev zGq:Prop:=Cal P w K mg base "show_paper" 7 ["paper"] (spOf K XE0 DP.zAr)
end
section
variable {P:Program}{w:World}{K:PySem.W.Frag}{mg:Str->Option Value}{base:Heap}
noncomputable abbrev zC7:Stmt:=top 4
theorem sc_common_divisor:zAh n_9 ["one","other"] (zA6 zC7):=⟨rfl,rfl,rfl,by decide +kernel,rfl,by decide +kernel,by decide +kernel⟩
theorem zFz {f:Addr}{fd:FuncData}(F:Fun K "common_divisor" "common_divisor" zC7 f fd) (T:Txt K mg):FnOk P w K mg base CX0 1 f fd ["one","other"] (spOf K XE0 DP.zC8):=by
 refine fn_d (k:=0) (b:=DP.zEa) F sc_common_divisor rfl rfl fun cdv A outer s H E hr=>?_
 have hu:=zC3 hr
 have hu64:=hr.units
 have hu1:=hr.units0
 have nd:=sc_common_divisor.nd
 exact(zA4 (zAc (j:=0) nd rfl (by trivial) (zBj zDw rfl T.b_abs ua (zA1 (zA2 0) zA3)))
   (zA4 (zAc (j:=1) nd rfl (by trivial) (zBj zDw rfl T.b_abs ua (zA1 (zA2 1) zA3)))
   (zA4 (zEn vV (zF4 (zA2 1)) (zA4 (zAc (j:=2) nd rfl (by trivial) (zAg zDj (zA2 0) (zA2 1)))
   (zA4 (zAc (j:=0) nd rfl (by trivial) (zA2 1))
   (zA9 (zAc (j:=1) nd rfl (by trivial) (zA2 2))))))
   (zA9 (zAd (zA2 0))))))
noncomputable abbrev zD2:Stmt:=top 9
theorem sc_is_number:zAh n_0 ["text","figures"] (zA6 zD2):=⟨rfl,rfl,rfl,by decide +kernel,rfl,by decide +kernel,by decide +kernel⟩
theorem zK2 {f:Addr}{fd:FuncData}(F:Fun K "is_number" "is_number" zD2 f fd) (T:Txt K mg):FnOk P w K mg base CX0 1 f fd ["text","figures"] (spOf K XE0 DP.zB3):=by
 refine fn_d (k:=0) (b:=DP.zHx) F sc_is_number rfl rfl fun cdv A outer s H E hr=>?_
 have hu:=zC3 hr
 have hu64:=hr.units
 have hu1:=hr.units0
 have nd:=sc_is_number.nd
 exact(zA4 (zAc (j:=2) nd rfl (by trivial) (zNg (zF4 (zEg xP PySem.F.slot_str_startswith PySem.F.type_str_startswith zOl (.inl rfl) (zA2 0) (zA1 zAw zA3))) (zS0 sl_T (zA2 0) (zIl zA5) zXq) (zA2 0)))
   (zA4 (zB4 (zHs (zRw zJy zJy zA5 (zBj zAq rfl T.b_len xQ (zA1 (zA2 2) zA3)) (zA2 1))) (zA9 (zAd zHt)) zAv)
   (zA4 (zB4 (zHs (zF4 (zBj (zG8 rfl) rfl T.b_all PyProof.Rows.boot_all (zA1 (zC5 (zBa rfl (CompScope.mk' (sc:=zA6 zD2) (N:=n_0) (own:=["sign"]) (fre:=[]) (ix:=[]) rfl rfl (by decide +kernel)) (zCs (zA2 2)) (fun cl C s0 H0 fp=>(zAi (j:=0) (show List.Nodup (["sign"]:List Str) by decide +kernel) rfl (Or.inl rfl) (Or.inr rfl))) (fun cl C s0 H0 fp=>zB0) (fun cl C s0 H0 fp=>(zS1 zJy zJy zAw (zA2 0) zAw)))) zA3)))) (zA9 (zAd zHt)) zAv)
   (zA9 (zAd (zYu (zMi (zK0 hu64) (zA2 0) zAw (nomark _)) (zXu (zMi (zE8 hu64) (zBc (ix_D hu) (zA2 2) zA5) zAw (nomark _)))))))))
noncomputable abbrev zB6:Stmt:=top 23
theorem sc_ahead_of_strokes:zAh ["pairs"] ["pairs"] (zA6 zB6):=⟨rfl,rfl,rfl,by decide +kernel,rfl,by decide +kernel,by decide +kernel⟩
theorem zFd {f:Addr}{fd:FuncData}(F:Fun K "ahead_of_strokes" "ahead_of_strokes" zB6 f fd) (T:Txt K mg):FnOk P w K mg base CX0 1 f fd ["pairs"] (spOf K XE0 DP.zAz):=by
 refine fn_d (k:=0) (b:=DP.zDg) F sc_ahead_of_strokes rfl rfl fun cdv A outer s H E hr=>?_
 have hu:=zC3 hr
 have hu64:=hr.units
 have hu1:=hr.units0
 have nd:=sc_ahead_of_strokes.nd
 exact(zA9 (zAd (zDl zAy rfl T.b_tuple xU (zA1 (zC5 (zBa rfl (CompScope.mk' (sc:=zA6 zB6) (N:=["pairs"]) (own:=["pair"]) (fre:=[]) (ix:=[]) rfl rfl (by decide +kernel)) (zCs (zA2 0)) (fun cl C s0 H0 fp=>(zAi (j:=0) (show List.Nodup (["pair"]:List Str) by decide +kernel) rfl (Or.inl rfl) (Or.inr rfl))) (fun cl C s0 H0 fp=>zB0) (fun cl C s0 H0 fp=>(zBc (ix_D hu) (zA2 0) zA5)))) zA3))))
noncomputable abbrev zBm:Stmt:=top 24
theorem sc_behind_strokes:zAh ["pairs"] ["pairs"] (zA6 zBm):=⟨rfl,rfl,rfl,by decide +kernel,rfl,by decide +kernel,by decide +kernel⟩
theorem zG0 {f:Addr}{fd:FuncData}(F:Fun K "behind_strokes" "behind_strokes" zBm f fd) (T:Txt K mg):FnOk P w K mg base CX0 1 f fd ["pairs"] (spOf K XE0 DP.zB5):=by
 refine fn_d (k:=0) (b:=DP.zEb) F sc_behind_strokes rfl rfl fun cdv A outer s H E hr=>?_
 have hu:=zC3 hr
 have hu64:=hr.units
 have hu1:=hr.units0
 have nd:=sc_behind_strokes.nd
 exact(zA9 (zAd (zDl zAy rfl T.b_tuple xU (zA1 (zC5 (zBa rfl (CompScope.mk' (sc:=zA6 zBm) (N:=["pairs"]) (own:=["pair"]) (fre:=[]) (ix:=[]) rfl rfl (by decide +kernel)) (zCs (zA2 0)) (fun cl C s0 H0 fp=>(zAi (j:=0) (show List.Nodup (["pair"]:List Str) by decide +kernel) rfl (Or.inl rfl) (Or.inr rfl))) (fun cl C s0 H0 fp=>zB0) (fun cl C s0 H0 fp=>(zBc (ix_D hu) (zA2 0) zA5)))) zA3))))
noncomputable abbrev zE0:Stmt:=top 30
theorem sc__law_feed:zAh n_10 ["_law_script","_law_k"] (zA6 zE0):=⟨rfl,rfl,rfl,by decide +kernel,rfl,by decide +kernel,by decide +kernel⟩
theorem zK6 {f:Addr}{fd:FuncData}(F:Fun K "_law_feed" "_law_feed" zE0 f fd) (T:Txt K mg):FnOk P w K mg base CX0 1 f fd ["_law_script","_law_k"] (spOf K XE0 DP.zD6):=by
 refine fn_r (k:=0) (b:=DP.zI1) F sc__law_feed rfl rfl fun cdv A outer s H E hr=>?_
 have hu:=zC3 hr
 have hu64:=hr.units
 have hu1:=hr.units0
 have nd:=sc__law_feed.nd
 exact(zA4 (zAc (j:=2) nd rfl (by trivial) (zAg zAf (zAg zDi zA5 (zA2 1)) zA5))
   (zA4 (zB4 (zAn (zHe hu64) (zA2 1) (zBj zAq rfl T.b_len xQ (zA1 (zA2 0) zA3)) (nomark _)) (zA9 (zAc (j:=2) nd rfl (by trivial) (zBc (ix_D hu) (zA2 0) (zA2 1)))) (zA9 (zB4 (zAn zHf (zBj zAq rfl T.b_len xQ (zA1 (zA2 0) zA3)) zA5 (nomark _)) (zA9 (zAc (j:=2) nd rfl (by trivial) (zAg zAf (zAg zDi (zAg zDj (zBc (ix_D hu) (zA2 0) (zAg zDj (zA2 1) (zBj zAq rfl T.b_len xQ (zA1 (zA2 0) zA3)))) zA5) zA5) (zAg zDi zA5 (zA2 1))))) zAv)))
   (zA4 (zAc (j:=3) nd rfl (by trivial) zA5)
   (zA4 (zB4 (zAn zOf (zA2 2) (zAg zEi zA5 zA5) (nomark _)) (zA9 (zAc (j:=3) nd rfl (by trivial) (zA2 2))) zAv)
   (zA9 (zAd (zPb (zDt (zA1 (zA2 3) (zA1 (zAg zAf (zAg zDj (zAg zEi (zAg zAf (zAg zDi (zAg zDj (zA2 2) zA5) zA5) (zAg zDi zA5 (zA2 1))) zA5) zA5) zA5) zA3))))))))))
noncomputable abbrev zDz:Stmt:=top 31
theorem sc__law_take:zAh n_11 ["_law_feed_here","_law_many"] (zA6 zDz):=⟨rfl,rfl,rfl,by decide +kernel,rfl,by decide +kernel,by decide +kernel⟩
theorem zK4 {f:Addr}{fd:FuncData}(F:Fun K "_law_take" "_law_take" zDz f fd) (T:Txt K mg):FnOk P w K mg base CX0 1 f fd ["_law_feed_here","_law_many"] (spOf K XE0 DP.zA8):=by
 refine fn_d (k:=0) (b:=DP.zHz) F sc__law_take rfl rfl fun cdv A outer s H E hr=>?_
 have hu:=zC3 hr
 have hu64:=hr.units
 have hu1:=hr.units0
 have nd:=sc__law_take.nd
 exact(zA4 (zB4 (zAn zHf (zBc (ix_D hu) (zA2 0) zA5) zA5 (nomark _)) (zA4 (zAc (j:=2) nd rfl (by trivial) (zAg zDj (zBc (ix_D hu) (zA2 0) zA5) (zA2 1)))
   (zA4 (zP7 (zVp hu) (zA2 0) zA5 (zAg zEu (zBc (ix_D hu) (zA2 0) zA5) (zA2 1)))
   (zA9 (zAd (zA2 2))))) zAv)
   (zA4 (zAc (j:=3) nd rfl (by trivial) (zAg zDj (zAg zDi (zBc (ix_D hu) (zA2 0) zA5) zA5) zA5))
   (zA4 (zP7 (zVp hu) (zA2 0) zA5 (zAg zAf (zAg zDj (zAg zAf (zAg zDi (zA2 3) zA5) zA5) zA5) zA5))
   (zA9 (zAd (zAg zDj (zAg zEu (zAg zAf (zAg zDi (zA2 3) zA5) (zBc (ix_D hu) (zA2 0) zA5)) zA5) (zA2 1)))))))
noncomputable abbrev zDd:Stmt:=top 32
theorem sc__law_alike:zAh n_12 ["_law_found","_law_due"] (zA6 zDd):=⟨rfl,rfl,rfl,by decide +kernel,rfl,by decide +kernel,by decide +kernel⟩
theorem zJ9 {f:Addr}{fd:FuncData}(F:Fun K "_law_alike" "_law_alike" zDd f fd) (T:Txt K mg):FnOk P w K mg base CX0 1 f fd ["_law_found","_law_due"] (spOf K XE0 DP.zAm):=by
 refine fn_d (k:=0) (b:=DP.zGo) F sc__law_alike rfl rfl fun cdv A outer s H E hr=>?_
 have hu:=zC3 hr
 have hu64:=hr.units
 have hu1:=hr.units0
 have nd:=sc__law_alike.nd
 exact(zA4 (zAc (j:=2) nd rfl (by trivial) (zPb (zDt (zA1 (zDu (zA1 (zA2 0) (zA1 (zA2 1) zA3))) zA3))))
   (zA4 (zEn vV (zAn zHf (zBj zAq rfl T.b_len xQ (zA1 (zA2 2) zA3)) zA5 (nomark _)) (zA4 (zV0 (zXv PySem.F.plainAttrs_list PySem.F.slot_list_pop PySem.F.type_list_pop zUe (.inr (.inl rfl)) (zA2 2)) (zGh rfl (zBb (zAi (j:=3) nd rfl (by trivial)) (zBb (zAi (j:=4) nd rfl (by trivial)) zEp))))
   (zA4 (zB4 (dt_w (zJf (zAn (zE8 hu64) (zBj zCk rfl T.b_isinstance vx (zA1 (zA2 3) (zA1 (zJi rfl T.b_bool PyProof.Rows.boot_bool rfl) zA3))) (zBj zCk rfl T.b_isinstance vx (zA1 (zA2 4) (zA1 (zJi rfl T.b_bool PyProof.Rows.boot_bool rfl) zA3))) (nomark _)) (zGg (zAn (zE8 hu64) (zBj zCk rfl T.b_isinstance vx (zA1 (zA2 3) (zA1 (zJi rfl T.b_tuple xU rfl) zA3))) (zBj zCk rfl T.b_isinstance vx (zA1 (zA2 4) (zA1 (zJi rfl T.b_tuple xU rfl) zA3))) (nomark _))))) (zA9 (zAd zHt)) zAv)
   (zA4 (zB4 (dt_w (zJf (zAn (zE8 hu64) (zBj zCk rfl T.b_isinstance vx (zA1 (zA2 3) (zA1 (zJi rfl T.b_int ub rfl) zA3))) (zBj zCk rfl T.b_isinstance vx (zA1 (zA2 4) (zA1 (zJi rfl T.b_int ub rfl) zA3))) (nomark _)) (zGg (zAn (zE8 hu64) (zBj zCk rfl T.b_isinstance vx (zA1 (zA2 3) (zA1 (zJi rfl T.b_str vJ rfl) zA3))) (zBj zCk rfl T.b_isinstance vx (zA1 (zA2 4) (zA1 (zJi rfl T.b_str vJ rfl) zA3))) (nomark _))))) (zA9 (zAd zHt)) zAv)
   (zA9 (zB4 (zF4 (zBj zCk rfl T.b_isinstance vx (zA1 (zA2 4) (zA1 (zJi rfl T.b_tuple xU rfl) zA3)))) (zA4 (zB4 (zAn (zE8 hu64) (zBj zAq rfl T.b_len xQ (zA1 (zA2 3) zA3)) (zBj zAq rfl T.b_len xQ (zA1 (zA2 4) zA3)) (nomark _)) (zA9 (zAd zHt)) zAv)
   (zA9 (zMd (zEg PySem.F.plainAttrs_list PySem.F.slot_list_extend PySem.F.type_list_extend zN4 (.inr (.inl rfl)) (zA2 2) (zA1 (zC5 (zNf rfl (zA1 (zA2 3) (zA1 (zA2 4) zA3)) rfl T.b_list rfl T.b_zip)) zA3))))) (zA9 (zB4 (zAn (zE8 hu64) (zA2 3) (zA2 4) (nomark _)) (zA9 (zAd zHt)) zAv))))))))
   (zA9 (zAd zHt))))
noncomputable abbrev zCw:Stmt:=top 36
theorem sc__law_common:zAh ["_law_one","_law_other"] ["_law_one","_law_other"] (zA6 zCw):=⟨rfl,rfl,rfl,by decide +kernel,rfl,by decide +kernel,by decide +kernel⟩
theorem zIb {f:Addr}{fd:FuncData}(F:Fun K "_law_common" "_law_common" zCw f fd) (T:Txt K mg):FnOk P w K mg base CX0 1 f fd ["_law_one","_law_other"] (spOf K XE0 DP.zCx):=by
 refine fn_d (k:=0) (b:=DP.zFv) F sc__law_common rfl rfl fun cdv A outer s H E hr=>?_
 have hu:=zC3 hr
 have hu64:=hr.units
 have hu1:=hr.units0
 have nd:=sc__law_common.nd
 exact(zA4 (zEn vV (zAn (zE8 hu64) (zA2 1) zA5 (nomark _)) (zA9 (zRx (i:=0) (j:=1) rfl nd rfl rfl (by decide) rfl rfl (zA1 (zA2 1) (zA1 (zAg zDj (zA2 0) (zA2 1)) zA3)) rfl)))
   (zA9 (zAd (zBj zDw rfl T.b_abs ua (zA1 (zA2 0) zA3)))))
noncomputable abbrev zD3:Stmt:=top 39
theorem sc__law_said:zAh ["_law_cells"] ["_law_cells"] (zA6 zD3):=⟨rfl,rfl,rfl,by decide +kernel,rfl,by decide +kernel,by decide +kernel⟩
theorem zK5 {f:Addr}{fd:FuncData}(F:Fun K "_law_said" "_law_said" zD3 f fd) (T:Txt K mg):FnOk P w K mg base CX0 1 f fd ["_law_cells"] (spOf K XE0 DP.zAe):=by
 refine fn_d (k:=0) (b:=DP.zI0) F sc__law_said rfl rfl fun cdv A outer s H E hr=>?_
 have hu:=zC3 hr
 have hu64:=hr.units
 have hu1:=hr.units0
 have nd:=sc__law_said.nd
 exact(zA9 (zAd (zEg xP vK vL zDe (.inl rfl) zAw (zA1 (zC5 (zBa rfl (CompScope.mk' (sc:=zA6 zD3) (N:=["_law_cells"]) (own:=["_law_x","_law_y"]) (fre:=[]) (ix:=[]) rfl rfl (by decide +kernel)) (zCs (zA2 0)) (fun cl C s0 H0 fp=>(zGh rfl (zBb (zAi (j:=0) (show List.Nodup (["_law_x","_law_y"]:List Str) by decide +kernel) rfl (Or.inl rfl) (Or.inr rfl)) (zBb (zAi (j:=1) (show List.Nodup (["_law_x","_law_y"]:List Str) by decide +kernel) rfl (Or.inl rfl) (Or.inr rfl)) zEp)))) (fun cl C s0 H0 fp=>zB0) (fun cl C s0 H0 fp=>(zAg zAf (zAg zAf (zDl zDv rfl T.b_str vJ (zA1 (zA2 0) zA3)) zAw) (zDl zDv rfl T.b_str vJ (zA1 (zA2 1) zA3)))))) zA3))))
noncomputable abbrev zBn:Stmt:=top 41
theorem sc__law_is_handed:zAh ["_law_paper_here"] ["_law_paper_here"] (zA6 zBn):=⟨rfl,rfl,rfl,by decide +kernel,rfl,by decide +kernel,by decide +kernel⟩
theorem zG1 {f:Addr}{fd:FuncData}(F:Fun K "_law_is_handed" "_law_is_handed" zBn f fd) (T:Txt K mg):FnOk P w K mg base CX0 1 f fd ["_law_paper_here"] (spOf K XE0 DP.zAs):=by
 refine fn_d (k:=0) (b:=DP.zEc) F sc__law_is_handed rfl rfl fun cdv A outer s H E hr=>?_
 have hu:=zC3 hr
 have hu64:=hr.units
 have hu1:=hr.units0
 have nd:=sc__law_is_handed.nd
 exact(zA4 (zB4 (zAn (zK0 hu64) (zBc (ix_D hu) (zA2 0) zA5) zAw (nomark _)) (zA9 (zAd zHt)) zAv)
   (zA9 (zAd (zMi zJy (zBj (zPp rfl) rfl T.b_max PyProof.Rows.boot_max (zA1 (zC5 (zBa rfl (CompScope.mk' (sc:=zA6 zBn) (N:=["_law_paper_here"]) (own:=["_law_x","_law_y"]) (fre:=[]) (ix:=[]) rfl rfl (by decide +kernel)) (zCs (zBc (ix_D hu) (zA2 0) zA5)) (fun cl C s0 H0 fp=>(zGh rfl (zBb (zAi (j:=0) (show List.Nodup (["_law_x","_law_y"]:List Str) by decide +kernel) rfl (Or.inl rfl) (Or.inr rfl)) (zBb (zAi (j:=1) (show List.Nodup (["_law_x","_law_y"]:List Str) by decide +kernel) rfl (Or.inl rfl) (Or.inr rfl)) zEp)))) (fun cl C s0 H0 fp=>zB0) (fun cl C s0 H0 fp=>(zBj (zIo rfl) rfl T.b_max PyProof.Rows.boot_max (zA1 (zBj zDw rfl T.b_abs ua (zA1 (zA2 0) zA3)) (zA1 (zBj zDw rfl T.b_abs ua (zA1 (zA2 1) zA3)) zA3)))))) zA3)) (zAg zEi zA5 zA5) (nomark _)))))
noncomputable abbrev zBx:Stmt:=top 12
theorem sc_show_number:zAh n_13 ["number"] (zA6 zBx):=⟨rfl,rfl,rfl,by decide +kernel,rfl,by decide +kernel,by decide +kernel⟩
theorem zHj {f:Addr}{fd:FuncData}(F:Fun K "show_number" "show_number" zBx f fd) (T:Txt K mg):FnOk P w K mg base CX0 1 f fd ["number"] (spOf K XE0 DP.zDk):=by
 refine fn_d (k:=0) (b:=DP.zF8) F sc_show_number rfl rfl fun cdv A outer s H E hr=>?_
 have hu:=zC3 hr
 have hu64:=hr.units
 have hu1:=hr.units0
 have nd:=sc_show_number.nd
 exact zV1
noncomputable abbrev zBp:Stmt:=top 10
theorem sc_read_numbers:zAh n_1 n_7 (zA6 zBp):=⟨rfl,rfl,rfl,by decide +kernel,rfl,by decide +kernel,by decide +kernel⟩
theorem zHk {f:Addr}{fd:FuncData}(F:Fun K "read_numbers" "read_numbers" zBp f fd) (T:Txt K mg) (C_is_number:zFj P w K mg base):FnOk P w K mg base CX0 2 f fd n_7 (spOf K XE0 DP.zB9):=by
 refine fn_d (k:=1) (b:=DP.zF9) F sc_read_numbers rfl rfl fun cdv A outer s H E hr=>?_
 have hu:=zC3 hr
 have hu64:=hr.units
 have hu1:=hr.units0
 have nd:=sc_read_numbers.nd
 exact(zA4 (zAc (j:=3) nd rfl (by trivial) (zEg xP vF ur zEj (.inl rfl) (zA2 0) (zA1 zAw zA3)))
   (zA4 (zB4 (dt_w (zJf (zAn (zE8 hu64) (zBj zAq rfl T.b_len xQ (zA1 (zA2 3) zA3)) (zA2 1) (nomark _)) (zGg (zHs (zF4 (zBj (zG8 rfl) rfl T.b_all PyProof.Rows.boot_all (zA1 (zC5 (zBa rfl (CompScope.mk' (sc:=zA6 zBp) (N:=n_1) (own:=["word"]) (fre:=["figures"]) (ix:=[2]) rfl rfl (by decide +kernel)) (zCs (zA2 3)) (fun cl C s0 H0 fp=>(zAi (j:=0) (show List.Nodup (["word","figures"]:List Str) by decide +kernel) rfl (Or.inl rfl) (Or.inr rfl))) (fun cl C s0 H0 fp=>zB0) (fun cl C s0 H0 fp=>(zAa C_is_number (hr.mono (by decide)) rfl (zA1 (zA2 0) (zA1 (zA2 1) zA3)))))) zA3))))))) (zA9 (zAd zDf)) zAv)
   (zA9 (zAd (zDl zAy rfl T.b_tuple xU (zA1 (zC5 (zBa rfl (CompScope.mk' (sc:=zA6 zBp) (N:=n_1) (own:=["word"]) (fre:=[]) (ix:=[]) rfl rfl (by decide +kernel)) (zCs (zA2 3)) (fun cl C s0 H0 fp=>(zAi (j:=0) (show List.Nodup (["word"]:List Str) by decide +kernel) rfl (Or.inl rfl) (Or.inr rfl))) (fun cl C s0 H0 fp=>zB0) (fun cl C s0 H0 fp=>(zDl zG7 rfl T.b_int ub (zA1 (zA2 0) zA3))))) zA3))))))
noncomputable abbrev zCf:Stmt:=top 28
theorem sc_fraction_in:zAh n_3 ["text"] (zA6 zCf):=⟨rfl,rfl,rfl,by decide +kernel,rfl,by decide +kernel,by decide +kernel⟩
theorem zI9 {f:Addr}{fd:FuncData}(F:Fun K "fraction_in" "fraction_in" zCf f fd) (T:Txt K mg) (C_common_divisor:zEd P w K mg base) (C_is_number:zFj P w K mg base):FnOk P w K mg base CX0 2 f fd ["text"] (spOf K XE0 DP.zBz):=by
 refine fn_d (k:=1) (b:=DP.zFu) F sc_fraction_in rfl rfl fun cdv A outer s H E hr=>?_
 have hu:=zC3 hr
 have hu64:=hr.units
 have hu1:=hr.units0
 have nd:=sc_fraction_in.nd
 obtain⟨_,hc_MOST_FIGURES,rc_MOST_FIGURES⟩:=T.c_MOST_FIGURES
 exact(zA4 (zAc (j:=1) nd rfl (by trivial) (zEg xP vF ur zEj (.inl rfl) (zA2 0) (zA1 zAw zA3)))
   (zA4 (zB4 (dt_w (zJf (zAn zHf (zBj zAq rfl T.b_len xQ (zA1 (zA2 1) zA3)) zA5 (nomark _)) (zGg (zHs (zF4 (zBj (zG8 rfl) rfl T.b_all PyProof.Rows.boot_all (zA1 (zC5 (zBa rfl (CompScope.mk' (sc:=zA6 zCf) (N:=n_3) (own:=["word"]) (fre:=[]) (ix:=[]) rfl rfl (by decide +kernel)) (zCs (zA2 1)) (fun cl C s0 H0 fp=>(zAi (j:=0) (show List.Nodup (["word"]:List Str) by decide +kernel) rfl (Or.inl rfl) (Or.inr rfl))) (fun cl C s0 H0 fp=>zB0) (fun cl C s0 H0 fp=>(zAa C_is_number (hr.mono (by decide)) rfl (zA1 (zA2 0) (zA1 (de_c (zBy rfl hc_MOST_FIGURES rc_MOST_FIGURES) fun _ _=>rfl) zA3)))))) zA3))))))) (zA9 (zAd zDf)) zAv)
   (zA4 (zAc (j:=2) nd rfl (by trivial) (zDl zG7 rfl T.b_int ub (zA1 (zBc (ix_D hu) (zA2 1) zA5) zA3)))
   (zA4 (zB4 (zAn zK1 (zBj zAq rfl T.b_len xQ (zA1 (zA2 1) zA3)) zA5 (nomark _)) (zA9 (zAd (zDu (zA1 (zA2 2) (zA1 zA5 zA3))))) zAv)
   (zA4 (zAc (j:=3) nd rfl (by trivial) (zDl zG7 rfl T.b_int ub (zA1 (zBc (ix_D hu) (zA2 1) zA5) zA3)))
   (zA9 (zAd (zNg (dt_w (zSr (zAn zHf (zA2 3) zA5 (nomark _)) (zP6 (zAn zK1 (zAa C_common_divisor (hr.mono (by decide)) rfl (zA1 (zA2 2) (zA1 (zA2 3) zA3))) zA5 (nomark _))))) (zDu (zA1 (zA2 2) (zA1 (zA2 3) zA3))) zDf))))))))
noncomputable abbrev zCv:Stmt:=top 33
theorem sc__law_number:zAh ["_law_feed_here","_law_far"] ["_law_feed_here"] (zA6 zCv):=⟨rfl,rfl,rfl,by decide +kernel,rfl,by decide +kernel,by decide +kernel⟩
theorem zIa {f:Addr}{fd:FuncData}(F:Fun K "_law_number" "_law_number" zCv f fd) (T:Txt K mg) (C__law_take:zD8 P w K mg base):FnOk P w K mg base CX0 2 f fd ["_law_feed_here"] (spOf K XE0 DP.zBi):=by
 refine fn_d (k:=1) (b:=DP.zCy) F sc__law_number rfl rfl fun cdv A outer s H E hr=>?_
 have hu:=zC3 hr
 have hu64:=hr.units
 have hu1:=hr.units0
 have nd:=sc__law_number.nd
 exact(zA4 (zAc (j:=1) nd rfl (by trivial) (zBc (ix_D hu) (zC5 (zDt (zA1 zA5 (zA1 zA5 (zA1 zA5 (zA1 (zAg zEi zA5 zA5) (zA1 (zAg zHd (zAg zEi zA5 zA5) zA5) zA3))))))) (zAa C__law_take (hr.mono (by decide)) rfl (zA1 (zA2 0) (zA1 zA5 zA3)))))
   (zA9 (zAd (zAg zHd (zAa C__law_take (hr.mono (by decide)) rfl (zA1 (zA2 0) (zA1 (zAg zAf (zAg zDi zA5 (zA2 1)) zA5) zA3))) (zA2 1)))))
noncomputable abbrev zCa:Stmt:=top 40
theorem sc__law_text:zAh n_5 ["_law_paper_here"] (zA6 zCa):=⟨rfl,rfl,rfl,by decide +kernel,rfl,by decide +kernel,by decide +kernel⟩
theorem zK3 {f:Addr}{fd:FuncData}(F:Fun K "_law_text" "_law_text" zCa f fd) (T:Txt K mg) (C__law_said:zI4 P w K mg base):FnOk P w K mg base CX0 2 f fd ["_law_paper_here"] (spOf K XE0 DP.zBv):=by
 refine fn_d (k:=1) (b:=DP.zHy) F sc__law_text rfl rfl fun cdv A outer s H E hr=>?_
 have hu:=zC3 hr
 have hu64:=hr.units
 have hu1:=hr.units0
 have nd:=sc__law_text.nd
 exact(zA4 (zB4 (zAn (zK0 hu64) (zBc (ix_D hu) (zA2 0) zA5) zAw (nomark _)) (zA4 (zJg (j:=1) nd rfl (by trivial) rfl (CompScope.mk' (sc:=zA6 zCa) (N:=n_5) (own:=["_law_row_here","_law_one"]) (fre:=[]) (ix:=[]) rfl rfl (by decide +kernel)) (zP9 true true rfl T.b_zip (zA1 (zBc (ix_D hu) (zA2 0) zA5) (zA1 (zBc (ix_D hu) (zA2 0) zA5) zA3))) (fun cl C s0 H0 fp=>(zGh rfl (zBb (zAi (j:=0) (show List.Nodup (["_law_row_here","_law_one"]:List Str) by decide +kernel) rfl (Or.inl rfl) (Or.inr rfl)) (zBb (zAi (j:=1) (show List.Nodup (["_law_row_here","_law_one"]:List Str) by decide +kernel) rfl (Or.inl rfl) (Or.inr rfl)) zEp)))) (fun cl C s0 H0 fp=>zB0) (fun cl C s0 H0 fp=>(zAg zAf (zAg zAf (zAa C__law_said (hr.mono (by decide)) rfl (zA1 (zC5 (zDt (zA1 (zA2 1) zA3))) zA3)) zAw) (zAa C__law_said (hr.mono (by decide)) rfl (zA1 (zA2 0) zA3)))))
   (zA9 (zAd (zEg xP vK vL zDe (.inl rfl) zAw (zA1 (zAg zAf (zC5 (zDt (zA1 zAw zA3))) (zA2 1)) zA3))))) zAv)
   (zA4 (zJg (j:=2) nd rfl (by trivial) rfl (CompScope.mk' (sc:=zA6 zCa) (N:=n_5) (own:=["_law_upper","_law_lower"]) (fre:=[]) (ix:=[]) rfl rfl (by decide +kernel)) (zCs (zBc (ix_D hu) (zA2 0) zA5)) (fun cl C s0 H0 fp=>(zGh rfl (zBb (zAi (j:=0) (show List.Nodup (["_law_upper","_law_lower"]:List Str) by decide +kernel) rfl (Or.inl rfl) (Or.inr rfl)) (zBb (zAi (j:=1) (show List.Nodup (["_law_upper","_law_lower"]:List Str) by decide +kernel) rfl (Or.inl rfl) (Or.inr rfl)) zEp)))) (fun cl C s0 H0 fp=>zB0) (fun cl C s0 H0 fp=>(zAg zAf (zDl zDv rfl T.b_str vJ (zA1 (zA2 0) zA3)) (zAg zUa (zAg zAf zAw (zDl zDv rfl T.b_str vJ (zA1 (zA2 1) zA3))) (zDl zPs rfl T.b_int ub (zA1 (zMi zHf (zA2 1) zA5 (nomark _)) zA3))))))
   (zA4 (zAc (j:=1) nd rfl (by trivial) (zC5 (zDt (zA1 (zAg zAf zAw (zEg xP vK vL zDe (.inl rfl) zAw (zA1 (zA2 2) zA3))) (zA1 (zAa C__law_said (hr.mono (by decide)) rfl (zA1 (zS0 sl_D (zA2 0) (zIl zA5) (zIl zA5)) zA3)) zA3)))))
   (zA9 (zAd (zEg xP vK vL zDe (.inl rfl) zAw (zA1 (zAg zAf (zA2 1) (zC5 (zBa rfl (CompScope.mk' (sc:=zA6 zCa) (N:=n_5) (own:=["_law_one","_law_row_here"]) (fre:=[]) (ix:=[]) rfl rfl (by decide +kernel)) (zP9 true true rfl T.b_zip (zA1 (zBc (ix_D hu) (zA2 0) zA5) (zA1 (zBc (ix_D hu) (zA2 0) zA5) zA3))) (fun cl C s0 H0 fp=>(zGh rfl (zBb (zAi (j:=0) (show List.Nodup (["_law_one","_law_row_here"]:List Str) by decide +kernel) rfl (Or.inl rfl) (Or.inr rfl)) (zBb (zAi (j:=1) (show List.Nodup (["_law_one","_law_row_here"]:List Str) by decide +kernel) rfl (Or.inl rfl) (Or.inr rfl)) zEp)))) (fun cl C s0 H0 fp=>zB0) (fun cl C s0 H0 fp=>(zAg zAf (zAg zAf (zAa C__law_said (hr.mono (by decide)) rfl (zA1 (zC5 (zDt (zA1 (zA2 0) zA3))) zA3)) zAw) (zAa C__law_said (hr.mono (by decide)) rfl (zA1 (zA2 1) zA3))))))) zA3)))))))
theorem zHi {f:Addr}{fd:FuncData}(F:Fun K "show_number" "show_number" zBx f fd) (T:Txt K mg) (C_show_number0:zFb P w K mg base):FnOk P w K mg base CX0 2 f fd ["number"] (spOf K XE0 DP.zCn):=by
 refine fn_d (k:=1) (b:=DP.zF7) F sc_show_number rfl rfl fun cdv A outer s H E hr=>?_
 have hu:=zC3 hr
 have hu64:=hr.units
 have hu1:=hr.units0
 have nd:=sc_show_number.nd
 exact(zA4 (zB4 (zAn (zHe hu64) (zA2 0) zA5 (nomark _)) (zA9 (zAd (zAg zAf zAw (zAa C_show_number0 (hr.mono (by decide)) rfl (zA1 (zV3 zL0 (zA2 0)) zA3))))) zAv)
   (zA4 (zAc (j:=1) nd rfl (by trivial) (zAg zEi zA5 zA5))
   (zA4 (zAc (j:=2) nd rfl (by trivial) zAw)
   (zA4 (zEn vV (zAn zOf (zA2 0) (zA2 1) (nomark _)) (zA4 (zAc (j:=2) nd rfl (by trivial) (zAg zAf zSs (zA2 2)))
   (zA9 (zAc (j:=0) nd rfl (by trivial) (zAg zEu (zA2 0) (zA2 1))))))
   (zA9 (zAd (zAg zAf (zDl zDv rfl T.b_str vJ (zA1 (zA2 0) zA3)) (zA2 2))))))))
theorem zI8 {f:Addr}{fd:FuncData}(F:Fun K "show_number" "show_number" zBx f fd) (T:Txt K mg) (C_show_number1:zFa P w K mg base):FnOk P w K mg base CX0 3 f fd ["number"] (spOf K XE0 DP.zBh):=by
 refine fn_d (k:=2) (b:=DP.zFt) F sc_show_number rfl rfl fun cdv A outer s H E hr=>?_
 have hu:=zC3 hr
 have hu64:=hr.units
 have hu1:=hr.units0
 have nd:=sc_show_number.nd
 exact(zA4 (zB4 (zAn (zHe hu64) (zA2 0) zA5 (nomark _)) (zA9 (zAd (zAg zAf zAw (zAa C_show_number1 (hr.mono (by decide)) rfl (zA1 (zV3 zL0 (zA2 0)) zA3))))) zAv)
   (zA4 (zAc (j:=1) nd rfl (by trivial) (zAg zEi zA5 zA5))
   (zA4 (zAc (j:=2) nd rfl (by trivial) zAw)
   (zA4 (zEn vV (zAn zOf (zA2 0) (zA2 1) (nomark _)) (zA4 (zAc (j:=2) nd rfl (by trivial) (zAg zAf zSs (zA2 2)))
   (zA9 (zAc (j:=0) nd rfl (by trivial) (zAg zEu (zA2 0) (zA2 1))))))
   (zA9 (zAd (zAg zAf (zDl zDv rfl T.b_str vJ (zA1 (zA2 0) zA3)) (zA2 2))))))))
noncomputable abbrev zDq:Stmt:=top 26
theorem sc_cells_in:zAh ["text","cells"] ["text"] (zA6 zDq):=⟨rfl,rfl,rfl,by decide +kernel,rfl,by decide +kernel,by decide +kernel⟩
theorem zL8 {f:Addr}{fd:FuncData}(F:Fun K "cells_in" "cells_in" zDq f fd) (T:Txt K mg) (C_read_numbers:zDo P w K mg base):FnOk P w K mg base CX0 3 f fd ["text"] (spOf K XE0 DP.zDs):=by
 refine fn_d (k:=2) (b:=DP.zIq) F sc_cells_in rfl rfl fun cdv A outer s H E hr=>?_
 have hu:=zC3 hr
 have hu64:=hr.units
 have hu1:=hr.units0
 have nd:=sc_cells_in.nd
 obtain⟨_,hc_MOST_FIGURES,rc_MOST_FIGURES⟩:=T.c_MOST_FIGURES
 exact(zA4 (zAc (j:=1) nd rfl (by trivial) (zDl zAy rfl T.b_tuple xU (zA1 (zC5 (zBa rfl (CompScope.mk' (sc:=zA6 zDq) (N:=["text","cells"]) (own:=["word"]) (fre:=[]) (ix:=[]) rfl rfl (by decide +kernel)) (zCs (zEg xP vF ur zEj (.inl rfl) (zA2 0) (zA1 zAw zA3))) (fun cl C s0 H0 fp=>(zAi (j:=0) (show List.Nodup (["word"]:List Str) by decide +kernel) rfl (Or.inl rfl) (Or.inr rfl))) (fun cl C s0 H0 fp=>zB0) (fun cl C s0 H0 fp=>(zAa C_read_numbers (hr.mono (by decide)) rfl (zA1 (zA2 0) (zA1 zA5 (zA1 (de_c (zBy rfl hc_MOST_FIGURES rc_MOST_FIGURES) fun _ _=>rfl) zA3))))))) zA3)))
   (zA9 (zAd (zNg (zAn (zOe hu64) zDf (zA2 1) (by with_unfolding_all rfl)) zDf (zA2 1)))))
noncomputable abbrev zDp:Stmt:=top 27
theorem sc_point_in:zAh n_2 ["row"] (zA6 zDp):=⟨rfl,rfl,rfl,by decide +kernel,rfl,by decide +kernel,by decide +kernel⟩
theorem zL7 {f:Addr}{fd:FuncData}(F:Fun K "point_in" "point_in" zDp f fd) (T:Txt K mg) (C_fraction_in:zFx P w K mg base):FnOk P w K mg base CX0 3 f fd ["row"] (spOf K XE0 DP.zF1):=by
 refine fn_d (k:=2) (b:=DP.zIp) F sc_point_in rfl rfl fun cdv A outer s H E hr=>?_
 have hu:=zC3 hr
 have hu64:=hr.units
 have hu1:=hr.units0
 have nd:=sc_point_in.nd
 obtain⟨_,hc_LIVES,rc_LIVES⟩:=T.c_LIVES
 exact(zA4 (zAc (j:=1) nd rfl (by trivial) (zEg xP PySem.F.slot_str_partition PySem.F.type_str_partition zM4 (.inl rfl) (zA2 0) (zA1 zAw zA3)))
   (zA4 (zAc (j:=2) nd rfl (by trivial) (zDl zAy rfl T.b_tuple xU (zA1 (zC5 (zBa rfl (CompScope.mk' (sc:=zA6 zDp) (N:=n_2) (own:=["word"]) (fre:=[]) (ix:=[]) rfl rfl (by decide +kernel)) (zCs (zEg xP vF ur zEj (.inl rfl) (zBc (ix_D hu) (zA2 1) zA5) (zA1 zAw zA3))) (fun cl C s0 H0 fp=>(zAi (j:=0) (show List.Nodup (["word"]:List Str) by decide +kernel) rfl (Or.inl rfl) (Or.inr rfl))) (fun cl C s0 H0 fp=>zB0) (fun cl C s0 H0 fp=>(zAa C_fraction_in (hr.mono (by decide)) rfl (zA1 (zA2 0) zA3))))) zA3)))
   (zA4 (zB4 (dt_w (zJf (zAn (zE8 hu64) (zBc (ix_D hu) (zA2 1) zA5) (de_c (zBy rfl hc_LIVES rc_LIVES) fun _ _=>rfl) (nomark _)) (zJf (zAn (zE8 hu64) (zBj zAq rfl T.b_len xQ (zA1 (zA2 2) zA3)) zA5 (nomark _)) (zGg (zAn (zOe hu64) zDf (zA2 2) (by with_unfolding_all rfl)))))) (zA9 (zAd zDf)) zAv)
   (zA9 (zAd (zA2 2))))))
noncomputable abbrev zE1:Stmt:=top 34
theorem sc__law_cell:zAh ["_law_feed_here"] ["_law_feed_here"] (zA6 zE1):=⟨rfl,rfl,rfl,by decide +kernel,rfl,by decide +kernel,by decide +kernel⟩
theorem zK7 {f:Addr}{fd:FuncData}(F:Fun K "_law_cell" "_law_cell" zE1 f fd) (T:Txt K mg) (C__law_number:zE7 P w K mg base):FnOk P w K mg base CX0 3 f fd ["_law_feed_here"] (spOf K XE0 DP.zAk):=by
 refine fn_d (k:=2) (b:=DP.zE5) F sc__law_cell rfl rfl fun cdv A outer s H E hr=>?_
 have hu:=zC3 hr
 have hu64:=hr.units
 have hu1:=hr.units0
 have nd:=sc__law_cell.nd
 exact(zA9 (zAd (zDu (zA1 (zAa C__law_number (hr.mono (by decide)) rfl (zA1 (zA2 0) zA3)) (zA1 (zAa C__law_number (hr.mono (by decide)) rfl (zA1 (zA2 0) zA3)) zA3)))))
noncomputable abbrev zCg:Stmt:=top 37
theorem sc__law_fraction:zAh n_14 ["_law_feed_here"] (zA6 zCg):=⟨rfl,rfl,rfl,by decide +kernel,rfl,by decide +kernel,by decide +kernel⟩
theorem zGx {f:Addr}{fd:FuncData}(F:Fun K "_law_fraction" "_law_fraction" zCg f fd) (T:Txt K mg) (C__law_number:zE7 P w K mg base) (C__law_common:zFy P w K mg base) (C__law_take:zD8 P w K mg base):FnOk P w K mg base CX0 3 f fd ["_law_feed_here"] (spOf K XE0 DP.zBw):=by
 refine fn_d (k:=2) (b:=DP.zCl) F sc__law_fraction rfl rfl fun cdv A outer s H E hr=>?_
 have hu:=zC3 hr
 have hu64:=hr.units
 have hu1:=hr.units0
 have nd:=sc__law_fraction.nd
 exact(zA4 (zAc (j:=1) nd rfl (by trivial) (zAa C__law_number (hr.mono (by decide)) rfl (zA1 (zA2 0) zA3)))
   (zA4 (zAc (j:=2) nd rfl (by trivial) (zAg zAf zA5 (zBj zDw rfl T.b_abs ua (zA1 (zBc (ix_D hu) (zC5 (zDt (zA1 zA5 (zA1 (zAa C__law_number (hr.mono (by decide)) rfl (zA1 (zA2 0) zA3)) zA3)))) (zAa C__law_take (hr.mono (by decide)) rfl (zA1 (zA2 0) (zA1 zA5 zA3)))) zA3))))
   (zA4 (zAc (j:=2) nd rfl (by trivial) (zBj (zIn rfl) rfl T.b_min PyProof.Rows.boot_min (zA1 (zA2 2) (zA1 (zAg zHd (zAg zEi zA5 zA5) zA5) zA3))))
   (zA4 (zAc (j:=3) nd rfl (by trivial) (zAa C__law_common (hr.mono (by decide)) rfl (zA1 (zA2 1) (zA1 (zA2 2) zA3))))
   (zA9 (zAd (zDu (zA1 (zAg zEu (zA2 1) (zA2 3)) (zA1 (zAg zEu (zA2 2) (zA2 3)) zA3)))))))))
noncomputable abbrev zC4:Stmt:=top 11
theorem sc_show_numbers:zAh ["numbers"] ["numbers"] (zA6 zC4):=⟨rfl,rfl,rfl,by decide +kernel,rfl,by decide +kernel,by decide +kernel⟩
theorem zHh {f:Addr}{fd:FuncData}(F:Fun K "show_numbers" "show_numbers" zC4 f fd) (T:Txt K mg) (C_show_number:zE6 P w K mg base):FnOk P w K mg base CX0 4 f fd ["numbers"] (spOf K XE0 DP.zB8):=by
 refine fn_d (k:=3) (b:=DP.zF6) F sc_show_numbers rfl rfl fun cdv A outer s H E hr=>?_
 have hu:=zC3 hr
 have hu64:=hr.units
 have hu1:=hr.units0
 have nd:=sc_show_numbers.nd
 exact(zA9 (zAd (zEg xP vK vL zDe (.inl rfl) zAw (zA1 (zC5 (zBa rfl (CompScope.mk' (sc:=zA6 zC4) (N:=["numbers"]) (own:=["number"]) (fre:=[]) (ix:=[]) rfl rfl (by decide +kernel)) (zCs (zA2 0)) (fun cl C s0 H0 fp=>(zAi (j:=0) (show List.Nodup (["number"]:List Str) by decide +kernel) rfl (Or.inl rfl) (Or.inr rfl))) (fun cl C s0 H0 fp=>zB0) (fun cl C s0 H0 fp=>(zAa C_show_number (hr.mono (by decide)) rfl (zA1 (zA2 0) zA3))))) zA3))))
noncomputable abbrev zCe:Stmt:=top 20
theorem sc_show_fraction:zAh ["one","upper"] ["one"] (zA6 zCe):=⟨rfl,rfl,rfl,by decide +kernel,rfl,by decide +kernel,by decide +kernel⟩
theorem zGw {f:Addr}{fd:FuncData}(F:Fun K "show_fraction" "show_fraction" zCe f fd) (T:Txt K mg) (C_show_number:zE6 P w K mg base):FnOk P w K mg base CX0 4 f fd ["one"] (spOf K XE0 DP.zBs):=by
 refine fn_d (k:=3) (b:=DP.zEq) F sc_show_fraction rfl rfl fun cdv A outer s H E hr=>?_
 have hu:=zC3 hr
 have hu64:=hr.units
 have hu1:=hr.units0
 have nd:=sc_show_fraction.nd
 exact(zA4 (zAc (j:=1) nd rfl (by trivial) (zAa C_show_number (hr.mono (by decide)) rfl (zA1 (zBc (ix_D hu) (zA2 0) zA5) zA3)))
   (zA9 (zAd (zNg (zAn zK1 (zBc (ix_D hu) (zA2 0) zA5) zA5 (nomark _)) (zA2 1) (zAg zAf (zAg zAf (zA2 1) zAw) (zAa C_show_number (hr.mono (by decide)) rfl (zA1 (zBc (ix_D hu) (zA2 0) zA5) zA3)))))))
noncomputable abbrev zFm:Stmt:=top 25
theorem sc_pair_in:zAh n_15 ["row"] (zA6 zFm):=⟨rfl,rfl,rfl,by decide +kernel,rfl,by decide +kernel,by decide +kernel⟩
theorem zN2 {f:Addr}{fd:FuncData}(F:Fun K "pair_in" "pair_in" zFm f fd) (T:Txt K mg) (C_read_numbers:zDo P w K mg base) (C_cells_in:zGa P w K mg base):FnOk P w K mg base CX0 4 f fd ["row"] (spOf K XE0 DP.zEm):=by
 refine fn_d (k:=3) (b:=DP.zKu) F sc_pair_in rfl rfl fun cdv A outer s H E hr=>?_
 have hu:=zC3 hr
 have hu64:=hr.units
 have hu1:=hr.units0
 have nd:=sc_pair_in.nd
 obtain⟨_,hc_MOST_FIGURES,rc_MOST_FIGURES⟩:=T.c_MOST_FIGURES
 obtain⟨_,hc_STROKE,rc_STROKE⟩:=T.c_STROKE
 exact(zA4 (zAc (j:=1) nd rfl (by trivial) (zEg xP PySem.F.slot_str_partition PySem.F.type_str_partition zM4 (.inl rfl) (zA2 0) (zA1 (de_c (zBy rfl hc_STROKE rc_STROKE) fun _ _=>rfl) zA3)))
   (zA4 (zAc (j:=2) nd rfl (by trivial) (zAa C_read_numbers (hr.mono (by decide)) rfl (zA1 (zBc (ix_D hu) (zA2 1) zA5) (zA1 zA5 (zA1 (de_c (zBy rfl hc_MOST_FIGURES rc_MOST_FIGURES) fun _ _=>rfl) zA3)))))
   (zA4 (zAc (j:=3) nd rfl (by trivial) (zAa C_cells_in (hr.mono (by decide)) rfl (zA1 (zBc (ix_D hu) (zA2 1) zA5) zA3)))
   (zA9 (zAd (zNg (dt_w (zJf (zAn zJz (zA2 2) zDf (nomark _)) (zGg (zAn zJz (zA2 3) zDf (nomark _))))) zDf (zDu (zA1 (zA2 2) (zA1 (zA2 3) zA3)))))))))
noncomputable abbrev zCz:Stmt:=top 35
theorem sc__law_row:zAh ["_law_feed_here"] ["_law_feed_here"] (zA6 zCz):=⟨rfl,rfl,rfl,by decide +kernel,rfl,by decide +kernel,by decide +kernel⟩
theorem zL9 {f:Addr}{fd:FuncData}(F:Fun K "_law_row" "_law_row" zCz f fd) (T:Txt K mg) (C__law_take:zD8 P w K mg base) (C__law_cell:zFk P w K mg base):FnOk P w K mg base CX0 4 f fd ["_law_feed_here"] (spOf K XE0 DP.zC0):=by
 refine fn_d (k:=3) (b:=DP.zD1) F sc__law_row rfl rfl fun cdv A outer s H E hr=>?_
 have hu:=zC3 hr
 have hu64:=hr.units
 have hu1:=hr.units0
 have nd:=sc__law_row.nd
 exact(zA4 (zB4 (zAn zK1 (zAa C__law_take (hr.mono (by decide)) rfl (zA1 (zA2 0) (zA1 zA5 zA3))) zA5 (nomark _)) (zA9 (zAd (zDl zAy rfl T.b_tuple xU (zA1 (zC5 (zBa rfl (CompScope.mk' (sc:=zA6 zCz) (N:=["_law_feed_here"]) (own:=["_law_k"]) (fre:=["_law_feed_here"]) (ix:=[0]) rfl rfl (by decide +kernel)) (zEo rfl T.b_range (zA1 (zAg zAf zA5 (zAa C__law_take (hr.mono (by decide)) rfl (zA1 (zA2 0) (zA1 zA5 zA3)))) zA3)) (fun cl C s0 H0 fp=>(zAi (j:=0) (show List.Nodup (["_law_k","_law_feed_here"]:List Str) by decide +kernel) rfl (Or.inl rfl) (Or.inr rfl))) (fun cl C s0 H0 fp=>zB0) (fun cl C s0 H0 fp=>(zDu (zA1 (zAg zHd (zAa C__law_take (hr.mono (by decide)) rfl (zA1 (zA2 1) (zA1 zA5 zA3))) zA5) (zA1 (zAg zHd (zAa C__law_take (hr.mono (by decide)) rfl (zA1 (zA2 1) (zA1 zA5 zA3))) zA5) zA3)))))) zA3)))) zAv)
   (zA9 (zAd (zDl zAy rfl T.b_tuple xU (zA1 (zC5 (zBa rfl (CompScope.mk' (sc:=zA6 zCz) (N:=["_law_feed_here"]) (own:=["_law_k"]) (fre:=["_law_feed_here"]) (ix:=[0]) rfl rfl (by decide +kernel)) (zEo rfl T.b_range (zA1 (zAg zAf zA5 (zAa C__law_take (hr.mono (by decide)) rfl (zA1 (zA2 0) (zA1 (zBc (ix_D hu) (zC5 (zDt (zA1 zA5 (zA1 zA5 zA3)))) (zAa C__law_take (hr.mono (by decide)) rfl (zA1 (zA2 0) (zA1 zA5 zA3)))) zA3)))) zA3)) (fun cl C s0 H0 fp=>(zAi (j:=0) (show List.Nodup (["_law_k","_law_feed_here"]:List Str) by decide +kernel) rfl (Or.inl rfl) (Or.inr rfl))) (fun cl C s0 H0 fp=>zB0) (fun cl C s0 H0 fp=>(zAa C__law_cell (hr.mono (by decide)) rfl (zA1 (zA2 1) zA3))))) zA3)))))
noncomputable abbrev zCp:Stmt:=top 18
theorem sc_show_cells:zAh ["cells"] ["cells"] (zA6 zCp):=⟨rfl,rfl,rfl,by decide +kernel,rfl,by decide +kernel,by decide +kernel⟩
theorem zJ5 {f:Addr}{fd:FuncData}(F:Fun K "show_cells" "show_cells" zCp f fd) (T:Txt K mg) (C_show_numbers:zDn P w K mg base):FnOk P w K mg base CX0 5 f fd ["cells"] (spOf K XE0 DP.zBt):=by
 refine fn_d (k:=4) (b:=DP.zGl) F sc_show_cells rfl rfl fun cdv A outer s H E hr=>?_
 have hu:=zC3 hr
 have hu64:=hr.units
 have hu1:=hr.units0
 have nd:=sc_show_cells.nd
 exact(zA9 (zAd (zEg xP vK vL zDe (.inl rfl) zAw (zA1 (zC5 (zBa rfl (CompScope.mk' (sc:=zA6 zCp) (N:=["cells"]) (own:=["cell"]) (fre:=[]) (ix:=[]) rfl rfl (by decide +kernel)) (zCs (zA2 0)) (fun cl C s0 H0 fp=>(zAi (j:=0) (show List.Nodup (["cell"]:List Str) by decide +kernel) rfl (Or.inl rfl) (Or.inr rfl))) (fun cl C s0 H0 fp=>zB0) (fun cl C s0 H0 fp=>(zAa C_show_numbers (hr.mono (by decide)) rfl (zA1 (zA2 0) zA3))))) zA3))))
noncomputable abbrev zCo:Stmt:=top 19
theorem sc_show_point:zAh ["point"] ["point"] (zA6 zCo):=⟨rfl,rfl,rfl,by decide +kernel,rfl,by decide +kernel,by decide +kernel⟩
theorem zJ3 {f:Addr}{fd:FuncData}(F:Fun K "show_point" "show_point" zCo f fd) (T:Txt K mg) (C_show_fraction:zEr P w K mg base):FnOk P w K mg base CX0 5 f fd ["point"] (spOf K XE0 DP.zCq):=by
 refine fn_d (k:=4) (b:=DP.zGj) F sc_show_point rfl rfl fun cdv A outer s H E hr=>?_
 have hu:=zC3 hr
 have hu64:=hr.units
 have hu1:=hr.units0
 have nd:=sc_show_point.nd
 exact(zA9 (zAd (zEg xP vK vL zDe (.inl rfl) zAw (zA1 (zC5 (zBa rfl (CompScope.mk' (sc:=zA6 zCo) (N:=["point"]) (own:=["one"]) (fre:=[]) (ix:=[]) rfl rfl (by decide +kernel)) (zCs (zA2 0)) (fun cl C s0 H0 fp=>(zAi (j:=0) (show List.Nodup (["one"]:List Str) by decide +kernel) rfl (Or.inl rfl) (Or.inr rfl))) (fun cl C s0 H0 fp=>zB0) (fun cl C s0 H0 fp=>(zAa C_show_fraction (hr.mono (by decide)) rfl (zA1 (zA2 0) zA3))))) zA3))))
noncomputable abbrev zDc:Stmt:=top 22
theorem sc_read_pairs:zAh n_16 n_8 (zA6 zDc):=⟨rfl,rfl,rfl,by decide +kernel,rfl,by decide +kernel,by decide +kernel⟩
theorem zJ7 {f:Addr}{fd:FuncData}(F:Fun K "read_pairs" "read_pairs" zDc f fd) (T:Txt K mg) (C_pair_in:zKx P w K mg base):FnOk P w K mg base CX0 5 f fd n_8 (spOf K XE0 DP.zBe):=by
 refine fn_d (k:=4) (b:=DP.zGn) F sc_read_pairs rfl rfl fun cdv A outer s H E hr=>?_
 have hu:=zC3 hr
 have hu64:=hr.units
 have hu1:=hr.units0
 have nd:=sc_read_pairs.nd
 exact(zA4 (zAc (j:=3) nd rfl (by trivial) (zPb (zDt zA3)))
   (zA4 (zP8 vV rfl (zXs false rfl T.b_enumerate (zS0 sl_D (zA2 0) (zIl (zA2 1)) zXq) (zA2 1)) (zGh rfl (zBb (zAi (j:=4) nd rfl (by trivial)) (zBb (zAi (j:=5) nd rfl (by trivial)) zEp))) (zA4 (zAc (j:=6) nd rfl (by trivial) (zAa C_pair_in (hr.mono (by decide)) rfl (zA1 (zA2 5) zA3)))
   (zA4 (zB4 (zAn zJz (zA2 6) zDf (nomark _)) (zA9 zFq) zAv)
   (zA9 (zMd (zEg PySem.F.plainAttrs_list PySem.F.slot_list_append PySem.F.type_list_append zN5 (.inr (.inl rfl)) (zA2 3) (zA1 (zA2 6) zA3)))))))
   (zA4 (zB4 (zAn (zHe hu64) (zBj zAq rfl T.b_len xQ (zA1 (zA2 3) zA3)) (zA2 2) (nomark _)) (zA9 zFq) zAv)
   (zA9 (zAd (zA2 3))))))
noncomputable abbrev zBd:Stmt:=top 38
theorem sc__law_paper:zAh n_4 ["_law_feed_here"] (zA6 zBd):=⟨rfl,rfl,rfl,by decide +kernel,rfl,by decide +kernel,by decide +kernel⟩
theorem zJ8 {f:Addr}{fd:FuncData}(F:Fun K "_law_paper" "_law_paper" zBd f fd) (T:Txt K mg) (C__law_take:zD8 P w K mg base) (C__law_fraction:zEt P w K mg base) (C__law_cell:zFk P w K mg base) (C__law_row:zIs P w K mg base):FnOk P w K mg base CX0 5 f fd ["_law_feed_here"] (spOf K XE0 DP.zCr):=by
 refine fn_d (k:=4) (b:=DP.zCc) F sc__law_paper rfl rfl fun cdv A outer s H E hr=>?_
 have hu:=zC3 hr
 have hu64:=hr.units
 have hu1:=hr.units0
 have nd:=sc__law_paper.nd
 exact(zA4 (zB4 (zAn zK1 (zAa C__law_take (hr.mono (by decide)) rfl (zA1 (zA2 0) (zA1 zA5 zA3))) zA5 (nomark _)) (zA4 (zAc (j:=1) nd rfl (by trivial) (zDl zAy rfl T.b_tuple xU (zA1 (zC5 (zBa rfl (CompScope.mk' (sc:=zA6 zBd) (N:=n_4) (own:=["_law_k"]) (fre:=["_law_feed_here"]) (ix:=[0]) rfl rfl (by decide +kernel)) (zEo rfl T.b_range (zA1 (zAg zAf zA5 (zAa C__law_take (hr.mono (by decide)) rfl (zA1 (zA2 0) (zA1 zA5 zA3)))) zA3)) (fun cl C s0 H0 fp=>(zAi (j:=0) (show List.Nodup (["_law_k","_law_feed_here"]:List Str) by decide +kernel) rfl (Or.inl rfl) (Or.inr rfl))) (fun cl C s0 H0 fp=>zB0) (fun cl C s0 H0 fp=>(zAa C__law_row (hr.mono (by decide)) rfl (zA1 (zA2 1) zA3))))) zA3)))
   (zA9 (zAd (zDu (zA1 zAw (zA1 (zA2 1) (zA1 (zDl zAy rfl T.b_tuple xU (zA1 (zC5 (zBa rfl (CompScope.mk' (sc:=zA6 zBd) (N:=n_4) (own:=["_law_row_here"]) (fre:=["_law_feed_here"]) (ix:=[0]) rfl rfl (by decide +kernel)) (zCs (zA2 1)) (fun cl C s0 H0 fp=>(zAi (j:=0) (show List.Nodup (["_law_row_here","_law_feed_here"]:List Str) by decide +kernel) rfl (Or.inl rfl) (Or.inr rfl))) (fun cl C s0 H0 fp=>zB0) (fun cl C s0 H0 fp=>(zAa C__law_cell (hr.mono (by decide)) rfl (zA1 (zA2 1) zA3))))) zA3)) zA3))))))) zAv)
   (zA4 (zAc (j:=2) nd rfl (by trivial) (zDl zAy rfl T.b_tuple xU (zA1 (zC5 (zBa rfl (CompScope.mk' (sc:=zA6 zBd) (N:=n_4) (own:=["_law_k"]) (fre:=["_law_feed_here"]) (ix:=[0]) rfl rfl (by decide +kernel)) (zEo rfl T.b_range (zA1 (zAg zAf zA5 (zAa C__law_take (hr.mono (by decide)) rfl (zA1 (zA2 0) (zA1 (zBc (ix_D hu) (zC5 (zDt (zA1 zA5 (zA1 zA5 zA3)))) (zAa C__law_take (hr.mono (by decide)) rfl (zA1 (zA2 0) (zA1 zA5 zA3)))) zA3)))) zA3)) (fun cl C s0 H0 fp=>(zAi (j:=0) (show List.Nodup (["_law_k","_law_feed_here"]:List Str) by decide +kernel) rfl (Or.inl rfl) (Or.inr rfl))) (fun cl C s0 H0 fp=>zB0) (fun cl C s0 H0 fp=>(zAa C__law_cell (hr.mono (by decide)) rfl (zA1 (zA2 1) zA3))))) zA3)))
   (zA4 (zAc (j:=3) nd rfl (by trivial) (zDu (zA1 (zAa C__law_fraction (hr.mono (by decide)) rfl (zA1 (zA2 0) zA3)) (zA1 (zAa C__law_fraction (hr.mono (by decide)) rfl (zA1 (zA2 0) zA3)) zA3))))
   (zA9 (zAd (zDu (zA1 zAw (zA1 (zA2 3) (zA1 (zA2 2) (zA1 (zAa C__law_cell (hr.mono (by decide)) rfl (zA1 (zA2 0) zA3)) (zA1 (zAa C__law_cell (hr.mono (by decide)) rfl (zA1 (zA2 0) zA3)) (zA1 (zDl zAy rfl T.b_tuple xU (zA1 (zC5 (zBa rfl (CompScope.mk' (sc:=zA6 zBd) (N:=n_4) (own:=["_law_cell_here"]) (fre:=["_law_feed_here"]) (ix:=[0]) rfl rfl (by decide +kernel)) (zCs (zA2 2)) (fun cl C s0 H0 fp=>(zAi (j:=0) (show List.Nodup (["_law_cell_here","_law_feed_here"]:List Str) by decide +kernel) rfl (Or.inl rfl) (Or.inr rfl))) (fun cl C s0 H0 fp=>zB0) (fun cl C s0 H0 fp=>(zAa C__law_row (hr.mono (by decide)) rfl (zA1 (zA2 1) zA3))))) zA3)) zA3))))))))))))
noncomputable abbrev zCd:Stmt:=top 17
theorem sc_shown_pairs:zAh ["heads","rows"] ["heads","rows"] (zA6 zCd):=⟨rfl,rfl,rfl,by decide +kernel,rfl,by decide +kernel,by decide +kernel⟩
theorem zI7 {f:Addr}{fd:FuncData}(F:Fun K "shown_pairs" "shown_pairs" zCd f fd) (T:Txt K mg) (C_show_cells:zEs P w K mg base) (C_show_numbers:zDn P w K mg base):FnOk P w K mg base CX0 6 f fd ["heads","rows"] (spOf K XE0 DP.zBg):=by
 refine fn_d (k:=5) (b:=DP.zFs) F sc_shown_pairs rfl rfl fun cdv A outer s H E hr=>?_
 have hu:=zC3 hr
 have hu64:=hr.units
 have hu1:=hr.units0
 have nd:=sc_shown_pairs.nd
 obtain⟨_,hc_STROKE,rc_STROKE⟩:=T.c_STROKE
 exact(zA9 (zAd (zC5 (zBa rfl (CompScope.mk' (sc:=zA6 zCd) (N:=["heads","rows"]) (own:=["head","row"]) (fre:=[]) (ix:=[]) rfl rfl (by decide +kernel)) (zP9 true true rfl T.b_zip (zA1 (zA2 0) (zA1 (zA2 1) zA3))) (fun cl C s0 H0 fp=>(zGh rfl (zBb (zAi (j:=0) (show List.Nodup (["head","row"]:List Str) by decide +kernel) rfl (Or.inl rfl) (Or.inr rfl)) (zBb (zAi (j:=1) (show List.Nodup (["head","row"]:List Str) by decide +kernel) rfl (Or.inl rfl) (Or.inr rfl)) zEp)))) (fun cl C s0 H0 fp=>zB0) (fun cl C s0 H0 fp=>(zAg zAf (zAg zAf (zAa C_show_numbers (hr.mono (by decide)) rfl (zA1 (zA2 0) zA3)) (de_c (zBy rfl hc_STROKE rc_STROKE) fun _ _=>rfl)) (zAa C_show_cells (hr.mono (by decide)) rfl (zA1 (zA2 1) zA3))))))))
noncomputable abbrev zDb:Stmt:=top 21
theorem sc_read_paper:zAh n_17 ["text"] (zA6 zDb):=⟨rfl,rfl,rfl,by decide +kernel,rfl,by decide +kernel,by decide +kernel⟩
theorem zJ6 {f:Addr}{fd:FuncData}(F:Fun K "read_paper" "read_paper" zDb f fd) (T:Txt K mg) (C_point_in:zIr P w K mg base) (C_read_pairs:zGs P w K mg base) (C_cells_in:zGa P w K mg base) (C_behind_strokes:zEe P w K mg base) (C_ahead_of_strokes:zDh P w K mg base):FnOk P w K mg base CX0 6 f fd ["text"] (spOf K XE0 DP.zBu):=by
 refine fn_d (k:=5) (b:=DP.zGm) F sc_read_paper rfl rfl fun cdv A outer s H E hr=>?_
 have hu:=zC3 hr
 have hu64:=hr.units
 have hu1:=hr.units0
 have nd:=sc_read_paper.nd
 obtain⟨_,hc_HEALS,rc_HEALS⟩:=T.c_HEALS
 obtain⟨_,hc_LEAST_RING,rc_LEAST_RING⟩:=T.c_LEAST_RING
 obtain⟨_,hc_LIVES,rc_LIVES⟩:=T.c_LIVES
 exact(zA4 (zAc (j:=1) nd rfl (by trivial) (zEg xP vF ur zEj (.inl rfl) (zA2 0) (zA1 zAw zA3)))
   (zA4 (zB4 (zAn (zK0 hu64) (zBc (ix_D hu) (zA2 1) zA5) (de_c (zBy rfl hc_HEALS rc_HEALS) fun _ _=>rfl) (nomark _)) (zA4 (zAc (j:=2) nd rfl (by trivial) (zAa C_read_pairs (hr.mono (by decide)) rfl (zA1 (zA2 1) (zA1 zA5 (zA1 zA5 zA3)))))
   (zA9 (zAd (zDu (zA1 (de_c (zBy rfl hc_HEALS rc_HEALS) fun _ _=>rfl) (zA1 (zAa C_behind_strokes (hr.mono (by decide)) rfl (zA1 (zA2 2) zA3)) (zA1 (zAa C_ahead_of_strokes (hr.mono (by decide)) rfl (zA1 (zA2 2) zA3)) zA3))))))) zAv)
   (zA4 (zAc (j:=3) nd rfl (by trivial) (zAa C_point_in (hr.mono (by decide)) rfl (zA1 (zBc (ix_D hu) (zA2 1) zA5) zA3)))
   (zA4 (zB4 (zAn zJz (zA2 3) zDf (nomark _)) (zA9 zFq) zAv)
   (zA4 (zAc (j:=4) nd rfl (by trivial) (zNg (zAn zHf (zBj zAq rfl T.b_len xQ (zA1 (zA2 1) zA3)) zA5 (nomark _)) (zAa C_cells_in (hr.mono (by decide)) rfl (zA1 (zBc (ix_D hu) (zA2 1) zA5) zA3)) zDf))
   (zA4 (zB4 (dt_w (zJf (zAn zJz (zA2 4) zDf (nomark _)) (zGg (zAn (zE8 hu64) (zBj zAq rfl T.b_len xQ (zA1 (zA2 4) zA3)) zA5 (nomark _))))) (zA9 zFq) zAv)
   (zA4 (zAc (j:=2) nd rfl (by trivial) (zAa C_read_pairs (hr.mono (by decide)) rfl (zA1 (zA2 1) (zA1 zA5 (zA1 (de_c (zBy rfl hc_LEAST_RING rc_LEAST_RING) fun _ _=>rfl) zA3)))))
   (zA9 (zAd (zAg zAf (zAg zAf (zDu (zA1 (de_c (zBy rfl hc_LIVES rc_LIVES) fun _ _=>rfl) (zA1 (zA2 3) (zA1 (zAa C_ahead_of_strokes (hr.mono (by decide)) rfl (zA1 (zA2 2) zA3)) zA3)))) (zA2 4)) (zDu (zA1 (zAa C_behind_strokes (hr.mono (by decide)) rfl (zA1 (zA2 2) zA3)) zA3))))))))))))
noncomputable abbrev zDa:Stmt:=top 16
theorem sc_show_paper:zAh ["paper","rows"] ["paper"] (zA6 zDa):=⟨rfl,rfl,rfl,by decide +kernel,rfl,by decide +kernel,by decide +kernel⟩
theorem zJ4 {f:Addr}{fd:FuncData}(F:Fun K "show_paper" "show_paper" zDa f fd) (T:Txt K mg) (C_shown_pairs:zFw P w K mg base) (C_show_cells:zEs P w K mg base) (C_show_point:zGp P w K mg base):FnOk P w K mg base CX0 7 f fd ["paper"] (spOf K XE0 DP.zAr):=by
 refine fn_d (k:=6) (b:=DP.zGk) F sc_show_paper rfl rfl fun cdv A outer s H E hr=>?_
 have hu:=zC3 hr
 have hu64:=hr.units
 have hu1:=hr.units0
 have nd:=sc_show_paper.nd
 obtain⟨_,hc_HEALS,rc_HEALS⟩:=T.c_HEALS
 obtain⟨_,hc_LIVES,rc_LIVES⟩:=T.c_LIVES
 exact(zA4 (zB4 (zAn (zK0 hu64) (zBc (ix_D hu) (zA2 0) zA5) (de_c (zBy rfl hc_HEALS rc_HEALS) fun _ _=>rfl) (nomark _)) (zA9 (zAc (j:=1) nd rfl (by trivial) (zAg zAf (zC5 (zDt (zA1 (de_c (zBy rfl hc_HEALS rc_HEALS) fun _ _=>rfl) zA3))) (zAa C_shown_pairs (hr.mono (by decide)) rfl (zA1 (zBc (ix_D hu) (zA2 0) zA5) (zA1 (zBc (ix_D hu) (zA2 0) zA5) zA3)))))) (zA9 (zAc (j:=1) nd rfl (by trivial) (zAg zAf (zC5 (zDt (zA1 (zAg zAf (zAg zAf (de_c (zBy rfl hc_LIVES rc_LIVES) fun _ _=>rfl) zAw) (zAa C_show_point (hr.mono (by decide)) rfl (zA1 (zBc (ix_D hu) (zA2 0) zA5) zA3))) (zA1 (zAa C_show_cells (hr.mono (by decide)) rfl (zA1 (zS0 sl_D (zA2 0) (zIl zA5) (zIl zA5)) zA3)) zA3)))) (zAa C_shown_pairs (hr.mono (by decide)) rfl (zA1 (zBc (ix_D hu) (zA2 0) zA5) (zA1 (zBc (ix_D hu) (zA2 0) zA5) zA3)))))))
   (zA9 (zAd (zEg xP vK vL zDe (.inl rfl) zAw (zA1 (zA2 1) zA3)))))
noncomputable abbrev zJv:Stmt:=top 42
theorem sc_law:zAh n_6 ["_law_script"] (zA6 zJv):=⟨rfl,rfl,rfl,by decide +kernel,rfl,by decide +kernel,by decide +kernel⟩
theorem zWz {f:Addr}{fd:FuncData}(F:Fun K "law" "law" zJv f fd) (T:Txt K mg) (C__law_paper:zGt P w K mg base) (C__law_text:zI3 P w K mg base) (C__law_feed:zI5 P w K mg base) (C__law_is_handed:zEf P w K mg base) (C_read_paper:zGr P w K mg base) (C__law_alike:zGu P w K mg base) (C_show_paper:zGq P w K mg base):FnOk P w K mg base CX0 8 f fd ["_law_script"] (spOf K XE0 DP.zNb):=by
 refine fn_d (k:=7) (b:=DP.zV9) F sc_law rfl rfl fun cdv A outer s H E hr=>?_
 have hu:=zC3 hr
 have hu64:=hr.units
 have hu1:=hr.units0
 have nd:=sc_law.nd
 exact(zA4 (zJg (j:=1) nd rfl (by trivial) rfl (CompScope.mk' (sc:=zA6 zJv) (N:=n_6) (own:=["_law_k"]) (fre:=["_law_script"]) (ix:=[0]) rfl rfl (by decide +kernel)) (zEo rfl T.b_range (zA1 (zBj (zIo rfl) rfl T.b_max PyProof.Rows.boot_max (zA1 zA5 (zA1 (zBj (zIn rfl) rfl T.b_min PyProof.Rows.boot_min (zA1 zA5 (zA1 (zBj zAq rfl T.b_len xQ (zA1 (zA2 0) zA3)) zA3))) zA3))) zA3)) (fun cl C s0 H0 fp=>(zAi (j:=0) (show List.Nodup (["_law_k","_law_script"]:List Str) by decide +kernel) rfl (Or.inl rfl) (Or.inr rfl))) (fun cl C s0 H0 fp=>zB0) (fun cl C s0 H0 fp=>(zAa C__law_paper (hr.mono (by decide)) rfl (zA1 (zAa C__law_feed (hr.mono (by decide)) rfl (zA1 (zA2 1) (zA1 (zA2 0) zA3))) zA3))))
   (zA4 (zP8 vV rfl (zCs (zAg zAf (zA2 1) (zXt (zA2 1) (zV3 zL0 zA5)))) (zAi (j:=2) nd rfl (by trivial)) (zA4 (zAc (j:=3) nd rfl (by trivial) (zAa C__law_text (hr.mono (by decide)) rfl (zA1 (zA2 2) zA3)))
   (zA4 (zB4 (dt_w (zSr (zF4 (zAa C__law_is_handed (hr.mono (by decide)) rfl (zA1 (zA2 2) zA3))) (zP6 (zHs (zF4 (zAa C__law_alike (hr.mono (by decide)) rfl (zA1 (zAa C_show_paper (hr.mono (by decide)) rfl (zA1 (zA2 2) zA3)) (zA1 (zA2 3) zA3)))))))) (zA9 (zAd zHt)) zAv)
   (zA9 (zB4 (zAn (zHe hu64) (zBj zAq rfl T.b_len xQ (zA1 (zA2 3) zA3)) zA5 (nomark _)) (zA4 (zAc (j:=4) nd rfl (by trivial) (zAa C_read_paper (hr.mono (by decide)) rfl (zA1 (zA2 3) zA3)))
   (zA9 (zB4 (dt_w (zJf (zHs (zF4 (zAa C__law_alike (hr.mono (by decide)) rfl (zA1 (zA2 4) (zA1 (zA2 2) zA3))))) (zGg (zHs (zF4 (zAa C__law_alike (hr.mono (by decide)) rfl (zA1 (zAa C_show_paper (hr.mono (by decide)) rfl (zA1 (zA2 4) zA3)) (zA1 (zA2 3) zA3)))))))) (zA9 (zAd zHt)) zAv))) zAv)))))
   (zA9 (zAd zHt))))
end
noncomputable abbrev FO (x:Str) (st:Stmt) (oc:Value) (od:Option Addr) (kV dc pm:Value) (an:Option Addr) (cd ct:Value) (sl:Array (Option Value)):Option Obj:=some ⟨oc,od,.func (PySem.W.fnOf x x (zG5 st) (zE3 st) (zA6 st) .none kV dc pm an cd ct),sl⟩
theorem all_mk {l:PySem.W.OpenLaw}{w:World}{K:PySem.W.Frag}{h:Heap}{mg:Str->Option Value}{fa f0 f1 f2 f3 f4 f5 f6 f7 f8 f9 f10 f11 f12 f13 f14 f15 f16 f17 f18 f19 f20 f21 f22 f23 f24 f25 f26 f27 f28 f29 f30:Addr}(X:K.In h) (G:h.Ns mainGlobals mg) (hfa:mg "law"=some (.ref fa))
  {od0 an0 od1 an1 od2 an2 od3 an3 od4 an4 od5 an5 od6 an6 od7 an7 od8 an8 od9 an9 od10 an10 od11 an11 od12 an12 od13 an13 od14 an14 od15 an15 od16 an16 od17 an17 od18 an18 od19 an19 od20 an20 od21 an21 od22 an22 od23 an23 od24 an24 od25 an25 od26 an26 od27 an27 od28 an28 od29 an29 od30 an30:Option Addr}{sl0 sl1 sl2 sl3 sl4 sl5 sl6 sl7 sl8 sl9 sl10 sl11 sl12 sl13 sl14 sl15 sl16 sl17 sl18 sl19 sl20 sl21 sl22 sl23 sl24 sl25 sl26 sl27 sl28 sl29 sl30:Array (Option Value)}{oc0 kV0 dc0 pm0 cd0 ct0 oc1 kV1 dc1 pm1 cd1 ct1 oc2 kV2 dc2 pm2 cd2 ct2 oc3 kV3 dc3 pm3 cd3 ct3 oc4 kV4 dc4 pm4 cd4 ct4 oc5 kV5 dc5 pm5 cd5 ct5 oc6 kV6 dc6 pm6 cd6 ct6 oc7 kV7 dc7 pm7 cd7 ct7 oc8 kV8 dc8 pm8 cd8 ct8 oc9 kV9 dc9 pm9 cd9 ct9 oc10 kV10 dc10 pm10 cd10 ct10 oc11 kV11 dc11 pm11 cd11 ct11 oc12 kV12 dc12 pm12 cd12 ct12 oc13 kV13 dc13 pm13 cd13 ct13 oc14 kV14 dc14 pm14 cd14 ct14 oc15 kV15 dc15 pm15 cd15 ct15 oc16 kV16 dc16 pm16 cd16 ct16 oc17 kV17 dc17 pm17 cd17 ct17 oc18 kV18 dc18 pm18 cd18 ct18 oc19 kV19 dc19 pm19 cd19 ct19 oc20 kV20 dc20 pm20 cd20 ct20 oc21 kV21 dc21 pm21 cd21 ct21 oc22 kV22 dc22 pm22 cd22 ct22 oc23 kV23 dc23 pm23 cd23 ct23 oc24 kV24 dc24 pm24 cd24 ct24 oc25 kV25 dc25 pm25 cd25 ct25 oc26 kV26 dc26 pm26 cd26 ct26 oc27 kV27 dc27 pm27 cd27 ct27 oc28 kV28 dc28 pm28 cd28 ct28 oc29 kV29 dc29 pm29 cd29 ct29 oc30 kV30 dc30 pm30 cd30 ct30:Value}
  (a0:PySem.W.nsIn K mainGlobals "common_divisor"=some (some (.ref f0))) (l0:K.lookup f0=FO "common_divisor" zC7 oc0 od0 kV0 dc0 pm0 an0 cd0 ct0 sl0) (c0:PySem.W.codeIn K cd0 "common_divisor"=true) (k0:PySem.W.keepIn K (.ref f0)=true)
  (a1:PySem.W.nsIn K mainGlobals "is_number"=some (some (.ref f1))) (l1:K.lookup f1=FO "is_number" zD2 oc1 od1 kV1 dc1 pm1 an1 cd1 ct1 sl1) (c1:PySem.W.codeIn K cd1 "is_number"=true) (k1:PySem.W.keepIn K (.ref f1)=true)
  (a2:PySem.W.nsIn K mainGlobals "ahead_of_strokes"=some (some (.ref f2))) (l2:K.lookup f2=FO "ahead_of_strokes" zB6 oc2 od2 kV2 dc2 pm2 an2 cd2 ct2 sl2) (c2:PySem.W.codeIn K cd2 "ahead_of_strokes"=true) (k2:PySem.W.keepIn K (.ref f2)=true)
  (a3:PySem.W.nsIn K mainGlobals "behind_strokes"=some (some (.ref f3))) (l3:K.lookup f3=FO "behind_strokes" zBm oc3 od3 kV3 dc3 pm3 an3 cd3 ct3 sl3) (c3:PySem.W.codeIn K cd3 "behind_strokes"=true) (k3:PySem.W.keepIn K (.ref f3)=true)
  (a4:PySem.W.nsIn K mainGlobals "_law_feed"=some (some (.ref f4))) (l4:K.lookup f4=FO "_law_feed" zE0 oc4 od4 kV4 dc4 pm4 an4 cd4 ct4 sl4) (c4:PySem.W.codeIn K cd4 "_law_feed"=true) (k4:PySem.W.keepIn K (.ref f4)=true)
  (a5:PySem.W.nsIn K mainGlobals "_law_take"=some (some (.ref f5))) (l5:K.lookup f5=FO "_law_take" zDz oc5 od5 kV5 dc5 pm5 an5 cd5 ct5 sl5) (c5:PySem.W.codeIn K cd5 "_law_take"=true) (k5:PySem.W.keepIn K (.ref f5)=true)
  (a6:PySem.W.nsIn K mainGlobals "_law_alike"=some (some (.ref f6))) (l6:K.lookup f6=FO "_law_alike" zDd oc6 od6 kV6 dc6 pm6 an6 cd6 ct6 sl6) (c6:PySem.W.codeIn K cd6 "_law_alike"=true) (k6:PySem.W.keepIn K (.ref f6)=true)
  (a7:PySem.W.nsIn K mainGlobals "_law_common"=some (some (.ref f7))) (l7:K.lookup f7=FO "_law_common" zCw oc7 od7 kV7 dc7 pm7 an7 cd7 ct7 sl7) (c7:PySem.W.codeIn K cd7 "_law_common"=true) (k7:PySem.W.keepIn K (.ref f7)=true)
  (a8:PySem.W.nsIn K mainGlobals "_law_said"=some (some (.ref f8))) (l8:K.lookup f8=FO "_law_said" zD3 oc8 od8 kV8 dc8 pm8 an8 cd8 ct8 sl8) (c8:PySem.W.codeIn K cd8 "_law_said"=true) (k8:PySem.W.keepIn K (.ref f8)=true)
  (a9:PySem.W.nsIn K mainGlobals "_law_is_handed"=some (some (.ref f9))) (l9:K.lookup f9=FO "_law_is_handed" zBn oc9 od9 kV9 dc9 pm9 an9 cd9 ct9 sl9) (c9:PySem.W.codeIn K cd9 "_law_is_handed"=true) (k9:PySem.W.keepIn K (.ref f9)=true)
  (a10:PySem.W.nsIn K mainGlobals "read_numbers"=some (some (.ref f10))) (l10:K.lookup f10=FO "read_numbers" zBp oc10 od10 kV10 dc10 pm10 an10 cd10 ct10 sl10) (c10:PySem.W.codeIn K cd10 "read_numbers"=true) (k10:PySem.W.keepIn K (.ref f10)=true)
  (a11:PySem.W.nsIn K mainGlobals "fraction_in"=some (some (.ref f11))) (l11:K.lookup f11=FO "fraction_in" zCf oc11 od11 kV11 dc11 pm11 an11 cd11 ct11 sl11) (c11:PySem.W.codeIn K cd11 "fraction_in"=true) (k11:PySem.W.keepIn K (.ref f11)=true)
  (a12:PySem.W.nsIn K mainGlobals "_law_number"=some (some (.ref f12))) (l12:K.lookup f12=FO "_law_number" zCv oc12 od12 kV12 dc12 pm12 an12 cd12 ct12 sl12) (c12:PySem.W.codeIn K cd12 "_law_number"=true) (k12:PySem.W.keepIn K (.ref f12)=true)
  (a13:PySem.W.nsIn K mainGlobals "_law_text"=some (some (.ref f13))) (l13:K.lookup f13=FO "_law_text" zCa oc13 od13 kV13 dc13 pm13 an13 cd13 ct13 sl13) (c13:PySem.W.codeIn K cd13 "_law_text"=true) (k13:PySem.W.keepIn K (.ref f13)=true)
  (a14:PySem.W.nsIn K mainGlobals "show_number"=some (some (.ref f14))) (l14:K.lookup f14=FO "show_number" zBx oc14 od14 kV14 dc14 pm14 an14 cd14 ct14 sl14) (c14:PySem.W.codeIn K cd14 "show_number"=true) (k14:PySem.W.keepIn K (.ref f14)=true)
  (a15:PySem.W.nsIn K mainGlobals "cells_in"=some (some (.ref f15))) (l15:K.lookup f15=FO "cells_in" zDq oc15 od15 kV15 dc15 pm15 an15 cd15 ct15 sl15) (c15:PySem.W.codeIn K cd15 "cells_in"=true) (k15:PySem.W.keepIn K (.ref f15)=true)
  (a16:PySem.W.nsIn K mainGlobals "point_in"=some (some (.ref f16))) (l16:K.lookup f16=FO "point_in" zDp oc16 od16 kV16 dc16 pm16 an16 cd16 ct16 sl16) (c16:PySem.W.codeIn K cd16 "point_in"=true) (k16:PySem.W.keepIn K (.ref f16)=true)
  (a17:PySem.W.nsIn K mainGlobals "_law_cell"=some (some (.ref f17))) (l17:K.lookup f17=FO "_law_cell" zE1 oc17 od17 kV17 dc17 pm17 an17 cd17 ct17 sl17) (c17:PySem.W.codeIn K cd17 "_law_cell"=true) (k17:PySem.W.keepIn K (.ref f17)=true)
  (a18:PySem.W.nsIn K mainGlobals "_law_fraction"=some (some (.ref f18))) (l18:K.lookup f18=FO "_law_fraction" zCg oc18 od18 kV18 dc18 pm18 an18 cd18 ct18 sl18) (c18:PySem.W.codeIn K cd18 "_law_fraction"=true) (k18:PySem.W.keepIn K (.ref f18)=true)
  (a19:PySem.W.nsIn K mainGlobals "show_numbers"=some (some (.ref f19))) (l19:K.lookup f19=FO "show_numbers" zC4 oc19 od19 kV19 dc19 pm19 an19 cd19 ct19 sl19) (c19:PySem.W.codeIn K cd19 "show_numbers"=true) (k19:PySem.W.keepIn K (.ref f19)=true)
  (a20:PySem.W.nsIn K mainGlobals "show_fraction"=some (some (.ref f20))) (l20:K.lookup f20=FO "show_fraction" zCe oc20 od20 kV20 dc20 pm20 an20 cd20 ct20 sl20) (c20:PySem.W.codeIn K cd20 "show_fraction"=true) (k20:PySem.W.keepIn K (.ref f20)=true)
  (a21:PySem.W.nsIn K mainGlobals "pair_in"=some (some (.ref f21))) (l21:K.lookup f21=FO "pair_in" zFm oc21 od21 kV21 dc21 pm21 an21 cd21 ct21 sl21) (c21:PySem.W.codeIn K cd21 "pair_in"=true) (k21:PySem.W.keepIn K (.ref f21)=true)
  (a22:PySem.W.nsIn K mainGlobals "_law_row"=some (some (.ref f22))) (l22:K.lookup f22=FO "_law_row" zCz oc22 od22 kV22 dc22 pm22 an22 cd22 ct22 sl22) (c22:PySem.W.codeIn K cd22 "_law_row"=true) (k22:PySem.W.keepIn K (.ref f22)=true)
  (a23:PySem.W.nsIn K mainGlobals "show_cells"=some (some (.ref f23))) (l23:K.lookup f23=FO "show_cells" zCp oc23 od23 kV23 dc23 pm23 an23 cd23 ct23 sl23) (c23:PySem.W.codeIn K cd23 "show_cells"=true) (k23:PySem.W.keepIn K (.ref f23)=true)
  (a24:PySem.W.nsIn K mainGlobals "show_point"=some (some (.ref f24))) (l24:K.lookup f24=FO "show_point" zCo oc24 od24 kV24 dc24 pm24 an24 cd24 ct24 sl24) (c24:PySem.W.codeIn K cd24 "show_point"=true) (k24:PySem.W.keepIn K (.ref f24)=true)
  (a25:PySem.W.nsIn K mainGlobals "read_pairs"=some (some (.ref f25))) (l25:K.lookup f25=FO "read_pairs" zDc oc25 od25 kV25 dc25 pm25 an25 cd25 ct25 sl25) (c25:PySem.W.codeIn K cd25 "read_pairs"=true) (k25:PySem.W.keepIn K (.ref f25)=true)
  (a26:PySem.W.nsIn K mainGlobals "_law_paper"=some (some (.ref f26))) (l26:K.lookup f26=FO "_law_paper" zBd oc26 od26 kV26 dc26 pm26 an26 cd26 ct26 sl26) (c26:PySem.W.codeIn K cd26 "_law_paper"=true) (k26:PySem.W.keepIn K (.ref f26)=true)
  (a27:PySem.W.nsIn K mainGlobals "shown_pairs"=some (some (.ref f27))) (l27:K.lookup f27=FO "shown_pairs" zCd oc27 od27 kV27 dc27 pm27 an27 cd27 ct27 sl27) (c27:PySem.W.codeIn K cd27 "shown_pairs"=true) (k27:PySem.W.keepIn K (.ref f27)=true)
  (a28:PySem.W.nsIn K mainGlobals "read_paper"=some (some (.ref f28))) (l28:K.lookup f28=FO "read_paper" zDb oc28 od28 kV28 dc28 pm28 an28 cd28 ct28 sl28) (c28:PySem.W.codeIn K cd28 "read_paper"=true) (k28:PySem.W.keepIn K (.ref f28)=true)
  (a29:PySem.W.nsIn K mainGlobals "show_paper"=some (some (.ref f29))) (l29:K.lookup f29=FO "show_paper" zDa oc29 od29 kV29 dc29 pm29 an29 cd29 ct29 sl29) (c29:PySem.W.codeIn K cd29 "show_paper"=true) (k29:PySem.W.keepIn K (.ref f29)=true)
  (a30:PySem.W.nsIn K mainGlobals "law"=some (some (.ref f30))) (l30:K.lookup f30=FO "law" zJv oc30 od30 kV30 dc30 pm30 an30 cd30 ct30 sl30) (c30:PySem.W.codeIn K cd30 "law"=true) (k30:PySem.W.keepIn K (.ref f30)=true)
  (z0:PySem.W.nsIn K mainGlobals "abs"=some none)
  (z1:PySem.W.nsIn K mainGlobals "all"=some none)
  (z2:PySem.W.nsIn K mainGlobals "bool"=some none)
  (z3:PySem.W.nsIn K mainGlobals "enumerate"=some none)
  (z4:PySem.W.nsIn K mainGlobals "int"=some none)
  (z5:PySem.W.nsIn K mainGlobals "isinstance"=some none)
  (z6:PySem.W.nsIn K mainGlobals "len"=some none)
  (z7:PySem.W.nsIn K mainGlobals "list"=some none)
  (z8:PySem.W.nsIn K mainGlobals "max"=some none)
  (z9:PySem.W.nsIn K mainGlobals "min"=some none)
  (z10:PySem.W.nsIn K mainGlobals "range"=some none)
  (z11:PySem.W.nsIn K mainGlobals "str"=some none)
  (z12:PySem.W.nsIn K mainGlobals "tuple"=some none)
  (z13:PySem.W.nsIn K mainGlobals "zip"=some none)
  {tk0:Tok}(e0:PySem.W.nsIn K mainGlobals "HEALS"=some (some (.str (Str.ofString "heals") tk0)))
  {tk1:Tok}(e1:PySem.W.nsIn K mainGlobals "LEAST_RING"=some (some (.int 3 tk1)))
  {tk2:Tok}(e2:PySem.W.nsIn K mainGlobals "LIVES"=some (some (.str (Str.ofString "lives") tk2)))
  {tk3:Tok}(e3:PySem.W.nsIn K mainGlobals "MOST_FIGURES"=some (some (.int 40 tk3)))
  {tk4:Tok}(e4:PySem.W.nsIn K mainGlobals "STROKE"=some (some (.str (Str.ofString " | ") tk4)))
  : ∃fd:FuncData,(∀(s:Shared) (v:Value),BindsTo s fd ⟨[v],[]⟩ [("_law_script",v)])/\∀base:Heap,K.In base->base.Ns mainGlobals mg->FnOk l.prog w K mg base CX0 8 fa fd ["_law_script"] (spOf K XE0 DP.zNb):=by
 have e:=hfa.symm.trans (xp X G a30)
 cases e
 have T:Txt K mg:=⟨xV X G z0,xV X G z1,xV X G z2,xV X G z3,xV X G z4,xV X G z5,xV X G z6,xV X G z7,xV X G z8,xV X G z9,xV X G z10,xV X G z11,xV X G z12,xV X G z13,⟨_,xp X G e0,⟨_,rfl⟩⟩,⟨_,xp X G e1,⟨_,rfl⟩⟩,⟨_,xp X G e2,⟨_,rfl⟩⟩,⟨_,xp X G e3,⟨_,rfl⟩⟩,⟨_,xp X G e4,⟨_,rfl⟩⟩⟩
 have F0:=zB2 (st:=zC7) l0 c0 k0
 have F1:=zB2 (st:=zD2) l1 c1 k1
 have F2:=zB2 (st:=zB6) l2 c2 k2
 have F3:=zB2 (st:=zBm) l3 c3 k3
 have F4:=zB2 (st:=zE0) l4 c4 k4
 have F5:=zB2 (st:=zDz) l5 c5 k5
 have F6:=zB2 (st:=zDd) l6 c6 k6
 have F7:=zB2 (st:=zCw) l7 c7 k7
 have F8:=zB2 (st:=zD3) l8 c8 k8
 have F9:=zB2 (st:=zBn) l9 c9 k9
 have F10:=zB2 (st:=zBp) l10 c10 k10
 have F11:=zB2 (st:=zCf) l11 c11 k11
 have F12:=zB2 (st:=zCv) l12 c12 k12
 have F13:=zB2 (st:=zCa) l13 c13 k13
 have F14:=zB2 (st:=zBx) l14 c14 k14
 have F15:=zB2 (st:=zDq) l15 c15 k15
 have F16:=zB2 (st:=zDp) l16 c16 k16
 have F17:=zB2 (st:=zE1) l17 c17 k17
 have F18:=zB2 (st:=zCg) l18 c18 k18
 have F19:=zB2 (st:=zC4) l19 c19 k19
 have F20:=zB2 (st:=zCe) l20 c20 k20
 have F21:=zB2 (st:=zFm) l21 c21 k21
 have F22:=zB2 (st:=zCz) l22 c22 k22
 have F23:=zB2 (st:=zCp) l23 c23 k23
 have F24:=zB2 (st:=zCo) l24 c24 k24
 have F25:=zB2 (st:=zDc) l25 c25 k25
 have F26:=zB2 (st:=zBd) l26 c26 k26
 have F27:=zB2 (st:=zCd) l27 c27 k27
 have F28:=zB2 (st:=zDb) l28 c28 k28
 have F29:=zB2 (st:=zDa) l29 c29 k29
 have F30:=zB2 (st:=zJv) l30 c30 k30
 refine⟨PySem.W.fnOf "law" "law" (zG5 zJv) (zE3 zJv) (zA6 zJv) .none kV30 dc30 pm30 an30 cd30 ct30,fun s v=>.of_eq rfl,fun base _ _=>?_⟩
 have C_common_divisor:zEd l.prog w K mg base:=⟨_,_,zFz F0 T,xp X G a0,F0.kp,F0.binds (ps:=["one","other"]) fun _ _ _ _ _ _ us hl=>by obtain⟨_,_,rfl⟩:=len2 hl;rfl⟩
 have C_is_number:zFj l.prog w K mg base:=⟨_,_,zK2 F1 T,xp X G a1,F1.kp,F1.binds (ps:=["text","figures"]) fun _ _ _ _ _ _ us hl=>by obtain⟨_,_,rfl⟩:=len2 hl;rfl⟩
 have C_ahead_of_strokes:zDh l.prog w K mg base:=⟨_,_,zFd F2 T,xp X G a2,F2.kp,F2.binds (ps:=["pairs"]) fun _ _ _ _ _ _ us hl=>by obtain⟨_,rfl⟩:=len1 hl;rfl⟩
 have C_behind_strokes:zEe l.prog w K mg base:=⟨_,_,zG0 F3 T,xp X G a3,F3.kp,F3.binds (ps:=["pairs"]) fun _ _ _ _ _ _ us hl=>by obtain⟨_,rfl⟩:=len1 hl;rfl⟩
 have C__law_feed:zI5 l.prog w K mg base:=⟨_,_,zK6 F4 T,xp X G a4,F4.kp,F4.binds (ps:=["_law_script","_law_k"]) fun _ _ _ _ _ _ us hl=>by obtain⟨_,_,rfl⟩:=len2 hl;rfl⟩
 have C__law_take:zD8 l.prog w K mg base:=⟨_,_,zK4 F5 T,xp X G a5,F5.kp,F5.binds (ps:=["_law_feed_here","_law_many"]) fun _ _ _ _ _ _ us hl=>by obtain⟨_,_,rfl⟩:=len2 hl;rfl⟩
 have C__law_alike:zGu l.prog w K mg base:=⟨_,_,zJ9 F6 T,xp X G a6,F6.kp,F6.binds (ps:=["_law_found","_law_due"]) fun _ _ _ _ _ _ us hl=>by obtain⟨_,_,rfl⟩:=len2 hl;rfl⟩
 have C__law_common:zFy l.prog w K mg base:=⟨_,_,zIb F7 T,xp X G a7,F7.kp,F7.binds (ps:=["_law_one","_law_other"]) fun _ _ _ _ _ _ us hl=>by obtain⟨_,_,rfl⟩:=len2 hl;rfl⟩
 have C__law_said:zI4 l.prog w K mg base:=⟨_,_,zK5 F8 T,xp X G a8,F8.kp,F8.binds (ps:=["_law_cells"]) fun _ _ _ _ _ _ us hl=>by obtain⟨_,rfl⟩:=len1 hl;rfl⟩
 have C__law_is_handed:zEf l.prog w K mg base:=⟨_,_,zG1 F9 T,xp X G a9,F9.kp,F9.binds (ps:=["_law_paper_here"]) fun _ _ _ _ _ _ us hl=>by obtain⟨_,rfl⟩:=len1 hl;rfl⟩
 have C_show_number0:zFb l.prog w K mg base:=⟨_,_,zHj F14 T,xp X G a14,F14.kp,F14.binds (ps:=["number"]) fun _ _ _ _ _ _ us hl=>by obtain⟨_,rfl⟩:=len1 hl;rfl⟩
 have C_read_numbers:zDo l.prog w K mg base:=⟨_,_,zHk F10 T C_is_number,xp X G a10,F10.kp,F10.binds (ps:=n_7) fun _ _ _ _ _ _ us hl=>by obtain⟨_,_,_,rfl⟩:=len3 hl;rfl⟩
 have C_fraction_in:zFx l.prog w K mg base:=⟨_,_,zI9 F11 T C_common_divisor C_is_number,xp X G a11,F11.kp,F11.binds (ps:=["text"]) fun _ _ _ _ _ _ us hl=>by obtain⟨_,rfl⟩:=len1 hl;rfl⟩
 have C__law_number:zE7 l.prog w K mg base:=⟨_,_,zIa F12 T C__law_take,xp X G a12,F12.kp,F12.binds (ps:=["_law_feed_here"]) fun _ _ _ _ _ _ us hl=>by obtain⟨_,rfl⟩:=len1 hl;rfl⟩
 have C__law_text:zI3 l.prog w K mg base:=⟨_,_,zK3 F13 T C__law_said,xp X G a13,F13.kp,F13.binds (ps:=["_law_paper_here"]) fun _ _ _ _ _ _ us hl=>by obtain⟨_,rfl⟩:=len1 hl;rfl⟩
 have C_show_number1:zFa l.prog w K mg base:=⟨_,_,zHi F14 T C_show_number0,xp X G a14,F14.kp,F14.binds (ps:=["number"]) fun _ _ _ _ _ _ us hl=>by obtain⟨_,rfl⟩:=len1 hl;rfl⟩
 have C_show_number:zE6 l.prog w K mg base:=⟨_,_,zI8 F14 T C_show_number1,xp X G a14,F14.kp,F14.binds (ps:=["number"]) fun _ _ _ _ _ _ us hl=>by obtain⟨_,rfl⟩:=len1 hl;rfl⟩
 have C_cells_in:zGa l.prog w K mg base:=⟨_,_,zL8 F15 T C_read_numbers,xp X G a15,F15.kp,F15.binds (ps:=["text"]) fun _ _ _ _ _ _ us hl=>by obtain⟨_,rfl⟩:=len1 hl;rfl⟩
 have C_point_in:zIr l.prog w K mg base:=⟨_,_,zL7 F16 T C_fraction_in,xp X G a16,F16.kp,F16.binds (ps:=["row"]) fun _ _ _ _ _ _ us hl=>by obtain⟨_,rfl⟩:=len1 hl;rfl⟩
 have C__law_cell:zFk l.prog w K mg base:=⟨_,_,zK7 F17 T C__law_number,xp X G a17,F17.kp,F17.binds (ps:=["_law_feed_here"]) fun _ _ _ _ _ _ us hl=>by obtain⟨_,rfl⟩:=len1 hl;rfl⟩
 have C__law_fraction:zEt l.prog w K mg base:=⟨_,_,zGx F18 T C__law_number C__law_common C__law_take,xp X G a18,F18.kp,F18.binds (ps:=["_law_feed_here"]) fun _ _ _ _ _ _ us hl=>by obtain⟨_,rfl⟩:=len1 hl;rfl⟩
 have C_show_numbers:zDn l.prog w K mg base:=⟨_,_,zHh F19 T C_show_number,xp X G a19,F19.kp,F19.binds (ps:=["numbers"]) fun _ _ _ _ _ _ us hl=>by obtain⟨_,rfl⟩:=len1 hl;rfl⟩
 have C_show_fraction:zEr l.prog w K mg base:=⟨_,_,zGw F20 T C_show_number,xp X G a20,F20.kp,F20.binds (ps:=["one"]) fun _ _ _ _ _ _ us hl=>by obtain⟨_,rfl⟩:=len1 hl;rfl⟩
 have C_pair_in:zKx l.prog w K mg base:=⟨_,_,zN2 F21 T C_read_numbers C_cells_in,xp X G a21,F21.kp,F21.binds (ps:=["row"]) fun _ _ _ _ _ _ us hl=>by obtain⟨_,rfl⟩:=len1 hl;rfl⟩
 have C__law_row:zIs l.prog w K mg base:=⟨_,_,zL9 F22 T C__law_take C__law_cell,xp X G a22,F22.kp,F22.binds (ps:=["_law_feed_here"]) fun _ _ _ _ _ _ us hl=>by obtain⟨_,rfl⟩:=len1 hl;rfl⟩
 have C_show_cells:zEs l.prog w K mg base:=⟨_,_,zJ5 F23 T C_show_numbers,xp X G a23,F23.kp,F23.binds (ps:=["cells"]) fun _ _ _ _ _ _ us hl=>by obtain⟨_,rfl⟩:=len1 hl;rfl⟩
 have C_show_point:zGp l.prog w K mg base:=⟨_,_,zJ3 F24 T C_show_fraction,xp X G a24,F24.kp,F24.binds (ps:=["point"]) fun _ _ _ _ _ _ us hl=>by obtain⟨_,rfl⟩:=len1 hl;rfl⟩
 have C_read_pairs:zGs l.prog w K mg base:=⟨_,_,zJ7 F25 T C_pair_in,xp X G a25,F25.kp,F25.binds (ps:=n_8) fun _ _ _ _ _ _ us hl=>by obtain⟨_,_,_,rfl⟩:=len3 hl;rfl⟩
 have C__law_paper:zGt l.prog w K mg base:=⟨_,_,zJ8 F26 T C__law_take C__law_fraction C__law_cell C__law_row,xp X G a26,F26.kp,F26.binds (ps:=["_law_feed_here"]) fun _ _ _ _ _ _ us hl=>by obtain⟨_,rfl⟩:=len1 hl;rfl⟩
 have C_shown_pairs:zFw l.prog w K mg base:=⟨_,_,zI7 F27 T C_show_cells C_show_numbers,xp X G a27,F27.kp,F27.binds (ps:=["heads","rows"]) fun _ _ _ _ _ _ us hl=>by obtain⟨_,_,rfl⟩:=len2 hl;rfl⟩
 have C_read_paper:zGr l.prog w K mg base:=⟨_,_,zJ6 F28 T C_point_in C_read_pairs C_cells_in C_behind_strokes C_ahead_of_strokes,xp X G a28,F28.kp,F28.binds (ps:=["text"]) fun _ _ _ _ _ _ us hl=>by obtain⟨_,rfl⟩:=len1 hl;rfl⟩
 have C_show_paper:zGq l.prog w K mg base:=⟨_,_,zJ4 F29 T C_shown_pairs C_show_cells C_show_point,xp X G a29,F29.kp,F29.binds (ps:=["paper"]) fun _ _ _ _ _ _ us hl=>by obtain⟨_,rfl⟩:=len1 hl;rfl⟩
 exact zWz F30 T C__law_paper C__law_text C__law_feed C__law_is_handed C_read_paper C__law_alike C_show_paper
theorem walk {l:PySem.W.OpenLaw}{q:Program}{loose:List Str}{XP:(Str->Option Value)->Heap->Prop}{YP:World->Heap->Prop}{d:DefRec}{K:Params->PySem.W.Frag}(hn:l.most=some 63) (hdf:d.params.defaults=[])
  (hY:∀(w:World) (h:Heap),YP w h->(K w.params).In h)
  (F:∀(w:World) (mg:Str->Option Value) (fa:Addr) (h:Heap),(K w.params).In h->h.Ns mainGlobals mg->mg d.name=some (.ref fa)->
   ∃fd:FuncData,(∀(s:Shared) (u:Value),BindsTo s fd ⟨[u],[]⟩ [("_law_script",u)])/\∀base:Heap,(K w.params).In base->base.Ns mainGlobals mg->FnOk l.prog w (K w.params) mg base CX0 8 fa fd ["_law_script"] (spOf (K w.params) XE0 DP.zNb)):
  PySem.W.WalkO q loose XP YP l.row.toRowW d [] (fun f vs=>PySem.call f vs):=
 L2.zT0 (n:=63) (k:=8) (x:="_law_script") (CX:=fun _=>CX0) (sp:=fun w=>spOf (K w.params) XE0 DP.zNb) hn (by decide) hdf ⟨rfl,by decide,by decide⟩ hY F (fun _ _ a ns hl _ hS=>zNw (DP.law_ok ns hl) hS) fun _ _ _ _ _ z=>z
end Law
open PySem PySem.W PyProof.Rows
set_option maxRecDepth 100000 in
theorem PySem.Challenge.cw_healfloor_k93_papers_written_and_read_holds : PySem.Challenge.rw_healfloor_k93_papers_written_and_read.Holds := by
 w_on;o_law;k_head;(case hw=>w_witness2)
 k_fill
 refine Law.walk (l:=PySem.Challenge.rw_healfloor_k93_papers_written_and_read) rfl rfl (fun w h Y=>PySem.W.kIn_of Y) ?F
 case F=>
  intro w mg fa h KX G hmg
  refine' Law.all_mk KX G hmg ?_ ?_ ?_ ?_ ?_ ?_ ?_ ?_ ?_ ?_ ?_ ?_ ?_ ?_ ?_ ?_ ?_ ?_ ?_ ?_ ?_ ?_ ?_ ?_ ?_ ?_ ?_ ?_ ?_ ?_ ?_ ?_ ?_ ?_ ?_ ?_ ?_ ?_ ?_ ?_ ?_ ?_ ?_ ?_ ?_ ?_ ?_ ?_ ?_ ?_ ?_ ?_ ?_ ?_ ?_ ?_ ?_ ?_ ?_ ?_ ?_ ?_ ?_ ?_ ?_ ?_ ?_ ?_ ?_ ?_ ?_ ?_ ?_ ?_ ?_ ?_ ?_ ?_ ?_ ?_ ?_ ?_ ?_ ?_ ?_ ?_ ?_ ?_ ?_ ?_ ?_ ?_ ?_ ?_ ?_ ?_ ?_ ?_ ?_ ?_ ?_ ?_ ?_ ?_ ?_ ?_ ?_ ?_ ?_ ?_ ?_ ?_ ?_ ?_ ?_ ?_ ?_ ?_ ?_ ?_ ?_ ?_ ?_ ?_ ?_ ?_ ?_ ?_ ?_ ?_ ?_ ?_ ?_ ?_ ?_ ?_ ?_ ?_ ?_ ?_ ?_ ?_ ?_
  all_goals (try k_is)
#print axioms PySem.Challenge.cw_healfloor_k93_papers_written_and_read_holds
